import PyProof.Rows.All
import Wide.All
import OpenK.AllK
import Wide.FinOn
import Lean
import PyProof.EqAt
import PyProof.EqKinds
import PyProof.TupleCall
import PyProof.NeKinds
import PySem.Challenge.RW_pressluck_k78_steps_refused
set_option Elab.async false
set_option linter.all false
set_option maxRecDepth 100000
set_option compiler.extract_closed false
local macro_rules | `(∅) => `(by exact of_decide_eq_true (by kernel_rfl))
open List renaming length_map->ZA,map_cons->ZC,getElem?_map->ZE,size_toArray->ZF,map_append->ZG,getElem?_eq_getElem->ZH,mem_cons_of_mem->ZI,length_append->ZJ,mem_cons_self->ZL,length_cons->ZP,take_of_length_le->ZQ,mem_of_getElem?->ZS,length_take->ZV,getElem_mem->ZY,lookup_cons->ZZ,mem_append_right->Z0,map_map->Z1,take_add_one->Z2,set_cons_zero->Z3,set_cons_succ->Z4,map_nil->Z7,length_range->Z9,append_nil->aab,lookup_cons_self->aac,filterMap_cons->aad,cons_append->aae,getD_eq_getElem?_getD->aai,mem_cons->aaj,length_singleton->aao,length_nil->aap,length_zip->aaq,mem_append_left->aat,filterMap_append->aau,getElem?_append_right->aav,replicate_succ->aaw,mem_of_find?_eq_some->aax,getElem?_append_left->aaA,getElem?_eq_some_iff->aaI,mem_map->aaJ,mem_singleton->aaK,replicate->aaO
open Nat renaming le_refl->ZD,ne_of_lt->ZK,zero_le->ZM,le_trans->ZN,lt_of_lt_of_le->ZR,lt_irrefl->Z6,lt_succ_self->aan
open Bool renaming false_ne_true->ZO,and_eq_true->Z8
open PySem renaming boot_len->ZT,mem_of_lookup->aah,Str.ofString->Zz,Heap.get?_push_of_some->aaL,Heap.get?_push_size->aaM,Heap.lt_size->aaN
open Option.some renaming inj->ZU
open PySem.W renaming mg_of->ZW,mg_none_of->aaa,kia_one->aag,Frag->aaB,keepIn->aaC,codeIn->aaD,fnOf->aaE,nsIn->aaF,findIn->aaG
open Int renaming toNat_natCast->ZX,natCast_mul->aaf,emod_nonneg->aak,zero_add->aal,emod_lt_of_pos->aay
open PySem.F renaming plainAttrs_list->Z5,slot_list_append->aar,type_list_append->aas
open Array renaming length_toList->aam
open PyProof.Rows renaming callWith_type1->aaz
open Option renaming map_eq_some_iff->aaH
namespace Hd
open PySem PySem.W PyProof.Rows
noncomputable def xu (ok:Thread->Bool) (st:SharedT->Thread->Option (SharedT×Thread)) (n:Nat):SharedT->Thread->Option SharedT:=
 @Nat.rec (λ_=>SharedT->Thread->Option SharedT) (λ_ _=>none)
  (λ_ ih s t=>@Bool.rec (λ_=>Option SharedT) (@Bool.rec (λ_=>Option SharedT) none (@Option.rec (SharedT×Thread) (λ_=>Option SharedT) none (λr=>@Prod.rec _ _ (λ_=>Option SharedT) (λa b=>ih a b) r) (st s t)) (ok t)) (some s) (through t)) n
theorem qT {tb:String->Option Builtin} {p:Program} {w:World} {n₀:Nat} {ann:Option Value}:∀(n:Nat) (s:SharedT) (t:Thread) (s':SharedT),xu (stepOk n₀ ann) (stepT (denote tb) p w) n s t=some s'->topRun tb p w n₀ ann n s.abs t=some s'.abs
 | 0,_,_,_,h=>by cases h
 | n+1,s,t,s',h=>by
  unfold topRun
  replace h:@Bool.rec (λ_=>Option SharedT) (@Bool.rec (λ_=>Option SharedT) none (@Option.rec (SharedT×Thread) (λ_=>Option SharedT) none (λr=>@Prod.rec _ _ (λ_=>Option SharedT) (λa b=>xu (stepOk n₀ ann) (stepT (denote tb) p w) n a b) r) (stepT (denote tb) p w s t)) (stepOk n₀ ann t)) (some s) (through t)=some s':=h
  cases ht:through t with
  | true=>rw[ht] at h;cases h;rfl
  | false=>
   rw[ht] at h;cases hk:stepOk n₀ ann t with
   | false=>rw[hk] at h;cases h
   | true=>
    rw[hk] at h;cases hs:stepT (denote tb) p w s t with
    | none=>rw[hs] at h;cases h
    | some r=>obtain⟨s₂,t₂⟩:=r;rw[hs] at h;rw[stepT_spec hs];exact qT n s₂ t₂ s' h
noncomputable def bt (P:Params):BT:=((boot_heap P).objs.toList.foldl (fun(x:BT×Nat) o=>(x.1.ins x.2 o,x.2+1)) (.nil,0)).1
noncomputable def A1 (w:World) (os:OsState):SharedT:=⟨bt w.params,11,{},Array.mk [],boot_drawn,boot_toks,os⟩
theorem B6 (w:World) (os:OsState):(A1 w os).abs=⟨boot_heap w.params,Array.mk [],boot_drawn,boot_toks,os⟩:=by kernel_rfl
theorem zp (w:World):((boot_heap w.params).isNs mainGlobals && (Array.mk []:Array GenState).size==0,(boot_heap w.params).objs.size,(boot_heap w.params).nsMap mainGlobals "__annotations__")=(true,11,some (.ref 6)):=by kernel_rfl
theorem Dj {p q:Program} {loose:List Str} {Xt:Shared->Bool} {α:Type} {Yf:Shared->α} {Ya:World->α} {N:Nat} {g0:Bool}
  (Mx:∀w:World,(fencedOpening treeTable p w N).map (λs=>(s.heap,s.gens,s.drawn,s.toks))=some (boot_heap w.params,Array.mk [],boot_drawn,boot_toks))
  (run:∀(w:World) (os:OsState),(xu (stepOk 11 (some (.ref 6))) (stepT (denote treeTable) p w) N (A1 w os) (topStub p)).map (λs=>((staticsOk (importedModules p.main.body) (boot_heap w.params) s.abs.heap && namesBound p s.abs.heap && gensDone s.abs && laidKept (boot_heap w.params) s.abs.heap),openSeen q loose (importedModules p.main.body) Xt g0 s.abs,Yf s.abs))=some (true,openGood q loose,Ya w)):
  LeftO p q loose Xt Yf Ya N g0:=λw=>by
 obtain⟨⟨h,gs,d,k,os⟩,e,e'⟩:=aaH.mp (Mx w);obtain⟨rfl,rfl,rfl,rfl⟩:h=boot_heap w.params/\gs=Array.mk []/\d=boot_drawn/\k=boot_toks:=by simpa using e'
 obtain⟨z1,z2,z3⟩:_/\_/\_:=by simpa only[Prod.mk.injEq] using zp w
 obtain⟨s,r,l⟩:=aaH.mp (run w os);obtain⟨l1,l2,l3⟩:_/\_/\_:=by simpa only[Prod.mk.injEq] using l
 have r:=qT _ _ _ _ r;rw[B6] at r;have t:topFrom treeTable p w N ⟨boot_heap w.params,Array.mk [],boot_drawn,boot_toks,os⟩=some s.abs:=by
  unfold topFrom;dsimp only;rw[z1,z2,z3,r];show(match staticsOk (importedModules p.main.body) (boot_heap w.params) s.abs.heap && namesBound p s.abs.heap && gensDone s.abs && laidKept (boot_heap w.params) s.abs.heap with | true=>_ | false=>_)=_;rw[l1]
 unfold openEnds;rw[e];show((topFrom treeTable p w N ⟨boot_heap w.params,Array.mk [],boot_drawn,boot_toks,os⟩)).map _=_;rw[t];show some (_,_)=_;rw[l2,l3]
noncomputable def Runs (p q:Program) (loose:List Str) (Xt:Shared->Bool) {α:Type} (Yf:Shared->α) (Ya:World->α) (N:Nat) (g0:Bool) (w:World):Prop:=
 ∀os:OsState,(xu (PySem.W.Fast.tw6613529449190102663 11 (some (.ref 6))) (PySem.W.Fast.tw10156331382660048174 (PySem.W.Fast.tw11892475500146522536 PySem.W.Fast.tw14364793385576792824) p w) N (A1 w os) (topStub p)).map (λs=>((staticsOk (importedModules p.main.body) (boot_heap w.params) s.abs.heap && namesBound p s.abs.heap && gensDone s.abs && laidKept (boot_heap w.params) s.abs.heap),PySem.W.Fast.tw4187177175401517315 q loose (importedModules p.main.body) Xt g0 s.abs,Yf s.abs))=some (true,openGood q loose,Ya w)
theorem B7 {p q:Program} {loose:List Str} {Xt:Shared->Bool} {α:Type} {Yf:Shared->α} {Ya:World->α} {N:Nat} {g0:Bool}
  (e:opening p=plainProg p.main.scope.names) (hN:Nat.ble 600 N=true) (f:∀s,fenceModules? p s=some s)
  (run:∀w:World,Runs p q loose Xt Yf Ya N g0 w):
  LeftO p q loose Xt Yf Ya N g0:=by
 refine Dj (boot_open e hN f) ?_;unfold Runs at run;rw[PySem.W.Fast.te6613529449190102663,PySem.W.Fast.te10156331382660048174,PySem.W.Fast.te11892475500146522536,PySem.W.Fast.te14364793385576792824,PySem.W.Fast.te4187177175401517315];exact run
noncomputable def rb (p:Program) (N:Nat) (w:World) (os:OsState):Option SharedT:=xu (PySem.W.Fast.tw6613529449190102663 11 (some (.ref 6))) (PySem.W.Fast.tw10156331382660048174 (PySem.W.Fast.tw11892475500146522536 PySem.W.Fast.tw14364793385576792824) p w) N (A1 w os) (topStub p)
noncomputable def My (p:Program) (N:Nat) (w:World):Prop:=∀os:OsState,(rb p N w os).map (λs=>(staticsOk (importedModules p.main.body) (boot_heap w.params) s.abs.heap && namesBound p s.abs.heap && gensDone s.abs && laidKept (boot_heap w.params) s.abs.heap))=some true
noncomputable def Mz (p q:Program) (loose:List Str) (Xt:Shared->Bool) (N:Nat) (g0:Bool) (w:World):Prop:=∀os:OsState,(rb p N w os).map (λs=>PySem.W.Fast.tw4187177175401517315 q loose (importedModules p.main.body) Xt g0 s.abs)=some (openGood q loose)
noncomputable def MA (p:Program) {α:Type} (Yf:Shared->α) (Ya:World->α) (N:Nat) (w:World):Prop:=∀os:OsState,(rb p N w os).map (λs=>Yf s.abs)=some (Ya w)
theorem MB {p q:Program} {loose:List Str} {Xt:Shared->Bool} {α:Type} {Yf:Shared->α} {Ya:World->α} {N:Nat} {g0:Bool} {w:World} (a:My p N w) (b:Mz p q loose Xt N g0 w) (c:MA p Yf Ya N w):Runs p q loose Xt Yf Ya N g0 w:=λos=>by
 obtain⟨s,r,l⟩:=aaH.mp (a os);have b:=b os;have c:=c os;rw[r] at b c;have l2:PySem.W.Fast.tw4187177175401517315 q loose (importedModules p.main.body) Xt g0 s.abs=openGood q loose:=ZU b;have l3:Yf s.abs=Ya w:=ZU c;show(rb p N w os).map _=_;rw[r];show some (_,_,_)=_;rw[l,l2,l3]
end Hd
namespace K78
open PySem PySem.Spec PyProof.Rows
noncomputable def top (i:Nat):Stmt:=PySem.Challenge.pw_pressluck_k78_steps_refused.main.body.getD i (.Pass ⟨0,0,0,0⟩)
end K78
section PK
open PySem PySem.W PyProof.Rows
local macro_rules | `(tactic| o_head $H) => `(tactic| (refine (fun (_ : PySem.W.Hook) => ?_) $H; assumption))
theorem K78.pre (h:PySem.W.OpenRow.Holds (PySem.W.OpenLaw.row PySem.Challenge.rw_pressluck_k78_steps_refused)):PySem.W.OpenRow.Holds (PySem.W.OpenLaw.row PySem.Challenge.rw_pressluck_k78_steps_refused):=by
 k_head
noncomputable def K78.Ga:List Addr:=[2,3,15,22,23,24,25,28,35,36,37,40,47,48,49,52,59,61,62,64,65,66,67,68,71,78,79,80,83,90,91,92,95,102,103,104,107,114,115,116,119,126,127,128,131,138,139,140,143,150,151,152,155,157,158,160,161,162,164,165,167,168,169,171,172,174,175,176,178,179,181,182,183,186,187,188,190,191,193,194,195,197,198,200,201,202,204,205,207,208,209,211,212,214,215,216,218,219,221,222,223,225,226,228,229,230,233,234,235,238,239,240,243,244,245,247,248,250,251,252,255,256,257,259,260,262,263,264,267,268,269,272,273,274,277,278,279,282,283,284,286,287,289,290,298,300,301,303,304,305,307,308,310,311,312,314,315,317,318,319,321,322,324,325,326,328,329,331,332,333,335,336,338,339,340,342,343,345,346,347,350,351,352,354,355,357,358,359,361,362,364,365,366,369,370,371,374,375,376,378,379,381,382,383,384,385,386,387,397,399,400,402,403,404,406,407,409,410,411,413,414,416,417,418,421,422,423,425,426,428,429,430,433,434,435,437,438,440,441,442,444,445,447,448,449,452,453,454,455,456,457,458,461,463,464,466,467,468,470,471,473,474,475,477,478,480,481,482,484,485,487,488,496,498,499,501,502,503,506,507,508,510,511,513,514,515,517,518,520,521,522,525,526,527,529,530,532,533,534,537,538,539,542,543,544,546,547,549,550,551,554,555,556,558,559,561,562,563,566,567,568,571,572,573,575,576,578,579,580,582,583,585,586,587,590,591,592,594,595,597,598,599,601,602,604,605,606,609,610]
theorem K78.Gv (P:PySem.Params):K78.Ga=(K78.pre.heap_1 P).map (·.1):=by kernel_rfl
noncomputable def K78.vw:PySem.Program:={PySem.Challenge.pw_pressluck_k78_steps_refused with main:={PySem.Challenge.pw_pressluck_k78_steps_refused.main with body:=[K78.top 1,K78.top 2,K78.top 3,K78.top 4,K78.top 5,K78.top 6,K78.top 7,K78.top 8,K78.top 9,K78.top 10,K78.top 11,K78.top 13,K78.top 14,K78.top 15,K78.top 16,K78.top 18,K78.top 19,K78.top 21,K78.top 22,K78.top 23,K78.top 24,K78.top 25,K78.top 26,K78.top 27,K78.top 28,K78.top 29,K78.top 30,K78.top 31,K78.top 32,K78.top 33,K78.top 34,K78.top 35,K78.top 36,K78.top 38,K78.top 39,K78.top 40,K78.top 42,K78.top 43,K78.top 45,K78.top 46,K78.top 47,K78.top 48,K78.top 49,K78.top 50,K78.top 51,K78.top 52,K78.top 53,K78.top 54,K78.top 55,K78.top 56,K78.top 57,K78.top 58,K78.top 59,K78.top 60,K78.top 61,K78.top 62,K78.top 63,K78.top 64,K78.top 65,K78.top 66,K78.top 67,K78.top 68]}}
set_option maxHeartbeats 0 in
theorem K78.MC:PySem.Challenge.rw_pressluck_k78_steps_refused.wellSaid=true:=by
 unfold OpenLaw.wellSaid OpenRow.wellSaid OpenRow.partSaid looksOpen
 with_reducible repeat' refine look_both ?_ ?_
 all_goals decide (config:={kernel:=true})
theorem K78.PL (w:World):Hd.My (RowW.prog (OpenRow.toRowW (PySem.W.OpenLaw.row PySem.Challenge.rw_pressluck_k78_steps_refused))) 9894 w:=λos=>by kernel_rfl
theorem K78.PM (w:World):Hd.Mz (RowW.prog (OpenRow.toRowW (PySem.W.OpenLaw.row PySem.Challenge.rw_pressluck_k78_steps_refused))) K78.vw [] (λs=>xlAt K78.vw [] s && recOk (RowW.records (OpenRow.toRowW (PySem.W.OpenLaw.row PySem.Challenge.rw_pressluck_k78_steps_refused))) s) 9894 true w:=λos=>by kernel_rfl
theorem K78.runC (w:World):Hd.MA (RowW.prog (OpenRow.toRowW (PySem.W.OpenLaw.row PySem.Challenge.rw_pressluck_k78_steps_refused))) (Hook.obs (kHook K78.pre.heap_1 K78.Ga K78.Gv)) (Hook.val (kHook K78.pre.heap_1 K78.Ga K78.Gv)) 9894 w:=λos=>by kernel_rfl
theorem K78.run (w:World):Hd.Runs (RowW.prog (OpenRow.toRowW (PySem.W.OpenLaw.row PySem.Challenge.rw_pressluck_k78_steps_refused))) K78.vw [] (λs=>xlAt K78.vw [] s && recOk (RowW.records (OpenRow.toRowW (PySem.W.OpenLaw.row PySem.Challenge.rw_pressluck_k78_steps_refused))) s) (Hook.obs (kHook K78.pre.heap_1 K78.Ga K78.Gv)) (Hook.val (kHook K78.pre.heap_1 K78.Ga K78.Gv)) 9894 true w:=Hd.MB (K78.PL w) (K78.PM w) (K78.runC w)
end PK
set_option tactic.hygienic false
set_option hygiene false in
local macro_rules | `(tactic| symm) => `(tactic| (refine (?_ : let G_ : Prop := _; G_); intro G_))
set_option hygiene false in
local macro_rules | `(tactic| nofun) => `(tactic| dsimp only [G_])
namespace L2
open PySem PySem.Spec PyProof.Rows
abbrev Key:=Sum Int Str
noncomputable def qU:Key->Value->Bool
 | .inl k,v=>Value.isInt k v
 | .inr x,v=>Value.isStrOf x v
noncomputable def Jx (w:World):Key->Int
 | .inl k=>hashInt k
 | .inr x=>hashStr w x
theorem cL:∀{k:Key} {v:Value},qU k v=true->(∃i t,k=Sum.inl i/\v=Value.int i t)\/(∃x t,k=Sum.inr x/\v=Value.str x t)
 | .inl i,v,h=>by
  obtain⟨t,e⟩:=Value.isInt_shape (k:=i) (v:=v) h;exact .inl ⟨i,t,rfl,e⟩
 | .inr x,v,h=>by
  obtain⟨t,e⟩:=Value.isStrOf_shape (x:=x) (v:=v) h;exact .inr ⟨x,t,rfl,e⟩
theorem B8 (i:Int) (t:Tok):qU (.inl i) (.int i t)=true:=by simp [qU,Value.isInt]
theorem B9 (x:Str) (t:Tok):qU (.inr x) (.str x t)=true:=by simp [qU,Value.isStrOf]
theorem Jy (a b:Int):decide ((Sum.inl a:Key)=Sum.inl b)=(a==b):=by
 by_cases e:a=b
 ·subst e;simp
 ·have h:¬(Sum.inl a:Key)=Sum.inl b:=λq=>e (Sum.inl.inj q);rw[decide_eq_false h];exact(beq_eq_false_iff_ne.mpr e).symm
theorem Jz (a b:Str):decide ((Sum.inr a:Key)=Sum.inr b)=decide (a=b):=by
 by_cases e:a=b
 ·subst e;simp
 ·have h:¬(Sum.inr a:Key)=Sum.inr b:=λq=>e (Sum.inr.inj q);rw[decide_eq_false h,decide_eq_false e]
theorem JA (a:Int) (b:Str):decide ((Sum.inl a:Key)=Sum.inr b)=false:=decide_eq_false (λq=>nomatch q)
theorem JB (a:Str) (b:Int):decide ((Sum.inr a:Key)=Sum.inl b)=false:=decide_eq_false (λq=>nomatch q)
noncomputable def cF (prog:Program) (w:World):PySem.KeyKind prog w Key where
 is:=qU
 hash:=Jx w
 inj:=λv a b ha hb=>by
  rcases cL ha with ⟨i,t,rfl,rfl⟩ | ⟨x,t,rfl,rfl⟩
  ·rcases cL hb with ⟨j,u,rfl,e⟩ | ⟨y,u,rfl,e⟩
   ·injection e with e1 _;rw[e1]
   ·exact nomatch e
  ·rcases cL hb with ⟨j,u,rfl,e⟩ | ⟨y,u,rfl,e⟩
   ·exact nomatch e
   ·injection e with e1 _;rw[e1]
 byValue:=λk v h=>by
  rcases cL h with ⟨i,t,rfl,rfl⟩ | ⟨x,t,rfl,rfl⟩ <;>rfl
 pyHash:=λhv h=>by
  rcases cL hv with ⟨i,t,rfl,rfl⟩ | ⟨x,t,rfl,rfl⟩
  ·exact wpAny_pyHash_int h
  ·exact wpAny_pyHash_str h
 eqBool:=λhu hv h=>by
  rcases cL hu with ⟨i,t,rfl,rfl⟩ | ⟨x,t,rfl,rfl⟩
  ·rcases cL hv with ⟨j,u,rfl,rfl⟩ | ⟨y,u,rfl,rfl⟩
   ·rw[Jy] at h;exact wpAny_eqBool_int h
   ·rw[JA] at h;exact SeqAt.EqAt.int_str i t y u _ _ _ _ h
  ·rcases cL hv with ⟨j,u,rfl,rfl⟩ | ⟨y,u,rfl,rfl⟩
   ·rw[JB] at h;exact SeqAt.EqAt.str_int x t j u _ _ _ _ h
   ·rw[Jz] at h;exact wpAny_eqBool_str h
 «strs»:=λk x t v h=>by
  rcases cL h with ⟨i,u,rfl,e⟩ | ⟨y,u,rfl,e⟩
  ·exact nomatch e
  ·injection e with e1 _
   subst e1;cases v <;>rfl
theorem xv (prog:Program) (w:World) (i:Int) (t:Tok):(cF prog w).is (.inl i) (.int i t)=true:=B8 i t
theorem xw (prog:Program) (w:World) (x:Str) (t:Tok):(cF prog w).is (.inr x) (.str x t)=true:=B9 x t
end L2
namespace L2
open PySem PySem.Spec PyProof.Rows
inductive V where
 | cW | bl (b:Bool) | int (i:Int) | str (x:Str) | C8 (b:Array UInt8) | JC (b:UInt64) | ref (a:Addr) | ty (n:String)
 deriving DecidableEq
noncomputable def RelV:V->Value->Prop
 | .cW,u=>u=Value.none
 | .bl b,u=>u=Value.bool b
 | .int i,u=>∃t,u=Value.int i t
 | .str x,u=>∃t,u=Value.str x t
 | .C8 b,u=>∃t,u=Value.bytes b t
 | .JC b,u=>∃t,u=Value.float b t
 | .ref a,u=>u=Value.ref a
 | .ty n,u=>u=Value.type n
abbrev bC:List V->List Value->Prop:=Paired RelV
theorem bC.length {xs:List V} {us:List Value} (r:bC xs us):xs.length=us.length:=Paired.length r
theorem bC.get:∀{xs:List V} {us:List Value} {i:Nat} {x:V},bC xs us->xs[i]?=some x->∃u,us[i]?=some u/\RelV x u
 | _,_,_,_,.nil,e=>by simp at e
 | _,_,0,_,.cons r _,e=>by simp at e;subst e;exact⟨_,rfl,r⟩
 | _,_,i+1,x,.cons _ t,e=>by
  obtain⟨u,h1,h2⟩:=bC.get (i:=i) (x:=x) t (by simpa using e);exact⟨u,by simpa using h1,h2⟩
theorem bC.set {x:V} {u:Value} (r:RelV x u):∀{xs:List V} {us:List Value} (i:Nat),bC xs us->bC (xs.set i x) (us.set i u)
 | _,_,_,.nil=>.nil
 | _,_,0,.cons _ t=>.cons r t
 | _,_,i+1,.cons q t=>.cons q (bC.set r i t)
theorem bC.append:∀{xs ys:List V} {us ws:List Value},bC xs us->bC ys ws->bC (xs++ys) (us++ws)
 | _,_,_,_,.nil,s=>s
 | _,_,_,_,.cons r t,s=>.cons r (bC.append t s)
theorem bC.take:∀{xs:List V} {us:List Value} (n:Nat),bC xs us->bC (xs.take n) (us.take n)
 | _,_,0,_=>.nil
 | _,_,_+1,.nil=>.nil
 | _,_,n+1,.cons r t=>.cons r (bC.take n t)
theorem bC.drop:∀{xs:List V} {us:List Value} (n:Nat),bC xs us->bC (xs.drop n) (us.drop n)
 | _,_,0,r=>r
 | _,_,_+1,.nil=>.nil
 | _,_,n+1,.cons _ t=>bC.drop n t
noncomputable def iP:Option V->Option Value->Prop
 | some v,some u=>RelV v u
 | none,none=>True
 | _,_=>False
noncomputable def KV {κ:Type}:List (κ×V)->List (κ×Value)->Prop:=Paired fun(p:κ×V) (q:κ×Value)=>p.1=q.1/\RelV p.2 q.2
noncomputable def kV:Key->V
 | .inl i=>.int i
 | .inr x=>.str x
inductive HO where
 | lst (xs:List V)
 | tup (xs:List V)
 | dK (kvs:List (Key×V)) | dT (kvs:List (List Key×V))
 | set (S:Int->Bool) (n:Nat)
 | ins (C dx:Addr) (fs:List (Str×V))
 | own (x:Addr)
 | xd (fs:List (Str×V))
 | met (f x:Addr)
 | OJ (lo hi:Int)
 | xq (o:Obj) (u:HO)
 | Gb (ps:Array Value)
 | ext (φ:Heap->Prop)
abbrev Hp:=Addr->Option HO
noncomputable def upd (H:Hp) (a:Addr) (o:HO):Hp:=λb=>if b=a then some o else H b
theorem aj {H:Hp} {a:Addr} {o:HO}:upd H a o a=some o:=by unfold upd;rw[if_pos rfl]
theorem aw {H:Hp} {a b:Addr} {o:HO} (h:b≠a):upd H a o b=H b:=by unfold upd;rw[if_neg h]
theorem A2 {H:Hp} {a:Addr} {o u:HO}:upd (upd H a o) a u=upd H a u:=by
 funext b;unfold upd;split <;>rfl
theorem MD {H:Hp} {a b:Addr} {o u:HO} (h:H a=some o) (h':H b=some u) (d:o≠u):a≠b:=by
 intro e;subst e;rw[h] at h';exact d (ZU h')
theorem eN {H:Hp} {a b:Addr} {o:HO} (h:H a=some o) (h':H b=none):a≠b:=by
 intro e;subst e;rw[h] at h';cases h'
noncomputable def TabAt (H:Hp) (h:Heap) (a:Addr) (ps:Array Value):Prop:=∃mo:Array Value,h.get? a=some {cls:=.none,data:=.fields mo}/\
 (mo=#[]\/∃(l c:Value) (c1:Addr) (q:Str) (t:Tok),ps=#[l,c,.str q t]/\mo=#[l,c,.ref c1]/\H c1=some (.own a)/\h.CodeRec (.ref c1) q)
section
variable (P : Program) (w : World)
noncomputable def cD (H:Hp) (h:Heap) (a:Addr):HO->Prop
 | .lst xs=>xs.length<=sizeLine/\∃(bg:List Value) (n:Nat),bC xs bg/\h.get? a=some {cls:=.type "list",data:=.seq bg.toArray n}
 | .tup xs=>xs.length<=sizeLine/\∃bg:List Value,bC xs bg/\IsTup h a bg.toArray
 | .dK kvs=>kvs.length<=sizeLine/\(a==sysModules)=false/\∃vs,KV kvs vs/\h.DictOf (cF P w) a vs
 | .dT kvs=>kvs.length<=sizeLine/\(a==sysModules)=false/\∃xs:List (List Key×Addr×Value),
   Paired (fun(p:List Key×V) (q:List Key×Addr×Value)=>p.1=q.1/\H q.2.1=some (.tup (p.1.map kV))/\RelV p.2 q.2.2) kvs xs/\
   ∃o es ep,h.get? a=some o/\o.ExactDict/\o.data=.dict es ep/\es.toList=xs.map (entryOfKey (tupleKind (cF P w)))/\(xs.map (·.1)).Nodup
 | .set S n=>h.SetOf (intKind P w) a S n
 | .ins C dx fs=>H dx=some (.own a)/\fs.length<=1000/\dx≠a/\h.get? a=some (PySem.W.instObj C dx)/\
   ∃mA,h.Ns1 dx mA/\(∀f,iP (fs.lookup f) (mA f))/\PySem.Within mA (fs.map (·.1))
 | .own _=>∃o,h.get? a=some o
 | .xd fs=>∃mA,h.Ns1 a mA/\∀f,iP (fs.lookup f) (mA f)
 | .OJ lo hi=>∃t u v,h.get? a=some {cls:=.type "range",data:=.fields #[.int lo t,.int hi u,.int 1 v]}
 | .xq o u=>h.get? a=some o/\cD H h a u
 | .Gb ps=>TabAt H h a ps
 | .met f x=>h.get? a=some (PySem.W.methodObj (.ref f) (.ref x))
 | .ext φ=>φ h/\(∃o,h.get? a=some o)/\∀h1 h2:Heap,φ h1->(∀o,h1.get? a=some o->h2.get? a=some o)->φ h2
noncomputable def gR (H:Hp) (h:Heap):Prop:=∀a o,H a=some o->cD P w H h a o
end
section
variable {P : Program} {w : World} {H H' : Hp} {h h' : Heap} {a : Addr} {o : HO}
theorem cD.lt (x:cD P w H h a o):a<h.objs.size:=by
 cases o with
 | lst xs=>obtain⟨_,_,_,_,e⟩:=x;exact aaN e
 | tup xs=>obtain⟨_,_,_,p⟩:=x;exact p.lt
 | dK kvs=>obtain⟨_,_,_,_,o,_,_,e,_⟩:=x;exact aaN e
 | dT kvs=>obtain⟨_,_,_,_,o,_,_,e,_⟩:=x;exact aaN e
 | set S n=>obtain⟨o,_,_,_,e,_⟩:=x;exact aaN e
 | ins C dx fs=>obtain⟨_,_,_,e,_⟩:=x;exact aaN e
 | own y=>obtain⟨_,e⟩:=x;exact aaN e
 | xd fs=>obtain⟨_,⟨_,_,_,e,_⟩,_⟩:=x;exact aaN e
 | OJ lo hi=>obtain⟨_,_,_,e⟩:=x;exact aaN e
 | xq ob u=>obtain⟨e,_⟩:=x;exact aaN e
 | Gb ps=>obtain⟨_,e,_⟩:=x;exact aaN e
 | met f y=>exact aaN (show h.get? a=some _ from x)
 | ext φ=>obtain⟨_,⟨_,e⟩,_⟩:=x;exact aaN e
theorem Paired.JD {α β:Type} {F G:α->β->Prop}:∀{l₁:List α} {l₂:List β},Paired F l₁ l₂->(∀a b,F a b->G a b)->Paired G l₁ l₂
 | _,_,.nil,_=>.nil
 | _,_,.cons r t,f=>.cons (f _ _ r) (Paired.JD t f)
theorem cD.qV (x:cD P w H h a o) (k:∀b u,(b=a\/H b=some (.own a))->h.get? b=some u->h'.get? b=some u)
  (ho:∀b,H b=some (.own a)->H' b=some (.own a)) (ht:∀b xs,H b=some (.tup xs)->H' b=some (.tup xs)):cD P w H' h' a o:=by
 induction o with
 | lst xs=>obtain⟨z,bg,n,r,e⟩:=x;exact⟨z,bg,n,r,k _ _ (.inl rfl) e⟩
 | tup xs=>obtain⟨z,bg,r,ob,e,c⟩:=x;exact⟨z,bg,r,ob,k _ _ (.inl rfl) e,c⟩
 | dK kvs=>obtain⟨z,y,vs,r,ob,es,ep,e,c⟩:=x;exact⟨z,y,vs,r,ob,es,ep,k _ _ (.inl rfl) e,c⟩
 | dT kvs=>
  obtain⟨z,y,xs,r,ob,es,ep,e,c⟩:=x;exact⟨z,y,xs,Paired.JD r λp q z=>⟨z.1,ht _ _ z.2.1,z.2.2⟩,ob,es,ep,k _ _ (.inl rfl) e,c⟩
 | set S n=>obtain⟨ob,es,ep,t,e,c⟩:=x;exact⟨ob,es,ep,t,k _ _ (.inl rfl) e,c⟩
 | ins C dx fs=>
  obtain⟨d,z,ne,e,mA,⟨od,es,ep,e2,c⟩,r⟩:=x;exact⟨ho _ d,z,ne,k _ _ (.inl rfl) e,mA,⟨od,es,ep,k _ _ (.inr d) e2,c⟩,r⟩
 | own y=>obtain⟨ob,e⟩:=x;exact⟨ob,k _ _ (.inl rfl) e⟩
 | xd fs=>obtain⟨mA,⟨od,es,ep,e,c⟩,r⟩:=x;exact⟨mA,⟨od,es,ep,k _ _ (.inl rfl) e,c⟩,r⟩
 | OJ lo hi=>obtain⟨t,u,v,e⟩:=x;exact⟨t,u,v,k _ _ (.inl rfl) e⟩
 | xq ob u ih=>obtain⟨e,q⟩:=x;exact⟨k _ _ (.inl rfl) e,ih q⟩
 | Gb ps=>
  obtain⟨mo,e,q⟩:=x;refine⟨mo,k _ _ (.inl rfl) e,?_⟩;rcases q with q | ⟨l,c,c1,qn,t,e1,e2,e3,c2,o2,UD,t2,f1,f2,f3,f4⟩
  ·exact .inl q
  ·cases f1;exact .inr ⟨l,c,c1,qn,t,e1,e2,ho _ e3,c1,o2,UD,t2,rfl,k _ _ (.inr e3) f2,f3,f4⟩
 | met f y=>
  have e:h.get? a=some (PySem.W.methodObj (.ref f) (.ref y)):=x;show h'.get? a=some (PySem.W.methodObj (.ref f) (.ref y));exact k a _ (.inl rfl) e
 | ext φ=>obtain⟨p,⟨o,e⟩,st⟩:=x;exact⟨st _ _ p λo q=>k _ _ (.inl rfl) q,⟨o,k _ _ (.inl rfl) e⟩,st⟩
theorem gR.lt (x:gR P w H h) (e:H a=some o):a<h.objs.size:=(x a o e).lt
theorem gR.fresh (x:gR P w H h) (e:h.objs.size<=a):H a=none:=by
 cases q:H a with
 | none=>rfl
 | some u=>exact absurd (ZR (x.lt q) e) (Z6 _)
theorem gR.kept (x:gR P w H h) (k:∀b u,h.get? b=some u->h'.get? b=some u):gR P w H h':=λa o e=>
 (x a o e).qV (λb u _ q=>k b u q) (λ_ q=>q) λ_ _ q=>q
theorem gR.laid (x:gR P w H h) (k:∀b u,h.get? b=some u->h'.get? b=some u) (hp:h.objs.size<=a) (new:cD P w (upd H a o) h' a o):gR P w (upd H a o) h':=λb u e=>by
 have hn:=x.fresh hp
 by_cases hb:b=a
 ·subst hb;rw[aj] at e;cases e;exact new
 ·rw[aw hb] at e;exact(x b u e).qV (λc v _ q=>k c v q) (λc q=>by rw[aw (eN q hn)];exact q) λc xs q=>by rw[aw (eN q hn)];exact q
end
noncomputable def Rd (H:Hp) (a:Addr) (u:HO):Prop:=H a=some u\/∃o,H a=some (.xq o u)
theorem Rd.ok {P:Program} {w:World} {H:Hp} {h:Heap} {a:Addr} {u:HO} (r:Rd H a u) (x:gR P w H h):cD P w H h a u:=by
 rcases r with r | ⟨o,r⟩
 ·exact x a u r
 ·obtain⟨_,q⟩:=x a _ r;exact q
noncomputable def ME:Option HO->Prop
 | some (.lst _)=>True
 | some (.dK _)=>True
 | some (.dT _)=>True
 | some (.set _ _)=>True
 | some (.ins _ _ _)=>True
 | some (.ext _)=>True
 | _=>False
section
variable {P : Program} {w : World} {H : Hp} {h h' : Heap} {x e : Addr} {o' : HO}
theorem gR.write (ok:gR P w H h) (mu:ME (H x)) (he:e=x\/H e=some (.own x)) (k:∀b u,b≠e->h.get? b=some u->h'.get? b=some u) (L8:∃u,h'.get? e=some u)
  (new:cD P w (upd H x o') h' x o'):gR P w (upd H x o') h':=λb u q=>by
 have MF:∀c y,H c=some (.own y)->c≠x:=λc y r z=>by subst z;rw[r] at mu;exact mu
 have PN:∀c xs,H c=some (.tup xs)->c≠x:=λc xs r z=>by subst z;rw[r] at mu;exact mu
 by_cases hb:b=x
 ·subst hb;rw[aj] at q;cases q;exact new
 ·rw[aw hb] at q
  by_cases JE:b=e
  ·have q':H b=some (.own x):=by
    rcases he with z | z
    ·exact absurd (JE.trans z) hb
    ·rw[JE];exact z
   rw[q] at q';cases q';obtain⟨v,hv⟩:=L8;exact⟨v,by rw[JE];exact hv⟩
  ·refine(ok b u q).qV (λc v hc r=>k c v ?_ r) (λc r=>by rw[aw (MF c b r)];exact r) λc xs r=>by rw[aw (PN c xs r)];exact r
   rcases hc with rfl | hc
   ·exact JE
   ·rintro rfl;rcases he with z | z
    ·exact MF c b hc z
    ·rw[hc] at z;cases z;exact hb rfl
end
structure Un (fs ex:List Addr) (H H':Hp) (h h':Heap):Prop where
 keep:∀b o,h.get? b=some o->H b=none->b∉fs->b∉ex->h'.get? b=some o
 slot:∀b o,h.get? b=some o->H b=none->b∈fs->b∉ex->∃sl,h'.get? b=some {o with slots:=sl}
 free:∀b o,h.get? b=some o->H b=none->b∉ex->H' b=none
 there:∀b o,h.get? b=some o->b∉ex->∃o',h'.get? b=some o'
 iV:∀b xs,H b=some (.tup xs)->H' b=some (.tup xs)
 iQ:∀b o u,H b=some (.xq o u)->H' b=some (.xq o u)
 jP:∀b ps,H b=some (.Gb ps)->∃more,H' b=some (.Gb (ps++more))
section
variable {fs UE ex PR : List Addr} {H H1 H2 : Hp} {h h1 h2 h' : Heap} {a x e : Addr} {o : HO}
theorem Un.any (u:Un fs ex H H1 h h1) {b:Addr} {ob:Obj} (q:h.get? b=some ob) (n:H b=none) (hx:b∉ex):∃sl,h1.get? b=some {ob with slots:=sl}:=by
 by_cases hb:b∈fs
 ·exact u.slot b ob q n hb hx
 ·exact⟨ob.slots,u.keep b ob q n hb hx⟩
theorem Un.kept (k:∀b u,h.get? b=some u->h'.get? b=some u):Un fs ex H H h h':=
 ⟨λb ob q _ _ _=>k b ob q,λb ob q _ _ _=>⟨ob.slots,k b ob q⟩,λ_ _ _ n _=>n,λb ob q _=>⟨ob,k b ob q⟩,λ_ _ q=>q,λ_ _ _ q=>q,λ_ ps q=>⟨#[],by rw[q];simp⟩⟩
theorem Un.refl:Un fs ex H H h h:=Un.kept λ_ _ q=>q
theorem Un.laid (k:∀b u,h.get? b=some u->h'.get? b=some u) (hp:h.objs.size<=a) (hn:H a=none):Un fs ex H (upd H a o) h h' where
 keep:=λb u q _ _ _=>k b u q
 slot:=λb u q _ _ _=>⟨u.slots,k b u q⟩
 free:=λb u q n _=>by rw[aw (ZK (ZR (aaN q) hp))];exact n
 there:=λb u q _=>⟨u,k b u q⟩
 iV:=λb xs q=>by rw[aw (eN q hn)];exact q
 iQ:=λb u xs q=>by rw[aw (eN q hn)];exact q
 jP:=λb ps q=>⟨#[],by rw[aw (eN q hn),q];simp⟩
theorem Un.write (mu:ME (H x)) (he:e=x\/H e=some (.own x)) (k:∀b u,b≠e->h.get? b=some u->h'.get? b=some u) (L8:∃u,h'.get? e=some u):Un fs ex H (upd H x o) h h':=by
 have hx:∀b,H b=none->b≠x:=λb n z=>by subst z;rw[n] at mu;exact mu
 have hb:∀b,H b=none->b≠e:=λb n z=>by
  subst z;rcases he with r | r
  ·exact hx b n r
  ·rw[n] at r;cases r
 have hm:∀b u,H b=some u->¬ME (some u)->b≠x:=λb u q nm z=>by subst z;rw[q] at mu;exact nm mu
 refine⟨λb u q n _ _=>k b u (hb b n) q,λb u q n _ _=>⟨u.slots,k b u (hb b n) q⟩,λb u q n _=>by rw[aw (hx b n)];exact n,λb u q _=>?_,
  λb xs q=>by rw[aw (hm b _ q λz=>z)];exact q,λb u xs q=>by rw[aw (hm b _ q λz=>z)];exact q,λb ps q=>⟨#[],by rw[aw (hm b _ q λz=>z),q];simp⟩⟩
 by_cases JE:b=e
 ·subst JE;exact L8
 ·exact⟨u,k b u JE q⟩
end
noncomputable def OK (h:Heap) (H:Hp):List Addr:=(List.range h.objs.size).filter λa=>(H a).isSome
noncomputable def vB (h:Heap) (H:Hp):Heap:=PySem.W.hideAll h (OK h H)
theorem Ca (h:Heap) (H:Hp):(vB h H).objs.size=h.objs.size:=PySem.W.hideAll_size _ _
theorem Dk {h:Heap} {H:Hp} {b:Addr} {o:Obj} (e:h.get? b=some o) (n:H b=none):(vB h H).get? b=some o:=
 PySem.W.hideAll_get _ e λhm=>by
  have q:(H b).isSome=true:=(List.mem_filter.mp hm).2;rw[n] at q;simp at q
theorem Gw {h:Heap} {H:Hp} {b:Addr} {o:Obj} (e:(vB h H).get? b=some o):h.get? b=some o/\H b=none:=by
 have e':h.get? b=some o:=PySem.W.of_hideAll (OK h H) e;refine⟨e',?_⟩;cases q:H b with
 | none=>rfl
 | some x=>
  have hm:b∈OK h H:=List.mem_filter.mpr ⟨List.mem_range.mpr (aaN e'),by simp [q]⟩;have z:(vB h H).get? b=none:=PySem.W.hideAll_none (OK h H) hm;rw[z] at e;cases e
noncomputable def Gx (g h:Heap) (L:Addr):List (Addr×Obj):=(List.range h.objs.size).filterMap λa=>if a=L\/(g.get? a).isSome=true then none else (h.get? a).map λo=>(a,o)
noncomputable def rest (g h:Heap) (L d:Addr):List (Addr×Obj):=(Gx g h L).filter λp=>decide (p.1≠d)
end L2
namespace L2
open PySem PySem.Spec PyProof.Rows
structure Mod (K:aaB) (mg:Str->Option Value) (base:Heap):Prop where
 JF:K.In base
 glob:base.Ns mainGlobals mg
 blt:∃mb,base.Ns builtinsNs mb/\∀x:Str,x≠"__name__"->mb x=bootBuiltins x
 nolimit:base.NoLimit
structure Cx where
 prog:Program
 w:World
 K:aaB
 mg:Str->Option Value
 base:Heap
 A:Around
 N:List Str
 s₀:Shared
 H₀:Hp
 env:Env
 outer:List Env
 stack:List Env
 ex:List Addr
 fn:Str->Bool
 calm:Bool
 pn:List (Addr×Obj)
 xe:Value->Shared->Prop
def gy (l:List Env):List Addr:=l.filterMap (·.frame)
abbrev Cx.fs (X:Cx):List Addr:=gy X.outer
noncomputable def PU (sc:Scope) (x:Str):Prop:=sc.names.lookup x=some .local\/sc.names.lookup x=some .cell\/sc.names.lookup x=some .free
noncomputable def Loc (sc:Scope) (x:Str):Prop:=sc.names.lookup x=some .local\/sc.names.lookup x=some .cell
noncomputable def Look (env:Env) (h:Heap) (m:Str->Option Value) (x:Str) (u:Value):Prop:=
 (env.kindOf x=some .local/\m x=some u)\/((env.kindOf x=some .cell\/env.kindOf x=some .free)/\∃c,env.cells.lookup x=some c/\h.IsCell c (some u))
structure Cx.Ok (X:Cx):Prop where
 mod:Mod X.K X.mg X.base
 kind:X.env.scope.kind=.function
 glob:X.env.globals=mainGlobals
 blt:X.env.builtins=builtinsNs
 above:X.s₀.heap.objs.size<=X.env.locals
 inj:∀x y c,X.env.cells.lookup x=some c->X.env.cells.lookup y=some c->x=y
 has:∀x,(X.env.kindOf x=some .cell\/X.env.kindOf x=some .free)->∃c,X.env.cells.lookup x=some c
 JG:∀x c,X.fn x=true->X.env.cells.lookup x=some c->X.s₀.heap.objs.size<=c
 hd:X.calm=true->X.A.handled=none
 frames:X.A.frames=some X.stack
 Dl:X.stack=X.outer\/(X.stack=X.env::X.outer/\X.env.frame=some X.env.locals)
 OL:∀b∈X.ex,b≠X.env.locals/\∀x c,X.env.cells.lookup x=some c->c≠b
 bs:∀b o,X.base.get? b=some o->X.s₀.heap.get? b=some o/\X.H₀ b=none
 Dm:X.base.objs.size<=X.s₀.heap.objs.size
 zq:∀b o,X.base.get? b=some o->b∉X.ex
 Cb:∀b∈X.ex,b∉X.fs
 mr:X.s₀.heap.FunFrames X.base X.outer
 Gy:∀b∈X.fs,X.H₀ b=none
structure Inv (X:Cx) (pins:List (Addr×Obj)) (σ:List (Option V)) (H:Hp) (s:Shared):Prop where
 ok:X.Ok
 os:s.os=X.s₀.os
 bare:AllBare s.gens
 base:Un X.fs X.ex X.H₀ H X.s₀.heap s.heap
 loc:∃m,s.heap.Ns X.env.locals m/\∀(i:Nat) (x:Str) (v:V),X.N[i]?=some x->σ[i]?=some (some v)->PU X.env.scope x->∃u,RelV v u/\Look X.env s.heap m x u
 cell:∀x c,X.env.cells.lookup x=some c->∃v,s.heap.IsCell c v
 free:H X.env.locals=none
 fR:∀x c,X.env.cells.lookup x=some c->H c=none
 pin:∀p∈X.pn++pins,s.heap.get? p.1=some p.2/\H p.1=none/\p.1≠X.env.locals/\p.1∉X.fs/\∀v,p.2.data≠.cell v
 bU:gR X.prog X.w H s.heap
 len:σ.length=X.N.length
section
variable {X : Cx} {pins : List (Addr × Obj)} {σ : List (Option V)} {H H' : Hp} {s : Shared} {h' : Heap}
theorem Cx.Ok.PV (ok:X.Ok) {b:Addr} {o:Obj} (e:X.base.get? b=some o):b∉X.fs:=λhb=>by
 have:=(ok.mr.mem hb).1;rw[e] at this;cases this
theorem Inv.bs (I:Inv X pins σ H s):∀b o,X.base.get? b=some o->s.heap.get? b=some o/\H b=none:=λb o e=>
 ⟨I.base.keep b o (I.ok.bs b o e).1 (I.ok.bs b o e).2 (I.ok.PV e) (I.ok.zq b o e),I.base.free b o (I.ok.bs b o e).1 (I.ok.bs b o e).2 (I.ok.zq b o e)⟩
theorem Inv.bk (I:Inv X pins σ H s):∀b o,X.base.get? b=some o->s.heap.get? b=some o:=λb o e=>(I.bs b o e).1
theorem Inv.mod (I:Inv X pins σ H s):Mod X.K X.mg X.base:=I.ok.mod
theorem Inv.kx (I:Inv X pins σ H s):X.K.In s.heap:=I.ok.mod.JF.keeps I.bk
theorem Inv.lt (I:Inv X pins σ H s):X.env.locals<s.heap.objs.size:=let ⟨_,hn,_⟩:=I.loc;hn.lt
theorem Inv.sz (I:Inv X pins σ H s):X.s₀.heap.objs.size<=s.heap.objs.size:=ZN I.ok.above (Nat.le_of_lt I.lt)
theorem Inv.PX (I:Inv X pins σ H s) {a:Addr} (h:s.heap.objs.size<=a):a∉X.fs:=λhb=>by
 obtain⟨_,o,ho,_⟩:=I.ok.mr.mem hb;exact absurd (ZR (aaN ho) (ZN I.sz h)) (Z6 _)
theorem Inv.Gz (I:Inv X pins σ H s):∀x c,X.env.cells.lookup x=some c->c≠X.env.locals:=λx c e z=>by
 obtain⟨v,o,ho,hd⟩:=I.cell x c e;obtain⟨m,⟨o',es,ep,Dp,PY,_⟩,_⟩:=I.loc;rw[z,Dp] at ho;cases ho;rw[PY] at hd;cases hd
theorem Inv.mr (I:Inv X pins σ H s):s.heap.FunFrames X.base X.outer:=by
 have all:∀(l:List Env),(∀b∈gy l,b∈X.fs)->X.s₀.heap.FunFrames X.base l->s.heap.FunFrames X.base l:=by
  intro l
  induction l with
  | nil=>intro _ _;trivial
  | cons env r ih=>
   intro hs hl;obtain⟨hk,⟨L,o,hf,hn,ho,hd⟩,hr⟩:=hl;have hL:L∈X.fs:=hs L (by unfold gy;rw[aad,hf];exact ZL);obtain⟨sl,e⟩:=I.base.slot L o ho (I.ok.Gy L hL) hL λz=>I.ok.Cb L z hL;exact⟨hk,⟨L,_,hf,hn,e,hd⟩,ih (λb hb=>hs b (by unfold gy;rw[aad,hf];exact ZI _ hb)) hr⟩
 exact all X.outer (λ_ hb=>hb) I.ok.mr
theorem Inv.stack (I:Inv X pins σ H s):s.heap.FunFrames X.base X.stack:=by
 rcases I.ok.Dl with e | ⟨e,hf⟩
 ·rw[e];exact I.mr
 ·rw[e];obtain⟨m,hn,_⟩:=I.loc;refine .cons (by rw[I.ok.kind];decide) hf hn ?_ I.mr;exact Heap.get?_none_of_le (ZN I.ok.Dm I.ok.above)
theorem Inv.vC (I:Inv X pins σ H s):∀b∈gy X.stack,b∈X.env.locals::X.fs:=λb hb=>by
 rcases I.ok.Dl with e | ⟨e,hf⟩
 ·rw[e] at hb;exact ZI _ hb
 ·rw[e] at hb;unfold gy at hb;rw[aad,hf] at hb;exact hb
theorem Inv.vD (I:Inv X pins σ H s):∀b∈gy X.stack,H b=none:=λb hb=>by
 rcases aaj.mp (I.vC b hb) with e | hb
 ·rw[e];exact I.free
 ·obtain⟨_,o,ho,_⟩:=I.ok.mr.mem hb;exact I.base.free b o ho (I.ok.Gy b hb) λz=>I.ok.Cb b z hb
theorem Inv.step {g':Array GenState} {t':Nat} {d':Drawn} {ch:List Addr} (I:Inv X pins σ H s)
  (Gc:∀b∈ch,(b∈X.ex\/X.s₀.heap.objs.size<=b)/\b≠X.env.locals/\(∀x c,X.env.cells.lookup x=some c->c≠b)/\∀p∈X.pn++pins,p.1≠b)
  (keep:∀b o,b≠X.env.locals->b∉X.fs->b∉ch->s.heap.get? b=some o->H b=none->h'.get? b=some o)
  (slot:∀b o,b≠X.env.locals->b∈X.fs->b∉ch->s.heap.get? b=some o->H b=none->∃sl,h'.get? b=some {o with slots:=sl}) (free:∀b o,b∉ch->s.heap.get? b=some o->H b=none->H' b=none)
  (there:∀b o,b∉ch->s.heap.get? b=some o->∃o',h'.get? b=some o')
  (iV:∀b xs,H b=some (.tup xs)->H' b=some (.tup xs)) (iQ:∀b o u,H b=some (.xq o u)->H' b=some (.xq o u)) (jP:∀b ps,H b=some (.Gb ps)->∃more,H' b=some (.Gb (ps++more)))
  (ns:∀m,s.heap.Ns X.env.locals m->h'.Ns X.env.locals m) (bU:gR X.prog X.w H' h') (hg:AllBare g'):
  Inv X pins σ H' {s with heap:=h',gens:=g',drawn:=d',toks:=t'}:=by
 have Sv:∀b o,X.s₀.heap.get? b=some o->b≠X.env.locals:=λb o e=>ZK (ZR (aaN e) I.ok.above);have OM:∀b o,X.s₀.heap.get? b=some o->b∉X.ex->b∉ch:=λb o e hx hb=>by
  rcases(Gc b hb).1 with z | z
  ·exact hx z
  ·exact absurd (ZR (aaN e) z) (Z6 _)
 have cellK:∀x c,X.env.cells.lookup x=some c->∀v,s.heap.IsCell c v->h'.IsCell c v:=λx c e v ⟨o,ho,hd⟩=>by
  have IC:c∉ch:=λz=>(Gc c z).2.2.1 x c e rfl
  by_cases hc:c∈X.fs
  ·obtain⟨sl,q⟩:=slot c o (I.Gz x c e) hc IC ho (I.fR x c e);exact⟨_,q,hd⟩
  ·exact⟨o,keep c o (I.Gz x c e) hc IC ho (I.fR x c e),hd⟩
 refine⟨I.ok,I.os,hg,⟨λb o e n hb hx=>?_,λb o e n hb hx=>?_,λb o e n hx=>?_,λb o e hx=>?_,λb xs e=>iV b xs (I.base.iV b xs e),λb o xs e=>iQ b o xs (I.base.iQ b o xs e),λb ps e=>?_⟩,?_,λx c e=>?_,?_,λx c e=>?_,λp hp=>?_,bU,I.len⟩
 ·exact keep b o (Sv b o e) hb (OM b o e hx) (I.base.keep b o e n hb hx) (I.base.free b o e n hx)
 ·obtain⟨sl,e1⟩:=I.base.slot b o e n hb hx;obtain⟨MG,e2⟩:=slot b _ (Sv b o e) hb (OM b o e hx) e1 (I.base.free b o e n hx);exact⟨MG,e2⟩
 ·obtain⟨o',e1⟩:=I.base.there b o e hx;exact free b o' (OM b o e hx) e1 (I.base.free b o e n hx)
 ·obtain⟨o',e1⟩:=I.base.there b o e hx;exact there b o' (OM b o e hx) e1
 ·obtain⟨m1,e1⟩:=I.base.jP b ps e;obtain⟨m2,e2⟩:=jP b _ e1;exact⟨m1++m2,by rw[e2,Array.append_assoc]⟩
 ·obtain⟨m,hn,hl⟩:=I.loc;refine⟨m,ns m hn,λi x v e1 e2 e3=>?_⟩;obtain⟨u,r,l⟩:=hl i x v e1 e2 e3;refine⟨u,r,?_⟩;rcases l with l | ⟨k,c,e,z⟩
  ·exact .inl l
  ·exact .inr ⟨k,c,e,cellK x c e _ z⟩
 ·obtain⟨v,z⟩:=I.cell x c e;exact⟨v,cellK x c e v z⟩
 ·obtain⟨m,⟨o,_,_,ho,_⟩,_⟩:=I.loc;exact free _ o (λz=>(Gc _ z).2.1 rfl) ho I.free
 ·obtain⟨v,o,ho,hd⟩:=I.cell x c e;exact free c o (λz=>(Gc c z).2.2.1 x c e rfl) ho (I.fR x c e)
 ·obtain⟨e,n,ne,nf,d⟩:=I.pin p hp;have IC:p.1∉ch:=λz=>(Gc p.1 z).2.2.2 p hp rfl;exact⟨keep p.1 p.2 ne nf IC e n,free p.1 p.2 IC e n,ne,nf,d⟩
theorem Inv.un {t':Nat} (I:Inv X pins σ H s) (u:Un X.fs [] H H' s.heap h') (bU:gR X.prog X.w H' h'):Inv X pins σ H' {s with heap:=h',toks:=t'}:=by
 obtain⟨m,⟨o,es,ep,ho,r⟩,_⟩:=id I.loc;obtain⟨sl,hL⟩:=u.any ho I.free (by simp);exact I.step (g':=s.gens) (d':=s.drawn) (ch:=[]) (λ_ z=>nomatch z) (λb o _ hb _ e n=>u.keep b o e n hb (by simp)) (λb o _ hb _ e n=>u.slot b o e n hb (by simp)) (λb o _ e n=>u.free b o e n (by simp)) (λb o _ e=>u.there b o e (by simp)) u.iV u.iQ u.jP (λm' hm=>by
  obtain⟨o',PZ,zr,Dp,r'⟩:=hm;rw[ho] at Dp;cases Dp;exact⟨_,PZ,zr,hL,r'⟩) bU I.bare
theorem Inv.call {g':Array GenState} {t':Nat} {d':Drawn} {ch:List Addr} (I:Inv X pins σ H s) (u:Un (gy X.stack) ch H H' s.heap h') (bU:gR X.prog X.w H' h') (hg:AllBare g')
  (Gc:∀b∈ch,(b∈X.ex\/X.s₀.heap.objs.size<=b)/\b≠X.env.locals/\(∀x c,X.env.cells.lookup x=some c->c≠b)/\∀p∈X.pn++pins,p.1≠b):
  Inv X pins σ H' {s with heap:=h',gens:=g',drawn:=d',toks:=t'}:=by
 obtain⟨m,⟨o,es,ep,ho,r⟩,_⟩:=id I.loc;obtain⟨sl,hL⟩:=u.any ho I.free λz=>(Gc _ z).2.1 rfl;exact I.step (ch:=ch) Gc (λb o hL hb hc e n=>u.keep b o e n (λz=>(aaj.mp (I.vC b z)).elim hL hb) hc) (λb o _ _ hc e n=>u.any e n hc) (λb o hc e n=>u.free b o e n hc) (λb o hc e=>u.there b o e hc) u.iV u.iQ u.jP (λm' hm=>by
  obtain⟨o',PZ,zr,Dp,r'⟩:=hm;rw[ho] at Dp;cases Dp;exact⟨_,PZ,zr,hL,r'⟩) bU hg
theorem Inv.turned {t':Nat} {it:Addr} (I:Inv X pins σ H s) (k:∀b o,b≠it->s.heap.get? b=some o->h'.get? b=some o) (hn:H it=none) (hL:it≠X.env.locals)
  (h1:it∈X.ex\/X.s₀.heap.objs.size<=it) (h2:∀x c,X.env.cells.lookup x=some c->c≠it) (h3:∀p∈X.pn++pins,p.1≠it):Inv X pins σ H {s with heap:=h',toks:=t'}:=by
 have Sw:∀b u,H b=some u->b≠it:=λb u e z=>by rw[z,hn] at e;cases e
 refine I.step (g':=s.gens) (d':=s.drawn) (ch:=[it]) (λb hb=>?_) (λb o _ _ hc e _=>k b o (λz=>hc (by simp [z])) e) (λb o _ _ hc e _=>⟨o.slots,k b o (λz=>hc (by simp [z])) e⟩) (λ_ _ _ _ n=>n)
  (λb o hc e=>⟨o,k b o (λz=>hc (by simp [z])) e⟩) (λ_ _ e=>e) (λ_ _ _ e=>e) (λb ps e=>⟨#[],by rw[e];simp⟩) (λm hm=>?_) (λb u e=>?_) I.bare
 ·have e:b=it:=by simpa using hb
  subst e;exact⟨h1,hL,h2,h3⟩
 ·obtain⟨o,es,ep,ho,r⟩:=hm;exact⟨o,es,ep,k _ o (Ne.symm hL) ho,r⟩
 ·refine(I.bU b u e).qV (λc v hc q=>k c v ?_ q) (λ_ q=>q) λ_ _ q=>q;rcases hc with z | z
  ·rw[z];exact Sw b u e
  ·exact Sw c _ z
theorem Inv.tok (I:Inv X pins σ H s) (t:Nat):Inv X pins σ H {s with toks:=t}:=I.un (h':=s.heap) (t':=t) Un.refl I.bU
theorem Inv.kept {t':Nat} (I:Inv X pins σ H s) (k:∀b u,s.heap.get? b=some u->h'.get? b=some u):Inv X pins σ H {s with heap:=h',toks:=t'}:=I.un (Un.kept k) (I.bU.kept k)
theorem Inv.laid {a:Addr} {o:HO} {t':Nat} (I:Inv X pins σ H s) (k:∀b u,s.heap.get? b=some u->h'.get? b=some u) (hp:s.heap.objs.size<=a) (new:cD X.prog X.w (upd H a o) h' a o):
  Inv X pins σ (upd H a o) {s with heap:=h',toks:=t'}:=I.un (Un.laid k hp (I.bU.fresh hp)) (I.bU.laid k hp new)
theorem Inv.write {x e:Addr} {o:HO} {t':Nat} (I:Inv X pins σ H s) (mu:ME (H x)) (he:e=x\/H e=some (.own x)) (k:∀b u,b≠e->s.heap.get? b=some u->h'.get? b=some u) (L8:∃u,h'.get? e=some u)
  (new:cD X.prog X.w (upd H x o) h' x o):Inv X pins σ (upd H x o) {s with heap:=h',toks:=t'}:=I.un (Un.write mu he k L8) (I.bU.write mu he k L8 new)
theorem Inv.mv {ID:List (Addr×Obj)} (I:Inv X pins σ H s) (h:∀p∈ID,s.heap.get? p.1=some p.2/\H p.1=none/\p.1≠X.env.locals/\p.1∉X.fs/\∀v,p.2.data≠.cell v):Inv X ID σ H s:=
 ⟨I.ok,I.os,I.bare,I.base,I.loc,I.cell,I.free,I.fR,λp hp=>(List.mem_append.mp hp).elim (λz=>I.pin p (aat _ z)) (h p),I.bU,I.len⟩
theorem qW {N:List Str} (hN:N.Nodup) {i j:Nat} {x:Str} (a:N[i]?=some x) (b:N[j]?=some x):i=j:=by
 obtain⟨h1,e1⟩:=aaI.mp a;obtain⟨h2,e2⟩:=aaI.mp b;exact(List.getElem_inj hN).mp (e1.trans e2.symm)
theorem uX {M:Model} {A:Around} {E:Value->Shared->Prop} {i:Nat} {x:Str} {v:V} {u:Value} {Q:Unit->Shared->Prop} (I:Inv X pins σ H s) (hN:X.N.Nodup) (hi:X.N[i]?=some x) (hx:Loc X.env.scope x) (r:RelV v u)
  (h:∀s',Inv X pins (σ.set i (some v)) H s'->(∃a,Heap.SameBut a s.heap s'.heap/\(a=X.env.locals\/X.env.cells.lookup x=some a))->Q () s') (hf:X.fn x=true\/X.env.scope.names.lookup x=some .local:=by first | exact .inl rfl | exact .inr rfl | assumption):wpAny M A (storeName X.env x u) Q E s:=by
 obtain⟨m,hn,hl⟩:=id I.loc;have JH:(X.env.scope.kind==.class || (X.env.scope.kind==.module && X.env.locals !=X.env.globals))=false:=by rw[I.ok.kind];rfl
 have MH:i<σ.length:=by rw[I.len];exact(aaI.mp hi).1
 have Gz:=I.Gz;have tracked:∀{a:Addr} {h':Heap},(∃o,s.heap.get? a=some o/\H a=none)->Heap.SameBut a s.heap h'->gR X.prog X.w H h':=λ{a h'} ha hs b ob e=>by
  obtain⟨_,_,IE⟩:=ha;refine(I.bU b ob e).qV (λc w' hc q=>(hs.2 c ?_).trans q) (λ_ q=>q) λ_ _ q=>q;rintro rfl;rcases hc with rfl | hc
  ·rw[IE] at e;cases e
  ·rw[IE] at hc;cases hc
 rcases hx with hk | hk
 ·refine wpAny_storeName_local hk hn (λh' UG hs=>?_) JH;obtain⟨oL,_,_,MI,_⟩:=id hn;refine h _ ⟨I.ok,I.os,I.bare,⟨λb o e n hb hx=>?_,λb o e n hb hx=>?_,I.base.free,λb o e hx=>?_,I.base.iV,I.base.iQ,I.base.jP⟩,⟨_,UG,λj y v' e1 e2 e3=>?_⟩,λy c e=>?_,I.free,I.fR,λp hp=>?_,tracked ⟨oL,MI,I.free⟩ hs,by simpa using I.len⟩ ⟨_,hs,.inl rfl⟩
  ·exact(hs.2 b (ZK (ZR (aaN e) I.ok.above))).trans (I.base.keep b o e n hb hx)
  ·obtain⟨sl,e1⟩:=I.base.slot b o e n hb hx;exact⟨sl,(hs.2 b (ZK (ZR (aaN e) I.ok.above))).trans e1⟩
  ·obtain⟨o',e1⟩:=I.base.there b o e hx;exact⟨o',(hs.2 b (ZK (ZR (aaN e) I.ok.above))).trans e1⟩
  ·by_cases hj:j=i
   ·subst hj;rw[hi] at e1;cases e1;rw[List.getElem?_set_self MH] at e2;cases e2;exact⟨u,r,.inl ⟨hk,by simp⟩⟩
   ·rw[List.getElem?_set_ne (Ne.symm hj)] at e2;obtain⟨u',r',q⟩:=hl j y v' e1 e2 e3;refine⟨u',r',?_⟩;rcases q with ⟨k,e⟩ | ⟨k,c,e,z⟩
    ·refine .inl ⟨k,?_⟩;have:y≠x:=λe=>hj (qW hN e1 (e▸hi));simp [this,e]
    ·exact .inr ⟨k,c,e,z.sameBut hs (Gz y c e)⟩
  ·obtain⟨w',z⟩:=I.cell y c e;exact⟨w',z.sameBut hs (Gz y c e)⟩
  ·obtain⟨e,n,ne,nf,d⟩:=I.pin p hp;exact⟨(hs.2 p.1 ne).trans e,n,ne,nf,d⟩
 ·have P1:X.fn x=true:=by
   rcases hf with z | z
   ·exact z
   ·rw[z] at hk;cases hk
  obtain⟨c,hc⟩:=I.ok.has x (.inl hk);obtain⟨w',z⟩:=I.cell x c hc;refine wpAny_storeName_cell I.ok.kind hk hc z (λh' ON hs=>?_);obtain⟨oc,Sx,P2⟩:=id z;refine h {s with heap:=h'} ⟨I.ok,I.os,I.bare,⟨λb o e n hb hx=>?_,λb o e n hb hx=>?_,I.base.free,λb o e hx=>?_,I.base.iV,I.base.iQ,I.base.jP⟩,⟨m,hn.sameBut hs (Ne.symm (Gz x c hc)),λj y v' e1 e2 e3=>?_⟩,λy c' e=>?_,I.free,I.fR,λp hp=>?_,tracked ⟨oc,Sx,I.fR x c hc⟩ hs,by simpa using I.len⟩ ⟨c,hs,.inr hc⟩
  ·exact(hs.2 b (ZK (ZR (aaN e) (I.ok.JG x c P1 hc)))).trans (I.base.keep b o e n hb hx)
  ·obtain⟨sl,e1⟩:=I.base.slot b o e n hb hx;exact⟨sl,(hs.2 b (ZK (ZR (aaN e) (I.ok.JG x c P1 hc)))).trans e1⟩
  ·obtain⟨o',e1⟩:=I.base.there b o e hx;exact⟨o',(hs.2 b (ZK (ZR (aaN e) (I.ok.JG x c P1 hc)))).trans e1⟩
  ·by_cases hj:j=i
   ·subst hj;rw[hi] at e1;cases e1;rw[List.getElem?_set_self MH] at e2;cases e2;exact⟨u,r,.inr ⟨.inl hk,c,hc,ON⟩⟩
   ·rw[List.getElem?_set_ne (Ne.symm hj)] at e2;obtain⟨u',r',q⟩:=hl j y v' e1 e2 e3;refine⟨u',r',?_⟩;rcases q with q | ⟨k,c',e,z'⟩
    ·exact .inl q
    ·refine .inr ⟨k,c',e,z'.sameBut hs ?_⟩;rintro rfl;exact hj (qW hN e1 (I.ok.inj _ _ _ e hc▸hi))
  ·by_cases MJ:c'=c
   ·subst MJ;exact⟨_,ON⟩
   ·obtain⟨w2,z2⟩:=I.cell y c' e;exact⟨w2,z2.sameBut hs MJ⟩
  ·obtain⟨e,n,ne,nf,d⟩:=I.pin p hp;refine⟨(hs.2 p.1 ?_).trans e,n,ne,nf,d⟩;intro q;rw[q,Sx] at e;have q':oc=p.2:=ZU e;exact d w' (by rw[<-q'];exact P2)
theorem gS {M:Model} {A:Around} {E:Value->Shared->Prop} {i:Nat} {x:Str} {v:V} {u:Value} {Q:Unit->Shared->Prop} (I:Inv X pins σ H s) (hN:X.N.Nodup) (hi:X.N[i]?=some x) (hx:Loc X.env.scope x) (r:RelV v u)
  (h:∀s',Inv X pins (σ.set i (some v)) H s'->Q () s') (hf:X.fn x=true\/X.env.scope.names.lookup x=some .local:=by first | exact .inl rfl | exact .inr rfl | assumption):wpAny M A (storeName X.env x u) Q E s:=
 uX I hN hi hx r (λs' I' _=>h s' I') hf
theorem Inv.IF {s':Shared} {ch:List Addr} (I:Inv X pins σ H s) (ho:s'.os=s.os) (u:Un (gy X.stack) ch H H' s.heap s'.heap) (bU:gR X.prog X.w H' s'.heap) (hg:AllBare s'.gens)
  (Gc:∀b∈ch,(b∈X.ex\/X.s₀.heap.objs.size<=b)/\b≠X.env.locals/\(∀x c,X.env.cells.lookup x=some c->c≠b)/\∀p∈X.pn++pins,p.1≠b):Inv X pins σ H' s':=by
 obtain⟨h',g',d',t',o'⟩:=s';have e:o'=s.os:=ho;subst e;exact I.call (g':=g') (t':=t') (d':=d') u bU hg Gc
end
abbrev XK:=Value->Option Addr->Hp->Prop
abbrev St:=List (Option V)
abbrev VK:=V->Hp->Prop
abbrev TE:=St->Hp->VK->Prop
abbrev TT:=St->Hp->(Bool->Hp->Prop)->Prop
abbrev TA:=St->Hp->(List V->Hp->Prop)->Prop
structure Ends where
 nx:St->Hp->Prop
 rt:VK
 bk:St->Hp->Prop:=λ_ _=>False
 ct:St->Hp->Prop:=λ_ _=>False
abbrev TS:=Ends->St->Hp->Prop
noncomputable def EP (X:Cx) (pins:List (Addr×Obj)) (σ:St) (Q:VK) (u:Value) (s':Shared):Prop:=∃v H',Inv X pins σ H' s'/\RelV v u/\Q v H'
noncomputable def TP (X:Cx) (pins:List (Addr×Obj)) (σ:St) (Q:Bool->Hp->Prop) (b:Bool) (s':Shared):Prop:=∃H',Inv X pins σ H' s'/\Q b H'
noncomputable def AP (X:Cx) (pins:List (Addr×Obj)) (σ:St) (Q:List V->Hp->Prop) (us:List Value) (s':Shared):Prop:=∃vs H',Inv X pins σ H' s'/\bC vs us/\Q vs H'
noncomputable def SP (X:Cx) (pins:List (Addr×Obj)) (D:Ends) (f:Flow) (s':Shared):Prop:=
 match f with
 | .next=>∃σ' H',Inv X pins σ' H' s'/\D.nx σ' H'
 | .brk=>∃σ' H',Inv X pins σ' H' s'/\D.bk σ' H'
 | .cont=>∃σ' H',Inv X pins σ' H' s'/\D.ct σ' H'
 | .ret u=>∃v σ' H',Inv X pins σ' H' s'/\RelV v u/\D.rt v H'
noncomputable def PE (X:Cx) (e:Expr) (t:TE):Prop:=
 ∀(pins:List (Addr×Obj)) (s:Shared) (σ:St) (H:Hp) (Q:VK),Inv X pins σ H s->t σ H Q->wpAny (model X.prog X.w) X.A (eval e X.env) (EP X pins σ Q) X.xe s
noncomputable def PT (X:Cx) (e:Expr) (t:TT):Prop:=
 ∀(pins:List (Addr×Obj)) (s:Shared) (σ:St) (H:Hp) (Q:Bool->Hp->Prop),Inv X pins σ H s->t σ H Q->wpAny (model X.prog X.w) X.A (isTrue e X.env (eval e X.env)) (TP X pins σ Q) X.xe s
noncomputable def PW (X:Cx) (e:Expr) (t:TT):Prop:=
 ∀(whole:Sem Value) (pins:List (Addr×Obj)) (s:Shared) (σ:St) (H:Hp) (Q:Bool->Hp->Prop),Inv X pins σ H s->t σ H Q->wpAny (model X.prog X.w) X.A (isTrue e X.env whole) (TP X pins σ Q) X.xe s
theorem PW.pt {X:Cx} {e:Expr} {t:TT} (h:PW X e t):PT X e t:=h _
noncomputable def PA (X:Cx) (es:List Expr) (t:TA):Prop:=
 ∀(pos:Pos) (pins:List (Addr×Obj)) (s:Shared) (σ:St) (H:Hp) (Q:List V->Hp->Prop),Inv X pins σ H s->t σ H Q->wpAny (model X.prog X.w) X.A (spliced (backTo pos (starEach es X.env))) (AP X pins σ Q) X.xe s
noncomputable def PS (X:Cx) (st:Stmt) (t:TS):Prop:=
 ∀(pins:List (Addr×Obj)) (s:Shared) (σ:St) (H:Hp) (D:Ends),Inv X pins σ H s->t D σ H->wpAny (model X.prog X.w) X.A (exec st X.env) (SP X pins D) X.xe s
noncomputable def xy (X:Cx) (st:List Stmt) (t:TS):Prop:=
 ∀(pins:List (Addr×Obj)) (s:Shared) (σ:St) (H:Hp) (D:Ends),Inv X pins σ H s->t D σ H->wpAny (model X.prog X.w) X.A (execs st X.env) (SP X pins D) X.xe s
theorem cG {α:Type} {t:Sem α} {Q Q':α->Shared->Prop} {M:Model} {A:Around} {E:Value->Shared->Prop} {s:Shared} (h:wpAny M A t Q E s) (hQ:∀a s,Q a s->Q' a s):wpAny M A t Q' E s:=wpAny_mono h hQ λ_ _ x=>x
end L2
namespace L2
open PySem PySem.Spec PyProof.Rows
section
variable {X : Cx}
noncomputable def tVar (i:Nat):TE:=λσ H Q=>∃v,σ[i]?=some (some v)/\Q v H
noncomputable def tC (v:V):TE:=λ_ H Q=>Q v H
theorem JI {i:Nat} {x:Str} {pos:Pos} (hN:X.N[i]?=some x) (hv:PU X.env.scope x) (hd:(x==("__debug__":Str))=false:=by decide) (t5:(x==("__classdict__":Str))=false:=by decide):PE X (.Name x pos) (tVar i):=by
 intro pins s σ H Q I h;obtain⟨v,e,h⟩:=h;obtain⟨m,hn,hl⟩:=I.loc;obtain⟨u,r,l⟩:=hl i x v hN e hv;have fin:EP X pins σ Q u s:=⟨v,H,I,r,h⟩
 rcases l with ⟨hk,hm⟩ | ⟨hk,c,hc,IG⟩
 ·exact wpAny_Name (wpAny_loadName_local I.ok.kind hk hn hm fin) hd
 ·rcases hk with hk | hk
  ·exact wpAny_Name (wpAny_loadName_cell I.ok.kind hk hc IG fin) hd
  ·exact wpAny_Name (wpAny_loadName_free I.ok.kind hk hc IG fin t5) hd
theorem ae {i j pos}:PE X (.Constant (.int i) j pos) (tC (.int i)):=λ_ _ _ H _ I h=>wpAny_Constant_int ⟨.int i,H,I.tok _,⟨_,rfl⟩,h⟩
theorem ky {b j pos}:PE X (.Constant (.bool b) j pos) (tC (.bl b)):=λ_ _ _ H _ I h=>Constant_bool ⟨.bl b,H,I,rfl,h⟩
theorem qX {j pos}:PE X (.Constant .none j pos) (tC .cW):=λ_ _ _ H _ I h=>Constant_none ⟨.cW,H,I,rfl,h⟩
theorem a7 {x j pos}:PE X (.Constant (.str x) j pos) (tC (.str x)):=λ_ _ _ H _ I h=>Calls.Constant_str ⟨.str x,H,I.tok _,⟨_,rfl⟩,h⟩
noncomputable def Gl (X:Cx) (x:Str):Prop:=X.env.kindOf x=some .globalImplicit
theorem mw {E:Value->Shared->Prop} {pins:List (Addr×Obj)} {s:Shared} {σ:St} {H:Hp} {x:Str} {u:Value} {pos:Pos} {Q:Value->Shared->Prop} (I:Inv X pins σ H s) (hg:Gl X x) (hm:X.mg x=some u) (h:Q u s)
  (hd:(x==("__debug__":Str))=false:=by decide):wpAny (model X.prog X.w) X.A (eval (.Name x pos) X.env) Q E s:=
 Calls.Name_function_global I.ok.kind hg (Calls.loadGlobal_global (by rw[I.ok.glob];exact I.mod.glob.keeps I.bk) hm h) hd
theorem gI {E:Value->Shared->Prop} {pins:List (Addr×Obj)} {s:Shared} {σ:St} {H:Hp} {x:Str} {u:Value} {pos:Pos} {Q:Value->Shared->Prop} (I:Inv X pins σ H s) (hg:Gl X x) (hm:X.mg x=none) (hv:bootBuiltins x=some u) (h:Q u s)
  (hn:x≠"__name__":=by decide) (hd:(x==("__debug__":Str))=false:=by decide):wpAny (model X.prog X.w) X.A (eval (.Name x pos) X.env) Q E s:=by
 obtain⟨mb,h1,h2⟩:=I.mod.blt;exact Calls.Name_function_global I.ok.kind hg (Calls.loadGlobal_builtin (by rw[I.ok.glob];exact I.mod.glob.keeps I.bk) hm (by rw[I.ok.blt];exact h1.keeps I.bk) ((h2 x hn).trans hv) h) hd
theorem fH {x:Str} {v:V} {u:Value} {pos:Pos} (hg:Gl X x) (hm:X.mg x=some u) (r:RelV v u) (hd:(x==("__debug__":Str))=false:=by decide):PE X (.Name x pos) (tC v):=
 λ_ _ _ H _ I h=>mw I hg hm ⟨v,H,I,r,h⟩ hd
theorem my {x:Str} {v:V} {u:Value} {pos:Pos} (hg:Gl X x) (hm:X.mg x=none) (hv:bootBuiltins x=some u) (r:RelV v u) (hn:x≠"__name__":=by decide) (hd:(x==("__debug__":Str))=false:=by decide):PE X (.Name x pos) (tC v):=
 λ_ _ _ H _ I h=>gI I hg hm hv ⟨v,H,I,r,h⟩ hn hd
noncomputable def UH (ta tb:TE) (k:Int->Int->Hp->Prop):St->Hp->Prop:=λσ H=>ta σ H λx H1=>tb σ H1 λy H2=>∃i j,x=.int i/\y=.int j/\k i j H2
variable {a b : Expr} {ta tb : TE} {pos : Pos}
noncomputable def PC (X:Cx) (op:CmpOp) (a b:Expr) (t:TE):Prop:=
 ∀(pins:List (Addr×Obj)) (s:Shared) (σ:St) (H:Hp) (Q:VK),Inv X pins σ H s->t σ H Q->
  wpAny (model X.prog X.w) X.A (eval a X.env) (λv s₁=>wpAny (model X.prog X.w) X.A (eval b X.env) (λu s₂=>wpAny (model X.prog X.w) X.A (compareOp op v u) (EP X pins σ Q) X.xe s₂) X.xe s₁) X.xe s
theorem Dq (b:Expr) {op:CmpOp} (h:op≠.In) (h2:op≠.NotIn):behindInMarks op b=false:=by
 have e1:(op==CmpOp.In)=false:=by cases op <;>first | rfl | exact absurd rfl h
 have e2:(op==CmpOp.NotIn)=false:=by cases op <;>first | rfl | exact absurd rfl h2
 cases b <;>simp [behindInMarks,e1,e2]
noncomputable def Cc (p:Int->Int->Bool) (ta tb:TE):TE:=λσ H Q=>UH ta tb (λi j H2=>Q (.bl (p i j)) H2) σ H
abbrev Yk:TE->TE->TE:=Cc λi j=>decide (i<j)
abbrev Yl:TE->TE->TE:=Cc λi j=>decide (i<=j)
abbrev Ym:TE->TE->TE:=Cc λi j=>decide (j<i)
abbrev Yn:TE->TE->TE:=Cc λi j=>decide (j<=i)
abbrev UI:TE->TE->TE:=Cc λi j=>decide (i=j)
abbrev UJ:TE->TE->TE:=Cc λi j=>!decide (i=j)
noncomputable def tB (t:TE):TT:=λσ H Q=>t σ H λx H1=>∃c,x=.bl c/\Q c H1
theorem Dr {op:CmpOp} {t:TE} (h:PC X op a b t) (h1:behindInMarks op b=false:=by first | exact Dq _ (by decide) (by decide) | rfl):PT X (.Compare a [op] [b] pos) (tB t):=by
 intro pins s σ H Q I hw;refine wpAny_isTrue_Compare1 (cG (h pins s σ H _ I hw) λv s1 h1=>cG h1 λu s2 h2=>cG h2 λc s3 dC=>?_) h1;obtain⟨x,H1,I1,r1,q1⟩:=dC;obtain⟨d,rfl,q⟩:=q1;cases r1;exact wpAny_truthy_bool ⟨H1,I1,q⟩
theorem ie {e:Expr} {t:TE} (h:PE X e t) (he:∀whole,isTrue e X.env whole=(do let v <-whole;standAt e.pos;holding [v] (truthy v)):=by intro _;rfl):PT X e (tB t):=by
 intro pins s σ H Q I hw;refine isTrue_plain (cG (h pins s σ H _ I hw) λv s1 dC=>?_) (he _);obtain⟨x,H1,I1,r1,q1⟩:=dC;obtain⟨d,rfl,q⟩:=q1;cases r1;exact wpAny_truthy_bool ⟨H1,I1,q⟩
variable {tA OO : TT} {rest : List Expr}
noncomputable def tAnd (t u:TT):TT:=λσ H Q=>t σ H λc H1=>if c=true then u σ H1 Q else Q false H1
noncomputable def tOr (t u:TT):TT:=λσ H Q=>t σ H λc H1=>if c=true then Q true H1 else u σ H1 Q
noncomputable def tNot (t:TT):TT:=λσ H Q=>t σ H λc H1=>Q (!c) H1
theorem pw_and1 (ha:PT X a tA):PW X (.BoolOp .And [a] pos) tA:=by
 intro wh pins s σ H Q I h;refine isTrue_and (cG (ha pins s σ H Q I h) λc s1 e=>?_);cases c with
 | true=>exact isTrue_and_nil e
 | false=>exact e
theorem pw_or1 (ha:PT X a tA):PW X (.BoolOp .Or [a] pos) tA:=by
 intro wh pins s σ H Q I h;refine isTrue_or (cG (ha pins s σ H Q I h) λc s1 e=>?_);cases c with
 | false=>exact isTrue_or_nil e
 | true=>exact e
theorem pw_and (ha:PT X a tA) (hb:PW X (.BoolOp .And (b::rest) pos) OO):PW X (.BoolOp .And (a::b::rest) pos) (tAnd tA OO):=by
 intro wh pins s σ H Q I h;refine isTrue_and (cG (ha pins s σ H _ I h) λc s1 ⟨H1,I1,q1⟩=>?_);cases c with
 | true=>exact hb wh pins s1 σ H1 Q I1 q1
 | false=>exact⟨H1,I1,q1⟩
theorem pw_or (ha:PT X a tA) (hb:PW X (.BoolOp .Or (b::rest) pos) OO):PW X (.BoolOp .Or (a::b::rest) pos) (tOr tA OO):=by
 intro wh pins s σ H Q I h;refine isTrue_or (cG (ha pins s σ H _ I h) λc s1 ⟨H1,I1,q1⟩=>?_);cases c with
 | true=>exact⟨H1,I1,q1⟩
 | false=>exact hb wh pins s1 σ H1 Q I1 q1
theorem vE (ha:PT X a tA):PT X (.UnaryOp .Not a pos) (tNot tA):=by
 intro pins s σ H Q I h;exact isTrue_not (ha pins s σ H (λc H1=>Q (!c) H1) I h)
noncomputable def tAndV (ta tb:TE):TE:=λσ H Q=>ta σ H λx H1=>∃c,x=.bl c/\if c=true then tb σ H1 Q else Q (.bl false) H1
noncomputable def tNotV (ta:TE):TE:=λσ H Q=>ta σ H λx H1=>∃c,x=.bl c/\Q (.bl (!c)) H1
theorem zt {op} {t:TE} (h:PE X a t):PE X (.BoolOp op [a] pos) t:=λpins s σ H Q I hw=>BoolOp_one (h pins s σ H Q I hw)
theorem vF (ha:PE X a ta) (hb:PE X (.BoolOp .And (b::rest) pos) tb):PE X (.BoolOp .And (a::b::rest) pos) (tAndV ta tb):=by
 intro pins s σ H Q I h;refine BoolOp_and (cG (ha pins s σ H _ I h) λv s1 dC=>?_);obtain⟨x,H1,I1,r1,q1⟩:=dC;obtain⟨c,rfl,q1⟩:=q1;cases r1;refine wpAny_truthy_bool ?_;cases c with
 | true=>exact hb pins s1 σ H1 Q I1 q1
 | false=>exact⟨.bl false,H1,I1,rfl,q1⟩
theorem Ds (ha:PE X a ta):PE X (.UnaryOp .Not a pos) (tNotV ta):=by
 intro pins s σ H Q I h;refine UnaryOp_ (cG (ha pins s σ H _ I h) λv s1 dC=>?_);obtain⟨x,H1,I1,r1,q1⟩:=dC;obtain⟨c,rfl,q1⟩:=q1;cases r1;exact not_of (wpAny_truthy_bool ⟨.bl (!c),H1,I1,rfl,q1⟩)
noncomputable def tIf (t:TT) (ta tb:TE):TE:=λσ H Q=>t σ H λc H1=>if c=true then ta σ H1 Q else tb σ H1 Q
theorem mz {c:Expr} (hc:PT X c tA) (ha:PE X a ta) (hb:PE X b tb):PE X (.IfExp c a b pos) (tIf tA ta tb):=by
 intro pins s σ H Q I h;refine wpAny_IfExp (cG (hc pins s σ H _ I h) λd s1 ⟨H1,I1,q1⟩=>?_);cases d with
 | true=>exact ha pins s1 σ H1 Q I1 q1
 | false=>exact hb pins s1 σ H1 Q I1 q1
end
end L2
namespace L2
open PySem PySem.Spec PyProof.Rows
noncomputable def bL (K:aaB) (H:Hp) (a:Addr) (xs:List V):Prop:=
 Rd H a (.lst xs)\/
  ∃(o:Obj) (bg:Array Value) (n:Nat),K.lookup a=some o/\o.cls=.type "list"/\o.dict=none/\o.data=.seq bg n/\bg.size<=sizeLine/\bC xs bg.toList
noncomputable def kz (K:aaB) (H:Hp) (a:Addr) (xs:List V):Prop:=
 Rd H a (.tup xs)\/
  ∃(o:Obj) (bg:Array Value) (n:Nat),K.lookup a=some o/\o.cls=.type "tuple"/\o.data=.seq bg n/\bg.size<=sizeLine/\bC xs bg.toList
noncomputable def P4:Value->Option V
 | .none=>some .cW
 | .bool b=>some (.bl b)
 | .int i _=>some (.int i)
 | .str x _=>some (.str x)
 | .bytes b _=>some (.C8 b)
 | .float b _=>some (.JC b)
 | .ref a=>some (.ref a)
 | .type n=>some (.ty n)
 | _=>none
theorem RelV.abs {x:V} {u:Value} (r:RelV x u):P4 u=some x:=by
 cases x with
 | cW=>cases r;rfl
 | bl _=>cases r;rfl
 | int _=>obtain⟨t,rfl⟩:=r;rfl
 | str _=>obtain⟨t,rfl⟩:=r;rfl
 | C8 _=>obtain⟨t,rfl⟩:=r;rfl
 | JC _=>obtain⟨t,rfl⟩:=r;rfl
 | ref _=>cases r;rfl
 | ty _=>cases r;rfl
theorem RelV.inj {x y:V} {u:Value} (r:RelV x u) (q:RelV y u):x=y:=ZU (r.abs.symm.trans q.abs)
theorem bC.inj:∀{xs ys:List V} {us:List Value},bC xs us->bC ys us->xs=ys
 | _,_,_,.nil,.nil=>rfl
 | _,_,_,.cons r t,.cons r' t'=>by rw[r.inj r',bC.inj t t']
section
variable {X : Cx} {pins : List (Addr × Obj)} {σ : St} {H : Hp} {s : Shared} {a : Addr} {xs ys : List V}
theorem bL.of {K:aaB} (h:H a=some (.lst xs)):bL K H a xs:=.inl (.inl h)
theorem kz.of {K:aaB} (h:H a=some (.tup xs)):kz K H a xs:=.inl (.inl h)
theorem Inv.list (I:Inv X pins σ H s) (h:bL X.K H a xs):∃bg:List Value,bC xs bg/\PlainL s.heap a bg.toArray/\xs.length<=sizeLine:=by
 rcases h with h | ⟨o,bg,n,hk,hc,hd,hs,hz,r⟩
 ·obtain⟨z,bg,n,r,e⟩:=h.ok I.bU;exact⟨bg,r,⟨_,n,e,rfl,rfl,rfl⟩,z⟩
 ·refine⟨bg.toList,r,⟨o,n,I.kx a o hk,hc,hd,by simpa using hs⟩,?_⟩;have e:=r.length;simp only[aam] at e;lia
theorem Inv.tuple (I:Inv X pins σ H s) (h:kz X.K H a xs):∃bg:List Value,bC xs bg/\IsTup s.heap a bg.toArray/\xs.length<=sizeLine:=by
 rcases h with h | ⟨o,bg,n,hk,hc,hs,hz,r⟩
 ·obtain⟨z,bg,r,p⟩:=h.ok I.bU;exact⟨bg,r,p,z⟩
 ·refine⟨bg.toList,r,⟨o,I.kx a o hk,hc,n,by simpa using hs⟩,?_⟩;have e:=r.length;simp only[aam] at e;lia
theorem Inv.xA (I:Inv X pins σ H s) (h:bL X.K H a xs) (h':bL X.K H a ys):xs=ys:=by
 obtain⟨bg,r,⟨o,n,e,_,_,d⟩,_⟩:=I.list h;obtain⟨its',r',⟨o',n',e',_,_,d'⟩,_⟩:=I.list h';rw[e] at e';cases e';rw[d] at d'
 injection d' with d1 _
 have:bg=its':=by simpa using congrArg Array.toList d1
 subst this;exact r.inj r'
end
abbrev Cx.iR (X:Cx) (E:Value->Shared->Prop):Cx:={X with xe:=E}
abbrev Cx.A3 (X:Cx):Cx:=X.iR λ_ _=>False
theorem Cx.Ok.iR {X:Cx} (ok:X.Ok) (E:Value->Shared->Prop):(X.iR E).Ok:=
 ⟨ok.mod,ok.kind,ok.glob,ok.blt,ok.above,ok.inj,ok.has,ok.JG,ok.hd,ok.frames,ok.Dl,ok.OL,ok.bs,ok.Dm,ok.zq,ok.Cb,ok.mr,ok.Gy⟩
theorem Cx.Ok.d8 {X:Cx} {E:Value->Shared->Prop} (ok:(X.iR E).Ok):X.Ok:=
 ⟨ok.mod,ok.kind,ok.glob,ok.blt,ok.above,ok.inj,ok.has,ok.JG,ok.hd,ok.frames,ok.Dl,ok.OL,ok.bs,ok.Dm,ok.zq,ok.Cb,ok.mr,ok.Gy⟩
section
variable {X : Cx} {pins : List (Addr × Obj)} {σ : St} {H : Hp} {s : Shared} {E : Value -> Shared -> Prop}
theorem Inv.iR (I:Inv X pins σ H s) (E:Value->Shared->Prop):Inv (X.iR E) pins σ H s:=⟨I.ok.iR E,I.os,I.bare,I.base,I.loc,I.cell,I.free,I.fR,I.pin,I.bU,I.len⟩
theorem Inv.d8 (I:Inv (X.iR E) pins σ H s):Inv X pins σ H s:=⟨I.ok.d8,I.os,I.bare,I.base,I.loc,I.cell,I.free,I.fR,I.pin,I.bU,I.len⟩
theorem SP.d8 {D:Ends} {f:Flow} {s':Shared} (h:SP (X.iR E) pins D f s'):SP X pins D f s':=by
 cases f with
 | next=>obtain⟨σ',H',I,q⟩:=h;exact⟨σ',H',I.d8,q⟩
 | brk=>obtain⟨σ',H',I,q⟩:=h;exact⟨σ',H',I.d8,q⟩
 | cont=>obtain⟨σ',H',I,q⟩:=h;exact⟨σ',H',I.d8,q⟩
 | ret u=>obtain⟨v,σ',H',I,r,q⟩:=h;exact⟨v,σ',H',I.d8,r,q⟩
theorem xy.A3 {st:List Stmt} {t:TS} (h:xy X.A3 st t):xy X st t:=λpins s σ H D I hw=>
 wpAny_mono (h pins s σ H D (I.iR _) hw) (λ_ _ q=>q.d8) λ_ _ z=>False.elim z
end
section
variable {X : Cx} {st : Stmt} {rest : List Stmt} {t u : TS} {e : Expr} {te : TE} {pos : Pos}
noncomputable def tNext:TS:=λD σ H=>D.nx σ H
noncomputable def tSeq (t u:TS):TS:=λD σ H=>t {D with nx:=u D} σ H
theorem ba:xy X [] tNext:=λ_ _ σ H _ I h=>wpAny_execs_nil ⟨σ,H,I,h⟩
theorem ah (h1:PS X st t) (h2:xy X rest u):xy X (st::rest) (tSeq t u):=by
 intro pins s σ H D I h;refine wpAny_execs_cons (cG (h1 pins s σ H {D with nx:=u D} I h) λf s1 q=>?_);cases f with
 | next=>
  obtain⟨σ',H',I',q⟩:=q;exact h2 pins s1 σ' H' D I' q
 | ret v=>exact q
 | brk=>exact q
 | cont=>exact q
theorem ao (h1:PS X st t):xy X [st] t:=by
 intro pins s σ H D I h;refine wpAny_execs_cons (cG (h1 pins s σ H D I h) λf s1 q=>?_);cases f with
 | next=>exact wpAny_execs_nil q
 | ret v=>exact q
 | brk=>exact q
 | cont=>exact q
noncomputable def Dt:TS:=λD σ H=>D.bk σ H
theorem xB:PS X (.Break pos) Dt:=λ_ _ σ H _ I h=>wpAny_Break ⟨σ,H,I,h⟩
theorem Inv.quiet {pins:List (Addr×Obj)} {σ:St} {H:Hp} {s:Shared} (I:Inv X pins σ H s):interactive X.env=false:=by simp [interactive,I.ok.kind]
noncomputable def tDrop (te:TE):TS:=λD σ H=>te σ H λ_ H1=>D.nx σ H1
theorem b6 (he:PE X e te) (hs:swapsWith e none pos.line X.env=pure false:=by rfl):PS X (.Expr e pos) (tDrop te):=by
 intro pins s σ H D I h;exact wpAny_Expr_any (cG (he pins s σ H _ I h) λv s1 ⟨x,H1,I1,r1,q1⟩=>⟨σ,H1,I1,q1⟩) I.quiet hs
noncomputable def tRet (te:TE):TS:=λD σ H=>te σ H D.rt
theorem aY (he:PE X e te):PS X (.Return (some e) pos) (tRet te):=by
 intro pins s σ H D I h;exact wpAny_Return_some (cG (he pins s σ H _ I h) λv s1 ⟨x,H1,I1,r1,q1⟩=>⟨x,σ,H1,I1,r1,q1⟩)
noncomputable def tIfS (c:TT) (t u:TS):TS:=λD σ H=>c σ H λb H1=>if b=true then t D σ H1 else u D σ H1
theorem bw {c:Expr} {a b:List Stmt} {tc:TT} (hc:PT X c tc) (ha:xy X a t) (hb:xy X b u):PS X (.If c a b pos) (tIfS tc t u):=by
 intro pins s σ H D I h;refine wpAny_If (cG (hc pins s σ H _ I h) λd s1 ⟨H1,I1,q1⟩=>?_);cases d with
 | true=>exact ha pins s1 σ H1 D I1 q1
 | false=>exact hb pins s1 σ H1 D I1 q1
end
abbrev TG:=V->St->Hp->(St->Hp->Prop)->Prop
abbrev IH:=List V->St->Hp->(St->Hp->Prop)->Prop
noncomputable def PG (X:Cx) (target:Expr) (t:TG):Prop:=
 ∀(pins:List (Addr×Obj)) (s:Shared) (σ:St) (H:Hp) (v:V) (u:Value) (Q:St->Hp->Prop),Inv X pins σ H s->RelV v u->t v σ H Q->
  wpAny (model X.prog X.w) X.A (assign target X.env u) (λ_ s'=>∃σ' H',Inv X pins σ' H' s'/\Q σ' H') X.xe s
noncomputable def L9 (X:Cx) (ts:List Expr) (t:IH):Prop:=
 ∀(pins:List (Addr×Obj)) (s:Shared) (σ:St) (H:Hp) (vs:List V) (us:List Value) (Q:St->Hp->Prop),Inv X pins σ H s->bC vs us->t vs σ H Q->
  wpAny (model X.prog X.w) X.A (assignInOrder ((assignEach ts X.env).map (·.2)) us) (λ_ s'=>∃σ' H',Inv X pins σ' H' s'/\Q σ' H') X.xe s
abbrev JJ:=V->V->V->Hp->(Hp->Prop)->Prop
noncomputable def MK (X:Cx) (t:JJ):Prop:=
 ∀(pins:List (Addr×Obj)) (s:Shared) (σ:St) (H:Hp) (o i v:V) (ov iv u:Value) (Q:Hp->Prop),Inv X pins σ H s->RelV o ov->RelV i iv->RelV v u->t o i v H Q->
  wpAny (model X.prog X.w) X.A (setItem ov iv u) (λ_ s'=>∃H',Inv X pins σ H' s'/\Q H') X.xe s
abbrev Yo:=V->V->Hp->VK->Prop
section
variable {X : Cx} {pos : Pos}
noncomputable def gName (i:Nat):TG:=λv σ H Q=>Q (σ.set i (some v)) H
theorem a9 {i:Nat} {x:Str} (hN:X.N.Nodup) (hi:X.N[i]?=some x) (hx:Loc X.env.scope x) (hf:X.fn x=true\/X.env.scope.names.lookup x=some .local:=by first | exact .inl rfl | exact .inr rfl | assumption):PG X (.Name x pos) (gName i):=by
 intro pins s σ H v u Q I r h;exact wpAny_assign_Name (gS I hN hi hx r (λs' I'=>⟨_,H,I',h⟩) hf)
noncomputable def gNil:IH:=λvs σ H Q=>vs=[]/\Q σ H
noncomputable def gCons (t:TG) (u:IH):IH:=λvs σ H Q=>∃v r,vs=v::r/\t v σ H λσ' H'=>u r σ' H' Q
theorem fI:L9 X [] gNil:=by
 intro pins s σ H vs us Q I r h;obtain⟨e,h⟩:=h;subst e;cases r;exact assignInOrder_nil ⟨σ,H,I,h⟩
theorem bX {e:Expr} {es:List Expr} {t:TG} {u:IH} (h1:PG X e t) (h2:L9 X es u)
  (hs:(assignEach (e::es) X.env).map (·.2)=assign e X.env::(assignEach es X.env).map (·.2):=by rfl):L9 X (e::es) (gCons t u):=by
 intro pins s σ H vs us Q I r h;obtain⟨v,vr,e1,h⟩:=h;subst e1;cases r with
 | cons r rr=>
  rw[hs];refine assignInOrder_cons (cG (h1 pins s σ H _ _ _ I r h) λ_ s1 ⟨σ1,H1,I1,q1⟩=>?_);exact h2 pins s1 σ1 H1 _ _ Q I1 rr q1
noncomputable def Cd (K:aaB) (n:Nat) (t:IH):TG:=λv σ H Q=>∃a xs,v=.ref a/\kz K H a xs/\xs.length=n/\t xs σ H Q
theorem JK {es:List Expr} {k:Nat} {t:IH} {n:Nat} (hc:X.calm=true) (h:L9 X es t)
  (hn:(assignEach es X.env).length=n:=by rfl) (hst:(assignEach es X.env).findIdx? (·.1)=none:=by rfl):PG X (.Tuple es k pos) (Cd X.K n t):=by
 intro pins s σ H v u Q I r hw;obtain⟨a,xs,e1,hq,hl,hw⟩:=hw;subst e1;cases r;obtain⟨bg,rv,ht,hz⟩:=I.tuple hq;refine assign_Tuple_tuple (I.ok.hd hc) ht (by simp [hn,<-hl,rv.length]) hst λh' hx=>?_;have I1:Inv X pins σ H {s with heap:=h'}:=I.kept (t':=s.toks) λb o e=>hx b o (ZK (aaN e)) e;exact h pins _ σ H xs _ Q I1 (by simpa using rv) hw
noncomputable def gSub (to ti:TE) (t:JJ):TG:=λv σ H Q=>to σ H λo H1=>ti σ H1 λi H2=>t o i v H2 λH3=>Q σ H3
theorem Du {o i:Expr} {to ti:TE} {t:JJ} (ho:PE X o to) (hi:PE X i ti) (hs:MK X t)
  (ha:∀v,assign (.Subscript o i pos) X.env v=(do
   let ov <-holding [v] (eval o X.env);let iv <-holding [v,ov] (eval i X.env)
   standAt pos
   holding [v,ov,iv] (setItem ov iv v)
   release [v,ov,iv] []):=by intro _;rfl):PG X (.Subscript o i pos) (gSub to ti t):=by
 intro pins s σ H v u Q I r h;rw[ha];refine wpAny_bind (wpAny_holding (cG (ho pins s σ H _ I h) λov s1 dC=>?_));obtain⟨x,H1,I1,r1,q1⟩:=dC;refine wpAny_bind (wpAny_holding (cG (hi pins s1 σ H1 _ I1 q1) λiv s2 dC=>?_));obtain⟨y,H2,I2,r2,q2⟩:=dC;refine wpAny_bind (wpAny_standAt (wpAny_bind (wpAny_holding (cG (hs pins s2 σ H2 x y v ov iv u _ I2 r1 r2 r q2) λ_ s3 ⟨H3,I3,q3⟩=>?_))));exact wpAny_release ⟨σ,H3,I3,q3⟩
noncomputable def tAsg (te:TE) (g:TG):TS:=λD σ H=>te σ H λx H1=>g x σ H1 D.nx
theorem Dv {tg e:Expr} {te:TE} {g:TG} (he:PE X e te) (hg:PG X tg g) (hs:swapsWithSole [tg] e pos.line X.env=pure false:=by rfl) (hw:swappedStores [tg] e X.env=pure none:=by rfl)
  (h1:(assignEach [tg] X.env).map (·.2)=[assign tg X.env]:=by rfl):PS X (.Assign [tg] e pos) (tAsg te g):=by
 intro pins s σ H D I h;refine wpAny_Assign_stores (cG (he pins s σ H _ I h) λv s1 dC=>?_) hs hw;obtain⟨x,H1,I1,r1,q1⟩:=dC;rw[h1];exact cG (hg pins s1 σ H1 x v _ I1 r1 q1) λ_ s2 q=>q
theorem aJ {i:Nat} {x:Str} {e:Expr} {te:TE} {pos':Pos} (hN:X.N.Nodup) (hi:X.N[i]?=some x) (hx:Loc X.env.scope x) (he:PE X e te) (hs:swapsWith e (some (.Name x pos')) pos.line X.env=pure false:=by rfl) (hf:X.fn x=true\/X.env.scope.names.lookup x=some .local:=by first | exact .inl rfl | exact .inr rfl | assumption):
  PS X (.Assign [.Name x pos'] e pos) (tAsg te (gName i)):=by
 intro pins s σ H D I h;refine wpAny_Assign_Name (cG (he pins s σ H _ I h) λv s1 dC=>?_) hs;obtain⟨y,H1,I1,r1,q1⟩:=dC;exact gS I1 hN hi hx r1 (λs2 I2=>⟨_,H1,I2,q1⟩) hf
noncomputable def tPar (i j:Nat) (ta:TA):TS:=λD σ H=>ta σ H λvs H1=>∃v w,vs=[v,w]/\D.nx ((σ.set i (some v)).set j (some w)) H1
theorem JL {i j:Nat} {x y:Str} {a b:Expr} {ta:TA} {px py pt:Pos} {kt k2 P5} (hc:X.calm=true) (hN:X.N.Nodup) (hi:X.N[i]?=some x) (hj:X.N[j]?=some y) (UK:i≠j)
  (hx:X.env.scope.names.lookup x=some .local) (hy:X.env.scope.names.lookup y=some .local) (ha:PA X [a,b] ta)
  (hw:swappedStores [.Tuple [.Name x px,.Name y py] kt pt] (.Tuple [a,b] k2 P5) X.env=pure (some [x,y]))
  (hs:swapsWithSole [.Tuple [.Name x px,.Name y py] kt pt] (.Tuple [a,b] k2 P5) pos.line X.env=pure false:=by rfl):
  PS X (.Assign [.Tuple [.Name x px,.Name y py] kt pt] (.Tuple [a,b] k2 P5) pos) (tPar i j ta):=by
 intro pins s σ H D I h;rw[exec_Assign_arm];refine wpAny_bind (wpAny_standAt ?_);rw[hs];refine wpAny_bind (wpAny_pure ?_);rw[if_neg ∅];refine wpAny_bind (Tuple_ (cG (ha _ pins s σ H _ I h) λus s1 dC=>?_));obtain⟨vs,H1,I1,r1,q1⟩:=dC;obtain⟨v,w,e1,q1⟩:=q1;subst e1;obtain⟨u1,u2,rfl,rv,Ce⟩:∃u1 u2,us=[u1,u2]/\RelV v u1/\RelV w u2:=by
  cases r1 with
  | cons p q=>
   cases q with
   | cons p' q'=>
    cases q';exact⟨_,_,rfl,p,p'⟩
 refine wpAny_newObj_type ?_ (by show 2<=sizeLine;decide);have I2:Inv X pins σ H1 {s1 with heap:=s1.heap.push {cls:=.type "tuple",data:=.seq [u1,u2].toArray}}:=I1.kept (t':=s1.toks) λb o e=>aaL _ e;rw[hw];refine wpAny_bind (wpAny_pure ?_);show wpAny (model X.prog X.w) X.A (do rule "assign.swapped-stores";let items <-unpackItems (.ref s1.heap.objs.size) 2 none;assignInOrder [λv=>bindName X.env y v,λv=>bindName X.env x v] items.reverse;pure Flow.next) _ _ _;refine wpAny_bind (wpAny_rule (wpAny_bind (unpackItems_tuple (items:=#[u1,u2]) (I.ok.hd hc) (IsTup.new s1.heap _) λh' ML=>?_)));have I3:=I2.kept (h':=h') (t':=s1.toks) λb o e=>ML b o (ZK (aaN e)) e;show wpAny _ _ (assignInOrder [λv=>bindName X.env y v,λv=>bindName X.env x v] [u2,u1] >>=λ_=>pure Flow.next) _ _ _;refine wpAny_bind (assignInOrder_cons (wpAny_bindName (gS I3 hN hj (.inl hy) Ce (λs2 I4=>?_) (.inr hy))));refine assignInOrder_cons (wpAny_bindName (gS I4 hN hi (.inl hx) rv (λs3 I5=>assignInOrder_nil (wpAny_pure ?_)) (.inr hx)));rw[List.set_comm _ _ (Ne.symm UK)] at I5;exact⟨_,H1,I5,q1⟩
end
section
variable {X : Cx} {pos : Pos}
noncomputable def zu (c:TT) (tb:TS):TS:=λD σ H=>∃W:Nat->St->Hp->Prop,(∃m,W m σ H)/\∀m σ H,W m σ H->
 c σ H λb H1=>if b=true then ∃N:St->Hp->Prop,(∀σ' H',N σ' H'->∃m',m'<m/\W m' σ' H')/\tb {D with nx:=N,ct:=N,bk:=D.nx} σ H1 else D.nx σ H1
theorem mB {c:Expr} {body:List Stmt} {tc:TT} {tb:TS} (hp:PassesOwn (model X.prog X.w) X.A X.env X.xe) (hc:PT X c tc) (hb:xy X body tb):PS X (.While c body [] pos) (zu tc tb):=by
 intro pins s σ H D I h;obtain⟨W,⟨m0,w0⟩,turn⟩:=h;refine wpAny_While (codeAny_whileLoop (λn s'=>∃σ' H',Inv X pins σ' H' s'/\W n σ' H') ?_ m0 ⟨σ,H,I,w0⟩);rintro n s1 ⟨σ1,H1,I1,w1⟩;refine wpAny_passesOwn hp (cG (hc pins s1 σ1 H1 _ I1 (turn n σ1 H1 w1)) λb s2 ⟨H2,I2,q2⟩=>?_);cases b with
 | true=>
  obtain⟨N,hN,q2⟩:=q2;rw[if_pos rfl];refine wpAny_passesOwn hp (cG (hb pins s2 σ1 H2 _ I2 q2) λf s3 q3=>?_);cases f with
  | next=>
   obtain⟨σ3,H3,I3,n3⟩:=q3;obtain⟨m',hm,w3⟩:=hN σ3 H3 n3;exact⟨m',hm,σ3,H3,I3,w3⟩
  | cont=>
   obtain⟨σ3,H3,I3,n3⟩:=q3;obtain⟨m',hm,w3⟩:=hN σ3 H3 n3;exact⟨m',hm,σ3,H3,I3,w3⟩
  | brk=>exact q3
  | ret v=>exact q3
 | false=>
  rw[if_neg ZO];exact wpAny_execs_nil ⟨σ1,H2,I2,q2⟩
end
structure It where
 go:Nat->Hp->Prop
 Cf:Nat->Hp->V->Hp->Prop
 stop:Nat->Hp->Prop
noncomputable def lB (X:Cx) (pins:List (Addr×Obj)) (H:Hp) (b:Addr):Prop:=
 H b=none/\b≠X.env.locals/\b∉X.fs/\(b∈X.ex\/X.s₀.heap.objs.size<=b)/\(∀x c,X.env.cells.lookup x=some c->c≠b)/\∀p∈X.pn++pins,p.1≠b
theorem Inv.GA {X:Cx} {pins:List (Addr×Obj)} {σ:St} {H H':Hp} {s:Shared} {b:Addr} (I:Inv X pins σ H s) (hb:s.heap.objs.size<=b) (hn:H' b=none):lB X pins H' b:=by
 refine⟨hn,Nat.ne_of_gt (ZR I.lt hb),I.PX hb,.inr (ZN I.sz hb),λx c e z=>?_,λp hp z=>?_⟩
 ·obtain⟨v,q⟩:=I.cell x c e;exact absurd (ZR q.lt (by rw[z];exact hb)) (Z6 _)
 ·exact absurd (ZR (aaN (I.pin p hp).1) (by rw[z];exact hb)) (Z6 _)
structure Turn (P:Program) (w:World) (K:aaB) (tg:Expr) (J:It) (fp:List Addr) (it:Addr) (tn:Nat->Heap->Prop):Prop where
 mem:it∈fp
 obj:∀i h,tn i h->∀b∈fp,∃o,h.get? b=some o/\∀v,o.data≠.cell v
 keep:∀i h h',tn i h->(∀b∈fp,∀o,h.get? b=some o->h'.get? b=some o)->tn i h'
 item:∀(X:Cx),X.prog=P->X.w=w->X.K=K->X.calm=true->∀(i:Nat) (pins:List (Addr×Obj)) (s:Shared) (σ:St) (H:Hp) (E:Value->Shared->Prop),Inv X pins σ H s->(∀b∈fp,lB X pins H b)->tn i s.heap->J.go i H->
  wpAny (model P w) X.A (pyNext (.ref it)) (λr s1=>∃u,r=some u/\
   wpAny (model P w) X.A (letOwnedTupleGo tg (.ref it) u) (λ_ s2=>∃x H',Inv X pins σ H' s2/\RelV x u/\J.Cf i H x H'/\tn (i+1) s2.heap/\∀b∈fp,H' b=none) E s1) E s
 done:∀(X:Cx),X.prog=P->X.w=w->X.K=K->X.calm=true->∀(i:Nat) (pins:List (Addr×Obj)) (s:Shared) (σ:St) (H:Hp) (E:Value->Shared->Prop),Inv X pins σ H s->(∀b∈fp,lB X pins H b)->tn i s.heap->J.stop i H->
  wpAny (model P w) X.A (pyNext (.ref it)) (λr s1=>r=none/\Inv X pins σ H s1) E s
 self:∀(A:Around) (i:Nat) (s:Shared) (Q:Value->Shared->Prop) (E:Value->Shared->Prop),tn i s.heap->Q (.ref it) s->wpAny (model P w) A (pyIter (.ref it)) Q E s
abbrev TI:=St->Hp->(It->Hp->Prop)->Prop
noncomputable def Sy (X:Cx) (pins:List (Addr×Obj)) (σ:St) (tg:Expr) (R:It->Hp->Prop) (II:Value) (s2:Shared):Prop:=
 ∃(it:Addr) (fp:List Addr) (tn:Nat->Heap->Prop) (J:It) (H':Hp),II=.ref it/\Inv X pins σ H' s2/\Turn X.prog X.w X.K tg J fp it tn/\tn 0 s2.heap/\(∀b∈fp,lB X pins H' b)/\R J H'
noncomputable def PI (X:Cx) (tg iter:Expr) (wi:TI):Prop:=
 ∀(pins:List (Addr×Obj)) (s:Shared) (σ:St) (H:Hp) (R:It->Hp->Prop),Inv X pins σ H s->wi σ H R->
  wpAny (model X.prog X.w) X.A (eval iter X.env) (λv s1=>wpAny (model X.prog X.w) X.A (pyIter v) (Sy X pins σ tg R) X.xe s1) X.xe s
theorem IJ {M:Model} {A:Around} {E:Value->Shared->Prop} {s:Shared} {tg:Expr} {it:Addr} {u:Value} {o:Obj} {n:String} {vs:Array Value} {Q:Unit->Shared->Prop} (ho:s.heap.get? it=some o) (hc:o.cls=.type n) (hd:o.data=.fields vs)
  (hn:["enumerate","zip","dict_itemiterator","dict_reverseitemiterator","odict_iterator","itertools.zip_longest","itertools.pairwise"].contains n=false) (hQ:Q () s):wpAny M A (letOwnedTupleGo tg (.ref it) u) Q E s:=by
 unfold letOwnedTupleGo;cases tg <;>first
  | exact wpAny_pure hQ
  | (cases u <;>first
    | exact wpAny_pure hQ
    | (refine wpAny_bind (wpAny_load ho ?_)
       rw[hc,hd];show wpAny M A (if (["enumerate","zip","dict_itemiterator","dict_reverseitemiterator","odict_iterator","itertools.zip_longest","itertools.pairwise"].contains n && vs[0]?==some (rawInt _))=true then _ else _) Q E s;rw[if_neg (by intro h;rw[hn,Bool.false_and] at h;cases h)];exact wpAny_pure hQ))
noncomputable def xC (K:aaB) (a:Addr):It:=
 ⟨λi H=>∃xs x,bL K H a xs/\xs[i]?=some x,λi H x H'=>H'=H/\∀xs,bL K H a xs->xs[i]?=some x,λi H=>∃xs,bL K H a xs/\xs.length<=i⟩
noncomputable def UM (K:aaB) (a:Addr):It:=
 ⟨λi H=>∃xs x,kz K H a xs/\xs[i]?=some x,λi H x H'=>H'=H/\∀xs,kz K H a xs->xs[i]?=some x,λi H=>∃xs,kz K H a xs/\xs.length<=i⟩
noncomputable def MM (lo:Int) (n:Nat):It:=⟨λi _=>i<n,λi H x H'=>H'=H/\x=.int (lo+i),λi _=>n<=i⟩
theorem Cg {P:Program} {w:World} {K:aaB} {tg:Expr} (a it:Addr):Turn P w K tg (xC K a) [it] it (λi h=>h.IsListIter it a i) where
 mem:=by simp
 obj:=λi h st b hb=>by
  have e:b=it:=by simpa using hb
  subst e;obtain⟨o,e,c,d⟩:=st;exact⟨o,e,λv z=>by rw[d] at z;cases z⟩
 keep:=λi h h' st k=>st.at λo e=>k it (by simp) o e
 item:=by
  intro X hP hw hK hc i pins s σ H E I hf st hg;subst hP hw hK;obtain⟨xs,x,hq,hx⟩:=hg;obtain⟨bg,rv,p,hz⟩:=I.list hq;obtain⟨u,hu,ru⟩:=rv.get hx;obtain⟨f0,f1,f2,f3,f4,f5⟩:=hf it (by simp);refine wpAny_pyNext_list_item st p.isList (x:=u) (by simpa using hu) λh' gJ sb=>?_;have I1:Inv X pins σ H {s with heap:=h'}:=I.turned (t':=s.toks) (λb o hb e=>(sb.2 b hb).trans e) f0 f1 f3 f4 f5;obtain⟨o,e,c,d⟩:=id gJ;exact⟨u,rfl,IJ (s:={s with heap:=h'}) e c d ∅ ⟨x,H,I1,ru,⟨rfl,λys hy=>by rw[I.xA hy hq];exact hx⟩,gJ,λb hb=>(hf b hb).1⟩⟩
 done:=by
  intro X hP hw hK hc i pins s σ H E I hf st hg;subst hP hw hK;obtain⟨xs,hq,hx⟩:=hg;obtain⟨bg,rv,p,hz⟩:=I.list hq;obtain⟨f0,f1,f2,f3,f4,f5⟩:=hf it (by simp);have hl:=rv.length;exact wpAny_pyNext_list_end (I.ok.hd hc) st p.isList (by simp;lia) λh' eb=>⟨rfl,I.turned (t':=s.toks) (λb o hb e=>eb b o hb e) f0 f1 f3 f4 f5⟩
 self:=λ_ _ _ _ _ st h=>wpAny_pyIter_listiter st h
theorem zv {P:Program} {w:World} {K:aaB} {tg:Expr} (it:Addr) (lo:Int) (n:Nat):Turn P w K tg (MM lo n) [it] it (λi h=>IsRangeIter h it (lo+ (i:Nat)*1) ((n:Int) - (i:Nat)) 1) where
 mem:=by simp
 obj:=λi h st b hb=>by
  have e:b=it:=by simpa using hb
  subst e;exact⟨_,st,λv z=>by
   have z':Data.fields _=Data.cell v:=z;cases z'⟩
 keep:=λi h h' st k=>k it (by simp) _ st
 item:=by
  intro X hP hw hK hc i pins s σ H E I hf st hg;subst hP hw hK;obtain⟨f0,f1,f2,f3,f4,f5⟩:=hf it (by simp);have W:=Walks.range (prog:=X.prog) (w:=X.w) (I.ok.hd hc) it lo 1 n;refine W.item i s _ _ hg st λv h' tk hv gJ kk=>?_;obtain⟨t,rfl⟩:=hv;have I1:Inv X pins σ H {s with heap:=h',toks:=tk}:=I.turned (λb o hb e=>kk b o (by simpa using hb) e) f0 f1 f3 f4 f5;refine⟨_,rfl,IJ (s:={s with heap:=h',toks:=tk}) (n:="range_iterator") gJ rfl rfl ∅ ⟨.int (lo+i),H,I1,⟨t,?_⟩,⟨rfl,rfl⟩,gJ,λb hb=>(hf b hb).1⟩⟩;rw[Int.mul_one]
 done:=by
  intro X hP hw hK hc i pins s σ H E I hf st hg;subst hP hw hK;obtain⟨f0,f1,f2,f3,f4,f5⟩:=hf it (by simp);exact wpAny_pyNext_range_end (I.ok.hd hc) st (by have:n<=i:=hg;lia) λh' eb=>⟨rfl,I.turned (t':=s.toks) (λb o hb e=>eb b o hb e) f0 f1 f3 f4 f5⟩
 self:=λ_ _ _ _ _ st h=>wpAny_pyIter_rangeiter st h
end L2
namespace L2
open PySem PySem.Spec PyProof.Rows
section
variable {X : Cx} {tg : Expr}
noncomputable def iList (K:aaB) (tl:TE):TI:=λσ H R=>tl σ H λx H1=>∃a,x=.ref a/\(∃xs,bL K H1 a xs)/\R (xC K a) H1
theorem GB {l:Expr} {tl:TE} (hl:PE X l tl):PI X tg l (iList X.K tl):=by
 intro pins s σ H R I h;refine cG (hl pins s σ H _ I h) λv s1 dC=>?_;obtain⟨x,H1,I1,r1,q1⟩:=dC;obtain⟨a,e,⟨xs,hq⟩,q⟩:=q1;subst e;cases r1;obtain⟨bg,rv,p,hz⟩:=I1.list hq;refine wpAny_pyIter_list p.isList ?_;refine⟨s1.heap.objs.size,[s1.heap.objs.size],_,_,H1,rfl,I1.kept (t':=s1.toks) λb o e=>aaL _ e,Cg a _,⟨_,aaM _ rfl,rfl,rfl⟩,λb hb=>?_,q⟩;have e:b=s1.heap.objs.size:=by simpa using hb
 subst e;exact I1.GA (ZD _) (I1.bU.fresh (ZD _))
theorem xD {pins:List (Addr×Obj)} {σ:St} {H:Hp} {s:Shared} {R:It->Hp->Prop} {E:Value->Shared->Prop} {lo hi:Int} {t u v:Tok} {tk:Nat} (I:Inv X pins σ H s) (h1:-(2^62)<=lo) (h2:lo<2^62) (h3:-(2^62)<=hi) (h4:hi<2^62)
  (q:R (MM lo (hi - lo).toNat) H):wpAny (model X.prog X.w) X.A (pyIter (.ref s.heap.objs.size)) (Sy X pins σ tg R) E {s with heap:=s.heap.push {cls:=.type "range",data:=.fields #[.int lo t,.int hi u,.int 1 v]},toks:=tk}:=by
 refine wpAny_pyIter_range (IsRange.new ..) (small_one h1 h2 h3 h4) ?_;have I1:Inv X pins σ H {s with heap:=s.heap.push {cls:=.type "range",data:=.fields #[.int lo t,.int hi u,.int 1 v]},toks:=tk}:=I.kept λb o e=>aaL _ e;refine⟨(s.heap.push {cls:=.type "range",data:=.fields #[.int lo t,.int hi u,.int 1 v]}).objs.size,[(s.heap.push {cls:=.type "range",data:=.fields #[.int lo t,.int hi u,.int 1 v]}).objs.size],_,_,H,rfl,
  I1.kept (t':=tk) λb o e=>aaL _ e,zv _ lo (hi - lo).toNat,?_,λb hb=>?_,q⟩
 ·have e1:lo+ ((0:Nat):Int)*1=lo:=by simp
  have e2:(((hi - lo).toNat:Nat):Int) - ((0:Nat):Int)=Builtin.Range.rangeSize lo hi 1:=by rw[rangeSize_one];split <;>lia
  show IsRangeIter _ _ (lo+ ((0:Nat):Int)*1) ((((hi - lo).toNat:Nat):Int) - ((0:Nat):Int)) 1;rw[e1,e2];exact aaM _ rfl
 ·have e:b=(s.heap.push {cls:=.type "range",data:=.fields #[.int lo t,.int hi u,.int 1 v]}).objs.size:=by simpa using hb
  subst e;exact I1.GA (ZD _) (I1.bU.fresh (ZD _))
noncomputable def iRng1 (ta:TA):TI:=λσ H R=>ta σ H λvs H1=>∃j:Int,vs=[.int j]/\-(2^62)<=j/\j<2^62/\R (MM 0 j.toNat) H1
noncomputable def iRng2 (ta:TA):TI:=λσ H R=>ta σ H λvs H1=>∃i j:Int,vs=[.int i,.int j]/\(-(2^62)<=i/\i<2^62/\-(2^62)<=j/\j<2^62)/\R (MM i (j - i).toNat) H1
theorem cN {a:Expr} {ta:TA} {p pos:Pos} (hg:Gl X "range") (hm:X.mg "range"=none) (ha:PA X [a] ta) (hs:starEach [a] X.env=[(false,eval a X.env)]:=by rfl):PI X tg (.Call (.Name "range" p) [a] [] pos) (iRng1 ta):=by
 intro pins s σ H R I h;refine Call_ (gI I hg hm boot_range (aaz (cG (ha pos pins s σ H _ I h) λus s1 dC=>?_) hs rfl));obtain⟨vs,H1,I1,r1,q1⟩:=dC;obtain⟨j,e,q1,q2,q⟩:=q1;subst e;cases r1 with
 | cons r rr=>
  cases rr;obtain⟨t,rfl⟩:=r;exact call_range_1 (xD I1 (by lia) (by lia) q1 q2 (by simpa using q))
theorem Ci {a b:Expr} {ta:TA} {p pos:Pos} (hg:Gl X "range") (hm:X.mg "range"=none) (ha:PA X [a,b] ta) (hs:starEach [a,b] X.env=[(false,eval a X.env),(false,eval b X.env)]:=by rfl) (IK:starEach [b] X.env=[(false,eval b X.env)]:=by rfl):
  PI X tg (.Call (.Name "range" p) [a,b] [] pos) (iRng2 ta):=by
 intro pins s σ H R I h;refine Call_ (gI I hg hm boot_range (aaz (cG (ha pos pins s σ H _ I h) λus s1 dC=>?_) (by rw[hs,IK]) (by rw[IK];rfl)));obtain⟨vs,H1,I1,r1,q1⟩:=dC;obtain⟨i,j,e,⟨q1,q2,q3,q4⟩,q⟩:=q1;subst e;cases r1 with
 | cons r rr=>
  cases rr with
  | cons r' rr=>
   cases rr;obtain⟨t,rfl⟩:=r;obtain⟨t',rfl⟩:=r';exact call_range_2 (xD I1 q1 q2 q3 q4 q)
noncomputable def MN (wi:TI) (g:TG) (tb:TS):TS:=λD σ H=>wi σ H λJ H1=>∃W:Nat->Nat->St->Hp->Prop,(∃m,W 0 m σ H1)/\∀i m σ H,W i m σ H->
 (J.stop i H/\D.nx σ H)\/(J.go i H/\∃N:St->Hp->Prop,(∀σ' H',N σ' H'->∃m',m'<m/\W (i+1) m' σ' H')/\∀x H',J.Cf i H x H'->g x σ H' λσ2 H2=>tb {D with nx:=N,ct:=N,bk:=D.nx} σ2 H2)
noncomputable def qY (fp:List Addr) (h:Heap):List (Addr×Obj):=fp.filterMap λb=>(h.get? b).map λo=>(b,o)
theorem ig {fp:List Addr} {h:Heap} {b:Addr} {o:Obj} (hb:b∈fp) (e:h.get? b=some o):(b,o)∈qY fp h:=List.mem_filterMap.mpr ⟨b,hb,by rw[e];rfl⟩
theorem Cj {fp:List Addr} {h:Heap} {p:Addr×Obj} (hp:p∈qY fp h):p.1∈fp/\h.get? p.1=some p.2:=by
 obtain⟨b,hb,e⟩:=List.mem_filterMap.mp hp;cases q:h.get? b with
 | none=>rw[q] at e;cases e
 | some o=>
  rw[q] at e;have e':(b,o)=p:=ZU e;subst e';exact⟨hb,q⟩
theorem Inv.pinned {pins:List (Addr×Obj)} {σ:St} {H:Hp} {s:Shared} {fp:List Addr} (I:Inv X pins σ H s) (hf:∀b∈fp,lB X pins H b) (ho:∀b∈fp,∃o,s.heap.get? b=some o/\∀v,o.data≠.cell v):Inv X (pins++qY fp s.heap) σ H s:=
 I.mv λp hp=>(List.mem_append.mp hp).elim (λz=>I.pin p (Z0 _ z)) λz=>by
  obtain⟨hb,e⟩:=Cj z;obtain⟨f0,f1,f2,_⟩:=hf p.1 hb;obtain⟨o,e',d⟩:=ho p.1 hb;rw[e] at e';cases e';exact⟨e,f0,f1,f2,d⟩
theorem Inv.qZ {pins pl:List (Addr×Obj)} {σ:St} {H:Hp} {s:Shared} (I:Inv X (pins++pl) σ H s):Inv X pins σ H s:=I.mv λp hp=>I.pin p (Z0 _ (aat _ hp))
theorem cS {iter:Expr} {body:List Stmt} {wi:TI} {g:TG} {tb:TS} {pos:Pos} (hp:PassesOwn (model X.prog X.w) X.A X.env X.xe) (hc:X.calm=true) (hi:PI X tg iter wi) (hg:PG X tg g) (hb:xy X body tb)
  (hs:∀x,foldedSetIterable iter X.env x=pure x:=by intro _;rfl):PS X (.For tg iter body [] pos) (MN wi g tb):=by
 intro pins s σ H D I h;refine wpAny_For (cG (hi pins s σ H _ I h) λv s1 h1=>cG h1 λII s2 h2=>?_) hs;obtain⟨it,fp,tn,J,H2,e,I2,T,zw,f2,W,⟨m0,w0⟩,turn⟩:=h2;subst e;have zx:∀{H':Hp},(∀b∈fp,H' b=none)->∀b∈fp,lB X pins H' b:=λhn b hb=>⟨hn b hb,(f2 b hb).2⟩
 refine codeAny_forLoop_any (λn s'=>∃i σ' H',Inv X pins σ' H' s'/\tn i s'.heap/\(∀b∈fp,H' b=none)/\W i n σ' H') ?_ m0 ⟨0,σ,H2,I2,zw,λb hb=>(f2 b hb).1,w0⟩;rintro n s3 ⟨i,σ3,H3,I3,Sz,SA,w3⟩;rcases turn i n σ3 H3 w3 with ⟨stop,qn⟩ | ⟨go,N,hN,step⟩
 ·refine wpAny_passesOwn hp (cG (T.done X rfl rfl rfl hc i pins s3 σ3 H3 X.xe I3 (zx SA) Sz stop) λr s4 ⟨hr,I4⟩=>?_);subst hr;exact wpAny_execs_nil ⟨σ3,H3,I4,qn⟩
 ·refine wpAny_passesOwn hp (cG (T.item X rfl rfl rfl hc i pins s3 σ3 H3 X.xe I3 (zx SA) Sz go) λr s4 ⟨u,hr,h4⟩=>?_);subst hr;refine wpAny_passesOwn hp (cG h4 λ_ s5 dC=>?_);obtain⟨x,H5,I5,r5,y5,P7,UN⟩:=dC;have UO:=I5.pinned (zx UN) (T.obj _ _ P7);refine wpAny_passesOwn hp (cG (hg _ s5 σ3 H5 x u _ UO r5 (step x H5 y5)) λ_ s6 ⟨σ6,H6,I6,q6⟩=>?_);refine wpAny_passesOwn hp (cG (hb _ s6 σ6 H6 _ I6 q6) λf s7 q7=>?_);have again:∀{σ7:St} {H7:Hp},Inv X (pins++qY fp s5.heap) σ7 H7 s7->N σ7 H7->∃m,m<n/\∃i σ' H',Inv X pins σ' H' s7/\tn i s7.heap/\(∀b∈fp,H' b=none)/\W i m σ' H':=λ{σ7 H7} I7 n7=>by
   obtain⟨m',hm,w7⟩:=hN σ7 H7 n7;refine⟨m',hm,i+1,σ7,H7,I7.qZ,T.keep _ _ _ P7 λb hb o e=>(I7.pin (b,o) (Z0 _ (Z0 _ (ig hb e)))).1,λb hb=>?_,w7⟩;obtain⟨o,e,d⟩:=T.obj _ _ P7 b hb;exact(I7.pin (b,o) (Z0 _ (Z0 _ (ig hb e)))).2.1
  cases f with
  | next=>obtain⟨σ7,H7,I7,n7⟩:=q7;exact again I7 n7
  | cont=>obtain⟨σ7,H7,I7,n7⟩:=q7;exact again I7 n7
  | brk=>obtain⟨σ7,H7,I7,q7⟩:=q7;exact⟨σ7,H7,I7.qZ,q7⟩
  | ret v=>obtain⟨x7,σ7,H7,I7,r7,q7⟩:=q7;exact⟨x7,σ7,H7,I7.qZ,r7,q7⟩
end
theorem xE {c:TT} {tb:TS} {D:Ends} {σ:St} {H:Hp} (Pv:St->Hp->Prop) (μ:St->Hp->Nat) (h0:Pv σ H)
  (hs:∀σ H,Pv σ H->c σ H λb H1=>if b=true then tb {D with nx:=λσ' H'=>Pv σ' H'/\μ σ' H'<μ σ H,ct:=λσ' H'=>Pv σ' H'/\μ σ' H'<μ σ H,bk:=D.nx} σ H1 else D.nx σ H1)
  (mono:∀σ H Q Q',(∀b H1,Q b H1->Q' b H1)->c σ H Q->c σ H Q'):zu c tb D σ H:=by
 refine⟨λm σ H=>m=μ σ H/\Pv σ H,⟨_,rfl,h0⟩,?_⟩;rintro m σ H ⟨rfl,p⟩;refine mono σ H _ _ (λb H1 q=>?_) (hs σ H p);cases b with
 | true=>exact⟨_,λσ' H' ⟨p',l⟩=>⟨_,l,rfl,p'⟩,q⟩
 | false=>exact q
end L2
namespace L2
open PySem PySem.Spec PyProof.Rows
abbrev R2:=V->V->Hp->VK->Prop
noncomputable def jF (X:Cx) (f:Value->Value->Sem Value) (r:R2):Prop:=
 ∀(pins:List (Addr×Obj)) (s:Shared) (σ:St) (H:Hp) (x y:V) (v u:Value) (Q:VK),Inv X pins σ H s->RelV x v->RelV y u->r x y H Q->
  wpAny (model X.prog X.w) X.A (f v u) (EP X pins σ Q) X.xe s
noncomputable def OP (X:Cx) (f:Value->Sem Value) (r:V->Hp->VK->Prop):Prop:=
 ∀(pins:List (Addr×Obj)) (s:Shared) (σ:St) (H:Hp) (x:V) (v:Value) (Q:VK),Inv X pins σ H s->RelV x v->r x H Q->
  wpAny (model X.prog X.w) X.A (f v) (EP X pins σ Q) X.xe s
noncomputable def cQ (X:Cx) (f:Value) (r:List V->Hp->VK->Prop):Prop:=
 ∀(pins:List (Addr×Obj)) (s:Shared) (σ:St) (H:Hp) (xs:List V) (us:List Value) (Q:VK),Inv X pins σ H s->bC xs us->r xs H Q->
  wpAny (model X.prog X.w) X.A (call f us) (EP X pins σ Q) X.xe s
noncomputable def tOp (r:R2) (ta tb:TE):TE:=λσ H Q=>ta σ H λx H1=>tb σ H1 λy H2=>r x y H2 Q
noncomputable def tUn (r:V->Hp->VK->Prop) (ta:TE):TE:=λσ H Q=>ta σ H λx H1=>r x H1 Q
noncomputable def rI (C:Int->Int->Prop) (g:Int->Int->V):R2:=λx y H Q=>∃i j,x=.int i/\y=.int j/\C i j/\Q (g i j) H
noncomputable def rI0 (g:Int->Int->V):R2:=λx y H Q=>∃i j,x=.int i/\y=.int j/\Q (g i j) H
noncomputable def rU (g:Int->V):V->Hp->VK->Prop:=λx H Q=>∃i,x=.int i/\Q (g i) H
section
variable {X : Cx} {a b c : Expr} {ta tb tc : TE} {pos : Pos}
theorem JM (ha:PE X a ta) (hb:PE X b tb) {pins:List (Addr×Obj)} {s:Shared} {σ:St} {H:Hp} {R:V->V->Hp->Prop} (I:Inv X pins σ H s)
  (h:ta σ H λx H1=>tb σ H1 λy H2=>R x y H2) {Q:Value->Shared->Prop} {f:Value->Value->Sem Value}
  (hf:∀v u s2 x y H2,Inv X pins σ H2 s2->RelV x v->RelV y u->R x y H2->wpAny (model X.prog X.w) X.A (f v u) Q X.xe s2):
  wpAny (model X.prog X.w) X.A (eval a X.env) (λv s₁=>wpAny (model X.prog X.w) X.A (eval b X.env) (λu s₂=>wpAny (model X.prog X.w) X.A (f v u) Q X.xe s₂) X.xe s₁) X.xe s:=by
 refine cG (ha pins s σ H _ I h) λv s1 dC=>?_;obtain⟨x,H1,I1,r1,q1⟩:=dC;refine cG (hb pins s1 σ H1 _ I1 q1) λu s2 dC=>?_;obtain⟨y,H2,I2,r2,q2⟩:=dC;exact hf v u s2 x y H2 I2 r1 r2 q2
theorem aG {op:Operator} {r:R2} (ho:jF X (binaryOp op) r) (ha:PE X a ta) (hb:PE X b tb):PE X (.BinOp a op b pos) (tOp r ta tb):=by
 intro pins s σ H Q I h;exact wpAny_BinOp (JM ha hb I h λv u s2 x y H2 I2 rx ry q=>ho pins s2 σ H2 x y v u Q I2 rx ry q)
theorem iF {op:UnaryOp} {r:V->Hp->VK->Prop} (ho:OP X (unaryOp op) r) (ha:PE X a ta):PE X (.UnaryOp op a pos) (tUn r ta):=by
 intro pins s σ H Q I h;exact UnaryOp_ (cG (ha pins s σ H _ I h) λv s1 ⟨x,H1,I1,r1,q1⟩=>ho pins s1 σ H1 x v Q I1 r1 q1)
theorem MO {f:Value->Value->Sem Value} {C:Int->Int->Prop} {g:Int->Int->Int}
  (rule:∀(i j:Int) (t u:Tok) (s:Shared) (Q:Value->Shared->Prop) (E:Value->Shared->Prop),C i j->Q (.int (g i j) s.toks) {s with toks:=s.toks+1}->wpAny (model X.prog X.w) X.A (f (.int i t) (.int j u)) Q E s):
  jF X f (rI C λi j=>.int (g i j)):=by
 intro pins s σ H x y v u Q I rx ry h;obtain⟨i,j,rfl,rfl,hc,q⟩:=h;obtain⟨t,rfl⟩:=rx;obtain⟨t',rfl⟩:=ry;exact rule i j t t' s _ _ hc ⟨.int (g i j),H,I.tok _,⟨_,rfl⟩,q⟩
theorem MP {f:Value->Value->Sem Value} {g:Int->Int->Int}
  (rule:∀(i j:Int) (t u:Tok) (s:Shared) (Q:Value->Shared->Prop) (E:Value->Shared->Prop),Q (.int (g i j) s.toks) {s with toks:=s.toks+1}->wpAny (model X.prog X.w) X.A (f (.int i t) (.int j u)) Q E s):
  jF X f (rI0 λi j=>.int (g i j)):=by
 intro pins s σ H x y v u Q I rx ry h;obtain⟨i,j,rfl,rfl,q⟩:=h;obtain⟨t,rfl⟩:=rx;obtain⟨t',rfl⟩:=ry;exact rule i j t t' s _ _ ⟨.int (g i j),H,I.tok _,⟨_,rfl⟩,q⟩
theorem GC {f:Value->Value->Sem Value} {g:Int->Int->Bool}
  (rule:∀(i j:Int) (t u:Tok) (s:Shared) (Q:Value->Shared->Prop) (E:Value->Shared->Prop),Q (.bool (g i j)) s->wpAny (model X.prog X.w) X.A (f (.int i t) (.int j u)) Q E s):
  jF X f (rI0 λi j=>.bl (g i j)):=by
 intro pins s σ H x y v u Q I rx ry h;obtain⟨i,j,rfl,rfl,q⟩:=h;obtain⟨t,rfl⟩:=rx;obtain⟨t',rfl⟩:=ry;exact rule i j t t' s _ _ ⟨.bl (g i j),H,I,rfl,q⟩
noncomputable def CPow (i j:Int):Prop:=0<=j/\j<=1000000/\i.natAbs<2^64
theorem aQ:jF X (binaryOp .Add) (rI0 λi j=>.int (i+j)):=MP λ_ _ _ _ _ _ _ q=>add_int q
theorem fS:jF X (binaryOp .Sub) (rI0 λi j=>.int (i - j)):=MP λ_ _ _ _ _ _ _ q=>sub_int q
theorem JN:jF X (binaryOp .Mod) (rI (λ_ j=>0<j) λi j=>.int (i % j)):=MO λi j _ _ _ _ _ hc q=>by
 have h1:(0:Int)<j:=hc;exact mod_int' (by lia) (by rw[Int.fmod_eq_emod_of_nonneg i (by lia)];exact q)
theorem q9:jF X (binaryOp .Pow) (rI CPow λi j=>.int (i^j.toNat)):=MO λ_ _ _ _ _ _ _ hc q=>pow_int_small hc.1 hc.2.1 hc.2.2 q
theorem UP {f:Value->Sem Value} {g:Int->Int}
  (rule:∀(i:Int) (t:Tok) (s:Shared) (Q:Value->Shared->Prop) (E:Value->Shared->Prop),Q (.int (g i) s.toks) {s with toks:=s.toks+1}->wpAny (model X.prog X.w) X.A (f (.int i t)) Q E s):
  OP X f (rU λi=>.int (g i)):=by
 intro pins s σ H x v Q I rx h;obtain⟨i,rfl,q⟩:=h;obtain⟨t,rfl⟩:=rx;exact rule i t s _ _ ⟨.int (g i),H,I.tok _,⟨_,rfl⟩,q⟩
theorem fc:OP X (unaryOp .USub) (rU λi=>.int (-i)):=UP λ_ _ _ _ _ q=>neg_int q
end
noncomputable def zy:V->V->Bool
 | .cW,.cW=>true | .cW,.int _=>true | .int _,.cW=>true | .cW,.bl _=>true | .bl _,.cW=>true | .cW,.str _=>true | .str _,.cW=>true
 | .int _,.int _=>true | .bl _,.bl _=>true | .str _,.str _=>true | .C8 _,.C8 _=>true
 | .int _,.str _=>true | .str _,.int _=>true | .bl _,.str _=>true | .str _,.bl _=>true
 | _,_=>false
noncomputable def rEq:R2:=λx y H Q=>zy x y=true/\Q (.bl (decide (x=y))) H
noncomputable def rNe:R2:=λx y H Q=>zy x y=true/\Q (.bl (!decide (x=y))) H
theorem A4 {i j:Int}:decide (V.int i=V.int j)=(i==j):=by
 rw[Bool.eq_iff_iff];simp
theorem Dw {i j:Bool}:decide (V.bl i=V.bl j)=(i==j):=by
 rw[Bool.eq_iff_iff];simp
theorem A5 {i j:Str}:decide (V.str i=V.str j)=(i==j):=by
 rw[Bool.eq_iff_iff];simp
theorem A6 {i j:Array UInt8}:decide (V.C8 i=V.C8 j)=(i.toList==j.toList):=by
 rw[Bool.eq_iff_iff];cases i;cases j;simp
section
variable {X : Cx} {a b c : Expr} {ta tb tc : TE} {pos : Pos}
theorem bV {pins:List (Addr×Obj)} {σ:St} {H:Hp} {s:Shared} {Q:VK} {k k':Bool} (I:Inv X pins σ H s) (q:Q (.bl k) H) (e:k=k'):EP X pins σ Q (.bool k') s:=by
 subst e;exact⟨.bl k,H,I,rfl,q⟩
theorem bG:jF X (compareOp .Eq) rEq:=by
 intro pins s σ H x y v u Q I rx ry h;obtain⟨hs,q⟩:=h;cases x with
 | cW=>
  cases rx;cases y with
  | cW=>cases ry;exact PySem.EqNone.eq_none_none (bV I q (by simp))
  | bl j=>cases ry;exact PySem.EqNone.eq_none_bool (bV I q (by simp))
  | int j=>obtain⟨t',rfl⟩:=ry;exact PySem.EqNone.eq_none_int (bV I q (by simp))
  | str j=>obtain⟨t',rfl⟩:=ry;exact PySem.EqNone.eq_none_str (bV I q (by simp))
  | _=>exact absurd (show false=true from hs) ZO
 | bl i=>
  cases rx;cases y with
  | cW=>cases ry;exact PySem.EqNone.eq_bool_none (bV I q (by simp))
  | bl j=>cases ry;exact eq_bool (bV I q Dw)
  | str j=>obtain⟨t',rfl⟩:=ry;exact PySem.EqMixed.eq_bool_str (bV I q (by simp))
  | _=>exact absurd (show false=true from hs) ZO
 | int i=>
  obtain⟨t,rfl⟩:=rx;cases y with
  | cW=>cases ry;exact PySem.EqNone.eq_int_none (bV I q (by simp))
  | int j=>obtain⟨t',rfl⟩:=ry;exact eq_int (bV I q A4)
  | str j=>obtain⟨t',rfl⟩:=ry;exact PySem.EqMixed.eq_int_str (bV I q (by simp))
  | _=>exact absurd (show false=true from hs) ZO
 | str i=>
  obtain⟨t,rfl⟩:=rx;cases y with
  | cW=>cases ry;exact PySem.EqNone.eq_str_none (bV I q (by simp))
  | bl j=>cases ry;exact PySem.EqMixed.eq_str_bool (bV I q (by simp))
  | int j=>obtain⟨t',rfl⟩:=ry;exact PySem.EqMixed.eq_str_int (bV I q (by simp))
  | str j=>obtain⟨t',rfl⟩:=ry;exact eq_str (bV I q A5)
  | _=>exact absurd (show false=true from hs) ZO
 | C8 i=>
  obtain⟨t,rfl⟩:=rx;cases y with
  | C8 j=>obtain⟨t',rfl⟩:=ry;exact PySem.W.eq_bytes (bV I q A6)
  | _=>exact absurd (show false=true from hs) ZO
 | _=>cases y <;>exact absurd (show false=true from hs) ZO
theorem xF:jF X (compareOp .NotEq) rNe:=by
 intro pins s σ H x y v u Q I rx ry h;obtain⟨hs,q⟩:=h;cases x with
 | cW=>
  cases rx;cases y with
  | cW=>cases ry;exact PySem.EqNone.ne_none_none (bV I q (by simp))
  | bl j=>cases ry;exact PySem.EqNone.ne_none_bool (bV I q (by simp))
  | int j=>obtain⟨t',rfl⟩:=ry;exact PySem.EqNone.ne_none_int (bV I q (by simp))
  | str j=>obtain⟨t',rfl⟩:=ry;exact PySem.EqNone.ne_none_str (bV I q (by simp))
  | _=>exact absurd (show false=true from hs) ZO
 | bl i=>
  cases rx;cases y with
  | cW=>cases ry;exact PySem.EqNone.ne_bool_none (bV I q (by simp))
  | bl j=>cases ry;exact ne_bool (bV I q (congrArg not Dw))
  | str j=>obtain⟨t',rfl⟩:=ry;exact PySem.EqMixed.ne_bool_str (bV I q (by simp))
  | _=>exact absurd (show false=true from hs) ZO
 | int i=>
  obtain⟨t,rfl⟩:=rx;cases y with
  | cW=>cases ry;exact PySem.EqNone.ne_int_none (bV I q (by simp))
  | int j=>obtain⟨t',rfl⟩:=ry;exact ne_int (bV I q (congrArg not A4))
  | str j=>obtain⟨t',rfl⟩:=ry;exact PySem.EqMixed.ne_int_str (bV I q (by simp))
  | _=>exact absurd (show false=true from hs) ZO
 | str i=>
  obtain⟨t,rfl⟩:=rx;cases y with
  | cW=>cases ry;exact PySem.EqNone.ne_str_none (bV I q (by simp))
  | bl j=>cases ry;exact PySem.EqMixed.ne_str_bool (bV I q (by simp))
  | int j=>obtain⟨t',rfl⟩:=ry;exact PySem.EqMixed.ne_str_int (bV I q (by simp))
  | str j=>obtain⟨t',rfl⟩:=ry;exact ne_str (bV I q (congrArg not A5))
  | _=>exact absurd (show false=true from hs) ZO
 | C8 i=>
  obtain⟨t,rfl⟩:=rx;cases y with
  | C8 j=>obtain⟨t',rfl⟩:=ry;exact PySem.W.ne_bytes (bV I q (congrArg not A6))
  | _=>exact absurd (show false=true from hs) ZO
 | _=>cases y <;>exact absurd (show false=true from hs) ZO
theorem xG:jF X (compareOp .Lt) (rI0 λi j=>.bl (decide (i<j))):=GC λ_ _ _ _ _ _ _ q=>lt_int q
theorem A7:jF X (compareOp .LtE) (rI0 λi j=>.bl (decide (i<=j))):=GC λ_ _ _ _ _ _ _ q=>le_int q
theorem kA:jF X (compareOp .Gt) (rI0 λi j=>.bl (decide (j<i))):=GC λ_ _ _ _ _ _ _ q=>gt_int q
theorem A8:jF X (compareOp .GtE) (rI0 λi j=>.bl (decide (j<=i))):=GC λ_ _ _ _ _ _ _ q=>ge_int q
theorem zz:jF X (compareOp .Is) (λx y H Q=>y=.cW/\Q (.bl (decide (x=.cW))) H):=by
 intro pins s σ H x y v u Q I rx ry h;obtain⟨rfl,q⟩:=h;cases ry;refine is_none_gen (bV I q ?_);cases x <;>first
  | (cases rx;rfl)
  | (obtain⟨t,rfl⟩:=rx;rfl)
theorem a5 (b:Expr) {op:CmpOp} (h:op≠.In:=by decide) (h2:op≠.NotIn:=by decide):behindInMarks op b=false:=by
 have e1:(op==CmpOp.In)=false:=by cases op <;>first | rfl | exact absurd rfl h
 have e2:(op==CmpOp.NotIn)=false:=by cases op <;>first | rfl | exact absurd rfl h2
 cases b <;>simp [behindInMarks,e1,e2]
theorem gz {op:CmpOp} {r:R2} (ho:jF X (compareOp op) r) (ha:PE X a ta) (hb:PE X b tb) (hm:behindInMarks op b=false):PE X (.Compare a [op] [b] pos) (tOp r ta tb):=by
 intro pins s σ H Q I h;exact wpAny_Compare1 (JM ha hb I h λv u s2 x y H2 I2 rx ry q=>ho pins s2 σ H2 x y v u Q I2 rx ry q) hm
noncomputable def tTest (t:TE):TT:=λσ H Q=>t σ H λx H'=>∃k,x=.bl k/\Q k H'
theorem aP {op:CmpOp} {r:R2} (ho:jF X (compareOp op) r) (ha:PE X a ta) (hb:PE X b tb) (hm:behindInMarks op b=false):PT X (.Compare a [op] [b] pos) (tTest (tOp r ta tb)):=by
 intro pins s σ H Q I h;refine wpAny_isTrue_Compare1 (cG (ha pins s σ H _ I h) λv s1 ⟨x,H1,I1,r1,q1⟩=>cG (hb pins s1 σ H1 _ I1 q1) λu s2 ⟨y,H2,I2,r2,q2⟩=>
  cG (ho pins s2 σ H2 x y v u _ I2 r1 r2 q2) λc s3 ⟨z,H3,I3,r3,k,e,q3⟩=>?_) hm
 subst e;cases r3;exact wpAny_truthy_bool ⟨H3,I3,q3⟩
noncomputable def tChain (r r':R2) (ta tb tc:TE):TE:=λσ H Q=>ta σ H λx H1=>tb σ H1 λy H2=>r x y H2 λz H3=>∃k,z=.bl k/\
 (if k=true then tc σ H3 λw' H4=>r' y w' H4 Q else Q (.bl false) H3)
theorem xH {op P8:CmpOp} {r r':R2} (ho:jF X (compareOp op) r) (Dp:jF X (compareOp P8) r') (ha:PE X a ta) (hb:PE X b tb) (hc:PE X c tc)
  (hm:lastMarks [op,P8] [b,c]=false:=by with_unfolding_all rfl):PT X (.Compare a [op,P8] [b,c] pos) (tTest (tChain r r' ta tb tc)):=by
 intro pins s σ H Q I h;refine isTrue_chain (cG (ha pins s σ H _ I h) λv s1 ⟨x,H1,I1,r1,q1⟩=>test_link (cG (hb pins s1 σ H1 _ I1 q1) λu s2 ⟨y,H2,I2,r2,q2⟩=>
  cG (ho pins s2 σ H2 x y v u _ I2 r1 r2 q2) λd s3 ⟨z,H3,I3,r3,k,e,q3⟩=>?_)) hm
 subst e;cases r3;refine wpAny_truthy_bool ?_;cases k with
 | false=>
  obtain⟨k',e',q'⟩:=q3;cases e';exact ite_ff ⟨H3,I3,q'⟩
 | true=>
  refine ite_tt (test_last (cG (hc pins s3 σ H3 _ I3 q3) λw' s4 ⟨z',H4,I4,r4,q4⟩=>cG (Dp pins s4 σ H4 y z' u w' _ I4 r2 r4 q4) λd' s5 dC=>?_));obtain⟨z2,H5,I5,r5,k2,e2,q5⟩:=dC;subst e2;cases r5;exact wpAny_truthy_bool ⟨H5,I5,q5⟩
theorem rh:(sizeLine:Nat)<2^63:=by rw[sizeLine_eq];decide
theorem lC:jF X (binaryOp .Add) (λx y H Q=>∃i j,x=.str i/\y=.str j/\i.length+j.length<=sizeLine/\Q (.str (i++j)) H):=by
 intro pins s σ H x y v u Q I rx ry h;obtain⟨i,j,rfl,rfl,hz,q⟩:=h;obtain⟨t,rfl⟩:=rx;obtain⟨t',rfl⟩:=ry;exact add_str (λt' tk=>⟨.str (i++j),H,I.tok _,⟨_,rfl⟩,q⟩) hz
theorem vals1 {x:V} {us:List Value} (r:bC [x] us):∃u,us=[u]/\RelV x u:=by
 cases r with
 | cons r1 r2=>cases r2;exact⟨_,rfl,r1⟩
theorem vals2 {x y:V} {us:List Value} (r:bC [x,y] us):∃u w',us=[u,w']/\RelV x u/\RelV y w':=by
 cases r with
 | cons r1 r2=>
  cases r2 with
  | cons r3 r4=>cases r4;exact⟨_,_,rfl,r1,r3⟩
theorem rj:cQ X (.builtin "abs") (λxs H Q=>∃i,xs=[.int i]/\Q (.int (if i<0 then -i else i)) H):=by
 intro pins s σ H xs us Q I r h;obtain⟨i,rfl,q⟩:=h;obtain⟨u,rfl,t,rfl⟩:=vals1 r;exact call_abs_int λu tk=>⟨.int (if i<0 then -i else i),H,I.tok _,⟨_,rfl⟩,q⟩
theorem jG (hc:X.calm=true):cQ X (.builtin "max") (λxs H Q=>∃i j,xs=[.int i,.int j]/\Q (.int (if j >i then j else i)) H):=by
 intro pins s σ H xs us Q I r h;obtain⟨i,j,rfl,q⟩:=h;obtain⟨u,w',rfl,⟨t,rfl⟩,⟨t',rfl⟩⟩:=vals2 r;refine max_two_ints (I.ok.hd hc) λh' tk k=>⟨_,H,I.kept k,?_,q⟩
 by_cases hj:j >i
 ·rw[if_pos hj,if_pos hj];exact⟨_,rfl⟩
 ·rw[if_neg hj,if_neg hj];exact⟨_,rfl⟩
theorem fO (hc:X.calm=true):cQ X (.builtin "min") (λxs H Q=>∃i j,xs=[.int i,.int j]/\Q (.int (if j<i then j else i)) H):=by
 intro pins s σ H xs us Q I r h;obtain⟨i,j,rfl,q⟩:=h;obtain⟨u,w',rfl,⟨t,rfl⟩,⟨t',rfl⟩⟩:=vals2 r;refine min_two_ints (I.ok.hd hc) λh' tk k=>⟨_,H,I.kept k,?_,q⟩
 by_cases hj:j<i
 ·rw[if_pos hj,if_pos hj];exact⟨_,rfl⟩
 ·rw[if_neg hj,if_neg hj];exact⟨_,rfl⟩
theorem Ck:cQ X (.type "int") (λxs H Q=>(∃i,xs=[.int i]/\Q (.int i) H)\/∃k,xs=[.bl k]/\Q (.int (if k then 1 else 0)) H):=by
 intro pins s σ H xs us Q I r h;rcases h with ⟨i,rfl,q⟩ | ⟨k,rfl,q⟩
 ·obtain⟨u,rfl,t,rfl⟩:=vals1 r;exact call_int_int ⟨.int i,H,I,⟨_,rfl⟩,q⟩
 ·obtain⟨u,rfl,r1⟩:=vals1 r;cases r1;exact call_int_bool ⟨.int (if k then 1 else 0),H,I.tok _,⟨_,rfl⟩,q⟩
theorem vG:cQ X (.type "str") (λxs H Q=>∃i,xs=[.int i]/\i.natAbs.log2<1920/\Q (.str (toString i)) H):=by
 intro pins s σ H xs us Q I r h;obtain⟨i,rfl,hz,q⟩:=h;obtain⟨u,rfl,t,rfl⟩:=vals1 r;exact PySem.P.str_of_int hz ⟨.str _,H,I.tok _,⟨_,rfl⟩,q⟩
end
end L2
namespace L2
open PySem PySem.Spec PyProof.Rows
structure zA (h:Heap) (x dx C:Addr) (mA:Str->Option Value):Prop where
 obj:h.get? x=some (PySem.W.instObj C dx)
 ns:h.Ns1 dx mA
 ne:dx≠x
set_option tactic.hygienic true in
theorem Cm {h:Heap} {dx:Addr} {mA:Str->Option Value} (n:h.Ns1 dx mA):∃od,h.get? dx=some od/\∀name,PySem.W.lookIn name od=some (mA name):=by
 obtain⟨o,es,ep,ho,hd,hk,_,hm⟩:=n;refine⟨o,ho,λname=>?_⟩;have e:=hm name;unfold nsFind findBy at e;rw[<-Array.find?_toList] at e;unfold PySem.W.lookIn;rw[hd];dsimp only
 split
 ·rename_i y q
  rw[q] at e;exact congrArg some e
 ·rename_i q
  rw[q] at e;have a:es.toList.any (·.refKey)=false:=by
   rw[List.any_eq_false];intro y hy;obtain⟨z,t,P9⟩:=hk y (Array.mem_toList_iff.mp hy);simp [DictEntry.refKey,P9]
  have a':¬es.toList.any (·.refKey)=true:=by rw[a];exact ZO
  rw[if_neg a'];exact congrArg some e
theorem zA.look {h:Heap} {x dx C:Addr} {mA:Str->Option Value} (I:zA h x dx C mA):∃od,PySem.W.InstAt h x (PySem.W.instObj C dx) C (some od)/\∀name,PySem.W.lookIn name od=some (mA name):=
 let ⟨od,ho,hl⟩:=Cm I.ns
 ⟨od,⟨I.obj,rfl,rfl,ho⟩,hl⟩
section
variable {prog : Program} {w : World} {A : Around} {E : Value -> Shared -> Prop} {s : Shared} {K : aaB} {x dx C f : Addr} {mA : Str -> Option Value} {name : Str} {v : Value}
theorem get_map {expr:Bool} {Q:Value->Shared->Prop} (X:K.In s.heap) (I:zA s.heap x dx C mA) (hg:PySem.W.plainGet K C name=true) (hh:PySem.W.hasDictIn K C=true)
  (ha:aaG K (.ref C) name=some none) (hv:mA name=some v) (SD:PySem.W.handedIn v=true) (h:Q v {s with toks:=s.toks+1}):
  wpAny (model prog w) A (getAttr (.ref x) name expr) Q E s:=by
 obtain⟨od,J,hl⟩:=I.look;exact PySem.W.get_value X J (PySem.W.plainGet_of hg).1 (PySem.W.findObj_own hh ha rfl (by rw[hl,hv])) SD h
theorem Dx {pl:Sem Bool} {Q:Value×List Value->Shared->Prop} (X:K.In s.heap) (I:zA s.heap x dx C mA) (hg:PySem.W.plainGet K C name=true)
  (hf:aaG K (.ref C) name=some (some (.ref f))) (ht:PySem.W.isFn K (.ref f)=true) (hv:mA name=none) (h:Q (.ref f,[.ref x]) s):
  wpAny (model prog w) A (getMethod (.ref x) name pl) Q E s:=by
 obtain⟨od,J,hl⟩:=I.look;exact PySem.W.method_fn X J (PySem.W.plainGet_of hg).1 (PySem.W.plainGet_of hg).2 hf (beq_iff_eq.mp ht) (by show(PySem.W.lookIn name od).map (·.isSome)=some false;rw[hl,hv];rfl) h
theorem GD {ns:List Str} {Q:Unit->Shared->Prop} (X:K.In s.heap) (I:zA s.heap x dx C mA)
  (hs:aaG K (.ref C) "__setattr__"=some (some (.builtin "object.__setattr__"))) (hp:PySem.W.plainOver K C=true) (ht:PySem.W.takerIn K C name=some none) (hh:PySem.W.hasDictIn K C=true)
  (hw:PySem.Within mA ns) (hsz:ns.length<=sizeLine)
  (h:∀h',zA h' x dx C (λy=>if y=name then some v else mA y)->Heap.SameBut dx s.heap h'->Q () {s with heap:=h',toks:=s.toks+2}):
  wpAny (model prog w) A (setAttr (.ref x) name v) Q E s:=by
 obtain⟨od,J,hl⟩:=I.look;refine PySem.W.set_plain X J hs (PySem.W.osa_open (s:={s with toks:=s.toks+1}) (r:=none) X J hp ht λb=>?_);obtain⟨cd,hc,PY⟩:=PySem.W.any_some hh;have hx:s.heap.get? x=some ⟨.ref C,some dx,.plain,#[]⟩:=I.obj;refine wpAny_bind (wpAny_pure (wpAny_bind (wpAny_bind (wpAny_loadPart hx (wpAny_bind (PySem.W.Looks.here (s:={s with toks:=s.toks+1}) (PySem.W.looks_clsIn X hc) ?_))))));rw[PY];refine wpAny_pure (a:=some dx) (wpAny_bind (wpAny_pure (wpAny_bind ?_)));refine wpAny_nsSet1 (s:={s with toks:=s.toks+1}) I.ns λh' OQ IK=>?_;obtain⟨oD,Yp,Yq,UQ,UR,US⟩:=OQ.count (PySem.Within.cons name v hw);refine wpAny_bind (wpAny_lookBehind UQ (by rw[UR];exact pastItsLine_dict (ZN US (by rw[ZP];lia))) ?_);exact wpAny_pure (h _ ⟨(IK.2 _ (Ne.symm I.ne)).trans I.obj,OQ,I.ne⟩ IK)
theorem Dy {R:Result->Shared->Prop} {vs:List Value} {kw:List (Str×Value)} (X:K.In s.heap) (hm:PySem.W.makesIn K C=true)
  (hi:aaG K (.ref C) "__init__"=some (some (.ref f))) (hf:PySem.W.typeIn K (.ref f)=some (.type "function"))
  (h:codeAny (model prog w) (A.under (.builtin "type.__call__" ⟨.ref C::vs,kw⟩)) (.call (.ref f) ⟨.ref (s.heap.objs.size+1)::vs,kw⟩) (PySem.W.InitBack (s.heap.objs.size+1) R)
   {s with heap:=(s.heap.push PySem.W.emptyDict).push (PySem.W.instObj C s.heap.objs.size)}):
  codeAny (model prog w) A (.call (.ref C) ⟨vs,kw⟩) R s:=by
 obtain⟨hh,g,d,t,os⟩:=s;exact PySem.W.make_core (PySem.W.makes_of X hm) (PySem.W.looks_findIn X hi) (λself=>PySem.W.bind_fn X self hf) (.inl rfl) h
end
noncomputable def gK (f:Str) (v:V):List (Str×V)->List (Str×V)
 | []=>[(f,v)]
 | (g,x)::r=>if g=f then (g,v)::r else (g,x)::gK f v r
theorem pG (f g:Str) (v:V):∀fs:List (Str×V),(gK f v fs).lookup g=if g=f then some v else fs.lookup g
 | []=>by
  show List.lookup g [(f,v)]=_
  by_cases h:g=f
  ·have hb:(g==f)=true:=beq_iff_eq.mpr h;simp only[List.lookup,hb,if_pos h]
  ·have hb:(g==f)=false:=beq_eq_false_iff_ne.mpr h;simp only[List.lookup,hb,if_neg h]
 | (k,x)::r=>by
  have ih:=pG f g v r;rw[show gK f v ((k,x)::r)=(if k=f then (k,v)::r else (k,x)::gK f v r) from rfl]
  by_cases hk:k=f
  ·rw[if_pos hk]
   by_cases h:g=k
   ·have hb:(g==k)=true:=beq_iff_eq.mpr h;simp only[List.lookup,hb,if_pos (h.trans hk)]
   ·have hb:(g==k)=false:=beq_eq_false_iff_ne.mpr h;simp only[List.lookup,hb,if_neg (λe:g=f=>h (e.trans hk.symm))]
  ·rw[if_neg hk]
   by_cases h:g=k
   ·have hb:(g==k)=true:=beq_iff_eq.mpr h;simp only[List.lookup,hb,if_neg (λe:g=f=>hk (h.symm.trans e))]
   ·have hb:(g==k)=false:=beq_eq_false_iff_ne.mpr h;simp only[List.lookup,hb];exact ih
theorem oi (f:Str) (v:V):∀fs:List (Str×V),f∈(gK f v fs).map (·.1)/\∀g,g∈fs.map (·.1)->g∈(gK f v fs).map (·.1)
 | []=>⟨by simp [gK],λg h=>by simp at h⟩
 | (k,x)::r=>by
  obtain⟨i1,i2⟩:=oi f v r;rw[show gK f v ((k,x)::r)=(if k=f then (k,v)::r else (k,x)::gK f v r) from rfl]
  by_cases hk:k=f
  ·rw[if_pos hk];subst hk;exact⟨by simp,λg h=>by simpa using h⟩
  ·rw[if_neg hk];refine⟨?_,λg h=>?_⟩
   ·rw[ZC];exact ZI _ i1
   ·rw[ZC] at h ⊢;rcases aaj.mp h with e | e
    ·exact aaj.mpr (.inl e)
    ·exact ZI _ (i2 g e)
theorem pH (f:Str) (v:V):∀fs:List (Str×V),(gK f v fs).length<=fs.length+1
 | []=>by simp [gK]
 | (k,x)::r=>by
  have ih:=pH f v r;rw[show gK f v ((k,x)::r)=(if k=f then (k,v)::r else (k,x)::gK f v r) from rfl]
  by_cases hk:k=f
  ·rw[if_pos hk,ZP,ZP];lia
  ·rw[if_neg hk,ZP,ZP];lia
theorem iP.some_of {v:V} {o:Option Value} (r:iP (some v) o):∃u,o=some u/\RelV v u:=by
 cases o with
 | none=>exact(show False from r).elim
 | some u=>exact⟨u,rfl,r⟩
theorem iP.none_of {o:Option Value} (r:iP none o):o=none:=by
 cases o with
 | none=>rfl
 | some u=>exact(show False from r).elim
theorem Cn {v:V} {u:Value} (r:RelV v u):PySem.W.handedIn u=true:=by
 cases v with
 | cW=>cases (show u=Value.none from r);rfl
 | bl b=>cases (show u=Value.bool b from r);rfl
 | int i=>obtain⟨t,e⟩:=(show ∃t,u=Value.int i t from r);cases e;rfl
 | str x=>obtain⟨t,e⟩:=(show ∃t,u=Value.str x t from r);cases e;rfl
 | C8 b=>obtain⟨t,e⟩:=(show ∃t,u=Value.bytes b t from r);cases e;rfl
 | JC b=>obtain⟨t,e⟩:=(show ∃t,u=Value.float b t from r);cases e;rfl
 | ref a=>cases (show u=Value.ref a from r);rfl
 | ty n=>cases (show u=Value.type n from r);rfl
section
variable {P : Program} {w : World} {H H' : Hp} {h h' : Heap} {a C dx : Addr} {fs UE : List (Str × V)}
theorem qB (bU:gR P w H h) (e:H a=some (.ins C dx fs)):∃mA,zA h a dx C mA/\(∀f,iP (fs.lookup f) (mA f))/\PySem.Within mA (fs.map (·.1))/\fs.length<=1000/\H dx=some (.own a):=by
 obtain⟨d,z,ne,ob,mA,n,r,q⟩:=(show cD P w H h a (.ins C dx fs) from bU a _ e)
 exact⟨mA,⟨ob,n,ne⟩,r,q,z,d⟩
end
structure vH (K:aaB) (C:Addr):Prop where
 pg:PySem.W.plainGet K C Str.empty=true
 hd:PySem.W.hasDictIn K C=true
 po:PySem.W.plainOver K C=true
 sa:aaG K (.ref C) "__setattr__"=some (some (.builtin "object.__setattr__"))
theorem vH.get {K:aaB} {C:Addr} (c:vH K C) (f:Str):PySem.W.plainGet K C f=true:=c.pg
noncomputable def oj (K:aaB) (C:Addr) (f:Str):Prop:=aaG K (.ref C) f=some none
theorem oj.MQ {K:aaB} {C:Addr} {f:Str} (n:oj K C f):PySem.W.takerIn K C f=some none:=by
 unfold PySem.W.takerIn;rw[show aaG K (.ref C) f=some none from n];rfl
structure Yr (K:aaB) (C:Addr) (f:Str) (v:V) (u:Value):Prop where
 at_:aaG K (.ref C) f=some (some u)
 rel:RelV v u
 get:PySem.W.specialIn K u "__get__"=some none
 cp:PySem.W.copiedNames.contains f=false
structure Dz (K:aaB) (C:Addr) (m:Str) (f:Addr):Prop where
 at_:aaG K (.ref C) m=some (some (.ref f))
 fn:PySem.W.isFn K (.ref f)=true
 kp:aaC K (.ref f)=true
section
variable {X : Cx} {pins : List (Addr × Obj)} {σ : St} {H : Hp} {s : Shared} {a C dx : Addr} {fs : List (Str × V)} {f : Str} {v : V} {A : Around} {E : Value -> Shared -> Prop}
theorem zB {b:Bool} {Q:Value->Shared->Prop} (I:Inv X pins σ H s) (e:H a=some (.ins C dx fs)) (c:vH X.K C) (n:oj X.K C f) (l:fs.lookup f=some v)
  (h:∀u s',Inv X pins σ H s'->RelV v u->Q u s'):wpAny (model X.prog X.w) A (getAttr (.ref a) f b) Q E s:=by
 obtain⟨mA,O,r,_,_,_⟩:=qB I.bU e;obtain⟨u,hu,ru⟩:=iP.some_of (v:=v) (o:=mA f) (by rw[<-l];exact r f);exact get_map I.kx O (c.get f) c.hd n hu (Cn ru) (h u _ (I.tok _) ru)
theorem ij {m:Str} {g:Addr} {pl:Sem Bool} {Q:Value×List Value->Shared->Prop} (I:Inv X pins σ H s) (e:H a=some (.ins C dx fs)) (c:vH X.K C) (k:Dz X.K C m g) (l:fs.lookup m=none)
  (h:Q (.ref g,[.ref a]) s):wpAny (model X.prog X.w) A (getMethod (.ref a) m pl) Q E s:=by
 obtain⟨mA,O,r,_,_,_⟩:=qB I.bU e;have hn:mA m=none:=iP.none_of (by rw[<-l];exact r m);exact Dx I.kx O (c.get m) k.at_ k.fn hn h
theorem zC {y:V} {u:Value} {Q:Unit->Shared->Prop} (I:Inv X pins σ H s) (e:H a=some (.ins C dx fs)) (c:vH X.K C) (n:oj X.K C f) (hl:fs.length<1000) (ry:RelV y u)
  (h:∀s',Inv X pins σ (upd H a (.ins C dx (gK f y fs))) s'->Q () s'):wpAny (model X.prog X.w) A (setAttr (.ref a) f u) Q E s:=by
 obtain⟨mA,O,r,wi,_,ho⟩:=qB I.bU e;have hz:(fs.map (·.1)).length<=sizeLine:=by rw[ZA,sizeLine_eq];lia
 refine GD I.kx O c.sa c.po n.MQ c.hd wi hz λh' O' sb=>h _ ?_;have hd:∃o,h'.get? dx=some o:=let ⟨o,_,_,e',_⟩:=O'.ns;⟨o,e'⟩;refine I.write (x:=a) (e:=dx) (by rw[e];exact True.intro) (.inr ho) (λb q hb z=>(sb.2 b hb).trans z) hd ?_;refine⟨by rw[aw O.ne];exact ho,?_,O.ne,O'.obj,_,O'.ns,λg=>?_,λg hg=>?_⟩
 ·have:=pH f y fs;lia
 ·show iP ((gK f y fs).lookup g) (if g=f then some u else mA g);rw[pG]
  by_cases q:g=f
  ·rw[if_pos q,if_pos q];exact ry
  ·rw[if_neg q,if_neg q];exact r g
 ·by_cases q:g=f
  ·rw[q];exact(oi f y fs).1
  ·refine(oi f y fs).2 g (wi g λz=>hg ?_);show(if g=f then some u else mA g)=none;rw[if_neg q];exact z
theorem Inv.made (I:Inv X pins σ H s):Inv X pins σ (upd (upd H s.heap.objs.size (.own (s.heap.objs.size+1))) (s.heap.objs.size+1) (.ins C s.heap.objs.size []))
  {s with heap:=(s.heap.push PySem.W.emptyDict).push (PySem.W.instObj C s.heap.objs.size)}:=by
 have e1:(s.heap.push PySem.W.emptyDict).get? s.heap.objs.size=some PySem.W.emptyDict:=aaM s.heap rfl;have e2:((s.heap.push PySem.W.emptyDict).push (PySem.W.instObj C s.heap.objs.size)).get? (s.heap.objs.size+1)=some (PySem.W.instObj C s.heap.objs.size):=by
  have:=aaM (s.heap.push PySem.W.emptyDict) (o:=PySem.W.instObj C s.heap.objs.size) rfl
  rwa [Heap.size_push] at this
 have e3:(s.heap.push PySem.W.emptyDict).Ns s.heap.objs.size (λ_=>none):=⟨PySem.W.emptyDict,#[],_,e1,rfl,(λe he=>absurd he (by simp)),λ_=>rfl⟩
 have I1:=I.laid (a:=s.heap.objs.size) (o:=.own (s.heap.objs.size+1)) (h':=s.heap.push PySem.W.emptyDict) (t':=s.toks) (λb u q=>aaL _ q) (ZD _) ⟨_,e1⟩;refine I1.laid (a:=s.heap.objs.size+1) (o:=.ins C s.heap.objs.size []) (t':=s.toks) (λb u q=>aaL _ q) (Nat.le_of_eq (Heap.size_push _ _)) ?_;have ne:s.heap.objs.size≠s.heap.objs.size+1:=ZK (aan _);refine⟨by rw[aw ne,aj],ZM _,ne,e2,λ_=>none,(Heap.Ns1.of_empty e3).at λo q=>aaL _ q,λ_=>True.intro,λy hy=>absurd rfl hy⟩
theorem GF {prog:Program} {w:World} {env:Env} {e:Expr} {f:Str} {pos:Pos} {s:Shared} {Q:Value->Shared->Prop} (hb:attributeBase e f env (eval e env)=eval e env)
  (h:wpAny (model prog w) A (eval e env) (λo s₁=>wpAny (model prog w) A (getAttr o f true) Q E s₁) E s):wpAny (model prog w) A (eval (.Attribute e f pos) env) Q E s:=
 Attribute_any_ h (by rw[arm_eval_Attribute,hb])
end
noncomputable def df (K:aaB) (ta:TE) (f:Str):TE:=λσ H Q=>ta σ H λx H1=>∃a C dx fs v,x=.ref a/\H1 a=some (.ins C dx fs)/\vH K C/\oj K C f/\fs.lookup f=some v/\Q v H1
noncomputable def om (K:aaB) (ta tv:TE) (f:Str):TS:=λD σ H=>tv σ H λy H1=>ta σ H1 λx H2=>∃a C dx fs,x=.ref a/\H2 a=some (.ins C dx fs)/\vH K C/\oj K C f/\fs.length<1000/\
 D.nx σ (upd H2 a (.ins C dx (gK f y fs)))
section
variable {X : Cx} {o e value : Expr} {f : Str} {pos pos' p3 : Pos} {ta tv : TE}
theorem bp (he:PE X e ta) (hb:attributeBase e f X.env (eval e X.env)=eval e X.env):PE X (.Attribute e f pos) (df X.K ta f):=by
 intro pins s σ H Q I h;refine GF hb (cG (he pins s σ H _ I h) λu s1 dC=>?_);obtain⟨x,H1,I1,rx,a,C,dx,fs,v,ex,ea,c,n,l,q⟩:=dC;subst ex;obtain rfl:u=Value.ref a:=rx;exact zB I1 ea c n l λu' s2 I2 ru=>⟨v,H1,I2,ru,q⟩
theorem eO (ha:PE X o ta) (hv:PE X value tv) (hs:swapsWith value (some (.Attribute o f pos')) pos.line X.env=pure false):PS X (.Assign [.Attribute o f pos'] value pos) (om X.K ta tv f):=by
 intro pins s σ H D I h;refine plainObj_wpAny_Assign_Attribute (cG (hv pins s σ H _ I h) λu s1 ⟨y,H1,I1,ry,q⟩=>cG (ha pins s1 σ H1 _ I1 q) λov s2 dC=>?_) hs;obtain⟨x,H2,I2,rx,a,C,dx,fs,ex,ea,c,n,l,q2⟩:=dC;subst ex;obtain rfl:ov=Value.ref a:=rx;exact zC I2 ea c n l ry λs3 I3=>⟨σ,_,I3,q2⟩
end
section
variable {X : Cx} {pins : List (Addr × Obj)} {σ : St} {H : Hp} {s : Shared} {A : Around} {E : Value -> Shared -> Prop} {Q : Value -> Shared -> Prop} {c : Value} {b : Bool}
inductive mC (K:aaB) (H:Hp):V->Value->Prop where
 | cW:mC K H .cW (.type "NoneType")
 | bl (x:Bool):mC K H (.bl x) (.type "bool")
 | int (i:Int):mC K H (.int i) (.type "int")
 | str (x:Str):mC K H (.str x) (.type "str")
 | JC (x:UInt64):mC K H (.JC x) (.type "float")
 | lst {a:Addr} {xs:List V} (e:H a=some (.lst xs)):mC K H (.ref a) (.type "list")
 | xq {a:Addr} {o:Obj} {xs:List V} (e:H a=some (.xq o (.lst xs))):mC K H (.ref a) (.type "list")
 | tup {a:Addr} {xs:List V} (e:H a=some (.tup xs)):mC K H (.ref a) (.type "tuple")
 | dK {a:Addr} {kvs:List (Key×V)} (e:H a=some (.dK kvs)):mC K H (.ref a) (.type "dict")
 | dT {a:Addr} {kvs:List (List Key×V)} (e:H a=some (.dT kvs)):mC K H (.ref a) (.type "dict")
 | ins {a C dx:Addr} {fs:List (Str×V)} (e:H a=some (.ins C dx fs)) (cl:vH K C) (ha:aaG K (.ref C) "__class__"=some (some (.builtin "object.__class__")))
   (hn:PySem.W.specialIn K (.builtin "object.__class__") "__get__"=some (some (.builtin "getset_descriptor.__get__"))) (SE:PySem.W.takesIn K (.builtin "object.__class__")=some true)
   (hm:PySem.W.mroIn K C (.type "object")=some true):mC K H (.ref a) (.ref C)
theorem Co {x:V} {u t:Value} (I:Inv X pins σ H s) (rx:RelV x u) (ty:mC X.K H x t) (e:PySem.W.kitOne X.K t c=some b) (h:∀tk,Q (.bool b) {s with toks:=tk}):
  wpAny (model X.prog X.w) A (call (.builtin "isinstance") [u,c]) Q E s:=by
 cases ty with
 | cW=>cases (show u=Value.none from rx);exact aag PySem.W.kitx_none I.kx True.intro e (λz=>nomatch z) h
 | bl y=>cases (show u=Value.bool y from rx);exact aag PySem.W.kitx_bool I.kx True.intro e (λz=>nomatch z) h
 | int i=>obtain⟨t,q⟩:=(show ∃t,u=Value.int i t from rx);cases q;exact aag PySem.W.kitx_int I.kx True.intro e (λz=>nomatch z) h
 | str y=>obtain⟨t,q⟩:=(show ∃t,u=Value.str y t from rx);cases q;exact aag PySem.W.kitx_str I.kx True.intro e (λz=>nomatch z) h
 | JC y=>obtain⟨t,q⟩:=(show ∃t,u=Value.float y t from rx);cases q;exact aag PySem.W.kitx_float I.kx True.intro e (λz=>nomatch z) h
 | @lst a xs ea=>
  cases (show u=Value.ref a from rx);obtain⟨_,_,n,_,h1⟩:=(show cD X.prog X.w H s.heap a (.lst xs) from I.bU a _ ea)
  exact aag PySem.W.kitx_list I.kx ⟨_,h1,rfl⟩ e (λz=>nomatch z) h
 | @xq a ob xs ea=>
  cases (show u=Value.ref a from rx);obtain⟨_,_,_,n,_,h1⟩:=(show cD X.prog X.w H s.heap a (.xq ob (.lst xs)) from I.bU a _ ea)
  exact aag PySem.W.kitx_list I.kx ⟨_,h1,rfl⟩ e (λz=>nomatch z) h
 | @tup a xs ea=>
  cases (show u=Value.ref a from rx);obtain⟨_,_,_,p⟩:=(show cD X.prog X.w H s.heap a (.tup xs) from I.bU a _ ea)
  obtain⟨o,h1,h2,_⟩:=p;exact aag PySem.W.kitx_tuple I.kx ⟨o,h1,h2⟩ e (λz=>nomatch z) h
 | @dK a kvs ea=>
  cases (show u=Value.ref a from rx);obtain⟨_,_,vs,_,p⟩:=(show cD X.prog X.w H s.heap a (.dK kvs) from I.bU a _ ea)
  obtain⟨o,es,ep,h1,h2,_⟩:=p;exact aag PySem.W.kitx_dict I.kx ⟨o,h1,h2.1⟩ e (λz=>nomatch z) h
 | @dT a kvs ea=>
  cases (show u=Value.ref a from rx);obtain⟨_,_,xs,_,o,es,ep,h1,h2,_⟩:=(show cD X.prog X.w H s.heap a (.dT kvs) from I.bU a _ ea)
  exact aag PySem.W.kitx_dict I.kx ⟨o,h1,h2.1⟩ e (λz=>nomatch z) h
 | @ins a C dx fs ea cl ha hn SE hm=>
  cases (show u=Value.ref a from rx);obtain⟨mA,O,_⟩:=qB I.bU ea;obtain⟨od,J,_⟩:=O.look;exact aag (PySem.W.kitx_own (cl.get _) cl.hd ha hn SE hm) I.kx J e (λz=>nomatch z) h
end
end L2
namespace L2
open PySem PySem.Spec PyProof.Rows
structure dD (k:Nat) (A:Around):Prop where
 hd:A.handled=none
 dp:A.depth+3*k+5<recursionLimit
 un:A.units+16*k+200<cLine
theorem dD.mono {j k:Nat} {A:Around} (r:dD k A) (h:j<=k):dD j A:=⟨r.hd,by have:=r.dp;lia,by have:=r.un;lia⟩
theorem dD.deeper {k:Nat} {A:Around} (r:dD (k+1) A) (env:Env):dD k (A.deeper env):=
 ⟨r.hd,by have:=r.dp;show A.depth+1+3*k+5<_;lia,by have:=r.un;show A.units+3+16*k+200<_;lia⟩
theorem zD {A:Around} {C:Addr} {us:List Value} {kw:List (Str×Value)}:(A.under (.builtin "type.__call__" ⟨.ref C::us,kw⟩)).depth=A.depth+1:=by
 first | rfl | simp [Around.under,Code.weight,Code.isCreation,Code.isGuard,Code.isCaller,Code.frames,Code.isFrame,guardIds]
theorem zE {A:Around} {C:Addr} {us:List Value} {kw:List (Str×Value)}:(A.under (.builtin "type.__call__" ⟨.ref C::us,kw⟩)).units=A.units+1:=by
 first | rfl | simp [Around.under,Code.cUnits,Code.frames,Code.isFrame]
theorem dD.make {k:Nat} {A:Around} (r:dD (k+1) A) (C:Addr) (us:List Value) (kw:List (Str×Value)):dD k (A.under (.builtin "type.__call__" ⟨.ref C::us,kw⟩)):=
 ⟨r.hd,by have:=r.dp;rw[zD];lia,by have:=r.un;rw[zE];lia⟩
theorem dD.depth {k:Nat} {A:Around} (r:dD k A):A.depth<recursionLimit:=by have:=r.dp;lia
theorem dD.units {k:Nat} {A:Around} (r:dD k A):A.units+64<cLine:=by have:=r.un;lia
noncomputable def tNil:TA:=λ_ H Q=>Q [] H
noncomputable def tCons (ta:TE) (tr:TA):TA:=λσ H Q=>ta σ H λx H1=>tr σ H1 λxs H2=>Q (x::xs) H2
section
variable {X : Cx} {e : Expr} {es : List Expr} {te : TE} {t : TA} {pos : Pos}
theorem ag:PA X [] tNil:=λ_ _ _ _ H Q I h=>Calls.spliced_nil ⟨[],H,I,.nil,h⟩
theorem aa (ha:PE X e te) (hr:PA X es t) (hs:starEach (e::es) X.env=(false,eval e X.env)::starEach es X.env:=by rfl):PA X (e::es) (tCons te t):=by
 intro pos pins s σ H Q I h;rw[hs];show wpAny _ _ (spliced ((false,eval e X.env)::backTo pos (starEach es X.env))) _ _ s;refine Calls.spliced_cons (cG (ha pins s σ H _ I h) λu s1 dC=>?_);obtain⟨x,H1,I1,r1,q1⟩:=dC;exact cG (hr pos pins s1 σ H1 _ I1 q1) λus s2 ⟨xs,H2,I2,r2,q2⟩=>⟨x::xs,H2,I2,.cons r1 r2,q2⟩
noncomputable def tLst (t:TA):TE:=λσ H Q=>t σ H λxs H1=>xs.length<=sizeLine/\∀p,H1 p=none->Q (.ref p) (upd H1 p (.lst xs))
theorem cb (h:PA X es t):PE X (.List es pos) (tLst t):=by
 intro pins s σ H Q I hq;refine wpAny_List_spliced (cG (h pos pins s σ H _ I hq) λus s1 ⟨xs,H1,I1,r,z,q⟩=>⟨by rw[<-r.length];exact z,?_⟩);have hf:H1 s1.heap.objs.size=none:=I1.bU.fresh (ZD _);refine⟨.ref s1.heap.objs.size,upd H1 s1.heap.objs.size (.lst xs),I1.laid (t':=s1.toks) (λb u e=>aaL _ e) (ZD _) ?_,rfl,q _ hf⟩;exact⟨z,us,0,r,aaM _ rfl⟩
end
abbrev Sp:=List V->Hp->VK->XK->Prop
abbrev nZ:=List Env->Hp->Shared->XK->Value->Shared->Prop
structure zF (P:Program) (w:World) (K:aaB) (mg:Str->Option Value) (base:Heap) (A:Around) (outer:List Env) (s:Shared) (H:Hp):Prop where
 frames:A.frames=some outer
 mod:Mod K mg base
 bs:∀b o,base.get? b=some o->s.heap.get? b=some o/\H b=none
 Dm:base.objs.size<=s.heap.objs.size
 mr:s.heap.FunFrames base outer
 Gy:∀b∈gy outer,H b=none
 bU:gR P w H s.heap
 bare:AllBare s.gens
noncomputable def CE (outer:List Env) (P:Program) (w:World) (H:Hp) (s:Shared) (Q:VK) (u:Value) (s':Shared):Prop:=
 ∃v H',s'.os=s.os/\AllBare s'.gens/\Un (gy outer) [] H H' s.heap s'.heap/\gR P w H' s'.heap/\RelV v u/\Q v H'
noncomputable def CR (CX:nZ) (outer:List Env) (P:Program) (w:World) (H:Hp) (s:Shared) (Q:VK) (E:XK) (r:Result) (s':Shared):Prop:=
 match r with
 | .ok (.ret u)=>CE outer P w H s Q u s'
 | .ok _=>False
 | .error e=>CX outer H s E e s'
structure fU (P:Program) (w:World) (K:aaB) (mg:Str->Option Value) (base:Heap) (CX:nZ) (k:Nat) (f:Addr) (fd:FuncData) (ps:List Str) (sp:Sp):Prop where
 len:∀vs H Q E,sp vs H Q E->vs.length=ps.length
 run:∀(A:Around) (outer:List Env) (s:Shared) (H:Hp) (args:Args) (us:List Value) (vs:List V) (Q:VK) (E:XK),dD k A->zF P w K mg base A outer s H->BindsTo s fd args (ps.zip us)->bC vs us->sp vs H Q E->
  codeAny (model P w) A (.call (.ref f) args) (CR CX outer P w H s Q E) s
theorem fU.mono {P:Program} {w:World} {K:aaB} {mg:Str->Option Value} {base:Heap} {CX:nZ} {j k:Nat} {f:Addr} {fd:FuncData} {ps:List Str} {sp:Sp} (F:fU P w K mg base CX j f fd ps sp) (h:j<=k):
  fU P w K mg base CX k f fd ps sp:=⟨F.len,λA outer s H args us vs Q E hr=>F.run A outer s H args us vs Q E (hr.mono h)⟩
theorem zF.make {P:Program} {w:World} {K:aaB} {mg:Str->Option Value} {base:Heap} {A:Around} {outer:List Env} {s:Shared} {H:Hp} (e:zF P w K mg base A outer s H) (C:Addr) (us:List Value) (kw:List (Str×Value)):
  zF P w K mg base (A.under (.builtin "type.__call__" ⟨.ref C::us,kw⟩)) outer s H:=⟨by first | exact e.frames | (simpa [Around.under,Code.envs,Code.isFrame,pushEnvs] using e.frames),e.mod,e.bs,e.Dm,e.mr,e.Gy,e.bU,e.bare⟩
section
variable {X : Cx} {pins : List (Addr × Obj)} {σ : St} {H : Hp} {s s' : Shared}
theorem Inv.GG (I:Inv X pins σ H s):zF X.prog X.w X.K X.mg X.base X.A X.stack s H:=
 ⟨I.ok.frames,I.ok.mod,I.bs,ZN I.ok.Dm I.sz,I.stack,I.vD,I.bU,I.bare⟩
theorem Inv.after {Q:VK} {u:Value} (I:Inv X pins σ H s) (h:CE X.stack X.prog X.w H s Q u s'):EP X pins σ Q u s':=by
 obtain⟨v,H',os,bare,un,bU,r,q⟩:=h;obtain⟨hh,g,d,t,UT⟩:=s';obtain rfl:UT=s.os:=os;exact⟨v,H',I.call (h':=hh) (g':=g) (d':=d) (t':=t) (ch:=[]) un bU bare (λb z=>absurd z (by simp)),r,q⟩
end
noncomputable def tCall (sp:Sp) (gL:List V) (E:XK) (t:TA):TE:=λσ H Q=>t σ H λvs H1=>sp (vs++gL) H1 Q E
noncomputable def bR (C:Addr) (m:Str) (sp:Sp) (gL:List V) (E:XK) (ta:TE) (t:TA):TE:=λσ H Q=>ta σ H λx H1=>∃a dx fs,x=.ref a/\H1 a=some (.ins C dx fs)/\fs.lookup m=none/\
 t σ H1 λvs H2=>sp (x::(vs++gL)) H2 Q E
noncomputable def A9 (C:Addr) (sp:Sp) (gL:List V) (E:XK) (t:TA):TE:=λσ H Q=>t σ H λvs H1=>∀x dx,H1 x=none->H1 dx=none->dx≠x->
 sp (.ref x::(vs++gL)) (upd (upd H1 dx (.own x)) x (.ins C dx [])) (λv H2=>v=.cW/\Q (.ref x) H2) E
noncomputable def Binds (K:aaB) (fd:FuncData) (ps:List Str) (ds:List Value):Prop:=
 ∀(s:Shared) (us:List Value),K.In s.heap->(us++ds).length=ps.length->BindsTo s fd ⟨us,[]⟩ (ps.zip (us++ds))
theorem Binds.all {K:aaB} {fd:FuncData} {ps:List Str} (h:∀us:List Value,us.length=ps.length->bindArgs fd ⟨us,[]⟩=pure (ps.zip us)):Binds K fd ps []:=λs us _ hl=>by
 rw[aab] at hl ⊢;exact .of_eq (h us hl)
noncomputable def fe (CX:nZ) (X:Cx) (E:XK):Prop:=∀(pins:List (Addr×Obj)) (σ:St) (H:Hp) (s:Shared) (e:Value) (s':Shared),Inv X pins σ H s->CX X.stack H s E e s'->X.xe e s'
section
variable {X : Cx} {CX : nZ} {k : Nat} {f C : Addr} {fd : FuncData} {ps : List Str} {sp : Sp} {gL : List V} {ds : List Value} {E : XK} {x m : Str} {p pos apos : Pos} {e o : Expr} {es : List Expr} {ta : TE} {t : TA}
theorem zG {pins:List (Addr×Obj)} {σ:St} {H:Hp} {s:Shared} {Q:VK} {us:List Value} {vs:List V} (F:fU X.prog X.w X.K X.mg X.base CX k f fd ps sp) (hr:dD k X.A) (hb:Binds X.K fd ps ds) (hd:bC gL ds) (hx:fe CX X E)
  (I:Inv X pins σ H s) (r:bC vs us) (h:sp (vs++gL) H Q E):wpAny (model X.prog X.w) X.A (call (.ref f) us) (EP X pins σ Q) X.xe s:=by
 have r2:bC (vs++gL) (us++ds):=r.append hd;have hl:(us++ds).length=ps.length:=by rw[<-r2.length];exact F.len _ _ _ _ h
 refine wpAny_call (codeAny_mono (F.run X.A X.stack s H ⟨us,[]⟩ (us++ds) (vs++gL) Q E hr I.GG (hb s us I.kx hl) r2 h) λr s' hq=>?_);cases r with
 | error e=>exact hx pins σ H s e s' I hq
 | ok fl=>
  cases fl with
  | ret u=>exact I.after hq
  | next=>exact False.elim hq
  | brk=>exact False.elim hq
  | cont=>exact False.elim hq
theorem GH (F:fU X.prog X.w X.K X.mg X.base CX k f fd ps sp) (hr:dD k X.A) (hg:Gl X x) (hm:X.mg x=some (.ref f)) (hk:aaC X.K (.ref f)=true) (hb:Binds X.K fd ps ds) (hd:bC gL ds) (hx:fe CX X E)
  (ha:PA X (e::es) t) (zH:(x==("__debug__":Str))=false:=by decide) (he:starEach (e::es) X.env=(false,eval e X.env)::starEach es X.env:=by rfl) (hpl:(backTo pos (starEach es X.env)).any (·.1)=false:=by rfl):
  PE X (.Call (.Name x p) (e::es) [] pos) (tCall sp gL E t):=by
 intro pins s σ H Q I h;refine wpAny_Call_Name_kw (mw I hg hm ?_ zH);refine PySem.W.callWith_K (h₀:=X.base) I.ok.mod.JF hk (cG (ha pos pins s σ H _ I h) λus s1 ⟨vs,H1,I1,r,q⟩=>⟨I1.kx,?_⟩) he hpl;exact zG F hr hb hd hx I1 r q
theorem GI {pl:Sem Bool} (he:PE X o ta) (c:vH X.K C) (hm:Dz X.K C m f) (F:fU X.prog X.w X.K X.mg X.base CX k f fd ps sp) (hr:dD k X.A) (hb:Binds X.K fd ps ds) (hd:bC gL ds) (hx:fe CX X E) (ha:PA X (e::es) t)
  (hst:starEach (e::es) X.env=(false,eval e X.env)::starEach es X.env:=by rfl) (hpl:(backTo pos (starEach es X.env)).any (·.1)=false:=by rfl)
  (ht:eval (.Call (.Attribute o m apos) (e::es) [] pos) X.env=(do
   let ov <-eval o X.env
   standAt apos.atName
   let (f,first) <-holding [ov] (getMethod ov m pl)
   callWith pos f first (backTo pos (starEach (e::es) X.env)) (backToKw pos (keywordEach [] X.env))):=by rfl):
  PE X (.Call (.Attribute o m apos) (e::es) [] pos) (bR C m sp gL E ta t):=by
 intro pins s σ H Q I h;refine PySem.W.methodCall_KW (pl:=pl) (cG (he pins s σ H _ I h) λu s1 dC=>?_) ht;obtain⟨x,H1,I1,rx,a,dx,fs,ex,ea,l,q⟩:=dC;subst ex;obtain rfl:u=Value.ref a:=rx;refine ij I1 ea c hm l ?_;refine PySem.W.callWith_K (first:=[.ref a]) (h₀:=X.base) I.ok.mod.JF hm.kp (cG (ha pos pins s1 σ H1 _ I1 q) λus s2 ⟨vs,H2,I2,r,q2⟩=>⟨I2.kx,?_⟩) hst hpl;exact zG (us:=.ref a::us) (vs:=.ref a::vs) F hr hb hd hx I2 (.cons rfl r) q2
theorem DA {pl:Sem Bool} (he:PE X o ta) (c:vH X.K C) (hm:Dz X.K C m f) (F:fU X.prog X.w X.K X.mg X.base CX k f fd ps sp) (hr:dD k X.A) (hb:Binds X.K fd ps ds) (hd:bC gL ds) (hx:fe CX X E)
  (ht:eval (.Call (.Attribute o m apos) [] [] pos) X.env=(do
   let ov <-eval o X.env
   standAt apos.atName
   let (f,first) <-holding [ov] (getMethod ov m pl)
   callWith pos f first (backTo pos (starEach [] X.env)) (backToKw pos (keywordEach [] X.env))):=by rfl):
  PE X (.Call (.Attribute o m apos) [] [] pos) (bR C m sp gL E ta tNil):=by
 intro pins s σ H Q I h;refine PySem.W.methodCall_KW (pl:=pl) (cG (he pins s σ H _ I h) λu s1 dC=>?_) ht;obtain⟨x,H1,I1,rx,a,dx,fs,ex,ea,l,q⟩:=dC;subst ex;obtain rfl:u=Value.ref a:=rx;refine ij I1 ea c hm l ?_;exact PySem.W.callWith_K0 (first:=[.ref a]) I1.kx hm.kp (zG (us:=[.ref a]) (vs:=[.ref a]) F hr hb hd hx I1 (.cons rfl .nil) q)
structure Mk (K:aaB) (C f:Addr):Prop where
 makes:PySem.W.makesIn K C=true
 init:aaG K (.ref C) "__init__"=some (some (.ref f))
 fn:PySem.W.isFn K (.ref f)=true
 kp:aaC K (.ref C)=true
theorem DB {pins:List (Addr×Obj)} {σ:St} {H:Hp} {s:Shared} {Q:VK} {us:List Value} {vs:List V} (M:Mk X.K C f) (F:fU X.prog X.w X.K X.mg X.base CX k f fd ps sp) (hr:dD (k+1) X.A) (hb:Binds X.K fd ps ds) (hd:bC gL ds)
  (hx:fe CX X E) (I:Inv X pins σ H s) (r:bC vs us)
  (h:∀x dx,H x=none->H dx=none->dx≠x->sp (.ref x::(vs++gL)) (upd (upd H dx (.own x)) x (.ins C dx [])) (λv H2=>v=.cW/\Q (.ref x) H2) E):
  wpAny (model X.prog X.w) X.A (call (.ref C) us) (EP X pins σ Q) X.xe s:=by
 have hq:=h (s.heap.objs.size+1) s.heap.objs.size (I.bU.fresh (Nat.le_succ _)) (I.bU.fresh (ZD _)) (ZK (aan _));have I2:=Inv.made (C:=C) I;have r2:bC (V.ref (s.heap.objs.size+1)::(vs++gL)) (Value.ref (s.heap.objs.size+1)::(us++ds)):=.cons rfl (r.append hd);have hl:(Value.ref (s.heap.objs.size+1)::us++ds).length=ps.length:=by
  have e:=r2.length;rw[F.len _ _ _ _ hq] at e;exact e.symm
 refine wpAny_call (Dy (f:=f) I.kx M.makes M.init (beq_iff_eq.mp M.fn) (codeAny_mono (F.run _ X.stack _ _ ⟨Value.ref (s.heap.objs.size+1)::us,[]⟩ (Value.ref (s.heap.objs.size+1)::(us++ds)) _ _ E (hr.make C us [])
  (I2.GG.make C us []) (hb _ (Value.ref (s.heap.objs.size+1)::us) I2.kx hl) r2 hq) λr s' oa=>?_))
 cases r with
 | error e=>exact hx pins σ _ _ e s' I2 oa
 | ok fl=>
  cases fl with
  | ret u=>
   obtain⟨v,H',I3,rv,ev,q3⟩:=I2.after oa;subst ev;exact⟨rv,⟨V.ref (s.heap.objs.size+1),H',I3,rfl,q3⟩⟩
  | next=>exact False.elim oa
  | brk=>exact False.elim oa
  | cont=>exact False.elim oa
theorem GJ (M:Mk X.K C f) (F:fU X.prog X.w X.K X.mg X.base CX k f fd ps sp) (hr:dD (k+1) X.A) (hg:Gl X x) (hm:X.mg x=some (.ref C)) (hb:Binds X.K fd ps ds) (hd:bC gL ds) (hx:fe CX X E)
  (ha:PA X (e::es) t) (zH:(x==("__debug__":Str))=false:=by decide) (he:starEach (e::es) X.env=(false,eval e X.env)::starEach es X.env:=by rfl) (hpl:(backTo pos (starEach es X.env)).any (·.1)=false:=by rfl):
  PE X (.Call (.Name x p) (e::es) [] pos) (A9 C sp gL E t):=by
 intro pins s σ H Q I h;refine wpAny_Call_Name_kw (mw I hg hm ?_ zH);refine PySem.W.callWith_K (h₀:=X.base) I.ok.mod.JF M.kp (cG (ha pos pins s σ H _ I h) λus s1 ⟨vs,H1,I1,r,q⟩=>⟨I1.kx,?_⟩) he hpl;exact DB M F hr hb hd hx I1 r q
end
section
variable {X : Cx} {CX : nZ} {k : Nat} {f C : Addr} {fd : FuncData} {ps ks : List Str} {sp : Sp} {E : XK} {x m : Str} {p pos apos UU : Pos} {e o : Expr} {es : List Expr} {Ys : List Keyword} {te ta : TE} {t tk : TA} {nm : Option Str}
structure Qa (K:aaB) (fd:FuncData) (ps ks:List Str) (g:List Value->List Value->List Value) (gV:List V->List V->List V):Prop where
 to:∀(s:Shared) (us ws:List Value),K.In s.heap->(g us ws).length=ps.length->BindsTo s fd ⟨us,ks.zip ws⟩ (ps.zip (g us ws))
 rel:∀{vs:List V} {us:List Value} {zs:List V} {ws:List Value},bC vs us->bC zs ws->bC (gV vs zs) (g us ws)
variable {g : List Value -> List Value -> List Value} {gV : List V -> List V -> List V}
end
structure aZ (N P:List Str) (sc:Scope):Prop where
 kind:sc.kind=.function
 co:sc.isCoroutine=false
 gen:sc.isGenerator=false
 nd:N.Nodup
 pre:N.take P.length=P
 par:∀x∈P,sc.names.lookup x=some .local\/sc.names.lookup x=some .cell
 JO:∀y∈sc.names,y.2≠.free
theorem uY {kindOf:Str->Option NameKind} {x:Str}:∀{binds:List (Str×Value)} {m:Str->Option Value},(∀v,(x,v)∉binds)->bindL kindOf binds m x=m x
 | [],_,_=>rfl
 | (n,v)::r,m,h=>by
  unfold bindL;rw[uY λw hw=>h w (ZI _ hw)]
  split
  ·have:x≠n:=by rintro rfl;exact h v ZL
   simp [this]
  ·rfl
theorem uZ {kindOf:Str->Option NameKind} {x:Str}:∀{binds:List (Str×Value)} {m:Str->Option Value},(∀v,(x,v)∉binds)->bindC kindOf binds m x=m x
 | [],_,_=>rfl
 | (n,v)::r,m,h=>by
  unfold bindC;rw[uZ λw hw=>h w (ZI _ hw)]
  split
  ·rfl
  ·have:x≠n:=by rintro rfl;exact h v ZL
   simp [this]
theorem u3 {kindOf:Str->Option NameKind} {x:Str} {v:Value}:∀{P:List Str} {vs:List Value} {i:Nat} {m:Str->Option Value},P.Nodup->P[i]?=some x->vs[i]?=some v->kindOf x=some .local->
  bindL kindOf (P.zip vs) m x=some v
 | [],_,_,_,_,h,_,_=>by simp at h
 | _::_,[],_,_,_,_,h,_=>by simp at h
 | p::P,w::vs,0,m,nd,h1,h2,hk=>by
  simp at h1 h2;subst h1;subst h2;show bindL kindOf ((p,w)::P.zip vs) m p=_;unfold bindL;rw[uY λv hv=>(List.nodup_cons.mp nd).1 (List.of_mem_zip hv).1,if_pos hk];simp
 | p::P,w::vs,i+1,m,nd,h1,h2,hk=>by
  show bindL kindOf ((p,w)::P.zip vs) m x=_;unfold bindL;exact u3 (i:=i) (List.nodup_cons.mp nd).2 (by simpa using h1) (by simpa using h2) hk
theorem u4 {kindOf:Str->Option NameKind} {x:Str} {v:Value}:∀{P:List Str} {vs:List Value} {i:Nat} {m:Str->Option Value},P.Nodup->P[i]?=some x->vs[i]?=some v->kindOf x≠some .local->
  bindC kindOf (P.zip vs) m x=some v
 | [],_,_,_,_,h,_,_=>by simp at h
 | _::_,[],_,_,_,_,h,_=>by simp at h
 | p::P,w::vs,0,m,nd,h1,h2,hk=>by
  simp at h1 h2;subst h1;subst h2;show bindC kindOf ((p,w)::P.zip vs) m p=_;unfold bindC;rw[uZ λv hv=>(List.nodup_cons.mp nd).1 (List.of_mem_zip hv).1,if_neg hk];simp
 | p::P,w::vs,i+1,m,nd,h1,h2,hk=>by
  show bindC kindOf ((p,w)::P.zip vs) m x=_;unfold bindC;exact u4 (i:=i) (List.nodup_cons.mp nd).2 (by simpa using h1) (by simpa using h2) hk
noncomputable def start (N:List Str) (vs:List V):St:=vs.map some++aaO (N.length - vs.length) none
noncomputable def iW (CX:nZ) (P:Program) (w:World) (K:aaB) (mg:Str->Option Value) (base:Heap) (N:List Str) (qual:Str) (scope:Scope) (f:Addr) (cd:Value) (A:Around) (outer:List Env) (s:Shared) (H:Hp) (E:XK):Cx where
 prog:=P
 w:=w
 K:=K
 mg:=mg
 base:=base
 A:=A.deeper (envOfC qual scope s.heap.objs.size f cd)
 N:=N
 s₀:=s
 H₀:=H
 env:=envOfC qual scope s.heap.objs.size f cd
 outer:=outer
 stack:=envOfC qual scope s.heap.objs.size f cd::outer
 ex:=[]
 calm:=true
 fn:=λ_=>true
 pn:=[]
 xe:=λe s'=>wpAny (model P w) (A.deeper (envOfC qual scope s.heap.objs.size f cd)) (leaving (envOfC qual scope s.heap.objs.size f cd) e) (λ_ zI=>CX outer H s E e zI) (λe' zI=>CX outer H s E e' zI) s'
theorem xI {sc:Scope} {n:Nat} {x:Str} (h:sc.names.lookup x=some .cell):∃c,(cellsFrom n sc.names []).lookup x=some c:=by
 have q:=PySem.W.cellsFrom_some sc.names n [] (.inl h);exact Option.isSome_iff_exists.mp q
theorem Cp {CX:nZ} {P:Program} {w:World} {K:aaB} {mg:Str->Option Value} {base:Heap} {N ps:List Str} {qual:Str} {scope:Scope} {f:Addr} {cd:Value} {A:Around} {outer:List Env} {s s1:Shared} {H:Hp} {E:XK} {us:List Value} {vs:List V}
  (S:aZ N ps scope) (hd:A.handled=none) (e0:zF P w K mg base A outer s H) (hl:vs.length=ps.length) (r:bC vs us)
  (x:InCallC s s.heap.objs.size (bindL (envOfC qual scope s.heap.objs.size f cd).kindOf (ps.zip us) λ_=>none) (cellsFrom (s.heap.objs.size+1) scope.names []) (bindC (envOfC qual scope s.heap.objs.size f cd).kindOf (ps.zip us) λ_=>none) s1):
  Inv (iW CX P w K mg base N qual scope f cd A outer s H E) [] (start N vs) H s1:=by
 have hpl:ps.length<=N.length:=by have:=congrArg List.length S.pre;rw[ZV] at this;lia
 obtain⟨h1,tk,rfl,hk⟩:=x.done;have MR:∀b:Addr,b∉(iW CX P w K mg base N qual scope f cd A outer s H E).ex:=λb z=>absurd (show b∈([]:List Addr) from z) (by simp);refine⟨⟨e0.mod,S.kind,rfl,rfl,ZD _,λy z c h1 h2=>?_,λy hy=>?_,λy c _ h=>?_,λ_=>hd,Around.frames_deeper e0.frames,.inr ⟨rfl,rfl⟩,λb z=>absurd z (MR b),e0.bs,e0.Dm,λb _ _=>MR b,λb z=>absurd z (MR b),e0.mr,e0.Gy⟩,
  rfl,e0.bare,Un.kept hk,⟨_,x.toInCall.ns,λi y v h1 h2 h3=>?_⟩,λy c h=>⟨_,x.cell y c h⟩,e0.bU.fresh (ZD _),λy c h=>?_,λp hp=>absurd (show p∈([]:List (Addr×Obj)) from hp) (by simp),e0.bU.kept hk,?_⟩
 ·exact name_of_addr x.apart (aah h1) (aah h2)
 ·have hy:scope.names.lookup y=some .cell\/scope.names.lookup y=some .free:=hy;rcases hy with hy | hy
  ·exact xI hy
  ·exact absurd rfl (S.JO _ (aah hy))
 ·exact Nat.le_of_lt (x.above y c (aah h))
 ·have hi:i<vs.length:=by
   unfold start at h2
   by_cases hi:i<vs.length
   ·exact hi
   ·rw[aav (by simpa using hi)] at h2;rw[List.getElem?_replicate] at h2
    split at h2 <;>cases h2
  have ha:vs[i]?=some v:=by
   unfold start at h2;rw[aaA (by simpa using hi),ZE] at h2;cases e:vs[i]? with
   | none=>rw[e] at h2;cases h2
   | some a=>rw[e] at h2;cases h2;rfl
  obtain⟨u,hu,rv⟩:=r.get ha;have hp:ps[i]?=some y:=by
   rw[<-S.pre,List.getElem?_take_of_lt (by lia)];exact h1
  have SG:ps.Nodup:=by rw[<-S.pre];exact S.nd.sublist (List.take_sublist _ _)
  refine⟨u,rv,?_⟩;rcases S.par y (ZS hp) with k | k
  ·exact .inl ⟨k,u3 SG hp hu k⟩
  ·obtain⟨c,e⟩:=xI (n:=s.heap.objs.size+1) k;refine .inr ⟨.inl k,c,e,?_⟩;have q:=x.cell y c e;rw[u4 SG hp hu (by show scope.names.lookup y≠_;rw[k];decide)] at q;exact q
 ·exact e0.bU.fresh (Nat.le_of_lt (x.above y c (aah h)))
 ·unfold start;show _=N.length;rw[ZJ,ZA,List.length_replicate];lia
theorem IL {CX:nZ} {P:Program} {w:World} {K:aaB} {mg:Str->Option Value} {base:Heap} {k:Nat} {f:Addr} {name qual:Str} {params:Arguments} {body:List Stmt} {scope:Scope} {dV kV doc pm cf ct oc:Value} {an od:Option Addr}
  {Gd:Array (Option Value)} {N ps:List Str} {sp:Sp} (lk:K.lookup f=some ⟨oc,od,.func (aaE name qual params body scope dV kV doc pm an cf ct),Gd⟩) (t5:aaD K cf qual=true) (S:aZ N ps scope)
  (len:∀vs H Q E,sp vs H Q E->vs.length=ps.length)
  (xJ:∀(A:Around) (outer:List Env) (s:Shared) (H:Hp) (vs:List V) (Q:VK) (E:XK),dD k (A.deeper (envOfC qual scope s.heap.objs.size f cf))->sp vs H Q E->
   ∃t,xy (iW CX P w K mg base N qual scope f cf A outer s H E) body t/\t {nx:=λ_ H'=>Q .cW H',rt:=Q} (start N vs) H):
  fU P w K mg base CX (k+1) f (aaE name qual params body scope dV kV doc pm an cf ct) ps sp:=by
 refine⟨len,λA outer s H args us vs Q E hr e0 hb r C9=>?_⟩;have hl:=len _ _ _ _ C9;have KX:K.In s.heap:=e0.mod.JF.keeps λb o e=>(e0.bs b o e).1;have lim:s.heap.NoLimit:=e0.mod.nolimit.keeps λb o e=>(e0.bs b o e).1;have MS:∀y∈ps.zip us,scope.names.lookup y.1=some .local\/(scope.names.lookup y.1=some .cell/\((cellsFrom (s.heap.objs.size+1) scope.names []).lookup y.1).isSome=true):=fun⟨n,v⟩ hy=>by
  rcases S.par n (List.of_mem_zip hy).1 with q | q
  ·exact .inl q
  ·exact .inr ⟨q,PySem.W.cellsFrom_some _ _ _ (.inl q)⟩
 refine codeAny_call_function hr.depth (KX _ _ lk) rfl S.co S.gen rfl (PySem.W.codeRec_of KX t5) (hb _ _ _ _ ?_);refine wpAny_newFunctionEnv_cells S.kind MS λenv he s1 x=>?_;subst he;refine⟨lim.keeps x.toInCall.keep,codeAny_func ?_⟩;obtain⟨t,ht,hq⟩:=xJ A outer s H vs Q E (hr.deeper _) C9;have I:Inv (iW CX P w K mg base N qual scope f cf A outer s H E) [] (start N vs) H s1:=Cp S hr.hd e0 hl r x;refine wpAny_mono (ht [] s1 (start N vs) H _ I hq) (λfl s' hs=>?_) λe s' hs=>hs;have fin:∀{σ':St} {H':Hp} {v:V} {u:Value},Inv (iW CX P w K mg base N qual scope f cf A outer s H E) [] σ' H' s'->RelV v u->Q v H'->CE outer P w H s Q u s':=
  λ{σ' H' v u} J rv q=>⟨v,H',J.os,J.bare,J.base,J.bU,rv,q⟩
 cases fl with
 | ret u=>
  obtain⟨v,σ',H',J,rv,q⟩:=hs;exact fin J rv q
 | next=>
  obtain⟨σ',H',J,q⟩:=hs;exact fin (v:=V.cW) (u:=Value.none) J rfl q
 | brk=>
  obtain⟨_,_,_,q⟩:=hs;exact False.elim q
 | cont=>
  obtain⟨_,_,_,q⟩:=hs;exact False.elim q
end L2
namespace L2
open PySem PySem.Spec PyProof.Rows
section
variable {X : Cx} {x : Str} {p pos : Pos} {e : Expr} {es : List Expr} {t : TA} {id T : String} {r : List V -> Hp -> VK -> Prop}
noncomputable def tCB (r:List V->Hp->VK->Prop) (t:TA):TE:=λσ H Q=>t σ H λvs H1=>r vs H1 Q
theorem a8 (hc:cQ X (.builtin id) r) (hg:Gl X x) (hm:X.mg x=none) (hv:bootBuiltins x=some (.builtin id)) (ha:PA X (e::es) t) (hn:x≠"__name__":=by decide) (zH:(x==("__debug__":Str))=false:=by decide)
  (he:starEach (e::es) X.env=(false,eval e X.env)::starEach es X.env:=by rfl) (hpl:(backTo pos (starEach es X.env)).any (·.1)=false:=by rfl):PE X (.Call (.Name x p) (e::es) [] pos) (tCB r t):=by
 intro pins s σ H Q I h;refine wpAny_Call_Name_kw (gI I hg hm hv ?_ hn zH);exact PyProof.Rows.callWith_builtin1 (cG (ha pos pins s σ H _ I h) λus s1 ⟨vs,H1,I1,r1,q1⟩=>hc pins s1 σ H1 vs us Q I1 r1 q1) he hpl
theorem eg (hc:cQ X (.type T) r) (hg:Gl X x) (hm:X.mg x=none) (hv:bootBuiltins x=some (.type T)) (ha:PA X (e::es) t) (hn:x≠"__name__":=by decide) (zH:(x==("__debug__":Str))=false:=by decide)
  (he:starEach (e::es) X.env=(false,eval e X.env)::starEach es X.env:=by rfl) (hpl:(backTo pos (starEach es X.env)).any (·.1)=false:=by rfl):PE X (.Call (.Name x p) (e::es) [] pos) (tCB r t):=by
 intro pins s σ H Q I h;refine wpAny_Call_Name_kw (gI I hg hm hv ?_ hn zH);exact aaz (cG (ha pos pins s σ H _ I h) λus s1 ⟨vs,H1,I1,r1,q1⟩=>hc pins s1 σ H1 vs us Q I1 r1 q1) he hpl
end
end L2
namespace HT
open PySem PyProof.Rows
section
open PySem.SeqAt
open PySem.AutoSeq1 (wpAny_loadPart')
open PySem.MeetsSeq PySem.MeetsSeq2 PySem.MeetsSeq3
end
section
variable {prog : Program} {w : World} {A : Around} {E : Value -> Shared -> Prop} {s : Shared}
noncomputable def zJ (n d:Nat):Option Int->Nat
 | none=>d
 | some v=>if v<0 then (v+ (n:Int)).toNat else min v.toNat n
end
end HT
namespace L2
open PySem PySem.Spec PyProof.Rows
abbrev TO:=St->Hp->(Option Int->Hp->Prop)->Prop
noncomputable def PO (X:Cx) (e:Option Expr) (t:TO):Prop:=
 ∀(pins:List (Addr×Obj)) (s:Shared) (σ:St) (H:Hp) (Q:Option Int->Hp->Prop),Inv X pins σ H s->t σ H Q->
  wpAny (model X.prog X.w) X.A (evalPart e X.env) (λu s'=>∃o H',Inv X pins σ H' s'/\IsPart u o/\Q o H') X.xe s
noncomputable def tNoPart:TO:=λ_ H Q=>Q none H
noncomputable def tPart (t:TE):TO:=λσ H Q=>t σ H λx H1=>∃i,x=.int i/\Q (some i) H1
theorem intsAre_of {ns:List Int}:∀{us:List Value},bC (ns.map V.int) us->IntsAre us ns:=by
 induction ns with
 | nil=>intro us r;rw[Z7] at r;cases r;exact .nil
 | cons n ns ih=>
  intro us r;rw[ZC] at r;cases r with
  | cons r1 r2=>
   obtain⟨t,e⟩:=r1;subst e;exact .cons n t (ih r2)
section
variable {X : Cx} {e : Expr} {te : TE} {lo hi : Option Expr} {tl th : TO} {pos p2 : Pos}
theorem vI:PO X none tNoPart:=by
 intro pins s σ H Q I h;rw[evalPart_none];exact wpAny_pure ⟨none,H,I,.none,h⟩
theorem mD (h:PE X e te):PO X (some e) (tPart te):=by
 intro pins s σ H Q I hw;rw[evalPart_some];refine cG (h pins s σ H _ I hw) λu s1 dC=>?_;obtain⟨x,H1,I1,r1,q1⟩:=dC;obtain⟨i,rfl,q⟩:=q1;obtain⟨t,rfl⟩:=r1;exact⟨some i,H1,I1,.int i t,q⟩
noncomputable def MT (X:Cx) (r:V->Option Int->Option Int->Hp->VK->Prop):Prop:=
 ∀(pins:List (Addr×Obj)) (s:Shared) (σ:St) (H:Hp) (x:V) (v vl vu:Value) (lo hi:Option Int) (sl:Addr) (Q:VK),Inv X pins σ H s->RelV x v->s.heap.IsSliceOf sl vl vu .none->IsPart vl lo->IsPart vu hi->r x lo hi H Q->
  ∃T id,typeLookup (.type T) "__getitem__"=pure (some (.builtin id))/\s.TypeIs v T/\wpAny (model X.prog X.w) X.A (getItem v (.ref sl)) (EP X pins σ Q) X.xe s
noncomputable def tSl (r:V->Option Int->Option Int->Hp->VK->Prop) (te:TE) (tl th:TO):TE:=λσ H Q=>te σ H λx H1=>tl σ H1 λl H2=>th σ H2 λu H3=>r x l u H3 Q
theorem mE {r:V->Option Int->Option Int->Hp->VK->Prop} (hr:MT X r) (he:PE X e te) (hl:PO X lo tl) (hu:PO X hi th):PE X (.Subscript e (.Slice lo hi none p2) pos) (tSl r te tl th):=by
 intro pins s σ H Q I h;refine Subscript_ (cG (he pins s σ H _ I h) λv s1 dC=>?_);obtain⟨x,H1,I1,r1,q1⟩:=dC;refine wpAny_Slice (cG (hl pins s1 σ H1 _ I1 q1) λvl s2 ⟨l,H2,I2,pl,q2⟩=>cG (hu pins s2 σ H2 _ I2 q2) λvu s3 dC=>?_);obtain⟨u,H3,I3,pu,q3⟩:=dC;rw[evalPart_none];refine wpAny_pure ?_;have I4:Inv X pins σ H3 {s3 with heap:=s3.heap.push {cls:=.type "slice",data:=.fields #[vl,vu,.none]}}:=I3.kept (t':=s3.toks) λb ob q=>aaL _ q;obtain⟨T,id,hT,ht,hg⟩:=hr pins {s3 with heap:=s3.heap.push {cls:=.type "slice",data:=.fields #[vl,vu,.none]}} σ H3 x v vl vu l u s3.heap.objs.size Q I4 r1 (Heap.IsSliceOf.new ..) pl pu q3;show wpAny (model X.prog X.w) X.A (subscriptTail e (.Slice lo hi none p2) v (.ref s3.heap.objs.size)) (EP X pins σ Q) X.xe {s3 with heap:=s3.heap.push {cls:=.type "slice",data:=.fields #[vl,vu,.none]}};exact tail_any (ops:=[.ref s3.heap.objs.size,v]) ht hT hg (by with_unfolding_all rfl)
noncomputable def DC (xs:List V) (lo hi:Option Int):List V:=(xs.drop (HT.zJ xs.length 0 lo)).take (HT.zJ xs.length xs.length hi - HT.zJ xs.length 0 lo)
theorem xK (xs:List V) (lo hi:Option Int):(DC xs lo hi).length<=xs.length:=by
 unfold DC;rw[ZV,List.length_drop];lia
end
end L2
namespace L2
open PySem PySem.Spec PyProof.Rows
noncomputable def DD (n:Nat) (i:Int):Option Nat:=if 0<=i then (if i<n then some i.toNat else none) else if -(n:Int)<=i then some (i+n).toNat else none
noncomputable def iX {α:Type} (xs:List α) (i:Int):Option α:=(DD xs.length i).bind λj=>xs[j]?
theorem Ba {n:Nat} {i:Int} {j:Nat} (h:DD n i=some j):seqIndex? i n=some j/\j<n/\-(n:Int)<=i/\i<n:=by
 unfold DD at h
 by_cases h0:0<=i
 ·rw[if_pos h0] at h
  by_cases h1:i<n
  ·rw[if_pos h1] at h;have e:i.toNat=j:=ZU h;exact⟨by rw[seqIndex_of h0 h1,e],by lia,by lia,h1⟩
  ·rw[if_neg h1] at h;cases h
 ·rw[if_neg h0] at h
  by_cases h1:-(n:Int)<=i
  ·rw[if_pos h1] at h;have e:(i+n).toNat=j:=ZU h;exact⟨by rw[seqIndex_neg (by lia) h1,e],by lia,h1,by lia⟩
  ·rw[if_neg h1] at h;cases h
theorem vJ {α:Type} {xs:List α} {i:Int} {v:α} (h:iX xs i=some v):∃j,seqIndex? i xs.length=some j/\xs[j]?=some v/\j<xs.length/\-(xs.length:Int)<=i/\i<xs.length:=by
 unfold iX at h;cases e:DD xs.length i with
 | none=>rw[e] at h;cases h
 | some j=>
  rw[e] at h;obtain⟨h1,h2,h3,h4⟩:=Ba e;exact⟨j,h1,h,h2,h3,h4⟩
theorem bT {α:Type} {xs:List α} {j:Nat} {v:α} (h:xs[j]?=some v):iX xs (j:Int)=some v:=by
 have hj:j<xs.length:=(aaI.mp h).1;have e:DD xs.length (j:Int)=some j:=by
  unfold DD;rw[if_pos (by lia),if_pos (by lia)];simp
 unfold iX;rw[e];exact h
noncomputable def GK (b:Expr):Prop:=∀o i,subscripted b false o i=operate [o,i] (getItem o i)
noncomputable def Ge (X:Cx) (r:R2):Prop:=
 ∀(value slice:Expr) (pins:List (Addr×Obj)) (s:Shared) (σ:St) (H:Hp) (x y:V) (v u:Value) (Q:VK),Inv X pins σ H s->RelV x v->RelV y u->r x y H Q->
  subscripted slice false v u=operate [v,u] (getItem v u)->wpAny (model X.prog X.w) X.A (subscriptTail value slice v u) (EP X pins σ Q) X.xe s
noncomputable def IM (X:Cx) (id:String) (r:V->List V->Hp->VK->Prop):Prop:=
 ∀(pins:List (Addr×Obj)) (s:Shared) (σ:St) (H:Hp) (x:V) (xs:List V) (v:Value) (us:List Value) (Q:VK),Inv X pins σ H s->RelV x v->bC xs us->r x xs H Q->
  wpAny (model X.prog X.w) X.A (call (.builtin id) (v::us)) (EP X pins σ Q) X.xe s
section
variable {X : Cx} {a b : Expr} {ta tb : TE} {pos : Pos}
theorem ar {r:R2} (hr:Ge X r) (ha:PE X a ta) (hb:PE X b tb) (hs:GK b):PE X (.Subscript a b pos) (tOp r ta tb):=by
 intro pins s σ H Q I h;exact Subscript_ (JM ha hb I h λv u s2 x y H2 I2 rx ry q=>hr a b pins s2 σ H2 x y v u Q I2 rx ry q (hs _ _))
noncomputable def Qb (K:aaB):R2:=λx y H Q=>∃p xs i v,x=.ref p/\y=.int i/\bL K H p xs/\iX xs i=some v/\Q v H
noncomputable def Qc (K:aaB):R2:=λx y H Q=>∃p xs i v,x=.ref p/\y=.int i/\kz K H p xs/\iX xs i=some v/\Q v H
noncomputable def JP:R2:=λx y H Q=>∃z i c,x=.str z/\y=.int i/\z.length<=sizeLine/\iX z.cps.toList i=some c/\Q (.str ⟨#[c]⟩) H
theorem Bb:Ge X (Qb X.K):=by
 intro value slice pins s σ H x y v u Q I rx ry h hs;obtain⟨p,xs,i,z,rfl,rfl,hq,he,q⟩:=h;cases rx;obtain⟨t,rfl⟩:=ry;obtain⟨bg,r,pl,hz⟩:=I.list hq;obtain⟨j,h1,h2,h3,h4,h5⟩:=vJ he;obtain⟨w,ew,Ce⟩:=r.get h2;have hl:=r.length;have hn:=rh;have fin:EP X pins σ Q w s:=⟨z,H,I,Ce,q⟩
 by_cases h0:0<=i
 ·have hj:i.toNat=j:=by
   rw[seqIndex_of h0 h5] at h1;exact ZU h1
  exact item_listR pl.isList h0 (by lia) (by rw[hj];simpa using ew) fin hs
 ·have hj:(i+ (bg.toArray.size:Int)).toNat=j:=by
   rw[seqIndex_neg (by lia) h4] at h1;rw[ZF,<-hl];exact ZU h1
  exact subscriptTail_builtinR (x:=w) pl.isList.typeIs slot_list_getitem.lookup
   (wpAny_getItem_list_neg (Q:=λr s'=>r=w/\EP X pins σ Q r s') pl.isList (by lia) (by rw[ZF] <;>lia) (by lia) (by rw[hj];simpa using ew) ⟨rfl,fin⟩) hs
theorem JQ:Ge X (Qc X.K):=by
 intro value slice pins s σ H x y v u Q I rx ry h hs;obtain⟨p,xs,i,z,rfl,rfl,hq,he,q⟩:=h;cases rx;obtain⟨t,rfl⟩:=ry;obtain⟨bg,r,pl,hz⟩:=I.tuple hq;obtain⟨j,h1,h2,h3,h4,h5⟩:=vJ he;obtain⟨w,ew,Ce⟩:=r.get h2;have hl:=r.length;have hn:=rh;have fin:EP X pins σ Q w s:=⟨z,H,I,Ce,q⟩
 exact subscriptTail_builtinR (x:=w) pl.typeIs slot_tuple_getitem.lookup
  (getItem_tuple (j:=j) (Q:=λr s'=>r=w/\EP X pins σ Q r s') pl (by lia) (by lia) (by rw[ZF,<-hl];exact h1) (by simpa using ew) ⟨rfl,fin⟩) hs
theorem JR:Ge X JP:=by
 intro value slice pins s σ H x y v u Q I rx ry h hs;obtain⟨z,i,c,rfl,rfl,hz,he,q⟩:=h;obtain⟨t,rfl⟩:=rx;obtain⟨t',rfl⟩:=ry;obtain⟨j,h1,h2,h3,h4,h5⟩:=vJ he;have hl:z.cps.toList.length=z.length:=by simp [Str.length]
 rw[hl] at h1 h4 h5;have hn:=rh;exact tail_any (typeIs_str s z t) slot_str_getitem.lookup (getItem_str (c:=c) (by
  have e1:decide (i < -(2^63:Int))=false:=decide_eq_false (by lia);have e2:decide (i≥2^63)=false:=decide_eq_false (by lia);rw[e1,e2,Bool.or_false]) (by rw[h1];simpa using h2) ⟨.str ⟨#[c]⟩,H,I.tok _,⟨_,rfl⟩,q⟩) hs
theorem zL (bg:List Value) (n j:Nat) (u:Value):Obj.mapSeq (·.setIfInBounds j u) {cls:=.type "list",data:=.seq bg.toArray n}={cls:=.type "list",data:=.seq (bg.set j u).toArray n}:=by
 simp [Obj.mapSeq]
theorem Inv.lst {pins:List (Addr×Obj)} {σ:St} {H:Hp} {s:Shared} {p:Addr} {xs:List V} (I:Inv X pins σ H s) (h:H p=some (.lst xs)):
  ∃(bg:List Value) (n:Nat),bC xs bg/\s.heap.get? p=some {cls:=.type "list",data:=.seq bg.toArray n}/\xs.length<=sizeLine:=by
 obtain⟨z,bg,n,r,e⟩:=I.bU p _ h;exact⟨bg,n,r,e,z⟩
theorem Inv.JS {pins:List (Addr×Obj)} {σ:St} {H:Hp} {s:Shared} {p:Addr} {xs ys:List V} {bg its':List Value} {n n':Nat} {f:Obj->Obj} (I:Inv X pins σ H s) (h:H p=some (.lst xs))
  (ho:s.heap.get? p=some {cls:=.type "list",data:=.seq bg.toArray n}) (hf:f {cls:=.type "list",data:=.seq bg.toArray n}={cls:=.type "list",data:=.seq its'.toArray n'}) (r:bC ys its') (hz:ys.length<=sizeLine) (t:Nat):
  Inv X pins σ (upd H p (.lst ys)) {s with heap:=s.heap.update p f,toks:=t}:=by
 have e:(s.heap.update p f).get? p=some {cls:=.type "list",data:=.seq its'.toArray n'}:=by
  rw[Heap.get?_update_self f ho (by rw[hf] <;>rfl),hf]
 refine I.write (x:=p) (e:=p) (by rw[h];trivial) (.inl rfl) (λb u hb q=>(Heap.get?_update_other _ _ (Ne.symm hb)).trans q) ⟨_,e⟩ ?_;exact⟨hz,its',n',r,e⟩
noncomputable def rSetL:V->V->V->Hp->(Hp->Prop)->Prop:=λo i v H Q=>∃p xs k j,o=.ref p/\i=.int k/\H p=some (.lst xs)/\DD xs.length k=some j/\Q (upd H p (.lst (xs.set j v)))
theorem set_list:MK X rSetL:=by
 intro pins s σ H o i v ov iv u Q I ro ri rv h;obtain⟨p,xs,k,j,rfl,rfl,hp,hj,q⟩:=h;cases ro;obtain⟨t,rfl⟩:=ri;obtain⟨bg,n,r,ho,hz⟩:=I.lst hp;obtain⟨h1,h2,h3,h4⟩:=Ba hj;have hl:=r.length;have hn:=rh;have I':Inv X pins σ (upd H p (.lst (xs.set j v))) {s with heap:=s.heap.update p (Obj.mapSeq (·.setIfInBounds j u))}:=
  I.JS hp ho (zL bg n j u) (r.set rv j) (by rw[List.length_set];exact hz) s.toks
 by_cases h0:0<=k
 ·have hk:k.toNat=j:=by
   rw[seqIndex_of h0 h4] at h1;exact ZU h1
  exact PySem.W.ki_setAt ho h0 (by lia) (by rw[ZF,<-hl];exact h4) (by rw[hk];exact⟨_,I',q⟩)
 ·have hk:(k+ (bg.toArray.size:Int)).toNat=j:=by
   rw[seqIndex_neg (by lia) h3] at h1;rw[ZF,<-hl];exact ZU h1
  exact PySem.W.ki_setBack ho (by lia) (by rw[ZF,<-hl];exact h3) (by lia) (by rw[hk];exact⟨_,I',q⟩)
theorem vK (lo hi:Option Int) (n:Nat):(sliceBounds lo hi none n).1=((HT.zJ n 0 lo:Nat):Int)/\(sliceBounds lo hi none n).2.1=((HT.zJ n n hi:Nat):Int)/\(sliceBounds lo hi none n).2.2=1:=by
 refine⟨?_,?_,rfl⟩
 ·cases lo with
  | none=>simp [sliceBounds,HT.zJ]
  | some i=>
   simp only[sliceBounds,HT.zJ,Option.getD_none,show(1:Int) >0 by decide,if_true]
   by_cases h:i<0
   ·simp only[h,if_true] <;>lia
   ·simp only[h,if_false] <;>lia
 ·cases hi with
  | none=>simp [sliceBounds,HT.zJ]
  | some i=>
   simp only[sliceBounds,HT.zJ,Option.getD_none,show(1:Int) >0 by decide,if_true]
   by_cases h:i<0
   ·simp only[h,if_true] <;>lia
   ·simp only[h,if_false] <;>lia
theorem t6 (bg:List Value) (lo hi:Option Int):slicePick bg.toArray lo hi none=((bg.drop (HT.zJ bg.length 0 lo)).take (HT.zJ bg.length bg.length hi - HT.zJ bg.length 0 lo)).toArray:=by
 obtain⟨h1,h2,h3⟩:=vK lo hi bg.toArray.size;unfold slicePick;rw[h1,h2,h3];simp only[sliceRange_one,pick_run,ZF] <;>rfl
noncomputable def rSlL (K:aaB):V->Option Int->Option Int->Hp->VK->Prop:=λx lo hi H Q=>∃a xs,x=.ref a/\bL K H a xs/\∀p,H p=none->Q (.ref p) (upd H p (.lst (DC xs lo hi)))
theorem GL:MT X (rSlL X.K):=by
 intro pins s σ H x v vl vu lo hi sl Q I rx hs pl pu h;obtain⟨a,xs,rfl,hx,q⟩:=h;cases rx;obtain⟨bg,r,ht,hz⟩:=I.list hx;have hlen:=r.length;refine⟨"list",_,slot_list_getitem.lookup,ht.isList.typeIs,?_⟩;refine wpAny_getItem_list_slice ht.isList hs pl pu .none (by simp) ?_ (by rw[ZF] <;>lia);rw[t6,<-hlen];refine⟨.ref s.heap.objs.size,_,I.laid (t':=s.toks) (o:=.lst (DC xs lo hi)) (λb ob q=>aaL _ q) (ZD _) ?_,rfl,q _ (I.bU.fresh (ZD _))⟩;exact⟨ZN (xK xs lo hi) hz,_,0,(r.drop (HT.zJ xs.length 0 lo)).take (HT.zJ xs.length xs.length hi - HT.zJ xs.length 0 lo),aaM _ rfl⟩
noncomputable def eA:V->Bool
 | .cW=>true
 | .bl _=>true
 | .int _=>true
 | .str _=>true
 | _=>false
noncomputable def zM:V->V->Bool
 | .cW,.cW=>true
 | .bl a,.bl b=>a==b
 | .bl a,.int b=>(if a then 1 else 0)==b
 | .int a,.bl b=>a==(if b then 1 else 0)
 | .int a,.int b=>a==b
 | .str a,.str b=>a==b
 | _,_=>false
theorem JT {A:Around} {s:Shared} {y x:V} {u v:Value} (ry:RelV y u) (rx:RelV x v) (fy:eA y=true) (fx:eA x=true):SeqAt.EqAt A s u v (zM y x):=by
 cases y with
 | cW=>
  cases ry;cases x with
  | cW=>cases rx;exact SeqAt.EqAt.same _
  | bl b=>cases rx;exact SeqAt.EqAt.none_bool b
  | int b=>obtain⟨t,rfl⟩:=rx;exact SeqAt.EqAt.none_int b t
  | str b=>obtain⟨t,rfl⟩:=rx;exact SeqAt.EqAt.none_str b t
  | _=>exact absurd (show false=true from fx) ZO
 | bl a=>
  cases ry;cases x with
  | cW=>cases rx;exact SeqAt.EqAt.bool_none a
  | bl b=>cases rx;exact SeqAt.EqAt.bool_bool a b
  | int b=>obtain⟨t,rfl⟩:=rx;exact SeqAt.EqAt.bool_int a b t
  | str b=>obtain⟨t,rfl⟩:=rx;exact SeqAt.EqAt.bool_str a b t
  | _=>exact absurd (show false=true from fx) ZO
 | int a=>
  obtain⟨t',rfl⟩:=ry;cases x with
  | cW=>cases rx;exact SeqAt.EqAt.int_none a t'
  | bl b=>cases rx;exact SeqAt.EqAt.int_bool a t' b
  | int b=>obtain⟨t,rfl⟩:=rx;exact SeqAt.EqAt.int_int a t' b t
  | str b=>obtain⟨t,rfl⟩:=rx;exact SeqAt.EqAt.int_str a t' b t
  | _=>exact absurd (show false=true from fx) ZO
 | str a=>
  obtain⟨t',rfl⟩:=ry;cases x with
  | cW=>cases rx;exact SeqAt.EqAt.str_none a t'
  | bl b=>cases rx;exact SeqAt.EqAt.str_bool a t' b
  | int b=>obtain⟨t,rfl⟩:=rx;exact SeqAt.EqAt.str_int a t' b t
  | str b=>obtain⟨t,rfl⟩:=rx;exact SeqAt.EqAt.str_str a t' b t
  | _=>exact absurd (show false=true from fx) ZO
 | _=>exact absurd (show false=true from fy) ZO
noncomputable def zN (x:V) (u:Value):Bool:=match u with
 | .none=>zM .cW x
 | .bool b=>zM (.bl b) x
 | .int i _=>zM (.int i) x
 | .str z _=>zM (.str z) x
 | _=>false
theorem DE {x y:V} {u:Value} (r:RelV y u) (f:eA y=true):zN x u=zM y x:=by
 cases y with
 | cW=>cases r;rfl
 | bl b=>cases r;rfl
 | int i=>obtain⟨t,rfl⟩:=r;rfl
 | str z=>obtain⟨t,rfl⟩:=r;rfl
 | _=>exact absurd (show false=true from f) ZO
theorem mF {x:V}:∀{xs:List V} {us:List Value},bC xs us->xs.all eA=true->us.any (zN x)=xs.any λy=>zM y x
 | _,_,.nil,_=>rfl
 | y::xs,u::us,.cons r t,f=>by
  rw[List.all_cons,Z8] at f;rw[List.any_cons,List.any_cons,DE r f.1,mF t f.2]
theorem iY {A:Around} {s:Shared} {x:V} {v:Value} (rx:RelV x v) (fx:eA x=true):∀{xs:List V} {us:List Value},bC xs us->xs.all eA=true->∀u∈us,SeqAt.EqAt A s u v (zN x u)
 | _,_,.nil,_=>λu hu=>by cases hu
 | y::xs,u::us,.cons r t,f=>λu' hu=>by
  rw[List.all_cons,Z8] at f;rcases aaj.mp hu with rfl | hu
  ·rw[DE r f.1];exact JT r rx f.1 fx
  ·exact iY rx fx t f.2 u' hu
noncomputable def zO (x:V) (xs:List V):Bool:=xs.any λy=>zM y x
noncomputable def JU (K:aaB) (neg:Bool):R2:=λx y H Q=>∃p xs,y=.ref p/\(bL K H p xs\/kz K H p xs)/\eA x=true/\xs.all eA=true/\Q (.bl (if neg then !zO x xs else zO x xs)) H
theorem u5:jF X (compareOp .In) (JU X.K false):=by
 intro pins s σ H x y v u Q I rx ry h;obtain⟨p,xs,rfl,hq,fx,fs,q⟩:=h;cases ry;rcases hq with hq | hq
 ·obtain⟨bg,r,pl,hz⟩:=I.list hq;refine SeqAt.in_listAt (zN x) pl.isList (λw hw=>iY rx fx r fs w (by simpa using hw)) ⟨.bl _,H,I,rfl,?_⟩;rw[show bg.toArray.any (zN x)=bg.any (zN x) by simp,mF r fs];exact q
 ·obtain⟨bg,r,pl,hz⟩:=I.tuple hq;refine SeqAt.in_tupleAt (zN x) pl (λw hw=>iY rx fx r fs w (by simpa using hw)) ⟨.bl _,H,I,rfl,?_⟩;rw[show bg.toArray.any (zN x)=bg.any (zN x) by simp,mF r fs];exact q
theorem vL:jF X (compareOp .NotIn) (JU X.K true):=by
 intro pins s σ H x y v u Q I rx ry h;obtain⟨p,xs,rfl,hq,fx,fs,q⟩:=h;cases ry;rcases hq with hq | hq
 ·obtain⟨bg,r,pl,hz⟩:=I.list hq;refine SeqAt.notIn_listAt (zN x) pl.isList (λw hw=>iY rx fx r fs w (by simpa using hw)) ⟨.bl _,H,I,rfl,?_⟩;rw[show bg.toArray.any (zN x)=bg.any (zN x) by simp,mF r fs];exact q
 ·obtain⟨bg,r,pl,hz⟩:=I.tuple hq;refine SeqAt.notIn_tupleAt (zN x) pl (λw hw=>iY rx fx r fs w (by simpa using hw)) ⟨.bl _,H,I,rfl,?_⟩;rw[show bg.toArray.any (zN x)=bg.any (zN x) by simp,mF r fs];exact q
theorem mG:cQ X (.builtin "len") (λxs H Q=>∃p ys,xs=[.ref p]/\(bL X.K H p ys\/kz X.K H p ys)/\Q (.int ys.length) H):=by
 intro pins s σ H xs us Q I r h;obtain⟨p,ys,rfl,hq,q⟩:=h;obtain⟨u,rfl,rx⟩:=vals1 r;cases rx;have hn:=rh;rcases hq with hq | hq
 ·obtain⟨bg,r',pl,hz⟩:=I.list hq;have hlen:=r'.length;exact Calls.call_len_list pl.isList (by simp only[ZF] <;>lia) ⟨.int ys.length,H,I.tok _,⟨s.toks+1,by rw[ZF,hlen]⟩,q⟩
 ·obtain⟨bg,r',pl,hz⟩:=I.tuple hq;have hlen:=r'.length;exact len_tuple pl (by simp only[ZF] <;>lia) ⟨.int ys.length,H,I.tok _,⟨s.toks+1,by rw[ZF,hlen]⟩,q⟩
theorem vM:cQ X (.type "list") (λxs H Q=>∃p ys,xs=[.ref p]/\(bL X.K H p ys\/kz X.K H p ys)/\∀l,H l=none->Q (.ref l) (upd H l (.lst ys))):=by
 intro pins s σ H xs us Q I r h;obtain⟨p,ys,rfl,hq,q⟩:=h;obtain⟨u,rfl,rx⟩:=vals1 r;cases rx;have fin:∀(bg:List Value),bC ys bg->ys.length<=sizeLine->∀(h':Heap) (c':Nat),(∀b o',s.heap.get? b=some o'->h'.get? b=some o')->
   h'.get? s.heap.objs.size=some {cls:=.type "list",dict:=none,data:=.seq bg.toArray c',slots:=#[]}->EP X pins σ Q (.ref s.heap.objs.size) {s with heap:=h'}:=λbg r' hz h' c' kp e=>
  ⟨.ref s.heap.objs.size,_,I.laid (t':=s.toks) kp (ZD _) (show cD X.prog X.w _ h' _ (.lst ys) from⟨hz,bg,c',r',e⟩),rfl,q _ (I.bU.fresh (ZD _))⟩
 rcases hq with hq | hq
 ·obtain⟨bg,r',pl,hz⟩:=I.list hq;have hlen:=r'.length;obtain⟨o,ho,hc,n,hd⟩:=pl.isList;exact call_list_seq p (.inl rfl) ho hc hd (λh' c' kp e=>fin bg r' hz h' c' kp e) (by simp only[ZF] <;>lia)
 ·obtain⟨bg,r',pl,hz⟩:=I.tuple hq;have hlen:=r'.length;obtain⟨o,ho,hc,n,hd⟩:=pl;exact call_list_seq p (.inr rfl) ho hc hd (λh' c' kp e=>fin bg r' hz h' c' kp e) (by simp only[ZF] <;>lia)
noncomputable def OR (K:aaB) (T:String) (x:V) (H:Hp):Prop:=match x with
 | .str _=>T="str"
 | .int _=>T="int"
 | .ref p=>(T="list"/\∃xs,bL K H p xs)\/(T="tuple"/\∃o,K.lookup p=some o/\o.cls=.type "tuple"/\o.dict=none)\/
   (T="dict"/\((∃kvs,H p=some (.dK kvs))\/∃kvs,H p=some (.dT kvs)))\/(T="set"/\∃S n,H p=some (.set S n))
 | _=>False
theorem zP {pins:List (Addr×Obj)} {σ:St} {H:Hp} {s:Shared} {T:String} {x:V} {v:Value} (I:Inv X pins σ H s) (r:RelV x v) (ty:OR X.K T x H):
  s.TypeIs v T/\∀a,v=.ref a->∃ob,s.heap.get? a=some ob/\ob.dict=none:=by
 cases x with
 | str z=>
  obtain⟨t,rfl⟩:=r;cases (show T="str" from ty);exact⟨typeIs_str s z t,λ_ e=>nomatch e⟩
 | int i=>
  obtain⟨t,rfl⟩:=r;cases (show T="int" from ty);exact⟨typeIs_int s i t,λ_ e=>nomatch e⟩
 | ref p=>
  cases r;rcases ty with ⟨rfl,xs,hq⟩ | ⟨rfl,o,hk,hc,hd⟩ | ⟨rfl,hk⟩ | ⟨rfl,S,n,hk⟩
  ·obtain⟨bg,_,pl,_⟩:=I.list hq;refine⟨pl.isList.typeIs,λa e=>?_⟩;cases e;obtain⟨o,n,e,c,hd,_⟩:=pl;exact⟨o,e,hd⟩
  ·refine⟨⟨o,I.kx p o hk,hc⟩,λa e=>?_⟩;cases e;exact⟨o,I.kx _ o hk,hd⟩
  ·have z:∃o,s.heap.get? p=some o/\o.ExactDict:=by
    rcases hk with ⟨kvs,hk⟩ | ⟨kvs,hk⟩
    ·obtain⟨_,_,_,_,o,_,_,e,ex,_⟩:=I.bU p _ hk;exact⟨o,e,ex⟩
    ·obtain⟨_,_,_,_,o,_,_,e,ex,_⟩:=I.bU p _ hk;exact⟨o,e,ex⟩
   obtain⟨o,e,ex⟩:=z;refine⟨⟨o,e,ex.1⟩,λa e2=>?_⟩;cases e2;exact⟨o,e,ex.2.1⟩
  ·obtain⟨o,_,_,_,e,ex,_⟩:=I.bU p _ hk;refine⟨⟨o,e,ex.1⟩,λa e2=>?_⟩;cases e2;exact⟨o,e,ex.2.1⟩
 | _=>exact False.elim ty
noncomputable def JV (K:aaB) (T:String) (r:V->List V->Hp->VK->Prop) (to:TE):TE:=λσ H Q=>to σ H λx H1=>OR K T x H1/\r x [] H1 Q
noncomputable def tBM (K:aaB) (T:String) (r:V->List V->Hp->VK->Prop) (to:TE) (t:TA):TE:=λσ H Q=>to σ H λx H1=>OR K T x H1/\t σ H1 λxs H2=>r x xs H2 Q
variable {o e : Expr} {es : List Expr} {to : TE} {t : TA} {name : Str} {apos dS : Pos} {T id : String} {r : V -> List V -> Hp -> VK -> Prop}
theorem DF (pa:PlainAttrs T) (slot:Slot T name id) (Qd:typeOf (.builtin id)=pure (.type "method_descriptor")) (hm:IM X id r) (ho:PE X o to)
  (xM:attributeBase o name X.env (eval o X.env)=eval o X.env:=by rfl) (xN:(apos.endLine==dS.line)=true:=by rfl):PE X (.Call (.Attribute o name apos) [] [] dS) (JV X.K T r to):=by
 intro pins s σ H Q I h;refine wpAny_Call_method0_late xM xN (cG (ho pins s σ H _ I h) λv s1 dC=>?_);obtain⟨x,H1,I1,r1,ty,q1⟩:=dC;obtain⟨h1,h2⟩:=zP I1 r1 ty;exact⟨T,id,pa,slot,Qd,h1,h2,Calls.callWith_builtin rfl (PySem.evalArgs_none (hm pins s1 σ H1 x [] v [] Q I1 r1 .nil q1))⟩
theorem fi (pa:PlainAttrs T) (slot:Slot T name id) (Qd:typeOf (.builtin id)=pure (.type "method_descriptor")) (hm:IM X id r) (ho:PE X o to) (ha:PA X (e::es) t)
  (xM:attributeBase o name X.env (eval o X.env)=eval o X.env:=by rfl)
  (Qe:((backTo dS (starEach (e::es) X.env)).all (λx=>!x.1) && (backToKw dS (keywordEach [] X.env)).all (λx=>x.1.isSome)
   && decide ((e::es).length+ ([]:List Keyword).length+ (if ([]:List Keyword).isEmpty then 0 else 1)<30))=true:=by rfl)
  (xN:(apos.endLine==dS.line)=true:=by rfl) (hs:starEach (e::es) X.env=(false,eval e X.env)::starEach es X.env:=by rfl) (JW:(backTo dS (starEach es X.env)).any (·.1)=false:=by rfl):
  PE X (.Call (.Attribute o name apos) (e::es) [] dS) (tBM X.K T r to t):=by
 intro pins s σ H Q I h;refine wpAny_Call_method_late xM Qe xN rfl (cG (ho pins s σ H _ I h) λv s1 dC=>?_);obtain⟨x,H1,I1,r1,ty,q1⟩:=dC;obtain⟨h1,h2⟩:=zP I1 r1 ty;refine⟨T,id,pa,slot,Qd,h1,h2,?_⟩;have hA:=ha dS pins s1 σ H1 _ I1 q1;rw[hs] at hA ⊢;refine Calls.callWith_builtin (by show(false || (backTo dS (starEach es X.env)).any (·.1))=false;rw[JW] <;>rfl) (Calls.evalArgs_plain ?_);exact cG hA λus s2 ⟨vs,H2,I2,r2,q2⟩=>hm pins s2 σ H2 x vs v us Q I2 r1 r2 q2
end
end L2
namespace L2
open PySem PySem.Spec PyProof.Rows
noncomputable def JX (X:Cx) (id:String) (r:V->List V->Hp->VK->Prop):Prop:=
 ∀(pins:List (Addr×Obj)) (s:Shared) (σ:St) (H:Hp) (x:V) (xs:List V) (v:Value) (us:List Value) (Q:VK),Inv X pins σ H s->RelV x v->bC xs us->r x xs H Q->
  wpAny (model X.prog X.w) X.A (call (.builtin id) (v::us)) (EP X pins σ Q) X.xe s
theorem bC.one:∀{x:V} {us:List Value},bC [x] us->∃u,us=[u]/\RelV x u
 | _,_,.cons r .nil=>⟨_,rfl,r⟩
theorem bC.zero:∀{us:List Value},bC [] us->us=[]
 | _,.nil=>rfl
theorem bC.dropLast {xs:List V} {us:List Value} (h:bC xs us):bC xs.dropLast us.dropLast:=by
 induction h with
 | nil=>exact .nil
 | cons r t ih=>
  cases t with
  | nil=>exact .nil
  | cons q t'=>exact .cons r ih
theorem bC.reverse {xs:List V} {us:List Value} (h:bC xs us):bC xs.reverse us.reverse:=by
 induction h with
 | nil=>exact .nil
 | cons r t ih=>rw[List.reverse_cons,List.reverse_cons];exact bC.append ih (.cons r .nil)
theorem bC.rep {xs:List V} {us:List Value} (h:bC xs us):∀k:Nat,bC (aaO k xs).flatten (aaO k us).flatten
 | 0=>.nil
 | k+1=>by
  rw[aaw,aaw,List.flatten_cons,List.flatten_cons];exact bC.append h (bC.rep h k)
theorem zQ {α:Type} (l:List α):l.eraseIdx (l.length - 1)=l.dropLast:=by
 induction l with
 | nil=>rfl
 | cons a r ih=>
  cases r with
  | nil=>rfl
  | cons b r=>
   have e:(a::b::r).length - 1=((b::r).length - 1)+1:=by
    have h1:(a::b::r).length=r.length+2:=rfl;have h2:(b::r).length=r.length+1:=rfl;lia
   rw[e,List.eraseIdx_cons_succ,ih]
   all_goals rfl
theorem foldl_rep (bg:List Value):∀(k:Nat) (acc:List Value),
  List.foldl (λx1 x2=>x1++x2) acc.toArray (aaO k bg.toArray)=(acc++ (aaO k bg).flatten).toArray
 | 0,acc=>by simp
 | k+1,acc=>by
  have e:acc.toArray++bg.toArray=(acc++bg).toArray:=by simp
  have e2:(acc++bg)++ (aaO k bg).flatten=acc++ (aaO (k+1) bg).flatten:=by
   rw[aaw,List.flatten_cons,List.append_assoc]
  rw[<-e2,<-foldl_rep bg k (acc++bg),<-e,aaw,List.foldl_cons]
section
variable {X : Cx} {pins : List (Addr × Obj)} {σ : St} {H : Hp} {s : Shared} {l b : Addr} {xs ys zs : List V}
theorem Inv.GN {bg its':List Value} {n:Nat} {f:Array Value->Array Value} {t':Nat} (I:Inv X pins σ H s) (hH:H l=some (.lst xs))
  (e:s.heap.get? l=some {cls:=.type "list",data:=.seq bg.toArray n}) (hf:f bg.toArray=its'.toArray) (hv:bC ys its') (hz:ys.length<=sizeLine):
  Inv X pins σ (upd H l (.lst ys)) {s with heap:=s.heap.update l (Obj.mapSeq f),toks:=t'}:=by
 have q:=PySem.IsL.update e f;rw[hf] at q;refine I.write (x:=l) (e:=l) (by rw[hH];exact trivial) (.inl rfl) (λb' u hb hu=>(Heap.get?_update_other s.heap (Obj.mapSeq f) (Ne.symm hb)).trans hu) ⟨_,q⟩ ?_;exact⟨hz,its',_,hv,q⟩
theorem Inv.MU {bg:List Value} {t':Nat} (I:Inv X pins σ H s) (hv:bC ys bg) (hz:ys.length<=sizeLine):
  Inv X pins σ (upd H s.heap.objs.size (.lst ys)) {s with heap:=s.heap.push {cls:=.type "list",data:=.seq bg.toArray},toks:=t'}:=
 I.laid (λ_ _ q=>aaL _ q) (ZD _) ⟨hz,bg,0,hv,aaM _ rfl⟩
theorem Inv.fresh (I:Inv X pins σ H s):H s.heap.objs.size=none:=I.bU.fresh (ZD _)
theorem Inv.xO (I:Inv X pins σ H s) (hH:H l=some (.lst xs)):xs.length<=sizeLine/\∃(bg:List Value) (n:Nat),bC xs bg/\xs.length=bg.length/\s.heap.get? l=some {cls:=.type "list",data:=.seq bg.toArray n}:=by
 obtain⟨z,bg,n,r,e⟩:=I.bU l _ hH;exact⟨z,bg,n,r,r.length,e⟩
theorem xP {n:Nat} (h:n<=sizeLine):Builtin.List.listTooLong n=false:=by
 unfold Builtin.List.listTooLong;exact decide_eq_false (by lia)
end
section
variable {X : Cx}
noncomputable def eQ:V->List V->Hp->VK->Prop:=λx vs H Q=>∃l xs y,x=.ref l/\vs=[y]/\H l=some (.lst xs)/\xs.length<sizeLine/\Q .cW (upd H l (.lst (xs++ [y])))
theorem dG:JX X "list.append" eQ:=by
 intro pins s σ H x vs v us Q I rx rv h;obtain⟨l,xs,y,rfl,rfl,hH,hz,q⟩:=h;cases rx;obtain⟨u,rfl,ru⟩:=rv.one;obtain⟨z,bg,n,r,hl,e⟩:=I.xO hH;refine call_meets F.slot_list_append ⟨_,e,rfl⟩ F.entry_list_append (F.args_list_append_2 _ _) (PySem.list_append l bg.toArray n u (by rw[ZF];lia)) ⟨e,?_⟩;refine⟨.cW,_,I.GN (its':=bg++ [u]) hH e (by simp) (r.append (.cons ru .nil)) ?_,rfl,q⟩;rw[ZJ,aao];lia
noncomputable def vN:V->List V->Hp->VK->Prop:=λx vs H Q=>∃l b xs zs,x=.ref l/\vs=[.ref b]/\H l=some (.lst xs)/\H b=some (.lst zs)/\xs.length+zs.length<=sizeLine/\Q .cW (upd H l (.lst (xs++zs)))
theorem u6:JX X "list.extend" vN:=by
 intro pins s σ H x vs v us Q I rx rv h;obtain⟨l,b,xs,zs,rfl,rfl,hH,hB,hz,q⟩:=h;cases rx;obtain⟨u,rfl,ru⟩:=rv.one;cases ru;obtain⟨z,bg,n,r,hl,e⟩:=I.xO hH;obtain⟨z2,zR,n2,r2,DG,e2⟩:=I.xO hB;have hsz:bg.toArray.size+zR.toArray.size<=sizeLine:=by rw[ZF,ZF];lia
 have DH:¬(!bg.toArray.isEmpty && Builtin.List.listTooLong (bg.toArray.size+zR.toArray.size))=true:=by
  rw[xP hsz,Bool.and_false];exact ZO
 refine call_meets F.slot_list_extend ⟨_,e,rfl⟩ F.entry_list_extend (F.args_list_extend_2 _ _)
  (AutoSeq1.list_extend_list_list_0 l bg.toArray n b zR.toArray n2 DH (by rw[ZF];lia) (by lia)) ⟨e,e2,?_⟩
 refine⟨.cW,_,I.GN (its':=bg++zR) hH e (by simp) (r.append r2) ?_,rfl,q⟩;rw[ZJ];lia
noncomputable def MV:V->List V->Hp->VK->Prop:=λx vs H Q=>∃l xs y,x=.ref l/\vs=[]/\H l=some (.lst xs)/\xs[xs.length - 1]?=some y/\Q y (upd H l (.lst xs.dropLast))
theorem JY:JX X "list.pop" MV:=by
 intro pins s σ H x vs v us Q I rx rv h;obtain⟨l,xs,y,rfl,rfl,hH,hy,q⟩:=h;cases rx;have UW:=rv.zero;subst UW;obtain⟨z,bg,n,r,hl,e⟩:=I.xO hH;obtain⟨u,hu,ru⟩:=r.get hy;have JZ:bg.toArray[bg.toArray.size - 1]?=some u:=by
  show bg.toArray[bg.length - 1]?=some u;rw[<-Array.getElem?_toList,<-hl];exact hu
 refine call_meets F.slot_list_pop ⟨_,e,rfl⟩ F.entry_list_pop (F.args_list_pop_1 _) (MeetsSeq.list_pop_last l bg.toArray n u JZ (by rw[ZF];lia)) ⟨e,?_⟩;refine⟨y,_,I.GN (its':=bg.dropLast) hH e ?_ r.dropLast ?_,ru,q⟩
 ·show bg.toArray.eraseIdxIfInBounds (bg.toArray.size - 1)=bg.dropLast.toArray;rw[ZF,List.eraseIdxIfInBounds_toArray,zQ]
 ·rw[List.length_dropLast];lia
noncomputable def GO:R2:=λx y H Q=>∃l b xs zs,x=.ref l/\y=.ref b/\H l=some (.lst xs)/\H b=some (.lst zs)/\xs.length+zs.length<=sizeLine/\∀p,H p=none->Q (.ref p) (upd H p (.lst (xs++zs)))
theorem zS:jF X (binaryOp .Add) GO:=by
 intro pins s σ H x y v u Q I rx ry h;obtain⟨l,b,xs,zs,rfl,rfl,hH,hB,hz,q⟩:=h;cases rx;cases ry;obtain⟨z,bg,n,r,hl,e⟩:=I.xO hH;obtain⟨z2,zR,n2,r2,DG,e2⟩:=I.xO hB;refine PySem.P.add_list e e2 ?_ (by rw[ZF,ZF];lia);have ea:bg.toArray++zR.toArray=(bg++zR).toArray:=by simp
 rw[ea];exact⟨.ref _,_,I.MU (t':=s.toks) (r.append r2) (by rw[ZJ];lia),rfl,q _ I.fresh⟩
noncomputable def MW:R2:=λx y H Q=>∃l k xs,x=.ref l/\y=.int k/\H l=some (.lst xs)/\-(2^63)<=k/\k<2^63/\xs.length*k.toNat<=sizeLine/\
 ∀p,H p=none->Q (.ref p) (upd H p (.lst (aaO k.toNat xs).flatten))
theorem len_rep {α:Type} (xs:List α) (k:Nat):(aaO k xs).flatten.length=k*xs.length:=by
 induction k with
 | zero=>simp
 | succ k ih=>rw[aaw,List.flatten_cons,ZJ,ih,Nat.succ_mul,Nat.add_comm]
theorem J0:jF X (binaryOp .Mult) MW:=by
 intro pins s σ H x y v u Q I rx ry h;obtain⟨l,k,xs,rfl,rfl,hH,h1,h2,hz,q⟩:=h;cases rx;obtain⟨t,rfl⟩:=ry;obtain⟨z,bg,n,r,hl,e⟩:=I.xO hH;have hlen:bg.toArray.size*k.toNat<=sizeLine:=by rw[ZF,<-hl];exact hz
 have Qf:¬bg.toArray.size*k.toNat >(2^63 - 1) / 8:=by
  have:(sizeLine:Nat)<=(2^63 - 1) / 8:=∅
  lia
 have Qg:¬(!Builtin.List.listFitsIndex k)=true:=by
  rw[fitsIndex_both h1 h2];exact ZO
 have DH:¬Builtin.List.listTooLong (bg.toArray.size*k.toNat)=true:=by
  rw[xP hlen];exact ZO
 have Qh:List.foldl (λx1 x2=>x1++x2) #[] (aaO (if bg.toArray.isEmpty=true then 0 else k.toNat) bg.toArray)=(aaO k.toNat bg).flatten.toArray:=by
  have f0:∀m:Nat,List.foldl (λx1 x2=>x1++x2) #[] (aaO m bg.toArray)=(aaO m bg).flatten.toArray:=λm=>by
   have:=foldl_rep bg m [];rw[List.nil_append] at this;exact this
  rw[f0];cases bg with
  | nil=>simp
  | cons a r'=>rw[if_neg (by simp)]
 refine wpAny_binaryOp_repeat_ref (T:="list") (U:="int") ∅ ⟨_,e,rfl⟩ (λs'=>typeIs_int s' k t) noFill_list_mul F.fills_int_mul F.slot_int_rmul repeat_list F.slot_int_index.lookup
  (call_meets F.slot_int_rmul (typeIs_int s k t) F.entry_int_rmul (F.args_int_rmul_2 _ _) (int___rmul___int_list k t l bg.toArray n)
   ⟨e,rfl,⟨_,e,rfl⟩,call_meets F.slot_list_mul ⟨_,e,rfl⟩ F.entry_list_mul (F.args_list_mul_2 _ _) (AutoListH.list___mul___list_int_3 l bg.toArray n k t Qg Qf DH) ⟨e,?_⟩⟩)
 rw[Qh];exact⟨.ref _,_,I.MU (t':=s.toks) (r.rep k.toNat) (by rw[len_rep,Nat.mul_comm];exact hz),rfl,q _ I.fresh⟩
end
section
variable {prog : Program} {w : World} {A : Around} {E : Value -> Shared -> Prop} {s : Shared}
end
section
variable {X : Cx}
end
end L2
namespace L2
open PySem PySem.Spec PyProof.Rows
section
variable {κ : Type} [DecidableEq κ]
noncomputable def dP (kvs:List (κ×V)) (k:κ):Option V:=(kvs.find? λkv=>decide (kv.1=k)).map (·.2)
noncomputable def putK (kvs:List (κ×V)) (k:κ) (v:V):List (κ×V):=
 if (kvs.any λkv=>decide (kv.1=k))=true then kvs.map (λkv=>if kv.1=k then (kv.1,v) else kv) else kvs++ [(k,v)]
noncomputable def MX (kvs:List (κ×V)) (k:κ):List (κ×V):=kvs.filter λkv=>decide (kv.1≠k)
theorem gT {p:κ×V} {r:List (κ×V)} {k:κ} (e:p.1=k):dP (p::r) k=some p.2:=by simp [dP,List.find?_cons,e]
theorem eD {p:κ×V} {r:List (κ×V)} {k:κ} (e:¬p.1=k):dP (p::r) k=dP r k:=by simp [dP,List.find?_cons,e]
theorem xQ (k:κ):∀kvs:List (κ×V),(kvs.any λkv=>decide (kv.1=k))=(dP kvs k).isSome
 | []=>rfl
 | p::r=>by
  rw[List.any_cons]
  by_cases e:p.1=k
  ·simp only[gT e,decide_eq_true e,Bool.true_or,Option.isSome_some]
  ·rw[eD e,decide_eq_false e,Bool.false_or];exact xQ k r
theorem pI (kvs:List (κ×V)) (k:κ) (v:V):(putK kvs k v).length<=kvs.length+1:=by
 unfold putK
 split
 ·rw[ZA];lia
 ·rw[ZJ,ZP,aap];lia
theorem iP.oo {o:Option V} {u:Option Value} (r:iP o u):o.isSome=u.isSome:=by
 cases o with
 | none=>cases u with
  | none=>rfl
  | some _=>exact(show False from r).elim
 | some _=>cases u with
  | none=>exact(show False from r).elim
  | some _=>rfl
theorem iP.getD {o:Option V} {u:Option Value} {d:V} {d':Value} (r:iP o u) (rd:RelV d d'):RelV (o.getD d) (u.getD d'):=by
 cases o with
 | none=>cases u with
  | none=>exact rd
  | some _=>exact(show False from r).elim
 | some _=>cases u with
  | none=>exact(show False from r).elim
  | some _=>exact r
theorem KV.val {kvs:List (κ×V)} {vs:List (κ×Value)} (r:KV kvs vs) (k:κ):iP (dP kvs k) (valueAt vs k):=by
 unfold KV at r
 induction r with
 | nil=>exact True.intro
 | @cons p q ps qs h t ih=>
  obtain⟨h1,h2⟩:=h
  by_cases e:p.1=k
  ·have e':q.1=k:=h1.symm.trans e;have b:valueAt (q::qs) k=some q.2:=by simp [valueAt,List.find?_cons,e']
   rw[gT e,b];exact h2
  ·have e':¬q.1=k:=λz=>e (h1.trans z);have b:valueAt (q::qs) k=valueAt qs k:=by simp [valueAt,List.find?_cons,e']
   rw[eD e,b];exact ih
theorem KV.any {kvs:List (κ×V)} {vs:List (κ×Value)} (r:KV kvs vs) (k:κ):(kvs.any λkv=>decide (kv.1=k))=vs.any λkv=>decide (kv.1=k):=by
 unfold KV at r
 induction r with
 | nil=>rfl
 | cons h t ih=>rw[List.any_cons,List.any_cons,ih,h.1]
theorem KV.J1 {kvs:List (κ×V)} {vs:List (κ×Value)} (r:KV kvs vs) (k:κ) {y:V} {u:Value} (ry:RelV y u):
  KV (kvs.map λkv=>if kv.1=k then (kv.1,y) else kv) (vs.map λkv=>if kv.1=k then (kv.1,u) else kv):=by
 unfold KV at r ⊢
 induction r with
 | nil=>exact .nil
 | @cons p q ps qs h t ih=>
  rw[ZC,ZC];refine .cons ?_ ih;obtain⟨h1,h2⟩:=h
  by_cases e:p.1=k
  ·rw[if_pos e,if_pos (h1.symm.trans e)];exact⟨h1,ry⟩
  ·rw[if_neg e,if_neg (λz=>e (h1.trans z))];exact⟨h1,h2⟩
theorem KV.put {kvs:List (κ×V)} {vs:List (κ×Value)} (r:KV kvs vs) (k:κ) {y:V} {u:Value} (ry:RelV y u):KV (putK kvs k y) (stored vs k u):=by
 unfold putK stored;rw[r.any k]
 by_cases e:(vs.any λkv=>decide (kv.1=k))=true
 ·rw[if_pos e,if_pos e];exact r.J1 k ry
 ·rw[if_neg e,if_neg e];exact Paired.snoc r ⟨rfl,ry⟩
theorem KV.length {kvs:List (κ×V)} {vs:List (κ×Value)} (r:KV kvs vs):kvs.length=vs.length:=Paired.length r
end
theorem rk {P:Program} {w:World} {k:Key} {u:Value} (r:RelV (kV k) u):(cF P w).is k u=true:=by
 cases k with
 | inl i=>obtain⟨t,e⟩:=(show ∃t,u=Value.int i t from r);subst e;exact xv P w i t
 | inr x=>obtain⟨t,e⟩:=(show ∃t,u=Value.str x t from r);subst e;exact xw P w x t
theorem u7 {P:Program} {w:World}:∀{ks:List Key} {us:List Value},bC (ks.map kV) us->ItemsAre (cF P w) ks us
 | [],_,r=>by rw[Z7] at r;cases r;exact .nil
 | k::ks,_,r=>by
  rw[ZC] at r;cases r with
  | cons h t=>exact .cons (rk h) (u7 t)
abbrev KT (H:Hp):List (List Key×V)->List (List Key×Addr×Value)->Prop:=Paired λp q=>p.1=q.1/\H q.2.1=some (.tup (p.1.map kV))/\RelV p.2 q.2.2
theorem KT.val {H:Hp} {kvs:List (List Key×V)} {xs:List (List Key×Addr×Value)} (r:KT H kvs xs) (k:List Key):iP (dP kvs k) ((atKey xs k).map (·.2)):=by
 induction r with
 | nil=>exact True.intro
 | @cons p q ps qs h t ih=>
  obtain⟨h1,_,h2⟩:=h
  by_cases e:p.1=k
  ·have e':q.1=k:=h1.symm.trans e;have b:atKey (q::qs) k=some q.2:=by simp [atKey,List.find?_cons,e']
   rw[gT e,b];exact h2
  ·have e':¬q.1=k:=λz=>e (h1.trans z);have b:atKey (q::qs) k=atKey qs k:=by simp [atKey,List.find?_cons,e']
   rw[eD e,b];exact ih
theorem KT.J1 {H:Hp} {kvs:List (List Key×V)} {xs:List (List Key×Addr×Value)} (r:KT H kvs xs) (k:List Key) {y:V} {u:Value} (ry:RelV y u):
  KT H (kvs.map λkv=>if kv.1=k then (kv.1,y) else kv) (xs.map (putAt k u)):=by
 induction r with
 | nil=>exact .nil
 | @cons p q ps qs h t ih=>
  rw[ZC,ZC];refine .cons ?_ ih;obtain⟨h1,h2,h3⟩:=h;unfold putAt
  by_cases e:p.1=k
  ·rw[if_pos e,if_pos (h1.symm.trans e)];exact⟨h1,h2,ry⟩
  ·rw[if_neg e,if_neg (λz=>e (h1.trans z))];exact⟨h1,h2,h3⟩
theorem KT.put {H:Hp} {kvs:List (List Key×V)} {xs:List (List Key×Addr×Value)} (r:KT H kvs xs) (k:List Key) {b:Addr} {y:V} {u:Value} (hb:H b=some (.tup (k.map kV))) (ry:RelV y u):
  KT H (putK kvs k y) (storedH xs k b u):=by
 have e:(kvs.any λkv=>decide (kv.1=k))=(atKey xs k).isSome:=by
  rw[xQ,(r.val k).oo,Option.isSome_map]
 unfold putK storedH;rw[e]
 by_cases q:(atKey xs k).isSome=true
 ·rw[if_pos q,if_pos q];exact r.J1 k ry
 ·rw[if_neg q,if_neg q];exact Paired.snoc r ⟨rfl,hb,ry⟩
theorem KT.keeps {H H':Hp} {kvs:List (List Key×V)} {xs:List (List Key×Addr×Value)} (r:KT H kvs xs) (ht:∀b ys,H b=some (.tup ys)->H' b=some (.tup ys)):KT H' kvs xs:=
 Paired.JD r λ_ _ z=>⟨z.1,ht _ _ z.2.1,z.2.2⟩
section
variable {P : Program} {w : World} {H : Hp} {h : Heap} {a : Addr}
theorem IP {u:HO} (ok:gR P w H h) (e:Rd H a u):cD P w H h a u:=e.ok ok
theorem pJ {kvs:List (Key×V)} (ok:gR P w H h) (e:Rd H a (.dK kvs)):kvs.length<=sizeLine/\(a==sysModules)=false/\∃vs,KV kvs vs/\h.DictOf (cF P w) a vs:=
 show cD P w H h a (.dK kvs) from IP ok e
theorem DI {kvs:List (Key×V)} (ok:gR P w H h) (e:H a=some (.dK kvs)):kvs.length<=sizeLine/\(a==sysModules)=false/\∃vs,KV kvs vs/\h.DictOf (cF P w) a vs:=pJ ok (.inl e)
theorem rA {ks:List Key} (ok:gR P w H h) (e:H a=some (.tup (ks.map kV))):(tupleKind (cF P w)).is h ks a:=by
 obtain⟨_,bg,r,o,h1,h2,n,h3⟩:=(show cD P w H h a (.tup (ks.map kV)) from ok a _ e)
 exact⟨o,bg.toArray,n,h1,h2,h3,by simpa using u7 r⟩
theorem u9 {kvs:List (List Key×V)} (ok:gR P w H h) (e:Rd H a (.dT kvs)):kvs.length<=sizeLine/\(a==sysModules)=false/\
  ∃xs,KT H kvs xs/\h.DictOfH (tupleKind (cF P w)) a xs:=by
 obtain⟨z,y,xs,r,o,es,ep,h1,h2,h3,h4,h5⟩:=(show cD P w H h a (.dT kvs) from IP ok e)
 refine⟨z,y,xs,r,o,es,ep,h1,h2,h3,h4,λx hx=>?_,h5⟩;have all:∀{l:List (List Key×V)} {m:List (List Key×Addr×Value)},KT H l m->∀x∈m,(tupleKind (cF P w)).is h x.1 x.2.1:=by
  intro l m q
  induction q with
  | nil=>intro x hx;exact nomatch hx
  | @cons p q ps qs hq t ih=>
   intro x hx;rcases aaj.mp hx with e | hx
   ·subst e;exact rA ok (by rw[<-hq.1];exact hq.2.1)
   ·exact ih x hx
 exact all r x hx
theorem MY {kvs:List (List Key×V)} (ok:gR P w H h) (e:H a=some (.dT kvs)):kvs.length<=sizeLine/\(a==sysModules)=false/\
  ∃xs,KT H kvs xs/\h.DictOfH (tupleKind (cF P w)) a xs:=u9 ok (.inl e)
end
noncomputable def jQ (H:Hp) (a:Addr) (y:V) (r:Option V):Prop:=
 (∃kvs k,Rd H a (.dK kvs)/\y=kV k/\r=dP kvs k)\/∃kvs k b,Rd H a (.dT kvs)/\y=.ref b/\H b=some (.tup (k.map kV))/\r=dP kvs k
noncomputable def zT (H:Hp) (a:Addr) (y v:V) (H':Hp):Prop:=
 (∃kvs k,H a=some (.dK kvs)/\y=kV k/\kvs.length<sizeLine/\H'=upd H a (.dK (putK kvs k v)))\/
 ∃kvs k b,H a=some (.dT kvs)/\y=.ref b/\H b=some (.tup (k.map kV))/\kvs.length<sizeLine/\H'=upd H a (.dT (putK kvs k v))
theorem zT.k {H:Hp} {a:Addr} {kvs:List (Key×V)} {k:Key} {v:V} (e:H a=some (.dK kvs)) (hl:kvs.length<sizeLine):zT H a (kV k) v (upd H a (.dK (putK kvs k v))):=.inl ⟨kvs,k,e,rfl,hl,rfl⟩
section
variable {X : Cx} {pins : List (Addr × Obj)} {σ : St} {H : Hp} {s : Shared} {a : Addr} {y v : V} {u r : Value} {o : Option V} {A : Around} {E : Value -> Shared -> Prop}
theorem Inv.UX (I:Inv X pins σ H s):sysModules<s.heap.objs.size:=by
 have h:mainGlobals<s.heap.objs.size:=(I.mod.glob.keeps I.bk).lt;exact Nat.lt_trans ∅ h
theorem Cq {Q:Value->Shared->Prop} (hu:A.units+1<cLine) (I:Inv X pins σ H s) (g:jQ H a y (some v)) (ry:RelV y u) (h:∀w' s',Inv X pins σ H s'->RelV v w'->Q w' s'):
  wpAny (model X.prog X.w) A (getItem (.ref a) u) Q E s:=by
 rcases g with ⟨kvs,k,e,ey,l⟩ | ⟨kvs,k,b,e,ey,eb,l⟩
 ·subst ey;obtain⟨z,hd,vs,rel,dd⟩:=pJ I.bU e;obtain⟨w',hw,Ce⟩:=iP.some_of (v:=v) (o:=valueAt vs k) (by rw[l];exact rel.val k);exact wpAny_getItem_of (rk ry) dd.mapOf hw (h w' _ (I.tok _) Ce)
 ·subst ey;cases (show u=Value.ref b from ry);obtain⟨z,hd,xs,rel,dd⟩:=u9 I.bU e;obtain⟨w',hw,Ce⟩:=iP.some_of (v:=v) (o:=(atKey xs k).map (·.2)) (by rw[l];exact rel.val k);obtain⟨p,hp,UY⟩:=aaH.mp hw;refine wpAny_getItem_heap (tupleKind_room_in1 hu) (rA I.bU eb) dd hp ?_;rw[UY];exact h w' _ (I.tok _) Ce
theorem GP {Q:Value->Shared->Prop} (hu:A.units+1<cLine) (I:Inv X pins σ H s) (g:jQ H a y o) (ry:RelV y u) (h:∀s',Inv X pins σ H s'->Q (.bool (!o.isSome)) s'):
  wpAny (model X.prog X.w) A (compareOp .NotIn u (.ref a)) Q E s:=by
 rcases g with ⟨kvs,k,e,ey,l⟩ | ⟨kvs,k,b,e,ey,eb,l⟩
 ·subst ey;obtain⟨z,hd,vs,rel,dd⟩:=pJ I.bU e;refine wpAny_notIn_of (rk ry) hd dd.mapOf ?_;rw[<-(rel.val k).oo,<-l];exact h _ (I.tok _)
 ·subst ey;cases (show u=Value.ref b from ry);obtain⟨z,hd,xs,rel,dd⟩:=u9 I.bU e;refine wpAny_notIn_heap (tupleKind_room_in1 hu) (rA I.bU eb) hd dd ?_;have q:=(rel.val k).oo;rw[Option.isSome_map] at q;rw[<-q,<-l];exact h _ (I.tok _)
theorem Bc {h':Heap} {t':Nat} {ob:HO} (I:Inv X pins σ H s) (mu:ME (H a)) (hs:Heap.SameBut a s.heap h') (he:∃q,h'.get? a=some q) (new:cD X.prog X.w (upd H a ob) h' a ob):
  Inv X pins σ (upd H a ob) {s with heap:=h',toks:=t'}:=
 I.write (x:=a) (e:=a) mu (.inl rfl) (λb q hb z=>(hs.2 b hb).trans z) he new
theorem J2 {P:Program} {w:World} {H':Hp} {h':Heap} {kvs:List (Key×V)} {vs:List (Key×Value)} (z:kvs.length<=sizeLine) (hd:(a==sysModules)=false) (rel:KV kvs vs) (dd:h'.DictOf (cF P w) a vs):
  cD P w H' h' a (.dK kvs):=⟨z,hd,vs,rel,dd⟩
theorem Cr {H':Hp} {Q:Unit->Shared->Prop} (hu:A.units+1<cLine) (I:Inv X pins σ H s) (g:zT H a y v H') (ry:RelV y u) (rv:RelV v r) (h:∀s',Inv X pins σ H' s'->Q () s'):
  wpAny (model X.prog X.w) A (setItem (.ref a) u r) Q E s:=by
 rcases g with ⟨kvs,k,e,ey,l,eH⟩ | ⟨kvs,k,b,e,ey,eb,l,eH⟩
 ·subst ey eH;obtain⟨z,hd,vs,rel,dd⟩:=DI I.bU e;have hz:vs.length<=sizeLine:=by rw[<-rel.length];exact z
  have hl:(putK kvs k v).length<=sizeLine:=by have:=pI kvs k v;lia
  refine wpAny_setItem_pairs (hsz:=hz) (rk ry) dd λh' OS hs=>h _ ?_;have he:∃q,h'.get? a=some q:=let ⟨q,_,_,hq,_⟩:=OS;⟨q,hq⟩;exact Bc I (by rw[e];exact True.intro) hs he (J2 hl hd (rel.put k rv) OS)
 ·subst ey eH;cases (show u=Value.ref b from ry);obtain⟨z,hd,xs,rel,dd⟩:=MY I.bU e;have hz:xs.length<=sizeLine:=by rw[<-Paired.length rel];exact z
  have hl:(putK kvs k v).length<=sizeLine:=by have:=pI kvs k v;lia
  refine wpAny_setItem_heap (hsz:=hz) (tupleKind_room_in1 hu) (rA I.bU eb) dd λh' OS hs=>h _ ?_;obtain⟨q,es,ep,hq,h2,h3,h4,_,h5⟩:=OS;refine Bc I (by rw[e];exact True.intro) hs ⟨q,hq⟩ ⟨hl,hd,_,(rel.put k eb rv).keeps λc ys ec=>?_,q,es,ep,hq,h2,h3,h4,h5⟩;rw[aw (MD ec e (λz=>nomatch z))];exact ec
end
section
variable {X : Cx} {pins : List (Addr × Obj)} {σ : St} {H : Hp} {s : Shared} {a : Addr} {kvs : List (Key × V)} {k : Key} {u : Value} {A : Around} {E : Value -> Shared -> Prop}
theorem MZ {Q:Value->Shared->Prop} (I:Inv X pins σ H s) (e:Rd H a (.dK kvs)) (h:∀t s',Inv X pins σ H s'->Q (.int kvs.length t) s'):wpAny (model X.prog X.w) A (call (.builtin "len") [.ref a]) Q E s:=by
 obtain⟨z,hd,vs,rel,dd⟩:=pJ I.bU e;refine call_len_dict hd dd (by rw[<-rel.length];rw[sizeLine_eq] at z;lia) ?_;rw[<-rel.length];exact h _ _ (I.tok _)
end
noncomputable def M3 (i:Expr):Prop:=∀ov iv,subscripted i false ov iv=operate [ov,iv] (getItem ov iv)
theorem GQ {prog:Program} {w:World} {A:Around} {E:Value->Shared->Prop} {s:Shared} {env:Env} {value slice:Expr} {pos:Pos} {T id:String} {Q:Value->Shared->Prop}
  (hl:typeLookup (.type T) "__getitem__"=pure (some (.builtin id))) (hs:M3 slice)
  (h:wpAny (model prog w) A (eval value env) (λo s₁=>wpAny (model prog w) A (eval slice env) (λi s₂=>s₂.TypeIs o T/\wpAny (model prog w) A (getItem o i) Q E s₂) E s₁) E s):
  wpAny (model prog w) A (eval (.Subscript value slice pos) env) Q E s:=by
 refine Subscript_ (wpAny_mono h (λo s₁ h₁=>wpAny_mono h₁ (λi s₂ h₂=>?_) λ_ _ x=>x) λ_ _ x=>x);obtain⟨hT,h₂⟩:=h₂;unfold subscriptTail;refine wpAny_bind ?_;rw[getitemInPython_of_ne hT.not_modules];refine wpAny_bind (wpAny_specialOf hT hl ?_);have fin:wpAny (model prog w) A (subscripted slice false o i) (λr s₃=>wpAny (model prog w) A (letTemporaryGo value o r >>=λ_=>pure r) Q E s₃) E s₂:=by
  rw[hs o i];exact wpAny_operating (wpAny_mono h₂ (λr s₃ h₃=>wpAny_bind (wpAny_letTemporaryGo (wpAny_pure h₃))) λ_ _ x=>x)
 first
  | exact wpAny_pure (wpAny_bind fin)
  | exact wpAny_bind (wpAny_pure (wpAny_bind fin))
  | exact wpAny_bind fin
theorem xR {X:Cx} {pins:List (Addr×Obj)} {σ:St} {H:Hp} {s:Shared} {a:Addr} {y:V} {o:Option V} (I:Inv X pins σ H s) (g:jQ H a y o):s.TypeIs (.ref a) "dict":=by
 rcases g with ⟨kvs,k,e,_,_⟩ | ⟨kvs,k,b,e,_,_,_⟩
 ·obtain⟨_,_,vs,_,dd⟩:=pJ I.bU e;exact dd.typeIs
 ·obtain⟨_,_,xs,_,dd⟩:=u9 I.bU e;exact dd.typeIs
noncomputable def tDGet (td ty:TE):TE:=λσ H Q=>td σ H λx H1=>ty σ H1 λy H2=>∃a v,x=.ref a/\jQ H2 a y (some v)/\Q v H2
noncomputable def tDNotIn (ty td:TE):TE:=λσ H Q=>ty σ H λy H1=>td σ H1 λx H2=>∃a o,x=.ref a/\jQ H2 a y o/\Q (.bl (!o.isSome)) H2
noncomputable def sDPut (td ty tv:TE):TS:=λD σ H=>tv σ H λv H1=>td σ H1 λx H2=>ty σ H2 λy H3=>∃a H4,x=.ref a/\zT H3 a y v H4/\D.nx σ H4
section
variable {X : Cx} {o i e value : Expr} {pos pos' p3 : Pos} {td ty tv : TE}
theorem cH (hu:X.A.units+1<cLine) (ho:PE X o td) (hi:PE X i ty) (hs:M3 i):PE X (.Subscript o i pos) (tDGet td ty):=by
 intro pins s σ H Q I h;refine GQ PySem.F.slot_dict_getitem.lookup hs (cG (ho pins s σ H _ I h) λu s1 ⟨x,H1,I1,rx,q1⟩=>cG (hi pins s1 σ H1 _ I1 q1) λiv s2 dC=>?_);obtain⟨y,H2,I2,ry,a,v,ex,g,q2⟩:=dC;subst ex;obtain rfl:u=Value.ref a:=rx;exact⟨xR I2 g,Cq hu I2 g ry λw' s3 I3 Ce=>⟨v,H2,I3,Ce,q2⟩⟩
theorem va (hu:X.A.units+1<cLine) (hi:PE X i ty) (ho:PE X o td):PC X .NotIn i o (tDNotIn ty td):=by
 intro pins s σ H Q I h;refine cG (hi pins s σ H _ I h) λiv s1 ⟨y,H1,I1,ry,q1⟩=>cG (ho pins s1 σ H1 _ I1 q1) λu s2 dC=>?_;obtain⟨x,H2,I2,rx,a,ov,ex,g,q2⟩:=dC;subst ex;obtain rfl:u=Value.ref a:=rx;exact GP hu I2 g ry λs3 I3=>⟨.bl (!ov.isSome),H2,I3,rfl,q2⟩
theorem eE (hu:X.A.units+1<cLine) (ho:PE X o td) (hi:PE X i ty) (hv:PE X value tv) (hs:swapsWith value (some (.Subscript o i pos')) pos.line X.env=pure false):
  PS X (.Assign [.Subscript o i pos'] value pos) (sDPut td ty tv):=by
 intro pins s σ H D I h;refine wpAny_Assign_Subscript (cG (hv pins s σ H _ I h) λr s1 ⟨v,H1,I1,rv,q1⟩=>cG (ho pins s1 σ H1 _ I1 q1) λu s2 ⟨x,H2,I2,rx,q2⟩=>cG (hi pins s2 σ H2 _ I2 q2) λiv s3 dC=>?_) hs;obtain⟨y,H3,I3,ry,a,H4,ex,g,q3⟩:=dC;subst ex;obtain rfl:u=Value.ref a:=rx;exact Cr hu I3 g ry rv λs4 I4=>⟨σ,H4,I4,q3⟩
end
theorem DJ {P:Program} {w:World} {H:Hp} (h:Heap) (hb:sysModules<h.objs.size):cD P w H (h.push {cls:=.type "dict",data:=.dict #[]}) h.objs.size (.dK []):=
 ⟨ZM _,beq_eq_false_iff_ne.mpr (Ne.symm (ZK hb)),[],.nil,Heap.DictOf.new h⟩
noncomputable def tDNewK:TE:=λ_ H Q=>∀p,H p=none->Q (.ref p) (upd H p (.dK []))
section
variable {X : Cx} {pos : Pos}
theorem gU:PE X (.Dict [] [] pos) tDNewK:=λpins s σ H Q I h=>
 wpAny_Dict_empty ⟨.ref s.heap.objs.size,_,I.laid (a:=s.heap.objs.size) (o:=.dK []) (t':=s.toks) (λ_ _ q=>aaL _ q) (ZD _) (DJ s.heap I.UX),rfl,h _ (I.bU.fresh (ZD _))⟩
end
abbrev VV:List (V×V)->List (Value×Value)->Prop:=Paired λp q=>RelV p.1 q.1/\RelV p.2 q.2
structure M1 (X:Cx) (o:Expr) (m:Str) (apos:Pos) (e:Expr) (dS:Pos):Prop where
 base:attributeBase o m X.env (eval o X.env)=eval o X.env
 Ma:((backTo dS (starEach [e] X.env)).all (λx=>!x.1) && (backToKw dS (keywordEach [] X.env)).all (λx=>x.1.isSome)
  && decide (([e]:List Expr).length+ ([]:List Keyword).length+ (if ([]:List Keyword).isEmpty then 0 else 1)<30))=true
 line:(apos.endLine==dS.line)=true
 trees:backTo dS (starEach [e] X.env)=[(false,eval e X.env)]
structure M2 (X:Cx) (o:Expr) (m:Str) (apos:Pos) (e f:Expr) (dS:Pos):Prop where
 base:attributeBase o m X.env (eval o X.env)=eval o X.env
 Ma:((backTo dS (starEach [e,f] X.env)).all (λx=>!x.1) && (backToKw dS (keywordEach [] X.env)).all (λx=>x.1.isSome)
  && decide (([e,f]:List Expr).length+ ([]:List Keyword).length+ (if ([]:List Keyword).isEmpty then 0 else 1)<30))=true
 line:(apos.endLine==dS.line)=true
 trees:backTo dS (starEach [e,f] X.env)=[(false,eval e X.env),(false,eval f X.env)]
noncomputable def OT (H:Hp) (a:Addr):Prop:=(∃kvs,Rd H a (.dK kvs))\/∃kvs,Rd H a (.dT kvs)
theorem J3 {X:Cx} {pins:List (Addr×Obj)} {σ:St} {H:Hp} {s:Shared} {a:Addr} (I:Inv X pins σ H s) (d:OT H a):
  s.TypeIs (.ref a) "dict"/\(∀b,Value.ref a=.ref b->∃ob,s.heap.get? b=some ob/\ob.dict=none)/\(a==sysModules)=false:=by
 rcases d with ⟨kvs,e⟩ | ⟨kvs,e⟩
 ·obtain⟨_,hd,vs,_,dd⟩:=pJ I.bU e;refine⟨dd.typeIs,λb q=>?_,hd⟩;cases q;obtain⟨ob,_,_,h1,h2,_⟩:=dd;exact⟨ob,h1,h2.2.1⟩
 ·obtain⟨_,hd,xs,_,dd⟩:=u9 I.bU e;refine⟨dd.typeIs,λb q=>?_,hd⟩;cases q;obtain⟨ob,_,_,h1,h2,_⟩:=dd;exact⟨ob,h1,h2.2.1⟩
section
variable {X : Cx} {pins : List (Addr × Obj)} {σ : St} {H : Hp} {s : Shared} {a : Addr} {y d : V} {u r : Value} {o : Option V} {A : Around} {E : Value -> Shared -> Prop}
theorem J4 {Q:Value->Shared->Prop} (hu:A.units+1<cLine) (I:Inv X pins σ H s) (g:jQ H a y o) (ry:RelV y u) (rd:RelV d r) (h:∀w' s',Inv X pins σ H s'->RelV (o.getD d) w'->Q w' s'):
  wpAny (model X.prog X.w) A (call (.builtin "dict.get") [.ref a,u,r]) Q E s:=by
 rcases g with ⟨kvs,k,e,ey,l⟩ | ⟨kvs,k,b,e,ey,eb,l⟩
 ·subst ey;obtain⟨z,hd,vs,rel,dd⟩:=pJ I.bU e;refine call_meetsIn PySem.F.slot_dict_get dd.typeIs PySem.F.entry_dict_get (PySem.F.args_dict_get_3 _ _ _) (meets_dict_get_default (cF X.prog X.w) a (rk ry) hd r) ⟨_,dd.mapOf,h _ _ (I.tok _) ?_⟩;rw[l];exact(rel.val k).getD rd
 ·subst ey;cases (show u=Value.ref b from ry);obtain⟨z,hd,xs,rel,dd⟩:=u9 I.bU e;refine call_meetsIn PySem.F.slot_dict_get dd.typeIs PySem.F.entry_dict_get (PySem.F.args_dict_get_3 _ _ _) (meetsH_dict_get_default (tupleKind (cF X.prog X.w)) a b hd r) ⟨tupleKind_room_in1 hu,k,xs,rA I.bU eb,dd,h _ _ (I.tok _) ?_⟩;rw[l];exact(rel.val k).getD rd
end
noncomputable def tDGet2 (td ty tx:TE):TE:=λσ H Q=>td σ H λx H1=>∃a,x=.ref a/\OT H1 a/\ty σ H1 λy H2=>tx σ H2 λz H3=>∃o,jQ H3 a y o/\Q (o.getD z) H3
section
variable {X : Cx} {o e f : Expr} {apos dS : Pos} {td ty tx : TE}
theorem DK (hu:X.A.units+1<cLine) (ho:PE X o td) (he:PE X e ty) (hf:PE X f tx) (m:M2 X o "get" apos e f dS):PE X (.Call (.Attribute o "get" apos) [e,f] [] dS) (tDGet2 td ty tx):=by
 intro pins s σ H Q I h;refine wpAny_Call_method m.base m.Ma m.line PySem.F.plainAttrs_dict PySem.F.slot_dict_get PySem.F.type_dict_get (cG (ho pins s σ H _ I h) λu s1 dC=>?_);obtain⟨x,H1,I1,rx,a,ex,d,q1⟩:=dC;subst ex;obtain rfl:u=Value.ref a:=rx;obtain⟨t1,t2,_⟩:=J3 I1 d;refine⟨t1,t2,?_⟩;rw[m.trees];refine Calls.callWith_builtin rfl (Calls.evalArgs_plain (Calls.spliced_cons (cG (he pins s1 σ H1 _ I1 q1) λiv s2 ⟨y,H2,I2,ry,q2⟩=>
  Calls.spliced_cons (cG (hf pins s2 σ H2 _ I2 q2) λfv s3 ⟨z,H3,I3,rz,ov,g,q3⟩=>Calls.spliced_nil ?_))))
 exact J4 hu I3 g ry rz λw' s4 I4 Ce=>⟨_,H3,I4,Ce,q3⟩
end
section
variable {X : Cx} {pins : List (Addr × Obj)} {σ : St} {H : Hp} {s : Shared} {a : Addr} {kvs : List (Key × V)} {A : Around} {E : Value -> Shared -> Prop}
end
section
variable {X : Cx} {pins : List (Addr × Obj)} {σ : St} {H : Hp} {s : Shared} {a : Addr} {y : V} {u : Value} {A : Around} {E : Value -> Shared -> Prop}
end
end L2
namespace SH
open PySem PySem.W PySem.Calls PyProof.Rows
theorem p4 {P:Params} {h:Heap}:∀(ns:List Int) (vs:List Value),WellAll P h vs (ns.map WData.int)->IntsAre vs ns:=by
 intro ns
 induction ns with
 | nil=>
  intro vs w;rw[Z7] at w;cases w;exact .nil
 | cons n ns ih=>
  intro vs w;rw[ZC] at w;cases w with
  | cons a b=>
   cases a;exact .cons _ _ (ih _ b)
theorem Cs {l:OpenLaw} {n:Nat} (hn:l.most=some n) {P:Params} {h:Heap} {args:List WData} {vals:List Value}
  (GR:l.row.toRowW.claim.pre args=true) (M4:WellAll P h vals args):
  ∃a vs ns,vals=[Value.ref a]/\args=[WData.list (ns.map WData.int)]/\h.get? a=some {cls:=.type "list",data:=.seq vs.toArray}/\IntsAre vs ns/\ns.length<=n:=by
 have gA:WShape.hasAll [] args [.list .int]=true:=(pre_splitW GR).1;have hc:l.pre.holds [] {args:=args}=true:=(pre_splitW GR).2;obtain⟨d,r,rfl,h1,h2⟩:=hasAllW_cons gA;obtain rfl:=hasAllW_nil h2;obtain⟨xs,rfl,h3⟩:=hasW_list h1;obtain⟨ns,rfl⟩:=items_int h3;have hlen:ns.length<=n:=by
  unfold OpenLaw.pre at hc;have h4:(WTm.not (.lt (.lit (.int (n:Int))) (.len (.arg 0)))).holds [] {args:=[.list (ns.map .int)]}=true:=by
   have h4:=(holds_andW hc).1;rw[hn] at h4;exact h4
  have h5:=condW_of h4 (w_not (w_lt w_lit (w_len_list (w_arg rfl))));rw[ZA] at h5;refine Nat.le_of_not_lt λq=>?_;have q':(n:Int)< ((ns.length:Nat):Int):=by lia
  first
   | (rw[decide_eq_true q'] at h5;exact absurd h5 ∅)
   | (simp at h5;lia)
 cases M4 with
 | cons w1 w2=>
  cases w2;cases w1 with
  | list ho Ct=>exact⟨_,_,ns,rfl,rfl,ho,p4 ns _ Ct,hlen⟩
theorem Cu (l:OpenLaw) (args:List WData):l.row.toRowW.claim.post args (.bool true) args=true:=
 postW_of (r:=l.row.toRowW) (X:=(true==true))
  (show WShape.has [] (.bool true) .bool=true by first | rfl | decide | simp [WShape.has,WShape.arms,WShape.armsAll])
  (show(WTm.eq .res (.lit (.bool true))).value [] {args:=args,res:=some (.bool true),after:=args}=some (.bool (true==true)) from w_eq_bool (w_res rfl) w_lit) rfl
theorem xS {l:OpenLaw} {n:Nat} {q:Program} {loose:List Str} {XP:(Str->Option Value)->Heap->Prop} {YP:World->Heap->Prop} {d:DefRec}
  (hn:l.most=some n) (M5:d.params.defaults=[])
  (call:∀(w:World) (s₀ s₁:Shared) (mg mb:Str->Option Value) (fa:Addr) (o:Obj) (pm cd doc:Value) (a:Addr) (vs:List Value) (ns:List Int),
   Ground q loose [] XP w s₀ mg mb s₁.heap->YP w s₁.heap->
   s₁.heap.get? fa=some o->o.data=.func (docDef d.name d.params d.body d.scope pm cd doc)->s₁.heap.CodeRec cd d.name->mg d.name=some (.ref fa)->
   s₁.heap.get? a=some {cls:=.type "list",data:=.seq vs.toArray}->IntsAre vs ns->ns.length<=n->s₁.gens=#[]->
   codeAny (model l.prog w) callerA (.call (.ref fa) ⟨[.ref a],[]⟩) (λr s'=>r=.ok (.ret (.bool true))/\OldK s₁.heap s'.heap/\s'.os=s₁.os/\AllBare s'.gens) s₁):
  WalkO q loose XP YP l.row.toRowW d [] (λf vs=>PySem.call f vs):=by
 intro w s₀ s₁ mg mb G Y fa o pm cd doc dV kV ho hd t5 hD M6 hg args vals as GR UZ Yt M4 Yu;obtain rfl:dV=.none:=Dflts.none hD M5;obtain rfl:kV=.none:=Dflts.noKw hD;obtain⟨a,vs,ns,rfl,rfl,J5,hints,hlen⟩:=Cs hn GR M4;refine enter_call (codeAny_mono (call w s₀ s₁ mg mb fa o pm cd doc a vs ns G Y ho (fd_plain hd) t5 M6 J5 hints hlen hg) λr s' hq=>?_);obtain⟨rfl,h2,h3,h4⟩:=hq;exact⟨.inl ⟨.bool true,.bool true,[],rfl,λ_=>rfl,.bool true,Cu l _,λ_=>⟨List.Pairwise.nil,λ_ hm=>(nomatch hm)⟩⟩,h2,h3,h4⟩
section
variable {prog : Program} {w : World} {A : Around} {E : Value -> Shared -> Prop} {s : Shared} {K : Frag}
end
end SH
namespace L2
open PySem PySem.Spec PyProof.Rows
theorem vb:∀{vs:List Value} {ns:List Int},IntsAre vs ns->bC (ns.map V.int) vs
 | _,_,.nil=>.nil
 | _,_,.cons n t h=>.cons ⟨t,rfl⟩ (vb h)
noncomputable def J6 (H:Hp):Prop:=∀b,H b=none\/∃o xs,H b=some (.xq o (.lst xs))
theorem law_call {P:Program} {w:World} {K:aaB} {mg mb:Str->Option Value} {CX:nZ} {k:Nat} {fa a:Addr} {fd:FuncData} {x:Str} {sp:Sp} {s₁:Shared} {vs:List Value} {ns:List Int}
  (KX:K.In s₁.heap) (SI:s₁.heap.Ns mainGlobals mg) (hb:s₁.heap.Ns builtinsNs mb) (U0:∀x:Str,x≠"__name__"->mb x=bootBuiltins x) (Qi:s₁.heap.NoLimit) (hg:s₁.gens=#[])
  (ha:s₁.heap.get? a=some {cls:=.type "list",data:=.seq vs.toArray}) (hi:IntsAre vs ns) (hl:ns.length<=sizeLine) (hr:dD k callerA)
  (F:∀base:Heap,K.In base->base.Ns mainGlobals mg->fU P w K mg base CX k fa fd [x] sp) (M7:∀(s:Shared) (u:Value),BindsTo s fd ⟨[u],[]⟩ [(x,u)])
  (C9:∀H:Hp,J6 H->bL K H a (ns.map V.int)->sp [.ref a] H (λv _=>v=.bl true) λ_ _ _=>False)
  (Qj:∀H e s',CX [] H s₁ (λ_ _ _=>False) e s'->False):
  codeAny (model P w) callerA (.call (.ref fa) ⟨[.ref a],[]⟩) (λr s'=>r=.ok (.ret (.bool true))/\OldK s₁.heap s'.heap/\s'.os=s₁.os/\AllBare s'.gens) s₁:=by
 have rv:=vb hi;have Qk:=hi.length;have core:∀H:Hp,J6 H->bL K H a (ns.map V.int)->gR P w H s₁.heap->(∀b,H b≠none->b=a)->(H a≠none->K.lookup a=none)->
   codeAny (model P w) callerA (.call (.ref fa) ⟨[.ref a],[]⟩) (λr s'=>r=.ok (.ret (.bool true))/\OldK s₁.heap s'.heap/\s'.os=s₁.os/\AllBare s'.gens) s₁:=by
  intro H hO hS bU hA hK;have Bd:∀{b:Addr} {o:Obj},s₁.heap.get? b=some o->H b=none->(vB s₁.heap H).get? b=some o:=λe n=>Dk e n;have MR:∀{b:Addr} {o:Obj} {es:Array DictEntry} {ep:Nat},s₁.heap.get? b=some o->o.data=.dict es ep->H b=none:=λ{b o es ep} e d=>by
   cases q:H b with
   | none=>rfl
   | some u=>
    have e':b=a:=hA b (by rw[q];simp);subst e';rw[ha] at e;cases e;have d':Data.seq vs.toArray _=Data.dict es ep:=d;cases d'
  have OU:∀{b:Addr} {m:Str->Option Value},s₁.heap.Ns b m->(vB s₁.heap H).Ns b m:=λ{b m} ⟨o,es,ep,e,d,r⟩=>⟨o,es,ep,Bd e (MR e d),d,r⟩
  have SJ:K.In (vB s₁.heap H):=λb o e=>Bd (KX b o e) (by
   cases q:H b with
   | none=>rfl
   | some u=>
    have e':b=a:=hA b (by rw[q];simp);subst e';rw[hK (by rw[q];simp)] at e;cases e)
  have hM:Mod K mg (vB s₁.heap H):=⟨SJ,OU SI,⟨mb,OU hb,U0⟩,let ⟨mc,h1,h2⟩:=Qi;⟨mc,OU h1,h2⟩⟩
  have e0:zF P w K mg (vB s₁.heap H) callerA [] s₁ H:=⟨rfl,hM,λb o e=>Gw e,Nat.le_of_eq (Ca _ _),trivial,λb hb=>absurd (show b∈([]:List Addr) from hb) (by simp),bU,.of_eq hg⟩
  refine codeAny_mono ((F _ SJ (OU SI)).run callerA [] s₁ H ⟨[.ref a],[]⟩ [.ref a] [.ref a] _ _ hr e0 (M7 s₁ (.ref a)) (.cons rfl .nil) (C9 H hO hS)) λr s' h=>?_;cases r with
  | error e=>exact(Qj H e s' h).elim
  | ok fl=>
   cases fl with
   | next=>exact False.elim h
   | brk=>exact False.elim h
   | cont=>exact False.elim h
   | ret u=>
    obtain⟨v,H',os,bare,un,Ql,r',q⟩:=h;have q':v=.bl true:=q;subst q';obtain rfl:u=Value.bool true:=r';refine⟨rfl,OldK.of_keep λb o e=>?_,os,bare⟩;cases q:H b with
    | none=>exact un.keep b o e q (by intro z;exact absurd (show b∈([]:List Addr) from z) (by simp)) (by simp)
    | some u=>
     rcases hO b with z | ⟨ob,xs,z⟩
     ·rw[q] at z;cases z
     ·have z2:=un.iQ b ob _ z;obtain⟨e1,_⟩:=bU b _ z;obtain⟨e2,_⟩:=Ql b _ z2;rw[e] at e1;cases e1;exact e2
 cases hk:K.lookup a with
 | some o=>
  have e:=KX a o hk;rw[ha] at e;cases e;refine core (λ_=>none) (λ_=>.inl rfl) (.inr ⟨_,vs.toArray,_,hk,rfl,rfl,rfl,by rw[ZF,Qk];exact hl,by simpa using rv⟩) (λb u z=>by have z':(none:Option HO)=some u:=z;cases z') (λb z=>absurd rfl z) λz=>absurd rfl z
 | none=>
  refine core (λb=>if b=a then some (.xq {cls:=.type "list",data:=.seq vs.toArray} (.lst (ns.map V.int))) else none) (λb=>?_) (.inl (.inr ⟨{cls:=.type "list",data:=.seq vs.toArray},if_pos rfl⟩)) (λb u z=>?_) (λb z=>?_) λ_=>hk
  ·by_cases hb:b=a
   ·exact .inr ⟨_,_,if_pos hb⟩
   ·exact .inl (if_neg hb)
  ·by_cases hb:b=a
   ·have z':=(if_pos hb).symm.trans z;cases z';subst hb;exact⟨ha,by rw[ZA];exact hl,vs,_,rv,ha⟩
   ·have z':=(if_neg hb).symm.trans z;cases z'
  ·by_cases hb:b=a
   ·exact hb
   ·exact absurd (if_neg hb) z
end L2
namespace L2
open PySem PySem.Spec PyProof.Rows
abbrev Yv {K:aaB} {h:Heap} (_:K.In h):aaB:=K
theorem GS {l:PySem.W.OpenLaw} {n k:Nat} {q:Program} {loose:List Str} {XP:(Str->Option Value)->Heap->Prop} {YP:World->Heap->Prop} {d:DefRec} {K:Params->aaB} {CX:World->nZ} {sp:World->Sp} {x:Str}
  (hn:l.most=some n) (OQ:n<=sizeLine) (M5:d.params.defaults=[]) (hr:dD k callerA)
  (hY:∀(w:World) (h:Heap),YP w h->(K w.params).In h)
  (F:∀(w:World) (mg:Str->Option Value) (fa:Addr) (h:Heap),(K w.params).In h->h.Ns mainGlobals mg->mg d.name=some (.ref fa)->
   ∃fd:FuncData,(∀(s:Shared) (u:Value),BindsTo s fd ⟨[u],[]⟩ [(x,u)])/\
    ∀base:Heap,(K w.params).In base->base.Ns mainGlobals mg->fU l.prog w (K w.params) mg base (CX w) k fa fd [x] (sp w))
  (C9:∀(w:World) (H:Hp) (a:Addr) (ns:List Int),ns.length<=n->J6 H->bL (K w.params) H a (ns.map V.int)->sp w [.ref a] H (λv _=>v=.bl true) λ_ _ _=>False)
  (Qj:∀(w:World) (H:Hp) (s:Shared) (e:Value) (s':Shared),CX w [] H s (λ_ _ _=>False) e s'->False):
  PySem.W.WalkO q loose XP YP l.row.toRowW d [] (λf vs=>PySem.call f vs):=by
 refine SH.xS hn M5 λw s₀ s₁ mg mb fa o pm cd doc a vs ns G Y ho hd t5 M6 J5 hints hlen hg=>?_;have KX:=hY w _ Y;obtain⟨fd,hb,hF⟩:=F w mg fa _ KX G.T.g M6;exact law_call KX G.T.g G.T.b G.T.builtins G.T.nolimit hg J5 hints (ZN hlen OQ) hr hF hb (λH hO hS=>C9 w H a ns hlen hO hS) λH e s'=>Qj w H s₁ e s'
end L2
namespace L2
open PySem PySem.Spec PyProof.Rows
noncomputable def inClass (s:Stmt) (j:Nat):Stmt:=match s with
 | .ClassDef _ _ _ body _ _ _ _ _ _ _=>body.getD j (.Pass ⟨0,0,0,0⟩)
 | _=>.Pass ⟨0,0,0,0⟩
noncomputable def bH (s:Stmt):Arguments:=match s with
 | .FunctionDef _ a _ _ _ _ _ _ _ _=>a
 | _=>{posonlyargs:=[],args:=[],vararg:=none,kwonlyargs:=[],kw_defaults:=[],kwarg:=none,defaults:=[]}
noncomputable def bE (s:Stmt):List Stmt:=match s with
 | .FunctionDef _ _ b _ _ _ _ _ _ _=>b
 | _=>[]
noncomputable def aq (s:Stmt):Scope:=match s with
 | .FunctionDef _ _ _ _ _ _ sc _ _ _=>sc
 | _=>{kind:=.function,names:=[],isGenerator:=false,isCoroutine:=false}
abbrev Yw:nZ:=λ_ _ _ _ _ _=>False
abbrev E0:XK:=λ_ _ _=>False
structure zU (K:aaB) (x qual:Str) (st:Stmt) (f:Addr) (fd:FuncData):Prop where
 ex:∃(oc:Value) (od:Option Addr) (kV doc pm:Value) (an:Option Addr) (cf ct:Value) (Gd:Array (Option Value)),
  fd=aaE x qual (bH st) (bE st) (aq st) .none kV doc pm an cf ct/\K.lookup f=some ⟨oc,od,.func fd,Gd⟩/\aaD K cf qual=true
 kp:aaC K (.ref f)=true
section
variable {P : Program} {w : World} {K : aaB} {mg : Str -> Option Value} {base : Heap}
theorem zU.binds {x qual:Str} {st:Stmt} {f:Addr} {fd:FuncData} {ps:List Str} (F:zU K x qual st f fd)
  (h:∀(kV doc pm:Value) (an:Option Addr) (cf ct:Value) (us:List Value),us.length=ps.length->bindArgs (aaE x qual (bH st) (bE st) (aq st) .none kV doc pm an cf ct) ⟨us,[]⟩=pure (ps.zip us)):Binds K fd ps []:=by
 obtain⟨oc,od,kV,doc,pm,an,cf,ct,Gd,rfl,lk,t5⟩:=F.ex;exact .all (h kV doc pm an cf ct)
theorem cI {x qual:Str} {st:Stmt} {f:Addr} {oc:Value} {od an:Option Addr} {Gd:Array (Option Value)} {kV doc pm cf ct:Value} (l:K.lookup f=some ⟨oc,od,.func (aaE x qual (bH st) (bE st) (aq st) .none kV doc pm an cf ct),Gd⟩)
  (c:aaD K cf qual=true) (k:aaC K (.ref f)=true):zU K x qual st f (aaE x qual (bH st) (bE st) (aq st) .none kV doc pm an cf ct):=⟨⟨oc,od,kV,doc,pm,an,cf,ct,Gd,rfl,l,c⟩,k⟩
end
theorem cE {A:Around} {k:Nat} (hr:dD k A):A.units+1<cLine:=Nat.lt_of_le_of_lt (Nat.add_le_add_left (by decide:1<=64) _) hr.units
section
variable {X : Cx}
theorem pv (i:Nat) {x:Str} {pos:Pos} (hN:X.N[i]?=some x:=by rfl) (hv:PU X.env.scope x:=by first | exact Or.inl rfl | exact Or.inr (.inl rfl) | exact Or.inr (.inr rfl)) (hd:(x==("__debug__":Str))=false:=by decide)
  (t5:(x==("__classdict__":Str))=false:=by decide):PE X (.Name x pos) (tVar i):=JI hN hv hd t5
end
theorem DL {A B:Prop} (h:A):if true=true then A else B:=by
 rw[if_pos rfl];exact h
theorem iS {c A B:Prop} [Decidable c] (h1:c->A) (h2:¬c->B):if c then A else B:=by
 by_cases h:c
 ·rw[if_pos h];exact h1 h
 ·rw[if_neg h];exact h2 h
noncomputable def aF (H H':Hp):Prop:=∀b o,H b=some o->H' b=some o
theorem aF.refl (H:Hp):aF H H:=λ_ _ h=>h
theorem aF.trans {H H1 H2:Hp} (a:aF H H1) (b:aF H1 H2):aF H H2:=λc o h=>b c o (a c o h)
theorem aF.seq {K:aaB} {H H':Hp} {a:Addr} {xs:List V} (e:aF H H') (h:bL K H a xs):bL K H' a xs:=by
 rcases h with (h | ⟨o,h⟩) | h
 ·exact .inl (.inl (e _ _ h))
 ·exact .inl (.inr ⟨o,e _ _ h⟩)
 ·exact .inr h
end L2
namespace L2
open PySem PySem.Spec PyProof.Rows
section
variable {X : Cx}
theorem Cv:cQ X (.builtin "len") (λxs H Q=>∃a kvs,xs=[V.ref a]/\H a=some (.dK kvs)/\Q (.int kvs.length) H):=by
 intro pins s σ H xs us Q I r h;obtain⟨a,kvs,rfl,ha,q⟩:=h;obtain⟨u,rfl,ru⟩:=vals1 r;cases ru;exact MZ I (.inl ha) λt s' I'=>⟨.int kvs.length,H,I',⟨t,rfl⟩,q⟩
end
section
variable {κ : Type} [DecidableEq κ]
end
end L2
namespace L2
open PySem PySem.Spec PyProof.Rows
noncomputable def Bt (n:Nat) (i:Int):Prop:=i.natAbs<2^n
theorem Bt.neg {n:Nat} {i:Int} (h1:Bt n i):Bt n (-i):=by
 unfold Bt at *;lia
theorem Bt.le {n:Nat} {i j:Int} (h:Bt n j) (q:i.natAbs<=j.natAbs):Bt n i:=Nat.lt_of_le_of_lt q h
theorem Bt.of {n:Nat} {i:Int} (b:Nat) (h1:-(b:Int)<=i) (h2:i<=(b:Int)) (h:b<2^n:=by decide +kernel):Bt n i:=by
 unfold Bt;exact Nat.lt_of_le_of_lt (by lia) h
theorem Bt.log {n:Nat} {i:Int} (h:Bt n i) (q:n<=9000:=by decide):i.natAbs.log2<9000:=by
 by_cases z:i.natAbs=0
 ·rw[z];decide
 ·exact ZR ((Nat.log2_lt z).mpr h) q
theorem bJ {i j:Int} (h1:-(2^64)<i:=by decide) (h2:i<2^64:=by decide):IntMulOk i j:=.of_left (intBits_le_64 h1 h2)
theorem J7 {i j:Int} (h1:-(2^64)<j:=by decide) (h2:j<2^64:=by decide):IntMulOk i j:=.of_right (intBits_le_64 h1 h2)
section
variable {X : Cx}
theorem bq:jF X (binaryOp .Mult) (rI IntMulOk λi j=>.int (i*j)):=MO λ_ _ _ _ _ _ _ hc q=>mul_int q hc
noncomputable def mH (_ j:Int):Prop:=0<j/\j.natAbs.log2<9000
theorem mH.of {i j:Int} {n:Nat} (h:0<j) (b:Bt n j) (q:n<=9000:=by decide):mH i j:=⟨h,b.log q⟩
theorem mH.lit {i j:Int} (h:0<j:=by decide) (q:j.natAbs.log2<9000:=by decide):mH i j:=⟨h,q⟩
theorem mI:jF X (binaryOp .FloorDiv) (rI mH λi j=>.int (i / j)):=MO λi j _ _ _ _ _ hc q=>by
 have h1:(0:Int)<j:=hc.1;exact floordiv_int (by lia) (by rw[Int.fdiv_eq_ediv_of_nonneg i (by lia)];exact q) (.inl (PyProof.noPylong_of_log2 hc.2))
noncomputable def rB (_ j:Int):Prop:=j≠0/\j.natAbs.log2<9000
theorem rB.of {i j:Int} {n:Nat} (h:j≠0) (b:Bt n j) (q:n<=9000:=by decide):rB i j:=⟨h,b.log q⟩
theorem xT:jF X (binaryOp .FloorDiv) (rI rB λi j=>.int (i.fdiv j)):=MO λ_ _ _ _ _ _ _ hc q=>floordiv_int hc.1 q (.inl (PyProof.noPylong_of_log2 hc.2))
theorem cJ:jF X (binaryOp .Mod) (rI (λ_ j=>0<j) λi j=>.int (i % j)):=JN
noncomputable def rIxTH:R2:=λx y H Q=>∃p xs i v,x=.ref p/\y=.int i/\H p=some (.tup xs)/\iX xs i=some v/\Q v H
theorem ai:Ge X rIxTH:=λvalue slice pins s σ H x y v u Q I rx ry ⟨p,xs,i,z,e1,e2,e3,e4,q⟩ hs=>
 JQ value slice pins s σ H x y v u Q I rx ry ⟨p,xs,i,z,e1,e2,kz.of e3,e4,q⟩ hs
noncomputable def rIxLH:R2:=λx y H Q=>∃p xs i v,x=.ref p/\y=.int i/\H p=some (.lst xs)/\iX xs i=some v/\Q v H
theorem a4:Ge X rIxLH:=λvalue slice pins s σ H x y v u Q I rx ry ⟨p,xs,i,z,e1,e2,e3,e4,q⟩ hs=>
 Bb value slice pins s σ H x y v u Q I rx ry ⟨p,xs,i,z,e1,e2,bL.of e3,e4,q⟩ hs
noncomputable def tTupS (t:TA):TE:=λσ H Q=>t σ H λxs H1=>xs.length<=sizeLine/\∀p H2,aF H1 H2->H1 p=none->H2 p=some (.tup xs)->Q (.ref p) H2
theorem aD {H:Hp} {p:Addr} {o:HO} (h:H p=none):aF H (upd H p o):=λb u e=>by
 rw[aw (eN e h)];exact e
theorem bf {es:List Expr} {t:TA} {x1} {pos:Pos} (h:PA X es t):PE X (.Tuple es x1 pos) (tTupS t):=λpins s σ H Q I hq=>
 cG (h:=wpAny_Tuple_spliced (cG (h pos pins s σ H _ I hq) λus s1 ⟨xs,H1,I1,r,z,q⟩=>⟨by rw[<-r.length];exact z,by
  have hf:H1 s1.heap.objs.size=none:=I1.bU.fresh (ZD _);refine⟨.ref s1.heap.objs.size,upd H1 s1.heap.objs.size (.tup xs),I1.laid (t':=s1.toks) (λb u e=>aaL _ e) (ZD _) ?_,rfl,q _ _ (aD hf) hf aj⟩;exact⟨z,us,r,⟨_,aaM _ rfl,rfl,_,rfl⟩⟩⟩)) λ_ _ z=>z
theorem bO:cQ X (.builtin "len") (λxs H Q=>∃p ys,xs=[.ref p]/\H p=some (.lst ys)/\Q (.int ys.length) H):=λpins s σ H xs us Q I r ⟨p,ys,e,h,q⟩=>
 mG pins s σ H xs us Q I r ⟨p,ys,e,.inl (bL.of h),q⟩
theorem Cw:cQ X (.builtin "len") (λxs H Q=>∃p ns,xs=[.ref p]/\bL X.K H p (List.map V.int ns)/\Q (.int (List.length ns:Nat)) H):=λpins s σ H xs us Q I r ⟨p,ns,e,h,q⟩=>
 mG pins s σ H xs us Q I r ⟨p,_,e,.inl h,by rw[ZA];exact q⟩
noncomputable def J8 (K:aaB):R2:=λx y H Q=>∃p ns i,x=.ref p/\y=.int i/\bL K H p (List.map V.int ns)/\0<=i/\i< (List.length ns:Nat)/\Q (.int (ns.getD i.toNat 0)) H
theorem xU {ns:List Int} {i:Int} (h0:0<=i) (h1:i< (ns.length:Nat)):iX (ns.map V.int) i=some (.int (ns.getD i.toNat 0)):=by
 obtain⟨j,rfl⟩:=Int.eq_ofNat_of_zero_le h0;refine bT ?_;have hj:j<ns.length:=by lia
 rw[ZE,ZH hj];simp [aai,ZH hj]
theorem DM:Ge X (J8 X.K):=λvalue slice pins s σ H x y v u Q I rx ry ⟨p,ns,i,e1,e2,e3,h0,h1,q⟩ hs=>
 Bb value slice pins s σ H x y v u Q I rx ry ⟨p,_,i,_,e1,e2,e3,xU h0 h1,q⟩ hs
structure cg (P:Program) (w:World) (K:aaB) (mg:Str->Option Value) (base:Heap) (CX:nZ) (k:Nat) (x:Str) (ps:List Str) (sp:Sp):Prop where
 ex:∃f fd,fU P w K mg base CX k f fd ps sp/\mg x=some (.ref f)/\aaC K (.ref f)=true/\Binds K fd ps []
theorem aO {CX:nZ} {k:Nat} {x:Str} {ps:List Str} {sp:Sp} {E:XK} {e:Expr} {es:List Expr} {t:TA} {p pos:Pos} (C:cg X.prog X.w X.K X.mg X.base CX k x ps sp) (hr:dD k X.A) (hg:Gl X x) (hx:fe CX X E) (ha:PA X (e::es) t)
  (zH:(x==("__debug__":Str))=false:=by decide) (he:starEach (e::es) X.env=(false,eval e X.env)::starEach es X.env:=by rfl) (hpl:(backTo pos (starEach es X.env)).any (·.1)=false:=by rfl):
  PE X (.Call (.Name x p) (e::es) [] pos) (tCall sp [] E t):=by
 obtain⟨f,fd,F,hm,hk,hb⟩:=C.ex;exact GH F hr hg hm hk hb .nil hx ha zH he hpl
end
noncomputable def vO (CX:nZ):Prop:=∀outer H s e s',¬CX outer H s (λ_ _ _=>False) e s'
theorem vO.pass {CX:nZ} (h:vO CX) {X:Cx}:fe CX X E0:=λ_ _ H s e s' _ z=>(h _ H s e s' z).elim
section
variable {P : Program} {w : World} {K : aaB} {mg : Str -> Option Value} {base : Heap} {CX : nZ}
theorem zU.eC {x qual:Str} {st:Stmt} {f:Addr} {fd:FuncData} {N ps:List Str} {k:Nat} {sp:Sp} (F:zU K x qual st f fd) (S:aZ N ps (aq st)) (len:∀vs H Q E,sp vs H Q E->vs.length=ps.length)
  (xJ:∀(cf:Value) (A:Around) (outer:List Env) (s:Shared) (H:Hp) (vs:List V) (Q:VK) (E:XK),dD k (A.deeper (envOfC qual (aq st) s.heap.objs.size f cf))->sp vs H Q E->
   ∃t,xy (iW CX P w K mg base N qual (aq st) f cf A outer s H E).A3 (bE st) t/\t {nx:=λ_ H'=>Q .cW H',rt:=Q} (start N vs) H):fU P w K mg base CX (k+1) f fd ps sp:=by
 obtain⟨oc,od,kV,doc,pm,an,cf,ct,Gd,rfl,lk,t5⟩:=F.ex;refine IL lk t5 S len λA outer s H vs Q E hr C9=>?_;obtain⟨t,h,q⟩:=xJ cf A outer s H vs Q E hr C9;exact⟨t,h.A3,q⟩
structure Dn (K:aaB) (mg:Str->Option Value) (x:Str) (st:Stmt):Prop where
 ex:∃f fd,zU K x x st f fd/\mg x=some (.ref f)
theorem Dn.dJ {x:Str} {st:Stmt} {ps:List Str} {k:Nat} {sp:Sp} (D:Dn K mg x st)
  (hb:∀(kV doc pm:Value) (an:Option Addr) (cf ct:Value) (us:List Value),us.length=ps.length->bindArgs (aaE x x (bH st) (bE st) (aq st) .none kV doc pm an cf ct) ⟨us,[]⟩=pure (ps.zip us))
  (h:∀f fd,zU K x x st f fd->fU P w K mg base CX k f fd ps sp):cg P w K mg base CX k x ps sp:=by
 obtain⟨f,fd,F,hm⟩:=D.ex;exact⟨f,fd,h f fd F,hm,F.kp,F.binds hb⟩
end
section
variable {X : Cx}
noncomputable def SK (xs ys:List V):Bool:=(List.range (min xs.length ys.length)).all (λj=>zM (xs.getD j .cW) (ys.getD j .cW)) && xs.length==ys.length
noncomputable def rInT:R2:=λx y H Q=>∃p xs,y=.ref p/\H p=some (.tup xs)/\eA x=true/\xs.all eA=true/\Q (.bl (zO x xs)) H
theorem zV:jF X (compareOp .In) rInT:=λpins s σ H x y v u Q I rx ry ⟨p,xs,e1,e2,f1,f2,q⟩=>
 u5 pins s σ H x y v u Q I rx ry ⟨p,xs,e1,.inr (kz.of e2),f1,f2,q⟩
theorem DN:cQ X (.builtin "isinstance") (λxs H Q=>∃x c t b,xs=[x,.ty c]/\mC X.K H x t/\PySem.W.kitOne X.K t (.type c)=some b/\Q (.bl b) H):=by
 intro pins s σ H xs us Q I r h;obtain⟨x,c,t,b,rfl,ty,e,q⟩:=h;obtain⟨u,u',rfl,rx,rc⟩:=vals2 r;cases rc;exact Co I rx ty e λtk=>⟨.bl b,H,I.tok tk,rfl,q⟩
end
theorem at0 {α:Type} {x:α} {l:List α}:iX (x::l) 0=some x:=bT (j:=0) rfl
theorem at1 {α:Type} {x y:α} {l:List α}:iX (x::y::l) 1=some y:=bT (j:=1) rfl
theorem at2 {α:Type} {x y z:α} {l:List α}:iX (x::y::z::l) 2=some z:=bT (j:=2) rfl
noncomputable def Pr (a b:Int):List V:=[.int a,.int b]
end L2
namespace Nm
noncomputable def g (a b:Int):Int:=(Int.gcd a b:Nat)
theorem M8 (a b:Int):0<=g a b:=Int.natCast_nonneg _
theorem DO {a b:Int} (h:b≠0):0<g a b:=by
 have:=Int.gcd_pos_of_ne_zero_right a h;unfold g;lia
theorem Be (a b:Int):g a b∣a:=Int.gcd_dvd_left ..
theorem jH (a b:Int):g a b∣b:=Int.gcd_dvd_right ..
theorem vP (a b:Int):g a b=g b a:=by unfold g;rw[Int.gcd_comm]
theorem M9 {a b:Int} (h:0<b):g a b<=b:=Int.le_of_dvd h (jH a b)
theorem DP (a b:Int):g (a.natAbs:Int) b=g a b:=by
 unfold g Int.gcd;rw[Int.natAbs_natCast]
theorem Bf (a b:Int):g a (b.natAbs:Int)=g a b:=by
 rw[vP,DP,vP]
theorem IQ (a b:Int):g (-a) b=g a b:=by
 unfold g Int.gcd;rw[Int.natAbs_neg]
theorem DQ {a b:Int} (ha:0<=a) (Yx:0<b):g b (a % b)=g a b:=by
 unfold g Int.gcd;rw[Int.natAbs_emod_of_nonneg ha,Nat.gcd_comm b.natAbs,<-Nat.gcd_rec,Nat.gcd_comm]
theorem DR {a:Int} (ha:0<=a):g a 0=a:=by
 unfold g;rw[Int.gcd_zero_right];lia
theorem DS {a b:Int} (h:b≠0):g a b<=(b.natAbs:Int):=by
 rw[<-Bf];exact M9 (by lia)
theorem GU {a b:Int} (h:b≠0):g (a / g a b) (b / g a b)=1:=by
 have p:0<Int.gcd a b:=Int.gcd_pos_of_ne_zero_right a h;unfold g;rw[Int.gcd_ediv_gcd_ediv_gcd p];rfl
theorem GV {a b:Int} (h:0<b):0<b / g a b:=Int.ediv_pos_of_pos_of_dvd h (M8 a b) (jH a b)
theorem Cy (a b:Int):(a / g a b)*b=a* (b / g a b):=by
 rw[<-Int.mul_ediv_assoc _ (jH a b),Int.mul_comm a b,Int.mul_ediv_assoc _ (Be a b),Int.mul_comm]
theorem GW {q a b:Int} (h:q∣a*b) (c:Int.gcd a q=1):q∣b:=by
 have h1:=(Int.dvd_gcd_mul_iff_dvd_mul (k:=q) (n:=a) (m:=b)).mpr h;rw[Int.gcd_comm,c] at h1
 simpa using h1
theorem back {a b c d p q x y:Int} (hq:0<q) (hd:0<d) (e:p* (b*d)=(a*d - c*b)*q) (f:x* (q*d)=(p*d+c*q)*y):x*b=a*y:=by
 have h:(x*b)* (q*d)=(a*y)* (q*d):=by grind
 exact Int.eq_of_mul_eq_mul_right (by have:=Int.mul_pos hq hd;lia) h
end Nm
namespace L2
open PySem PySem.Spec PyProof.Rows PySem.W
theorem cD.get {P:Program} {w:World} {H:Hp} {h:Heap} {a:Addr}:∀{o:HO},cD P w H h a o->∃ob,h.get? a=some ob
 | .lst _,x=>let ⟨_,_,_,_,e⟩:=x;⟨_,e⟩
 | .tup _,x=>let ⟨_,_,_,o,e,_⟩:=x;⟨o,e⟩
 | .dK _,x=>let ⟨_,_,_,_,o,_,_,e,_⟩:=x;⟨o,e⟩
 | .dT _,x=>let ⟨_,_,_,_,o,_,_,e,_⟩:=x;⟨o,e⟩
 | .set _ _,x=>by
  obtain⟨o,es,ep,t,e,_⟩:=x;exact⟨o,e⟩
 | .ins _ _ _,x=>let ⟨_,_,_,e,_⟩:=x;⟨_,e⟩
 | .own _,x=>x
 | .xd _,x=>by
  obtain⟨mA,⟨o,es,ep,e,_⟩,_⟩:=x;exact⟨o,e⟩
 | .OJ _ _,x=>let ⟨_,_,_,e⟩:=x;⟨_,e⟩
 | .xq _ _,x=>⟨_,x.1⟩
 | .Gb _,⟨_,x,_⟩=>⟨_,x⟩
 | .met _ _,x=>⟨_,x⟩
 | .ext _,x=>x.2.1
theorem gR.Qm {P:Program} {w:World} {H:Hp} {h h' B:Heap} (ok:gR P w H h) (hB:∀b u o,H b=some u->h.get? b=some o->B.get? b=some o) (st:B.StaysIn h'):gR P w H h':=λa o e=>
 (ok a o e).qV (λb u hb q=>st b u (by
  rcases hb with rfl | hb
  ·exact hB _ _ _ e q
  ·exact hB _ _ _ hb q)) (λ_ r=>r) λ_ _ r=>r
structure IS (P:Program) (w:World) (l:List Env) (H:Hp) (s:Shared) (H':Hp) (ad:Addr) (cls:Value) (s':Shared):Prop where
 os:s'.os=s.os
 bare:AllBare s'.gens
 un:Un (gy l) [] H H' s.heap s'.heap
 bU:gR P w H' s'.heap
 fl:∃B a0,Heap.FlyingW B l ad cls a0 s'.heap/\(∀b o,s.heap.get? b=some o->H b=none->b∉gy l->B.get? b=some o)/\(∀b o,s.heap.get? b=some o->b∉gy l->∃o',B.get? b=some o')/\
  (∀b u o,H' b=some u->s'.heap.get? b=some o->B.get? b=some o)
noncomputable def br (P:Program) (w:World):nZ:=λl H s E e s'=>∃ad cls H',e=.ref ad/\IS P w l H s H' ad cls s'/\E cls none H'
theorem Bg (P:Program) (w:World):vO (br P w):=λ_ _ _ _ _ ⟨_,_,_,_,_,h⟩=>h
section
variable {P : Program} {w : World} {K : aaB} {mg : Str -> Option Value} {base : Heap} {N : List Str} {qual : Str} {scope : Scope} {f : Addr} {cf : Value} {A : Around} {outer : List Env} {s0 : Shared} {H0 : Hp} {E : XK}
theorem DT {pins:List (Addr×Obj)} {σ:St} {H:Hp} {s:Shared} {h':Heap} {ad:Addr} {cls:Value} {vs:List Value}
  (I:Inv (iW (br P w) P w K mg base N qual scope f cf A outer s0 H0 E) pins σ H s) (mx:Heap.MadeExcOf s.heap h' ad cls vs) (e:E cls none H):
  (iW (br P w) P w K mg base N qual scope f cf A outer s0 H0 E).xe (.ref ad) {s with heap:=h'}:=by
 let env:Env:=envOfC qual scope s0.heap.objs.size f cf;have J9:∀b o,s0.heap.get? b=some o->b∉gy outer->b∉gy (env::outer):=λb o q hb z=>by
  rcases aaj.mp (show b∈s0.heap.objs.size::gy outer from z) with z | z
  ·rw[z] at q;exact absurd (aaN q) (Z6 _)
  ·exact hb z
 have OV:∀b,b∈gy outer->b∈gy (env::outer):=λb hb=>aaj.mpr (.inr hb);have ST:s.heap.FunFrames base (env::outer):=I.stack;have SF:∀b∈gy (env::outer),H b=none:=I.vD;have BS:Un (gy outer) [] H0 H s0.heap s.heap:=I.base;show wpAny (model P w) (A.deeper env) (leaving env (.ref ad)) (λ_ zI=>br P w outer H0 s0 E (.ref ad) zI) (λe' zI=>br P w outer H0 s0 E e' zI) {s with heap:=h'};refine wpAny_leaves_madeW (base:=hideAll s.heap (gy (env::outer))) (h:=s.heap) (L:=s0.heap.objs.size) I.ok.frames rfl (λb o q=>of_hideAll _ q)
  (funFrames_hide ST λen he a ha=>List.mem_filterMap.mpr ⟨en,he,ha⟩) mx λh2 t x1 _ _ x4=>?_
 have x4:Heap.UpToSlots h' h2:=x4;have fr:∀b∈gy (env::outer),∀o,s.heap.get? b=some o->∃sl,h2.get? b=some {o with slots:=sl}:=λb hb o q=>by
  obtain⟨_,o1,q1,nf⟩:=ST.mem hb;rw[q] at q1;cases q1;exact x4 b o (mx.keeps b o q) nf
 refine⟨ad,cls,H,rfl,⟨I.os,I.bare,⟨λb o q n hb hx=>?_,λb o q n hb hx=>?_,BS.free,λb o q hx=>?_,BS.iV,BS.iQ,BS.jP⟩,?_,⟨_,_,x1,λb o q n hb=>?_,λb o q hb=>?_,λb u o e1 q=>?_⟩⟩,e⟩
 ·exact x1.1 b o (hideAll_get _ (BS.keep b o q n hb hx) (J9 b o q hb))
 ·obtain⟨sl,q1⟩:=BS.slot b o q n hb hx;obtain⟨Gf,q2⟩:=fr b (OV b hb) _ q1;exact⟨Gf,q2⟩
 ·obtain⟨o1,q1⟩:=BS.there b o q hx
  by_cases hb:b∈gy (env::outer)
  ·obtain⟨Gf,q2⟩:=fr b hb _ q1;exact⟨_,q2⟩
  ·exact⟨o1,x1.1 b o1 (hideAll_get _ q1 hb)⟩
 ·exact gR.Qm I.bU (λb u o e1 q=>hideAll_get _ q λz=>by
   have:=SF b z;rw[e1] at this;cases this) x1.1
 ·exact hideAll_get _ (BS.keep b o q n hb (by simp)) (J9 b o q hb)
 ·obtain⟨o1,q1⟩:=BS.there b o q (by simp);exact⟨o1,hideAll_get _ q1 (J9 b o q hb)⟩
 ·obtain⟨o1,q1⟩:=(I.bU b u e1).get;have q2:=hideAll_get (gy (env::outer)) q1 λz=>by
   have:=SF b z;rw[e1] at this;cases this
  have q3:=x1.1 b o1 q2;rw[q] at q3;cases q3;exact q2
theorem Bh:fe (br P w) (iW (br P w) P w K mg base N qual scope f cf A outer s0 H0 E) E:=by
 intro pins σ H s e s' I c;let env:Env:=envOfC qual scope s0.heap.objs.size f cf;obtain⟨ad,cls,H',rfl,F,he⟩:=c;have J9:∀b o,s0.heap.get? b=some o->b∉gy outer->b∉gy (env::outer):=λb o q hb z=>by
  rcases aaj.mp (show b∈s0.heap.objs.size::gy outer from z) with z | z
  ·rw[z] at q;exact absurd (aaN q) (Z6 _)
  ·exact hb z
 have OV:∀b,b∈gy outer->b∈gy (env::outer):=λb hb=>aaj.mpr (.inr hb);have ST:s.heap.FunFrames base (env::outer):=I.stack;have BS:Un (gy outer) [] H0 H s0.heap s.heap:=I.base;have FU:Un (gy (env::outer)) [] H H' s.heap s'.heap:=F.un;obtain⟨B,a0,fl,c0,c2,c1⟩:=F.fl;have fl:Heap.FlyingW B (env::outer) ad cls a0 s'.heap:=fl;have c0:∀b o,s.heap.get? b=some o->H b=none->b∉gy (env::outer)->B.get? b=some o:=c0;have c2:∀b o,s.heap.get? b=some o->b∉gy (env::outer)->∃o',B.get? b=some o':=c2;show wpAny (model P w) (A.deeper env) (leaving env (.ref ad)) (λ_ zI=>br P w outer H0 s0 E (.ref ad) zI) (λe' zI=>br P w outer H0 s0 E e' zI) s';refine wpAny_leaves_onW (L:=s0.heap.objs.size) I.ok.frames rfl fl λh2 x1 x2=>?_;have fr:∀b∈gy (env::outer),∀o,s'.heap.get? b=some o->∃sl,h2.get? b=some {o with slots:=sl}:=λb hb o q=>by
  obtain⟨_,o1,q1,nf⟩:=fl.2.2.1.mem hb;rw[q] at q1;cases q1;exact x2 b o q nf
 refine⟨ad,cls,H',rfl,⟨F.os.trans I.os,F.bare,⟨λb o q n hb hx=>?_,λb o q n hb hx=>?_,λb o q n hx=>?_,λb o q hx=>?_,λb xs q=>FU.iV b xs (BS.iV b xs q),λb o u q=>FU.iQ b o u (BS.iQ b o u q),λb ps q=>?_⟩,F.bU.Qm c1 x1.1,
  ⟨B,a0,x1,λb o q n hb=>?_,λb o q hb=>?_,λb u o e1 q=>?_⟩⟩,he⟩
 ·exact x1.1 b o (c0 b o (BS.keep b o q n hb hx) (BS.free b o q n hx) (J9 b o q hb))
 ·obtain⟨sl,q1⟩:=BS.slot b o q n hb hx;obtain⟨Qn,q2⟩:=FU.slot b _ q1 (BS.free b o q n hx) (OV b hb) hx;obtain⟨Gf,q3⟩:=fr b (OV b hb) _ q2;exact⟨Gf,q3⟩
 ·obtain⟨o1,q1⟩:=BS.there b o q hx;exact FU.free b o1 q1 (BS.free b o q n hx) hx
 ·obtain⟨o1,q1⟩:=BS.there b o q hx
  by_cases hb:b∈gy (env::outer)
  ·obtain⟨o2,q2⟩:=FU.there b o1 q1 hx;obtain⟨Gf,q3⟩:=fr b hb _ q2;exact⟨_,q3⟩
  ·obtain⟨o2,q2⟩:=c2 b o1 q1 hb;exact⟨o2,x1.1 b o2 q2⟩
 ·obtain⟨m1,e1⟩:=BS.jP b ps q;obtain⟨m2,e2⟩:=FU.jP b _ e1;exact⟨m1++m2,by rw[e2,Array.append_assoc]⟩
 ·exact c0 b o (BS.keep b o q n hb (by simp)) (BS.free b o q n (by simp)) (J9 b o q hb)
 ·obtain⟨o1,q1⟩:=BS.there b o q (by simp);exact c2 b o1 q1 (J9 b o q hb)
 ·obtain⟨o1,q1⟩:=(F.bU b u e1).get;have q2:=c1 b u o1 e1 q1;have q3:=x1.1 b o1 q2;rw[q] at q3;cases q3;exact q2
end
end L2
namespace L2
open PySem PySem.Spec PyProof.Rows PySem.W
set_option tactic.hygienic true in
theorem GX {K:Frag} {h:Heap} {C:Addr} {SM:List Value} {newId:String} (X:K.In h) (q:excIn K C SM newId=true):
  ∃tl N nm qn bs hdct sn sub ab col dd k0 k1 k2 k3 k5 mN,h.get? C=some (excClassObj nm qn C N bs tl hdct sn sub ab col dd k0 k1 k2 k3 k5 newId)/\h.Ns N mN/\mN "__init__"=none/\OwnTail h SM tl:=by
 unfold excIn at q
 split at q
 ·rename_i dd cd sl ho
  split at q
  ·rename_i C' bm k0 k1 k2 k3 n k5 hm hs
   simp only[Z8,beq_iff_eq,Bool.not_eq_true'] at q;obtain⟨⟨⟨⟨⟨rfl,rfl⟩,Na⟩,ht⟩,bU⟩,OW⟩:=q;obtain⟨nm,bs,mro,ns,qn,hd,sn,sub,ab,col,del⟩:=cd;dsimp only at hm Na bU OW;subst hm Na;have Mb:sl=#[k0,k1,k2,k3,some (.builtin n),k5]:=by
    obtain⟨l⟩:=sl;simp only at hs;rw[hs]
   subst Mb;exact⟨bm,ns,nm,qn,bs,hd,sn,sub,ab,col,dd,k0,k1,k2,k3,k5,_,X _ _ ho,.of_isNs (isNs_of_in X bU),nsMap_none_of_in X bU OW,tail_of_in X ht⟩
  ·cases q
 ·cases q
abbrev vQ:List Value:=[.type "ValueError",.type "Exception",.type "BaseException",.type "object"]
abbrev mJ:String:="ValueError.__new__"
noncomputable def tRaise (C:Addr) (E:XK) (t:TA):TS:=λ_ σ H=>t σ H λvs H1=>vs.length<=sizeLine/\E (.ref C) none H1
section
variable {P : Program} {w : World} {K : aaB} {mg : Str -> Option Value} {base : Heap} {N : List Str} {qual : Str} {scope : Scope} {f : Addr} {cf : Value} {A : Around} {outer : List Env} {s0 : Shared} {H0 : Hp} {E : XK}
theorem eW {x:Str} {C:Addr} {np dS pos:Pos} {e:Expr} {es:List Expr} {t:TA} (hg:Gl (iW (br P w) P w K mg base N qual scope f cf A outer s0 H0 E) x) (hm:mg x=some (.ref C)) (q:excIn K C vQ mJ=true)
  (hh:A.handled=none) (ha:PA (iW (br P w) P w K mg base N qual scope f cf A outer s0 H0 E) (e::es) t) (zH:(x==("__debug__":Str))=false:=by decide)
  (he:starEach (e::es) (iW (br P w) P w K mg base N qual scope f cf A outer s0 H0 E).env=(false,eval e (iW (br P w) P w K mg base N qual scope f cf A outer s0 H0 E).env)::starEach es (iW (br P w) P w K mg base N qual scope f cf A outer s0 H0 E).env:=by rfl)
  (hpl:(backTo dS (starEach es (iW (br P w) P w K mg base N qual scope f cf A outer s0 H0 E).env)).any (·.1)=false:=by rfl):
  PS (iW (br P w) P w K mg base N qual scope f cf A outer s0 H0 E) (.Raise (some (.Call (.Name x np) (e::es) [] dS)) none pos) (tRaise C E t):=by
 intro pins s σ H D I h;have FB:=PySem.F.excBase_ValueError;obtain⟨tl,Nn,nm,qn,bs,hdct,sn,sub,ab,col,dd,k0,k1,k2,k3,k5,mN,hC,hN,OW,T⟩:=GX I.ok.mod.JF q;refine wpAny_Raise_call_subT (C:=C) (nm:=nm) (q:=qn) (N:=Nn) (bs:=bs) (bm:=tl) (hdct:=hdct) (sn:=sn) (sub:=sub) (ab:=ab) (col:=col) (dd:=dd) (k0:=k0) (k1:=k1) (k2:=k2) (k3:=k3) (k5:=k5)
  FB (mN:=mN) (T.hasType FB.hasBase) hh (by rw[he];show(false || (backTo dS (starEach es _)).any (·.1))=false;rw[hpl];rfl) OW (mw I hg hm ⟨rfl,?_⟩ zH)
 rw[he];have OX:=ha dS pins s σ H _ I h;rw[he] at OX;refine Calls.evalArgs_plain (cG OX λus s1 ⟨vs,H1,I1,r,z,k⟩=>⟨rfl,by rw[<-r.length];exact z,I1.bk _ _ hC,hN.keeps I1.bk,T.keeps I1.bk,λh' ad mx=>?_⟩);exact DT I1 mx k
end
section
variable {X : Cx} {pins : List (Addr × Obj)} {σ : St} {H H' : Hp} {s s' : Shared}
abbrev Cx.mark (X:Cx) (ad:Addr):Cx:={X with A:=X.A.mark (some (.ref ad)),calm:=false,xe:=λ_ _=>False}
theorem Inv.mark (I:Inv X pins σ H s) (ad:Addr):Inv (X.mark ad) pins σ H s:=
 ⟨⟨I.ok.mod,I.ok.kind,I.ok.glob,I.ok.blt,I.ok.above,I.ok.inj,I.ok.has,I.ok.JG,λz=>(ZO z).elim,I.ok.frames,I.ok.Dl,I.ok.OL,I.ok.bs,I.ok.Dm,I.ok.zq,I.ok.Cb,I.ok.mr,I.ok.Gy⟩,
  I.os,I.bare,I.base,I.loc,I.cell,I.free,I.fR,I.pin,I.bU,I.len⟩
theorem Inv.unmark {ad:Addr} (ok:X.Ok) (I:Inv (X.mark ad) pins σ H s):Inv X pins σ H s:=⟨ok,I.os,I.bare,I.base,I.loc,I.cell,I.free,I.fR,I.pin,I.bU,I.len⟩
theorem name_goes {M:Model} {A:Around} {E:Value->Shared->Prop} {i:Nat} {n:Str} {pos:Pos} {Q:Unit->Shared->Prop} (I:Inv X pins σ H s) (hN:X.N.Nodup) (hi:X.N[i]?=some n) (hl:X.env.scope.names.lookup n=some .local)
  (h:∀s',Inv X pins (σ.set i none) H s'->Q () s'):wpAny M A (do bindName X.env n .none;unbindBehindTheSuite X.env n pos) Q E s:=by
 have MH:i<σ.length:=by rw[I.len];exact(aaI.mp hi).1
 refine wpAny_bind (wpAny_bindName (gS (v:=.cW) I hN hi (.inl hl) rfl (λs1 I1=>?_) (.inr hl)));obtain⟨m,hn,SN⟩:=id I1.loc;have U1:∃u,m n=some u:=by
  obtain⟨u,_,z⟩:=SN i n .cW hi (by rw[List.getElem?_set_self MH]) (.inl hl);rcases z with ⟨_,z⟩ | ⟨z,_⟩
  ·exact⟨u,z⟩
  ·have hk:X.env.kindOf n=some .local:=hl;rw[hk] at z;rcases z with z | z <;>cases z
 obtain⟨u0,Qo⟩:=U1;unfold unbindBehindTheSuite;refine wpAny_onRaise ?_;unfold unbindName;refine wpAny_bind (wpAny_point (wpAny_bind ?_));unfold deleteName;have hk:X.env.kindOf n=some .local:=hl;have JH:(X.env.scope.kind==.class || (X.env.scope.kind==.module && X.env.locals !=X.env.globals))=false:=by rw[I.ok.kind];rfl
 simp only[hk,JH];rw[if_neg ∅];refine wpAny_bind (wpAny_nsDel_keeps hn λh₂ v U2 U3=>?_);rw[Qo];simp only[if_true,Option.isSome_some,Bool.not_true,Bool.false_eq_true,if_false];refine wpAny_pure (wpAny_point (h _ ?_));have hs:Heap.SameBut X.env.locals s1.heap h₂:=U3;refine⟨I1.ok,I1.os,I1.bare,⟨λb o e nn hb hx=>?_,λb o e nn hb hx=>?_,I1.base.free,λb o e hx=>?_,I1.base.iV,I1.base.iQ,I1.base.jP⟩,⟨_,U2,λj y v' e1 e2 e3=>?_⟩,λy c e=>?_,I1.free,I1.fR,λp hp=>?_,λb ob e=>?_,?_⟩
 ·exact(hs.2 b (ZK (ZR (aaN e) I1.ok.above))).trans (I1.base.keep b o e nn hb hx)
 ·obtain⟨sl,e1⟩:=I1.base.slot b o e nn hb hx;exact⟨sl,(hs.2 b (ZK (ZR (aaN e) I1.ok.above))).trans e1⟩
 ·obtain⟨o',e1⟩:=I1.base.there b o e hx;exact⟨o',(hs.2 b (ZK (ZR (aaN e) I1.ok.above))).trans e1⟩
 ·by_cases hj:j=i
  ·subst hj;rw[List.getElem?_set_self MH] at e2;cases e2
  ·rw[List.getElem?_set_ne (Ne.symm hj)] at e2;obtain⟨u',r',q⟩:=SN j y v' e1 (by rw[List.getElem?_set_ne (Ne.symm hj)];exact e2) e3;refine⟨u',r',?_⟩;rcases q with ⟨k,e⟩ | ⟨k,c,e,z⟩
   ·refine .inl ⟨k,?_⟩;have:y≠n:=λe=>hj (qW hN e1 (e▸hi));simp [this,e]
   ·exact .inr ⟨k,c,e,z.sameBut hs (I1.Gz y c e)⟩
 ·obtain⟨w',z⟩:=I1.cell y c e;exact⟨w',z.sameBut hs (I1.Gz y c e)⟩
 ·obtain⟨e,nn,ne,nf,d⟩:=I1.pin p hp;exact⟨(hs.2 p.1 ne).trans e,nn,ne,nf,d⟩
 ·refine(I1.bU b ob e).qV (λc w' hc q=>(hs.2 c ?_).trans q) (λ_ q=>q) λ_ _ q=>q;rintro rfl;have fr:=I1.free;rcases hc with rfl | hc
  ·rw[fr] at e;cases e
  ·rw[fr] at hc;cases hc
 ·rw[List.length_set];exact I.len
noncomputable def DU (ad:Addr) (cls:Value):HO:=.ext λh=>∃o vs,h.get? ad=some o/\o.cls=cls/\o.data=.fields vs
theorem IS.new {P:Program} {w:World} {l:List Env} {ad:Addr} {cls:Value} (F:IS P w l H s H' ad cls s'):s.heap.get? ad=none:=by
 obtain⟨B,a0,fl,c0,c2,c1⟩:=F.fl;cases q:s.heap.get? ad with
 | none=>rfl
 | some o=>
  by_cases hb:ad∈gy l
  ·obtain⟨_,o1,q1,nf⟩:=fl.2.2.1.mem hb;obtain⟨oe,vs,he,_,hd,_⟩:=fl.first;rw[q1] at he;cases he;exact absurd hd (nf _)
  ·obtain⟨o',q'⟩:=c2 ad o q hb;rw[fl.2.1] at q';cases q'
theorem IS.tracked {P:Program} {w:World} {l:List Env} {ad:Addr} {cls:Value} (F:IS P w l H s H' ad cls s'):H' ad=none:=by
 obtain⟨B,a0,fl,c0,c2,c1⟩:=F.fl;cases q:H' ad with
 | none=>rfl
 | some u=>
  obtain⟨o,e⟩:=(F.bU ad u q).get;have:=c1 ad u o q e;rw[fl.2.1] at this;cases this
theorem IS.inv {ad:Addr} {cls:Value} (F:IS X.prog X.w X.stack H s H' ad cls s') (I:Inv X pins σ H s) {B h6:Heap} {a0:Value} (fl:Heap.FlyingW B X.stack ad cls a0 s'.heap)
  (c0:∀b o,s.heap.get? b=some o->H b=none->b∉gy X.stack->B.get? b=some o) (c2:∀b o,s.heap.get? b=some o->b∉gy X.stack->∃o',B.get? b=some o')
  (c1:∀b u o,H' b=some u->s'.heap.get? b=some o->B.get? b=some o) (st:B.StaysIn h6) (up:s'.heap.UpToSlots h6):Inv X pins σ H' {s' with heap:=h6}:=by
 have fr:∀b∈gy X.stack,∀o,s'.heap.get? b=some o->∃sl,h6.get? b=some {o with slots:=sl}:=λb hb o q=>by
  obtain⟨_,o1,q1,nf⟩:=fl.2.2.1.mem hb;rw[q] at q1;cases q1;exact up b o q nf
 refine I.IF (s':={s' with heap:=h6}) (ch:=[]) F.os ⟨λb o q n hb _=>st b o (c0 b o q n hb),λb o q n hb hx=>?_,F.un.free,λb o q hx=>?_,F.un.iV,F.un.iQ,F.un.jP⟩ (F.bU.Qm c1 st) F.bare (λb hb=>absurd hb (by simp))
 ·obtain⟨sl,q1⟩:=F.un.slot b o q n hb hx;obtain⟨Gf,q2⟩:=fr b hb _ q1;exact⟨Gf,q2⟩
 ·by_cases hb:b∈gy X.stack
  ·obtain⟨o2,q2⟩:=F.un.there b o q hx;obtain⟨Gf,q3⟩:=fr b hb _ q2;exact⟨_,q3⟩
  ·obtain⟨o2,q2⟩:=c2 b o q hb;exact⟨o2,st b o2 q2⟩
theorem Inv.adopt {ad:Addr} {φ:Heap->Prop} (I:Inv X pins σ H' s') (I0:Inv X pins σ H s) (new:s.heap.get? ad=none) (hn:H' ad=none) (ho:∃o,s'.heap.get? ad=some o) (p:φ s'.heap)
  (hst:∀h1 h2:Heap,φ h1->(∀o,h1.get? ad=some o->h2.get? ad=some o)->φ h2):Inv X pins σ (upd H' ad (.ext φ)) s':=by
 have ne:∀b o,s.heap.get? b=some o->b≠ad:=λb o e z=>by rw[z,new] at e;cases e
 have tk:∀b u,H' b=some u->b≠ad:=λb u e z=>by rw[z,hn] at e;cases e
 have U4:∀b o,b∉X.ex->X.s₀.heap.get? b=some o->b≠ad:=λb o hx e=>by
  obtain⟨o',e'⟩:=I0.base.there b o e hx;exact ne b o' e'
 refine⟨I.ok,I.os,I.bare,⟨I.base.keep,I.base.slot,λb o e n hx=>?_,I.base.there,λb xs e=>?_,λb o u e=>?_,λb ps e=>?_⟩,I.loc,I.cell,?_,λy c e=>?_,λq hq=>?_,λb u e=>?_,I.len⟩
 ·rw[aw (U4 b o hx e)];exact I.base.free b o e n hx
 ·rw[aw (tk _ _ (I.base.iV b xs e))];exact I.base.iV b xs e
 ·rw[aw (tk _ _ (I.base.iQ b o u e))];exact I.base.iQ b o u e
 ·obtain⟨m,e1⟩:=I.base.jP b ps e;exact⟨m,by rw[aw (tk _ _ e1)];exact e1⟩
 ·obtain⟨m,⟨o,es,ep,hl,_⟩,_⟩:=I0.loc;rw[aw (ne _ _ hl)];exact I.free
 ·obtain⟨v,o,hc,_⟩:=I0.cell y c e;rw[aw (ne _ _ hc)];exact I.fR y c e
 ·obtain⟨e,n,r⟩:=I.pin q hq;refine⟨e,?_,r⟩;rw[aw (ne _ _ (I0.pin q hq).1)];exact n
 ·by_cases hb:b=ad
  ·subst hb;rw[aj] at e;cases e;exact⟨p,ho,hst⟩
  ·rw[aw hb] at e;exact(I.bU b u e).qV (λ_ _ _ q=>q) (λc r=>by rw[aw (tk _ _ r)];exact r) λc xs r=>by rw[aw (tk _ _ r)];exact r
theorem zW {ad:Addr} {cls:Value} {cx n:Str} {np Cz:Pos} {b₀:Stmt} {iG:List Stmt} {i:Nat} {ts:TS} {C2:Addr} {D:Ends} (I:Inv X pins σ H s) (F:IS X.prog X.w X.stack H s H' ad cls s')
  (hst:X.stack=X.env::X.outer) (hf:X.env.frame=some X.env.locals) (hg:Gl X cx) (hm:X.mg cx=some (.ref C2)) (hx:exmOne X.K cls (.ref C2)=some true) (hN:X.N.Nodup) (hi:X.N[i]?=some n)
  (hl:X.env.scope.names.lookup n=some .local) (hs:xy (X.mark ad) (b₀::iG) ts)
  (h:ts {nx:=λσ' H2=>D.nx (σ'.set i none) H2,rt:=D.rt,bk:=λσ' H2=>D.bk (σ'.set i none) H2,ct:=λσ' H2=>D.ct (σ'.set i none) H2} (σ.set i (some (.ref ad))) (upd H' ad (DU ad cls)))
  (zH:(cx==("__debug__":Str))=false:=by decide):
  wpAny (model X.prog X.w) X.A (noteFrame (.ref ad) X.env) (λ_ s₂=>wpAny (model X.prog X.w) X.A (setFlight (.ref ad) none)
   (λ_ s₃=>wpAny (model X.prog X.w) X.A (handleBy (.ref ad) X.env [.ExceptHandler (some (.Name cx np)) (some n) (b₀::iG) Cz]) (SP X pins D) X.xe s₃) X.xe s₂) X.xe s':=by
 obtain⟨B,a0,fl,c0,c2,c1⟩:=F.fl;have SO:=fl;rw[hst] at SO;refine wpAny_looks_onW (I.ok.frames.trans (by rw[hst])) hf SO λh4 Nb U6=>?_;refine wpAny_landsW Nb λh5 Qp U7=>?_;have U5:s'.heap.UpToSlots h5:=U6.trans U7;have I5:Inv X pins σ H' {s' with heap:=h5}:=F.inv I fl c0 c2 c1 Qp.1 U5;obtain⟨ob,U8,Qq⟩:=Qp.there;refine wpAny_handleBy_cons (codeAny_handlers_test (mw (X:=X.mark ad) (I5.mark ad) hg hm ?_ zH)) (by intro q;cases q);have LT:Looks (model X.prog X.w) h5 (typeOf (.ref ad)) cls:=by
  subst Qq;exact(Looks.ld U8).andThen .now
 refine(exm_one I5.kx LT hx).here ?_;refine codeAny_handlers_suite_as ?_;refine lands_againW Qp λh6 SQ U9=>?_;have I6:Inv X pins σ H' {s' with heap:=h6}:=F.inv I fl c0 c2 c1 SQ.1 (U5.trans U9);obtain⟨oe,vs,he,Va,Vb,_⟩:=SQ.first;have I7:Inv X pins σ (upd H' ad (DU ad cls)) {s' with heap:=h6}:=I6.adopt I F.new F.tracked ⟨oe,he⟩ ⟨oe,vs,he,Va,Vb⟩ λh1 h2 ⟨o,ws,e1,e2,e3⟩ k=>⟨o,ws,k o e1,e2,e3⟩
 refine gS (X:=X.mark ad) (I7.mark ad) hN hi (.inl hl) (v:=.ref ad) rfl (λs7 I8=>?_) (.inr hl);refine wpAny_mono (hs pins s7 _ _ _ I8 h) (λfw s8 hq=>?_) λ_ _ z=>z.elim;cases fw with
 | next=>
  obtain⟨σ8,H8,I9,q8⟩:=hq;exact name_goes (I9.unmark I.ok) hN hi hl λs9 GY=>⟨_,_,GY,q8⟩
 | brk=>
  obtain⟨σ8,H8,I9,q8⟩:=hq;exact name_goes (I9.unmark I.ok) hN hi hl λs9 GY=>⟨_,_,GY,q8⟩
 | cont=>
  obtain⟨σ8,H8,I9,q8⟩:=hq;exact name_goes (I9.unmark I.ok) hN hi hl λs9 GY=>⟨_,_,GY,q8⟩
 | ret u=>
  obtain⟨v8,σ8,H8,I9,r8,q8⟩:=hq;exact name_goes (I9.unmark I.ok) hN hi hl λs9 GY=>⟨v8,_,_,GY,r8,q8⟩
end
section
variable {X : Cx} {CX : nZ} {k : Nat} {x : Str} {ps : List Str} {sp : Sp} {E : XK} {e : Expr} {es : List Expr} {t : TA} {p pos : Pos}
noncomputable def DV (K:aaB) (C2:Addr) (i:Nat) (ts:TS) (D:Ends) (σ:St):XK:=λcls _ H2=>exmOne K cls (.ref C2)=some true/\∀ad,H2 ad=none->
 ts {nx:=λσ' H3=>D.nx (σ'.set i none) H3,rt:=D.rt,bk:=λσ' H3=>D.bk (σ'.set i none) H3,ct:=λσ' H3=>D.ct (σ'.set i none) H3} (σ.set i (some (.ref ad))) (upd H2 ad (DU ad cls))
variable {cx n : Str} {np Cz DW p3 : Pos} {b₀ : Stmt} {iG : List Stmt} {i : Nat} {ts : TS} {C2 : Addr}
end
end L2
namespace Nm
noncomputable def st (a b:Int):Int:=if b<0 then -(a / g a b) else a / g a b
noncomputable def sb (a b:Int):Int:=if b<0 then -(b / g a b) else b / g a b
theorem DX {a d:Int} (h:0<d):a.fdiv d=a / d:=Int.fdiv_eq_ediv_of_nonneg a (by lia)
theorem DY {a d:Int} (h:0<d) (dv:d∣a):a.fdiv (-d)= -(a / d):=by
 obtain⟨k,rfl⟩:=dv;rw[Int.mul_ediv_cancel_left _ (by lia),show d*k=(-d)* (-k) by rw[Int.neg_mul_neg]];exact Int.mul_fdiv_cancel_left _ (by lia)
set_option tactic.hygienic true in
theorem Ka {a b:Int} (h:b≠0):0<sb a b:=by
 have g0:=DO (a:=a) h;unfold sb
 split
 ·rename_i hb
  have h1:0< (-b) / g a b:=Int.ediv_pos_of_pos_of_dvd (by lia) (M8 a b) (Int.dvd_neg.mpr (jH a b));rw[Int.neg_ediv_of_dvd (jH a b)] at h1;exact h1
 ·exact GV (by lia)
theorem GZ (a b:Int):g a (-b)=g a b:=by rw[vP,IQ,vP]
theorem Kb {a b:Int} (h:b≠0):g (st a b) (sb a b)=1:=by
 have e:=GU (a:=a) h;unfold st sb
 split
 ·rw[IQ,GZ];exact e
 ·exact e
theorem DZ (a b:Int):st a b*b=a*sb a b:=by
 have e:=Cy a b;unfold st sb
 split
 ·rw[Int.neg_mul,e,Int.mul_neg]
 ·exact e
theorem Kc {a b:Int} (h:0<b):st a b=a / g a b/\sb a b=b / g a b:=by
 unfold st sb;rw[if_neg (by lia),if_neg (by lia)];exact⟨rfl,rfl⟩
end Nm
namespace L2
open PySem PySem.Spec PyProof.Rows
section
variable {P : Program} {w : World} {K : aaB} {mg : Str -> Option Value} {base : Heap} {CX : nZ}
theorem zU.Kd {x qual:Str} {st:Stmt} {f:Addr} {fd:FuncData} {N ps:List Str} {k:Nat} {sp:Sp} (F:zU K x qual st f fd) (S:aZ N ps (aq st)) (len:∀vs H Q E,sp vs H Q E->vs.length=ps.length)
  (xJ:∀(cf:Value) (A:Around) (outer:List Env) (s:Shared) (H:Hp) (vs:List V) (Q:VK) (E:XK),dD k (A.deeper (envOfC qual (aq st) s.heap.objs.size f cf))->sp vs H Q E->
   ∃t,xy (iW CX P w K mg base N qual (aq st) f cf A outer s H E) (bE st) t/\t {nx:=λ_ H'=>Q .cW H',rt:=Q} (start N vs) H):fU P w K mg base CX (k+1) f fd ps sp:=by
 obtain⟨oc,od,kV,doc,pm,an,cf,ct,Gd,rfl,lk,t5⟩:=F.ex;exact IL lk t5 S len λA outer s H vs Q E hr C9=>xJ cf A outer s H vs Q E hr C9
end
noncomputable def noStar:Expr->Bool
 | .Starred _ _=>false
 | _=>true
theorem se {e:Expr} {es:List Expr} {env:Env} (h:noStar e=true):starEach (e::es) env=(false,eval e env)::starEach es env:=by
 cases e <;>first | rfl | exact absurd h ZO
theorem na {env:Env} {pos:Pos}:∀{es:List Expr},es.all noStar=true->(backTo pos (starEach es env)).any (·.1)=false
 | [],_=>rfl
 | e::es,h=>by
  rw[List.all_cons,Z8] at h;rw[se h.1];show(false || (backTo pos (starEach es env)).any (·.1))=false;rw[na h.2];rfl
end L2
namespace L2
open PySem PySem.Spec PyProof.Rows PySem.W
structure ff (K:aaB) (C:Addr):Prop where
 cls:(clsIn K C).isSome=true
 ga:findIn K (.ref C) "__getattribute__"=some (some (.builtin "BaseException.__getattribute__"))
 gt:findIn K (.ref C) "__getattr__"=some none
 cl:findIn K (.ref C) "__class__"=some (some (.builtin "object.__class__"))
 be:mroIn K C (.type "BaseException")=some true
 ob:mroIn K C (.type "object")=some true
section
variable {prog : Program} {w : World} {A : Around} {E : Value -> Shared -> Prop} {K : aaB} {h : Heap} {g : Array GenState} {d : Drawn} {t : Nat} {os : OsState} {a C : Addr} {o : Obj}
theorem G0 {R:Result->Shared->Prop} {tp:Value} (X:K.In h) (EC:ff K C) (hx:h.get? a=some o) (hc:o.cls=.ref C) (hq:R (.ok (.ret (.ref C))) ⟨h,g,d,t,os⟩):
  codeAny (model prog w) A (.call (.builtin "getset_descriptor.__get__") ⟨[.builtin "object.__class__",.ref a,tp],[]⟩) R ⟨h,g,d,t,os⟩:=by
 have T0:Looks (model prog w) h (typeOf (.ref a)) (.ref C):=hc▸(Looks.ld hx).andThen .now;have T1:=looks_mroIn (M:=model prog w) X EC.ob;refine codeAny_call_builtin (KF.slot_gs.plain) (KF.entry_gs) (KF.slot_gs.check _ _ _ _ _ _ _ _ KF.type_class (KF.args_gs _ _ _) ?_);unfold Builtin.«getset_descriptor.__get__» Builtin.Getset_descriptor.descrGet;rw[dga_obj];refine wpAny_bind (m:=pure _) (wpAny_pure ?_);unfold Builtin.Getset_descriptor.descrGetter Builtin.Getset_descriptor.descrCheckInstance Builtin.Getset_descriptor.descrNameAndClass isInstance;simp only[KF.owner_class]
 repeat lk
 refine And.intro (Code.quiet_builtin _ ∅) (codeAny_builtin KF.entry_class ?_);unfold Builtin.«object.__class__» shownTypeOf
 repeat lk
 exact hq
theorem CA {tk:Tok} {Q:Fin->Shared->Prop} (X:K.In h) (EC:ff K C) (hx:h.get? a=some o) (hc:o.cls=.ref C) (hq:Q (.done (.ret (.ref C))) ⟨h,g,d,t,os⟩):
  wpAny (model prog w) A (Builtin.«object.__getattribute__» ⟨[.ref a,.str "__class__" tk],[]⟩) Q E ⟨h,g,d,t,os⟩:=by
 have T0:Looks (model prog w) h (typeOf (.ref a)) (.ref C):=hc▸(Looks.ld hx).andThen .now;have T1:=looks_findIn (M:=model prog w) X EC.cl;have Yy:(⟨h,g,d,t,os⟩:Shared).TypeIs (.builtin "object.__class__") "getset_descriptor":=F.typeOf_object_class;have f5:=F.typeOf_object_class;have f6:=F.slot_gs_get.lookup;have f7:=F.slot_gs_set.lookup
 repeat (any_goals (first | assumption | with_reducible refine Looks.at T0 ?_ | with_reducible refine Looks.at T1 ?_ | wp_step))
 refine G0 X EC hx hc ?_
 repeat (any_goals (first | assumption | wp_step))
theorem CB {IT:Value} {Q:Unit->Shared->Prop} {M:Model} (X:K.In h) (EC:ff K C) (hx:h.get? a=some o) (hc:o.cls=.ref C) (hq:Q () ⟨h,g,d,t,os⟩):
  wpAny M A (checkBuiltinCall "BaseException.__getattribute__" ⟨[.ref a,IT],[]⟩) Q E ⟨h,g,d,t,os⟩:=by
 have T0:Looks M h (typeOf (.ref a)) (.ref C):=hc▸(Looks.ld hx).andThen .now;have T1:=looks_mroIn (M:=M) X EC.be;have hk:builtinKind "BaseException.__getattribute__"=some .slot:=∅
 have C9:splitId "BaseException.__getattribute__"=some ("BaseException","__getattribute__"):=∅
 have ha:=F.args_bexc_ga (.ref a) IT;simp only[checkBuiltinCall,hk,C9];refine wpAny_bind ?_;unfold isInstance
 repeat (first | with_reducible refine Looks.at T0 ?_ | with_reducible refine Looks.at T1 ?_ | wp_step)
 exact hq
theorem D0 {tk:Tok} {R:Result->Shared->Prop} (X:K.In h) (EC:ff K C) (hx:h.get? a=some o) (hc:o.cls=.ref C) (hq:R (.ok (.ret (.ref C))) ⟨h,g,d,t,os⟩):
  codeAny (model prog w) A (.call (.builtin "BaseException.__getattribute__") ⟨[.ref a,.str "__class__" tk],[]⟩) R ⟨h,g,d,t,os⟩:=
 codeAny_call_builtin (F.excAttr_ValueError.ga.plain) F.entry_bexc_ga (CB X EC hx hc (CA X EC hx hc hq))
theorem Kf {tk:Tok} {fill expr:Bool} {Q:Value->Shared->Prop} (X:K.In h) (EC:ff K C) (hx:h.get? a=some o) (hc:o.cls=.ref C) (hq:Q (.ref C) ⟨h,g,d,t,os⟩):
  wpAny (model prog w) A (getAttrBy (.ref a) (.str "__class__" tk) fill expr) Q E ⟨h,g,d,t,os⟩:=by
 have T0:Looks (model prog w) h (typeOf (.ref a)) (.ref C):=hc▸(Looks.ld hx).andThen .now;have T1:=looks_findIn (M:=model prog w) X EC.ga;have T2:=looks_findIn (M:=model prog w) X EC.gt;have f3:=F.excAttr_ValueError.ga.bind (.ref a);have y0:(expr && onTheHeap (Value.builtin "BaseException.__getattribute__"))=false:=by cases expr <;>rfl
 have y2:(Value.builtin "BaseException.__getattribute__"==Value.builtin "object.__getattribute__")=false:=∅
 have y1:(onTheHeap (Value.ref C) && Value.builtin "BaseException.__getattribute__"==Value.builtin "object.__getattribute__")=false:=by rw[y2];rfl
 repeat (any_goals (first | assumption | with_reducible refine Looks.at T0 ?_ | with_reducible refine Looks.at T1 ?_ | with_reducible refine Looks.at T2 ?_ | wp_step))
 refine D0 X EC hx hc ?_
 repeat (any_goals (first | assumption | wp_step))
theorem D1 {Q:Option Value->Shared->Prop} (X:K.In h) (EC:ff K C) (hx:h.get? a=some o) (hc:o.cls=.ref C) (hq:Q (some (.ref C)) ⟨h,g,d,t+1,os⟩):
  wpAny (model prog w) A (getAttr? (.ref a) "__class__") Q E ⟨h,g,d,t,os⟩:=by
 unfold getAttr? getAttrBy?
 repeat (any_goals (first | assumption | with_reducible apply Kf X EC hx hc | wp_step))
end
noncomputable def ExcAt (a C:Addr) (h:Heap):Prop:=∃o,h.get? a=some o/\o.cls=.ref C
set_option tactic.hygienic true in
theorem xV {K:aaB} {a C:Addr} (EC:ff K C):KitX K (.ref a) (.ref C) (ExcAt a C) where
 ty:=λ_ _ _ ⟨_,e,c⟩=>c▸(Looks.ld e).andThen .now
 it:=λ_ _ X _=>by
  obtain⟨cd,t5⟩:=Option.isSome_iff_exists.mp EC.cls;unfold clsIn at t5
  split at t5
  ·rename_i ho
   intro A' Q' E' s' k q;unfold isType loadHead;exact wpAny_bind (wpAny_loadPart (k _ _ (X _ _ ho)) (wpAny_pure q))
  ·cases t5
 ne:=λh tp dd bg n sl X Vc=>by
  obtain⟨cd,t5⟩:=Option.isSome_iff_exists.mp EC.cls;refine Bool.eq_false_iff.mpr λq=>?_;have e:C=tp:=Value.ref.inj (beq_iff_eq.mp q);subst e;unfold clsIn at t5
  split at t5
  ·rename_i ho
   have z:=(X _ _ ho).symm.trans Vc;cases z
  ·cases t5
 ca:=λ{_ _ _ _ _ s} X p k=>by
  obtain⟨h,g,d,t,os⟩:=s;obtain⟨o,e,c⟩:=p;exact D1 X EC e c k
section
variable {X : Cx}
noncomputable def Mc:V->Option Value
 | .ref C=>some (.ref C)
 | .ty T=>some (.type T)
 | _=>none
theorem Bi {c:V} {v u:Value} (h:Mc c=some v) (r:RelV c u):u=v:=by
 cases c with
 | ref C=>cases h;exact r
 | ty T=>cases h;exact r
 | _=>cases h
theorem xW:∀{cs:List V} {vs us:List Value},cs.mapM Mc=some vs->bC cs us->us=vs
 | [],_,_,h,.nil=>by cases h;rfl
 | c::cs,vs,_,h,.cons r rs=>by
  rw[List.mapM_cons] at h;obtain⟨v,h1,h⟩:=Option.bind_eq_some_iff.mp h;obtain⟨CC,h2,h⟩:=Option.bind_eq_some_iff.mp h;cases h;rw[Bi h1 r,xW h2 rs]
theorem D2:cQ X (.builtin "isinstance") (λxs H Q=>∃ad C c v b,xs=[.ref ad,c]/\H ad=some (DU ad (.ref C))/\ff X.K C/\Mc c=some v/\kitOne X.K (.ref C) v=some b/\Q (.bl b) H):=by
 intro pins s σ H xs us Q I r h;obtain⟨ad,C,c,v,b,rfl,hH,EC,hv,e,q⟩:=h;obtain⟨u,u',rfl,rx,rc⟩:=vals2 r;cases rx;obtain rfl:=Bi hv rc;obtain⟨⟨o,vs,e1,e2,e3⟩,_,_⟩:=(show cD X.prog X.w H s.heap ad (DU ad (.ref C)) from I.bU ad _ hH)
 exact kia_one (xV EC) I.kx ⟨o,e1,e2⟩ e (λz=>nomatch z) λtk=>⟨.bl b,H,I.tok tk,rfl,q⟩
theorem CD:cQ X (.builtin "isinstance") (λxs H Q=>∃ad C p cs vs b,xs=[.ref ad,.ref p]/\H ad=some (DU ad (.ref C))/\ff X.K C/\H p=some (.tup cs)/\cs.mapM Mc=some vs/\kitAny X.K (.ref C) vs=some b/\Q (.bl b) H):=by
 intro pins s σ H xs us Q I r h;obtain⟨ad,C,p,cs,vs,b,rfl,hH,EC,hp,hv,e,q⟩:=h;obtain⟨u,u',rfl,rx,rc⟩:=vals2 r;cases rx;cases rc;obtain⟨⟨o,ws,e1,e2,e3⟩,_,_⟩:=(show cD X.prog X.w H s.heap ad (DU ad (.ref C)) from I.bU ad _ hH)
 obtain⟨bg,rv,⟨ot,h1,h2,n,h3⟩,_⟩:=I.tuple (kz.of hp);obtain rfl:=xW hv rv;obtain⟨oc,odd,Yz,Gd⟩:=ot;dsimp only at h2 h3;subst h2 h3;exact kia_tup (xV EC) I.kx ⟨o,e1,e2⟩ h1 e (λz=>nomatch z) λtk=>⟨.bl b,H,I.tok tk,rfl,q⟩
end
end L2
namespace L2
open PySem PySem.Spec PyProof.Rows
theorem lD {env:Env}:∀(names:List (Str×NameKind)) (cs:List (Str×Addr)),(∀n,(n,NameKind.free)∈names->∃c,env.cells.lookup n=some c)->(∀x c,cs.lookup x=some c->env.cells.lookup x=some c)->
  ∃cl,(forIn names cs fun(x:Str×NameKind) (r:List (Str×Addr))=>(if (x.2==NameKind.free)=true then do let c <-cellOf env x.1;pure (ForInStep.yield ((x.1,c)::r)) else pure (ForInStep.yield r):Sem (ForInStep (List (Str×Addr)))))=pure cl/\
   (∀x c,cl.lookup x=some c->env.cells.lookup x=some c)/\(∀n,((n,NameKind.free)∈names\/(cs.lookup n).isSome=true)->∃c,cl.lookup n=some c)/\(∀x c,(x,c)∈cl->(env.cells.lookup x=some c/\(x,NameKind.free)∈names)\/(x,c)∈cs)
 | [],cs,_,h=>⟨cs,rfl,h,(λn hn=>by
   rcases hn with hn | hn
   ·exact absurd hn (by simp)
   ·exact Option.isSome_iff_exists.mp hn),λx c m=>.inr m⟩
 | (n,k)::r,cs,hf,h=>by
  by_cases hk:k=.free
  ·subst hk;obtain⟨c,hc⟩:=hf n ZL;obtain⟨cl,e,h1,h2,h3⟩:=lD r ((n,c)::cs) (λm hm=>hf m (ZI _ hm)) (λx c' hx=>by
    rw[ZZ] at hx;cases q:x==n with
    | true=>
     rw[q] at hx;have e1:x=n:=by simpa using q
     cases hx;rw[e1];exact hc
    | false=>rw[q] at hx;exact h x c' hx)
   refine⟨cl,?_,h1,λm hm=>h2 m ?_,λx c' m=>?_⟩
   rotate_left 2
   ·rcases h3 x c' m with ⟨q1,q2⟩ | m
    ·exact .inl ⟨q1,ZI _ q2⟩
    ·rcases aaj.mp m with e | m
     ·cases e;exact .inl ⟨hc,ZL⟩
     ·exact .inr m
   ·rw[List.forIn_cons];have Vd:cellOf env n=pure c:=by unfold cellOf;rw[hc]
    simp only[beq_self_eq_true,if_true,Vd,pure_bind];exact e
   ·rcases hm with hm | hm
    ·rcases aaj.mp hm with z | z
     ·cases z
      right
      rw[ZZ];simp
     ·exact .inl z
    ·right
     rw[ZZ];cases q:m==n with
     | true=>rfl
     | false=>exact hm
  ·obtain⟨cl,e,h1,h2,h3⟩:=lD r cs (λm hm=>hf m (ZI _ hm)) h;refine⟨cl,?_,h1,λm hm=>h2 m ?_,λx c' m=>(h3 x c' m).imp (λq=>⟨q.1,ZI _ q.2⟩) id⟩
   ·rw[List.forIn_cons];have:(k==NameKind.free)=false:=by simpa using hk
    simp only[this,Bool.false_eq_true,if_false,pure_bind];exact e
   ·rcases hm with hm | hm
    ·rcases aaj.mp hm with z | z
     ·cases z;exact absurd rfl hk
     ·exact .inl z
    ·exact .inr hm
theorem kB {env:Env} {scope:Scope} (hf:∀n,(n,NameKind.free)∈scope.names->∃c,env.cells.lookup n=some c):
  ∃cl,closureFor scope env=pure cl/\(∀x c,cl.lookup x=some c->env.cells.lookup x=some c)/\(∀n,(n,NameKind.free)∈scope.names->∃c,cl.lookup n=some c)/\(∀x c,(x,c)∈cl->env.cells.lookup x=some c/\(x,NameKind.free)∈scope.names):=by
 obtain⟨cl,e,h1,h2,h3⟩:=lD (env:=env) scope.names [] hf (λx c h=>by simp at h);refine⟨cl,?_,h1,λn hn=>h2 n (.inl hn),λx c m=>(h3 x c m).elim id λz=>absurd z (by simp)⟩;unfold closureFor;simp only[bind_pure];exact e
structure fP (N:List Str) (so:Scope) (N':List Str) (scope:Scope) (k:Nat) (fr:List Nat):Prop where
 kind:scope.kind=.function
 Kg:∀y∈scope.names,y.2=.cell->scope.names.lookup y.1=some .cell/\(y.1,NameKind.free)∉scope.names
 locs:∀y∈scope.names,y.2=.local->scope.names.lookup y.1=some .local
 outer:∀y∈scope.names,y.2=.free->(so.names.lookup y.1=some .cell\/so.names.lookup y.1=some .free)
 len:N'.length=k+fr.length
 at_:∀t,t<fr.length->(fr[t]?).bind (λj=>N[j]?)=N'[k+t]?
 Qr:∀x∈N'.drop k,scope.names.lookup x=some .free
noncomputable def stC (k:Nat) (fr:List Nat) (σ:St):St:=aaO k none++fr.map λj=>(σ[j]?).join
noncomputable def p6 (X:Cx) (N:List Str) (scope:Scope) (cl:List (Str×Addr)) (C:Addr) (s:Shared) (H:Hp) (ex:List Addr):Cx where
 prog:=X.prog
 w:=X.w
 K:=X.K
 mg:=X.mg
 base:=X.base
 A:=X.A
 N:=N
 s₀:=s
 H₀:=H
 env:=compEnvC scope cl C X.env
 outer:=X.stack
 stack:=X.stack
 ex:=ex
 calm:=X.calm
 fn:=λx=>scope.names.lookup x==some .cell
 pn:=[]
 xe:=λ_ _=>False
theorem fj {env:Env}:∀{names:List (Str×NameKind)} {x:Str},names.lookup x=some .free->
  (names.map fun(n,k)=>if (k==NameKind.free && env.scope.kind==.function && env.kindOf n==some .cell) then (n,NameKind.cell) else (n,k)).lookup x=some .cell\/
  (names.map fun(n,k)=>if (k==NameKind.free && env.scope.kind==.function && env.kindOf n==some .cell) then (n,NameKind.cell) else (n,k)).lookup x=some .free
 | [],_,h=>by simp at h
 | (n,k)::r,x,h=>by
  have ih:=@fj env r x;show List.lookup x ((if (k==NameKind.free && env.scope.kind==.function && env.kindOf n==some .cell)=true then (n,NameKind.cell) else (n,k))::_)=_\/List.lookup x ((if (k==NameKind.free && env.scope.kind==.function && env.kindOf n==some .cell)=true then (n,NameKind.cell) else (n,k))::_)=_;cases hx:x==n with
  | true=>
   simp only[ZZ,hx] at h;cases h
   by_cases hc:(NameKind.free==NameKind.free && env.scope.kind==.function && env.kindOf n==some .cell)=true
   ·rw[if_pos hc];left;simp [ZZ,hx]
   ·rw[if_neg hc];right;simp [ZZ,hx]
  | false=>
   simp only[ZZ,hx] at h
   by_cases hc:(k==NameKind.free && env.scope.kind==.function && env.kindOf n==some .cell)=true
   ·rw[if_pos hc];simp only[ZZ,hx];exact ih h
   ·rw[if_neg hc];simp only[ZZ,hx];exact ih h
theorem mK {env:Env}:∀{names:List (Str×NameKind)} {x:Str},
  ((names.map fun(n,k)=>if (k==NameKind.free && env.scope.kind==.function && env.kindOf n==some .cell) then (n,NameKind.cell) else (n,k)).lookup x=some .cell\/
  (names.map fun(n,k)=>if (k==NameKind.free && env.scope.kind==.function && env.kindOf n==some .cell) then (n,NameKind.cell) else (n,k)).lookup x=some .free)->(x,NameKind.free)∈names\/(x,NameKind.cell)∈names
 | [],_,h=>by simp at h
 | (n,k)::r,x,h=>by
  have ih:=@mK env r x;have up:((x,NameKind.free)∈r\/(x,NameKind.cell)∈r)->((x,NameKind.free)∈(n,k)::r\/(x,NameKind.cell)∈(n,k)::r):=λz=>z.imp (ZI _) (ZI _);have h:List.lookup x ((if (k==NameKind.free && env.scope.kind==.function && env.kindOf n==some .cell)=true then (n,NameKind.cell) else (n,k))::_)=_\/List.lookup x ((if (k==NameKind.free && env.scope.kind==.function && env.kindOf n==some .cell)=true then (n,NameKind.cell) else (n,k))::_)=_:=h;cases hx:x==n with
  | true=>
   have e1:x=n:=by simpa using hx
   subst e1
   by_cases hc:(k==NameKind.free && env.scope.kind==.function && env.kindOf x==some .cell)=true
   ·have:k=.free:=by
     simp only[Z8] at hc
     simpa using hc.1.1
    subst this;exact .inl ZL
   ·rw[if_neg hc] at h;simp only[ZZ,hx] at h;rcases h with h | h
    ·cases h;exact .inr ZL
    ·cases h;exact .inl ZL
  | false=>
   by_cases hc:(k==NameKind.free && env.scope.kind==.function && env.kindOf n==some .cell)=true
   ·rw[if_pos hc] at h;simp only[ZZ,hx] at h;exact up (ih h)
   ·rw[if_neg hc] at h;simp only[ZZ,hx] at h;exact up (ih h)
theorem oq:∀(names:List (Str×NameKind)) (h:Heap) (acc:List (Str×Addr)) (x:Str) (c:Addr),(x,c)∈cellsFrom h.objs.size names acc->
  (x,c)∈acc\/(h.objs.size<=c/\(pushCells h names).IsCell c none/\(x,NameKind.cell)∈names)
 | [],h,acc,x,c,m=>.inl m
 | (n,k)::r,h,acc,x,c,m=>by
  unfold cellsFrom at m;unfold pushCells
  by_cases hk:(k==NameKind.cell)=true
  ·rw[if_pos hk] at m ⊢;have ih:=oq r (h.push {cls:=.type "cell",data:=.cell none}) ((n,h.objs.size)::acc) x c;rw[Heap.size_push] at ih;rcases ih m with m | ⟨q1,q2,q3⟩
   ·rcases aaj.mp m with e | m
    ·cases e;have hk:k=.cell:=by simpa using hk
     subst hk;refine .inr ⟨ZD _,?_,ZL⟩;have q:(h.push {cls:=.type "cell",data:=.cell none}).IsCell h.objs.size none:=⟨_,aaM _ rfl,rfl⟩
     exact q.keeps λb o e=>pushCells_keeps r _ b o e
    ·exact .inl m
   ·exact .inr ⟨by lia,q2,ZI _ q3⟩
  ·rw[if_neg hk] at m ⊢;rcases oq r h acc x c m with m | ⟨q1,q2,q3⟩
   ·exact .inl m
   ·exact .inr ⟨q1,q2,ZI _ q3⟩
theorem ou:∀(names:List (Str×NameKind)) (n lo:Nat) (acc:List (Str×Addr)),(∀x c,(x,c)∈acc->c<n)->(∀x y c,lo<=c->(x,c)∈acc->(y,c)∈acc->x=y)->
  ∀x y c,lo<=c->(x,c)∈cellsFrom n names acc->(y,c)∈cellsFrom n names acc->x=y
 | [],n,lo,acc,h1,h2,x,y,c,hl,m1,m2=>h2 x y c hl m1 m2
 | (z,k)::r,n,lo,acc,h1,h2,x,y,c,hl,m1,m2=>by
  unfold cellsFrom at m1 m2
  by_cases hk:(k==NameKind.cell)=true
  ·rw[if_pos hk] at m1 m2;refine ou r (n+1) lo _ (λx c m=>?_) (λx y c hl m1 m2=>?_) x y c hl m1 m2
   ·rcases aaj.mp m with e | m
    ·cases e;exact aan _
    ·exact Nat.lt_succ_of_lt (h1 x c m)
   ·rcases aaj.mp m1 with e1 | m1 <;>rcases aaj.mp m2 with e2 | m2
    ·cases e1;cases e2;rfl
    ·cases e1;exact absurd (h1 _ _ m2) (Z6 _)
    ·cases e2;exact absurd (h1 _ _ m1) (Z6 _)
    ·exact h2 x y c hl m1 m2
  ·rw[if_neg hk] at m1 m2;exact ou r n lo acc h1 h2 x y c hl m1 m2
theorem ik:∀(names:List (Str×NameKind)) (n:Nat) (acc:List (Str×Addr)) (x:Str),(x,NameKind.cell)∉names->(cellsFrom n names acc).lookup x=acc.lookup x
 | [],n,acc,x,_=>rfl
 | (z,k)::r,n,acc,x,h=>by
  have hr:(x,NameKind.cell)∉r:=λm=>h (ZI _ m);unfold cellsFrom
  by_cases hk:(k==NameKind.cell)=true
  ·rw[if_pos hk,ik r _ _ x hr,ZZ];have hk:k=.cell:=by simpa using hk
   subst hk;have:(x==z)=false:=by
    cases q:x==z with
    | false=>rfl
    | true=>
     have e:x=z:=by simpa using q
     subst e;exact absurd ZL h
   rw[this]
  ·rw[if_neg hk];exact ik r n acc x hr
theorem ox:∀(names:List (Str×NameKind)) (n:Nat) (acc:List (Str×Addr)) (x:Str),((x,NameKind.cell)∈names\/(acc.lookup x).isSome=true)->((cellsFrom n names acc).lookup x).isSome=true
 | [],n,acc,x,h=>by
  rcases h with h | h
  ·simp at h
  ·exact h
 | (z,k)::r,n,acc,x,h=>by
  unfold cellsFrom
  by_cases hk:(k==NameKind.cell)=true
  ·rw[if_pos hk];refine ox r _ _ x ?_;rcases h with h | h
   ·rcases aaj.mp h with e | h
    ·cases e
     right
     rw[ZZ];simp
    ·exact .inl h
   ·right
    rw[ZZ];cases q:x==z with
    | true=>rfl
    | false=>exact h
  ·rw[if_neg hk];refine ox r _ _ x ?_;rcases h with h | h
   ·rcases aaj.mp h with e | h
    ·cases e;exact absurd rfl hk
    ·exact .inl h
   ·exact .inr h
section
variable {M : Model} {A : Around} {E : Value -> Shared -> Prop} {s : Shared}
theorem mL {scope:Scope} {globals:Addr} {closure:List (Str×Addr)} {qual:Str} {func:Option Addr} {code:Value} {outer:Env} {Q:Env->Shared->Prop}
  (hQ:Q (newEnv scope s.heap.objs.size globals (cellsFrom (s.heap.objs.size+1) scope.names closure) qual func code (some outer) builtinsNs)
   {s with heap:=pushCells (s.heap.push {cls:=.type "dict",data:=.dict #[]}) scope.names}):
  wpAny M A (newFunctionEnv scope globals closure [] qual func code (some outer)) Q E s:=by
 simp only[newFunctionEnv,Option.isSome_some,if_true];refine wpAny_bind (wpAny_alloc ?_);refine wpAny_bind (wpAny_layCells _ (λname kind cells=>by cases Ve:kind==NameKind.cell <;>simp [Ve]) _ _ _ _ ?_);rw[show({s with heap:=s.heap.push {cls:=.type "dict",data:=.dict #[]}}:Shared).heap.objs.size=s.heap.objs.size+1 from Heap.size_push ..];refine wpAny_bind ?_;rw[List.forIn_nil];exact wpAny_pure (wpAny_pure hQ)
end
structure Kh (X:Cx) (scope:Scope) (cl:List (Str×Addr)) (lo:Nat) (C:Addr) (h1:Heap):Prop where
 old:∀x c,cl.lookup x=some c->X.env.cells.lookup x=some c\/(lo<=c/\C<c/\h1.IsCell c none)
 inj:∀x y c,C<c->cl.lookup x=some c->cl.lookup y=some c->x=y
 has:∀n,(n,NameKind.free)∈scope.names\/(n,NameKind.cell)∈scope.names->∃c,cl.lookup n=some c
 Qr:∀n,scope.names.lookup n=some .free->∀c,cl.lookup n=some c->X.env.cells.lookup n=some c
 own:∀x c,scope.names.lookup x=some .cell->cl.lookup x=some c->lo<=c
section
variable {X : Cx} {pins : List (Addr × Obj)} {σ : St} {H : Hp} {s : Shared} {N' : List Str} {scope : Scope} {k : Nat} {fr : List Nat} {cl : List (Str × Addr)}
theorem Ki {C:Addr} {fp:List Addr} {h1:Heap} (I:Inv X pins σ H s) (S:fP X.N X.env.scope N' scope k fr) (B:Kh X scope cl s.heap.objs.size C h1)
  (hC:s.heap.objs.size<=C) (f2:∀b∈fp,lB X pins H b) (lt:∀b∈fp,b<s.heap.objs.size):(p6 X N' scope cl C s H fp).Ok where
 mod:=I.ok.mod
 kind:=S.kind
 glob:=I.ok.glob
 blt:=I.ok.blt
 above:=hC
 inj:=λx y c h1 h2=>by
  rcases B.old _ _ h1 with o1 | o1 <;>rcases B.old _ _ h2 with o2 | o2
  ·exact I.ok.inj x y c o1 o2
  ·exact B.inj x y c o2.2.1 h1 h2
  ·exact B.inj x y c o1.2.1 h1 h2
  ·exact B.inj x y c o1.2.1 h1 h2
 has:=λx hx=>B.has x (mK hx)
 JG:=λx c z e=>B.own x c (by
  have z:(scope.names.lookup x==some NameKind.cell)=true:=z
  simpa using z) e
 hd:=I.ok.hd
 frames:=I.ok.frames
 Dl:=.inl rfl
 OL:=λb hb=>⟨ZK (ZR (lt b hb) hC),λx c e=>(B.old _ _ e).elim (λo=>(f2 b hb).2.2.2.2.1 x c o) λo=>Nat.ne_of_gt (ZR (lt b hb) o.1)⟩
 bs:=I.bs
 Dm:=ZN I.ok.Dm I.sz
 zq:=λb o e hb=>by
  rcases(f2 b hb).2.2.2.1 with z | z
  ·exact I.ok.zq b o e z
  ·exact absurd (ZR (aaN e) (ZN I.ok.Dm z)) (Z6 _)
 Cb:=λb hb z=>by
  rcases aaj.mp (I.vC b z) with q | q
  ·exact(f2 b hb).2.1 q
  ·exact(f2 b hb).2.2.1 q
 mr:=I.stack
 Gy:=I.vD
theorem G1 {C:Addr} {fp:List Addr} {h1:Heap} {tk:Nat} {m:Str->Option Value} (I:Inv X pins σ H s) (S:fP X.N X.env.scope N' scope k fr) (B:Kh X scope cl s.heap.objs.size C h1)
  (hC:s.heap.objs.size<=C) (f2:∀b∈fp,lB X pins H b) (lt:∀b∈fp,b<s.heap.objs.size) (old:∀b o,s.heap.get? b=some o->h1.get? b=some o) (hn:h1.Ns C m):
  Inv (p6 X N' scope cl C s H fp) [] (stC k fr σ) H {s with heap:=h1,toks:=tk}:=by
 refine⟨Ki I S B hC f2 lt,rfl,I.bare,Un.kept old,⟨m,hn,λi x v e1 e2 e3=>?_⟩,λx c e=>?_,I.bU.fresh hC,λx c e=>(B.old _ _ e).elim (λo=>I.fR x c o) λo=>I.bU.fresh o.1,λp hp=>absurd (show p∈([]:List (Addr×Obj)) from hp) (by simp),I.bU.kept old,?_⟩
 ·have e1:N'[i]?=some x:=e1;unfold stC at e2
  by_cases hi:i<k
  ·rw[aaA (by simpa using hi),List.getElem?_replicate,if_pos hi] at e2;cases e2
  ·rw[aav (by simpa using hi),List.length_replicate,ZE] at e2;cases q:fr[i - k]? with
   | none=>rw[q] at e2;cases e2
   | some j=>
    rw[q] at e2;have e2:(σ[j]?).join=some v:=ZU e2;have ej:σ[j]?=some (some v):=by
     cases z:σ[j]? with
     | none=>rw[z] at e2;cases e2
     | some o=>rw[z] at e2;exact congrArg some e2
    have qE:i - k<fr.length:=(aaI.mp q).1;have IU:=S.at_ (i - k) qE;rw[q,show k+ (i - k)=i by lia,e1] at IU;have IU:X.N[j]?=some x:=IU;have Vf:x∈N'.drop k:=List.mem_iff_getElem?.mpr ⟨i - k,by rw[List.getElem?_drop,show k+ (i - k)=i by lia];exact e1⟩;have Qs:=S.Qr x Vf;have D3:(x,NameKind.free)∈scope.names:=aah Qs;have Nc:=S.outer _ D3 rfl;obtain⟨m0,YA,Vg⟩:=I.loc;obtain⟨u,r,l⟩:=Vg j x v IU ej (.inr Nc);refine⟨u,r,.inr ⟨fj Qs,?_⟩⟩;rcases l with ⟨kk,_⟩ | ⟨_,c,e,z⟩
    ·have kk:X.env.scope.names.lookup x=some .local:=kk;rcases Nc with q1 | q1
     ·rw[kk] at q1;cases q1
     ·rw[kk] at q1;cases q1
    ·obtain⟨c',e'⟩:=B.has x (.inl D3);have ec:=B.Qr x Qs _ e';rw[e] at ec;cases ec;obtain⟨ob,ho,hd⟩:=z;exact⟨c,e',ob,old _ _ ho,hd⟩
 ·rcases B.old _ _ e with o | o
  ·obtain⟨v,ob,ho,hd⟩:=I.cell x c o;exact⟨v,ob,old _ _ ho,hd⟩
  ·exact⟨none,o.2.2⟩
 ·unfold stC;rw[ZJ,List.length_replicate,ZA];exact S.len.symm
end
section
variable {prog : Program} {w : World} {A : Around} {E : Value -> Shared -> Prop} {R : Result -> Shared -> Prop} {s : Shared}
theorem iZ {elt target iter:Expr} {ifs:List Expr} {scope:Scope} {pos:Pos} {it acc:Value} {env:Env} (I:Nat->Shared->Prop)
  (turn:∀n s,I n s->wpAny (model prog w) A (pyNext it) (λr s₁=>match r with
   | none=>R (.ok .next) s₁
   | some v=>wpAny (model prog w) A (letOwnedTupleGo target it v) (λ_ SR=>wpAny (model prog w) A (assign target env v) (λ_ s₂=>
     wpAny (model prog w) A (forIn ifs true λc r=>if r=true then do let ok <-isTrue c env (eval c env);pure (ForInStep.yield ok) else pure (ForInStep.yield r)) (λok s₃=>
      if ok=true then wpAny (model prog w) A (eval elt env) (λx s₄=>
       wpAny (model prog w) A (call (.builtin "list.append") [acc,x]) (λ_ s₅=>∃m,m<n/\I m s₅) (λ_ _=>False) s₄) (notedBy (model prog w) A env λx s'=>R (.error x) s') s₃
      else ∃m,m<n/\I m s₃) (λ_ _=>False) s₂) (λ_ _=>False) SR) (λ_ _=>False) s₁) (λ_ _=>False) s)
  (n:Nat) (h:I n s):
  codeAny (model prog w) A (.compLoop (.ListComp elt [⟨target,iter,ifs,0⟩] scope pos) 0 it acc env) R s:=by
 refine codeAny_loop rfl I (λn s hI=>?_) n h;show wpAny _ A ((compTurn (.ListComp elt [⟨target,iter,ifs,0⟩] scope pos) 0 it acc env).onRaise (λx=>do noteFrame x env;theTreesLotGoes x)) _ _ s;refine wpAny_noted ?_;rw[compTurn_list];refine wpAny_bind (wpAny_standAt (wpAny_bind (wpAny_mono (turn n s hI) (λr s₁ h₁=>?_) λ_ _ h'=>h'.elim)));cases r with
 | none=>exact wpAny_pure h₁
 | some v=>
  refine wpAny_bind (wpAny_mono h₁ (λ_ SR Vh=>?_) λ_ _ h'=>h'.elim);refine wpAny_bind (wpAny_mono Vh (λ_ s₂ h₂=>wpAny_bind (wpAny_mono h₂ (λok s₃ h₃=>?_) λ_ _ h'=>h'.elim)) λ_ _ h'=>h'.elim);cases ok with
  | false=>exact wpAny_pure ⟨rfl,h₃⟩
  | true=>
   exact wpAny_bind (wpAny_bind (wpAny_mono h₃ (λx s₄ h₄=>wpAny_bind (wpAny_mono h₄ (λ_ s₅ h₅=>wpAny_pure (wpAny_pure ⟨rfl,h₅⟩)) λ_ _ h'=>h'.elim)) λ_ _ h'=>h'))
end
noncomputable def Kj (X:Cx) (ifs:List Expr) (t:TT):Prop:=
 ∀(pins:List (Addr×Obj)) (s:Shared) (σ:St) (H:Hp) (Q:Bool->Hp->Prop),Inv X pins σ H s->t σ H Q->
  wpAny (model X.prog X.w) X.A (forIn ifs true λc r=>if r=true then do let ok <-isTrue c X.env (eval c X.env);pure (ForInStep.yield ok) else pure (ForInStep.yield r)) (TP X pins σ Q) X.xe s
noncomputable def t7:TT:=λ_ H Q=>Q true H
theorem dH {X:Cx}:Kj X [] t7:=λ_ _ _ H _ I h=>wpAny_tests_nil ⟨H,I,h⟩
theorem eF {X:Cx} {c:Expr} {t:TT} (h:PT X c t):Kj X [c] t:=λpins s σ H Q I hq=>wpAny_tests_one (h pins s σ H Q I hq)
section
variable {X : Cx}
noncomputable def fV (J:It) (g:TG) (tc:TT) (te:TE) (σ0:St) (H1:Hp) (fin:List V->Hp->Prop):Prop:=
 ∃W:Nat->Nat->List V->St->Hp->Prop,(∃m,W 0 m [] σ0 H1)/\∀i m ys σ2 H2,W i m ys σ2 H2->
  (J.stop i H2/\fin ys H2)\/
  (J.go i H2/\∀x H3,J.Cf i H2 x H3->g x σ2 H3 λσ3 H4=>tc σ3 H4 λb H5=>if b=true then te σ3 H5 λy H6=>ys.length<sizeLine/\∃m',m'<m/\W (i+1) m' (ys++ [y]) σ3 H6 else ∃m',m'<m/\W (i+1) m' ys σ3 H5)
noncomputable def fW (bg:List Value) (n:Nat):Obj:={cls:=.type "list",data:=.seq bg.toArray n}
theorem D4 {elt target iter:Expr} {ifs:List Expr} {scope:Scope} {pos:Pos} {g:TG} {tc:TT} {te:TE} {k:Nat} {fr:List Nat} {N':List Str} {cl:List (Str×Addr)} {pins:List (Addr×Obj)} {σ:St} {H2:Hp} {s2:Shared}
  {it:Addr} {fp:List Addr} {tn:Nat->Heap->Prop} {J:It} {fin:List V->Hp->Prop} {R0:Result->Shared->Prop} {XE:List (Str×Addr)->Addr->Shared->Hp->List Addr->Value->Shared->Prop}
  (hc:X.calm=true) (S:fP X.N X.env.scope N' scope k fr) (c1:∀x c,cl.lookup x=some c->X.env.cells.lookup x=some c) (c2:∀n,(n,NameKind.free)∈scope.names->∃c,cl.lookup n=some c) (cin:∀x c,(x,c)∈cl->∃y,X.env.cells.lookup y=some c) (OY:∀x,(x,NameKind.cell)∈scope.names->∀c,(x,c)∉cl)
  (hg:∀cl C s H ex,PG (p6 X N' scope cl C s H ex) target g) (ht:∀cl C s H ex,Kj (p6 X N' scope cl C s H ex) ifs tc) (he:∀cl C s H ex,PE ((p6 X N' scope cl C s H ex).iR (XE cl C s H ex)) elt te)
  (I2:Inv X pins σ H2 s2) (T:Turn X.prog X.w X.K target J fp it tn) (zw:tn 0 s2.heap) (f2:∀b∈fp,lB X pins H2 b) (hb:fV J g tc te (stC k fr σ) H2 fin)
  (hR:∀(C:Addr),C=(s2.heap.push {cls:=.type "list",dict:=none,data:=.seq ([]:List Value).toArray}).objs.size->∀(s':Shared) (m:Str->Option Value) (ys:List V) (bg:List Value) (n:Nat) (H':Hp),s2.heap.objs.size<C->s'.heap.Ns C m->bC ys bg->ys.length<=sizeLine->s'.heap.get? s2.heap.objs.size=some (fW bg n)->H' s2.heap.objs.size=none->H' C=none->fin ys H'->
   s'.os=s2.os->AllBare s'.gens->Un (gy X.stack) fp H2 H' s2.heap s'.heap->gR X.prog X.w H' s'.heap->R0 (.ok .next) s')
  (hE:∀cl C x s',C=(s2.heap.push {cls:=.type "list",dict:=none,data:=.seq ([]:List Value).toArray}).objs.size->s2.heap.objs.size<C->XE cl C s2 H2 fp x s'->notedBy (model X.prog X.w) X.A (compEnvC scope cl C X.env) (λy zI=>R0 (.error y) zI) x s'):
  codeAny (model X.prog X.w) X.A (.compStart (.ListComp elt [⟨target,iter,ifs,0⟩] scope pos) 0 (.ref it) (.ref s2.heap.objs.size) (compEnvC scope (cellsFrom ((s2.heap.push {cls:=.type "list",dict:=none,data:=.seq ([]:List Value).toArray}).objs.size+1) scope.names cl) (s2.heap.push {cls:=.type "list",dict:=none,data:=.seq ([]:List Value).toArray}).objs.size X.env)) R0 {s2 with heap:=pushCells ((s2.heap.push {cls:=.type "list",dict:=none,data:=.seq ([]:List Value).toArray}).push {cls:=.type "dict",data:=.dict #[]}) scope.names}:=by
 obtain⟨W,⟨m0,w0⟩,turn⟩:=hb;have lt:∀b∈fp,b<s2.heap.objs.size:=λb hb=>by
  obtain⟨o,e,_⟩:=T.obj _ _ zw b hb;exact aaN e
 generalize zi:s2.heap.push {cls:=.type "list",dict:=none,data:=.seq ([]:List Value).toArray}=G2 at hR hE ⊢;have Md:G2.objs.size=s2.heap.objs.size+1:=by rw[<-zi,Heap.size_push]
 have SS:s2.heap.objs.size≠G2.objs.size:=by rw[Md];exact ZK (aan _)
 have hC:s2.heap.objs.size<=G2.objs.size:=by rw[Md];exact Nat.le_succ _
 have old:∀b o,s2.heap.get? b=some o->(pushCells (G2.push {cls:=.type "dict",data:=.dict #[]}) scope.names).get? b=some o:=λb o e=>by
  refine pushCells_keeps _ _ b o (aaL _ ?_);rw[<-zi];exact aaL _ e
 have zX:(pushCells (G2.push {cls:=.type "dict",data:=.dict #[]}) scope.names).get? s2.heap.objs.size=some (fW [] 0):=by
  refine pushCells_keeps _ _ _ _ (aaL _ ?_);rw[<-zi];exact aaM _ rfl
 have Qt:(pushCells (G2.push {cls:=.type "dict",data:=.dict #[]}) scope.names).Ns G2.objs.size λ_=>none:=(Heap.Ns.new G2 (.type "dict")).keeps (pushCells_keeps _ _);have OZ:∀x c,(x,c)∈cl->c<G2.objs.size+1:=λx c m=>by
  obtain⟨y,hy⟩:=cin x c m;obtain⟨v,q⟩:=I2.cell y c hy;rw[Md];exact Nat.lt_succ_of_lt (Nat.lt_succ_of_lt q.lt)
 have B:Kh X scope (cellsFrom (G2.objs.size+1) scope.names cl) s2.heap.objs.size G2.objs.size (pushCells (G2.push {cls:=.type "dict",data:=.dict #[]}) scope.names):=by
  have own:=oq scope.names (G2.push {cls:=.type "dict",data:=.dict #[]}) cl;rw[Heap.size_push] at own;refine⟨λx c e=>?_,λx y c hc h1 h2=>?_,λn hn=>?_,λn hn c e=>?_,λx c hx e=>?_⟩
  ·by_cases hx:(x,NameKind.cell)∈scope.names
   ·rcases own x c (aah e) with m | ⟨q1,q2,_⟩
    ·
     exfalso;exact OY x hx c m
    ·exact .inr ⟨ZN hC (Nat.le_of_succ_le q1),q1,q2⟩
   ·rw[ik _ _ _ _ hx] at e;exact .inl (c1 x c e)
  ·exact ou scope.names (G2.objs.size+1) (G2.objs.size+1) cl OZ (λx y c hl m1 _=>absurd (OZ x c m1) (Nat.not_lt.mpr hl)) x y c hc (aah h1) (aah h2)
  ·refine Option.isSome_iff_exists.mp (ox _ _ _ n ?_);rcases hn with hn | hn
   ·obtain⟨c,e⟩:=c2 n hn;exact .inr (by rw[e];rfl)
   ·exact .inl hn
  ·have hx:(n,NameKind.cell)∉scope.names:=λm=>by
    have:=(S.Kg _ m rfl).1;rw[hn] at this;cases this
   rw[ik _ _ _ _ hx] at e;exact c1 n c e
  ·have hx:=aah hx;rcases own x c (aah e) with m | ⟨q1,q2,_⟩
   ·exact absurd m (OY x hx c)
   ·exact ZN hC (Nat.le_of_succ_le q1)
 generalize pushCells (G2.push {cls:=.type "dict",data:=.dict #[]}) scope.names=h₁ at *;generalize cellsFrom (G2.objs.size+1) scope.names cl=xr at *;generalize Kk:s2.heap.objs.size=D at *;generalize YB:G2.objs.size=C at *;have fD:H2 D=none:=by rw[<-Kk];exact I2.bU.fresh (ZD _)
 have cells:∀x c,xr.lookup x=some c->c≠D:=λx c e=>by
  rcases B.old _ _ e with o | o
  ·obtain⟨v,q⟩:=I2.cell x c o;rw[<-Kk];exact ZK q.lt
  ·exact Nat.ne_of_gt (Nat.lt_trans (by rw[Md];exact aan _) o.2.1)
 have loop:∀(II:Addr) (s3:Shared),II=it->(∃tk,s3={s2 with heap:=h₁,toks:=tk})->
   codeAny (model X.prog X.w) X.A (.compLoop (.ListComp elt [⟨target,iter,ifs,0⟩] scope pos) 0 (.ref II) (.ref D) (compEnvC scope xr C X.env)) R0 s3:=by
  rintro II s3 rfl ⟨tk,rfl⟩;have I3:Inv (p6 X N' scope xr C s2 H2 fp) [] (stC k fr σ) H2 {s2 with heap:=h₁,toks:=tk}:=G1 I2 S (by rw[Kk];exact B) (by rw[Kk];exact hC) f2 (by rw[Kk];exact lt) old Qt;have zx:∀{H':Hp} {o:Obj},(∀b∈fp,H' b=none)->∀b∈fp,lB (p6 X N' scope xr C s2 H2 fp) [(D,o)] H' b:=λ{H' o} hn b hb=>
   ⟨hn b hb,ZK (ZR (lt b hb) hC),λz=>by
    rcases aaj.mp (I2.vC b z) with q | q
    ·exact(f2 b hb).2.1 q
    ·exact(f2 b hb).2.2.1 q,.inl hb,λx c e=>(B.old _ _ e).elim (λo=>(f2 b hb).2.2.2.2.1 x c o) (λo=>Nat.ne_of_gt (ZR (lt b hb) o.1)),λp hp=>by
    have e:p=(D,o):=by simpa [p6] using hp
    rw[e];exact Nat.ne_of_gt (lt b hb)⟩
  have Qu:∀{σ':St} {H':Hp} {s':Shared} {o:Obj},Inv (p6 X N' scope xr C s2 H2 fp) [] σ' H' s'->s'.heap.get? D=some o->H' D=none->(∀v,o.data≠.cell v)->Inv (p6 X N' scope xr C s2 H2 fp) [(D,o)] σ' H' s':=λ{σ' H' s' o} I' e n hd=>
   I'.mv λp hp=>by
    have q:p=(D,o):=by simpa using hp
    subst q;refine⟨e,n,SS,λz=>?_,hd⟩;obtain⟨_,ob,ho,_⟩:=I2.stack.mem z;exact absurd (aaN ho) (by rw[Kk];exact Z6 _)
  have Vi:∀{bg:List Value} {n:Nat} (v:Option Value),(fW bg n).data≠.cell v:=λv z=>by
   have z:Data.seq _ _=Data.cell v:=z;cases z
  refine iZ (λn s'=>∃i ys σ' H' bg G3,Inv (p6 X N' scope xr C s2 H2 fp) [] σ' H' s'/\tn i s'.heap/\(∀b∈fp,H' b=none)/\s'.heap.get? D=some (fW bg G3)/\H' D=none/\bC ys bg/\ys.length<=sizeLine/\W i n ys σ' H') ?_ m0
   ⟨0,[],_,H2,[],0,I3,T.keep _ _ _ zw (λb _ o e=>old b o e),λb hb=>(f2 b hb).1,zX,fD,.nil,ZM _,w0⟩
  rintro n s4 ⟨i,ys,σ4,H4,bg,G3,I4,SU,SV,Vj,SW,O0,SX,w4⟩;have SY:=Qu I4 Vj SW Vi;rcases turn i n ys σ4 H4 w4 with ⟨stop,qf⟩ | ⟨go,step⟩
  ·refine cG (T.done (p6 X N' scope xr C s2 H2 fp) rfl rfl rfl hc i _ s4 σ4 H4 _ SY (zx SV) SU stop) λr s5 ⟨hr,I5⟩=>?_;subst hr;obtain⟨m5,Vk,_⟩:=I5.loc;exact hR C rfl s5 m5 ys bg G3 H4 (by rw[Md];exact aan _) Vk O0 SX (I5.pin (D,fW bg G3) (Z0 _ ZL)).1 SW I5.free qf I5.os I5.bare I5.base I5.bU
  ·refine cG (T.item (p6 X N' scope xr C s2 H2 fp) rfl rfl rfl hc i _ s4 σ4 H4 _ SY (zx SV) SU go) λr s5 ⟨u,hr,h5⟩=>?_;subst hr;refine cG h5 λ_ s6 dC=>?_;obtain⟨x,H6,I6,r6,y6,Qv,Vl⟩:=dC;have Vm:=I6.pinned (zx Vl) (T.obj _ _ Qv);refine cG (hg xr C s2 H2 fp _ s6 σ4 H6 x u _ Vm r6 (step x H6 y6)) λ_ s7 ⟨σ7,H7,I7,q7⟩=>?_;refine cG (ht xr C s2 H2 fp _ s7 σ7 H7 _ I7 q7) λok s8 ⟨H8,I8,q8⟩=>?_;have back:∀{σ':St} {H':Hp} {s':Shared},Inv (p6 X N' scope xr C s2 H2 fp) ([(D,fW bg G3)]++qY fp s6.heap) σ' H' s'->tn (i+1) s'.heap/\(∀b∈fp,H' b=none)/\s'.heap.get? D=some (fW bg G3)/\H' D=none:=λ{σ' H' s'} I'=>by
    have pD:=I'.pin (D,fW bg G3) (Z0 _ (aat _ (by simp)));refine⟨T.keep _ _ _ Qv λb hb o e=>(I'.pin (b,o) (Z0 _ (Z0 _ (ig hb e)))).1,λb hb=>?_,pD.1,pD.2.1⟩;obtain⟨o,e,d⟩:=T.obj _ _ Qv b hb;exact(I'.pin (b,o) (Z0 _ (Z0 _ (ig hb e)))).2.1
   cases ok with
   | false=>
    rw[if_neg ZO];rw[if_neg ZO] at q8;obtain⟨m',hm,w8⟩:=q8;obtain⟨b1,b2,b3,b4⟩:=back I8;exact⟨m',hm,i+1,ys,σ7,H8,bg,G3,I8.mv (λp hp=>absurd hp (by simp)),b1,b2,b3,b4,O0,SX,w8⟩
   | true=>
    rw[if_pos rfl];rw[if_pos rfl] at q8;refine wpAny_mono (he xr C s2 H2 fp _ s8 σ7 H8 _ (I8.iR _) q8) (λy s9 ⟨z,H9,I9,r9,qE,m',hm,w9⟩=>?_) λx s' hx=>hE xr C x s' rfl (by rw[Md];exact aan _) hx;have I9:=I9.d8;obtain⟨b1,b2,b3,b4⟩:=back I9;have hl:=O0.length;refine call_meets F.slot_list_append ⟨_,b3,rfl⟩ F.entry_list_append (F.args_list_append_2 _ _) (PySem.list_append D bg.toArray G3 y (by rw[ZF];lia)) ⟨b3,?_⟩;obtain⟨c',q⟩:∃c',(s9.heap.update D (Obj.mapSeq λx=>x.push y)).get? D=some (fW (bg++ [y]) c'):=by
     have q:=PySem.IsL.update b3 (λx=>x.push y);rw[show bg.toArray.push y=(bg++ [y]).toArray by simp] at q;exact⟨_,q⟩
    have Vn:Inv (p6 X N' scope xr C s2 H2 fp) [] σ7 H9 s9:=I9.mv (λp hp=>absurd hp (by simp));have kp:∀b o,b≠D->s9.heap.get? b=some o->(s9.heap.update D (Obj.mapSeq λx=>x.push y)).get? b=some o:=λb o hb e=>(Heap.get?_update_other s9.heap (Obj.mapSeq λx=>x.push y) (Ne.symm hb)).trans e;have GY:=Vn.turned (t':=s9.toks) (it:=D) (h':=s9.heap.update D (Obj.mapSeq λx=>x.push y)) kp b4 SS (.inr (by show s2.heap.objs.size<=D;rw[Kk];exact ZD _)) (λx c e=>cells x c e) (λp hp=>absurd hp (by simp [p6]));refine⟨m',hm,i+1,ys++ [z],σ7,H9,bg++ [y],c',GY,T.keep _ _ _ b1 (λb hb o e=>kp b o (ZK (lt b hb)) e),b2,q,b4,O0.append (.cons r9 .nil),?_,w9⟩
    ·rw[ZJ,aao];lia
 exact codeAny_compStart_list (loop it _ rfl ⟨_,rfl⟩) (T.self _ 0 _ _ _ (T.keep _ _ _ zw (λb _ o e=>old b o e)) (loop it _ rfl ⟨_,rfl⟩))
theorem vc {elt target iter:Expr} {ifs:List Expr} {scope:Scope} {pos:Pos} {g:TG} {tc:TT} {te:TE} {k:Nat} {fr:List Nat} {N':List Str} {cl:List (Str×Addr)} {pins:List (Addr×Obj)} {σ:St} {H2:Hp} {s2:Shared}
  {it:Addr} {fp:List Addr} {tn:Nat->Heap->Prop} {J:It} {E:Value->Shared->Prop} {fin:List V->Hp->Prop} {RR:Value->Addr->Result->Shared->Prop} {XE:List (Str×Addr)->Addr->Shared->Hp->List Addr->Value->Shared->Prop}
  (hc:X.calm=true) (S:fP X.N X.env.scope N' scope k fr) (c1:∀x c,cl.lookup x=some c->X.env.cells.lookup x=some c) (c2:∀n,(n,NameKind.free)∈scope.names->∃c,cl.lookup n=some c) (cin:∀x c,(x,c)∈cl->∃y,X.env.cells.lookup y=some c) (OY:∀x,(x,NameKind.cell)∈scope.names->∀c,(x,c)∉cl)
  (hg:∀cl C s H ex,PG (p6 X N' scope cl C s H ex) target g) (ht:∀cl C s H ex,Kj (p6 X N' scope cl C s H ex) ifs tc) (he:∀cl C s H ex,PE ((p6 X N' scope cl C s H ex).iR (XE cl C s H ex)) elt te)
  (I2:Inv X pins σ H2 s2) (T:Turn X.prog X.w X.K target J fp it tn) (zw:tn 0 s2.heap) (f2:∀b∈fp,lB X pins H2 b) (hb:fV J g tc te (stC k fr σ) H2 fin)
  (hR:∀(C:Addr) (s':Shared) (m:Str->Option Value) (ys:List V) (bg:List Value) (n:Nat) (H':Hp),s2.heap.objs.size<C->s'.heap.Ns C m->bC ys bg->ys.length<=sizeLine->s'.heap.get? s2.heap.objs.size=some (fW bg n)->H' s2.heap.objs.size=none->H' C=none->fin ys H'->
   s'.os=s2.os->AllBare s'.gens->Un (gy X.stack) fp H2 H' s2.heap s'.heap->gR X.prog X.w H' s'.heap->RR (.ref s2.heap.objs.size) C (.ok .next) s')
  (hE:∀cl C x s',s2.heap.objs.size<C->XE cl C s2 H2 fp x s'->notedBy (model X.prog X.w) X.A (compEnvC scope cl C X.env) (λy zI=>RR (.ref s2.heap.objs.size) C (.error y) zI) x s'):
  wpAny (model X.prog X.w) X.A (newList []) (λacc s₃=>wpAny (model X.prog X.w) X.A (newFunctionEnv scope X.env.globals cl [] X.env.qual none .none (some X.env)) (λNd s₄=>
   codeAny (model X.prog X.w) X.A (.compStart (.ListComp elt [⟨target,iter,ifs,0⟩] scope pos) 0 (.ref it) acc {Nd with scope:=relabel scope X.env}) (RR acc Nd.locals) s₄) E s₃) E s2:=by
 refine wpAny_newObj_type (mL ?_);exact D4 (R0:=RR _ _) hc S c1 c2 cin OY hg ht he I2 T zw f2 hb (λC e=>by subst e;exact hR _) (λcl C x s' e=>by subst e;exact hE cl _ x s')
theorem comp_back {fp:List Addr} {pins:List (Addr×Obj)} {σ:St} {H2 H':Hp} {s2 s':Shared} {C:Addr} {ys:List V} {bg:List Value} {n:Nat} {h':Heap} (I2:Inv X pins σ H2 s2) (f2:∀b∈fp,lB X pins H2 b) (hC:s2.heap.objs.size<C)
  (vl:bC ys bg) (sz:ys.length<=sizeLine) (hD:s'.heap.get? s2.heap.objs.size=some (fW bg n)) (nD:H' s2.heap.objs.size=none) (nC:H' C=none)
  (os:s'.os=s2.os) (bare:AllBare s'.gens) (un:Un (gy X.stack) fp H2 H' s2.heap s'.heap) (bU:gR X.prog X.w H' s'.heap) (hs:Heap.SameBut C s'.heap h'):
  Inv X pins σ (upd H' s2.heap.objs.size (.lst ys)) {s' with heap:=h'}:=by
 have Qw:∀b o,s2.heap.get? b=some o->b≠C:=λb o e=>ZK (Nat.lt_trans (aaN e) hC);have Vo:∀b o,s2.heap.get? b=some o->b≠s2.heap.objs.size:=λb o e=>ZK (aaN e);have tk:∀b u,H' b=some u->b≠s2.heap.objs.size:=λb u e z=>by rw[z,nD] at e;cases e
 have tC:∀b u,H' b=some u->b≠C:=λb u e z=>by rw[z,nC] at e;cases e
 have fD:H2 s2.heap.objs.size=none:=I2.bU.fresh (ZD _);have t2:∀b u,H2 b=some u->b≠s2.heap.objs.size:=λb u e z=>by rw[z,fD] at e;cases e
 refine I2.IF (s':={s' with heap:=h'}) (ch:=fp) os ⟨λb o e m hb hx=>?_,λb o e m hb hx=>?_,λb o e m hx=>?_,λb o e hx=>?_,λb xs e=>?_,λb o u e=>?_,λb ps e=>?_⟩ (λb u e=>?_) bare λb hb=>?_
 ·exact(hs.2 b (Qw b o e)).trans (un.keep b o e m hb hx)
 ·obtain⟨sl,q⟩:=un.slot b o e m hb hx;exact⟨sl,(hs.2 b (Qw b o e)).trans q⟩
 ·rw[aw (Vo b o e)];exact un.free b o e m hx
 ·obtain⟨o',q⟩:=un.there b o e hx;exact⟨o',(hs.2 b (Qw b o e)).trans q⟩
 ·rw[aw (t2 b _ e)];exact un.iV b xs e
 ·rw[aw (t2 b _ e)];exact un.iQ b o u e
 ·obtain⟨mo,q⟩:=un.jP b ps e;exact⟨mo,by rw[aw (t2 b _ e)];exact q⟩
 ·by_cases hb:b=s2.heap.objs.size
  ·subst hb;rw[aj] at e;cases e;exact⟨sz,bg,n,vl,(hs.2 _ (ZK hC)).trans hD⟩
  ·rw[aw hb] at e;exact(bU b u e).qV (λc v hc q=>(hs.2 c (by
    rcases hc with rfl | hc
    ·exact tC _ _ e
    ·exact tC _ _ hc)).trans q) (λc r=>by rw[aw (tk _ _ r)];exact r) λc xs r=>by rw[aw (tk _ _ r)];exact r
 ·exact⟨(f2 b hb).2.2.2.1,(f2 b hb).2.1,(f2 b hb).2.2.2.2.1,(f2 b hb).2.2.2.2.2⟩
noncomputable def tComp (wi:TI) (g:TG) (tc:TT) (te:TE) (k:Nat) (fr:List Nat):TE:=λσ H Q=>wi σ H λJ H1=>fV J g tc te (stC k fr σ) H1 λys H2=>∀D,H1 D=none->H2 D=none->Q (.ref D) (upd H2 D (.lst ys))
theorem cO {elt target iter:Expr} {ifs:List Expr} {scope so:Scope} {pos:Pos} {wi:TI} {g:TG} {tc:TT} {te:TE} {k:Nat} {fr:List Nat} {N N':List Str} (hc:X.calm=true) (hN:X.N=N) (Me:X.env.scope=so) (S:fP N so N' scope k fr)
  (hi:PI X target iter wi) (hg:∀cl C s H ex,PG (p6 X N' scope cl C s H ex) target g) (ht:∀cl C s H ex,Kj (p6 X N' scope cl C s H ex) ifs tc) (he:∀cl C s H ex,PE (p6 X N' scope cl C s H ex) elt te)
  (hs:∀x,foldedSetIterable iter X.env x=pure x:=by intro _;rfl):PE X (.ListComp elt [⟨target,iter,ifs,0⟩] scope pos) (tComp wi g tc te k fr):=by
 subst hN Me;intro pins s σ H Q I h;rw[eval_ListComp];obtain⟨cl,fX,c1,c2,c3⟩:=kB (env:=X.env) (scope:=scope) λn hn=>I.ok.has n (S.outer _ hn rfl);refine wpAny_comprehension_free (use:=none) (cl:=cl) rfl hs fX S.kind S.locs ?_;refine cG (hi pins s σ H _ I h) λv s1 h1=>cG h1 λII s2 h2=>?_;obtain⟨it,fp,tn,J,H2,rfl,I2,T,zw,f2,hb⟩:=h2;refine vc (RR:=λacc C=>compPost (model X.prog X.w) X.A X.xe none (EP X pins σ Q) acc C) hc S c1 c2 (λx c m=>⟨x,(c3 x c m).1⟩) (λx hx c m=>(S.Kg _ hx rfl).2 (c3 x c m).2) (XE:=λ_ _ _ _ _ _ _=>False) hg ht he I2 T zw f2 hb ?_ (λ_ _ _ _ _ z=>False.elim z);intro C s' m ys bg n H' hC hn vl sz hD nD nC fin os bare un bU;exact⟨m,hn,λh' Nf=>⟨.ref _,_,comp_back I2 f2 hC vl sz hD nD nC os bare un bU Nf,rfl,fin _ (I2.bU.fresh (ZD _)) nD⟩⟩
theorem jI {elt target iter:Expr} {ifs:List Expr} {scope so:Scope} {pos Ng py:Pos} {wi:TI} {g:TG} {tc:TT} {te:TE} {k:Nat} {fr:List Nat} {N N':List Str} {y:Str} {i:Nat} (hc:X.calm=true) (hN:X.N.Nodup) (hy:X.N[i]?=some y) (hl:X.env.scope.names.lookup y=some .local)
  (Vp:X.N=N) (Me:X.env.scope=so) (S:fP N so N' scope k fr)
  (hi:PI X target iter wi) (hg:∀cl C s H ex,PG (p6 X N' scope cl C s H ex) target g) (ht:∀cl C s H ex,Kj (p6 X N' scope cl C s H ex) ifs tc) (he:∀cl C s H ex,PE (p6 X N' scope cl C s H ex) elt te)
  (Qx:swapsWith (.ListComp elt [⟨target,iter,ifs,0⟩] scope pos) (some (.Name y py)) Ng.line X.env=pure true:=by rfl)
  (hs:∀x,foldedSetIterable iter X.env x=pure x:=by intro _;rfl):PS X (.Assign [.Name y py] (.ListComp elt [⟨target,iter,ifs,0⟩] scope pos) Ng) (tAsg (tComp wi g tc te k fr) (gName i)):=by
 subst Vp Me;intro pins s σ H D I h;rw[exec_Assign_Name_used _ _ _ _ Qx];obtain⟨cl,fX,c1,c2,c3⟩:=kB (env:=X.env) (scope:=scope) λn hn=>I.ok.has n (S.outer _ hn rfl);refine wpAny_bind (wpAny_standAt (wpAny_bind ?_));show wpAny _ X.A (do let _ <-comprehension (.ListComp elt [⟨target,iter,ifs,0⟩] scope pos) scope X.env _ (newList []) false (eval iter X.env) (some (assign (.Name y py) X.env))) _ _ s;refine wpAny_bind (wpAny_mono (wpAny_comprehension_free (use:=some (assign (.Name y py) X.env)) (Q:=λ_ s'=>SP X pins D .next s') (cl:=cl) rfl hs fX S.kind S.locs ?_) (λ_ s' hq=>wpAny_pure (wpAny_pure hq)) λ_ _ e=>e);refine cG (hi pins s σ H _ I h) λv s1 h1=>cG h1 λII s2 h2=>?_;obtain⟨it,fp,tn,J,H2,rfl,I2,T,zw,f2,hb⟩:=h2;refine vc (RR:=λacc C=>compPost (model X.prog X.w) X.A X.xe (some (assign (.Name y py) X.env)) (λ_ s'=>SP X pins D .next s') acc C) hc S c1 c2 (λx c m=>⟨x,(c3 x c m).1⟩) (λx hx c m=>(S.Kg _ hx rfl).2 (c3 x c m).2) (XE:=λ_ _ _ _ _ _ _=>False) hg ht he I2 T zw f2 hb ?_ (λ_ _ _ _ _ z=>False.elim z);intro C s' m ys bg n H' hC hn vl sz hD nD nC fin os bare un bU;have I3:Inv X pins σ (upd H' s2.heap.objs.size (.lst ys)) s':=comp_back (h':=s'.heap) I2 f2 hC vl sz hD nD nC os bare un bU (.refl ..);refine wpAny_assign_Name (uX (v:=.ref s2.heap.objs.size) I3 hN hy (.inl hl) rfl (λs4 I4 ch=>?_) (.inr hl));have S0:X.env.locals<s2.heap.objs.size:=I2.lt;obtain⟨a,gQ,ha⟩:=ch;have aC:a≠C:=by
  rcases ha with rfl | ha
  ·exact ZK (Nat.lt_trans S0 hC)
  ·obtain⟨v,q⟩:=I2.cell _ _ ha;exact ZK (Nat.lt_trans q.lt hC)
 refine⟨m,hn.sameBut gQ (Ne.symm aC),λh' Nf=>⟨_,_,?_,fin _ (I2.bU.fresh (ZD _)) nD⟩⟩;have Vq:(upd H' s2.heap.objs.size (.lst ys)) C=none:=by rw[aw (Nat.ne_of_gt hC)];exact nC
 exact I4.turned (t':=s4.toks) (it:=C) (h':=h') (λb o hb e=>(Nf.2 b hb).trans e) Vq (Nat.ne_of_gt (Nat.lt_trans S0 hC)) (.inr (ZN I2.sz (Nat.le_of_lt hC))) (λx c e z=>by
  obtain⟨v,q⟩:=I2.cell x c e;exact absurd (Nat.lt_trans q.lt hC) (by rw[z];exact Z6 _)) (λp hp z=>by
  have:=aaN (I2.pin p hp).1;rw[z] at this;exact absurd (Nat.lt_trans this hC) (Z6 _))
end
structure Src (J:It) (Ok:Hp->Prop) (n:Nat) (Item:Nat->V->Hp->Hp->Prop):Prop where
 go:∀i H,i<n->Ok H->J.go i H
 Cf:∀i H x H3,i<n->Ok H->J.Cf i H x H3->Item i x H H3
 stop:∀H,Ok H->J.stop n H
theorem src_list {K:aaB} {a:Addr} {xs:List V} {Ok:Hp->Prop} (h:∀H,Ok H->bL K H a xs):Src (xC K a) Ok xs.length (λi x H H3=>H3=H/\xs[i]?=some x) where
 go:=λi H hi ok=>⟨xs,xs[i],h H ok,by simp [hi]⟩
 Cf:=λi H x H3 hi ok ⟨e,y⟩=>⟨e,y xs (h H ok)⟩
 stop:=λH ok=>⟨xs,h H ok,ZD _⟩
theorem src_range {lo:Int} {n:Nat} {Ok:Hp->Prop}:Src (MM lo n) Ok n (λi x H H3=>H3=H/\x=.int (lo+i)) where
 go:=λ_ _ hi _=>hi
 Cf:=λ_ _ _ _ _ _ y=>y
 stop:=λ_ _=>ZD _
theorem gW {J:It} {g:TG} {tc:TT} {te:TE} {σ0:St} {H1:Hp} {fin:List V->Hp->Prop} {n:Nat} {Item:Nat->V->Hp->Hp->Prop} (S:Src J (aF H1) n Item) (Kl:St->Prop) (h0:Kl σ0) (P:Nat->List V->Hp->Prop) (p0:P 0 [] H1) (hz:n<=sizeLine)
  (hs:∀i x σ H ys H3 (Q:St->V->Hp->Prop) (N:St->Hp->Prop),i<n->aF H1 H->P i ys H->ys.length<=i->Kl σ->Item i x H H3->
   (∀σ3 y H6,Kl σ3->aF H1 H6->P (i+1) (ys++ [y]) H6->Q σ3 y H6)->(∀σ3 H5,Kl σ3->aF H1 H5->P (i+1) ys H5->N σ3 H5)->
   g x σ H3 λσ3 H4=>tc σ3 H4 λb H5=>if b=true then te σ3 H5 λy H6=>Q σ3 y H6 else N σ3 H5)
  (oy:∀ys H,aF H1 H->P n ys H->ys.length<=n->fin ys H):fV J g tc te σ0 H1 fin:=by
 refine⟨λi m ys σ H=>m=n - i/\i<=n/\ys.length<=i/\Kl σ/\aF H1 H/\P i ys H,⟨n,by simp,ZM _,ZD _,h0,aF.refl _,p0⟩,?_⟩;rintro i m ys σ H ⟨rfl,hi,hl,ow,sm,p⟩
 by_cases qE:i<n
 ·refine .inr ⟨S.go i H qE sm,λx H3 y=>hs i x σ H ys H3 (λσ3 y H6=>ys.length<sizeLine/\∃m',m'<n - i/\m'=n - (i+1)/\i+1<=n/\(ys++ [y]).length<=i+1/\Kl σ3/\aF H1 H6/\P (i+1) (ys++ [y]) H6)
   (λσ3 H5=>∃m',m'<n - i/\m'=n - (i+1)/\i+1<=n/\ys.length<=i+1/\Kl σ3/\aF H1 H5/\P (i+1) ys H5) qE sm p hl ow (S.Cf i H x H3 qE sm y) (λσ3 y H6 o s6 q=>?_) (λσ3 H5 o s5 q=>?_)⟩
  ·exact⟨by lia,n - (i+1),by lia,rfl,qE,by rw[ZJ,aao];lia,o,s6,q⟩
  ·exact⟨n - (i+1),by lia,rfl,qE,by lia,o,s5,q⟩
 ·have e:i=n:=by lia
  subst e;exact .inl ⟨S.stop H sm,oy ys H sm p hl⟩
theorem comp_map {J:It} {te:TE} {tl:St} {H1:Hp} {fin:List V->Hp->Prop} {n:Nat} {Item:Nat->V->Hp->Hp->Prop} (S:Src J (aF H1) n Item) (sub:∀i x H H3,Item i x H H3->aF H H3) (hz:n<=sizeLine)
  (R:Nat->V->Hp->Prop) (mono:∀i y H H',aF H H'->R i y H->R i y H')
  (hs:∀i x w H H3 (Q:VK),i<n->aF H1 H->Item i x H H3->(∀y H6,aF H3 H6->R i y H6->Q y H6)->te ((w::tl).set 0 (some x)) H3 Q)
  (oy:∀ys H,aF H1 H->ys.length=n->(∀i y,ys[i]?=some y->R i y H)->fin ys H):fV J (gName 0) t7 te (none::tl) H1 fin:=by
 refine⟨λi m ys σ H=>m=n - i/\i<=n/\ys.length=i/\(∃w,σ=w::tl)/\aF H1 H/\∀j y,ys[j]?=some y->R j y H,⟨n,by simp,ZM _,rfl,⟨_,rfl⟩,aF.refl _,λj y e=>by simp at e⟩,?_⟩;rintro i m ys σ H ⟨rfl,hi,hl,⟨w,rfl⟩,sm,p⟩
 by_cases qE:i<n
 ·refine .inr ⟨S.go i H qE sm,λx H3 y=>?_⟩;have it:=S.Cf i H x H3 qE sm y;have s3:=sub i x H H3 it;unfold gName t7;refine DL ?_;refine hs i x w H H3 _ qE sm it λy H6 s6 r=>⟨by lia,n - (i+1),by lia,rfl,qE,by rw[ZJ,aao];lia,⟨_,rfl⟩,sm.trans (s3.trans s6),λj z e=>?_⟩
  by_cases hj:j<i
  ·rw[aaA (by lia)] at e;exact mono j z _ _ (s3.trans s6) (p j z e)
  ·rw[aav (by lia)] at e;have e2:j - ys.length=0:=by
    by_cases q:j - ys.length=0
    ·exact q
    ·rw[List.getElem?_eq_none (by simp;lia)] at e;cases e
   rw[e2] at e;simp at e;subst e;have:j=i:=by lia
   subst this;exact r
 ·have e:i=n:=by lia
  subst e;exact .inl ⟨S.stop H sm,oy ys H sm hl p⟩
noncomputable def IV (J:It) (g:TG) (tb:TS) (D:Ends) (σ:St) (H:Hp):Prop:=
 ∃W:Nat->Nat->St->Hp->Prop,(∃m,W 0 m σ H)/\∀i m σ H,W i m σ H->
  (J.stop i H/\D.nx σ H)\/(J.go i H/\∃N:St->Hp->Prop,(∀σ' H',N σ' H'->∃m',m'<m/\W (i+1) m' σ' H')/\∀x H',J.Cf i H x H'->g x σ H' λσ2 H2=>tb {D with nx:=N,ct:=N,bk:=D.nx} σ2 H2)
theorem tFor_eq {wi:TI} {g:TG} {tb:TS} {D:Ends} {σ:St} {H:Hp}:MN wi g tb D σ H=wi σ H λJ H1=>IV J g tb D σ H1:=rfl
theorem cu {J:It} {g:TG} {tb:TS} {D:Ends} {σ:St} {H:Hp} {n:Nat} {Item:Nat->V->Hp->Hp->Prop} {Ok:Hp->Prop} (S:Src J Ok n Item) (Pv:Nat->St->Hp->Prop) (h0:Pv 0 σ H) (bU:∀i σ H,i<=n->Pv i σ H->Ok H)
  (hs:∀i x σ H H3,i<n->Pv i σ H->Item i x H H3->g x σ H3 λσ2 H2=>tb {D with nx:=Pv (i+1),ct:=Pv (i+1),bk:=D.nx} σ2 H2) (hd:∀σ H,Pv n σ H->D.nx σ H):IV J g tb D σ H:=by
 refine⟨λi m σ H=>m=n - i/\i<=n/\Pv i σ H,⟨n,by simp,ZM _,h0⟩,?_⟩;rintro i m σ H ⟨rfl,hi,p⟩
 by_cases qE:i<n
 ·exact .inr ⟨S.go i H qE (bU i σ H hi p),Pv (i+1),λσ' H' p'=>⟨n - (i+1),by lia,rfl,qE,p'⟩,λx H' y=>hs i x σ H H' qE p (S.Cf i H x H' qE (bU i σ H hi p) y)⟩
 ·have e:i=n:=by lia
  subst e;exact .inl ⟨S.stop H (bU i σ H hi p),hd σ H p⟩
end L2
namespace L2
open PySem PySem.Spec PyProof.Rows
section
variable {X : Cx} {pins : List (Addr × Obj)} {σ : St} {H : Hp} {s : Shared}
theorem Inv.moved {h':Heap} {t':Nat} {ch:List Addr} (I:Inv X pins σ H s) (f:∀b∈ch,lB X pins H b) (k:∀b o,b∉ch->s.heap.get? b=some o->h'.get? b=some o):Inv X pins σ H {s with heap:=h',toks:=t'}:=by
 have IC:∀b u,H b=some u->b∉ch:=λb u e z=>by rw[(f b z).1] at e;cases e
 refine I.step (g':=s.gens) (d':=s.drawn) (ch:=ch) (λb hb=>⟨(f b hb).2.2.2.1,(f b hb).2.1,(f b hb).2.2.2.2.1,(f b hb).2.2.2.2.2⟩) (λb o _ _ hc e _=>k b o hc e) (λb o _ _ hc e _=>⟨o.slots,k b o hc e⟩) (λ_ _ _ _ n=>n)
  (λb o hc e=>⟨o,k b o hc e⟩) (λ_ _ e=>e) (λ_ _ _ e=>e) (λb ps e=>⟨#[],by rw[e];simp⟩) (λm hm=>?_) (λb u e=>?_) I.bare
 ·obtain⟨o,es,ep,ho,r⟩:=hm;exact⟨o,es,ep,k _ o (λz=>(f _ z).2.1 rfl) ho,r⟩
 ·refine(I.bU b u e).qV (λc v hc q=>k c v ?_ q) (λ_ q=>q) λ_ _ q=>q;rcases hc with z | z
  ·rw[z];exact IC b u e
  ·exact IC c _ z
theorem Inv.take {ad:Addr} {o:HO} (I:Inv X pins σ H s) (f:lB X pins H ad) (new:X.s₀.heap.objs.size<=ad) (ok:cD X.prog X.w (upd H ad o) s.heap ad o):Inv X pins σ (upd H ad o) s:=by
 obtain⟨hn,nL,nf,_,nc,np⟩:=f;have tk:∀b u,H b=some u->b≠ad:=λb u e z=>by rw[z,hn] at e;cases e
 refine⟨I.ok,I.os,I.bare,⟨I.base.keep,I.base.slot,λb ob e m hx=>?_,I.base.there,λb xs e=>?_,λb ob u e=>?_,λb ps e=>?_⟩,I.loc,I.cell,?_,λx c e=>?_,λp hp=>?_,λb u e=>?_,I.len⟩
 ·rw[aw (ZK (ZR (aaN e) new))];exact I.base.free b ob e m hx
 ·have q:=I.base.iV b xs e;rw[aw (tk b _ q)];exact q
 ·have q:=I.base.iQ b ob u e;rw[aw (tk b _ q)];exact q
 ·obtain⟨mo,q⟩:=I.base.jP b ps e;exact⟨mo,by rw[aw (tk b _ q)];exact q⟩
 ·rw[aw (Ne.symm nL)];exact I.free
 ·rw[aw (nc x c e)];exact I.fR x c e
 ·obtain⟨a,b,c⟩:=I.pin p hp;exact⟨a,by rw[aw (np p hp)];exact b,c⟩
 ·by_cases hb:b=ad
  ·subst hb;rw[aj] at e;cases e;exact ok
  ·rw[aw hb] at e;exact(I.bU b u e).qV (λ_ _ _ q=>q) (λc r=>by rw[aw (tk _ _ r)];exact r) λc xs r=>by rw[aw (tk _ _ r)];exact r
end
noncomputable def Vr (K:aaB) (a b:Addr):It:=
 ⟨λi H=>∃xs ys x y,bL K H a xs/\bL K H b ys/\xs[i]?=some x/\ys[i]?=some y,
  λi H v H'=>∃p,H p=none/\v=.ref p/\∃x y,(∀xs,bL K H a xs->xs[i]?=some x)/\(∀ys,bL K H b ys->ys[i]?=some y)/\H'=upd H p (.tup [x,y]),
  λi H=>∃xs ys,bL K H a xs/\bL K H b ys/\(i=min xs.length ys.length)⟩
noncomputable def Qy (K:aaB) (a:Addr):It:=
 ⟨λi H=>∃xs x,bL K H a xs/\xs[i]?=some x,
  λi H v H'=>∃p,H p=none/\v=.ref p/\∃x,(∀xs,bL K H a xs->xs[i]?=some x)/\H'=upd H p (.tup [.int i,x]),
  λi H=>∃xs,bL K H a xs/\xs.length=i⟩
theorem CF {P:Program} {w:World} {K:aaB} {elts:List Expr} {k:Nat} {pos:Pos} (e it a:Addr) (S1:e≠it) (hle:a≠e) (S2:a≠it):
  Turn P w K (.Tuple elts k pos) (Qy K a) [e,it] e (λi h=>(∃old,IsEnum h e it i old)/\h.IsListIter it a i) where
 mem:=by simp
 obj:=λi h st c hc=>by
  obtain⟨⟨old,he⟩,⟨o1,e1,_,d1⟩⟩:=st;simp only[aaj,List.not_mem_nil,or_false] at hc;rcases hc with rfl | rfl
  ·exact⟨_,he,λv q=>by cases q⟩
  ·exact⟨_,e1,λv q=>by rw[d1] at q;cases q⟩
 keep:=λi h h' st kp=>by
  obtain⟨⟨old,he⟩,h1⟩:=st;exact⟨⟨old,kp e (by simp) _ he⟩,h1.at λo q=>kp it (by simp) o q⟩
 item:=by
  intro X hP hw hK hc i pins s σ H E I hf st hg;subst hP hw hK;obtain⟨xs,x,Mf,hx⟩:=hg;obtain⟨zY,r1,p1,z1⟩:=I.list Mf;obtain⟨u,eu,ru⟩:=r1.get hx;obtain⟨he,h1⟩:=st;have W:=WalksT.enumerate (prog:=X.prog) (w:=X.w) (I.ok.hd hc) e it a S1 hle S2 zY.toArray;have li:i<zY.toArray.size:=by
   have a1:=(aaI.mp eu).1;simp only[ZF];lia
  refine W.item i s _ _ li ⟨he,h1,p1.isList⟩ λT vals h' tk Vs hT hI hm kk=>?_;have I1:Inv X pins σ H {s with heap:=h',toks:=tk}:=I.moved (ch:=[e,it]) hf kk;have fT:lB X pins H T:=I.GA hT (I.bU.fresh hT);refine⟨_,rfl,W.go elts k pos i T _ _ _ hm λQz zw S3=>?_⟩;have I2:Inv X pins σ H {s with heap:=Qz,toks:=tk}:=I1.moved (s:={s with heap:=h',toks:=tk}) (t':=tk) (ch:=[e,it]) hf S3;obtain⟨t,x',ex,rfl⟩:=Vs;have PR:zY[i]?=some x':=by simpa using ex
  rw[eu] at PR;cases PR;have Vt:=W.apart _ _ _ hm;obtain⟨oT,eT,cT,nT,dT⟩:=hI;have Vu:IsTup Qz T #[.int i t,u]:=⟨oT,S3 _ _ Vt eT,cT,nT,dT⟩
  have I3:Inv X pins σ (upd H T (.tup [.int i,x])) {s with heap:=Qz,toks:=tk}:=
   I2.take fT (ZN I.sz hT) ⟨by show 2<=sizeLine;decide,[.int i t,u],.cons ⟨t,rfl⟩ (.cons ru .nil),Vu⟩
  obtain⟨b1,b2,_⟩:=zw;refine⟨.ref T,_,I3,rfl,⟨T,fT.1,rfl,x,λS4 q=>?_,rfl⟩,⟨b1,b2⟩,λc hc=>?_⟩
  ·rw[I.xA q Mf];exact hx
  ·rw[aw (λq=>?_)]
   ·exact(hf c hc).1
   ·subst q;obtain⟨o,e,_⟩:∃o,s.heap.get? c=some o/\True:=by
     simp only[aaj,List.not_mem_nil,or_false] at hc;obtain⟨old,he⟩:=he;obtain⟨o1,e1,_⟩:=h1;rcases hc with rfl | rfl
     ·exact⟨_,he,trivial⟩
     ·exact⟨_,e1,trivial⟩
    exact absurd (aaN e) (Nat.not_lt.mpr hT)
 done:=by
  intro X hP hw hK hc i pins s σ H E I hf st hg;subst hP hw hK;obtain⟨xs,Mf,hi⟩:=hg;obtain⟨zY,r1,p1,z1⟩:=I.list Mf;obtain⟨he,h1⟩:=st;have W:=WalksT.enumerate (prog:=X.prog) (w:=X.w) (I.ok.hd hc) e it a S1 hle S2 zY.toArray;have l1:=r1.length;have e:i=zY.toArray.size:=by simp only[ZF];lia
  subst e;exact W.done s _ _ ⟨he,h1,p1.isList⟩ λh' tk kk=>⟨rfl,I.moved (ch:=[_,it]) hf kk⟩
 self:=λ_ _ _ _ _ st h=>by
  obtain⟨⟨old,he⟩,_⟩:=st;exact wpAny_pyIter_enum he h
section
variable {X : Cx} {elts : List Expr} {kk : Nat} {p3 : Pos}
noncomputable def iEnum (K:aaB) (ta:TA):TI:=λσ H R=>ta σ H λvs H1=>∃a,vs=[.ref a]/\(∃xs,bL K H1 a xs)/\R (Qy K a) H1
theorem vR {a:Expr} {ta:TA} {p pos:Pos} (hg:Gl X "enumerate") (hm:X.mg "enumerate"=none) (ha:PA X [a] ta) (hs:starEach [a] X.env=[(false,eval a X.env)]:=by rfl):
  PI X (.Tuple elts kk p3) (.Call (.Name "enumerate" p) [a] [] pos) (iEnum X.K ta):=by
 intro pins s σ H R I h;refine Call_ (gI I hg hm rfl (aaz (cG (ha pos pins s σ H _ I h) λus s1 dC=>?_) hs rfl));obtain⟨vs,H1,I1,r1,q1⟩:=dC;obtain⟨a,e,⟨xs,q1⟩,q⟩:=q1;subst e;obtain⟨u,rfl,ra⟩:=vals1 r1;cases ra;obtain⟨zY,v1,p1,z1⟩:=I1.list q1;refine call_enumerate_list p1.isList λh' b1 b2 b3 kp=>?_;refine wpAny_pyIter_enum b1 ?_;have I2:Inv X pins σ H1 {s1 with heap:=h'}:=I1.kept (t':=s1.toks) kp;have la:a<s1.heap.objs.size:=by obtain⟨o,e,_⟩:=p1.isList;exact aaN e
 refine⟨s1.heap.objs.size+1,[s1.heap.objs.size+1,s1.heap.objs.size],_,_,H1,rfl,I2,
  CF (s1.heap.objs.size+1) s1.heap.objs.size a (Nat.ne_of_gt (aan _)) (ZK (Nat.lt_succ_of_lt la)) (ZK la),⟨⟨_,b1⟩,b2⟩,λc hc=>?_,q⟩
 have S5:s1.heap.objs.size<=c:=by
  simp only[aaj,List.not_mem_nil,or_false] at hc;rcases hc with rfl | rfl <;>lia
 exact I1.GA S5 (I1.bU.fresh S5)
end
theorem D5 {K:aaB} {a:Addr} {xs:List V} {Ok:Hp->Prop} (h1:∀H,Ok H->bL K H a xs):
  Src (Qy K a) Ok xs.length (λi v H H3=>∃p x,H p=none/\v=.ref p/\xs[i]?=some x/\H3=upd H p (.tup [.int i,x])) where
 go:=λi H hi ok=>⟨xs,xs[i],h1 H ok,by simp [hi]⟩
 Cf:=λi H x H3 hi ok ⟨p,n,e,u,e1,e3⟩=>⟨p,u,n,e,e1 xs (h1 H ok),e3⟩
 stop:=λH ok=>⟨xs,h1 H ok,rfl⟩
end L2
namespace L2
open PySem PySem.Spec PyProof.Rows
inductive Dat where
 | cW | bl (b:Bool) | int (i:Int) | str (x:Str) | tup (l:List Dat) | lst (l:List Dat)
mutual
noncomputable def Rep (H:Hp):Dat->V->Prop
 | .cW,v=>v=.cW
 | .bl b,v=>v=.bl b
 | .int i,v=>v=.int i
 | .str x,v=>v=.str x
 | .tup ds,v=>∃p vs,v=.ref p/\H p=some (.tup vs)/\bo H ds vs
 | .lst ds,v=>∃p vs,v=.ref p/\H p=some (.lst vs)/\bo H ds vs
noncomputable def bo (H:Hp):List Dat->List V->Prop
 | [],vs=>vs=[]
 | d::ds,vs=>∃v r,vs=v::r/\Rep H d v/\bo H ds r
end
mutual
theorem Rep.mono {H H':Hp} (s:aF H H'):∀{d:Dat} {v:V},Rep H d v->Rep H' d v
 | .cW,_,h=>by rw[Rep] at *;exact h
 | .bl _,_,h=>by rw[Rep] at *;exact h
 | .int _,_,h=>by rw[Rep] at *;exact h
 | .str _,_,h=>by rw[Rep] at *;exact h
 | .tup _,_,h=>by
  rw[Rep] at *;obtain⟨p,vs,e,hp,r⟩:=h;exact⟨p,vs,e,s _ _ hp,bo.mono s r⟩
 | .lst _,_,h=>by
  rw[Rep] at *;obtain⟨p,vs,e,hp,r⟩:=h;exact⟨p,vs,e,s _ _ hp,bo.mono s r⟩
theorem bo.mono {H H':Hp} (s:aF H H'):∀{ds:List Dat} {vs:List V},bo H ds vs->bo H' ds vs
 | [],_,h=>by rw[bo] at *;exact h
 | _::_,_,h=>by
  rw[bo] at *;obtain⟨v,r,e,h1,h2⟩:=h;exact⟨v,r,e,Rep.mono s h1,bo.mono s h2⟩
end
theorem bo.length {H:Hp}:∀{ds:List Dat} {vs:List V},bo H ds vs->ds.length=vs.length
 | [],_,h=>by rw[bo] at h;subst h;rfl
 | _::_,_,h=>by
  rw[bo] at h;obtain⟨v,r,rfl,_,h2⟩:=h;simp [h2.length]
theorem bo.get {H:Hp}:∀{ds:List Dat} {vs:List V} {i:Nat} {v:V},bo H ds vs->vs[i]?=some v->∃d,ds[i]?=some d/\Rep H d v
 | [],_,i,v,h,e=>by rw[bo] at h;subst h;simp at e
 | d::ds,_,i,v,h,e=>by
  rw[bo] at h;obtain⟨v',r,rfl,h1,h2⟩:=h;cases i with
  | zero=>simp at e;subst e;exact⟨d,rfl,h1⟩
  | succ i=>simp at e;obtain⟨d',e',r'⟩:=h2.get e;exact⟨d',by simpa using e',r'⟩
theorem bo.at {H:Hp}:∀{ds:List Dat} {vs:List V} {i:Nat} {d:Dat},bo H ds vs->ds[i]?=some d->∃v,vs[i]?=some v/\Rep H d v
 | [],_,i,v,h,e=>by simp at e
 | d::ds,_,i,d',h,e=>by
  rw[bo] at h;obtain⟨v',r,rfl,h1,h2⟩:=h;cases i with
  | zero=>simp at e;subst e;exact⟨v',rfl,h1⟩
  | succ i=>simp at e;obtain⟨v,e',r'⟩:=h2.at e;exact⟨v,by simpa using e',r'⟩
theorem bo.of {H:Hp}:∀{ds:List Dat} {vs:List V},ds.length=vs.length->(∀(i:Nat) d v,ds[i]?=some d->vs[i]?=some v->Rep H d v)->bo H ds vs
 | [],[],_,_=>by rw[bo]
 | [],_::_,h,_=>by simp at h
 | _::_,[],h,_=>by simp at h
 | d::ds,v::vs,h,k=>by
  rw[bo];exact⟨v,vs,rfl,k 0 d v rfl rfl,bo.of (by simpa using h) λi d' v' e1 e2=>k (i+1) d' v' (by simpa using e1) (by simpa using e2)⟩
theorem bo.append {H:Hp}:∀{as bs:List Dat} {us vs:List V},bo H as us->bo H bs vs->bo H (as++bs) (us++vs)
 | [],_,_,_,h,k=>by rw[bo] at h;subst h;exact k
 | _::_,_,_,_,h,k=>by
  rw[bo] at h;obtain⟨v,r,rfl,h1,h2⟩:=h;show bo H (_::(_++_)) (_::(_++_));rw[bo];exact⟨_,_,rfl,h1,h2.append k⟩
noncomputable def depth:Dat->Nat
 | .tup l=>1+dL l
 | .lst l=>1+dL l
 | _=>0
where dL:List Dat->Nat
 | []=>0
 | d::ds=>max (depth d) (dL ds)
theorem gX {d:Dat}:∀{ds:List Dat},d∈ds->depth d<=depth.dL ds
 | e::ds,h=>by
  rw[depth.dL];rcases aaj.mp h with rfl | h
  ·exact Nat.le_max_left _ _
  ·exact ZN (gX h) (Nat.le_max_right _ _)
section
variable {X : Cx} {pins : List (Addr × Obj)} {σ : St} {H : Hp} {s : Shared}
theorem all_true (n:Nat):((List.range n).all λ_=>true)=true:=by simp
theorem D6 (I:Inv X pins σ H s):∀(n:Nat) (d:Dat),depth d<=n->∀(v v':V) (u u':Value) (A:Around),Rep H d v->Rep H d v'->RelV v u->RelV v' u'->A.units+n<cLine->SeqAt.EqAt A s u u' true:=by
 intro n
 induction n with
 | zero=>
  intro d hd v v' u u' A h h' r r' hu;cases d with
  | cW=>rw[Rep] at h h';subst h h';cases r;cases r';exact SeqAt.EqAt.same _
  | bl b=>rw[Rep] at h h';subst h h';cases r;cases r';exact SeqAt.EqAt.same _
  | int i=>rw[Rep] at h h';subst h h';obtain⟨t,rfl⟩:=r;obtain⟨t',rfl⟩:=r';have:=SeqAt.EqAt.int_int (A:=A) (s:=s) i t i t';simpa using this
  | str x=>rw[Rep] at h h';subst h h';obtain⟨t,rfl⟩:=r;obtain⟨t',rfl⟩:=r';have:=SeqAt.EqAt.str_str (A:=A) (s:=s) x t x t';simpa using this
  | tup l=>rw[depth] at hd;lia
  | lst l=>rw[depth] at hd;lia
 | succ n ih=>
  intro d hd v v' u u' A h h' r r' hu;cases d with
  | cW=>rw[Rep] at h h';subst h h';cases r;cases r';exact SeqAt.EqAt.same _
  | bl b=>rw[Rep] at h h';subst h h';cases r;cases r';exact SeqAt.EqAt.same _
  | int i=>rw[Rep] at h h';subst h h';obtain⟨t,rfl⟩:=r;obtain⟨t',rfl⟩:=r';have:=SeqAt.EqAt.int_int (A:=A) (s:=s) i t i t';simpa using this
  | str x=>rw[Rep] at h h';subst h h';obtain⟨t,rfl⟩:=r;obtain⟨t',rfl⟩:=r';have:=SeqAt.EqAt.str_str (A:=A) (s:=s) x t x t';simpa using this
  | tup l=>
   rw[Rep] at h h';obtain⟨p,vs,rfl,hp,rl⟩:=h;obtain⟨p',CC,rfl,t8,D7⟩:=h';cases r;cases r';rw[depth] at hd
   by_cases Nh:p=p'
   ·subst Nh;exact SeqAt.EqAt.same _
   obtain⟨bg,rv,pl,hz⟩:=I.tuple (kz.of hp);obtain⟨its',D8,D9,QA⟩:=I.tuple (kz.of t8);have e1:=rl.length;have e2:=D7.length;have l1:=rv.length;have l2:=D8.length;have R:=SeqAt.RcAt.tuples (A:=A) (e:=λ_=>true) pl D9 (by lia) (λj h1 h2=>?_)
   ·simp only[ZF,all_true,Bool.true_and] at R;rw[show(bg.length==its'.length)=true by simp;lia] at R;exact .of_refs Nh R
   ·rw[ZF] at h1 h2;obtain⟨d,ed⟩:∃d,l[j]?=some d:=⟨l[j]'(by lia),by simp⟩
    obtain⟨v1,f1,q1⟩:=rl.at ed;obtain⟨v2,f2,q2⟩:=D7.at ed;obtain⟨u1,g1,w1⟩:=rv.get f1;obtain⟨u2,g2,w2⟩:=D8.get f2;have a1:bg.toArray[j]=u1:=by simpa [ZH h1] using g1
    have a2:its'.toArray[j]=u2:=by simpa [ZH h2] using g2
    rw[a1,a2];have:=gX (ZS ed);exact ih d (by lia) v1 v2 u1 u2 A.in1 q1 q2 w1 w2 (by show A.units+1+n<cLine;lia)
  | lst l=>
   rw[Rep] at h h';obtain⟨p,vs,rfl,hp,rl⟩:=h;obtain⟨p',CC,rfl,t8,D7⟩:=h';cases r;cases r';rw[depth] at hd
   by_cases Nh:p=p'
   ·subst Nh;exact SeqAt.EqAt.same _
   obtain⟨bg,rv,pl,hz⟩:=I.list (bL.of hp);obtain⟨its',D8,D9,QA⟩:=I.list (bL.of t8);have e1:=rl.length;have e2:=D7.length;have l1:=rv.length;have l2:=D8.length;have R:=SeqAt.RcAt.lists (A:=A) (e:=λ_=>true) pl.isList D9.isList (by simp only[ZF];lia) (by lia) (λj h1 h2=>?_)
   ·rw[all_true] at R;exact .of_refs Nh R
   ·rw[ZF] at h1 h2;obtain⟨d,ed⟩:∃d,l[j]?=some d:=⟨l[j]'(by lia),by simp⟩
    obtain⟨v1,f1,q1⟩:=rl.at ed;obtain⟨v2,f2,q2⟩:=D7.at ed;obtain⟨u1,g1,w1⟩:=rv.get f1;obtain⟨u2,g2,w2⟩:=D8.get f2;have a1:bg.toArray[j]=u1:=by simpa [ZH h1] using g1
    have a2:its'.toArray[j]=u2:=by simpa [ZH h2] using g2
    rw[a1,a2];have:=gX (ZS ed);exact ih d (by lia) v1 v2 u1 u2 A.in1 q1 q2 w1 w2 (by show A.units+1+n<cLine;lia)
end
section
variable {X : Cx}
noncomputable def G4 (b:Bool):R2:=λx y H Q=>∃d,Rep H d x/\Rep H d y/\(∃p,x=.ref p)/\depth d<=40/\Q (.bl b) H
theorem Ea {pins:List (Addr×Obj)} {σ:St} {H:Hp} {s:Shared} {d:Dat} {p p':Addr} (I:Inv X pins σ H s) (hu:X.A.units+64<cLine) (h:Rep H d (.ref p)) (h':Rep H d (.ref p')) (hd:depth d<=40):
  (∃bg its':List Value,IsTup s.heap p bg.toArray/\IsTup s.heap p' its'.toArray/\bg.length=its'.length/\∀j (h1:j<bg.toArray.size) (h2:j<its'.toArray.size),SeqAt.EqAt X.A.in1 s bg.toArray[j] its'.toArray[j] true)\/
  (∃bg its':List Value,s.heap.IsList p bg.toArray/\s.heap.IsList p' its'.toArray/\bg.length=its'.length/\∀j (h1:j<bg.toArray.size) (h2:j<its'.toArray.size),SeqAt.EqAt X.A.in1 s bg.toArray[j] its'.toArray[j] true):=by
 cases d with
 | cW=>rw[Rep] at h;cases h
 | bl b=>rw[Rep] at h;cases h
 | int i=>rw[Rep] at h;cases h
 | str x=>rw[Rep] at h;cases h
 | tup l=>
  left
  rw[Rep] at h h';obtain⟨_,vs,e,hp,rl⟩:=h;cases e;obtain⟨_,CC,e,t8,D7⟩:=h';cases e;rw[depth] at hd;obtain⟨bg,rv,pl,hz⟩:=I.tuple (kz.of hp);obtain⟨its',D8,D9,QA⟩:=I.tuple (kz.of t8);have e1:=rl.length;have e2:=D7.length;have l1:=rv.length;have l2:=D8.length;refine⟨bg,its',pl,D9,by lia,λj h1 h2=>?_⟩;rw[ZF] at h1 h2;obtain⟨d,ed⟩:∃d,l[j]?=some d:=⟨l[j]'(by lia),by simp⟩
  obtain⟨v1,f1,q1⟩:=rl.at ed;obtain⟨v2,f2,q2⟩:=D7.at ed;obtain⟨u1,g1,w1⟩:=rv.get f1;obtain⟨u2,g2,w2⟩:=D8.get f2;have a1:bg.toArray[j]=u1:=by simpa [ZH h1] using g1
  have a2:its'.toArray[j]=u2:=by simpa [ZH h2] using g2
  rw[a1,a2];have:=gX (ZS ed);exact D6 I 40 d (by lia) v1 v2 u1 u2 X.A.in1 q1 q2 w1 w2 (by show X.A.units+1+40<cLine;lia)
 | lst l=>
  right
  rw[Rep] at h h';obtain⟨_,vs,e,hp,rl⟩:=h;cases e;obtain⟨_,CC,e,t8,D7⟩:=h';cases e;rw[depth] at hd;obtain⟨bg,rv,pl,hz⟩:=I.list (bL.of hp);obtain⟨its',D8,D9,QA⟩:=I.list (bL.of t8);have e1:=rl.length;have e2:=D7.length;have l1:=rv.length;have l2:=D8.length;refine⟨bg,its',pl.isList,D9.isList,by lia,λj h1 h2=>?_⟩;rw[ZF] at h1 h2;obtain⟨d,ed⟩:∃d,l[j]?=some d:=⟨l[j]'(by lia),by simp⟩
  obtain⟨v1,f1,q1⟩:=rl.at ed;obtain⟨v2,f2,q2⟩:=D7.at ed;obtain⟨u1,g1,w1⟩:=rv.get f1;obtain⟨u2,g2,w2⟩:=D8.get f2;have a1:bg.toArray[j]=u1:=by simpa [ZH h1] using g1
  have a2:its'.toArray[j]=u2:=by simpa [ZH h2] using g2
  rw[a1,a2];have:=gX (ZS ed);exact D6 I 40 d (by lia) v1 v2 u1 u2 X.A.in1 q1 q2 w1 w2 (by show X.A.units+1+40<cLine;lia)
theorem Km (hu:X.A.units+64<cLine):jF X (compareOp .Eq) (G4 true):=by
 intro pins s σ H x y v u Q I rx ry h;obtain⟨d,h1,h2,⟨p,rfl⟩,hd,q⟩:=h;obtain⟨p',rfl⟩:∃p',y=.ref p':=by
  cases d with
  | cW=>rw[Rep] at h1;cases h1
  | bl b=>rw[Rep] at h1;cases h1
  | int i=>rw[Rep] at h1;cases h1
  | str x=>rw[Rep] at h1;cases h1
  | tup l=>rw[Rep] at h2;obtain⟨p',_,e,_⟩:=h2;exact⟨p',e⟩
  | lst l=>rw[Rep] at h2;obtain⟨p',_,e,_⟩:=h2;exact⟨p',e⟩
 cases rx;cases ry;rcases Ea I hu h1 h2 hd with ⟨bg,its',a,b,e,k⟩ | ⟨bg,its',a,b,e,k⟩
 ·refine SeqAt.eq_tupleAt (e:=λ_=>true) a b (by lia) k ⟨.bl true,H,I,?_,q⟩;show Value.bool _=Value.bool true;rw[all_true,ZF,ZF,e];simp
 ·refine SeqAt.eq_listAt (e:=λ_=>true) a b (by simp only[ZF];exact e) (by lia) k ⟨.bl true,H,I,?_,q⟩;show Value.bool _=Value.bool true;rw[all_true]
theorem Eb (hu:X.A.units+64<cLine):jF X (compareOp .NotEq) (G4 false):=by
 intro pins s σ H x y v u Q I rx ry h;obtain⟨d,h1,h2,⟨p,rfl⟩,hd,q⟩:=h;obtain⟨p',rfl⟩:∃p',y=.ref p':=by
  cases d with
  | cW=>rw[Rep] at h1;cases h1
  | bl b=>rw[Rep] at h1;cases h1
  | int i=>rw[Rep] at h1;cases h1
  | str x=>rw[Rep] at h1;cases h1
  | tup l=>rw[Rep] at h2;obtain⟨p',_,e,_⟩:=h2;exact⟨p',e⟩
  | lst l=>rw[Rep] at h2;obtain⟨p',_,e,_⟩:=h2;exact⟨p',e⟩
 cases rx;cases ry;rcases Ea I hu h1 h2 hd with ⟨bg,its',a,b,e,k⟩ | ⟨bg,its',a,b,e,k⟩
 ·refine SeqAt.RcNeAt.tuples (A:=X.A) (e:=λ_=>true) a b (by lia) k X.prog X.w X.xe _ ⟨.bl false,H,I,?_,q⟩;show Value.bool _=Value.bool false;rw[all_true,ZF,ZF,e];simp
 ·refine SeqAt.RcNeAt.lists (A:=X.A) (e:=λ_=>true) a b (by simp only[ZF];exact e) (by lia) k X.prog X.w X.xe _ ⟨.bl false,H,I,?_,q⟩;show Value.bool _=Value.bool false;rw[all_true];rfl
end
end L2
namespace Nm
noncomputable def ins (x:Int):List Int->List Int
 | []=>[x]
 | y::r=>if x<=y then x::y::r else y::ins x r
noncomputable def vS:List Int->List Int
 | []=>[]
 | x::r=>ins x (vS r)
theorem rC (x:Int):∀l,(ins x l).Perm (x::l)
 | []=>.refl _
 | y::r=>by
  unfold ins
  split
  ·exact .refl _
  ·exact((rC x r).cons y).trans (.swap ..)
theorem mM:∀l,(vS l).Perm l
 | []=>.refl _
 | x::r=>(rC x _).trans ((mM r).cons x)
set_option tactic.hygienic true in
theorem Bj (x:Int):∀l:List Int,l.Pairwise (·<=·)->(ins x l).Pairwise (·<=·)
 | [],_=>by unfold ins;simp
 | y::r,h=>by
  unfold ins;rw[List.pairwise_cons] at h
  split
  ·rename_i c
   rw[List.pairwise_cons,List.pairwise_cons];refine⟨λz hz=>?_,h.1,h.2⟩;rcases aaj.mp hz with rfl | hz
   ·exact c
   ·have:=h.1 z hz;lia
  ·rename_i c
   rw[List.pairwise_cons];refine⟨λz hz=>?_,Bj x r h.2⟩;rcases aaj.mp ((rC x r).mem_iff.mp hz) with rfl | hz
   ·lia
   ·exact h.1 z hz
theorem Bk:∀l:List Int,(vS l).Pairwise (·<=·)
 | []=>by unfold vS;simp
 | x::r=>Bj x _ (Bk r)
theorem ip (l:List Int):(vS l).length=l.length:=(mM l).length_eq
theorem Bl:∀{a b:List Int},a.Perm b->a.Pairwise (·<=·)->b.Pairwise (·<=·)->a=b
 | [],b,p,_,_=>by simpa using p.symm.eq_nil
 | x::a,[],p,_,_=>by simpa using p.eq_nil
 | x::a,y::b,p,ha,hb=>by
  rw[List.pairwise_cons] at ha hb;have e:x=y:=by
   have h1:y∈x::a:=p.mem_iff.mpr ZL;have h2:x∈y::b:=p.mem_iff.mp ZL;rcases aaj.mp h1 with h1 | h1
   ·exact h1.symm
   ·rcases aaj.mp h2 with h2 | h2
    ·exact h2
    ·have:=ha.1 y h1;have:=hb.1 x h2;lia
  subst e;rw[Bl ((List.perm_cons x).mp p) ha.2 hb.2]
theorem vT {a b:List Int} (p:a.Perm b) (o:a.Pairwise (·<=·)):a=vS b:=Bl (p.trans (mM b).symm) o (Bk b)
theorem G5 {a:Int} {l:List Int}:a∈vS l↔a∈l:=(mM l).mem_iff
end Nm
namespace L2
open PySem PySem.Spec PyProof.Rows PySem.W
section
variable {X : Cx}
theorem zZ {us:List Value} {ns:List Int} (h:IntsAre us ns):∃xs,us.toArray=intItems xs/\preSum (numAt xs) xs.size=ns.sum:=by
 obtain⟨xs,hx⟩:=h.allInts.items;refine⟨xs,hx,?_⟩;have e1:ns=xs.toList.map (·.1):=by
  rw[<-nums_intItems,<-hx];exact h.numsOf.symm
 rw[preSum_eq,ZQ (by simp),e1]
theorem Aa (hc:X.calm=true):cQ X (.builtin "sum") (λxs H Q=>∃p ns,xs=[.ref p]/\bL X.K H p (List.map V.int ns)/\Q (.int ns.sum) H):=by
 intro pins s σ H xs us Q I r h;obtain⟨p,ns,rfl,hq,q⟩:=h;obtain⟨u,rfl,rx⟩:=vals1 r;cases rx;obtain⟨bg,rv,pl,hz⟩:=I.list hq;obtain⟨ys,e1,e2⟩:=zZ (intsAre_of rv);have hl:=pl.isList;rw[e1] at hl;refine sum_intListG (I.ok.hd hc) hl λh' tk t' hk=>⟨.int ns.sum,H,I.kept (t':=tk) hk,⟨t',?_⟩,q⟩
 rw[e2]
theorem iq {us:List Value} {ns:List Int} (h:IntsAre us ns):bC (ns.map V.int) us:=by
 induction h with
 | nil=>exact .nil
 | cons n t _ ih=>exact .cons ⟨t,rfl⟩ ih
theorem t9:cQ X (.builtin "sorted") (λxs H Q=>∃p ns,xs=[.ref p]/\bL X.K H p (List.map V.int ns)/\ns.length<64/\∀l,H l=none->Q (.ref l) (upd H l (.lst (List.map V.int (Nm.vS ns))))):=by
 intro pins s σ H xs us Q I r h;obtain⟨p,ns,rfl,hq,hn,q⟩:=h;obtain⟨u,rfl,rx⟩:=vals1 r;cases rx;obtain⟨bg,rv,pl,hz⟩:=I.list hq;have hl:=rv.length;rw[ZA] at hl;refine sorted_ints pl.isList (intsAre_of rv) (by lia) λout Dc a1 a2 a3=>?_;obtain rfl:=Nm.vT a2 a3;obtain⟨e,he⟩:=sortedAll_at s.heap bg out;have fr:=I.bU.fresh (a:=s.heap.objs.size+1) (Nat.le_succ _);refine⟨.ref (s.heap.objs.size+1),_,I.laid (t':=s.toks) (λ_ _=>sortedAll_old) (Nat.le_succ _) (o:=.lst (List.map V.int (Nm.vS ns))) ⟨?_,out.toList,e,iq a1,?_⟩,rfl,q _ fr⟩
 ·rw[ZA,Nm.ip,sizeLine_eq];lia
 ·exact he
noncomputable def kC (kvs:List (Key×V)):List Int:=kvs.map λp=>match p.1 with | .inl i=>i | .inr _=>0
noncomputable def allI (kvs:List (Key×V)):Prop:=∀p∈kvs,∃i,p.1=Sum.inl i
theorem ua (hc:X.calm=true):cQ X (.builtin "sorted") (λxs H Q=>∃d kvs,xs=[.ref d]/\Rd H d (.dK kvs)/\allI kvs/\kvs.length<64/\∀l,H l=none->Q (.ref l) (upd H l (.lst (List.map V.int (Nm.vS (kC kvs)))))):=by
 intro pins s σ H xs us Q I r h;obtain⟨d,kvs,rfl,hd,Ct,hn,q⟩:=h;obtain⟨u,rfl,rx⟩:=vals1 r;cases rx;obtain⟨hz,lo,vs,kv,dd⟩:=pJ I.bU hd;have hlen:kvs.length=vs.length:=Paired.length kv;obtain⟨ep,IU⟩:=dd.dictAt;refine Calls.call_function_entry kind_sorted plain_sorted entry_sorted (args_sorted1 _) ?_;unfold Builtin.«sorted»;refine wpAny_bind (m:=checkCount "sorted" 1 1 _) (wpAny_pure ?_);refine wpAny_bind (kdu_collect (A:=X.A.in1) (kdl_dict (kvs:=vs) (ep:=ep) lo) (I.ok.hd hc) IU (by rw[<-hlen,sizeLine_eq];lia) λh' tk acc hk zX=>?_);have hl:acc.toList.length=vs.length:=by rw[aam];exact zX.1
 have hI:IntsAre acc.toList (kC kvs):=by
  have all:∀(j:Nat) v,acc.toList[j]?=some v->∃i t,v=Value.int i t/\(kC kvs)[j]?=some i:=λj v e=>by
   obtain⟨k,x,hx,hk⟩:=zX.2 j v (by rw[<-Array.getElem?_toList];exact e);obtain⟨p,e1,e2⟩:∃p,kvs[j]?=some p/\p.1=k:=by
    have:∀{as:List (Key×V)} {bs:List (Key×Value)} (j:Nat) {b},KV as bs->bs[j]?=some b->∃a,as[j]?=some a/\a.1=b.1:=by
     intro as bs j b r
     induction r generalizing j with
     | nil=>intro e;simp at e
     | cons r1 r2 ih=>
      intro e;cases j with
      | zero=>simp at e;subst e;exact⟨_,rfl,r1.1⟩
      | succ j=>simp at e;obtain⟨a,e1,e2⟩:=ih j e;exact⟨a,by simpa using e1,e2⟩
    obtain⟨a,e1,e2⟩:=this j kv hx;exact⟨a,e1,e2⟩
   obtain⟨i,hi⟩:=Ct p (ZS e1);rw[<-e2,hi] at hk;have hk:qU (.inl i) v=true:=hk;rcases cL hk with ⟨i',t,e3,e4⟩ | ⟨x',t,e3,_⟩
   ·cases e3;refine⟨i,t,e4,?_⟩;unfold kC;rw[ZE,e1];simp [hi]
   ·cases e3
  have go:∀(us:List Value) (ns:List Int),us.length=ns.length->(∀(j:Nat) v,us[j]?=some v->∃i t,v=Value.int i t/\ns[j]?=some i)->IntsAre us ns:=by
   intro us
   induction us with
   | nil=>intro ns hl _;cases ns with | nil=>exact .nil | cons _ _=>simp at hl
   | cons u us ih=>
    intro ns hl k;cases ns with
    | nil=>simp at hl
    | cons n ns=>
     obtain⟨i,t,rfl,e⟩:=k 0 u rfl;simp at e;subst e;exact .cons n t (ih ns (by simpa using hl) λj v e=>by
      obtain⟨i,t,e1,e2⟩:=k (j+1) v (by simpa using e);exact⟨i,t,e1,by simpa using e2⟩)
  refine go _ _ ?_ all;unfold kC;rw[ZA,hl,hlen]
 refine wpAny_bind (wpAny_newList ?_ (by rw[hl,<-hlen,sizeLine_eq];lia));have MI:(h'.push (seqObj "list" acc.toList.toArray 0)).get? h'.objs.size=some (seqObj "list" acc.toList.toArray 0):=aaM _ rfl;have I1:Inv X pins σ H {s with heap:=h',toks:=tk}:=I.kept (t':=tk) hk;refine wpAny_bind (wpAny_holding (wpAny_call_entry slot_list_sort ⟨_,MI,rfl⟩ entry_list_sort (list_sort_tree MI hI (by lia) λout Dc a1 a2 a3=>⟨_,rfl,?_⟩) (args_list_sort _)));obtain rfl:=Nm.vT a2 a3;obtain⟨e,he⟩:=sortedHeap_at (out:=out) MI;have fr:=I1.bU.fresh (a:=h'.objs.size) (ZD _);refine wpAny_pure ⟨_,rfl,.ref h'.objs.size,_,I1.laid (t':=tk) (λb o eb=>?_) (ZD _) (o:=.lst (List.map V.int (Nm.vS (kC kvs)))) ⟨?_,out.toList,e,iq a1,?_⟩,rfl,q _ fr⟩
 ·rw[sortedHeap_old (ZK (aaN eb)) (by rw[Heap.size_push];exact Nat.lt_succ_of_lt (aaN eb))];exact aaL _ eb
 ·rw[ZA,Nm.ip,sizeLine_eq];unfold kC;rw[ZA];lia
 ·exact he
end
section
variable {X : Cx} {pins : List (Addr × Obj)} {σ : St} {H : Hp} {s : Shared}
end
noncomputable def Vv (d:Addr) (o:Obj) (kvs:List (Key×V)):It:=
 ⟨λi H=>H d=some (.xq o (.dK kvs))/\i<kvs.length,λi H x H'=>H'=H/\∃p,kvs[i]?=some p/\x=kV p.1,λi H=>H d=some (.xq o (.dK kvs))/\i=kvs.length⟩
section
variable {X : Cx} {x : Str} {Vw : Pos}
end
end L2
namespace L2
open PySem PySem.Spec PyProof.Rows PySem.W
section
variable {X : Cx} {K : aaB}
theorem bA {tg l:Expr} {tl:TE} (hl:PE X l tl) (hK:X.K=K:=by rfl):PI X tg l (iList K tl):=by subst hK;exact GB hl
theorem ub {elts:List Expr} {kk:Nat} {p3:Pos} {a:Expr} {ta:TA} {p pos:Pos} (hg:Gl X "enumerate") (hm:X.mg "enumerate"=none) (ha:PA X [a] ta) (n1:noStar a=true:=by rfl) (hK:X.K=K:=by rfl):
  PI X (.Tuple elts kk p3) (.Call (.Name "enumerate" p) [a] [] pos) (iEnum K ta):=by subst hK;exact vR hg hm ha (by rw[se n1];rfl)
theorem fJ {es:List Expr} {k:Nat} {t:IH} {n:Nat} {pos:Pos} (hc:X.calm=true) (h:L9 X es t) (hn:(assignEach es X.env).length=n:=by rfl) (hst:(assignEach es X.env).findIdx? (·.1)=none:=by rfl) (hK:X.K=K:=by rfl):PG X (.Tuple es k pos) (Cd K n t):=by
 subst hK;exact JK hc h hn hst
theorem vd (hK:X.K=K:=by rfl):Ge X (J8 K):=by subst hK;exact DM
theorem lE (hK:X.K=K:=by rfl):cQ X (.builtin "len") (λxs H Q=>∃p ns,xs=[.ref p]/\bL K H p (List.map V.int ns)/\Q (.int (List.length ns:Nat)) H):=by subst hK;exact Cw
theorem Ab (hK:X.K=K:=by rfl):jF X (compareOp .In) (JU K false):=by subst hK;exact u5
theorem kD (hK:X.K=K:=by rfl):jF X (compareOp .NotIn) (JU K true):=by subst hK;exact vL
theorem dU (hK:X.K=K:=by rfl):cQ X (.type "list") (λxs H Q=>∃p ys,xs=[.ref p]/\(bL K H p ys\/kz K H p ys)/\∀l,H l=none->Q (.ref l) (upd H l (.lst ys))):=by subst hK;exact vM
theorem jJ (hK:X.K=K:=by rfl):cQ X (.builtin "isinstance") (λxs H Q=>∃x c t b,xs=[x,.ty c]/\mC K H x t/\PySem.W.kitOne K t (.type c)=some b/\Q (.bl b) H):=by subst hK;exact DN
theorem ve (hK:X.K=K:=by rfl):cQ X (.builtin "isinstance") (λxs H Q=>∃ad C c v b,xs=[.ref ad,c]/\H ad=some (DU ad (.ref C))/\ff K C/\Mc c=some v/\kitOne K (.ref C) v=some b/\Q (.bl b) H):=by subst hK;exact D2
theorem Ac (hK:X.K=K:=by rfl):cQ X (.builtin "isinstance") (λxs H Q=>∃ad C p cs vs b,xs=[.ref ad,.ref p]/\H ad=some (DU ad (.ref C))/\ff K C/\H p=some (.tup cs)/\cs.mapM Mc=some vs/\kitAny K (.ref C) vs=some b/\Q (.bl b) H):=by subst hK;exact CD
theorem i4 (hc:X.calm=true:=by rfl) (hK:X.K=K:=by rfl):cQ X (.builtin "sum") (λxs H Q=>∃p ns,xs=[.ref p]/\bL K H p (List.map V.int ns)/\Q (.int ns.sum) H):=by subst hK;exact Aa hc
theorem rD (hK:X.K=K:=by rfl):cQ X (.builtin "sorted") (λxs H Q=>∃p ns,xs=[.ref p]/\bL K H p (List.map V.int ns)/\ns.length<64/\∀l,H l=none->Q (.ref l) (upd H l (.lst (List.map V.int (Nm.vS ns))))):=by subst hK;exact t9
theorem rE (hc:X.calm=true:=by rfl):cQ X (.builtin "sorted") (λxs H Q=>∃d kvs,xs=[.ref d]/\Rd H d (.dK kvs)/\allI kvs/\kvs.length<64/\∀l,H l=none->Q (.ref l) (upd H l (.lst (List.map V.int (Nm.vS (kC kvs)))))):=ua hc
theorem rF (hK:X.K=K:=by rfl):MT X (rSlL K):=by subst hK;exact GL
theorem JX.r {id:String} {r:V->List V->Hp->VK->Prop} (h:JX X id r):IM X id r:=h
end
end L2
namespace Nm
abbrev Ws:=List (Int×Int)
noncomputable def keys (ws:Ws):List Int:=ws.map (·.1)
noncomputable def look:Ws->Int->Int
 | [],_=>0
 | p::r,k=>if p.1=k then p.2 else look r k
noncomputable def put:Ws->Int->Int->Ws
 | [],k,v=>[(k,v)]
 | p::r,k,v=>if p.1=k then (k,v)::r else p::put r k v
noncomputable def rG (ws:Ws):Int:=(ws.map (·.2)).sum
noncomputable def jR (ws:Ws) (k x:Int):Ws:=put ws k (look ws k+x)
noncomputable def cU (ws ps:Ws):Ws:=ps.foldl (λacc p=>jR acc p.1 p.2) ws
noncomputable def cnt (ps:Ws) (s:Int):Int:=(ps.map λp=>if p.1=s then p.2 else 0).sum
set_option tactic.hygienic true in
theorem xX:∀(ws:Ws) (k v j:Int),look (put ws k v) j=if k=j then v else look ws j
 | [],k,v,j=>by simp [put,look]
 | p::r,k,v,j=>by
  unfold put
  split
  ·rename_i c
   simp only[look]
   by_cases e:k=j
   ·simp [e]
   ·rw[if_neg e,if_neg e,if_neg (by lia)]
  ·rename_i c
   simp only[look]
   by_cases e:p.1=j
   ·rw[if_pos e,if_neg (by lia),if_pos e]
   ·rw[if_neg e,if_neg e];exact xX r k v j
set_option tactic.hygienic true in
theorem Bm {ws:Ws} {k v j:Int}:j∈keys (put ws k v)↔j=k\/j∈keys ws:=by
 induction ws with
 | nil=>simp [put,keys]
 | cons p r ih=>
  unfold put
  split
  ·rename_i c
   simp only[keys,ZC,aaj];rw[c];constructor
   ·intro h;exact .inr h
   ·rintro(h | h)
    ·exact .inl h
    ·exact h
  ·simp only[keys,ZC,aaj] at ih ⊢;rw[ih];constructor
   ·rintro(h | h | h)
    ·exact .inr (.inl h)
    ·exact .inl h
    ·exact .inr (.inr h)
   ·rintro(h | h | h)
    ·exact .inr (.inl h)
    ·exact .inl h
    ·exact .inr (.inr h)
set_option tactic.hygienic true in
theorem CG {ws:Ws} (k v:Int) (h:(keys ws).Nodup):(keys (put ws k v)).Nodup:=by
 induction ws with
 | nil=>simp [put,keys]
 | cons p r ih=>
  have h':p.1∉keys r/\(keys r).Nodup:=by simpa [keys] using h
  unfold put
  split
  ·rename_i c
   have:k∉keys r/\(keys r).Nodup:=by rw[<-c];exact h'
   simpa [keys] using this
  ·rename_i c
   have i:=ih h'.2;have n:p.1∉keys (put r k v):=λz=>by
    rcases Bm.mp z with z | z
    ·exact c z
    ·exact h'.1 z
   have:p.1∉keys (put r k v)/\(keys (put r k v)).Nodup:=⟨n,i⟩
   simpa [keys] using this
theorem xY:∀(ws:Ws) (k x:Int),rG (jR ws k x)=rG ws+x
 | [],k,x=>by simp [jR,put,look,rG]
 | p::r,k,x=>by
  have ih:=xY r k x;unfold jR rG at *;unfold put look
  by_cases c:p.1=k
  ·rw[if_pos c,if_pos c];simp only[ZC,List.sum_cons];lia
  ·rw[if_neg c,if_neg c];simp only[ZC,List.sum_cons];lia
theorem G6 (ws:Ws) (k v:Int):(put ws k v).length<=ws.length+1:=by
 induction ws with
 | nil=>simp [put]
 | cons p r ih=>
  unfold put
  split
  ·simp
  ·simp only[ZP];lia
theorem pK:∀(ps ws:Ws) (s:Int),look (cU ws ps) s=look ws s+cnt ps s
 | [],ws,s=>by simp [cU,cnt]
 | p::r,ws,s=>by
  have ih:=pK r (jR ws p.1 p.2) s;show look (cU (jR ws p.1 p.2) r) s=_;rw[ih];unfold jR cnt;rw[xX];simp only[ZC,List.sum_cons]
  by_cases c:p.1=s
  ·rw[if_pos c,if_pos c,c];lia
  ·rw[if_neg c,if_neg c];lia
theorem lF {s:Int}:∀{ps ws:Ws},s∈keys (cU ws ps)↔s∈keys ws\/s∈keys ps
 | [],ws=>by simp [cU,keys]
 | p::r,ws=>by
  show s∈keys (cU (jR ws p.1 p.2) r)↔_;rw[lF];unfold jR;rw[Bm];simp only[keys,ZC,aaj];constructor
  ·rintro((h | h) | h)
   ·exact .inr (.inl h)
   ·exact .inl h
   ·exact .inr (.inr h)
  ·rintro(h | h | h)
   ·exact .inl (.inr h)
   ·exact .inl (.inl h)
   ·exact .inr h
theorem mO:∀{ps ws:Ws},(keys ws).Nodup->(keys (cU ws ps)).Nodup
 | [],_,h=>h
 | p::r,ws,h=>by
  show(keys (cU (jR ws p.1 p.2) r)).Nodup;exact mO (CG _ _ h)
theorem rH:∀(ps ws:Ws),rG (cU ws ps)=rG ws+rG ps
 | [],ws=>by simp [cU,rG]
 | p::r,ws=>by
  show rG (cU (jR ws p.1 p.2) r)=_;rw[rH,xY];unfold rG;simp only[ZC,List.sum_cons];lia
theorem rJ:∀(ps ws:Ws),(cU ws ps).length<=ws.length+ps.length
 | [],ws=>by simp [cU]
 | p::r,ws=>by
  have h:=rJ r (jR ws p.1 p.2);have h2:=G6 ws p.1 (look ws p.1+p.2);show(cU (jR ws p.1 p.2) r).length<=_;unfold jR at *;simp only[ZP];lia
structure Over (as ws:Ws) (B T:Int):Prop where
 nd:(keys ws).Nodup
 perm:(keys as).Perm (keys ws)
 val:∀k∈keys ws,look as k*T=look ws k*B
theorem c8 {ws:Ws} {p:Int×Int} (h:(keys ws).Nodup) (hp:p∈ws):look ws p.1=p.2:=by
 induction ws with
 | nil=>cases hp
 | cons q r ih=>
  have h':q.1∉keys r/\(keys r).Nodup:=by simpa [keys] using h
  unfold look;rcases aaj.mp hp with rfl | hp
  ·rw[if_pos rfl]
  ·rw[if_neg (λz=>h'.1 (by rw[z];exact aaJ.mpr ⟨p,hp,rfl⟩))];exact ih h'.2 hp
noncomputable def rowsOf (ws:Ws) (B:Int):List (Int×Int×Int):=(vS (keys ws)).map λv=>(v,st (look ws v) B,sb (look ws v) B)
theorem uc (ws p q:Ws):cU ws (p++q)=cU (cU ws p) q:=by
 unfold cU;rw[List.foldl_append]
theorem xZ (ws p:Ws) (k x:Int):cU ws (p++ [(k,x)])=jR (cU ws p) k x:=by
 rw[uc];rfl
theorem Bn:∀{l:List Int},0<l.length->(∀x∈l,0<x)->0<l.sum
 | [],h,_=>by simp at h
 | x::r,_,h=>by
  have hx:=h x ZL;rw[List.sum_cons]
  by_cases c:0<r.length
  ·have:=Bn c λy hy=>h y (ZI _ hy);lia
  ·have:r=[]:=List.eq_nil_of_length_eq_zero (by lia);subst this
   simpa using hx
theorem Kn {ws:Ws} (nd:(keys ws).Nodup) {P:Int->Prop} (h:∀k∈keys ws,P (look ws k)):∀x∈ws.map (·.2),P x:=λx hx=>by
 obtain⟨p,hp,rfl⟩:=aaJ.mp hx;have:=h p.1 (aaJ.mpr ⟨p,hp,rfl⟩)
 rwa [c8 nd hp] at this
theorem G7 {ws:Ws} (h:0<ws.length) (nd:(keys ws).Nodup) (w:∀k∈keys ws,0<look ws k):0<rG ws:=
 Bn (by rw[ZA];exact h) (Kn nd w)
theorem Ko {ps:Ws} (h:∀p∈ps,0<p.2) (s:Int):0<=cnt ps s:=by
 induction ps with
 | nil=>simp [cnt]
 | cons p r ih=>
  have i:=ih λq hq=>h q (ZI _ hq);have hp:=h p ZL;unfold cnt at *;rw[ZC,List.sum_cons]
  split <;>lia
theorem qF {ps:Ws} (h:∀p∈ps,0<p.2) {s:Int} (hs:s∈keys ps):0<cnt ps s:=by
 induction ps with
 | nil=>simp [keys] at hs
 | cons p r ih=>
  have h':∀q∈r,0<q.2:=λq hq=>h q (ZI _ hq);have hp:=h p ZL;have n:=Ko h' s;have e:cnt (p::r) s=(if p.1=s then p.2 else 0)+cnt r s:=by unfold cnt;rw[ZC,List.sum_cons]
  rw[e]
  by_cases c:p.1=s
  ·rw[if_pos c];lia
  ·rw[if_neg c];have Nf:s∈keys r:=by
    unfold keys at hs ⊢;rw[ZC] at hs;rcases aaj.mp hs with z | z
    ·exact absurd z.symm c
    ·exact z
   have:=ih h' Nf;lia
end Nm
namespace L2
open PySem PySem.Spec PyProof.Rows
noncomputable def enc (ws:Nm.Ws):List (Key×V):=ws.map λp=>(Sum.inl p.1,V.int p.2)
theorem vU (ws:Nm.Ws):(enc ws).length=ws.length:=by unfold enc;rw[ZA]
theorem CH (ws:Nm.Ws):kC (enc ws)=Nm.keys ws:=by
 unfold kC enc Nm.keys;rw[Z1];rfl
theorem Ec (ws:Nm.Ws):allI (enc ws):=λp hp=>by
 unfold enc at hp;obtain⟨q,_,rfl⟩:=aaJ.mp hp;exact⟨q.1,rfl⟩
theorem Bo (ws:Nm.Ws) (k:Int):dP (enc ws) (Sum.inl k)=if k∈Nm.keys ws then some (.int (Nm.look ws k)) else none:=by
 induction ws with
 | nil=>simp [enc,dP,Nm.keys]
 | cons p r ih=>
  unfold dP at *;unfold enc at *;rw[ZC,List.find?_cons];unfold Nm.look
  by_cases c:p.1=k
  ·rw[show decide ((Sum.inl p.1:Key)=Sum.inl k)=true by rw[c];simp];simp [Nm.keys,c]
  ·rw[show decide ((Sum.inl p.1:Key)=Sum.inl k)=false by simpa using c];simp only[ih];have e:(k∈Nm.keys (p::r))=(k∈Nm.keys r):=by
    unfold Nm.keys;rw[ZC,aaj];apply propext;constructor
    ·rintro(h | h)
     ·exact absurd h.symm c
     ·exact h
    ·exact .inr
   simp only[e,if_neg c]
theorem G8 {ws:Nm.Ws} (nd:(Nm.keys ws).Nodup) (k v:Int):putK (enc ws) (Sum.inl k) (.int v)=enc (Nm.put ws k v):=by
 have key:∀{ws:Nm.Ws},k∉Nm.keys ws->(enc ws).map (λkv=>if kv.1=(Sum.inl k:Key) then (kv.1,V.int v) else kv)=enc ws:=by
  intro ws h;unfold enc;rw[Z1];apply List.map_congr_left;intro p hp;have:p.1≠k:=λz=>h (by rw[<-z];exact aaJ.mpr ⟨p,hp,rfl⟩);simp [this]
 have any:∀ws:Nm.Ws,((enc ws).any λkv=>decide (kv.1=(Sum.inl k:Key)))=decide (k∈Nm.keys ws):=by
  intro ws
  induction ws with
  | nil=>simp [enc,Nm.keys]
  | cons p r ih=>
   unfold enc at *;rw[ZC,List.any_cons,ih];unfold Nm.keys;rw[ZC]
   by_cases c:p.1=k
   ·simp [c]
   ·have c2:¬k=p.1:=λz=>c z.symm;simp [c,c2]
 unfold putK;rw[any];clear any
 by_cases c:k∈Nm.keys ws
 ·rw[if_pos (by simpa using c)]
  induction ws with
  | nil=>simp [Nm.keys] at c
  | cons p r ih=>
   have h':p.1∉Nm.keys r/\(Nm.keys r).Nodup:=by simpa [Nm.keys] using nd
   unfold Nm.put
   by_cases e:p.1=k
   ·rw[if_pos e];have:=key (ws:=r) (by rw[<-e];exact h'.1);unfold enc at *;rw[ZC,ZC,this,ZC];simp [e]
   ·rw[if_neg e];have c':k∈Nm.keys r:=by
     unfold Nm.keys at c ⊢;rw[ZC] at c;rcases aaj.mp c with z | z
     ·exact absurd z.symm e
     ·exact z
    have:=ih h'.2 c';unfold enc at *;rw[ZC,ZC,this,ZC];simp [e]
 ·rw[if_neg (by simpa using c)]
  induction ws with
  | nil=>simp [enc,Nm.put]
  | cons p r ih=>
   have h':p.1∉Nm.keys r/\(Nm.keys r).Nodup:=by simpa [Nm.keys] using nd
   have e:¬p.1=k:=λz=>c (by unfold Nm.keys;rw[ZC,z];exact ZL);have c':k∉Nm.keys r:=λz=>c (by unfold Nm.keys at *;rw[ZC];exact ZI _ z);unfold Nm.put;rw[if_neg e];have:=ih h'.2 c';unfold enc at *;rw[ZC,aae,this,ZC]
theorem G9 {H:Hp} {d:Addr} {ws:Nm.Ws} {v:Int} (h:Rd H d (.dK (enc ws))) (hv:v∈Nm.keys ws):jQ H d (.int v) (some (.int (Nm.look ws v))):=
 .inl ⟨_,Sum.inl v,h,rfl,by rw[Bo,if_pos hv]⟩
theorem Ed {H:Hp} {d:Addr} {ws:Nm.Ws} {v:Int} (h:H d=some (.dK (enc ws))) (hv:v∈Nm.keys ws):jQ H d (.int v) (some (.int (Nm.look ws v))):=G9 (.inl h) hv
theorem Ee {ws:Nm.Ws} {v:Int} (h:v∉Nm.keys ws):Nm.look ws v=0:=by
 induction ws with
 | nil=>rfl
 | cons p r ih=>
  unfold Nm.keys at h;rw[ZC] at h;unfold Nm.look;rw[if_neg (λz=>h (by rw[z];exact ZL))];exact ih λz=>h (ZI _ z)
theorem CI {H:Hp} {d:Addr} {ws:Nm.Ws} (v:Int) (h:Rd H d (.dK (enc ws))):∃o,jQ H d (.int v) o/\o.getD (.int 0)=.int (Nm.look ws v):=by
 refine⟨_,.inl ⟨_,Sum.inl v,h,rfl,rfl⟩,?_⟩;rw[Bo]
 by_cases c:v∈Nm.keys ws
 ·rw[if_pos c];rfl
 ·rw[if_neg c,Ee c];rfl
theorem Ef {H:Hp} {d:Addr} {ws:Nm.Ws} (v x:Int) (h:H d=some (.dK (enc ws))) (nd:(Nm.keys ws).Nodup) (hl:ws.length<sizeLine):zT H d (.int v) (.int x) (upd H d (.dK (enc (Nm.put ws v x)))):=by
 have:=zT.k (k:=Sum.inl v) (v:=.int x) h (by rw[vU];exact hl);rw[G8 nd] at this;exact this
noncomputable def Ha (r:Int×Int×Int):Dat:=.tup [.int r.1,.tup [.int r.2.1,.int r.2.2]]
noncomputable def mP (rows:List (Int×Int×Int)):Dat:=.lst (rows.map Ha)
noncomputable def dM (p:Int×Int):Dat:=.tup [.int p.1,.int p.2]
noncomputable def Eg (ws:Nm.Ws):Dat:=.lst (ws.map dM)
theorem qG {H:Hp} {r:Int×Int×Int} {v:V}:Rep H (Ha r) v↔∃p q,v=.ref p/\H p=some (.tup [.int r.1,.ref q])/\H q=some (.tup [.int r.2.1,.int r.2.2]):=by
 unfold Ha;simp only[Rep,bo];constructor
 ·rintro⟨p,vs,rfl,hp,a,b,rfl,rfl,c,d,rfl,⟨q,us,rfl,hq,e,f,rfl,rfl,g,h,rfl,rfl,rfl⟩,rfl⟩;exact⟨p,q,rfl,hp,hq⟩
 ·rintro⟨p,q,rfl,hp,hq⟩;exact⟨p,_,rfl,hp,_,_,rfl,rfl,_,_,rfl,⟨q,_,rfl,hq,_,_,rfl,rfl,_,_,rfl,rfl,rfl⟩,rfl⟩
theorem cA {H:Hp} {r:Int×Int} {v:V}:Rep H (dM r) v↔∃p,v=.ref p/\H p=some (.tup [.int r.1,.int r.2]):=by
 unfold dM;simp only[Rep,bo];constructor
 ·rintro⟨p,vs,rfl,hp,a,b,rfl,rfl,c,d,rfl,rfl,rfl⟩;exact⟨p,rfl,hp⟩
 ·rintro⟨p,rfl,hp⟩;exact⟨p,_,rfl,hp,_,_,rfl,rfl,_,_,rfl,rfl,rfl⟩
theorem bh {H:Hp} {ds:List Dat} {v:V}:Rep H (.lst ds) v↔∃p vs,v=.ref p/\H p=some (.lst vs)/\bo H ds vs:=by rw[Rep]
noncomputable def S6 (H H':Hp):Prop:=∀p xs,(H p=some (.tup xs)->H' p=some (.tup xs))/\(H p=some (.lst xs)->H' p=some (.lst xs))
mutual
theorem Rep.Ni {H H':Hp} (s:S6 H H'):∀{d:Dat} {v:V},Rep H d v->Rep H' d v
 | .cW,_,h=>by rw[Rep] at *;exact h
 | .bl _,_,h=>by rw[Rep] at *;exact h
 | .int _,_,h=>by rw[Rep] at *;exact h
 | .str _,_,h=>by rw[Rep] at *;exact h
 | .tup _,_,h=>by
  rw[Rep] at *;obtain⟨p,vs,e,hp,r⟩:=h;exact⟨p,vs,e,(s _ _).1 hp,bo.Ni s r⟩
 | .lst _,_,h=>by
  rw[Rep] at *;obtain⟨p,vs,e,hp,r⟩:=h;exact⟨p,vs,e,(s _ _).2 hp,bo.Ni s r⟩
theorem bo.Ni {H H':Hp} (s:S6 H H'):∀{ds:List Dat} {vs:List V},bo H ds vs->bo H' ds vs
 | [],_,h=>by rw[bo] at *;exact h
 | _::_,_,h=>by
  rw[bo] at *;obtain⟨v,r,e,h1,h2⟩:=h;exact⟨v,r,e,Rep.Ni s h1,bo.Ni s h2⟩
end
theorem none_of {H H':Hp} (s:aF H H') {p:Addr} (h:H' p=none):H p=none:=by
 cases e:H p with
 | none=>rfl
 | some o=>rw[s p o e] at h;cases h
end L2
namespace Nm
end Nm
namespace L2
open PySem PySem.Spec PyProof.Rows
theorem vf {α:Type} {J:It} {tc:TT} {te:TE} {tl:St} {H1:Hp} {fin:List V->Hp->Prop} {Item:Nat->V->Hp->Hp->Prop} (as:List α) (f:α->Option Int) (S:Src J (aF H1) as.length Item) (sub:∀i x H H3,Item i x H H3->H3=H) (hz:as.length<=sizeLine)
  (hs:∀i a x,as[i]?=some a->Item i x H1 H1->∀(Y:VK) (N:Hp->Prop),(∀z,f a=some z->Y (.int z) H1)->(f a=none->N H1)->tc (some x::tl) H1 λb H5=>if b=true then te (some x::tl) H5 Y else N H5)
  (oy:fin (List.map V.int (as.filterMap f)) H1):fV J (gName 0) tc te (none::tl) H1 fin:=by
 refine gW S (λσ=>∃w0,σ=w0::tl) ⟨_,rfl⟩ (λi ys H=>H=H1/\ys=List.map V.int ((as.take i).filterMap f)) ⟨rfl,by simp⟩ hz ?_ ?_
 ·rintro i x σ H ys H3 Q N hi sm ⟨rfl,rfl⟩ hl ⟨w0,rfl⟩ it kq kn;obtain rfl:=sub _ _ _ _ it;have ea:as[i]?=some as[i]:=ZH hi;refine hs i _ x ea it _ _ (λz e=>kq _ _ _ ⟨_,rfl⟩ sm ⟨rfl,?_⟩) (λe=>kn _ _ ⟨_,rfl⟩ sm ⟨rfl,?_⟩)
  ·rw[Z2,ea,aau,ZG];simp [e]
  ·rw[Z2,ea,aau,ZG];simp [e]
 ·rintro ys H sm ⟨rfl,rfl⟩ hl;rw[ZQ (ZD _)];exact oy
theorem rK {K:aaB} {α:Type} {J:It} {tc:TT} {te:TE} {tl:St} {H1:Hp} {fin:List V->Hp->Prop} {Item:Nat->V->Hp->Hp->Prop} (as:List α) (f:α->Option Int) (S:Src J (aF H1) as.length Item) (sub:∀i x H H3,Item i x H H3->H3=H) (hz:as.length<=sizeLine)
  (hs:∀i a x,as[i]?=some a->Item i x H1 H1->∃p u v,x=.ref p/\kz K H1 p [u,v]/\∀(Y:VK) (N:Hp->Prop),(∀z,f a=some z->Y (.int z) H1)->(f a=none->N H1)->tc (some u::some v::tl) H1 λb H5=>if b=true then te (some u::some v::tl) H5 Y else N H5)
  (oy:fin (List.map V.int (as.filterMap f)) H1):fV J (Cd K 2 (gCons (gName 0) (gCons (gName 1) gNil))) tc te (none::none::tl) H1 fin:=by
 refine gW S (λσ=>∃w0 w1,σ=w0::w1::tl) ⟨_,_,rfl⟩ (λi ys H=>H=H1/\ys=List.map V.int ((as.take i).filterMap f)) ⟨rfl,by simp⟩ hz ?_ ?_
 ·rintro i x σ H ys H3 Q N hi sm ⟨rfl,rfl⟩ hl ⟨w0,w1,rfl⟩ it kq kn;obtain rfl:=sub _ _ _ _ it;have ea:as[i]?=some as[i]:=ZH hi;obtain⟨p,u,v,rfl,sq,k⟩:=hs i _ x ea it;refine⟨p,_,rfl,sq,rfl,_,_,rfl,_,_,rfl,rfl,?_⟩;refine k _ _ (λz e=>kq _ _ _ ⟨_,_,rfl⟩ sm ⟨rfl,?_⟩) (λe=>kn _ _ ⟨_,_,rfl⟩ sm ⟨rfl,?_⟩)
  ·rw[Z2,ea,aau,ZG];simp [e]
  ·rw[Z2,ea,aau,ZG];simp [e]
 ·rintro ys H sm ⟨rfl,rfl⟩ hl;rw[ZQ (ZD _)];exact oy
theorem Hc {α β:Type} (f:α->β) (l:List α):l.filterMap (λa=>some (f a))=l.map f:=by
 rw[<-List.filterMap_eq_map];rfl
end L2
namespace L2
open PySem PySem.Spec PyProof.Rows PySem.W
section
variable {X : Cx} {K : aaB}
theorem Kq {as:List (Key×V)} {bs:List (Key×Value)} (r:KV as bs):∀(j:Nat) {b},bs[j]?=some b->∃a,as[j]?=some a/\RelV a.2 b.2:=by
 induction r with
 | nil=>intro j b e;simp at e
 | cons r1 r2 ih=>
  intro j b e;cases j with
  | zero=>simp at e;subst e;exact⟨_,rfl,r1.2⟩
  | succ j=>simp at e;obtain⟨a,e1,e2⟩:=ih j e;exact⟨a,by simpa using e1,e2⟩
theorem x6 (ns:List Int):preSum (λi=>ns.getD i 0) ns.length=ns.sum:=by
 have e:=preSum_eq (ns.map λn=>(n,(0:Nat))).toArray ns.length;have f:(λi=>ns.getD i 0)=numAt (ns.map λn=>(n,(0:Nat))).toArray:=by
  funext i;unfold numAt;simp only[List.getElem?_toArray,ZE,aai];cases ns[i]? <;>rfl
 rw[f];refine e.trans ?_;rw[ZQ (by simp)];congr 1;simp [Function.comp_def]
noncomputable def tSumV (to:TE):TE:=λσ H Q=>to σ H λv H1=>∃d kvs ns,v=.ref d/\H1 d=some (.dK kvs)/\kvs.map (·.2)=List.map V.int ns/\Q (.int ns.sum) H1
theorem Ad {o:Expr} {to:TE} {p apos dS pos:Pos} (hc:X.calm=true) (hg:Gl X "sum") (hm:X.mg "sum"=none) (ho:PE X o to)
  (xM:attributeBase o "values" X.env (eval o X.env)=eval o X.env:=by rfl) (xN:(apos.endLine==dS.line)=true:=by rfl)
  (he:starEach [Expr.Call (.Attribute o "values" apos) [] [] dS] X.env=[(false,eval (.Call (.Attribute o "values" apos) [] [] dS) X.env)]:=by rfl):
  PE X (.Call (.Name "sum" p) [.Call (.Attribute o "values" apos) [] [] dS] [] pos) (tSumV to):=by
 intro pins s σ H Q I h;refine wpAny_Call_Name_kw (gI I hg hm (u:=.builtin "sum") rfl ?_ ∅ ∅);rw[he];refine PySem.callWith_builtin1 ?_;refine wpAny_Call_method0_late xM xN (cG (ho pins s σ H _ I h) λv s1 dC=>?_);obtain⟨x,H1,I1,r1,q1⟩:=dC;obtain⟨d,kvs,ns,rfl,hd,hv,q⟩:=q1;obtain⟨h1,h2⟩:=zP (T:="dict") I1 r1 (.inr (.inr (.inl ⟨rfl,.inl ⟨_,hd⟩⟩)));cases r1;obtain⟨hz,lo,vs,kv,dd⟩:=DI I1.bU hd;have hlen:kvs.length=vs.length:=Paired.length kv;refine⟨"dict","dict.values",PySem.F.plainAttrs_dict,PySem.F.slot_dict_values,PySem.F.type_dict_values,h1,h2,Calls.callWith_builtin rfl (PySem.evalArgs_none ?_)⟩;refine call_meetsIn PySem.F.slot_dict_values dd.typeIs PySem.F.entry_dict_values (PySem.F.args_dict_values_1 _) (meets_dict_values _ d lo) ⟨⟨vs,dd⟩,?_⟩;have I2:Inv X pins σ H1 {s1 with heap:=s1.heap.push {cls:=.type "dict_values",data:=.fields #[.ref d]}}:=I1.kept (t':=s1.toks) λb o e=>aaL _ e;obtain⟨hz,lo,vs,kv,dd⟩:=DI I2.bU hd;have hlen:kvs.length=vs.length:=Paired.length kv;obtain⟨ep,IU⟩:=dd.dictAt;have hn:ns.length=vs.length:=by
  have:=congrArg List.length hv;rw[ZA,ZA] at this;lia
 have Ks:=kdl_values (prog:=X.prog) (w:=X.w) (r:=s1.heap.objs.size) (d:=d) (knd:=cF X.prog X.w) (kvs:=vs) (ep:=ep);have bU:({s1 with heap:=s1.heap.push {cls:=.type "dict_values",data:=.fields #[.ref d]}}:Shared).heap.IsValuesView s1.heap.objs.size d/\({s1 with heap:=s1.heap.push {cls:=.type "dict_values",data:=.fields #[.ref d]}}:Shared).heap.DictAt (cF X.prog X.w) d vs ep:=⟨⟨_,aaM _ rfl,rfl,rfl⟩,IU⟩
 refine call_sum_walkAnyS ?_;obtain⟨oI,St,hit,W,st⟩:=Ks.iter X.A.in1 _ (I.ok.hd hc) bU;refine hit _ _ ⟨_,_,_,_,vs.length,_,_,λi=>ns.getD i 0,rfl,W.toS,st,λb hb=>?_,λi v hP=>?_,λs' t' O1=>?_⟩
 ·show b< (Heap.push _ oI).objs.size;rw[size_push'];rcases aaj.mp hb with e | hb
  ·rw[e];exact aan _
  ·rw[aaK.mp hb];exact Nat.lt_succ_of_lt (Ks.there _ bU).2
 ·obtain⟨k,e⟩:=hP;obtain⟨a,e1,e2⟩:=Kq kv i e;have e3:(kvs.map (·.2))[i]?=some a.2:=by rw[ZE,e1];rfl
  rw[hv,ZE] at e3;obtain⟨n,en,ea⟩:=aaH.mp e3;rw[<-ea] at e2;obtain⟨t,e2⟩:=e2;refine⟨t,?_⟩;show v=Value.int (ns.getD i 0) t;rw[aai,en];exact e2
 ·have hk:∀b o,(s1.heap.push {cls:=.type "dict_values",data:=.fields #[.ref d]}).get? b=some o->s'.heap.get? b=some o:=λb o e=>
   O1.heap b o (λhI=>absurd (aaN e) (by rw[aaK.mp hI];exact Z6 _)) (aaL _ e)
  rw[Moved.eq_with O1,<-hn,x6];exact⟨.int ns.sum,H1,I2.kept (t':=s'.toks) hk,⟨t',rfl⟩,q⟩
theorem eB {α:Type} {J:It} {tc:TT} {te:TE} {tl:St} {H1:Hp} {fin:List V->Hp->Prop} {Item:Nat->V->Hp->Hp->Prop} (as:List α) (f:α->Option V) (S:Src J (aF H1) as.length Item) (sub:∀i x H H3,Item i x H H3->H3=H) (hz:as.length<=sizeLine)
  (hs:∀i a x,as[i]?=some a->Item i x H1 H1->∀(Y:VK) (N:Hp->Prop),(∀z,f a=some z->Y z H1)->(f a=none->N H1)->tc (some x::tl) H1 λb H5=>if b=true then te (some x::tl) H5 Y else N H5)
  (oy:fin (as.filterMap f) H1):fV J (gName 0) tc te (none::tl) H1 fin:=by
 refine gW S (λσ=>∃w0,σ=w0::tl) ⟨_,rfl⟩ (λi ys H=>H=H1/\ys=(as.take i).filterMap f) ⟨rfl,by simp⟩ hz ?_ ?_
 ·rintro i x σ H ys H3 Q N hi sm ⟨rfl,rfl⟩ hl ⟨w0,rfl⟩ it kq kn;obtain rfl:=sub _ _ _ _ it;have ea:as[i]?=some as[i]:=ZH hi;refine hs i _ x ea it _ _ (λz e=>kq _ _ _ ⟨_,rfl⟩ sm ⟨rfl,?_⟩) (λe=>kn _ _ ⟨_,rfl⟩ sm ⟨rfl,?_⟩)
  ·rw[Z2,ea,aau];simp [e]
  ·rw[Z2,ea,aau];simp [e]
 ·rintro ys H sm ⟨rfl,rfl⟩ hl;rw[ZQ (ZD _)];exact oy
theorem dg {a b:TS} {D:Ends} {σ:St} {H:Hp} (C:St->Hp->Prop) (hb:∀σ' H',C σ' H'->b D σ' H') (ha:∀N:St->Hp->Prop,(∀σ' H',C σ' H'->N σ' H')->a {D with nx:=N} σ H):tSeq a b D σ H:=ha _ hb
theorem Eh {tc:TT} {a b:TS} {D:Ends} {σ:St} {H:Hp} (C1 C2:Hp->Prop) (h1:∀H',C1 H'->a D σ H') (h2:∀H',C2 H'->b D σ H')
  (ht:∀Y N:Hp->Prop,(∀H',C1 H'->Y H')->(∀H',C2 H'->N H')->tc σ H λv H'=>if v=true then Y H' else N H'):tIfS tc a b D σ H:=ht _ _ h1 h2
end
end L2
namespace Nm
noncomputable def pos (ps:Ws):Ws:=ps.filter λp=>decide (0<p.2)
noncomputable def kG (ps:Ws):Ws:=cU [] (pos ps)
noncomputable def bad (ps:Ws):Prop:=(∃p∈ps,p.2<0)\/pos ps=[]
theorem Ei (ps:Ws) (p:Int×Int):pos (ps++ [p])=if 0<p.2 then pos ps++ [p] else pos ps:=by
 unfold pos;rw[List.filter_append]
 by_cases c:0<p.2
 ·rw[if_pos c];simp [c]
 ·rw[if_neg c];simp [c]
theorem Ej (ps:Ws) (p:Int×Int):kG (ps++ [p])=if 0<p.2 then jR (kG ps) p.1 p.2 else kG ps:=by
 unfold kG;rw[Ei]
 split
 ·rw[xZ]
 ·rfl
theorem oz (ps:Ws):(keys (kG ps)).Nodup:=mO (by simp [keys])
theorem Bp (ps:Ws):(kG ps).length<=ps.length:=by
 have:=rJ (pos ps) [];have h2:(pos ps).length<=ps.length:=List.length_filter_le _ _;unfold kG;simp only[aap] at this;lia
theorem Bq {ps:Ws}:kG ps=[]↔pos ps=[]:=by
 constructor
 ·intro h;cases e:pos ps with
  | nil=>rfl
  | cons p r=>
   have m:p.1∈keys (kG ps):=by
    unfold kG;rw[e];exact lF.mpr (.inr (by simp [keys]))
   rw[h] at m;simp [keys] at m
 ·intro h;unfold kG;rw[h];rfl
theorem He (ps:Ws):∀p∈pos ps,0<p.2:=λp hp=>by
 unfold pos at hp
 simpa using (List.mem_filter.mp hp).2
theorem Hg (ps:Ws):∀k∈keys (kG ps),0<look (kG ps) k:=λk hk=>by
 unfold kG at *;rw[pK];have h:k∈keys (pos ps):=by
  rcases lF.mp hk with z | z
  ·simp [keys] at z
  ·exact z
 have:=qF (He ps) h;simp only[look];lia
theorem Hh (ps:Ws):rG (kG ps)=rG (pos ps):=by
 unfold kG;rw[rH];simp [rG]
theorem rL {c:Int} (c0:0<=c):∀{ps:Ws},(∀p∈ps,p.2<=c)->rG (pos ps)<=ps.length*c
 | [],_=>by simp [pos,rG]
 | p::r,h=>by
  have ih:=rL c0 λq hq=>h q (ZI _ hq);have hp:=h p ZL;rw[ZP,Int.natCast_succ,Int.add_mul];unfold pos at *;rw[List.filter_cons]
  split
  ·rw[show rG (p::List.filter (λp=>decide (0<p.2)) r)=p.2+rG (List.filter (λp=>decide (0<p.2)) r) from by unfold rG;rw[ZC,List.sum_cons]];lia
  ·lia
end Nm
namespace L2
open PySem PySem.Spec PyProof.Rows PySem.W
section
variable {X : Cx} {K : aaB}
theorem Br:∀{us:List Value} {ts:List Str},bC (ts.map V.str) us->∃l:List (Str×Tok),strValues l=us/\l.map (·.1)=ts
 | _,[],.nil=>⟨[],rfl,rfl⟩
 | _,x::ts,.cons r t=>by
  obtain⟨k,rfl⟩:=(r:∃k,_=Value.str x k)
  obtain⟨l,rfl,rfl⟩:=Br t;exact⟨(x,k)::l,rfl,rfl⟩
noncomputable def rJoin (K:aaB):V->List V->Hp->VK->Prop:=λx xs H Q=>∃sep p ts,x=.str sep/\xs=[.ref p]/\bL K H p (List.map V.str ts)/\JoinOk sep ts=true/\Q (.str (Txt.join sep ts)) H
theorem Hi:IM X "str.join" (rJoin X.K):=by
 intro pins s σ H x xs v us Q I rx rv h;obtain⟨sep,p,ts,rfl,rfl,hq,ok,q⟩:=h;obtain⟨t,rfl⟩:=rx;obtain⟨u,rfl,ru⟩:=vals1 rv;cases ru;obtain⟨bg,r,pl,hz⟩:=I.list hq;obtain⟨l,rfl,e2⟩:=Br r;exact SC.join pl.isList e2 ok λt' k=>⟨.str _,H,I.tok _,⟨_,rfl⟩,q⟩
theorem x8 (hK:X.K=K:=by rfl):IM X "str.join" (rJoin K):=by subst hK;exact Hi
theorem Ae:cQ X (.type "str") (λxs H Q=>∃i,xs=[.int i]/\i.natAbs.log2<1920/\Q (.str (toString i)) H):=vG
theorem Af:cQ X (.type "int") (λxs H Q=>∃k,xs=[.bl k]/\Q (.int (if k then 1 else 0)) H):=by
 intro pins s σ H xs us Q I r h;exact Ck pins s σ H xs us Q I r (.inr h)
abbrev TJ:=Str->TE
end
end L2
namespace L2
open PySem PySem.Spec PyProof.Rows PySem.W
inductive Pl where
 | fin (w:Int×Int) | dN (w:Int×Int) (ws:List (Int×Int)) | YC (kI:Int) (to:List Int)
theorem rM {ds:List Dat} {n:Nat} (h:∀d∈ds,depth d<=n):depth.dL ds<=n:=by
 induction ds with
 | nil=>rw[depth.dL];lia
 | cons d ds ih=>
  rw[depth.dL];have:=h d ZL;have:=ih λe he=>h e (ZI _ he);lia
theorem Ag (p:Int×Int):depth (dM p)=1:=by simp [dM,depth,depth.dL]
noncomputable def cX (H:Hp) (p:Addr):Hp:=λa=>if a=p then none else H a
theorem cV {H:Hp} {p a:Addr} (h:a≠p):cX H p a=H a:=if_neg h
theorem Hj {H:Hp} {p:Addr} {o:HO}:aF (cX H p) (upd H p o):=λa u e=>by
 unfold cX at e
 by_cases h:a=p
 ·rw[if_pos h] at e;cases e
 ·rw[if_neg h] at e;rw[aw h];exact e
theorem dh {H:Hp} {p:Addr}:aF (cX H p) H:=λa u e=>by
 unfold cX at e
 by_cases h:a=p
 ·rw[if_pos h] at e;cases e
 ·rw[if_neg h] at e;exact e
theorem Ek {H0 H:Hp} {p:Addr} (s:aF H0 H) (n:H0 p=none):aF H0 (cX H p):=λa u e=>by
 rw[cV (λz=>by rw[z,n] at e;cases e)];exact s _ _ e
theorem gY {H H':Hp} {p:Addr} (s:aF H H'):aF (cX H p) (cX H' p):=λa u e=>by
 unfold cX at *
 by_cases h:a=p
 ·rw[if_pos h] at e;cases e
 ·rw[if_neg h] at e ⊢;exact s _ _ e
theorem cM {H0 H:Hp} {p:Addr} {o:HO} (s:aF H0 H) (n:H0 p=none):aF H0 (upd H p o):=(Ek s n).trans Hj
section
variable {X : Cx} {K : aaB}
end
end L2
namespace PySem
section
variable {prog : Program} {w : World} {A : Around} {E : Value -> Shared -> Prop} {s : Shared}
end
end PySem
namespace L2
open PySem PySem.Spec PyProof.Rows PySem.W
section
variable {X : Cx} {K : aaB}
end
end L2
namespace PySem
section
variable {prog : Program} {w : World} {A : Around} {R : Result -> Shared -> Prop} {I : Addr} {fp wr : List Addr} {n : Nat} {P : Nat -> Value -> Prop} {St : Nat -> Heap -> Prop} {kw : List (Str × Value)}
end
section
variable {prog : Program} {w : World} {A : Around} {E : Value -> Shared -> Prop} {s : Shared}
end
end PySem
namespace L2
open PySem PySem.Spec PyProof.Rows PySem.W
section
variable {X : Cx} {K : aaB}
end
end L2
namespace PySem
open Builtin Builtin.Str
section
variable {prog : Program} {w : World} {A : Around} {E : Value -> Shared -> Prop} {s : Shared} {x y : Str} {t u : Tok} {Q : Value -> Shared -> Prop}
end
end PySem
namespace L2
open PySem PySem.Spec PyProof.Rows PySem.W
section
variable {X : Cx} {K : aaB}
noncomputable def Vx (z:Str):It:=⟨λi _=>i<z.cps.size,λi H x H'=>H'=H/\∃c,z.cps[i]?=some c/\x=.str ⟨#[c]⟩,λi _=>z.cps.size<=i⟩
theorem CJ {K:aaB} {J:It} {te:TE} {tl:St} {H1:Hp} {fin:List V->Hp->Prop} {n:Nat} {Item:Nat->V->Hp->Hp->Prop} (S:Src J (aF H1) n Item) (S7:Nat->V->V->V->Hp->Prop)
  (tp:∀i x H H3,i<n->aF H1 H->Item i x H H3->aF H H3/\∃p a b c,x=.ref p/\kz K H3 p [a,b,c]/\S7 i a b c H3) (hz:n<=sizeLine)
  (R:Nat->V->Hp->Prop) (mono:∀i y H H',aF H H'->R i y H->R i y H')
  (hs:∀i a b c H3 (Q:VK),i<n->aF H1 H3->S7 i a b c H3->(∀y H6,aF H3 H6->R i y H6->Q y H6)->te (some a::some b::some c::tl) H3 Q)
  (oy:∀ys H,aF H1 H->ys.length=n->(∀(i:Nat) y,ys[i]?=some y->R i y H)->fin ys H):fV J (Cd K 3 (gCons (gName 0) (gCons (gName 1) (gCons (gName 2) gNil)))) t7 te (none::none::none::tl) H1 fin:=by
 refine⟨λi m ys σ H=>m=n - i/\i<=n/\ys.length=i/\(∃w w' S8,σ=w::w'::S8::tl)/\aF H1 H/\∀(j:Nat) y,ys[j]?=some y->R j y H,⟨n,by simp,ZM _,rfl,⟨_,_,_,rfl⟩,aF.refl _,λj y e=>by simp at e⟩,?_⟩;rintro i m ys σ H ⟨rfl,hi,hl,⟨w,w',S8,rfl⟩,sm,p⟩
 by_cases qE:i<n
 ·refine .inr ⟨S.go i H qE sm,λx H3 y=>?_⟩;obtain⟨s3,q,a,b,c,rfl,sq,it⟩:=tp i x H H3 qE sm (S.Cf i H x H3 qE sm y);refine⟨q,_,rfl,sq,rfl,_,_,rfl,_,_,rfl,_,_,rfl,rfl,?_⟩;unfold t7;refine DL ?_;refine hs i a b c H3 _ qE (sm.trans s3) it λy H6 s6 r=>⟨by lia,n - (i+1),by lia,rfl,qE,by rw[ZJ,aao];lia,⟨_,_,_,rfl⟩,sm.trans (s3.trans s6),λj z e=>?_⟩
  by_cases hj:j<i
  ·rw[aaA (by lia)] at e;exact mono j z _ _ (s3.trans s6) (p j z e)
  ·rw[aav (by lia)] at e;have e2:j - ys.length=0:=by
    by_cases q:j - ys.length=0
    ·exact q
    ·rw[List.getElem?_eq_none (by simp;lia)] at e;cases e
   rw[e2] at e;simp at e;subst e;have:j=i:=by lia
   subst this;exact r
 ·have e:i=n:=by lia
  subst e;exact .inl ⟨S.stop H sm,oy ys H sm hl p⟩
theorem mQ {x:Str} {i:Int} {pos:Pos} (hg:Gl X x) (h:∃t,X.mg x=some (.int i t)) (hd:(x==("__debug__":Str))=false:=by decide):PE X (.Name x pos) (tC (.int i)):=by
 obtain⟨t,h⟩:=h;exact fH hg h ⟨t,rfl⟩ hd
theorem Hl:Ge X JP:=JR
noncomputable def Nj:V->Option Int->Option Int->Hp->VK->Prop:=λx lo hi H Q=>∃z,x=.str z/\z.length<=sizeLine/\Q (.str (Txt.slice z lo hi)) H
theorem part_of {v:Value} {o:Option Int} (h:IsPart v o):∃p:Option (Int×Tok),v=partValue p/\p.map (·.1)=o:=by
 cases h with
 | none=>exact⟨none,rfl,rfl⟩
 | int i t=>exact⟨some (i,t),rfl,rfl⟩
theorem Hm:MT X Nj:=by
 intro pins s σ H x v vl vu lo hi sl Q I rx hs pl pu h;obtain⟨z,rfl,hz,q⟩:=h;obtain⟨t,rfl⟩:=rx;obtain⟨l,rfl,rfl⟩:=part_of pl;obtain⟨u,rfl,rfl⟩:=part_of pu;refine⟨"str",_,PySem.F.slot_str_getitem.lookup,typeIs_str _ _ _,?_⟩;refine wpAny_getItem_str_slice (l:=l) (u:=u) (st:=none) hs rfl (post_val_or_str ⟨ZN (Txt.slice_le z _ _) hz,λt' k=>?_⟩);exact⟨.str _,H,I.tok _,⟨_,rfl⟩,q⟩
end
end L2
namespace PySem
theorem El (z:Str) (l u:Option Int):Txt.slice z l u=StrLaws.sliceText z l u:=rfl
theorem Ah {z:Str} {k:Int} (h:0<=k) (h2:k<=z.length):(Txt.slice z (some k) none).cps.toList=z.cps.toList.drop k.toNat:=by
 rw[El,StrLaws.sliceText_from (x:=z) (i:=k) ⟨h,by rw[aam];exact h2⟩,ZQ];rw[List.length_drop];lia
end PySem
namespace PySem
section
variable {M : Model} {A : Around} {E : Value -> Shared -> Prop} {s : Shared} {env : Env}
end
end PySem
namespace L2
open PySem PySem.Spec PyProof.Rows PySem.W
section
variable {M : Model} {A : Around} {E : Value -> Shared -> Prop} {s : Shared} {B : Heap} {l : List Env} {ad L : Addr} {cls a0 : Value}
end
section
variable {P : Program} {w : World} {K : aaB} {mg : Str -> Option Value} {base : Heap} {N : List Str} {qual : Str} {scope : Scope} {f : Addr} {cf : Value} {A : Around} {outer : List Env} {s0 : Shared} {H0 : Hp} {E : XK}
end
end L2
namespace L2
open PySem PySem.Spec PyProof.Rows PySem.W
section
variable {X : Cx}
noncomputable def Kr:V->List V->Hp->VK->Prop:=λx vs H Q=>∃l xs i y,x=.ref l/\vs=[.int i,y]/\H l=some (.lst xs)/\0<=i/\i<=(xs.length:Nat)/\xs.length<sizeLine/\Q .cW (upd H l (.lst (xs.take i.toNat++y::xs.drop i.toNat)))
theorem vg:JX X "list.insert" Kr:=by
 intro pins s σ H x vs v us Q I rx rv h;obtain⟨l,xs,i,y,rfl,rfl,hH,h0,h1,hz,q⟩:=h;cases rx;obtain⟨u1,u2,rfl,⟨t,rfl⟩,ru⟩:=vals2 rv;obtain⟨z,bg,n,r,hl,e⟩:=I.xO hH;have sl:=sizeLine_eq;refine call_meets PySem.F.slot_list_insert ⟨_,e,rfl⟩ PySem.F.entry_list_insert (PySem.F.args_list_insert_3 _ _ _) (AutoSeq1.list_insert_list_int_val_1 l bg.toArray n i t u2 (by rw[fitsIndex_both (by lia) (by lia)];decide) (by rw[ZF];lia)) ⟨e,?_⟩;have k2:(if i<0 then (i+ (bg.toArray.size:Int)).toNat else min i.toNat bg.toArray.size)=i.toNat:=by
  rw[if_neg (by lia),ZF];lia
 refine⟨.cW,_,I.GN (its':=bg.take i.toNat++u2::bg.drop i.toNat) hH e ?_ ?_ ?_,rfl,q⟩
 ·show(bg.toArray.extract 0 (if i<0 then (i+ (bg.toArray.size:Int)).toNat else min i.toNat bg.toArray.size)).push u2++bg.toArray.extract (if i<0 then (i+ (bg.toArray.size:Int)).toNat else min i.toNat bg.toArray.size)=_;rw[k2];apply Array.toList_inj.mp;simp [ZQ]
 ·exact(r.take _).append (.cons ru (r.drop _))
 ·simp;lia
end
end L2
namespace L2
open PySem PySem.Spec PyProof.Rows PySem.W
abbrev S9 (h:Heap) (T:Addr) (a b c:Value):Prop:=h.get? T=some {cls:=.type "tuple",data:=.seq #[a,b,c]}
structure YD (z TI TO i1 i2 i3 a b c:Addr):Prop where
 TIz:TI≠z
 TOz:TO≠z
 i1z:i1≠z
 i2z:i2≠z
 YE:i3≠z
 TITO:TI≠TO
 YF:TI≠i1
 YG:TI≠i2
 YH:TI≠i3
 YI:TO≠i1
 YJ:TO≠i2
 YK:TO≠i3
 i12:i1≠i2
 YL:i1≠i3
 YM:i2≠i3
 az:a≠z
 bz:b≠z
 cz:c≠z
 YN:b≠TO
 YO:c≠TO
 b1:b≠i1
 c1:c≠i1
 c2:c≠i2
section
variable {prog : Program} {w : World} {A : Around} {E : Value -> Shared -> Prop} {s : Shared}
end
abbrev Ta (h:Heap) (la:Addr):Heap:=h.push {cls:=.type "list_iterator",data:=.fields #[.ref la,.int 0 0]}
abbrev Tb (h:Heap) (la lb:Addr):Heap:=(Ta h la).push {cls:=.type "list_iterator",data:=.fields #[.ref lb,.int 0 0]}
abbrev Tc (h:Heap) (la lb lc:Addr):Heap:=(Tb h la lb).push {cls:=.type "list_iterator",data:=.fields #[.ref lc,.int 0 0]}
abbrev Td (h:Heap) (la lb lc:Addr):Heap:=(Tc h la lb lc).push {cls:=.type "tuple",data:=.seq #[.ref h.objs.size,.ref (Ta h la).objs.size,.ref (Tb h la lb).objs.size]}
abbrev Vy (h:Heap) (la lb lc:Addr):Heap:=(Td h la lb lc).push {cls:=.type "tuple",data:=.seq #[.none,.none,.none]}
abbrev YQ (h:Heap) (la lb lc:Addr):Heap:=(Vy h la lb lc).push {cls:=.type "zip",data:=.fields #[.none,.bool false,.bool false,.ref (Tc h la lb lc).objs.size,.ref (Td h la lb lc).objs.size]}
section
variable {prog : Program} {w : World} {A : Around} {E : Value -> Shared -> Prop} {s : Shared}
end
section
variable {X : Cx} {elts : List Expr} {kk : Nat} {p3 : Pos} {K : aaB}
end
end L2
namespace L2
open PySem PySem.Spec PyProof.Rows PySem.W
noncomputable def Te:V->Option Str
 | .str z=>some z
 | .int i=>if i.natAbs.log2<1920 then some (Zz (toString i)) else none
 | _=>none
section
variable {X : Cx} {K : aaB}
theorem Ai:cQ X (.type "str") (λxs H Q=>∃x z,xs=[x]/\Te x=some z/\Q (.str z) H):=by
 intro pins s σ H xs us Q I r h;obtain⟨x,z,rfl,hz,q⟩:=h;obtain⟨u,rfl,ru⟩:=vals1 r;cases x with
 | str y=>
  obtain⟨t,rfl⟩:=ru;cases hz;exact PySem.P.str_of_str ⟨.str _,H,I,⟨_,rfl⟩,q⟩
 | int i=>
  obtain⟨t,rfl⟩:=ru;have hz:(if i.natAbs.log2<1920 then some (Zz (toString i)) else none)=some z:=hz
  by_cases c:i.natAbs.log2<1920
  ·rw[if_pos c] at hz;cases hz;exact PySem.P.str_of_int c ⟨.str _,H,I.tok _,⟨_,rfl⟩,q⟩
  ·rw[if_neg c] at hz;cases hz
 | _=>cases hz
end
end L2
namespace L2
open PySem PySem.Spec PyProof.Rows PySem.W
section
variable {X : Cx} {K : aaB}
noncomputable def tSortR (K:aaB) (te:TE):TE:=λσ H Q=>te σ H λv H1=>∃p ns,v=.ref p/\bL K H1 p (List.map V.int ns)/\ns.length<64/\∀l,H1 l=none->Q (.ref l) (upd H1 l (.lst (List.map V.int (Nm.vS ns).reverse)))
theorem Em {e d:Expr} {te:TE} {p1 pos kp:Pos} (hg:Gl X "sorted") (hm:X.mg "sorted"=none) (he:PE X e te) (hd:PE X d (tC (.bl true))) (n1:noStar e=true:=by rfl):
  PE X (.Call (.Name "sorted" p1) [e] [⟨some "reverse",d,kp⟩] pos) (tSortR X.K te):=by
 intro pins s σ H Q I h;refine wpAny_Call_Name_kw (gI I hg hm (u:=.builtin "sorted") rfl ?_ ∅ ∅);refine PyProof.Rows.callWith_kw (e:=e) (rest:=[]) ?_ (by rw[se n1];rfl) (by rw[se n1];rfl) rfl rfl;rw[se n1];show wpAny _ _ (spliced [(false,eval e X.env)]) _ _ s;refine Calls.spliced_cons (cG (he pins s σ H _ I h) λu s1 ⟨x,H1,I1,r1,q1⟩=>Calls.spliced_nil ?_);refine PyProof.Rows.kws_cons (cG (hd pins s1 σ H1 (λv H2=>v=.bl true/\H2=H1) I1 ⟨rfl,rfl⟩) λdv s2 ⟨y,H2,I2,r2,ey,eh⟩=>PyProof.Rows.kws_nil ?_);subst ey;subst eh;have r2:dv=.bool true:=r2;subst r2;obtain⟨p,ns,rfl,hq,hn,q⟩:=q1;cases r1;obtain⟨bg,rv,pl,hz⟩:=I2.list hq;have hl:=rv.length;rw[ZA] at hl;show wpAny _ _ (call (.builtin "sorted") [.ref p] [(Zz "reverse",.bool true)]) _ _ _;refine sorted_ints_rev pl.isList (intsAre_of rv) (by lia) λout Dc a1 a2 a3=>?_;have a3:Dc.Pairwise (·≥·):=a3;have e3:Dc=(Nm.vS ns).reverse:=by
  have:=Nm.vT ((List.reverse_perm Dc).trans a2) (List.pairwise_reverse.mpr a3);rw[<-this,List.reverse_reverse]
 subst e3;obtain⟨e,he⟩:=sortedAll_at s2.heap bg out;have fr:=I2.bU.fresh (a:=s2.heap.objs.size+1) (Nat.le_succ _);refine⟨.ref (s2.heap.objs.size+1),_,I2.laid (t':=s2.toks) (λ_ _=>sortedAll_old) (Nat.le_succ _) (o:=.lst (List.map V.int (Nm.vS ns).reverse)) ⟨?_,out.toList,e,iq a1,?_⟩,rfl,q _ fr⟩
 ·rw[ZA,List.length_reverse,Nm.ip,sizeLine_eq];lia
 ·exact he
theorem CK {e d:Expr} {te:TE} {p1 pos kp:Pos} (hg:Gl X "sorted") (hm:X.mg "sorted"=none) (he:PE X e te) (hd:PE X d (tC (.bl true))) (n1:noStar e=true:=by rfl) (hK:X.K=K:=by rfl):
  PE X (.Call (.Name "sorted" p1) [e] [⟨some "reverse",d,kp⟩] pos) (tSortR K te):=by subst hK;exact Em hg hm he hd n1
end
end L2
namespace PySem.SeqAt
open AutoSeq1 (wpAny_loadPart')
open MeetsSeq MeetsSeq2 MeetsSeq3
end PySem.SeqAt
namespace L2
open PySem PySem.Spec PyProof.Rows PySem.W
noncomputable def IW:List Int->List Int->Bool
 | [],[]=>true
 | [],_::_=>false
 | _::_,[]=>true
 | a::r,b::q=>if a=b then IW r q else decide (b<=a)
section
variable {X : Cx} {K : aaB}
end
end L2
namespace PySem.UL
section
variable {prog : Program} {w : World} {A : Around} {E : Value -> Shared -> Prop} {s : Shared}
end
theorem vh {α:Type}:∀l:List α,(List.range l.length).filterMap (λk=>l[k]?)=l
 | []=>rfl
 | a::r=>by
  rw[ZP,List.range_succ_eq_map,aad];simp only[List.getElem?_cons_zero];rw[List.filterMap_map];have:=vh r
  simpa [Function.comp_def] using this
open Builtin in
theorem pick_rev (items:List Value):slicePick items.toArray none none (some (-1))=items.reverse.toArray:=by
 unfold slicePick;have e:sliceRange (sliceBounds none none (some (-1)) items.toArray.size).1 (sliceBounds none none (some (-1)) items.toArray.size).2.1 (sliceBounds none none (some (-1)) items.toArray.size).2.2=Builtin.Str.strSliceIndices none none (-1) items.length:=by
  rw[ZF];rfl
 rw[e,PyProof.Rows.picked_rev];congr 1;rw[List.filterMap_map];have h:∀l:List Nat,(∀k∈l,k<items.length)->l.filterMap ((λk=>items.toArray[k]?) ∘λk=>items.length - 1 - k)=l.filterMap λk=>items.reverse[k]?:=by
  intro l
  induction l with
  | nil=>intro _;rfl
  | cons k r ih=>
   intro hk;have e:((λk=>items.toArray[k]?) ∘λk=>items.length - 1 - k) k=items.reverse[k]?:=by
    rw[List.getElem?_reverse (hk k (by simp))];simp
   rw[aad,aad,e,ih λx hx=>hk x (ZI _ hx)]
 rw[h _ λk hk=>List.mem_range.mp hk];have:=vh items.reverse
 rwa [List.length_reverse] at this
end PySem.UL
namespace L2
open PySem PySem.Spec PyProof.Rows PySem.W
section
variable {X : Cx} {K : aaB}
noncomputable def Kt (K:aaB) (te ts:TE):TE:=λσ H Q=>te σ H λx H1=>ts σ H1 λy H2=>∃a xs,x=.ref a/\y=.int (-1)/\bL K H2 a xs/\∀p,H2 p=none->Q (.ref p) (upd H2 p (.lst xs.reverse))
theorem En {e st:Expr} {te ts:TE} {p2 pos:Pos} (he:PE X e te) (hs:PE X st ts):PE X (.Subscript e (.Slice none none (some st) p2) pos) (Kt X.K te ts):=by
 intro pins s σ H Q I h;refine Subscript_ (cG (he pins s σ H _ I h) λv s1 dC=>?_);obtain⟨x,H1,I1,r1,q1⟩:=dC;refine wpAny_Slice ?_;rw[evalPart_none];refine wpAny_pure ?_;refine wpAny_pure ?_;rw[evalPart_some];refine cG (hs pins s1 σ H1 _ I1 q1) λvs s2 dC=>?_;obtain⟨y,H2,I2,r2,q2⟩:=dC;obtain⟨a,xs,rfl,rfl,hx,q⟩:=q2;obtain⟨t,rfl⟩:=r2;cases r1;have I4:Inv X pins σ H2 {s2 with heap:=s2.heap.push {cls:=.type "slice",data:=.fields #[.none,.none,.int (-1) t]}}:=I2.kept (t':=s2.toks) λb ob q=>aaL _ q;obtain⟨bg,r,ht,hz⟩:=I4.list hx;have hlen:=r.length;show wpAny (model X.prog X.w) X.A (subscriptTail e (.Slice none none (some st) p2) (.ref a) (.ref s2.heap.objs.size)) (EP X pins σ Q) X.xe {s2 with heap:=s2.heap.push {cls:=.type "slice",data:=.fields #[.none,.none,.int (-1) t]}};refine tail_any (ops:=[.ref a,.ref s2.heap.objs.size]) ht.isList.typeIs slot_list_getitem.lookup ?_ (by with_unfolding_all rfl);refine wpAny_getItem_list_slice ht.isList (Heap.IsSliceOf.new ..) .none .none (.int (-1) t) (by simp) ?_ (by rw[ZF] <;>lia);rw[PySem.UL.pick_rev];refine⟨.ref _,_,I4.laid (t':=s2.toks) (o:=.lst xs.reverse) (λb ob q=>aaL _ q) (ZD _) ?_,rfl,q _ (I4.bU.fresh (ZD _))⟩;exact⟨by rw[List.length_reverse];exact hz,_,0,r.reverse,aaM _ rfl⟩
theorem CL {e st:Expr} {te ts:TE} {p2 pos:Pos} (he:PE X e te) (hs:PE X st ts) (hK:X.K=K:=by rfl):PE X (.Subscript e (.Slice none none (some st) p2) pos) (Kt K te ts):=by subst hK;exact En he hs
end
end L2
namespace L2
open PySem PySem.Spec PyProof.Rows
structure vi (P:Program) (w:World) (K:aaB) (mg:Str->Option Value) (base:Heap) (CX:nZ) (k:Nat) (x:Str) (C:Addr) (ps:List Str) (sp:Sp):Prop where
 ex:∃f fd,Mk K C f/\fU P w K mg base CX k f fd ps sp/\mg x=some (.ref C)/\Binds K fd ps []
section
variable {X : Cx}
theorem IX {CX:nZ} {k:Nat} {x:Str} {C:Addr} {ps:List Str} {sp:Sp} {E:XK} {e:Expr} {es:List Expr} {t:TA} {p pos:Pos} (M:vi X.prog X.w X.K X.mg X.base CX k x C ps sp) (hr:dD (k+1) X.A) (hg:Gl X x) (hx:fe CX X E) (ha:PA X (e::es) t)
  (zH:(x==("__debug__":Str))=false:=by decide) (he:starEach (e::es) X.env=(false,eval e X.env)::starEach es X.env:=by rfl) (hpl:(backTo pos (starEach es X.env)).any (·.1)=false:=by rfl):
  PE X (.Call (.Name x p) (e::es) [] pos) (A9 C sp [] E t):=by
 obtain⟨f,fd,m,F,hm,hb⟩:=M.ex;exact GJ m F hr hg hm hb .nil hx ha zH he hpl
end
structure O2 (K:aaB) (mg:Str->Option Value) (x qual:Str) (st:Stmt) (C:Addr):Prop where
 ex:∃f fd,zU K "__init__" qual st f fd/\Mk K C f/\mg x=some (.ref C)
theorem O2.dJ {P:Program} {w:World} {K:aaB} {mg:Str->Option Value} {base:Heap} {CX:nZ} {x qual:Str} {st:Stmt} {C:Addr} {ps:List Str} {k:Nat} {sp:Sp} (D:O2 K mg x qual st C)
  (hb:∀(kV doc pm:Value) (an:Option Addr) (cf ct:Value) (us:List Value),us.length=ps.length->bindArgs (aaE "__init__" qual (bH st) (bE st) (aq st) .none kV doc pm an cf ct) ⟨us,[]⟩=pure (ps.zip us))
  (h:∀f fd,zU K "__init__" qual st f fd->fU P w K mg base CX k f fd ps sp):vi P w K mg base CX k x C ps sp:=by
 obtain⟨f,fd,F,m,hm⟩:=D.ex;exact⟨f,fd,m,h f fd F,hm,F.binds hb⟩
end L2
namespace L2
open PySem PySem.Spec PyProof.Rows
noncomputable instance Mg:DecidableEq PyData:=λ_ _=>Classical.propDecidable _
mutual
noncomputable def gA:PyData->Bool
 | .int _=>true
 | .str x=>PyData.canLay0 (.str x)
 | .tuple xs=>oA xs
 | _=>false
noncomputable def oA:List PyData->Bool
 | []=>true
 | x::xs=>gA x && oA xs
end
mutual
theorem Hn:∀(d:PyData),gA d=true->d.canLay0=true
 | .none,h=>by simp [gA] at h
 | .bool _,h=>by simp [gA] at h
 | .int _,_=>by simp [PyData.canLay0]
 | .str x,h=>by rw[gA] at h;exact h
 | .list _,h=>by simp [gA] at h
 | .tuple xs,h=>by rw[gA] at h;rw[PyData.canLay0];exact x9 xs h
 | .dict _,h=>by simp [gA] at h
theorem x9:∀(xs:List PyData),oA xs=true->PyData.canLayAll0 xs=true
 | [],_=>by simp [PyData.canLayAll0]
 | x::xs,h=>by
  rw[oA,Z8] at h;rw[PyData.canLayAll0,Z8];exact⟨Hn x h.1,x9 xs h.2⟩
end
mutual
theorem Ku:∀(x y:PyData),gA x=true->gA y=true->PyData.eqv x y=decide (x=y)
 | .int i,y,_,hy=>by
  cases y with
  | int j=>
   rw[PyData.eqv]
   by_cases c:i=j
   ·subst c;simp
   ·rw[decide_eq_false (λe=>c (by injection e))];simp [c]
  | str _=>simp [PyData.eqv]
  | tuple _=>simp [PyData.eqv]
  | _=>simp [gA] at hy
 | .str a,y,_,hy=>by
  cases y with
  | str b=>
   rw[PyData.eqv]
   by_cases c:a=b
   ·subst c;simp
   ·rw[decide_eq_false (λe=>c (by injection e))];simp [c]
  | int _=>simp [PyData.eqv]
  | tuple _=>simp [PyData.eqv]
  | _=>simp [gA] at hy
 | .tuple xs,y,hx,hy=>by
  cases y with
  | tuple ys=>
   rw[gA] at hx hy;rw[PyData.eqv,Bs xs ys hx hy]
   by_cases c:xs=ys
   ·subst c;simp
   ·rw[decide_eq_false c,decide_eq_false (λe=>c (by injection e))]
  | int _=>simp [PyData.eqv]
  | str _=>simp [PyData.eqv]
  | _=>simp [gA] at hy
 | .none,_,h,_=>by simp [gA] at h
 | .bool _,_,h,_=>by simp [gA] at h
 | .list _,_,h,_=>by simp [gA] at h
 | .dict _,_,h,_=>by simp [gA] at h
theorem Bs:∀(xs ys:List PyData),oA xs=true->oA ys=true->PyData.eqvAll xs ys=decide (xs=ys)
 | [],[],_,_=>by simp [PyData.eqvAll]
 | [],_::_,_,_=>by simp [PyData.eqvAll]
 | _::_,[],_,_=>by simp [PyData.eqvAll]
 | x::xs,y::ys,hx,hy=>by
  rw[oA,Z8] at hx hy;rw[PyData.eqvAll,Ku x y hx.1 hy.1,Bs xs ys hx.2 hy.2]
  by_cases c:x=y
  ·subst c
   by_cases d:xs=ys
   ·subst d;simp
   ·rw[decide_eq_false d,decide_eq_false (λe=>d (List.cons.inj e).2)];simp
  ·rw[decide_eq_false c,decide_eq_false (λe=>c (List.cons.inj e).1)];simp
end
mutual
theorem Aj {h h':Heap} {d:Addr} {o:Obj} {es ep} (ho:h.get? d=some o) (hd:o.data=.dict es ep) (hs:Heap.SameBut d h h'):∀(x:PyData) (v:Value) (as:List Addr),gA x=true->Reads h v x as->Reads h' v x as
 | .int _,_,_,_,r=>by cases r;exact .int _ _
 | .str _,_,_,_,r=>by cases r;exact .str _ _
 | .tuple xs,_,_,hx,r=>by
  rw[gA] at hx;cases r with
  | @tuple a o' vs n _ _ e c q t=>
   have ne:a≠d:=λz=>by
    subst z;rw[ho] at e;cases e;rw[hd] at q;cases q
   exact .tuple ((hs.2 a ne).trans e) c q (pL ho hd hs xs _ _ hx t)
 | .none,_,_,h,_=>by simp [gA] at h
 | .bool _,_,_,h,_=>by simp [gA] at h
 | .list _,_,_,h,_=>by simp [gA] at h
 | .dict _,_,_,h,_=>by simp [gA] at h
theorem pL {h h':Heap} {d:Addr} {o:Obj} {es ep} (ho:h.get? d=some o) (hd:o.data=.dict es ep) (hs:Heap.SameBut d h h'):∀(xs:List PyData) (vs:List Value) (as:List Addr),oA xs=true->ReadsAll h vs xs as->ReadsAll h' vs xs as
 | [],_,_,_,r=>by cases r;exact .nil
 | x::xs,_,_,hx,r=>by
  rw[oA,Z8] at hx;cases r with
  | cons r1 r2=>exact .cons (Aj ho hd hs x _ _ hx.1 r1) (pL ho hd hs xs _ _ hx.2 r2)
end
mutual
noncomputable def Bu (w:World):PyData->Int
 | .int i=>Jx w (.inl i)
 | .str x=>Jx w (.inr x)
 | .tuple xs=>reduceHash (Builtin.Tuple.tupleHashOf (gB w xs))
 | _=>0
noncomputable def gB (w:World):List PyData->List Int
 | []=>[]
 | x::xs=>Bu w x::gB w xs
end
mutual
noncomputable def O3:PyData->Nat
 | .tuple xs=>rN xs+1
 | _=>1
noncomputable def rN:List PyData->Nat
 | []=>0
 | x::xs=>O3 x+rN xs
end
section
variable {prog : Program} {w : World}
noncomputable def PH (prog:Program) (w:World) (m:Nat) (h:Heap) (d:PyData) (v:Value):Prop:=∀(A:Around) (E:Value->Shared->Prop) (s:Shared) (Q:Int->Shared->Prop),s.heap=h->A.units+m<cLine->
 Q (Bu w d) {s with toks:=s.toks+O3 d}->wpAny (model prog w) A (pyHash v) Q E s
inductive IY (prog:Program) (w:World) (m:Nat) (h:Heap):List PyData->List Value->Prop
 | nil:IY prog w m h [] []
 | cons {d v ds vs}:PH prog w m h d v->IY prog w m h ds vs->IY prog w m h (d::ds) (v::vs)
theorem CM (xs ys:List PyData):gB w (xs++ys)=gB w xs++gB w ys:=by
 induction xs with
 | nil=>simp [gB]
 | cons x xs ih=>simp [gB,ih]
theorem Eo (xs ys:List PyData):rN (xs++ys)=rN xs+rN ys:=by
 induction xs with
 | nil=>simp [rN]
 | cons x xs ih=>simp [rN,ih,Nat.add_assoc]
theorem Ep {m:Nat} {h:Heap} {ds:List PyData} {a:Addr} {o:Obj} {items n} (ho:h.get? a=some o) (hc:o.cls=.type "tuple") (hd:o.data=.seq items n) (hi:IY prog w m h ds items.toList):PH prog w (m+1) h (.tuple ds) (.ref a):=by
 intro A E s Q hh hu hq;subst hh;have hT:s.TypeIs (.ref a) "tuple":=⟨o,ho,hc⟩
 have Qo:A.units<cLine:=by lia
 unfold pyHash
 first | unfold pyHashByItsType | skip
 first | refine wpAny_bind (wpAny_cRoomFor_or (.inr Qo) ?_) | skip
 refine wpAny_bind (wpAny_specialOf hT F.slot_tuple_hash.lookup ?_);show wpAny _ _ (if (some (Value.builtin "tuple.__hash__")==some Value.none)=true then _ else _) Q E s;rw[if_neg (by rw[beq_builtin_none];exact ZO)];refine wpAny_bind (wpAny_specialOf hT F.slot_tuple_hash.lookup ?_);show wpAny _ _ (callSpecialIfBoundUnlessNone? (.ref a) "__hash__" _ >>=_) Q E s;refine wpAny_bind (wpAny_callSpecialIfBoundUnlessNone?_slot hT F.slot_tuple_hash (wpAny_call_entry F.slot_tuple_hash hT F.entry_tuple_hash ?_ (F.args_tuple_hash_1 _)));show wpAny _ _ (Builtin.Tuple.tupleItemsOf (.ref a) >>=_) _ _ s;refine wpAny_bind (wpAny_tupleItemsOf ho hd ?_);refine wpAny_bind ?_;rw[<-Array.forIn_toList];refine wpAny_forIn_list _
  (λrest (b:Array Int) s'=>∃done left,ds=done++left/\IY prog w m s.heap left rest/\b.toList=gB w done/\s'={s with toks:=s.toks+rN done})
  _ ?_ ?_ _ _ ⟨[],ds,rfl,hi,rfl,rfl⟩
 ·rintro x rest b s' ⟨done,left,rfl,hl,hb,rfl⟩;cases hl with
  | @cons k _ Tf _ h1 O4=>
   refine wpAny_bind (h1 _ _ _ _ rfl (by show A.units+1+m<cLine;lia) ?_);have e1:(b.push (Bu w k)).toList=gB w (done++ [k]):=by rw[CM];simp [hb,gB]
   have e2:s.toks+rN done+O3 k=s.toks+rN (done++ [k]):=by rw[Eo];simp [rN,Nat.add_assoc]
   first
    | exact wpAny_pure ⟨done++ [k],Tf,by simp,O4,e1,by rw[<-e2]⟩
    | exact wpAny_bind (wpAny_pure (wpAny_pure ⟨done++ [k],Tf,by simp,O4,e1,by rw[<-e2]⟩))
 ·rintro b s' ⟨done,left,rfl,hl,hb,rfl⟩;cases hl;rw[aab] at hq;show wpAny _ _ (retInt (Builtin.Tuple.tupleHashOf b.toList)) _ _ _;rw[hb];refine wpAny_ret_mkInt ?_;show wpAny _ _ (if (decide (-(2:Int)^63<=Builtin.Tuple.tupleHashOf (gB w done)) && decide (Builtin.Tuple.tupleHashOf (gB w done)<2^63))=true then _ else _) Q E _;rw[Bu,O3] at hq;unfold reduceHash at hq
  by_cases hr:(decide (-(2:Int)^63<=Builtin.Tuple.tupleHashOf (gB w done)) && decide (Builtin.Tuple.tupleHashOf (gB w done)<2^63))=true
  ·rw[if_pos hr];rw[if_pos hr] at hq;exact wpAny_pure (by simpa [Nat.add_assoc] using hq)
  ·rw[if_neg hr];rw[if_neg hr] at hq;exact wpAny_bind (wpAny_rule (wpAny_pure (by simpa [Nat.add_assoc] using hq)))
mutual
theorem Kv {h:Heap}:∀(d:PyData) (v:Value) (as:List Addr),gA d=true->Reads h v d as->PH prog w d.depth h d v
 | .int i,_,_,_,r=>by
  cases r with
  | int _ t=>
   intro A E s Q _ _ hq;exact(cF prog w).pyHash (k:=.inl i) (rk (k:=.inl i) ⟨t,rfl⟩) hq
 | .str x,_,_,_,r=>by
  cases r with
  | str _ t=>
   intro A E s Q _ _ hq;exact(cF prog w).pyHash (k:=.inr x) (rk (k:=.inr x) ⟨t,rfl⟩) hq
 | .tuple xs,_,_,hx,r=>by
  rw[gA] at hx;cases r with
  | tuple e c q t=>exact Ep e c q (Bv xs _ _ hx t)
 | .none,_,_,h,_=>by simp [gA] at h
 | .bool _,_,_,h,_=>by simp [gA] at h
 | .list _,_,_,h,_=>by simp [gA] at h
 | .dict _,_,_,h,_=>by simp [gA] at h
theorem Bv {h:Heap}:∀(ds:List PyData) (vs:List Value) (as:List Addr),oA ds=true->ReadsAll h vs ds as->IY prog w (PyData.depthAll ds) h ds vs
 | [],_,_,_,r=>by cases r;exact .nil
 | x::xs,_,_,hx,r=>by
  rw[oA,Z8] at hx;cases r with
  | cons r1 r2=>
   have p1:=Kv x _ _ hx.1 r1;have p2:=Bv xs _ _ hx.2 r2;have up:∀{m m':Nat} {ds:List PyData} {vs:List Value},m<=m'->IY prog w m h ds vs->IY prog w m' h ds vs:=λl q=>by
    induction q with
    | nil=>exact .nil
    | cons p _ ih=>exact .cons (λA E s Q e u=>p A E s Q e (by lia)) ih
   refine .cons (λA E s Q e u=>p1 A E s Q e ?_) (up ?_ p2)
   ·rw[PyData.depthAll] at u;lia
   ·rw[PyData.depthAll];lia
end
theorem ya {h:Heap} {k:Nat} {a:Addr} {o:Obj} {items n} (ho:h.get? a=some o) (hc:o.cls=.type "tuple") (hd:o.data=.seq items n) (hi:∀v∈items.toList,∀(A:Around) (E:Value->Shared->Prop) (s:Shared) (Q:Bool->Shared->Prop),s.heap=h->Q true s->wpAny (model prog w) A (eqIsQuiet k v) Q E s)
  (A:Around) (E:Value->Shared->Prop) (s:Shared) (Q:Bool->Shared->Prop) (hh:s.heap=h) (hq:Q true s):wpAny (model prog w) A (eqIsQuiet (k+1) (.ref a)) Q E s:=by
 subst hh;have hT:s.TypeIs (.ref a) "tuple":=⟨o,ho,hc⟩
 unfold eqIsQuiet;refine wpAny_bind (wpAny_specialOf hT F.slot_tuple_eq.lookup ?_);show wpAny _ _ (isInstance (.ref a) (.type "tuple") >>=_) _ _ s;refine wpAny_bind (wpAny_isInstance hT isSubtype_tuple_tuple ?_);simp only[Bool.not_true,Bool.false_eq_true,if_false];refine wpAny_bind (wpAny_seqItems ho hd ?_);refine wpAny_bind ?_;show wpAny _ _ (forIn items _ _) _ _ s;rw[<-Array.forIn_toList];refine wpAny_forIn_list _ (λrest r s'=>r.1=none/\s'=s/\∀v∈rest,v∈items.toList) _ ?_ ?_ _ _ ⟨rfl,rfl,λ_ h=>h⟩
 ·rintro v rest r s' ⟨hr,rfl,Ct⟩;refine wpAny_bind (hi v (Ct v ZL) _ _ _ _ rfl ?_);simp only[Bool.not_true,Bool.false_eq_true,if_false];exact wpAny_pure ⟨rfl,rfl,λu Vz=>Ct u (ZI _ Vz)⟩
 ·rintro⟨r1,r2⟩ s' ⟨hr,rfl,_⟩;simp only at hr;subst hr;exact wpAny_pure hq
mutual
theorem CN {h:Heap}:∀(d:PyData) (v:Value) (as:List Addr) (k:Nat),gA d=true->d.depth<=k->Reads h v d as->∀(A:Around) (E:Value->Shared->Prop) (s:Shared) (Q:Bool->Shared->Prop),s.heap=h->Q true s->wpAny (model prog w) A (eqIsQuiet k v) Q E s
 | .int _,_,_,_,_,_,r=>by
  cases r;intro A E s Q _ hq;rw[eqIsQuiet_byValue _ rfl];exact wpAny_pure hq
 | .str _,_,_,_,_,_,r=>by
  cases r;intro A E s Q _ hq;rw[eqIsQuiet_byValue _ rfl];exact wpAny_pure hq
 | .tuple xs,_,_,k,hx,hk,r=>by
  rw[gA] at hx;rw[PyData.depth] at hk;cases k with
  | zero=>lia
  | succ k=>
   cases r with
   | tuple e c q t=>exact ya e c q (rO xs _ _ k hx (by lia) t)
 | .none,_,_,_,h,_,_=>by simp [gA] at h
 | .bool _,_,_,_,h,_,_=>by simp [gA] at h
 | .list _,_,_,_,h,_,_=>by simp [gA] at h
 | .dict _,_,_,_,h,_,_=>by simp [gA] at h
theorem rO {h:Heap}:∀(ds:List PyData) (vs:List Value) (as:List Addr) (k:Nat),oA ds=true->PyData.depthAll ds<=k->ReadsAll h vs ds as->∀v∈vs,∀(A:Around) (E:Value->Shared->Prop) (s:Shared) (Q:Bool->Shared->Prop),s.heap=h->Q true s->wpAny (model prog w) A (eqIsQuiet k v) Q E s
 | [],_,_,_,_,_,r=>by
  cases r;intro v hv;simp at hv
 | x::xs,_,_,k,hx,hk,r=>by
  rw[oA,Z8] at hx;rw[PyData.depthAll] at hk;cases r with
  | cons r1 r2=>
   intro v hv;rcases aaj.mp hv with rfl | hv
   ·exact CN x _ _ k hx.1 (by lia) r1
   ·exact rO xs _ _ k hx.2 (by lia) r2 v hv
end
end
end L2
namespace L2
open PySem PySem.Spec PyProof.Rows
mutual
noncomputable def toP:Dat->PyData
 | .cW=>.none
 | .bl b=>.bool b
 | .int i=>.int i
 | .str x=>.str x
 | .tup l=>.tuple (toPL l)
 | .lst l=>.list (toPL l)
noncomputable def toPL:List Dat->List PyData
 | []=>[]
 | d::ds=>toP d::toPL ds
end
section
variable {P : Program} {w : World} {H : Hp} {h : Heap}
mutual
theorem rP (ok:gR P w H h):∀(d:Dat) (v:V) (u:Value),Rep H d v->RelV v u->∃as,Reads h u (toP d) as
 | .cW,v,u,r,q=>by
  rw[Rep] at r;subst r;cases (show u=Value.none from q);exact⟨_,.none⟩
 | .bl b,v,u,r,q=>by
  rw[Rep] at r;subst r;cases (show u=Value.bool b from q);exact⟨_,.bool b⟩
 | .int i,v,u,r,q=>by
  rw[Rep] at r;subst r;obtain⟨t,rfl⟩:=(show ∃t,u=Value.int i t from q)
  exact⟨_,.int i t⟩
 | .str x,v,u,r,q=>by
  rw[Rep] at r;subst r;obtain⟨t,rfl⟩:=(show ∃t,u=Value.str x t from q)
  exact⟨_,.str x t⟩
 | .tup l,v,u,r,q=>by
  rw[Rep] at r;obtain⟨p,vs,rfl,hp,rl⟩:=r;cases (show u=Value.ref p from q);obtain⟨_,bg,rv,o,h1,h2,n,h3⟩:=(show cD P w H h p (.tup vs) from ok p _ hp)
  obtain⟨as,ra⟩:=oB ok l vs bg rl rv;exact⟨as,.tuple h1 h2 h3 (by simpa using ra)⟩
 | .lst l,v,u,r,q=>by
  rw[Rep] at r;obtain⟨p,vs,rfl,hp,rl⟩:=r;cases (show u=Value.ref p from q);obtain⟨_,bg,n,rv,h1⟩:=(show cD P w H h p (.lst vs) from ok p _ hp)
  obtain⟨as,ra⟩:=oB ok l vs bg rl rv;exact⟨p::as,.list h1 rfl rfl (by simpa using ra)⟩
theorem oB (ok:gR P w H h):∀(ds:List Dat) (vs:List V) (us:List Value),bo H ds vs->bC vs us->∃as,ReadsAll h us (toPL ds) as
 | [],vs,us,r,q=>by
  rw[bo] at r;subst r;cases q;exact⟨_,.nil⟩
 | d::ds,vs,us,r,q=>by
  rw[bo] at r;obtain⟨v,rest,rfl,r1,r2⟩:=r;cases q with
  | cons q1 q2=>
   obtain⟨a1,h1⟩:=rP ok d v _ r1 q1;obtain⟨a2,h2⟩:=oB ok ds rest _ r2 q2;exact⟨_,.cons h1 h2⟩
end
end
abbrev Rows:=List (Dat×Addr×Int)
abbrev YR:Rows->List (PyData×Addr×Value)->Prop:=Paired λp q=>toP p.1=q.1/\p.2.1=q.2.1/\∃t,q.2.2=Value.int p.2.2 t
section
variable {P : Program} {w : World} {H : Hp} {h : Heap} {a : Addr}
end
section
variable {X : Cx} {P : Program} {w : World} {o i e value : Expr} {pos pos' p3 : Pos} {td ty tv : TE}
end
end L2
namespace L2
open PySem PySem.Spec PyProof.Rows PySem.W
section
variable {X : Cx} {K : aaB}
theorem vj {P:Program} {w:World} {H:Hp} {h:Heap} (ok:gR P w H h) {ds:List Dat} {xs:List V} {us:List Value} (r:bo H ds xs) (v:bC xs us) {i:Nat} {u:Value} (e:us[i]?=some u):∃d as,ds[i]?=some d/\Reads h u (toP d) as:=by
 have l1:=r.length;have l2:=v.length;have hi:=(aaI.mp e).1;have ex:xs[i]?=some (xs[i]'(by lia)):=ZH (by lia);obtain⟨u',e1,rv⟩:=v.get ex;rw[e] at e1;cases e1;obtain⟨d,ed,rd⟩:=r.get ex;obtain⟨as,ra⟩:=rP ok d _ _ rd rv;exact⟨d,as,ed,ra⟩
end
end L2
namespace L2
open PySem PySem.Spec PyProof.Rows
structure bD (P:Program) (w:World) (K:aaB) (mg:Str->Option Value) (base:Heap) (CX:nZ) (k:Nat) (C:Addr) (m:Str) (ps:List Str) (sp:Sp):Prop where
 ex:∃f fd,Dz K C m f/\fU P w K mg base CX k f fd ps sp/\Binds K fd ps []
section
variable {X : Cx} {CX : nZ} {k : Nat} {C : Addr} {m : Str} {ps : List Str} {sp : Sp} {E : XK} {e o : Expr} {es : List Expr} {ta : TE} {t : TA} {pos apos : Pos} {pl : Sem Bool}
theorem c9 (M:bD X.prog X.w X.K X.mg X.base CX k C m ps sp) (c:vH X.K C) (he:PE X o ta) (hr:dD k X.A) (hx:fe CX X E) (ha:PA X (e::es) t)
  (hst:starEach (e::es) X.env=(false,eval e X.env)::starEach es X.env:=by rfl) (hpl:(backTo pos (starEach es X.env)).any (·.1)=false:=by rfl)
  (ht:eval (.Call (.Attribute o m apos) (e::es) [] pos) X.env=(do
   let ov <-eval o X.env
   standAt apos.atName
   let (f,first) <-holding [ov] (getMethod ov m pl)
   callWith pos f first (backTo pos (starEach (e::es) X.env)) (backToKw pos (keywordEach [] X.env))):=by rfl):
  PE X (.Call (.Attribute o m apos) (e::es) [] pos) (bR C m sp [] E ta t):=by
 obtain⟨f,fd,hm,F,hb⟩:=M.ex;exact GI he c hm F hr hb .nil hx ha hst hpl ht
theorem oC (M:bD X.prog X.w X.K X.mg X.base CX k C m ps sp) (c:vH X.K C) (he:PE X o ta) (hr:dD k X.A) (hx:fe CX X E)
  (ht:eval (.Call (.Attribute o m apos) [] [] pos) X.env=(do
   let ov <-eval o X.env
   standAt apos.atName
   let (f,first) <-holding [ov] (getMethod ov m pl)
   callWith pos f first (backTo pos (starEach [] X.env)) (backToKw pos (keywordEach [] X.env))):=by rfl):
  PE X (.Call (.Attribute o m apos) [] [] pos) (bR C m sp [] E ta tNil):=by
 obtain⟨f,fd,hm,F,hb⟩:=M.ex;exact DA he c hm F hr hb .nil hx ht
end
structure tY (K:aaB) (C:Addr) (m qual:Str) (st:Stmt):Prop where
 ex:∃f fd,zU K m qual st f fd/\Dz K C m f
theorem tY.dJ {P:Program} {w:World} {K:aaB} {mg:Str->Option Value} {base:Heap} {CX:nZ} {m qual:Str} {st:Stmt} {C:Addr} {ps:List Str} {k:Nat} {sp:Sp} (D:tY K C m qual st)
  (hb:∀(kV doc pm:Value) (an:Option Addr) (cf ct:Value) (us:List Value),us.length=ps.length->bindArgs (aaE m qual (bH st) (bE st) (aq st) .none kV doc pm an cf ct) ⟨us,[]⟩=pure (ps.zip us))
  (h:∀f fd,zU K m qual st f fd->fU P w K mg base CX k f fd ps sp):bD P w K mg base CX k C m ps sp:=by
 obtain⟨f,fd,F,hm⟩:=D.ex;exact⟨f,fd,hm,h f fd F,F.binds hb⟩
end L2
namespace L2
open PySem PySem.Spec PyProof.Rows PySem.W
mutual
noncomputable def vV:PyData->Bool
 | .none=>true
 | .int _=>true
 | .str x=>PyData.canLay0 (.str x)
 | .tuple xs=>yb xs
 | .list xs=>yb xs
 | _=>false
noncomputable def yb:List PyData->Bool
 | []=>true
 | x::xs=>vV x && yb xs
end
mutual
theorem qH:∀(d:PyData),vV d=true->d.canLay0=true
 | .none,_=>by simp [PyData.canLay0]
 | .bool _,h=>by simp [vV] at h
 | .int _,_=>by simp [PyData.canLay0]
 | .str x,h=>by rw[vV] at h;exact h
 | .list xs,h=>by rw[vV] at h;rw[PyData.canLay0];exact rQ xs h
 | .tuple xs,h=>by rw[vV] at h;rw[PyData.canLay0];exact rQ xs h
 | .dict _,h=>by simp [vV] at h
theorem rQ:∀(xs:List PyData),yb xs=true->PyData.canLayAll0 xs=true
 | [],_=>by simp [PyData.canLayAll0]
 | x::xs,h=>by
  rw[yb,Z8] at h;rw[PyData.canLayAll0,Z8];exact⟨qH x h.1,rQ xs h.2⟩
end
mutual
theorem Bw:∀(x y:PyData),vV x=true->vV y=true->PyData.eqv x y=decide (x=y)
 | .none,y,_,hy=>by cases y <;>simp [PyData.eqv]
 | .int i,y,_,hy=>by
  cases y with
  | int j=>
   rw[PyData.eqv]
   by_cases c:i=j
   ·subst c;simp
   ·rw[decide_eq_false (λe=>c (by injection e))];simp [c]
  | bool _=>simp [vV] at hy
  | _=>simp [PyData.eqv]
 | .str a,y,_,hy=>by
  cases y with
  | str b=>
   rw[PyData.eqv]
   by_cases c:a=b
   ·subst c;simp
   ·rw[decide_eq_false (λe=>c (by injection e))];simp [c]
  | _=>simp [PyData.eqv]
 | .tuple xs,y,hx,hy=>by
  cases y with
  | tuple ys=>
   rw[vV] at hx hy;rw[PyData.eqv,rR xs ys hx hy]
   by_cases c:xs=ys
   ·subst c;simp
   ·rw[decide_eq_false c,decide_eq_false (λe=>c (by injection e))]
  | _=>simp [PyData.eqv]
 | .list xs,y,hx,hy=>by
  cases y with
  | list ys=>
   rw[vV] at hx hy;rw[PyData.eqv,rR xs ys hx hy]
   by_cases c:xs=ys
   ·subst c;simp
   ·rw[decide_eq_false c,decide_eq_false (λe=>c (by injection e))]
  | _=>simp [PyData.eqv]
 | .bool _,_,h,_=>by simp [vV] at h
 | .dict _,_,h,_=>by simp [vV] at h
theorem rR:∀(xs ys:List PyData),yb xs=true->yb ys=true->PyData.eqvAll xs ys=decide (xs=ys)
 | [],[],_,_=>by simp [PyData.eqvAll]
 | [],_::_,_,_=>by simp [PyData.eqvAll]
 | _::_,[],_,_=>by simp [PyData.eqvAll]
 | x::xs,y::ys,hx,hy=>by
  rw[yb,Z8] at hx hy;rw[PyData.eqvAll,Bw x y hx.1 hy.1,rR xs ys hx.2 hy.2]
  by_cases c:x=y
  ·subst c
   by_cases d:xs=ys
   ·subst d;simp
   ·rw[decide_eq_false d,decide_eq_false (λe=>d (List.cons.inj e).2)];simp
  ·rw[decide_eq_false c,decide_eq_false (λe=>c (List.cons.inj e).1)];simp
end
section
variable {X : Cx} {K : aaB}
noncomputable def Ke (d:Dat):Prop:=vV (toP d)=true/\(toP d).depth<=8
theorem Kw {A:Around} {s:Shared} {a b:PyData} {u v:Value} {as bs:List Addr} (ra:Reads s.heap u a as) (rb:Reads s.heap v b bs) (ha:vV a=true) (hb:vV b=true) (da:a.depth<=8) (db:b.depth<=8) (hu:A.units+8<cLine):SeqAt.EqAt A s u v (decide (a=b)):=λprog w E Q h=>
 SeqAt.eqBoolOverData _ _ _ _ _ _ _ _ _ _ _ _ ra rb (qH _ ha) (qH _ hb) (by lia) (by rw[Bw _ _ ha hb];exact h)
theorem Er {s:Shared} {ds:List Dat} {d:Dat} (Ky:∀e∈ds,Ke e) {u:Value} {e:Dat} {bs:List Addr} [Decidable (∃cs,Reads s.heap u (toP d) cs)] (he:e∈ds) (re:Reads s.heap u (toP e) bs):decide (∃cs,Reads s.heap u (toP d) cs)=decide (toP e=toP d):=by
 by_cases c:toP e=toP d
 ·rw[decide_eq_true c,decide_eq_true ⟨bs,by rw[<-c];exact re⟩]
 ·rw[decide_eq_false c,decide_eq_false];rintro⟨cs,rc⟩;exact c (SeqAt.Reads.unique _ _ _ _ _ (qH _ (Ky e he).1) re rc)
noncomputable def Nk:V->List V->Hp->VK->Prop:=λx vs H Q=>∃l xs ds v d i,x=.ref l/\vs=[v]/\H l=some (.lst xs)/\bo H ds xs/\(∀e∈ds,Ke e)/\Rep H d v/\Ke d/\(ds.map toP)[i]?=some (toP d)/\(∀j,j<i->(ds.map toP)[j]?≠some (toP d))/\i<100000/\Q (.int (i:Nat)) H
theorem CO (hu:X.A.units+64<cLine):IM X "list.index" Nk:=by
 classical
 intro pins s σ H x vs v us Q I rx rv h;obtain⟨l,xs,ds,y,d,i,rfl,rfl,hp,rd,Ky,VA,hd,hi,VB,i6,q⟩:=h;cases rx;obtain⟨u,rfl,ru⟩:=vals1 rv;obtain⟨bg,r,pl,hz⟩:=I.list (bL.of hp);obtain⟨as,ra⟩:=rP I.bU d y u VA ru;have l1:=rd.length;have l2:=r.length;have at_:∀(j:Nat) (hj:j<bg.length),∃e bs,ds[j]?=some e/\e∈ds/\Reads s.heap bg[j] (toP e) bs:=λj hj=>by
  obtain⟨e,bs,ed,re⟩:=vj I.bU rd r (ZH hj);exact⟨e,bs,ed,ZS ed,re⟩
 have VC:i<bg.length:=by
  have:=(aaI.mp hi).1;rw[ZA] at this;lia
 obtain⟨⟨c1,d1,d2,sl⟩,ho,e1,m,e2⟩:=pl.isList;cases e1;cases e2;have hit:decide (∃cs,Reads s.heap bg[i] (toP d) cs)=true:=by
  obtain⟨e,bs,ed,he,re⟩:=at_ i VC;rw[Er Ky he re];rw[ZE,ed] at hi;exact decide_eq_true (ZU hi)
 refine call_meets PySem.F.slot_list_index ⟨_,ho,rfl⟩ PySem.F.entry_list_index (PySem.F.args_list_index_2 _ _) (PySem.SeqAt.list_indexAt l bg.toArray m d1 sl u (λu=>decide (∃cs,Reads s.heap u (toP d) cs)) i (by rw[ZF];lia) (by lia) hit (λj hj hl=>?_)) ⟨ho,λy hy=>?_,⟨.int _,H,I.tok _,⟨_,rfl⟩,q⟩⟩
 ·rw[ZF] at hj;obtain⟨e,bs,ed,he,re⟩:=at_ j hj;show decide (∃cs,Reads s.heap bg[j] (toP d) cs)=false;rw[Er Ky he re];refine decide_eq_false λz=>VB j hl ?_;rw[ZE,ed];exact congrArg some z
 ·obtain⟨j,ej⟩:=List.getElem?_of_mem (List.mem_toArray.mp hy);obtain⟨e,bs,ed,re⟩:=vj I.bU rd r ej;have he:=ZS ed;show SeqAt.EqAt _ _ _ _ (decide _);rw[Er Ky he re];exact Kw re ra (Ky e he).1 hd.1 (Ky e he).2 hd.2 (by show X.A.units+1+8<cLine;lia)
end
end L2
namespace L2
open PySem PySem.Spec PyProof.Rows PySem.W
section
variable {X : Cx} {CX : nZ} {k : Nat} {C : Addr} {m : Str} {ps : List Str} {sp : Sp} {E : XK} {e o : Expr} {es : List Expr} {ta : TE} {t : TA} {pos apos : Pos} {pl : Sem Bool}
theorem Es {pins:List (Addr×Obj)} {σ:St} {H:Hp} {s:Shared} {Q:VK} {Ex:Value->Shared->Prop} (M:bD X.prog X.w X.K X.mg X.base CX k C m ps sp) (c:vH X.K C) (ho:PE X.A3 o ta) (hr:dD k X.A) (ha:PA X.A3 (e::es) t) (I:Inv X pins σ H s)
  (h:bR C m sp [] E ta t σ H Q) (hx:∀H1 s1 e s',Inv X pins σ H1 s1->CX X.stack H1 s1 E e s'->Ex e s')
  (hst:starEach (e::es) X.env=(false,eval e X.env)::starEach es X.env:=by rfl) (hpl:(backTo pos (starEach es X.env)).any (·.1)=false:=by rfl)
  (ht:eval (.Call (.Attribute o m apos) (e::es) [] pos) X.env=(do
   let ov <-eval o X.env
   standAt apos.atName
   let (f,first) <-holding [ov] (getMethod ov m pl)
   callWith pos f first (backTo pos (starEach (e::es) X.env)) (backToKw pos (keywordEach [] X.env))):=by rfl):
  wpAny (model X.prog X.w) X.A (eval (.Call (.Attribute o m apos) (e::es) [] pos) X.env) (EP X pins σ Q) Ex s:=by
 obtain⟨f,fd,hm,F,hb⟩:=M.ex;refine PySem.W.methodCall_KW (pl:=pl) (wpAny_mono (ho pins s σ H _ (I.iR _) h) (λu s1 ⟨x,H1,I1,rx,a,dx,fs,ex,ea,l,q⟩=>?_) λ_ _ z=>z.elim) ht;have I1:=I1.d8;subst ex;obtain rfl:u=Value.ref a:=rx;refine ij I1 ea c hm l ?_;refine PySem.W.callWith_K (first:=[.ref a]) (h₀:=X.base) I.ok.mod.JF hm.kp (wpAny_mono (ha pos pins s1 σ H1 _ (I1.iR _) q) (λus s2 ⟨vs,H2,I2,r,q2⟩=>⟨I2.d8.kx,?_⟩) λ_ _ z=>z.elim) hst hpl;have I2:=I2.d8;have q2:sp (.ref a::(vs++ [])) H2 Q E:=q2;rw[aab] at q2;have r':bC (.ref a::vs) (.ref a::us):=.cons rfl r;have hl:(Value.ref a::us).length=ps.length:=by
  rw[<-r'.length];exact F.len _ _ _ _ q2
 have Nl:=hb s2 (.ref a::us) I2.kx (by rw[aab];exact hl);rw[aab] at Nl;refine wpAny_call (codeAny_mono (F.run X.A X.stack s2 H2 ⟨.ref a::us,[]⟩ (.ref a::us) (.ref a::vs) Q E hr I2.GG Nl r' q2) λr s' hq=>?_);cases r with
 | error e=>exact hx H2 s2 e s' I2 hq
 | ok fl=>
  cases fl with
  | ret u=>exact I2.after hq
  | next=>exact False.elim hq
  | brk=>exact False.elim hq
  | cont=>exact False.elim hq
end
section
variable {X : Cx} {k k2 : Nat} {C C' : Addr} {m m2 : Str} {ps Tg : List Str} {sp Np : Sp} {e e2 o o2 : Expr} {es Ho : List Expr} {ta Nq : TE} {t t2 : TA} {pos apos p7 yc : Pos} {pl Hq : Sem Bool} {cx n : Str} {np Cz DW Et p3 Nr : Pos} {b₀ : Stmt} {iG : List Stmt} {i : Nat} {ts : TS} {C2 : Addr} {c : Expr} {tc : TT}
end
end L2
namespace PySem.Dfl
open PySem PyProof.Rows
section
variable {prog : Program} {w : World} {A : Around} {E : Value -> Shared -> Prop} {s : Shared}
end
section
variable {prog : Program} {w : World} {K : Type} [DecidableEq K] {knd : KeyKind prog w K} {A : Around} {R : Result -> Shared -> Prop} {I : Addr} {fp wr : List Addr} {G : Array GenState -> Array GenState -> Prop} {n : Nat} {P : Nat -> Value -> Prop} {St : Nat -> Shared -> Prop}
end
end PySem.Dfl
namespace PySem.Dfl
open PySem PyProof.Rows
section
variable {prog : Program} {w : World} {K : Type} [DecidableEq K] {knd : KeyKind prog w K} {A : Around} {E : Value -> Shared -> Prop} {s : Shared}
end
end PySem.Dfl
namespace L2
open PySem PyProof.Rows
section
variable {X : Cx} {P : Program} {w : World} {K : aaB}
end
end L2
namespace L2
open PySem PyProof.Rows
section
variable {X : Cx}
end
end L2
namespace L2
open PySem PyProof.Rows
structure YS (K:aaB) (mg:Str->Option Value) (g x:Str) (st:Stmt):Prop where
 ex:∃f fd,zU K x x st f fd/\mg g=some (.ref f)
end L2
namespace L2
open PySem PyProof.Rows
theorem exV {b:V} {Q:V->Prop}:(∃v,(some (some b):Option (Option V))=some (some v)/\Q v)=Q b:=propext ⟨fun⟨_,e,h⟩=>by cases e;exact h,λh=>⟨b,rfl,h⟩⟩
theorem exI {a:Int} {Q:Int->Prop}:(∃i,V.int a=V.int i/\Q i)=Q a:=propext ⟨fun⟨_,e,h⟩=>by cases e;exact h,λh=>⟨a,rfl,h⟩⟩
theorem exB {a:Bool} {Q:Bool->Prop}:(∃i,V.bl a=V.bl i/\Q i)=Q a:=propext ⟨fun⟨_,e,h⟩=>by cases e;exact h,λh=>⟨a,rfl,h⟩⟩
theorem exR {a:Addr} {Q:Addr->Prop}:(∃i,V.ref a=V.ref i/\Q i)=Q a:=propext ⟨fun⟨_,e,h⟩=>by cases e;exact h,λh=>⟨a,rfl,h⟩⟩
theorem exS {a:Str} {Q:Str->Prop}:(∃i,V.str a=V.str i/\Q i)=Q a:=propext ⟨fun⟨_,e,h⟩=>by cases e;exact h,λh=>⟨a,rfl,h⟩⟩
theorem exII {a b:Int} {Q:Int->Int->Prop}:(∃i j,V.int a=V.int i/\V.int b=V.int j/\Q i j)=Q a b:=propext ⟨fun⟨_,_,e,f,h⟩=>by cases e;cases f;exact h,λh=>⟨a,b,rfl,rfl,h⟩⟩
theorem exRI {a:Addr} {k:Int} {Q:Addr->List V->Int->V->Prop}:(∃p xs i v,V.ref a=V.ref p/\V.int k=V.int i/\Q p xs i v)=∃xs v,Q a xs k v:=propext ⟨fun⟨_,xs,_,v,e,f,h⟩=>by cases e;cases f;exact⟨xs,v,h⟩,fun⟨xs,v,h⟩=>⟨a,xs,k,v,rfl,rfl,h⟩⟩
theorem exRa {α:Type} {a:Addr} {Q:Addr->α->Prop}:(∃p v,V.ref a=V.ref p/\Q p v)=∃v,Q a v:=propext ⟨fun⟨_,v,e,h⟩=>by cases e;exact⟨v,h⟩,fun⟨v,h⟩=>⟨a,v,rfl,h⟩⟩
theorem exRb {α β:Type} {a:Addr} {Q:Addr->α->β->Prop}:(∃p v u,V.ref a=V.ref p/\Q p v u)=∃v u,Q a v u:=propext ⟨fun⟨_,v,u,e,h⟩=>by cases e;exact⟨v,u,h⟩,fun⟨v,u,h⟩=>⟨a,v,u,rfl,h⟩⟩
theorem scal_ss {a b:Str}:zy (.str a) (.str b)=true:=rfl
theorem scal_ii {a b:Int}:zy (.int a) (.int b)=true:=rfl
theorem scal_bb {a b:Bool}:zy (.bl a) (.bl b)=true:=rfl
theorem scal_si {a:Str} {b:Int}:zy (.str a) (.int b)=true:=rfl
theorem scal_is {a:Int} {b:Str}:zy (.int a) (.str b)=true:=rfl
end L2
namespace L2
open PySem PySem.Spec PyProof.Rows PySem.W
section
variable {X : Cx}
end
end L2
namespace L2
open PySem PySem.Spec PyProof.Rows PySem.W
section
variable {X : Cx} {k : Nat} {x : Str} {ps : List Str} {sp : Sp} {e : Expr} {es : List Expr} {t : TA} {p pos : Pos}
variable {cx n : Str} {np Cz DW p3 : Pos} {b₀ : Stmt} {iG : List Stmt} {i : Nat} {ts : TS} {C2 : Addr}
end
end L2
namespace L2
open PySem PySem.Spec PyProof.Rows
section
variable {X : Cx}
end
end L2
namespace L2
open PySem PySem.Spec PyProof.Rows
section
variable {X : Cx}
noncomputable def Nt (ta:TA):TE:=λσ H Q=>ta σ H λvs H1=>∃(a:Int) (n:Nat),vs=[.int a,.int (a+ (n:Int))]/\n<=1000000/\-1000000<=a/\a<=1000000/\∀l,H1 l=none->Q (.ref l) (upd H1 l (.lst ((List.range n).map λi:Nat=>V.int (a+ (i:Int)))))
theorem ud {a b:Expr} {ta:TA} {p1 p2 QB p7:Pos} (hc:X.calm=true) (VD:Gl X "list") (VE:X.mg "list"=none) (VF:Gl X "range") (vk:X.mg "range"=none) (ha:PA X [a,b] ta) (hs:starEach [a,b] X.env=[(false,eval a X.env),(false,eval b X.env)]:=by rfl) (IK:starEach [b] X.env=[(false,eval b X.env)]:=by rfl):
  PE X (.Call (.Name "list" p1) [.Call (.Name "range" p2) [a,b] [] p7] [] QB) (Nt ta):=by
 intro pins s σ H Q I h;refine wpAny_Call_Name_kw (gI I VD VE (u:=.type "list") rfl ?_ ∅ ∅);refine aaz ?_ (se rfl) rfl;rw[se rfl];show wpAny _ _ (spliced [(false,eval (.Call (.Name "range" p2) [a,b] [] p7) X.env)]) _ _ s;refine Calls.spliced_cons ?_;refine Call_ (gI I VF vk boot_range (aaz (cG (ha p7 pins s σ H _ I h) λus s1 dC=>?_) (by rw[hs,IK]) (by rw[IK];rfl)));obtain⟨vs,H1,I1,r1,q1⟩:=dC;obtain⟨i,n,e,hn,i0,i1,q⟩:=q1;subst e;cases r1 with
 | cons r rr=>
 cases rr with
 | cons r' rr=>
 cases rr;obtain⟨t,rfl⟩:=r;obtain⟨t',rfl⟩:=r';refine call_range_2 (Calls.spliced_nil ?_);refine call_list_range (n:=n) (I.ok.hd hc) (aaM _ rfl) ?_ ?_ (by lia) λh' tk QC c' hk Th zX=>?_
 ·exact small_one (by lia) (by lia) (by lia) (by lia)
 ·rw[rangeSize_one];split <;>lia
 have fr:=I1.bU.fresh (a:=s1.heap.objs.size+1) (Nat.le_succ _);have sz:(s1.heap.push {cls:=.type "range",data:=.fields #[.int i t,.int (i+ (n:Int)) t',.int 1 s1.toks]}).objs.size=s1.heap.objs.size+1:=Heap.size_push ..;simp only[sz] at Th ⊢;refine⟨.ref (s1.heap.objs.size+1),_,I1.laid (t':=tk) (λb o e=>hk b o (aaL _ e)) (Nat.le_succ _) (o:=.lst ((List.range n).map λj:Nat=>V.int (i+ (j:Int)))) ⟨?_,QC.toList,c',?_,?_⟩,rfl,q _ fr⟩
 ·rw[ZA,Z9];have:=sizeLine_eq;lia
 ·have go:∀(us:List Value) (ws:List V),us.length=ws.length->(∀(j:Nat) v x,us[j]?=some v->ws[j]?=some x->RelV x v)->bC ws us:=by
   intro us
   induction us with
   | nil=>intro ws hl _;cases ws with | nil=>exact .nil | cons _ _=>simp at hl
   | cons u us ih=>
    intro ws hl k;cases ws with
    | nil=>simp at hl
    | cons x r=>exact .cons (k 0 u x rfl rfl) (ih r (by simpa using hl) λj v y e1 e2=>k (j+1) v y (by simpa using e1) (by simpa using e2))
  refine go _ _ (by rw[aam,zX.1,ZA,Z9]) λj v x e1 e2=>?_;rw[Array.getElem?_toList] at e1;obtain⟨t',rfl⟩:=zX.2 j v e1;rw[ZE] at e2;obtain⟨m,em,rfl⟩:=aaH.mp e2;have:m=j:=by
   obtain⟨_,h2⟩:=aaI.mp em;rw[List.getElem_range] at h2;exact h2.symm
  subst this;exact⟨t',by simp⟩
 ·simpa using Th
end
end L2
namespace L2
open PySem PySem.Spec PyProof.Rows PySem.W
section
variable {X : Cx} {CX : nZ} {k : Nat} {C : Addr} {m : Str} {ps : List Str} {sp : Sp} {E : XK} {o : Expr} {ta : TE} {pos apos : Pos} {pl : Sem Bool}
theorem Eu:IM X "str.upper" (λx xs H Q=>∃z,x=.str z/\xs=[]/\Builtin.Str.tooLong (Txt.upper z).length=false/\Q (.str (Txt.upper z)) H):=by
 intro pins s σ H x xs v us Q I rx rv h;obtain⟨z,rfl,rfl,hf,q⟩:=h;obtain⟨t,rfl⟩:=rx;cases rv;exact SC.upper hf ⟨.str _,H,I.tok _,⟨_,rfl⟩,q⟩
theorem Hr {pins:List (Addr×Obj)} {σ:St} {H:Hp} {s:Shared} {Q:VK} {Ex:Value->Shared->Prop} (M:bD X.prog X.w X.K X.mg X.base CX k C m ps sp) (c:vH X.K C) (ho:PE X.A3 o ta) (hr:dD k X.A) (I:Inv X pins σ H s)
  (h:bR C m sp [] E ta tNil σ H Q) (hx:∀H1 s1 e s',Inv X pins σ H1 s1->CX X.stack H1 s1 E e s'->Ex e s')
  (ht:eval (.Call (.Attribute o m apos) [] [] pos) X.env=(do
   let ov <-eval o X.env
   standAt apos.atName
   let (f,first) <-holding [ov] (getMethod ov m pl)
   callWith pos f first (backTo pos (starEach [] X.env)) (backToKw pos (keywordEach [] X.env))):=by rfl):
  wpAny (model X.prog X.w) X.A (eval (.Call (.Attribute o m apos) [] [] pos) X.env) (EP X pins σ Q) Ex s:=by
 obtain⟨f,fd,hm,F,hb⟩:=M.ex;refine PySem.W.methodCall_KW (pl:=pl) (wpAny_mono (ho pins s σ H _ (I.iR _) h) (λu s1 ⟨x,H1,I1,rx,a,dx,fs,ex,ea,l,q⟩=>?_) λ_ _ z=>z.elim) ht;have I1:=I1.d8;subst ex;obtain rfl:u=Value.ref a:=rx;refine ij I1 ea c hm l ?_;refine PySem.W.callWith_K0 (first:=[.ref a]) I1.kx hm.kp ?_;have q2:sp [.ref a] H1 Q E:=q;have r':bC [.ref a] [Value.ref a]:=.cons rfl .nil;have hl:([Value.ref a]:List Value).length=ps.length:=by
  rw[<-r'.length];exact F.len _ _ _ _ q2
 have Nl:=hb s1 [.ref a] I1.kx (by rw[aab];exact hl);rw[aab] at Nl;refine wpAny_call (codeAny_mono (F.run X.A X.stack s1 H1 ⟨[.ref a],[]⟩ [.ref a] [.ref a] Q E hr I1.GG Nl r' q2) λr s' hq=>?_);cases r with
 | error e=>exact hx H1 s1 e s' I1 hq
 | ok fl=>
  cases fl with
  | ret u=>exact I1.after hq
  | next=>exact False.elim hq
  | brk=>exact False.elim hq
  | cont=>exact False.elim hq
end
section
variable {X : Cx} {k0 k k2 : Nat} {C0 C C' : Addr} {m0 m m2 : Str} {VG ps Tg : List Str} {O5 sp Np : Sp} {o0 e e2 o o2 : Expr} {es Ho : List Expr} {O6 ta Nq : TE} {t t2 : TA} {CP Bx pos apos p7 yc : Pos} {Ti pl Hq : Sem Bool} {cx n : Str} {np Cz IZ DW Et p3 Nr Nu : Pos} {b₀ : Stmt} {iG : List Stmt} {i : Nat} {ts : TS} {C2 : Addr} {c0 c : Expr} {O7 tc : TT}
noncomputable def Ew (K:aaB) (O7:TT) (C0:Addr) (m0:Str) (O5:Sp) (O6:TE) (tc:TT) (C:Addr) (m:Str) (sp:Sp) (ta:TE) (t:TA) (C':Addr) (m2:Str) (Np:Sp) (Nq:TE) (t2:TA) (C2:Addr) (i:Nat) (ts:TS):TS:=λD σ H=>O7 σ H λd0 H0=>if d0=true then bR C0 m0 O5 [] (DV K C2 i ts D σ) O6 tNil σ H0 (λ_ H2=>D.nx σ H2) else tc σ H0 λd H1=>if d=true then bR C m sp [] (DV K C2 i ts D σ) ta t σ H1 (λ_ H2=>D.nx σ H2) else bR C' m2 Np [] (DV K C2 i ts D σ) Nq t2 σ H1 (λ_ H2=>D.nx σ H2)
theorem Ey (VH:PT X.A3 c0 O7) (M0:bD X.prog X.w X.K X.mg X.base (br X.prog X.w) k0 C0 m0 VG O5) (OZ:vH X.K C0) (VI:PE X.A3 o0 O6) (VJ:dD k0 X.A) (hc:PT X.A3 c tc) (M:bD X.prog X.w X.K X.mg X.base (br X.prog X.w) k C m ps sp) (cl:vH X.K C) (ho:PE X.A3 o ta) (hr:dD k X.A) (ha:PA X.A3 (e::es) t)
  (M':bD X.prog X.w X.K X.mg X.base (br X.prog X.w) k2 C' m2 Tg Np) (zj:vH X.K C') (Dp:PE X.A3 o2 Nq) (Ak:dD k2 X.A) (OX:PA X.A3 (e2::Ho) t2) (hst:X.stack=X.env::X.outer) (hf:X.env.frame=some X.env.locals)
  (QD:Gl X cx) (hm:X.mg cx=some (.ref C2)) (hN:X.N.Nodup) (hi:X.N[i]?=some n) (hl:X.env.scope.names.lookup n=some .local) (hs:∀ad,xy (X.mark ad) (b₀::iG) ts)
  (QE:swapsWith (.Call (.Attribute o0 m0 Bx) [] [] CP) none IZ.line X.env=pure false:=by rfl) (Qx:swapsWith (.Call (.Attribute o m apos) (e::es) [] pos) none DW.line X.env=pure false:=by rfl) (QF:swapsWith (.Call (.Attribute o2 m2 yc) (e2::Ho) [] p7) none Et.line X.env=pure false:=by rfl) (QG:(cx==("__debug__":Str))=false:=by decide)
  (he:starEach (e::es) X.env=(false,eval e X.env)::starEach es X.env:=by rfl) (hpl:(backTo pos (starEach es X.env)).any (·.1)=false:=by rfl)
  (he2:starEach (e2::Ho) X.env=(false,eval e2 X.env)::starEach Ho X.env:=by rfl) (hpl2:(backTo p7 (starEach Ho X.env)).any (·.1)=false:=by rfl)
  (VL:eval (.Call (.Attribute o0 m0 Bx) [] [] CP) X.env=(do
   let ov <-eval o0 X.env
   standAt Bx.atName
   let (f,first) <-holding [ov] (getMethod ov m0 Ti)
   callWith CP f first (backTo CP (starEach [] X.env)) (backToKw CP (keywordEach [] X.env))):=by rfl)
  (ht:eval (.Call (.Attribute o m apos) (e::es) [] pos) X.env=(do
   let ov <-eval o X.env
   standAt apos.atName
   let (f,first) <-holding [ov] (getMethod ov m pl)
   callWith pos f first (backTo pos (starEach (e::es) X.env)) (backToKw pos (keywordEach [] X.env))):=by rfl)
  (VM:eval (.Call (.Attribute o2 m2 yc) (e2::Ho) [] p7) X.env=(do
   let ov <-eval o2 X.env
   standAt yc.atName
   let (f,first) <-holding [ov] (getMethod ov m2 Hq)
   callWith p7 f first (backTo p7 (starEach (e2::Ho) X.env)) (backToKw p7 (keywordEach [] X.env))):=by rfl):
  PS X (.Try [.If c0 [.Expr (.Call (.Attribute o0 m0 Bx) [] [] CP) IZ] [.If c [.Expr (.Call (.Attribute o m apos) (e::es) [] pos) DW] [.Expr (.Call (.Attribute o2 m2 yc) (e2::Ho) [] p7) Et] Nu] Nr] [.ExceptHandler (some (.Name cx np)) (some n) (b₀::iG) Cz] [] [] p3) (Ew X.K O7 C0 m0 O5 O6 tc C m sp ta t C' m2 Np Nq t2 C2 i ts):=by
 intro pins s σ H D I h;refine wpAny_Try_except (wpAny_execs_cons (wpAny_If (wpAny_mono (VH pins s σ H _ (I.iR _) h) (λd s1 ⟨H1,I1,q1⟩=>?_) λ_ _ z=>z.elim)));have I1:=I1.d8;cases d with
 | true=>
  refine wpAny_execs_cons (wpAny_Expr_any (cG (Hr (pl:=Ti) M0 OZ VI VJ I1 q1 (λH1 s1 e1 s' I1 ⟨ad,cls,H',ee,F,hx,q⟩=>?_) VL) λv s1 ⟨z,H1,I1,r1,q1⟩=>?_) I1.quiet QE)
  ·subst ee;exact zW I1 F hst hf QD hm hx hN hi hl (hs ad) (q ad F.tracked) QG
  ·exact wpAny_execs_nil (wpAny_execs_nil (wpAny_execs_nil ⟨σ,H1,I1,q1⟩))
 | false=>
  refine wpAny_execs_cons (wpAny_If (wpAny_mono (hc pins s1 σ H1 _ (I1.iR _) q1) (λd s2 ⟨H2,I2,q2⟩=>?_) λ_ _ z=>z.elim));have I2:=I2.d8;cases d with
  | true=>
   refine wpAny_execs_cons (wpAny_Expr_any (cG (Es (pl:=pl) M cl ho hr ha I2 q2 (λH1 s1 e1 s' I1 ⟨ad,cls,H',ee,F,hx,q⟩=>?_) he hpl ht) λv s1 ⟨z,H1,I1,r1,q1⟩=>?_) I2.quiet Qx)
   ·subst ee;exact zW I1 F hst hf QD hm hx hN hi hl (hs ad) (q ad F.tracked) QG
   ·exact wpAny_execs_nil (wpAny_execs_nil (wpAny_execs_nil (wpAny_execs_nil ⟨σ,H1,I1,q1⟩)))
  | false=>
   refine wpAny_execs_cons (wpAny_Expr_any (cG (Es (pl:=Hq) M' zj Dp Ak OX I2 q2 (λH1 s1 e1 s' I1 ⟨ad,cls,H',ee,F,hx,q⟩=>?_) he2 hpl2 VM) λv s1 ⟨z,H1,I1,r1,q1⟩=>?_) I2.quiet QF)
   ·subst ee;exact zW I1 F hst hf QD hm hx hN hi hl (hs ad) (q ad F.tracked) QG
   ·exact wpAny_execs_nil (wpAny_execs_nil (wpAny_execs_nil (wpAny_execs_nil ⟨σ,H1,I1,q1⟩)))
end
end L2
namespace Wq
abbrev Sh:=Int×Int
noncomputable def Lw (x:Sh):Prop:=0<x.2/\Nm.g x.1 x.2=1
noncomputable def sc (L:Int) (x:Sh):Int:=x.1* (L / x.2)
theorem vW {L:Int} {x:Sh} (h:x.2∣L):sc L x*x.2=x.1*L:=by
 unfold sc;rw[Int.mul_assoc,Int.ediv_mul_cancel h]
theorem Ez {L s:Int} {x:Sh} (h:Lw x) (L0:0<L) (e:x.1*L=s*x.2):x.2∣L/\sc L x=s:=by
 have c:Int.gcd x.1 x.2=1:=by have:=h.2;unfold Nm.g at this;lia
 have d:x.2∣L:=Nm.GW (q:=x.2) (a:=x.1) ⟨s,by rw[e,Int.mul_comm]⟩ c;refine⟨d,?_⟩;have:=vW d;rw[e] at this;exact Int.eq_of_mul_eq_mul_right (by have:=h.1;lia) this
noncomputable def low (a b:Int):Sh:=(Nm.st a b,Nm.sb a b)
theorem EA {a b:Int} (h:0<b):Lw (low a b):=⟨Nm.Ka (by lia),Nm.Kb (by lia)⟩
theorem Kz {a b L s:Int} (h:0<b) (L0:0<L) (e:a*L=s*b):(low a b).2∣L/\sc L (low a b)=s:=by
 refine Ez (EA h) L0 ?_;have c:=Nm.DZ a b;show Nm.st a b*L=s*Nm.sb a b;refine Int.eq_of_mul_eq_mul_right (show b≠0 by lia) ?_
 calc Nm.st a b*L*b=(Nm.st a b*b)*L:=Int.mul_right_comm ..
  _=a*Nm.sb a b*L:=by rw[c]
  _=(a*L)*Nm.sb a b:=Int.mul_right_comm ..
  _=s*b*Nm.sb a b:=by rw[e]
  _=s*Nm.sb a b*b:=Int.mul_right_comm ..
noncomputable def pl (x y:Sh):Sh:=low (x.1*y.2+y.1*x.2) (x.2*y.2)
noncomputable def tm (x y:Sh):Sh:=low (x.1*y.1) (x.2*y.2)
theorem Nv {L:Int} {x y:Sh} (hx:0<x.2) (hy:0<y.2) (L0:0<L) (dx:x.2∣L) (dy:y.2∣L):Lw (pl x y)/\(pl x y).2∣L/\sc L (pl x y)=sc L x+sc L y:=by
 have e1:=vW dx;have e2:=vW dy;refine⟨EA (Int.mul_pos hx hy),Kz (Int.mul_pos hx hy) L0 ?_⟩
 calc (x.1*y.2+y.1*x.2)*L=(x.1*L)*y.2+ (y.1*L)*x.2:=by rw[Int.add_mul,Int.mul_right_comm,Int.mul_right_comm y.1]
  _=sc L x*x.2*y.2+sc L y*y.2*x.2:=by rw[e1,e2]
  _=(sc L x+sc L y)* (x.2*y.2):=by rw[Int.add_mul,Int.mul_assoc,Int.mul_assoc,Int.mul_comm y.2 x.2]
end Wq
namespace K78
open PySem PySem.Spec PyProof.Rows L2
set_option maxHeartbeats 4000000
local macro_rules | `(tactic| simp! only [$ls,*]) => `(tactic| simp only [↓exV, ↓exI, ↓exB, ↓exR, ↓exS, ↓exII, ↓exRI, ↓exRa, ↓exRb, L2.start, Pr, tSortR, tSl, tNoPart, tPart, rSlL, tDNotIn, gSub, rSetL, tLst, tDNewK, tComp, L2.stC, tFor_eq, iList, iRng1, iRng2, iEnum, tChain, tSumV, tBM, rJoin, tRaise, tDGet, tDGet2, sDPut, Option.join_some, List.getElem?_nil, tSeq, tRet, tIfS, tTest, tB, tOp, tUn, tVar, tC, tCB, tCons, tNil, tCall, tTupS, tAsg, gName, gNil, gCons, tPar, tNext, tDrop, tAnd, tOr, tNot, tAndV, tNotV, tIf, rI, rI0, rU, rIxTH, rIxLH, rInT, rEq, rNe, scal_ss, scal_ii, scal_bb, scal_si, scal_is, CPow, at0, at1, at2, List.map_cons, List.map_nil, List.length_cons, List.length_nil, Nat.reduceSub, Nat.reduceAdd, Nat.zero_add, List.replicate_zero, List.reduceReplicate, List.append_nil, List.nil_append, List.cons_append, List.getElem?_cons_zero, List.getElem?_cons_succ, List.set_cons_zero, List.set_cons_succ, Option.some.injEq, exists_eq_left', exists_eq_left, V.ref.injEq, V.int.injEq, V.bl.injEq, V.str.injEq, V.ty.injEq, HO.tup.injEq, HO.lst.injEq, List.cons.injEq, and_true, true_and, and_assoc, exists_and_left, decide_eq_true_eq, Bool.not_eq_true', decide_eq_false_iff_not, ite_true, ite_false, if_true, if_false, Int.reduceToNat, eq_self_iff_true, $ls,*])
local macro_rules | `(tactic| dsimp? [$ls,*]) => `(tactic| (first | ((dsimp (config := { zetaDelta := true }) only [L2.start, Pr, tSortR, tSl, tNoPart, tPart, rSlL, tDNotIn, gSub, rSetL, tLst, tDNewK, tComp, L2.stC, tFor_eq, iList, iRng1, iRng2, iEnum, tChain, tSumV, tBM, rJoin, tRaise, tDGet, tDGet2, sDPut, tSeq, tRet, tIfS, tTest, tB, tOp, tUn, tVar, tC, tCB, tCons, tNil, tCall, tTupS, tAsg, gName, gNil, gCons, tPar, tNext, tDrop, tAnd, tOr, tNot, tAndV, tNotV, tIf, rI, rI0, rU, rIxTH, rIxLH, rInT, rEq, rNe, scal_ss, scal_ii, scal_bb, scal_si, scal_is, CPow, List.getElem?_cons_zero, List.getElem?_cons_succ, List.set_cons_zero, List.set_cons_succ]); try simp! only [$ls,*]) | simp! only [$ls,*] | simp_all only [$ls,*]))
seal L2.PE L2.PT L2.PW L2.PA L2.PS L2.xy L2.PG L2.L9 L2.PI L2.Kj L2.PO L2.jF L2.OP L2.cQ L2.Ge L2.MT L2.IM L2.JX
theorem au {P:Program} {w:World}:vO (br P w):=Bg P w
set_option genInjectivity false in
set_option genSizeOf false in
structure Txt (K:aaB) (mg:Str->Option Value) (aB aH aI aV aE aL aW aM aA aN aX af av:Addr):Prop where
 z_ValueError:mg "ValueError"=none
 z_abs:mg "abs"=none
 z_bool:mg "bool"=none
 z_enumerate:mg "enumerate"=none
 z_int:mg "int"=none
 z_isinstance:mg "isinstance"=none
 z_len:mg "len"=none
 z_list:mg "list"=none
 z_max:mg "max"=none
 z_min:mg "min"=none
 z_range:mg "range"=none
 z_sorted:mg "sorted"=none
 z_str:mg "str"=none
 z_sum:mg "sum"=none
 Am:Dn K mg "is_whole" (top 13)
 oE:Dn K mg "common_divisor" (top 14)
 Hs:Dn K mg "share" (top 15)
 KA:Dn K mg "plus" (top 16)
 lG:Dn K mg "table_by_weights" (top 18)
 An:Dn K mg "table_of" (top 19)
 Ht:Dn K mg "power" (top 23)
 vX:Dn K mg "most_faces" (top 24)
 uf:Dn K mg "part_bottom" (top 25)
 vY:Dn K mg "part_count" (top 26)
 vZ:Dn K mg "check_size" (top 27)
 wa:Dn K mg "dice_faces" (top 28)
 ug:Dn K mg "again_faces" (top 29)
 uh:Dn K mg "burst_faces" (top 30)
 wb:Dn K mg "part_faces" (top 31)
 Ao:Dn K mg "value_of" (top 32)
 p8:Dn K mg "sides_product" (top 33)
 ui:Dn K mg "part_throws" (top 34)
 lH:Dn K mg "throws_by_bottom" (top 35)
 wc:Dn K mg "pool_table" (top 36)
 Ap:Dn K mg "own_rows" (top 38)
 Aq:Dn K mg "own_what" (top 39)
 yd:Dn K mg "_law_cell" (top 45)
 we:Dn K mg "_law_mixed" (top 46)
 Ar:Dn K mg "_law_low" (top 47)
 ye:Dn K mg "_law_plus" (top 48)
 wg:Dn K mg "_law_words" (top 50)
 wj:Dn K mg "_law_deeds" (top 51)
 wm:Dn K mg "_law_throw" (top 52)
 yf:Dn K mg "_law_pick" (top 53)
 yg:Dn K mg "_law_game" (top 54)
 uj:Dn K mg "_law_values" (top 55)
 yh:Dn K mg "_law_what" (top 56)
 uk:Dn K mg "_law_number" (top 57)
 rS:Dn K mg "_law_arrived" (top 58)
 yi:Dn K mg "_law_done" (top 59)
 mR:Dn K mg "_law_holds_when" (top 60)
 yj:Dn K mg "_law_open" (top 61)
 yk:Dn K mg "_law_gone" (top 62)
 ym:Dn K mg "_law_paid" (top 63)
 um:Dn K mg "_law_points" (top 64)
 As:Dn K mg "_law_bad" (top 65)
 rT:Dn K mg "_law_refused" (top 66)
 yn:Dn K mg "_law_same" (top 67)
 c_MOST_THROWS:∃t,mg "MOST_THROWS"=some (.int 1296 t)
 c_MOST_BOTTOM:∃t,mg "MOST_BOTTOM"=some (.int 1000000 t)
 c_MOST_STEPS:∃t,mg "MOST_STEPS"=some (.int 200 t)
 k_LuckError:mg "LuckError"=some (.ref aB)
 k_NoShare:mg "NoShare"=some (.ref aH)
 k_NoTable:mg "NoTable"=some (.ref aI)
 k_NoEnd:mg "NoEnd"=some (.ref aV)
 k_TooMany:mg "TooMany"=some (.ref aE)
 k_NoGame:mg "NoGame"=some (.ref aL)
 k_NoWay:mg "NoWay"=some (.ref aW)
 k_NoRule:mg "NoRule"=some (.ref aM)
 k_NoStep:mg "NoStep"=some (.ref aA)
 k_NoPlay:mg "NoPlay"=some (.ref aN)
 k_NoRow:mg "NoRow"=some (.ref aX)
 k_Course:mg "Course"=some (.ref af)
 k_Play:mg "Play"=some (.ref av)
 x_NoShare:PySem.W.excIn K aH vQ mJ=true
 x_NoTable:PySem.W.excIn K aI vQ mJ=true
 x_TooMany:PySem.W.excIn K aE vQ mJ=true
 x_NoStep:PySem.W.excIn K aA vQ mJ=true
 rV:ff K aA
 e_NoStep_LuckError:PySem.W.exmOne K (.ref aA) (.ref aB)=some true
 i_NoStep_NoStep:PySem.W.kitOne K (.ref aA) (.ref aA)=some true
 i_NoStep_ValueError:PySem.W.kitOne K (.ref aA) (.type "ValueError")=some true
 n_NoStep_NoEnd:PySem.W.kitOne K (.ref aA) (.ref aV)=some false
 n_NoStep_NoGame:PySem.W.kitOne K (.ref aA) (.ref aL)=some false
 n_NoStep_NoPlay:PySem.W.kitOne K (.ref aA) (.ref aN)=some false
 n_NoStep_NoRow:PySem.W.kitOne K (.ref aA) (.ref aX)=some false
 n_NoStep_NoRule:PySem.W.kitOne K (.ref aA) (.ref aM)=some false
 n_NoStep_NoWay:PySem.W.kitOne K (.ref aA) (.ref aW)=some false
 n_NoStep_TooMany:PySem.W.kitOne K (.ref aA) (.ref aE)=some false
 aS:vH K af
 bc:vH K av
 na_Course_first:aaG K (.ref af) "first"=some none
 na_Course_mosts:aaG K (.ref af) "mosts"=some none
 na_Course_spots:aaG K (.ref af) "spots"=some none
 na_Course_tables:aaG K (.ref af) "tables"=some none
 na_Course_whats:aaG K (.ref af) "whats"=some none
 na_Play_course:aaG K (.ref av) "course"=some none
 na_Play_paid:aaG K (.ref av) "paid"=some none
 na_Play_state:aaG K (.ref av) "state"=some none
 na_Play_trail:aaG K (.ref av) "trail"=some none
 CQ:O2 K mg "Course" "Course.__init__" (inClass (top 40) 0) af
 Hu:O2 K mg "Play" "Play.__init__" (inClass (top 43) 0) av
 p9:tY K af "asked" "Course.asked" (inClass (top 40) 3)
 oF:tY K af "by_row" "Course.by_row" (inClass (top 40) 6)
 lI:tY K af "by_value" "Course.by_value" (inClass (top 40) 7)
 wq:tY K af "do" "Course.do" (inClass (top 40) 2)
 jS:tY K af "end_worth" "Course.end_worth" (inClass (top 40) 12)
 qa:tY K af "holds" "Course.holds" (inClass (top 40) 9)
 jT:tY K af "open_rows" "Course.open_rows" (inClass (top 40) 10)
 uo:tY K af "put" "Course.put" (inClass (top 40) 1)
 qb:tY K af "start" "Course.start" (inClass (top 40) 4)
 lJ:tY K af "table_at" "Course.table_at" (inClass (top 40) 8)
 mS:tY K af "what_at" "Course.what_at" (inClass (top 40) 5)
 lK:tY K af "words_at" "Course.words_at" (inClass (top 40) 11)
 wu:tY K av "back" "Play.back" (inClass (top 43) 7)
 Au:tY K av "go" "Play.go" (inClass (top 43) 4)
 mT:tY K av "open_ways" "Play.open_ways" (inClass (top 43) 3)
 rW:tY K av "points" "Play.points" (inClass (top 43) 2)
 yo:tY K av "say" "Play.say" (inClass (top 43) 5)
 uq:tY K av "shown" "Play.shown" (inClass (top 43) 8)
 rX:tY K av "stands" "Play.stands" (inClass (top 43) 1)
 ur:tY K av "throw" "Play.throw" (inClass (top 43) 6)
noncomputable def fY (K:aaB) (x q:Str) (st:Stmt):Prop:=∃f oc od sl kV dc pm an cd ct,aaF K mainGlobals x=some (some (.ref f))/\K.lookup f=some ⟨oc,od,.func (aaE q q (bH st) (bE st) (aq st) .none kV dc pm an cd ct),sl⟩/\aaD K cd q=true/\aaC K (.ref f)=true
theorem VN {K:aaB} {x q:Str} {st:Stmt} {f:Addr} {od an:Option Addr} {sl:Array (Option Value)} {oc kV dc pm cd ct:Value} (a:aaF K mainGlobals x=some (some (.ref f))) (l:K.lookup f=some ⟨oc,od,.func (aaE q q (bH st) (bE st) (aq st) .none kV dc pm an cd ct),sl⟩) (e:aaD K cd q=true) (k:aaC K (.ref f)=true):fY K x q st:=⟨_,_,_,_,_,_,_,_,_,_,a,l,e,k⟩
theorem fY.dn {K:aaB} {h:Heap} {mg:Str->Option Value} {x:Str} {st:Stmt} (F:fY K x x st) (X:K.In h) (G:h.Ns mainGlobals mg):Dn K mg x st:=by
 obtain⟨_,_,_,_,_,_,_,_,_,_,a,l,e,k⟩:=F;exact⟨_,_,cI l e k,ZW X G a⟩
theorem QH {C:List Value->Prop} (k:C []):∀us:List Value,us.length=0->C us:=λus h=>by
 cases us with
 | nil=>exact k
 | cons a us=>cases h
theorem EB {C:List Value->Prop} {n:Nat} (k:∀a (us:List Value),us.length=n->C (a::us)):∀us:List Value,us.length=n+1->C us:=λus h=>by
 cases us with
 | nil=>cases h
 | cons a us=>exact k a us (Nat.succ.inj h)
theorem gZ {C:List Value->Prop} (k:∀a,C [a]):∀us:List Value,us.length=1->C us:=EB λa=>QH (C:=λus=>C (a::us)) (k a)
theorem eG {C:List Value->Prop} (k:∀a b,C [a,b]):∀us:List Value,us.length=2->C us:=EB λa=>gZ (C:=λus=>C (a::us)) (k a)
theorem uu {C:List Value->Prop} (k:∀a b c,C [a,b,c]):∀us:List Value,us.length=3->C us:=EB λa=>eG (C:=λus=>C (a::us)) (k a)
theorem uv {C:List Value->Prop} (k:∀a b c d,C [a,b,c,d]):∀us:List Value,us.length=4->C us:=EB λa=>uu (C:=λus=>C (a::us)) (k a)
theorem QI {C:List Value->Prop} (k:∀a b c d e,C [a,b,c,d,e]):∀us:List Value,us.length=5->C us:=EB λa=>uv (C:=λus=>C (a::us)) (k a)
noncomputable def Al {α:Type} (R:α->V->Prop):List α->List V->Prop
 | [],[]=>True
 | a::as,v::vs=>R a v/\Al R as vs
 | _,_=>False
theorem Al.length {α:Type} {R:α->V->Prop}:∀{as:List α} {vs:List V},Al R as vs->vs.length=as.length
 | [],[],_=>rfl
 | a::as,v::vs,h=>by simp [Al.length h.2]
theorem Al.imp {α:Type} {R S:α->V->Prop} (f:∀a v,R a v->S a v):∀{as:List α} {vs:List V},Al R as vs->Al S as vs
 | [],[],_=>trivial
 | a::as,v::vs,h=>⟨f _ _ h.1,Al.imp f h.2⟩
theorem Al.append {α:Type} {R:α->V->Prop}:∀{as bs:List α} {us vs:List V},Al R as us->Al R bs vs->Al R (as++bs) (us++vs)
 | [],_,[],_,_,k=>k
 | a::as,_,v::vs,_,h,k=>⟨h.1,Al.append h.2 k⟩
theorem Al.one {α:Type} {R:α->V->Prop} {a:α} {v:V} (h:R a v):Al R [a] [v]:=⟨h,trivial⟩
theorem Al.get {α:Type} {R:α->V->Prop}:∀{as:List α} {vs:List V} {i:Nat} {v:V},Al R as vs->vs[i]?=some v->∃a,as[i]?=some a/\R a v:=by
 intro as
 induction as with
 | nil=>
  intro vs i v h e;cases vs with
  | nil=>simp at e
  | cons u vs=>exact h.elim
 | cons a as ih=>
  intro vs i v h e;cases vs with
  | nil=>exact h.elim
  | cons u vs=>
   cases i with
   | zero=>cases e;exact⟨a,rfl,h.1⟩
   | succ i=>exact ih (vs:=vs) (i:=i) h.2 e
theorem Al.at {α:Type} {R:α->V->Prop}:∀{as:List α} {vs:List V} {i:Nat} {a:α},Al R as vs->as[i]?=some a->∃v,vs[i]?=some v/\R a v:=by
 intro as
 induction as with
 | nil=>
  intro vs i v h e;simp at e
 | cons a as ih=>
  intro vs i v h e;cases vs with
  | nil=>exact h.elim
  | cons u vs=>
   cases i with
   | zero=>cases e;exact⟨u,rfl,h.1⟩
   | succ i=>exact ih (vs:=vs) (i:=i) h.2 e
theorem Al.of {α:Type} {R:α->V->Prop}:∀{as:List α} {vs:List V},vs.length=as.length->(∀(i:Nat) v a,vs[i]?=some v->as[i]?=some a->R a v)->Al R as vs
 | [],[],_,_=>trivial
 | [],_::_,l,_=>by simp at l
 | _::_,[],l,_=>by simp at l
 | a::as,u::vs,l,h=>⟨h 0 u a rfl rfl,Al.of (by simpa using l) λi v b e1 e2=>h (i+1) v b (by simpa using e1) (by simpa using e2)⟩
noncomputable def KC:Sp:=λvs H Q _=>∃a b,vs=[.int a,.int b]/\Q (.int (Nm.g a b)) H
noncomputable def ED (qn:Addr):Sp:=λvs H Q E=>∃a b,vs=[.int a,.int b]/\Bt 5000 b/\(b=0->E (.ref qn) none H)/\(b≠0->∀p H',aF H H'->H p=none->H' p=some (.tup (Pr (Nm.st a b) (Nm.sb a b)))->Q (.ref p) H')
noncomputable def Hv:Sp:=λvs H Q _=>∃d B ws,vs=[.ref d,.int B]/\H d=some (.dK (enc ws))/\(Nm.keys ws).Nodup/\ws.length<64/\B≠0/\Bt 5000 B/\∀p H',aF H H'->H p=none->Rep H' (mP (Nm.rowsOf ws B)) (.ref p)->Q (.ref p) H'
noncomputable def KD (qt:Addr):Sp:=λvs H Q E=>∃v ps,vs=[v]/\Rep H (Eg ps) v/\ps.length<=1296/\(∀p∈ps,p.2<=10^12)/\(Nm.kG ps).length<64/\
 (Nm.bad ps->∀H',aF H H'->E (.ref qt) none H')/\
 (¬Nm.bad ps->∀p H',aF H H'->H p=none->Rep H' (mP (Nm.rowsOf (Nm.kG ps) (Nm.rG (Nm.kG ps)))) (.ref p)->Q (.ref p) H')
noncomputable def Hw (s:Nat):Nat->List (List Int)
 | 0=>[[]]
 | d+1=>(Hw s d).flatMap λf=>(List.range s).map λi:Nat=>f++ [((i:Nat):Int)+1]
theorem qI (s:Nat):∀d,(Hw s d).length=s^d
 | 0=>rfl
 | d+1=>by
  have h:∀l:List (List Int),(l.flatMap λf=>(List.range s).map λi:Nat=>f++ [((i:Nat):Int)+1]).length=l.length*s:=by
   intro l
   induction l with
   | nil=>simp
   | cons a r ih=>rw[List.flatMap_cons,ZJ,ih,ZA,Z9,ZP,Nat.succ_mul,Nat.add_comm]
  rw[Hw,h,qI s d,Nat.pow_succ]
theorem wy (s:Nat):∀d,∀f∈Hw s d,f.length=d/\∀x∈f,1<=x/\x<=(s:Int)
 | 0,f,h=>by
  rw[aaK.mp h];exact⟨rfl,by simp⟩
 | d+1,f,h=>by
  obtain⟨g,hg,hf⟩:=List.mem_flatMap.mp h;obtain⟨i,hi,rfl⟩:=aaJ.mp hf;obtain⟨l,k⟩:=wy s d g hg;have:=List.mem_range.mp hi;refine⟨by rw[ZJ,l];rfl,λx hx=>?_⟩;rcases List.mem_append.mp hx with h | h
  ·exact k x h
  ·rw[aaK.mp h];lia
noncomputable def Lt (f g:List Int):Prop:=IW f g=false
inductive Pt
 | num (n:Nat)
 | cP (m s:Nat)
noncomputable def uw:Pt->List V
 | .num n=>[.str "number",.int (n:Int)]
 | .cP m s=>[.str "dice",.int (m:Int),.int (s:Int)]
noncomputable def qc:Pt->Dat
 | .num n=>.tup [.str "number",.int (n:Int)]
 | .cP m s=>.tup [.str "dice",.int (m:Int),.int (s:Int)]
noncomputable def lst:Pt->Nat
 | .num n=>n
 | .cP _ s=>s
noncomputable def sd:Pt->Nat
 | .num _=>1
 | p=>lst p
noncomputable def Ja:Pt->Nat
 | .num _=>0
 | .cP m _=>m
noncomputable def bot (p:Pt):Nat:=sd p^Ja p
noncomputable def cnt:Pt->Nat
 | .num _=>1
 | p=>bot p
noncomputable def Hx:Pt->List (List Int)
 | .num _=>[[]]
 | .cP m s=>Hw s m
noncomputable def val:Pt->List Int->Int
 | .num n,_=>n
 | .cP _ _,f=>f.sum
noncomputable def eI:Pt->Prop
 | .num n=>n<=99
 | .cP m s=>1<=s/\s<=20/\m<=6
theorem wA {p:Pt} (g:eI p):1<=sd p/\sd p<=20:=by
 cases p <;>simp only[sd,lst,eI] at *<;>lia
theorem KE {p:Pt} (g:eI p):lst p<=99:=by
 cases p <;>simp only[lst,eI] at *<;>lia
theorem rY {p:Pt} (g:eI p):Ja p<=7:=by
 cases p <;>simp only[Ja,eI] at *<;>(try split) <;>lia
theorem CS {s e:Nat} (hs:s<=20) (he:e<=10):s^e<=10240000000000:=
 ZN (Nat.pow_le_pow_left hs e) (ZN (Nat.pow_le_pow_right ∅ he) ∅)
theorem mU (p:Pt):(Hx p).length=cnt p:=by
 cases p with
 | num n=>rfl
 | cP m s=>exact qI s m
theorem mV {p:Pt} (g:eI p):∀f∈Hx p,(∀x∈f,1<=x/\x<=(lst p:Int))/\f.length<=Ja p:=by
 intro f hf;cases p with
 | num n=>rw[aaK.mp hf];simp
 | cP m s=>obtain⟨a,b⟩:=wy s m f hf;exact⟨b,Nat.le_of_eq a⟩
theorem Hy {p:Pt} (g:eI p) {f:List Int} (hf:f∈Hx p):1<=sd p^f.length/\sd p^f.length<=bot p:=
 ⟨Nat.pow_pos (wA g).1,Nat.pow_le_pow_right (wA g).1 (mV g f hf).2⟩
abbrev Row:=List Int×Int×Nat
noncomputable def Gg (p:Pt):List Row:=(Hx p).map λf=>(f,val p f,sd p^f.length)
noncomputable def zk (rs:List Row) (p:Pt):List Row:=rs.flatMap λr=>(Gg p).map λq=>(r.1++q.1,r.2.1+q.2.1,r.2.2*q.2.2)
noncomputable def dN (ps:List Pt):List Row:=ps.foldl zk [([],0,1)]
theorem rZ (ps:List Pt) (p:Pt):dN (ps++ [p])=zk (dN ps) p:=by unfold dN;rw[List.foldl_append];rfl
noncomputable def i5:List Nat->Nat
 | []=>1
 | a::r=>a*i5 r
theorem g4 (l:List Nat) (a:Nat):i5 (l++ [a])=i5 l*a:=by
 induction l with
 | nil=>simp [i5]
 | cons b r ih=>simp only[aae,i5,ih,Nat.mul_assoc]
theorem By {l:List Nat} (h:∀a∈l,1<=a):1<=i5 l:=by
 induction l with
 | nil=>simp [i5]
 | cons b r ih=>
  have h1:=h b (by simp);have h2:=ih λa ha=>h a (ZI _ ha);exact Nat.mul_le_mul h1 h2
theorem yp {l:List Nat} (h:∀a∈l,1<=a):∀i,i5 (l.take i)<=i5 l:=by
 induction l with
 | nil=>intro i;simp
 | cons b r ih=>
  intro i;have h1:=h b (by simp);have h0:∀a∈r,1<=a:=λa ha=>h a (ZI _ ha);cases i with
  | zero=>exact Nat.mul_le_mul h1 (By h0)
  | succ i=>exact Nat.mul_le_mul (ZD _) (ih h0 i)
theorem Hz (rs:List Row) (p:Pt):(zk rs p).length=rs.length*cnt p:=by
 unfold zk
 induction rs with
 | nil=>simp
 | cons r t ih=>
  rw[List.flatMap_cons,ZJ,ih,ZA,ZP,Nat.succ_mul];unfold Gg;rw[ZA,mU];lia
theorem take_snoc {α:Type} {l:List α} {i:Nat} (h:i<l.length):l.take (i+1)=l.take i++ [l[i]]:=by
 rw[Z2,ZH h];rfl
theorem qJ (ps:List Pt):(dN ps).length=i5 (ps.map cnt):=by
 have:∀i,i<=ps.length->(dN (ps.take i)).length=i5 ((ps.take i).map cnt):=by
  intro i
  induction i with
  | zero=>intro _;rfl
  | succ i ih=>
   intro h;rw[take_snoc (by lia),rZ,Hz,ih (by lia),ZG,ZC,Z7,g4]
 have:=this ps.length (ZD _)
 rwa [ZQ (ZD _)] at this
theorem qF {p:Pt} (g:eI p):1<=cnt p:=by
 cases p with
 | num n=>simp [cnt]
 | cP m s=>exact Nat.pow_pos g.1
theorem Bz {p:Pt} (g:eI p):1<=bot p:=Nat.pow_pos (wA g).1
noncomputable def vm (ps:List Pt):Prop:=(∀p∈ps,eI p)/\i5 (ps.map cnt)<=1296/\i5 (ps.map bot)<=1000000
theorem oG {ps:List Pt} (g:vm ps) (i:Nat):i5 ((ps.take i).map cnt)<=1296:=by
 rw[List.map_take];exact ZN (yp (λa ha=>by obtain⟨p,hp,rfl⟩:=aaJ.mp ha;exact qF (g.1 p hp)) i) g.2.1
theorem oH {ps:List Pt} (g:vm ps) (i:Nat):i5 ((ps.take i).map bot)<=1000000:=by
 rw[List.map_take];exact ZN (yp (λa ha=>by obtain⟨p,hp,rfl⟩:=aaJ.mp ha;exact Bz (g.1 p hp)) i) g.2.2
theorem BA {l:List Nat} (h:∀a∈l,1<=a):∀a∈l,a<=i5 l:=by
 induction l with
 | nil=>intro a ha;cases ha
 | cons b r ih=>
  intro a ha;have h1:=h b (by simp);have h0:∀a∈r,1<=a:=λa ha=>h a (ZI _ ha);rw[i5];rcases aaj.mp ha with rfl | ha
  ·have:=Nat.mul_le_mul (ZD a) (By h0);lia
  ·have:=Nat.mul_le_mul h1 (ih h0 a ha);lia
theorem oJ {ps:List Pt} (g:vm ps) {p:Pt} (hp:p∈ps):eI p/\cnt p<=1296/\bot p<=1000000:=
 ⟨g.1 p hp,ZN (BA (λa ha=>by obtain⟨p,hp,rfl⟩:=aaJ.mp ha;exact qF (g.1 p hp)) _ (List.mem_map_of_mem hp)) g.2.1,
  ZN (BA (λa ha=>by obtain⟨p,hp,rfl⟩:=aaJ.mp ha;exact Bz (g.1 p hp)) _ (List.mem_map_of_mem hp)) g.2.2⟩
theorem BB {ps:List Pt} (g:∀p∈ps,eI p):∀i,i<=ps.length->∀r∈dN (ps.take i),r.1.length<=7*i/\1<=r.2.2/\r.2.2<=i5 ((ps.take i).map bot):=by
 intro i
 induction i with
 | zero=>intro _ r hr;rw[aaK.mp hr];simp [i5]
 | succ i ih=>
  intro h r hr;rw[take_snoc (by lia),rZ] at hr;obtain⟨r0,h0,hr⟩:=List.mem_flatMap.mp hr;obtain⟨q,hq,rfl⟩:=aaJ.mp hr;obtain⟨f,hf,rfl⟩:=aaJ.mp hq;obtain⟨a,b,c⟩:=ih (by lia) r0 h0;have gp:=g _ (ZY (show i<ps.length by lia));obtain⟨d,e⟩:=Hy gp hf;have l:=(mV gp f hf).2;have m:=rY gp;rw[take_snoc (by lia),ZG,ZC,Z7,g4];refine⟨by rw[ZJ];show r0.1.length+f.length<=_;lia,Nat.mul_le_mul b d,Nat.mul_le_mul c e⟩
noncomputable def Fa (H:Hp) (f:List Int) (v:V):Prop:=∃q,v=.ref q/\H q=some (.lst (List.map V.int f))
theorem Fa.mono {H H':Hp} {f:List Int} {v:V} (s:aF H H'):Fa H f v->Fa H' f v:=fun⟨q,e,h⟩=>⟨q,e,s _ _ h⟩
noncomputable def TR (G H:Hp) (r:Row) (v:V):Prop:=∃a q,v=.ref a/\H a=some (.tup [.ref q,.int r.2.1,.int (r.2.2:Int)])/\H q=some (.lst (List.map V.int r.1))/\G q=none
theorem TR.mono {G H H':Hp} {r:Row} {v:V} (s:aF H H'):TR G H r v->TR G H' r v:=fun⟨a,q,e,h,k,n⟩=>⟨a,q,e,s _ _ h,s _ _ k,n⟩
noncomputable def KG (H:Hp) (l:Addr) (ps:List Pt):Prop:=∃xs,H l=some (.lst xs)/\Al (λp v=>∃q,v=.ref q/\H q=some (.tup (uw p))) ps xs
theorem KG.mono {H H':Hp} {l:Addr} {ps:List Pt} (s:aF H H'):KG H l ps->KG H' l ps:=fun⟨xs,h,a⟩=>⟨xs,s _ _ h,a.imp λ_ _ ⟨q,e,k⟩=>⟨q,e,s _ _ k⟩⟩
theorem BC {H:Hp} {p:Addr} {o:HO}:cX (upd H p o) p=cX H p:=by
 funext a;unfold cX
 by_cases c:a=p
 ·rw[if_pos c,if_pos c]
 ·rw[if_neg c,if_neg c,aw c]
theorem EE (p:Pt):iX (uw p) (-1)=some (.int (lst p:Int)):=by cases p <;>rfl
noncomputable def kd:Pt->Str
 | .num _=>Zz "number"
 | .cP _ _=>Zz "dice"
noncomputable def KH:Sp:=λvs H Q _=>∃b e:Nat,vs=[.int (b:Int),.int (e:Int)]/\(1<=b\/e=0)/\e<=10/\b^e<=1000000/\Q (.int ((b^e:Nat):Int)) H
noncomputable def EF:Sp:=λvs H Q _=>∃q p,vs=[.ref q]/\H q=some (.tup (uw p))/\Q (.int (Ja p:Int)) H
noncomputable def yq:Sp:=λvs H Q _=>∃q p,vs=[.ref q]/\H q=some (.tup (uw p))/\eI p/\bot p<=1000000/\Q (.int (bot p:Int)) H
noncomputable def KI:Sp:=λvs H Q _=>∃q p,vs=[.ref q]/\H q=some (.tup (uw p))/\eI p/\bot p<=1000000/\Q (.int (cnt p:Int)) H
noncomputable def KJ:Sp:=λvs H Q _=>∃l ps,vs=[.ref l]/\KG H l ps/\vm ps/\Q .cW H
noncomputable def KL:Sp:=λvs H Q _=>∃d s:Nat,vs=[.int (d:Int),.int (s:Int)]/\1<=s/\s<=20/\d<=6/\s^d<=1296/\∀l H' xs,aF H H'->H' l=some (.lst xs)->Al (Fa H') (Hw s d) xs->Q (.ref l) H'
noncomputable def KN:Sp:=λvs H Q _=>∃q p,vs=[.ref q]/\H q=some (.tup (uw p))/\eI p/\cnt p<=1296/\∀l H' xs,aF H H'->H' l=some (.lst xs)->Al (Fa H') (Hx p) xs->Q (.ref l) H'
noncomputable def KO:Sp:=λvs H Q _=>∃q p l f,vs=[.ref q,.ref l]/\H q=some (.tup (uw p))/\H l=some (.lst (List.map V.int f))/\eI p/\f∈Hx p/\∀H',aF H H'->Q (.int (val p f)) H'
noncomputable def KP:Sp:=λvs H Q _=>∃q p l f,vs=[.ref q,.ref l]/\H q=some (.tup (uw p))/\H l=some (.lst (List.map V.int f))/\eI p/\f∈Hx p/\Q (.int ((sd p^f.length:Nat):Int)) H
noncomputable def KQ:Sp:=λvs H Q _=>∃q p,vs=[.ref q]/\H q=some (.tup (uw p))/\eI p/\cnt p<=1296/\∀l H' xs,aF H H'->H' l=some (.lst xs)->Al (TR (λ_=>none) H') (Gg p) xs->Q (.ref l) H'
noncomputable def KR:Sp:=λvs H Q _=>∃a ps,vs=[.ref a]/\KG H a ps/\vm ps/\ps.length<=4/\∀l H' xs,aF H H'->H' l=some (.lst xs)->Al (TR H H') (dN ps) xs->Q (.ref l) H'
noncomputable def HA:Sp:=λ_ _ _ _=>False
noncomputable def De:List (Nat×Nat):=[(1,2),(1,3),(1,4),(1,5),(1,6),(2,2),(2,3),(2,4),(2,5),(2,6)]
noncomputable def Gh:List (List Pt):=De.flatMap λx=>[.cP x.1 x.2]::(List.range 100).map λm=>[.cP x.1 x.2,.num m]
noncomputable def HB (C:Nat) (rs:List Row):Nm.Ws:=rs.map λr=>(r.2.1,((C / r.2.2:Nat):Int))
noncomputable def BD (ps:List Pt):Nm.Ws:=HB (i5 (ps.map bot)) (dN ps)
noncomputable def mW (ps:List Pt):List (Int×Int×Int):=Nm.rowsOf (Nm.kG (BD ps)) (Nm.rG (Nm.kG (BD ps)))
noncomputable def pM (ps:List Pt):Prop:=ps∈Gh
noncomputable def Jb (ps:List Pt):Int:=(i5 (ps.map bot):Int)
noncomputable def dt:List Pt->List Int
 | [.cP k s]=>(List.range (k*s - k+1)).map λi:Nat=>(k:Int)+ (i:Int)
 | [.cP k s,.num m]=>(List.range (k*s - k+1)).map λi:Nat=>(k:Int)+ (m:Int)+ (i:Int)
 | _=>[]
theorem ir {ps:List Pt} (g:ps∈Gh):∃k s,(k,s)∈De/\(ps=[.cP k s]\/∃m,m<100/\ps=[.cP k s,.num m]):=by
 obtain⟨⟨k,s⟩,hx,h⟩:=List.mem_flatMap.mp g;refine⟨k,s,hx,?_⟩;rcases aaj.mp h with h | h
 ·exact .inl h
 ·obtain⟨m,hm,rfl⟩:=aaJ.mp h;exact .inr ⟨m,List.mem_range.mp hm,rfl⟩
noncomputable def uy (x:Nat×Nat):List (List Pt):=[.cP x.1 x.2]::(List.range 100).map λm=>[.cP x.1 x.2,.num m]
theorem EG {ps:List Pt} (h:ps∈Gh):∃x∈De,ps∈uy x:=by
 obtain⟨x,hx,h⟩:=List.mem_flatMap.mp h;exact⟨x,hx,h⟩
abbrev Gi (ps:List Pt):Prop:=(∀x∈BD ps,0<x.2/\x.2<=10^12)/\(BD ps).length<=1296/\(Nm.kG (BD ps)).length<64/\Nm.pos (BD ps)≠[]/\i5 (ps.map cnt)<=1296/\i5 (ps.map bot)<=1000000
abbrev Gj (ps:List Pt):Prop:=(0<Jb ps/\Jb ps<=1000000/\(mW ps).length<=1296/\∀r∈mW ps,0<r.2.2/\r.2.2∣Jb ps/\0<=r.2.1/\r.2.1<=Jb ps)/\(mW ps).map (·.1)=dt ps
theorem QJ:∀ps∈uy (1,2),Gi ps:=∅
theorem QK:∀ps∈uy (1,2),Gj ps:=∅
theorem QL:∀ps∈uy (1,3),Gi ps:=∅
theorem QM:∀ps∈uy (1,3),Gj ps:=∅
theorem QN:∀ps∈uy (1,4),Gi ps:=∅
theorem QO:∀ps∈uy (1,4),Gj ps:=∅
theorem QP:∀ps∈uy (1,5),Gi ps:=∅
theorem QQ:∀ps∈uy (1,5),Gj ps:=∅
theorem QR:∀ps∈uy (1,6),Gi ps:=∅
theorem QS:∀ps∈uy (1,6),Gj ps:=∅
theorem QT:∀ps∈uy (2,2),Gi ps:=∅
theorem QU:∀ps∈uy (2,2),Gj ps:=∅
theorem QV:∀ps∈uy (2,3),Gi ps:=∅
theorem QW:∀ps∈uy (2,3),Gj ps:=∅
theorem QX:∀ps∈uy (2,4),Gi ps:=∅
theorem QY:∀ps∈uy (2,4),Gj ps:=∅
theorem QZ:∀ps∈uy (2,5),Gi ps:=∅
theorem Q0:∀ps∈uy (2,5),Gj ps:=∅
theorem Q3:∀ps∈uy (2,6),Gi ps:=∅
theorem Q4:∀ps∈uy (2,6),Gj ps:=∅
theorem wB:∀ps∈Gh,(∀x∈BD ps,0<x.2/\x.2<=10^12)/\(BD ps).length<=1296/\(Nm.kG (BD ps)).length<64/\Nm.pos (BD ps)≠[]/\i5 (ps.map cnt)<=1296/\i5 (ps.map bot)<=1000000:=λps h=>by
 obtain⟨x,hx,h⟩:=EG h;simp only[De,aaj,List.not_mem_nil,or_false] at hx;rcases hx with rfl | rfl | rfl | rfl | rfl | rfl | rfl | rfl | rfl | rfl
 ·exact QJ ps h
 ·exact QL ps h
 ·exact QN ps h
 ·exact QP ps h
 ·exact QR ps h
 ·exact QT ps h
 ·exact QV ps h
 ·exact QX ps h
 ·exact QZ ps h
 ·exact Q3 ps h
theorem BE:∀ps∈Gh,(0<Jb ps/\Jb ps<=1000000/\(mW ps).length<=1296/\∀r∈mW ps,0<r.2.2/\r.2.2∣Jb ps/\0<=r.2.1/\r.2.1<=Jb ps)/\(mW ps).map (·.1)=dt ps:=λps h=>by
 obtain⟨x,hx,h⟩:=EG h;simp only[De,aaj,List.not_mem_nil,or_false] at hx;rcases hx with rfl | rfl | rfl | rfl | rfl | rfl | rfl | rfl | rfl | rfl
 ·exact QK ps h
 ·exact QM ps h
 ·exact QO ps h
 ·exact QQ ps h
 ·exact QS ps h
 ·exact QU ps h
 ·exact QW ps h
 ·exact QY ps h
 ·exact Q0 ps h
 ·exact Q4 ps h
theorem yr {ps:List Pt} (g:ps∈Gh):vm ps:=by
 have h:=(wB ps g).2.2.2.2;refine⟨λp hp=>?_,h.1,h.2⟩;have d:∀x∈De,1<=x.2/\x.2<=20/\x.1<=6:=∅
 obtain⟨k,s,hd,e | ⟨m,hm,e⟩⟩:=ir g
 ·rw[e,aaK] at hp;rw[hp];exact d _ hd
 ·rw[e,aaj,aaK] at hp;rcases hp with rfl | rfl
  ·exact d _ hd
  ·show m<=99;lia
theorem KS {ps:List Pt} (g:pM ps):¬Nm.bad (BD ps):=λb=>by
 obtain⟨h1,_,_,h4,_⟩:=wB ps g;rcases b with ⟨x,hx,c⟩ | c
 ·have:=h1 x hx;lia
 ·exact h4 c
theorem HC {p q:Pt} (h:qc p=qc q):p=q:=by
 cases p <;>cases q <;>simp only[qc,Dat.tup.injEq,List.cons.injEq,Dat.str.injEq,Dat.int.injEq,and_true,Int.natCast_inj] at h <;>first | exact absurd h.1 (by decide +kernel) | (obtain⟨_,rfl⟩:=h;rfl) | (obtain⟨_,rfl,rfl⟩:=h;rfl) | (obtain⟨_,rfl,rfl,rfl⟩:=h;rfl)
noncomputable def KU:Sp:=λvs H Q _=>∃a ps,vs=[.ref a]/\KG H a ps/\pM ps/\ps.length<=4/\∀p H',aF H H'->H p=none->Rep H' (mP (mW ps)) (.ref p)->Q (.ref p) H'
inductive Dd
 | set (n:Str) (k:Int)
 | plus (n:Str) (k:Int)
 | face (n:Str)
 | move (n m:Str)
noncomputable def BF:Dd->Dat
 | .set n k=>.tup [.str "set",.str n,.int k]
 | .plus n k=>.tup [.str "plus",.str n,.int k]
 | .face n=>.tup [.str "face",.str n]
 | .move n m=>.tup [.str "move",.str n,.str m]
structure Rw where
 word:Str
 wh:Option (Str×Str×Int)
 ds:List Dd
 to:Str
noncomputable def KW:Option (Str×Str×Int)->Dat
 | none=>.cW
 | some (a,b,k)=>.tup [.str a,.str b,.int k]
abbrev R4:=Dat×Dat×List Dat×Dat
noncomputable def sh (r:R4):Dat:=.tup [r.1,r.2.1,.lst r.2.2.1,r.2.2.2]
noncomputable def HD (r:Rw):R4:=(.str r.word,KW r.wh,r.ds.map BF,.str r.to)
abbrev Tw:=Int×Int×List Dd×Str
noncomputable def Gk (r:Tw):R4:=(.int r.1,.int r.2.1,r.2.2.1.map BF,.str r.2.2.2)
inductive Wt
 | ask (c:Str) (k:Int) (one other:Str)
 | fin (t b:Int)
 | score (c:Str)
 | pick (kI:Int) (rs:List Rw)
 | dN (c5:List Dat) (t b:Int) (rs:List Tw)
noncomputable def jU:Wt->Dat
 | .ask c k a b=>.tup [.str "ask",.str c,.int k,.str a,.str b]
 | .fin t b=>.tup [.str "end",.tup [.int t,.int b]]
 | .score c=>.tup [.str "score",.str c]
 | .pick w rs=>.tup [.str "pick",.int w,.lst ((rs.map HD).map sh)]
 | .dN c5 t b rs=>.tup [.str "throw",.lst c5,.tup [.int t,.int b],.lst ((rs.map Gk).map sh)]
structure Gm where
 cs:List (Str×Int)
 ps:List (Str×Wt)
noncomputable def O8 (cs:List (Str×Int)):Dat:=.lst (cs.map λc=>.tup [.str c.1,.int c.2])
noncomputable def VO (ps:List (Str×Wt)):Dat:=.lst (ps.map λp=>.tup [.str p.1,jU p.2])
noncomputable def Av (g:Gm):Dat:=.tup [O8 g.cs,VO g.ps]
noncomputable def bK (cs:List (Str×Int)) (n:Str):Nat:=(cs.map (·.1)).idxOf n
noncomputable def most (cs:List (Str×Int)) (i:Nat):Int:=(cs.map (·.2)).getD i 0
noncomputable def wC (cs:List (Str×Int)) (ns:List Int) (i:Nat) (k:Int):List Int:=ns.set i (min k (most cs i))
noncomputable def iU (cs:List (Str×Int)) (v:Int) (ns:List Int):Dd->List Int
 | .set n k=>wC cs ns (bK cs n) k
 | .plus n k=>wC cs ns (bK cs n) (ns.getD (bK cs n) 0+k)
 | .face n=>wC cs ns (bK cs n) (ns.getD (bK cs n) 0+v)
 | .move n m=>(wC cs ns (bK cs m) (ns.getD (bK cs m) 0+ns.getD (bK cs n) 0)).set (bK cs n) 0
noncomputable def fZ (cs:List (Str×Int)):Dd->Prop
 | .set n _=>n∈cs.map (·.1)
 | .plus n _=>n∈cs.map (·.1)
 | .face n=>n∈cs.map (·.1)
 | .move n m=>n∈cs.map (·.1)/\m∈cs.map (·.1)
theorem fK {cs:List (Str×Int)} {n:Str} (h:n∈cs.map (·.1)):bK cs n<cs.length:=by
 have:=List.idxOf_lt_length_of_mem h
 rwa [ZA] at this
theorem i7 {cs:List (Str×Int)} {ns:List Int} {i:Nat} {k:Int}:(wC cs ns i k).length=ns.length:=by unfold wC;rw[List.length_set]
theorem HE {cs:List (Str×Int)} {v:Int} {ns:List Int}:∀d:Dd,(iU cs v ns d).length=ns.length
 | .set _ _=>i7
 | .plus _ _=>i7
 | .face _=>i7
 | .move _ _=>by unfold iU;rw[List.length_set,i7]
noncomputable def look (ps:List (Str×Wt)) (n:Str):Option Wt:=(ps.find? λp=>decide (p.1=n)).map (·.2)
noncomputable def dW (g:Gm) (ns:List Int):Nat->Str->Option Str
 | 0,_=>none
 | f+1,nm=>match look g.ps nm with
  | some (.ask c k a b)=>if k<=ns.getD (bK g.cs c) 0 then dW g ns f a else dW g ns f b
  | some _=>some nm
  | none=>none
noncomputable def lL (cs:List (Str×Int)) (ns:List Int):Option (Str×Str×Int)->Bool
 | none=>true
 | some (n,x,k)=>if n∈cs.map (·.1) then (if x=Zz "from" then decide (k<=ns.getD (bK cs n) 0) else decide (ns.getD (bK cs n) 0<k)) else false
noncomputable def mX (cs:List (Str×Int)):Wt->Prop
 | .ask c _ _ _=>c∈cs.map (·.1)
 | .fin _ _=>True
 | .score c=>c∈cs.map (·.1)
 | .pick _ rs=>rs.length<=100/\∀r∈rs,r.ds.length<=100/\∀d∈r.ds,fZ cs d
 | .dN c5 _ _ rs=>c5.length<=100/\rs.length<=100/\∀r∈rs,r.2.2.1.length<=100/\∀d∈r.2.2.1,fZ cs d
structure GoodG (g:Gm):Prop where
 nc:(g.cs.map (·.1)).Nodup
 np:(g.ps.map (·.1)).Nodup
 lc:g.cs.length<=100
 lp:g.ps.length<=100
 p0:0<g.ps.length
 wt:∀p∈g.ps,mX g.cs p.2
theorem c8 {ps:List (Str×Wt)} {n:Str} {x:Wt} (h:look ps n=some x):(n,x)∈ps:=by
 unfold look at h;obtain⟨p,hp,rfl⟩:=aaH.mp h;have e:=List.find?_some hp;have e:p.1=n:=by simpa using e
 subst e;exact aax hp
noncomputable def si:List (Str×Int)->Nat->List (Key×V)
 | [],_=>[]
 | c::cs,i=>(Sum.inr c.1,V.int (i:Int))::si cs (i+1)
theorem BG:∀(cs:List (Str×Int)) (i:Nat),(si cs i).length=cs.length
 | [],_=>rfl
 | _::cs,i=>by rw[si,ZP,BG cs,ZP]
theorem yt (c:Str×Int):∀(cs:List (Str×Int)) (i:Nat),si (cs++ [c]) i=si cs i++ [(Sum.inr c.1,V.int ((i+cs.length:Nat):Int))]
 | [],i=>rfl
 | d::cs,i=>by
  rw[aae,si,yt c cs (i+1),si,ZP,show i+1+cs.length=i+ (cs.length+1) by lia];rfl
theorem BH {n:Str}:∀{cs:List (Str×Int)} {i:Nat},n∈cs.map (·.1)->dP (si cs i) (Sum.inr n)=some (.int ((i+bK cs n:Nat):Int))
 | [],_,h=>by simp at h
 | c::cs,i,h=>by
  rw[si]
  by_cases e:c.1=n
  ·rw[gT (by rw[e])];have:bK (c::cs) n=0:=by unfold bK;rw[ZC,e,List.idxOf_cons_self]
   rw[this];rfl
  ·rw[eD (λz=>e (by injection z)),BH (cs:=cs) (i:=i+1) (by simpa [Ne.symm e] using h)];have:bK (c::cs) n=bK cs n+1:=by unfold bK;rw[ZC,List.idxOf_cons,beq_false_of_ne e];rfl
   rw[this,show i+1+bK cs n=i+ (bK cs n+1) by lia]
theorem sj {n:Str}:∀{cs:List (Str×Int)} {i:Nat},n∉cs.map (·.1)->dP (si cs i) (Sum.inr n)=none
 | [],_,_=>rfl
 | c::cs,i,h=>by
  rw[si,eD (λz=>h (by injection z with z;simp [z])),sj (cs:=cs) (i:=i+1) (λz=>h (by rw[ZC];exact ZI _ z))]
theorem jK {κ:Type} [DecidableEq κ] {kvs:List (κ×V)} {k:κ} {v:V} (h:dP kvs k=none):putK kvs k v=kvs++ [(k,v)]:=by
 unfold putK;rw[if_neg];intro c;obtain⟨x,hx,e⟩:=List.any_eq_true.mp c;unfold dP at h;have:kvs.find? (λkv=>decide (kv.1=k))=none:=by simpa using h
 exact absurd e (by simpa using List.find?_eq_none.mp this x hx)
noncomputable def sr (H:Hp):List (Str×Wt)->List (Key×V)->Prop
 | [],us=>us=[]
 | p::ps,us=>∃v r,us=(Sum.inr p.1,v)::r/\Rep H (jU p.2) v/\sr H ps r
theorem sr.mono {H H':Hp} (s:aF H H'):∀{ps:List (Str×Wt)} {us:List (Key×V)},sr H ps us->sr H' ps us
 | [],_,h=>h
 | _::_,_,⟨v,r,e,h1,h2⟩=>⟨v,r,e,h1.mono s,h2.mono s⟩
theorem sr.len {H:Hp}:∀{ps:List (Str×Wt)} {us:List (Key×V)},sr H ps us->us.length=ps.length
 | [],_,h=>by rw[sr] at h;subst h;rfl
 | _::_,_,⟨v,r,e,h1,h2⟩=>by rw[e,ZP,h2.len,ZP]
theorem sr.snoc {H:Hp} {p:Str×Wt} {v:V} (k:Rep H (jU p.2) v):∀{ps:List (Str×Wt)} {us:List (Key×V)},sr H ps us->sr H (ps++ [p]) (us++ [(Sum.inr p.1,v)])
 | [],_,h=>by rw[sr] at h;subst h;exact⟨v,[],rfl,k,rfl⟩
 | _::_,_,⟨u,r,e,h1,h2⟩=>by rw[e];exact⟨u,_,rfl,h1,h2.snoc k⟩
theorem sr.val {H:Hp} {n:Str}:∀{ps:List (Str×Wt)} {us:List (Key×V)},sr H ps us->(∃x v,look ps n=some x/\dP us (Sum.inr n)=some v/\Rep H (jU x) v)\/(look ps n=none/\dP us (Sum.inr n)=none)
 | [],_,h=>by rw[sr] at h;subst h;exact .inr ⟨rfl,rfl⟩
 | p::ps,_,⟨u,r,e,h1,h2⟩=>by
  subst e
  by_cases c:p.1=n
  ·exact .inl ⟨p.2,u,by unfold look;rw[List.find?_cons_of_pos (by simpa using c)];rfl,gT (by rw[c]),h1⟩
  ·rcases h2.val (n:=n) with ⟨x,v,a,b,d⟩ | ⟨a,b⟩
   ·exact .inl ⟨x,v,by unfold look at *;rw[List.find?_cons_of_neg (by simpa using c)];exact a,by rw[eD (λz=>c (by injection z))];exact b,d⟩
   ·exact .inr ⟨by unfold look at *;rw[List.find?_cons_of_neg (by simpa using c)];exact a,by rw[eD (λz=>c (by injection z))];exact b⟩
theorem CT {ps:List (Str×Wt)} {n:Str} (h:n∉ps.map (·.1)):look ps n=none:=by
 unfold look;rw[Option.map_eq_none_iff,List.find?_eq_none];intro p hp c;exact h (aaJ.mpr ⟨p,hp,by simpa using c⟩)
theorem de {cs:List (Str×Int)} {v:Int}:∀(ds:List Dd) (ns:List Int),(ds.foldl (iU cs v) ns).length=ns.length
 | [],_=>rfl
 | d::ds,ns=>by rw[List.foldl_cons,de ds,HE]
noncomputable def cj (cs:List (Str×Int)) (ns:List Int):Wt->List Rw
 | .pick _ rs=>rs.filter λr=>lL cs ns r.wh
 | _=>[]
noncomputable def Aw (cs:List (Str×Int)) (ns:List Int):Wt->Option (Int×Int)
 | .fin t b=>some (t,b)
 | .score c=>some (ns.getD (bK cs c) 0,1)
 | _=>none
theorem aU {a b:TS} {D:Ends} {σ:L2.St} {H:Hp} (C:(L2.St->Hp->Prop)->Prop) (hb:C (b D)) (ha:∀N:L2.St->Hp->Prop,C N->a {D with nx:=N} σ H):tSeq a b D σ H:=ha _ hb
noncomputable def Ax (q:Addr) (H:Hp) (c:Addr) (g:Gm):Prop:=∃dx sp mo wh tb us ft,H c=some (.ins q dx [(Zz "spots",.ref sp),(Zz "mosts",.ref mo),(Zz "first",.str ft),(Zz "whats",.ref wh),(Zz "tables",.ref tb)])/\
 H sp=some (.dK (si g.cs 0))/\H mo=some (.lst ((g.cs.map (·.2)).map V.int))/\H wh=some (.dK us)/\sr H g.ps us/\(g.ps.map (·.1)).head?=some ft
theorem Ax.mono {q:Addr} {H H':Hp} {c:Addr} {g:Gm} (s:aF H H'):Ax q H c g->Ax q H' c g:=λhh=>by
 obtain⟨dx,sp,mo,wh,tb,us,ft,h1,h2,h3,h4,h5,h6⟩:=hh;exact⟨dx,sp,mo,wh,tb,us,ft,s _ _ h1,s _ _ h2,s _ _ h3,s _ _ h4,h5.mono s,h6⟩
noncomputable def qd (H:Hp) (v:V) (nm:Str) (ns:List Int):Prop:=∃a l,v=.ref a/\H a=some (.tup [.str nm,.ref l])/\H l=some (.lst (ns.map V.int))
theorem qd.mono {H H':Hp} {v:V} {nm:Str} {ns:List Int} (s:aF H H'):qd H v nm ns->qd H' v nm ns:=fun⟨a,l,e,h1,h2⟩=>⟨a,l,e,s _ _ h1,s _ _ h2⟩
noncomputable def vn (q:Addr):Sp:=λvs H Q _=>∃c l i k g ns,vs=[.ref c,.ref l,.int ((i:Nat):Int),.int k]/\Ax q (cX H l) c g/\H l=some (.lst (List.map V.int ns))/\i<g.cs.length/\ns.length=g.cs.length/\Q .cW (upd H l (.lst ((wC g.cs ns i k).map V.int)))
noncomputable def KY (q:Addr):Sp:=λvs H Q _=>∃c l dv v g ns d,vs=[.ref c,.ref l,dv,.int v]/\Ax q (cX H l) c g/\H l=some (.lst (List.map V.int ns))/\Rep (cX H l) (BF d) dv/\fZ g.cs d/\ns.length=g.cs.length/\Q .cW (upd H l (.lst ((iU g.cs v ns d).map V.int)))
noncomputable def yu (q:Addr):Sp:=λvs H Q _=>∃c nm l g ns f fk,vs=[.ref c,.str nm,.ref l]/\Ax q H c g/\GoodG g/\H l=some (.lst (List.map V.int ns))/\ns.length=g.cs.length/\dW g ns f nm=some fk/\∀a H',aF H H'->H a=none->H' a=some (.tup [.str fk,.ref l])->Q (.ref a) H'
noncomputable def EH (q:Addr):Sp:=λvs H Q _=>∃c g f ft fk,vs=[.ref c]/\Ax q H c g/\GoodG g/\(g.ps.map (·.1)).head?=some ft/\dW g (aaO g.cs.length 0) f ft=some fk/\∀a l H',aF H H'->H a=none->H l=none->H' a=some (.tup [.str fk,.ref l])->H' l=some (.lst ((aaO g.cs.length (0:Int)).map V.int))->Q (.ref a) H'
noncomputable def fm (q:Addr):Sp:=λvs H Q _=>∃c v H0 g nm ns x,vs=[.ref c,v]/\aF H0 H/\Ax q H0 c g/\qd H v nm ns/\look g.ps nm=some x/\∀u,Rep H0 (jU x) u->Q u H
noncomputable def EI (q:Addr):Sp:=λvs H Q _=>∃c v l g ns wh,vs=[.ref c,v,.ref l]/\Ax q H c g/\Rep H (KW wh) v/\H l=some (.lst (List.map V.int ns))/\ns.length=g.cs.length/\Q (.bl (lL g.cs ns wh)) H
noncomputable def yv (q:Addr):Sp:=λvs H Q _=>∃c sv rv v g nm ns a b ds to f fk,vs=[.ref c,sv,rv,.int v]/\Ax q H c g/\GoodG g/\qd H sv nm ns/\Rep H (sh (a,b,List.map BF ds,.str to)) rv/\(∀d∈ds,fZ g.cs d)/\ds.length<=100/\ns.length=g.cs.length/\
 dW g (ds.foldl (iU g.cs v) ns) f to=some fk/\∀p l H',aF H H'->H p=none->H l=none->H' p=some (.tup [.str fk,.ref l])->H' l=some (.lst ((ds.foldl (iU g.cs v) ns).map V.int))->Q (.ref p) H'
theorem jL {H:Hp} {ds:List Dat} {v:V}:Rep H (.tup ds) v↔∃p vs,v=.ref p/\H p=some (.tup vs)/\bo H ds vs:=by rw[Rep]
theorem aT {H:Hp} {d:Dat} {ds:List Dat} {vs:List V}:bo H (d::ds) vs↔∃v r,vs=v::r/\Rep H d v/\bo H ds r:=by rw[bo]
theorem bI {H:Hp} {vs:List V}:bo H [] vs↔vs=[]:=by rw[bo]
theorem aR {H:Hp} {x:Str} {v:V}:Rep H (.str x) v↔v=.str x:=by rw[Rep]
theorem bF {H:Hp} {x:Int} {v:V}:Rep H (.int x) v↔v=.int x:=by rw[Rep]
theorem bN {H:Hp} {a b:Dat} {v:V}:Rep H (.tup [a,b]) v↔∃p x y,v=.ref p/\H p=some (.tup [x,y])/\Rep H a x/\Rep H b y:=by
 rw[jL];constructor
 ·rintro⟨p,vs,e,h,r⟩;obtain⟨x,r1,rfl,hx,r⟩:=aT.mp r;obtain⟨y,r2,rfl,hy,r⟩:=aT.mp r;rw[bI.mp r] at h;exact⟨p,x,y,e,h,hx,hy⟩
 ·rintro⟨p,x,y,e,h,hx,hy⟩;exact⟨p,_,e,h,aT.mpr ⟨x,_,rfl,hx,aT.mpr ⟨y,_,rfl,hy,bI.mpr rfl⟩⟩⟩
theorem dQ {H:Hp} {a b c:Dat} {v:V}:Rep H (.tup [a,b,c]) v↔∃p x y z,v=.ref p/\H p=some (.tup [x,y,z])/\Rep H a x/\Rep H b y/\Rep H c z:=by
 rw[jL];constructor
 ·rintro⟨p,vs,e,h,r⟩;obtain⟨x,r1,rfl,hx,r⟩:=aT.mp r;obtain⟨y,r2,rfl,hy,r⟩:=aT.mp r;obtain⟨z,r3,rfl,hz,r⟩:=aT.mp r;rw[bI.mp r] at h;exact⟨p,x,y,z,e,h,hx,hy,hz⟩
 ·rintro⟨p,x,y,z,e,h,hx,hy,hz⟩;exact⟨p,_,e,h,aT.mpr ⟨x,_,rfl,hx,aT.mpr ⟨y,_,rfl,hy,aT.mpr ⟨z,_,rfl,hz,bI.mpr rfl⟩⟩⟩⟩
theorem dr {H:Hp} {a b c d:Dat} {v:V}:Rep H (.tup [a,b,c,d]) v↔∃p x y z u,v=.ref p/\H p=some (.tup [x,y,z,u])/\Rep H a x/\Rep H b y/\Rep H c z/\Rep H d u:=by
 rw[jL];constructor
 ·rintro⟨p,vs,e,h,r⟩;obtain⟨x,r1,rfl,hx,r⟩:=aT.mp r;obtain⟨y,r2,rfl,hy,r⟩:=aT.mp r;obtain⟨z,r3,rfl,hz,r⟩:=aT.mp r;obtain⟨u,r4,rfl,hu,r⟩:=aT.mp r;rw[bI.mp r] at h;exact⟨p,x,y,z,u,e,h,hx,hy,hz,hu⟩
 ·rintro⟨p,x,y,z,u,e,h,hx,hy,hz,hu⟩;exact⟨p,_,e,h,aT.mpr ⟨x,_,rfl,hx,aT.mpr ⟨y,_,rfl,hy,aT.mpr ⟨z,_,rfl,hz,aT.mpr ⟨u,_,rfl,hu,bI.mpr rfl⟩⟩⟩⟩⟩
theorem wD {H:Hp} {a b c d f:Dat} {v:V}:Rep H (.tup [a,b,c,d,f]) v↔∃p x y z u t,v=.ref p/\H p=some (.tup [x,y,z,u,t])/\Rep H a x/\Rep H b y/\Rep H c z/\Rep H d u/\Rep H f t:=by
 rw[jL];constructor
 ·rintro⟨p,vs,e,h,r⟩;obtain⟨x,r1,rfl,hx,r⟩:=aT.mp r;obtain⟨y,r2,rfl,hy,r⟩:=aT.mp r;obtain⟨z,r3,rfl,hz,r⟩:=aT.mp r;obtain⟨u,r4,rfl,hu,r⟩:=aT.mp r;obtain⟨t,r5,rfl,ht,r⟩:=aT.mp r;rw[bI.mp r] at h;exact⟨p,x,y,z,u,t,e,h,hx,hy,hz,hu,ht⟩
 ·rintro⟨p,x,y,z,u,t,e,h,hx,hy,hz,hu,ht⟩;exact⟨p,_,e,h,aT.mpr ⟨x,_,rfl,hx,aT.mpr ⟨y,_,rfl,hy,aT.mpr ⟨z,_,rfl,hz,aT.mpr ⟨u,_,rfl,hu,aT.mpr ⟨t,_,rfl,ht,bI.mpr rfl⟩⟩⟩⟩⟩⟩
theorem bM {k k':Str} {v:V} {l:List (Str×V)} (h:(k==k')=false):List.lookup k ((k',v)::l)=List.lookup k l:=by rw[ZZ,h]
theorem kJ {a b c d e:V}:List.lookup (Zz "spots") [(Zz "spots",a),(Zz "mosts",b),(Zz "first",c),(Zz "whats",d),(Zz "tables",e)]=some a:=aac
theorem Jc {a b c d e:V}:List.lookup (Zz "mosts") [(Zz "spots",a),(Zz "mosts",b),(Zz "first",c),(Zz "whats",d),(Zz "tables",e)]=some b:=by
 rw[bM ∅];exact aac
theorem Nw {a b c d e:V}:List.lookup (Zz "first") [(Zz "spots",a),(Zz "mosts",b),(Zz "first",c),(Zz "whats",d),(Zz "tables",e)]=some c:=by
 rw[bM ∅,bM ∅];exact aac
theorem BI {a b c d e:V}:List.lookup (Zz "whats") [(Zz "spots",a),(Zz "mosts",b),(Zz "first",c),(Zz "whats",d),(Zz "tables",e)]=some d:=by
 rw[bM ∅,bM ∅,bM ∅];exact aac
theorem dX {a b c d e:V} {k:Str} (h1:(k==Zz "spots")=false) (h2:(k==Zz "mosts")=false) (h3:(k==Zz "first")=false) (h4:(k==Zz "whats")=false) (h5:(k==Zz "tables")=false):
  List.lookup k [(Zz "spots",a),(Zz "mosts",b),(Zz "first",c),(Zz "whats",d),(Zz "tables",e)]=none:=by
 rw[bM h1,bM h2,bM h3,bM h4,bM h5];rfl
theorem BJ {n i:Nat} (h:i<n):DD n (i:Int)=some i:=by
 unfold DD;rw[if_pos (by lia),if_pos (by lia),ZX]
theorem eR {ns:List Int} {i:Nat} (h:i<ns.length):iX (List.map V.int ns) (i:Int)=some (.int (ns.getD i 0)):=by
 have:=xU (ns:=ns) (i:=(i:Int)) (by lia) (by lia)
 rwa [ZX] at this
theorem HF {cs:List (Str×Int)} {i:Nat} (h:i<cs.length):iX (List.map V.int (cs.map (·.2))) (i:Int)=some (.int (most cs i)):=eR (by rw[ZA];exact h)
theorem iu {H:Hp} {sp:Addr} {cs:List (Str×Int)} {n:Str} (h:H sp=some (.dK (si cs 0))) (hn:n∈cs.map (·.1)):jQ H sp (.str n) (some (.int ((bK cs n:Nat):Int))):=
 .inl ⟨_,Sum.inr n,.inl h,rfl,by rw[BH hn,Nat.zero_add]⟩
theorem yw {H:Hp} {p:Addr} {o:HO}:cX (upd H p o) p=cX H p:=by
 funext a;unfold cX
 by_cases c:a=p
 ·rw[if_pos c,if_pos c]
 ·rw[if_neg c,if_neg c,aw c]
theorem BK {c:TT} {tb:TS} {D:Ends} {σ:L2.St} {H:Hp} (Pv:Nat->L2.St->Hp->Prop) {m:Nat} (h0:Pv m σ H)
  (hs:∀m σ H,Pv m σ H->∃b:Bool,(∀Q:Bool->Hp->Prop,Q b H->c σ H Q)/\if b=true then tb {D with nx:=λσ' H'=>∃m',m'<m/\Pv m' σ' H',ct:=λσ' H'=>∃m',m'<m/\Pv m' σ' H',bk:=D.nx} σ H else D.nx σ H):zu c tb D σ H:=by
 refine⟨Pv,⟨m,h0⟩,?_⟩;intro m σ H p;obtain⟨b,k,q⟩:=hs m σ H p;refine k _ ?_;cases b with
 | true=>exact⟨_,λσ' H' h=>h,q⟩
 | false=>exact q
theorem EJ {H:Hp} {p:Addr} (h:H p=none):cX H p=H:=by
 funext a;unfold cX
 by_cases c:a=p
 ·rw[if_pos c,c,h]
 ·rw[if_neg c]
theorem sy {H H':Hp} {p:Addr} (h:cX H' p=H):aF H H':=by rw[<-h];exact dh
theorem EK (n:Nat):(aaO n [V.int 0]).flatten=List.map V.int (aaO n 0):=by
 induction n with
 | zero=>rfl
 | succ n ih=>rw[aaw,List.flatten_cons,ih,aaw];rfl
noncomputable def yx (q:Addr):Sp:=λvs H Q _=>∃c v H0 g nm ns x,vs=[.ref c,v]/\aF H0 H/\Ax q H0 c g/\GoodG g/\qd H v nm ns/\ns.length=g.cs.length/\look g.ps nm=some x/\∀p xs H',aF H H'->H p=none->H' p=some (.lst xs)->bo H0 (((cj g.cs ns x).map HD).map sh) xs->Q (.ref p) H'
noncomputable def EL (q:Addr):Sp:=λvs H Q _=>∃c v g nm ns x,vs=[.ref c,v]/\Ax q H c g/\GoodG g/\qd H v nm ns/\ns.length=g.cs.length/\look g.ps nm=some x/\∀p H',aF H H'->H p=none->Rep H' (.lst ((cj g.cs ns x).map λr=>Dat.str r.word)) (.ref p)->Q (.ref p) H'
noncomputable def EM (q:Addr):Sp:=λvs H Q _=>∃c v g nm ns x t b,vs=[.ref c,v]/\Ax q H c g/\GoodG g/\qd H v nm ns/\ns.length=g.cs.length/\look g.ps nm=some x/\Aw g.cs ns x=some (t,b)/\∀u H',aF H H'->Rep H' (.tup [.int t,.int b]) u->Q u H'
theorem iw {H:Hp} {p:Rw->Bool}:∀{rs:List Rw} {xs:List V},bo H ((rs.map HD).map sh) xs->bo H (((rs.filter p).map HD).map sh) ((xs.zip rs).filterMap λx=>if p x.2=true then some x.1 else none)
 | [],xs,h=>by rw[List.zip_nil_right];exact bI.mpr rfl
 | r::rs,xs,h=>by
  obtain⟨v,ys,rfl,h1,h2⟩:=aT.mp h;have ih:=iw (p:=p) h2;rw[List.zip_cons_cons,aad]
  by_cases c:p r=true
  ·simp only[c,if_true];rw[List.filter_cons_of_pos c,ZC,ZC];exact aT.mpr ⟨v,_,rfl,h1,ih⟩
  ·simp only[c];rw[List.filter_cons_of_neg c];exact ih
theorem vo {H:Hp}:∀{rs:List Rw} {xs:List V},bo H ((rs.map HD).map sh) xs->bo H (rs.map λr=>Dat.str r.word) (rs.map λr=>V.str r.word)
 | [],xs,h=>bI.mpr rfl
 | r::rs,xs,h=>by
  obtain⟨v,ys,rfl,h1,h2⟩:=aT.mp h;exact aT.mpr ⟨_,_,rfl,aR.mpr rfl,vo h2⟩
theorem jM {H:Hp} {rs:List Rw} {xs:List V} {i:Nat} {x:V} (h:bo H ((rs.map HD).map sh) xs) (e:xs[i]?=some x):∃r p a b c d,rs[i]?=some r/\x=.ref p/\H p=some (.tup [.str r.word,b,c,d])/\Rep H (KW r.wh) b/\a=r:=by
 obtain⟨dd,ed,rd⟩:=h.get e;rw[ZE,ZE] at ed;obtain⟨r4,e4,rfl⟩:=aaH.mp ed;obtain⟨r,er,rfl⟩:=aaH.mp e4;obtain⟨p,x1,x2,x3,x4,rfl,hp,r1,r2,r3,r4⟩:=dr.mp (show Rep H (.tup _) x from rd);have r1:x1=.str r.word:=aR.mp r1;subst r1;exact⟨r,p,r,x2,x3,x4,er,rfl,hp,r2,rfl⟩
theorem dE {tc:TT} {a b:TS} {D:Ends} {σ:L2.St} {H:Hp} (h:∀Y N:Hp->Prop,Y H->tc σ H λv H'=>if v=true then Y H' else N H') (k:a D σ H):tIfS tc a b D σ H:=Eh (λH'=>H'=H) (λ_=>False) (λ_ e=>e▸k) (λ_ f=>f.elim) λY N hY _=>h Y N (hY _ rfl)
theorem dq {tc:TT} {a b:TS} {D:Ends} {σ:L2.St} {H:Hp} (h:∀Y N:Hp->Prop,N H->tc σ H λv H'=>if v=true then Y H' else N H') (k:b D σ H):tIfS tc a b D σ H:=Eh (λ_=>False) (λH'=>H'=H) (λ_ f=>f.elim) (λ_ e=>e▸k) λY N _ hN=>h Y N (hN _ rfl)
abbrev gM:=Str×List Int
noncomputable def Q5 (ss:List gM) (s:gM):List gM:=if s∈ss then ss else ss++ [s]
noncomputable abbrev Q6 (H:Hp) (l n:Addr):Hp:=cX (cX H l) n
noncomputable def Kp (H H':Hp):Prop:=∀a,(∀vs,H a=some (.tup vs)->H' a=some (.tup vs))/\∀vs,H a=some (.lst vs)->H' a=some (.lst vs)
theorem Kp.of {H H':Hp} (s:aF H H'):Kp H H':=λa=>⟨λ_=>s _ _,λ_=>s _ _⟩
theorem Kp.upd {H:Hp} {p:Addr} {o:HO} (h1:∀vs,H p≠some (.tup vs)) (h2:∀vs,H p≠some (.lst vs)):Kp H (upd H p o):=λa=>by
 by_cases c:a=p
 ·subst c;exact⟨λvs e=>absurd e (h1 vs),λvs e=>absurd e (h2 vs)⟩
 ·rw[aw c];exact⟨λ_ h=>h,λ_ h=>h⟩
theorem Kp.trans {H H' H2:Hp} (a:Kp H H') (b:Kp H' H2):Kp H H2:=λx=>⟨λ_ h=>(b x).1 _ ((a x).1 _ h),λ_ h=>(b x).2 _ ((a x).2 _ h)⟩
mutual
theorem Kp.rep {H H':Hp} (s:Kp H H'):∀{d:Dat} {v:V},Rep H d v->Rep H' d v
 | .cW,_,h=>by rw[Rep] at *;exact h
 | .bl _,_,h=>by rw[Rep] at *;exact h
 | .int _,_,h=>by rw[Rep] at *;exact h
 | .str _,_,h=>by rw[Rep] at *;exact h
 | .tup ds,_,h=>by
  rw[Rep] at *;obtain⟨p,vs,e,hp,r⟩:=h;exact⟨p,vs,e,(s p).1 _ hp,s.KZ r⟩
 | .lst ds,_,h=>by
  rw[Rep] at *;obtain⟨p,vs,e,hp,r⟩:=h;exact⟨p,vs,e,(s p).2 _ hp,s.KZ r⟩
theorem Kp.KZ {H H':Hp} (s:Kp H H'):∀{ds:List Dat} {vs:List V},bo H ds vs->bo H' ds vs
 | [],_,h=>by rw[bo] at *;exact h
 | d::ds,_,h=>by
  rw[bo] at *;obtain⟨v,r,e,h1,h2⟩:=h;exact⟨v,r,e,s.rep h1,s.KZ h2⟩
end
theorem Kp.Q7 {H H':Hp} (s:Kp H H'):∀{ps:List (Str×Wt)} {us:List (Key×V)},sr H ps us->sr H' ps us
 | [],_,h=>h
 | _::_,_,⟨v,r,e,h1,h2⟩=>⟨v,r,e,s.rep h1,s.Q7 h2⟩
theorem sr.none {H:Hp} {ps:List (Str×Wt)} {us:List (Key×V)} {n:Str} (h:sr H ps us) (nn:n∉ps.map (·.1)):dP us (Sum.inr n)=none:=by
 rcases h.val (n:=n) with ⟨x,v,a,_,_⟩ | ⟨_,b⟩
 ·rw[CT nn] at a;cases a
 ·exact b
theorem yy {α:Type} {l:List α} (h:l.Nodup) {i:Nat} {x:α} (e:l[i]?=some x):x∉l.take i:=by
 intro m;obtain⟨j,hj,ej⟩:=List.getElem_of_mem m;rw[ZV] at hj;rw[List.getElem_take] at ej;obtain⟨hi,ei⟩:=aaI.mp e;have:=(List.getElem_inj h).mp (ej.trans ei.symm);lia
noncomputable def cU (ss ts:List gM):List gM:=ts.foldl Q5 ss
theorem HG {H:Hp} {p:Pt} {v:V} (h:Rep H (qc p) v):∃q,v=.ref q/\H q=some (.tup (uw p)):=by
 cases p with
 | num n=>obtain⟨q,x,y,e,hq,a,b⟩:=bN.mp (show Rep H (.tup _) v from h);rw[aR.mp a,bF.mp b] at hq;exact⟨q,e,hq⟩
 | cP n s=>obtain⟨q,x,y,z,e,hq,a,b,c⟩:=dQ.mp (show Rep H (.tup _) v from h);rw[aR.mp a,bF.mp b,bF.mp c] at hq;exact⟨q,e,hq⟩
noncomputable def CU (q:Addr) (H:Hp) (c:Addr) (g:Gm) (tb:Addr):Prop:=∃dx sp mo wh us ft,H c=some (.ins q dx [(Zz "spots",.ref sp),(Zz "mosts",.ref mo),(Zz "first",.str ft),(Zz "whats",.ref wh),(Zz "tables",.ref tb)])/\
 H sp=some (.dK (si g.cs 0))/\H mo=some (.lst ((g.cs.map (·.2)).map V.int))/\H wh=some (.dK us)/\sr H g.ps us/\(g.ps.map (·.1)).head?=some ft
theorem CU.co {q:Addr} {H:Hp} {c:Addr} {g:Gm} {tb:Addr}:CU q H c g tb->Ax q H c g:=λhh=>by
 obtain⟨dx,sp,mo,wh,us,ft,h1,h2,h3,h4,h5,h6⟩:=hh;exact⟨dx,sp,mo,wh,tb,us,ft,h1,h2,h3,h4,h5,h6⟩
theorem CU.mono {q:Addr} {H H':Hp} {c:Addr} {g:Gm} {tb:Addr} (s:aF H H'):CU q H c g tb->CU q H' c g tb:=λhh=>by
 obtain⟨dx,sp,mo,wh,us,ft,h1,h2,h3,h4,h5,h6⟩:=hh;exact⟨dx,sp,mo,wh,us,ft,s _ _ h1,s _ _ h2,s _ _ h3,s _ _ h4,h5.mono s,h6⟩
theorem Kp.cX {H:Hp} {tb:Addr} {kvs:List (Key×V)} (h:H tb=some (.dK kvs)):Kp H (cX H tb):=λa=>by
 by_cases c:a=tb
 ·subst c;rw[h];exact⟨(λ_ e=>by cases e),(λ_ e=>by cases e)⟩
 ·rw[cV c];exact⟨λ_ e=>e,λ_ e=>e⟩
noncomputable abbrev VP (H:Hp) (l n tb:Addr):Hp:=cX (Q6 H l n) tb
noncomputable def yz (rs:List Tw) (v:Int):Option Tw:=rs.find? λr=>decide (r.1<=v) && decide (v<=r.2.1)
theorem yA {kvs:List (Key×V)} {k:Key} {v:V} (h:dP kvs k=none) (k':Key):dP (kvs++ [(k,v)]) k'=if k=k' then some v else dP kvs k':=by
 unfold dP at *;rw[List.find?_append]
 by_cases c:k=k'
 ·subst c;rw[if_pos rfl];have:kvs.find? (λkv=>decide (kv.1=k))=none:=by simpa using h
  rw[this];simp
 ·rw[if_neg c];have:List.find? (λkv:Key×V=>decide (kv.1=k')) [(k,v)]=none:=by simp [c]
  rw[this];simp
theorem ix:∀{ps qs:List Pt},ps.map qc=qs.map qc->ps=qs
 | [],[],_=>rfl
 | [],_::_,h=>by cases h
 | _::_,[],h=>by cases h
 | p::ps,q::qs,h=>by
  rw[ZC,ZC] at h
  injection h with h1 h2
  rw[HC h1,ix h2]
theorem BL {H:Hp} {v:V} {ps:List Pt} (h:Rep H (.lst (ps.map qc)) v):∃a,v=.ref a/\KG H a ps:=by
 obtain⟨a,xs,e,ha,r⟩:=bh.mp h;refine⟨a,e,xs,ha,?_⟩;have:∀{ps:List Pt} {xs:List V},bo H (ps.map qc) xs->Al (λp v=>∃q,v=.ref q/\H q=some (.tup (uw p))) ps xs:=by
  intro ps
  induction ps with
  | nil=>intro xs h;rw[bI.mp h];trivial
  | cons p ps ih=>
   intro xs h;obtain⟨v,r,rfl,h1,h2⟩:=aT.mp h;exact⟨HG h1,ih h2⟩
 exact this r
theorem HH {H X:Hp} {rows:List (Int×Int×Int)} {p:Addr} (h:Rep H (mP rows) (.ref p)) (kp:∀o,H p=some o->X p=some o) (kt:∀a vs,H a=some (.tup vs)->X a=some (.tup vs)):Rep X (mP rows) (.ref p):=by
 obtain⟨a,xs,e,ha,r⟩:=bh.mp h;cases e;refine bh.mpr ⟨_,xs,rfl,kp _ ha,?_⟩;refine bo.of r.length λi d v ed ev=>?_;obtain⟨d',Nx,rd⟩:=r.get ev;rw[ed] at Nx;cases Nx;rw[ZE] at ed;obtain⟨x,_,rfl⟩:=aaH.mp ed;obtain⟨p1,q1,rfl,h1,h2⟩:=qG.mp rd;exact qG.mpr ⟨p1,q1,rfl,kt _ _ h1,kt _ _ h2⟩
noncomputable def EN (q:Addr):Sp:=λvs H Q _=>∃c sv g nm ns tb kvs ps t b rs,vs=[.ref c,sv]/\CU q (cX H tb) c g tb/\qd H sv nm ns/\H tb=some (.dK kvs)/\kvs.length<=1000/\look g.ps nm=some (.dN (ps.map qc) t b rs)/\pM ps/\ps.length<=4/\
 (∀v,dP kvs (Sum.inr nm)=some v->Q v H)/\(dP kvs (Sum.inr nm)=none->∀p H1,aF H H1->H p=none->Rep H1 (mP (mW ps)) (.ref p)->Q (.ref p) (upd H1 tb (.dK (kvs++ [(Sum.inr nm,.ref p)]))))
noncomputable def K0 (q:Addr):Sp:=λvs H Q _=>∃c sv v g nm ns c5 t b rs r f fk,vs=[.ref c,sv,.int v]/\Ax q H c g/\GoodG g/\qd H sv nm ns/\ns.length=g.cs.length/\look g.ps nm=some (.dN c5 t b rs)/\yz rs v=some r/\dW g (r.2.2.1.foldl (iU g.cs v) ns) f r.2.2.2=some fk/\
 ∀p l H',aF H H'->H p=none->H l=none->H' p=some (.tup [.str fk,.ref l])->H' l=some (.lst ((r.2.2.1.foldl (iU g.cs v) ns).map V.int))->Q (.ref p) H'
theorem oK {H:Hp} {p:Tw->Bool}:∀{rs:List Tw} {xs:List V},bo H ((rs.map Gk).map sh) xs->bo H (((rs.filter p).map Gk).map sh) ((xs.zip rs).filterMap λx=>if p x.2=true then some x.1 else none)
 | [],xs,h=>by rw[List.zip_nil_right];exact bI.mpr rfl
 | r::rs,xs,h=>by
  obtain⟨v,ys,rfl,h1,h2⟩:=aT.mp h;have ih:=oK (p:=p) h2;rw[List.zip_cons_cons,aad]
  by_cases c:p r=true
  ·simp only[c,if_true];rw[List.filter_cons_of_pos c,ZC,ZC];exact aT.mpr ⟨v,_,rfl,h1,ih⟩
  ·simp only[c];rw[List.filter_cons_of_neg c];exact ih
noncomputable def nw (H X H':Hp):Hp:=λa=>match H a with
 | none=>H' a
 | some _=>X a
theorem cC {H X H':Hp} {a:Addr} (h:H a=none):nw H X H' a=H' a:=by unfold nw;rw[h]
theorem kK {H X H':Hp} (sx:aF X H):aF X (nw H X H'):=λa o h=>by unfold nw;rw[sx _ _ h];exact h
theorem K2 {H X H':Hp} (sx:aF X H) (s:aF H H'):aF (nw H X H') H':=λa o h=>by
 unfold nw at h
 split at h
 ·exact h
 ·exact s _ _ (sx _ _ h)
theorem mY {H X H' qK:Hp} (s:aF H' qK):aF (nw H X H') (nw H X qK):=λa o h=>by
 cases c:H a with
 | none=>rw[cC c] at h ⊢;exact s _ _ h
 | some x=>unfold nw at h ⊢;rw[c] at h ⊢;exact h
theorem Ny {H X H' qK:Hp} (s1:aF H H') (s2:aF H' qK):nw H' (nw H X H') qK=nw H X qK:=by
 funext a;unfold nw;cases h:H a with
 | none=>
  dsimp only;cases h':H' a with
  | none=>rfl
  | some o=>dsimp only;exact(s2 _ _ h').symm
 | some o=>
  rw[s1 _ _ h]
noncomputable def sA:Sp:=λvs H Q _=>∃(v:V) (X:Hp) (rs:List R4),vs=[v]/\aF X H/\Rep X (.lst (rs.map sh)) v/\rs.length<=100/\(∀r∈rs,r.2.2.1.length<=100)/\∀p H',aF H H'->Rep (nw H X H') (.lst (rs.map sh)) (.ref p)->Q (.ref p) H'
noncomputable def EO:Sp:=λvs H Q _=>∃(v:V) (X:Hp) (x:Wt) (cs:List (Str×Int)),vs=[v]/\aF X H/\Rep X (jU x) v/\mX cs x/\∀u H',aF H H'->Rep (nw H X H') (jU x) u->Q u H'
noncomputable def BM (K:aaB):Sp:=λvs H Q _=>∃(a:Addr) (ns:List Int),vs=[.ref a]/\bL K H a (ns.map V.int)/\ns.length<=63/\∀H',Q (.bl true) H'
section
variable {P : Program} {w : World} {K : aaB} {mg : Str -> Option Value} {base : Heap}
variable {aB aH aI aV aE aL aW aM aA aN aX af av : Addr}
theorem gC:aZ ["one","other","rest"] ["one","other"] (aq (top 14)):=⟨rfl,rfl,rfl,∅,rfl,∅,∅⟩
theorem Nz (T:Txt K mg aB aH aI aV aE aL aW aM aA aN aX af av):cg P w K mg base (br P w) 1 "common_divisor" ["one","other"] KC:=by
 refine T.oE.dJ (λ_ _ _ _ _ _=>eG λ_ _=>rfl) λf fd F=>F.eC gC (λvs H Q E h=>?_) (λcf A outer s H vs Q E hr h=>?_)
 ·obtain⟨_,_,rfl,_⟩:=h;rfl
 ·symm;obtain⟨a,b,rfl,k⟩:=h;nofun;have nd:=gC.nd;refine⟨_,(ah (aJ (i:=0) nd rfl (.inl rfl) (a8 rj (by rfl) T.z_abs rfl (aa (pv 0) ag (se rfl)) (he:=se rfl) (hpl:=na rfl)))
  (ah (aJ (i:=1) nd rfl (.inl rfl) (a8 rj (by rfl) T.z_abs rfl (aa (pv 1) ag (se rfl)) (he:=se rfl) (hpl:=na rfl)))
  (ah (mB PassesOwn.never (aP xF (pv 1) ae (a5 _)) (ah (aJ (i:=2) nd rfl (.inl rfl) (aG cJ (pv 0) (pv 1)))
  (ah (aJ (i:=0) nd rfl (.inl rfl) (pv 1))
  (ao (aJ (i:=1) nd rfl (.inl rfl) (pv 2))))))
  (ao (aY (pv 0)))))),?_⟩
  refine(?_:let bY:TS:=_;let bZ:TS:=_;let b5:TS:=_;let cY:TS:=_;tSeq bY (tSeq bZ (tSeq b5 cY)) _ _ _);intro bY bZ b5 cY;dsimp?[];refine xE (λσ H1=>H1=H/\∃(x y:Int) (z:Option V),σ=[some (.int x),some (.int y),z]/\0<=x/\0<=y/\Nm.g x y=Nm.g a b) (λσ _=>match σ with | [_,some (.int y),_]=>y.toNat | _=>0) ?_ ?_ ?_
  ·refine⟨rfl,_,_,_,rfl,?_,?_,?_⟩
   ·split <;>lia
   ·split <;>lia
   ·rw[show(if a<0 then -a else a)=(a.natAbs:Int) by split <;>lia,show(if b<0 then -b else b)=(b.natAbs:Int) by split <;>lia,Nm.DP,Nm.Bf]
  ·intro σ H1 dA;symm;obtain⟨rfl,x,y,z,rfl,x0,y0,e⟩:=dA;nofun;dsimp?[];refine iS (λc=>?_) (λc=>?_)
   ·refine⟨by lia,y0,aak _ (by lia),by rw[Nm.DQ x0 (by lia),e],?_⟩;have:=aay x (show 0<y by lia);have:=aak x (show y≠0 by lia);lia
   ·have z:y=0:=by lia
    subst z;rw[Nm.DR x0] at e;rw[e];exact k
  ·intro σ H1 Q1 Q2 hq hc;simp only[L2.start,Pr,tSortR,tSl,tNoPart,tPart,rSlL,tDNotIn,gSub,rSetL,tLst,tDNewK,tComp,L2.stC,tFor_eq,iList,iRng1,iRng2,iEnum,tChain,tSumV,tBM,rJoin,tRaise,tDGet,tDGet2,sDPut,Option.join_some,List.getElem?_nil,tSeq,tRet,tIfS,tTest,tB,tOp,tUn,tVar,tC,tCB,tCons,tNil,tCall,tTupS,tAsg,gName,gNil,gCons,tPar,tNext,tDrop,tAnd,tOr,tNot,tAndV,tNotV,tIf,rI,rI0,rU,rIxTH,rIxLH,rInT,rEq,rNe,scal_ss,scal_ii,scal_bb,scal_si,scal_is,CPow,at0,at1,at2,ZC,Z7,ZP,aap,Nat.reduceSub,Nat.reduceAdd,Nat.zero_add,List.replicate_zero,List.reduceReplicate,aab,List.nil_append,aae,List.getElem?_cons_zero,List.getElem?_cons_succ,Z3,Z4,Option.some.injEq,exists_eq_left',exists_eq_left,V.ref.injEq,V.int.injEq,V.bl.injEq,V.str.injEq,V.ty.injEq,HO.tup.injEq,HO.lst.injEq,List.cons.injEq,and_true,true_and,and_assoc,exists_and_left,decide_eq_true_eq,Bool.not_eq_true',decide_eq_false_iff_not,ite_true,ite_false,if_true,if_false,Int.reduceToNat,eq_self_iff_true] at hc ⊢;symm;obtain⟨v,e1,e2,q⟩:=hc;nofun;exact⟨v,e1,e2,hq _ _ q⟩
theorem yB:aZ ["top","bottom","divisor"] ["top","bottom"] (aq (top 15)):=⟨rfl,rfl,rfl,∅,rfl,∅,∅⟩
theorem Jd (T:Txt K mg aB aH aI aV aE aL aW aM aA aN aX af av):cg P w K mg base (br P w) 2 "share" ["top","bottom"] (ED aH):=by
 have oM:cg P w K mg base (br P w) 1 "common_divisor" ["one","other"] KC:=Nz T;refine T.Hs.dJ (λ_ _ _ _ _ _=>eG λ_ _=>rfl) λf fd F=>F.Kd yB (λvs H Q E h=>?_) (λcf A outer s H vs Q E hr h=>?_)
 ·obtain⟨_,_,rfl,_⟩:=h;rfl
 ·symm;obtain⟨a,b,rfl,bt,kE,kQ⟩:=h;nofun;have nd:=yB.nd;have BN:A.handled=none:=hr.hd;refine⟨_,(ah (bw (aP bG (pv 1) ae (a5 _)) (ao (eW rfl T.k_NoShare T.x_NoShare BN (aa a7 ag (se rfl)) (he:=se rfl) (hpl:=na rfl)))
   ba)
  (ah (aJ (i:=2) nd rfl (.inl rfl) (aO oM (hr.mono ∅) rfl au.pass (aa (pv 0) (aa (pv 1) ag (se rfl)) (se rfl)) (he:=se rfl) (hpl:=na rfl)))
  (ah (bw (aP xG (pv 1) ae (a5 _)) (ao (aJ (i:=2) nd rfl (.inl rfl) (iF fc (pv 2))))
   ba)
  (ao (aY (bf (aa (aG xT (pv 0) (pv 2)) (aa (aG xT (pv 1) (pv 2)) ag (se rfl)) (se rfl)))))))),?_⟩
  refine(?_:let bY:TS:=_;let bZ:TS:=_;let b5:TS:=_;let cY:TS:=_;tSeq bY (tSeq bZ (tSeq b5 cY)) _ _ _);intro bY bZ b5 cY;dsimp?[KC,tRaise];refine iS (λz=>?_) (λz=>?_)
  ·exact⟨∅,kE z⟩
  ·have g0:0<Nm.g a b:=Nm.DO z;have gb:Bt 5000 (Nm.g a b):=bt.le (by have:=Nm.DS (a:=a) z;lia);have kq:=kQ z;unfold Nm.st Nm.sb at kq;refine iS (λc=>?_) (λc=>?_)
   ·rw[if_pos c,if_pos c] at kq;rw[Nm.DY g0 (Nm.Be a b),Nm.DY g0 (Nm.jH a b)];exact⟨rB.of (by lia) gb.neg,rB.of (by lia) gb.neg,∅,λp H2 s1 n1 e=>kq p H2 s1 n1 e⟩
   ·rw[if_neg c,if_neg c] at kq;rw[Nm.DX g0,Nm.DX g0];exact⟨rB.of (by lia) gb,rB.of (by lia) gb,∅,λp H2 s1 n1 e=>kq p H2 s1 n1 e⟩
theorem fo:aZ ["weights","bottom"] ["weights","bottom"] (aq (top 18)):=⟨rfl,rfl,rfl,∅,rfl,∅,∅⟩
theorem NA (T:Txt K mg aB aH aI aV aE aL aW aM aA aN aX af av):cg P w K mg base (br P w) 3 "table_by_weights" ["weights","bottom"] Hv:=by
 have wF:cg P w K mg base (br P w) 2 "share" ["top","bottom"] (ED aH):=Jd T;refine T.lG.dJ (λ_ _ _ _ _ _=>eG λ_ _=>rfl) λf fd F=>F.eC fo (λvs H Q E h=>?_) (λcf A outer s H vs Q E hr h=>?_)
 ·obtain⟨_,_,_,rfl,_⟩:=h;rfl
 ·symm;obtain⟨d,B,ws,rfl,hd,YT,hz,B0,bB,k⟩:=h;nofun;have nd:=fo.nd;refine⟨_,(ao (aY (cO rfl (N:=["weights","bottom"]) (so:=aq (top 18)) (N':=["value","weights","bottom"]) (k:=1) (fr:=[0,1]) rfl rfl ⟨rfl,∅,∅,∅,rfl,∅,∅⟩ (bA (K:=K) (a8 rE (by rfl) T.z_sorted rfl (aa (pv 0) ag (se rfl)) (he:=se rfl) (hpl:=na rfl))) (λ_ _ _ _ _=>(a9 (i:=0) (show(["value","weights","bottom"]:List Str).Nodup by decide +kernel) rfl (.inl rfl))) (λ_ _ _ _ _=>dH)
   (λ_ _ _ _ _=>(bf (aa (pv 0) (aa (aO wF (hr.mono ∅) rfl au.pass (aa (cH (cE hr) (pv 1) (pv 0) (λ_ _=>rfl)) (aa (pv 2) ag (se rfl)) (se rfl)) (he:=se rfl) (hpl:=na rfl)) ag (se rfl)) (se rfl))))))),?_⟩
  dsimp?[];refine⟨enc ws,.inl hd,Ec ws,by rw[vU];exact hz,λl nl=>⟨⟨_,bL.of aj⟩,?_⟩⟩;rw[CH];have sm:aF H (upd H l (.lst (List.map V.int (Nm.vS (Nm.keys ws))))):=aD nl;have ll:(List.map V.int (Nm.vS (Nm.keys ws))).length=ws.length:=by rw[ZA,Nm.ip];unfold Nm.keys;rw[ZA]
  refine comp_map (src_list (λH2 s2=>s2.seq (bL.of aj))) (λ_ _ _ _ h=>by rw[h.1];exact aF.refl _) (by rw[ll,sizeLine_eq];lia) (λi y H2=>∀r,(Nm.rowsOf ws B)[i]?=some r->Rep H2 (Ha r) y) (λi y H2 H3 s3 h r e=>(h r e).mono s3) ?_ ?_
  ·rintro i x w0 H2 H3 Q2 hi s2 ⟨rfl,hx⟩ kq;rw[ZE] at hx;symm;obtain⟨v,ev,rfl⟩:=aaH.mp hx;nofun;have hv:v∈Nm.keys ws:=Nm.G5.mp (ZS ev);have hd2:=s2 _ _ (sm _ _ hd);dsimp?[ED];refine⟨_,Ed hd2 hv,_,rfl,bB,λz=>absurd z B0,λ_ p H4 s4 _ e4=>⟨∅,λp5 H5 s5 _ e5=>?_⟩⟩;refine kq _ _ (s4.trans s5) λr er=>?_;have:r=(v,Nm.st (Nm.look ws v) B,Nm.sb (Nm.look ws v) B):=by
    unfold Nm.rowsOf at er;rw[ZE,ev] at er;exact(ZU er).symm
   subst this;exact qG.mpr ⟨p5,p,rfl,e5,s5 _ _ e4⟩
  ·intro ys H2 s2 ly hy D n1 n2;refine k _ _ (sm.trans (s2.trans (aD n2))) (none_of sm n1) (bh.mpr ⟨D,ys,rfl,aj,?_⟩);refine bo.of ?_ λi dd v e1 e2=>?_
   ·rw[ZA,ly];unfold Nm.rowsOf;rw[ZA,ZA]
   ·rw[ZE] at e1;symm;obtain⟨r,er,rfl⟩:=aaH.mp e1;nofun;exact(hy i v e2 r er).mono (aD n2)
theorem pN:aZ ["rows","weights","value","weight"] ["rows"] (aq (top 19)):=⟨rfl,rfl,rfl,∅,rfl,∅,∅⟩
theorem NB (T:Txt K mg aB aH aI aV aE aL aW aM aA aN aX af av):cg P w K mg base (br P w) 4 "table_of" ["rows"] (KD aI):=by
 have lM:cg P w K mg base (br P w) 3 "table_by_weights" ["weights","bottom"] Hv:=NA T;refine T.An.dJ (λ_ _ _ _ _ _=>gZ λ_=>rfl) λf fd F=>F.Kd pN (λvs H Q E h=>?_) (λcf A outer s H vs Q E hr h=>?_)
 ·obtain⟨_,_,rfl,_⟩:=h;rfl
 ·symm;obtain⟨v,ps,rfl,rp,hz,hb,hw,kE,kQ⟩:=h;nofun;have nd:=pN.nd;have BN:A.handled=none:=hr.hd;refine⟨_,(ah (aJ (i:=1) nd rfl (.inl rfl) gU)
  (ah (cS PassesOwn.leaving rfl (bA (K:=K) (pv 0)) (fJ (K:=K) (n:=2) rfl (bX (a9 (i:=2) nd rfl (.inl rfl)) (bX (a9 (i:=3) nd rfl (.inl rfl)) fI))) (ah (bw (aP xG (pv 3) ae (a5 _)) (ao (eW rfl T.k_NoTable T.x_NoTable BN (aa a7 ag (se rfl)) (he:=se rfl) (hpl:=na rfl)))
   ba)
  (ao (bw (aP kA (pv 3) ae (a5 _)) (ao (eE (cE hr) (pv 1) (pv 2) (aG aQ (DK (cE hr) (pv 1) (pv 2) ae (by first | exact⟨rfl,rfl,rfl⟩ | constructor <;>rfl)) (pv 3)) rfl))
   ba))))
  (ah (bw (aP bG (a8 Cv (by rfl) T.z_len ZT (aa (pv 1) ag (se rfl)) (he:=se rfl) (hpl:=na rfl)) ae (a5 _)) (ao (eW rfl T.k_NoTable T.x_NoTable BN (aa a7 ag (se rfl)) (he:=se rfl) (hpl:=na rfl)))
   ba)
  (ao (aY (aO lM (hr.mono ∅) rfl au.pass (aa (pv 1) (aa (Ad rfl (by rfl) T.z_sum (pv 1) (he:=se rfl)) ag (se rfl)) (se rfl)) (he:=se rfl) (hpl:=na rfl))))))),?_⟩
  refine(?_:let bY:TS:=_;let bZ:TS:=_;let b5:TS:=_;let cY:TS:=_;tSeq bY (tSeq bZ (tSeq b5 cY)) _ _ _);intro bY bZ b5 cY;dsimp?[Hv,tRaise];intro d Mh;symm;obtain⟨a,xs,rfl,ha,rl⟩:=bh.mp rp;nofun;have n1:=rl.length;rw[ZA] at n1;have q1:∀o,bL K (upd H d o) a xs:=λo=>bL.of (aD Mh _ _ ha);refine⟨_,rfl,⟨_,q1 _⟩,cu (src_list (Ok:=λH'=>∃o,H'=upd H d o) (λH' ⟨o,e⟩=>by rw[e];exact q1 o))
   (λi σ H'=>H'=upd H d (.dK (enc (Nm.kG (ps.take i))))/\(∀p∈ps.take i,0<=p.2)/\∃z1 z2,σ=[some (.ref a),some (.ref d),z1,z2])
   ⟨by rw[List.take_zero];rfl,by simp,_,_,rfl⟩ (λ_ _ _ _ h=>⟨_,h.1⟩) ?_ ?_⟩
  ·intro i x σ H' qK hi gN gO;symm;obtain⟨rfl,nn,z1,z2,rfl⟩:=gN;obtain⟨rfl,hx⟩:=gO;obtain⟨dd,ed,rd⟩:=rl.get hx;rw[ZE] at ed;obtain⟨p,ep,rfl⟩:=aaH.mp ed;obtain⟨q,rfl,hq⟩:=cA.mp rd;nofun;have tk:ps.take (i+1)=ps.take i++ [p]:=by rw[Z2,ep];rfl
   refine⟨q,_,rfl,kz.of (aD Mh _ _ hq),rfl,?_⟩;dsimp?[tRaise];rw[tk,Nm.Ej];refine iS (λc=>?_) (λc=>?_)
   ·exact⟨∅,kE (.inl ⟨p,ZS ep,c⟩) _ (aD Mh)⟩
   ·have Tj:∀r∈ps.take i++ [p],0<=r.2:=λr hr=>by
     rcases List.mem_append.mp hr with h | h
     ·exact nn r h
     ·have:r=p:=by simpa using h
      subst this;lia
    refine iS (λc2=>?_) (λc2=>?_)
    ·symm;obtain⟨o,ho,eo⟩:=CI (H:=upd H d (.dK (enc (Nm.kG (ps.take i))))) p.1 (.inl aj);nofun;refine⟨.inl ⟨_,.inl aj⟩,o,ho,?_⟩;rw[eo];dsimp?[];refine⟨_,Ef _ _ aj (Nm.oz _) ?_,?_,Tj,?_⟩
     ·have:=Nm.Bp (ps.take i);rw[ZV] at this;rw[sizeLine_eq];lia
     ·rw[A2,if_pos c2];rfl
     ·exact⟨_,rfl⟩
    ·refine⟨by rw[if_neg c2],Tj,?_⟩;exact⟨_,rfl⟩
  ·intro σ H' dA;symm;obtain⟨rfl,nn,z1,z2,rfl⟩:=dA;nofun;rw[ZQ (by lia)] at nn ⊢;dsimp?[tRaise,Hv];have el:(enc (Nm.kG ps)).length=(Nm.kG ps).length:=vU _;refine⟨_,aj,iS (λz=>⟨∅,kE (.inr ?_) _ (aD Mh)⟩) (λz=>?_)⟩
   ·exact Nm.Bq.mp (List.eq_nil_of_length_eq_zero (by lia))
   ·have np:Nm.pos ps≠[]:=λe=>by
     have:=Nm.Bq.mpr e;exact z (by rw[el,this];rfl)
    have nb:¬Nm.bad ps:=λb=>by
     rcases b with ⟨p,hp,c⟩ | c
     ·have:=nn p hp;lia
     ·exact np c
    have T0:=Nm.G7 (show 0< (Nm.kG ps).length by lia) (Nm.oz ps) (Nm.Hg ps);have T1:=Nm.rL (c:=10^12) ∅ hb;rw[<-Nm.Hh] at T1;have lw:=Nm.Bp ps;have ev:List.map (λx:Key×V=>x.2) (enc (Nm.kG ps))=List.map V.int ((Nm.kG ps).map (·.2)):=by
     unfold enc;rw[Z1,Z1];rfl
    refine⟨_,aj,_,ev,_,aj,Nm.oz ps,by lia,?_,?_,λp H' s' VQ r'=>?_⟩
    ·show Nm.rG (Nm.kG ps)≠0;lia
    ·show Bt 5000 (Nm.rG (Nm.kG ps));exact Bt.of (10^16) (by lia) (by lia)
    ·exact kQ nb p H' ((aD Mh).trans s') (none_of (aD Mh) VQ) r'
theorem yC:aZ ["base","exponent","product","turn"] ["base","exponent"] (aq (top 23)):=⟨rfl,rfl,rfl,∅,rfl,∅,∅⟩
theorem NC (T:Txt K mg aB aH aI aV aE aL aW aM aA aN aX af av):cg P w K mg base (br P w) 1 "power" ["base","exponent"] KH:=by
 refine T.Ht.dJ (λ_ _ _ _ _ _=>eG λ_ _=>rfl) λf fd F=>F.eC yC (λvs H Q E h=>?_) (λcf A outer s H vs Q E hr h=>?_)
 ·obtain⟨_,_,rfl,_⟩:=h;rfl
 ·symm;obtain⟨b,e,rfl,be,Tn,hb,kk⟩:=h;nofun;have nd:=yC.nd;refine⟨_,(ah (aJ (i:=2) nd rfl (.inl rfl) ae)
  (ah (cS PassesOwn.never rfl (cN rfl T.z_range (aa (pv 1) ag (se rfl))) (a9 (i:=3) nd rfl (.inl rfl)) (ah (bw (aP kA (pv 2) (mQ rfl T.c_MOST_BOTTOM) (a5 _)) (ao xB)
   ba)
  (ao (aJ (i:=2) nd rfl (.inl rfl) (aG bq (pv 2) (pv 0))))))
  (ao (aY (pv 2))))),?_⟩
  refine(?_:let bY:TS:=_;let bZ:TS:=_;let b5:TS:=_;tSeq bY (tSeq bZ b5) _ _ _);intro bY bZ b5;have sl:=sizeLine_eq;dsimp?[];refine⟨by lia,by lia,cu (src_range (Ok:=λ_=>True)) (λi σ H'=>H=H'/\∃z,σ=[some (.int (b:Int)),some (.int (e:Int)),some (.int ((b^i:Nat):Int)),z]) ⟨rfl,_,rfl⟩ (λ_ _ _ _ _=>trivial) ?_ ?_⟩
  ·intro i x σ H' qK hi gN gO;symm;obtain⟨rfl,z,rfl⟩:=gN;obtain⟨rfl,rfl⟩:=gO;nofun;have b1:1<=b:=by lia
   have le:b^i<=b^e:=Nat.pow_le_pow_right b1 (by lia);dsimp?[];rw[if_neg (by lia)];refine⟨bJ (by lia) (by lia),?_,_,rfl⟩;rw[Nat.pow_succ,aaf]
  ·intro σ H' dA;symm;obtain⟨rfl,z,rfl⟩:=dA;nofun;rw[ZX];dsimp?[];exact kk
theorem kL:aZ ["part"] ["part"] (aq (top 24)):=⟨rfl,rfl,rfl,∅,rfl,∅,∅⟩
theorem ER (T:Txt K mg aB aH aI aV aE aL aW aM aA aN aX af av):cg P w K mg base (br P w) 1 "most_faces" ["part"] EF:=by
 refine T.vX.dJ (λ_ _ _ _ _ _=>gZ λ_=>rfl) λf fd F=>F.eC kL (λvs H Q E h=>?_) (λcf A outer s H vs Q E hr h=>?_)
 ·obtain⟨_,_,rfl,_⟩:=h;rfl
 ·symm;obtain⟨q,p,rfl,hq,kk⟩:=h;nofun;have nd:=kL.nd;refine⟨_,(ah (bw (aP bG (ar ai (pv 0) ae (λ_ _=>rfl)) a7 (a5 _)) (ao (aY ae))
   ba)
  (ah (bw (aP bG (ar ai (pv 0) ae (λ_ _=>rfl)) a7 (a5 _)) (ao (aY (mz (aP kA (ar ai (pv 0) ae (λ_ _=>rfl)) ae (a5 _)) ae ae)))
   ba)
  (ah (bw (aP bG (ar ai (pv 0) ae (λ_ _=>rfl)) a7 (a5 _)) (ao (aY (aG aQ (a8 (jG rfl) (by rfl) T.z_max rfl (aa (ar ai (pv 0) ae (λ_ _=>rfl)) (aa ae ag (se rfl)) (se rfl)) (he:=se rfl) (hpl:=na rfl)) ae)))
   ba)
  (ao (aY (ar ai (pv 0) (iF fc ae) (λ_ _=>rfl))))))),?_⟩
  refine(?_:let bY:TS:=_;let bZ:TS:=_;let b5:TS:=_;let cY:TS:=_;tSeq bY (tSeq bZ (tSeq b5 cY)) _ _ _);intro bY bZ b5 cY;cases p with
  | num n=>
   simp only[uw] at hq;dsimp?[hq];exact kk
  | cP m s=>
   simp only[uw] at hq;dsimp?[hq];rw[if_neg ∅,if_neg ∅,if_neg ∅];exact⟨_,rfl,kk⟩
theorem i8:aZ ["part"] ["part"] (aq (top 25)):=⟨rfl,rfl,rfl,∅,rfl,∅,∅⟩
theorem ES (T:Txt K mg aB aH aI aV aE aL aW aM aA aN aX af av):cg P w K mg base (br P w) 2 "part_bottom" ["part"] yq:=by
 have HI:cg P w K mg base (br P w) 1 "power" ["base","exponent"] KH:=NC T;have eJ:cg P w K mg base (br P w) 1 "most_faces" ["part"] EF:=ER T;refine T.uf.dJ (λ_ _ _ _ _ _=>gZ λ_=>rfl) λf fd F=>F.eC i8 (λvs H Q E h=>?_) (λcf A outer s H vs Q E hr h=>?_)
 ·obtain⟨_,_,rfl,_⟩:=h;rfl
 ·symm;obtain⟨q,p,rfl,hq,g,hb,kk⟩:=h;nofun;have nd:=i8.nd;refine⟨_,(ao (aY (aO HI (hr.mono ∅) rfl au.pass (aa (ar ai (pv 0) (iF fc ae) (λ_ _=>rfl)) (aa (aO eJ (hr.mono ∅) rfl au.pass (aa (pv 0) ag (se rfl)) (he:=se rfl) (hpl:=na rfl)) ag (se rfl)) (se rfl)) (he:=se rfl) (hpl:=na rfl)))),?_⟩;dsimp?[KH,EF];refine⟨_,hq,_,EE p,p,hq,lst p,rfl,Ja p,rfl,?_,?_,?_,?_⟩
  ·cases p with
   | num n=>exact .inr rfl
   | _=>exact .inl g.1
  ·have:=rY g;lia
  ·have:lst p^Ja p=bot p:=by cases p <;>rfl
   rw[this];exact hb
  ·have:lst p^Ja p=bot p:=by cases p <;>rfl
   rw[this];exact kk
theorem kO:aZ ["part","sides","low"] ["part"] (aq (top 26)):=⟨rfl,rfl,rfl,∅,rfl,∅,∅⟩
theorem ND (T:Txt K mg aB aH aI aV aE aL aW aM aA aN aX af av):cg P w K mg base (br P w) 3 "part_count" ["part"] KI:=by
 have eJ:cg P w K mg base (br P w) 1 "most_faces" ["part"] EF:=ER T;have dY:cg P w K mg base (br P w) 2 "part_bottom" ["part"] yq:=ES T;refine T.vY.dJ (λ_ _ _ _ _ _=>gZ λ_=>rfl) λf fd F=>F.eC kO (λvs H Q E h=>?_) (λcf A outer s H vs Q E hr h=>?_)
 ·obtain⟨_,_,rfl,_⟩:=h;rfl
 ·symm;obtain⟨q,p,rfl,hq,g,hb,kk⟩:=h;nofun;have nd:=kO.nd;refine⟨_,(ah (aJ (i:=1) nd rfl (.inl rfl) (ar ai (pv 0) (iF fc ae) (λ_ _=>rfl)))
  (ah (bw (aP bG (ar ai (pv 0) ae (λ_ _=>rfl)) a7 (a5 _)) (ah (aJ (i:=2) nd rfl (.inl rfl) (a8 (jG rfl) (by rfl) T.z_max rfl (aa (a8 (fO rfl) (by rfl) T.z_min rfl (aa (ar ai (pv 0) ae (λ_ _=>rfl)) (aa (pv 1) ag (se rfl)) (se rfl)) (he:=se rfl) (hpl:=na rfl)) (aa ae ag (se rfl)) (se rfl)) (he:=se rfl) (hpl:=na rfl)))
  (ao (aY (aG fS (aG aQ (aG bq (pv 2) (pv 1)) (pv 1)) (pv 2)))))
   ba)
  (ah (bw (aP bG (ar ai (pv 0) ae (λ_ _=>rfl)) a7 (a5 _)) (ao (aY (aG aQ (aG bq (aO eJ (hr.mono ∅) rfl au.pass (aa (pv 0) ag (se rfl)) (he:=se rfl) (hpl:=na rfl)) (aG fS (pv 1) ae)) ae)))
   ba)
  (ao (aY (aO dY (hr.mono ∅) rfl au.pass (aa (pv 0) ag (se rfl)) (he:=se rfl) (hpl:=na rfl))))))),?_⟩
  refine(?_:let bY:TS:=_;let bZ:TS:=_;let b5:TS:=_;let cY:TS:=_;tSeq bY (tSeq bZ (tSeq b5 cY)) _ _ _);intro bY bZ b5 cY;cases p with
  | num n=>
   simp only[uw] at hq;dsimp?[hq,yq];refine⟨_,rfl,?_⟩;rw[if_neg ∅,if_neg ∅];exact⟨.num n,rfl,g,hb,kk⟩
  | cP m s=>
   simp only[uw] at hq;dsimp?[hq,yq];refine⟨_,rfl,?_⟩;rw[if_neg ∅,if_neg ∅];exact⟨.cP m s,rfl,g,hb,kk⟩
theorem kP:aZ ["pool","count","bottom","part"] ["pool"] (aq (top 27)):=⟨rfl,rfl,rfl,∅,rfl,∅,∅⟩
theorem NF (T:Txt K mg aB aH aI aV aE aL aW aM aA aN aX af av):cg P w K mg base (br P w) 4 "check_size" ["pool"] KJ:=by
 have wG:cg P w K mg base (br P w) 3 "part_count" ["part"] KI:=ND T;have dY:cg P w K mg base (br P w) 2 "part_bottom" ["part"] yq:=ES T;refine T.vZ.dJ (λ_ _ _ _ _ _=>gZ λ_=>rfl) λf fd F=>F.Kd kP (λvs H Q E h=>?_) (λcf A outer s H vs Q E hr h=>?_)
 ·obtain⟨_,_,rfl,_⟩:=h;rfl
 ·symm;obtain⟨l,ps,rfl,hp,g,kk⟩:=h;nofun;have nd:=kP.nd;have BN:A.handled=none:=hr.hd;refine⟨_,(ah (aJ (i:=1) nd rfl (.inl rfl) ae)
  (ah (aJ (i:=2) nd rfl (.inl rfl) ae)
  (ah (cS PassesOwn.leaving rfl (bA (K:=K) (pv 0)) (a9 (i:=3) nd rfl (.inl rfl)) (ah (aJ (i:=1) nd rfl (.inl rfl) (aG bq (pv 1) (aO wG (hr.mono ∅) rfl au.pass (aa (pv 3) ag (se rfl)) (he:=se rfl) (hpl:=na rfl))))
  (ao (aJ (i:=2) nd rfl (.inl rfl) (aG bq (pv 2) (aO dY (hr.mono ∅) rfl au.pass (aa (pv 3) ag (se rfl)) (he:=se rfl) (hpl:=na rfl)))))))
  (ao (bw (PW.pt (pw_or (aP kA (pv 1) (mQ rfl T.c_MOST_THROWS) (a5 _)) (pw_or1 (aP kA (pv 2) (mQ rfl T.c_MOST_BOTTOM) (a5 _))))) (ao (eW rfl T.k_TooMany T.x_TooMany BN (aa a7 ag (se rfl)) (he:=se rfl) (hpl:=na rfl)))
   ba))))),?_⟩
  refine(?_:let bY:TS:=_;let bZ:TS:=_;let b5:TS:=_;let cY:TS:=_;tSeq bY (tSeq bZ (tSeq b5 cY)) _ _ _);intro bY bZ b5 cY;symm;obtain⟨xs,hl,al⟩:=hp;nofun;have lx:=al.length;dsimp?[];refine⟨⟨_,bL.of hl⟩,cu (src_list (Ok:=λH'=>H=H') (λH' e=>by subst e;exact bL.of hl)) (λi σ H'=>H=H'/\∃z,σ=[some (.ref l),some (.int ((i5 ((ps.take i).map cnt):Nat):Int)),some (.int ((i5 ((ps.take i).map bot):Nat):Int)),z]) ⟨rfl,_,rfl⟩ (λ_ _ _ _ h=>h.1) ?_ ?_⟩
  ·intro i x σ H' qK hi gN gO;symm;obtain⟨rfl,z,rfl⟩:=gN;obtain⟨rfl,ex⟩:=gO;obtain⟨p,ep,q,rfl,hq⟩:=al.get ex;nofun;obtain⟨ET,zr⟩:=aaI.mp ep;have hm:p∈ps:=by rw[<-zr];exact ZY ET
   symm;obtain⟨gp,c1,b1⟩:=oJ g hm;nofun;have c0:=oG g i;have b0:=oH g i;dsimp?[KI,yq];refine⟨p,hq,gp,b1,bJ (by lia) (by lia),p,hq,gp,b1,bJ (by lia) (by lia),?_,?_,_,rfl⟩
   ·rw[take_snoc ET,zr,ZG,ZC,Z7,g4,aaf]
   ·rw[take_snoc ET,zr,ZG,ZC,Z7,g4,aaf]
  ·intro σ H' dA;symm;obtain⟨rfl,z,rfl⟩:=dA;nofun;rw[lx,ZQ (ZD _)];have c0:=g.2.1;have b0:=g.2.2;dsimp?[];rw[if_neg (by lia),if_neg (by lia)];exact kk
theorem kR:aZ ["dice","sides","found","turn","longer","faces"] ["dice","sides"] (aq (top 28)):=⟨rfl,rfl,rfl,∅,rfl,∅,∅⟩
theorem NG (T:Txt K mg aB aH aI aV aE aL aW aM aA aN aX af av):cg P w K mg base (br P w) 1 "dice_faces" ["dice","sides"] KL:=by
 refine T.wa.dJ (λ_ _ _ _ _ _=>eG λ_ _=>rfl) λf fd F=>F.eC kR (λvs H Q E h=>?_) (λcf A outer s H vs Q E hr h=>?_)
 ·obtain⟨_,_,rfl,_⟩:=h;rfl
 ·symm;obtain⟨d,s',rfl,s1,To,d6,hd,kk⟩:=h;nofun;have nd:=kR.nd;refine⟨_,(ah (aJ (i:=2) nd rfl (.inl rfl) (cb (aa (cb ag) ag (se rfl))))
  (ah (cS PassesOwn.never rfl (cN rfl T.z_range (aa (pv 0) ag (se rfl))) (a9 (i:=3) nd rfl (.inl rfl)) (ah (aJ (i:=4) nd rfl (.inl rfl) (cb ag))
  (ah (cS PassesOwn.never rfl (bA (K:=K) (pv 2)) (a9 (i:=5) nd rfl (.inr rfl)) (ao (b6 (fi Z5 PySem.F.slot_list_extend PySem.F.type_list_extend u6.r (pv 4) (aa (cO rfl (N:=["dice","sides","found","turn","longer","faces"]) (so:=aq (top 28)) (N':=["face","faces"]) (k:=1) (fr:=[5]) rfl rfl ⟨rfl,∅,∅,∅,rfl,∅,∅⟩ (Ci rfl T.z_range (aa ae (aa (aG aQ (pv 1) ae) ag (se rfl)) (se rfl))) (λ_ _ _ _ _=>(a9 (i:=0) (show(["face","faces"]:List Str).Nodup by decide +kernel) rfl (.inl rfl))) (λ_ _ _ _ _=>dH)
   (λ_ _ _ _ _=>(aG zS (pv 1) (cb (aa (pv 0) ag (se rfl)))))) ag (se rfl))))))
  (ao (aJ (i:=2) nd rfl (.inl rfl) (pv 4))))))
  (ao (aY (pv 2))))),?_⟩
  refine(?_:let bY:TS:=_;let bZ:TS:=_;let b5:TS:=_;tSeq bY (tSeq bZ b5) _ _ _);intro bY bZ b5;have sl:=sizeLine_eq;dsimp?[];refine⟨ZM _,λe0 m0=>⟨∅,λl0 n0=>⟨by lia,by lia,?_⟩⟩⟩;have s0:aF H (upd (upd H e0 (.lst [])) l0 (.lst [.ref e0])):=(aD m0).trans (aD n0);refine cu (src_range (Ok:=λ_=>True)) (λi σ H'=>aF H H'/\∃l xs z z' O9,H' l=some (.lst xs)/\Al (Fa H') (Hw s' i) xs/\σ=[some (.int (d:Int)),some (.int (s':Int)),some (.ref l),z,z',O9]) ?_ (λ_ _ _ _ _=>trivial) ?_ ?_
  ·exact⟨s0,l0,_,_,_,_,aj,.one ⟨e0,rfl,aD n0 _ _ aj⟩,rfl⟩
  ·intro i x σ H' qK hi gN gO;symm;obtain⟨sm,l,xs,z,z',O9,hl,al,rfl⟩:=gN;obtain⟨rfl,rfl⟩:=gO;nofun;have lx:=al.length;rw[qI] at lx;have hle:s'^ (i+1)<=1296:=ZN (Nat.pow_le_pow_right s1 (by lia)) hd;have VR:s'^i<=1296:=ZN (Nat.pow_le_pow_right s1 (by lia)) hd;change tSeq _ _ _ _ _;refine dg (λσ' H1=>aF qK H1/\∃m,qK m=none/\H1 m=some (.lst [])/\σ'=[some (.int (d:Int)),some (.int (s':Int)),some (.ref l),some (.int (0+i)),some (.ref m),O9]) ?_ (λN hN=>?_)
   case refine_2=>
    dsimp?[];exact⟨ZM _,λm nm=>hN _ _ ⟨aD nm,m,nm,aj,rfl⟩⟩
   intro _ H1 dA;symm;obtain⟨Gn,m,nm,hm,rfl⟩:=dA;nofun;change tSeq _ _ _ _ _;refine dg (λσ' H2=>aF qK H2/\∃ys,H2 m=some (.lst ys)/\Al (Fa H2) (Hw s' (i+1)) ys/\∃z,σ'=[some (.int (d:Int)),some (.int (s':Int)),some (.ref l),some (.int (0+i)),some (.ref m),z]) ?_ (λN hN=>?_)
   case refine_2=>
    dsimp?[];refine⟨⟨_,bL.of (Gn _ _ hl)⟩,cu (src_list (Ok:=aF qK) (λH2 s2=>bL.of (s2 _ _ hl)))
     (λj σ H2=>aF qK H2/\∃ys z,H2 m=some (.lst ys)/\ys.length=j*s'/\Al (Fa (cX H2 m)) (((Hw s' i).take j).flatMap λf=>(List.range s').map λi:Nat=>f++ [((i:Nat):Int)+1]) ys/\σ=[some (.int (d:Int)),some (.int (s':Int)),some (.ref l),some (.int (0+i)),some (.ref m),z])
     ⟨Gn,[],_,hm,by simp,trivial,rfl⟩ (λ_ _ _ _ h=>h.1) ?_ ?_⟩
    ·intro j x σ H2 H3 hj gN gO;symm;obtain⟨yD,ys,z,vk,ly,ay,rfl⟩:=gN;obtain⟨rfl,ex⟩:=gO;obtain⟨f,ef,q,rfl,hq⟩:=al.get ex;nofun;obtain⟨VS,VT⟩:=aaI.mp ef;have fl:=(wy s' i f (by rw[<-VT];exact ZY VS)).1;have Pa:=yD _ _ hq;dsimp?[vN];refine⟨.inl ⟨rfl,_,bL.of vk⟩,by lia,by lia,by lia,by lia,?_⟩;rw[show((s':Int)+1 - 1).toNat=s' by lia];refine comp_map src_range (λ_ _ _ _ h=>by rw[h.1];exact aF.refl _) (by lia) (λk y H4=>Fa (cX H4 m) (f++ [((k:Nat):Int)+1]) y) (λk y H4 H5 s5 h=>h.mono (gY s5)) ?_ ?_
     ·rintro k x w0 H4 H5 Q2 hk s4 ⟨rfl,rfl⟩ kq;dsimp?[GO];refine⟨∅,λa1 n1=>⟨_,aD n1 _ _ (s4 _ _ Pa),_,aj,by rw[ZA];simp only[ZP,aap];lia,λa2 n2=>kq _ _ ((aD n1).trans (aD n2)) ⟨a2,rfl,?_⟩⟩⟩;have ne:a2≠m:=λe=>by
       subst e;rw[aD n1 _ _ (s4 _ _ vk)] at n2;cases n2
      rw[cV ne,aj,ZG,Int.add_comm];rfl
     ·intro zs H4 s4 lz hz D n1 n2;have VU:=s4 _ _ vk;have jm:j*s'<=s'^ (i+1):=by rw[Nat.pow_succ];exact Nat.mul_le_mul_right _ (by lia)
      have VW:∀{k:Nat},k=j*s'+s'->k<=sizeLine:=λe=>by lia
      refine⟨_,aD n2 _ _ VU,_,aj,VW (by rw[ly,lz]),?_⟩;have s5:aF H3 (upd H4 D (.lst zs)):=s4.trans (aD n2);refine⟨cM (yD.trans s5) nm,_,aj,by rw[ZJ,ly,lz,Nat.succ_mul],?_,_,rfl⟩;rw[BC,Z2,ef,List.flatMap_append];refine Al.append (ay.imp λ_ _ h=>h.mono (gY s5)) ?_;simp only[Option.toList,List.flatMap_cons,List.flatMap_nil,aab];refine Al.of (by rw[ZA,Z9];exact lz) λk y g e1 e2=>?_;rw[ZE] at e2;symm;obtain⟨k',ek,rfl⟩:=aaH.mp e2;nofun;obtain⟨YU,Tp⟩:=aaI.mp ek;rw[List.getElem_range] at Tp;subst Tp;exact(hz _ _ e1).mono (gY (aD n2))
    ·intro σ H2 dA;symm;obtain⟨yD,ys,z,vk,ly,ay,rfl⟩:=dA;nofun;refine hN _ _ ⟨yD,ys,vk,?_,_,rfl⟩;rw[lx,<-qI s' i,ZQ (ZD _)] at ay;exact ay.imp λ_ _ h=>h.mono dh
   intro _ H2 dA;symm;obtain⟨yD,ys,vk,ay,z,rfl⟩:=dA;nofun;dsimp?[]
   first | exact⟨sm.trans yD,m,_,vk,ay,rfl,⟨_,rfl⟩,⟨_,rfl⟩,⟨_,rfl⟩⟩ | exact⟨sm.trans yD,m,_,vk,ay,rfl,_,_,rfl⟩ | exact⟨sm.trans yD,m,_,vk,ay,rfl,⟨_,rfl⟩,_,rfl⟩ | exact⟨sm.trans yD,m,_,vk,ay,rfl,_,rfl⟩
  ·intro σ H' dA;symm;obtain⟨sm,l,xs,z,z',O9,hl,al,rfl⟩:=dA;nofun;rw[ZX] at al;dsimp?[];exact kk _ _ _ sm hl al
theorem sC:aZ ["low","sides","found","face"] ["low","sides"] (aq (top 29)):=⟨rfl,rfl,rfl,∅,rfl,∅,∅⟩
theorem NH (T:Txt K mg aB aH aI aV aE aL aW aM aA aN aX af av):cg P w K mg base (br P w) 1 "again_faces" ["low","sides"] HA:=by
 refine T.ug.dJ (λ_ _ _ _ _ _=>eG λ_ _=>rfl) λf fd F=>F.eC sC (λvs H Q E h=>h.elim) (λcf A outer s H vs Q E hr h=>h.elim)
theorem sE:aZ ["most","sides","found","ahead"] ["most","sides"] (aq (top 30)):=⟨rfl,rfl,rfl,∅,rfl,∅,∅⟩
theorem NI (T:Txt K mg aB aH aI aV aE aL aW aM aA aN aX af av):cg P w K mg base (br P w) 1 "burst_faces" ["most","sides"] HA:=by
 refine T.uh.dJ (λ_ _ _ _ _ _=>eG λ_ _=>rfl) λf fd F=>F.eC sE (λvs H Q E h=>h.elim) (λcf A outer s H vs Q E hr h=>h.elim)
theorem kS:aZ ["part"] ["part"] (aq (top 31)):=⟨rfl,rfl,rfl,∅,rfl,∅,∅⟩
theorem NJ (T:Txt K mg aB aH aI aV aE aL aW aM aA aN aX af av):cg P w K mg base (br P w) 2 "part_faces" ["part"] KN:=by
 have eJ:cg P w K mg base (br P w) 1 "most_faces" ["part"] EF:=ER T;have wH:cg P w K mg base (br P w) 1 "dice_faces" ["dice","sides"] KL:=NG T;have uz:cg P w K mg base (br P w) 1 "again_faces" ["low","sides"] HA:=NH T;have uA:cg P w K mg base (br P w) 1 "burst_faces" ["most","sides"] HA:=NI T;refine T.wb.dJ (λ_ _ _ _ _ _=>gZ λ_=>rfl) λf fd F=>F.eC kS (λvs H Q E h=>?_) (λcf A outer s H vs Q E hr h=>?_)
 ·obtain⟨_,_,rfl,_⟩:=h;rfl
 ·symm;obtain⟨q,p,rfl,hq,g,hc,kk⟩:=h;nofun;have nd:=kS.nd;refine⟨_,(ah (bw (aP bG (ar ai (pv 0) ae (λ_ _=>rfl)) a7 (a5 _)) (ao (aY (cb (aa (cb ag) ag (se rfl)))))
   ba)
  (ah (bw (aP bG (ar ai (pv 0) ae (λ_ _=>rfl)) a7 (a5 _)) (ao (aY (aO uz (hr.mono ∅) rfl au.pass (aa (ar ai (pv 0) ae (λ_ _=>rfl)) (aa (ar ai (pv 0) ae (λ_ _=>rfl)) ag (se rfl)) (se rfl)) (he:=se rfl) (hpl:=na rfl))))
   ba)
  (ah (bw (aP bG (ar ai (pv 0) ae (λ_ _=>rfl)) a7 (a5 _)) (ao (aY (aO uA (hr.mono ∅) rfl au.pass (aa (aO eJ (hr.mono ∅) rfl au.pass (aa (pv 0) ag (se rfl)) (he:=se rfl) (hpl:=na rfl)) (aa (ar ai (pv 0) ae (λ_ _=>rfl)) ag (se rfl)) (se rfl)) (he:=se rfl) (hpl:=na rfl))))
   ba)
  (ao (aY (aO wH (hr.mono ∅) rfl au.pass (aa (ar ai (pv 0) (iF fc ae) (λ_ _=>rfl)) (aa (ar ai (pv 0) (iF fc ae) (λ_ _=>rfl)) ag (se rfl)) (se rfl)) (he:=se rfl) (hpl:=na rfl))))))),?_⟩
  refine(?_:let bY:TS:=_;let bZ:TS:=_;let b5:TS:=_;let cY:TS:=_;tSeq bY (tSeq bZ (tSeq b5 cY)) _ _ _);intro bY bZ b5 cY;cases p with
  | num n=>
   simp only[uw] at hq;dsimp?[hq];refine⟨ZM _,λe0 m0=>⟨∅,λl0 n0=>kk _ _ _ ((aD m0).trans (aD n0)) aj (.one ⟨e0,rfl,aD n0 _ _ aj⟩)⟩⟩
  | cP m s=>
   simp only[uw] at hq;dsimp?[hq,KL];rw[if_neg ∅,if_neg ∅,if_neg ∅];refine⟨_,rfl,_,rfl,m,rfl,s,rfl,g.1,g.2.1,g.2.2,hc,kk⟩
theorem pO:aZ ["part","faces"] ["part","faces"] (aq (top 32)):=⟨rfl,rfl,rfl,∅,rfl,∅,∅⟩
theorem NK (T:Txt K mg aB aH aI aV aE aL aW aM aA aN aX af av):cg P w K mg base (br P w) 1 "value_of" ["part","faces"] KO:=by
 refine T.Ao.dJ (λ_ _ _ _ _ _=>eG λ_ _=>rfl) λf fd F=>F.eC pO (λvs H Q E h=>?_) (λcf A outer s H vs Q E hr h=>?_)
 ·obtain⟨_,_,_,_,rfl,_⟩:=h;rfl
 ·symm;obtain⟨q,p,l,fs,rfl,hq,hl,g,hf,kk⟩:=h;nofun;have nd:=pO.nd;refine⟨_,(ah (bw (aP bG (ar ai (pv 0) ae (λ_ _=>rfl)) a7 (a5 _)) (ao (aY (ar ai (pv 0) ae (λ_ _=>rfl))))
   ba)
  (ah (bw (aP bG (ar ai (pv 0) ae (λ_ _=>rfl)) a7 (a5 _)) (ao (aY (a8 (i4 (K:=K)) (by rfl) T.z_sum rfl (aa (mE (rF (K:=K)) (CK (K:=K) rfl T.z_sorted (pv 1) ky (n1:=rfl)) vI (mD (ar ai (pv 0) ae (λ_ _=>rfl)))) ag (se rfl)) (he:=se rfl) (hpl:=na rfl))))
   ba)
  (ah (bw (aP bG (ar ai (pv 0) ae (λ_ _=>rfl)) a7 (a5 _)) (ao (aY (a8 (i4 (K:=K)) (by rfl) T.z_sum rfl (aa (mE (rF (K:=K)) (a8 (rD (K:=K)) (by rfl) T.z_sorted rfl (aa (pv 1) ag (se rfl)) (he:=se rfl) (hpl:=na rfl)) vI (mD (ar ai (pv 0) ae (λ_ _=>rfl)))) ag (se rfl)) (he:=se rfl) (hpl:=na rfl))))
   ba)
  (ah (bw (aP bG (ar ai (pv 0) ae (λ_ _=>rfl)) a7 (a5 _)) (ao (aY (a8 bO (by rfl) T.z_len ZT (aa (cO rfl (N:=["part","faces"]) (so:=aq (top 32)) (N':=["face","part"]) (k:=1) (fr:=[0]) rfl rfl ⟨rfl,∅,∅,∅,rfl,∅,∅⟩ (bA (K:=K) (pv 1)) (λ_ _ _ _ _=>(a9 (i:=0) (show(["face","part"]:List Str).Nodup by decide +kernel) rfl (.inl rfl))) (λ_ _ _ _ _=>(eF (aP A8 (pv 0) (ar ai (pv 1) ae (λ_ _=>rfl)) (a5 _))))
   (λ_ _ _ _ _=>(pv 0))) ag (se rfl)) (he:=se rfl) (hpl:=na rfl))))
   ba)
  (ah (bw (aP bG (ar ai (pv 0) ae (λ_ _=>rfl)) a7 (a5 _)) (ao (aY (ar a4 (pv 1) (iF fc ae) (λ_ _=>rfl))))
   ba)
  (ao (aY (a8 (i4 (K:=K)) (by rfl) T.z_sum rfl (aa (pv 1) ag (se rfl)) (he:=se rfl) (hpl:=na rfl))))))))),?_⟩
  refine(?_:let bY:TS:=_;let bZ:TS:=_;let b5:TS:=_;let cY:TS:=_;let pP:TS:=_;let yE:TS:=_;tSeq bY (tSeq bZ (tSeq b5 (tSeq cY (tSeq pP yE)))) _ _ _);intro bY bZ b5 cY pP yE;have sl:=sizeLine_eq;have fl:=(mV g fs hf).2;have ml:=rY g;cases p with
  | num n=>
   simp only[uw] at hq;dsimp?[hq];exact kk _ (aF.refl _)
  | cP m s=>
   simp only[uw] at hq;dsimp?[hq];rw[if_neg ∅,if_neg ∅,if_neg ∅,if_neg ∅,if_neg ∅];exact⟨fs,bL.of hl,kk _ (aF.refl _)⟩
theorem g5:aZ ["part","faces","product","face"] ["part","faces"] (aq (top 33)):=⟨rfl,rfl,rfl,∅,rfl,∅,∅⟩
theorem NL (T:Txt K mg aB aH aI aV aE aL aW aM aA aN aX af av):cg P w K mg base (br P w) 1 "sides_product" ["part","faces"] KP:=by
 refine T.p8.dJ (λ_ _ _ _ _ _=>eG λ_ _=>rfl) λf fd F=>F.eC g5 (λvs H Q E h=>?_) (λcf A outer s H vs Q E hr h=>?_)
 ·obtain⟨_,_,_,_,rfl,_⟩:=h;rfl
 ·symm;obtain⟨q,p,l,fs,rfl,hq,hl,g,hf,kk⟩:=h;nofun;have nd:=g5.nd;refine⟨_,(ah (aJ (i:=2) nd rfl (.inl rfl) ae)
  (ah (cS PassesOwn.never rfl (bA (K:=K) (pv 1)) (a9 (i:=3) nd rfl (.inl rfl)) (ao (aJ (i:=2) nd rfl (.inl rfl) (aG bq (pv 2) (ar ai (pv 0) (iF fc ae) (λ_ _=>rfl))))))
  (ao (aY (pv 2))))),?_⟩
  refine(?_:let bY:TS:=_;let bZ:TS:=_;let b5:TS:=_;tSeq bY (tSeq bZ b5) _ _ _);intro bY bZ b5;have fl:=(mV g fs hf).2;have ml:=rY g;have YV:=KE g;have To:=(wA g).2;have e0:0<fs.length->lst p=sd p:=λh=>by
   cases p with
   | num n=>rw[aaK.mp hf] at h;cases h
   | _=>rfl
  dsimp?[];refine⟨⟨_,bL.of hl⟩,cu (src_list (Ok:=λH'=>H=H') (λH' e=>by subst e;exact bL.of hl)) (λi σ H'=>H=H'/\∃z,σ=[some (.ref q),some (.ref l),some (.int ((sd p^i:Nat):Int)),z]) ⟨rfl,_,rfl⟩ (λ_ _ _ _ h=>h.1) ?_ ?_⟩
  ·intro i x σ H' qK hi gN gO;symm;obtain⟨rfl,z,rfl⟩:=gN;obtain⟨rfl,ex⟩:=gO;nofun;rw[ZA] at hi;have le:=CS (e:=i) To (by lia);have e1:=e0 (by lia);dsimp?[];refine⟨_,hq,_,EE p,?_⟩;dsimp?[];refine⟨bJ (by lia) (by lia),?_,_,rfl⟩;rw[Nat.pow_succ,aaf,e1]
  ·intro σ H' dA;symm;obtain⟨rfl,z,rfl⟩:=dA;nofun;rw[ZA];dsimp?[];exact kk
theorem ja:aZ ["part"] ["part"] (aq (top 34)):=⟨rfl,rfl,rfl,∅,rfl,∅,∅⟩
theorem NM (T:Txt K mg aB aH aI aV aE aL aW aM aA aN aX af av):cg P w K mg base (br P w) 3 "part_throws" ["part"] KQ:=by
 have wI:cg P w K mg base (br P w) 2 "part_faces" ["part"] KN:=NJ T;have Ay:cg P w K mg base (br P w) 1 "value_of" ["part","faces"] KO:=NK T;have qe:cg P w K mg base (br P w) 1 "sides_product" ["part","faces"] KP:=NL T;refine T.ui.dJ (λ_ _ _ _ _ _=>gZ λ_=>rfl) λf fd F=>F.eC ja (λvs H Q E h=>?_) (λcf A outer s H vs Q E hr h=>?_)
 ·obtain⟨_,_,rfl,_⟩:=h;rfl
 ·symm;obtain⟨q,p,rfl,hq,g,hc,kk⟩:=h;nofun;have nd:=ja.nd;refine⟨_,(ao (aY (cO rfl (N:=["part"]) (so:=aq (top 34)) (N':=["faces","part"]) (k:=1) (fr:=[0]) rfl rfl ⟨rfl,∅,∅,∅,rfl,∅,∅⟩ (bA (K:=K) (aO wI (hr.mono ∅) rfl au.pass (aa (pv 0) ag (se rfl)) (he:=se rfl) (hpl:=na rfl))) (λ_ _ _ _ _=>(a9 (i:=0) (show(["faces","part"]:List Str).Nodup by decide +kernel) rfl (.inl rfl))) (λ_ _ _ _ _=>dH)
   (λ_ _ _ _ _=>(bf (aa (pv 0) (aa (aO Ay (hr.mono ∅) rfl au.pass (aa (pv 1) (aa (pv 0) ag (se rfl)) (se rfl)) (he:=se rfl) (hpl:=na rfl)) (aa (aO qe (hr.mono ∅) rfl au.pass (aa (pv 1) (aa (pv 0) ag (se rfl)) (se rfl)) (he:=se rfl) (hpl:=na rfl)) ag (se rfl)) (se rfl)) (se rfl))))))),?_⟩
  have sl:=sizeLine_eq;dsimp?[KN];refine⟨p,hq,g,hc,λl H1 xs s1 hl al=>⟨⟨_,bL.of hl⟩,?_⟩⟩;have lx:=al.length;rw[mU] at lx;refine comp_map (src_list (λH2 s2=>bL.of (s2 _ _ hl))) (λ_ _ _ _ h=>by rw[h.1];exact aF.refl _) (by lia) (λi y H2=>∀f,(Hx p)[i]?=some f->TR (λ_=>none) H2 (f,val p f,sd p^f.length) y) (λi y H2 H3 s3 h f e=>(h f e).mono s3) ?_ ?_
  ·rintro i x w0 H2 H3 Q2 hi s2 ⟨rfl,ex⟩ kq;symm;obtain⟨fs,ef,b,rfl,hb⟩:=al.get ex;nofun;have hf:fs∈Hx p:=ZS ef;have Pa:=s2 _ _ (s1 _ _ hq);have Q8:=s2 _ _ hb;dsimp?[KO,KP];refine⟨p,Pa,fs,Q8,g,hf,λH4 s4=>⟨p,s4 _ _ Pa,fs,s4 _ _ Q8,g,hf,∅,λa H5 s5 na e5=>kq _ _ (s4.trans s5) λf e=>?_⟩⟩;rw[ef] at e;cases e;exact⟨a,b,rfl,e5,s5 _ _ (s4 _ _ Q8),rfl⟩
  ·intro ys H2 s2 ly hy D n1 n2;refine kk _ _ _ (s1.trans (s2.trans (aD n2))) aj ?_;refine Al.of (by unfold Gg;rw[ZA,mU];lia) λi y r e1 e2=>?_;unfold Gg at e2;rw[ZE] at e2;symm;obtain⟨f,ef,rfl⟩:=aaH.mp e2;nofun;exact(hy i y e1 f ef).mono (aD n2)
theorem fz:aZ ["pool","found","part","behind","longer","faces","value","bottom"] ["pool"] (aq (top 35)):=⟨rfl,rfl,rfl,∅,rfl,∅,∅⟩
theorem NN (T:Txt K mg aB aH aI aV aE aL aW aM aA aN aX af av):cg P w K mg base (br P w) 5 "throws_by_bottom" ["pool"] KR:=by
 have wJ:cg P w K mg base (br P w) 4 "check_size" ["pool"] KJ:=NF T;have uB:cg P w K mg base (br P w) 3 "part_throws" ["part"] KQ:=NM T;refine T.lH.dJ (λ_ _ _ _ _ _=>gZ λ_=>rfl) λf fd F=>F.eC fz (λvs H Q E h=>?_) (λcf A outer s H vs Q E hr h=>?_)
 ·obtain⟨_,_,rfl,_⟩:=h;rfl
 ·symm;obtain⟨a,ps,rfl,hp,g,l4,kk⟩:=h;nofun;clear G_;have nd:=fz.nd;refine⟨_,(ah (b6 (aO wJ (hr.mono ∅) rfl au.pass (aa (pv 0) ag (se rfl)) (he:=se rfl) (hpl:=na rfl)))
  (ah (aJ (i:=1) nd rfl (.inl rfl) (cb (aa (bf (aa (cb ag) (aa ae (aa ae ag (se rfl)) (se rfl)) (se rfl))) ag (se rfl))))
  (ah (cS PassesOwn.never rfl (bA (K:=K) (pv 0)) (a9 (i:=2) nd rfl (.inl rfl)) (ah (aJ (i:=3) nd rfl (.inl rfl) (aO uB (hr.mono ∅) rfl au.pass (aa (pv 2) ag (se rfl)) (he:=se rfl) (hpl:=na rfl)))
  (ah (aJ (i:=4) nd rfl (.inl rfl) (cb ag))
  (ah (cS PassesOwn.never rfl (bA (K:=K) (pv 1)) (fJ (K:=K) (n:=3) rfl (bX (a9 (i:=5) nd rfl (.inr rfl)) (bX (a9 (i:=6) nd rfl (.inr rfl)) (bX (a9 (i:=7) nd rfl (.inr rfl)) fI)))) (ao (b6 (fi Z5 PySem.F.slot_list_extend PySem.F.type_list_extend u6.r (pv 4) (aa (cO rfl (N:=["pool","found","part","behind","longer","faces","value","bottom"]) (so:=aq (top 35)) (N':=["more","faces","value","bottom"]) (k:=1) (fr:=[5,6,7]) rfl rfl ⟨rfl,∅,∅,∅,rfl,∅,∅⟩ (bA (K:=K) (pv 3)) (λ_ _ _ _ _=>(a9 (i:=0) (show(["more","faces","value","bottom"]:List Str).Nodup by decide +kernel) rfl (.inl rfl))) (λ_ _ _ _ _=>dH)
   (λ_ _ _ _ _=>(bf (aa (aG zS (pv 1) (ar ai (pv 0) ae (λ_ _=>rfl))) (aa (aG aQ (pv 2) (ar ai (pv 0) ae (λ_ _=>rfl))) (aa (aG bq (pv 3) (ar ai (pv 0) ae (λ_ _=>rfl))) ag (se rfl)) (se rfl)) (se rfl))))) ag (se rfl))))))
  (ao (aJ (i:=1) nd rfl (.inl rfl) (pv 4)))))))
  (ao (aY (pv 1)))))),?_⟩
  refine(?_:let bY:TS:=_;let bZ:TS:=_;let b5:TS:=_;let cY:TS:=_;tSeq bY (tSeq bZ (tSeq b5 cY)) _ _ _);intro bY bZ b5 cY;have sl:=sizeLine_eq;symm;obtain⟨vs,ha,ap⟩:=hp;nofun;clear G_;have lv:=ap.length;change tSeq _ _ _ _ _;refine dg (λσ' H1=>H=H1/\σ'=[some (.ref a),none,none,none,none,none,none,none]) ?_ (λN hN=>?_)
  case refine_2=>
   dsimp?[KJ];exact⟨ps,⟨vs,ha,ap⟩,g,hN _ _ ⟨rfl,rfl⟩⟩
  rintro _ _ ⟨rfl,rfl⟩;change tSeq _ _ _ _ _;refine dg (λσ' H1=>aF H H1/\∃l xs,H1 l=some (.lst xs)/\Al (TR H H1) (dN []) xs/\σ'=[some (.ref a),some (.ref l),none,none,none,none,none,none]) ?_ (λN hN=>?_)
  case refine_2=>
   dsimp?[];refine⟨ZM _,λe0 m0=>⟨∅,λt H1 s1 nt e1=>⟨∅,λl n1=>hN _ _ ⟨(aD m0).trans (s1.trans (aD n1)),l,_,aj,.one ⟨t,e0,rfl,aD n1 _ _ e1,aD n1 _ _ (s1 _ _ aj),m0⟩,rfl⟩⟩⟩⟩
  intro _ H1 dA;symm;obtain⟨Gn,l,xs,hl,al,rfl⟩:=dA;nofun;clear G_;change tSeq _ _ _ _ _;refine dg (λσ' H2=>aF H H2/\∃l xs,H2 l=some (.lst xs)/\Al (TR H H2) (dN ps) xs/\∃z1 z2 z3 z4 z5 z6,σ'=[some (.ref a),some (.ref l),z1,z2,z3,z4,z5,z6]) ?_ (λN hN=>?_)
  case refine_2=>
   dsimp?[];refine⟨⟨_,bL.of (Gn _ _ ha)⟩,cu (src_list (Ok:=aF H) (λH2 s2=>bL.of (s2 _ _ ha)))
    (λi σ H2=>aF H H2/\∃l xs z1 z2 z3 z4 z5 z6,H2 l=some (.lst xs)/\Al (TR H H2) (dN (ps.take i)) xs/\σ=[some (.ref a),some (.ref l),z1,z2,z3,z4,z5,z6])
    ⟨Gn,l,xs,_,_,_,_,_,_,hl,al,rfl⟩ (λ_ _ _ _ h=>h.1) ?_ ?_⟩
   ·clear hl al xs l;intro i x σ H2 H3 hi gN gO;symm;obtain⟨yD,l,xs,z1,z2,z3,z4,z5,z6,hl,al,rfl⟩:=gN;obtain⟨rfl,ex⟩:=gO;obtain⟨p,ep,q,rfl,hq⟩:=ap.get ex;nofun;obtain⟨ET,zr⟩:=aaI.mp ep;have hm:p∈ps:=by rw[<-zr];exact ZY ET
    symm;obtain⟨gp,c1,b1⟩:=oJ g hm;nofun;have lx:=al.length;rw[qJ] at lx;have c0:=oG g i;have c2:=oG g (i+1);have es:dN (ps.take (i+1))=zk (dN (ps.take i)) p:=by rw[take_snoc ET,zr,rZ]
    have ec:i5 ((ps.take (i+1)).map cnt)=i5 ((ps.take i).map cnt)*cnt p:=by rw[take_snoc ET,zr,ZG,ZC,Z7,g4]
    rw[ec] at c2;change tSeq _ _ _ _ _;refine dg (λσ' H4=>aF H3 H4/\∃b bs,H4 b=some (.lst bs)/\Al (TR (λ_=>none) H4) (Gg p) bs/\σ'=[some (.ref a),some (.ref l),some (.ref q),some (.ref b),z3,z4,z5,z6]) ?_ (λN hN=>?_)
    case refine_2=>
     dsimp?[KQ];exact⟨p,yD _ _ hq,gp,c1,λb H4 bs s4 hb ab=>hN _ _ ⟨s4,b,bs,hb,ab,rfl⟩⟩
    intro _ H4 dA;symm;obtain⟨Pb,b,bs,hb,ab,rfl⟩:=dA;nofun;have lb:=ab.length;unfold Gg at lb;rw[ZA,mU] at lb;have hl:=Pb _ _ hl;have al:=al.imp λ_ _ h=>TR.mono Pb h;change tSeq _ _ _ _ _;refine dg (λσ' H5=>aF H4 H5/\∃m,H4 m=none/\H5 m=some (.lst [])/\σ'=[some (.ref a),some (.ref l),some (.ref q),some (.ref b),some (.ref m),z4,z5,z6]) ?_ (λN hN=>?_)
    case refine_2=>
     dsimp?[];exact⟨ZM _,λm nm=>hN _ _ ⟨aD nm,m,nm,aj,rfl⟩⟩
    intro _ H5 dA;symm;obtain⟨Tq,m,nm,VX,rfl⟩:=dA;nofun;change tSeq _ _ _ _ _;refine dg (λσ' H6=>aF H4 H6/\∃ys,H6 m=some (.lst ys)/\Al (TR H H6) (zk (dN (ps.take i)) p) ys/\∃z4 z5 z6,σ'=[some (.ref a),some (.ref l),some (.ref q),some (.ref b),some (.ref m),z4,z5,z6]) ?_ (λN hN=>?_)
    case refine_2=>
     dsimp?[];refine⟨⟨_,bL.of (Tq _ _ hl)⟩,cu (src_list (Ok:=aF H4) (λH2 s2=>bL.of (s2 _ _ hl)))
      (λj σ H6=>aF H4 H6/\∃ys z4 z5 z6,H6 m=some (.lst ys)/\ys.length=j*cnt p/\Al (TR H (cX H6 m)) (zk ((dN (ps.take i)).take j) p) ys/\σ=[some (.ref a),some (.ref l),some (.ref q),some (.ref b),some (.ref m),z4,z5,z6])
      ⟨Tq,[],_,_,_,VX,by simp,trivial,rfl⟩ (λ_ _ _ _ h=>h.1) ?_ ?_⟩
     ·intro j x σ H6 H7 hj gN gO;symm;obtain⟨EU,ys,z4,z5,z6,Je,ly,ay,rfl⟩:=gN;obtain⟨rfl,ex⟩:=gO;obtain⟨r,er,t,fq,rfl,ht,Q9,YW⟩:=al.get ex;nofun;have Ak:=BB g.1 i (by lia) r (ZS er);have ht:=EU _ _ ht;have Q9:=EU _ _ Q9;have Tr:=EU _ _ hb;have b0:=oH g i;refine⟨t,_,rfl,kz.of ht,rfl,_,_,rfl,_,_,rfl,_,_,rfl,rfl,?_⟩;dsimp?[vN];refine⟨.inl ⟨rfl,_,bL.of Je⟩,⟨_,bL.of Tr⟩,?_⟩;refine comp_map (src_list (λH2 s2=>bL.of (s2 _ _ Tr))) (λ_ _ _ _ h=>by rw[h.1];exact aF.refl _) (by lia) (λk y H8=>∀u,(Gg p)[k]?=some u->TR H (cX H8 m) (r.1++u.1,r.2.1+u.2.1,r.2.2*u.2.2) y) (λk y H8 H9 s9 h u e=>(h u e).mono (gY s9)) ?_ ?_
      ·rintro k x w0 H8 H9 Q2 hk s8 ⟨rfl,ex⟩ kq;symm;obtain⟨u,eu,c,d,rfl,hc,hd,_⟩:=ab.get ex;nofun;have Ts:=s8 _ _ (EU _ _ hc);have VY:=s8 _ _ (EU _ _ hd);have Ra:=s8 _ _ Q9;have lu:u.1.length<=7:=by
        have hu:=ZS eu;unfold Gg at hu;symm;obtain⟨f,hf,rfl⟩:=aaJ.mp hu;nofun;exact ZN (mV gp f hf).2 (rY gp)
       dsimp?[GO,Ts,VY,Ra];refine⟨by rw[ZA,ZA];lia,λa1 n1=>?_⟩;have s9:=aD (o:=.lst (List.map V.int r.1++List.map V.int u.1)) n1;simp only[s9 _ _ Ts];refine⟨_,rfl,_,at1,_,rfl,_,rfl,_,at2,_,rfl,bJ (by lia) (by lia),∅,λt2 HJ BO Tt Tn=>kq _ _ (s9.trans BO) λu' Tu=>?_⟩;rw[eu] at Tu;cases Tu;have VZ:=s9 _ _ (s8 _ _ Je);refine⟨t2,a1,rfl,?_,?_,?_⟩
       ·rw[cV (λe=>by rw[e,VZ] at Tt;cases Tt),Tn,aaf]
       ·rw[cV (λe=>by rw[e,s8 _ _ Je] at n1;cases n1),BO _ _ aj,ZG]
       ·exact none_of (yD.trans (Pb.trans (EU.trans s8))) n1
      ·intro zs H8 s8 lz hz D n1 n2;have V0:=s8 _ _ Je;have jm:j*cnt p+cnt p<=i5 ((ps.take i).map cnt)*cnt p:=by
        rw[<-Nat.succ_mul];exact Nat.mul_le_mul_right _ (by lia)
       refine⟨_,aD n2 _ _ V0,_,aj,by lia,?_⟩;have s9:aF H7 (upd H8 D (.lst zs)):=s8.trans (aD n2);refine⟨cM (EU.trans s9) nm,_,aj,by rw[ZJ,ly,lz,lb,Nat.succ_mul],?_,_,rfl⟩;rw[BC,Z2,er];unfold zk;rw[List.flatMap_append];refine Al.append (ay.imp λ_ _ h=>h.mono (gY s9)) ?_;simp only[Option.toList,List.flatMap_cons,List.flatMap_nil,aab];refine Al.of (by rw[ZA];unfold Gg;rw[ZA,mU];lia) λk y v e1 e2=>?_;rw[ZE] at e2;symm;obtain⟨u,eu,rfl⟩:=aaH.mp e2;nofun;exact(hz _ _ e1 u eu).mono (gY (aD n2))
     ·intro σ H6 dA;symm;obtain⟨EU,ys,z4,z5,z6,Je,ly,ay,rfl⟩:=dA;nofun;refine hN _ _ ⟨EU,ys,Je,?_,_,_,_,rfl⟩;rw[lx,<-qJ,ZQ (ZD _)] at ay;exact ay.imp λ_ _ h=>h.mono dh
    intro _ H6 dA;symm;obtain⟨EU,ys,Je,ay,z4,z5,z6,rfl⟩:=dA;nofun;dsimp?[];rw[es];exact⟨yD.trans (Pb.trans EU),m,_,Je,ay,rfl,_,rfl⟩
   ·intro σ H2 dA;symm;obtain⟨yD,l,xs,z1,z2,z3,z4,z5,z6,hl,al,rfl⟩:=dA;nofun;rw[lv,ZQ (ZD _)] at al;exact hN _ _ ⟨yD,l,xs,hl,al,_,_,_,_,_,_,rfl⟩
  intro _ H2 dA;symm;obtain⟨yD,l,xs,hl,al,z1,z2,z3,z4,z5,z6,rfl⟩:=dA;nofun;dsimp?[];exact kk _ _ _ yD hl al
theorem kT:aZ ["pool","found","common","part"] ["pool"] (aq (top 36)):=⟨rfl,rfl,rfl,∅,rfl,∅,∅⟩
theorem NO (T:Txt K mg aB aH aI aV aE aL aW aM aA aN aX af av):cg P w K mg base (br P w) 6 "pool_table" ["pool"] KU:=by
 have lN:cg P w K mg base (br P w) 5 "throws_by_bottom" ["pool"] KR:=NN T;have dY:cg P w K mg base (br P w) 2 "part_bottom" ["part"] yq:=ES T;have Az:cg P w K mg base (br P w) 4 "table_of" ["rows"] (KD aI):=NB T;refine T.wc.dJ (λ_ _ _ _ _ _=>gZ λ_=>rfl) λf fd F=>F.eC kT (λvs H Q E h=>?_) (λcf A outer s H vs Q E hr h=>?_)
 ·obtain⟨_,_,rfl,_⟩:=h;rfl
 ·symm;obtain⟨a,ps,rfl,hp,gl,l4,kk⟩:=h;nofun;clear G_;have nd:=kT.nd;refine⟨_,(ah (aJ (i:=1) nd rfl (.inl rfl) (aO lN (hr.mono ∅) rfl au.pass (aa (pv 0) ag (se rfl)) (he:=se rfl) (hpl:=na rfl)))
  (ah (aJ (i:=2) nd rfl (.inr rfl) ae)
  (ah (cS PassesOwn.never rfl (bA (K:=K) (pv 0)) (a9 (i:=3) nd rfl (.inl rfl)) (ao (aJ (i:=2) nd rfl (.inr rfl) (aG bq (pv 2) (aO dY (hr.mono ∅) rfl au.pass (aa (pv 3) ag (se rfl)) (he:=se rfl) (hpl:=na rfl))))))
  (ao (aY (aO Az (hr.mono ∅) rfl au.pass (aa (cO rfl (N:=["pool","found","common","part"]) (so:=aq (top 36)) (N':=["faces","value","bottom","common"]) (k:=3) (fr:=[2]) rfl rfl ⟨rfl,∅,∅,∅,rfl,∅,∅⟩ (bA (K:=K) (pv 1)) (λ_ _ _ _ _=>(fJ (K:=K) (n:=3) rfl (bX (a9 (i:=0) (show(["faces","value","bottom","common"]:List Str).Nodup by decide +kernel) rfl (.inl rfl)) (bX (a9 (i:=1) (show(["faces","value","bottom","common"]:List Str).Nodup by decide +kernel) rfl (.inl rfl)) (bX (a9 (i:=2) (show(["faces","value","bottom","common"]:List Str).Nodup by decide +kernel) rfl (.inl rfl)) fI))))) (λ_ _ _ _ _=>dH)
   (λ_ _ _ _ _=>(bf (aa (pv 1) (aa (aG mI (pv 3) (pv 2)) ag (se rfl)) (se rfl))))) ag (se rfl)) (he:=se rfl) (hpl:=na rfl))))))),?_⟩
  refine(?_:let bY:TS:=_;let bZ:TS:=_;let b5:TS:=_;let cY:TS:=_;tSeq bY (tSeq bZ (tSeq b5 cY)) _ _ _);intro bY bZ b5 cY;have sl:=sizeLine_eq;have gm:=yr gl;symm;obtain⟨vs,ha,ap⟩:=id hp;nofun;clear G_;have lv:=ap.length;change tSeq _ _ _ _ _;refine dg (λσ' H1=>aF H H1/\∃l xs,H1 l=some (.lst xs)/\Al (TR H H1) (dN ps) xs/\σ'=[some (.ref a),some (.ref l),none,none]) ?_ (λN hN=>?_)
  case refine_2=>
   dsimp?[KR];exact⟨ps,hp,gm,l4,λl H1 xs s1 hl al=>hN _ _ ⟨s1,l,xs,hl,al,rfl⟩⟩
  intro _ H1 dA;symm;obtain⟨Gn,l,xs,hl,al,rfl⟩:=dA;nofun;clear G_;have lx:=al.length;rw[qJ] at lx;change tSeq _ _ _ _ _;refine dg (λσ' H2=>H1=H2/\σ'=[some (.ref a),some (.ref l),some (.int 1),none]) ?_ (λN hN=>?_)
  case refine_2=>
   dsimp?[];exact hN _ _ ⟨rfl,rfl⟩
  rintro _ _ ⟨rfl,rfl⟩;change tSeq _ _ _ _ _;refine dg (λσ' H2=>H1=H2/\∃z,σ'=[some (.ref a),some (.ref l),some (.int (i5 (ps.map bot):Int)),z]) ?_ (λN hN=>?_)
  case refine_2=>
   dsimp?[];refine⟨⟨_,bL.of (Gn _ _ ha)⟩,cu (src_list (Ok:=λH'=>H1=H') (λH' e=>by subst e;exact bL.of (Gn _ _ ha))) (λi σ H'=>H1=H'/\∃z,σ=[some (.ref a),some (.ref l),some (.int (i5 ((ps.take i).map bot):Int)),z]) ⟨rfl,_,rfl⟩ (λ_ _ _ _ h=>h.1) ?_ ?_⟩
   ·intro i x σ H' qK hi gN gO;symm;obtain⟨rfl,z,rfl⟩:=gN;obtain⟨rfl,ex⟩:=gO;obtain⟨p,ep,q,rfl,hq⟩:=ap.get ex;nofun;obtain⟨ET,zr⟩:=aaI.mp ep;symm;obtain⟨gp,c1,b1⟩:=oJ gm (ZS ep);nofun;have b0:=oH gm i;dsimp?[yq];refine⟨p,Gn _ _ hq,gp,b1,bJ (by lia) (by lia),?_,_,rfl⟩;rw[take_snoc ET,zr,ZG,ZC,Z7,g4,aaf]
   ·intro σ H' dA;symm;obtain⟨rfl,z,rfl⟩:=dA;nofun;rw[lv,ZQ (ZD _)];exact hN _ _ ⟨rfl,_,rfl⟩
  intro _ _ dA;symm;obtain⟨rfl,z,rfl⟩:=dA;have c0:=gm.2.1;have bW:=gm.2.2;obtain⟨V1,V2,V3,_⟩:=wB ps gl;nofun;clear G_;have dv:∀r∈dN ps,1<=r.2.2/\r.2.2<=i5 (ps.map bot):=λr Ak=>by
   have:=BB gm.1 ps.length (ZD _) r (by rw[ZQ (ZD _)];exact Ak);rw[ZQ (ZD _)] at this;exact this.2
  have nb:=KS gl;have V4:HB (i5 (ps.map bot)) (dN ps)=BD ps:=rfl;generalize hW:i5 (ps.map bot)=W at *;dsimp?[KD];refine⟨⟨_,bL.of hl⟩,?_⟩;refine CJ (K:=K) (src_list (λH2 s2=>bL.of (s2 _ _ hl))) (λi u v b' H2=>∃r,(dN ps)[i]?=some r/\v=.int r.2.1/\b'=.int (r.2.2:Int)) ?_ (by lia)
   (λi y H2=>∀r,(dN ps)[i]?=some r->Rep H2 (dM (r.2.1,((W / r.2.2:Nat):Int))) y) (λi y H2 H3 s3 h r e=>(h r e).mono s3) ?_ ?_
  ·rintro i x H2 H3 hi s2 ⟨rfl,ex⟩;symm;obtain⟨r,er,t,q,rfl,ht,hq,nq⟩:=al.get ex;nofun;exact⟨aF.refl _,t,_,_,_,rfl,kz.of (s2 _ _ ht),r,er,rfl,rfl⟩
  ·intro i u v b' H2 Q2 hi s2 V5 kq;symm;obtain⟨r,er,rfl,rfl⟩:=V5;nofun;have hb:=dv r (ZS er);dsimp?[];refine⟨mH.of (n:=64) (by lia) (Bt.of 1000000 (by lia) (by lia)),∅,λt H3 s3 nt e3=>kq _ _ s3 λr' Jf=>?_⟩;rw[er] at Jf;cases Jf;rw[<-Int.natCast_ediv] at e3;exact cA.mpr ⟨t,rfl,e3⟩
  ·intro ys H2 s2 ly hy D n1 n2;have rp:Rep (upd H2 D (.lst ys)) (Eg (BD ps)) (.ref D):=by
    rw[<-V4];refine bh.mpr ⟨D,ys,rfl,aj,bo.of ?_ λi dd v e1 e2=>?_⟩
    ·unfold HB;rw[ZA,ZA,ly,lx,<-qJ]
    ·unfold HB at e1;rw[ZE,ZE] at e1;symm;obtain⟨p,ep,rfl⟩:=aaH.mp e1;obtain⟨r,er,rfl⟩:=aaH.mp ep;nofun;exact(hy i v e2 r er).mono (aD n2)
   have sD:aF H (upd H2 D (.lst ys)):=Gn.trans (s2.trans (aD n2));exact⟨BD ps,rp,V2,λx hx=>(V1 x hx).2,V3,λb=>absurd b nb,λ_ p H' s' np r'=>kk p H' (sD.trans s') (none_of sD np) r'⟩
theorem pQ:aZ ["rows"] ["rows"] (aq (top 38)):=⟨rfl,rfl,rfl,∅,rfl,∅,∅⟩
theorem NP (T:Txt K mg aB aH aI aV aE aL aW aM aA aN aX af av):cg P w K mg base (br P w) 1 "own_rows" ["rows"] sA:=by
 refine T.Ap.dJ (λ_ _ _ _ _ _=>gZ λ_=>rfl) λf fd F=>F.eC pQ (λvs H Q E h=>?_) (λcf A outer s H vs Q E hr h=>?_)
 ·obtain⟨_,_,_,rfl,_⟩:=h;rfl
 ·symm;obtain⟨v,X,rs,rfl,sx,rp,lr,ll,kk⟩:=h;nofun;have nd:=pQ.nd;refine⟨_,(ao (aY (cO rfl (N:=["rows"]) (so:=aq (top 38)) (N':=["row"]) (k:=1) (fr:=[]) rfl rfl ⟨rfl,∅,∅,∅,rfl,∅,∅⟩ (bA (K:=K) (pv 0)) (λ_ _ _ _ _=>(a9 (i:=0) (show(["row"]:List Str).Nodup by decide +kernel) rfl (.inl rfl))) (λ_ _ _ _ _=>dH)
   (λ_ _ _ _ _=>(bf (aa (ar ai (pv 0) ae (λ_ _=>rfl)) (aa (ar ai (pv 0) ae (λ_ _=>rfl)) (aa (eg (dU (K:=K)) (by rfl) T.z_list rfl (aa (ar ai (pv 0) ae (λ_ _=>rfl)) ag (se rfl)) (he:=se rfl) (hpl:=na rfl)) (aa (ar ai (pv 0) ae (λ_ _=>rfl)) ag (se rfl)) (se rfl)) (se rfl)) (se rfl))))))),?_⟩
  have sl:=sizeLine_eq;symm;obtain⟨l,xs,rfl,hl,rl⟩:=bh.mp rp;nofun;have hl:=sx _ _ hl;have len:=rl.length;rw[ZA] at len;dsimp?[];refine⟨⟨_,bL.of hl⟩,?_⟩;refine comp_map (src_list (K:=K) (λH' s'=>bL.of (s' _ _ hl))) (λ_ _ _ _ h=>by rw[h.1];exact aF.refl _) (by lia) (λi y H4=>∀r,rs[i]?=some r->Rep (nw H X H4) (sh r) y) (λi y H4 H5 s5 h r e=>(h r e).mono (mY s5)) ?_ ?_
  ·rintro i x w0 H4 H5 Q2 hi s4 ⟨rfl,ex⟩ kq;symm;obtain⟨d,ed,rd⟩:=rl.get ex;rw[ZE] at ed;obtain⟨r,er,rfl⟩:=aaH.mp ed;obtain⟨p,a,b,c,d,rfl,hp,ra,rb,rc,V6⟩:=dr.mp rd;obtain⟨c',V7,rfl,hc,tZ⟩:=bh.mp rc;nofun;have hp:=s4 _ _ (sx _ _ hp);have hc:=s4 _ _ (sx _ _ hc);dsimp?[hp];refine⟨_,.inl (bL.of hc),λm nm=>⟨_,aD nm _ _ hp,_,rfl,∅,λt H6 s6 nt e6=>kq _ _ ((aD nm).trans s6) λr' Jf=>?_⟩⟩;rw[er] at Jf;cases Jf;have sn:aF X (nw H X H6):=kK sx;have Rb:=none_of s4 nm;have V8:=none_of (s4.trans (aD nm)) nt;exact dr.mpr ⟨t,_,_,_,_,rfl,by rw[cC V8];exact e6,ra.mono sn,rb.mono sn,bh.mpr ⟨m,V7,rfl,by rw[cC Rb];exact s6 _ _ aj,tZ.mono sn⟩,V6.mono sn⟩
  ·intro ys H5 s5 ly hy D n1 n2;refine kk D _ (s5.trans (aD n2)) (bh.mpr ⟨D,ys,rfl,by rw[cC (none_of s5 n2)];exact aj,bo.of (by rw[ZA];lia) λi dd u e1 e2=>?_⟩);rw[ZE] at e1;symm;obtain⟨r,er,rfl⟩:=aaH.mp e1;nofun;exact(hy i u e2 r er).mono (mY (aD n2))
theorem pR:aZ ["what"] ["what"] (aq (top 39)):=⟨rfl,rfl,rfl,∅,rfl,∅,∅⟩
theorem NQ (T:Txt K mg aB aH aI aV aE aL aW aM aA aN aX af av):cg P w K mg base (br P w) 2 "own_what" ["what"] EO:=by
 have sF:cg P w K mg base (br P w) 1 "own_rows" ["rows"] sA:=NP T;refine T.Aq.dJ (λ_ _ _ _ _ _=>gZ λ_=>rfl) λf fd F=>F.eC pR (λvs H Q E h=>?_) (λcf A outer s H vs Q E hr h=>?_)
 ·obtain⟨_,_,_,_,rfl,_⟩:=h;rfl
 ·symm;obtain⟨v,X,x,cs,rfl,sx,rp,gd,kk⟩:=h;nofun;have nd:=pR.nd;refine⟨_,(ah (bw (aP bG (ar ai (pv 0) ae (λ_ _=>rfl)) a7 (a5 _)) (ao (aY (bf (aa a7 (aa (eg (dU (K:=K)) (by rfl) T.z_list rfl (aa (ar ai (pv 0) ae (λ_ _=>rfl)) ag (se rfl)) (he:=se rfl) (hpl:=na rfl)) (aa (ar ai (pv 0) ae (λ_ _=>rfl)) (aa (aO sF (hr.mono ∅) rfl au.pass (aa (ar ai (pv 0) ae (λ_ _=>rfl)) ag (se rfl)) (he:=se rfl) (hpl:=na rfl)) ag (se rfl)) (se rfl)) (se rfl)) (se rfl)))))
   ba)
  (ah (bw (aP bG (ar ai (pv 0) ae (λ_ _=>rfl)) a7 (a5 _)) (ao (aY (bf (aa a7 (aa (ar ai (pv 0) ae (λ_ _=>rfl)) (aa (aO sF (hr.mono ∅) rfl au.pass (aa (ar ai (pv 0) ae (λ_ _=>rfl)) ag (se rfl)) (he:=se rfl) (hpl:=na rfl)) ag (se rfl)) (se rfl)) (se rfl)))))
   ba)
  (ao (aY (pv 0))))),?_⟩
  refine(?_:let bY:TS:=_;let bZ:TS:=_;let b5:TS:=_;tSeq bY (tSeq bZ b5) _ _ _);intro bY bZ b5;have sl:=sizeLine_eq;cases x with
  | ask c k a b=>
   symm;obtain⟨p,x1,x2,x3,x4,x5,rfl,hp,r1,r2,r3,r4,r5⟩:=wD.mp (show Rep X (.tup _) v from rp);rw[aR] at r1;subst r1;nofun;dsimp?[sA,sx _ _ hp];rw[if_neg ∅,if_neg ∅];exact kk _ _ (aF.refl _) (rp.mono (kK sx))
  | fin t b=>
   symm;obtain⟨p,x1,x2,rfl,hp,r1,r2⟩:=bN.mp (show Rep X (.tup _) v from rp);rw[aR] at r1;subst r1;nofun;dsimp?[sA,sx _ _ hp];rw[if_neg ∅,if_neg ∅];exact kk _ _ (aF.refl _) (rp.mono (kK sx))
  | score c=>
   symm;obtain⟨p,x1,x2,rfl,hp,r1,r2⟩:=bN.mp (show Rep X (.tup _) v from rp);rw[aR] at r1;subst r1;nofun;dsimp?[sA,sx _ _ hp];rw[if_neg ∅,if_neg ∅];exact kk _ _ (aF.refl _) (rp.mono (kK sx))
  | pick w rs=>
   symm;obtain⟨p,x1,x2,x3,rfl,hp,r1,r2,r3⟩:=dQ.mp (show Rep X (.tup _) v from rp);rw[aR] at r1;subst r1;nofun;dsimp?[sA,sx _ _ hp];rw[if_neg ∅];obtain⟨g1,g2⟩:=gd;refine⟨X,sx,_,r3,by rw[ZA];exact g1,λr Ak=>?_,λm H1 s1 rm=>⟨∅,λt H2 s2 nt e2=>kk _ _ (s1.trans s2) ?_⟩⟩
   ·symm;obtain⟨r0,h0,rfl⟩:=aaJ.mp Ak;nofun;show(r0.ds.map BF).length<=100;rw[ZA];exact(g2 r0 h0).1
   ·exact dQ.mpr ⟨t,_,_,_,rfl,by rw[cC (none_of s1 nt)];exact e2,aR.mpr rfl,r2.mono (kK sx),rm.mono (mY s2)⟩
  | dN c5 t b rs=>
   symm;obtain⟨p,x1,x2,x3,x4,rfl,hp,r1,r2,r3,r4⟩:=dr.mp (show Rep X (.tup _) v from rp);rw[aR] at r1;subst r1;nofun;have hp:=sx _ _ hp;dsimp?[sA,hp];symm;obtain⟨g1,g2,g3⟩:=gd;obtain⟨l2,Mi,rfl,DG,V9⟩:=bh.mp r2;nofun;refine⟨_,rfl,_,.inl (bL.of (sx _ _ DG)),λm nm=>?_⟩;have sm:=aD (o:=.lst Mi) nm;have Wa:aF (nw H X (upd H m (.lst Mi))) (upd H m (.lst Mi)):=K2 sx sm;refine⟨_,sm _ _ hp,_,rfl,_,sm _ _ hp,_,rfl,nw H X (upd H m (.lst Mi)),Wa,_,r4.mono (kK sx),by rw[ZA];exact g2,λr Ak=>?_,λn H1 s1 rn=>⟨∅,λt H2 s2 nt e2=>kk _ _ (sm.trans (s1.trans s2)) ?_⟩⟩
   ·symm;obtain⟨r0,h0,rfl⟩:=aaJ.mp Ak;nofun;show(r0.2.2.1.map BF).length<=100;rw[ZA];exact(g3 r0 h0).1
   ·rw[Ny sm s1] at rn;exact dr.mpr ⟨t,_,_,_,_,rfl,by rw[cC (none_of (sm.trans s1) nt)];exact e2,aR.mpr rfl,bh.mpr ⟨m,Mi,rfl,by rw[cC nm];exact s2 _ _ (s1 _ _ aj),V9.mono (kK sx)⟩,r3.mono (kK sx),rn.mono (mY s2)⟩
theorem kU:aZ ["self","counts","spot","number"] ["self","counts","spot","number"] (aq (inClass (top 40) 1)):=⟨rfl,rfl,rfl,∅,rfl,∅,∅⟩
theorem K4 (T:Txt K mg aB aH aI aV aE aL aW aM aA aN aX af av):bD P w K mg base (br P w) 1 af "put" ["self","counts","spot","number"] (vn af):=by
 refine T.uo.dJ (λ_ _ _ _ _ _=>uv λ_ _ _ _=>rfl) λf fd F=>F.eC kU (λvs H Q E h=>?_) (λcf A outer s H vs Q E hr h=>?_)
 ·obtain⟨_,_,_,_,_,_,rfl,_⟩:=h;rfl
 ·symm;obtain⟨c,l,i,k,g,ns,rfl,⟨dx,sp,mo,wh,tb,us,ft,h1,h2,h3,h4,h5,h6⟩,hl,il,ln,kk⟩:=h;nofun;have nd:=kU.nd;refine⟨_,(ao (Dv (a8 (fO rfl) (by rfl) T.z_min rfl (aa (pv 3) (aa (ar a4 (bp (pv 0) rfl) (pv 2) (λ_ _=>rfl)) ag (se rfl)) (se rfl)) (he:=se rfl) (hpl:=na rfl)) (Du (pv 1) (pv 2) set_list))),?_⟩;have h1:=dh _ _ h1;have h3:=dh _ _ h3;dsimp?[df];refine⟨_,_,_,h1,T.aS,T.na_Course_mosts,_,Jc,_,rfl,_,h3,_,HF il,_,rfl,_,hl,_,BJ (by rw[ZA];lia),?_⟩;rw[<-List.map_set];have e:(if most g.cs i<k then most g.cs i else k)=min k (most g.cs i):=by lia
  rw[e];exact kk
theorem mZ:aZ ["self","counts","deed","value","spot","other"] ["self","counts","deed","value"] (aq (inClass (top 40) 2)):=⟨rfl,rfl,rfl,∅,rfl,∅,∅⟩
theorem NR (T:Txt K mg aB aH aI aV aE aL aW aM aA aN aX af av):bD P w K mg base (br P w) 2 af "do" ["self","counts","deed","value"] (KY af):=by
 have fL:bD P w K mg base (br P w) 1 af "put" ["self","counts","spot","number"] (vn af):=K4 T;refine T.wq.dJ (λ_ _ _ _ _ _=>uv λ_ _ _ _=>rfl) λf fd F=>F.eC mZ (λvs H Q E h=>?_) (λcf A outer s H vs Q E hr h=>?_)
 ·obtain⟨_,_,_,_,_,_,_,rfl,_⟩:=h;rfl
 ·symm;obtain⟨c,l,dv,v,g,ns,d,rfl,co,hl,rd,gd,ln,kk⟩:=h;nofun;have nd:=mZ.nd;refine⟨_,(ah (aJ (i:=4) nd rfl (.inl rfl) (cH (cE hr) (bp (pv 0) rfl) (ar ai (pv 2) ae (λ_ _=>rfl)) (λ_ _=>rfl)))
  (ao (bw (aP bG (ar ai (pv 2) ae (λ_ _=>rfl)) a7 (a5 _)) (ao (b6 (c9 fL T.aS (pv 0) (hr.mono ∅) au.pass (aa (pv 1) (aa (pv 4) (aa (ar ai (pv 2) ae (λ_ _=>rfl)) ag (se rfl)) (se rfl)) (se rfl)) (hst:=se rfl) (hpl:=na rfl))))
   (ao (bw (aP bG (ar ai (pv 2) ae (λ_ _=>rfl)) a7 (a5 _)) (ao (b6 (c9 fL T.aS (pv 0) (hr.mono ∅) au.pass (aa (pv 1) (aa (pv 4) (aa (aG aQ (ar a4 (pv 1) (pv 4) (λ_ _=>rfl)) (ar ai (pv 2) ae (λ_ _=>rfl))) ag (se rfl)) (se rfl)) (se rfl)) (hst:=se rfl) (hpl:=na rfl))))
   (ao (bw (aP bG (ar ai (pv 2) ae (λ_ _=>rfl)) a7 (a5 _)) (ao (b6 (c9 fL T.aS (pv 0) (hr.mono ∅) au.pass (aa (pv 1) (aa (pv 4) (aa (aG aQ (ar a4 (pv 1) (pv 4) (λ_ _=>rfl)) (pv 3)) ag (se rfl)) (se rfl)) (se rfl)) (hst:=se rfl) (hpl:=na rfl))))
   (ah (aJ (i:=5) nd rfl (.inl rfl) (cH (cE hr) (bp (pv 0) rfl) (ar ai (pv 2) ae (λ_ _=>rfl)) (λ_ _=>rfl)))
  (ah (b6 (c9 fL T.aS (pv 0) (hr.mono ∅) au.pass (aa (pv 1) (aa (pv 5) (aa (aG aQ (ar a4 (pv 1) (pv 5) (λ_ _=>rfl)) (ar a4 (pv 1) (pv 4) (λ_ _=>rfl))) ag (se rfl)) (se rfl)) (se rfl)) (hst:=se rfl) (hpl:=na rfl)))
  (ao (Dv ae (Du (pv 1) (pv 4) set_list)))))))))))),?_⟩
  symm;obtain⟨dx,sp,mo,wh,tb,us,ft,h1,h2,h3,h4,h5,h6⟩:=id co;nofun;have h1:=dh _ _ h1;have h2:=dh _ _ h2;have lp:∀{a b c d e:V},List.lookup (Zz "put") [(Zz "spots",a),(Zz "mosts",b),(Zz "first",c),(Zz "whats",d),(Zz "tables",e)]=none:=dX (by decide +kernel) (by decide +kernel) (by decide +kernel) (by decide +kernel) (by decide +kernel);cases d with
  | set n k=>
   symm;obtain⟨p,x1,x2,x3,rfl,hp,r1,r2,r3⟩:=dQ.mp (show Rep (cX H l) (.tup _) dv from rd);rw[aR] at r1 r2;rw[bF] at r3;subst r1 r2 r3;nofun;have hp:=dh _ _ hp;have sl:=fK (cs:=g.cs) gd;change tSeq _ _ _ _ _;refine dg (λσ' H'=>H=H'/\σ'=[some (.ref c),some (.ref l),some (.ref p),some (.int v),some (.int ((bK g.cs n:Nat):Int)),none]) ?_ (λN hN=>by dsimp?[df,hp];exact⟨_,_,_,h1,T.aS,T.na_Course_spots,_,kJ,_,rfl,_,iu h2 gd,hN _ _ ⟨rfl,rfl⟩⟩);rintro _ _ ⟨rfl,rfl⟩;refine dE (λY N k=>by dsimp?[hp];first | exact k | (rw[if_pos (by decide +kernel)];exact k)) ?_;dsimp?[df,bR,vn,hp];exact⟨_,_,h1,lp,_,rfl,_,co,_,hl,sl,ln,kk⟩
  | plus n k=>
   symm;obtain⟨p,x1,x2,x3,rfl,hp,r1,r2,r3⟩:=dQ.mp (show Rep (cX H l) (.tup _) dv from rd);rw[aR] at r1 r2;rw[bF] at r3;subst r1 r2 r3;nofun;have hp:=dh _ _ hp;have sl:=fK (cs:=g.cs) gd;change tSeq _ _ _ _ _;refine dg (λσ' H'=>H=H'/\σ'=[some (.ref c),some (.ref l),some (.ref p),some (.int v),some (.int ((bK g.cs n:Nat):Int)),none]) ?_ (λN hN=>by dsimp?[df,hp];exact⟨_,_,_,h1,T.aS,T.na_Course_spots,_,kJ,_,rfl,_,iu h2 gd,hN _ _ ⟨rfl,rfl⟩⟩);rintro _ _ ⟨rfl,rfl⟩;refine dq (λY N k=>by dsimp?[hp];first | exact k | (rw[if_neg (by decide +kernel)];exact k)) (dE (λY N k=>by dsimp?[hp];first | exact k | (rw[if_pos (by decide +kernel)];exact k)) ?_);dsimp?[df,bR,vn,hp];exact⟨_,_,h1,lp,_,hl,_,eR (by lia),_,rfl,_,rfl,_,co,_,hl,sl,ln,kk⟩
  | face n=>
   symm;obtain⟨p,x1,x2,rfl,hp,r1,r2⟩:=bN.mp (show Rep (cX H l) (.tup _) dv from rd);rw[aR] at r1 r2;subst r1 r2;nofun;have hp:=dh _ _ hp;have sl:=fK (cs:=g.cs) gd;change tSeq _ _ _ _ _;refine dg (λσ' H'=>H=H'/\σ'=[some (.ref c),some (.ref l),some (.ref p),some (.int v),some (.int ((bK g.cs n:Nat):Int)),none]) ?_ (λN hN=>by dsimp?[df,hp];exact⟨_,_,_,h1,T.aS,T.na_Course_spots,_,kJ,_,rfl,_,iu h2 gd,hN _ _ ⟨rfl,rfl⟩⟩);rintro _ _ ⟨rfl,rfl⟩;refine dq (λY N k=>by dsimp?[hp];first | exact k | (rw[if_neg (by decide +kernel)];exact k)) (dq (λY N k=>by dsimp?[hp];first | exact k | (rw[if_neg (by decide +kernel)];exact k)) (dE (λY N k=>by dsimp?[hp];first | exact k | (rw[if_pos (by decide +kernel)];exact k)) ?_));dsimp?[df,bR,vn,hp];exact⟨_,_,h1,lp,_,hl,_,eR (by lia),_,rfl,_,rfl,_,co,_,hl,sl,ln,kk⟩
  | move n m=>
   symm;obtain⟨p,x1,x2,x3,rfl,hp,r1,r2,r3⟩:=dQ.mp (show Rep (cX H l) (.tup _) dv from rd);rw[aR] at r1 r2 r3;subst r1 r2 r3;nofun;have hp:=dh _ _ hp;have sl:=fK (cs:=g.cs) gd.1;have Gf:=fK (cs:=g.cs) gd.2;change tSeq _ _ _ _ _;refine dg (λσ' H'=>H=H'/\σ'=[some (.ref c),some (.ref l),some (.ref p),some (.int v),some (.int ((bK g.cs n:Nat):Int)),none]) ?_ (λN hN=>by dsimp?[df,hp];exact⟨_,_,_,h1,T.aS,T.na_Course_spots,_,kJ,_,rfl,_,iu h2 gd.1,hN _ _ ⟨rfl,rfl⟩⟩);rintro _ _ ⟨rfl,rfl⟩;refine dq (λY N k=>by dsimp?[hp];first | exact k | (rw[if_neg (by decide +kernel)];exact k)) (dq (λY N k=>by dsimp?[hp];first | exact k | (rw[if_neg (by decide +kernel)];exact k)) (dq (λY N k=>by dsimp?[hp];first | exact k | (rw[if_neg (by decide +kernel)];exact k)) ?_));dsimp?[df,bR,vn,hp];refine⟨_,_,_,h1,T.aS,T.na_Course_spots,_,kJ,_,rfl,_,iu h2 gd.2,_,_,h1,lp,_,_,rfl,hl,_,eR (by lia),_,hl,_,eR (by lia),_,rfl,_,rfl,_,rfl,_,co,_,hl,Gf,ln,_,aj,_,BJ (by rw[ZA,i7];lia),?_⟩;rw[A2,<-List.map_set];exact kk
theorem iH:aZ ["self","name","counts","what"] ["self","name","counts"] (aq (inClass (top 40) 3)):=⟨rfl,rfl,rfl,∅,rfl,∅,∅⟩
theorem EV (T:Txt K mg aB aH aI aV aE aL aW aM aA aN aX af av):bD P w K mg base (br P w) 1 af "asked" ["self","name","counts"] (yu af):=by
 refine T.p9.dJ (λ_ _ _ _ _ _=>uu λ_ _ _=>rfl) λf fd F=>F.eC iH (λvs H Q E h=>?_) (λcf A outer s H vs Q E hr h=>?_)
 ·obtain⟨_,_,_,_,_,_,_,rfl,_⟩:=h;rfl
 ·symm;obtain⟨c,nm,l,g,ns,fu,fk,rfl,co,gg,hl,ln,ak,kk⟩:=h;nofun;clear G_;have nd:=iH.nd;refine⟨_,(ah (aJ (i:=3) nd rfl (.inl rfl) (cH (cE hr) (bp (pv 0) rfl) (pv 1) (λ_ _=>rfl)))
  (ah (mB PassesOwn.never (aP bG (ar ai (pv 3) ae (λ_ _=>rfl)) a7 (a5 _)) (ah (aJ (i:=1) nd rfl (.inl rfl) (mz (aP A8 (ar a4 (pv 2) (cH (cE hr) (bp (pv 0) rfl) (ar ai (pv 3) ae (λ_ _=>rfl)) (λ_ _=>rfl)) (λ_ _=>rfl)) (ar ai (pv 3) ae (λ_ _=>rfl)) (a5 _)) (ar ai (pv 3) ae (λ_ _=>rfl)) (ar ai (pv 3) ae (λ_ _=>rfl))))
  (ao (aJ (i:=3) nd rfl (.inl rfl) (cH (cE hr) (bp (pv 0) rfl) (pv 1) (λ_ _=>rfl))))))
  (ao (aY (bf (aa (pv 1) (aa (pv 2) ag (se rfl)) (se rfl))))))),?_⟩
  refine(?_:let bY:TS:=_;let bZ:TS:=_;let b5:TS:=_;tSeq bY (tSeq bZ b5) _ _ _);intro bY bZ b5;symm;obtain⟨dx,sp,mo,wh,tb,us,ft,h1,h2,h3,h4,h5,h6⟩:=id co;nofun;clear G_;dsimp?[df];cases fu with
  | zero=>cases ak
  | succ fu=>
   rcases h5.val (n:=nm) with ⟨x,u,lk,vl,rx⟩ | ⟨lk,vl⟩
   ·refine⟨_,_,_,h1,T.aS,T.na_Course_whats,_,BI,_,rfl,_,.inl ⟨_,Sum.inr nm,.inl h4,rfl,vl.symm⟩,?_⟩;refine BK (λm σ H'=>H=H'/\∃nm x u,dW g ns (m+1) nm=some fk/\look g.ps nm=some x/\Rep H (jU x) u/\σ=[some (V.ref c),some (V.str nm),some (V.ref l),some u]) (m:=fu) ⟨rfl,nm,x,u,ak,lk,rx,rfl⟩ ?_;clear ak lk rx vl;intro m σ H' HK;symm;obtain⟨rfl,nm,x,u,ak,lk,rx,rfl⟩:=HK;nofun;have gx:=gg.wt _ (c8 lk);rw[dW,lk] at ak;have fin:∀{p:Addr} {xs:List V} {y:Str},u=.ref p->H p=some (.tup (.str y::xs))->y≠Zz "ask"->nm=fk->∃b:Bool,(∀Q:Bool->Hp->Prop,Q b H->tTest (tOp rEq (tOp rIxTH (tVar 3) (tC (V.int 0))) (tC (V.str "ask"))) [some (V.ref c),some (V.str nm),some (V.ref l),some u] H Q)/\b=false:=by
     intro p xs y e hp ny _;refine⟨false,λQ q=>?_,rfl⟩;subst e;dsimp?[hp];rw[decide_eq_false ny];exact q
    cases x with
    | ask c' k a b=>
     symm;obtain⟨p,x1,x2,x3,x4,x5,rfl,hp,r1,r2,r3,r4,r5⟩:=wD.mp (show Rep H (.tup _) u from rx);rw[aR] at r1 r2 r4 r5;rw[bF] at r3;subst r1 r2 r3 r4 r5;nofun;refine⟨true,λQ q=>?_,?_⟩
     ·dsimp?[hp];rw[decide_eq_true trivial];exact q
     ·rw[if_pos rfl];have hs:=fK (cs:=g.cs) gx;have step:∀y,dW g ns m y=some fk->∃m' x u,m'<m/\dW g ns (m'+1) y=some fk/\look g.ps y=some x/\Rep H (jU x) u/\jQ H wh (.str y) (some u):=by
       intro y hy;cases m with
       | zero=>cases hy
       | succ m'=>
        rcases h5.val (n:=y) with ⟨x,u,kW,vl,Wb⟩ | ⟨kW,vl⟩
        ·exact⟨m',x,u,aan _,hy,kW,Wb,.inl ⟨_,Sum.inr y,.inl h4,rfl,vl.symm⟩⟩
        ·rw[dW,kW] at hy;cases hy
      have ak:(if k<=ns.getD (bK g.cs c') 0 then dW g ns m a else dW g ns m b)=some fk:=ak;dsimp?[df,hp];refine⟨_,_,_,h1,T.aS,T.na_Course_spots,_,kJ,_,rfl,_,iu h2 gx,_,_,rfl,hl,_,eR (by lia),_,rfl,iS (λc1=>?_) (λc1=>?_)⟩
      ·rw[if_pos c1] at ak;symm;obtain⟨m',x,u,l1,l2,l3,l4,l5⟩:=step a ak;nofun;refine⟨_,rfl,_,_,_,h1,T.aS,T.na_Course_whats,_,BI,_,rfl,_,l5,?_⟩;exact⟨m',l1,a,l2,x,l3,u,l4,rfl,rfl⟩
      ·rw[if_neg c1] at ak;symm;obtain⟨m',x,u,l1,l2,l3,l4,l5⟩:=step b ak;nofun;refine⟨_,rfl,_,_,_,h1,T.aS,T.na_Course_whats,_,BI,_,rfl,_,l5,?_⟩;exact⟨m',l1,b,l2,x,l3,u,l4,rfl,rfl⟩
    | fin t b=>
     symm;obtain⟨p,x1,x2,rfl,hp,r1,r2⟩:=bN.mp (show Rep H (.tup _) u from rx);rw[aR] at r1;subst r1;have e:nm=fk:=by injection ak
     obtain⟨b',k1,rfl⟩:=fin rfl hp ∅ e;nofun;refine⟨false,k1,?_⟩;rw[if_neg ∅];dsimp?[];exact⟨∅,λp H2 s2 np e2=>kk p H2 s2 np (by rw[<-e];exact e2)⟩
    | score c'=>
     symm;obtain⟨p,x1,x2,rfl,hp,r1,r2⟩:=bN.mp (show Rep H (.tup _) u from rx);rw[aR] at r1;subst r1;have e:nm=fk:=by injection ak
     obtain⟨b',k1,rfl⟩:=fin rfl hp ∅ e;nofun;refine⟨false,k1,?_⟩;rw[if_neg ∅];dsimp?[];exact⟨∅,λp H2 s2 np e2=>kk p H2 s2 np (by rw[<-e];exact e2)⟩
    | pick w' rs=>
     symm;obtain⟨p,x1,x2,x3,rfl,hp,r1,r2,r3⟩:=dQ.mp (show Rep H (.tup _) u from rx);rw[aR] at r1;subst r1;have e:nm=fk:=by injection ak
     obtain⟨b',k1,rfl⟩:=fin rfl hp ∅ e;nofun;refine⟨false,k1,?_⟩;rw[if_neg ∅];dsimp?[];exact⟨∅,λp H2 s2 np e2=>kk p H2 s2 np (by rw[<-e];exact e2)⟩
    | dN c5 t b rs=>
     symm;obtain⟨p,x1,x2,x3,x4,rfl,hp,r1,r2,r3,r4⟩:=dr.mp (show Rep H (.tup _) u from rx);rw[aR] at r1;subst r1;have e:nm=fk:=by injection ak
     obtain⟨b',k1,rfl⟩:=fin rfl hp ∅ e;nofun;refine⟨false,k1,?_⟩;rw[if_neg ∅];dsimp?[];exact⟨∅,λp H2 s2 np e2=>kk p H2 s2 np (by rw[<-e];exact e2)⟩
   ·rw[dW,lk] at ak;cases ak
theorem iI:aZ ["self","when","counts","number"] ["self","when","counts"] (aq (inClass (top 40) 9)):=⟨rfl,rfl,rfl,∅,rfl,∅,∅⟩
theorem K5 (T:Txt K mg aB aH aI aV aE aL aW aM aA aN aX af av):bD P w K mg base (br P w) 1 af "holds" ["self","when","counts"] (EI af):=by
 refine T.qa.dJ (λ_ _ _ _ _ _=>uu λ_ _ _=>rfl) λf fd F=>F.eC iI (λvs H Q E h=>?_) (λcf A outer s H vs Q E hr h=>?_)
 ·obtain⟨_,_,_,_,_,_,rfl,_⟩:=h;rfl
 ·symm;obtain⟨c,v,l,g,ns,Wc,rfl,co,rv,hl,ln,kk⟩:=h;nofun;have nd:=iI.nd;refine⟨_,(ah (bw (aP zz (pv 1) qX (a5 _)) (ao (aY ky))
   ba)
  (ah (bw (Dr (va (cE hr) (ar ai (pv 1) ae (λ_ _=>rfl)) (bp (pv 0) rfl))) (ao (aY ky))
   ba)
  (ah (aJ (i:=3) nd rfl (.inl rfl) (ar a4 (pv 2) (cH (cE hr) (bp (pv 0) rfl) (ar ai (pv 1) ae (λ_ _=>rfl)) (λ_ _=>rfl)) (λ_ _=>rfl)))
  (ao (aY (mz (aP bG (ar ai (pv 1) ae (λ_ _=>rfl)) a7 (a5 _)) (gz A8 (pv 3) (ar ai (pv 1) ae (λ_ _=>rfl)) (a5 _)) (gz xG (pv 3) (ar ai (pv 1) ae (λ_ _=>rfl)) (a5 _)))))))),?_⟩
  refine(?_:let bY:TS:=_;let bZ:TS:=_;let b5:TS:=_;let cY:TS:=_;tSeq bY (tSeq bZ (tSeq b5 cY)) _ _ _);intro bY bZ b5 cY;symm;obtain⟨dx,sp,mo,wh,tb,us,ft,h1,h2,h3,h4,h5,h6⟩:=id co;nofun;cases Wc with
  | none=>
   have e:v=.cW:=by rw[KW,Rep] at rv;exact rv
   subst e;dsimp?[];exact kk
  | some x=>
   symm;obtain⟨a,b,k⟩:=x;obtain⟨p,x1,x2,x3,rfl,hp,r1,r2,r3⟩:=dQ.mp (show Rep H (.tup _) v from rv);rw[aR] at r1 r2;rw[bF] at r3;subst r1 r2 r3;nofun;dsimp?[df,hp];rw[if_neg (by intro z;cases z)]
   by_cases hn:a∈g.cs.map (·.1)
   ·have hs:=fK hn;refine⟨_,_,_,h1,T.aS,T.na_Course_spots,_,kJ,_,rfl,_,iu h2 hn,?_⟩;rw[if_neg (by simp)];refine⟨_,_,_,h1,T.aS,T.na_Course_spots,_,kJ,_,rfl,_,iu h2 hn,_,_,rfl,hl,_,eR (by lia),?_⟩;have kk:Q (.bl (if a∈g.cs.map (·.1) then (if b=Zz "from" then decide (k<=ns.getD (bK g.cs a) 0) else decide (ns.getD (bK g.cs a) 0<k)) else false)) H:=kk;rw[if_pos hn] at kk
    by_cases c1:b=Zz "from"
    ·rw[if_pos c1] at kk ⊢;exact⟨_,rfl,kk⟩
    ·rw[if_neg c1] at kk ⊢;exact⟨_,rfl,kk⟩
   ·refine⟨_,_,_,h1,T.aS,T.na_Course_spots,_,kJ,_,rfl,_,.inl ⟨_,Sum.inr a,.inl h2,rfl,rfl⟩,?_⟩;rw[sj hn,if_pos (by rfl)];have kk:Q (.bl (if a∈g.cs.map (·.1) then (if b=Zz "from" then decide (k<=ns.getD (bK g.cs a) 0) else decide (ns.getD (bK g.cs a) 0<k)) else false)) H:=kk;rw[if_neg hn] at kk;exact kk
theorem iJ:aZ ["self"] ["self"] (aq (inClass (top 40) 4)):=⟨rfl,rfl,rfl,∅,rfl,∅,∅⟩
theorem K6 (T:Txt K mg aB aH aI aV aE aL aW aM aA aN aX af av):bD P w K mg base (br P w) 2 af "start" ["self"] (EH af):=by
 have f9:bD P w K mg base (br P w) 1 af "asked" ["self","name","counts"] (yu af):=EV T;refine T.qb.dJ (λ_ _ _ _ _ _=>gZ λ_=>rfl) λf fd F=>F.eC iJ (λvs H Q E h=>?_) (λcf A outer s H vs Q E hr h=>?_)
 ·obtain⟨_,_,_,_,_,rfl,_⟩:=h;rfl
 ·symm;obtain⟨c,g,fu,ft,fk,rfl,co,gg,hf,ak,kk⟩:=h;nofun;have nd:=iJ.nd;refine⟨_,(ao (aY (c9 f9 T.aS (pv 0) (hr.mono (by decide)) au.pass (aa (bp (pv 0) rfl) (aa (aG J0 (cb (aa ae ag (se rfl))) (a8 bO (by rfl) T.z_len ZT (aa (bp (pv 0) rfl) ag (se rfl)) (he:=se rfl) (hpl:=na rfl))) ag (se rfl)) (se rfl)) (hst:=se rfl) (hpl:=na rfl)))),?_⟩;have sl:=sizeLine_eq;have lc:=gg.lc;symm;obtain⟨dx,sp,mo,wh,tb,us,Df,h1,h2,h3,h4,h5,h6⟩:=id co;nofun;rw[h6] at hf;cases hf;have lp:∀{a b c d e:V},List.lookup (Zz "asked") [(Zz "spots",a),(Zz "mosts",b),(Zz "first",c),(Zz "whats",d),(Zz "tables",e)]=none:=dX (by decide +kernel) (by decide +kernel) (by decide +kernel) (by decide +kernel) (by decide +kernel);dsimp?[df,bR,yu,MW];refine⟨_,_,h1,lp,_,_,_,h1,T.aS,T.na_Course_first,_,Nw,by decide,λp np=>?_⟩;have Pc:=aD (o:=.lst [V.int 0]) np;refine⟨_,_,_,Pc _ _ h1,T.aS,T.na_Course_mosts,_,Jc,_,rfl,_,Pc _ _ h3,_,aj,by simp only[ZA];lia,by simp only[ZA];lia,by simp only[ZA,ZP,aap];lia,λl nl=>?_⟩;have el:(aaO (((List.map V.int (List.map (λx=>x.snd) g.cs)).length:Nat):Int).toNat [V.int 0]).flatten=List.map V.int (aaO g.cs.length 0):=by rw[EK,ZX,ZA,ZA]
  rw[el];have MG:=Pc.trans (aD (o:=.lst (List.map V.int (aaO g.cs.length 0))) nl);exact⟨_,rfl,g,co.mono MG,gg,_,aj,by simp,fu,fk,ak,λa H' s' na e'=>kk a l H' (MG.trans s') (none_of MG na) (none_of Pc nl) e' (s' _ _ aj)⟩
theorem gD:aZ ["self","state"] ["self","state"] (aq (inClass (top 40) 5)):=⟨rfl,rfl,rfl,∅,rfl,∅,∅⟩
theorem lO (T:Txt K mg aB aH aI aV aE aL aW aM aA aN aX af av):bD P w K mg base (br P w) 1 af "what_at" ["self","state"] (fm af):=by
 refine T.mS.dJ (λ_ _ _ _ _ _=>eG λ_ _=>rfl) λf fd F=>F.eC gD (λvs H Q E h=>?_) (λcf A outer s H vs Q E hr h=>?_)
 ·obtain⟨_,_,_,_,_,_,_,rfl,_⟩:=h;rfl
 ·symm;obtain⟨c,v,H0,g,nm,ns,x,rfl,s0,co,⟨a,l,rfl,ha,hl⟩,lk,kk⟩:=h;nofun;have nd:=gD.nd;refine⟨_,(ao (aY (cH (cE hr) (bp (pv 0) rfl) (ar ai (pv 1) ae (λ_ _=>rfl)) (λ_ _=>rfl)))),?_⟩;symm;obtain⟨dx,sp,mo,wh,tb,us,Df,h1,h2,h3,h4,h5,h6⟩:=id co;nofun;dsimp?[df,ha];rcases h5.val (n:=nm) with ⟨x',u,kW,vl,rx⟩ | ⟨kW,vl⟩
  ·rw[lk] at kW;cases kW;exact⟨_,_,_,s0 _ _ h1,T.aS,T.na_Course_whats,_,BI,_,rfl,_,.inl ⟨_,Sum.inr nm,.inl (s0 _ _ h4),rfl,vl.symm⟩,kk u rx⟩
  ·rw[lk] at kW;cases kW
theorem hG:aZ ["self","state","row","value","counts","deed"] ["self","state","row","value"] (aq (inClass (top 40) 6)):=⟨rfl,rfl,rfl,∅,rfl,∅,∅⟩
theorem EW (T:Txt K mg aB aH aI aV aE aL aW aM aA aN aX af av):bD P w K mg base (br P w) 3 af "by_row" ["self","state","row","value"] (yv af):=by
 have yF:bD P w K mg base (br P w) 2 af "do" ["self","counts","deed","value"] (KY af):=NR T;have f9:bD P w K mg base (br P w) 1 af "asked" ["self","name","counts"] (yu af):=EV T;refine T.oF.dJ (λ_ _ _ _ _ _=>uv λ_ _ _ _=>rfl) λf fd F=>F.eC hG (λvs H Q E h=>?_) (λcf A outer s H vs Q E hr h=>?_)
 ·obtain⟨_,_,_,_,_,_,_,_,_,_,_,_,_,rfl,_⟩:=h;rfl
 ·symm;obtain⟨c,sv,rv,v,g,nm,ns,a,b,ds,to,fu,fk,rfl,co,gg,⟨sa,l,rfl,gQ,hl⟩,rr,gd,ld,ln,ak,kk⟩:=h;nofun;have nd:=hG.nd;refine⟨_,(ah (aJ (i:=4) nd rfl (.inl rfl) (eg (dU (K:=K)) (by rfl) T.z_list rfl (aa (ar ai (pv 1) ae (λ_ _=>rfl)) ag (se rfl)) (he:=se rfl) (hpl:=na rfl)))
  (ah (cS PassesOwn.never rfl (bA (K:=K) (ar ai (pv 2) ae (λ_ _=>rfl))) (a9 (i:=5) nd rfl (.inl rfl)) (ao (b6 (c9 yF T.aS (pv 0) (hr.mono ∅) au.pass (aa (pv 4) (aa (pv 5) (aa (pv 3) ag (se rfl)) (se rfl)) (se rfl)) (hst:=se rfl) (hpl:=na rfl)))))
  (ao (aY (c9 f9 T.aS (pv 0) (hr.mono ∅) au.pass (aa (ar ai (pv 2) ae (λ_ _=>rfl)) (aa (pv 4) ag (se rfl)) (se rfl)) (hst:=se rfl) (hpl:=na rfl)))))),?_⟩
  refine(?_:let bY:TS:=_;let bZ:TS:=_;let b5:TS:=_;tSeq bY (tSeq bZ b5) _ _ _);intro bY bZ b5;have sl:=sizeLine_eq;have lc:=gg.lc;symm;obtain⟨dx,sp,mo,wh,tb,us,Df,h1,h2,h3,h4,h5,h6⟩:=id co;obtain⟨rp,x1,x2,x3,x4,rfl,Tv,r1,r2,r3,r4⟩:=dr.mp (show Rep H (.tup _) rv from rr);rw[aR] at r4;subst r4;obtain⟨dl,gL,rfl,NS,HL⟩:=bh.mp r3;nofun;have lp:∀{a b c d e:V},List.lookup (Zz "asked") [(Zz "spots",a),(Zz "mosts",b),(Zz "first",c),(Zz "whats",d),(Zz "tables",e)]=none:=dX (by decide +kernel) (by decide +kernel) (by decide +kernel) (by decide +kernel) (by decide +kernel);have CV:∀{a b c d e:V},List.lookup (Zz "do") [(Zz "spots",a),(Zz "mosts",b),(Zz "first",c),(Zz "whats",d),(Zz "tables",e)]=none:=dX (by decide +kernel) (by decide +kernel) (by decide +kernel) (by decide +kernel) (by decide +kernel);change tSeq _ _ _ _ _;refine aU (λN=>∀H1 m,H m=none->aF H H1->cX H1 m=H->H1 m=some (.lst (List.map V.int ns))->N [some (.ref c),some (.ref sa),some (.ref rp),some (.int v),some (.ref m),none] H1) ?_ (λN hN=>?_)
  case refine_2=>
   dsimp?[gQ];exact⟨_,.inl (bL.of hl),λm nm=>hN _ m nm (aD nm) (by rw[yw,EJ nm]) aj⟩
  rintro H1 m Rb s1 hh hm;have HM:=HL.length;rw[ZA] at HM;change tSeq _ _ _ _ _;refine aU (λN=>∀H2,cX H2 m=H->H2 m=some (.lst (List.map V.int (ds.foldl (iU g.cs v) ns)))->∀z,N [some (.ref c),some (.ref sa),some (.ref rp),some (.int v),some (.ref m),z] H2) ?_ (λN hN=>?_)
  case refine_2=>
   dsimp?[s1 _ _ Tv];refine⟨⟨_,bL.of (s1 _ _ NS)⟩,cu (src_list (Ok:=λH'=>cX H' m=H) (λH' e=>bL.of (sy e _ _ NS))) (λi σ H'=>cX H' m=H/\H' m=some (.lst (List.map V.int ((ds.take i).foldl (iU g.cs v) ns)))/\∃z,σ=[some (.ref c),some (.ref sa),some (.ref rp),some (.int v),some (.ref m),z]) ⟨hh,by rw[List.take_zero];exact hm,_,rfl⟩ (λ_ _ _ _ h=>h.1) ?_ ?_⟩
   ·intro i x σ H3 H2 hi gN gO;symm;obtain⟨e2,vk,z,rfl⟩:=gN;obtain⟨rfl,ex⟩:=gO;obtain⟨dd,ed,rd⟩:=HL.get ex;rw[ZE] at ed;obtain⟨d,e0,rfl⟩:=aaH.mp ed;nofun;have s2:=sy e2;dsimp?[bR,KY];refine⟨_,_,s2 _ _ h1,CV,g,by rw[e2];exact co,_,vk,d,by rw[e2];exact rd,gd d (ZS e0),by rw[de];exact ln,by rw[yw];exact e2,?_,_,rfl⟩;rw[aj,Z2,e0,Option.toList_some,List.foldl_append];rfl
   ·intro σ H2 dA;symm;obtain⟨e2,vk,z,rfl⟩:=dA;nofun;rw[<-HM,ZQ (ZD _)] at vk;exact hN _ e2 vk _
  rintro H2 e2 vk z;have s2:=sy e2;have Wd:(ds.foldl (iU g.cs v) ns).length=g.cs.length:=by rw[de];exact ln
  dsimp?[bR,yu,s2 _ _ Tv];exact⟨_,_,s2 _ _ h1,lp,_,rfl,_,rfl,g,co.mono s2,gg,_,vk,Wd,fu,fk,ak,λa H' s' na e'=>kk a m H' (s2.trans s') (none_of s2 na) Rb e' (s' _ _ vk)⟩
theorem fA:aZ ["self","state","what"] ["self","state"] (aq (inClass (top 40) 10)):=⟨rfl,rfl,rfl,∅,rfl,∅,∅⟩
theorem EX (T:Txt K mg aB aH aI aV aE aL aW aM aA aN aX af av):bD P w K mg base (br P w) 2 af "open_rows" ["self","state"] (yx af):=by
 have bu:bD P w K mg base (br P w) 1 af "what_at" ["self","state"] (fm af):=lO T;have sG:bD P w K mg base (br P w) 1 af "holds" ["self","when","counts"] (EI af):=K5 T;refine T.jT.dJ (λ_ _ _ _ _ _=>eG λ_ _=>rfl) λf fd F=>F.eC fA (λvs H Q E h=>?_) (λcf A outer s H vs Q E hr h=>?_)
 ·obtain⟨_,_,_,_,_,_,_,rfl,_⟩:=h;rfl
 ·symm;obtain⟨c,v,H0,g,nm,ns,x,rfl,s0,Tx,gg,st,ln,lk,kk⟩:=h;nofun;have co:=Tx.mono s0;have nd:=fA.nd;refine⟨_,(ah (aJ (i:=2) nd rfl (.inl rfl) (c9 bu T.aS (pv 0) (hr.mono ∅) au.pass (aa (pv 1) ag (se rfl)) (hst:=se rfl) (hpl:=na rfl)))
  (ah (bw (aP xF (ar ai (pv 2) ae (λ_ _=>rfl)) a7 (a5 _)) (ao (aY (cb ag)))
   ba)
  (ao (aY (cO rfl (N:=["self","state","what"]) (so:=aq (inClass (top 40) 10)) (N':=["row","self","state"]) (k:=1) (fr:=[0,1]) rfl rfl ⟨rfl,∅,∅,∅,rfl,∅,∅⟩ (bA (K:=K) (ar ai (pv 2) ae (λ_ _=>rfl))) (λ_ _ _ _ _=>(a9 (i:=0) (show(["row","self","state"]:List Str).Nodup by decide +kernel) rfl (.inl rfl))) (λ_ _ _ _ _=>(eF (ie (c9 sG T.aS (pv 1) (hr.mono ∅) au.pass (aa (ar ai (pv 0) ae (λ_ _=>rfl)) (aa (ar ai (pv 2) ae (λ_ _=>rfl)) ag (se rfl)) (se rfl)) (hst:=se rfl) (hpl:=na rfl)))))
   (λ_ _ _ _ _=>(pv 0))))))),?_⟩
  refine(?_:let bY:TS:=_;let bZ:TS:=_;let b5:TS:=_;tSeq bY (tSeq bZ b5) _ _ _);intro bY bZ b5;have sl:=sizeLine_eq;symm;obtain⟨dx,sp,mo,wh,tb,us,Df,h1,h2,h3,h4,h5,h6⟩:=id co;obtain⟨sa,l,rfl,gQ,hl⟩:=id st;nofun;have lp:∀{a b c d e:V},List.lookup (Zz "what_at") [(Zz "spots",a),(Zz "mosts",b),(Zz "first",c),(Zz "whats",d),(Zz "tables",e)]=none:=dX (by decide +kernel) (by decide +kernel) (by decide +kernel) (by decide +kernel) (by decide +kernel);have CV:∀{a b c d e:V},List.lookup (Zz "holds") [(Zz "spots",a),(Zz "mosts",b),(Zz "first",c),(Zz "whats",d),(Zz "tables",e)]=none:=dX (by decide +kernel) (by decide +kernel) (by decide +kernel) (by decide +kernel) (by decide +kernel);have gx:=gg.wt _ (c8 lk);change tSeq _ _ _ _ _;refine aU (λN=>∀u,Rep H0 (jU x) u->N [some (.ref c),some (.ref sa),some u] H) ?_ (λN hN=>?_)
  case refine_2=>
   dsimp?[bR,fm];exact⟨_,_,h1,lp,H0,s0,g,Tx,nm,ns,st,x,lk,λu ru=>hN u ru⟩
  rintro u ru;cases x with
  | pick w' rs=>
   symm;obtain⟨p,x1,x2,x3,rfl,hp,r1,r2,r3⟩:=dQ.mp (show Rep H0 (.tup _) u from ru);rw[aR] at r1;subst r1;obtain⟨rl,xs,rfl,qL,BP⟩:=bh.mp r3;have len:=BP.length;rw[ZA,ZA] at len;obtain⟨g1,g2⟩:=gx;nofun;have zl:(xs.zip rs).length=xs.length:=by rw[aaq];lia
   dsimp?[s0 _ _ hp];refine⟨⟨_,bL.of (s0 _ _ qL)⟩,?_⟩;have S:Src (xC K rl) (aF H) xs.length _:=src_list (λH' s'=>bL.of (s' _ _ (s0 _ _ qL)));rw[<-zl] at S;refine eB (xs.zip rs) (λx=>if lL g.cs ns x.2.wh=true then some x.1 else none) S (λ_ _ _ _ h=>h.1) (by lia) ?_ ?_
   ·rintro i ⟨x,r⟩ y NT ⟨_,ey⟩ Y N y1 y2;obtain⟨e1,e2⟩:=List.getElem?_zip_eq_some.mp NT;rw[e1] at ey;cases ey;symm;obtain⟨r',p',a',b',c',d',er,rfl,t8,rb,_⟩:=jM BP e1;nofun;rw[e2] at er;cases er;dsimp?[bR,EI,s0 _ _ t8,gQ];exact⟨_,_,h1,CV,g,co,ns,_,rb.mono s0,hl,ln,iS (λc=>y1 _ (if_pos c)) (λc=>y2 (if_neg c))⟩
   ·intro D n1 n2;exact kk D _ _ (aD n2) n2 aj (iw BP)
  | ask _ _ _ _=>
   symm;obtain⟨p,x1,x2,x3,x4,x5,rfl,hp,r1,r2,r3,r4,r5⟩:=wD.mp (show Rep H0 (.tup _) u from ru);rw[aR] at r1;subst r1;nofun;dsimp?[s0 _ _ hp];rw[if_pos ∅];exact⟨ZM _,λD nD=>kk D _ _ (aD nD) nD aj (bI.mpr rfl)⟩
  | fin _ _=>
   symm;obtain⟨p,x1,x2,rfl,hp,r1,r2⟩:=bN.mp (show Rep H0 (.tup _) u from ru);rw[aR] at r1;subst r1;nofun;dsimp?[s0 _ _ hp];rw[if_pos ∅];exact⟨ZM _,λD nD=>kk D _ _ (aD nD) nD aj (bI.mpr rfl)⟩
  | score _=>
   symm;obtain⟨p,x1,x2,rfl,hp,r1,r2⟩:=bN.mp (show Rep H0 (.tup _) u from ru);rw[aR] at r1;subst r1;nofun;dsimp?[s0 _ _ hp];rw[if_pos ∅];exact⟨ZM _,λD nD=>kk D _ _ (aD nD) nD aj (bI.mpr rfl)⟩
  | dN _ _ _ _=>
   symm;obtain⟨p,x1,x2,x3,x4,rfl,hp,r1,r2,r3,r4⟩:=dr.mp (show Rep H0 (.tup _) u from ru);rw[aR] at r1;subst r1;nofun;dsimp?[s0 _ _ hp];rw[if_pos ∅];exact⟨ZM _,λD nD=>kk D _ _ (aD nD) nD aj (bI.mpr rfl)⟩
theorem gc:aZ ["self","state"] ["self","state"] (aq (inClass (top 40) 11)):=⟨rfl,rfl,rfl,∅,rfl,∅,∅⟩
theorem K7 (T:Txt K mg aB aH aI aV aE aL aW aM aA aN aX af av):bD P w K mg base (br P w) 3 af "words_at" ["self","state"] (EL af):=by
 have d9:bD P w K mg base (br P w) 2 af "open_rows" ["self","state"] (yx af):=EX T;refine T.lK.dJ (λ_ _ _ _ _ _=>eG λ_ _=>rfl) λf fd F=>F.eC gc (λvs H Q E h=>?_) (λcf A outer s H vs Q E hr h=>?_)
 ·obtain⟨_,_,_,_,_,_,rfl,_⟩:=h;rfl
 ·symm;obtain⟨c,v,g,nm,ns,x,rfl,co,gg,st,ln,lk,kk⟩:=h;nofun;clear G_;have nd:=gc.nd;refine⟨_,(ao (aY (cO rfl (N:=["self","state"]) (so:=aq (inClass (top 40) 11)) (N':=["row"]) (k:=1) (fr:=[]) rfl rfl ⟨rfl,∅,∅,∅,rfl,∅,∅⟩ (bA (K:=K) (c9 d9 T.aS (pv 0) (hr.mono ∅) au.pass (aa (pv 1) ag (se rfl)) (hst:=se rfl) (hpl:=na rfl))) (λ_ _ _ _ _=>(a9 (i:=0) (show(["row"]:List Str).Nodup by decide +kernel) rfl (.inl rfl))) (λ_ _ _ _ _=>dH)
   (λ_ _ _ _ _=>(ar ai (pv 0) ae (λ_ _=>rfl)))))),?_⟩
  have sl:=sizeLine_eq;symm;obtain⟨dx,sp,mo,wh,tb,us,Df,h1,h2,h3,h4,h5,h6⟩:=id co;nofun;clear G_;have lp:∀{a b c d e:V},List.lookup (Zz "open_rows") [(Zz "spots",a),(Zz "mosts",b),(Zz "first",c),(Zz "whats",d),(Zz "tables",e)]=none:=dX (by decide +kernel) (by decide +kernel) (by decide +kernel) (by decide +kernel) (by decide +kernel);have gx:=gg.wt _ (c8 lk);have Ma:(cj g.cs ns x).length<=100:=by
   cases x with
   | pick w' rs=>exact ZN (List.length_filter_le _ _) gx.1
   | _=>exact ZM _
  dsimp?[bR,yx];refine⟨_,_,h1,lp,H,aF.refl _,g,co,gg,nm,ns,st,ln,x,lk,λrl xs H1 s1 n1 qL Rc=>?_⟩;generalize cj g.cs ns x=rs at *;have BP:=Rc.mono s1;have len:=BP.length;rw[ZA,ZA] at len;have zl:(xs.zip rs).length=xs.length:=by rw[aaq];lia
  refine⟨⟨_,bL.of qL⟩,?_⟩;have S:Src (xC K rl) (aF H1) xs.length _:=src_list (λH' s'=>bL.of (s' _ _ qL));rw[<-zl] at S;refine eB (xs.zip rs) (λx=>some (.str x.2.word)) S (λ_ _ _ _ h=>h.1) (by lia) ?_ ?_
  ·rintro i ⟨x,r⟩ y NT ⟨_,ey⟩ Y N y1 y2;obtain⟨e1,e2⟩:=List.getElem?_zip_eq_some.mp NT;rw[e1] at ey;cases ey;symm;obtain⟨r',p',a',b',c',d',er,rfl,t8,rb,_⟩:=jM BP e1;nofun;rw[e2] at er;cases er;dsimp?[t7,t8];exact y1 _ rfl
  ·intro D Rf n2;have e:(xs.zip rs).filterMap (λx=>some (V.str x.2.word))=rs.map λr=>V.str r.word:=by
    rw[Hc];have:(xs.zip rs).map (λx=>V.str x.2.word)=((xs.zip rs).map Prod.snd).map λr=>V.str r.word:=by rw[Z1];rfl
    rw[this,List.map_snd_zip (by lia)]
   rw[e];exact kk D _ (s1.trans (aD n2)) (none_of s1 n2) (bh.mpr ⟨D,_,rfl,aj,(vo BP).mono (aD n2)⟩)
theorem fB:aZ ["self","state","what"] ["self","state"] (aq (inClass (top 40) 12)):=⟨rfl,rfl,rfl,∅,rfl,∅,∅⟩
theorem K8 (T:Txt K mg aB aH aI aV aE aL aW aM aA aN aX af av):bD P w K mg base (br P w) 2 af "end_worth" ["self","state"] (EM af):=by
 have bu:bD P w K mg base (br P w) 1 af "what_at" ["self","state"] (fm af):=lO T;refine T.jS.dJ (λ_ _ _ _ _ _=>eG λ_ _=>rfl) λf fd F=>F.eC fB (λvs H Q E h=>?_) (λcf A outer s H vs Q E hr h=>?_)
 ·obtain⟨_,_,_,_,_,_,_,_,rfl,_⟩:=h;rfl
 ·symm;obtain⟨c,v,g,nm,ns,x,t,b,rfl,co,gg,st,ln,lk,ew,kk⟩:=h;nofun;have nd:=fB.nd;refine⟨_,(ah (aJ (i:=2) nd rfl (.inl rfl) (c9 bu T.aS (pv 0) (hr.mono ∅) au.pass (aa (pv 1) ag (se rfl)) (hst:=se rfl) (hpl:=na rfl)))
  (ao (aY (mz (aP bG (ar ai (pv 2) ae (λ_ _=>rfl)) a7 (a5 _)) (ar ai (pv 2) ae (λ_ _=>rfl)) (bf (aa (ar a4 (ar ai (pv 1) ae (λ_ _=>rfl)) (cH (cE hr) (bp (pv 0) rfl) (ar ai (pv 2) ae (λ_ _=>rfl)) (λ_ _=>rfl)) (λ_ _=>rfl)) (aa ae ag (se rfl)) (se rfl))))))),?_⟩
  have sl:=sizeLine_eq;symm;obtain⟨dx,sp,mo,wh,tb,us,Df,h1,h2,h3,h4,h5,h6⟩:=id co;obtain⟨sa,l,rfl,gQ,hl⟩:=id st;nofun;have lp:∀{a b c d e:V},List.lookup (Zz "what_at") [(Zz "spots",a),(Zz "mosts",b),(Zz "first",c),(Zz "whats",d),(Zz "tables",e)]=none:=dX (by decide +kernel) (by decide +kernel) (by decide +kernel) (by decide +kernel) (by decide +kernel);have gx:=gg.wt _ (c8 lk);change tSeq _ _ _ _ _;refine aU (λN=>∀u,Rep H (jU x) u->N [some (.ref c),some (.ref sa),some u] H) ?_ (λN hN=>?_)
  case refine_2=>
   dsimp?[bR,fm];exact⟨_,_,h1,lp,H,aF.refl _,g,co,nm,ns,st,x,lk,λu ru=>hN u ru⟩
  rintro u ru;cases x with
  | fin t' b'=>
   symm;obtain⟨p,x1,x2,rfl,hp,r1,r2⟩:=bN.mp (show Rep H (.tup _) u from ru);rw[aR] at r1;subst r1;nofun;cases ew;dsimp?[df,hp];exact kk _ _ (aF.refl _) r2
  | score c'=>
   symm;obtain⟨p,x1,x2,rfl,hp,r1,r2⟩:=bN.mp (show Rep H (.tup _) u from ru);rw[aR] at r1 r2;subst r1 r2;nofun;cases ew;have hs:=fK (cs:=g.cs) gx;dsimp?[df,hp,gQ];rw[if_neg ∅];refine⟨_,_,_,h1,T.aS,T.na_Course_spots,_,kJ,_,rfl,_,iu h2 gx,_,_,rfl,hl,_,eR (by lia),∅,λp' H2 s2 np e2=>kk _ _ s2 (bN.mpr ⟨p',_,_,rfl,e2,bF.mpr rfl,bF.mpr rfl⟩)⟩
  | ask _ _ _ _=>cases ew
  | pick _ _=>cases ew
  | dN _ _ _ _=>cases ew
theorem Jg {H X H' qK:Hp} (k:Kp H' qK):Kp (nw H X H') (nw H X qK):=λa=>by
 cases c:H a with
 | none=>rw[cC c,cC c];exact k a
 | some x=>unfold nw;rw[c];exact⟨λ_ h=>h,λ_ h=>h⟩
noncomputable def EY (q:Addr):Sp:=λvs H Q _=>∃(c:Addr) (dx:Addr) (gv:V) (X:Hp) (g:Gm),vs=[.ref c,gv]/\H c=some (.ins q dx [])/\aF X H/\X c=none/\Rep X (Av g) gv/\GoodG g/\∀tb H',(∀a o,a≠c->H a=some o->H' a=some o)->H tb=none->H' tb=some (.dK [])->CU q (cX (nw (cX H c) X H') tb) c g tb->Q .cW H'
theorem gh:aZ ["self","game","spot","count","name","what"] ["self","game"] (aq (inClass (top 40) 0)):=⟨rfl,rfl,rfl,∅,rfl,∅,∅⟩
theorem NU (T:Txt K mg aB aH aI aV aE aL aW aM aA aN aX af av):vi P w K mg base (br P w) 3 "Course" af ["self","game"] (EY af):=by
 have AA:cg P w K mg base (br P w) 2 "own_what" ["what"] EO:=NQ T;refine T.CQ.dJ (λ_ _ _ _ _ _=>eG λ_ _=>rfl) λf fd F=>F.eC gh (λvs H Q E h=>?_) (λcf A outer s H vs Q E hr h=>?_)
 ·obtain⟨_,_,_,_,_,rfl,_⟩:=h;rfl
 ·symm;obtain⟨c,dx,gv,X,g,rfl,hc,sx,xc,rg,gg,kk⟩:=h;nofun;clear G_;have nd:=gh.nd;refine⟨_,(ah (eO (pv 0) gU rfl)
  (ah (eO (pv 0) (cb ag) rfl)
  (ah (cS PassesOwn.never rfl (ub (K:=K) rfl T.z_enumerate (aa (ar ai (pv 1) ae (λ_ _=>rfl)) ag (se rfl))) (fJ (K:=K) (n:=2) rfl (bX (a9 (i:=2) nd rfl (.inl rfl)) (bX (a9 (i:=3) nd rfl (.inl rfl)) fI))) (ah (eE (cE hr) (bp (pv 0) rfl) (ar ai (pv 3) ae (λ_ _=>rfl)) (pv 2) rfl)
  (ao (b6 (fi Z5 aar aas dG.r (bp (pv 0) rfl) (aa (ar ai (pv 3) ae (λ_ _=>rfl)) ag (se rfl)))))))
  (ah (eO (pv 0) (ar ai (ar a4 (ar ai (pv 1) ae (λ_ _=>rfl)) ae (λ_ _=>rfl)) ae (λ_ _=>rfl)) rfl)
  (ah (eO (pv 0) gU rfl)
  (ah (cS PassesOwn.never rfl (bA (K:=K) (ar ai (pv 1) ae (λ_ _=>rfl))) (fJ (K:=K) (n:=2) rfl (bX (a9 (i:=4) nd rfl (.inl rfl)) (bX (a9 (i:=5) nd rfl (.inl rfl)) fI))) (ao (eE (cE hr) (bp (pv 0) rfl) (pv 4) (aO AA (hr.mono ∅) rfl au.pass (aa (pv 5) ag (se rfl)) (he:=se rfl) (hpl:=na rfl)) rfl)))
  (ao (eO (pv 0) gU rfl)))))))),?_⟩
  refine(?_:let bY:TS:=_;let bZ:TS:=_;let b5:TS:=_;let cY:TS:=_;let pP:TS:=_;let yE:TS:=_;let EZ:TS:=_;tSeq bY (tSeq bZ (tSeq b5 (tSeq cY (tSeq pP (tSeq yE EZ))))) _ _ _);intro bY bZ b5 cY pP yE EZ;have sl:=sizeLine_eq;have np:=gg.np;have nc:=gg.nc;have lc:=gg.lc;have YX:=gg.lp;have p0:=gg.p0;symm;obtain⟨gp,g0,g1,rfl,zm,rc,rp⟩:=bN.mp (show Rep X (.tup _) gv from rg);obtain⟨cl,yG,rfl,fX,tZ⟩:=bh.mp (show Rep X (.lst _) g0 from rc);obtain⟨pl,E1,rfl,hpl,Gp⟩:=bh.mp (show Rep X (.lst _) g1 from rp);nofun;clear G_;have zm:=sx _ _ zm;have fX:=sx _ _ fX;have hpl:=sx _ _ hpl;have Rg:cX H c c=none:=if_pos rfl;have E2:∀{a},H a=none->cX H c a=none:=λ{a} h=>by
   unfold cX
   split
   ·rfl
   ·exact h
  have AB:=tZ.length;rw[ZA] at AB;have NV:=Gp.length;rw[ZA] at NV;change tSeq _ _ _ _ _;let K1:Hp->Prop:=λH1=>∀a o,a≠c->H a=some o->H1 a=some o;have kp:∀{H1},K1 H1->Kp H H1:=λ{H1} k a=>by
   by_cases z:a=c
   ·subst z;rw[hc];exact⟨(λ_ e=>by cases e),(λ_ e=>by cases e)⟩
   ·exact⟨λ_=>k _ _ z,λ_=>k _ _ z⟩
  have AD:∀{H1 a vs},K1 H1->H a=some (.tup vs)->H1 a=some (.tup vs):=λk e=>((kp k) _).1 _ e;have E3:∀{H1 a vs},K1 H1->H a=some (.lst vs)->H1 a=some (.lst vs):=λk e=>((kp k) _).2 _ e;refine aU (λN=>∀H1,K1 H1->(∃sp,sp≠c/\H sp=none/\H1 c=some (.ins af dx [(Zz "spots",.ref sp)])/\H1 sp=some (.dK []))->N [some (.ref c),some (.ref gp),none,none,none,none] H1) ?_ (λN hN=>?_)
  case refine_2=>
   dsimp?[om,tDNewK];intro sp K9;have e1:sp≠c:=λz=>by rw[z,hc] at K9;cases K9
   refine⟨_,_,_,by rw[aw (Ne.symm e1)];exact hc,T.aS,T.na_Course_spots,∅,hN _ (λa o ac ha=>?_) ⟨sp,e1,K9,aj,by rw[aw e1,aj]⟩⟩;rw[aw ac,aw (λz=>by rw[z,K9] at ha;cases ha)];exact ha
  intro H1 k1 dA;symm;obtain⟨sp,Mj,K9,Rh,NW⟩:=dA;nofun;clear G_;change tSeq _ _ _ _ _;refine aU (λN=>∀H2,K1 H2->(∃mo,mo≠c/\mo≠sp/\H mo=none/\H2 c=some (.ins af dx [(Zz "spots",.ref sp),(Zz "mosts",.ref mo)])/\H2 sp=some (.dK [])/\H2 mo=some (.lst []))->N [some (.ref c),some (.ref gp),none,none,none,none] H2) ?_ (λN hN=>?_)
  case refine_2=>
   dsimp?[om];refine⟨ZM _,λmo HN=>?_⟩;have e1:mo≠c:=λz=>by rw[z,Rh] at HN;cases HN
   have e2:mo≠sp:=λz=>by rw[z,NW] at HN;cases HN
   have n0:H mo=none:=by
    cases h0:H mo with
    | none=>rfl
    | some o=>rw[k1 _ _ e1 h0] at HN;cases HN
   refine⟨_,_,_,by rw[aw (Ne.symm e1)];exact Rh,T.aS,T.na_Course_mosts,by show(1:Nat)<1000;decide,hN _ (λa o ac ha=>?_) ⟨mo,e1,e2,n0,?_,by rw[aw Mj,aw (Ne.symm e2)];exact NW,by rw[aw e1,aj]⟩⟩
   ·rw[aw ac,aw (λz=>by rw[z,n0] at ha;cases ha)];exact k1 _ _ ac ha
   ·rw[aj];show some (HO.ins _ _ (if Zz "spots"=Zz "mosts" then _ else _))=_;rw[if_neg ∅];rfl
  intro H2 k2 dA;symm;obtain⟨mo,Pd,NX,HN,Tz,Ri,Rj⟩:=dA;nofun;clear G_;change tSeq _ _ _ _ _;refine aU (λN=>∀H3,K1 H3->H3 c=some (.ins af dx [(Zz "spots",.ref sp),(Zz "mosts",.ref mo)])->H3 sp=some (.dK (si g.cs 0))->H3 mo=some (.lst ((g.cs.map (·.2)).map V.int))->∀z1 z2,N [some (.ref c),some (.ref gp),z1,z2,none,none] H3) ?_ (λN hN=>?_)
  case refine_2=>
   dsimp?[iEnum,AD k2 zm];refine⟨⟨_,bL.of (E3 k2 fX)⟩,cu (D5 (Ok:=K1) (λH' k=>bL.of (E3 k fX))) (λi σ H'=>K1 H'/\H' c=some (.ins af dx [(Zz "spots",.ref sp),(Zz "mosts",.ref mo)])/\H' sp=some (.dK (si (g.cs.take i) 0))/\H' mo=some (.lst (((g.cs.take i).map (·.2)).map V.int))/\∃z1 z2,σ=[some (.ref c),some (.ref gp),z1,z2,none,none]) ⟨k2,Tz,Ri,Rj,_,_,rfl⟩ (λ_ _ _ _ h=>h.1) ?_ ?_⟩
   ·intro i x σ H3 H4 hi gN gO;symm;obtain⟨k3,Ml,AE,AF,z1,z2,rfl⟩:=gN;obtain⟨t,y,nt,rfl,ey,rfl⟩:=gO;obtain⟨d0,ed,rd⟩:=tZ.get ey;rw[ZE] at ed;obtain⟨cn,ec,rfl⟩:=aaH.mp ed;obtain⟨cp,y1,y2,rfl,Jh,r1,r2⟩:=bN.mp (show Rep X (.tup _) y from rd);rw[aR] at r1;rw[bF] at r2;subst r1 r2;nofun;clear G_;have Jh:=sx _ _ Jh;have tk:g.cs.take (i+1)=g.cs.take i++ [cn]:=by rw[Z2,ec];rfl
    have nn:cn.1∉(g.cs.take i).map (·.1):=by
     rw[List.map_take];exact yy nc (by rw[ZE,ec];rfl)
    have tc:t≠c:=λz=>by rw[z,Ml] at nt;cases nt
    have ts:t≠sp:=λz=>by rw[z,AE] at nt;cases nt
    have tm:t≠mo:=λz=>by rw[z,AF] at nt;cases nt
    have k4:K1 (upd H3 t (.tup [.int (i:Int),.ref cp])):=λa o ac ha=>aD nt _ _ (k3 a o ac ha);have Mm:upd H3 t (.tup [.int (i:Int),.ref cp]) c=_:=aD nt _ _ Ml;have HP:upd H3 t (.tup [.int (i:Int),.ref cp]) sp=_:=aD nt _ _ AE;have HQ:upd H3 t (.tup [.int (i:Int),.ref cp]) mo=_:=aD nt _ _ AF;refine⟨t,_,rfl,kz.of aj,rfl,?_⟩;generalize upd H3 t (.tup [.int (i:Int),.ref cp])=H4 at *;have We:(si (g.cs.take i) 0).length<sizeLine:=by rw[BG,ZV];lia
    have k5:K1 (upd H4 sp (.dK (putK (si (g.cs.take i) 0) (Sum.inr cn.1) (.int (i:Int))))):=λa o ac ha=>by
     rw[aw (λz=>by rw[z,K9] at ha;cases ha)];exact k4 a o ac ha
    dsimp?[sDPut,df,eQ,AD k4 Jh];have Pe:dP (si (g.cs.take i) 0) (Sum.inr cn.1)=none:=sj nn;rw[jK Pe] at k5;have lt:(g.cs.take i).length=i:=by rw[ZV];lia
    have HR:∀o,upd H4 sp o mo=some (.lst (((g.cs.take i).map (·.2)).map V.int)):=λo=>by rw[aw NX];exact HQ
    have ty:∀o,OR K "list" (.ref mo) (upd H4 sp o):=λo=>.inl ⟨rfl,_,bL.of (HR o)⟩;refine⟨_,_,_,Mm,T.aS,T.na_Course_spots,_,aac,_,rfl,_,.inl ⟨_,Sum.inr cn.1,HP,rfl,We,rfl⟩,?_⟩;rw[jK Pe];refine⟨_,_,_,by rw[aw (Ne.symm Mj)];exact Mm,T.aS,T.na_Course_mosts,_,by rw[bM ∅];exact aac,ty _,_,AD k5 Jh,_,rfl,_,rfl,_,HR _,by rw[ZA,ZA];lia,?_⟩;refine⟨?_,?_,?_,?_,_,rfl⟩
    ·intro a o ac ha;rw[aw (λz=>by rw[z,HN] at ha;cases ha)];exact k5 a o ac ha
    ·rw[aw (Ne.symm Pd),aw (Ne.symm Mj)];exact Mm
    ·rw[aw (Ne.symm NX),aj,tk,yt,lt,Nat.zero_add]
    ·rw[aj,tk,ZG,ZG];rfl
   ·intro σ H3 dA;symm;obtain⟨k3,Ml,AE,AF,z1,z2,rfl⟩:=dA;nofun;rw[<-AB,ZQ (ZD _)] at AE AF;exact hN _ k3 Ml AE AF _ _
  rintro H3 k3 Ml AE AF z1 z2;obtain⟨⟨n0,x0⟩,TB⟩:∃x,g.ps[0]?=some x:=⟨_,ZH p0⟩
  obtain⟨v0,Wf,Rk⟩:=Gp.at (by rw[ZE,TB];rfl);change tSeq _ _ _ _ _;refine aU (λN=>∀H4,K1 H4->H4 c=some (.ins af dx [(Zz "spots",.ref sp),(Zz "mosts",.ref mo),(Zz "first",.str n0)])->H4 sp=some (.dK (si g.cs 0))->H4 mo=some (.lst ((g.cs.map (·.2)).map V.int))->N [some (.ref c),some (.ref gp),z1,z2,none,none] H4) ?_ (λN hN=>?_)
  case refine_2=>
   dsimp?[om,AD k3 zm];symm;obtain⟨q0,a1,a2,rfl,Ji,b1,_⟩:=bN.mp (show Rep X (.tup _) v0 from Rk);rw[aR] at b1;subst b1;nofun;have Ji:=sx _ _ Ji;have at0:iX E1 0=some (.ref q0):=(bT Wf:iX E1 ((0:Nat):Int)=_)
   refine⟨_,E3 k3 hpl,_,at0,_,rfl,_,AD k3 Ji,_,rfl,_,_,_,Ml,T.aS,T.na_Course_first,by show(2:Nat)<1000;decide,hN _ (λa o ac ha=>?_) ?_ (by rw[aw Mj];exact AE) (by rw[aw Pd];exact AF)⟩
   ·rw[aw ac];exact k3 _ _ ac ha
   ·rw[aj];show some (HO.ins _ _ (if Zz "spots"=Zz "first" then _ else _::(if Zz "mosts"=Zz "first" then _ else _)))=_;rw[if_neg (by decide +kernel),if_neg (by decide +kernel)];rfl
  rintro H4 k4 Mm HP HQ;change tSeq _ _ _ _ _;refine aU (λN=>∀H5,K1 H5->(∃wh,wh≠c/\wh≠sp/\wh≠mo/\H wh=none/\H5 c=some (.ins af dx [(Zz "spots",.ref sp),(Zz "mosts",.ref mo),(Zz "first",.str n0),(Zz "whats",.ref wh)])/\H5 sp=some (.dK (si g.cs 0))/\H5 mo=some (.lst ((g.cs.map (·.2)).map V.int))/\H5 wh=some (.dK []))->N [some (.ref c),some (.ref gp),z1,z2,none,none] H5) ?_ (λN hN=>?_)
  case refine_2=>
   dsimp?[om,tDNewK];intro wh E4;have e1:wh≠c:=λz=>by rw[z,Mm] at E4;cases E4
   have e2:wh≠sp:=λz=>by rw[z,HP] at E4;cases E4
   have e3:wh≠mo:=λz=>by rw[z,HQ] at E4;cases E4
   have n0:H wh=none:=by
    cases h0:H wh with
    | none=>rfl
    | some o=>rw[k4 _ _ e1 h0] at E4;cases E4
   refine⟨_,_,_,by rw[aw (Ne.symm e1)];exact Mm,T.aS,T.na_Course_whats,by show(3:Nat)<1000;decide,hN _ (λa o ac ha=>?_) ⟨wh,e1,e2,e3,n0,?_,by rw[aw Mj,aw (Ne.symm e2)];exact HP,by rw[aw Pd,aw (Ne.symm e3)];exact HQ,by rw[aw e1,aj]⟩⟩
   ·rw[aw ac,aw (λz=>by rw[z,n0] at ha;cases ha)];exact k4 _ _ ac ha
   ·rw[aj];show some (HO.ins _ _ (if Zz "spots"=Zz "whats" then _ else _::(if Zz "mosts"=Zz "whats" then _ else _::(if Zz "first"=Zz "whats" then _ else _))))=_;rw[if_neg (by decide +kernel),if_neg (by decide +kernel),if_neg (by decide +kernel)];rfl
  intro H5 k5 dA;symm;obtain⟨wh,TC,Rl,Rm,E4,Wg,Rn,HR,Ro⟩:=dA;nofun;change tSeq _ _ _ _ _;refine aU (λN=>∀H6,K1 H6->H6 c=some (.ins af dx [(Zz "spots",.ref sp),(Zz "mosts",.ref mo),(Zz "first",.str n0),(Zz "whats",.ref wh)])->H6 sp=some (.dK (si g.cs 0))->H6 mo=some (.lst ((g.cs.map (·.2)).map V.int))->(∃us,H6 wh=some (.dK us)/\sr (nw (cX H c) X H6) g.ps us)->∀z3 z4,N [some (.ref c),some (.ref gp),z1,z2,z3,z4] H6) ?_ (λN hN=>?_)
  case refine_2=>
   dsimp?[AD k5 zm];refine⟨⟨_,bL.of (E3 k5 hpl)⟩,cu (src_list (Ok:=K1) (λH' k=>bL.of (E3 k hpl))) (λi σ H'=>K1 H'/\H' c=some (.ins af dx [(Zz "spots",.ref sp),(Zz "mosts",.ref mo),(Zz "first",.str n0),(Zz "whats",.ref wh)])/\H' sp=some (.dK (si g.cs 0))/\H' mo=some (.lst ((g.cs.map (·.2)).map V.int))/\(∃us,H' wh=some (.dK us)/\sr (nw (cX H c) X H') (g.ps.take i) us)/\∃z3 z4,σ=[some (.ref c),some (.ref gp),z1,z2,z3,z4]) ⟨k5,Wg,Rn,HR,⟨[],Ro,rfl⟩,_,_,rfl⟩ (λ_ _ _ _ h=>h.1) ?_ ?_⟩
   ·intro i x σ H7 H6 hi gN gO;symm;obtain⟨k6,HS,CW,CY,⟨us,yH,wk⟩,z3,z4,rfl⟩:=gN;obtain⟨rfl,ey⟩:=gO;obtain⟨d0,ed,rd⟩:=Gp.get ey;rw[ZE] at ed;obtain⟨pn,ec,rfl⟩:=aaH.mp ed;obtain⟨cp,y1,y2,rfl,Jh,r1,r2⟩:=bN.mp (show Rep X (.tup _) x from rd);rw[aR] at r1;subst r1;nofun;have Jh:=sx _ _ Jh;have Wh:aF X H6:=λa o h=>k6 _ _ (λz=>by rw[z,xc] at h;cases h) (sx _ _ h);have tk:g.ps.take (i+1)=g.ps.take i++ [pn]:=by rw[Z2,ec];rfl
    have nn:pn.1∉(g.ps.take i).map (·.1):=by
     rw[List.map_take];exact yy np (by rw[ZE,ec];rfl)
    have Pe:=wk.none nn;have YY:us.length<=100:=by rw[wk.len,ZV];lia
    refine⟨cp,_,rfl,kz.of (AD k6 Jh),rfl,?_⟩;dsimp?[sDPut,df,EO];refine⟨X,Wh,_,r2,_,gg.wt _ (ZS ec),λu H7 s7 ru=>?_⟩;refine⟨_,_,_,s7 _ _ HS,T.aS,T.na_Course_whats,_,by rw[bM ∅,bM ∅,bM ∅];exact aac,_,rfl,_,.inl ⟨_,Sum.inr pn.1,s7 _ _ yH,rfl,by lia,rfl⟩,?_⟩;rw[jK Pe];have kq:Kp H7 (upd H7 wh (.dK (us++ [(Sum.inr pn.1,u)]))):=Kp.upd (λvs e=>by rw[s7 _ _ yH] at e;cases e) (λvs e=>by rw[s7 _ _ yH] at e;cases e);refine⟨λa o ac ha=>?_,by rw[aw (Ne.symm TC)];exact s7 _ _ HS,by rw[aw (Ne.symm Rl)];exact s7 _ _ CW,by rw[aw (Ne.symm Rm)];exact s7 _ _ CY,⟨_,aj,?_⟩,_,rfl⟩
    ·rw[aw (λz=>by rw[z,E4] at ha;cases ha)];exact s7 _ _ (k6 _ _ ac ha)
    ·rw[tk];have kn:Kp (nw (cX H c) X H7) (nw (cX H c) X (upd H7 wh (.dK (us++ [(Sum.inr pn.1,u)])))):=Jg kq;refine sr.snoc (kn.rep (ru.mono λa o h=>?_)) (kn.Q7 (wk.mono (mY s7)));cases h6:H6 a with
     | none=>
      rw[cC h6] at h;have ac:a≠c:=λz=>by rw[z,HS] at h6;cases h6
      have h0:H a=none:=by
       cases h0:H a with
       | none=>rfl
       | some o=>rw[k6 _ _ ac h0] at h6;cases h6
      rw[cC (E2 h0)];exact h
     | some o6=>
      unfold nw at h;rw[h6] at h;exact kK (λa o hx=>by rw[cV (λz=>by rw[z,xc] at hx;cases hx)];exact sx _ _ hx) _ _ h
   ·intro σ H6 dA;symm;obtain⟨k6,HS,CW,CY,⟨us,yH,wk⟩,z3,z4,rfl⟩:=dA;nofun;rw[<-NV,ZQ (ZD _)] at wk;exact hN _ k6 HS CW CY ⟨us,yH,wk⟩ _ _
  intro H6 k6 HS CW CY Wi z3 z4;symm;obtain⟨us,yH,wk⟩:=Wi;nofun;dsimp?[om,tDNewK];intro tb sI;have e1:tb≠c:=λz=>by rw[z,HS] at sI;cases sI
  have e2:tb≠sp:=λz=>by rw[z,CW] at sI;cases sI
  have e3:tb≠mo:=λz=>by rw[z,CY] at sI;cases sI
  have e4:tb≠wh:=λz=>by rw[z,yH] at sI;cases sI
  have AG:H tb=none:=by
   cases h0:H tb with
   | none=>rfl
   | some o=>rw[k6 _ _ e1 h0] at sI;cases sI
  refine⟨_,_,_,by rw[aw (Ne.symm e1)];exact HS,T.aS,T.na_Course_tables,by show(4:Nat)<1000;decide,kk tb _ (λa o ac ha=>?_) AG (by rw[aw e1,aj]) ⟨dx,sp,mo,wh,us,n0,?_,by rw[cV (Ne.symm e2),cC (E2 K9),aw Mj,aw (Ne.symm e2)];exact CW,by rw[cV (Ne.symm e3),cC (E2 HN),aw Pd,aw (Ne.symm e3)];exact CY,by rw[cV (Ne.symm e4),cC (E2 E4),aw TC,aw (Ne.symm e4)];exact yH,?_,?_⟩⟩
  ·rw[aw ac,aw (λz=>by rw[z,AG] at ha;cases ha)];exact k6 _ _ ac ha
  ·rw[cV (Ne.symm e1),cC Rg,aj];show some (HO.ins _ _ (if Zz "spots"=Zz "tables" then _ else _::(if Zz "mosts"=Zz "tables" then _ else _::(if Zz "first"=Zz "tables" then _ else _::(if Zz "whats"=Zz "tables" then _ else _)))))=_;rw[if_neg (by decide +kernel),if_neg (by decide +kernel),if_neg (by decide +kernel),if_neg (by decide +kernel)];rfl
  ·have MJ:upd H6 tb (.dK []) c=_:=(aw (Ne.symm e1)).trans HS;refine((Jg ((Kp.of (aD sI)).trans (Kp.upd (o:=_) (λvs e=>by rw[MJ] at e;cases e) (λvs e=>by rw[MJ] at e;cases e)))).trans (Kp.cX (tb:=tb) (kvs:=[]) ?_)).Q7 wk;rw[cC (E2 AG),aw e1,aj]
  ·rw[List.head?_map,List.head?_eq_getElem?,TB];rfl
theorem gi:aZ ["self","state"] ["self","state"] (aq (inClass (top 40) 8)):=⟨rfl,rfl,rfl,∅,rfl,∅,∅⟩
theorem yI {a b c d e:V}:List.lookup (Zz "tables") [(Zz "spots",a),(Zz "mosts",b),(Zz "first",c),(Zz "whats",d),(Zz "tables",e)]=some e:=by
 rw[bM ∅,bM ∅,bM ∅,bM ∅];exact aac
theorem La (T:Txt K mg aB aH aI aV aE aL aW aM aA aN aX af av):bD P w K mg base (br P w) 7 af "table_at" ["self","state"] (EN af):=by
 have bu:bD P w K mg base (br P w) 1 af "what_at" ["self","state"] (fm af):=lO T;have wK:cg P w K mg base (br P w) 6 "pool_table" ["pool"] KU:=NO T;refine T.lJ.dJ (λ_ _ _ _ _ _=>eG λ_ _=>rfl) λf fd F=>F.eC gi (λvs H Q E h=>?_) (λcf A outer s H vs Q E hr h=>?_)
 ·obtain⟨_,_,_,_,_,_,_,_,_,_,_,rfl,_⟩:=h;rfl
 ·symm;obtain⟨c,sv,g,nm,ns,tb,kvs,ps,t,b,rs,rfl,co,st,sJ,TF,lk,gl,l4,kF,kN⟩:=h;nofun;have nd:=gi.nd;refine⟨_,(ah (bw (Dr (va (cE hr) (ar ai (pv 1) ae (λ_ _=>rfl)) (bp (pv 0) rfl))) (ao (eE (cE hr) (bp (pv 0) rfl) (ar ai (pv 1) ae (λ_ _=>rfl)) (aO wK (hr.mono ∅) rfl au.pass (aa (ar ai (c9 bu T.aS (pv 0) (hr.mono ∅) au.pass (aa (pv 1) ag (se rfl)) (hst:=se rfl) (hpl:=na rfl)) ae (λ_ _=>rfl)) ag (se rfl)) (he:=se rfl) (hpl:=na rfl)) rfl))
   ba)
  (ao (aY (cH (cE hr) (bp (pv 0) rfl) (ar ai (pv 1) ae (λ_ _=>rfl)) (λ_ _=>rfl))))),?_⟩
  have sl:=sizeLine_eq;symm;obtain⟨dx,sp,mo,wh,us,Df,h1,h2,h3,h4,h5,h6⟩:=id co;obtain⟨sa,cl,rfl,gQ,fX⟩:=id st;nofun;have Mn:=dh _ _ h1;have lp:∀{a b c d e:V},List.lookup (Zz "what_at") [(Zz "spots",a),(Zz "mosts",b),(Zz "first",c),(Zz "whats",d),(Zz "tables",e)]=none:=dX (by decide +kernel) (by decide +kernel) (by decide +kernel) (by decide +kernel) (by decide +kernel);cases hv:dP kvs (Sum.inr nm) with
  | some v=>
   dsimp?[df,gQ];refine⟨_,_,_,Mn,T.aS,T.na_Course_tables,_,yI,_,rfl,_,.inl ⟨kvs,Sum.inr nm,.inl sJ,rfl,hv.symm⟩,?_⟩;rw[if_neg (by simp)];exact⟨_,_,_,Mn,T.aS,T.na_Course_tables,_,yI,_,rfl,_,.inl ⟨kvs,Sum.inr nm,.inl sJ,rfl,hv.symm⟩,kF v hv⟩
  | none=>
   dsimp?[df,bR,gQ,fm,KU,sDPut];refine⟨_,_,_,Mn,T.aS,T.na_Course_tables,_,yI,_,rfl,_,.inl ⟨kvs,Sum.inr nm,.inl sJ,rfl,hv.symm⟩,?_⟩;rw[if_pos (by rfl)];refine⟨_,_,Mn,lp,cX H tb,dh,g,co.co,nm,ns,st,_,lk,λu ru=>?_⟩;symm;obtain⟨p,x1,x2,x3,x4,rfl,hp,r1,r2,r3,r4⟩:=dr.mp (show Rep _ (.tup _) u from ru);obtain⟨a,rfl,pl⟩:=BL r2;nofun;refine⟨_,rfl,_,dh _ _ hp,_,rfl,_,rfl,ps,pl.mono dh,gl,l4,λp2 H1 s1 n1 rt=>?_⟩;have ct:c≠tb:=λz=>by rw[z] at h1;unfold cX at h1;rw[if_pos rfl] at h1;cases h1
   have sat:sa≠tb:=λz=>by rw[z,sJ] at gQ;cases gQ
   refine⟨_,_,_,s1 _ _ Mn,T.aS,T.na_Course_tables,_,yI,_,s1 _ _ gQ,_,rfl,_,rfl,_,.inl ⟨kvs,Sum.inr nm,s1 _ _ sJ,rfl,by lia,rfl⟩,?_⟩;rw[jK hv];refine⟨_,_,_,by rw[aw ct];exact s1 _ _ Mn,T.aS,T.na_Course_tables,_,yI,_,by rw[aw sat];exact s1 _ _ gQ,_,rfl,_,rfl,_,.inl ⟨_,Sum.inr nm,.inl aj,rfl,?_⟩,kN hv p2 H1 s1 n1 rt⟩;rw[yA hv,if_pos rfl]
theorem gj:aZ ["self","state","value","rows"] ["self","state","value"] (aq (inClass (top 40) 7)):=⟨rfl,rfl,rfl,∅,rfl,∅,∅⟩
theorem NY (T:Txt K mg aB aH aI aV aE aL aW aM aA aN aX af av):bD P w K mg base (br P w) 4 af "by_value" ["self","state","value"] (K0 af):=by
 have bu:bD P w K mg base (br P w) 1 af "what_at" ["self","state"] (fm af):=lO T;have fg:bD P w K mg base (br P w) 3 af "by_row" ["self","state","row","value"] (yv af):=EW T;refine T.lI.dJ (λ_ _ _ _ _ _=>uu λ_ _ _=>rfl) λf fd F=>F.eC gj (λvs H Q E h=>?_) (λcf A outer s H vs Q E hr h=>?_)
 ·obtain⟨_,_,_,_,_,_,_,_,_,_,_,_,_,rfl,_⟩:=h;rfl
 ·symm;obtain⟨c,sv,v,g,nm,ns,c5,t,b,rs,r,fu,fk,rfl,co,gg,st,ln,lk,ro,ak,kk⟩:=h;nofun;have nd:=gj.nd;refine⟨_,(ah (jI (i:=3) rfl nd rfl rfl (N:=["self","state","value","rows"]) (so:=aq (inClass (top 40) 7)) (N':=["row","value"]) (k:=1) (fr:=[2]) rfl rfl ⟨rfl,∅,∅,∅,rfl,∅,∅⟩ (bA (K:=K) (ar ai (c9 bu T.aS (pv 0) (hr.mono ∅) au.pass (aa (pv 1) ag (se rfl)) (hst:=se rfl) (hpl:=na rfl)) ae (λ_ _=>rfl))) (λ_ _ _ _ _=>(a9 (i:=0) (show(["row","value"]:List Str).Nodup by decide +kernel) rfl (.inl rfl))) (λ_ _ _ _ _=>(eF (xH A7 A7 (ar ai (pv 0) ae (λ_ _=>rfl)) (pv 1) (ar ai (pv 0) ae (λ_ _=>rfl)))))
   (λ_ _ _ _ _=>(pv 0)))
  (ao (aY (c9 fg T.aS (pv 0) (hr.mono ∅) au.pass (aa (pv 1) (aa (ar a4 (pv 3) ae (λ_ _=>rfl)) (aa (pv 2) ag (se rfl)) (se rfl)) (se rfl)) (hst:=se rfl) (hpl:=na rfl))))),?_⟩
  have sl:=sizeLine_eq;symm;obtain⟨dx,sp,mo,wh,tb,us,Df,h1,h2,h3,h4,h5,h6⟩:=id co;obtain⟨sa,cl,rfl,gQ,fX⟩:=id st;obtain⟨g0,g1,g2⟩:=gg.wt _ (c8 lk);nofun;have lp:∀{a b c d e:V},List.lookup (Zz "what_at") [(Zz "spots",a),(Zz "mosts",b),(Zz "first",c),(Zz "whats",d),(Zz "tables",e)]=none:=dX (by decide +kernel) (by decide +kernel) (by decide +kernel) (by decide +kernel) (by decide +kernel);have CV:∀{a b c d e:V},List.lookup (Zz "by_row") [(Zz "spots",a),(Zz "mosts",b),(Zz "first",c),(Zz "whats",d),(Zz "tables",e)]=none:=dX (by decide +kernel) (by decide +kernel) (by decide +kernel) (by decide +kernel) (by decide +kernel);change tSeq _ _ _ _ _;refine aU (λN=>∀H1,aF H H1->∀p xs,H1 p=some (.lst xs)->bo H (((rs.filter λr=>decide (r.1<=v) && decide (v<=r.2.1)).map Gk).map sh) xs->N [some (.ref c),some (.ref sa),some (.int v),some (.ref p)] H1) ?_ (λN hN=>?_)
  case refine_2=>
   dsimp?[bR,fm];refine⟨_,_,h1,lp,H,aF.refl _,g,co,nm,ns,st,_,lk,λu ru=>?_⟩;symm;obtain⟨p,x1,x2,x3,x4,rfl,hp,r1,r2,r3,r4⟩:=dr.mp (show Rep H (.tup _) u from ru);obtain⟨rl,xs,rfl,qL,BP⟩:=bh.mp r4;nofun;have len:=BP.length;rw[ZA,ZA] at len;have zl:(xs.zip rs).length=xs.length:=by rw[aaq];lia
   refine⟨_,rfl,_,hp,_,rfl,_,rfl,⟨_,bL.of qL⟩,?_⟩;have S:Src (xC K rl) (aF H) xs.length _:=src_list (λH' s'=>bL.of (s' _ _ qL));rw[<-zl] at S;refine eB (xs.zip rs) (λx=>if (decide (x.2.1<=v) && decide (v<=x.2.2.1))=true then some x.1 else none) S (λ_ _ _ _ h=>h.1) (by lia) ?_ ?_
   ·rintro i ⟨x,r'⟩ y NT ⟨_,ey⟩ Y N3 y1 y2;obtain⟨e1,e2⟩:=List.getElem?_zip_eq_some.mp NT;rw[e1] at ey;cases ey;symm;obtain⟨dd,ed,rd⟩:=BP.get e1;nofun;rw[ZE,ZE,e2] at ed;cases ed;symm;obtain⟨p',a',b',c',d',rfl,t8,q1,q2,q3,q4⟩:=dr.mp (show Rep H (.tup _) x from rd);nofun;rw[show a'=.int r'.1 from bF.mp q1,show b'=.int r'.2.1 from bF.mp q2] at t8;dsimp?[t8]
    by_cases c1:r'.1<=v
    ·rw[if_pos c1]
     by_cases c2:v<=r'.2.1
     ·rw[if_pos c2];exact y1 _ (if_pos (by simp [c1,c2]))
     ·rw[if_neg c2];exact y2 (if_neg (by simp [c2]))
    ·rw[if_neg c1,if_neg ∅];exact y2 (if_neg (by simp [c1]))
   ·intro D n1 n2;exact hN _ (aD n2) D _ aj (oK BP)
  rintro H1 s1 p xs hp BP;have hd:(rs.filter λr=>decide (r.1<=v) && decide (v<=r.2.1)).head?=some r:=by rw[List.head?_filter];exact ro
  obtain⟨rest,er⟩:∃rest,(rs.filter λr=>decide (r.1<=v) && decide (v<=r.2.1))=r::rest:=by
   cases h:rs.filter λr=>decide (r.1<=v) && decide (v<=r.2.1) with
   | nil=>rw[h] at hd;cases hd
   | cons a l=>rw[h] at hd;cases hd;exact⟨l,rfl⟩
  rw[er] at BP;symm;obtain⟨y,ys,rfl,ry,_⟩:=aT.mp BP;have m8:r∈rs:=aax ro;obtain⟨q1,q2⟩:=g2 r m8;nofun;dsimp?[bR,yv];refine⟨_,_,s1 _ _ h1,CV,_,hp,_,(bT rfl:iX (y::ys) ((0:Nat):Int)=_),g,co.mono s1,gg,nm,ns,st.mono s1,_,_,r.2.2.1,r.2.2.2,ry.mono s1,q2,q1,ln,fu,fk,ak,λp' l' H' s' n1 n2 e1 e2=>kk p' l' H' (s1.trans s') (none_of s1 n1) (none_of s1 n2) e1 e2⟩
noncomputable def bQ (L:List Addr) (H:Hp):Hp:=λa=>if a∈L then none else H a
theorem cK {L:List Addr} {H:Hp} {a:Addr} (h:a∉L):bQ L H a=H a:=if_neg h
theorem eX {L:List Addr} {H:Hp} {a:Addr} {o:HO} (h:bQ L H a=some o):a∉L/\H a=some o:=by
 unfold bQ at h
 by_cases c:a∈L
 ·rw[if_pos c] at h;cases h
 ·rw[if_neg c] at h;exact⟨c,h⟩
theorem a6 {L:List Addr} {H:Hp}:aF (bQ L H) H:=λ_ _ h=>(eX h).2
theorem E5 {L:List Addr} {H:Hp} {t:Addr} (ht:t∈L):aF (bQ L H) (cX H t):=λa o h=>by
 obtain⟨c,h⟩:=eX h;rw[cV (λz=>c (by rw[z];exact ht))];exact h
noncomputable def K3 (p t b:Addr) (H H':Hp):Prop:=∀a o,a≠p->a≠t->a≠b->H a=some o->H' a=some o
theorem K3.of {p t b:Addr} {H H':Hp} (s:aF H H'):K3 p t b H H':=λa o _ _ _ h=>s a o h
theorem K3.trans {p t b:Addr} {H H' qK:Hp} (s:K3 p t b H H') (s':K3 p t b H' qK):K3 p t b H qK:=λa o h1 h2 h3 h=>s' a o h1 h2 h3 (s a o h1 h2 h3 h)
theorem K3.cX {p t b:Addr} {L:List Addr} {H H':Hp} (k:K3 p t b H H') (hp:p∈L) (ht:t∈L) (hb:b∈L):aF (bQ L H) (bQ L H'):=λa o h=>by
 obtain⟨c,h⟩:=eX h;rw[cK c];exact k a o (λz=>c (by rw[z];exact hp)) (λz=>c (by rw[z];exact ht)) (λz=>c (by rw[z];exact hb)) h
theorem hJ {L:List Addr} {H H':Hp} (s:aF H H'):aF (bQ L H) (bQ L H'):=λa o h=>by
 obtain⟨c,h⟩:=eX h;rw[cK c];exact s a o h
abbrev og:=Str×gM×(Int×Int)
noncomputable def Dg (X:Hp) (e:og) (v:V):Prop:=∃t sv pv,v=.ref t/\X t=some (.tup [.str e.1,sv,pv])/\qd X sv e.2.1.1 e.2.1.2/\Rep X (dM e.2.2) pv
theorem Dg.mono {X X':Hp} {e:og} {v:V} (s:aF X X') (h:Dg X e v):Dg X' e v:=by
 obtain⟨t,sv,pv,e1,h1,⟨a,l,e2,h2,h3⟩,r⟩:=h;exact⟨t,sv,pv,e1,s _ _ h1,⟨a,l,e2,s _ _ h2,s _ _ h3⟩,r.mono s⟩
noncomputable def iT (c sv pv tl:V):List (Str×V):=[(Zz "course",c),(Zz "state",sv),(Zz "paid",pv),(Zz "trail",tl)]
noncomputable def NZ (H X:Hp) (tb:Addr) (g:Gm):Prop:=∃kvs,H tb=some (.dK kvs)/\(kvs.map (·.1)).Nodup/\(∀k∈kvs.map (·.1),k∈g.ps.map λp=>(Sum.inr p.1:Key))/\∀nm v,dP kvs (Sum.inr nm)=some v->∃ps t b rs,look g.ps nm=some (.dN (ps.map qc) t b rs)/\Rep X (mP (mW ps)) v
theorem NZ.mono {H H' X X':Hp} {tb:Addr} {g:Gm} (s:aF X X') (k:∀o,H tb=some o->H' tb=some o):NZ H X tb g->NZ H' X' tb g:=λhh=>by
 obtain⟨kvs,h1,h2,h3,h4⟩:=hh;exact⟨kvs,k _ h1,h2,h3,λnm v e=>by obtain⟨ps,t,b,rs,a,r⟩:=h4 nm v e;exact⟨ps,t,b,rs,a,r.mono s⟩⟩
structure di (qP qC:Addr) (L:List Addr) (H:Hp) (p tl tb:Addr) (g:Gm) (st:gM) (pd:Int×Int) (tr:List og):Prop where
 mem:p∈L/\tl∈L/\tb∈L
 al:∀a∈L,∃o,H a=some o/\∀vs,o≠.tup vs
 ex:∃dp c sv pv xs,H p=some (.ins qP dp (iT (.ref c) sv pv (.ref tl)))/\CU qC (bQ L H) c g tb/\qd (bQ L H) sv st.1 st.2/\Rep (bQ L H) (dM pd) pv/\H tl=some (.lst xs)/\Al (Dg (bQ L H)) tr xs
 Lb:NZ H (bQ L H) tb g
 good:GoodG g
 len:st.2.length=g.cs.length
 HU:∀e∈tr,e.2.1.2.length=g.cs.length
noncomputable def E6 (qP qC:Addr):Sp:=λvs H Q _=>∃(x dx:Addr) (gv:V) (X:Hp) (g:Gm) (f:Nat) (ft nm:Str),vs=[.ref x,gv]/\H x=some (.ins qP dx [])/\aF X H/\X x=none/\Rep X (Av g) gv/\GoodG g/\(g.ps.map (·.1)).head?=some ft/\dW g (aaO g.cs.length 0) f ft=some nm/\
 ∀c sv pv tl tb H',(∀a o,a≠x->H a=some o->H' a=some o)->H tl=none->H tb=none->H' x=some (.ins qP dx (iT (.ref c) sv pv (.ref tl)))->H' tl=some (.lst [])->H' tb=some (.dK [])->CU qC (bQ [x,tl,tb] (nw (cX H x) X H')) c g tb->qd (bQ [x,tl,tb] (nw (cX H x) X H')) sv nm (aaO g.cs.length 0)->Rep (bQ [x,tl,tb] (nw (cX H x) X H')) (dM (0,1)) pv->Q .cW H'
noncomputable def E7 (qP qC:Addr):Sp:=λvs H Q _=>∃p tl tb L g st pd tr,vs=[.ref p]/\di qP qC L H p tl tb g st pd tr/\∀a l H',aF H H'->H a=none->H l=none->H' a=some (.tup [.str st.1,.ref l])->H' l=some (.lst (st.2.map V.int))->Q (.ref a) H'
theorem kX {a b c d:V}:List.lookup (Zz "course") (iT a b c d)=some a:=aac
theorem hU {a b c d:V}:List.lookup (Zz "state") (iT a b c d)=some b:=by unfold iT;rw[bM ∅];exact aac
theorem BQ {a b c d:V}:List.lookup (Zz "paid") (iT a b c d)=some c:=by unfold iT;rw[bM ∅,bM ∅];exact aac
theorem yJ {a b c d:V}:List.lookup (Zz "trail") (iT a b c d)=some d:=by unfold iT;rw[bM ∅,bM ∅,bM ∅];exact aac
theorem jb:aZ ["self"] ["self"] (aq (inClass (top 43) 1)):=⟨rfl,rfl,rfl,∅,rfl,∅,∅⟩
theorem Lc (T:Txt K mg aB aH aI aV aE aL aW aM aA aN aX af av):bD P w K mg base (br P w) 1 av "stands" ["self"] (E7 av af):=by
 refine T.rX.dJ (λ_ _ _ _ _ _=>gZ λ_=>rfl) λf fd F=>F.eC jb (λvs H Q E h=>?_) (λcf A outer s H vs Q E hr h=>?_)
 ·obtain⟨_,_,_,_,_,_,_,_,rfl,_⟩:=h;rfl
 ·symm;obtain⟨p,tl,tb,L,g,st,pd,tr,rfl,pl,kk⟩:=h;nofun;have nd:=jb.nd;refine⟨_,(ao (aY (bf (aa (ar ai (bp (pv 0) rfl) ae (λ_ _=>rfl)) (aa (eg (dU (K:=K)) (by rfl) T.z_list rfl (aa (ar ai (bp (pv 0) rfl) ae (λ_ _=>rfl)) ag (se rfl)) (he:=se rfl) (hpl:=na rfl)) ag (se rfl)) (se rfl))))),?_⟩;symm;obtain⟨dp,c,sv,pv,xs,hp,co,⟨sa,cl,rfl,gQ,fX⟩,rp,pS,al⟩:=pl.ex;nofun;have gQ:=a6 _ _ gQ;have fX:=a6 _ _ fX;dsimp?[df];exact⟨_,_,_,hp,T.bc,T.na_Play_state,_,hU,sa,rfl,_,gQ,_,rfl,_,_,_,hp,T.bc,T.na_Play_state,_,hU,sa,rfl,_,gQ,_,rfl,cl,rfl,_,.inl (bL.of fX),λl nl=>⟨∅,λa H' s' na ha=>kk a l H' ((aD nl).trans s') (none_of (aD nl) na) nl ha (s' _ _ aj)⟩⟩
theorem hV:aZ ["self","game"] ["self","game"] (aq (inClass (top 43) 0)):=⟨rfl,rfl,rfl,∅,rfl,∅,∅⟩
theorem Ld (T:Txt K mg aB aH aI aV aE aL aW aM aA aN aX af av):vi P w K mg base (br P w) 5 "Play" av ["self","game"] (E6 av af):=by
 have E8:vi P w K mg base (br P w) 3 "Course" af ["self","game"] (EY af):=NU T;have sM:bD P w K mg base (br P w) 2 af "start" ["self"] (EH af):=K6 T;refine T.Hu.dJ (λ_ _ _ _ _ _=>eG λ_ _=>rfl) λf fd F=>F.eC hV (λvs H Q E h=>?_) (λcf A outer s H vs Q E hr h=>?_)
 ·obtain⟨_,_,_,_,_,_,_,_,rfl,_⟩:=h;rfl
 ·symm;obtain⟨x,dx,gv,X,g,fu,ft,nm,rfl,hx,sx,xx,rg,gg,Rp,ask,kk⟩:=h;nofun;have nd:=hV.nd;refine⟨_,(ah (eO (pv 0) (IX E8 (hr.mono ∅) rfl au.pass (aa (pv 1) ag (se rfl)) (he:=se rfl) (hpl:=na rfl)) rfl)
  (ah (eO (pv 0) (oC sM T.aS (bp (pv 0) rfl) (hr.mono ∅) au.pass) rfl)
  (ah (eO (pv 0) (bf (aa ae (aa ae ag (se rfl)) (se rfl))) rfl)
  (ao (eO (pv 0) (cb ag) rfl))))),?_⟩
  refine(?_:let bY:TS:=_;let bZ:TS:=_;let b5:TS:=_;let cY:TS:=_;tSeq bY (tSeq bZ (tSeq b5 cY)) _ _ _);intro bY bZ b5 cY;have sl:=sizeLine_eq;let K1:Hp->Prop:=λH1=>∀a o,a≠x->H a=some o->H1 a=some o;change tSeq _ _ _ _ _;refine aU (λN=>∀H1 c tb,K1 H1->H c=none->H tb=none->H1 x=some (.ins av dx [(Zz "course",.ref c)])->H1 tb=some (.dK [])->CU af (bQ [x,tb] (nw (cX H x) X H1)) c g tb->N [some (.ref x),some gv] H1) ?_ (λN hN=>?_)
  case refine_2=>
   dsimp?[om,A9,EY];intro c dc nc Rq ne;have Wj:c≠x:=λz=>by rw[z,hx] at nc;cases nc
   have YZ:dc≠x:=λz=>by rw[z,hx] at Rq;cases Rq
   have sc:aF H (upd (upd H dc (.own c)) c (.ins af dc [])):=λa o h=>by
    rw[aw (λz=>by rw[z,nc] at h;cases h),aw (λz=>by rw[z,Rq] at h;cases h)];exact h
   have xc:X c=none:=by
    cases h:X c with
    | none=>rfl
    | some o=>rw[sx _ _ h] at nc;cases nc
   refine⟨dc,aj,X,sx.trans sc,xc,g,rg,gg,λtb H' kH sI sJ co=>?_⟩;have ML:H' x=some (.ins av dx []):=kH _ _ (Ne.symm Wj) (sc _ _ hx);have AG:H tb=none:=none_of sc sI;have Rr:tb≠x:=λz=>by rw[z,hx] at AG;cases AG
   refine⟨_,_,_,ML,T.bc,T.na_Play_course,∅,hN _ c tb (λa o ax h=>by rw[aw ax];exact kH a o (λz=>by rw[z,nc] at h;cases h) (sc _ _ h)) nc AG aj (by rw[aw Rr];exact sJ) (co.mono λa o h=>?_)⟩;obtain⟨Mo,h⟩:a≠tb/\nw (cX (upd (upd H dc (.own c)) c (.ins af dc [])) c) X H' a=some o:=by
    by_cases z:a=tb
    ·unfold cX at h;rw[if_pos z] at h;cases h
    ·rw[cV z] at h;exact⟨z,h⟩
   have go:a≠x->nw (cX H x) X (upd H' x (.ins av dx (gK (Zz "course") (.ref c) []))) a=some o->bQ [x,tb] (nw (cX H x) X (upd H' x (.ins av dx (gK (Zz "course") (.ref c) [])))) a=some o:=λax h=>by
    rw[cK (by simp [ax,Mo])];exact h
   cases h6:cX (upd (upd H dc (.own c)) c (.ins af dc [])) c a with
   | none=>
    rw[cC h6] at h;have h0:H a=none:=by
     by_cases z:a=c
     ·rw[z];exact nc
     ·rw[cV z] at h6;exact none_of sc h6
    have ax:a≠x:=λz=>by rw[z,hx] at h0;cases h0
    refine go ax ?_;rw[cC (by rw[cV ax];exact h0),aw ax];exact h
   | some o6=>
    unfold nw at h;rw[h6] at h;exact go (λz=>by rw[z,xx] at h;cases h) (kK (λa o hh=>by rw[cV (λz=>by rw[z,xx] at hh;cases hh)];exact sx _ _ hh) _ _ h)
  rintro H1 c tb k1 nc sI Pf HV Mp;have cx:c≠x:=λz=>by rw[z,hx] at nc;cases nc
  change tSeq _ _ _ _ _;refine aU (λN=>∀H2 sv,(∀a o,a≠x->H1 a=some o->H2 a=some o)->H2 x=some (.ins av dx [(Zz "course",.ref c),(Zz "state",sv)])->qd (bQ [x,tb] (nw (cX H x) X H2)) sv nm (aaO g.cs.length 0)->N [some (.ref x),some gv] H2) ?_ (λN hN=>?_)
  case refine_2=>
   dsimp?[om,bR,df,EH];have s1:aF (bQ [x,tb] (nw (cX H x) X H1)) H1:=λa o h=>by
    obtain⟨fk,h⟩:=eX h;cases h6:cX H x a with
    | none=>rw[cC h6] at h;exact h
    | some o6=>
     unfold nw at h;rw[h6] at h;exact k1 _ _ (λz=>by rw[z,xx] at h;cases h) (sx _ _ h)
   symm;obtain⟨dc,sp,mo,wh,us,Df,h1,_⟩:=id Mp;nofun;refine⟨_,_,_,Pf,T.bc,T.na_Play_course,_,aac,c,rfl,_,_,s1 _ _ h1,dX ∅ ∅ ∅ ∅ ∅,c,rfl,g,(Mp.mono s1).co,gg,fu,ft,Rp,nm,ask,λa l H' s' na nl ha hl=>?_⟩;have ML:=s' _ _ Pf;have ax:a≠x:=λz=>by rw[z,Pf] at na;cases na
   have lx:l≠x:=λz=>by rw[z,Pf] at nl;cases nl
   have Mo:a≠tb:=λz=>by rw[z,HV] at na;cases na
   have Wk:l≠tb:=λz=>by rw[z,HV] at nl;cases nl
   have n0:∀{b},b≠x->H1 b=none->H b=none:=λ{b} bx h=>by
    cases h0:H b with
    | none=>rfl
    | some o=>rw[k1 _ _ bx h0] at h;cases h
   refine⟨_,_,_,ML,T.bc,T.na_Play_state,by show(1:Nat)<1000;decide,hN _ (.ref a) (λb o bx h=>by rw[aw bx];exact s' _ _ h) ?_ ⟨a,l,rfl,?_,?_⟩⟩
   ·rw[aj];show some (HO.ins _ _ (if Zz "course"=Zz "state" then _ else _))=_;rw[if_neg ∅];rfl
   ·rw[cK (by simp [ax,Mo]),cC (by rw[cV ax];exact n0 ax na),aw ax];exact ha
   ·rw[cK (by simp [lx,Wk]),cC (by rw[cV lx];exact n0 lx nl),aw lx];exact hl
  rintro H2 sv k2 TH zw;change tSeq _ _ _ _ _;refine aU (λN=>∀H3 pv,(∀a o,a≠x->H2 a=some o->H3 a=some o)->H3 x=some (.ins av dx [(Zz "course",.ref c),(Zz "state",sv),(Zz "paid",pv)])->Rep (bQ [x,tb] (nw (cX H x) X H3)) (dM (0,1)) pv->N [some (.ref x),some gv] H3) ?_ (λN hN=>?_)
  case refine_2=>
   dsimp?[om];refine⟨∅,λr H' s' nr Ak=>?_⟩;have rx:r≠x:=λz=>by rw[z,TH] at nr;cases nr
   have Rt:=k2 _ _ (λz=>by rw[z,hx] at sI;cases sI) HV;have Wl:r≠tb:=λz=>by rw[z,Rt] at nr;cases nr
   have Wm:H r=none:=by
    cases h0:H r with
    | none=>rfl
    | some o=>rw[k2 _ _ rx (k1 _ _ rx h0)] at nr;cases nr
   refine⟨_,_,_,s' _ _ TH,T.bc,T.na_Play_paid,by show(2:Nat)<1000;decide,hN _ (.ref r) (λb o bx h=>by rw[aw bx];exact s' _ _ h) ?_ (cA.mpr ⟨r,rfl,?_⟩)⟩
   ·rw[aj];show some (HO.ins _ _ (if Zz "course"=Zz "paid" then _ else _::(if Zz "state"=Zz "paid" then _ else _)))=_;rw[if_neg ∅,if_neg ∅];rfl
   ·rw[cK (by simp [rx,Wl]),cC (by rw[cV rx];exact Wm),aw rx];exact Ak
  rintro H3 pv k3 TK Wn;dsimp?[om];refine⟨ZM _,λtl HW=>?_⟩;have N0:tl≠x:=λz=>by rw[z,TK] at HW;cases HW
  have Pg:∀a o,a≠x->H1 a=some o->H3 a=some o:=λa o ax h=>k3 _ _ ax (k2 _ _ ax h);have Le:H tl=none:=by
   cases h0:H tl with
   | none=>rfl
   | some o=>rw[Pg _ _ N0 (k1 _ _ N0 h0)] at HW;cases HW
  have N1:=Pg _ _ (λz=>by rw[z,hx] at sI;cases sI) HV;have Rr:tb≠x:=λz=>by rw[z,hx] at sI;cases sI
  have Gb:tb≠tl:=λz=>by rw[<-z,N1] at HW;cases HW
  have up:∀Hk v,(∀a o,a≠x->Hk a=some o->H3 a=some o)->aF (bQ [x,tb] (nw (cX H x) X Hk)) (bQ [x,tl,tb] (nw (cX H x) X (upd (upd H3 tl (.lst [])) x v))):=λHk v Wo a o h=>by
   obtain⟨na,h⟩:=eX h;have ax:a≠x:=λz=>na (by simp [z]);have Mo:a≠tb:=λz=>na (by simp [z]);cases h6:cX H x a with
   | none=>
    rw[cC h6] at h;have h3:=Wo _ _ ax h;have Ph:a≠tl:=λz=>by rw[z,HW] at h3;cases h3
    rw[cK (by simp [ax,Ph,Mo]),cC h6,aw ax,aw Ph];exact h3
   | some o6=>
    have Ph:a≠tl:=λz=>by rw[z,cV N0,Le] at h6;cases h6
    rw[cK (by simp [ax,Ph,Mo])];unfold nw at h ⊢;rw[h6] at h ⊢;exact h
  refine⟨_,_,_,by rw[aw (Ne.symm N0)];exact TK,T.bc,T.na_Play_trail,by show(3:Nat)<1000;decide,kk c sv pv tl tb _ (λa o ax h=>?_) Le sI ?_ (by rw[aw N0,aj]) (by rw[aw Rr,aw Gb];exact N1) (Mp.mono (up H1 _ Pg)) ?_ (Wn.mono (up H3 _ λ_ _ _ h=>h))⟩
  ·rw[aw ax,aw (λz=>by rw[z,Le] at h;cases h)];exact Pg _ _ ax (k1 _ _ ax h)
  ·rw[aj];show some (HO.ins _ _ (if Zz "course"=Zz "trail" then _ else _::(if Zz "state"=Zz "trail" then _ else _::(if Zz "paid"=Zz "trail" then _ else _))))=_;rw[if_neg ∅,if_neg ∅,if_neg ∅];rfl
  ·symm;obtain⟨a,l,e,h1,h2⟩:=zw;nofun;have u:=up H2 (.ins av dx (gK (Zz "trail") (.ref tl) [(Zz "course",.ref c),(Zz "state",sv),(Zz "paid",pv)])) (λa o ax h=>k3 _ _ ax h);exact⟨a,l,e,u _ _ h1,u _ _ h2⟩
theorem yK {α:Type} [DecidableEq α]:∀{l U:List α},l.Nodup->(∀x∈l,x∈U)->l.length<=U.length
 | [],_,_,_=>ZM _
 | a::l,U,nd,h=>by
  obtain⟨na,nd⟩:=List.nodup_cons.mp nd;have ha:=h a ZL;have:=yK (l:=l) (U:=U.erase a) nd λx hx=>by
   have xa:x≠a:=λz=>na (z▸hx);exact(List.mem_erase_of_ne xa).mpr (h x (ZI _ hx))
  rw[List.length_erase_of_mem ha] at this;have:=List.length_pos_of_mem ha;rw[ZP];lia
theorem di.kept {qP qC:Addr} {L:List Addr} {H H':Hp} {p tl tb:Addr} {g:Gm} {st:gM} {pd:Int×Int} {tr:List og} (pl:di qP qC L H p tl tb g st pd tr) (s:aF (bQ L H) (bQ L H')) (k:∀a,a=p\/a=tl\/a=tb->∀o,H a=some o->H' a=some o) (al:∀a∈L,∃o,H' a=some o/\∀vs,o≠.tup vs):di qP qC L H' p tl tb g st pd tr:=by
 obtain⟨m,_,⟨dp,c,sv,pv,xs,h1,h2,h3,h4,h5,h6⟩,Lb,gd,ln,lt⟩:=pl;exact⟨m,al,⟨dp,c,sv,pv,xs,k _ (.inl rfl) _ h1,h2.mono s,h3.mono s,h4.mono s,k _ (.inr (.inl rfl)) _ h5,h6.imp λ_ _ h=>h.mono s⟩,Lb.mono s (k _ (.inr (.inr rfl))),gd,ln,lt⟩
theorem di.same {qP qC:Addr} {L:List Addr} {H H':Hp} {p tl tb:Addr} {g:Gm} {st:gM} {pd:Int×Int} {tr:List og} (pl:di qP qC L H p tl tb g st pd tr) (s:aF H H'):di qP qC L H' p tl tb g st pd tr:=
 pl.kept (hJ s) (λ_ _ _ h=>s _ _ h) λa ha=>by obtain⟨o,h,n⟩:=pl.al a ha;exact⟨o,s _ _ h,n⟩
theorem di.out {qP qC:Addr} {L:List Addr} {H:Hp} {p tl tb:Addr} {g:Gm} {st:gM} {pd:Int×Int} {tr:List og} (pl:di qP qC L H p tl tb g st pd tr) {a:Addr} (n:H a=none):a∉L:=λm=>by
 obtain⟨o,h,_⟩:=pl.al a m;rw[n] at h;cases h
theorem di.next {qP qC:Addr} {L:List Addr} {H H':Hp} {p tl tb:Addr} {g:Gm} {st gJ:gM} {pd TL:Int×Int} {tr Ru:List og} (pl:di qP qC L H p tl tb g st pd tr) (k3:K3 p tl tb H H') {dp c:Addr} {sv pv:V} {xs:List V}
  (h1:H' p=some (.ins qP dp (iT (.ref c) sv pv (.ref tl)))) (co:CU qC (bQ L H) c g tb) (h3:qd (bQ L H') sv gJ.1 gJ.2) (h4:Rep (bQ L H') (dM TL) pv) (h5:H' tl=some (.lst xs)) (h6:Al (Dg (bQ L H')) Ru xs) (TM:NZ H' (bQ L H') tb g) (ln:gJ.2.length=g.cs.length) (lt:∀e∈Ru,e.2.1.2.length=g.cs.length):di qP qC L H' p tl tb g gJ TL Ru:=by
 refine⟨pl.mem,λa ha=>?_,⟨dp,c,sv,pv,xs,h1,co.mono (k3.cX pl.mem.1 pl.mem.2.1 pl.mem.2.2),h3,h4,h5,h6⟩,TM,pl.good,ln,lt⟩
 by_cases e1:a=p
 ·exact⟨_,by rw[e1];exact h1,λ_ z=>by cases z⟩
 by_cases e2:a=tl
 ·exact⟨_,by rw[e2];exact h5,λ_ z=>by cases z⟩
 by_cases e3:a=tb
 ·obtain⟨kvs,z,_⟩:=TM;exact⟨_,by rw[e3];exact z,λ_ z=>by cases z⟩
 obtain⟨o,h,n⟩:=pl.al a ha;exact⟨o,k3 _ _ e1 e2 e3 h,n⟩
theorem Dg.up {X X':Hp} {tr:List og} {xs:List V} (s:aF X X') (h:Al (Dg X) tr xs):Al (Dg X') tr xs:=h.imp λ_ _ h=>h.mono s
theorem Jj {a b c d v:V}:gK (Zz "state") v (iT a b c d)=iT a v c d:=by
 show(if Zz "course"=Zz "state" then _ else _::(if Zz "state"=Zz "state" then _ else _))=_;rw[if_neg ∅,if_pos rfl];rfl
theorem Jk {a b c d v:V}:gK (Zz "paid") v (iT a b c d)=iT a b v d:=by
 show(if Zz "course"=Zz "paid" then _ else _::(if Zz "state"=Zz "paid" then _ else _::(if Zz "paid"=Zz "paid" then _ else _)))=_;rw[if_neg ∅,if_neg ∅,if_pos rfl];rfl
theorem ints_rep {H:Hp}:∀l:List Int,bo H (l.map Dat.int) (l.map V.int)
 | []=>bI.mpr rfl
 | _::l=>aT.mpr ⟨_,_,rfl,bF.mpr rfl,ints_rep l⟩
theorem fQ {H:Hp}:∀{l:List Int} {vs:List V},bo H (l.map Dat.int) vs->vs=l.map V.int
 | [],_,h=>bI.mp h
 | _::_,_,h=>by
  obtain⟨v,r,rfl,a,b⟩:=aT.mp h;rw[bF.mp a,fQ b];rfl
theorem oN (l:List Int):(l.map V.int).all eA=true:=List.all_eq_true.mpr λx hx=>by
 obtain⟨i,_,rfl⟩:=aaJ.mp hx;rfl
theorem wL (x:Int) (ns:List Int):zO (V.int x) (List.map V.int ns)=decide (x∈ns):=by
 unfold zO
 by_cases c:x∈ns
 ·rw[decide_eq_true c];exact List.any_eq_true.mpr ⟨V.int x,aaJ.mpr ⟨x,c,rfl⟩,by simp [zM]⟩
 ·rw[decide_eq_false c];refine List.any_eq_false.mpr λy hy=>?_;obtain⟨n,hn,rfl⟩:=aaJ.mp hy;have:n≠x:=λe=>by subst e;exact c hn
  simp [zM,this]
theorem ints_in {l:List Int} {v:Int} (h:v∈l):zO (.int v) (l.map V.int)=true:=by rw[wL];exact decide_eq_true h
theorem yL {H:Hp}:∀l:List Str,bo H (l.map Dat.str) (l.map V.str)
 | []=>bI.mpr rfl
 | _::l=>aT.mpr ⟨_,_,rfl,aR.mpr rfl,yL l⟩
theorem sO {K:aaB} {α:Type} {J:It} {tc:TT} {te:TE} {tl:L2.St} {H1:Hp} {fin:List V->Hp->Prop} {Item:Nat->V->Hp->Hp->Prop} (as:List α) (f:α->Option V) (S:Src J (aF H1) as.length Item) (sub:∀i x H H3,Item i x H H3->H3=H) (hz:as.length<=sizeLine)
  (hs:∀i a x,as[i]?=some a->Item i x H1 H1->∃p u v,x=.ref p/\kz K H1 p [u,v]/\∀(Y:VK) (N:Hp->Prop),(∀z,f a=some z->Y z H1)->(f a=none->N H1)->tc (some u::some v::tl) H1 λb H5=>if b=true then te (some u::some v::tl) H5 Y else N H5)
  (oy:fin ((as.filterMap f)) H1):fV J (Cd K 2 (gCons (gName 0) (gCons (gName 1) gNil))) tc te (none::none::tl) H1 fin:=by
 refine gW S (λσ=>∃w0 w1,σ=w0::w1::tl) ⟨_,_,rfl⟩ (λi ys H=>H=H1/\ys=(as.take i).filterMap f) ⟨rfl,by simp⟩ hz ?_ ?_
 ·rintro i x σ H ys H3 Q N hi sm ⟨rfl,rfl⟩ hl ⟨w0,w1,rfl⟩ it kq kn;obtain rfl:=sub _ _ _ _ it;have ea:as[i]?=some as[i]:=ZH hi;obtain⟨p,u,v,rfl,sq,k⟩:=hs i _ x ea it;refine⟨p,_,rfl,sq,rfl,_,_,rfl,_,_,rfl,rfl,?_⟩;refine k _ _ (λz e=>kq _ _ _ ⟨_,_,rfl⟩ sm ⟨rfl,?_⟩) (λe=>kn _ _ ⟨_,_,rfl⟩ sm ⟨rfl,?_⟩)
  ·rw[Z2,ea,aau];simp [e]
  ·rw[Z2,ea,aau];simp [e]
 ·rintro ys H sm ⟨rfl,rfl⟩ hl;rw[ZQ (ZD _)];exact oy
noncomputable def ng (N:Int) (x:Int×Int):Prop:=Wq.Lw x/\x.2∣2/\-N<=Wq.sc 2 x/\Wq.sc 2 x<=N
theorem ng.pl {N M:Int} {x y:Int×Int} (hx:ng N x) (hy:ng M y):ng (N+M) (Wq.pl x y):=by
 obtain⟨a,b,e⟩:=Wq.Nv hx.1.1 hy.1.1 (show(0:Int)<2 by decide) hx.2.1 hy.2.1;have:=hx.2.2;have:=hy.2.2;exact⟨a,b,by lia,by lia⟩
theorem ng.le {N M:Int} {x:Int×Int} (h:ng N x) (k:N<=M):ng M x:=⟨h.1,h.2.1,by have:=h.2.2;lia,by have:=h.2.2;lia⟩
theorem ng.num {N:Int} {x:Int×Int} (h:ng N x) (n:N<=1000000):(-1000000<=x.1/\x.1<=1000000)/\0<x.2/\x.2<=2:=by
 have b0:=h.1.1;have b2:=Int.le_of_dvd ∅ h.2.1;have e:=Wq.vW h.2.1;have:=h.2.2;refine⟨?_,b0,b2⟩;have c:x.2=1\/x.2=2:=by lia
 rcases c with c | c <;>rw[c] at e <;>lia
theorem jN (k:Int) {N:Int} (h1:-N<=2*k) (h2:2*k<=N):ng N (k,1):=⟨⟨by show(0:Int)<1;decide,by show Nm.g k 1=1;unfold Nm.g;rw[Int.gcd_one_right];rfl⟩,⟨2,rfl⟩,by show -N<=k* (2 / 1);lia,by show k* (2 / 1)<=N;lia⟩
theorem HX (k:Int) {N:Int} (o:k % 2=1) (h1:-N<=k) (h2:k<=N):ng N (k,2):=⟨⟨by show(0:Int)<2;decide,by
 show Nm.g k 2=1;unfold Nm.g;have d:=Int.gcd_dvd_left (a:=k) (b:=2);have d2:=Int.gcd_dvd_right (a:=k) (b:=2);have l:=Int.le_of_dvd ∅ d2;have p:0<Int.gcd k 2:=Int.gcd_pos_of_ne_zero_right k ∅;have c:Int.gcd k 2=1\/Int.gcd k 2=2:=by lia
 rcases c with c | c
 ·rw[c];rfl
 ·rw[c] at d;lia⟩,⟨1,rfl⟩,by show -N<=k* (2 / 2);lia,by show k* (2 / 2)<=N;lia⟩
noncomputable def t4:Wt->Str
 | .ask _ _ _ _=>Zz "ask"
 | .fin _ _=>Zz "end"
 | .score _=>Zz "score"
 | .pick _ _=>Zz "pick"
 | .dN _ _ _ _=>Zz "throw"
theorem nh {H:Hp} {x:Wt} {u:V} (h:Rep H (jU x) u):∃q vs,u=.ref q/\H q=some (.tup (.str (t4 x)::vs)):=by
 cases x <;>(obtain⟨p,vs,rfl,hp,r⟩:=jL.mp (show Rep H (.tup _) u from h);obtain⟨v,r1,rfl,a,_⟩:=aT.mp r;obtain rfl:=aR.mp a;exact⟨p,r1,rfl,hp⟩)
theorem Lf {x:Wt} (h:t4 x=Zz "ask"):∃c k a b,x=.ask c k a b:=by
 cases x with
 | ask c k a b=>exact⟨_,_,_,_,rfl⟩
 | fin t b=>exact absurd (show Zz "end"=Zz "ask" from h) ∅
 | score c=>exact absurd (show Zz "score"=Zz "ask" from h) ∅
 | pick w rs=>exact absurd (show Zz "pick"=Zz "ask" from h) ∅
 | dN c5 t b rs=>exact absurd (show Zz "throw"=Zz "ask" from h) ∅
theorem Lg {x:Wt} (h:t4 x=Zz "end"):∃t b,x=.fin t b:=by
 cases x with
 | ask c k a b=>exact absurd (show Zz "ask"=Zz "end" from h) ∅
 | fin t b=>exact⟨_,_,rfl⟩
 | score c=>exact absurd (show Zz "score"=Zz "end" from h) ∅
 | pick w rs=>exact absurd (show Zz "pick"=Zz "end" from h) ∅
 | dN c5 t b rs=>exact absurd (show Zz "throw"=Zz "end" from h) ∅
theorem E9 {x:Wt} (h:t4 x=Zz "score"):∃c,x=.score c:=by
 cases x with
 | ask c k a b=>exact absurd (show Zz "ask"=Zz "score" from h) ∅
 | fin t b=>exact absurd (show Zz "end"=Zz "score" from h) ∅
 | score c=>exact⟨_,rfl⟩
 | pick w rs=>exact absurd (show Zz "pick"=Zz "score" from h) ∅
 | dN c5 t b rs=>exact absurd (show Zz "throw"=Zz "score" from h) ∅
theorem wM {x:Wt} (h:t4 x=Zz "pick"):∃w rs,x=.pick w rs:=by
 cases x with
 | ask c k a b=>exact absurd (show Zz "ask"=Zz "pick" from h) ∅
 | fin t b=>exact absurd (show Zz "end"=Zz "pick" from h) ∅
 | score c=>exact absurd (show Zz "score"=Zz "pick" from h) ∅
 | pick w rs=>exact⟨_,_,rfl⟩
 | dN c5 t b rs=>exact absurd (show Zz "throw"=Zz "pick" from h) ∅
theorem oO {x:Wt} (h:t4 x=Zz "throw"):∃c5 t b rs,x=.dN c5 t b rs:=by
 cases x with
 | ask c k a b=>exact absurd (show Zz "ask"=Zz "throw" from h) ∅
 | fin t b=>exact absurd (show Zz "end"=Zz "throw" from h) ∅
 | score c=>exact absurd (show Zz "score"=Zz "throw" from h) ∅
 | pick w rs=>exact absurd (show Zz "pick"=Zz "throw" from h) ∅
 | dN c5 t b rs=>exact⟨_,_,_,_,rfl⟩
theorem wN {a b c d:V}:(iT a b c d).length<1000:=by show(4:Nat)<1000;decide
noncomputable def Fb (g:Gm) (st:gM) (pd:Int×Int) (x:Wt):Int×Int:=match Aw g.cs st.2 x with
 | some w=>Wq.pl pd w
 | none=>pd
noncomputable def Gq (g:Gm) (st:gM) (x:Wt) (ds:List Dat):Prop:=match x with
 | .dN c5 _ _ _=>∃ps,c5=ps.map qc/\pM ps/\ds=(dt ps).map Dat.int
 | _=>ds=(cj g.cs st.2 x).map λr=>Dat.str r.word
noncomputable def Jl (tr:List og):Str:=Txt.join (Zz " ") (tr.map (·.1))
theorem joinOk_of {sep:Str} {ts:List Str} {B:Nat} (hB:∀y∈ts,y.length<=B) (h:ts.length*B+ts.length*sep.length<=16777216):JoinOk sep ts=true:=by
 unfold JoinOk;rw[Bool.not_eq_true'];exact StrLaws.joinFits hB h
noncomputable def Jm (x:Wt):Prop:=∀c k a b,x≠.ask c k a b
noncomputable def jc:Sp:=λvs H Q _=>∃u v a b,vs=[u,v]/\Rep H (dM a) u/\Rep H (dM b) v/\ng 100000 a/\ng 100000 b/\∀r H',aF H H'->H r=none->H' r=some (.tup (Pr (Wq.pl a b).1 (Wq.pl a b).2))->Q (.ref r) H'
noncomputable def BR:Sp:=λvs H Q _=>∃n,vs=[.int n]/\Q (.bl true) H
noncomputable def Fc (qP qC:Addr):Sp:=λvs H Q _=>∃(p tl tb:Addr) (L:List Addr) (g:Gm) (st:gM) (pd:Int×Int) (tr:List og) (x:Wt),vs=[.ref p]/\di qP qC L H p tl tb g st pd tr/\look g.ps st.1=some x/\Jm x/\ng 100000 pd/\(∀w,Aw g.cs st.2 x=some w->ng 100000 w)/\∀u H',aF H H'->Rep H' (dM (Fb g st pd x)) u->Q u H'
noncomputable def vp (qP qC:Addr):Sp:=λvs H Q _=>∃(p tl tb:Addr) (L:List Addr) (g:Gm) (st:gM) (pd:Int×Int) (tr:List og) (x:Wt) (ds:List Dat),vs=[.ref p]/\di qP qC L H p tl tb g st pd tr/\look g.ps st.1=some x/\Gq g st x ds/\∀a H',K3 p tl tb H H'->di qP qC L H' p tl tb g st pd tr->H a=none->Rep H' (.lst ds) (.ref a)->Q (.ref a) H'
noncomputable def Fd (qP qC qm:Addr):Sp:=λvs H Q E=>∃(p:Addr) (step:Str) (sv pv:V) (tl tb:Addr) (L:List Addr) (g:Gm) (st:gM) (pd:Int×Int) (tr:List og) (gJ:gM) (py:Int×Int),vs=[.ref p,.str step,sv,pv]/\di qP qC L H p tl tb g st pd tr/\tr.length<=200/\qd (bQ L H) sv gJ.1 gJ.2/\gJ.2.length=g.cs.length/\Rep (bQ L H) (dM py) pv/\ng 100000 pd/\ng 100000 py/\(tr.length=200->∀H',aF H H'->E (.ref qm) none H')/\(tr.length<200->∀H',K3 p tl tb H H'->di qP qC L H' p tl tb g gJ (Wq.pl pd py) (tr++ [(step,st,pd)])->Q .cW H')
noncomputable def yM (qP qC qn qm:Addr):Sp:=λvs H Q E=>∃(p:Addr) (word:Str) (tl tb:Addr) (L:List Addr) (g:Gm) (st:gM) (pd:Int×Int) (tr:List og) (x:Wt),vs=[.ref p,.str word]/\di qP qC L H p tl tb g st pd tr/\tr.length<=200/\look g.ps st.1=some x/\ng 100000 pd/\
 ((cj g.cs st.2 x).find? (λr=>decide (r.word=word))=none->∀H',aF H H'->E (.ref qn) none H')/\
 (∀r,(cj g.cs st.2 x).find? (λr=>decide (r.word=word))=some r->∃f fk,dW g (r.ds.foldl (iU g.cs 0) st.2) f r.to=some fk/\
  (tr.length=200->∀H',aF H H'->E (.ref qm) none H')/\(tr.length<200->∀H',K3 p tl tb H H'->di qP qC L H' p tl tb g (fk,r.ds.foldl (iU g.cs 0) st.2) (Wq.pl pd (0,1)) (tr++ [(word,st,pd)])->Q .cW H'))
noncomputable def Fe (qP qC qn:Addr):Sp:=λvs H Q E=>∃(p tl tb:Addr) (L:List Addr) (g:Gm) (st:gM) (pd:Int×Int) (tr:List og),vs=[.ref p]/\di qP qC L H p tl tb g st pd tr/\tr.length<=200/\(tr=[]->E (.ref qn) none H)/\(∀Ff e,tr=Ff++ [e]->∀H',K3 p tl tb H H'->di qP qC L H' p tl tb g e.2.1 e.2.2 Ff->Q .cW H')
noncomputable def Fg (qP qC:Addr):Sp:=λvs H Q _=>∃(p tl tb:Addr) (L:List Addr) (g:Gm) (st:gM) (pd:Int×Int) (tr:List og),vs=[.ref p]/\di qP qC L H p tl tb g st pd tr/\tr.length<=200/\(∀e∈tr,e.1.length<=20)/\∀H',aF H H'->Q (.str (Jl tr)) H'
theorem BU:aZ ["one","other"] ["one","other"] (aq (top 16)):=⟨rfl,rfl,rfl,∅,rfl,∅,∅⟩
theorem Fh (T:Txt K mg aB aH aI aV aE aL aW aM aA aN aX af av):cg P w K mg base (br P w) 3 "plus" ["one","other"] jc:=by
 have wF:cg P w K mg base (br P w) 2 "share" ["top","bottom"] (ED aH):=Jd T;refine T.KA.dJ (λ_ _ _ _ _ _=>eG λ_ _=>rfl) λf fd F=>F.eC BU (λvs H Q E h=>?_) (λcf A outer s H vs Q E hr h=>?_)
 ·obtain⟨_,_,_,_,rfl,_⟩:=h;rfl
 ·symm;obtain⟨u,v,a,b,rfl,ra,rb,ha,hb,k⟩:=h;nofun;have nd:=BU.nd;refine⟨_,(ao (aY (aO wF (hr.mono ∅) rfl au.pass (aa (aG aQ (aG bq (ar ai (pv 0) ae (λ_ _=>rfl)) (ar ai (pv 1) ae (λ_ _=>rfl))) (aG bq (ar ai (pv 1) ae (λ_ _=>rfl)) (ar ai (pv 0) ae (λ_ _=>rfl)))) (aa (aG bq (ar ai (pv 0) ae (λ_ _=>rfl)) (ar ai (pv 1) ae (λ_ _=>rfl))) ag (se rfl)) (se rfl)) (he:=se rfl) (hpl:=na rfl)))),?_⟩;symm;obtain⟨p,rfl,hp⟩:=cA.mp ra;obtain⟨q,rfl,hq⟩:=cA.mp rb;obtain⟨a1,a2,a3⟩:=ha.num ∅;obtain⟨b1,b2,b3⟩:=hb.num ∅;nofun;dsimp?[ED,hp,hq];have m0:=Int.mul_pos a2 b2;have m4:a.2*b.2<=4:=Int.le_trans (Int.mul_le_mul a3 b3 (by lia) ∅) ∅;exact⟨bJ (by lia) (by lia),bJ (by lia) (by lia),bJ (by lia) (by lia),Bt.of 4 (by lia) (by lia),λz=>absurd z (by lia),λ_ r H' s' n' e=>k r H' s' n' e⟩
theorem pT:aZ ["thing"] ["thing"] (aq (top 13)):=⟨rfl,rfl,rfl,∅,rfl,∅,∅⟩
theorem Lh (T:Txt K mg aB aH aI aV aE aL aW aM aA aN aX af av):cg P w K mg base (br P w) 1 "is_whole" ["thing"] BR:=by
 refine T.Am.dJ (λ_ _ _ _ _ _=>gZ λ_=>rfl) λf fd F=>F.eC pT (λvs H Q E h=>?_) (λcf A outer s H vs Q E hr h=>?_)
 ·obtain⟨_,rfl,_⟩:=h;rfl
 ·symm;obtain⟨n,rfl,k⟩:=h;nofun;have nd:=pT.nd;refine⟨_,(ao (aY (vF (a8 (jJ (K:=K)) (by rfl) T.z_isinstance rfl (aa (pv 0) (aa (my (v:=V.ty "int") rfl T.z_int rfl rfl) ag (se rfl)) (se rfl)) (he:=se rfl) (hpl:=na rfl)) (zt (Ds (a8 (jJ (K:=K)) (by rfl) T.z_isinstance rfl (aa (pv 0) (aa (my (v:=V.ty "bool") rfl T.z_bool rfl rfl) ag (se rfl)) (se rfl)) (he:=se rfl) (hpl:=na rfl))))))),?_⟩;dsimp?[];refine⟨_,.int _,_,by rfl,?_⟩;rw[if_pos rfl];exact⟨_,.int _,false,by rfl,k⟩
theorem jd:aZ ["self"] ["self"] (aq (inClass (top 43) 2)):=⟨rfl,rfl,rfl,∅,rfl,∅,∅⟩
theorem Li (T:Txt K mg aB aH aI aV aE aL aW aM aA aN aX af av):bD P w K mg base (br P w) 4 av "points" ["self"] (Fc av af):=by
 have bu:bD P w K mg base (br P w) 1 af "what_at" ["self","state"] (fm af):=lO T;have lP:bD P w K mg base (br P w) 2 af "end_worth" ["self","state"] (EM af):=K8 T;have AH:cg P w K mg base (br P w) 3 "plus" ["one","other"] jc:=Fh T;refine T.rW.dJ (λ_ _ _ _ _ _=>gZ λ_=>rfl) λf fd F=>F.eC jd (λvs H Q E h=>?_) (λcf A outer s H vs Q E hr h=>?_)
 ·obtain⟨_,_,_,_,_,_,_,_,_,rfl,_⟩:=h;rfl
 ·symm;obtain⟨p,tl,tb,L,g,st,pd,tr,x,rfl,pl,lk,Pj,zo,hw,kk⟩:=h;nofun;have nd:=jd.nd;refine⟨_,(ah (bw (aP zV (ar ai (c9 bu T.aS (bp (pv 0) rfl) (hr.mono ∅) au.pass (aa (bp (pv 0) rfl) ag (se rfl)) (hst:=se rfl) (hpl:=na rfl)) ae (λ_ _=>rfl)) (bf (aa a7 (aa a7 ag (se rfl)) (se rfl))) rfl) (ao (aY (bp (pv 0) rfl)))
   ba)
  (ao (aY (aO AH (hr.mono ∅) rfl au.pass (aa (bp (pv 0) rfl) (aa (c9 lP T.aS (bp (pv 0) rfl) (hr.mono ∅) au.pass (aa (bp (pv 0) rfl) ag (se rfl)) (hst:=se rfl) (hpl:=na rfl)) ag (se rfl)) (se rfl)) (he:=se rfl) (hpl:=na rfl))))),?_⟩
  have sl:=sizeLine_eq;symm;obtain⟨dp,c,sv,pv,xs,hp,co,kY,rp,pS,al⟩:=pl.ex;have lp:∀{a b c d e:V},List.lookup (Zz "what_at") [(Zz "spots",a),(Zz "mosts",b),(Zz "first",c),(Zz "whats",d),(Zz "tables",e)]=none:=dX (by decide +kernel) (by decide +kernel) (by decide +kernel) (by decide +kernel) (by decide +kernel);have CV:∀{a b c d e:V},List.lookup (Zz "end_worth") [(Zz "spots",a),(Zz "mosts",b),(Zz "first",c),(Zz "whats",d),(Zz "tables",e)]=none:=dX (by decide +kernel) (by decide +kernel) (by decide +kernel) (by decide +kernel) (by decide +kernel);obtain⟨dc,sp,mo,wh,us,Df,h1,_⟩:=id co;nofun;have h1:=a6 _ _ h1;change tSeq _ _ _ _ _;refine aU (λN=>∀w,Aw g.cs st.2 x=some w->∀H1,aF H H1->N [some (.ref p)] H1) ?_ (λN hN=>?_)
  case refine_2=>
   dsimp?[df,bR,fm,rInT];refine⟨_,_,_,hp,T.bc,T.na_Play_course,_,kX,c,rfl,_,_,h1,lp,_,_,_,hp,T.bc,T.na_Play_state,_,hU,c,rfl,bQ L H,a6,g,co.co,st.1,st.2,kY.mono a6,x,lk,λu ru=>?_⟩;symm;obtain⟨q,CC,rfl,hq⟩:=nh ru;nofun;have hq:=a6 _ _ hq;refine⟨q,rfl,_,hq,_,at0,∅,λt1 H1 s1 n1 e1=>?_⟩;refine⟨_,e1,rfl,rfl,?_⟩;have go:t4 x=Zz "throw"\/t4 x=Zz "pick"->Fb g st pd x=pd:=λh=>by
    rcases h with h | h
    ·obtain⟨_,_,_,_,rfl⟩:=oO h;rfl
    ·obtain⟨_,_,rfl⟩:=wM h;rfl
   have no:¬(t4 x=Zz "throw"\/t4 x=Zz "pick")->∃w,Aw g.cs st.2 x=some w:=λh=>by
    cases x with
    | ask c k a b=>exact absurd rfl (Pj c k a b)
    | fin t b=>exact⟨_,rfl⟩
    | score c=>exact⟨_,rfl⟩
    | pick w rs=>exact absurd (.inr rfl) h
    | dN p t b rs=>exact absurd (.inl rfl) h
   by_cases ek:t4 x=Zz "throw"\/t4 x=Zz "pick"
   ·rw[if_pos (by rcases ek with e | e <;>rw[e] <;>decide +kernel)];exact⟨_,_,_,s1 _ _ hp,T.bc,T.na_Play_paid,_,BQ,kk _ _ s1 (by rw[go ek];exact rp.mono (a6.trans s1))⟩
   ·obtain⟨w,ew⟩:=no ek;rw[if_neg (by
     intro z;refine ek ?_;cases x with
     | ask c k a b=>exact absurd rfl (Pj c k a b)
     | fin t b=>exact absurd (show zO (V.str "end") [V.str "throw",V.str "pick"]=true from z) ∅
     | score c=>exact absurd (show zO (V.str "score") [V.str "throw",V.str "pick"]=true from z) ∅
     | pick w rs=>exact .inr rfl
     | dN p t b rs=>exact .inl rfl)]
    exact hN w ew _ s1
  rintro w ew H1 s1;dsimp?[df,bR,EM,jc];refine⟨_,_,_,s1 _ _ hp,T.bc,T.na_Play_paid,_,BQ,_,_,_,s1 _ _ hp,T.bc,T.na_Play_course,_,kX,c,rfl,_,_,s1 _ _ h1,CV,_,_,_,s1 _ _ hp,T.bc,T.na_Play_state,_,hU,c,rfl,g,co.co.mono (a6.trans s1),pl.good,st.1,st.2,kY.mono (a6.trans s1),pl.len,x,lk,w.1,w.2,ew,λu H2 s2 ru=>⟨pd,rp.mono (a6.trans (s1.trans s2)),w,ru,zo,hw w ew,λr H3 s3 n3 e3=>kk _ _ (s1.trans (s2.trans s3)) ?_⟩⟩;unfold Fb;rw[ew];exact cA.mpr ⟨r,rfl,e3⟩
theorem gE:aZ ["self"] ["self"] (aq (inClass (top 43) 3)):=⟨rfl,rfl,rfl,∅,rfl,∅,∅⟩
theorem Fi (T:Txt K mg aB aH aI aV aE aL aW aM aA aN aX af av):bD P w K mg base (br P w) 8 av "open_ways" ["self"] (vp av af):=by
 have bu:bD P w K mg base (br P w) 1 af "what_at" ["self","state"] (fm af):=lO T;have nj:bD P w K mg base (br P w) 7 af "table_at" ["self","state"] (EN af):=La T;have nk:bD P w K mg base (br P w) 3 af "words_at" ["self","state"] (EL af):=K7 T;refine T.mT.dJ (λ_ _ _ _ _ _=>gZ λ_=>rfl) λf fd F=>F.eC gE (λvs H Q E h=>?_) (λcf A outer s H vs Q E hr h=>?_)
 ·obtain⟨_,_,_,_,_,_,_,_,_,_,rfl,_⟩:=h;rfl
 ·symm;obtain⟨p,tl,tb,L,g,st,pd,tr,x,ds,rfl,pl,lk,od,kk⟩:=h;nofun;have nd:=gE.nd;refine⟨_,(ah (bw (aP bG (ar ai (c9 bu T.aS (bp (pv 0) rfl) (hr.mono ∅) au.pass (aa (bp (pv 0) rfl) ag (se rfl)) (hst:=se rfl) (hpl:=na rfl)) ae (λ_ _=>rfl)) a7 (a5 _)) (ao (aY (cO rfl (N:=["self"]) (so:=aq (inClass (top 43) 3)) (N':=["value","part"]) (k:=2) (fr:=[]) rfl rfl ⟨rfl,∅,∅,∅,rfl,∅,∅⟩ (bA (K:=K) (c9 nj T.aS (bp (pv 0) rfl) (hr.mono ∅) au.pass (aa (bp (pv 0) rfl) ag (se rfl)) (hst:=se rfl) (hpl:=na rfl))) (λ_ _ _ _ _=>(fJ (K:=K) (n:=2) rfl (bX (a9 (i:=0) (show(["value","part"]:List Str).Nodup by decide +kernel) rfl (.inl rfl)) (bX (a9 (i:=1) (show(["value","part"]:List Str).Nodup by decide +kernel) rfl (.inl rfl)) fI)))) (λ_ _ _ _ _=>dH)
   (λ_ _ _ _ _=>(pv 0)))))
   ba)
  (ao (aY (c9 nk T.aS (bp (pv 0) rfl) (hr.mono ∅) au.pass (aa (bp (pv 0) rfl) ag (se rfl)) (hst:=se rfl) (hpl:=na rfl))))),?_⟩
  have sl:=sizeLine_eq;symm;obtain⟨dp,c,sv,pv,xs,hp,co,kY,rp,pS,al⟩:=pl.ex;obtain⟨dc,sp,mo,wh,us,Df,h1,_⟩:=id co;nofun;have h1:=a6 _ _ h1;have lp:∀{a b c d e:V},List.lookup (Zz "what_at") [(Zz "spots",a),(Zz "mosts",b),(Zz "first",c),(Zz "whats",d),(Zz "tables",e)]=none:=dX (by decide +kernel) (by decide +kernel) (by decide +kernel) (by decide +kernel) (by decide +kernel);have CV:∀{a b c d e:V},List.lookup (Zz "table_at") [(Zz "spots",a),(Zz "mosts",b),(Zz "first",c),(Zz "whats",d),(Zz "tables",e)]=none:=dX (by decide +kernel) (by decide +kernel) (by decide +kernel) (by decide +kernel) (by decide +kernel);have Wp:∀{a b c d e:V},List.lookup (Zz "words_at") [(Zz "spots",a),(Zz "mosts",b),(Zz "first",c),(Zz "whats",d),(Zz "tables",e)]=none:=dX (by decide +kernel) (by decide +kernel) (by decide +kernel) (by decide +kernel) (by decide +kernel)
  by_cases ek:t4 x=Zz "throw"
  ·symm;obtain⟨c5,t,b,rs,rfl⟩:=oO ek;obtain⟨ps,rfl,gl,rfl⟩:=od;nofun;change tSeq _ _ _ _ _;refine aU (λN=>True) trivial (λN _=>?_);change tIfS _ _ _ _ [some (.ref p)] H;refine dE (λY N k=>?_) ?_
   ·dsimp?[df,bR,fm];refine⟨_,_,_,hp,T.bc,T.na_Play_course,_,kX,c,rfl,_,_,h1,lp,_,_,_,hp,T.bc,T.na_Play_state,_,hU,c,rfl,bQ L H,a6,g,co.co,st.1,st.2,kY.mono a6,_,lk,λu ru=>?_⟩;symm;obtain⟨q,CC,rfl,hq⟩:=nh ru;nofun;have hq:=a6 _ _ hq;refine⟨q,rfl,_,hq,_,at0,rfl,?_⟩;rw[if_pos (congrArg V.str ek)];exact k
   have key:∀v H1,K3 p tl tb H H1->di av af L H1 p tl tb g st pd tr->Rep H1 (mP (mW ps)) v->(∀D,H1 D=none->H D=none)->∃a,v=.ref a/\(∃xs,bL K H1 a xs)/\fV (xC K a) (Cd K 2 (gCons (gName 0) (gCons (gName 1) gNil))) t7 (tVar 0) [none,none] H1 λys H2=>∀D:Addr,H1 D=none->H2 D=none->Q (V.ref D) (upd H2 D (HO.lst ys)):=λv H1 k1 sP rt nn=>by
    symm;obtain⟨a,ys,rfl,ha,ry⟩:=bh.mp rt;nofun;refine⟨a,rfl,⟨_,bL.of ha⟩,?_⟩;have len:=ry.length;rw[ZA] at len;have Y0:=(BE ps gl).1.2.2.1;have S:Src (xC K a) (aF H1) ys.length _:=src_list (λH' s'=>bL.of (s' _ _ ha));rw[<-len] at S;refine rK (K:=K) (mW ps) (λr=>some r.1) S (λ_ _ _ _ h=>h.1) (by lia) ?_ ?_
    ·rintro i r y er ⟨_,ey⟩;symm;obtain⟨d,ed,rd⟩:=ry.get ey;nofun;rw[ZE,er] at ed;cases ed;symm;obtain⟨p1,q1,rfl,e1,e2⟩:=qG.mp rd;nofun;exact⟨p1,_,_,rfl,kz.of e1,λY N y1 y2=>by dsimp?[];exact y1 _ rfl⟩
    ·intro D n1 n2;have sD:=aD (o:=.lst (List.map V.int ((mW ps).filterMap λr=>some r.1))) n1;refine kk D _ (k1.trans (.of sD)) (sP.same sD) (nn _ n1) (bh.mpr ⟨D,_,rfl,aj,?_⟩);rw[List.filterMap_eq_map',show List.map ((λr:Int×Int×Int=>r.1)) (mW ps)=dt ps from(BE ps gl).2];exact ints_rep _
   symm;obtain⟨kvs,sJ,knd,N4,N5⟩:=id pl.Lb;nofun;have Wr:kvs.length<=100:=by
    have:=yK knd N4;rw[ZA,ZA] at this;exact ZN this pl.good.lp
   have Lj:p≠tb:=λz=>by rw[z,sJ] at hp;cases hp
   have N6:tl≠tb:=λz=>by rw[z,sJ] at pS;cases pS
   dsimp?[df,bR,EN];refine⟨_,_,_,hp,T.bc,T.na_Play_course,_,kX,c,rfl,_,_,h1,CV,_,_,_,hp,T.bc,T.na_Play_state,_,hU,c,rfl,g,st.1,st.2,tb,co.mono (E5 pl.mem.2.2),kY.mono a6,kvs,sJ,by lia,ps,t,b,rs,lk,gl,?_,λv hv=>?_,λhv p2 H1 s1 n2 r2=>?_⟩
   ·obtain⟨k,s,_,e | ⟨m,_,e⟩⟩:=ir gl <;>rw[e] <;>simp
   ·symm;obtain⟨Mq,t',b',N7,kW,rv⟩:=N5 _ _ hv;nofun;rw[lk] at kW
    injection kW with kW
    injection kW with e1
    have e1:=ix e1;subst e1;exact key v H (.of (aF.refl _)) pl (rv.mono a6) λ_ h=>h
   ·have k2:K3 p tl tb H (upd H1 tb (.dK (kvs++ [(Sum.inr st.1,.ref p2)]))):=λa o _ _ h3 h=>by rw[aw h3];exact s1 _ _ h
    have s2:=k2.cX pl.mem.1 pl.mem.2.1 pl.mem.2.2;have Wu:p2∉L:=pl.out n2;have tup:∀a vs,H1 a=some (.tup vs)->upd H1 tb (.dK (kvs++ [(Sum.inr st.1,.ref p2)])) a=some (.tup vs)/\a∉L:=λa vs h=>by
     refine⟨by rw[aw (λz=>by rw[z,s1 _ _ sJ] at h;cases h)];exact h,λm=>?_⟩;symm;obtain⟨o,ho,no⟩:=pl.al a m;nofun;rw[s1 _ _ ho] at h;cases h;exact no _ rfl
    have Wv:p2≠tb:=λz=>by rw[z,sJ] at n2;cases n2
    have r3:Rep (bQ L (upd H1 tb (.dK (kvs++ [(Sum.inr st.1,.ref p2)])))) (mP (mW ps)) (.ref p2):=HH r2 (λo h=>by rw[cK Wu,aw Wv];exact h) λa vs h=>by
     obtain⟨x1,x2⟩:=tup a vs h;rw[cK x2];exact x1
    have Hq:di av af L (upd H1 tb (.dK (kvs++ [(Sum.inr st.1,.ref p2)]))) p tl tb g st pd tr:=by
     refine pl.next k2 (by rw[aw Lj];exact s1 _ _ hp) co (kY.mono s2) (rp.mono s2) (by rw[aw N6];exact s1 _ _ pS) (Dg.up s2 al) ⟨_,aj,?_,λk hk=>?_,λnm v e=>?_⟩ pl.len pl.HU
     ·rw[ZG,ZC,Z7];refine List.nodup_append.mpr ⟨knd,by simp,λa ha b hb=>?_⟩;rw[aaK] at hb;intro z;rw[z,hb] at ha;symm;obtain⟨x,hx,ex⟩:=aaJ.mp ha;nofun;unfold dP at hv;have hv:kvs.find? (λkv=>decide (kv.1=Sum.inr st.1))=none:=by simpa using hv
      exact absurd (List.find?_eq_none.mp hv x hx) (by simp [ex])
     ·rw[ZG,List.mem_append] at hk;rcases hk with hk | hk
      ·exact N4 k hk
      ·rw[ZC,Z7,aaK] at hk;rw[hk];exact aaJ.mpr ⟨_,c8 lk,rfl⟩
     ·rw[yA hv] at e
      by_cases z:(Sum.inr st.1:Key)=Sum.inr nm
      ·rw[if_pos z] at e;cases e
       injection z with z
       exact⟨ps,t,b,rs,by rw[<-z];exact lk,r3⟩
      ·rw[if_neg z] at e;symm;obtain⟨Mq,t',b',N7,kW,rv⟩:=N5 _ _ e;nofun;exact⟨Mq,t',b',N7,kW,rv.mono s2⟩
    obtain⟨a,ea,k⟩:=key (.ref p2) _ k2 Hq (r3.mono a6) λD h=>by
     by_cases z:D=tb
     ·rw[z,aj] at h;cases h
     ·rw[aw z] at h;exact none_of s1 h
    cases ea;exact k
  ·change tSeq _ _ _ _ _;refine aU (λN=>N [some (.ref p)] H) ?_ (λN hN=>?_)
   case refine_2=>
    change tIfS _ _ _ _ [some (.ref p)] H;refine dq (λY N k=>?_) hN;dsimp?[df,bR,fm];refine⟨_,_,_,hp,T.bc,T.na_Play_course,_,kX,c,rfl,_,_,h1,lp,_,_,_,hp,T.bc,T.na_Play_state,_,hU,c,rfl,bQ L H,a6,g,co.co,st.1,st.2,kY.mono a6,_,lk,λu ru=>?_⟩;symm;obtain⟨q,CC,rfl,hq⟩:=nh ru;nofun;have hq:=a6 _ _ hq;refine⟨q,rfl,_,hq,_,at0,rfl,?_⟩;rw[if_neg (λz=>ek (by injection z))];exact k
   dsimp?[df,bR,EL];refine⟨_,_,_,hp,T.bc,T.na_Play_course,_,kX,c,rfl,_,_,h1,Wp,_,_,_,hp,T.bc,T.na_Play_state,_,hU,c,rfl,g,co.co.mono a6,pl.good,st.1,st.2,kY.mono a6,pl.len,x,lk,λa H' s' na ra=>kk a H' (.of s') (pl.same s') na ?_⟩;have e:ds=(cj g.cs st.2 x).map λr=>Dat.str r.word:=by
    cases x with
    | dN c5 t b rs=>exact absurd rfl ek
    | ask c k a b=>exact od
    | fin t b=>exact od
    | score c=>exact od
    | pick w rs=>exact od
   rw[e];exact ra
theorem sQ:aZ ["self","step","state","pay"] ["self","step","state","pay"] (aq (inClass (top 43) 4)):=⟨rfl,rfl,rfl,∅,rfl,∅,∅⟩
theorem Jn (T:Txt K mg aB aH aI aV aE aL aW aM aA aN aX af av):bD P w K mg base (br P w) 4 av "go" ["self","step","state","pay"] (Fd av af aE):=by
 have AH:cg P w K mg base (br P w) 3 "plus" ["one","other"] jc:=Fh T;refine T.Au.dJ (λ_ _ _ _ _ _=>uv λ_ _ _ _=>rfl) λf fd F=>F.Kd sQ (λvs H Q E h=>?_) (λcf A outer s H vs Q E hr h=>?_)
 ·obtain⟨_,_,_,_,_,_,_,_,_,_,_,_,_,rfl,_⟩:=h;rfl
 ·symm;obtain⟨p,step,Dh,Fj,tl,tb,L,g,st,pd,tr,gJ,py,rfl,pl,wO,Rv,Ww,Wx,zo,Fk,kE,kQ⟩:=h;nofun;clear G_;have nd:=sQ.nd;have BN:A.handled=none:=hr.hd;refine⟨_,(ah (bw (aP bG (a8 bO (by rfl) T.z_len ZT (aa (bp (pv 0) rfl) ag (se rfl)) (he:=se rfl) (hpl:=na rfl)) (mQ rfl T.c_MOST_STEPS) (a5 _)) (ao (eW rfl T.k_TooMany T.x_TooMany BN (aa a7 ag (se rfl)) (he:=se rfl) (hpl:=na rfl)))
   ba)
  (ah (b6 (fi Z5 aar aas dG.r (bp (pv 0) rfl) (aa (bf (aa (pv 1) (aa (bp (pv 0) rfl) (aa (bp (pv 0) rfl) ag (se rfl)) (se rfl)) (se rfl))) ag (se rfl))))
  (ah (eO (pv 0) (pv 2) rfl)
  (ao (eO (pv 0) (aO AH (hr.mono ∅) rfl au.pass (aa (bp (pv 0) rfl) (aa (pv 3) ag (se rfl)) (se rfl)) (he:=se rfl) (hpl:=na rfl)) rfl))))),?_⟩
  refine(?_:let bY:TS:=_;let bZ:TS:=_;let b5:TS:=_;let cY:TS:=_;tSeq bY (tSeq bZ (tSeq b5 cY)) _ _ _);intro bY bZ b5 cY;have sl:=sizeLine_eq;symm;obtain⟨dp,c,sv,pv,xs,hp,co,kY,rp,pS,al⟩:=pl.ex;nofun;clear G_;have xl:=al.length;change tSeq _ _ _ _ _;refine aU (λN=>tr.length<200->N [some (.ref p),some (.str step),some Dh,some Fj] H) ?_ (λN hN=>?_)
  case refine_2=>
   dsimp?[df,tRaise];refine⟨_,_,_,hp,T.bc,T.na_Play_trail,_,yJ,tl,rfl,_,pS,iS (λe=>⟨∅,kE (by lia) _ (aF.refl _)⟩) (λe=>hN (by lia))⟩
  intro l2;have Lk:p≠tl:=λz=>by rw[z,pS] at hp;cases hp
  symm;obtain⟨kvs,sJ,_⟩:=id pl.Lb;nofun;clear G_;have Lj:p≠tb:=λz=>by rw[z,sJ] at hp;cases hp
  have N6:tl≠tb:=λz=>by rw[z,sJ] at pS;cases pS
  change tSeq _ _ _ _ _;refine aU (λN=>∀t H1,aF H H1->H t=none->H1 t=some (.tup [.str step,sv,pv])->N [some (.ref p),some (.str step),some Dh,some Fj] (upd H1 tl (.lst (xs++ [.ref t])))) ?_ (λN hN=>?_)
  case refine_2=>
   dsimp?[df,eQ];refine⟨_,_,_,hp,T.bc,T.na_Play_trail,_,yJ,.inl ⟨rfl,_,bL.of pS⟩,_,_,_,hp,T.bc,T.na_Play_state,_,hU,_,_,_,hp,T.bc,T.na_Play_paid,_,BQ,by lia,λt H1 s1 n1 e1=>?_⟩;exact⟨tl,rfl,_,s1 _ _ pS,by lia,hN t H1 s1 n1 e1⟩
  rintro t H1 s1 nt ht;have Wy:=s1 _ _ hp;change tSeq _ _ _ [some (.ref p),some (.str step),some Dh,some Fj] (upd H1 tl (.lst (xs++ [.ref t])));refine aU (λN=>N [some (.ref p),some (.str step),some Dh,some Fj] (upd (upd H1 tl (.lst (xs++ [.ref t]))) p (.ins av dp (iT (.ref c) Dh pv (.ref tl))))) ?_ (λN hN=>?_)
  case refine_2=>
   dsimp?[om];rw[<-Jj (b:=sv)] at hN;exact⟨_,_,_,by rw[aw Lk];exact Wy,T.bc,T.na_Play_state,wN,hN⟩
  generalize zi:upd (upd H1 tl (.lst (xs++ [.ref t]))) p (.ins av dp (iT (.ref c) Dh pv (.ref tl)))=H2;have k2:K3 p tl tb H H2:=λa o h1 h2 h3 h=>by rw[<-zi,aw h1,aw h2];exact s1 _ _ h
  have p2:H2 p=some (.ins av dp (iT (.ref c) Dh pv (.ref tl))):=by rw[<-zi,aj]
  have t2:H2 tl=some (.lst (xs++ [.ref t])):=by rw[<-zi,aw (Ne.symm Lk),aj]
  have b2:H2 tb=some (.dK kvs):=by rw[<-zi,aw (Ne.symm Lj),aw (Ne.symm N6)];exact s1 _ _ sJ
  have n2:H2 t=some (.tup [.str step,sv,pv]):=by
   rw[<-zi,aw (λz=>by rw[z,hp] at nt;cases nt),aw (λz=>by rw[z,pS] at nt;cases nt)];exact ht
  clear zi;have sm:=k2.cX pl.mem.1 pl.mem.2.1 pl.mem.2.2;dsimp?[df,om,jc];refine⟨_,_,_,p2,T.bc,T.na_Play_paid,_,BQ,pd,rp.mono (sm.trans a6),py,Wx.mono (sm.trans a6),zo,Fk,λr H3 s3 nr er=>⟨_,_,_,s3 _ _ p2,T.bc,T.na_Play_paid,wN,?_⟩⟩;rw[Jk];have Wz:r≠p:=λz=>by rw[z,p2] at nr;cases nr
  have k4:K3 p tl tb H (upd H3 p (.ins av dp (iT (.ref c) Dh (.ref r) (.ref tl)))):=λa o h1 h2 h3 h=>by rw[aw h1];exact s3 _ _ (k2 a o h1 h2 h3 h)
  have s4:=k4.cX pl.mem.1 pl.mem.2.1 pl.mem.2.2;have WA:H r=none:=by
   cases h:H r with
   | none=>rfl
   | some o=>rw[k2 _ _ Wz (λz=>by rw[z,t2] at nr;cases nr) (λz=>by rw[z,b2] at nr;cases nr) h] at nr;cases nr
  have fr:∀{a o},H a=none->H3 a=some o->bQ L (upd H3 p (.ins av dp (iT (.ref c) Dh (.ref r) (.ref tl)))) a=some o:=λ{a o} n h=>by
   rw[cK (pl.out n),aw (λz=>by rw[z,hp] at n;cases n)];exact h
  refine kQ l2 _ k4 (pl.next k4 aj co (Rv.mono s4) (cA.mpr ⟨r,rfl,fr WA er⟩) (by rw[aw (Ne.symm Lk)];exact s3 _ _ t2) ?_ (pl.Lb.mono s4 λo h=>?_) Ww ?_)
  ·exact(Dg.up s4 al).append (Al.one ⟨t,sv,pv,rfl,fr nt (s3 _ _ n2),kY.mono s4,rp.mono s4⟩)
  ·rw[sJ] at h;rw[aw (Ne.symm Lj),s3 _ _ b2];exact h
  ·intro e he;rcases List.mem_append.mp he with he | he
   ·exact pl.HU e he
   ·rw[aaK.mp he];exact pl.len
theorem pU:aZ ["self","word","rows"] ["self","word"] (aq (inClass (top 43) 5)):=⟨rfl,rfl,rfl,∅,rfl,∅,∅⟩
theorem Fl (T:Txt K mg aB aH aI aV aE aL aW aM aA aN aX af av):bD P w K mg base (br P w) 5 av "say" ["self","word"] (yM av af aA aE):=by
 have d9:bD P w K mg base (br P w) 2 af "open_rows" ["self","state"] (yx af):=EX T;have fg:bD P w K mg base (br P w) 3 af "by_row" ["self","state","row","value"] (yv af):=EW T;have oP:bD P w K mg base (br P w) 4 av "go" ["self","step","state","pay"] (Fd av af aE):=Jn T;refine T.yo.dJ (λ_ _ _ _ _ _=>eG λ_ _=>rfl) λf fd F=>F.Kd pU (λvs H Q E h=>?_) (λcf A outer s H vs Q E hr h=>?_)
 ·obtain⟨_,_,_,_,_,_,_,_,_,_,rfl,_⟩:=h;rfl
 ·symm;obtain⟨p,word,tl,tb,L,g,st,pd,tr,x,rfl,pl,wO,lk,zo,kE,kQ⟩:=h;nofun;have nd:=pU.nd;have BN:A.handled=none:=hr.hd;refine⟨_,(ah (jI (i:=2) rfl nd rfl rfl (N:=["self","word","rows"]) (so:=aq (inClass (top 43) 5)) (N':=["row","word"]) (k:=1) (fr:=[1]) rfl rfl ⟨rfl,∅,∅,∅,rfl,∅,∅⟩ (bA (K:=K) (c9 d9 T.aS (bp (pv 0) rfl) (hr.mono ∅) au.pass (aa (bp (pv 0) rfl) ag (se rfl)) (hst:=se rfl) (hpl:=na rfl))) (λ_ _ _ _ _=>(a9 (i:=0) (show(["row","word"]:List Str).Nodup by decide +kernel) rfl (.inl rfl))) (λ_ _ _ _ _=>(eF (aP bG (ar ai (pv 0) ae (λ_ _=>rfl)) (pv 1) (a5 _))))
   (λ_ _ _ _ _=>(pv 0)))
  (ah (bw (aP bG (a8 bO (by rfl) T.z_len ZT (aa (pv 2) ag (se rfl)) (he:=se rfl) (hpl:=na rfl)) ae (a5 _)) (ao (eW rfl T.k_NoStep T.x_NoStep BN (aa a7 ag (se rfl)) (he:=se rfl) (hpl:=na rfl)))
   ba)
  (ao (b6 (c9 oP T.bc (pv 0) (hr.mono ∅) Bh (aa (pv 1) (aa (c9 fg T.aS (bp (pv 0) rfl) (hr.mono ∅) au.pass (aa (bp (pv 0) rfl) (aa (ar a4 (pv 2) ae (λ_ _=>rfl)) (aa ae ag (se rfl)) (se rfl)) (se rfl)) (hst:=se rfl) (hpl:=na rfl)) (aa (bf (aa ae (aa ae ag (se rfl)) (se rfl))) ag (se rfl)) (se rfl)) (se rfl)) (hst:=se rfl) (hpl:=na rfl)))))),?_⟩
  refine(?_:let bY:TS:=_;let bZ:TS:=_;let b5:TS:=_;tSeq bY (tSeq bZ b5) _ _ _);intro bY bZ b5;have sl:=sizeLine_eq;symm;obtain⟨dp,c,sv,pv,xs,hp,co,kY,rp,pS,al⟩:=pl.ex;obtain⟨dc,sp,mo,wh,us,Df,h1,_⟩:=id co;nofun;have h1:=a6 _ _ h1;have lp:∀{a b c d e:V},List.lookup (Zz "open_rows") [(Zz "spots",a),(Zz "mosts",b),(Zz "first",c),(Zz "whats",d),(Zz "tables",e)]=none:=dX (by decide +kernel) (by decide +kernel) (by decide +kernel) (by decide +kernel) (by decide +kernel);have CV:∀{a b c d e:V},List.lookup (Zz "by_row") [(Zz "spots",a),(Zz "mosts",b),(Zz "first",c),(Zz "whats",d),(Zz "tables",e)]=none:=dX (by decide +kernel) (by decide +kernel) (by decide +kernel) (by decide +kernel) (by decide +kernel);have gx:=pl.good.wt _ (c8 lk);have Ma:(cj g.cs st.2 x).length<=100:=by
   cases x with
   | pick w rs=>exact ZN (List.length_filter_le _ _) gx.1
   | dN c5 t b rs=>exact ZM _
   | ask c k a b=>exact ZM _
   | fin t b=>exact ZM _
   | score c=>exact ZM _
  change tSeq _ _ _ _ _;refine aU (λN=>∀H1,aF H H1->∀a ys,H1 a=some (.lst ys)->bo (bQ L H) ((((cj g.cs st.2 x).filter λr=>decide (r.word=word)).map HD).map sh) ys->N [some (.ref p),some (.str word),some (.ref a)] H1) ?_ (λN hN=>?_)
  case refine_2=>
   dsimp?[df,bR,yx];refine⟨_,_,_,hp,T.bc,T.na_Play_course,_,kX,c,rfl,_,_,h1,lp,_,_,_,hp,T.bc,T.na_Play_state,_,hU,c,rfl,bQ L H,a6,g,co.co,pl.good,st.1,st.2,kY.mono a6,pl.len,x,lk,λa ys H1 s1 na ha ra=>?_⟩;have len:=ra.length;rw[ZA,ZA] at len;have zl:(ys.zip (cj g.cs st.2 x)).length=ys.length:=by rw[aaq];lia
   refine⟨⟨_,bL.of ha⟩,?_⟩;have S:Src (xC K a) (aF H1) ys.length _:=src_list (λH' s'=>bL.of (s' _ _ ha));rw[<-zl] at S;refine eB (ys.zip (cj g.cs st.2 x)) (λy=>if decide (y.2.word=word)=true then some y.1 else none) S (λ_ _ _ _ h=>h.1) (by lia) ?_ ?_
   ·rintro i ⟨y,r⟩ z Ll ⟨_,ez⟩ Y N3 y1 y2;obtain⟨e1,e2⟩:=List.getElem?_zip_eq_some.mp Ll;rw[e1] at ez;cases ez;symm;obtain⟨r',q,_,b1,b2,b3,er,rfl,hq,_,_⟩:=jM ra e1;nofun;rw[e2] at er;cases er;have hq:=s1 _ _ (a6 _ _ hq);dsimp?[hq]
    by_cases e:r.word=word
    ·rw[if_pos e];exact y1 _ (if_pos (decide_eq_true e))
    ·rw[if_neg e];exact y2 (if_neg (by simpa using e))
   ·intro D n1 n2;exact hN _ (s1.trans (aD n2)) D _ aj (iw ra)
  rintro H1 s1 a ys ha ry;have oQ:=ry.length;rw[ZA,ZA] at oQ;have hd:((cj g.cs st.2 x).filter λr=>decide (r.word=word)).head?=(cj g.cs st.2 x).find? λr=>decide (r.word=word):=by rw[List.head?_filter]
  change tSeq _ _ _ _ _;cases er:(cj g.cs st.2 x).filter λr=>decide (r.word=word) with
  | nil=>
   rw[er] at hd oQ;refine aU (λ_=>True) trivial (λN _=>?_);dsimp?[ha,tRaise];rw[if_pos (by rw[aap] at oQ;lia)];exact⟨∅,kE hd.symm _ s1⟩
  | cons r rest=>
   rw[er] at hd oQ ry;symm;obtain⟨y,ys,rfl,r1,_⟩:=aT.mp ry;nofun;refine aU (λN=>N [some (.ref p),some (.str word),some (.ref a)] H1) ?_ (λN hN=>?_)
   case refine_2=>
    dsimp?[ha,tRaise];rw[if_neg (by lia)];exact hN
   symm;obtain⟨f',fk,ak,kM,kk⟩:=kQ r hd.symm;nofun;have m8:r∈cj g.cs st.2 x:=(List.mem_filter.mp (by rw[er];exact ZL)).1;have gr:r.ds.length<=100/\∀d∈r.ds,fZ g.cs d:=by
    cases x with
    | pick w rs=>exact gx.2 r (List.mem_filter.mp m8).1
    | dN c5 t b rs=>cases m8
    | ask c k a b=>cases m8
    | fin t b=>cases m8
    | score c=>cases m8
   have sP:=pl.same s1;have Rx:∀{a b c d:V},List.lookup (Zz "go") (iT a b c d)=none:=by intro a b c d;unfold iT;rw[bM ∅,bM ∅,bM ∅,bM ∅];rfl
   dsimp?[df,bR,yv,Fd];refine⟨_,_,s1 _ _ hp,Rx,_,_,_,s1 _ _ hp,T.bc,T.na_Play_course,_,kX,c,rfl,_,_,s1 _ _ h1,CV,_,_,_,s1 _ _ hp,T.bc,T.na_Play_state,_,hU,_,ha,_,at0,c,rfl,g,co.co.mono (a6.trans s1),pl.good,st.1,st.2,kY.mono (a6.trans s1),_,_,r.ds,r.to,r1.mono (a6.trans s1),gr.2,gr.1,pl.len,f',fk,ak,λp' l' H2 s2 n1 n2 e1 e2=>⟨by lia,λt H3 s3 nt et=>?_⟩⟩;have nu:=s1.trans (s2.trans s3);have fr:∀{a o},H a=none->H3 a=some o->bQ L H3 a=some o:=λ{a o} n h=>by rw[cK (pl.out n)];exact h
   have WB:=pl.same nu;exact⟨tl,tb,L,g,st,pd,tr,WB,wO,(fk,r.ds.foldl (iU g.cs 0) st.2),⟨p',l',rfl,fr (none_of s1 n1) (s3 _ _ e1),fr (none_of s1 n2) (s3 _ _ e2)⟩,(de _ _).trans pl.len,(0,1),cA.mpr ⟨t,rfl,fr (none_of (s1.trans s2) nt) et⟩,zo,jN 0 ∅ ∅,λz H' s'=>kM z H' (nu.trans s'),λz H' k' D9=>kk z H' ((K3.of nu).trans k') D9⟩
theorem kZ:aZ ["self","value","what"] ["self","value"] (aq (inClass (top 43) 6)):=⟨rfl,rfl,rfl,∅,rfl,∅,∅⟩
noncomputable def yN (qP qC qn qm:Addr):Sp:=λvs H Q E=>∃(p:Addr) (v:Int) (tl tb:Addr) (L:List Addr) (g:Gm) (st:gM) (pd:Int×Int) (tr:List og) (x:Wt),vs=[.ref p,.int v]/\di qP qC L H p tl tb g st pd tr/\tr.length<=200/\look g.ps st.1=some x/\(∀c5 t b rs,x=.dN c5 t b rs->∃ps,c5=ps.map qc/\pM ps)/\ng 100000 pd/\
 ((∀ps t b rs,x=.dN (List.map qc ps) t b rs->v∉dt ps)->∀H',K3 p tl tb H H'->di qP qC L H' p tl tb g st pd tr->E (.ref qn) none H')/\
 (∀ps t b rs,x=.dN (List.map qc ps) t b rs->v∈dt ps->0<=v/\v<=1000/\ng 100000 (t,b)/\∃r f fk,yz rs v=some r/\dW g (r.2.2.1.foldl (iU g.cs v) st.2) f r.2.2.2=some fk/\
  (tr.length=200->∀H',K3 p tl tb H H'->di qP qC L H' p tl tb g st pd tr->E (.ref qm) none H')/\(tr.length<200->∀H',K3 p tl tb H H'->di qP qC L H' p tl tb g (fk,r.2.2.1.foldl (iU g.cs v) st.2) (Wq.pl pd (t,b)) (tr++ [(Zz (toString v),st,pd)])->Q .cW H'))
theorem Fm (T:Txt K mg aB aH aI aV aE aL aW aM aA aN aX af av):bD P w K mg base (br P w) 9 av "throw" ["self","value"] (yN av af aA aE):=by
 have bu:bD P w K mg base (br P w) 1 af "what_at" ["self","state"] (fm af):=lO T;have AI:cg P w K mg base (br P w) 1 "is_whole" ["thing"] BR:=Lh T;have eP:bD P w K mg base (br P w) 8 av "open_ways" ["self"] (vp av af):=Fi T;have nv:bD P w K mg base (br P w) 4 af "by_value" ["self","state","value"] (K0 af):=NY T;have oP:bD P w K mg base (br P w) 4 av "go" ["self","step","state","pay"] (Fd av af aE):=Jn T;refine T.ur.dJ (λ_ _ _ _ _ _=>eG λ_ _=>rfl) λf fd F=>F.Kd kZ (λvs H Q E h=>?_) (λcf A outer s H vs Q E hr h=>?_)
 ·obtain⟨_,_,_,_,_,_,_,_,_,_,rfl,_⟩:=h;rfl
 ·symm;obtain⟨p,v,tl,tb,L,g,st,pd,tr,x,rfl,pl,wO,lk,xg,zo,kE,kQ⟩:=h;nofun;have nd:=kZ.nd;have BN:A.handled=none:=hr.hd;refine⟨_,(ah (aJ (i:=2) nd rfl (.inl rfl) (c9 bu T.aS (bp (pv 0) rfl) (hr.mono ∅) au.pass (aa (bp (pv 0) rfl) ag (se rfl)) (hst:=se rfl) (hpl:=na rfl)))
  (ah (bw (PW.pt (pw_or (aP xF (ar ai (pv 2) ae (λ_ _=>rfl)) a7 (a5 _)) (pw_or (vE (ie (aO AI (hr.mono ∅) rfl au.pass (aa (pv 1) ag (se rfl)) (he:=se rfl) (hpl:=na rfl)))) (pw_or1 (aP (kD (K:=K)) (pv 1) (oC eP T.bc (pv 0) (hr.mono ∅) au.pass) rfl))))) (ao (eW rfl T.k_NoStep T.x_NoStep BN (aa a7 ag (se rfl)) (he:=se rfl) (hpl:=na rfl)))
   ba)
  (ao (b6 (c9 oP T.bc (pv 0) (hr.mono ∅) Bh (aa (eg Ae (by rfl) T.z_str rfl (aa (pv 1) ag (se rfl)) (he:=se rfl) (hpl:=na rfl)) (aa (c9 nv T.aS (bp (pv 0) rfl) (hr.mono ∅) au.pass (aa (bp (pv 0) rfl) (aa (pv 1) ag (se rfl)) (se rfl)) (hst:=se rfl) (hpl:=na rfl)) (aa (ar ai (pv 2) ae (λ_ _=>rfl)) ag (se rfl)) (se rfl)) (se rfl)) (hst:=se rfl) (hpl:=na rfl)))))),?_⟩
  refine(?_:let bY:TS:=_;let bZ:TS:=_;let b5:TS:=_;tSeq bY (tSeq bZ b5) _ _ _);intro bY bZ b5;have sl:=sizeLine_eq;symm;obtain⟨dp,c,sv,pv,xs,hp,co,kY,rp,pS,al⟩:=pl.ex;obtain⟨dc,sp,mo,wh,us,Df,h1,_⟩:=id co;nofun;have h1:=a6 _ _ h1;have lp:∀{a b c d e:V},List.lookup (Zz "what_at") [(Zz "spots",a),(Zz "mosts",b),(Zz "first",c),(Zz "whats",d),(Zz "tables",e)]=none:=dX (by decide +kernel) (by decide +kernel) (by decide +kernel) (by decide +kernel) (by decide +kernel);have CV:∀{a b c d e:V},List.lookup (Zz "by_value") [(Zz "spots",a),(Zz "mosts",b),(Zz "first",c),(Zz "whats",d),(Zz "tables",e)]=none:=dX (by decide +kernel) (by decide +kernel) (by decide +kernel) (by decide +kernel) (by decide +kernel);have Rx:∀{a b c d:V},List.lookup (Zz "go") (iT a b c d)=none:=by intro a b c d;unfold iT;rw[bM (by decide +kernel),bM (by decide +kernel),bM (by decide +kernel),bM (by decide +kernel)];rfl
  have low:∀{a b c d:V},List.lookup (Zz "open_ways") (iT a b c d)=none:=by intro a b c d;unfold iT;rw[bM ∅,bM ∅,bM ∅,bM ∅];rfl
  change tSeq _ _ _ _ _;refine aU (λN=>∀u,Rep (bQ L H) (jU x) u->N [some (.ref p),some (.int v),some u] H) ?_ (λN hN=>?_)
  case refine_2=>
   dsimp?[df,bR,fm];exact⟨_,_,_,hp,T.bc,T.na_Play_course,_,kX,c,rfl,_,_,h1,lp,_,_,_,hp,T.bc,T.na_Play_state,_,hU,c,rfl,bQ L H,a6,g,co.co,st.1,st.2,kY.mono a6,_,lk,λu ru=>hN u ru⟩
  rintro u ru
  by_cases kt:t4 x=Zz "throw"
  case neg=>
   symm;obtain⟨q,CC,rfl,hq⟩:=nh ru;nofun;have oa:=a6 _ _ hq;change tSeq _ _ _ _ _;refine aU (λ_=>True) trivial (λN _=>?_);refine dE (λY N k=>by dsimp?[oa];rw[if_pos kt];exact k) ?_;dsimp?[tRaise];exact⟨∅,kE (λps t b rs e=>absurd (by rw[e];rfl) kt) _ (.of (aF.refl _)) pl⟩
  symm;obtain⟨c5,t,b,rs,rfl⟩:=oO kt;obtain⟨ps,rfl,gl⟩:=xg _ _ _ _ rfl;obtain⟨q,w1,x1,x2,x3,rfl,hq,r1,r2,rt,r4⟩:=dr.mp (show Rep _ (.tup _) u from ru);nofun;rw[aR.mp r1] at hq;have oa:=a6 _ _ hq;change tSeq _ _ _ _ _
  by_cases hv:v∈dt ps
  case neg=>
   refine aU (λ_=>True) trivial (λN _=>?_);dsimp?[bR,BR,vp,oa,tRaise];rw[if_neg (by simp),if_neg ∅];refine⟨_,_,hp,low,tl,tb,L,g,st,pd,tr,pl,_,lk,_,⟨ps,rfl,gl,rfl⟩,λa H1 k1 sP na ra=>?_⟩;symm;obtain⟨a',ys,e0,ha,ry⟩:=bh.mp ra;nofun;cases e0;obtain rfl:=fQ ry;refine⟨_,_,rfl,.inl (bL.of ha),rfl,oN _,_,rfl,?_⟩;rw[wL,decide_eq_false hv];refine⟨∅,kE (λMq t' b' N7 e=>?_) _ k1 sP⟩
   injection e with e
   rw[<-ix e];exact hv
  symm;obtain⟨v0,v1,Fk,r,f',fk,ro,ak,kM,kk⟩:=kQ ps t b rs rfl hv;nofun;refine aU (λN=>∀H1,K3 p tl tb H H1->di av af L H1 p tl tb g st pd tr->N [some (.ref p),some (.int v),some (.ref q)] H1) ?_ (λN hN=>?_)
  case refine_2=>
   dsimp?[bR,BR,vp,oa];rw[if_neg (by simp),if_neg ∅];refine⟨_,_,hp,low,tl,tb,L,g,st,pd,tr,pl,_,lk,_,⟨ps,rfl,gl,rfl⟩,λa H1 k1 sP na ra=>?_⟩;symm;obtain⟨a',ys,e0,ha,ry⟩:=bh.mp ra;nofun;cases e0;obtain rfl:=fQ ry;refine⟨_,_,rfl,.inl (bL.of ha),rfl,oN _,_,rfl,?_⟩;rw[ints_in hv];exact hN _ k1 sP
  rintro H1 k1 sP;symm;obtain⟨Y1,c1,WC,WD,Y2,Ry,Mp,Rz,Y3,WE,Y4⟩:=sP.ex;obtain⟨Y5,Y6,RA,Y7,Y8,Y9,g1,_⟩:=id Mp;nofun;have g1:=a6 _ _ g1;have sm:=k1.cX pl.mem.1 pl.mem.2.1 pl.mem.2.2;have Mf:=sm _ _ hq;dsimp?[df,bR,K0,Fd];refine⟨_,_,Ry,Rx,?_,_,_,_,Ry,T.bc,T.na_Play_course,_,kX,c1,rfl,_,_,g1,CV,_,_,_,Ry,T.bc,T.na_Play_state,_,hU,c1,rfl,g,Mp.co.mono a6,pl.good,st.1,st.2,Rz.mono a6,pl.len,_,_,_,_,lk,r,ro,f',fk,ak,λp' l' H2 s2 n1 n2 e1 e2=>?_⟩
  ·exact Nat.lt_of_le_of_lt (Nat.log2_le_self _) (by lia)
  have fr:∀{a o},H1 a=none->H2 a=some o->bQ L H2 a=some o:=λ{a o} n h=>by rw[cK (sP.out n)];exact h
  have yO:=hJ (L:=L) s2;exact⟨_,s2 _ _ (a6 _ _ Mf),_,at2,tl,tb,L,g,st,pd,tr,sP.same s2,wO,(fk,r.2.2.1.foldl (iU g.cs v) st.2),⟨p',l',rfl,fr n1 e1,fr n2 e2⟩,(de _ _).trans pl.len,(t,b),Rep.mono (sm.trans yO) rt,zo,Fk,λz H' s'=>kM z H' (k1.trans (.of (s2.trans s'))) (sP.same (s2.trans s')),λz H' k' D9=>kk z H' (k1.trans ((K3.of s2).trans k')) D9⟩
theorem nz:aZ ["self","last"] ["self"] (aq (inClass (top 43) 7)):=⟨rfl,rfl,rfl,∅,rfl,∅,∅⟩
theorem Lm (T:Txt K mg aB aH aI aV aE aL aW aM aA aN aX af av):bD P w K mg base (br P w) 1 av "back" ["self"] (Fe av af aA):=by
 refine T.wu.dJ (λ_ _ _ _ _ _=>gZ λ_=>rfl) λf fd F=>F.Kd nz (λvs H Q E h=>?_) (λcf A outer s H vs Q E hr h=>?_)
 ·obtain⟨_,_,_,_,_,_,_,_,rfl,_⟩:=h;rfl
 ·symm;obtain⟨p,tl,tb,L,g,st,pd,tr,rfl,pl,wO,kE,kQ⟩:=h;nofun;clear G_;have nd:=nz.nd;have BN:A.handled=none:=hr.hd;refine⟨_,(ah (bw (aP bG (a8 bO (by rfl) T.z_len ZT (aa (bp (pv 0) rfl) ag (se rfl)) (he:=se rfl) (hpl:=na rfl)) ae (a5 _)) (ao (eW rfl T.k_NoStep T.x_NoStep BN (aa a7 ag (se rfl)) (he:=se rfl) (hpl:=na rfl)))
   ba)
  (ah (aJ (i:=1) nd rfl (.inl rfl) (DF Z5 PySem.F.slot_list_pop PySem.F.type_list_pop JY.r (bp (pv 0) rfl)))
  (ah (eO (pv 0) (ar ai (pv 1) ae (λ_ _=>rfl)) rfl)
  (ao (eO (pv 0) (ar ai (pv 1) ae (λ_ _=>rfl)) rfl))))),?_⟩
  refine(?_:let bY:TS:=_;let bZ:TS:=_;let b5:TS:=_;let cY:TS:=_;tSeq bY (tSeq bZ (tSeq b5 cY)) _ _ _);intro bY bZ b5 cY;have sl:=sizeLine_eq;symm;obtain⟨dp,c,sv,pv,xs,hp,co,kY,rp,pS,al⟩:=pl.ex;nofun;clear G_;have xl:=al.length;change tSeq _ _ _ _ _;refine aU (λN=>∀Ff e,tr=Ff++ [e]->N [some (.ref p),none] H) ?_ (λN hN=>?_)
  case refine_2=>
   dsimp?[df,tRaise];refine⟨_,_,_,hp,T.bc,T.na_Play_trail,_,yJ,tl,rfl,_,pS,iS (λe=>⟨∅,kE (List.length_eq_zero_iff.mp (by lia))⟩) (λe=>?_)⟩;have ne:tr≠[]:=λz=>e (by rw[z,aap] at xl;lia);exact hN tr.dropLast (tr.getLast ne) (List.dropLast_concat_getLast ne).symm
  intro Ff WG dA;symm;obtain⟨w,RB,RC⟩:=WG;obtain rfl:=dA;have Lk:p≠tl:=λz=>by rw[z,pS] at hp;cases hp
  obtain⟨kvs,sJ,_⟩:=id pl.Lb;nofun;clear G_;have Lj:p≠tb:=λz=>by rw[z,sJ] at hp;cases hp
  have N6:tl≠tb:=λz=>by rw[z,sJ] at pS;cases pS
  rw[ZJ,aao] at xl;obtain⟨x,ex,t,RD,TN,rfl,ht,RE,WH⟩:=al.at (i:=Ff.length) (a:=(w,RB,RC)) (by rw[aav (ZD _),Nat.sub_self];rfl);have WI:Al (Dg (bQ L H)) Ff xs.dropLast:=Al.of (by rw[List.length_dropLast];lia) λi v a ev ea=>by
   have hi:i<Ff.length:=(aaI.mp ea).1;rw[List.getElem?_dropLast,if_pos (by lia)] at ev;symm;obtain⟨a',TQ,r⟩:=al.get ev;nofun;rw[aaA hi,ea] at TQ;cases TQ;exact r
  have Fn:=a6 _ _ ht;have TU:t≠tl:=λz=>by rw[z,pS] at Fn;cases Fn
  have tp:t≠p:=λz=>by rw[z,hp] at Fn;cases Fn
  change tSeq _ _ _ _ _;refine aU (λN=>N [some (.ref p),some (.ref t)] (upd H tl (.lst xs.dropLast))) ?_ (λN hN=>?_)
  case refine_2=>
   dsimp?[MV,JV,df];refine⟨_,_,_,hp,T.bc,T.na_Play_trail,_,yJ,.inl ⟨rfl,_,bL.of pS⟩,tl,rfl,xs,pS,.ref t,?_,hN⟩;rw[show xs.length - 1=Ff.length by lia];exact ex
  dsimp?[df,om];refine⟨_,by rw[aw TU];exact Fn,_,at1,_,_,_,by rw[aw Lk];exact hp,T.bc,T.na_Play_state,wN,?_⟩;rw[Jj];refine⟨_,by rw[aw tp,aw TU];exact Fn,_,at2,_,_,_,aj,T.bc,T.na_Play_paid,wN,?_⟩;rw[Jk];generalize zi:upd (upd (upd H tl (.lst xs.dropLast)) p (.ins av dp (iT (.ref c) RD pv (.ref tl)))) p (.ins av dp (iT (.ref c) RD TN (.ref tl)))=H2;have k2:K3 p tl tb H H2:=λa o h1 h2 h3 h=>by rw[<-zi,aw h1,aw h1,aw h2];exact h
  have p2:H2 p=some (.ins av dp (iT (.ref c) RD TN (.ref tl))):=by rw[<-zi,aj]
  have t2:H2 tl=some (.lst xs.dropLast):=by rw[<-zi,aw (Ne.symm Lk),aw (Ne.symm Lk),aj]
  have b2:H2 tb=some (.dK kvs):=by rw[<-zi,aw (Ne.symm Lj),aw (Ne.symm Lj),aw (Ne.symm N6)];exact sJ
  clear zi;have s4:=k2.cX pl.mem.1 pl.mem.2.1 pl.mem.2.2;exact kQ Ff (w,RB,RC) rfl _ k2 (pl.next k2 p2 co (RE.mono s4) (WH.mono s4) t2 (Dg.up s4 WI) (pl.Lb.mono s4 λo h=>by rw[sJ] at h;rw[b2];exact h) (pl.HU (w,RB,RC) (Z0 _ ZL)) λe he=>pl.HU e (aat _ he))
theorem k7:aZ ["self"] ["self"] (aq (inClass (top 43) 8)):=⟨rfl,rfl,rfl,∅,rfl,∅,∅⟩
theorem Ln (T:Txt K mg aB aH aI aV aE aL aW aM aA aN aX af av):bD P w K mg base (br P w) 1 av "shown" ["self"] (Fg av af):=by
 refine T.uq.dJ (λ_ _ _ _ _ _=>gZ λ_=>rfl) λf fd F=>F.eC k7 (λvs H Q E h=>?_) (λcf A outer s H vs Q E hr h=>?_)
 ·obtain⟨_,_,_,_,_,_,_,_,rfl,_⟩:=h;rfl
 ·symm;obtain⟨p,tl,tb,L,g,st,pd,tr,rfl,pl,wO,lw,kk⟩:=h;nofun;have nd:=k7.nd;refine⟨_,(ao (aY (fi PySem.F.plainAttrs_str PySem.F.slot_str_join PySem.F.type_str_join (x8 (K:=K)) a7 (aa (cO rfl (N:=["self"]) (so:=aq (inClass (top 43) 8)) (N':=["step"]) (k:=1) (fr:=[]) rfl rfl ⟨rfl,∅,∅,∅,rfl,∅,∅⟩ (bA (K:=K) (bp (pv 0) rfl)) (λ_ _ _ _ _=>(a9 (i:=0) (show(["step"]:List Str).Nodup by decide +kernel) rfl (.inl rfl))) (λ_ _ _ _ _=>dH)
   (λ_ _ _ _ _=>(ar ai (pv 0) ae (λ_ _=>rfl)))) ag (se rfl))))),?_⟩
  have sl:=sizeLine_eq;symm;obtain⟨dp,c,sv,pv,xs,hp,co,kY,rp,pS,al⟩:=pl.ex;nofun;have xl:=al.length;dsimp?[df];refine⟨rfl,_,_,_,hp,T.bc,T.na_Play_trail,_,yJ,tl,rfl,⟨_,bL.of pS⟩,?_⟩;have S:Src (xC K tl) (aF H) xs.length _:=src_list (λH' s'=>bL.of (s' _ _ pS));rw[xl] at S;refine eB tr (λe=>some (.str e.1)) S (λ_ _ _ _ h=>h.1) (by lia) ?_ ?_
  ·rintro i e x ee ⟨_,ex⟩ Y N y1 y2;symm;obtain⟨e',TV,t,Dh,Fj,rfl,ht,_⟩:=al.get ex;nofun;rw[ee] at TV;cases TV;have ht:=a6 _ _ ht;unfold t7;refine DL ?_;dsimp?[ht];exact y1 _ rfl
  ·intro D n1 n2;rw[show tr.filterMap (λe=>some (V.str e.1))=(tr.map (·.1)).map V.str by rw[Z1,List.filterMap_eq_map'];rfl];refine⟨tr.map (λe:og=>e.1),bL.of aj,?_,kk _ (aD n2)⟩;refine joinOk_of (B:=20) (λy hy=>?_) (by rw[ZA,show(Zz " ").length=1 by decide +kernel];lia);symm;obtain⟨e,he,rfl⟩:=aaJ.mp hy;nofun;exact lw e he
noncomputable def iy (G H:Hp):Hp:=λa=>match G a with
 | some (.lst _)=>none
 | _=>H a
noncomputable def dO (G H:Hp):Prop:=∀a ys,G a=some (.lst ys)->∃zs,H a=some (.lst zs)
theorem dO.of {G H:Hp} (s:aF G H):dO G H:=λa ys e=>⟨ys,s _ _ e⟩
theorem dO.trans {G H K:Hp} (s:dO G H) (t:aF H K):dO G K:=λa ys e=>by
 obtain⟨zs,h⟩:=s a ys e;exact⟨zs,t _ _ h⟩
set_option tactic.hygienic true in
theorem iz {G H:Hp} {a:Addr} (h:∀ys,G a≠some (.lst ys)):iy G H a=H a:=by
 unfold iy
 split
 ·rename_i e;exact absurd e (h _)
 ·rfl
theorem wQ {G H:Hp} {a:Addr} {ys:List V} (h:G a=some (.lst ys)):iy G H a=none:=by
 unfold iy;rw[h]
theorem sR {G H:Hp} {a:Addr} {o:HO} (h:iy G H a=some o):(∀ys,G a≠some (.lst ys))/\H a=some o:=by
 by_cases c:∃ys,G a=some (.lst ys)
 ·obtain⟨ys,e⟩:=c;rw[wQ e] at h;cases h
 ·have c:∀ys,G a≠some (.lst ys):=λys e=>c ⟨ys,e⟩;rw[iz c] at h;exact⟨c,h⟩
theorem vq {G H H':Hp} (s:aF H H'):aF (iy G H) (iy G H'):=λa o e=>by
 obtain⟨c,h⟩:=sR e;rw[iz c];exact s _ _ h
theorem Fo {G H:Hp}:aF (iy G H) H:=λa o e=>(sR e).2
theorem yP {G G' H:Hp} (s:dO G G'):aF (iy G' H) (iy G H):=λa o e=>by
 obtain⟨c,h⟩:=sR e;rw[iz (λys k=>by obtain⟨zs,z⟩:=s a ys k;exact c zs z)];exact h
theorem je {G H:Hp} {l:Addr} {ys:List V} {o:HO} (e:G l=some (.lst ys)):iy G (upd H l o)=iy G H:=by
 funext a
 by_cases c:∃ys,G a=some (.lst ys)
 ·obtain⟨zs,z⟩:=c;rw[wQ z,wQ z]
 ·have c:∀ys,G a≠some (.lst ys):=λys e=>c ⟨ys,e⟩;rw[iz c,iz c,aw (λz=>by rw[z] at c;exact c ys e)]
noncomputable def dF (G H:Hp) (d:Dat) (v:V):Prop:=Rep (iy G H) d v
noncomputable def cZ (G H:Hp) (ds:List Dat) (vs:List V):Prop:=bo (iy G H) ds vs
theorem dF.mono {G H H':Hp} {d:Dat} {v:V} (s:aF H H') (h:dF G H d v):dF G H' d v:=Rep.mono (vq s) h
theorem cZ.mono {G H H':Hp} {ds:List Dat} {vs:List V} (s:aF H H') (h:cZ G H ds vs):cZ G H' ds vs:=bo.mono (vq s) h
theorem dF.low {G G' H:Hp} {d:Dat} {v:V} (s:dO G G') (h:dF G' H d v):dF G H d v:=Rep.mono (yP s) h
theorem cZ.low {G G' H:Hp} {ds:List Dat} {vs:List V} (s:dO G G') (h:cZ G' H ds vs):cZ G H ds vs:=bo.mono (yP s) h
theorem cZ.rep {G H:Hp} {ds:List Dat} {vs:List V} (h:cZ G H ds vs):bo H ds vs:=bo.mono Fo h
theorem cc {G H:Hp} {x:Str}:dF G H (.str x) (.str x):=aR.mpr rfl
theorem dR {G H:Hp} {k:Int}:dF G H (.int k) (.int k):=bF.mpr rfl
theorem Lo {G H:Hp}:dF G H .cW .cW:=by unfold dF;rw[Rep]
theorem gk {G H:Hp}:cZ G H [] []:=bI.mpr rfl
theorem cy {G H:Hp} {d:Dat} {ds:List Dat} {v:V} {vs:List V} (h:dF G H d v) (k:cZ G H ds vs):cZ G H (d::ds) (v::vs):=aT.mpr ⟨_,_,rfl,h,k⟩
theorem wR {G H:Hp} {p:Addr} {ds:List Dat} {vs:List V} (n:G p=none) (h:H p=some (.lst vs)) (r:cZ G H ds vs):dF G H (.lst ds) (.ref p):=bh.mpr ⟨p,vs,rfl,by rw[iz (λys e=>by rw[n] at e;cases e)];exact h,r⟩
theorem sS {G H:Hp} (s:dO G H) {p:Addr} {ds:List Dat} {vs:List V} (h:H p=some (.tup vs)) (r:cZ G H ds vs):dF G H (.tup ds) (.ref p):=jL.mpr ⟨p,vs,rfl,by rw[iz (λys e=>by obtain⟨zs,z⟩:=s _ _ e;rw[h] at z;cases z)];exact h,r⟩
theorem yQ {G H:Hp} (s:dO G H) {p:Addr} {a b:Dat} {x y:V} (h:H p=some (.tup [x,y])) (ha:dF G H a x) (hb:dF G H b y):dF G H (.tup [a,b]) (.ref p):=sS s h (cy ha (cy hb gk))
theorem AJ {G H:Hp} (s:dO G H) {p:Addr} {a b c:Dat} {x y z:V} (h:H p=some (.tup [x,y,z])) (ha:dF G H a x) (hb:dF G H b y) (hc:dF G H c z):dF G H (.tup [a,b,c]) (.ref p):=sS s h (cy ha (cy hb (cy hc gk)))
theorem Lp {G H:Hp} (s:dO G H) {p:Addr} {a b c d:Dat} {x y z u:V} (h:H p=some (.tup [x,y,z,u])) (ha:dF G H a x) (hb:dF G H b y) (hc:dF G H c z) (hd:dF G H d u):dF G H (.tup [a,b,c,d]) (.ref p):=sS s h (cy ha (cy hb (cy hc (cy hd gk))))
theorem qM {G H:Hp} {d:Dat} {v:V} (h:dF G H d v) {ds:List Dat} {vs:List V} (k:cZ G H ds vs):cZ G H (ds++ [d]) (vs++ [v]):=bo.append k (aT.mpr ⟨_,_,rfl,h,bI.mpr rfl⟩)
noncomputable def Fp (w:Str):Prop:=0<w.length/\w.length<=8/\gA (.str w)=true/\∀c∈w.cps.toList,97<=c/\c<=122
noncomputable def Di:Dd->Prop
 | .set _ k=>0<=k
 | .plus _ k=>0<=k
 | _=>True
noncomputable def HY (cs:List (Str×Int)):Option (Str×Str×Int)->Prop
 | none=>True
 | some (n,x,_)=>n∈cs.map (·.1)/\(x=Zz "from"\/x=Zz "below")
noncomputable def jV (cs:List (Str×Int)) (gs:List Str):Wt->Prop
 | .ask _ _ _ _=>False
 | .fin t b=>b=1/\-9<=t/\t<=9
 | .score c=>c∈cs.map (·.1)
 | .pick _ rs=>(rs.length<=4/\(∃z,∀r∈rs,r.word.length=z)/\∃r∈rs,r.wh=none)/\(rs.map (·.word)).Nodup/\∀r∈rs,Fp r.word/\HY cs r.wh/\r.to∈gs/\∀d∈r.ds,Di d
 | .dN c5 t b rs=>∃ps,c5=ps.map qc/\pM ps/\ng 20 (t,b)/\(∀v∈dt ps,0<=v/\v<=1000/\∃r,yz rs v=some r)/\∀r∈rs,r.2.2.2∈gs/\∀d∈r.2.2.1,Di d
structure N8 (g:Gm) (gs:List Str):Prop where
 good:GoodG g
 most:∀c∈g.cs,0<=c.2/\c.2<=1000
 hs:∀p∈g.ps,Fp p.1
 hd:∃f∈gs,(g.ps.map (·.1)).head?=some f
 to:∀nm∈gs,∀ns,∃fk x,dW g ns 3 nm=some fk/\look g.ps fk=some x/\jV g.cs gs x
structure CZ (g:Gm) (gs:List Str) (st:gM):Prop where
 len:st.2.length=g.cs.length
 nn:∀n∈st.2,0<=n/\n<=1000
 at_:∃x,look g.ps st.1=some x/\jV g.cs gs x
noncomputable def Fq (g:Gm) (st:gM) (d:Dat) (w:Str) (py:Int×Int) (gJ:gM):Prop:=
 (∃kI rs r,look g.ps st.1=some (.pick kI rs)/\(rs.map (·.word)).Nodup/\(cj g.cs st.2 (.pick kI rs)).find? (λr=>decide (r.word=w))=some r/\d=.str w/\py=(0,1)/\gJ.2=r.ds.foldl (iU g.cs 0) st.2/\dW g gJ.2 3 r.to=some gJ.1)\/
 (∃ps t b rs r v,look g.ps st.1=some (.dN (ps.map qc) t b rs)/\pM ps/\v∈dt ps/\0<=v/\v<=1000/\d=.int v/\w=Zz (toString v)/\py=(t,b)/\yz rs v=some r/\gJ.2=r.2.2.1.foldl (iU g.cs v) st.2/\dW g gJ.2 3 r.2.2.2=some gJ.1)
noncomputable def Lq (K:aaB):Sp:=λvs H Q _=>∃a ns k,vs=[.ref a,.int k]/\bL K H a (List.map V.int ns)/\0<=k/\k<1000/\∀n,Q (.int n) H
noncomputable def bS (c m:Int):Int:=c % 2^64*11400714819323198485 % 2^64 / 2^11 % m
theorem cB {c m:Int} (h:0<m):0<=bS c m:=aak _ (by lia)
theorem cR {c m:Int} (h:0<m):bS c m<m:=aay _ h
noncomputable def bP:Sp:=λvs H Q _=>∃c m,vs=[.int c,.int m]/\0<m/\Q (.int (bS c m)) H
noncomputable def Fs:Sp:=λvs H Q _=>∃a b,vs=[.int a,.int b]/\0<b/\Bt 8900 b/\∀p H',aF H H'->H p=none->H' p=some (.tup (Pr (Nm.st a b) (Nm.sb a b)))->Q (.ref p) H'
noncomputable def jf (sg:Nat->Int) (size:Nat):Str:=⟨((List.range size).map λj:Nat=>97+ (sg j).toNat).toArray⟩
theorem Ft (sg:Nat->Int) (j:Nat):jf sg (j+1)=jf sg j++ (⟨#[97+ (sg j).toNat]⟩:Str):=by
 unfold jf;rw[List.range_succ,ZG];show(⟨(_++ [_]).toArray⟩:Str)=⟨_++#[_]⟩;congr 1;simp
theorem qN (sg:Nat->Int) (j:Nat):(jf sg j).length=j:=by
 unfold jf Str.length;simp
theorem Lr {x:Int} (h:0<=x) (h':x<26):iX (Zz "abcdefghijklmnopqrstuvwxyz").cps.toList x=some (97+x.toNat):=by
 have hh:∀i∈List.range 26,(Zz "abcdefghijklmnopqrstuvwxyz").cps.toList[i]?=some (97+i):=∅
 have e:x=((x.toNat:Nat):Int):=by lia
 have:=hh x.toNat (List.mem_range.mpr (by lia));rw[e,ZX];exact bT this
theorem Ls {sg:Nat->Int} {size:Nat} (h1:1<=size) (h8:size<=8) (h:∀j,0<=sg j/\sg j<26):Fp (jf sg size):=by
 have m:∀c∈(jf sg size).cps.toList,97<=c/\c<=122:=λc hc=>by
  obtain⟨j,_,rfl⟩:=aaJ.mp (show c∈(List.range size).map λj:Nat=>97+ (sg j).toNat from hc);have:=h j;lia
 refine⟨by rw[qN];lia,by rw[qN];lia,?_,m⟩;rw[gA,PyData.canLay0];unfold PyData.strOk;rw[<-Array.all_toList];simp only[List.all_eq_true,decide_eq_true_eq];intro x hx;have:=m x hx;lia
theorem Lu {sg Pk:Nat->Int} {size j:Nat} (hj:j<size) (h:0<=sg j) (h':0<=Pk j) (ne:sg j≠Pk j):jf sg size≠jf Pk size:=λe=>by
 have e:=congrArg (λs:Str=>s.cps.toList[j]?) e;unfold jf at e;simp only[ZE] at e;rw[List.getElem?_range hj] at e;have e:97+ (sg j).toNat=97+ (Pk j).toNat:=ZU e;lia
noncomputable def C3 (c sp sm:Int) (k j:Nat):Int:=if (j:Int)=sp then (bS (c+4) 26+5* (k:Int)) % 26 else bS (c+31* (j:Int)+977* (k:Int)* (1 - sm)+3) 26
theorem HZ (c sp sm:Int) (k j:Nat):0<=C3 c sp sm k j/\C3 c sp sm k j<26:=by
 unfold C3
 split
 ·lia
 ·exact⟨cB ∅,cR ∅⟩
theorem Fu {c sp sm:Int} {n size:Nat} (h0:0<=sp) (h1:sp< (size:Int)) (hn:n<=12):((List.range n).map λk:Nat=>jf (C3 c sp sm k) size).Nodup:=by
 unfold List.Nodup;rw[List.pairwise_map];refine List.Pairwise.imp_of_mem ?_ (List.nodup_range (n:=n));intro i j hi hj ne;have hi:=List.mem_range.mp hi;have hj:=List.mem_range.mp hj;refine Lu (j:=sp.toNat) (by lia) (HZ ..).1 (HZ ..).1 ?_;unfold C3;rw[if_pos (by lia),if_pos (by lia)];have b0:=cB (c:=c+4) (m:=26) ∅;have b1:=cR (c:=c+4) (m:=26) ∅;lia
noncomputable def yR:Sp:=λvs H Q _=>∃(c n:Int),vs=[.int c,.int n]/\0<=n/\n<=12/\∀(l:Addr) (H':Hp) (ws:List Str),aF H H'->H l=none->H' l=some (.lst (ws.map V.str))->ws.length=n.toNat->ws.Nodup->(∀w∈ws,Fp w)->(∃z,∀w∈ws,w.length=z)->Q (.ref l) H'
theorem vt:∀{l:List Str} {x:Str} {j:Nat},j<l.idxOf x->l[j]?≠some x
 | [],_,_,h=>by simp at h
 | y::l,x,j,h=>by
  rw[List.idxOf_cons] at h
  by_cases c:y=x
  ·rw[c,beq_self_eq_true] at h;exact absurd h (Nat.not_lt_zero _)
  ·rw[beq_false_of_ne c] at h;cases j with
   | zero=>simpa using c
   | succ j=>rw[List.getElem?_cons_succ];exact vt (l:=l) (Nat.lt_of_succ_lt_succ h)
theorem Fv (l:List Str):(l.map Dat.str).map toP=l.map PyData.str:=by
 rw[Z1];exact List.map_congr_left λa _=>by show toP (.str a)=_;rw[toP]
theorem Lv {l:List Str} {x:Str} (h:x∈l):((l.map Dat.str).map toP)[l.idxOf x]?=some (toP (.str x))/\∀j,j<l.idxOf x->((l.map Dat.str).map toP)[j]?≠some (toP (.str x)):=by
 have hl:=List.idxOf_lt_length_of_mem h;rw[Fv,show toP (.str x)=PyData.str x by rw[toP]];refine⟨by rw[ZE,ZH hl,List.getElem_idxOf];rfl,λj hj e=>?_⟩;rw[ZE] at e;obtain⟨y,ey,e⟩:=aaH.mp e
 injection e with e
 exact vt hj (e▸ey)
noncomputable def Kx (n:Nat) (d:Dat):Prop:=vV (toP d)=true/\(toP d).depth<=n
theorem Lx {n:Nat} {x:Str} (h:gA (.str x)=true):Kx n (.str x):=by
 rw[gA] at h;unfold Kx;rw[toP,vV,PyData.depth];exact⟨h,ZM _⟩
noncomputable def yS:Sp:=λvs H Q _=>∃(c:Int) (cl:Addr) (fC:Str) (th:Bool) (cs:List (Str×Int)),vs=[.int c,.ref cl,.str fC,.bl th]/\Rep H (O8 cs) (.ref cl)/\cs.length<=3/\fC∈cs.map (·.1)/\(cs.map (·.1)).Nodup/\(∀x∈cs,Fp x.1)/\∀(l:Addr) (H':Hp) (ds:List Dd),aF H H'->H l=none->dF H H' (.lst (ds.map BF)) (.ref l)->ds.length<=3->(∀d∈ds,fZ cs d/\Di d)->Q (.ref l) H'
noncomputable def vv:Sp:=λvs H Q _=>∃(c:Int) (cl:Addr) (fC:Str) (gl:Addr) (cs:List (Str×Int)) (gs:List Str),vs=[.int c,.ref cl,.str fC,.ref gl]/\Rep H (O8 cs) (.ref cl)/\cs.length<=3/\fC∈cs.map (·.1)/\(cs.map (·.1)).Nodup/\(∀x∈cs,Fp x.1)/\H gl=some (.lst (List.map V.str gs))/\0<gs.length/\gs.length<=3/\∀u H' x,aF H H'->dF H H' (jU x) u->mX cs x->jV cs gs x->Q u H'
noncomputable def Fw (K:aaB):Sp:=λvs H Q _=>∃s ns at_ tu mo,vs=[.ref s,.int at_,.int tu,.int mo]/\bL K H s (List.map V.int ns)/\0<=at_/\at_<=100/\1<=tu/\tu<=100/\1<=mo/\mo<=100/\∀u H' g gs,aF H H'->Rep H' (Av g) u->N8 g gs->Q u H'
noncomputable def Fx:Sp:=λvs H Q _=>∃v ps,vs=[v]/\Rep H (.lst (ps.map qc)) v/\pM ps/\∀l H',aF H H'->H l=none->H' l=some (.lst ((dt ps).map V.int))->Q (.ref l) H'
noncomputable def gn:Sp:=λvs H Q _=>∃gv nm g x,vs=[gv,.str nm]/\Rep H (Av g) gv/\GoodG g/\look g.ps nm=some x/\∀u H',aF H H'->Rep H (jU x) u->Q u H'
theorem vx {H:Hp} {nm:Str}:∀{ps:List (Str×Wt)} {E1:List V},bo H (ps.map λp=>Dat.tup [.str p.1,jU p.2]) E1->∃us:List V,us.length=ps.length/\(∀(i:Nat) p u,ps[i]?=some p->us[i]?=some u->∃q,E1[i]?=some (.ref q)/\H q=some (.tup [.str p.1,u]))/\∀x,look ps nm=some x->∃u r,((us.zip ps).filterMap λy=>if y.2.1=nm then some y.1 else none)=u::r/\Rep H (jU x) u
 | [],_,h=>⟨[],rfl,(λi p u e=>by simp at e),λx e=>by cases e⟩
 | p::ps,E1,h=>by
  obtain⟨v,r,rfl,h1,h2⟩:=aT.mp (show bo H (Dat.tup [.str p.1,jU p.2]::ps.map λp=>Dat.tup [.str p.1,jU p.2]) E1 from h);obtain⟨q,a,b,rfl,hq,r1,r2⟩:=bN.mp h1;rw[aR.mp r1] at hq;obtain⟨us,e1,e2,e3⟩:=vx h2;refine⟨b::us,by rw[ZP,ZP,e1],λi p' u ep eu=>?_,λx ex=>?_⟩
  ·cases i with
   | zero=>cases ep;cases eu;exact⟨q,rfl,hq⟩
   | succ i=>exact e2 i p' u ep eu
  ·rw[List.zip_cons_cons,aad]
   by_cases c:p.1=nm
   ·rw[if_pos c];have:look (p::ps) nm=some p.2:=by unfold look;rw[List.find?_cons_of_pos (by simpa using c)];rfl
    rw[this] at ex;cases ex;exact⟨b,_,rfl,r2⟩
   ·rw[if_neg c];exact e3 x (by unfold look at *;rwa [List.find?_cons_of_neg (by simpa using c)] at ex)
theorem yT {nm:Str}:∀{cs:List (Str×Int)} {ns:List Int},ns.length=cs.length->nm∈cs.map (·.1)->∃r,((cs.zip ns).filterMap λy=>if y.1.1=nm then some y.2 else none)=ns.getD (bK cs nm) 0::r
 | [],_,_,h=>by simp at h
 | c::cs,[],l,_=>by simp at l
 | c::cs,k::ns,l,h=>by
  rw[List.zip_cons_cons,aad]
  by_cases e:c.1=nm
  ·have s0:bK (c::cs) nm=0:=by unfold bK;rw[ZC,e,List.idxOf_cons_self]
   rw[if_pos e,s0];exact⟨_,rfl⟩
  ·have s1:bK (c::cs) nm=bK cs nm+1:=by unfold bK;rw[ZC,List.idxOf_cons,beq_false_of_ne e];rfl
   rw[if_neg e,s1];exact yT (cs:=cs) (ns:=ns) (by simpa using l) (by simpa [Ne.symm e] using h)
noncomputable def qg:List Pt->Int
 | []=>0
 | .num m::r=>(m:Int)+qg r
 | .cP k _::r=>(k:Int)+qg r
noncomputable def oh:List Pt->Int
 | []=>0
 | .num m::r=>(m:Int)+oh r
 | .cP k s::r=>(k:Int)* (s:Int)+oh r
theorem wU (p:Pt):∀ps,qg (ps++ [p])=qg ps+ (match p with | .num m=>(m:Int) | .cP k _=>(k:Int))
 | []=>by cases p <;>exact Int.add_comm _ _
 | .num m::ps=>by rw[aae,qg,qg,wU p ps,Int.add_assoc]
 | .cP k s::ps=>by rw[aae,qg,qg,wU p ps,Int.add_assoc]
theorem wV (p:Pt):∀ps,oh (ps++ [p])=oh ps+ (match p with | .num m=>(m:Int) | .cP k s=>(k:Int)* (s:Int))
 | []=>by cases p <;>exact Int.add_comm _ _
 | .num m::ps=>by rw[aae,oh,oh,wV p ps,Int.add_assoc]
 | .cP k s::ps=>by rw[aae,oh,oh,wV p ps,Int.add_assoc]
noncomputable def sT:Sp:=λvs H Q _=>∃gv l nm g ns,vs=[gv,.ref l,.str nm]/\Rep H (Av g) gv/\GoodG g/\H l=some (.lst (List.map V.int ns))/\ns.length=g.cs.length/\nm∈g.cs.map (·.1)/\∀H',aF H H'->Q (.int (ns.getD (bK g.cs nm) 0)) H'
noncomputable def vy:Sp:=λvs H Q _=>∃gv l nm g ns f fk,vs=[gv,.str nm,.ref l]/\Rep H (Av g) gv/\GoodG g/\H l=some (.lst (List.map V.int ns))/\ns.length=g.cs.length/\dW g ns f nm=some fk/\∀a l' H',aF H H'->H a=none->H l'=none->H' a=some (.tup [.str fk,.ref l'])->H' l'=some (.lst (List.map V.int ns))->Q (.ref a) H'
noncomputable def zK:List (Str×Int)->List Int->List (Key×V)
 | c::cs,n::ns=>(Sum.inr c.1,V.int n)::zK cs ns
 | _,_=>[]
theorem wW {n:Str}:∀{cs:List (Str×Int)} {ns:List Int},ns.length=cs.length->n∈cs.map (·.1)->dP (zK cs ns) (Sum.inr n)=some (.int (ns.getD (bK cs n) 0))
 | [],_,_,h=>by simp at h
 | c::cs,[],l,_=>by simp at l
 | c::cs,k::ns,l,h=>by
  rw[zK]
  by_cases e:c.1=n
  ·rw[gT (by rw[e])];have:bK (c::cs) n=0:=by unfold bK;rw[ZC,e,List.idxOf_cons_self]
   rw[this];rfl
  ·rw[eD (λz=>e (by injection z)),wW (cs:=cs) (ns:=ns) (by simpa using l) (by simpa [Ne.symm e] using h)];have:bK (c::cs) n=bK cs n+1:=by unfold bK;rw[ZC,List.idxOf_cons,beq_false_of_ne e];rfl
   rw[this];rfl
theorem qO:∀{cs:List (Str×Int)} {ns:List Int},ns.length=cs.length->(zK cs ns).map (·.1)=cs.map λc=>(Sum.inr c.1:Key)
 | [],[],_=>rfl
 | [],_::_,l=>by simp at l
 | c::cs,[],l=>by simp at l
 | c::cs,k::ns,l=>by rw[zK,ZC,ZC,qO (by simpa using l)]
theorem wX (c:Str×Int) (k:Int):∀{cs:List (Str×Int)} {ns:List Int},ns.length=cs.length->zK (cs++ [c]) (ns++ [k])=zK cs ns++ [(Sum.inr c.1,V.int k)]
 | [],[],_=>rfl
 | [],_::_,l=>by simp at l
 | d::cs,[],l=>by simp at l
 | d::cs,n::ns,l=>by rw[aae,aae,zK,wX c k (by simpa using l),zK];rfl
theorem wY {n:Str}:∀{cs:List (Str×Int)} {ns:List Int},n∉cs.map (·.1)->dP (zK cs ns) (Sum.inr n)=none
 | [],_,_=>rfl
 | c::cs,[],_=>rfl
 | c::cs,k::ns,h=>by rw[zK,eD (λz=>h (by injection z with z;simp [z])),wY (λz=>h (by rw[ZC];exact ZI _ z))]
theorem AK {n:Str} {k:Int}:∀{cs:List (Str×Int)} {ns:List Int},(cs.map (·.1)).Nodup->ns.length=cs.length->n∈cs.map (·.1)->putK (zK cs ns) (Sum.inr n) (.int k)=zK cs (ns.set (bK cs n) k):=by
 intro cs ns nd l h;have an:∀{cs:List (Str×Int)} {ns:List Int},ns.length=cs.length->n∈cs.map (·.1)->((zK cs ns).any λkv=>decide (kv.1=(Sum.inr n:Key)))=true:=λ{cs ns} l h=>by
  rw[List.any_eq_true];have:(Sum.inr n:Key)∈(zK cs ns).map (·.1):=by
   rw[qO l];obtain⟨c,hc,rfl⟩:=aaJ.mp h;exact aaJ.mpr ⟨c,hc,rfl⟩
  obtain⟨x,hx,e⟩:=aaJ.mp this;exact⟨x,hx,by simp [e]⟩
 unfold putK;rw[if_pos (an l h)];have mp:∀{cs:List (Str×Int)} {ns:List Int},(cs.map (·.1)).Nodup->ns.length=cs.length->(zK cs ns).map (λkv=>if kv.1=(Sum.inr n:Key) then (kv.1,V.int k) else kv)=zK cs (ns.set (bK cs n) k):=by
  intro cs
  induction cs with
  | nil=>intro ns _ _;cases ns <;>rfl
  | cons c cs ih=>
   intro ns nd l;cases ns with
   | nil=>simp at l
   | cons m ns=>
    rw[ZC,List.nodup_cons] at nd;rw[zK,ZC]
    by_cases e:c.1=n
    ·have s0:bK (c::cs) n=0:=by unfold bK;rw[ZC,e,List.idxOf_cons_self]
     rw[if_pos (by rw[e]),s0,Z3,zK];congr 1;refine(List.map_congr_left λx hx=>?_).trans (List.map_id _);rw[if_neg]
     ·rfl
     ·intro z;have:x.1∈(zK cs ns).map (·.1):=aaJ.mpr ⟨x,hx,rfl⟩;rw[qO (by simpa using l),z] at this;obtain⟨c',ON,e'⟩:=aaJ.mp this
      injection e' with e'
      exact nd.1 (by rw[e,<-e'];exact aaJ.mpr ⟨c',ON,rfl⟩)
    ·have s1:bK (c::cs) n=bK cs n+1:=by unfold bK;rw[ZC,List.idxOf_cons,beq_false_of_ne e];rfl
     rw[if_neg (λz=>e (by injection z)),s1,Z4,zK,ih nd.2 (by simpa using l)]
 exact mp nd l
theorem AL {cs:List (Str×Int)} {ns:List Int} (l:ns.length=cs.length):(zK cs ns).length=cs.length:=by
 have:=congrArg List.length (qO l)
 rwa [ZA,ZA] at this
theorem wZ {ns:List Int} {i:Nat} (h:i<ns.length):ns.getD i 0=ns[i]:=by rw[aai,ZH h];rfl
theorem Fy {cs:List (Str×Int)} {ns:List Int} (nd:(cs.map (·.1)).Nodup) (l:ns.length=cs.length):cs.map (λc=>ns.getD (bK cs c.1) 0)=ns:=by
 refine List.ext_getElem (by rw[ZA,l]) λi h1 h2=>?_;rw[ZA] at h1;rw[List.getElem_map];have e:bK cs (cs[i]).1=i:=by
  have h3:i< (cs.map (·.1)).length:=by rw[ZA];exact h1
  have h4:(cs.map (·.1)).idxOf (cs[i]).1< (cs.map (·.1)).length:=List.idxOf_lt_length_of_mem (aaJ.mpr ⟨_,ZY h1,rfl⟩);have h5:(cs.map (·.1))[(cs.map (·.1)).idxOf (cs[i]).1]=(cs.map (·.1))[i]:=by rw[List.getElem_idxOf,List.getElem_map]
  exact(List.getElem_inj nd).mp h5
 rw[e,wZ h2]
noncomputable def BV:Sp:=λvs H Q _=>∃(gv:V) (l:Addr) (dv:V) (v:Int) (g:Gm) (ns:List Int) (ds:List Dd),vs=[gv,.ref l,dv,.int v]/\Rep H (Av g) gv/\GoodG g/\H l=some (.lst (List.map V.int ns))/\ns.length=g.cs.length/\Rep H (.lst (List.map BF ds)) dv/\ds.length<=100/\(∀d∈ds,fZ g.cs d)/\∀l' H',aF H H'->H l'=none->H' l'=some (.lst ((ds.foldl (iU g.cs v) ns).map V.int))->Q (.ref l') H'
noncomputable def Fz:Sp:=λvs H Q _=>∃gv l wv g ns wh,vs=[gv,.ref l,wv]/\Rep H (Av g) gv/\GoodG g/\H l=some (.lst (List.map V.int ns))/\ns.length=g.cs.length/\Rep H (KW wh) wv/\HY g.cs wh/\∀H',aF H H'->Q (.bl (lL g.cs ns wh)) H'
noncomputable def sU:Sp:=λvs H Q _=>∃(gv sv:V) (g:Gm) (gs:List Str) (st:gM) (x:Wt),vs=[gv,sv]/\Rep H (Av g) gv/\GoodG g/\qd H sv st.1 st.2/\st.2.length=g.cs.length/\look g.ps st.1=some x/\jV g.cs gs x/\∀a H' ds,aF H H'->H a=none->Rep H' (.lst ds) (.ref a)->Gq g st x ds->Q (.ref a) H'
theorem BW {w:Str} {r:Rw}:∀{rs:List Rw},(rs.map (·.word)).Nodup->r∈rs->r.word=w->∃q,(rs.filter λx=>decide (x.word=w))=r::q
 | [],_,h,_=>by cases h
 | a::rs,nd,h,e=>by
  rw[ZC,List.nodup_cons] at nd;rcases aaj.mp h with z | z
  ·rw[<-z,List.filter_cons_of_pos (by simpa using e)];exact⟨_,rfl⟩
  ·have:a.word≠w:=λx=>nd.1 (by rw[x,<-e];exact aaJ.mpr ⟨r,z,rfl⟩);rw[List.filter_cons_of_neg (by simpa using this)];exact BW nd.2 z e
noncomputable def FA:Sp:=λvs H Q _=>∃(gv sv dv:V) (g:Gm) (st:gM) (d:Dat) (w:Str) (py:Int×Int) (gJ:gM),vs=[gv,sv,dv]/\Rep H (Av g) gv/\GoodG g/\qd H sv st.1 st.2/\st.2.length=g.cs.length/\Rep H d dv/\Fq g st d w py gJ/\∀a l H',aF H H'->H a=none->H l=none->H' a=some (.tup [.str gJ.1,.ref l])->H' l=some (.lst (List.map V.int gJ.2))->Q (.ref a) H'
noncomputable def Ly:Wt->Int×Int
 | .dN _ t b _=>(t,b)
 | _=>(0,1)
noncomputable def FC:Sp:=λvs H Q _=>∃(gv sv:V) (g:Gm) (st:gM) (x:Wt),vs=[gv,sv]/\Rep H (Av g) gv/\GoodG g/\qd H sv st.1 st.2/\look g.ps st.1=some x/\∀u H',aF H H'->Rep H' (dM (Ly x)) u->Q u H'
noncomputable def FD:Sp:=λvs H Q _=>∃(gv sv pv:V) (g:Gm) (st:gM) (pd:Int×Int) (x:Wt),vs=[gv,sv,pv]/\Rep H (Av g) gv/\GoodG g/\qd H sv st.1 st.2/\st.2.length=g.cs.length/\look g.ps st.1=some x/\Rep H (dM pd) pv/\ng 100000 pd/\(∀w,Aw g.cs st.2 x=some w->ng 100000 w)/\∀u H',aF H H'->Rep H' (dM (Fb g st pd x)) u->Q u H'
abbrev Ent:=gM×(Int×Int)×Str
noncomputable def Pm (w:Str):Prop:=0<w.length/\w.length<=20/\gA (.str w)=true
theorem nA:aZ ["_law_script","_law_k","_law_number_here"] ["_law_script","_law_k"] (aq (top 45)):=⟨rfl,rfl,rfl,∅,rfl,∅,∅⟩
theorem BX (T:Txt K mg aB aH aI aV aE aL aW aM aA aN aX af av):cg P w K mg base (br P w) 1 "_law_cell" ["_law_script","_law_k"] (Lq K):=by
 refine T.yd.dJ (λ_ _ _ _ _ _=>eG λ_ _=>rfl) λf fd F=>F.eC nA (λvs H Q E h=>?_) (λcf A outer s H vs Q E hr h=>?_)
 ·obtain⟨_,_,_,rfl,_⟩:=h;rfl
 ·symm;obtain⟨a,ns,k,rfl,hS,k0,k1,kk⟩:=h;nofun;have nd:=nA.nd;refine⟨_,(ah (bw (aP xG (pv 1) (a8 (lE (K:=K)) (by rfl) T.z_len ZT (aa (pv 0) ag (se rfl)) (he:=se rfl) (hpl:=na rfl)) (a5 _)) (ao (aY (ar (vd (K:=K)) (pv 0) (pv 1) (λ_ _=>rfl))))
   ba)
  (ah (aJ (i:=2) nd rfl (.inl rfl) (aG aQ (aG bq (pv 1) ae) ae))
  (ah (bw (aP kA (a8 (lE (K:=K)) (by rfl) T.z_len ZT (aa (pv 0) ag (se rfl)) (he:=se rfl) (hpl:=na rfl)) ae (a5 _)) (ao (aJ (i:=2) nd rfl (.inl rfl) (aG aQ (aG bq (aG cJ (ar (vd (K:=K)) (pv 0) (aG cJ (aG bq (pv 1) ae) (a8 (lE (K:=K)) (by rfl) T.z_len ZT (aa (pv 0) ag (se rfl)) (he:=se rfl) (hpl:=na rfl))) (λ_ _=>rfl)) ae) ae) (aG bq (aG bq (pv 1) (pv 1)) ae))))
   ba)
  (ao (aY (aG cJ (aG bq (pv 2) (pv 2)) ae)))))),?_⟩
  refine(?_:let bY:TS:=_;let bZ:TS:=_;let b5:TS:=_;let cY:TS:=_;tSeq bY (tSeq bZ (tSeq b5 cY)) _ _ _);intro bY bZ b5 cY;dsimp?[J8];have j2:k*k<=1000000:=Int.le_trans (Int.mul_le_mul (show k<=1000 by lia) (show k<=1000 by lia) k0 ∅) ∅;have j3:0<=k*k:=Int.mul_nonneg k0 k0;refine⟨ns,hS,iS (λc=>⟨ns,hS,k0,c,kk _⟩) (λc=>⟨bJ (by lia) (by lia),ns,hS,iS (λz=>?_) (λz=>?_)⟩)⟩
  ·have m1:=aak (ns.getD (k*5 % (ns.length:Int)).toNat 0) (show(2147483647:Int)≠0 by decide);have m2:=aay (ns.getD (k*5 % (ns.length:Int)).toNat 0) (show(0:Int)<2147483647 by decide);exact⟨bJ (by lia) (by lia),ns,hS,z,ns,hS,aak _ (by lia),aay _ z,∅,J7,bJ (by lia) (by lia),bJ (by lia) (by lia),bJ (by lia) (by lia),∅,kk _⟩
  ·exact⟨bJ (by lia) (by lia),∅,kk _⟩
theorem k9:aZ ["_law_cell_here","_law_many"] ["_law_cell_here","_law_many"] (aq (top 46)):=⟨rfl,rfl,rfl,∅,rfl,∅,∅⟩
theorem lQ (T:Txt K mg aB aH aI aV aE aL aW aM aA aN aX af av):cg P w K mg base (br P w) 1 "_law_mixed" ["_law_cell_here","_law_many"] bP:=by
 refine T.we.dJ (λ_ _ _ _ _ _=>eG λ_ _=>rfl) λf fd F=>F.eC k9 (λvs H Q E h=>?_) (λcf A outer s H vs Q E hr h=>?_)
 ·obtain⟨_,_,rfl,_⟩:=h;rfl
 ·symm;obtain⟨c,m,rfl,m0,kk⟩:=h;nofun;have nd:=k9.nd;refine⟨_,(ao (aY (aG cJ (aG mI (aG cJ (aG bq (aG cJ (pv 0) (aG q9 ae ae)) ae) (aG q9 ae ae)) (aG q9 ae ae)) (pv 1)))),?_⟩;dsimp?[];have h1:=aak c (show((2:Int)^64)≠0 by decide);have h2:=aay c (show(0:Int)<2^64 by decide);exact⟨∅,∅,∅,∅,bJ (by lia) (by lia),∅,∅,∅,∅,∅,∅,∅,mH.lit,m0,kk⟩
theorem pV:aZ ["_law_top","_law_bottom","_law_one","_law_other"] ["_law_top","_law_bottom"] (aq (top 47)):=⟨rfl,rfl,rfl,∅,rfl,∅,∅⟩
theorem Lz (T:Txt K mg aB aH aI aV aE aL aW aM aA aN aX af av):cg P w K mg base (br P w) 1 "_law_low" ["_law_top","_law_bottom"] Fs:=by
 refine T.Ar.dJ (λ_ _ _ _ _ _=>eG λ_ _=>rfl) λf fd F=>F.eC pV (λvs H Q E h=>?_) (λcf A outer s H vs Q E hr h=>?_)
 ·obtain⟨_,_,rfl,_⟩:=h;rfl
 ·symm;obtain⟨a,b,rfl,b0,bb,k⟩:=h;nofun;have nd:=pV.nd;refine⟨_,(ah (aJ (i:=2) nd rfl (.inl rfl) (a8 rj (by rfl) T.z_abs rfl (aa (pv 0) ag (se rfl)) (he:=se rfl) (hpl:=na rfl)))
  (ah (aJ (i:=3) nd rfl (.inl rfl) (pv 1))
  (ah (mB PassesOwn.never (aP kA (pv 3) ae (a5 _)) (ao (JL (i:=2) (j:=3) rfl nd rfl rfl ∅ rfl rfl (aa (pv 3) (aa (aG cJ (pv 2) (pv 3)) ag (se rfl)) (se rfl)) rfl)))
  (ao (aY (bf (aa (aG mI (pv 0) (pv 2)) (aa (aG mI (pv 1) (pv 2)) ag (se rfl)) (se rfl)))))))),?_⟩
  refine(?_:let bY:TS:=_;let bZ:TS:=_;let b5:TS:=_;let cY:TS:=_;tSeq bY (tSeq bZ (tSeq b5 cY)) _ _ _);intro bY bZ b5 cY;dsimp?[];refine xE (λσ H1=>H1=H/\∃x y:Int,σ=[some (.int a),some (.int b),some (.int x),some (.int y)]/\0<=x/\0<=y/\Nm.g x y=Nm.g a b) (λσ _=>match σ with | [_,_,_,some (.int y)]=>y.toNat | _=>0) ?_ ?_ ?_
  ·refine⟨rfl,_,_,rfl,?_,by lia,?_⟩
   ·split <;>lia
   ·rw[show(if a<0 then -a else a)=(a.natAbs:Int) by split <;>lia,Nm.DP]
  ·intro σ H1 dA;symm;obtain⟨rfl,x,y,rfl,x0,y0,e⟩:=dA;nofun;dsimp?[];refine iS (λc=>?_) (λc=>?_)
   ·refine⟨c,y0,aak _ (by lia),by rw[Nm.DQ x0 c,e],?_⟩;have:=aay x c;have:=aak x (show y≠0 by lia);lia
   ·have z:y=0:=by lia
    subst z;rw[Nm.DR x0] at e;rw[e];have g0:0<Nm.g a b:=Nm.DO (by lia);have gb:Bt 8900 (Nm.g a b):=bb.le (by have:=Nm.M9 (a:=a) b0;lia);obtain⟨e1,e2⟩:=Nm.Kc (a:=a) b0;rw[e1,e2] at k;exact⟨mH.of g0 gb,mH.of g0 gb,∅,λp H2 s1 n1 e=>k p H2 s1 n1 e⟩
  ·intro σ H1 Q1 Q2 hq hc;simp only[L2.start,Pr,tSortR,tSl,tNoPart,tPart,rSlL,tDNotIn,gSub,rSetL,tLst,tDNewK,tComp,L2.stC,tFor_eq,iList,iRng1,iRng2,iEnum,tChain,tSumV,tBM,rJoin,tRaise,tDGet,tDGet2,sDPut,Option.join_some,List.getElem?_nil,tSeq,tRet,tIfS,tTest,tB,tOp,tUn,tVar,tC,tCB,tCons,tNil,tCall,tTupS,tAsg,gName,gNil,gCons,tPar,tNext,tDrop,tAnd,tOr,tNot,tAndV,tNotV,tIf,rI,rI0,rU,rIxTH,rIxLH,rInT,rEq,rNe,scal_ss,scal_ii,scal_bb,scal_si,scal_is,CPow,at0,at1,at2,ZC,Z7,ZP,aap,Nat.reduceSub,Nat.reduceAdd,Nat.zero_add,List.replicate_zero,List.reduceReplicate,aab,List.nil_append,aae,List.getElem?_cons_zero,List.getElem?_cons_succ,Z3,Z4,Option.some.injEq,exists_eq_left',exists_eq_left,V.ref.injEq,V.int.injEq,V.bl.injEq,V.str.injEq,V.ty.injEq,HO.tup.injEq,HO.lst.injEq,List.cons.injEq,and_true,true_and,and_assoc,exists_and_left,decide_eq_true_eq,Bool.not_eq_true',decide_eq_false_iff_not,ite_true,ite_false,if_true,if_false,Int.reduceToNat,eq_self_iff_true] at hc ⊢;symm;obtain⟨v,e1,i,e2,q⟩:=hc;nofun;exact⟨v,e1,i,e2,hq _ _ q⟩
theorem nB:aZ ["_law_one","_law_other"] ["_law_one","_law_other"] (aq (top 48)):=⟨rfl,rfl,rfl,∅,rfl,∅,∅⟩
theorem FE (T:Txt K mg aB aH aI aV aE aL aW aM aA aN aX af av):cg P w K mg base (br P w) 2 "_law_plus" ["_law_one","_law_other"] jc:=by
 have AM:cg P w K mg base (br P w) 1 "_law_low" ["_law_top","_law_bottom"] Fs:=Lz T;refine T.ye.dJ (λ_ _ _ _ _ _=>eG λ_ _=>rfl) λf fd F=>F.eC nB (λvs H Q E h=>?_) (λcf A outer s H vs Q E hr h=>?_)
 ·obtain⟨_,_,_,_,rfl,_⟩:=h;rfl
 ·symm;obtain⟨u,v,a,b,rfl,ra,rb,ha,hb,k⟩:=h;nofun;have nd:=nB.nd;refine⟨_,(ao (aY (aO AM (hr.mono ∅) rfl au.pass (aa (aG aQ (aG bq (ar ai (pv 0) ae (λ_ _=>rfl)) (ar ai (pv 1) ae (λ_ _=>rfl))) (aG bq (ar ai (pv 1) ae (λ_ _=>rfl)) (ar ai (pv 0) ae (λ_ _=>rfl)))) (aa (aG bq (ar ai (pv 0) ae (λ_ _=>rfl)) (ar ai (pv 1) ae (λ_ _=>rfl))) ag (se rfl)) (se rfl)) (he:=se rfl) (hpl:=na rfl)))),?_⟩;symm;obtain⟨p,rfl,hp⟩:=cA.mp ra;obtain⟨q,rfl,hq⟩:=cA.mp rb;obtain⟨a1,a2,a3⟩:=ha.num ∅;obtain⟨b1,b2,b3⟩:=hb.num ∅;nofun;dsimp?[Fs,hp,hq];have m0:=Int.mul_pos a2 b2;have m4:a.2*b.2<=4:=Int.le_trans (Int.mul_le_mul a3 b3 (by lia) ∅) ∅;exact⟨bJ (by lia) (by lia),bJ (by lia) (by lia),bJ (by lia) (by lia),m0,(Bt.of 4 (by lia) (by lia)),λr H' s' n' e=>k r H' s' n' e⟩
theorem lg:aZ ["_law_cell_here","_law_n","_law_size","_law_spot","_law_same_here","_law_words_here","_law_k","_law_word","_law_j","_law_sign"] ["_law_cell_here","_law_n"] (aq (top 50)):=⟨rfl,rfl,rfl,∅,rfl,∅,∅⟩
theorem FF (T:Txt K mg aB aH aI aV aE aL aW aM aA aN aX af av):cg P w K mg base (br P w) 2 "_law_words" ["_law_cell_here","_law_n"] yR:=by
 have aK:cg P w K mg base (br P w) 1 "_law_mixed" ["_law_cell_here","_law_many"] bP:=lQ T;refine T.wg.dJ (λ_ _ _ _ _ _=>eG λ_ _=>rfl) λf fd F=>F.eC lg (λvs H Q E h=>?_) (λcf A outer s H vs Q E hr h=>?_)
 ·obtain⟨_,_,rfl,_⟩:=h;rfl
 ·symm;obtain⟨c,n,rfl,n0,Pn,kk⟩:=h;nofun;clear G_;have nd:=lg.nd;refine⟨_,(ah (aJ (i:=2) nd rfl (.inl rfl) (aG aQ ae (aO aK (hr.mono ∅) rfl au.pass (aa (pv 0) (aa ae ag (se rfl)) (se rfl)) (he:=se rfl) (hpl:=na rfl))))
  (ah (aJ (i:=3) nd rfl (.inl rfl) (aO aK (hr.mono ∅) rfl au.pass (aa (aG aQ (pv 0) ae) (aa (pv 2) ag (se rfl)) (se rfl)) (he:=se rfl) (hpl:=na rfl)))
  (ah (aJ (i:=4) nd rfl (.inl rfl) (aO aK (hr.mono ∅) rfl au.pass (aa (aG aQ (pv 0) ae) (aa ae ag (se rfl)) (se rfl)) (he:=se rfl) (hpl:=na rfl)))
  (ah (aJ (i:=5) nd rfl (.inl rfl) (cb ag))
  (ah (cS PassesOwn.never rfl (cN rfl T.z_range (aa (pv 1) ag (se rfl))) (a9 (i:=6) nd rfl (.inl rfl)) (ah (aJ (i:=7) nd rfl (.inl rfl) a7)
  (ah (cS PassesOwn.never rfl (cN rfl T.z_range (aa (pv 2) ag (se rfl))) (a9 (i:=8) nd rfl (.inl rfl)) (ah (aJ (i:=9) nd rfl (.inl rfl) (aO aK (hr.mono ∅) rfl au.pass (aa (aG aQ (aG aQ (aG aQ (pv 0) (aG bq ae (pv 8))) (aG bq (aG bq ae (pv 6)) (aG fS ae (pv 4)))) ae) (aa ae ag (se rfl)) (se rfl)) (he:=se rfl) (hpl:=na rfl)))
  (ah (bw (aP bG (pv 8) (pv 3) (a5 _)) (ao (aJ (i:=9) nd rfl (.inl rfl) (aG cJ (aG aQ (aO aK (hr.mono ∅) rfl au.pass (aa (aG aQ (pv 0) ae) (aa ae ag (se rfl)) (se rfl)) (he:=se rfl) (hpl:=na rfl)) (aG bq ae (pv 6))) ae)))
   ba)
  (ao (aJ (i:=7) nd rfl (.inl rfl) (aG lC (pv 7) (ar Hl a7 (pv 9) (λ_ _=>rfl))))))))
  (ao (b6 (fi Z5 aar aas dG.r (pv 5) (aa (pv 7) ag (se rfl))))))))
  (ao (aY (pv 5)))))))),?_⟩
  refine(?_:let bY:TS:=_;let bZ:TS:=_;let b5:TS:=_;let cY:TS:=_;let pP:TS:=_;let yE:TS:=_;tSeq bY (tSeq bZ (tSeq b5 (tSeq cY (tSeq pP yE)))) _ _ _);intro bY bZ b5 cY pP yE;have sl:=sizeLine_eq;obtain⟨m,rfl⟩:∃m:Nat,n=(m:Int):=⟨n.toNat,by lia⟩
  have z0:=cB (c:=c) (m:=8) ∅;have z1:=cR (c:=c) (m:=8) ∅;obtain⟨sz,WJ⟩:∃sz:Nat,1+bS c 8=(sz:Int):=⟨(1+bS c 8).toNat,by lia⟩
  have p0:=cB (c:=c+1) (m:=(sz:Int)) (by lia);have p1:=cR (c:=c+1) (m:=(sz:Int)) (by lia);have w0:=cB (c:=c+2) (m:=2) ∅;have w1:=cR (c:=c+2) (m:=2) ∅;change tSeq _ _ _ _ _;refine aU (λN=>N [some (.int c),some (.int (m:Int)),some (.int (sz:Int)),none,none,none,none,none,none,none] H) ?_ (λN hN=>?_)
  case refine_2=>
   dsimp?[bP];rw[WJ];exact⟨∅,hN⟩
  change tSeq _ _ _ _ _;refine aU (λN=>N [some (.int c),some (.int (m:Int)),some (.int (sz:Int)),some (.int (bS (c+1) (sz:Int))),none,none,none,none,none,none] H) ?_ (λN hN=>?_)
  case refine_2=>
   dsimp?[bP];exact⟨by lia,hN⟩
  generalize bS (c+1) (sz:Int)=sp at *;change tSeq _ _ _ _ _;refine aU (λN=>N [some (.int c),some (.int (m:Int)),some (.int (sz:Int)),some (.int sp),some (.int (bS (c+2) 2)),none,none,none,none,none] H) ?_ (λN hN=>?_)
  case refine_2=>
   dsimp?[bP];exact⟨∅,hN⟩
  generalize bS (c+2) 2=sm at *;change tSeq _ _ _ _ _;refine aU (λN=>∀H1 l,aF H H1->H l=none->H1 l=some (.lst [])->N [some (.int c),some (.int (m:Int)),some (.int (sz:Int)),some (.int sp),some (.int sm),some (.ref l),none,none,none,none] H1) ?_ (λN hN=>?_)
  case refine_2=>
   dsimp?[];exact⟨ZM _,λl nl=>hN _ l (aD nl) nl aj⟩
  rintro H1 l s1 nl hl;change tSeq _ _ _ _ _;refine aU (λN=>∀H2,aF H H2->H2 l=some (.lst (((List.range m).map λk:Nat=>jf (C3 c sp sm k) sz).map V.str))->∀z6 z7 z8 z9,N [some (.int c),some (.int (m:Int)),some (.int (sz:Int)),some (.int sp),some (.int sm),some (.ref l),z6,z7,z8,z9] H2) ?_ (λN hN=>?_)
  case refine_2=>
   dsimp?[];refine⟨by lia,by lia,cu (src_range (Ok:=λ_=>True)) (λi σ H2=>aF H H2/\H2 l=some (.lst (((List.range i).map λk:Nat=>jf (C3 c sp sm k) sz).map V.str))/\∃z6 z7 z8 z9,σ=[some (.int c),some (.int (m:Int)),some (.int (sz:Int)),some (.int sp),some (.int sm),some (.ref l),z6,z7,z8,z9]) ⟨s1,hl,_,_,_,_,rfl⟩ (λ_ _ _ _ _=>trivial) ?_ ?_⟩
   ·intro k x σ H2 H3 hk gN gO;symm;obtain⟨s2,DG,z6,z7,z8,z9,rfl⟩:=gN;obtain⟨rfl,rfl⟩:=gO;nofun;rw[ZX] at hk;simp only[gName,Z4,Z3,aal];change tSeq _ _ _ _ _;refine aU (λN=>N [some (.int c),some (.int (m:Int)),some (.int (sz:Int)),some (.int sp),some (.int sm),some (.ref l),some (.int (k:Int)),some (.str ""),z8,z9] H3) ?_ (λN hN=>?_)
    case refine_2=>
     dsimp?[];exact hN
    change tSeq _ _ _ _ _;refine aU (λN=>∀z8 z9,N [some (.int c),some (.int (m:Int)),some (.int (sz:Int)),some (.int sp),some (.int sm),some (.ref l),some (.int (k:Int)),some (.str (jf (C3 c sp sm k) sz)),z8,z9] H3) ?_ (λN hN=>?_)
    case refine_2=>
     dsimp?[];refine⟨by lia,by lia,cu (src_range (Ok:=λ_=>True)) (λj σ H4=>H3=H4/\∃z8 z9,σ=[some (.int c),some (.int (m:Int)),some (.int (sz:Int)),some (.int sp),some (.int sm),some (.ref l),some (.int (k:Int)),some (.str (jf (C3 c sp sm k) j)),z8,z9]) ⟨rfl,_,_,rfl⟩ (λ_ _ _ _ _=>trivial) ?_ ?_⟩
     ·intro j x σ H4 H5 hj gN gO;symm;obtain⟨rfl,z8,z9,rfl⟩:=gN;obtain⟨rfl,rfl⟩:=gO;nofun;rw[ZX] at hj;simp only[gName,Z4,Z3,aal];change tSeq _ _ _ _ _;refine aU (λN=>N [some (.int c),some (.int (m:Int)),some (.int (sz:Int)),some (.int sp),some (.int sm),some (.ref l),some (.int (k:Int)),some (.str (jf (C3 c sp sm k) j)),some (.int (j:Int)),some (.int (bS (c+31* (j:Int)+977* (k:Int)* (1 - sm)+3) 26))] H5) ?_ (λN hN=>?_)
      case refine_2=>
       dsimp?[bP];exact⟨bJ (by lia) (by lia),bJ (by lia) (by lia),bJ (by lia) (by lia),∅,hN⟩
      change tSeq _ _ _ _ _;refine aU (λN=>N [some (.int c),some (.int (m:Int)),some (.int (sz:Int)),some (.int sp),some (.int sm),some (.ref l),some (.int (k:Int)),some (.str (jf (C3 c sp sm k) j)),some (.int (j:Int)),some (.int (C3 c sp sm k j))] H5) ?_ (λN hN=>?_)
      case refine_2=>
       unfold C3 at hN;dsimp?[bP];refine iS (λe=>?_) (λe=>?_)
       ·rw[if_pos e] at hN;exact⟨∅,bJ (by lia) (by lia),∅,hN⟩
       ·rw[if_neg e] at hN;exact hN
      obtain⟨b0,b1⟩:=HZ c sp sm k j;dsimp?[JP];exact⟨by rw[sl];decide +kernel,_,Lr b0 b1,by rw[qN];show j+1<=sizeLine;lia,(Ft _ _).symm,_,rfl⟩
     ·intro σ H4 dA;symm;obtain⟨rfl,z8,z9,rfl⟩:=dA;nofun;rw[show((sz:Int)).toNat=sz from ZX _];exact hN _ _
    rintro z8 z9;dsimp?[eQ];refine⟨.inl ⟨rfl,_,bL.of DG⟩,_,DG,by rw[ZA,ZA,Z9];lia,cM s2 nl,?_,_,rfl⟩;rw[aj,List.range_succ,ZG,ZG];rfl
   ·intro σ H2 dA;symm;obtain⟨s2,DG,z6,z7,z8,z9,rfl⟩:=dA;nofun;rw[ZX] at DG;exact hN _ s2 DG _ _ _ _
  rintro H2 s2 DG z6 z7 z8 z9;dsimp?[];exact kk _ _ _ s2 nl DG (by rw[ZA,Z9,ZX]) (Fu p0 p1 (by lia)) (λw hw=>by
   symm;obtain⟨k,_,rfl⟩:=aaJ.mp hw;nofun;exact Ls (by lia) (by lia) (HZ c sp sm k)) ⟨sz,λw hw=>by
   symm;obtain⟨k,_,rfl⟩:=aaJ.mp hw;nofun;exact qN _ _⟩
theorem lh:aZ ["_law_cell_here","_law_counts","_law_clock","_law_thrown","_law_others","_law_deeds_here","_law_j","_law_name","_law_kind","_law_deed"] ["_law_cell_here","_law_counts","_law_clock","_law_thrown"] (aq (top 51)):=⟨rfl,rfl,rfl,∅,rfl,∅,∅⟩
theorem sV {H:Hp} {d:Dat} {v:V} (r:Rep H d v):∀(k:Nat) {ds:List Dat} {xs:List V},bo H ds xs->bo H (ds.take k++d::ds.drop k) (xs.take k++v::xs.drop k)
 | 0,ds,xs,h=>aT.mpr ⟨v,xs,rfl,r,h⟩
 | k+1,[],xs,h=>by rw[bI.mp h];exact aT.mpr ⟨v,[],rfl,r,bI.mpr rfl⟩
 | k+1,a::ds,xs,h=>by
  obtain⟨x,ys,rfl,h1,h2⟩:=aT.mp h;exact aT.mpr ⟨x,_,rfl,h1,sV r k h2⟩
theorem oR {fC:Str}:∀cs:List (Str×Int),(cs.filterMap λx=>if x.1≠fC then some (V.str x.1) else none)=((cs.map (·.1)).filter λn=>decide (n≠fC)).map V.str
 | []=>rfl
 | x::cs=>by
  rw[aad,ZC]
  by_cases e:x.1=fC
  ·rw[if_neg (λz=>z e),List.filter_cons_of_neg (by simpa using e)];exact oR cs
  ·rw[if_pos e,List.filter_cons_of_pos (by simpa using e),ZC,oR cs]
theorem FG (T:Txt K mg aB aH aI aV aE aL aW aM aA aN aX af av):cg P w K mg base (br P w) 2 "_law_deeds" ["_law_cell_here","_law_counts","_law_clock","_law_thrown"] yS:=by
 have aK:cg P w K mg base (br P w) 1 "_law_mixed" ["_law_cell_here","_law_many"] bP:=lQ T;refine T.wj.dJ (λ_ _ _ _ _ _=>uv λ_ _ _ _=>rfl) λf fd F=>F.eC lh (λvs H Q E h=>?_) (λcf A outer s H vs Q E hr h=>?_)
 ·obtain⟨_,_,_,_,_,rfl,_⟩:=h;rfl
 ·symm;obtain⟨c,cl,fC,th,cs,rfl,rc,c3,w5,LA,cw,kk⟩:=h;nofun;clear G_;have nd:=lh.nd;refine⟨_,(ah (jI (i:=4) rfl nd rfl rfl (N:=["_law_cell_here","_law_counts","_law_clock","_law_thrown","_law_others","_law_deeds_here","_law_j","_law_name","_law_kind","_law_deed"]) (so:=aq (top 51)) (N':=["_law_name","_law_most","_law_clock"]) (k:=2) (fr:=[2]) rfl rfl ⟨rfl,∅,∅,∅,rfl,∅,∅⟩ (bA (K:=K) (pv 1)) (λ_ _ _ _ _=>(fJ (K:=K) (n:=2) rfl (bX (a9 (i:=0) (show(["_law_name","_law_most","_law_clock"]:List Str).Nodup by decide +kernel) rfl (.inl rfl)) (bX (a9 (i:=1) (show(["_law_name","_law_most","_law_clock"]:List Str).Nodup by decide +kernel) rfl (.inl rfl)) fI)))) (λ_ _ _ _ _=>(eF (aP xF (pv 0) (pv 2) (a5 _))))
   (λ_ _ _ _ _=>(pv 0)))
  (ah (aJ (i:=5) nd rfl (.inl rfl) (cb (aa (bf (aa a7 (aa (pv 2) (aa ae ag (se rfl)) (se rfl)) (se rfl))) ag (se rfl))))
  (ah (cS PassesOwn.never rfl (cN rfl T.z_range (aa (aO aK (hr.mono ∅) rfl au.pass (aa (aG aQ (pv 0) ae) (aa ae ag (se rfl)) (se rfl)) (he:=se rfl) (hpl:=na rfl)) ag (se rfl))) (a9 (i:=6) nd rfl (.inl rfl)) (ao (bw (aP kA (a8 bO (by rfl) T.z_len ZT (aa (pv 4) ag (se rfl)) (he:=se rfl) (hpl:=na rfl)) ae (a5 _)) (ah (aJ (i:=7) nd rfl (.inl rfl) (ar a4 (pv 4) (aO aK (hr.mono ∅) rfl au.pass (aa (aG aQ (aG aQ (pv 0) (aG bq ae (pv 6))) ae) (aa (a8 bO (by rfl) T.z_len ZT (aa (pv 4) ag (se rfl)) (he:=se rfl) (hpl:=na rfl)) ag (se rfl)) (se rfl)) (he:=se rfl) (hpl:=na rfl)) (λ_ _=>rfl)))
  (ah (aJ (i:=8) nd rfl (.inl rfl) (aO aK (hr.mono ∅) rfl au.pass (aa (aG aQ (aG aQ (pv 0) (aG bq ae (pv 6))) ae) (aa ae ag (se rfl)) (se rfl)) (he:=se rfl) (hpl:=na rfl)))
  (ah (aJ (i:=9) nd rfl (.inl rfl) (bf (aa (ar a4 (cb (aa a7 (aa a7 ag (se rfl)) (se rfl))) (aG cJ (pv 8) ae) (λ_ _=>rfl)) (aa (pv 7) (aa (aO aK (hr.mono ∅) rfl au.pass (aa (aG aQ (pv 0) (aG bq ae (pv 6))) (aa ae ag (se rfl)) (se rfl)) (he:=se rfl) (hpl:=na rfl)) ag (se rfl)) (se rfl)) (se rfl))))
  (ah (bw (PW.pt (pw_and (aP bG (pv 8) ae (a5 _)) (pw_and1 (ie (pv 3))))) (ao (aJ (i:=9) nd rfl (.inl rfl) (bf (aa a7 (aa (pv 7) ag (se rfl)) (se rfl)))))
   ba)
  (ah (bw (PW.pt (pw_and (aP bG (pv 8) ae (a5 _)) (pw_and1 (aP kA (a8 bO (by rfl) T.z_len ZT (aa (pv 4) ag (se rfl)) (he:=se rfl) (hpl:=na rfl)) ae (a5 _))))) (ao (aJ (i:=9) nd rfl (.inl rfl) (bf (aa a7 (aa (pv 7) (aa (ar a4 (pv 4) (aG fS ae (fi Z5 PySem.F.slot_list_index PySem.F.type_list_index (CO hr.units) (pv 4) (aa (pv 7) ag (se rfl)))) (λ_ _=>rfl)) ag (se rfl)) (se rfl)) (se rfl)))))
   ba)
  (ao (b6 (fi Z5 PySem.F.slot_list_insert PySem.F.type_list_insert vg.r (pv 5) (aa (aO aK (hr.mono ∅) rfl au.pass (aa (aG aQ (aG aQ (pv 0) (aG bq ae (pv 6))) ae) (aa (aG aQ (a8 bO (by rfl) T.z_len ZT (aa (pv 5) ag (se rfl)) (he:=se rfl) (hpl:=na rfl)) ae) ag (se rfl)) (se rfl)) (he:=se rfl) (hpl:=na rfl)) (aa (pv 9) ag (se rfl)) (se rfl))))))))))
   ba)))
  (ao (aY (pv 5)))))),?_⟩
  refine(?_:let bY:TS:=_;let bZ:TS:=_;let b5:TS:=_;let cY:TS:=_;tSeq bY (tSeq bZ (tSeq b5 cY)) _ _ _);intro bY bZ b5 cY;have sl:=sizeLine_eq;symm;obtain⟨zj,yG,e0,fX,tZ⟩:=bh.mp (show Rep H (.lst _) (.ref cl) from rc);nofun;clear G_;cases e0;have len:=tZ.length;rw[ZA] at len;change tSeq _ _ _ _ _;refine aU (λN=>∀H1 ol,aF H H1->H1 ol=some (.lst (((cs.map (·.1)).filter λn=>decide (n≠fC)).map V.str))->N [some (.int c),some (.ref cl),some (.str fC),some (.bl th),some (.ref ol),none,none,none,none,none] H1) ?_ (λN hN=>?_)
  case refine_2=>
   dsimp?[];refine⟨⟨_,bL.of fX⟩,?_⟩;have S:Src (xC K cl) (aF H) yG.length _:=src_list (λH' s'=>bL.of (s' _ _ fX));rw[<-len] at S;refine sO (K:=K) cs (λx=>if x.1≠fC then some (.str x.1) else none) S (λ_ _ _ _ h=>h.1) (by lia) ?_ ?_
   ·rintro i x y ex ⟨_,ey⟩;symm;obtain⟨d,ed,rd⟩:=tZ.get ey;nofun;rw[ZE,ex] at ed;cases ed;symm;obtain⟨cq,b1,b2,rfl,Ia,q1,q2⟩:=bN.mp (show Rep _ (.tup _) y from rd);obtain rfl:=aR.mp q1;nofun;refine⟨cq,_,_,rfl,kz.of Ia,λY N y1 y2=>?_⟩;dsimp?[]
    by_cases e:x.1=fC
    ·rw[if_neg (λz=>z e)];exact y2 (if_neg (λz=>z e))
    ·rw[if_pos e];exact y1 _ (if_pos e)
   ·intro D n1 n2;refine hN _ D (aD n2) ?_;rw[aj,oR]
  rintro H1 ol s1 RF;generalize RG:(cs.map (·.1)).filter (λn=>decide (n≠fC))=os at *;have LB:∀n∈os,n∈cs.map (·.1):=λn hn=>by rw[<-RG] at hn;exact(List.mem_filter.mp hn).1
  have Za:os.Nodup:=by rw[<-RG];exact LA.filter _
  have WK:os.length<=2:=by
   have:os.length< (cs.map (·.1)).length:=by
    rw[<-RG];exact List.length_filter_lt_length_iff_exists.mpr ⟨fC,w5,by simp⟩
   rw[ZA] at this;lia
  change tSeq _ _ _ _ _;refine aU (λN=>∀H2 l t,aF H1 H2->H1 l=none->H2 l=some (.lst [.ref t])->H2 t=some (.tup [.str "plus",.str fC,.int 1])->N [some (.int c),some (.ref cl),some (.str fC),some (.bl th),some (.ref ol),some (.ref l),none,none,none,none] H2) ?_ (λN hN=>?_)
  case refine_2=>
   dsimp?[];exact⟨by lia,λt H2 s2 nt et=>⟨by lia,λl nl=>hN _ l t (s2.trans (aD nl)) (none_of s2 nl) aj (aD nl _ _ et)⟩⟩
  rintro H2 l t s2 nl hl ht;have Po:H l=none:=none_of s1 nl;have WL:ol≠l:=λz=>by rw[z,nl] at RF;cases RF
  have AN:=s1.trans s2;have WM:dO (upd H l (.lst [])) H2:=λb ys e=>by
   by_cases z:b=l
   ·subst z;exact⟨_,hl⟩
   ·rw[aw z] at e;exact⟨_,AN _ _ e⟩
  change tSeq _ _ _ _ _;refine aU (λN=>∀(H3:Hp) (ds:List Dd) (xs:List V),aF H H3->H3 l=some (.lst xs)->ds.length<=3->(∀d∈ds,fZ cs d/\Di d)->cZ (upd H l (.lst [])) H3 (ds.map BF) xs->∀z6 z7 z8 z9,N [some (.int c),some (.ref cl),some (.str fC),some (.bl th),some (.ref ol),some (.ref l),z6,z7,z8,z9] H3) ?_ (λN hN=>?_)
  case refine_2=>
   dsimp?[bP];have m0:=cB (c:=c+5) (m:=3) ∅;have m1:=cR (c:=c+5) (m:=3) ∅;obtain⟨m,em⟩:∃m:Nat,bS (c+5) 3=(m:Int):=⟨(bS (c+5) 3).toNat,by lia⟩
   rw[em] at m0 m1 ⊢;refine⟨∅,by lia,by lia,?_⟩;rw[ZX];refine cu (src_range (Ok:=λ_=>True)) (λi σ H3=>aF H H3/\H3 ol=some (.lst (os.map V.str))/\∃(ds:List Dd) (xs:List V),H3 l=some (.lst xs)/\ds.length<=i+1/\(∀d∈ds,fZ cs d/\Di d)/\cZ (upd H l (.lst [])) H3 (List.map BF ds) xs/\∃z6 z7 z8 z9,σ=[some (.int c),some (.ref cl),some (.str fC),some (.bl th),some (.ref ol),some (.ref l),z6,z7,z8,z9]) ⟨AN,s2 _ _ RF,[.plus fC 1],[.ref t],hl,ZD _,λd hd=>by rw[aaK.mp hd];exact⟨w5,show(0:Int)<=1 by decide⟩,cy (AJ WM ht cc cc dR) gk,_,_,_,_,rfl⟩ (λ_ _ _ _ _=>trivial) ?_ ?_
   ·intro i x σ H3 H4 hi gN gO;symm;obtain⟨s3,Jo,ds,xs,hx,ld,gd,rx,z6,z7,z8,z9,rfl⟩:=gN;obtain⟨rfl,rfl⟩:=gO;nofun;clear G_;have xl:xs.length=ds.length:=by have:=bo.length rx;rw[ZA] at this;lia
    simp only[gName,Z4,Z3,aal];change tIfS _ _ _ _ [some (.int c),some (.ref cl),some (.str fC),some (.bl th),some (.ref ol),some (.ref l),some (.int (i:Int)),z7,z8,z9] H4
    by_cases o0:os=[]
    ·subst o0;refine dq (λY N k=>by dsimp?[Jo];rw[if_neg ∅];exact k) ?_;dsimp?[];exact⟨s3,Jo,ds,xs,hx,by lia,gd,rx,_,rfl⟩
    ·have op:0<os.length:=List.length_pos_iff.mpr o0;refine dE (λY N k=>by dsimp?[Jo];rw[if_pos (by rw[ZA];lia)];exact k) ?_;have RH:(0:Int)< (os.length:Int):=by lia
     change tSeq _ _ _ _ _;refine aU (λN=>∀n,n∈os->N [some (.int c),some (.ref cl),some (.str fC),some (.bl th),some (.ref ol),some (.ref l),some (.int (i:Int)),some (.str n),z8,z9] H4) ?_ (λN hN=>?_)
     case refine_2=>
      dsimp?[bP,Jo];rw[ZA];have b0:=cB (c:=c+7* (i:Int)+1) RH;have b1:=cR (c:=c+7* (i:Int)+1) RH;generalize bS (c+7* (i:Int)+1) (os.length:Int)=b at *;obtain⟨k,rfl⟩:∃k:Nat,b=(k:Int):=⟨b.toNat,by lia⟩
      have hk:k<os.length:=by lia
      exact⟨bJ (by lia) (by lia),RH,.str os[k],bT (by rw[ZE,ZH hk];rfl),hN _ (ZY hk)⟩
     rintro n hn;have Pp:=LB n hn;change tSeq _ _ _ _ _;refine aU (λN=>∀kd:Int,0<=kd->kd<4->N [some (.int c),some (.ref cl),some (.str fC),some (.bl th),some (.ref ol),some (.ref l),some (.int (i:Int)),some (.str n),some (.int kd),z9] H4) ?_ (λN hN=>?_)
     case refine_2=>
      dsimp?[bP];exact⟨bJ (by lia) (by lia),∅,hN _ (cB ∅) (cR ∅)⟩
     rintro kd k0 k4;let RI:Hp->V->Prop:=λH5 v=>∃d,dF (upd H l (.lst [])) H5 (BF d) v/\fZ cs d/\Di d;have LC:dO (upd H l (.lst [])) H4:=λb ys e=>by
      by_cases z:b=l
      ·subst z;exact⟨_,hx⟩
      ·rw[aw z] at e;exact⟨_,s3 _ _ e⟩
     change tSeq _ _ _ _ _;refine aU (λN=>∀H5 v,aF H4 H5->RI H5 v->N [some (.int c),some (.ref cl),some (.str fC),some (.bl th),some (.ref ol),some (.ref l),some (.int (i:Int)),some (.str n),some (.int kd),some v] H5) ?_ (λN hN=>?_)
     case refine_2=>
      have v0:∀c,0<=bS c 3:=λc=>cB ∅;dsimp?[bP];obtain⟨ww,dw,WN,WQ,WR⟩:∃w d,iX [V.str "set",V.str "plus"] (kd % 2)=some (.str w)/\BF d=.tup [.str w,.str n,.int (bS (c+13* (i:Int)) 3)]/\fZ cs d/\Di d:=by
       have o:kd % 2=0\/kd % 2=1:=by lia
       rcases o with o | o
       ·rw[o];exact⟨_,.set n _,rfl,rfl,Pp,v0 _⟩
       ·rw[o];exact⟨_,.plus n _,rfl,rfl,Pp,v0 _⟩
      refine⟨by lia,λp np=>⟨∅,_,aj,_,WN,bJ (by lia) (by lia),∅,by lia,λp1 H5 s5 Gr e5=>?_⟩⟩;have Ib:=(aD np).trans s5;exact hN _ _ Ib ⟨dw,by rw[WQ];exact AJ (LC.trans Ib) e5 cc cc dR,WR⟩
     rintro H5 v5 s5 d5;change tSeq _ _ _ _ _;refine aU (λN=>∀H5 v,aF H4 H5->RI H5 v->N [some (.int c),some (.ref cl),some (.str fC),some (.bl th),some (.ref ol),some (.ref l),some (.int (i:Int)),some (.str n),some (.int kd),some v] H5) ?_ (λN hN=>?_)
     case refine_2=>
      dsimp?[]
      by_cases z1:kd=2
      ·rw[if_pos z1]
       by_cases z2:th=true
       ·rw[if_pos z2];exact⟨by lia,λp H6 s6 np e6=>hN _ _ (s5.trans s6) ⟨.face n,yQ (LC.trans (s5.trans s6)) e6 cc cc,Pp,trivial⟩⟩
       ·rw[if_neg z2];exact hN _ _ s5 d5
      ·rw[if_neg z1,if_neg ∅];exact hN _ _ s5 d5
     rintro H6 v6 s6 d6;change tSeq _ _ _ _ _;refine aU (λN=>∀H5 v,aF H4 H5->RI H5 v->N [some (.int c),some (.ref cl),some (.str fC),some (.bl th),some (.ref ol),some (.ref l),some (.int (i:Int)),some (.str n),some (.int kd),some v] H5) ?_ (λN hN=>?_)
     case refine_2=>
      dsimp?[s6 _ _ Jo,Nk]
      by_cases z1:kd=3
      ·rw[if_pos z1,ZA]
       by_cases z2:(1:Int)< (os.length:Int)
       ·rw[if_pos z2];have o2:os.length=2:=by lia
        obtain⟨ei,ni⟩:=Lv hn;have RJ:=List.idxOf_lt_length_of_mem hn;have j2:(1 - ((os.idxOf n:Nat):Int))=((1 - os.idxOf n:Nat):Int):=by lia
        have hj:1 - os.idxOf n<os.length:=by lia
        have ks:∀x∈os,Ke (.str x):=λx hx=>by
         symm;obtain⟨y,hy,rfl⟩:=aaJ.mp (LB x hx);nofun;exact Lx (cw y hy).2.2.1
        refine⟨.inl ⟨rfl,_,bL.of (s6 _ _ Jo)⟩,os.map Dat.str,yL _,λe he=>?_,.str n,aR.mpr rfl,ks n hn,os.idxOf n,ei,ni,by lia,.str os[1 - os.idxOf n],?_,by lia,λp H7 s7 np e7=>hN _ _ (s6.trans s7) ⟨.move n os[1 - os.idxOf n],AJ (LC.trans (s6.trans s7)) e7 cc cc cc,⟨Pp,LB _ (ZY hj)⟩,trivial⟩⟩
        ·symm;obtain⟨x,hx,rfl⟩:=aaJ.mp he;nofun;exact ks x hx
        ·rw[j2];exact bT (by rw[ZE,ZH hj];rfl)
       ·rw[if_neg z2];exact hN _ _ s6 d6
      ·rw[if_neg z1,if_neg ∅];exact hN _ _ s6 d6
     intro H7 v7 s7 HK;symm;obtain⟨d,rd,WS,WT⟩:=HK;nofun;clear G_;have b0:=cB (c:=c+17* (i:Int)+3) (m:=(xs.length:Int)+1) (by lia);have b1:=cR (c:=c+17* (i:Int)+3) (m:=(xs.length:Int)+1) (by lia);dsimp?[bP,Kr];refine⟨.inl ⟨rfl,_,bL.of (s7 _ _ hx)⟩,bJ (by lia) (by lia),xs,s7 _ _ hx,by lia,?_⟩;generalize bS (c+17* (i:Int)+3) ((xs.length:Int)+1)=b at *;obtain⟨k,rfl⟩:∃k:Nat,b=(k:Int):=⟨b.toNat,by lia⟩
     rw[ZX];refine⟨xs,s7 _ _ hx,by lia,by lia,by lia,cM (s3.trans s7) Po,by rw[aw WL];exact s7 _ _ Jo,ds.take k++d::ds.drop k,_,aj,?_,λe he=>?_,?_,_,rfl⟩
     ·rw[ZJ,ZP,ZV,List.length_drop];lia
     ·rcases List.mem_append.mp he with he | he
      ·exact gd e (List.mem_of_mem_take he)
      ·rcases aaj.mp he with rfl | he
       ·exact⟨WS,WT⟩
       ·exact gd e (List.mem_of_mem_drop he)
     ·show bo (iy _ (upd _ _ _)) _ _;rw[je (ys:=[]) aj,ZG,ZC,List.map_take,List.map_drop];exact sV rd k (rx.mono s7)
   ·intro σ H3 dA;symm;obtain⟨s3,Jo,ds,xs,hx,ld,gd,rx,z6,z7,z8,z9,rfl⟩:=dA;nofun;exact hN _ ds xs s3 hx (by lia) gd rx _ _ _ _
  rintro H3 ds xs s3 hx ld gd rx z6 z7 z8 z9;dsimp?[];exact kk _ _ ds s3 Po (wR Po hx (rx.low (.of (aD Po)))) ld gd
theorem lj:aZ ["_law_cell_here","_law_counts","_law_clock","_law_goals","_law_sides","_law_pool","_law_low_here","_law_high","_law_cut","_law_rows","_law_k","_law_ends","_law_deeds_here","_law_pay"] ["_law_cell_here","_law_counts","_law_clock","_law_goals"] (aq (top 52)):=⟨rfl,rfl,rfl,∅,rfl,∅,∅⟩
theorem N9 {ps:List Pt} (h:ps∈Gh):0<=qg ps/\qg ps<=oh ps/\oh ps<=500/\∀v∈dt ps,qg ps<=v/\v<=oh ps:=by
 have d:∀x∈De,x.1<=x.1*x.2/\x.1*x.2<=100:=∅
 obtain⟨k,s,BY,e | ⟨m,hm,e⟩⟩:=ir h
 ·subst e;have:k<=k*s/\k*s<=100:=d (k,s) BY;have e1:qg [.cP k s]=(k:Int):=by show(k:Int)+0=_;lia
  have e2:oh [.cP k s]=((k*s:Nat):Int):=by show(k:Int)* (s:Int)+0=_;rw[<-aaf];lia
  rw[e1,e2];refine⟨by lia,by lia,by lia,λv hv=>?_⟩;obtain⟨i,hi,rfl⟩:=aaJ.mp hv;have:=List.mem_range.mp hi;lia
 ·subst e;have:k<=k*s/\k*s<=100:=d (k,s) BY;have e1:qg [.cP k s,.num m]=(k:Int)+ (m:Int):=by show(k:Int)+ ((m:Int)+0)=_;lia
  have e2:oh [.cP k s,.num m]=((k*s:Nat):Int)+ (m:Int):=by show(k:Int)* (s:Int)+ ((m:Int)+0)=_;rw[<-aaf];lia
  rw[e1,e2];refine⟨by lia,by lia,by lia,λv hv=>?_⟩;obtain⟨i,hi,rfl⟩:=aaJ.mp hv;have:=List.mem_range.mp hi;lia
theorem LD (T:Txt K mg aB aH aI aV aE aL aW aM aA aN aX af av):cg P w K mg base (br P w) 3 "_law_throw" ["_law_cell_here","_law_counts","_law_clock","_law_goals"] vv:=by
 have aK:cg P w K mg base (br P w) 1 "_law_mixed" ["_law_cell_here","_law_many"] bP:=lQ T;have iA:cg P w K mg base (br P w) 2 "_law_deeds" ["_law_cell_here","_law_counts","_law_clock","_law_thrown"] yS:=FG T;refine T.wm.dJ (λ_ _ _ _ _ _=>uv λ_ _ _ _=>rfl) λf fd F=>F.eC lj (λvs H Q E h=>?_) (λcf A outer s H vs Q E hr h=>?_)
 ·obtain⟨_,_,_,_,_,_,rfl,_⟩:=h;rfl
 ·symm;obtain⟨c,cl,fC,gl,cs,gs,rfl,rc,c3,w5,LA,cw,Ic,g0,g3,kk⟩:=h;nofun;clear G_;have nd:=lj.nd;refine⟨_,(ah (aJ (i:=4) nd rfl (.inl rfl) (aG aQ ae (aO aK (hr.mono ∅) rfl au.pass (aa (aG aQ (pv 0) ae) (aa ae ag (se rfl)) (se rfl)) (he:=se rfl) (hpl:=na rfl))))
  (ah (aJ (i:=5) nd rfl (.inl rfl) (cb (aa (bf (aa a7 (aa (aG aQ ae (aO aK (hr.mono ∅) rfl au.pass (aa (aG aQ (pv 0) ae) (aa ae ag (se rfl)) (se rfl)) (he:=se rfl) (hpl:=na rfl))) (aa (pv 4) ag (se rfl)) (se rfl)) (se rfl))) ag (se rfl))))
  (ah (aJ (i:=6) nd rfl (.inl rfl) (ar ai (ar a4 (pv 5) ae (λ_ _=>rfl)) ae (λ_ _=>rfl)))
  (ah (aJ (i:=7) nd rfl (.inl rfl) (aG bq (pv 6) (pv 4)))
  (ah (bw (aP bG (aO aK (hr.mono ∅) rfl au.pass (aa (aG aQ (pv 0) ae) (aa ae ag (se rfl)) (se rfl)) (he:=se rfl) (hpl:=na rfl)) ae (a5 _)) (ah (b6 (fi Z5 aar aas dG.r (pv 5) (aa (bf (aa a7 (aa (aO aK (hr.mono ∅) rfl au.pass (aa (aG aQ (pv 0) ae) (aa ae ag (se rfl)) (se rfl)) (he:=se rfl) (hpl:=na rfl)) ag (se rfl)) (se rfl))) ag (se rfl))))
  (ah (aJ (i:=6) nd rfl (.inl rfl) (aG aQ (pv 6) (ar ai (ar a4 (pv 5) ae (λ_ _=>rfl)) ae (λ_ _=>rfl))))
  (ao (aJ (i:=7) nd rfl (.inl rfl) (aG aQ (pv 7) (ar ai (ar a4 (pv 5) ae (λ_ _=>rfl)) ae (λ_ _=>rfl)))))))
   ba)
  (ah (aJ (i:=8) nd rfl (.inl rfl) (aG aQ (pv 6) (aO aK (hr.mono ∅) rfl au.pass (aa (aG aQ (pv 0) ae) (aa (aG aQ (aG fS (pv 7) (pv 6)) ae) ag (se rfl)) (se rfl)) (he:=se rfl) (hpl:=na rfl))))
  (ah (aJ (i:=9) nd rfl (.inl rfl) (cb ag))
  (ah (cS PassesOwn.never rfl (cN rfl T.z_range (aa ae ag (se rfl))) (a9 (i:=10) nd rfl (.inl rfl)) (ah (aJ (i:=11) nd rfl (.inl rfl) (ar a4 (cb (aa (bf (aa (a8 (jG rfl) (by rfl) T.z_max rfl (aa ae (aa (aG fS (pv 6) ae) ag (se rfl)) (se rfl)) (he:=se rfl) (hpl:=na rfl)) (aa (pv 8) ag (se rfl)) (se rfl))) (aa (bf (aa (aG aQ (pv 8) ae) (aa (aG aQ (pv 7) ae) ag (se rfl)) (se rfl))) ag (se rfl)) (se rfl))) (pv 10) (λ_ _=>rfl)))
  (ah (aJ (i:=12) nd rfl (.inl rfl) (aO iA (hr.mono ∅) rfl au.pass (aa (aG aQ (pv 0) (aG bq ae (pv 10))) (aa (pv 1) (aa (pv 2) (aa ky ag (se rfl)) (se rfl)) (se rfl)) (se rfl)) (he:=se rfl) (hpl:=na rfl)))
  (ao (b6 (fi Z5 aar aas dG.r (pv 9) (aa (bf (aa (ar ai (pv 11) ae (λ_ _=>rfl)) (aa (ar ai (pv 11) ae (λ_ _=>rfl)) (aa (pv 12) (aa (ar a4 (pv 3) (aO aK (hr.mono ∅) rfl au.pass (aa (aG aQ (aG aQ (pv 0) ae) (pv 10)) (aa (a8 bO (by rfl) T.z_len ZT (aa (pv 3) ag (se rfl)) (he:=se rfl) (hpl:=na rfl)) ag (se rfl)) (se rfl)) (he:=se rfl) (hpl:=na rfl)) (λ_ _=>rfl)) ag (se rfl)) (se rfl)) (se rfl)) (se rfl))) ag (se rfl))))))))
  (ah (aJ (i:=13) nd rfl (.inl rfl) (bf (aa (aG fS (aO aK (hr.mono ∅) rfl au.pass (aa (aG aQ (pv 0) ae) (aa ae ag (se rfl)) (se rfl)) (he:=se rfl) (hpl:=na rfl)) ae) (aa ae ag (se rfl)) (se rfl))))
  (ah (bw (aP bG (aO aK (hr.mono ∅) rfl au.pass (aa (aG aQ (pv 0) ae) (aa ae ag (se rfl)) (se rfl)) (he:=se rfl) (hpl:=na rfl)) ae (a5 _)) (ao (aJ (i:=13) nd rfl (.inl rfl) (bf (aa (aG fS (aG bq ae (aO aK (hr.mono ∅) rfl au.pass (aa (aG aQ (pv 0) ae) (aa ae ag (se rfl)) (se rfl)) (he:=se rfl) (hpl:=na rfl))) ae) (aa ae ag (se rfl)) (se rfl)))))
   ba)
  (ao (aY (bf (aa a7 (aa (pv 5) (aa (pv 13) (aa (ar a4 (cb (aa (pv 9) (aa (CL (K:=K) (pv 9) (iF fc ae)) ag (se rfl)) (se rfl))) (aO aK (hr.mono ∅) rfl au.pass (aa (aG aQ (pv 0) ae) (aa ae ag (se rfl)) (se rfl)) (he:=se rfl) (hpl:=na rfl)) (λ_ _=>rfl)) ag (se rfl)) (se rfl)) (se rfl)) (se rfl))))))))))))))),?_⟩
  refine(?_:let bY:TS:=_;let bZ:TS:=_;let b5:TS:=_;let cY:TS:=_;let pP:TS:=_;let yE:TS:=_;let EZ:TS:=_;let Jp:TS:=_;let Oa:TS:=_;let Ob:TS:=_;let FH:TS:=_;tSeq bY (tSeq bZ (tSeq b5 (tSeq cY (tSeq pP (tSeq yE (tSeq EZ (tSeq Jp (tSeq Oa (tSeq Ob FH))))))))) _ _ _);intro bY bZ b5 cY pP yE EZ Jp Oa Ob FH;have sl:=sizeLine_eq;obtain⟨s,es⟩:∃s:Nat,2+bS (c+1) 5=(s:Int):=⟨(2+bS (c+1) 5).toNat,by have:=cB (c:=c+1) (m:=5) ∅;lia⟩
  obtain⟨k,ek⟩:∃k:Nat,1+bS (c+2) 2=(k:Int):=⟨(1+bS (c+2) 2).toNat,by have:=cB (c:=c+2) (m:=2) ∅;lia⟩
  have s2:2<=s/\s<=6:=by have:=cB (c:=c+1) (m:=5) ∅;have:=cR (c:=c+1) (m:=5) ∅;lia
  have k2:1<=k/\k<=2:=by have:=cB (c:=c+2) (m:=2) ∅;have:=cR (c:=c+2) (m:=2) ∅;lia
  have BY:(k,s)∈De:=by
   obtain⟨a,b⟩:=s2;obtain⟨a',b'⟩:=k2;have:k=1\/k=2:=by lia
   have:s=2\/s=3\/s=4\/s=5\/s=6:=by lia
   rcases this with rfl | rfl | rfl | rfl | rfl <;>rcases ‹k=1\/k=2› with rfl | rfl <;>decide
  have ga:∀c,∃g,g∈gs/\iX (List.map V.str gs) (bS c (gs.length:Int))=some (.str g):=λc=>by
   have b0:=cB (c:=c) (m:=(gs.length:Int)) (by lia);have b1:=cR (c:=c) (m:=(gs.length:Int)) (by lia);generalize bS c (gs.length:Int)=b at *;obtain⟨k,rfl⟩:∃k:Nat,b=(k:Int):=⟨b.toNat,by lia⟩
   have hk:k<gs.length:=by lia
   exact⟨gs[k],ZY hk,bT (by rw[ZE,ZH hk];rfl)⟩
  change tSeq _ _ _ _ _;refine aU (λN=>N [some (.int c),some (.ref cl),some (.str fC),some (.ref gl),some (.int (s:Int)),none,none,none,none,none,none,none,none,none] H) ?_ (λN hN=>?_)
  case refine_2=>
   dsimp?[bP];rw[es];exact⟨∅,hN⟩
  change tSeq _ _ _ _ _;refine aU (λN=>∀H1 pl t,aF H H1->H pl=none->H1 pl=some (.lst [.ref t])->H1 t=some (.tup [.str "dice",.int (k:Int),.int (s:Int)])->N [some (.int c),some (.ref cl),some (.str fC),some (.ref gl),some (.int (s:Int)),some (.ref pl),none,none,none,none,none,none,none,none] H1) ?_ (λN hN=>?_)
  case refine_2=>
   dsimp?[bP];rw[ek];exact⟨∅,by lia,λt H1 s1 nt et=>⟨by lia,λpl Gs=>hN _ pl t (s1.trans (aD Gs)) (none_of s1 Gs) aj (aD Gs _ _ et)⟩⟩
  rintro H1 pl t s1 Gs hpl ht;change tSeq _ _ _ _ _;refine aU (λN=>N [some (.int c),some (.ref cl),some (.str fC),some (.ref gl),some (.int (s:Int)),some (.ref pl),some (.int (k:Int)),none,none,none,none,none,none,none] H1) ?_ (λN hN=>?_)
  case refine_2=>
   dsimp?[hpl];exact⟨_,ht,_,at1,hN⟩
  change tSeq _ _ _ _ _;refine aU (λN=>N [some (.int c),some (.ref cl),some (.str fC),some (.ref gl),some (.int (s:Int)),some (.ref pl),some (.int (k:Int)),some (.int ((k:Int)* (s:Int))),none,none,none,none,none,none] H1) ?_ (λN hN=>?_)
  case refine_2=>
   dsimp?[];exact⟨bJ (by lia) (by lia),hN⟩
  change tSeq _ _ _ _ _;refine aU (λN=>∀H2 ps ys,ps∈Gh->aF H H2->H2 pl=some (.lst ys)->cZ H H2 (List.map qc ps) ys->N [some (.int c),some (.ref cl),some (.str fC),some (.ref gl),some (.int (s:Int)),some (.ref pl),some (.int (qg ps)),some (.int (oh ps)),none,none,none,none,none,none] H2) ?_ (λN hN=>?_)
  case refine_2=>
   have b0:=cB (c:=c+4) (m:=100) ∅;have b1:=cR (c:=c+4) (m:=100) ∅;have WU:dO H H1:=.of s1;dsimp?[bP,eQ];refine⟨∅,iS (λe=>?_) (λe=>?_)⟩
   ·refine⟨.inl ⟨rfl,_,bL.of hpl⟩,∅,by lia,λp H2 Ie np ep=>?_⟩;obtain⟨m,em⟩:∃m:Nat,bS (c+4) 100=(m:Int):=⟨(bS (c+4) 100).toNat,by lia⟩
    rw[em] at ep b0 b1;have WV:p≠pl:=λz=>by rw[z,hpl] at np;cases np
    have WW:t≠pl:=λz=>by rw[z,hpl] at ht;cases ht
    have t8:upd H2 pl (.lst ([.ref t]++ [.ref p])) p=some (.tup [.str "number",.int (m:Int)]):=by rw[aw WV];exact ep
    have Fn:upd H2 pl (.lst ([.ref t]++ [.ref p])) t=some (.tup [.str "dice",.int (k:Int),.int (s:Int)]):=by rw[aw WW];exact Ie _ _ ht
    have sH:aF H (upd H2 pl (.lst ([.ref t]++ [.ref p]))):=cM (s1.trans Ie) Gs;refine⟨_,Ie _ _ hpl,by show(1:Nat)<sizeLine;lia,_,aj,_,at1,p,rfl,_,t8,_,at1,_,rfl,_,aj,_,at1,p,rfl,_,t8,_,at1,_,rfl,?_⟩;have h:=hN _ [.cP k s,.num m] [.ref t,.ref p] (List.mem_flatMap.mpr ⟨(k,s),BY,ZI _ (aaJ.mpr ⟨m,List.mem_range.mpr (by lia),rfl⟩)⟩) sH aj (cy (AJ (.of sH) Fn cc dR dR) (cy (yQ (.of sH) t8 cc dR) gk));have e1:qg [.cP k s,.num m]=(k:Int)+ (m:Int):=by show(k:Int)+ ((m:Int)+0)=_;lia
    have e2:oh [.cP k s,.num m]=(k:Int)* (s:Int)+ (m:Int):=by show(k:Int)* (s:Int)+ ((m:Int)+0)=_;lia
    rw[e1,e2] at h;exact h
   ·have h:=hN _ [.cP k s] [.ref t] (List.mem_flatMap.mpr ⟨(k,s),BY,ZL⟩) s1 hpl (cy (AJ WU ht cc dR dR) gk);have e1:qg [.cP k s]=(k:Int):=by show(k:Int)+0=_;lia
    have e2:oh [.cP k s]=(k:Int)* (s:Int):=by show(k:Int)* (s:Int)+0=_;lia
    rw[e1,e2] at h;exact h
  rintro H2 ps ys RK Ie hpl2 TX;symm;obtain⟨WX,WY,WZ,RL⟩:=N9 RK;nofun;clear G_;have Gp:dF H H2 (.lst (ps.map qc)) (.ref pl):=wR Gs hpl2 TX;clear TX hpl2 ht hpl;generalize qg ps=lo at *;generalize oh ps=hi at *;change tSeq _ _ _ _ _;refine aU (λN=>∀cut,lo<=cut->cut<=hi->N [some (.int c),some (.ref cl),some (.str fC),some (.ref gl),some (.int (s:Int)),some (.ref pl),some (.int lo),some (.int hi),some (.int cut),none,none,none,none,none] H2) ?_ (λN hN=>?_)
  case refine_2=>
   dsimp?[bP];have b0:=cB (c:=c+6) (m:=hi - lo+1) (by lia);have b1:=cR (c:=c+6) (m:=hi - lo+1) (by lia);exact⟨by lia,hN _ (by lia) (by lia)⟩
  rintro cut Rh Tz;change tSeq _ _ _ _ _;refine aU (λN=>∀H3 rl,aF H2 H3->H2 rl=none->H3 rl=some (.lst [])->N [some (.int c),some (.ref cl),some (.str fC),some (.ref gl),some (.int (s:Int)),some (.ref pl),some (.int lo),some (.int hi),some (.int cut),some (.ref rl),none,none,none,none] H3) ?_ (λN hN=>?_)
  case refine_2=>
   dsimp?[];exact⟨ZM _,λrl FI=>hN _ rl (aD FI) FI aj⟩
  rintro H3 rl s3 FI qL;have FJ:H rl=none:=none_of Ie FI;let Mr:Nat->Tw->Prop:=λj r=>r.1=(if j=0 then max 0 (lo - 1) else cut+1)/\r.2.1=(if j=0 then cut else hi+2)/\r.2.2.1.length<=3/\(∀d∈r.2.2.1,fZ cs d/\Di d)/\r.2.2.2∈gs;change tSeq _ _ _ _ _;refine aU (λN=>∀(H4:Hp) (r0 r1:Tw) (x0 x1:V),aF H2 H4->H4 rl=some (.lst [x0,x1])->Mr 0 r0->Mr 1 r1->cZ (upd H rl (.lst [])) H4 (([r0,r1].map Gk).map sh) [x0,x1]->∀nE yU xt,N [some (.int c),some (.ref cl),some (.str fC),some (.ref gl),some (.int (s:Int)),some (.ref pl),some (.int lo),some (.int hi),some (.int cut),some (.ref rl),nE,yU,xt,none] H4) ?_ (λN hN=>?_)
  case refine_2=>
   dsimp?[];refine⟨∅,∅,cu (src_range (Ok:=λ_=>True)) (λi σ H4=>aF H2 H4/\∃(rs:List Tw) (xs:List V),H4 rl=some (.lst xs)/\rs.length=i/\(∀(j:Nat) r,rs[j]?=some r->Mr j r)/\cZ (upd H rl (.lst [])) H4 ((rs.map Gk).map sh) xs/\∃nE yU xt,σ=[some (.int c),some (.ref cl),some (.str fC),some (.ref gl),some (.int (s:Int)),some (.ref pl),some (.int lo),some (.int hi),some (.int cut),some (.ref rl),nE,yU,xt,none]) ⟨s3,[],[],qL,rfl,(λj r e=>by simp at e),gk,_,_,_,rfl⟩ (λ_ _ _ _ _=>trivial) ?_ ?_⟩
   ·intro i x σ H4 H5 Jq gN gO;symm;obtain⟨s4,rs,xs,hx,lr,ok,rx,nE,yU,xt,rfl⟩:=gN;obtain⟨rfl,rfl⟩:=gO;nofun;have xl:xs.length=i:=by have:=bo.length rx;rw[ZA,ZA] at this;lia
    have i2:i<2:=Jq;simp only[gName,Z4,Z3,aal];change tSeq _ _ _ _ _;refine aU (λN=>∀H6 t,aF H5 H6->H6 t=some (.tup [.int (if i=0 then max 0 (lo - 1) else cut+1),.int (if i=0 then cut else hi+2)])->N [some (.int c),some (.ref cl),some (.str fC),some (.ref gl),some (.int (s:Int)),some (.ref pl),some (.int lo),some (.int hi),some (.int cut),some (.ref rl),some (.int (i:Int)),some (.ref t),xt,none] H6) ?_ (λN hN=>?_)
    case refine_2=>
     dsimp?[];refine⟨by lia,λp H6 s6 np ep=>⟨by lia,λp1 H7 s7 Gr LF=>⟨by lia,λp2 RM=>?_⟩⟩⟩;have sp:=aD (o:=.lst [V.ref p,V.ref p1]) RM;have e1:(if lo - 1 >0 then lo - 1 else 0)=max 0 (lo - 1):=by split <;>lia
     rw[e1] at ep;have W0:i=0\/i=1:=by lia
     rcases W0 with z | z
     ·subst z;exact⟨_,aj,_,at0,hN _ p (s6.trans (s7.trans sp)) (by rw[if_pos rfl,if_pos rfl];exact sp _ _ (s7 _ _ ep))⟩
     ·subst z;exact⟨_,aj,_,at1,hN _ p1 (s6.trans (s7.trans sp)) (by rw[if_neg ∅,if_neg ∅];exact sp _ _ LF)⟩
    rintro H6 t' s6 Fn;change tSeq _ _ _ _ _;refine aU (λN=>∀H7 dl ds,aF H6 H7->H6 dl=none->dF H6 H7 (.lst (List.map BF ds)) (.ref dl)->ds.length<=3->(∀d∈ds,fZ cs d/\Di d)->N [some (.int c),some (.ref cl),some (.str fC),some (.ref gl),some (.int (s:Int)),some (.ref pl),some (.int lo),some (.int hi),some (.int cut),some (.ref rl),some (.int (i:Int)),some (.ref t'),some (.ref dl),none] H7) ?_ (λN hN=>?_)
    case refine_2=>
     dsimp?[yS];exact⟨bJ (by lia) (by lia),cs,rc.mono (Ie.trans (s4.trans s6)),c3,w5,LA,cw,λdl H7 ds s7 n7 r7 l7 g7=>hN _ dl ds s7 n7 r7 l7 g7⟩
    rintro H7 dl ds s7 Zb HL ld gd;have TY:=Ie.trans (s4.trans (s6.trans s7));have Pq:=s6.trans s7;symm;obtain⟨go,RN,RO⟩:=ga (c+8+ (i:Int));nofun;dsimp?[bP,eQ];refine⟨.inl ⟨rfl,_,bL.of (Pq _ _ hx)⟩,_,s7 _ _ Fn,_,at0,_,s7 _ _ Fn,_,at1,_,TY _ _ Ic,by rw[ZA];lia,_,TY _ _ Ic,.str go,by rw[ZA];exact RO,by lia,λp H8 s8 np ep=>⟨xs,(Pq.trans s8) _ _ hx,by lia,cM (s4.trans (Pq.trans s8)) FI,rs++ [(if i=0 then max 0 (lo - 1) else cut+1,if i=0 then cut else hi+2,ds,go)],_,aj,by rw[ZJ,lr];rfl,?_,?_,_,rfl⟩⟩
    ·intro j r ej
     by_cases z:j<rs.length
     ·rw[aaA z] at ej;exact ok j r ej
     ·rw[aav (by lia)] at ej;have z2:j - rs.length=0:=by
       cases h:j - rs.length with
       | zero=>rfl
       | succ n=>rw[h] at ej;simp at ej
      rw[z2] at ej;cases ej;have z3:j=i:=by lia
      subst z3;exact⟨rfl,rfl,ld,gd,RN⟩
    ·show bo (iy _ (upd _ _ _)) _ _;rw[je (ys:=[]) aj,ZG,ZG];have li:dO (upd H rl (.lst [])) H6:=λb ys e=>by
      by_cases z:b=rl
      ·subst z;exact⟨_,s6 _ _ hx⟩
      ·rw[aw z] at e;exact⟨_,(Ie.trans (s4.trans s6)) _ _ e⟩
     exact qM (Lp (li.trans (s7.trans s8)) ep dR dR ((HL.low li).mono s8) cc) (rx.mono (Pq.trans s8))
   ·intro σ H4 dA;symm;obtain⟨s4,rs,xs,hx,lr,ok,rx,nE,yU,xt,rfl⟩:=dA;nofun;have lr:rs.length=2:=lr;have xl:xs.length=2:=by have:=bo.length rx;rw[ZA,ZA] at this;lia
    match rs,lr,xs,xl with
    | [r0,r1],_,[x0,x1],_=>exact hN _ r0 r1 x0 x1 s4 hx (ok 0 r0 rfl) (ok 1 r1 rfl) rx _ _ _
  rintro H4 r0 r1 x0 x1 s4 hx Oc Od rx nE yU xt;have Ig:=Ie.trans s4;change tSeq _ _ _ _ _;refine aU (λN=>∀H5 t k,aF H4 H5->H5 t=some (.tup [.int k,.int 1])->-4<=k->k<=4->N [some (.int c),some (.ref cl),some (.str fC),some (.ref gl),some (.int (s:Int)),some (.ref pl),some (.int lo),some (.int hi),some (.int cut),some (.ref rl),nE,yU,xt,some (.ref t)] H5) ?_ (λN hN=>?_)
  case refine_2=>
   dsimp?[bP];have b0:=cB (c:=c+9) (m:=9) ∅;have b1:=cR (c:=c+9) (m:=9) ∅;exact⟨∅,by lia,λt H5 s5 nt et=>hN _ t _ s5 et (by lia) (by lia)⟩
  rintro H5 t k' s5 W1 k5 k6;change tSeq _ _ _ _ _;refine aU (λN=>∀H6 t py,aF H4 H6->H6 t=some (.tup (Pr py.1 py.2))->ng 20 py->N [some (.int c),some (.ref cl),some (.str fC),some (.ref gl),some (.int (s:Int)),some (.ref pl),some (.int lo),some (.int hi),some (.int cut),some (.ref rl),nE,yU,xt,some (.ref t)] H6) ?_ (λN hN=>?_)
  case refine_2=>
   dsimp?[bP];have b0:=cB (c:=c+9) (m:=9) ∅;have b1:=cR (c:=c+9) (m:=9) ∅;exact⟨∅,iS (λe=>⟨∅,bJ (by lia) (by lia),by lia,λp H6 s6 np ep=>hN _ p (2*bS (c+9) 9 - 7,2) (s5.trans s6) ep (HX _ (by lia) (by lia) (by lia))⟩) (λe=>hN _ t (k',1) s5 W1 (jN _ (by lia) (by lia)))⟩
  rintro H6 t2 py s6 W2 Fk;have Ih:=Ig.trans s6;have v0:=cB (c:=c+12) (m:=2) ∅;have v1:=cR (c:=c+12) (m:=2) ∅;have li:dO H H6:=.of Ih;have lr:dO H (upd H rl (.lst [])):=.of (aD FJ);have fin:∀(H9:Hp) (p q:Addr) (rs:List Tw) (xs:List V),aF H6 H9->H q=none->H9 q=some (.lst xs)->cZ H H9 ((rs.map Gk).map sh) xs->(rs=[r0,r1]\/rs=[r1,r0])->H9 p=some (.tup [.str "throw",.ref pl,.ref t2,.ref q])->Q (.ref p) H9:=λH9 p q rs xs s9 nq hq rq er ep=>by
   refine kk (.ref p) H9 (.dN (ps.map qc) py.1 py.2 rs) (Ih.trans s9) ?_ ?_ ?_
   ·exact Lp (li.trans s9) ep cc (Gp.mono (s4.trans (s6.trans s9))) (sS (li.trans s9) (s9 _ _ W2) (cy dR (cy dR gk))) (wR nq hq rq)
   ·have g:∀r∈rs,r=r0\/r=r1:=λr hr=>by rcases er with rfl | rfl <;>simp at hr <;>rcases hr with h | h <;>simp [h]
    refine⟨?_,?_,λr hr=>?_⟩
    ·rw[ZA];obtain⟨k,s,_,e | ⟨m,_,e⟩⟩:=ir RK <;>rw[e] <;>simp
    ·rcases er with rfl | rfl <;>simp
    ·rcases g r hr with rfl | rfl
     ·exact⟨by have:=Oc.2.2.1;lia,λd hd=>(Oc.2.2.2.1 d hd).1⟩
     ·exact⟨by have:=Od.2.2.1;lia,λd hd=>(Od.2.2.2.1 d hd).1⟩
   ·have g:∀r∈rs,r=r0\/r=r1:=λr hr=>by rcases er with rfl | rfl <;>simp at hr <;>rcases hr with h | h <;>simp [h]
    refine⟨ps,rfl,RK,Fk,λv hv=>?_,λr hr=>?_⟩
    ·obtain⟨w1,w2⟩:=RL v hv;refine⟨by lia,by lia,?_⟩;obtain⟨r,hr,W3,W4⟩:∃r∈rs,r.1<=v/\v<=r.2.1:=by
      have m0:r0∈rs:=by rcases er with rfl | rfl <;>simp
      have m1:r1∈rs:=by rcases er with rfl | rfl <;>simp
      symm;obtain⟨a1,a2,_⟩:=Oc;obtain⟨b1,b2,_⟩:=Od;nofun;rw[if_pos rfl] at a1 a2;rw[if_neg ∅] at b1 b2
      by_cases z:v<=cut
      ·exact⟨r0,m0,by lia,by lia⟩
      ·exact⟨r1,m1,by lia,by lia⟩
     cases h:yz rs v with
     | some r'=>exact⟨r',rfl⟩
     | none=>
      have:=List.find?_eq_none.mp h r hr;exact absurd (by simp [W3,W4]) this
    ·rcases g r hr with rfl | rfl
     ·exact⟨Oc.2.2.2.2,λd hd=>(Oc.2.2.2.1 d hd).2⟩
     ·exact⟨Od.2.2.2.2,λd hd=>(Od.2.2.2.1 d hd).2⟩
  dsimp?[bP,Kt];refine⟨[x0,x1],bL.of (s6 _ _ hx),λp np=>⟨by lia,λp1 Gr=>?_⟩⟩;have sa:=aD (o:=.lst [x0,x1].reverse) np;have sb:=aD (o:=.lst [V.ref rl,V.ref p]) Gr;have TZ:cZ H H6 (([r0,r1].map Gk).map sh) [x0,x1]:=(rx.mono s6).low lr;have o:bS (c+12) 2=0\/bS (c+12) 2=1:=by lia
  rcases o with o | o
  ·rw[o];exact⟨∅,_,aj,_,at0,by lia,λp2 H9 s9 RM ep=>fin H9 p2 rl [r0,r1] _ (sa.trans (sb.trans s9)) FJ ((sa.trans (sb.trans s9)) _ _ (s6 _ _ hx)) (TZ.mono (sa.trans (sb.trans s9))) (.inl rfl) ep⟩
  ·rw[o];refine⟨∅,_,aj,_,at1,by lia,λp2 H9 s9 RM ep=>fin H9 p2 p [r1,r0] _ (sa.trans (sb.trans s9)) (none_of Ih np) ((sb.trans s9) _ _ aj) ?_ (.inr rfl) ep⟩;symm;obtain⟨y0,q0,e0,h0,h1⟩:=aT.mp (show bo _ (sh (Gk r0)::[sh (Gk r1)]) [x0,x1] from TZ.mono (sa.trans (sb.trans s9)));obtain⟨y1,q1,e1,h1,h2⟩:=aT.mp h1;nofun;cases e0;cases e1;exact cy h1 (cy h0 gk)
theorem nF:aZ ["_law_cell_here","_law_counts","_law_clock","_law_goals","_law_words_here","_law_rows","_law_sure","_law_k","_law_when","_law_count","_law_deeds_here"] ["_law_cell_here","_law_counts","_law_clock","_law_goals"] (aq (top 53)):=⟨rfl,rfl,rfl,∅,rfl,∅,∅⟩
theorem LG (T:Txt K mg aB aH aI aV aE aL aW aM aA aN aX af av):cg P w K mg base (br P w) 3 "_law_pick" ["_law_cell_here","_law_counts","_law_clock","_law_goals"] vv:=by
 have aK:cg P w K mg base (br P w) 1 "_law_mixed" ["_law_cell_here","_law_many"] bP:=lQ T;have iA:cg P w K mg base (br P w) 2 "_law_deeds" ["_law_cell_here","_law_counts","_law_clock","_law_thrown"] yS:=FG T;have iB:cg P w K mg base (br P w) 2 "_law_words" ["_law_cell_here","_law_n"] yR:=FF T;refine T.yf.dJ (λ_ _ _ _ _ _=>uv λ_ _ _ _=>rfl) λf fd F=>F.eC nF (λvs H Q E h=>?_) (λcf A outer s H vs Q E hr h=>?_)
 ·obtain⟨_,_,_,_,_,_,rfl,_⟩:=h;rfl
 ·symm;obtain⟨c,cl,fC,gl,cs,gs,rfl,rc,c3,w5,LA,cw,Ic,g0,g3,kk⟩:=h;nofun;clear G_;have nd:=nF.nd;refine⟨_,(ah (aJ (i:=4) nd rfl (.inl rfl) (aO iB (hr.mono ∅) rfl au.pass (aa (aG aQ (pv 0) ae) (aa ae ag (se rfl)) (se rfl)) (he:=se rfl) (hpl:=na rfl)))
  (ah (aJ (i:=5) nd rfl (.inl rfl) (cb ag))
  (ah (aJ (i:=6) nd rfl (.inl rfl) (aO aK (hr.mono ∅) rfl au.pass (aa (aG aQ (pv 0) ae) (aa ae ag (se rfl)) (se rfl)) (he:=se rfl) (hpl:=na rfl)))
  (ah (cS PassesOwn.never rfl (cN rfl T.z_range (aa (aG aQ ae (a8 (jG rfl) (by rfl) T.z_max rfl (aa (pv 6) (aa (aO aK (hr.mono ∅) rfl au.pass (aa (aG aQ (pv 0) ae) (aa ae ag (se rfl)) (se rfl)) (he:=se rfl) (hpl:=na rfl)) ag (se rfl)) (se rfl)) (he:=se rfl) (hpl:=na rfl))) ag (se rfl))) (a9 (i:=7) nd rfl (.inl rfl)) (ah (aJ (i:=8) nd rfl (.inl rfl) qX)
  (ah (bw (PW.pt (pw_and (aP xF (pv 7) (pv 6) (a5 _)) (pw_and1 (aP kA (aO aK (hr.mono ∅) rfl au.pass (aa (aG aQ (pv 0) (aG bq ae (pv 7))) (aa ae ag (se rfl)) (se rfl)) (he:=se rfl) (hpl:=na rfl)) ae (a5 _))))) (ah (aJ (i:=9) nd rfl (.inl rfl) (ar ai (ar a4 (pv 1) (aO aK (hr.mono ∅) rfl au.pass (aa (aG aQ (aG aQ (pv 0) (aG bq ae (pv 7))) ae) (aa (a8 bO (by rfl) T.z_len ZT (aa (pv 1) ag (se rfl)) (he:=se rfl) (hpl:=na rfl)) ag (se rfl)) (se rfl)) (he:=se rfl) (hpl:=na rfl)) (λ_ _=>rfl)) ae (λ_ _=>rfl)))
  (ao (aJ (i:=8) nd rfl (.inl rfl) (bf (aa (pv 9) (aa (ar a4 (cb (aa a7 (aa a7 ag (se rfl)) (se rfl))) (aO aK (hr.mono ∅) rfl au.pass (aa (aG aQ (aG aQ (pv 0) (aG bq ae (pv 7))) ae) (aa ae ag (se rfl)) (se rfl)) (he:=se rfl) (hpl:=na rfl)) (λ_ _=>rfl)) (aa (aO aK (hr.mono ∅) rfl au.pass (aa (aG aQ (aG aQ (pv 0) (aG bq ae (pv 7))) ae) (aa ae ag (se rfl)) (se rfl)) (he:=se rfl) (hpl:=na rfl)) ag (se rfl)) (se rfl)) (se rfl))))))
   ba)
  (ah (aJ (i:=10) nd rfl (.inl rfl) (aO iA (hr.mono ∅) rfl au.pass (aa (aG aQ (pv 0) (aG bq ae (pv 7))) (aa (pv 1) (aa (pv 2) (aa ky ag (se rfl)) (se rfl)) (se rfl)) (se rfl)) (he:=se rfl) (hpl:=na rfl)))
  (ao (b6 (fi Z5 aar aas dG.r (pv 5) (aa (bf (aa (ar a4 (pv 4) (pv 7) (λ_ _=>rfl)) (aa (pv 8) (aa (pv 10) (aa (ar a4 (pv 3) (aO aK (hr.mono ∅) rfl au.pass (aa (aG aQ (aG aQ (pv 0) (aG bq ae (pv 7))) ae) (aa (a8 bO (by rfl) T.z_len ZT (aa (pv 3) ag (se rfl)) (he:=se rfl) (hpl:=na rfl)) ag (se rfl)) (se rfl)) (he:=se rfl) (hpl:=na rfl)) (λ_ _=>rfl)) ag (se rfl)) (se rfl)) (se rfl)) (se rfl))) ag (se rfl)))))))))
  (ao (aY (bf (aa a7 (aa (aG aQ ae (aO aK (hr.mono ∅) rfl au.pass (aa (aG aQ (pv 0) ae) (aa ae ag (se rfl)) (se rfl)) (he:=se rfl) (hpl:=na rfl))) (aa (pv 5) ag (se rfl)) (se rfl)) (se rfl))))))))),?_⟩
  refine(?_:let bY:TS:=_;let bZ:TS:=_;let b5:TS:=_;let cY:TS:=_;let pP:TS:=_;tSeq bY (tSeq bZ (tSeq b5 (tSeq cY pP))) _ _ _);intro bY bZ b5 cY pP;have sl:=sizeLine_eq;symm;obtain⟨zj,yG,e0,fX,tZ⟩:=bh.mp (show Rep H (.lst _) (.ref cl) from rc);nofun;clear G_;cases e0;have len:=tZ.length;rw[ZA] at len;have c0:0<cs.length:=by
   cases cs with
   | nil=>simp at w5
   | cons a b=>exact Nat.zero_lt_succ _
  have ga:∀c,∃g,g∈gs/\iX (List.map V.str gs) (bS c (gs.length:Int))=some (.str g):=λc=>by
   have b0:=cB (c:=c) (m:=(gs.length:Int)) (by lia);have b1:=cR (c:=c) (m:=(gs.length:Int)) (by lia);generalize bS c (gs.length:Int)=b at *;obtain⟨k,rfl⟩:∃k:Nat,b=(k:Int):=⟨b.toNat,by lia⟩
   have hk:k<gs.length:=by lia
   exact⟨gs[k],ZY hk,bT (by rw[ZE,ZH hk];rfl)⟩
  have ca:∀c,∃q x,x∈cs/\iX yG (bS c (yG.length:Int))=some (.ref q)/\H q=some (.tup [.str x.1,.int x.2]):=λc=>by
   have b0:=cB (c:=c) (m:=(yG.length:Int)) (by lia);have b1:=cR (c:=c) (m:=(yG.length:Int)) (by lia);generalize bS c (yG.length:Int)=b at *;obtain⟨k,rfl⟩:∃k:Nat,b=(k:Int):=⟨b.toNat,by lia⟩
   have hk:k<cs.length:=by lia
   obtain⟨v,ev,rv⟩:=tZ.at (i:=k) (by rw[ZE,ZH hk];rfl);symm;obtain⟨q,a,b,rfl,hq,r1,r2⟩:=bN.mp (show Rep H (.tup _) v from rv);nofun;rw[aR.mp r1,bF.mp r2] at hq;exact⟨q,cs[k],ZY hk,bT ev,hq⟩
  change tSeq _ _ _ _ _;refine aU (λN=>∀H1 wl ws,aF H H1->H1 wl=some (.lst (List.map V.str ws))->ws.length=4->ws.Nodup->(∀w∈ws,Fp w)->(∃z,∀w∈ws,w.length=z)->N [some (.int c),some (.ref cl),some (.str fC),some (.ref gl),some (.ref wl),none,none,none,none,none,none] H1) ?_ (λN hN=>?_)
  case refine_2=>
   dsimp?[yR];exact⟨∅,∅,λl H1 ws s1 nl hl l4 Ii Oe wz=>hN _ l ws s1 hl l4 Ii Oe wz⟩
  rintro H1 wl ws s1 M4 w4 Ii Oe wz;change tSeq _ _ _ _ _;refine aU (λN=>∀H2 rl,aF H1 H2->H1 rl=none->H2 rl=some (.lst [])->N [some (.int c),some (.ref cl),some (.str fC),some (.ref gl),some (.ref wl),some (.ref rl),none,none,none,none,none] H2) ?_ (λN hN=>?_)
  case refine_2=>
   dsimp?[];exact⟨ZM _,λrl FI=>hN _ rl (aD FI) FI aj⟩
  rintro H2 rl s2 FI qL;have FJ:H rl=none:=none_of s1 FI;change tSeq _ _ _ _ _;refine aU (λN=>∀su:Int,0<=su->su<3->N [some (.int c),some (.ref cl),some (.str fC),some (.ref gl),some (.ref wl),some (.ref rl),some (.int su),none,none,none,none] H2) ?_ (λN hN=>?_)
  case refine_2=>
   dsimp?[bP];exact⟨∅,hN _ (cB ∅) (cR ∅)⟩
  rintro su Zc Zd;let Mr:Rw->Prop:=λr=>HY cs r.wh/\r.to∈gs/\r.ds.length<=3/\∀d∈r.ds,fZ cs d/\Di d;change tSeq _ _ _ _ _;refine aU (λN=>∀(H3:Hp) (rs:List Rw) (xs:List V) (m:Nat),aF H1 H3->H3 rl=some (.lst xs)->m<=4->rs.map (·.word)=ws.take m->(∀r∈rs,Mr r)->(∃r∈rs,r.wh=none)->cZ (upd H rl (.lst [])) H3 ((rs.map HD).map sh) xs->∀z7 z8 z9 nE,N [some (.int c),some (.ref cl),some (.str fC),some (.ref gl),some (.ref wl),some (.ref rl),some (.int su),z7,z8,z9,nE] H3) ?_ (λN hN=>?_)
  case refine_2=>
   have b0:=cB (c:=c+2) (m:=4) (by decide);have b1:=cR (c:=c+2) (m:=4) (by decide);dsimp?[bP];obtain⟨m,em⟩:∃m:Nat,(1+if bS (c+2) 4 >su then bS (c+2) 4 else su)=(m:Int):=⟨(1+if bS (c+2) 4 >su then bS (c+2) 4 else su).toNat,by split <;>lia⟩
   have m4:m<=4:=by split at em <;>lia
   have W5:su< (m:Int):=by split at em <;>lia
   rw[em];refine⟨∅,by lia,by lia,?_⟩;rw[ZX];refine cu (src_range (Ok:=λ_=>True)) (λi σ H3=>aF H1 H3/\∃(rs:List Rw) (xs:List V),H3 rl=some (.lst xs)/\rs.map (·.word)=ws.take i/\(∀r∈rs,Mr r)/\(su< (i:Int)->∃r∈rs,r.wh=none)/\cZ (upd H rl (.lst [])) H3 ((rs.map HD).map sh) xs/\∃z7 z8 z9 nE,σ=[some (.int c),some (.ref cl),some (.str fC),some (.ref gl),some (.ref wl),some (.ref rl),some (.int su),z7,z8,z9,nE]) ⟨s2,[],[],qL,rfl,(λr hr=>by cases hr),(λz=>absurd z (by lia)),gk,_,_,_,_,rfl⟩ (λ_ _ _ _ _=>trivial) ?_ ?_
   ·intro i x σ H3 H4 hi gN gO;symm;obtain⟨s3,rs,xs,hx,ew,ok,sure,rx,z7,z8,z9,nE,rfl⟩:=gN;obtain⟨rfl,rfl⟩:=gO;nofun;have nu:=s1.trans s3;have xl:xs.length=i:=by
     have h1:=bo.length rx;have h2:=congrArg List.length ew;rw[ZA,ZA] at h1;rw[ZA,ZV] at h2;lia
    have T3:i<ws.length:=by lia
    simp only[gName,Z4,Z3,aal];change tSeq _ _ _ _ _;refine aU (λN=>N [some (.int c),some (.ref cl),some (.str fC),some (.ref gl),some (.ref wl),some (.ref rl),some (.int su),some (.int (i:Int)),some .cW,z9,nE] H4) ?_ (λN hN=>?_)
    case refine_2=>
     dsimp?[];exact hN
    have LC:dO (upd H rl (.lst [])) H4:=λb ys e=>by
     by_cases z:b=rl
     ·subst z;exact⟨_,hx⟩
     ·rw[aw z] at e;exact⟨_,nu _ _ e⟩
    change tSeq _ _ _ _ _;refine aU (λN=>∀H5 v wh,aF H4 H5->dF (upd H rl (.lst [])) H5 (KW wh) v->HY cs wh->((i:Int)=su->wh=none)->∀z9,N [some (.int c),some (.ref cl),some (.str fC),some (.ref gl),some (.ref wl),some (.ref rl),some (.int su),some (.int (i:Int)),some v,z9,nE] H5) ?_ (λN hN=>?_)
    case refine_2=>
     have FK:=hN H4 .cW none (aF.refl _) Lo trivial (λ_=>rfl);symm;obtain⟨q,x,W6,W7,hq⟩:=ca (c+50* (i:Int)+1);nofun;have f0:=cB (c:=c+50* (i:Int)+2) (m:=2) ∅;have f1:=cR (c:=c+50* (i:Int)+2) (m:=2) ∅
     by_cases z1:(i:Int)=su
     ·refine dq (λY N k=>by dsimp?[bP];rw[if_neg (λz=>z z1),if_neg ∅];exact k) ?_;dsimp?[];exact FK _
     by_cases z2:0<bS (c+50* (i:Int)) 3
     ·refine dE (λY N k=>by dsimp?[bP];rw[if_pos z1];exact⟨bJ (by lia) (by lia),∅,by rw[if_pos z2];exact k⟩) ?_;obtain⟨fb,W8,W9⟩:∃w,iX [V.str "from",V.str "below"] (bS (c+50* (i:Int)+2) 2)=some (.str w)/\(w=Zz "from"\/w=Zz "below"):=by
       have o:bS (c+50* (i:Int)+2) 2=0\/bS (c+50* (i:Int)+2) 2=1:=by lia
       rcases o with o | o
       ·rw[o];exact⟨_,rfl,.inl rfl⟩
       ·rw[o];exact⟨_,rfl,.inr rfl⟩
      dsimp?[bP];refine⟨bJ (by lia) (by lia),_,nu _ _ fX,by lia,_,nu _ _ fX,_,W7,_,rfl,_,nu _ _ hq,_,at0,by lia,λp np=>⟨bJ (by lia) (by lia),∅,_,aj,_,W8,bJ (by lia) (by lia),∅,by lia,λp1 H5 s5 Gr LF=>?_⟩⟩;have Ib:=(aD np).trans s5;exact hN H5 (.ref p1) (some (x.1,fb,bS (c+50* (i:Int)+3) 4)) Ib (AJ (LC.trans Ib) LF cc cc dR) ⟨aaJ.mpr ⟨x,W6,rfl⟩,W9⟩ (λz=>absurd z z1) _
     ·refine dq (λY N k=>by dsimp?[bP];rw[if_pos z1];exact⟨bJ (by lia) (by lia),∅,by rw[if_neg z2];exact k⟩) ?_;dsimp?[];exact FK _
    rintro H5 v wh s5 RP Xa Xb z9;change tSeq _ _ _ _ _;refine aU (λN=>∀H6 dl ds,aF H5 H6->dF H5 H6 (.lst (List.map BF ds)) (.ref dl)->ds.length<=3->(∀d∈ds,fZ cs d/\Di d)->N [some (.int c),some (.ref cl),some (.str fC),some (.ref gl),some (.ref wl),some (.ref rl),some (.int su),some (.int (i:Int)),some v,z9,some (.ref dl)] H6) ?_ (λN hN=>?_)
    case refine_2=>
     dsimp?[yS];exact⟨bJ (by lia) (by lia),cs,rc.mono (nu.trans s5),c3,w5,LA,cw,λdl H6 ds s6 n6 r6 l6 g6=>hN _ dl ds s6 r6 l6 g6⟩
    rintro H6 dl ds s6 HL ld gd;have LH:=s5.trans s6;have Ih:=nu.trans LH;symm;obtain⟨go,RN,RO⟩:=ga (c+50* (i:Int)+4);nofun;dsimp?[bP,eQ];refine⟨.inl ⟨rfl,_,bL.of (LH _ _ hx)⟩,_,(s3.trans LH) _ _ M4,.str ws[i],bT (by rw[ZE,ZH T3];rfl),bJ (by lia) (by lia),_,Ih _ _ Ic,by rw[ZA];lia,_,Ih _ _ Ic,.str go,by rw[ZA];exact RO,by lia,λp H8 s8 np ep=>⟨xs,(LH.trans s8) _ _ hx,by lia,cM (s3.trans (LH.trans s8)) FI,rs++ [⟨ws[i],wh,ds,go⟩],_,aj,?_,λr hr=>?_,λz=>?_,?_,_,rfl⟩⟩
    ·rw[ZG,ew,take_snoc T3];rfl
    ·rcases List.mem_append.mp hr with hr | hr
     ·exact ok r hr
     ·rw[aaK.mp hr];exact⟨Xa,RN,ld,gd⟩
    ·by_cases y:(i:Int)=su
     ·exact⟨_,Z0 _ ZL,Xb y⟩
     ·symm;obtain⟨r,hr,e⟩:=sure (by lia);nofun;exact⟨r,aat _ hr,e⟩
    ·show bo (iy _ (upd _ _ _)) _ _;rw[je (ys:=[]) aj,ZG,ZG];exact qM (Lp (LC.trans (LH.trans s8)) ep cc (RP.mono (s6.trans s8)) ((HL.low (LC.trans s5)).mono s8) cc) (rx.mono (LH.trans s8))
   ·intro σ H3 dA;symm;obtain⟨s3,rs,xs,hx,ew,ok,sure,rx,z7,z8,z9,nE,rfl⟩:=dA;nofun;exact hN _ rs xs m s3 hx m4 ew ok (sure W5) rx _ _ _ _
  rintro H3 rs xs m s3 hx m4 ew ok sure rx z7 z8 z9 nE;obtain⟨wz,Xc⟩:=wz;have Of:∀r∈rs,r.word∈ws:=λr hr=>by
   have:r.word∈rs.map (·.word):=aaJ.mpr ⟨r,hr,rfl⟩;rw[ew] at this;exact List.mem_of_mem_take this
  have nu:=s1.trans s3;have xl:xs.length=rs.length:=by have:=bo.length rx;rw[ZA,ZA] at this;lia
  have Xd:rs.length<=4:=by have:=congrArg List.length ew;rw[ZA,ZV] at this;lia
  dsimp?[bP];exact⟨∅,by lia,λp H4 s4 np ep=>kk (.ref p) H4 (.pick (1+bS (c+4) 2) rs) (nu.trans s4) (AJ (.of (nu.trans s4)) ep cc dR (wR FJ (s4 _ _ hx) ((rx.mono s4).low (.of (aD FJ))))) ⟨by lia,λr hr=>⟨by have:=(ok r hr).2.2.1;lia,λd hd=>((ok r hr).2.2.2 d hd).1⟩⟩ ⟨⟨Xd,⟨wz,λr hr=>Xc _ (Of r hr)⟩,sure⟩,by rw[ew];exact Ii.sublist (List.take_sublist _ _),λr hr=>⟨Oe _ (Of r hr),(ok r hr).1,(ok r hr).2.1,λd hd=>((ok r hr).2.2.2 d hd).2⟩⟩⟩
theorem nG:aZ ["_law_script","_law_at","_law_turns","_law_most","_law_cell_here","_law_names","_law_acts","_law_clock","_law_counts","_law_asks","_law_places","_law_k","_law_inner","_law_what_here","_law_final"] ["_law_script","_law_at","_law_turns","_law_most"] (aq (top 54)):=⟨rfl,rfl,rfl,∅,rfl,∅,∅⟩
noncomputable def dB (ns:List Str) (i:Nat):Str:=ns.getD i default
theorem C4 {ns:List Str} (h:ns.length=12) {a:Nat} (h1:1<=a) (h3:a<=3):DC (List.map V.str ns) (some 3) (some (3+ (a:Int)))=((List.range a).map λk=>dB ns (3+k)).map V.str:=by
 match ns,h with
 | [n0,n1,n2,n3,n4,n5,n6,n7,n8,n9,Ze,Zf],_=>
  have:a=1\/a=2\/a=3:=by lia
  rcases this with rfl | rfl | rfl <;>rfl
theorem FL {ns:List Str} {i:Nat} (h:i<ns.length):dB ns i∈ns:=by
 unfold dB;rw[aai,ZH h];exact ZY h
theorem Jr {ns:List Str} (nd:ns.Nodup) {I:List Nat} (hI:I.Nodup) (hl:∀i∈I,i<ns.length):(I.map (dB ns)).Nodup:=by
 unfold List.Nodup;rw[List.pairwise_map];refine List.Pairwise.imp_of_mem ?_ hI;intro i j hi hj ne e;have h1:=hl i hi;have h2:=hl j hj;unfold dB at e;rw[aai,aai,ZH h1,ZH h2] at e;exact ne ((List.getElem_inj nd).mp e)
noncomputable def gP (ns:List Str) (a:Nat) (tu:Int):List (Str×Wt):=(List.range a).map λk=>(dB ns (3+k),Wt.ask (dB ns 0) tu (dB ns 11) (dB ns (6+k)))
noncomputable def fh (ns:List Str) (W:List Wt):List (Str×Wt):=W.mapIdx λk x=>(dB ns (6+k),x)
theorem FN {ns:List Str} {W:List Wt} {x:Wt}:fh ns (W++ [x])=fh ns W++ [(dB ns (6+W.length),x)]:=by
 unfold fh;rw[List.mapIdx_concat]
theorem qQ {n:Str} {x:Wt}:∀{ps:List (Str×Wt)},(ps.map (·.1)).Nodup->(n,x)∈ps->look ps n=some x
 | [],_,h=>by cases h
 | p::ps,nd,h=>by
  rw[ZC,List.nodup_cons] at nd;unfold look;rcases aaj.mp h with e | e
  ·rw[<-e,List.find?_cons_of_pos (by simp)];rfl
  ·have:p.1≠n:=λz=>nd.1 (by rw[z];exact aaJ.mpr ⟨_,e,rfl⟩);rw[List.find?_cons_of_neg (by simpa using this)];exact qQ nd.2 e
theorem C5 {ns:List Str}:∀W:List Wt,(fh ns W).map (·.1)=((List.range W.length).map (6+·)).map (dB ns):=λW=>by
 unfold fh;refine List.ext_getElem (by simp) λi h1 h2=>by simp
theorem LI {ns:List Str} {a:Nat} {tu:Int} {cs:List (Str×Int)} {W:List Wt} {fw:Wt} (h:ns.length=12) (nd:ns.Nodup) (Ms:∀w∈ns,Fp w) (a1:1<=a) (a3:a<=3) (lW:W.length=a) (c3:cs.length<=3) (w5:dB ns 0∈cs.map (·.1)) (LA:(cs.map (·.1)).Nodup) (cm:∀x∈cs,0<=x.2/\x.2<=1000)
  (Js:∀x∈W,mX cs x/\jV cs ((List.range a).map λk=>dB ns (3+k)) x) (gf:mX cs fw) (wf:jV cs ((List.range a).map λk=>dB ns (3+k)) fw):N8 ⟨cs,gP ns a tu++fh ns W++ [(dB ns 11,fw)]⟩ ((List.range a).map λk=>dB ns (3+k)):=by
 have en:(gP ns a tu++fh ns W++ [(dB ns 11,fw)]).map (·.1)=((List.range a).map (3+·)++ (List.range a).map (6+·)++ [11]).map (dB ns):=by
  rw[ZG,ZG,C5,lW,ZG,ZG];unfold gP;rw[Z1,Z1,Z1];rfl
 have LJ:((List.range a).map (3+·)++ (List.range a).map (6+·)++ [11]).Nodup/\∀i∈((List.range a).map (3+·)++ (List.range a).map (6+·)++ [11]),i<12:=by
  have:a=1\/a=2\/a=3:=by lia
  rcases this with rfl | rfl | rfl <;>decide
 have np:((gP ns a tu++fh ns W++ [(dB ns 11,fw)]).map (·.1)).Nodup:=by rw[en];exact Jr nd LJ.1 (by rw[h];exact LJ.2)
 have lf:look (gP ns a tu++fh ns W++ [(dB ns 11,fw)]) (dB ns 11)=some fw:=qQ np (by simp);have la:∀k x,W[k]?=some x->look (gP ns a tu++fh ns W++ [(dB ns 11,fw)]) (dB ns (6+k))=some x:=λk x e=>qQ np (by
  refine aat _ (Z0 _ ?_);unfold fh;rw[List.mem_mapIdx];obtain⟨h1,h2⟩:=aaI.mp e;exact⟨k,h1,by rw[h2]⟩)
 have na:∀{x},jV cs ((List.range a).map λk=>dB ns (3+k)) x->∀(g:Gm) n Dc f,look g.ps n=some x->dW g Dc (f+1) n=some n:=λ{x} wx g n Dc f lk=>by
  unfold dW;rw[lk];cases x with
  | ask c k a b=>exact wx.elim
  | fin t b=>rfl
  | score c=>rfl
  | pick w rs=>rfl
  | dN p t b rs=>rfl
 refine⟨⟨LA,np,by show cs.length<=100;lia,?_,?_,λp hp=>?_⟩,cm,λp hp=>?_,?_,λnm Xe Dc=>?_⟩
 ·show(gP ns a tu++fh ns W++ [(dB ns 11,fw)]).length<=100;unfold gP fh;rw[ZJ,ZJ,ZA,Z9,List.length_mapIdx,aao];lia
 ·show 0< (gP ns a tu++fh ns W++ [(dB ns 11,fw)]).length;rw[ZJ,aao];lia
 ·rcases List.mem_append.mp hp with hp | hp
  ·rcases List.mem_append.mp hp with hp | hp
   ·obtain⟨k,_,rfl⟩:=aaJ.mp hp;exact w5
   ·unfold fh at hp;rw[List.mem_mapIdx] at hp;obtain⟨k,hk,rfl⟩:=hp;exact(Js _ (ZY hk)).1
  ·rw[aaK.mp hp];exact gf
 ·have:p.1∈(gP ns a tu++fh ns W++ [(dB ns 11,fw)]).map (·.1):=aaJ.mpr ⟨p,hp,rfl⟩;rw[en] at this;obtain⟨i,hi,e⟩:=aaJ.mp this;rw[<-e];exact Ms _ (FL (by rw[h];exact LJ.2 i hi))
 ·refine⟨dB ns 3,aaJ.mpr ⟨0,List.mem_range.mpr (by lia),rfl⟩,?_⟩;show((gP ns a tu++fh ns W++ [(dB ns 11,fw)]).map (·.1)).head?=some (dB ns 3);rw[en];have:a=1\/a=2\/a=3:=by lia
  rcases this with rfl | rfl | rfl <;>rfl
 ·obtain⟨k,hk,rfl⟩:=aaJ.mp Xe;have hk:=List.mem_range.mp hk;have lk:look (gP ns a tu++fh ns W++ [(dB ns 11,fw)]) (dB ns (3+k))=some (.ask (dB ns 0) tu (dB ns 11) (dB ns (6+k))):=qQ np (aat _ (aat _ (aaJ.mpr ⟨k,List.mem_range.mpr hk,rfl⟩)));have T4:k<W.length:=by lia
  have lw:=la k _ (ZH T4);have ww:=(Js _ (ZY T4)).2
  by_cases z:tu<=Dc.getD (bK cs (dB ns 0)) 0
  ·refine⟨dB ns 11,fw,?_,lf,wf⟩;unfold dW;rw[lk];show(if tu<=Dc.getD (bK cs (dB ns 0)) 0 then _ else _)=_;rw[if_pos z];exact na wf _ _ _ 1 lf
  ·refine⟨dB ns (6+k),_,?_,lw,ww⟩;unfold dW;rw[lk];show(if tu<=Dc.getD (bK cs (dB ns 0)) 0 then _ else _)=_;rw[if_neg z];exact na ww _ _ _ 1 lw
theorem Og {ns:List Str} {m j:Nat} {c mo tu:Int} {cs:List (Str×Int)} (h:ns.length=12) (nd:ns.Nodup) (Ms:∀w∈ns,Fp w) (hm:m<=2) (hj:j<=m) (RA:1<=mo) (T5:mo<=100) (T6:1<=tu) (T7:tu<=100)
  (e:cs=((List.range m).map λk:Nat=>((dB ns (1+k),1+bS (c+7+ (k:Int)) mo):Str×Int)).take j++ (dB ns 0,tu)::((List.range m).map λk:Nat=>((dB ns (1+k),1+bS (c+7+ (k:Int)) mo):Str×Int)).drop j):
  cs.length<=3/\dB ns 0∈cs.map (·.1)/\(cs.map (·.1)).Nodup/\(∀x∈cs,Fp x.1)/\∀x∈cs,0<=x.2/\x.2<=1000:=by
 have ei:cs.map (·.1)=(((List.range m).map (1+·)).take j++0::((List.range m).map (1+·)).drop j).map (dB ns):=by
  rw[e,ZG,ZC,ZG,ZC,List.map_take,List.map_take,List.map_drop,List.map_drop,Z1,Z1];rfl
 have LJ:(((List.range m).map (1+·)).take j++0::((List.range m).map (1+·)).drop j).Nodup/\∀i∈(((List.range m).map (1+·)).take j++0::((List.range m).map (1+·)).drop j),i<12:=by
  have O1:m=0\/m=1\/m=2:=by lia
  have Xf:j=0\/j=1\/j=2:=by lia
  rcases O1 with rfl | rfl | rfl <;>rcases Xf with rfl | rfl | rfl <;>decide
 refine⟨?_,?_,by rw[ei];exact Jr nd LJ.1 (by rw[h];exact LJ.2),λx hx=>?_,λx hx=>?_⟩
 ·rw[e,ZJ,ZP,ZV,List.length_drop,ZA,Z9];lia
 ·rw[ei];exact aaJ.mpr ⟨0,by simp,rfl⟩
 ·have:x.1∈cs.map (·.1):=aaJ.mpr ⟨x,hx,rfl⟩;rw[ei] at this;obtain⟨i,hi,ex⟩:=aaJ.mp this;rw[<-ex];exact Ms _ (FL (by rw[h];exact LJ.2 i hi))
 ·rw[e] at hx;have g:∀x∈((List.range m).map λk:Nat=>((dB ns (1+k),1+bS (c+7+ (k:Int)) mo):Str×Int)),0<=x.2/\x.2<=1000:=λx hx=>by
   obtain⟨k,_,rfl⟩:=aaJ.mp hx;have b0:=cB (c:=c+7+ (k:Int)) (m:=mo) (by lia);have b1:=cR (c:=c+7+ (k:Int)) (m:=mo) (by lia);show 0<=1+bS _ _/\1+bS _ _<=1000;lia
  rcases List.mem_append.mp hx with hx | hx
  ·exact g x (List.mem_of_mem_take hx)
  ·rcases aaj.mp hx with rfl | hx
   ·show 0<=tu/\tu<=1000;lia
   ·exact g x (List.mem_of_mem_drop hx)
theorem LK (T:Txt K mg aB aH aI aV aE aL aW aM aA aN aX af av):cg P w K mg base (br P w) 4 "_law_game" ["_law_script","_law_at","_law_turns","_law_most"] (Fw K):=by
 have aK:cg P w K mg base (br P w) 1 "_law_mixed" ["_law_cell_here","_law_many"] bP:=lQ T;have eY:cg P w K mg base (br P w) 1 "_law_cell" ["_law_script","_law_k"] (Lq K):=BX T;have iB:cg P w K mg base (br P w) 2 "_law_words" ["_law_cell_here","_law_n"] yR:=FF T;have w6:cg P w K mg base (br P w) 3 "_law_throw" ["_law_cell_here","_law_counts","_law_clock","_law_goals"] vv:=LD T;have yV:cg P w K mg base (br P w) 3 "_law_pick" ["_law_cell_here","_law_counts","_law_clock","_law_goals"] vv:=LG T;refine T.yg.dJ (λ_ _ _ _ _ _=>uv λ_ _ _ _=>rfl) λf fd F=>F.eC nG (λvs H Q E h=>?_) (λcf A outer s H vs Q E hr h=>?_)
 ·obtain⟨_,_,_,_,_,rfl,_⟩:=h;rfl
 ·symm;obtain⟨sc,Mt,at_,tu,mo,rfl,hS,Xg,Oh,T6,T7,RA,T5,kk⟩:=h;nofun;clear G_;have nd:=nG.nd;refine⟨_,(ah (aJ (i:=4) nd rfl (.inr rfl) (aO eY (hr.mono ∅) rfl au.pass (aa (pv 0) (aa (pv 1) ag (se rfl)) (se rfl)) (he:=se rfl) (hpl:=na rfl)))
  (ah (aJ (i:=5) nd rfl (.inr rfl) (aO iB (hr.mono ∅) rfl au.pass (aa (pv 4) (aa ae ag (se rfl)) (se rfl)) (he:=se rfl) (hpl:=na rfl)))
  (ah (aJ (i:=6) nd rfl (.inl rfl) (aG aQ ae (aO aK (hr.mono ∅) rfl au.pass (aa (aG aQ (pv 4) ae) (aa ae ag (se rfl)) (se rfl)) (he:=se rfl) (hpl:=na rfl))))
  (ah (aJ (i:=7) nd rfl (.inr rfl) (ar a4 (pv 5) ae (λ_ _=>rfl)))
  (ah (jI (i:=8) rfl nd rfl rfl (N:=["_law_script","_law_at","_law_turns","_law_most","_law_cell_here","_law_names","_law_acts","_law_clock","_law_counts","_law_asks","_law_places","_law_k","_law_inner","_law_what_here","_law_final"]) (so:=aq (top 54)) (N':=["_law_k","_law_most","_law_cell_here","_law_names"]) (k:=1) (fr:=[3,4,5]) rfl rfl ⟨rfl,∅,∅,∅,rfl,∅,∅⟩ (cN rfl T.z_range (aa (aO aK (hr.mono ∅) rfl au.pass (aa (aG aQ (pv 4) ae) (aa ae ag (se rfl)) (se rfl)) (he:=se rfl) (hpl:=na rfl)) ag (se rfl))) (λ_ _ _ _ _=>(a9 (i:=0) (show(["_law_k","_law_most","_law_cell_here","_law_names"]:List Str).Nodup by decide +kernel) rfl (.inl rfl))) (λ_ _ _ _ _=>dH)
   (λ_ _ _ _ _=>(bf (aa (ar a4 (pv 3) (aG aQ ae (pv 0)) (λ_ _=>rfl)) (aa (aG aQ ae (aO aK (hr.mono ∅) rfl au.pass (aa (aG aQ (aG aQ (pv 2) ae) (pv 0)) (aa (pv 1) ag (se rfl)) (se rfl)) (he:=se rfl) (hpl:=na rfl))) ag (se rfl)) (se rfl)))))
  (ah (b6 (fi Z5 PySem.F.slot_list_insert PySem.F.type_list_insert vg.r (pv 8) (aa (aO aK (hr.mono ∅) rfl au.pass (aa (aG aQ (pv 4) ae) (aa (aG aQ (a8 bO (by rfl) T.z_len ZT (aa (pv 8) ag (se rfl)) (he:=se rfl) (hpl:=na rfl)) ae) ag (se rfl)) (se rfl)) (he:=se rfl) (hpl:=na rfl)) (aa (bf (aa (pv 7) (aa (pv 2) ag (se rfl)) (se rfl))) ag (se rfl)) (se rfl))))
  (ah (aJ (i:=9) nd rfl (.inr rfl) (mE (rF (K:=K)) (pv 5) (mD ae) (mD (aG aQ ae (pv 6)))))
  (ah (jI (i:=10) rfl nd rfl rfl (N:=["_law_script","_law_at","_law_turns","_law_most","_law_cell_here","_law_names","_law_acts","_law_clock","_law_counts","_law_asks","_law_places","_law_k","_law_inner","_law_what_here","_law_final"]) (so:=aq (top 54)) (N':=["_law_k","_law_turns","_law_names","_law_clock","_law_asks"]) (k:=1) (fr:=[2,5,7,9]) rfl rfl ⟨rfl,∅,∅,∅,rfl,∅,∅⟩ (cN rfl T.z_range (aa (pv 6) ag (se rfl))) (λ_ _ _ _ _=>(a9 (i:=0) (show(["_law_k","_law_turns","_law_names","_law_clock","_law_asks"]:List Str).Nodup by decide +kernel) rfl (.inl rfl))) (λ_ _ _ _ _=>dH)
   (λ_ _ _ _ _=>(bf (aa (ar a4 (pv 4) (pv 0) (λ_ _=>rfl)) (aa (bf (aa a7 (aa (pv 3) (aa (pv 1) (aa (ar a4 (pv 2) ae (λ_ _=>rfl)) (aa (ar a4 (pv 2) (aG aQ ae (pv 0)) (λ_ _=>rfl)) ag (se rfl)) (se rfl)) (se rfl)) (se rfl)) (se rfl))) ag (se rfl)) (se rfl)))))
  (ah (cS PassesOwn.never rfl (cN rfl T.z_range (aa (pv 6) ag (se rfl))) (a9 (i:=11) nd rfl (.inl rfl)) (ah (aJ (i:=12) nd rfl (.inl rfl) (aO eY (hr.mono ∅) rfl au.pass (aa (pv 0) (aa (aG aQ (aG aQ (pv 1) ae) (pv 11)) ag (se rfl)) (se rfl)) (he:=se rfl) (hpl:=na rfl)))
  (ah (aJ (i:=13) nd rfl (.inl rfl) (aO yV (hr.mono ∅) rfl au.pass (aa (pv 12) (aa (pv 8) (aa (pv 7) (aa (pv 9) ag (se rfl)) (se rfl)) (se rfl)) (se rfl)) (he:=se rfl) (hpl:=na rfl)))
  (ah (bw (aP bG (aO aK (hr.mono ∅) rfl au.pass (aa (aG aQ (pv 12) ae) (aa ae ag (se rfl)) (se rfl)) (he:=se rfl) (hpl:=na rfl)) ae (a5 _)) (ao (aJ (i:=13) nd rfl (.inl rfl) (aO w6 (hr.mono ∅) rfl au.pass (aa (pv 12) (aa (pv 8) (aa (pv 7) (aa (pv 9) ag (se rfl)) (se rfl)) (se rfl)) (se rfl)) (he:=se rfl) (hpl:=na rfl))))
   ba)
  (ao (b6 (fi Z5 aar aas dG.r (pv 10) (aa (bf (aa (ar a4 (pv 5) (aG aQ ae (pv 11)) (λ_ _=>rfl)) (aa (pv 13) ag (se rfl)) (se rfl))) ag (se rfl)))))))))
  (ah (aJ (i:=14) nd rfl (.inl rfl) (bf (aa a7 (aa (ar ai (ar a4 (pv 8) (aO aK (hr.mono ∅) rfl au.pass (aa (aG aQ (pv 4) ae) (aa (a8 bO (by rfl) T.z_len ZT (aa (pv 8) ag (se rfl)) (he:=se rfl) (hpl:=na rfl)) ag (se rfl)) (se rfl)) (he:=se rfl) (hpl:=na rfl)) (λ_ _=>rfl)) ae (λ_ _=>rfl)) ag (se rfl)) (se rfl))))
  (ah (bw (aP bG (aO aK (hr.mono ∅) rfl au.pass (aa (aG aQ (pv 4) ae) (aa ae ag (se rfl)) (se rfl)) (he:=se rfl) (hpl:=na rfl)) ae (a5 _)) (ao (aJ (i:=14) nd rfl (.inl rfl) (bf (aa a7 (aa (bf (aa (aG fS (aO aK (hr.mono ∅) rfl au.pass (aa (aG aQ (pv 4) ae) (aa ae ag (se rfl)) (se rfl)) (he:=se rfl) (hpl:=na rfl)) ae) (aa ae ag (se rfl)) (se rfl))) ag (se rfl)) (se rfl)))))
   ba)
  (ah (b6 (fi Z5 aar aas dG.r (pv 10) (aa (bf (aa (ar a4 (pv 5) ae (λ_ _=>rfl)) (aa (pv 14) ag (se rfl)) (se rfl))) ag (se rfl))))
  (ao (aY (bf (aa (pv 8) (aa (pv 10) ag (se rfl)) (se rfl))))))))))))))))),?_⟩
  refine(?_:let bY:TS:=_;let bZ:TS:=_;let b5:TS:=_;let cY:TS:=_;let pP:TS:=_;let yE:TS:=_;let EZ:TS:=_;let Jp:TS:=_;let Oa:TS:=_;let Ob:TS:=_;let FH:TS:=_;let Oi:TS:=_;let Oj:TS:=_;tSeq bY (tSeq bZ (tSeq b5 (tSeq cY (tSeq pP (tSeq yE (tSeq EZ (tSeq Jp (tSeq Oa (tSeq Ob (tSeq FH (tSeq Oi Oj))))))))))) _ _ _);intro bY bZ b5 cY pP yE EZ Jp Oa Ob FH Oi Oj;have sl:=sizeLine_eq;change tSeq _ _ _ _ _;refine aU (λN=>∀c:Int,N [some (.ref sc),some (.int at_),some (.int tu),some (.int mo),some (.int c),none,none,none,none,none,none,none,none,none,none] H) ?_ (λN hN=>?_)
  case refine_2=>
   dsimp?[Lq];exact⟨Mt,hS,by lia,by lia,λn=>hN n⟩
  rintro c;change tSeq _ _ _ _ _;refine aU (λN=>∀H1 nl ns,aF H H1->H1 nl=some (.lst (List.map V.str ns))->ns.length=12->ns.Nodup->(∀w∈ns,Fp w)->N [some (.ref sc),some (.int at_),some (.int tu),some (.int mo),some (.int c),some (.ref nl),none,none,none,none,none,none,none,none,none] H1) ?_ (λN hN=>?_)
  case refine_2=>
   dsimp?[yR];exact⟨∅,∅,λl H1 ws s1 nl hl l4 Ii Oe _=>hN _ l ws s1 hl l4 Ii Oe⟩
  rintro H1 nl ns s1 Mu Pn T8 Ms;have na:∀(i:Nat),i<12->iX (List.map V.str ns) (i:Int)=some (.str (dB ns i)):=λi hi=>bT (by rw[ZE,ZH (by lia)];show some (V.str _)=some (V.str (ns.getD i default));rw[aai,ZH (by lia)];rfl);have m6:=cB (c:=c+6) (m:=3) ∅;have m7:=cR (c:=c+6) (m:=3) ∅;obtain⟨a,ea⟩:∃a:Nat,1+bS (c+6) 3=(a:Int):=⟨(1+bS (c+6) 3).toNat,by lia⟩
  change tSeq _ _ _ _ _;refine aU (λN=>N [some (.ref sc),some (.int at_),some (.int tu),some (.int mo),some (.int c),some (.ref nl),some (.int (a:Int)),none,none,none,none,none,none,none,none] H1) ?_ (λN hN=>?_)
  case refine_2=>
   dsimp?[bP];rw[ea];exact⟨∅,hN⟩
  change tSeq _ _ _ _ _;refine aU (λN=>N [some (.ref sc),some (.int at_),some (.int tu),some (.int mo),some (.int c),some (.ref nl),some (.int (a:Int)),some (.str (dB ns 0)),none,none,none,none,none,none,none] H1) ?_ (λN hN=>?_)
  case refine_2=>
   dsimp?[Mu];exact⟨_,na 0 ∅,hN⟩
  have m9:=cB (c:=c+9) (m:=3) ∅;have Zg:=cR (c:=c+9) (m:=3) ∅;obtain⟨m,em⟩:∃m:Nat,bS (c+9) 3=(m:Int):=⟨(bS (c+9) 3).toNat,by lia⟩
  change tSeq _ _ _ _ _;refine aU (λN=>∀H2 cl ys,aF H1 H2->H1 cl=none->H2 cl=some (.lst ys)->bo (cX H2 cl) (((List.range m).map λk:Nat=>((dB ns (1+k),1+bS (c+7+ (k:Int)) mo):Str×Int)).map λc=>Dat.tup [.str c.1,.int c.2]) ys->N [some (.ref sc),some (.int at_),some (.int tu),some (.int mo),some (.int c),some (.ref nl),some (.int (a:Int)),some (.str (dB ns 0)),some (.ref cl),none,none,none,none,none,none] H2) ?_ (λN hN=>?_)
  case refine_2=>
   dsimp?[bP];rw[em];refine⟨∅,by lia,by lia,?_⟩;rw[ZX];refine comp_map src_range (λ_ _ _ _ h=>by rw[h.1];exact aF.refl _) (by lia) (λi y H2=>∃q,y=.ref q/\H2 q=some (.tup [.str (dB ns (1+i)),.int (1+bS (c+7+ (i:Int)) mo)])) (λi y H2 H3 s3 h=>by obtain⟨q,e,hq⟩:=h;exact⟨q,e,s3 _ _ hq⟩) ?_ ?_
   ·rintro i x w0 H2 H3 Q2 hi s2 ⟨rfl,rfl⟩ kq;dsimp?[aal,bP,s2 _ _ Mu];refine⟨_,by have:=na (1+i) (by lia);rwa [Int.natCast_add] at this,by lia,by lia,λp H4 s4 np ep=>kq _ _ s4 ⟨p,rfl,ep⟩⟩
   ·intro ys H2 s2 ly hy D n1 n2;refine hN _ D ys (s2.trans (aD n2)) n1 aj (bo.of (by rw[ZA,ZA,Z9,ly]) λi dd v e1 e2=>?_);rw[ZE,ZE] at e1;symm;obtain⟨x,ex,rfl⟩:=aaH.mp e1;obtain⟨k,ek,rfl⟩:=aaH.mp ex;nofun;obtain⟨h1,h2⟩:=aaI.mp ek;rw[List.getElem_range] at h2;subst h2;symm;obtain⟨q,rfl,hq⟩:=hy i v e2;nofun;have qD:q≠D:=λz=>by rw[z,n2] at hq;cases hq
    exact bN.mpr ⟨q,_,_,rfl,by rw[cV qD,aw qD];exact hq,aR.mpr rfl,bF.mpr rfl⟩
  rintro H2 cl ys s2 Xh fX Pu;generalize T9:((List.range m).map λk:Nat=>((dB ns (1+k),1+bS (c+7+ (k:Int)) mo):Str×Int))=os at *;have yl:ys.length=m:=by have:=Pu.length;rw[ZA,<-T9,ZA,Z9] at this;lia
  change tSeq _ _ _ _ _;refine aU (λN=>∀(H3:Hp) (cs:List (Str×Int)) (j:Nat),j<=m->cs=os.take j++ (dB ns 0,tu)::os.drop j->aF H1 H3->Rep H3 (O8 cs) (.ref cl)->N [some (.ref sc),some (.int at_),some (.int tu),some (.int mo),some (.int c),some (.ref nl),some (.int (a:Int)),some (.str (dB ns 0)),some (.ref cl),none,none,none,none,none,none] H3) ?_ (λN hN=>?_)
  case refine_2=>
   dsimp?[bP,Kr,fX];have b0:=cB (c:=c+10) (m:=(ys.length:Int)+1) (by lia);have b1:=cR (c:=c+10) (m:=(ys.length:Int)+1) (by lia);generalize bS (c+10) ((ys.length:Int)+1)=b at *;obtain⟨j,rfl⟩:∃k:Nat,b=(k:Int):=⟨b.toNat,by lia⟩
   rw[ZX];refine⟨.inl ⟨rfl,_,bL.of fX⟩,by lia,by lia,λp H3 s3 np ep=>⟨ys,s3 _ _ fX,by lia,by lia,by lia,hN _ _ j (by lia) rfl (cM (s2.trans s3) Xh) ?_⟩⟩;have Xi:p≠cl:=λz=>by rw[z,fX] at np;cases np
   refine bh.mpr ⟨cl,_,rfl,aj,?_⟩;rw[ZG,ZC,List.map_take,List.map_drop];refine sV (bN.mpr ⟨p,_,_,rfl,by rw[aw Xi];exact ep,aR.mpr rfl,bF.mpr rfl⟩) j (Pu.mono λq o h=>?_);have Ua:q≠cl:=λz=>by unfold cX at h;rw[if_pos z] at h;cases h
   rw[cV Ua] at h;rw[aw Ua];exact s3 _ _ h
  rintro H3 cs j jm Xj s3 Pw;have nu:=s1.trans s3;change tSeq _ _ _ _ _;refine aU (λN=>∀H4 gl,aF H3 H4->H4 gl=some (.lst (((List.range a).map λk=>dB ns (3+k)).map V.str))->N [some (.ref sc),some (.int at_),some (.int tu),some (.int mo),some (.int c),some (.ref nl),some (.int (a:Int)),some (.str (dB ns 0)),some (.ref cl),some (.ref gl),none,none,none,none,none] H4) ?_ (λN hN=>?_)
  case refine_2=>
   dsimp?[];refine⟨_,bL.of (s3 _ _ Mu),λgl Xk=>hN _ gl (aD Xk) ?_⟩;rw[aj,C4 Pn (by lia) (by lia)]
  rintro H4 gl s4 Ic;have FO:=s3.trans s4;have Ig:=s1.trans FO;generalize Ol:((List.range a).map λk=>dB ns (3+k))=gs at *;have Zh:gs.length=a:=by rw[<-Ol,ZA,Z9]
  obtain⟨LL,Ij,LM,Om,RQ⟩:=Og (cs:=cs) (c:=c) (mo:=mo) Pn T8 Ms (show m<=2 by lia) jm RA T5 T6 T7 (by rw[T9];exact Xj);change tSeq _ _ _ _ _;refine aU (λN=>∀H5 pl ys,aF H4 H5->H4 pl=none->H5 pl=some (.lst ys)->cZ (upd H4 pl (.lst [])) H5 ((gP ns a tu).map λp=>Dat.tup [.str p.1,jU p.2]) ys->N [some (.ref sc),some (.int at_),some (.int tu),some (.int mo),some (.int c),some (.ref nl),some (.int (a:Int)),some (.str (dB ns 0)),some (.ref cl),some (.ref gl),some (.ref pl),none,none,none,none] H5) ?_ (λN hN=>?_)
  case refine_2=>
   dsimp?[];refine⟨by lia,by lia,?_⟩;rw[ZX];refine comp_map src_range (λ_ _ _ _ h=>by rw[h.1];exact aF.refl _) (by lia) (λi y H2=>∃q t,y=.ref q/\H2 q=some (.tup [.str (dB ns (3+i)),.ref t])/\H2 t=some (.tup [.str "ask",.str (dB ns 0),.int tu,.str (dB ns 11),.str (dB ns (6+i))])) (λi y H2 H3 s3 h=>by obtain⟨q,t,e,hq,ht⟩:=h;exact⟨q,t,e,s3 _ _ hq,s3 _ _ ht⟩) ?_ ?_
   ·rintro i x w0 H5 H6 Q2 hi s5 ⟨rfl,rfl⟩ kq;dsimp?[aal,(FO.trans s5) _ _ Mu,s5 _ _ Ic];refine⟨.str (dB ns (3+i)),bT ?_,_,na 11 ∅,_,by have:=na (6+i) (by lia);rwa [Int.natCast_add] at this,by lia,λt H7 s7 nt et=>⟨by lia,λq H8 s8 nq eq=>kq _ _ (s7.trans s8) ⟨q,t,rfl,eq,s8 _ _ et⟩⟩⟩;rw[<-Ol,ZE,ZE,List.getElem?_range (by lia)];rfl
   ·intro ys H5 s5 ly hy D n1 n2;have sD:=aD (o:=.lst ys) n2;refine hN _ D ys (s5.trans sD) n1 aj (bo.of (by unfold gP;rw[ZA,ZA,Z9,ly]) λi dd v e1 e2=>?_);unfold gP at e1;rw[ZE,ZE] at e1;symm;obtain⟨x,ex,rfl⟩:=aaH.mp e1;obtain⟨k,ek,rfl⟩:=aaH.mp ex;nofun;obtain⟨h1,h2⟩:=aaI.mp ek;rw[List.getElem_range] at h2;subst h2;symm;obtain⟨q,t,rfl,hq,ht⟩:=hy i v e2;nofun;have li:dO (upd H4 D (.lst [])) (upd H5 D (.lst ys)):=λb zs e=>by
     by_cases z:b=D
     ·subst z;exact⟨_,aj⟩
     ·rw[aw z] at e;exact⟨_,sD _ _ (s5 _ _ e)⟩
    exact yQ li (sD _ _ hq) cc (sS li (sD _ _ ht) (cy cc (cy cc (cy dR (cy cc (cy cc gk))))))
  rintro H5 pl ys s5 Gs hpl Pu;have Zi:=Ig.trans s5;have Xl:H pl=none:=none_of Ig Gs;change tSeq _ _ _ _ _;refine aU (λN=>∀(H6:Hp) (W:List Wt) (ys:List V),aF H4 H6->H6 pl=some (.lst ys)->W.length=a->(∀x∈W,mX cs x/\jV cs gs x)->cZ (upd H4 pl (.lst [])) H6 ((gP ns a tu++fh ns W).map λp=>Dat.tup [.str p.1,jU p.2]) ys->∀yU xt Ik,N [some (.ref sc),some (.int at_),some (.int tu),some (.int mo),some (.int c),some (.ref nl),some (.int (a:Int)),some (.str (dB ns 0)),some (.ref cl),some (.ref gl),some (.ref pl),yU,xt,Ik,none] H6) ?_ (λN hN=>?_)
  case refine_2=>
   dsimp?[];refine⟨by lia,by lia,?_⟩;rw[ZX];refine cu (src_range (Ok:=λ_=>True)) (λi σ H6=>aF H4 H6/\∃(W:List Wt) (ys:List V),H6 pl=some (.lst ys)/\W.length=i/\(∀x∈W,mX cs x/\jV cs gs x)/\cZ (upd H4 pl (.lst [])) H6 ((gP ns a tu++fh ns W).map λp=>Dat.tup [.str p.1,jU p.2]) ys/\∃yU xt Ik,σ=[some (.ref sc),some (.int at_),some (.int tu),some (.int mo),some (.int c),some (.ref nl),some (.int (a:Int)),some (.str (dB ns 0)),some (.ref cl),some (.ref gl),some (.ref pl),yU,xt,Ik,none]) ⟨s5,[],ys,hpl,rfl,(λx hx=>by cases hx),by rw[show fh ns []=[] from rfl,aab];exact Pu,_,_,_,rfl⟩ (λ_ _ _ _ _=>trivial) ?_ ?_
   ·intro i x σ H6 H7 hi gN gO;symm;obtain⟨s6,W,ys,hy,lW,Js,ry,yU,xt,Ik,rfl⟩:=gN;obtain⟨rfl,rfl⟩:=gO;nofun;have Ih:=Ig.trans s6;have Xm:ys.length=a+i:=by
     have:=bo.length ry;rw[ZA,ZJ] at this;unfold gP fh at this;rw[ZA,Z9,List.length_mapIdx] at this;lia
    simp only[gName,Z4,Z3,aal];change tSeq _ _ _ _ _;refine aU (λN=>∀n:Int,N [some (.ref sc),some (.int at_),some (.int tu),some (.int mo),some (.int c),some (.ref nl),some (.int (a:Int)),some (.str (dB ns 0)),some (.ref cl),some (.ref gl),some (.ref pl),some (.int (i:Int)),some (.int n),Ik,none] H7) ?_ (λN hN=>?_)
    case refine_2=>
     dsimp?[Lq];exact⟨Mt,Ih.seq hS,by lia,by lia,λn=>hN n⟩
    rintro n;have RS:dO (upd H4 pl (.lst [])) H7:=λb zs e=>by
     by_cases z:b=pl
     ·subst z;exact⟨_,hy⟩
     ·rw[aw z] at e;exact⟨_,s6 _ _ e⟩
    let WO:Hp->V->Prop:=λH8 v=>∃x,dF (upd H4 pl (.lst [])) H8 (jU x) v/\mX cs x/\jV cs gs x;change tSeq _ _ _ _ _;refine aU (λN=>∀H8 v,aF H7 H8->WO H8 v->N [some (.ref sc),some (.int at_),some (.int tu),some (.int mo),some (.int c),some (.ref nl),some (.int (a:Int)),some (.str (dB ns 0)),some (.ref cl),some (.ref gl),some (.ref pl),some (.int (i:Int)),some (.int n),some v,none] H8) ?_ (λN hN=>?_)
    case refine_2=>
     dsimp?[vv];exact⟨cs,Pw.mono (s4.trans s6),LL,Ij,LM,Om,gs,s6 _ _ Ic,by lia,by lia,λu H8 x s8 r8 g8 w8=>hN _ u s8 ⟨x,r8.low RS,g8,w8⟩⟩
    rintro H8 v8 s8 Xn;change tSeq _ _ _ _ _;refine aU (λN=>∀H8 v,aF H7 H8->WO H8 v->N [some (.ref sc),some (.int at_),some (.int tu),some (.int mo),some (.int c),some (.ref nl),some (.int (a:Int)),some (.str (dB ns 0)),some (.ref cl),some (.ref gl),some (.ref pl),some (.int (i:Int)),some (.int n),some v,none] H8) ?_ (λN hN=>?_)
    case refine_2=>
     dsimp?[bP,vv];have Ub:=s6.trans s8;exact⟨∅,iS (λ_=>⟨cs,Pw.mono (s4.trans Ub),LL,Ij,LM,Om,gs,Ub _ _ Ic,by lia,by lia,λu H9 x s9 r9 g9 w9=>hN _ u (s8.trans s9) ⟨x,r9.low (RS.trans s8),g9,w9⟩⟩) (λ_=>hN _ _ s8 Xn)⟩
    intro H9 v9 s9 HK;symm;obtain⟨x,rx,gx,wx⟩:=HK;nofun;have Uc:=s6.trans s9;dsimp?[eQ];refine⟨.inl ⟨rfl,_,bL.of (s9 _ _ hy)⟩,_,(FO.trans Uc) _ _ Mu,_,by have:=na (6+i) (by lia);rwa [Int.natCast_add] at this,by lia,λp HJ BO np ep=>⟨ys,(s9.trans BO) _ _ hy,by lia,cM (Uc.trans BO) Gs,W++ [x],_,aj,by rw[ZJ,lW];rfl,λy JZ=>?_,?_,_,rfl⟩⟩
    ·rcases List.mem_append.mp JZ with JZ | JZ
     ·exact Js y JZ
     ·rw[aaK.mp JZ];exact⟨gx,wx⟩
    ·show bo (iy _ (upd _ _ _)) _ _;rw[je (ys:=[]) aj,FN,<-List.append_assoc,ZG,lW];exact qM (yQ (RS.trans (s9.trans BO)) ep cc (rx.mono BO)) (ry.mono (s9.trans BO))
   ·intro σ H6 dA;symm;obtain⟨s6,W,ys,hy,lW,Js,ry,yU,xt,Ik,rfl⟩:=dA;nofun;exact hN _ W ys s6 hy lW Js ry _ _ _
  rintro H6 W ys s6 hy lW Js ry yU xt Ik;have Ih:=Ig.trans s6;have Xm:ys.length=a+a:=by
   have:=bo.length ry;rw[ZA,ZJ] at this;unfold gP fh at this;rw[ZA,Z9,List.length_mapIdx] at this;lia
  have RT:dO (upd H4 pl (.lst [])) H6:=λb zs e=>by
   by_cases z:b=pl
   ·subst z;exact⟨_,hy⟩
   ·rw[aw z] at e;exact⟨_,s6 _ _ e⟩
  let WO:Hp->V->Prop:=λH8 v=>∃x,dF (upd H4 pl (.lst [])) H8 (jU x) v/\mX cs x/\jV cs gs x;change tSeq _ _ _ _ _;refine aU (λN=>∀H7 v,aF H6 H7->WO H7 v->N [some (.ref sc),some (.int at_),some (.int tu),some (.int mo),some (.int c),some (.ref nl),some (.int (a:Int)),some (.str (dB ns 0)),some (.ref cl),some (.ref gl),some (.ref pl),yU,xt,Ik,some v] H7) ?_ (λN hN=>?_)
  case refine_2=>
   symm;obtain⟨zj,yG,e0,RU,tZ⟩:=bh.mp (show Rep H3 (.lst _) (.ref cl) from Pw);nofun;clear G_;cases e0;have AB:=tZ.length;rw[ZA] at AB;have c0:0<cs.length:=by
    cases cs with
    | nil=>simp at Ij
    | cons _ _=>exact Nat.zero_lt_succ _
   have b0:=cB (c:=c+12) (m:=(yG.length:Int)) (by lia);have b1:=cR (c:=c+12) (m:=(yG.length:Int)) (by lia);have h36:=s4.trans s6;dsimp?[bP,h36 _ _ RU];generalize bS (c+12) (yG.length:Int)=b at *;obtain⟨k,rfl⟩:∃k:Nat,b=(k:Int):=⟨b.toNat,by lia⟩
   have hk:k<cs.length:=by lia
   obtain⟨v,ev,rv⟩:=tZ.at (i:=k) (by rw[ZE,ZH hk];rfl);symm;obtain⟨q,x1,x2,rfl,hq,r1,r2⟩:=bN.mp (show Rep H3 (.tup _) v from rv);obtain rfl:=aR.mp r1;nofun;have D3:(cs[k]).1∈cs.map (·.1):=aaJ.mpr ⟨_,ZY hk,rfl⟩;exact⟨by lia,_,bT ev,q,rfl,_,h36 _ _ hq,_,at0,by lia,λp H7 s7 np ep=>hN _ _ s7 ⟨.score (cs[k]).1,yQ (RT.trans s7) ep cc cc,D3,D3⟩⟩
  rintro H7 v7 s7 Xo;change tSeq _ _ _ _ _;refine aU (λN=>∀H7 v,aF H6 H7->WO H7 v->N [some (.ref sc),some (.int at_),some (.int tu),some (.int mo),some (.int c),some (.ref nl),some (.int (a:Int)),some (.str (dB ns 0)),some (.ref cl),some (.ref gl),some (.ref pl),yU,xt,Ik,some v] H7) ?_ (λN hN=>?_)
  case refine_2=>
   have b0:=cB (c:=c+14) (m:=19) ∅;have b1:=cR (c:=c+14) (m:=19) ∅;dsimp?[bP];refine⟨∅,iS (λ_=>⟨∅,by lia,λp H8 s8 np ep=>⟨by lia,λp1 H9 s9 Gr LF=>hN _ _ (s7.trans (s8.trans s9)) ⟨.fin (bS (c+14) 19 - 9) 1,?_,trivial,rfl,by lia,by lia⟩⟩⟩) (λ_=>hN _ _ s7 Xo)⟩;have l9:=RT.trans (s7.trans (s8.trans s9));exact yQ l9 LF cc (yQ l9 (s9 _ _ ep) dR dR)
  intro H8 v8 s8 HK;symm;obtain⟨fw,Xp,Xq,Xr⟩:=HK;nofun;have gp:=LI (a:=a) (tu:=tu) Pn T8 Ms (by lia) (by lia) lW LL Ij LM RQ (by rw[Ol];exact Js) Xq (by rw[Ol];exact Xr);rw[Ol] at gp;dsimp?[eQ];have Ud:=s6.trans s8;refine⟨.inl ⟨rfl,_,bL.of (s8 _ _ hy)⟩,_,(FO.trans Ud) _ _ Mu,_,na 11 ∅,by lia,λp H9 s9 np ep=>⟨ys,(s8.trans s9) _ _ hy,by lia,by lia,λp1 HJ BO Gr LF=>?_⟩⟩;have Ue:aF H4 (upd H9 pl (.lst (ys++ [.ref p]))):=cM (Ud.trans s9) Gs;refine kk (.ref p1) HJ _ gs (Ig.trans (Ue.trans BO)) (bN.mpr ⟨p1,_,_,rfl,LF,Pw.mono (s4.trans (Ue.trans BO)),?_⟩) gp;refine Rep.mono BO (bh.mpr ⟨pl,_,rfl,aj,?_⟩);show bo _ (List.map (λp=>Dat.tup [.str p.1,jU p.2]) (gP ns a tu++fh ns W++ [(dB ns 11,fw)])) _;have rr:cZ (upd H4 pl (.lst [])) (upd H9 pl (.lst (ys++ [.ref p]))) ((gP ns a tu++fh ns W++ [(dB ns 11,fw)]).map λp=>Dat.tup [.str p.1,jU p.2]) (ys++ [.ref p]):=by
   show bo (iy _ (upd _ _ _)) _ _;rw[je (ys:=[]) aj,ZG];exact qM (yQ (RT.trans (s8.trans s9)) ep cc (Xp.mono s9)) (ry.mono (s8.trans s9))
  exact rr.rep
theorem jg:aZ ["_law_pool","_law_low_here","_law_high","_law_part"] ["_law_pool"] (aq (top 55)):=⟨rfl,rfl,rfl,∅,rfl,∅,∅⟩
theorem LN (T:Txt K mg aB aH aI aV aE aL aW aM aA aN aX af av):cg P w K mg base (br P w) 1 "_law_values" ["_law_pool"] Fx:=by
 refine T.uj.dJ (λ_ _ _ _ _ _=>gZ λ_=>rfl) λf fd F=>F.eC jg (λvs H Q E h=>?_) (λcf A outer s H vs Q E hr h=>?_)
 ·obtain⟨_,_,rfl,_⟩:=h;rfl
 ·symm;obtain⟨v,ps,rfl,rv,gl,kk⟩:=h;nofun;have nd:=jg.nd;refine⟨_,(ah (aJ (i:=1) nd rfl (.inl rfl) ae)
  (ah (aJ (i:=2) nd rfl (.inl rfl) ae)
  (ah (cS PassesOwn.never rfl (bA (K:=K) (pv 0)) (a9 (i:=3) nd rfl (.inl rfl)) (ao (bw (aP bG (ar ai (pv 3) ae (λ_ _=>rfl)) a7 (a5 _)) (ah (aJ (i:=1) nd rfl (.inl rfl) (aG aQ (pv 1) (ar ai (pv 3) ae (λ_ _=>rfl))))
  (ao (aJ (i:=2) nd rfl (.inl rfl) (aG aQ (pv 2) (ar ai (pv 3) ae (λ_ _=>rfl))))))
   (ah (aJ (i:=1) nd rfl (.inl rfl) (aG aQ (pv 1) (ar ai (pv 3) ae (λ_ _=>rfl))))
  (ao (aJ (i:=2) nd rfl (.inl rfl) (aG aQ (pv 2) (aG bq (ar ai (pv 3) ae (λ_ _=>rfl)) (ar ai (pv 3) ae (λ_ _=>rfl))))))))))
  (ao (aY (ud rfl rfl T.z_list rfl T.z_range (aa (pv 1) (aa (aG aQ (pv 2) ae) ag (se rfl)) (se rfl)))))))),?_⟩
  refine(?_:let bY:TS:=_;let bZ:TS:=_;let b5:TS:=_;let cY:TS:=_;tSeq bY (tSeq bZ (tSeq b5 cY)) _ _ _);intro bY bZ b5 cY;have sl:=sizeLine_eq;symm;obtain⟨a,rfl,xs,ha,ap⟩:=BL rv;nofun;have xl:=ap.length;dsimp?[];refine⟨⟨_,bL.of ha⟩,cu (src_list (Ok:=λH'=>H=H') (λH' e=>by subst e;exact bL.of ha)) (λi σ H'=>H=H'/\∃z,σ=[some (.ref a),some (.int (qg (ps.take i))),some (.int (oh (ps.take i))),z]) ⟨rfl,_,rfl⟩ (λ_ _ _ _ h=>h.1) ?_ ?_⟩
  ·intro i x σ H' qK hi gN gO;symm;obtain⟨rfl,z,rfl⟩:=gN;obtain⟨rfl,ex⟩:=gO;obtain⟨p,ep,q,rfl,hq⟩:=ap.get ex;nofun;obtain⟨ET,zr⟩:=aaI.mp ep;obtain⟨gp,_⟩:=yr gl;have gp:=gp p (ZS ep);rw[take_snoc ET,zr,wU,wV];simp only[gName,Z4,Z3];cases p with
   | num m=>
    simp only[uw] at hq;refine dE (λY N k=>by dsimp?[hq];exact k) ?_;dsimp?[hq];exact⟨_,rfl⟩
   | cP k s=>
    simp only[uw] at hq;refine dq (λY N k=>by dsimp?[hq];rw[if_neg ∅];exact k) ?_;dsimp?[hq];have gp:1<=s/\s<=20/\k<=6:=gp;exact⟨bJ (by lia) (by lia),_,rfl⟩
  ·intro σ H' dA;symm;obtain⟨rfl,z,rfl⟩:=dA;nofun;rw[xl,ZQ (ZD _)];dsimp?[Nt];have d:∀x∈De,x.1<=x.1*x.2/\x.1*x.2<=100:=∅
   obtain⟨k,s,BY,e | ⟨m,hm,e⟩⟩:=ir gl
   ·subst e;have:k<=k*s/\k*s<=100:=d (k,s) BY;have d6:∀x∈De,x.1<=2:=∅
    have:k<=2:=d6 (k,s) BY;refine⟨k*s - k+1,?_,by lia,?_,?_,λl nl=>kk l _ (aD nl) nl ?_⟩
    ·show(k:Int)* (s:Int)+0+1=(k:Int)+0+ ((k*s - k+1:Nat):Int);rw[<-aaf];lia
    ·show -1000000<=(k:Int)+0;lia
    ·show(k:Int)+0<=1000000;lia
    ·rw[aj,dt,Z1];rfl
   ·subst e;have:k<=k*s/\k*s<=100:=d (k,s) BY;have d6:∀x∈De,x.1<=2:=∅
    have:k<=2:=d6 (k,s) BY;refine⟨k*s - k+1,?_,by lia,?_,?_,λl nl=>kk l _ (aD nl) nl ?_⟩
    ·show(k:Int)* (s:Int)+ ((m:Int)+0)+1=(k:Int)+ ((m:Int)+0)+ ((k*s - k+1:Nat):Int);rw[<-aaf];lia
    ·show -1000000<=(k:Int)+ ((m:Int)+0);lia
    ·show(k:Int)+ ((m:Int)+0)<=1000000;lia
    ·rw[aj,dt,Z1];rfl
theorem nH:aZ ["_law_game_here","_law_name"] ["_law_game_here","_law_name"] (aq (top 56)):=⟨rfl,rfl,rfl,∅,rfl,∅,∅⟩
theorem oS (T:Txt K mg aB aH aI aV aE aL aW aM aA aN aX af av):cg P w K mg base (br P w) 1 "_law_what" ["_law_game_here","_law_name"] gn:=by
 refine T.yh.dJ (λ_ _ _ _ _ _=>eG λ_ _=>rfl) λf fd F=>F.eC nH (λvs H Q E h=>?_) (λcf A outer s H vs Q E hr h=>?_)
 ·obtain⟨_,_,_,_,rfl,_⟩:=h;rfl
 ·symm;obtain⟨gv,nm,g,x,rfl,rg,gg,lk,kk⟩:=h;nofun;have nd:=nH.nd;refine⟨_,(ao (aY (ar a4 (cO rfl (N:=["_law_game_here","_law_name"]) (so:=aq (top 56)) (N':=["_law_told","_law_what_here","_law_name"]) (k:=2) (fr:=[1]) rfl rfl ⟨rfl,∅,∅,∅,rfl,∅,∅⟩ (bA (K:=K) (ar ai (pv 0) ae (λ_ _=>rfl))) (λ_ _ _ _ _=>(fJ (K:=K) (n:=2) rfl (bX (a9 (i:=0) (show(["_law_told","_law_what_here","_law_name"]:List Str).Nodup by decide +kernel) rfl (.inl rfl)) (bX (a9 (i:=1) (show(["_law_told","_law_what_here","_law_name"]:List Str).Nodup by decide +kernel) rfl (.inl rfl)) fI)))) (λ_ _ _ _ _=>(eF (aP bG (pv 0) (pv 2) (a5 _))))
   (λ_ _ _ _ _=>(pv 1))) ae (λ_ _=>rfl)))),?_⟩
  have sl:=sizeLine_eq;symm;obtain⟨gp,cv,pv,rfl,zm,rc,rp⟩:=bN.mp (show Rep H (.tup _) gv from rg);obtain⟨pl,E1,rfl,hpl,Gp⟩:=bh.mp (show Rep H (.lst _) pv from rp);nofun;have Zj:=gg.lp;have len:=Gp.length;rw[ZA] at len;dsimp?[zm];refine⟨⟨_,bL.of hpl⟩,?_⟩;symm;obtain⟨us,ul,ue,ux⟩:=vx (nm:=nm) Gp;obtain⟨u,r,ef,ru⟩:=ux x lk;nofun;have zl:(us.zip g.ps).length=E1.length:=by rw[aaq];lia
  have S:Src (xC K pl) (aF H) E1.length _:=src_list (λH' s'=>bL.of (s' _ _ hpl));rw[<-zl] at S;refine sO (K:=K) (us.zip g.ps) (λy=>if y.2.1=nm then some y.1 else none) S (λ_ _ _ _ h=>h.1) (by lia) ?_ ?_
  ·rintro i ⟨u',p⟩ y Xs ⟨_,ey⟩;obtain⟨e1,e2⟩:=List.getElem?_zip_eq_some.mp Xs;symm;obtain⟨q,eq,hq⟩:=ue i p u' e2 e1;nofun;rw[eq] at ey;cases ey;refine⟨q,_,_,rfl,kz.of hq,λY N y1 y2=>?_⟩;dsimp?[]
   by_cases e:p.1=nm
   ·rw[if_pos e];exact y1 _ (if_pos e)
   ·rw[if_neg e];exact y2 (if_neg e)
  ·intro D n1 n2;rw[ef];exact⟨_,aj,u,at0,kk u _ (aD n2) ru⟩
theorem jh:aZ ["_law_game_here","_law_counts","_law_name"] ["_law_game_here","_law_counts","_law_name"] (aq (top 57)):=⟨rfl,rfl,rfl,∅,rfl,∅,∅⟩
theorem AO (T:Txt K mg aB aH aI aV aE aL aW aM aA aN aX af av):cg P w K mg base (br P w) 1 "_law_number" ["_law_game_here","_law_counts","_law_name"] sT:=by
 refine T.uk.dJ (λ_ _ _ _ _ _=>uu λ_ _ _=>rfl) λf fd F=>F.eC jh (λvs H Q E h=>?_) (λcf A outer s H vs Q E hr h=>?_)
 ·obtain⟨_,_,_,_,_,rfl,_⟩:=h;rfl
 ·symm;obtain⟨gv,l,nm,g,ns,rfl,rg,gg,hl,ln,hm,kk⟩:=h;nofun;have nd:=jh.nd;refine⟨_,(ao (aY (ar a4 (cO rfl (N:=["_law_game_here","_law_counts","_law_name"]) (so:=aq (top 57)) (N':=["_law_k","_law_game_here","_law_counts","_law_name"]) (k:=1) (fr:=[0,1,2]) rfl rfl ⟨rfl,∅,∅,∅,rfl,∅,∅⟩ (cN rfl T.z_range (aa (a8 bO (by rfl) T.z_len ZT (aa (pv 1) ag (se rfl)) (he:=se rfl) (hpl:=na rfl)) ag (se rfl))) (λ_ _ _ _ _=>(a9 (i:=0) (show(["_law_k","_law_game_here","_law_counts","_law_name"]:List Str).Nodup by decide +kernel) rfl (.inl rfl))) (λ_ _ _ _ _=>(eF (aP bG (ar ai (ar a4 (ar ai (pv 1) ae (λ_ _=>rfl)) (pv 0) (λ_ _=>rfl)) ae (λ_ _=>rfl)) (pv 3) (a5 _))))
   (λ_ _ _ _ _=>(ar a4 (pv 2) (pv 0) (λ_ _=>rfl)))) ae (λ_ _=>rfl)))),?_⟩
  have sl:=sizeLine_eq;symm;obtain⟨gp,cv,pv,rfl,zm,rc,rp⟩:=bN.mp (show Rep H (.tup _) gv from rg);obtain⟨cl,yG,rfl,fX,tZ⟩:=bh.mp (show Rep H (.lst _) cv from rc);nofun;have lcs:=gg.lc;have len:=tZ.length;rw[ZA] at len;dsimp?[zm,hl];rw[ZA];refine⟨by lia,by lia,?_⟩;rw[ZX];obtain⟨r,ef⟩:=yT ln hm;have zl:(g.cs.zip ns).length=ns.length:=by rw[aaq];lia
  rw[<-zl];refine vf (g.cs.zip ns) (λy=>if y.1.1=nm then some y.2 else none) src_range (λ_ _ _ _ h=>h.1) (by lia) ?_ ?_
  ·rintro i ⟨c,n⟩ y Xu ⟨_,rfl⟩ Y N y1 y2;obtain⟨e1,e2⟩:=List.getElem?_zip_eq_some.mp Xu;obtain⟨cv,ev,RV⟩:=tZ.at (i:=i) (by rw[ZE,e1];rfl);symm;obtain⟨cq,b1,b2,rfl,Ia,q1,q2⟩:=bN.mp (show Rep _ (.tup _) cv from RV);obtain rfl:=aR.mp q1;nofun;dsimp?[aal,zm,fX,hl];refine⟨_,bT ev,_,rfl,_,Ia,_,at0,rfl,?_⟩
   by_cases e:c.1=nm
   ·rw[if_pos (congrArg V.str e)];refine⟨_,eR (aaI.mp e2).1,?_⟩;rw[aai,e2];exact y1 _ (if_pos e)
   ·rw[if_neg (λz=>e (by injection z))];exact y2 (if_neg e)
  ·intro D n1 n2;rw[ef];exact⟨_,aj,_,at0,kk _ (aD n2)⟩
theorem iK:aZ ["_law_game_here","_law_name","_law_counts","_law_what_here"] ["_law_game_here","_law_name","_law_counts"] (aq (top 58)):=⟨rfl,rfl,rfl,∅,rfl,∅,∅⟩
set_option tactic.hygienic true in
theorem FP (T:Txt K mg aB aH aI aV aE aL aW aM aA aN aX af av):cg P w K mg base (br P w) 2 "_law_arrived" ["_law_game_here","_law_name","_law_counts"] vy:=by
 have ck:cg P w K mg base (br P w) 1 "_law_what" ["_law_game_here","_law_name"] gn:=oS T;have dZ:cg P w K mg base (br P w) 1 "_law_number" ["_law_game_here","_law_counts","_law_name"] sT:=AO T;refine T.rS.dJ (λ_ _ _ _ _ _=>uu λ_ _ _=>rfl) λf fd F=>F.eC iK (λvs H Q E h=>?_) (λcf A outer s H vs Q E hr h=>?_)
 ·obtain⟨_,_,_,_,_,_,_,rfl,_⟩:=h;rfl
 ·symm;obtain⟨gv,l,nm,g,ns,fu,Mv,rfl,rg,gg,hl,ln,ak,kk⟩:=h;nofun;have nd:=iK.nd;refine⟨_,(ah (aJ (i:=3) nd rfl (.inl rfl) (aO ck (hr.mono ∅) rfl au.pass (aa (pv 0) (aa (pv 1) ag (se rfl)) (se rfl)) (he:=se rfl) (hpl:=na rfl)))
  (ah (mB PassesOwn.never (aP bG (ar ai (pv 3) ae (λ_ _=>rfl)) a7 (a5 _)) (ah (aJ (i:=1) nd rfl (.inl rfl) (ar ai (pv 3) (aG aQ ae (eg Af (by rfl) T.z_int rfl (aa (gz xG (aO dZ (hr.mono ∅) rfl au.pass (aa (pv 0) (aa (pv 2) (aa (ar ai (pv 3) ae (λ_ _=>rfl)) ag (se rfl)) (se rfl)) (se rfl)) (he:=se rfl) (hpl:=na rfl)) (ar ai (pv 3) ae (λ_ _=>rfl)) (a5 _)) ag (se rfl)) (he:=se rfl) (hpl:=na rfl))) (λ_ _=>rfl)))
  (ao (aJ (i:=3) nd rfl (.inl rfl) (aO ck (hr.mono ∅) rfl au.pass (aa (pv 0) (aa (pv 1) ag (se rfl)) (se rfl)) (he:=se rfl) (hpl:=na rfl))))))
  (ao (aY (bf (aa (pv 1) (aa (eg (dU (K:=K)) (by rfl) T.z_list rfl (aa (pv 2) ag (se rfl)) (he:=se rfl) (hpl:=na rfl)) ag (se rfl)) (se rfl))))))),?_⟩
  refine(?_:let bY:TS:=_;let bZ:TS:=_;let b5:TS:=_;tSeq bY (tSeq bZ b5) _ _ _);intro bY bZ b5;have sl:=sizeLine_eq;have lx:∀{f nm},dW g ns f nm=some Mv->∃x,look g.ps nm=some x:=λ{f nm} ak=>by
   cases f with
   | zero=>cases ak
   | succ f=>
    unfold dW at ak;cases h:look g.ps nm with
    | none=>rw[h] at ak;cases ak
    | some x=>exact⟨x,rfl⟩
  obtain⟨x0,BZ⟩:=lx ak;change tSeq _ _ _ _ _;refine aU (λN=>∀H1 v,aF H H1->Rep H1 (jU x0) v->N [some gv,some (.str nm),some (.ref l),some v] H1) ?_ (λN hN=>?_)
  case refine_2=>
   dsimp?[gn];exact⟨g,rg,gg,x0,BZ,λu H1 s1 ru=>hN _ u s1 (ru.mono s1)⟩
  rintro H1 v0 s1 Rk;change tSeq _ _ _ _ _;refine aU (λN=>∀H3 v,aF H H3->N [some gv,some (.str Mv),some (.ref l),some v] H3) ?_ (λN hN=>?_)
  case refine_2=>
   refine BK (λm σ H3=>aF H1 H3/\∃nm x v,dW g ns m nm=some Mv/\look g.ps nm=some x/\Rep H3 (jU x) v/\σ=[some gv,some (.str nm),some (.ref l),some v]) (m:=fu) ⟨aF.refl _,nm,x0,v0,ak,BZ,Rk,rfl⟩ ?_;intro m σ H3 HK;symm;obtain⟨s3,Xv,x,v,B1,Ug,Uh,rfl⟩:=HK;have nu:=s1.trans s3;obtain⟨m,rfl⟩:∃m',m=m'+1:=by
    cases m with
    | zero=>cases B1
    | succ m=>exact⟨m,rfl⟩
   nofun;have B1:=B1;unfold dW at B1;rw[Ug] at B1
   by_cases ka:t4 x=Zz "ask"
   ·symm;obtain⟨c,k,a,b,rfl⟩:=Lf ka;have hc:c∈g.cs.map (·.1):=gg.wt _ (c8 Ug);obtain⟨q,v1,v2,v3,v4,v5,rfl,hq,r1,r2,r3,r4,r5⟩:=wD.mp (show Rep H3 (.tup _) v from Uh);nofun;rw[aR.mp r1,aR.mp r2,bF.mp r3,aR.mp r4,aR.mp r5] at hq;have B1:(if k<=ns.getD (bK g.cs c) 0 then dW g ns m a else dW g ns m b)=some Mv:=B1;have Ui:dW g ns m (if k<=ns.getD (bK g.cs c) 0 then a else b)=some Mv:=by split <;>(rename_i h;first | rw[if_pos h] at B1 | rw[if_neg h] at B1) <;>exact B1
    refine⟨true,λQ hQ=>?_,?_⟩
    ·dsimp?[hq];exact hQ
    ·rw[if_pos rfl];change tSeq _ _ _ _ _;refine aU (λN=>∀H4,aF H3 H4->N [some gv,some (.str (if k<=ns.getD (bK g.cs c) 0 then a else b)),some (.ref l),some (.ref q)] H4) ?_ (λN hN=>?_)
     case refine_2=>
      dsimp?[hq,sT];refine⟨g,rg.mono nu,gg,ns,nu _ _ hl,ln,hc,λH' s'=>⟨_,s' _ _ hq,_,at2,_,rfl,_,s' _ _ hq,.str (if k<=ns.getD (bK g.cs c) 0 then a else b),?_,hN _ s'⟩⟩
      by_cases z:k<=ns.getD (bK g.cs c) 0
      ·rw[if_pos z,if_neg (by lia)];rfl
      ·rw[if_neg z,if_pos (by lia)];rfl
     rintro H4 s4;have Ig:=nu.trans s4;obtain⟨x1,Uj⟩:=lx Ui;dsimp?[gn];exact⟨g,rg.mono Ig,gg,x1,Uj,λu H5 s5 ru=>⟨m,by lia,s3.trans (s4.trans s5),_,Ui,x1,Uj,_,ru.mono s5,rfl,rfl⟩⟩
   ·have e1:Xv=Mv:=by
     cases x with
     | ask c k a b=>exact absurd rfl ka
     | fin t b=>exact ZU B1
     | score c=>exact ZU B1
     | pick w rs=>exact ZU B1
     | dN p t b rs=>exact ZU B1
    subst e1;symm;obtain⟨q,CC,rfl,hq⟩:=nh Uh;nofun;refine⟨false,λQ hQ=>?_,?_⟩
    ·dsimp?[hq];rw[decide_eq_false ka];exact hQ
    ·rw[if_neg ∅];exact hN _ _ nu
  rintro H3 v3 s3;dsimp?[];exact⟨_,.inl (bL.of (s3 _ _ hl)),λl' RW=>⟨by lia,λp H4 s4 np e4=>kk p l' H4 (s3.trans ((aD RW).trans s4)) (none_of (s3.trans (aD RW)) np) (none_of s3 RW) e4 (s4 _ _ aj)⟩⟩
theorem nI:aZ ["_law_game_here","_law_counts","_law_deeds_here","_law_thrown","_law_held","_law_caps","_law_k","_law_deed"] ["_law_game_here","_law_counts","_law_deeds_here","_law_thrown"] (aq (top 59)):=⟨rfl,rfl,rfl,∅,rfl,∅,∅⟩
theorem LO (T:Txt K mg aB aH aI aV aE aL aW aM aA aN aX af av):cg P w K mg base (br P w) 1 "_law_done" ["_law_game_here","_law_counts","_law_deeds_here","_law_thrown"] BV:=by
 refine T.yi.dJ (λ_ _ _ _ _ _=>uv λ_ _ _ _=>rfl) λf fd F=>F.eC nI (λvs H Q E h=>?_) (λcf A outer s H vs Q E hr h=>?_)
 ·obtain⟨_,_,_,_,_,_,_,rfl,_⟩:=h;rfl
 ·symm;obtain⟨gv,l,dv,v,g,ns,ds,rfl,rg,gg,hl,ln,rd,Xw,gd,kk⟩:=h;nofun;clear G_;have nd:=nI.nd;refine⟨_,(ah (aJ (i:=4) nd rfl (.inr rfl) gU)
  (ah (aJ (i:=5) nd rfl (.inl rfl) gU)
  (ah (cS PassesOwn.never rfl (cN rfl T.z_range (aa (a8 bO (by rfl) T.z_len ZT (aa (pv 1) ag (se rfl)) (he:=se rfl) (hpl:=na rfl)) ag (se rfl))) (a9 (i:=6) nd rfl (.inl rfl)) (ah (eE (cE hr) (pv 4) (ar ai (ar a4 (ar ai (pv 0) ae (λ_ _=>rfl)) (pv 6) (λ_ _=>rfl)) ae (λ_ _=>rfl)) (ar a4 (pv 1) (pv 6) (λ_ _=>rfl)) rfl)
  (ao (eE (cE hr) (pv 5) (ar ai (ar a4 (ar ai (pv 0) ae (λ_ _=>rfl)) (pv 6) (λ_ _=>rfl)) ae (λ_ _=>rfl)) (ar ai (ar a4 (ar ai (pv 0) ae (λ_ _=>rfl)) (pv 6) (λ_ _=>rfl)) ae (λ_ _=>rfl)) rfl))))
  (ah (cS PassesOwn.never rfl (bA (K:=K) (pv 2)) (a9 (i:=7) nd rfl (.inl rfl)) (ao (bw (aP bG (ar ai (pv 7) ae (λ_ _=>rfl)) a7 (a5 _)) (ao (eE (cE hr) (pv 4) (ar ai (pv 7) ae (λ_ _=>rfl)) (a8 (fO rfl) (by rfl) T.z_min rfl (aa (ar ai (pv 7) ae (λ_ _=>rfl)) (aa (cH (cE hr) (pv 5) (ar ai (pv 7) ae (λ_ _=>rfl)) (λ_ _=>rfl)) ag (se rfl)) (se rfl)) (he:=se rfl) (hpl:=na rfl)) rfl))
   (ao (bw (aP bG (ar ai (pv 7) ae (λ_ _=>rfl)) a7 (a5 _)) (ao (eE (cE hr) (pv 4) (ar ai (pv 7) ae (λ_ _=>rfl)) (a8 (fO rfl) (by rfl) T.z_min rfl (aa (aG aQ (cH (cE hr) (pv 4) (ar ai (pv 7) ae (λ_ _=>rfl)) (λ_ _=>rfl)) (ar ai (pv 7) ae (λ_ _=>rfl))) (aa (cH (cE hr) (pv 5) (ar ai (pv 7) ae (λ_ _=>rfl)) (λ_ _=>rfl)) ag (se rfl)) (se rfl)) (he:=se rfl) (hpl:=na rfl)) rfl))
   (ao (bw (aP bG (ar ai (pv 7) ae (λ_ _=>rfl)) a7 (a5 _)) (ao (eE (cE hr) (pv 4) (ar ai (pv 7) ae (λ_ _=>rfl)) (a8 (fO rfl) (by rfl) T.z_min rfl (aa (aG aQ (cH (cE hr) (pv 4) (ar ai (pv 7) ae (λ_ _=>rfl)) (λ_ _=>rfl)) (pv 3)) (aa (cH (cE hr) (pv 5) (ar ai (pv 7) ae (λ_ _=>rfl)) (λ_ _=>rfl)) ag (se rfl)) (se rfl)) (he:=se rfl) (hpl:=na rfl)) rfl))
   (ah (eE (cE hr) (pv 4) (ar ai (pv 7) ae (λ_ _=>rfl)) (a8 (fO rfl) (by rfl) T.z_min rfl (aa (aG aQ (cH (cE hr) (pv 4) (ar ai (pv 7) ae (λ_ _=>rfl)) (λ_ _=>rfl)) (cH (cE hr) (pv 4) (ar ai (pv 7) ae (λ_ _=>rfl)) (λ_ _=>rfl))) (aa (cH (cE hr) (pv 5) (ar ai (pv 7) ae (λ_ _=>rfl)) (λ_ _=>rfl)) ag (se rfl)) (se rfl)) (he:=se rfl) (hpl:=na rfl)) rfl)
  (ao (eE (cE hr) (pv 4) (ar ai (pv 7) ae (λ_ _=>rfl)) ae rfl))))))))))
  (ao (aY (cO rfl (N:=["_law_game_here","_law_counts","_law_deeds_here","_law_thrown","_law_held","_law_caps","_law_k","_law_deed"]) (so:=aq (top 59)) (N':=["_law_name","_law_most","_law_held"]) (k:=2) (fr:=[4]) rfl rfl ⟨rfl,∅,∅,∅,rfl,∅,∅⟩ (bA (K:=K) (ar ai (pv 0) ae (λ_ _=>rfl))) (λ_ _ _ _ _=>(fJ (K:=K) (n:=2) rfl (bX (a9 (i:=0) (show(["_law_name","_law_most","_law_held"]:List Str).Nodup by decide +kernel) rfl (.inl rfl)) (bX (a9 (i:=1) (show(["_law_name","_law_most","_law_held"]:List Str).Nodup by decide +kernel) rfl (.inl rfl)) fI)))) (λ_ _ _ _ _=>dH)
   (λ_ _ _ _ _=>(cH (cE hr) (pv 2) (pv 0) (λ_ _=>rfl)))))))))),?_⟩
  refine(?_:let bY:TS:=_;let bZ:TS:=_;let b5:TS:=_;let cY:TS:=_;let pP:TS:=_;tSeq bY (tSeq bZ (tSeq b5 (tSeq cY pP))) _ _ _);intro bY bZ b5 cY pP;have sl:=sizeLine_eq;symm;obtain⟨gp,cv,pv,rfl,zm,rc,rp⟩:=bN.mp (show Rep H (.tup _) gv from rg);obtain⟨cl,yG,rfl,fX,tZ⟩:=bh.mp (show Rep H (.lst _) cv from rc);obtain⟨dl,gL,rfl,NS,HL⟩:=bh.mp rd;nofun;clear G_;have lcs:=gg.lc;have len:=tZ.length;rw[ZA] at len;have HM:=HL.length;rw[ZA] at HM;change tSeq _ _ _ _ _;refine aU (λN=>∀H1 d1,aF H H1->H d1=none->H1 d1=some (.dK [])->N [some (.ref gp),some (.ref l),some (.ref dl),some (.int v),some (.ref d1),none,none,none] H1) ?_ (λN hN=>?_)
  case refine_2=>
   dsimp?[];exact λd1 n1=>hN _ d1 (aD n1) n1 aj
  rintro H1 d1 s1 n1 e1;change tSeq _ _ _ _ _;refine aU (λN=>∀H2 d2,aF H1 H2->H1 d2=none->H2 d2=some (.dK [])->N [some (.ref gp),some (.ref l),some (.ref dl),some (.int v),some (.ref d1),some (.ref d2),none,none] H2) ?_ (λN hN=>?_)
  case refine_2=>
   dsimp?[];exact λd2 n2=>hN _ d2 (aD n2) n2 aj
  rintro H2 d2 s2 n2 e2;have Xx:=s2 _ _ e1;have z2:H d2=none:=none_of s1 n2;have Oo:d1≠d2:=λz=>by rw[<-z,e1] at n2;cases n2
  have AN:=s1.trans s2;have fresh:∀{i:Nat} (hi:i<g.cs.length),(g.cs[i]).1∉(g.cs.take i).map (·.1):=λ{i} hi m=>by
   rw[List.map_take] at m;symm;obtain⟨j,hj,e⟩:=List.mem_take_iff_getElem.mp m;nofun;have Xy:=gg.nc;rw[ZA] at hj;have e2:(g.cs.map (·.1))[j]'(by rw[ZA];lia)=(g.cs.map (·.1))[i]'(by rw[ZA];lia):=by rw[e,List.getElem_map]
   have:=(List.getElem_inj Xy).mp e2;lia
  change tSeq _ _ _ _ _;refine aU (λN=>∀H3,(∀a o,H a=some o->H3 a=some o)->H3 d1=some (.dK (zK g.cs ns))->H3 d2=some (.dK (zK g.cs (g.cs.map (·.2))))->∀z6 z7,N [some (.ref gp),some (.ref l),some (.ref dl),some (.int v),some (.ref d1),some (.ref d2),z6,z7] H3) ?_ (λN hN=>?_)
  case refine_2=>
   dsimp?[AN _ _ hl];rw[ZA];refine⟨by lia,by lia,?_⟩;rw[ZX];refine cu (src_range (Ok:=λ_=>True)) (λi σ H3=>aF H H3/\H3 d1=some (.dK (zK (g.cs.take i) (ns.take i)))/\H3 d2=some (.dK (zK (g.cs.take i) ((g.cs.map (·.2)).take i)))/\∃z6 z7,σ=[some (.ref gp),some (.ref l),some (.ref dl),some (.int v),some (.ref d1),some (.ref d2),z6,z7]) ⟨AN,Xx,e2,_,_,rfl⟩ (λ_ _ _ _ _=>trivial) ?_ ?_
   ·intro i x σ H3 H4 hi gN gO;symm;obtain⟨s3,a1,a2,z6,z7,rfl⟩:=gN;obtain⟨rfl,rfl⟩:=gO;nofun;clear G_;have Jq:i<g.cs.length:=by lia
    have ec:=ZH Jq;obtain⟨cv,ev,RV⟩:=tZ.at (i:=i) (by rw[ZE,ec];rfl);symm;obtain⟨cq,b1,b2,rfl,Ia,q1,q2⟩:=bN.mp (show Rep _ (.tup _) cv from RV);obtain rfl:=aR.mp q1;obtain rfl:=bF.mp q2;nofun;clear G_;simp only[gName,Z4,Z3,aal];change tSeq _ _ _ _ _;refine aU (λN=>N [some (.ref gp),some (.ref l),some (.ref dl),some (.int v),some (.ref d1),some (.ref d2),some (.int (i:Int)),z7] (upd H4 d1 (.dK (zK (g.cs.take (i+1)) (ns.take (i+1)))))) ?_ (λN hN=>?_)
    case refine_2=>
     dsimp?[sDPut,s3 _ _ zm,s3 _ _ fX,s3 _ _ hl];refine⟨_,eR (by lia),_,bT ev,_,rfl,_,s3 _ _ Ia,_,at0,_,.inl ⟨_,Sum.inr (g.cs[i]).1,a1,rfl,by rw[AL (by rw[ZV,ZV];lia),ZV];lia,rfl⟩,?_⟩;rw[jK (wY (fresh Jq)),<-wX _ _ (by rw[ZV,ZV];lia),<-take_snoc Jq,wZ (show i<ns.length by lia),<-take_snoc (show i<ns.length by lia)];exact hN
    have up:∀{a o},H a=some o->upd H4 d1 (.dK (zK (g.cs.take (i+1)) (ns.take (i+1)))) a=some o:=λ{a o} h=>by
     rw[aw (λz=>by rw[z,n1] at h;cases h)];exact s3 _ _ h
    have Xz:upd H4 d1 (.dK (zK (g.cs.take (i+1)) (ns.take (i+1)))) d2=some (.dK (zK (g.cs.take i) ((g.cs.map (·.2)).take i))):=by rw[aw (Ne.symm Oo)];exact a2
    have XA:upd H4 d1 (.dK (zK (g.cs.take (i+1)) (ns.take (i+1)))) d1=some (.dK (zK (g.cs.take (i+1)) (ns.take (i+1)))):=aj;generalize upd H4 d1 (.dK (zK (g.cs.take (i+1)) (ns.take (i+1))))=H5 at *;dsimp?[sDPut,up zm,up fX];refine⟨_,bT ev,_,rfl,_,up Ia,_,at1,_,bT ev,_,rfl,_,up Ia,_,at0,_,.inl ⟨_,Sum.inr (g.cs[i]).1,Xz,rfl,by rw[AL (by rw[ZV,ZV,ZA]),ZV];lia,rfl⟩,λa o h=>?_,by rw[aw Oo];exact XA,?_,_,rfl⟩
    ·rw[aw (λz=>by rw[z,z2] at h;cases h)];exact up h
    ·rw[aj,jK (wY (fresh Jq)),<-wX _ _ (by rw[ZV,ZV,ZA]),<-take_snoc Jq];have RJ:i< (g.cs.map (·.2)).length:=by rw[ZA];exact Jq
     rw[show(g.cs[i]).2=(g.cs.map (·.2))[i]'RJ by rw[List.getElem_map],<-take_snoc RJ]
   ·intro σ H3 dA;symm;obtain⟨s3,a1,a2,z6,z7,rfl⟩:=dA;nofun;rw[ZQ (by lia),ZQ (by lia)] at a1;rw[ZQ (by lia),ZQ (by rw[ZA];lia)] at a2;exact hN _ s3 a1 a2 _ _
  rintro H3 s3 XB XC z6 z7;change tSeq _ _ _ _ _;refine aU (λN=>∀H4,(∀a o,H a=some o->H4 a=some o)->H4 d1=some (.dK (zK g.cs (ds.foldl (iU g.cs v) ns)))->∀z6 z7,N [some (.ref gp),some (.ref l),some (.ref dl),some (.int v),some (.ref d1),some (.ref d2),z6,z7] H4) ?_ (λN hN=>?_)
  case refine_2=>
   dsimp?[];refine⟨⟨_,bL.of (s3 _ _ NS)⟩,cu (src_list (Ok:=λH'=>aF H H') (λH' s'=>bL.of (s' _ _ NS))) (λi σ H4=>aF H H4/\H4 d1=some (.dK (zK g.cs ((ds.take i).foldl (iU g.cs v) ns)))/\H4 d2=some (.dK (zK g.cs (g.cs.map (·.2))))/\∃z6 z7,σ=[some (.ref gp),some (.ref l),some (.ref dl),some (.int v),some (.ref d1),some (.ref d2),z6,z7]) ⟨s3,XB,XC,_,_,rfl⟩ (λ_ _ _ _ h=>h.1) ?_ ?_⟩
   ·intro i x σ H4 H5 hi gN gO;symm;obtain⟨s4,a1,a2,z6,z7,rfl⟩:=gN;obtain⟨rfl,ex⟩:=gO;obtain⟨dd,ed,LP⟩:=HL.get ex;rw[ZE] at ed;obtain⟨d,Nx,rfl⟩:=aaH.mp ed;nofun;clear G_;obtain⟨cX,XD⟩:=aaI.mp Nx;have C6:=gd d (ZS Nx);have zj:((ds.take i).foldl (iU g.cs v) ns).length=g.cs.length:=(de _ _).trans ln;have nx:(ds.take (i+1)).foldl (iU g.cs v) ns=iU g.cs v ((ds.take i).foldl (iU g.cs v) ns) d:=by
     rw[take_snoc cX,XD,List.foldl_append];rfl
    rw[nx];generalize (ds.take i).foldl (iU g.cs v) ns=cur at *;have up:∀{k:List (Key×V)} {a o},H a=some o->upd H5 d1 (.dK k) a=some o:=λ{k a o} h=>by
     rw[aw (λz=>by rw[z,n1] at h;cases h)];exact s4 _ _ h
    have Il:∀{H':Hp} {n},H' d2=some (.dK (zK g.cs (g.cs.map (·.2))))->n∈g.cs.map (·.1)->jQ H' d2 (.str n) (some (.int (most g.cs (bK g.cs n)))):=λ{H' n} h hn=>.inl ⟨_,Sum.inr n,.inl h,rfl,(wW (by rw[ZA]) hn).symm⟩;have Im:∀{H':Hp} {n} {c:List Int},H' d1=some (.dK (zK g.cs c))->c.length=g.cs.length->n∈g.cs.map (·.1)->jQ H' d1 (.str n) (some (.int (c.getD (bK g.cs n) 0))):=λ{H' n c} h l hn=>.inl ⟨_,Sum.inr n,.inl h,rfl,(wW l hn).symm⟩;have FQ:∀{H':Hp} {n} {c:List Int} {k:V},H' d1=some (.dK (zK g.cs c))->c.length=g.cs.length->zT H' d1 (.str n) k (upd H' d1 (.dK (putK (zK g.cs c) (Sum.inr n) k))):=λ{H' n c k} h hc=>.inl ⟨_,Sum.inr n,h,rfl,by rw[AL hc];lia,rfl⟩;have fin:∀(n:Str) (k':Int) (z:Option V),n∈g.cs.map (·.1)->iU g.cs v cur d=cur.set (bK g.cs n) k'->aF H (upd H5 d1 (.dK (putK (zK g.cs cur) (Sum.inr n) (.int k'))))/\upd H5 d1 (.dK (putK (zK g.cs cur) (Sum.inr n) (.int k'))) d1=some (.dK (zK g.cs (iU g.cs v cur d)))/\upd H5 d1 (.dK (putK (zK g.cs cur) (Sum.inr n) (.int k'))) d2=some (.dK (zK g.cs (g.cs.map (·.2))))/\∃x,z=x:=λn k' z hn e=>⟨λa o h=>up h,by rw[aj,AK gg.nc zj hn,e],by rw[aw (Ne.symm Oo)];exact a2,_,rfl⟩
    have mn:∀a b:Int,(if b<a then b else a)=min a b:=λa b=>by split <;>lia
    simp only[gName,Z4,Z3];cases d with
    | set n k=>
     symm;obtain⟨q,v1,v2,v3,rfl,hq,r1,r2,r3⟩:=dQ.mp (show Rep H (.tup _) x from LP);nofun;rw[aR.mp r1,aR.mp r2,bF.mp r3] at hq;have hq:=s4 _ _ hq;refine dE (λY N k=>by dsimp?[hq];exact k) ?_;dsimp?[sDPut,hq];refine⟨_,Il a2 C6,_,rfl,_,FQ a1 zj,?_⟩;rw[mn];exact fin n _ _ C6 rfl
    | plus n k=>
     symm;obtain⟨q,v1,v2,v3,rfl,hq,r1,r2,r3⟩:=dQ.mp (show Rep H (.tup _) x from LP);nofun;rw[aR.mp r1,aR.mp r2,bF.mp r3] at hq;have hq:=s4 _ _ hq;refine dq (λY N k=>by dsimp?[hq];rw[if_neg ∅];exact k) ?_;refine dE (λY N k=>by dsimp?[hq];exact k) ?_;dsimp?[sDPut,hq];refine⟨_,Im a1 zj C6,_,rfl,_,Il a2 C6,_,rfl,_,FQ a1 zj,?_⟩;rw[mn];exact fin n _ _ C6 rfl
    | face n=>
     symm;obtain⟨q,v1,v2,rfl,hq,r1,r2⟩:=bN.mp (show Rep H (.tup _) x from LP);nofun;rw[aR.mp r1,aR.mp r2] at hq;have hq:=s4 _ _ hq;refine dq (λY N k=>by dsimp?[hq];rw[if_neg ∅];exact k) ?_;refine dq (λY N k=>by dsimp?[hq];rw[if_neg ∅];exact k) ?_;refine dE (λY N k=>by dsimp?[hq];exact k) ?_;dsimp?[sDPut,hq];refine⟨_,Im a1 zj C6,_,rfl,_,Il a2 C6,_,rfl,_,FQ a1 zj,?_⟩;rw[mn];exact fin n _ _ C6 rfl
    | move n m=>
     symm;obtain⟨q,v1,v2,v3,rfl,hq,r1,r2,r3⟩:=dQ.mp (show Rep H (.tup _) x from LP);nofun;rw[aR.mp r1,aR.mp r2,aR.mp r3] at hq;have Ji:=s4 _ _ hq;refine dq (λY N k=>by dsimp?[Ji];rw[if_neg ∅];exact k) ?_;refine dq (λY N k=>by dsimp?[Ji];rw[if_neg ∅];exact k) ?_;refine dq (λY N k=>by dsimp?[Ji];rw[if_neg ∅];exact k) ?_;dsimp?[sDPut,Ji];refine⟨_,Im a1 zj C6.2,_,Im a1 zj C6.1,_,rfl,_,rfl,_,Il a2 C6.2,_,rfl,_,FQ a1 zj,?_⟩;rw[mn,AK gg.nc zj C6.2];have xr:(cur.set (bK g.cs m) (min (cur.getD (bK g.cs m) 0+cur.getD (bK g.cs n) 0) (most g.cs (bK g.cs m)))).length=g.cs.length:=by rw[List.length_set];exact zj
     refine⟨_,up hq,_,at1,_,FQ aj xr,λa o h=>?_,?_,?_,_,rfl⟩
     ·rw[aw (λz=>by rw[z,n1] at h;cases h)];exact up h
     ·rw[aj,AK gg.nc xr C6.1];rfl
     ·rw[aw (Ne.symm Oo),aw (Ne.symm Oo)];exact a2
   ·intro σ H4 dA;symm;obtain⟨s4,a1,a2,z6,z7,rfl⟩:=dA;nofun;rw[ZQ (by lia)] at a1;exact hN _ s4 a1 _ _
  rintro H4 s4 RX z6 z7;dsimp?[s4 _ _ zm];refine⟨⟨_,bL.of (s4 _ _ fX)⟩,?_⟩;have S:Src (xC K cl) (aF H4) yG.length _:=src_list (λH' s'=>bL.of (s' _ _ (s4 _ _ fX)));rw[<-len] at S;have fl:(ds.foldl (iU g.cs v) ns).length=g.cs.length:=(de _ _).trans ln;refine rK (K:=K) g.cs (λc=>some ((ds.foldl (iU g.cs v) ns).getD (bK g.cs c.1) 0)) S (λ_ _ _ _ h=>h.1) (by lia) ?_ ?_
  ·rintro i c y ec ⟨_,ey⟩;symm;obtain⟨d,ed,rd⟩:=tZ.get ey;nofun;rw[ZE,ec] at ed;cases ed;symm;obtain⟨cq,b1,b2,rfl,Ia,q1,q2⟩:=bN.mp (show Rep _ (.tup _) y from rd);obtain rfl:=aR.mp q1;nofun;refine⟨cq,_,_,rfl,kz.of (s4 _ _ Ia),λY N y1 y2=>?_⟩;unfold t7;refine DL ?_;dsimp?[];have hc:c.1∈g.cs.map (·.1):=aaJ.mpr ⟨c,ZS ec,rfl⟩;exact⟨_,.inl ⟨_,Sum.inr c.1,.inl RX,rfl,(wW fl hc).symm⟩,y1 _ rfl⟩
  ·intro D Rf Zk;refine kk D _ (aF.trans s4 (aD Rf)) (none_of s4 Rf) ?_;rw[aj,List.filterMap_eq_map'];congr 3;exact Fy gg.nc fl
theorem gq:aZ ["_law_game_here","_law_counts","_law_when","_law_number_here"] ["_law_game_here","_law_counts","_law_when"] (aq (top 60)):=⟨rfl,rfl,rfl,∅,rfl,∅,∅⟩
theorem LQ (T:Txt K mg aB aH aI aV aE aL aW aM aA aN aX af av):cg P w K mg base (br P w) 2 "_law_holds_when" ["_law_game_here","_law_counts","_law_when"] Fz:=by
 have dZ:cg P w K mg base (br P w) 1 "_law_number" ["_law_game_here","_law_counts","_law_name"] sT:=AO T;refine T.mR.dJ (λ_ _ _ _ _ _=>uu λ_ _ _=>rfl) λf fd F=>F.eC gq (λvs H Q E h=>?_) (λcf A outer s H vs Q E hr h=>?_)
 ·obtain⟨_,_,_,_,_,_,rfl,_⟩:=h;rfl
 ·symm;obtain⟨gv,l,wv,g,ns,wh,rfl,rg,gg,hl,ln,rw,wk,kk⟩:=h;nofun;have nd:=gq.nd;refine⟨_,(ah (bw (aP zz (pv 2) qX (a5 _)) (ao (aY ky))
   ba)
  (ah (aJ (i:=3) nd rfl (.inl rfl) (aO dZ (hr.mono ∅) rfl au.pass (aa (pv 0) (aa (pv 1) (aa (ar ai (pv 2) ae (λ_ _=>rfl)) ag (se rfl)) (se rfl)) (se rfl)) (he:=se rfl) (hpl:=na rfl)))
  (ao (aY (gz bG (gz A8 (pv 3) (ar ai (pv 2) ae (λ_ _=>rfl)) (a5 _)) (gz bG (ar ai (pv 2) ae (λ_ _=>rfl)) a7 (a5 _)) (a5 _)))))),?_⟩
  refine(?_:let bY:TS:=_;let bZ:TS:=_;let b5:TS:=_;tSeq bY (tSeq bZ b5) _ _ _);intro bY bZ b5;have sl:=sizeLine_eq;cases wh with
  | none=>
   rw[KW,Rep] at rw;subst rw;dsimp?[];exact kk _ (aF.refl _)
  | some w=>
   symm;obtain⟨n,y,k⟩:=w;obtain⟨q,v1,v2,v3,rfl,hq,r1,r2,r3⟩:=dQ.mp (show Rep H (.tup _) wv from rw);obtain rfl:=aR.mp r1;obtain rfl:=aR.mp r2;obtain rfl:=bF.mp r3;nofun;dsimp?[sT,hq];rw[if_neg (by intro z;cases z)];refine⟨g,rg,gg,ns,hl,ln,wk.1,λH' s'=>⟨_,s' _ _ hq,_,at2,_,rfl,_,s' _ _ hq,_,at1,rfl,?_⟩⟩;have e:decide (decide (k<=ns.getD (bK g.cs n) 0)=decide (V.str y=V.str "from"))=lL g.cs ns (some (n,y,k)):=by
    refine Eq.trans ?_ (if_pos wk.1).symm
    by_cases e:y=Zz "from"
    ·rw[if_pos e,e]
     by_cases z:k<=ns.getD (bK g.cs n) 0 <;>simp [z]
    ·rw[if_neg e]
     by_cases z:k<=ns.getD (bK g.cs n) 0
     ·simp [z,e,Int.not_lt.mpr z]
     ·simp [z,e,Int.lt_of_not_ge z]
   rw[e];exact kk _ s'
theorem nJ:aZ ["_law_game_here","_law_state","_law_what_here"] ["_law_game_here","_law_state"] (aq (top 61)):=⟨rfl,rfl,rfl,∅,rfl,∅,∅⟩
theorem Px {α:Type} {x y z u:α} {l:List α}:iX (x::y::z::u::l) 3=some u:=bT (j:=3) rfl
theorem oU {H:Hp}:∀rs:List Rw,bo H (rs.map λr=>Dat.str r.word) (rs.map λr=>V.str r.word)
 | []=>bI.mpr rfl
 | _::rs=>aT.mpr ⟨_,_,rfl,aR.mpr rfl,oU rs⟩
theorem AQ (T:Txt K mg aB aH aI aV aE aL aW aM aA aN aX af av):cg P w K mg base (br P w) 3 "_law_open" ["_law_game_here","_law_state"] sU:=by
 have ck:cg P w K mg base (br P w) 1 "_law_what" ["_law_game_here","_law_name"] gn:=oS T;have uC:cg P w K mg base (br P w) 1 "_law_values" ["_law_pool"] Fx:=LN T;have nK:cg P w K mg base (br P w) 2 "_law_holds_when" ["_law_game_here","_law_counts","_law_when"] Fz:=LQ T;refine T.yj.dJ (λ_ _ _ _ _ _=>eG λ_ _=>rfl) λf fd F=>F.eC nJ (λvs H Q E h=>?_) (λcf A outer s H vs Q E hr h=>?_)
 ·obtain⟨_,_,_,_,_,_,rfl,_⟩:=h;rfl
 ·symm;obtain⟨gv,sv,g,gs,st,x,rfl,rg,gg,kY,ln,lk,wk,kk⟩:=h;nofun;have nd:=nJ.nd;refine⟨_,(ah (aJ (i:=2) nd rfl (.inl rfl) (aO ck (hr.mono ∅) rfl au.pass (aa (pv 0) (aa (ar ai (pv 1) ae (λ_ _=>rfl)) ag (se rfl)) (se rfl)) (he:=se rfl) (hpl:=na rfl)))
  (ah (bw (aP bG (ar ai (pv 2) ae (λ_ _=>rfl)) a7 (a5 _)) (ao (aY (aO uC (hr.mono ∅) rfl au.pass (aa (ar ai (pv 2) ae (λ_ _=>rfl)) ag (se rfl)) (he:=se rfl) (hpl:=na rfl))))
   ba)
  (ah (bw (aP bG (ar ai (pv 2) ae (λ_ _=>rfl)) a7 (a5 _)) (ao (aY (cO rfl (N:=["_law_game_here","_law_state","_law_what_here"]) (so:=aq (top 61)) (N':=["_law_row","_law_game_here","_law_state"]) (k:=1) (fr:=[0,1]) rfl rfl ⟨rfl,∅,∅,∅,rfl,∅,∅⟩ (bA (K:=K) (ar ai (pv 2) ae (λ_ _=>rfl))) (λ_ _ _ _ _=>(a9 (i:=0) (show(["_law_row","_law_game_here","_law_state"]:List Str).Nodup by decide +kernel) rfl (.inl rfl))) (λ_ _ _ _ _=>(eF (ie (aO nK (hr.mono ∅) rfl au.pass (aa (pv 1) (aa (ar ai (pv 2) ae (λ_ _=>rfl)) (aa (ar ai (pv 0) ae (λ_ _=>rfl)) ag (se rfl)) (se rfl)) (se rfl)) (he:=se rfl) (hpl:=na rfl)))))
   (λ_ _ _ _ _=>(ar ai (pv 0) ae (λ_ _=>rfl))))))
   ba)
  (ao (aY (cb ag)))))),?_⟩
  refine(?_:let bY:TS:=_;let bZ:TS:=_;let b5:TS:=_;let cY:TS:=_;tSeq bY (tSeq bZ (tSeq b5 cY)) _ _ _);intro bY bZ b5 cY;have sl:=sizeLine_eq;symm;obtain⟨sa,cl,rfl,gQ,fX⟩:=id kY;nofun;change tSeq _ _ _ _ _;refine aU (λN=>∀H1 v,aF H H1->Rep H1 (jU x) v->N [some gv,some (.ref sa),some v] H1) ?_ (λN hN=>?_)
  case refine_2=>
   dsimp?[gn,gQ];exact⟨g,rg,gg,x,lk,λu H1 s1 ru=>hN _ u s1 (ru.mono s1)⟩
  rintro H1 v s1 rv;symm;obtain⟨q,CC,rfl,hq⟩:=nh rv;nofun;change tSeq _ _ _ _ _
  by_cases ke:t4 x=Zz "throw"
  ·symm;obtain⟨c5,t,b,rs,rfl⟩:=oO ke;obtain⟨ps,rfl,gl,_⟩:=wk;nofun;refine aU (λ_=>True) trivial (λN _=>?_);refine dE (λY N k=>by dsimp?[hq];rw[if_pos ke];exact k) ?_;symm;obtain⟨q',v1,v2,v3,v4,e0,oa,r1,r2,r3,r4⟩:=dr.mp (show Rep H1 (.tup _) (.ref q) from rv);nofun;cases e0;dsimp?[Fx,oa];exact⟨ps,r2,gl,λl H2 s2 nl hl=>kk l H2 _ (s1.trans s2) (none_of s1 nl) (bh.mpr ⟨l,_,rfl,hl,ints_rep _⟩) ⟨ps,rfl,gl,rfl⟩⟩
  refine aU (λN=>N [some gv,some (.ref sa),some (.ref q)] H1) ?_ (λN hN=>?_)
  case refine_2=>
   refine dq (λY N k=>?_) hN;dsimp?[hq];rw[if_neg ke];exact k
  change tSeq _ _ _ _ _
  by_cases kp:t4 x=Zz "pick"
  ·symm;obtain⟨kI,rs,rfl⟩:=wM kp;obtain⟨w4,_,wr⟩:=id wk;obtain⟨q',v1,v2,v3,e0,oa,r1,r2,r3⟩:=dQ.mp (show Rep H1 (.tup _) (.ref q) from rv);nofun;cases e0;rw[aR.mp r1,bF.mp r2] at oa;symm;obtain⟨rl,ys,rfl,qL,ry⟩:=bh.mp r3;nofun;refine aU (λ_=>True) trivial (λN _=>?_);refine dE (λY N k=>by dsimp?[hq];rw[if_pos kp];exact k) ?_;dsimp?[oa,s1 _ _ gQ];have oQ:=ry.length;rw[ZA,ZA] at oQ;have Ma:rs.length<=100:=by have:=w4.1;lia
   refine⟨⟨_,bL.of qL⟩,gW (src_list (λH' s'=>bL.of (s' _ _ qL))) (λσ=>∃w0,σ=[w0,some gv,some (.ref sa)]) ⟨_,rfl⟩ (λi zs _=>zs=((rs.take i).filter λr=>lL g.cs st.2 r.wh).map λr=>V.str r.word) rfl (by lia) ?_ ?_⟩
   ·rintro i y σ H2 zs H3 Q2 N2 hi s2 ez _ ⟨w0,rfl⟩ ⟨rfl,ey⟩ kq kn;subst ez;symm;obtain⟨r',p,_,b1,b2,b3,er,rfl,hp,RP,_⟩:=jM ry ey;nofun;obtain⟨XF,XG⟩:=aaI.mp er;have AN:=s1.trans s2;have wo:=(wr r' (ZS er)).2.1;have nx:rs.take (i+1)=rs.take i++ [r']:=by rw[take_snoc XF,XG]
    dsimp?[Fz,s2 _ _ hp,AN _ _ gQ];refine⟨g,rg.mono AN,gg,st.2,AN _ _ fX,ln,_,RP.mono s2,wo,λH4 s4=>?_⟩
    by_cases hh:lL g.cs st.2 r'.wh=true
    ·rw[if_pos hh];exact⟨_,(s2.trans s4) _ _ hp,_,at0,kq _ _ _ ⟨_,rfl⟩ (s2.trans s4) (by rw[nx,List.filter_append,ZG];simp [hh])⟩
    ·rw[if_neg hh];exact kn _ _ ⟨_,rfl⟩ (s2.trans s4) (by rw[nx,List.filter_append,ZG];simp [hh])
   ·rintro zs H2 s2 ez _ D n1 n2;rw[oQ.symm,ZQ (ZD _)] at ez;subst ez;refine kk D _ _ (s1.trans (s2.trans (aD n2))) (none_of s1 n1) (bh.mpr ⟨D,_,rfl,aj,?_⟩) rfl;exact oU _
  ·refine aU (λN=>N [some gv,some (.ref sa),some (.ref q)] H1) ?_ (λN hN=>?_)
   case refine_2=>
    refine dq (λY N k=>?_) hN;dsimp?[hq];rw[if_neg kp];exact k
   dsimp?[];refine⟨ZM _,λa na=>kk a _ [] (s1.trans (aD na)) (none_of s1 na) (bh.mpr ⟨a,[],rfl,aj,bI.mpr rfl⟩) ?_⟩;cases x with
   | dN c5 t b rs=>exact absurd rfl ke
   | pick w rs=>exact absurd rfl kp
   | ask c k a b=>rfl
   | fin t b=>rfl
   | score c=>rfl
theorem nM:aZ ["_law_game_here","_law_state","_law_step","_law_what_here","_law_row"] ["_law_game_here","_law_state","_law_step"] (aq (top 62)):=⟨rfl,rfl,rfl,∅,rfl,∅,∅⟩
theorem LR (T:Txt K mg aB aH aI aV aE aL aW aM aA aN aX af av):cg P w K mg base (br P w) 3 "_law_gone" ["_law_game_here","_law_state","_law_step"] FA:=by
 have ck:cg P w K mg base (br P w) 1 "_law_what" ["_law_game_here","_law_name"] gn:=oS T;have eK:cg P w K mg base (br P w) 2 "_law_arrived" ["_law_game_here","_law_name","_law_counts"] vy:=FP T;have pW:cg P w K mg base (br P w) 1 "_law_done" ["_law_game_here","_law_counts","_law_deeds_here","_law_thrown"] BV:=LO T;refine T.yk.dJ (λ_ _ _ _ _ _=>uu λ_ _ _=>rfl) λf fd F=>F.eC nM (λvs H Q E h=>?_) (λcf A outer s H vs Q E hr h=>?_)
 ·obtain⟨_,_,_,_,_,_,_,_,_,rfl,_⟩:=h;rfl
 ·symm;obtain⟨gv,sv,dv,g,st,d,w',py,gJ,rfl,rg,gg,kY,ln,LP,zk,kk⟩:=h;nofun;have nd:=nM.nd;refine⟨_,(ah (aJ (i:=3) nd rfl (.inl rfl) (aO ck (hr.mono ∅) rfl au.pass (aa (pv 0) (aa (ar ai (pv 1) ae (λ_ _=>rfl)) ag (se rfl)) (se rfl)) (he:=se rfl) (hpl:=na rfl)))
  (ah (bw (aP bG (ar ai (pv 3) ae (λ_ _=>rfl)) a7 (a5 _)) (ah (aJ (i:=4) nd rfl (.inl rfl) (ar a4 (cO rfl (N:=["_law_game_here","_law_state","_law_step","_law_what_here","_law_row"]) (so:=aq (top 62)) (N':=["_law_row","_law_step"]) (k:=1) (fr:=[2]) rfl rfl ⟨rfl,∅,∅,∅,rfl,∅,∅⟩ (bA (K:=K) (ar ai (pv 3) ae (λ_ _=>rfl))) (λ_ _ _ _ _=>(a9 (i:=0) (show(["_law_row","_law_step"]:List Str).Nodup by decide +kernel) rfl (.inl rfl))) (λ_ _ _ _ _=>(eF (xH A7 A7 (ar ai (pv 0) ae (λ_ _=>rfl)) (pv 1) (ar ai (pv 0) ae (λ_ _=>rfl)))))
   (λ_ _ _ _ _=>(pv 0))) ae (λ_ _=>rfl)))
  (ao (aY (aO eK (hr.mono ∅) rfl au.pass (aa (pv 0) (aa (ar ai (pv 4) ae (λ_ _=>rfl)) (aa (aO pW (hr.mono ∅) rfl au.pass (aa (pv 0) (aa (ar ai (pv 1) ae (λ_ _=>rfl)) (aa (ar ai (pv 4) ae (λ_ _=>rfl)) (aa (pv 2) ag (se rfl)) (se rfl)) (se rfl)) (se rfl)) (he:=se rfl) (hpl:=na rfl)) ag (se rfl)) (se rfl)) (se rfl)) (he:=se rfl) (hpl:=na rfl)))))
   ba)
  (ah (aJ (i:=4) nd rfl (.inl rfl) (ar a4 (cO rfl (N:=["_law_game_here","_law_state","_law_step","_law_what_here","_law_row"]) (so:=aq (top 62)) (N':=["_law_row","_law_step"]) (k:=1) (fr:=[2]) rfl rfl ⟨rfl,∅,∅,∅,rfl,∅,∅⟩ (bA (K:=K) (ar ai (pv 3) ae (λ_ _=>rfl))) (λ_ _ _ _ _=>(a9 (i:=0) (show(["_law_row","_law_step"]:List Str).Nodup by decide +kernel) rfl (.inl rfl))) (λ_ _ _ _ _=>(eF (aP bG (ar ai (pv 0) ae (λ_ _=>rfl)) (pv 1) (a5 _))))
   (λ_ _ _ _ _=>(pv 0))) ae (λ_ _=>rfl)))
  (ao (aY (aO eK (hr.mono ∅) rfl au.pass (aa (pv 0) (aa (ar ai (pv 4) ae (λ_ _=>rfl)) (aa (aO pW (hr.mono ∅) rfl au.pass (aa (pv 0) (aa (ar ai (pv 1) ae (λ_ _=>rfl)) (aa (ar ai (pv 4) ae (λ_ _=>rfl)) (aa ae ag (se rfl)) (se rfl)) (se rfl)) (se rfl)) (he:=se rfl) (hpl:=na rfl)) ag (se rfl)) (se rfl)) (se rfl)) (he:=se rfl) (hpl:=na rfl))))))),?_⟩
  refine(?_:let bY:TS:=_;let bZ:TS:=_;let b5:TS:=_;let cY:TS:=_;tSeq bY (tSeq bZ (tSeq b5 cY)) _ _ _);intro bY bZ b5 cY;have sl:=sizeLine_eq;symm;obtain⟨sa,cl,rfl,gQ,fX⟩:=id kY;nofun;rcases zk with ⟨kI,rs,r,lk,Ii,Oq,rfl,rfl,e2,ak⟩ | ⟨ps,t,b,rs,r,v,lk,gl,hv,v0,v1,rfl,rfl,rfl,ro,e2,ak⟩
  ·obtain rfl:=aR.mp LP;change tSeq _ _ _ _ _;refine aU (λN=>∀H1 v,aF H H1->Rep H1 (jU (.pick kI rs)) v->N [some gv,some (.ref sa),some (.str w'),some v,none] H1) ?_ (λN hN=>?_)
   case refine_2=>
    dsimp?[gn,gQ];exact⟨g,rg,gg,_,lk,λu H1 s1 ru=>hN _ u s1 (ru.mono s1)⟩
   rintro H1 v s1 rv;symm;obtain⟨q,v1,v2,v3,rfl,hq,r1,r2,r3⟩:=dQ.mp (show Rep H1 (.tup _) v from rv);rw[aR.mp r1,bF.mp r2] at hq;obtain⟨rl,ys,rfl,qL,ry⟩:=bh.mp r3;nofun;change tSeq _ _ _ _ _;refine aU (λN=>N [some gv,some (.ref sa),some (.str w'),some (.ref q),none] H1) ?_ (λN hN=>?_)
   case refine_2=>
    refine dq (λY N k=>?_) hN;dsimp?[hq];rw[if_neg ∅];exact k
   have gx:=gg.wt _ (c8 lk);have m8:=aax Oq;have Ot:r.word=w':=by have:=List.find?_some Oq;simpa using this
   have m8:r∈rs:=(List.mem_filter.mp m8).1;obtain⟨rest,er⟩:=BW Ii m8 Ot;obtain⟨LS,FR⟩:=gx.2 r m8;have oQ:=ry.length;rw[ZA,ZA] at oQ;have Ma:rs.length<=100:=gx.1;dsimp?[hq,vy,BV];have zl:(ys.zip rs).length=ys.length:=by rw[aaq];lia
   have S:Src (xC K rl) (aF H1) ys.length _:=src_list (λH' s'=>bL.of (s' _ _ qL));rw[<-zl] at S;refine⟨⟨_,bL.of qL⟩,eB (ys.zip rs) (λy=>if decide (y.2.word=w')=true then some y.1 else none) S (λ_ _ _ _ h=>h.1) (by lia) ?_ ?_⟩
   ·rintro i ⟨y,r'⟩ z Ll ⟨_,ez⟩ Y N3 y1 y2;obtain⟨e1,e2⟩:=List.getElem?_zip_eq_some.mp Ll;rw[e1] at ez;cases ez;symm;obtain⟨Zl,q',_,b1,b2,b3,Jf,rfl,oa,_,_⟩:=jM ry e1;nofun;rw[e2] at Jf;cases Jf;dsimp?[oa]
    by_cases e:r'.word=w'
    ·rw[if_pos e];exact y1 _ (if_pos (decide_eq_true e))
    ·rw[if_neg e];exact y2 (if_neg (by simpa using e))
   ·intro D n1 n2;have rf:=iw (p:=λr=>decide (r.word=w')) ry;rw[er] at rf;symm;obtain⟨y,zs,RY,RZ,_⟩:=aT.mp rf;nofun;rw[RY];symm;obtain⟨p,x1,x2,x3,x4,rfl,hp,q1,q2,q3,q4⟩:=dr.mp (show Rep H1 (.tup _) y from RZ);obtain rfl:=aR.mp q4;nofun;have sD:=aD (H:=H1) (o:=.lst (V.ref p::zs)) n2;have Io:=s1.trans sD;refine⟨_,aj,_,at0,p,rfl,_,sD _ _ hp,_,Px,_,Io _ _ gQ,_,at1,p,rfl,_,sD _ _ hp,_,at2,cl,rfl,g,rg.mono Io,gg,st.2,Io _ _ fX,ln,r.ds,q3.mono sD,LS,FR,λl' H3 s3 nl hl=>?_⟩;have nu:=Io.trans s3;rw[<-e2] at hl;exact⟨l',r.to,rfl,rfl,g,rg.mono nu,gg,gJ.2,hl,by rw[e2];exact(de _ _).trans ln,3,gJ.1,ak,λa l2 H4 s4 na R1 ea el=>kk a l2 H4 (nu.trans s4) (none_of nu na) (none_of nu R1) ea el⟩
  ·obtain rfl:=bF.mp LP;change tSeq _ _ _ _ _;refine aU (λN=>∀H1 u,aF H H1->Rep H1 (jU (.dN (ps.map qc) t b rs)) u->N [some gv,some (.ref sa),some (.int v),some u,none] H1) ?_ (λN hN=>?_)
   case refine_2=>
    dsimp?[gn,gQ];exact⟨g,rg,gg,_,lk,λu H1 s1 ru=>hN _ u s1 (ru.mono s1)⟩
   rintro H1 u s1 rv;symm;obtain⟨q,v1,v2,v3,v4,rfl,hq,r1,r2,r3,r4⟩:=dr.mp (show Rep H1 (.tup _) u from rv);rw[aR.mp r1] at hq;obtain⟨rl,ys,rfl,qL,ry⟩:=bh.mp r4;nofun;change tSeq _ _ _ _ _;refine aU (λ_=>True) trivial (λN _=>?_);refine dE (λY N k=>by dsimp?[hq];exact k) ?_;symm;obtain⟨g0,g1,g2⟩:=gg.wt _ (c8 lk);have hd:(rs.filter λr=>decide (r.1<=v) && decide (v<=r.2.1)).head?=some r:=by rw[List.head?_filter];exact ro
   obtain⟨rest,er⟩:∃rest,(rs.filter λr=>decide (r.1<=v) && decide (v<=r.2.1))=r::rest:=by
    cases h:rs.filter λr=>decide (r.1<=v) && decide (v<=r.2.1) with
    | nil=>rw[h] at hd;cases hd
    | cons a l=>rw[h] at hd;cases hd;exact⟨l,rfl⟩
   have m8:r∈rs:=aax ro;obtain⟨LS,FR⟩:=g2 r m8;nofun;have oQ:=ry.length;rw[ZA,ZA] at oQ;dsimp?[hq,vy,BV];have zl:(ys.zip rs).length=ys.length:=by rw[aaq];lia
   have S:Src (xC K rl) (aF H1) ys.length _:=src_list (λH' s'=>bL.of (s' _ _ qL));rw[<-zl] at S;refine⟨_,Px,rl,rfl,⟨_,bL.of qL⟩,eB (ys.zip rs) (λx=>if (decide (x.2.1<=v) && decide (v<=x.2.2.1))=true then some x.1 else none) S (λ_ _ _ _ h=>h.1) (by lia) ?_ ?_⟩
   ·rintro i ⟨y,r'⟩ z Ll ⟨_,ez⟩ Y N3 y1 y2;obtain⟨e1,e2⟩:=List.getElem?_zip_eq_some.mp Ll;rw[e1] at ez;cases ez;symm;obtain⟨dd,ed,rd⟩:=ry.get e1;nofun;rw[ZE,ZE,e2] at ed;cases ed;symm;obtain⟨p',a',b',c',d',rfl,t8,q1,q2,q3,q4⟩:=dr.mp (show Rep H1 (.tup _) y from rd);nofun;rw[show a'=.int r'.1 from bF.mp q1,show b'=.int r'.2.1 from bF.mp q2] at t8;dsimp?[t8]
    by_cases c1:r'.1<=v
    ·rw[if_pos c1]
     by_cases c2:v<=r'.2.1
     ·rw[if_pos c2];exact y1 _ (if_pos (by simp [c1,c2]))
     ·rw[if_neg c2];exact y2 (if_neg (by simp [c2]))
    ·rw[if_neg c1,if_neg ∅];exact y2 (if_neg (by simp [c1]))
   ·intro D n1 n2;have rf:=oK (p:=λr=>decide (r.1<=v) && decide (v<=r.2.1)) ry;rw[er] at rf;symm;obtain⟨y,zs,RY,RZ,_⟩:=aT.mp rf;nofun;rw[RY];symm;obtain⟨p,x1,x2,x3,x4,rfl,hp,q1,q2,q3,q4⟩:=dr.mp (show Rep H1 (.tup _) y from RZ);obtain rfl:=aR.mp q4;nofun;have sD:=aD (H:=H1) (o:=.lst (V.ref p::zs)) n2;have Io:=s1.trans sD;refine⟨_,aj,_,at0,p,rfl,_,sD _ _ hp,_,Px,_,Io _ _ gQ,_,at1,p,rfl,_,sD _ _ hp,_,at2,cl,rfl,g,rg.mono Io,gg,st.2,Io _ _ fX,ln,r.2.2.1,q3.mono sD,LS,FR,λl' H3 s3 nl hl=>?_⟩;have nu:=Io.trans s3;rw[<-e2] at hl;exact⟨l',r.2.2.2,rfl,rfl,g,rg.mono nu,gg,gJ.2,hl,by rw[e2];exact(de _ _).trans ln,3,gJ.1,ak,λa l2 H4 s4 na R1 ea el=>kk a l2 H4 (nu.trans s4) (none_of nu na) (none_of nu R1) ea el⟩
theorem nN:aZ ["_law_game_here","_law_state","_law_what_here"] ["_law_game_here","_law_state"] (aq (top 63)):=⟨rfl,rfl,rfl,∅,rfl,∅,∅⟩
theorem LU (T:Txt K mg aB aH aI aV aE aL aW aM aA aN aX af av):cg P w K mg base (br P w) 2 "_law_paid" ["_law_game_here","_law_state"] FC:=by
 have ck:cg P w K mg base (br P w) 1 "_law_what" ["_law_game_here","_law_name"] gn:=oS T;refine T.ym.dJ (λ_ _ _ _ _ _=>eG λ_ _=>rfl) λf fd F=>F.eC nN (λvs H Q E h=>?_) (λcf A outer s H vs Q E hr h=>?_)
 ·obtain⟨_,_,_,_,_,rfl,_⟩:=h;rfl
 ·symm;obtain⟨gv,sv,g,st,x,rfl,rg,gg,kY,lk,kk⟩:=h;nofun;have nd:=nN.nd;refine⟨_,(ah (aJ (i:=2) nd rfl (.inl rfl) (aO ck (hr.mono ∅) rfl au.pass (aa (pv 0) (aa (ar ai (pv 1) ae (λ_ _=>rfl)) ag (se rfl)) (se rfl)) (he:=se rfl) (hpl:=na rfl)))
  (ah (bw (aP bG (ar ai (pv 2) ae (λ_ _=>rfl)) a7 (a5 _)) (ao (aY (ar ai (pv 2) ae (λ_ _=>rfl))))
   ba)
  (ao (aY (bf (aa ae (aa ae ag (se rfl)) (se rfl))))))),?_⟩
  refine(?_:let bY:TS:=_;let bZ:TS:=_;let b5:TS:=_;tSeq bY (tSeq bZ b5) _ _ _);intro bY bZ b5;have sl:=sizeLine_eq;symm;obtain⟨sa,cl,rfl,gQ,fX⟩:=id kY;nofun;dsimp?[gn,gQ];refine⟨g,rg,gg,x,lk,λu H1 s1 ru=>?_⟩;symm;obtain⟨q,CC,rfl,hq⟩:=nh ru;nofun;refine⟨q,rfl,_,s1 _ _ hq,_,at0,rfl,?_⟩
  by_cases ek:t4 x=Zz "throw"
  ·symm;obtain⟨c5,t,b,rs,rfl⟩:=oO ek;nofun;rw[if_pos (congrArg V.str ek)];symm;obtain⟨q',v1,v2,v3,v4,e0,oa,r1,r2,r3,r4⟩:=dr.mp (show Rep H (.tup _) (.ref q) from ru);nofun;cases e0;exact⟨q,rfl,_,s1 _ _ oa,_,at2,kk _ _ s1 (r3.mono s1)⟩
  ·rw[if_neg (λz=>ek (by injection z))];refine⟨by lia,λp H2 s2 n2 e2=>kk _ _ (s1.trans s2) ?_⟩;have e:Ly x=(0,1):=by
    cases x with
    | dN c5 t b rs=>exact absurd rfl ek
    | ask c k a b=>rfl
    | fin t b=>rfl
    | score c=>rfl
    | pick w rs=>rfl
   rw[e];exact cA.mpr ⟨p,rfl,e2⟩
theorem ji:aZ ["_law_game_here","_law_state","_law_got","_law_what_here"] ["_law_game_here","_law_state","_law_got"] (aq (top 64)):=⟨rfl,rfl,rfl,∅,rfl,∅,∅⟩
theorem LV (T:Txt K mg aB aH aI aV aE aL aW aM aA aN aX af av):cg P w K mg base (br P w) 3 "_law_points" ["_law_game_here","_law_state","_law_got"] FD:=by
 have ck:cg P w K mg base (br P w) 1 "_law_what" ["_law_game_here","_law_name"] gn:=oS T;have dZ:cg P w K mg base (br P w) 1 "_law_number" ["_law_game_here","_law_counts","_law_name"] sT:=AO T;have gF:cg P w K mg base (br P w) 2 "_law_plus" ["_law_one","_law_other"] jc:=FE T;refine T.um.dJ (λ_ _ _ _ _ _=>uu λ_ _ _=>rfl) λf fd F=>F.eC ji (λvs H Q E h=>?_) (λcf A outer s H vs Q E hr h=>?_)
 ·obtain⟨_,_,_,_,_,_,_,rfl,_⟩:=h;rfl
 ·symm;obtain⟨gv,sv,Fj,g,st,pd,x,rfl,rg,gg,kY,ln,lk,Ou,zo,hw,kk⟩:=h;nofun;have nd:=ji.nd;refine⟨_,(ah (aJ (i:=3) nd rfl (.inl rfl) (aO ck (hr.mono ∅) rfl au.pass (aa (pv 0) (aa (ar ai (pv 1) ae (λ_ _=>rfl)) ag (se rfl)) (se rfl)) (he:=se rfl) (hpl:=na rfl)))
  (ah (bw (aP bG (ar ai (pv 3) ae (λ_ _=>rfl)) a7 (a5 _)) (ao (aY (aO gF (hr.mono ∅) rfl au.pass (aa (pv 2) (aa (ar ai (pv 3) ae (λ_ _=>rfl)) ag (se rfl)) (se rfl)) (he:=se rfl) (hpl:=na rfl))))
   ba)
  (ah (bw (aP bG (ar ai (pv 3) ae (λ_ _=>rfl)) a7 (a5 _)) (ao (aY (aO gF (hr.mono ∅) rfl au.pass (aa (pv 2) (aa (bf (aa (aO dZ (hr.mono ∅) rfl au.pass (aa (pv 0) (aa (ar ai (pv 1) ae (λ_ _=>rfl)) (aa (ar ai (pv 3) ae (λ_ _=>rfl)) ag (se rfl)) (se rfl)) (se rfl)) (he:=se rfl) (hpl:=na rfl)) (aa ae ag (se rfl)) (se rfl))) ag (se rfl)) (se rfl)) (he:=se rfl) (hpl:=na rfl))))
   ba)
  (ao (aY (pv 2)))))),?_⟩
  refine(?_:let bY:TS:=_;let bZ:TS:=_;let b5:TS:=_;let cY:TS:=_;tSeq bY (tSeq bZ (tSeq b5 cY)) _ _ _);intro bY bZ b5 cY;have sl:=sizeLine_eq;symm;obtain⟨sa,cl,rfl,gQ,fX⟩:=id kY;nofun;change tSeq _ _ _ _ _;refine aU (λN=>∀H1 v,aF H H1->Rep H1 (jU x) v->N [some gv,some (.ref sa),some Fj,some v] H1) ?_ (λN hN=>?_)
  case refine_2=>
   dsimp?[gn,gQ];exact⟨g,rg,gg,x,lk,λu H1 s1 ru=>hN _ u s1 (ru.mono s1)⟩
  rintro H1 v s1 rv;symm;obtain⟨q,CC,rfl,hq⟩:=nh rv;nofun
  by_cases ke:t4 x=Zz "end"
  ·symm;obtain⟨t,b,rfl⟩:=Lg ke;obtain⟨q',v1,v2,e0,oa,r1,r2⟩:=bN.mp (show Rep H1 (.tup _) (.ref q) from rv);nofun;cases e0;rw[aR.mp r1] at oa;dsimp?[oa,jc];exact⟨pd,Ou.mono s1,(t,b),r2,zo,hw _ rfl,λr H2 s2 n2 e2=>kk _ _ (s1.trans s2) (cA.mpr ⟨r,rfl,e2⟩)⟩
  ·change tSeq _ _ _ _ _;refine aU (λN=>N [some gv,some (.ref sa),some Fj,some (.ref q)] H1) ?_ (λN hN=>?_)
   case refine_2=>
    refine dq (λY N k=>?_) hN;dsimp?[hq];rw[if_neg ke];exact k
   by_cases ks:t4 x=Zz "score"
   ·obtain⟨c,rfl⟩:=E9 ks;symm;obtain⟨q',v1,v2,e0,oa,r1,r2⟩:=bN.mp (show Rep H1 (.tup _) (.ref q) from rv);nofun;cases e0;rw[aR.mp r1,aR.mp r2] at oa;have hc:c∈g.cs.map (·.1):=gg.wt _ (c8 lk);dsimp?[oa,jc,sT,s1 _ _ gQ];exact⟨g,rg.mono s1,gg,st.2,s1 _ _ fX,ln,hc,λH2 s2=>⟨by lia,λp H3 s3 np ep=>⟨pd,Ou.mono (s1.trans (s2.trans s3)),(st.2.getD (bK g.cs c) 0,1),cA.mpr ⟨p,rfl,ep⟩,zo,hw _ rfl,λr H4 s4 n4 e4=>kk _ _ (s1.trans (s2.trans (s3.trans s4))) (cA.mpr ⟨r,rfl,e4⟩)⟩⟩⟩
   ·change tSeq _ _ _ _ _;refine aU (λN=>N [some gv,some (.ref sa),some Fj,some (.ref q)] H1) ?_ (λN hN=>?_)
    case refine_2=>
     refine dq (λY N k=>?_) hN;dsimp?[hq];rw[if_neg ks];exact k
    have e:Fb g st pd x=pd:=by
     cases x with
     | fin t b=>exact absurd rfl ke
     | score c=>exact absurd rfl ks
     | dN c5 t b rs=>rfl
     | ask c k a b=>rfl
     | pick w rs=>rfl
    dsimp?[];exact kk _ _ s1 (by rw[e];exact Ou.mono s1)
theorem FT {g:Gm} {st:gM} {x:Wt} {ds es:List Dat} (h:Gq g st x ds) (k:Gq g st x es):ds=es:=by
 cases x with
 | dN c5 t b rs=>
  obtain⟨ps,e1,_,e2⟩:=h;obtain⟨qs,e3,_,e4⟩:=k;rw[e1] at e3;rw[e2,e4,ix e3]
 | ask c k' a b=>exact(show ds=_ from h).trans (show es=_ from k).symm
 | fin t b=>exact(show ds=_ from h).trans (show es=_ from k).symm
 | score c=>exact(show ds=_ from h).trans (show es=_ from k).symm
 | pick w rs=>exact(show ds=_ from h).trans (show es=_ from k).symm
theorem LW {g:Gm} {gs:List Str} {st:gM} {x:Wt} (h:jV g.cs gs x):∃ds,Gq g st x ds/\∀d∈ds,depth d=0:=by
 have other:∀{rs:List Rw},∀d∈rs.map (λr=>Dat.str r.word),depth d=0:=λ{rs} d hd=>by
  obtain⟨r,_,rfl⟩:=aaJ.mp hd;rfl
 cases x with
 | dN c5 t b rs=>
  obtain⟨ps,e,gl,_⟩:=h;refine⟨_,⟨ps,e,gl,rfl⟩,λd hd=>?_⟩;obtain⟨i,_,rfl⟩:=aaJ.mp hd;rfl
 | ask c k a b=>exact⟨_,rfl,other⟩
 | fin t b=>exact⟨_,rfl,other⟩
 | score c=>exact⟨_,rfl,other⟩
 | pick w rs=>exact⟨_,rfl,other⟩
theorem LX {g:Gm} {gs:List Str} {st:gM} (sk:CZ g gs st) {x:Wt} (wx:jV g.cs gs x):∀w,Aw g.cs st.2 x=some w->ng 100000 w:=λw e=>by
 cases x with
 | fin t b=>
  obtain⟨rfl,h1,h2⟩:=wx;cases e;exact jN _ (by lia) (by lia)
 | score c=>
  cases e;have hl:bK g.cs c<st.2.length:=by rw[sk.len];exact fK wx
  have:=sk.nn _ (ZY hl);rw[wZ hl];exact jN _ (by lia) (by lia)
 | ask c k a b=>cases e
 | pick w rs=>cases e
 | dN p t b rs=>cases e
theorem xb {cs:List (Str×Int)} {ns:List Int} {i:Nat} {k:Int} (m:∀c∈cs,0<=c.2/\c.2<=1000) (h:∀n∈ns,0<=n/\n<=1000) (k0:0<=k):∀n∈wC cs ns i k,0<=n/\n<=1000:=λn hn=>by
 unfold wC at hn;rcases List.mem_or_eq_of_mem_set hn with hn | rfl
 ·exact h n hn
 ·have:0<=most cs i/\most cs i<=1000:=by
   unfold most;rw[aai,ZE];cases e:cs[i]? with
   | none=>exact⟨Int.le_refl _,∅⟩
   | some c=>exact m c (ZS e)
  lia
theorem qR {ns:List Int} {i:Nat} (h:∀n∈ns,0<=n/\n<=1000):0<=ns.getD i 0:=by
 rw[aai];cases e:ns[i]? with
 | none=>exact Int.le_refl _
 | some n=>exact(h n (ZS e)).1
theorem FV {cs:List (Str×Int)} {v:Int} (m:∀c∈cs,0<=c.2/\c.2<=1000) (v0:0<=v):∀(ds:List Dd) (ns:List Int),(∀d∈ds,Di d)->(∀n∈ns,0<=n/\n<=1000)->∀n∈ds.foldl (iU cs v) ns,0<=n/\n<=1000
 | [],_,_,h=>h
 | d::ds,ns,g,h=>by
  refine FV m v0 ds _ (λe he=>g e (ZI _ he)) ?_;have gd:=g d ZL;cases d with
  | set n k=>exact xb m h gd
  | plus n k=>exact xb m h (Int.add_nonneg (qR h) gd)
  | face n=>exact xb m h (Int.add_nonneg (qR h) v0)
  | move a b=>
   intro n hn;rcases List.mem_or_eq_of_mem_set hn with hn | rfl
   ·exact xb m h (Int.add_nonneg (qR h) (qR h)) n hn
   ·exact⟨Int.le_refl _,∅⟩
theorem Ov {v:Int} (v0:0<=v) (v1:v<=1000):Pm (Zz (toString v)):=by
 have h:∀n∈List.range 1001,(0< (Zz (toString (n:Int))).length/\(Zz (toString (n:Int))).length<=20)/\gA (.str (Zz (toString (n:Int))))=true:=∅
 have e:v=((v.toNat:Nat):Int):=by lia
 have:=h v.toNat (List.mem_range.mpr (by lia));rw[<-e] at this;exact⟨this.1.1,this.1.2,this.2⟩
theorem Ip {g:Gm} {gs:List Str} {st:gM} {x:Wt} {ds:List Dat} {d:Dat} (gm:N8 g gs) (sk:CZ g gs st) (lk:look g.ps st.1=some x) (wx:jV g.cs gs x) (od:Gq g st x ds) (hd:d∈ds):∃w py gJ,Fq g st d w py gJ/\CZ g gs gJ/\ng 20 py/\Pm w:=by
 have FK:∀{rs:List Rw},rs=[]->d∈rs.map (λr=>Dat.str r.word)->False:=λe h=>by rw[e] at h;cases h
 cases x with
 | dN c5 t b rs=>
  obtain⟨ps,rfl,gl,rfl⟩:=od;obtain⟨Mq,e,_,Fk,hv,hr⟩:=wx;have e:=ix e;subst e;obtain⟨v,Uk,rfl⟩:=aaJ.mp hd;obtain⟨v0,v1,r,ro⟩:=hv v Uk;have rm:r∈rs:=aax ro;obtain⟨to,gd⟩:=hr r rm;obtain⟨fk,x',ak,kW,R3⟩:=gm.to _ to (r.2.2.1.foldl (iU g.cs v) st.2);exact⟨_,(t,b),(fk,r.2.2.1.foldl (iU g.cs v) st.2),.inr ⟨ps,t,b,rs,r,v,lk,gl,Uk,v0,v1,rfl,rfl,rfl,ro,rfl,ak⟩,⟨(de _ _).trans sk.len,FV gm.most v0 _ _ gd sk.nn,x',kW,R3⟩,Fk,Ov v0 v1⟩
 | pick kI rs=>
  obtain⟨_,nd,hr⟩:=wx;rw[show ds=_ from od] at hd;obtain⟨r,Ul,rfl⟩:=aaJ.mp hd;obtain⟨r',fd⟩:∃r',(cj g.cs st.2 (.pick kI rs)).find? (λx=>decide (x.word=r.word))=some r':=by
   cases h:(cj g.cs st.2 (.pick kI rs)).find? (λx=>decide (x.word=r.word)) with
   | some r'=>exact⟨r',rfl⟩
   | none=>exact absurd (List.find?_eq_none.mp h r Ul) (by simp)
  have rm:r'∈rs:=(List.mem_filter.mp (aax fd)).1;obtain⟨_,_,to,gd⟩:=hr r' rm;obtain⟨wd,_⟩:=hr r (List.mem_filter.mp Ul).1;obtain⟨fk,x',ak,kW,R3⟩:=gm.to _ to (r'.ds.foldl (iU g.cs 0) st.2);exact⟨_,(0,1),(fk,r'.ds.foldl (iU g.cs 0) st.2),.inl ⟨kI,rs,r',lk,nd,fd,rfl,rfl,rfl,ak⟩,⟨(de _ _).trans sk.len,FV gm.most (Int.le_refl _) _ _ gd sk.nn,x',kW,R3⟩,jN 0 ∅ ∅,wd.1,ZN wd.2.1 ∅,wd.2.2.1⟩
 | ask c k a b=>exact wx.elim
 | fin t b=>rw[show ds=_ from od] at hd;exact(FK rfl hd).elim
 | score c=>rw[show ds=_ from od] at hd;exact(FK rfl hd).elim
structure B2 (qP qC:Addr) (H0 X Hb:Hp) (p tl tb:Addr) (g:Gm) (nm:Str):Prop where
 sm:aF H0 Hb
 np:H0 p=none/\H0 tl=none/\H0 tb=none
 ex:∃Y dp c sv pv,(∀a o,Y a=some o->a∉[p,tl,tb]/\Hb a=some o/\(H0 a=none\/X a=some o))/\Hb p=some (.ins qP dp (iT (.ref c) sv pv (.ref tl)))/\Hb tl=some (.lst [])/\Hb tb=some (.dK [])/\CU qC Y c g tb/\qd Y sv nm (aaO g.cs.length 0)/\Rep Y (dM (0,1)) pv
theorem B2.vz {qP qC:Addr} {H0 X Hb Hf:Hp} {p tl tb:Addr} {g:Gm} {nm:Str} {L:List Addr} (h:B2 qP qC H0 X Hb p tl tb g nm) (s:aF Hb Hf) (hL:∀a o,(H0 a=none\/X a=some o)->a∉[p,tl,tb]->Hb a=some o->a∉L) (m:p∈L/\tl∈L/\tb∈L) (al:∀a∈L,∃o,Hf a=some o/\∀vs,o≠.tup vs) (gg:GoodG g):di qP qC L Hf p tl tb g (nm,aaO g.cs.length 0) (0,1) []:=by
 obtain⟨Y,dp,c,sv,pv,hY,h1,h2,h3,h4,h5,h6⟩:=h.ex;have sY:aF Y (bQ L Hf):=λa o e=>by
  obtain⟨y1,y2,y3⟩:=hY a o e;rw[cK (hL a o y3 y1 y2)];exact s _ _ y2
 exact⟨m,al,⟨dp,c,sv,pv,[],s _ _ h1,h4.mono sY,h5.mono sY,h6.mono sY,s _ _ h2,trivial⟩,⟨[],s _ _ h3,List.nodup_nil,(λk hk=>by cases hk),λnm v e=>by cases e⟩,gg,List.length_replicate,λe he=>by cases he⟩
theorem Iq {qP qC:Addr} {H0 X H':Hp} {x dx c tl tb:Addr} {sv pv:V} {g:Gm} {nm:Str} (sx:aF X H0) (nx:H0 x=none) (Py:H0 dx=none) (kH:∀a o,a≠x->upd (upd H0 dx (.own x)) x (.ins qP dx []) a=some o->H' a=some o) (HW:upd (upd H0 dx (.own x)) x (.ins qP dx []) tl=none) (sI:upd (upd H0 dx (.own x)) x (.ins qP dx []) tb=none)
  (h1:H' x=some (.ins qP dx (iT (.ref c) sv pv (.ref tl)))) (h2:H' tl=some (.lst [])) (h3:H' tb=some (.dK [])) (co:CU qC (bQ [x,tl,tb] (nw (cX (upd (upd H0 dx (.own x)) x (.ins qP dx [])) x) X H')) c g tb) (st:qd (bQ [x,tl,tb] (nw (cX (upd (upd H0 dx (.own x)) x (.ins qP dx [])) x) X H')) sv nm (aaO g.cs.length 0)) (rp:Rep (bQ [x,tl,tb] (nw (cX (upd (upd H0 dx (.own x)) x (.ins qP dx [])) x) X H')) (dM (0,1)) pv):B2 qP qC H0 X H' x tl tb g nm:=by
 have up:∀a o,H0 a=some o->upd (upd H0 dx (.own x)) x (.ins qP dx []) a=some o:=λa o h=>by
  rw[aw (λz=>by rw[z,nx] at h;cases h),aw (λz=>by rw[z,Py] at h;cases h)];exact h
 have s0:aF H0 H':=λa o h=>kH a o (λz=>by rw[z,nx] at h;cases h) (up a o h);have dn:∀{a},upd (upd H0 dx (.own x)) x (.ins qP dx []) a=none->H0 a=none:=λ{a} h=>by
  cases e:H0 a with
  | none=>rfl
  | some o=>rw[up a o e] at h;cases h
 refine⟨s0,⟨nx,dn HW,dn sI⟩,_,dx,c,sv,pv,λa o h=>?_,h1,h2,h3,co,st,rp⟩;obtain⟨c1,h⟩:=eX h;have ax:a≠x:=λz=>c1 (by rw[z];simp);cases e:cX (upd (upd H0 dx (.own x)) x (.ins qP dx [])) x a with
 | none=>
  rw[cC e] at h;rw[cV ax] at e;exact⟨c1,h,.inl (dn e)⟩
 | some o'=>
  unfold nw at h;rw[e] at h;exact⟨c1,s0 _ _ (sx _ _ h),.inr h⟩
noncomputable def sW (g:Gm) (st:gM) (x:Wt) (v:V):Prop:=(∃s,v=.str s/\∀r∈cj g.cs st.2 x,r.word≠s)\/(∃n,v=.int n/\∀ps t b rs,x=.dN (List.map qc ps) t b rs->n∉dt ps)
noncomputable def FW:Sp:=λvs H Q _=>∃(gv sv:V) (c:Int) (g:Gm) (gs:List Str) (st:gM) (x:Wt),vs=[gv,sv,.int c]/\Rep H (Av g) gv/\GoodG g/\qd H sv st.1 st.2/\st.2.length=g.cs.length/\look g.ps st.1=some x/\jV g.cs gs x/\0<=c/\∀v H',aF H H'->sW g st x v->Q v H'
noncomputable def B3 (qP qC:Addr):Sp:=λvs H Q _=>∃(p:Addr) (v:V) (tl tb:Addr) (L:List Addr) (g:Gm) (gs:List Str) (st:gM) (pd:Int×Int) (tr:List og) (x:Wt),vs=[.ref p,v]/\di qP qC L H p tl tb g st pd tr/\tr.length<200/\look g.ps st.1=some x/\jV g.cs gs x/\ng 100000 pd/\((v=.cW/\tr=[])\/sW g st x v)/\∀H',K3 p tl tb H H'->di qP qC L H' p tl tb g st pd tr->Q (.bl true) H'
noncomputable def B4 (qP qC:Addr):Sp:=λvs H Q _=>∃(p:Addr) (gv sv pv:V) (sl tl tb:Addr) (L:List Addr) (g:Gm) (gs:List Str) (st:gM) (pd:Int×Int) (tr:List og),vs=[.ref p,gv,sv,pv,.ref sl]/\di qP qC L H p tl tb g st pd tr/\Rep (bQ L H) (Av g) gv/\N8 g gs/\CZ g gs st/\qd (bQ L H) sv st.1 st.2/\Rep (bQ L H) (dM pd) pv/\ng 10000 pd/\tr.length<=200/\(∀e∈tr,Pm e.1)/\sl≠p/\sl≠tl/\sl≠tb/\H sl=some (.lst (List.map V.str (tr.map λe:og=>e.1)))/\∀H',K3 p tl tb H H'->di qP qC L H' p tl tb g st pd tr->Q (.bl true) H'
structure PQ (qP qC:Addr) (L:List Addr) (g:Gm) (gs:List Str) (H:Hp) (p tl tb sl:Addr) (n:Nat) (sv pv:V) (st:gM) (pd:Int×Int) (tr:List og):Prop where
 vz:di qP qC L H p tl tb g st pd tr
 sL:sl∈L
 sk:CZ g gs st
 hf:ng (20* (n:Int)) pd
 ln:tr.length<=n
 tw:∀e∈tr,Pm e.1
 yW:sl≠p/\sl≠tl/\sl≠tb
 lt:H sl=some (.lst (List.map V.str (tr.map λe:og=>e.1)))
 sv:qd (bQ L H) sv st.1 st.2
 pv:Rep (bQ L H) (dM pd) pv
theorem PQ.keep {qP qC:Addr} {L:List Addr} {g:Gm} {gs:List Str} {H H':Hp} {p tl tb sl:Addr} {n:Nat} {sv pv:V} {st:gM} {pd:Int×Int} {tr:List og} (h:PQ qP qC L g gs H p tl tb sl n sv pv st pd tr) (k:K3 p tl tb H H') (pl:di qP qC L H' p tl tb g st pd tr):PQ qP qC L g gs H' p tl tb sl n sv pv st pd tr/\aF (bQ L H) (bQ L H'):=by
 have s:=k.cX h.vz.mem.1 h.vz.mem.2.1 h.vz.mem.2.2;exact⟨⟨pl,h.sL,h.sk,h.hf,h.ln,h.tw,h.yW,k _ _ h.yW.1 h.yW.2.1 h.yW.2.2 h.lt,h.sv.mono s,h.pv.mono s⟩,s⟩
theorem PQ.same {qP qC:Addr} {L:List Addr} {g:Gm} {gs:List Str} {H H':Hp} {p tl tb sl:Addr} {n:Nat} {sv pv:V} {st:gM} {pd:Int×Int} {tr:List og} (h:PQ qP qC L g gs H p tl tb sl n sv pv st pd tr) (s:aF H H'):PQ qP qC L g gs H' p tl tb sl n sv pv st pd tr:=(h.keep (.of s) (h.vz.same s)).1
theorem Ir {ps:List Pt} (h:ps∈Gh):∃r,dt ps=qg ps::r:=by
 obtain⟨k,s,BY,e | ⟨m,hm,e⟩⟩:=ir h
 ·subst e;have e1:qg [.cP k s]=(k:Int)+ ((0:Nat):Int):=by show(k:Int)+0=_;lia
  rw[e1,dt,List.range_succ_eq_map,ZC];exact⟨_,rfl⟩
 ·subst e;have e1:qg [.cP k s,.num m]=(k:Int)+ (m:Int)+ ((0:Nat):Int):=by show(k:Int)+ ((m:Int)+0)=_;lia
  rw[e1,dt,List.range_succ_eq_map,ZC];exact⟨_,rfl⟩
theorem Iu {ps:List Pt} (h:ps∈Gh):∃r,dt ps=r++ [oh ps]:=by
 have d:∀x∈De,x.1<=x.1*x.2/\x.1*x.2<=100:=∅
 obtain⟨k,s,BY,e | ⟨m,hm,e⟩⟩:=ir h
 ·subst e;have:k<=k*s/\k*s<=100:=d (k,s) BY;have e1:oh [.cP k s]=(k:Int)+ ((k*s - k:Nat):Int):=by show(k:Int)* (s:Int)+0=_;rw[<-aaf];lia
  rw[e1,dt,List.range_succ,ZG];exact⟨_,rfl⟩
 ·subst e;have:k<=k*s/\k*s<=100:=d (k,s) BY;have e1:oh [.cP k s,.num m]=(k:Int)+ (m:Int)+ ((k*s - k:Nat):Int):=by show(k:Int)* (s:Int)+ ((m:Int)+0)=_;rw[<-aaf];lia
  rw[e1,dt,List.range_succ,ZG];exact⟨_,rfl⟩
theorem iC {H:Hp}:∀{rs:List Rw} {vs:List V},bo H (rs.map λr=>Dat.str r.word) vs->vs=rs.map λr=>V.str r.word
 | [],_,h=>bI.mp h
 | _::_,_,h=>by
  obtain⟨v,r,rfl,a,b⟩:=aT.mp h;rw[aR.mp a,iC b];rfl
theorem Iw {α:Type} {xs:List α} {x:α}:iX (xs++ [x]) (-1)=some x:=by
 have h:DD (xs++ [x]).length (-1)=some xs.length:=by
  unfold DD;rw[if_neg ∅,ZJ,aao,if_pos (by lia)];congr 1;lia
 unfold iX;rw[h];show(xs++ [x])[xs.length]?=some x;rw[aav (ZD _),Nat.sub_self];rfl
theorem vA (rs:List Rw):(rs.map λr=>V.str r.word).all eA=true:=List.all_eq_true.mpr λx hx=>by
 obtain⟨i,_,rfl⟩:=aaJ.mp hx;rfl
theorem Iy {H:Hp} {g:Gm} {st:gM} {x:Wt} {ds:List Dat} {gL:List V} {v:V} (od:Gq g st x ds) (r:bo H ds gL) (bad:sW g st x v):eA v=true/\gL.all eA=true/\zO v gL=false:=by
 have fv:eA v=true:=by rcases bad with ⟨s,rfl,_⟩ | ⟨n,rfl,_⟩ <;>rfl
 have Iz:∀{rs:List Rw},cj g.cs st.2 x=rs->ds=rs.map (λr=>Dat.str r.word)->gL.all eA=true/\zO v gL=false:=λ{rs} eo e=>by
  subst e;obtain rfl:=iC r;refine⟨vA _,List.any_eq_false.mpr λy hy=>?_⟩;obtain⟨r',Ak,rfl⟩:=aaJ.mp hy;rcases bad with ⟨s,rfl,h⟩ | ⟨n,rfl,_⟩
  ·have:=h r' (by rw[eo];exact Ak);simp [zM,this]
  ·simp [zM]
 refine⟨fv,?_⟩;cases x with
 | dN c5 t b rs=>
  obtain⟨ps,rfl,gl,rfl⟩:=od;obtain rfl:=fQ r;refine⟨oN _,?_⟩;rcases bad with ⟨s,rfl,h⟩ | ⟨n,rfl,h⟩
  ·refine List.any_eq_false.mpr λy hy=>?_;obtain⟨i,_,rfl⟩:=aaJ.mp hy;simp [zM]
  ·rw[wL,decide_eq_false (h ps t b rs rfl)]
 | ask c k a b=>exact Iz rfl od
 | fin t b=>exact Iz rfl od
 | score c=>exact Iz rfl od
 | pick w rs=>exact Iz rfl od
theorem yX {w:Str} (h:∀c∈w.cps.toList,97<=c/\c<=122):(Txt.upper w).cps.toList=w.cps.toList.map (· - 32):=by
 have d:∀c∈List.range 123,97<=c->Unicode.upperOf c=[c - 32]:=∅
 show((w.cps.mapIdx λi c=>(Unicode.upperOf c).toArray).flatten).toList=_;have e:(w.cps.mapIdx λi c=>(Unicode.upperOf c).toArray)=w.cps.map λc=>#[c - 32]:=by
  refine Array.ext (by simp) λi h1 h2=>?_;have hi:i<w.cps.size:=by simpa using h2
  have:=h w.cps[i] (by simp);simp [d w.cps[i] (List.mem_range.mpr (by lia)) this.1]
 rw[e];simp only[Array.toList_flatten,Array.toList_map,Z1];generalize w.cps.toList=l
 induction l with
 | nil=>rfl
 | cons a l ih=>rw[ZC,List.flatten_cons,ih];rfl
theorem FX {w r:Str} (h:∀c∈w.cps.toList,97<=c/\c<=122) (hr:∀c∈r.cps.toList,97<=c/\c<=122) (p:0<w.length):Txt.upper w≠r:=λe=>by
 have u:=yX h;cases hw:w.cps.toList with
 | nil=>
  have:w.cps.size=0:=by rw[<-aam,hw];rfl
  unfold Str.length at p;lia
 | cons c cs=>
  rw[hw,ZC,e] at u;have h1:=h c (by rw[hw];exact ZL);have h2:=hr (c - 32) (by rw[u];exact ZL);lia
theorem C7 {w:Str} (h:∀c∈w.cps.toList,97<=c/\c<=122):(Txt.upper w).length=w.length:=by
 have u:=congrArg List.length (yX h);rw[ZA,aam,aam] at u;exact u
theorem IA {H:Hp} {g:Gm} {st:gM} {x:Wt} {ds:List Dat} {gL:List V} (od:Gq g st x ds) (r:bo H ds gL) (H':Hp):bo H' ds gL:=by
 have Iz:∀{rs:List Rw},ds=rs.map (λr=>Dat.str r.word)->bo H' ds gL:=λ{rs} e=>by
  subst e;obtain rfl:=iC r;exact oU _
 cases x with
 | dN c5 t b rs=>
  obtain⟨ps,rfl,gl,rfl⟩:=od;obtain rfl:=fQ r;exact ints_rep _
 | ask c k a b=>exact Iz od
 | fin t b=>exact Iz od
 | score c=>exact Iz od
 | pick w rs=>exact Iz od
theorem LY {x:Str} (h:0<x.length):(Txt.slice x (some 1) none).length=x.length - 1:=by
 have e:=congrArg List.length (Ah (z:=x) (k:=1) ∅ (by lia));rw[aam,List.length_drop,aam] at e;exact e
theorem pX:aZ ["_law_game_here","_law_state","_law_cell_here","_law_what_here","_law_some","_law_far","_law_shut"] ["_law_game_here","_law_state","_law_cell_here"] (aq (top 65)):=⟨rfl,rfl,rfl,∅,rfl,∅,∅⟩
theorem LZ (T:Txt K mg aB aH aI aV aE aL aW aM aA aN aX af av):cg P w K mg base (br P w) 4 "_law_bad" ["_law_game_here","_law_state","_law_cell_here"] FW:=by
 have aK:cg P w K mg base (br P w) 1 "_law_mixed" ["_law_cell_here","_law_many"] bP:=lQ T;have ck:cg P w K mg base (br P w) 1 "_law_what" ["_law_game_here","_law_name"] gn:=oS T;have eZ:cg P w K mg base (br P w) 3 "_law_open" ["_law_game_here","_law_state"] sU:=AQ T;refine T.As.dJ (λ_ _ _ _ _ _=>uu λ_ _ _=>rfl) λf fd F=>F.eC pX (λvs H Q E h=>?_) (λcf A outer s H vs Q E hr h=>?_)
 ·obtain⟨_,_,_,_,_,_,_,rfl,_⟩:=h;rfl
 ·symm;obtain⟨gv,sv,c,g,gs,st,x,rfl,rg,gg,kY,ln,lk,wx,c0,kk⟩:=h;nofun;clear G_;have nd:=pX.nd;refine⟨_,(ah (aJ (i:=3) nd rfl (.inl rfl) (aO ck (hr.mono ∅) rfl au.pass (aa (pv 0) (aa (ar ai (pv 1) ae (λ_ _=>rfl)) ag (se rfl)) (se rfl)) (he:=se rfl) (hpl:=na rfl)))
  (ah (aJ (i:=4) nd rfl (.inr rfl) (aO eZ (hr.mono ∅) rfl au.pass (aa (pv 0) (aa (pv 1) ag (se rfl)) (se rfl)) (he:=se rfl) (hpl:=na rfl)))
  (ah (bw (aP bG (ar ai (pv 3) ae (λ_ _=>rfl)) a7 (a5 _)) (ah (aJ (i:=5) nd rfl (.inl rfl) (cb (aa (aG fS (ar a4 (pv 4) ae (λ_ _=>rfl)) ae) (aa (aG aQ (ar a4 (pv 4) (iF fc ae) (λ_ _=>rfl)) ae) (aa (aG aQ (aG aQ (ar a4 (pv 4) (iF fc ae) (λ_ _=>rfl)) ae) (aG cJ (pv 2) (aG q9 ae ae))) (aa (aG fS (iF fc ae) (aG cJ (pv 2) ae)) ag (se rfl)) (se rfl)) (se rfl)) (se rfl))))
  (ao (aY (ar a4 (cb (aa (ar a4 (pv 5) (aG cJ (pv 2) ae) (λ_ _=>rfl)) (aa a7 (aa a7 ag (se rfl)) (se rfl)) (se rfl))) (aG cJ (aO aK (hr.mono ∅) rfl au.pass (aa (pv 2) (aa ae ag (se rfl)) (se rfl)) (he:=se rfl) (hpl:=na rfl)) ae) (λ_ _=>rfl)))))
   ba)
  (ah (bw (aP bG (ar ai (pv 3) ae (λ_ _=>rfl)) a7 (a5 _)) (ah (jI (i:=6) rfl nd rfl rfl (N:=["_law_game_here","_law_state","_law_cell_here","_law_what_here","_law_some","_law_far","_law_shut"]) (so:=aq (top 65)) (N':=["_law_row","_law_some"]) (k:=1) (fr:=[4]) rfl rfl ⟨rfl,∅,∅,∅,rfl,∅,∅⟩ (bA (K:=K) (ar ai (pv 3) ae (λ_ _=>rfl))) (λ_ _ _ _ _=>(a9 (i:=0) (show(["_law_row","_law_some"]:List Str).Nodup by decide +kernel) rfl (.inl rfl))) (λ_ _ _ _ _=>(eF (aP (kD (K:=K)) (ar ai (pv 0) ae (λ_ _=>rfl)) (pv 1) rfl)))
   (λ_ _ _ _ _=>(ar ai (pv 0) ae (λ_ _=>rfl))))
  (ah (aJ (i:=6) nd rfl (.inl rfl) (aG zS (pv 6) (cb (aa a7 (aa (aG lC (ar a4 (pv 4) ae (λ_ _=>rfl)) a7) (aa (aG lC (mE Hm (ar a4 (pv 4) ae (λ_ _=>rfl)) (mD ae) vI) a7) (aa (DF PySem.F.plainAttrs_str PySem.F.slot_str_upper PySem.F.type_str_upper Eu (ar a4 (pv 4) ae (λ_ _=>rfl))) ag (se rfl)) (se rfl)) (se rfl)) (se rfl)))))
  (ao (aY (ar a4 (cb (aa (ar a4 (pv 6) (aG cJ (pv 2) (a8 bO (by rfl) T.z_len ZT (aa (pv 6) ag (se rfl)) (he:=se rfl) (hpl:=na rfl))) (λ_ _=>rfl)) (aa (ar a4 (pv 6) ae (λ_ _=>rfl)) (aa (aG aQ ae (aG cJ (pv 2) ae)) ag (se rfl)) (se rfl)) (se rfl))) (aO aK (hr.mono ∅) rfl au.pass (aa (pv 2) (aa ae ag (se rfl)) (se rfl)) (he:=se rfl) (hpl:=na rfl)) (λ_ _=>rfl))))))
   ba)
  (ao (aY (ar a4 (cb (aa a7 (aa a7 (aa ae (aa (aG aQ ae (aG cJ (pv 2) ae)) ag (se rfl)) (se rfl)) (se rfl)) (se rfl))) (aG cJ (pv 2) ae) (λ_ _=>rfl)))))))),?_⟩
  refine(?_:let bY:TS:=_;let bZ:TS:=_;let b5:TS:=_;let cY:TS:=_;let pP:TS:=_;tSeq bY (tSeq bZ (tSeq b5 (tSeq cY pP))) _ _ _);intro bY bZ b5 cY pP;have sl:=sizeLine_eq;symm;obtain⟨sa,cl,rfl,gQ,fX⟩:=id kY;nofun;clear G_;change tSeq _ _ _ _ _;refine aU (λN=>∀H1 v,aF H H1->Rep H1 (jU x) v->N [some gv,some (.ref sa),some (.int c),some v,none,none,none] H1) ?_ (λN hN=>?_)
  case refine_2=>
   dsimp?[gn,gQ];exact⟨g,rg,gg,x,lk,λu H1 s1 ru=>hN _ u s1 (ru.mono s1)⟩
  rintro H1 v s1 rv;change tSeq _ _ _ _ _;refine aU (λN=>∀H2 a ds,aF H1 H2->Rep H2 (.lst ds) (.ref a)->Gq g st x ds->N [some gv,some (.ref sa),some (.int c),some v,some (.ref a),none,none] H2) ?_ (λN hN=>?_)
  case refine_2=>
   dsimp?[sU];exact⟨g,rg.mono s1,gg,gs,st,kY.mono s1,ln,x,lk,wx,λa H2 ds s2 na ra od=>hN _ a ds s2 ra od⟩
  rintro H2 a ds s2 Pz od;have AN:=s1.trans s2;have rv:=rv.mono s2;symm;obtain⟨q,CC,rfl,hq⟩:=nh rv;nofun;clear G_;have iN:∀{n:Int},(∀ps t b rs,x=.dN (List.map qc ps) t b rs->n∉dt ps)->sW g st x (.int n):=λh=>.inr ⟨_,rfl,h⟩;have sN:∀{z:Str},(∀r∈cj g.cs st.2 x,r.word≠z)->sW g st x (.str z):=λh=>.inl ⟨_,rfl,h⟩;change tSeq _ _ _ _ _
  by_cases kt:t4 x=Zz "throw"
  ·symm;obtain⟨c5,t,b,rs,rfl⟩:=oO kt;obtain⟨ps,rfl,gl,rfl⟩:=od;obtain⟨a',ys,e0,ha,ry⟩:=bh.mp Pz;nofun;cases e0;obtain rfl:=fQ ry;symm;obtain⟨WX,WY,WZ,RL⟩:=N9 gl;obtain⟨r0,e0⟩:=Ir gl;obtain⟨r1,e1⟩:=Iu gl;nofun;have out:∀{n:Int},(n<qg ps\/oh ps<n)->sW g st (.dN (List.map qc ps) t b rs) (.int n):=λ{n} h=>iN λMq t' b' N7 e hn=>by
    injection e with e
    rw[<-ix e] at hn;have:=RL n hn;lia
   have anyS:∀{z:Str},sW g st (.dN (List.map qc ps) t b rs) (.str z):=λ{z}=>sN λr hr=>by cases hr
   refine aU (λ_=>True) trivial (λN _=>?_);refine dE (λY N k=>by dsimp?[hq];rw[if_pos kt];exact k) ?_;have m0:=cB (c:=c) (m:=4) ∅;have b9:=aak c (show(10:Int)^9≠0 by decide);have Oh:∀{y:List Int} {z:Int},dt ps=z::y->iX (List.map V.int (dt ps)) 0=some (.int z):=λe=>by rw[e];exact at0
   have Ow:iX (List.map V.int (dt ps)) (-1)=some (.int (oh ps)):=by rw[e1,ZG];exact Iw
   have c4:c % 4=0\/c % 4=1\/c % 4=2\/c % 4=3:=by lia
   have Um:=aak c (show(1000:Int)≠0 by decide);have m3:bS c 4 % 3=0\/bS c 4 % 3=1\/bS c 4 % 3=2:=by lia
   obtain⟨fn,XH,XI⟩:∃n,iX [V.int (qg ps - 1),V.int (oh ps+1),V.int (oh ps+1+c % 10^9),V.int (-1 - c % 1000)] (c % 4)=some (.int n)/\(n<qg ps\/oh ps<n):=by
    rcases c4 with z | z | z | z <;>rw[z]
    ·exact⟨_,rfl,by lia⟩
    ·exact⟨_,rfl,by lia⟩
    ·exact⟨_,rfl,by lia⟩
    ·exact⟨_,rfl,by lia⟩
   dsimp?[bP,ha];refine⟨_,Oh e0,_,rfl,_,Ow,_,rfl,_,Ow,_,rfl,by decide,by decide,by decide,by decide,by decide,by lia,λp np=>⟨by decide,_,aj,_,XH,by lia,λp1 Gr=>?_⟩⟩;have sp:=(aD (o:=.lst [V.int (qg ps - 1),V.int (oh ps+1),V.int (oh ps+1+c % 10^9),V.int (-1 - c % 1000)]) np).trans (aD (o:=.lst [V.int fn,V.str "say",V.str ""]) Gr);rcases m3 with z | z | z <;>rw[z]
   ·exact⟨∅,∅,_,aj,_,at0,kk _ _ (AN.trans sp) (out XI)⟩
   ·exact⟨∅,∅,_,aj,_,at1,kk _ _ (AN.trans sp) anyS⟩
   ·exact⟨∅,∅,_,aj,_,at2,kk _ _ (AN.trans sp) anyS⟩
  refine aU (λN=>N [some gv,some (.ref sa),some (.int c),some (.ref q),some (.ref a),none,none] H2) ?_ (λN hN=>?_)
  case refine_2=>
   refine dq (λY N k=>?_) hN;dsimp?[hq];rw[if_neg kt];exact k
  have anyI:∀{n:Int},sW g st x (.int n):=λ{n}=>iN λps t b rs e=>absurd (by rw[e];rfl) kt;change tSeq _ _ _ _ _
  by_cases kp:t4 x=Zz "pick"
  ·symm;obtain⟨kI,rs,rfl⟩:=wM kp;obtain⟨⟨w4,⟨z,hz⟩,rn,XJ,XM⟩,Ii,wr⟩:=id wx;have od:ds=(cj g.cs st.2 (.pick kI rs)).map λr=>Dat.str r.word:=od;subst od;obtain⟨a',ys,e0,ha,ry⟩:=bh.mp Pz;nofun;clear G_;cases e0;obtain rfl:=iC ry;have sub:∀r∈cj g.cs st.2 (.pick kI rs),r∈rs:=λr hr=>(List.mem_filter.mp hr).1;obtain⟨o0,Uo,eo⟩:∃o r,cj g.cs st.2 (.pick kI rs)=o::r:=by
    cases h:cj g.cs st.2 (.pick kI rs) with
    | cons o r=>exact⟨o,r,rfl⟩
    | nil=>
     have:rn∈cj g.cs st.2 (.pick kI rs):=List.mem_filter.mpr ⟨XJ,by rw[XM];rfl⟩;rw[h] at this;cases this
   have Up:o0∈rs:=sub o0 (by rw[eo];exact ZL);have Ox:=(wr o0 Up).1;have XN:∀{y:Str},y.length≠z->sW g st (.pick kI rs) (.str y):=λ{y} h=>sN λr hr e=>h (by rw[<-e];exact hz r (sub r hr));have z0:o0.word.length=z:=hz o0 Up;symm;obtain⟨q',v1,v2,v3,e0,oa,r1,r2,r3⟩:=dQ.mp (show Rep H2 (.tup _) (.ref q) from rv);nofun;clear G_;cases e0;rw[aR.mp r1,bF.mp r2] at oa;symm;obtain⟨rl,ys,rfl,qL,ry⟩:=bh.mp r3;nofun;clear G_;have oQ:=ry.length;rw[ZA,ZA] at oQ;refine aU (λ_=>True) trivial (λN _=>?_);refine dE (λY N k=>by dsimp?[hq];rw[if_pos kp];exact k) ?_;change tSeq _ _ _ _ _;refine aU (λN=>∀H3 l zs,aF H2 H3->H3 l=some (.lst (List.map V.str zs))->zs.length<=4->(∀y∈zs,∀r∈cj g.cs st.2 (.pick kI rs),r.word≠y)->N [some gv,some (.ref sa),some (.int c),some (.ref q),some (.ref a),none,some (.ref l)] H3) ?_ (λN hN=>?_)
   case refine_2=>
    dsimp?[oa,JU];refine⟨⟨_,bL.of qL⟩,?_⟩;have zl:(ys.zip rs).length=ys.length:=by rw[aaq];lia
    have S:Src (xC K rl) (aF H2) ys.length _:=src_list (λH' s'=>bL.of (s' _ _ qL));rw[<-zl] at S;have XO:∀y:Str,zO (V.str y) ((cj g.cs st.2 (.pick kI rs)).map λr=>V.str r.word)=true\/∀r∈cj g.cs st.2 (.pick kI rs),r.word≠y:=λy=>by
     by_cases h:∃r∈cj g.cs st.2 (.pick kI rs),r.word=y
     ·symm;obtain⟨r,hr,e⟩:=h;nofun;exact .inl (List.any_eq_true.mpr ⟨V.str r.word,aaJ.mpr ⟨r,hr,rfl⟩,by simp [zM,e]⟩)
     ·exact .inr λr hr e=>h ⟨r,hr,e⟩
    refine eB (ys.zip rs) (λy=>if zO (V.str y.2.word) ((cj g.cs st.2 (.pick kI rs)).map λr=>V.str r.word)=true then none else some (.str y.2.word)) S (λ_ _ _ _ h=>h.1) (by lia) ?_ ?_
    ·rintro i ⟨y,r⟩ w0 Ll ⟨_,ez⟩ Y N3 y1 y2;obtain⟨e1,e2⟩:=List.getElem?_zip_eq_some.mp Ll;rw[e1] at ez;cases ez;symm;obtain⟨r',q',_,b1,b2,b3,er,rfl,R5,_,_⟩:=jM ry e1;nofun;rw[e2] at er;cases er;dsimp?[R5,JU];refine⟨_,.inl (bL.of ha),rfl,vA _,?_⟩
     by_cases e:zO (V.str r.word) ((cj g.cs st.2 (.pick kI rs)).map λr=>V.str r.word)=true
     ·rw[e];exact y2 (if_pos e)
     ·rw[Bool.not_eq_true] at e;rw[e,if_pos rfl];exact y1 _ (if_neg (by rw[e];decide))
    ·intro D n1 n2;obtain⟨zs,ez,XQ⟩:∃zs:List Str,(ys.zip rs).filterMap (λy=>if zO (V.str y.2.word) ((cj g.cs st.2 (.pick kI rs)).map λr=>V.str r.word)=true then none else some (.str y.2.word))=List.map V.str zs/\(zs.length<=(ys.zip rs).length/\∀y∈zs,∀r∈cj g.cs st.2 (.pick kI rs),r.word≠y):=by
      generalize ys.zip rs=l
      induction l with
      | nil=>exact⟨[],rfl,ZD _,λy hy=>by cases hy⟩
      | cons p l ih=>
       symm;obtain⟨zs,e1,e2,e3⟩:=ih;nofun;rw[aad];rcases XO p.2.word with h | h
       ·rw[if_pos h];exact⟨zs,e1,Nat.le_succ_of_le e2,e3⟩
       ·by_cases h2:zO (V.str p.2.word) ((cj g.cs st.2 (.pick kI rs)).map λr=>V.str r.word)=true
        ·rw[if_pos h2];exact⟨zs,e1,Nat.le_succ_of_le e2,e3⟩
        ·rw[if_neg h2];refine⟨p.2.word::zs,by rw[ZC,<-e1],Nat.succ_le_succ e2,λy hy=>?_⟩;rcases aaj.mp hy with rfl | hy
         ·exact h
         ·exact e3 y hy
     rw[ez];exact hN _ D zs (aD n2) aj (by lia) XQ.2
   rintro H3 l zs s3 hl zl R6;change tSeq _ _ _ _ _;refine aU (λN=>∀H4 l zs,aF H3 H4->H4 l=some (.lst (List.map V.str zs))->0<zs.length->zs.length<=8->(∀y∈zs,∀r∈cj g.cs st.2 (.pick kI rs),r.word≠y)->N [some gv,some (.ref sa),some (.int c),some (.ref q),some (.ref a),none,some (.ref l)] H4) ?_ (λN hN=>?_)
   case refine_2=>
    have a0:iX (List.map (λr=>V.str r.word) (cj g.cs st.2 (.pick kI rs))) 0=some (.str o0.word):=by rw[eo];exact at0
    have Zm:=Ox.2.1;have Qn:(Txt.slice o0.word (some 1) none).length=o0.word.length - 1:=LY Ox.1;have lx:(Zz "x").length=1:=∅
    have Uq:(Zz "zz").length=2:=∅
    have ul:=C7 Ox.2.2.2;dsimp?[s3 _ _ ha,GO,JV,Nj];refine⟨_,a0,_,rfl,by rw[lx];lia,_,a0,_,rfl,by lia,by rw[Qn,Uq];lia,_,a0,rfl,_,rfl,?_,by lia,λp np=>⟨_,aD np _ _ hl,_,aj,?_,λp1 Gr=>?_⟩⟩
    ·rw[ul];show decide (_ >sizeLine)=false;exact decide_eq_false (by lia)
    ·rw[ZA];show zs.length+4<=sizeLine;lia
    ·have sp:=(aD (o:=.lst [V.str "",V.str (o0.word++Zz "x"),V.str (Txt.slice o0.word (some 1) none++Zz "zz"),V.str (Txt.upper o0.word)]) np)
     refine hN _ p1 (zs++ [Zz "",o0.word++Zz "x",Txt.slice o0.word (some 1) none++Zz "zz",Txt.upper o0.word]) (sp.trans (aD Gr)) (by rw[aj,ZG];rfl) (by rw[ZJ];exact ZR ∅ (Nat.le_add_left 4 _)) (by rw[ZJ];show zs.length+4<=8;lia) λy hy r hr e=>?_;have R7:=(wr r (sub r hr)).1;have Zn:=hz r (sub r hr);rcases List.mem_append.mp hy with hy | hy
     ·exact R6 y hy r hr e
     ·simp only[aaj,List.not_mem_nil,or_false] at hy;have ey:=congrArg Str.length e;rcases hy with rfl | rfl | rfl | rfl
      ·rw[show(Zz "").length=0 by decide +kernel] at ey;have:=R7.1;lia
      ·rw[Str.length_append,lx] at ey;lia
      ·rw[Str.length_append,Uq,Qn] at ey;have:=R7.1;lia
      ·exact FX Ox.2.2.2 R7.2.2.2 Ox.1 e.symm
   rintro H4 l' ws s4 O4 wp wl Oy;have cw:=aak c (show(ws.length:Int)≠0 by lia);have Zo:=aay c (show(0:Int)< (ws.length:Int) by lia);obtain⟨j,ej⟩:∃j:Nat,c % (ws.length:Int)=(j:Int):=⟨(c % (ws.length:Int)).toNat,by lia⟩
   have hj:j<ws.length:=by lia
   have m0:=cB (c:=c) (m:=3) ∅;have m1:=cR (c:=c) (m:=3) ∅;have m3:bS c 3=0\/bS c 3=1\/bS c 3=2:=by lia
   have b0:iX (List.map V.str ws) 0=some (.str ws[0]):=bT (j:=0) (by rw[ZE,ZH wp];rfl);have bj:iX (List.map V.str ws) (j:Int)=some (.str ws[j]):=bT (by rw[ZE,ZH hj];rfl);dsimp?[O4,bP];rw[ZA,ej];refine⟨by lia,_,bj,_,b0,by decide,by lia,λp np=>⟨by decide,_,aj,?_⟩⟩;have sp:=AN.trans (s3.trans (s4.trans (aD (o:=.lst [V.str ws[j],V.str ws[0],V.int (1+c % 6)]) np)));rcases m3 with y | y | y <;>rw[y]
   ·exact⟨_,at0,kk _ _ sp (sN (Oy _ (ZY hj)))⟩
   ·exact⟨_,at1,kk _ _ sp (sN (Oy _ (ZY wp)))⟩
   ·exact⟨_,at2,kk _ _ sp anyI⟩
  ·refine aU (λN=>N [some gv,some (.ref sa),some (.int c),some (.ref q),some (.ref a),none,none] H2) ?_ (λN hN=>?_)
   case refine_2=>
    refine dq (λY N k=>?_) hN;dsimp?[hq];rw[if_neg kp];exact k
   have anyS:∀{z:Str},sW g st x (.str z):=λ{z}=>sN λr hr=>by
    cases x with
    | dN c5 t b rs=>exact absurd rfl kt
    | pick w rs=>exact absurd rfl kp
    | ask c k a b=>cases hr
    | fin t b=>cases hr
    | score c=>cases hr
   have c4:c % 4=0\/c % 4=1\/c % 4=2\/c % 4=3:=by lia
   dsimp?[];refine⟨by decide,by lia,λp np=>⟨by decide,_,aj,?_⟩⟩;have sp:=AN.trans (aD (o:=.lst [V.str "",V.str "on",V.int 0,V.int (1+c % 6)]) np);rcases c4 with z | z | z | z <;>rw[z]
   ·exact⟨_,at0,kk _ _ sp anyS⟩
   ·exact⟨_,at1,kk _ _ sp anyS⟩
   ·exact⟨_,at2,kk _ _ sp anyI⟩
   ·exact⟨_,Px,kk _ _ sp anyI⟩
theorem iL:aZ ["_law_play","_law_step","e","_law_other"] ["_law_play","_law_step"] (aq (top 66)):=⟨rfl,rfl,rfl,∅,rfl,∅,∅⟩
theorem L1 (T:Txt K mg aB aH aI aV aE aL aW aM aA aN aX af av):cg P w K mg base (br P w) 10 "_law_refused" ["_law_play","_law_step"] (B3 av af):=by
 have yY:bD P w K mg base (br P w) 1 av "back" ["self"] (Fe av af aA):=Lm T;have lR:bD P w K mg base (br P w) 5 av "say" ["self","word"] (yM av af aA aE):=Fl T;have iD:bD P w K mg base (br P w) 9 av "throw" ["self","value"] (yN av af aA aE):=Fm T;refine T.rT.dJ (λ_ _ _ _ _ _=>eG λ_ _=>rfl) λf fd F=>F.eC iL (λvs H Q E h=>?_) (λcf A outer s H vs Q E hr h=>?_)
 ·obtain⟨_,_,_,_,_,_,_,_,_,_,_,rfl,_⟩:=h;rfl
 ·symm;obtain⟨p,v,tl,tb,L,g,gs,st,pd,tr,x,rfl,pl,wO,lk,wx,zo,bad,kk⟩:=h;nofun;clear G_;have nd:=iL.nd;refine⟨_,(ah (Ey (i:=2) (aP zz (pv 1) qX (a5 _)) yY T.bc (pv 0) (hr.mono ∅) (ie (a8 (jJ (K:=K)) (by rfl) T.z_isinstance rfl (aa (pv 1) (aa (my (v:=V.ty "str") rfl T.z_str rfl rfl) ag (se rfl)) (se rfl)) (he:=se rfl) (hpl:=na rfl))) lR T.bc (pv 0) (hr.mono ∅) (aa (pv 1) ag (se rfl)) iD T.bc (pv 0) (hr.mono ∅) (aa (pv 1) ag (se rfl)) rfl rfl rfl T.k_LuckError nd rfl rfl (λad=>(ah (aJ (i:=3) nd rfl (.inl rfl) (a8 (Ac (K:=K)) (by rfl) T.z_isinstance rfl (aa (pv 2) (aa (bf (aa (fH (v:=V.ref _) rfl T.k_NoEnd rfl) (aa (fH (v:=V.ref _) rfl T.k_NoGame rfl) (aa (fH (v:=V.ref _) rfl T.k_NoPlay rfl) (aa (fH (v:=V.ref _) rfl T.k_NoRow rfl) (aa (fH (v:=V.ref _) rfl T.k_NoRule rfl) (aa (fH (v:=V.ref _) rfl T.k_NoWay rfl) (aa (fH (v:=V.ref _) rfl T.k_TooMany rfl) ag (se rfl)) (se rfl)) (se rfl)) (se rfl)) (se rfl)) (se rfl)) (se rfl))) ag (se rfl)) (se rfl)) (he:=se rfl) (hpl:=na rfl)))
  (ao (aY (vF (a8 (ve (K:=K)) (by rfl) T.z_isinstance rfl (aa (pv 2) (aa (fH (v:=V.ref _) rfl T.k_NoStep rfl) ag (se rfl)) (se rfl)) (he:=se rfl) (hpl:=na rfl)) (vF (a8 (ve (K:=K)) (by rfl) T.z_isinstance rfl (aa (pv 2) (aa (my (v:=V.ty "ValueError") rfl T.z_ValueError rfl rfl) ag (se rfl)) (se rfl)) (he:=se rfl) (hpl:=na rfl)) (zt (Ds (pv 3))))))))) (he:=se rfl) (hpl:=na rfl) (he2:=se rfl) (hpl2:=na rfl))
  (ao (aY ky))),?_⟩
  have Ur:=sizeLine_eq;symm;obtain⟨dp,c,Dh,R8,S4,hpl,_⟩:=pl.ex;nofun;clear G_;have BZ:∀{k:Str} {a b c d:V},(k==Zz "course")=false->(k==Zz "state")=false->(k==Zz "paid")=false->(k==Zz "trail")=false->List.lookup k (iT a b c d)=none:=λh1 h2 h3 h4=>by
   unfold iT;rw[bM h1,bM h2,bM h3,bM h4];rfl
  have ka:PySem.W.kitAny K (.ref aA) [.ref aV,.ref aL,.ref aN,.ref aX,.ref aM,.ref aW,.ref aE]=some false:=by
   simp only[PySem.W.kitAny,T.n_NoStep_NoEnd,T.n_NoStep_NoGame,T.n_NoStep_NoPlay,T.n_NoStep_NoRow,T.n_NoStep_NoRule,T.n_NoStep_NoWay,T.n_NoStep_TooMany]
  change tSeq _ _ _ _ _;refine aU (λ_=>True) trivial (λN _=>?_);unfold Ew;generalize hX:DV _ _ _ _ _ _=X;have iG:∀H1,K3 p tl tb H H1->di av af L H1 p tl tb g st pd tr->X (.ref aA) none H1:=λH1 k1 sP=>by
   rw[<-hX];dsimp?[DV];refine⟨T.e_NoStep_LuckError,λad XR=>⟨by lia,λq H2 s2 nq eq=>?_⟩⟩;have sx:=(aD (o:=DU ad (Value.ref aA)) XR).trans s2;have ex:=s2 _ _ (aj (H:=H1) (a:=ad) (o:=DU ad (Value.ref aA)));refine⟨_,ex,T.rV,_,eq,_,rfl,false,ka,_,ex,T.rV,_,rfl,true,T.i_NoStep_NoStep,?_⟩;rw[if_pos rfl];refine⟨_,ex,T.rV,_,rfl,true,T.i_NoStep_ValueError,?_⟩;rw[if_pos rfl];exact kk _ (k1.trans (.of sx)) (sP.same sx)
  clear hX;rcases bad with ⟨rfl,rfl⟩ | ⟨z,rfl,hz⟩ | ⟨n,rfl,hn⟩
  ·dsimp?[bR,Fe];exact⟨_,_,hpl,BZ ∅ ∅ ∅ ∅,tl,tb,L,g,st,pd,[],pl,by lia,λ_=>iG _ (.of (aF.refl _)) pl,λFf e z=>by simp at z⟩
  ·dsimp?[bR,yM];rw[if_neg (by intro h;cases h)];refine⟨_,.str _,true,by rfl,?_⟩;rw[if_pos rfl];refine⟨_,_,hpl,BZ ∅ ∅ ∅ ∅,tl,tb,L,g,st,pd,tr,pl,by lia,x,lk,zo,λ_ H1 s1=>iG _ (.of s1) (pl.same s1),λr er=>?_⟩;have h1:=aax er;have h2:=List.find?_some er;exact absurd (by simpa using h2) (hz r h1)
  ·dsimp?[bR,yN];rw[if_neg (by intro h;cases h)];refine⟨_,.int _,false,by rfl,?_⟩;rw[if_neg ∅];refine⟨_,_,hpl,BZ ∅ ∅ ∅ ∅,tl,tb,L,g,st,pd,tr,pl,by lia,x,lk,λc5 t b rs e=>?_,zo,λ_ H1 k1 sP=>iG _ k1 sP,λps t b rs e hv=>absurd hv (hn ps t b rs e)⟩;rw[e] at wx;symm;obtain⟨ps,e1,gl,_⟩:=wx;nofun;exact⟨ps,e1,gl⟩
theorem nO:aZ ["_law_play","_law_game_here","_law_state","_law_got","_law_steps"] ["_law_play","_law_game_here","_law_state","_law_got","_law_steps"] (aq (top 67)):=⟨rfl,rfl,rfl,∅,rfl,∅,∅⟩
theorem L3 (T:Txt K mg aB aH aI aV aE aL aW aM aA aN aX af av):cg P w K mg base (br P w) 9 "_law_same" ["_law_play","_law_game_here","_law_state","_law_got","_law_steps"] (B4 av af):=by
 have uD:bD P w K mg base (br P w) 1 av "stands" ["self"] (E7 av af):=Lc T;have uE:bD P w K mg base (br P w) 4 av "points" ["self"] (Fc av af):=Li T;have eP:bD P w K mg base (br P w) 8 av "open_ways" ["self"] (vp av af):=Fi T;have xf:bD P w K mg base (br P w) 1 av "shown" ["self"] (Fg av af):=Ln T;have eZ:cg P w K mg base (br P w) 3 "_law_open" ["_law_game_here","_law_state"] sU:=AQ T;have uF:cg P w K mg base (br P w) 3 "_law_points" ["_law_game_here","_law_state","_law_got"] FD:=LV T;refine T.yn.dJ (λ_ _ _ _ _ _=>QI λ_ _ _ _ _=>rfl) λf fd F=>F.eC nO (λvs H Q E h=>?_) (λcf A outer s H vs Q E hr h=>?_)
 ·obtain⟨_,_,_,_,_,_,_,_,_,_,_,_,_,rfl,_⟩:=h;rfl
 ·symm;obtain⟨p,gv,sv,Fj,sl,tl,tb,L,g,gs,st,pd,tr,rfl,pl,rg,Us,Dl,kY,Ou,zo,wO,tw,XS,XT,XU,Mb,kk⟩:=h;nofun;have nd:=nO.nd;refine⟨_,(ah (bw (PW.pt (pw_or (aP (Eb hr.units) (oC uD T.bc (pv 0) (hr.mono ∅) au.pass) (bf (aa (ar ai (pv 2) ae (λ_ _=>rfl)) (aa (ar ai (pv 2) ae (λ_ _=>rfl)) ag (se rfl)) (se rfl))) (a5 _)) (pw_or1 (aP (Eb hr.units) (oC uE T.bc (pv 0) (hr.mono ∅) au.pass) (aO uF (hr.mono ∅) rfl au.pass (aa (pv 1) (aa (pv 2) (aa (pv 3) ag (se rfl)) (se rfl)) (se rfl)) (he:=se rfl) (hpl:=na rfl)) (a5 _))))) (ao (aY ky))
   ba)
  (ao (aY (vF (gz (Km hr.units) (oC eP T.bc (pv 0) (hr.mono ∅) au.pass) (aO eZ (hr.mono ∅) rfl au.pass (aa (pv 1) (aa (pv 2) ag (se rfl)) (se rfl)) (he:=se rfl) (hpl:=na rfl)) (a5 _)) (zt (gz bG (oC xf T.bc (pv 0) (hr.mono ∅) au.pass) (fi PySem.F.plainAttrs_str PySem.F.slot_str_join PySem.F.type_str_join (x8 (K:=K)) a7 (aa (pv 4) ag (se rfl))) (a5 _))))))),?_⟩
  have Ur:=sizeLine_eq;symm;obtain⟨sa,cl,rfl,gQ,fX⟩:=id kY;obtain⟨x,lk,wx⟩:=Dl.at_;have Pj:Jm x:=λc k a b e=>by rw[e] at wx;exact wx
  have ew:=LX Dl wx;obtain⟨ds,od,d0⟩:=LW (st:=st) wx;have XW:depth (.lst ds)<=40:=by
   show 1+depth.dL ds<=40;have:=rM (ds:=ds) (n:=0) λd hd=>Nat.le_of_eq (d0 d hd);lia
  obtain⟨dp,c,Dh,R8,S4,hpl,_⟩:=pl.ex;nofun;have BZ:∀{k:Str} {a b c d:V},(k==Zz "course")=false->(k==Zz "state")=false->(k==Zz "paid")=false->(k==Zz "trail")=false->List.lookup k (iT a b c d)=none:=λh1 h2 h3 h4=>by
   unfold iT;rw[bM h1,bM h2,bM h3,bM h4];rfl
  have XX:JoinOk (Zz " ") (tr.map λe:og=>e.1)=true:=joinOk_of (B:=20) (λy hy=>by
   symm;obtain⟨e,he,rfl⟩:=aaJ.mp hy;nofun;exact(tw e he).2.1) (by rw[ZA,show(Zz " ").length=1 by decide +kernel];lia)
  change tSeq _ _ _ _ _;refine aU (λN=>∀H1,aF H H1->N [some (.ref p),some gv,some (.ref sa),some Fj,some (.ref sl)] H1) ?_ (λN hN=>?_)
  case refine_2=>
   dsimp?[bR,E7,Fc,FD,G4];refine⟨_,_,hpl,BZ ∅ ∅ ∅ ∅,tl,tb,L,g,st,pd,tr,pl,λa l H1 s1 na nl ha hl=>⟨_,s1 _ _ (a6 _ _ gQ),_,at0,_,s1 _ _ (a6 _ _ gQ),_,at1,by lia,λq H2 s2 nq eq=>⟨.tup [.str st.1,.lst (st.2.map Dat.int)],?_,?_,⟨_,rfl⟩,?_,?_⟩⟩⟩
   ·exact bN.mpr ⟨a,_,_,rfl,s2 _ _ ha,aR.mpr rfl,bh.mpr ⟨l,_,rfl,s2 _ _ hl,ints_rep _⟩⟩
   ·exact bN.mpr ⟨q,_,_,rfl,eq,aR.mpr rfl,bh.mpr ⟨cl,_,rfl,(s1.trans s2) _ _ (a6 _ _ fX),ints_rep _⟩⟩
   ·show 1+max 0 (max (1+depth.dL _) 0)<=40;have:=rM (ds:=st.2.map Dat.int) (n:=0) λd hd=>by obtain⟨i,_,rfl⟩:=aaJ.mp hd;exact ZD _
    lia
   rw[if_neg ∅];have yO:=s1.trans s2;have v2:=(a6 (L:=L)).trans yO;refine⟨_,_,yO _ _ hpl,BZ ∅ ∅ ∅ ∅,tl,tb,L,g,st,pd,tr,pl.same yO,x,lk,Pj,zo.le ∅,ew,λu H3 s3 ru=>⟨g,rg.mono (v2.trans s3),Us.good,st,kY.mono (v2.trans s3),Dl.len,pd,x,lk,Ou.mono (v2.trans s3),zo.le ∅,ew,λu1 H4 s4 XY=>⟨_,ru.mono s4,XY,?_,?_,?_⟩⟩⟩
   ·symm;obtain⟨q',e,_⟩:=cA.mp ru;nofun;exact⟨q',e⟩
   ·rw[Ag];decide
   ·rw[if_neg ∅];exact hN _ (yO.trans (s3.trans s4))
  rintro H1 s1;have sP:=pl.same s1;dsimp?[bR,vp,sU,Fg,G4,rJoin];refine⟨_,_,s1 _ _ hpl,BZ ∅ ∅ ∅ ∅,tl,tb,L,g,st,pd,tr,sP,x,lk,ds,od,λa H2 k2 Hq na ra=>?_⟩;have yO:aF (bQ L H) (bQ L H2):=(hJ s1).trans (k2.cX pl.mem.1 pl.mem.2.1 pl.mem.2.2);have v2:=yO.trans a6;refine⟨g,rg.mono v2,Us.good,gs,st,kY.mono v2,Dl.len,x,lk,wx,λb H3 es s3 nb rb oe=>?_⟩;rw[<-FT od oe] at rb;symm;obtain⟨Zp,c2,Zq,Zr,Mi,hpl2,_⟩:=Hq.ex;nofun;have R9:=s3 _ _ (k2 _ _ XS XT XU (s1 _ _ Mb));refine⟨.lst ds,ra.mono s3,rb,⟨_,rfl⟩,XW,_,_,s3 _ _ hpl2,BZ ∅ ∅ ∅ ∅,tl,tb,L,g,st,pd,tr,Hq.same s3,wO,λe he=>(tw e he).2.1,λH4 s4=>?_⟩;refine⟨rfl,_,bL.of (s4 _ _ R9),XX,?_⟩;have e:decide (Jl tr=Txt.join (Zz " ") (tr.map λe:og=>e.1))=true:=decide_eq_true rfl;rw[e];exact kk H4 ((K3.of s1).trans (k2.trans (.of (s3.trans s4)))) (Hq.same (s3.trans s4))
theorem FY:aZ ["_law_script","_law_game_here","_law_play","_law_state","_law_got","_law_steps","_law_k","_law_cell_here","_law_some","_law_bad_here","_law_step"] ["_law_script"] (aq (top 68)):=⟨rfl,rfl,rfl,∅,rfl,∅,∅⟩
theorem L4 (T:Txt K mg aB aH aI aV aE aL aW aM aA aN aX af av) {f:Addr} {fd:FuncData} (F:zU K "law" "law" (top 68) f fd):fU P w K mg base (br P w) 20 f fd ["_law_script"] (BM K):=by
 have eY:cg P w K mg base (br P w) 1 "_law_cell" ["_law_script","_law_k"] (Lq K):=BX T;have aK:cg P w K mg base (br P w) 1 "_law_mixed" ["_law_cell_here","_law_many"] bP:=lQ T;have yZ:cg P w K mg base (br P w) 4 "_law_game" ["_law_script","_law_at","_law_turns","_law_most"] (Fw K):=LK T;have eK:cg P w K mg base (br P w) 2 "_law_arrived" ["_law_game_here","_law_name","_law_counts"] vy:=FP T;have eZ:cg P w K mg base (br P w) 3 "_law_open" ["_law_game_here","_law_state"] sU:=AQ T;have AR:cg P w K mg base (br P w) 4 "_law_bad" ["_law_game_here","_law_state","_law_cell_here"] FW:=LZ T;have jj:cg P w K mg base (br P w) 10 "_law_refused" ["_law_play","_law_step"] (B3 av af):=L1 T;have pY:cg P w K mg base (br P w) 9 "_law_same" ["_law_play","_law_game_here","_law_state","_law_got","_law_steps"] (B4 av af):=L3 T;have gF:cg P w K mg base (br P w) 2 "_law_plus" ["_law_one","_law_other"] jc:=FE T;have y4:cg P w K mg base (br P w) 2 "_law_paid" ["_law_game_here","_law_state"] FC:=LU T;have y7:cg P w K mg base (br P w) 3 "_law_gone" ["_law_game_here","_law_state","_law_step"] FA:=LR T;have L5:vi P w K mg base (br P w) 5 "Play" av ["self","game"] (E6 av af):=Ld T;have lR:bD P w K mg base (br P w) 5 av "say" ["self","word"] (yM av af aA aE):=Fl T;have iD:bD P w K mg base (br P w) 9 av "throw" ["self","value"] (yN av af aA aE):=Fm T;refine F.eC FY (λvs H Q E h=>?_) (λcf A outer s H vs Q E hr h=>?_)
 ·obtain⟨_,_,rfl,_⟩:=h;rfl
 ·symm;obtain⟨sc,Mt,rfl,hS,Zs,kk⟩:=h;nofun;clear G_;have nd:=FY.nd;refine⟨_,(ah (aJ (i:=1) nd rfl (.inl rfl) (aO yZ (hr.mono ∅) rfl au.pass (aa (pv 0) (aa ae (aa (aG aQ ae (aG cJ (aO eY (hr.mono ∅) rfl au.pass (aa (pv 0) (aa ae ag (se rfl)) (se rfl)) (he:=se rfl) (hpl:=na rfl)) ae)) (aa ae ag (se rfl)) (se rfl)) (se rfl)) (se rfl)) (he:=se rfl) (hpl:=na rfl)))
  (ah (aJ (i:=2) nd rfl (.inl rfl) (IX L5 (hr.mono ∅) rfl au.pass (aa (pv 1) ag (se rfl)) (he:=se rfl) (hpl:=na rfl)))
  (ah (aJ (i:=3) nd rfl (.inl rfl) (aO eK (hr.mono ∅) rfl au.pass (aa (pv 1) (aa (ar ai (ar a4 (ar ai (pv 1) ae (λ_ _=>rfl)) ae (λ_ _=>rfl)) ae (λ_ _=>rfl)) (aa (cO rfl (N:=["_law_script","_law_game_here","_law_play","_law_state","_law_got","_law_steps","_law_k","_law_cell_here","_law_some","_law_bad_here","_law_step"]) (so:=aq (top 68)) (N':=["_law_one"]) (k:=1) (fr:=[]) rfl rfl ⟨rfl,∅,∅,∅,rfl,∅,∅⟩ (bA (K:=K) (ar ai (pv 1) ae (λ_ _=>rfl))) (λ_ _ _ _ _=>(a9 (i:=0) (show(["_law_one"]:List Str).Nodup by decide +kernel) rfl (.inl rfl))) (λ_ _ _ _ _=>dH)
   (λ_ _ _ _ _=>ae)) ag (se rfl)) (se rfl)) (se rfl)) (he:=se rfl) (hpl:=na rfl)))
  (ah (aJ (i:=4) nd rfl (.inl rfl) (bf (aa ae (aa ae ag (se rfl)) (se rfl))))
  (ah (aJ (i:=5) nd rfl (.inl rfl) (cb ag))
  (ah (bw (vE (ie (aO jj (hr.mono ∅) rfl au.pass (aa (pv 2) (aa qX ag (se rfl)) (se rfl)) (he:=se rfl) (hpl:=na rfl)))) (ao (aY ky))
   ba)
  (ah (cS PassesOwn.never rfl (cN rfl T.z_range (aa ae ag (se rfl))) (a9 (i:=6) nd rfl (.inl rfl)) (ah (aJ (i:=7) nd rfl (.inl rfl) (aO eY (hr.mono ∅) rfl au.pass (aa (pv 0) (aa (aG aQ ae (pv 6)) ag (se rfl)) (se rfl)) (he:=se rfl) (hpl:=na rfl)))
  (ah (aJ (i:=8) nd rfl (.inl rfl) (aO eZ (hr.mono ∅) rfl au.pass (aa (pv 1) (aa (pv 3) ag (se rfl)) (se rfl)) (he:=se rfl) (hpl:=na rfl)))
  (ah (aJ (i:=9) nd rfl (.inl rfl) (aO AR (hr.mono ∅) rfl au.pass (aa (pv 1) (aa (pv 3) (aa (aO aK (hr.mono ∅) rfl au.pass (aa (aG aQ (pv 7) ae) (aa (aG q9 ae ae) ag (se rfl)) (se rfl)) (he:=se rfl) (hpl:=na rfl)) ag (se rfl)) (se rfl)) (se rfl)) (he:=se rfl) (hpl:=na rfl)))
  (ah (bw (PW.pt (pw_or (aP (Ab (K:=K)) (pv 9) (pv 8) rfl) (pw_or (vE (ie (aO jj (hr.mono ∅) rfl au.pass (aa (pv 2) (aa (pv 9) ag (se rfl)) (se rfl)) (he:=se rfl) (hpl:=na rfl)))) (pw_or1 (vE (ie (aO pY (hr.mono ∅) rfl au.pass (aa (pv 2) (aa (pv 1) (aa (pv 3) (aa (pv 4) (aa (pv 5) ag (se rfl)) (se rfl)) (se rfl)) (se rfl)) (se rfl)) (he:=se rfl) (hpl:=na rfl)))))))) (ao (aY ky))
   ba)
  (ah (bw (aP bG (a8 bO (by rfl) T.z_len ZT (aa (pv 8) ag (se rfl)) (he:=se rfl) (hpl:=na rfl)) ae (a5 _)) (ao xB)
   ba)
  (ah (aJ (i:=10) nd rfl (.inl rfl) (ar a4 (pv 8) (aO aK (hr.mono ∅) rfl au.pass (aa (pv 7) (aa (a8 bO (by rfl) T.z_len ZT (aa (pv 8) ag (se rfl)) (he:=se rfl) (hpl:=na rfl)) ag (se rfl)) (se rfl)) (he:=se rfl) (hpl:=na rfl)) (λ_ _=>rfl)))
  (ah (bw (ie (a8 (jJ (K:=K)) (by rfl) T.z_isinstance rfl (aa (pv 10) (aa (my (v:=V.ty "str") rfl T.z_str rfl rfl) ag (se rfl)) (se rfl)) (he:=se rfl) (hpl:=na rfl))) (ao (b6 (c9 lR T.bc (pv 2) (hr.mono ∅) au.pass (aa (pv 10) ag (se rfl)) (hst:=se rfl) (hpl:=na rfl))))
   (ao (b6 (c9 iD T.bc (pv 2) (hr.mono ∅) au.pass (aa (pv 10) ag (se rfl)) (hst:=se rfl) (hpl:=na rfl)))))
  (ah (aJ (i:=4) nd rfl (.inl rfl) (aO gF (hr.mono ∅) rfl au.pass (aa (pv 4) (aa (aO y4 (hr.mono ∅) rfl au.pass (aa (pv 1) (aa (pv 3) ag (se rfl)) (se rfl)) (he:=se rfl) (hpl:=na rfl)) ag (se rfl)) (se rfl)) (he:=se rfl) (hpl:=na rfl)))
  (ah (aJ (i:=3) nd rfl (.inl rfl) (aO y7 (hr.mono ∅) rfl au.pass (aa (pv 1) (aa (pv 3) (aa (pv 10) ag (se rfl)) (se rfl)) (se rfl)) (he:=se rfl) (hpl:=na rfl)))
  (ao (b6 (fi Z5 aar aas dG.r (pv 5) (aa (eg Ai (by rfl) T.z_str rfl (aa (pv 10) ag (se rfl)) (he:=se rfl) (hpl:=na rfl)) ag (se rfl)))))))))))))))
  (ao (aY (aO pY (hr.mono ∅) rfl au.pass (aa (pv 2) (aa (pv 1) (aa (pv 3) (aa (pv 4) (aa (pv 5) ag (se rfl)) (se rfl)) (se rfl)) (se rfl)) (se rfl)) (he:=se rfl) (hpl:=na rfl))))))))))),?_⟩
  refine(?_:let bY:TS:=_;let bZ:TS:=_;let b5:TS:=_;let cY:TS:=_;let pP:TS:=_;let yE:TS:=_;let EZ:TS:=_;let Jp:TS:=_;tSeq bY (tSeq bZ (tSeq b5 (tSeq cY (tSeq pP (tSeq yE (tSeq EZ Jp)))))) _ _ _);intro bY bZ b5 cY pP yE EZ Jp;have Ur:=sizeLine_eq;change tSeq _ _ _ _ _;refine aU (λN=>∀H1 gv g gs,aF H H1->Rep H1 (Av g) gv->N8 g gs->N [some (.ref sc),some gv,none,none,none,none,none,none,none,none,none] H1) ?_ (λN hN=>?_)
  case refine_2=>
   dsimp?[Fw,Lq];exact⟨Mt,hS,∅,∅,λn=>⟨∅,Mt,hS,∅,∅,by lia,by lia,∅,∅,λu H1 g gs s1 r1 g1=>hN _ u g gs s1 r1 g1⟩⟩
  rintro H1 gv g gs s1 rg gm;symm;obtain⟨ft,Rp,Oz⟩:=gm.hd;obtain⟨nm,x0,ak,lk,wx⟩:=gm.to ft Rp (aaO g.cs.length 0);nofun;clear G_;change tSeq _ _ _ _ _;refine aU (λN=>∀H2 p tl tb,B2 av af H1 H1 H2 p tl tb g nm->N [some (.ref sc),some gv,some (.ref p),none,none,none,none,none,none,none,none] H2) ?_ (λN hN=>?_)
  case refine_2=>
   dsimp?[A9,E6];intro x dx nx Py ne;refine⟨dx,aj,H1,λa o h=>by rw[aw (λz=>by rw[z,nx] at h;cases h),aw (λz=>by rw[z,Py] at h;cases h)];exact h,nx,g,rg,gm.good,3,ft,Oz,nm,ak,λc sv pv tl tb H2 kH n1 n2 h1 h2 h3 co st rp=>hN _ x tl tb (Iq (aF.refl _) nx Py kH n1 n2 h1 h2 h3 co st rp)⟩
  rintro H2 p tl tb md;have yO:=md.sm;symm;obtain⟨gp,cv,pv,rfl,zm,rc,rp⟩:=bN.mp (show Rep H1 (.tup _) gv from rg);obtain⟨cl,yG,rfl,fX,tZ⟩:=bh.mp (show Rep H1 (.lst _) cv from rc);obtain⟨pl,E1,rfl,hpl,Gp⟩:=bh.mp (show Rep H1 (.lst _) pv from rp);nofun;clear G_;change tSeq _ _ _ _ _;refine aU (λN=>∀H3 sa sl,aF H2 H3->H2 sa=none->H2 sl=none->H3 sa=some (.tup [.str nm,.ref sl])->H3 sl=some (.lst ((aaO g.cs.length (0:Int)).map V.int))->N [some (.ref sc),some (.ref gp),some (.ref p),some (.ref sa),none,none,none,none,none,none,none] H3) ?_ (λN hN=>?_)
  case refine_2=>
   dsimp?[vy,yO _ _ zm,yO _ _ hpl,yO _ _ fX];obtain⟨p0,rest,Ut⟩:∃p0 rest,g.ps=p0::rest:=by
    cases e:g.ps with
    | nil=>rw[e] at Oz;cases Oz
    | cons a b=>exact⟨a,b,rfl⟩
   have e0:p0.1=ft:=by rw[Ut] at Oz;exact ZU Oz
   obtain⟨v,ev,rv⟩:=Gp.at (i:=0) (by rw[ZE,Ut];rfl);symm;obtain⟨q,x1,x2,rfl,hq,r1,r2⟩:=bN.mp (show Rep H1 (.tup _) v from rv);have r1:=aR.mp r1;rw[e0] at r1;subst r1;nofun;have AB:=tZ.length;rw[ZA] at AB;have lcs:=gm.good.lc;refine⟨_,bT (j:=0) ev,q,rfl,_,yO _ _ hq,_,at0,⟨_,bL.of (yO _ _ fX)⟩,?_⟩;have S:Src (xC K cl) (aF H2) yG.length _:=src_list (λH' s'=>bL.of (s' _ _ (yO _ _ fX)));rw[<-AB] at S;refine vf g.cs (λ_=>some 0) S (λ_ _ _ _ h=>h.1) (by lia) (λi a x _ _ Y N y1 y2=>?_) ?_
   ·unfold t7;refine DL ?_;dsimp?[];exact y1 _ rfl
   ·intro D n1 n2;have er:g.cs.filterMap (λ_=>some (0:Int))=aaO g.cs.length 0:=by rw[List.filterMap_eq_map',List.map_const']
    rw[er];have sD:=aD (o:=.lst (List.map V.int (aaO g.cs.length (0:Int)))) n1;exact⟨D,ft,rfl,rfl,g,rg.mono (yO.trans sD),gm.good,aaO g.cs.length 0,aj,List.length_replicate,3,nm,ak,λa l' H4 s4 na nl ha hl=>hN _ a l' (sD.trans s4) (none_of sD na) (none_of sD nl) ha hl⟩
  rintro H3 sa sl Uu XZ X0 gQ Mb;change tSeq _ _ _ _ _;refine aU (λN=>∀H4 r,aF H3 H4->H3 r=none->H4 r=some (.tup [.int 0,.int 1])->N [some (.ref sc),some (.ref gp),some (.ref p),some (.ref sa),some (.ref r),none,none,none,none,none,none] H4) ?_ (λN hN=>?_)
  case refine_2=>
   dsimp?[];exact⟨by lia,λr H4 s4 nr er=>hN _ r s4 nr er⟩
  rintro H4 r Sa nr Ak;change tSeq _ _ _ _ _;refine aU (λN=>∀H5 ws,aF H4 H5->H4 ws=none->H5 ws=some (.lst [])->N [some (.ref sc),some (.ref gp),some (.ref p),some (.ref sa),some (.ref r),some (.ref ws),none,none,none,none,none] H5) ?_ (λN hN=>?_)
  case refine_2=>
   dsimp?[];exact⟨ZM _,λl nl=>hN _ l (aD nl) nl aj⟩
  rintro H5 ws Ib L6 Sb;symm;obtain⟨a1,a2,a3⟩:=md.np;obtain⟨_,_,_,_,_,_,b1,b2,b3,_⟩:=md.ex;nofun;clear G_;have Mw:=Uu.trans Sa;have PB:=Mw.trans Ib;have FO:=yO.trans Mw;generalize hL:[p,tl,tb,ws]=L;have Jt:∀{a},a∈L↔(a=p\/a=tl\/a=tb\/a=ws):=λ{a}=>by rw[<-hL];simp
  have ne:∀{X:Hp} {a b o},X a=some o->X b=none->a≠b:=λh n z=>by rw[z,n] at h;cases h
  have Uv:∀a∈L,∃o,H5 a=some o/\∀vs,o≠.tup vs:=λa ha=>by
   rcases Jt.mp ha with rfl | rfl | rfl | rfl
   ·exact⟨_,PB _ _ b1,λ_ z=>by cases z⟩
   ·exact⟨_,PB _ _ b2,λ_ z=>by cases z⟩
   ·exact⟨_,PB _ _ b3,λ_ z=>by cases z⟩
   ·exact⟨_,Sb,λ_ z=>by cases z⟩
  have o1:∀{a o},H1 a=some o->a∉L:=λ{a o} h m=>by
   rcases Jt.mp m with rfl | rfl | rfl | rfl
   ·exact ne h a1 rfl
   ·exact ne h a2 rfl
   ·exact ne h a3 rfl
   ·exact ne (FO _ _ h) L6 rfl
  have o2:∀{a o},H2 a=none->H4 a=some o->a∉L:=λ{a o} n h m=>by
   rcases Jt.mp m with rfl | rfl | rfl | rfl
   ·exact ne b1 n rfl
   ·exact ne b2 n rfl
   ·exact ne b3 n rfl
   ·exact ne h L6 rfl
  have vz:di av af L H5 p tl tb g (nm,aaO g.cs.length 0) (0,1) []:=md.vz PB (λa o _ n h m=>by
   rcases Jt.mp m with rfl | rfl | rfl | rfl
   ·exact n (by simp)
   ·exact n (by simp)
   ·exact n (by simp)
   ·exact ne (Mw _ _ h) L6 rfl) ⟨Jt.mpr (by simp),Jt.mpr (by simp),Jt.mpr (by simp)⟩ Uv gm.good
  have X1:CZ g gs (nm,aaO g.cs.length 0):=⟨List.length_replicate,λn hn=>by rw[List.eq_of_mem_replicate hn];decide,x0,lk,wx⟩
  have PD:∀{a o},H2 a=none->H4 a=some o->bQ L H5 a=some o:=λn h=>by rw[cK (o2 n h)];exact Ib _ _ h
  have P0:PQ av af L g gs H5 p tl tb ws 0 (.ref sa) (.ref r) (nm,aaO g.cs.length 0) (0,1) []:=⟨vz,Jt.mpr (by simp),X1,jN 0 ∅ ∅,ZD _,(λe he=>by cases he),⟨λz=>ne (Mw _ _ b1) L6 z.symm,λz=>ne (Mw _ _ b2) L6 z.symm,λz=>ne (Mw _ _ b3) L6 z.symm⟩,Sb,⟨sa,sl,rfl,PD XZ (Sa _ _ gQ),PD X0 (Sa _ _ Mb)⟩,cA.mpr ⟨r,rfl,PD (none_of Uu nr) Ak⟩⟩
  have OA:aF H1 (bQ L H5):=λa o h=>by rw[cK (o1 h)];exact Ib _ _ (FO _ _ h)
  clear o2 vz Uv a1 a2 a3 b1 b2 b3 md L6 Sb gQ Mb Ak PD o1;obtain⟨Iv,Uw⟩:∃Iv:Nat->V->V->Hp->Prop,∀n sv pv H',Iv n sv pv H'↔(aF H1 (bQ L H')/\∃st pd tr,PQ av af L g gs H' p tl tb ws n sv pv st pd tr):=⟨_,λ_ _ _ _=>Iff.rfl⟩
  have hI:=λ{n sv pv H'}=>Uw n sv pv H';clear Uw;change tSeq _ _ _ _ _;refine aU (λN=>∀H6,Iv 0 (.ref sa) (.ref r) H6->N [some (.ref sc),some (.ref gp),some (.ref p),some (.ref sa),some (.ref r),some (.ref ws),none,none,none,none,none] H6) ?_ (λN hN=>?_)
  case refine_2=>
   dsimp?[B3];refine⟨tl,tb,L,g,gs,_,_,_,P0.vz,by show(0:Nat)<200;decide,x0,lk,wx,P0.hf.le ∅,.inl rfl,λH6 k6 X2=>?_⟩;obtain⟨P6,s6⟩:=P0.keep k6 X2;rw[if_neg ∅];exact hN _ (hI.mpr ⟨OA.trans s6,_,_,_,P6⟩)
  rintro H6 X3;change tSeq _ _ _ _ _;refine aU (λN=>∀H7 n sv pv,n<=9->Iv n sv pv H7->∀z6 z7 z8 z9 nE,N [some (.ref sc),some (.ref gp),some (.ref p),some sv,some pv,some (.ref ws),z6,z7,z8,z9,nE] H7) ?_ (λN hN=>?_)
  case refine_2=>
   dsimp?[];refine⟨∅,∅,cu (src_range (Ok:=λ_=>True)) (λi σ H6=>∃sv pv,Iv i sv pv H6/\∃z6 z7 z8 z9 nE,σ=[some (.ref sc),some (.ref gp),some (.ref p),some sv,some pv,some (.ref ws),z6,z7,z8,z9,nE]) ⟨_,_,X3,_,_,_,_,_,rfl⟩ (λ_ _ _ _ _=>trivial) ?_ ?_⟩
   ·intro i x σ H7 H8 hi gN gO;symm;obtain⟨sv,pv,iv,z6,z7,z8,z9,nE,rfl⟩:=gN;obtain⟨rfl,rfl⟩:=gO;nofun;clear G_;have i9:i<9:=hi;have X4:=hN;simp only[gName,Z4,Z3,aal];symm;obtain⟨b8,st,pd,tr,P⟩:=hI.mp iv;obtain⟨x,L7,PF⟩:=P.sk.at_;nofun;clear G_;have v8:=b8.trans a6;change tSeq _ _ _ _ _;refine aU (λN=>∀c:Int,N [some (.ref sc),some (.ref gp),some (.ref p),some sv,some pv,some (.ref ws),some (.int (i:Int)),some (.int c),z8,z9,nE] H8) ?_ (λN hN=>?_)
    case refine_2=>
     dsimp?[Lq];exact⟨Mt,(s1.trans v8).seq hS,by lia,by lia,λn=>hN n⟩
    rintro c;change tSeq _ _ _ _ _;refine aU (λN=>∀H9 a ds,aF H8 H9->a∉L->Rep H9 (.lst ds) (.ref a)->Gq g st x ds->N [some (.ref sc),some (.ref gp),some (.ref p),some sv,some pv,some (.ref ws),some (.int (i:Int)),some (.int c),some (.ref a),z9,nE] H9) ?_ (λN hN=>?_)
    case refine_2=>
     dsimp?[sU];exact⟨g,rg.mono v8,gm.good,gs,st,P.sv.mono a6,P.sk.len,x,L7,PF,λa H9 ds s9 na ra od=>hN _ a ds s9 (P.vz.out na) ra od⟩
    rintro H9 so ds Sd X5 Pz od;have v9:=v8.trans Sd;change tSeq _ _ _ _ _;refine aU (λN=>∀HJ v,aF H9 HJ->sW g st x v->N [some (.ref sc),some (.ref gp),some (.ref p),some sv,some pv,some (.ref ws),some (.int (i:Int)),some (.int c),some (.ref so),some v,nE] HJ) ?_ (λN hN=>?_)
    case refine_2=>
     have X6:=cB (c:=c+1) (m:=2^40) ∅;dsimp?[FW,bP];exact⟨∅,∅,∅,∅,g,rg.mono v9,gm.good,gs,st,P.sv.mono (a6.trans Sd),P.sk.len,x,L7,PF,X6,λv HJ BO bd=>hN _ v BO bd⟩
    rintro HJ v OB bad;have OC:=Sd.trans OB;symm;obtain⟨Zt,gL,e0,Me,Ux⟩:=bh.mp (Pz.mono OB);nofun;clear G_;cases e0;have Se:=P.same OC;have Uy:=b8.trans (hJ OC);have ln:=P.ln;symm;obtain⟨X7,X8,out⟩:=Iy od Ux bad;nofun;clear G_;change tSeq _ _ _ _ _;refine aU (λN=>∀Gu,PQ av af L g gs Gu p tl tb ws i sv pv st pd tr->aF (bQ L HJ) (bQ L Gu)->Gu so=some (.lst gL)->bo Gu ds gL->N [some (.ref sc),some (.ref gp),some (.ref p),some sv,some pv,some (.ref ws),some (.int (i:Int)),some (.int c),some (.ref so),some v,nE] Gu) ?_ (λN hN=>?_)
    case refine_2=>
     dsimp?[JU,B3,B4];refine⟨gL,.inl (bL.of Me),X7,X8,?_⟩;rw[if_neg (by rw[if_neg ∅,out];decide)];refine⟨tl,tb,L,g,gs,st,pd,tr,Se.vz,by lia,x,L7,PF,Se.hf.le (by lia),.inr bad,λGu X9 Sf=>?_⟩;rw[if_neg ∅];obtain⟨ic,Uz⟩:=Se.keep X9 Sf;refine⟨tl,tb,L,g,gs,st,pd,tr,ic.vz,rg.mono (Uy.trans Uz),gm,ic.sk,ic.sv,ic.pv,ic.hf.le (by lia),by lia,ic.tw,ic.yW.1,ic.yW.2.1,ic.yW.2.2,ic.lt,λJu PJ IB=>?_⟩;rw[if_neg ∅];obtain⟨Yb,Sg⟩:=ic.keep PJ IB;have sf:=Uz.trans Sg;exact hN _ Yb sf (a6 _ _ (sf _ _ (by rw[cK X5];exact Me))) (IA od Ux _)
    rintro Gu ic OD FZ OE;have UA:=Uy.trans OD
    by_cases z:gL.length=0
    ·change tSeq _ _ _ _ _;refine aU (λ_=>True) trivial (λN _=>?_);refine dE (λY N k=>by dsimp?[FZ];rw[if_pos (by lia)];exact k) ?_;dsimp?[Dt];exact X4 _ i sv pv (by lia) (hI.mpr ⟨UA,st,pd,tr,ic⟩) _ _ _ _ _
    change tSeq _ _ _ _ _;refine aU (λN=>N [some (.ref sc),some (.ref gp),some (.ref p),some sv,some pv,some (.ref ws),some (.int (i:Int)),some (.int c),some (.ref so),some v,nE] Gu) ?_ (λN hN=>?_)
    case refine_2=>
     refine dq (λY N k=>by dsimp?[FZ];rw[if_neg (by lia)];exact k) ?_;dsimp?[];exact hN
    have c0:=cB (c:=c) (m:=(gL.length:Int)) (by lia);have c1:=cR (c:=c) (m:=(gL.length:Int)) (by lia);generalize hb:bS c (gL.length:Int)=b at *;obtain⟨j,rfl⟩:∃j:Nat,b=(j:Int):=⟨b.toNat,by lia⟩
    have hj:j<gL.length:=by lia
    symm;obtain⟨d,ed,rd⟩:=OE.get (ZH hj);obtain⟨w',py,gJ,zk,Yc,Fk,sw⟩:=Ip gm ic.sk L7 PF od (ZS ed);nofun;clear G_;have Yd:=ZH hj;generalize gL[j]=dv at *;have Ye:∀H',Rep H' d dv:=λH'=>by
     rcases zk with ⟨kI,rs,r,kW,_,_,rfl,_,_,_⟩ | ⟨ps,t',b,rs,r,v,kW,_,_,_,_,rfl,_,_,_⟩
     ·exact aR.mpr (aR.mp rd)
     ·exact bF.mpr (bF.mp rd)
    have tx:Te dv=some w':=by
     rcases zk with ⟨_,_,_,_,_,_,rfl,_⟩ | ⟨_,_,_,_,_,v,_,_,_,v0,v1,rfl,rfl,_⟩
     ·rw[aR.mp rd];rfl
     ·rw[bF.mp rd];exact if_pos (Nat.lt_of_le_of_lt (Nat.log2_le_self _) (by lia))
    have pw:Ly x=py:=by
     rcases zk with ⟨kI,rs,r,kW,_,_,_,rfl,_,_⟩ | ⟨ps,t',b,rs,r,v,kW,_,_,_,_,_,_,rfl,_⟩
     ·rw[L7] at kW;cases kW;rfl
     ·rw[L7] at kW;cases kW;rfl
    change tSeq _ _ _ _ _;refine aU (λN=>N [some (.ref sc),some (.ref gp),some (.ref p),some sv,some pv,some (.ref ws),some (.int (i:Int)),some (.int c),some (.ref so),some v,some dv] Gu) ?_ (λN hN=>?_)
    case refine_2=>
     dsimp?[bP,FZ];rw[hb];exact⟨by lia,_,bT Yd,hN⟩
    symm;obtain⟨dp,Zu,WC,WD,Zv,OF,_⟩:=ic.vz.ex;nofun;have BZ:∀{k:Str} {a b c d:V},(k==Zz "course")=false->(k==Zz "state")=false->(k==Zz "paid")=false->(k==Zz "trail")=false->List.lookup k (iT a b c d)=none:=λh1 h2 h3 h4=>by
     unfold iT;rw[bM h1,bM h2,bM h3,bM h4];rfl
    change tSeq _ _ _ _ _;refine aU (λN=>∀Ju,K3 p tl tb Gu Ju->di av af L Ju p tl tb g gJ (Wq.pl pd py) (tr++ [(w',st,pd)])->N [some (.ref sc),some (.ref gp),some (.ref p),some sv,some pv,some (.ref ws),some (.int (i:Int)),some (.int c),some (.ref so),some v,some dv] Ju) ?_ (λN hN=>?_)
    case refine_2=>
     rcases zk with ⟨kI,rs,r,kW,Ii,Oq,rfl,rfl,e2,ak⟩ | ⟨ps,t',b,rs,r,v,kW,gl,hv,v0,v1,rfl,rfl,rfl,ro,e2,ak⟩
     ·obtain rfl:=aR.mp rd;dsimp?[bR,yM];refine⟨_,.str _,true,by rfl,?_⟩;rw[if_pos rfl];refine⟨_,_,OF,BZ ∅ ∅ ∅ ∅,tl,tb,L,g,st,pd,tr,ic.vz,by lia,_,kW,ic.hf.le (by lia),(λz=>by rw[Oq] at z;cases z),λr' er=>?_⟩;rw[Oq] at er;cases er;rw[e2] at ak;exact⟨3,gJ.1,ak,λz=>absurd z (by lia),λ_ H1 k1 sP=>hN H1 k1 (by rw[<-e2] at sP;exact sP)⟩
     ·obtain rfl:=bF.mp rd;dsimp?[bR,yN];refine⟨_,.int _,false,by rfl,?_⟩;rw[if_neg ∅];rw[e2] at ak;refine⟨_,_,OF,BZ ∅ ∅ ∅ ∅,tl,tb,L,g,st,pd,tr,ic.vz,by lia,_,kW,λc5 t b rs e=>?_,ic.hf.le (by lia),λz=>absurd hv (z ps _ _ rs rfl),λMq Zw Zx N7 e SD=>?_⟩
      ·injection e with e
       exact⟨ps,e.symm,gl⟩
      ·injection e with e1 Yg e3 e4
       have e1:=ix e1;subst e1 Yg e3 e4;exact⟨v0,v1,Fk.le ∅,r,ro,3,gJ.1,ak,λz=>absurd z (by lia),λ_ H1 k1 sP=>hN H1 k1 (by rw[<-e2] at sP;exact sP)⟩
    rintro Ju PJ IB;have B5:=PJ.cX ic.vz.mem.1 ic.vz.mem.2.1 ic.vz.mem.2.2;have UB:=UA.trans B5;have UC:=UB.trans a6;have Si:=PJ _ _ ic.yW.1 ic.yW.2.1 ic.yW.2.2 ic.lt;change tSeq _ _ _ _ _;refine aU (λN=>∀Jv q,aF Ju Jv->Ju q=none->Jv q=some (.tup (Pr (Wq.pl pd py).1 (Wq.pl pd py).2))->N [some (.ref sc),some (.ref gp),some (.ref p),some sv,some (.ref q),some (.ref ws),some (.int (i:Int)),some (.int c),some (.ref so),some v,some dv] Jv) ?_ (λN hN=>?_)
    case refine_2=>
     dsimp?[jc,FC];refine⟨g,rg.mono UC,gm.good,st,ic.sv.mono (B5.trans a6),x,L7,λu Jv Sj ru=>?_⟩;rw[pw] at ru;exact⟨pd,ic.pv.mono (B5.trans (a6.trans Sj)),py,ru,ic.hf.le (by lia),Fk.le ∅,λr' F0 FO Yh RX=>hN _ r' (Sj.trans FO) (none_of Sj Yh) RX⟩
    rintro Jv q y8 nq hq;change tSeq _ _ _ _ _;refine aU (λN=>∀F0 a l,aF Jv F0->Jv a=none->Jv l=none->F0 a=some (.tup [.str gJ.1,.ref l])->F0 l=some (.lst (List.map V.int gJ.2))->N [some (.ref sc),some (.ref gp),some (.ref p),some (.ref a),some (.ref q),some (.ref ws),some (.int (i:Int)),some (.int c),some (.ref so),some v,some dv] F0) ?_ (λN hN=>?_)
    case refine_2=>
     dsimp?[FA];exact⟨g,rg.mono (UC.trans y8),gm.good,st,ic.sv.mono (B5.trans (a6.trans y8)),ic.sk.len,d,Ye _,w',py,gJ,zk,λa l F0 FO na nl ha hl=>hN _ a l FO na nl ha hl⟩
    rintro F0 a l Jw na nl ha hl;have F1:=y8.trans Jw;have OG:=IB.same F1;have OH:=F1 _ _ Si;have fr:∀{b o},Ju b=none->F0 b=some o->bQ L (upd F0 ws (.lst (List.map V.str (tr.map λe:og=>e.1)++ [.str w']))) b=some o:=λ{b o} n h=>by
     have nb:=IB.out n;rw[cK nb,aw (λz=>nb (by rw[z];exact ic.sL))];exact h
    have sL:aF (bQ L F0) (bQ L (upd F0 ws (.lst (List.map V.str (tr.map λe:og=>e.1)++ [.str w'])))):=λb o h=>by
     obtain⟨c1,h⟩:=eX h;rw[cK c1,aw (λz=>c1 (by rw[z];exact ic.sL))];exact h
    have sB:=(hJ (L:=L) F1).trans sL;dsimp?[eQ];refine⟨.inl ⟨rfl,_,bL.of OH⟩,w',tx,_,OH,by rw[ZA,ZA];lia,_,_,hI.mpr ⟨UB.trans sB,gJ,Wq.pl pd py,tr++ [(w',st,pd)],?_⟩,rfl,rfl,_,rfl⟩;refine⟨OG.kept sL (λb hb o h=>?_) λb hb=>?_,ic.sL,Yc,(ic.hf.pl Fk).le (by lia),by rw[ZJ];exact Nat.succ_le_succ ln,λe he=>?_,ic.yW,by rw[aj,ZG,ZG];rfl,⟨a,l,rfl,fr (none_of y8 na) ha,fr (none_of y8 nl) hl⟩,cA.mpr ⟨q,rfl,fr nq (Jw _ _ hq)⟩⟩
    ·rw[aw (by rcases hb with rfl | rfl | rfl;exact Ne.symm ic.yW.1;exact Ne.symm ic.yW.2.1;exact Ne.symm ic.yW.2.2)];exact h
    ·by_cases y:b=ws
     ·exact⟨_,by rw[y];exact aj,λ_ e=>by cases e⟩
     ·obtain⟨o,h1,h2⟩:=OG.al b hb;exact⟨o,by rw[aw y];exact h1,h2⟩
    ·rcases List.mem_append.mp he with he | he
     ·exact ic.tw e he
     ·rw[aaK.mp he];exact sw
   ·intro σ H7 dA;symm;obtain⟨sv,pv,iv,z6,z7,z8,z9,nE,rfl⟩:=dA;nofun;exact hN _ 9 sv pv (ZD _) iv _ _ _ _ _
  rintro H7 n sv pv n9 Yi z6 z7 z8 z9 nE;symm;obtain⟨b7,st,pd,tr,P⟩:=hI.mp Yi;nofun;have:=P.ln;dsimp?[B4];exact⟨tl,tb,L,g,gs,st,pd,tr,P.vz,rg.mono b7,gm,P.sk,P.sv,P.pv,P.hf.le (by lia),by lia,P.tw,P.yW.1,P.yW.2.1,P.yW.2.2,P.lt,λH8 k8 Zy=>kk _⟩
end
theorem all_mk {l:PySem.W.OpenLaw} {w:World} {K:aaB} {h:Heap} {mg:Str->Option Value} {fa:Addr} (X:K.In h) (G:h.Ns mainGlobals mg) (Yj:mg "law"=some (.ref fa))
  {Sk:Addr} {Sl Sm:Option Addr} {Sn:Array (Option Value)} {So Sq Sr Ss OI Su:Value} {sX:Tok} {sZ:Tok} {uG:Tok} {aB aH aI aV aE aL aW aM aA aN aX af av:Addr} {jO:Addr} {AS AU:Option Addr} {AV:Array (Option Value)} {AW AX AY AZ tf A0:Value} {qS:Addr} {F2 F3:Option Addr} {F4:Array (Option Value)} {F5 F6 F7 F8 y9 F9:Value} {d3:Addr} {oV oW:Option Addr} {oX:Array (Option Value)} {oY oZ o3 o4 hZ o5:Value} {dI:Addr} {nP nQ:Option Addr} {nR:Array (Option Value)} {nS nU nV nW gG nX:Value} {dj:Addr} {jW jX:Option Addr} {jY:Array (Option Value)} {jZ j0 j1 j4 fE j5:Value} {fM:Addr} {uH uI:Option Addr} {uJ:Array (Option Value)} {uK uL uM uN lq uO:Value} {c6:Addr} {jk jl:Option Addr} {jn:Array (Option Value)} {jo jq jr js e8 jt:Value} {d4:Addr} {o7 o8:Option Addr} {o9:Array (Option Value)} {pb pe pf ph ia pj:Value} {c7:Addr} {ju jv:Option Addr} {jw:Array (Option Value)} {jx jy jz jA e9 jB:Value} {eS:Addr} {tj tq:Option Addr} {tz:Array (Option Value)} {tD tE tF tG jC tH:Value} {d7:Addr} {pk pq:Option Addr} {pz:Array (Option Value)} {pA pB pC pE ib pF:Value} {dk:Addr} {j6 j7:Option Addr} {j8:Array (Option Value)} {j9 kb kc kf fF kg:Value} {du:Addr} {lS lT:Option Addr} {lU:Array (Option Value)} {lV lX lY lZ gu l8:Value} {dm:Addr} {kh ki:Option Addr} {kj:Array (Option Value)} {kl km ko kr fG ku:Value} {fN:Addr} {uP uQ:Option Addr} {uR:Array (Option Value)} {uS uT uU uV lA uW:Value} {iE:Addr} {za zb:Option Addr} {zc:Array (Option Value)} {zd ze zf zg pZ zh:Value} {dz:Addr} {ma me:Option Addr} {mf:Array (Option Value)} {mh mi mj mm gw mq:Value} {eL:Addr} {qh qi:Option Addr} {qj:Array (Option Value)} {qk ql qo qp iM qq:Value} {gH:Addr} {xh xi:Option Addr} {xj:Array (Option Value)} {xk xm xn xo nY xp:Value} {eU:Addr} {tI tJ:Option Addr} {tK:Array (Option Value)} {tL tM tN tO jD tP:Value} {eM:Addr} {qr qu:Option Addr} {qv:Array (Option Value)} {qw qx qy qz iO qA:Value} {eV:Addr} {tQ tR:Option Addr} {tS:Array (Option Value)} {tT tU tV tW jE tX:Value}
  (h0:fY K "is_whole" "is_whole" (top 13))
  (h1:fY K "common_divisor" "common_divisor" (top 14))
  (h2:fY K "share" "share" (top 15))
  (h3:fY K "plus" "plus" (top 16))
  (h4:fY K "table_by_weights" "table_by_weights" (top 18))
  (h5:fY K "table_of" "table_of" (top 19))
  (h6:fY K "power" "power" (top 23))
  (h7:fY K "most_faces" "most_faces" (top 24))
  (h8:fY K "part_bottom" "part_bottom" (top 25))
  (h9:fY K "part_count" "part_count" (top 26))
  (h10:fY K "check_size" "check_size" (top 27))
  (h11:fY K "dice_faces" "dice_faces" (top 28))
  (h12:fY K "again_faces" "again_faces" (top 29))
  (h13:fY K "burst_faces" "burst_faces" (top 30))
  (h14:fY K "part_faces" "part_faces" (top 31))
  (h15:fY K "value_of" "value_of" (top 32))
  (h16:fY K "sides_product" "sides_product" (top 33))
  (h17:fY K "part_throws" "part_throws" (top 34))
  (h18:fY K "throws_by_bottom" "throws_by_bottom" (top 35))
  (h19:fY K "pool_table" "pool_table" (top 36))
  (h20:fY K "own_rows" "own_rows" (top 38))
  (h21:fY K "own_what" "own_what" (top 39))
  (h22:fY K "_law_cell" "_law_cell" (top 45))
  (h23:fY K "_law_mixed" "_law_mixed" (top 46))
  (h24:fY K "_law_low" "_law_low" (top 47))
  (h25:fY K "_law_plus" "_law_plus" (top 48))
  (h26:fY K "_law_words" "_law_words" (top 50))
  (h27:fY K "_law_deeds" "_law_deeds" (top 51))
  (h28:fY K "_law_throw" "_law_throw" (top 52))
  (h29:fY K "_law_pick" "_law_pick" (top 53))
  (h30:fY K "_law_game" "_law_game" (top 54))
  (h31:fY K "_law_values" "_law_values" (top 55))
  (h32:fY K "_law_what" "_law_what" (top 56))
  (h33:fY K "_law_number" "_law_number" (top 57))
  (h34:fY K "_law_arrived" "_law_arrived" (top 58))
  (h35:fY K "_law_done" "_law_done" (top 59))
  (h36:fY K "_law_holds_when" "_law_holds_when" (top 60))
  (h37:fY K "_law_open" "_law_open" (top 61))
  (h38:fY K "_law_gone" "_law_gone" (top 62))
  (h39:fY K "_law_paid" "_law_paid" (top 63))
  (h40:fY K "_law_points" "_law_points" (top 64))
  (h41:fY K "_law_bad" "_law_bad" (top 65))
  (h42:fY K "_law_refused" "_law_refused" (top 66))
  (h43:fY K "_law_same" "_law_same" (top 67))
  (a44:aaF K mainGlobals "law"=some (some (.ref Sk))) (l44:K.lookup Sk=some ⟨So,Sl,.func (aaE "law" "law" (bH (top 68)) (bE (top 68)) (aq (top 68)) .none Sq Sr Ss Sm OI Su),Sn⟩) (e44:aaD K OI "law"=true) (k44:aaC K (.ref Sk)=true)
  (z_ValueError:aaF K mainGlobals "ValueError"=some none)
  (z_abs:aaF K mainGlobals "abs"=some none)
  (z_bool:aaF K mainGlobals "bool"=some none)
  (z_enumerate:aaF K mainGlobals "enumerate"=some none)
  (z_int:aaF K mainGlobals "int"=some none)
  (z_isinstance:aaF K mainGlobals "isinstance"=some none)
  (z_len:aaF K mainGlobals "len"=some none)
  (z_list:aaF K mainGlobals "list"=some none)
  (z_max:aaF K mainGlobals "max"=some none)
  (z_min:aaF K mainGlobals "min"=some none)
  (z_range:aaF K mainGlobals "range"=some none)
  (z_sorted:aaF K mainGlobals "sorted"=some none)
  (z_str:aaF K mainGlobals "str"=some none)
  (z_sum:aaF K mainGlobals "sum"=some none)
  (c_MOST_THROWS:aaF K mainGlobals "MOST_THROWS"=some (some (.int 1296 sX)))
  (c_MOST_BOTTOM:aaF K mainGlobals "MOST_BOTTOM"=some (some (.int 1000000 sZ)))
  (c_MOST_STEPS:aaF K mainGlobals "MOST_STEPS"=some (some (.int 200 uG)))
  (k_LuckError:aaF K mainGlobals "LuckError"=some (some (.ref aB)))
  (k_NoShare:aaF K mainGlobals "NoShare"=some (some (.ref aH)))
  (k_NoTable:aaF K mainGlobals "NoTable"=some (some (.ref aI)))
  (k_NoEnd:aaF K mainGlobals "NoEnd"=some (some (.ref aV)))
  (k_TooMany:aaF K mainGlobals "TooMany"=some (some (.ref aE)))
  (k_NoGame:aaF K mainGlobals "NoGame"=some (some (.ref aL)))
  (k_NoWay:aaF K mainGlobals "NoWay"=some (some (.ref aW)))
  (k_NoRule:aaF K mainGlobals "NoRule"=some (some (.ref aM)))
  (k_NoStep:aaF K mainGlobals "NoStep"=some (some (.ref aA)))
  (k_NoPlay:aaF K mainGlobals "NoPlay"=some (some (.ref aN)))
  (k_NoRow:aaF K mainGlobals "NoRow"=some (some (.ref aX)))
  (k_Course:aaF K mainGlobals "Course"=some (some (.ref af)))
  (k_Play:aaF K mainGlobals "Play"=some (some (.ref av)))
  (x_NoShare:PySem.W.excIn K aH vQ mJ=true)
  (x_NoTable:PySem.W.excIn K aI vQ mJ=true)
  (x_TooMany:PySem.W.excIn K aE vQ mJ=true)
  (x_NoStep:PySem.W.excIn K aA vQ mJ=true)
  (y_NoStepcls:(PySem.W.clsIn K aA).isSome=true)
  (y_NoStepga:aaG K (.ref aA) "__getattribute__"=some (some (.builtin "BaseException.__getattribute__")))
  (y_NoStepgt:aaG K (.ref aA) "__getattr__"=some none)
  (y_NoStepcl:aaG K (.ref aA) "__class__"=some (some (.builtin "object.__class__")))
  (y_NoStepbe:PySem.W.mroIn K aA (.type "BaseException")=some true)
  (y_NoStepob:PySem.W.mroIn K aA (.type "object")=some true)
  (e_NoStep_LuckError:PySem.W.exmOne K (.ref aA) (.ref aB)=some true)
  (i_NoStep_NoStep:PySem.W.kitOne K (.ref aA) (.ref aA)=some true)
  (i_NoStep_ValueError:PySem.W.kitOne K (.ref aA) (.type "ValueError")=some true)
  (n_NoStep_NoEnd:PySem.W.kitOne K (.ref aA) (.ref aV)=some false)
  (n_NoStep_NoGame:PySem.W.kitOne K (.ref aA) (.ref aL)=some false)
  (n_NoStep_NoPlay:PySem.W.kitOne K (.ref aA) (.ref aN)=some false)
  (n_NoStep_NoRow:PySem.W.kitOne K (.ref aA) (.ref aX)=some false)
  (n_NoStep_NoRule:PySem.W.kitOne K (.ref aA) (.ref aM)=some false)
  (n_NoStep_NoWay:PySem.W.kitOne K (.ref aA) (.ref aW)=some false)
  (n_NoStep_TooMany:PySem.W.kitOne K (.ref aA) (.ref aE)=some false)
  (cl_Coursepg:PySem.W.plainGet K af Str.empty=true)
  (cl_Coursehd:PySem.W.hasDictIn K af=true)
  (cl_Coursepo:PySem.W.plainOver K af=true)
  (cl_Coursesa:aaG K (.ref af) "__setattr__"=some (some (.builtin "object.__setattr__")))
  (cl_Playpg:PySem.W.plainGet K av Str.empty=true)
  (cl_Playhd:PySem.W.hasDictIn K av=true)
  (cl_Playpo:PySem.W.plainOver K av=true)
  (cl_Playsa:aaG K (.ref av) "__setattr__"=some (some (.builtin "object.__setattr__")))
  (na_Course_first:aaG K (.ref af) "first"=some none)
  (na_Course_mosts:aaG K (.ref af) "mosts"=some none)
  (na_Course_spots:aaG K (.ref af) "spots"=some none)
  (na_Course_tables:aaG K (.ref af) "tables"=some none)
  (na_Course_whats:aaG K (.ref af) "whats"=some none)
  (na_Play_course:aaG K (.ref av) "course"=some none)
  (na_Play_paid:aaG K (.ref av) "paid"=some none)
  (na_Play_state:aaG K (.ref av) "state"=some none)
  (na_Play_trail:aaG K (.ref av) "trail"=some none)
  (dia_Course:aaG K (.ref af) "__init__"=some (some (.ref jO)))
  (dii_Course:PySem.W.isFn K (.ref jO)=true)
  (dil_Course:K.lookup jO=some ⟨AW,AS,.func (aaE "__init__" "Course.__init__" (bH (inClass (top 40) 0)) (bE (inClass (top 40) 0)) (aq (inClass (top 40) 0)) .none AX AY AZ AU tf A0),AV⟩)
  (dic_Course:aaD K tf "Course.__init__"=true)
  (dik_Course:aaC K (.ref jO)=true)
  (dim_Course:PySem.W.makesIn K af=true)
  (diq_Course:aaC K (.ref af)=true)
  (dia_Play:aaG K (.ref av) "__init__"=some (some (.ref qS)))
  (dii_Play:PySem.W.isFn K (.ref qS)=true)
  (dil_Play:K.lookup qS=some ⟨F5,F2,.func (aaE "__init__" "Play.__init__" (bH (inClass (top 43) 0)) (bE (inClass (top 43) 0)) (aq (inClass (top 43) 0)) .none F6 F7 F8 F3 y9 F9),F4⟩)
  (dic_Play:aaD K y9 "Play.__init__"=true)
  (dik_Play:aaC K (.ref qS)=true)
  (dim_Play:PySem.W.makesIn K av=true)
  (diq_Play:aaC K (.ref av)=true)
  (dma_Course_asked:aaG K (.ref af) "asked"=some (some (.ref d3)))
  (dmi_Course_asked:PySem.W.isFn K (.ref d3)=true)
  (dml_Course_asked:K.lookup d3=some ⟨oY,oV,.func (aaE "asked" "Course.asked" (bH (inClass (top 40) 3)) (bE (inClass (top 40) 3)) (aq (inClass (top 40) 3)) .none oZ o3 o4 oW hZ o5),oX⟩)
  (dmc_Course_asked:aaD K hZ "Course.asked"=true)
  (dmk_Course_asked:aaC K (.ref d3)=true)
  (dma_Course_by_row:aaG K (.ref af) "by_row"=some (some (.ref dI)))
  (dmi_Course_by_row:PySem.W.isFn K (.ref dI)=true)
  (dml_Course_by_row:K.lookup dI=some ⟨nS,nP,.func (aaE "by_row" "Course.by_row" (bH (inClass (top 40) 6)) (bE (inClass (top 40) 6)) (aq (inClass (top 40) 6)) .none nU nV nW nQ gG nX),nR⟩)
  (dmc_Course_by_row:aaD K gG "Course.by_row"=true)
  (dmk_Course_by_row:aaC K (.ref dI)=true)
  (dma_Course_by_value:aaG K (.ref af) "by_value"=some (some (.ref dj)))
  (dmi_Course_by_value:PySem.W.isFn K (.ref dj)=true)
  (dml_Course_by_value:K.lookup dj=some ⟨jZ,jW,.func (aaE "by_value" "Course.by_value" (bH (inClass (top 40) 7)) (bE (inClass (top 40) 7)) (aq (inClass (top 40) 7)) .none j0 j1 j4 jX fE j5),jY⟩)
  (dmc_Course_by_value:aaD K fE "Course.by_value"=true)
  (dmk_Course_by_value:aaC K (.ref dj)=true)
  (dma_Course_do:aaG K (.ref af) "do"=some (some (.ref fM)))
  (dmi_Course_do:PySem.W.isFn K (.ref fM)=true)
  (dml_Course_do:K.lookup fM=some ⟨uK,uH,.func (aaE "do" "Course.do" (bH (inClass (top 40) 2)) (bE (inClass (top 40) 2)) (aq (inClass (top 40) 2)) .none uL uM uN uI lq uO),uJ⟩)
  (dmc_Course_do:aaD K lq "Course.do"=true)
  (dmk_Course_do:aaC K (.ref fM)=true)
  (dma_Course_end_worth:aaG K (.ref af) "end_worth"=some (some (.ref c6)))
  (dmi_Course_end_worth:PySem.W.isFn K (.ref c6)=true)
  (dml_Course_end_worth:K.lookup c6=some ⟨jo,jk,.func (aaE "end_worth" "Course.end_worth" (bH (inClass (top 40) 12)) (bE (inClass (top 40) 12)) (aq (inClass (top 40) 12)) .none jq jr js jl e8 jt),jn⟩)
  (dmc_Course_end_worth:aaD K e8 "Course.end_worth"=true)
  (dmk_Course_end_worth:aaC K (.ref c6)=true)
  (dma_Course_holds:aaG K (.ref af) "holds"=some (some (.ref d4)))
  (dmi_Course_holds:PySem.W.isFn K (.ref d4)=true)
  (dml_Course_holds:K.lookup d4=some ⟨pb,o7,.func (aaE "holds" "Course.holds" (bH (inClass (top 40) 9)) (bE (inClass (top 40) 9)) (aq (inClass (top 40) 9)) .none pe pf ph o8 ia pj),o9⟩)
  (dmc_Course_holds:aaD K ia "Course.holds"=true)
  (dmk_Course_holds:aaC K (.ref d4)=true)
  (dma_Course_open_rows:aaG K (.ref af) "open_rows"=some (some (.ref c7)))
  (dmi_Course_open_rows:PySem.W.isFn K (.ref c7)=true)
  (dml_Course_open_rows:K.lookup c7=some ⟨jx,ju,.func (aaE "open_rows" "Course.open_rows" (bH (inClass (top 40) 10)) (bE (inClass (top 40) 10)) (aq (inClass (top 40) 10)) .none jy jz jA jv e9 jB),jw⟩)
  (dmc_Course_open_rows:aaD K e9 "Course.open_rows"=true)
  (dmk_Course_open_rows:aaC K (.ref c7)=true)
  (dma_Course_put:aaG K (.ref af) "put"=some (some (.ref eS)))
  (dmi_Course_put:PySem.W.isFn K (.ref eS)=true)
  (dml_Course_put:K.lookup eS=some ⟨tD,tj,.func (aaE "put" "Course.put" (bH (inClass (top 40) 1)) (bE (inClass (top 40) 1)) (aq (inClass (top 40) 1)) .none tE tF tG tq jC tH),tz⟩)
  (dmc_Course_put:aaD K jC "Course.put"=true)
  (dmk_Course_put:aaC K (.ref eS)=true)
  (dma_Course_start:aaG K (.ref af) "start"=some (some (.ref d7)))
  (dmi_Course_start:PySem.W.isFn K (.ref d7)=true)
  (dml_Course_start:K.lookup d7=some ⟨pA,pk,.func (aaE "start" "Course.start" (bH (inClass (top 40) 4)) (bE (inClass (top 40) 4)) (aq (inClass (top 40) 4)) .none pB pC pE pq ib pF),pz⟩)
  (dmc_Course_start:aaD K ib "Course.start"=true)
  (dmk_Course_start:aaC K (.ref d7)=true)
  (dma_Course_table_at:aaG K (.ref af) "table_at"=some (some (.ref dk)))
  (dmi_Course_table_at:PySem.W.isFn K (.ref dk)=true)
  (dml_Course_table_at:K.lookup dk=some ⟨j9,j6,.func (aaE "table_at" "Course.table_at" (bH (inClass (top 40) 8)) (bE (inClass (top 40) 8)) (aq (inClass (top 40) 8)) .none kb kc kf j7 fF kg),j8⟩)
  (dmc_Course_table_at:aaD K fF "Course.table_at"=true)
  (dmk_Course_table_at:aaC K (.ref dk)=true)
  (dma_Course_what_at:aaG K (.ref af) "what_at"=some (some (.ref du)))
  (dmi_Course_what_at:PySem.W.isFn K (.ref du)=true)
  (dml_Course_what_at:K.lookup du=some ⟨lV,lS,.func (aaE "what_at" "Course.what_at" (bH (inClass (top 40) 5)) (bE (inClass (top 40) 5)) (aq (inClass (top 40) 5)) .none lX lY lZ lT gu l8),lU⟩)
  (dmc_Course_what_at:aaD K gu "Course.what_at"=true)
  (dmk_Course_what_at:aaC K (.ref du)=true)
  (dma_Course_words_at:aaG K (.ref af) "words_at"=some (some (.ref dm)))
  (dmi_Course_words_at:PySem.W.isFn K (.ref dm)=true)
  (dml_Course_words_at:K.lookup dm=some ⟨kl,kh,.func (aaE "words_at" "Course.words_at" (bH (inClass (top 40) 11)) (bE (inClass (top 40) 11)) (aq (inClass (top 40) 11)) .none km ko kr ki fG ku),kj⟩)
  (dmc_Course_words_at:aaD K fG "Course.words_at"=true)
  (dmk_Course_words_at:aaC K (.ref dm)=true)
  (dma_Play_back:aaG K (.ref av) "back"=some (some (.ref fN)))
  (dmi_Play_back:PySem.W.isFn K (.ref fN)=true)
  (dml_Play_back:K.lookup fN=some ⟨uS,uP,.func (aaE "back" "Play.back" (bH (inClass (top 43) 7)) (bE (inClass (top 43) 7)) (aq (inClass (top 43) 7)) .none uT uU uV uQ lA uW),uR⟩)
  (dmc_Play_back:aaD K lA "Play.back"=true)
  (dmk_Play_back:aaC K (.ref fN)=true)
  (dma_Play_go:aaG K (.ref av) "go"=some (some (.ref iE)))
  (dmi_Play_go:PySem.W.isFn K (.ref iE)=true)
  (dml_Play_go:K.lookup iE=some ⟨zd,za,.func (aaE "go" "Play.go" (bH (inClass (top 43) 4)) (bE (inClass (top 43) 4)) (aq (inClass (top 43) 4)) .none ze zf zg zb pZ zh),zc⟩)
  (dmc_Play_go:aaD K pZ "Play.go"=true)
  (dmk_Play_go:aaC K (.ref iE)=true)
  (dma_Play_open_ways:aaG K (.ref av) "open_ways"=some (some (.ref dz)))
  (dmi_Play_open_ways:PySem.W.isFn K (.ref dz)=true)
  (dml_Play_open_ways:K.lookup dz=some ⟨mh,ma,.func (aaE "open_ways" "Play.open_ways" (bH (inClass (top 43) 3)) (bE (inClass (top 43) 3)) (aq (inClass (top 43) 3)) .none mi mj mm me gw mq),mf⟩)
  (dmc_Play_open_ways:aaD K gw "Play.open_ways"=true)
  (dmk_Play_open_ways:aaC K (.ref dz)=true)
  (dma_Play_points:aaG K (.ref av) "points"=some (some (.ref eL)))
  (dmi_Play_points:PySem.W.isFn K (.ref eL)=true)
  (dml_Play_points:K.lookup eL=some ⟨qk,qh,.func (aaE "points" "Play.points" (bH (inClass (top 43) 2)) (bE (inClass (top 43) 2)) (aq (inClass (top 43) 2)) .none ql qo qp qi iM qq),qj⟩)
  (dmc_Play_points:aaD K iM "Play.points"=true)
  (dmk_Play_points:aaC K (.ref eL)=true)
  (dma_Play_say:aaG K (.ref av) "say"=some (some (.ref gH)))
  (dmi_Play_say:PySem.W.isFn K (.ref gH)=true)
  (dml_Play_say:K.lookup gH=some ⟨xk,xh,.func (aaE "say" "Play.say" (bH (inClass (top 43) 5)) (bE (inClass (top 43) 5)) (aq (inClass (top 43) 5)) .none xm xn xo xi nY xp),xj⟩)
  (dmc_Play_say:aaD K nY "Play.say"=true)
  (dmk_Play_say:aaC K (.ref gH)=true)
  (dma_Play_shown:aaG K (.ref av) "shown"=some (some (.ref eU)))
  (dmi_Play_shown:PySem.W.isFn K (.ref eU)=true)
  (dml_Play_shown:K.lookup eU=some ⟨tL,tI,.func (aaE "shown" "Play.shown" (bH (inClass (top 43) 8)) (bE (inClass (top 43) 8)) (aq (inClass (top 43) 8)) .none tM tN tO tJ jD tP),tK⟩)
  (dmc_Play_shown:aaD K jD "Play.shown"=true)
  (dmk_Play_shown:aaC K (.ref eU)=true)
  (dma_Play_stands:aaG K (.ref av) "stands"=some (some (.ref eM)))
  (dmi_Play_stands:PySem.W.isFn K (.ref eM)=true)
  (dml_Play_stands:K.lookup eM=some ⟨qw,qr,.func (aaE "stands" "Play.stands" (bH (inClass (top 43) 1)) (bE (inClass (top 43) 1)) (aq (inClass (top 43) 1)) .none qx qy qz qu iO qA),qv⟩)
  (dmc_Play_stands:aaD K iO "Play.stands"=true)
  (dmk_Play_stands:aaC K (.ref eM)=true)
  (dma_Play_throw:aaG K (.ref av) "throw"=some (some (.ref eV)))
  (dmi_Play_throw:PySem.W.isFn K (.ref eV)=true)
  (dml_Play_throw:K.lookup eV=some ⟨tT,tQ,.func (aaE "throw" "Play.throw" (bH (inClass (top 43) 6)) (bE (inClass (top 43) 6)) (aq (inClass (top 43) 6)) .none tU tV tW tR jE tX),tS⟩)
  (dmc_Play_throw:aaD K jE "Play.throw"=true)
  (dmk_Play_throw:aaC K (.ref eV)=true)
  :∃fd:FuncData,(∀(s:Shared) (v:Value),BindsTo s fd ⟨[v],[]⟩ [("_law_script",v)])/\∀base:Heap,K.In base->base.Ns mainGlobals mg->fU l.prog w K mg base (br l.prog w) 30 fa fd ["_law_script"] (BM K):=by
 have e:=Yj.symm.trans (ZW X G a44);cases e;have T:Txt K mg aB aH aI aV aE aL aW aM aA aN aX af av:=⟨aaa X G z_ValueError,aaa X G z_abs,aaa X G z_bool,aaa X G z_enumerate,aaa X G z_int,aaa X G z_isinstance,aaa X G z_len,aaa X G z_list,aaa X G z_max,aaa X G z_min,aaa X G z_range,aaa X G z_sorted,aaa X G z_str,aaa X G z_sum,h0.dn X G,h1.dn X G,h2.dn X G,h3.dn X G,h4.dn X G,h5.dn X G,h6.dn X G,h7.dn X G,h8.dn X G,h9.dn X G,h10.dn X G,h11.dn X G,h12.dn X G,h13.dn X G,h14.dn X G,h15.dn X G,h16.dn X G,h17.dn X G,h18.dn X G,h19.dn X G,h20.dn X G,h21.dn X G,h22.dn X G,h23.dn X G,h24.dn X G,h25.dn X G,h26.dn X G,h27.dn X G,h28.dn X G,h29.dn X G,h30.dn X G,h31.dn X G,h32.dn X G,h33.dn X G,h34.dn X G,h35.dn X G,h36.dn X G,h37.dn X G,h38.dn X G,h39.dn X G,h40.dn X G,h41.dn X G,h42.dn X G,h43.dn X G,⟨_,ZW X G c_MOST_THROWS⟩,⟨_,ZW X G c_MOST_BOTTOM⟩,⟨_,ZW X G c_MOST_STEPS⟩,ZW X G k_LuckError,ZW X G k_NoShare,ZW X G k_NoTable,ZW X G k_NoEnd,ZW X G k_TooMany,ZW X G k_NoGame,ZW X G k_NoWay,ZW X G k_NoRule,ZW X G k_NoStep,ZW X G k_NoPlay,ZW X G k_NoRow,ZW X G k_Course,ZW X G k_Play,x_NoShare,x_NoTable,x_TooMany,x_NoStep,⟨y_NoStepcls,y_NoStepga,y_NoStepgt,y_NoStepcl,y_NoStepbe,y_NoStepob⟩,e_NoStep_LuckError,i_NoStep_NoStep,i_NoStep_ValueError,n_NoStep_NoEnd,n_NoStep_NoGame,n_NoStep_NoPlay,n_NoStep_NoRow,n_NoStep_NoRule,n_NoStep_NoWay,n_NoStep_TooMany,⟨cl_Coursepg,cl_Coursehd,cl_Coursepo,cl_Coursesa⟩,⟨cl_Playpg,cl_Playhd,cl_Playpo,cl_Playsa⟩,na_Course_first,na_Course_mosts,na_Course_spots,na_Course_tables,na_Course_whats,na_Play_course,na_Play_paid,na_Play_state,na_Play_trail,⟨_,_,cI dil_Course dic_Course dik_Course,⟨dim_Course,dia_Course,dii_Course,diq_Course⟩,ZW X G k_Course⟩,⟨_,_,cI dil_Play dic_Play dik_Play,⟨dim_Play,dia_Play,dii_Play,diq_Play⟩,ZW X G k_Play⟩,⟨_,_,cI dml_Course_asked dmc_Course_asked dmk_Course_asked,⟨dma_Course_asked,dmi_Course_asked,dmk_Course_asked⟩⟩,⟨_,_,cI dml_Course_by_row dmc_Course_by_row dmk_Course_by_row,⟨dma_Course_by_row,dmi_Course_by_row,dmk_Course_by_row⟩⟩,⟨_,_,cI dml_Course_by_value dmc_Course_by_value dmk_Course_by_value,⟨dma_Course_by_value,dmi_Course_by_value,dmk_Course_by_value⟩⟩,⟨_,_,cI dml_Course_do dmc_Course_do dmk_Course_do,⟨dma_Course_do,dmi_Course_do,dmk_Course_do⟩⟩,⟨_,_,cI dml_Course_end_worth dmc_Course_end_worth dmk_Course_end_worth,⟨dma_Course_end_worth,dmi_Course_end_worth,dmk_Course_end_worth⟩⟩,⟨_,_,cI dml_Course_holds dmc_Course_holds dmk_Course_holds,⟨dma_Course_holds,dmi_Course_holds,dmk_Course_holds⟩⟩,⟨_,_,cI dml_Course_open_rows dmc_Course_open_rows dmk_Course_open_rows,⟨dma_Course_open_rows,dmi_Course_open_rows,dmk_Course_open_rows⟩⟩,⟨_,_,cI dml_Course_put dmc_Course_put dmk_Course_put,⟨dma_Course_put,dmi_Course_put,dmk_Course_put⟩⟩,⟨_,_,cI dml_Course_start dmc_Course_start dmk_Course_start,⟨dma_Course_start,dmi_Course_start,dmk_Course_start⟩⟩,⟨_,_,cI dml_Course_table_at dmc_Course_table_at dmk_Course_table_at,⟨dma_Course_table_at,dmi_Course_table_at,dmk_Course_table_at⟩⟩,⟨_,_,cI dml_Course_what_at dmc_Course_what_at dmk_Course_what_at,⟨dma_Course_what_at,dmi_Course_what_at,dmk_Course_what_at⟩⟩,⟨_,_,cI dml_Course_words_at dmc_Course_words_at dmk_Course_words_at,⟨dma_Course_words_at,dmi_Course_words_at,dmk_Course_words_at⟩⟩,⟨_,_,cI dml_Play_back dmc_Play_back dmk_Play_back,⟨dma_Play_back,dmi_Play_back,dmk_Play_back⟩⟩,⟨_,_,cI dml_Play_go dmc_Play_go dmk_Play_go,⟨dma_Play_go,dmi_Play_go,dmk_Play_go⟩⟩,⟨_,_,cI dml_Play_open_ways dmc_Play_open_ways dmk_Play_open_ways,⟨dma_Play_open_ways,dmi_Play_open_ways,dmk_Play_open_ways⟩⟩,⟨_,_,cI dml_Play_points dmc_Play_points dmk_Play_points,⟨dma_Play_points,dmi_Play_points,dmk_Play_points⟩⟩,⟨_,_,cI dml_Play_say dmc_Play_say dmk_Play_say,⟨dma_Play_say,dmi_Play_say,dmk_Play_say⟩⟩,⟨_,_,cI dml_Play_shown dmc_Play_shown dmk_Play_shown,⟨dma_Play_shown,dmi_Play_shown,dmk_Play_shown⟩⟩,⟨_,_,cI dml_Play_stands dmc_Play_stands dmk_Play_stands,⟨dma_Play_stands,dmi_Play_stands,dmk_Play_stands⟩⟩,⟨_,_,cI dml_Play_throw dmc_Play_throw dmk_Play_throw,⟨dma_Play_throw,dmi_Play_throw,dmk_Play_throw⟩⟩⟩
 exact⟨_,λs v=>.of_eq rfl,λbase _ _=>(L4 T (cI l44 e44 k44)).mono ∅⟩
theorem walk {l:PySem.W.OpenLaw} {q:Program} {loose:List Str} {XP:(Str->Option Value)->Heap->Prop} {YP:World->Heap->Prop} {d:DefRec} {K:Params->aaB} (hn:l.most=some 63) (M5:d.params.defaults=[])
  (hY:∀(w:World) (h:Heap),YP w h->(K w.params).In h)
  (F:∀(w:World) (mg:Str->Option Value) (fa:Addr) (h:Heap),(K w.params).In h->h.Ns mainGlobals mg->mg d.name=some (.ref fa)->
   ∃fd:FuncData,(∀(s:Shared) (u:Value),BindsTo s fd ⟨[u],[]⟩ [("_law_script",u)])/\∀base:Heap,(K w.params).In base->base.Ns mainGlobals mg->fU l.prog w (K w.params) mg base (br l.prog w) 30 fa fd ["_law_script"] (BM (K w.params))):
  PySem.W.WalkO q loose XP YP l.row.toRowW d [] (λf vs=>PySem.call f vs):=
 L2.GS (n:=63) (k:=30) (x:="_law_script") (CX:=λw=>br l.prog w) (sp:=λw=>BM (K w.params)) hn ∅ M5 ⟨rfl,∅,∅⟩ hY F (λ_ _ a ns hl _ hS=>⟨a,ns,rfl,hS,hl,λ_=>rfl⟩) λ_ _ _ _ _ z=>(Bg _ _) _ _ _ _ _ z
end K78
open PySem PySem.W PyProof.Rows
set_option maxRecDepth 100000 in
set_option maxHeartbeats 0 in
theorem PySem.Challenge.cw_pressluck_k78_steps_refused_holds : PySem.Challenge.rw_pressluck_k78_steps_refused.Holds := by
  w_on; refine holds_law K78.MC fun MC => ?_
  refine holds_open (q := K78.vw) (loose := []) (Xt := (fun s => xlAt K78.vw [] s && recOk (RowW.records (OpenRow.toRowW (PySem.W.OpenLaw.row PySem.Challenge.rw_pressluck_k78_steps_refused))) s)) (XP := XL K78.vw []) (Yf := Hook.obs (kHook K78.pre.heap_1 K78.Ga K78.Gv)) (Ya := Hook.val (kHook K78.pre.heap_1 K78.Ga K78.Gv)) (YP := Hook.says (kHook K78.pre.heap_1 K78.Ga K78.Gv)) (N := 9894) (Hd.B7 (by kernel_rfl) (by decide) (fun s => by kernel_rfl) K78.run) (Hook.of (kHook K78.pre.heap_1 K78.Ga K78.Gv)) (Hook.keeps (kHook K78.pre.heap_1 K78.Ga K78.Gv)) (fun s e => xl_of s (Bool.and_eq_true_iff.mp e).1) XL.keeps (by rfl) (by rfl) (by rfl) (fun s e => recFacts_of (Bool.and_eq_true_iff.mp e).2) (by rfl) (by first | assumption | decide +kernel) (by decide +kernel) ⟨rfl, rfl, rfl, rfl, rfl, by decide +kernel⟩ ?hw ?hc
  (case hw => w_witness2)
  k_fill
  refine K78.walk (l := PySem.Challenge.rw_pressluck_k78_steps_refused) rfl rfl (fun w h Y => PySem.W.kIn_of Y) ?F
  case F =>
    intro w mg fa h KX G M6;refine' K78.all_mk KX G M6 ?h0 ?h1 ?h2 ?h3 ?h4 ?h5 ?h6 ?h7 ?h8 ?h9 ?h10 ?h11 ?h12 ?h13 ?h14 ?h15 ?h16 ?h17 ?h18 ?h19 ?h20 ?h21 ?h22 ?h23 ?h24 ?h25 ?h26 ?h27 ?h28 ?h29 ?h30 ?h31 ?h32 ?h33 ?h34 ?h35 ?h36 ?h37 ?h38 ?h39 ?h40 ?h41 ?h42 ?h43 ?a44 ?l44 ?e44 ?k44 ?z_ValueError ?z_abs ?z_bool ?z_enumerate ?z_int ?z_isinstance ?z_len ?z_list ?z_max ?z_min ?z_range ?z_sorted ?z_str ?z_sum ?c_MOST_THROWS ?c_MOST_BOTTOM ?c_MOST_STEPS ?k_LuckError ?k_NoShare ?k_NoTable ?k_NoEnd ?k_TooMany ?k_NoGame ?k_NoWay ?k_NoRule ?k_NoStep ?k_NoPlay ?k_NoRow ?k_Course ?k_Play ?x_NoShare ?x_NoTable ?x_TooMany ?x_NoStep ?y_NoStepcls ?y_NoStepga ?y_NoStepgt ?y_NoStepcl ?y_NoStepbe ?y_NoStepob ?e_NoStep_LuckError ?i_NoStep_NoStep ?i_NoStep_ValueError ?n_NoStep_NoEnd ?n_NoStep_NoGame ?n_NoStep_NoPlay ?n_NoStep_NoRow ?n_NoStep_NoRule ?n_NoStep_NoWay ?n_NoStep_TooMany ?cl_Coursepg ?cl_Coursehd ?cl_Coursepo ?cl_Coursesa ?cl_Playpg ?cl_Playhd ?cl_Playpo ?cl_Playsa ?na_Course_first ?na_Course_mosts ?na_Course_spots ?na_Course_tables ?na_Course_whats ?na_Play_course ?na_Play_paid ?na_Play_state ?na_Play_trail ?dia_Course ?dii_Course ?dil_Course ?dic_Course ?dik_Course ?dim_Course ?diq_Course ?dia_Play ?dii_Play ?dil_Play ?dic_Play ?dik_Play ?dim_Play ?diq_Play ?dma_Course_asked ?dmi_Course_asked ?dml_Course_asked ?dmc_Course_asked ?dmk_Course_asked ?dma_Course_by_row ?dmi_Course_by_row ?dml_Course_by_row ?dmc_Course_by_row ?dmk_Course_by_row ?dma_Course_by_value ?dmi_Course_by_value ?dml_Course_by_value ?dmc_Course_by_value ?dmk_Course_by_value ?dma_Course_do ?dmi_Course_do ?dml_Course_do ?dmc_Course_do ?dmk_Course_do ?dma_Course_end_worth ?dmi_Course_end_worth ?dml_Course_end_worth ?dmc_Course_end_worth ?dmk_Course_end_worth ?dma_Course_holds ?dmi_Course_holds ?dml_Course_holds ?dmc_Course_holds ?dmk_Course_holds ?dma_Course_open_rows ?dmi_Course_open_rows ?dml_Course_open_rows ?dmc_Course_open_rows ?dmk_Course_open_rows ?dma_Course_put ?dmi_Course_put ?dml_Course_put ?dmc_Course_put ?dmk_Course_put ?dma_Course_start ?dmi_Course_start ?dml_Course_start ?dmc_Course_start ?dmk_Course_start ?dma_Course_table_at ?dmi_Course_table_at ?dml_Course_table_at ?dmc_Course_table_at ?dmk_Course_table_at ?dma_Course_what_at ?dmi_Course_what_at ?dml_Course_what_at ?dmc_Course_what_at ?dmk_Course_what_at ?dma_Course_words_at ?dmi_Course_words_at ?dml_Course_words_at ?dmc_Course_words_at ?dmk_Course_words_at ?dma_Play_back ?dmi_Play_back ?dml_Play_back ?dmc_Play_back ?dmk_Play_back ?dma_Play_go ?dmi_Play_go ?dml_Play_go ?dmc_Play_go ?dmk_Play_go ?dma_Play_open_ways ?dmi_Play_open_ways ?dml_Play_open_ways ?dmc_Play_open_ways ?dmk_Play_open_ways ?dma_Play_points ?dmi_Play_points ?dml_Play_points ?dmc_Play_points ?dmk_Play_points ?dma_Play_say ?dmi_Play_say ?dml_Play_say ?dmc_Play_say ?dmk_Play_say ?dma_Play_shown ?dmi_Play_shown ?dml_Play_shown ?dmc_Play_shown ?dmk_Play_shown ?dma_Play_stands ?dmi_Play_stands ?dml_Play_stands ?dmc_Play_stands ?dmk_Play_stands ?dma_Play_throw ?dmi_Play_throw ?dml_Play_throw ?dmc_Play_throw ?dmk_Play_throw
    (case h0 | h1 | h2 | h3 | h4 | h5 | h6 | h7 | h8 | h9 | h10 | h11 | h12 | h13 | h14 | h15 | h16 | h17 | h18 | h19 | h20 | h21 | h22 | h23 | h24 | h25 | h26 | h27 | h28 | h29 | h30 | h31 | h32 | h33 | h34 | h35 | h36 | h37 | h38 | h39 | h40 | h41 | h42 | h43 => exact K78.VN (by k_is) (by k_is) (by k_is) (by k_is))
    (case a44 | l44 | e44 | k44 | z_ValueError | z_abs | z_bool | z_enumerate | z_int | z_isinstance | z_len | z_list | z_max | z_min | z_range | z_sorted | z_str | z_sum | c_MOST_THROWS | c_MOST_BOTTOM | c_MOST_STEPS | k_LuckError | k_NoShare | k_NoTable | k_NoEnd | k_TooMany | k_NoGame | k_NoWay | k_NoRule | k_NoStep | k_NoPlay | k_NoRow | k_Course | k_Play => k_is)
    (case x_NoShare => first | k_is | kit_is | kernel_rfl)
    (case x_NoTable => first | k_is | kit_is | kernel_rfl)
    (case x_TooMany => first | k_is | kit_is | kernel_rfl)
    (case x_NoStep => first | k_is | kit_is | kernel_rfl)
    (case y_NoStepcls => first | k_is | kit_is | kernel_rfl)
    (case y_NoStepga => first | k_is | kit_is | kernel_rfl)
    (case y_NoStepgt => first | k_is | kit_is | kernel_rfl)
    (case y_NoStepcl => first | k_is | kit_is | kernel_rfl)
    (case y_NoStepbe => first | k_is | kit_is | kernel_rfl)
    (case y_NoStepob => first | k_is | kit_is | kernel_rfl)
    (case e_NoStep_LuckError => first | k_is | kit_is | kernel_rfl)
    (case i_NoStep_NoStep => first | k_is | kit_is | kernel_rfl)
    (case i_NoStep_ValueError => first | k_is | kit_is | kernel_rfl)
    (case n_NoStep_NoEnd => first | k_is | kit_is | kernel_rfl)
    (case n_NoStep_NoGame => first | k_is | kit_is | kernel_rfl)
    (case n_NoStep_NoPlay => first | k_is | kit_is | kernel_rfl)
    (case n_NoStep_NoRow => first | k_is | kit_is | kernel_rfl)
    (case n_NoStep_NoRule => first | k_is | kit_is | kernel_rfl)
    (case n_NoStep_NoWay => first | k_is | kit_is | kernel_rfl)
    (case n_NoStep_TooMany => first | k_is | kit_is | kernel_rfl)
    (case cl_Coursepg | cl_Coursehd | cl_Coursepo | cl_Coursesa | cl_Playpg | cl_Playhd | cl_Playpo | cl_Playsa | na_Course_first | na_Course_mosts | na_Course_spots | na_Course_tables | na_Course_whats | na_Play_course | na_Play_paid | na_Play_state | na_Play_trail | dia_Course | dii_Course | dil_Course | dic_Course | dik_Course | dim_Course | diq_Course | dia_Play | dii_Play | dil_Play | dic_Play | dik_Play | dim_Play | diq_Play | dma_Course_asked | dmi_Course_asked | dml_Course_asked | dmc_Course_asked | dmk_Course_asked | dma_Course_by_row | dmi_Course_by_row | dml_Course_by_row | dmc_Course_by_row | dmk_Course_by_row | dma_Course_by_value | dmi_Course_by_value | dml_Course_by_value | dmc_Course_by_value | dmk_Course_by_value | dma_Course_do | dmi_Course_do | dml_Course_do | dmc_Course_do | dmk_Course_do | dma_Course_end_worth | dmi_Course_end_worth | dml_Course_end_worth | dmc_Course_end_worth | dmk_Course_end_worth | dma_Course_holds | dmi_Course_holds | dml_Course_holds | dmc_Course_holds | dmk_Course_holds | dma_Course_open_rows | dmi_Course_open_rows | dml_Course_open_rows | dmc_Course_open_rows | dmk_Course_open_rows | dma_Course_put | dmi_Course_put | dml_Course_put | dmc_Course_put | dmk_Course_put | dma_Course_start | dmi_Course_start | dml_Course_start | dmc_Course_start | dmk_Course_start | dma_Course_table_at | dmi_Course_table_at | dml_Course_table_at | dmc_Course_table_at | dmk_Course_table_at | dma_Course_what_at | dmi_Course_what_at | dml_Course_what_at | dmc_Course_what_at | dmk_Course_what_at | dma_Course_words_at | dmi_Course_words_at | dml_Course_words_at | dmc_Course_words_at | dmk_Course_words_at | dma_Play_back | dmi_Play_back | dml_Play_back | dmc_Play_back | dmk_Play_back | dma_Play_go | dmi_Play_go | dml_Play_go | dmc_Play_go | dmk_Play_go | dma_Play_open_ways | dmi_Play_open_ways | dml_Play_open_ways | dmc_Play_open_ways | dmk_Play_open_ways | dma_Play_points | dmi_Play_points | dml_Play_points | dmc_Play_points | dmk_Play_points | dma_Play_say | dmi_Play_say | dml_Play_say | dmc_Play_say | dmk_Play_say | dma_Play_shown | dmi_Play_shown | dml_Play_shown | dmc_Play_shown | dmk_Play_shown | dma_Play_stands | dmi_Play_stands | dml_Play_stands | dmc_Play_stands | dmk_Play_stands | dma_Play_throw | dmi_Play_throw | dml_Play_throw | dmc_Play_throw | dmk_Play_throw => k_is)
