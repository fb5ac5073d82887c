import PyProof.Rows.All
import Wide.All
import OpenK.AllK
import Wide.FinOn
import Lean
import PyProof.EqAt
import PyProof.EqKinds
import PyProof.TupleCall
import PyProof.NeKinds
import PySem.Challenge.RW_pressluck_k77_steps_gone
set_option Elab.async false
set_option linter.all false
set_option maxRecDepth 100000
local macro_rules | `(∅) => `(by exact of_decide_eq_true (by kernel_rfl))
local macro_rules | `(⋯) => `(by lia)
local macro_rules | `(command| abbrev $i:declId $s:optDeclSig $v:declVal) => `(command| noncomputable def $i:declId $s:optDeclSig $v:declVal)
local macro_rules | `(tactic| injections) => `(tactic| rfl)
open List renaming length_map->aad,map_cons->aae,getElem?_map->aaf,getElem?_eq_getElem->aai,size_toArray->aaj,map_append->aak,mem_cons_of_mem->aam,mem_of_getElem?->aan,length_cons->aap,length_append->aaq,mem_cons_self->aas,take_of_length_le->aau,length_range->aax,length_take->aaA,mem_cons->aaB,getD_eq_getElem?_getD->aaC,mem_append_right->aaD,lookup_cons->aaE,take_add_one->aaF,set_cons_zero->aaG,set_cons_succ->aaH,getElem_mem->aaI,map_map->aaM,map_nil->aaN,not_mem_nil->aaO,cons_append->aaP,lookup_cons_self->aaR,filterMap_cons->aaT,length_nil->aa0,mem_append_left->aa1,filterMap_append->aa3,length_replicate->aa4,replicate_succ->aa5,length_singleton->aa6,mem_of_find?_eq_some->aa9,getElem?_eq_some_iff->abh,mem_map->abi,mem_singleton->abj,replicate->abn
open Nat renaming le_refl->aag,zero_le->aah,le_trans->aao,ne_of_lt->aar,lt_of_lt_of_le->aaz,lt_irrefl->aaK,lt_succ_self->aaZ
open Int renaming toNat_natCast->aal,zero_add->aaS,natCast_mul->aaW,emod_nonneg->aa2,emod_lt_of_pos->aa7
open Bool renaming false_ne_true->aat,and_eq_true->aaL
open PySem renaming boot_len->aav,mem_of_lookup->aaV,Str.ofString->aac,Heap.get?_push_of_some->abk,Heap.get?_push_size->abl,Heap.lt_size->abm
open PySem.F renaming plainAttrs_list->aaw,slot_list_append->aaX,type_list_append->aaY
open Option.some renaming inj->aay
open PySem.W renaming mg_none_of->aaJ,mg_of->aaQ,kia_one->aaU,Frag->aba,keepIn->abb,codeIn->abc,fnOf->abd,nsIn->abe,findIn->abf
open PyProof.Rows renaming callWith_type1->aa8
open Option renaming map_eq_some_iff->abg
namespace Hd
open PySem PySem.W PyProof.Rows
abbrev tS (ok:Thread->Bool) (st:SharedT->Thread->Option (SharedT×Thread)) (n:Nat):SharedT->Thread->Option SharedT:=
 @Nat.rec (λ_=>SharedT->Thread->Option SharedT) (λ_ _=>none)
  (λ_ ih s t=>@Bool.rec (λ_=>Option SharedT) (@Bool.rec (λ_=>Option SharedT) none (@Option.rec (SharedT×Thread) (λ_=>Option SharedT) none (λr=>@Prod.rec _ _ (λ_=>Option SharedT) (λa b=>ih a b) r) (st s t)) (ok t)) (some s) (through t)) n
theorem nZ {tb:String->Option Builtin} {p:Program} {w:World} {n₀:Nat} {ann:Option Value}:∀(n:Nat) (s:SharedT) (t:Thread) (s':SharedT),tS (stepOk n₀ ann) (stepT (denote tb) p w) n s t=some s'->topRun tb p w n₀ ann n s.abs t=some s'.abs
 | 0,_,_,_,h=>by cases h
 | n+1,s,t,s',h=>by
  unfold topRun
  replace h:@Bool.rec (λ_=>Option SharedT) (@Bool.rec (λ_=>Option SharedT) none (@Option.rec (SharedT×Thread) (λ_=>Option SharedT) none (λr=>@Prod.rec _ _ (λ_=>Option SharedT) (λa b=>tS (stepOk n₀ ann) (stepT (denote tb) p w) n a b) r) (stepT (denote tb) p w s t)) (stepOk n₀ ann t)) (some s) (through t)=some s':=h
  cases ht:through t with
  | true=>rw[ht] at h;cases h;rfl
  | false=>
   rw[ht] at h;cases hk:stepOk n₀ ann t with
   | false=>rw[hk] at h;cases h
   | true=>
    rw[hk] at h;cases hs:stepT (denote tb) p w s t with
    | none=>rw[hs] at h;cases h
    | some r=>obtain⟨s₂,t₂⟩:=r;rw[hs] at h;rw[stepT_spec hs];exact nZ n s₂ t₂ s' h
abbrev bt (P:Params):BT:=((boot_heap P).objs.toList.foldl (fun(x:BT×Nat) o=>(x.1.ins x.2 o,x.2+1)) (.nil,0)).1
abbrev xv (w:World) (os:OsState):SharedT:=⟨bt w.params,11,{},Array.mk [],boot_drawn,boot_toks,os⟩
theorem yR (w:World) (os:OsState):(xv w os).abs=⟨boot_heap w.params,Array.mk [],boot_drawn,boot_toks,os⟩:=by kernel_rfl
theorem vt (w:World):((boot_heap w.params).isNs mainGlobals && (Array.mk []:Array GenState).size==0,(boot_heap w.params).objs.size,(boot_heap w.params).nsMap mainGlobals "__annotations__")=(true,11,some (.ref 6)):=by kernel_rfl
theorem Ao {p q:Program} {loose:List Str} {Xt:Shared->Bool} {α:Type} {Yf:Shared->α} {Ya:World->α} {N:Nat} {g0:Bool}
  (KG:∀w:World,(fencedOpening treeTable p w N).map (λs=>(s.heap,s.gens,s.drawn,s.toks))=some (boot_heap w.params,Array.mk [],boot_drawn,boot_toks))
  (run:∀(w:World) (os:OsState),(tS (stepOk 11 (some (.ref 6))) (stepT (denote treeTable) p w) N (xv w os) (topStub p)).map (λs=>((staticsOk (importedModules p.main.body) (boot_heap w.params) s.abs.heap && namesBound p s.abs.heap && gensDone s.abs && laidKept (boot_heap w.params) s.abs.heap),openSeen q loose (importedModules p.main.body) Xt g0 s.abs,Yf s.abs))=some (true,openGood q loose,Ya w)):
  LeftO p q loose Xt Yf Ya N g0:=λw=>by
 obtain⟨⟨h,gs,d,k,os⟩,e,e'⟩:=abg.mp (KG w);obtain⟨rfl,rfl,rfl,rfl⟩:h=boot_heap w.params/\gs=Array.mk []/\d=boot_drawn/\k=boot_toks:=by simpa using e'
 obtain⟨z1,z2,z3⟩:_/\_/\_:=by simpa only[Prod.mk.injEq] using vt w
 obtain⟨s,r,l⟩:=abg.mp (run w os);obtain⟨l1,l2,l3⟩:_/\_/\_:=by simpa only[Prod.mk.injEq] using l
 have r:=nZ _ _ _ _ r;rw[yR] at r;have t:topFrom treeTable p w N ⟨boot_heap w.params,Array.mk [],boot_drawn,boot_toks,os⟩=some s.abs:=by
  unfold topFrom;dsimp only;rw[z1,z2,z3,r];show(match staticsOk (importedModules p.main.body) (boot_heap w.params) s.abs.heap && namesBound p s.abs.heap && gensDone s.abs && laidKept (boot_heap w.params) s.abs.heap with | true=>_ | false=>_)=_;rw[l1]
 unfold openEnds;rw[e];show((topFrom treeTable p w N ⟨boot_heap w.params,Array.mk [],boot_drawn,boot_toks,os⟩)).map _=_;rw[t];show some (_,_)=_;rw[l2,l3]
abbrev Runs (p q:Program) (loose:List Str) (Xt:Shared->Bool) {α:Type} (Yf:Shared->α) (Ya:World->α) (N:Nat) (g0:Bool) (w:World):Prop:=
 ∀os:OsState,(tS (PySem.W.Fast.tw6613529449190102663 11 (some (.ref 6))) (PySem.W.Fast.tw10156331382660048174 (PySem.W.Fast.tw11892475500146522536 PySem.W.Fast.tw14364793385576792824) p w) N (xv w os) (topStub p)).map (λs=>((staticsOk (importedModules p.main.body) (boot_heap w.params) s.abs.heap && namesBound p s.abs.heap && gensDone s.abs && laidKept (boot_heap w.params) s.abs.heap),PySem.W.Fast.tw4187177175401517315 q loose (importedModules p.main.body) Xt g0 s.abs,Yf s.abs))=some (true,openGood q loose,Ya w)
theorem yS {p q:Program} {loose:List Str} {Xt:Shared->Bool} {α:Type} {Yf:Shared->α} {Ya:World->α} {N:Nat} {g0:Bool}
  (e:opening p=plainProg p.main.scope.names) (hN:Nat.ble 600 N=true) (f:∀s,fenceModules? p s=some s)
  (run:∀w:World,Runs p q loose Xt Yf Ya N g0 w):
  LeftO p q loose Xt Yf Ya N g0:=by
 refine Ao (boot_open e hN f) ?_;unfold Runs at run;rw[PySem.W.Fast.te6613529449190102663,PySem.W.Fast.te10156331382660048174,PySem.W.Fast.te11892475500146522536,PySem.W.Fast.te14364793385576792824,PySem.W.Fast.te4187177175401517315];exact run
abbrev rb (p:Program) (N:Nat) (w:World) (os:OsState):Option SharedT:=tS (PySem.W.Fast.tw6613529449190102663 11 (some (.ref 6))) (PySem.W.Fast.tw10156331382660048174 (PySem.W.Fast.tw11892475500146522536 PySem.W.Fast.tw14364793385576792824) p w) N (xv w os) (topStub p)
abbrev KH (p:Program) (N:Nat) (w:World):Prop:=∀os:OsState,(rb p N w os).map (λs=>(staticsOk (importedModules p.main.body) (boot_heap w.params) s.abs.heap && namesBound p s.abs.heap && gensDone s.abs && laidKept (boot_heap w.params) s.abs.heap))=some true
abbrev KI (p q:Program) (loose:List Str) (Xt:Shared->Bool) (N:Nat) (g0:Bool) (w:World):Prop:=∀os:OsState,(rb p N w os).map (λs=>PySem.W.Fast.tw4187177175401517315 q loose (importedModules p.main.body) Xt g0 s.abs)=some (openGood q loose)
abbrev KJ (p:Program) {α:Type} (Yf:Shared->α) (Ya:World->α) (N:Nat) (w:World):Prop:=∀os:OsState,(rb p N w os).map (λs=>Yf s.abs)=some (Ya w)
theorem KN {p q:Program} {loose:List Str} {Xt:Shared->Bool} {α:Type} {Yf:Shared->α} {Ya:World->α} {N:Nat} {g0:Bool} {w:World} (a:KH p N w) (b:KI p q loose Xt N g0 w) (c:KJ p Yf Ya N w):Runs p q loose Xt Yf Ya N g0 w:=λos=>by
 obtain⟨s,r,l⟩:=abg.mp (a os);have b:=b os;have c:=c os;rw[r] at b c;have l2:PySem.W.Fast.tw4187177175401517315 q loose (importedModules p.main.body) Xt g0 s.abs=openGood q loose:=aay b;have l3:Yf s.abs=Ya w:=aay c;show(rb p N w os).map _=_;rw[r];show some (_,_,_)=_;rw[l,l2,l3]
end Hd
namespace K77
open PySem PySem.Spec PyProof.Rows
abbrev top (i:Nat):Stmt:=PySem.Challenge.pw_pressluck_k77_steps_gone.main.body.getD i (.Pass ⟨0,0,0,0⟩)
end K77
section QA
open PySem PySem.W PyProof.Rows
local macro_rules | `(tactic| o_head $H) => `(tactic| (refine (fun (_ : PySem.W.Hook) => ?_) $H; assumption))
theorem K77.pre (h:PySem.W.OpenRow.Holds (PySem.W.OpenLaw.row PySem.Challenge.rw_pressluck_k77_steps_gone)):PySem.W.OpenRow.Holds (PySem.W.OpenLaw.row PySem.Challenge.rw_pressluck_k77_steps_gone):=by
 k_head
abbrev K77.CV:List Addr:=[2,3,15,17,18,20,21,22,29,30,31,32,35,42,43,44,47,54,55,56,59,66,67,68,71,78,79,80,83,85,86,88,89,90,92,93,95,96,97,99,100,102,103,104,106,107,109,110,111,114,115,116,118,119,121,122,123,125,126,128,129,130,132,133,135,136,137,139,140,142,143,144,146,147,149,150,151,153,154,156,157,158,161,162,163,166,167,168,171,172,173,175,176,178,179,180,183,184,185,187,188,190,191,192,195,196,197,200,201,202,205,206,207,210,211,212,214,215,217,218,226,228,229,231,232,233,235,236,238,239,240,242,243,245,246,247,249,250,252,253,254,256,257,259,260,261,263,264,266,267,268,270,271,273,274,275,278,279,280,282,283,285,286,287,289,290,292,293,294,297,298,299,302,303,304,306,307,309,310,311,312,313,314,315,325,327,328,330,331,332,334,335,337,338,339,341,342,344,345,346,349,350,351,353,354,356,357,358,361,362,363,365,366,368,369,370,372,373,375,376,377,380,381,382,383,384,385,386,389,391,392,394,395,396,398,399,401,402,403,405,406,408,409,410,412,413,415,416,424,426,427,429,430,431,434,435,436,438,439,441,442,443,445,446,448,449,450,453,454,455,458,459,460,463,464,465,468,469,470,472,473,475,476,477,480,481,482,484,485,487,488,489,492,493,494,497,498,499,501,502,504,505,506,508,509,511,512,513,516,517,518,520,521,523,524,525,527,528,530,531,532,535,536]
theorem K77.Df (P:PySem.Params):K77.CV=(K77.pre.heap_1 P).map (·.1):=by kernel_rfl
abbrev K77.vw:PySem.Program:={PySem.Challenge.pw_pressluck_k77_steps_gone with main:={PySem.Challenge.pw_pressluck_k77_steps_gone.main with body:=[K77.top 0,K77.top 2,K77.top 3,K77.top 4,K77.top 5,K77.top 6,K77.top 8,K77.top 9,K77.top 10,K77.top 11,K77.top 13,K77.top 14,K77.top 16,K77.top 17,K77.top 18,K77.top 19,K77.top 20,K77.top 21,K77.top 22,K77.top 23,K77.top 24,K77.top 25,K77.top 26,K77.top 27,K77.top 28,K77.top 29,K77.top 30,K77.top 31,K77.top 33,K77.top 34,K77.top 35,K77.top 37,K77.top 38,K77.top 40,K77.top 41,K77.top 42,K77.top 43,K77.top 44,K77.top 45,K77.top 46,K77.top 47,K77.top 48,K77.top 49,K77.top 50,K77.top 51,K77.top 52,K77.top 53,K77.top 54,K77.top 55,K77.top 56,K77.top 57,K77.top 58,K77.top 59,K77.top 60,K77.top 61,K77.top 62,K77.top 63]}}
set_option maxHeartbeats 0 in
theorem K77.KO:PySem.Challenge.rw_pressluck_k77_steps_gone.wellSaid=true:=by
 unfold OpenLaw.wellSaid OpenRow.wellSaid OpenRow.partSaid looksOpen
 with_reducible repeat' refine look_both ?_ ?_
 all_goals decide (config:={kernel:=true})
theorem K77.QB (w:World):Hd.KH (RowW.prog (OpenRow.toRowW (PySem.W.OpenLaw.row PySem.Challenge.rw_pressluck_k77_steps_gone))) 7328 w:=λos=>by kernel_rfl
theorem K77.QC (w:World):Hd.KI (RowW.prog (OpenRow.toRowW (PySem.W.OpenLaw.row PySem.Challenge.rw_pressluck_k77_steps_gone))) K77.vw [] (λs=>xlAt K77.vw [] s && recOk (RowW.records (OpenRow.toRowW (PySem.W.OpenLaw.row PySem.Challenge.rw_pressluck_k77_steps_gone))) s) 7328 true w:=λos=>by kernel_rfl
theorem K77.runC (w:World):Hd.KJ (RowW.prog (OpenRow.toRowW (PySem.W.OpenLaw.row PySem.Challenge.rw_pressluck_k77_steps_gone))) (Hook.obs (kHook K77.pre.heap_1 K77.CV K77.Df)) (Hook.val (kHook K77.pre.heap_1 K77.CV K77.Df)) 7328 w:=λos=>by kernel_rfl
theorem K77.run (w:World):Hd.Runs (RowW.prog (OpenRow.toRowW (PySem.W.OpenLaw.row PySem.Challenge.rw_pressluck_k77_steps_gone))) K77.vw [] (λs=>xlAt K77.vw [] s && recOk (RowW.records (OpenRow.toRowW (PySem.W.OpenLaw.row PySem.Challenge.rw_pressluck_k77_steps_gone))) s) (Hook.obs (kHook K77.pre.heap_1 K77.CV K77.Df)) (Hook.val (kHook K77.pre.heap_1 K77.CV K77.Df)) 7328 true w:=Hd.KN (K77.QB w) (K77.QC w) (K77.runC w)
end QA
set_option tactic.hygienic false
set_option compiler.extract_closed false
set_option hygiene false in
local macro_rules | `(tactic| symm) => `(tactic| (refine (?_ : let G_ : Prop := _; G_); intro G_))
set_option hygiene false in
local macro_rules | `(tactic| nofun) => `(tactic| dsimp only [G_])
local macro_rules | `(tactic| ac_rfl) => `(tactic| decide +kernel)
namespace L2
open PySem PySem.Spec PyProof.Rows
@[inline]abbrev Key:=Sum Int Str
abbrev oa:Key->Value->Bool
 | .inl k,v=>Value.isInt k v
 | .inr x,v=>Value.isStrOf x v
abbrev GZ (w:World):Key->Int
 | .inl k=>hashInt k
 | .inr x=>hashStr w x
theorem cI:∀{k:Key} {v:Value},oa k v=true->(∃i t,k=Sum.inl i/\v=Value.int i t)\/(∃x t,k=Sum.inr x/\v=Value.str x t)
 | .inl i,v,h=>by
  obtain⟨t,e⟩:=Value.isInt_shape (k:=i) (v:=v) h;exact .inl ⟨i,t,rfl,e⟩
 | .inr x,v,h=>by
  obtain⟨t,e⟩:=Value.isStrOf_shape (x:=x) (v:=v) h;exact .inr ⟨x,t,rfl,e⟩
theorem yT (i:Int) (t:Tok):oa (.inl i) (.int i t)=true:=by simp [oa,Value.isInt]
theorem yU (x:Str) (t:Tok):oa (.inr x) (.str x t)=true:=by simp [oa,Value.isStrOf]
theorem G0 (a b:Int):decide ((Sum.inl a:Key)=Sum.inl b)=(a==b):=by
 by_cases e:a=b
 ·subst e;simp
 ·have h:¬(Sum.inl a:Key)=Sum.inl b:=λq=>e (Sum.inl.inj q);rw[decide_eq_false h];exact(beq_eq_false_iff_ne.mpr e).symm
theorem G1 (a b:Str):decide ((Sum.inr a:Key)=Sum.inr b)=decide (a=b):=by
 by_cases e:a=b
 ·subst e;simp
 ·have h:¬(Sum.inr a:Key)=Sum.inr b:=λq=>e (Sum.inr.inj q);rw[decide_eq_false h,decide_eq_false e]
theorem G3 (a:Int) (b:Str):decide ((Sum.inl a:Key)=Sum.inr b)=false:=decide_eq_false (λq=>nomatch q)
theorem G4 (a:Str) (b:Int):decide ((Sum.inr a:Key)=Sum.inl b)=false:=decide_eq_false (λq=>nomatch q)
abbrev cE (prog:Program) (w:World):PySem.KeyKind prog w Key where
 is:=oa
 hash:=GZ w
 inj:=λv a b ha hb=>by
  rcases cI ha with ⟨i,t,rfl,rfl⟩ | ⟨x,t,rfl,rfl⟩
  ·rcases cI hb with ⟨j,u,rfl,e⟩ | ⟨y,u,rfl,e⟩
   ·injection e with e1 _;rw[e1]
   ·exact nomatch e
  ·rcases cI hb with ⟨j,u,rfl,e⟩ | ⟨y,u,rfl,e⟩
   ·exact nomatch e
   ·injection e with e1 _;rw[e1]
 byValue:=λk v h=>by
  rcases cI h with ⟨i,t,rfl,rfl⟩ | ⟨x,t,rfl,rfl⟩ <;>rfl
 pyHash:=λhv h=>by
  rcases cI hv with ⟨i,t,rfl,rfl⟩ | ⟨x,t,rfl,rfl⟩
  ·exact wpAny_pyHash_int h
  ·exact wpAny_pyHash_str h
 eqBool:=λhu hv h=>by
  rcases cI hu with ⟨i,t,rfl,rfl⟩ | ⟨x,t,rfl,rfl⟩
  ·rcases cI hv with ⟨j,u,rfl,rfl⟩ | ⟨y,u,rfl,rfl⟩
   ·rw[G0] at h;exact wpAny_eqBool_int h
   ·rw[G3] at h;exact SeqAt.EqAt.int_str i t y u _ _ _ _ h
  ·rcases cI hv with ⟨j,u,rfl,rfl⟩ | ⟨y,u,rfl,rfl⟩
   ·rw[G4] at h;exact SeqAt.EqAt.str_int x t j u _ _ _ _ h
   ·rw[G1] at h;exact wpAny_eqBool_str h
 «strs»:=λk x t v h=>by
  rcases cI h with ⟨i,u,rfl,e⟩ | ⟨y,u,rfl,e⟩
  ·exact nomatch e
  ·injection e with e1 _
   subst e1;cases v <;>rfl
theorem tU (prog:Program) (w:World) (i:Int) (t:Tok):(cE prog w).is (.inl i) (.int i t)=true:=yT i t
theorem tV (prog:Program) (w:World) (x:Str) (t:Tok):(cE prog w).is (.inr x) (.str x t)=true:=yU x t
inductive V where
 | cU | bl (b:Bool) | int (i:Int) | str (x:Str) | Ad (b:Array UInt8) | Fk (b:UInt64) | ref (a:Addr) | ty (n:String)
 deriving DecidableEq
abbrev RelV:V->Value->Prop
 | .cU,u=>u=Value.none
 | .bl b,u=>u=Value.bool b
 | .int i,u=>∃t,u=Value.int i t
 | .str x,u=>∃t,u=Value.str x t
 | .Ad b,u=>∃t,u=Value.bytes b t
 | .Fk b,u=>∃t,u=Value.float b t
 | .ref a,u=>u=Value.ref a
 | .ty n,u=>u=Value.type n
@[inline]abbrev bq:List V->List Value->Prop:=Paired RelV
theorem bq.length {xs:List V} {us:List Value} (r:bq xs us):xs.length=us.length:=Paired.length r
theorem bq.get:∀{xs:List V} {us:List Value} {i:Nat} {x:V},bq xs us->xs[i]?=some x->∃u,us[i]?=some u/\RelV x u
 | _,_,_,_,.nil,e=>by simp at e
 | _,_,0,_,.cons r _,e=>by simp at e;subst e;exact⟨_,rfl,r⟩
 | _,_,i+1,x,.cons _ t,e=>by
  obtain⟨u,h1,h2⟩:=bq.get (i:=i) (x:=x) t (by simpa using e);exact⟨u,by simpa using h1,h2⟩
theorem bq.set {x:V} {u:Value} (r:RelV x u):∀{xs:List V} {us:List Value} (i:Nat),bq xs us->bq (xs.set i x) (us.set i u)
 | _,_,_,.nil=>.nil
 | _,_,0,.cons _ t=>.cons r t
 | _,_,i+1,.cons q t=>.cons q (bq.set r i t)
theorem bq.append:∀{xs ys:List V} {us ws:List Value},bq xs us->bq ys ws->bq (xs++ys) (us++ws)
 | _,_,_,_,.nil,s=>s
 | _,_,_,_,.cons r t,s=>.cons r (bq.append t s)
theorem bq.take:∀{xs:List V} {us:List Value} (n:Nat),bq xs us->bq (xs.take n) (us.take n)
 | _,_,0,_=>.nil
 | _,_,_+1,.nil=>.nil
 | _,_,n+1,.cons r t=>.cons r (bq.take n t)
theorem bq.drop:∀{xs:List V} {us:List Value} (n:Nat),bq xs us->bq (xs.drop n) (us.drop n)
 | _,_,0,r=>r
 | _,_,_+1,.nil=>.nil
 | _,_,n+1,.cons _ t=>bq.drop n t
abbrev hZ:Option V->Option Value->Prop
 | some v,some u=>RelV v u
 | none,none=>True
 | _,_=>False
abbrev KV {κ:Type}:List (κ×V)->List (κ×Value)->Prop:=Paired fun(p:κ×V) (q:κ×Value)=>p.1=q.1/\RelV p.2 q.2
abbrev kV:Key->V
 | .inl i=>.int i
 | .inr x=>.str x
inductive HO where
 | lst (xs:List V)
 | tup (xs:List V)
 | dK (kvs:List (Key×V)) | dT (kvs:List (List Key×V))
 | set (S:Int->Bool) (n:Nat)
 | ins (C dx:Addr) (fs:List (Str×V))
 | own (x:Addr)
 | xd (fs:List (Str×V))
 | met (f x:Addr)
 | Pj (lo hi:Int)
 | qu (o:Obj) (u:HO)
 | CW (ps:Array Value)
 | ext (φ:Heap->Prop)
@[inline]abbrev Hp:=Addr->Option HO
abbrev upd (H:Hp) (a:Addr) (o:HO):Hp:=λb=>if b=a then some o else H b
theorem ao {H:Hp} {a:Addr} {o:HO}:upd H a o a=some o:=by unfold upd;rw[if_pos rfl]
theorem av {H:Hp} {a b:Addr} {o:HO} (h:b≠a):upd H a o b=H b:=by unfold upd;rw[if_neg h]
theorem xw {H:Hp} {a:Addr} {o u:HO}:upd (upd H a o) a u=upd H a u:=by
 funext b;unfold upd;split <;>rfl
theorem KP {H:Hp} {a b:Addr} {o u:HO} (h:H a=some o) (h':H b=some u) (d:o≠u):a≠b:=by
 intro e;subst e;rw[h] at h';exact d (aay h')
theorem eG {H:Hp} {a b:Addr} {o:HO} (h:H a=some o) (h':H b=none):a≠b:=by
 intro e;subst e;rw[h] at h';cases h'
abbrev TabAt (H:Hp) (h:Heap) (a:Addr) (ps:Array Value):Prop:=∃mo:Array Value,h.get? a=some {cls:=.none,data:=.fields mo}/\
 (mo=#[]\/∃(l c:Value) (c1:Addr) (q:Str) (t:Tok),ps=#[l,c,.str q t]/\mo=#[l,c,.ref c1]/\H c1=some (.own a)/\h.CodeRec (.ref c1) q)
section
variable (P : Program) (w : World)
abbrev cf (H:Hp) (h:Heap) (a:Addr):HO->Prop
 | .lst xs=>xs.length<=sizeLine/\∃(ba:List Value) (n:Nat),bq xs ba/\h.get? a=some {cls:=.type "list",data:=.seq ba.toArray n}
 | .tup xs=>xs.length<=sizeLine/\∃ba:List Value,bq xs ba/\IsTup h a ba.toArray
 | .dK kvs=>kvs.length<=sizeLine/\(a==sysModules)=false/\∃vs,KV kvs vs/\h.DictOf (cE P w) a vs
 | .dT kvs=>kvs.length<=sizeLine/\(a==sysModules)=false/\∃xs:List (List Key×Addr×Value),
   Paired (fun(p:List Key×V) (q:List Key×Addr×Value)=>p.1=q.1/\H q.2.1=some (.tup (p.1.map kV))/\RelV p.2 q.2.2) kvs xs/\
   ∃o es ep,h.get? a=some o/\o.ExactDict/\o.data=.dict es ep/\es.toList=xs.map (entryOfKey (tupleKind (cE P w)))/\(xs.map (·.1)).Nodup
 | .set S n=>h.SetOf (intKind P w) a S n
 | .ins C dx fs=>H dx=some (.own a)/\fs.length<=1000/\dx≠a/\h.get? a=some (PySem.W.instObj C dx)/\
   ∃mA,h.Ns1 dx mA/\(∀f,hZ (fs.lookup f) (mA f))/\PySem.Within mA (fs.map (·.1))
 | .own _=>∃o,h.get? a=some o
 | .xd fs=>∃mA,h.Ns1 a mA/\∀f,hZ (fs.lookup f) (mA f)
 | .Pj lo hi=>∃t u v,h.get? a=some {cls:=.type "range",data:=.fields #[.int lo t,.int hi u,.int 1 v]}
 | .qu o u=>h.get? a=some o/\cf H h a u
 | .CW ps=>TabAt H h a ps
 | .met f x=>h.get? a=some (PySem.W.methodObj (.ref f) (.ref x))
 | .ext φ=>φ h/\(∃o,h.get? a=some o)/\∀h1 h2:Heap,φ h1->(∀o,h1.get? a=some o->h2.get? a=some o)->φ h2
abbrev gq (H:Hp) (h:Heap):Prop:=∀a o,H a=some o->cf P w H h a o
end
section
variable {P : Program} {w : World} {H H' : Hp} {h h' : Heap} {a : Addr} {o : HO}
theorem cf.lt (x:cf P w H h a o):a<h.objs.size:=by
 cases o with
 | lst xs=>obtain⟨_,_,_,_,e⟩:=x;exact abm e
 | tup xs=>obtain⟨_,_,_,p⟩:=x;exact p.lt
 | dK kvs=>obtain⟨_,_,_,_,o,_,_,e,_⟩:=x;exact abm e
 | dT kvs=>obtain⟨_,_,_,_,o,_,_,e,_⟩:=x;exact abm e
 | set S n=>obtain⟨o,_,_,_,e,_⟩:=x;exact abm e
 | ins C dx fs=>obtain⟨_,_,_,e,_⟩:=x;exact abm e
 | own y=>obtain⟨_,e⟩:=x;exact abm e
 | xd fs=>obtain⟨_,⟨_,_,_,e,_⟩,_⟩:=x;exact abm e
 | Pj lo hi=>obtain⟨_,_,_,e⟩:=x;exact abm e
 | qu ob u=>obtain⟨e,_⟩:=x;exact abm e
 | CW ps=>obtain⟨_,e,_⟩:=x;exact abm e
 | met f y=>exact abm (show h.get? a=some _ from x)
 | ext φ=>obtain⟨_,⟨_,e⟩,_⟩:=x;exact abm e
theorem Paired.G5 {α β:Type} {F G:α->β->Prop}:∀{l₁:List α} {l₂:List β},Paired F l₁ l₂->(∀a b,F a b->G a b)->Paired G l₁ l₂
 | _,_,.nil,_=>.nil
 | _,_,.cons r t,f=>.cons (f _ _ r) (Paired.G5 t f)
theorem cf.qZ (x:cf P w H h a o) (k:∀b u,(b=a\/H b=some (.own a))->h.get? b=some u->h'.get? b=some u)
  (ho:∀b,H b=some (.own a)->H' b=some (.own a)) (ht:∀b xs,H b=some (.tup xs)->H' b=some (.tup xs)):cf P w H' h' a o:=by
 induction o with
 | lst xs=>obtain⟨z,ba,n,r,e⟩:=x;exact⟨z,ba,n,r,k _ _ (.inl rfl) e⟩
 | tup xs=>obtain⟨z,ba,r,ob,e,c⟩:=x;exact⟨z,ba,r,ob,k _ _ (.inl rfl) e,c⟩
 | dK kvs=>obtain⟨z,y,vs,r,ob,es,ep,e,c⟩:=x;exact⟨z,y,vs,r,ob,es,ep,k _ _ (.inl rfl) e,c⟩
 | dT kvs=>
  obtain⟨z,y,xs,r,ob,es,ep,e,c⟩:=x;exact⟨z,y,xs,Paired.G5 r λp q z=>⟨z.1,ht _ _ z.2.1,z.2.2⟩,ob,es,ep,k _ _ (.inl rfl) e,c⟩
 | set S n=>obtain⟨ob,es,ep,t,e,c⟩:=x;exact⟨ob,es,ep,t,k _ _ (.inl rfl) e,c⟩
 | ins C dx fs=>
  obtain⟨d,z,ne,e,mA,⟨od,es,ep,e2,c⟩,r⟩:=x;exact⟨ho _ d,z,ne,k _ _ (.inl rfl) e,mA,⟨od,es,ep,k _ _ (.inr d) e2,c⟩,r⟩
 | own y=>obtain⟨ob,e⟩:=x;exact⟨ob,k _ _ (.inl rfl) e⟩
 | xd fs=>obtain⟨mA,⟨od,es,ep,e,c⟩,r⟩:=x;exact⟨mA,⟨od,es,ep,k _ _ (.inl rfl) e,c⟩,r⟩
 | Pj lo hi=>obtain⟨t,u,v,e⟩:=x;exact⟨t,u,v,k _ _ (.inl rfl) e⟩
 | qu ob u ih=>obtain⟨e,q⟩:=x;exact⟨k _ _ (.inl rfl) e,ih q⟩
 | CW ps=>
  obtain⟨mo,e,q⟩:=x;refine⟨mo,k _ _ (.inl rfl) e,?_⟩;rcases q with q | ⟨l,c,c1,qn,t,e1,e2,e3,c2,o2,W8,t2,f1,f2,f3,f4⟩
  ·exact .inl q
  ·cases f1;exact .inr ⟨l,c,c1,qn,t,e1,e2,ho _ e3,c1,o2,W8,t2,rfl,k _ _ (.inr e3) f2,f3,f4⟩
 | met f y=>
  have e:h.get? a=some (PySem.W.methodObj (.ref f) (.ref y)):=x;show h'.get? a=some (PySem.W.methodObj (.ref f) (.ref y));exact k a _ (.inl rfl) e
 | ext φ=>obtain⟨p,⟨o,e⟩,st⟩:=x;exact⟨st _ _ p λo q=>k _ _ (.inl rfl) q,⟨o,k _ _ (.inl rfl) e⟩,st⟩
theorem gq.lt (x:gq P w H h) (e:H a=some o):a<h.objs.size:=(x a o e).lt
theorem gq.fresh (x:gq P w H h) (e:h.objs.size<=a):H a=none:=by
 cases q:H a with
 | none=>rfl
 | some u=>exact absurd (aaz (x.lt q) e) (aaK _)
theorem gq.kept (x:gq P w H h) (k:∀b u,h.get? b=some u->h'.get? b=some u):gq P w H h':=λa o e=>
 (x a o e).qZ (λb u _ q=>k b u q) (λ_ q=>q) λ_ _ q=>q
theorem gq.laid (x:gq P w H h) (k:∀b u,h.get? b=some u->h'.get? b=some u) (hp:h.objs.size<=a) (new:cf P w (upd H a o) h' a o):gq P w (upd H a o) h':=λb u e=>by
 have hn:=x.fresh hp
 by_cases hb:b=a
 ·subst hb;rw[ao] at e;cases e;exact new
 ·rw[av hb] at e;exact(x b u e).qZ (λc v _ q=>k c v q) (λc q=>by rw[av (eG q hn)];exact q) λc xs q=>by rw[av (eG q hn)];exact q
end
abbrev Rd (H:Hp) (a:Addr) (u:HO):Prop:=H a=some u\/∃o,H a=some (.qu o u)
theorem Rd.ok {P:Program} {w:World} {H:Hp} {h:Heap} {a:Addr} {u:HO} (r:Rd H a u) (x:gq P w H h):cf P w H h a u:=by
 rcases r with r | ⟨o,r⟩
 ·exact x a u r
 ·obtain⟨_,q⟩:=x a _ r;exact q
abbrev KQ:Option HO->Prop
 | some (.lst _)=>True
 | some (.dK _)=>True
 | some (.dT _)=>True
 | some (.set _ _)=>True
 | some (.ins _ _ _)=>True
 | some (.ext _)=>True
 | _=>False
section
variable {P : Program} {w : World} {H : Hp} {h h' : Heap} {x e : Addr} {o' : HO}
theorem gq.write (ok:gq P w H h) (mu:KQ (H x)) (he:e=x\/H e=some (.own x)) (k:∀b u,b≠e->h.get? b=some u->h'.get? b=some u) (JV:∃u,h'.get? e=some u)
  (new:cf P w (upd H x o') h' x o'):gq P w (upd H x o') h':=λb u q=>by
 have KR:∀c y,H c=some (.own y)->c≠x:=λc y r z=>by subst z;rw[r] at mu;exact mu
 have QD:∀c xs,H c=some (.tup xs)->c≠x:=λc xs r z=>by subst z;rw[r] at mu;exact mu
 by_cases hb:b=x
 ·subst hb;rw[ao] at q;cases q;exact new
 ·rw[av hb] at q
  by_cases G6:b=e
  ·have q':H b=some (.own x):=by
    rcases he with z | z
    ·exact absurd (G6.trans z) hb
    ·rw[G6];exact z
   rw[q] at q';cases q';obtain⟨v,hv⟩:=JV;exact⟨v,by rw[G6];exact hv⟩
  ·refine(ok b u q).qZ (λc v hc r=>k c v ?_ r) (λc r=>by rw[av (KR c b r)];exact r) λc xs r=>by rw[av (QD c xs r)];exact r
   rcases hc with rfl | hc
   ·exact G6
   ·rintro rfl;rcases he with z | z
    ·exact KR c b hc z
    ·rw[hc] at z;cases z;exact hb rfl
end
structure Un (fs ex:List Addr) (H H':Hp) (h h':Heap):Prop where
 keep:∀b o,h.get? b=some o->H b=none->b∉fs->b∉ex->h'.get? b=some o
 slot:∀b o,h.get? b=some o->H b=none->b∈fs->b∉ex->∃sl,h'.get? b=some {o with slots:=sl}
 free:∀b o,h.get? b=some o->H b=none->b∉ex->H' b=none
 there:∀b o,h.get? b=some o->b∉ex->∃o',h'.get? b=some o'
 lq:∀b xs,H b=some (.tup xs)->H' b=some (.tup xs)
 jU:∀b o u,H b=some (.qu o u)->H' b=some (.qu o u)
 lA:∀b ps,H b=some (.CW ps)->∃more,H' b=some (.CW (ps++more))
section
variable {fs W9 ex QE : List Addr} {H H1 H2 : Hp} {h h1 h2 h' : Heap} {a x e : Addr} {o : HO}
theorem Un.any (u:Un fs ex H H1 h h1) {b:Addr} {ob:Obj} (q:h.get? b=some ob) (n:H b=none) (hx:b∉ex):∃sl,h1.get? b=some {ob with slots:=sl}:=by
 by_cases hb:b∈fs
 ·exact u.slot b ob q n hb hx
 ·exact⟨ob.slots,u.keep b ob q n hb hx⟩
theorem Un.kept (k:∀b u,h.get? b=some u->h'.get? b=some u):Un fs ex H H h h':=
 ⟨λb ob q _ _ _=>k b ob q,λb ob q _ _ _=>⟨ob.slots,k b ob q⟩,λ_ _ _ n _=>n,λb ob q _=>⟨ob,k b ob q⟩,λ_ _ q=>q,λ_ _ _ q=>q,λ_ ps q=>⟨#[],by rw[q];simp⟩⟩
theorem Un.refl:Un fs ex H H h h:=Un.kept λ_ _ q=>q
theorem Un.laid (k:∀b u,h.get? b=some u->h'.get? b=some u) (hp:h.objs.size<=a) (hn:H a=none):Un fs ex H (upd H a o) h h' where
 keep:=λb u q _ _ _=>k b u q
 slot:=λb u q _ _ _=>⟨u.slots,k b u q⟩
 free:=λb u q n _=>by rw[av (aar (aaz (abm q) hp))];exact n
 there:=λb u q _=>⟨u,k b u q⟩
 lq:=λb xs q=>by rw[av (eG q hn)];exact q
 jU:=λb u xs q=>by rw[av (eG q hn)];exact q
 lA:=λb ps q=>⟨#[],by rw[av (eG q hn),q];simp⟩
theorem Un.write (mu:KQ (H x)) (he:e=x\/H e=some (.own x)) (k:∀b u,b≠e->h.get? b=some u->h'.get? b=some u) (JV:∃u,h'.get? e=some u):Un fs ex H (upd H x o) h h':=by
 have hx:∀b,H b=none->b≠x:=λb n z=>by subst z;rw[n] at mu;exact mu
 have hb:∀b,H b=none->b≠e:=λb n z=>by
  subst z;rcases he with r | r
  ·exact hx b n r
  ·rw[n] at r;cases r
 have hm:∀b u,H b=some u->¬KQ (some u)->b≠x:=λb u q nm z=>by subst z;rw[q] at mu;exact nm mu
 refine⟨λb u q n _ _=>k b u (hb b n) q,λb u q n _ _=>⟨u.slots,k b u (hb b n) q⟩,λb u q n _=>by rw[av (hx b n)];exact n,λb u q _=>?_,
  λb xs q=>by rw[av (hm b _ q λz=>z)];exact q,λb u xs q=>by rw[av (hm b _ q λz=>z)];exact q,λb ps q=>⟨#[],by rw[av (hm b _ q λz=>z),q];simp⟩⟩
 by_cases G6:b=e
 ·subst G6;exact JV
 ·exact⟨u,k b u G6 q⟩
end
abbrev Pk (h:Heap) (H:Hp):List Addr:=(List.range h.objs.size).filter λa=>(H a).isSome
abbrev q9 (h:Heap) (H:Hp):Heap:=PySem.W.hideAll h (Pk h H)
theorem yV (h:Heap) (H:Hp):(q9 h H).objs.size=h.objs.size:=PySem.W.hideAll_size _ _
theorem Ap {h:Heap} {H:Hp} {b:Addr} {o:Obj} (e:h.get? b=some o) (n:H b=none):(q9 h H).get? b=some o:=
 PySem.W.hideAll_get _ e λhm=>by
  have q:(H b).isSome=true:=(List.mem_filter.mp hm).2;rw[n] at q;simp at q
theorem Dg {h:Heap} {H:Hp} {b:Addr} {o:Obj} (e:(q9 h H).get? b=some o):h.get? b=some o/\H b=none:=by
 have e':h.get? b=some o:=PySem.W.of_hideAll (Pk h H) e;refine⟨e',?_⟩;cases q:H b with
 | none=>rfl
 | some x=>
  have hm:b∈Pk h H:=List.mem_filter.mpr ⟨List.mem_range.mpr (abm e'),by simp [q]⟩;have z:(q9 h H).get? b=none:=PySem.W.hideAll_none (Pk h H) hm;rw[z] at e;cases e
abbrev Dh (g h:Heap) (L:Addr):List (Addr×Obj):=(List.range h.objs.size).filterMap λa=>if a=L\/(g.get? a).isSome=true then none else (h.get? a).map λo=>(a,o)
abbrev rest (g h:Heap) (L d:Addr):List (Addr×Obj):=(Dh g h L).filter λp=>decide (p.1≠d)
structure Mod (K:aba) (mg:Str->Option Value) (base:Heap):Prop where
 JW:K.In base
 glob:base.Ns mainGlobals mg
 blt:∃mb,base.Ns builtinsNs mb/\∀x:Str,x≠"__name__"->mb x=bootBuiltins x
 nolimit:base.NoLimit
structure Cx where
 prog:Program
 w:World
 K:aba
 mg:Str->Option Value
 base:Heap
 A:Around
 N:List Str
 s₀:Shared
 H₀:Hp
 env:Env
 outer:List Env
 stack:List Env
 ex:List Addr
 fn:Str->Bool
 calm:Bool
 pn:List (Addr×Obj)
 xe:Value->Shared->Prop
def gL (l:List Env):List Addr:=l.filterMap (·.frame)
@[inline]abbrev Cx.fs (X:Cx):List Addr:=gL X.outer
abbrev QF (sc:Scope) (x:Str):Prop:=sc.names.lookup x=some .local\/sc.names.lookup x=some .cell\/sc.names.lookup x=some .free
abbrev Loc (sc:Scope) (x:Str):Prop:=sc.names.lookup x=some .local\/sc.names.lookup x=some .cell
abbrev Look (env:Env) (h:Heap) (m:Str->Option Value) (x:Str) (u:Value):Prop:=
 (env.kindOf x=some .local/\m x=some u)\/((env.kindOf x=some .cell\/env.kindOf x=some .free)/\∃c,env.cells.lookup x=some c/\h.IsCell c (some u))
structure Cx.Ok (X:Cx):Prop where
 mod:Mod X.K X.mg X.base
 kind:X.env.scope.kind=.function
 glob:X.env.globals=mainGlobals
 blt:X.env.builtins=builtinsNs
 above:X.s₀.heap.objs.size<=X.env.locals
 inj:∀x y c,X.env.cells.lookup x=some c->X.env.cells.lookup y=some c->x=y
 has:∀x,(X.env.kindOf x=some .cell\/X.env.kindOf x=some .free)->∃c,X.env.cells.lookup x=some c
 JX:∀x c,X.fn x=true->X.env.cells.lookup x=some c->X.s₀.heap.objs.size<=c
 hd:X.calm=true->X.A.handled=none
 frames:X.A.frames=some X.stack
 KS:X.stack=X.outer\/(X.stack=X.env::X.outer/\X.env.frame=some X.env.locals)
 QG:∀b∈X.ex,b≠X.env.locals/\∀x c,X.env.cells.lookup x=some c->c≠b
 bs:∀b o,X.base.get? b=some o->X.s₀.heap.get? b=some o/\X.H₀ b=none
 CY:X.base.objs.size<=X.s₀.heap.objs.size
 yW:∀b o,X.base.get? b=some o->b∉X.ex
 Aq:∀b∈X.ex,b∉X.fs
 lB:X.s₀.heap.FunFrames X.base X.outer
 Fl:∀b∈X.fs,X.H₀ b=none
structure Inv (X:Cx) (pins:List (Addr×Obj)) (σ:List (Option V)) (H:Hp) (s:Shared):Prop where
 ok:X.Ok
 os:s.os=X.s₀.os
 bare:AllBare s.gens
 base:Un X.fs X.ex X.H₀ H X.s₀.heap s.heap
 loc:∃m,s.heap.Ns X.env.locals m/\∀(i:Nat) (x:Str) (v:V),X.N[i]?=some x->σ[i]?=some (some v)->QF X.env.scope x->∃u,RelV v u/\Look X.env s.heap m x u
 cell:∀x c,X.env.cells.lookup x=some c->∃v,s.heap.IsCell c v
 free:H X.env.locals=none
 ig:∀x c,X.env.cells.lookup x=some c->H c=none
 pin:∀p∈X.pn++pins,s.heap.get? p.1=some p.2/\H p.1=none/\p.1≠X.env.locals/\p.1∉X.fs/\∀v,p.2.data≠.cell v
 bP:gq X.prog X.w H s.heap
 len:σ.length=X.N.length
section
variable {X : Cx} {pins : List (Addr × Obj)} {σ : List (Option V)} {H H' : Hp} {s : Shared} {h' : Heap}
theorem Cx.Ok.QH (ok:X.Ok) {b:Addr} {o:Obj} (e:X.base.get? b=some o):b∉X.fs:=λhb=>by
 have:=(ok.lB.mem hb).1;rw[e] at this;cases this
theorem Inv.bs (I:Inv X pins σ H s):∀b o,X.base.get? b=some o->s.heap.get? b=some o/\H b=none:=λb o e=>
 ⟨I.base.keep b o (I.ok.bs b o e).1 (I.ok.bs b o e).2 (I.ok.QH e) (I.ok.yW b o e),I.base.free b o (I.ok.bs b o e).1 (I.ok.bs b o e).2 (I.ok.yW b o e)⟩
theorem Inv.bk (I:Inv X pins σ H s):∀b o,X.base.get? b=some o->s.heap.get? b=some o:=λb o e=>(I.bs b o e).1
theorem Inv.mod (I:Inv X pins σ H s):Mod X.K X.mg X.base:=I.ok.mod
theorem Inv.ib (I:Inv X pins σ H s):X.K.In s.heap:=I.ok.mod.JW.keeps I.bk
theorem Inv.lt (I:Inv X pins σ H s):X.env.locals<s.heap.objs.size:=let ⟨_,hn,_⟩:=I.loc;hn.lt
theorem Inv.sz (I:Inv X pins σ H s):X.s₀.heap.objs.size<=s.heap.objs.size:=aao I.ok.above (Nat.le_of_lt I.lt)
theorem Inv.QI (I:Inv X pins σ H s) {a:Addr} (h:s.heap.objs.size<=a):a∉X.fs:=λhb=>by
 obtain⟨_,o,ho,_⟩:=I.ok.lB.mem hb;exact absurd (aaz (abm ho) (aao I.sz h)) (aaK _)
theorem Inv.Di (I:Inv X pins σ H s):∀x c,X.env.cells.lookup x=some c->c≠X.env.locals:=λx c e z=>by
 obtain⟨v,o,ho,hd⟩:=I.cell x c e;obtain⟨m,⟨o',es,ep,Dj,QJ,_⟩,_⟩:=I.loc;rw[z,Dj] at ho;cases ho;rw[QJ] at hd;cases hd
theorem Inv.lB (I:Inv X pins σ H s):s.heap.FunFrames X.base X.outer:=by
 have all:∀(l:List Env),(∀b∈gL l,b∈X.fs)->X.s₀.heap.FunFrames X.base l->s.heap.FunFrames X.base l:=by
  intro l
  induction l with
  | nil=>intro _ _;trivial
  | cons env r ih=>
   intro hs hl;obtain⟨hk,⟨L,o,hf,hn,ho,hd⟩,hr⟩:=hl;have hL:L∈X.fs:=hs L (by unfold gL;rw[aaT,hf];exact aas);obtain⟨sl,e⟩:=I.base.slot L o ho (I.ok.Fl L hL) hL λz=>I.ok.Aq L z hL;exact⟨hk,⟨L,_,hf,hn,e,hd⟩,ih (λb hb=>hs b (by unfold gL;rw[aaT,hf];exact aam _ hb)) hr⟩
 exact all X.outer (λ_ hb=>hb) I.ok.lB
theorem Inv.stack (I:Inv X pins σ H s):s.heap.FunFrames X.base X.stack:=by
 rcases I.ok.KS with e | ⟨e,hf⟩
 ·rw[e];exact I.lB
 ·rw[e];obtain⟨m,hn,_⟩:=I.loc;refine .cons (by rw[I.ok.kind];decide) hf hn ?_ I.lB;exact Heap.get?_none_of_le (aao I.ok.CY I.ok.above)
theorem Inv.rj (I:Inv X pins σ H s):∀b∈gL X.stack,b∈X.env.locals::X.fs:=λb hb=>by
 rcases I.ok.KS with e | ⟨e,hf⟩
 ·rw[e] at hb;exact aam _ hb
 ·rw[e] at hb;unfold gL at hb;rw[aaT,hf] at hb;exact hb
theorem Inv.rk (I:Inv X pins σ H s):∀b∈gL X.stack,H b=none:=λb hb=>by
 rcases aaB.mp (I.rj b hb) with e | hb
 ·rw[e];exact I.free
 ·obtain⟨_,o,ho,_⟩:=I.ok.lB.mem hb;exact I.base.free b o ho (I.ok.Fl b hb) λz=>I.ok.Aq b z hb
theorem Inv.step {g':Array GenState} {t':Nat} {d':Drawn} {ch:List Addr} (I:Inv X pins σ H s)
  (CZ:∀b∈ch,(b∈X.ex\/X.s₀.heap.objs.size<=b)/\b≠X.env.locals/\(∀x c,X.env.cells.lookup x=some c->c≠b)/\∀p∈X.pn++pins,p.1≠b)
  (keep:∀b o,b≠X.env.locals->b∉X.fs->b∉ch->s.heap.get? b=some o->H b=none->h'.get? b=some o)
  (slot:∀b o,b≠X.env.locals->b∈X.fs->b∉ch->s.heap.get? b=some o->H b=none->∃sl,h'.get? b=some {o with slots:=sl}) (free:∀b o,b∉ch->s.heap.get? b=some o->H b=none->H' b=none)
  (there:∀b o,b∉ch->s.heap.get? b=some o->∃o',h'.get? b=some o')
  (lq:∀b xs,H b=some (.tup xs)->H' b=some (.tup xs)) (jU:∀b o u,H b=some (.qu o u)->H' b=some (.qu o u)) (lA:∀b ps,H b=some (.CW ps)->∃more,H' b=some (.CW (ps++more)))
  (ns:∀m,s.heap.Ns X.env.locals m->h'.Ns X.env.locals m) (bP:gq X.prog X.w H' h') (hg:AllBare g'):
  Inv X pins σ H' {s with heap:=h',gens:=g',drawn:=d',toks:=t'}:=by
 have Vi:∀b o,X.s₀.heap.get? b=some o->b≠X.env.locals:=λb o e=>aar (aaz (abm e) I.ok.above);have Pm:∀b o,X.s₀.heap.get? b=some o->b∉X.ex->b∉ch:=λb o e hx hb=>by
  rcases(CZ b hb).1 with z | z
  ·exact hx z
  ·exact absurd (aaz (abm e) z) (aaK _)
 have cellK:∀x c,X.env.cells.lookup x=some c->∀v,s.heap.IsCell c v->h'.IsCell c v:=λx c e v ⟨o,ho,hd⟩=>by
  have Fm:c∉ch:=λz=>(CZ c z).2.2.1 x c e rfl
  by_cases hc:c∈X.fs
  ·obtain⟨sl,q⟩:=slot c o (I.Di x c e) hc Fm ho (I.ig x c e);exact⟨_,q,hd⟩
  ·exact⟨o,keep c o (I.Di x c e) hc Fm ho (I.ig x c e),hd⟩
 refine⟨I.ok,I.os,hg,⟨λb o e n hb hx=>?_,λb o e n hb hx=>?_,λb o e n hx=>?_,λb o e hx=>?_,λb xs e=>lq b xs (I.base.lq b xs e),λb o xs e=>jU b o xs (I.base.jU b o xs e),λb ps e=>?_⟩,?_,λx c e=>?_,?_,λx c e=>?_,λp hp=>?_,bP,I.len⟩
 ·exact keep b o (Vi b o e) hb (Pm b o e hx) (I.base.keep b o e n hb hx) (I.base.free b o e n hx)
 ·obtain⟨sl,e1⟩:=I.base.slot b o e n hb hx;obtain⟨KU,e2⟩:=slot b _ (Vi b o e) hb (Pm b o e hx) e1 (I.base.free b o e n hx);exact⟨KU,e2⟩
 ·obtain⟨o',e1⟩:=I.base.there b o e hx;exact free b o' (Pm b o e hx) e1 (I.base.free b o e n hx)
 ·obtain⟨o',e1⟩:=I.base.there b o e hx;exact there b o' (Pm b o e hx) e1
 ·obtain⟨m1,e1⟩:=I.base.lA b ps e;obtain⟨m2,e2⟩:=lA b _ e1;exact⟨m1++m2,by rw[e2,Array.append_assoc]⟩
 ·obtain⟨m,hn,hl⟩:=I.loc;refine⟨m,ns m hn,λi x v e1 e2 e3=>?_⟩;obtain⟨u,r,l⟩:=hl i x v e1 e2 e3;refine⟨u,r,?_⟩;rcases l with l | ⟨k,c,e,z⟩
  ·exact .inl l
  ·exact .inr ⟨k,c,e,cellK x c e _ z⟩
 ·obtain⟨v,z⟩:=I.cell x c e;exact⟨v,cellK x c e v z⟩
 ·obtain⟨m,⟨o,_,_,ho,_⟩,_⟩:=I.loc;exact free _ o (λz=>(CZ _ z).2.1 rfl) ho I.free
 ·obtain⟨v,o,ho,hd⟩:=I.cell x c e;exact free c o (λz=>(CZ c z).2.2.1 x c e rfl) ho (I.ig x c e)
 ·obtain⟨e,n,ne,nf,d⟩:=I.pin p hp;have Fm:p.1∉ch:=λz=>(CZ p.1 z).2.2.2 p hp rfl;exact⟨keep p.1 p.2 ne nf Fm e n,free p.1 p.2 Fm e n,ne,nf,d⟩
theorem Inv.un {t':Nat} (I:Inv X pins σ H s) (u:Un X.fs [] H H' s.heap h') (bP:gq X.prog X.w H' h'):Inv X pins σ H' {s with heap:=h',toks:=t'}:=by
 obtain⟨m,⟨o,es,ep,ho,r⟩,_⟩:=id I.loc;obtain⟨sl,hL⟩:=u.any ho I.free (by simp);exact I.step (g':=s.gens) (d':=s.drawn) (ch:=[]) (λ_ z=>nomatch z) (λb o _ hb _ e n=>u.keep b o e n hb (by simp)) (λb o _ hb _ e n=>u.slot b o e n hb (by simp)) (λb o _ e n=>u.free b o e n (by simp)) (λb o _ e=>u.there b o e (by simp)) u.lq u.jU u.lA (λm' hm=>by
  obtain⟨o',QK,vv,Dj,r'⟩:=hm;rw[ho] at Dj;cases Dj;exact⟨_,QK,vv,hL,r'⟩) bP I.bare
theorem Inv.call {g':Array GenState} {t':Nat} {d':Drawn} {ch:List Addr} (I:Inv X pins σ H s) (u:Un (gL X.stack) ch H H' s.heap h') (bP:gq X.prog X.w H' h') (hg:AllBare g')
  (CZ:∀b∈ch,(b∈X.ex\/X.s₀.heap.objs.size<=b)/\b≠X.env.locals/\(∀x c,X.env.cells.lookup x=some c->c≠b)/\∀p∈X.pn++pins,p.1≠b):
  Inv X pins σ H' {s with heap:=h',gens:=g',drawn:=d',toks:=t'}:=by
 obtain⟨m,⟨o,es,ep,ho,r⟩,_⟩:=id I.loc;obtain⟨sl,hL⟩:=u.any ho I.free λz=>(CZ _ z).2.1 rfl;exact I.step (ch:=ch) CZ (λb o hL hb hc e n=>u.keep b o e n (λz=>(aaB.mp (I.rj b z)).elim hL hb) hc) (λb o _ _ hc e n=>u.any e n hc) (λb o hc e n=>u.free b o e n hc) (λb o hc e=>u.there b o e hc) u.lq u.jU u.lA (λm' hm=>by
  obtain⟨o',QK,vv,Dj,r'⟩:=hm;rw[ho] at Dj;cases Dj;exact⟨_,QK,vv,hL,r'⟩) bP hg
theorem Inv.turned {t':Nat} {it:Addr} (I:Inv X pins σ H s) (k:∀b o,b≠it->s.heap.get? b=some o->h'.get? b=some o) (hn:H it=none) (hL:it≠X.env.locals)
  (h1:it∈X.ex\/X.s₀.heap.objs.size<=it) (h2:∀x c,X.env.cells.lookup x=some c->c≠it) (h3:∀p∈X.pn++pins,p.1≠it):Inv X pins σ H {s with heap:=h',toks:=t'}:=by
 have Vj:∀b u,H b=some u->b≠it:=λb u e z=>by rw[z,hn] at e;cases e
 refine I.step (g':=s.gens) (d':=s.drawn) (ch:=[it]) (λb hb=>?_) (λb o _ _ hc e _=>k b o (λz=>hc (by simp [z])) e) (λb o _ _ hc e _=>⟨o.slots,k b o (λz=>hc (by simp [z])) e⟩) (λ_ _ _ _ n=>n)
  (λb o hc e=>⟨o,k b o (λz=>hc (by simp [z])) e⟩) (λ_ _ e=>e) (λ_ _ _ e=>e) (λb ps e=>⟨#[],by rw[e];simp⟩) (λm hm=>?_) (λb u e=>?_) I.bare
 ·have e:b=it:=by simpa using hb
  subst e;exact⟨h1,hL,h2,h3⟩
 ·obtain⟨o,es,ep,ho,r⟩:=hm;exact⟨o,es,ep,k _ o (Ne.symm hL) ho,r⟩
 ·refine(I.bP b u e).qZ (λc v hc q=>k c v ?_ q) (λ_ q=>q) λ_ _ q=>q;rcases hc with z | z
  ·rw[z];exact Vj b u e
  ·exact Vj c _ z
theorem Inv.tok (I:Inv X pins σ H s) (t:Nat):Inv X pins σ H {s with toks:=t}:=I.un (h':=s.heap) (t':=t) Un.refl I.bP
theorem Inv.kept {t':Nat} (I:Inv X pins σ H s) (k:∀b u,s.heap.get? b=some u->h'.get? b=some u):Inv X pins σ H {s with heap:=h',toks:=t'}:=I.un (Un.kept k) (I.bP.kept k)
theorem Inv.laid {a:Addr} {o:HO} {t':Nat} (I:Inv X pins σ H s) (k:∀b u,s.heap.get? b=some u->h'.get? b=some u) (hp:s.heap.objs.size<=a) (new:cf X.prog X.w (upd H a o) h' a o):
  Inv X pins σ (upd H a o) {s with heap:=h',toks:=t'}:=I.un (Un.laid k hp (I.bP.fresh hp)) (I.bP.laid k hp new)
theorem Inv.write {x e:Addr} {o:HO} {t':Nat} (I:Inv X pins σ H s) (mu:KQ (H x)) (he:e=x\/H e=some (.own x)) (k:∀b u,b≠e->s.heap.get? b=some u->h'.get? b=some u) (JV:∃u,h'.get? e=some u)
  (new:cf X.prog X.w (upd H x o) h' x o):Inv X pins σ (upd H x o) {s with heap:=h',toks:=t'}:=I.un (Un.write mu he k JV) (I.bP.write mu he k JV new)
theorem Inv.jV {Fn:List (Addr×Obj)} (I:Inv X pins σ H s) (h:∀p∈Fn,s.heap.get? p.1=some p.2/\H p.1=none/\p.1≠X.env.locals/\p.1∉X.fs/\∀v,p.2.data≠.cell v):Inv X Fn σ H s:=
 ⟨I.ok,I.os,I.bare,I.base,I.loc,I.cell,I.free,I.ig,λp hp=>(List.mem_append.mp hp).elim (λz=>I.pin p (aa1 _ z)) (h p),I.bP,I.len⟩
theorem tW {N:List Str} (hN:N.Nodup) {i j:Nat} {x:Str} (a:N[i]?=some x) (b:N[j]?=some x):i=j:=by
 obtain⟨h1,e1⟩:=abh.mp a;obtain⟨h2,e2⟩:=abh.mp b;exact(List.getElem_inj hN).mp (e1.trans e2.symm)
theorem qv {M:Model} {A:Around} {E:Value->Shared->Prop} {i:Nat} {x:Str} {v:V} {u:Value} {Q:Unit->Shared->Prop} (I:Inv X pins σ H s) (hN:X.N.Nodup) (hi:X.N[i]?=some x) (hx:Loc X.env.scope x) (r:RelV v u)
  (h:∀s',Inv X pins (σ.set i (some v)) H s'->(∃a,Heap.SameBut a s.heap s'.heap/\(a=X.env.locals\/X.env.cells.lookup x=some a))->Q () s') (hf:X.fn x=true\/X.env.scope.names.lookup x=some .local:=by first | exact .inl rfl | exact .inr rfl | assumption):wpAny M A (storeName X.env x u) Q E s:=by
 obtain⟨m,hn,hl⟩:=id I.loc;have QL:(X.env.scope.kind==.class || (X.env.scope.kind==.module && X.env.locals !=X.env.globals))=false:=by rw[I.ok.kind];rfl
 have Vk:i<σ.length:=by rw[I.len];exact(abh.mp hi).1
 have Di:=I.Di;have tracked:∀{a:Addr} {h':Heap},(∃o,s.heap.get? a=some o/\H a=none)->Heap.SameBut a s.heap h'->gq X.prog X.w H h':=λ{a h'} ha hs b ob e=>by
  obtain⟨_,_,Fo⟩:=ha;refine(I.bP b ob e).qZ (λc w' hc q=>(hs.2 c ?_).trans q) (λ_ q=>q) λ_ _ q=>q;rintro rfl;rcases hc with rfl | hc
  ·rw[Fo] at e;cases e
  ·rw[Fo] at hc;cases hc
 rcases hx with hk | hk
 ·refine wpAny_storeName_local hk hn (λh' Xa hs=>?_) QL;obtain⟨oL,_,_,KW,_⟩:=id hn;refine h _ ⟨I.ok,I.os,I.bare,⟨λb o e n hb hx=>?_,λb o e n hb hx=>?_,I.base.free,λb o e hx=>?_,I.base.lq,I.base.jU,I.base.lA⟩,⟨_,Xa,λj y v' e1 e2 e3=>?_⟩,λy c e=>?_,I.free,I.ig,λp hp=>?_,tracked ⟨oL,KW,I.free⟩ hs,by simpa using I.len⟩ ⟨_,hs,.inl rfl⟩
  ·exact(hs.2 b (aar (aaz (abm e) I.ok.above))).trans (I.base.keep b o e n hb hx)
  ·obtain⟨sl,e1⟩:=I.base.slot b o e n hb hx;exact⟨sl,(hs.2 b (aar (aaz (abm e) I.ok.above))).trans e1⟩
  ·obtain⟨o',e1⟩:=I.base.there b o e hx;exact⟨o',(hs.2 b (aar (aaz (abm e) I.ok.above))).trans e1⟩
  ·by_cases hj:j=i
   ·subst hj;rw[hi] at e1;cases e1;rw[List.getElem?_set_self Vk] at e2;cases e2;exact⟨u,r,.inl ⟨hk,by simp⟩⟩
   ·rw[List.getElem?_set_ne (Ne.symm hj)] at e2;obtain⟨u',r',q⟩:=hl j y v' e1 e2 e3;refine⟨u',r',?_⟩;rcases q with ⟨k,e⟩ | ⟨k,c,e,z⟩
    ·refine .inl ⟨k,?_⟩;have:y≠x:=λe=>hj (tW hN e1 (e▸hi));simp [this,e]
    ·exact .inr ⟨k,c,e,z.sameBut hs (Di y c e)⟩
  ·obtain⟨w',z⟩:=I.cell y c e;exact⟨w',z.sameBut hs (Di y c e)⟩
  ·obtain⟨e,n,ne,nf,d⟩:=I.pin p hp;exact⟨(hs.2 p.1 ne).trans e,n,ne,nf,d⟩
 ·have QM:X.fn x=true:=by
   rcases hf with z | z
   ·exact z
   ·rw[z] at hk;cases hk
  obtain⟨c,hc⟩:=I.ok.has x (.inl hk);obtain⟨w',z⟩:=I.cell x c hc;refine wpAny_storeName_cell I.ok.kind hk hc z (λh' Pn hs=>?_);obtain⟨oc,Vl,QN⟩:=id z;refine h {s with heap:=h'} ⟨I.ok,I.os,I.bare,⟨λb o e n hb hx=>?_,λb o e n hb hx=>?_,I.base.free,λb o e hx=>?_,I.base.lq,I.base.jU,I.base.lA⟩,⟨m,hn.sameBut hs (Ne.symm (Di x c hc)),λj y v' e1 e2 e3=>?_⟩,λy c' e=>?_,I.free,I.ig,λp hp=>?_,tracked ⟨oc,Vl,I.ig x c hc⟩ hs,by simpa using I.len⟩ ⟨c,hs,.inr hc⟩
  ·exact(hs.2 b (aar (aaz (abm e) (I.ok.JX x c QM hc)))).trans (I.base.keep b o e n hb hx)
  ·obtain⟨sl,e1⟩:=I.base.slot b o e n hb hx;exact⟨sl,(hs.2 b (aar (aaz (abm e) (I.ok.JX x c QM hc)))).trans e1⟩
  ·obtain⟨o',e1⟩:=I.base.there b o e hx;exact⟨o',(hs.2 b (aar (aaz (abm e) (I.ok.JX x c QM hc)))).trans e1⟩
  ·by_cases hj:j=i
   ·subst hj;rw[hi] at e1;cases e1;rw[List.getElem?_set_self Vk] at e2;cases e2;exact⟨u,r,.inr ⟨.inl hk,c,hc,Pn⟩⟩
   ·rw[List.getElem?_set_ne (Ne.symm hj)] at e2;obtain⟨u',r',q⟩:=hl j y v' e1 e2 e3;refine⟨u',r',?_⟩;rcases q with q | ⟨k,c',e,z'⟩
    ·exact .inl q
    ·refine .inr ⟨k,c',e,z'.sameBut hs ?_⟩;rintro rfl;exact hj (tW hN e1 (I.ok.inj _ _ _ e hc▸hi))
  ·by_cases KY:c'=c
   ·subst KY;exact⟨_,Pn⟩
   ·obtain⟨w2,z2⟩:=I.cell y c' e;exact⟨w2,z2.sameBut hs KY⟩
  ·obtain⟨e,n,ne,nf,d⟩:=I.pin p hp;refine⟨(hs.2 p.1 ?_).trans e,n,ne,nf,d⟩;intro q;rw[q,Vl] at e;have q':oc=p.2:=aay e;exact d w' (by rw[<-q'];exact QN)
theorem jW {M:Model} {A:Around} {E:Value->Shared->Prop} {i:Nat} {x:Str} {v:V} {u:Value} {Q:Unit->Shared->Prop} (I:Inv X pins σ H s) (hN:X.N.Nodup) (hi:X.N[i]?=some x) (hx:Loc X.env.scope x) (r:RelV v u)
  (h:∀s',Inv X pins (σ.set i (some v)) H s'->Q () s') (hf:X.fn x=true\/X.env.scope.names.lookup x=some .local:=by first | exact .inl rfl | exact .inr rfl | assumption):wpAny M A (storeName X.env x u) Q E s:=
 qv I hN hi hx r (λs' I' _=>h s' I') hf
theorem Inv.KZ {s':Shared} {ch:List Addr} (I:Inv X pins σ H s) (ho:s'.os=s.os) (u:Un (gL X.stack) ch H H' s.heap s'.heap) (bP:gq X.prog X.w H' s'.heap) (hg:AllBare s'.gens)
  (CZ:∀b∈ch,(b∈X.ex\/X.s₀.heap.objs.size<=b)/\b≠X.env.locals/\(∀x c,X.env.cells.lookup x=some c->c≠b)/\∀p∈X.pn++pins,p.1≠b):Inv X pins σ H' s':=by
 obtain⟨h',g',d',t',o'⟩:=s';have e:o'=s.os:=ho;subst e;exact I.call (g':=g') (t':=t') (d':=d') u bP hg CZ
end
@[inline]abbrev XK:=Value->Option Addr->Hp->Prop
@[inline]abbrev St:=List (Option V)
@[inline]abbrev VK:=V->Hp->Prop
@[inline]abbrev TE:=St->Hp->VK->Prop
@[inline]abbrev TT:=St->Hp->(Bool->Hp->Prop)->Prop
@[inline]abbrev TA:=St->Hp->(List V->Hp->Prop)->Prop
structure Ends where
 nx:St->Hp->Prop
 rt:VK
 bk:St->Hp->Prop:=λ_ _=>False
 ct:St->Hp->Prop:=λ_ _=>False
@[inline]abbrev TS:=Ends->St->Hp->Prop
abbrev EP (X:Cx) (pins:List (Addr×Obj)) (σ:St) (Q:VK) (u:Value) (s':Shared):Prop:=∃v H',Inv X pins σ H' s'/\RelV v u/\Q v H'
abbrev TP (X:Cx) (pins:List (Addr×Obj)) (σ:St) (Q:Bool->Hp->Prop) (b:Bool) (s':Shared):Prop:=∃H',Inv X pins σ H' s'/\Q b H'
abbrev AP (X:Cx) (pins:List (Addr×Obj)) (σ:St) (Q:List V->Hp->Prop) (us:List Value) (s':Shared):Prop:=∃vs H',Inv X pins σ H' s'/\bq vs us/\Q vs H'
abbrev SP (X:Cx) (pins:List (Addr×Obj)) (D:Ends) (f:Flow) (s':Shared):Prop:=
 match f with
 | .next=>∃σ' H',Inv X pins σ' H' s'/\D.nx σ' H'
 | .brk=>∃σ' H',Inv X pins σ' H' s'/\D.bk σ' H'
 | .cont=>∃σ' H',Inv X pins σ' H' s'/\D.ct σ' H'
 | .ret u=>∃v σ' H',Inv X pins σ' H' s'/\RelV v u/\D.rt v H'
abbrev PE (X:Cx) (e:Expr) (t:TE):Prop:=
 ∀(pins:List (Addr×Obj)) (s:Shared) (σ:St) (H:Hp) (Q:VK),Inv X pins σ H s->t σ H Q->wpAny (model X.prog X.w) X.A (eval e X.env) (EP X pins σ Q) X.xe s
abbrev PT (X:Cx) (e:Expr) (t:TT):Prop:=
 ∀(pins:List (Addr×Obj)) (s:Shared) (σ:St) (H:Hp) (Q:Bool->Hp->Prop),Inv X pins σ H s->t σ H Q->wpAny (model X.prog X.w) X.A (isTrue e X.env (eval e X.env)) (TP X pins σ Q) X.xe s
abbrev PW (X:Cx) (e:Expr) (t:TT):Prop:=
 ∀(whole:Sem Value) (pins:List (Addr×Obj)) (s:Shared) (σ:St) (H:Hp) (Q:Bool->Hp->Prop),Inv X pins σ H s->t σ H Q->wpAny (model X.prog X.w) X.A (isTrue e X.env whole) (TP X pins σ Q) X.xe s
theorem PW.pt {X:Cx} {e:Expr} {t:TT} (h:PW X e t):PT X e t:=h _
abbrev PA (X:Cx) (es:List Expr) (t:TA):Prop:=
 ∀(pos:Pos) (pins:List (Addr×Obj)) (s:Shared) (σ:St) (H:Hp) (Q:List V->Hp->Prop),Inv X pins σ H s->t σ H Q->wpAny (model X.prog X.w) X.A (spliced (backTo pos (starEach es X.env))) (AP X pins σ Q) X.xe s
abbrev PS (X:Cx) (st:Stmt) (t:TS):Prop:=
 ∀(pins:List (Addr×Obj)) (s:Shared) (σ:St) (H:Hp) (D:Ends),Inv X pins σ H s->t D σ H->wpAny (model X.prog X.w) X.A (exec st X.env) (SP X pins D) X.xe s
abbrev vx (X:Cx) (st:List Stmt) (t:TS):Prop:=
 ∀(pins:List (Addr×Obj)) (s:Shared) (σ:St) (H:Hp) (D:Ends),Inv X pins σ H s->t D σ H->wpAny (model X.prog X.w) X.A (execs st X.env) (SP X pins D) X.xe s
theorem cK {α:Type} {t:Sem α} {Q Q':α->Shared->Prop} {M:Model} {A:Around} {E:Value->Shared->Prop} {s:Shared} (h:wpAny M A t Q E s) (hQ:∀a s,Q a s->Q' a s):wpAny M A t Q' E s:=wpAny_mono h hQ λ_ _ x=>x
section
variable {X : Cx}
abbrev QO (o:Option (Option V)) (k:V->Prop):Prop:=match o with | some (some v)=>k v | _=>False
abbrev dr (x:V) (k:Addr->Prop):Prop:=match x with | .ref a=>k a | _=>False
abbrev fC (x:V) (k:Int->Prop):Prop:=match x with | .int a=>k a | _=>False
abbrev JY (x:V) (k:Bool->Prop):Prop:=match x with | .bl a=>k a | _=>False
abbrev tL (x:V) (k:Str->Prop):Prop:=match x with | .str a=>k a | _=>False
abbrev eS (vs:List V) (k:V->Prop):Prop:=match vs with | [a]=>k a | _=>False
abbrev dH (vs:List V) (k:V->V->Prop):Prop:=match vs with | [a,b]=>k a b | _=>False
abbrev ij (vs:List V) (k:V->V->V->Prop):Prop:=match vs with | [a,b,c]=>k a b c | _=>False
abbrev iX (vs:List V) (k:V->V->V->V->Prop):Prop:=match vs with | [a,b,c,d]=>k a b c d | _=>False
theorem rdV_c {v:V} {k:V->Prop}:QO (some (some v)) k=k v:=rfl
theorem rdR_c {a:Addr} {k:Addr->Prop}:dr (.ref a) k=k a:=rfl
theorem rdI_c {a:Int} {k:Int->Prop}:fC (.int a) k=k a:=rfl
theorem rdB_c {a:Bool} {k:Bool->Prop}:JY (.bl a) k=k a:=rfl
theorem rdS_c {a:Str} {k:Str->Prop}:tL (.str a) k=k a:=rfl
theorem rdL1_c {a:V} {k:V->Prop}:eS [a] k=k a:=rfl
theorem rdL2_c {a b:V} {k:V->V->Prop}:dH [a,b] k=k a b:=rfl
theorem rdL3_c {a b c:V} {k:V->V->V->Prop}:ij [a,b,c] k=k a b c:=rfl
theorem rdL4_c {a b c d:V} {k:V->V->V->V->Prop}:iX [a,b,c,d] k=k a b c d:=rfl
theorem rdV_eq {o:Option (Option V)} {k:V->Prop}:QO o k=∃v,o=some (some v)/\k v:=propext ⟨λh=>by rcases o with _ | _ | v;exact h.elim;exact h.elim;exact⟨v,rfl,h⟩,fun⟨v,e,h⟩=>by subst e;exact h⟩
theorem rdR_eq {x:V} {k:Addr->Prop}:dr x k=∃a,x=.ref a/\k a:=propext ⟨λh=>by cases x <;>first | exact⟨_,rfl,h⟩ | exact h.elim,fun⟨v,e,h⟩=>by subst e;exact h⟩
theorem rdI_eq {x:V} {k:Int->Prop}:fC x k=∃a,x=.int a/\k a:=propext ⟨λh=>by cases x <;>first | exact⟨_,rfl,h⟩ | exact h.elim,fun⟨v,e,h⟩=>by subst e;exact h⟩
theorem rdB_eq {x:V} {k:Bool->Prop}:JY x k=∃a,x=.bl a/\k a:=propext ⟨λh=>by cases x <;>first | exact⟨_,rfl,h⟩ | exact h.elim,fun⟨v,e,h⟩=>by subst e;exact h⟩
theorem rdS_eq {x:V} {k:Str->Prop}:tL x k=∃a,x=.str a/\k a:=propext ⟨λh=>by cases x <;>first | exact⟨_,rfl,h⟩ | exact h.elim,fun⟨v,e,h⟩=>by subst e;exact h⟩
theorem rdL1_eq {vs:List V} {k:V->Prop}:eS vs k=∃a,vs=[a]/\k a:=propext ⟨λh=>by rcases vs with _ | ⟨a,_ | ⟨b,l⟩⟩ <;>first | exact⟨_,rfl,h⟩ | exact h.elim,fun⟨_,e,h⟩=>by subst e;exact h⟩
theorem rdL2_eq {vs:List V} {k:V->V->Prop}:dH vs k=∃a b,vs=[a,b]/\k a b:=propext ⟨λh=>by rcases vs with _ | ⟨a,_ | ⟨b,_ | ⟨c,l⟩⟩⟩ <;>first | exact⟨_,_,rfl,h⟩ | exact h.elim,fun⟨_,_,e,h⟩=>by subst e;exact h⟩
theorem rdL3_eq {vs:List V} {k:V->V->V->Prop}:ij vs k=∃a b c,vs=[a,b,c]/\k a b c:=propext ⟨λh=>by rcases vs with _ | ⟨a,_ | ⟨b,_ | ⟨c,_ | ⟨d,l⟩⟩⟩⟩ <;>first | exact⟨_,_,_,rfl,h⟩ | exact h.elim,fun⟨_,_,_,e,h⟩=>by subst e;exact h⟩
theorem rdL4_eq {vs:List V} {k:V->V->V->V->Prop}:iX vs k=∃a b c d,vs=[a,b,c,d]/\k a b c d:=propext ⟨λh=>by rcases vs with _ | ⟨a,_ | ⟨b,_ | ⟨c,_ | ⟨d,_ | ⟨e,l⟩⟩⟩⟩⟩ <;>first | exact⟨_,_,_,_,rfl,h⟩ | exact h.elim,fun⟨_,_,_,_,e,h⟩=>by subst e;exact h⟩
abbrev tVar (i:Nat):TE:=λσ H Q=>QO σ[i]? λv=>Q v H
abbrev tC (v:V):TE:=λ_ H Q=>Q v H
theorem G7 {i:Nat} {x:Str} {pos:Pos} (hN:X.N[i]?=some x) (hv:QF X.env.scope x) (hd:(x==("__debug__":Str))=false:=by decide) (yX:(x==("__classdict__":Str))=false:=by decide):PE X (.Name x pos) (tVar i):=by
 intro pins s σ H Q I h;obtain⟨v,e,h⟩:=rdV_eq.mp h;obtain⟨m,hn,hl⟩:=I.loc;obtain⟨u,r,l⟩:=hl i x v hN e hv;have fin:EP X pins σ Q u s:=⟨v,H,I,r,h⟩
 rcases l with ⟨hk,hm⟩ | ⟨hk,c,hc,Fp⟩
 ·exact wpAny_Name (wpAny_loadName_local I.ok.kind hk hn hm fin) hd
 ·rcases hk with hk | hk
  ·exact wpAny_Name (wpAny_loadName_cell I.ok.kind hk hc Fp fin) hd
  ·exact wpAny_Name (wpAny_loadName_free I.ok.kind hk hc Fp fin yX) hd
theorem ae {i j pos}:PE X (.Constant (.int i) j pos) (tC (.int i)):=λ_ _ _ H _ I h=>wpAny_Constant_int ⟨.int i,H,I.tok _,⟨_,rfl⟩,h⟩
theorem ik {b j pos}:PE X (.Constant (.bool b) j pos) (tC (.bl b)):=λ_ _ _ H _ I h=>Constant_bool ⟨.bl b,H,I,rfl,h⟩
theorem vy {j pos}:PE X (.Constant .none j pos) (tC .cU):=λ_ _ _ H _ I h=>Constant_none ⟨.cU,H,I,rfl,h⟩
theorem aZ {x j pos}:PE X (.Constant (.str x) j pos) (tC (.str x)):=λ_ _ _ H _ I h=>Calls.Constant_str ⟨.str x,H,I.tok _,⟨_,rfl⟩,h⟩
abbrev Gl (X:Cx) (x:Str):Prop:=X.env.kindOf x=some .globalImplicit
theorem nG {E:Value->Shared->Prop} {pins:List (Addr×Obj)} {s:Shared} {σ:St} {H:Hp} {x:Str} {u:Value} {pos:Pos} {Q:Value->Shared->Prop} (I:Inv X pins σ H s) (hg:Gl X x) (hm:X.mg x=some u) (h:Q u s)
  (hd:(x==("__debug__":Str))=false:=by decide):wpAny (model X.prog X.w) X.A (eval (.Name x pos) X.env) Q E s:=
 Calls.Name_function_global I.ok.kind hg (Calls.loadGlobal_global (by rw[I.ok.glob];exact I.mod.glob.keeps I.bk) hm h) hd
theorem gk {E:Value->Shared->Prop} {pins:List (Addr×Obj)} {s:Shared} {σ:St} {H:Hp} {x:Str} {u:Value} {pos:Pos} {Q:Value->Shared->Prop} (I:Inv X pins σ H s) (hg:Gl X x) (hm:X.mg x=none) (hv:bootBuiltins x=some u) (h:Q u s)
  (hn:x≠"__name__":=by decide) (hd:(x==("__debug__":Str))=false:=by decide):wpAny (model X.prog X.w) X.A (eval (.Name x pos) X.env) Q E s:=by
 obtain⟨mb,h1,h2⟩:=I.mod.blt;exact Calls.Name_function_global I.ok.kind hg (Calls.loadGlobal_builtin (by rw[I.ok.glob];exact I.mod.glob.keeps I.bk) hm (by rw[I.ok.blt];exact h1.keeps I.bk) ((h2 x hn).trans hv) h) hd
theorem Dk {x:Str} {v:V} {u:Value} {pos:Pos} (hg:Gl X x) (hm:X.mg x=some u) (r:RelV v u) (hd:(x==("__debug__":Str))=false:=by decide):PE X (.Name x pos) (tC v):=
 λ_ _ _ H _ I h=>nG I hg hm ⟨v,H,I,r,h⟩ hd
theorem dC {x:Str} {v:V} {u:Value} {pos:Pos} (hg:Gl X x) (hm:X.mg x=none) (hv:bootBuiltins x=some u) (r:RelV v u) (hn:x≠"__name__":=by decide) (hd:(x==("__debug__":Str))=false:=by decide):PE X (.Name x pos) (tC v):=
 λ_ _ _ H _ I h=>gk I hg hm hv ⟨v,H,I,r,h⟩ hn hd
abbrev Xb (ta tb:TE) (k:Int->Int->Hp->Prop):St->Hp->Prop:=λσ H=>ta σ H λx H1=>tb σ H1 λy H2=>∃i j,x=.int i/\y=.int j/\k i j H2
variable {a b : Expr} {ta tb : TE} {pos : Pos}
abbrev PC (X:Cx) (op:CmpOp) (a b:Expr) (t:TE):Prop:=
 ∀(pins:List (Addr×Obj)) (s:Shared) (σ:St) (H:Hp) (Q:VK),Inv X pins σ H s->t σ H Q->
  wpAny (model X.prog X.w) X.A (eval a X.env) (λv s₁=>wpAny (model X.prog X.w) X.A (eval b X.env) (λu s₂=>wpAny (model X.prog X.w) X.A (compareOp op v u) (EP X pins σ Q) X.xe s₂) X.xe s₁) X.xe s
theorem Ar (b:Expr) {op:CmpOp} (h:op≠.In) (h2:op≠.NotIn):behindInMarks op b=false:=by
 have e1:(op==CmpOp.In)=false:=by cases op <;>first | rfl | exact absurd rfl h
 have e2:(op==CmpOp.NotIn)=false:=by cases op <;>first | rfl | exact absurd rfl h2
 cases b <;>simp [behindInMarks,e1,e2]
abbrev yY (p:Int->Int->Bool) (ta tb:TE):TE:=λσ H Q=>Xb ta tb (λi j H2=>Q (.bl (p i j)) H2) σ H
@[inline]abbrev tLt:TE->TE->TE:=yY λi j=>decide (i<j)
@[inline]abbrev tLe:TE->TE->TE:=yY λi j=>decide (i<=j)
@[inline]abbrev tGt:TE->TE->TE:=yY λi j=>decide (j<i)
@[inline]abbrev tGe:TE->TE->TE:=yY λi j=>decide (j<=i)
@[inline]abbrev Xc:TE->TE->TE:=yY λi j=>decide (i=j)
@[inline]abbrev Xd:TE->TE->TE:=yY λi j=>!decide (i=j)
abbrev tB (t:TE):TT:=λσ H Q=>t σ H λx H1=>JY x λc=>Q c H1
theorem As {op:CmpOp} {t:TE} (h:PC X op a b t) (h1:behindInMarks op b=false:=by first | exact Ar _ (by decide) (by decide) | rfl):PT X (.Compare a [op] [b] pos) (tB t):=by
 intro pins s σ H Q I hw;refine wpAny_isTrue_Compare1 (cK (h pins s σ H _ I hw) λv s1 h1=>cK h1 λu s2 h2=>cK h2 λc s3 dB=>?_) h1;obtain⟨x,H1,I1,r1,q1⟩:=dB;obtain⟨d,rfl,q⟩:=rdB_eq.mp q1;cases r1;exact wpAny_truthy_bool ⟨H1,I1,q⟩
theorem gM {e:Expr} {t:TE} (h:PE X e t) (he:∀whole,isTrue e X.env whole=(do let v <-whole;standAt e.pos;holding [v] (truthy v)):=by intro _;rfl):PT X e (tB t):=by
 intro pins s σ H Q I hw;refine isTrue_plain (cK (h pins s σ H _ I hw) λv s1 dB=>?_) (he _);obtain⟨x,H1,I1,r1,q1⟩:=dB;obtain⟨d,rfl,q⟩:=rdB_eq.mp q1;cases r1;exact wpAny_truthy_bool ⟨H1,I1,q⟩
variable {tA Po : TT} {rest : List Expr}
abbrev tAnd (t u:TT):TT:=λσ H Q=>t σ H λc H1=>if c=true then u σ H1 Q else Q false H1
abbrev tOr (t u:TT):TT:=λσ H Q=>t σ H λc H1=>if c=true then Q true H1 else u σ H1 Q
abbrev tNot (t:TT):TT:=λσ H Q=>t σ H λc H1=>Q (!c) H1
theorem pw_and1 (ha:PT X a tA):PW X (.BoolOp .And [a] pos) tA:=by
 intro wh pins s σ H Q I h;refine isTrue_and (cK (ha pins s σ H Q I h) λc s1 e=>?_);cases c with
 | true=>exact isTrue_and_nil e
 | false=>exact e
theorem pw_or1 (ha:PT X a tA):PW X (.BoolOp .Or [a] pos) tA:=by
 intro wh pins s σ H Q I h;refine isTrue_or (cK (ha pins s σ H Q I h) λc s1 e=>?_);cases c with
 | false=>exact isTrue_or_nil e
 | true=>exact e
theorem pw_and (ha:PT X a tA) (hb:PW X (.BoolOp .And (b::rest) pos) Po):PW X (.BoolOp .And (a::b::rest) pos) (tAnd tA Po):=by
 intro wh pins s σ H Q I h;refine isTrue_and (cK (ha pins s σ H _ I h) λc s1 ⟨H1,I1,q1⟩=>?_);cases c with
 | true=>exact hb wh pins s1 σ H1 Q I1 q1
 | false=>exact⟨H1,I1,q1⟩
theorem pw_or (ha:PT X a tA) (hb:PW X (.BoolOp .Or (b::rest) pos) Po):PW X (.BoolOp .Or (a::b::rest) pos) (tOr tA Po):=by
 intro wh pins s σ H Q I h;refine isTrue_or (cK (ha pins s σ H _ I h) λc s1 ⟨H1,I1,q1⟩=>?_);cases c with
 | true=>exact⟨H1,I1,q1⟩
 | false=>exact hb wh pins s1 σ H1 Q I1 q1
theorem vz (ha:PT X a tA):PT X (.UnaryOp .Not a pos) (tNot tA):=by
 intro pins s σ H Q I h;exact isTrue_not (ha pins s σ H (λc H1=>Q (!c) H1) I h)
abbrev tAndV (ta tb:TE):TE:=λσ H Q=>ta σ H λx H1=>∃c,x=.bl c/\if c=true then tb σ H1 Q else Q (.bl false) H1
abbrev tOrV (ta tb:TE):TE:=λσ H Q=>ta σ H λx H1=>∃c,x=.bl c/\if c=true then Q (.bl true) H1 else tb σ H1 Q
abbrev tNotV (ta:TE):TE:=λσ H Q=>ta σ H λx H1=>∃c,x=.bl c/\Q (.bl (!c)) H1
theorem rA {op} {t:TE} (h:PE X a t):PE X (.BoolOp op [a] pos) t:=λpins s σ H Q I hw=>BoolOp_one (h pins s σ H Q I hw)
theorem og (ha:PE X a ta) (hb:PE X (.BoolOp .And (b::rest) pos) tb):PE X (.BoolOp .And (a::b::rest) pos) (tAndV ta tb):=by
 intro pins s σ H Q I h;refine BoolOp_and (cK (ha pins s σ H _ I h) λv s1 dB=>?_);obtain⟨x,H1,I1,r1,q1⟩:=dB;obtain⟨c,rfl,q1⟩:=q1;cases r1;refine wpAny_truthy_bool ?_;cases c with
 | true=>exact hb pins s1 σ H1 Q I1 q1
 | false=>exact⟨.bl false,H1,I1,rfl,q1⟩
theorem Au (ha:PE X a ta):PE X (.UnaryOp .Not a pos) (tNotV ta):=by
 intro pins s σ H Q I h;refine UnaryOp_ (cK (ha pins s σ H _ I h) λv s1 dB=>?_);obtain⟨x,H1,I1,r1,q1⟩:=dB;obtain⟨c,rfl,q1⟩:=q1;cases r1;exact not_of (wpAny_truthy_bool ⟨.bl (!c),H1,I1,rfl,q1⟩)
abbrev tIf (t:TT) (ta tb:TE):TE:=λσ H Q=>t σ H λc H1=>if c=true then ta σ H1 Q else tb σ H1 Q
theorem jX {c:Expr} (hc:PT X c tA) (ha:PE X a ta) (hb:PE X b tb):PE X (.IfExp c a b pos) (tIf tA ta tb):=by
 intro pins s σ H Q I h;refine wpAny_IfExp (cK (hc pins s σ H _ I h) λd s1 ⟨H1,I1,q1⟩=>?_);cases d with
 | true=>exact ha pins s1 σ H1 Q I1 q1
 | false=>exact hb pins s1 σ H1 Q I1 q1
end
abbrev bC (K:aba) (H:Hp) (a:Addr) (xs:List V):Prop:=
 Rd H a (.lst xs)\/
  ∃(o:Obj) (ba:Array Value) (n:Nat),K.lookup a=some o/\o.cls=.type "list"/\o.dict=none/\o.data=.seq ba n/\ba.size<=sizeLine/\bq xs ba.toList
abbrev iP (K:aba) (H:Hp) (a:Addr) (xs:List V):Prop:=
 Rd H a (.tup xs)\/
  ∃(o:Obj) (ba:Array Value) (n:Nat),K.lookup a=some o/\o.cls=.type "tuple"/\o.data=.seq ba n/\ba.size<=sizeLine/\bq xs ba.toList
abbrev QP:Value->Option V
 | .none=>some .cU
 | .bool b=>some (.bl b)
 | .int i _=>some (.int i)
 | .str x _=>some (.str x)
 | .bytes b _=>some (.Ad b)
 | .float b _=>some (.Fk b)
 | .ref a=>some (.ref a)
 | .type n=>some (.ty n)
 | _=>none
theorem RelV.abs {x:V} {u:Value} (r:RelV x u):QP u=some x:=by
 cases x with
 | cU=>cases r;rfl
 | bl _=>cases r;rfl
 | int _=>obtain⟨t,rfl⟩:=r;rfl
 | str _=>obtain⟨t,rfl⟩:=r;rfl
 | Ad _=>obtain⟨t,rfl⟩:=r;rfl
 | Fk _=>obtain⟨t,rfl⟩:=r;rfl
 | ref _=>cases r;rfl
 | ty _=>cases r;rfl
theorem RelV.inj {x y:V} {u:Value} (r:RelV x u) (q:RelV y u):x=y:=aay (r.abs.symm.trans q.abs)
theorem bq.inj:∀{xs ys:List V} {us:List Value},bq xs us->bq ys us->xs=ys
 | _,_,_,.nil,.nil=>rfl
 | _,_,_,.cons r t,.cons r' t'=>by rw[r.inj r',bq.inj t t']
section
variable {X : Cx} {pins : List (Addr × Obj)} {σ : St} {H : Hp} {s : Shared} {a : Addr} {xs ys : List V}
theorem bC.of {K:aba} (h:H a=some (.lst xs)):bC K H a xs:=.inl (.inl h)
theorem iP.of {K:aba} (h:H a=some (.tup xs)):iP K H a xs:=.inl (.inl h)
theorem Inv.list (I:Inv X pins σ H s) (h:bC X.K H a xs):∃ba:List Value,bq xs ba/\PlainL s.heap a ba.toArray/\xs.length<=sizeLine:=by
 rcases h with h | ⟨o,ba,n,hk,hc,hd,hs,hz,r⟩
 ·obtain⟨z,ba,n,r,e⟩:=h.ok I.bP;exact⟨ba,r,⟨_,n,e,rfl,rfl,rfl⟩,z⟩
 ·refine⟨ba.toList,r,⟨o,n,I.ib a o hk,hc,hd,by simpa using hs⟩,?_⟩;have e:=r.length;simp only[Array.length_toList] at e;lia
theorem Inv.tuple (I:Inv X pins σ H s) (h:iP X.K H a xs):∃ba:List Value,bq xs ba/\IsTup s.heap a ba.toArray/\xs.length<=sizeLine:=by
 rcases h with h | ⟨o,ba,n,hk,hc,hs,hz,r⟩
 ·obtain⟨z,ba,r,p⟩:=h.ok I.bP;exact⟨ba,r,p,z⟩
 ·refine⟨ba.toList,r,⟨o,I.ib a o hk,hc,n,by simpa using hs⟩,?_⟩;have e:=r.length;simp only[Array.length_toList] at e;lia
theorem Inv.tX (I:Inv X pins σ H s) (h:bC X.K H a xs) (h':bC X.K H a ys):xs=ys:=by
 obtain⟨ba,r,⟨o,n,e,_,_,d⟩,_⟩:=I.list h;obtain⟨its',r',⟨o',n',e',_,_,d'⟩,_⟩:=I.list h';rw[e] at e';cases e';rw[d] at d'
 injection d' with d1 _
 have:ba=its':=by simpa using congrArg Array.toList d1
 subst this;exact r.inj r'
end
@[inline]abbrev Cx.lC (X:Cx) (E:Value->Shared->Prop):Cx:={X with xe:=E}
@[inline]abbrev Cx.Pp (X:Cx):Cx:=X.lC λ_ _=>False
theorem Cx.Ok.lC {X:Cx} (ok:X.Ok) (E:Value->Shared->Prop):(X.lC E).Ok:=
 ⟨ok.mod,ok.kind,ok.glob,ok.blt,ok.above,ok.inj,ok.has,ok.JX,ok.hd,ok.frames,ok.KS,ok.QG,ok.bs,ok.CY,ok.yW,ok.Aq,ok.lB,ok.Fl⟩
theorem Cx.Ok.gN {X:Cx} {E:Value->Shared->Prop} (ok:(X.lC E).Ok):X.Ok:=
 ⟨ok.mod,ok.kind,ok.glob,ok.blt,ok.above,ok.inj,ok.has,ok.JX,ok.hd,ok.frames,ok.KS,ok.QG,ok.bs,ok.CY,ok.yW,ok.Aq,ok.lB,ok.Fl⟩
section
variable {X : Cx} {pins : List (Addr × Obj)} {σ : St} {H : Hp} {s : Shared} {E : Value -> Shared -> Prop}
theorem Inv.lC (I:Inv X pins σ H s) (E:Value->Shared->Prop):Inv (X.lC E) pins σ H s:=⟨I.ok.lC E,I.os,I.bare,I.base,I.loc,I.cell,I.free,I.ig,I.pin,I.bP,I.len⟩
theorem Inv.gN (I:Inv (X.lC E) pins σ H s):Inv X pins σ H s:=⟨I.ok.gN,I.os,I.bare,I.base,I.loc,I.cell,I.free,I.ig,I.pin,I.bP,I.len⟩
theorem SP.gN {D:Ends} {f:Flow} {s':Shared} (h:SP (X.lC E) pins D f s'):SP X pins D f s':=by
 cases f with
 | next=>obtain⟨σ',H',I,q⟩:=h;exact⟨σ',H',I.gN,q⟩
 | brk=>obtain⟨σ',H',I,q⟩:=h;exact⟨σ',H',I.gN,q⟩
 | cont=>obtain⟨σ',H',I,q⟩:=h;exact⟨σ',H',I.gN,q⟩
 | ret u=>obtain⟨v,σ',H',I,r,q⟩:=h;exact⟨v,σ',H',I.gN,r,q⟩
theorem vx.Pp {st:List Stmt} {t:TS} (h:vx X.Pp st t):vx X st t:=λpins s σ H D I hw=>
 wpAny_mono (h pins s σ H D (I.lC _) hw) (λ_ _ q=>q.gN) λ_ _ z=>False.elim z
end
section
variable {X : Cx} {st : Stmt} {rest : List Stmt} {t u : TS} {e : Expr} {te : TE} {pos : Pos}
abbrev tNext:TS:=λD σ H=>D.nx σ H
abbrev tSeq (t u:TS):TS:=λD σ H=>t {D with nx:=u D} σ H
theorem aW:vx X [] tNext:=λ_ _ σ H _ I h=>wpAny_execs_nil ⟨σ,H,I,h⟩
theorem ag (h1:PS X st t) (h2:vx X rest u):vx X (st::rest) (tSeq t u):=by
 intro pins s σ H D I h;refine wpAny_execs_cons (cK (h1 pins s σ H {D with nx:=u D} I h) λf s1 q=>?_);cases f with
 | next=>
  obtain⟨σ',H',I',q⟩:=q;exact h2 pins s1 σ' H' D I' q
 | ret v=>exact q
 | brk=>exact q
 | cont=>exact q
theorem aj (h1:PS X st t):vx X [st] t:=by
 intro pins s σ H D I h;refine wpAny_execs_cons (cK (h1 pins s σ H D I h) λf s1 q=>?_);cases f with
 | next=>exact wpAny_execs_nil q
 | ret v=>exact q
 | brk=>exact q
 | cont=>exact q
abbrev G8:TS:=λD σ H=>D.bk σ H
theorem tY:PS X (.Break pos) G8:=λ_ _ σ H _ I h=>wpAny_Break ⟨σ,H,I,h⟩
theorem Inv.quiet {pins:List (Addr×Obj)} {σ:St} {H:Hp} {s:Shared} (I:Inv X pins σ H s):interactive X.env=false:=by simp [interactive,I.ok.kind]
abbrev tDrop (te:TE):TS:=λD σ H=>te σ H λ_ H1=>D.nx σ H1
theorem bw (he:PE X e te) (hs:swapsWith e none pos.line X.env=pure false:=by rfl):PS X (.Expr e pos) (tDrop te):=by
 intro pins s σ H D I h;exact wpAny_Expr_any (cK (he pins s σ H _ I h) λv s1 ⟨x,H1,I1,r1,q1⟩=>⟨σ,H1,I1,q1⟩) I.quiet hs
abbrev tRet (te:TE):TS:=λD σ H=>te σ H D.rt
theorem aR (he:PE X e te):PS X (.Return (some e) pos) (tRet te):=by
 intro pins s σ H D I h;exact wpAny_Return_some (cK (he pins s σ H _ I h) λv s1 ⟨x,H1,I1,r1,q1⟩=>⟨x,σ,H1,I1,r1,q1⟩)
abbrev tRetN:TS:=λD _ H=>D.rt .cU H
abbrev tIfS (c:TT) (t u:TS):TS:=λD σ H=>c σ H λb H1=>if b=true then t D σ H1 else u D σ H1
theorem bc {c:Expr} {a b:List Stmt} {tc:TT} (hc:PT X c tc) (ha:vx X a t) (hb:vx X b u):PS X (.If c a b pos) (tIfS tc t u):=by
 intro pins s σ H D I h;refine wpAny_If (cK (hc pins s σ H _ I h) λd s1 ⟨H1,I1,q1⟩=>?_);cases d with
 | true=>exact ha pins s1 σ H1 D I1 q1
 | false=>exact hb pins s1 σ H1 D I1 q1
end
@[inline]abbrev TG:=V->St->Hp->(St->Hp->Prop)->Prop
@[inline]abbrev Fq:=List V->St->Hp->(St->Hp->Prop)->Prop
abbrev PG (X:Cx) (target:Expr) (t:TG):Prop:=
 ∀(pins:List (Addr×Obj)) (s:Shared) (σ:St) (H:Hp) (v:V) (u:Value) (Q:St->Hp->Prop),Inv X pins σ H s->RelV v u->t v σ H Q->
  wpAny (model X.prog X.w) X.A (assign target X.env u) (λ_ s'=>∃σ' H',Inv X pins σ' H' s'/\Q σ' H') X.xe s
abbrev JZ (X:Cx) (ts:List Expr) (t:Fq):Prop:=
 ∀(pins:List (Addr×Obj)) (s:Shared) (σ:St) (H:Hp) (vs:List V) (us:List Value) (Q:St->Hp->Prop),Inv X pins σ H s->bq vs us->t vs σ H Q->
  wpAny (model X.prog X.w) X.A (assignInOrder ((assignEach ts X.env).map (·.2)) us) (λ_ s'=>∃σ' H',Inv X pins σ' H' s'/\Q σ' H') X.xe s
@[inline]abbrev G9:=V->V->V->Hp->(Hp->Prop)->Prop
abbrev K0 (X:Cx) (t:G9):Prop:=
 ∀(pins:List (Addr×Obj)) (s:Shared) (σ:St) (H:Hp) (o i v:V) (ov iv u:Value) (Q:Hp->Prop),Inv X pins σ H s->RelV o ov->RelV i iv->RelV v u->t o i v H Q->
  wpAny (model X.prog X.w) X.A (setItem ov iv u) (λ_ s'=>∃H',Inv X pins σ H' s'/\Q H') X.xe s
@[inline]abbrev TIp:=V->V->Hp->VK->Prop
section
variable {X : Cx} {pos : Pos}
abbrev gName (i:Nat):TG:=λv σ H Q=>Q (σ.set i (some v)) H
theorem aV {i:Nat} {x:Str} (hN:X.N.Nodup) (hi:X.N[i]?=some x) (hx:Loc X.env.scope x) (hf:X.fn x=true\/X.env.scope.names.lookup x=some .local:=by first | exact .inl rfl | exact .inr rfl | assumption):PG X (.Name x pos) (gName i):=by
 intro pins s σ H v u Q I r h;exact wpAny_assign_Name (jW I hN hi hx r (λs' I'=>⟨_,H,I',h⟩) hf)
abbrev gNil:Fq:=λvs σ H Q=>vs=[]/\Q σ H
abbrev gCons (t:TG) (u:Fq):Fq:=λvs σ H Q=>∃v r,vs=v::r/\t v σ H λσ' H'=>u r σ' H' Q
theorem eO:JZ X [] gNil:=by
 intro pins s σ H vs us Q I r h;obtain⟨e,h⟩:=h;subst e;cases r;exact assignInOrder_nil ⟨σ,H,I,h⟩
theorem bH {e:Expr} {es:List Expr} {t:TG} {u:Fq} (h1:PG X e t) (h2:JZ X es u)
  (hs:(assignEach (e::es) X.env).map (·.2)=assign e X.env::(assignEach es X.env).map (·.2):=by rfl):JZ X (e::es) (gCons t u):=by
 intro pins s σ H vs us Q I r h;obtain⟨v,vr,e1,h⟩:=h;subst e1;cases r with
 | cons r rr=>
  rw[hs];refine assignInOrder_cons (cK (h1 pins s σ H _ _ _ I r h) λ_ s1 ⟨σ1,H1,I1,q1⟩=>?_);exact h2 pins s1 σ1 H1 _ _ Q I1 rr q1
abbrev yZ (K:aba) (n:Nat) (t:Fq):TG:=λv σ H Q=>∃a xs,v=.ref a/\iP K H a xs/\xs.length=n/\t xs σ H Q
theorem Ha {es:List Expr} {k:Nat} {t:Fq} {n:Nat} (hc:X.calm=true) (h:JZ X es t)
  (hn:(assignEach es X.env).length=n:=by rfl) (Hc:(assignEach es X.env).findIdx? (·.1)=none:=by rfl):PG X (.Tuple es k pos) (yZ X.K n t):=by
 intro pins s σ H v u Q I r hw;obtain⟨a,xs,e1,hq,hl,hw⟩:=hw;subst e1;cases r;obtain⟨ba,rv,ht,hz⟩:=I.tuple hq;refine assign_Tuple_tuple (I.ok.hd hc) ht (by simp [hn,<-hl,rv.length]) Hc λh' hx=>?_;have I1:Inv X pins σ H {s with heap:=h'}:=I.kept (t':=s.toks) λb o e=>hx b o (aar (abm e)) e;exact h pins _ σ H xs _ Q I1 (by simpa using rv) hw
abbrev gSub (to ti:TE) (t:G9):TG:=λv σ H Q=>to σ H λo H1=>ti σ H1 λi H2=>t o i v H2 λH3=>Q σ H3
theorem Av {o i:Expr} {to ti:TE} {t:G9} (ho:PE X o to) (hi:PE X i ti) (hs:K0 X t)
  (ha:∀v,assign (.Subscript o i pos) X.env v=(do
   let ov <-holding [v] (eval o X.env);let iv <-holding [v,ov] (eval i X.env)
   standAt pos
   holding [v,ov,iv] (setItem ov iv v)
   release [v,ov,iv] []):=by intro _;rfl):PG X (.Subscript o i pos) (gSub to ti t):=by
 intro pins s σ H v u Q I r h;rw[ha];refine wpAny_bind (wpAny_holding (cK (ho pins s σ H _ I h) λov s1 dB=>?_));obtain⟨x,H1,I1,r1,q1⟩:=dB;refine wpAny_bind (wpAny_holding (cK (hi pins s1 σ H1 _ I1 q1) λiv s2 dB=>?_));obtain⟨y,H2,I2,r2,q2⟩:=dB;refine wpAny_bind (wpAny_standAt (wpAny_bind (wpAny_holding (cK (hs pins s2 σ H2 x y v ov iv u _ I2 r1 r2 r q2) λ_ s3 ⟨H3,I3,q3⟩=>?_))));exact wpAny_release ⟨σ,H3,I3,q3⟩
abbrev tAsg (te:TE) (g:TG):TS:=λD σ H=>te σ H λx H1=>g x σ H1 D.nx
theorem Aw {tg e:Expr} {te:TE} {g:TG} (he:PE X e te) (hg:PG X tg g) (hs:swapsWithSole [tg] e pos.line X.env=pure false:=by rfl) (hw:swappedStores [tg] e X.env=pure none:=by rfl)
  (h1:(assignEach [tg] X.env).map (·.2)=[assign tg X.env]:=by rfl):PS X (.Assign [tg] e pos) (tAsg te g):=by
 intro pins s σ H D I h;refine wpAny_Assign_stores (cK (he pins s σ H _ I h) λv s1 dB=>?_) hs hw;obtain⟨x,H1,I1,r1,q1⟩:=dB;rw[h1];exact cK (hg pins s1 σ H1 x v _ I1 r1 q1) λ_ s2 q=>q
theorem aG {i:Nat} {x:Str} {e:Expr} {te:TE} {pos':Pos} (he:PE X e te) (hN:X.N.Nodup:=by exact nd) (hi:X.N[i]?=some x:=by rfl) (hx:Loc X.env.scope x:=by first | exact Or.inl rfl | exact Or.inr rfl) (hs:swapsWith e (some (.Name x pos')) pos.line X.env=pure false:=by rfl) (hf:X.fn x=true\/X.env.scope.names.lookup x=some .local:=by first | exact .inl rfl | exact .inr rfl | assumption):
  PS X (.Assign [.Name x pos'] e pos) (tAsg te (gName i)):=by
 intro pins s σ H D I h;refine wpAny_Assign_Name (cK (he pins s σ H _ I h) λv s1 dB=>?_) hs;obtain⟨y,H1,I1,r1,q1⟩:=dB;exact jW I1 hN hi hx r1 (λs2 I2=>⟨_,H1,I2,q1⟩) hf
abbrev tPar (i j:Nat) (ta:TA):TS:=λD σ H=>ta σ H λvs H1=>∃v w,vs=[v,w]/\D.nx ((σ.set i (some v)).set j (some w)) H1
theorem He {i j:Nat} {x y:Str} {a b:Expr} {ta:TA} {px py pt:Pos} {kt k2 QQ} (hc:X.calm=true) (hN:X.N.Nodup) (hi:X.N[i]?=some x) (hj:X.N[j]?=some y) (Xe:i≠j)
  (hx:X.env.scope.names.lookup x=some .local) (hy:X.env.scope.names.lookup y=some .local) (ha:PA X [a,b] ta)
  (hw:swappedStores [.Tuple [.Name x px,.Name y py] kt pt] (.Tuple [a,b] k2 QQ) X.env=pure (some [x,y]))
  (hs:swapsWithSole [.Tuple [.Name x px,.Name y py] kt pt] (.Tuple [a,b] k2 QQ) pos.line X.env=pure false:=by rfl):
  PS X (.Assign [.Tuple [.Name x px,.Name y py] kt pt] (.Tuple [a,b] k2 QQ) pos) (tPar i j ta):=by
 intro pins s σ H D I h;rw[exec_Assign_arm];refine wpAny_bind (wpAny_standAt ?_);rw[hs];refine wpAny_bind (wpAny_pure ?_);rw[if_neg ∅];refine wpAny_bind (Tuple_ (cK (ha _ pins s σ H _ I h) λus s1 dB=>?_));obtain⟨vs,H1,I1,r1,q1⟩:=dB;obtain⟨v,w,e1,q1⟩:=q1;subst e1;obtain⟨u1,u2,rfl,rv,y4⟩:∃u1 u2,us=[u1,u2]/\RelV v u1/\RelV w u2:=by
  cases r1 with
  | cons p q=>
   cases q with
   | cons p' q'=>
    cases q';exact⟨_,_,rfl,p,p'⟩
 refine wpAny_newObj_type ?_ (by show 2<=sizeLine;decide);have I2:Inv X pins σ H1 {s1 with heap:=s1.heap.push {cls:=.type "tuple",data:=.seq [u1,u2].toArray}}:=I1.kept (t':=s1.toks) λb o e=>abk _ e;rw[hw];refine wpAny_bind (wpAny_pure ?_);show wpAny (model X.prog X.w) X.A (do rule "assign.swapped-stores";let items <-unpackItems (.ref s1.heap.objs.size) 2 none;assignInOrder [λv=>bindName X.env y v,λv=>bindName X.env x v] items.reverse;pure Flow.next) _ _ _;refine wpAny_bind (wpAny_rule (wpAny_bind (unpackItems_tuple (items:=#[u1,u2]) (I.ok.hd hc) (IsTup.new s1.heap _) λh' K2=>?_)));have I3:=I2.kept (h':=h') (t':=s1.toks) λb o e=>K2 b o (aar (abm e)) e;show wpAny _ _ (assignInOrder [λv=>bindName X.env y v,λv=>bindName X.env x v] [u2,u1] >>=λ_=>pure Flow.next) _ _ _;refine wpAny_bind (assignInOrder_cons (wpAny_bindName (jW I3 hN hj (.inl hy) y4 (λs2 I4=>?_) (.inr hy))));refine assignInOrder_cons (wpAny_bindName (jW I4 hN hi (.inl hx) rv (λs3 I5=>assignInOrder_nil (wpAny_pure ?_)) (.inr hx)));rw[List.set_comm _ _ (Ne.symm Xe)] at I5;exact⟨_,H1,I5,q1⟩
end
section
variable {X : Cx} {pos : Pos}
abbrev vA (c:TT) (tb:TS):TS:=λD σ H=>∃W:Nat->St->Hp->Prop,(∃m,W m σ H)/\∀m σ H,W m σ H->
 c σ H λb H1=>if b=true then ∃N:St->Hp->Prop,(∀σ' H',N σ' H'->∃m',m'<m/\W m' σ' H')/\tb {D with nx:=N,ct:=N,bk:=D.nx} σ H1 else D.nx σ H1
theorem jY {c:Expr} {body:List Stmt} {tc:TT} {tb:TS} (hp:PassesOwn (model X.prog X.w) X.A X.env X.xe) (hc:PT X c tc) (hb:vx X body tb):PS X (.While c body [] pos) (vA tc tb):=by
 intro pins s σ H D I h;obtain⟨W,⟨m0,w0⟩,turn⟩:=h;refine wpAny_While (codeAny_whileLoop (λn s'=>∃σ' H',Inv X pins σ' H' s'/\W n σ' H') ?_ m0 ⟨σ,H,I,w0⟩);rintro n s1 ⟨σ1,H1,I1,w1⟩;refine wpAny_passesOwn hp (cK (hc pins s1 σ1 H1 _ I1 (turn n σ1 H1 w1)) λb s2 ⟨H2,I2,q2⟩=>?_);cases b with
 | true=>
  obtain⟨N,hN,q2⟩:=q2;rw[if_pos rfl];refine wpAny_passesOwn hp (cK (hb pins s2 σ1 H2 _ I2 q2) λf s3 q3=>?_);cases f with
  | next=>
   obtain⟨σ3,H3,I3,n3⟩:=q3;obtain⟨m',hm,w3⟩:=hN σ3 H3 n3;exact⟨m',hm,σ3,H3,I3,w3⟩
  | cont=>
   obtain⟨σ3,H3,I3,n3⟩:=q3;obtain⟨m',hm,w3⟩:=hN σ3 H3 n3;exact⟨m',hm,σ3,H3,I3,w3⟩
  | brk=>exact q3
  | ret v=>exact q3
 | false=>
  rw[if_neg aat];exact wpAny_execs_nil ⟨σ1,H2,I2,q2⟩
end
structure It where
 go:Nat->Hp->Prop
 y7:Nat->Hp->V->Hp->Prop
 stop:Nat->Hp->Prop
abbrev jA (X:Cx) (pins:List (Addr×Obj)) (H:Hp) (b:Addr):Prop:=
 H b=none/\b≠X.env.locals/\b∉X.fs/\(b∈X.ex\/X.s₀.heap.objs.size<=b)/\(∀x c,X.env.cells.lookup x=some c->c≠b)/\∀p∈X.pn++pins,p.1≠b
theorem Inv.Dl {X:Cx} {pins:List (Addr×Obj)} {σ:St} {H H':Hp} {s:Shared} {b:Addr} (I:Inv X pins σ H s) (hb:s.heap.objs.size<=b) (hn:H' b=none):jA X pins H' b:=by
 refine⟨hn,Nat.ne_of_gt (aaz I.lt hb),I.QI hb,.inr (aao I.sz hb),λx c e z=>?_,λp hp z=>?_⟩
 ·obtain⟨v,q⟩:=I.cell x c e;exact absurd (aaz q.lt (by rw[z];exact hb)) (aaK _)
 ·exact absurd (aaz (abm (I.pin p hp).1) (by rw[z];exact hb)) (aaK _)
structure Turn (P:Program) (w:World) (K:aba) (tg:Expr) (J:It) (fp:List Addr) (it:Addr) (tn:Nat->Heap->Prop):Prop where
 mem:it∈fp
 obj:∀i h,tn i h->∀b∈fp,∃o,h.get? b=some o/\∀v,o.data≠.cell v
 keep:∀i h h',tn i h->(∀b∈fp,∀o,h.get? b=some o->h'.get? b=some o)->tn i h'
 item:∀(X:Cx),X.prog=P->X.w=w->X.K=K->X.calm=true->∀(i:Nat) (pins:List (Addr×Obj)) (s:Shared) (σ:St) (H:Hp) (E:Value->Shared->Prop),Inv X pins σ H s->(∀b∈fp,jA X pins H b)->tn i s.heap->J.go i H->
  wpAny (model P w) X.A (pyNext (.ref it)) (λr s1=>∃u,r=some u/\
   wpAny (model P w) X.A (letOwnedTupleGo tg (.ref it) u) (λ_ s2=>∃x H',Inv X pins σ H' s2/\RelV x u/\J.y7 i H x H'/\tn (i+1) s2.heap/\∀b∈fp,H' b=none) E s1) E s
 done:∀(X:Cx),X.prog=P->X.w=w->X.K=K->X.calm=true->∀(i:Nat) (pins:List (Addr×Obj)) (s:Shared) (σ:St) (H:Hp) (E:Value->Shared->Prop),Inv X pins σ H s->(∀b∈fp,jA X pins H b)->tn i s.heap->J.stop i H->
  wpAny (model P w) X.A (pyNext (.ref it)) (λr s1=>r=none/\Inv X pins σ H s1) E s
 self:∀(A:Around) (i:Nat) (s:Shared) (Q:Value->Shared->Prop) (E:Value->Shared->Prop),tn i s.heap->Q (.ref it) s->wpAny (model P w) A (pyIter (.ref it)) Q E s
@[inline]abbrev TI:=St->Hp->(It->Hp->Prop)->Prop
abbrev Vm (X:Cx) (pins:List (Addr×Obj)) (σ:St) (tg:Expr) (R:It->Hp->Prop) (Fs:Value) (s2:Shared):Prop:=
 ∃(it:Addr) (fp:List Addr) (tn:Nat->Heap->Prop) (J:It) (H':Hp),Fs=.ref it/\Inv X pins σ H' s2/\Turn X.prog X.w X.K tg J fp it tn/\tn 0 s2.heap/\(∀b∈fp,jA X pins H' b)/\R J H'
abbrev PI (X:Cx) (tg iter:Expr) (wi:TI):Prop:=
 ∀(pins:List (Addr×Obj)) (s:Shared) (σ:St) (H:Hp) (R:It->Hp->Prop),Inv X pins σ H s->wi σ H R->
  wpAny (model X.prog X.w) X.A (eval iter X.env) (λv s1=>wpAny (model X.prog X.w) X.A (pyIter v) (Vm X pins σ tg R) X.xe s1) X.xe s
theorem Ft {M:Model} {A:Around} {E:Value->Shared->Prop} {s:Shared} {tg:Expr} {it:Addr} {u:Value} {o:Obj} {n:String} {vs:Array Value} {Q:Unit->Shared->Prop} (ho:s.heap.get? it=some o) (hc:o.cls=.type n) (hd:o.data=.fields vs)
  (hn:["enumerate","zip","dict_itemiterator","dict_reverseitemiterator","odict_iterator","itertools.zip_longest","itertools.pairwise"].contains n=false) (hQ:Q () s):wpAny M A (letOwnedTupleGo tg (.ref it) u) Q E s:=by
 unfold letOwnedTupleGo;cases tg <;>first
  | exact wpAny_pure hQ
  | (cases u <;>first
    | exact wpAny_pure hQ
    | (refine wpAny_bind (wpAny_load ho ?_)
       rw[hc,hd];show wpAny M A (if (["enumerate","zip","dict_itemiterator","dict_reverseitemiterator","odict_iterator","itertools.zip_longest","itertools.pairwise"].contains n && vs[0]?==some (rawInt _))=true then _ else _) Q E s;rw[if_neg (by intro h;rw[hn,Bool.false_and] at h;cases h)];exact wpAny_pure hQ))
abbrev vj (K:aba) (a:Addr):It:=
 ⟨λi H=>∃xs x,bC K H a xs/\xs[i]?=some x,λi H x H'=>H'=H/\∀xs,bC K H a xs->xs[i]?=some x,λi H=>∃xs,bC K H a xs/\xs.length<=i⟩
abbrev Xf (K:aba) (a:Addr):It:=
 ⟨λi H=>∃xs x,iP K H a xs/\xs[i]?=some x,λi H x H'=>H'=H/\∀xs,iP K H a xs->xs[i]?=some x,λi H=>∃xs,iP K H a xs/\xs.length<=i⟩
abbrev K4 (lo:Int) (n:Nat):It:=⟨λi _=>i<n,λi H x H'=>H'=H/\x=.int (lo+i),λi _=>n<=i⟩
theorem y8 {P:Program} {w:World} {K:aba} {tg:Expr} (a it:Addr):Turn P w K tg (vj K a) [it] it (λi h=>h.IsListIter it a i) where
 mem:=by simp
 obj:=λi h st b hb=>by
  have e:b=it:=by simpa using hb
  subst e;obtain⟨o,e,c,d⟩:=st;exact⟨o,e,λv z=>by rw[d] at z;cases z⟩
 keep:=λi h h' st k=>st.at λo e=>k it (by simp) o e
 item:=by
  intro X hP hw hK hc i pins s σ H E I hf st hg;subst hP hw hK;obtain⟨xs,x,hq,hx⟩:=hg;obtain⟨ba,rv,p,hz⟩:=I.list hq;obtain⟨u,hu,ru⟩:=rv.get hx;obtain⟨f0,f1,f2,f3,f4,f5⟩:=hf it (by simp);refine wpAny_pyNext_list_item st p.isList (x:=u) (by simpa using hu) λh' fH sb=>?_;have I1:Inv X pins σ H {s with heap:=h'}:=I.turned (t':=s.toks) (λb o hb e=>(sb.2 b hb).trans e) f0 f1 f3 f4 f5;obtain⟨o,e,c,d⟩:=id fH;exact⟨u,rfl,Ft (s:={s with heap:=h'}) e c d ∅ ⟨x,H,I1,ru,⟨rfl,λys hy=>by rw[I.tX hy hq];exact hx⟩,fH,λb hb=>(hf b hb).1⟩⟩
 done:=by
  intro X hP hw hK hc i pins s σ H E I hf st hg;subst hP hw hK;obtain⟨xs,hq,hx⟩:=hg;obtain⟨ba,rv,p,hz⟩:=I.list hq;obtain⟨f0,f1,f2,f3,f4,f5⟩:=hf it (by simp);have hl:=rv.length;exact wpAny_pyNext_list_end (I.ok.hd hc) st p.isList (by simp;lia) λh' eb=>⟨rfl,I.turned (t':=s.toks) (λb o hb e=>eb b o hb e) f0 f1 f3 f4 f5⟩
 self:=λ_ _ _ _ _ st h=>wpAny_pyIter_listiter st h
theorem vB {P:Program} {w:World} {K:aba} {tg:Expr} (it:Addr) (lo:Int) (n:Nat):Turn P w K tg (K4 lo n) [it] it (λi h=>IsRangeIter h it (lo+ (i:Nat)*1) ((n:Int) - (i:Nat)) 1) where
 mem:=by simp
 obj:=λi h st b hb=>by
  have e:b=it:=by simpa using hb
  subst e;exact⟨_,st,λv z=>by
   have z':Data.fields _=Data.cell v:=z;cases z'⟩
 keep:=λi h h' st k=>k it (by simp) _ st
 item:=by
  intro X hP hw hK hc i pins s σ H E I hf st hg;subst hP hw hK;obtain⟨f0,f1,f2,f3,f4,f5⟩:=hf it (by simp);have W:=Walks.range (prog:=X.prog) (w:=X.w) (I.ok.hd hc) it lo 1 n;refine W.item i s _ _ hg st λv h' tk hv fH kk=>?_;obtain⟨t,rfl⟩:=hv;have I1:Inv X pins σ H {s with heap:=h',toks:=tk}:=I.turned (λb o hb e=>kk b o (by simpa using hb) e) f0 f1 f3 f4 f5;refine⟨_,rfl,Ft (s:={s with heap:=h',toks:=tk}) (n:="range_iterator") fH rfl rfl ∅ ⟨.int (lo+i),H,I1,⟨t,?_⟩,⟨rfl,rfl⟩,fH,λb hb=>(hf b hb).1⟩⟩;rw[Int.mul_one]
 done:=by
  intro X hP hw hK hc i pins s σ H E I hf st hg;subst hP hw hK;obtain⟨f0,f1,f2,f3,f4,f5⟩:=hf it (by simp);exact wpAny_pyNext_range_end (I.ok.hd hc) st (by have:n<=i:=hg;lia) λh' eb=>⟨rfl,I.turned (t':=s.toks) (λb o hb e=>eb b o hb e) f0 f1 f3 f4 f5⟩
 self:=λ_ _ _ _ _ st h=>wpAny_pyIter_rangeiter st h
section
variable {X : Cx} {tg : Expr}
abbrev iList (K:aba) (tl:TE):TI:=λσ H R=>tl σ H λx H1=>dr x λa=>(∃xs,bC K H1 a xs)/\R (vj K a) H1
abbrev iTup (K:aba) (tl:TE):TI:=λσ H R=>tl σ H λx H1=>dr x λa=>(∃xs,iP K H1 a xs)/\R (Xf K a) H1
theorem Dm {l:Expr} {tl:TE} (hl:PE X l tl):PI X tg l (iList X.K tl):=by
 intro pins s σ H R I h;refine cK (hl pins s σ H _ I h) λv s1 dB=>?_;obtain⟨x,H1,I1,r1,q1⟩:=dB;obtain⟨a,e,⟨xs,hq⟩,q⟩:=rdR_eq.mp q1;subst e;cases r1;obtain⟨ba,rv,p,hz⟩:=I1.list hq;refine wpAny_pyIter_list p.isList ?_;refine⟨s1.heap.objs.size,[s1.heap.objs.size],_,_,H1,rfl,I1.kept (t':=s1.toks) λb o e=>abk _ e,y8 a _,⟨_,abl _ rfl,rfl,rfl⟩,λb hb=>?_,q⟩;have e:b=s1.heap.objs.size:=by simpa using hb
 subst e;exact I1.Dl (aag _) (I1.bP.fresh (aag _))
theorem tZ {pins:List (Addr×Obj)} {σ:St} {H:Hp} {s:Shared} {R:It->Hp->Prop} {E:Value->Shared->Prop} {lo hi:Int} {t u v:Tok} {tk:Nat} (I:Inv X pins σ H s) (h1:-(2^62)<=lo) (h2:lo<2^62) (h3:-(2^62)<=hi) (h4:hi<2^62)
  (q:R (K4 lo (hi - lo).toNat) H):wpAny (model X.prog X.w) X.A (pyIter (.ref s.heap.objs.size)) (Vm X pins σ tg R) E {s with heap:=s.heap.push {cls:=.type "range",data:=.fields #[.int lo t,.int hi u,.int 1 v]},toks:=tk}:=by
 refine wpAny_pyIter_range (IsRange.new ..) (small_one h1 h2 h3 h4) ?_;have I1:Inv X pins σ H {s with heap:=s.heap.push {cls:=.type "range",data:=.fields #[.int lo t,.int hi u,.int 1 v]},toks:=tk}:=I.kept λb o e=>abk _ e;refine⟨(s.heap.push {cls:=.type "range",data:=.fields #[.int lo t,.int hi u,.int 1 v]}).objs.size,[(s.heap.push {cls:=.type "range",data:=.fields #[.int lo t,.int hi u,.int 1 v]}).objs.size],_,_,H,rfl,
  I1.kept (t':=tk) λb o e=>abk _ e,vB _ lo (hi - lo).toNat,?_,λb hb=>?_,q⟩
 ·have e1:lo+ ((0:Nat):Int)*1=lo:=by simp
  have e2:(((hi - lo).toNat:Nat):Int) - ((0:Nat):Int)=Builtin.Range.rangeSize lo hi 1:=by rw[rangeSize_one];split <;>lia
  show IsRangeIter _ _ (lo+ ((0:Nat):Int)*1) ((((hi - lo).toNat:Nat):Int) - ((0:Nat):Int)) 1;rw[e1,e2];exact abl _ rfl
 ·have e:b=(s.heap.push {cls:=.type "range",data:=.fields #[.int lo t,.int hi u,.int 1 v]}).objs.size:=by simpa using hb
  subst e;exact I1.Dl (aag _) (I1.bP.fresh (aag _))
abbrev iRng1 (ta:TA):TI:=λσ H R=>ta σ H λvs H1=>eS vs λx=>fC x λj=> -(2^62)<=j/\j<2^62/\R (K4 0 j.toNat) H1
abbrev iRng2 (ta:TA):TI:=λσ H R=>ta σ H λvs H1=>dH vs λx y=>fC x λi=>fC y λj=>(-(2^62)<=i/\i<2^62/\-(2^62)<=j/\j<2^62)/\R (K4 i (j - i).toNat) H1
theorem bX {a:Expr} {ta:TA} {p pos:Pos} (hg:Gl X "range") (hm:X.mg "range"=none) (ha:PA X [a] ta) (hs:starEach [a] X.env=[(false,eval a X.env)]:=by rfl):PI X tg (.Call (.Name "range" p) [a] [] pos) (iRng1 ta):=by
 intro pins s σ H R I h;refine Call_ (gk I hg hm boot_range (aa8 (cK (ha pos pins s σ H _ I h) λus s1 dB=>?_) hs rfl));obtain⟨vs,H1,I1,r1,q1⟩:=dB;obtain⟨x,e,p1⟩:=rdL1_eq.mp q1;clear q1;obtain⟨j,rfl,q1,q2,q⟩:=rdI_eq.mp p1;subst e;cases r1 with
 | cons r rr=>
  cases rr;obtain⟨t,rfl⟩:=r;exact call_range_1 (tZ I1 ⋯ ⋯ q1 q2 (by simpa using q))
theorem lD {a b:Expr} {ta:TA} {p pos:Pos} (hg:Gl X "range") (hm:X.mg "range"=none) (ha:PA X [a,b] ta) (hs:starEach [a,b] X.env=[(false,eval a X.env),(false,eval b X.env)]:=by rfl) (Fu:starEach [b] X.env=[(false,eval b X.env)]:=by rfl):
  PI X tg (.Call (.Name "range" p) [a,b] [] pos) (iRng2 ta):=by
 intro pins s σ H R I h;refine Call_ (gk I hg hm boot_range (aa8 (cK (ha pos pins s σ H _ I h) λus s1 dB=>?_) (by rw[hs,Fu]) (by rw[Fu];rfl)));obtain⟨vs,H1,I1,r1,q1⟩:=dB;obtain⟨x,y,e,p1⟩:=rdL2_eq.mp q1;clear q1;obtain⟨i,rfl,p2⟩:=rdI_eq.mp p1;obtain⟨j,rfl,⟨q1,q2,q3,q4⟩,q⟩:=rdI_eq.mp p2;subst e;cases r1 with
 | cons r rr=>
  cases rr with
  | cons r' rr=>
   cases rr;obtain⟨t,rfl⟩:=r;obtain⟨t',rfl⟩:=r';exact call_range_2 (tZ I1 q1 q2 q3 q4 q)
abbrev K5 (wi:TI) (g:TG) (tb:TS):TS:=λD σ H=>wi σ H λJ H1=>∃W:Nat->Nat->St->Hp->Prop,(∃m,W 0 m σ H1)/\∀i m σ H,W i m σ H->
 (J.stop i H/\D.nx σ H)\/(J.go i H/\∃N:St->Hp->Prop,(∀σ' H',N σ' H'->∃m',m'<m/\W (i+1) m' σ' H')/\∀x H',J.y7 i H x H'->g x σ H' λσ2 H2=>tb {D with nx:=N,ct:=N,bk:=D.nx} σ2 H2)
abbrev oi (fp:List Addr) (h:Heap):List (Addr×Obj):=fp.filterMap λb=>(h.get? b).map λo=>(b,o)
theorem gO {fp:List Addr} {h:Heap} {b:Addr} {o:Obj} (hb:b∈fp) (e:h.get? b=some o):(b,o)∈oi fp h:=List.mem_filterMap.mpr ⟨b,hb,by rw[e];rfl⟩
theorem y9 {fp:List Addr} {h:Heap} {p:Addr×Obj} (hp:p∈oi fp h):p.1∈fp/\h.get? p.1=some p.2:=by
 obtain⟨b,hb,e⟩:=List.mem_filterMap.mp hp;cases q:h.get? b with
 | none=>rw[q] at e;cases e
 | some o=>
  rw[q] at e;have e':(b,o)=p:=aay e;subst e';exact⟨hb,q⟩
theorem Inv.pinned {pins:List (Addr×Obj)} {σ:St} {H:Hp} {s:Shared} {fp:List Addr} (I:Inv X pins σ H s) (hf:∀b∈fp,jA X pins H b) (ho:∀b∈fp,∃o,s.heap.get? b=some o/\∀v,o.data≠.cell v):Inv X (pins++oi fp s.heap) σ H s:=
 I.jV λp hp=>(List.mem_append.mp hp).elim (λz=>I.pin p (aaD _ z)) λz=>by
  obtain⟨hb,e⟩:=y9 z;obtain⟨f0,f1,f2,_⟩:=hf p.1 hb;obtain⟨o,e',d⟩:=ho p.1 hb;rw[e] at e';cases e';exact⟨e,f0,f1,f2,d⟩
theorem Inv.oj {pins pl:List (Addr×Obj)} {σ:St} {H:Hp} {s:Shared} (I:Inv X (pins++pl) σ H s):Inv X pins σ H s:=I.jV λp hp=>I.pin p (aaD _ (aa1 _ hp))
theorem ck {iter:Expr} {body:List Stmt} {wi:TI} {g:TG} {tb:TS} {pos:Pos} (hp:PassesOwn (model X.prog X.w) X.A X.env X.xe) (hc:X.calm=true) (hi:PI X tg iter wi) (hg:PG X tg g) (hb:vx X body tb)
  (hs:∀x,foldedSetIterable iter X.env x=pure x:=by intro _;rfl):PS X (.For tg iter body [] pos) (K5 wi g tb):=by
 intro pins s σ H D I h;refine wpAny_For (cK (hi pins s σ H _ I h) λv s1 h1=>cK h1 λFs s2 h2=>?_) hs;obtain⟨it,fp,tn,J,H2,e,I2,T,vC,f2,W,⟨m0,w0⟩,turn⟩:=h2;subst e;have vD:∀{H':Hp},(∀b∈fp,H' b=none)->∀b∈fp,jA X pins H' b:=λhn b hb=>⟨hn b hb,(f2 b hb).2⟩
 refine codeAny_forLoop_any (λn s'=>∃i σ' H',Inv X pins σ' H' s'/\tn i s'.heap/\(∀b∈fp,H' b=none)/\W i n σ' H') ?_ m0 ⟨0,σ,H2,I2,vC,λb hb=>(f2 b hb).1,w0⟩;rintro n s3 ⟨i,σ3,H3,I3,Vn,Vo,w3⟩;rcases turn i n σ3 H3 w3 with ⟨stop,qn⟩ | ⟨go,N,hN,step⟩
 ·refine wpAny_passesOwn hp (cK (T.done X rfl rfl rfl hc i pins s3 σ3 H3 X.xe I3 (vD Vo) Vn stop) λr s4 ⟨hr,I4⟩=>?_);subst hr;exact wpAny_execs_nil ⟨σ3,H3,I4,qn⟩
 ·refine wpAny_passesOwn hp (cK (T.item X rfl rfl rfl hc i pins s3 σ3 H3 X.xe I3 (vD Vo) Vn go) λr s4 ⟨u,hr,h4⟩=>?_);subst hr;refine wpAny_passesOwn hp (cK h4 λ_ s5 dB=>?_);obtain⟨x,H5,I5,r5,y5,QR,Xg⟩:=dB;have Xh:=I5.pinned (vD Xg) (T.obj _ _ QR);refine wpAny_passesOwn hp (cK (hg _ s5 σ3 H5 x u _ Xh r5 (step x H5 y5)) λ_ s6 ⟨σ6,H6,I6,q6⟩=>?_);refine wpAny_passesOwn hp (cK (hb _ s6 σ6 H6 _ I6 q6) λf s7 q7=>?_);have again:∀{σ7:St} {H7:Hp},Inv X (pins++oi fp s5.heap) σ7 H7 s7->N σ7 H7->∃m,m<n/\∃i σ' H',Inv X pins σ' H' s7/\tn i s7.heap/\(∀b∈fp,H' b=none)/\W i m σ' H':=λ{σ7 H7} I7 n7=>by
   obtain⟨m',hm,w7⟩:=hN σ7 H7 n7;refine⟨m',hm,i+1,σ7,H7,I7.oj,T.keep _ _ _ QR λb hb o e=>(I7.pin (b,o) (aaD _ (aaD _ (gO hb e)))).1,λb hb=>?_,w7⟩;obtain⟨o,e,d⟩:=T.obj _ _ QR b hb;exact(I7.pin (b,o) (aaD _ (aaD _ (gO hb e)))).2.1
  cases f with
  | next=>obtain⟨σ7,H7,I7,n7⟩:=q7;exact again I7 n7
  | cont=>obtain⟨σ7,H7,I7,n7⟩:=q7;exact again I7 n7
  | brk=>obtain⟨σ7,H7,I7,q7⟩:=q7;exact⟨σ7,H7,I7.oj,q7⟩
  | ret v=>obtain⟨x7,σ7,H7,I7,r7,q7⟩:=q7;exact⟨x7,σ7,H7,I7.oj,r7,q7⟩
end
theorem t4 {c:TT} {tb:TS} {D:Ends} {σ:St} {H:Hp} (Pv:St->Hp->Prop) (μ:St->Hp->Nat) (h0:Pv σ H)
  (hs:∀σ H,Pv σ H->c σ H λb H1=>if b=true then tb {D with nx:=λσ' H'=>Pv σ' H'/\μ σ' H'<μ σ H,ct:=λσ' H'=>Pv σ' H'/\μ σ' H'<μ σ H,bk:=D.nx} σ H1 else D.nx σ H1)
  (mono:∀σ H Q Q',(∀b H1,Q b H1->Q' b H1)->c σ H Q->c σ H Q'):vA c tb D σ H:=by
 refine⟨λm σ H=>m=μ σ H/\Pv σ H,⟨_,rfl,h0⟩,?_⟩;rintro m σ H ⟨rfl,p⟩;refine mono σ H _ _ (λb H1 q=>?_) (hs σ H p);cases b with
 | true=>exact⟨_,λσ' H' ⟨p',l⟩=>⟨_,l,rfl,p'⟩,q⟩
 | false=>exact q
@[inline]abbrev R2:=V->V->Hp->VK->Prop
abbrev i7 (X:Cx) (f:Value->Value->Sem Value) (r:R2):Prop:=
 ∀(pins:List (Addr×Obj)) (s:Shared) (σ:St) (H:Hp) (x y:V) (v u:Value) (Q:VK),Inv X pins σ H s->RelV x v->RelV y u->r x y H Q->
  wpAny (model X.prog X.w) X.A (f v u) (EP X pins σ Q) X.xe s
abbrev Pq (X:Cx) (f:Value->Sem Value) (r:V->Hp->VK->Prop):Prop:=
 ∀(pins:List (Addr×Obj)) (s:Shared) (σ:St) (H:Hp) (x:V) (v:Value) (Q:VK),Inv X pins σ H s->RelV x v->r x H Q->
  wpAny (model X.prog X.w) X.A (f v) (EP X pins σ Q) X.xe s
abbrev cM (X:Cx) (f:Value) (r:List V->Hp->VK->Prop):Prop:=
 ∀(pins:List (Addr×Obj)) (s:Shared) (σ:St) (H:Hp) (xs:List V) (us:List Value) (Q:VK),Inv X pins σ H s->bq xs us->r xs H Q->
  wpAny (model X.prog X.w) X.A (call f us) (EP X pins σ Q) X.xe s
abbrev tOp (r:R2) (ta tb:TE):TE:=λσ H Q=>ta σ H λx H1=>tb σ H1 λy H2=>r x y H2 Q
abbrev tUn (r:V->Hp->VK->Prop) (ta:TE):TE:=λσ H Q=>ta σ H λx H1=>r x H1 Q
abbrev rI (C:Int->Int->Prop) (g:Int->Int->V):R2:=λx y H Q=>fC x λi=>fC y λj=>C i j/\Q (g i j) H
abbrev rI0 (g:Int->Int->V):R2:=λx y H Q=>fC x λi=>fC y λj=>Q (g i j) H
abbrev rU (g:Int->V):V->Hp->VK->Prop:=λx H Q=>∃i,x=.int i/\Q (g i) H
section
variable {X : Cx} {a b c : Expr} {ta tb tc : TE} {pos : Pos}
theorem Hg (ha:PE X a ta) (hb:PE X b tb) {pins:List (Addr×Obj)} {s:Shared} {σ:St} {H:Hp} {R:V->V->Hp->Prop} (I:Inv X pins σ H s)
  (h:ta σ H λx H1=>tb σ H1 λy H2=>R x y H2) {Q:Value->Shared->Prop} {f:Value->Value->Sem Value}
  (hf:∀v u s2 x y H2,Inv X pins σ H2 s2->RelV x v->RelV y u->R x y H2->wpAny (model X.prog X.w) X.A (f v u) Q X.xe s2):
  wpAny (model X.prog X.w) X.A (eval a X.env) (λv s₁=>wpAny (model X.prog X.w) X.A (eval b X.env) (λu s₂=>wpAny (model X.prog X.w) X.A (f v u) Q X.xe s₂) X.xe s₁) X.xe s:=by
 refine cK (ha pins s σ H _ I h) λv s1 dB=>?_;obtain⟨x,H1,I1,r1,q1⟩:=dB;refine cK (hb pins s1 σ H1 _ I1 q1) λu s2 dB=>?_;obtain⟨y,H2,I2,r2,q2⟩:=dB;exact hf v u s2 x y H2 I2 r1 r2 q2
theorem aD {op:Operator} {r:R2} (ho:i7 X (binaryOp op) r) (ha:PE X a ta) (hb:PE X b tb):PE X (.BinOp a op b pos) (tOp r ta tb):=by
 intro pins s σ H Q I h;exact wpAny_BinOp (Hg ha hb I h λv u s2 x y H2 I2 rx ry q=>ho pins s2 σ H2 x y v u Q I2 rx ry q)
theorem ip {op:UnaryOp} {r:V->Hp->VK->Prop} (ho:Pq X (unaryOp op) r) (ha:PE X a ta):PE X (.UnaryOp op a pos) (tUn r ta):=by
 intro pins s σ H Q I h;exact UnaryOp_ (cK (ha pins s σ H _ I h) λv s1 ⟨x,H1,I1,r1,q1⟩=>ho pins s1 σ H1 x v Q I1 r1 q1)
theorem K6 {f:Value->Value->Sem Value} {C:Int->Int->Prop} {g:Int->Int->Int}
  (rule:∀(i j:Int) (t u:Tok) (s:Shared) (Q:Value->Shared->Prop) (E:Value->Shared->Prop),C i j->Q (.int (g i j) s.toks) {s with toks:=s.toks+1}->wpAny (model X.prog X.w) X.A (f (.int i t) (.int j u)) Q E s):
  i7 X f (rI C λi j=>.int (g i j)):=by
 intro pins s σ H x y v u Q I rx ry h;obtain⟨i,rfl,h1⟩:=rdI_eq.mp h;obtain⟨j,rfl,hc,q⟩:=rdI_eq.mp h1;obtain⟨t,rfl⟩:=rx;obtain⟨t',rfl⟩:=ry;exact rule i j t t' s _ _ hc ⟨.int (g i j),H,I.tok _,⟨_,rfl⟩,q⟩
theorem K7 {f:Value->Value->Sem Value} {g:Int->Int->Int}
  (rule:∀(i j:Int) (t u:Tok) (s:Shared) (Q:Value->Shared->Prop) (E:Value->Shared->Prop),Q (.int (g i j) s.toks) {s with toks:=s.toks+1}->wpAny (model X.prog X.w) X.A (f (.int i t) (.int j u)) Q E s):
  i7 X f (rI0 λi j=>.int (g i j)):=by
 intro pins s σ H x y v u Q I rx ry h;obtain⟨i,rfl,h1⟩:=rdI_eq.mp h;obtain⟨j,rfl,q⟩:=rdI_eq.mp h1;obtain⟨t,rfl⟩:=rx;obtain⟨t',rfl⟩:=ry;exact rule i j t t' s _ _ ⟨.int (g i j),H,I.tok _,⟨_,rfl⟩,q⟩
theorem Dp {f:Value->Value->Sem Value} {g:Int->Int->Bool}
  (rule:∀(i j:Int) (t u:Tok) (s:Shared) (Q:Value->Shared->Prop) (E:Value->Shared->Prop),Q (.bool (g i j)) s->wpAny (model X.prog X.w) X.A (f (.int i t) (.int j u)) Q E s):
  i7 X f (rI0 λi j=>.bl (g i j)):=by
 intro pins s σ H x y v u Q I rx ry h;obtain⟨i,rfl,h1⟩:=rdI_eq.mp h;obtain⟨j,rfl,q⟩:=rdI_eq.mp h1;obtain⟨t,rfl⟩:=rx;obtain⟨t',rfl⟩:=ry;exact rule i j t t' s _ _ ⟨.bl (g i j),H,I,rfl,q⟩
abbrev CPow (i j:Int):Prop:=0<=j/\j<=1000000/\i.natAbs<2^64
theorem aM:i7 X (binaryOp .Add) (rI0 λi j=>.int (i+j)):=K7 λ_ _ _ _ _ _ _ q=>add_int q
theorem gP:i7 X (binaryOp .Sub) (rI0 λi j=>.int (i - j)):=K7 λ_ _ _ _ _ _ _ q=>sub_int q
theorem Hh:i7 X (binaryOp .Mod) (rI (λ_ j=>0<j) λi j=>.int (i % j)):=K6 λi j _ _ _ _ _ hc q=>by
 have h1:(0:Int)<j:=hc;exact mod_int' ⋯ (by rw[Int.fmod_eq_emod_of_nonneg i ⋯];exact q)
theorem vE:i7 X (binaryOp .Pow) (rI CPow λi j=>.int (i^j.toNat)):=K6 λ_ _ _ _ _ _ _ hc q=>pow_int_small hc.1 hc.2.1 hc.2.2 q
theorem Xi {f:Value->Sem Value} {g:Int->Int}
  (rule:∀(i:Int) (t:Tok) (s:Shared) (Q:Value->Shared->Prop) (E:Value->Shared->Prop),Q (.int (g i) s.toks) {s with toks:=s.toks+1}->wpAny (model X.prog X.w) X.A (f (.int i t)) Q E s):
  Pq X f (rU λi=>.int (g i)):=by
 intro pins s σ H x v Q I rx h;obtain⟨i,rfl,q⟩:=h;obtain⟨t,rfl⟩:=rx;exact rule i t s _ _ ⟨.int (g i),H,I.tok _,⟨_,rfl⟩,q⟩
theorem fI:Pq X (unaryOp .USub) (rU λi=>.int (-i)):=Xi λ_ _ _ _ _ q=>neg_int q
end
abbrev vF:V->V->Bool
 | .cU,.cU=>true | .cU,.int _=>true | .int _,.cU=>true | .cU,.bl _=>true | .bl _,.cU=>true | .cU,.str _=>true | .str _,.cU=>true
 | .int _,.int _=>true | .bl _,.bl _=>true | .str _,.str _=>true | .Ad _,.Ad _=>true
 | .int _,.str _=>true | .str _,.int _=>true | .bl _,.str _=>true | .str _,.bl _=>true
 | _,_=>false
abbrev rEq:R2:=λx y H Q=>vF x y=true/\Q (.bl (decide (x=y))) H
abbrev rNe:R2:=λx y H Q=>vF x y=true/\Q (.bl (!decide (x=y))) H
theorem xy {i j:Int}:decide (V.int i=V.int j)=(i==j):=by
 rw[Bool.eq_iff_iff];simp
theorem Ax {i j:Bool}:decide (V.bl i=V.bl j)=(i==j):=by
 rw[Bool.eq_iff_iff];simp
theorem xA {i j:Str}:decide (V.str i=V.str j)=(i==j):=by
 rw[Bool.eq_iff_iff];simp
theorem xB {i j:Array UInt8}:decide (V.Ad i=V.Ad j)=(i.toList==j.toList):=by
 rw[Bool.eq_iff_iff];cases i;cases j;simp
section
variable {X : Cx} {a b c : Expr} {ta tb tc : TE} {pos : Pos}
theorem bN {pins:List (Addr×Obj)} {σ:St} {H:Hp} {s:Shared} {Q:VK} {k k':Bool} (I:Inv X pins σ H s) (q:Q (.bl k) H) (e:k=k'):EP X pins σ Q (.bool k') s:=by
 subst e;exact⟨.bl k,H,I,rfl,q⟩
theorem bo:i7 X (compareOp .Eq) rEq:=by
 intro pins s σ H x y v u Q I rx ry h;obtain⟨hs,q⟩:=h;cases x with
 | cU=>
  cases rx;cases y with
  | cU=>cases ry;exact PySem.EqNone.eq_none_none (bN I q (by simp))
  | bl j=>cases ry;exact PySem.EqNone.eq_none_bool (bN I q (by simp))
  | int j=>obtain⟨t',rfl⟩:=ry;exact PySem.EqNone.eq_none_int (bN I q (by simp))
  | str j=>obtain⟨t',rfl⟩:=ry;exact PySem.EqNone.eq_none_str (bN I q (by simp))
  | _=>exact absurd (show false=true from hs) aat
 | bl i=>
  cases rx;cases y with
  | cU=>cases ry;exact PySem.EqNone.eq_bool_none (bN I q (by simp))
  | bl j=>cases ry;exact eq_bool (bN I q Ax)
  | str j=>obtain⟨t',rfl⟩:=ry;exact PySem.EqMixed.eq_bool_str (bN I q (by simp))
  | _=>exact absurd (show false=true from hs) aat
 | int i=>
  obtain⟨t,rfl⟩:=rx;cases y with
  | cU=>cases ry;exact PySem.EqNone.eq_int_none (bN I q (by simp))
  | int j=>obtain⟨t',rfl⟩:=ry;exact eq_int (bN I q xy)
  | str j=>obtain⟨t',rfl⟩:=ry;exact PySem.EqMixed.eq_int_str (bN I q (by simp))
  | _=>exact absurd (show false=true from hs) aat
 | str i=>
  obtain⟨t,rfl⟩:=rx;cases y with
  | cU=>cases ry;exact PySem.EqNone.eq_str_none (bN I q (by simp))
  | bl j=>cases ry;exact PySem.EqMixed.eq_str_bool (bN I q (by simp))
  | int j=>obtain⟨t',rfl⟩:=ry;exact PySem.EqMixed.eq_str_int (bN I q (by simp))
  | str j=>obtain⟨t',rfl⟩:=ry;exact eq_str (bN I q xA)
  | _=>exact absurd (show false=true from hs) aat
 | Ad i=>
  obtain⟨t,rfl⟩:=rx;cases y with
  | Ad j=>obtain⟨t',rfl⟩:=ry;exact PySem.W.eq_bytes (bN I q xB)
  | _=>exact absurd (show false=true from hs) aat
 | _=>cases y <;>exact absurd (show false=true from hs) aat
theorem mC:i7 X (compareOp .NotEq) rNe:=by
 intro pins s σ H x y v u Q I rx ry h;obtain⟨hs,q⟩:=h;cases x with
 | cU=>
  cases rx;cases y with
  | cU=>cases ry;exact PySem.EqNone.ne_none_none (bN I q (by simp))
  | bl j=>cases ry;exact PySem.EqNone.ne_none_bool (bN I q (by simp))
  | int j=>obtain⟨t',rfl⟩:=ry;exact PySem.EqNone.ne_none_int (bN I q (by simp))
  | str j=>obtain⟨t',rfl⟩:=ry;exact PySem.EqNone.ne_none_str (bN I q (by simp))
  | _=>exact absurd (show false=true from hs) aat
 | bl i=>
  cases rx;cases y with
  | cU=>cases ry;exact PySem.EqNone.ne_bool_none (bN I q (by simp))
  | bl j=>cases ry;exact ne_bool (bN I q (congrArg not Ax))
  | str j=>obtain⟨t',rfl⟩:=ry;exact PySem.EqMixed.ne_bool_str (bN I q (by simp))
  | _=>exact absurd (show false=true from hs) aat
 | int i=>
  obtain⟨t,rfl⟩:=rx;cases y with
  | cU=>cases ry;exact PySem.EqNone.ne_int_none (bN I q (by simp))
  | int j=>obtain⟨t',rfl⟩:=ry;exact ne_int (bN I q (congrArg not xy))
  | str j=>obtain⟨t',rfl⟩:=ry;exact PySem.EqMixed.ne_int_str (bN I q (by simp))
  | _=>exact absurd (show false=true from hs) aat
 | str i=>
  obtain⟨t,rfl⟩:=rx;cases y with
  | cU=>cases ry;exact PySem.EqNone.ne_str_none (bN I q (by simp))
  | bl j=>cases ry;exact PySem.EqMixed.ne_str_bool (bN I q (by simp))
  | int j=>obtain⟨t',rfl⟩:=ry;exact PySem.EqMixed.ne_str_int (bN I q (by simp))
  | str j=>obtain⟨t',rfl⟩:=ry;exact ne_str (bN I q (congrArg not xA))
  | _=>exact absurd (show false=true from hs) aat
 | Ad i=>
  obtain⟨t,rfl⟩:=rx;cases y with
  | Ad j=>obtain⟨t',rfl⟩:=ry;exact PySem.W.ne_bytes (bN I q (congrArg not xB))
  | _=>exact absurd (show false=true from hs) aat
 | _=>cases y <;>exact absurd (show false=true from hs) aat
theorem t5:i7 X (compareOp .Lt) (rI0 λi j=>.bl (decide (i<j))):=Dp λ_ _ _ _ _ _ _ q=>lt_int q
theorem xC:i7 X (compareOp .LtE) (rI0 λi j=>.bl (decide (i<=j))):=Dp λ_ _ _ _ _ _ _ q=>le_int q
theorem i8:i7 X (compareOp .Gt) (rI0 λi j=>.bl (decide (j<i))):=Dp λ_ _ _ _ _ _ _ q=>gt_int q
theorem xD:i7 X (compareOp .GtE) (rI0 λi j=>.bl (decide (j<=i))):=Dp λ_ _ _ _ _ _ _ q=>ge_int q
theorem Ay:i7 X (compareOp .Is) (λx y H Q=>y=.cU/\Q (.bl (decide (x=.cU))) H):=by
 intro pins s σ H x y v u Q I rx ry h;obtain⟨rfl,q⟩:=h;cases ry;refine is_none_gen (bN I q ?_);cases x <;>first
  | (cases rx;rfl)
  | (obtain⟨t,rfl⟩:=rx;rfl)
theorem aQ (b:Expr) {op:CmpOp} (h:op≠.In:=by decide) (h2:op≠.NotIn:=by decide):behindInMarks op b=false:=by
 have e1:(op==CmpOp.In)=false:=by cases op <;>first | rfl | exact absurd rfl h
 have e2:(op==CmpOp.NotIn)=false:=by cases op <;>first | rfl | exact absurd rfl h2
 cases b <;>simp [behindInMarks,e1,e2]
theorem fo {op:CmpOp} {r:R2} (ho:i7 X (compareOp op) r) (ha:PE X a ta) (hb:PE X b tb) (hm:behindInMarks op b=false):PE X (.Compare a [op] [b] pos) (tOp r ta tb):=by
 intro pins s σ H Q I h;exact wpAny_Compare1 (Hg ha hb I h λv u s2 x y H2 I2 rx ry q=>ho pins s2 σ H2 x y v u Q I2 rx ry q) hm
abbrev tTest (t:TE):TT:=λσ H Q=>t σ H λx H'=>JY x λk=>Q k H'
theorem aL {op:CmpOp} {r:R2} (ho:i7 X (compareOp op) r) (ha:PE X a ta) (hb:PE X b tb) (hm:behindInMarks op b=false):PT X (.Compare a [op] [b] pos) (tTest (tOp r ta tb)):=by
 intro pins s σ H Q I h;refine wpAny_isTrue_Compare1 (cK (ha pins s σ H _ I h) λv s1 ⟨x,H1,I1,r1,q1⟩=>cK (hb pins s1 σ H1 _ I1 q1) λu s2 ⟨y,H2,I2,r2,q2⟩=>
  cK (ho pins s2 σ H2 x y v u _ I2 r1 r2 q2) λc s3 ⟨z,H3,I3,r3,q3⟩=>?_) hm
 obtain⟨k,e,q3⟩:=rdB_eq.mp q3;subst e;cases r3;exact wpAny_truthy_bool ⟨H3,I3,q3⟩
abbrev tChain (r r':R2) (ta tb tc:TE):TE:=λσ H Q=>ta σ H λx H1=>tb σ H1 λy H2=>r x y H2 λz H3=>∃k,z=.bl k/\
 (if k=true then tc σ H3 λw' H4=>r' y w' H4 Q else Q (.bl false) H3)
theorem t6 {op QS:CmpOp} {r r':R2} (ho:i7 X (compareOp op) r) (Dj:i7 X (compareOp QS) r') (ha:PE X a ta) (hb:PE X b tb) (hc:PE X c tc)
  (hm:lastMarks [op,QS] [b,c]=false:=by with_unfolding_all rfl):PT X (.Compare a [op,QS] [b,c] pos) (tTest (tChain r r' ta tb tc)):=by
 intro pins s σ H Q I h;refine isTrue_chain (cK (ha pins s σ H _ I h) λv s1 ⟨x,H1,I1,r1,q1⟩=>test_link (cK (hb pins s1 σ H1 _ I1 q1) λu s2 ⟨y,H2,I2,r2,q2⟩=>
  cK (ho pins s2 σ H2 x y v u _ I2 r1 r2 q2) λd s3 ⟨z,H3,I3,r3,k,e,q3⟩=>?_)) hm
 subst e;cases r3;refine wpAny_truthy_bool ?_;cases k with
 | false=>
  exact ite_ff ⟨H3,I3,q3⟩
 | true=>
  refine ite_tt (test_last (cK (hc pins s3 σ H3 _ I3 q3) λw' s4 ⟨z',H4,I4,r4,q4⟩=>cK (Dj pins s4 σ H4 y z' u w' _ I4 r2 r4 q4) λd' s5 dB=>?_));obtain⟨z2,H5,I5,r5,q5⟩:=dB;obtain⟨k2,e2,q5⟩:=rdB_eq.mp q5;subst e2;cases r5;exact wpAny_truthy_bool ⟨H5,I5,q5⟩
theorem om:(sizeLine:Nat)<2^63:=by rw[sizeLine_eq];decide
theorem vG:i7 X (binaryOp .Add) (λx y H Q=>∃i j,x=.str i/\y=.str j/\i.length+j.length<=sizeLine/\Q (.str (i++j)) H):=by
 intro pins s σ H x y v u Q I rx ry h;obtain⟨i,j,rfl,rfl,hz,q⟩:=h;obtain⟨t,rfl⟩:=rx;obtain⟨t',rfl⟩:=ry;exact add_str (λt' tk=>⟨.str (i++j),H,I.tok _,⟨_,rfl⟩,q⟩) hz
theorem vals1 {x:V} {us:List Value} (r:bq [x] us):∃u,us=[u]/\RelV x u:=by
 cases r with
 | cons r1 r2=>cases r2;exact⟨_,rfl,r1⟩
theorem vals2 {x y:V} {us:List Value} (r:bq [x,y] us):∃u w',us=[u,w']/\RelV x u/\RelV y w':=by
 cases r with
 | cons r1 r2=>
  cases r2 with
  | cons r3 r4=>cases r4;exact⟨_,_,rfl,r1,r3⟩
theorem oo:cM X (.builtin "abs") (λxs H Q=>∃i,xs=[.int i]/\Q (.int (if i<0 then -i else i)) H):=by
 intro pins s σ H xs us Q I r h;obtain⟨i,rfl,q⟩:=h;obtain⟨u,rfl,t,rfl⟩:=vals1 r;exact call_abs_int λu tk=>⟨.int (if i<0 then -i else i),H,I.tok _,⟨_,rfl⟩,q⟩
theorem iQ (hc:X.calm=true):cM X (.builtin "max") (λxs H Q=>∃i j,xs=[.int i,.int j]/\Q (.int (if j >i then j else i)) H):=by
 intro pins s σ H xs us Q I r h;obtain⟨i,j,rfl,q⟩:=h;obtain⟨u,w',rfl,⟨t,rfl⟩,⟨t',rfl⟩⟩:=vals2 r;refine max_two_ints (I.ok.hd hc) λh' tk k=>⟨_,H,I.kept k,?_,q⟩
 by_cases hj:j >i
 ·rw[if_pos hj,if_pos hj];exact⟨_,rfl⟩
 ·rw[if_neg hj,if_neg hj];exact⟨_,rfl⟩
theorem fE (hc:X.calm=true):cM X (.builtin "min") (λxs H Q=>∃i j,xs=[.int i,.int j]/\Q (.int (if j<i then j else i)) H):=by
 intro pins s σ H xs us Q I r h;obtain⟨i,j,rfl,q⟩:=h;obtain⟨u,w',rfl,⟨t,rfl⟩,⟨t',rfl⟩⟩:=vals2 r;refine min_two_ints (I.ok.hd hc) λh' tk k=>⟨_,H,I.kept k,?_,q⟩
 by_cases hj:j<i
 ·rw[if_pos hj,if_pos hj];exact⟨_,rfl⟩
 ·rw[if_neg hj,if_neg hj];exact⟨_,rfl⟩
theorem za:cM X (.type "int") (λxs H Q=>(∃i,xs=[.int i]/\Q (.int i) H)\/∃k,xs=[.bl k]/\Q (.int (if k then 1 else 0)) H):=by
 intro pins s σ H xs us Q I r h;rcases h with ⟨i,rfl,q⟩ | ⟨k,rfl,q⟩
 ·obtain⟨u,rfl,t,rfl⟩:=vals1 r;exact call_int_int ⟨.int i,H,I,⟨_,rfl⟩,q⟩
 ·obtain⟨u,rfl,r1⟩:=vals1 r;cases r1;exact call_int_bool ⟨.int (if k then 1 else 0),H,I.tok _,⟨_,rfl⟩,q⟩
theorem rB:cM X (.type "str") (λxs H Q=>∃i,xs=[.int i]/\i.natAbs.log2<1920/\Q (.str (toString i)) H):=by
 intro pins s σ H xs us Q I r h;obtain⟨i,rfl,hz,q⟩:=h;obtain⟨u,rfl,t,rfl⟩:=vals1 r;exact PySem.P.str_of_int hz ⟨.str _,H,I.tok _,⟨_,rfl⟩,q⟩
end
structure vH (h:Heap) (x dx C:Addr) (mA:Str->Option Value):Prop where
 obj:h.get? x=some (PySem.W.instObj C dx)
 ns:h.Ns1 dx mA
 ne:dx≠x
set_option tactic.hygienic true in
theorem zb {h:Heap} {dx:Addr} {mA:Str->Option Value} (n:h.Ns1 dx mA):∃od,h.get? dx=some od/\∀name,PySem.W.lookIn name od=some (mA name):=by
 obtain⟨o,es,ep,ho,hd,hk,_,hm⟩:=n;refine⟨o,ho,λname=>?_⟩;have e:=hm name;unfold nsFind findBy at e;rw[<-Array.find?_toList] at e;unfold PySem.W.lookIn;rw[hd];dsimp only
 split
 ·rename_i y q
  rw[q] at e;exact congrArg some e
 ·rename_i q
  rw[q] at e;have a:es.toList.any (·.refKey)=false:=by
   rw[List.any_eq_false];intro y hy;obtain⟨z,t,QT⟩:=hk y (Array.mem_toList_iff.mp hy);simp [DictEntry.refKey,QT]
  have a':¬es.toList.any (·.refKey)=true:=by rw[a];exact aat
  rw[if_neg a'];exact congrArg some e
theorem vH.look {h:Heap} {x dx C:Addr} {mA:Str->Option Value} (I:vH h x dx C mA):∃od,PySem.W.InstAt h x (PySem.W.instObj C dx) C (some od)/\∀name,PySem.W.lookIn name od=some (mA name):=
 let ⟨od,ho,hl⟩:=zb I.ns
 ⟨od,⟨I.obj,rfl,rfl,ho⟩,hl⟩
section
variable {prog : Program} {w : World} {A : Around} {E : Value -> Shared -> Prop} {s : Shared} {K : aba} {x dx C f : Addr} {mA : Str -> Option Value} {name : Str} {v : Value}
theorem get_map {expr:Bool} {Q:Value->Shared->Prop} (X:K.In s.heap) (I:vH s.heap x dx C mA) (hg:PySem.W.plainGet K C name=true) (hh:PySem.W.hasDictIn K C=true)
  (ha:abf K (.ref C) name=some none) (hv:mA name=some v) (Xj:PySem.W.handedIn v=true) (h:Q v {s with toks:=s.toks+1}):
  wpAny (model prog w) A (getAttr (.ref x) name expr) Q E s:=by
 obtain⟨od,J,hl⟩:=I.look;exact PySem.W.get_value X J (PySem.W.plainGet_of hg).1 (PySem.W.findObj_own hh ha rfl (by rw[hl,hv])) Xj h
theorem Az {pl:Sem Bool} {Q:Value×List Value->Shared->Prop} (X:K.In s.heap) (I:vH s.heap x dx C mA) (hg:PySem.W.plainGet K C name=true)
  (hf:abf K (.ref C) name=some (some (.ref f))) (ht:PySem.W.isFn K (.ref f)=true) (hv:mA name=none) (h:Q (.ref f,[.ref x]) s):
  wpAny (model prog w) A (getMethod (.ref x) name pl) Q E s:=by
 obtain⟨od,J,hl⟩:=I.look;exact PySem.W.method_fn X J (PySem.W.plainGet_of hg).1 (PySem.W.plainGet_of hg).2 hf (beq_iff_eq.mp ht) (by show(PySem.W.lookIn name od).map (·.isSome)=some false;rw[hl,hv];rfl) h
theorem Dq {ns:List Str} {Q:Unit->Shared->Prop} (X:K.In s.heap) (I:vH s.heap x dx C mA)
  (hs:abf K (.ref C) "__setattr__"=some (some (.builtin "object.__setattr__"))) (hp:PySem.W.plainOver K C=true) (ht:PySem.W.takerIn K C name=some none) (hh:PySem.W.hasDictIn K C=true)
  (hw:PySem.Within mA ns) (hsz:ns.length<=sizeLine)
  (h:∀h',vH h' x dx C (λy=>if y=name then some v else mA y)->Heap.SameBut dx s.heap h'->Q () {s with heap:=h',toks:=s.toks+2}):
  wpAny (model prog w) A (setAttr (.ref x) name v) Q E s:=by
 obtain⟨od,J,hl⟩:=I.look;refine PySem.W.set_plain X J hs (PySem.W.osa_open (s:={s with toks:=s.toks+1}) (r:=none) X J hp ht λb=>?_);obtain⟨cd,hc,QJ⟩:=PySem.W.any_some hh;have hx:s.heap.get? x=some ⟨.ref C,some dx,.plain,#[]⟩:=I.obj;refine wpAny_bind (wpAny_pure (wpAny_bind (wpAny_bind (wpAny_loadPart hx (wpAny_bind (PySem.W.Looks.here (s:={s with toks:=s.toks+1}) (PySem.W.looks_clsIn X hc) ?_))))));rw[QJ];refine wpAny_pure (a:=some dx) (wpAny_bind (wpAny_pure (wpAny_bind ?_)));refine wpAny_nsSet1 (s:={s with toks:=s.toks+1}) I.ns λh' Pu Fu=>?_;obtain⟨oD,esD,epD,Xk,Xl,Xm⟩:=Pu.count (PySem.Within.cons name v hw);refine wpAny_bind (wpAny_lookBehind Xk (by rw[Xl];exact pastItsLine_dict (aao Xm (by rw[aap];lia))) ?_);exact wpAny_pure (h _ ⟨(Fu.2 _ (Ne.symm I.ne)).trans I.obj,Pu,I.ne⟩ Fu)
theorem AA {R:Result->Shared->Prop} {vs:List Value} {kw:List (Str×Value)} (X:K.In s.heap) (hm:PySem.W.makesIn K C=true)
  (hi:abf K (.ref C) "__init__"=some (some (.ref f))) (hf:PySem.W.typeIn K (.ref f)=some (.type "function"))
  (h:codeAny (model prog w) (A.under (.builtin "type.__call__" ⟨.ref C::vs,kw⟩)) (.call (.ref f) ⟨.ref (s.heap.objs.size+1)::vs,kw⟩) (PySem.W.InitBack (s.heap.objs.size+1) R)
   {s with heap:=(s.heap.push PySem.W.emptyDict).push (PySem.W.instObj C s.heap.objs.size)}):
  codeAny (model prog w) A (.call (.ref C) ⟨vs,kw⟩) R s:=by
 obtain⟨hh,g,d,t,os⟩:=s;exact PySem.W.make_core (PySem.W.makes_of X hm) (PySem.W.looks_findIn X hi) (λself=>PySem.W.bind_fn X self hf) (.inl rfl) h
end
abbrev gn (f:Str) (v:V):List (Str×V)->List (Str×V)
 | []=>[(f,v)]
 | (g,x)::r=>if g=f then (g,v)::r else (g,x)::gn f v r
theorem mD (f g:Str) (v:V):∀fs:List (Str×V),(gn f v fs).lookup g=if g=f then some v else fs.lookup g
 | []=>by
  show List.lookup g [(f,v)]=_
  by_cases h:g=f
  ·have hb:(g==f)=true:=beq_iff_eq.mpr h;simp only[List.lookup,hb,if_pos h]
  ·have hb:(g==f)=false:=beq_eq_false_iff_ne.mpr h;simp only[List.lookup,hb,if_neg h]
 | (k,x)::r=>by
  have ih:=mD f g v r;rw[show gn f v ((k,x)::r)=(if k=f then (k,v)::r else (k,x)::gn f v r) from rfl]
  by_cases hk:k=f
  ·rw[if_pos hk]
   by_cases h:g=k
   ·have hb:(g==k)=true:=beq_iff_eq.mpr h;simp only[List.lookup,hb,if_pos (h.trans hk)]
   ·have hb:(g==k)=false:=beq_eq_false_iff_ne.mpr h;simp only[List.lookup,hb,if_neg (λe:g=f=>h (e.trans hk.symm))]
  ·rw[if_neg hk]
   by_cases h:g=k
   ·have hb:(g==k)=true:=beq_iff_eq.mpr h;simp only[List.lookup,hb,if_neg (λe:g=f=>hk (h.symm.trans e))]
   ·have hb:(g==k)=false:=beq_eq_false_iff_ne.mpr h;simp only[List.lookup,hb];exact ih
theorem lE (f:Str) (v:V):∀fs:List (Str×V),f∈(gn f v fs).map (·.1)/\∀g,g∈fs.map (·.1)->g∈(gn f v fs).map (·.1)
 | []=>⟨by simp [gn],λg h=>by simp at h⟩
 | (k,x)::r=>by
  obtain⟨i1,i2⟩:=lE f v r;rw[show gn f v ((k,x)::r)=(if k=f then (k,v)::r else (k,x)::gn f v r) from rfl]
  by_cases hk:k=f
  ·rw[if_pos hk];subst hk;exact⟨by simp,λg h=>by simpa using h⟩
  ·rw[if_neg hk];refine⟨?_,λg h=>?_⟩
   ·rw[aae];exact aam _ i1
   ·rw[aae] at h ⊢;rcases aaB.mp h with e | e
    ·exact aaB.mpr (.inl e)
    ·exact aam _ (i2 g e)
theorem mE (f:Str) (v:V):∀fs:List (Str×V),(gn f v fs).length<=fs.length+1
 | []=>by simp [gn]
 | (k,x)::r=>by
  have ih:=mE f v r;rw[show gn f v ((k,x)::r)=(if k=f then (k,v)::r else (k,x)::gn f v r) from rfl]
  by_cases hk:k=f
  ·rw[if_pos hk,aap,aap];lia
  ·rw[if_neg hk,aap,aap];lia
theorem hZ.some_of {v:V} {o:Option Value} (r:hZ (some v) o):∃u,o=some u/\RelV v u:=by
 cases o with
 | none=>exact(show False from r).elim
 | some u=>exact⟨u,rfl,r⟩
theorem hZ.none_of {o:Option Value} (r:hZ none o):o=none:=by
 cases o with
 | none=>rfl
 | some u=>exact(show False from r).elim
theorem zc {v:V} {u:Value} (r:RelV v u):PySem.W.handedIn u=true:=by
 cases v with
 | cU=>cases (show u=Value.none from r);rfl
 | bl b=>cases (show u=Value.bool b from r);rfl
 | int i=>obtain⟨t,e⟩:=(show ∃t,u=Value.int i t from r);cases e;rfl
 | str x=>obtain⟨t,e⟩:=(show ∃t,u=Value.str x t from r);cases e;rfl
 | Ad b=>obtain⟨t,e⟩:=(show ∃t,u=Value.bytes b t from r);cases e;rfl
 | Fk b=>obtain⟨t,e⟩:=(show ∃t,u=Value.float b t from r);cases e;rfl
 | ref a=>cases (show u=Value.ref a from r);rfl
 | ty n=>cases (show u=Value.type n from r);rfl
section
variable {P : Program} {w : World} {H H' : Hp} {h h' : Heap} {a C dx : Addr} {fs W9 : List (Str × V)}
theorem jZ (bP:gq P w H h) (e:H a=some (.ins C dx fs)):∃mA,vH h a dx C mA/\(∀f,hZ (fs.lookup f) (mA f))/\PySem.Within mA (fs.map (·.1))/\fs.length<=1000/\H dx=some (.own a):=by
 obtain⟨d,z,ne,ob,mA,n,r,q⟩:=(show cf P w H h a (.ins C dx fs) from bP a _ e)
 exact⟨mA,⟨ob,n,ne⟩,r,q,z,d⟩
end
structure xE (K:aba) (C:Addr):Prop where
 pg:PySem.W.plainGet K C Str.empty=true
 hd:PySem.W.hasDictIn K C=true
 po:PySem.W.plainOver K C=true
 sa:abf K (.ref C) "__setattr__"=some (some (.builtin "object.__setattr__"))
theorem xE.get {K:aba} {C:Addr} (c:xE K C) (f:Str):PySem.W.plainGet K C f=true:=c.pg
abbrev lF (K:aba) (C:Addr) (f:Str):Prop:=abf K (.ref C) f=some none
theorem lF.K8 {K:aba} {C:Addr} {f:Str} (n:lF K C f):PySem.W.takerIn K C f=some none:=by
 unfold PySem.W.takerIn;rw[show abf K (.ref C) f=some none from n];rfl
structure Con (K:aba) (C:Addr) (f:Str) (v:V) (u:Value):Prop where
 at_:abf K (.ref C) f=some (some u)
 rel:RelV v u
 get:PySem.W.specialIn K u "__get__"=some none
 cp:PySem.W.copiedNames.contains f=false
structure AB (K:aba) (C:Addr) (m:Str) (f:Addr):Prop where
 at_:abf K (.ref C) m=some (some (.ref f))
 fn:PySem.W.isFn K (.ref f)=true
 kp:abb K (.ref f)=true
section
variable {X : Cx} {pins : List (Addr × Obj)} {σ : St} {H : Hp} {s : Shared} {a C dx : Addr} {fs : List (Str × V)} {f : Str} {v : V} {A : Around} {E : Value -> Shared -> Prop}
theorem vI {b:Bool} {Q:Value->Shared->Prop} (I:Inv X pins σ H s) (e:H a=some (.ins C dx fs)) (c:xE X.K C) (n:lF X.K C f) (l:fs.lookup f=some v)
  (h:∀u s',Inv X pins σ H s'->RelV v u->Q u s'):wpAny (model X.prog X.w) A (getAttr (.ref a) f b) Q E s:=by
 obtain⟨mA,O,r,_,_,_⟩:=jZ I.bP e;obtain⟨u,hu,ru⟩:=hZ.some_of (v:=v) (o:=mA f) (by rw[<-l];exact r f);exact get_map I.ib O (c.get f) c.hd n hu (zc ru) (h u _ (I.tok _) ru)
theorem oq {m:Str} {g:Addr} {pl:Sem Bool} {Q:Value×List Value->Shared->Prop} (I:Inv X pins σ H s) (e:H a=some (.ins C dx fs)) (c:xE X.K C) (k:AB X.K C m g) (l:fs.lookup m=none)
  (h:Q (.ref g,[.ref a]) s):wpAny (model X.prog X.w) A (getMethod (.ref a) m pl) Q E s:=by
 obtain⟨mA,O,r,_,_,_⟩:=jZ I.bP e;have hn:mA m=none:=hZ.none_of (by rw[<-l];exact r m);exact Az I.ib O (c.get m) k.at_ k.fn hn h
theorem vJ {y:V} {u:Value} {Q:Unit->Shared->Prop} (I:Inv X pins σ H s) (e:H a=some (.ins C dx fs)) (c:xE X.K C) (n:lF X.K C f) (hl:fs.length<1000) (ry:RelV y u)
  (h:∀s',Inv X pins σ (upd H a (.ins C dx (gn f y fs))) s'->Q () s'):wpAny (model X.prog X.w) A (setAttr (.ref a) f u) Q E s:=by
 obtain⟨mA,O,r,wi,_,ho⟩:=jZ I.bP e;have hz:(fs.map (·.1)).length<=sizeLine:=by rw[aad,sizeLine_eq];lia
 refine Dq I.ib O c.sa c.po n.K8 c.hd wi hz λh' O' sb=>h _ ?_;have hd:∃o,h'.get? dx=some o:=let ⟨o,_,_,e',_⟩:=O'.ns;⟨o,e'⟩;refine I.write (x:=a) (e:=dx) (by rw[e];exact True.intro) (.inr ho) (λb q hb z=>(sb.2 b hb).trans z) hd ?_;refine⟨by rw[av O.ne];exact ho,?_,O.ne,O'.obj,_,O'.ns,λg=>?_,λg hg=>?_⟩
 ·have:=mE f y fs;lia
 ·show hZ ((gn f y fs).lookup g) (if g=f then some u else mA g);rw[mD]
  by_cases q:g=f
  ·rw[if_pos q,if_pos q];exact ry
  ·rw[if_neg q,if_neg q];exact r g
 ·by_cases q:g=f
  ·rw[q];exact(lE f y fs).1
  ·refine(lE f y fs).2 g (wi g λz=>hg ?_);show(if g=f then some u else mA g)=none;rw[if_neg q];exact z
theorem Inv.made (I:Inv X pins σ H s):Inv X pins σ (upd (upd H s.heap.objs.size (.own (s.heap.objs.size+1))) (s.heap.objs.size+1) (.ins C s.heap.objs.size []))
  {s with heap:=(s.heap.push PySem.W.emptyDict).push (PySem.W.instObj C s.heap.objs.size)}:=by
 have e1:(s.heap.push PySem.W.emptyDict).get? s.heap.objs.size=some PySem.W.emptyDict:=abl s.heap rfl;have e2:((s.heap.push PySem.W.emptyDict).push (PySem.W.instObj C s.heap.objs.size)).get? (s.heap.objs.size+1)=some (PySem.W.instObj C s.heap.objs.size):=by
  have:=abl (s.heap.push PySem.W.emptyDict) (o:=PySem.W.instObj C s.heap.objs.size) rfl
  rwa [Heap.size_push] at this
 have e3:(s.heap.push PySem.W.emptyDict).Ns s.heap.objs.size (λ_=>none):=⟨PySem.W.emptyDict,#[],_,e1,rfl,(λe he=>absurd he (by simp)),λ_=>rfl⟩
 have I1:=I.laid (a:=s.heap.objs.size) (o:=.own (s.heap.objs.size+1)) (h':=s.heap.push PySem.W.emptyDict) (t':=s.toks) (λb u q=>abk _ q) (aag _) ⟨_,e1⟩;refine I1.laid (a:=s.heap.objs.size+1) (o:=.ins C s.heap.objs.size []) (t':=s.toks) (λb u q=>abk _ q) (Nat.le_of_eq (Heap.size_push _ _)) ?_;have ne:s.heap.objs.size≠s.heap.objs.size+1:=aar (aaZ _);refine⟨by rw[av ne,ao],aah _,ne,e2,λ_=>none,(Heap.Ns1.of_empty e3).at λo q=>abk _ q,λ_=>True.intro,λy hy=>absurd rfl hy⟩
theorem Dr {prog:Program} {w:World} {env:Env} {e:Expr} {f:Str} {pos:Pos} {s:Shared} {Q:Value->Shared->Prop} (hb:attributeBase e f env (eval e env)=eval e env)
  (h:wpAny (model prog w) A (eval e env) (λo s₁=>wpAny (model prog w) A (getAttr o f true) Q E s₁) E s):wpAny (model prog w) A (eval (.Attribute e f pos) env) Q E s:=
 Attribute_any_ h (by rw[arm_eval_Attribute,hb])
end
abbrev du (K:aba) (ta:TE) (f:Str):TE:=λσ H Q=>ta σ H λx H1=>∃a C dx fs v,x=.ref a/\H1 a=some (.ins C dx fs)/\xE K C/\lF K C f/\fs.lookup f=some v/\Q v H1
abbrev ng (K:aba) (ta tv:TE) (f:Str):TS:=λD σ H=>tv σ H λy H1=>ta σ H1 λx H2=>∃a C dx fs,x=.ref a/\H2 a=some (.ins C dx fs)/\xE K C/\lF K C f/\fs.length<1000/\
 D.nx σ (upd H2 a (.ins C dx (gn f y fs)))
section
variable {X : Cx} {o e value : Expr} {f : Str} {pos pos' nh : Pos} {ta tv : TE}
theorem bp (he:PE X e ta) (hb:attributeBase e f X.env (eval e X.env)=eval e X.env):PE X (.Attribute e f pos) (du X.K ta f):=by
 intro pins s σ H Q I h;refine Dr hb (cK (he pins s σ H _ I h) λu s1 dB=>?_);obtain⟨x,H1,I1,rx,a,C,dx,fs,v,ex,ea,c,n,l,q⟩:=dB;subst ex;obtain rfl:u=Value.ref a:=rx;exact vI I1 ea c n l λu' s2 I2 ru=>⟨v,H1,I2,ru,q⟩
theorem fJ (ha:PE X o ta) (hv:PE X value tv) (hs:swapsWith value (some (.Attribute o f pos')) pos.line X.env=pure false):PS X (.Assign [.Attribute o f pos'] value pos) (ng X.K ta tv f):=by
 intro pins s σ H D I h;refine plainObj_wpAny_Assign_Attribute (cK (hv pins s σ H _ I h) λu s1 ⟨y,H1,I1,ry,q⟩=>cK (ha pins s1 σ H1 _ I1 q) λov s2 dB=>?_) hs;obtain⟨x,H2,I2,rx,a,C,dx,fs,ex,ea,c,n,l,q2⟩:=dB;subst ex;obtain rfl:ov=Value.ref a:=rx;exact vJ I2 ea c n l ry λs3 I3=>⟨σ,_,I3,q2⟩
end
section
variable {X : Cx} {pins : List (Addr × Obj)} {σ : St} {H : Hp} {s : Shared} {A : Around} {E : Value -> Shared -> Prop} {Q : Value -> Shared -> Prop} {c : Value} {b : Bool}
inductive ia (K:aba) (H:Hp):V->Value->Prop where
 | cU:ia K H .cU (.type "NoneType")
 | bl (x:Bool):ia K H (.bl x) (.type "bool")
 | int (i:Int):ia K H (.int i) (.type "int")
 | str (x:Str):ia K H (.str x) (.type "str")
 | Fk (x:UInt64):ia K H (.Fk x) (.type "float")
 | lst {a:Addr} {xs:List V} (e:H a=some (.lst xs)):ia K H (.ref a) (.type "list")
 | qu {a:Addr} {o:Obj} {xs:List V} (e:H a=some (.qu o (.lst xs))):ia K H (.ref a) (.type "list")
 | tup {a:Addr} {xs:List V} (e:H a=some (.tup xs)):ia K H (.ref a) (.type "tuple")
 | dK {a:Addr} {kvs:List (Key×V)} (e:H a=some (.dK kvs)):ia K H (.ref a) (.type "dict")
 | dT {a:Addr} {kvs:List (List Key×V)} (e:H a=some (.dT kvs)):ia K H (.ref a) (.type "dict")
 | ins {a C dx:Addr} {fs:List (Str×V)} (e:H a=some (.ins C dx fs)) (cl:xE K C) (ha:abf K (.ref C) "__class__"=some (some (.builtin "object.__class__")))
   (hn:PySem.W.specialIn K (.builtin "object.__class__") "__get__"=some (some (.builtin "getset_descriptor.__get__"))) (Pw:PySem.W.takesIn K (.builtin "object.__class__")=some true)
   (hm:PySem.W.mroIn K C (.type "object")=some true):ia K H (.ref a) (.ref C)
theorem zd {x:V} {u t:Value} (I:Inv X pins σ H s) (rx:RelV x u) (ty:ia X.K H x t) (e:PySem.W.kitOne X.K t c=some b) (h:∀tk,Q (.bool b) {s with toks:=tk}):
  wpAny (model X.prog X.w) A (call (.builtin "isinstance") [u,c]) Q E s:=by
 cases ty with
 | cU=>cases (show u=Value.none from rx);exact aaU PySem.W.kitx_none I.ib True.intro e (λz=>nomatch z) h
 | bl y=>cases (show u=Value.bool y from rx);exact aaU PySem.W.kitx_bool I.ib True.intro e (λz=>nomatch z) h
 | int i=>obtain⟨t,q⟩:=(show ∃t,u=Value.int i t from rx);cases q;exact aaU PySem.W.kitx_int I.ib True.intro e (λz=>nomatch z) h
 | str y=>obtain⟨t,q⟩:=(show ∃t,u=Value.str y t from rx);cases q;exact aaU PySem.W.kitx_str I.ib True.intro e (λz=>nomatch z) h
 | Fk y=>obtain⟨t,q⟩:=(show ∃t,u=Value.float y t from rx);cases q;exact aaU PySem.W.kitx_float I.ib True.intro e (λz=>nomatch z) h
 | @lst a xs ea=>
  cases (show u=Value.ref a from rx);obtain⟨_,_,n,_,h1⟩:=(show cf X.prog X.w H s.heap a (.lst xs) from I.bP a _ ea)
  exact aaU PySem.W.kitx_list I.ib ⟨_,h1,rfl⟩ e (λz=>nomatch z) h
 | @qu a ob xs ea=>
  cases (show u=Value.ref a from rx);obtain⟨_,_,_,n,_,h1⟩:=(show cf X.prog X.w H s.heap a (.qu ob (.lst xs)) from I.bP a _ ea)
  exact aaU PySem.W.kitx_list I.ib ⟨_,h1,rfl⟩ e (λz=>nomatch z) h
 | @tup a xs ea=>
  cases (show u=Value.ref a from rx);obtain⟨_,_,_,p⟩:=(show cf X.prog X.w H s.heap a (.tup xs) from I.bP a _ ea)
  obtain⟨o,h1,h2,_⟩:=p;exact aaU PySem.W.kitx_tuple I.ib ⟨o,h1,h2⟩ e (λz=>nomatch z) h
 | @dK a kvs ea=>
  cases (show u=Value.ref a from rx);obtain⟨_,_,vs,_,p⟩:=(show cf X.prog X.w H s.heap a (.dK kvs) from I.bP a _ ea)
  obtain⟨o,es,ep,h1,h2,_⟩:=p;exact aaU PySem.W.kitx_dict I.ib ⟨o,h1,h2.1⟩ e (λz=>nomatch z) h
 | @dT a kvs ea=>
  cases (show u=Value.ref a from rx);obtain⟨_,_,xs,_,o,es,ep,h1,h2,_⟩:=(show cf X.prog X.w H s.heap a (.dT kvs) from I.bP a _ ea)
  exact aaU PySem.W.kitx_dict I.ib ⟨o,h1,h2.1⟩ e (λz=>nomatch z) h
 | @ins a C dx fs ea cl ha hn Pw hm=>
  cases (show u=Value.ref a from rx);obtain⟨mA,O,_⟩:=jZ I.bP ea;obtain⟨od,J,_⟩:=O.look;exact aaU (PySem.W.kitx_own (cl.get _) cl.hd ha hn Pw hm) I.ib J e (λz=>nomatch z) h
end
structure dY (k:Nat) (A:Around):Prop where
 hd:A.handled=none
 dp:A.depth+3*k+5<recursionLimit
 un:A.units+16*k+200<cLine
theorem dY.mono {j k:Nat} {A:Around} (r:dY k A) (h:j<=k):dY j A:=⟨r.hd,by have:=r.dp;lia,by have:=r.un;lia⟩
theorem dY.deeper {k:Nat} {A:Around} (r:dY (k+1) A) (env:Env):dY k (A.deeper env):=
 ⟨r.hd,by have:=r.dp;show A.depth+1+3*k+5<_;lia,by have:=r.un;show A.units+3+16*k+200<_;lia⟩
theorem vK {A:Around} {C:Addr} {us:List Value} {kw:List (Str×Value)}:(A.under (.builtin "type.__call__" ⟨.ref C::us,kw⟩)).depth=A.depth+1:=by
 first | rfl | simp [Around.under,Code.weight,Code.isCreation,Code.isGuard,Code.isCaller,Code.frames,Code.isFrame,guardIds]
theorem vL {A:Around} {C:Addr} {us:List Value} {kw:List (Str×Value)}:(A.under (.builtin "type.__call__" ⟨.ref C::us,kw⟩)).units=A.units+1:=by
 first | rfl | simp [Around.under,Code.cUnits,Code.frames,Code.isFrame]
theorem dY.make {k:Nat} {A:Around} (r:dY (k+1) A) (C:Addr) (us:List Value) (kw:List (Str×Value)):dY k (A.under (.builtin "type.__call__" ⟨.ref C::us,kw⟩)):=
 ⟨r.hd,by have:=r.dp;rw[vK];lia,by have:=r.un;rw[vL];lia⟩
theorem dY.depth {k:Nat} {A:Around} (r:dY k A):A.depth<recursionLimit:=by have:=r.dp;lia
theorem dY.units {k:Nat} {A:Around} (r:dY k A):A.units+64<cLine:=by have:=r.un;lia
abbrev tNil:TA:=λ_ H Q=>Q [] H
abbrev tCons (ta:TE) (tr:TA):TA:=λσ H Q=>ta σ H λx H1=>tr σ H1 λxs H2=>Q (x::xs) H2
section
variable {X : Cx} {e : Expr} {es : List Expr} {te : TE} {t : TA} {pos : Pos}
theorem af:PA X [] tNil:=λ_ _ _ _ H Q I h=>Calls.spliced_nil ⟨[],H,I,.nil,h⟩
theorem aa (ha:PE X e te) (hr:PA X es t) (hs:starEach (e::es) X.env=(false,eval e X.env)::starEach es X.env:=by first | exact se rfl | rfl):PA X (e::es) (tCons te t):=by
 intro pos pins s σ H Q I h;rw[hs];show wpAny _ _ (spliced ((false,eval e X.env)::backTo pos (starEach es X.env))) _ _ s;refine Calls.spliced_cons (cK (ha pins s σ H _ I h) λu s1 dB=>?_);obtain⟨x,H1,I1,r1,q1⟩:=dB;exact cK (hr pos pins s1 σ H1 _ I1 q1) λus s2 ⟨xs,H2,I2,r2,q2⟩=>⟨x::xs,H2,I2,.cons r1 r2,q2⟩
abbrev tLst (t:TA):TE:=λσ H Q=>t σ H λxs H1=>xs.length<=sizeLine/\∀p,H1 p=none->Q (.ref p) (upd H1 p (.lst xs))
theorem bT (h:PA X es t):PE X (.List es pos) (tLst t):=by
 intro pins s σ H Q I hq;refine wpAny_List_spliced (cK (h pos pins s σ H _ I hq) λus s1 ⟨xs,H1,I1,r,z,q⟩=>⟨by rw[<-r.length];exact z,?_⟩);have hf:H1 s1.heap.objs.size=none:=I1.bP.fresh (aag _);refine⟨.ref s1.heap.objs.size,upd H1 s1.heap.objs.size (.lst xs),I1.laid (t':=s1.toks) (λb u e=>abk _ e) (aag _) ?_,rfl,q _ hf⟩;exact⟨z,us,0,r,abl _ rfl⟩
end
@[inline]abbrev Sp:=List V->Hp->VK->XK->Prop
@[inline]abbrev lG:=List Env->Hp->Shared->XK->Value->Shared->Prop
structure vM (P:Program) (w:World) (K:aba) (mg:Str->Option Value) (base:Heap) (A:Around) (outer:List Env) (s:Shared) (H:Hp):Prop where
 frames:A.frames=some outer
 mod:Mod K mg base
 bs:∀b o,base.get? b=some o->s.heap.get? b=some o/\H b=none
 CY:base.objs.size<=s.heap.objs.size
 lB:s.heap.FunFrames base outer
 Fl:∀b∈gL outer,H b=none
 bP:gq P w H s.heap
 bare:AllBare s.gens
abbrev CE (outer:List Env) (P:Program) (w:World) (H:Hp) (s:Shared) (Q:VK) (u:Value) (s':Shared):Prop:=
 ∃v H',s'.os=s.os/\AllBare s'.gens/\Un (gL outer) [] H H' s.heap s'.heap/\gq P w H' s'.heap/\RelV v u/\Q v H'
abbrev CR (CX:lG) (outer:List Env) (P:Program) (w:World) (H:Hp) (s:Shared) (Q:VK) (E:XK) (r:Result) (s':Shared):Prop:=
 match r with
 | .ok (.ret u)=>CE outer P w H s Q u s'
 | .ok _=>False
 | .error e=>CX outer H s E e s'
structure fK (P:Program) (w:World) (K:aba) (mg:Str->Option Value) (base:Heap) (CX:lG) (k:Nat) (f:Addr) (fd:FuncData) (ps:List Str) (sp:Sp):Prop where
 len:∀vs H Q E,sp vs H Q E->vs.length=ps.length
 run:∀(A:Around) (outer:List Env) (s:Shared) (H:Hp) (args:Args) (us:List Value) (vs:List V) (Q:VK) (E:XK),dY k A->vM P w K mg base A outer s H->BindsTo s fd args (ps.zip us)->bq vs us->sp vs H Q E->
  codeAny (model P w) A (.call (.ref f) args) (CR CX outer P w H s Q E) s
theorem fK.mono {P:Program} {w:World} {K:aba} {mg:Str->Option Value} {base:Heap} {CX:lG} {j k:Nat} {f:Addr} {fd:FuncData} {ps:List Str} {sp:Sp} (F:fK P w K mg base CX j f fd ps sp) (h:j<=k):
  fK P w K mg base CX k f fd ps sp:=⟨F.len,λA outer s H args us vs Q E hr=>F.run A outer s H args us vs Q E (hr.mono h)⟩
theorem vM.make {P:Program} {w:World} {K:aba} {mg:Str->Option Value} {base:Heap} {A:Around} {outer:List Env} {s:Shared} {H:Hp} (e:vM P w K mg base A outer s H) (C:Addr) (us:List Value) (kw:List (Str×Value)):
  vM P w K mg base (A.under (.builtin "type.__call__" ⟨.ref C::us,kw⟩)) outer s H:=⟨by first | exact e.frames | (simpa [Around.under,Code.envs,Code.isFrame,pushEnvs] using e.frames),e.mod,e.bs,e.CY,e.lB,e.Fl,e.bP,e.bare⟩
section
variable {X : Cx} {pins : List (Addr × Obj)} {σ : St} {H : Hp} {s s' : Shared}
theorem Inv.K9 (I:Inv X pins σ H s):vM X.prog X.w X.K X.mg X.base X.A X.stack s H:=
 ⟨I.ok.frames,I.ok.mod,I.bs,aao I.ok.CY I.sz,I.stack,I.rk,I.bP,I.bare⟩
theorem Inv.after {Q:VK} {u:Value} (I:Inv X pins σ H s) (h:CE X.stack X.prog X.w H s Q u s'):EP X pins σ Q u s':=by
 obtain⟨v,H',os,bare,un,bP,r,q⟩:=h;obtain⟨hh,g,d,t,Xn⟩:=s';obtain rfl:Xn=s.os:=os;exact⟨v,H',I.call (h':=hh) (g':=g) (d':=d) (t':=t) (ch:=[]) un bP bare (λb z=>absurd z (by simp)),r,q⟩
end
abbrev tCall (sp:Sp) (ic:List V) (E:XK) (t:TA):TE:=λσ H Q=>t σ H λvs H1=>sp (vs++ic) H1 Q E
abbrev cg (C:Addr) (m:Str) (sp:Sp) (ic:List V) (E:XK) (ta:TE) (t:TA):TE:=λσ H Q=>ta σ H λx H1=>dr x λa=>∃dx fs,H1 a=some (.ins C dx fs)/\fs.lookup m=none/\
 t σ H1 λvs H2=>sp (.ref a::(vs++ic)) H2 Q E
abbrev xF (C:Addr) (sp:Sp) (ic:List V) (E:XK) (t:TA):TE:=λσ H Q=>t σ H λvs H1=>∀x dx,H1 x=none->H1 dx=none->dx≠x->
 sp (.ref x::(vs++ic)) (upd (upd H1 dx (.own x)) x (.ins C dx [])) (λv H2=>v=.cU/\Q (.ref x) H2) E
abbrev Binds (K:aba) (fd:FuncData) (ps:List Str) (ds:List Value):Prop:=
 ∀(s:Shared) (us:List Value),K.In s.heap->(us++ds).length=ps.length->BindsTo s fd ⟨us,[]⟩ (ps.zip (us++ds))
theorem Binds.all {K:aba} {fd:FuncData} {ps:List Str} (h:∀us:List Value,us.length=ps.length->bindArgs fd ⟨us,[]⟩=pure (ps.zip us)):Binds K fd ps []:=λs us _ hl=>by
 rw[List.append_nil] at hl ⊢;exact .of_eq (h us hl)
abbrev eU (CX:lG) (X:Cx) (E:XK):Prop:=∀(pins:List (Addr×Obj)) (σ:St) (H:Hp) (s:Shared) (e:Value) (s':Shared),Inv X pins σ H s->CX X.stack H s E e s'->X.xe e s'
section
variable {X : Cx} {CX : lG} {k : Nat} {f C : Addr} {fd : FuncData} {ps : List Str} {sp : Sp} {ic : List V} {ds : List Value} {E : XK} {x m : Str} {p pos apos : Pos} {e o : Expr} {es : List Expr} {ta : TE} {t : TA}
theorem vN {pins:List (Addr×Obj)} {σ:St} {H:Hp} {s:Shared} {Q:VK} {us:List Value} {vs:List V} (F:fK X.prog X.w X.K X.mg X.base CX k f fd ps sp) (hr:dY k X.A) (hb:Binds X.K fd ps ds) (hd:bq ic ds) (hx:eU CX X E)
  (I:Inv X pins σ H s) (r:bq vs us) (h:sp (vs++ic) H Q E):wpAny (model X.prog X.w) X.A (call (.ref f) us) (EP X pins σ Q) X.xe s:=by
 have r2:bq (vs++ic) (us++ds):=r.append hd;have hl:(us++ds).length=ps.length:=by rw[<-r2.length];exact F.len _ _ _ _ h
 refine wpAny_call (codeAny_mono (F.run X.A X.stack s H ⟨us,[]⟩ (us++ds) (vs++ic) Q E hr I.K9 (hb s us I.ib hl) r2 h) λr s' hq=>?_);cases r with
 | error e=>exact hx pins σ H s e s' I hq
 | ok fl=>
  cases fl with
  | ret u=>exact I.after hq
  | next=>exact False.elim hq
  | brk=>exact False.elim hq
  | cont=>exact False.elim hq
theorem Ds (F:fK X.prog X.w X.K X.mg X.base CX k f fd ps sp) (hr:dY k X.A) (hg:Gl X x) (hm:X.mg x=some (.ref f)) (hk:abb X.K (.ref f)=true) (hb:Binds X.K fd ps ds) (hd:bq ic ds) (hx:eU CX X E)
  (ha:PA X (e::es) t) (ze:(x==("__debug__":Str))=false:=by decide) (he:starEach (e::es) X.env=(false,eval e X.env)::starEach es X.env:=by injections) (hpl:(backTo pos (starEach es X.env)).any (·.1)=false:=by injections):
  PE X (.Call (.Name x p) (e::es) [] pos) (tCall sp ic E t):=by
 intro pins s σ H Q I h;refine wpAny_Call_Name_kw (nG I hg hm ?_ ze);refine PySem.W.callWith_K (h₀:=X.base) I.ok.mod.JW hk (cK (ha pos pins s σ H _ I h) λus s1 ⟨vs,H1,I1,r,q⟩=>⟨I1.ib,?_⟩) he hpl;exact vN F hr hb hd hx I1 r q
theorem Dt {pl:Sem Bool} (he:PE X o ta) (c:xE X.K C) (hm:AB X.K C m f) (F:fK X.prog X.w X.K X.mg X.base CX k f fd ps sp) (hr:dY k X.A) (hb:Binds X.K fd ps ds) (hd:bq ic ds) (hx:eU CX X E) (ha:PA X (e::es) t)
  (Hc:starEach (e::es) X.env=(false,eval e X.env)::starEach es X.env:=by injections) (hpl:(backTo pos (starEach es X.env)).any (·.1)=false:=by injections)
  (ht:eval (.Call (.Attribute o m apos) (e::es) [] pos) X.env=(do
   let ov <-eval o X.env
   standAt apos.atName
   let (f,first) <-holding [ov] (getMethod ov m pl)
   callWith pos f first (backTo pos (starEach (e::es) X.env)) (backToKw pos (keywordEach [] X.env))):=by rfl):
  PE X (.Call (.Attribute o m apos) (e::es) [] pos) (cg C m sp ic E ta t):=by
 intro pins s σ H Q I h;refine PySem.W.methodCall_KW (pl:=pl) (cK (he pins s σ H _ I h) λu s1 dB=>?_) ht;obtain⟨x,H1,I1,rx,q0⟩:=dB;obtain⟨a,ex,dx,fs,ea,l,q⟩:=rdR_eq.mp q0;subst ex;obtain rfl:u=Value.ref a:=rx;refine oq I1 ea c hm l ?_;refine PySem.W.callWith_K (first:=[.ref a]) (h₀:=X.base) I.ok.mod.JW hm.kp (cK (ha pos pins s1 σ H1 _ I1 q) λus s2 ⟨vs,H2,I2,r,q2⟩=>⟨I2.ib,?_⟩) Hc hpl;exact vN (us:=.ref a::us) (vs:=.ref a::vs) F hr hb hd hx I2 (.cons rfl r) q2
theorem AD {pl:Sem Bool} (he:PE X o ta) (c:xE X.K C) (hm:AB X.K C m f) (F:fK X.prog X.w X.K X.mg X.base CX k f fd ps sp) (hr:dY k X.A) (hb:Binds X.K fd ps ds) (hd:bq ic ds) (hx:eU CX X E)
  (ht:eval (.Call (.Attribute o m apos) [] [] pos) X.env=(do
   let ov <-eval o X.env
   standAt apos.atName
   let (f,first) <-holding [ov] (getMethod ov m pl)
   callWith pos f first (backTo pos (starEach [] X.env)) (backToKw pos (keywordEach [] X.env))):=by rfl):
  PE X (.Call (.Attribute o m apos) [] [] pos) (cg C m sp ic E ta tNil):=by
 intro pins s σ H Q I h;refine PySem.W.methodCall_KW (pl:=pl) (cK (he pins s σ H _ I h) λu s1 dB=>?_) ht;obtain⟨x,H1,I1,rx,q0⟩:=dB;obtain⟨a,ex,dx,fs,ea,l,q⟩:=rdR_eq.mp q0;subst ex;obtain rfl:u=Value.ref a:=rx;refine oq I1 ea c hm l ?_;exact PySem.W.callWith_K0 (first:=[.ref a]) I1.ib hm.kp (vN (us:=[.ref a]) (vs:=[.ref a]) F hr hb hd hx I1 (.cons rfl .nil) q)
structure Mk (K:aba) (C f:Addr):Prop where
 makes:PySem.W.makesIn K C=true
 init:abf K (.ref C) "__init__"=some (some (.ref f))
 fn:PySem.W.isFn K (.ref f)=true
 kp:abb K (.ref C)=true
theorem AE {pins:List (Addr×Obj)} {σ:St} {H:Hp} {s:Shared} {Q:VK} {us:List Value} {vs:List V} (M:Mk X.K C f) (F:fK X.prog X.w X.K X.mg X.base CX k f fd ps sp) (hr:dY (k+1) X.A) (hb:Binds X.K fd ps ds) (hd:bq ic ds)
  (hx:eU CX X E) (I:Inv X pins σ H s) (r:bq vs us)
  (h:∀x dx,H x=none->H dx=none->dx≠x->sp (.ref x::(vs++ic)) (upd (upd H dx (.own x)) x (.ins C dx [])) (λv H2=>v=.cU/\Q (.ref x) H2) E):
  wpAny (model X.prog X.w) X.A (call (.ref C) us) (EP X pins σ Q) X.xe s:=by
 have hq:=h (s.heap.objs.size+1) s.heap.objs.size (I.bP.fresh (Nat.le_succ _)) (I.bP.fresh (aag _)) (aar (aaZ _));have I2:=Inv.made (C:=C) I;have r2:bq (V.ref (s.heap.objs.size+1)::(vs++ic)) (Value.ref (s.heap.objs.size+1)::(us++ds)):=.cons rfl (r.append hd);have hl:(Value.ref (s.heap.objs.size+1)::us++ds).length=ps.length:=by
  have e:=r2.length;rw[F.len _ _ _ _ hq] at e;exact e.symm
 refine wpAny_call (AA (f:=f) I.ib M.makes M.init (beq_iff_eq.mp M.fn) (codeAny_mono (F.run _ X.stack _ _ ⟨Value.ref (s.heap.objs.size+1)::us,[]⟩ (Value.ref (s.heap.objs.size+1)::(us++ds)) _ _ E (hr.make C us [])
  (I2.K9.make C us []) (hb _ (Value.ref (s.heap.objs.size+1)::us) I2.ib hl) r2 hq) λr s' gK=>?_))
 cases r with
 | error e=>exact hx pins σ _ _ e s' I2 gK
 | ok fl=>
  cases fl with
  | ret u=>
   obtain⟨v,H',I3,rv,ev,q3⟩:=I2.after gK;subst ev;exact⟨rv,⟨V.ref (s.heap.objs.size+1),H',I3,rfl,q3⟩⟩
  | next=>exact False.elim gK
  | brk=>exact False.elim gK
  | cont=>exact False.elim gK
theorem Du (M:Mk X.K C f) (F:fK X.prog X.w X.K X.mg X.base CX k f fd ps sp) (hr:dY (k+1) X.A) (hg:Gl X x) (hm:X.mg x=some (.ref C)) (hb:Binds X.K fd ps ds) (hd:bq ic ds) (hx:eU CX X E)
  (ha:PA X (e::es) t) (ze:(x==("__debug__":Str))=false:=by decide) (he:starEach (e::es) X.env=(false,eval e X.env)::starEach es X.env:=by injections) (hpl:(backTo pos (starEach es X.env)).any (·.1)=false:=by injections):
  PE X (.Call (.Name x p) (e::es) [] pos) (xF C sp ic E t):=by
 intro pins s σ H Q I h;refine wpAny_Call_Name_kw (nG I hg hm ?_ ze);refine PySem.W.callWith_K (h₀:=X.base) I.ok.mod.JW M.kp (cK (ha pos pins s σ H _ I h) λus s1 ⟨vs,H1,I1,r,q⟩=>⟨I1.ib,?_⟩) he hpl;exact AE M F hr hb hd hx I1 r q
end
section
variable {X : Cx} {CX : lG} {k : Nat} {f C : Addr} {fd : FuncData} {ps ks : List Str} {sp : Sp} {E : XK} {x m : Str} {p pos apos Xo : Pos} {e o : Expr} {es : List Expr} {kws : List Keyword} {te ta : TE} {t tk : TA} {nm : Option Str}
structure QU (K:aba) (fd:FuncData) (ps ks:List Str) (g:List Value->List Value->List Value) (gV:List V->List V->List V):Prop where
 to:∀(s:Shared) (us ws:List Value),K.In s.heap->(g us ws).length=ps.length->BindsTo s fd ⟨us,ks.zip ws⟩ (ps.zip (g us ws))
 rel:∀{vs:List V} {us:List Value} {zs:List V} {ws:List Value},bq vs us->bq zs ws->bq (gV vs zs) (g us ws)
variable {g : List Value -> List Value -> List Value} {gV : List V -> List V -> List V}
end
structure aS (N P:List Str) (sc:Scope):Prop where
 kind:sc.kind=.function:=by rfl
 co:sc.isCoroutine=false:=by rfl
 gen:sc.isGenerator=false:=by rfl
 nd:N.Nodup:=by first | decide +kernel | rfl
 pre:N.take P.length=P:=by rfl
 par:∀x∈P,sc.names.lookup x=some .local\/sc.names.lookup x=some .cell:=by first | decide +kernel | rfl
 Hi:∀y∈sc.names,y.2≠.free:=by first | decide +kernel | rfl
theorem qw {kindOf:Str->Option NameKind} {x:Str}:∀{binds:List (Str×Value)} {m:Str->Option Value},(∀v,(x,v)∉binds)->bindL kindOf binds m x=m x
 | [],_,_=>rfl
 | (n,v)::r,m,h=>by
  unfold bindL;rw[qw λw hw=>h w (aam _ hw)]
  split
  ·have:x≠n:=by rintro rfl;exact h v aas
   simp [this]
  ·rfl
theorem qx {kindOf:Str->Option NameKind} {x:Str}:∀{binds:List (Str×Value)} {m:Str->Option Value},(∀v,(x,v)∉binds)->bindC kindOf binds m x=m x
 | [],_,_=>rfl
 | (n,v)::r,m,h=>by
  unfold bindC;rw[qx λw hw=>h w (aam _ hw)]
  split
  ·rfl
  ·have:x≠n:=by rintro rfl;exact h v aas
   simp [this]
theorem qy {kindOf:Str->Option NameKind} {x:Str} {v:Value}:∀{P:List Str} {vs:List Value} {i:Nat} {m:Str->Option Value},P.Nodup->P[i]?=some x->vs[i]?=some v->kindOf x=some .local->
  bindL kindOf (P.zip vs) m x=some v
 | [],_,_,_,_,h,_,_=>by simp at h
 | _::_,[],_,_,_,_,h,_=>by simp at h
 | p::P,w::vs,0,m,nd,h1,h2,hk=>by
  simp at h1 h2;subst h1;subst h2;show bindL kindOf ((p,w)::P.zip vs) m p=_;unfold bindL;rw[qw λv hv=>(List.nodup_cons.mp nd).1 (List.of_mem_zip hv).1,if_pos hk];simp
 | p::P,w::vs,i+1,m,nd,h1,h2,hk=>by
  show bindL kindOf ((p,w)::P.zip vs) m x=_;unfold bindL;exact qy (i:=i) (List.nodup_cons.mp nd).2 (by simpa using h1) (by simpa using h2) hk
theorem qz {kindOf:Str->Option NameKind} {x:Str} {v:Value}:∀{P:List Str} {vs:List Value} {i:Nat} {m:Str->Option Value},P.Nodup->P[i]?=some x->vs[i]?=some v->kindOf x≠some .local->
  bindC kindOf (P.zip vs) m x=some v
 | [],_,_,_,_,h,_,_=>by simp at h
 | _::_,[],_,_,_,_,h,_=>by simp at h
 | p::P,w::vs,0,m,nd,h1,h2,hk=>by
  simp at h1 h2;subst h1;subst h2;show bindC kindOf ((p,w)::P.zip vs) m p=_;unfold bindC;rw[qx λv hv=>(List.nodup_cons.mp nd).1 (List.of_mem_zip hv).1,if_neg hk];simp
 | p::P,w::vs,i+1,m,nd,h1,h2,hk=>by
  show bindC kindOf ((p,w)::P.zip vs) m x=_;unfold bindC;exact qz (i:=i) (List.nodup_cons.mp nd).2 (by simpa using h1) (by simpa using h2) hk
abbrev start (N:List Str) (vs:List V):St:=vs.map some++abn (N.length - vs.length) none
abbrev iq (CX:lG) (P:Program) (w:World) (K:aba) (mg:Str->Option Value) (base:Heap) (N:List Str) (qual:Str) (scope:Scope) (f:Addr) (cd:Value) (A:Around) (outer:List Env) (s:Shared) (H:Hp) (E:XK):Cx where
 prog:=P
 w:=w
 K:=K
 mg:=mg
 base:=base
 A:=A.deeper (envOfC qual scope s.heap.objs.size f cd)
 N:=N
 s₀:=s
 H₀:=H
 env:=envOfC qual scope s.heap.objs.size f cd
 outer:=outer
 stack:=envOfC qual scope s.heap.objs.size f cd::outer
 ex:=[]
 calm:=true
 fn:=λ_=>true
 pn:=[]
 xe:=λe s'=>wpAny (model P w) (A.deeper (envOfC qual scope s.heap.objs.size f cd)) (leaving (envOfC qual scope s.heap.objs.size f cd) e) (λ_ vO=>CX outer H s E e vO) (λe' vO=>CX outer H s E e' vO) s'
theorem t7 {sc:Scope} {n:Nat} {x:Str} (h:sc.names.lookup x=some .cell):∃c,(cellsFrom n sc.names []).lookup x=some c:=by
 have q:=PySem.W.cellsFrom_some sc.names n [] (.inl h);exact Option.isSome_iff_exists.mp q
theorem zf {CX:lG} {P:Program} {w:World} {K:aba} {mg:Str->Option Value} {base:Heap} {N ps:List Str} {qual:Str} {scope:Scope} {f:Addr} {cd:Value} {A:Around} {outer:List Env} {s s1:Shared} {H:Hp} {E:XK} {us:List Value} {vs:List V}
  (S:aS N ps scope) (hd:A.handled=none) (e0:vM P w K mg base A outer s H) (hl:vs.length=ps.length) (r:bq vs us)
  (x:InCallC s s.heap.objs.size (bindL (envOfC qual scope s.heap.objs.size f cd).kindOf (ps.zip us) λ_=>none) (cellsFrom (s.heap.objs.size+1) scope.names []) (bindC (envOfC qual scope s.heap.objs.size f cd).kindOf (ps.zip us) λ_=>none) s1):
  Inv (iq CX P w K mg base N qual scope f cd A outer s H E) [] (start N vs) H s1:=by
 have hpl:ps.length<=N.length:=by have:=congrArg List.length S.pre;rw[aaA] at this;lia
 obtain⟨h1,tk,rfl,hk⟩:=x.done;have La:∀b:Addr,b∉(iq CX P w K mg base N qual scope f cd A outer s H E).ex:=λb z=>absurd (show b∈([]:List Addr) from z) (by simp);refine⟨⟨e0.mod,S.kind,rfl,rfl,aag _,λy z c h1 h2=>?_,λy hy=>?_,λy c _ h=>?_,λ_=>hd,Around.frames_deeper e0.frames,.inr ⟨rfl,rfl⟩,λb z=>absurd z (La b),e0.bs,e0.CY,λb _ _=>La b,λb z=>absurd z (La b),e0.lB,e0.Fl⟩,
  rfl,e0.bare,Un.kept hk,⟨_,x.toInCall.ns,λi y v h1 h2 h3=>?_⟩,λy c h=>⟨_,x.cell y c h⟩,e0.bP.fresh (aag _),λy c h=>?_,λp hp=>absurd (show p∈([]:List (Addr×Obj)) from hp) (by simp),e0.bP.kept hk,?_⟩
 ·exact name_of_addr x.apart (aaV h1) (aaV h2)
 ·have hy:scope.names.lookup y=some .cell\/scope.names.lookup y=some .free:=hy;rcases hy with hy | hy
  ·exact t7 hy
  ·exact absurd rfl (S.Hi _ (aaV hy))
 ·exact Nat.le_of_lt (x.above y c (aaV h))
 ·have hi:i<vs.length:=by
   unfold start at h2
   by_cases hi:i<vs.length
   ·exact hi
   ·rw[List.getElem?_append_right (by simpa using hi)] at h2;rw[List.getElem?_replicate] at h2
    split at h2 <;>cases h2
  have ha:vs[i]?=some v:=by
   unfold start at h2;rw[List.getElem?_append_left (by simpa using hi),aaf] at h2;cases e:vs[i]? with
   | none=>rw[e] at h2;cases h2
   | some a=>rw[e] at h2;cases h2;rfl
  obtain⟨u,hu,rv⟩:=r.get ha;have hp:ps[i]?=some y:=by
   rw[<-S.pre,List.getElem?_take_of_lt ⋯];exact h1
  have Vp:ps.Nodup:=by rw[<-S.pre];exact S.nd.sublist (List.take_sublist _ _)
  refine⟨u,rv,?_⟩;rcases S.par y (aan hp) with k | k
  ·exact .inl ⟨k,qy Vp hp hu k⟩
  ·obtain⟨c,e⟩:=t7 (n:=s.heap.objs.size+1) k;refine .inr ⟨.inl k,c,e,?_⟩;have q:=x.cell y c e;rw[qz Vp hp hu (by show scope.names.lookup y≠_;rw[k];decide)] at q;exact q
 ·exact e0.bP.fresh (Nat.le_of_lt (x.above y c (aaV h)))
 ·unfold start;show _=N.length;rw[aaq,aad,aa4];lia
theorem Fv {CX:lG} {P:Program} {w:World} {K:aba} {mg:Str->Option Value} {base:Heap} {k:Nat} {f:Addr} {name qual:Str} {params:Arguments} {body:List Stmt} {scope:Scope} {dV kV doc pm bY ct oc:Value} {an od:Option Addr}
  {C0:Array (Option Value)} {N ps:List Str} {sp:Sp} (lk:K.lookup f=some ⟨oc,od,.func (abd name qual params body scope dV kV doc pm an bY ct),C0⟩) (yX:abc K bY qual=true) (S:aS N ps scope)
  (len:∀vs H Q E,sp vs H Q E->vs.length=ps.length)
  (t8:∀(A:Around) (outer:List Env) (s:Shared) (H:Hp) (vs:List V) (Q:VK) (E:XK),dY k (A.deeper (envOfC qual scope s.heap.objs.size f bY))->sp vs H Q E->
   ∃t,vx (iq CX P w K mg base N qual scope f bY A outer s H E) body t/\t {nx:=λ_ H'=>Q .cU H',rt:=Q} (start N vs) H):
  fK P w K mg base CX (k+1) f (abd name qual params body scope dV kV doc pm an bY ct) ps sp:=by
 refine⟨len,λA outer s H args us vs Q E hr e0 hb r C4=>?_⟩;have hl:=len _ _ _ _ C4;have KX:K.In s.heap:=e0.mod.JW.keeps λb o e=>(e0.bs b o e).1;have lim:s.heap.NoLimit:=e0.mod.nolimit.keeps λb o e=>(e0.bs b o e).1;have Lb:∀y∈ps.zip us,scope.names.lookup y.1=some .local\/(scope.names.lookup y.1=some .cell/\((cellsFrom (s.heap.objs.size+1) scope.names []).lookup y.1).isSome=true):=fun⟨n,v⟩ hy=>by
  rcases S.par n (List.of_mem_zip hy).1 with q | q
  ·exact .inl q
  ·exact .inr ⟨q,PySem.W.cellsFrom_some _ _ _ (.inl q)⟩
 refine codeAny_call_function hr.depth (KX _ _ lk) rfl S.co S.gen rfl (PySem.W.codeRec_of KX yX) (hb _ _ _ _ ?_);refine wpAny_newFunctionEnv_cells S.kind Lb λenv he s1 x=>?_;subst he;refine⟨lim.keeps x.toInCall.keep,codeAny_func ?_⟩;obtain⟨t,ht,hq⟩:=t8 A outer s H vs Q E (hr.deeper _) C4;have I:Inv (iq CX P w K mg base N qual scope f bY A outer s H E) [] (start N vs) H s1:=zf S hr.hd e0 hl r x;refine wpAny_mono (ht [] s1 (start N vs) H _ I hq) (λfl s' hs=>?_) λe s' hs=>hs;have fin:∀{σ':St} {H':Hp} {v:V} {u:Value},Inv (iq CX P w K mg base N qual scope f bY A outer s H E) [] σ' H' s'->RelV v u->Q v H'->CE outer P w H s Q u s':=
  λ{σ' H' v u} J rv q=>⟨v,H',J.os,J.bare,J.base,J.bP,rv,q⟩
 cases fl with
 | ret u=>
  obtain⟨v,σ',H',J,rv,q⟩:=hs;exact fin J rv q
 | next=>
  obtain⟨σ',H',J,q⟩:=hs;exact fin (v:=V.cU) (u:=Value.none) J rfl q
 | brk=>
  obtain⟨_,_,_,q⟩:=hs;exact False.elim q
 | cont=>
  obtain⟨_,_,_,q⟩:=hs;exact False.elim q
section
variable {X : Cx} {x : Str} {p pos : Pos} {e : Expr} {es : List Expr} {t : TA} {id T : String} {r : List V -> Hp -> VK -> Prop}
abbrev tCB (r:List V->Hp->VK->Prop) (t:TA):TE:=λσ H Q=>t σ H λvs H1=>r vs H1 Q
theorem aU (hc:cM X (.builtin id) r) (hg:Gl X x) (hm:X.mg x=none) (hv:bootBuiltins x=some (.builtin id)) (ha:PA X (e::es) t) (hn:x≠"__name__":=by decide) (ze:(x==("__debug__":Str))=false:=by decide)
  (he:starEach (e::es) X.env=(false,eval e X.env)::starEach es X.env:=by first | exact se rfl | rfl) (hpl:(backTo pos (starEach es X.env)).any (·.1)=false:=by first | exact na rfl | rfl):PE X (.Call (.Name x p) (e::es) [] pos) (tCB r t):=by
 intro pins s σ H Q I h;refine wpAny_Call_Name_kw (gk I hg hm hv ?_ hn ze);exact PyProof.Rows.callWith_builtin1 (cK (ha pos pins s σ H _ I h) λus s1 ⟨vs,H1,I1,r1,q1⟩=>hc pins s1 σ H1 vs us Q I1 r1 q1) he hpl
theorem dD (hc:cM X (.type T) r) (hg:Gl X x) (hm:X.mg x=none) (hv:bootBuiltins x=some (.type T)) (ha:PA X (e::es) t) (hn:x≠"__name__":=by decide) (ze:(x==("__debug__":Str))=false:=by decide)
  (he:starEach (e::es) X.env=(false,eval e X.env)::starEach es X.env:=by injections) (hpl:(backTo pos (starEach es X.env)).any (·.1)=false:=by injections):PE X (.Call (.Name x p) (e::es) [] pos) (tCB r t):=by
 intro pins s σ H Q I h;refine wpAny_Call_Name_kw (gk I hg hm hv ?_ hn ze);exact aa8 (cK (ha pos pins s σ H _ I h) λus s1 ⟨vs,H1,I1,r1,q1⟩=>hc pins s1 σ H1 vs us Q I1 r1 q1) he hpl
end
end L2
namespace HT
open PySem PyProof.Rows
section
open PySem.SeqAt
open PySem.AutoSeq1 (wpAny_loadPart')
open PySem.MeetsSeq PySem.MeetsSeq2 PySem.MeetsSeq3
end
section
variable {prog : Program} {w : World} {A : Around} {E : Value -> Shared -> Prop} {s : Shared}
abbrev vP (n d:Nat):Option Int->Nat
 | none=>d
 | some v=>if v<0 then (v+ (n:Int)).toNat else min v.toNat n
end
end HT
namespace L2
open PySem PySem.Spec PyProof.Rows
@[inline]abbrev TO:=St->Hp->(Option Int->Hp->Prop)->Prop
abbrev PO (X:Cx) (e:Option Expr) (t:TO):Prop:=
 ∀(pins:List (Addr×Obj)) (s:Shared) (σ:St) (H:Hp) (Q:Option Int->Hp->Prop),Inv X pins σ H s->t σ H Q->
  wpAny (model X.prog X.w) X.A (evalPart e X.env) (λu s'=>∃o H',Inv X pins σ H' s'/\IsPart u o/\Q o H') X.xe s
abbrev tNoPart:TO:=λ_ H Q=>Q none H
abbrev tPart (t:TE):TO:=λσ H Q=>t σ H λx H1=>∃i,x=.int i/\Q (some i) H1
theorem intsAre_of {ns:List Int}:∀{us:List Value},bq (ns.map V.int) us->IntsAre us ns:=by
 induction ns with
 | nil=>intro us r;rw[aaN] at r;cases r;exact .nil
 | cons n ns ih=>
  intro us r;rw[aae] at r;cases r with
  | cons r1 r2=>
   obtain⟨t,e⟩:=r1;subst e;exact .cons n t (ih r2)
section
variable {X : Cx} {e : Expr} {te : TE} {lo hi : Option Expr} {tl th : TO} {pos p2 : Pos}
theorem xG:PO X none tNoPart:=by
 intro pins s σ H Q I h;rw[evalPart_none];exact wpAny_pure ⟨none,H,I,.none,h⟩
theorem nH (h:PE X e te):PO X (some e) (tPart te):=by
 intro pins s σ H Q I hw;rw[evalPart_some];refine cK (h pins s σ H _ I hw) λu s1 dB=>?_;obtain⟨x,H1,I1,r1,q1⟩:=dB;obtain⟨i,rfl,q⟩:=q1;obtain⟨t,rfl⟩:=r1;exact⟨some i,H1,I1,.int i t,q⟩
abbrev Px (X:Cx) (r:V->Option Int->Option Int->Hp->VK->Prop):Prop:=
 ∀(pins:List (Addr×Obj)) (s:Shared) (σ:St) (H:Hp) (x:V) (v vl vu:Value) (lo hi:Option Int) (sl:Addr) (Q:VK),Inv X pins σ H s->RelV x v->s.heap.IsSliceOf sl vl vu .none->IsPart vl lo->IsPart vu hi->r x lo hi H Q->
  ∃T id,typeLookup (.type T) "__getitem__"=pure (some (.builtin id))/\s.TypeIs v T/\wpAny (model X.prog X.w) X.A (getItem v (.ref sl)) (EP X pins σ Q) X.xe s
abbrev tSl (r:V->Option Int->Option Int->Hp->VK->Prop) (te:TE) (tl th:TO):TE:=λσ H Q=>te σ H λx H1=>tl σ H1 λl H2=>th σ H2 λu H3=>r x l u H3 Q
theorem ou {r:V->Option Int->Option Int->Hp->VK->Prop} (hr:Px X r) (he:PE X e te) (hl:PO X lo tl) (hu:PO X hi th):PE X (.Subscript e (.Slice lo hi none p2) pos) (tSl r te tl th):=by
 intro pins s σ H Q I h;refine Subscript_ (cK (he pins s σ H _ I h) λv s1 dB=>?_);obtain⟨x,H1,I1,r1,q1⟩:=dB;refine wpAny_Slice (cK (hl pins s1 σ H1 _ I1 q1) λvl s2 ⟨l,H2,I2,pl,q2⟩=>cK (hu pins s2 σ H2 _ I2 q2) λvu s3 dB=>?_);obtain⟨u,H3,I3,pu,q3⟩:=dB;rw[evalPart_none];refine wpAny_pure ?_;have I4:Inv X pins σ H3 {s3 with heap:=s3.heap.push {cls:=.type "slice",data:=.fields #[vl,vu,.none]}}:=I3.kept (t':=s3.toks) λb ob q=>abk _ q;obtain⟨T,id,hT,ht,hg⟩:=hr pins {s3 with heap:=s3.heap.push {cls:=.type "slice",data:=.fields #[vl,vu,.none]}} σ H3 x v vl vu l u s3.heap.objs.size Q I4 r1 (Heap.IsSliceOf.new ..) pl pu q3;show wpAny (model X.prog X.w) X.A (subscriptTail e (.Slice lo hi none p2) v (.ref s3.heap.objs.size)) (EP X pins σ Q) X.xe {s3 with heap:=s3.heap.push {cls:=.type "slice",data:=.fields #[vl,vu,.none]}};exact tail_any (ops:=[.ref s3.heap.objs.size,v]) ht hT hg (by with_unfolding_all rfl)
abbrev AF (xs:List V) (lo hi:Option Int):List V:=(xs.drop (HT.vP xs.length 0 lo)).take (HT.vP xs.length xs.length hi - HT.vP xs.length 0 lo)
theorem t9 (xs:List V) (lo hi:Option Int):(AF xs lo hi).length<=xs.length:=by
 unfold AF;rw[aaA,List.length_drop];lia
end
abbrev Dv (n:Nat) (i:Int):Option Nat:=if 0<=i then (if i<n then some i.toNat else none) else if -(n:Int)<=i then some (i+n).toNat else none
abbrev jS {α:Type} (xs:List α) (i:Int):Option α:=(Dv xs.length i).bind λj=>xs[j]?
theorem xH {n:Nat} {i:Int} {j:Nat} (h:Dv n i=some j):seqIndex? i n=some j/\j<n/\-(n:Int)<=i/\i<n:=by
 unfold Dv at h
 by_cases h0:0<=i
 ·rw[if_pos h0] at h
  by_cases h1:i<n
  ·rw[if_pos h1] at h;have e:i.toNat=j:=aay h;exact⟨by rw[seqIndex_of h0 h1,e],⋯,⋯,h1⟩
  ·rw[if_neg h1] at h;cases h
 ·rw[if_neg h0] at h
  by_cases h1:-(n:Int)<=i
  ·rw[if_pos h1] at h;have e:(i+n).toNat=j:=aay h;exact⟨by rw[seqIndex_neg ⋯ h1,e],⋯,h1,⋯⟩
  ·rw[if_neg h1] at h;cases h
theorem rC {α:Type} {xs:List α} {i:Int} {v:α} (h:jS xs i=some v):∃j,seqIndex? i xs.length=some j/\xs[j]?=some v/\j<xs.length/\-(xs.length:Int)<=i/\i<xs.length:=by
 unfold jS at h;cases e:Dv xs.length i with
 | none=>rw[e] at h;cases h
 | some j=>
  rw[e] at h;obtain⟨h1,h2,h3,h4⟩:=xH e;exact⟨j,h1,h,h2,h3,h4⟩
theorem bM {α:Type} {xs:List α} {j:Nat} {v:α} (h:xs[j]?=some v):jS xs (j:Int)=some v:=by
 have hj:j<xs.length:=(abh.mp h).1;have e:Dv xs.length (j:Int)=some j:=by
  unfold Dv;rw[if_pos ⋯,if_pos ⋯];simp
 unfold jS;rw[e];exact h
abbrev Dw (b:Expr):Prop:=∀o i,subscripted b false o i=operate [o,i] (getItem o i)
abbrev AG (X:Cx) (r:R2):Prop:=
 ∀(value slice:Expr) (pins:List (Addr×Obj)) (s:Shared) (σ:St) (H:Hp) (x y:V) (v u:Value) (Q:VK),Inv X pins σ H s->RelV x v->RelV y u->r x y H Q->
  subscripted slice false v u=operate [v,u] (getItem v u)->wpAny (model X.prog X.w) X.A (subscriptTail value slice v u) (EP X pins σ Q) X.xe s
abbrev Hj (X:Cx) (id:String) (r:V->List V->Hp->VK->Prop):Prop:=
 ∀(pins:List (Addr×Obj)) (s:Shared) (σ:St) (H:Hp) (x:V) (xs:List V) (v:Value) (us:List Value) (Q:VK),Inv X pins σ H s->RelV x v->bq xs us->r x xs H Q->
  wpAny (model X.prog X.w) X.A (call (.builtin id) (v::us)) (EP X pins σ Q) X.xe s
section
variable {X : Cx} {a b : Expr} {ta tb : TE} {pos : Pos}
theorem ar {r:R2} (hr:AG X r) (ha:PE X a ta) (hb:PE X b tb) (hs:Dw b:=by exact λ_ _=>rfl):PE X (.Subscript a b pos) (tOp r ta tb):=by
 intro pins s σ H Q I h;exact Subscript_ (Hg ha hb I h λv u s2 x y H2 I2 rx ry q=>hr a b pins s2 σ H2 x y v u Q I2 rx ry q (hs _ _))
abbrev QV (K:aba):R2:=λx y H Q=>∃p xs i v,x=.ref p/\y=.int i/\bC K H p xs/\jS xs i=some v/\Q v H
abbrev QW (K:aba):R2:=λx y H Q=>∃p xs i v,x=.ref p/\y=.int i/\iP K H p xs/\jS xs i=some v/\Q v H
abbrev Hl:R2:=λx y H Q=>∃z i c,x=.str z/\y=.int i/\z.length<=sizeLine/\jS z.cps.toList i=some c/\Q (.str ⟨#[c]⟩) H
theorem xI:AG X (QV X.K):=by
 intro value slice pins s σ H x y v u Q I rx ry h hs;obtain⟨p,xs,i,z,rfl,rfl,hq,he,q⟩:=h;cases rx;obtain⟨t,rfl⟩:=ry;obtain⟨ba,r,pl,hz⟩:=I.list hq;obtain⟨j,h1,h2,h3,h4,h5⟩:=rC he;obtain⟨w,ew,y4⟩:=r.get h2;have hl:=r.length;have hn:=om;have fin:EP X pins σ Q w s:=⟨z,H,I,y4,q⟩
 by_cases h0:0<=i
 ·have hj:i.toNat=j:=by
   rw[seqIndex_of h0 h5] at h1;exact aay h1
  exact item_listR pl.isList h0 ⋯ (by rw[hj];simpa using ew) fin hs
 ·have hj:(i+ (ba.toArray.size:Int)).toNat=j:=by
   rw[seqIndex_neg ⋯ h4] at h1;rw[aaj,<-hl];exact aay h1
  exact subscriptTail_builtinR (x:=w) pl.isList.typeIs slot_list_getitem.lookup
   (wpAny_getItem_list_neg (Q:=λr s'=>r=w/\EP X pins σ Q r s') pl.isList ⋯ (by rw[aaj] <;>lia) ⋯ (by rw[hj];simpa using ew) ⟨rfl,fin⟩) hs
theorem Hm:AG X (QW X.K):=by
 intro value slice pins s σ H x y v u Q I rx ry h hs;obtain⟨p,xs,i,z,rfl,rfl,hq,he,q⟩:=h;cases rx;obtain⟨t,rfl⟩:=ry;obtain⟨ba,r,pl,hz⟩:=I.tuple hq;obtain⟨j,h1,h2,h3,h4,h5⟩:=rC he;obtain⟨w,ew,y4⟩:=r.get h2;have hl:=r.length;have hn:=om;have fin:EP X pins σ Q w s:=⟨z,H,I,y4,q⟩
 exact subscriptTail_builtinR (x:=w) pl.typeIs slot_tuple_getitem.lookup
  (getItem_tuple (j:=j) (Q:=λr s'=>r=w/\EP X pins σ Q r s') pl ⋯ ⋯ (by rw[aaj,<-hl];exact h1) (by simpa using ew) ⟨rfl,fin⟩) hs
theorem Hn:AG X Hl:=by
 intro value slice pins s σ H x y v u Q I rx ry h hs;obtain⟨z,i,c,rfl,rfl,hz,he,q⟩:=h;obtain⟨t,rfl⟩:=rx;obtain⟨t',rfl⟩:=ry;obtain⟨j,h1,h2,h3,h4,h5⟩:=rC he;have hl:z.cps.toList.length=z.length:=by simp [Str.length]
 rw[hl] at h1 h4 h5;have hn:=om;exact tail_any (typeIs_str s z t) slot_str_getitem.lookup (getItem_str (c:=c) (by
  have e1:decide (i < -(2^63:Int))=false:=decide_eq_false ⋯;have e2:decide (i≥2^63)=false:=decide_eq_false ⋯;rw[e1,e2,Bool.or_false]) (by rw[h1];simpa using h2) ⟨.str ⟨#[c]⟩,H,I.tok _,⟨_,rfl⟩,q⟩) hs
theorem vQ (ba:List Value) (n j:Nat) (u:Value):Obj.mapSeq (·.setIfInBounds j u) {cls:=.type "list",data:=.seq ba.toArray n}={cls:=.type "list",data:=.seq (ba.set j u).toArray n}:=by
 simp [Obj.mapSeq]
theorem Inv.lst {pins:List (Addr×Obj)} {σ:St} {H:Hp} {s:Shared} {p:Addr} {xs:List V} (I:Inv X pins σ H s) (h:H p=some (.lst xs)):
  ∃(ba:List Value) (n:Nat),bq xs ba/\s.heap.get? p=some {cls:=.type "list",data:=.seq ba.toArray n}/\xs.length<=sizeLine:=by
 obtain⟨z,ba,n,r,e⟩:=I.bP p _ h;exact⟨ba,n,r,e,z⟩
theorem Inv.Ho {pins:List (Addr×Obj)} {σ:St} {H:Hp} {s:Shared} {p:Addr} {xs ys:List V} {ba its':List Value} {n n':Nat} {f:Obj->Obj} (I:Inv X pins σ H s) (h:H p=some (.lst xs))
  (ho:s.heap.get? p=some {cls:=.type "list",data:=.seq ba.toArray n}) (hf:f {cls:=.type "list",data:=.seq ba.toArray n}={cls:=.type "list",data:=.seq its'.toArray n'}) (r:bq ys its') (hz:ys.length<=sizeLine) (t:Nat):
  Inv X pins σ (upd H p (.lst ys)) {s with heap:=s.heap.update p f,toks:=t}:=by
 have e:(s.heap.update p f).get? p=some {cls:=.type "list",data:=.seq its'.toArray n'}:=by
  rw[Heap.get?_update_self f ho (by rw[hf] <;>rfl),hf]
 refine I.write (x:=p) (e:=p) (by rw[h];trivial) (.inl rfl) (λb u hb q=>(Heap.get?_update_other _ _ (Ne.symm hb)).trans q) ⟨_,e⟩ ?_;exact⟨hz,its',n',r,e⟩
abbrev rSetL:V->V->V->Hp->(Hp->Prop)->Prop:=λo i v H Q=>∃p xs k j,o=.ref p/\i=.int k/\H p=some (.lst xs)/\Dv xs.length k=some j/\Q (upd H p (.lst (xs.set j v)))
theorem set_list:K0 X rSetL:=by
 intro pins s σ H o i v ov iv u Q I ro ri rv h;obtain⟨p,xs,k,j,rfl,rfl,hp,hj,q⟩:=h;cases ro;obtain⟨t,rfl⟩:=ri;obtain⟨ba,n,r,ho,hz⟩:=I.lst hp;obtain⟨h1,h2,h3,h4⟩:=xH hj;have hl:=r.length;have hn:=om;have I':Inv X pins σ (upd H p (.lst (xs.set j v))) {s with heap:=s.heap.update p (Obj.mapSeq (·.setIfInBounds j u))}:=
  I.Ho hp ho (vQ ba n j u) (r.set rv j) (by rw[List.length_set];exact hz) s.toks
 by_cases h0:0<=k
 ·have hk:k.toNat=j:=by
   rw[seqIndex_of h0 h4] at h1;exact aay h1
  exact PySem.W.ki_setAt ho h0 ⋯ (by rw[aaj,<-hl];exact h4) (by rw[hk];exact⟨_,I',q⟩)
 ·have hk:(k+ (ba.toArray.size:Int)).toNat=j:=by
   rw[seqIndex_neg ⋯ h3] at h1;rw[aaj,<-hl];exact aay h1
  exact PySem.W.ki_setBack ho ⋯ (by rw[aaj,<-hl];exact h3) ⋯ (by rw[hk];exact⟨_,I',q⟩)
theorem rD (lo hi:Option Int) (n:Nat):(sliceBounds lo hi none n).1=((HT.vP n 0 lo:Nat):Int)/\(sliceBounds lo hi none n).2.1=((HT.vP n n hi:Nat):Int)/\(sliceBounds lo hi none n).2.2=1:=by
 refine⟨?_,?_,rfl⟩
 ·cases lo with
  | none=>simp [sliceBounds,HT.vP]
  | some i=>
   simp only[sliceBounds,HT.vP,Option.getD_none,show(1:Int) >0 by decide,if_true]
   by_cases h:i<0
   ·simp only[h,if_true] <;>lia
   ·simp only[h,if_false] <;>lia
 ·cases hi with
  | none=>simp [sliceBounds,HT.vP]
  | some i=>
   simp only[sliceBounds,HT.vP,Option.getD_none,show(1:Int) >0 by decide,if_true]
   by_cases h:i<0
   ·simp only[h,if_true] <;>lia
   ·simp only[h,if_false] <;>lia
theorem pN (ba:List Value) (lo hi:Option Int):slicePick ba.toArray lo hi none=((ba.drop (HT.vP ba.length 0 lo)).take (HT.vP ba.length ba.length hi - HT.vP ba.length 0 lo)).toArray:=by
 obtain⟨h1,h2,h3⟩:=rD lo hi ba.toArray.size;unfold slicePick;rw[h1,h2,h3];simp only[sliceRange_one,pick_run,aaj] <;>rfl
abbrev rSlL (K:aba):V->Option Int->Option Int->Hp->VK->Prop:=λx lo hi H Q=>∃a xs,x=.ref a/\bC K H a xs/\∀p,H p=none->Q (.ref p) (upd H p (.lst (AF xs lo hi)))
theorem Dx:Px X (rSlL X.K):=by
 intro pins s σ H x v vl vu lo hi sl Q I rx hs pl pu h;obtain⟨a,xs,rfl,hx,q⟩:=h;cases rx;obtain⟨ba,r,ht,hz⟩:=I.list hx;have hlen:=r.length;refine⟨"list",_,slot_list_getitem.lookup,ht.isList.typeIs,?_⟩;refine wpAny_getItem_list_slice ht.isList hs pl pu .none (by simp) ?_ (by rw[aaj] <;>lia);rw[pN,<-hlen];refine⟨.ref s.heap.objs.size,_,I.laid (t':=s.toks) (o:=.lst (AF xs lo hi)) (λb ob q=>abk _ q) (aag _) ?_,rfl,q _ (I.bP.fresh (aag _))⟩;exact⟨aao (t9 xs lo hi) hz,_,0,(r.drop (HT.vP xs.length 0 lo)).take (HT.vP xs.length xs.length hi - HT.vP xs.length 0 lo),abl _ rfl⟩
abbrev fL:V->Bool
 | .cU=>true
 | .bl _=>true
 | .int _=>true
 | .str _=>true
 | _=>false
abbrev Ae:V->V->Bool
 | .cU,.cU=>true
 | .bl a,.bl b=>a==b
 | .bl a,.int b=>(if a then 1 else 0)==b
 | .int a,.bl b=>a==(if b then 1 else 0)
 | .int a,.int b=>a==b
 | .str a,.str b=>a==b
 | _,_=>false
theorem Hq {A:Around} {s:Shared} {y x:V} {u v:Value} (ry:RelV y u) (rx:RelV x v) (fy:fL y=true) (fx:fL x=true):SeqAt.EqAt A s u v (Ae y x):=by
 cases y with
 | cU=>
  cases ry;cases x with
  | cU=>cases rx;exact SeqAt.EqAt.same _
  | bl b=>cases rx;exact SeqAt.EqAt.none_bool b
  | int b=>obtain⟨t,rfl⟩:=rx;exact SeqAt.EqAt.none_int b t
  | str b=>obtain⟨t,rfl⟩:=rx;exact SeqAt.EqAt.none_str b t
  | _=>exact absurd (show false=true from fx) aat
 | bl a=>
  cases ry;cases x with
  | cU=>cases rx;exact SeqAt.EqAt.bool_none a
  | bl b=>cases rx;exact SeqAt.EqAt.bool_bool a b
  | int b=>obtain⟨t,rfl⟩:=rx;exact SeqAt.EqAt.bool_int a b t
  | str b=>obtain⟨t,rfl⟩:=rx;exact SeqAt.EqAt.bool_str a b t
  | _=>exact absurd (show false=true from fx) aat
 | int a=>
  obtain⟨t',rfl⟩:=ry;cases x with
  | cU=>cases rx;exact SeqAt.EqAt.int_none a t'
  | bl b=>cases rx;exact SeqAt.EqAt.int_bool a t' b
  | int b=>obtain⟨t,rfl⟩:=rx;exact SeqAt.EqAt.int_int a t' b t
  | str b=>obtain⟨t,rfl⟩:=rx;exact SeqAt.EqAt.int_str a t' b t
  | _=>exact absurd (show false=true from fx) aat
 | str a=>
  obtain⟨t',rfl⟩:=ry;cases x with
  | cU=>cases rx;exact SeqAt.EqAt.str_none a t'
  | bl b=>cases rx;exact SeqAt.EqAt.str_bool a t' b
  | int b=>obtain⟨t,rfl⟩:=rx;exact SeqAt.EqAt.str_int a t' b t
  | str b=>obtain⟨t,rfl⟩:=rx;exact SeqAt.EqAt.str_str a t' b t
  | _=>exact absurd (show false=true from fx) aat
 | _=>exact absurd (show false=true from fy) aat
abbrev vR (x:V) (u:Value):Bool:=match u with
 | .none=>Ae .cU x
 | .bool b=>Ae (.bl b) x
 | .int i _=>Ae (.int i) x
 | .str z _=>Ae (.str z) x
 | _=>false
theorem AH {x y:V} {u:Value} (r:RelV y u) (f:fL y=true):vR x u=Ae y x:=by
 cases y with
 | cU=>cases r;rfl
 | bl b=>cases r;rfl
 | int i=>obtain⟨t,rfl⟩:=r;rfl
 | str z=>obtain⟨t,rfl⟩:=r;rfl
 | _=>exact absurd (show false=true from f) aat
theorem j0 {x:V}:∀{xs:List V} {us:List Value},bq xs us->xs.all fL=true->us.any (vR x)=xs.any λy=>Ae y x
 | _,_,.nil,_=>rfl
 | y::xs,u::us,.cons r t,f=>by
  rw[List.all_cons,aaL] at f;rw[List.any_cons,List.any_cons,AH r f.1,j0 t f.2]
theorem ir {A:Around} {s:Shared} {x:V} {v:Value} (rx:RelV x v) (fx:fL x=true):∀{xs:List V} {us:List Value},bq xs us->xs.all fL=true->∀u∈us,SeqAt.EqAt A s u v (vR x u)
 | _,_,.nil,_=>λu hu=>by cases hu
 | y::xs,u::us,.cons r t,f=>λu' hu=>by
  rw[List.all_cons,aaL] at f;rcases aaB.mp hu with rfl | hu
  ·rw[AH r f.1];exact Hq r rx f.1 fx
  ·exact ir rx fx t f.2 u' hu
abbrev C5 (x:V) (xs:List V):Bool:=xs.any λy=>Ae y x
abbrev QX (K:aba) (neg:Bool):R2:=λx y H Q=>∃p xs,y=.ref p/\(bC K H p xs\/iP K H p xs)/\fL x=true/\xs.all fL=true/\Q (.bl (if neg then !C5 x xs else C5 x xs)) H
theorem zg:i7 X (compareOp .In) (QX X.K false):=by
 intro pins s σ H x y v u Q I rx ry h;obtain⟨p,xs,rfl,hq,fx,fs,q⟩:=h;cases ry;rcases hq with hq | hq
 ·obtain⟨ba,r,pl,hz⟩:=I.list hq;refine SeqAt.in_listAt (vR x) pl.isList (λw hw=>ir rx fx r fs w (by simpa using hw)) ⟨.bl _,H,I,rfl,?_⟩;rw[show ba.toArray.any (vR x)=ba.any (vR x) by simp,j0 r fs];exact q
 ·obtain⟨ba,r,pl,hz⟩:=I.tuple hq;refine SeqAt.in_tupleAt (vR x) pl (λw hw=>ir rx fx r fs w (by simpa using hw)) ⟨.bl _,H,I,rfl,?_⟩;rw[show ba.toArray.any (vR x)=ba.any (vR x) by simp,j0 r fs];exact q
theorem rE:i7 X (compareOp .NotIn) (QX X.K true):=by
 intro pins s σ H x y v u Q I rx ry h;obtain⟨p,xs,rfl,hq,fx,fs,q⟩:=h;cases ry;rcases hq with hq | hq
 ·obtain⟨ba,r,pl,hz⟩:=I.list hq;refine SeqAt.notIn_listAt (vR x) pl.isList (λw hw=>ir rx fx r fs w (by simpa using hw)) ⟨.bl _,H,I,rfl,?_⟩;rw[show ba.toArray.any (vR x)=ba.any (vR x) by simp,j0 r fs];exact q
 ·obtain⟨ba,r,pl,hz⟩:=I.tuple hq;refine SeqAt.notIn_tupleAt (vR x) pl (λw hw=>ir rx fx r fs w (by simpa using hw)) ⟨.bl _,H,I,rfl,?_⟩;rw[show ba.toArray.any (vR x)=ba.any (vR x) by simp,j0 r fs];exact q
theorem gQ:cM X (.builtin "len") (λxs H Q=>∃p ys,xs=[.ref p]/\(bC X.K H p ys\/iP X.K H p ys)/\Q (.int ys.length) H):=by
 intro pins s σ H xs us Q I r h;obtain⟨p,ys,rfl,hq,q⟩:=h;obtain⟨u,rfl,rx⟩:=vals1 r;cases rx;have hn:=om;rcases hq with hq | hq
 ·obtain⟨ba,r',pl,hz⟩:=I.list hq;have hlen:=r'.length;exact Calls.call_len_list pl.isList (by simp only[aaj] <;>lia) ⟨.int ys.length,H,I.tok _,⟨s.toks+1,by rw[aaj,hlen]⟩,q⟩
 ·obtain⟨ba,r',pl,hz⟩:=I.tuple hq;have hlen:=r'.length;exact len_tuple pl (by simp only[aaj] <;>lia) ⟨.int ys.length,H,I.tok _,⟨s.toks+1,by rw[aaj,hlen]⟩,q⟩
theorem rG:cM X (.type "list") (λxs H Q=>∃p ys,xs=[.ref p]/\(bC X.K H p ys\/iP X.K H p ys)/\∀l,H l=none->Q (.ref l) (upd H l (.lst ys))):=by
 intro pins s σ H xs us Q I r h;obtain⟨p,ys,rfl,hq,q⟩:=h;obtain⟨u,rfl,rx⟩:=vals1 r;cases rx;have fin:∀(ba:List Value),bq ys ba->ys.length<=sizeLine->∀(h':Heap) (c':Nat),(∀b o',s.heap.get? b=some o'->h'.get? b=some o')->
   h'.get? s.heap.objs.size=some {cls:=.type "list",dict:=none,data:=.seq ba.toArray c',slots:=#[]}->EP X pins σ Q (.ref s.heap.objs.size) {s with heap:=h'}:=λba r' hz h' c' kp e=>
  ⟨.ref s.heap.objs.size,_,I.laid (t':=s.toks) kp (aag _) (show cf X.prog X.w _ h' _ (.lst ys) from⟨hz,ba,c',r',e⟩),rfl,q _ (I.bP.fresh (aag _))⟩
 rcases hq with hq | hq
 ·obtain⟨ba,r',pl,hz⟩:=I.list hq;have hlen:=r'.length;obtain⟨o,ho,hc,n,hd⟩:=pl.isList;exact call_list_seq p (.inl rfl) ho hc hd (λh' c' kp e=>fin ba r' hz h' c' kp e) (by simp only[aaj] <;>lia)
 ·obtain⟨ba,r',pl,hz⟩:=I.tuple hq;have hlen:=r'.length;obtain⟨o,ho,hc,n,hd⟩:=pl;exact call_list_seq p (.inr rfl) ho hc hd (λh' c' kp e=>fin ba r' hz h' c' kp e) (by simp only[aaj] <;>lia)
abbrev Py (K:aba) (T:String) (x:V) (H:Hp):Prop:=match x with
 | .str _=>T="str"
 | .int _=>T="int"
 | .ref p=>(T="list"/\∃xs,bC K H p xs)\/(T="tuple"/\∃o,K.lookup p=some o/\o.cls=.type "tuple"/\o.dict=none)\/
   (T="dict"/\((∃kvs,H p=some (.dK kvs))\/∃kvs,H p=some (.dT kvs)))\/(T="set"/\∃S n,H p=some (.set S n))
 | _=>False
theorem vS {pins:List (Addr×Obj)} {σ:St} {H:Hp} {s:Shared} {T:String} {x:V} {v:Value} (I:Inv X pins σ H s) (r:RelV x v) (ty:Py X.K T x H):
  s.TypeIs v T/\∀a,v=.ref a->∃ob,s.heap.get? a=some ob/\ob.dict=none:=by
 cases x with
 | str z=>
  obtain⟨t,rfl⟩:=r;cases (show T="str" from ty);exact⟨typeIs_str s z t,λ_ e=>nomatch e⟩
 | int i=>
  obtain⟨t,rfl⟩:=r;cases (show T="int" from ty);exact⟨typeIs_int s i t,λ_ e=>nomatch e⟩
 | ref p=>
  cases r;rcases ty with ⟨rfl,xs,hq⟩ | ⟨rfl,o,hk,hc,hd⟩ | ⟨rfl,hk⟩ | ⟨rfl,S,n,hk⟩
  ·obtain⟨ba,_,pl,_⟩:=I.list hq;refine⟨pl.isList.typeIs,λa e=>?_⟩;cases e;obtain⟨o,n,e,c,hd,_⟩:=pl;exact⟨o,e,hd⟩
  ·refine⟨⟨o,I.ib p o hk,hc⟩,λa e=>?_⟩;cases e;exact⟨o,I.ib _ o hk,hd⟩
  ·have z:∃o,s.heap.get? p=some o/\o.ExactDict:=by
    rcases hk with ⟨kvs,hk⟩ | ⟨kvs,hk⟩
    ·obtain⟨_,_,_,_,o,_,_,e,ex,_⟩:=I.bP p _ hk;exact⟨o,e,ex⟩
    ·obtain⟨_,_,_,_,o,_,_,e,ex,_⟩:=I.bP p _ hk;exact⟨o,e,ex⟩
   obtain⟨o,e,ex⟩:=z;refine⟨⟨o,e,ex.1⟩,λa e2=>?_⟩;cases e2;exact⟨o,e,ex.2.1⟩
  ·obtain⟨o,_,_,_,e,ex,_⟩:=I.bP p _ hk;refine⟨⟨o,e,ex.1⟩,λa e2=>?_⟩;cases e2;exact⟨o,e,ex.2.1⟩
 | _=>exact False.elim ty
abbrev vT (K:aba) (T:String) (r:V->List V->Hp->VK->Prop) (to:TE):TE:=λσ H Q=>to σ H λx H1=>Py K T x H1/\r x [] H1 Q
abbrev tBM (K:aba) (T:String) (r:V->List V->Hp->VK->Prop) (to:TE) (t:TA):TE:=λσ H Q=>to σ H λx H1=>Py K T x H1/\t σ H1 λxs H2=>r x xs H2 Q
variable {o e : Expr} {es : List Expr} {to : TE} {t : TA} {name : Str} {apos dE : Pos} {T id : String} {r : V -> List V -> Hp -> VK -> Prop}
theorem lH (pa:PlainAttrs T) (slot:Slot T name id) (QY:typeOf (.builtin id)=pure (.type "method_descriptor")) (hm:Hj X id r) (ho:PE X o to)
  (ua:attributeBase o name X.env (eval o X.env)=eval o X.env:=by rfl) (ub:(apos.endLine==dE.line)=true:=by rfl):PE X (.Call (.Attribute o name apos) [] [] dE) (vT X.K T r to):=by
 intro pins s σ H Q I h;refine wpAny_Call_method0_late ua ub (cK (ho pins s σ H _ I h) λv s1 dB=>?_);obtain⟨x,H1,I1,r1,ty,q1⟩:=dB;obtain⟨h1,h2⟩:=vS I1 r1 ty;exact⟨T,id,pa,slot,QY,h1,h2,Calls.callWith_builtin rfl (PySem.evalArgs_none (hm pins s1 σ H1 x [] v [] Q I1 r1 .nil q1))⟩
theorem d7 (pa:PlainAttrs T) (slot:Slot T name id) (QY:typeOf (.builtin id)=pure (.type "method_descriptor")) (hm:Hj X id r) (ho:PE X o to) (ha:PA X (e::es) t)
  (ua:attributeBase o name X.env (eval o X.env)=eval o X.env:=by rfl)
  (QZ:((backTo dE (starEach (e::es) X.env)).all (λx=>!x.1) && (backToKw dE (keywordEach [] X.env)).all (λx=>x.1.isSome)
   && decide ((e::es).length+ ([]:List Keyword).length+ (if ([]:List Keyword).isEmpty then 0 else 1)<30))=true:=by rfl)
  (ub:(apos.endLine==dE.line)=true:=by rfl) (hs:starEach (e::es) X.env=(false,eval e X.env)::starEach es X.env:=by injections) (Hr:(backTo dE (starEach es X.env)).any (·.1)=false:=by injections):
  PE X (.Call (.Attribute o name apos) (e::es) [] dE) (tBM X.K T r to t):=by
 intro pins s σ H Q I h;refine wpAny_Call_method_late ua QZ ub rfl (cK (ho pins s σ H _ I h) λv s1 dB=>?_);obtain⟨x,H1,I1,r1,ty,q1⟩:=dB;obtain⟨h1,h2⟩:=vS I1 r1 ty;refine⟨T,id,pa,slot,QY,h1,h2,?_⟩;have hA:=ha dE pins s1 σ H1 _ I1 q1;rw[hs] at hA ⊢;refine Calls.callWith_builtin (by show(false || (backTo dE (starEach es X.env)).any (·.1))=false;rw[Hr] <;>rfl) (Calls.evalArgs_plain ?_);exact cK hA λus s2 ⟨vs,H2,I2,r2,q2⟩=>hm pins s2 σ H2 x vs v us Q I2 r1 r2 q2
end
abbrev Fw (X:Cx) (id:String) (r:V->List V->Hp->VK->Prop):Prop:=
 ∀(pins:List (Addr×Obj)) (s:Shared) (σ:St) (H:Hp) (x:V) (xs:List V) (v:Value) (us:List Value) (Q:VK),Inv X pins σ H s->RelV x v->bq xs us->r x xs H Q->
  wpAny (model X.prog X.w) X.A (call (.builtin id) (v::us)) (EP X pins σ Q) X.xe s
theorem bq.one:∀{x:V} {us:List Value},bq [x] us->∃u,us=[u]/\RelV x u
 | _,_,.cons r .nil=>⟨_,rfl,r⟩
theorem bq.zero:∀{us:List Value},bq [] us->us=[]
 | _,.nil=>rfl
theorem bq.reverse {xs:List V} {us:List Value} (h:bq xs us):bq xs.reverse us.reverse:=by
 induction h with
 | nil=>exact .nil
 | cons r t ih=>rw[List.reverse_cons,List.reverse_cons];exact bq.append ih (.cons r .nil)
theorem bq.rep {xs:List V} {us:List Value} (h:bq xs us):∀k:Nat,bq (abn k xs).flatten (abn k us).flatten
 | 0=>.nil
 | k+1=>by
  rw[aa5,aa5,List.flatten_cons,List.flatten_cons];exact bq.append h (bq.rep h k)
theorem foldl_rep (ba:List Value):∀(k:Nat) (acc:List Value),
  List.foldl (λx1 x2=>x1++x2) acc.toArray (abn k ba.toArray)=(acc++ (abn k ba).flatten).toArray
 | 0,acc=>by simp
 | k+1,acc=>by
  have e:acc.toArray++ba.toArray=(acc++ba).toArray:=by simp
  have e2:(acc++ba)++ (abn k ba).flatten=acc++ (abn (k+1) ba).flatten:=by
   rw[aa5,List.flatten_cons,List.append_assoc]
  rw[<-e2,<-foldl_rep ba k (acc++ba),<-e,aa5,List.foldl_cons]
section
variable {X : Cx} {pins : List (Addr × Obj)} {σ : St} {H : Hp} {s : Shared} {l b : Addr} {xs ys zs : List V}
theorem Inv.AI {ba its':List Value} {n:Nat} {f:Array Value->Array Value} {t':Nat} (I:Inv X pins σ H s) (hH:H l=some (.lst xs))
  (e:s.heap.get? l=some {cls:=.type "list",data:=.seq ba.toArray n}) (hf:f ba.toArray=its'.toArray) (hv:bq ys its') (hz:ys.length<=sizeLine):
  Inv X pins σ (upd H l (.lst ys)) {s with heap:=s.heap.update l (Obj.mapSeq f),toks:=t'}:=by
 have q:=PySem.IsL.update e f;rw[hf] at q;refine I.write (x:=l) (e:=l) (by rw[hH];exact trivial) (.inl rfl) (λb' u hb hu=>(Heap.get?_update_other s.heap (Obj.mapSeq f) (Ne.symm hb)).trans hu) ⟨_,q⟩ ?_;exact⟨hz,its',_,hv,q⟩
theorem Inv.Lc {ba:List Value} {t':Nat} (I:Inv X pins σ H s) (hv:bq ys ba) (hz:ys.length<=sizeLine):
  Inv X pins σ (upd H s.heap.objs.size (.lst ys)) {s with heap:=s.heap.push {cls:=.type "list",data:=.seq ba.toArray},toks:=t'}:=
 I.laid (λ_ _ q=>abk _ q) (aag _) ⟨hz,ba,0,hv,abl _ rfl⟩
theorem Inv.fresh (I:Inv X pins σ H s):H s.heap.objs.size=none:=I.bP.fresh (aag _)
theorem Inv.rH (I:Inv X pins σ H s) (hH:H l=some (.lst xs)):xs.length<=sizeLine/\∃(ba:List Value) (n:Nat),bq xs ba/\xs.length=ba.length/\s.heap.get? l=some {cls:=.type "list",data:=.seq ba.toArray n}:=by
 obtain⟨z,ba,n,r,e⟩:=I.bP l _ hH;exact⟨z,ba,n,r,r.length,e⟩
theorem uc {n:Nat} (h:n<=sizeLine):Builtin.List.listTooLong n=false:=by
 unfold Builtin.List.listTooLong;exact decide_eq_false ⋯
end
section
variable {X : Cx}
abbrev dS:V->List V->Hp->VK->Prop:=λx vs H Q=>∃l xs y,x=.ref l/\vs=[y]/\H l=some (.lst xs)/\xs.length<sizeLine/\Q .cU (upd H l (.lst (xs++ [y])))
theorem c5:Fw X "list.append" dS:=by
 intro pins s σ H x vs v us Q I rx rv h;obtain⟨l,xs,y,rfl,rfl,hH,hz,q⟩:=h;cases rx;obtain⟨u,rfl,ru⟩:=rv.one;obtain⟨z,ba,n,r,hl,e⟩:=I.rH hH;refine call_meets F.slot_list_append ⟨_,e,rfl⟩ F.entry_list_append (F.args_list_append_2 _ _) (PySem.list_append l ba.toArray n u (by rw[aaj];lia)) ⟨e,?_⟩;refine⟨.cU,_,I.AI (its':=ba++ [u]) hH e (by simp) (r.append (.cons ru .nil)) ?_,rfl,q⟩;rw[aaq,aa6];lia
abbrev nI:V->List V->Hp->VK->Prop:=λx vs H Q=>∃l b xs zs,x=.ref l/\vs=[.ref b]/\H l=some (.lst xs)/\H b=some (.lst zs)/\xs.length+zs.length<=sizeLine/\Q .cU (upd H l (.lst (xs++zs)))
theorem lI:Fw X "list.extend" nI:=by
 intro pins s σ H x vs v us Q I rx rv h;obtain⟨l,b,xs,zs,rfl,rfl,hH,hB,hz,q⟩:=h;cases rx;obtain⟨u,rfl,ru⟩:=rv.one;cases ru;obtain⟨z,ba,n,r,hl,e⟩:=I.rH hH;obtain⟨z2,vU,n2,r2,AJ,e2⟩:=I.rH hB;have hsz:ba.toArray.size+vU.toArray.size<=sizeLine:=by rw[aaj,aaj];lia
 have AK:¬(!ba.toArray.isEmpty && Builtin.List.listTooLong (ba.toArray.size+vU.toArray.size))=true:=by
  rw[uc hsz,Bool.and_false];exact aat
 refine call_meets F.slot_list_extend ⟨_,e,rfl⟩ F.entry_list_extend (F.args_list_extend_2 _ _)
  (AutoSeq1.list_extend_list_list_0 l ba.toArray n b vU.toArray n2 AK (by rw[aaj];lia) ⋯) ⟨e,e2,?_⟩
 refine⟨.cU,_,I.AI (its':=ba++vU) hH e (by simp) (r.append r2) ?_,rfl,q⟩;rw[aaq];lia
abbrev ud:V->List V->Hp->VK->Prop:=λx vs H Q=>∃l xs,x=.ref l/\vs=[]/\H l=some (.lst xs)/\Q .cU (upd H l (.lst xs.reverse))
theorem vV:Fw X "list.reverse" ud:=by
 intro pins s σ H x vs v us Q I rx rv h;obtain⟨l,xs,rfl,rfl,hH,q⟩:=h;cases rx;have Q0:=rv.zero;subst Q0;obtain⟨z,ba,n,r,hl,e⟩:=I.rH hH;refine call_meets F.slot_list_reverse ⟨_,e,rfl⟩ F.entry_list_reverse (F.args_list_reverse_1 _) (AutoSeq1.list_reverse_list_0 l ba.toArray n (by rw[aaj];lia)) ⟨e,?_⟩;refine⟨.cU,_,I.AI (its':=ba.reverse) hH e (by simp) r.reverse ?_,rfl,q⟩;rw[List.length_reverse];lia
abbrev lJ:V->List V->Hp->VK->Prop:=λx vs H Q=>∃l xs,x=.ref l/\vs=[]/\H l=some (.lst xs)/\Q .cU (upd H l (.lst []))
theorem iu:Fw X "list.clear" lJ:=by
 intro pins s σ H x vs v us Q I rx rv h;obtain⟨l,xs,rfl,rfl,hH,q⟩:=h;cases rx;have Q0:=rv.zero;subst Q0;obtain⟨z,ba,n,r,hl,e⟩:=I.rH hH;refine call_meets F.slot_list_clear ⟨_,e,rfl⟩ F.entry_list_clear (F.args_list_clear_1 _) (AutoSeq1.list_clear_list_0 l ba.toArray n (by rw[aaj];lia)) ⟨e,?_⟩;exact⟨.cU,_,I.AI (its':=[]) (ys:=[]) hH e rfl .nil (aah _),rfl,q⟩
abbrev Dy:R2:=λx y H Q=>∃l b xs zs,x=.ref l/\y=.ref b/\H l=some (.lst xs)/\H b=some (.lst zs)/\xs.length+zs.length<=sizeLine/\∀p,H p=none->Q (.ref p) (upd H p (.lst (xs++zs)))
theorem vW:i7 X (binaryOp .Add) Dy:=by
 intro pins s σ H x y v u Q I rx ry h;obtain⟨l,b,xs,zs,rfl,rfl,hH,hB,hz,q⟩:=h;cases rx;cases ry;obtain⟨z,ba,n,r,hl,e⟩:=I.rH hH;obtain⟨z2,vU,n2,r2,AJ,e2⟩:=I.rH hB;refine PySem.P.add_list e e2 ?_ (by rw[aaj,aaj];lia);have ea:ba.toArray++vU.toArray=(ba++vU).toArray:=by simp
 rw[ea];exact⟨.ref _,_,I.Lc (t':=s.toks) (r.append r2) (by rw[aaq];lia),rfl,q _ I.fresh⟩
abbrev Dz:R2:=λx y H Q=>∃l k xs,x=.ref l/\y=.int k/\H l=some (.lst xs)/\-(2^63)<=k/\k<2^63/\xs.length*k.toNat<=sizeLine/\
 ∀p,H p=none->Q (.ref p) (upd H p (.lst (abn k.toNat xs).flatten))
theorem len_rep {α:Type} (xs:List α) (k:Nat):(abn k xs).flatten.length=k*xs.length:=by
 induction k with
 | zero=>simp
 | succ k ih=>rw[aa5,List.flatten_cons,aaq,ih,Nat.succ_mul,Nat.add_comm]
theorem vX:i7 X (binaryOp .Mult) Dz:=by
 intro pins s σ H x y v u Q I rx ry h;obtain⟨l,k,xs,rfl,rfl,hH,h1,h2,hz,q⟩:=h;cases rx;obtain⟨t,rfl⟩:=ry;obtain⟨z,ba,n,r,hl,e⟩:=I.rH hH;have hlen:ba.toArray.size*k.toNat<=sizeLine:=by rw[aaj,<-hl];exact hz
 have Q3:¬ba.toArray.size*k.toNat >(2^63 - 1) / 8:=by
  have:(sizeLine:Nat)<=(2^63 - 1) / 8:=∅
  lia
 have Q4:¬(!Builtin.List.listFitsIndex k)=true:=by
  rw[fitsIndex_both h1 h2];exact aat
 have AK:¬Builtin.List.listTooLong (ba.toArray.size*k.toNat)=true:=by
  rw[uc hlen];exact aat
 have Q5:List.foldl (λx1 x2=>x1++x2) #[] (abn (if ba.toArray.isEmpty=true then 0 else k.toNat) ba.toArray)=(abn k.toNat ba).flatten.toArray:=by
  have f0:∀m:Nat,List.foldl (λx1 x2=>x1++x2) #[] (abn m ba.toArray)=(abn m ba).flatten.toArray:=λm=>by
   have:=foldl_rep ba m [];rw[List.nil_append] at this;exact this
  rw[f0];cases ba with
  | nil=>simp
  | cons a r'=>rw[if_neg (by simp)]
 refine wpAny_binaryOp_repeat_ref (T:="list") (U:="int") ∅ ⟨_,e,rfl⟩ (λs'=>typeIs_int s' k t) noFill_list_mul F.fills_int_mul F.slot_int_rmul repeat_list F.slot_int_index.lookup
  (call_meets F.slot_int_rmul (typeIs_int s k t) F.entry_int_rmul (F.args_int_rmul_2 _ _) (int___rmul___int_list k t l ba.toArray n)
   ⟨e,rfl,⟨_,e,rfl⟩,call_meets F.slot_list_mul ⟨_,e,rfl⟩ F.entry_list_mul (F.args_list_mul_2 _ _) (AutoListH.list___mul___list_int_3 l ba.toArray n k t Q4 Q3 AK) ⟨e,?_⟩⟩)
 rw[Q5];exact⟨.ref _,_,I.Lc (t':=s.toks) (r.rep k.toNat) (by rw[len_rep,Nat.mul_comm];exact hz),rfl,q _ I.fresh⟩
end
section
variable {prog : Program} {w : World} {A : Around} {E : Value -> Shared -> Prop} {s : Shared}
end
section
variable {X : Cx}
end
section
variable {κ : Type} [DecidableEq κ]
abbrev dI (kvs:List (κ×V)) (k:κ):Option V:=(kvs.find? λkv=>decide (kv.1=k)).map (·.2)
abbrev putK (kvs:List (κ×V)) (k:κ) (v:V):List (κ×V):=
 if (kvs.any λkv=>decide (kv.1=k))=true then kvs.map (λkv=>if kv.1=k then (kv.1,v) else kv) else kvs++ [(k,v)]
abbrev Ld (kvs:List (κ×V)) (k:κ):List (κ×V):=kvs.filter λkv=>decide (kv.1≠k)
theorem gu {p:κ×V} {r:List (κ×V)} {k:κ} (e:p.1=k):dI (p::r) k=some p.2:=by simp [dI,List.find?_cons,e]
theorem d8 {p:κ×V} {r:List (κ×V)} {k:κ} (e:¬p.1=k):dI (p::r) k=dI r k:=by simp [dI,List.find?_cons,e]
theorem uf (k:κ):∀kvs:List (κ×V),(kvs.any λkv=>decide (kv.1=k))=(dI kvs k).isSome
 | []=>rfl
 | p::r=>by
  rw[List.any_cons]
  by_cases e:p.1=k
  ·simp only[gu e,decide_eq_true e,Bool.true_or,Option.isSome_some]
  ·rw[d8 e,decide_eq_false e,Bool.false_or];exact uf k r
theorem mF (kvs:List (κ×V)) (k:κ) (v:V):(putK kvs k v).length<=kvs.length+1:=by
 unfold putK
 split
 ·rw[aad];lia
 ·rw[aaq,aap,aa0];lia
theorem hZ.lK {o:Option V} {u:Option Value} (r:hZ o u):o.isSome=u.isSome:=by
 cases o with
 | none=>cases u with
  | none=>rfl
  | some _=>exact(show False from r).elim
 | some _=>cases u with
  | none=>exact(show False from r).elim
  | some _=>rfl
theorem hZ.getD {o:Option V} {u:Option Value} {d:V} {d':Value} (r:hZ o u) (rd:RelV d d'):RelV (o.getD d) (u.getD d'):=by
 cases o with
 | none=>cases u with
  | none=>exact rd
  | some _=>exact(show False from r).elim
 | some _=>cases u with
  | none=>exact(show False from r).elim
  | some _=>exact r
theorem KV.val {kvs:List (κ×V)} {vs:List (κ×Value)} (r:KV kvs vs) (k:κ):hZ (dI kvs k) (valueAt vs k):=by
 unfold KV at r
 induction r with
 | nil=>exact True.intro
 | @cons p q ps qs h t ih=>
  obtain⟨h1,h2⟩:=h
  by_cases e:p.1=k
  ·have e':q.1=k:=h1.symm.trans e;have b:valueAt (q::qs) k=some q.2:=by simp [valueAt,List.find?_cons,e']
   rw[gu e,b];exact h2
  ·have e':¬q.1=k:=λz=>e (h1.trans z);have b:valueAt (q::qs) k=valueAt qs k:=by simp [valueAt,List.find?_cons,e']
   rw[d8 e,b];exact ih
theorem KV.any {kvs:List (κ×V)} {vs:List (κ×Value)} (r:KV kvs vs) (k:κ):(kvs.any λkv=>decide (kv.1=k))=vs.any λkv=>decide (kv.1=k):=by
 unfold KV at r
 induction r with
 | nil=>rfl
 | cons h t ih=>rw[List.any_cons,List.any_cons,ih,h.1]
theorem KV.Hs {kvs:List (κ×V)} {vs:List (κ×Value)} (r:KV kvs vs) (k:κ) {y:V} {u:Value} (ry:RelV y u):
  KV (kvs.map λkv=>if kv.1=k then (kv.1,y) else kv) (vs.map λkv=>if kv.1=k then (kv.1,u) else kv):=by
 unfold KV at r ⊢
 induction r with
 | nil=>exact .nil
 | @cons p q ps qs h t ih=>
  rw[aae,aae];refine .cons ?_ ih;obtain⟨h1,h2⟩:=h
  by_cases e:p.1=k
  ·rw[if_pos e,if_pos (h1.symm.trans e)];exact⟨h1,ry⟩
  ·rw[if_neg e,if_neg (λz=>e (h1.trans z))];exact⟨h1,h2⟩
theorem KV.put {kvs:List (κ×V)} {vs:List (κ×Value)} (r:KV kvs vs) (k:κ) {y:V} {u:Value} (ry:RelV y u):KV (putK kvs k y) (stored vs k u):=by
 unfold putK stored;rw[r.any k]
 by_cases e:(vs.any λkv=>decide (kv.1=k))=true
 ·rw[if_pos e,if_pos e];exact r.Hs k ry
 ·rw[if_neg e,if_neg e];exact Paired.snoc r ⟨rfl,ry⟩
theorem KV.length {kvs:List (κ×V)} {vs:List (κ×Value)} (r:KV kvs vs):kvs.length=vs.length:=Paired.length r
end
theorem ox {P:Program} {w:World} {k:Key} {u:Value} (r:RelV (kV k) u):(cE P w).is k u=true:=by
 cases k with
 | inl i=>obtain⟨t,e⟩:=(show ∃t,u=Value.int i t from r);subst e;exact tU P w i t
 | inr x=>obtain⟨t,e⟩:=(show ∃t,u=Value.str x t from r);subst e;exact tV P w x t
theorem qA {P:Program} {w:World}:∀{ks:List Key} {us:List Value},bq (ks.map kV) us->ItemsAre (cE P w) ks us
 | [],_,r=>by rw[aaN] at r;cases r;exact .nil
 | k::ks,_,r=>by
  rw[aae] at r;cases r with
  | cons h t=>exact .cons (ox h) (qA t)
@[inline]abbrev KT (H:Hp):List (List Key×V)->List (List Key×Addr×Value)->Prop:=Paired λp q=>p.1=q.1/\H q.2.1=some (.tup (p.1.map kV))/\RelV p.2 q.2.2
theorem KT.val {H:Hp} {kvs:List (List Key×V)} {xs:List (List Key×Addr×Value)} (r:KT H kvs xs) (k:List Key):hZ (dI kvs k) ((atKey xs k).map (·.2)):=by
 induction r with
 | nil=>exact True.intro
 | @cons p q ps qs h t ih=>
  obtain⟨h1,_,h2⟩:=h
  by_cases e:p.1=k
  ·have e':q.1=k:=h1.symm.trans e;have b:atKey (q::qs) k=some q.2:=by simp [atKey,List.find?_cons,e']
   rw[gu e,b];exact h2
  ·have e':¬q.1=k:=λz=>e (h1.trans z);have b:atKey (q::qs) k=atKey qs k:=by simp [atKey,List.find?_cons,e']
   rw[d8 e,b];exact ih
theorem KT.Hs {H:Hp} {kvs:List (List Key×V)} {xs:List (List Key×Addr×Value)} (r:KT H kvs xs) (k:List Key) {y:V} {u:Value} (ry:RelV y u):
  KT H (kvs.map λkv=>if kv.1=k then (kv.1,y) else kv) (xs.map (putAt k u)):=by
 induction r with
 | nil=>exact .nil
 | @cons p q ps qs h t ih=>
  rw[aae,aae];refine .cons ?_ ih;obtain⟨h1,h2,h3⟩:=h;unfold putAt
  by_cases e:p.1=k
  ·rw[if_pos e,if_pos (h1.symm.trans e)];exact⟨h1,h2,ry⟩
  ·rw[if_neg e,if_neg (λz=>e (h1.trans z))];exact⟨h1,h2,h3⟩
theorem KT.put {H:Hp} {kvs:List (List Key×V)} {xs:List (List Key×Addr×Value)} (r:KT H kvs xs) (k:List Key) {b:Addr} {y:V} {u:Value} (hb:H b=some (.tup (k.map kV))) (ry:RelV y u):
  KT H (putK kvs k y) (storedH xs k b u):=by
 have e:(kvs.any λkv=>decide (kv.1=k))=(atKey xs k).isSome:=by
  rw[uf,(r.val k).lK,Option.isSome_map]
 unfold putK storedH;rw[e]
 by_cases q:(atKey xs k).isSome=true
 ·rw[if_pos q,if_pos q];exact r.Hs k ry
 ·rw[if_neg q,if_neg q];exact Paired.snoc r ⟨rfl,hb,ry⟩
theorem KT.keeps {H H':Hp} {kvs:List (List Key×V)} {xs:List (List Key×Addr×Value)} (r:KT H kvs xs) (ht:∀b ys,H b=some (.tup ys)->H' b=some (.tup ys)):KT H' kvs xs:=
 Paired.G5 r λ_ _ z=>⟨z.1,ht _ _ z.2.1,z.2.2⟩
section
variable {P : Program} {w : World} {H : Hp} {h : Heap} {a : Addr}
theorem Fx {u:HO} (ok:gq P w H h) (e:Rd H a u):cf P w H h a u:=e.ok ok
theorem mG {kvs:List (Key×V)} (ok:gq P w H h) (e:Rd H a (.dK kvs)):kvs.length<=sizeLine/\(a==sysModules)=false/\∃vs,KV kvs vs/\h.DictOf (cE P w) a vs:=
 show cf P w H h a (.dK kvs) from Fx ok e
theorem AL {kvs:List (Key×V)} (ok:gq P w H h) (e:H a=some (.dK kvs)):kvs.length<=sizeLine/\(a==sysModules)=false/\∃vs,KV kvs vs/\h.DictOf (cE P w) a vs:=mG ok (.inl e)
theorem oy {ks:List Key} (ok:gq P w H h) (e:H a=some (.tup (ks.map kV))):(tupleKind (cE P w)).is h ks a:=by
 obtain⟨_,ba,r,o,h1,h2,n,h3⟩:=(show cf P w H h a (.tup (ks.map kV)) from ok a _ e)
 exact⟨o,ba.toArray,n,h1,h2,h3,by simpa using qA r⟩
theorem qB {kvs:List (List Key×V)} (ok:gq P w H h) (e:Rd H a (.dT kvs)):kvs.length<=sizeLine/\(a==sysModules)=false/\
  ∃xs,KT H kvs xs/\h.DictOfH (tupleKind (cE P w)) a xs:=by
 obtain⟨z,y,xs,r,o,es,ep,h1,h2,h3,h4,h5⟩:=(show cf P w H h a (.dT kvs) from Fx ok e)
 refine⟨z,y,xs,r,o,es,ep,h1,h2,h3,h4,λx hx=>?_,h5⟩;have all:∀{l:List (List Key×V)} {m:List (List Key×Addr×Value)},KT H l m->∀x∈m,(tupleKind (cE P w)).is h x.1 x.2.1:=by
  intro l m q
  induction q with
  | nil=>intro x hx;exact nomatch hx
  | @cons p q ps qs hq t ih=>
   intro x hx;rcases aaB.mp hx with e | hx
   ·subst e;exact oy ok (by rw[<-hq.1];exact hq.2.1)
   ·exact ih x hx
 exact all r x hx
theorem Le {kvs:List (List Key×V)} (ok:gq P w H h) (e:H a=some (.dT kvs)):kvs.length<=sizeLine/\(a==sysModules)=false/\
  ∃xs,KT H kvs xs/\h.DictOfH (tupleKind (cE P w)) a xs:=qB ok (.inl e)
end
abbrev iY (H:Hp) (a:Addr) (y:V) (r:Option V):Prop:=
 (∃kvs k,Rd H a (.dK kvs)/\y=kV k/\r=dI kvs k)\/∃kvs k b,Rd H a (.dT kvs)/\y=.ref b/\H b=some (.tup (k.map kV))/\r=dI kvs k
abbrev vY (H:Hp) (a:Addr) (y v:V) (H':Hp):Prop:=
 (∃kvs k,H a=some (.dK kvs)/\y=kV k/\kvs.length<sizeLine/\H'=upd H a (.dK (putK kvs k v)))\/
 ∃kvs k b,H a=some (.dT kvs)/\y=.ref b/\H b=some (.tup (k.map kV))/\kvs.length<sizeLine/\H'=upd H a (.dT (putK kvs k v))
theorem vY.k {H:Hp} {a:Addr} {kvs:List (Key×V)} {k:Key} {v:V} (e:H a=some (.dK kvs)) (hl:kvs.length<sizeLine):vY H a (kV k) v (upd H a (.dK (putK kvs k v))):=.inl ⟨kvs,k,e,rfl,hl,rfl⟩
section
variable {X : Cx} {pins : List (Addr × Obj)} {σ : St} {H : Hp} {s : Shared} {a : Addr} {y v : V} {u r : Value} {o : Option V} {A : Around} {E : Value -> Shared -> Prop}
theorem Inv.Xp (I:Inv X pins σ H s):sysModules<s.heap.objs.size:=by
 have h:mainGlobals<s.heap.objs.size:=(I.mod.glob.keeps I.bk).lt;exact Nat.lt_trans ∅ h
theorem zh {Q:Value->Shared->Prop} (hu:A.units+1<cLine) (I:Inv X pins σ H s) (g:iY H a y (some v)) (ry:RelV y u) (h:∀w' s',Inv X pins σ H s'->RelV v w'->Q w' s'):
  wpAny (model X.prog X.w) A (getItem (.ref a) u) Q E s:=by
 rcases g with ⟨kvs,k,e,ey,l⟩ | ⟨kvs,k,b,e,ey,eb,l⟩
 ·subst ey;obtain⟨z,hd,vs,rel,dd⟩:=mG I.bP e;obtain⟨w',hw,y4⟩:=hZ.some_of (v:=v) (o:=valueAt vs k) (by rw[l];exact rel.val k);exact wpAny_getItem_of (ox ry) dd.mapOf hw (h w' _ (I.tok _) y4)
 ·subst ey;cases (show u=Value.ref b from ry);obtain⟨z,hd,xs,rel,dd⟩:=qB I.bP e;obtain⟨w',hw,y4⟩:=hZ.some_of (v:=v) (o:=(atKey xs k).map (·.2)) (by rw[l];exact rel.val k);obtain⟨p,hp,Xq⟩:=abg.mp hw;refine wpAny_getItem_heap (tupleKind_room_in1 hu) (oy I.bP eb) dd hp ?_;rw[Xq];exact h w' _ (I.tok _) y4
theorem DA {Q:Value->Shared->Prop} (hu:A.units+1<cLine) (I:Inv X pins σ H s) (g:iY H a y o) (ry:RelV y u) (h:∀s',Inv X pins σ H s'->Q (.bool (!o.isSome)) s'):
  wpAny (model X.prog X.w) A (compareOp .NotIn u (.ref a)) Q E s:=by
 rcases g with ⟨kvs,k,e,ey,l⟩ | ⟨kvs,k,b,e,ey,eb,l⟩
 ·subst ey;obtain⟨z,hd,vs,rel,dd⟩:=mG I.bP e;refine wpAny_notIn_of (ox ry) hd dd.mapOf ?_;rw[<-(rel.val k).lK,<-l];exact h _ (I.tok _)
 ·subst ey;cases (show u=Value.ref b from ry);obtain⟨z,hd,xs,rel,dd⟩:=qB I.bP e;refine wpAny_notIn_heap (tupleKind_room_in1 hu) (oy I.bP eb) hd dd ?_;have q:=(rel.val k).lK;rw[Option.isSome_map] at q;rw[<-q,<-l];exact h _ (I.tok _)
theorem xJ {h':Heap} {t':Nat} {ob:HO} (I:Inv X pins σ H s) (mu:KQ (H a)) (hs:Heap.SameBut a s.heap h') (he:∃q,h'.get? a=some q) (new:cf X.prog X.w (upd H a ob) h' a ob):
  Inv X pins σ (upd H a ob) {s with heap:=h',toks:=t'}:=
 I.write (x:=a) (e:=a) mu (.inl rfl) (λb q hb z=>(hs.2 b hb).trans z) he new
theorem Ht {P:Program} {w:World} {H':Hp} {h':Heap} {kvs:List (Key×V)} {vs:List (Key×Value)} (z:kvs.length<=sizeLine) (hd:(a==sysModules)=false) (rel:KV kvs vs) (dd:h'.DictOf (cE P w) a vs):
  cf P w H' h' a (.dK kvs):=⟨z,hd,vs,rel,dd⟩
theorem zi {H':Hp} {Q:Unit->Shared->Prop} (hu:A.units+1<cLine) (I:Inv X pins σ H s) (g:vY H a y v H') (ry:RelV y u) (rv:RelV v r) (h:∀s',Inv X pins σ H' s'->Q () s'):
  wpAny (model X.prog X.w) A (setItem (.ref a) u r) Q E s:=by
 rcases g with ⟨kvs,k,e,ey,l,eH⟩ | ⟨kvs,k,b,e,ey,eb,l,eH⟩
 ·subst ey eH;obtain⟨z,hd,vs,rel,dd⟩:=AL I.bP e;have hz:vs.length<=sizeLine:=by rw[<-rel.length];exact z
  have hl:(putK kvs k v).length<=sizeLine:=by have:=mF kvs k v;lia
  refine wpAny_setItem_pairs (hsz:=hz) (ox ry) dd λh' Pz hs=>h _ ?_;have he:∃q,h'.get? a=some q:=let ⟨q,_,_,hq,_⟩:=Pz;⟨q,hq⟩;exact xJ I (by rw[e];exact True.intro) hs he (Ht hl hd (rel.put k rv) Pz)
 ·subst ey eH;cases (show u=Value.ref b from ry);obtain⟨z,hd,xs,rel,dd⟩:=Le I.bP e;have hz:xs.length<=sizeLine:=by rw[<-Paired.length rel];exact z
  have hl:(putK kvs k v).length<=sizeLine:=by have:=mF kvs k v;lia
  refine wpAny_setItem_heap (hsz:=hz) (tupleKind_room_in1 hu) (oy I.bP eb) dd λh' Pz hs=>h _ ?_;obtain⟨q,es,ep,hq,h2,h3,h4,_,h5⟩:=Pz;refine xJ I (by rw[e];exact True.intro) hs ⟨q,hq⟩ ⟨hl,hd,_,(rel.put k eb rv).keeps λc ys ec=>?_,q,es,ep,hq,h2,h3,h4,h5⟩;rw[av (KP ec e (λz=>nomatch z))];exact ec
end
section
variable {X : Cx} {pins : List (Addr × Obj)} {σ : St} {H : Hp} {s : Shared} {a : Addr} {kvs : List (Key × V)} {k : Key} {u : Value} {A : Around} {E : Value -> Shared -> Prop}
theorem Lf {Q:Value->Shared->Prop} (I:Inv X pins σ H s) (e:Rd H a (.dK kvs)) (h:∀t s',Inv X pins σ H s'->Q (.int kvs.length t) s'):wpAny (model X.prog X.w) A (call (.builtin "len") [.ref a]) Q E s:=by
 obtain⟨z,hd,vs,rel,dd⟩:=mG I.bP e;refine call_len_dict hd dd (by rw[<-rel.length];rw[sizeLine_eq] at z;lia) ?_;rw[<-rel.length];exact h _ _ (I.tok _)
end
abbrev Lg (i:Expr):Prop:=∀ov iv,subscripted i false ov iv=operate [ov,iv] (getItem ov iv)
theorem DB {prog:Program} {w:World} {A:Around} {E:Value->Shared->Prop} {s:Shared} {env:Env} {value slice:Expr} {pos:Pos} {T id:String} {Q:Value->Shared->Prop}
  (hl:typeLookup (.type T) "__getitem__"=pure (some (.builtin id))) (hs:Lg slice)
  (h:wpAny (model prog w) A (eval value env) (λo s₁=>wpAny (model prog w) A (eval slice env) (λi s₂=>s₂.TypeIs o T/\wpAny (model prog w) A (getItem o i) Q E s₂) E s₁) E s):
  wpAny (model prog w) A (eval (.Subscript value slice pos) env) Q E s:=by
 refine Subscript_ (wpAny_mono h (λo s₁ h₁=>wpAny_mono h₁ (λi s₂ h₂=>?_) λ_ _ x=>x) λ_ _ x=>x);obtain⟨hT,h₂⟩:=h₂;unfold subscriptTail;refine wpAny_bind ?_;rw[getitemInPython_of_ne hT.not_modules];refine wpAny_bind (wpAny_specialOf hT hl ?_);have fin:wpAny (model prog w) A (subscripted slice false o i) (λr s₃=>wpAny (model prog w) A (letTemporaryGo value o r >>=λ_=>pure r) Q E s₃) E s₂:=by
  rw[hs o i];exact wpAny_operating (wpAny_mono h₂ (λr s₃ h₃=>wpAny_bind (wpAny_letTemporaryGo (wpAny_pure h₃))) λ_ _ x=>x)
 first
  | exact wpAny_pure (wpAny_bind fin)
  | exact wpAny_bind (wpAny_pure (wpAny_bind fin))
  | exact wpAny_bind fin
theorem ug {X:Cx} {pins:List (Addr×Obj)} {σ:St} {H:Hp} {s:Shared} {a:Addr} {y:V} {o:Option V} (I:Inv X pins σ H s) (g:iY H a y o):s.TypeIs (.ref a) "dict":=by
 rcases g with ⟨kvs,k,e,_,_⟩ | ⟨kvs,k,b,e,_,_,_⟩
 ·obtain⟨_,_,vs,_,dd⟩:=mG I.bP e;exact dd.typeIs
 ·obtain⟨_,_,xs,_,dd⟩:=qB I.bP e;exact dd.typeIs
abbrev tDGet (td ty:TE):TE:=λσ H Q=>td σ H λx H1=>ty σ H1 λy H2=>∃a v,x=.ref a/\iY H2 a y (some v)/\Q v H2
abbrev tDIn (ty td:TE):TE:=λσ H Q=>ty σ H λy H1=>td σ H1 λx H2=>∃a o,x=.ref a/\iY H2 a y o/\Q (.bl o.isSome) H2
abbrev tDNotIn (ty td:TE):TE:=λσ H Q=>ty σ H λy H1=>td σ H1 λx H2=>∃a o,x=.ref a/\iY H2 a y o/\Q (.bl (!o.isSome)) H2
abbrev sDPut (td ty tv:TE):TS:=λD σ H=>tv σ H λv H1=>td σ H1 λx H2=>ty σ H2 λy H3=>∃a H4,x=.ref a/\vY H3 a y v H4/\D.nx σ H4
section
variable {X : Cx} {o i e value : Expr} {pos pos' nh : Pos} {td ty tv : TE}
theorem cF (hu:X.A.units+1<cLine) (ho:PE X o td) (hi:PE X i ty) (hs:Lg i):PE X (.Subscript o i pos) (tDGet td ty):=by
 intro pins s σ H Q I h;refine DB PySem.F.slot_dict_getitem.lookup hs (cK (ho pins s σ H _ I h) λu s1 ⟨x,H1,I1,rx,q1⟩=>cK (hi pins s1 σ H1 _ I1 q1) λiv s2 dB=>?_);obtain⟨y,H2,I2,ry,a,v,ex,g,q2⟩:=dB;subst ex;obtain rfl:u=Value.ref a:=rx;exact⟨ug I2 g,zh hu I2 g ry λw' s3 I3 y4=>⟨v,H2,I3,y4,q2⟩⟩
theorem qE (hu:X.A.units+1<cLine) (hi:PE X i ty) (ho:PE X o td):PC X .NotIn i o (tDNotIn ty td):=by
 intro pins s σ H Q I h;refine cK (hi pins s σ H _ I h) λiv s1 ⟨y,H1,I1,ry,q1⟩=>cK (ho pins s1 σ H1 _ I1 q1) λu s2 dB=>?_;obtain⟨x,H2,I2,rx,a,ov,ex,g,q2⟩:=dB;subst ex;obtain rfl:u=Value.ref a:=rx;exact DA hu I2 g ry λs3 I3=>⟨.bl (!ov.isSome),H2,I3,rfl,q2⟩
theorem d9 (hu:X.A.units+1<cLine) (ho:PE X o td) (hi:PE X i ty) (hv:PE X value tv) (hs:swapsWith value (some (.Subscript o i pos')) pos.line X.env=pure false):
  PS X (.Assign [.Subscript o i pos'] value pos) (sDPut td ty tv):=by
 intro pins s σ H D I h;refine wpAny_Assign_Subscript (cK (hv pins s σ H _ I h) λr s1 ⟨v,H1,I1,rv,q1⟩=>cK (ho pins s1 σ H1 _ I1 q1) λu s2 ⟨x,H2,I2,rx,q2⟩=>cK (hi pins s2 σ H2 _ I2 q2) λiv s3 dB=>?_) hs;obtain⟨y,H3,I3,ry,a,H4,ex,g,q3⟩:=dB;subst ex;obtain rfl:u=Value.ref a:=rx;exact zi hu I3 g ry rv λs4 I4=>⟨σ,H4,I4,q3⟩
end
theorem AM {P:Program} {w:World} {H:Hp} (h:Heap) (hb:sysModules<h.objs.size):cf P w H (h.push {cls:=.type "dict",data:=.dict #[]}) h.objs.size (.dK []):=
 ⟨aah _,beq_eq_false_iff_ne.mpr (Ne.symm (aar hb)),[],.nil,Heap.DictOf.new h⟩
abbrev tDNewK:TE:=λ_ H Q=>∀p,H p=none->Q (.ref p) (upd H p (.dK []))
section
variable {X : Cx} {pos : Pos}
theorem gw:PE X (.Dict [] [] pos) tDNewK:=λpins s σ H Q I h=>
 wpAny_Dict_empty ⟨.ref s.heap.objs.size,_,I.laid (a:=s.heap.objs.size) (o:=.dK []) (t':=s.toks) (λ_ _ q=>abk _ q) (aag _) (AM s.heap I.Xp),rfl,h _ (I.bP.fresh (aag _))⟩
end
@[inline]abbrev VV:List (V×V)->List (Value×Value)->Prop:=Paired λp q=>RelV p.1 q.1/\RelV p.2 q.2
structure M1 (X:Cx) (o:Expr) (m:Str) (apos:Pos) (e:Expr) (dE:Pos):Prop where
 base:attributeBase o m X.env (eval o X.env)=eval o X.env
 J0:((backTo dE (starEach [e] X.env)).all (λx=>!x.1) && (backToKw dE (keywordEach [] X.env)).all (λx=>x.1.isSome)
  && decide (([e]:List Expr).length+ ([]:List Keyword).length+ (if ([]:List Keyword).isEmpty then 0 else 1)<30))=true
 line:(apos.endLine==dE.line)=true
 trees:backTo dE (starEach [e] X.env)=[(false,eval e X.env)]
structure M2 (X:Cx) (o:Expr) (m:Str) (apos:Pos) (e f:Expr) (dE:Pos):Prop where
 base:attributeBase o m X.env (eval o X.env)=eval o X.env
 J0:((backTo dE (starEach [e,f] X.env)).all (λx=>!x.1) && (backToKw dE (keywordEach [] X.env)).all (λx=>x.1.isSome)
  && decide (([e,f]:List Expr).length+ ([]:List Keyword).length+ (if ([]:List Keyword).isEmpty then 0 else 1)<30))=true
 line:(apos.endLine==dE.line)=true
 trees:backTo dE (starEach [e,f] X.env)=[(false,eval e X.env),(false,eval f X.env)]
abbrev PB (H:Hp) (a:Addr):Prop:=(∃kvs,Rd H a (.dK kvs))\/∃kvs,Rd H a (.dT kvs)
theorem Hu {X:Cx} {pins:List (Addr×Obj)} {σ:St} {H:Hp} {s:Shared} {a:Addr} (I:Inv X pins σ H s) (d:PB H a):
  s.TypeIs (.ref a) "dict"/\(∀b,Value.ref a=.ref b->∃ob,s.heap.get? b=some ob/\ob.dict=none)/\(a==sysModules)=false:=by
 rcases d with ⟨kvs,e⟩ | ⟨kvs,e⟩
 ·obtain⟨_,hd,vs,_,dd⟩:=mG I.bP e;refine⟨dd.typeIs,λb q=>?_,hd⟩;cases q;obtain⟨ob,_,_,h1,h2,_⟩:=dd;exact⟨ob,h1,h2.2.1⟩
 ·obtain⟨_,hd,xs,_,dd⟩:=qB I.bP e;refine⟨dd.typeIs,λb q=>?_,hd⟩;cases q;obtain⟨ob,_,_,h1,h2,_⟩:=dd;exact⟨ob,h1,h2.2.1⟩
section
variable {X : Cx} {pins : List (Addr × Obj)} {σ : St} {H : Hp} {s : Shared} {a : Addr} {y d : V} {u r : Value} {o : Option V} {A : Around} {E : Value -> Shared -> Prop}
theorem Hv {Q:Value->Shared->Prop} (hu:A.units+1<cLine) (I:Inv X pins σ H s) (g:iY H a y o) (ry:RelV y u) (rd:RelV d r) (h:∀w' s',Inv X pins σ H s'->RelV (o.getD d) w'->Q w' s'):
  wpAny (model X.prog X.w) A (call (.builtin "dict.get") [.ref a,u,r]) Q E s:=by
 rcases g with ⟨kvs,k,e,ey,l⟩ | ⟨kvs,k,b,e,ey,eb,l⟩
 ·subst ey;obtain⟨z,hd,vs,rel,dd⟩:=mG I.bP e;refine call_meetsIn PySem.F.slot_dict_get dd.typeIs PySem.F.entry_dict_get (PySem.F.args_dict_get_3 _ _ _) (meets_dict_get_default (cE X.prog X.w) a (ox ry) hd r) ⟨_,dd.mapOf,h _ _ (I.tok _) ?_⟩;rw[l];exact(rel.val k).getD rd
 ·subst ey;cases (show u=Value.ref b from ry);obtain⟨z,hd,xs,rel,dd⟩:=qB I.bP e;refine call_meetsIn PySem.F.slot_dict_get dd.typeIs PySem.F.entry_dict_get (PySem.F.args_dict_get_3 _ _ _) (meetsH_dict_get_default (tupleKind (cE X.prog X.w)) a b hd r) ⟨tupleKind_room_in1 hu,k,xs,oy I.bP eb,dd,h _ _ (I.tok _) ?_⟩;rw[l];exact(rel.val k).getD rd
end
abbrev tDGet1 (td ty:TE):TE:=λσ H Q=>td σ H λx H1=>∃a,x=.ref a/\PB H1 a/\ty σ H1 λy H2=>∃o,iY H2 a y o/\Q (o.getD .cU) H2
abbrev tDGet2 (td ty tx:TE):TE:=λσ H Q=>td σ H λx H1=>∃a,x=.ref a/\PB H1 a/\ty σ H1 λy H2=>tx σ H2 λz H3=>∃o,iY H3 a y o/\Q (o.getD z) H3
abbrev tDPop1 (td ty:TE):TE:=λσ H Q=>td σ H λx H1=>∃a,x=.ref a/\PB H1 a/\ty σ H1 λy H2=>∃kvs k v,H2 a=some (.dK kvs)/\y=kV k/\dI kvs k=some v/\Q v (upd H2 a (.dK (Ld kvs k)))
section
variable {X : Cx} {o e f : Expr} {apos dE : Pos} {td ty tx : TE}
theorem AN (hu:X.A.units+1<cLine) (ho:PE X o td) (he:PE X e ty) (hf:PE X f tx) (m:M2 X o "get" apos e f dE):PE X (.Call (.Attribute o "get" apos) [e,f] [] dE) (tDGet2 td ty tx):=by
 intro pins s σ H Q I h;refine wpAny_Call_method m.base m.J0 m.line PySem.F.plainAttrs_dict PySem.F.slot_dict_get PySem.F.type_dict_get (cK (ho pins s σ H _ I h) λu s1 dB=>?_);obtain⟨x,H1,I1,rx,a,ex,d,q1⟩:=dB;subst ex;obtain rfl:u=Value.ref a:=rx;obtain⟨t1,t2,_⟩:=Hu I1 d;refine⟨t1,t2,?_⟩;rw[m.trees];refine Calls.callWith_builtin rfl (Calls.evalArgs_plain (Calls.spliced_cons (cK (he pins s1 σ H1 _ I1 q1) λiv s2 ⟨y,H2,I2,ry,q2⟩=>
  Calls.spliced_cons (cK (hf pins s2 σ H2 _ I2 q2) λfv s3 ⟨z,H3,I3,rz,ov,g,q3⟩=>Calls.spliced_nil ?_))))
 exact Hv hu I3 g ry rz λw' s4 I4 y4=>⟨_,H3,I4,y4,q3⟩
end
section
variable {X : Cx} {pins : List (Addr × Obj)} {σ : St} {H : Hp} {s : Shared} {a : Addr} {kvs : List (Key × V)} {A : Around} {E : Value -> Shared -> Prop}
end
section
variable {X : Cx} {pins : List (Addr × Obj)} {σ : St} {H : Hp} {s : Shared} {a : Addr} {y : V} {u : Value} {A : Around} {E : Value -> Shared -> Prop}
end
end L2
namespace Vq
open PySem PySem.W PySem.Calls PyProof.Rows
theorem nj {P:Params} {h:Heap}:∀(ns:List Int) (vs:List Value),WellAll P h vs (ns.map WData.int)->IntsAre vs ns:=by
 intro ns
 induction ns with
 | nil=>
  intro vs w;rw[aaN] at w;cases w;exact .nil
 | cons n ns ih=>
  intro vs w;rw[aae] at w;cases w with
  | cons a b=>
   cases a;exact .cons _ _ (ih _ b)
theorem zj {l:OpenLaw} {n:Nat} (hn:l.most=some n) {P:Params} {h:Heap} {args:List WData} {vals:List Value}
  (DC:l.row.toRowW.claim.pre args=true) (Li:WellAll P h vals args):
  ∃a vs ns,vals=[Value.ref a]/\args=[WData.list (ns.map WData.int)]/\h.get? a=some {cls:=.type "list",data:=.seq vs.toArray}/\IntsAre vs ns/\ns.length<=n:=by
 have f6:WShape.hasAll [] args [.list .int]=true:=(pre_splitW DC).1;have hc:l.pre.holds [] {args:=args}=true:=(pre_splitW DC).2;obtain⟨d,r,rfl,h1,h2⟩:=hasAllW_cons f6;obtain rfl:=hasAllW_nil h2;obtain⟨xs,rfl,h3⟩:=hasW_list h1;obtain⟨ns,rfl⟩:=items_int h3;have hlen:ns.length<=n:=by
  unfold OpenLaw.pre at hc;have h4:(WTm.not (.lt (.lit (.int (n:Int))) (.len (.arg 0)))).holds [] {args:=[.list (ns.map .int)]}=true:=by
   have h4:=(holds_andW hc).1;rw[hn] at h4;exact h4
  have h5:=condW_of h4 (w_not (w_lt w_lit (w_len_list (w_arg rfl))));rw[aad] at h5;refine Nat.le_of_not_lt λq=>?_;have q':(n:Int)< ((ns.length:Nat):Int):=⋯
  first
   | (rw[decide_eq_true q'] at h5;exact absurd h5 ∅)
   | (simp at h5;lia)
 cases Li with
 | cons w1 w2=>
  cases w2;cases w1 with
  | list ho zk=>exact⟨_,_,ns,rfl,rfl,ho,nj ns _ zk,hlen⟩
theorem zm (l:OpenLaw) (args:List WData):l.row.toRowW.claim.post args (.bool true) args=true:=
 postW_of (r:=l.row.toRowW) (X:=(true==true))
  (show WShape.has [] (.bool true) .bool=true by first | rfl | decide | simp [WShape.has,WShape.arms,WShape.armsAll])
  (show(WTm.eq .res (.lit (.bool true))).value [] {args:=args,res:=some (.bool true),after:=args}=some (.bool (true==true)) from w_eq_bool (w_res rfl) w_lit) rfl
theorem uh {l:OpenLaw} {n:Nat} {q:Program} {loose:List Str} {XP:(Str->Option Value)->Heap->Prop} {YP:World->Heap->Prop} {d:DefRec}
  (hn:l.most=some n) (Lj:d.params.defaults=[])
  (call:∀(w:World) (s₀ s₁:Shared) (mg mb:Str->Option Value) (fa:Addr) (o:Obj) (pm cd doc:Value) (a:Addr) (vs:List Value) (ns:List Int),
   Ground q loose [] XP w s₀ mg mb s₁.heap->YP w s₁.heap->
   s₁.heap.get? fa=some o->o.data=.func (docDef d.name d.params d.body d.scope pm cd doc)->s₁.heap.CodeRec cd d.name->mg d.name=some (.ref fa)->
   s₁.heap.get? a=some {cls:=.type "list",data:=.seq vs.toArray}->IntsAre vs ns->ns.length<=n->s₁.gens=#[]->
   codeAny (model l.prog w) callerA (.call (.ref fa) ⟨[.ref a],[]⟩) (λr s'=>r=.ok (.ret (.bool true))/\OldK s₁.heap s'.heap/\s'.os=s₁.os/\AllBare s'.gens) s₁):
  WalkO q loose XP YP l.row.toRowW d [] (λf vs=>PySem.call f vs):=by
 intro w s₀ s₁ mg mb G Y fa o pm cd doc dV kV ho hd yX hD Lk hg args vals as DC Xr hrd Li hlo;obtain rfl:dV=.none:=Dflts.none hD Lj;obtain rfl:kV=.none:=Dflts.noKw hD;obtain⟨a,vs,ns,rfl,rfl,Hw,hints,hlen⟩:=zj hn DC Li;refine enter_call (codeAny_mono (call w s₀ s₁ mg mb fa o pm cd doc a vs ns G Y ho (fd_plain hd) yX Lk Hw hints hlen hg) λr s' hq=>?_);obtain⟨rfl,h2,h3,h4⟩:=hq;exact⟨.inl ⟨.bool true,.bool true,[],rfl,λ_=>rfl,.bool true,zm l _,λ_=>⟨List.Pairwise.nil,λ_ hm=>(nomatch hm)⟩⟩,h2,h3,h4⟩
section
variable {prog : Program} {w : World} {A : Around} {E : Value -> Shared -> Prop} {s : Shared} {K : Frag}
end
end Vq
namespace L2
open PySem PySem.Spec PyProof.Rows
theorem qF:∀{vs:List Value} {ns:List Int},IntsAre vs ns->bq (ns.map V.int) vs
 | _,_,.nil=>.nil
 | _,_,.cons n t h=>.cons ⟨t,rfl⟩ (qF h)
abbrev Hx (H:Hp):Prop:=∀b,H b=none\/∃o xs,H b=some (.qu o (.lst xs))
theorem law_call {P:Program} {w:World} {K:aba} {mg mb:Str->Option Value} {CX:lG} {k:Nat} {fa a:Addr} {fd:FuncData} {x:Str} {sp:Sp} {s₁:Shared} {vs:List Value} {ns:List Int}
  (KX:K.In s₁.heap) (Vr:s₁.heap.Ns mainGlobals mg) (hb:s₁.heap.Ns builtinsNs mb) (Xs:∀x:Str,x≠"__name__"->mb x=bootBuiltins x) (Q6:s₁.heap.NoLimit) (hg:s₁.gens=#[])
  (ha:s₁.heap.get? a=some {cls:=.type "list",data:=.seq vs.toArray}) (hi:IntsAre vs ns) (hl:ns.length<=sizeLine) (hr:dY k callerA)
  (F:∀base:Heap,K.In base->base.Ns mainGlobals mg->fK P w K mg base CX k fa fd [x] sp) (Ll:∀(s:Shared) (u:Value),BindsTo s fd ⟨[u],[]⟩ [(x,u)])
  (C4:∀H:Hp,Hx H->bC K H a (ns.map V.int)->sp [.ref a] H (λv _=>v=.bl true) λ_ _ _=>False)
  (Q7:∀H e s',CX [] H s₁ (λ_ _ _=>False) e s'->False):
  codeAny (model P w) callerA (.call (.ref fa) ⟨[.ref a],[]⟩) (λr s'=>r=.ok (.ret (.bool true))/\OldK s₁.heap s'.heap/\s'.os=s₁.os/\AllBare s'.gens) s₁:=by
 have rv:=qF hi;have Q8:=hi.length;have core:∀H:Hp,Hx H->bC K H a (ns.map V.int)->gq P w H s₁.heap->(∀b,H b≠none->b=a)->(H a≠none->K.lookup a=none)->
   codeAny (model P w) callerA (.call (.ref fa) ⟨[.ref a],[]⟩) (λr s'=>r=.ok (.ret (.bool true))/\OldK s₁.heap s'.heap/\s'.os=s₁.os/\AllBare s'.gens) s₁:=by
  intro H hO hS bP hA hK;have xK:∀{b:Addr} {o:Obj},s₁.heap.get? b=some o->H b=none->(q9 s₁.heap H).get? b=some o:=λe n=>Ap e n;have La:∀{b:Addr} {o:Obj} {es:Array DictEntry} {ep:Nat},s₁.heap.get? b=some o->o.data=.dict es ep->H b=none:=λ{b o es ep} e d=>by
   cases q:H b with
   | none=>rfl
   | some u=>
    have e':b=a:=hA b (by rw[q];simp);subst e';rw[ha] at e;cases e;have d':Data.seq vs.toArray _=Data.dict es ep:=d;cases d'
  have PD:∀{b:Addr} {m:Str->Option Value},s₁.heap.Ns b m->(q9 s₁.heap H).Ns b m:=λ{b m} ⟨o,es,ep,e,d,r⟩=>⟨o,es,ep,xK e (La e d),d,r⟩
  have Vs:K.In (q9 s₁.heap H):=λb o e=>xK (KX b o e) (by
   cases q:H b with
   | none=>rfl
   | some u=>
    have e':b=a:=hA b (by rw[q];simp);subst e';rw[hK (by rw[q];simp)] at e;cases e)
  have hM:Mod K mg (q9 s₁.heap H):=⟨Vs,PD Vr,⟨mb,PD hb,Xs⟩,let ⟨mc,h1,h2⟩:=Q6;⟨mc,PD h1,h2⟩⟩
  have e0:vM P w K mg (q9 s₁.heap H) callerA [] s₁ H:=⟨rfl,hM,λb o e=>Dg e,Nat.le_of_eq (yV _ _),trivial,λb hb=>absurd (show b∈([]:List Addr) from hb) (by simp),bP,.of_eq hg⟩
  refine codeAny_mono ((F _ Vs (PD Vr)).run callerA [] s₁ H ⟨[.ref a],[]⟩ [.ref a] [.ref a] _ _ hr e0 (Ll s₁ (.ref a)) (.cons rfl .nil) (C4 H hO hS)) λr s' h=>?_;cases r with
  | error e=>exact(Q7 H e s' h).elim
  | ok fl=>
   cases fl with
   | next=>exact False.elim h
   | brk=>exact False.elim h
   | cont=>exact False.elim h
   | ret u=>
    obtain⟨v,H',os,bare,un,Q9,r',q⟩:=h;have q':v=.bl true:=q;subst q';obtain rfl:u=Value.bool true:=r';refine⟨rfl,OldK.of_keep λb o e=>?_,os,bare⟩;cases q:H b with
    | none=>exact un.keep b o e q (by intro z;exact absurd (show b∈([]:List Addr) from z) (by simp)) (by simp)
    | some u=>
     rcases hO b with z | ⟨ob,xs,z⟩
     ·rw[q] at z;cases z
     ·have z2:=un.jU b ob _ z;obtain⟨e1,_⟩:=bP b _ z;obtain⟨e2,_⟩:=Q9 b _ z2;rw[e] at e1;cases e1;exact e2
 cases hk:K.lookup a with
 | some o=>
  have e:=KX a o hk;rw[ha] at e;cases e;refine core (λ_=>none) (λ_=>.inl rfl) (.inr ⟨_,vs.toArray,_,hk,rfl,rfl,rfl,by rw[aaj,Q8];exact hl,by simpa using rv⟩) (λb u z=>by have z':(none:Option HO)=some u:=z;cases z') (λb z=>absurd rfl z) λz=>absurd rfl z
 | none=>
  refine core (λb=>if b=a then some (.qu {cls:=.type "list",data:=.seq vs.toArray} (.lst (ns.map V.int))) else none) (λb=>?_) (.inl (.inr ⟨{cls:=.type "list",data:=.seq vs.toArray},if_pos rfl⟩)) (λb u z=>?_) (λb z=>?_) λ_=>hk
  ·by_cases hb:b=a
   ·exact .inr ⟨_,_,if_pos hb⟩
   ·exact .inl (if_neg hb)
  ·by_cases hb:b=a
   ·have z':=(if_pos hb).symm.trans z;cases z';subst hb;exact⟨ha,by rw[aad];exact hl,vs,_,rv,ha⟩
   ·have z':=(if_neg hb).symm.trans z;cases z'
  ·by_cases hb:b=a
   ·exact hb
   ·exact absurd (if_neg hb) z
@[inline]abbrev KOf {K:aba} {h:Heap} (_:K.In h):aba:=K
theorem DD {l:PySem.W.OpenLaw} {n k:Nat} {q:Program} {loose:List Str} {XP:(Str->Option Value)->Heap->Prop} {YP:World->Heap->Prop} {d:DefRec} {K:Params->aba} {CX:World->lG} {sp:World->Sp} {x:Str}
  (hn:l.most=some n) (Pu:n<=sizeLine) (Lj:d.params.defaults=[]) (hr:dY k callerA)
  (hY:∀(w:World) (h:Heap),YP w h->(K w.params).In h)
  (F:∀(w:World) (mg:Str->Option Value) (fa:Addr) (h:Heap),(K w.params).In h->h.Ns mainGlobals mg->mg d.name=some (.ref fa)->
   ∃fd:FuncData,(∀(s:Shared) (u:Value),BindsTo s fd ⟨[u],[]⟩ [(x,u)])/\
    ∀base:Heap,(K w.params).In base->base.Ns mainGlobals mg->fK l.prog w (K w.params) mg base (CX w) k fa fd [x] (sp w))
  (C4:∀(w:World) (H:Hp) (a:Addr) (ns:List Int),ns.length<=n->Hx H->bC (K w.params) H a (ns.map V.int)->sp w [.ref a] H (λv _=>v=.bl true) λ_ _ _=>False)
  (Q7:∀(w:World) (H:Hp) (s:Shared) (e:Value) (s':Shared),CX w [] H s (λ_ _ _=>False) e s'->False):
  PySem.W.WalkO q loose XP YP l.row.toRowW d [] (λf vs=>PySem.call f vs):=by
 refine Vq.uh hn Lj λw s₀ s₁ mg mb fa o pm cd doc a vs ns G Y ho hd yX Lk Hw hints hlen hg=>?_;have KX:=hY w _ Y;obtain⟨fd,hb,hF⟩:=F w mg fa _ KX G.T.g Lk;exact law_call KX G.T.g G.T.b G.T.builtins G.T.nolimit hg Hw hints (aao hlen Pu) hr hF hb (λH hO hS=>C4 w H a ns hlen hO hS) λH e s'=>Q7 w H s₁ e s'
abbrev inClass (s:Stmt) (j:Nat):Stmt:=match s with
 | .ClassDef _ _ _ body _ _ _ _ _ _ _=>body.getD j (.Pass ⟨0,0,0,0⟩)
 | _=>.Pass ⟨0,0,0,0⟩
abbrev bE (s:Stmt):Arguments:=match s with
 | .FunctionDef _ a _ _ _ _ _ _ _ _=>a
 | _=>{posonlyargs:=[],args:=[],vararg:=none,kwonlyargs:=[],kw_defaults:=[],kwarg:=none,defaults:=[]}
abbrev bA (s:Stmt):List Stmt:=match s with
 | .FunctionDef _ _ b _ _ _ _ _ _ _=>b
 | _=>[]
abbrev aq (s:Stmt):Scope:=match s with
 | .FunctionDef _ _ _ _ _ _ sc _ _ _=>sc
 | _=>{kind:=.function,names:=[],isGenerator:=false,isCoroutine:=false}
@[inline]abbrev CX0:lG:=λ_ _ _ _ _ _=>False
@[inline]abbrev E0:XK:=λ_ _ _=>False
structure vZ (K:aba) (x qual:Str) (st:Stmt) (f:Addr) (fd:FuncData):Prop where
 ex:∃(oc:Value) (od:Option Addr) (kV doc pm:Value) (an:Option Addr) (bY ct:Value) (C0:Array (Option Value)),
  fd=abd x qual (bE st) (bA st) (aq st) .none kV doc pm an bY ct/\K.lookup f=some ⟨oc,od,.func fd,C0⟩/\abc K bY qual=true
 kp:abb K (.ref f)=true
section
variable {P : Program} {w : World} {K : aba} {mg : Str -> Option Value} {base : Heap}
theorem vZ.binds {x qual:Str} {st:Stmt} {f:Addr} {fd:FuncData} {ps:List Str} (F:vZ K x qual st f fd)
  (h:∀(kV doc pm:Value) (an:Option Addr) (bY ct:Value) (us:List Value),us.length=ps.length->bindArgs (abd x qual (bE st) (bA st) (aq st) .none kV doc pm an bY ct) ⟨us,[]⟩=pure (ps.zip us)):Binds K fd ps []:=by
 obtain⟨oc,od,kV,doc,pm,an,bY,ct,C0,rfl,lk,yX⟩:=F.ex;exact .all (h kV doc pm an bY ct)
theorem cN {x qual:Str} {st:Stmt} {f:Addr} {oc:Value} {od an:Option Addr} {C0:Array (Option Value)} {kV doc pm bY ct:Value} (l:K.lookup f=some ⟨oc,od,.func (abd x qual (bE st) (bA st) (aq st) .none kV doc pm an bY ct),C0⟩)
  (c:abc K bY qual=true) (k:abb K (.ref f)=true):vZ K x qual st f (abd x qual (bE st) (bA st) (aq st) .none kV doc pm an bY ct):=⟨⟨oc,od,kV,doc,pm,an,bY,ct,C0,rfl,l,c⟩,k⟩
end
theorem cD {A:Around} {k:Nat} (hr:dY k A):A.units+1<cLine:=Nat.lt_of_le_of_lt (Nat.add_le_add_left (by decide:1<=64) _) hr.units
section
variable {X : Cx}
theorem pv (i:Nat) {x:Str} {pos:Pos} (hN:X.N[i]?=some x:=by rfl) (hv:QF X.env.scope x:=by first | exact Or.inl rfl | exact Or.inr (.inl rfl) | exact Or.inr (.inr rfl)) (hd:(x==("__debug__":Str))=false:=by decide)
  (yX:(x==("__classdict__":Str))=false:=by decide):PE X (.Name x pos) (tVar i):=G7 hN hv hd yX
end
theorem AO {A B:Prop} (h:A):if true=true then A else B:=by
 rw[if_pos rfl];exact h
theorem iw {c A B:Prop} [Decidable c] (h1:c->A) (h2:¬c->B):if c then A else B:=by
 by_cases h:c
 ·rw[if_pos h];exact h1 h
 ·rw[if_neg h];exact h2 h
abbrev aw (H H':Hp):Prop:=∀b o,H b=some o->H' b=some o
theorem aw.refl (H:Hp):aw H H:=λ_ _ h=>h
theorem aw.trans {H H1 H2:Hp} (a:aw H H1) (b:aw H1 H2):aw H H2:=λc o h=>b c o (a c o h)
theorem aw.seq {K:aba} {H H':Hp} {a:Addr} {xs:List V} (e:aw H H') (h:bC K H a xs):bC K H' a xs:=by
 rcases h with (h | ⟨o,h⟩) | h
 ·exact .inl (.inl (e _ _ h))
 ·exact .inl (.inr ⟨o,e _ _ h⟩)
 ·exact .inr h
section
variable {X : Cx}
theorem zo:cM X (.builtin "len") (λxs H Q=>∃a kvs,xs=[V.ref a]/\H a=some (.dK kvs)/\Q (.int kvs.length) H):=by
 intro pins s σ H xs us Q I r h;obtain⟨a,kvs,rfl,ha,q⟩:=h;obtain⟨u,rfl,ru⟩:=vals1 r;cases ru;exact Lf I (.inl ha) λt s' I'=>⟨.int kvs.length,H,I',⟨t,rfl⟩,q⟩
end
section
variable {κ : Type} [DecidableEq κ]
end
abbrev Bt (n:Nat) (i:Int):Prop:=i.natAbs<2^n
theorem Bt.neg {n:Nat} {i:Int} (h1:Bt n i):Bt n (-i):=by
 unfold Bt at *;lia
theorem Bt.le {n:Nat} {i j:Int} (h:Bt n j) (q:i.natAbs<=j.natAbs):Bt n i:=Nat.lt_of_le_of_lt q h
theorem Bt.of {n:Nat} {i:Int} (b:Nat) (h1:-(b:Int)<=i) (h2:i<=(b:Int)) (h:b<2^n:=by ac_rfl):Bt n i:=by
 unfold Bt;exact Nat.lt_of_le_of_lt ⋯ h
theorem Bt.log {n:Nat} {i:Int} (h:Bt n i) (q:n<=9000:=by decide):i.natAbs.log2<9000:=by
 by_cases z:i.natAbs=0
 ·rw[z];decide
 ·exact aaz ((Nat.log2_lt z).mpr h) q
theorem br {i j:Int} (h1:-(2^64)<i:=by decide) (h2:i<2^64:=by decide):IntMulOk i j:=.of_left (intBits_le_64 h1 h2)
theorem AQ {i j:Int} (h1:-(2^64)<j:=by decide) (h2:j<2^64:=by decide):IntMulOk i j:=.of_right (intBits_le_64 h1 h2)
section
variable {X : Cx}
theorem bf:i7 X (binaryOp .Mult) (rI IntMulOk λi j=>.int (i*j)):=K6 λ_ _ _ _ _ _ _ hc q=>mul_int q hc
abbrev i9 (_ j:Int):Prop:=0<j/\j.natAbs.log2<9000
theorem i9.of {i j:Int} {n:Nat} (h:0<j) (b:Bt n j) (q:n<=9000:=by decide):i9 i j:=⟨h,b.log q⟩
theorem i9.lit {i j:Int} (h:0<j:=by decide) (q:j.natAbs.log2<9000:=by decide):i9 i j:=⟨h,q⟩
theorem ix:i7 X (binaryOp .FloorDiv) (rI i9 λi j=>.int (i / j)):=K6 λi j _ _ _ _ _ hc q=>by
 have h1:(0:Int)<j:=hc.1;exact floordiv_int ⋯ (by rw[Int.fdiv_eq_ediv_of_nonneg i ⋯];exact q) (.inl (PyProof.noPylong_of_log2 hc.2))
abbrev oz (_ j:Int):Prop:=j≠0/\j.natAbs.log2<9000
theorem oz.of {i j:Int} {n:Nat} (h:j≠0) (b:Bt n j) (q:n<=9000:=by decide):oz i j:=⟨h,b.log q⟩
theorem ui:i7 X (binaryOp .FloorDiv) (rI oz λi j=>.int (i.fdiv j)):=K6 λ_ _ _ _ _ _ _ hc q=>floordiv_int hc.1 q (.inl (PyProof.noPylong_of_log2 hc.2))
theorem dz:i7 X (binaryOp .Mod) (rI (λ_ j=>0<j) λi j=>.int (i % j)):=Hh
abbrev rIxTH:R2:=λx y H Q=>dr x λp=>fC y λi=>∃xs,H p=some (.tup xs)/\∃v,jS xs i=some v/\Q v H
theorem ai:AG X rIxTH:=λvalue slice pins s σ H x y v u Q I rx ry h hs=>by
 obtain⟨p,e1,h⟩:=rdR_eq.mp h;obtain⟨i,e2,xs,e3,z,e4,q⟩:=rdI_eq.mp h;exact Hm value slice pins s σ H x y v u Q I rx ry ⟨p,xs,i,z,e1,e2,iP.of e3,e4,q⟩ hs
abbrev rIxLH:R2:=λx y H Q=>dr x λp=>fC y λi=>∃xs,H p=some (.lst xs)/\∃v,jS xs i=some v/\Q v H
theorem aX:AG X rIxLH:=λvalue slice pins s σ H x y v u Q I rx ry h hs=>by
 obtain⟨p,e1,h⟩:=rdR_eq.mp h;obtain⟨i,e2,xs,e3,z,e4,q⟩:=rdI_eq.mp h;exact xI value slice pins s σ H x y v u Q I rx ry ⟨p,xs,i,z,e1,e2,bC.of e3,e4,q⟩ hs
abbrev tTupS (t:TA):TE:=λσ H Q=>t σ H λxs H1=>xs.length<=sizeLine/\∀p H2,aw H1 H2->H1 p=none->H2 p=some (.tup xs)->Q (.ref p) H2
theorem au {H:Hp} {p:Addr} {o:HO} (h:H p=none):aw H (upd H p o):=λb u e=>by
 rw[av (eG e h)];exact e
theorem a6 {es:List Expr} {t:TA} {x1} {pos:Pos} (h:PA X es t):PE X (.Tuple es x1 pos) (tTupS t):=λpins s σ H Q I hq=>
 cK (h:=wpAny_Tuple_spliced (cK (h pos pins s σ H _ I hq) λus s1 ⟨xs,H1,I1,r,z,q⟩=>⟨by rw[<-r.length];exact z,by
  have hf:H1 s1.heap.objs.size=none:=I1.bP.fresh (aag _);refine⟨.ref s1.heap.objs.size,upd H1 s1.heap.objs.size (.tup xs),I1.laid (t':=s1.toks) (λb u e=>abk _ e) (aag _) ?_,rfl,q _ _ (au hf) hf ao⟩;exact⟨z,us,r,⟨_,abl _ rfl,rfl,_,rfl⟩⟩⟩)) λ_ _ z=>z
theorem zp:cM X (.builtin "len") (λxs H Q=>∃p ys,xs=[.ref p]/\H p=some (.tup ys)/\Q (.int ys.length) H):=λpins s σ H xs us Q I r ⟨p,ys,e,h,q⟩=>
 gQ pins s σ H xs us Q I r ⟨p,ys,e,.inr (iP.of h),q⟩
theorem bK:cM X (.builtin "len") (λxs H Q=>∃p ys,xs=[.ref p]/\H p=some (.lst ys)/\Q (.int ys.length) H):=λpins s σ H xs us Q I r ⟨p,ys,e,h,q⟩=>
 gQ pins s σ H xs us Q I r ⟨p,ys,e,.inl (bC.of h),q⟩
theorem zq:cM X (.builtin "len") (λxs H Q=>∃p ns,xs=[.ref p]/\bC X.K H p (List.map V.int ns)/\Q (.int (List.length ns:Nat)) H):=λpins s σ H xs us Q I r ⟨p,ns,e,h,q⟩=>
 gQ pins s σ H xs us Q I r ⟨p,_,e,.inl h,by rw[aad];exact q⟩
abbrev Hy (K:aba):R2:=λx y H Q=>∃p ns i,x=.ref p/\y=.int i/\bC K H p (List.map V.int ns)/\0<=i/\i< (List.length ns:Nat)/\Q (.int (ns.getD i.toNat 0)) H
theorem uj {ns:List Int} {i:Int} (h0:0<=i) (h1:i< (ns.length:Nat)):jS (ns.map V.int) i=some (.int (ns.getD i.toNat 0)):=by
 obtain⟨j,rfl⟩:=Int.eq_ofNat_of_zero_le h0;refine bM ?_;have hj:j<ns.length:=⋯
 rw[aaf,aai hj];simp [aaC,aai hj]
theorem AR:AG X (Hy X.K):=λvalue slice pins s σ H x y v u Q I rx ry ⟨p,ns,i,e1,e2,e3,h0,h1,q⟩ hs=>
 xI value slice pins s σ H x y v u Q I rx ry ⟨p,_,i,_,e1,e2,e3,uj h0 h1,q⟩ hs
structure fc (P:Program) (w:World) (K:aba) (mg:Str->Option Value) (base:Heap) (CX:lG) (k:Nat) (x:Str) (ps:List Str) (sp:Sp):Prop where
 ex:∃f fd,fK P w K mg base CX k f fd ps sp/\mg x=some (.ref f)/\abb K (.ref f)=true/\Binds K fd ps []
theorem aK {CX:lG} {k:Nat} {x:Str} {ps:List Str} {sp:Sp} {E:XK} {e:Expr} {es:List Expr} {t:TA} {p pos:Pos} (C:fc X.prog X.w X.K X.mg X.base CX k x ps sp) (ha:PA X (e::es) t) (hr:dY k X.A:=by exact hr.mono ∅) (hg:Gl X x:=by rfl) (hx:eU CX X E:=by exact j1.pass)
  (ze:(x==("__debug__":Str))=false:=by decide) (he:starEach (e::es) X.env=(false,eval e X.env)::starEach es X.env:=by first | exact se rfl | rfl) (hpl:(backTo pos (starEach es X.env)).any (·.1)=false:=by first | exact na rfl | rfl):
  PE X (.Call (.Name x p) (e::es) [] pos) (tCall sp [] E t):=by
 obtain⟨f,fd,F,hm,hk,hb⟩:=C.ex;exact Ds F hr hg hm hk hb .nil hx ha ze he hpl
end
abbrev rJ (CX:lG):Prop:=∀outer H s e s',¬CX outer H s (λ_ _ _=>False) e s'
theorem rJ.pass {CX:lG} (h:rJ CX) {X:Cx}:eU CX X E0:=λ_ _ H s e s' _ z=>(h _ H s e s' z).elim
section
variable {P : Program} {w : World} {K : aba} {mg : Str -> Option Value} {base : Heap} {CX : lG}
theorem vZ.dZ {x qual:Str} {st:Stmt} {f:Addr} {fd:FuncData} {N ps:List Str} {k:Nat} {sp:Sp} (F:vZ K x qual st f fd) (S:aS N ps (aq st)) (len:∀vs H Q E,sp vs H Q E->vs.length=ps.length)
  (t8:∀(bY:Value) (A:Around) (outer:List Env) (s:Shared) (H:Hp) (vs:List V) (Q:VK) (E:XK),dY k (A.deeper (envOfC qual (aq st) s.heap.objs.size f bY))->sp vs H Q E->
   ∃t,vx (iq CX P w K mg base N qual (aq st) f bY A outer s H E).Pp (bA st) t/\t {nx:=λ_ H'=>Q .cU H',rt:=Q} (start N vs) H):fK P w K mg base CX (k+1) f fd ps sp:=by
 obtain⟨oc,od,kV,doc,pm,an,bY,ct,C0,rfl,lk,yX⟩:=F.ex;refine Fv lk yX S len λA outer s H vs Q E hr C4=>?_;obtain⟨t,h,q⟩:=t8 bY A outer s H vs Q E hr C4;exact⟨t,h.Pp,q⟩
structure Dn (K:aba) (mg:Str->Option Value) (x:Str) (st:Stmt):Prop where
 ex:∃f fd,vZ K x x st f fd/\mg x=some (.ref f)
theorem Dn.dF {x:Str} {st:Stmt} {ps:List Str} {k:Nat} {sp:Sp} (D:Dn K mg x st)
  (hb:∀(kV doc pm:Value) (an:Option Addr) (bY ct:Value) (us:List Value),us.length=ps.length->bindArgs (abd x x (bE st) (bA st) (aq st) .none kV doc pm an bY ct) ⟨us,[]⟩=pure (ps.zip us))
  (h:∀f fd,vZ K x x st f fd->fK P w K mg base CX k f fd ps sp):fc P w K mg base CX k x ps sp:=by
 obtain⟨f,fd,F,hm⟩:=D.ex;exact⟨f,fd,h f fd F,hm,F.kp,F.binds hb⟩
end
section
variable {X : Cx}
abbrev Vt (xs ys:List V):Bool:=(List.range (min xs.length ys.length)).all (λj=>Ae (xs.getD j .cU) (ys.getD j .cU)) && xs.length==ys.length
abbrev rEqT:R2:=λx y H Q=>∃p q xs ys,x=.ref p/\y=.ref q/\H p=some (.tup xs)/\H q=some (.tup ys)/\xs.all fL=true/\ys.all fL=true/\Q (.bl (Vt xs ys)) H
abbrev rInT:R2:=λx y H Q=>∃p xs,y=.ref p/\H p=some (.tup xs)/\fL x=true/\xs.all fL=true/\Q (.bl (C5 x xs)) H
theorem oA:i7 X (compareOp .In) rInT:=λpins s σ H x y v u Q I rx ry ⟨p,xs,e1,e2,f1,f2,q⟩=>
 zg pins s σ H x y v u Q I rx ry ⟨p,xs,e1,.inr (iP.of e2),f1,f2,q⟩
theorem AS:cM X (.builtin "isinstance") (λxs H Q=>∃x c t b,xs=[x,.ty c]/\ia X.K H x t/\PySem.W.kitOne X.K t (.type c)=some b/\Q (.bl b) H):=by
 intro pins s σ H xs us Q I r h;obtain⟨x,c,t,b,rfl,ty,e,q⟩:=h;obtain⟨u,u',rfl,rx,rc⟩:=vals2 r;cases rc;exact zd I rx ty e λtk=>⟨.bl b,H,I.tok tk,rfl,q⟩
end
theorem at0 {α:Type} {x:α} {l:List α}:jS (x::l) 0=some x:=bM (j:=0) rfl
theorem at1 {α:Type} {x y:α} {l:List α}:jS (x::y::l) 1=some y:=bM (j:=1) rfl
theorem at2 {α:Type} {x y z:α} {l:List α}:jS (x::y::z::l) 2=some z:=bM (j:=2) rfl
abbrev Pr (a b:Int):List V:=[.int a,.int b]
theorem Hz {K:aba}:PySem.W.kitOne K (.type "int") (.type "int")=some true:=by unfold PySem.W.kitOne;rw[if_pos ∅]
theorem AU {K:aba}:PySem.W.kitOne K (.type "tuple") (.type "tuple")=some true:=by unfold PySem.W.kitOne;rw[if_pos ∅]
theorem wa {K:aba}:PySem.W.kitOne K (.type "str") (.type "str")=some true:=by unfold PySem.W.kitOne;rw[if_pos ∅]
theorem AV {K:aba}:PySem.W.kitOne K (.type "list") (.type "list")=some true:=by unfold PySem.W.kitOne;rw[if_pos ∅]
theorem f7 {K:aba} {t c:String} {b:Bool} (h1:(Value.type t==Value.type c)=false:=by ac_rfl) (h2:PySem.W.kitMeta c=true:=by ac_rfl) (h3:(PySem.fastBuiltinMro t).map (·.contains (Value.type c))=some b:=by ac_rfl):
  PySem.W.kitOne K (.type t) (.type c)=some b:=by
 unfold PySem.W.kitOne PySem.W.kitCls PySem.W.subIn;rw[if_neg (by rw[h1];decide)];dsimp only;rw[if_pos h2];exact h3
theorem HA {K:aba}:PySem.W.kitOne K (.type "int") (.type "bool")=some false:=f7
end L2
namespace Nm
abbrev g (a b:Int):Int:=(Int.gcd a b:Nat)
theorem Lm (a b:Int):0<=g a b:=Int.natCast_nonneg _
theorem AW {a b:Int} (h:b≠0):0<g a b:=by
 have:=Int.gcd_pos_of_ne_zero_right a h;unfold g;lia
theorem xM (a b:Int):g a b∣a:=Int.gcd_dvd_left ..
theorem iR (a b:Int):g a b∣b:=Int.gcd_dvd_right ..
theorem rK (a b:Int):g a b=g b a:=by unfold g;rw[Int.gcd_comm]
theorem Ln {a b:Int} (h:0<b):g a b<=b:=Int.le_of_dvd h (iR a b)
theorem AX (a b:Int):g (a.natAbs:Int) b=g a b:=by
 unfold g Int.gcd;rw[Int.natAbs_natCast]
theorem xN (a b:Int):g a (b.natAbs:Int)=g a b:=by
 rw[rK,AX,rK]
theorem Fy (a b:Int):g (-a) b=g a b:=by
 unfold g Int.gcd;rw[Int.natAbs_neg]
theorem AY {a b:Int} (ha:0<=a) (_hb:0<b):g b (a % b)=g a b:=by
 unfold g Int.gcd;rw[Int.natAbs_emod_of_nonneg ha,Nat.gcd_comm b.natAbs,<-Nat.gcd_rec,Nat.gcd_comm]
theorem AZ {a:Int} (ha:0<=a):g a 0=a:=by
 unfold g;rw[Int.gcd_zero_right];lia
theorem A0 {a b:Int} (h:b≠0):g a b<=(b.natAbs:Int):=by
 rw[<-xN];exact Ln ⋯
theorem DE {a b:Int} (h:b≠0):g (a / g a b) (b / g a b)=1:=by
 have p:0<Int.gcd a b:=Int.gcd_pos_of_ne_zero_right a h;unfold g;rw[Int.gcd_ediv_gcd_ediv_gcd p];rfl
theorem DF {a b:Int} (h:0<b):0<b / g a b:=Int.ediv_pos_of_pos_of_dvd h (Lm a b) (iR a b)
theorem zr (a b:Int):(a / g a b)*b=a* (b / g a b):=by
 rw[<-Int.mul_ediv_assoc _ (iR a b),Int.mul_comm a b,Int.mul_ediv_assoc _ (xM a b),Int.mul_comm]
theorem DG {q a b:Int} (h:q∣a*b) (c:Int.gcd a q=1):q∣b:=by
 have h1:=(Int.dvd_gcd_mul_iff_dvd_mul (k:=q) (n:=a) (m:=b)).mpr h;rw[Int.gcd_comm,c] at h1
 simpa using h1
theorem back {a b c d p q x y:Int} (hq:0<q) (hd:0<d) (e:p* (b*d)=(a*d - c*b)*q) (f:x* (q*d)=(p*d+c*q)*y):x*b=a*y:=by
 have h:(x*b)* (q*d)=(a*y)* (q*d):=by grind
 exact Int.eq_of_mul_eq_mul_right (by have:=Int.mul_pos hq hd;lia) h
end Nm
namespace L2
open PySem PySem.Spec PyProof.Rows PySem.W
abbrev pO (h:Heap) (e:Addr):Prop:=∃o vs,h.get? e=some o/\o.data=.fields vs/\vs[2]?=some .none
section
variable {M : Model} {A : Around} {E : Value -> Shared -> Prop} {s : Shared} {base : Heap} {env : Env} {outer : List Env} {L e : Addr} {a0 : Value} {Q : Unit -> Shared -> Prop} {p : Prop}
theorem uk {oe:Obj} {vs:Array Value} {head:Value} {hn:Bool} (zt:A.frames=some (env::outer)) (hl:s.heap.FunFrames base (env::outer)) (hf:env.frame=some L) (he:s.heap.get? e=some oe)
  (kb:base.StaysIn s.heap) (en:base.get? e=none) (hd:oe.data=.fields vs) (z:1<vs.size) (h0:vs[0]?=some a0) (h2:p->vs[2]?=some .none)
  (h:∀h',Heap.HeldW base (env::outer) e oe.cls a0 L h'->s.heap.UpToSlots h'->(p->pO h' e)->Q () {s with heap:=h'}):
  wpAny M A (do
   let a <-frameOf env;let pl <-entryPlaceOf L hn;let b <-EntryCells.newEntry head a .none (rawInt L) .none pl
   setField (.ref e) 1 b) Q E s:=by
 have ef:e∉(env::outer).filterMap (·.frame):=λm=>by
  obtain⟨_,o,ho,nf⟩:=hl.mem m;rw[he] at ho;cases ho;exact nf vs hd
 refine wpAny_bind (wpAny_frameOf_fun zt hl hf λh1 J1=>wpAny_bind (wpAny_entryPlaceOf λpl hpl=>?_));unfold EntryCells.newEntry newFields;refine wpAny_bind (wpAny_newObj_type ?_ (hpl.sizeOk5 _ _ _ _ _));have e1:h1.get? e=some oe:=(J1.2.1 e ef).trans he;generalize hT:([head,.ref L,.none,rawInt L,.none]++ (if pl.isEmpty then abn 6 Value.none else pl)).toArray=ts;have t3:ts[3]?=some (rawInt L):=by rw[<-hT];first | (simp;done) | (rcases hpl with rfl | ⟨_,_,_,_,_,_,_,rfl⟩ <;>simp)
 have e2:=abk (h:=h1) {cls:=.type "traceback",dict:=none,data:=.fields ts} e1;have ne:h1.objs.size≠e:=Nat.ne_of_gt (abm e1);have d3:=Obj.data_mapFields hd (·.setIfInBounds 1 (Value.ref h1.objs.size));have e3:=Heap.get?_update_self (Obj.mapFields (·.setIfInBounds 1 (Value.ref h1.objs.size))) e2 (Obj.isFreed_of_fields d3);have kp:∀b o,b≠e->h1.get? b=some o->((h1.push {cls:=.type "traceback",dict:=none,data:=.fields ts}).update e (Obj.mapFields (·.setIfInBounds 1 (Value.ref h1.objs.size)))).get? b=some o:=λb o be hb=>by
  rw[Heap.get?_update_other _ _ (Ne.symm be)];exact abk _ hb
 have nr:∀b o,s.heap.get? b=some o->(∀vs,o.data≠.fields vs)->b≠e:=λb o hb nf q=>by
  rw[q,he] at hb;cases hb;exact nf vs hd
 refine wpAny_setField e2 hd z (h _ ?_ ?_ ?_)
 ·have k1:base.StaysIn h1:=λb o hb=>(J1.2.1 b λm=>by rw[(hl.mem m).1] at hb;cases hb).trans (kb b o hb);refine⟨λb o hb=>kp b o (λq=>by rw[q,en] at hb;cases hb) (k1 b o hb),en,hl.of_keeps λb o hb nf=>?_,_,_,h1.objs.size,{cls:=.type "traceback",dict:=none,data:=.fields ts},ts,e3,⟨Obj.cls_mapFields _ _,?_⟩,d3,by simp [z],k1.fresh,ne,?_,rfl,t3⟩
  ·obtain⟨sl,hs⟩:=J1.2.2 b o hb;exact⟨_,kp b _ (nr b o hb nf) hs,rfl⟩
  ·rw[Array.getElem?_setIfInBounds_ne ∅];exact h0
  ·rw[Heap.get?_update_other _ _ (Ne.symm ne)];exact abl h1 rfl
 ·intro b o hb nf;obtain⟨sl,hs⟩:=J1.2.2 b o hb;exact⟨sl,kp b _ (nr b o hb nf) hs⟩
 ·intro hp;refine⟨_,_,e3,d3,?_⟩;rw[Array.getElem?_setIfInBounds_ne ∅];exact h2 hp
theorem wb {oe:Obj} {vs:Array Value} (zt:A.frames=some (env::outer)) (hl:s.heap.FunFrames base (env::outer)) (hf:env.frame=some L) (he:s.heap.get? e=some oe)
  (kb:base.StaysIn s.heap) (en:base.get? e=none) (hd:oe.data=.fields vs) (h1:vs[1]?=some .none) (h0:vs[0]?=some a0) (h2:p->vs[2]?=some .none)
  (h:∀h',Heap.HeldW base (env::outer) e oe.cls a0 L h'->s.heap.UpToSlots h'->(p->pO h' e)->Q () {s with heap:=h'}):wpAny M A (noteFrame (.ref e) env) Q E s:=by
 unfold noteFrame;simp only[hf];refine wpAny_bind (wpAny_field he hd h1 ?_);rw[if_neg ∅];exact uk zt hl hf he kb en hd (Array.getElem?_eq_some_iff.mp h1).1 h0 h2 h
theorem DH {cls:Value} (zt:A.frames=some (env::outer)) (hf:env.frame=some L) (fl:Heap.FlyingW base (env::outer) e cls a0 s.heap) (nc:p->pO s.heap e)
  (h:∀h',Heap.HeldW base (env::outer) e cls a0 L h'->s.heap.UpToSlots h'->(p->pO h' e)->Q () {s with heap:=h'}):wpAny M A (noteFrame (.ref e) env) Q E s:=by
 obtain⟨kb,en,hl,oe,vs,T,oT,ts,he,⟨rfl,h0⟩,hd,h1,nT,Te,gT,dT,h3⟩:=fl;have h2:p->vs[2]?=some .none:=λhp=>by
  obtain⟨o,ws,q,d,r⟩:=nc hp;rw[he] at q;cases q;rw[hd] at d;cases d;exact r
 unfold noteFrame;simp only[hf];refine wpAny_bind (wpAny_field he hd h1 ?_);rw[if_pos (by simp)];refine wpAny_bind (wpAny_field gT dT h3 ?_);rw[if_neg (by simp [rawInt])];refine wpAny_bind (wpAny_setField gT dT (Array.getElem?_eq_some_iff.mp h3).1 ?_);have ot:∀b,b≠T->(s.heap.update T (Obj.mapFields (·.setIfInBounds 3 Value.none))).get? b=s.heap.get? b:=λb hb=>Heap.get?_update_other _ _ (Ne.symm hb);have nr:∀b o,s.heap.get? b=some o->(∀vs,o.data≠.fields vs)->b≠T:=λb o hb nf q=>by
  rw[q,gT] at hb;cases hb;exact nf ts dT
 exact uk zt (hl.of_keeps λb o hb nf=>⟨o,(ot b (nr b o hb nf)).trans hb,rfl⟩) hf ((ot e (Ne.symm Te)).trans he) (λb o hb=>(ot b λq=>by rw[q,nT] at hb;cases hb).trans (kb b o hb)) en hd (Array.getElem?_eq_some_iff.mp h1).1 h0 h2
  λh' x1 x2 x3=>h h' x1 (λb o hb nf=>x2 b o ((ot b (nr b o hb nf)).trans hb) nf) x3
theorem xO {cls fl:Value} {l:List Env} (kb:base.StaysIn s.heap) (en:base.get? e=none) (hl:s.heap.FunFrames base l) (ht:s.heap.TracedAtW base e cls a0 fl) (nc:p->pO s.heap e)
  (h:∀h',Heap.FlyingW base l e cls a0 h'->s.heap.UpToSlots h'->(p->pO h' e)->Q () {s with heap:=h'}):wpAny M A (setFlight (.ref e) none) Q E s:=by
 obtain⟨oe,vs,T,oT,ts,he,hc,hd,h1,nT,Te,gT,dT,h3⟩:=ht;have z3:3<ts.size:=(Array.getElem?_eq_some_iff.mp h3).1;have ot:∀b,b≠T->(s.heap.update T (Obj.mapFields (·.setIfInBounds 3 ((none:Option Addr).elim Value.none λf=>rawInt f)))).get? b=s.heap.get? b:=λb hb=>Heap.get?_update_other _ _ (Ne.symm hb);have nr:∀b o,s.heap.get? b=some o->(∀vs,o.data≠.fields vs)->b≠T:=λb o hb nf q=>by
  rw[q,gT] at hb;cases hb;exact nf ts dT
 unfold setFlight;refine wpAny_bind (wpAny_field he hd h1 ?_);rw[if_pos (by simp)];refine wpAny_setField gT dT z3 (h _ ⟨λb o hb=>(ot b λq=>by rw[q,nT] at hb;cases hb).trans (kb b o hb),en,hl.of_keeps λb o hb nf=>⟨o,(ot b (nr b o hb nf)).trans hb,rfl⟩,
  oe,vs,T,_,_,(ot e (Ne.symm Te)).trans he,hc,hd,h1,nT,Te,Heap.get?_update_self _ gT (Obj.isFreed_of_fields (Obj.data_mapFields dT _)),Obj.data_mapFields dT _,by simp [z3]⟩ (λb o hb nf=>⟨o.slots,(ot b (nr b o hb nf)).trans hb⟩) λhp=>?_)
 obtain⟨o,ws,q,d,r⟩:=nc hp;exact⟨o,ws,(ot e (Ne.symm Te)).trans q,d,r⟩
theorem A1 {cls:Value} (zt:A.frames=some (env::outer)) (hf:env.frame=some L) (fl:Heap.FlyingW base (env::outer) e cls a0 s.heap) (nc:p->pO s.heap e)
  (h:∀h',Heap.FlyingW base outer e cls a0 h'->s.heap.UpToSlots h'->(p->pO h' e)->Q () {s with heap:=h'}):wpAny M A (leaving env (.ref e)) Q E s:=by
 unfold leaving;refine wpAny_bind (DH zt hf fl nc λh' x1 x2 x3=>?_);exact xO x1.1 x1.2.1 x1.2.2.1 x1.2.2.2 x3 λh2 y1 y2 y3=>by
  obtain⟨k1,k2,⟨_,_,k3⟩,k4⟩:=y1;exact h h2 ⟨k1,k2,k3,k4⟩ (x2.trans y2) y3
theorem um {h0:Heap} {oe:Obj} {vs:Array Value} (zt:A.frames=some (env::outer)) (hf:env.frame=some L) (kb:base.StaysIn h0) (hl:h0.FunFrames base (env::outer)) (kp:∀b o,h0.get? b=some o->s.heap.get? b=some o) (nw:h0.get? e=none)
  (he:s.heap.get? e=some oe) (hd:oe.data=.fields vs) (h1:vs[1]?=some .none) (z0:vs[0]?=some a0) (h2:p->vs[2]?=some .none)
  (h:∀h',Heap.FlyingW base outer e oe.cls a0 h'->s.heap.UpToSlots h'->(p->pO h' e)->Q () {s with heap:=h'}):wpAny M A (leaving env (.ref e)) Q E s:=by
 have en:base.get? e=none:=by
  cases q:base.get? e with
  | none=>rfl
  | some o=>
   have:=kb e o q;rw[nw] at this;cases this
 unfold leaving;refine wpAny_bind (wb zt (hl.of_keeps λb o hb _=>⟨o,kp b o hb,rfl⟩) hf he (λb o hb=>kp b o (kb b o hb)) en hd h1 z0 h2 λh' x1 x2 x3=>?_);exact xO x1.1 x1.2.1 x1.2.2.1 x1.2.2.2 x3 λh2 y1 y2 y3=>by
  obtain⟨k1,k2,⟨_,_,k3⟩,k4⟩:=y1;exact h h2 ⟨k1,k2,k3,k4⟩ (x2.trans y2) y3
end
open PySem PySem.Spec PyProof.Rows PySem.W
theorem cf.get {P:Program} {w:World} {H:Hp} {h:Heap} {a:Addr}:∀{o:HO},cf P w H h a o->∃ob,h.get? a=some ob
 | .lst _,x=>let ⟨_,_,_,_,e⟩:=x;⟨_,e⟩
 | .tup _,x=>let ⟨_,_,_,o,e,_⟩:=x;⟨o,e⟩
 | .dK _,x=>let ⟨_,_,_,_,o,_,_,e,_⟩:=x;⟨o,e⟩
 | .dT _,x=>let ⟨_,_,_,_,o,_,_,e,_⟩:=x;⟨o,e⟩
 | .set _ _,x=>by
  obtain⟨o,es,ep,t,e,_⟩:=x;exact⟨o,e⟩
 | .ins _ _ _,x=>let ⟨_,_,_,e,_⟩:=x;⟨_,e⟩
 | .own _,x=>x
 | .xd _,x=>by
  obtain⟨mA,⟨o,es,ep,e,_⟩,_⟩:=x;exact⟨o,e⟩
 | .Pj _ _,x=>let ⟨_,_,_,e⟩:=x;⟨_,e⟩
 | .qu _ _,x=>⟨_,x.1⟩
 | .CW _,⟨_,x,_⟩=>⟨_,x⟩
 | .met _ _,x=>⟨_,x⟩
 | .ext _,x=>x.2.1
theorem gq.Vu {P:Program} {w:World} {H:Hp} {h h' B:Heap} (ok:gq P w H h) (hB:∀b u o,H b=some u->h.get? b=some o->B.get? b=some o) (st:B.StaysIn h'):gq P w H h':=λa o e=>
 (ok a o e).qZ (λb u hb q=>st b u (by
  rcases hb with rfl | hb
  ·exact hB _ _ _ e q
  ·exact hB _ _ _ hb q)) (λ_ r=>r) λ_ _ r=>r
structure Xu (P:Program) (w:World) (l:List Env) (H:Hp) (s:Shared) (H':Hp) (ad:Addr) (cls:Value) (s':Shared):Prop where
 os:s'.os=s.os
 bare:AllBare s'.gens
 un:Un (gL l) [] H H' s.heap s'.heap
 bP:gq P w H' s'.heap
 fl:∃B a0,Heap.FlyingW B l ad cls a0 s'.heap/\(∀b o,s.heap.get? b=some o->H b=none->b∉gL l->B.get? b=some o)/\(∀b o,s.heap.get? b=some o->b∉gL l->∃o',B.get? b=some o')/\
  (∀b u o,H' b=some u->s'.heap.get? b=some o->B.get? b=some o)
abbrev cV (P:Program) (w:World):lG:=λl H s E e s'=>∃ad cls c H',e=.ref ad/\(Xu P w l H s H' ad cls s'/\(c=none->pO s'.heap ad))/\E cls c H'
theorem xP (P:Program) (w:World):rJ (cV P w):=λ_ _ _ _ _ ⟨_,_,_,_,_,_,h⟩=>h
section
variable {P : Program} {w : World} {K : aba} {mg : Str -> Option Value} {base : Heap} {N : List Str} {qual : Str} {scope : Scope} {f : Addr} {bY : Value} {A : Around} {outer : List Env} {s0 : Shared} {H0 : Hp} {E : XK}
theorem A2 {pins:List (Addr×Obj)} {σ:St} {H:Hp} {s:Shared} {h':Heap} {ad:Addr} {cls:Value} {vs:List Value}
  (I:Inv (iq (cV P w) P w K mg base N qual scope f bY A outer s0 H0 E) pins σ H s) (mx:Heap.MadeExcOf s.heap h' ad cls vs) (e:E cls none H):
  (iq (cV P w) P w K mg base N qual scope f bY A outer s0 H0 E).xe (.ref ad) {s with heap:=h'}:=by
 let env:Env:=envOfC qual scope s0.heap.objs.size f bY;have HB:∀b o,s0.heap.get? b=some o->b∉gL outer->b∉gL (env::outer):=λb o q hb z=>by
  rcases aaB.mp (show b∈s0.heap.objs.size::gL outer from z) with z | z
  ·rw[z] at q;exact absurd (abm q) (aaK _)
  ·exact hb z
 have PF:∀b,b∈gL outer->b∈gL (env::outer):=λb hb=>aaB.mpr (.inr hb);have ST:s.heap.FunFrames base (env::outer):=I.stack;have SF:∀b∈gL (env::outer),H b=none:=I.rk;have BS:Un (gL outer) [] H0 H s0.heap s.heap:=I.base;show wpAny (model P w) (A.deeper env) (leaving env (.ref ad)) (λ_ vO=>cV P w outer H0 s0 E (.ref ad) vO) (λe' vO=>cV P w outer H0 s0 E e' vO) {s with heap:=h'};obtain⟨tt,Xv,_,_⟩:=mx.there;refine um (p:=(none:Option Addr)=none) (base:=hideAll s.heap (gL (env::outer))) (h0:=s.heap) (L:=s0.heap.objs.size) I.ok.frames rfl (λb o q=>of_hideAll _ q)
  (funFrames_hide ST λen he a ha=>List.mem_filterMap.mpr ⟨en,he,ha⟩) mx.keeps mx.new Xv rfl rfl rfl (λ_=>rfl) λh2 x1 x4 xc=>?_
 have x4:Heap.UpToSlots h' h2:=x4;have fr:∀b∈gL (env::outer),∀o,s.heap.get? b=some o->∃sl,h2.get? b=some {o with slots:=sl}:=λb hb o q=>by
  obtain⟨_,o1,q1,nf⟩:=ST.mem hb;rw[q] at q1;cases q1;exact x4 b o (mx.keeps b o q) nf
 refine⟨ad,cls,none,H,rfl,⟨⟨I.os,I.bare,⟨λb o q n hb hx=>?_,λb o q n hb hx=>?_,BS.free,λb o q hx=>?_,BS.lq,BS.jU,BS.lA⟩,?_,⟨_,_,x1,λb o q n hb=>?_,λb o q hb=>?_,λb u o e1 q=>?_⟩⟩,xc⟩,e⟩
 ·exact x1.1 b o (hideAll_get _ (BS.keep b o q n hb hx) (HB b o q hb))
 ·obtain⟨sl,q1⟩:=BS.slot b o q n hb hx;obtain⟨HC,q2⟩:=fr b (PF b hb) _ q1;exact⟨HC,q2⟩
 ·obtain⟨o1,q1⟩:=BS.there b o q hx
  by_cases hb:b∈gL (env::outer)
  ·obtain⟨HC,q2⟩:=fr b hb _ q1;exact⟨_,q2⟩
  ·exact⟨o1,x1.1 b o1 (hideAll_get _ q1 hb)⟩
 ·exact gq.Vu I.bP (λb u o e1 q=>hideAll_get _ q λz=>by
   have:=SF b z;rw[e1] at this;cases this) x1.1
 ·exact hideAll_get _ (BS.keep b o q n hb (by simp)) (HB b o q hb)
 ·obtain⟨o1,q1⟩:=BS.there b o q (by simp);exact⟨o1,hideAll_get _ q1 (HB b o q hb)⟩
 ·obtain⟨o1,q1⟩:=(I.bP b u e1).get;have q2:=hideAll_get (gL (env::outer)) q1 λz=>by
   have:=SF b z;rw[e1] at this;cases this
  have q3:=x1.1 b o1 q2;rw[q] at q3;cases q3;exact q2
theorem xQ:eU (cV P w) (iq (cV P w) P w K mg base N qual scope f bY A outer s0 H0 E) E:=by
 intro pins σ H s e s' I c;let env:Env:=envOfC qual scope s0.heap.objs.size f bY;obtain⟨ad,cls,cc,H',rfl,⟨F,nc⟩,he⟩:=c;have HB:∀b o,s0.heap.get? b=some o->b∉gL outer->b∉gL (env::outer):=λb o q hb z=>by
  rcases aaB.mp (show b∈s0.heap.objs.size::gL outer from z) with z | z
  ·rw[z] at q;exact absurd (abm q) (aaK _)
  ·exact hb z
 have PF:∀b,b∈gL outer->b∈gL (env::outer):=λb hb=>aaB.mpr (.inr hb);have ST:s.heap.FunFrames base (env::outer):=I.stack;have BS:Un (gL outer) [] H0 H s0.heap s.heap:=I.base;have FU:Un (gL (env::outer)) [] H H' s.heap s'.heap:=F.un;obtain⟨B,a0,fl,c0,c2,c1⟩:=F.fl;have fl:Heap.FlyingW B (env::outer) ad cls a0 s'.heap:=fl;have c0:∀b o,s.heap.get? b=some o->H b=none->b∉gL (env::outer)->B.get? b=some o:=c0;have c2:∀b o,s.heap.get? b=some o->b∉gL (env::outer)->∃o',B.get? b=some o':=c2;show wpAny (model P w) (A.deeper env) (leaving env (.ref ad)) (λ_ vO=>cV P w outer H0 s0 E (.ref ad) vO) (λe' vO=>cV P w outer H0 s0 E e' vO) s';refine A1 (L:=s0.heap.objs.size) I.ok.frames rfl fl nc λh2 x1 x2 xc=>?_;have fr:∀b∈gL (env::outer),∀o,s'.heap.get? b=some o->∃sl,h2.get? b=some {o with slots:=sl}:=λb hb o q=>by
  obtain⟨_,o1,q1,nf⟩:=fl.2.2.1.mem hb;rw[q] at q1;cases q1;exact x2 b o q nf
 refine⟨ad,cls,cc,H',rfl,⟨⟨F.os.trans I.os,F.bare,⟨λb o q n hb hx=>?_,λb o q n hb hx=>?_,λb o q n hx=>?_,λb o q hx=>?_,λb xs q=>FU.lq b xs (BS.lq b xs q),λb o u q=>FU.jU b o u (BS.jU b o u q),λb ps q=>?_⟩,F.bP.Vu c1 x1.1,
  ⟨B,a0,x1,λb o q n hb=>?_,λb o q hb=>?_,λb u o e1 q=>?_⟩⟩,xc⟩,he⟩
 ·exact x1.1 b o (c0 b o (BS.keep b o q n hb hx) (BS.free b o q n hx) (HB b o q hb))
 ·obtain⟨sl,q1⟩:=BS.slot b o q n hb hx;obtain⟨J1,q2⟩:=FU.slot b _ q1 (BS.free b o q n hx) (PF b hb) hx;obtain⟨HC,q3⟩:=fr b (PF b hb) _ q2;exact⟨HC,q3⟩
 ·obtain⟨o1,q1⟩:=BS.there b o q hx;exact FU.free b o1 q1 (BS.free b o q n hx) hx
 ·obtain⟨o1,q1⟩:=BS.there b o q hx
  by_cases hb:b∈gL (env::outer)
  ·obtain⟨o2,q2⟩:=FU.there b o1 q1 hx;obtain⟨HC,q3⟩:=fr b hb _ q2;exact⟨_,q3⟩
  ·obtain⟨o2,q2⟩:=c2 b o1 q1 hb;exact⟨o2,x1.1 b o2 q2⟩
 ·obtain⟨m1,e1⟩:=BS.lA b ps q;obtain⟨m2,e2⟩:=FU.lA b _ e1;exact⟨m1++m2,by rw[e2,Array.append_assoc]⟩
 ·exact c0 b o (BS.keep b o q n hb (by simp)) (BS.free b o q n (by simp)) (HB b o q hb)
 ·obtain⟨o1,q1⟩:=BS.there b o q (by simp);exact c2 b o1 q1 (HB b o q hb)
 ·obtain⟨o1,q1⟩:=(F.bP b u e1).get;have q2:=c1 b u o1 e1 q1;have q3:=x1.1 b o1 q2;rw[q] at q3;cases q3;exact q2
end
open PySem PySem.Spec PyProof.Rows PySem.W
set_option tactic.hygienic true in
theorem DI {K:Frag} {h:Heap} {C:Addr} {Vv:List Value} {newId:String} (X:K.In h) (q:excIn K C Vv newId=true):
  ∃tl N nm qn bs hdct sn sub ab col dd k0 k1 k2 k3 k5 mN,h.get? C=some (excClassObj nm qn C N bs tl hdct sn sub ab col dd k0 k1 k2 k3 k5 newId)/\h.Ns N mN/\mN "__init__"=none/\OwnTail h Vv tl:=by
 unfold excIn at q
 split at q
 ·rename_i dd cd sl ho
  split at q
  ·rename_i C' bm k0 k1 k2 k3 n k5 hm hs
   simp only[aaL,beq_iff_eq,Bool.not_eq_true'] at q;obtain⟨⟨⟨⟨⟨rfl,rfl⟩,Lo⟩,ht⟩,bP⟩,PJ⟩:=q;obtain⟨nm,bs,mro,ns,qn,hd,sn,sub,ab,col,del⟩:=cd;dsimp only at hm Lo bP PJ;subst hm Lo;have xR:sl=#[k0,k1,k2,k3,some (.builtin n),k5]:=by
    obtain⟨l⟩:=sl;simp only at hs;rw[hs]
   subst xR;exact⟨bm,ns,nm,qn,bs,hd,sn,sub,ab,col,dd,k0,k1,k2,k3,k5,_,X _ _ ho,.of_isNs (isNs_of_in X bP),nsMap_none_of_in X bP PJ,tail_of_in X ht⟩
  ·cases q
 ·cases q
@[inline]abbrev rL:List Value:=[.type "ValueError",.type "Exception",.type "BaseException",.type "object"]
@[inline]abbrev j4:String:="ValueError.__new__"
abbrev tRaise (C:Addr) (E:XK) (t:TA):TS:=λ_ σ H=>t σ H λvs H1=>vs.length<=sizeLine/\E (.ref C) none H1
section
variable {P : Program} {w : World} {K : aba} {mg : Str -> Option Value} {base : Heap} {N : List Str} {qual : Str} {scope : Scope} {f : Addr} {bY : Value} {A : Around} {outer : List Env} {s0 : Shared} {H0 : Hp} {E : XK}
theorem fM {x:Str} {C:Addr} {np dE pos:Pos} {e:Expr} {es:List Expr} {t:TA} (hg:Gl (iq (cV P w) P w K mg base N qual scope f bY A outer s0 H0 E) x) (hm:mg x=some (.ref C)) (q:excIn K C rL j4=true)
  (hh:A.handled=none) (ha:PA (iq (cV P w) P w K mg base N qual scope f bY A outer s0 H0 E) (e::es) t) (ze:(x==("__debug__":Str))=false:=by decide)
  (he:starEach (e::es) (iq (cV P w) P w K mg base N qual scope f bY A outer s0 H0 E).env=(false,eval e (iq (cV P w) P w K mg base N qual scope f bY A outer s0 H0 E).env)::starEach es (iq (cV P w) P w K mg base N qual scope f bY A outer s0 H0 E).env:=by injections)
  (hpl:(backTo dE (starEach es (iq (cV P w) P w K mg base N qual scope f bY A outer s0 H0 E).env)).any (·.1)=false:=by injections):
  PS (iq (cV P w) P w K mg base N qual scope f bY A outer s0 H0 E) (.Raise (some (.Call (.Name x np) (e::es) [] dE)) none pos) (tRaise C E t):=by
 intro pins s σ H D I h;have FB:=PySem.F.excBase_ValueError;obtain⟨tl,Nn,nm,qn,bs,hdct,sn,sub,ab,col,dd,k0,k1,k2,k3,k5,mN,hC,hN,PJ,T⟩:=DI I.ok.mod.JW q;refine wpAny_Raise_call_subT (C:=C) (nm:=nm) (q:=qn) (N:=Nn) (bs:=bs) (bm:=tl) (hdct:=hdct) (sn:=sn) (sub:=sub) (ab:=ab) (col:=col) (dd:=dd) (k0:=k0) (k1:=k1) (k2:=k2) (k3:=k3) (k5:=k5)
  FB (mN:=mN) (T.hasType FB.hasBase) hh (by rw[he];show(false || (backTo dE (starEach es _)).any (·.1))=false;rw[hpl];rfl) PJ (nG I hg hm ⟨rfl,?_⟩ ze)
 rw[he];have Vw:=ha dE pins s σ H _ I h;rw[he] at Vw;refine Calls.evalArgs_plain (cK Vw λus s1 ⟨vs,H1,I1,r,z,k⟩=>⟨rfl,by rw[<-r.length];exact z,I1.bk _ _ hC,hN.keeps I1.bk,T.keeps I1.bk,λh' ad mx=>?_⟩);exact A2 I1 mx k
end
section
variable {X : Cx} {pins : List (Addr × Obj)} {σ : St} {H H' : Hp} {s s' : Shared}
@[inline]abbrev Cx.mark (X:Cx) (ad:Addr):Cx:={X with A:=X.A.mark (some (.ref ad)),calm:=false,xe:=λ_ _=>False}
end
section
variable {X : Cx} {CX : lG} {k : Nat} {x : Str} {ps : List Str} {sp : Sp} {E : XK} {e : Expr} {es : List Expr} {t : TA} {p pos : Pos}
variable {cx n : Str} {np DJ HD nh : Pos} {b₀ : Stmt} {Fz : List Stmt} {i : Nat} {ts : TS} {C2 : Addr}
end
end L2
namespace Nm
abbrev st (a b:Int):Int:=if b<0 then -(a / g a b) else a / g a b
abbrev sb (a b:Int):Int:=if b<0 then -(b / g a b) else b / g a b
theorem A3 {a d:Int} (h:0<d):a.fdiv d=a / d:=Int.fdiv_eq_ediv_of_nonneg a ⋯
theorem A4 {a d:Int} (h:0<d) (dv:d∣a):a.fdiv (-d)= -(a / d):=by
 obtain⟨k,rfl⟩:=dv;rw[Int.mul_ediv_cancel_left _ ⋯,show d*k=(-d)* (-k) by rw[Int.neg_mul_neg]];exact Int.mul_fdiv_cancel_left _ ⋯
set_option tactic.hygienic true in
theorem HE {a b:Int} (h:b≠0):0<sb a b:=by
 have g0:=AW (a:=a) h;unfold sb
 split
 ·rename_i hb
  have h1:0< (-b) / g a b:=Int.ediv_pos_of_pos_of_dvd ⋯ (Lm a b) (Int.dvd_neg.mpr (iR a b));rw[Int.neg_ediv_of_dvd (iR a b)] at h1;exact h1
 ·exact DF ⋯
theorem DK (a b:Int):g a (-b)=g a b:=by rw[rK,Fy,rK]
theorem HF {a b:Int} (h:b≠0):g (st a b) (sb a b)=1:=by
 have e:=DE (a:=a) h;unfold st sb
 split
 ·rw[Fy,DK];exact e
 ·exact e
theorem A5 (a b:Int):st a b*b=a*sb a b:=by
 have e:=zr a b;unfold st sb
 split
 ·rw[Int.neg_mul,e,Int.mul_neg]
 ·exact e
theorem HG {a b:Int} (h:0<b):st a b=a / g a b/\sb a b=b / g a b:=by
 unfold st sb;rw[if_neg ⋯,if_neg ⋯];exact⟨rfl,rfl⟩
end Nm
namespace L2
open PySem PySem.Spec PyProof.Rows
section
variable {P : Program} {w : World} {K : aba} {mg : Str -> Option Value} {base : Heap} {CX : lG}
theorem vZ.J2 {x qual:Str} {st:Stmt} {f:Addr} {fd:FuncData} {N ps:List Str} {k:Nat} {sp:Sp} (F:vZ K x qual st f fd) (S:aS N ps (aq st)) (len:∀vs H Q E,sp vs H Q E->vs.length=ps.length)
  (t8:∀(bY:Value) (A:Around) (outer:List Env) (s:Shared) (H:Hp) (vs:List V) (Q:VK) (E:XK),dY k (A.deeper (envOfC qual (aq st) s.heap.objs.size f bY))->sp vs H Q E->
   ∃t,vx (iq CX P w K mg base N qual (aq st) f bY A outer s H E) (bA st) t/\t {nx:=λ_ H'=>Q .cU H',rt:=Q} (start N vs) H):fK P w K mg base CX (k+1) f fd ps sp:=by
 obtain⟨oc,od,kV,doc,pm,an,bY,ct,C0,rfl,lk,yX⟩:=F.ex;exact Fv lk yX S len λA outer s H vs Q E hr C4=>t8 bY A outer s H vs Q E hr C4
end
abbrev noStar:Expr->Bool
 | .Starred _ _=>false
 | _=>true
theorem se {e:Expr} {es:List Expr} {env:Env} (h:noStar e=true):starEach (e::es) env=(false,eval e env)::starEach es env:=by
 cases e <;>first | rfl | exact absurd h aat
theorem na {env:Env} {pos:Pos}:∀{es:List Expr},es.all noStar=true->(backTo pos (starEach es env)).any (·.1)=false
 | [],_=>rfl
 | e::es,h=>by
  rw[List.all_cons,aaL] at h;rw[se h.1];show(false || (backTo pos (starEach es env)).any (·.1))=false;rw[na h.2];rfl
open PySem PySem.Spec PyProof.Rows PySem.W
structure Ra (K:aba) (C:Addr):Prop where
 cls:(clsIn K C).isSome=true
 ga:findIn K (.ref C) "__getattribute__"=some (some (.builtin "BaseException.__getattribute__"))
 gt:findIn K (.ref C) "__getattr__"=some none
 cl:findIn K (.ref C) "__class__"=some (some (.builtin "object.__class__"))
 be:mroIn K C (.type "BaseException")=some true
 ob:mroIn K C (.type "object")=some true
section
variable {prog : Program} {w : World} {A : Around} {E : Value -> Shared -> Prop} {K : aba} {h : Heap} {g : Array GenState} {d : Drawn} {t : Nat} {os : OsState} {a C : Addr} {o : Obj}
end
section
variable {X : Cx}
abbrev Lp:V->Option Value
 | .ref C=>some (.ref C)
 | .ty T=>some (.type T)
 | _=>none
theorem DL {c:V} {v u:Value} (h:Lp c=some v) (r:RelV c u):u=v:=by
 cases c with
 | ref C=>cases h;exact r
 | ty T=>cases h;exact r
 | _=>cases h
theorem uo:∀{cs:List V} {vs us:List Value},cs.mapM Lp=some vs->bq cs us->us=vs
 | [],_,_,h,.nil=>by cases h;rfl
 | c::cs,vs,_,h,.cons r rs=>by
  rw[List.mapM_cons] at h;obtain⟨v,h1,h⟩:=Option.bind_eq_some_iff.mp h;obtain⟨vk,h2,h⟩:=Option.bind_eq_some_iff.mp h;cases h;rw[DL h1 r,uo h2 rs]
end
theorem jB {env:Env}:∀(names:List (Str×NameKind)) (cs:List (Str×Addr)),(∀n,(n,NameKind.free)∈names->∃c,env.cells.lookup n=some c)->(∀x c,cs.lookup x=some c->env.cells.lookup x=some c)->
  ∃cl,(forIn names cs fun(x:Str×NameKind) (r:List (Str×Addr))=>(if (x.2==NameKind.free)=true then do let c <-cellOf env x.1;pure (ForInStep.yield ((x.1,c)::r)) else pure (ForInStep.yield r):Sem (ForInStep (List (Str×Addr)))))=pure cl/\
   (∀x c,cl.lookup x=some c->env.cells.lookup x=some c)/\(∀n,((n,NameKind.free)∈names\/(cs.lookup n).isSome=true)->∃c,cl.lookup n=some c)/\(∀x c,(x,c)∈cl->(env.cells.lookup x=some c/\(x,NameKind.free)∈names)\/(x,c)∈cs)
 | [],cs,_,h=>⟨cs,rfl,h,(λn hn=>by
   rcases hn with hn | hn
   ·exact absurd hn (by simp)
   ·exact Option.isSome_iff_exists.mp hn),λx c m=>.inr m⟩
 | (n,k)::r,cs,hf,h=>by
  by_cases hk:k=.free
  ·subst hk;obtain⟨c,hc⟩:=hf n aas;obtain⟨cl,e,h1,h2,h3⟩:=jB r ((n,c)::cs) (λm hm=>hf m (aam _ hm)) (λx c' hx=>by
    rw[aaE] at hx;cases q:x==n with
    | true=>
     rw[q] at hx;have e1:x=n:=by simpa using q
     cases hx;rw[e1];exact hc
    | false=>rw[q] at hx;exact h x c' hx)
   refine⟨cl,?_,h1,λm hm=>h2 m ?_,λx c' m=>?_⟩
   rotate_left 2
   ·rcases h3 x c' m with ⟨q1,q2⟩ | m
    ·exact .inl ⟨q1,aam _ q2⟩
    ·rcases aaB.mp m with e | m
     ·cases e;exact .inl ⟨hc,aas⟩
     ·exact .inr m
   ·rw[List.forIn_cons];have Xw:cellOf env n=pure c:=by unfold cellOf;rw[hc]
    simp only[beq_self_eq_true,if_true,Xw,pure_bind];exact e
   ·rcases hm with hm | hm
    ·rcases aaB.mp hm with z | z
     ·cases z
      right
      rw[aaE];simp
     ·exact .inl z
    ·right
     rw[aaE];cases q:m==n with
     | true=>rfl
     | false=>exact hm
  ·obtain⟨cl,e,h1,h2,h3⟩:=jB r cs (λm hm=>hf m (aam _ hm)) h;refine⟨cl,?_,h1,λm hm=>h2 m ?_,λx c' m=>(h3 x c' m).imp (λq=>⟨q.1,aam _ q.2⟩) id⟩
   ·rw[List.forIn_cons];have:(k==NameKind.free)=false:=by simpa using hk
    simp only[this,Bool.false_eq_true,if_false,pure_bind];exact e
   ·rcases hm with hm | hm
    ·rcases aaB.mp hm with z | z
     ·cases z;exact absurd rfl hk
     ·exact .inl z
    ·exact .inr hm
theorem ja {env:Env} {scope:Scope} (hf:∀n,(n,NameKind.free)∈scope.names->∃c,env.cells.lookup n=some c):
  ∃cl,closureFor scope env=pure cl/\(∀x c,cl.lookup x=some c->env.cells.lookup x=some c)/\(∀n,(n,NameKind.free)∈scope.names->∃c,cl.lookup n=some c)/\(∀x c,(x,c)∈cl->env.cells.lookup x=some c/\(x,NameKind.free)∈scope.names):=by
 obtain⟨cl,e,h1,h2,h3⟩:=jB (env:=env) scope.names [] hf (λx c h=>by simp at h);refine⟨cl,?_,h1,λn hn=>h2 n (.inl hn),λx c m=>(h3 x c m).elim id λz=>absurd z (by simp)⟩;unfold closureFor;simp only[bind_pure];exact e
structure fF (N:List Str) (so:Scope) (N':List Str) (scope:Scope) (k:Nat) (fr:List Nat):Prop where
 kind:scope.kind=.function
 HH:∀y∈scope.names,y.2=.cell->scope.names.lookup y.1=some .cell/\(y.1,NameKind.free)∉scope.names
 locs:∀y∈scope.names,y.2=.local->scope.names.lookup y.1=some .local
 outer:∀y∈scope.names,y.2=.free->(so.names.lookup y.1=some .cell\/so.names.lookup y.1=some .free)
 len:N'.length=k+fr.length
 at_:∀t,t<fr.length->(fr[t]?).bind (λj=>N[j]?)=N'[k+t]?
 Rb:∀x∈N'.drop k,scope.names.lookup x=some .free
abbrev stC (k:Nat) (fr:List Nat) (σ:St):St:=abn k none++fr.map λj=>(σ[j]?).join
abbrev nk (X:Cx) (N:List Str) (scope:Scope) (cl:List (Str×Addr)) (C:Addr) (s:Shared) (H:Hp) (ex:List Addr):Cx where
 prog:=X.prog
 w:=X.w
 K:=X.K
 mg:=X.mg
 base:=X.base
 A:=X.A
 N:=N
 s₀:=s
 H₀:=H
 env:=compEnvC scope cl C X.env
 outer:=X.stack
 stack:=X.stack
 ex:=ex
 calm:=X.calm
 fn:=λx=>scope.names.lookup x==some .cell
 pn:=[]
 xe:=λ_ _=>False
theorem fe {env:Env}:∀{names:List (Str×NameKind)} {x:Str},names.lookup x=some .free->
  (names.map fun(n,k)=>if (k==NameKind.free && env.scope.kind==.function && env.kindOf n==some .cell) then (n,NameKind.cell) else (n,k)).lookup x=some .cell\/
  (names.map fun(n,k)=>if (k==NameKind.free && env.scope.kind==.function && env.kindOf n==some .cell) then (n,NameKind.cell) else (n,k)).lookup x=some .free
 | [],_,h=>by simp at h
 | (n,k)::r,x,h=>by
  have ih:=@fe env r x;show List.lookup x ((if (k==NameKind.free && env.scope.kind==.function && env.kindOf n==some .cell)=true then (n,NameKind.cell) else (n,k))::_)=_\/List.lookup x ((if (k==NameKind.free && env.scope.kind==.function && env.kindOf n==some .cell)=true then (n,NameKind.cell) else (n,k))::_)=_;cases hx:x==n with
  | true=>
   simp only[aaE,hx] at h;cases h
   by_cases hc:(NameKind.free==NameKind.free && env.scope.kind==.function && env.kindOf n==some .cell)=true
   ·rw[if_pos hc];left;simp [aaE,hx]
   ·rw[if_neg hc];right;simp [aaE,hx]
  | false=>
   simp only[aaE,hx] at h
   by_cases hc:(k==NameKind.free && env.scope.kind==.function && env.kindOf n==some .cell)=true
   ·rw[if_pos hc];simp only[aaE,hx];exact ih h
   ·rw[if_neg hc];simp only[aaE,hx];exact ih h
theorem j5 {env:Env}:∀{names:List (Str×NameKind)} {x:Str},
  ((names.map fun(n,k)=>if (k==NameKind.free && env.scope.kind==.function && env.kindOf n==some .cell) then (n,NameKind.cell) else (n,k)).lookup x=some .cell\/
  (names.map fun(n,k)=>if (k==NameKind.free && env.scope.kind==.function && env.kindOf n==some .cell) then (n,NameKind.cell) else (n,k)).lookup x=some .free)->(x,NameKind.free)∈names\/(x,NameKind.cell)∈names
 | [],_,h=>by simp at h
 | (n,k)::r,x,h=>by
  have ih:=@j5 env r x;have up:((x,NameKind.free)∈r\/(x,NameKind.cell)∈r)->((x,NameKind.free)∈(n,k)::r\/(x,NameKind.cell)∈(n,k)::r):=λz=>z.imp (aam _) (aam _);have h:List.lookup x ((if (k==NameKind.free && env.scope.kind==.function && env.kindOf n==some .cell)=true then (n,NameKind.cell) else (n,k))::_)=_\/List.lookup x ((if (k==NameKind.free && env.scope.kind==.function && env.kindOf n==some .cell)=true then (n,NameKind.cell) else (n,k))::_)=_:=h;cases hx:x==n with
  | true=>
   have e1:x=n:=by simpa using hx
   subst e1
   by_cases hc:(k==NameKind.free && env.scope.kind==.function && env.kindOf x==some .cell)=true
   ·have:k=.free:=by
     simp only[aaL] at hc
     simpa using hc.1.1
    subst this;exact .inl aas
   ·rw[if_neg hc] at h;simp only[aaE,hx] at h;rcases h with h | h
    ·cases h;exact .inr aas
    ·cases h;exact .inl aas
  | false=>
   by_cases hc:(k==NameKind.free && env.scope.kind==.function && env.kindOf n==some .cell)=true
   ·rw[if_pos hc] at h;simp only[aaE,hx] at h;exact up (ih h)
   ·rw[if_neg hc] at h;simp only[aaE,hx] at h;exact up (ih h)
theorem lM:∀(names:List (Str×NameKind)) (h:Heap) (acc:List (Str×Addr)) (x:Str) (c:Addr),(x,c)∈cellsFrom h.objs.size names acc->
  (x,c)∈acc\/(h.objs.size<=c/\(pushCells h names).IsCell c none/\(x,NameKind.cell)∈names)
 | [],h,acc,x,c,m=>.inl m
 | (n,k)::r,h,acc,x,c,m=>by
  unfold cellsFrom at m;unfold pushCells
  by_cases hk:(k==NameKind.cell)=true
  ·rw[if_pos hk] at m ⊢;have ih:=lM r (h.push {cls:=.type "cell",data:=.cell none}) ((n,h.objs.size)::acc) x c;rw[Heap.size_push] at ih;rcases ih m with m | ⟨q1,q2,q3⟩
   ·rcases aaB.mp m with e | m
    ·cases e;have hk:k=.cell:=by simpa using hk
     subst hk;refine .inr ⟨aag _,?_,aas⟩;have q:(h.push {cls:=.type "cell",data:=.cell none}).IsCell h.objs.size none:=⟨_,abl _ rfl,rfl⟩
     exact q.keeps λb o e=>pushCells_keeps r _ b o e
    ·exact .inl m
   ·exact .inr ⟨⋯,q2,aam _ q3⟩
  ·rw[if_neg hk] at m ⊢;rcases lM r h acc x c m with m | ⟨q1,q2,q3⟩
   ·exact .inl m
   ·exact .inr ⟨q1,q2,aam _ q3⟩
theorem lN:∀(names:List (Str×NameKind)) (n lo:Nat) (acc:List (Str×Addr)),(∀x c,(x,c)∈acc->c<n)->(∀x y c,lo<=c->(x,c)∈acc->(y,c)∈acc->x=y)->
  ∀x y c,lo<=c->(x,c)∈cellsFrom n names acc->(y,c)∈cellsFrom n names acc->x=y
 | [],n,lo,acc,h1,h2,x,y,c,hl,m1,m2=>h2 x y c hl m1 m2
 | (z,k)::r,n,lo,acc,h1,h2,x,y,c,hl,m1,m2=>by
  unfold cellsFrom at m1 m2
  by_cases hk:(k==NameKind.cell)=true
  ·rw[if_pos hk] at m1 m2;refine lN r (n+1) lo _ (λx c m=>?_) (λx y c hl m1 m2=>?_) x y c hl m1 m2
   ·rcases aaB.mp m with e | m
    ·cases e;exact aaZ _
    ·exact Nat.lt_succ_of_lt (h1 x c m)
   ·rcases aaB.mp m1 with e1 | m1 <;>rcases aaB.mp m2 with e2 | m2
    ·cases e1;cases e2;rfl
    ·cases e1;exact absurd (h1 _ _ m2) (aaK _)
    ·cases e2;exact absurd (h1 _ _ m1) (aaK _)
    ·exact h2 x y c hl m1 m2
  ·rw[if_neg hk] at m1 m2;exact lN r n lo acc h1 h2 x y c hl m1 m2
theorem gR:∀(names:List (Str×NameKind)) (n:Nat) (acc:List (Str×Addr)) (x:Str),(x,NameKind.cell)∉names->(cellsFrom n names acc).lookup x=acc.lookup x
 | [],n,acc,x,_=>rfl
 | (z,k)::r,n,acc,x,h=>by
  have hr:(x,NameKind.cell)∉r:=λm=>h (aam _ m);unfold cellsFrom
  by_cases hk:(k==NameKind.cell)=true
  ·rw[if_pos hk,gR r _ _ x hr,aaE];have hk:k=.cell:=by simpa using hk
   subst hk;have:(x==z)=false:=by
    cases q:x==z with
    | false=>rfl
    | true=>
     have e:x=z:=by simpa using q
     subst e;exact absurd aas h
   rw[this]
  ·rw[if_neg hk];exact gR r n acc x hr
theorem lO:∀(names:List (Str×NameKind)) (n:Nat) (acc:List (Str×Addr)) (x:Str),((x,NameKind.cell)∈names\/(acc.lookup x).isSome=true)->((cellsFrom n names acc).lookup x).isSome=true
 | [],n,acc,x,h=>by
  rcases h with h | h
  ·simp at h
  ·exact h
 | (z,k)::r,n,acc,x,h=>by
  unfold cellsFrom
  by_cases hk:(k==NameKind.cell)=true
  ·rw[if_pos hk];refine lO r _ _ x ?_;rcases h with h | h
   ·rcases aaB.mp h with e | h
    ·cases e
     right
     rw[aaE];simp
    ·exact .inl h
   ·right
    rw[aaE];cases q:x==z with
    | true=>rfl
    | false=>exact h
  ·rw[if_neg hk];refine lO r _ _ x ?_;rcases h with h | h
   ·rcases aaB.mp h with e | h
    ·cases e;exact absurd rfl hk
    ·exact .inl h
   ·exact .inr h
section
variable {M : Model} {A : Around} {E : Value -> Shared -> Prop} {s : Shared}
theorem j6 {scope:Scope} {globals:Addr} {closure:List (Str×Addr)} {qual:Str} {func:Option Addr} {code:Value} {outer:Env} {Q:Env->Shared->Prop}
  (hQ:Q (newEnv scope s.heap.objs.size globals (cellsFrom (s.heap.objs.size+1) scope.names closure) qual func code (some outer) builtinsNs)
   {s with heap:=pushCells (s.heap.push {cls:=.type "dict",data:=.dict #[]}) scope.names}):
  wpAny M A (newFunctionEnv scope globals closure [] qual func code (some outer)) Q E s:=by
 simp only[newFunctionEnv,Option.isSome_some,if_true];refine wpAny_bind (wpAny_alloc ?_);refine wpAny_bind (wpAny_layCells _ (λname kind cells=>by cases Xx:kind==NameKind.cell <;>simp [Xx]) _ _ _ _ ?_);rw[show({s with heap:=s.heap.push {cls:=.type "dict",data:=.dict #[]}}:Shared).heap.objs.size=s.heap.objs.size+1 from Heap.size_push ..];refine wpAny_bind ?_;rw[List.forIn_nil];exact wpAny_pure (wpAny_pure hQ)
end
structure HI (X:Cx) (scope:Scope) (cl:List (Str×Addr)) (lo:Nat) (C:Addr) (h1:Heap):Prop where
 old:∀x c,cl.lookup x=some c->X.env.cells.lookup x=some c\/(lo<=c/\C<c/\h1.IsCell c none)
 inj:∀x y c,C<c->cl.lookup x=some c->cl.lookup y=some c->x=y
 has:∀n,(n,NameKind.free)∈scope.names\/(n,NameKind.cell)∈scope.names->∃c,cl.lookup n=some c
 Rb:∀n,scope.names.lookup n=some .free->∀c,cl.lookup n=some c->X.env.cells.lookup n=some c
 own:∀x c,scope.names.lookup x=some .cell->cl.lookup x=some c->lo<=c
section
variable {X : Cx} {pins : List (Addr × Obj)} {σ : St} {H : Hp} {s : Shared} {N' : List Str} {scope : Scope} {k : Nat} {fr : List Nat} {cl : List (Str × Addr)}
theorem HJ {C:Addr} {fp:List Addr} {h1:Heap} (I:Inv X pins σ H s) (S:fF X.N X.env.scope N' scope k fr) (B:HI X scope cl s.heap.objs.size C h1)
  (hC:s.heap.objs.size<=C) (f2:∀b∈fp,jA X pins H b) (lt:∀b∈fp,b<s.heap.objs.size):(nk X N' scope cl C s H fp).Ok where
 mod:=I.ok.mod
 kind:=S.kind
 glob:=I.ok.glob
 blt:=I.ok.blt
 above:=hC
 inj:=λx y c h1 h2=>by
  rcases B.old _ _ h1 with o1 | o1 <;>rcases B.old _ _ h2 with o2 | o2
  ·exact I.ok.inj x y c o1 o2
  ·exact B.inj x y c o2.2.1 h1 h2
  ·exact B.inj x y c o1.2.1 h1 h2
  ·exact B.inj x y c o1.2.1 h1 h2
 has:=λx hx=>B.has x (j5 hx)
 JX:=λx c z e=>B.own x c (by
  have z:(scope.names.lookup x==some NameKind.cell)=true:=z
  simpa using z) e
 hd:=I.ok.hd
 frames:=I.ok.frames
 KS:=.inl rfl
 QG:=λb hb=>⟨aar (aaz (lt b hb) hC),λx c e=>(B.old _ _ e).elim (λo=>(f2 b hb).2.2.2.2.1 x c o) λo=>Nat.ne_of_gt (aaz (lt b hb) o.1)⟩
 bs:=I.bs
 CY:=aao I.ok.CY I.sz
 yW:=λb o e hb=>by
  rcases(f2 b hb).2.2.2.1 with z | z
  ·exact I.ok.yW b o e z
  ·exact absurd (aaz (abm e) (aao I.ok.CY z)) (aaK _)
 Aq:=λb hb z=>by
  rcases aaB.mp (I.rj b z) with q | q
  ·exact(f2 b hb).2.1 q
  ·exact(f2 b hb).2.2.1 q
 lB:=I.stack
 Fl:=I.rk
theorem DM {C:Addr} {fp:List Addr} {h1:Heap} {tk:Nat} {m:Str->Option Value} (I:Inv X pins σ H s) (S:fF X.N X.env.scope N' scope k fr) (B:HI X scope cl s.heap.objs.size C h1)
  (hC:s.heap.objs.size<=C) (f2:∀b∈fp,jA X pins H b) (lt:∀b∈fp,b<s.heap.objs.size) (old:∀b o,s.heap.get? b=some o->h1.get? b=some o) (hn:h1.Ns C m):
  Inv (nk X N' scope cl C s H fp) [] (stC k fr σ) H {s with heap:=h1,toks:=tk}:=by
 refine⟨HJ I S B hC f2 lt,rfl,I.bare,Un.kept old,⟨m,hn,λi x v e1 e2 e3=>?_⟩,λx c e=>?_,I.bP.fresh hC,λx c e=>(B.old _ _ e).elim (λo=>I.ig x c o) λo=>I.bP.fresh o.1,λp hp=>absurd (show p∈([]:List (Addr×Obj)) from hp) (by simp),I.bP.kept old,?_⟩
 ·have e1:N'[i]?=some x:=e1;unfold stC at e2
  by_cases hi:i<k
  ·rw[List.getElem?_append_left (by simpa using hi),List.getElem?_replicate,if_pos hi] at e2;cases e2
  ·rw[List.getElem?_append_right (by simpa using hi),aa4,aaf] at e2;cases q:fr[i - k]? with
   | none=>rw[q] at e2;cases e2
   | some j=>
    rw[q] at e2;have e2:(σ[j]?).join=some v:=aay e2;have ej:σ[j]?=some (some v):=by
     cases z:σ[j]? with
     | none=>rw[z] at e2;cases e2
     | some o=>rw[z] at e2;exact congrArg some e2
    have mH:i - k<fr.length:=(abh.mp q).1;have A6:=S.at_ (i - k) mH;rw[q,show k+ (i - k)=i by lia,e1] at A6;have A6:X.N[j]?=some x:=A6;have Xy:x∈N'.drop k:=List.mem_iff_getElem?.mpr ⟨i - k,by rw[List.getElem?_drop,show k+ (i - k)=i by lia];exact e1⟩;have zt:=S.Rb x Xy;have A7:(x,NameKind.free)∈scope.names:=aaV zt;have Lq:=S.outer _ A7 rfl;obtain⟨m0,hn0,Xz⟩:=I.loc;obtain⟨u,r,l⟩:=Xz j x v A6 ej (.inr Lq);refine⟨u,r,.inr ⟨fe zt,?_⟩⟩;rcases l with ⟨kk,_⟩ | ⟨_,c,e,z⟩
    ·have kk:X.env.scope.names.lookup x=some .local:=kk;rcases Lq with q1 | q1
     ·rw[kk] at q1;cases q1
     ·rw[kk] at q1;cases q1
    ·obtain⟨c',e'⟩:=B.has x (.inl A7);have ec:=B.Rb x zt _ e';rw[e] at ec;cases ec;obtain⟨ob,ho,hd⟩:=z;exact⟨c,e',ob,old _ _ ho,hd⟩
 ·rcases B.old _ _ e with o | o
  ·obtain⟨v,ob,ho,hd⟩:=I.cell x c o;exact⟨v,ob,old _ _ ho,hd⟩
  ·exact⟨none,o.2.2⟩
 ·unfold stC;rw[aaq,aa4,aad];exact S.len.symm
end
section
variable {prog : Program} {w : World} {A : Around} {E : Value -> Shared -> Prop} {R : Result -> Shared -> Prop} {s : Shared}
theorem iy {elt target iter:Expr} {ifs:List Expr} {scope:Scope} {pos:Pos} {it acc:Value} {env:Env} (I:Nat->Shared->Prop)
  (turn:∀n s,I n s->wpAny (model prog w) A (pyNext it) (λr s₁=>match r with
   | none=>R (.ok .next) s₁
   | some v=>wpAny (model prog w) A (letOwnedTupleGo target it v) (λ_ Vx=>wpAny (model prog w) A (assign target env v) (λ_ s₂=>
     wpAny (model prog w) A (forIn ifs true λc r=>if r=true then do let ok <-isTrue c env (eval c env);pure (ForInStep.yield ok) else pure (ForInStep.yield r)) (λok s₃=>
      if ok=true then wpAny (model prog w) A (eval elt env) (λx s₄=>
       wpAny (model prog w) A (call (.builtin "list.append") [acc,x]) (λ_ s₅=>∃m,m<n/\I m s₅) (λ_ _=>False) s₄) (notedBy (model prog w) A env λx s'=>R (.error x) s') s₃
      else ∃m,m<n/\I m s₃) (λ_ _=>False) s₂) (λ_ _=>False) Vx) (λ_ _=>False) s₁) (λ_ _=>False) s)
  (n:Nat) (h:I n s):
  codeAny (model prog w) A (.compLoop (.ListComp elt [⟨target,iter,ifs,0⟩] scope pos) 0 it acc env) R s:=by
 refine codeAny_loop rfl I (λn s hI=>?_) n h;show wpAny _ A ((compTurn (.ListComp elt [⟨target,iter,ifs,0⟩] scope pos) 0 it acc env).onRaise (λx=>do noteFrame x env;theTreesLotGoes x)) _ _ s;refine wpAny_noted ?_;rw[compTurn_list];refine wpAny_bind (wpAny_standAt (wpAny_bind (wpAny_mono (turn n s hI) (λr s₁ h₁=>?_) λ_ _ h'=>h'.elim)));cases r with
 | none=>exact wpAny_pure h₁
 | some v=>
  refine wpAny_bind (wpAny_mono h₁ (λ_ Vx XA=>?_) λ_ _ h'=>h'.elim);refine wpAny_bind (wpAny_mono XA (λ_ s₂ h₂=>wpAny_bind (wpAny_mono h₂ (λok s₃ h₃=>?_) λ_ _ h'=>h'.elim)) λ_ _ h'=>h'.elim);cases ok with
  | false=>exact wpAny_pure ⟨rfl,h₃⟩
  | true=>
   exact wpAny_bind (wpAny_bind (wpAny_mono h₃ (λx s₄ h₄=>wpAny_bind (wpAny_mono h₄ (λ_ s₅ h₅=>wpAny_pure (wpAny_pure ⟨rfl,h₅⟩)) λ_ _ h'=>h'.elim)) λ_ _ h'=>h'))
end
abbrev HK (X:Cx) (ifs:List Expr) (t:TT):Prop:=
 ∀(pins:List (Addr×Obj)) (s:Shared) (σ:St) (H:Hp) (Q:Bool->Hp->Prop),Inv X pins σ H s->t σ H Q->
  wpAny (model X.prog X.w) X.A (forIn ifs true λc r=>if r=true then do let ok <-isTrue c X.env (eval c X.env);pure (ForInStep.yield ok) else pure (ForInStep.yield r)) (TP X pins σ Q) X.xe s
abbrev pP:TT:=λ_ H Q=>Q true H
theorem dk {X:Cx}:HK X [] pP:=λ_ _ _ H _ I h=>wpAny_tests_nil ⟨H,I,h⟩
theorem eA {X:Cx} {c:Expr} {t:TT} (h:PT X c t):HK X [c] t:=λpins s σ H Q I hq=>wpAny_tests_one (h pins s σ H Q I hq)
section
variable {X : Cx}
abbrev fN (J:It) (g:TG) (tc:TT) (te:TE) (σ0:St) (H1:Hp) (fin:List V->Hp->Prop):Prop:=
 ∃W:Nat->Nat->List V->St->Hp->Prop,(∃m,W 0 m [] σ0 H1)/\∀i m ys σ2 H2,W i m ys σ2 H2->
  (J.stop i H2/\fin ys H2)\/
  (J.go i H2/\∀x H3,J.y7 i H2 x H3->g x σ2 H3 λσ3 H4=>tc σ3 H4 λb H5=>if b=true then te σ3 H5 λy H6=>ys.length<sizeLine/\∃m',m'<m/\W (i+1) m' (ys++ [y]) σ3 H6 else ∃m',m'<m/\W (i+1) m' ys σ3 H5)
abbrev fO (ba:List Value) (n:Nat):Obj:={cls:=.type "list",data:=.seq ba.toArray n}
theorem A8 {elt target iter:Expr} {ifs:List Expr} {scope:Scope} {pos:Pos} {g:TG} {tc:TT} {te:TE} {k:Nat} {fr:List Nat} {N':List Str} {cl:List (Str×Addr)} {pins:List (Addr×Obj)} {σ:St} {H2:Hp} {s2:Shared}
  {it:Addr} {fp:List Addr} {tn:Nat->Heap->Prop} {J:It} {fin:List V->Hp->Prop} {R0:Result->Shared->Prop} {XE:List (Str×Addr)->Addr->Shared->Hp->List Addr->Value->Shared->Prop}
  (hc:X.calm=true) (S:fF X.N X.env.scope N' scope k fr) (c1:∀x c,cl.lookup x=some c->X.env.cells.lookup x=some c) (c2:∀n,(n,NameKind.free)∈scope.names->∃c,cl.lookup n=some c) (cin:∀x c,(x,c)∈cl->∃y,X.env.cells.lookup y=some c) (PK:∀x,(x,NameKind.cell)∈scope.names->∀c,(x,c)∉cl)
  (hg:∀cl C s H ex,PG (nk X N' scope cl C s H ex) target g) (ht:∀cl C s H ex,HK (nk X N' scope cl C s H ex) ifs tc) (he:∀cl C s H ex,PE ((nk X N' scope cl C s H ex).lC (XE cl C s H ex)) elt te)
  (I2:Inv X pins σ H2 s2) (T:Turn X.prog X.w X.K target J fp it tn) (vC:tn 0 s2.heap) (f2:∀b∈fp,jA X pins H2 b) (hb:fN J g tc te (stC k fr σ) H2 fin)
  (hR:∀(C:Addr),C=(s2.heap.push {cls:=.type "list",dict:=none,data:=.seq ([]:List Value).toArray}).objs.size->∀(s':Shared) (m:Str->Option Value) (ys:List V) (ba:List Value) (n:Nat) (H':Hp),s2.heap.objs.size<C->s'.heap.Ns C m->bq ys ba->ys.length<=sizeLine->s'.heap.get? s2.heap.objs.size=some (fO ba n)->H' s2.heap.objs.size=none->H' C=none->fin ys H'->
   s'.os=s2.os->AllBare s'.gens->Un (gL X.stack) fp H2 H' s2.heap s'.heap->gq X.prog X.w H' s'.heap->R0 (.ok .next) s')
  (hE:∀cl C x s',C=(s2.heap.push {cls:=.type "list",dict:=none,data:=.seq ([]:List Value).toArray}).objs.size->s2.heap.objs.size<C->XE cl C s2 H2 fp x s'->notedBy (model X.prog X.w) X.A (compEnvC scope cl C X.env) (λy vO=>R0 (.error y) vO) x s'):
  codeAny (model X.prog X.w) X.A (.compStart (.ListComp elt [⟨target,iter,ifs,0⟩] scope pos) 0 (.ref it) (.ref s2.heap.objs.size) (compEnvC scope (cellsFrom ((s2.heap.push {cls:=.type "list",dict:=none,data:=.seq ([]:List Value).toArray}).objs.size+1) scope.names cl) (s2.heap.push {cls:=.type "list",dict:=none,data:=.seq ([]:List Value).toArray}).objs.size X.env)) R0 {s2 with heap:=pushCells ((s2.heap.push {cls:=.type "list",dict:=none,data:=.seq ([]:List Value).toArray}).push {cls:=.type "dict",data:=.dict #[]}) scope.names}:=by
 obtain⟨W,⟨m0,w0⟩,turn⟩:=hb;have lt:∀b∈fp,b<s2.heap.objs.size:=λb hb=>by
  obtain⟨o,e,_⟩:=T.obj _ _ vC b hb;exact abm e
 generalize C6:s2.heap.push {cls:=.type "list",dict:=none,data:=.seq ([]:List Value).toArray}=G2 at hR hE ⊢;have J3:G2.objs.size=s2.heap.objs.size+1:=by rw[<-C6,Heap.size_push]
 have Vy:s2.heap.objs.size≠G2.objs.size:=by rw[J3];exact aar (aaZ _)
 have hC:s2.heap.objs.size<=G2.objs.size:=by rw[J3];exact Nat.le_succ _
 have old:∀b o,s2.heap.get? b=some o->(pushCells (G2.push {cls:=.type "dict",data:=.dict #[]}) scope.names).get? b=some o:=λb o e=>by
  refine pushCells_keeps _ _ b o (abk _ ?_);rw[<-C6];exact abk _ e
 have wc:(pushCells (G2.push {cls:=.type "dict",data:=.dict #[]}) scope.names).get? s2.heap.objs.size=some (fO [] 0):=by
  refine pushCells_keeps _ _ _ _ (abk _ ?_);rw[<-C6];exact abl _ rfl
 have Rc:(pushCells (G2.push {cls:=.type "dict",data:=.dict #[]}) scope.names).Ns G2.objs.size λ_=>none:=(Heap.Ns.new G2 (.type "dict")).keeps (pushCells_keeps _ _);have Vz:∀x c,(x,c)∈cl->c<G2.objs.size+1:=λx c m=>by
  obtain⟨y,hy⟩:=cin x c m;obtain⟨v,q⟩:=I2.cell y c hy;rw[J3];exact Nat.lt_succ_of_lt (Nat.lt_succ_of_lt q.lt)
 have B:HI X scope (cellsFrom (G2.objs.size+1) scope.names cl) s2.heap.objs.size G2.objs.size (pushCells (G2.push {cls:=.type "dict",data:=.dict #[]}) scope.names):=by
  have own:=lM scope.names (G2.push {cls:=.type "dict",data:=.dict #[]}) cl;rw[Heap.size_push] at own;refine⟨λx c e=>?_,λx y c hc h1 h2=>?_,λn hn=>?_,λn hn c e=>?_,λx c hx e=>?_⟩
  ·by_cases hx:(x,NameKind.cell)∈scope.names
   ·rcases own x c (aaV e) with m | ⟨q1,q2,_⟩
    ·
     exfalso;exact PK x hx c m
    ·exact .inr ⟨aao hC (Nat.le_of_succ_le q1),q1,q2⟩
   ·rw[gR _ _ _ _ hx] at e;exact .inl (c1 x c e)
  ·exact lN scope.names (G2.objs.size+1) (G2.objs.size+1) cl Vz (λx y c hl m1 _=>absurd (Vz x c m1) (Nat.not_lt.mpr hl)) x y c hc (aaV h1) (aaV h2)
  ·refine Option.isSome_iff_exists.mp (lO _ _ _ n ?_);rcases hn with hn | hn
   ·obtain⟨c,e⟩:=c2 n hn;exact .inr (by rw[e];rfl)
   ·exact .inl hn
  ·have hx:(n,NameKind.cell)∉scope.names:=λm=>by
    have:=(S.HH _ m rfl).1;rw[hn] at this;cases this
   rw[gR _ _ _ _ hx] at e;exact c1 n c e
  ·have hx:=aaV hx;rcases own x c (aaV e) with m | ⟨q1,q2,_⟩
   ·exact absurd m (PK x hx c)
   ·exact aao hC (Nat.le_of_succ_le q1)
 generalize pushCells (G2.push {cls:=.type "dict",data:=.dict #[]}) scope.names=h₁ at *;generalize cellsFrom (G2.objs.size+1) scope.names cl=tM at *;generalize HL:s2.heap.objs.size=D at *;generalize hCc:G2.objs.size=C at *;have fD:H2 D=none:=by rw[<-HL];exact I2.bP.fresh (aag _)
 have cells:∀x c,tM.lookup x=some c->c≠D:=λx c e=>by
  rcases B.old _ _ e with o | o
  ·obtain⟨v,q⟩:=I2.cell x c o;rw[<-HL];exact aar q.lt
  ·exact Nat.ne_of_gt (Nat.lt_trans (by rw[J3];exact aaZ _) o.2.1)
 have loop:∀(Fs:Addr) (s3:Shared),Fs=it->(∃tk,s3={s2 with heap:=h₁,toks:=tk})->
   codeAny (model X.prog X.w) X.A (.compLoop (.ListComp elt [⟨target,iter,ifs,0⟩] scope pos) 0 (.ref Fs) (.ref D) (compEnvC scope tM C X.env)) R0 s3:=by
  rintro Fs s3 rfl ⟨tk,rfl⟩;have I3:Inv (nk X N' scope tM C s2 H2 fp) [] (stC k fr σ) H2 {s2 with heap:=h₁,toks:=tk}:=DM I2 S (by rw[HL];exact B) (by rw[HL];exact hC) f2 (by rw[HL];exact lt) old Rc;have vD:∀{H':Hp} {o:Obj},(∀b∈fp,H' b=none)->∀b∈fp,jA (nk X N' scope tM C s2 H2 fp) [(D,o)] H' b:=λ{H' o} hn b hb=>
   ⟨hn b hb,aar (aaz (lt b hb) hC),λz=>by
    rcases aaB.mp (I2.rj b z) with q | q
    ·exact(f2 b hb).2.1 q
    ·exact(f2 b hb).2.2.1 q,.inl hb,λx c e=>(B.old _ _ e).elim (λo=>(f2 b hb).2.2.2.2.1 x c o) (λo=>Nat.ne_of_gt (aaz (lt b hb) o.1)),λp hp=>by
    have e:p=(D,o):=by simpa [nk] using hp
    rw[e];exact Nat.ne_of_gt (lt b hb)⟩
  have Rf:∀{σ':St} {H':Hp} {s':Shared} {o:Obj},Inv (nk X N' scope tM C s2 H2 fp) [] σ' H' s'->s'.heap.get? D=some o->H' D=none->(∀v,o.data≠.cell v)->Inv (nk X N' scope tM C s2 H2 fp) [(D,o)] σ' H' s':=λ{σ' H' s' o} I' e n hd=>
   I'.jV λp hp=>by
    have q:p=(D,o):=by simpa using hp
    subst q;refine⟨e,n,Vy,λz=>?_,hd⟩;obtain⟨_,ob,ho,_⟩:=I2.stack.mem z;exact absurd (abm ho) (by rw[HL];exact aaK _)
  have XB:∀{ba:List Value} {n:Nat} (v:Option Value),(fO ba n).data≠.cell v:=λv z=>by
   have z:Data.seq _ _=Data.cell v:=z;cases z
  refine iy (λn s'=>∃i ys σ' H' ba DN,Inv (nk X N' scope tM C s2 H2 fp) [] σ' H' s'/\tn i s'.heap/\(∀b∈fp,H' b=none)/\s'.heap.get? D=some (fO ba DN)/\H' D=none/\bq ys ba/\ys.length<=sizeLine/\W i n ys σ' H') ?_ m0
   ⟨0,[],_,H2,[],0,I3,T.keep _ _ _ vC (λb _ o e=>old b o e),λb hb=>(f2 b hb).1,wc,fD,.nil,aah _,w0⟩
  rintro n s4 ⟨i,ys,σ4,H4,ba,DN,I4,VA,VB,XC,VC,PL,VD,w4⟩;have VE:=Rf I4 XC VC XB;rcases turn i n ys σ4 H4 w4 with ⟨stop,qf⟩ | ⟨go,step⟩
  ·refine cK (T.done (nk X N' scope tM C s2 H2 fp) rfl rfl rfl hc i _ s4 σ4 H4 _ VE (vD VB) VA stop) λr s5 ⟨hr,I5⟩=>?_;subst hr;obtain⟨m5,XD,_⟩:=I5.loc;exact hR C rfl s5 m5 ys ba DN H4 (by rw[J3];exact aaZ _) XD PL VD (I5.pin (D,fO ba DN) (aaD _ aas)).1 VC I5.free qf I5.os I5.bare I5.base I5.bP
  ·refine cK (T.item (nk X N' scope tM C s2 H2 fp) rfl rfl rfl hc i _ s4 σ4 H4 _ VE (vD VB) VA go) λr s5 ⟨u,hr,h5⟩=>?_;subst hr;refine cK h5 λ_ s6 dB=>?_;obtain⟨x,H6,I6,r6,y6,Rg,Lr⟩:=dB;have XF:=I6.pinned (vD Lr) (T.obj _ _ Rg);refine cK (hg tM C s2 H2 fp _ s6 σ4 H6 x u _ XF r6 (step x H6 y6)) λ_ s7 ⟨σ7,H7,I7,q7⟩=>?_;refine cK (ht tM C s2 H2 fp _ s7 σ7 H7 _ I7 q7) λok s8 ⟨H8,I8,q8⟩=>?_;have back:∀{σ':St} {H':Hp} {s':Shared},Inv (nk X N' scope tM C s2 H2 fp) ([(D,fO ba DN)]++oi fp s6.heap) σ' H' s'->tn (i+1) s'.heap/\(∀b∈fp,H' b=none)/\s'.heap.get? D=some (fO ba DN)/\H' D=none:=λ{σ' H' s'} I'=>by
    have pD:=I'.pin (D,fO ba DN) (aaD _ (aa1 _ (by simp)));refine⟨T.keep _ _ _ Rg λb hb o e=>(I'.pin (b,o) (aaD _ (aaD _ (gO hb e)))).1,λb hb=>?_,pD.1,pD.2.1⟩;obtain⟨o,e,d⟩:=T.obj _ _ Rg b hb;exact(I'.pin (b,o) (aaD _ (aaD _ (gO hb e)))).2.1
   cases ok with
   | false=>
    rw[if_neg aat];rw[if_neg aat] at q8;obtain⟨m',hm,w8⟩:=q8;obtain⟨b1,b2,b3,b4⟩:=back I8;exact⟨m',hm,i+1,ys,σ7,H8,ba,DN,I8.jV (λp hp=>absurd hp (by simp)),b1,b2,b3,b4,PL,VD,w8⟩
   | true=>
    rw[if_pos rfl];rw[if_pos rfl] at q8;refine wpAny_mono (he tM C s2 H2 fp _ s8 σ7 H8 _ (I8.lC _) q8) (λy s9 ⟨z,H9,I9,r9,mH,m',hm,w9⟩=>?_) λx s' hx=>hE tM C x s' rfl (by rw[J3];exact aaZ _) hx;have I9:=I9.gN;obtain⟨b1,b2,b3,b4⟩:=back I9;have hl:=PL.length;refine call_meets F.slot_list_append ⟨_,b3,rfl⟩ F.entry_list_append (F.args_list_append_2 _ _) (PySem.list_append D ba.toArray DN y (by rw[aaj];lia)) ⟨b3,?_⟩;obtain⟨c',q⟩:∃c',(s9.heap.update D (Obj.mapSeq λx=>x.push y)).get? D=some (fO (ba++ [y]) c'):=by
     have q:=PySem.IsL.update b3 (λx=>x.push y);rw[show ba.toArray.push y=(ba++ [y]).toArray by simp] at q;exact⟨_,q⟩
    have XG:Inv (nk X N' scope tM C s2 H2 fp) [] σ7 H9 s9:=I9.jV (λp hp=>absurd hp (by simp));have kp:∀b o,b≠D->s9.heap.get? b=some o->(s9.heap.update D (Obj.mapSeq λx=>x.push y)).get? b=some o:=λb o hb e=>(Heap.get?_update_other s9.heap (Obj.mapSeq λx=>x.push y) (Ne.symm hb)).trans e;have XH:=XG.turned (t':=s9.toks) (it:=D) (h':=s9.heap.update D (Obj.mapSeq λx=>x.push y)) kp b4 Vy (.inr (by show s2.heap.objs.size<=D;rw[HL];exact aag _)) (λx c e=>cells x c e) (λp hp=>absurd hp (by simp [nk]));refine⟨m',hm,i+1,ys++ [z],σ7,H9,ba++ [y],c',XH,T.keep _ _ _ b1 (λb hb o e=>kp b o (aar (lt b hb)) e),b2,q,b4,PL.append (.cons r9 .nil),?_,w9⟩
    ·rw[aaq,aa6];lia
 exact codeAny_compStart_list (loop it _ rfl ⟨_,rfl⟩) (T.self _ 0 _ _ _ (T.keep _ _ _ vC (λb _ o e=>old b o e)) (loop it _ rfl ⟨_,rfl⟩))
theorem qG {elt target iter:Expr} {ifs:List Expr} {scope:Scope} {pos:Pos} {g:TG} {tc:TT} {te:TE} {k:Nat} {fr:List Nat} {N':List Str} {cl:List (Str×Addr)} {pins:List (Addr×Obj)} {σ:St} {H2:Hp} {s2:Shared}
  {it:Addr} {fp:List Addr} {tn:Nat->Heap->Prop} {J:It} {E:Value->Shared->Prop} {fin:List V->Hp->Prop} {RR:Value->Addr->Result->Shared->Prop} {XE:List (Str×Addr)->Addr->Shared->Hp->List Addr->Value->Shared->Prop}
  (hc:X.calm=true) (S:fF X.N X.env.scope N' scope k fr) (c1:∀x c,cl.lookup x=some c->X.env.cells.lookup x=some c) (c2:∀n,(n,NameKind.free)∈scope.names->∃c,cl.lookup n=some c) (cin:∀x c,(x,c)∈cl->∃y,X.env.cells.lookup y=some c) (PK:∀x,(x,NameKind.cell)∈scope.names->∀c,(x,c)∉cl)
  (hg:∀cl C s H ex,PG (nk X N' scope cl C s H ex) target g) (ht:∀cl C s H ex,HK (nk X N' scope cl C s H ex) ifs tc) (he:∀cl C s H ex,PE ((nk X N' scope cl C s H ex).lC (XE cl C s H ex)) elt te)
  (I2:Inv X pins σ H2 s2) (T:Turn X.prog X.w X.K target J fp it tn) (vC:tn 0 s2.heap) (f2:∀b∈fp,jA X pins H2 b) (hb:fN J g tc te (stC k fr σ) H2 fin)
  (hR:∀(C:Addr) (s':Shared) (m:Str->Option Value) (ys:List V) (ba:List Value) (n:Nat) (H':Hp),s2.heap.objs.size<C->s'.heap.Ns C m->bq ys ba->ys.length<=sizeLine->s'.heap.get? s2.heap.objs.size=some (fO ba n)->H' s2.heap.objs.size=none->H' C=none->fin ys H'->
   s'.os=s2.os->AllBare s'.gens->Un (gL X.stack) fp H2 H' s2.heap s'.heap->gq X.prog X.w H' s'.heap->RR (.ref s2.heap.objs.size) C (.ok .next) s')
  (hE:∀cl C x s',s2.heap.objs.size<C->XE cl C s2 H2 fp x s'->notedBy (model X.prog X.w) X.A (compEnvC scope cl C X.env) (λy vO=>RR (.ref s2.heap.objs.size) C (.error y) vO) x s'):
  wpAny (model X.prog X.w) X.A (newList []) (λacc s₃=>wpAny (model X.prog X.w) X.A (newFunctionEnv scope X.env.globals cl [] X.env.qual none .none (some X.env)) (λLs s₄=>
   codeAny (model X.prog X.w) X.A (.compStart (.ListComp elt [⟨target,iter,ifs,0⟩] scope pos) 0 (.ref it) acc {Ls with scope:=relabel scope X.env}) (RR acc Ls.locals) s₄) E s₃) E s2:=by
 refine wpAny_newObj_type (j6 ?_);exact A8 (R0:=RR _ _) hc S c1 c2 cin PK hg ht he I2 T vC f2 hb (λC e=>by subst e;exact hR _) (λcl C x s' e=>by subst e;exact hE cl _ x s')
theorem comp_back {fp:List Addr} {pins:List (Addr×Obj)} {σ:St} {H2 H':Hp} {s2 s':Shared} {C:Addr} {ys:List V} {ba:List Value} {n:Nat} {h':Heap} (I2:Inv X pins σ H2 s2) (f2:∀b∈fp,jA X pins H2 b) (hC:s2.heap.objs.size<C)
  (vl:bq ys ba) (sz:ys.length<=sizeLine) (hD:s'.heap.get? s2.heap.objs.size=some (fO ba n)) (nD:H' s2.heap.objs.size=none) (nC:H' C=none)
  (os:s'.os=s2.os) (bare:AllBare s'.gens) (un:Un (gL X.stack) fp H2 H' s2.heap s'.heap) (bP:gq X.prog X.w H' s'.heap) (hs:Heap.SameBut C s'.heap h'):
  Inv X pins σ (upd H' s2.heap.objs.size (.lst ys)) {s' with heap:=h'}:=by
 have Rh:∀b o,s2.heap.get? b=some o->b≠C:=λb o e=>aar (Nat.lt_trans (abm e) hC);have XI:∀b o,s2.heap.get? b=some o->b≠s2.heap.objs.size:=λb o e=>aar (abm e);have tk:∀b u,H' b=some u->b≠s2.heap.objs.size:=λb u e z=>by rw[z,nD] at e;cases e
 have tC:∀b u,H' b=some u->b≠C:=λb u e z=>by rw[z,nC] at e;cases e
 have fD:H2 s2.heap.objs.size=none:=I2.bP.fresh (aag _);have t2:∀b u,H2 b=some u->b≠s2.heap.objs.size:=λb u e z=>by rw[z,fD] at e;cases e
 refine I2.KZ (s':={s' with heap:=h'}) (ch:=fp) os ⟨λb o e m hb hx=>?_,λb o e m hb hx=>?_,λb o e m hx=>?_,λb o e hx=>?_,λb xs e=>?_,λb o u e=>?_,λb ps e=>?_⟩ (λb u e=>?_) bare λb hb=>?_
 ·exact(hs.2 b (Rh b o e)).trans (un.keep b o e m hb hx)
 ·obtain⟨sl,q⟩:=un.slot b o e m hb hx;exact⟨sl,(hs.2 b (Rh b o e)).trans q⟩
 ·rw[av (XI b o e)];exact un.free b o e m hx
 ·obtain⟨o',q⟩:=un.there b o e hx;exact⟨o',(hs.2 b (Rh b o e)).trans q⟩
 ·rw[av (t2 b _ e)];exact un.lq b xs e
 ·rw[av (t2 b _ e)];exact un.jU b o u e
 ·obtain⟨mo,q⟩:=un.lA b ps e;exact⟨mo,by rw[av (t2 b _ e)];exact q⟩
 ·by_cases hb:b=s2.heap.objs.size
  ·subst hb;rw[ao] at e;cases e;exact⟨sz,ba,n,vl,(hs.2 _ (aar hC)).trans hD⟩
  ·rw[av hb] at e;exact(bP b u e).qZ (λc v hc q=>(hs.2 c (by
    rcases hc with rfl | hc
    ·exact tC _ _ e
    ·exact tC _ _ hc)).trans q) (λc r=>by rw[av (tk _ _ r)];exact r) λc xs r=>by rw[av (tk _ _ r)];exact r
 ·exact⟨(f2 b hb).2.2.2.1,(f2 b hb).2.1,(f2 b hb).2.2.2.2.1,(f2 b hb).2.2.2.2.2⟩
abbrev tComp (wi:TI) (g:TG) (tc:TT) (te:TE) (k:Nat) (fr:List Nat):TE:=λσ H Q=>wi σ H λJ H1=>fN J g tc te (stC k fr σ) H1 λys H2=>∀D,H1 D=none->H2 D=none->Q (.ref D) (upd H2 D (.lst ys))
theorem cj {elt target iter:Expr} {ifs:List Expr} {scope so:Scope} {pos:Pos} {wi:TI} {g:TG} {tc:TT} {te:TE} {k:Nat} {fr:List Nat} {N N':List Str} (hc:X.calm=true) (hN:X.N=N) (Ri:X.env.scope=so) (S:fF N so N' scope k fr)
  (hi:PI X target iter wi) (hg:∀cl C s H ex,PG (nk X N' scope cl C s H ex) target g) (ht:∀cl C s H ex,HK (nk X N' scope cl C s H ex) ifs tc) (he:∀cl C s H ex,PE (nk X N' scope cl C s H ex) elt te)
  (hs:∀x,foldedSetIterable iter X.env x=pure x:=by intro _;rfl):PE X (.ListComp elt [⟨target,iter,ifs,0⟩] scope pos) (tComp wi g tc te k fr):=by
 subst hN Ri;intro pins s σ H Q I h;rw[eval_ListComp];obtain⟨cl,fY,c1,c2,c3⟩:=ja (env:=X.env) (scope:=scope) λn hn=>I.ok.has n (S.outer _ hn rfl);refine wpAny_comprehension_free (use:=none) (cl:=cl) rfl hs fY S.kind S.locs ?_;refine cK (hi pins s σ H _ I h) λv s1 h1=>cK h1 λFs s2 h2=>?_;obtain⟨it,fp,tn,J,H2,rfl,I2,T,vC,f2,hb⟩:=h2;refine qG (RR:=λacc C=>compPost (model X.prog X.w) X.A X.xe none (EP X pins σ Q) acc C) hc S c1 c2 (λx c m=>⟨x,(c3 x c m).1⟩) (λx hx c m=>(S.HH _ hx rfl).2 (c3 x c m).2) (XE:=λ_ _ _ _ _ _ _=>False) hg ht he I2 T vC f2 hb ?_ (λ_ _ _ _ _ z=>False.elim z);intro C s' m ys ba n H' hC hn vl sz hD nD nC fin os bare un bP;exact⟨m,hn,λh' Lu=>⟨.ref _,_,comp_back I2 f2 hC vl sz hD nD nC os bare un bP Lu,rfl,fin _ (I2.bP.fresh (aag _)) nD⟩⟩
theorem j7 {elt target iter:Expr} {ifs:List Expr} {scope so:Scope} {pos Lv py:Pos} {wi:TI} {g:TG} {tc:TT} {te:TE} {k:Nat} {fr:List Nat} {N N':List Str} {y:Str} {i:Nat} (hc:X.calm=true) (hN:X.N.Nodup) (hy:X.N[i]?=some y) (hl:X.env.scope.names.lookup y=some .local)
  (XJ:X.N=N) (Ri:X.env.scope=so) (S:fF N so N' scope k fr)
  (hi:PI X target iter wi) (hg:∀cl C s H ex,PG (nk X N' scope cl C s H ex) target g) (ht:∀cl C s H ex,HK (nk X N' scope cl C s H ex) ifs tc) (he:∀cl C s H ex,PE (nk X N' scope cl C s H ex) elt te)
  (XM:swapsWith (.ListComp elt [⟨target,iter,ifs,0⟩] scope pos) (some (.Name y py)) Lv.line X.env=pure true:=by rfl)
  (hs:∀x,foldedSetIterable iter X.env x=pure x:=by intro _;rfl):PS X (.Assign [.Name y py] (.ListComp elt [⟨target,iter,ifs,0⟩] scope pos) Lv) (tAsg (tComp wi g tc te k fr) (gName i)):=by
 subst XJ Ri;intro pins s σ H D I h;rw[exec_Assign_Name_used _ _ _ _ XM];obtain⟨cl,fY,c1,c2,c3⟩:=ja (env:=X.env) (scope:=scope) λn hn=>I.ok.has n (S.outer _ hn rfl);refine wpAny_bind (wpAny_standAt (wpAny_bind ?_));show wpAny _ X.A (do let _ <-comprehension (.ListComp elt [⟨target,iter,ifs,0⟩] scope pos) scope X.env _ (newList []) false (eval iter X.env) (some (assign (.Name y py) X.env))) _ _ s;refine wpAny_bind (wpAny_mono (wpAny_comprehension_free (use:=some (assign (.Name y py) X.env)) (Q:=λ_ s'=>SP X pins D .next s') (cl:=cl) rfl hs fY S.kind S.locs ?_) (λ_ s' hq=>wpAny_pure (wpAny_pure hq)) λ_ _ e=>e);refine cK (hi pins s σ H _ I h) λv s1 h1=>cK h1 λFs s2 h2=>?_;obtain⟨it,fp,tn,J,H2,rfl,I2,T,vC,f2,hb⟩:=h2;refine qG (RR:=λacc C=>compPost (model X.prog X.w) X.A X.xe (some (assign (.Name y py) X.env)) (λ_ s'=>SP X pins D .next s') acc C) hc S c1 c2 (λx c m=>⟨x,(c3 x c m).1⟩) (λx hx c m=>(S.HH _ hx rfl).2 (c3 x c m).2) (XE:=λ_ _ _ _ _ _ _=>False) hg ht he I2 T vC f2 hb ?_ (λ_ _ _ _ _ z=>False.elim z);intro C s' m ys ba n H' hC hn vl sz hD nD nC fin os bare un bP;have I3:Inv X pins σ (upd H' s2.heap.objs.size (.lst ys)) s':=comp_back (h':=s'.heap) I2 f2 hC vl sz hD nD nC os bare un bP (.refl ..);refine wpAny_assign_Name (qv (v:=.ref s2.heap.objs.size) I3 hN hy (.inl hl) rfl (λs4 I4 ch=>?_) (.inr hl));have VF:X.env.locals<s2.heap.objs.size:=I2.lt;obtain⟨a,gS,ha⟩:=ch;have aC:a≠C:=by
  rcases ha with rfl | ha
  ·exact aar (Nat.lt_trans VF hC)
  ·obtain⟨v,q⟩:=I2.cell _ _ ha;exact aar (Nat.lt_trans q.lt hC)
 refine⟨m,hn.sameBut gS (Ne.symm aC),λh' Lu=>⟨_,_,?_,fin _ (I2.bP.fresh (aag _)) nD⟩⟩;have XN:(upd H' s2.heap.objs.size (.lst ys)) C=none:=by rw[av (Nat.ne_of_gt hC)];exact nC
 exact I4.turned (t':=s4.toks) (it:=C) (h':=h') (λb o hb e=>(Lu.2 b hb).trans e) XN (Nat.ne_of_gt (Nat.lt_trans VF hC)) (.inr (aao I2.sz (Nat.le_of_lt hC))) (λx c e z=>by
  obtain⟨v,q⟩:=I2.cell x c e;exact absurd (Nat.lt_trans q.lt hC) (by rw[z];exact aaK _)) (λp hp z=>by
  have:=abm (I2.pin p hp).1;rw[z] at this;exact absurd (Nat.lt_trans this hC) (aaK _))
end
structure Src (J:It) (Ok:Hp->Prop) (n:Nat) (Item:Nat->V->Hp->Hp->Prop):Prop where
 go:∀i H,i<n->Ok H->J.go i H
 y7:∀i H x H3,i<n->Ok H->J.y7 i H x H3->Item i x H H3
 stop:∀H,Ok H->J.stop n H
theorem src_list {K:aba} {a:Addr} {xs:List V} {Ok:Hp->Prop} (h:∀H,Ok H->bC K H a xs):Src (vj K a) Ok xs.length (λi x H H3=>H3=H/\xs[i]?=some x) where
 go:=λi H hi ok=>⟨xs,xs[i],h H ok,by simp [hi]⟩
 y7:=λi H x H3 hi ok ⟨e,y⟩=>⟨e,y xs (h H ok)⟩
 stop:=λH ok=>⟨xs,h H ok,aag _⟩
theorem src_range {lo:Int} {n:Nat} {Ok:Hp->Prop}:Src (K4 lo n) Ok n (λi x H H3=>H3=H/\x=.int (lo+i)) where
 go:=λ_ _ hi _=>hi
 y7:=λ_ _ _ _ _ _ y=>y
 stop:=λ_ _=>aag _
theorem gy {J:It} {g:TG} {tc:TT} {te:TE} {σ0:St} {H1:Hp} {fin:List V->Hp->Prop} {n:Nat} {Item:Nat->V->Hp->Hp->Prop} (S:Src J (aw H1) n Item) (HM:St->Prop) (h0:HM σ0) (P:Nat->List V->Hp->Prop) (p0:P 0 [] H1) (hz:n<=sizeLine)
  (hs:∀i x σ H ys H3 (Q:St->V->Hp->Prop) (N:St->Hp->Prop),i<n->aw H1 H->P i ys H->ys.length<=i->HM σ->Item i x H H3->
   (∀σ3 y H6,HM σ3->aw H1 H6->P (i+1) (ys++ [y]) H6->Q σ3 y H6)->(∀σ3 H5,HM σ3->aw H1 H5->P (i+1) ys H5->N σ3 H5)->
   g x σ H3 λσ3 H4=>tc σ3 H4 λb H5=>if b=true then te σ3 H5 λy H6=>Q σ3 y H6 else N σ3 H5)
  (lP:∀ys H,aw H1 H->P n ys H->ys.length<=n->fin ys H):fN J g tc te σ0 H1 fin:=by
 refine⟨λi m ys σ H=>m=n - i/\i<=n/\ys.length<=i/\HM σ/\aw H1 H/\P i ys H,⟨n,by simp,aah _,aag _,h0,aw.refl _,p0⟩,?_⟩;rintro i m ys σ H ⟨rfl,hi,hl,ow,sm,p⟩
 by_cases mH:i<n
 ·refine .inr ⟨S.go i H mH sm,λx H3 y=>hs i x σ H ys H3 (λσ3 y H6=>ys.length<sizeLine/\∃m',m'<n - i/\m'=n - (i+1)/\i+1<=n/\(ys++ [y]).length<=i+1/\HM σ3/\aw H1 H6/\P (i+1) (ys++ [y]) H6)
   (λσ3 H5=>∃m',m'<n - i/\m'=n - (i+1)/\i+1<=n/\ys.length<=i+1/\HM σ3/\aw H1 H5/\P (i+1) ys H5) mH sm p hl ow (S.y7 i H x H3 mH sm y) (λσ3 y H6 o s6 q=>?_) (λσ3 H5 o s5 q=>?_)⟩
  ·exact⟨⋯,n - (i+1),⋯,rfl,mH,by rw[aaq,aa6];lia,o,s6,q⟩
  ·exact⟨n - (i+1),⋯,rfl,mH,⋯,o,s5,q⟩
 ·have e:i=n:=⋯
  subst e;exact .inl ⟨S.stop H sm,lP ys H sm p hl⟩
theorem comp_map {J:It} {te:TE} {tl:St} {H1:Hp} {fin:List V->Hp->Prop} {n:Nat} {Item:Nat->V->Hp->Hp->Prop} (S:Src J (aw H1) n Item) (sub:∀i x H H3,Item i x H H3->aw H H3) (hz:n<=sizeLine)
  (R:Nat->V->Hp->Prop) (mono:∀i y H H',aw H H'->R i y H->R i y H')
  (hs:∀i x w H H3 (Q:VK),i<n->aw H1 H->Item i x H H3->(∀y H6,aw H3 H6->R i y H6->Q y H6)->te ((w::tl).set 0 (some x)) H3 Q)
  (lP:∀ys H,aw H1 H->ys.length=n->(∀i y,ys[i]?=some y->R i y H)->fin ys H):fN J (gName 0) pP te (none::tl) H1 fin:=by
 refine⟨λi m ys σ H=>m=n - i/\i<=n/\ys.length=i/\(∃w,σ=w::tl)/\aw H1 H/\∀j y,ys[j]?=some y->R j y H,⟨n,by simp,aah _,rfl,⟨_,rfl⟩,aw.refl _,λj y e=>by simp at e⟩,?_⟩;rintro i m ys σ H ⟨rfl,hi,hl,⟨w,rfl⟩,sm,p⟩
 by_cases mH:i<n
 ·refine .inr ⟨S.go i H mH sm,λx H3 y=>?_⟩;have it:=S.y7 i H x H3 mH sm y;have s3:=sub i x H H3 it;unfold gName pP;refine AO ?_;refine hs i x w H H3 _ mH sm it λy H6 s6 r=>⟨⋯,n - (i+1),⋯,rfl,mH,by rw[aaq,aa6];lia,⟨_,rfl⟩,sm.trans (s3.trans s6),λj z e=>?_⟩
  by_cases hj:j<i
  ·rw[List.getElem?_append_left ⋯] at e;exact mono j z _ _ (s3.trans s6) (p j z e)
  ·rw[List.getElem?_append_right ⋯] at e;have e2:j - ys.length=0:=by
    by_cases q:j - ys.length=0
    ·exact q
    ·rw[List.getElem?_eq_none (by simp;lia)] at e;cases e
   rw[e2] at e;simp at e;subst e;have:j=i:=⋯
   subst this;exact r
 ·have e:i=n:=⋯
  subst e;exact .inl ⟨S.stop H sm,lP ys H sm hl p⟩
abbrev FA (J:It) (g:TG) (tb:TS) (D:Ends) (σ:St) (H:Hp):Prop:=
 ∃W:Nat->Nat->St->Hp->Prop,(∃m,W 0 m σ H)/\∀i m σ H,W i m σ H->
  (J.stop i H/\D.nx σ H)\/(J.go i H/\∃N:St->Hp->Prop,(∀σ' H',N σ' H'->∃m',m'<m/\W (i+1) m' σ' H')/\∀x H',J.y7 i H x H'->g x σ H' λσ2 H2=>tb {D with nx:=N,ct:=N,bk:=D.nx} σ2 H2)
theorem tFor_eq {wi:TI} {g:TG} {tb:TS} {D:Ends} {σ:St} {H:Hp}:K5 wi g tb D σ H=wi σ H λJ H1=>FA J g tb D σ H1:=rfl
theorem bJ {J:It} {g:TG} {tb:TS} {D:Ends} {σ:St} {H:Hp} {n:Nat} {Item:Nat->V->Hp->Hp->Prop} {Ok:Hp->Prop} (S:Src J Ok n Item) (Pv:Nat->St->Hp->Prop) (h0:Pv 0 σ H) (bP:∀i σ H,i<=n->Pv i σ H->Ok H)
  (hs:∀i x σ H H3,i<n->Pv i σ H->Item i x H H3->g x σ H3 λσ2 H2=>tb {D with nx:=Pv (i+1),ct:=Pv (i+1),bk:=D.nx} σ2 H2) (hd:∀σ H,Pv n σ H->D.nx σ H):FA J g tb D σ H:=by
 refine⟨λi m σ H=>m=n - i/\i<=n/\Pv i σ H,⟨n,by simp,aah _,h0⟩,?_⟩;rintro i m σ H ⟨rfl,hi,p⟩
 by_cases mH:i<n
 ·exact .inr ⟨S.go i H mH (bP i σ H hi p),Pv (i+1),λσ' H' p'=>⟨n - (i+1),⋯,rfl,mH,p'⟩,λx H' y=>hs i x σ H H' mH p (S.y7 i H x H' mH (bP i σ H hi p) y)⟩
 ·have e:i=n:=⋯
  subst e;exact .inl ⟨S.stop H (bP i σ H hi p),hd σ H p⟩
section
variable {X : Cx} {pins : List (Addr × Obj)} {σ : St} {H : Hp} {s : Shared}
theorem Inv.moved {h':Heap} {t':Nat} {ch:List Addr} (I:Inv X pins σ H s) (f:∀b∈ch,jA X pins H b) (k:∀b o,b∉ch->s.heap.get? b=some o->h'.get? b=some o):Inv X pins σ H {s with heap:=h',toks:=t'}:=by
 have Fm:∀b u,H b=some u->b∉ch:=λb u e z=>by rw[(f b z).1] at e;cases e
 refine I.step (g':=s.gens) (d':=s.drawn) (ch:=ch) (λb hb=>⟨(f b hb).2.2.2.1,(f b hb).2.1,(f b hb).2.2.2.2.1,(f b hb).2.2.2.2.2⟩) (λb o _ _ hc e _=>k b o hc e) (λb o _ _ hc e _=>⟨o.slots,k b o hc e⟩) (λ_ _ _ _ n=>n)
  (λb o hc e=>⟨o,k b o hc e⟩) (λ_ _ e=>e) (λ_ _ _ e=>e) (λb ps e=>⟨#[],by rw[e];simp⟩) (λm hm=>?_) (λb u e=>?_) I.bare
 ·obtain⟨o,es,ep,ho,r⟩:=hm;exact⟨o,es,ep,k _ o (λz=>(f _ z).2.1 rfl) ho,r⟩
 ·refine(I.bP b u e).qZ (λc v hc q=>k c v ?_ q) (λ_ q=>q) λ_ _ q=>q;rcases hc with z | z
  ·rw[z];exact Fm b u e
  ·exact Fm c _ z
theorem Inv.take {ad:Addr} {o:HO} (I:Inv X pins σ H s) (f:jA X pins H ad) (new:X.s₀.heap.objs.size<=ad) (ok:cf X.prog X.w (upd H ad o) s.heap ad o):Inv X pins σ (upd H ad o) s:=by
 obtain⟨hn,nL,nf,_,nc,np⟩:=f;have tk:∀b u,H b=some u->b≠ad:=λb u e z=>by rw[z,hn] at e;cases e
 refine⟨I.ok,I.os,I.bare,⟨I.base.keep,I.base.slot,λb ob e m hx=>?_,I.base.there,λb xs e=>?_,λb ob u e=>?_,λb ps e=>?_⟩,I.loc,I.cell,?_,λx c e=>?_,λp hp=>?_,λb u e=>?_,I.len⟩
 ·rw[av (aar (aaz (abm e) new))];exact I.base.free b ob e m hx
 ·have q:=I.base.lq b xs e;rw[av (tk b _ q)];exact q
 ·have q:=I.base.jU b ob u e;rw[av (tk b _ q)];exact q
 ·obtain⟨mo,q⟩:=I.base.lA b ps e;exact⟨mo,by rw[av (tk b _ q)];exact q⟩
 ·rw[av (Ne.symm nL)];exact I.free
 ·rw[av (nc x c e)];exact I.ig x c e
 ·obtain⟨a,b,c⟩:=I.pin p hp;exact⟨a,by rw[av (np p hp)];exact b,c⟩
 ·by_cases hb:b=ad
  ·subst hb;rw[ao] at e;cases e;exact ok
  ·rw[av hb] at e;exact(I.bP b u e).qZ (λ_ _ _ q=>q) (λc r=>by rw[av (tk _ _ r)];exact r) λc xs r=>by rw[av (tk _ _ r)];exact r
end
abbrev XO (K:aba) (a b:Addr):It:=
 ⟨λi H=>∃xs ys x y,bC K H a xs/\bC K H b ys/\xs[i]?=some x/\ys[i]?=some y,
  λi H v H'=>∃p,H p=none/\v=.ref p/\∃x y,(∀xs,bC K H a xs->xs[i]?=some x)/\(∀ys,bC K H b ys->ys[i]?=some y)/\H'=upd H p (.tup [x,y]),
  λi H=>∃xs ys,bC K H a xs/\bC K H b ys/\(i=min xs.length ys.length)⟩
abbrev Rj (K:aba) (a:Addr):It:=
 ⟨λi H=>∃xs x,bC K H a xs/\xs[i]?=some x,
  λi H v H'=>∃p,H p=none/\v=.ref p/\∃x,(∀xs,bC K H a xs->xs[i]?=some x)/\H'=upd H p (.tup [.int i,x]),
  λi H=>∃xs,bC K H a xs/\xs.length=i⟩
theorem zu {P:Program} {w:World} {K:aba} {elts:List Expr} {k:Nat} {pos:Pos} (e it a:Addr) (VG:e≠it) (hle:a≠e) (VH:a≠it):
  Turn P w K (.Tuple elts k pos) (Rj K a) [e,it] e (λi h=>(∃old,IsEnum h e it i old)/\h.IsListIter it a i) where
 mem:=by simp
 obj:=λi h st c hc=>by
  obtain⟨⟨old,he⟩,⟨o1,e1,_,d1⟩⟩:=st;simp only[aaB,aaO,or_false] at hc;rcases hc with rfl | rfl
  ·exact⟨_,he,λv q=>by cases q⟩
  ·exact⟨_,e1,λv q=>by rw[d1] at q;cases q⟩
 keep:=λi h h' st kp=>by
  obtain⟨⟨old,he⟩,h1⟩:=st;exact⟨⟨old,kp e (by simp) _ he⟩,h1.at λo q=>kp it (by simp) o q⟩
 item:=by
  intro X hP hw hK hc i pins s σ H E I hf st hg;subst hP hw hK;obtain⟨xs,x,FC,hx⟩:=hg;obtain⟨we,r1,p1,z1⟩:=I.list FC;obtain⟨u,eu,ru⟩:=r1.get hx;obtain⟨he,h1⟩:=st;have W:=WalksT.enumerate (prog:=X.prog) (w:=X.w) (I.ok.hd hc) e it a VG hle VH we.toArray;have li:i<we.toArray.size:=by
   have a1:=(abh.mp eu).1;simp only[aaj];lia
  refine W.item i s _ _ li ⟨he,h1,p1.isList⟩ λT vals h' tk XQ hT hI hm kk=>?_;have I1:Inv X pins σ H {s with heap:=h',toks:=tk}:=I.moved (ch:=[e,it]) hf kk;have fT:jA X pins H T:=I.Dl hT (I.bP.fresh hT);refine⟨_,rfl,W.go elts k pos i T _ _ _ hm λRk vC VI=>?_⟩;have I2:Inv X pins σ H {s with heap:=Rk,toks:=tk}:=I1.moved (s:={s with heap:=h',toks:=tk}) (t':=tk) (ch:=[e,it]) hf VI;obtain⟨t,x',ex,rfl⟩:=XQ;have QE:we[i]?=some x':=by simpa using ex
  rw[eu] at QE;cases QE;have XR:=W.apart _ _ _ hm;obtain⟨oT,eT,cT,nT,dT⟩:=hI;have XS:IsTup Rk T #[.int i t,u]:=⟨oT,VI _ _ XR eT,cT,nT,dT⟩
  have I3:Inv X pins σ (upd H T (.tup [.int i,x])) {s with heap:=Rk,toks:=tk}:=
   I2.take fT (aao I.sz hT) ⟨by show 2<=sizeLine;decide,[.int i t,u],.cons ⟨t,rfl⟩ (.cons ru .nil),XS⟩
  obtain⟨b1,b2,_⟩:=vC;refine⟨.ref T,_,I3,rfl,⟨T,fT.1,rfl,x,λVJ q=>?_,rfl⟩,⟨b1,b2⟩,λc hc=>?_⟩
  ·rw[I.tX q FC];exact hx
  ·rw[av (λq=>?_)]
   ·exact(hf c hc).1
   ·subst q;obtain⟨o,e,_⟩:∃o,s.heap.get? c=some o/\True:=by
     simp only[aaB,aaO,or_false] at hc;obtain⟨old,he⟩:=he;obtain⟨o1,e1,_⟩:=h1;rcases hc with rfl | rfl
     ·exact⟨_,he,trivial⟩
     ·exact⟨_,e1,trivial⟩
    exact absurd (abm e) (Nat.not_lt.mpr hT)
 done:=by
  intro X hP hw hK hc i pins s σ H E I hf st hg;subst hP hw hK;obtain⟨xs,FC,hi⟩:=hg;obtain⟨we,r1,p1,z1⟩:=I.list FC;obtain⟨he,h1⟩:=st;have W:=WalksT.enumerate (prog:=X.prog) (w:=X.w) (I.ok.hd hc) e it a VG hle VH we.toArray;have l1:=r1.length;have e:i=we.toArray.size:=by simp only[aaj];lia
  subst e;exact W.done s _ _ ⟨he,h1,p1.isList⟩ λh' tk kk=>⟨rfl,I.moved (ch:=[_,it]) hf kk⟩
 self:=λ_ _ _ _ _ st h=>by
  obtain⟨⟨old,he⟩,_⟩:=st;exact wpAny_pyIter_enum he h
section
variable {X : Cx} {elts : List Expr} {kk : Nat} {nh : Pos}
abbrev iZip (K:aba) (ta:TA):TI:=λσ H R=>ta σ H λvs H1=>∃a b,vs=[.ref a,.ref b]/\(∃xs,bC K H1 a xs)/\(∃ys,bC K H1 b ys)/\R (XO K a b) H1
abbrev iEnum (K:aba) (ta:TA):TI:=λσ H R=>ta σ H λvs H1=>∃a,vs=[.ref a]/\(∃xs,bC K H1 a xs)/\R (Rj K a) H1
theorem rM {a:Expr} {ta:TA} {p pos:Pos} (hg:Gl X "enumerate") (hm:X.mg "enumerate"=none) (ha:PA X [a] ta) (hs:starEach [a] X.env=[(false,eval a X.env)]:=by rfl):
  PI X (.Tuple elts kk nh) (.Call (.Name "enumerate" p) [a] [] pos) (iEnum X.K ta):=by
 intro pins s σ H R I h;refine Call_ (gk I hg hm rfl (aa8 (cK (ha pos pins s σ H _ I h) λus s1 dB=>?_) hs rfl));obtain⟨vs,H1,I1,r1,q1⟩:=dB;obtain⟨a,e,⟨xs,q1⟩,q⟩:=q1;subst e;obtain⟨u,rfl,ra⟩:=vals1 r1;cases ra;obtain⟨we,v1,p1,z1⟩:=I1.list q1;refine call_enumerate_list p1.isList λh' b1 b2 b3 kp=>?_;refine wpAny_pyIter_enum b1 ?_;have I2:Inv X pins σ H1 {s1 with heap:=h'}:=I1.kept (t':=s1.toks) kp;have la:a<s1.heap.objs.size:=by obtain⟨o,e,_⟩:=p1.isList;exact abm e
 refine⟨s1.heap.objs.size+1,[s1.heap.objs.size+1,s1.heap.objs.size],_,_,H1,rfl,I2,
  zu (s1.heap.objs.size+1) s1.heap.objs.size a (Nat.ne_of_gt (aaZ _)) (aar (Nat.lt_succ_of_lt la)) (aar la),⟨⟨_,b1⟩,b2⟩,λc hc=>?_,q⟩
 have VL:s1.heap.objs.size<=c:=by
  simp only[aaB,aaO,or_false] at hc;rcases hc with rfl | rfl <;>lia
 exact I1.Dl VL (I1.bP.fresh VL)
end
theorem A9 {K:aba} {a:Addr} {xs:List V} {Ok:Hp->Prop} (h1:∀H,Ok H->bC K H a xs):
  Src (Rj K a) Ok xs.length (λi v H H3=>∃p x,H p=none/\v=.ref p/\xs[i]?=some x/\H3=upd H p (.tup [.int i,x])) where
 go:=λi H hi ok=>⟨xs,xs[i],h1 H ok,by simp [hi]⟩
 y7:=λi H x H3 hi ok ⟨p,n,e,u,e1,e3⟩=>⟨p,u,n,e,e1 xs (h1 H ok),e3⟩
 stop:=λH ok=>⟨xs,h1 H ok,rfl⟩
inductive Dat where
 | cU | bl (b:Bool) | int (i:Int) | str (x:Str) | tup (l:List Dat) | lst (l:List Dat)
mutual
noncomputable def Rep (H:Hp):Dat->V->Prop
 | .cU,v=>v=.cU
 | .bl b,v=>v=.bl b
 | .int i,v=>v=.int i
 | .str x,v=>v=.str x
 | .tup ds,v=>∃p vs,v=.ref p/\H p=some (.tup vs)/\a7 H ds vs
 | .lst ds,v=>∃p vs,v=.ref p/\H p=some (.lst vs)/\a7 H ds vs
noncomputable def a7 (H:Hp):List Dat->List V->Prop
 | [],vs=>vs=[]
 | d::ds,vs=>∃v r,vs=v::r/\Rep H d v/\a7 H ds r
end
mutual
theorem Rep.mono {H H':Hp} (s:aw H H'):∀{d:Dat} {v:V},Rep H d v->Rep H' d v
 | .cU,_,h=>by rw[Rep] at *;exact h
 | .bl _,_,h=>by rw[Rep] at *;exact h
 | .int _,_,h=>by rw[Rep] at *;exact h
 | .str _,_,h=>by rw[Rep] at *;exact h
 | .tup _,_,h=>by
  rw[Rep] at *;obtain⟨p,vs,e,hp,r⟩:=h;exact⟨p,vs,e,s _ _ hp,a7.mono s r⟩
 | .lst _,_,h=>by
  rw[Rep] at *;obtain⟨p,vs,e,hp,r⟩:=h;exact⟨p,vs,e,s _ _ hp,a7.mono s r⟩
theorem a7.mono {H H':Hp} (s:aw H H'):∀{ds:List Dat} {vs:List V},a7 H ds vs->a7 H' ds vs
 | [],_,h=>by rw[a7] at *;exact h
 | _::_,_,h=>by
  rw[a7] at *;obtain⟨v,r,e,h1,h2⟩:=h;exact⟨v,r,e,Rep.mono s h1,a7.mono s h2⟩
end
theorem a7.length {H:Hp}:∀{ds:List Dat} {vs:List V},a7 H ds vs->ds.length=vs.length
 | [],_,h=>by rw[a7] at h;subst h;rfl
 | _::_,_,h=>by
  rw[a7] at h;obtain⟨v,r,rfl,_,h2⟩:=h;simp [h2.length]
theorem a7.get {H:Hp}:∀{ds:List Dat} {vs:List V} {i:Nat} {v:V},a7 H ds vs->vs[i]?=some v->∃d,ds[i]?=some d/\Rep H d v
 | [],_,i,v,h,e=>by rw[a7] at h;subst h;simp at e
 | d::ds,_,i,v,h,e=>by
  rw[a7] at h;obtain⟨v',r,rfl,h1,h2⟩:=h;cases i with
  | zero=>simp at e;subst e;exact⟨d,rfl,h1⟩
  | succ i=>simp at e;obtain⟨d',e',r'⟩:=h2.get e;exact⟨d',by simpa using e',r'⟩
theorem a7.at {H:Hp}:∀{ds:List Dat} {vs:List V} {i:Nat} {d:Dat},a7 H ds vs->ds[i]?=some d->∃v,vs[i]?=some v/\Rep H d v
 | [],_,i,v,h,e=>by simp at e
 | d::ds,_,i,d',h,e=>by
  rw[a7] at h;obtain⟨v',r,rfl,h1,h2⟩:=h;cases i with
  | zero=>simp at e;subst e;exact⟨v',rfl,h1⟩
  | succ i=>simp at e;obtain⟨v,e',r'⟩:=h2.at e;exact⟨v,by simpa using e',r'⟩
theorem a7.of {H:Hp}:∀{ds:List Dat} {vs:List V},ds.length=vs.length->(∀(i:Nat) d v,ds[i]?=some d->vs[i]?=some v->Rep H d v)->a7 H ds vs
 | [],[],_,_=>by rw[a7]
 | [],_::_,h,_=>by simp at h
 | _::_,[],h,_=>by simp at h
 | d::ds,v::vs,h,k=>by
  rw[a7];exact⟨v,vs,rfl,k 0 d v rfl rfl,a7.of (by simpa using h) λi d' v' e1 e2=>k (i+1) d' v' (by simpa using e1) (by simpa using e2)⟩
theorem a7.append {H:Hp}:∀{as bs:List Dat} {us vs:List V},a7 H as us->a7 H bs vs->a7 H (as++bs) (us++vs)
 | [],_,_,_,h,k=>by rw[a7] at h;subst h;exact k
 | _::_,_,_,_,h,k=>by
  rw[a7] at h;obtain⟨v,r,rfl,h1,h2⟩:=h;show a7 H (_::(_++_)) (_::(_++_));rw[a7];exact⟨_,_,rfl,h1,h2.append k⟩
abbrev depth:Dat->Nat
 | .tup l=>1+dL l
 | .lst l=>1+dL l
 | _=>0
where dL:List Dat->Nat
 | []=>0
 | d::ds=>max (depth d) (dL ds)
theorem gz {d:Dat}:∀{ds:List Dat},d∈ds->depth d<=depth.dL ds
 | e::ds,h=>by
  rw[depth.dL];rcases aaB.mp h with rfl | h
  ·exact Nat.le_max_left _ _
  ·exact aao (gz h) (Nat.le_max_right _ _)
section
variable {X : Cx} {pins : List (Addr × Obj)} {σ : St} {H : Hp} {s : Shared}
theorem all_true (n:Nat):((List.range n).all λ_=>true)=true:=by simp
theorem Ba (I:Inv X pins σ H s):∀(n:Nat) (d:Dat),depth d<=n->∀(v v':V) (u u':Value) (A:Around),Rep H d v->Rep H d v'->RelV v u->RelV v' u'->A.units+n<cLine->SeqAt.EqAt A s u u' true:=by
 intro n
 induction n with
 | zero=>
  intro d hd v v' u u' A h h' r r' hu;cases d with
  | cU=>rw[Rep] at h h';subst h h';cases r;cases r';exact SeqAt.EqAt.same _
  | bl b=>rw[Rep] at h h';subst h h';cases r;cases r';exact SeqAt.EqAt.same _
  | int i=>rw[Rep] at h h';subst h h';obtain⟨t,rfl⟩:=r;obtain⟨t',rfl⟩:=r';have:=SeqAt.EqAt.int_int (A:=A) (s:=s) i t i t';simpa using this
  | str x=>rw[Rep] at h h';subst h h';obtain⟨t,rfl⟩:=r;obtain⟨t',rfl⟩:=r';have:=SeqAt.EqAt.str_str (A:=A) (s:=s) x t x t';simpa using this
  | tup l=>rw[depth] at hd;lia
  | lst l=>rw[depth] at hd;lia
 | succ n ih=>
  intro d hd v v' u u' A h h' r r' hu;cases d with
  | cU=>rw[Rep] at h h';subst h h';cases r;cases r';exact SeqAt.EqAt.same _
  | bl b=>rw[Rep] at h h';subst h h';cases r;cases r';exact SeqAt.EqAt.same _
  | int i=>rw[Rep] at h h';subst h h';obtain⟨t,rfl⟩:=r;obtain⟨t',rfl⟩:=r';have:=SeqAt.EqAt.int_int (A:=A) (s:=s) i t i t';simpa using this
  | str x=>rw[Rep] at h h';subst h h';obtain⟨t,rfl⟩:=r;obtain⟨t',rfl⟩:=r';have:=SeqAt.EqAt.str_str (A:=A) (s:=s) x t x t';simpa using this
  | tup l=>
   rw[Rep] at h h';obtain⟨p,vs,rfl,hp,rl⟩:=h;obtain⟨p',vk,rfl,pQ,Bb⟩:=h';cases r;cases r';rw[depth] at hd
   by_cases Lx:p=p'
   ·subst Lx;exact SeqAt.EqAt.same _
   obtain⟨ba,rv,pl,hz⟩:=I.tuple (iP.of hp);obtain⟨its',Bc,vm,Rl⟩:=I.tuple (iP.of pQ);have e1:=rl.length;have e2:=Bb.length;have l1:=rv.length;have l2:=Bc.length;have R:=SeqAt.RcAt.tuples (A:=A) (e:=λ_=>true) pl vm ⋯ (λj h1 h2=>?_)
   ·simp only[aaj,all_true,Bool.true_and] at R;rw[show(ba.length==its'.length)=true by simp;lia] at R;exact .of_refs Lx R
   ·rw[aaj] at h1 h2;obtain⟨d,ed⟩:∃d,l[j]?=some d:=⟨l[j]'⋯,by simp⟩
    obtain⟨v1,f1,q1⟩:=rl.at ed;obtain⟨v2,f2,q2⟩:=Bb.at ed;obtain⟨u1,g1,w1⟩:=rv.get f1;obtain⟨u2,g2,w2⟩:=Bc.get f2;have a1:ba.toArray[j]=u1:=by simpa [aai h1] using g1
    have a2:its'.toArray[j]=u2:=by simpa [aai h2] using g2
    rw[a1,a2];have:=gz (aan ed);exact ih d ⋯ v1 v2 u1 u2 A.in1 q1 q2 w1 w2 (by show A.units+1+n<cLine;lia)
  | lst l=>
   rw[Rep] at h h';obtain⟨p,vs,rfl,hp,rl⟩:=h;obtain⟨p',vk,rfl,pQ,Bb⟩:=h';cases r;cases r';rw[depth] at hd
   by_cases Lx:p=p'
   ·subst Lx;exact SeqAt.EqAt.same _
   obtain⟨ba,rv,pl,hz⟩:=I.list (bC.of hp);obtain⟨its',Bc,vm,Rl⟩:=I.list (bC.of pQ);have e1:=rl.length;have e2:=Bb.length;have l1:=rv.length;have l2:=Bc.length;have R:=SeqAt.RcAt.lists (A:=A) (e:=λ_=>true) pl.isList vm.isList (by simp only[aaj];lia) ⋯ (λj h1 h2=>?_)
   ·rw[all_true] at R;exact .of_refs Lx R
   ·rw[aaj] at h1 h2;obtain⟨d,ed⟩:∃d,l[j]?=some d:=⟨l[j]'⋯,by simp⟩
    obtain⟨v1,f1,q1⟩:=rl.at ed;obtain⟨v2,f2,q2⟩:=Bb.at ed;obtain⟨u1,g1,w1⟩:=rv.get f1;obtain⟨u2,g2,w2⟩:=Bc.get f2;have a1:ba.toArray[j]=u1:=by simpa [aai h1] using g1
    have a2:its'.toArray[j]=u2:=by simpa [aai h2] using g2
    rw[a1,a2];have:=gz (aan ed);exact ih d ⋯ v1 v2 u1 u2 A.in1 q1 q2 w1 w2 (by show A.units+1+n<cLine;lia)
end
section
variable {X : Cx}
abbrev Ly (b:Bool):R2:=λx y H Q=>∃d,Rep H d x/\Rep H d y/\(∃p,x=.ref p)/\depth d<=40/\Q (.bl b) H
theorem HN {pins:List (Addr×Obj)} {σ:St} {H:Hp} {s:Shared} {d:Dat} {p p':Addr} (I:Inv X pins σ H s) (hu:X.A.units+64<cLine) (h:Rep H d (.ref p)) (h':Rep H d (.ref p')) (hd:depth d<=40):
  (∃ba its':List Value,IsTup s.heap p ba.toArray/\IsTup s.heap p' its'.toArray/\ba.length=its'.length/\∀j (h1:j<ba.toArray.size) (h2:j<its'.toArray.size),SeqAt.EqAt X.A.in1 s ba.toArray[j] its'.toArray[j] true)\/
  (∃ba its':List Value,s.heap.IsList p ba.toArray/\s.heap.IsList p' its'.toArray/\ba.length=its'.length/\∀j (h1:j<ba.toArray.size) (h2:j<its'.toArray.size),SeqAt.EqAt X.A.in1 s ba.toArray[j] its'.toArray[j] true):=by
 cases d with
 | cU=>rw[Rep] at h;cases h
 | bl b=>rw[Rep] at h;cases h
 | int i=>rw[Rep] at h;cases h
 | str x=>rw[Rep] at h;cases h
 | tup l=>
  left
  rw[Rep] at h h';obtain⟨_,vs,e,hp,rl⟩:=h;cases e;obtain⟨_,vk,e,pQ,Bb⟩:=h';cases e;rw[depth] at hd;obtain⟨ba,rv,pl,hz⟩:=I.tuple (iP.of hp);obtain⟨its',Bc,vm,Rl⟩:=I.tuple (iP.of pQ);have e1:=rl.length;have e2:=Bb.length;have l1:=rv.length;have l2:=Bc.length;refine⟨ba,its',pl,vm,⋯,λj h1 h2=>?_⟩;rw[aaj] at h1 h2;obtain⟨d,ed⟩:∃d,l[j]?=some d:=⟨l[j]'⋯,by simp⟩
  obtain⟨v1,f1,q1⟩:=rl.at ed;obtain⟨v2,f2,q2⟩:=Bb.at ed;obtain⟨u1,g1,w1⟩:=rv.get f1;obtain⟨u2,g2,w2⟩:=Bc.get f2;have a1:ba.toArray[j]=u1:=by simpa [aai h1] using g1
  have a2:its'.toArray[j]=u2:=by simpa [aai h2] using g2
  rw[a1,a2];have:=gz (aan ed);exact Ba I 40 d ⋯ v1 v2 u1 u2 X.A.in1 q1 q2 w1 w2 (by show X.A.units+1+40<cLine;lia)
 | lst l=>
  right
  rw[Rep] at h h';obtain⟨_,vs,e,hp,rl⟩:=h;cases e;obtain⟨_,vk,e,pQ,Bb⟩:=h';cases e;rw[depth] at hd;obtain⟨ba,rv,pl,hz⟩:=I.list (bC.of hp);obtain⟨its',Bc,vm,Rl⟩:=I.list (bC.of pQ);have e1:=rl.length;have e2:=Bb.length;have l1:=rv.length;have l2:=Bc.length;refine⟨ba,its',pl.isList,vm.isList,⋯,λj h1 h2=>?_⟩;rw[aaj] at h1 h2;obtain⟨d,ed⟩:∃d,l[j]?=some d:=⟨l[j]'⋯,by simp⟩
  obtain⟨v1,f1,q1⟩:=rl.at ed;obtain⟨v2,f2,q2⟩:=Bb.at ed;obtain⟨u1,g1,w1⟩:=rv.get f1;obtain⟨u2,g2,w2⟩:=Bc.get f2;have a1:ba.toArray[j]=u1:=by simpa [aai h1] using g1
  have a2:its'.toArray[j]=u2:=by simpa [aai h2] using g2
  rw[a1,a2];have:=gz (aan ed);exact Ba I 40 d ⋯ v1 v2 u1 u2 X.A.in1 q1 q2 w1 w2 (by show X.A.units+1+40<cLine;lia)
theorem HP (hu:X.A.units+64<cLine):i7 X (compareOp .NotEq) (Ly false):=by
 intro pins s σ H x y v u Q I rx ry h;obtain⟨d,h1,h2,⟨p,rfl⟩,hd,q⟩:=h;obtain⟨p',rfl⟩:∃p',y=.ref p':=by
  cases d with
  | cU=>rw[Rep] at h1;cases h1
  | bl b=>rw[Rep] at h1;cases h1
  | int i=>rw[Rep] at h1;cases h1
  | str x=>rw[Rep] at h1;cases h1
  | tup l=>rw[Rep] at h2;obtain⟨p',_,e,_⟩:=h2;exact⟨p',e⟩
  | lst l=>rw[Rep] at h2;obtain⟨p',_,e,_⟩:=h2;exact⟨p',e⟩
 cases rx;cases ry;rcases HN I hu h1 h2 hd with ⟨ba,its',a,b,e,k⟩ | ⟨ba,its',a,b,e,k⟩
 ·refine SeqAt.RcNeAt.tuples (A:=X.A) (e:=λ_=>true) a b ⋯ k X.prog X.w X.xe _ ⟨.bl false,H,I,?_,q⟩;show Value.bool _=Value.bool false;rw[all_true,aaj,aaj,e];simp
 ·refine SeqAt.RcNeAt.lists (A:=X.A) (e:=λ_=>true) a b (by simp only[aaj];exact e) ⋯ k X.prog X.w X.xe _ ⟨.bl false,H,I,?_,q⟩;show Value.bool _=Value.bool false;rw[all_true];rfl
abbrev rNeT:R2:=λx y H Q=>∃p q xs ys,x=.ref p/\y=.ref q/\H p=some (.tup xs)/\H q=some (.tup ys)/\xs.all fL=true/\ys.all fL=true/\Q (.bl (!Vt xs ys)) H
end
end L2
namespace Nm
abbrev ins (x:Int):List Int->List Int
 | []=>[x]
 | y::r=>if x<=y then x::y::r else y::ins x r
abbrev rN:List Int->List Int
 | []=>[]
 | x::r=>ins x (rN r)
theorem oB (x:Int):∀l,(ins x l).Perm (x::l)
 | []=>.refl _
 | y::r=>by
  unfold ins
  split
  ·exact .refl _
  ·exact((oB x r).cons y).trans (.swap ..)
theorem j8:∀l,(rN l).Perm l
 | []=>.refl _
 | x::r=>(oB x _).trans ((j8 r).cons x)
set_option tactic.hygienic true in
theorem xS (x:Int):∀l:List Int,l.Pairwise (·<=·)->(ins x l).Pairwise (·<=·)
 | [],_=>by unfold ins;simp
 | y::r,h=>by
  unfold ins;rw[List.pairwise_cons] at h
  split
  ·rename_i c
   rw[List.pairwise_cons,List.pairwise_cons];refine⟨λz hz=>?_,h.1,h.2⟩;rcases aaB.mp hz with rfl | hz
   ·exact c
   ·have:=h.1 z hz;lia
  ·rename_i c
   rw[List.pairwise_cons];refine⟨λz hz=>?_,xS x r h.2⟩;rcases aaB.mp ((oB x r).mem_iff.mp hz) with rfl | hz
   ·lia
   ·exact h.1 z hz
theorem xT:∀l:List Int,(rN l).Pairwise (·<=·)
 | []=>by unfold rN;simp
 | x::r=>xS x _ (xT r)
theorem gU (l:List Int):(rN l).length=l.length:=(j8 l).length_eq
theorem xU:∀{a b:List Int},a.Perm b->a.Pairwise (·<=·)->b.Pairwise (·<=·)->a=b
 | [],b,p,_,_=>by simpa using p.symm.eq_nil
 | x::a,[],p,_,_=>by simpa using p.eq_nil
 | x::a,y::b,p,ha,hb=>by
  rw[List.pairwise_cons] at ha hb;have e:x=y:=by
   have h1:y∈x::a:=p.mem_iff.mpr aas;have h2:x∈y::b:=p.mem_iff.mp aas;rcases aaB.mp h1 with h1 | h1
   ·exact h1.symm
   ·rcases aaB.mp h2 with h2 | h2
    ·exact h2
    ·have:=ha.1 y h1;have:=hb.1 x h2;lia
  subst e;rw[xU ((List.perm_cons x).mp p) ha.2 hb.2]
theorem rO {a b:List Int} (p:a.Perm b) (o:a.Pairwise (·<=·)):a=rN b:=xU (p.trans (j8 b).symm) o (xT b)
theorem DO {a:Int} {l:List Int}:a∈rN l↔a∈l:=(j8 l).mem_iff
end Nm
namespace L2
open PySem PySem.Spec PyProof.Rows PySem.W
section
variable {X : Cx}
theorem wg {us:List Value} {ns:List Int} (h:IntsAre us ns):∃xs,us.toArray=intItems xs/\preSum (numAt xs) xs.size=ns.sum:=by
 obtain⟨xs,hx⟩:=h.allInts.items;refine⟨xs,hx,?_⟩;have e1:ns=xs.toList.map (·.1):=by
  rw[<-nums_intItems,<-hx];exact h.numsOf.symm
 rw[preSum_eq,aau (by simp),e1]
theorem wj (hc:X.calm=true):cM X (.builtin "sum") (λxs H Q=>∃p ns,xs=[.ref p]/\bC X.K H p (List.map V.int ns)/\Q (.int ns.sum) H):=by
 intro pins s σ H xs us Q I r h;obtain⟨p,ns,rfl,hq,q⟩:=h;obtain⟨u,rfl,rx⟩:=vals1 r;cases rx;obtain⟨ba,rv,pl,hz⟩:=I.list hq;obtain⟨ys,e1,e2⟩:=wg (intsAre_of rv);have hl:=pl.isList;rw[e1] at hl;refine sum_intListG (I.ok.hd hc) hl λh' tk t' hk=>⟨.int ns.sum,H,I.kept (t':=tk) hk,⟨t',?_⟩,q⟩
 rw[e2]
theorem gW {us:List Value} {ns:List Int} (h:IntsAre us ns):bq (ns.map V.int) us:=by
 induction h with
 | nil=>exact .nil
 | cons n t _ ih=>exact .cons ⟨t,rfl⟩ ih
theorem pR:cM X (.builtin "sorted") (λxs H Q=>∃p ns,xs=[.ref p]/\bC X.K H p (List.map V.int ns)/\ns.length<64/\∀l,H l=none->Q (.ref l) (upd H l (.lst (List.map V.int (Nm.rN ns))))):=by
 intro pins s σ H xs us Q I r h;obtain⟨p,ns,rfl,hq,hn,q⟩:=h;obtain⟨u,rfl,rx⟩:=vals1 r;cases rx;obtain⟨ba,rv,pl,hz⟩:=I.list hq;have hl:=rv.length;rw[aad] at hl;refine sorted_ints pl.isList (intsAre_of rv) ⋯ λout Af a1 a2 a3=>?_;obtain rfl:=Nm.rO a2 a3;obtain⟨e,he⟩:=sortedAll_at s.heap ba out;have fr:=I.bP.fresh (a:=s.heap.objs.size+1) (Nat.le_succ _);refine⟨.ref (s.heap.objs.size+1),_,I.laid (t':=s.toks) (λ_ _=>sortedAll_old) (Nat.le_succ _) (o:=.lst (List.map V.int (Nm.rN ns))) ⟨?_,out.toList,e,gW a1,?_⟩,rfl,q _ fr⟩
 ·rw[aad,Nm.gU,sizeLine_eq];lia
 ·exact he
abbrev jb (kvs:List (Key×V)):List Int:=kvs.map λp=>match p.1 with | .inl i=>i | .inr _=>0
abbrev allI (kvs:List (Key×V)):Prop:=∀p∈kvs,∃i,p.1=Sum.inl i
theorem pS (hc:X.calm=true):cM X (.builtin "sorted") (λxs H Q=>∃d kvs,xs=[.ref d]/\Rd H d (.dK kvs)/\allI kvs/\kvs.length<64/\∀l,H l=none->Q (.ref l) (upd H l (.lst (List.map V.int (Nm.rN (jb kvs)))))):=by
 intro pins s σ H xs us Q I r h;obtain⟨d,kvs,rfl,hd,zk,hn,q⟩:=h;obtain⟨u,rfl,rx⟩:=vals1 r;cases rx;obtain⟨hz,lo,vs,kv,dd⟩:=mG I.bP hd;have hlen:kvs.length=vs.length:=Paired.length kv;obtain⟨ep,A6⟩:=dd.dictAt;refine Calls.call_function_entry kind_sorted plain_sorted entry_sorted (args_sorted1 _) ?_;unfold Builtin.«sorted»;refine wpAny_bind (m:=checkCount "sorted" 1 1 _) (wpAny_pure ?_);refine wpAny_bind (kdu_collect (A:=X.A.in1) (kdl_dict (kvs:=vs) (ep:=ep) lo) (I.ok.hd hc) A6 (by rw[<-hlen,sizeLine_eq];lia) λh' tk acc hk wc=>?_);have hl:acc.toList.length=vs.length:=by rw[Array.length_toList];exact wc.1
 have hI:IntsAre acc.toList (jb kvs):=by
  have all:∀(j:Nat) v,acc.toList[j]?=some v->∃i t,v=Value.int i t/\(jb kvs)[j]?=some i:=λj v e=>by
   obtain⟨k,x,hx,hk⟩:=wc.2 j v (by rw[<-Array.getElem?_toList];exact e);obtain⟨p,e1,e2⟩:∃p,kvs[j]?=some p/\p.1=k:=by
    have:∀{as:List (Key×V)} {bs:List (Key×Value)} (j:Nat) {b},KV as bs->bs[j]?=some b->∃a,as[j]?=some a/\a.1=b.1:=by
     intro as bs j b r
     induction r generalizing j with
     | nil=>intro e;simp at e
     | cons r1 r2 ih=>
      intro e;cases j with
      | zero=>simp at e;subst e;exact⟨_,rfl,r1.1⟩
      | succ j=>simp at e;obtain⟨a,e1,e2⟩:=ih j e;exact⟨a,by simpa using e1,e2⟩
    obtain⟨a,e1,e2⟩:=this j kv hx;exact⟨a,e1,e2⟩
   obtain⟨i,hi⟩:=zk p (aan e1);rw[<-e2,hi] at hk;have hk:oa (.inl i) v=true:=hk;rcases cI hk with ⟨i',t,e3,e4⟩ | ⟨x',t,e3,_⟩
   ·cases e3;refine⟨i,t,e4,?_⟩;unfold jb;rw[aaf,e1];simp [hi]
   ·cases e3
  have go:∀(us:List Value) (ns:List Int),us.length=ns.length->(∀(j:Nat) v,us[j]?=some v->∃i t,v=Value.int i t/\ns[j]?=some i)->IntsAre us ns:=by
   intro us
   induction us with
   | nil=>intro ns hl _;cases ns with | nil=>exact .nil | cons _ _=>simp at hl
   | cons u us ih=>
    intro ns hl k;cases ns with
    | nil=>simp at hl
    | cons n ns=>
     obtain⟨i,t,rfl,e⟩:=k 0 u rfl;simp at e;subst e;exact .cons n t (ih ns (by simpa using hl) λj v e=>by
      obtain⟨i,t,e1,e2⟩:=k (j+1) v (by simpa using e);exact⟨i,t,e1,by simpa using e2⟩)
  refine go _ _ ?_ all;unfold jb;rw[aad,hl,hlen]
 refine wpAny_bind (wpAny_newList ?_ (by rw[hl,<-hlen,sizeLine_eq];lia));have KW:(h'.push (seqObj "list" acc.toList.toArray 0)).get? h'.objs.size=some (seqObj "list" acc.toList.toArray 0):=abl _ rfl;have I1:Inv X pins σ H {s with heap:=h',toks:=tk}:=I.kept (t':=tk) hk;refine wpAny_bind (wpAny_holding (wpAny_call_entry slot_list_sort ⟨_,KW,rfl⟩ entry_list_sort (list_sort_tree KW hI ⋯ λout Af a1 a2 a3=>⟨_,rfl,?_⟩) (args_list_sort _)));obtain rfl:=Nm.rO a2 a3;obtain⟨e,he⟩:=sortedHeap_at (out:=out) KW;have fr:=I1.bP.fresh (a:=h'.objs.size) (aag _);refine wpAny_pure ⟨_,rfl,.ref h'.objs.size,_,I1.laid (t':=tk) (λb o eb=>?_) (aag _) (o:=.lst (List.map V.int (Nm.rN (jb kvs)))) ⟨?_,out.toList,e,gW a1,?_⟩,rfl,q _ fr⟩
 ·rw[sortedHeap_old (aar (abm eb)) (by rw[Heap.size_push];exact Nat.lt_succ_of_lt (abm eb))];exact abk _ eb
 ·rw[aad,Nm.gU,sizeLine_eq];unfold jb;rw[aad];lia
 ·exact he
end
section
variable {X : Cx} {pins : List (Addr × Obj)} {σ : St} {H : Hp} {s : Shared}
end
abbrev XT (d:Addr) (o:Obj) (kvs:List (Key×V)):It:=
 ⟨λi H=>H d=some (.qu o (.dK kvs))/\i<kvs.length,λi H x H'=>H'=H/\∃p,kvs[i]?=some p/\x=kV p.1,λi H=>H d=some (.qu o (.dK kvs))/\i=kvs.length⟩
section
variable {X : Cx} {x : Str} {XU : Pos}
abbrev iDict (tl:TE):TI:=λσ H R=>tl σ H λv H1=>∃d kvs,v=.ref d/\H1 d=some (.dK kvs)/\∀o,R (XT d o kvs) (upd H1 d (.qu o (.dK kvs)))
end
open PySem PySem.Spec PyProof.Rows PySem.W
section
variable {X : Cx} {K : aba}
theorem bh {tg l:Expr} {tl:TE} (hl:PE X l tl) (hK:X.K=K:=by rfl):PI X tg l (iList K tl):=by subst hK;exact Dm hl
theorem pT {elts:List Expr} {kk:Nat} {nh:Pos} {a:Expr} {ta:TA} {p pos:Pos} (hg:Gl X "enumerate") (hm:X.mg "enumerate"=none) (ha:PA X [a] ta) (n1:noStar a=true:=by rfl) (hK:X.K=K:=by rfl):
  PI X (.Tuple elts kk nh) (.Call (.Name "enumerate" p) [a] [] pos) (iEnum K ta):=by subst hK;exact rM hg hm ha (by rw[se n1];rfl)
theorem eP {es:List Expr} {k:Nat} {t:Fq} {n:Nat} {pos:Pos} (hc:X.calm=true) (h:JZ X es t) (hn:(assignEach es X.env).length=n:=by rfl) (Hc:(assignEach es X.env).findIdx? (·.1)=none:=by rfl) (hK:X.K=K:=by rfl):PG X (.Tuple es k pos) (yZ K n t):=by
 subst hK;exact Ha hc h hn Hc
theorem qH (hK:X.K=K:=by rfl):AG X (Hy K):=by subst hK;exact AR
theorem jC (hK:X.K=K:=by rfl):cM X (.builtin "len") (λxs H Q=>∃p ns,xs=[.ref p]/\bC K H p (List.map V.int ns)/\Q (.int (List.length ns:Nat)) H):=by subst hK;exact zq
theorem pU (hK:X.K=K:=by rfl):i7 X (compareOp .NotIn) (QX K true):=by subst hK;exact rE
theorem dt (hK:X.K=K:=by rfl):cM X (.type "list") (λxs H Q=>∃p ys,xs=[.ref p]/\(bC K H p ys\/iP K H p ys)/\∀l,H l=none->Q (.ref l) (upd H l (.lst ys))):=by subst hK;exact rG
theorem c6 (hK:X.K=K:=by rfl):cM X (.builtin "isinstance") (λxs H Q=>∃x c t b,xs=[x,.ty c]/\ia K H x t/\PySem.W.kitOne K t (.type c)=some b/\Q (.bl b) H):=by subst hK;exact AS
theorem iz (hc:X.calm=true:=by rfl) (hK:X.K=K:=by rfl):cM X (.builtin "sum") (λxs H Q=>∃p ns,xs=[.ref p]/\bC K H p (List.map V.int ns)/\Q (.int ns.sum) H):=by subst hK;exact wj hc
theorem oC (hK:X.K=K:=by rfl):cM X (.builtin "sorted") (λxs H Q=>∃p ns,xs=[.ref p]/\bC K H p (List.map V.int ns)/\ns.length<64/\∀l,H l=none->Q (.ref l) (upd H l (.lst (List.map V.int (Nm.rN ns))))):=by subst hK;exact pR
theorem oE (hc:X.calm=true:=by rfl):cM X (.builtin "sorted") (λxs H Q=>∃d kvs,xs=[.ref d]/\Rd H d (.dK kvs)/\allI kvs/\kvs.length<64/\∀l,H l=none->Q (.ref l) (upd H l (.lst (List.map V.int (Nm.rN (jb kvs)))))):=pS hc
theorem oF (hK:X.K=K:=by rfl):Px X (rSlL K):=by subst hK;exact Dx
theorem Fw.r {id:String} {r:V->List V->Hp->VK->Prop} (h:Fw X id r):Hj X id r:=h
end
end L2
namespace Nm
@[inline]abbrev Ws:=List (Int×Int)
abbrev keys (ws:Ws):List Int:=ws.map (·.1)
abbrev look:Ws->Int->Int
 | [],_=>0
 | p::r,k=>if p.1=k then p.2 else look r k
abbrev put:Ws->Int->Int->Ws
 | [],k,v=>[(k,v)]
 | p::r,k,v=>if p.1=k then (k,v)::r else p::put r k v
abbrev oG (ws:Ws):Int:=(ws.map (·.2)).sum
abbrev iZ (ws:Ws) (k x:Int):Ws:=put ws k (look ws k+x)
abbrev cR (ws ps:Ws):Ws:=ps.foldl (λacc p=>iZ acc p.1 p.2) ws
abbrev cnt (ps:Ws) (s:Int):Int:=(ps.map λp=>if p.1=s then p.2 else 0).sum
set_option tactic.hygienic true in
theorem uq:∀(ws:Ws) (k v j:Int),look (put ws k v) j=if k=j then v else look ws j
 | [],k,v,j=>by simp [put,look]
 | p::r,k,v,j=>by
  unfold put
  split
  ·rename_i c
   simp only[look]
   by_cases e:k=j
   ·simp [e]
   ·rw[if_neg e,if_neg e,if_neg ⋯]
  ·rename_i c
   simp only[look]
   by_cases e:p.1=j
   ·rw[if_pos e,if_neg ⋯,if_pos e]
   ·rw[if_neg e,if_neg e];exact uq r k v j
set_option tactic.hygienic true in
theorem xV {ws:Ws} {k v j:Int}:j∈keys (put ws k v)↔j=k\/j∈keys ws:=by
 induction ws with
 | nil=>simp [put,keys]
 | cons p r ih=>
  unfold put
  split
  ·rename_i c
   simp only[keys,aae,aaB];rw[c];constructor
   ·intro h;exact .inr h
   ·rintro(h | h)
    ·exact .inl h
    ·exact h
  ·simp only[keys,aae,aaB] at ih ⊢;rw[ih];constructor
   ·rintro(h | h | h)
    ·exact .inr (.inl h)
    ·exact .inl h
    ·exact .inr (.inr h)
   ·rintro(h | h | h)
    ·exact .inr (.inl h)
    ·exact .inl h
    ·exact .inr (.inr h)
set_option tactic.hygienic true in
theorem zv {ws:Ws} (k v:Int) (h:(keys ws).Nodup):(keys (put ws k v)).Nodup:=by
 induction ws with
 | nil=>simp [put,keys]
 | cons p r ih=>
  have h':p.1∉keys r/\(keys r).Nodup:=by simpa [keys] using h
  unfold put
  split
  ·rename_i c
   have:k∉keys r/\(keys r).Nodup:=by rw[<-c];exact h'
   simpa [keys] using this
  ·rename_i c
   have i:=ih h'.2;have n:p.1∉keys (put r k v):=λz=>by
    rcases xV.mp z with z | z
    ·exact c z
    ·exact h'.1 z
   have:p.1∉keys (put r k v)/\(keys (put r k v)).Nodup:=⟨n,i⟩
   simpa [keys] using this
theorem ur:∀(ws:Ws) (k x:Int),oG (iZ ws k x)=oG ws+x
 | [],k,x=>by simp [iZ,put,look,oG]
 | p::r,k,x=>by
  have ih:=ur r k x;unfold iZ oG at *;unfold put look
  by_cases c:p.1=k
  ·rw[if_pos c,if_pos c];simp only[aae,List.sum_cons];lia
  ·rw[if_neg c,if_neg c];simp only[aae,List.sum_cons];lia
theorem DP (ws:Ws) (k v:Int):(put ws k v).length<=ws.length+1:=by
 induction ws with
 | nil=>simp [put]
 | cons p r ih=>
  unfold put
  split
  ·simp
  ·simp only[aap];lia
theorem mI:∀(ps ws:Ws) (s:Int),look (cR ws ps) s=look ws s+cnt ps s
 | [],ws,s=>by simp [cR,cnt]
 | p::r,ws,s=>by
  have ih:=mI r (iZ ws p.1 p.2) s;show look (cR (iZ ws p.1 p.2) r) s=_;rw[ih];unfold iZ cnt;rw[uq];simp only[aae,List.sum_cons]
  by_cases c:p.1=s
  ·rw[if_pos c,if_pos c,c];lia
  ·rw[if_neg c,if_neg c];lia
theorem jD {s:Int}:∀{ps ws:Ws},s∈keys (cR ws ps)↔s∈keys ws\/s∈keys ps
 | [],ws=>by simp [cR,keys]
 | p::r,ws=>by
  show s∈keys (cR (iZ ws p.1 p.2) r)↔_;rw[jD];unfold iZ;rw[xV];simp only[keys,aae,aaB];constructor
  ·rintro((h | h) | h)
   ·exact .inr (.inl h)
   ·exact .inl h
   ·exact .inr (.inr h)
  ·rintro(h | h | h)
   ·exact .inl (.inr h)
   ·exact .inl (.inl h)
   ·exact .inr h
theorem j9:∀{ps ws:Ws},(keys ws).Nodup->(keys (cR ws ps)).Nodup
 | [],_,h=>h
 | p::r,ws,h=>by
  show(keys (cR (iZ ws p.1 p.2) r)).Nodup;exact j9 (zv _ _ h)
theorem oH:∀(ps ws:Ws),oG (cR ws ps)=oG ws+oG ps
 | [],ws=>by simp [cR,oG]
 | p::r,ws=>by
  show oG (cR (iZ ws p.1 p.2) r)=_;rw[oH,ur];unfold oG;simp only[aae,List.sum_cons];lia
theorem oJ:∀(ps ws:Ws),(cR ws ps).length<=ws.length+ps.length
 | [],ws=>by simp [cR]
 | p::r,ws=>by
  have h:=oJ r (iZ ws p.1 p.2);have h2:=DP ws p.1 (look ws p.1+p.2);show(cR (iZ ws p.1 p.2) r).length<=_;unfold iZ at *;simp only[aap];lia
structure Over (as ws:Ws) (B T:Int):Prop where
 nd:(keys ws).Nodup
 perm:(keys as).Perm (keys ws)
 val:∀k∈keys ws,look as k*T=look ws k*B
theorem c7 {ws:Ws} {p:Int×Int} (h:(keys ws).Nodup) (hp:p∈ws):look ws p.1=p.2:=by
 induction ws with
 | nil=>cases hp
 | cons q r ih=>
  have h':q.1∉keys r/\(keys r).Nodup:=by simpa [keys] using h
  unfold look;rcases aaB.mp hp with rfl | hp
  ·rw[if_pos rfl]
  ·rw[if_neg (λz=>h'.1 (by rw[z];exact abi.mpr ⟨p,hp,rfl⟩))];exact ih h'.2 hp
abbrev rowsOf (ws:Ws) (B:Int):List (Int×Int×Int):=(rN (keys ws)).map λv=>(v,st (look ws v) B,sb (look ws v) B)
theorem pV (ws p q:Ws):cR ws (p++q)=cR (cR ws p) q:=by
 unfold cR;rw[List.foldl_append]
theorem uu (ws p:Ws) (k x:Int):cR ws (p++ [(k,x)])=iZ (cR ws p) k x:=by
 rw[pV];rfl
theorem xW:∀{l:List Int},0<l.length->(∀x∈l,0<x)->0<l.sum
 | [],h,_=>by simp at h
 | x::r,_,h=>by
  have hx:=h x aas;rw[List.sum_cons]
  by_cases c:0<r.length
  ·have:=xW c λy hy=>h y (aam _ hy);lia
  ·have:r=[]:=List.eq_nil_of_length_eq_zero ⋯;subst this
   simpa using hx
theorem HQ {ws:Ws} (nd:(keys ws).Nodup) {P:Int->Prop} (h:∀k∈keys ws,P (look ws k)):∀x∈ws.map (·.2),P x:=λx hx=>by
 obtain⟨p,hp,rfl⟩:=abi.mp hx;have:=h p.1 (abi.mpr ⟨p,hp,rfl⟩)
 rwa [c7 nd hp] at this
theorem DQ {ws:Ws} (h:0<ws.length) (nd:(keys ws).Nodup) (w:∀k∈keys ws,0<look ws k):0<oG ws:=
 xW (by rw[aad];exact h) (HQ nd w)
theorem HR {ps:Ws} (h:∀p∈ps,0<p.2) (s:Int):0<=cnt ps s:=by
 induction ps with
 | nil=>simp [cnt]
 | cons p r ih=>
  have i:=ih λq hq=>h q (aam _ hq);have hp:=h p aas;unfold cnt at *;rw[aae,List.sum_cons]
  split <;>lia
theorem nJ {ps:Ws} (h:∀p∈ps,0<p.2) {s:Int} (hs:s∈keys ps):0<cnt ps s:=by
 induction ps with
 | nil=>simp [keys] at hs
 | cons p r ih=>
  have h':∀q∈r,0<q.2:=λq hq=>h q (aam _ hq);have hp:=h p aas;have n:=HR h' s;have e:cnt (p::r) s=(if p.1=s then p.2 else 0)+cnt r s:=by unfold cnt;rw[aae,List.sum_cons]
  rw[e]
  by_cases c:p.1=s
  ·rw[if_pos c];lia
  ·rw[if_neg c];have Lu:s∈keys r:=by
    unfold keys at hs ⊢;rw[aae] at hs;rcases aaB.mp hs with z | z
    ·exact absurd z.symm c
    ·exact z
   have:=ih h' Lu;lia
end Nm
namespace L2
open PySem PySem.Spec PyProof.Rows
abbrev enc (ws:Nm.Ws):List (Key×V):=ws.map λp=>(Sum.inl p.1,V.int p.2)
theorem rP (ws:Nm.Ws):(enc ws).length=ws.length:=by unfold enc;rw[aad]
theorem zw (ws:Nm.Ws):jb (enc ws)=Nm.keys ws:=by
 unfold jb enc Nm.keys;rw[aaM];rfl
theorem Bd (ws:Nm.Ws):allI (enc ws):=λp hp=>by
 unfold enc at hp;obtain⟨q,_,rfl⟩:=abi.mp hp;exact⟨q.1,rfl⟩
theorem xY (ws:Nm.Ws) (k:Int):dI (enc ws) (Sum.inl k)=if k∈Nm.keys ws then some (.int (Nm.look ws k)) else none:=by
 induction ws with
 | nil=>simp [enc,dI,Nm.keys]
 | cons p r ih=>
  unfold dI at *;unfold enc at *;rw[aae,List.find?_cons];unfold Nm.look
  by_cases c:p.1=k
  ·rw[show decide ((Sum.inl p.1:Key)=Sum.inl k)=true by rw[c];simp];simp [Nm.keys,c]
  ·rw[show decide ((Sum.inl p.1:Key)=Sum.inl k)=false by simpa using c];simp only[ih];have e:(k∈Nm.keys (p::r))=(k∈Nm.keys r):=by
    unfold Nm.keys;rw[aae,aaB];apply propext;constructor
    ·rintro(h | h)
     ·exact absurd h.symm c
     ·exact h
    ·exact .inr
   simp only[e,if_neg c]
theorem DR {ws:Nm.Ws} (nd:(Nm.keys ws).Nodup) (k v:Int):putK (enc ws) (Sum.inl k) (.int v)=enc (Nm.put ws k v):=by
 have key:∀{ws:Nm.Ws},k∉Nm.keys ws->(enc ws).map (λkv=>if kv.1=(Sum.inl k:Key) then (kv.1,V.int v) else kv)=enc ws:=by
  intro ws h;unfold enc;rw[aaM];apply List.map_congr_left;intro p hp;have:p.1≠k:=λz=>h (by rw[<-z];exact abi.mpr ⟨p,hp,rfl⟩);simp [this]
 have any:∀ws:Nm.Ws,((enc ws).any λkv=>decide (kv.1=(Sum.inl k:Key)))=decide (k∈Nm.keys ws):=by
  intro ws
  induction ws with
  | nil=>simp [enc,Nm.keys]
  | cons p r ih=>
   unfold enc at *;rw[aae,List.any_cons,ih];unfold Nm.keys;rw[aae]
   by_cases c:p.1=k
   ·simp [c]
   ·have c2:¬k=p.1:=λz=>c z.symm;simp [c,c2]
 unfold putK;rw[any];clear any
 by_cases c:k∈Nm.keys ws
 ·rw[if_pos (by simpa using c)]
  induction ws with
  | nil=>simp [Nm.keys] at c
  | cons p r ih=>
   have h':p.1∉Nm.keys r/\(Nm.keys r).Nodup:=by simpa [Nm.keys] using nd
   unfold Nm.put
   by_cases e:p.1=k
   ·rw[if_pos e];have:=key (ws:=r) (by rw[<-e];exact h'.1);unfold enc at *;rw[aae,aae,this,aae];simp [e]
   ·rw[if_neg e];have c':k∈Nm.keys r:=by
     unfold Nm.keys at c ⊢;rw[aae] at c;rcases aaB.mp c with z | z
     ·exact absurd z.symm e
     ·exact z
    have:=ih h'.2 c';unfold enc at *;rw[aae,aae,this,aae];simp [e]
 ·rw[if_neg (by simpa using c)]
  induction ws with
  | nil=>simp [enc,Nm.put]
  | cons p r ih=>
   have h':p.1∉Nm.keys r/\(Nm.keys r).Nodup:=by simpa [Nm.keys] using nd
   have e:¬p.1=k:=λz=>c (by unfold Nm.keys;rw[aae,z];exact aas);have c':k∉Nm.keys r:=λz=>c (by unfold Nm.keys at *;rw[aae];exact aam _ z);unfold Nm.put;rw[if_neg e];have:=ih h'.2 c';unfold enc at *;rw[aae,aaP,this,aae]
theorem DS {H:Hp} {d:Addr} {ws:Nm.Ws} {v:Int} (h:Rd H d (.dK (enc ws))) (hv:v∈Nm.keys ws):iY H d (.int v) (some (.int (Nm.look ws v))):=
 .inl ⟨_,Sum.inl v,h,rfl,by rw[xY,if_pos hv]⟩
theorem Be {H:Hp} {d:Addr} {ws:Nm.Ws} {v:Int} (h:H d=some (.dK (enc ws))) (hv:v∈Nm.keys ws):iY H d (.int v) (some (.int (Nm.look ws v))):=DS (.inl h) hv
theorem Bf {ws:Nm.Ws} {v:Int} (h:v∉Nm.keys ws):Nm.look ws v=0:=by
 induction ws with
 | nil=>rfl
 | cons p r ih=>
  unfold Nm.keys at h;rw[aae] at h;unfold Nm.look;rw[if_neg (λz=>h (by rw[z];exact aas))];exact ih λz=>h (aam _ z)
theorem zx {H:Hp} {d:Addr} {ws:Nm.Ws} (v:Int) (h:Rd H d (.dK (enc ws))):∃o,iY H d (.int v) o/\o.getD (.int 0)=.int (Nm.look ws v):=by
 refine⟨_,.inl ⟨_,Sum.inl v,h,rfl,rfl⟩,?_⟩;rw[xY]
 by_cases c:v∈Nm.keys ws
 ·rw[if_pos c];rfl
 ·rw[if_neg c,Bf c];rfl
theorem Bg {H:Hp} {d:Addr} {ws:Nm.Ws} (v x:Int) (h:H d=some (.dK (enc ws))) (nd:(Nm.keys ws).Nodup) (hl:ws.length<sizeLine):vY H d (.int v) (.int x) (upd H d (.dK (enc (Nm.put ws v x)))):=by
 have:=vY.k (k:=Sum.inl v) (v:=.int x) h (by rw[rP];exact hl);rw[DR nd] at this;exact this
abbrev DT (r:Int×Int×Int):Dat:=.tup [.int r.1,.tup [.int r.2.1,.int r.2.2]]
abbrev kc (rows:List (Int×Int×Int)):Dat:=.lst (rows.map DT)
abbrev dq (p:Int×Int):Dat:=.tup [.int p.1,.int p.2]
abbrev Bh (ws:Nm.Ws):Dat:=.lst (ws.map dq)
theorem nK {H:Hp} {r:Int×Int×Int} {v:V}:Rep H (DT r) v↔∃p q,v=.ref p/\H p=some (.tup [.int r.1,.ref q])/\H q=some (.tup [.int r.2.1,.int r.2.2]):=by
 unfold DT;simp only[Rep,a7];constructor
 ·rintro⟨p,vs,rfl,hp,a,b,rfl,rfl,c,d,rfl,⟨q,us,rfl,hq,e,f,rfl,rfl,g,h,rfl,rfl,rfl⟩,rfl⟩;exact⟨p,q,rfl,hp,hq⟩
 ·rintro⟨p,q,rfl,hp,hq⟩;exact⟨p,_,rfl,hp,_,_,rfl,rfl,_,_,rfl,⟨q,_,rfl,hq,_,_,rfl,rfl,_,_,rfl,rfl,rfl⟩,rfl⟩
theorem b9 {H:Hp} {r:Int×Int} {v:V}:Rep H (dq r) v↔∃p,v=.ref p/\H p=some (.tup [.int r.1,.int r.2]):=by
 unfold dq;simp only[Rep,a7];constructor
 ·rintro⟨p,vs,rfl,hp,a,b,rfl,rfl,c,d,rfl,rfl,rfl⟩;exact⟨p,rfl,hp⟩
 ·rintro⟨p,rfl,hp⟩;exact⟨p,_,rfl,hp,_,_,rfl,rfl,_,_,rfl,rfl,rfl⟩
theorem aY {H:Hp} {ds:List Dat} {v:V}:Rep H (.lst ds) v↔∃p vs,v=.ref p/\H p=some (.lst vs)/\a7 H ds vs:=by rw[Rep]
abbrev VM (H H':Hp):Prop:=∀p xs,(H p=some (.tup xs)->H' p=some (.tup xs))/\(H p=some (.lst xs)->H' p=some (.lst xs))
mutual
theorem Rep.Lz {H H':Hp} (s:VM H H'):∀{d:Dat} {v:V},Rep H d v->Rep H' d v
 | .cU,_,h=>by rw[Rep] at *;exact h
 | .bl _,_,h=>by rw[Rep] at *;exact h
 | .int _,_,h=>by rw[Rep] at *;exact h
 | .str _,_,h=>by rw[Rep] at *;exact h
 | .tup _,_,h=>by
  rw[Rep] at *;obtain⟨p,vs,e,hp,r⟩:=h;exact⟨p,vs,e,(s _ _).1 hp,a7.Lz s r⟩
 | .lst _,_,h=>by
  rw[Rep] at *;obtain⟨p,vs,e,hp,r⟩:=h;exact⟨p,vs,e,(s _ _).2 hp,a7.Lz s r⟩
theorem a7.Lz {H H':Hp} (s:VM H H'):∀{ds:List Dat} {vs:List V},a7 H ds vs->a7 H' ds vs
 | [],_,h=>by rw[a7] at *;exact h
 | _::_,_,h=>by
  rw[a7] at *;obtain⟨v,r,e,h1,h2⟩:=h;exact⟨v,r,e,Rep.Lz s h1,a7.Lz s h2⟩
end
theorem none_of {H H':Hp} (s:aw H H') {p:Addr} (h:H' p=none):H p=none:=by
 cases e:H p with
 | none=>rfl
 | some o=>rw[s p o e] at h;cases h
end L2
namespace Nm
end Nm
namespace L2
open PySem PySem.Spec PyProof.Rows
theorem lQ {α:Type} {J:It} {tc:TT} {te:TE} {tl:St} {H1:Hp} {fin:List V->Hp->Prop} {Item:Nat->V->Hp->Hp->Prop} (as:List α) (f:α->Option Int) (S:Src J (aw H1) as.length Item) (sub:∀i x H H3,Item i x H H3->H3=H) (hz:as.length<=sizeLine)
  (hs:∀i a x,as[i]?=some a->Item i x H1 H1->∀(Y:VK) (N:Hp->Prop),(∀z,f a=some z->Y (.int z) H1)->(f a=none->N H1)->tc (some x::tl) H1 λb H5=>if b=true then te (some x::tl) H5 Y else N H5)
  (lP:fin (List.map V.int (as.filterMap f)) H1):fN J (gName 0) tc te (none::tl) H1 fin:=by
 refine gy S (λσ=>∃w0,σ=w0::tl) ⟨_,rfl⟩ (λi ys H=>H=H1/\ys=List.map V.int ((as.take i).filterMap f)) ⟨rfl,by simp⟩ hz ?_ ?_
 ·rintro i x σ H ys H3 Q N hi sm ⟨rfl,rfl⟩ hl ⟨w0,rfl⟩ it kq kn;obtain rfl:=sub _ _ _ _ it;have ea:as[i]?=some as[i]:=aai hi;refine hs i _ x ea it _ _ (λz e=>kq _ _ _ ⟨_,rfl⟩ sm ⟨rfl,?_⟩) (λe=>kn _ _ ⟨_,rfl⟩ sm ⟨rfl,?_⟩)
  ·rw[aaF,ea,aa3,aak];simp [e]
  ·rw[aaF,ea,aa3,aak];simp [e]
 ·rintro ys H sm ⟨rfl,rfl⟩ hl;rw[aau (aag _)];exact lP
theorem oK {K:aba} {α:Type} {J:It} {tc:TT} {te:TE} {tl:St} {H1:Hp} {fin:List V->Hp->Prop} {Item:Nat->V->Hp->Hp->Prop} (as:List α) (f:α->Option Int) (S:Src J (aw H1) as.length Item) (sub:∀i x H H3,Item i x H H3->H3=H) (hz:as.length<=sizeLine)
  (hs:∀i a x,as[i]?=some a->Item i x H1 H1->∃p u v,x=.ref p/\iP K H1 p [u,v]/\∀(Y:VK) (N:Hp->Prop),(∀z,f a=some z->Y (.int z) H1)->(f a=none->N H1)->tc (some u::some v::tl) H1 λb H5=>if b=true then te (some u::some v::tl) H5 Y else N H5)
  (lP:fin (List.map V.int (as.filterMap f)) H1):fN J (yZ K 2 (gCons (gName 0) (gCons (gName 1) gNil))) tc te (none::none::tl) H1 fin:=by
 refine gy S (λσ=>∃w0 w1,σ=w0::w1::tl) ⟨_,_,rfl⟩ (λi ys H=>H=H1/\ys=List.map V.int ((as.take i).filterMap f)) ⟨rfl,by simp⟩ hz ?_ ?_
 ·rintro i x σ H ys H3 Q N hi sm ⟨rfl,rfl⟩ hl ⟨w0,w1,rfl⟩ it kq kn;obtain rfl:=sub _ _ _ _ it;have ea:as[i]?=some as[i]:=aai hi;obtain⟨p,u,v,rfl,sq,k⟩:=hs i _ x ea it;refine⟨p,_,rfl,sq,rfl,_,_,rfl,_,_,rfl,rfl,?_⟩;refine k _ _ (λz e=>kq _ _ _ ⟨_,_,rfl⟩ sm ⟨rfl,?_⟩) (λe=>kn _ _ ⟨_,_,rfl⟩ sm ⟨rfl,?_⟩)
  ·rw[aaF,ea,aa3,aak];simp [e]
  ·rw[aaF,ea,aa3,aak];simp [e]
 ·rintro ys H sm ⟨rfl,rfl⟩ hl;rw[aau (aag _)];exact lP
theorem DU {α β:Type} (f:α->β) (l:List α):l.filterMap (λa=>some (f a))=l.map f:=by
 rw[<-List.filterMap_eq_map];rfl
open PySem PySem.Spec PyProof.Rows PySem.W
section
variable {X : Cx} {K : aba}
theorem uv:∀{us:List Value} {bs:List Bool},bq (bs.map V.bl) us->LSm.BoolsAre us bs
 | _,[],.nil=>.nil
 | _,b::bs,.cons r t=>by
  have e:_=Value.bool b:=r;subst e;exact .cons b (uv t)
theorem wm (hc:X.calm=true):cM X (.builtin "all") (λxs H Q=>∃p bs,xs=[.ref p]/\bC X.K H p (List.map V.bl bs)/\Q (.bl (bs.all id)) H):=by
 intro pins s σ H xs us Q I r h;obtain⟨p,bs,rfl,hq,q⟩:=h;obtain⟨u,rfl,rx⟩:=vals1 r;cases rx;obtain⟨ba,rv,pl,hz⟩:=I.list hq;have hb:=uv rv;have hl:=pl.isList;have mH:p<s.heap.objs.size:=by obtain⟨_,e,_⟩:=hl;exact abm e
 refine call_all_walk (wpAny_pyIter_list hl ?_);refine⟨s.heap.objs.size,[s.heap.objs.size,p],[s.heap.objs.size],ba.toArray.size,_,_,λi=>(bs[i]?).getD true,rfl,Walks.list (A:=X.A.in1) (I.ok.hd hc) _ p (aar mH) ba.toArray,
  ⟨⟨_,abl _ rfl,rfl,rfl⟩,hl.push _⟩,λi v s' Q' E' hP hQ=>?_,λh' tk hk=>?_⟩
 ·obtain⟨b,e,rfl⟩:=hb.get i v (by simpa using hP);simp only[e,Option.getD_some] at hQ;exact wpAny_truthy_bool hQ
 ·have e:((List.range ba.toArray.size).all λi=>(bs[i]?).getD true)=bs.all id:=by
   rw[aaj,hb.length];exact LSm.range_all bs
  rw[e];exact⟨.bl _,H,I.kept (t':=tk) (LSm.kept_iter hk),rfl,q⟩
theorem uw (hc:X.calm=true:=by rfl) (hK:X.K=K:=by rfl):cM X (.builtin "all") (λxs H Q=>∃p bs,xs=[.ref p]/\bC K H p (List.map V.bl bs)/\Q (.bl (bs.all id)) H):=by subst hK;exact wm hc
theorem HS {as:List (Key×V)} {bs:List (Key×Value)} (r:KV as bs):∀(j:Nat) {b},bs[j]?=some b->∃a,as[j]?=some a/\RelV a.2 b.2:=by
 induction r with
 | nil=>intro j b e;simp at e
 | cons r1 r2 ih=>
  intro j b e;cases j with
  | zero=>simp at e;subst e;exact⟨_,rfl,r1.2⟩
  | succ j=>simp at e;obtain⟨a,e1,e2⟩:=ih j e;exact⟨a,by simpa using e1,e2⟩
theorem uy (ns:List Int):preSum (λi=>ns.getD i 0) ns.length=ns.sum:=by
 have e:=preSum_eq (ns.map λn=>(n,(0:Nat))).toArray ns.length;have f:(λi=>ns.getD i 0)=numAt (ns.map λn=>(n,(0:Nat))).toArray:=by
  funext i;unfold numAt;simp only[List.getElem?_toArray,aaf,aaC];cases ns[i]? <;>rfl
 rw[f];refine e.trans ?_;rw[aau (by simp)];congr 1;simp [Function.comp_def]
abbrev tSumV (to:TE):TE:=λσ H Q=>to σ H λv H1=>∃d kvs ns,v=.ref d/\H1 d=some (.dK kvs)/\kvs.map (·.2)=List.map V.int ns/\Q (.int ns.sum) H1
theorem wq {o:Expr} {to:TE} {p apos dE pos:Pos} (hc:X.calm=true) (hg:Gl X "sum") (hm:X.mg "sum"=none) (ho:PE X o to)
  (ua:attributeBase o "values" X.env (eval o X.env)=eval o X.env:=by rfl) (ub:(apos.endLine==dE.line)=true:=by rfl)
  (he:starEach [Expr.Call (.Attribute o "values" apos) [] [] dE] X.env=[(false,eval (.Call (.Attribute o "values" apos) [] [] dE) X.env)]:=by rfl):
  PE X (.Call (.Name "sum" p) [.Call (.Attribute o "values" apos) [] [] dE] [] pos) (tSumV to):=by
 intro pins s σ H Q I h;refine wpAny_Call_Name_kw (gk I hg hm (u:=.builtin "sum") rfl ?_ ∅ ∅);rw[he];refine PySem.callWith_builtin1 ?_;refine wpAny_Call_method0_late ua ub (cK (ho pins s σ H _ I h) λv s1 dB=>?_);obtain⟨x,H1,I1,r1,q1⟩:=dB;obtain⟨d,kvs,ns,rfl,hd,hv,q⟩:=q1;obtain⟨h1,h2⟩:=vS (T:="dict") I1 r1 (.inr (.inr (.inl ⟨rfl,.inl ⟨_,hd⟩⟩)));cases r1;obtain⟨hz,lo,vs,kv,dd⟩:=AL I1.bP hd;have hlen:kvs.length=vs.length:=Paired.length kv;refine⟨"dict","dict.values",PySem.F.plainAttrs_dict,PySem.F.slot_dict_values,PySem.F.type_dict_values,h1,h2,Calls.callWith_builtin rfl (PySem.evalArgs_none ?_)⟩;refine call_meetsIn PySem.F.slot_dict_values dd.typeIs PySem.F.entry_dict_values (PySem.F.args_dict_values_1 _) (meets_dict_values _ d lo) ⟨⟨vs,dd⟩,?_⟩;have I2:Inv X pins σ H1 {s1 with heap:=s1.heap.push {cls:=.type "dict_values",data:=.fields #[.ref d]}}:=I1.kept (t':=s1.toks) λb o e=>abk _ e;obtain⟨hz,lo,vs,kv,dd⟩:=AL I2.bP hd;have hlen:kvs.length=vs.length:=Paired.length kv;obtain⟨ep,A6⟩:=dd.dictAt;have hn:ns.length=vs.length:=by
  have:=congrArg List.length hv;rw[aad,aad] at this;lia
 have Ks:=kdl_values (prog:=X.prog) (w:=X.w) (r:=s1.heap.objs.size) (d:=d) (knd:=cE X.prog X.w) (kvs:=vs) (ep:=ep);have bP:({s1 with heap:=s1.heap.push {cls:=.type "dict_values",data:=.fields #[.ref d]}}:Shared).heap.IsValuesView s1.heap.objs.size d/\({s1 with heap:=s1.heap.push {cls:=.type "dict_values",data:=.fields #[.ref d]}}:Shared).heap.DictAt (cE X.prog X.w) d vs ep:=⟨⟨_,abl _ rfl,rfl,rfl⟩,A6⟩
 refine call_sum_walkAnyS ?_;obtain⟨oI,St,hit,W,st⟩:=Ks.iter X.A.in1 _ (I.ok.hd hc) bP;refine hit _ _ ⟨_,_,_,_,vs.length,_,_,λi=>ns.getD i 0,rfl,W.toS,st,λb hb=>?_,λi v hP=>?_,λs' t' PM=>?_⟩
 ·show b< (Heap.push _ oI).objs.size;rw[size_push'];rcases aaB.mp hb with e | hb
  ·rw[e];exact aaZ _
  ·rw[abj.mp hb];exact Nat.lt_succ_of_lt (Ks.there _ bP).2
 ·obtain⟨k,e⟩:=hP;obtain⟨a,e1,e2⟩:=HS kv i e;have e3:(kvs.map (·.2))[i]?=some a.2:=by rw[aaf,e1];rfl
  rw[hv,aaf] at e3;obtain⟨n,en,ea⟩:=abg.mp e3;rw[<-ea] at e2;obtain⟨t,e2⟩:=e2;refine⟨t,?_⟩;show v=Value.int (ns.getD i 0) t;rw[aaC,en];exact e2
 ·have hk:∀b o,(s1.heap.push {cls:=.type "dict_values",data:=.fields #[.ref d]}).get? b=some o->s'.heap.get? b=some o:=λb o e=>
   PM.heap b o (λhI=>absurd (abm e) (by rw[abj.mp hI];exact aaK _)) (abk _ e)
  rw[Moved.eq_with PM,<-hn,uy];exact⟨.int ns.sum,H1,I2.kept (t':=s'.toks) hk,⟨t',rfl⟩,q⟩
theorem eJ {α:Type} {J:It} {tc:TT} {te:TE} {tl:St} {H1:Hp} {fin:List V->Hp->Prop} {Item:Nat->V->Hp->Hp->Prop} (as:List α) (f:α->Option V) (S:Src J (aw H1) as.length Item) (sub:∀i x H H3,Item i x H H3->H3=H) (hz:as.length<=sizeLine)
  (hs:∀i a x,as[i]?=some a->Item i x H1 H1->∀(Y:VK) (N:Hp->Prop),(∀z,f a=some z->Y z H1)->(f a=none->N H1)->tc (some x::tl) H1 λb H5=>if b=true then te (some x::tl) H5 Y else N H5)
  (lP:fin (as.filterMap f) H1):fN J (gName 0) tc te (none::tl) H1 fin:=by
 refine gy S (λσ=>∃w0,σ=w0::tl) ⟨_,rfl⟩ (λi ys H=>H=H1/\ys=(as.take i).filterMap f) ⟨rfl,by simp⟩ hz ?_ ?_
 ·rintro i x σ H ys H3 Q N hi sm ⟨rfl,rfl⟩ hl ⟨w0,rfl⟩ it kq kn;obtain rfl:=sub _ _ _ _ it;have ea:as[i]?=some as[i]:=aai hi;refine hs i _ x ea it _ _ (λz e=>kq _ _ _ ⟨_,rfl⟩ sm ⟨rfl,?_⟩) (λe=>kn _ _ ⟨_,rfl⟩ sm ⟨rfl,?_⟩)
  ·rw[aaF,ea,aa3];simp [e]
  ·rw[aaF,ea,aa3];simp [e]
 ·rintro ys H sm ⟨rfl,rfl⟩ hl;rw[aau (aag _)];exact lP
theorem cW {a b:TS} {D:Ends} {σ:St} {H:Hp} (C:St->Hp->Prop) (ha:∀N:St->Hp->Prop,(∀σ' H',C σ' H'->N σ' H')->a {D with nx:=N} σ H) (hb:∀σ' H',C σ' H'->b D σ' H'):tSeq a b D σ H:=ha _ hb
theorem oM {tc:TT} {a b:TS} {D:Ends} {σ:St} {H:Hp} (C1 C2:Hp->Prop) (h1:∀H',C1 H'->a D σ H') (h2:∀H',C2 H'->b D σ H')
  (ht:∀Y N:Hp->Prop,(∀H',C1 H'->Y H')->(∀H',C2 H'->N H')->tc σ H λv H'=>if v=true then Y H' else N H'):tIfS tc a b D σ H:=ht _ _ h1 h2
end
end L2
namespace Nm
abbrev pos (ps:Ws):Ws:=ps.filter λp=>decide (0<p.2)
abbrev jc (ps:Ws):Ws:=cR [] (pos ps)
abbrev bad (ps:Ws):Prop:=(∃p∈ps,p.2<0)\/pos ps=[]
theorem Bi (ps:Ws) (p:Int×Int):pos (ps++ [p])=if 0<p.2 then pos ps++ [p] else pos ps:=by
 unfold pos;rw[List.filter_append]
 by_cases c:0<p.2
 ·rw[if_pos c];simp [c]
 ·rw[if_neg c];simp [c]
theorem Bj (ps:Ws) (p:Int×Int):jc (ps++ [p])=if 0<p.2 then iZ (jc ps) p.1 p.2 else jc ps:=by
 unfold jc;rw[Bi]
 split
 ·rw[uu]
 ·rfl
theorem lR (ps:Ws):(keys (jc ps)).Nodup:=j9 (by simp [keys])
theorem xZ (ps:Ws):(jc ps).length<=ps.length:=by
 have:=oJ (pos ps) [];have h2:(pos ps).length<=ps.length:=List.length_filter_le _ _;unfold jc;simp only[aa0] at this;lia
theorem x6 {ps:Ws}:jc ps=[]↔pos ps=[]:=by
 constructor
 ·intro h;cases e:pos ps with
  | nil=>rfl
  | cons p r=>
   have m:p.1∈keys (jc ps):=by
    unfold jc;rw[e];exact jD.mpr (.inr (by simp [keys]))
   rw[h] at m;simp [keys] at m
 ·intro h;unfold jc;rw[h];rfl
theorem DV (ps:Ws):∀p∈pos ps,0<p.2:=λp hp=>by
 unfold pos at hp
 simpa using (List.mem_filter.mp hp).2
theorem DW (ps:Ws):∀k∈keys (jc ps),0<look (jc ps) k:=λk hk=>by
 unfold jc at *;rw[mI];have h:k∈keys (pos ps):=by
  rcases jD.mp hk with z | z
  ·simp [keys] at z
  ·exact z
 have:=nJ (DV ps) h;simp only[look];lia
theorem DX (ps:Ws):oG (jc ps)=oG (pos ps):=by
 unfold jc;rw[oH];simp [oG]
theorem oN {c:Int} (c0:0<=c):∀{ps:Ws},(∀p∈ps,p.2<=c)->oG (pos ps)<=ps.length*c
 | [],_=>by simp [pos,oG]
 | p::r,h=>by
  have ih:=oN c0 λq hq=>h q (aam _ hq);have hp:=h p aas;rw[aap,Int.natCast_succ,Int.add_mul];unfold pos at *;rw[List.filter_cons]
  split
  ·rw[show oG (p::List.filter (λp=>decide (0<p.2)) r)=p.2+oG (List.filter (λp=>decide (0<p.2)) r) from by unfold oG;rw[aae,List.sum_cons]];lia
  ·lia
end Nm
namespace L2
open PySem PySem.Spec PyProof.Rows PySem.W
section
variable {X : Cx} {K : aba}
theorem x8:∀{us:List Value} {ts:List Str},bq (ts.map V.str) us->∃l:List (Str×Tok),strValues l=us/\l.map (·.1)=ts
 | _,[],.nil=>⟨[],rfl,rfl⟩
 | _,x::ts,.cons r t=>by
  obtain⟨k,rfl⟩:=(r:∃k,_=Value.str x k)
  obtain⟨l,rfl,rfl⟩:=x8 t;exact⟨(x,k)::l,rfl,rfl⟩
abbrev rJoin (K:aba):V->List V->Hp->VK->Prop:=λx xs H Q=>∃sep p ts,x=.str sep/\xs=[.ref p]/\bC K H p (List.map V.str ts)/\JoinOk sep ts=true/\Q (.str (Txt.join sep ts)) H
theorem DY:Hj X "str.join" (rJoin X.K):=by
 intro pins s σ H x xs v us Q I rx rv h;obtain⟨sep,p,ts,rfl,rfl,hq,ok,q⟩:=h;obtain⟨t,rfl⟩:=rx;obtain⟨u,rfl,ru⟩:=vals1 rv;cases ru;obtain⟨ba,r,pl,hz⟩:=I.list hq;obtain⟨l,rfl,e2⟩:=x8 r;exact SC.join pl.isList e2 ok λt' k=>⟨.str _,H,I.tok _,⟨_,rfl⟩,q⟩
theorem uz (hK:X.K=K:=by rfl):Hj X "str.join" (rJoin K):=by subst hK;exact DY
theorem wu:cM X (.type "str") (λxs H Q=>∃i,xs=[.int i]/\i.natAbs.log2<1920/\Q (.str (toString i)) H):=rB
theorem wy:cM X (.type "int") (λxs H Q=>∃k,xs=[.bl k]/\Q (.int (if k then 1 else 0)) H):=by
 intro pins s σ H xs us Q I r h;exact za pins s σ H xs us Q I r (.inr h)
@[inline]abbrev TJ:=Str->TE
abbrev jNil:TJ:=λacc _ H Q=>Q (.str acc) H
abbrev jLit (x:Str) (t:TJ):TJ:=λacc σ H Q=>(acc++x).length<=sizeLine/\t (acc++x) σ H Q
abbrev jInt (te:TE) (t:TJ):TJ:=λacc σ H Q=>te σ H λv H1=>∃i,v=.int i/\i.natAbs.log2<1920/\(acc++toString i).length<=sizeLine/\t (acc++toString i) σ H1 Q
abbrev jStr (te:TE) (t:TJ):TJ:=λacc σ H Q=>te σ H λv H1=>∃z,v=.str z/\z.length<=sizeLine/\(acc++z).length<=sizeLine/\t (acc++z) σ H1 Q
abbrev tJoined (t:TJ):TE:=λσ H Q=>t Str.empty σ H Q
end
open PySem PySem.Spec PyProof.Rows PySem.W
inductive Pl where
 | fin (w:Int×Int) | dM (w:Int×Int) (ws:List (Int×Int)) | pck (vn:Int) (to:List Int)
theorem oO {ds:List Dat} {n:Nat} (h:∀d∈ds,depth d<=n):depth.dL ds<=n:=by
 induction ds with
 | nil=>rw[depth.dL];lia
 | cons d ds ih=>
  rw[depth.dL];have:=h d aas;have:=ih λe he=>h e (aam _ he);lia
abbrev cG (H:Hp) (p:Addr):Hp:=λa=>if a=p then none else H a
theorem cu {H:Hp} {p a:Addr} (h:a≠p):cG H p a=H a:=if_neg h
theorem x9 {H:Hp} {p:Addr} {o:HO}:aw (cG H p) (upd H p o):=λa u e=>by
 unfold cG at e
 by_cases h:a=p
 ·rw[if_pos h] at e;cases e
 ·rw[if_neg h] at e;rw[av h];exact e
theorem cX {H:Hp} {p:Addr}:aw (cG H p) H:=λa u e=>by
 unfold cG at e
 by_cases h:a=p
 ·rw[if_pos h] at e;cases e
 ·rw[if_neg h] at e;exact e
theorem kf {H0 H:Hp} {p:Addr} (s:aw H0 H) (n:H0 p=none):aw H0 (cG H p):=λa u e=>by
 rw[cu (λz=>by rw[z,n] at e;cases e)];exact s _ _ e
theorem dN {H H':Hp} {p:Addr} (s:aw H H'):aw (cG H p) (cG H' p):=λa u e=>by
 unfold cG at *
 by_cases h:a=p
 ·rw[if_pos h] at e;cases e
 ·rw[if_neg h] at e ⊢;exact s _ _ e
theorem bZ {H0 H:Hp} {p:Addr} {o:HO} (s:aw H0 H) (n:H0 p=none):aw H0 (upd H p o):=(kf s n).trans x9
section
variable {X : Cx} {K : aba}
end
end L2
namespace PySem
section
variable {prog : Program} {w : World} {A : Around} {E : Value -> Shared -> Prop} {s : Shared}
end
end PySem
namespace L2
open PySem PySem.Spec PyProof.Rows PySem.W
section
variable {X : Cx} {K : aba}
abbrev tRev (K:aba) (te:TE):TE:=λσ H Q=>te σ H λv H1=>∃p xs,v=.ref p/\bC K H1 p xs/\∀l,H1 l=none->Q (.ref l) (upd H1 l (.lst xs.reverse))
abbrev tD1 (tk tv:TE):TE:=λσ H Q=>∀d,H d=none->tk σ (upd H d (.dK [])) λx H1=>tv σ H1 λv H2=>∃k,x=kV k/\H2 d=some (.dK [])/\Q (.ref d) (upd H2 d (.dK [(k,v)]))
end
end L2
namespace PySem
section
variable {prog : Program} {w : World} {A : Around} {R : Result -> Shared -> Prop} {I : Addr} {fp wr : List Addr} {n : Nat} {P : Nat -> Value -> Prop} {St : Nat -> Heap -> Prop} {kw : List (Str × Value)}
end
section
variable {prog : Program} {w : World} {A : Around} {E : Value -> Shared -> Prop} {s : Shared}
end
end PySem
namespace L2
open PySem PySem.Spec PyProof.Rows PySem.W
section
variable {X : Cx} {K : aba}
abbrev tMaxD (K:aba) (te td:TE):TE:=λσ H Q=>te σ H λv H1=>td σ H1 λdv H2=>∃p ns,v=.ref p/\bC K H2 p (List.map V.int ns)/\(ns=[]->Q dv H2)/\∀M,M∈ns->(∀a∈ns,a<=M)->Q (.int M) H2
abbrev tLR (te:TE):TE:=λσ H Q=>te σ H λv H1=>∃n:Nat,v=.int (n:Int)/\n<=1000000/\∀l,H1 l=none->Q (.ref l) (upd H1 l (.lst ((List.range n).map λi:Nat=>V.int (i:Int))))
end
end L2
namespace PySem
open Builtin Builtin.Str
section
variable {prog : Program} {w : World} {A : Around} {E : Value -> Shared -> Prop} {s : Shared} {x y : Str} {t u : Tok} {Q : Value -> Shared -> Prop}
end
end PySem
namespace L2
open PySem PySem.Spec PyProof.Rows PySem.W
section
variable {X : Cx} {K : aba}
abbrev XW (z:Str):It:=⟨λi _=>i<z.cps.size,λi H x H'=>H'=H/\∃c,z.cps[i]?=some c/\x=.str ⟨#[c]⟩,λi _=>z.cps.size<=i⟩
abbrev iStr (tl:TE):TI:=λσ H R=>tl σ H λx H1=>∃z,x=.str z/\z.cps.all (·<128)=true/\R (XW z) H1
theorem zy {K:aba} {J:It} {te:TE} {tl:St} {H1:Hp} {fin:List V->Hp->Prop} {n:Nat} {Item:Nat->V->Hp->Hp->Prop} (S:Src J (aw H1) n Item) (VN:Nat->V->V->V->Hp->Prop)
  (tp:∀i x H H3,i<n->aw H1 H->Item i x H H3->aw H H3/\∃p a b c,x=.ref p/\iP K H3 p [a,b,c]/\VN i a b c H3) (hz:n<=sizeLine)
  (R:Nat->V->Hp->Prop) (mono:∀i y H H',aw H H'->R i y H->R i y H')
  (hs:∀i a b c H3 (Q:VK),i<n->aw H1 H3->VN i a b c H3->(∀y H6,aw H3 H6->R i y H6->Q y H6)->te (some a::some b::some c::tl) H3 Q)
  (lP:∀ys H,aw H1 H->ys.length=n->(∀(i:Nat) y,ys[i]?=some y->R i y H)->fin ys H):fN J (yZ K 3 (gCons (gName 0) (gCons (gName 1) (gCons (gName 2) gNil)))) pP te (none::none::none::tl) H1 fin:=by
 refine⟨λi m ys σ H=>m=n - i/\i<=n/\ys.length=i/\(∃w w' VO,σ=w::w'::VO::tl)/\aw H1 H/\∀(j:Nat) y,ys[j]?=some y->R j y H,⟨n,by simp,aah _,rfl,⟨_,_,_,rfl⟩,aw.refl _,λj y e=>by simp at e⟩,?_⟩;rintro i m ys σ H ⟨rfl,hi,hl,⟨w,w',VO,rfl⟩,sm,p⟩
 by_cases mH:i<n
 ·refine .inr ⟨S.go i H mH sm,λx H3 y=>?_⟩;obtain⟨s3,q,a,b,c,rfl,sq,it⟩:=tp i x H H3 mH sm (S.y7 i H x H3 mH sm y);refine⟨q,_,rfl,sq,rfl,_,_,rfl,_,_,rfl,_,_,rfl,rfl,?_⟩;unfold pP;refine AO ?_;refine hs i a b c H3 _ mH (sm.trans s3) it λy H6 s6 r=>⟨⋯,n - (i+1),⋯,rfl,mH,by rw[aaq,aa6];lia,⟨_,_,_,rfl⟩,sm.trans (s3.trans s6),λj z e=>?_⟩
  by_cases hj:j<i
  ·rw[List.getElem?_append_left ⋯] at e;exact mono j z _ _ (s3.trans s6) (p j z e)
  ·rw[List.getElem?_append_right ⋯] at e;have e2:j - ys.length=0:=by
    by_cases q:j - ys.length=0
    ·exact q
    ·rw[List.getElem?_eq_none (by simp;lia)] at e;cases e
   rw[e2] at e;simp at e;subst e;have:j=i:=⋯
   subst this;exact r
 ·have e:i=n:=⋯
  subst e;exact .inl ⟨S.stop H sm,lP ys H sm hl p⟩
theorem kg {x:Str} {i:Int} {pos:Pos} (hg:Gl X x) (h:∃t,X.mg x=some (.int i t)) (hd:(x==("__debug__":Str))=false:=by decide):PE X (.Name x pos) (tC (.int i)):=by
 obtain⟨t,h⟩:=h;exact Dk hg h ⟨t,rfl⟩ hd
theorem DZ:AG X Hl:=Hn
end
end L2
namespace PySem
end PySem
namespace PySem
section
variable {M : Model} {A : Around} {E : Value -> Shared -> Prop} {s : Shared} {env : Env}
end
end PySem
namespace L2
open PySem PySem.Spec PyProof.Rows PySem.W
section
variable {M : Model} {A : Around} {E : Value -> Shared -> Prop} {s : Shared} {B : Heap} {l : List Env} {ad L : Addr} {cls a0 : Value} {p : Prop}
end
section
variable {P : Program} {w : World} {K : aba} {mg : Str -> Option Value} {base : Heap} {N : List Str} {qual : Str} {scope : Scope} {f : Addr} {bY : Value} {A : Around} {outer : List Env} {s0 : Shared} {H0 : Hp} {E : XK}
end
open PySem PySem.Spec PyProof.Rows PySem.W
section
variable {X : Cx}
abbrev HU:V->List V->Hp->VK->Prop:=λx vs H Q=>∃l xs i y,x=.ref l/\vs=[.int i,y]/\H l=some (.lst xs)/\0<=i/\i<=(xs.length:Nat)/\xs.length<sizeLine/\Q .cU (upd H l (.lst (xs.take i.toNat++y::xs.drop i.toNat)))
theorem qI:Fw X "list.insert" HU:=by
 intro pins s σ H x vs v us Q I rx rv h;obtain⟨l,xs,i,y,rfl,rfl,hH,h0,h1,hz,q⟩:=h;cases rx;obtain⟨u1,u2,rfl,⟨t,rfl⟩,ru⟩:=vals2 rv;obtain⟨z,ba,n,r,hl,e⟩:=I.rH hH;have sl:=sizeLine_eq;refine call_meets PySem.F.slot_list_insert ⟨_,e,rfl⟩ PySem.F.entry_list_insert (PySem.F.args_list_insert_3 _ _ _) (AutoSeq1.list_insert_list_int_val_1 l ba.toArray n i t u2 (by rw[fitsIndex_both ⋯ ⋯];decide) (by rw[aaj];lia)) ⟨e,?_⟩;have k2:(if i<0 then (i+ (ba.toArray.size:Int)).toNat else min i.toNat ba.toArray.size)=i.toNat:=by
  rw[if_neg ⋯,aaj];lia
 refine⟨.cU,_,I.AI (its':=ba.take i.toNat++u2::ba.drop i.toNat) hH e ?_ ?_ ?_,rfl,q⟩
 ·show(ba.toArray.extract 0 (if i<0 then (i+ (ba.toArray.size:Int)).toNat else min i.toNat ba.toArray.size)).push u2++ba.toArray.extract (if i<0 then (i+ (ba.toArray.size:Int)).toNat else min i.toNat ba.toArray.size)=_;rw[k2];apply Array.toList_inj.mp;simp [aau]
 ·exact(r.take _).append (.cons ru (r.drop _))
 ·simp;lia
end
open PySem PySem.Spec PyProof.Rows PySem.W
@[inline]abbrev VP (h:Heap) (T:Addr) (a b c:Value):Prop:=h.get? T=some {cls:=.type "tuple",data:=.seq #[a,b,c]}
structure Ap3 (z TI TO i1 i2 i3 a b c:Addr):Prop where
 TIz:TI≠z
 TOz:TO≠z
 i1z:i1≠z
 i2z:i2≠z
 i3z:i3≠z
 TITO:TI≠TO
 TI1:TI≠i1
 TI2:TI≠i2
 TI3:TI≠i3
 TO1:TO≠i1
 TO2:TO≠i2
 TO3:TO≠i3
 i12:i1≠i2
 i13:i1≠i3
 i23:i2≠i3
 az:a≠z
 bz:b≠z
 cz:c≠z
 bTO:b≠TO
 cTO:c≠TO
 b1:b≠i1
 c1:c≠i1
 c2:c≠i2
section
variable {prog : Program} {w : World} {A : Around} {E : Value -> Shared -> Prop} {s : Shared}
end
@[inline]abbrev VQ (h:Heap) (la:Addr):Heap:=h.push {cls:=.type "list_iterator",data:=.fields #[.ref la,.int 0 0]}
@[inline]abbrev VR (h:Heap) (la lb:Addr):Heap:=(VQ h la).push {cls:=.type "list_iterator",data:=.fields #[.ref lb,.int 0 0]}
@[inline]abbrev VS (h:Heap) (la lb lc:Addr):Heap:=(VR h la lb).push {cls:=.type "list_iterator",data:=.fields #[.ref lc,.int 0 0]}
@[inline]abbrev VT (h:Heap) (la lb lc:Addr):Heap:=(VS h la lb lc).push {cls:=.type "tuple",data:=.seq #[.ref h.objs.size,.ref (VQ h la).objs.size,.ref (VR h la lb).objs.size]}
@[inline]abbrev XX (h:Heap) (la lb lc:Addr):Heap:=(VT h la lb lc).push {cls:=.type "tuple",data:=.seq #[.none,.none,.none]}
@[inline]abbrev z3f (h:Heap) (la lb lc:Addr):Heap:=(XX h la lb lc).push {cls:=.type "zip",data:=.fields #[.none,.bool false,.bool false,.ref (VS h la lb lc).objs.size,.ref (VT h la lb lc).objs.size]}
section
variable {prog : Program} {w : World} {A : Around} {E : Value -> Shared -> Prop} {s : Shared}
end
section
variable {X : Cx} {elts : List Expr} {kk : Nat} {nh : Pos} {K : aba}
end
open PySem PySem.Spec PyProof.Rows PySem.W
abbrev VU:V->Option Str
 | .str z=>some z
 | .int i=>if i.natAbs.log2<1920 then some (aac (toString i)) else none
 | _=>none
section
variable {X : Cx} {K : aba}
theorem wA:cM X (.type "str") (λxs H Q=>∃x z,xs=[x]/\VU x=some z/\Q (.str z) H):=by
 intro pins s σ H xs us Q I r h;obtain⟨x,z,rfl,hz,q⟩:=h;obtain⟨u,rfl,ru⟩:=vals1 r;cases x with
 | str y=>
  obtain⟨t,rfl⟩:=ru;cases hz;exact PySem.P.str_of_str ⟨.str _,H,I,⟨_,rfl⟩,q⟩
 | int i=>
  obtain⟨t,rfl⟩:=ru;have hz:(if i.natAbs.log2<1920 then some (aac (toString i)) else none)=some z:=hz
  by_cases c:i.natAbs.log2<1920
  ·rw[if_pos c] at hz;cases hz;exact PySem.P.str_of_int c ⟨.str _,H,I.tok _,⟨_,rfl⟩,q⟩
  ·rw[if_neg c] at hz;cases hz
 | _=>cases hz
end
open PySem PySem.Spec PyProof.Rows PySem.W
section
variable {X : Cx} {K : aba}
abbrev tSortR (K:aba) (te:TE):TE:=λσ H Q=>te σ H λv H1=>∃p ns,v=.ref p/\bC K H1 p (List.map V.int ns)/\ns.length<64/\∀l,H1 l=none->Q (.ref l) (upd H1 l (.lst (List.map V.int (Nm.rN ns).reverse)))
theorem Bk {e d:Expr} {te:TE} {p1 pos kp:Pos} (hg:Gl X "sorted") (hm:X.mg "sorted"=none) (he:PE X e te) (hd:PE X d (tC (.bl true))) (n1:noStar e=true:=by rfl):
  PE X (.Call (.Name "sorted" p1) [e] [⟨some "reverse",d,kp⟩] pos) (tSortR X.K te):=by
 intro pins s σ H Q I h;refine wpAny_Call_Name_kw (gk I hg hm (u:=.builtin "sorted") rfl ?_ ∅ ∅);refine PyProof.Rows.callWith_kw (e:=e) (rest:=[]) ?_ (by rw[se n1];rfl) (by rw[se n1];rfl) rfl rfl;rw[se n1];show wpAny _ _ (spliced [(false,eval e X.env)]) _ _ s;refine Calls.spliced_cons (cK (he pins s σ H _ I h) λu s1 ⟨x,H1,I1,r1,q1⟩=>Calls.spliced_nil ?_);refine PyProof.Rows.kws_cons (cK (hd pins s1 σ H1 (λv H2=>v=.bl true/\H2=H1) I1 ⟨rfl,rfl⟩) λdv s2 ⟨y,H2,I2,r2,ey,eh⟩=>PyProof.Rows.kws_nil ?_);subst ey;subst eh;have r2:dv=.bool true:=r2;subst r2;obtain⟨p,ns,rfl,hq,hn,q⟩:=q1;cases r1;obtain⟨ba,rv,pl,hz⟩:=I2.list hq;have hl:=rv.length;rw[aad] at hl;show wpAny _ _ (call (.builtin "sorted") [.ref p] [(aac "reverse",.bool true)]) _ _ _;refine sorted_ints_rev pl.isList (intsAre_of rv) ⋯ λout Af a1 a2 a3=>?_;have a3:Af.Pairwise (·≥·):=a3;have e3:Af=(Nm.rN ns).reverse:=by
  have:=Nm.rO ((List.reverse_perm Af).trans a2) (List.pairwise_reverse.mpr a3);rw[<-this,List.reverse_reverse]
 subst e3;obtain⟨e,he⟩:=sortedAll_at s2.heap ba out;have fr:=I2.bP.fresh (a:=s2.heap.objs.size+1) (Nat.le_succ _);refine⟨.ref (s2.heap.objs.size+1),_,I2.laid (t':=s2.toks) (λ_ _=>sortedAll_old) (Nat.le_succ _) (o:=.lst (List.map V.int (Nm.rN ns).reverse)) ⟨?_,out.toList,e,gW a1,?_⟩,rfl,q _ fr⟩
 ·rw[aad,List.length_reverse,Nm.gU,sizeLine_eq];lia
 ·exact he
theorem zz {e d:Expr} {te:TE} {p1 pos kp:Pos} (hg:Gl X "sorted") (hm:X.mg "sorted"=none) (he:PE X e te) (hd:PE X d (tC (.bl true))) (n1:noStar e=true:=by rfl) (hK:X.K=K:=by rfl):
  PE X (.Call (.Name "sorted" p1) [e] [⟨some "reverse",d,kp⟩] pos) (tSortR K te):=by subst hK;exact Bk hg hm he hd n1
end
end L2
namespace PySem.SeqAt
open AutoSeq1 (wpAny_loadPart')
open MeetsSeq MeetsSeq2 MeetsSeq3
end PySem.SeqAt
namespace L2
open PySem PySem.Spec PyProof.Rows PySem.W
abbrev FD:List Int->List Int->Bool
 | [],[]=>true
 | [],_::_=>false
 | _::_,[]=>true
 | a::r,b::q=>if a=b then FD r q else decide (b<=a)
section
variable {X : Cx} {K : aba}
end
end L2
namespace PySem.UL
section
variable {prog : Program} {w : World} {A : Around} {E : Value -> Shared -> Prop} {s : Shared}
end
theorem qJ {α:Type}:∀l:List α,(List.range l.length).filterMap (λk=>l[k]?)=l
 | []=>rfl
 | a::r=>by
  rw[aap,List.range_succ_eq_map,aaT];simp only[List.getElem?_cons_zero];rw[List.filterMap_map];have:=qJ r
  simpa [Function.comp_def] using this
open Builtin in
theorem pick_rev (items:List Value):slicePick items.toArray none none (some (-1))=items.reverse.toArray:=by
 unfold slicePick;have e:sliceRange (sliceBounds none none (some (-1)) items.toArray.size).1 (sliceBounds none none (some (-1)) items.toArray.size).2.1 (sliceBounds none none (some (-1)) items.toArray.size).2.2=Builtin.Str.strSliceIndices none none (-1) items.length:=by
  rw[aaj];rfl
 rw[e,PyProof.Rows.picked_rev];congr 1;rw[List.filterMap_map];have h:∀l:List Nat,(∀k∈l,k<items.length)->l.filterMap ((λk=>items.toArray[k]?) ∘λk=>items.length - 1 - k)=l.filterMap λk=>items.reverse[k]?:=by
  intro l
  induction l with
  | nil=>intro _;rfl
  | cons k r ih=>
   intro hk;have e:((λk=>items.toArray[k]?) ∘λk=>items.length - 1 - k) k=items.reverse[k]?:=by
    rw[List.getElem?_reverse (hk k (by simp))];simp
   rw[aaT,aaT,e,ih λx hx=>hk x (aam _ hx)]
 rw[h _ λk hk=>List.mem_range.mp hk];have:=qJ items.reverse
 rwa [List.length_reverse] at this
end PySem.UL
namespace L2
open PySem PySem.Spec PyProof.Rows PySem.W
section
variable {X : Cx} {K : aba}
abbrev HV (K:aba) (te ts:TE):TE:=λσ H Q=>te σ H λx H1=>ts σ H1 λy H2=>∃a xs,x=.ref a/\y=.int (-1)/\bC K H2 a xs/\∀p,H2 p=none->Q (.ref p) (upd H2 p (.lst xs.reverse))
theorem Bl {e st:Expr} {te ts:TE} {p2 pos:Pos} (he:PE X e te) (hs:PE X st ts):PE X (.Subscript e (.Slice none none (some st) p2) pos) (HV X.K te ts):=by
 intro pins s σ H Q I h;refine Subscript_ (cK (he pins s σ H _ I h) λv s1 dB=>?_);obtain⟨x,H1,I1,r1,q1⟩:=dB;refine wpAny_Slice ?_;rw[evalPart_none];refine wpAny_pure ?_;refine wpAny_pure ?_;rw[evalPart_some];refine cK (hs pins s1 σ H1 _ I1 q1) λvs s2 dB=>?_;obtain⟨y,H2,I2,r2,q2⟩:=dB;obtain⟨a,xs,rfl,rfl,hx,q⟩:=q2;obtain⟨t,rfl⟩:=r2;cases r1;have I4:Inv X pins σ H2 {s2 with heap:=s2.heap.push {cls:=.type "slice",data:=.fields #[.none,.none,.int (-1) t]}}:=I2.kept (t':=s2.toks) λb ob q=>abk _ q;obtain⟨ba,r,ht,hz⟩:=I4.list hx;have hlen:=r.length;show wpAny (model X.prog X.w) X.A (subscriptTail e (.Slice none none (some st) p2) (.ref a) (.ref s2.heap.objs.size)) (EP X pins σ Q) X.xe {s2 with heap:=s2.heap.push {cls:=.type "slice",data:=.fields #[.none,.none,.int (-1) t]}};refine tail_any (ops:=[.ref a,.ref s2.heap.objs.size]) ht.isList.typeIs slot_list_getitem.lookup ?_ (by with_unfolding_all rfl);refine wpAny_getItem_list_slice ht.isList (Heap.IsSliceOf.new ..) .none .none (.int (-1) t) (by simp) ?_ (by rw[aaj] <;>lia);rw[PySem.UL.pick_rev];refine⟨.ref _,_,I4.laid (t':=s2.toks) (o:=.lst xs.reverse) (λb ob q=>abk _ q) (aag _) ?_,rfl,q _ (I4.bP.fresh (aag _))⟩;exact⟨by rw[List.length_reverse];exact hz,_,0,r.reverse,abl _ rfl⟩
theorem zA {e st:Expr} {te ts:TE} {p2 pos:Pos} (he:PE X e te) (hs:PE X st ts) (hK:X.K=K:=by rfl):PE X (.Subscript e (.Slice none none (some st) p2) pos) (HV K te ts):=by subst hK;exact Bl he hs
end
structure ya (P:Program) (w:World) (K:aba) (mg:Str->Option Value) (base:Heap) (CX:lG) (k:Nat) (x:Str) (C:Addr) (ps:List Str) (sp:Sp):Prop where
 ex:∃f fd,Mk K C f/\fK P w K mg base CX k f fd ps sp/\mg x=some (.ref C)/\Binds K fd ps []
section
variable {X : Cx}
theorem FE {CX:lG} {k:Nat} {x:Str} {C:Addr} {ps:List Str} {sp:Sp} {E:XK} {e:Expr} {es:List Expr} {t:TA} {p pos:Pos} (M:ya X.prog X.w X.K X.mg X.base CX k x C ps sp) (hr:dY (k+1) X.A) (hg:Gl X x) (hx:eU CX X E) (ha:PA X (e::es) t)
  (ze:(x==("__debug__":Str))=false:=by decide) (he:starEach (e::es) X.env=(false,eval e X.env)::starEach es X.env:=by first | exact se rfl | rfl) (hpl:(backTo pos (starEach es X.env)).any (·.1)=false:=by first | exact na rfl | rfl):
  PE X (.Call (.Name x p) (e::es) [] pos) (xF C sp [] E t):=by
 obtain⟨f,fd,m,F,hm,hb⟩:=M.ex;exact Du m F hr hg hm hb .nil hx ha ze he hpl
end
structure PN (K:aba) (mg:Str->Option Value) (x qual:Str) (st:Stmt) (C:Addr):Prop where
 ex:∃f fd,vZ K "__init__" qual st f fd/\Mk K C f/\mg x=some (.ref C)
theorem PN.dF {P:Program} {w:World} {K:aba} {mg:Str->Option Value} {base:Heap} {CX:lG} {x qual:Str} {st:Stmt} {C:Addr} {ps:List Str} {k:Nat} {sp:Sp} (D:PN K mg x qual st C)
  (hb:∀(kV doc pm:Value) (an:Option Addr) (bY ct:Value) (us:List Value),us.length=ps.length->bindArgs (abd "__init__" qual (bE st) (bA st) (aq st) .none kV doc pm an bY ct) ⟨us,[]⟩=pure (ps.zip us))
  (h:∀f fd,vZ K "__init__" qual st f fd->fK P w K mg base CX k f fd ps sp):ya P w K mg base CX k x C ps sp:=by
 obtain⟨f,fd,F,m,hm⟩:=D.ex;exact⟨f,fd,m,h f fd F,hm,F.binds hb⟩
noncomputable instance J4:DecidableEq PyData:=λ_ _=>Classical.propDecidable _
mutual
noncomputable def f6:PyData->Bool
 | .int _=>true
 | .str x=>PyData.canLay0 (.str x)
 | .tuple xs=>lS xs
 | _=>false
noncomputable def lS:List PyData->Bool
 | []=>true
 | x::xs=>f6 x && lS xs
end
mutual
theorem D0:∀(d:PyData),f6 d=true->d.canLay0=true
 | .none,h=>by simp [f6] at h
 | .bool _,h=>by simp [f6] at h
 | .int _,_=>by simp [PyData.canLay0]
 | .str x,h=>by rw[f6] at h;exact h
 | .list _,h=>by simp [f6] at h
 | .tuple xs,h=>by rw[f6] at h;rw[PyData.canLay0];exact uA xs h
 | .dict _,h=>by simp [f6] at h
theorem uA:∀(xs:List PyData),lS xs=true->PyData.canLayAll0 xs=true
 | [],_=>by simp [PyData.canLayAll0]
 | x::xs,h=>by
  rw[lS,aaL] at h;rw[PyData.canLayAll0,aaL];exact⟨D0 x h.1,uA xs h.2⟩
end
mutual
theorem HW:∀(x y:PyData),f6 x=true->f6 y=true->PyData.eqv x y=decide (x=y)
 | .int i,y,_,hy=>by
  cases y with
  | int j=>
   rw[PyData.eqv]
   by_cases c:i=j
   ·subst c;simp
   ·rw[decide_eq_false (λe=>c (by injection e))];simp [c]
  | str _=>simp [PyData.eqv]
  | tuple _=>simp [PyData.eqv]
  | _=>simp [f6] at hy
 | .str a,y,_,hy=>by
  cases y with
  | str b=>
   rw[PyData.eqv]
   by_cases c:a=b
   ·subst c;simp
   ·rw[decide_eq_false (λe=>c (by injection e))];simp [c]
  | int _=>simp [PyData.eqv]
  | tuple _=>simp [PyData.eqv]
  | _=>simp [f6] at hy
 | .tuple xs,y,hx,hy=>by
  cases y with
  | tuple ys=>
   rw[f6] at hx hy;rw[PyData.eqv,yb xs ys hx hy]
   by_cases c:xs=ys
   ·subst c;simp
   ·rw[decide_eq_false c,decide_eq_false (λe=>c (by injection e))]
  | int _=>simp [PyData.eqv]
  | str _=>simp [PyData.eqv]
  | _=>simp [f6] at hy
 | .none,_,h,_=>by simp [f6] at h
 | .bool _,_,h,_=>by simp [f6] at h
 | .list _,_,h,_=>by simp [f6] at h
 | .dict _,_,h,_=>by simp [f6] at h
theorem yb:∀(xs ys:List PyData),lS xs=true->lS ys=true->PyData.eqvAll xs ys=decide (xs=ys)
 | [],[],_,_=>by simp [PyData.eqvAll]
 | [],_::_,_,_=>by simp [PyData.eqvAll]
 | _::_,[],_,_=>by simp [PyData.eqvAll]
 | x::xs,y::ys,hx,hy=>by
  rw[lS,aaL] at hx hy;rw[PyData.eqvAll,HW x y hx.1 hy.1,yb xs ys hx.2 hy.2]
  by_cases c:x=y
  ·subst c
   by_cases d:xs=ys
   ·subst d;simp
   ·rw[decide_eq_false d,decide_eq_false (λe=>d (List.cons.inj e).2)];simp
  ·rw[decide_eq_false c,decide_eq_false (λe=>c (List.cons.inj e).1)];simp
end
mutual
theorem wB {h h':Heap} {d:Addr} {o:Obj} {es ep} (ho:h.get? d=some o) (hd:o.data=.dict es ep) (hs:Heap.SameBut d h h'):∀(x:PyData) (v:Value) (as:List Addr),f6 x=true->Reads h v x as->Reads h' v x as
 | .int _,_,_,_,r=>by cases r;exact .int _ _
 | .str _,_,_,_,r=>by cases r;exact .str _ _
 | .tuple xs,_,_,hx,r=>by
  rw[f6] at hx;cases r with
  | @tuple a o' vs n _ _ e c q t=>
   have ne:a≠d:=λz=>by
    subst z;rw[ho] at e;cases e;rw[hd] at q;cases q
   exact .tuple ((hs.2 a ne).trans e) c q (mJ ho hd hs xs _ _ hx t)
 | .none,_,_,h,_=>by simp [f6] at h
 | .bool _,_,_,h,_=>by simp [f6] at h
 | .list _,_,_,h,_=>by simp [f6] at h
 | .dict _,_,_,h,_=>by simp [f6] at h
theorem mJ {h h':Heap} {d:Addr} {o:Obj} {es ep} (ho:h.get? d=some o) (hd:o.data=.dict es ep) (hs:Heap.SameBut d h h'):∀(xs:List PyData) (vs:List Value) (as:List Addr),lS xs=true->ReadsAll h vs xs as->ReadsAll h' vs xs as
 | [],_,_,_,r=>by cases r;exact .nil
 | x::xs,_,_,hx,r=>by
  rw[lS,aaL] at hx;cases r with
  | cons r1 r2=>exact .cons (wB ho hd hs x _ _ hx.1 r1) (mJ ho hd hs xs _ _ hx.2 r2)
end
mutual
noncomputable def yc (w:World):PyData->Int
 | .int i=>GZ w (.inl i)
 | .str x=>GZ w (.inr x)
 | .tuple xs=>reduceHash (Builtin.Tuple.tupleHashOf (f9 w xs))
 | _=>0
noncomputable def f9 (w:World):List PyData->List Int
 | []=>[]
 | x::xs=>yc w x::f9 w xs
end
mutual
noncomputable def PQ:PyData->Nat
 | .tuple xs=>oP xs+1
 | _=>1
noncomputable def oP:List PyData->Nat
 | []=>0
 | x::xs=>PQ x+oP xs
end
section
variable {prog : Program} {w : World}
abbrev PH (prog:Program) (w:World) (m:Nat) (h:Heap) (d:PyData) (v:Value):Prop:=∀(A:Around) (E:Value->Shared->Prop) (s:Shared) (Q:Int->Shared->Prop),s.heap=h->A.units+m<cLine->
 Q (yc w d) {s with toks:=s.toks+PQ d}->wpAny (model prog w) A (pyHash v) Q E s
inductive FF (prog:Program) (w:World) (m:Nat) (h:Heap):List PyData->List Value->Prop
 | nil:FF prog w m h [] []
 | cons {d v ds vs}:PH prog w m h d v->FF prog w m h ds vs->FF prog w m h (d::ds) (v::vs)
theorem zB (xs ys:List PyData):f9 w (xs++ys)=f9 w xs++f9 w ys:=by
 induction xs with
 | nil=>simp [f9]
 | cons x xs ih=>simp [f9,ih]
theorem Bm (xs ys:List PyData):oP (xs++ys)=oP xs+oP ys:=by
 induction xs with
 | nil=>simp [oP]
 | cons x xs ih=>simp [oP,ih,Nat.add_assoc]
theorem Bn {m:Nat} {h:Heap} {ds:List PyData} {a:Addr} {o:Obj} {items n} (ho:h.get? a=some o) (hc:o.cls=.type "tuple") (hd:o.data=.seq items n) (hi:FF prog w m h ds items.toList):PH prog w (m+1) h (.tuple ds) (.ref a):=by
 intro A E s Q hh hu hq;subst hh;have hT:s.TypeIs (.ref a) "tuple":=⟨o,ho,hc⟩
 have XY:A.units<cLine:=⋯
 unfold pyHash
 first | unfold pyHashByItsType | skip
 first | refine wpAny_bind (wpAny_cRoomFor_or (.inr XY) ?_) | skip
 refine wpAny_bind (wpAny_specialOf hT F.slot_tuple_hash.lookup ?_);show wpAny _ _ (if (some (Value.builtin "tuple.__hash__")==some Value.none)=true then _ else _) Q E s;rw[if_neg (by rw[beq_builtin_none];exact aat)];refine wpAny_bind (wpAny_specialOf hT F.slot_tuple_hash.lookup ?_);show wpAny _ _ (callSpecialIfBoundUnlessNone? (.ref a) "__hash__" _ >>=_) Q E s;refine wpAny_bind (wpAny_callSpecialIfBoundUnlessNone?_slot hT F.slot_tuple_hash (wpAny_call_entry F.slot_tuple_hash hT F.entry_tuple_hash ?_ (F.args_tuple_hash_1 _)));show wpAny _ _ (Builtin.Tuple.tupleItemsOf (.ref a) >>=_) _ _ s;refine wpAny_bind (wpAny_tupleItemsOf ho hd ?_);refine wpAny_bind ?_;rw[<-Array.forIn_toList];refine wpAny_forIn_list _
  (λrest (b:Array Int) s'=>∃done left,ds=done++left/\FF prog w m s.heap left rest/\b.toList=f9 w done/\s'={s with toks:=s.toks+oP done})
  _ ?_ ?_ _ _ ⟨[],ds,rfl,hi,rfl,rfl⟩
 ·rintro x rest b s' ⟨done,left,rfl,hl,hb,rfl⟩;cases hl with
  | @cons k _ VW _ h1 VX=>
   refine wpAny_bind (h1 _ _ _ _ rfl (by show A.units+1+m<cLine;lia) ?_);have e1:(b.push (yc w k)).toList=f9 w (done++ [k]):=by rw[zB];simp [hb,f9]
   have e2:s.toks+oP done+PQ k=s.toks+oP (done++ [k]):=by rw[Bm];simp [oP,Nat.add_assoc]
   first
    | exact wpAny_pure ⟨done++ [k],VW,by simp,VX,e1,by rw[<-e2]⟩
    | exact wpAny_bind (wpAny_pure (wpAny_pure ⟨done++ [k],VW,by simp,VX,e1,by rw[<-e2]⟩))
 ·rintro b s' ⟨done,left,rfl,hl,hb,rfl⟩;cases hl;rw[List.append_nil] at hq;show wpAny _ _ (retInt (Builtin.Tuple.tupleHashOf b.toList)) _ _ _;rw[hb];refine wpAny_ret_mkInt ?_;show wpAny _ _ (if (decide (-(2:Int)^63<=Builtin.Tuple.tupleHashOf (f9 w done)) && decide (Builtin.Tuple.tupleHashOf (f9 w done)<2^63))=true then _ else _) Q E _;rw[yc,PQ] at hq;unfold reduceHash at hq
  by_cases hr:(decide (-(2:Int)^63<=Builtin.Tuple.tupleHashOf (f9 w done)) && decide (Builtin.Tuple.tupleHashOf (f9 w done)<2^63))=true
  ·rw[if_pos hr];rw[if_pos hr] at hq;exact wpAny_pure (by simpa [Nat.add_assoc] using hq)
  ·rw[if_neg hr];rw[if_neg hr] at hq;exact wpAny_bind (wpAny_rule (wpAny_pure (by simpa [Nat.add_assoc] using hq)))
mutual
theorem HX {h:Heap}:∀(d:PyData) (v:Value) (as:List Addr),f6 d=true->Reads h v d as->PH prog w d.depth h d v
 | .int i,_,_,_,r=>by
  cases r with
  | int _ t=>
   intro A E s Q _ _ hq;exact(cE prog w).pyHash (k:=.inl i) (ox (k:=.inl i) ⟨t,rfl⟩) hq
 | .str x,_,_,_,r=>by
  cases r with
  | str _ t=>
   intro A E s Q _ _ hq;exact(cE prog w).pyHash (k:=.inr x) (ox (k:=.inr x) ⟨t,rfl⟩) hq
 | .tuple xs,_,_,hx,r=>by
  rw[f6] at hx;cases r with
  | tuple e c q t=>exact Bn e c q (yd xs _ _ hx t)
 | .none,_,_,h,_=>by simp [f6] at h
 | .bool _,_,_,h,_=>by simp [f6] at h
 | .list _,_,_,h,_=>by simp [f6] at h
 | .dict _,_,_,h,_=>by simp [f6] at h
theorem yd {h:Heap}:∀(ds:List PyData) (vs:List Value) (as:List Addr),lS ds=true->ReadsAll h vs ds as->FF prog w (PyData.depthAll ds) h ds vs
 | [],_,_,_,r=>by cases r;exact .nil
 | x::xs,_,_,hx,r=>by
  rw[lS,aaL] at hx;cases r with
  | cons r1 r2=>
   have p1:=HX x _ _ hx.1 r1;have p2:=yd xs _ _ hx.2 r2;have up:∀{m m':Nat} {ds:List PyData} {vs:List Value},m<=m'->FF prog w m h ds vs->FF prog w m' h ds vs:=λl q=>by
    induction q with
    | nil=>exact .nil
    | cons p _ ih=>exact .cons (λA E s Q e u=>p A E s Q e ⋯) ih
   refine .cons (λA E s Q e u=>p1 A E s Q e ?_) (up ?_ p2)
   ·rw[PyData.depthAll] at u;lia
   ·rw[PyData.depthAll];lia
end
theorem uB {h:Heap} {k:Nat} {a:Addr} {o:Obj} {items n} (ho:h.get? a=some o) (hc:o.cls=.type "tuple") (hd:o.data=.seq items n) (hi:∀v∈items.toList,∀(A:Around) (E:Value->Shared->Prop) (s:Shared) (Q:Bool->Shared->Prop),s.heap=h->Q true s->wpAny (model prog w) A (eqIsQuiet k v) Q E s)
  (A:Around) (E:Value->Shared->Prop) (s:Shared) (Q:Bool->Shared->Prop) (hh:s.heap=h) (hq:Q true s):wpAny (model prog w) A (eqIsQuiet (k+1) (.ref a)) Q E s:=by
 subst hh;have hT:s.TypeIs (.ref a) "tuple":=⟨o,ho,hc⟩
 unfold eqIsQuiet;refine wpAny_bind (wpAny_specialOf hT F.slot_tuple_eq.lookup ?_);show wpAny _ _ (isInstance (.ref a) (.type "tuple") >>=_) _ _ s;refine wpAny_bind (wpAny_isInstance hT isSubtype_tuple_tuple ?_);simp only[Bool.not_true,Bool.false_eq_true,if_false];refine wpAny_bind (wpAny_seqItems ho hd ?_);refine wpAny_bind ?_;show wpAny _ _ (forIn items _ _) _ _ s;rw[<-Array.forIn_toList];refine wpAny_forIn_list _ (λrest r s'=>r.1=none/\s'=s/\∀v∈rest,v∈items.toList) _ ?_ ?_ _ _ ⟨rfl,rfl,λ_ h=>h⟩
 ·rintro v rest r s' ⟨hr,rfl,zk⟩;refine wpAny_bind (hi v (zk v aas) _ _ _ _ rfl ?_);simp only[Bool.not_true,Bool.false_eq_true,if_false];exact wpAny_pure ⟨rfl,rfl,λu XZ=>zk u (aam _ XZ)⟩
 ·rintro⟨r1,r2⟩ s' ⟨hr,rfl,_⟩;simp only at hr;subst hr;exact wpAny_pure hq
mutual
theorem zC {h:Heap}:∀(d:PyData) (v:Value) (as:List Addr) (k:Nat),f6 d=true->d.depth<=k->Reads h v d as->∀(A:Around) (E:Value->Shared->Prop) (s:Shared) (Q:Bool->Shared->Prop),s.heap=h->Q true s->wpAny (model prog w) A (eqIsQuiet k v) Q E s
 | .int _,_,_,_,_,_,r=>by
  cases r;intro A E s Q _ hq;rw[eqIsQuiet_byValue _ rfl];exact wpAny_pure hq
 | .str _,_,_,_,_,_,r=>by
  cases r;intro A E s Q _ hq;rw[eqIsQuiet_byValue _ rfl];exact wpAny_pure hq
 | .tuple xs,_,_,k,hx,hk,r=>by
  rw[f6] at hx;rw[PyData.depth] at hk;cases k with
  | zero=>lia
  | succ k=>
   cases r with
   | tuple e c q t=>exact uB e c q (oQ xs _ _ k hx ⋯ t)
 | .none,_,_,_,h,_,_=>by simp [f6] at h
 | .bool _,_,_,_,h,_,_=>by simp [f6] at h
 | .list _,_,_,_,h,_,_=>by simp [f6] at h
 | .dict _,_,_,_,h,_,_=>by simp [f6] at h
theorem oQ {h:Heap}:∀(ds:List PyData) (vs:List Value) (as:List Addr) (k:Nat),lS ds=true->PyData.depthAll ds<=k->ReadsAll h vs ds as->∀v∈vs,∀(A:Around) (E:Value->Shared->Prop) (s:Shared) (Q:Bool->Shared->Prop),s.heap=h->Q true s->wpAny (model prog w) A (eqIsQuiet k v) Q E s
 | [],_,_,_,_,_,r=>by
  cases r;intro v hv;simp at hv
 | x::xs,_,_,k,hx,hk,r=>by
  rw[lS,aaL] at hx;rw[PyData.depthAll] at hk;cases r with
  | cons r1 r2=>
   intro v hv;rcases aaB.mp hv with rfl | hv
   ·exact zC x _ _ k hx.1 ⋯ r1
   ·exact oQ xs _ _ k hx.2 ⋯ r2 v hv
end
end
mutual
noncomputable def toP:Dat->PyData
 | .cU=>.none
 | .bl b=>.bool b
 | .int i=>.int i
 | .str x=>.str x
 | .tup l=>.tuple (toPL l)
 | .lst l=>.list (toPL l)
noncomputable def toPL:List Dat->List PyData
 | []=>[]
 | d::ds=>toP d::toPL ds
end
section
variable {P : Program} {w : World} {H : Hp} {h : Heap}
mutual
theorem oR (ok:gq P w H h):∀(d:Dat) (v:V) (u:Value),Rep H d v->RelV v u->∃as,Reads h u (toP d) as
 | .cU,v,u,r,q=>by
  rw[Rep] at r;subst r;cases (show u=Value.none from q);exact⟨_,.none⟩
 | .bl b,v,u,r,q=>by
  rw[Rep] at r;subst r;cases (show u=Value.bool b from q);exact⟨_,.bool b⟩
 | .int i,v,u,r,q=>by
  rw[Rep] at r;subst r;obtain⟨t,rfl⟩:=(show ∃t,u=Value.int i t from q)
  exact⟨_,.int i t⟩
 | .str x,v,u,r,q=>by
  rw[Rep] at r;subst r;obtain⟨t,rfl⟩:=(show ∃t,u=Value.str x t from q)
  exact⟨_,.str x t⟩
 | .tup l,v,u,r,q=>by
  rw[Rep] at r;obtain⟨p,vs,rfl,hp,rl⟩:=r;cases (show u=Value.ref p from q);obtain⟨_,ba,rv,o,h1,h2,n,h3⟩:=(show cf P w H h p (.tup vs) from ok p _ hp)
  obtain⟨as,ra⟩:=lT ok l vs ba rl rv;exact⟨as,.tuple h1 h2 h3 (by simpa using ra)⟩
 | .lst l,v,u,r,q=>by
  rw[Rep] at r;obtain⟨p,vs,rfl,hp,rl⟩:=r;cases (show u=Value.ref p from q);obtain⟨_,ba,n,rv,h1⟩:=(show cf P w H h p (.lst vs) from ok p _ hp)
  obtain⟨as,ra⟩:=lT ok l vs ba rl rv;exact⟨p::as,.list h1 rfl rfl (by simpa using ra)⟩
theorem lT (ok:gq P w H h):∀(ds:List Dat) (vs:List V) (us:List Value),a7 H ds vs->bq vs us->∃as,ReadsAll h us (toPL ds) as
 | [],vs,us,r,q=>by
  rw[a7] at r;subst r;cases q;exact⟨_,.nil⟩
 | d::ds,vs,us,r,q=>by
  rw[a7] at r;obtain⟨v,rest,rfl,r1,r2⟩:=r;cases q with
  | cons q1 q2=>
   obtain⟨a1,h1⟩:=oR ok d v _ r1 q1;obtain⟨a2,h2⟩:=lT ok ds rest _ r2 q2;exact⟨_,.cons h1 h2⟩
end
end
@[inline]abbrev Rows:=List (Dat×Addr×Int)
@[inline]abbrev RwN:Rows->List (PyData×Addr×Value)->Prop:=Paired λp q=>toP p.1=q.1/\p.2.1=q.2.1/\∃t,q.2.2=Value.int p.2.2 t
section
variable {P : Program} {w : World} {H : Hp} {h : Heap} {a : Addr}
end
section
variable {X : Cx} {P : Program} {w : World} {o i e value : Expr} {pos pos' nh : Pos} {td ty tv : TE}
end
open PySem PySem.Spec PyProof.Rows PySem.W
section
variable {X : Cx} {K : aba}
theorem qK {P:Program} {w:World} {H:Hp} {h:Heap} (ok:gq P w H h) {ds:List Dat} {xs:List V} {us:List Value} (r:a7 H ds xs) (v:bq xs us) {i:Nat} {u:Value} (e:us[i]?=some u):∃d as,ds[i]?=some d/\Reads h u (toP d) as:=by
 have l1:=r.length;have l2:=v.length;have hi:=(abh.mp e).1;have ex:xs[i]?=some (xs[i]'⋯):=aai ⋯;obtain⟨u',e1,rv⟩:=v.get ex;rw[e] at e1;cases e1;obtain⟨d,ed,rd⟩:=r.get ex;obtain⟨as,ra⟩:=oR ok d _ _ rd rv;exact⟨d,as,ed,ra⟩
end
structure dG (P:Program) (w:World) (K:aba) (mg:Str->Option Value) (base:Heap) (CX:lG) (k:Nat) (C:Addr) (m:Str) (ps:List Str) (sp:Sp):Prop where
 ex:∃f fd,AB K C m f/\fK P w K mg base CX k f fd ps sp/\Binds K fd ps []
section
variable {X : Cx} {CX : lG} {k : Nat} {C : Addr} {m : Str} {ps : List Str} {sp : Sp} {E : XK} {e o : Expr} {es : List Expr} {ta : TE} {t : TA} {pos apos : Pos} {pl : Sem Bool}
theorem c8 (M:dG X.prog X.w X.K X.mg X.base CX k C m ps sp) (c:xE X.K C) (he:PE X o ta) (ha:PA X (e::es) t) (hr:dY k X.A:=by exact hr.mono ∅) (hx:eU CX X E:=by exact j1.pass)
  (Hc:starEach (e::es) X.env=(false,eval e X.env)::starEach es X.env:=by first | exact se rfl | rfl) (hpl:(backTo pos (starEach es X.env)).any (·.1)=false:=by first | exact na rfl | rfl)
  (ht:eval (.Call (.Attribute o m apos) (e::es) [] pos) X.env=(do
   let ov <-eval o X.env
   standAt apos.atName
   let (f,first) <-holding [ov] (getMethod ov m pl)
   callWith pos f first (backTo pos (starEach (e::es) X.env)) (backToKw pos (keywordEach [] X.env))):=by rfl):
  PE X (.Call (.Attribute o m apos) (e::es) [] pos) (cg C m sp [] E ta t):=by
 obtain⟨f,fd,hm,F,hb⟩:=M.ex;exact Dt he c hm F hr hb .nil hx ha Hc hpl ht
theorem lU (M:dG X.prog X.w X.K X.mg X.base CX k C m ps sp) (c:xE X.K C) (he:PE X o ta) (hr:dY k X.A:=by exact hr.mono ∅) (hx:eU CX X E:=by exact j1.pass)
  (ht:eval (.Call (.Attribute o m apos) [] [] pos) X.env=(do
   let ov <-eval o X.env
   standAt apos.atName
   let (f,first) <-holding [ov] (getMethod ov m pl)
   callWith pos f first (backTo pos (starEach [] X.env)) (backToKw pos (keywordEach [] X.env))):=by rfl):
  PE X (.Call (.Attribute o m apos) [] [] pos) (cg C m sp [] E ta tNil):=by
 obtain⟨f,fd,hm,F,hb⟩:=M.ex;exact AD he c hm F hr hb .nil hx ht
end
structure pW (K:aba) (C:Addr) (m qual:Str) (st:Stmt):Prop where
 ex:∃f fd,vZ K m qual st f fd/\AB K C m f
theorem pW.dF {P:Program} {w:World} {K:aba} {mg:Str->Option Value} {base:Heap} {CX:lG} {m qual:Str} {st:Stmt} {C:Addr} {ps:List Str} {k:Nat} {sp:Sp} (D:pW K C m qual st)
  (hb:∀(kV doc pm:Value) (an:Option Addr) (bY ct:Value) (us:List Value),us.length=ps.length->bindArgs (abd m qual (bE st) (bA st) (aq st) .none kV doc pm an bY ct) ⟨us,[]⟩=pure (ps.zip us))
  (h:∀f fd,vZ K m qual st f fd->fK P w K mg base CX k f fd ps sp):dG P w K mg base CX k C m ps sp:=by
 obtain⟨f,fd,F,hm⟩:=D.ex;exact⟨f,fd,hm,h f fd F,F.binds hb⟩
end L2
namespace L2
open PySem PySem.Spec PyProof.Rows PySem.W
mutual
noncomputable def rQ:PyData->Bool
 | .none=>true
 | .int _=>true
 | .str x=>PyData.canLay0 (.str x)
 | .tuple xs=>uC xs
 | .list xs=>uC xs
 | _=>false
noncomputable def uC:List PyData->Bool
 | []=>true
 | x::xs=>rQ x && uC xs
end
mutual
theorem nM:∀(d:PyData),rQ d=true->d.canLay0=true
 | .none,_=>by simp [PyData.canLay0]
 | .bool _,h=>by simp [rQ] at h
 | .int _,_=>by simp [PyData.canLay0]
 | .str x,h=>by rw[rQ] at h;exact h
 | .list xs,h=>by rw[rQ] at h;rw[PyData.canLay0];exact oS xs h
 | .tuple xs,h=>by rw[rQ] at h;rw[PyData.canLay0];exact oS xs h
 | .dict _,h=>by simp [rQ] at h
theorem oS:∀(xs:List PyData),uC xs=true->PyData.canLayAll0 xs=true
 | [],_=>by simp [PyData.canLayAll0]
 | x::xs,h=>by
  rw[uC,aaL] at h;rw[PyData.canLayAll0,aaL];exact⟨nM x h.1,oS xs h.2⟩
end
mutual
theorem ye:∀(x y:PyData),rQ x=true->rQ y=true->PyData.eqv x y=decide (x=y)
 | .none,y,_,hy=>by cases y <;>simp [PyData.eqv]
 | .int i,y,_,hy=>by
  cases y with
  | int j=>
   rw[PyData.eqv]
   by_cases c:i=j
   ·subst c;simp
   ·rw[decide_eq_false (λe=>c (by injection e))];simp [c]
  | bool _=>simp [rQ] at hy
  | _=>simp [PyData.eqv]
 | .str a,y,_,hy=>by
  cases y with
  | str b=>
   rw[PyData.eqv]
   by_cases c:a=b
   ·subst c;simp
   ·rw[decide_eq_false (λe=>c (by injection e))];simp [c]
  | _=>simp [PyData.eqv]
 | .tuple xs,y,hx,hy=>by
  cases y with
  | tuple ys=>
   rw[rQ] at hx hy;rw[PyData.eqv,oU xs ys hx hy]
   by_cases c:xs=ys
   ·subst c;simp
   ·rw[decide_eq_false c,decide_eq_false (λe=>c (by injection e))]
  | _=>simp [PyData.eqv]
 | .list xs,y,hx,hy=>by
  cases y with
  | list ys=>
   rw[rQ] at hx hy;rw[PyData.eqv,oU xs ys hx hy]
   by_cases c:xs=ys
   ·subst c;simp
   ·rw[decide_eq_false c,decide_eq_false (λe=>c (by injection e))]
  | _=>simp [PyData.eqv]
 | .bool _,_,h,_=>by simp [rQ] at h
 | .dict _,_,h,_=>by simp [rQ] at h
theorem oU:∀(xs ys:List PyData),uC xs=true->uC ys=true->PyData.eqvAll xs ys=decide (xs=ys)
 | [],[],_,_=>by simp [PyData.eqvAll]
 | [],_::_,_,_=>by simp [PyData.eqvAll]
 | _::_,[],_,_=>by simp [PyData.eqvAll]
 | x::xs,y::ys,hx,hy=>by
  rw[uC,aaL] at hx hy;rw[PyData.eqvAll,ye x y hx.1 hy.1,oU xs ys hx.2 hy.2]
  by_cases c:x=y
  ·subst c
   by_cases d:xs=ys
   ·subst d;simp
   ·rw[decide_eq_false d,decide_eq_false (λe=>d (List.cons.inj e).2)];simp
  ·rw[decide_eq_false c,decide_eq_false (λe=>c (List.cons.inj e).1)];simp
end
section
variable {X : Cx} {K : aba}
abbrev Ke (d:Dat):Prop:=rQ (toP d)=true/\(toP d).depth<=8
theorem HY {A:Around} {s:Shared} {a b:PyData} {u v:Value} {as bs:List Addr} (ra:Reads s.heap u a as) (rb:Reads s.heap v b bs) (ha:rQ a=true) (hb:rQ b=true) (da:a.depth<=8) (db:b.depth<=8) (hu:A.units+8<cLine):SeqAt.EqAt A s u v (decide (a=b)):=λprog w E Q h=>
 SeqAt.eqBoolOverData _ _ _ _ _ _ _ _ _ _ _ _ ra rb (nM _ ha) (nM _ hb) ⋯ (by rw[ye _ _ ha hb];exact h)
theorem Bo {s:Shared} {ds:List Dat} {d:Dat} (D1:∀e∈ds,Ke e) {u:Value} {e:Dat} {bs:List Addr} [Decidable (∃cs,Reads s.heap u (toP d) cs)] (he:e∈ds) (re:Reads s.heap u (toP e) bs):decide (∃cs,Reads s.heap u (toP d) cs)=decide (toP e=toP d):=by
 by_cases c:toP e=toP d
 ·rw[decide_eq_true c,decide_eq_true ⟨bs,by rw[<-c];exact re⟩]
 ·rw[decide_eq_false c,decide_eq_false];rintro⟨cs,rc⟩;exact c (SeqAt.Reads.unique _ _ _ _ _ (nM _ (D1 e he).1) re rc)
abbrev LA:V->List V->Hp->VK->Prop:=λx vs H Q=>∃l xs ds v d i,x=.ref l/\vs=[v]/\H l=some (.lst xs)/\a7 H ds xs/\(∀e∈ds,Ke e)/\Rep H d v/\Ke d/\(ds.map toP)[i]?=some (toP d)/\(∀j,j<i->(ds.map toP)[j]?≠some (toP d))/\i<100000/\Q (.int (i:Nat)) H
theorem zD (hu:X.A.units+64<cLine):Hj X "list.index" LA:=by
 classical
 intro pins s σ H x vs v us Q I rx rv h;obtain⟨l,xs,ds,y,d,i,rfl,rfl,hp,rd,D1,Rm,hd,hi,X0,i6,q⟩:=h;cases rx;obtain⟨u,rfl,ru⟩:=vals1 rv;obtain⟨ba,r,pl,hz⟩:=I.list (bC.of hp);obtain⟨as,ra⟩:=oR I.bP d y u Rm ru;have l1:=rd.length;have l2:=r.length;have at_:∀(j:Nat) (hj:j<ba.length),∃e bs,ds[j]?=some e/\e∈ds/\Reads s.heap ba[j] (toP e) bs:=λj hj=>by
  obtain⟨e,bs,ed,re⟩:=qK I.bP rd r (aai hj);exact⟨e,bs,ed,aan ed,re⟩
 have X1:i<ba.length:=by
  have:=(abh.mp hi).1;rw[aad] at this;lia
 obtain⟨⟨c1,d1,d2,sl⟩,ho,e1,m,e2⟩:=pl.isList;cases e1;cases e2;have hit:decide (∃cs,Reads s.heap ba[i] (toP d) cs)=true:=by
  obtain⟨e,bs,ed,he,re⟩:=at_ i X1;rw[Bo D1 he re];rw[aaf,ed] at hi;exact decide_eq_true (aay hi)
 refine call_meets PySem.F.slot_list_index ⟨_,ho,rfl⟩ PySem.F.entry_list_index (PySem.F.args_list_index_2 _ _) (PySem.SeqAt.list_indexAt l ba.toArray m d1 sl u (λu=>decide (∃cs,Reads s.heap u (toP d) cs)) i (by rw[aaj];lia) ⋯ hit (λj hj hl=>?_)) ⟨ho,λy hy=>?_,⟨.int _,H,I.tok _,⟨_,rfl⟩,q⟩⟩
 ·rw[aaj] at hj;obtain⟨e,bs,ed,he,re⟩:=at_ j hj;show decide (∃cs,Reads s.heap ba[j] (toP d) cs)=false;rw[Bo D1 he re];refine decide_eq_false λz=>X0 j hl ?_;rw[aaf,ed];exact congrArg some z
 ·obtain⟨j,ej⟩:=List.getElem?_of_mem (List.mem_toArray.mp hy);obtain⟨e,bs,ed,re⟩:=qK I.bP rd r ej;have he:=aan ed;show SeqAt.EqAt _ _ _ _ (decide _);rw[Bo D1 he re];exact HY re ra (D1 e he).1 hd.1 (D1 e he).2 hd.2 (by show X.A.units+1+8<cLine;lia)
end
open PySem PySem.Spec PyProof.Rows PySem.W
section
variable {X : Cx} {CX : lG} {k : Nat} {C : Addr} {m : Str} {ps : List Str} {sp : Sp} {E : XK} {e o : Expr} {es : List Expr} {ta : TE} {t : TA} {pos apos : Pos} {pl : Sem Bool}
end
section
variable {X : Cx} {k k2 : Nat} {C C' : Addr} {m m2 : Str} {ps X2 : List Str} {sp X3 : Sp} {e e2 o o2 : Expr} {es X4 : List Expr} {ta X5 : TE} {t t2 : TA} {pos apos Bp LB : Pos} {pl D2 : Sem Bool} {cx n : Str} {np DJ HD LC nh Rn : Pos} {b₀ : Stmt} {Fz : List Stmt} {i : Nat} {ts : TS} {C2 : Addr} {c : Expr} {tc : TT}
end
end L2
namespace PySem.Dfl
open PySem PyProof.Rows
section
variable {prog : Program} {w : World} {A : Around} {E : Value -> Shared -> Prop} {s : Shared}
end
section
variable {prog : Program} {w : World} {K : Type} [DecidableEq K] {knd : KeyKind prog w K} {A : Around} {R : Result -> Shared -> Prop} {I : Addr} {fp wr : List Addr} {G : Array GenState -> Array GenState -> Prop} {n : Nat} {P : Nat -> Value -> Prop} {St : Nat -> Shared -> Prop}
end
end PySem.Dfl
namespace PySem.Dfl
open PySem PyProof.Rows
section
variable {prog : Program} {w : World} {K : Type} [DecidableEq K] {knd : KeyKind prog w K} {A : Around} {E : Value -> Shared -> Prop} {s : Shared}
end
end PySem.Dfl
namespace L2
open PySem PyProof.Rows
section
variable {X : Cx} {P : Program} {w : World} {K : aba}
end
open PySem PyProof.Rows
section
variable {X : Cx}
end
open PySem PyProof.Rows
structure DnA (K:aba) (mg:Str->Option Value) (g x:Str) (st:Stmt):Prop where
 ex:∃f fd,vZ K x x st f fd/\mg g=some (.ref f)
open PySem PyProof.Rows
theorem exV {b:V} {Q:V->Prop}:(∃v,(some (some b):Option (Option V))=some (some v)/\Q v)=Q b:=propext ⟨fun⟨_,e,h⟩=>by cases e;exact h,λh=>⟨b,rfl,h⟩⟩
theorem exI {a:Int} {Q:Int->Prop}:(∃i,V.int a=V.int i/\Q i)=Q a:=propext ⟨fun⟨_,e,h⟩=>by cases e;exact h,λh=>⟨a,rfl,h⟩⟩
theorem exB {a:Bool} {Q:Bool->Prop}:(∃i,V.bl a=V.bl i/\Q i)=Q a:=propext ⟨fun⟨_,e,h⟩=>by cases e;exact h,λh=>⟨a,rfl,h⟩⟩
theorem exR {a:Addr} {Q:Addr->Prop}:(∃i,V.ref a=V.ref i/\Q i)=Q a:=propext ⟨fun⟨_,e,h⟩=>by cases e;exact h,λh=>⟨a,rfl,h⟩⟩
theorem exS {a:Str} {Q:Str->Prop}:(∃i,V.str a=V.str i/\Q i)=Q a:=propext ⟨fun⟨_,e,h⟩=>by cases e;exact h,λh=>⟨a,rfl,h⟩⟩
theorem exII {a b:Int} {Q:Int->Int->Prop}:(∃i j,V.int a=V.int i/\V.int b=V.int j/\Q i j)=Q a b:=propext ⟨fun⟨_,_,e,f,h⟩=>by cases e;cases f;exact h,λh=>⟨a,b,rfl,rfl,h⟩⟩
theorem exRI {a:Addr} {k:Int} {Q:Addr->List V->Int->V->Prop}:(∃p xs i v,V.ref a=V.ref p/\V.int k=V.int i/\Q p xs i v)=∃xs v,Q a xs k v:=propext ⟨fun⟨_,xs,_,v,e,f,h⟩=>by cases e;cases f;exact⟨xs,v,h⟩,fun⟨xs,v,h⟩=>⟨a,xs,k,v,rfl,rfl,h⟩⟩
theorem exRa {α:Type} {a:Addr} {Q:Addr->α->Prop}:(∃p v,V.ref a=V.ref p/\Q p v)=∃v,Q a v:=propext ⟨fun⟨_,v,e,h⟩=>by cases e;exact⟨v,h⟩,fun⟨v,h⟩=>⟨a,v,rfl,h⟩⟩
theorem exRb {α β:Type} {a:Addr} {Q:Addr->α->β->Prop}:(∃p v u,V.ref a=V.ref p/\Q p v u)=∃v u,Q a v u:=propext ⟨fun⟨_,v,u,e,h⟩=>by cases e;exact⟨v,u,h⟩,fun⟨v,u,h⟩=>⟨a,v,u,rfl,h⟩⟩
theorem scal_ss {a b:Str}:vF (.str a) (.str b)=true:=rfl
theorem scal_ii {a b:Int}:vF (.int a) (.int b)=true:=rfl
theorem scal_bb {a b:Bool}:vF (.bl a) (.bl b)=true:=rfl
theorem scal_si {a:Str} {b:Int}:vF (.str a) (.int b)=true:=rfl
theorem scal_is {a:Int} {b:Str}:vF (.int a) (.str b)=true:=rfl
open PySem PySem.Spec PyProof.Rows PySem.W
section
variable {X : Cx}
end
open PySem PySem.Spec PyProof.Rows PySem.W
section
variable {X : Cx} {k : Nat} {x : Str} {ps : List Str} {sp : Sp} {e : Expr} {es : List Expr} {t : TA} {p pos : Pos}
variable {cx n : Str} {np DJ HD nh : Pos} {b₀ : Stmt} {Fz : List Stmt} {i : Nat} {ts : TS} {C2 : Addr}
end
section
variable {X : Cx}
end
section
variable {X : Cx}
abbrev LD (ta:TA):TE:=λσ H Q=>ta σ H λvs H1=>∃(a:Int) (n:Nat),vs=[.int a,.int (a+ (n:Int))]/\n<=1000000/\-1000000<=a/\a<=1000000/\∀l,H1 l=none->Q (.ref l) (upd H1 l (.lst ((List.range n).map λi:Nat=>V.int (a+ (i:Int)))))
theorem pX {a b:Expr} {ta:TA} {p1 p2 Ro Bp:Pos} (hc:X.calm=true) (Rp:Gl X "list") (X6:X.mg "list"=none) (X7:Gl X "range") (qL:X.mg "range"=none) (ha:PA X [a,b] ta) (hs:starEach [a,b] X.env=[(false,eval a X.env),(false,eval b X.env)]:=by rfl) (Fu:starEach [b] X.env=[(false,eval b X.env)]:=by rfl):
  PE X (.Call (.Name "list" p1) [.Call (.Name "range" p2) [a,b] [] Bp] [] Ro) (LD ta):=by
 intro pins s σ H Q I h;refine wpAny_Call_Name_kw (gk I Rp X6 (u:=.type "list") rfl ?_ ∅ ∅);refine aa8 ?_ (se rfl) rfl;rw[se rfl];show wpAny _ _ (spliced [(false,eval (.Call (.Name "range" p2) [a,b] [] Bp) X.env)]) _ _ s;refine Calls.spliced_cons ?_;refine Call_ (gk I X7 qL boot_range (aa8 (cK (ha Bp pins s σ H _ I h) λus s1 dB=>?_) (by rw[hs,Fu]) (by rw[Fu];rfl)));obtain⟨vs,H1,I1,r1,q1⟩:=dB;obtain⟨i,n,e,hn,i0,i1,q⟩:=q1;subst e;cases r1 with
 | cons r rr=>
 cases rr with
 | cons r' rr=>
 cases rr;obtain⟨t,rfl⟩:=r;obtain⟨t',rfl⟩:=r';refine call_range_2 (Calls.spliced_nil ?_);refine call_list_range (n:=n) (I.ok.hd hc) (abl _ rfl) ?_ ?_ ⋯ λh' tk Rq c' hk VY wc=>?_
 ·exact small_one ⋯ ⋯ ⋯ ⋯
 ·rw[rangeSize_one];split <;>lia
 have fr:=I1.bP.fresh (a:=s1.heap.objs.size+1) (Nat.le_succ _);have sz:(s1.heap.push {cls:=.type "range",data:=.fields #[.int i t,.int (i+ (n:Int)) t',.int 1 s1.toks]}).objs.size=s1.heap.objs.size+1:=Heap.size_push ..;simp only[sz] at VY ⊢;refine⟨.ref (s1.heap.objs.size+1),_,I1.laid (t':=tk) (λb o e=>hk b o (abk _ e)) (Nat.le_succ _) (o:=.lst ((List.range n).map λj:Nat=>V.int (i+ (j:Int)))) ⟨?_,Rq.toList,c',?_,?_⟩,rfl,q _ fr⟩
 ·rw[aad,aax];have:=sizeLine_eq;lia
 ·have go:∀(us:List Value) (ws:List V),us.length=ws.length->(∀(j:Nat) v x,us[j]?=some v->ws[j]?=some x->RelV x v)->bq ws us:=by
   intro us
   induction us with
   | nil=>intro ws hl _;cases ws with | nil=>exact .nil | cons _ _=>simp at hl
   | cons u us ih=>
    intro ws hl k;cases ws with
    | nil=>simp at hl
    | cons x r=>exact .cons (k 0 u x rfl rfl) (ih r (by simpa using hl) λj v y e1 e2=>k (j+1) v y (by simpa using e1) (by simpa using e2))
  refine go _ _ (by rw[Array.length_toList,wc.1,aad,aax]) λj v x e1 e2=>?_;rw[Array.getElem?_toList] at e1;obtain⟨t',rfl⟩:=wc.2 j v e1;rw[aaf] at e2;obtain⟨m,em,rfl⟩:=abg.mp e2;have:m=j:=by
   obtain⟨_,h2⟩:=abh.mp em;rw[List.getElem_range] at h2;exact h2.symm
  subst this;exact⟨t',by simp⟩
 ·simpa using VY
end
open PySem PySem.Spec PyProof.Rows PySem.W
section
variable {P : Program} {w : World} {A : Around} {E : Value -> Shared -> Prop} {s : Shared} {e h : Addr} {oe oh : Obj} {vs ws : Array Value}
end
section
variable {M : Model} {A : Around} {E : Value -> Shared -> Prop}
variable {nm q : Str} {C N : Addr} {bs bm : List Value} {hdct : Bool} {sn : List Str} {sub : List Value} {ab : Bool} {col : Option Bool} {dd : Option Addr} {k0 k1 k2 k3 k5 : Option Value} {newId : String}
end
section
variable {P : Program} {w : World} {A : Around} {E : Value -> Shared -> Prop} {env : Env}
section
variable {M : Model} {s : Shared} {e : Addr} {ws : Array Value}
end
end
section
variable {X : Cx} {pins : List (Addr × Obj)} {σ : St} {H : Hp} {s : Shared}
end
section
variable {M : Model} {A : Around} {E : Value -> Shared -> Prop} {s : Shared} {B : Heap} {l : List Env} {ad L : Addr} {cls a0 : Value}
end
section
variable {P : Program} {w : World} {K : aba} {mg : Str -> Option Value} {base : Heap} {N : List Str} {qual : Str} {scope : Scope} {f : Addr} {bY : Value} {A : Around} {outer : List Env} {s0 : Shared} {H0 : Hp} {E : XK}
end
section
variable {X : Cx} {pins : List (Addr × Obj)} {σ : St} {H H' : Hp} {s s' : Shared} {E : XK} {ad Cc C3 : Addr} {cls C1 C2 : Value} {cx cy n x : Str} {p1 p2 nh np X8 dE Rr DJ : Pos} {kk i : Nat} {e : Expr} {es : List Expr} {ta : TA}
end
section
variable {X : Cx} {E : XK} {k k2 : Nat} {C C' C3 : Addr} {m m2 : Str} {ps X2 : List Str} {sp X3 : Sp} {e e2 e3 o o2 : Expr} {es X4 es3 : List Expr} {ta X5 : TE} {t t2 t3 : TA} {pos apos Bp LB : Pos} {pl D2 : Sem Bool} {cx cy n x : Str} {p1 p2 VZ np X8 dE Rr DJ HD LC nh Rn : Pos} {i kk : Nat} {C1 C2 : Value} {c : Expr} {tc : TT}
end
open PySem PySem.Spec PyProof.Rows PySem.W
open PySem PyProof.Rows
theorem V0 {vs:List V} {k:Int->Prop} (h:eS vs λa=>fC a λa=>k a):∃a,vs=[.int a]/\k a:=by
 obtain⟨_,rfl,h0⟩:=rdL1_eq.mp h;obtain⟨_,rfl,h1⟩:=rdI_eq.mp h0;exact⟨_,rfl,h1⟩
theorem pY {vs:List V} {k:Int->Int->Prop} (h:dH vs λa b=>fC a λa=>fC b λb=>k a b):∃a b,vs=[.int a,.int b]/\k a b:=by
 obtain⟨_,_,rfl,h0⟩:=rdL2_eq.mp h;obtain⟨_,rfl,h1⟩:=rdI_eq.mp h0;obtain⟨_,rfl,h2⟩:=rdI_eq.mp h1;exact⟨_,_,rfl,h2⟩
theorem Bq {vs:List V} {k:Int->Addr->Str->Bool->Prop} (h:iX vs λa b c d=>fC a λa=>dr b λb=>tL c λc=>JY d λd=>k a b c d):∃a b c d,vs=[.int a,.ref b,.str c,.bl d]/\k a b c d:=by
 obtain⟨_,_,_,_,rfl,h0⟩:=rdL4_eq.mp h;obtain⟨_,rfl,h1⟩:=rdI_eq.mp h0;obtain⟨_,rfl,h2⟩:=rdR_eq.mp h1;obtain⟨_,rfl,h3⟩:=rdS_eq.mp h2;obtain⟨_,rfl,h4⟩:=rdB_eq.mp h3;exact⟨_,_,_,_,rfl,h4⟩
theorem rR {vs:List V} {k:Int->Addr->Str->Addr->Prop} (h:iX vs λa b c d=>fC a λa=>dr b λb=>tL c λc=>dr d λd=>k a b c d):∃a b c d,vs=[.int a,.ref b,.str c,.ref d]/\k a b c d:=by
 obtain⟨_,_,_,_,rfl,h0⟩:=rdL4_eq.mp h;obtain⟨_,rfl,h1⟩:=rdI_eq.mp h0;obtain⟨_,rfl,h2⟩:=rdR_eq.mp h1;obtain⟨_,rfl,h3⟩:=rdS_eq.mp h2;obtain⟨_,rfl,h4⟩:=rdR_eq.mp h3;exact⟨_,_,_,_,rfl,h4⟩
theorem mK {vs:List V} {k:Addr->Prop} (h:eS vs λa=>dr a λa=>k a):∃a,vs=[.ref a]/\k a:=by
 obtain⟨_,rfl,h0⟩:=rdL1_eq.mp h;obtain⟨_,rfl,h1⟩:=rdR_eq.mp h0;exact⟨_,rfl,h1⟩
theorem zE {vs:List V} {k:Addr->Int->Prop} (h:dH vs λa b=>dr a λa=>fC b λb=>k a b):∃a b,vs=[.ref a,.int b]/\k a b:=by
 obtain⟨_,_,rfl,h0⟩:=rdL2_eq.mp h;obtain⟨_,rfl,h1⟩:=rdR_eq.mp h0;obtain⟨_,rfl,h2⟩:=rdI_eq.mp h1;exact⟨_,_,rfl,h2⟩
theorem Br {vs:List V} {k:Addr->Int->Int->Int->Prop} (h:iX vs λa b c d=>dr a λa=>fC b λb=>fC c λc=>fC d λd=>k a b c d):∃a b c d,vs=[.ref a,.int b,.int c,.int d]/\k a b c d:=by
 obtain⟨_,_,_,_,rfl,h0⟩:=rdL4_eq.mp h;obtain⟨_,rfl,h1⟩:=rdR_eq.mp h0;obtain⟨_,rfl,h2⟩:=rdI_eq.mp h1;obtain⟨_,rfl,h3⟩:=rdI_eq.mp h2;obtain⟨_,rfl,h4⟩:=rdI_eq.mp h3;exact⟨_,_,_,_,rfl,h4⟩
theorem D3 {vs:List V} {k:Addr->Addr->Prop} (h:dH vs λa b=>dr a λa=>dr b λb=>k a b):∃a b,vs=[.ref a,.ref b]/\k a b:=by
 obtain⟨_,_,rfl,h0⟩:=rdL2_eq.mp h;obtain⟨_,rfl,h1⟩:=rdR_eq.mp h0;obtain⟨_,rfl,h2⟩:=rdR_eq.mp h1;exact⟨_,_,rfl,h2⟩
theorem Bs {vs:List V} {k:Addr->Addr->V->Int->Prop} (h:iX vs λa b c d=>dr a λa=>dr b λb=>fC d λd=>k a b c d):∃a b c d,vs=[.ref a,.ref b,c,.int d]/\k a b c d:=by
 obtain⟨_,_,_,_,rfl,h0⟩:=rdL4_eq.mp h;obtain⟨_,rfl,h1⟩:=rdR_eq.mp h0;obtain⟨_,rfl,h2⟩:=rdR_eq.mp h1;obtain⟨_,rfl,h3⟩:=rdI_eq.mp h2;exact⟨_,_,_,_,rfl,h3⟩
theorem LF {vs:List V} {k:Addr->Str->Prop} (h:dH vs λa b=>dr a λa=>tL b λb=>k a b):∃a b,vs=[.ref a,.str b]/\k a b:=by
 obtain⟨_,_,rfl,h0⟩:=rdL2_eq.mp h;obtain⟨_,rfl,h1⟩:=rdR_eq.mp h0;obtain⟨_,rfl,h2⟩:=rdS_eq.mp h1;exact⟨_,_,rfl,h2⟩
theorem FG {vs:List V} {k:Addr->Str->Addr->Prop} (h:ij vs λa b c=>dr a λa=>tL b λb=>dr c λc=>k a b c):∃a b c,vs=[.ref a,.str b,.ref c]/\k a b c:=by
 obtain⟨_,_,_,rfl,h0⟩:=rdL3_eq.mp h;obtain⟨_,rfl,h1⟩:=rdR_eq.mp h0;obtain⟨_,rfl,h2⟩:=rdS_eq.mp h1;obtain⟨_,rfl,h3⟩:=rdR_eq.mp h2;exact⟨_,_,_,rfl,h3⟩
theorem Bu {vs:List V} {k:Addr->Str->V->V->Prop} (h:iX vs λa b c d=>dr a λa=>tL b λb=>k a b c d):∃a b c d,vs=[.ref a,.str b,c,d]/\k a b c d:=by
 obtain⟨_,_,_,_,rfl,h0⟩:=rdL4_eq.mp h;obtain⟨_,rfl,h1⟩:=rdR_eq.mp h0;obtain⟨_,rfl,h2⟩:=rdS_eq.mp h1;exact⟨_,_,_,_,rfl,h2⟩
theorem kh {vs:List V} {k:Addr->V->Prop} (h:dH vs λa b=>dr a λa=>k a b):∃a b,vs=[.ref a,b]/\k a b:=by
 obtain⟨_,_,rfl,h0⟩:=rdL2_eq.mp h;obtain⟨_,rfl,h1⟩:=rdR_eq.mp h0;exact⟨_,_,rfl,h1⟩
theorem FH {vs:List V} {k:Addr->V->Int->Prop} (h:ij vs λa b c=>dr a λa=>fC c λc=>k a b c):∃a b c,vs=[.ref a,b,.int c]/\k a b c:=by
 obtain⟨_,_,_,rfl,h0⟩:=rdL3_eq.mp h;obtain⟨_,rfl,h1⟩:=rdR_eq.mp h0;obtain⟨_,rfl,h2⟩:=rdI_eq.mp h1;exact⟨_,_,_,rfl,h2⟩
theorem FI {vs:List V} {k:Addr->V->Addr->Prop} (h:ij vs λa b c=>dr a λa=>dr c λc=>k a b c):∃a b c,vs=[.ref a,b,.ref c]/\k a b c:=by
 obtain⟨_,_,_,rfl,h0⟩:=rdL3_eq.mp h;obtain⟨_,rfl,h1⟩:=rdR_eq.mp h0;obtain⟨_,rfl,h2⟩:=rdR_eq.mp h1;exact⟨_,_,_,rfl,h2⟩
theorem Bv {vs:List V} {k:Addr->V->V->Int->Prop} (h:iX vs λa b c d=>dr a λa=>fC d λd=>k a b c d):∃a b c d,vs=[.ref a,b,c,.int d]/\k a b c d:=by
 obtain⟨_,_,_,_,rfl,h0⟩:=rdL4_eq.mp h;obtain⟨_,rfl,h1⟩:=rdR_eq.mp h0;obtain⟨_,rfl,h2⟩:=rdI_eq.mp h1;exact⟨_,_,_,_,rfl,h2⟩
theorem C7 {vs:List V} {k:V->Prop} (h:eS vs λa=>k a):∃a,vs=[a]/\k a:=by
 obtain⟨_,rfl,h0⟩:=rdL1_eq.mp h;exact⟨_,rfl,h0⟩
theorem FJ {vs:List V} {k:V->Addr->Str->Prop} (h:ij vs λa b c=>dr b λb=>tL c λc=>k a b c):∃a b c,vs=[a,.ref b,.str c]/\k a b c:=by
 obtain⟨_,_,_,rfl,h0⟩:=rdL3_eq.mp h;obtain⟨_,rfl,h1⟩:=rdR_eq.mp h0;obtain⟨_,rfl,h2⟩:=rdS_eq.mp h1;exact⟨_,_,_,rfl,h2⟩
theorem FK {vs:List V} {k:V->Addr->V->Prop} (h:ij vs λa b c=>dr b λb=>k a b c):∃a b c,vs=[a,.ref b,c]/\k a b c:=by
 obtain⟨_,_,_,rfl,h0⟩:=rdL3_eq.mp h;obtain⟨_,rfl,h1⟩:=rdR_eq.mp h0;exact⟨_,_,_,rfl,h1⟩
theorem Bw {vs:List V} {k:V->Addr->V->Int->Prop} (h:iX vs λa b c d=>dr b λb=>fC d λd=>k a b c d):∃a b c d,vs=[a,.ref b,c,.int d]/\k a b c d:=by
 obtain⟨_,_,_,_,rfl,h0⟩:=rdL4_eq.mp h;obtain⟨_,rfl,h1⟩:=rdR_eq.mp h0;obtain⟨_,rfl,h2⟩:=rdI_eq.mp h1;exact⟨_,_,_,_,rfl,h2⟩
theorem LG {vs:List V} {k:V->Str->Prop} (h:dH vs λa b=>tL b λb=>k a b):∃a b,vs=[a,.str b]/\k a b:=by
 obtain⟨_,_,rfl,h0⟩:=rdL2_eq.mp h;obtain⟨_,rfl,h1⟩:=rdS_eq.mp h0;exact⟨_,_,rfl,h1⟩
theorem FL {vs:List V} {k:V->Str->Addr->Prop} (h:ij vs λa b c=>tL b λb=>dr c λc=>k a b c):∃a b c,vs=[a,.str b,.ref c]/\k a b c:=by
 obtain⟨_,_,_,rfl,h0⟩:=rdL3_eq.mp h;obtain⟨_,rfl,h1⟩:=rdS_eq.mp h0;obtain⟨_,rfl,h2⟩:=rdR_eq.mp h1;exact⟨_,_,_,rfl,h2⟩
theorem nu {vs:List V} {k:V->V->Prop} (h:dH vs λa b=>k a b):∃a b,vs=[a,b]/\k a b:=by
 obtain⟨_,_,rfl,h0⟩:=rdL2_eq.mp h;exact⟨_,_,rfl,h0⟩
theorem yf {vs:List V} {k:V->V->V->Prop} (h:ij vs λa b c=>k a b c):∃a b c,vs=[a,b,c]/\k a b c:=by
 obtain⟨_,_,_,rfl,h0⟩:=rdL3_eq.mp h;exact⟨_,_,_,rfl,h0⟩
open PySem PySem.Spec PySem.W PyProof.Rows
section
variable {X : Cx} {pins : List (Addr × Obj)} {σ : St} {H : Hp} {s : Shared} {A : Around} {E : Value -> Shared -> Prop} {Q : Value -> Shared -> Prop} {b : Bool}
theorem wC {x:V} {u t:Value} {p:Addr} {cs:List V} {vs:List Value} (I:Inv X pins σ H s) (rx:RelV x u) (ty:ia X.K H x t) (hp:H p=some (.tup cs)) (hv:cs.mapM Lp=some vs) (e:kitAny X.K t vs=some b) (h:∀tk,Q (.bool b) {s with toks:=tk}):
  wpAny (model X.prog X.w) A (call (.builtin "isinstance") [u,.ref p]) Q E s:=by
 obtain⟨ba,rv,⟨ot,h1,h2,n,h3⟩,_⟩:=I.tuple (iP.of hp);obtain rfl:=uo hv rv;obtain⟨oc,odd,oda,C0⟩:=ot;dsimp only at h2 h3;subst h2 h3;cases ty with
 | cU=>cases (show u=Value.none from rx);exact kia_tup kitx_none I.ib True.intro h1 e (λz=>nomatch z) h
 | bl y=>cases (show u=Value.bool y from rx);exact kia_tup kitx_bool I.ib True.intro h1 e (λz=>nomatch z) h
 | int i=>obtain⟨t,q⟩:=(show ∃t,u=Value.int i t from rx);cases q;exact kia_tup kitx_int I.ib True.intro h1 e (λz=>nomatch z) h
 | str y=>obtain⟨t,q⟩:=(show ∃t,u=Value.str y t from rx);cases q;exact kia_tup kitx_str I.ib True.intro h1 e (λz=>nomatch z) h
 | Fk y=>obtain⟨t,q⟩:=(show ∃t,u=Value.float y t from rx);cases q;exact kia_tup kitx_float I.ib True.intro h1 e (λz=>nomatch z) h
 | @lst a xs ea=>
  cases (show u=Value.ref a from rx);obtain⟨_,_,n,_,k1⟩:=(show cf X.prog X.w H s.heap a (.lst xs) from I.bP a _ ea)
  exact kia_tup kitx_list I.ib ⟨_,k1,rfl⟩ h1 e (λz=>nomatch z) h
 | @qu a ob xs ea=>
  cases (show u=Value.ref a from rx);obtain⟨_,_,_,n,_,k1⟩:=(show cf X.prog X.w H s.heap a (.qu ob (.lst xs)) from I.bP a _ ea)
  exact kia_tup kitx_list I.ib ⟨_,k1,rfl⟩ h1 e (λz=>nomatch z) h
 | @tup a xs ea=>
  cases (show u=Value.ref a from rx);obtain⟨_,_,_,p⟩:=(show cf X.prog X.w H s.heap a (.tup xs) from I.bP a _ ea)
  obtain⟨o,k1,k2,_⟩:=p;exact kia_tup kitx_tuple I.ib ⟨o,k1,k2⟩ h1 e (λz=>nomatch z) h
 | @dK a kvs ea=>
  cases (show u=Value.ref a from rx);obtain⟨_,_,vs,_,p⟩:=(show cf X.prog X.w H s.heap a (.dK kvs) from I.bP a _ ea)
  obtain⟨o,es,ep,k1,k2,_⟩:=p;exact kia_tup kitx_dict I.ib ⟨o,k1,k2.1⟩ h1 e (λz=>nomatch z) h
 | @dT a kvs ea=>
  cases (show u=Value.ref a from rx);obtain⟨_,_,xs,_,o,es,ep,k1,k2,_⟩:=(show cf X.prog X.w H s.heap a (.dT kvs) from I.bP a _ ea)
  exact kia_tup kitx_dict I.ib ⟨o,k1,k2.1⟩ h1 e (λz=>nomatch z) h
 | @ins a C dx fs ea cl ha hn Pw hm=>
  cases (show u=Value.ref a from rx);obtain⟨mA,O,_⟩:=jZ I.bP ea;obtain⟨od,J,_⟩:=O.look;exact kia_tup (kitx_own (cl.get _) cl.hd ha hn Pw hm) I.ib J h1 e (λz=>nomatch z) h
end
section
variable {X : Cx} {K : aba}
theorem zF (hK:X.K=K:=by rfl):cM X (.builtin "isinstance") (λxs H Q=>∃x p,xs=[x,.ref p]/\∃t,ia K H x t/\∃cs,H p=some (.tup cs)/\∃vs,cs.mapM Lp=some vs/\∃b,kitAny K t vs=some b/\Q (.bl b) H):=by
 subst hK;intro pins s σ H xs us Q I r h;obtain⟨x,p,rfl,t,ty,cs,hp,vs,hv,b,e,q⟩:=h;obtain⟨u,u',rfl,rx,rc⟩:=vals2 r;cases rc;exact wC I rx ty hp hv e λtk=>⟨.bl b,H,I.tok tk,rfl,q⟩
abbrev J5 (H:Hp) (p:Addr) (xs:List V):Prop:=H p=some (.lst xs)\/H p=some (.tup xs)
abbrev LH:R2:=λx y H Q=>dr x λp=>fC y λi=>∃xs,J5 H p xs/\∃v,jS xs i=some v/\Q v H
theorem yg:AG X LH:=λvalue slice pins s σ H x y v u Q I rx ry h hs=>by
 obtain⟨p,rfl,h⟩:=rdR_eq.mp h;obtain⟨i,rfl,xs,hp,w,e,q⟩:=rdI_eq.mp h;rcases hp with hp | hp
 ·exact aX value slice pins s σ H _ _ v u Q I rx ry ⟨xs,hp,w,e,q⟩ hs
 ·exact ai value slice pins s σ H _ _ v u Q I rx ry ⟨xs,hp,w,e,q⟩ hs
theorem lV:cM X (.builtin "len") (λxs H Q=>∃p,xs=[.ref p]/\∃ys,J5 H p ys/\Q (.int ys.length) H):=λpins s σ H xs us Q I r ⟨p,e,ys,h,q⟩=>by
 rcases h with h | h
 ·exact bK pins s σ H xs us Q I r ⟨p,ys,e,h,q⟩
 ·exact zp pins s σ H xs us Q I r ⟨p,ys,e,h,q⟩
end
end L2
namespace Wq
@[inline]abbrev Sh:=Int×Int
abbrev Lw (x:Sh):Prop:=0<x.2/\Nm.g x.1 x.2=1
abbrev sc (L:Int) (x:Sh):Int:=x.1* (L / x.2)
theorem rS {L:Int} {x:Sh} (h:x.2∣L):sc L x*x.2=x.1*L:=by
 unfold sc;rw[Int.mul_assoc,Int.ediv_mul_cancel h]
theorem Bx {L s:Int} {x:Sh} (h:Lw x) (L0:0<L) (e:x.1*L=s*x.2):x.2∣L/\sc L x=s:=by
 have c:Int.gcd x.1 x.2=1:=by have:=h.2;unfold Nm.g at this;lia
 have d:x.2∣L:=Nm.DG (q:=x.2) (a:=x.1) ⟨s,by rw[e,Int.mul_comm]⟩ c;refine⟨d,?_⟩;have:=rS d;rw[e] at this;exact Int.eq_of_mul_eq_mul_right (by have:=h.1;lia) this
abbrev low (a b:Int):Sh:=(Nm.st a b,Nm.sb a b)
theorem By {a b:Int} (h:0<b):Lw (low a b):=⟨Nm.HE ⋯,Nm.HF ⋯⟩
theorem HZ {a b L s:Int} (h:0<b) (L0:0<L) (e:a*L=s*b):(low a b).2∣L/\sc L (low a b)=s:=by
 refine Bx (By h) L0 ?_;have c:=Nm.A5 a b;show Nm.st a b*L=s*Nm.sb a b;refine Int.eq_of_mul_eq_mul_right (show b≠0 by lia) ?_
 calc Nm.st a b*L*b=(Nm.st a b*b)*L:=Int.mul_right_comm ..
  _=a*Nm.sb a b*L:=by rw[c]
  _=(a*L)*Nm.sb a b:=Int.mul_right_comm ..
  _=s*b*Nm.sb a b:=by rw[e]
  _=s*Nm.sb a b*b:=Int.mul_right_comm ..
abbrev pl (x y:Sh):Sh:=low (x.1*y.2+y.1*x.2) (x.2*y.2)
abbrev tm (x y:Sh):Sh:=low (x.1*y.1) (x.2*y.2)
theorem LI {L:Int} {x y:Sh} (hx:0<x.2) (hy:0<y.2) (L0:0<L) (dx:x.2∣L) (dy:y.2∣L):Lw (pl x y)/\(pl x y).2∣L/\sc L (pl x y)=sc L x+sc L y:=by
 have e1:=rS dx;have e2:=rS dy;refine⟨By (Int.mul_pos hx hy),HZ (Int.mul_pos hx hy) L0 ?_⟩
 calc (x.1*y.2+y.1*x.2)*L=(x.1*L)*y.2+ (y.1*L)*x.2:=by rw[Int.add_mul,Int.mul_right_comm,Int.mul_right_comm y.1]
  _=sc L x*x.2*y.2+sc L y*y.2*x.2:=by rw[e1,e2]
  _=(sc L x+sc L y)* (x.2*y.2):=by rw[Int.add_mul,Int.mul_assoc,Int.mul_assoc,Int.mul_comm y.2 x.2]
end Wq
namespace K77
open PySem PySem.Spec PyProof.Rows L2
set_option maxHeartbeats 4000000
local macro_rules | `(~~~$x) => `(some (V.ref $x))
local macro_rules | `(tactic| injections) => `(tactic| first | exact se rfl | exact na rfl | exact fun _ _ => rfl | rfl)
local macro_rules | `(tactic| simp! only [$ls,*]) => `(tactic| simp only [↓exV, ↓exI, ↓exB, ↓exR, ↓exS, ↓exII, ↓exRI, ↓exRa, ↓exRb, ↓rdV_c, ↓rdR_c, ↓rdI_c, ↓rdB_c, ↓rdS_c, L2.start, rdV_c, rdR_c, rdI_c, rdB_c, rdS_c, rdL1_c, rdL2_c, rdL3_c, rdL4_c, rdV_eq, rdR_eq, rdI_eq, rdB_eq, rdS_eq, rdL1_eq, rdL2_eq, rdL3_eq, rdL4_eq, Pr, tRev, tLR, tMaxD, tSortR, tD1, tDPop1, tSl, tNoPart, tPart, rSlL, tDIn, tDNotIn, gSub, rSetL, tLst, tDNewK, tComp, L2.stC, tFor_eq, iList, iTup, iRng1, iRng2, iZip, iEnum, iDict, iStr, tChain, tSumV, tBM, rJoin, tJoined, jNil, jLit, jInt, jStr, tRaise, tDGet, tDGet2, tDGet1, sDPut, Option.join_some, List.getElem?_nil,  tSeq, tRet, tRetN, tIfS, tTest, tB, tOp, tUn, tVar, tC, tCB, tCons, tNil, tCall, tTupS, tAsg, gName, gNil, gCons, tPar, tNext, tDrop, tAnd, tOr, tNot, tAndV, tOrV, tNotV, tIf, rI, rI0, rU, rIxTH, rIxLH, rEqT, rNeT, rInT, rEq, rNe, scal_ss, scal_ii, scal_bb, scal_si, scal_is, CPow, at0, at1, at2, List.map_cons, List.map_nil, List.length_cons, List.length_nil, Nat.reduceSub, Nat.reduceAdd, Nat.zero_add, List.replicate_zero, List.reduceReplicate, List.append_nil, List.nil_append, List.cons_append, List.getElem?_cons_zero, List.getElem?_cons_succ, List.set_cons_zero, List.set_cons_succ, Option.some.injEq, exists_eq_left', exists_eq_left, V.ref.injEq, V.int.injEq, V.bl.injEq, V.str.injEq, V.ty.injEq, HO.tup.injEq, HO.lst.injEq, List.cons.injEq, and_true, true_and, and_assoc, exists_and_left, decide_eq_true_eq, Bool.not_eq_true', decide_eq_false_iff_not, ite_true, ite_false, if_true, if_false, Int.reduceToNat, eq_self_iff_true, $ls,*])
local macro_rules | `(tactic| subst_vars) => `(tactic| change tSeq _ _ _ _ _)
local macro_rules | `(tactic| dsimp? [$ls,*]) => `(tactic| (first | ((dsimp (config := { zetaDelta := true }) only [L2.start, rdV_c, rdR_c, rdI_c, rdB_c, rdS_c, rdL1_c, rdL2_c, rdL3_c, rdL4_c, Pr, tRev, tLR, tMaxD, tSortR, tD1, tDPop1, tSl, tNoPart, tPart, rSlL, tDIn, tDNotIn, gSub, rSetL, tLst, tDNewK, tComp, L2.stC, tFor_eq, iList, iTup, iRng1, iRng2, iZip, iEnum, iDict, iStr, tChain, tSumV, tBM, rJoin, tJoined, jNil, jLit, jInt, jStr, tRaise, tDGet, tDGet2, tDGet1, sDPut, tSeq, tRet, tRetN, tIfS, tTest, tB, tOp, tUn, tVar, tC, tCB, tCons, tNil, tCall, tTupS, tAsg, gName, gNil, gCons, tPar, tNext, tDrop, tAnd, tOr, tNot, tAndV, tOrV, tNotV, tIf, rI, rI0, rU, rIxTH, rIxLH, rEqT, rNeT, rInT, rEq, rNe, scal_ss, scal_ii, scal_bb, scal_si, scal_is, CPow, List.map_cons, List.map_nil, List.length_cons, List.length_nil, Nat.reduceSub, Nat.reduceAdd, List.replicate_zero, List.reduceReplicate, List.nil_append, List.cons_append, List.getElem?_cons_zero, List.getElem?_cons_succ, List.set_cons_zero, List.set_cons_succ, $ls,*]); try simp! only [$ls,*]) | simp! only [$ls,*] | simp_all only [$ls,*]))
seal L2.PE L2.PT L2.PW L2.PA L2.PS L2.vx L2.PG L2.JZ L2.PI L2.HK L2.PO L2.i7 L2.Pq L2.cM L2.AG L2.Px L2.Hj L2.Fw
theorem j1 {P:Program} {w:World}:rJ (cV P w):=xP P w
set_option genInjectivity false in
set_option genSizeOf false in
structure Txt (K:aba) (mg:Str->Option Value) (aE aF aB aH ah aA:Addr):Prop where
 z_abs:mg "abs"=none
 z_all:mg "all"=none
 z_bool:mg "bool"=none
 z_enumerate:mg "enumerate"=none
 z_int:mg "int"=none
 z_isinstance:mg "isinstance"=none
 z_len:mg "len"=none
 z_list:mg "list"=none
 z_max:mg "max"=none
 z_min:mg "min"=none
 z_range:mg "range"=none
 z_sorted:mg "sorted"=none
 z_str:mg "str"=none
 z_sum:mg "sum"=none
 z_tuple:mg "tuple"=none
 wD:Dn K mg "is_whole" (top 8)
 lX:Dn K mg "common_divisor" (top 9)
 D4:Dn K mg "share" (top 10)
 Ia:Dn K mg "plus" (top 11)
 jE:Dn K mg "table_by_weights" (top 13)
 wF:Dn K mg "table_of" (top 14)
 D5:Dn K mg "power" (top 18)
 rT:Dn K mg "most_faces" (top 19)
 pZ:Dn K mg "part_bottom" (top 20)
 rV:Dn K mg "part_count" (top 21)
 rW:Dn K mg "check_size" (top 22)
 rX:Dn K mg "dice_faces" (top 23)
 p3:Dn K mg "again_faces" (top 24)
 p4:Dn K mg "burst_faces" (top 25)
 rY:Dn K mg "part_faces" (top 26)
 wG:Dn K mg "value_of" (top 27)
 nv:Dn K mg "sides_product" (top 28)
 p6:Dn K mg "part_throws" (top 29)
 jF:Dn K mg "throws_by_bottom" (top 30)
 rZ:Dn K mg "pool_table" (top 31)
 wH:Dn K mg "own_rows" (top 33)
 wI:Dn K mg "own_what" (top 34)
 uD:Dn K mg "_law_cell" (top 40)
 sf:Dn K mg "_law_mixed" (top 41)
 wJ:Dn K mg "_law_low" (top 42)
 uE:Dn K mg "_law_plus" (top 43)
 sh:Dn K mg "_law_words" (top 45)
 si:Dn K mg "_law_deeds" (top 46)
 sj:Dn K mg "_law_throw" (top 47)
 uF:Dn K mg "_law_pick" (top 48)
 uG:Dn K mg "_law_game" (top 49)
 p7:Dn K mg "_law_values" (top 50)
 uH:Dn K mg "_law_what" (top 51)
 p8:Dn K mg "_law_number" (top 52)
 oV:Dn K mg "_law_arrived" (top 53)
 uI:Dn K mg "_law_done" (top 54)
 ki:Dn K mg "_law_holds_when" (top 55)
 uJ:Dn K mg "_law_open" (top 56)
 uK:Dn K mg "_law_gone" (top 57)
 uL:Dn K mg "_law_paid" (top 58)
 p9:Dn K mg "_law_points" (top 59)
 qM:Dn K mg "_law_is" (top 60)
 sr:Dn K mg "_law_looks" (top 61)
 sA:Dn K mg "_law_spoil" (top 62)
 c_MOST_THROWS:∃t,mg "MOST_THROWS"=some (.int 1296 t)
 c_MOST_BOTTOM:∃t,mg "MOST_BOTTOM"=some (.int 1000000 t)
 c_MOST_STEPS:∃t,mg "MOST_STEPS"=some (.int 200 t)
 k_NoShare:mg "NoShare"=some (.ref aE)
 k_NoTable:mg "NoTable"=some (.ref aF)
 k_TooMany:mg "TooMany"=some (.ref aB)
 k_NoStep:mg "NoStep"=some (.ref aH)
 k_Course:mg "Course"=some (.ref ah)
 k_Play:mg "Play"=some (.ref aA)
 x_NoShare:PySem.W.excIn K aE rL j4=true
 x_NoTable:PySem.W.excIn K aF rL j4=true
 x_TooMany:PySem.W.excIn K aB rL j4=true
 x_NoStep:PySem.W.excIn K aH rL j4=true
 aP:xE K ah
 a9:xE K aA
 na_Course_first:abf K (.ref ah) "first"=some none
 na_Course_mosts:abf K (.ref ah) "mosts"=some none
 na_Course_spots:abf K (.ref ah) "spots"=some none
 na_Course_tables:abf K (.ref ah) "tables"=some none
 na_Course_whats:abf K (.ref ah) "whats"=some none
 na_Play_course:abf K (.ref aA) "course"=some none
 na_Play_paid:abf K (.ref aA) "paid"=some none
 na_Play_state:abf K (.ref aA) "state"=some none
 na_Play_trail:abf K (.ref aA) "trail"=some none
 zG:PN K mg "Course" "Course.__init__" (inClass (top 35) 0) ah
 D6:PN K mg "Play" "Play.__init__" (inClass (top 38) 0) aA
 nz:pW K ah "asked" "Course.asked" (inClass (top 35) 3)
 lY:pW K ah "by_row" "Course.by_row" (inClass (top 35) 6)
 jG:pW K ah "by_value" "Course.by_value" (inClass (top 35) 7)
 sC:pW K ah "do" "Course.do" (inClass (top 35) 2)
 i4:pW K ah "end_worth" "Course.end_worth" (inClass (top 35) 12)
 nA:pW K ah "holds" "Course.holds" (inClass (top 35) 9)
 i5:pW K ah "open_rows" "Course.open_rows" (inClass (top 35) 10)
 qa:pW K ah "put" "Course.put" (inClass (top 35) 1)
 nB:pW K ah "start" "Course.start" (inClass (top 35) 4)
 jH:pW K ah "table_at" "Course.table_at" (inClass (top 35) 8)
 kj:pW K ah "what_at" "Course.what_at" (inClass (top 35) 5)
 jI:pW K ah "words_at" "Course.words_at" (inClass (top 35) 11)
 wK:pW K aA "go" "Play.go" (inClass (top 38) 4)
 km:pW K aA "open_ways" "Play.open_ways" (inClass (top 38) 3)
 oW:pW K aA "points" "Play.points" (inClass (top 38) 2)
 uM:pW K aA "say" "Play.say" (inClass (top 38) 5)
 qb:pW K aA "shown" "Play.shown" (inClass (top 38) 8)
 oX:pW K aA "stands" "Play.stands" (inClass (top 38) 1)
 qc:pW K aA "throw" "Play.throw" (inClass (top 38) 6)
abbrev fP (K:aba) (x q:Str) (st:Stmt):Prop:=∃f oc od sl kV dc pm an cd ct,abe K mainGlobals x=some (some (.ref f))/\K.lookup f=some ⟨oc,od,.func (abd q q (bE st) (bA st) (aq st) .none kV dc pm an cd ct),sl⟩/\abc K cd q=true/\abb K (.ref f)=true
theorem X9 {K:aba} {x q:Str} {st:Stmt} {f:Addr} {od an:Option Addr} {sl:Array (Option Value)} {oc kV dc pm cd ct:Value} (a:abe K mainGlobals x=some (some (.ref f))) (l:K.lookup f=some ⟨oc,od,.func (abd q q (bE st) (bA st) (aq st) .none kV dc pm an cd ct),sl⟩) (e:abc K cd q=true) (k:abb K (.ref f)=true):fP K x q st:=⟨_,_,_,_,_,_,_,_,_,_,a,l,e,k⟩
theorem fP.dn {K:aba} {h:Heap} {mg:Str->Option Value} {x:Str} {st:Stmt} (F:fP K x x st) (X:K.In h) (G:h.Ns mainGlobals mg):Dn K mg x st:=by
 obtain⟨_,_,_,_,_,_,_,_,_,_,a,l,e,k⟩:=F;exact⟨_,_,cN l e k,aaQ X G a⟩
theorem Rt {C:List Value->Prop} (k:C []):∀us:List Value,us.length=0->C us:=λus h=>by
 cases us with
 | nil=>exact k
 | cons a us=>cases h
theorem D7 {C:List Value->Prop} {n:Nat} (k:∀a (us:List Value),us.length=n->C (a::us)):∀us:List Value,us.length=n+1->C us:=λus h=>by
 cases us with
 | nil=>cases h
 | cons a us=>exact k a us (Nat.succ.inj h)
theorem gA {C:List Value->Prop} (k:∀a,C [a]):∀us:List Value,us.length=1->C us:=D7 λa=>Rt (C:=λus=>C (a::us)) (k a)
theorem d4 {C:List Value->Prop} (k:∀a b,C [a,b]):∀us:List Value,us.length=2->C us:=D7 λa=>gA (C:=λus=>C (a::us)) (k a)
theorem sE {C:List Value->Prop} (k:∀a b c,C [a,b,c]):∀us:List Value,us.length=3->C us:=D7 λa=>d4 (C:=λus=>C (a::us)) (k a)
theorem sF {C:List Value->Prop} (k:∀a b c d,C [a,b,c,d]):∀us:List Value,us.length=4->C us:=D7 λa=>sE (C:=λus=>C (a::us)) (k a)
abbrev Al {α:Type} (R:α->V->Prop):List α->List V->Prop
 | [],[]=>True
 | a::as,v::vs=>R a v/\Al R as vs
 | _,_=>False
theorem Al.length {α:Type} {R:α->V->Prop}:∀{as:List α} {vs:List V},Al R as vs->vs.length=as.length
 | [],[],_=>rfl
 | a::as,v::vs,h=>by simp [Al.length h.2]
theorem Al.imp {α:Type} {R S:α->V->Prop} (f:∀a v,R a v->S a v):∀{as:List α} {vs:List V},Al R as vs->Al S as vs
 | [],[],_=>trivial
 | a::as,v::vs,h=>⟨f _ _ h.1,Al.imp f h.2⟩
theorem Al.append {α:Type} {R:α->V->Prop}:∀{as bs:List α} {us vs:List V},Al R as us->Al R bs vs->Al R (as++bs) (us++vs)
 | [],_,[],_,_,k=>k
 | a::as,_,v::vs,_,h,k=>⟨h.1,Al.append h.2 k⟩
theorem Al.one {α:Type} {R:α->V->Prop} {a:α} {v:V} (h:R a v):Al R [a] [v]:=⟨h,trivial⟩
theorem Al.get {α:Type} {R:α->V->Prop}:∀{as:List α} {vs:List V} {i:Nat} {v:V},Al R as vs->vs[i]?=some v->∃a,as[i]?=some a/\R a v:=by
 intro as
 induction as with
 | nil=>
  intro vs i v h e;cases vs with
  | nil=>simp at e
  | cons u vs=>exact h.elim
 | cons a as ih=>
  intro vs i v h e;cases vs with
  | nil=>exact h.elim
  | cons u vs=>
   cases i with
   | zero=>cases e;exact⟨a,rfl,h.1⟩
   | succ i=>exact ih (vs:=vs) (i:=i) h.2 e
theorem Al.at {α:Type} {R:α->V->Prop}:∀{as:List α} {vs:List V} {i:Nat} {a:α},Al R as vs->as[i]?=some a->∃v,vs[i]?=some v/\R a v:=by
 intro as
 induction as with
 | nil=>
  intro vs i v h e;simp at e
 | cons a as ih=>
  intro vs i v h e;cases vs with
  | nil=>exact h.elim
  | cons u vs=>
   cases i with
   | zero=>cases e;exact⟨u,rfl,h.1⟩
   | succ i=>exact ih (vs:=vs) (i:=i) h.2 e
theorem Al.of {α:Type} {R:α->V->Prop}:∀{as:List α} {vs:List V},vs.length=as.length->(∀(i:Nat) v a,vs[i]?=some v->as[i]?=some a->R a v)->Al R as vs
 | [],[],_,_=>trivial
 | [],_::_,l,_=>by simp at l
 | _::_,[],l,_=>by simp at l
 | a::as,u::vs,l,h=>⟨h 0 u a rfl rfl,Al.of (by simpa using l) λi v b e1 e2=>h (i+1) v b (by simpa using e1) (by simpa using e2)⟩
abbrev LJ:Sp:=λvs H Q _=>dH vs λa b=>fC a λa=>fC b λb=>Q (.int (Nm.g a b)) H
abbrev Ib (qn:Addr):Sp:=λvs H Q E=>dH vs λa b=>fC a λa=>fC b λb=>Bt 5000 b/\(b=0->E (.ref qn) none H)/\(b≠0->∀p H',aw H H'->H p=none->H' p=some (.tup (Pr (Nm.st a b) (Nm.sb a b)))->Q (.ref p) H')
abbrev Ic:Sp:=λvs H Q _=>dH vs λd B=>dr d λd=>fC B λB=>∃ws,H d=some (.dK (enc ws))/\(Nm.keys ws).Nodup/\ws.length<64/\B≠0/\Bt 5000 B/\∀p H',aw H H'->H p=none->Rep H' (kc (Nm.rowsOf ws B)) (.ref p)->Q (.ref p) H'
abbrev LK (qt:Addr):Sp:=λvs H Q E=>eS vs λv=>∃ps,Rep H (Bh ps) v/\ps.length<=1296/\(∀p∈ps,p.2<=10^12)/\(Nm.jc ps).length<64/\(Nm.bad ps->∀H',aw H H'->E (.ref qt) none H')/\(¬Nm.bad ps->∀p H',aw H H'->H p=none->Rep H' (kc (Nm.rowsOf (Nm.jc ps) (Nm.oG (Nm.jc ps)))) (.ref p)->Q (.ref p) H')
abbrev D8 (s:Nat):Nat->List (List Int)
 | 0=>[[]]
 | d+1=>(D8 s d).flatMap λf=>(List.range s).map λi:Nat=>f++ [((i:Nat):Int)+1]
theorem nN (s:Nat):∀d,(D8 s d).length=s^d
 | 0=>rfl
 | d+1=>by
  have h:∀l:List (List Int),(l.flatMap λf=>(List.range s).map λi:Nat=>f++ [((i:Nat):Int)+1]).length=l.length*s:=by
   intro l
   induction l with
   | nil=>simp
   | cons a r ih=>rw[List.flatMap_cons,aaq,ih,aad,aax,aap,Nat.succ_mul,Nat.add_comm]
  rw[D8,h,nN s d,Nat.pow_succ]
theorem sG (s:Nat):∀d,∀f∈D8 s d,f.length=d/\∀x∈f,1<=x/\x<=(s:Int)
 | 0,f,h=>by
  rw[abj.mp h];exact⟨rfl,by simp⟩
 | d+1,f,h=>by
  obtain⟨g,hg,hf⟩:=List.mem_flatMap.mp h;obtain⟨i,hi,rfl⟩:=abi.mp hf;obtain⟨l,k⟩:=sG s d g hg;have:=List.mem_range.mp hi;refine⟨by rw[aaq,l];rfl,λx hx=>?_⟩;rcases List.mem_append.mp hx with h | h
  ·exact k x h
  ·rw[abj.mp h];lia
abbrev Lt (f g:List Int):Prop:=FD f g=false
abbrev J6 (s a:Nat):List (List Int):=(List.range (s - 1)).map λi:Nat=>abn a (s:Int)++ [((i:Nat):Int)+1]
abbrev J7 (s:Nat) (most:Nat):List (List Int):=((List.range most).flatMap λa=>J6 s a)++ [abn most (s:Int)]
theorem D9 {s most:Nat} (h:0<s):∀f∈J7 s most,(∀x∈f,1<=x/\x<=(s:Int))/\((∃(a:Nat) (x:Int),a<most/\x<s/\f=abn a (s:Int)++ [x])\/f=abn most (s:Int)):=by
 intro f hf;unfold J7 at hf;rcases List.mem_append.mp hf with hf | hf
 ·obtain⟨a,ha,hf⟩:=List.mem_flatMap.mp hf;have ha:=List.mem_range.mp ha;obtain⟨i,hi,rfl⟩:=abi.mp hf;have hi:=List.mem_range.mp hi;refine⟨λx hx=>?_,.inl ⟨a,_,ha,⋯,rfl⟩⟩;rcases List.mem_append.mp hx with hx | hx
  ·rw[List.eq_of_mem_replicate hx];lia
  ·rw[abj.mp hx];lia
 ·rw[abj.mp hf];refine⟨λx hx=>?_,.inr rfl⟩;rw[List.eq_of_mem_replicate hx];lia
inductive Pt
 | num (n:Nat)
 | cP (m s:Nat)
 | bU (n s:Nat)
abbrev k7:Pt->List V
 | .num n=>[.str "number",.int (n:Int)]
 | .cP m s=>[.str "dice",.int (m:Int),.int (s:Int)]
 | .bU n s=>[.str "burst",.int (n:Int),.int (s:Int)]
abbrev lZ:Pt->Dat
 | .num n=>.tup [.str "number",.int (n:Int)]
 | .cP m s=>.tup [.str "dice",.int (m:Int),.int (s:Int)]
 | .bU n s=>.tup [.str "burst",.int (n:Int),.int (s:Int)]
theorem Ru (p:Pt):depth (lZ p)<=1:=by cases p <;>simp [lZ,depth,depth.dL]
abbrev lst:Pt->Nat
 | .num n=>n
 | .cP _ s=>s
 | .bU _ s=>s
abbrev sd:Pt->Nat
 | .num _=>1
 | p=>lst p
abbrev Ea:Pt->Nat
 | .num _=>0
 | .cP m _=>m
 | .bU n _=>n+1
abbrev bot (p:Pt):Nat:=sd p^Ea p
abbrev cnt:Pt->Nat
 | .num _=>1
 | .bU n s=>(n+1)* (s - 1)+1
 | p=>bot p
abbrev Eb:Pt->List (List Int)
 | .num _=>[[]]
 | .cP m s=>D8 s m
 | .bU n s=>J7 s (n+1)
abbrev val:Pt->List Int->Int
 | .num n,_=>n
 | .cP _ _,f=>f.sum
 | .bU _ _,f=>f.sum
abbrev eB:Pt->Prop
 | .num n=>n<=99
 | .cP m s=>1<=s/\s<=20/\m<=6
 | .bU n s=>1<=s/\s<=20/\n<=6
theorem sI {p:Pt} (g:eB p):1<=sd p/\sd p<=20:=by
 cases p <;>simp only[sd,lst,eB] at *<;>lia
theorem Ie {p:Pt} (g:eB p):lst p<=99:=by
 cases p <;>simp only[lst,eB] at *<;>lia
theorem oY {p:Pt} (g:eB p):Ea p<=7:=by
 cases p <;>simp only[Ea,eB] at *<;>(try split) <;>lia
theorem zH {s e:Nat} (hs:s<=20) (he:e<=10):s^e<=10240000000000:=
 aao (Nat.pow_le_pow_left hs e) (aao (Nat.pow_le_pow_right ∅ he) ∅)
theorem Ec (s:Nat) (most:Nat):(J7 s most).length=most* (s - 1)+1:=by
 unfold J7;rw[aaq];have:∀l:List Nat,(l.flatMap λa=>J6 s a).length=l.length* (s - 1):=by
  intro l
  induction l with
  | nil=>simp
  | cons a r ih=>rw[List.flatMap_cons,aaq,ih,aap,Nat.succ_mul];unfold J6;rw[aad,aax];lia
 rw[this,aax];rfl
theorem ko (p:Pt):(Eb p).length=cnt p:=by
 cases p with
 | num n=>rfl
 | cP m s=>exact nN s m
 | bU n s=>exact Ec s _
theorem kr {p:Pt} (g:eB p):∀f∈Eb p,(∀x∈f,1<=x/\x<=(lst p:Int))/\f.length<=Ea p:=by
 intro f hf;cases p with
 | num n=>rw[abj.mp hf];simp
 | cP m s=>obtain⟨a,b⟩:=sG s m f hf;exact⟨b,Nat.le_of_eq a⟩
 | bU n s=>
  obtain⟨a,b⟩:=D9 g.1 f hf;refine⟨a,?_⟩;show f.length<=n+1;rcases b with ⟨k,x,hk,h,rfl⟩ | rfl
  ·simp;lia
  ·simp
theorem Ed {p:Pt} (g:eB p) {f:List Int} (hf:f∈Eb p):1<=sd p^f.length/\sd p^f.length<=bot p:=
 ⟨Nat.pow_pos (sI g).1,Nat.pow_le_pow_right (sI g).1 (kr g f hf).2⟩
@[inline]abbrev Row:=List Int×Int×Nat
abbrev C8 (p:Pt):List Row:=(Eb p).map λf=>(f,val p f,sd p^f.length)
abbrev vo (rs:List Row) (p:Pt):List Row:=rs.flatMap λr=>(C8 p).map λq=>(r.1++q.1,r.2.1+q.2.1,r.2.2*q.2.2)
abbrev dM (ps:List Pt):List Row:=ps.foldl vo [([],0,1)]
theorem oZ (ps:List Pt) (p:Pt):dM (ps++ [p])=vo (dM ps) p:=by unfold dM;rw[List.foldl_append];rfl
abbrev iA:List Nat->Nat
 | []=>1
 | a::r=>a*iA r
theorem gB (l:List Nat) (a:Nat):iA (l++ [a])=iA l*a:=by
 induction l with
 | nil=>simp [iA]
 | cons b r ih=>simp only[aaP,iA,ih,Nat.mul_assoc]
theorem yh {l:List Nat} (h:∀a∈l,1<=a):1<=iA l:=by
 induction l with
 | nil=>simp [iA]
 | cons b r ih=>
  have h1:=h b (by simp);have h2:=ih λa ha=>h a (aam _ ha);exact Nat.mul_le_mul h1 h2
theorem uN {l:List Nat} (h:∀a∈l,1<=a):∀i,iA (l.take i)<=iA l:=by
 induction l with
 | nil=>intro i;simp
 | cons b r ih=>
  intro i;have h1:=h b (by simp);have h0:∀a∈r,1<=a:=λa ha=>h a (aam _ ha);cases i with
  | zero=>exact Nat.mul_le_mul h1 (yh h0)
  | succ i=>exact Nat.mul_le_mul (aag _) (ih h0 i)
theorem Ee (rs:List Row) (p:Pt):(vo rs p).length=rs.length*cnt p:=by
 unfold vo
 induction rs with
 | nil=>simp
 | cons r t ih=>
  rw[List.flatMap_cons,aaq,ih,aad,aap,Nat.succ_mul];unfold C8;rw[aad,ko];lia
theorem take_snoc {α:Type} {l:List α} {i:Nat} (h:i<l.length):l.take (i+1)=l.take i++ [l[i]]:=by
 rw[aaF,aai h];rfl
theorem nO (ps:List Pt):(dM ps).length=iA (ps.map cnt):=by
 have:∀i,i<=ps.length->(dM (ps.take i)).length=iA ((ps.take i).map cnt):=by
  intro i
  induction i with
  | zero=>intro _;rfl
  | succ i ih=>
   intro h;rw[take_snoc ⋯,oZ,Ee,ih ⋯,aak,aae,aaN,gB]
 have:=this ps.length (aag _)
 rwa [aau (aag _)] at this
theorem nJ {p:Pt} (g:eB p):1<=cnt p:=by
 cases p with
 | num n=>simp [cnt]
 | cP m s=>exact Nat.pow_pos g.1
 | bU n s=>simp [cnt]
theorem yi {p:Pt} (g:eB p):1<=bot p:=Nat.pow_pos (sI g).1
abbrev qN (ps:List Pt):Prop:=(∀p∈ps,eB p)/\iA (ps.map cnt)<=1296/\iA (ps.map bot)<=1000000
theorem l8 {ps:List Pt} (g:qN ps) (i:Nat):iA ((ps.take i).map cnt)<=1296:=by
 rw[List.map_take];exact aao (uN (λa ha=>by obtain⟨p,hp,rfl⟩:=abi.mp ha;exact nJ (g.1 p hp)) i) g.2.1
theorem ma {ps:List Pt} (g:qN ps) (i:Nat):iA ((ps.take i).map bot)<=1000000:=by
 rw[List.map_take];exact aao (uN (λa ha=>by obtain⟨p,hp,rfl⟩:=abi.mp ha;exact yi (g.1 p hp)) i) g.2.2
theorem yj {l:List Nat} (h:∀a∈l,1<=a):∀a∈l,a<=iA l:=by
 induction l with
 | nil=>intro a ha;cases ha
 | cons b r ih=>
  intro a ha;have h1:=h b (by simp);have h0:∀a∈r,1<=a:=λa ha=>h a (aam _ ha);rw[iA];rcases aaB.mp ha with rfl | ha
  ·have:=Nat.mul_le_mul (aag a) (yh h0);lia
  ·have:=Nat.mul_le_mul h1 (ih h0 a ha);lia
theorem me {ps:List Pt} (g:qN ps) {p:Pt} (hp:p∈ps):eB p/\cnt p<=1296/\bot p<=1000000:=
 ⟨g.1 p hp,aao (yj (λa ha=>by obtain⟨p,hp,rfl⟩:=abi.mp ha;exact nJ (g.1 p hp)) _ (List.mem_map_of_mem hp)) g.2.1,
  aao (yj (λa ha=>by obtain⟨p,hp,rfl⟩:=abi.mp ha;exact yi (g.1 p hp)) _ (List.mem_map_of_mem hp)) g.2.2⟩
theorem yk {ps:List Pt} (g:∀p∈ps,eB p):∀i,i<=ps.length->∀r∈dM (ps.take i),r.1.length<=7*i/\1<=r.2.2/\r.2.2<=iA ((ps.take i).map bot):=by
 intro i
 induction i with
 | zero=>intro _ r hr;rw[abj.mp hr];simp [iA]
 | succ i ih=>
  intro h r hr;rw[take_snoc ⋯,oZ] at hr;obtain⟨r0,h0,hr⟩:=List.mem_flatMap.mp hr;obtain⟨q,hq,rfl⟩:=abi.mp hr;obtain⟨f,hf,rfl⟩:=abi.mp hq;obtain⟨a,b,c⟩:=ih ⋯ r0 h0;have gp:=g _ (aaI (show i<ps.length by lia));obtain⟨d,e⟩:=Ed gp hf;have l:=(kr gp f hf).2;have m:=oY gp;rw[take_snoc ⋯,aak,aae,aaN,gB];refine⟨by rw[aaq];show r0.1.length+f.length<=_;lia,Nat.mul_le_mul b d,Nat.mul_le_mul c e⟩
abbrev Fa (H:Hp) (f:List Int) (v:V):Prop:=∃q,v=.ref q/\H q=some (.lst (List.map V.int f))
theorem Fa.mono {H H':Hp} {f:List Int} {v:V} (s:aw H H'):Fa H f v->Fa H' f v:=fun⟨q,e,h⟩=>⟨q,e,s _ _ h⟩
abbrev TR (G H:Hp) (r:Row) (v:V):Prop:=∃a q,v=.ref a/\H a=some (.tup [.ref q,.int r.2.1,.int (r.2.2:Int)])/\H q=some (.lst (List.map V.int r.1))/\G q=none
theorem TR.mono {G H H':Hp} {r:Row} {v:V} (s:aw H H'):TR G H r v->TR G H' r v:=fun⟨a,q,e,h,k,n⟩=>⟨a,q,e,s _ _ h,s _ _ k,n⟩
abbrev Ig (H:Hp) (l:Addr) (ps:List Pt):Prop:=∃xs,H l=some (.lst xs)/\Al (λp v=>∃q,v=.ref q/\H q=some (.tup (k7 p))) ps xs
theorem Ig.mono {H H':Hp} {l:Addr} {ps:List Pt} (s:aw H H'):Ig H l ps->Ig H' l ps:=fun⟨xs,h,a⟩=>⟨xs,s _ _ h,a.imp λ_ _ ⟨q,e,k⟩=>⟨q,e,s _ _ k⟩⟩
theorem sJ {H:Hp} {p:Addr} {o:HO}:cG (upd H p o) p=cG H p:=by
 funext a;unfold cG
 by_cases c:a=p
 ·rw[if_pos c,if_pos c]
 ·rw[if_neg c,if_neg c,av c]
theorem wL (p:Pt):jS (k7 p) (-1)=some (.int (lst p:Int)):=by cases p <;>rfl
abbrev kd:Pt->Str
 | .num _=>aac "number"
 | .cP _ _=>aac "dice"
 | .bU _ _=>aac "burst"
theorem Ih (p:Pt):jS (k7 p) 0=some (.str (kd p)):=by cases p <;>rfl
abbrev LL:Sp:=λvs H Q _=>∃(b e:Nat),vs=[.int (b:Int),.int (e:Int)]/\(1<=b\/e=0)/\e<=10/\b^e<=1000000/\Q (.int ((b^e:Nat):Int)) H
abbrev Ef:Sp:=λvs H Q _=>eS vs λq=>dr q λq=>∃p,H q=some (.tup (k7 p))/\Q (.int (Ea p:Int)) H
abbrev Bz:Sp:=λvs H Q _=>eS vs λq=>dr q λq=>∃p,H q=some (.tup (k7 p))/\eB p/\bot p<=1000000/\Q (.int (bot p:Int)) H
abbrev LM:Sp:=λvs H Q _=>eS vs λq=>dr q λq=>∃p,H q=some (.tup (k7 p))/\eB p/\bot p<=1000000/\Q (.int (cnt p:Int)) H
abbrev LN:Sp:=λvs H Q _=>eS vs λl=>dr l λl=>∃ps,Ig H l ps/\qN ps/\Q .cU H
abbrev LO:Sp:=λvs H Q _=>∃(d s:Nat),vs=[.int (d:Int),.int (s:Int)]/\1<=s/\s<=20/\d<=6/\s^d<=1296/\∀l H' xs,aw H H'->H' l=some (.lst xs)->Al (Fa H') (D8 s d) xs->Q (.ref l) H'
abbrev LQ:Sp:=λvs H Q _=>∃(n s:Nat),vs=[.int (n:Int),.int (s:Int)]/\1<=s/\s<=20/\n<=7/\∀l H' xs,aw H H'->H' l=some (.lst xs)->Al (Fa H') (J7 s n) xs->Q (.ref l) H'
abbrev LR:Sp:=λvs H Q _=>eS vs λq=>dr q λq=>∃p,H q=some (.tup (k7 p))/\eB p/\cnt p<=1296/\∀l H' xs,aw H H'->H' l=some (.lst xs)->Al (Fa H') (Eb p) xs->Q (.ref l) H'
abbrev LS:Sp:=λvs H Q _=>dH vs λq l=>dr q λq=>dr l λl=>∃p,H q=some (.tup (k7 p))/\∃f,H l=some (.lst (List.map V.int f))/\eB p/\f∈Eb p/\∀H',aw H H'->Q (.int (val p f)) H'
abbrev LU:Sp:=λvs H Q _=>dH vs λq l=>dr q λq=>dr l λl=>∃p,H q=some (.tup (k7 p))/\∃f,H l=some (.lst (List.map V.int f))/\eB p/\f∈Eb p/\Q (.int ((sd p^f.length:Nat):Int)) H
abbrev LV:Sp:=λvs H Q _=>eS vs λq=>dr q λq=>∃p,H q=some (.tup (k7 p))/\eB p/\cnt p<=1296/\∀l H' xs,aw H H'->H' l=some (.lst xs)->Al (TR (λ_=>none) H') (C8 p) xs->Q (.ref l) H'
abbrev LW:Sp:=λvs H Q _=>eS vs λa=>dr a λa=>∃ps,Ig H a ps/\qN ps/\ps.length<=4/\∀l H' xs,aw H H'->H' l=some (.lst xs)->Al (TR H H') (dM ps) xs->Q (.ref l) H'
abbrev Rv:Sp:=λ_ _ _ _=>False
abbrev zI:List (Nat×Nat):=[(1,2),(1,3),(1,4),(1,5),(1,6),(2,2),(2,3),(2,4),(2,5),(2,6)]
abbrev LX:List (List Pt):=[2,3,4,5,6].map λs=>[.bU 1 s]
abbrev Ag:List (List Pt):=(zI.flatMap λx=>[.cP x.1 x.2]::(List.range 100).map λm=>[.cP x.1 x.2,.num m])++LX
abbrev Eg (C:Nat) (rs:List Row):Nm.Ws:=rs.map λr=>(r.2.1,((C / r.2.2:Nat):Int))
abbrev ym (ps:List Pt):Nm.Ws:=Eg (iA (ps.map bot)) (dM ps)
abbrev ku (ps:List Pt):List (Int×Int×Int):=Nm.rowsOf (Nm.jc (ym ps)) (Nm.oG (Nm.jc (ym ps)))
abbrev mM (ps:List Pt):Prop:=ps∈Ag
abbrev FN (ps:List Pt):Int:=(iA (ps.map bot):Int)
abbrev ff:List Pt->List Int
 | [.cP k s]=>(List.range (k*s - k+1)).map λi:Nat=>(k:Int)+ (i:Int)
 | [.bU _ s]=>((List.range (2*s)).map λi:Nat=>1+ (i:Int)).filter λv=>decide (v≠(s:Int))
 | [.cP k s,.num m]=>(List.range (k*s - k+1)).map λi:Nat=>(k:Int)+ (m:Int)+ (i:Int)
 | _=>[]
theorem Eh {ps:List Pt} (g:ps∈LX):∃s,2<=s/\s<=6/\ps=[.bU 1 s]:=by
 obtain⟨s,hs,rfl⟩:=abi.mp g;have:∀s∈[2,3,4,5,6],2<=s/\s<=6:=∅
 exact⟨s,(this s hs).1,(this s hs).2,rfl⟩
theorem Ii {s:Nat} (h:2<=s) (h':s<=6):[.bU 1 s]∈Ag:=by
 refine aaD _ (abi.mpr ⟨s,?_,rfl⟩);have:s=2\/s=3\/s=4\/s=5\/s=6:=⋯
 rcases this with rfl | rfl | rfl | rfl | rfl <;>decide
theorem iS {ps:List Pt} (g:ps∈Ag):(∃k s,(k,s)∈zI/\(ps=[.cP k s]\/∃m,m<100/\ps=[.cP k s,.num m]))\/∃s,2<=s/\s<=6/\ps=[.bU 1 s]:=by
 rcases List.mem_append.mp g with g | g
 ·obtain⟨⟨k,s⟩,hx,h⟩:=List.mem_flatMap.mp g;refine .inl ⟨k,s,hx,?_⟩;rcases aaB.mp h with h | h
  ·exact .inl h
  ·obtain⟨m,hm,rfl⟩:=abi.mp h;exact .inr ⟨m,List.mem_range.mp hm,rfl⟩
 ·exact .inr (Eh g)
abbrev qd (x:Nat×Nat):List (List Pt):=[.cP x.1 x.2]::(List.range 100).map λm=>[.cP x.1 x.2,.num m]
theorem BA {ps:List Pt} (h:ps∈Ag):(∃x∈zI,ps∈qd x)\/ps∈LX:=by
 rcases List.mem_append.mp h with h | h
 ·obtain⟨x,hx,h⟩:=List.mem_flatMap.mp h;exact .inl ⟨x,hx,h⟩
 ·exact .inr h
@[inline]abbrev BB (ps:List Pt):Prop:=(∀x∈ym ps,0<x.2/\x.2<=10^12)/\(ym ps).length<=1296/\(Nm.jc (ym ps)).length<64/\Nm.pos (ym ps)≠[]/\iA (ps.map cnt)<=1296/\iA (ps.map bot)<=1000000
@[inline]abbrev BC (ps:List Pt):Prop:=(0<FN ps/\FN ps<=1000000/\(ku ps).length<=1296/\∀r∈ku ps,0<r.2.2/\r.2.2∣FN ps/\0<=r.2.1/\r.2.1<=FN ps)/\(ku ps).map (·.1)=ff ps
theorem Rx:∀ps∈LX,BB ps:=∅
theorem Ry:∀ps∈LX,BC ps:=∅
theorem Rz:∀ps∈qd (1,2),BB ps:=∅
theorem RA:∀ps∈qd (1,2),BC ps:=∅
theorem RB:∀ps∈qd (1,3),BB ps:=∅
theorem RC:∀ps∈qd (1,3),BC ps:=∅
theorem RD:∀ps∈qd (1,4),BB ps:=∅
theorem RE:∀ps∈qd (1,4),BC ps:=∅
theorem RF:∀ps∈qd (1,5),BB ps:=∅
theorem RG:∀ps∈qd (1,5),BC ps:=∅
theorem RH:∀ps∈qd (1,6),BB ps:=∅
theorem RI:∀ps∈qd (1,6),BC ps:=∅
theorem RJ:∀ps∈qd (2,2),BB ps:=∅
theorem RK:∀ps∈qd (2,2),BC ps:=∅
theorem RL:∀ps∈qd (2,3),BB ps:=∅
theorem RM:∀ps∈qd (2,3),BC ps:=∅
theorem RN:∀ps∈qd (2,4),BB ps:=∅
theorem RO:∀ps∈qd (2,4),BC ps:=∅
theorem RP:∀ps∈qd (2,5),BB ps:=∅
theorem RQ:∀ps∈qd (2,5),BC ps:=∅
theorem RS:∀ps∈qd (2,6),BB ps:=∅
theorem RT:∀ps∈qd (2,6),BC ps:=∅
theorem sL:∀ps∈Ag,(∀x∈ym ps,0<x.2/\x.2<=10^12)/\(ym ps).length<=1296/\(Nm.jc (ym ps)).length<64/\Nm.pos (ym ps)≠[]/\iA (ps.map cnt)<=1296/\iA (ps.map bot)<=1000000:=λps h=>by
 rcases BA h with ⟨x,hx,h⟩ | h
 case inr=>exact Rx ps h
 simp only[zI,aaB,aaO,or_false] at hx;rcases hx with rfl | rfl | rfl | rfl | rfl | rfl | rfl | rfl | rfl | rfl
 ·exact Rz ps h
 ·exact RB ps h
 ·exact RD ps h
 ·exact RF ps h
 ·exact RH ps h
 ·exact RJ ps h
 ·exact RL ps h
 ·exact RN ps h
 ·exact RP ps h
 ·exact RS ps h
theorem yn:∀ps∈Ag,(0<FN ps/\FN ps<=1000000/\(ku ps).length<=1296/\∀r∈ku ps,0<r.2.2/\r.2.2∣FN ps/\0<=r.2.1/\r.2.1<=FN ps)/\(ku ps).map (·.1)=ff ps:=λps h=>by
 rcases BA h with ⟨x,hx,h⟩ | h
 case inr=>exact Ry ps h
 simp only[zI,aaB,aaO,or_false] at hx;rcases hx with rfl | rfl | rfl | rfl | rfl | rfl | rfl | rfl | rfl | rfl
 ·exact RA ps h
 ·exact RC ps h
 ·exact RE ps h
 ·exact RG ps h
 ·exact RI ps h
 ·exact RK ps h
 ·exact RM ps h
 ·exact RO ps h
 ·exact RQ ps h
 ·exact RT ps h
theorem Ei {ps:List Pt} (g:ps∈Ag):ps.length<=4:=by
 rcases iS g with ⟨k,s,_,e | ⟨m,_,e⟩⟩ | ⟨s,_,_,e⟩ <;>rw[e] <;>simp
theorem uO {ps:List Pt} (g:ps∈Ag):qN ps:=by
 have h:=(sL ps g).2.2.2.2;refine⟨λp hp=>?_,h.1,h.2⟩;have d:∀x∈zI,1<=x.2/\x.2<=20/\x.1<=6:=∅
 rcases iS g with ⟨k,s,hd,e | ⟨m,hm,e⟩⟩ | ⟨s,s2,s6,e⟩
 ·rw[e,abj] at hp;rw[hp];exact d _ hd
 ·rw[e,aaB,abj] at hp;rcases hp with rfl | rfl
  ·exact d _ hd
  ·show m<=99;lia
 ·rw[e,abj] at hp;rw[hp];exact⟨⋯,⋯,∅⟩
theorem Ij {ps:List Pt} (g:mM ps):¬Nm.bad (ym ps):=λb=>by
 obtain⟨h1,_,_,h4,_⟩:=sL ps g;rcases b with ⟨x,hx,c⟩ | c
 ·have:=h1 x hx;lia
 ·exact h4 c
theorem Ej {p q:Pt} (h:lZ p=lZ q):p=q:=by
 cases p <;>cases q <;>simp only[lZ,Dat.tup.injEq,List.cons.injEq,Dat.str.injEq,Dat.int.injEq,and_true,Int.natCast_inj] at h <;>first | exact absurd h.1 (by ac_rfl) | (obtain⟨_,rfl⟩:=h;rfl) | (obtain⟨_,rfl,rfl⟩:=h;rfl) | (obtain⟨_,rfl,rfl,rfl⟩:=h;rfl)
abbrev LY:Sp:=λvs H Q _=>eS vs λa=>dr a λa=>∃ps,Ig H a ps/\mM ps/\ps.length<=4/\∀p H',aw H H'->H p=none->Rep H' (kc (ku ps)) (.ref p)->Q (.ref p) H'
inductive Dd
 | set (n:Str) (k:Int)
 | plus (n:Str) (k:Int)
 | face (n:Str)
 | move (n m:Str)
abbrev qO:Dd->Dat
 | .set n k=>.tup [.str "set",.str n,.int k]
 | .plus n k=>.tup [.str "plus",.str n,.int k]
 | .face n=>.tup [.str "face",.str n]
 | .move n m=>.tup [.str "move",.str n,.str m]
structure Rw where
 word:Str
 wh:Option (Str×Str×Int)
 ds:List Dd
 to:Str
abbrev FO:Option (Str×Str×Int)->Dat
 | none=>.cU
 | some (a,b,k)=>.tup [.str a,.str b,.int k]
@[inline]abbrev R4:=Dat×Dat×List Dat×Dat
abbrev mO (r:R4):Dat:=.tup [r.1,r.2.1,.lst r.2.2.1,r.2.2.2]
abbrev C9 (r:Rw):R4:=(.str r.word,FO r.wh,r.ds.map qO,.str r.to)
@[inline]abbrev Tw:=Int×Int×List Dd×Str
abbrev BD (r:Tw):R4:=(.int r.1,.int r.2.1,r.2.2.1.map qO,.str r.2.2.2)
inductive Wt
 | ask (c:Str) (k:Int) (one other:Str)
 | fin (t b:Int)
 | score (c:Str)
 | pick (vn:Int) (rs:List Rw)
 | dM (cY:List Dat) (t b:Int) (rs:List Tw)
abbrev jd:Wt->Dat
 | .ask c k a b=>.tup [.str "ask",.str c,.int k,.str a,.str b]
 | .fin t b=>.tup [.str "end",.tup [.int t,.int b]]
 | .score c=>.tup [.str "score",.str c]
 | .pick w rs=>.tup [.str "pick",.int w,.lst ((rs.map C9).map mO)]
 | .dM cY t b rs=>.tup [.str "throw",.lst cY,.tup [.int t,.int b],.lst ((rs.map BD).map mO)]
structure Gm where
 cs:List (Str×Int)
 ps:List (Str×Wt)
abbrev J8 (cs:List (Str×Int)):Dat:=.lst (cs.map λc=>.tup [.str c.1,.int c.2])
abbrev Yb (ps:List (Str×Wt)):Dat:=.lst (ps.map λp=>.tup [.str p.1,jd p.2])
abbrev nE (g:Gm):Dat:=.tup [J8 g.cs,Yb g.ps]
abbrev bF (cs:List (Str×Int)) (n:Str):Nat:=(cs.map (·.1)).idxOf n
abbrev most (cs:List (Str×Int)) (i:Nat):Int:=(cs.map (·.2)).getD i 0
abbrev sM (cs:List (Str×Int)) (ns:List Int) (i:Nat) (k:Int):List Int:=ns.set i (min k (most cs i))
abbrev ie (cs:List (Str×Int)) (v:Int) (ns:List Int):Dd->List Int
 | .set n k=>sM cs ns (bF cs n) k
 | .plus n k=>sM cs ns (bF cs n) (ns.getD (bF cs n) 0+k)
 | .face n=>sM cs ns (bF cs n) (ns.getD (bF cs n) 0+v)
 | .move n m=>(sM cs ns (bF cs m) (ns.getD (bF cs m) 0+ns.getD (bF cs n) 0)).set (bF cs n) 0
abbrev fQ (cs:List (Str×Int)):Dd->Prop
 | .set n _=>n∈cs.map (·.1)
 | .plus n _=>n∈cs.map (·.1)
 | .face n=>n∈cs.map (·.1)
 | .move n m=>n∈cs.map (·.1)/\m∈cs.map (·.1)
theorem fz {cs:List (Str×Int)} {n:Str} (h:n∈cs.map (·.1)):bF cs n<cs.length:=by
 have:=List.idxOf_lt_length_of_mem h
 rwa [aad] at this
theorem iB {cs:List (Str×Int)} {ns:List Int} {i:Nat} {k:Int}:(sM cs ns i k).length=ns.length:=by unfold sM;rw[List.length_set]
theorem Ek {cs:List (Str×Int)} {v:Int} {ns:List Int}:∀d:Dd,(ie cs v ns d).length=ns.length
 | .set _ _=>iB
 | .plus _ _=>iB
 | .face _=>iB
 | .move _ _=>by unfold ie;rw[List.length_set,iB]
abbrev look (ps:List (Str×Wt)) (n:Str):Option Wt:=(ps.find? λp=>decide (p.1=n)).map (·.2)
abbrev dO (g:Gm) (ns:List Int):Nat->Str->Option Str
 | 0,_=>none
 | f+1,nm=>match look g.ps nm with
  | some (.ask c k a b)=>if k<=ns.getD (bF g.cs c) 0 then dO g ns f a else dO g ns f b
  | some _=>some nm
  | none=>none
abbrev iC (cs:List (Str×Int)) (ns:List Int):Option (Str×Str×Int)->Bool
 | none=>true
 | some (n,x,k)=>if n∈cs.map (·.1) then (if x=aac "from" then decide (k<=ns.getD (bF cs n) 0) else decide (ns.getD (bF cs n) 0<k)) else false
abbrev kx (cs:List (Str×Int)):Wt->Prop
 | .ask c _ _ _=>c∈cs.map (·.1)
 | .fin _ _=>True
 | .score c=>c∈cs.map (·.1)
 | .pick _ rs=>rs.length<=100/\∀r∈rs,r.ds.length<=100/\∀d∈r.ds,fQ cs d
 | .dM cY _ _ rs=>cY.length<=100/\rs.length<=100/\∀r∈rs,r.2.2.1.length<=100/\∀d∈r.2.2.1,fQ cs d
structure GoodG (g:Gm):Prop where
 nc:(g.cs.map (·.1)).Nodup
 np:(g.ps.map (·.1)).Nodup
 lc:g.cs.length<=100
 lp:g.ps.length<=100
 p0:0<g.ps.length
 wt:∀p∈g.ps,kx g.cs p.2
theorem c7 {ps:List (Str×Wt)} {n:Str} {x:Wt} (h:look ps n=some x):(n,x)∈ps:=by
 unfold look at h;obtain⟨p,hp,rfl⟩:=abg.mp h;have e:=List.find?_some hp;have e:p.1=n:=by simpa using e
 subst e;exact aa9 hp
abbrev o3:List (Str×Int)->Nat->List (Key×V)
 | [],_=>[]
 | c::cs,i=>(Sum.inr c.1,V.int (i:Int))::o3 cs (i+1)
theorem yo:∀(cs:List (Str×Int)) (i:Nat),(o3 cs i).length=cs.length
 | [],_=>rfl
 | _::cs,i=>by rw[o3,aap,yo cs,aap]
theorem uP (c:Str×Int):∀(cs:List (Str×Int)) (i:Nat),o3 (cs++ [c]) i=o3 cs i++ [(Sum.inr c.1,V.int ((i+cs.length:Nat):Int))]
 | [],i=>rfl
 | d::cs,i=>by
  rw[aaP,o3,uP c cs (i+1),o3,aap,show i+1+cs.length=i+ (cs.length+1) by lia];rfl
theorem yp {n:Str}:∀{cs:List (Str×Int)} {i:Nat},n∈cs.map (·.1)->dI (o3 cs i) (Sum.inr n)=some (.int ((i+bF cs n:Nat):Int))
 | [],_,h=>by simp at h
 | c::cs,i,h=>by
  rw[o3]
  by_cases e:c.1=n
  ·rw[gu (by rw[e])];have:bF (c::cs) n=0:=by unfold bF;rw[aae,e,List.idxOf_cons_self]
   rw[this];rfl
  ·rw[d8 (λz=>e (by injection z)),yp (cs:=cs) (i:=i+1) (by simpa [Ne.symm e] using h)];have:bF (c::cs) n=bF cs n+1:=by unfold bF;rw[aae,List.idxOf_cons,beq_false_of_ne e];rfl
   rw[this,show i+1+bF cs n=i+ (bF cs n+1) by lia]
theorem o4 {n:Str}:∀{cs:List (Str×Int)} {i:Nat},n∉cs.map (·.1)->dI (o3 cs i) (Sum.inr n)=none
 | [],_,_=>rfl
 | c::cs,i,h=>by
  rw[o3,d8 (λz=>h (by injection z with z;simp [z])),o4 (cs:=cs) (i:=i+1) (λz=>h (by rw[aae];exact aam _ z))]
theorem iT {κ:Type} [DecidableEq κ] {kvs:List (κ×V)} {k:κ} {v:V} (h:dI kvs k=none):putK kvs k v=kvs++ [(k,v)]:=by
 unfold putK;rw[if_neg];intro c;obtain⟨x,hx,e⟩:=List.any_eq_true.mp c;unfold dI at h;have:kvs.find? (λkv=>decide (kv.1=k))=none:=by simpa using h
 exact absurd e (by simpa using List.find?_eq_none.mp this x hx)
abbrev o5 (H:Hp):List (Str×Wt)->List (Key×V)->Prop
 | [],us=>us=[]
 | p::ps,us=>∃v r,us=(Sum.inr p.1,v)::r/\Rep H (jd p.2) v/\o5 H ps r
theorem o5.mono {H H':Hp} (s:aw H H'):∀{ps:List (Str×Wt)} {us:List (Key×V)},o5 H ps us->o5 H' ps us
 | [],_,h=>h
 | _::_,_,⟨v,r,e,h1,h2⟩=>⟨v,r,e,h1.mono s,h2.mono s⟩
theorem o5.len {H:Hp}:∀{ps:List (Str×Wt)} {us:List (Key×V)},o5 H ps us->us.length=ps.length
 | [],_,h=>by rw[o5] at h;subst h;rfl
 | _::_,_,⟨v,r,e,h1,h2⟩=>by rw[e,aap,h2.len,aap]
theorem o5.snoc {H:Hp} {p:Str×Wt} {v:V} (k:Rep H (jd p.2) v):∀{ps:List (Str×Wt)} {us:List (Key×V)},o5 H ps us->o5 H (ps++ [p]) (us++ [(Sum.inr p.1,v)])
 | [],_,h=>by rw[o5] at h;subst h;exact⟨v,[],rfl,k,rfl⟩
 | _::_,_,⟨u,r,e,h1,h2⟩=>by rw[e];exact⟨u,_,rfl,h1,h2.snoc k⟩
theorem o5.val {H:Hp} {n:Str}:∀{ps:List (Str×Wt)} {us:List (Key×V)},o5 H ps us->(∃x v,look ps n=some x/\dI us (Sum.inr n)=some v/\Rep H (jd x) v)\/(look ps n=none/\dI us (Sum.inr n)=none)
 | [],_,h=>by rw[o5] at h;subst h;exact .inr ⟨rfl,rfl⟩
 | p::ps,_,⟨u,r,e,h1,h2⟩=>by
  subst e
  by_cases c:p.1=n
  ·exact .inl ⟨p.2,u,by unfold look;rw[List.find?_cons_of_pos (by simpa using c)];rfl,gu (by rw[c]),h1⟩
  ·rcases h2.val (n:=n) with ⟨x,v,a,b,d⟩ | ⟨a,b⟩
   ·exact .inl ⟨x,v,by unfold look at *;rw[List.find?_cons_of_neg (by simpa using c)];exact a,by rw[d8 (λz=>c (by injection z))];exact b,d⟩
   ·exact .inr ⟨by unfold look at *;rw[List.find?_cons_of_neg (by simpa using c)];exact a,by rw[d8 (λz=>c (by injection z))];exact b⟩
theorem zJ {ps:List (Str×Wt)} {n:Str} (h:n∉ps.map (·.1)):look ps n=none:=by
 unfold look;rw[Option.map_eq_none_iff,List.find?_eq_none];intro p hp c;exact h (abi.mpr ⟨p,hp,by simpa using c⟩)
theorem c9 {cs:List (Str×Int)} {v:Int}:∀(ds:List Dd) (ns:List Int),(ds.foldl (ie cs v) ns).length=ns.length
 | [],_=>rfl
 | d::ds,ns=>by rw[List.foldl_cons,c9 ds,Ek]
abbrev eC (cs:List (Str×Int)) (ns:List Int):Wt->List Rw
 | .pick _ rs=>rs.filter λr=>iC cs ns r.wh
 | _=>[]
abbrev wM (cs:List (Str×Int)) (ns:List Int):Wt->Option (Int×Int)
 | .fin t b=>some (t,b)
 | .score c=>some (ns.getD (bF cs c) 0,1)
 | _=>none
theorem aN {a b:TS} {D:Ends} {σ:L2.St} {H:Hp} (C:(L2.St->Hp->Prop)->Prop) (ha:∀N:L2.St->Hp->Prop,C N->a {D with nx:=N} σ H) (hb:C (b D)):tSeq a b D σ H:=ha _ hb
abbrev wN (q:Addr) (H:Hp) (c:Addr) (g:Gm):Prop:=∃dx sp mo wh tb us ft,H c=some (.ins q dx [(aac "spots",.ref sp),(aac "mosts",.ref mo),(aac "first",.str ft),(aac "whats",.ref wh),(aac "tables",.ref tb)])/\
 H sp=some (.dK (o3 g.cs 0))/\H mo=some (.lst ((g.cs.map (·.2)).map V.int))/\H wh=some (.dK us)/\o5 H g.ps us/\(g.ps.map (·.1)).head?=some ft
theorem wN.mono {q:Addr} {H H':Hp} {c:Addr} {g:Gm} (s:aw H H'):wN q H c g->wN q H' c g:=λhh=>by
 obtain⟨dx,sp,mo,wh,tb,us,ft,h1,h2,h3,h4,h5,h6⟩:=hh;exact⟨dx,sp,mo,wh,tb,us,ft,s _ _ h1,s _ _ h2,s _ _ h3,s _ _ h4,h5.mono s,h6⟩
abbrev mP (H:Hp) (v:V) (nm:Str) (ns:List Int):Prop:=∃a l,v=.ref a/\H a=some (.tup [.str nm,.ref l])/\H l=some (.lst (ns.map V.int))
theorem mP.mono {H H':Hp} {v:V} {nm:Str} {ns:List Int} (s:aw H H'):mP H v nm ns->mP H' v nm ns:=fun⟨a,l,e,h1,h2⟩=>⟨a,l,e,s _ _ h1,s _ _ h2⟩
abbrev uQ (q:Addr):Sp:=λvs H Q _=>∃c l i k,vs=[.ref c,.ref l,.int ((i:Nat):Int),.int k]/\∃g,wN q (cG H l) c g/\∃ns,H l=some (.lst (List.map V.int ns))/\i<g.cs.length/\ns.length=g.cs.length/\Q .cU (upd H l (.lst ((sM g.cs ns i k).map V.int)))
abbrev LZ (q:Addr):Sp:=λvs H Q _=>iX vs λc l dv v=>dr c λc=>dr l λl=>fC v λv=>∃g,wN q (cG H l) c g/\∃ns,H l=some (.lst (List.map V.int ns))/\∃d,Rep (cG H l) (qO d) dv/\fQ g.cs d/\ns.length=g.cs.length/\Q .cU (upd H l (.lst ((ie g.cs v ns d).map V.int)))
abbrev BE (q:Addr):Sp:=λvs H Q _=>ij vs λc nm l=>dr c λc=>tL nm λnm=>dr l λl=>∃g,wN q H c g/\GoodG g/\∃ns,H l=some (.lst (List.map V.int ns))/\ns.length=g.cs.length/\∃f fh,dO g ns f nm=some fh/\∀a H',aw H H'->H a=none->H' a=some (.tup [.str fh,.ref l])->Q (.ref a) H'
abbrev FP (q:Addr):Sp:=λvs H Q _=>eS vs λc=>dr c λc=>∃g,wN q H c g/\GoodG g/\∃f ft,(g.ps.map (·.1)).head?=some ft/\∃fh,dO g (abn g.cs.length 0) f ft=some fh/\∀a l H',aw H H'->H a=none->H l=none->H' a=some (.tup [.str fh,.ref l])->H' l=some (.lst ((abn g.cs.length (0:Int)).map V.int))->Q (.ref a) H'
abbrev ky (q:Addr):Sp:=λvs H Q _=>dH vs λc v=>dr c λc=>∃H0,aw H0 H/\∃g,wN q H0 c g/\∃nm ns,mP H v nm ns/\∃x,look g.ps nm=some x/\∀u,Rep H0 (jd x) u->Q u H
abbrev FQ (q:Addr):Sp:=λvs H Q _=>ij vs λc v l=>dr c λc=>dr l λl=>∃g,wN q H c g/\∃ns wh,Rep H (FO wh) v/\H l=some (.lst (List.map V.int ns))/\ns.length=g.cs.length/\Q (.bl (iC g.cs ns wh)) H
abbrev BF (q:Addr):Sp:=λvs H Q _=>iX vs λc sv rv v=>dr c λc=>fC v λv=>∃g,wN q H c g/\GoodG g/\∃nm ns,mP H sv nm ns/\∃a b ds to,Rep H (mO (a,b,List.map qO ds,.str to)) rv/\(∀d∈ds,fQ g.cs d)/\ds.length<=100/\ns.length=g.cs.length/\∃f fh,dO g (ds.foldl (ie g.cs v) ns) f to=some fh/\∀p l H',aw H H'->H p=none->H l=none->H' p=some (.tup [.str fh,.ref l])->H' l=some (.lst ((ds.foldl (ie g.cs v) ns).map V.int))->Q (.ref p) H'
theorem dU {H:Hp} {ds:List Dat} {v:V}:Rep H (.tup ds) v↔∃p vs,v=.ref p/\H p=some (.tup vs)/\a7 H ds vs:=by rw[Rep]
theorem aO {H:Hp} {d:Dat} {ds:List Dat} {vs:List V}:a7 H (d::ds) vs↔∃v r,vs=v::r/\Rep H d v/\a7 H ds r:=by rw[a7]
theorem bD {H:Hp} {vs:List V}:a7 H [] vs↔vs=[]:=by rw[a7]
theorem aI {H:Hp} {x:Str} {v:V}:Rep H (.str x) v↔v=.str x:=by rw[Rep]
theorem bg {H:Hp} {x:Int} {v:V}:Rep H (.int x) v↔v=.int x:=by rw[Rep]
theorem bu {H:Hp} {a b:Dat} {v:V}:Rep H (.tup [a,b]) v↔∃p x y,v=.ref p/\H p=some (.tup [x,y])/\Rep H a x/\Rep H b y:=by
 rw[dU];constructor
 ·rintro⟨p,vs,e,h,r⟩;obtain⟨x,r1,rfl,hx,r⟩:=aO.mp r;obtain⟨y,r2,rfl,hy,r⟩:=aO.mp r;rw[bD.mp r] at h;exact⟨p,x,y,e,h,hx,hy⟩
 ·rintro⟨p,x,y,e,h,hx,hy⟩;exact⟨p,_,e,h,aO.mpr ⟨x,_,rfl,hx,aO.mpr ⟨y,_,rfl,hy,bD.mpr rfl⟩⟩⟩
theorem de {H:Hp} {a b c:Dat} {v:V}:Rep H (.tup [a,b,c]) v↔∃p x y z,v=.ref p/\H p=some (.tup [x,y,z])/\Rep H a x/\Rep H b y/\Rep H c z:=by
 rw[dU];constructor
 ·rintro⟨p,vs,e,h,r⟩;obtain⟨x,r1,rfl,hx,r⟩:=aO.mp r;obtain⟨y,r2,rfl,hy,r⟩:=aO.mp r;obtain⟨z,r3,rfl,hz,r⟩:=aO.mp r;rw[bD.mp r] at h;exact⟨p,x,y,z,e,h,hx,hy,hz⟩
 ·rintro⟨p,x,y,z,e,h,hx,hy,hz⟩;exact⟨p,_,e,h,aO.mpr ⟨x,_,rfl,hx,aO.mpr ⟨y,_,rfl,hy,aO.mpr ⟨z,_,rfl,hz,bD.mpr rfl⟩⟩⟩⟩
theorem cS {H:Hp} {a b c d:Dat} {v:V}:Rep H (.tup [a,b,c,d]) v↔∃p x y z u,v=.ref p/\H p=some (.tup [x,y,z,u])/\Rep H a x/\Rep H b y/\Rep H c z/\Rep H d u:=by
 rw[dU];constructor
 ·rintro⟨p,vs,e,h,r⟩;obtain⟨x,r1,rfl,hx,r⟩:=aO.mp r;obtain⟨y,r2,rfl,hy,r⟩:=aO.mp r;obtain⟨z,r3,rfl,hz,r⟩:=aO.mp r;obtain⟨u,r4,rfl,hu,r⟩:=aO.mp r;rw[bD.mp r] at h;exact⟨p,x,y,z,u,e,h,hx,hy,hz,hu⟩
 ·rintro⟨p,x,y,z,u,e,h,hx,hy,hz,hu⟩;exact⟨p,_,e,h,aO.mpr ⟨x,_,rfl,hx,aO.mpr ⟨y,_,rfl,hy,aO.mpr ⟨z,_,rfl,hz,aO.mpr ⟨u,_,rfl,hu,bD.mpr rfl⟩⟩⟩⟩⟩
theorem sN {H:Hp} {a b c d f:Dat} {v:V}:Rep H (.tup [a,b,c,d,f]) v↔∃p x y z u t,v=.ref p/\H p=some (.tup [x,y,z,u,t])/\Rep H a x/\Rep H b y/\Rep H c z/\Rep H d u/\Rep H f t:=by
 rw[dU];constructor
 ·rintro⟨p,vs,e,h,r⟩;obtain⟨x,r1,rfl,hx,r⟩:=aO.mp r;obtain⟨y,r2,rfl,hy,r⟩:=aO.mp r;obtain⟨z,r3,rfl,hz,r⟩:=aO.mp r;obtain⟨u,r4,rfl,hu,r⟩:=aO.mp r;obtain⟨t,r5,rfl,ht,r⟩:=aO.mp r;rw[bD.mp r] at h;exact⟨p,x,y,z,u,t,e,h,hx,hy,hz,hu,ht⟩
 ·rintro⟨p,x,y,z,u,t,e,h,hx,hy,hz,hu,ht⟩;exact⟨p,_,e,h,aO.mpr ⟨x,_,rfl,hx,aO.mpr ⟨y,_,rfl,hy,aO.mpr ⟨z,_,rfl,hz,aO.mpr ⟨u,_,rfl,hu,aO.mpr ⟨t,_,rfl,ht,bD.mpr rfl⟩⟩⟩⟩⟩⟩
theorem bI {k k':Str} {v:V} {l:List (Str×V)} (h:(k==k')=false):List.lookup k ((k',v)::l)=List.lookup k l:=by rw[aaE,h]
theorem je {a b c d e:V}:List.lookup (aac "spots") [(aac "spots",a),(aac "mosts",b),(aac "first",c),(aac "whats",d),(aac "tables",e)]=some a:=aaR
theorem FR {a b c d e:V}:List.lookup (aac "mosts") [(aac "spots",a),(aac "mosts",b),(aac "first",c),(aac "whats",d),(aac "tables",e)]=some b:=by
 rw[bI ∅];exact aaR
theorem L3 {a b c d e:V}:List.lookup (aac "first") [(aac "spots",a),(aac "mosts",b),(aac "first",c),(aac "whats",d),(aac "tables",e)]=some c:=by
 rw[bI ∅,bI ∅];exact aaR
theorem yq {a b c d e:V}:List.lookup (aac "whats") [(aac "spots",a),(aac "mosts",b),(aac "first",c),(aac "whats",d),(aac "tables",e)]=some d:=by
 rw[bI ∅,bI ∅,bI ∅];exact aaR
theorem dP {a b c d e:V} {k:Str} (h1:(k==aac "spots")=false) (h2:(k==aac "mosts")=false) (h3:(k==aac "first")=false) (h4:(k==aac "whats")=false) (h5:(k==aac "tables")=false):
  List.lookup k [(aac "spots",a),(aac "mosts",b),(aac "first",c),(aac "whats",d),(aac "tables",e)]=none:=by
 rw[bI h1,bI h2,bI h3,bI h4,bI h5];rfl
theorem yr {n i:Nat} (h:i<n):Dv n (i:Int)=some i:=by
 unfold Dv;rw[if_pos ⋯,if_pos ⋯,aal]
theorem eQ {ns:List Int} {i:Nat} (h:i<ns.length):jS (List.map V.int ns) (i:Int)=some (.int (ns.getD i 0)):=by
 have:=uj (ns:=ns) (i:=(i:Int)) ⋯ ⋯
 rwa [aal] at this
theorem El {cs:List (Str×Int)} {i:Nat} (h:i<cs.length):jS (List.map V.int (cs.map (·.2))) (i:Int)=some (.int (most cs i)):=eQ (by rw[aad];exact h)
theorem gX {H:Hp} {sp:Addr} {cs:List (Str×Int)} {n:Str} (h:H sp=some (.dK (o3 cs 0))) (hn:n∈cs.map (·.1)):iY H sp (.str n) (some (.int ((bF cs n:Nat):Int))):=
 .inl ⟨_,Sum.inr n,.inl h,rfl,by rw[yp hn,Nat.zero_add]⟩
theorem o7 {H:Hp} {p:Addr} {o:HO}:cG (upd H p o) p=cG H p:=by
 funext a;unfold cG
 by_cases c:a=p
 ·rw[if_pos c,if_pos c]
 ·rw[if_neg c,if_neg c,av c]
theorem yt {c:TT} {tb:TS} {D:Ends} {σ:L2.St} {H:Hp} (Pv:Nat->L2.St->Hp->Prop) {m:Nat} (h0:Pv m σ H)
  (hs:∀m σ H,Pv m σ H->∃b:Bool,(∀Q:Bool->Hp->Prop,Q b H->c σ H Q)/\if b=true then tb {D with nx:=λσ' H'=>∃m',m'<m/\Pv m' σ' H',ct:=λσ' H'=>∃m',m'<m/\Pv m' σ' H',bk:=D.nx} σ H else D.nx σ H):vA c tb D σ H:=by
 refine⟨Pv,⟨m,h0⟩,?_⟩;intro m σ H p;obtain⟨b,k,q⟩:=hs m σ H p;refine k _ ?_;cases b with
 | true=>exact⟨_,λσ' H' h=>h,q⟩
 | false=>exact q
theorem uR {H:Hp} {p:Addr} (h:H p=none):cG H p=H:=by
 funext a;unfold cG
 by_cases c:a=p
 ·rw[if_pos c,c,h]
 ·rw[if_neg c]
theorem o8 {H H':Hp} {p:Addr} (h:cG H' p=H):aw H H':=by rw[<-h];exact cX
theorem BG (n:Nat):(abn n [V.int 0]).flatten=List.map V.int (abn n 0):=by
 induction n with
 | zero=>rfl
 | succ n ih=>rw[aa5,List.flatten_cons,ih,aa5];rfl
abbrev BH (q:Addr):Sp:=λvs H Q _=>dH vs λc v=>dr c λc=>∃H0,aw H0 H/\∃g,wN q H0 c g/\GoodG g/\∃nm ns,mP H v nm ns/\ns.length=g.cs.length/\∃x,look g.ps nm=some x/\∀p xs H',aw H H'->H p=none->H' p=some (.lst xs)->a7 H0 (((eC g.cs ns x).map C9).map mO) xs->Q (.ref p) H'
abbrev FT (q:Addr):Sp:=λvs H Q _=>dH vs λc v=>dr c λc=>∃g,wN q H c g/\GoodG g/\∃nm ns,mP H v nm ns/\ns.length=g.cs.length/\∃x,look g.ps nm=some x/\∀p H',aw H H'->H p=none->Rep H' (.lst ((eC g.cs ns x).map λr=>Dat.str r.word)) (.ref p)->Q (.ref p) H'
abbrev FV (q:Addr):Sp:=λvs H Q _=>dH vs λc v=>dr c λc=>∃g,wN q H c g/\GoodG g/\∃nm ns,mP H v nm ns/\ns.length=g.cs.length/\∃x,look g.ps nm=some x/\∃t b,wM g.cs ns x=some (t,b)/\∀u H',aw H H'->Rep H' (.tup [.int t,.int b]) u->Q u H'
theorem gY {H:Hp} {p:Rw->Bool}:∀{rs:List Rw} {xs:List V},a7 H ((rs.map C9).map mO) xs->a7 H (((rs.filter p).map C9).map mO) ((xs.zip rs).filterMap λx=>if p x.2=true then some x.1 else none)
 | [],xs,h=>by rw[List.zip_nil_right];exact bD.mpr rfl
 | r::rs,xs,h=>by
  obtain⟨v,ys,rfl,h1,h2⟩:=aO.mp h;have ih:=gY (p:=p) h2;rw[List.zip_cons_cons,aaT]
  by_cases c:p r=true
  ·simp only[c,if_true];rw[List.filter_cons_of_pos c,aae,aae];exact aO.mpr ⟨v,_,rfl,h1,ih⟩
  ·simp only[c];rw[List.filter_cons_of_neg c];exact ih
theorem qQ {H:Hp}:∀{rs:List Rw} {xs:List V},a7 H ((rs.map C9).map mO) xs->a7 H (rs.map λr=>Dat.str r.word) (rs.map λr=>V.str r.word)
 | [],xs,h=>bD.mpr rfl
 | r::rs,xs,h=>by
  obtain⟨v,ys,rfl,h1,h2⟩:=aO.mp h;exact aO.mpr ⟨_,_,rfl,aI.mpr rfl,qQ h2⟩
theorem kz {H:Hp} {rs:List Rw} {xs:List V} {i:Nat} {x:V} (h:a7 H ((rs.map C9).map mO) xs) (e:xs[i]?=some x):∃r p a b c d,rs[i]?=some r/\x=.ref p/\H p=some (.tup [.str r.word,b,c,d])/\Rep H (FO r.wh) b/\a=r:=by
 obtain⟨dd,ed,rd⟩:=h.get e;rw[aaf,aaf] at ed;obtain⟨r4,e4,rfl⟩:=abg.mp ed;obtain⟨r,er,rfl⟩:=abg.mp e4;obtain⟨p,x1,x2,x3,x4,rfl,hp,r1,r2,r3,r4⟩:=cS.mp (show Rep H (.tup _) x from rd);have r1:x1=.str r.word:=aI.mp r1;subst r1;exact⟨r,p,r,x2,x3,x4,er,rfl,hp,r2,rfl⟩
theorem cH {tc:TT} {a b:TS} {D:Ends} {σ:L2.St} {H:Hp} (h:∀Y N:Hp->Prop,Y H->tc σ H λv H'=>if v=true then Y H' else N H') (k:a D σ H):tIfS tc a b D σ H:=oM (λH'=>H'=H) (λ_=>False) (λ_ e=>e▸k) (λ_ f=>f.elim) λY N hY _=>h Y N (hY _ rfl)
theorem bL {tc:TT} {a b:TS} {D:Ends} {σ:L2.St} {H:Hp} (h:∀Y N:Hp->Prop,N H->tc σ H λv H'=>if v=true then Y H' else N H') (k:b D σ H):tIfS tc a b D σ H:=oM (λ_=>False) (λH'=>H'=H) (λ_ f=>f.elim) (λ_ e=>e▸k) λY N _ hN=>h Y N (hN _ rfl)
@[inline]abbrev iD:=Str×List Int
abbrev RU (ss:List iD) (s:iD):List iD:=if s∈ss then ss else ss++ [s]
noncomputable abbrev RV (H:Hp) (l n:Addr):Hp:=cG (cG H l) n
abbrev Kp (H H':Hp):Prop:=∀a,(∀vs,H a=some (.tup vs)->H' a=some (.tup vs))/\∀vs,H a=some (.lst vs)->H' a=some (.lst vs)
theorem Kp.of {H H':Hp} (s:aw H H'):Kp H H':=λa=>⟨λ_=>s _ _,λ_=>s _ _⟩
theorem Kp.upd {H:Hp} {p:Addr} {o:HO} (h1:∀vs,H p≠some (.tup vs)) (h2:∀vs,H p≠some (.lst vs)):Kp H (upd H p o):=λa=>by
 by_cases c:a=p
 ·subst c;exact⟨λvs e=>absurd e (h1 vs),λvs e=>absurd e (h2 vs)⟩
 ·rw[av c];exact⟨λ_ h=>h,λ_ h=>h⟩
theorem Kp.trans {H H' H2:Hp} (a:Kp H H') (b:Kp H' H2):Kp H H2:=λx=>⟨λ_ h=>(b x).1 _ ((a x).1 _ h),λ_ h=>(b x).2 _ ((a x).2 _ h)⟩
mutual
theorem Kp.rep {H H':Hp} (s:Kp H H'):∀{d:Dat} {v:V},Rep H d v->Rep H' d v
 | .cU,_,h=>by rw[Rep] at *;exact h
 | .bl _,_,h=>by rw[Rep] at *;exact h
 | .int _,_,h=>by rw[Rep] at *;exact h
 | .str _,_,h=>by rw[Rep] at *;exact h
 | .tup ds,_,h=>by
  rw[Rep] at *;obtain⟨p,vs,e,hp,r⟩:=h;exact⟨p,vs,e,(s p).1 _ hp,s.Ik r⟩
 | .lst ds,_,h=>by
  rw[Rep] at *;obtain⟨p,vs,e,hp,r⟩:=h;exact⟨p,vs,e,(s p).2 _ hp,s.Ik r⟩
theorem Kp.Ik {H H':Hp} (s:Kp H H'):∀{ds:List Dat} {vs:List V},a7 H ds vs->a7 H' ds vs
 | [],_,h=>by rw[a7] at *;exact h
 | d::ds,_,h=>by
  rw[a7] at *;obtain⟨v,r,e,h1,h2⟩:=h;exact⟨v,r,e,s.rep h1,s.Ik h2⟩
end
theorem Kp.RW {H H':Hp} (s:Kp H H'):∀{ps:List (Str×Wt)} {us:List (Key×V)},o5 H ps us->o5 H' ps us
 | [],_,h=>h
 | _::_,_,⟨v,r,e,h1,h2⟩=>⟨v,r,e,s.rep h1,s.RW h2⟩
theorem o5.none {H:Hp} {ps:List (Str×Wt)} {us:List (Key×V)} {n:Str} (h:o5 H ps us) (nn:n∉ps.map (·.1)):dI us (Sum.inr n)=none:=by
 rcases h.val (n:=n) with ⟨x,v,a,_,_⟩ | ⟨_,b⟩
 ·rw[zJ nn] at a;cases a
 ·exact b
theorem uS {α:Type} {l:List α} (h:l.Nodup) {i:Nat} {x:α} (e:l[i]?=some x):x∉l.take i:=by
 intro m;obtain⟨j,hj,ej⟩:=List.getElem_of_mem m;rw[aaA] at hj;rw[List.getElem_take] at ej;obtain⟨hi,ei⟩:=abh.mp e;have:=(List.getElem_inj h).mp (ej.trans ei.symm);lia
abbrev cR (ss ts:List iD):List iD:=ts.foldl RU ss
theorem yu {H:Hp} {p:Pt} {v:V} (h:Rep H (lZ p) v):∃q,v=.ref q/\H q=some (.tup (k7 p)):=by
 cases p with
 | num n=>obtain⟨q,x,y,e,hq,a,b⟩:=bu.mp (show Rep H (.tup _) v from h);rw[aI.mp a,bg.mp b] at hq;exact⟨q,e,hq⟩
 | cP n s=>obtain⟨q,x,y,z,e,hq,a,b,c⟩:=de.mp (show Rep H (.tup _) v from h);rw[aI.mp a,bg.mp b,bg.mp c] at hq;exact⟨q,e,hq⟩
 | bU n s=>obtain⟨q,x,y,z,e,hq,a,b,c⟩:=de.mp (show Rep H (.tup _) v from h);rw[aI.mp a,bg.mp b,bg.mp c] at hq;exact⟨q,e,hq⟩
abbrev zL (q:Addr) (H:Hp) (c:Addr) (g:Gm) (tb:Addr):Prop:=∃dx sp mo wh us ft,H c=some (.ins q dx [(aac "spots",.ref sp),(aac "mosts",.ref mo),(aac "first",.str ft),(aac "whats",.ref wh),(aac "tables",.ref tb)])/\
 H sp=some (.dK (o3 g.cs 0))/\H mo=some (.lst ((g.cs.map (·.2)).map V.int))/\H wh=some (.dK us)/\o5 H g.ps us/\(g.ps.map (·.1)).head?=some ft
theorem zL.co {q:Addr} {H:Hp} {c:Addr} {g:Gm} {tb:Addr}:zL q H c g tb->wN q H c g:=λhh=>by
 obtain⟨dx,sp,mo,wh,us,ft,h1,h2,h3,h4,h5,h6⟩:=hh;exact⟨dx,sp,mo,wh,tb,us,ft,h1,h2,h3,h4,h5,h6⟩
theorem zL.mono {q:Addr} {H H':Hp} {c:Addr} {g:Gm} {tb:Addr} (s:aw H H'):zL q H c g tb->zL q H' c g tb:=λhh=>by
 obtain⟨dx,sp,mo,wh,us,ft,h1,h2,h3,h4,h5,h6⟩:=hh;exact⟨dx,sp,mo,wh,us,ft,s _ _ h1,s _ _ h2,s _ _ h3,s _ _ h4,h5.mono s,h6⟩
theorem Kp.cG {H:Hp} {tb:Addr} {kvs:List (Key×V)} (h:H tb=some (.dK kvs)):Kp H (cG H tb):=λa=>by
 by_cases c:a=tb
 ·subst c;rw[h];exact⟨(λ_ e=>by cases e),(λ_ e=>by cases e)⟩
 ·rw[cu c];exact⟨λ_ e=>e,λ_ e=>e⟩
noncomputable abbrev Yc (H:Hp) (l n tb:Addr):Hp:=cG (RV H l n) tb
abbrev uT (rs:List Tw) (v:Int):Option Tw:=rs.find? λr=>decide (r.1<=v) && decide (v<=r.2.1)
theorem uU {kvs:List (Key×V)} {k:Key} {v:V} (h:dI kvs k=none) (k':Key):dI (kvs++ [(k,v)]) k'=if k=k' then some v else dI kvs k':=by
 unfold dI at *;rw[List.find?_append]
 by_cases c:k=k'
 ·subst c;rw[if_pos rfl];have:kvs.find? (λkv=>decide (kv.1=k))=none:=by simpa using h
  rw[this];simp
 ·rw[if_neg c];have:List.find? (λkv:Key×V=>decide (kv.1=k')) [(k,v)]=none:=by simp [c]
  rw[this];simp
theorem nP:∀{ps qs:List Pt},ps.map lZ=qs.map lZ->ps=qs
 | [],[],_=>rfl
 | [],_::_,h=>by cases h
 | _::_,[],h=>by cases h
 | p::ps,q::qs,h=>by
  rw[aae,aae] at h
  injection h with h1 h2
  rw[Ej h1,nP h2]
theorem yv {H:Hp} {v:V} {ps:List Pt} (h:Rep H (.lst (ps.map lZ)) v):∃a,v=.ref a/\Ig H a ps:=by
 obtain⟨a,xs,e,ha,r⟩:=aY.mp h;refine⟨a,e,xs,ha,?_⟩;have:∀{ps:List Pt} {xs:List V},a7 H (ps.map lZ) xs->Al (λp v=>∃q,v=.ref q/\H q=some (.tup (k7 p))) ps xs:=by
  intro ps
  induction ps with
  | nil=>intro xs h;rw[bD.mp h];trivial
  | cons p ps ih=>
   intro xs h;obtain⟨v,r,rfl,h1,h2⟩:=aO.mp h;exact⟨yu h1,ih h2⟩
 exact this r
theorem Em {H X:Hp} {rows:List (Int×Int×Int)} {p:Addr} (h:Rep H (kc rows) (.ref p)) (kp:∀o,H p=some o->X p=some o) (kt:∀a vs,H a=some (.tup vs)->X a=some (.tup vs)):Rep X (kc rows) (.ref p):=by
 obtain⟨a,xs,e,ha,r⟩:=aY.mp h;cases e;refine aY.mpr ⟨_,xs,rfl,kp _ ha,?_⟩;refine a7.of r.length λi d v ed ev=>?_;obtain⟨d',FW,rd⟩:=r.get ev;rw[ed] at FW;cases FW;rw[aaf] at ed;obtain⟨x,_,rfl⟩:=abg.mp ed;obtain⟨p1,q1,rfl,h1,h2⟩:=nK.mp rd;exact nK.mpr ⟨p1,q1,rfl,kt _ _ h1,kt _ _ h2⟩
abbrev FX (q:Addr):Sp:=λvs H Q _=>dH vs λc sv=>dr c λc=>∃g nm ns tb,zL q (cG H tb) c g tb/\mP H sv nm ns/\∃kvs,H tb=some (.dK kvs)/\kvs.length<=1000/\∃ps t b rs,look g.ps nm=some (.dM (ps.map lZ) t b rs)/\mM ps/\ps.length<=4/\(∀v,dI kvs (Sum.inr nm)=some v->Q v H)/\(dI kvs (Sum.inr nm)=none->∀p H1,aw H H1->H p=none->Rep H1 (kc (ku ps)) (.ref p)->Q (.ref p) (upd H1 tb (.dK (kvs++ [(Sum.inr nm,.ref p)]))))
abbrev L4 (q:Addr):Sp:=λvs H Q _=>ij vs λc sv v=>dr c λc=>fC v λv=>∃g,wN q H c g/\GoodG g/\∃nm ns,mP H sv nm ns/\ns.length=g.cs.length/\∃cY t b rs,look g.ps nm=some (.dM cY t b rs)/\∃r,uT rs v=some r/\∃f fh,dO g (r.2.2.1.foldl (ie g.cs v) ns) f r.2.2.2=some fh/\∀p l H',aw H H'->H p=none->H l=none->H' p=some (.tup [.str fh,.ref l])->H' l=some (.lst ((r.2.2.1.foldl (ie g.cs v) ns).map V.int))->Q (.ref p) H'
theorem mf {H:Hp} {p:Tw->Bool}:∀{rs:List Tw} {xs:List V},a7 H ((rs.map BD).map mO) xs->a7 H (((rs.filter p).map BD).map mO) ((xs.zip rs).filterMap λx=>if p x.2=true then some x.1 else none)
 | [],xs,h=>by rw[List.zip_nil_right];exact bD.mpr rfl
 | r::rs,xs,h=>by
  obtain⟨v,ys,rfl,h1,h2⟩:=aO.mp h;have ih:=mf (p:=p) h2;rw[List.zip_cons_cons,aaT]
  by_cases c:p r=true
  ·simp only[c,if_true];rw[List.filter_cons_of_pos c,aae,aae];exact aO.mpr ⟨v,_,rfl,h1,ih⟩
  ·simp only[c];rw[List.filter_cons_of_neg c];exact ih
abbrev nw (H X H':Hp):Hp:=λa=>match H a with
 | none=>H' a
 | some _=>X a
theorem cC {H X H':Hp} {a:Addr} (h:H a=none):nw H X H' a=H' a:=by unfold nw;rw[h]
theorem mQ {H X H':Hp} (sx:aw X H):aw X (nw H X H'):=λa o h=>by unfold nw;rw[sx _ _ h];exact h
theorem kA {H X H' fG:Hp} (s:aw H' fG):aw (nw H X H') (nw H X fG):=λa o h=>by
 cases c:H a with
 | none=>rw[cC c] at h ⊢;exact s _ _ h
 | some x=>unfold nw at h ⊢;rw[c] at h ⊢;exact h
abbrev tT (X:Hp):Hp:=λa=>match X a with
 | some (.tup vs)=>some (.tup vs)
 | _=>none
theorem Il {X:Hp} {a:Addr} {vs:List V} (h:X a=some (.tup vs)):tT X a=some (.tup vs):=by unfold tT;rw[h]
set_option tactic.hygienic true in
theorem BI {X:Hp} {a:Addr} {o:HO} (h:tT X a=some o):X a=some o/\∃vs,o=.tup vs:=by
 unfold tT at h
 split at h
 ·rename_i e;cases h;exact⟨e,_,rfl⟩
 ·cases h
theorem o9 {X:Hp}:aw (tT X) X:=λ_ _ h=>(BI h).1
abbrev NL (d:Dat):Prop:=∀X v,Rep X d v->Rep (tT X) d v
theorem cO {x:Str}:NL (.str x):=λ_ _ h=>aI.mpr (aI.mp h)
theorem eK {k:Int}:NL (.int k):=λ_ _ h=>bg.mpr (bg.mp h)
theorem Im:NL .cU:=λ_ _ h=>by rw[Rep] at *;exact h
theorem Io {X:Hp} {ds:List Dat} {vs:List V} (h:∀d∈ds,NL d) (r:a7 X ds vs):a7 (tT X) ds vs:=a7.of r.length λi d v e1 e2=>by
 obtain⟨d',e,r'⟩:=r.get e2;rw[e1] at e;cases e;exact h _ (aan e1) _ _ r'
theorem wO {ds:List Dat} (h:∀d∈ds,NL d):NL (.tup ds):=λ_ _ r=>by
 obtain⟨p,vs,e,hp,r⟩:=dU.mp r;exact dU.mpr ⟨p,vs,e,Il hp,Io h r⟩
theorem zM {a b:Dat} (ha:NL a) (hb:NL b):NL (.tup [a,b]):=wO λd hd=>by
 rcases aaB.mp hd with rfl | hd
 ·exact ha
 ·rw[abj.mp hd];exact hb
theorem BJ {a b c:Dat} (ha:NL a) (hb:NL b) (hc:NL c):NL (.tup [a,b,c]):=wO λd hd=>by
 rcases aaB.mp hd with rfl | hd
 ·exact ha
 rcases aaB.mp hd with rfl | hd
 ·exact hb
 ·rw[abj.mp hd];exact hc
theorem L5 (d:Dd):NL (qO d):=by
 cases d with
 | set n k=>exact BJ cO cO eK
 | plus n k=>exact BJ cO cO eK
 | face n=>exact zM cO cO
 | move n m=>exact BJ cO cO cO
theorem L6 (p:Pt):NL (lZ p):=by
 cases p with
 | num n=>exact zM cO eK
 | _ m s=>exact BJ cO eK eK
theorem L7 (w:Option (Str×Str×Int)):NL (FO w):=by
 cases w with
 | none=>exact Im
 | some x=>exact BJ cO cO eK
abbrev NR (r:R4):Prop:=r.2.2.1.length<=100/\NL r.1/\NL r.2.1/\(∀d∈r.2.2.1,NL d)/\NL r.2.2.2
theorem FY {ds:List Dd}:∀d∈ds.map qO,NL d:=λd hd=>by
 obtain⟨x,_,rfl⟩:=abi.mp hd;exact L5 x
abbrev FZ:Wt->Prop
 | .dM cY _ _ _=>∃ps:List Pt,cY=ps.map lZ
 | _=>True
theorem L8 {cY:List Dat} (h:∃ps:List Pt,cY=ps.map lZ):∀d∈cY,NL d:=λd hd=>by
 obtain⟨ps,rfl⟩:=h;obtain⟨p,_,rfl⟩:=abi.mp hd;exact L6 p
abbrev qR:Sp:=λvs H Q _=>eS vs λv=>∃(X:Hp),aw X H/\∃(rs:List R4),Rep X (.lst (rs.map mO)) v/\rs.length<=100/\(∀r∈rs,NR r)/\∀p H',aw H H'->Rep (nw H (tT X) H') (.lst (rs.map mO)) (.ref p)->Q (.ref p) H'
abbrev F0:Sp:=λvs H Q _=>eS vs λv=>∃(X:Hp),aw X H/\∃(x:Wt),Rep X (jd x) v/\FZ x/\∃(cs:List (Str×Int)),kx cs x/\∀u H',aw H H'->Rep (nw H (tT X) H') (jd x) u->Q u H'
theorem En {H W H' fG:Hp} (sw:aw W H) (s1:aw H H') (s2:aw H' fG):aw (nw H' W fG) (nw H W fG):=λa o h=>by
 unfold nw at h ⊢;cases e:H' a with
 | none=>
  rw[e] at h;cases e0:H a with
  | none=>exact h
  | some x=>rw[s1 _ _ e0] at e;cases e
 | some x=>
  rw[e] at h;rw[sw _ _ h];exact h
abbrev yw (K:aba):Sp:=λvs H Q _=>∃(a:Addr) (ns:List Int),vs=[.ref a]/\bC K H a (ns.map V.int)/\ns.length<=63/\∀H',Q (.bl true) H'
abbrev dJ (P:Program) (w:World) (base:Heap) (K:aba) (mg:Str->Option Value) (aE aF aB aH ah aA:Addr):Prop:=Txt K mg aE aF aB aH ah aA
section
variable {P : Program} {w : World} {K : aba} {mg : Str -> Option Value} {base : Heap}
variable {aE aF aB aH ah aA : Addr}
set_option hygiene false in
local macro_rules | `(0 ||| 0) => `(dJ P w base K mg aE aF aB aH ah aA)
set_option hygiene false in
local macro_rules | `($a <<< $b) => `(fc P w K mg base (cV P w) $a $b)
local macro_rules | `($x⁻¹) => `(some (V.int $x))
theorem gc:aS ["one","other","rest"] ["one","other"] (aq (top 9)):=.mk
theorem L9 (T:0|||0):(1<<<"common_divisor") ["one","other"] LJ:=by
 refine T.lX.dF (λ_ _ _ _ _ _=>d4 λ_ _=>rfl) λf fd F=>F.dZ gc (λvs H Q E h=>?_) (λbY A outer s H vs Q E hr h=>?_)
 ·obtain⟨_,_,rfl,_⟩:=pY h;rfl
 ·symm;obtain⟨a,b,rfl,k⟩:=pY h;nofun;clear G_;have nd:=gc.nd;refine⟨_,(ag (aG (i:=0) (aU oo (by rfl) T.z_abs rfl (aa (pv 0) af)))
  (ag (aG (i:=1) (aU oo (by rfl) T.z_abs rfl (aa (pv 1) af)))
  (ag (jY PassesOwn.never (aL mC (pv 1) ae (aQ _)) (ag (aG (i:=2) (aD dz (pv 0) (pv 1)))
  (ag (aG (i:=0) (pv 1))
  (aj (aG (i:=1) (pv 2))))))
  (aj (aR (pv 0)))))),?_⟩
  refine(?_:let bQ:TS:=_;let bR:TS:=_;let bS:TS:=_;let df:TS:=_;tSeq bQ (tSeq bR (tSeq bS df)) _ _ _);intro bQ bR bS df;dsimp?[];refine t4 (λσ H1=>H1=H/\∃(x y:Int) (z:Option V),σ=[x⁻¹,y⁻¹,z]/\0<=x/\0<=y/\Nm.g x y=Nm.g a b) (λσ _=>match σ with | [_,y⁻¹,_]=>y.toNat | _=>0) ?_ ?_ ?_
  ·refine⟨rfl,_,_,_,rfl,?_,?_,?_⟩
   ·split <;>lia
   ·split <;>lia
   ·rw[show(if a<0 then -a else a)=(a.natAbs:Int) by split <;>lia,show(if b<0 then -b else b)=(b.natAbs:Int) by split <;>lia,Nm.AX,Nm.xN]
  ·intro σ H1 dg;symm;obtain⟨rfl,x,y,z,rfl,x0,y0,e⟩:=dg;nofun;dsimp?[];refine iw (λc=>?_) (λc=>?_)
   ·refine⟨⋯,y0,aa2 _ ⋯,by rw[Nm.AY x0 ⋯,e],?_⟩;have:=aa7 x (show 0<y by lia);have:=aa2 x (show y≠0 by lia);lia
   ·have z:y=0:=⋯
    subst z;rw[Nm.AZ x0] at e;rw[e];exact k
  ·intro σ H1 Q1 Q2 hq hc
   revert hc
   dsimp?[];intro hc;symm;obtain⟨v,e1,e2,q⟩:=hc;nofun;exact⟨v,e1,e2,hq _ _ q⟩
theorem uV:aS ["top","bottom","divisor"] ["top","bottom"] (aq (top 10)):=.mk
theorem F1 (T:0|||0):(2<<<"share") ["top","bottom"] (Ib aE):=by
 have mh:=L9 T;refine T.D4.dF (λ_ _ _ _ _ _=>d4 λ_ _=>rfl) λf fd F=>F.J2 uV (λvs H Q E h=>?_) (λbY A outer s H vs Q E hr h=>?_)
 ·obtain⟨_,_,rfl,_⟩:=pY h;rfl
 ·symm;obtain⟨a,b,rfl,bt,kE,kQ⟩:=pY h;nofun;have nd:=uV.nd;have Ah:A.handled=none:=hr.hd;refine⟨_,(ag (bc (aL bo (pv 1) ae (aQ _)) (aj (fM rfl T.k_NoShare T.x_NoShare Ah (aa aZ af)))
   aW)
  (ag (aG (i:=2) (aK mh (aa (pv 0) (aa (pv 1) af))))
  (ag (bc (aL t5 (pv 1) ae (aQ _)) (aj (aG (i:=2) (ip fI (pv 2))))
   aW)
  (aj (aR (a6 (aa (aD ui (pv 0) (pv 2)) (aa (aD ui (pv 1) (pv 2)) af)))))))),?_⟩
  refine(?_:let bQ:TS:=_;let bR:TS:=_;let bS:TS:=_;let df:TS:=_;tSeq bQ (tSeq bR (tSeq bS df)) _ _ _);intro bQ bR bS df;dsimp?[LJ,tRaise];refine iw (λz=>?_) (λz=>?_)
  ·exact⟨∅,kE z⟩
  ·have g0:0<Nm.g a b:=Nm.AW z;have gb:Bt 5000 (Nm.g a b):=bt.le (by have:=Nm.A0 (a:=a) z;lia);have kq:=kQ z;unfold Nm.st Nm.sb at kq;refine iw (λc=>?_) (λc=>?_)
   ·rw[if_pos c,if_pos c] at kq;rw[Nm.A4 g0 (Nm.xM a b),Nm.A4 g0 (Nm.iR a b)];exact⟨oz.of ⋯ gb.neg,oz.of ⋯ gb.neg,∅,λp H2 s1 n1 e=>kq p H2 s1 n1 e⟩
   ·rw[if_neg c,if_neg c] at kq;rw[Nm.A3 g0,Nm.A3 g0];exact⟨oz.of ⋯ gb,oz.of ⋯ gb,∅,λp H2 s1 n1 e=>kq p H2 s1 n1 e⟩
theorem fi:aS ["weights","bottom"] ["weights","bottom"] (aq (top 13)):=.mk
theorem Ma (T:0|||0):(3<<<"table_by_weights") ["weights","bottom"] Ic:=by
 have sO:=F1 T;refine T.jE.dF (λ_ _ _ _ _ _=>d4 λ_ _=>rfl) λf fd F=>F.dZ fi (λvs H Q E h=>?_) (λbY A outer s H vs Q E hr h=>?_)
 ·obtain⟨_,_,rfl,_⟩:=zE h;rfl
 ·symm;obtain⟨d,B,rfl,ws,hd,ndk,hz,B0,bB,k⟩:=zE h;nofun;have nd:=fi.nd;refine⟨_,(aj (aR (cj rfl (N:=["weights","bottom"]) (so:=aq (top 13)) (N':=["value","weights","bottom"]) (k:=1) (fr:=[0,1]) rfl rfl ⟨rfl,∅,∅,∅,rfl,∅,∅⟩ (bh (K:=K) (aU oE (by rfl) T.z_sorted rfl (aa (pv 0) af))) (λ_ _ _ _ _=>(aV (i:=0) (show(["value","weights","bottom"]:List Str).Nodup by ac_rfl) rfl (.inl rfl))) (λ_ _ _ _ _=>dk)
   (λ_ _ _ _ _=>(a6 (aa (pv 0) (aa (aK sO (aa (cF (cD hr) (pv 1) (pv 0) (λ_ _=>rfl)) (aa (pv 2) af))) af))))))),?_⟩
  dsimp?[];refine⟨enc ws,.inl hd,Bd ws,by rw[rP];exact hz,λl nl=>⟨⟨_,bC.of ao⟩,?_⟩⟩;rw[zw];have sm:aw H (upd H l (.lst (List.map V.int (Nm.rN (Nm.keys ws))))):=au nl;have ll:(List.map V.int (Nm.rN (Nm.keys ws))).length=ws.length:=by rw[aad,Nm.gU];unfold Nm.keys;rw[aad]
  refine comp_map (src_list (λH2 s2=>s2.seq (bC.of ao))) (λ_ _ _ _ h=>by rw[h.1];exact aw.refl _) (by rw[ll,sizeLine_eq];lia) (λi y H2=>∀r,(Nm.rowsOf ws B)[i]?=some r->Rep H2 (DT r) y) (λi y H2 H3 s3 h r e=>(h r e).mono s3) ?_ ?_
  ·rintro i x w0 H2 H3 Q2 hi s2 ⟨rfl,hx⟩ kq;rw[aaf] at hx;symm;obtain⟨v,ev,rfl⟩:=abg.mp hx;nofun;have hv:v∈Nm.keys ws:=Nm.DO.mp (aan ev);have hd2:=s2 _ _ (sm _ _ hd);dsimp?[Ib];refine⟨_,Be hd2 hv,_,rfl,bB,λz=>absurd z B0,λ_ p H4 s4 _ e4=>⟨∅,λp5 H5 s5 _ e5=>?_⟩⟩;refine kq _ _ (s4.trans s5) λr er=>?_;have:r=(v,Nm.st (Nm.look ws v) B,Nm.sb (Nm.look ws v) B):=by
    unfold Nm.rowsOf at er;rw[aaf,ev] at er;exact(aay er).symm
   subst this;exact nK.mpr ⟨p5,p,rfl,e5,s5 _ _ e4⟩
  ·intro ys H2 s2 ly hy D n1 n2;refine k _ _ (sm.trans (s2.trans (au n2))) (none_of sm n1) (aY.mpr ⟨D,ys,rfl,ao,?_⟩);refine a7.of ?_ λi dd v e1 e2=>?_
   ·rw[aad,ly];unfold Nm.rowsOf;rw[aad,aad]
   ·rw[aaf] at e1;symm;obtain⟨r,er,rfl⟩:=abg.mp e1;nofun;exact(hy i v e2 r er).mono (au n2)
theorem mR:aS ["rows","weights","value","weight"] ["rows"] (aq (top 14)):=.mk
theorem Mb (T:0|||0):(4<<<"table_of") ["rows"] (LK aF):=by
 have jJ:=Ma T;refine T.wF.dF (λ_ _ _ _ _ _=>gA λ_=>rfl) λf fd F=>F.J2 mR (λvs H Q E h=>?_) (λbY A outer s H vs Q E hr h=>?_)
 ·obtain⟨_,rfl,_⟩:=C7 h;rfl
 ·symm;obtain⟨v,rfl,ps,rp,hz,hb,hw,kE,kQ⟩:=C7 h;nofun;have nd:=mR.nd;have Ah:A.handled=none:=hr.hd;refine⟨_,(ag (aG (i:=1) gw)
  (ag (ck PassesOwn.leaving rfl (bh (K:=K) (pv 0)) (eP (K:=K) (n:=2) rfl (bH (aV (i:=2) nd rfl (.inl rfl)) (bH (aV (i:=3) nd rfl (.inl rfl)) eO))) (ag (bc (aL t5 (pv 3) ae (aQ _)) (aj (fM rfl T.k_NoTable T.x_NoTable Ah (aa aZ af)))
   aW)
  (aj (bc (aL i8 (pv 3) ae (aQ _)) (aj (d9 (cD hr) (pv 1) (pv 2) (aD aM (AN (cD hr) (pv 1) (pv 2) ae (by first | exact⟨rfl,rfl,rfl⟩ | constructor <;>rfl)) (pv 3)) rfl))
   aW))))
  (ag (bc (aL bo (aU zo (by rfl) T.z_len aav (aa (pv 1) af)) ae (aQ _)) (aj (fM rfl T.k_NoTable T.x_NoTable Ah (aa aZ af)))
   aW)
  (aj (aR (aK jJ (aa (pv 1) (aa (wq rfl (by rfl) T.z_sum (pv 1)) af)))))))),?_⟩
  refine(?_:let bQ:TS:=_;let bR:TS:=_;let bS:TS:=_;let df:TS:=_;tSeq bQ (tSeq bR (tSeq bS df)) _ _ _);intro bQ bR bS df;dsimp?[Ic,tRaise];intro d J9;symm;obtain⟨a,xs,rfl,ha,rl⟩:=aY.mp rp;nofun;have n1:=rl.length;rw[aad] at n1;have q1:∀o,bC K (upd H d o) a xs:=λo=>bC.of (au J9 _ _ ha);refine⟨_,rfl,⟨_,q1 _⟩,bJ (src_list (Ok:=λH'=>∃o,H'=upd H d o) (λH' ⟨o,e⟩=>by rw[e];exact q1 o))
   (λi σ H'=>H'=upd H d (.dK (enc (Nm.jc (ps.take i))))/\(∀p∈ps.take i,0<=p.2)/\∃z1 z2,σ=[~~~a,~~~d,z1,z2])
   ⟨by rw[List.take_zero];rfl,by simp,_,_,rfl⟩ (λ_ _ _ _ h=>⟨_,h.1⟩) ?_ ?_⟩
  ·intro i x σ H' fG hi eV eX;symm;obtain⟨rfl,nn,z1,z2,rfl⟩:=eV;obtain⟨rfl,hx⟩:=eX;obtain⟨dd,ed,rd⟩:=rl.get hx;rw[aaf] at ed;obtain⟨p,ep,rfl⟩:=abg.mp ed;obtain⟨q,rfl,hq⟩:=b9.mp rd;nofun;have tk:ps.take (i+1)=ps.take i++ [p]:=by rw[aaF,ep];rfl
   refine⟨q,_,rfl,iP.of (au J9 _ _ hq),rfl,?_⟩;dsimp?[tRaise];rw[tk,Nm.Bj];refine iw (λc=>?_) (λc=>?_)
   ·exact⟨∅,kE (.inl ⟨p,aan ep,c⟩) _ (au J9)⟩
   ·have V1:∀r∈ps.take i++ [p],0<=r.2:=λr hr=>by
     rcases List.mem_append.mp hr with h | h
     ·exact nn r h
     ·have:r=p:=by simpa using h
      subst this;lia
    refine iw (λc2=>?_) (λc2=>?_)
    ·symm;obtain⟨o,ho,eo⟩:=zx (H:=upd H d (.dK (enc (Nm.jc (ps.take i))))) p.1 (.inl ao);nofun;refine⟨.inl ⟨_,.inl ao⟩,o,ho,?_⟩;rw[eo];dsimp?[];refine⟨_,Bg _ _ ao (Nm.lR _) ?_,?_,V1,?_⟩
     ·have:=Nm.xZ (ps.take i);rw[aaA] at this;rw[sizeLine_eq];lia
     ·rw[xw,if_pos c2];rfl
     ·exact⟨_,rfl⟩
    ·refine⟨by rw[if_neg c2],V1,?_⟩;exact⟨_,rfl⟩
  ·intro σ H' dg;symm;obtain⟨rfl,nn,z1,z2,rfl⟩:=dg;nofun;rw[aau ⋯] at nn ⊢;dsimp?[tRaise,Ic];have el:(enc (Nm.jc ps)).length=(Nm.jc ps).length:=rP _;refine⟨_,ao,iw (λz=>⟨∅,kE (.inr ?_) _ (au J9)⟩) (λz=>?_)⟩
   ·exact Nm.x6.mp (List.eq_nil_of_length_eq_zero ⋯)
   ·have np:Nm.pos ps≠[]:=λe=>by
     have:=Nm.x6.mpr e;exact z (by rw[el,this];rfl)
    have nb:¬Nm.bad ps:=λb=>by
     rcases b with ⟨p,hp,c⟩ | c
     ·have:=nn p hp;lia
     ·exact np c
    have T0:=Nm.DQ (show 0< (Nm.jc ps).length by lia) (Nm.lR ps) (Nm.DW ps);have T1:=Nm.oN (c:=10^12) ∅ hb;rw[<-Nm.DX] at T1;have lw:=Nm.xZ ps;have ev:List.map (λx:Key×V=>x.2) (enc (Nm.jc ps))=List.map V.int ((Nm.jc ps).map (·.2)):=by
     unfold enc;rw[aaM,aaM];rfl
    refine⟨_,ao,_,ev,_,ao,Nm.lR ps,⋯,?_,?_,λp H' s' Yd r'=>?_⟩
    ·show Nm.oG (Nm.jc ps)≠0;lia
    ·show Bt 5000 (Nm.oG (Nm.jc ps));exact Bt.of (10^16) ⋯ ⋯
    ·exact kQ nb p H' ((au J9).trans s') (none_of (au J9) Yd) r'
theorem uW:aS ["base","exponent","product","turn"] ["base","exponent"] (aq (top 18)):=.mk
theorem Mc (T:0|||0):(1<<<"power") ["base","exponent"] LL:=by
 refine T.D5.dF (λ_ _ _ _ _ _=>d4 λ_ _=>rfl) λf fd F=>F.dZ uW (λvs H Q E h=>?_) (λbY A outer s H vs Q E hr h=>?_)
 ·obtain⟨_,_,rfl,_⟩:=h;rfl
 ·symm;obtain⟨b,e,rfl,be,V2,hb,kk⟩:=h;nofun;have nd:=uW.nd;refine⟨_,(ag (aG (i:=2) ae)
  (ag (ck PassesOwn.never rfl (bX rfl T.z_range (aa (pv 1) af)) (aV (i:=3) nd rfl (.inl rfl)) (ag (bc (aL i8 (pv 2) (kg rfl T.c_MOST_BOTTOM) (aQ _)) (aj tY)
   aW)
  (aj (aG (i:=2) (aD bf (pv 2) (pv 0))))))
  (aj (aR (pv 2))))),?_⟩
  refine(?_:let bQ:TS:=_;let bR:TS:=_;let bS:TS:=_;tSeq bQ (tSeq bR bS) _ _ _);intro bQ bR bS;have sl:=sizeLine_eq;dsimp?[];refine⟨⋯,⋯,bJ (src_range (Ok:=λ_=>True)) (λi σ H'=>H=H'/\∃z,σ=[some (.int (b:Int)),some (.int (e:Int)),some (.int ((b^i:Nat):Int)),z]) ⟨rfl,_,rfl⟩ (λ_ _ _ _ _=>trivial) ?_ ?_⟩
  ·intro i x σ H' fG hi eV eX;symm;obtain⟨rfl,z,rfl⟩:=eV;obtain⟨rfl,rfl⟩:=eX;nofun;have b1:1<=b:=⋯
   have le:b^i<=b^e:=Nat.pow_le_pow_right b1 ⋯;dsimp?[];rw[if_neg ⋯];refine⟨br ⋯ ⋯,?_,_,rfl⟩;rw[Nat.pow_succ,aaW]
  ·intro σ H' dg;symm;obtain⟨rfl,z,rfl⟩:=dg;nofun;rw[aal];dsimp?[];exact kk
theorem jf:aS ["part"] ["part"] (aq (top 19)):=.mk
theorem BK (T:0|||0):(1<<<"most_faces") ["part"] Ef:=by
 refine T.rT.dF (λ_ _ _ _ _ _=>gA λ_=>rfl) λf fd F=>F.dZ jf (λvs H Q E h=>?_) (λbY A outer s H vs Q E hr h=>?_)
 ·obtain⟨_,rfl,_⟩:=mK h;rfl
 ·symm;obtain⟨q,rfl,p,hq,kk⟩:=mK h;nofun;have nd:=jf.nd;refine⟨_,(ag (bc (aL bo (ar ai (pv 0) ae) aZ (aQ _)) (aj (aR ae))
   aW)
  (ag (bc (aL bo (ar ai (pv 0) ae) aZ (aQ _)) (aj (aR (jX (aL i8 (ar ai (pv 0) ae) ae (aQ _)) ae ae)))
   aW)
  (ag (bc (aL bo (ar ai (pv 0) ae) aZ (aQ _)) (aj (aR (aD aM (aU (iQ rfl) (by rfl) T.z_max rfl (aa (ar ai (pv 0) ae) (aa ae af))) ae)))
   aW)
  (aj (aR (ar ai (pv 0) (ip fI ae))))))),?_⟩
  refine(?_:let bQ:TS:=_;let bR:TS:=_;let bS:TS:=_;let df:TS:=_;tSeq bQ (tSeq bR (tSeq bS df)) _ _ _);intro bQ bR bS df;cases p with
  | num n=>
   simp only[k7] at hq;dsimp?[hq];exact kk
  | cP m s=>
   simp only[k7] at hq;dsimp?[hq];rw[if_neg ∅,if_neg ∅,if_neg ∅];exact⟨_,rfl,kk⟩
  | bU n s=>
   simp only[k7] at hq;dsimp?[hq];rw[if_neg ∅,if_neg ∅];rw[show(if (0:Int) >(n:Int) then (0:Int) else (n:Int))=(n:Int) from if_neg ⋯];exact kk
theorem iE:aS ["part"] ["part"] (aq (top 20)):=.mk
theorem BL (T:0|||0):(2<<<"part_bottom") ["part"] Bz:=by
 have Eo:=Mc T;have eD:=BK T;refine T.pZ.dF (λ_ _ _ _ _ _=>gA λ_=>rfl) λf fd F=>F.dZ iE (λvs H Q E h=>?_) (λbY A outer s H vs Q E hr h=>?_)
 ·obtain⟨_,rfl,_⟩:=mK h;rfl
 ·symm;obtain⟨q,rfl,p,hq,g,hb,kk⟩:=mK h;nofun;have nd:=iE.nd;refine⟨_,(aj (aR (aK Eo (aa (ar ai (pv 0) (ip fI ae)) (aa (aK eD (aa (pv 0) af)) af))))),?_⟩;dsimp?[LL,Ef];refine⟨_,hq,_,wL p,p,hq,lst p,rfl,Ea p,rfl,?_,?_,?_,?_⟩
  ·cases p with
   | num n=>exact .inr rfl
   | _=>exact .inl g.1
  ·have:=oY g;lia
  ·have:lst p^Ea p=bot p:=by cases p <;>rfl
   rw[this];exact hb
  ·have:lst p^Ea p=bot p:=by cases p <;>rfl
   rw[this];exact kk
theorem jg:aS ["part","sides","low"] ["part"] (aq (top 21)):=.mk
theorem Md (T:0|||0):(3<<<"part_count") ["part"] LM:=by
 have eD:=BK T;have dQ:=BL T;refine T.rV.dF (λ_ _ _ _ _ _=>gA λ_=>rfl) λf fd F=>F.dZ jg (λvs H Q E h=>?_) (λbY A outer s H vs Q E hr h=>?_)
 ·obtain⟨_,rfl,_⟩:=mK h;rfl
 ·symm;obtain⟨q,rfl,p,hq,g,hb,kk⟩:=mK h;nofun;have nd:=jg.nd;refine⟨_,(ag (aG (i:=1) (ar ai (pv 0) (ip fI ae)))
  (ag (bc (aL bo (ar ai (pv 0) ae) aZ (aQ _)) (ag (aG (i:=2) (aU (iQ rfl) (by rfl) T.z_max rfl (aa (aU (fE rfl) (by rfl) T.z_min rfl (aa (ar ai (pv 0) ae) (aa (pv 1) af))) (aa ae af))))
  (aj (aR (aD gP (aD aM (aD bf (pv 2) (pv 1)) (pv 1)) (pv 2)))))
   aW)
  (ag (bc (aL bo (ar ai (pv 0) ae) aZ (aQ _)) (aj (aR (aD aM (aD bf (aK eD (aa (pv 0) af)) (aD gP (pv 1) ae)) ae)))
   aW)
  (aj (aR (aK dQ (aa (pv 0) af))))))),?_⟩
  refine(?_:let bQ:TS:=_;let bR:TS:=_;let bS:TS:=_;let df:TS:=_;tSeq bQ (tSeq bR (tSeq bS df)) _ _ _);intro bQ bR bS df;refine aN (λN=>N [~~~q,some (.int (lst p:Int)),none] H) (λN hN=>?_) ?_
  ·dsimp?[];exact⟨_,hq,_,wL p,hN⟩
  cases p with
  | num n=>
   simp only[k7] at hq;refine aN (λN=>N [~~~q,some _,none] H) (λN hN=>bL (λY N k=>by dsimp?[hq];rw[if_neg ∅];exact k) (by dsimp?[];exact hN)) ?_;refine aN (λN=>N [~~~q,some _,none] H) (λN hN=>bL (λY N k=>by dsimp?[hq];rw[if_neg ∅];exact k) (by dsimp?[];exact hN)) ?_;dsimp?[Bz];exact⟨.num n,hq,g,hb,kk⟩
  | cP m s=>
   simp only[k7] at hq;refine aN (λN=>N [~~~q,some _,none] H) (λN hN=>bL (λY N k=>by dsimp?[hq];rw[if_neg ∅];exact k) (by dsimp?[];exact hN)) ?_;refine aN (λN=>N [~~~q,some _,none] H) (λN hN=>bL (λY N k=>by dsimp?[hq];rw[if_neg ∅];exact k) (by dsimp?[];exact hN)) ?_;dsimp?[Bz];exact⟨.cP m s,hq,g,hb,kk⟩
  | bU n s=>
   simp only[k7] at hq;refine aN (λN=>N [~~~q,some _,none] H) (λN hN=>bL (λY N k=>by dsimp?[hq];rw[if_neg ∅];exact k) (by dsimp?[];exact hN)) ?_;refine aN (λ_=>True) (λN _=>?_) trivial;refine cH (λY N k=>by dsimp?[hq];exact k) ?_;dsimp?[Ef]
   try rw[show(lst (.bU n s):Nat)=s from rfl]
   refine⟨.bU n s,hq,AQ (by have:=g.2.1;lia) (by have:=g.2.1;lia),?_⟩;have e2:((Ea (.bU n s):Nat):Int)* ((s:Int) - 1)+1=(((n+1)* (s - 1)+1:Nat):Int):=by
    rw[Int.natCast_add,aaW,Int.natCast_sub g.1];rfl
   rw[e2];exact kk
theorem jh:aS ["pool","count","bottom","part"] ["pool"] (aq (top 22)):=.mk
theorem Me (T:0|||0):(4<<<"check_size") ["pool"] LN:=by
 have sP:=Md T;have dQ:=BL T;refine T.rW.dF (λ_ _ _ _ _ _=>gA λ_=>rfl) λf fd F=>F.J2 jh (λvs H Q E h=>?_) (λbY A outer s H vs Q E hr h=>?_)
 ·obtain⟨_,rfl,_⟩:=mK h;rfl
 ·symm;obtain⟨l,rfl,ps,hp,g,kk⟩:=mK h;nofun;have nd:=jh.nd;have Ah:A.handled=none:=hr.hd;refine⟨_,(ag (aG (i:=1) ae)
  (ag (aG (i:=2) ae)
  (ag (ck PassesOwn.leaving rfl (bh (K:=K) (pv 0)) (aV (i:=3) nd rfl (.inl rfl)) (ag (aG (i:=1) (aD bf (pv 1) (aK sP (aa (pv 3) af))))
  (aj (aG (i:=2) (aD bf (pv 2) (aK dQ (aa (pv 3) af)))))))
  (aj (bc (PW.pt (pw_or (aL i8 (pv 1) (kg rfl T.c_MOST_THROWS) (aQ _)) (pw_or1 (aL i8 (pv 2) (kg rfl T.c_MOST_BOTTOM) (aQ _))))) (aj (fM rfl T.k_TooMany T.x_TooMany Ah (aa aZ af)))
   aW))))),?_⟩
  refine(?_:let bQ:TS:=_;let bR:TS:=_;let bS:TS:=_;let df:TS:=_;tSeq bQ (tSeq bR (tSeq bS df)) _ _ _);intro bQ bR bS df;symm;obtain⟨xs,hl,al⟩:=hp;nofun;have lx:=al.length;dsimp?[];refine⟨⟨_,bC.of hl⟩,bJ (src_list (Ok:=λH'=>H=H') (λH' e=>by subst e;exact bC.of hl)) (λi σ H'=>H=H'/\∃z,σ=[~~~l,some (.int ((iA ((ps.take i).map cnt):Nat):Int)),some (.int ((iA ((ps.take i).map bot):Nat):Int)),z]) ⟨rfl,_,rfl⟩ (λ_ _ _ _ h=>h.1) ?_ ?_⟩
  ·intro i x σ H' fG hi eV eX;symm;obtain⟨rfl,z,rfl⟩:=eV;obtain⟨rfl,ex⟩:=eX;obtain⟨p,ep,q,rfl,hq⟩:=al.get ex;nofun;obtain⟨BM,vv⟩:=abh.mp ep;have hm:p∈ps:=by rw[<-vv];exact aaI BM
   symm;obtain⟨gp,c1,b1⟩:=me g hm;nofun;have c0:=l8 g i;have b0:=ma g i;dsimp?[LM,Bz];refine⟨p,hq,gp,b1,br ⋯ ⋯,p,hq,gp,b1,br ⋯ ⋯,?_,?_,_,rfl⟩
   ·rw[take_snoc BM,vv,aak,aae,aaN,gB,aaW]
   ·rw[take_snoc BM,vv,aak,aae,aaN,gB,aaW]
  ·intro σ H' dg;symm;obtain⟨rfl,z,rfl⟩:=dg;nofun;rw[lx,aau (aag _)];have c0:=g.2.1;have b0:=g.2.2;dsimp?[];rw[if_neg ⋯,if_neg ⋯];exact kk
theorem ji:aS ["dice","sides","found","turn","longer","faces"] ["dice","sides"] (aq (top 23)):=.mk
theorem Mf (T:0|||0):(1<<<"dice_faces") ["dice","sides"] LO:=by
 refine T.rX.dF (λ_ _ _ _ _ _=>d4 λ_ _=>rfl) λf fd F=>F.dZ ji (λvs H Q E h=>?_) (λbY A outer s H vs Q E hr h=>?_)
 ·obtain⟨_,_,rfl,_⟩:=h;rfl
 ·symm;obtain⟨d,s',rfl,s1,RX,d6,hd,kk⟩:=h;nofun;have nd:=ji.nd;refine⟨_,(ag (aG (i:=2) (bT (aa (bT af) af)))
  (ag (ck PassesOwn.never rfl (bX rfl T.z_range (aa (pv 0) af)) (aV (i:=3) nd rfl (.inl rfl)) (ag (aG (i:=4) (bT af))
  (ag (ck PassesOwn.never rfl (bh (K:=K) (pv 2)) (aV (i:=5) nd rfl (.inr rfl)) (aj (bw (d7 aaw PySem.F.slot_list_extend PySem.F.type_list_extend lI.r (pv 4) (aa (cj rfl (N:=["dice","sides","found","turn","longer","faces"]) (so:=aq (top 23)) (N':=["face","faces"]) (k:=1) (fr:=[5]) rfl rfl ⟨rfl,∅,∅,∅,rfl,∅,∅⟩ (lD rfl T.z_range (aa ae (aa (aD aM (pv 1) ae) af))) (λ_ _ _ _ _=>(aV (i:=0) (show(["face","faces"]:List Str).Nodup by ac_rfl) rfl (.inl rfl))) (λ_ _ _ _ _=>dk)
   (λ_ _ _ _ _=>(aD vW (pv 1) (bT (aa (pv 0) af))))) af)))))
  (aj (aG (i:=2) (pv 4))))))
  (aj (aR (pv 2))))),?_⟩
  refine(?_:let bQ:TS:=_;let bR:TS:=_;let bS:TS:=_;tSeq bQ (tSeq bR bS) _ _ _);intro bQ bR bS;have sl:=sizeLine_eq;dsimp?[];refine⟨aah _,λe0 m0=>⟨∅,λl0 n0=>⟨⋯,⋯,?_⟩⟩⟩;have s0:aw H (upd (upd H e0 (.lst [])) l0 (.lst [.ref e0])):=(au m0).trans (au n0);refine bJ (src_range (Ok:=λ_=>True)) (λi σ H'=>aw H H'/\∃l xs z z' PR,H' l=some (.lst xs)/\Al (Fa H') (D8 s' i) xs/\σ=[some (.int (d:Int)),some (.int (s':Int)),~~~l,z,z',PR]) ?_ (λ_ _ _ _ _=>trivial) ?_ ?_
  ·exact⟨s0,l0,_,_,_,_,ao,.one ⟨e0,rfl,au n0 _ _ ao⟩,rfl⟩
  ·intro i x σ H' fG hi eV eX;symm;obtain⟨sm,l,xs,z,z',PR,hl,al,rfl⟩:=eV;obtain⟨rfl,rfl⟩:=eX;nofun;have lx:=al.length;rw[nN] at lx;have hle:s'^ (i+1)<=1296:=aao (Nat.pow_le_pow_right s1 ⋯) hd;have Ye:s'^i<=1296:=aao (Nat.pow_le_pow_right s1 ⋯) hd;subst_vars;refine cW (λσ' H1=>aw fG H1/\∃m,fG m=none/\H1 m=some (.lst [])/\σ'=[some (.int (d:Int)),some (.int (s':Int)),~~~l,some (.int (0+i)),~~~m,PR]) (λN hN=>?_) ?_
   ·dsimp?[];exact⟨aah _,λm nm=>hN _ _ ⟨au nm,m,nm,ao,rfl⟩⟩
   intro _ H1 dg;symm;obtain⟨Ai,m,nm,hm,rfl⟩:=dg;nofun;subst_vars;refine cW (λσ' H2=>aw fG H2/\∃ys,H2 m=some (.lst ys)/\Al (Fa H2) (D8 s' (i+1)) ys/\∃z,σ'=[some (.int (d:Int)),some (.int (s':Int)),~~~l,some (.int (0+i)),~~~m,z]) (λN hN=>?_) ?_
   ·dsimp?[];refine⟨⟨_,bC.of (Ai _ _ hl)⟩,bJ (src_list (Ok:=aw fG) (λH2 s2=>bC.of (s2 _ _ hl)))
     (λj σ H2=>aw fG H2/\∃ys z,H2 m=some (.lst ys)/\ys.length=j*s'/\Al (Fa (cG H2 m)) (((D8 s' i).take j).flatMap λf=>(List.range s').map λi:Nat=>f++ [((i:Nat):Int)+1]) ys/\σ=[some (.int (d:Int)),some (.int (s':Int)),~~~l,some (.int (0+i)),~~~m,z])
     ⟨Ai,[],_,hm,by simp,trivial,rfl⟩ (λ_ _ _ _ h=>h.1) ?_ ?_⟩
    ·intro j x σ H2 H3 hj eV eX;symm;obtain⟨uX,ys,z,qL,ly,ay,rfl⟩:=eV;obtain⟨rfl,ex⟩:=eX;obtain⟨f,ef,q,rfl,hq⟩:=al.get ex;nofun;obtain⟨Yg,Yh⟩:=abh.mp ef;have fl:=(sG s' i f (by rw[<-Yh];exact aaI Yg)).1;have Ip:=uX _ _ hq;dsimp?[nI];refine⟨.inl ⟨rfl,_,bC.of qL⟩,⋯,⋯,⋯,⋯,?_⟩;rw[show((s':Int)+1 - 1).toNat=s' by lia];refine comp_map src_range (λ_ _ _ _ h=>by rw[h.1];exact aw.refl _) ⋯ (λk y H4=>Fa (cG H4 m) (f++ [((k:Nat):Int)+1]) y) (λk y H4 H5 s5 h=>h.mono (dN s5)) ?_ ?_
     ·rintro k x w0 H4 H5 Q2 hk s4 ⟨rfl,rfl⟩ kq;dsimp?[Dy];refine⟨∅,λa1 n1=>⟨_,au n1 _ _ (s4 _ _ Ip),_,ao,by rw[aad];simp only[aap,aa0];lia,λa2 n2=>kq _ _ ((au n1).trans (au n2)) ⟨a2,rfl,?_⟩⟩⟩;have ne:a2≠m:=λe=>by
       subst e;rw[au n1 _ _ (s4 _ _ qL)] at n2;cases n2
      rw[cu ne,ao,aak,Int.add_comm];rfl
     ·intro zs H4 s4 lz hz D n1 n2;have RY:=s4 _ _ qL;have jm:j*s'<=s'^ (i+1):=by rw[Nat.pow_succ];exact Nat.mul_le_mul_right _ ⋯
      have Yi:∀{k:Nat},k=j*s'+s'->k<=sizeLine:=λe=>⋯
      refine⟨_,au n2 _ _ RY,_,ao,Yi (by rw[ly,lz]),?_⟩;have s5:aw H3 (upd H4 D (.lst zs)):=s4.trans (au n2);refine⟨bZ (uX.trans s5) nm,_,ao,by rw[aaq,ly,lz,Nat.succ_mul],?_,_,rfl⟩;rw[sJ,aaF,ef,List.flatMap_append];refine Al.append (ay.imp λ_ _ h=>h.mono (dN s5)) ?_;simp only[Option.toList,List.flatMap_cons,List.flatMap_nil,List.append_nil];refine Al.of (by rw[aad,aax];exact lz) λk y g e1 e2=>?_;rw[aaf] at e2;symm;obtain⟨k',ek,rfl⟩:=abg.mp e2;nofun;obtain⟨Yj,Mg⟩:=abh.mp ek;rw[List.getElem_range] at Mg;subst Mg;exact(hz _ _ e1).mono (dN (au n2))
    ·intro σ H2 dg;symm;obtain⟨uX,ys,z,qL,ly,ay,rfl⟩:=dg;nofun;refine hN _ _ ⟨uX,ys,qL,?_,_,rfl⟩;rw[lx,<-nN s' i,aau (aag _)] at ay;exact ay.imp λ_ _ h=>h.mono cX
   intro _ H2 dg;symm;obtain⟨uX,ys,qL,ay,z,rfl⟩:=dg;nofun;dsimp?[]
   first | exact⟨sm.trans uX,m,_,qL,ay,rfl,⟨_,rfl⟩,⟨_,rfl⟩,⟨_,rfl⟩⟩ | exact⟨sm.trans uX,m,_,qL,ay,rfl,_,_,rfl⟩ | exact⟨sm.trans uX,m,_,qL,ay,rfl,⟨_,rfl⟩,_,rfl⟩ | exact⟨sm.trans uX,m,_,qL,ay,rfl,_,rfl⟩
  ·intro σ H' dg;symm;obtain⟨sm,l,xs,z,z',PR,hl,al,rfl⟩:=dg;nofun;rw[aal] at al;dsimp?[];exact kk _ _ _ sm hl al
theorem pb:aS ["low","sides","found","face"] ["low","sides"] (aq (top 24)):=.mk
theorem Mh (T:0|||0):(1<<<"again_faces") ["low","sides"] Rv:=by
 refine T.p3.dF (λ_ _ _ _ _ _=>d4 λ_ _=>rfl) λf fd F=>F.dZ pb (λvs H Q E h=>h.elim) (λbY A outer s H vs Q E hr h=>h.elim)
theorem iF:aS ["most","sides","found","ahead"] ["most","sides"] (aq (top 25)):=.mk
theorem Mi (T:0|||0):(1<<<"burst_faces") ["most","sides"] LQ:=by
 refine T.p4.dF (λ_ _ _ _ _ _=>d4 λ_ _=>rfl) λf fd F=>F.dZ iF (λvs H Q E h=>?_) (λbY A outer s H vs Q E hr h=>?_)
 ·obtain⟨_,_,rfl,_⟩:=h;rfl
 ·symm;obtain⟨n,s',rfl,s1,RX,n7,kk⟩:=h;nofun;clear G_;have nd:=iF.nd;refine⟨_,(ag (aG (i:=2) (bT af))
  (ag (ck PassesOwn.never rfl (bX rfl T.z_range (aa (pv 0) af)) (aV (i:=3) nd rfl (.inr rfl)) (aj (bw (d7 aaw PySem.F.slot_list_extend PySem.F.type_list_extend lI.r (pv 2) (aa (cj rfl (N:=["most","sides","found","ahead"]) (so:=aq (top 25)) (N':=["face","sides","ahead"]) (k:=1) (fr:=[1,3]) rfl rfl ⟨rfl,∅,∅,∅,rfl,∅,∅⟩ (lD rfl T.z_range (aa ae (aa (pv 1) af))) (λ_ _ _ _ _=>(aV (i:=0) (show(["face","sides","ahead"]:List Str).Nodup by ac_rfl) rfl (.inl rfl))) (λ_ _ _ _ _=>dk)
   (λ_ _ _ _ _=>(aD vW (aD vX (bT (aa (pv 1) af)) (pv 2)) (bT (aa (pv 0) af))))) af)))))
  (ag (bw (d7 aaw aaX aaY c5.r (pv 2) (aa (aD vX (bT (aa (pv 1) af)) (pv 0)) af)))
  (aj (aR (pv 2)))))),?_⟩
  refine(?_:let bQ:TS:=_;let bR:TS:=_;let bS:TS:=_;let df:TS:=_;tSeq bQ (tSeq bR (tSeq bS df)) _ _ _);intro bQ bR bS df;have sl:=sizeLine_eq;subst_vars;refine cW (λσ' H1=>aw H H1/\∃m,H m=none/\H1 m=some (.lst [])/\σ'=[some (.int (n:Int)),some (.int (s':Int)),~~~m,none]) (λN hN=>?_) ?_
  ·dsimp?[];exact⟨aah _,λm nm=>hN _ _ ⟨au nm,m,nm,ao,rfl⟩⟩
  intro _ H1 dg;symm;obtain⟨Ai,m,nm,hm,rfl⟩:=dg;nofun;clear G_;subst_vars;refine cW (λσ' H1=>aw H H1/\∃xs z,H1 m=some (.lst xs)/\xs.length<=n*20/\Al (Fa (cG H1 m)) ((List.range n).flatMap λa=>J6 s' a) xs/\σ'=[some (.int (n:Int)),some (.int (s':Int)),~~~m,z]) (λN hN=>?_) ?_
  ·dsimp?[];refine⟨⋯,⋯,?_⟩
   try rw[aal]
   refine bJ (src_range (Ok:=λ_=>True)) (λi σ H'=>aw H H'/\∃xs z,H' m=some (.lst xs)/\xs.length<=i*20/\Al (Fa (cG H' m)) ((List.range i).flatMap λa=>J6 s' a) xs/\σ=[some (.int (n:Int)),some (.int (s':Int)),~~~m,z]) ?_ (λ_ _ _ _ _=>trivial) ?_ ?_
   ·exact⟨Ai,_,_,hm,aah _,trivial,rfl⟩
   ·intro i x σ H2 H3 hi eV eX;symm;obtain⟨sm,xs,z,hm,lx,al,rfl⟩:=eV;obtain⟨rfl,rfl⟩:=eX;nofun;dsimp?[nI];refine⟨.inl ⟨rfl,_,bC.of hm⟩,⋯,⋯,⋯,⋯,?_⟩;rw[show((s':Int) - 1).toNat=s' - 1 by lia];refine comp_map src_range (λ_ _ _ _ h=>by rw[h.1];exact aw.refl _) ⋯ (λk y H4=>Fa (cG H4 m) (abn i (s':Int)++ [((k:Nat):Int)+1]) y) (λk y H4 H5 s5 h=>h.mono (dN s5)) ?_ ?_
    ·rintro k x w0 H4 H5 Q2 hk s4 ⟨rfl,rfl⟩ kq;dsimp?[Dy,Dz];refine⟨∅,λa1 n1=>⟨_,ao,⋯,⋯,by simp only[aap,aa0];lia,λa2 n2=>⟨∅,λa3 n3=>⟨_,au n3 _ _ ao,_,ao,?_,λa4 n4=>kq _ _ ((au n1).trans ((au n2).trans ((au n3).trans (au n4)))) ⟨a4,rfl,?_⟩⟩⟩⟩⟩
     ·rw[len_rep];simp only[aap,aa0];lia
     ·have ne:a4≠m:=λe=>by
       subst e;rw[au n3 _ _ (au n2 _ _ (au n1 _ _ (s4 _ _ hm)))] at n4;cases n4
      rw[cu ne,ao,List.flatten_replicate_singleton,aak,List.map_replicate,show((0:Int)+ (i:Int)).toNat=i by lia,Int.add_comm 1 (k:Int)];rfl
    ·intro zs H4 s4 lz hz D n1 n2;have RY:=s4 _ _ hm;refine⟨_,au n2 _ _ RY,_,ao,⋯,?_⟩;have s5:aw H3 (upd H4 D (.lst zs)):=s4.trans (au n2);refine⟨bZ (sm.trans s5) nm,_,ao,by rw[aaq,lz];lia,?_,_,rfl⟩;rw[sJ,List.range_succ,List.flatMap_append];refine Al.append (al.imp λ_ _ h=>h.mono (dN s5)) ?_;simp only[List.flatMap_cons,List.flatMap_nil,List.append_nil];unfold J6;refine Al.of (by rw[aad,aax];exact lz) λk y g e1 e2=>?_;rw[aaf] at e2;symm;obtain⟨k',ek,rfl⟩:=abg.mp e2;nofun;obtain⟨Yj,Mg⟩:=abh.mp ek;rw[List.getElem_range] at Mg;subst Mg;exact(hz _ _ e1).mono (dN (au n2))
   ·intro σ H' dg;symm;obtain⟨sm,xs,z,hm,lx,al,rfl⟩:=dg;nofun;exact hN _ _ ⟨sm,xs,_,hm,lx,al,rfl⟩
  intro _ H2 dg;symm;obtain⟨sm,xs,z,hm,lx,al,rfl⟩:=dg;nofun;clear G_;dsimp?[dS,Dz];refine⟨.inl ⟨rfl,_,bC.of hm⟩,∅,λa1 n1=>⟨_,ao,⋯,⋯,by simp only[aap,aa0];lia,λa2 n2=>⟨_,au n2 _ _ (au n1 _ _ hm),⋯,?_⟩⟩⟩;generalize eH:upd (upd H2 a1 (.lst [V.int (s':Int)])) a2 (.lst (abn (n:Int).toNat [V.int (s':Int)]).flatten)=H5;have s5:aw H2 H5:=by rw[<-eH];exact(au n1).trans (au n2)
  have ne:a2≠m:=λe=>by
   subst e;rw[au n1 _ _ hm] at n2;cases n2
  have e5:H5 a2=some (.lst (List.map V.int (abn n (s':Int)))):=by
   rw[<-eH,ao,List.flatten_replicate_singleton,List.map_replicate,aal]
  refine kk _ _ _ (bZ (sm.trans s5) nm) ao ?_;refine Al.append (al.imp λ_ _ h=>(h.mono (dN s5)).mono x9) (.one ⟨a2,rfl,?_⟩);rw[av ne];exact e5
theorem jj:aS ["part"] ["part"] (aq (top 26)):=.mk
theorem Mj (T:0|||0):(2<<<"part_faces") ["part"] LR:=by
 have eD:=BK T;have sQ:=Mf T;have qe:=Mh T;have qg:=Mi T;refine T.rY.dF (λ_ _ _ _ _ _=>gA λ_=>rfl) λf fd F=>F.dZ jj (λvs H Q E h=>?_) (λbY A outer s H vs Q E hr h=>?_)
 ·obtain⟨_,rfl,_⟩:=mK h;rfl
 ·symm;obtain⟨q,rfl,p,hq,g,hc,kk⟩:=mK h;nofun;have nd:=jj.nd;refine⟨_,(ag (bc (aL bo (ar ai (pv 0) ae) aZ (aQ _)) (aj (aR (bT (aa (bT af) af))))
   aW)
  (ag (bc (aL bo (ar ai (pv 0) ae) aZ (aQ _)) (aj (aR (aK qe (aa (ar ai (pv 0) ae) (aa (ar ai (pv 0) ae) af)))))
   aW)
  (ag (bc (aL bo (ar ai (pv 0) ae) aZ (aQ _)) (aj (aR (aK qg (aa (aK eD (aa (pv 0) af)) (aa (ar ai (pv 0) ae) af)))))
   aW)
  (aj (aR (aK sQ (aa (ar ai (pv 0) (ip fI ae)) (aa (ar ai (pv 0) (ip fI ae)) af)))))))),?_⟩
  refine(?_:let bQ:TS:=_;let bR:TS:=_;let bS:TS:=_;let df:TS:=_;tSeq bQ (tSeq bR (tSeq bS df)) _ _ _);intro bQ bR bS df;cases p with
  | num n=>
   simp only[k7] at hq;dsimp?[hq];refine⟨aah _,λe0 m0=>⟨∅,λl0 n0=>kk _ _ _ ((au m0).trans (au n0)) ao (.one ⟨e0,rfl,au n0 _ _ ao⟩)⟩⟩
  | cP m s=>
   simp only[k7] at hq;dsimp?[hq,LO];rw[if_neg ∅,if_neg ∅,if_neg ∅];refine⟨_,rfl,_,rfl,m,rfl,s,rfl,g.1,g.2.1,g.2.2,hc,kk⟩
  | bU n s=>
   simp only[k7] at hq;dsimp?[hq,Ef,LQ];rw[if_neg ∅,if_neg ∅];refine⟨.bU n s,rfl,n+1,rfl,s,rfl,g.1,g.2.1,by have:=g.2.2;lia,kk⟩
theorem mS:aS ["part","faces"] ["part","faces"] (aq (top 27)):=.mk
theorem Ml (T:0|||0):(1<<<"value_of") ["part","faces"] LS:=by
 refine T.wG.dF (λ_ _ _ _ _ _=>d4 λ_ _=>rfl) λf fd F=>F.dZ mS (λvs H Q E h=>?_) (λbY A outer s H vs Q E hr h=>?_)
 ·obtain⟨_,_,rfl,_⟩:=D3 h;rfl
 ·symm;obtain⟨q,l,rfl,p,hq,fs,hl,g,hf,kk⟩:=D3 h;nofun;have nd:=mS.nd;refine⟨_,(ag (bc (aL bo (ar ai (pv 0) ae) aZ (aQ _)) (aj (aR (ar ai (pv 0) ae)))
   aW)
  (ag (bc (aL bo (ar ai (pv 0) ae) aZ (aQ _)) (aj (aR (aU (iz (K:=K)) (by rfl) T.z_sum rfl (aa (ou (oF (K:=K)) (zz (K:=K) rfl T.z_sorted (pv 1) ik (n1:=rfl)) xG (nH (ar ai (pv 0) ae))) af))))
   aW)
  (ag (bc (aL bo (ar ai (pv 0) ae) aZ (aQ _)) (aj (aR (aU (iz (K:=K)) (by rfl) T.z_sum rfl (aa (ou (oF (K:=K)) (aU (oC (K:=K)) (by rfl) T.z_sorted rfl (aa (pv 1) af)) xG (nH (ar ai (pv 0) ae))) af))))
   aW)
  (ag (bc (aL bo (ar ai (pv 0) ae) aZ (aQ _)) (aj (aR (aU bK (by rfl) T.z_len aav (aa (cj rfl (N:=["part","faces"]) (so:=aq (top 27)) (N':=["face","part"]) (k:=1) (fr:=[0]) rfl rfl ⟨rfl,∅,∅,∅,rfl,∅,∅⟩ (bh (K:=K) (pv 1)) (λ_ _ _ _ _=>(aV (i:=0) (show(["face","part"]:List Str).Nodup by ac_rfl) rfl (.inl rfl))) (λ_ _ _ _ _=>(eA (aL xD (pv 0) (ar ai (pv 1) ae) (aQ _))))
   (λ_ _ _ _ _=>(pv 0))) af))))
   aW)
  (ag (bc (aL bo (ar ai (pv 0) ae) aZ (aQ _)) (aj (aR (ar aX (pv 1) (ip fI ae))))
   aW)
  (aj (aR (aU (iz (K:=K)) (by rfl) T.z_sum rfl (aa (pv 1) af))))))))),?_⟩
  refine(?_:let bQ:TS:=_;let bR:TS:=_;let bS:TS:=_;let df:TS:=_;let mT:TS:=_;let uY:TS:=_;tSeq bQ (tSeq bR (tSeq bS (tSeq df (tSeq mT uY)))) _ _ _);intro bQ bR bS df mT uY;have sl:=sizeLine_eq;have fl:=(kr g fs hf).2;have ml:=oY g;cases p with
  | num n=>
   simp only[k7] at hq;dsimp?[hq];exact kk _ (aw.refl _)
  | cP m s=>
   simp only[k7] at hq;dsimp?[hq];rw[if_neg ∅,if_neg ∅,if_neg ∅,if_neg ∅,if_neg ∅];exact⟨fs,bC.of hl,kk _ (aw.refl _)⟩
  | bU n s=>
   simp only[k7] at hq;dsimp?[hq];rw[if_neg ∅,if_neg ∅,if_neg ∅,if_neg ∅,if_neg ∅];exact⟨fs,bC.of hl,kk _ (aw.refl _)⟩
theorem gC:aS ["part","faces","product","face"] ["part","faces"] (aq (top 28)):=.mk
theorem Mm (T:0|||0):(1<<<"sides_product") ["part","faces"] LU:=by
 refine T.nv.dF (λ_ _ _ _ _ _=>d4 λ_ _=>rfl) λf fd F=>F.dZ gC (λvs H Q E h=>?_) (λbY A outer s H vs Q E hr h=>?_)
 ·obtain⟨_,_,rfl,_⟩:=D3 h;rfl
 ·symm;obtain⟨q,l,rfl,p,hq,fs,hl,g,hf,kk⟩:=D3 h;nofun;have nd:=gC.nd;refine⟨_,(ag (aG (i:=2) ae)
  (ag (ck PassesOwn.never rfl (bh (K:=K) (pv 1)) (aV (i:=3) nd rfl (.inl rfl)) (aj (aG (i:=2) (aD bf (pv 2) (ar ai (pv 0) (ip fI ae))))))
  (aj (aR (pv 2))))),?_⟩
  refine(?_:let bQ:TS:=_;let bR:TS:=_;let bS:TS:=_;tSeq bQ (tSeq bR bS) _ _ _);intro bQ bR bS;have fl:=(kr g fs hf).2;have ml:=oY g;have l99:=Ie g;have RX:=(sI g).2;have e0:0<fs.length->lst p=sd p:=λh=>by
   cases p with
   | num n=>rw[abj.mp hf] at h;cases h
   | _=>rfl
  dsimp?[];refine⟨⟨_,bC.of hl⟩,bJ (src_list (Ok:=λH'=>H=H') (λH' e=>by subst e;exact bC.of hl)) (λi σ H'=>H=H'/\∃z,σ=[~~~q,~~~l,some (.int ((sd p^i:Nat):Int)),z]) ⟨rfl,_,rfl⟩ (λ_ _ _ _ h=>h.1) ?_ ?_⟩
  ·intro i x σ H' fG hi eV eX;symm;obtain⟨rfl,z,rfl⟩:=eV;obtain⟨rfl,ex⟩:=eX;nofun;rw[aad] at hi;have le:=zH (e:=i) RX ⋯;have e1:=e0 ⋯;dsimp?[];refine⟨_,hq,_,wL p,?_⟩;dsimp?[];refine⟨br ⋯ ⋯,?_,_,rfl⟩;rw[Nat.pow_succ,aaW,e1]
  ·intro σ H' dg;symm;obtain⟨rfl,z,rfl⟩:=dg;nofun;rw[aad];dsimp?[];exact kk
theorem iG:aS ["part"] ["part"] (aq (top 29)):=.mk
theorem Mn (T:0|||0):(3<<<"part_throws") ["part"] LV:=by
 have sR:=Mj T;have wQ:=Ml T;have nF:=Mm T;refine T.p6.dF (λ_ _ _ _ _ _=>gA λ_=>rfl) λf fd F=>F.dZ iG (λvs H Q E h=>?_) (λbY A outer s H vs Q E hr h=>?_)
 ·obtain⟨_,rfl,_⟩:=mK h;rfl
 ·symm;obtain⟨q,rfl,p,hq,g,hc,kk⟩:=mK h;nofun;have nd:=iG.nd;refine⟨_,(aj (aR (cj rfl (N:=["part"]) (so:=aq (top 29)) (N':=["faces","part"]) (k:=1) (fr:=[0]) rfl rfl ⟨rfl,∅,∅,∅,rfl,∅,∅⟩ (bh (K:=K) (aK sR (aa (pv 0) af))) (λ_ _ _ _ _=>(aV (i:=0) (show(["faces","part"]:List Str).Nodup by ac_rfl) rfl (.inl rfl))) (λ_ _ _ _ _=>dk)
   (λ_ _ _ _ _=>(a6 (aa (pv 0) (aa (aK wQ (aa (pv 1) (aa (pv 0) af))) (aa (aK nF (aa (pv 1) (aa (pv 0) af))) af)))))))),?_⟩
  have sl:=sizeLine_eq;dsimp?[LR];refine⟨p,hq,g,hc,λl H1 xs s1 hl al=>⟨⟨_,bC.of hl⟩,?_⟩⟩;have lx:=al.length;rw[ko] at lx;refine comp_map (src_list (λH2 s2=>bC.of (s2 _ _ hl))) (λ_ _ _ _ h=>by rw[h.1];exact aw.refl _) ⋯ (λi y H2=>∀f,(Eb p)[i]?=some f->TR (λ_=>none) H2 (f,val p f,sd p^f.length) y) (λi y H2 H3 s3 h f e=>(h f e).mono s3) ?_ ?_
  ·rintro i x w0 H2 H3 Q2 hi s2 ⟨rfl,ex⟩ kq;symm;obtain⟨fs,ef,b,rfl,hb⟩:=al.get ex;nofun;have hf:fs∈Eb p:=aan ef;have Ip:=s2 _ _ (s1 _ _ hq);have RZ:=s2 _ _ hb;dsimp?[LS,LU];refine⟨p,Ip,fs,RZ,g,hf,λH4 s4=>⟨p,s4 _ _ Ip,fs,s4 _ _ RZ,g,hf,∅,λa H5 s5 na e5=>kq _ _ (s4.trans s5) λf e=>?_⟩⟩;rw[ef] at e;cases e;exact⟨a,b,rfl,e5,s5 _ _ (s4 _ _ RZ),rfl⟩
  ·intro ys H2 s2 ly hy D n1 n2;refine kk _ _ _ (s1.trans (s2.trans (au n2))) ao ?_;refine Al.of (by unfold C8;rw[aad,ko];lia) λi y r e1 e2=>?_;unfold C8 at e2;rw[aaf] at e2;symm;obtain⟨f,ef,rfl⟩:=abg.mp e2;nofun;exact(hy i y e1 f ef).mono (au n2)
theorem fj:aS ["pool","found","part","behind","longer","faces","value","bottom"] ["pool"] (aq (top 30)):=.mk
theorem Mo (T:0|||0):(5<<<"throws_by_bottom") ["pool"] LW:=by
 have sS:=Me T;have qh:=Mn T;refine T.jF.dF (λ_ _ _ _ _ _=>gA λ_=>rfl) λf fd F=>F.dZ fj (λvs H Q E h=>?_) (λbY A outer s H vs Q E hr h=>?_)
 ·obtain⟨_,rfl,_⟩:=mK h;rfl
 ·symm;obtain⟨a,rfl,ps,hp,g,l4,kk⟩:=mK h;nofun;clear G_;have nd:=fj.nd;refine⟨_,(ag (bw (aK sS (aa (pv 0) af)))
  (ag (aG (i:=1) (bT (aa (a6 (aa (bT af) (aa ae (aa ae af)))) af)))
  (ag (ck PassesOwn.never rfl (bh (K:=K) (pv 0)) (aV (i:=2) nd rfl (.inl rfl)) (ag (aG (i:=3) (aK qh (aa (pv 2) af)))
  (ag (aG (i:=4) (bT af))
  (ag (ck PassesOwn.never rfl (bh (K:=K) (pv 1)) (eP (K:=K) (n:=3) rfl (bH (aV (i:=5) nd rfl (.inr rfl)) (bH (aV (i:=6) nd rfl (.inr rfl)) (bH (aV (i:=7) nd rfl (.inr rfl)) eO)))) (aj (bw (d7 aaw PySem.F.slot_list_extend PySem.F.type_list_extend lI.r (pv 4) (aa (cj rfl (N:=["pool","found","part","behind","longer","faces","value","bottom"]) (so:=aq (top 30)) (N':=["more","faces","value","bottom"]) (k:=1) (fr:=[5,6,7]) rfl rfl ⟨rfl,∅,∅,∅,rfl,∅,∅⟩ (bh (K:=K) (pv 3)) (λ_ _ _ _ _=>(aV (i:=0) (show(["more","faces","value","bottom"]:List Str).Nodup by ac_rfl) rfl (.inl rfl))) (λ_ _ _ _ _=>dk)
   (λ_ _ _ _ _=>(a6 (aa (aD vW (pv 1) (ar ai (pv 0) ae)) (aa (aD aM (pv 2) (ar ai (pv 0) ae)) (aa (aD bf (pv 3) (ar ai (pv 0) ae)) af)))))) af)))))
  (aj (aG (i:=1) (pv 4)))))))
  (aj (aR (pv 1)))))),?_⟩
  refine(?_:let bQ:TS:=_;let bR:TS:=_;let bS:TS:=_;let df:TS:=_;tSeq bQ (tSeq bR (tSeq bS df)) _ _ _);intro bQ bR bS df;have sl:=sizeLine_eq;symm;obtain⟨vs,ha,ap⟩:=hp;nofun;clear G_;have lv:=ap.length;subst_vars;refine cW (λσ' H1=>H=H1/\σ'=[~~~a,none,none,none,none,none,none,none]) (λN hN=>?_) ?_
  ·dsimp?[LN];exact⟨ps,⟨vs,ha,ap⟩,g,hN _ _ ⟨rfl,rfl⟩⟩
  rintro _ _ ⟨rfl,rfl⟩;subst_vars;refine cW (λσ' H1=>aw H H1/\∃l xs,H1 l=some (.lst xs)/\Al (TR H H1) (dM []) xs/\σ'=[~~~a,~~~l,none,none,none,none,none,none]) (λN hN=>?_) ?_
  ·dsimp?[];refine⟨aah _,λe0 m0=>⟨∅,λt H1 s1 nt e1=>⟨∅,λl n1=>hN _ _ ⟨(au m0).trans (s1.trans (au n1)),l,_,ao,.one ⟨t,e0,rfl,au n1 _ _ e1,au n1 _ _ (s1 _ _ ao),m0⟩,rfl⟩⟩⟩⟩
  intro _ H1 dg;symm;obtain⟨Ai,l,xs,hl,al,rfl⟩:=dg;nofun;clear G_;subst_vars;refine cW (λσ' H2=>aw H H2/\∃l xs,H2 l=some (.lst xs)/\Al (TR H H2) (dM ps) xs/\∃z1 z2 z3 z4 z5 z6,σ'=[~~~a,~~~l,z1,z2,z3,z4,z5,z6]) (λN hN=>?_) ?_
  ·dsimp?[];refine⟨⟨_,bC.of (Ai _ _ ha)⟩,bJ (src_list (Ok:=aw H) (λH2 s2=>bC.of (s2 _ _ ha)))
    (λi σ H2=>aw H H2/\∃l xs z1 z2 z3 z4 z5 z6,H2 l=some (.lst xs)/\Al (TR H H2) (dM (ps.take i)) xs/\σ=[~~~a,~~~l,z1,z2,z3,z4,z5,z6])
    ⟨Ai,l,xs,_,_,_,_,_,_,hl,al,rfl⟩ (λ_ _ _ _ h=>h.1) ?_ ?_⟩
   ·clear hl al xs l;intro i x σ H2 H3 hi eV eX;symm;obtain⟨uX,l,xs,z1,z2,z3,z4,z5,z6,hl,al,rfl⟩:=eV;obtain⟨rfl,ex⟩:=eX;obtain⟨p,ep,q,rfl,hq⟩:=ap.get ex;nofun;obtain⟨BM,vv⟩:=abh.mp ep;have hm:p∈ps:=by rw[<-vv];exact aaI BM
    symm;obtain⟨gp,c1,b1⟩:=me g hm;nofun;have lx:=al.length;rw[nO] at lx;have c0:=l8 g i;have c2:=l8 g (i+1);have es:dM (ps.take (i+1))=vo (dM (ps.take i)) p:=by rw[take_snoc BM,vv,oZ]
    have ec:iA ((ps.take (i+1)).map cnt)=iA ((ps.take i).map cnt)*cnt p:=by rw[take_snoc BM,vv,aak,aae,aaN,gB]
    rw[ec] at c2;subst_vars;refine cW (λσ' H4=>aw H3 H4/\∃b bs,H4 b=some (.lst bs)/\Al (TR (λ_=>none) H4) (C8 p) bs/\σ'=[~~~a,~~~l,~~~q,~~~b,z3,z4,z5,z6]) (λN hN=>?_) ?_
    ·dsimp?[LV];exact⟨p,uX _ _ hq,gp,c1,λb H4 bs s4 hb ab=>hN _ _ ⟨s4,b,bs,hb,ab,rfl⟩⟩
    intro _ H4 dg;symm;obtain⟨PU,b,bs,hb,ab,rfl⟩:=dg;nofun;have lb:=ab.length;unfold C8 at lb;rw[aad,ko] at lb;have hl:=PU _ _ hl;have al:=al.imp λ_ _ h=>TR.mono PU h;subst_vars;refine cW (λσ' H5=>aw H4 H5/\∃m,H4 m=none/\H5 m=some (.lst [])/\σ'=[~~~a,~~~l,~~~q,~~~b,~~~m,z4,z5,z6]) (λN hN=>?_) ?_
    ·dsimp?[];exact⟨aah _,λm nm=>hN _ _ ⟨au nm,m,nm,ao,rfl⟩⟩
    intro _ H5 dg;symm;obtain⟨V3,m,nm,Yk,rfl⟩:=dg;nofun;subst_vars;refine cW (λσ' H6=>aw H4 H6/\∃ys,H6 m=some (.lst ys)/\Al (TR H H6) (vo (dM (ps.take i)) p) ys/\∃z4 z5 z6,σ'=[~~~a,~~~l,~~~q,~~~b,~~~m,z4,z5,z6]) (λN hN=>?_) ?_
    ·dsimp?[];refine⟨⟨_,bC.of (V3 _ _ hl)⟩,bJ (src_list (Ok:=aw H4) (λH2 s2=>bC.of (s2 _ _ hl)))
      (λj σ H6=>aw H4 H6/\∃ys z4 z5 z6,H6 m=some (.lst ys)/\ys.length=j*cnt p/\Al (TR H (cG H6 m)) (vo ((dM (ps.take i)).take j) p) ys/\σ=[~~~a,~~~l,~~~q,~~~b,~~~m,z4,z5,z6])
      ⟨V3,[],_,_,_,Yk,by simp,trivial,rfl⟩ (λ_ _ _ _ h=>h.1) ?_ ?_⟩
     ·intro j x σ H6 H7 hj eV eX;symm;obtain⟨BN,ys,z4,z5,z6,F2,ly,ay,rfl⟩:=eV;obtain⟨rfl,ex⟩:=eX;obtain⟨r,er,t,fq,rfl,ht,R1,nfq⟩:=al.get ex;nofun;have F3:=yk g.1 i ⋯ r (aan er);have ht:=BN _ _ ht;have R1:=BN _ _ R1;have V4:=BN _ _ hb;have b0:=ma g i;refine⟨t,_,rfl,iP.of ht,rfl,_,_,rfl,_,_,rfl,_,_,rfl,rfl,?_⟩;dsimp?[nI];refine⟨.inl ⟨rfl,_,bC.of F2⟩,⟨_,bC.of V4⟩,?_⟩;refine comp_map (src_list (λH2 s2=>bC.of (s2 _ _ V4))) (λ_ _ _ _ h=>by rw[h.1];exact aw.refl _) ⋯ (λk y H8=>∀u,(C8 p)[k]?=some u->TR H (cG H8 m) (r.1++u.1,r.2.1+u.2.1,r.2.2*u.2.2) y) (λk y H8 H9 s9 h u e=>(h u e).mono (dN s9)) ?_ ?_
      ·rintro k x w0 H8 H9 Q2 hk s8 ⟨rfl,ex⟩ kq;symm;obtain⟨u,eu,c,d,rfl,hc,hd,_⟩:=ab.get ex;nofun;have V5:=s8 _ _ (BN _ _ hc);have Yl:=s8 _ _ (BN _ _ hd);have R3:=s8 _ _ R1;have lu:u.1.length<=7:=by
        have hu:=aan eu;unfold C8 at hu;symm;obtain⟨f,hf,rfl⟩:=abi.mp hu;nofun;exact aao (kr gp f hf).2 (oY gp)
       dsimp?[Dy,V5,Yl,R3];refine⟨by rw[aad,aad];lia,λa1 n1=>?_⟩;have s9:=au (o:=.lst (List.map V.int r.1++List.map V.int u.1)) n1;simp only[s9 _ _ V5];refine⟨_,rfl,_,at1,_,rfl,_,rfl,_,at2,_,rfl,br ⋯ ⋯,∅,λt2 zN Aj V6 V2=>kq _ _ (s9.trans Aj) λu' V7=>?_⟩;rw[eu] at V7;cases V7;have Ym:=s9 _ _ (s8 _ _ F2);refine⟨t2,a1,rfl,?_,?_,?_⟩
       ·rw[cu (λe=>by rw[e,Ym] at V6;cases V6),V2,aaW]
       ·rw[cu (λe=>by rw[e,s8 _ _ F2] at n1;cases n1),Aj _ _ ao,aak]
       ·exact none_of (uX.trans (PU.trans (BN.trans s8))) n1
      ·intro zs H8 s8 lz hz D n1 n2;have Yn:=s8 _ _ F2;have jm:j*cnt p+cnt p<=iA ((ps.take i).map cnt)*cnt p:=by
        rw[<-Nat.succ_mul];exact Nat.mul_le_mul_right _ ⋯
       refine⟨_,au n2 _ _ Yn,_,ao,⋯,?_⟩;have s9:aw H7 (upd H8 D (.lst zs)):=s8.trans (au n2);refine⟨bZ (BN.trans s9) nm,_,ao,by rw[aaq,ly,lz,lb,Nat.succ_mul],?_,_,rfl⟩;rw[sJ,aaF,er];unfold vo;rw[List.flatMap_append];refine Al.append (ay.imp λ_ _ h=>h.mono (dN s9)) ?_;simp only[Option.toList,List.flatMap_cons,List.flatMap_nil,List.append_nil];refine Al.of (by rw[aad];unfold C8;rw[aad,ko];lia) λk y v e1 e2=>?_;rw[aaf] at e2;symm;obtain⟨u,eu,rfl⟩:=abg.mp e2;nofun;exact(hz _ _ e1 u eu).mono (dN (au n2))
     ·intro σ H6 dg;symm;obtain⟨BN,ys,z4,z5,z6,F2,ly,ay,rfl⟩:=dg;nofun;refine hN _ _ ⟨BN,ys,F2,?_,_,_,_,rfl⟩;rw[lx,<-nO,aau (aag _)] at ay;exact ay.imp λ_ _ h=>h.mono cX
    intro _ H6 dg;symm;obtain⟨BN,ys,F2,ay,z4,z5,z6,rfl⟩:=dg;nofun;dsimp?[];rw[es];exact⟨uX.trans (PU.trans BN),m,_,F2,ay,rfl,_,rfl⟩
   ·intro σ H2 dg;symm;obtain⟨uX,l,xs,z1,z2,z3,z4,z5,z6,hl,al,rfl⟩:=dg;nofun;rw[lv,aau (aag _)] at al;exact hN _ _ ⟨uX,l,xs,hl,al,_,_,_,_,_,_,rfl⟩
  intro _ H2 dg;symm;obtain⟨uX,l,xs,hl,al,z1,z2,z3,z4,z5,z6,rfl⟩:=dg;nofun;dsimp?[];exact kk _ _ _ uX hl al
theorem jk:aS ["pool","found","common","part"] ["pool"] (aq (top 31)):=.mk
theorem Mp (T:0|||0):(6<<<"pool_table") ["pool"] LY:=by
 have jK:=Mo T;have dQ:=BL T;have wR:=Mb T;refine T.rZ.dF (λ_ _ _ _ _ _=>gA λ_=>rfl) λf fd F=>F.dZ jk (λvs H Q E h=>?_) (λbY A outer s H vs Q E hr h=>?_)
 ·obtain⟨_,rfl,_⟩:=mK h;rfl
 ·symm;obtain⟨a,rfl,ps,hp,gl,l4,kk⟩:=mK h;nofun;clear G_;have nd:=jk.nd;refine⟨_,(ag (aG (i:=1) (aK jK (aa (pv 0) af)))
  (ag (aG (i:=2) ae)
  (ag (ck PassesOwn.never rfl (bh (K:=K) (pv 0)) (aV (i:=3) nd rfl (.inl rfl)) (aj (aG (i:=2) (aD bf (pv 2) (aK dQ (aa (pv 3) af))))))
  (aj (aR (aK wR (aa (cj rfl (N:=["pool","found","common","part"]) (so:=aq (top 31)) (N':=["faces","value","bottom","common"]) (k:=3) (fr:=[2]) rfl rfl ⟨rfl,∅,∅,∅,rfl,∅,∅⟩ (bh (K:=K) (pv 1)) (λ_ _ _ _ _=>(eP (K:=K) (n:=3) rfl (bH (aV (i:=0) (show(["faces","value","bottom","common"]:List Str).Nodup by ac_rfl) rfl (.inl rfl)) (bH (aV (i:=1) (show(["faces","value","bottom","common"]:List Str).Nodup by ac_rfl) rfl (.inl rfl)) (bH (aV (i:=2) (show(["faces","value","bottom","common"]:List Str).Nodup by ac_rfl) rfl (.inl rfl)) eO))))) (λ_ _ _ _ _=>dk)
   (λ_ _ _ _ _=>(a6 (aa (pv 1) (aa (aD ix (pv 3) (pv 2)) af))))) af))))))),?_⟩
  refine(?_:let bQ:TS:=_;let bR:TS:=_;let bS:TS:=_;let df:TS:=_;tSeq bQ (tSeq bR (tSeq bS df)) _ _ _);intro bQ bR bS df;have sl:=sizeLine_eq;have gm:=uO gl;symm;obtain⟨vs,ha,ap⟩:=id hp;nofun;clear G_;have lv:=ap.length;subst_vars;refine cW (λσ' H1=>aw H H1/\∃l xs,H1 l=some (.lst xs)/\Al (TR H H1) (dM ps) xs/\σ'=[~~~a,~~~l,none,none]) (λN hN=>?_) ?_
  ·dsimp?[LW];exact⟨ps,hp,gm,l4,λl H1 xs s1 hl al=>hN _ _ ⟨s1,l,xs,hl,al,rfl⟩⟩
  intro _ H1 dg;symm;obtain⟨Ai,l,xs,hl,al,rfl⟩:=dg;nofun;clear G_;have lx:=al.length;rw[nO] at lx;subst_vars;refine cW (λσ' H2=>H1=H2/\σ'=[~~~a,~~~l,1⁻¹,none]) (λN hN=>?_) ?_
  ·dsimp?[];exact hN _ _ ⟨rfl,rfl⟩
  rintro _ _ ⟨rfl,rfl⟩;subst_vars;refine cW (λσ' H2=>H1=H2/\∃z,σ'=[~~~a,~~~l,some (.int (iA (ps.map bot):Int)),z]) (λN hN=>?_) ?_
  ·dsimp?[];refine⟨⟨_,bC.of (Ai _ _ ha)⟩,bJ (src_list (Ok:=λH'=>H1=H') (λH' e=>by subst e;exact bC.of (Ai _ _ ha))) (λi σ H'=>H1=H'/\∃z,σ=[~~~a,~~~l,some (.int (iA ((ps.take i).map bot):Int)),z]) ⟨rfl,_,rfl⟩ (λ_ _ _ _ h=>h.1) ?_ ?_⟩
   ·intro i x σ H' fG hi eV eX;symm;obtain⟨rfl,z,rfl⟩:=eV;obtain⟨rfl,ex⟩:=eX;obtain⟨p,ep,q,rfl,hq⟩:=ap.get ex;nofun;obtain⟨BM,vv⟩:=abh.mp ep;symm;obtain⟨gp,c1,b1⟩:=me gm (aan ep);nofun;have b0:=ma gm i;dsimp?[Bz];refine⟨p,Ai _ _ hq,gp,b1,br ⋯ ⋯,?_,_,rfl⟩;rw[take_snoc BM,vv,aak,aae,aaN,gB,aaW]
   ·intro σ H' dg;symm;obtain⟨rfl,z,rfl⟩:=dg;nofun;rw[lv,aau (aag _)];exact hN _ _ ⟨rfl,_,rfl⟩
  intro _ _ dg;symm;obtain⟨rfl,z,rfl⟩:=dg;have c0:=gm.2.1;have bW:=gm.2.2;obtain⟨Yo,Yp,Yq,_⟩:=sL ps gl;nofun;clear G_;have dv:∀r∈dM ps,1<=r.2.2/\r.2.2<=iA (ps.map bot):=λr F3=>by
   have:=yk gm.1 ps.length (aag _) r (by rw[aau (aag _)];exact F3);rw[aau (aag _)] at this;exact this.2
  have nb:=Ij gl;have Yr:Eg (iA (ps.map bot)) (dM ps)=ym ps:=rfl;generalize hW:iA (ps.map bot)=W at *;dsimp?[LK];refine⟨⟨_,bC.of hl⟩,?_⟩;refine zy (K:=K) (src_list (λH2 s2=>bC.of (s2 _ _ hl))) (λi u v b' H2=>∃r,(dM ps)[i]?=some r/\v=.int r.2.1/\b'=.int (r.2.2:Int)) ?_ ⋯
   (λi y H2=>∀r,(dM ps)[i]?=some r->Rep H2 (dq (r.2.1,((W / r.2.2:Nat):Int))) y) (λi y H2 H3 s3 h r e=>(h r e).mono s3) ?_ ?_
  ·rintro i x H2 H3 hi s2 ⟨rfl,ex⟩;symm;obtain⟨r,er,t,q,rfl,ht,hq,nq⟩:=al.get ex;nofun;exact⟨aw.refl _,t,_,_,_,rfl,iP.of (s2 _ _ ht),r,er,rfl,rfl⟩
  ·intro i u v b' H2 Q2 hi s2 Ys kq;symm;obtain⟨r,er,rfl,rfl⟩:=Ys;nofun;have hb:=dv r (aan er);dsimp?[];refine⟨i9.of (n:=64) ⋯ (Bt.of 1000000 ⋯ ⋯),∅,λt H3 s3 nt e3=>kq _ _ s3 λr' F4=>?_⟩;rw[er] at F4;cases F4;rw[<-Int.natCast_ediv] at e3;exact b9.mpr ⟨t,rfl,e3⟩
  ·intro ys H2 s2 ly hy D n1 n2;have rp:Rep (upd H2 D (.lst ys)) (Bh (ym ps)) (.ref D):=by
    rw[<-Yr];refine aY.mpr ⟨D,ys,rfl,ao,a7.of ?_ λi dd v e1 e2=>?_⟩
    ·unfold Eg;rw[aad,aad,ly,lx,<-nO]
    ·unfold Eg at e1;rw[aaf,aaf] at e1;symm;obtain⟨p,ep,rfl⟩:=abg.mp e1;obtain⟨r,er,rfl⟩:=abg.mp ep;nofun;exact(hy i v e2 r er).mono (au n2)
   have sD:aw H (upd H2 D (.lst ys)):=Ai.trans (s2.trans (au n2));exact⟨ym ps,rp,Yp,λx hx=>(Yo x hx).2,Yq,λb=>absurd b nb,λ_ p H' s' np r'=>kk p H' (sD.trans s') (none_of sD np) r'⟩
theorem mU:aS ["rows"] ["rows"] (aq (top 33)):=.mk
theorem Mq (T:0|||0):(1<<<"own_rows") ["rows"] qR:=by
 refine T.wH.dF (λ_ _ _ _ _ _=>gA λ_=>rfl) λf fd F=>F.dZ mU (λvs H Q E h=>?_) (λbY A outer s H vs Q E hr h=>?_)
 ·obtain⟨_,rfl,_⟩:=C7 h;rfl
 ·symm;obtain⟨v,rfl,X,sx,rs,rp,lr,ll,kk⟩:=C7 h;nofun;have sy:aw (tT X) H:=o9.trans sx;have nd:=mU.nd;refine⟨_,(aj (aR (cj rfl (N:=["rows"]) (so:=aq (top 33)) (N':=["row"]) (k:=1) (fr:=[]) rfl rfl ⟨rfl,∅,∅,∅,rfl,∅,∅⟩ (bh (K:=K) (pv 0)) (λ_ _ _ _ _=>(aV (i:=0) (show(["row"]:List Str).Nodup by ac_rfl) rfl (.inl rfl))) (λ_ _ _ _ _=>dk)
   (λ_ _ _ _ _=>(a6 (aa (ar ai (pv 0) ae) (aa (ar ai (pv 0) ae) (aa (dD (dt (K:=K)) (by rfl) T.z_list rfl (aa (ar ai (pv 0) ae) af)) (aa (ar ai (pv 0) ae) af))))))))),?_⟩
  have sl:=sizeLine_eq;symm;obtain⟨l,xs,rfl,hl,rl⟩:=aY.mp rp;nofun;have hl:=sx _ _ hl;have len:=rl.length;rw[aad] at len;dsimp?[];refine⟨⟨_,bC.of hl⟩,?_⟩;refine comp_map (src_list (K:=K) (λH' s'=>bC.of (s' _ _ hl))) (λ_ _ _ _ h=>by rw[h.1];exact aw.refl _) ⋯ (λi y H4=>∀r,rs[i]?=some r->Rep (nw H (tT X) H4) (mO r) y) (λi y H4 H5 s5 h r e=>(h r e).mono (kA s5)) ?_ ?_
  ·rintro i x w0 H4 H5 Q2 hi s4 ⟨rfl,ex⟩ kq;symm;obtain⟨d,ed,rd⟩:=rl.get ex;rw[aaf] at ed;obtain⟨r,er,rfl⟩:=abg.mp ed;obtain⟨p,a,b,c,d,rfl,hp,ra,rb,rc,R5⟩:=cS.mp rd;obtain⟨c',Yt,rfl,hc,pK⟩:=aY.mp rc;nofun;have hp:=s4 _ _ (sx _ _ hp);have hc:=s4 _ _ (sx _ _ hc);dsimp?[hp];refine⟨_,.inl (bC.of hc),λm nm=>⟨_,au nm _ _ hp,_,rfl,∅,λt H6 s6 nt e6=>kq _ _ ((au nm).trans s6) λr' F4=>?_⟩⟩;rw[er] at F4;cases F4;have sn:aw (tT X) (nw H (tT X) H6):=mQ sy;symm;obtain⟨_,n1,n2,n3,n4⟩:=ll r (aan er);nofun;have PV:=none_of s4 nm;have Yu:=none_of (s4.trans (au nm)) nt;exact cS.mpr ⟨t,_,_,_,_,rfl,by rw[cC Yu];exact e6,(n1 _ _ ra).mono sn,(n2 _ _ rb).mono sn,aY.mpr ⟨m,Yt,rfl,by rw[cC PV];exact s6 _ _ ao,(Io n3 pK).mono sn⟩,(n4 _ _ R5).mono sn⟩
  ·intro ys H5 s5 ly hy D n1 n2;refine kk D _ (s5.trans (au n2)) (aY.mpr ⟨D,ys,rfl,by rw[cC (none_of s5 n2)];exact ao,a7.of (by rw[aad];lia) λi dd u e1 e2=>?_⟩);rw[aaf] at e1;symm;obtain⟨r,er,rfl⟩:=abg.mp e1;nofun;exact(hy i u e2 r er).mono (kA (au n2))
theorem mV:aS ["what"] ["what"] (aq (top 34)):=.mk
theorem Mr (T:0|||0):(2<<<"own_what") ["what"] F0:=by
 have pe:=Mq T;refine T.wI.dF (λ_ _ _ _ _ _=>gA λ_=>rfl) λf fd F=>F.dZ mV (λvs H Q E h=>?_) (λbY A outer s H vs Q E hr h=>?_)
 ·obtain⟨_,rfl,_⟩:=C7 h;rfl
 ·symm;obtain⟨v,rfl,X,sx,x,rp,PX,cs,gd,kk⟩:=C7 h;nofun;have sy:aw (tT X) H:=o9.trans sx;have nd:=mV.nd;refine⟨_,(ag (bc (aL bo (ar ai (pv 0) ae) aZ (aQ _)) (aj (aR (a6 (aa aZ (aa (dD (dt (K:=K)) (by rfl) T.z_list rfl (aa (ar ai (pv 0) ae) af)) (aa (ar ai (pv 0) ae) (aa (aK pe (aa (ar ai (pv 0) ae) af)) af)))))))
   aW)
  (ag (bc (aL bo (ar ai (pv 0) ae) aZ (aQ _)) (aj (aR (a6 (aa aZ (aa (ar ai (pv 0) ae) (aa (aK pe (aa (ar ai (pv 0) ae) af)) af))))))
   aW)
  (aj (aR (pv 0))))),?_⟩
  refine(?_:let bQ:TS:=_;let bR:TS:=_;let bS:TS:=_;tSeq bQ (tSeq bR bS) _ _ _);intro bQ bR bS;have sl:=sizeLine_eq;cases x with
  | ask c k a b=>
   symm;obtain⟨p,x1,x2,x3,x4,x5,rfl,hp,r1,r2,r3,r4,r5⟩:=sN.mp (show Rep X (.tup _) v from rp);rw[aI] at r1;subst r1;nofun;dsimp?[qR,sx _ _ hp];rw[if_neg ∅,if_neg ∅];exact kk _ _ (aw.refl _) (Rep.mono (mQ sy) (wO (by simp only[List.forall_mem_cons];exact⟨cO,cO,eK,cO,cO,λ_ z=>by cases z⟩) _ _ rp))
  | fin t b=>
   symm;obtain⟨p,x1,x2,rfl,hp,r1,r2⟩:=bu.mp (show Rep X (.tup _) v from rp);rw[aI] at r1;subst r1;nofun;dsimp?[qR,sx _ _ hp];rw[if_neg ∅,if_neg ∅];exact kk _ _ (aw.refl _) (Rep.mono (mQ sy) (zM cO (zM eK eK) _ _ rp))
  | score c=>
   symm;obtain⟨p,x1,x2,rfl,hp,r1,r2⟩:=bu.mp (show Rep X (.tup _) v from rp);rw[aI] at r1;subst r1;nofun;dsimp?[qR,sx _ _ hp];rw[if_neg ∅,if_neg ∅];exact kk _ _ (aw.refl _) (Rep.mono (mQ sy) (zM cO cO _ _ rp))
  | pick w rs=>
   symm;obtain⟨p,x1,x2,x3,rfl,hp,r1,r2,r3⟩:=de.mp (show Rep X (.tup _) v from rp);rw[aI] at r1;subst r1;nofun;dsimp?[qR,sx _ _ hp];rw[if_neg ∅];obtain⟨g1,g2⟩:=gd;refine⟨X,sx,_,r3,by rw[aad];exact g1,λr F3=>?_,λm H1 s1 rm=>⟨∅,λt H2 s2 nt e2=>kk _ _ (s1.trans s2) ?_⟩⟩
   ·symm;obtain⟨r0,h0,rfl⟩:=abi.mp F3;nofun;refine⟨?_,cO,L7 _,FY,cO⟩;show(r0.ds.map qO).length<=100;rw[aad];exact(g2 r0 h0).1
   ·exact de.mpr ⟨t,_,_,_,rfl,by rw[cC (none_of s1 nt)];exact e2,aI.mpr rfl,bg.mpr (bg.mp r2),rm.mono (kA s2)⟩
  | dM cY t b rs=>
   symm;obtain⟨p,x1,x2,x3,x4,rfl,hp,r1,r2,r3,r4⟩:=cS.mp (show Rep X (.tup _) v from rp);rw[aI] at r1;subst r1;nofun;have hp:=sx _ _ hp;dsimp?[qR,hp];symm;obtain⟨g1,g2,g3⟩:=gd;obtain⟨l2,R6,rfl,AJ,Yv⟩:=aY.mp r2;nofun;refine⟨_,rfl,_,.inl (bC.of (sx _ _ AJ)),λm nm=>?_⟩;have sm:=au (o:=.lst R6) nm;have Yw:aw X (upd H m (.lst R6)):=sx.trans sm;refine⟨_,sm _ _ hp,_,rfl,_,sm _ _ hp,_,rfl,X,Yw,_,r4,by rw[aad];exact g2,λr F3=>?_,λn H1 s1 rn=>⟨∅,λt H2 s2 nt e2=>kk _ _ (sm.trans (s1.trans s2)) ?_⟩⟩
   ·symm;obtain⟨r0,h0,rfl⟩:=abi.mp F3;nofun;refine⟨?_,eK,eK,FY,cO⟩;show(r0.2.2.1.map qO).length<=100;rw[aad];exact(g3 r0 h0).1
   ·have rn:=rn.mono (En sy sm s1);exact cS.mpr ⟨t,_,_,_,_,rfl,by rw[cC (none_of (sm.trans s1) nt)];exact e2,aI.mpr rfl,aY.mpr ⟨m,R6,rfl,by rw[cC nm];exact s2 _ _ (s1 _ _ ao),(Io (L8 PX) Yv).mono (mQ sy)⟩,(zM eK eK _ _ r3).mono (mQ sy),rn.mono (kA s2)⟩
theorem jl:aS ["self","counts","spot","number"] ["self","counts","spot","number"] (aq (inClass (top 35) 1)):=.mk
theorem Iq (T:0|||0):dG P w K mg base (cV P w) 1 ah "put" ["self","counts","spot","number"] (uQ ah):=by
 refine T.qa.dF (λ_ _ _ _ _ _=>sF λ_ _ _ _=>rfl) λf fd F=>F.dZ jl (λvs H Q E h=>?_) (λbY A outer s H vs Q E hr h=>?_)
 ·obtain⟨_,_,_,_,rfl,_⟩:=h;rfl
 ·symm;obtain⟨c,l,i,k,rfl,g,⟨dx,sp,mo,wh,tb,us,ft,h1,h2,h3,h4,h5,h6⟩,ns,hl,il,ln,kk⟩:=h;nofun;have nd:=jl.nd;refine⟨_,(aj (Aw (aU (fE rfl) (by rfl) T.z_min rfl (aa (pv 3) (aa (ar aX (bp (pv 0) rfl) (pv 2)) af))) (Av (pv 1) (pv 2) set_list))),?_⟩;have h1:=cX _ _ h1;have h3:=cX _ _ h3;dsimp?[du];refine⟨_,_,_,h1,T.aP,T.na_Course_mosts,_,FR,_,rfl,_,h3,_,El il,_,rfl,_,hl,_,yr (by rw[aad];lia),?_⟩;rw[<-List.map_set];have e:(if most g.cs i<k then most g.cs i else k)=min k (most g.cs i):=⋯
  rw[e];exact kk
theorem kB:aS ["self","counts","deed","value","spot","other"] ["self","counts","deed","value"] (aq (inClass (top 35) 2)):=.mk
theorem Ms (T:0|||0):dG P w K mg base (cV P w) 2 ah "do" ["self","counts","deed","value"] (LZ ah):=by
 have fA:=Iq T;refine T.sC.dF (λ_ _ _ _ _ _=>sF λ_ _ _ _=>rfl) λf fd F=>F.dZ kB (λvs H Q E h=>?_) (λbY A outer s H vs Q E hr h=>?_)
 ·obtain⟨_,_,_,_,rfl,_⟩:=Bs h;rfl
 ·symm;obtain⟨c,l,dv,v,rfl,g,co,ns,hl,d,rd,gd,ln,kk⟩:=Bs h;nofun;have nd:=kB.nd;refine⟨_,(ag (aG (i:=4) (cF (cD hr) (bp (pv 0) rfl) (ar ai (pv 2) ae) (λ_ _=>rfl)))
  (aj (bc (aL bo (ar ai (pv 2) ae) aZ (aQ _)) (aj (bw (c8 fA T.aP (pv 0) (aa (pv 1) (aa (pv 4) (aa (ar ai (pv 2) ae) af))))))
   (aj (bc (aL bo (ar ai (pv 2) ae) aZ (aQ _)) (aj (bw (c8 fA T.aP (pv 0) (aa (pv 1) (aa (pv 4) (aa (aD aM (ar aX (pv 1) (pv 4)) (ar ai (pv 2) ae)) af))))))
   (aj (bc (aL bo (ar ai (pv 2) ae) aZ (aQ _)) (aj (bw (c8 fA T.aP (pv 0) (aa (pv 1) (aa (pv 4) (aa (aD aM (ar aX (pv 1) (pv 4)) (pv 3)) af))))))
   (ag (aG (i:=5) (cF (cD hr) (bp (pv 0) rfl) (ar ai (pv 2) ae) (λ_ _=>rfl)))
  (ag (bw (c8 fA T.aP (pv 0) (aa (pv 1) (aa (pv 5) (aa (aD aM (ar aX (pv 1) (pv 5)) (ar aX (pv 1) (pv 4))) af)))))
  (aj (Aw ae (Av (pv 1) (pv 4) set_list)))))))))))),?_⟩
  symm;obtain⟨dx,sp,mo,wh,tb,us,ft,h1,h2,h3,h4,h5,h6⟩:=id co;nofun;have h1:=cX _ _ h1;have h2:=cX _ _ h2;have lp:∀{a b c d e:V},List.lookup (aac "put") [(aac "spots",a),(aac "mosts",b),(aac "first",c),(aac "whats",d),(aac "tables",e)]=none:=dP (by ac_rfl) (by ac_rfl) (by ac_rfl) (by ac_rfl) (by ac_rfl);cases d with
  | set n k=>
   symm;obtain⟨p,x1,x2,x3,rfl,hp,r1,r2,r3⟩:=de.mp (show Rep (cG H l) (.tup _) dv from rd);rw[aI] at r1 r2;rw[bg] at r3;subst r1 r2 r3;nofun;have hp:=cX _ _ hp;have sl:=fz (cs:=g.cs) gd;subst_vars;refine cW (λσ' H'=>H=H'/\σ'=[~~~c,~~~l,~~~p,v⁻¹,some (.int ((bF g.cs n:Nat):Int)),none]) (λN hN=>by dsimp?[du,hp];exact⟨_,_,_,h1,T.aP,T.na_Course_spots,_,je,_,rfl,_,gX h2 gd,hN _ _ ⟨rfl,rfl⟩⟩) ?_;rintro _ _ ⟨rfl,rfl⟩;refine cH (λY N k=>by dsimp?[hp];first | exact k | (rw[if_pos (by ac_rfl)];exact k)) ?_;dsimp?[du,cg,uQ,hp];exact⟨_,_,h1,lp,_,rfl,_,co,_,hl,sl,ln,kk⟩
  | plus n k=>
   symm;obtain⟨p,x1,x2,x3,rfl,hp,r1,r2,r3⟩:=de.mp (show Rep (cG H l) (.tup _) dv from rd);rw[aI] at r1 r2;rw[bg] at r3;subst r1 r2 r3;nofun;have hp:=cX _ _ hp;have sl:=fz (cs:=g.cs) gd;subst_vars;refine cW (λσ' H'=>H=H'/\σ'=[~~~c,~~~l,~~~p,v⁻¹,some (.int ((bF g.cs n:Nat):Int)),none]) (λN hN=>by dsimp?[du,hp];exact⟨_,_,_,h1,T.aP,T.na_Course_spots,_,je,_,rfl,_,gX h2 gd,hN _ _ ⟨rfl,rfl⟩⟩) ?_;rintro _ _ ⟨rfl,rfl⟩;refine bL (λY N k=>by dsimp?[hp];first | exact k | (rw[if_neg (by ac_rfl)];exact k)) (cH (λY N k=>by dsimp?[hp];first | exact k | (rw[if_pos (by ac_rfl)];exact k)) ?_);dsimp?[du,cg,uQ,hp];exact⟨_,_,h1,lp,_,hl,_,eQ ⋯,_,rfl,_,rfl,_,co,_,hl,sl,ln,kk⟩
  | face n=>
   symm;obtain⟨p,x1,x2,rfl,hp,r1,r2⟩:=bu.mp (show Rep (cG H l) (.tup _) dv from rd);rw[aI] at r1 r2;subst r1 r2;nofun;have hp:=cX _ _ hp;have sl:=fz (cs:=g.cs) gd;subst_vars;refine cW (λσ' H'=>H=H'/\σ'=[~~~c,~~~l,~~~p,v⁻¹,some (.int ((bF g.cs n:Nat):Int)),none]) (λN hN=>by dsimp?[du,hp];exact⟨_,_,_,h1,T.aP,T.na_Course_spots,_,je,_,rfl,_,gX h2 gd,hN _ _ ⟨rfl,rfl⟩⟩) ?_;rintro _ _ ⟨rfl,rfl⟩;refine bL (λY N k=>by dsimp?[hp];first | exact k | (rw[if_neg (by ac_rfl)];exact k)) (bL (λY N k=>by dsimp?[hp];first | exact k | (rw[if_neg (by ac_rfl)];exact k)) (cH (λY N k=>by dsimp?[hp];first | exact k | (rw[if_pos (by ac_rfl)];exact k)) ?_));dsimp?[du,cg,uQ,hp];exact⟨_,_,h1,lp,_,hl,_,eQ ⋯,_,rfl,_,rfl,_,co,_,hl,sl,ln,kk⟩
  | move n m=>
   symm;obtain⟨p,x1,x2,x3,rfl,hp,r1,r2,r3⟩:=de.mp (show Rep (cG H l) (.tup _) dv from rd);rw[aI] at r1 r2 r3;subst r1 r2 r3;nofun;have hp:=cX _ _ hp;have sl:=fz (cs:=g.cs) gd.1;have HC:=fz (cs:=g.cs) gd.2;subst_vars;refine cW (λσ' H'=>H=H'/\σ'=[~~~c,~~~l,~~~p,v⁻¹,some (.int ((bF g.cs n:Nat):Int)),none]) (λN hN=>by dsimp?[du,hp];exact⟨_,_,_,h1,T.aP,T.na_Course_spots,_,je,_,rfl,_,gX h2 gd.1,hN _ _ ⟨rfl,rfl⟩⟩) ?_;rintro _ _ ⟨rfl,rfl⟩;refine bL (λY N k=>by dsimp?[hp];first | exact k | (rw[if_neg (by ac_rfl)];exact k)) (bL (λY N k=>by dsimp?[hp];first | exact k | (rw[if_neg (by ac_rfl)];exact k)) (bL (λY N k=>by dsimp?[hp];first | exact k | (rw[if_neg (by ac_rfl)];exact k)) ?_));dsimp?[du,cg,uQ,hp];refine⟨_,_,_,h1,T.aP,T.na_Course_spots,_,je,_,rfl,_,gX h2 gd.2,_,_,h1,lp,_,rfl,_,hl,_,eQ ⋯,_,hl,_,eQ ⋯,_,rfl,_,rfl,_,rfl,_,co,_,hl,HC,ln,_,ao,_,yr (by rw[aad,iB];lia),?_⟩;rw[xw,<-List.map_set];exact kk
theorem hJ:aS ["self","name","counts","what"] ["self","name","counts"] (aq (inClass (top 35) 3)):=.mk
theorem BO (T:0|||0):dG P w K mg base (cV P w) 1 ah "asked" ["self","name","counts"] (BE ah):=by
 refine T.nz.dF (λ_ _ _ _ _ _=>sE λ_ _ _=>rfl) λf fd F=>F.dZ hJ (λvs H Q E h=>?_) (λbY A outer s H vs Q E hr h=>?_)
 ·obtain⟨_,_,_,rfl,_⟩:=FG h;rfl
 ·symm;obtain⟨c,nm,l,rfl,g,co,gg,ns,hl,ln,fu,fh,ak,kk⟩:=FG h;nofun;clear G_;have nd:=hJ.nd;refine⟨_,(ag (aG (i:=3) (cF (cD hr) (bp (pv 0) rfl) (pv 1) (λ_ _=>rfl)))
  (ag (jY PassesOwn.never (aL bo (ar ai (pv 3) ae) aZ (aQ _)) (ag (aG (i:=1) (jX (aL xD (ar aX (pv 2) (cF (cD hr) (bp (pv 0) rfl) (ar ai (pv 3) ae) (λ_ _=>rfl))) (ar ai (pv 3) ae) (aQ _)) (ar ai (pv 3) ae) (ar ai (pv 3) ae)))
  (aj (aG (i:=3) (cF (cD hr) (bp (pv 0) rfl) (pv 1) (λ_ _=>rfl))))))
  (aj (aR (a6 (aa (pv 1) (aa (pv 2) af))))))),?_⟩
  refine(?_:let bQ:TS:=_;let bR:TS:=_;let bS:TS:=_;tSeq bQ (tSeq bR bS) _ _ _);intro bQ bR bS;symm;obtain⟨dx,sp,mo,wh,tb,us,ft,h1,h2,h3,h4,h5,h6⟩:=id co;nofun;clear G_;dsimp?[du];cases fu with
  | zero=>cases ak
  | succ fu=>
   rcases h5.val (n:=nm) with ⟨x,u,lk,vl,rx⟩ | ⟨lk,vl⟩
   ·refine⟨_,_,_,h1,T.aP,T.na_Course_whats,_,yq,_,rfl,_,.inl ⟨_,Sum.inr nm,.inl h4,rfl,vl.symm⟩,?_⟩;refine yt (λm σ H'=>H=H'/\∃nm x u,dO g ns (m+1) nm=some fh/\look g.ps nm=some x/\Rep H (jd x) u/\σ=[some (V.ref c),some (V.str nm),some (V.ref l),some u]) (m:=fu) ⟨rfl,nm,x,u,ak,lk,rx,rfl⟩ ?_;clear ak lk rx vl;intro m σ H' BP;symm;obtain⟨rfl,nm,x,u,ak,lk,rx,rfl⟩:=BP;nofun;have gx:=gg.wt _ (c7 lk);rw[dO,lk] at ak;have fin:∀{p:Addr} {xs:List V} {y:Str},u=.ref p->H p=some (.tup (.str y::xs))->y≠aac "ask"->nm=fh->∃b:Bool,(∀Q:Bool->Hp->Prop,Q b H->tTest (tOp rEq (tOp rIxTH (tVar 3) (tC (V.int 0))) (tC (V.str "ask"))) [some (V.ref c),some (V.str nm),some (V.ref l),some u] H Q)/\b=false:=by
     intro p xs y e hp ny _;refine⟨false,λQ q=>?_,rfl⟩;subst e;dsimp?[hp];rw[decide_eq_false ny];exact q
    cases x with
    | ask c' k a b=>
     symm;obtain⟨p,x1,x2,x3,x4,x5,rfl,hp,r1,r2,r3,r4,r5⟩:=sN.mp (show Rep H (.tup _) u from rx);rw[aI] at r1 r2 r4 r5;rw[bg] at r3;subst r1 r2 r3 r4 r5;nofun;refine⟨true,λQ q=>?_,?_⟩
     ·dsimp?[hp];rw[decide_eq_true trivial];exact q
     ·rw[if_pos rfl];have hs:=fz (cs:=g.cs) gx;have step:∀y,dO g ns m y=some fh->∃m' x u,m'<m/\dO g ns (m'+1) y=some fh/\look g.ps y=some x/\Rep H (jd x) u/\iY H wh (.str y) (some u):=by
       intro y hy;cases m with
       | zero=>cases hy
       | succ m'=>
        rcases h5.val (n:=y) with ⟨x,u,jn,vl,Yx⟩ | ⟨jn,vl⟩
        ·exact⟨m',x,u,aaZ _,hy,jn,Yx,.inl ⟨_,Sum.inr y,.inl h4,rfl,vl.symm⟩⟩
        ·rw[dO,jn] at hy;cases hy
      have ak:(if k<=ns.getD (bF g.cs c') 0 then dO g ns m a else dO g ns m b)=some fh:=ak;dsimp?[du,hp];refine⟨_,_,_,h1,T.aP,T.na_Course_spots,_,je,_,rfl,_,gX h2 gx,_,rfl,_,hl,_,eQ ⋯,_,rfl,iw (λc1=>?_) (λc1=>?_)⟩
      ·rw[if_pos c1] at ak;symm;obtain⟨m',x,u,l1,l2,l3,l4,l5⟩:=step a ak;nofun;refine⟨_,rfl,_,_,_,h1,T.aP,T.na_Course_whats,_,yq,_,rfl,_,l5,?_⟩;exact⟨m',l1,a,l2,x,l3,u,l4,rfl,rfl⟩
      ·rw[if_neg c1] at ak;symm;obtain⟨m',x,u,l1,l2,l3,l4,l5⟩:=step b ak;nofun;refine⟨_,rfl,_,_,_,h1,T.aP,T.na_Course_whats,_,yq,_,rfl,_,l5,?_⟩;exact⟨m',l1,b,l2,x,l3,u,l4,rfl,rfl⟩
    | fin t b=>
     symm;obtain⟨p,x1,x2,rfl,hp,r1,r2⟩:=bu.mp (show Rep H (.tup _) u from rx);rw[aI] at r1;subst r1;have e:nm=fh:=by injection ak
     obtain⟨b',k1,rfl⟩:=fin rfl hp ∅ e;nofun;refine⟨false,k1,?_⟩;rw[if_neg ∅];dsimp?[];exact⟨∅,λp H2 s2 np e2=>kk p H2 s2 np (by rw[<-e];exact e2)⟩
    | score c'=>
     symm;obtain⟨p,x1,x2,rfl,hp,r1,r2⟩:=bu.mp (show Rep H (.tup _) u from rx);rw[aI] at r1;subst r1;have e:nm=fh:=by injection ak
     obtain⟨b',k1,rfl⟩:=fin rfl hp ∅ e;nofun;refine⟨false,k1,?_⟩;rw[if_neg ∅];dsimp?[];exact⟨∅,λp H2 s2 np e2=>kk p H2 s2 np (by rw[<-e];exact e2)⟩
    | pick w' rs=>
     symm;obtain⟨p,x1,x2,x3,rfl,hp,r1,r2,r3⟩:=de.mp (show Rep H (.tup _) u from rx);rw[aI] at r1;subst r1;have e:nm=fh:=by injection ak
     obtain⟨b',k1,rfl⟩:=fin rfl hp ∅ e;nofun;refine⟨false,k1,?_⟩;rw[if_neg ∅];dsimp?[];exact⟨∅,λp H2 s2 np e2=>kk p H2 s2 np (by rw[<-e];exact e2)⟩
    | dM cY t b rs=>
     symm;obtain⟨p,x1,x2,x3,x4,rfl,hp,r1,r2,r3,r4⟩:=cS.mp (show Rep H (.tup _) u from rx);rw[aI] at r1;subst r1;have e:nm=fh:=by injection ak
     obtain⟨b',k1,rfl⟩:=fin rfl hp ∅ e;nofun;refine⟨false,k1,?_⟩;rw[if_neg ∅];dsimp?[];exact⟨∅,λp H2 s2 np e2=>kk p H2 s2 np (by rw[<-e];exact e2)⟩
   ·rw[dO,lk] at ak;cases ak
theorem hU:aS ["self","when","counts","number"] ["self","when","counts"] (aq (inClass (top 35) 9)):=.mk
theorem Ir (T:0|||0):dG P w K mg base (cV P w) 1 ah "holds" ["self","when","counts"] (FQ ah):=by
 refine T.nA.dF (λ_ _ _ _ _ _=>sE λ_ _ _=>rfl) λf fd F=>F.dZ hU (λvs H Q E h=>?_) (λbY A outer s H vs Q E hr h=>?_)
 ·obtain⟨_,_,_,rfl,_⟩:=FI h;rfl
 ·symm;obtain⟨c,v,l,rfl,g,co,ns,Yy,rv,hl,ln,kk⟩:=FI h;nofun;have nd:=hU.nd;refine⟨_,(ag (bc (aL Ay (pv 1) vy (aQ _)) (aj (aR ik))
   aW)
  (ag (bc (As (qE (cD hr) (ar ai (pv 1) ae) (bp (pv 0) rfl))) (aj (aR ik))
   aW)
  (ag (aG (i:=3) (ar aX (pv 2) (cF (cD hr) (bp (pv 0) rfl) (ar ai (pv 1) ae) (λ_ _=>rfl))))
  (aj (aR (jX (aL bo (ar ai (pv 1) ae) aZ (aQ _)) (fo xD (pv 3) (ar ai (pv 1) ae) (aQ _)) (fo t5 (pv 3) (ar ai (pv 1) ae) (aQ _)))))))),?_⟩
  refine(?_:let bQ:TS:=_;let bR:TS:=_;let bS:TS:=_;let df:TS:=_;tSeq bQ (tSeq bR (tSeq bS df)) _ _ _);intro bQ bR bS df;symm;obtain⟨dx,sp,mo,wh,tb,us,ft,h1,h2,h3,h4,h5,h6⟩:=id co;nofun;cases Yy with
  | none=>
   have e:v=.cU:=by rw[FO,Rep] at rv;exact rv
   subst e;dsimp?[];exact kk
  | some x=>
   symm;obtain⟨a,b,k⟩:=x;obtain⟨p,x1,x2,x3,rfl,hp,r1,r2,r3⟩:=de.mp (show Rep H (.tup _) v from rv);rw[aI] at r1 r2;rw[bg] at r3;subst r1 r2 r3;nofun;dsimp?[du,hp];rw[if_neg (by intro z;cases z)]
   by_cases hn:a∈g.cs.map (·.1)
   ·have hs:=fz hn;refine⟨_,_,_,h1,T.aP,T.na_Course_spots,_,je,_,rfl,_,gX h2 hn,?_⟩;rw[if_neg (by simp)];refine⟨_,_,_,h1,T.aP,T.na_Course_spots,_,je,_,rfl,_,gX h2 hn,_,rfl,_,hl,_,eQ ⋯,?_⟩;have kk:Q (.bl (if a∈g.cs.map (·.1) then (if b=aac "from" then decide (k<=ns.getD (bF g.cs a) 0) else decide (ns.getD (bF g.cs a) 0<k)) else false)) H:=kk;rw[if_pos hn] at kk
    by_cases c1:b=aac "from"
    ·rw[if_pos c1] at kk ⊢;exact⟨_,rfl,kk⟩
    ·rw[if_neg c1] at kk ⊢;exact⟨_,rfl,kk⟩
   ·refine⟨_,_,_,h1,T.aP,T.na_Course_spots,_,je,_,rfl,_,.inl ⟨_,Sum.inr a,.inl h2,rfl,rfl⟩,?_⟩;rw[o4 hn,if_pos (by rfl)];have kk:Q (.bl (if a∈g.cs.map (·.1) then (if b=aac "from" then decide (k<=ns.getD (bF g.cs a) 0) else decide (ns.getD (bF g.cs a) 0<k)) else false)) H:=kk;rw[if_neg hn] at kk;exact kk
theorem hV:aS ["self"] ["self"] (aq (inClass (top 35) 4)):=.mk
theorem Iu (T:0|||0):dG P w K mg base (cV P w) 2 ah "start" ["self"] (FP ah):=by
 have fR:=BO T;refine T.nB.dF (λ_ _ _ _ _ _=>gA λ_=>rfl) λf fd F=>F.dZ hV (λvs H Q E h=>?_) (λbY A outer s H vs Q E hr h=>?_)
 ·obtain⟨_,rfl,_⟩:=mK h;rfl
 ·symm;obtain⟨c,rfl,g,co,gg,fu,ft,hf,fh,ak,kk⟩:=mK h;nofun;have nd:=hV.nd;refine⟨_,(aj (aR (c8 fR T.aP (pv 0) (aa (bp (pv 0) rfl) (aa (aD vX (bT (aa ae af)) (aU bK (by rfl) T.z_len aav (aa (bp (pv 0) rfl) af))) af))))),?_⟩;have sl:=sizeLine_eq;have lc:=gg.lc;symm;obtain⟨dx,sp,mo,wh,tb,us,Ak,h1,h2,h3,h4,h5,h6⟩:=id co;nofun;rw[h6] at hf;cases hf;have lp:∀{a b c d e:V},List.lookup (aac "asked") [(aac "spots",a),(aac "mosts",b),(aac "first",c),(aac "whats",d),(aac "tables",e)]=none:=dP (by ac_rfl) (by ac_rfl) (by ac_rfl) (by ac_rfl) (by ac_rfl);dsimp?[du,cg,BE,Dz];refine⟨_,_,h1,lp,_,_,_,h1,T.aP,T.na_Course_first,_,L3,by decide,λp np=>?_⟩;have PY:=au (o:=.lst [V.int 0]) np;refine⟨_,_,_,PY _ _ h1,T.aP,T.na_Course_mosts,_,FR,_,rfl,_,PY _ _ h3,_,ao,by simp only[aad];lia,by simp only[aad];lia,by simp only[aad,aap,aa0];lia,λl nl=>?_⟩;have el:(abn (((List.map V.int (List.map (λx=>x.snd) g.cs)).length:Nat):Int).toNat [V.int 0]).flatten=List.map V.int (abn g.cs.length 0):=by rw[BG,aal,aad,aad]
  rw[el];have KU:=PY.trans (au (o:=.lst (List.map V.int (abn g.cs.length 0))) nl);exact⟨_,rfl,g,co.mono KU,gg,_,ao,by simp,fu,fh,ak,λa H' s' na e'=>kk a l H' (KU.trans s') (none_of KU na) (none_of PY nl) e' (s' _ _ ao)⟩
theorem gh:aS ["self","state"] ["self","state"] (aq (inClass (top 35) 5)):=.mk
theorem jL (T:0|||0):dG P w K mg base (cV P w) 1 ah "what_at" ["self","state"] (ky ah):=by
 refine T.kj.dF (λ_ _ _ _ _ _=>d4 λ_ _=>rfl) λf fd F=>F.dZ gh (λvs H Q E h=>?_) (λbY A outer s H vs Q E hr h=>?_)
 ·obtain⟨_,_,rfl,_⟩:=kh h;rfl
 ·symm;obtain⟨c,v,rfl,H0,s0,g,co,nm,ns,⟨a,l,rfl,ha,hl⟩,x,lk,kk⟩:=kh h;nofun;have nd:=gh.nd;refine⟨_,(aj (aR (cF (cD hr) (bp (pv 0) rfl) (ar ai (pv 1) ae) (λ_ _=>rfl)))),?_⟩;symm;obtain⟨dx,sp,mo,wh,tb,us,Ak,h1,h2,h3,h4,h5,h6⟩:=id co;nofun;dsimp?[du,ha];rcases h5.val (n:=nm) with ⟨x',u,jn,vl,rx⟩ | ⟨jn,vl⟩
  ·rw[lk] at jn;cases jn;exact⟨_,_,_,s0 _ _ h1,T.aP,T.na_Course_whats,_,yq,_,rfl,_,.inl ⟨_,Sum.inr nm,.inl (s0 _ _ h4),rfl,vl.symm⟩,kk u rx⟩
  ·rw[lk] at jn;cases jn
theorem gD:aS ["self","state","row","value","counts","deed"] ["self","state","row","value"] (aq (inClass (top 35) 6)):=.mk
theorem BQ (T:0|||0):dG P w K mg base (cV P w) 3 ah "by_row" ["self","state","row","value"] (BF ah):=by
 have uZ:=Ms T;have fR:=BO T;refine T.lY.dF (λ_ _ _ _ _ _=>sF λ_ _ _ _=>rfl) λf fd F=>F.dZ gD (λvs H Q E h=>?_) (λbY A outer s H vs Q E hr h=>?_)
 ·obtain⟨_,_,_,_,rfl,_⟩:=Bv h;rfl
 ·symm;obtain⟨c,sv,rv,v,rfl,g,co,gg,nm,ns,⟨sa,l,rfl,gS,hl⟩,a,b,ds,to,rr,gd,ld,ln,fu,fh,ak,kk⟩:=Bv h;nofun;have nd:=gD.nd;refine⟨_,(ag (aG (i:=4) (dD (dt (K:=K)) (by rfl) T.z_list rfl (aa (ar ai (pv 1) ae) af)))
  (ag (ck PassesOwn.never rfl (bh (K:=K) (ar ai (pv 2) ae)) (aV (i:=5) nd rfl (.inl rfl)) (aj (bw (c8 uZ T.aP (pv 0) (aa (pv 4) (aa (pv 5) (aa (pv 3) af)))))))
  (aj (aR (c8 fR T.aP (pv 0) (aa (ar ai (pv 2) ae) (aa (pv 4) af))))))),?_⟩
  refine(?_:let bQ:TS:=_;let bR:TS:=_;let bS:TS:=_;tSeq bQ (tSeq bR bS) _ _ _);intro bQ bR bS;have sl:=sizeLine_eq;have lc:=gg.lc;symm;obtain⟨dx,sp,mo,wh,tb,us,Ak,h1,h2,h3,h4,h5,h6⟩:=id co;obtain⟨rp,x1,x2,x3,x4,rfl,PZ,r1,r2,r3,r4⟩:=cS.mp (show Rep H (.tup _) rv from rr);rw[aI] at r4;subst r4;obtain⟨dl,ic,rfl,Ep,zO⟩:=aY.mp r3;nofun;have lp:∀{a b c d e:V},List.lookup (aac "asked") [(aac "spots",a),(aac "mosts",b),(aac "first",c),(aac "whats",d),(aac "tables",e)]=none:=dP (by ac_rfl) (by ac_rfl) (by ac_rfl) (by ac_rfl) (by ac_rfl);have zP:∀{a b c d e:V},List.lookup (aac "do") [(aac "spots",a),(aac "mosts",b),(aac "first",c),(aac "whats",d),(aac "tables",e)]=none:=dP (by ac_rfl) (by ac_rfl) (by ac_rfl) (by ac_rfl) (by ac_rfl);refine aN (λN=>∀H1 m,H m=none->aw H H1->cG H1 m=H->H1 m=some (.lst (List.map V.int ns))->N [~~~c,~~~sa,~~~rp,v⁻¹,~~~m,none] H1) (λN hN=>?_) ?_
  ·dsimp?[gS];exact⟨_,.inl (bC.of hl),λm nm=>hN _ m nm (au nm) (by rw[o7,uR nm]) ao⟩
  rintro H1 m PV s1 hh hm;have Er:=zO.length;rw[aad] at Er;refine aN (λN=>∀H2,cG H2 m=H->H2 m=some (.lst (List.map V.int (ds.foldl (ie g.cs v) ns)))->∀z,N [~~~c,~~~sa,~~~rp,v⁻¹,~~~m,z] H2) (λN hN=>?_) ?_
  ·dsimp?[s1 _ _ PZ];refine⟨⟨_,bC.of (s1 _ _ Ep)⟩,bJ (src_list (Ok:=λH'=>cG H' m=H) (λH' e=>bC.of (o8 e _ _ Ep))) (λi σ H'=>cG H' m=H/\H' m=some (.lst (List.map V.int ((ds.take i).foldl (ie g.cs v) ns)))/\∃z,σ=[~~~c,~~~sa,~~~rp,v⁻¹,~~~m,z]) ⟨hh,by rw[List.take_zero];exact hm,_,rfl⟩ (λ_ _ _ _ h=>h.1) ?_ ?_⟩
   ·intro i x σ H3 H2 hi eV eX;symm;obtain⟨e2,qL,z,rfl⟩:=eV;obtain⟨rfl,ex⟩:=eX;obtain⟨dd,ed,rd⟩:=zO.get ex;rw[aaf] at ed;obtain⟨d,e0,rfl⟩:=abg.mp ed;nofun;have s2:=o8 e2;dsimp?[cg,LZ];refine⟨_,_,s2 _ _ h1,zP,g,by rw[e2];exact co,_,qL,d,by rw[e2];exact rd,gd d (aan e0),by rw[c9];exact ln,by rw[o7];exact e2,?_,_,rfl⟩;rw[ao,aaF,e0,Option.toList_some,List.foldl_append];rfl
   ·intro σ H2 dg;symm;obtain⟨e2,qL,z,rfl⟩:=dg;nofun;rw[<-Er,aau (aag _)] at qL;exact hN _ e2 qL _
  rintro H2 e2 qL z;have s2:=o8 e2;have Yz:(ds.foldl (ie g.cs v) ns).length=g.cs.length:=by rw[c9];exact ln
  dsimp?[cg,BE,s2 _ _ PZ];exact⟨_,_,s2 _ _ h1,lp,_,rfl,_,rfl,g,co.mono s2,gg,_,qL,Yz,fu,fh,ak,λa H' s' na e'=>kk a m H' (s2.trans s') (none_of s2 na) PV e' (s' _ _ qL)⟩
theorem fk:aS ["self","state","what"] ["self","state"] (aq (inClass (top 35) 10)):=.mk
theorem BR (T:0|||0):dG P w K mg base (cV P w) 2 ah "open_rows" ["self","state"] (BH ah):=by
 have bj:=jL T;have pf:=Ir T;refine T.i5.dF (λ_ _ _ _ _ _=>d4 λ_ _=>rfl) λf fd F=>F.dZ fk (λvs H Q E h=>?_) (λbY A outer s H vs Q E hr h=>?_)
 ·obtain⟨_,_,rfl,_⟩:=kh h;rfl
 ·symm;obtain⟨c,v,rfl,H0,s0,g,V8,gg,nm,ns,st,ln,x,lk,kk⟩:=kh h;nofun;have co:=V8.mono s0;have nd:=fk.nd;refine⟨_,(ag (aG (i:=2) (c8 bj T.aP (pv 0) (aa (pv 1) af)))
  (ag (bc (aL mC (ar ai (pv 2) ae) aZ (aQ _)) (aj (aR (bT af)))
   aW)
  (aj (aR (cj rfl (N:=["self","state","what"]) (so:=aq (inClass (top 35) 10)) (N':=["row","self","state"]) (k:=1) (fr:=[0,1]) rfl rfl ⟨rfl,∅,∅,∅,rfl,∅,∅⟩ (bh (K:=K) (ar ai (pv 2) ae)) (λ_ _ _ _ _=>(aV (i:=0) (show(["row","self","state"]:List Str).Nodup by ac_rfl) rfl (.inl rfl))) (λ_ _ _ _ _=>(eA (gM (c8 pf T.aP (pv 1) (aa (ar ai (pv 0) ae) (aa (ar ai (pv 2) ae) af))))))
   (λ_ _ _ _ _=>(pv 0))))))),?_⟩
  refine(?_:let bQ:TS:=_;let bR:TS:=_;let bS:TS:=_;tSeq bQ (tSeq bR bS) _ _ _);intro bQ bR bS;have sl:=sizeLine_eq;symm;obtain⟨dx,sp,mo,wh,tb,us,Ak,h1,h2,h3,h4,h5,h6⟩:=id co;obtain⟨sa,l,rfl,gS,hl⟩:=id st;nofun;have lp:∀{a b c d e:V},List.lookup (aac "what_at") [(aac "spots",a),(aac "mosts",b),(aac "first",c),(aac "whats",d),(aac "tables",e)]=none:=dP (by ac_rfl) (by ac_rfl) (by ac_rfl) (by ac_rfl) (by ac_rfl);have zP:∀{a b c d e:V},List.lookup (aac "holds") [(aac "spots",a),(aac "mosts",b),(aac "first",c),(aac "whats",d),(aac "tables",e)]=none:=dP (by ac_rfl) (by ac_rfl) (by ac_rfl) (by ac_rfl) (by ac_rfl);have gx:=gg.wt _ (c7 lk);refine aN (λN=>∀u,Rep H0 (jd x) u->N [~~~c,~~~sa,some u] H) (λN hN=>?_) ?_
  ·dsimp?[cg,ky];exact⟨_,_,h1,lp,H0,s0,g,V8,nm,ns,st,x,lk,λu ru=>hN u ru⟩
  rintro u ru;cases x with
  | pick w' rs=>
   symm;obtain⟨p,x1,x2,x3,rfl,hp,r1,r2,r3⟩:=de.mp (show Rep H0 (.tup _) u from ru);rw[aI] at r1;subst r1;obtain⟨rl,xs,rfl,mi,yx⟩:=aY.mp r3;have len:=yx.length;rw[aad,aad] at len;obtain⟨g1,g2⟩:=gx;nofun;have zl:(xs.zip rs).length=xs.length:=by rw[List.length_zip];lia
   dsimp?[s0 _ _ hp];refine⟨⟨_,bC.of (s0 _ _ mi)⟩,?_⟩;have S:Src (vj K rl) (aw H) xs.length _:=src_list (λH' s'=>bC.of (s' _ _ (s0 _ _ mi)));rw[<-zl] at S;refine eJ (xs.zip rs) (λx=>if iC g.cs ns x.2.wh=true then some x.1 else none) S (λ_ _ _ _ h=>h.1) ⋯ ?_ ?_
   ·rintro i ⟨x,r⟩ y Mt ⟨_,ey⟩ Y N y1 y2;obtain⟨e1,e2⟩:=List.getElem?_zip_eq_some.mp Mt;rw[e1] at ey;cases ey;symm;obtain⟨r',p',a',b',c',d',er,rfl,pQ,rb,_⟩:=kz yx e1;nofun;rw[e2] at er;cases er;dsimp?[cg,FQ,s0 _ _ pQ,gS];exact⟨_,_,h1,zP,g,co,ns,_,rb.mono s0,hl,ln,iw (λc=>y1 _ (if_pos c)) (λc=>y2 (if_neg c))⟩
   ·intro D n1 n2;exact kk D _ _ (au n2) n2 ao (gY yx)
  | ask _ _ _ _=>
   symm;obtain⟨p,x1,x2,x3,x4,x5,rfl,hp,r1,r2,r3,r4,r5⟩:=sN.mp (show Rep H0 (.tup _) u from ru);rw[aI] at r1;subst r1;nofun;dsimp?[s0 _ _ hp];rw[if_pos ∅];exact⟨aah _,λD nD=>kk D _ _ (au nD) nD ao (bD.mpr rfl)⟩
  | fin _ _=>
   symm;obtain⟨p,x1,x2,rfl,hp,r1,r2⟩:=bu.mp (show Rep H0 (.tup _) u from ru);rw[aI] at r1;subst r1;nofun;dsimp?[s0 _ _ hp];rw[if_pos ∅];exact⟨aah _,λD nD=>kk D _ _ (au nD) nD ao (bD.mpr rfl)⟩
  | score _=>
   symm;obtain⟨p,x1,x2,rfl,hp,r1,r2⟩:=bu.mp (show Rep H0 (.tup _) u from ru);rw[aI] at r1;subst r1;nofun;dsimp?[s0 _ _ hp];rw[if_pos ∅];exact⟨aah _,λD nD=>kk D _ _ (au nD) nD ao (bD.mpr rfl)⟩
  | dM _ _ _ _=>
   symm;obtain⟨p,x1,x2,x3,x4,rfl,hp,r1,r2,r3,r4⟩:=cS.mp (show Rep H0 (.tup _) u from ru);rw[aI] at r1;subst r1;nofun;dsimp?[s0 _ _ hp];rw[if_pos ∅];exact⟨aah _,λD nD=>kk D _ _ (au nD) nD ao (bD.mpr rfl)⟩
theorem fS:aS ["self","state"] ["self","state"] (aq (inClass (top 35) 11)):=.mk
theorem Iw (T:0|||0):dG P w K mg base (cV P w) 3 ah "words_at" ["self","state"] (FT ah):=by
 have dW:=BR T;refine T.jI.dF (λ_ _ _ _ _ _=>d4 λ_ _=>rfl) λf fd F=>F.dZ fS (λvs H Q E h=>?_) (λbY A outer s H vs Q E hr h=>?_)
 ·obtain⟨_,_,rfl,_⟩:=kh h;rfl
 ·symm;obtain⟨c,v,rfl,g,co,gg,nm,ns,st,ln,x,lk,kk⟩:=kh h;nofun;clear G_;have nd:=fS.nd;refine⟨_,(aj (aR (cj rfl (N:=["self","state"]) (so:=aq (inClass (top 35) 11)) (N':=["row"]) (k:=1) (fr:=[]) rfl rfl ⟨rfl,∅,∅,∅,rfl,∅,∅⟩ (bh (K:=K) (c8 dW T.aP (pv 0) (aa (pv 1) af))) (λ_ _ _ _ _=>(aV (i:=0) (show(["row"]:List Str).Nodup by ac_rfl) rfl (.inl rfl))) (λ_ _ _ _ _=>dk)
   (λ_ _ _ _ _=>(ar ai (pv 0) ae))))),?_⟩
  have sl:=sizeLine_eq;symm;obtain⟨dx,sp,mo,wh,tb,us,Ak,h1,h2,h3,h4,h5,h6⟩:=id co;nofun;clear G_;have lp:∀{a b c d e:V},List.lookup (aac "open_rows") [(aac "spots",a),(aac "mosts",b),(aac "first",c),(aac "whats",d),(aac "tables",e)]=none:=dP (by ac_rfl) (by ac_rfl) (by ac_rfl) (by ac_rfl) (by ac_rfl);have gx:=gg.wt _ (c7 lk);have J0:(eC g.cs ns x).length<=100:=by
   cases x with
   | pick w' rs=>exact aao (List.length_filter_le _ _) gx.1
   | _=>exact aah _
  dsimp?[cg,BH];refine⟨_,_,h1,lp,H,aw.refl _,g,co,gg,nm,ns,st,ln,x,lk,λrl xs H1 s1 n1 mi R7=>?_⟩;generalize eC g.cs ns x=rs at *;have yx:=R7.mono s1;have len:=yx.length;rw[aad,aad] at len;have zl:(xs.zip rs).length=xs.length:=by rw[List.length_zip];lia
  refine⟨⟨_,bC.of mi⟩,?_⟩;have S:Src (vj K rl) (aw H1) xs.length _:=src_list (λH' s'=>bC.of (s' _ _ mi));rw[<-zl] at S;refine eJ (xs.zip rs) (λx=>some (.str x.2.word)) S (λ_ _ _ _ h=>h.1) ⋯ ?_ ?_
  ·rintro i ⟨x,r⟩ y Mt ⟨_,ey⟩ Y N y1 y2;obtain⟨e1,e2⟩:=List.getElem?_zip_eq_some.mp Mt;rw[e1] at ey;cases ey;symm;obtain⟨r',p',a',b',c',d',er,rfl,pQ,rb,_⟩:=kz yx e1;nofun;rw[e2] at er;cases er;dsimp?[pP,pQ];exact y1 _ rfl
  ·intro D R8 n2;have e:(xs.zip rs).filterMap (λx=>some (V.str x.2.word))=rs.map λr=>V.str r.word:=by
    rw[DU];have:(xs.zip rs).map (λx=>V.str x.2.word)=((xs.zip rs).map Prod.snd).map λr=>V.str r.word:=by rw[aaM];rfl
    rw[this,List.map_snd_zip ⋯]
   rw[e];exact kk D _ (s1.trans (au n2)) (none_of s1 n2) (aY.mpr ⟨D,_,rfl,ao,(qQ yx).mono (au n2)⟩)
theorem fm:aS ["self","state","what"] ["self","state"] (aq (inClass (top 35) 12)):=.mk
theorem Iy (T:0|||0):dG P w K mg base (cV P w) 2 ah "end_worth" ["self","state"] (FV ah):=by
 have bj:=jL T;refine T.i4.dF (λ_ _ _ _ _ _=>d4 λ_ _=>rfl) λf fd F=>F.dZ fm (λvs H Q E h=>?_) (λbY A outer s H vs Q E hr h=>?_)
 ·obtain⟨_,_,rfl,_⟩:=kh h;rfl
 ·symm;obtain⟨c,v,rfl,g,co,gg,nm,ns,st,ln,x,lk,t,b,ew,kk⟩:=kh h;nofun;have nd:=fm.nd;refine⟨_,(ag (aG (i:=2) (c8 bj T.aP (pv 0) (aa (pv 1) af)))
  (aj (aR (jX (aL bo (ar ai (pv 2) ae) aZ (aQ _)) (ar ai (pv 2) ae) (a6 (aa (ar aX (ar ai (pv 1) ae) (cF (cD hr) (bp (pv 0) rfl) (ar ai (pv 2) ae) (λ_ _=>rfl))) (aa ae af))))))),?_⟩
  have sl:=sizeLine_eq;symm;obtain⟨dx,sp,mo,wh,tb,us,Ak,h1,h2,h3,h4,h5,h6⟩:=id co;obtain⟨sa,l,rfl,gS,hl⟩:=id st;nofun;have lp:∀{a b c d e:V},List.lookup (aac "what_at") [(aac "spots",a),(aac "mosts",b),(aac "first",c),(aac "whats",d),(aac "tables",e)]=none:=dP (by ac_rfl) (by ac_rfl) (by ac_rfl) (by ac_rfl) (by ac_rfl);have gx:=gg.wt _ (c7 lk);refine aN (λN=>∀u,Rep H (jd x) u->N [~~~c,~~~sa,some u] H) (λN hN=>?_) ?_
  ·dsimp?[cg,ky];exact⟨_,_,h1,lp,H,aw.refl _,g,co,nm,ns,st,x,lk,λu ru=>hN u ru⟩
  rintro u ru;cases x with
  | fin t' b'=>
   symm;obtain⟨p,x1,x2,rfl,hp,r1,r2⟩:=bu.mp (show Rep H (.tup _) u from ru);rw[aI] at r1;subst r1;nofun;cases ew;dsimp?[du,hp];exact kk _ _ (aw.refl _) r2
  | score c'=>
   symm;obtain⟨p,x1,x2,rfl,hp,r1,r2⟩:=bu.mp (show Rep H (.tup _) u from ru);rw[aI] at r1 r2;subst r1 r2;nofun;cases ew;have hs:=fz (cs:=g.cs) gx;dsimp?[du,hp,gS];rw[if_neg ∅];refine⟨_,_,_,h1,T.aP,T.na_Course_spots,_,je,_,rfl,_,gX h2 gx,_,rfl,_,hl,_,eQ ⋯,∅,λp' H2 s2 np e2=>kk _ _ s2 (bu.mpr ⟨p',_,_,rfl,e2,bg.mpr rfl,bg.mpr rfl⟩)⟩
  | ask _ _ _ _=>cases ew
  | pick _ _=>cases ew
  | dM _ _ _ _=>cases ew
theorem F5 {H X H' fG:Hp} (k:Kp H' fG):Kp (nw H X H') (nw H X fG):=λa=>by
 cases c:H a with
 | none=>rw[cC c,cC c];exact k a
 | some x=>unfold nw;rw[c];exact⟨λ_ h=>h,λ_ h=>h⟩
abbrev F6 (q:Addr):Sp:=λvs H Q _=>dH vs λc gv=>dr c λc=>∃(dx:Addr),H c=some (.ins q dx [])/\∃(X:Hp),aw X H/\X c=none/\∃(g:Gm),Rep X (nE g) gv/\GoodG g/\(∀p∈g.ps,FZ p.2)/\∀tb H',(∀a o,a≠c->H a=some o->H' a=some o)->H tb=none->H' tb=some (.dK [])->zL q (cG (nw (cG H c) (tT X) H') tb) c g tb->Q .cU H'
theorem fU:aS ["self","game","spot","count","name","what"] ["self","game"] (aq (inClass (top 35) 0)):=.mk
theorem Mu (T:0|||0):ya P w K mg base (cV P w) 3 "Course" ah ["self","game"] (F6 ah):=by
 have wU:=Mr T;refine T.zG.dF (λ_ _ _ _ _ _=>d4 λ_ _=>rfl) λf fd F=>F.dZ fU (λvs H Q E h=>?_) (λbY A outer s H vs Q E hr h=>?_)
 ·obtain⟨_,_,rfl,_⟩:=kh h;rfl
 ·symm;obtain⟨c,gv,rfl,dx,hc,X,sX,xX,g,rg,gg,Mv,kk⟩:=kh h;nofun;clear G_;have sx:aw (tT X) H:=o9.trans sX;have xc:tT X c=none:=by unfold tT;rw[xX]
  have nd:=fU.nd;refine⟨_,(ag (fJ (pv 0) gw rfl)
  (ag (fJ (pv 0) (bT af) rfl)
  (ag (ck PassesOwn.never rfl (pT (K:=K) rfl T.z_enumerate (aa (ar ai (pv 1) ae) af)) (eP (K:=K) (n:=2) rfl (bH (aV (i:=2) nd rfl (.inl rfl)) (bH (aV (i:=3) nd rfl (.inl rfl)) eO))) (ag (d9 (cD hr) (bp (pv 0) rfl) (ar ai (pv 3) ae) (pv 2) rfl)
  (aj (bw (d7 aaw aaX aaY c5.r (bp (pv 0) rfl) (aa (ar ai (pv 3) ae) af))))))
  (ag (fJ (pv 0) (ar ai (ar aX (ar ai (pv 1) ae) ae) ae) rfl)
  (ag (fJ (pv 0) gw rfl)
  (ag (ck PassesOwn.never rfl (bh (K:=K) (ar ai (pv 1) ae)) (eP (K:=K) (n:=2) rfl (bH (aV (i:=4) nd rfl (.inl rfl)) (bH (aV (i:=5) nd rfl (.inl rfl)) eO))) (aj (d9 (cD hr) (bp (pv 0) rfl) (pv 4) (aK wU (aa (pv 5) af)) rfl)))
  (aj (fJ (pv 0) gw rfl)))))))),?_⟩
  refine(?_:let bQ:TS:=_;let bR:TS:=_;let bS:TS:=_;let df:TS:=_;let mT:TS:=_;let uY:TS:=_;let BU:TS:=_;tSeq bQ (tSeq bR (tSeq bS (tSeq df (tSeq mT (tSeq uY BU))))) _ _ _);intro bQ bR bS df mT uY BU;have sl:=sizeLine_eq;have np:=gg.np;have nc:=gg.nc;have lc:=gg.lc;have lpp:=gg.lp;have p0:=gg.p0;symm;obtain⟨gp,g0,g1,rfl,qS,rc,rp⟩:=bu.mp (show Rep X (.tup _) gv from rg);obtain⟨cl,u0,rfl,fY,pK⟩:=aY.mp (show Rep X (.lst _) g0 from rc);obtain⟨pl,yy,rfl,hpl,yz⟩:=aY.mp (show Rep X (.lst _) g1 from rp);nofun;clear G_;have qS:=sX _ _ qS;have fY:=sX _ _ fY;have hpl:=sX _ _ hpl;have R9:cG H c c=none:=if_pos rfl;have BV:∀{a},H a=none->cG H c a=none:=λ{a} h=>by
   unfold cG
   split
   ·rfl
   ·exact h
  have u3:=pK.length;rw[aad] at u3;have Mw:=yz.length;rw[aad] at Mw;subst_vars;let K1:Hp->Prop:=λH1=>∀a o,a≠c->H a=some o->H1 a=some o;have kp:∀{H1},K1 H1->Kp H H1:=λ{H1} k a=>by
   by_cases z:a=c
   ·subst z;rw[hc];exact⟨(λ_ e=>by cases e),(λ_ e=>by cases e)⟩
   ·exact⟨λ_=>k _ _ z,λ_=>k _ _ z⟩
  have wV:∀{H1 a vs},K1 H1->H a=some (.tup vs)->H1 a=some (.tup vs):=λk e=>((kp k) _).1 _ e;have BW:∀{H1 a vs},K1 H1->H a=some (.lst vs)->H1 a=some (.lst vs):=λk e=>((kp k) _).2 _ e;refine aN (λN=>∀H1,K1 H1->(∃sp,sp≠c/\H sp=none/\H1 c=some (.ins ah dx [(aac "spots",.ref sp)])/\H1 sp=some (.dK []))->N [~~~c,~~~gp,none,none,none,none] H1) (λN hN=>?_) ?_
  ·dsimp?[ng,tDNewK];intro sp Iz;have e1:sp≠c:=λz=>by rw[z,hc] at Iz;cases Iz
   refine⟨_,_,_,by rw[av (Ne.symm e1)];exact hc,T.aP,T.na_Course_spots,∅,hN _ (λa o ac ha=>?_) ⟨sp,e1,Iz,ao,by rw[av e1,ao]⟩⟩;rw[av ac,av (λz=>by rw[z,Iz] at ha;cases ha)];exact ha
  intro H1 k1 dg;symm;obtain⟨sp,Ka,Iz,Sa,Mx⟩:=dg;nofun;clear G_;refine aN (λN=>∀H2,K1 H2->(∃mo,mo≠c/\mo≠sp/\H mo=none/\H2 c=some (.ins ah dx [(aac "spots",.ref sp),(aac "mosts",.ref mo)])/\H2 sp=some (.dK [])/\H2 mo=some (.lst []))->N [~~~c,~~~gp,none,none,none,none] H2) (λN hN=>?_) ?_
  ·dsimp?[ng];refine⟨aah _,λmo Es=>?_⟩;have e1:mo≠c:=λz=>by rw[z,Sa] at Es;cases Es
   have e2:mo≠sp:=λz=>by rw[z,Mx] at Es;cases Es
   have n0:H mo=none:=by
    cases h0:H mo with
    | none=>rfl
    | some o=>rw[k1 _ _ e1 h0] at Es;cases Es
   refine⟨_,_,_,by rw[av (Ne.symm e1)];exact Sa,T.aP,T.na_Course_mosts,by show(1:Nat)<1000;decide,hN _ (λa o ac ha=>?_) ⟨mo,e1,e2,n0,?_,by rw[av Ka,av (Ne.symm e2)];exact Mx,by rw[av e1,ao]⟩⟩
   ·rw[av ac,av (λz=>by rw[z,n0] at ha;cases ha)];exact k1 _ _ ac ha
   ·rw[ao];show some (HO.ins _ _ (if aac "spots"=aac "mosts" then _ else _))=_;rw[if_neg ∅];rfl
  intro H2 k2 dg;symm;obtain⟨mo,P0,My,Es,V9,Sb,Sd⟩:=dg;nofun;clear G_;refine aN (λN=>∀H3,K1 H3->H3 c=some (.ins ah dx [(aac "spots",.ref sp),(aac "mosts",.ref mo)])->H3 sp=some (.dK (o3 g.cs 0))->H3 mo=some (.lst ((g.cs.map (·.2)).map V.int))->∀z1 z2,N [~~~c,~~~gp,z1,z2,none,none] H3) (λN hN=>?_) ?_
  ·dsimp?[iEnum,wV k2 qS];refine⟨⟨_,bC.of (BW k2 fY)⟩,bJ (A9 (Ok:=K1) (λH' k=>bC.of (BW k fY))) (λi σ H'=>K1 H'/\H' c=some (.ins ah dx [(aac "spots",.ref sp),(aac "mosts",.ref mo)])/\H' sp=some (.dK (o3 (g.cs.take i) 0))/\H' mo=some (.lst (((g.cs.take i).map (·.2)).map V.int))/\∃z1 z2,σ=[~~~c,~~~gp,z1,z2,none,none]) ⟨k2,V9,Sb,Sd,_,_,rfl⟩ (λ_ _ _ _ h=>h.1) ?_ ?_⟩
   ·intro i x σ H3 H4 hi eV eX;symm;obtain⟨k3,Kb,wW,wX,z1,z2,rfl⟩:=eV;obtain⟨t,y,nt,rfl,ey,rfl⟩:=eX;obtain⟨d0,ed,rd⟩:=pK.get ey;rw[aaf] at ed;obtain⟨cn,ec,rfl⟩:=abg.mp ed;obtain⟨cp,y1,y2,rfl,zQ,r1,r2⟩:=bu.mp (show Rep X (.tup _) y from rd);rw[aI] at r1;rw[bg] at r2;subst r1 r2;nofun;clear G_;have zQ:=sX _ _ zQ;have tk:g.cs.take (i+1)=g.cs.take i++ [cn]:=by rw[aaF,ec];rfl
    have nn:cn.1∉(g.cs.take i).map (·.1):=by
     rw[List.map_take];exact uS nc (by rw[aaf,ec];rfl)
    have tc:t≠c:=λz=>by rw[z,Kb] at nt;cases nt
    have ts:t≠sp:=λz=>by rw[z,wW] at nt;cases nt
    have tm:t≠mo:=λz=>by rw[z,wX] at nt;cases nt
    have k4:K1 (upd H3 t (.tup [.int (i:Int),.ref cp])):=λa o ac ha=>au nt _ _ (k3 a o ac ha);have Kc:upd H3 t (.tup [.int (i:Int),.ref cp]) c=_:=au nt _ _ Kb;have Et:upd H3 t (.tup [.int (i:Int),.ref cp]) sp=_:=au nt _ _ wW;have Eu:upd H3 t (.tup [.int (i:Int),.ref cp]) mo=_:=au nt _ _ wX;refine⟨t,_,rfl,iP.of ao,rfl,?_⟩;generalize upd H3 t (.tup [.int (i:Int),.ref cp])=H4 at *;have YA:(o3 (g.cs.take i) 0).length<sizeLine:=by rw[yo,aaA];lia
    have k5:K1 (upd H4 sp (.dK (putK (o3 (g.cs.take i) 0) (Sum.inr cn.1) (.int (i:Int))))):=λa o ac ha=>by
     rw[av (λz=>by rw[z,Iz] at ha;cases ha)];exact k4 a o ac ha
    dsimp?[sDPut,du,dS,wV k4 zQ];have vp:dI (o3 (g.cs.take i) 0) (Sum.inr cn.1)=none:=o4 nn;rw[iT vp] at k5;have lt:(g.cs.take i).length=i:=by rw[aaA];lia
    have Ew:∀o,upd H4 sp o mo=some (.lst (((g.cs.take i).map (·.2)).map V.int)):=λo=>by rw[av My];exact Eu
    have ty:∀o,Py K "list" (.ref mo) (upd H4 sp o):=λo=>.inl ⟨rfl,_,bC.of (Ew o)⟩;refine⟨_,_,_,Kc,T.aP,T.na_Course_spots,_,aaR,_,rfl,_,.inl ⟨_,Sum.inr cn.1,Et,rfl,YA,rfl⟩,?_⟩;rw[iT vp];refine⟨_,_,_,by rw[av (Ne.symm Ka)];exact Kc,T.aP,T.na_Course_mosts,_,by rw[bI ∅];exact aaR,ty _,_,wV k5 zQ,_,rfl,_,rfl,_,Ew _,by rw[aad,aad];lia,?_⟩;refine⟨?_,?_,?_,?_,_,rfl⟩
    ·intro a o ac ha;rw[av (λz=>by rw[z,Es] at ha;cases ha)];exact k5 a o ac ha
    ·rw[av (Ne.symm P0),av (Ne.symm Ka)];exact Kc
    ·rw[av (Ne.symm My),ao,tk,uP,lt,Nat.zero_add]
    ·rw[ao,tk,aak,aak];rfl
   ·intro σ H3 dg;symm;obtain⟨k3,Kb,wW,wX,z1,z2,rfl⟩:=dg;nofun;rw[<-u3,aau (aag _)] at wW wX;exact hN _ k3 Kb wW wX _ _
  rintro H3 k3 Kb wW wX z1 z2;obtain⟨⟨n0,x0⟩,Wa⟩:∃x,g.ps[0]?=some x:=⟨_,aai p0⟩
  obtain⟨v0,IA,IB⟩:=yz.at (by rw[aaf,Wa];rfl);refine aN (λN=>∀H4,K1 H4->H4 c=some (.ins ah dx [(aac "spots",.ref sp),(aac "mosts",.ref mo),(aac "first",.str n0)])->H4 sp=some (.dK (o3 g.cs 0))->H4 mo=some (.lst ((g.cs.map (·.2)).map V.int))->N [~~~c,~~~gp,z1,z2,none,none] H4) (λN hN=>?_) ?_
  ·dsimp?[ng,wV k3 qS];symm;obtain⟨q0,a1,a2,rfl,wY,b1,_⟩:=bu.mp (show Rep X (.tup _) v0 from IB);rw[aI] at b1;subst b1;nofun;have wY:=sX _ _ wY;have at0:jS yy 0=some (.ref q0):=(bM IA:jS yy ((0:Nat):Int)=_)
   refine⟨_,BW k3 hpl,_,at0,_,rfl,_,wV k3 wY,_,rfl,_,_,_,Kb,T.aP,T.na_Course_first,by show(2:Nat)<1000;decide,hN _ (λa o ac ha=>?_) ?_ (by rw[av Ka];exact wW) (by rw[av P0];exact wX)⟩
   ·rw[av ac];exact k3 _ _ ac ha
   ·rw[ao];show some (HO.ins _ _ (if aac "spots"=aac "first" then _ else _::(if aac "mosts"=aac "first" then _ else _)))=_;rw[if_neg (by ac_rfl),if_neg (by ac_rfl)];rfl
  rintro H4 k4 Kc Et Eu;refine aN (λN=>∀H5,K1 H5->(∃wh,wh≠c/\wh≠sp/\wh≠mo/\H wh=none/\H5 c=some (.ins ah dx [(aac "spots",.ref sp),(aac "mosts",.ref mo),(aac "first",.str n0),(aac "whats",.ref wh)])/\H5 sp=some (.dK (o3 g.cs 0))/\H5 mo=some (.lst ((g.cs.map (·.2)).map V.int))/\H5 wh=some (.dK []))->N [~~~c,~~~gp,z1,z2,none,none] H5) (λN hN=>?_) ?_
  ·dsimp?[ng,tDNewK];intro wh BX;have e1:wh≠c:=λz=>by rw[z,Kc] at BX;cases BX
   have e2:wh≠sp:=λz=>by rw[z,Et] at BX;cases BX
   have e3:wh≠mo:=λz=>by rw[z,Eu] at BX;cases BX
   have n0:H wh=none:=by
    cases h0:H wh with
    | none=>rfl
    | some o=>rw[k4 _ _ e1 h0] at BX;cases BX
   refine⟨_,_,_,by rw[av (Ne.symm e1)];exact Kc,T.aP,T.na_Course_whats,by show(3:Nat)<1000;decide,hN _ (λa o ac ha=>?_) ⟨wh,e1,e2,e3,n0,?_,by rw[av Ka,av (Ne.symm e2)];exact Et,by rw[av P0,av (Ne.symm e3)];exact Eu,by rw[av e1,ao]⟩⟩
   ·rw[av ac,av (λz=>by rw[z,n0] at ha;cases ha)];exact k4 _ _ ac ha
   ·rw[ao];show some (HO.ins _ _ (if aac "spots"=aac "whats" then _ else _::(if aac "mosts"=aac "whats" then _ else _::(if aac "first"=aac "whats" then _ else _))))=_;rw[if_neg (by ac_rfl),if_neg (by ac_rfl),if_neg (by ac_rfl)];rfl
  intro H5 k5 dg;symm;obtain⟨wh,Wb,Se,Sf,BX,YB,Sg,Ew,Si⟩:=dg;nofun;refine aN (λN=>∀H6,K1 H6->H6 c=some (.ins ah dx [(aac "spots",.ref sp),(aac "mosts",.ref mo),(aac "first",.str n0),(aac "whats",.ref wh)])->H6 sp=some (.dK (o3 g.cs 0))->H6 mo=some (.lst ((g.cs.map (·.2)).map V.int))->(∃us,H6 wh=some (.dK us)/\o5 (nw (cG H c) (tT X) H6) g.ps us)->∀z3 z4,N [~~~c,~~~gp,z1,z2,z3,z4] H6) (λN hN=>?_) ?_
  ·dsimp?[wV k5 qS];refine⟨⟨_,bC.of (BW k5 hpl)⟩,bJ (src_list (Ok:=K1) (λH' k=>bC.of (BW k hpl))) (λi σ H'=>K1 H'/\H' c=some (.ins ah dx [(aac "spots",.ref sp),(aac "mosts",.ref mo),(aac "first",.str n0),(aac "whats",.ref wh)])/\H' sp=some (.dK (o3 g.cs 0))/\H' mo=some (.lst ((g.cs.map (·.2)).map V.int))/\(∃us,H' wh=some (.dK us)/\o5 (nw (cG H c) (tT X) H') (g.ps.take i) us)/\∃z3 z4,σ=[~~~c,~~~gp,z1,z2,z3,z4]) ⟨k5,YB,Sg,Ew,⟨[],Si,rfl⟩,_,_,rfl⟩ (λ_ _ _ _ h=>h.1) ?_ ?_⟩
   ·intro i x σ H7 H6 hi eV eX;symm;obtain⟨k6,Ex,zR,zS,⟨us,u4,wk⟩,z3,z4,rfl⟩:=eV;obtain⟨rfl,ey⟩:=eX;obtain⟨d0,ed,rd⟩:=yz.get ey;rw[aaf] at ed;obtain⟨pn,ec,rfl⟩:=abg.mp ed;obtain⟨cp,y1,y2,rfl,zQ,r1,r2⟩:=bu.mp (show Rep X (.tup _) x from rd);rw[aI] at r1;subst r1;nofun;have zQ:=sX _ _ zQ;have YC:aw X H6:=λa o h=>k6 _ _ (λz=>by rw[z,xX] at h;cases h) (sX _ _ h);have tk:g.ps.take (i+1)=g.ps.take i++ [pn]:=by rw[aaF,ec];rfl
    have nn:pn.1∉(g.ps.take i).map (·.1):=by
     rw[List.map_take];exact uS np (by rw[aaf,ec];rfl)
    have vp:=wk.none nn;have lus:us.length<=100:=by rw[wk.len,aaA];lia
    refine⟨cp,_,rfl,iP.of (wV k6 zQ),rfl,?_⟩;dsimp?[sDPut,du,F0];refine⟨X,YC,_,r2,Mv _ (aan ec),_,gg.wt _ (aan ec),λu H7 s7 ru=>?_⟩;refine⟨_,_,_,s7 _ _ Ex,T.aP,T.na_Course_whats,_,by rw[bI ∅,bI ∅,bI ∅];exact aaR,_,rfl,_,.inl ⟨_,Sum.inr pn.1,s7 _ _ u4,rfl,⋯,rfl⟩,?_⟩;rw[iT vp];have kq:Kp H7 (upd H7 wh (.dK (us++ [(Sum.inr pn.1,u)]))):=Kp.upd (λvs e=>by rw[s7 _ _ u4] at e;cases e) (λvs e=>by rw[s7 _ _ u4] at e;cases e);refine⟨λa o ac ha=>?_,by rw[av (Ne.symm Wb)];exact s7 _ _ Ex,by rw[av (Ne.symm Se)];exact s7 _ _ zR,by rw[av (Ne.symm Sf)];exact s7 _ _ zS,⟨_,ao,?_⟩,_,rfl⟩
    ·rw[av (λz=>by rw[z,BX] at ha;cases ha)];exact s7 _ _ (k6 _ _ ac ha)
    ·rw[tk];have kn:Kp (nw (cG H c) (tT X) H7) (nw (cG H c) (tT X) (upd H7 wh (.dK (us++ [(Sum.inr pn.1,u)])))):=F5 kq;refine o5.snoc (kn.rep (ru.mono λa o h=>?_)) (kn.RW (wk.mono (kA s7)));cases h6:H6 a with
     | none=>
      rw[cC h6] at h;have ac:a≠c:=λz=>by rw[z,Ex] at h6;cases h6
      have h0:H a=none:=by
       cases h0:H a with
       | none=>rfl
       | some o=>rw[k6 _ _ ac h0] at h6;cases h6
      rw[cC (BV h0)];exact h
     | some o6=>
      unfold nw at h;rw[h6] at h;exact mQ (λa o hx=>by rw[cu (λz=>by rw[z,xc] at hx;cases hx)];exact sx _ _ hx) _ _ h
   ·intro σ H6 dg;symm;obtain⟨k6,Ex,zR,zS,⟨us,u4,wk⟩,z3,z4,rfl⟩:=dg;nofun;rw[<-Mw,aau (aag _)] at wk;exact hN _ k6 Ex zR zS ⟨us,u4,wk⟩ _ _
  intro H6 k6 Ex zR zS YD z3 z4;symm;obtain⟨us,u4,wk⟩:=YD;nofun;dsimp?[ng,tDNewK];intro tb mj;have e1:tb≠c:=λz=>by rw[z,Ex] at mj;cases mj
  have e2:tb≠sp:=λz=>by rw[z,zR] at mj;cases mj
  have e3:tb≠mo:=λz=>by rw[z,zS] at mj;cases mj
  have e4:tb≠wh:=λz=>by rw[z,u4] at mj;cases mj
  have wZ:H tb=none:=by
   cases h0:H tb with
   | none=>rfl
   | some o=>rw[k6 _ _ e1 h0] at mj;cases mj
  refine⟨_,_,_,by rw[av (Ne.symm e1)];exact Ex,T.aP,T.na_Course_tables,by show(4:Nat)<1000;decide,kk tb _ (λa o ac ha=>?_) wZ (by rw[av e1,ao]) ⟨dx,sp,mo,wh,us,n0,?_,by rw[cu (Ne.symm e2),cC (BV Iz),av Ka,av (Ne.symm e2)];exact zR,by rw[cu (Ne.symm e3),cC (BV Es),av P0,av (Ne.symm e3)];exact zS,by rw[cu (Ne.symm e4),cC (BV BX),av Wb,av (Ne.symm e4)];exact u4,?_,?_⟩⟩
  ·rw[av ac,av (λz=>by rw[z,wZ] at ha;cases ha)];exact k6 _ _ ac ha
  ·rw[cu (Ne.symm e1),cC R9,ao];show some (HO.ins _ _ (if aac "spots"=aac "tables" then _ else _::(if aac "mosts"=aac "tables" then _ else _::(if aac "first"=aac "tables" then _ else _::(if aac "whats"=aac "tables" then _ else _)))))=_;rw[if_neg (by ac_rfl),if_neg (by ac_rfl),if_neg (by ac_rfl),if_neg (by ac_rfl)];rfl
  ·have KY:upd H6 tb (.dK []) c=_:=(av (Ne.symm e1)).trans Ex;refine((F5 ((Kp.of (au mj)).trans (Kp.upd (o:=_) (λvs e=>by rw[KY] at e;cases e) (λvs e=>by rw[KY] at e;cases e)))).trans (Kp.cG (tb:=tb) (kvs:=[]) ?_)).RW wk;rw[cC (BV wZ),av e1,ao]
  ·rw[List.head?_map,List.head?_eq_getElem?,Wa];rfl
theorem fV:aS ["self","state"] ["self","state"] (aq (inClass (top 35) 8)):=.mk
theorem u5 {a b c d e:V}:List.lookup (aac "tables") [(aac "spots",a),(aac "mosts",b),(aac "first",c),(aac "whats",d),(aac "tables",e)]=some e:=by
 rw[bI ∅,bI ∅,bI ∅,bI ∅];exact aaR
theorem IC (T:0|||0):dG P w K mg base (cV P w) 7 ah "table_at" ["self","state"] (FX ah):=by
 have bj:=jL T;have sT:=Mp T;refine T.jH.dF (λ_ _ _ _ _ _=>d4 λ_ _=>rfl) λf fd F=>F.dZ fV (λvs H Q E h=>?_) (λbY A outer s H vs Q E hr h=>?_)
 ·obtain⟨_,_,rfl,_⟩:=kh h;rfl
 ·symm;obtain⟨c,sv,rfl,g,nm,ns,tb,co,st,kvs,tN,Wc,ps,t,b,rs,lk,gl,l4,kF,kN⟩:=kh h;nofun;have nd:=fV.nd;refine⟨_,(ag (bc (As (qE (cD hr) (ar ai (pv 1) ae) (bp (pv 0) rfl))) (aj (d9 (cD hr) (bp (pv 0) rfl) (ar ai (pv 1) ae) (aK sT (aa (ar ai (c8 bj T.aP (pv 0) (aa (pv 1) af)) ae) af)) rfl))
   aW)
  (aj (aR (cF (cD hr) (bp (pv 0) rfl) (ar ai (pv 1) ae) (λ_ _=>rfl))))),?_⟩
  have sl:=sizeLine_eq;symm;obtain⟨dx,sp,mo,wh,us,Ak,h1,h2,h3,h4,h5,h6⟩:=id co;obtain⟨sa,cl,rfl,gS,fY⟩:=id st;nofun;have Kd:=cX _ _ h1;have lp:∀{a b c d e:V},List.lookup (aac "what_at") [(aac "spots",a),(aac "mosts",b),(aac "first",c),(aac "whats",d),(aac "tables",e)]=none:=dP (by ac_rfl) (by ac_rfl) (by ac_rfl) (by ac_rfl) (by ac_rfl);cases hv:dI kvs (Sum.inr nm) with
  | some v=>
   dsimp?[du,gS];refine⟨_,_,_,Kd,T.aP,T.na_Course_tables,_,u5,_,rfl,_,.inl ⟨kvs,Sum.inr nm,.inl tN,rfl,hv.symm⟩,?_⟩;rw[if_neg (by simp)];exact⟨_,_,_,Kd,T.aP,T.na_Course_tables,_,u5,_,rfl,_,.inl ⟨kvs,Sum.inr nm,.inl tN,rfl,hv.symm⟩,kF v hv⟩
  | none=>
   dsimp?[du,cg,gS,ky,LY,sDPut];refine⟨_,_,_,Kd,T.aP,T.na_Course_tables,_,u5,_,rfl,_,.inl ⟨kvs,Sum.inr nm,.inl tN,rfl,hv.symm⟩,?_⟩;rw[if_pos (by rfl)];refine⟨_,_,Kd,lp,cG H tb,cX,g,co.co,nm,ns,st,_,lk,λu ru=>?_⟩;symm;obtain⟨p,x1,x2,x3,x4,rfl,hp,r1,r2,r3,r4⟩:=cS.mp (show Rep _ (.tup _) u from ru);obtain⟨a,rfl,pl⟩:=yv r2;nofun;refine⟨_,rfl,_,cX _ _ hp,_,rfl,_,rfl,ps,pl.mono cX,gl,l4,λp2 H1 s1 n1 rt=>?_⟩;have ct:c≠tb:=λz=>by rw[z] at h1;unfold cG at h1;rw[if_pos rfl] at h1;cases h1
   have sat:sa≠tb:=λz=>by rw[z,tN] at gS;cases gS
   refine⟨_,_,_,s1 _ _ Kd,T.aP,T.na_Course_tables,_,u5,_,s1 _ _ gS,_,rfl,_,rfl,_,.inl ⟨kvs,Sum.inr nm,s1 _ _ tN,rfl,⋯,rfl⟩,?_⟩;rw[iT hv];refine⟨_,_,_,by rw[av ct];exact s1 _ _ Kd,T.aP,T.na_Course_tables,_,u5,_,by rw[av sat];exact s1 _ _ gS,_,rfl,_,rfl,_,.inl ⟨_,Sum.inr nm,.inl ao,rfl,?_⟩,kN hv p2 H1 s1 n1 rt⟩;rw[uU hv,if_pos rfl]
theorem fW:aS ["self","state","value","rows"] ["self","state","value"] (aq (inClass (top 35) 7)):=.mk
theorem Mz (T:0|||0):dG P w K mg base (cV P w) 4 ah "by_value" ["self","state","value"] (L4 ah):=by
 have bj:=jL T;have eY:=BQ T;refine T.jG.dF (λ_ _ _ _ _ _=>sE λ_ _ _=>rfl) λf fd F=>F.dZ fW (λvs H Q E h=>?_) (λbY A outer s H vs Q E hr h=>?_)
 ·obtain⟨_,_,_,rfl,_⟩:=FH h;rfl
 ·symm;obtain⟨c,sv,v,rfl,g,co,gg,nm,ns,st,ln,cY,t,b,rs,lk,r,ro,fu,fh,ak,kk⟩:=FH h;nofun;have nd:=fW.nd;refine⟨_,(ag (j7 (i:=3) rfl nd rfl rfl (N:=["self","state","value","rows"]) (so:=aq (inClass (top 35) 7)) (N':=["row","value"]) (k:=1) (fr:=[2]) rfl rfl ⟨rfl,∅,∅,∅,rfl,∅,∅⟩ (bh (K:=K) (ar ai (c8 bj T.aP (pv 0) (aa (pv 1) af)) ae)) (λ_ _ _ _ _=>(aV (i:=0) (show(["row","value"]:List Str).Nodup by ac_rfl) rfl (.inl rfl))) (λ_ _ _ _ _=>(eA (t6 xC xC (ar ai (pv 0) ae) (pv 1) (ar ai (pv 0) ae))))
   (λ_ _ _ _ _=>(pv 0)))
  (aj (aR (c8 eY T.aP (pv 0) (aa (pv 1) (aa (ar aX (pv 3) ae) (aa (pv 2) af))))))),?_⟩
  have sl:=sizeLine_eq;symm;obtain⟨dx,sp,mo,wh,tb,us,Ak,h1,h2,h3,h4,h5,h6⟩:=id co;obtain⟨sa,cl,rfl,gS,fY⟩:=id st;obtain⟨g0,g1,g2⟩:=gg.wt _ (c7 lk);nofun;have lp:∀{a b c d e:V},List.lookup (aac "what_at") [(aac "spots",a),(aac "mosts",b),(aac "first",c),(aac "whats",d),(aac "tables",e)]=none:=dP (by ac_rfl) (by ac_rfl) (by ac_rfl) (by ac_rfl) (by ac_rfl);have zP:∀{a b c d e:V},List.lookup (aac "by_row") [(aac "spots",a),(aac "mosts",b),(aac "first",c),(aac "whats",d),(aac "tables",e)]=none:=dP (by ac_rfl) (by ac_rfl) (by ac_rfl) (by ac_rfl) (by ac_rfl);refine aN (λN=>∀H1,aw H H1->∀p xs,H1 p=some (.lst xs)->a7 H (((rs.filter λr=>decide (r.1<=v) && decide (v<=r.2.1)).map BD).map mO) xs->N [~~~c,~~~sa,v⁻¹,~~~p] H1) (λN hN=>?_) ?_
  ·dsimp?[cg,ky];refine⟨_,_,h1,lp,H,aw.refl _,g,co,nm,ns,st,_,lk,λu ru=>?_⟩;symm;obtain⟨p,x1,x2,x3,x4,rfl,hp,r1,r2,r3,r4⟩:=cS.mp (show Rep H (.tup _) u from ru);obtain⟨rl,xs,rfl,mi,yx⟩:=aY.mp r4;nofun;have len:=yx.length;rw[aad,aad] at len;have zl:(xs.zip rs).length=xs.length:=by rw[List.length_zip];lia
   refine⟨_,rfl,_,hp,_,rfl,_,rfl,⟨_,bC.of mi⟩,?_⟩;have S:Src (vj K rl) (aw H) xs.length _:=src_list (λH' s'=>bC.of (s' _ _ mi));rw[<-zl] at S;refine eJ (xs.zip rs) (λx=>if (decide (x.2.1<=v) && decide (v<=x.2.2.1))=true then some x.1 else none) S (λ_ _ _ _ h=>h.1) ⋯ ?_ ?_
   ·rintro i ⟨x,r'⟩ y Mt ⟨_,ey⟩ Y N3 y1 y2;obtain⟨e1,e2⟩:=List.getElem?_zip_eq_some.mp Mt;rw[e1] at ey;cases ey;symm;obtain⟨dd,ed,rd⟩:=yx.get e1;nofun;rw[aaf,aaf,e2] at ed;cases ed;symm;obtain⟨p',a',b',c',d',rfl,pQ,q1,q2,q3,q4⟩:=cS.mp (show Rep H (.tup _) x from rd);nofun;rw[show a'=.int r'.1 from bg.mp q1,show b'=.int r'.2.1 from bg.mp q2] at pQ;dsimp?[pQ]
    by_cases c1:r'.1<=v
    ·rw[if_pos c1]
     by_cases c2:v<=r'.2.1
     ·rw[if_pos c2];exact y1 _ (if_pos (by simp [c1,c2]))
     ·rw[if_neg c2];exact y2 (if_neg (by simp [c2]))
    ·rw[if_neg c1,if_neg ∅];exact y2 (if_neg (by simp [c1]))
   ·intro D n1 n2;exact hN _ (au n2) D _ ao (mf yx)
  rintro H1 s1 p xs hp yx;have hd:(rs.filter λr=>decide (r.1<=v) && decide (v<=r.2.1)).head?=some r:=by rw[List.head?_filter];exact ro
  obtain⟨rest,er⟩:∃rest,(rs.filter λr=>decide (r.1<=v) && decide (v<=r.2.1))=r::rest:=by
   cases h:rs.filter λr=>decide (r.1<=v) && decide (v<=r.2.1) with
   | nil=>rw[h] at hd;cases hd
   | cons a l=>rw[h] at hd;cases hd;exact⟨l,rfl⟩
  rw[er] at yx;symm;obtain⟨y,ys,rfl,ry,_⟩:=aO.mp yx;have kC:r∈rs:=aa9 ro;obtain⟨q1,q2⟩:=g2 r kC;nofun;dsimp?[cg,BF];refine⟨_,_,s1 _ _ h1,zP,_,hp,_,(bM rfl:jS (y::ys) ((0:Nat):Int)=_),g,co.mono s1,gg,nm,ns,st.mono s1,_,_,r.2.2.1,r.2.2.2,ry.mono s1,q2,q1,ln,fu,fh,ak,λp' l' H' s' n1 n2 e1 e2=>kk p' l' H' (s1.trans s') (none_of s1 n1) (none_of s1 n2) e1 e2⟩
abbrev bG (L:List Addr) (H:Hp):Hp:=λa=>if a∈L then none else H a
theorem cA {L:List Addr} {H:Hp} {a:Addr} (h:a∉L):bG L H a=H a:=if_neg h
theorem eR {L:List Addr} {H:Hp} {a:Addr} {o:HO} (h:bG L H a=some o):a∉L/\H a=some o:=by
 unfold bG at h
 by_cases c:a∈L
 ·rw[if_pos c] at h;cases h
 ·rw[if_neg c] at h;exact⟨c,h⟩
theorem aT {L:List Addr} {H:Hp}:aw (bG L H) H:=λ_ _ h=>(eR h).2
theorem BY {L:List Addr} {H:Hp} {t:Addr} (ht:t∈L):aw (bG L H) (cG H t):=λa o h=>by
 obtain⟨c,h⟩:=eR h;rw[cu (λz=>c (by rw[z];exact ht))];exact h
abbrev K3 (p t b:Addr) (H H':Hp):Prop:=∀a o,a≠p->a≠t->a≠b->H a=some o->H' a=some o
theorem K3.of {p t b:Addr} {H H':Hp} (s:aw H H'):K3 p t b H H':=λa o _ _ _ h=>s a o h
theorem K3.trans {p t b:Addr} {H H' fG:Hp} (s:K3 p t b H H') (s':K3 p t b H' fG):K3 p t b H fG:=λa o h1 h2 h3 h=>s' a o h1 h2 h3 (s a o h1 h2 h3 h)
theorem K3.cG {p t b:Addr} {L:List Addr} {H H':Hp} (k:K3 p t b H H') (hp:p∈L) (ht:t∈L) (hb:b∈L):aw (bG L H) (bG L H'):=λa o h=>by
 obtain⟨c,h⟩:=eR h;rw[cA c];exact k a o (λz=>c (by rw[z];exact hp)) (λz=>c (by rw[z];exact ht)) (λz=>c (by rw[z];exact hb)) h
theorem mm {L:List Addr} {H H':Hp} (s:aw H H'):aw (bG L H) (bG L H'):=λa o h=>by
 obtain⟨c,h⟩:=eR h;rw[cA c];exact s a o h
@[inline]abbrev tO:=Str×iD×(Int×Int)
abbrev Dc (X:Hp) (e:tO) (v:V):Prop:=∃t sv pv,v=.ref t/\X t=some (.tup [.str e.1,sv,pv])/\mP X sv e.2.1.1 e.2.1.2/\Rep X (dq e.2.2) pv
theorem Dc.mono {X X':Hp} {e:tO} {v:V} (s:aw X X') (h:Dc X e v):Dc X' e v:=by
 obtain⟨t,sv,pv,e1,h1,⟨a,l,e2,h2,h3⟩,r⟩:=h;exact⟨t,sv,pv,e1,s _ _ h1,⟨a,l,e2,s _ _ h2,s _ _ h3⟩,r.mono s⟩
abbrev jo (c sv pv tl:V):List (Str×V):=[(aac "course",c),(aac "state",sv),(aac "paid",pv),(aac "trail",tl)]
abbrev MA (H X:Hp) (tb:Addr) (g:Gm):Prop:=∃kvs,H tb=some (.dK kvs)/\(kvs.map (·.1)).Nodup/\(∀k∈kvs.map (·.1),k∈g.ps.map λp=>(Sum.inr p.1:Key))/\∀nm v,dI kvs (Sum.inr nm)=some v->∃ps t b rs,look g.ps nm=some (.dM (ps.map lZ) t b rs)/\Rep X (kc (ku ps)) v
theorem MA.mono {H H' X X':Hp} {tb:Addr} {g:Gm} (s:aw X X') (k:∀o,H tb=some o->H' tb=some o):MA H X tb g->MA H' X' tb g:=λhh=>by
 obtain⟨kvs,h1,h2,h3,h4⟩:=hh;exact⟨kvs,k _ h1,h2,h3,λnm v e=>by obtain⟨ps,t,b,rs,a,r⟩:=h4 nm v e;exact⟨ps,t,b,rs,a,r.mono s⟩⟩
structure di (qP qC:Addr) (L:List Addr) (H:Hp) (p tl tb:Addr) (g:Gm) (st:iD) (pd:Int×Int) (tr:List tO):Prop where
 mem:p∈L/\tl∈L/\tb∈L
 al:∀a∈L,∃o,H a=some o/\∀vs,o≠.tup vs
 ex:∃dp c sv pv xs,H p=some (.ins qP dp (jo (.ref c) sv pv (.ref tl)))/\zL qC (bG L H) c g tb/\mP (bG L H) sv st.1 st.2/\Rep (bG L H) (dq pd) pv/\H tl=some (.lst xs)/\Al (Dc (bG L H)) tr xs
 MB:MA H (bG L H) tb g
 good:GoodG g
 len:st.2.length=g.cs.length
 MC:∀e∈tr,e.2.1.2.length=g.cs.length
abbrev F7 (qP qC:Addr):Sp:=λvs H Q _=>dH vs λx gv=>dr x λx=>∃(dx:Addr),H x=some (.ins qP dx [])/\∃(X:Hp),aw X H/\X x=none/\∃(g:Gm),Rep X (nE g) gv/\GoodG g/\(∀p∈g.ps,FZ p.2)/\∃(f:Nat) (ft:Str),(g.ps.map (·.1)).head?=some ft/\∃(nm:Str),dO g (abn g.cs.length 0) f ft=some nm/\∀c sv pv tl tb H',(∀a o,a≠x->H a=some o->H' a=some o)->H tl=none->H tb=none->H' x=some (.ins qP dx (jo (.ref c) sv pv (.ref tl)))->H' tl=some (.lst [])->H' tb=some (.dK [])->zL qC (bG [x,tl,tb] (nw (cG H x) (tT X) H')) c g tb->mP (bG [x,tl,tb] (nw (cG H x) (tT X) H')) sv nm (abn g.cs.length 0)->Rep (bG [x,tl,tb] (nw (cG H x) (tT X) H')) (dq (0,1)) pv->Q .cU H'
abbrev F8 (qP qC:Addr):Sp:=λvs H Q _=>eS vs λp=>dr p λp=>∃tl tb L g st pd tr,di qP qC L H p tl tb g st pd tr/\∀a l H',aw H H'->H a=none->H l=none->H' a=some (.tup [.str st.1,.ref l])->H' l=some (.lst (st.2.map V.int))->Q (.ref a) H'
theorem jq {a b c d:V}:List.lookup (aac "course") (jo a b c d)=some a:=aaR
theorem gE {a b c d:V}:List.lookup (aac "state") (jo a b c d)=some b:=by unfold jo;rw[bI ∅];exact aaR
theorem yA {a b c d:V}:List.lookup (aac "paid") (jo a b c d)=some c:=by unfold jo;rw[bI ∅,bI ∅];exact aaR
theorem BZ {a b c d:V}:List.lookup (aac "trail") (jo a b c d)=some d:=by unfold jo;rw[bI ∅,bI ∅,bI ∅];exact aaR
theorem iH:aS ["self"] ["self"] (aq (inClass (top 38) 1)):=.mk
theorem ID (T:0|||0):dG P w K mg base (cV P w) 1 aA "stands" ["self"] (F8 aA ah):=by
 refine T.oX.dF (λ_ _ _ _ _ _=>gA λ_=>rfl) λf fd F=>F.dZ iH (λvs H Q E h=>?_) (λbY A outer s H vs Q E hr h=>?_)
 ·obtain⟨_,rfl,_⟩:=mK h;rfl
 ·symm;obtain⟨p,rfl,tl,tb,L,g,st,pd,tr,pl,kk⟩:=mK h;nofun;have nd:=iH.nd;refine⟨_,(aj (aR (a6 (aa (ar ai (bp (pv 0) rfl) ae) (aa (dD (dt (K:=K)) (by rfl) T.z_list rfl (aa (ar ai (bp (pv 0) rfl) ae) af)) af))))),?_⟩;symm;obtain⟨dp,c,sv,pv,xs,hp,co,⟨sa,cl,rfl,gS,fY⟩,rp,tP,al⟩:=pl.ex;nofun;have gS:=aT _ _ gS;have fY:=aT _ _ fY;dsimp?[du];exact⟨_,_,_,hp,T.a9,T.na_Play_state,_,gE,sa,rfl,_,gS,_,rfl,_,_,_,hp,T.a9,T.na_Play_state,_,gE,sa,rfl,_,gS,_,rfl,cl,rfl,_,.inl (bC.of fY),λl nl=>⟨∅,λa H' s' na ha=>kk a l H' ((au nl).trans s') (none_of (au nl) na) nl ha (s' _ _ ao)⟩⟩
theorem gF:aS ["self","game"] ["self","game"] (aq (inClass (top 38) 0)):=.mk
theorem IE (T:0|||0):ya P w K mg base (cV P w) 5 "Play" aA ["self","game"] (F7 aA ah):=by
 have B1:=Mu T;have ph:=Iu T;refine T.D6.dF (λ_ _ _ _ _ _=>d4 λ_ _=>rfl) λf fd F=>F.dZ gF (λvs H Q E h=>?_) (λbY A outer s H vs Q E hr h=>?_)
 ·obtain⟨_,_,rfl,_⟩:=kh h;rfl
 ·symm;obtain⟨x,gv,rfl,dx,hx,X,sX,xX,g,rg,gg,Mv,fu,ft,P1,nm,ask,kk⟩:=kh h;nofun;have nd:=gF.nd;have sx:aw (tT X) H:=o9.trans sX;have xx:tT X x=none:=by unfold tT;rw[xX]
  refine⟨_,(ag (fJ (pv 0) (FE B1 (hr.mono ∅) rfl j1.pass (aa (pv 1) af)) rfl)
  (ag (fJ (pv 0) (lU ph T.aP (bp (pv 0) rfl)) rfl)
  (ag (fJ (pv 0) (a6 (aa ae (aa ae af))) rfl)
  (aj (fJ (pv 0) (bT af) rfl))))),?_⟩
  refine(?_:let bQ:TS:=_;let bR:TS:=_;let bS:TS:=_;let df:TS:=_;tSeq bQ (tSeq bR (tSeq bS df)) _ _ _);intro bQ bR bS df;have sl:=sizeLine_eq;let K1:Hp->Prop:=λH1=>∀a o,a≠x->H a=some o->H1 a=some o;refine aN (λN=>∀H1 c tb,K1 H1->H c=none->H tb=none->H1 x=some (.ins aA dx [(aac "course",.ref c)])->H1 tb=some (.dK [])->zL ah (bG [x,tb] (nw (cG H x) (tT X) H1)) c g tb->N [~~~x,some gv] H1) (λN hN=>?_) ?_
  ·dsimp?[ng,xF,F6];intro c dc nc Sj ne;have YE:c≠x:=λz=>by rw[z,hx] at nc;cases nc
   have hdx:dc≠x:=λz=>by rw[z,hx] at Sj;cases Sj
   have sc:aw H (upd (upd H dc (.own c)) c (.ins ah dc [])):=λa o h=>by
    rw[av (λz=>by rw[z,nc] at h;cases h),av (λz=>by rw[z,Sj] at h;cases h)];exact h
   have xc:X c=none:=by
    cases h:X c with
    | none=>rfl
    | some o=>rw[sX _ _ h] at nc;cases nc
   refine⟨dc,ao,X,sX.trans sc,xc,g,rg,gg,Mv,λtb H' kH mj tN co=>?_⟩;have K2:H' x=some (.ins aA dx []):=kH _ _ (Ne.symm YE) (sc _ _ hx);have wZ:H tb=none:=none_of sc mj;have Sk:tb≠x:=λz=>by rw[z,hx] at wZ;cases wZ
   refine⟨_,_,_,K2,T.a9,T.na_Play_course,∅,hN _ c tb (λa o ax h=>by rw[av ax];exact kH a o (λz=>by rw[z,nc] at h;cases h) (sc _ _ h)) nc wZ ao (by rw[av Sk];exact tN) (co.mono λa o h=>?_)⟩;obtain⟨Kf,h⟩:a≠tb/\nw (cG (upd (upd H dc (.own c)) c (.ins ah dc [])) c) (tT X) H' a=some o:=by
    by_cases z:a=tb
    ·unfold cG at h;rw[if_pos z] at h;cases h
    ·rw[cu z] at h;exact⟨z,h⟩
   have go:a≠x->nw (cG H x) (tT X) (upd H' x (.ins aA dx (gn (aac "course") (.ref c) []))) a=some o->bG [x,tb] (nw (cG H x) (tT X) (upd H' x (.ins aA dx (gn (aac "course") (.ref c) [])))) a=some o:=λax h=>by
    rw[cA (by simp [ax,Kf])];exact h
   cases h6:cG (upd (upd H dc (.own c)) c (.ins ah dc [])) c a with
   | none=>
    rw[cC h6] at h;have h0:H a=none:=by
     by_cases z:a=c
     ·rw[z];exact nc
     ·rw[cu z] at h6;exact none_of sc h6
    have ax:a≠x:=λz=>by rw[z,hx] at h0;cases h0
    refine go ax ?_;rw[cC (by rw[cu ax];exact h0),av ax];exact h
   | some o6=>
    unfold nw at h;rw[h6] at h;exact go (λz=>by rw[z,xx] at h;cases h) (mQ (λa o hh=>by rw[cu (λz=>by rw[z,xx] at hh;cases hh)];exact sx _ _ hh) _ _ h)
  rintro H1 c tb k1 nc mj P2 Ey Kg;have cx:c≠x:=λz=>by rw[z,hx] at nc;cases nc
  refine aN (λN=>∀H2 sv,(∀a o,a≠x->H1 a=some o->H2 a=some o)->H2 x=some (.ins aA dx [(aac "course",.ref c),(aac "state",sv)])->mP (bG [x,tb] (nw (cG H x) (tT X) H2)) sv nm (abn g.cs.length 0)->N [~~~x,some gv] H2) (λN hN=>?_) ?_
  ·dsimp?[ng,cg,du,FP];have s1:aw (bG [x,tb] (nw (cG H x) (tT X) H1)) H1:=λa o h=>by
    obtain⟨fh,h⟩:=eR h;cases h6:cG H x a with
    | none=>rw[cC h6] at h;exact h
    | some o6=>
     unfold nw at h;rw[h6] at h;exact k1 _ _ (λz=>by rw[z,xx] at h;cases h) (sx _ _ h)
   symm;obtain⟨dc,sp,mo,wh,us,Ak,h1,_⟩:=id Kg;nofun;refine⟨_,_,_,P2,T.a9,T.na_Play_course,_,aaR,c,rfl,_,_,s1 _ _ h1,dP ∅ ∅ ∅ ∅ ∅,g,(Kg.mono s1).co,gg,fu,ft,P1,nm,ask,λa l H' s' na nl ha hl=>?_⟩;have K2:=s' _ _ P2;have ax:a≠x:=λz=>by rw[z,P2] at na;cases na
   have lx:l≠x:=λz=>by rw[z,P2] at nl;cases nl
   have Kf:a≠tb:=λz=>by rw[z,Ey] at na;cases na
   have YF:l≠tb:=λz=>by rw[z,Ey] at nl;cases nl
   have n0:∀{b},b≠x->H1 b=none->H b=none:=λ{b} bx h=>by
    cases h0:H b with
    | none=>rfl
    | some o=>rw[k1 _ _ bx h0] at h;cases h
   refine⟨_,_,_,K2,T.a9,T.na_Play_state,by show(1:Nat)<1000;decide,hN _ (.ref a) (λb o bx h=>by rw[av bx];exact s' _ _ h) ?_ ⟨a,l,rfl,?_,?_⟩⟩
   ·rw[ao];show some (HO.ins _ _ (if aac "course"=aac "state" then _ else _))=_;rw[if_neg ∅];rfl
   ·rw[cA (by simp [ax,Kf]),cC (by rw[cu ax];exact n0 ax na),av ax];exact ha
   ·rw[cA (by simp [lx,YF]),cC (by rw[cu lx];exact n0 lx nl),av lx];exact hl
  rintro H2 sv k2 Wd vC;refine aN (λN=>∀H3 pv,(∀a o,a≠x->H2 a=some o->H3 a=some o)->H3 x=some (.ins aA dx [(aac "course",.ref c),(aac "state",sv),(aac "paid",pv)])->Rep (bG [x,tb] (nw (cG H x) (tT X) H3)) (dq (0,1)) pv->N [~~~x,some gv] H3) (λN hN=>?_) ?_
  ·dsimp?[ng];refine⟨∅,λr H' s' nr F3=>?_⟩;have rx:r≠x:=λz=>by rw[z,Wd] at nr;cases nr
   have Sl:=k2 _ _ (λz=>by rw[z,hx] at mj;cases mj) Ey;have YG:r≠tb:=λz=>by rw[z,Sl] at nr;cases nr
   have YH:H r=none:=by
    cases h0:H r with
    | none=>rfl
    | some o=>rw[k2 _ _ rx (k1 _ _ rx h0)] at nr;cases nr
   refine⟨_,_,_,s' _ _ Wd,T.a9,T.na_Play_paid,by show(2:Nat)<1000;decide,hN _ (.ref r) (λb o bx h=>by rw[av bx];exact s' _ _ h) ?_ (b9.mpr ⟨r,rfl,?_⟩)⟩
   ·rw[ao];show some (HO.ins _ _ (if aac "course"=aac "paid" then _ else _::(if aac "state"=aac "paid" then _ else _)))=_;rw[if_neg ∅,if_neg ∅];rfl
   ·rw[cA (by simp [rx,YG]),cC (by rw[cu rx];exact YH),av rx];exact F3
  rintro H3 pv k3 We YI;dsimp?[ng];refine⟨aah _,λtl zT=>?_⟩;have MD:tl≠x:=λz=>by rw[z,We] at zT;cases zT
  have P4:∀a o,a≠x->H1 a=some o->H3 a=some o:=λa o ax h=>k3 _ _ ax (k2 _ _ ax h);have IF:H tl=none:=by
   cases h0:H tl with
   | none=>rfl
   | some o=>rw[P4 _ _ MD (k1 _ _ MD h0)] at zT;cases zT
  have w5:=P4 _ _ (λz=>by rw[z,hx] at mj;cases mj) Ey;have Sk:tb≠x:=λz=>by rw[z,hx] at mj;cases mj
  have CW:tb≠tl:=λz=>by rw[<-z,w5] at zT;cases zT
  have up:∀Hk v,(∀a o,a≠x->Hk a=some o->H3 a=some o)->aw (bG [x,tb] (nw (cG H x) (tT X) Hk)) (bG [x,tl,tb] (nw (cG H x) (tT X) (upd (upd H3 tl (.lst [])) x v))):=λHk v YJ a o h=>by
   obtain⟨na,h⟩:=eR h;have ax:a≠x:=λz=>na (by simp [z]);have Kf:a≠tb:=λz=>na (by simp [z]);cases h6:cG H x a with
   | none=>
    rw[cC h6] at h;have h3:=YJ _ _ ax h;have P5:a≠tl:=λz=>by rw[z,zT] at h3;cases h3
    rw[cA (by simp [ax,P5,Kf]),cC h6,av ax,av P5];exact h3
   | some o6=>
    have P5:a≠tl:=λz=>by rw[z,cu MD,IF] at h6;cases h6
    rw[cA (by simp [ax,P5,Kf])];unfold nw at h ⊢;rw[h6] at h ⊢;exact h
  refine⟨_,_,_,by rw[av (Ne.symm MD)];exact We,T.a9,T.na_Play_trail,by show(3:Nat)<1000;decide,kk c sv pv tl tb _ (λa o ax h=>?_) IF mj ?_ (by rw[av MD,ao]) (by rw[av Sk,av CW];exact w5) (Kg.mono (up H1 _ P4)) ?_ (YI.mono (up H3 _ λ_ _ _ h=>h))⟩
  ·rw[av ax,av (λz=>by rw[z,IF] at h;cases h)];exact P4 _ _ ax (k1 _ _ ax h)
  ·rw[ao];show some (HO.ins _ _ (if aac "course"=aac "trail" then _ else _::(if aac "state"=aac "trail" then _ else _::(if aac "paid"=aac "trail" then _ else _))))=_;rw[if_neg ∅,if_neg ∅,if_neg ∅];rfl
  ·symm;obtain⟨a,l,e,h1,h2⟩:=vC;nofun;have u:=up H2 (.ins aA dx (gn (aac "trail") (.ref tl) [(aac "course",.ref c),(aac "state",sv),(aac "paid",pv)])) (λa o ax h=>k3 _ _ ax h);exact⟨a,l,e,u _ _ h1,u _ _ h2⟩
theorem kf {H H':Hp} {a:Addr} (s:aw H H') (n:H a=none):aw H (cG H' a):=λb o h=>by
 rw[cu (λz=>by rw[z,n] at h;cases h)];exact s _ _ h
theorem u6 {α:Type} [DecidableEq α]:∀{l U:List α},l.Nodup->(∀x∈l,x∈U)->l.length<=U.length
 | [],_,_,_=>aah _
 | a::l,U,nd,h=>by
  obtain⟨na,nd⟩:=List.nodup_cons.mp nd;have ha:=h a aas;have:=u6 (l:=l) (U:=U.erase a) nd λx hx=>by
   have xa:x≠a:=λz=>na (z▸hx);exact(List.mem_erase_of_ne xa).mpr (h x (aam _ hx))
  rw[List.length_erase_of_mem ha] at this;have:=List.length_pos_of_mem ha;rw[aap];lia
theorem di.kept {qP qC:Addr} {L:List Addr} {H H':Hp} {p tl tb:Addr} {g:Gm} {st:iD} {pd:Int×Int} {tr:List tO} (pl:di qP qC L H p tl tb g st pd tr) (s:aw (bG L H) (bG L H')) (k:∀a,a=p\/a=tl\/a=tb->∀o,H a=some o->H' a=some o) (al:∀a∈L,∃o,H' a=some o/\∀vs,o≠.tup vs):di qP qC L H' p tl tb g st pd tr:=by
 obtain⟨m,_,⟨dp,c,sv,pv,xs,h1,h2,h3,h4,h5,h6⟩,MB,gd,ln,lt⟩:=pl;exact⟨m,al,⟨dp,c,sv,pv,xs,k _ (.inl rfl) _ h1,h2.mono s,h3.mono s,h4.mono s,k _ (.inr (.inl rfl)) _ h5,h6.imp λ_ _ h=>h.mono s⟩,MB.mono s (k _ (.inr (.inr rfl))),gd,ln,lt⟩
theorem di.same {qP qC:Addr} {L:List Addr} {H H':Hp} {p tl tb:Addr} {g:Gm} {st:iD} {pd:Int×Int} {tr:List tO} (pl:di qP qC L H p tl tb g st pd tr) (s:aw H H'):di qP qC L H' p tl tb g st pd tr:=
 pl.kept (mm s) (λ_ _ _ h=>s _ _ h) λa ha=>by obtain⟨o,h,n⟩:=pl.al a ha;exact⟨o,s _ _ h,n⟩
theorem di.out {qP qC:Addr} {L:List Addr} {H:Hp} {p tl tb:Addr} {g:Gm} {st:iD} {pd:Int×Int} {tr:List tO} (pl:di qP qC L H p tl tb g st pd tr) {a:Addr} (n:H a=none):a∉L:=λm=>by
 obtain⟨o,h,_⟩:=pl.al a m;rw[n] at h;cases h
theorem di.tup {qP qC:Addr} {L:List Addr} {H:Hp} {p tl tb:Addr} {g:Gm} {st:iD} {pd:Int×Int} {tr:List tO} (pl:di qP qC L H p tl tb g st pd tr) {a:Addr} {vs:List V} (e:H a=some (.tup vs)):bG L H a=some (.tup vs):=by
 rw[cA (λm=>by obtain⟨o,h,n⟩:=pl.al a m;rw[e] at h;cases h;exact n _ rfl)];exact e
theorem di.next {qP qC:Addr} {L:List Addr} {H H':Hp} {p tl tb:Addr} {g:Gm} {st fH:iD} {pd Wf:Int×Int} {tr Sm:List tO} (pl:di qP qC L H p tl tb g st pd tr) (k3:K3 p tl tb H H') {dp c:Addr} {sv pv:V} {xs:List V}
  (h1:H' p=some (.ins qP dp (jo (.ref c) sv pv (.ref tl)))) (co:zL qC (bG L H) c g tb) (h3:mP (bG L H') sv fH.1 fH.2) (h4:Rep (bG L H') (dq Wf) pv) (h5:H' tl=some (.lst xs)) (h6:Al (Dc (bG L H')) Sm xs) (Wg:MA H' (bG L H') tb g) (ln:fH.2.length=g.cs.length) (lt:∀e∈Sm,e.2.1.2.length=g.cs.length):di qP qC L H' p tl tb g fH Wf Sm:=by
 refine⟨pl.mem,λa ha=>?_,⟨dp,c,sv,pv,xs,h1,co.mono (k3.cG pl.mem.1 pl.mem.2.1 pl.mem.2.2),h3,h4,h5,h6⟩,Wg,pl.good,ln,lt⟩
 by_cases e1:a=p
 ·exact⟨_,by rw[e1];exact h1,λ_ z=>by cases z⟩
 by_cases e2:a=tl
 ·exact⟨_,by rw[e2];exact h5,λ_ z=>by cases z⟩
 by_cases e3:a=tb
 ·obtain⟨kvs,z,_⟩:=Wg;exact⟨_,by rw[e3];exact z,λ_ z=>by cases z⟩
 obtain⟨o,h,n⟩:=pl.al a ha;exact⟨o,k3 _ _ e1 e2 e3 h,n⟩
theorem Dc.up {X X':Hp} {tr:List tO} {xs:List V} (s:aw X X') (h:Al (Dc X) tr xs):Al (Dc X') tr xs:=h.imp λ_ _ h=>h.mono s
theorem ME {a b c d v:V}:gn (aac "state") v (jo a b c d)=jo a v c d:=by
 show(if aac "course"=aac "state" then _ else _::(if aac "state"=aac "state" then _ else _))=_;rw[if_neg ∅,if_pos rfl];rfl
theorem MF {a b c d v:V}:gn (aac "paid") v (jo a b c d)=jo a b v d:=by
 show(if aac "course"=aac "paid" then _ else _::(if aac "state"=aac "paid" then _ else _::(if aac "paid"=aac "paid" then _ else _)))=_;rw[if_neg ∅,if_neg ∅,if_pos rfl];rfl
theorem ints_rep {H:Hp}:∀l:List Int,a7 H (l.map Dat.int) (l.map V.int)
 | []=>bD.mpr rfl
 | _::l=>aO.mpr ⟨_,_,rfl,bg.mpr rfl,ints_rep l⟩
theorem mq {H:Hp}:∀{l:List Int} {vs:List V},a7 H (l.map Dat.int) vs->vs=l.map V.int
 | [],_,h=>bD.mp h
 | _::_,_,h=>by
  obtain⟨v,r,rfl,a,b⟩:=aO.mp h;rw[bg.mp a,mq b];rfl
theorem zU (l:List Int):(l.map V.int).all fL=true:=List.all_eq_true.mpr λx hx=>by
 obtain⟨i,_,rfl⟩:=abi.mp hx;rfl
theorem Ez (x:Int) (ns:List Int):C5 (V.int x) (List.map V.int ns)=decide (x∈ns):=by
 unfold C5
 by_cases c:x∈ns
 ·rw[decide_eq_true c];exact List.any_eq_true.mpr ⟨V.int x,abi.mpr ⟨x,c,rfl⟩,by simp [Ae]⟩
 ·rw[decide_eq_false c];refine List.any_eq_false.mpr λy hy=>?_;obtain⟨n,hn,rfl⟩:=abi.mp hy;have:n≠x:=λe=>by subst e;exact c hn
  simp [Ae,this]
theorem ints_in {l:List Int} {v:Int} (h:v∈l):C5 (.int v) (l.map V.int)=true:=by rw[Ez];exact decide_eq_true h
theorem u7 {H:Hp}:∀l:List Str,a7 H (l.map Dat.str) (l.map V.str)
 | []=>bD.mpr rfl
 | _::l=>aO.mpr ⟨_,_,rfl,aI.mpr rfl,u7 l⟩
theorem pj {K:aba} {α:Type} {J:It} {tc:TT} {te:TE} {tl:L2.St} {H1:Hp} {fin:List V->Hp->Prop} {Item:Nat->V->Hp->Hp->Prop} (as:List α) (f:α->Option V) (S:Src J (aw H1) as.length Item) (sub:∀i x H H3,Item i x H H3->H3=H) (hz:as.length<=sizeLine)
  (hs:∀i a x,as[i]?=some a->Item i x H1 H1->∃p u v,x=.ref p/\iP K H1 p [u,v]/\∀(Y:VK) (N:Hp->Prop),(∀z,f a=some z->Y z H1)->(f a=none->N H1)->tc (some u::some v::tl) H1 λb H5=>if b=true then te (some u::some v::tl) H5 Y else N H5)
  (lP:fin ((as.filterMap f)) H1):fN J (yZ K 2 (gCons (gName 0) (gCons (gName 1) gNil))) tc te (none::none::tl) H1 fin:=by
 refine gy S (λσ=>∃w0 w1,σ=w0::w1::tl) ⟨_,_,rfl⟩ (λi ys H=>H=H1/\ys=(as.take i).filterMap f) ⟨rfl,by simp⟩ hz ?_ ?_
 ·rintro i x σ H ys H3 Q N hi sm ⟨rfl,rfl⟩ hl ⟨w0,w1,rfl⟩ it kq kn;obtain rfl:=sub _ _ _ _ it;have ea:as[i]?=some as[i]:=aai hi;obtain⟨p,u,v,rfl,sq,k⟩:=hs i _ x ea it;refine⟨p,_,rfl,sq,rfl,_,_,rfl,_,_,rfl,rfl,?_⟩;refine k _ _ (λz e=>kq _ _ _ ⟨_,_,rfl⟩ sm ⟨rfl,?_⟩) (λe=>kn _ _ ⟨_,_,rfl⟩ sm ⟨rfl,?_⟩)
  ·rw[aaF,ea,aa3];simp [e]
  ·rw[aaF,ea,aa3];simp [e]
 ·rintro ys H sm ⟨rfl,rfl⟩ hl;rw[aau (aag _)];exact lP
abbrev kD (N:Int) (x:Int×Int):Prop:=Wq.Lw x/\x.2∣2/\-N<=Wq.sc 2 x/\Wq.sc 2 x<=N
theorem kD.pl {N M:Int} {x y:Int×Int} (hx:kD N x) (hy:kD M y):kD (N+M) (Wq.pl x y):=by
 obtain⟨a,b,e⟩:=Wq.LI hx.1.1 hy.1.1 (show(0:Int)<2 by decide) hx.2.1 hy.2.1;have:=hx.2.2;have:=hy.2.2;exact⟨a,b,⋯,⋯⟩
theorem kD.le {N M:Int} {x:Int×Int} (h:kD N x) (k:N<=M):kD M x:=⟨h.1,h.2.1,by have:=h.2.2;lia,by have:=h.2.2;lia⟩
theorem kD.num {N:Int} {x:Int×Int} (h:kD N x) (n:N<=1000000):(-1000000<=x.1/\x.1<=1000000)/\0<x.2/\x.2<=2:=by
 have b0:=h.1.1;have b2:=Int.le_of_dvd ∅ h.2.1;have e:=Wq.rS h.2.1;have:=h.2.2;refine⟨?_,b0,b2⟩;have c:x.2=1\/x.2=2:=⋯
 rcases c with c | c <;>rw[c] at e <;>lia
theorem iU (k:Int) {N:Int} (h1:-N<=2*k) (h2:2*k<=N):kD N (k,1):=⟨⟨by show(0:Int)<1;decide,by show Nm.g k 1=1;unfold Nm.g;rw[Int.gcd_one_right];rfl⟩,⟨2,rfl⟩,by show -N<=k* (2 / 1);lia,by show k* (2 / 1)<=N;lia⟩
theorem EA (k:Int) {N:Int} (o:k % 2=1) (h1:-N<=k) (h2:k<=N):kD N (k,2):=⟨⟨by show(0:Int)<2;decide,by
 show Nm.g k 2=1;unfold Nm.g;have d:=Int.gcd_dvd_left (a:=k) (b:=2);have d2:=Int.gcd_dvd_right (a:=k) (b:=2);have l:=Int.le_of_dvd ∅ d2;have p:0<Int.gcd k 2:=Int.gcd_pos_of_ne_zero_right k ∅;have c:Int.gcd k 2=1\/Int.gcd k 2=2:=⋯
 rcases c with c | c
 ·rw[c];rfl
 ·rw[c] at d;lia⟩,⟨1,rfl⟩,by show -N<=k* (2 / 2);lia,by show k* (2 / 2)<=N;lia⟩
abbrev lg:Wt->Str
 | .ask _ _ _ _=>aac "ask"
 | .fin _ _=>aac "end"
 | .score _=>aac "score"
 | .pick _ _=>aac "pick"
 | .dM _ _ _ _=>aac "throw"
theorem jr {H:Hp} {x:Wt} {u:V} (h:Rep H (jd x) u):∃q vs,u=.ref q/\H q=some (.tup (.str (lg x)::vs)):=by
 cases x <;>(obtain⟨p,vs,rfl,hp,r⟩:=dU.mp (show Rep H (.tup _) u from h);obtain⟨v,r1,rfl,a,_⟩:=aO.mp r;obtain rfl:=aI.mp a;exact⟨p,r1,rfl,hp⟩)
theorem IG {x:Wt} (h:lg x=aac "ask"):∃c k a b,x=.ask c k a b:=by
 cases x with
 | ask c k a b=>exact⟨_,_,_,_,rfl⟩
 | fin t b=>exact absurd (show aac "end"=aac "ask" from h) ∅
 | score c=>exact absurd (show aac "score"=aac "ask" from h) ∅
 | pick w rs=>exact absurd (show aac "pick"=aac "ask" from h) ∅
 | dM cY t b rs=>exact absurd (show aac "throw"=aac "ask" from h) ∅
theorem IH {x:Wt} (h:lg x=aac "end"):∃t b,x=.fin t b:=by
 cases x with
 | ask c k a b=>exact absurd (show aac "ask"=aac "end" from h) ∅
 | fin t b=>exact⟨_,_,rfl⟩
 | score c=>exact absurd (show aac "score"=aac "end" from h) ∅
 | pick w rs=>exact absurd (show aac "pick"=aac "end" from h) ∅
 | dM cY t b rs=>exact absurd (show aac "throw"=aac "end" from h) ∅
theorem B2 {x:Wt} (h:lg x=aac "score"):∃c,x=.score c:=by
 cases x with
 | ask c k a b=>exact absurd (show aac "ask"=aac "score" from h) ∅
 | fin t b=>exact absurd (show aac "end"=aac "score" from h) ∅
 | score c=>exact⟨_,rfl⟩
 | pick w rs=>exact absurd (show aac "pick"=aac "score" from h) ∅
 | dM cY t b rs=>exact absurd (show aac "throw"=aac "score" from h) ∅
theorem sU {x:Wt} (h:lg x=aac "pick"):∃w rs,x=.pick w rs:=by
 cases x with
 | ask c k a b=>exact absurd (show aac "ask"=aac "pick" from h) ∅
 | fin t b=>exact absurd (show aac "end"=aac "pick" from h) ∅
 | score c=>exact absurd (show aac "score"=aac "pick" from h) ∅
 | pick w rs=>exact⟨_,_,rfl⟩
 | dM cY t b rs=>exact absurd (show aac "throw"=aac "pick" from h) ∅
theorem mr {x:Wt} (h:lg x=aac "throw"):∃cY t b rs,x=.dM cY t b rs:=by
 cases x with
 | ask c k a b=>exact absurd (show aac "ask"=aac "throw" from h) ∅
 | fin t b=>exact absurd (show aac "end"=aac "throw" from h) ∅
 | score c=>exact absurd (show aac "score"=aac "throw" from h) ∅
 | pick w rs=>exact absurd (show aac "pick"=aac "throw" from h) ∅
 | dM cY t b rs=>exact⟨_,_,_,_,rfl⟩
theorem B3 {a b c d:V}:(jo a b c d).length<1000:=by show(4:Nat)<1000;decide
abbrev w6 (g:Gm) (st:iD) (pd:Int×Int) (x:Wt):Int×Int:=match wM g.cs st.2 x with
 | some w=>Wq.pl pd w
 | none=>pd
abbrev F9 (g:Gm) (st:iD) (x:Wt) (ds:List Dat):Prop:=match x with
 | .dM cY _ _ _=>∃ps,cY=ps.map lZ/\mM ps/\ds=(ff ps).map Dat.int
 | _=>ds=(eC g.cs st.2 x).map λr=>Dat.str r.word
abbrev pk (tr:List tO):Str:=Txt.join (aac " ") (tr.map (·.1))
theorem joinOk_of {sep:Str} {ts:List Str} {B:Nat} (hB:∀y∈ts,y.length<=B) (h:ts.length*B+ts.length*sep.length<=16777216):JoinOk sep ts=true:=by
 unfold JoinOk;rw[Bool.not_eq_true'];exact StrLaws.joinFits hB h
abbrev Ga (x:Wt):Prop:=∀c k a b,x≠.ask c k a b
abbrev pq:Sp:=λvs H Q _=>dH vs λu v=>∃a,Rep H (dq a) u/\∃b,Rep H (dq b) v/\kD 500000 a/\kD 500000 b/\∀r H',aw H H'->H r=none->H' r=some (.tup (Pr (Wq.pl a b).1 (Wq.pl a b).2))->Q (.ref r) H'
abbrev Gb:Sp:=λvs H Q _=>eS vs λn=>fC n λn=>Q (.bl true) H
abbrev Gc (qP qC:Addr):Sp:=λvs H Q _=>eS vs λp=>dr p λp=>∃(tl tb:Addr) (L:List Addr) (g:Gm) (st:iD) (pd:Int×Int) (tr:List tO),di qP qC L H p tl tb g st pd tr/\∃(x:Wt),look g.ps st.1=some x/\Ga x/\kD 500000 pd/\(∀w,wM g.cs st.2 x=some w->kD 500000 w)/\∀u H',aw H H'->Rep H' (dq (w6 g st pd x)) u->Q u H'
abbrev B4 (qP qC:Addr):Sp:=λvs H Q _=>eS vs λp=>dr p λp=>∃(tl tb:Addr) (L:List Addr) (g:Gm) (st:iD) (pd:Int×Int) (tr:List tO),di qP qC L H p tl tb g st pd tr/\∃(x:Wt),look g.ps st.1=some x/\∃(ds:List Dat),F9 g st x ds/\∀a H',K3 p tl tb H H'->di qP qC L (cG H' a) p tl tb g st pd tr->H a=none->Rep H' (.lst ds) (.ref a)->Q (.ref a) H'
abbrev II (qP qC qm:Addr):Sp:=λvs H Q E=>iX vs λp step sv pv=>dr p λp=>tL step λstep=>∃(tl tb:Addr) (L:List Addr) (g:Gm) (st:iD) (pd:Int×Int) (tr:List tO),di qP qC L H p tl tb g st pd tr/\tr.length<=200/\∃(fH:iD),mP (bG L H) sv fH.1 fH.2/\fH.2.length=g.cs.length/\∃(py:Int×Int),Rep (bG L H) (dq py) pv/\kD 500000 pd/\kD 500000 py/\(tr.length=200->∀H',aw H H'->E (.ref qm) none H')/\(tr.length<200->∀H',K3 p tl tb H H'->di qP qC L H' p tl tb g fH (Wq.pl pd py) (tr++ [(step,st,pd)])->Q .cU H')
abbrev Gd (qP qC qn qm:Addr):Sp:=λvs H Q E=>dH vs λp word=>dr p λp=>tL word λword=>∃(tl tb:Addr) (L:List Addr) (g:Gm) (st:iD) (pd:Int×Int) (tr:List tO),di qP qC L H p tl tb g st pd tr/\tr.length<=200/\∃(x:Wt),look g.ps st.1=some x/\kD 500000 pd/\((eC g.cs st.2 x).find? (λr=>decide (r.word=word))=none->∀H',aw H H'->E (.ref qn) none H')/\(∀r,(eC g.cs st.2 x).find? (λr=>decide (r.word=word))=some r->∃f fh,dO g (r.ds.foldl (ie g.cs 0) st.2) f r.to=some fh/\
  (tr.length=200->∀H',aw H H'->E (.ref qm) none H')/\(tr.length<200->∀H',K3 p tl tb H H'->di qP qC L H' p tl tb g (fh,r.ds.foldl (ie g.cs 0) st.2) (Wq.pl pd (0,1)) (tr++ [(word,st,pd)])->Q .cU H'))
abbrev Ge (qP qC qm:Addr):Sp:=λvs H Q E=>dH vs λp v=>dr p λp=>fC v λv=>∃(tl tb:Addr) (L:List Addr) (g:Gm) (st:iD) (pd:Int×Int) (tr:List tO),di qP qC L H p tl tb g st pd tr/\tr.length<=200/\∃(ps:List Pt) (t b:Int) (rs:List Tw),look g.ps st.1=some (.dM (ps.map lZ) t b rs)/\mM ps/\v∈ff ps/\0<=v/\v<=1000/\∃(r:Tw),uT rs v=some r/\∃(f:Nat) (fh:Str),dO g (r.2.2.1.foldl (ie g.cs v) st.2) f r.2.2.2=some fh/\kD 500000 pd/\kD 500000 (t,b)/\(tr.length=200->∀H',K3 p tl tb H H'->di qP qC L H' p tl tb g st pd tr->E (.ref qm) none H')/\(tr.length<200->∀H',K3 p tl tb H H'->di qP qC L H' p tl tb g (fh,r.2.2.1.foldl (ie g.cs v) st.2) (Wq.pl pd (t,b)) (tr++ [(aac (toString v),st,pd)])->Q .cU H')
abbrev Gf (qP qC:Addr):Sp:=λvs H Q _=>eS vs λp=>dr p λp=>∃(tl tb:Addr) (L:List Addr) (g:Gm) (st:iD) (pd:Int×Int) (tr:List tO),di qP qC L H p tl tb g st pd tr/\tr.length<=200/\(∀e∈tr,e.1.length<=20)/\∀H',aw H H'->Q (.str (pk tr)) H'
theorem yB:aS ["one","other"] ["one","other"] (aq (top 11)):=.mk
theorem B5 (T:0|||0):(3<<<"plus") ["one","other"] pq:=by
 have sO:=F1 T;refine T.Ia.dF (λ_ _ _ _ _ _=>d4 λ_ _=>rfl) λf fd F=>F.dZ yB (λvs H Q E h=>?_) (λbY A outer s H vs Q E hr h=>?_)
 ·obtain⟨_,_,rfl,_⟩:=nu h;rfl
 ·symm;obtain⟨u,v,rfl,a,ra,b,rb,ha,hb,k⟩:=nu h;nofun;have nd:=yB.nd;refine⟨_,(aj (aR (aK sO (aa (aD aM (aD bf (ar ai (pv 0) ae) (ar ai (pv 1) ae)) (aD bf (ar ai (pv 1) ae) (ar ai (pv 0) ae))) (aa (aD bf (ar ai (pv 0) ae) (ar ai (pv 1) ae)) af))))),?_⟩;symm;obtain⟨p,rfl,hp⟩:=b9.mp ra;obtain⟨q,rfl,hq⟩:=b9.mp rb;obtain⟨a1,a2,a3⟩:=ha.num ∅;obtain⟨b1,b2,b3⟩:=hb.num ∅;nofun;dsimp?[Ib,hp,hq];have m0:=Int.mul_pos a2 b2;have m4:a.2*b.2<=4:=Int.le_trans (Int.mul_le_mul a3 b3 ⋯ ∅) ∅;exact⟨br ⋯ ⋯,br ⋯ ⋯,br ⋯ ⋯,Bt.of 4 ⋯ ⋯,λz=>absurd z ⋯,λ_ r H' s' n' e=>k r H' s' n' e⟩
theorem mW:aS ["thing"] ["thing"] (aq (top 8)):=.mk
theorem IJ (T:0|||0):(1<<<"is_whole") ["thing"] Gb:=by
 refine T.wD.dF (λ_ _ _ _ _ _=>gA λ_=>rfl) λf fd F=>F.dZ mW (λvs H Q E h=>?_) (λbY A outer s H vs Q E hr h=>?_)
 ·obtain⟨_,rfl,_⟩:=V0 h;rfl
 ·symm;obtain⟨n,rfl,k⟩:=V0 h;nofun;have nd:=mW.nd;refine⟨_,(aj (aR (og (aU (c6 (K:=K)) (by rfl) T.z_isinstance rfl (aa (pv 0) (aa (dC (v:=V.ty "int") rfl T.z_int rfl rfl) af))) (rA (Au (aU (c6 (K:=K)) (by rfl) T.z_isinstance rfl (aa (pv 0) (aa (dC (v:=V.ty "bool") rfl T.z_bool rfl rfl) af)))))))),?_⟩;dsimp?[];refine⟨_,.int _,_,by rfl,?_⟩;rw[if_pos rfl];exact⟨_,.int _,false,by rfl,k⟩
theorem iI:aS ["self"] ["self"] (aq (inClass (top 38) 2)):=.mk
theorem IK (T:0|||0):dG P w K mg base (cV P w) 4 aA "points" ["self"] (Gc aA ah):=by
 have bj:=jL T;have jM:=Iy T;have xb:=B5 T;refine T.oW.dF (λ_ _ _ _ _ _=>gA λ_=>rfl) λf fd F=>F.dZ iI (λvs H Q E h=>?_) (λbY A outer s H vs Q E hr h=>?_)
 ·obtain⟨_,rfl,_⟩:=mK h;rfl
 ·symm;obtain⟨p,rfl,tl,tb,L,g,st,pd,tr,pl,x,lk,P6,zV,hw,kk⟩:=mK h;nofun;have nd:=iI.nd;refine⟨_,(ag (bc (aL oA (ar ai (c8 bj T.aP (bp (pv 0) rfl) (aa (bp (pv 0) rfl) af)) ae) (a6 (aa aZ (aa aZ af))) rfl) (aj (aR (bp (pv 0) rfl)))
   aW)
  (aj (aR (aK xb (aa (bp (pv 0) rfl) (aa (c8 jM T.aP (bp (pv 0) rfl) (aa (bp (pv 0) rfl) af)) af)))))),?_⟩
  have sl:=sizeLine_eq;symm;obtain⟨dp,c,sv,pv,xs,hp,co,nQ,rp,tP,al⟩:=pl.ex;have lp:∀{a b c d e:V},List.lookup (aac "what_at") [(aac "spots",a),(aac "mosts",b),(aac "first",c),(aac "whats",d),(aac "tables",e)]=none:=dP (by ac_rfl) (by ac_rfl) (by ac_rfl) (by ac_rfl) (by ac_rfl);have zP:∀{a b c d e:V},List.lookup (aac "end_worth") [(aac "spots",a),(aac "mosts",b),(aac "first",c),(aac "whats",d),(aac "tables",e)]=none:=dP (by ac_rfl) (by ac_rfl) (by ac_rfl) (by ac_rfl) (by ac_rfl);obtain⟨dc,sp,mo,wh,us,Ak,h1,_⟩:=id co;nofun;have h1:=aT _ _ h1;refine aN (λN=>∀w,wM g.cs st.2 x=some w->∀H1,aw H H1->N [~~~p] H1) (λN hN=>?_) ?_
  ·dsimp?[du,cg,ky,rInT];refine⟨_,_,_,hp,T.a9,T.na_Play_course,_,jq,c,rfl,_,_,h1,lp,_,_,_,hp,T.a9,T.na_Play_state,_,gE,bG L H,aT,g,co.co,st.1,st.2,nQ.mono aT,x,lk,λu ru=>?_⟩;symm;obtain⟨q,vk,rfl,hq⟩:=jr ru;nofun;have hq:=aT _ _ hq;refine⟨q,rfl,_,hq,_,at0,∅,λt1 H1 s1 n1 e1=>?_⟩;refine⟨_,e1,rfl,rfl,?_⟩;have go:lg x=aac "throw"\/lg x=aac "pick"->w6 g st pd x=pd:=λh=>by
    rcases h with h | h
    ·obtain⟨_,_,_,_,rfl⟩:=mr h;rfl
    ·obtain⟨_,_,rfl⟩:=sU h;rfl
   have no:¬(lg x=aac "throw"\/lg x=aac "pick")->∃w,wM g.cs st.2 x=some w:=λh=>by
    cases x with
    | ask c k a b=>exact absurd rfl (P6 c k a b)
    | fin t b=>exact⟨_,rfl⟩
    | score c=>exact⟨_,rfl⟩
    | pick w rs=>exact absurd (.inr rfl) h
    | dM p t b rs=>exact absurd (.inl rfl) h
   by_cases ek:lg x=aac "throw"\/lg x=aac "pick"
   ·rw[if_pos (by rcases ek with e | e <;>rw[e] <;>ac_rfl)];exact⟨_,_,_,s1 _ _ hp,T.a9,T.na_Play_paid,_,yA,kk _ _ s1 (by rw[go ek];exact rp.mono (aT.trans s1))⟩
   ·obtain⟨w,ew⟩:=no ek;rw[if_neg (by
     intro z;refine ek ?_;cases x with
     | ask c k a b=>exact absurd rfl (P6 c k a b)
     | fin t b=>exact absurd (show C5 (V.str "end") [V.str "throw",V.str "pick"]=true from z) ∅
     | score c=>exact absurd (show C5 (V.str "score") [V.str "throw",V.str "pick"]=true from z) ∅
     | pick w rs=>exact .inr rfl
     | dM p t b rs=>exact .inl rfl)]
    exact hN w ew _ s1
  rintro w ew H1 s1;dsimp?[du,cg,FV,pq];refine⟨_,_,_,s1 _ _ hp,T.a9,T.na_Play_paid,_,yA,_,_,_,s1 _ _ hp,T.a9,T.na_Play_course,_,jq,c,rfl,_,_,s1 _ _ h1,zP,_,_,_,s1 _ _ hp,T.a9,T.na_Play_state,_,gE,g,co.co.mono (aT.trans s1),pl.good,st.1,st.2,nQ.mono (aT.trans s1),pl.len,x,lk,w.1,w.2,ew,λu H2 s2 ru=>⟨pd,rp.mono (aT.trans (s1.trans s2)),w,ru,zV,hw w ew,λr H3 s3 n3 e3=>kk _ _ (s1.trans (s2.trans s3)) ?_⟩⟩;unfold w6;rw[ew];exact b9.mpr ⟨r,rfl,e3⟩
theorem gi:aS ["self"] ["self"] (aq (inClass (top 38) 3)):=.mk
theorem B6 (T:0|||0):dG P w K mg base (cV P w) 8 aA "open_ways" ["self"] (B4 aA ah):=by
 have bj:=jL T;have kG:=IC T;have kI:=Iw T;refine T.km.dF (λ_ _ _ _ _ _=>gA λ_=>rfl) λf fd F=>F.dZ gi (λvs H Q E h=>?_) (λbY A outer s H vs Q E hr h=>?_)
 ·obtain⟨_,rfl,_⟩:=mK h;rfl
 ·symm;obtain⟨p,rfl,tl,tb,L,g,st,pd,tr,pl,x,lk,ds,od,kk⟩:=mK h;nofun;have nd:=gi.nd;refine⟨_,(ag (bc (aL bo (ar ai (c8 bj T.aP (bp (pv 0) rfl) (aa (bp (pv 0) rfl) af)) ae) aZ (aQ _)) (aj (aR (cj rfl (N:=["self"]) (so:=aq (inClass (top 38) 3)) (N':=["value","part"]) (k:=2) (fr:=[]) rfl rfl ⟨rfl,∅,∅,∅,rfl,∅,∅⟩ (bh (K:=K) (c8 kG T.aP (bp (pv 0) rfl) (aa (bp (pv 0) rfl) af))) (λ_ _ _ _ _=>(eP (K:=K) (n:=2) rfl (bH (aV (i:=0) (show(["value","part"]:List Str).Nodup by ac_rfl) rfl (.inl rfl)) (bH (aV (i:=1) (show(["value","part"]:List Str).Nodup by ac_rfl) rfl (.inl rfl)) eO)))) (λ_ _ _ _ _=>dk)
   (λ_ _ _ _ _=>(pv 0)))))
   aW)
  (aj (aR (c8 kI T.aP (bp (pv 0) rfl) (aa (bp (pv 0) rfl) af))))),?_⟩
  have sl:=sizeLine_eq;symm;obtain⟨dp,c,sv,pv,xs,hp,co,nQ,rp,tP,al⟩:=pl.ex;obtain⟨dc,sp,mo,wh,us,Ak,h1,_⟩:=id co;nofun;have h1:=aT _ _ h1;have lp:∀{a b c d e:V},List.lookup (aac "what_at") [(aac "spots",a),(aac "mosts",b),(aac "first",c),(aac "whats",d),(aac "tables",e)]=none:=dP (by ac_rfl) (by ac_rfl) (by ac_rfl) (by ac_rfl) (by ac_rfl);have zP:∀{a b c d e:V},List.lookup (aac "table_at") [(aac "spots",a),(aac "mosts",b),(aac "first",c),(aac "whats",d),(aac "tables",e)]=none:=dP (by ac_rfl) (by ac_rfl) (by ac_rfl) (by ac_rfl) (by ac_rfl);have YK:∀{a b c d e:V},List.lookup (aac "words_at") [(aac "spots",a),(aac "mosts",b),(aac "first",c),(aac "whats",d),(aac "tables",e)]=none:=dP (by ac_rfl) (by ac_rfl) (by ac_rfl) (by ac_rfl) (by ac_rfl)
  by_cases ek:lg x=aac "throw"
  ·symm;obtain⟨cY,t,b,rs,rfl⟩:=mr ek;obtain⟨ps,rfl,gl,rfl⟩:=od;nofun;refine aN (λN=>True) (λN _=>?_) trivial;change tIfS _ _ _ _ [~~~p] H;refine cH (λY N k=>?_) ?_
   ·dsimp?[du,cg,ky];refine⟨_,_,_,hp,T.a9,T.na_Play_course,_,jq,c,rfl,_,_,h1,lp,_,_,_,hp,T.a9,T.na_Play_state,_,gE,bG L H,aT,g,co.co,st.1,st.2,nQ.mono aT,_,lk,λu ru=>?_⟩;symm;obtain⟨q,vk,rfl,hq⟩:=jr ru;nofun;have hq:=aT _ _ hq;refine⟨q,rfl,_,hq,_,at0,rfl,?_⟩;rw[if_pos (congrArg V.str ek)];exact k
   have key:∀v H1,K3 p tl tb H H1->di aA ah L H1 p tl tb g st pd tr->Rep H1 (kc (ku ps)) v->(∀D,H1 D=none->H D=none)->∃a,v=.ref a/\(∃xs,bC K H1 a xs)/\fN (vj K a) (yZ K 2 (gCons (gName 0) (gCons (gName 1) gNil))) pP (tVar 0) [none,none] H1 λys H2=>∀D:Addr,H1 D=none->H2 D=none->Q (V.ref D) (upd H2 D (HO.lst ys)):=λv H1 k1 tQ rt nn=>by
    symm;obtain⟨a,ys,rfl,ha,ry⟩:=aY.mp rt;nofun;refine⟨a,rfl,⟨_,bC.of ha⟩,?_⟩;have len:=ry.length;rw[aad] at len;have l13:=(yn ps gl).1.2.2.1;have S:Src (vj K a) (aw H1) ys.length _:=src_list (λH' s'=>bC.of (s' _ _ ha));rw[<-len] at S;refine oK (K:=K) (ku ps) (λr=>some r.1) S (λ_ _ _ _ h=>h.1) ⋯ ?_ ?_
    ·rintro i r y er ⟨_,ey⟩;symm;obtain⟨d,ed,rd⟩:=ry.get ey;nofun;rw[aaf,er] at ed;cases ed;symm;obtain⟨p1,q1,rfl,e1,e2⟩:=nK.mp rd;nofun;exact⟨p1,_,_,rfl,iP.of e1,λY N y1 y2=>by dsimp?[];exact y1 _ rfl⟩
    ·intro D n1 n2;have sD:=au (o:=.lst (List.map V.int ((ku ps).filterMap λr=>some r.1))) n1;refine kk D _ (k1.trans (.of sD)) (by rw[o7,uR n1];exact tQ) (nn _ n1) (aY.mpr ⟨D,_,rfl,ao,?_⟩);rw[List.filterMap_eq_map',show List.map ((λr:Int×Int×Int=>r.1)) (ku ps)=ff ps from(yn ps gl).2];exact ints_rep _
   symm;obtain⟨kvs,tN,knd,MG,MH⟩:=id pl.MB;nofun;have YL:kvs.length<=100:=by
    have:=u6 knd MG;rw[aad,aad] at this;exact aao this pl.good.lp
   have P7:p≠tb:=λz=>by rw[z,tN] at hp;cases hp
   have Sn:tl≠tb:=λz=>by rw[z,tN] at tP;cases tP
   dsimp?[du,cg,FX];refine⟨_,_,_,hp,T.a9,T.na_Play_course,_,jq,c,rfl,_,_,h1,zP,_,_,_,hp,T.a9,T.na_Play_state,_,gE,g,st.1,st.2,tb,co.mono (BY pl.mem.2.2),nQ.mono aT,kvs,tN,⋯,ps,t,b,rs,lk,gl,?_,λv hv=>?_,λhv p2 H1 s1 n2 r2=>?_⟩
   ·exact Ei gl
   ·symm;obtain⟨So,t',b',Wh,jn,rv⟩:=MH _ _ hv;nofun;rw[lk] at jn
    injection jn with jn
    injection jn with e1
    have e1:=nP e1;subst e1;exact key v H (.of (aw.refl _)) pl (rv.mono aT) λ_ h=>h
   ·have k2:K3 p tl tb H (upd H1 tb (.dK (kvs++ [(Sum.inr st.1,.ref p2)]))):=λa o _ _ h3 h=>by rw[av h3];exact s1 _ _ h
    have s2:=k2.cG pl.mem.1 pl.mem.2.1 pl.mem.2.2;have YM:p2∉L:=pl.out n2;have tup:∀a vs,H1 a=some (.tup vs)->upd H1 tb (.dK (kvs++ [(Sum.inr st.1,.ref p2)])) a=some (.tup vs)/\a∉L:=λa vs h=>by
     refine⟨by rw[av (λz=>by rw[z,s1 _ _ tN] at h;cases h)];exact h,λm=>?_⟩;symm;obtain⟨o,ho,no⟩:=pl.al a m;nofun;rw[s1 _ _ ho] at h;cases h;exact no _ rfl
    have YN:p2≠tb:=λz=>by rw[z,tN] at n2;cases n2
    have r3:Rep (bG L (upd H1 tb (.dK (kvs++ [(Sum.inr st.1,.ref p2)])))) (kc (ku ps)) (.ref p2):=Em r2 (λo h=>by rw[cA YM,av YN];exact h) λa vs h=>by
     obtain⟨x1,x2⟩:=tup a vs h;rw[cA x2];exact x1
    have D2:di aA ah L (upd H1 tb (.dK (kvs++ [(Sum.inr st.1,.ref p2)]))) p tl tb g st pd tr:=by
     refine pl.next k2 (by rw[av P7];exact s1 _ _ hp) co (nQ.mono s2) (rp.mono s2) (by rw[av Sn];exact s1 _ _ tP) (Dc.up s2 al) ⟨_,ao,?_,λk hk=>?_,λnm v e=>?_⟩ pl.len pl.MC
     ·rw[aak,aae,aaN];refine List.nodup_append.mpr ⟨knd,by simp,λa ha b hb=>?_⟩;rw[abj] at hb;intro z;rw[z,hb] at ha;symm;obtain⟨x,hx,ex⟩:=abi.mp ha;nofun;unfold dI at hv;have hv:kvs.find? (λkv=>decide (kv.1=Sum.inr st.1))=none:=by simpa using hv
      exact absurd (List.find?_eq_none.mp hv x hx) (by simp [ex])
     ·rw[aak,List.mem_append] at hk;rcases hk with hk | hk
      ·exact MG k hk
      ·rw[aae,aaN,abj] at hk;rw[hk];exact abi.mpr ⟨_,c7 lk,rfl⟩
     ·rw[uU hv] at e
      by_cases z:(Sum.inr st.1:Key)=Sum.inr nm
      ·rw[if_pos z] at e;cases e
       injection z with z
       exact⟨ps,t,b,rs,by rw[<-z];exact lk,r3⟩
      ·rw[if_neg z] at e;symm;obtain⟨So,t',b',Wh,jn,rv⟩:=MH _ _ e;nofun;exact⟨So,t',b',Wh,jn,rv.mono s2⟩
    obtain⟨a,ea,k⟩:=key (.ref p2) _ k2 D2 (r3.mono aT) λD h=>by
     by_cases z:D=tb
     ·rw[z,ao] at h;cases h
     ·rw[av z] at h;exact none_of s1 h
    cases ea;exact k
  ·subst_vars;refine aN (λN=>N [~~~p] H) (λN hN=>?_) ?_
   ·change tIfS _ _ _ _ [~~~p] H;refine bL (λY N k=>?_) hN;dsimp?[du,cg,ky];refine⟨_,_,_,hp,T.a9,T.na_Play_course,_,jq,c,rfl,_,_,h1,lp,_,_,_,hp,T.a9,T.na_Play_state,_,gE,bG L H,aT,g,co.co,st.1,st.2,nQ.mono aT,_,lk,λu ru=>?_⟩;symm;obtain⟨q,vk,rfl,hq⟩:=jr ru;nofun;have hq:=aT _ _ hq;refine⟨q,rfl,_,hq,_,at0,rfl,?_⟩;rw[if_neg (λz=>ek (by injection z))];exact k
   dsimp?[du,cg,FT];refine⟨_,_,_,hp,T.a9,T.na_Play_course,_,jq,c,rfl,_,_,h1,YK,_,_,_,hp,T.a9,T.na_Play_state,_,gE,g,co.co.mono aT,pl.good,st.1,st.2,nQ.mono aT,pl.len,x,lk,λa H' s' na ra=>kk a H' (.of s') (pl.same (kf s' na)) na ?_⟩;have e:ds=(eC g.cs st.2 x).map λr=>Dat.str r.word:=by
    cases x with
    | dM cY t b rs=>exact absurd rfl ek
    | ask c k a b=>exact od
    | fin t b=>exact od
    | score c=>exact od
    | pick w rs=>exact od
   rw[e];exact ra
theorem pz:aS ["self","step","state","pay"] ["self","step","state","pay"] (aq (inClass (top 38) 4)):=.mk
theorem Gg (T:0|||0):dG P w K mg base (cV P w) 4 aA "go" ["self","step","state","pay"] (II aA ah aB):=by
 have xb:=B5 T;refine T.wK.dF (λ_ _ _ _ _ _=>sF λ_ _ _ _=>rfl) λf fd F=>F.J2 pz (λvs H Q E h=>?_) (λbY A outer s H vs Q E hr h=>?_)
 ·obtain⟨_,_,_,_,rfl,_⟩:=Bu h;rfl
 ·symm;obtain⟨p,step,B7,qT,rfl,tl,tb,L,g,st,pd,tr,pl,xf,fH,Sq,YO,py,YQ,zV,B8,kE,kQ⟩:=Bu h;nofun;clear G_;have nd:=pz.nd;have Ah:A.handled=none:=hr.hd;refine⟨_,(ag (bc (aL bo (aU bK (by rfl) T.z_len aav (aa (bp (pv 0) rfl) af)) (kg rfl T.c_MOST_STEPS) (aQ _)) (aj (fM rfl T.k_TooMany T.x_TooMany Ah (aa aZ af)))
   aW)
  (ag (bw (d7 aaw aaX aaY c5.r (bp (pv 0) rfl) (aa (a6 (aa (pv 1) (aa (bp (pv 0) rfl) (aa (bp (pv 0) rfl) af)))) af)))
  (ag (fJ (pv 0) (pv 2) rfl)
  (aj (fJ (pv 0) (aK xb (aa (bp (pv 0) rfl) (aa (pv 3) af))) rfl))))),?_⟩
  refine(?_:let bQ:TS:=_;let bR:TS:=_;let bS:TS:=_;let df:TS:=_;tSeq bQ (tSeq bR (tSeq bS df)) _ _ _);intro bQ bR bS df;have sl:=sizeLine_eq;symm;obtain⟨dp,c,sv,pv,xs,hp,co,nQ,rp,tP,al⟩:=pl.ex;nofun;clear G_;have xl:=al.length;refine aN (λN=>tr.length<200->N [~~~p,some (.str step),some B7,some qT] H) (λN hN=>?_) ?_
  ·dsimp?[du,tRaise];refine⟨_,_,_,hp,T.a9,T.na_Play_trail,_,BZ,tl,rfl,_,tP,iw (λe=>⟨∅,kE ⋯ _ (aw.refl _)⟩) (λe=>hN ⋯)⟩
  intro l2;have Sr:p≠tl:=λz=>by rw[z,tP] at hp;cases hp
  symm;obtain⟨kvs,tN,_⟩:=id pl.MB;nofun;clear G_;have P7:p≠tb:=λz=>by rw[z,tN] at hp;cases hp
  have Sn:tl≠tb:=λz=>by rw[z,tN] at tP;cases tP
  refine aN (λN=>∀t H1,aw H H1->H t=none->H1 t=some (.tup [.str step,sv,pv])->N [~~~p,some (.str step),some B7,some qT] (upd H1 tl (.lst (xs++ [.ref t])))) (λN hN=>?_) ?_
  ·dsimp?[du,dS];refine⟨_,_,_,hp,T.a9,T.na_Play_trail,_,BZ,.inl ⟨rfl,_,bC.of tP⟩,_,_,_,hp,T.a9,T.na_Play_state,_,gE,_,_,_,hp,T.a9,T.na_Play_paid,_,yA,⋯,λt H1 s1 n1 e1=>?_⟩;exact⟨tl,rfl,_,s1 _ _ tP,⋯,hN t H1 s1 n1 e1⟩
  rintro t H1 s1 nt ht;have YR:=s1 _ _ hp;refine aN (λN=>N [~~~p,some (.str step),some B7,some qT] (upd (upd H1 tl (.lst (xs++ [.ref t]))) p (.ins aA dp (jo (.ref c) B7 pv (.ref tl))))) (λN hN=>?_) ?_
  ·dsimp?[ng];rw[<-ME (b:=sv)] at hN;exact⟨_,_,_,by rw[av Sr];exact YR,T.a9,T.na_Play_state,B3,hN⟩
  generalize C6:upd (upd H1 tl (.lst (xs++ [.ref t]))) p (.ins aA dp (jo (.ref c) B7 pv (.ref tl)))=H2;have k2:K3 p tl tb H H2:=λa o h1 h2 h3 h=>by rw[<-C6,av h1,av h2];exact s1 _ _ h
  have p2:H2 p=some (.ins aA dp (jo (.ref c) B7 pv (.ref tl))):=by rw[<-C6,ao]
  have t2:H2 tl=some (.lst (xs++ [.ref t])):=by rw[<-C6,av (Ne.symm Sr),ao]
  have b2:H2 tb=some (.dK kvs):=by rw[<-C6,av (Ne.symm P7),av (Ne.symm Sn)];exact s1 _ _ tN
  have n2:H2 t=some (.tup [.str step,sv,pv]):=by
   rw[<-C6,av (λz=>by rw[z,hp] at nt;cases nt),av (λz=>by rw[z,tP] at nt;cases nt)];exact ht
  clear C6;have sm:=k2.cG pl.mem.1 pl.mem.2.1 pl.mem.2.2;dsimp?[du,ng,pq];refine⟨_,_,_,p2,T.a9,T.na_Play_paid,_,yA,pd,rp.mono (sm.trans aT),py,YQ.mono (sm.trans aT),zV,B8,λr H3 s3 nr er=>⟨_,_,_,s3 _ _ p2,T.a9,T.na_Play_paid,B3,?_⟩⟩;rw[MF];have YS:r≠p:=λz=>by rw[z,p2] at nr;cases nr
  have k4:K3 p tl tb H (upd H3 p (.ins aA dp (jo (.ref c) B7 (.ref r) (.ref tl)))):=λa o h1 h2 h3 h=>by rw[av h1];exact s3 _ _ (k2 a o h1 h2 h3 h)
  have s4:=k4.cG pl.mem.1 pl.mem.2.1 pl.mem.2.2;have YT:H r=none:=by
   cases h:H r with
   | none=>rfl
   | some o=>rw[k2 _ _ YS (λz=>by rw[z,t2] at nr;cases nr) (λz=>by rw[z,b2] at nr;cases nr) h] at nr;cases nr
  have fr:∀{a o},H a=none->H3 a=some o->bG L (upd H3 p (.ins aA dp (jo (.ref c) B7 (.ref r) (.ref tl)))) a=some o:=λ{a o} n h=>by
   rw[cA (pl.out n),av (λz=>by rw[z,hp] at n;cases n)];exact h
  refine kQ l2 _ k4 (pl.next k4 ao co (Sq.mono s4) (b9.mpr ⟨r,rfl,fr YT er⟩) (by rw[av (Ne.symm Sr)];exact s3 _ _ t2) ?_ (pl.MB.mono s4 λo h=>?_) YO ?_)
  ·exact(Dc.up s4 al).append (Al.one ⟨t,sv,pv,rfl,fr nt (s3 _ _ n2),nQ.mono s4,rp.mono s4⟩)
  ·rw[tN] at h;rw[av (Ne.symm P7),s3 _ _ b2];exact h
  ·intro e he;rcases List.mem_append.mp he with he | he
   ·exact pl.MC e he
   ·rw[abj.mp he];exact pl.len
theorem mX:aS ["self","word","rows"] ["self","word"] (aq (inClass (top 38) 5)):=.mk
theorem IL (T:0|||0):dG P w K mg base (cV P w) 5 aA "say" ["self","word"] (Gd aA ah aH aB):=by
 have dW:=BR T;have eY:=BQ T;have mv:=Gg T;refine T.uM.dF (λ_ _ _ _ _ _=>d4 λ_ _=>rfl) λf fd F=>F.J2 mX (λvs H Q E h=>?_) (λbY A outer s H vs Q E hr h=>?_)
 ·obtain⟨_,_,rfl,_⟩:=LF h;rfl
 ·symm;obtain⟨p,word,rfl,tl,tb,L,g,st,pd,tr,pl,xf,x,lk,zV,kE,kQ⟩:=LF h;nofun;have nd:=mX.nd;have Ah:A.handled=none:=hr.hd;refine⟨_,(ag (j7 (i:=2) rfl nd rfl rfl (N:=["self","word","rows"]) (so:=aq (inClass (top 38) 5)) (N':=["row","word"]) (k:=1) (fr:=[1]) rfl rfl ⟨rfl,∅,∅,∅,rfl,∅,∅⟩ (bh (K:=K) (c8 dW T.aP (bp (pv 0) rfl) (aa (bp (pv 0) rfl) af))) (λ_ _ _ _ _=>(aV (i:=0) (show(["row","word"]:List Str).Nodup by ac_rfl) rfl (.inl rfl))) (λ_ _ _ _ _=>(eA (aL bo (ar ai (pv 0) ae) (pv 1) (aQ _))))
   (λ_ _ _ _ _=>(pv 0)))
  (ag (bc (aL bo (aU bK (by rfl) T.z_len aav (aa (pv 2) af)) ae (aQ _)) (aj (fM rfl T.k_NoStep T.x_NoStep Ah (aa aZ af)))
   aW)
  (aj (bw (c8 mv T.a9 (pv 0) (aa (pv 1) (aa (c8 eY T.aP (bp (pv 0) rfl) (aa (bp (pv 0) rfl) (aa (ar aX (pv 2) ae) (aa ae af)))) (aa (a6 (aa ae (aa ae af))) af))) (hx:=xQ)))))),?_⟩
  refine(?_:let bQ:TS:=_;let bR:TS:=_;let bS:TS:=_;tSeq bQ (tSeq bR bS) _ _ _);intro bQ bR bS;have sl:=sizeLine_eq;symm;obtain⟨dp,c,sv,pv,xs,hp,co,nQ,rp,tP,al⟩:=pl.ex;obtain⟨dc,sp,mo,wh,us,Ak,h1,_⟩:=id co;nofun;have h1:=aT _ _ h1;have lp:∀{a b c d e:V},List.lookup (aac "open_rows") [(aac "spots",a),(aac "mosts",b),(aac "first",c),(aac "whats",d),(aac "tables",e)]=none:=dP (by ac_rfl) (by ac_rfl) (by ac_rfl) (by ac_rfl) (by ac_rfl);have zP:∀{a b c d e:V},List.lookup (aac "by_row") [(aac "spots",a),(aac "mosts",b),(aac "first",c),(aac "whats",d),(aac "tables",e)]=none:=dP (by ac_rfl) (by ac_rfl) (by ac_rfl) (by ac_rfl) (by ac_rfl);have gx:=pl.good.wt _ (c7 lk);have J0:(eC g.cs st.2 x).length<=100:=by
   cases x with
   | pick w rs=>exact aao (List.length_filter_le _ _) gx.1
   | dM cY t b rs=>exact aah _
   | ask c k a b=>exact aah _
   | fin t b=>exact aah _
   | score c=>exact aah _
  refine aN (λN=>∀H1,aw H H1->∀a ys,H1 a=some (.lst ys)->a7 (bG L H) ((((eC g.cs st.2 x).filter λr=>decide (r.word=word)).map C9).map mO) ys->N [~~~p,some (.str word),~~~a] H1) (λN hN=>?_) ?_
  ·dsimp?[du,cg,BH];refine⟨_,_,_,hp,T.a9,T.na_Play_course,_,jq,c,rfl,_,_,h1,lp,_,_,_,hp,T.a9,T.na_Play_state,_,gE,bG L H,aT,g,co.co,pl.good,st.1,st.2,nQ.mono aT,pl.len,x,lk,λa ys H1 s1 na ha ra=>?_⟩;have len:=ra.length;rw[aad,aad] at len;have zl:(ys.zip (eC g.cs st.2 x)).length=ys.length:=by rw[List.length_zip];lia
   refine⟨⟨_,bC.of ha⟩,?_⟩;have S:Src (vj K a) (aw H1) ys.length _:=src_list (λH' s'=>bC.of (s' _ _ ha));rw[<-zl] at S;refine eJ (ys.zip (eC g.cs st.2 x)) (λy=>if decide (y.2.word=word)=true then some y.1 else none) S (λ_ _ _ _ h=>h.1) ⋯ ?_ ?_
   ·rintro i ⟨y,r⟩ z MI ⟨_,ez⟩ Y N3 y1 y2;obtain⟨e1,e2⟩:=List.getElem?_zip_eq_some.mp MI;rw[e1] at ez;cases ez;symm;obtain⟨r',q,_,b1,b2,b3,er,rfl,hq,_,_⟩:=kz ra e1;nofun;rw[e2] at er;cases er;have hq:=s1 _ _ (aT _ _ hq);dsimp?[hq]
    by_cases e:r.word=word
    ·rw[if_pos e];exact y1 _ (if_pos (decide_eq_true e))
    ·rw[if_neg e];exact y2 (if_neg (by simpa using e))
   ·intro D n1 n2;exact hN _ (s1.trans (au n2)) D _ ao (gY ra)
  rintro H1 s1 a ys ha ry;have pA:=ry.length;rw[aad,aad] at pA;have hd:((eC g.cs st.2 x).filter λr=>decide (r.word=word)).head?=(eC g.cs st.2 x).find? λr=>decide (r.word=word):=by rw[List.head?_filter]
  subst_vars;cases er:(eC g.cs st.2 x).filter λr=>decide (r.word=word) with
  | nil=>
   rw[er] at hd pA;refine aN (λ_=>True) (λN _=>?_) trivial;dsimp?[ha,tRaise];rw[if_pos (by rw[aa0] at pA;lia)];exact⟨∅,kE hd.symm _ s1⟩
  | cons r rest=>
   rw[er] at hd pA ry;symm;obtain⟨y,ys,rfl,r1,_⟩:=aO.mp ry;nofun;refine aN (λN=>N [~~~p,some (.str word),~~~a] H1) (λN hN=>?_) ?_
   ·dsimp?[ha,tRaise];rw[if_neg ⋯];exact hN
   symm;obtain⟨f',fh,ak,kM,kk⟩:=kQ r hd.symm;nofun;have kC:r∈eC g.cs st.2 x:=(List.mem_filter.mp (by rw[er];exact aas)).1;have gr:r.ds.length<=100/\∀d∈r.ds,fQ g.cs d:=by
    cases x with
    | pick w rs=>exact gx.2 r (List.mem_filter.mp kC).1
    | dM cY t b rs=>cases kC
    | ask c k a b=>cases kC
    | fin t b=>cases kC
    | score c=>cases kC
   have tQ:=pl.same s1;have Ss:∀{a b c d:V},List.lookup (aac "go") (jo a b c d)=none:=by intro a b c d;unfold jo;rw[bI ∅,bI ∅,bI ∅,bI ∅];rfl
   dsimp?[du,cg,BF,II];refine⟨_,_,s1 _ _ hp,Ss,_,_,_,s1 _ _ hp,T.a9,T.na_Play_course,_,jq,c,rfl,_,_,s1 _ _ h1,zP,_,_,_,s1 _ _ hp,T.a9,T.na_Play_state,_,gE,_,ha,_,at0,g,co.co.mono (aT.trans s1),pl.good,st.1,st.2,nQ.mono (aT.trans s1),_,_,r.ds,r.to,r1.mono (aT.trans s1),gr.2,gr.1,pl.len,f',fh,ak,λp' l' H2 s2 n1 n2 e1 e2=>⟨⋯,λt H3 s3 nt et=>?_⟩⟩;have iV:=s1.trans (s2.trans s3);have fr:∀{a o},H a=none->H3 a=some o->bG L H3 a=some o:=λ{a o} n h=>by rw[cA (pl.out n)];exact h
   have P8:=pl.same iV;exact⟨tl,tb,L,g,st,pd,tr,P8,xf,(fh,r.ds.foldl (ie g.cs 0) st.2),⟨p',l',rfl,fr (none_of s1 n1) (s3 _ _ e1),fr (none_of s1 n2) (s3 _ _ e2)⟩,(c9 _ _).trans pl.len,(0,1),b9.mpr ⟨t,rfl,fr (none_of (s1.trans s2) nt) et⟩,zV,iU 0 ∅ ∅,λz H' s'=>kM z H' (iV.trans s'),λz H' k' vm=>kk z H' ((K3.of iV).trans k') vm⟩
theorem js:aS ["self","value","what"] ["self","value"] (aq (inClass (top 38) 6)):=.mk
theorem IM (T:0|||0):dG P w K mg base (cV P w) 9 aA "throw" ["self","value"] (Ge aA ah aB):=by
 have bj:=jL T;have xg:=IJ T;have eM:=B6 T;have kJ:=Mz T;have mv:=Gg T;refine T.qc.dF (λ_ _ _ _ _ _=>d4 λ_ _=>rfl) λf fd F=>F.J2 js (λvs H Q E h=>?_) (λbY A outer s H vs Q E hr h=>?_)
 ·obtain⟨_,_,rfl,_⟩:=zE h;rfl
 ·symm;obtain⟨p,v,rfl,tl,tb,L,g,st,pd,tr,pl,xf,ps,t,b,rs,lk,gl,hv,v0,v1,r,ro,f',fh,ak,zV,B8,kM,kk⟩:=zE h;nofun;have nd:=js.nd;have Ah:A.handled=none:=hr.hd;refine⟨_,(ag (aG (i:=2) (c8 bj T.aP (bp (pv 0) rfl) (aa (bp (pv 0) rfl) af)))
  (ag (bc (PW.pt (pw_or (aL mC (ar ai (pv 2) ae) aZ (aQ _)) (pw_or (vz (gM (aK xg (aa (pv 1) af)))) (pw_or1 (aL (pU (K:=K)) (pv 1) (lU eM T.a9 (pv 0)) rfl))))) (aj (fM rfl T.k_NoStep T.x_NoStep Ah (aa aZ af)))
   aW)
  (aj (bw (c8 mv T.a9 (pv 0) (aa (dD wu (by rfl) T.z_str rfl (aa (pv 1) af)) (aa (c8 kJ T.aP (bp (pv 0) rfl) (aa (bp (pv 0) rfl) (aa (pv 1) af))) (aa (ar ai (pv 2) ae) af))) (hx:=xQ)))))),?_⟩
  refine(?_:let bQ:TS:=_;let bR:TS:=_;let bS:TS:=_;tSeq bQ (tSeq bR bS) _ _ _);intro bQ bR bS;have sl:=sizeLine_eq;symm;obtain⟨dp,c,sv,pv,xs,hp,co,nQ,rp,tP,al⟩:=pl.ex;obtain⟨dc,sp,mo,wh,us,Ak,h1,_⟩:=id co;nofun;have h1:=aT _ _ h1;have lp:∀{a b c d e:V},List.lookup (aac "what_at") [(aac "spots",a),(aac "mosts",b),(aac "first",c),(aac "whats",d),(aac "tables",e)]=none:=dP (by ac_rfl) (by ac_rfl) (by ac_rfl) (by ac_rfl) (by ac_rfl);have zP:∀{a b c d e:V},List.lookup (aac "by_value") [(aac "spots",a),(aac "mosts",b),(aac "first",c),(aac "whats",d),(aac "tables",e)]=none:=dP (by ac_rfl) (by ac_rfl) (by ac_rfl) (by ac_rfl) (by ac_rfl);have Ss:∀{a b c d:V},List.lookup (aac "go") (jo a b c d)=none:=by intro a b c d;unfold jo;rw[bI (by ac_rfl),bI (by ac_rfl),bI (by ac_rfl),bI (by ac_rfl)];rfl
  have low:∀{a b c d:V},List.lookup (aac "open_ways") (jo a b c d)=none:=by intro a b c d;unfold jo;rw[bI ∅,bI ∅,bI ∅,bI ∅];rfl
  subst_vars;refine aN (λN=>∀q x1 x2 x3,bG L H q=some (.tup [.str "throw",x1,x2,x3])->Rep (bG L H) (dq (t,b)) x2->N [~~~p,v⁻¹,~~~q] H) (λN hN=>?_) ?_
  ·dsimp?[du,cg,ky];refine⟨_,_,_,hp,T.a9,T.na_Play_course,_,jq,c,rfl,_,_,h1,lp,_,_,_,hp,T.a9,T.na_Play_state,_,gE,bG L H,aT,g,co.co,st.1,st.2,nQ.mono aT,_,lk,λu ru=>?_⟩;symm;obtain⟨q,v1,v2,v3,v4,rfl,hq,r1,r2,r3,r4⟩:=cS.mp (show Rep _ (.tup _) u from ru);nofun;rw[aI.mp r1] at hq;exact hN q _ _ _ hq r3
  rintro q x1 x2 x3 hq rt;have gK:=aT _ _ hq;subst_vars;refine aN (λN=>∀H1,K3 p tl tb H H1->di aA ah L H1 p tl tb g st pd tr->N [~~~p,v⁻¹,~~~q] H1) (λN hN=>?_) ?_
  ·dsimp?[cg,Gb,B4,gK];rw[if_neg (by simp),if_neg ∅];refine⟨_,_,hp,low,tl,tb,L,g,st,pd,tr,pl,_,lk,_,⟨ps,rfl,gl,rfl⟩,λa H1 k1 tQ na ra=>?_⟩;symm;obtain⟨a',ys,e0,ha,ry⟩:=aY.mp ra;nofun;cases e0;obtain rfl:=mq ry;refine⟨_,_,rfl,.inl (bC.of ha),rfl,zU _,_,rfl,?_⟩;rw[ints_in hv];exact hN _ k1 (tQ.same cX)
  rintro H1 k1 tQ;symm;obtain⟨dp1,c1,Wi,u9,xs1,Su,Kg,Sv,rp1,YU,al1⟩:=tQ.ex;obtain⟨dc1,sp1,Sw,wh1,us1,ft1,g1,_⟩:=id Kg;nofun;have g1:=aT _ _ g1;have sm:=k1.cG pl.mem.1 pl.mem.2.1 pl.mem.2.2;have FC:=sm _ _ hq;dsimp?[du,cg,L4,II];refine⟨_,_,Su,Ss,?_,_,_,_,Su,T.a9,T.na_Play_course,_,jq,c1,rfl,_,_,g1,zP,_,_,_,Su,T.a9,T.na_Play_state,_,gE,g,Kg.co.mono aT,pl.good,st.1,st.2,Sv.mono aT,pl.len,_,_,_,_,lk,r,ro,f',fh,ak,λp' l' H2 s2 n1 n2 e1 e2=>?_⟩
  ·exact Nat.lt_of_le_of_lt (Nat.log2_le_self _) ⋯
  have fr:∀{a o},H1 a=none->H2 a=some o->bG L H2 a=some o:=λ{a o} n h=>by rw[cA (tQ.out n)];exact h
  have Gh:=mm (L:=L) s2;exact⟨_,s2 _ _ (aT _ _ FC),_,at2,tl,tb,L,g,st,pd,tr,tQ.same s2,xf,(fh,r.2.2.1.foldl (ie g.cs v) st.2),⟨p',l',rfl,fr n1 e1,fr n2 e2⟩,(c9 _ _).trans pl.len,(t,b),rt.mono (sm.trans Gh),zV,B8,λz H' s'=>kM z H' (k1.trans (.of (s2.trans s'))) (tQ.same (s2.trans s')),λz H' k' vm=>kk z H' (k1.trans ((K3.of s2).trans k')) vm⟩
theorem jt:aS ["self"] ["self"] (aq (inClass (top 38) 8)):=.mk
theorem IP (T:0|||0):dG P w K mg base (cV P w) 1 aA "shown" ["self"] (Gf aA ah):=by
 refine T.qb.dF (λ_ _ _ _ _ _=>gA λ_=>rfl) λf fd F=>F.dZ jt (λvs H Q E h=>?_) (λbY A outer s H vs Q E hr h=>?_)
 ·obtain⟨_,rfl,_⟩:=mK h;rfl
 ·symm;obtain⟨p,rfl,tl,tb,L,g,st,pd,tr,pl,xf,lw,kk⟩:=mK h;nofun;have nd:=jt.nd;refine⟨_,(aj (aR (d7 PySem.F.plainAttrs_str PySem.F.slot_str_join PySem.F.type_str_join (uz (K:=K)) aZ (aa (cj rfl (N:=["self"]) (so:=aq (inClass (top 38) 8)) (N':=["step"]) (k:=1) (fr:=[]) rfl rfl ⟨rfl,∅,∅,∅,rfl,∅,∅⟩ (bh (K:=K) (bp (pv 0) rfl)) (λ_ _ _ _ _=>(aV (i:=0) (show(["step"]:List Str).Nodup by ac_rfl) rfl (.inl rfl))) (λ_ _ _ _ _=>dk)
   (λ_ _ _ _ _=>(ar ai (pv 0) ae))) af)))),?_⟩
  have sl:=sizeLine_eq;symm;obtain⟨dp,c,sv,pv,xs,hp,co,nQ,rp,tP,al⟩:=pl.ex;nofun;have xl:=al.length;dsimp?[du];refine⟨rfl,_,_,_,hp,T.a9,T.na_Play_trail,_,BZ,tl,rfl,⟨_,bC.of tP⟩,?_⟩;have S:Src (vj K tl) (aw H) xs.length _:=src_list (λH' s'=>bC.of (s' _ _ tP));rw[xl] at S;refine eJ tr (λe=>some (.str e.1)) S (λ_ _ _ _ h=>h.1) ⋯ ?_ ?_
  ·rintro i e x ee ⟨_,ex⟩ Y N y1 y2;symm;obtain⟨e',Wj,t,B7,qT,rfl,ht,_⟩:=al.get ex;nofun;rw[ee] at Wj;cases Wj;have ht:=aT _ _ ht;unfold pP;refine AO ?_;dsimp?[ht];exact y1 _ rfl
  ·intro D n1 n2;rw[show tr.filterMap (λe=>some (V.str e.1))=(tr.map (·.1)).map V.str by rw[aaM,List.filterMap_eq_map'];rfl];refine⟨tr.map (λe:tO=>e.1),bC.of ao,?_,kk _ (au n2)⟩;refine joinOk_of (B:=20) (λy hy=>?_) (by rw[aad,show(aac " ").length=1 by ac_rfl];lia);symm;obtain⟨e,he,rfl⟩:=abi.mp hy;nofun;exact lw e he
abbrev gG (G H:Hp):Hp:=λa=>match G a with
 | some (.lst _)=>none
 | _=>H a
abbrev dA (G H:Hp):Prop:=∀a ys,G a=some (.lst ys)->∃zs,H a=some (.lst zs)
theorem dA.of {G H:Hp} (s:aw G H):dA G H:=λa ys e=>⟨ys,s _ _ e⟩
theorem dA.trans {G H K:Hp} (s:dA G H) (t:aw H K):dA G K:=λa ys e=>by
 obtain⟨zs,h⟩:=s a ys e;exact⟨zs,t _ _ h⟩
set_option tactic.hygienic true in
theorem gZ {G H:Hp} {a:Addr} (h:∀ys,G a≠some (.lst ys)):gG G H a=H a:=by
 unfold gG
 split
 ·rename_i e;exact absurd e (h _)
 ·rfl
theorem sV {G H:Hp} {a:Addr} {ys:List V} (h:G a=some (.lst ys)):gG G H a=none:=by
 unfold gG;rw[h]
theorem iJ {G H:Hp} {a:Addr} {o:HO} (h:gG G H a=some o):(∀ys,G a≠some (.lst ys))/\H a=some o:=by
 by_cases c:∃ys,G a=some (.lst ys)
 ·obtain⟨ys,e⟩:=c;rw[sV e] at h;cases h
 ·have c:∀ys,G a≠some (.lst ys):=λys e=>c ⟨ys,e⟩;rw[gZ c] at h;exact⟨c,h⟩
theorem qU {G H H':Hp} (s:aw H H'):aw (gG G H) (gG G H'):=λa o e=>by
 obtain⟨c,h⟩:=iJ e;rw[gZ c];exact s _ _ h
theorem B9 {G H:Hp}:aw (gG G H) H:=λa o e=>(iJ e).2
theorem va {G G' H:Hp} (s:dA G G'):aw (gG G' H) (gG G H):=λa o e=>by
 obtain⟨c,h⟩:=iJ e;rw[gZ (λys k=>by obtain⟨zs,z⟩:=s a ys k;exact c zs z)];exact h
theorem iK {G H:Hp} {l:Addr} {ys:List V} {o:HO} (e:G l=some (.lst ys)):gG G (upd H l o)=gG G H:=by
 funext a
 by_cases c:∃ys,G a=some (.lst ys)
 ·obtain⟨zs,z⟩:=c;rw[sV z,sV z]
 ·have c:∀ys,G a≠some (.lst ys):=λys e=>c ⟨ys,e⟩;rw[gZ c,gZ c,av (λz=>by rw[z] at c;exact c ys e)]
abbrev c4 (G H:Hp) (d:Dat) (v:V):Prop:=Rep (gG G H) d v
abbrev dj (G H:Hp) (ds:List Dat) (vs:List V):Prop:=a7 (gG G H) ds vs
theorem c4.mono {G H H':Hp} {d:Dat} {v:V} (s:aw H H') (h:c4 G H d v):c4 G H' d v:=Rep.mono (qU s) h
theorem dj.mono {G H H':Hp} {ds:List Dat} {vs:List V} (s:aw H H') (h:dj G H ds vs):dj G H' ds vs:=a7.mono (qU s) h
theorem c4.low {G G' H:Hp} {d:Dat} {v:V} (s:dA G G') (h:c4 G' H d v):c4 G H d v:=Rep.mono (va s) h
theorem dj.low {G G' H:Hp} {ds:List Dat} {vs:List V} (s:dA G G') (h:dj G' H ds vs):dj G H ds vs:=a7.mono (va s) h
theorem c4.rep {G H:Hp} {d:Dat} {v:V} (h:c4 G H d v):Rep H d v:=Rep.mono B9 h
theorem bO {G H:Hp} {x:Str}:c4 G H (.str x) (.str x):=aI.mpr rfl
theorem dm {G H:Hp} {k:Int}:c4 G H (.int k) (.int k):=bg.mpr rfl
theorem IQ {G H:Hp}:c4 G H .cU .cU:=by unfold c4;rw[Rep]
theorem eZ {G H:Hp}:dj G H [] []:=bD.mpr rfl
theorem bV {G H:Hp} {d:Dat} {ds:List Dat} {v:V} {vs:List V} (h:c4 G H d v) (k:dj G H ds vs):dj G H (d::ds) (v::vs):=aO.mpr ⟨_,_,rfl,h,k⟩
theorem mw {G H:Hp} {p:Addr} {ds:List Dat} {vs:List V} (n:G p=none) (h:H p=some (.lst vs)) (r:dj G H ds vs):c4 G H (.lst ds) (.ref p):=aY.mpr ⟨p,vs,rfl,by rw[gZ (λys e=>by rw[n] at e;cases e)];exact h,r⟩
theorem pB {G H:Hp} (s:dA G H) {p:Addr} {ds:List Dat} {vs:List V} (h:H p=some (.tup vs)) (r:dj G H ds vs):c4 G H (.tup ds) (.ref p):=dU.mpr ⟨p,vs,rfl,by rw[gZ (λys e=>by obtain⟨zs,z⟩:=s _ _ e;rw[h] at z;cases z)];exact h,r⟩
theorem qi {G H:Hp} (s:dA G H) {p:Addr} {a b:Dat} {x y:V} (h:H p=some (.tup [x,y])) (ha:c4 G H a x) (hb:c4 G H b y):c4 G H (.tup [a,b]) (.ref p):=pB s h (bV ha (bV hb eZ))
theorem vb {G H:Hp} (s:dA G H) {p:Addr} {a b c:Dat} {x y z:V} (h:H p=some (.tup [x,y,z])) (ha:c4 G H a x) (hb:c4 G H b y) (hc:c4 G H c z):c4 G H (.tup [a,b,c]) (.ref p):=pB s h (bV ha (bV hb (bV hc eZ)))
theorem IS {G H:Hp} (s:dA G H) {p:Addr} {a b c d:Dat} {x y z u:V} (h:H p=some (.tup [x,y,z,u])) (ha:c4 G H a x) (hb:c4 G H b y) (hc:c4 G H c z) (hd:c4 G H d u):c4 G H (.tup [a,b,c,d]) (.ref p):=pB s h (bV ha (bV hb (bV hc (bV hd eZ))))
theorem nR {G H:Hp} {d:Dat} {v:V} (h:c4 G H d v) {ds:List Dat} {vs:List V} (k:dj G H ds vs):dj G H (ds++ [d]) (vs++ [v]):=a7.append k (aO.mpr ⟨_,_,rfl,h,bD.mpr rfl⟩)
abbrev Ca (w:Str):Prop:=0<w.length/\w.length<=8/\f6 (.str w)=true/\∀c∈w.cps.toList,97<=c/\c<=122
abbrev Am:Dd->Prop
 | .set _ k=>0<=k
 | .plus _ k=>0<=k
 | _=>True
abbrev EB (cs:List (Str×Int)):Option (Str×Str×Int)->Prop
 | none=>True
 | some (n,x,_)=>n∈cs.map (·.1)/\(x=aac "from"\/x=aac "below")
abbrev jN (cs:List (Str×Int)) (gs:List Str):Wt->Prop
 | .ask _ _ _ _=>False
 | .fin t b=>b=1/\-9<=t/\t<=9
 | .score c=>c∈cs.map (·.1)
 | .pick _ rs=>(rs.length<=4/\(∃z,∀r∈rs,r.word.length=z)/\∃r∈rs,r.wh=none)/\(rs.map (·.word)).Nodup/\∀r∈rs,Ca r.word/\EB cs r.wh/\r.to∈gs/\∀d∈r.ds,Am d
 | .dM cY t b rs=>∃ps,cY=ps.map lZ/\mM ps/\kD 20 (t,b)/\(∀v∈ff ps,0<=v/\v<=1000/\∃r,uT rs v=some r)/\∀r∈rs,r.2.2.2∈gs/\∀d∈r.2.2.1,Am d
structure MJ (g:Gm) (gs:List Str):Prop where
 good:GoodG g
 most:∀c∈g.cs,0<=c.2/\c.2<=1000
 hs:∀p∈g.ps,Ca p.1
 hd:∃f∈gs,(g.ps.map (·.1)).head?=some f
 nl:∀p∈g.ps,FZ p.2
 to:∀nm∈gs,∀ns,∃fh x,dO g ns 3 nm=some fh/\look g.ps fh=some x/\jN g.cs gs x
structure zW (g:Gm) (gs:List Str) (st:iD):Prop where
 len:st.2.length=g.cs.length
 nn:∀n∈st.2,0<=n/\n<=1000
 at_:∃x,look g.ps st.1=some x/\jN g.cs gs x
abbrev Cb (g:Gm) (st:iD) (d:Dat) (w:Str) (py:Int×Int) (fH:iD):Prop:=
 (∃vn rs r,look g.ps st.1=some (.pick vn rs)/\(rs.map (·.word)).Nodup/\(eC g.cs st.2 (.pick vn rs)).find? (λr=>decide (r.word=w))=some r/\d=.str w/\py=(0,1)/\fH.2=r.ds.foldl (ie g.cs 0) st.2/\dO g fH.2 3 r.to=some fH.1)\/
 (∃ps t b rs r v,look g.ps st.1=some (.dM (ps.map lZ) t b rs)/\mM ps/\v∈ff ps/\0<=v/\v<=1000/\d=.int v/\w=aac (toString v)/\py=(t,b)/\uT rs v=some r/\fH.2=r.2.2.1.foldl (ie g.cs v) st.2/\dO g fH.2 3 r.2.2.2=some fH.1)
abbrev e8 (ns:List Int) (k:Int):Int:=
 if k< (ns.length:Int) then ns.getD k.toNat 0 else
  (if 0< (ns.length:Int) then ns.getD (k*5 % (ns.length:Int)).toNat 0 % 2147483647*69621+k*k*7919 else k*7919+11) *
  (if 0< (ns.length:Int) then ns.getD (k*5 % (ns.length:Int)).toNat 0 % 2147483647*69621+k*k*7919 else k*7919+11) % 2147483587
abbrev Kh (K:aba):Sp:=λvs H Q _=>dH vs λa k=>dr a λa=>fC k λk=>∃ns,bC K H a (List.map V.int ns)/\0<=k/\k<1000/\Q (.int (e8 ns k)) H
abbrev a5 (c m:Int):Int:=c % 2^64*11400714819323198485 % 2^64 / 2^11 % m
theorem cB {c m:Int} (h:0<m):0<=a5 c m:=aa2 _ ⋯
theorem cQ {c m:Int} (h:0<m):a5 c m<m:=aa7 _ h
abbrev b5:Sp:=λvs H Q _=>dH vs λc m=>fC c λc=>fC m λm=>0<m/\Q (.int (a5 c m)) H
abbrev Gi:Sp:=λvs H Q _=>dH vs λa b=>fC a λa=>fC b λb=>0<b/\Bt 8900 b/\∀p H',aw H H'->H p=none->H' p=some (.tup (Pr (Nm.st a b) (Nm.sb a b)))->Q (.ref p) H'
abbrev g4 (sg:Nat->Int) (size:Nat):Str:=⟨((List.range size).map λj:Nat=>97+ (sg j).toNat).toArray⟩
theorem Cd (sg:Nat->Int) (j:Nat):g4 sg (j+1)=g4 sg j++ (⟨#[97+ (sg j).toNat]⟩:Str):=by
 unfold g4;rw[List.range_succ,aak];show(⟨(_++ [_]).toArray⟩:Str)=⟨_++#[_]⟩;congr 1;simp
theorem nS (sg:Nat->Int) (j:Nat):(g4 sg j).length=j:=by
 unfold g4 Str.length;simp
theorem IT {x:Int} (h:0<=x) (h':x<26):jS (aac "abcdefghijklmnopqrstuvwxyz").cps.toList x=some (97+x.toNat):=by
 have hh:∀i∈List.range 26,(aac "abcdefghijklmnopqrstuvwxyz").cps.toList[i]?=some (97+i):=∅
 have e:x=((x.toNat:Nat):Int):=⋯
 have:=hh x.toNat (List.mem_range.mpr ⋯);rw[e,aal];exact bM this
theorem IU {sg:Nat->Int} {size:Nat} (h1:1<=size) (h8:size<=8) (h:∀j,0<=sg j/\sg j<26):Ca (g4 sg size):=by
 have m:∀c∈(g4 sg size).cps.toList,97<=c/\c<=122:=λc hc=>by
  obtain⟨j,_,rfl⟩:=abi.mp (show c∈(List.range size).map λj:Nat=>97+ (sg j).toNat from hc);have:=h j;lia
 refine⟨by rw[nS];lia,by rw[nS];lia,?_,m⟩;rw[f6,PyData.canLay0];unfold PyData.strOk;rw[<-Array.all_toList];simp only[List.all_eq_true,decide_eq_true_eq];intro x hx;have:=m x hx;lia
theorem IV {sg P9:Nat->Int} {size j:Nat} (hj:j<size) (h:0<=sg j) (h':0<=P9 j) (ne:sg j≠P9 j):g4 sg size≠g4 P9 size:=λe=>by
 have e:=congrArg (λs:Str=>s.cps.toList[j]?) e;unfold g4 at e;simp only[aaf] at e;rw[List.getElem?_range hj] at e;have e:97+ (sg j).toNat=97+ (P9 j).toNat:=aay e;lia
abbrev xh (c sp sm:Int) (k j:Nat):Int:=if (j:Int)=sp then (a5 (c+4) 26+5* (k:Int)) % 26 else a5 (c+31* (j:Int)+977* (k:Int)* (1 - sm)+3) 26
theorem EC (c sp sm:Int) (k j:Nat):0<=xh c sp sm k j/\xh c sp sm k j<26:=by
 unfold xh
 split
 ·lia
 ·exact⟨cB ∅,cQ ∅⟩
theorem Ce {c sp sm:Int} {n size:Nat} (h0:0<=sp) (h1:sp< (size:Int)) (hn:n<=12):((List.range n).map λk:Nat=>g4 (xh c sp sm k) size).Nodup:=by
 unfold List.Nodup;rw[List.pairwise_map];refine List.Pairwise.imp_of_mem ?_ (List.nodup_range (n:=n));intro i j hi hj ne;have hi:=List.mem_range.mp hi;have hj:=List.mem_range.mp hj;refine IV (j:=sp.toNat) ⋯ (EC ..).1 (EC ..).1 ?_;unfold xh;rw[if_pos ⋯,if_pos ⋯];have b0:=cB (c:=c+4) (m:=26) ∅;have b1:=cQ (c:=c+4) (m:=26) ∅;lia
abbrev cZ (c n:Int):List Str:=(List.range n.toNat).map λk:Nat=>g4 (xh c (a5 (c+1) (1+a5 c 8)) (a5 (c+2) 2) k) (1+a5 c 8).toNat
abbrev Cf:Sp:=λvs H Q _=>dH vs λc n=>fC c λc=>fC n λn=>0<=n/\n<=12/\∀(l:Addr) (H':Hp),aw H H'->H l=none->H' l=some (.lst ((cZ c n).map V.str))->(cZ c n).length=n.toNat->(cZ c n).Nodup->(∀w∈cZ c n,Ca w)->(∃z,∀w∈cZ c n,w.length=z)->Q (.ref l) H'
theorem qV:∀{l:List Str} {x:Str} {j:Nat},j<l.idxOf x->l[j]?≠some x
 | [],_,_,h=>by simp at h
 | y::l,x,j,h=>by
  rw[List.idxOf_cons] at h
  by_cases c:y=x
  ·rw[c,beq_self_eq_true] at h;exact absurd h (Nat.not_lt_zero _)
  ·rw[beq_false_of_ne c] at h;cases j with
   | zero=>simpa using c
   | succ j=>rw[List.getElem?_cons_succ];exact qV (l:=l) (Nat.lt_of_succ_lt_succ h)
theorem Cg (l:List Str):(l.map Dat.str).map toP=l.map PyData.str:=by
 rw[aaM];exact List.map_congr_left λa _=>by show toP (.str a)=_;rw[toP]
theorem IW {l:List Str} {x:Str} (h:x∈l):((l.map Dat.str).map toP)[l.idxOf x]?=some (toP (.str x))/\∀j,j<l.idxOf x->((l.map Dat.str).map toP)[j]?≠some (toP (.str x)):=by
 have hl:=List.idxOf_lt_length_of_mem h;rw[Cg,show toP (.str x)=PyData.str x by rw[toP]];refine⟨by rw[aaf,aai hl,List.getElem_idxOf];rfl,λj hj e=>?_⟩;rw[aaf] at e;obtain⟨y,ey,e⟩:=abg.mp e
 injection e with e
 exact qV hj (e▸ey)
abbrev Kx (n:Nat) (d:Dat):Prop:=rQ (toP d)=true/\(toP d).depth<=n
theorem IX {n:Nat} {x:Str} (h:f6 (.str x)=true):Kx n (.str x):=by
 rw[f6] at h;unfold Kx;rw[toP,rQ,PyData.depth];exact⟨h,aah _⟩
abbrev Sx (cs:List (Str×Int)) (cb:Str):List Str:=(cs.map (·.1)).filter λn=>decide (n≠cb)
abbrev IY (c:Int) (os:List Str) (th:Bool) (j:Int):Dd:=
 if a5 (c+11*j+2) 4=3/\1< (os.length:Int) then .move (os.getD (a5 (c+7*j+1) (os.length:Int)).toNat default) (os.getD (1 - os.idxOf (os.getD (a5 (c+7*j+1) (os.length:Int)).toNat default)) default)
 else if a5 (c+11*j+2) 4=2/\th=true then .face (os.getD (a5 (c+7*j+1) (os.length:Int)).toNat default)
 else if a5 (c+11*j+2) 4 % 2=0 then .set (os.getD (a5 (c+7*j+1) (os.length:Int)).toNat default) (a5 (c+13*j) 3)
 else .plus (os.getD (a5 (c+7*j+1) (os.length:Int)).toNat default) (a5 (c+13*j) 3)
abbrev gH (c:Int) (os:List Str) (cb:Str) (th:Bool):Nat->List Dd
 | 0=>[.plus cb 1]
 | j+1=>if os=[] then gH c os cb th j else
  (gH c os cb th j).take (a5 (c+17* (j:Int)+3) (((gH c os cb th j).length:Int)+1)).toNat++IY c os th (j:Int)::(gH c os cb th j).drop (a5 (c+17* (j:Int)+3) (((gH c os cb th j).length:Int)+1)).toNat
abbrev jO (c:Int) (cs:List (Str×Int)) (cb:Str) (th:Bool):List Dd:=gH c (Sx cs cb) cb th (a5 (c+5) 3).toNat
abbrev Ci:Sp:=λvs H Q _=>iX vs λc cl cb th=>fC c λc=>dr cl λcl=>tL cb λcb=>JY th λth=>∃(cs:List (Str×Int)),Rep H (J8 cs) (.ref cl)/\cs.length<=3/\cb∈cs.map (·.1)/\(cs.map (·.1)).Nodup/\(∀x∈cs,Ca x.1)/\∀(l:Addr) (H':Hp),aw H H'->H l=none->c4 H H' (.lst ((jO c cs cb th).map qO)) (.ref l)->(jO c cs cb th).length<=3->(∀d∈jO c cs cb th,fQ cs d/\Am d)->Q (.ref l) H'
abbrev jP:List Pt->Int
 | []=>0
 | .num m::r=>(m:Int)+jP r
 | .cP k _::r=>(k:Int)+jP r
 | .bU _ _::r=>1+jP r
abbrev jQ:List Pt->Int
 | []=>0
 | .num m::r=>(m:Int)+jQ r
 | .cP k s::r=>(k:Int)* (s:Int)+jQ r
 | .bU _ s::r=>2* (s:Int)+jQ r
abbrev fB (c:Int):List Pt:=
 if a5 (c+15) 5=0 then [.bU 1 (2+a5 (c+1) 5).toNat]
 else if a5 (c+3) 3=0 then [.cP (1+a5 (c+2) 2).toNat (2+a5 (c+1) 5).toNat,.num (a5 (c+4) 100).toNat]
 else [.cP (1+a5 (c+2) 2).toNat (2+a5 (c+1) 5).toNat]
abbrev vc (c:Int) (gs:List Str):Str:=gs.getD (a5 c (gs.length:Int)).toNat default
abbrev Ki (c lo hi cut:Int) (cs:List (Str×Int)) (cb:Str) (gs:List Str) (j:Nat):Tw:=
 (if j=0 then max 0 (lo - 1) else cut+1,if j=0 then cut else hi+2,jO (c+100* (j:Int)) cs cb true,vc (c+8+ (j:Int)) gs)
abbrev xi (c:Int):Int×Int:=if a5 (c+10) 3=0 then (2*a5 (c+9) 9 - 7,2) else (a5 (c+9) 9 - 4,1)
abbrev qj (c lo hi:Int):Int:=lo+a5 (c+6) (hi - lo+1)
abbrev yC (c:Int) (cs:List (Str×Int)) (cb:Str) (gs:List Str):Wt:=
 .dM ((fB c).map lZ) (xi c).1 (xi c).2 (if a5 (c+12) 2=0 then [Ki c (jP (fB c)) (jQ (fB c)) (qj c (jP (fB c)) (jQ (fB c))) cs cb gs 0,Ki c (jP (fB c)) (jQ (fB c)) (qj c (jP (fB c)) (jQ (fB c))) cs cb gs 1] else [Ki c (jP (fB c)) (jQ (fB c)) (qj c (jP (fB c)) (jQ (fB c))) cs cb gs 1,Ki c (jP (fB c)) (jQ (fB c)) (qj c (jP (fB c)) (jQ (fB c))) cs cb gs 0])
abbrev IZ (c:Int) (cs:List (Str×Int)) (i:Int):Option (Str×Str×Int):=
 if i≠a5 (c+1) 3/\0<a5 (c+50*i) 3 then some ((cs.getD (a5 (c+50*i+1) (cs.length:Int)).toNat default).1,if a5 (c+50*i+2) 2=0 then aac "from" else aac "below",a5 (c+50*i+3) 4) else none
abbrev Wk (c:Int) (cs:List (Str×Int)) (cb:Str) (gs:List Str) (i:Nat):Rw:=
 ⟨(cZ (c+3) 4).getD i default,IZ c cs (i:Int),jO (c+60* (i:Int)) cs cb false,vc (c+50* (i:Int)+4) gs⟩
abbrev Cj (c:Int) (cs:List (Str×Int)) (cb:Str) (gs:List Str):Wt:=.pick (1+a5 (c+4) 2) ((List.range (1+if a5 (c+2) 4 >a5 (c+1) 3 then a5 (c+2) 4 else a5 (c+1) 3).toNat).map (Wk c cs cb gs))
abbrev yD (F:Int->List (Str×Int)->Str->List Str->Wt):Sp:=λvs H Q _=>iX vs λc cl cb gl=>fC c λc=>dr cl λcl=>tL cb λcb=>dr gl λgl=>∃(cs:List (Str×Int)),Rep H (J8 cs) (.ref cl)/\cs.length<=3/\cb∈cs.map (·.1)/\(cs.map (·.1)).Nodup/\(∀x∈cs,Ca x.1)/\∃(gs:List Str),H gl=some (.lst (List.map V.str gs))/\0<gs.length/\gs.length<=3/\∀u H',aw H H'->c4 H H' (jd (F c cs cb gs)) u->kx cs (F c cs cb gs)->jN cs gs (F c cs cb gs)->Q u H'
abbrev dh (ns:List Str) (i:Nat):Str:=ns.getD i default
abbrev fZ (ns:List Str) (a:Nat) (tu:Int):List (Str×Wt):=(List.range a).map λk=>(dh ns (3+k),Wt.ask (dh ns 0) tu (dh ns 11) (dh ns (6+k)))
abbrev eN (ns:List Str) (W:List Wt):List (Str×Wt):=W.mapIdx λk x=>(dh ns (6+k),x)
abbrev Ck (c:Int):Nat:=(1+a5 (c+6) 3).toNat
abbrev Cm (c:Int):List Str:=(List.range (Ck c)).map λk=>dh (cZ c 12) (3+k)
abbrev ED (c mo tu:Int):List (Str×Int):=
 (((List.range (a5 (c+9) 3).toNat).map λk:Nat=>((dh (cZ c 12) (1+k),1+a5 (c+7+ (k:Int)) mo):Str×Int)).take (a5 (c+10) ((a5 (c+9) 3).toNat+1)).toNat)++ (dh (cZ c 12) 0,tu)::(((List.range (a5 (c+9) 3).toNat).map λk:Nat=>((dh (cZ c 12) (1+k),1+a5 (c+7+ (k:Int)) mo):Str×Int)).drop (a5 (c+10) ((a5 (c+9) 3).toNat+1)).toNat)
abbrev EE (c:Int) (cs:List (Str×Int)) (cb:Str) (gs:List Str):Wt:=if a5 (c+21) 2=0 then yC c cs cb gs else Cj c cs cb gs
abbrev I0 (c:Int) (cs:List (Str×Int)):Wt:=if a5 (c+13) 3=0 then .fin (a5 (c+14) 19 - 9) 1 else .score (cs.getD (a5 (c+12) (cs.length:Int)).toNat default).1
abbrev Cn (ns:List Int) (at_ tu mo:Int):Gm:=
 ⟨ED (e8 ns at_) mo tu,fZ (cZ (e8 ns at_) 12) (Ck (e8 ns at_)) tu++eN (cZ (e8 ns at_) 12) ((List.range (Ck (e8 ns at_))).map λk:Nat=>EE (e8 ns (at_+1+ (k:Int))) (ED (e8 ns at_) mo tu) (dh (cZ (e8 ns at_) 12) 0) (Cm (e8 ns at_)))++ [(dh (cZ (e8 ns at_) 12) 11,I0 (e8 ns at_) (ED (e8 ns at_) mo tu))]⟩
abbrev Co (K:aba):Sp:=λvs H Q _=>iX vs λs at_ tu mo=>dr s λs=>fC at_ λat_=>fC tu λtu=>fC mo λmo=>∃ns,bC K H s (List.map V.int ns)/\0<=at_/\at_<=100/\1<=tu/\tu<=100/\1<=mo/\mo<=100/\∀u H',aw H H'->c4 H H' (nE (Cn ns at_ tu mo)) u->MJ (Cn ns at_ tu mo) (Cm (e8 ns at_))->Q u H'
abbrev Gj:Sp:=λvs H Q _=>eS vs λv=>∃ps,Rep H (.lst (ps.map lZ)) v/\mM ps/\∀l H',aw H H'->H l=none->H' l=some (.lst ((ff ps).map V.int))->Q (.ref l) H'
abbrev mY:Sp:=λvs H Q _=>dH vs λgv nm=>tL nm λnm=>∃g,Rep H (nE g) gv/\GoodG g/\∃x,look g.ps nm=some x/\∀u H',aw H H'->Rep H (jd x) u->Q u H'
theorem qW {H:Hp} {nm:Str}:∀{ps:List (Str×Wt)} {yy:List V},a7 H (ps.map λp=>Dat.tup [.str p.1,jd p.2]) yy->∃us:List V,us.length=ps.length/\(∀(i:Nat) p u,ps[i]?=some p->us[i]?=some u->∃q,yy[i]?=some (.ref q)/\H q=some (.tup [.str p.1,u]))/\∀x,look ps nm=some x->∃u r,((us.zip ps).filterMap λy=>if y.2.1=nm then some y.1 else none)=u::r/\Rep H (jd x) u
 | [],_,h=>⟨[],rfl,(λi p u e=>by simp at e),λx e=>by cases e⟩
 | p::ps,yy,h=>by
  obtain⟨v,r,rfl,h1,h2⟩:=aO.mp (show a7 H (Dat.tup [.str p.1,jd p.2]::ps.map λp=>Dat.tup [.str p.1,jd p.2]) yy from h);obtain⟨q,a,b,rfl,hq,r1,r2⟩:=bu.mp h1;rw[aI.mp r1] at hq;obtain⟨us,e1,e2,e3⟩:=qW h2;refine⟨b::us,by rw[aap,aap,e1],λi p' u ep eu=>?_,λx ex=>?_⟩
  ·cases i with
   | zero=>cases ep;cases eu;exact⟨q,rfl,hq⟩
   | succ i=>exact e2 i p' u ep eu
  ·rw[List.zip_cons_cons,aaT]
   by_cases c:p.1=nm
   ·rw[if_pos c];have:look (p::ps) nm=some p.2:=by unfold look;rw[List.find?_cons_of_pos (by simpa using c)];rfl
    rw[this] at ex;cases ex;exact⟨b,_,rfl,r2⟩
   ·rw[if_neg c];exact e3 x (by unfold look at *;rwa [List.find?_cons_of_neg (by simpa using c)] at ex)
theorem vd {nm:Str}:∀{cs:List (Str×Int)} {ns:List Int},ns.length=cs.length->nm∈cs.map (·.1)->∃r,((cs.zip ns).filterMap λy=>if y.1.1=nm then some y.2 else none)=ns.getD (bF cs nm) 0::r
 | [],_,_,h=>by simp at h
 | c::cs,[],l,_=>by simp at l
 | c::cs,k::ns,l,h=>by
  rw[List.zip_cons_cons,aaT]
  by_cases e:c.1=nm
  ·have s0:bF (c::cs) nm=0:=by unfold bF;rw[aae,e,List.idxOf_cons_self]
   rw[if_pos e,s0];exact⟨_,rfl⟩
  ·have s1:bF (c::cs) nm=bF cs nm+1:=by unfold bF;rw[aae,List.idxOf_cons,beq_false_of_ne e];rfl
   rw[if_neg e,s1];exact vd (cs:=cs) (ns:=ns) (by simpa using l) (by simpa [Ne.symm e] using h)
theorem nU (p:Pt):∀ps,jP (ps++ [p])=jP ps+ (match p with | .num m=>(m:Int) | .cP k _=>(k:Int) | .bU _ _=>1)
 | []=>by cases p <;>exact Int.add_comm _ _
 | .num m::ps=>by rw[aaP,jP,jP,nU p ps,Int.add_assoc]
 | .cP k s::ps=>by rw[aaP,jP,jP,nU p ps,Int.add_assoc]
 | .bU k s::ps=>by rw[aaP,jP,jP,nU p ps,Int.add_assoc]
theorem nV (p:Pt):∀ps,jQ (ps++ [p])=jQ ps+ (match p with | .num m=>(m:Int) | .cP k s=>(k:Int)* (s:Int) | .bU _ s=>2* (s:Int))
 | []=>by cases p <;>exact Int.add_comm _ _
 | .num m::ps=>by rw[aaP,jQ,jQ,nV p ps,Int.add_assoc]
 | .cP k s::ps=>by rw[aaP,jQ,jQ,nV p ps,Int.add_assoc]
 | .bU k s::ps=>by rw[aaP,jQ,jQ,nV p ps,Int.add_assoc]
abbrev yE:Sp:=λvs H Q _=>ij vs λgv l nm=>dr l λl=>tL nm λnm=>∃g,Rep H (nE g) gv/\GoodG g/\∃ns,H l=some (.lst (List.map V.int ns))/\ns.length=g.cs.length/\nm∈g.cs.map (·.1)/\∀H',aw H H'->Q (.int (ns.getD (bF g.cs nm) 0)) H'
abbrev yF:Sp:=λvs H Q _=>ij vs λgv nm l=>tL nm λnm=>dr l λl=>∃g,Rep H (nE g) gv/\GoodG g/\∃ns,H l=some (.lst (List.map V.int ns))/\ns.length=g.cs.length/\∃f fh,dO g ns f nm=some fh/\∀a l' H',aw H H'->H a=none->H l'=none->H' a=some (.tup [.str fh,.ref l'])->H' l'=some (.lst (List.map V.int ns))->Q (.ref a) H'
abbrev zK:List (Str×Int)->List Int->List (Key×V)
 | c::cs,n::ns=>(Sum.inr c.1,V.int n)::zK cs ns
 | _,_=>[]
theorem sW {n:Str}:∀{cs:List (Str×Int)} {ns:List Int},ns.length=cs.length->n∈cs.map (·.1)->dI (zK cs ns) (Sum.inr n)=some (.int (ns.getD (bF cs n) 0))
 | [],_,_,h=>by simp at h
 | c::cs,[],l,_=>by simp at l
 | c::cs,k::ns,l,h=>by
  rw[zK]
  by_cases e:c.1=n
  ·rw[gu (by rw[e])];have:bF (c::cs) n=0:=by unfold bF;rw[aae,e,List.idxOf_cons_self]
   rw[this];rfl
  ·rw[d8 (λz=>e (by injection z)),sW (cs:=cs) (ns:=ns) (by simpa using l) (by simpa [Ne.symm e] using h)];have:bF (c::cs) n=bF cs n+1:=by unfold bF;rw[aae,List.idxOf_cons,beq_false_of_ne e];rfl
   rw[this];rfl
theorem nW:∀{cs:List (Str×Int)} {ns:List Int},ns.length=cs.length->(zK cs ns).map (·.1)=cs.map λc=>(Sum.inr c.1:Key)
 | [],[],_=>rfl
 | [],_::_,l=>by simp at l
 | c::cs,[],l=>by simp at l
 | c::cs,k::ns,l=>by rw[zK,aae,aae,nW (by simpa using l)]
theorem sZ (c:Str×Int) (k:Int):∀{cs:List (Str×Int)} {ns:List Int},ns.length=cs.length->zK (cs++ [c]) (ns++ [k])=zK cs ns++ [(Sum.inr c.1,V.int k)]
 | [],[],_=>rfl
 | [],_::_,l=>by simp at l
 | d::cs,[],l=>by simp at l
 | d::cs,n::ns,l=>by rw[aaP,aaP,zK,sZ c k (by simpa using l),zK];rfl
theorem tf {n:Str}:∀{cs:List (Str×Int)} {ns:List Int},n∉cs.map (·.1)->dI (zK cs ns) (Sum.inr n)=none
 | [],_,_=>rfl
 | c::cs,[],_=>rfl
 | c::cs,k::ns,h=>by rw[zK,d8 (λz=>h (by injection z with z;simp [z])),tf (λz=>h (by rw[aae];exact aam _ z))]
theorem xj {n:Str} {k:Int}:∀{cs:List (Str×Int)} {ns:List Int},(cs.map (·.1)).Nodup->ns.length=cs.length->n∈cs.map (·.1)->putK (zK cs ns) (Sum.inr n) (.int k)=zK cs (ns.set (bF cs n) k):=by
 intro cs ns nd l h;have an:∀{cs:List (Str×Int)} {ns:List Int},ns.length=cs.length->n∈cs.map (·.1)->((zK cs ns).any λkv=>decide (kv.1=(Sum.inr n:Key)))=true:=λ{cs ns} l h=>by
  rw[List.any_eq_true];have:(Sum.inr n:Key)∈(zK cs ns).map (·.1):=by
   rw[nW l];obtain⟨c,hc,rfl⟩:=abi.mp h;exact abi.mpr ⟨c,hc,rfl⟩
  obtain⟨x,hx,e⟩:=abi.mp this;exact⟨x,hx,by simp [e]⟩
 unfold putK;rw[if_pos (an l h)];have mp:∀{cs:List (Str×Int)} {ns:List Int},(cs.map (·.1)).Nodup->ns.length=cs.length->(zK cs ns).map (λkv=>if kv.1=(Sum.inr n:Key) then (kv.1,V.int k) else kv)=zK cs (ns.set (bF cs n) k):=by
  intro cs
  induction cs with
  | nil=>intro ns _ _;cases ns <;>rfl
  | cons c cs ih=>
   intro ns nd l;cases ns with
   | nil=>simp at l
   | cons m ns=>
    rw[aae,List.nodup_cons] at nd;rw[zK,aae]
    by_cases e:c.1=n
    ·have s0:bF (c::cs) n=0:=by unfold bF;rw[aae,e,List.idxOf_cons_self]
     rw[if_pos (by rw[e]),s0,aaG,zK];congr 1;refine(List.map_congr_left λx hx=>?_).trans (List.map_id _);rw[if_neg]
     ·rfl
     ·intro z;have:x.1∈(zK cs ns).map (·.1):=abi.mpr ⟨x,hx,rfl⟩;rw[nW (by simpa using l),z] at this;obtain⟨c',Pn,e'⟩:=abi.mp this
      injection e' with e'
      exact nd.1 (by rw[e,<-e'];exact abi.mpr ⟨c',Pn,rfl⟩)
    ·have s1:bF (c::cs) n=bF cs n+1:=by unfold bF;rw[aae,List.idxOf_cons,beq_false_of_ne e];rfl
     rw[if_neg (λz=>e (by injection z)),s1,aaH,zK,ih nd.2 (by simpa using l)]
 exact mp nd l
theorem xk {cs:List (Str×Int)} {ns:List Int} (l:ns.length=cs.length):(zK cs ns).length=cs.length:=by
 have:=congrArg List.length (nW l)
 rwa [aad,aad] at this
theorem tj {ns:List Int} {i:Nat} (h:i<ns.length):ns.getD i 0=ns[i]:=by rw[aaC,aai h];rfl
theorem Cp {cs:List (Str×Int)} {ns:List Int} (nd:(cs.map (·.1)).Nodup) (l:ns.length=cs.length):cs.map (λc=>ns.getD (bF cs c.1) 0)=ns:=by
 refine List.ext_getElem (by rw[aad,l]) λi h1 h2=>?_;rw[aad] at h1;rw[List.getElem_map];have e:bF cs (cs[i]).1=i:=by
  have h3:i< (cs.map (·.1)).length:=by rw[aad];exact h1
  have h4:(cs.map (·.1)).idxOf (cs[i]).1< (cs.map (·.1)).length:=List.idxOf_lt_length_of_mem (abi.mpr ⟨_,aaI h1,rfl⟩);have h5:(cs.map (·.1))[(cs.map (·.1)).idxOf (cs[i]).1]=(cs.map (·.1))[i]:=by rw[List.getElem_idxOf,List.getElem_map]
  exact(List.getElem_inj nd).mp h5
 rw[e,tj h2]
abbrev Cq:Sp:=λvs H Q _=>iX vs λgv l dv v=>dr l λl=>fC v λv=>∃(g:Gm),Rep H (nE g) gv/\GoodG g/\∃(ns:List Int),H l=some (.lst (List.map V.int ns))/\ns.length=g.cs.length/\∃(ds:List Dd),Rep H (.lst (List.map qO ds)) dv/\ds.length<=100/\(∀d∈ds,fQ g.cs d)/\∀l' H',aw H H'->H l'=none->H' l'=some (.lst ((ds.foldl (ie g.cs v) ns).map V.int))->Q (.ref l') H'
abbrev Gk:Sp:=λvs H Q _=>ij vs λgv l wv=>dr l λl=>∃g,Rep H (nE g) gv/\GoodG g/\∃ns,H l=some (.lst (List.map V.int ns))/\ns.length=g.cs.length/\∃wh,Rep H (FO wh) wv/\EB g.cs wh/\∀H',aw H H'->Q (.bl (iC g.cs ns wh)) H'
abbrev Cr:Sp:=λvs H Q _=>dH vs λgv sv=>∃(g:Gm),Rep H (nE g) gv/\GoodG g/\∃(gs:List Str) (st:iD),mP H sv st.1 st.2/\st.2.length=g.cs.length/\∃(x:Wt),look g.ps st.1=some x/\jN g.cs gs x/\∀a H' ds,aw H H'->H a=none->Rep H' (.lst ds) (.ref a)->F9 g st x ds->Q (.ref a) H'
theorem yG {w:Str} {r:Rw}:∀{rs:List Rw},(rs.map (·.word)).Nodup->r∈rs->r.word=w->∃q,(rs.filter λx=>decide (x.word=w))=r::q
 | [],_,h,_=>by cases h
 | a::rs,nd,h,e=>by
  rw[aae,List.nodup_cons] at nd;rcases aaB.mp h with z | z
  ·rw[<-z,List.filter_cons_of_pos (by simpa using e)];exact⟨_,rfl⟩
  ·have:a.word≠w:=λx=>nd.1 (by rw[x,<-e];exact abi.mpr ⟨r,z,rfl⟩);rw[List.filter_cons_of_neg (by simpa using this)];exact yG nd.2 z e
abbrev Gn:Sp:=λvs H Q _=>ij vs λgv sv dv=>∃(g:Gm),Rep H (nE g) gv/\GoodG g/\∃(st:iD),mP H sv st.1 st.2/\st.2.length=g.cs.length/\∃(d:Dat),Rep H d dv/\∃(w:Str) (py:Int×Int) (fH:iD),Cb g st d w py fH/\∀a l H',aw H H'->H a=none->H l=none->H' a=some (.tup [.str fH.1,.ref l])->H' l=some (.lst (List.map V.int fH.2))->Q (.ref a) H'
abbrev Ja:Wt->Int×Int
 | .dM _ t b _=>(t,b)
 | _=>(0,1)
abbrev Gp:Sp:=λvs H Q _=>dH vs λgv sv=>∃(g:Gm),Rep H (nE g) gv/\GoodG g/\∃(st:iD),mP H sv st.1 st.2/\∃(x:Wt),look g.ps st.1=some x/\∀u H',aw H H'->Rep H' (dq (Ja x)) u->Q u H'
abbrev Gq:Sp:=λvs H Q _=>ij vs λgv sv pv=>∃(g:Gm),Rep H (nE g) gv/\GoodG g/\∃(st:iD),mP H sv st.1 st.2/\st.2.length=g.cs.length/\∃(pd:Int×Int) (x:Wt),look g.ps st.1=some x/\Rep H (dq pd) pv/\kD 500000 pd/\(∀w,wM g.cs st.2 x=some w->kD 500000 w)/\∀u H',aw H H'->Rep H' (dq (w6 g st pd x)) u->Q u H'
abbrev Kj (w:Str):Prop:=0<w.length/\w.length<=20/\f6 (.str w)=true
theorem kK:aS ["_law_script","_law_k","_law_number_here"] ["_law_script","_law_k"] (aq (top 40)):=.mk
theorem yH (T:0|||0):(1<<<"_law_cell") ["_law_script","_law_k"] (Kh K):=by
 refine T.uD.dF (λ_ _ _ _ _ _=>d4 λ_ _=>rfl) λf fd F=>F.dZ kK (λvs H Q E h=>?_) (λbY A outer s H vs Q E hr h=>?_)
 ·obtain⟨_,_,rfl,_⟩:=zE h;rfl
 ·symm;obtain⟨a,k,rfl,ns,hS,k0,k1,kk⟩:=zE h;nofun;have nd:=kK.nd;refine⟨_,(ag (bc (aL t5 (pv 1) (aU (jC (K:=K)) (by rfl) T.z_len aav (aa (pv 0) af)) (aQ _)) (aj (aR (ar (qH (K:=K)) (pv 0) (pv 1))))
   aW)
  (ag (aG (i:=2) (aD aM (aD bf (pv 1) ae) ae))
  (ag (bc (aL i8 (aU (jC (K:=K)) (by rfl) T.z_len aav (aa (pv 0) af)) ae (aQ _)) (aj (aG (i:=2) (aD aM (aD bf (aD dz (ar (qH (K:=K)) (pv 0) (aD dz (aD bf (pv 1) ae) (aU (jC (K:=K)) (by rfl) T.z_len aav (aa (pv 0) af)))) ae) ae) (aD bf (aD bf (pv 1) (pv 1)) ae))))
   aW)
  (aj (aR (aD dz (aD bf (pv 2) (pv 2)) ae)))))),?_⟩
  refine(?_:let bQ:TS:=_;let bR:TS:=_;let bS:TS:=_;let df:TS:=_;tSeq bQ (tSeq bR (tSeq bS df)) _ _ _);intro bQ bR bS df;dsimp?[Hy];have j2:k*k<=1000000:=Int.le_trans (Int.mul_le_mul (show k<=1000 by lia) (show k<=1000 by lia) k0 ∅) ∅;have j3:0<=k*k:=Int.mul_nonneg k0 k0;unfold e8 at kk;refine⟨ns,hS,iw (λc=>⟨ns,hS,k0,c,by rw[if_pos c] at kk;exact kk⟩) (λc=>⟨br ⋯ ⋯,ns,hS,iw (λz=>?_) (λz=>?_)⟩)⟩
  ·rw[if_neg c,if_pos z] at kk;have m1:=aa2 (ns.getD (k*5 % (ns.length:Int)).toNat 0) (show(2147483647:Int)≠0 by decide);have m2:=aa7 (ns.getD (k*5 % (ns.length:Int)).toNat 0) (show(0:Int)<2147483647 by decide);exact⟨br ⋯ ⋯,ns,hS,z,ns,hS,aa2 _ ⋯,aa7 _ z,∅,AQ,br ⋯ ⋯,br ⋯ ⋯,br ⋯ ⋯,∅,kk⟩
  ·rw[if_neg c,if_neg z] at kk;exact⟨br ⋯ ⋯,∅,kk⟩
theorem ju:aS ["_law_cell_here","_law_many"] ["_law_cell_here","_law_many"] (aq (top 41)):=.mk
theorem my (T:0|||0):(1<<<"_law_mixed") ["_law_cell_here","_law_many"] b5:=by
 refine T.sf.dF (λ_ _ _ _ _ _=>d4 λ_ _=>rfl) λf fd F=>F.dZ ju (λvs H Q E h=>?_) (λbY A outer s H vs Q E hr h=>?_)
 ·obtain⟨_,_,rfl,_⟩:=pY h;rfl
 ·symm;obtain⟨c,m,rfl,m0,kk⟩:=pY h;nofun;have nd:=ju.nd;refine⟨_,(aj (aR (aD dz (aD ix (aD dz (aD bf (aD dz (pv 0) (aD vE ae ae)) ae) (aD vE ae ae)) (aD vE ae ae)) (pv 1)))),?_⟩;dsimp?[];have h1:=aa2 c (show((2:Int)^64)≠0 by decide);have h2:=aa7 c (show(0:Int)<2^64 by decide);exact⟨∅,∅,∅,∅,br ⋯ ⋯,∅,∅,∅,∅,∅,∅,∅,i9.lit,m0,kk⟩
theorem mZ:aS ["_law_top","_law_bottom","_law_one","_law_other"] ["_law_top","_law_bottom"] (aq (top 42)):=.mk
theorem Jb (T:0|||0):(1<<<"_law_low") ["_law_top","_law_bottom"] Gi:=by
 refine T.wJ.dF (λ_ _ _ _ _ _=>d4 λ_ _=>rfl) λf fd F=>F.dZ mZ (λvs H Q E h=>?_) (λbY A outer s H vs Q E hr h=>?_)
 ·obtain⟨_,_,rfl,_⟩:=pY h;rfl
 ·symm;obtain⟨a,b,rfl,b0,bb,k⟩:=pY h;nofun;clear G_;have nd:=mZ.nd;refine⟨_,(ag (aG (i:=2) (aU oo (by rfl) T.z_abs rfl (aa (pv 0) af)))
  (ag (aG (i:=3) (pv 1))
  (ag (jY PassesOwn.never (aL i8 (pv 3) ae (aQ _)) (aj (He (i:=2) (j:=3) rfl nd rfl rfl ∅ rfl rfl (aa (pv 3) (aa (aD dz (pv 2) (pv 3)) af)) rfl)))
  (aj (aR (a6 (aa (aD ix (pv 0) (pv 2)) (aa (aD ix (pv 1) (pv 2)) af)))))))),?_⟩
  refine(?_:let bQ:TS:=_;let bR:TS:=_;let bS:TS:=_;let df:TS:=_;tSeq bQ (tSeq bR (tSeq bS df)) _ _ _);intro bQ bR bS df;dsimp?[];refine t4 (λσ H1=>H1=H/\∃x y:Int,σ=[a⁻¹,b⁻¹,x⁻¹,y⁻¹]/\0<=x/\0<=y/\Nm.g x y=Nm.g a b) (λσ _=>match σ with | [_,_,_,y⁻¹]=>y.toNat | _=>0) ?_ ?_ ?_
  ·refine⟨rfl,_,_,rfl,?_,⋯,?_⟩
   ·split <;>lia
   ·rw[show(if a<0 then -a else a)=(a.natAbs:Int) by split <;>lia,Nm.AX]
  ·intro σ H1 dg;symm;obtain⟨rfl,x,y,rfl,x0,y0,e⟩:=dg;nofun;dsimp?[];refine iw (λc=>?_) (λc=>?_)
   ·refine⟨c,y0,aa2 _ ⋯,by rw[Nm.AY x0 c,e],?_⟩;have:=aa7 x c;have:=aa2 x (show y≠0 by lia);lia
   ·have z:y=0:=⋯
    subst z;rw[Nm.AZ x0] at e;rw[e];have g0:0<Nm.g a b:=Nm.AW ⋯;have gb:Bt 8900 (Nm.g a b):=bb.le (by have:=Nm.Ln (a:=a) b0;lia);obtain⟨e1,e2⟩:=Nm.HG (a:=a) b0;rw[e1,e2] at k;exact⟨i9.of g0 gb,i9.of g0 gb,∅,λp H2 s1 n1 e=>k p H2 s1 n1 e⟩
  ·intro σ H1 Q1 Q2 hq hc
   revert hc
   dsimp?[];intro hc;symm;obtain⟨v,e1,i,e2,q⟩:=hc;nofun;exact⟨v,e1,i,e2,hq _ _ q⟩
theorem kL:aS ["_law_one","_law_other"] ["_law_one","_law_other"] (aq (top 43)):=.mk
theorem Cs (T:0|||0):(2<<<"_law_plus") ["_law_one","_law_other"] pq:=by
 have xm:=Jb T;refine T.uE.dF (λ_ _ _ _ _ _=>d4 λ_ _=>rfl) λf fd F=>F.dZ kL (λvs H Q E h=>?_) (λbY A outer s H vs Q E hr h=>?_)
 ·obtain⟨_,_,rfl,_⟩:=nu h;rfl
 ·symm;obtain⟨u,v,rfl,a,ra,b,rb,ha,hb,k⟩:=nu h;nofun;have nd:=kL.nd;refine⟨_,(aj (aR (aK xm (aa (aD aM (aD bf (ar ai (pv 0) ae) (ar ai (pv 1) ae)) (aD bf (ar ai (pv 1) ae) (ar ai (pv 0) ae))) (aa (aD bf (ar ai (pv 0) ae) (ar ai (pv 1) ae)) af))))),?_⟩;symm;obtain⟨p,rfl,hp⟩:=b9.mp ra;obtain⟨q,rfl,hq⟩:=b9.mp rb;obtain⟨a1,a2,a3⟩:=ha.num ∅;obtain⟨b1,b2,b3⟩:=hb.num ∅;nofun;dsimp?[Gi,hp,hq];have m0:=Int.mul_pos a2 b2;have m4:a.2*b.2<=4:=Int.le_trans (Int.mul_le_mul a3 b3 ⋯ ∅) ∅;exact⟨br ⋯ ⋯,br ⋯ ⋯,br ⋯ ⋯,m0,(Bt.of 4 ⋯ ⋯),λr H' s' n' e=>k r H' s' n' e⟩
theorem jv:aS ["_law_cell_here","_law_n","_law_size","_law_spot","_law_same","_law_words_here","_law_k","_law_word","_law_j","_law_sign"] ["_law_cell_here","_law_n"] (aq (top 45)):=.mk
theorem Ct (T:0|||0):(2<<<"_law_words") ["_law_cell_here","_law_n"] Cf:=by
 have aJ:=my T;refine T.sh.dF (λ_ _ _ _ _ _=>d4 λ_ _=>rfl) λf fd F=>F.dZ jv (λvs H Q E h=>?_) (λbY A outer s H vs Q E hr h=>?_)
 ·obtain⟨_,_,rfl,_⟩:=pY h;rfl
 ·symm;obtain⟨c,n,rfl,n0,Qa,kk⟩:=pY h;nofun;clear G_;have nd:=jv.nd;refine⟨_,(ag (aG (i:=2) (aD aM ae (aK aJ (aa (pv 0) (aa ae af)))))
  (ag (aG (i:=3) (aK aJ (aa (aD aM (pv 0) ae) (aa (pv 2) af))))
  (ag (aG (i:=4) (aK aJ (aa (aD aM (pv 0) ae) (aa ae af))))
  (ag (aG (i:=5) (bT af))
  (ag (ck PassesOwn.never rfl (bX rfl T.z_range (aa (pv 1) af)) (aV (i:=6) nd rfl (.inl rfl)) (ag (aG (i:=7) aZ)
  (ag (ck PassesOwn.never rfl (bX rfl T.z_range (aa (pv 2) af)) (aV (i:=8) nd rfl (.inl rfl)) (ag (aG (i:=9) (aK aJ (aa (aD aM (aD aM (aD aM (pv 0) (aD bf ae (pv 8))) (aD bf (aD bf ae (pv 6)) (aD gP ae (pv 4)))) ae) (aa ae af))))
  (ag (bc (aL bo (pv 8) (pv 3) (aQ _)) (aj (aG (i:=9) (aD dz (aD aM (aK aJ (aa (aD aM (pv 0) ae) (aa ae af))) (aD bf ae (pv 6))) ae)))
   aW)
  (aj (aG (i:=7) (aD vG (pv 7) (ar DZ aZ (pv 9))))))))
  (aj (bw (d7 aaw aaX aaY c5.r (pv 5) (aa (pv 7) af)))))))
  (aj (aR (pv 5)))))))),?_⟩
  refine(?_:let bQ:TS:=_;let bR:TS:=_;let bS:TS:=_;let df:TS:=_;let mT:TS:=_;let uY:TS:=_;tSeq bQ (tSeq bR (tSeq bS (tSeq df (tSeq mT uY)))) _ _ _);intro bQ bR bS df mT uY;have sl:=sizeLine_eq;obtain⟨m,rfl⟩:∃m:Nat,n=(m:Int):=⟨n.toNat,⋯⟩
  have z0:=cB (c:=c) (m:=8) ∅;have z1:=cQ (c:=c) (m:=8) ∅;obtain⟨sz,Wl⟩:∃sz:Nat,1+a5 c 8=(sz:Int):=⟨(1+a5 c 8).toNat,⋯⟩
  have ew:cZ c (m:Int)=(List.range m).map λk:Nat=>g4 (xh c (a5 (c+1) (sz:Int)) (a5 (c+2) 2) k) sz:=by unfold cZ;rw[Wl,aal,aal]
  rw[ew] at kk;clear ew;have p0:=cB (c:=c+1) (m:=(sz:Int)) ⋯;have p1:=cQ (c:=c+1) (m:=(sz:Int)) ⋯;have w0:=cB (c:=c+2) (m:=2) ∅;have w1:=cQ (c:=c+2) (m:=2) ∅;refine aN (λN=>N [c⁻¹,some (.int (m:Int)),some (.int (sz:Int)),none,none,none,none,none,none,none] H) (λN hN=>?_) ?_
  ·dsimp?[b5];rw[Wl];exact⟨∅,hN⟩
  refine aN (λN=>N [c⁻¹,some (.int (m:Int)),some (.int (sz:Int)),some (.int (a5 (c+1) (sz:Int))),none,none,none,none,none,none] H) (λN hN=>?_) ?_
  ·dsimp?[b5];exact⟨⋯,hN⟩
  generalize a5 (c+1) (sz:Int)=sp at *;refine aN (λN=>N [c⁻¹,some (.int (m:Int)),some (.int (sz:Int)),sp⁻¹,some (.int (a5 (c+2) 2)),none,none,none,none,none] H) (λN hN=>?_) ?_
  ·dsimp?[b5];exact⟨∅,hN⟩
  generalize a5 (c+2) 2=sm at *;refine aN (λN=>∀H1 l,aw H H1->H l=none->H1 l=some (.lst [])->N [c⁻¹,some (.int (m:Int)),some (.int (sz:Int)),sp⁻¹,sm⁻¹,~~~l,none,none,none,none] H1) (λN hN=>?_) ?_
  ·dsimp?[];exact⟨aah _,λl nl=>hN _ l (au nl) nl ao⟩
  rintro H1 l s1 nl hl;refine aN (λN=>∀H2,aw H H2->H2 l=some (.lst (((List.range m).map λk:Nat=>g4 (xh c sp sm k) sz).map V.str))->∀z6 z7 z8 z9,N [c⁻¹,some (.int (m:Int)),some (.int (sz:Int)),sp⁻¹,sm⁻¹,~~~l,z6,z7,z8,z9] H2) (λN hN=>?_) ?_
  ·dsimp?[];refine⟨⋯,⋯,bJ (src_range (Ok:=λ_=>True)) (λi σ H2=>aw H H2/\H2 l=some (.lst (((List.range i).map λk:Nat=>g4 (xh c sp sm k) sz).map V.str))/\∃z6 z7 z8 z9,σ=[c⁻¹,some (.int (m:Int)),some (.int (sz:Int)),sp⁻¹,sm⁻¹,~~~l,z6,z7,z8,z9]) ⟨s1,hl,_,_,_,_,rfl⟩ (λ_ _ _ _ _=>trivial) ?_ ?_⟩
   ·intro k x σ H2 H3 hk eV eX;symm;obtain⟨s2,AJ,z6,z7,z8,z9,rfl⟩:=eV;obtain⟨rfl,rfl⟩:=eX;nofun;rw[aal] at hk;simp only[gName,aaH,aaG,aaS];refine aN (λN=>N [c⁻¹,some (.int (m:Int)),some (.int (sz:Int)),sp⁻¹,sm⁻¹,~~~l,some (.int (k:Int)),some (.str ""),z8,z9] H3) (λN hN=>?_) ?_
    ·dsimp?[];exact hN
    refine aN (λN=>∀z8 z9,N [c⁻¹,some (.int (m:Int)),some (.int (sz:Int)),sp⁻¹,sm⁻¹,~~~l,some (.int (k:Int)),some (.str (g4 (xh c sp sm k) sz)),z8,z9] H3) (λN hN=>?_) ?_
    ·dsimp?[];refine⟨⋯,⋯,bJ (src_range (Ok:=λ_=>True)) (λj σ H4=>H3=H4/\∃z8 z9,σ=[c⁻¹,some (.int (m:Int)),some (.int (sz:Int)),sp⁻¹,sm⁻¹,~~~l,some (.int (k:Int)),some (.str (g4 (xh c sp sm k) j)),z8,z9]) ⟨rfl,_,_,rfl⟩ (λ_ _ _ _ _=>trivial) ?_ ?_⟩
     ·intro j x σ H4 H5 hj eV eX;symm;obtain⟨rfl,z8,z9,rfl⟩:=eV;obtain⟨rfl,rfl⟩:=eX;nofun
      try rw[aal] at hj
      simp only[gName,aaH,aaG,aaS];refine aN (λN=>N [c⁻¹,some (.int (m:Int)),some (.int (sz:Int)),sp⁻¹,sm⁻¹,~~~l,some (.int (k:Int)),some (.str (g4 (xh c sp sm k) j)),some (.int (j:Int)),some (.int (a5 (c+31* (j:Int)+977* (k:Int)* (1 - sm)+3) 26))] H5) (λN hN=>?_) ?_
      ·dsimp?[b5];exact⟨br ⋯ ⋯,br ⋯ ⋯,br ⋯ ⋯,∅,hN⟩
      refine aN (λN=>N [c⁻¹,some (.int (m:Int)),some (.int (sz:Int)),sp⁻¹,sm⁻¹,~~~l,some (.int (k:Int)),some (.str (g4 (xh c sp sm k) j)),some (.int (j:Int)),some (.int (xh c sp sm k j))] H5) (λN hN=>?_) ?_
      ·unfold xh at hN;dsimp?[b5];refine iw (λe=>?_) (λe=>?_)
       ·rw[if_pos e] at hN;exact⟨∅,br ⋯ ⋯,∅,hN⟩
       ·rw[if_neg e] at hN;exact hN
      obtain⟨b0,b1⟩:=EC c sp sm k j;dsimp?[Hl];exact⟨by rw[sl];ac_rfl,_,IT b0 b1,by rw[nS];show j+1<=sizeLine;lia,(Cd _ _).symm,_,rfl⟩
     ·intro σ H4 dg;symm;obtain⟨rfl,z8,z9,rfl⟩:=dg;nofun
      try rw[show((sz:Int)).toNat=sz from aal _]
      exact hN _ _
    rintro z8 z9;dsimp?[dS];refine⟨.inl ⟨rfl,_,bC.of AJ⟩,_,AJ,by rw[aad,aad,aax];lia,bZ s2 nl,?_,_,rfl⟩;rw[ao,List.range_succ,aak,aak];rfl
   ·intro σ H2 dg;symm;obtain⟨s2,AJ,z6,z7,z8,z9,rfl⟩:=dg;nofun;rw[aal] at AJ;exact hN _ s2 AJ _ _ _ _
  rintro H2 s2 AJ z6 z7 z8 z9;dsimp?[];exact kk _ _ s2 nl AJ (by rw[aad,aax,aal]) (Ce p0 p1 ⋯) (λw hw=>by
   symm;obtain⟨k,_,rfl⟩:=abi.mp hw;nofun;exact IU ⋯ ⋯ (EC c sp sm k)) ⟨sz,λw hw=>by
   symm;obtain⟨k,_,rfl⟩:=abi.mp hw;nofun;exact nS _ _⟩
theorem jw:aS ["_law_cell_here","_law_counts","_law_clock","_law_thrown","_law_others","_law_deeds_here","_law_j","_law_name","_law_kind","_law_deed"] ["_law_cell_here","_law_counts","_law_clock","_law_thrown"] (aq (top 46)):=.mk
theorem pC {H:Hp} {d:Dat} {v:V} (r:Rep H d v):∀(k:Nat) {ds:List Dat} {xs:List V},a7 H ds xs->a7 H (ds.take k++d::ds.drop k) (xs.take k++v::xs.drop k)
 | 0,ds,xs,h=>aO.mpr ⟨v,xs,rfl,r,h⟩
 | k+1,[],xs,h=>by rw[bD.mp h];exact aO.mpr ⟨v,[],rfl,r,bD.mpr rfl⟩
 | k+1,a::ds,xs,h=>by
  obtain⟨x,ys,rfl,h1,h2⟩:=aO.mp h;exact aO.mpr ⟨x,_,rfl,h1,pC r k h2⟩
theorem mz {cb:Str}:∀cs:List (Str×Int),(cs.filterMap λx=>if x.1≠cb then some (V.str x.1) else none)=((cs.map (·.1)).filter λn=>decide (n≠cb)).map V.str
 | []=>rfl
 | x::cs=>by
  rw[aaT,aae]
  by_cases e:x.1=cb
  ·rw[if_neg (λz=>z e),List.filter_cons_of_neg (by simpa using e)];exact mz cs
  ·rw[if_pos e,List.filter_cons_of_pos (by simpa using e),aae,mz cs]
theorem Cu (T:0|||0):(2<<<"_law_deeds") ["_law_cell_here","_law_counts","_law_clock","_law_thrown"] Ci:=by
 have aJ:=my T;refine T.si.dF (λ_ _ _ _ _ _=>sF λ_ _ _ _=>rfl) λf fd F=>F.dZ jw (λvs H Q E h=>?_) (λbY A outer s H vs Q E hr h=>?_)
 ·obtain⟨_,_,_,_,rfl,_⟩:=Bq h;rfl
 ·symm;obtain⟨c,cl,cb,th,rfl,cs,rc,c3,tq,Jc,cw,kk⟩:=Bq h;nofun;clear G_;have nd:=jw.nd;refine⟨_,(ag (j7 (i:=4) rfl nd rfl rfl (N:=["_law_cell_here","_law_counts","_law_clock","_law_thrown","_law_others","_law_deeds_here","_law_j","_law_name","_law_kind","_law_deed"]) (so:=aq (top 46)) (N':=["_law_name","_law_most","_law_clock"]) (k:=2) (fr:=[2]) rfl rfl ⟨rfl,∅,∅,∅,rfl,∅,∅⟩ (bh (K:=K) (pv 1)) (λ_ _ _ _ _=>(eP (K:=K) (n:=2) rfl (bH (aV (i:=0) (show(["_law_name","_law_most","_law_clock"]:List Str).Nodup by ac_rfl) rfl (.inl rfl)) (bH (aV (i:=1) (show(["_law_name","_law_most","_law_clock"]:List Str).Nodup by ac_rfl) rfl (.inl rfl)) eO)))) (λ_ _ _ _ _=>(eA (aL mC (pv 0) (pv 2) (aQ _))))
   (λ_ _ _ _ _=>(pv 0)))
  (ag (aG (i:=5) (bT (aa (a6 (aa aZ (aa (pv 2) (aa ae af)))) af)))
  (ag (ck PassesOwn.never rfl (bX rfl T.z_range (aa (aK aJ (aa (aD aM (pv 0) ae) (aa ae af))) af)) (aV (i:=6) nd rfl (.inl rfl)) (aj (bc (aL i8 (aU bK (by rfl) T.z_len aav (aa (pv 4) af)) ae (aQ _)) (ag (aG (i:=7) (ar aX (pv 4) (aK aJ (aa (aD aM (aD aM (pv 0) (aD bf ae (pv 6))) ae) (aa (aU bK (by rfl) T.z_len aav (aa (pv 4) af)) af)))))
  (ag (aG (i:=8) (aK aJ (aa (aD aM (aD aM (pv 0) (aD bf ae (pv 6))) ae) (aa ae af))))
  (ag (aG (i:=9) (a6 (aa (ar aX (bT (aa aZ (aa aZ af))) (aD dz (pv 8) ae)) (aa (pv 7) (aa (aK aJ (aa (aD aM (pv 0) (aD bf ae (pv 6))) (aa ae af))) af)))))
  (ag (bc (PW.pt (pw_and (aL bo (pv 8) ae (aQ _)) (pw_and1 (gM (pv 3))))) (aj (aG (i:=9) (a6 (aa aZ (aa (pv 7) af)))))
   aW)
  (ag (bc (PW.pt (pw_and (aL bo (pv 8) ae (aQ _)) (pw_and1 (aL i8 (aU bK (by rfl) T.z_len aav (aa (pv 4) af)) ae (aQ _))))) (aj (aG (i:=9) (a6 (aa aZ (aa (pv 7) (aa (ar aX (pv 4) (aD gP ae (d7 aaw PySem.F.slot_list_index PySem.F.type_list_index (zD hr.units) (pv 4) (aa (pv 7) af)))) af))))))
   aW)
  (aj (bw (d7 aaw PySem.F.slot_list_insert PySem.F.type_list_insert qI.r (pv 5) (aa (aK aJ (aa (aD aM (aD aM (pv 0) (aD bf ae (pv 6))) ae) (aa (aD aM (aU bK (by rfl) T.z_len aav (aa (pv 5) af)) ae) af))) (aa (pv 9) af))))))))))
   aW)))
  (aj (aR (pv 5)))))),?_⟩
  refine(?_:let bQ:TS:=_;let bR:TS:=_;let bS:TS:=_;let df:TS:=_;tSeq bQ (tSeq bR (tSeq bS df)) _ _ _);intro bQ bR bS df;have sl:=sizeLine_eq;symm;obtain⟨yI,u0,e0,fY,pK⟩:=aY.mp (show Rep H (.lst _) (.ref cl) from rc);nofun;clear G_;cases e0;have len:=pK.length;rw[aad] at len;refine aN (λN=>∀H1 ol,aw H H1->H1 ol=some (.lst (((cs.map (·.1)).filter λn=>decide (n≠cb)).map V.str))->N [c⁻¹,~~~cl,some (.str cb),some (.bl th),~~~ol,none,none,none,none,none] H1) (λN hN=>?_) ?_
  ·dsimp?[];refine⟨⟨_,bC.of fY⟩,?_⟩;have S:Src (vj K cl) (aw H) u0.length _:=src_list (λH' s'=>bC.of (s' _ _ fY));rw[<-len] at S;refine pj (K:=K) cs (λx=>if x.1≠cb then some (.str x.1) else none) S (λ_ _ _ _ h=>h.1) ⋯ ?_ ?_
   ·rintro i x y ex ⟨_,ey⟩;symm;obtain⟨d,ed,rd⟩:=pK.get ey;nofun;rw[aaf,ex] at ed;cases ed;symm;obtain⟨cq,b1,b2,rfl,EF,q1,q2⟩:=bu.mp (show Rep _ (.tup _) y from rd);obtain rfl:=aI.mp q1;nofun;refine⟨cq,_,_,rfl,iP.of EF,λY N y1 y2=>?_⟩;dsimp?[]
    by_cases e:x.1=cb
    ·rw[if_neg (λz=>z e)];exact y2 (if_neg (λz=>z e))
    ·rw[if_pos e];exact y1 _ (if_pos e)
   ·intro D n1 n2;refine hN _ D (au n2) ?_;rw[ao,mz]
  rintro H1 ol s1 EG;rw[show jO c cs cb th=gH c ((cs.map (·.1)).filter λn=>decide (n≠cb)) cb th (a5 (c+5) 3).toNat from rfl] at kk;generalize Sy:(cs.map (·.1)).filter (λn=>decide (n≠cb))=os at *;have Jd:∀n∈os,n∈cs.map (·.1):=λn hn=>by rw[<-Sy] at hn;exact(List.mem_filter.mp hn).1
  have ond:os.Nodup:=by rw[<-Sy];exact Jc.filter _
  have YV:os.length<=2:=by
   have:os.length< (cs.map (·.1)).length:=by
    rw[<-Sy];exact List.length_filter_lt_length_iff_exists.mpr ⟨cb,tq,by simp⟩
   rw[aad] at this;lia
  refine aN (λN=>∀H2 l t,aw H1 H2->H1 l=none->H2 l=some (.lst [.ref t])->H2 t=some (.tup [.str "plus",.str cb,.int 1])->N [c⁻¹,~~~cl,some (.str cb),some (.bl th),~~~ol,~~~l,none,none,none,none] H2) (λN hN=>?_) ?_
  ·dsimp?[];exact⟨⋯,λt H2 s2 nt et=>⟨⋯,λl nl=>hN _ l t (s2.trans (au nl)) (none_of s2 nl) ao (au nl _ _ et)⟩⟩
  rintro H2 l t s2 nl hl ht;have Qb:H l=none:=none_of s1 nl;have YW:ol≠l:=λz=>by rw[z,nl] at EG;cases EG
  have tz:=s1.trans s2;have YX:dA (upd H l (.lst [])) H2:=λb ys e=>by
   by_cases z:b=l
   ·subst z;exact⟨_,hl⟩
   ·rw[av z] at e;exact⟨_,tz _ _ e⟩
  refine aN (λN=>∀(H3:Hp) (xs:List V),aw H H3->H3 l=some (.lst xs)->(gH c os cb th (a5 (c+5) 3).toNat).length<=3->(∀d∈gH c os cb th (a5 (c+5) 3).toNat,fQ cs d/\Am d)->dj (upd H l (.lst [])) H3 ((gH c os cb th (a5 (c+5) 3).toNat).map qO) xs->∀z6 z7 z8 z9,N [c⁻¹,~~~cl,some (.str cb),some (.bl th),~~~ol,~~~l,z6,z7,z8,z9] H3) (λN hN=>?_) ?_
  ·dsimp?[b5];have m0:=cB (c:=c+5) (m:=3) ∅;have m1:=cQ (c:=c+5) (m:=3) ∅;obtain⟨m,em⟩:∃m:Nat,a5 (c+5) 3=(m:Int):=⟨(a5 (c+5) 3).toNat,⋯⟩
   have et:(a5 (c+5) 3).toNat=m:=⋯
   rw[et] at hN;rw[em] at m0 m1 ⊢;refine⟨∅,⋯,⋯,?_⟩;rw[aal];refine bJ (src_range (Ok:=λ_=>True)) (λi σ H3=>aw H H3/\H3 ol=some (.lst (os.map V.str))/\∃(xs:List V),H3 l=some (.lst xs)/\(gH c os cb th i).length<=i+1/\(∀d∈gH c os cb th i,fQ cs d/\Am d)/\dj (upd H l (.lst [])) H3 (List.map qO (gH c os cb th i)) xs/\∃z6 z7 z8 z9,σ=[c⁻¹,~~~cl,some (.str cb),some (.bl th),~~~ol,~~~l,z6,z7,z8,z9]) ⟨tz,s2 _ _ EG,[.ref t],hl,aag _,λd hd=>by rw[abj.mp hd];exact⟨tq,show(0:Int)<=1 by decide⟩,bV (vb YX ht bO bO dm) eZ,_,_,_,_,rfl⟩ (λ_ _ _ _ _=>trivial) ?_ ?_
   ·intro i x σ H3 H4 hi eV eX;symm;obtain⟨s3,Gr,xs,hx,ld,gd,rx,z6,z7,z8,z9,rfl⟩:=eV;obtain⟨rfl,rfl⟩:=eX;nofun;clear G_;have eI:gH c os cb th (i+1)=if os=[] then gH c os cb th i else (gH c os cb th i).take (a5 (c+17* (i:Int)+3) (((gH c os cb th i).length:Int)+1)).toNat++IY c os th (i:Int)::(gH c os cb th i).drop (a5 (c+17* (i:Int)+3) (((gH c os cb th i).length:Int)+1)).toNat:=rfl
    generalize gH c os cb th i=ds at *;have xl:xs.length=ds.length:=by have:=a7.length rx;rw[aad] at this;lia
    simp only[gName,aaH,aaG,aaS];change tIfS _ _ _ _ [c⁻¹,~~~cl,some (.str cb),some (.bl th),~~~ol,~~~l,some (.int (i:Int)),z7,z8,z9] H4
    by_cases o0:os=[]
    ·subst o0;refine bL (λY N k=>by dsimp?[Gr];rw[if_neg ∅];exact k) ?_;dsimp?[];rw[eI,if_pos rfl];exact⟨s3,Gr,xs,hx,⋯,gd,rx,_,rfl⟩
    ·have op:0<os.length:=List.length_pos_iff.mpr o0;refine cH (λY N k=>by dsimp?[Gr];rw[if_pos (by rw[aad];lia)];exact k) ?_;have Sz:(0:Int)< (os.length:Int):=⋯
     rw[if_neg o0] at eI;unfold IY at eI;refine aN (λN=>∀n,n∈os->os.getD (a5 (c+7* (i:Int)+1) (os.length:Int)).toNat default=n->N [c⁻¹,~~~cl,some (.str cb),some (.bl th),~~~ol,~~~l,some (.int (i:Int)),some (.str n),z8,z9] H4) (λN hN=>?_) ?_
     ·dsimp?[b5,Gr];rw[aad];have b0:=cB (c:=c+7* (i:Int)+1) Sz;have b1:=cQ (c:=c+7* (i:Int)+1) Sz;generalize a5 (c+7* (i:Int)+1) (os.length:Int)=b at *;obtain⟨k,rfl⟩:∃k:Nat,b=(k:Int):=⟨b.toNat,⋯⟩
      have hk:k<os.length:=⋯
      exact⟨br ⋯ ⋯,Sz,.str os[k],bM (by rw[aaf,aai hk];rfl),hN _ (aaI hk) (by rw[aal,aaC,aai hk];rfl)⟩
     rintro n hn en;rw[en] at eI;have Qc:=Jd n hn;refine aN (λN=>∀kd:Int,a5 (c+11* (i:Int)+2) 4=kd->0<=kd->kd<4->N [c⁻¹,~~~cl,some (.str cb),some (.bl th),~~~ol,~~~l,some (.int (i:Int)),some (.str n),kd⁻¹,z9] H4) (λN hN=>?_) ?_
     ·dsimp?[b5];exact⟨br ⋯ ⋯,∅,hN _ rfl (cB ∅) (cQ ∅)⟩
     rintro kd YY k0 k4;rw[YY] at eI;let SA:Dd->Hp->V->Prop:=λd H5 v=>c4 (upd H l (.lst [])) H5 (qO d) v/\fQ cs d/\Am d;generalize Qd:(if kd % 2=0 then Dd.set n (a5 (c+13* (i:Int)) 3) else Dd.plus n (a5 (c+13* (i:Int)) 3))=d3 at eI;generalize Kk:(if kd=2/\th=true then Dd.face n else d3)=d2 at eI;generalize Kl:(if kd=3/\1< (os.length:Int) then Dd.move n (os.getD (1 - os.idxOf n) default) else d2)=d1 at eI;have Je:dA (upd H l (.lst [])) H4:=λb ys e=>by
      by_cases z:b=l
      ·subst z;exact⟨_,hx⟩
      ·rw[av z] at e;exact⟨_,s3 _ _ e⟩
     refine aN (λN=>∀H5 v,aw H4 H5->SA d3 H5 v->N [c⁻¹,~~~cl,some (.str cb),some (.bl th),~~~ol,~~~l,some (.int (i:Int)),some (.str n),kd⁻¹,some v] H5) (λN hN=>?_) ?_
     ·have v0:∀c,0<=a5 c 3:=λc=>cB ∅;dsimp?[b5];obtain⟨ww,YZ,Y0,Y1⟩:∃w,jS [V.str "set",V.str "plus"] (kd % 2)=some (.str w)/\qO d3=.tup [.str w,.str n,.int (a5 (c+13* (i:Int)) 3)]/\fQ cs d3/\Am d3:=by
       have o:kd % 2=0\/kd % 2=1:=⋯
       rcases o with o | o
       ·rw[o,if_pos rfl] at Qd;rw[o,<-Qd];exact⟨_,rfl,rfl,Qc,v0 _⟩
       ·rw[o,if_neg ∅] at Qd;rw[o,<-Qd];exact⟨_,rfl,rfl,Qc,v0 _⟩
      refine⟨⋯,λp np=>⟨∅,_,ao,_,YZ,br ⋯ ⋯,∅,⋯,λp1 H5 s5 Km e5=>?_⟩⟩;have MK:=(au np).trans s5;exact hN _ _ MK ⟨by rw[Y0];exact vb (Je.trans MK) e5 bO bO dm,Y1⟩
     rintro H5 v5 s5 d5;refine aN (λN=>∀H5 v,aw H4 H5->SA d2 H5 v->N [c⁻¹,~~~cl,some (.str cb),some (.bl th),~~~ol,~~~l,some (.int (i:Int)),some (.str n),kd⁻¹,some v] H5) (λN hN=>?_) ?_
     ·dsimp?[]
      by_cases z1:kd=2
      ·rw[if_pos z1]
       by_cases z2:th=true
       ·rw[if_pos z2];rw[if_pos ⟨z1,z2⟩] at Kk;exact⟨⋯,λp H6 s6 np e6=>hN _ _ (s5.trans s6) (by rw[<-Kk];exact⟨qi (Je.trans (s5.trans s6)) e6 bO bO,Qc,trivial⟩)⟩
       ·rw[if_neg (λz=>z2 z.2)] at Kk;rw[if_neg z2];exact hN _ _ s5 (Kk▸d5)
      ·rw[if_neg (λz=>z1 z.1)] at Kk;rw[if_neg z1,if_neg ∅];exact hN _ _ s5 (Kk▸d5)
     rintro H6 v6 s6 d6;refine aN (λN=>∀H5 v,aw H4 H5->SA d1 H5 v->N [c⁻¹,~~~cl,some (.str cb),some (.bl th),~~~ol,~~~l,some (.int (i:Int)),some (.str n),kd⁻¹,some v] H5) (λN hN=>?_) ?_
     ·dsimp?[s6 _ _ Gr,LA]
      by_cases z1:kd=3
      ·rw[if_pos z1,aad]
       by_cases z2:(1:Int)< (os.length:Int)
       ·rw[if_pos z2];have o2:os.length=2:=⋯
        obtain⟨ei,ni⟩:=IW hn;have SD:=List.idxOf_lt_length_of_mem hn;have j2:(1 - ((os.idxOf n:Nat):Int))=((1 - os.idxOf n:Nat):Int):=⋯
        have hj:1 - os.idxOf n<os.length:=⋯
        have eg:os.getD (1 - os.idxOf n) default=os[1 - os.idxOf n]:=by rw[aaC,aai hj];rfl
        rw[if_pos ⟨z1,z2⟩,eg] at Kl;have ks:∀x∈os,Ke (.str x):=λx hx=>by
         symm;obtain⟨y,hy,rfl⟩:=abi.mp (Jd x hx);nofun;exact IX (cw y hy).2.2.1
        refine⟨.inl ⟨rfl,_,bC.of (s6 _ _ Gr)⟩,os.map Dat.str,u7 _,λe he=>?_,.str n,aI.mpr rfl,ks n hn,os.idxOf n,ei,ni,⋯,.str os[1 - os.idxOf n],?_,⋯,λp H7 s7 np e7=>hN _ _ (s6.trans s7) (by rw[<-Kl];exact⟨vb (Je.trans (s6.trans s7)) e7 bO bO bO,⟨Qc,Jd _ (aaI hj)⟩,trivial⟩)⟩
        ·symm;obtain⟨x,hx,rfl⟩:=abi.mp he;nofun;exact ks x hx
        ·rw[j2];exact bM (by rw[aaf,aai hj];rfl)
       ·rw[if_neg (λz=>z2 z.2)] at Kl;rw[if_neg z2];exact hN _ _ s6 (Kl▸d6)
      ·rw[if_neg (λz=>z1 z.1)] at Kl;rw[if_neg z1,if_neg ∅];exact hN _ _ s6 (Kl▸d6)
     intro H7 v7 s7 BP;symm;obtain⟨rd,Y2,Y3⟩:=BP;nofun;clear G_;have b0:=cB (c:=c+17* (i:Int)+3) (m:=(xs.length:Int)+1) ⋯;have b1:=cQ (c:=c+17* (i:Int)+3) (m:=(xs.length:Int)+1) ⋯;dsimp?[b5,HU];refine⟨.inl ⟨rfl,_,bC.of (s7 _ _ hx)⟩,br ⋯ ⋯,xs,s7 _ _ hx,⋯,?_⟩;rw[<-xl] at eI;generalize a5 (c+17* (i:Int)+3) ((xs.length:Int)+1)=b at *;obtain⟨k,rfl⟩:∃k:Nat,b=(k:Int):=⟨b.toNat,⋯⟩
     rw[aal] at eI ⊢;rw[eI];refine⟨xs,s7 _ _ hx,⋯,⋯,⋯,bZ (s3.trans s7) Qb,by rw[av YW];exact s7 _ _ Gr,_,ao,?_,λe he=>?_,?_,_,rfl⟩
     ·rw[aaq,aap,aaA,List.length_drop];lia
     ·rcases List.mem_append.mp he with he | he
      ·exact gd e (List.mem_of_mem_take he)
      ·rcases aaB.mp he with rfl | he
       ·exact⟨Y2,Y3⟩
       ·exact gd e (List.mem_of_mem_drop he)
     ·show a7 (gG _ (upd _ _ _)) _ _;rw[iK (ys:=[]) ao,aak,aae,List.map_take,List.map_drop];exact pC rd k (rx.mono s7)
   ·intro σ H3 dg;symm;obtain⟨s3,Gr,xs,hx,ld,gd,rx,z6,z7,z8,z9,rfl⟩:=dg;nofun;exact hN _ xs s3 hx ⋯ gd rx _ _ _ _
  rintro H3 xs s3 hx ld gd rx z6 z7 z8 z9;dsimp?[];exact kk _ _ s3 Qb (mw Qb hx (rx.low (.of (au Qb)))) ld gd
theorem jx:aS ["_law_cell_here","_law_counts","_law_clock","_law_goals","_law_sides","_law_pool","_law_low_here","_law_high","_law_cut","_law_rows","_law_k","_law_ends","_law_deeds_here","_law_pay"] ["_law_cell_here","_law_counts","_law_clock","_law_goals"] (aq (top 47)):=.mk
theorem SE {ps:List Pt} (h:ps∈Ag):0<=jP ps/\jP ps<=jQ ps/\jQ ps<=500/\∀v∈ff ps,jP ps<=v/\v<=jQ ps:=by
 have d:∀x∈zI,x.1<=x.1*x.2/\x.1*x.2<=100:=∅
 rcases iS h with ⟨k,s,An,e | ⟨m,hm,e⟩⟩ | ⟨s,s2,s6,e⟩
 ·subst e;have:k<=k*s/\k*s<=100:=d (k,s) An;have e1:jP [.cP k s]=(k:Int):=by show(k:Int)+0=_;lia
  have e2:jQ [.cP k s]=((k*s:Nat):Int):=by show(k:Int)* (s:Int)+0=_;rw[<-aaW];lia
  rw[e1,e2];refine⟨⋯,⋯,⋯,λv hv=>?_⟩;obtain⟨i,hi,rfl⟩:=abi.mp hv;have:=List.mem_range.mp hi;lia
 ·subst e;have:k<=k*s/\k*s<=100:=d (k,s) An;have e1:jP [.cP k s,.num m]=(k:Int)+ (m:Int):=by show(k:Int)+ ((m:Int)+0)=_;lia
  have e2:jQ [.cP k s,.num m]=((k*s:Nat):Int)+ (m:Int):=by show(k:Int)* (s:Int)+ ((m:Int)+0)=_;rw[<-aaW];lia
  rw[e1,e2];refine⟨⋯,⋯,⋯,λv hv=>?_⟩;obtain⟨i,hi,rfl⟩:=abi.mp hv;have:=List.mem_range.mp hi;lia
 ·subst e;have e1:jP [.bU 1 s]=1:=by show(1:Int)+0=_;lia
  have e2:jQ [.bU 1 s]=2* (s:Int):=by show 2* (s:Int)+0=_;lia
  rw[e1,e2];refine⟨⋯,⋯,⋯,λv hv=>?_⟩;obtain⟨i,hi,rfl⟩:=abi.mp (List.mem_filter.mp hv).1;have:=List.mem_range.mp hi;lia
theorem Cv {gs:List Str} (g0:0<gs.length) (c:Int):vc c gs∈gs/\jS (List.map V.str gs) (a5 c (gs.length:Int))=some (.str (vc c gs)):=by
 have b0:=cB (c:=c) (m:=(gs.length:Int)) ⋯;have b1:=cQ (c:=c) (m:=(gs.length:Int)) ⋯;unfold vc;generalize a5 c (gs.length:Int)=b at *;obtain⟨k,rfl⟩:∃k:Nat,b=(k:Int):=⟨b.toNat,⋯⟩
 have hk:k<gs.length:=⋯
 rw[aal,aaC,aai hk];exact⟨aaI hk,bM (by rw[aaf,aai hk];rfl)⟩
theorem ML {α:Type} {l:List α} (h:l.length=2):∃a b,l=[a,b]:=match l,h with | [a,b],_=>⟨a,b,rfl⟩
theorem Jf (T:0|||0):(3<<<"_law_throw") ["_law_cell_here","_law_counts","_law_clock","_law_goals"] (yD yC):=by
 have aJ:=my T;have g5:=Cu T;refine T.sj.dF (λ_ _ _ _ _ _=>sF λ_ _ _ _=>rfl) λf fd F=>F.dZ jx (λvs H Q E h=>?_) (λbY A outer s H vs Q E hr h=>?_)
 ·obtain⟨_,_,_,_,rfl,_⟩:=rR h;rfl
 ·symm;obtain⟨c,cl,cb,gl,rfl,cs,rc,c3,tq,Jc,cw,gs,EH,g0,g3,kk⟩:=rR h;nofun;clear G_;have nd:=jx.nd;refine⟨_,(ag (aG (i:=4) (aD aM ae (aK aJ (aa (aD aM (pv 0) ae) (aa ae af)))))
  (ag (aG (i:=5) (bT (aa (a6 (aa aZ (aa (aD aM ae (aK aJ (aa (aD aM (pv 0) ae) (aa ae af)))) (aa (pv 4) af)))) af)))
  (ag (aG (i:=6) (ar ai (ar aX (pv 5) ae) ae))
  (ag (aG (i:=7) (aD bf (pv 6) (pv 4)))
  (ag (bc (aL bo (aK aJ (aa (aD aM (pv 0) ae) (aa ae af))) ae (aQ _)) (ag (aG (i:=5) (bT (aa (a6 (aa aZ (aa ae (aa (pv 4) af)))) af)))
  (ag (aG (i:=6) ae)
  (aj (aG (i:=7) (aD bf ae (pv 4))))))
   (aj (bc (aL bo (aK aJ (aa (aD aM (pv 0) ae) (aa ae af))) ae (aQ _)) (ag (bw (d7 aaw aaX aaY c5.r (pv 5) (aa (a6 (aa aZ (aa (aK aJ (aa (aD aM (pv 0) ae) (aa ae af))) af))) af)))
  (ag (aG (i:=6) (aD aM (pv 6) (ar ai (ar aX (pv 5) ae) ae)))
  (aj (aG (i:=7) (aD aM (pv 7) (ar ai (ar aX (pv 5) ae) ae))))))
   aW)))
  (ag (aG (i:=8) (aD aM (pv 6) (aK aJ (aa (aD aM (pv 0) ae) (aa (aD aM (aD gP (pv 7) (pv 6)) ae) af)))))
  (ag (aG (i:=9) (bT af))
  (ag (ck PassesOwn.never rfl (bX rfl T.z_range (aa ae af)) (aV (i:=10) nd rfl (.inl rfl)) (ag (aG (i:=11) (ar aX (bT (aa (a6 (aa (aU (iQ rfl) (by rfl) T.z_max rfl (aa ae (aa (aD gP (pv 6) ae) af))) (aa (pv 8) af))) (aa (a6 (aa (aD aM (pv 8) ae) (aa (aD aM (pv 7) ae) af))) af))) (pv 10)))
  (ag (aG (i:=12) (aK g5 (aa (aD aM (pv 0) (aD bf ae (pv 10))) (aa (pv 1) (aa (pv 2) (aa ik af))))))
  (aj (bw (d7 aaw aaX aaY c5.r (pv 9) (aa (a6 (aa (ar ai (pv 11) ae) (aa (ar ai (pv 11) ae) (aa (pv 12) (aa (ar aX (pv 3) (aK aJ (aa (aD aM (aD aM (pv 0) ae) (pv 10)) (aa (aU bK (by rfl) T.z_len aav (aa (pv 3) af)) af)))) af))))) af)))))))
  (ag (aG (i:=13) (a6 (aa (aD gP (aK aJ (aa (aD aM (pv 0) ae) (aa ae af))) ae) (aa ae af))))
  (ag (bc (aL bo (aK aJ (aa (aD aM (pv 0) ae) (aa ae af))) ae (aQ _)) (aj (aG (i:=13) (a6 (aa (aD gP (aD bf ae (aK aJ (aa (aD aM (pv 0) ae) (aa ae af)))) ae) (aa ae af)))))
   aW)
  (aj (aR (a6 (aa aZ (aa (pv 5) (aa (pv 13) (aa (ar aX (bT (aa (pv 9) (aa (zA (K:=K) (pv 9) (ip fI ae)) af))) (aK aJ (aa (aD aM (pv 0) ae) (aa ae af)))) af))))))))))))))))),?_⟩
  refine(?_:let bQ:TS:=_;let bR:TS:=_;let bS:TS:=_;let df:TS:=_;let mT:TS:=_;let uY:TS:=_;let BU:TS:=_;let Gs:TS:=_;let MM:TS:=_;let MN:TS:=_;let Cw:TS:=_;tSeq bQ (tSeq bR (tSeq bS (tSeq df (tSeq mT (tSeq uY (tSeq BU (tSeq Gs (tSeq MM (tSeq MN Cw))))))))) _ _ _);intro bQ bR bS df mT uY BU Gs MM MN Cw;have sl:=sizeLine_eq;obtain⟨s,es⟩:∃s:Nat,2+a5 (c+1) 5=(s:Int):=⟨(2+a5 (c+1) 5).toNat,by have:=cB (c:=c+1) (m:=5) ∅;lia⟩
  obtain⟨k,ek⟩:∃k:Nat,1+a5 (c+2) 2=(k:Int):=⟨(1+a5 (c+2) 2).toNat,by have:=cB (c:=c+2) (m:=2) ∅;lia⟩
  have s2:2<=s/\s<=6:=by have:=cB (c:=c+1) (m:=5) ∅;have:=cQ (c:=c+1) (m:=5) ∅;lia
  have k2:1<=k/\k<=2:=by have:=cB (c:=c+2) (m:=2) ∅;have:=cQ (c:=c+2) (m:=2) ∅;lia
  have An:(k,s)∈zI:=by
   obtain⟨a,b⟩:=s2;obtain⟨a',b'⟩:=k2;have:k=1\/k=2:=⋯
   have:s=2\/s=3\/s=4\/s=5\/s=6:=⋯
   rcases this with rfl | rfl | rfl | rfl | rfl <;>rcases ‹k=1\/k=2› with rfl | rfl <;>decide
  obtain⟨fw,pM⟩:∃x,yC c cs cb gs=x:=⟨_,rfl⟩
  rw[pM] at kk;unfold yC at pM;have ep:fB c=if a5 (c+15) 5=0 then [.bU 1 s] else if a5 (c+3) 3=0 then [.cP k s,.num (a5 (c+4) 100).toNat] else [.cP k s]:=by unfold fB;rw[es,ek,aal,aal]
  have SG:fB c∈Ag:=by
   have b0:=cB (c:=c+4) (m:=100) ∅;have b1:=cQ (c:=c+4) (m:=100) ∅;rw[ep]
   split
   ·exact Ii s2.1 s2.2
   ·refine aa1 _ (List.mem_flatMap.mpr ⟨(k,s),An,?_⟩)
    split
    ·exact aam _ (abi.mpr ⟨_,List.mem_range.mpr ⋯,rfl⟩)
    ·exact aas
  refine aN (λN=>N [c⁻¹,~~~cl,some (.str cb),~~~gl,some (.int (s:Int)),none,none,none,none,none,none,none,none,none] H) (λN hN=>?_) ?_
  ·dsimp?[b5];rw[es];exact⟨∅,hN⟩
  refine aN (λN=>∀H1 pl t,aw H H1->H pl=none->H1 pl=some (.lst [.ref t])->H1 t=some (.tup [.str "dice",.int (k:Int),.int (s:Int)])->N [c⁻¹,~~~cl,some (.str cb),~~~gl,some (.int (s:Int)),~~~pl,none,none,none,none,none,none,none,none] H1) (λN hN=>?_) ?_
  ·dsimp?[b5];rw[ek];exact⟨∅,⋯,λt H1 s1 nt et=>⟨⋯,λpl xn=>hN _ pl t (s1.trans (au xn)) (none_of s1 xn) ao (au xn _ _ et)⟩⟩
  rintro H1 pl t s1 xn hpl ht;refine aN (λN=>N [c⁻¹,~~~cl,some (.str cb),~~~gl,some (.int (s:Int)),~~~pl,some (.int (k:Int)),none,none,none,none,none,none,none] H1) (λN hN=>?_) ?_
  ·dsimp?[hpl];exact⟨_,ht,_,at1,hN⟩
  refine aN (λN=>N [c⁻¹,~~~cl,some (.str cb),~~~gl,some (.int (s:Int)),~~~pl,some (.int (k:Int)),some (.int ((k:Int)* (s:Int))),none,none,none,none,none,none] H1) (λN hN=>?_) ?_
  ·dsimp?[];exact⟨br ⋯ ⋯,hN⟩
  refine aN (λN=>∀H2 pl ys,aw H H2->H pl=none->H2 pl=some (.lst ys)->dj H H2 (List.map lZ (fB c)) ys->N [c⁻¹,~~~cl,some (.str cb),~~~gl,some (.int (s:Int)),~~~pl,some (.int (jP (fB c))),some (.int (jQ (fB c))),none,none,none,none,none,none] H2) (λN hN=>?_) ?_
  ·have b0:=cB (c:=c+4) (m:=100) ∅;have b1:=cQ (c:=c+4) (m:=100) ∅;have Y4:dA H H1:=.of s1;rw[ep] at hN
   by_cases e0:a5 (c+15) 5=0
   ·rw[if_pos e0] at hN;refine cH (λY N k=>by dsimp?[b5];exact⟨∅,by rw[if_pos e0];exact k⟩) ?_;dsimp?[];refine⟨⋯,λp H2 zX np ep=>⟨⋯,λq nq=>?_⟩⟩;have sq:=au (o:=.lst [V.ref p]) nq;have h:=hN (upd H2 q (.lst [.ref p])) q [.ref p] (s1.trans (zX.trans sq)) (none_of (s1.trans zX) nq) ao (bV (vb (.of (s1.trans (zX.trans sq))) (sq _ _ ep) bO dm dm) eZ);have e1:jP [.bU 1 s]=1:=by show(1:Int)+0=_;lia
    have e2:jQ [.bU 1 s]=2* (s:Int):=by show 2* (s:Int)+0=_;lia
    rw[e1,e2] at h;exact⟨br ⋯ ⋯,h⟩
   rw[if_neg e0] at hN;refine bL (λY N k=>by dsimp?[b5];exact⟨∅,by rw[if_neg e0];exact k⟩) ?_;dsimp?[b5,dS];refine⟨∅,iw (λe=>?_) (λe=>?_)⟩
   ·rw[if_pos e] at hN;refine⟨.inl ⟨rfl,_,bC.of hpl⟩,∅,⋯,λp H2 zX np ep=>?_⟩;obtain⟨m,em⟩:∃m:Nat,a5 (c+4) 100=(m:Int):=⟨(a5 (c+4) 100).toNat,⋯⟩
    rw[em,aal] at hN;rw[em] at ep b0 b1;have Y5:p≠pl:=λz=>by rw[z,hpl] at np;cases np
    have Y6:t≠pl:=λz=>by rw[z,hpl] at ht;cases ht
    have pQ:upd H2 pl (.lst ([.ref t]++ [.ref p])) p=some (.tup [.str "number",.int (m:Int)]):=by rw[av Y5];exact ep
    have Qe:upd H2 pl (.lst ([.ref t]++ [.ref p])) t=some (.tup [.str "dice",.int (k:Int),.int (s:Int)]):=by rw[av Y6];exact zX _ _ ht
    have sH:aw H (upd H2 pl (.lst ([.ref t]++ [.ref p]))):=bZ (s1.trans zX) xn;refine⟨_,zX _ _ hpl,by show(1:Nat)<sizeLine;lia,_,ao,_,at1,p,rfl,_,pQ,_,at1,_,rfl,_,ao,_,at1,p,rfl,_,pQ,_,at1,_,rfl,?_⟩;have h:=hN _ pl [.ref t,.ref p] sH xn ao (bV (vb (.of sH) Qe bO dm dm) (bV (qi (.of sH) pQ bO dm) eZ));have e1:jP [.cP k s,.num m]=(k:Int)+ (m:Int):=by show(k:Int)+ ((m:Int)+0)=_;lia
    have e2:jQ [.cP k s,.num m]=(k:Int)* (s:Int)+ (m:Int):=by show(k:Int)* (s:Int)+ ((m:Int)+0)=_;lia
    rw[e1,e2] at h;exact h
   ·rw[if_neg e] at hN;have h:=hN _ pl [.ref t] s1 xn hpl (bV (vb Y4 ht bO dm dm) eZ);have e1:jP [.cP k s]=(k:Int):=by show(k:Int)+0=_;lia
    have e2:jQ [.cP k s]=(k:Int)* (s:Int):=by show(k:Int)* (s:Int)+0=_;lia
    rw[e1,e2] at h;exact h
  clear hpl ht xn;clear pl t;rintro H2 pl ys zX xn xo Qf;clear ep;generalize fB c=ps at *;symm;obtain⟨lh1,Kn,lh3,Y7⟩:=SE SG;nofun;clear G_;have yz:c4 H H2 (.lst (ps.map lZ)) (.ref pl):=mw xn xo Qf;clear Qf xo;generalize jP ps=lo at *;generalize jQ ps=hi at *;refine aN (λN=>lo<=qj c lo hi->qj c lo hi<=hi->N [c⁻¹,~~~cl,some (.str cb),~~~gl,some (.int (s:Int)),~~~pl,lo⁻¹,hi⁻¹,some (.int (qj c lo hi)),none,none,none,none,none] H2) (λN hN=>?_) ?_
  ·dsimp?[b5];have b0:=cB (c:=c+6) (m:=hi - lo+1) ⋯;have b1:=cQ (c:=c+6) (m:=hi - lo+1) ⋯;exact⟨⋯,hN (by unfold qj;lia) (by unfold qj;lia)⟩
  rintro Sa V9;generalize qj c lo hi=cut at *;refine aN (λN=>∀H3 rl,aw H2 H3->H2 rl=none->H3 rl=some (.lst [])->N [c⁻¹,~~~cl,some (.str cb),~~~gl,some (.int (s:Int)),~~~pl,lo⁻¹,hi⁻¹,cut⁻¹,~~~rl,none,none,none,none] H3) (λN hN=>?_) ?_
  ·dsimp?[];exact⟨aah _,λrl Cy=>hN _ rl (au Cy) Cy ao⟩
  rintro H3 rl s3 Cy mi;have Cz:H rl=none:=none_of zX Cy;let Ko:Nat->Tw->Prop:=λj r=>r=Ki c lo hi cut cs cb gs j/\r.2.2.1.length<=3/\(∀d∈r.2.2.1,fQ cs d/\Am d)/\r.2.2.2∈gs;refine aN (λN=>∀(H4:Hp) (r0 r1:Tw) (x0 x1:V),aw H2 H4->H4 rl=some (.lst [x0,x1])->Ko 0 r0->Ko 1 r1->dj (upd H rl (.lst [])) H4 (([r0,r1].map BD).map mO) [x0,x1]->∀lj ve tR,N [c⁻¹,~~~cl,some (.str cb),~~~gl,some (.int (s:Int)),~~~pl,lo⁻¹,hi⁻¹,cut⁻¹,~~~rl,lj,ve,tR,none] H4) (λN hN=>?_) ?_
  ·dsimp?[];refine⟨∅,∅,bJ (src_range (Ok:=λ_=>True)) (λi σ H4=>aw H2 H4/\∃(rs:List Tw) (xs:List V),H4 rl=some (.lst xs)/\rs.length=i/\(∀(j:Nat) r,rs[j]?=some r->Ko j r)/\dj (upd H rl (.lst [])) H4 ((rs.map BD).map mO) xs/\∃lj ve tR,σ=[c⁻¹,~~~cl,some (.str cb),~~~gl,some (.int (s:Int)),~~~pl,lo⁻¹,hi⁻¹,cut⁻¹,~~~rl,lj,ve,tR,none]) ⟨s3,[],[],mi,rfl,(λj r e=>by simp at e),eZ,_,_,_,rfl⟩ (λ_ _ _ _ _=>trivial) ?_ ?_⟩
   ·intro i x σ H4 H5 Gu eV eX;symm;obtain⟨s4,rs,xs,hx,lr,ok,rx,lj,ve,tR,rfl⟩:=eV;obtain⟨rfl,rfl⟩:=eX;nofun;have xl:xs.length=i:=by have:=a7.length rx;rw[aad,aad] at this;lia
    have i2:i<2:=Gu;simp only[gName,aaH,aaG,aaS];refine aN (λN=>∀H6 t,aw H5 H6->H6 t=some (.tup [.int (if i=0 then max 0 (lo - 1) else cut+1),.int (if i=0 then cut else hi+2)])->N [c⁻¹,~~~cl,some (.str cb),~~~gl,some (.int (s:Int)),~~~pl,lo⁻¹,hi⁻¹,cut⁻¹,~~~rl,some (.int (i:Int)),~~~t,tR,none] H6) (λN hN=>?_) ?_
    ·dsimp?[];refine⟨⋯,λp H6 s6 np ep=>⟨⋯,λp1 H7 s7 Km Jg=>⟨⋯,λp2 SH=>?_⟩⟩⟩;have sp:=au (o:=.lst [V.ref p,V.ref p1]) SH;have e1:(if lo - 1 >0 then lo - 1 else 0)=max 0 (lo - 1):=by split <;>lia
     rw[e1] at ep;have Y8:i=0\/i=1:=⋯
     rcases Y8 with z | z
     ·subst z;exact⟨_,ao,_,at0,hN _ p (s6.trans (s7.trans sp)) (by rw[if_pos rfl,if_pos rfl];exact sp _ _ (s7 _ _ ep))⟩
     ·subst z;exact⟨_,ao,_,at1,hN _ p1 (s6.trans (s7.trans sp)) (by rw[if_neg ∅,if_neg ∅];exact sp _ _ Jg)⟩
    rintro H6 t' s6 Qe;refine aN (λN=>∀H7 dl,aw H6 H7->H6 dl=none->c4 H6 H7 (.lst (List.map qO (jO (c+100* (i:Int)) cs cb true))) (.ref dl)->(jO (c+100* (i:Int)) cs cb true).length<=3->(∀d∈jO (c+100* (i:Int)) cs cb true,fQ cs d/\Am d)->N [c⁻¹,~~~cl,some (.str cb),~~~gl,some (.int (s:Int)),~~~pl,lo⁻¹,hi⁻¹,cut⁻¹,~~~rl,some (.int (i:Int)),~~~t',~~~dl,none] H7) (λN hN=>?_) ?_
    ·dsimp?[Ci];exact⟨br ⋯ ⋯,cs,rc.mono (zX.trans (s4.trans s6)),c3,tq,Jc,cw,λdl H7 s7 n7 r7 l7 g7=>hN _ dl s7 n7 r7 l7 g7⟩
    rintro H7 dl s7 MO zO ld gd;have Wm:=zX.trans (s4.trans (s6.trans s7));have Qg:=s6.trans s7;obtain⟨SI,SJ⟩:=Cv g0 (c+8+ (i:Int));dsimp?[b5,dS];refine⟨.inl ⟨rfl,_,bC.of (Qg _ _ hx)⟩,_,s7 _ _ Qe,_,at0,_,s7 _ _ Qe,_,at1,_,Wm _ _ EH,by rw[aad];lia,_,Wm _ _ EH,_,by rw[aad];exact SJ,⋯,λp H8 s8 np ep=>⟨xs,(Qg.trans s8) _ _ hx,⋯,bZ (s4.trans (Qg.trans s8)) Cy,rs++ [Ki c lo hi cut cs cb gs i],_,ao,by rw[aaq,lr];rfl,?_,?_,_,rfl⟩⟩
    ·intro j r ej
     by_cases z:j<rs.length
     ·rw[List.getElem?_append_left z] at ej;exact ok j r ej
     ·rw[List.getElem?_append_right ⋯] at ej;have z2:j - rs.length=0:=by
       cases h:j - rs.length with
       | zero=>rfl
       | succ n=>rw[h] at ej;simp at ej
      rw[z2] at ej;cases ej;have z3:j=i:=⋯
      subst z3;exact⟨rfl,ld,gd,SI⟩
    ·show a7 (gG _ (upd _ _ _)) _ _;rw[iK (ys:=[]) ao,aak,aak];have li:dA (upd H rl (.lst [])) H6:=λb ys e=>by
      by_cases z:b=rl
      ·subst z;exact⟨_,s6 _ _ hx⟩
      ·rw[av z] at e;exact⟨_,(zX.trans (s4.trans s6)) _ _ e⟩
     exact nR (IS (li.trans (s7.trans s8)) ep dm dm ((zO.low li).mono s8) bO) (rx.mono (Qg.trans s8))
   ·intro σ H4 dg;symm;obtain⟨s4,rs,xs,hx,lr,ok,rx,lj,ve,tR,rfl⟩:=dg;have lr:rs.length=2:=lr;have xl:xs.length=2:=by have:=a7.length rx;rw[aad,aad] at this;lia
    obtain⟨r0,r1,rfl⟩:=ML lr;obtain⟨x0,x1,rfl⟩:=ML xl;nofun;exact hN _ r0 r1 x0 x1 s4 hx (ok 0 r0 rfl) (ok 1 r1 rfl) rx _ _ _
  rintro H4 r0 r1 x0 x1 s4 hx Gv Gw rx lj ve tR;have xp:=zX.trans s4;refine aN (λN=>∀H5 t,aw H4 H5->H5 t=some (.tup [.int (a5 (c+9) 9 - 4),.int 1])->N [c⁻¹,~~~cl,some (.str cb),~~~gl,some (.int (s:Int)),~~~pl,lo⁻¹,hi⁻¹,cut⁻¹,~~~rl,lj,ve,tR,~~~t] H5) (λN hN=>?_) ?_
  ·dsimp?[b5];have b0:=cB (c:=c+9) (m:=9) ∅;have b1:=cQ (c:=c+9) (m:=9) ∅;exact⟨∅,⋯,λt H5 s5 nt et=>hN _ t s5 et⟩
  rintro H5 t s5 Y9;refine aN (λN=>∀H6 t,aw H4 H6->H6 t=some (.tup (Pr (xi c).1 (xi c).2))->kD 20 (xi c)->N [c⁻¹,~~~cl,some (.str cb),~~~gl,some (.int (s:Int)),~~~pl,lo⁻¹,hi⁻¹,cut⁻¹,~~~rl,lj,ve,tR,~~~t] H6) (λN hN=>?_) ?_
  ·dsimp?[b5];have b0:=cB (c:=c+9) (m:=9) ∅;have b1:=cQ (c:=c+9) (m:=9) ∅;unfold xi at hN;refine⟨∅,iw (λe=>?_) (λe=>?_)⟩
   ·rw[if_pos e] at hN;exact⟨∅,br ⋯ ⋯,⋯,λp H6 s6 np ep=>hN _ p (s5.trans s6) ep (EA _ ⋯ ⋯ ⋯)⟩
   ·rw[if_neg e] at hN;exact hN _ t s5 Y9 (iU _ ⋯ ⋯)
  rintro H6 t2 s6 Za B8;generalize xi c=py at *;have EI:=xp.trans s6;have v0:=cB (c:=c+12) (m:=2) ∅;have v1:=cQ (c:=c+12) (m:=2) ∅;have li:dA H H6:=.of EI;have lr:dA H (upd H rl (.lst [])):=.of (au Cz);have fin:∀(H9:Hp) (p q:Addr) (rs:List Tw) (xs:List V),aw H6 H9->H q=none->H9 q=some (.lst xs)->dj H H9 ((rs.map BD).map mO) xs->(rs=[r0,r1]\/rs=[r1,r0])->Wt.dM (ps.map lZ) py.1 py.2 rs=fw->H9 p=some (.tup [.str "throw",.ref pl,.ref t2,.ref q])->Q (.ref p) H9:=λH9 p q rs xs s9 nq hq rq er e9 ep=>by
   rw[<-e9] at kk;refine kk (.ref p) H9 (EI.trans s9) ?_ ?_ ?_
   ·exact IS (li.trans s9) ep bO (yz.mono (s4.trans (s6.trans s9))) (pB (li.trans s9) (s9 _ _ Za) (bV dm (bV dm eZ))) (mw nq hq rq)
   ·have g:∀r∈rs,r=r0\/r=r1:=λr hr=>by rcases er with rfl | rfl <;>simp at hr <;>rcases hr with h | h <;>simp [h]
    refine⟨?_,?_,λr hr=>?_⟩
    ·rw[aad];rcases iS SG with ⟨k,s,_,e | ⟨m,_,e⟩⟩ | ⟨s,_,_,e⟩ <;>rw[e] <;>simp
    ·rcases er with rfl | rfl <;>simp
    ·rcases g r hr with rfl | rfl
     ·exact⟨by have:=Gv.2.1;lia,λd hd=>(Gv.2.2.1 d hd).1⟩
     ·exact⟨by have:=Gw.2.1;lia,λd hd=>(Gw.2.2.1 d hd).1⟩
   ·have g:∀r∈rs,r=r0\/r=r1:=λr hr=>by rcases er with rfl | rfl <;>simp at hr <;>rcases hr with h | h <;>simp [h]
    refine⟨ps,rfl,SG,B8,λv hv=>?_,λr hr=>?_⟩
    ·obtain⟨w1,w2⟩:=Y7 v hv;refine⟨⋯,⋯,?_⟩;obtain⟨r,hr,Zb,Zc⟩:∃r∈rs,r.1<=v/\v<=r.2.1:=by
      have m0:r0∈rs:=by rcases er with rfl | rfl <;>simp
      have m1:r1∈rs:=by rcases er with rfl | rfl <;>simp
      have a1:r0.1=max 0 (lo - 1):=by rw[Gv.1];rfl
      have a2:r0.2.1=cut:=by rw[Gv.1];rfl
      have b1:r1.1=cut+1:=by rw[Gw.1];rfl
      have b2:r1.2.1=hi+2:=by rw[Gw.1];rfl
      by_cases z:v<=cut
      ·exact⟨r0,m0,⋯,⋯⟩
      ·exact⟨r1,m1,⋯,⋯⟩
     cases h:uT rs v with
     | some r'=>exact⟨r',rfl⟩
     | none=>
      have:=List.find?_eq_none.mp h r hr;exact absurd (by simp [Zb,Zc]) this
    ·rcases g r hr with rfl | rfl
     ·exact⟨Gv.2.2.2,λd hd=>(Gv.2.2.1 d hd).2⟩
     ·exact⟨Gw.2.2.2,λd hd=>(Gw.2.2.1 d hd).2⟩
  dsimp?[b5,HV];refine⟨[x0,x1],bC.of (s6 _ _ hx),λp np=>⟨⋯,λp1 Km=>?_⟩⟩;have sa:=au (o:=.lst [x0,x1].reverse) np;have sb:=au (o:=.lst [V.ref rl,V.ref p]) Km;have Wn:dj H H6 (([r0,r1].map BD).map mO) [x0,x1]:=(rx.mono s6).low lr;have o:a5 (c+12) 2=0\/a5 (c+12) 2=1:=⋯
  rcases o with o | o
  ·rw[o];rw[o,if_pos rfl,<-Gv.1,<-Gw.1] at pM;exact⟨∅,_,ao,_,at0,⋯,λp2 H9 s9 SH ep=>fin H9 p2 rl [r0,r1] _ (sa.trans (sb.trans s9)) Cz ((sa.trans (sb.trans s9)) _ _ (s6 _ _ hx)) (Wn.mono (sa.trans (sb.trans s9))) (.inl rfl) pM ep⟩
  ·rw[o];rw[o,if_neg ∅,<-Gv.1,<-Gw.1] at pM;refine⟨∅,_,ao,_,at1,⋯,λp2 H9 s9 SH ep=>fin H9 p2 p [r1,r0] _ (sa.trans (sb.trans s9)) (none_of EI np) ((sb.trans s9) _ _ ao) ?_ (.inr rfl) pM ep⟩;symm;obtain⟨y0,q0,e0,h0,h1⟩:=aO.mp (show a7 _ (mO (BD r0)::[mO (BD r1)]) [x0,x1] from Wn.mono (sa.trans (sb.trans s9)));obtain⟨y1,q1,e1,h1,h2⟩:=aO.mp h1;nofun;cases e0;cases e1;exact bV h1 (bV h0 eZ)
theorem kO:aS ["_law_cell_here","_law_counts","_law_clock","_law_goals","_law_words_here","_law_rows","_law_sure","_law_k","_law_when","_law_count","_law_deeds_here"] ["_law_cell_here","_law_counts","_law_clock","_law_goals"] (aq (top 48)):=.mk
theorem Jh (T:0|||0):(3<<<"_law_pick") ["_law_cell_here","_law_counts","_law_clock","_law_goals"] (yD Cj):=by
 have aJ:=my T;have g5:=Cu T;have hG:=Ct T;refine T.uF.dF (λ_ _ _ _ _ _=>sF λ_ _ _ _=>rfl) λf fd F=>F.dZ kO (λvs H Q E h=>?_) (λbY A outer s H vs Q E hr h=>?_)
 ·obtain⟨_,_,_,_,rfl,_⟩:=rR h;rfl
 ·symm;obtain⟨c,cl,cb,gl,rfl,cs,rc,c3,tq,Jc,cw,gs,EH,g0,g3,kk⟩:=rR h;nofun;clear G_;have nd:=kO.nd;refine⟨_,(ag (aG (i:=4) (aK hG (aa (aD aM (pv 0) ae) (aa ae af))))
  (ag (aG (i:=5) (bT af))
  (ag (aG (i:=6) (aK aJ (aa (aD aM (pv 0) ae) (aa ae af))))
  (ag (ck PassesOwn.never rfl (bX rfl T.z_range (aa (aD aM ae (aU (iQ rfl) (by rfl) T.z_max rfl (aa (pv 6) (aa (aK aJ (aa (aD aM (pv 0) ae) (aa ae af))) af)))) af)) (aV (i:=7) nd rfl (.inl rfl)) (ag (aG (i:=8) vy)
  (ag (bc (PW.pt (pw_and (aL mC (pv 7) (pv 6) (aQ _)) (pw_and1 (aL i8 (aK aJ (aa (aD aM (pv 0) (aD bf ae (pv 7))) (aa ae af))) ae (aQ _))))) (ag (aG (i:=9) (ar ai (ar aX (pv 1) (aK aJ (aa (aD aM (aD aM (pv 0) (aD bf ae (pv 7))) ae) (aa (aU bK (by rfl) T.z_len aav (aa (pv 1) af)) af)))) ae))
  (aj (aG (i:=8) (a6 (aa (pv 9) (aa (ar aX (bT (aa aZ (aa aZ af))) (aK aJ (aa (aD aM (aD aM (pv 0) (aD bf ae (pv 7))) ae) (aa ae af)))) (aa (aK aJ (aa (aD aM (aD aM (pv 0) (aD bf ae (pv 7))) ae) (aa ae af))) af)))))))
   aW)
  (ag (aG (i:=10) (aK g5 (aa (aD aM (pv 0) (aD bf ae (pv 7))) (aa (pv 1) (aa (pv 2) (aa ik af))))))
  (aj (bw (d7 aaw aaX aaY c5.r (pv 5) (aa (a6 (aa (ar aX (pv 4) (pv 7)) (aa (pv 8) (aa (pv 10) (aa (ar aX (pv 3) (aK aJ (aa (aD aM (aD aM (pv 0) (aD bf ae (pv 7))) ae) (aa (aU bK (by rfl) T.z_len aav (aa (pv 3) af)) af)))) af))))) af))))))))
  (aj (aR (a6 (aa aZ (aa (aD aM ae (aK aJ (aa (aD aM (pv 0) ae) (aa ae af)))) (aa (pv 5) af)))))))))),?_⟩
  refine(?_:let bQ:TS:=_;let bR:TS:=_;let bS:TS:=_;let df:TS:=_;let mT:TS:=_;tSeq bQ (tSeq bR (tSeq bS (tSeq df mT))) _ _ _);intro bQ bR bS df mT;have sl:=sizeLine_eq;symm;obtain⟨yI,u0,e0,fY,pK⟩:=aY.mp (show Rep H (.lst _) (.ref cl) from rc);nofun;clear G_;cases e0;have len:=pK.length;rw[aad] at len;have c0:0<cs.length:=by
   cases cs with
   | nil=>simp at tq
   | cons a b=>exact Nat.zero_lt_succ _
  have ca:∀c,∃q x,x∈cs/\cs.getD (a5 c (cs.length:Int)).toNat default=x/\jS u0 (a5 c (u0.length:Int))=some (.ref q)/\H q=some (.tup [.str x.1,.int x.2]):=λc=>by
   rw[len];have b0:=cB (c:=c) (m:=(u0.length:Int)) ⋯;have b1:=cQ (c:=c) (m:=(u0.length:Int)) ⋯;generalize a5 c (u0.length:Int)=b at *;obtain⟨k,rfl⟩:∃k:Nat,b=(k:Int):=⟨b.toNat,⋯⟩
   have hk:k<cs.length:=⋯
   obtain⟨v,ev,rv⟩:=pK.at (i:=k) (by rw[aaf,aai hk];rfl);symm;obtain⟨q,a,b,rfl,hq,r1,r2⟩:=bu.mp (show Rep H (.tup _) v from rv);nofun;rw[aI.mp r1,bg.mp r2] at hq;exact⟨q,cs[k],aaI hk,by rw[aal,aaC,aai hk];rfl,bM ev,hq⟩
  obtain⟨fw,pM⟩:∃x,Cj c cs cb gs=x:=⟨_,rfl⟩
  rw[pM] at kk;unfold Cj at pM;obtain⟨rF,SK⟩:∃f,Wk c cs cb gs=f:=⟨_,rfl⟩
  rw[SK] at pM;have Qh:∀i:Nat,rF i=⟨(cZ (c+3) 4).getD i default,IZ c cs (i:Int),jO (c+60* (i:Int)) cs cb false,vc (c+50* (i:Int)+4) gs⟩:=λi=>by rw[<-SK];rfl
  clear SK;refine aN (λN=>∀H1 wl,aw H H1->H1 wl=some (.lst (List.map V.str (cZ (c+3) 4)))->(cZ (c+3) 4).length=4->(cZ (c+3) 4).Nodup->(∀w∈cZ (c+3) 4,Ca w)->(∃z,∀w∈cZ (c+3) 4,w.length=z)->N [c⁻¹,~~~cl,some (.str cb),~~~gl,~~~wl,none,none,none,none,none,none] H1) (λN hN=>?_) ?_
  ·dsimp?[Cf];exact⟨∅,∅,λl H1 s1 nl hl l4 Gx MP wz=>hN _ l s1 hl l4 Gx MP wz⟩
  rintro H1 wl s1 Li w4 Gx MP wz;generalize cZ (c+3) 4=ws at *;refine aN (λN=>∀H2 rl,aw H1 H2->H1 rl=none->H2 rl=some (.lst [])->N [c⁻¹,~~~cl,some (.str cb),~~~gl,~~~wl,~~~rl,none,none,none,none,none] H2) (λN hN=>?_) ?_
  ·dsimp?[];exact⟨aah _,λrl Cy=>hN _ rl (au Cy) Cy ao⟩
  rintro H2 rl s2 Cy mi;have Cz:H rl=none:=none_of s1 Cy;refine aN (λN=>∀su:Int,a5 (c+1) 3=su->0<=su->su<3->N [c⁻¹,~~~cl,some (.str cb),~~~gl,~~~wl,~~~rl,su⁻¹,none,none,none,none] H2) (λN hN=>?_) ?_
  ·dsimp?[b5];exact⟨∅,hN _ rfl (cB ∅) (cQ ∅)⟩
  rintro su Wo su0 su3;rw[Wo] at pM;unfold IZ at Qh;rw[Wo] at Qh;let Ko:Rw->Prop:=λr=>EB cs r.wh/\r.to∈gs/\r.ds.length<=3/\∀d∈r.ds,fQ cs d/\Am d;obtain⟨m,em⟩:∃m:Nat,(1+if a5 (c+2) 4 >su then a5 (c+2) 4 else su)=(m:Int):=⟨(1+if a5 (c+2) 4 >su then a5 (c+2) 4 else su).toNat,by have:=cB (c:=c+2) (m:=4) (by decide);split <;>lia⟩
  rw[em,aal] at pM;refine aN (λN=>∀(H3:Hp) (rs:List Rw) (xs:List V),aw H1 H3->H3 rl=some (.lst xs)->m<=4->rs=(List.range m).map rF->rs.map (·.word)=ws.take m->(∀r∈rs,Ko r)->(∃r∈rs,r.wh=none)->dj (upd H rl (.lst [])) H3 ((rs.map C9).map mO) xs->∀z7 z8 z9 lj,N [c⁻¹,~~~cl,some (.str cb),~~~gl,~~~wl,~~~rl,su⁻¹,z7,z8,z9,lj] H3) (λN hN=>?_) ?_
  ·have b0:=cB (c:=c+2) (m:=4) (by decide);have b1:=cQ (c:=c+2) (m:=4) (by decide);dsimp?[b5];have m4:m<=4:=by split at em <;>lia
   have Zd:su< (m:Int):=by split at em <;>lia
   rw[em];refine⟨∅,⋯,⋯,?_⟩
   try rw[aal]
   refine bJ (src_range (Ok:=λ_=>True)) (λi σ H3=>aw H1 H3/\∃(rs:List Rw) (xs:List V),H3 rl=some (.lst xs)/\rs=(List.range i).map rF/\rs.map (·.word)=ws.take i/\(∀r∈rs,Ko r)/\(su< (i:Int)->∃r∈rs,r.wh=none)/\dj (upd H rl (.lst [])) H3 ((rs.map C9).map mO) xs/\∃z7 z8 z9 lj,σ=[c⁻¹,~~~cl,some (.str cb),~~~gl,~~~wl,~~~rl,su⁻¹,z7,z8,z9,lj]) ⟨s2,[],[],mi,rfl,rfl,(λr hr=>by cases hr),(λz=>absurd z ⋯),eZ,_,_,_,_,rfl⟩ (λ_ _ _ _ _=>trivial) ?_ ?_
   ·intro i x σ H3 H4 hi eV eX;symm;obtain⟨s3,rs,xs,hx,MQ,ew,ok,sure,rx,z7,z8,z9,lj,rfl⟩:=eV;obtain⟨rfl,rfl⟩:=eX;nofun;clear G_;have iV:=s1.trans s3;have xl:xs.length=i:=by
     have h1:=a7.length rx;have h2:=congrArg List.length ew;rw[aad,aad] at h1;rw[aad,aaA] at h2;lia
    have SM:i<ws.length:=⋯
    simp only[gName,aaH,aaG,aaS];refine aN (λN=>N [c⁻¹,~~~cl,some (.str cb),~~~gl,~~~wl,~~~rl,su⁻¹,some (.int (i:Int)),some .cU,z9,lj] H4) (λN hN=>?_) ?_
    ·dsimp?[];exact hN
    have Je:dA (upd H rl (.lst [])) H4:=λb ys e=>by
     by_cases z:b=rl
     ·subst z;exact⟨_,hx⟩
     ·rw[av z] at e;exact⟨_,iV _ _ e⟩
    have Gy:(rF i).wh=if (i:Int)≠su/\0<a5 (c+50* (i:Int)) 3 then some ((cs.getD (a5 (c+50* (i:Int)+1) (cs.length:Int)).toNat default).1,if a5 (c+50* (i:Int)+2) 2=0 then aac "from" else aac "below",a5 (c+50* (i:Int)+3) 4) else none:=by rw[Qh]
    refine aN (λN=>∀H5 v wh,aw H4 H5->(rF i).wh=wh->c4 (upd H rl (.lst [])) H5 (FO wh) v->EB cs wh->((i:Int)=su->wh=none)->∀z9,N [c⁻¹,~~~cl,some (.str cb),~~~gl,~~~wl,~~~rl,su⁻¹,some (.int (i:Int)),some v,z9,lj] H5) (λN hN=>?_) ?_
    ·have CA:=λe=>hN H4 .cU none (aw.refl _) e IQ trivial (λ_=>rfl);symm;obtain⟨q,x,Ze,exc,Zf,hq⟩:=ca (c+50* (i:Int)+1);nofun;have f0:=cB (c:=c+50* (i:Int)+2) (m:=2) ∅;have f1:=cQ (c:=c+50* (i:Int)+2) (m:=2) ∅
     by_cases z1:(i:Int)=su
     ·refine bL (λY N k=>by dsimp?[b5];rw[if_neg (λz=>z z1),if_neg ∅];exact k) ?_;dsimp?[];exact CA (by rw[Gy,if_neg (λz=>z.1 z1)]) _
     by_cases z2:0<a5 (c+50* (i:Int)) 3
     ·refine cH (λY N k=>by dsimp?[b5];rw[if_pos z1];exact⟨br ⋯ ⋯,∅,by rw[if_pos z2];exact k⟩) ?_;rw[if_pos ⟨z1,z2⟩,exc] at Gy;obtain⟨fb,Zg,Zh,Zi⟩:∃w,(if a5 (c+50* (i:Int)+2) 2=0 then aac "from" else aac "below")=w/\jS [V.str "from",V.str "below"] (a5 (c+50* (i:Int)+2) 2)=some (.str w)/\(w=aac "from"\/w=aac "below"):=by
       have o:a5 (c+50* (i:Int)+2) 2=0\/a5 (c+50* (i:Int)+2) 2=1:=⋯
       rcases o with o | o
       ·rw[o];exact⟨_,rfl,rfl,.inl rfl⟩
       ·rw[o];exact⟨_,rfl,rfl,.inr rfl⟩
      rw[Zg] at Gy;dsimp?[b5];refine⟨br ⋯ ⋯,_,iV _ _ fY,⋯,_,iV _ _ fY,_,Zf,_,rfl,_,iV _ _ hq,_,at0,⋯,λp np=>⟨br ⋯ ⋯,∅,_,ao,_,Zh,br ⋯ ⋯,∅,⋯,λp1 H5 s5 Km Jg=>?_⟩⟩;have MK:=(au np).trans s5;exact hN H5 (.ref p1) (some (x.1,fb,a5 (c+50* (i:Int)+3) 4)) MK Gy (vb (Je.trans MK) Jg bO bO dm) ⟨abi.mpr ⟨x,Ze,rfl⟩,Zi⟩ (λz=>absurd z z1) _
     ·refine bL (λY N k=>by dsimp?[b5];rw[if_pos z1];exact⟨br ⋯ ⋯,∅,by rw[if_neg z2];exact k⟩) ?_;dsimp?[];exact CA (by rw[Gy,if_neg (λz=>z2 z.2)]) _
    clear Gy;rintro H5 v wh s5 Gy SN Zj Zk z9;refine aN (λN=>∀H6 dl,aw H5 H6->c4 H5 H6 (.lst (List.map qO (jO (c+60* (i:Int)) cs cb false))) (.ref dl)->(jO (c+60* (i:Int)) cs cb false).length<=3->(∀d∈jO (c+60* (i:Int)) cs cb false,fQ cs d/\Am d)->N [c⁻¹,~~~cl,some (.str cb),~~~gl,~~~wl,~~~rl,su⁻¹,some (.int (i:Int)),some v,z9,~~~dl] H6) (λN hN=>?_) ?_
    ·dsimp?[Ci];exact⟨br ⋯ ⋯,cs,rc.mono (iV.trans s5),c3,tq,Jc,cw,λdl H6 s6 n6 r6 l6 g6=>hN _ dl s6 r6 l6 g6⟩
    rintro H6 dl s6 zO ld gd;have Ji:=s5.trans s6;have EI:=iV.trans Ji;obtain⟨SI,SJ⟩:=Cv g0 (c+50* (i:Int)+4);have Zl:rF i=⟨ws[i],wh,jO (c+60* (i:Int)) cs cb false,vc (c+50* (i:Int)+4) gs⟩:=by
     rw[<-Gy,Qh,aaC,aai SM];rfl
    dsimp?[b5,dS];refine⟨.inl ⟨rfl,_,bC.of (Ji _ _ hx)⟩,_,(s3.trans Ji) _ _ Li,.str ws[i],bM (by rw[aaf,aai SM];rfl),br ⋯ ⋯,_,EI _ _ EH,by rw[aad];lia,_,EI _ _ EH,_,by rw[aad];exact SJ,⋯,λp H8 s8 np ep=>⟨xs,(Ji.trans s8) _ _ hx,⋯,bZ (s3.trans (Ji.trans s8)) Cy,rs++ [⟨ws[i],wh,jO (c+60* (i:Int)) cs cb false,vc (c+50* (i:Int)+4) gs⟩],_,ao,by rw[MQ,List.range_succ,aak,<-Zl];rfl,?_,λr hr=>?_,λz=>?_,?_,_,rfl⟩⟩
    ·rw[aak,ew,take_snoc SM];rfl
    ·rcases List.mem_append.mp hr with hr | hr
     ·exact ok r hr
     ·rw[abj.mp hr];exact⟨Zj,SI,ld,gd⟩
    ·by_cases y:(i:Int)=su
     ·exact⟨_,aaD _ aas,Zk y⟩
     ·symm;obtain⟨r,hr,e⟩:=sure ⋯;nofun;exact⟨r,aa1 _ hr,e⟩
    ·show a7 (gG _ (upd _ _ _)) _ _;rw[iK (ys:=[]) ao,aak,aak];exact nR (IS (Je.trans (Ji.trans s8)) ep bO (SN.mono (s6.trans s8)) ((zO.low (Je.trans s5)).mono s8) bO) (rx.mono (Ji.trans s8))
   ·intro σ H3 dg;symm;obtain⟨s3,rs,xs,hx,MQ,ew,ok,sure,rx,z7,z8,z9,lj,rfl⟩:=dg;nofun;exact hN _ rs xs s3 hx m4 MQ ew ok (sure Zd) rx _ _ _ _
  rintro H3 rs xs s3 hx m4 MQ ew ok sure rx z7 z8 z9 lj;rw[<-MQ] at pM;rw[<-pM] at kk;obtain⟨wz,Zm⟩:=wz;have MR:∀r∈rs,r.word∈ws:=λr hr=>by
   have:r.word∈rs.map (·.word):=abi.mpr ⟨r,hr,rfl⟩;rw[ew] at this;exact List.mem_of_mem_take this
  have iV:=s1.trans s3;have xl:xs.length=rs.length:=by have:=a7.length rx;rw[aad,aad] at this;lia
  have Zn:rs.length<=4:=by have:=congrArg List.length ew;rw[aad,aaA] at this;lia
  dsimp?[b5];exact⟨∅,⋯,λp H4 s4 np ep=>kk (.ref p) H4 (iV.trans s4) (vb (.of (iV.trans s4)) ep bO dm (mw Cz (s4 _ _ hx) ((rx.mono s4).low (.of (au Cz))))) ⟨⋯,λr hr=>⟨by have:=(ok r hr).2.2.1;lia,λd hd=>((ok r hr).2.2.2 d hd).1⟩⟩ ⟨⟨Zn,⟨wz,λr hr=>Zm _ (MR r hr)⟩,sure⟩,by rw[ew];exact Gx.sublist (List.take_sublist _ _),λr hr=>⟨MP _ (MR r hr),(ok r hr).1,(ok r hr).2.1,λd hd=>((ok r hr).2.2.2 d hd).2⟩⟩⟩
theorem kP:aS ["_law_script","_law_at","_law_turns","_law_most","_law_cell_here","_law_names","_law_acts","_law_clock","_law_counts","_law_asks","_law_places","_law_k","_law_inner","_law_what_here","_law_final"] ["_law_script","_law_at","_law_turns","_law_most"] (aq (top 49)):=.mk
theorem zY {ns:List Str} (h:ns.length=12) {a:Nat} (h1:1<=a) (h3:a<=3):AF (List.map V.str ns) (some 3) (some (3+ (a:Int)))=((List.range a).map λk=>dh ns (3+k)).map V.str:=by
 match ns,h with
 | [n0,n1,n2,n3,n4,n5,n6,n7,n8,n9,n10,n11],_=>
  have:a=1\/a=2\/a=3:=⋯
  rcases this with rfl | rfl | rfl <;>rfl
theorem CB {ns:List Str} {i:Nat} (h:i<ns.length):dh ns i∈ns:=by
 unfold dh;rw[aaC,aai h];exact aaI h
theorem Gz {ns:List Str} (nd:ns.Nodup) {I:List Nat} (hI:I.Nodup) (hl:∀i∈I,i<ns.length):(I.map (dh ns)).Nodup:=by
 unfold List.Nodup;rw[List.pairwise_map];refine List.Pairwise.imp_of_mem ?_ hI;intro i j hi hj ne e;have h1:=hl i hi;have h2:=hl j hj;unfold dh at e;rw[aaC,aaC,aai h1,aai h2] at e;exact ne ((List.getElem_inj nd).mp e)
theorem CC {ns:List Str} {W:List Wt} {x:Wt}:eN ns (W++ [x])=eN ns W++ [(dh ns (6+W.length),x)]:=by
 unfold eN;rw[List.mapIdx_concat]
theorem nX {n:Str} {x:Wt}:∀{ps:List (Str×Wt)},(ps.map (·.1)).Nodup->(n,x)∈ps->look ps n=some x
 | [],_,h=>by cases h
 | p::ps,nd,h=>by
  rw[aae,List.nodup_cons] at nd;unfold look;rcases aaB.mp h with e | e
  ·rw[<-e,List.find?_cons_of_pos (by simp)];rfl
  ·have:p.1≠n:=λz=>nd.1 (by rw[z];exact abi.mpr ⟨_,e,rfl⟩);rw[List.find?_cons_of_neg (by simpa using this)];exact nX nd.2 e
theorem zZ {ns:List Str}:∀W:List Wt,(eN ns W).map (·.1)=((List.range W.length).map (6+·)).map (dh ns):=λW=>by
 unfold eN;refine List.ext_getElem (by simp) λi h1 h2=>by simp
theorem GA {cs:List (Str×Int)} {gs:List Str} {x:Wt} (h:jN cs gs x):FZ x:=by
 cases x with
 | dM cY t b rs=>obtain⟨ps,e,_⟩:=h;exact⟨ps,e⟩
 | _=>trivial
theorem Zo {G H:Hp} {cl:Addr} {cs:List (Str×Int)} (li:dA G H) (n:G cl=none) (r:Rep H (J8 cs) (.ref cl)):c4 G H (J8 cs) (.ref cl):=by
 obtain⟨p,vs,e,hp,rl⟩:=aY.mp (show Rep H (.lst _) (.ref cl) from r);cases e;refine mw n hp (a7.of rl.length λi d v e1 e2=>?_);obtain⟨d',e3,r'⟩:=rl.get e2;rw[e1] at e3;cases e3;rw[aaf] at e1;obtain⟨x,_,rfl⟩:=abg.mp e1;obtain⟨q,a,b,rfl,hq,r1,r2⟩:=bu.mp (show Rep H (.tup _) v from r');rw[aI.mp r1,bg.mp r2] at hq;exact qi li hq bO dm
theorem Jj {ns:List Str} {a:Nat} {tu:Int} {cs:List (Str×Int)} {W:List Wt} {fw:Wt} (h:ns.length=12) (nd:ns.Nodup) (Kq:∀w∈ns,Ca w) (a1:1<=a) (a3:a<=3) (lW:W.length=a) (c3:cs.length<=3) (tq:dh ns 0∈cs.map (·.1)) (Jc:(cs.map (·.1)).Nodup) (cm:∀x∈cs,0<=x.2/\x.2<=1000)
  (EJ:∀x∈W,kx cs x/\jN cs ((List.range a).map λk=>dh ns (3+k)) x) (gf:kx cs fw) (wf:jN cs ((List.range a).map λk=>dh ns (3+k)) fw):MJ ⟨cs,fZ ns a tu++eN ns W++ [(dh ns 11,fw)]⟩ ((List.range a).map λk=>dh ns (3+k)):=by
 have en:(fZ ns a tu++eN ns W++ [(dh ns 11,fw)]).map (·.1)=((List.range a).map (3+·)++ (List.range a).map (6+·)++ [11]).map (dh ns):=by
  rw[aak,aak,zZ,lW,aak,aak];unfold fZ;rw[aaM,aaM,aaM];rfl
 have Jk:((List.range a).map (3+·)++ (List.range a).map (6+·)++ [11]).Nodup/\∀i∈((List.range a).map (3+·)++ (List.range a).map (6+·)++ [11]),i<12:=by
  have:a=1\/a=2\/a=3:=⋯
  rcases this with rfl | rfl | rfl <;>decide
 have np:((fZ ns a tu++eN ns W++ [(dh ns 11,fw)]).map (·.1)).Nodup:=by rw[en];exact Gz nd Jk.1 (by rw[h];exact Jk.2)
 have lf:look (fZ ns a tu++eN ns W++ [(dh ns 11,fw)]) (dh ns 11)=some fw:=nX np (by simp);have la:∀k x,W[k]?=some x->look (fZ ns a tu++eN ns W++ [(dh ns 11,fw)]) (dh ns (6+k))=some x:=λk x e=>nX np (by
  refine aa1 _ (aaD _ ?_);unfold eN;rw[List.mem_mapIdx];obtain⟨h1,h2⟩:=abh.mp e;exact⟨k,h1,by rw[h2]⟩)
 have na:∀{x},jN cs ((List.range a).map λk=>dh ns (3+k)) x->∀(g:Gm) n Af f,look g.ps n=some x->dO g Af (f+1) n=some n:=λ{x} wx g n Af f lk=>by
  unfold dO;rw[lk];cases x with
  | ask c k a b=>exact wx.elim
  | fin t b=>rfl
  | score c=>rfl
  | pick w rs=>rfl
  | dM p t b rs=>rfl
 refine⟨⟨Jc,np,by show cs.length<=100;lia,?_,?_,λp hp=>?_⟩,cm,λp hp=>?_,?_,λp hp=>?_,λnm Zp Af=>?_⟩
 ·show(fZ ns a tu++eN ns W++ [(dh ns 11,fw)]).length<=100;unfold fZ eN;rw[aaq,aaq,aad,aax,List.length_mapIdx,aa6];lia
 ·show 0< (fZ ns a tu++eN ns W++ [(dh ns 11,fw)]).length;rw[aaq,aa6];lia
 ·rcases List.mem_append.mp hp with hp | hp
  ·rcases List.mem_append.mp hp with hp | hp
   ·obtain⟨k,_,rfl⟩:=abi.mp hp;exact tq
   ·unfold eN at hp;rw[List.mem_mapIdx] at hp;obtain⟨k,hk,rfl⟩:=hp;exact(EJ _ (aaI hk)).1
  ·rw[abj.mp hp];exact gf
 ·have:p.1∈(fZ ns a tu++eN ns W++ [(dh ns 11,fw)]).map (·.1):=abi.mpr ⟨p,hp,rfl⟩;rw[en] at this;obtain⟨i,hi,e⟩:=abi.mp this;rw[<-e];exact Kq _ (CB (by rw[h];exact Jk.2 i hi))
 ·refine⟨dh ns 3,abi.mpr ⟨0,List.mem_range.mpr ⋯,rfl⟩,?_⟩;show((fZ ns a tu++eN ns W++ [(dh ns 11,fw)]).map (·.1)).head?=some (dh ns 3);rw[en];have:a=1\/a=2\/a=3:=⋯
  rcases this with rfl | rfl | rfl <;>rfl
 ·rcases List.mem_append.mp hp with hp | hp
  ·rcases List.mem_append.mp hp with hp | hp
   ·obtain⟨k,_,rfl⟩:=abi.mp hp
    trivial
   ·unfold eN at hp;rw[List.mem_mapIdx] at hp;obtain⟨k,hk,rfl⟩:=hp;exact GA (EJ _ (aaI hk)).2
  ·rw[abj.mp hp];exact GA wf
 ·obtain⟨k,hk,rfl⟩:=abi.mp Zp;have hk:=List.mem_range.mp hk;have lk:look (fZ ns a tu++eN ns W++ [(dh ns 11,fw)]) (dh ns (3+k))=some (.ask (dh ns 0) tu (dh ns 11) (dh ns (6+k))):=nX np (aa1 _ (aa1 _ (abi.mpr ⟨k,List.mem_range.mpr hk,rfl⟩)));have Wp:k<W.length:=⋯
  have lw:=la k _ (aai Wp);have ww:=(EJ _ (aaI Wp)).2
  by_cases z:tu<=Af.getD (bF cs (dh ns 0)) 0
  ·refine⟨dh ns 11,fw,?_,lf,wf⟩;unfold dO;rw[lk];show(if tu<=Af.getD (bF cs (dh ns 0)) 0 then _ else _)=_;rw[if_pos z];exact na wf _ _ _ 1 lf
  ·refine⟨dh ns (6+k),_,?_,lw,ww⟩;unfold dO;rw[lk];show(if tu<=Af.getD (bF cs (dh ns 0)) 0 then _ else _)=_;rw[if_neg z];exact na ww _ _ _ 1 lw
theorem MS {ns:List Str} {m j:Nat} {c mo tu:Int} {cs:List (Str×Int)} (h:ns.length=12) (nd:ns.Nodup) (Kq:∀w∈ns,Ca w) (hm:m<=2) (hj:j<=m) (Sw:1<=mo) (Wr:mo<=100) (Wu:1<=tu) (Wv:tu<=100)
  (e:cs=((List.range m).map λk:Nat=>((dh ns (1+k),1+a5 (c+7+ (k:Int)) mo):Str×Int)).take j++ (dh ns 0,tu)::((List.range m).map λk:Nat=>((dh ns (1+k),1+a5 (c+7+ (k:Int)) mo):Str×Int)).drop j):
  cs.length<=3/\dh ns 0∈cs.map (·.1)/\(cs.map (·.1)).Nodup/\(∀x∈cs,Ca x.1)/\∀x∈cs,0<=x.2/\x.2<=1000:=by
 have ei:cs.map (·.1)=(((List.range m).map (1+·)).take j++0::((List.range m).map (1+·)).drop j).map (dh ns):=by
  rw[e,aak,aae,aak,aae,List.map_take,List.map_take,List.map_drop,List.map_drop,aaM,aaM];rfl
 have Jk:(((List.range m).map (1+·)).take j++0::((List.range m).map (1+·)).drop j).Nodup/\∀i∈(((List.range m).map (1+·)).take j++0::((List.range m).map (1+·)).drop j),i<12:=by
  have PM:m=0\/m=1\/m=2:=⋯
  have Zq:j=0\/j=1\/j=2:=⋯
  rcases PM with rfl | rfl | rfl <;>rcases Zq with rfl | rfl | rfl <;>decide
 refine⟨?_,?_,by rw[ei];exact Gz nd Jk.1 (by rw[h];exact Jk.2),λx hx=>?_,λx hx=>?_⟩
 ·rw[e,aaq,aap,aaA,List.length_drop,aad,aax];lia
 ·rw[ei];exact abi.mpr ⟨0,by simp,rfl⟩
 ·have:x.1∈cs.map (·.1):=abi.mpr ⟨x,hx,rfl⟩;rw[ei] at this;obtain⟨i,hi,ex⟩:=abi.mp this;rw[<-ex];exact Kq _ (CB (by rw[h];exact Jk.2 i hi))
 ·rw[e] at hx;have g:∀x∈((List.range m).map λk:Nat=>((dh ns (1+k),1+a5 (c+7+ (k:Int)) mo):Str×Int)),0<=x.2/\x.2<=1000:=λx hx=>by
   obtain⟨k,_,rfl⟩:=abi.mp hx;have b0:=cB (c:=c+7+ (k:Int)) (m:=mo) ⋯;have b1:=cQ (c:=c+7+ (k:Int)) (m:=mo) ⋯;show 0<=1+a5 _ _/\1+a5 _ _<=1000;lia
  rcases List.mem_append.mp hx with hx | hx
  ·exact g x (List.mem_of_mem_take hx)
  ·rcases aaB.mp hx with rfl | hx
   ·show 0<=tu/\tu<=1000;lia
   ·exact g x (List.mem_of_mem_drop hx)
theorem Jl (T:0|||0):(4<<<"_law_game") ["_law_script","_law_at","_law_turns","_law_most"] (Co K):=by
 have aJ:=my T;have dX:=yH T;have hG:=Ct T;have tD:=Jf T;have vf:=Jh T;refine T.uG.dF (λ_ _ _ _ _ _=>sF λ_ _ _ _=>rfl) λf fd F=>F.dZ kP (λvs H Q E h=>?_) (λbY A outer s H vs Q E hr h=>?_)
 ·obtain⟨_,_,_,_,rfl,_⟩:=Br h;rfl
 ·symm;obtain⟨sc,at_,tu,mo,rfl,qX,hS,Zr,Zs,Wu,Wv,Sw,Wr,kk⟩:=Br h;nofun;clear G_;have nd:=kP.nd;refine⟨_,(ag (aG (i:=4) (aK dX (aa (pv 0) (aa (pv 1) af))))
  (ag (aG (i:=5) (aK hG (aa (pv 4) (aa ae af))))
  (ag (aG (i:=6) (aD aM ae (aK aJ (aa (aD aM (pv 4) ae) (aa ae af)))))
  (ag (aG (i:=7) (ar aX (pv 5) ae))
  (ag (j7 (i:=8) rfl nd rfl rfl (N:=["_law_script","_law_at","_law_turns","_law_most","_law_cell_here","_law_names","_law_acts","_law_clock","_law_counts","_law_asks","_law_places","_law_k","_law_inner","_law_what_here","_law_final"]) (so:=aq (top 49)) (N':=["_law_k","_law_most","_law_cell_here","_law_names"]) (k:=1) (fr:=[3,4,5]) rfl rfl ⟨rfl,∅,∅,∅,rfl,∅,∅⟩ (bX rfl T.z_range (aa (aK aJ (aa (aD aM (pv 4) ae) (aa ae af))) af)) (λ_ _ _ _ _=>(aV (i:=0) (show(["_law_k","_law_most","_law_cell_here","_law_names"]:List Str).Nodup by ac_rfl) rfl (.inl rfl))) (λ_ _ _ _ _=>dk)
   (λ_ _ _ _ _=>(a6 (aa (ar aX (pv 3) (aD aM ae (pv 0))) (aa (aD aM ae (aK aJ (aa (aD aM (aD aM (pv 2) ae) (pv 0)) (aa (pv 1) af)))) af)))))
  (ag (bw (d7 aaw PySem.F.slot_list_insert PySem.F.type_list_insert qI.r (pv 8) (aa (aK aJ (aa (aD aM (pv 4) ae) (aa (aD aM (aU bK (by rfl) T.z_len aav (aa (pv 8) af)) ae) af))) (aa (a6 (aa (pv 7) (aa (pv 2) af))) af))))
  (ag (aG (i:=9) (ou (oF (K:=K)) (pv 5) (nH ae) (nH (aD aM ae (pv 6)))))
  (ag (j7 (i:=10) rfl nd rfl rfl (N:=["_law_script","_law_at","_law_turns","_law_most","_law_cell_here","_law_names","_law_acts","_law_clock","_law_counts","_law_asks","_law_places","_law_k","_law_inner","_law_what_here","_law_final"]) (so:=aq (top 49)) (N':=["_law_k","_law_turns","_law_names","_law_clock","_law_asks"]) (k:=1) (fr:=[2,5,7,9]) rfl rfl ⟨rfl,∅,∅,∅,rfl,∅,∅⟩ (bX rfl T.z_range (aa (pv 6) af)) (λ_ _ _ _ _=>(aV (i:=0) (show(["_law_k","_law_turns","_law_names","_law_clock","_law_asks"]:List Str).Nodup by ac_rfl) rfl (.inl rfl))) (λ_ _ _ _ _=>dk)
   (λ_ _ _ _ _=>(a6 (aa (ar aX (pv 4) (pv 0)) (aa (a6 (aa aZ (aa (pv 3) (aa (pv 1) (aa (ar aX (pv 2) ae) (aa (ar aX (pv 2) (aD aM ae (pv 0))) af)))))) af)))))
  (ag (ck PassesOwn.never rfl (bX rfl T.z_range (aa (pv 6) af)) (aV (i:=11) nd rfl (.inl rfl)) (ag (aG (i:=12) (aK dX (aa (pv 0) (aa (aD aM (aD aM (pv 1) ae) (pv 11)) af))))
  (ag (aG (i:=13) (aK vf (aa (pv 12) (aa (pv 8) (aa (pv 7) (aa (pv 9) af))))))
  (ag (bc (aL bo (aK aJ (aa (aD aM (pv 12) ae) (aa ae af))) ae (aQ _)) (aj (aG (i:=13) (aK tD (aa (pv 12) (aa (pv 8) (aa (pv 7) (aa (pv 9) af)))))))
   aW)
  (aj (bw (d7 aaw aaX aaY c5.r (pv 10) (aa (a6 (aa (ar aX (pv 5) (aD aM ae (pv 11))) (aa (pv 13) af))) af))))))))
  (ag (aG (i:=14) (a6 (aa aZ (aa (ar ai (ar aX (pv 8) (aK aJ (aa (aD aM (pv 4) ae) (aa (aU bK (by rfl) T.z_len aav (aa (pv 8) af)) af)))) ae) af))))
  (ag (bc (aL bo (aK aJ (aa (aD aM (pv 4) ae) (aa ae af))) ae (aQ _)) (aj (aG (i:=14) (a6 (aa aZ (aa (a6 (aa (aD gP (aK aJ (aa (aD aM (pv 4) ae) (aa ae af))) ae) (aa ae af))) af)))))
   aW)
  (ag (bw (d7 aaw aaX aaY c5.r (pv 10) (aa (a6 (aa (ar aX (pv 5) ae) (aa (pv 14) af))) af)))
  (aj (aR (a6 (aa (pv 8) (aa (pv 10) af))))))))))))))))),?_⟩
  refine(?_:let bQ:TS:=_;let bR:TS:=_;let bS:TS:=_;let df:TS:=_;let mT:TS:=_;let uY:TS:=_;let BU:TS:=_;let Gs:TS:=_;let MM:TS:=_;let MN:TS:=_;let Cw:TS:=_;let MT:TS:=_;let MU:TS:=_;tSeq bQ (tSeq bR (tSeq bS (tSeq df (tSeq mT (tSeq uY (tSeq BU (tSeq Gs (tSeq MM (tSeq MN (tSeq Cw (tSeq MT MU))))))))))) _ _ _);intro bQ bR bS df mT uY BU Gs MM MN Cw MT MU;have sl:=sizeLine_eq;obtain⟨fg,De⟩:∃x,Cn qX at_ tu mo=x:=⟨_,rfl⟩
  rw[De] at kk;unfold Cn ED Cm Ck at De;unfold Cm Ck at kk;refine aN (λN=>N [~~~sc,at_⁻¹,tu⁻¹,mo⁻¹,some (.int (e8 qX at_)),none,none,none,none,none,none,none,none,none,none] H) (λN hN=>?_) ?_
  ·dsimp?[Kh];exact⟨qX,hS,⋯,⋯,hN⟩
  generalize e8 qX at_=c at *;refine aN (λN=>∀H1 nl,aw H H1->H1 nl=some (.lst (List.map V.str (cZ c 12)))->(cZ c 12).length=12->(cZ c 12).Nodup->(∀w∈cZ c 12,Ca w)->N [~~~sc,at_⁻¹,tu⁻¹,mo⁻¹,c⁻¹,~~~nl,none,none,none,none,none,none,none,none,none] H1) (λN hN=>?_) ?_
  ·dsimp?[Cf];exact⟨∅,∅,λl H1 s1 nl hl l4 Gx MP _=>hN _ l s1 hl l4 Gx MP⟩
  rintro H1 nl s1 Kr Qa Ww Kq;generalize cZ c 12=ns at *;have na:∀(i:Nat),i<12->jS (List.map V.str ns) (i:Int)=some (.str (dh ns i)):=λi hi=>bM (by rw[aaf,aai ⋯];show some (V.str _)=some (V.str (ns.getD i default));rw[aaC,aai ⋯];rfl);have m6:=cB (c:=c+6) (m:=3) ∅;have m7:=cQ (c:=c+6) (m:=3) ∅;obtain⟨a,ea⟩:∃a:Nat,1+a5 (c+6) 3=(a:Int):=⟨(1+a5 (c+6) 3).toNat,⋯⟩
  rw[ea,aal] at De kk;refine aN (λN=>N [~~~sc,at_⁻¹,tu⁻¹,mo⁻¹,c⁻¹,~~~nl,some (.int (a:Int)),none,none,none,none,none,none,none,none] H1) (λN hN=>?_) ?_
  ·dsimp?[b5];rw[ea];exact⟨∅,hN⟩
  refine aN (λN=>N [~~~sc,at_⁻¹,tu⁻¹,mo⁻¹,c⁻¹,~~~nl,some (.int (a:Int)),some (.str (dh ns 0)),none,none,none,none,none,none,none] H1) (λN hN=>?_) ?_
  ·dsimp?[Kr];exact⟨_,na 0 ∅,hN⟩
  have m9:=cB (c:=c+9) (m:=3) ∅;have m10:=cQ (c:=c+9) (m:=3) ∅;obtain⟨m,em⟩:∃m:Nat,a5 (c+9) 3=(m:Int):=⟨(a5 (c+9) 3).toNat,⋯⟩
  rw[em,aal] at De;refine aN (λN=>∀H2 cl ys,aw H1 H2->H1 cl=none->H2 cl=some (.lst ys)->a7 (cG H2 cl) (((List.range m).map λk:Nat=>((dh ns (1+k),1+a5 (c+7+ (k:Int)) mo):Str×Int)).map λc=>Dat.tup [.str c.1,.int c.2]) ys->N [~~~sc,at_⁻¹,tu⁻¹,mo⁻¹,c⁻¹,~~~nl,some (.int (a:Int)),some (.str (dh ns 0)),~~~cl,none,none,none,none,none,none] H2) (λN hN=>?_) ?_
  ·dsimp?[b5];rw[em];refine⟨∅,⋯,⋯,?_⟩
   try rw[aal]
   refine comp_map src_range (λ_ _ _ _ h=>by rw[h.1];exact aw.refl _) ⋯ (λi y H2=>∃q,y=.ref q/\H2 q=some (.tup [.str (dh ns (1+i)),.int (1+a5 (c+7+ (i:Int)) mo)])) (λi y H2 H3 s3 h=>by obtain⟨q,e,hq⟩:=h;exact⟨q,e,s3 _ _ hq⟩) ?_ ?_
   ·rintro i x w0 H2 H3 Q2 hi s2 ⟨rfl,rfl⟩ kq;dsimp?[aaS,b5,s2 _ _ Kr];refine⟨_,by have:=na (1+i) ⋯;rwa [Int.natCast_add] at this,⋯,⋯,λp H4 s4 np ep=>kq _ _ s4 ⟨p,rfl,ep⟩⟩
   ·intro ys H2 s2 ly hy D n1 n2;refine hN _ D ys (s2.trans (au n2)) n1 ao (a7.of (by rw[aad,aad,aax,ly]) λi dd v e1 e2=>?_);rw[aaf,aaf] at e1;symm;obtain⟨x,ex,rfl⟩:=abg.mp e1;obtain⟨k,ek,rfl⟩:=abg.mp ex;nofun;obtain⟨h1,h2⟩:=abh.mp ek;rw[List.getElem_range] at h2;subst h2;symm;obtain⟨q,rfl,hq⟩:=hy i v e2;nofun;have qD:q≠D:=λz=>by rw[z,n2] at hq;cases hq
    exact bu.mpr ⟨q,_,_,rfl,by rw[cu qD,av qD];exact hq,aI.mpr rfl,bg.mpr rfl⟩
  rintro H2 cl ys s2 Wx fY Qi;generalize Wy:((List.range m).map λk:Nat=>((dh ns (1+k),1+a5 (c+7+ (k:Int)) mo):Str×Int))=os at *;have yl:ys.length=m:=by have:=Qi.length;rw[aad,<-Wy,aad,aax] at this;lia
  have b0:=cB (c:=c+10) (m:=(m:Int)+1) ⋯;have b1:=cQ (c:=c+10) (m:=(m:Int)+1) ⋯;obtain⟨j,ej⟩:∃j:Nat,a5 (c+10) ((m:Int)+1)=(j:Int):=⟨(a5 (c+10) ((m:Int)+1)).toNat,⋯⟩
  rw[ej,aal] at De;rw[ej] at b0 b1;have jm:j<=m:=⋯
  generalize Qj:os.take j++ (dh ns 0,tu)::os.drop j=cs at *
  replace Qj:=Qj.symm
  refine aN (λN=>∀(H3:Hp),aw H1 H3->Rep H3 (J8 cs) (.ref cl)->N [~~~sc,at_⁻¹,tu⁻¹,mo⁻¹,c⁻¹,~~~nl,some (.int (a:Int)),some (.str (dh ns 0)),~~~cl,none,none,none,none,none,none] H3) (λN hN=>?_) ?_
  ·dsimp?[b5,HU,fY];rw[yl,ej]
   try rw[aal]
   refine⟨.inl ⟨rfl,_,bC.of fY⟩,⋯,⋯,λp H3 s3 np ep=>⟨ys,s3 _ _ fY,⋯,⋯,⋯,hN _ (bZ (s2.trans s3) Wx) ?_⟩⟩;have Zt:p≠cl:=λz=>by rw[z,fY] at np;cases np
   refine aY.mpr ⟨cl,_,rfl,ao,?_⟩;rw[Qj,aak,aae,List.map_take,List.map_drop];refine pC (bu.mpr ⟨p,_,_,rfl,by rw[av Zt];exact ep,aI.mpr rfl,bg.mpr rfl⟩) j (Qi.mono λq o h=>?_);have Wz:q≠cl:=λz=>by unfold cG at h;rw[if_pos z] at h;cases h
   rw[cu Wz] at h;rw[av Wz];exact s3 _ _ h
  rintro H3 s3 MV;have iV:=s1.trans s3;refine aN (λN=>∀H4 gl,aw H3 H4->H4 gl=some (.lst (((List.range a).map λk=>dh ns (3+k)).map V.str))->N [~~~sc,at_⁻¹,tu⁻¹,mo⁻¹,c⁻¹,~~~nl,some (.int (a:Int)),some (.str (dh ns 0)),~~~cl,~~~gl,none,none,none,none,none] H4) (λN hN=>?_) ?_
  ·dsimp?[];refine⟨_,bC.of (s3 _ _ Kr),λgl Zu=>hN _ gl (au Zu) ?_⟩;rw[ao,zY Qa ⋯ ⋯]
  rintro H4 gl s4 EH;have Qk:=s3.trans s4;have xp:=s1.trans Qk;generalize MW:((List.range a).map λk=>dh ns (3+k))=gs at *;have gl1:gs.length=a:=by rw[<-MW,aad,aax]
  obtain⟨Jm,EK,Jn,MX,SO⟩:=MS (cs:=cs) (c:=c) (mo:=mo) Qa Ww Kq (show m<=2 by lia) jm Sw Wr Wu Wv (by rw[Wy];exact Qj);refine aN (λN=>∀H5 pl ys,aw H4 H5->H4 pl=none->H5 pl=some (.lst ys)->dj (upd H4 pl (.lst [])) H5 ((fZ ns a tu).map λp=>Dat.tup [.str p.1,jd p.2]) ys->N [~~~sc,at_⁻¹,tu⁻¹,mo⁻¹,c⁻¹,~~~nl,some (.int (a:Int)),some (.str (dh ns 0)),~~~cl,~~~gl,~~~pl,none,none,none,none] H5) (λN hN=>?_) ?_
  ·dsimp?[];refine⟨⋯,⋯,?_⟩
   try rw[aal]
   refine comp_map src_range (λ_ _ _ _ h=>by rw[h.1];exact aw.refl _) ⋯ (λi y H2=>∃q t,y=.ref q/\H2 q=some (.tup [.str (dh ns (3+i)),.ref t])/\H2 t=some (.tup [.str "ask",.str (dh ns 0),.int tu,.str (dh ns 11),.str (dh ns (6+i))])) (λi y H2 H3 s3 h=>by obtain⟨q,t,e,hq,ht⟩:=h;exact⟨q,t,e,s3 _ _ hq,s3 _ _ ht⟩) ?_ ?_
   ·rintro i x w0 H5 H6 Q2 hi s5 ⟨rfl,rfl⟩ kq;dsimp?[aaS,(Qk.trans s5) _ _ Kr,s5 _ _ EH];refine⟨.str (dh ns (3+i)),bM ?_,_,na 11 ∅,_,by have:=na (6+i) ⋯;rwa [Int.natCast_add] at this,⋯,λt H7 s7 nt et=>⟨⋯,λq H8 s8 nq eq=>kq _ _ (s7.trans s8) ⟨q,t,rfl,eq,s8 _ _ et⟩⟩⟩;rw[<-MW,aaf,aaf,List.getElem?_range ⋯];rfl
   ·intro ys H5 s5 ly hy D n1 n2;have sD:=au (o:=.lst ys) n2;refine hN _ D ys (s5.trans sD) n1 ao (a7.of (by unfold fZ;rw[aad,aad,aax,ly]) λi dd v e1 e2=>?_);unfold fZ at e1;rw[aaf,aaf] at e1;symm;obtain⟨x,ex,rfl⟩:=abg.mp e1;obtain⟨k,ek,rfl⟩:=abg.mp ex;nofun;obtain⟨h1,h2⟩:=abh.mp ek;rw[List.getElem_range] at h2;subst h2;symm;obtain⟨q,t,rfl,hq,ht⟩:=hy i v e2;nofun;have li:dA (upd H4 D (.lst [])) (upd H5 D (.lst ys)):=λb zs e=>by
     by_cases z:b=D
     ·subst z;exact⟨_,ao⟩
     ·rw[av z] at e;exact⟨_,sD _ _ (s5 _ _ e)⟩
    exact qi li (sD _ _ hq) bO (pB li (sD _ _ ht) (bV bO (bV bO (bV dm (bV bO (bV bO eZ))))))
  rintro H5 pl ys s5 xn hpl Qi;have s05:=xp.trans s5;have SQ:H pl=none:=none_of xp xn;obtain⟨pF,SR⟩:∃f:Nat->Wt,(λk:Nat=>EE (e8 qX (at_+1+ (k:Int))) cs (dh ns 0) gs)=f:=⟨_,rfl⟩
  rw[SR] at De;have WA:∀k:Nat,pF k=EE (e8 qX (at_+1+ (k:Int))) cs (dh ns 0) gs:=λk=>by rw[<-SR]
  clear SR;refine aN (λN=>∀(H6:Hp) (W:List Wt) (ys:List V),aw H4 H6->H6 pl=some (.lst ys)->W=(List.range a).map pF->W.length=a->(∀x∈W,kx cs x/\jN cs gs x)->dj (upd H4 pl (.lst [])) H6 ((fZ ns a tu++eN ns W).map λp=>Dat.tup [.str p.1,jd p.2]) ys->∀ve tR EL,N [~~~sc,at_⁻¹,tu⁻¹,mo⁻¹,c⁻¹,~~~nl,some (.int (a:Int)),some (.str (dh ns 0)),~~~cl,~~~gl,~~~pl,ve,tR,EL,none] H6) (λN hN=>?_) ?_
  ·dsimp?[];refine⟨⋯,⋯,?_⟩
   try rw[aal]
   refine bJ (src_range (Ok:=λ_=>True)) (λi σ H6=>aw H4 H6/\∃(W:List Wt) (ys:List V),H6 pl=some (.lst ys)/\W=(List.range i).map pF/\W.length=i/\(∀x∈W,kx cs x/\jN cs gs x)/\dj (upd H4 pl (.lst [])) H6 ((fZ ns a tu++eN ns W).map λp=>Dat.tup [.str p.1,jd p.2]) ys/\∃ve tR EL,σ=[~~~sc,at_⁻¹,tu⁻¹,mo⁻¹,c⁻¹,~~~nl,some (.int (a:Int)),some (.str (dh ns 0)),~~~cl,~~~gl,~~~pl,ve,tR,EL,none]) ⟨s5,[],ys,hpl,rfl,rfl,(λx hx=>by cases hx),by rw[show eN ns []=[] from rfl,List.append_nil];exact Qi,_,_,_,rfl⟩ (λ_ _ _ _ _=>trivial) ?_ ?_
   ·intro i x σ H6 H7 hi eV eX;symm;obtain⟨s6,W,ys,hy,eW,lW,EJ,ry,ve,tR,EL,rfl⟩:=eV;obtain⟨rfl,rfl⟩:=eX;nofun;clear G_;have EI:=xp.trans s6;have Zv:ys.length=a+i:=by
     have:=a7.length ry;rw[aad,aaq] at this;unfold fZ eN at this;rw[aad,aax,List.length_mapIdx] at this;lia
    simp only[gName,aaH,aaG,aaS];refine aN (λN=>N [~~~sc,at_⁻¹,tu⁻¹,mo⁻¹,c⁻¹,~~~nl,some (.int (a:Int)),some (.str (dh ns 0)),~~~cl,~~~gl,~~~pl,some (.int (i:Int)),some (.int (e8 qX (at_+1+ (i:Int)))),EL,none] H7) (λN hN=>?_) ?_
    ·dsimp?[Kh];exact⟨qX,EI.seq hS,⋯,⋯,hN⟩
    have SS:=WA i;generalize e8 qX (at_+1+ (i:Int))=n at *;unfold EE at SS;have SU:dA (upd H4 pl (.lst [])) H7:=λb zs e=>by
     by_cases z:b=pl
     ·subst z;exact⟨_,hy⟩
     ·rw[av z] at e;exact⟨_,s6 _ _ e⟩
    let WO:Wt->Hp->V->Prop:=λx H8 v=>c4 (upd H4 pl (.lst [])) H8 (jd x) v/\kx cs x/\jN cs gs x;refine aN (λN=>∀H8 v,aw H7 H8->WO (Cj n cs (dh ns 0) gs) H8 v->N [~~~sc,at_⁻¹,tu⁻¹,mo⁻¹,c⁻¹,~~~nl,some (.int (a:Int)),some (.str (dh ns 0)),~~~cl,~~~gl,~~~pl,some (.int (i:Int)),n⁻¹,some v,none] H8) (λN hN=>?_) ?_
    ·dsimp?[yD];exact⟨cs,MV.mono (s4.trans s6),Jm,EK,Jn,MX,gs,s6 _ _ EH,⋯,⋯,λu H8 s8 r8 g8 w8=>hN _ u s8 ⟨r8.low SU,g8,w8⟩⟩
    rintro H8 v8 s8 Zw;refine aN (λN=>∀H8 v,aw H7 H8->WO (pF i) H8 v->N [~~~sc,at_⁻¹,tu⁻¹,mo⁻¹,c⁻¹,~~~nl,some (.int (a:Int)),some (.str (dh ns 0)),~~~cl,~~~gl,~~~pl,some (.int (i:Int)),n⁻¹,some v,none] H8) (λN hN=>?_) ?_
    ·dsimp?[b5,yD];have WB:=s6.trans s8;exact⟨∅,iw (λe=>⟨cs,MV.mono (s4.trans WB),Jm,EK,Jn,MX,gs,WB _ _ EH,⋯,⋯,λu H9 s9 r9 g9 w9=>hN _ u (s8.trans s9) (by rw[SS,if_pos e];exact⟨r9.low (SU.trans s8),g9,w9⟩)⟩) (λe=>hN _ _ s8 (by rw[SS,if_neg e];exact Zw))⟩
    intro H9 v9 s9 BP;symm;obtain⟨rx,gx,wx⟩:=BP;nofun;have WC:=s6.trans s9;dsimp?[dS];refine⟨.inl ⟨rfl,_,bC.of (s9 _ _ hy)⟩,_,(Qk.trans WC) _ _ Kr,_,by have:=na (6+i) ⋯;rwa [Int.natCast_add] at this,⋯,λp zN Aj np ep=>⟨ys,(s9.trans Aj) _ _ hy,⋯,bZ (WC.trans Aj) xn,W++ [pF i],_,ao,by rw[eW,List.range_succ,aak];rfl,by rw[aaq,lW];rfl,λy MY=>?_,?_,_,rfl⟩⟩
    ·rcases List.mem_append.mp MY with MY | MY
     ·exact EJ y MY
     ·rw[abj.mp MY];exact⟨gx,wx⟩
    ·show a7 (gG _ (upd _ _ _)) _ _;rw[iK (ys:=[]) ao,CC,<-List.append_assoc,aak,lW];exact nR (qi (SU.trans (s9.trans Aj)) ep bO (rx.mono Aj)) (ry.mono (s9.trans Aj))
   ·intro σ H6 dg;symm;obtain⟨s6,W,ys,hy,eW,lW,EJ,ry,ve,tR,EL,rfl⟩:=dg;nofun;exact hN _ W ys s6 hy eW lW EJ ry _ _ _
  rintro H6 W ys s6 hy eW lW EJ ry ve tR EL;rw[<-eW] at De;clear eW WA;have EI:=xp.trans s6;have Zv:ys.length=a+a:=by
   have:=a7.length ry;rw[aad,aaq] at this;unfold fZ eN at this;rw[aad,aax,List.length_mapIdx] at this;lia
  have SV:dA (upd H4 pl (.lst [])) H6:=λb zs e=>by
   by_cases z:b=pl
   ·subst z;exact⟨_,hy⟩
   ·rw[av z] at e;exact⟨_,s6 _ _ e⟩
  let WO:Wt->Hp->V->Prop:=λx H8 v=>c4 (upd H4 pl (.lst [])) H8 (jd x) v/\kx cs x/\jN cs gs x;obtain⟨fw,pM⟩:∃x,I0 c cs=x:=⟨_,rfl⟩
  rw[pM] at De;unfold I0 at pM;obtain⟨nx,Kt⟩:∃x,(cs.getD (a5 (c+12) (cs.length:Int)).toNat default).1=x:=⟨_,rfl⟩
  rw[Kt] at pM;refine aN (λN=>∀H7 v,aw H6 H7->WO (.score nx) H7 v->N [~~~sc,at_⁻¹,tu⁻¹,mo⁻¹,c⁻¹,~~~nl,some (.int (a:Int)),some (.str (dh ns 0)),~~~cl,~~~gl,~~~pl,ve,tR,EL,some v] H7) (λN hN=>?_) ?_
  ·symm;obtain⟨yI,u0,e0,SW,pK⟩:=aY.mp (show Rep H3 (.lst _) (.ref cl) from MV);nofun;clear G_;cases e0;have u3:=pK.length;rw[aad] at u3;have c0:0<cs.length:=by
    cases cs with
    | nil=>simp at EK
    | cons _ _=>exact Nat.zero_lt_succ _
   have b0:=cB (c:=c+12) (m:=(u0.length:Int)) ⋯;have b1:=cQ (c:=c+12) (m:=(u0.length:Int)) ⋯;have h36:=s4.trans s6;dsimp?[b5,h36 _ _ SW];rw[u3] at Kt;generalize a5 (c+12) (u0.length:Int)=b at *;obtain⟨k,rfl⟩:∃k:Nat,b=(k:Int):=⟨b.toNat,⋯⟩
   have hk:k<cs.length:=⋯
   rw[aal,aaC,aai hk] at Kt
   replace Kt:(cs[k]).1=nx:=Kt
   obtain⟨v,ev,rv⟩:=pK.at (i:=k) (by rw[aaf,aai hk];rfl);symm;obtain⟨q,x1,x2,rfl,hq,r1,r2⟩:=bu.mp (show Rep H3 (.tup _) v from rv);obtain rfl:=aI.mp r1;nofun;have A7:(cs[k]).1∈cs.map (·.1):=abi.mpr ⟨_,aaI hk,rfl⟩;exact⟨⋯,_,bM ev,q,rfl,_,h36 _ _ hq,_,at0,⋯,λp H7 s7 np ep=>hN _ _ s7 (by rw[<-Kt];exact⟨qi (SV.trans s7) ep bO bO,A7,A7⟩)⟩
  rintro H7 v7 s7 Zx;refine aN (λN=>∀H7 v,aw H6 H7->WO fw H7 v->N [~~~sc,at_⁻¹,tu⁻¹,mo⁻¹,c⁻¹,~~~nl,some (.int (a:Int)),some (.str (dh ns 0)),~~~cl,~~~gl,~~~pl,ve,tR,EL,some v] H7) (λN hN=>?_) ?_
  ·have b0:=cB (c:=c+14) (m:=19) ∅;have b1:=cQ (c:=c+14) (m:=19) ∅;dsimp?[b5];refine⟨∅,iw (λe=>⟨∅,⋯,λp H8 s8 np ep=>⟨⋯,λp1 H9 s9 Km Jg=>hN _ _ (s7.trans (s8.trans s9)) ?_⟩⟩) (λe=>hN _ _ s7 (by rw[if_neg e] at pM;rw[<-pM];exact Zx))⟩;rw[if_pos e] at pM;rw[<-pM];refine⟨?_,trivial,rfl,⋯,⋯⟩;have l9:=SV.trans (s7.trans (s8.trans s9));exact qi l9 Jg bO (qi l9 (s9 _ _ ep) dm dm)
  intro H8 v8 s8 BP;symm;obtain⟨Zy,Zz,ZA⟩:=BP;nofun;have gp:=Jj (a:=a) (tu:=tu) Qa Ww Kq ⋯ ⋯ lW Jm EK Jn SO (by rw[MW];exact EJ) Zz (by rw[MW];exact ZA);rw[MW] at gp;dsimp?[dS];have WD:=s6.trans s8;refine⟨.inl ⟨rfl,_,bC.of (s8 _ _ hy)⟩,_,(Qk.trans WD) _ _ Kr,_,na 11 ∅,⋯,λp H9 s9 np ep=>⟨ys,(s8.trans s9) _ _ hy,⋯,⋯,λp1 zN Aj Km Jg=>?_⟩⟩;have WE:aw H4 (upd H9 pl (.lst (ys++ [.ref p]))):=bZ (WD.trans s9) xn;have WG:=xp.trans (WE.trans Aj);have lz:dA H zN:=.of WG;rw[De] at gp;refine kk (.ref p1) zN WG ?_ gp;rw[<-De];refine qi lz Jg (Zo lz (none_of s1 Wx) (MV.mono (s4.trans (WE.trans Aj)))) ?_;refine c4.mono Aj (mw SQ ao ?_);show a7 _ (List.map (λp=>Dat.tup [.str p.1,jd p.2]) (fZ ns a tu++eN ns W++ [(dh ns 11,fw)])) _;have rr:dj (upd H4 pl (.lst [])) (upd H9 pl (.lst (ys++ [.ref p]))) ((fZ ns a tu++eN ns W++ [(dh ns 11,fw)]).map λp=>Dat.tup [.str p.1,jd p.2]) (ys++ [.ref p]):=by
   show a7 (gG _ (upd _ _ _)) _ _;rw[iK (ys:=[]) ao,aak];exact nR (qi (SV.trans (s8.trans s9)) ep bO (Zy.mono s9)) (ry.mono (s8.trans s9))
  exact rr.low (.of (xp.trans (au xn)))
theorem iL:aS ["_law_pool","_law_low_here","_law_high","_law_part"] ["_law_pool"] (aq (top 50)):=.mk
theorem tE (s:Nat):∀l:List Nat,(l.filterMap λi:Nat=>if 1+ (i:Int)≠(s:Int) then some (1+ (i:Int)) else none)=(l.map λi:Nat=>1+ (i:Int)).filter λv=>decide (v≠(s:Int))
 | []=>rfl
 | i::l=>by
  rw[aaT,aae]
  by_cases e:1+ (i:Int)=(s:Int)
  ·rw[if_neg (λz=>z e),List.filter_cons_of_neg (by simpa using e)];exact tE s l
  ·rw[if_pos e,List.filter_cons_of_pos (by simpa using e),tE s l]
theorem Jo (T:0|||0):(1<<<"_law_values") ["_law_pool"] Gj:=by
 refine T.p7.dF (λ_ _ _ _ _ _=>gA λ_=>rfl) λf fd F=>F.dZ iL (λvs H Q E h=>?_) (λbY A outer s H vs Q E hr h=>?_)
 ·obtain⟨_,rfl,_⟩:=C7 h;rfl
 ·symm;obtain⟨v,rfl,ps,rv,gl,kk⟩:=C7 h;nofun;have nd:=iL.nd;refine⟨_,(ag (bc (aL bo (ar ai (ar aX (pv 0) ae) ae) aZ (aQ _)) (aj (aR (cj rfl (N:=["_law_pool","_law_low_here","_law_high","_law_part"]) (so:=aq (top 50)) (N':=["_law_value","_law_pool"]) (k:=1) (fr:=[0]) rfl rfl ⟨rfl,∅,∅,∅,rfl,∅,∅⟩ (lD rfl T.z_range (aa ae (aa (aD aM (aD bf ae (ar ai (ar aX (pv 0) ae) ae)) ae) af))) (λ_ _ _ _ _=>(aV (i:=0) (show(["_law_value","_law_pool"]:List Str).Nodup by ac_rfl) rfl (.inl rfl))) (λ_ _ _ _ _=>(eA (aL mC (pv 0) (ar ai (ar aX (pv 1) ae) ae) (aQ _))))
   (λ_ _ _ _ _=>(pv 0)))))
   aW)
  (ag (aG (i:=1) ae)
  (ag (aG (i:=2) ae)
  (ag (ck PassesOwn.never rfl (bh (K:=K) (pv 0)) (aV (i:=3) nd rfl (.inl rfl)) (aj (bc (aL bo (ar ai (pv 3) ae) aZ (aQ _)) (ag (aG (i:=1) (aD aM (pv 1) (ar ai (pv 3) ae)))
  (aj (aG (i:=2) (aD aM (pv 2) (ar ai (pv 3) ae)))))
   (ag (aG (i:=1) (aD aM (pv 1) (ar ai (pv 3) ae)))
  (aj (aG (i:=2) (aD aM (pv 2) (aD bf (ar ai (pv 3) ae) (ar ai (pv 3) ae)))))))))
  (aj (aR (pX rfl rfl T.z_list rfl T.z_range (aa (pv 1) (aa (aD aM (pv 2) ae) af))))))))),?_⟩
  refine(?_:let bQ:TS:=_;let bR:TS:=_;let bS:TS:=_;let df:TS:=_;let mT:TS:=_;tSeq bQ (tSeq bR (tSeq bS (tSeq df mT))) _ _ _);intro bQ bR bS df mT;have sl:=sizeLine_eq;symm;obtain⟨a,rfl,xs,ha,ap⟩:=yv rv;nofun;have xl:=ap.length;rcases iS gl with ⟨k0,s0,SX,e0⟩ | ⟨s0,s2,s6,e0⟩
  case inr=>
   subst e0;obtain⟨x0,e1,q0,e2,wY⟩:∃x,xs=[x]/\∃q,x=.ref q/\H q=some (.tup (k7 (.bU 1 s0))):=by
    match xs,ap with
    | [x],ap=>exact⟨x,rfl,ap.1⟩
   subst e1 e2;simp only[k7] at wY;refine aN (λ_=>True) (λN _=>?_) trivial;refine cH (λY N k=>by dsimp?[ha,wY];exact k) ?_;dsimp?[ha,wY];refine⟨br ⋯ ⋯,∅,∅,⋯,⋯,?_⟩;have e9:(2* (s0:Int)+1 - 1).toNat=(List.range (2*s0)).length:=by rw[aax];lia
   rw[e9];refine lQ (List.range (2*s0)) (λi:Nat=>if 1+ (i:Int)≠(s0:Int) then some (1+ (i:Int)) else none) src_range (λ_ _ _ _ h=>h.1) (by rw[aax];lia) ?_ ?_
   ·rintro i x y ex ⟨_,rfl⟩ Y N3 y1 y2;obtain⟨h1,h2⟩:=abh.mp ex;rw[List.getElem_range] at h2;subst h2;dsimp?[ha,wY]
    by_cases e:1+ (i:Int)=(s0:Int)
    ·rw[if_neg (λz=>z e)];exact y2 (if_neg (λz=>z e))
    ·rw[if_pos e];exact y1 _ (if_pos e)
   ·intro D n1 n2;refine kk D _ (au n2) n1 ?_;rw[ao,tE];rfl
  refine aN (λN=>N [~~~a,none,none,none] H) (λN hN=>?_) ?_
  ·obtain⟨p0,SY⟩:∃p0,ps[0]?=some p0:=by rcases e0 with e | ⟨m,_,e⟩ <;>exact⟨_,by rw[e];rfl⟩
   refine bL (λY N k=>?_) ?_
   ·symm;obtain⟨v0,IA,q0,e1,wY⟩:=ap.at SY;subst e1;nofun;have e2:kd p0≠aac "burst":=by
     rcases e0 with e | ⟨m,_,e⟩ <;>(rw[e] at SY;cases SY;exact(by ac_rfl:¬aac "dice"=aac "burst"))
    dsimp?[ha];refine⟨_,bM (j:=0) IA,q0,rfl,_,wY,_,Ih p0,rfl,?_⟩;rw[if_neg (λz=>e2 (by injection z))];exact k
   dsimp?[];exact hN
  dsimp?[];refine⟨⟨_,bC.of ha⟩,bJ (src_list (Ok:=λH'=>H=H') (λH' e=>by subst e;exact bC.of ha)) (λi σ H'=>H=H'/\∃z,σ=[~~~a,some (.int (jP (ps.take i))),some (.int (jQ (ps.take i))),z]) ⟨rfl,_,rfl⟩ (λ_ _ _ _ h=>h.1) ?_ ?_⟩
  ·intro i x σ H' fG hi eV eX;symm;obtain⟨rfl,z,rfl⟩:=eV;obtain⟨rfl,ex⟩:=eX;obtain⟨p,ep,q,rfl,hq⟩:=ap.get ex;nofun;obtain⟨BM,vv⟩:=abh.mp ep;obtain⟨gp,_⟩:=uO gl;have gp:=gp p (aan ep);rw[take_snoc BM,vv,nU,nV];simp only[gName,aaH,aaG];cases p with
   | num m=>
    simp only[k7] at hq;refine cH (λY N k=>by dsimp?[hq];exact k) ?_;dsimp?[hq];exact⟨_,rfl⟩
   | bU k s=>
    exfalso;have hm:=aan ep;rcases e0 with e | ⟨m,_,e⟩ <;>(rw[e] at hm;simp at hm)
   | cP k s=>
    simp only[k7] at hq;refine bL (λY N k=>by dsimp?[hq];rw[if_neg ∅];exact k) ?_;dsimp?[hq];have gp:1<=s/\s<=20/\k<=6:=gp;exact⟨br ⋯ ⋯,_,rfl⟩
  ·intro σ H' dg;symm;obtain⟨rfl,z,rfl⟩:=dg;nofun;rw[xl,aau (aag _)];dsimp?[LD];have d:∀x∈zI,x.1<=x.1*x.2/\x.1*x.2<=100:=∅
   obtain⟨k,s,An,e | ⟨m,hm,e⟩⟩:∃k s,(k,s)∈zI/\(ps=[.cP k s]\/∃m,m<100/\ps=[.cP k s,.num m]):=⟨k0,s0,SX,e0⟩
   ·subst e;have:k<=k*s/\k*s<=100:=d (k,s) An;have d6:∀x∈zI,x.1<=2:=∅
    have:k<=2:=d6 (k,s) An;refine⟨k*s - k+1,?_,⋯,?_,?_,λl nl=>kk l _ (au nl) nl ?_⟩
    ·show(k:Int)* (s:Int)+0+1=(k:Int)+0+ ((k*s - k+1:Nat):Int);rw[<-aaW];lia
    ·show -1000000<=(k:Int)+0;lia
    ·show(k:Int)+0<=1000000;lia
    ·rw[ao,ff,aaM];rfl
   ·subst e;have:k<=k*s/\k*s<=100:=d (k,s) An;have d6:∀x∈zI,x.1<=2:=∅
    have:k<=2:=d6 (k,s) An;refine⟨k*s - k+1,?_,⋯,?_,?_,λl nl=>kk l _ (au nl) nl ?_⟩
    ·show(k:Int)* (s:Int)+ ((m:Int)+0)+1=(k:Int)+ ((m:Int)+0)+ ((k*s - k+1:Nat):Int);rw[<-aaW];lia
    ·show -1000000<=(k:Int)+ ((m:Int)+0);lia
    ·show(k:Int)+ ((m:Int)+0)<=1000000;lia
    ·rw[ao,ff,aaM];rfl
theorem kR:aS ["_law_game_here","_law_name"] ["_law_game_here","_law_name"] (aq (top 51)):=.mk
theorem pE (T:0|||0):(1<<<"_law_what") ["_law_game_here","_law_name"] mY:=by
 refine T.uH.dF (λ_ _ _ _ _ _=>d4 λ_ _=>rfl) λf fd F=>F.dZ kR (λvs H Q E h=>?_) (λbY A outer s H vs Q E hr h=>?_)
 ·obtain⟨_,_,rfl,_⟩:=LG h;rfl
 ·symm;obtain⟨gv,nm,rfl,g,rg,gg,x,lk,kk⟩:=LG h;nofun;have nd:=kR.nd;refine⟨_,(aj (aR (ar aX (cj rfl (N:=["_law_game_here","_law_name"]) (so:=aq (top 51)) (N':=["_law_told","_law_what_here","_law_name"]) (k:=2) (fr:=[1]) rfl rfl ⟨rfl,∅,∅,∅,rfl,∅,∅⟩ (bh (K:=K) (ar ai (pv 0) ae)) (λ_ _ _ _ _=>(eP (K:=K) (n:=2) rfl (bH (aV (i:=0) (show(["_law_told","_law_what_here","_law_name"]:List Str).Nodup by ac_rfl) rfl (.inl rfl)) (bH (aV (i:=1) (show(["_law_told","_law_what_here","_law_name"]:List Str).Nodup by ac_rfl) rfl (.inl rfl)) eO)))) (λ_ _ _ _ _=>(eA (aL bo (pv 0) (pv 2) (aQ _))))
   (λ_ _ _ _ _=>(pv 1))) ae))),?_⟩
  have sl:=sizeLine_eq;symm;obtain⟨gp,cv,pv,rfl,qS,rc,rp⟩:=bu.mp (show Rep H (.tup _) gv from rg);obtain⟨pl,yy,rfl,hpl,yz⟩:=aY.mp (show Rep H (.lst _) pv from rp);nofun;have ZC:=gg.lp;have len:=yz.length;rw[aad] at len;dsimp?[qS];refine⟨⟨_,bC.of hpl⟩,?_⟩;symm;obtain⟨us,ul,ue,ux⟩:=qW (nm:=nm) yz;obtain⟨u,r,ef,ru⟩:=ux x lk;nofun;have zl:(us.zip g.ps).length=yy.length:=by rw[List.length_zip];lia
  have S:Src (vj K pl) (aw H) yy.length _:=src_list (λH' s'=>bC.of (s' _ _ hpl));rw[<-zl] at S;refine pj (K:=K) (us.zip g.ps) (λy=>if y.2.1=nm then some y.1 else none) S (λ_ _ _ _ h=>h.1) ⋯ ?_ ?_
  ·rintro i ⟨u',p⟩ y ZD ⟨_,ey⟩;obtain⟨e1,e2⟩:=List.getElem?_zip_eq_some.mp ZD;symm;obtain⟨q,eq,hq⟩:=ue i p u' e2 e1;nofun;rw[eq] at ey;cases ey;refine⟨q,_,_,rfl,iP.of hq,λY N y1 y2=>?_⟩;dsimp?[]
   by_cases e:p.1=nm
   ·rw[if_pos e];exact y1 _ (if_pos e)
   ·rw[if_neg e];exact y2 (if_neg e)
  ·intro D n1 n2;rw[ef];exact⟨_,ao,u,at0,kk u _ (au n2) ru⟩
theorem iM:aS ["_law_game_here","_law_counts","_law_name"] ["_law_game_here","_law_counts","_law_name"] (aq (top 52)):=.mk
theorem xq (T:0|||0):(1<<<"_law_number") ["_law_game_here","_law_counts","_law_name"] yE:=by
 refine T.p8.dF (λ_ _ _ _ _ _=>sE λ_ _ _=>rfl) λf fd F=>F.dZ iM (λvs H Q E h=>?_) (λbY A outer s H vs Q E hr h=>?_)
 ·obtain⟨_,_,_,rfl,_⟩:=FJ h;rfl
 ·symm;obtain⟨gv,l,nm,rfl,g,rg,gg,ns,hl,ln,hm,kk⟩:=FJ h;nofun;have nd:=iM.nd;refine⟨_,(aj (aR (ar aX (cj rfl (N:=["_law_game_here","_law_counts","_law_name"]) (so:=aq (top 52)) (N':=["_law_k","_law_game_here","_law_counts","_law_name"]) (k:=1) (fr:=[0,1,2]) rfl rfl ⟨rfl,∅,∅,∅,rfl,∅,∅⟩ (bX rfl T.z_range (aa (aU bK (by rfl) T.z_len aav (aa (pv 1) af)) af)) (λ_ _ _ _ _=>(aV (i:=0) (show(["_law_k","_law_game_here","_law_counts","_law_name"]:List Str).Nodup by ac_rfl) rfl (.inl rfl))) (λ_ _ _ _ _=>(eA (aL bo (ar ai (ar aX (ar ai (pv 1) ae) (pv 0)) ae) (pv 3) (aQ _))))
   (λ_ _ _ _ _=>(ar aX (pv 2) (pv 0)))) ae))),?_⟩
  have sl:=sizeLine_eq;symm;obtain⟨gp,cv,pv,rfl,qS,rc,rp⟩:=bu.mp (show Rep H (.tup _) gv from rg);obtain⟨cl,u0,rfl,fY,pK⟩:=aY.mp (show Rep H (.lst _) cv from rc);nofun;have lcs:=gg.lc;have len:=pK.length;rw[aad] at len;dsimp?[qS,hl];rw[aad];refine⟨⋯,⋯,?_⟩;rw[aal];obtain⟨r,ef⟩:=vd ln hm;have zl:(g.cs.zip ns).length=ns.length:=by rw[List.length_zip];lia
  rw[<-zl];refine lQ (g.cs.zip ns) (λy=>if y.1.1=nm then some y.2 else none) src_range (λ_ _ _ _ h=>h.1) ⋯ ?_ ?_
  ·rintro i ⟨c,n⟩ y ZE ⟨_,rfl⟩ Y N y1 y2;obtain⟨e1,e2⟩:=List.getElem?_zip_eq_some.mp ZE;obtain⟨cv,ev,S0⟩:=pK.at (i:=i) (by rw[aaf,e1];rfl);symm;obtain⟨cq,b1,b2,rfl,EF,q1,q2⟩:=bu.mp (show Rep _ (.tup _) cv from S0);obtain rfl:=aI.mp q1;nofun;dsimp?[aaS,qS,fY,hl];refine⟨_,bM ev,_,rfl,_,EF,_,at0,rfl,?_⟩
   by_cases e:c.1=nm
   ·rw[if_pos (congrArg V.str e)];refine⟨_,eQ (abh.mp e2).1,?_⟩;rw[aaC,e2];exact y1 _ (if_pos e)
   ·rw[if_neg (λz=>e (by injection z))];exact y2 (if_neg e)
  ·intro D n1 n2;rw[ef];exact⟨_,ao,_,at0,kk _ (au n2)⟩
theorem hX:aS ["_law_game_here","_law_name","_law_counts","_law_what_here"] ["_law_game_here","_law_name","_law_counts"] (aq (top 53)):=.mk
set_option tactic.hygienic true in
theorem CD (T:0|||0):(2<<<"_law_arrived") ["_law_game_here","_law_name","_law_counts"] yF:=by
 have cJ:=pE T;have dR:=xq T;refine T.oV.dF (λ_ _ _ _ _ _=>sE λ_ _ _=>rfl) λf fd F=>F.dZ hX (λvs H Q E h=>?_) (λbY A outer s H vs Q E hr h=>?_)
 ·obtain⟨_,_,_,rfl,_⟩:=FL h;rfl
 ·symm;obtain⟨gv,nm,l,rfl,g,rg,gg,ns,hl,ln,fu,Ku,ak,kk⟩:=FL h;nofun;have nd:=hX.nd;refine⟨_,(ag (aG (i:=3) (aK cJ (aa (pv 0) (aa (pv 1) af))))
  (ag (jY PassesOwn.never (aL bo (ar ai (pv 3) ae) aZ (aQ _)) (ag (aG (i:=1) (ar ai (pv 3) (aD aM ae (dD wy (by rfl) T.z_int rfl (aa (fo t5 (aK dR (aa (pv 0) (aa (pv 2) (aa (ar ai (pv 3) ae) af)))) (ar ai (pv 3) ae) (aQ _)) af)))))
  (aj (aG (i:=3) (aK cJ (aa (pv 0) (aa (pv 1) af)))))))
  (aj (aR (a6 (aa (pv 1) (aa (dD (dt (K:=K)) (by rfl) T.z_list rfl (aa (pv 2) af)) af))))))),?_⟩
  refine(?_:let bQ:TS:=_;let bR:TS:=_;let bS:TS:=_;tSeq bQ (tSeq bR bS) _ _ _);intro bQ bR bS;have sl:=sizeLine_eq;have lx:∀{f nm},dO g ns f nm=some Ku->∃x,look g.ps nm=some x:=λ{f nm} ak=>by
   cases f with
   | zero=>cases ak
   | succ f=>
    unfold dO at ak;cases h:look g.ps nm with
    | none=>rw[h] at ak;cases ak
    | some x=>exact⟨x,rfl⟩
  obtain⟨x0,Aa⟩:=lx ak;refine aN (λN=>∀H1 v,aw H H1->Rep H1 (jd x0) v->N [some gv,some (.str nm),~~~l,some v] H1) (λN hN=>?_) ?_
  ·dsimp?[mY];exact⟨g,rg,gg,x0,Aa,λu H1 s1 ru=>hN _ u s1 (ru.mono s1)⟩
  rintro H1 v0 s1 IB;refine aN (λN=>∀H3 v,aw H H3->N [some gv,some (.str Ku),~~~l,some v] H3) (λN hN=>?_) ?_
  ·refine yt (λm σ H3=>aw H1 H3/\∃nm x v,dO g ns m nm=some Ku/\look g.ps nm=some x/\Rep H3 (jd x) v/\σ=[some gv,some (.str nm),~~~l,some v]) (m:=fu) ⟨aw.refl _,nm,x0,v0,ak,Aa,IB,rfl⟩ ?_;intro m σ H3 BP;symm;obtain⟨s3,ZF,x,v,yJ,WH,WI,rfl⟩:=BP;have iV:=s1.trans s3;obtain⟨m,rfl⟩:∃m',m=m'+1:=by
    cases m with
    | zero=>cases yJ
    | succ m=>exact⟨m,rfl⟩
   nofun;have yJ:=yJ;unfold dO at yJ;rw[WH] at yJ
   by_cases ka:lg x=aac "ask"
   ·symm;obtain⟨c,k,a,b,rfl⟩:=IG ka;have hc:c∈g.cs.map (·.1):=gg.wt _ (c7 WH);obtain⟨q,v1,v2,v3,v4,v5,rfl,hq,r1,r2,r3,r4,r5⟩:=sN.mp (show Rep H3 (.tup _) v from WI);nofun;rw[aI.mp r1,aI.mp r2,bg.mp r3,aI.mp r4,aI.mp r5] at hq;have yJ:(if k<=ns.getD (bF g.cs c) 0 then dO g ns m a else dO g ns m b)=some Ku:=yJ;have WJ:dO g ns m (if k<=ns.getD (bF g.cs c) 0 then a else b)=some Ku:=by split <;>(rename_i h;first | rw[if_pos h] at yJ | rw[if_neg h] at yJ) <;>exact yJ
    refine⟨true,λQ hQ=>?_,?_⟩
    ·dsimp?[hq];exact hQ
    ·rw[if_pos rfl];refine aN (λN=>∀H4,aw H3 H4->N [some gv,some (.str (if k<=ns.getD (bF g.cs c) 0 then a else b)),~~~l,~~~q] H4) (λN hN=>?_) ?_
     ·dsimp?[hq,yE];refine⟨g,rg.mono iV,gg,ns,iV _ _ hl,ln,hc,λH' s'=>⟨_,s' _ _ hq,_,at2,_,rfl,_,s' _ _ hq,.str (if k<=ns.getD (bF g.cs c) 0 then a else b),?_,hN _ s'⟩⟩
      by_cases z:k<=ns.getD (bF g.cs c) 0
      ·rw[if_pos z,if_neg ⋯];rfl
      ·rw[if_neg z,if_pos ⋯];rfl
     rintro H4 s4;have xp:=iV.trans s4;obtain⟨x1,WK⟩:=lx WJ;dsimp?[mY];exact⟨g,rg.mono xp,gg,x1,WK,λu H5 s5 ru=>⟨m,⋯,s3.trans (s4.trans s5),_,WJ,x1,WK,_,ru.mono s5,rfl,rfl⟩⟩
   ·have e1:ZF=Ku:=by
     cases x with
     | ask c k a b=>exact absurd rfl ka
     | fin t b=>exact aay yJ
     | score c=>exact aay yJ
     | pick w rs=>exact aay yJ
     | dM p t b rs=>exact aay yJ
    subst e1;symm;obtain⟨q,vk,rfl,hq⟩:=jr WI;nofun;refine⟨false,λQ hQ=>?_,?_⟩
    ·dsimp?[hq];rw[decide_eq_false ka];exact hQ
    ·rw[if_neg ∅];exact hN _ _ iV
  rintro H3 v3 s3;dsimp?[];exact⟨_,.inl (bC.of (s3 _ _ hl)),λl' MZ=>⟨⋯,λp H4 s4 np e4=>kk p l' H4 (s3.trans ((au MZ).trans s4)) (none_of (s3.trans (au MZ)) np) (none_of s3 MZ) e4 (s4 _ _ ao)⟩⟩
theorem kS:aS ["_law_game_here","_law_counts","_law_deeds_here","_law_thrown","_law_held","_law_caps","_law_k","_law_deed"] ["_law_game_here","_law_counts","_law_deeds_here","_law_thrown"] (aq (top 54)):=.mk
theorem Jp (T:0|||0):(1<<<"_law_done") ["_law_game_here","_law_counts","_law_deeds_here","_law_thrown"] Cq:=by
 refine T.uI.dF (λ_ _ _ _ _ _=>sF λ_ _ _ _=>rfl) λf fd F=>F.dZ kS (λvs H Q E h=>?_) (λbY A outer s H vs Q E hr h=>?_)
 ·obtain⟨_,_,_,_,rfl,_⟩:=Bw h;rfl
 ·symm;obtain⟨gv,l,dv,v,rfl,g,rg,gg,ns,hl,ln,ds,rd,S1,gd,kk⟩:=Bw h;nofun;clear G_;have nd:=kS.nd;refine⟨_,(ag (aG (i:=4) gw)
  (ag (aG (i:=5) gw)
  (ag (ck PassesOwn.never rfl (bX rfl T.z_range (aa (aU bK (by rfl) T.z_len aav (aa (pv 1) af)) af)) (aV (i:=6) nd rfl (.inl rfl)) (ag (d9 (cD hr) (pv 4) (ar ai (ar aX (ar ai (pv 0) ae) (pv 6)) ae) (ar aX (pv 1) (pv 6)) rfl)
  (aj (d9 (cD hr) (pv 5) (ar ai (ar aX (ar ai (pv 0) ae) (pv 6)) ae) (ar ai (ar aX (ar ai (pv 0) ae) (pv 6)) ae) rfl))))
  (ag (ck PassesOwn.never rfl (bh (K:=K) (pv 2)) (aV (i:=7) nd rfl (.inl rfl)) (aj (bc (aL bo (ar ai (pv 7) ae) aZ (aQ _)) (aj (d9 (cD hr) (pv 4) (ar ai (pv 7) ae) (aU (fE rfl) (by rfl) T.z_min rfl (aa (ar ai (pv 7) ae) (aa (cF (cD hr) (pv 5) (ar ai (pv 7) ae) (λ_ _=>rfl)) af))) rfl))
   (aj (bc (aL bo (ar ai (pv 7) ae) aZ (aQ _)) (aj (d9 (cD hr) (pv 4) (ar ai (pv 7) ae) (aU (fE rfl) (by rfl) T.z_min rfl (aa (aD aM (cF (cD hr) (pv 4) (ar ai (pv 7) ae) (λ_ _=>rfl)) (ar ai (pv 7) ae)) (aa (cF (cD hr) (pv 5) (ar ai (pv 7) ae) (λ_ _=>rfl)) af))) rfl))
   (aj (bc (aL bo (ar ai (pv 7) ae) aZ (aQ _)) (aj (d9 (cD hr) (pv 4) (ar ai (pv 7) ae) (aU (fE rfl) (by rfl) T.z_min rfl (aa (aD aM (cF (cD hr) (pv 4) (ar ai (pv 7) ae) (λ_ _=>rfl)) (pv 3)) (aa (cF (cD hr) (pv 5) (ar ai (pv 7) ae) (λ_ _=>rfl)) af))) rfl))
   (ag (d9 (cD hr) (pv 4) (ar ai (pv 7) ae) (aU (fE rfl) (by rfl) T.z_min rfl (aa (aD aM (cF (cD hr) (pv 4) (ar ai (pv 7) ae) (λ_ _=>rfl)) (cF (cD hr) (pv 4) (ar ai (pv 7) ae) (λ_ _=>rfl))) (aa (cF (cD hr) (pv 5) (ar ai (pv 7) ae) (λ_ _=>rfl)) af))) rfl)
  (aj (d9 (cD hr) (pv 4) (ar ai (pv 7) ae) ae rfl))))))))))
  (aj (aR (cj rfl (N:=["_law_game_here","_law_counts","_law_deeds_here","_law_thrown","_law_held","_law_caps","_law_k","_law_deed"]) (so:=aq (top 54)) (N':=["_law_name","_law_most","_law_held"]) (k:=2) (fr:=[4]) rfl rfl ⟨rfl,∅,∅,∅,rfl,∅,∅⟩ (bh (K:=K) (ar ai (pv 0) ae)) (λ_ _ _ _ _=>(eP (K:=K) (n:=2) rfl (bH (aV (i:=0) (show(["_law_name","_law_most","_law_held"]:List Str).Nodup by ac_rfl) rfl (.inl rfl)) (bH (aV (i:=1) (show(["_law_name","_law_most","_law_held"]:List Str).Nodup by ac_rfl) rfl (.inl rfl)) eO)))) (λ_ _ _ _ _=>dk)
   (λ_ _ _ _ _=>(cF (cD hr) (pv 2) (pv 0) (λ_ _=>rfl)))))))))),?_⟩
  refine(?_:let bQ:TS:=_;let bR:TS:=_;let bS:TS:=_;let df:TS:=_;let mT:TS:=_;tSeq bQ (tSeq bR (tSeq bS (tSeq df mT))) _ _ _);intro bQ bR bS df mT;have sl:=sizeLine_eq;symm;obtain⟨gp,cv,pv,rfl,qS,rc,rp⟩:=bu.mp (show Rep H (.tup _) gv from rg);obtain⟨cl,u0,rfl,fY,pK⟩:=aY.mp (show Rep H (.lst _) cv from rc);obtain⟨dl,ic,rfl,Ep,zO⟩:=aY.mp rd;nofun;clear G_;have lcs:=gg.lc;have len:=pK.length;rw[aad] at len;have Er:=zO.length;rw[aad] at Er;refine aN (λN=>∀H1 d1,aw H H1->H d1=none->H1 d1=some (.dK [])->N [~~~gp,~~~l,~~~dl,v⁻¹,~~~d1,none,none,none] H1) (λN hN=>?_) ?_
  ·dsimp?[];exact λd1 n1=>hN _ d1 (au n1) n1 ao
  rintro H1 d1 s1 n1 e1;refine aN (λN=>∀H2 d2,aw H1 H2->H1 d2=none->H2 d2=some (.dK [])->N [~~~gp,~~~l,~~~dl,v⁻¹,~~~d1,~~~d2,none,none] H2) (λN hN=>?_) ?_
  ·dsimp?[];exact λd2 n2=>hN _ d2 (au n2) n2 ao
  rintro H2 d2 s2 n2 e2;have ZG:=s2 _ _ e1;have z2:H d2=none:=none_of s1 n2;have M0:d1≠d2:=λz=>by rw[<-z,e1] at n2;cases n2
  have tz:=s1.trans s2;have fresh:∀{i:Nat} (hi:i<g.cs.length),(g.cs[i]).1∉(g.cs.take i).map (·.1):=λ{i} hi m=>by
   rw[List.map_take] at m;symm;obtain⟨j,hj,e⟩:=List.mem_take_iff_getElem.mp m;nofun;have ZH:=gg.nc;rw[aad] at hj;have e2:(g.cs.map (·.1))[j]'(by rw[aad];lia)=(g.cs.map (·.1))[i]'(by rw[aad];lia):=by rw[e,List.getElem_map]
   have:=(List.getElem_inj ZH).mp e2;lia
  refine aN (λN=>∀H3,(∀a o,H a=some o->H3 a=some o)->H3 d1=some (.dK (zK g.cs ns))->H3 d2=some (.dK (zK g.cs (g.cs.map (·.2))))->∀z6 z7,N [~~~gp,~~~l,~~~dl,v⁻¹,~~~d1,~~~d2,z6,z7] H3) (λN hN=>?_) ?_
  ·dsimp?[tz _ _ hl];rw[aad];refine⟨⋯,⋯,?_⟩;rw[aal];refine bJ (src_range (Ok:=λ_=>True)) (λi σ H3=>aw H H3/\H3 d1=some (.dK (zK (g.cs.take i) (ns.take i)))/\H3 d2=some (.dK (zK (g.cs.take i) ((g.cs.map (·.2)).take i)))/\∃z6 z7,σ=[~~~gp,~~~l,~~~dl,v⁻¹,~~~d1,~~~d2,z6,z7]) ⟨tz,ZG,e2,_,_,rfl⟩ (λ_ _ _ _ _=>trivial) ?_ ?_
   ·intro i x σ H3 H4 hi eV eX;symm;obtain⟨s3,a1,a2,z6,z7,rfl⟩:=eV;obtain⟨rfl,rfl⟩:=eX;nofun;clear G_;have Gu:i<g.cs.length:=⋯
    have ec:=aai Gu;obtain⟨cv,ev,S0⟩:=pK.at (i:=i) (by rw[aaf,ec];rfl);symm;obtain⟨cq,b1,b2,rfl,EF,q1,q2⟩:=bu.mp (show Rep _ (.tup _) cv from S0);obtain rfl:=aI.mp q1;obtain rfl:=bg.mp q2;nofun;clear G_;simp only[gName,aaH,aaG,aaS];refine aN (λN=>N [~~~gp,~~~l,~~~dl,v⁻¹,~~~d1,~~~d2,some (.int (i:Int)),z7] (upd H4 d1 (.dK (zK (g.cs.take (i+1)) (ns.take (i+1)))))) (λN hN=>?_) ?_
    ·dsimp?[sDPut,s3 _ _ qS,s3 _ _ fY,s3 _ _ hl];refine⟨_,eQ ⋯,_,bM ev,_,rfl,_,s3 _ _ EF,_,at0,_,.inl ⟨_,Sum.inr (g.cs[i]).1,a1,rfl,by rw[xk (by rw[aaA,aaA];lia),aaA];lia,rfl⟩,?_⟩;rw[iT (tf (fresh Gu)),<-sZ _ _ (by rw[aaA,aaA];lia),<-take_snoc Gu,tj (show i<ns.length by lia),<-take_snoc (show i<ns.length by lia)];exact hN
    have up:∀{a o},H a=some o->upd H4 d1 (.dK (zK (g.cs.take (i+1)) (ns.take (i+1)))) a=some o:=λ{a o} h=>by
     rw[av (λz=>by rw[z,n1] at h;cases h)];exact s3 _ _ h
    have ZI:upd H4 d1 (.dK (zK (g.cs.take (i+1)) (ns.take (i+1)))) d2=some (.dK (zK (g.cs.take i) ((g.cs.map (·.2)).take i))):=by rw[av (Ne.symm M0)];exact a2
    have ZJ:upd H4 d1 (.dK (zK (g.cs.take (i+1)) (ns.take (i+1)))) d1=some (.dK (zK (g.cs.take (i+1)) (ns.take (i+1)))):=ao;generalize upd H4 d1 (.dK (zK (g.cs.take (i+1)) (ns.take (i+1))))=H5 at *;dsimp?[sDPut,up qS,up fY];refine⟨_,bM ev,_,rfl,_,up EF,_,at1,_,bM ev,_,rfl,_,up EF,_,at0,_,.inl ⟨_,Sum.inr (g.cs[i]).1,ZI,rfl,by rw[xk (by rw[aaA,aaA,aad]),aaA];lia,rfl⟩,λa o h=>?_,by rw[av M0];exact ZJ,?_,_,rfl⟩
    ·rw[av (λz=>by rw[z,z2] at h;cases h)];exact up h
    ·rw[ao,iT (tf (fresh Gu)),<-sZ _ _ (by rw[aaA,aaA,aad]),<-take_snoc Gu];have SD:i< (g.cs.map (·.2)).length:=by rw[aad];exact Gu
     rw[show(g.cs[i]).2=(g.cs.map (·.2))[i]'SD by rw[List.getElem_map],<-take_snoc SD]
   ·intro σ H3 dg;symm;obtain⟨s3,a1,a2,z6,z7,rfl⟩:=dg;nofun;rw[aau ⋯,aau ⋯] at a1;rw[aau ⋯,aau (by rw[aad];lia)] at a2;exact hN _ s3 a1 a2 _ _
  rintro H3 s3 ZK ZL z6 z7;refine aN (λN=>∀H4,(∀a o,H a=some o->H4 a=some o)->H4 d1=some (.dK (zK g.cs (ds.foldl (ie g.cs v) ns)))->∀z6 z7,N [~~~gp,~~~l,~~~dl,v⁻¹,~~~d1,~~~d2,z6,z7] H4) (λN hN=>?_) ?_
  ·dsimp?[];refine⟨⟨_,bC.of (s3 _ _ Ep)⟩,bJ (src_list (Ok:=λH'=>aw H H') (λH' s'=>bC.of (s' _ _ Ep))) (λi σ H4=>aw H H4/\H4 d1=some (.dK (zK g.cs ((ds.take i).foldl (ie g.cs v) ns)))/\H4 d2=some (.dK (zK g.cs (g.cs.map (·.2))))/\∃z6 z7,σ=[~~~gp,~~~l,~~~dl,v⁻¹,~~~d1,~~~d2,z6,z7]) ⟨s3,ZK,ZL,_,_,rfl⟩ (λ_ _ _ _ h=>h.1) ?_ ?_⟩
   ·intro i x σ H4 H5 hi eV eX;symm;obtain⟨s4,a1,a2,z6,z7,rfl⟩:=eV;obtain⟨rfl,ex⟩:=eX;obtain⟨dd,ed,Jq⟩:=zO.get ex;rw[aaf] at ed;obtain⟨d,FW,rfl⟩:=abg.mp ed;nofun;clear G_;obtain⟨cG,ZM⟩:=abh.mp FW;have Ab:=gd d (aan FW);have yI:((ds.take i).foldl (ie g.cs v) ns).length=g.cs.length:=(c9 _ _).trans ln;have nx:(ds.take (i+1)).foldl (ie g.cs v) ns=ie g.cs v ((ds.take i).foldl (ie g.cs v) ns) d:=by
     rw[take_snoc cG,ZM,List.foldl_append];rfl
    rw[nx];generalize (ds.take i).foldl (ie g.cs v) ns=cur at *;have up:∀{k:List (Key×V)} {a o},H a=some o->upd H5 d1 (.dK k) a=some o:=λ{k a o} h=>by
     rw[av (λz=>by rw[z,n1] at h;cases h)];exact s4 _ _ h
    have EM:∀{H':Hp} {n},H' d2=some (.dK (zK g.cs (g.cs.map (·.2))))->n∈g.cs.map (·.1)->iY H' d2 (.str n) (some (.int (most g.cs (bF g.cs n)))):=λ{H' n} h hn=>.inl ⟨_,Sum.inr n,.inl h,rfl,(sW (by rw[aad]) hn).symm⟩;have EN:∀{H':Hp} {n} {c:List Int},H' d1=some (.dK (zK g.cs c))->c.length=g.cs.length->n∈g.cs.map (·.1)->iY H' d1 (.str n) (some (.int (c.getD (bF g.cs n) 0))):=λ{H' n c} h l hn=>.inl ⟨_,Sum.inr n,.inl h,rfl,(sW l hn).symm⟩;have CF:∀{H':Hp} {n} {c:List Int} {k:V},H' d1=some (.dK (zK g.cs c))->c.length=g.cs.length->vY H' d1 (.str n) k (upd H' d1 (.dK (putK (zK g.cs c) (Sum.inr n) k))):=λ{H' n c k} h hc=>.inl ⟨_,Sum.inr n,h,rfl,by rw[xk hc];lia,rfl⟩;have fin:∀(n:Str) (k':Int) (z:Option V),n∈g.cs.map (·.1)->ie g.cs v cur d=cur.set (bF g.cs n) k'->aw H (upd H5 d1 (.dK (putK (zK g.cs cur) (Sum.inr n) (.int k'))))/\upd H5 d1 (.dK (putK (zK g.cs cur) (Sum.inr n) (.int k'))) d1=some (.dK (zK g.cs (ie g.cs v cur d)))/\upd H5 d1 (.dK (putK (zK g.cs cur) (Sum.inr n) (.int k'))) d2=some (.dK (zK g.cs (g.cs.map (·.2))))/\∃x,z=x:=λn k' z hn e=>⟨λa o h=>up h,by rw[ao,xj gg.nc yI hn,e],by rw[av (Ne.symm M0)];exact a2,_,rfl⟩
    have mn:∀a b:Int,(if b<a then b else a)=min a b:=λa b=>by split <;>lia
    simp only[gName,aaH,aaG];cases d with
    | set n k=>
     symm;obtain⟨q,v1,v2,v3,rfl,hq,r1,r2,r3⟩:=de.mp (show Rep H (.tup _) x from Jq);nofun;rw[aI.mp r1,aI.mp r2,bg.mp r3] at hq;have hq:=s4 _ _ hq;refine cH (λY N k=>by dsimp?[hq];exact k) ?_;dsimp?[sDPut,hq];refine⟨_,EM a2 Ab,_,rfl,_,CF a1 yI,?_⟩;rw[mn];exact fin n _ _ Ab rfl
    | plus n k=>
     symm;obtain⟨q,v1,v2,v3,rfl,hq,r1,r2,r3⟩:=de.mp (show Rep H (.tup _) x from Jq);nofun;rw[aI.mp r1,aI.mp r2,bg.mp r3] at hq;have hq:=s4 _ _ hq;refine bL (λY N k=>by dsimp?[hq];rw[if_neg ∅];exact k) ?_;refine cH (λY N k=>by dsimp?[hq];exact k) ?_;dsimp?[sDPut,hq];refine⟨_,EN a1 yI Ab,_,rfl,_,EM a2 Ab,_,rfl,_,CF a1 yI,?_⟩;rw[mn];exact fin n _ _ Ab rfl
    | face n=>
     symm;obtain⟨q,v1,v2,rfl,hq,r1,r2⟩:=bu.mp (show Rep H (.tup _) x from Jq);nofun;rw[aI.mp r1,aI.mp r2] at hq;have hq:=s4 _ _ hq;refine bL (λY N k=>by dsimp?[hq];rw[if_neg ∅];exact k) ?_;refine bL (λY N k=>by dsimp?[hq];rw[if_neg ∅];exact k) ?_;refine cH (λY N k=>by dsimp?[hq];exact k) ?_;dsimp?[sDPut,hq];refine⟨_,EN a1 yI Ab,_,rfl,_,EM a2 Ab,_,rfl,_,CF a1 yI,?_⟩;rw[mn];exact fin n _ _ Ab rfl
    | move n m=>
     symm;obtain⟨q,v1,v2,v3,rfl,hq,r1,r2,r3⟩:=de.mp (show Rep H (.tup _) x from Jq);nofun;rw[aI.mp r1,aI.mp r2,aI.mp r3] at hq;have wY:=s4 _ _ hq;refine bL (λY N k=>by dsimp?[wY];rw[if_neg ∅];exact k) ?_;refine bL (λY N k=>by dsimp?[wY];rw[if_neg ∅];exact k) ?_;refine bL (λY N k=>by dsimp?[wY];rw[if_neg ∅];exact k) ?_;dsimp?[sDPut,wY];refine⟨_,EN a1 yI Ab.2,_,EN a1 yI Ab.1,_,rfl,_,rfl,_,EM a2 Ab.2,_,rfl,_,CF a1 yI,?_⟩;rw[mn,xj gg.nc yI Ab.2];have tM:(cur.set (bF g.cs m) (min (cur.getD (bF g.cs m) 0+cur.getD (bF g.cs n) 0) (most g.cs (bF g.cs m)))).length=g.cs.length:=by rw[List.length_set];exact yI
     refine⟨_,up hq,_,at1,_,CF ao tM,λa o h=>?_,?_,?_,_,rfl⟩
     ·rw[av (λz=>by rw[z,n1] at h;cases h)];exact up h
     ·rw[ao,xj gg.nc tM Ab.1];rfl
     ·rw[av (Ne.symm M0),av (Ne.symm M0)];exact a2
   ·intro σ H4 dg;symm;obtain⟨s4,a1,a2,z6,z7,rfl⟩:=dg;nofun;rw[aau ⋯] at a1;exact hN _ s4 a1 _ _
  rintro H4 s4 ZN z6 z7;dsimp?[s4 _ _ qS];refine⟨⟨_,bC.of (s4 _ _ fY)⟩,?_⟩;have S:Src (vj K cl) (aw H4) u0.length _:=src_list (λH' s'=>bC.of (s' _ _ (s4 _ _ fY)));rw[<-len] at S;have fl:(ds.foldl (ie g.cs v) ns).length=g.cs.length:=(c9 _ _).trans ln;refine oK (K:=K) g.cs (λc=>some ((ds.foldl (ie g.cs v) ns).getD (bF g.cs c.1) 0)) S (λ_ _ _ _ h=>h.1) ⋯ ?_ ?_
  ·rintro i c y ec ⟨_,ey⟩;symm;obtain⟨d,ed,rd⟩:=pK.get ey;nofun;rw[aaf,ec] at ed;cases ed;symm;obtain⟨cq,b1,b2,rfl,EF,q1,q2⟩:=bu.mp (show Rep _ (.tup _) y from rd);obtain rfl:=aI.mp q1;nofun;refine⟨cq,_,_,rfl,iP.of (s4 _ _ EF),λY N y1 y2=>?_⟩;unfold pP;refine AO ?_;dsimp?[];have hc:c.1∈g.cs.map (·.1):=abi.mpr ⟨c,aan ec,rfl⟩;exact⟨_,.inl ⟨_,Sum.inr c.1,.inl ZN,rfl,(sW fl hc).symm⟩,y1 _ rfl⟩
  ·intro D R8 n2';refine kk D _ (aw.trans s4 (au R8)) (none_of s4 R8) ?_;rw[ao,List.filterMap_eq_map'];congr 3;exact Cp gg.nc fl
theorem fX:aS ["_law_game_here","_law_counts","_law_when","_law_number_here"] ["_law_game_here","_law_counts","_law_when"] (aq (top 55)):=.mk
theorem Jr (T:0|||0):(2<<<"_law_holds_when") ["_law_game_here","_law_counts","_law_when"] Gk:=by
 have dR:=xq T;refine T.ki.dF (λ_ _ _ _ _ _=>sE λ_ _ _=>rfl) λf fd F=>F.dZ fX (λvs H Q E h=>?_) (λbY A outer s H vs Q E hr h=>?_)
 ·obtain⟨_,_,_,rfl,_⟩:=FK h;rfl
 ·symm;obtain⟨gv,l,wv,rfl,g,rg,gg,ns,hl,ln,wh,rw,wk,kk⟩:=FK h;nofun;have nd:=fX.nd;refine⟨_,(ag (bc (aL Ay (pv 2) vy (aQ _)) (aj (aR ik))
   aW)
  (ag (aG (i:=3) (aK dR (aa (pv 0) (aa (pv 1) (aa (ar ai (pv 2) ae) af)))))
  (aj (aR (fo bo (fo xD (pv 3) (ar ai (pv 2) ae) (aQ _)) (fo bo (ar ai (pv 2) ae) aZ (aQ _)) (aQ _)))))),?_⟩
  refine(?_:let bQ:TS:=_;let bR:TS:=_;let bS:TS:=_;tSeq bQ (tSeq bR bS) _ _ _);intro bQ bR bS;have sl:=sizeLine_eq;cases wh with
  | none=>
   rw[FO,Rep] at rw;subst rw;dsimp?[];exact kk _ (aw.refl _)
  | some w=>
   symm;obtain⟨n,y,k⟩:=w;obtain⟨q,v1,v2,v3,rfl,hq,r1,r2,r3⟩:=de.mp (show Rep H (.tup _) wv from rw);obtain rfl:=aI.mp r1;obtain rfl:=aI.mp r2;obtain rfl:=bg.mp r3;nofun;dsimp?[yE,hq];rw[if_neg (by intro z;cases z)];refine⟨g,rg,gg,ns,hl,ln,wk.1,λH' s'=>⟨_,s' _ _ hq,_,at2,_,rfl,_,s' _ _ hq,_,at1,rfl,?_⟩⟩;have e:decide (decide (k<=ns.getD (bF g.cs n) 0)=decide (V.str y=V.str "from"))=iC g.cs ns (some (n,y,k)):=by
    refine Eq.trans ?_ (if_pos wk.1).symm
    by_cases e:y=aac "from"
    ·rw[if_pos e,e]
     by_cases z:k<=ns.getD (bF g.cs n) 0 <;>simp [z]
    ·rw[if_neg e]
     by_cases z:k<=ns.getD (bF g.cs n) 0
     ·simp [z,e,Int.not_lt.mpr z]
     ·simp [z,e,Int.lt_of_not_ge z]
   rw[e];exact kk _ s'
theorem kT:aS ["_law_game_here","_law_state","_law_what_here"] ["_law_game_here","_law_state"] (aq (top 56)):=.mk
theorem S2 {α:Type} {x y z u:α} {l:List α}:jS (x::y::z::u::l) 3=some u:=bM (j:=3) rfl
theorem mB {H:Hp}:∀rs:List Rw,a7 H (rs.map λr=>Dat.str r.word) (rs.map λr=>V.str r.word)
 | []=>bD.mpr rfl
 | _::rs=>aO.mpr ⟨_,_,rfl,aI.mpr rfl,mB rs⟩
theorem CG (T:0|||0):(3<<<"_law_open") ["_law_game_here","_law_state"] Cr:=by
 have cJ:=pE T;have qk:=Jo T;have kU:=Jr T;refine T.uJ.dF (λ_ _ _ _ _ _=>d4 λ_ _=>rfl) λf fd F=>F.dZ kT (λvs H Q E h=>?_) (λbY A outer s H vs Q E hr h=>?_)
 ·obtain⟨_,_,rfl,_⟩:=nu h;rfl
 ·symm;obtain⟨gv,sv,rfl,g,rg,gg,gs,st,nQ,ln,x,lk,wk,kk⟩:=nu h;nofun;have nd:=kT.nd;refine⟨_,(ag (aG (i:=2) (aK cJ (aa (pv 0) (aa (ar ai (pv 1) ae) af))))
  (ag (bc (aL bo (ar ai (pv 2) ae) aZ (aQ _)) (aj (aR (aK qk (aa (ar ai (pv 2) ae) af))))
   aW)
  (ag (bc (aL bo (ar ai (pv 2) ae) aZ (aQ _)) (aj (aR (cj rfl (N:=["_law_game_here","_law_state","_law_what_here"]) (so:=aq (top 56)) (N':=["_law_row","_law_game_here","_law_state"]) (k:=1) (fr:=[0,1]) rfl rfl ⟨rfl,∅,∅,∅,rfl,∅,∅⟩ (bh (K:=K) (ar ai (pv 2) ae)) (λ_ _ _ _ _=>(aV (i:=0) (show(["_law_row","_law_game_here","_law_state"]:List Str).Nodup by ac_rfl) rfl (.inl rfl))) (λ_ _ _ _ _=>(eA (gM (aK kU (aa (pv 1) (aa (ar ai (pv 2) ae) (aa (ar ai (pv 0) ae) af)))))))
   (λ_ _ _ _ _=>(ar ai (pv 0) ae)))))
   aW)
  (aj (aR (bT af)))))),?_⟩
  refine(?_:let bQ:TS:=_;let bR:TS:=_;let bS:TS:=_;let df:TS:=_;tSeq bQ (tSeq bR (tSeq bS df)) _ _ _);intro bQ bR bS df;have sl:=sizeLine_eq;symm;obtain⟨sa,cl,rfl,gS,fY⟩:=id nQ;nofun;refine aN (λN=>∀H1 v,aw H H1->Rep H1 (jd x) v->N [some gv,~~~sa,some v] H1) (λN hN=>?_) ?_
  ·dsimp?[mY,gS];exact⟨g,rg,gg,x,lk,λu H1 s1 ru=>hN _ u s1 (ru.mono s1)⟩
  rintro H1 v s1 rv;symm;obtain⟨q,vk,rfl,hq⟩:=jr rv;nofun;subst_vars
  by_cases ke:lg x=aac "throw"
  ·symm;obtain⟨cY,t,b,rs,rfl⟩:=mr ke;obtain⟨ps,rfl,gl,_⟩:=wk;nofun;refine aN (λ_=>True) (λN _=>?_) trivial;refine cH (λY N k=>by dsimp?[hq];rw[if_pos ke];exact k) ?_;symm;obtain⟨q',v1,v2,v3,v4,e0,gK,r1,r2,r3,r4⟩:=cS.mp (show Rep H1 (.tup _) (.ref q) from rv);nofun;cases e0;dsimp?[Gj,gK];exact⟨ps,r2,gl,λl H2 s2 nl hl=>kk l H2 _ (s1.trans s2) (none_of s1 nl) (aY.mpr ⟨l,_,rfl,hl,ints_rep _⟩) ⟨ps,rfl,gl,rfl⟩⟩
  refine aN (λN=>N [some gv,~~~sa,~~~q] H1) (λN hN=>?_) ?_
  ·refine bL (λY N k=>?_) hN;dsimp?[hq];rw[if_neg ke];exact k
  subst_vars
  by_cases kp:lg x=aac "pick"
  ·symm;obtain⟨vn,rs,rfl⟩:=sU kp;obtain⟨w4,_,wr⟩:=id wk;obtain⟨q',v1,v2,v3,e0,gK,r1,r2,r3⟩:=de.mp (show Rep H1 (.tup _) (.ref q) from rv);nofun;cases e0;rw[aI.mp r1,bg.mp r2] at gK;symm;obtain⟨rl,ys,rfl,mi,ry⟩:=aY.mp r3;nofun;refine aN (λ_=>True) (λN _=>?_) trivial;refine cH (λY N k=>by dsimp?[hq];rw[if_pos kp];exact k) ?_;dsimp?[gK,s1 _ _ gS];have pA:=ry.length;rw[aad,aad] at pA;have J0:rs.length<=100:=by have:=w4.1;lia
   refine⟨⟨_,bC.of mi⟩,gy (src_list (λH' s'=>bC.of (s' _ _ mi))) (λσ=>∃w0,σ=[w0,some gv,~~~sa]) ⟨_,rfl⟩ (λi zs _=>zs=((rs.take i).filter λr=>iC g.cs st.2 r.wh).map λr=>V.str r.word) rfl ⋯ ?_ ?_⟩
   ·rintro i y σ H2 zs H3 Q2 N2 hi s2 ez _ ⟨w0,rfl⟩ ⟨rfl,ey⟩ kq kn;subst ez;symm;obtain⟨r',p,_,b1,b2,b3,er,rfl,hp,SN,_⟩:=kz ry ey;nofun;obtain⟨ZO,ZP⟩:=abh.mp er;have tz:=s1.trans s2;have wo:=(wr r' (aan er)).2.1;have nx:rs.take (i+1)=rs.take i++ [r']:=by rw[take_snoc ZO,ZP]
    dsimp?[Gk,s2 _ _ hp,tz _ _ gS];refine⟨g,rg.mono tz,gg,st.2,tz _ _ fY,ln,_,SN.mono s2,wo,λH4 s4=>?_⟩
    by_cases hh:iC g.cs st.2 r'.wh=true
    ·rw[if_pos hh];exact⟨_,(s2.trans s4) _ _ hp,_,at0,kq _ _ _ ⟨_,rfl⟩ (s2.trans s4) (by rw[nx,List.filter_append,aak];simp [hh])⟩
    ·rw[if_neg hh];exact kn _ _ ⟨_,rfl⟩ (s2.trans s4) (by rw[nx,List.filter_append,aak];simp [hh])
   ·rintro zs H2 s2 ez _ D n1 n2;rw[pA.symm,aau (aag _)] at ez;subst ez;refine kk D _ _ (s1.trans (s2.trans (au n2))) (none_of s1 n1) (aY.mpr ⟨D,_,rfl,ao,?_⟩) rfl;exact mB _
  ·refine aN (λN=>N [some gv,~~~sa,~~~q] H1) (λN hN=>?_) ?_
   ·refine bL (λY N k=>?_) hN;dsimp?[hq];rw[if_neg kp];exact k
   dsimp?[];refine⟨aah _,λa na=>kk a _ [] (s1.trans (au na)) (none_of s1 na) (aY.mpr ⟨a,[],rfl,ao,bD.mpr rfl⟩) ?_⟩;cases x with
   | dM cY t b rs=>exact absurd rfl ke
   | pick w rs=>exact absurd rfl kp
   | ask c k a b=>rfl
   | fin t b=>rfl
   | score c=>rfl
theorem kW:aS ["_law_game_here","_law_state","_law_step","_law_what_here","_law_row"] ["_law_game_here","_law_state","_law_step"] (aq (top 57)):=.mk
theorem Js (T:0|||0):(3<<<"_law_gone") ["_law_game_here","_law_state","_law_step"] Gn:=by
 have cJ:=pE T;have eE:=CD T;have m3:=Jp T;refine T.uK.dF (λ_ _ _ _ _ _=>sE λ_ _ _=>rfl) λf fd F=>F.dZ kW (λvs H Q E h=>?_) (λbY A outer s H vs Q E hr h=>?_)
 ·obtain⟨_,_,_,rfl,_⟩:=yf h;rfl
 ·symm;obtain⟨gv,sv,dv,rfl,g,rg,gg,st,nQ,ln,d,Jq,w',py,fH,vo,kk⟩:=yf h;nofun;have nd:=kW.nd;refine⟨_,(ag (aG (i:=3) (aK cJ (aa (pv 0) (aa (ar ai (pv 1) ae) af))))
  (ag (bc (aL bo (ar ai (pv 3) ae) aZ (aQ _)) (ag (aG (i:=4) (ar aX (cj rfl (N:=["_law_game_here","_law_state","_law_step","_law_what_here","_law_row"]) (so:=aq (top 57)) (N':=["_law_row","_law_step"]) (k:=1) (fr:=[2]) rfl rfl ⟨rfl,∅,∅,∅,rfl,∅,∅⟩ (bh (K:=K) (ar ai (pv 3) ae)) (λ_ _ _ _ _=>(aV (i:=0) (show(["_law_row","_law_step"]:List Str).Nodup by ac_rfl) rfl (.inl rfl))) (λ_ _ _ _ _=>(eA (t6 xC xC (ar ai (pv 0) ae) (pv 1) (ar ai (pv 0) ae))))
   (λ_ _ _ _ _=>(pv 0))) ae))
  (aj (aR (aK eE (aa (pv 0) (aa (ar ai (pv 4) ae) (aa (aK m3 (aa (pv 0) (aa (ar ai (pv 1) ae) (aa (ar ai (pv 4) ae) (aa (pv 2) af))))) af)))))))
   aW)
  (ag (aG (i:=4) (ar aX (cj rfl (N:=["_law_game_here","_law_state","_law_step","_law_what_here","_law_row"]) (so:=aq (top 57)) (N':=["_law_row","_law_step"]) (k:=1) (fr:=[2]) rfl rfl ⟨rfl,∅,∅,∅,rfl,∅,∅⟩ (bh (K:=K) (ar ai (pv 3) ae)) (λ_ _ _ _ _=>(aV (i:=0) (show(["_law_row","_law_step"]:List Str).Nodup by ac_rfl) rfl (.inl rfl))) (λ_ _ _ _ _=>(eA (aL bo (ar ai (pv 0) ae) (pv 1) (aQ _))))
   (λ_ _ _ _ _=>(pv 0))) ae))
  (aj (aR (aK eE (aa (pv 0) (aa (ar ai (pv 4) ae) (aa (aK m3 (aa (pv 0) (aa (ar ai (pv 1) ae) (aa (ar ai (pv 4) ae) (aa ae af))))) af))))))))),?_⟩
  refine(?_:let bQ:TS:=_;let bR:TS:=_;let bS:TS:=_;let df:TS:=_;tSeq bQ (tSeq bR (tSeq bS df)) _ _ _);intro bQ bR bS df;have sl:=sizeLine_eq;symm;obtain⟨sa,cl,rfl,gS,fY⟩:=id nQ;nofun;rcases vo with ⟨vn,rs,r,lk,Gx,M3,rfl,rfl,e2,ak⟩ | ⟨ps,t,b,rs,r,v,lk,gl,hv,v0,v1,rfl,rfl,rfl,ro,e2,ak⟩
  ·obtain rfl:=aI.mp Jq;refine aN (λN=>∀H1 v,aw H H1->Rep H1 (jd (.pick vn rs)) v->N [some gv,~~~sa,some (.str w'),some v,none] H1) (λN hN=>?_) ?_
   ·dsimp?[mY,gS];exact⟨g,rg,gg,_,lk,λu H1 s1 ru=>hN _ u s1 (ru.mono s1)⟩
   rintro H1 v s1 rv;symm;obtain⟨q,v1,v2,v3,rfl,hq,r1,r2,r3⟩:=de.mp (show Rep H1 (.tup _) v from rv);rw[aI.mp r1,bg.mp r2] at hq;obtain⟨rl,ys,rfl,mi,ry⟩:=aY.mp r3;nofun;refine aN (λN=>N [some gv,~~~sa,some (.str w'),~~~q,none] H1) (λN hN=>?_) ?_
   ·refine bL (λY N k=>?_) hN;dsimp?[hq];rw[if_neg ∅];exact k
   have gx:=gg.wt _ (c7 lk);have kC:=aa9 M3;have M4:r.word=w':=by have:=List.find?_some M3;simpa using this
   have kC:r∈rs:=(List.mem_filter.mp kC).1;obtain⟨rest,er⟩:=yG Gx kC M4;obtain⟨Jt,CH⟩:=gx.2 r kC;have pA:=ry.length;rw[aad,aad] at pA;have J0:rs.length<=100:=gx.1;dsimp?[hq,yF,Cq];have zl:(ys.zip rs).length=ys.length:=by rw[List.length_zip];lia
   have S:Src (vj K rl) (aw H1) ys.length _:=src_list (λH' s'=>bC.of (s' _ _ mi));rw[<-zl] at S;refine⟨⟨_,bC.of mi⟩,eJ (ys.zip rs) (λy=>if decide (y.2.word=w')=true then some y.1 else none) S (λ_ _ _ _ h=>h.1) ⋯ ?_ ?_⟩
   ·rintro i ⟨y,r'⟩ z MI ⟨_,ez⟩ Y N3 y1 y2;obtain⟨e1,e2⟩:=List.getElem?_zip_eq_some.mp MI;rw[e1] at ez;cases ez;symm;obtain⟨r'',q',_,b1,b2,b3,F4,rfl,gK,_,_⟩:=kz ry e1;nofun;rw[e2] at F4;cases F4;dsimp?[gK]
    by_cases e:r'.word=w'
    ·rw[if_pos e];exact y1 _ (if_pos (decide_eq_true e))
    ·rw[if_neg e];exact y2 (if_neg (by simpa using e))
   ·intro D n1 n2;have rf:=gY (p:=λr=>decide (r.word=w')) ry;rw[er] at rf;symm;obtain⟨y,zs,S3,S4,_⟩:=aO.mp rf;nofun;rw[S3];symm;obtain⟨p,x1,x2,x3,x4,rfl,hp,q1,q2,q3,q4⟩:=cS.mp (show Rep H1 (.tup _) y from S4);obtain rfl:=aI.mp q4;nofun;have sD:=au (H:=H1) (o:=.lst (V.ref p::zs)) n2;have EO:=s1.trans sD;refine⟨_,ao,_,at0,p,rfl,_,sD _ _ hp,_,S2,_,EO _ _ gS,_,at1,p,rfl,_,sD _ _ hp,_,at2,cl,rfl,g,rg.mono EO,gg,st.2,EO _ _ fY,ln,r.ds,q3.mono sD,Jt,CH,λl' H3 s3 nl hl=>?_⟩;have iV:=EO.trans s3;rw[<-e2] at hl;exact⟨r.to,rfl,g,rg.mono iV,gg,fH.2,hl,by rw[e2];exact(c9 _ _).trans ln,3,fH.1,ak,λa l2 H4 s4 na S5 ea el=>kk a l2 H4 (iV.trans s4) (none_of iV na) (none_of iV S5) ea el⟩
  ·obtain rfl:=bg.mp Jq;refine aN (λN=>∀H1 u,aw H H1->Rep H1 (jd (.dM (ps.map lZ) t b rs)) u->N [some gv,~~~sa,v⁻¹,some u,none] H1) (λN hN=>?_) ?_
   ·dsimp?[mY,gS];exact⟨g,rg,gg,_,lk,λu H1 s1 ru=>hN _ u s1 (ru.mono s1)⟩
   rintro H1 u s1 rv;symm;obtain⟨q,v1,v2,v3,v4,rfl,hq,r1,r2,r3,r4⟩:=cS.mp (show Rep H1 (.tup _) u from rv);rw[aI.mp r1] at hq;obtain⟨rl,ys,rfl,mi,ry⟩:=aY.mp r4;nofun;refine aN (λ_=>True) (λN _=>?_) trivial;refine cH (λY N k=>by dsimp?[hq];exact k) ?_;symm;obtain⟨g0,g1,g2⟩:=gg.wt _ (c7 lk);have hd:(rs.filter λr=>decide (r.1<=v) && decide (v<=r.2.1)).head?=some r:=by rw[List.head?_filter];exact ro
   obtain⟨rest,er⟩:∃rest,(rs.filter λr=>decide (r.1<=v) && decide (v<=r.2.1))=r::rest:=by
    cases h:rs.filter λr=>decide (r.1<=v) && decide (v<=r.2.1) with
    | nil=>rw[h] at hd;cases hd
    | cons a l=>rw[h] at hd;cases hd;exact⟨l,rfl⟩
   have kC:r∈rs:=aa9 ro;obtain⟨Jt,CH⟩:=g2 r kC;nofun;have pA:=ry.length;rw[aad,aad] at pA;dsimp?[hq,yF,Cq];have zl:(ys.zip rs).length=ys.length:=by rw[List.length_zip];lia
   have S:Src (vj K rl) (aw H1) ys.length _:=src_list (λH' s'=>bC.of (s' _ _ mi));rw[<-zl] at S;refine⟨_,S2,rl,rfl,⟨_,bC.of mi⟩,eJ (ys.zip rs) (λx=>if (decide (x.2.1<=v) && decide (v<=x.2.2.1))=true then some x.1 else none) S (λ_ _ _ _ h=>h.1) ⋯ ?_ ?_⟩
   ·rintro i ⟨y,r'⟩ z MI ⟨_,ez⟩ Y N3 y1 y2;obtain⟨e1,e2⟩:=List.getElem?_zip_eq_some.mp MI;rw[e1] at ez;cases ez;symm;obtain⟨dd,ed,rd⟩:=ry.get e1;nofun;rw[aaf,aaf,e2] at ed;cases ed;symm;obtain⟨p',a',b',c',d',rfl,pQ,q1,q2,q3,q4⟩:=cS.mp (show Rep H1 (.tup _) y from rd);nofun;rw[show a'=.int r'.1 from bg.mp q1,show b'=.int r'.2.1 from bg.mp q2] at pQ;dsimp?[pQ]
    by_cases c1:r'.1<=v
    ·rw[if_pos c1]
     by_cases c2:v<=r'.2.1
     ·rw[if_pos c2];exact y1 _ (if_pos (by simp [c1,c2]))
     ·rw[if_neg c2];exact y2 (if_neg (by simp [c2]))
    ·rw[if_neg c1,if_neg ∅];exact y2 (if_neg (by simp [c1]))
   ·intro D n1 n2;have rf:=mf (p:=λr=>decide (r.1<=v) && decide (v<=r.2.1)) ry;rw[er] at rf;symm;obtain⟨y,zs,S3,S4,_⟩:=aO.mp rf;nofun;rw[S3];symm;obtain⟨p,x1,x2,x3,x4,rfl,hp,q1,q2,q3,q4⟩:=cS.mp (show Rep H1 (.tup _) y from S4);obtain rfl:=aI.mp q4;nofun;have sD:=au (H:=H1) (o:=.lst (V.ref p::zs)) n2;have EO:=s1.trans sD;refine⟨_,ao,_,at0,p,rfl,_,sD _ _ hp,_,S2,_,EO _ _ gS,_,at1,p,rfl,_,sD _ _ hp,_,at2,cl,rfl,g,rg.mono EO,gg,st.2,EO _ _ fY,ln,r.2.2.1,q3.mono sD,Jt,CH,λl' H3 s3 nl hl=>?_⟩;have iV:=EO.trans s3;rw[<-e2] at hl;exact⟨r.2.2.2,rfl,g,rg.mono iV,gg,fH.2,hl,by rw[e2];exact(c9 _ _).trans ln,3,fH.1,ak,λa l2 H4 s4 na S5 ea el=>kk a l2 H4 (iV.trans s4) (none_of iV na) (none_of iV S5) ea el⟩
theorem kX:aS ["_law_game_here","_law_state","_law_what_here"] ["_law_game_here","_law_state"] (aq (top 58)):=.mk
theorem Ju (T:0|||0):(2<<<"_law_paid") ["_law_game_here","_law_state"] Gp:=by
 have cJ:=pE T;refine T.uL.dF (λ_ _ _ _ _ _=>d4 λ_ _=>rfl) λf fd F=>F.dZ kX (λvs H Q E h=>?_) (λbY A outer s H vs Q E hr h=>?_)
 ·obtain⟨_,_,rfl,_⟩:=nu h;rfl
 ·symm;obtain⟨gv,sv,rfl,g,rg,gg,st,nQ,x,lk,kk⟩:=nu h;nofun;have nd:=kX.nd;refine⟨_,(ag (aG (i:=2) (aK cJ (aa (pv 0) (aa (ar ai (pv 1) ae) af))))
  (ag (bc (aL bo (ar ai (pv 2) ae) aZ (aQ _)) (aj (aR (ar ai (pv 2) ae)))
   aW)
  (aj (aR (a6 (aa ae (aa ae af))))))),?_⟩
  refine(?_:let bQ:TS:=_;let bR:TS:=_;let bS:TS:=_;tSeq bQ (tSeq bR bS) _ _ _);intro bQ bR bS;have sl:=sizeLine_eq;symm;obtain⟨sa,cl,rfl,gS,fY⟩:=id nQ;nofun;dsimp?[mY,gS];refine⟨g,rg,gg,x,lk,λu H1 s1 ru=>?_⟩;symm;obtain⟨q,vk,rfl,hq⟩:=jr ru;nofun;refine⟨q,rfl,_,s1 _ _ hq,_,at0,rfl,?_⟩
  by_cases ek:lg x=aac "throw"
  ·symm;obtain⟨cY,t,b,rs,rfl⟩:=mr ek;nofun;rw[if_pos (congrArg V.str ek)];symm;obtain⟨q',v1,v2,v3,v4,e0,gK,r1,r2,r3,r4⟩:=cS.mp (show Rep H (.tup _) (.ref q) from ru);nofun;cases e0;exact⟨q,rfl,_,s1 _ _ gK,_,at2,kk _ _ s1 (r3.mono s1)⟩
  ·rw[if_neg (λz=>ek (by injection z))];refine⟨⋯,λp H2 s2 n2 e2=>kk _ _ (s1.trans s2) ?_⟩;have e:Ja x=(0,1):=by
    cases x with
    | dM cY t b rs=>exact absurd rfl ek
    | ask c k a b=>rfl
    | fin t b=>rfl
    | score c=>rfl
    | pick w rs=>rfl
   rw[e];exact b9.mpr ⟨p,rfl,e2⟩
theorem iN:aS ["_law_game_here","_law_state","_law_got","_law_what_here"] ["_law_game_here","_law_state","_law_got"] (aq (top 59)):=.mk
theorem Jv (T:0|||0):(3<<<"_law_points") ["_law_game_here","_law_state","_law_got"] Gq:=by
 have cJ:=pE T;have dR:=xq T;have gj:=Cs T;refine T.p9.dF (λ_ _ _ _ _ _=>sE λ_ _ _=>rfl) λf fd F=>F.dZ iN (λvs H Q E h=>?_) (λbY A outer s H vs Q E hr h=>?_)
 ·obtain⟨_,_,_,rfl,_⟩:=yf h;rfl
 ·symm;obtain⟨gv,sv,qT,rfl,g,rg,gg,st,nQ,ln,pd,x,lk,CI,zV,hw,kk⟩:=yf h;nofun;have nd:=iN.nd;refine⟨_,(ag (aG (i:=3) (aK cJ (aa (pv 0) (aa (ar ai (pv 1) ae) af))))
  (ag (bc (aL bo (ar ai (pv 3) ae) aZ (aQ _)) (aj (aR (aK gj (aa (pv 2) (aa (ar ai (pv 3) ae) af)))))
   aW)
  (ag (bc (aL bo (ar ai (pv 3) ae) aZ (aQ _)) (aj (aR (aK gj (aa (pv 2) (aa (a6 (aa (aK dR (aa (pv 0) (aa (ar ai (pv 1) ae) (aa (ar ai (pv 3) ae) af)))) (aa ae af))) af)))))
   aW)
  (aj (aR (pv 2)))))),?_⟩
  refine(?_:let bQ:TS:=_;let bR:TS:=_;let bS:TS:=_;let df:TS:=_;tSeq bQ (tSeq bR (tSeq bS df)) _ _ _);intro bQ bR bS df;have sl:=sizeLine_eq;symm;obtain⟨sa,cl,rfl,gS,fY⟩:=id nQ;nofun;refine aN (λN=>∀H1 v,aw H H1->Rep H1 (jd x) v->N [some gv,~~~sa,some qT,some v] H1) (λN hN=>?_) ?_
  ·dsimp?[mY,gS];exact⟨g,rg,gg,x,lk,λu H1 s1 ru=>hN _ u s1 (ru.mono s1)⟩
  rintro H1 v s1 rv;symm;obtain⟨q,vk,rfl,hq⟩:=jr rv;nofun
  by_cases ke:lg x=aac "end"
  ·symm;obtain⟨t,b,rfl⟩:=IH ke;obtain⟨q',v1,v2,e0,gK,r1,r2⟩:=bu.mp (show Rep H1 (.tup _) (.ref q) from rv);nofun;cases e0;rw[aI.mp r1] at gK;dsimp?[gK,pq];exact⟨pd,CI.mono s1,(t,b),r2,zV,hw _ rfl,λr H2 s2 n2 e2=>kk _ _ (s1.trans s2) (b9.mpr ⟨r,rfl,e2⟩)⟩
  ·subst_vars;refine aN (λN=>N [some gv,~~~sa,some qT,~~~q] H1) (λN hN=>?_) ?_
   ·refine bL (λY N k=>?_) hN;dsimp?[hq];rw[if_neg ke];exact k
   by_cases ks:lg x=aac "score"
   ·obtain⟨c,rfl⟩:=B2 ks;symm;obtain⟨q',v1,v2,e0,gK,r1,r2⟩:=bu.mp (show Rep H1 (.tup _) (.ref q) from rv);nofun;cases e0;rw[aI.mp r1,aI.mp r2] at gK;have hc:c∈g.cs.map (·.1):=gg.wt _ (c7 lk);dsimp?[gK,pq,yE,s1 _ _ gS];exact⟨g,rg.mono s1,gg,st.2,s1 _ _ fY,ln,hc,λH2 s2=>⟨⋯,λp H3 s3 np ep=>⟨pd,CI.mono (s1.trans (s2.trans s3)),(st.2.getD (bF g.cs c) 0,1),b9.mpr ⟨p,rfl,ep⟩,zV,hw _ rfl,λr H4 s4 n4 e4=>kk _ _ (s1.trans (s2.trans (s3.trans s4))) (b9.mpr ⟨r,rfl,e4⟩)⟩⟩⟩
   ·subst_vars;refine aN (λN=>N [some gv,~~~sa,some qT,~~~q] H1) (λN hN=>?_) ?_
    ·refine bL (λY N k=>?_) hN;dsimp?[hq];rw[if_neg ks];exact k
    have e:w6 g st pd x=pd:=by
     cases x with
     | fin t b=>exact absurd rfl ke
     | score c=>exact absurd rfl ks
     | dM cY t b rs=>rfl
     | ask c k a b=>rfl
     | pick w rs=>rfl
    dsimp?[];exact kk _ _ s1 (by rw[e];exact CI.mono s1)
theorem CJ {g:Gm} {st:iD} {x:Wt} {ds es:List Dat} (h:F9 g st x ds) (k:F9 g st x es):ds=es:=by
 cases x with
 | dM cY t b rs=>
  obtain⟨ps,e1,_,e2⟩:=h;obtain⟨qs,e3,_,e4⟩:=k;rw[e1] at e3;rw[e2,e4,nP e3]
 | ask c k' a b=>exact(show ds=_ from h).trans (show es=_ from k).symm
 | fin t b=>exact(show ds=_ from h).trans (show es=_ from k).symm
 | score c=>exact(show ds=_ from h).trans (show es=_ from k).symm
 | pick w rs=>exact(show ds=_ from h).trans (show es=_ from k).symm
theorem Jw {g:Gm} {gs:List Str} {st:iD} {x:Wt} (h:jN g.cs gs x):∃ds,F9 g st x ds/\∀d∈ds,depth d=0:=by
 have other:∀{rs:List Rw},∀d∈rs.map (λr=>Dat.str r.word),depth d=0:=λ{rs} d hd=>by
  obtain⟨r,_,rfl⟩:=abi.mp hd;rfl
 cases x with
 | dM cY t b rs=>
  obtain⟨ps,e,gl,_⟩:=h;refine⟨_,⟨ps,e,gl,rfl⟩,λd hd=>?_⟩;obtain⟨i,_,rfl⟩:=abi.mp hd;rfl
 | ask c k a b=>exact⟨_,rfl,other⟩
 | fin t b=>exact⟨_,rfl,other⟩
 | score c=>exact⟨_,rfl,other⟩
 | pick w rs=>exact⟨_,rfl,other⟩
theorem Jx {g:Gm} {gs:List Str} {st:iD} (sk:zW g gs st) {x:Wt} (wx:jN g.cs gs x):∀w,wM g.cs st.2 x=some w->kD 500000 w:=λw e=>by
 cases x with
 | fin t b=>
  obtain⟨rfl,h1,h2⟩:=wx;cases e;exact iU _ ⋯ ⋯
 | score c=>
  cases e;have hl:bF g.cs c<st.2.length:=by rw[sk.len];exact fz wx
  have:=sk.nn _ (aaI hl);rw[tj hl];exact iU _ ⋯ ⋯
 | ask c k a b=>cases e
 | pick w rs=>cases e
 | dM p t b rs=>cases e
theorem tF {cs:List (Str×Int)} {ns:List Int} {i:Nat} {k:Int} (m:∀c∈cs,0<=c.2/\c.2<=1000) (h:∀n∈ns,0<=n/\n<=1000) (k0:0<=k):∀n∈sM cs ns i k,0<=n/\n<=1000:=λn hn=>by
 unfold sM at hn;rcases List.mem_or_eq_of_mem_set hn with hn | rfl
 ·exact h n hn
 ·have:0<=most cs i/\most cs i<=1000:=by
   unfold most;rw[aaC,aaf];cases e:cs[i]? with
   | none=>exact⟨Int.le_refl _,∅⟩
   | some c=>exact m c (aan e)
  lia
theorem nY {ns:List Int} {i:Nat} (h:∀n∈ns,0<=n/\n<=1000):0<=ns.getD i 0:=by
 rw[aaC];cases e:ns[i]? with
 | none=>exact Int.le_refl _
 | some n=>exact(h n (aan e)).1
theorem CK {cs:List (Str×Int)} {v:Int} (m:∀c∈cs,0<=c.2/\c.2<=1000) (v0:0<=v):∀(ds:List Dd) (ns:List Int),(∀d∈ds,Am d)->(∀n∈ns,0<=n/\n<=1000)->∀n∈ds.foldl (ie cs v) ns,0<=n/\n<=1000
 | [],_,_,h=>h
 | d::ds,ns,g,h=>by
  refine CK m v0 ds _ (λe he=>g e (aam _ he)) ?_;have gd:=g d aas;cases d with
  | set n k=>exact tF m h gd
  | plus n k=>exact tF m h (Int.add_nonneg (nY h) gd)
  | face n=>exact tF m h (Int.add_nonneg (nY h) v0)
  | move a b=>
   intro n hn;rcases List.mem_or_eq_of_mem_set hn with hn | rfl
   ·exact tF m h (Int.add_nonneg (nY h) (nY h)) n hn
   ·exact⟨Int.le_refl _,∅⟩
theorem M5 {v:Int} (v0:0<=v) (v1:v<=1000):Kj (aac (toString v)):=by
 have h:∀n∈List.range 1001,(0< (aac (toString (n:Int))).length/\(aac (toString (n:Int))).length<=20)/\f6 (.str (aac (toString (n:Int))))=true:=∅
 have e:v=((v.toNat:Nat):Int):=⋯
 have:=h v.toNat (List.mem_range.mpr ⋯);rw[<-e] at this;exact⟨this.1.1,this.1.2,this.2⟩
theorem ER {g:Gm} {gs:List Str} {st:iD} {x:Wt} {ds:List Dat} {d:Dat} (gm:MJ g gs) (sk:zW g gs st) (lk:look g.ps st.1=some x) (wx:jN g.cs gs x) (od:F9 g st x ds) (hd:d∈ds):∃w py fH,Cb g st d w py fH/\zW g gs fH/\kD 20 py/\Kj w:=by
 have CA:∀{rs:List Rw},rs=[]->d∈rs.map (λr=>Dat.str r.word)->False:=λe h=>by rw[e] at h;cases h
 cases x with
 | dM cY t b rs=>
  obtain⟨ps,rfl,gl,rfl⟩:=od;obtain⟨So,e,_,B8,hv,hr⟩:=wx;have e:=nP e;subst e;obtain⟨v,WL,rfl⟩:=abi.mp hd;obtain⟨v0,v1,r,ro⟩:=hv v WL;have rm:r∈rs:=aa9 ro;obtain⟨to,gd⟩:=hr r rm;obtain⟨fh,x',ak,jn,S6⟩:=gm.to _ to (r.2.2.1.foldl (ie g.cs v) st.2);exact⟨_,(t,b),(fh,r.2.2.1.foldl (ie g.cs v) st.2),.inr ⟨ps,t,b,rs,r,v,lk,gl,WL,v0,v1,rfl,rfl,rfl,ro,rfl,ak⟩,⟨(c9 _ _).trans sk.len,CK gm.most v0 _ _ gd sk.nn,x',jn,S6⟩,B8,M5 v0 v1⟩
 | pick vn rs=>
  obtain⟨_,nd,hr⟩:=wx;rw[show ds=_ from od] at hd;obtain⟨r,WM,rfl⟩:=abi.mp hd;obtain⟨r',fd⟩:∃r',(eC g.cs st.2 (.pick vn rs)).find? (λx=>decide (x.word=r.word))=some r':=by
   cases h:(eC g.cs st.2 (.pick vn rs)).find? (λx=>decide (x.word=r.word)) with
   | some r'=>exact⟨r',rfl⟩
   | none=>exact absurd (List.find?_eq_none.mp h r WM) (by simp)
  have rm:r'∈rs:=(List.mem_filter.mp (aa9 fd)).1;obtain⟨_,_,to,gd⟩:=hr r' rm;obtain⟨wd,_⟩:=hr r (List.mem_filter.mp WM).1;obtain⟨fh,x',ak,jn,S6⟩:=gm.to _ to (r'.ds.foldl (ie g.cs 0) st.2);exact⟨_,(0,1),(fh,r'.ds.foldl (ie g.cs 0) st.2),.inl ⟨vn,rs,r',lk,nd,fd,rfl,rfl,rfl,ak⟩,⟨(c9 _ _).trans sk.len,CK gm.most (Int.le_refl _) _ _ gd sk.nn,x',jn,S6⟩,iU 0 ∅ ∅,wd.1,aao wd.2.1 ∅,wd.2.2.1⟩
 | ask c k a b=>exact wx.elim
 | fin t b=>rw[show ds=_ from od] at hd;exact(CA rfl hd).elim
 | score c=>rw[show ds=_ from od] at hd;exact(CA rfl hd).elim
theorem pG {H:Hp}:∀{rs:List Rw} {vs:List V},a7 H (rs.map λr=>Dat.str r.word) vs->vs=rs.map λr=>V.str r.word
 | [],_,h=>bD.mp h
 | _::_,_,h=>by
  obtain⟨v,r,rfl,a,b⟩:=aO.mp h;rw[aI.mp a,pG b];rfl
theorem ES {H:Hp} {g:Gm} {st:iD} {x:Wt} {ds:List Dat} {ic:List V} (od:F9 g st x ds) (r:a7 H ds ic) (H':Hp):a7 H' ds ic:=by
 have Ql:∀{rs:List Rw},ds=rs.map (λr=>Dat.str r.word)->a7 H' ds ic:=λ{rs} e=>by
  subst e;obtain rfl:=pG r;exact mB _
 cases x with
 | dM cY t b rs=>
  obtain⟨ps,rfl,gl,rfl⟩:=od;obtain rfl:=mq r;exact ints_rep _
 | ask c k a b=>exact Ql od
 | fin t b=>exact Ql od
 | score c=>exact Ql od
 | pick w rs=>exact Ql od
abbrev jT (L:List Addr) (H:Hp):Hp:=λa=>match H a with
 | some (.tup vs)=>some (.tup vs)
 | some (.lst ys)=>if a∈L then some (.lst ys) else none
 | _=>none
theorem yK {L:List Addr} {H:Hp} {a:Addr} {vs:List V} (h:H a=some (.tup vs)):jT L H a=some (.tup vs):=by unfold jT;rw[h]
theorem yL {L:List Addr} {H:Hp} {a:Addr} {ys:List V} (h:H a=some (.lst ys)) (m:a∈L):jT L H a=some (.lst ys):=by unfold jT;rw[h];exact if_pos m
set_option tactic.hygienic true in
theorem eF {L:List Addr} {H:Hp} {a:Addr} {o:HO} (h:jT L H a=some o):H a=some o/\((∃vs,o=.tup vs)\/∃ys,o=.lst ys/\a∈L):=by
 unfold jT at h
 split at h
 ·rename_i e;cases h;exact⟨e,.inl ⟨_,rfl⟩⟩
 ·rename_i e
  split at h
  ·rename_i m;cases h;exact⟨e,.inr ⟨_,rfl,m⟩⟩
  ·cases h
 ·cases h
theorem ET {L:List Addr} {H:Hp}:aw (jT L H) H:=λ_ _ h=>(eF h).1
theorem gI {L L':List Addr} {H H':Hp} (l:∀a∈L,a∈L') (k:∀a o,H a=some o->(∃vs,o=.tup vs)\/a∈L->H' a=some o):aw (jT L H) (jT L' H'):=λa o h=>by
 obtain⟨e,⟨vs,rfl⟩ | ⟨ys,rfl,m⟩⟩:=eF h
 ·exact yK (k _ _ e (.inl ⟨_,rfl⟩))
 ·exact yL (k _ _ e (.inr m)) (l a m)
mutual
theorem CL {H:Hp}:∀{d:Dat} {v:V},Rep H d v->∃L:List Addr,(∀a∈L,∃ys,H a=some (.lst ys))/\Rep (jT L H) d v
 | .cU,_,h=>⟨[],(λa ha=>by cases ha),by rw[Rep] at *;exact h⟩
 | .bl _,_,h=>⟨[],(λa ha=>by cases ha),by rw[Rep] at *;exact h⟩
 | .int _,_,h=>⟨[],(λa ha=>by cases ha),by rw[Rep] at *;exact h⟩
 | .str _,_,h=>⟨[],(λa ha=>by cases ha),by rw[Rep] at *;exact h⟩
 | .tup _,_,h=>by
  obtain⟨p,vs,e,hp,r⟩:=dU.mp h;obtain⟨L,h1,h2⟩:=tG r;exact⟨L,h1,dU.mpr ⟨p,vs,e,yK hp,h2⟩⟩
 | .lst _,_,h=>by
  obtain⟨p,vs,e,hp,r⟩:=aY.mp h;obtain⟨L,h1,h2⟩:=tG r;refine⟨p::L,λa ha=>?_,aY.mpr ⟨p,vs,e,yL hp aas,a7.mono (gI (λa ha=>aam _ ha) λ_ _ z _=>z) h2⟩⟩;rcases aaB.mp ha with rfl | ha
  ·exact⟨_,hp⟩
  ·exact h1 a ha
theorem tG {H:Hp}:∀{ds:List Dat} {vs:List V},a7 H ds vs->∃L:List Addr,(∀a∈L,∃ys,H a=some (.lst ys))/\a7 (jT L H) ds vs
 | [],_,h=>⟨[],(λa ha=>by cases ha),by rw[a7] at *;exact h⟩
 | _::_,_,h=>by
  obtain⟨v,r,e,h1,h2⟩:=aO.mp h;obtain⟨L1,a1,a2⟩:=CL h1;obtain⟨L2,b1,b2⟩:=tG h2;refine⟨L1++L2,λa ha=>?_,aO.mpr ⟨v,r,e,Rep.mono (gI (λa ha=>aa1 _ ha) λ_ _ z _=>z) a2,a7.mono (gI (λa ha=>aaD _ ha) λ_ _ z _=>z) b2⟩⟩;rcases List.mem_append.mp ha with ha | ha
  ·exact a1 a ha
  ·exact b1 a ha
end
abbrev vq (L:List Addr) (H H':Hp):Prop:=(∀a o,a∉L->H a=some o->H' a=some o)/\∀a∈L,H' a=H a\/H' a=some (.lst [])
theorem vq.refl {L:List Addr} {H:Hp}:vq L H H:=⟨λ_ _ _ h=>h,λ_ _=>.inl rfl⟩
theorem vq.clear {L:List Addr} {H H':Hp} {a:Addr} (s:vq L H H') (m:a∈L):vq L H (upd H' a (.lst [])):=⟨λb o nb h=>by rw[av (λz=>nb (by rw[z];exact m))];exact s.1 b o nb h,λb hb=>by
 by_cases z:b=a
 ·exact .inr (by rw[z,ao])
 ·rw[av z];exact s.2 b hb⟩
theorem vq.lst {L:List Addr} {H H':Hp} {a:Addr} {ys:List V} (s:vq L H H') (m:a∈L) (h:H a=some (.lst ys)):∃zs,H' a=some (.lst zs)/\(zs=ys\/zs=[]):=by
 rcases s.2 a m with e | e
 ·exact⟨ys,e.trans h,.inl rfl⟩
 ·exact⟨[],e,.inr rfl⟩
theorem vq.up {L:List Addr} {H H' fG:Hp} (hL:∀a∈L,∃ys,H a=some (.lst ys)) (s:vq L H H') (k:aw H' fG):vq L H fG:=⟨λa o n h=>k _ _ (s.1 a o n h),λa ha=>by
 obtain⟨ys,e⟩:=hL a ha;rcases s.2 a ha with h | h
 ·rw[e] at h ⊢;exact .inl (k _ _ h)
 ·exact .inr (k _ _ h)⟩
theorem vg {X:Hp} {d:Dd} {v:V} (h:Rep X (qO d) v):∃q vs,v=.ref q/\X q=some (.tup vs)/\vs.length≠4/\∀a q',vs≠[a,.ref q']:=by
 cases d with
 | set n k=>obtain⟨q,x,y,z,e,hq,_⟩:=de.mp (show Rep X (.tup _) v from h);exact⟨q,_,e,hq,(show(3:Nat)≠4 by decide),λa q' z=>by cases z⟩
 | plus n k=>obtain⟨q,x,y,z,e,hq,_⟩:=de.mp (show Rep X (.tup _) v from h);exact⟨q,_,e,hq,(show(3:Nat)≠4 by decide),λa q' z=>by cases z⟩
 | face n=>obtain⟨q,x,y,e,hq,_,b⟩:=bu.mp (show Rep X (.tup _) v from h);obtain rfl:=aI.mp b;exact⟨q,_,e,hq,(show(2:Nat)≠4 by decide),λa q' z=>by cases z⟩
 | move n m=>obtain⟨q,x,y,z,e,hq,_⟩:=de.mp (show Rep X (.tup _) v from h);exact⟨q,_,e,hq,(show(3:Nat)≠4 by decide),λa q' z=>by cases z⟩
theorem CM {X:Hp} {p:Pt} {v:V} (h:Rep X (lZ p) v):∃q vs,v=.ref q/\X q=some (.tup vs)/\∀a q',vs≠[a,.ref q']:=by
 obtain⟨q,e,hq⟩:=yu h;refine⟨q,_,e,hq,λa q' z=>?_⟩;cases p <;>cases z
abbrev Kv:Nat->Dat->Prop
 | _+1,.int _=>True
 | _+1,.str _=>True
 | m+1,.tup ds=>ds.length<=1000/\∀d∈ds,Kv m d
 | m+1,.lst ds=>ds.length<=1000/\∀d∈ds,Kv m d
 | _,_=>False
theorem yM {tc:TT} {a b:TS} {D:Ends} {σ:L2.St} {H:Hp} (C:Hp->Prop) (h2:∀H',C H'->b D σ H') (ht:∀N:Hp->Prop,(∀H',C H'->N H')->∀Y:Hp->Prop,tc σ H λv H'=>if v=true then Y H' else N H'):tIfS tc a b D σ H:=oM (λ_=>False) C (λ_ f=>f.elim) h2 λY N _ hN=>ht N hN Y
theorem Jy {K:aba}:PySem.W.kitOne K (.type "int") (.type "list")=some false:=f7
theorem Jz {K:aba}:PySem.W.kitOne K (.type "int") (.type "tuple")=some false:=f7
theorem JA {K:aba}:PySem.W.kitOne K (.type "str") (.type "list")=some false:=f7
theorem JB {K:aba}:PySem.W.kitOne K (.type "str") (.type "tuple")=some false:=f7
theorem CN {K:aba}:PySem.W.kitOne K (.type "tuple") (.type "list")=some false:=f7
theorem JC {K:aba}:PySem.W.kitOne K (.type "list") (.type "tuple")=some false:=f7
theorem CO {K:aba}:PySem.W.kitOne K (.type "int") (.type "str")=some false:=f7
abbrev ql:List Value:=[.type "list",.type "tuple"]
theorem xr:([V.ty "list",V.ty "tuple"]).mapM Lp=some ql:=rfl
theorem M6 {K:aba}:PySem.W.kitAny K (.type "int") ql=some false:=by unfold ql;simp only[PySem.W.kitAny,Jy,Jz]
theorem M7 {K:aba}:PySem.W.kitAny K (.type "str") ql=some false:=by unfold ql;simp only[PySem.W.kitAny,JA,JB]
theorem M8 {K:aba}:PySem.W.kitAny K (.type "list") ql=some true:=by unfold ql;simp only[PySem.W.kitAny,AV]
theorem M9 {K:aba}:PySem.W.kitAny K (.type "tuple") ql=some true:=by unfold ql;simp only[PySem.W.kitAny,CN,AU]
abbrev xt (m:Nat):Sp:=λvs H Q _=>dH vs λu v=>∃d,Kv m d/\Rep H d u/\Rep H d v/\∀H',aw H H'->Q (.bl true) H'
abbrev CP (qP qC:Addr):Sp:=λvs H Q _=>∃(p:Addr) (gv sv pv:V) (sl:Addr) (first:Int) (tl tb:Addr) (L:List Addr) (g:Gm) (gs:List Str) (st:iD) (pd:Int×Int) (tr:List tO),vs=[.ref p,gv,sv,pv,.ref sl,.int first]/\0<=first/\first<8/\di qP qC L H p tl tb g st pd tr/\Rep (bG L H) (nE g) gv/\MJ g gs/\zW g gs st/\mP (bG L H) sv st.1 st.2/\Rep (bG L H) (dq pd) pv/\kD 10000 pd/\tr.length<=200/\(∀e∈tr,Kj e.1)/\H sl=some (.lst ((tr.map (·.1)).map V.str))/\∀H',K3 p tl tb H H'->di qP qC L H' p tl tb g st pd tr->Q (.bl true) H'
abbrev GB:Sp:=λvs H Q _=>eS vs λgv=>∃(H0:Hp) (L:List Addr) (g:Gm),(∀a∈L,∃ys,H0 a=some (.lst ys))/\Rep (jT L H0) (nE g) gv/\GoodG g/\(∀p∈g.ps,FZ p.2)/\∃gp cv pl,gv=.ref gp/\H0 gp=some (.tup [cv,.ref pl])/\vq L H0 H/\H pl=H0 pl/\∀H',vq L H0 H'->Q .cU H'
theorem kY {ds:List Dat} {n:Nat} (h:∀d∈ds,depth d<=n):depth (.tup ds)<=n+1:=by
 show 1+depth.dL ds<=n+1;have:=oO h;lia
theorem iW {ds:List Dat} {n:Nat} (h:∀d∈ds,depth d<=n):depth (.lst ds)<=n+1:=by
 show 1+depth.dL ds<=n+1;have:=oO h;lia
theorem JD (d:Dd):depth (qO d)<=1:=by cases d <;>exact(by decide:(1:Nat)<=1)
theorem CQ {a b c:Dat} {ds:List Dd} (ha:depth a<=1) (hb:depth b<=1) (hc:depth c<=1):depth (mO (a,b,ds.map qO,c))<=3:=kY (n:=2) λd hd=>by
 simp only[aaB,aaO,or_false] at hd;rcases hd with rfl | rfl | rfl | rfl
 ·exact Nat.le_succ_of_le ha
 ·exact Nat.le_succ_of_le hb
 ·exact iW λd hd=>by obtain⟨x,_,rfl⟩:=abi.mp hd;exact JD x
 ·exact Nat.le_succ_of_le hc
theorem JE {g:Gm} (nl:∀p∈g.ps,FZ p.2):depth (nE g)<=40:=by
 have dw:∀x,FZ x->depth (jd x)<=5:=λx h=>by
  cases x with
  | ask c k a b=>exact(by decide:(1:Nat)<=5)
  | fin t b=>exact(by decide:(2:Nat)<=5)
  | score c=>exact(by decide:(1:Nat)<=5)
  | pick w rs=>
   refine kY (n:=4) λd hd=>?_;simp only[aaB,aaO,or_false] at hd;rcases hd with rfl | rfl | rfl
   ·exact aah _
   ·exact aah _
   ·refine iW (n:=3) λd hd=>?_;obtain⟨r,hr,rfl⟩:=abi.mp hd;obtain⟨r0,_,rfl⟩:=abi.mp hr;exact CQ (aah _) (by cases r0.wh;exact aah _;exact aag 1) (aah _)
  | dM cY t b rs=>
   obtain⟨ps,rfl⟩:=h;refine kY (n:=4) λd hd=>?_;simp only[aaB,aaO,or_false] at hd;rcases hd with rfl | rfl | rfl | rfl
   ·exact aah _
   ·refine aao (iW (n:=1) λd hd=>?_) ∅;obtain⟨p,_,rfl⟩:=abi.mp hd;exact Ru p
   ·exact(by decide:(1:Nat)<=4)
   ·refine iW (n:=3) λd hd=>?_;obtain⟨r,hr,rfl⟩:=abi.mp hd;obtain⟨r0,_,rfl⟩:=abi.mp hr;exact CQ (aah _) (aah _) (aah _)
 refine aao (kY (n:=7) λd hd=>?_) ∅;simp only[aaB,aaO,or_false] at hd;rcases hd with rfl | rfl
 ·refine aao (iW (n:=1) λd hd=>?_) ∅;obtain⟨c,_,rfl⟩:=abi.mp hd;exact(by decide:(1:Nat)<=1)
 ·refine iW (n:=6) λd hd=>?_;obtain⟨p,hp,rfl⟩:=abi.mp hd;refine kY (n:=5) λd hd=>?_;simp only[aaB,aaO,or_false] at hd;rcases hd with rfl | rfl
  ·exact aah _
  ·exact dw _ (nl p hp)
abbrev KL (M:List Addr) (H H':Hp):Prop:=∀a o,a∉M->H a=some o->H' a=some o
theorem KL.cG {M L:List Addr} {H H':Hp} (k:KL M H H') (m:∀a∈M,a∈L):aw (bG L H) (bG L H'):=λa o h=>by
 obtain⟨c,h⟩:=eR h;rw[cA c];exact k a o (λz=>c (m a z)) h
theorem KL.of {M:List Addr} {H H':Hp} (s:aw H H'):KL M H H':=λa o _ h=>s a o h
theorem KL.trans {M:List Addr} {H H' fG:Hp} (s:KL M H H') (s':KL M H' fG):KL M H fG:=λa o n h=>s' a o n (s a o n h)
structure yN (qP qC:Addr) (H0 X Hb:Hp) (p tl tb:Addr) (g:Gm) (nm:Str):Prop where
 sm:aw H0 Hb
 np:H0 p=none/\H0 tl=none/\H0 tb=none
 ex:∃Y dp c sv pv,(∀a o,Y a=some o->a∉[p,tl,tb]/\Hb a=some o/\(H0 a=none\/X a=some o))/\Hb p=some (.ins qP dp (jo (.ref c) sv pv (.ref tl)))/\Hb tl=some (.lst [])/\Hb tb=some (.dK [])/\zL qC Y c g tb/\mP Y sv nm (abn g.cs.length 0)/\Rep Y (dq (0,1)) pv
theorem yN.JF {qP qC:Addr} {H0 X Hb Hf:Hp} {p tl tb:Addr} {g:Gm} {nm:Str} {L:List Addr} (h:yN qP qC H0 X Hb p tl tb g nm) (s:aw Hb Hf) (hL:∀a o,(H0 a=none\/X a=some o)->a∉[p,tl,tb]->Hb a=some o->a∉L) (m:p∈L/\tl∈L/\tb∈L) (al:∀a∈L,∃o,Hf a=some o/\∀vs,o≠.tup vs) (gg:GoodG g):di qP qC L Hf p tl tb g (nm,abn g.cs.length 0) (0,1) []:=by
 obtain⟨Y,dp,c,sv,pv,hY,h1,h2,h3,h4,h5,h6⟩:=h.ex;have sY:aw Y (bG L Hf):=λa o e=>by
  obtain⟨y1,y2,y3⟩:=hY a o e;rw[cA (hL a o y3 y1 y2)];exact s _ _ y2
 exact⟨m,al,⟨dp,c,sv,pv,[],s _ _ h1,h4.mono sY,h5.mono sY,h6.mono sY,s _ _ h2,trivial⟩,⟨[],s _ _ h3,List.nodup_nil,(λk hk=>by cases hk),λnm v e=>by cases e⟩,gg,aa4,λe he=>by cases he⟩
theorem EU {qP qC:Addr} {H0 X H':Hp} {x dx c tl tb:Addr} {sv pv:V} {g:Gm} {nm:Str} (sx:aw X H0) (nx:H0 x=none) (Qm:H0 dx=none) (kH:∀a o,a≠x->upd (upd H0 dx (.own x)) x (.ins qP dx []) a=some o->H' a=some o) (zT:upd (upd H0 dx (.own x)) x (.ins qP dx []) tl=none) (mj:upd (upd H0 dx (.own x)) x (.ins qP dx []) tb=none)
  (h1:H' x=some (.ins qP dx (jo (.ref c) sv pv (.ref tl)))) (h2:H' tl=some (.lst [])) (h3:H' tb=some (.dK [])) (co:zL qC (bG [x,tl,tb] (nw (cG (upd (upd H0 dx (.own x)) x (.ins qP dx [])) x) X H')) c g tb) (st:mP (bG [x,tl,tb] (nw (cG (upd (upd H0 dx (.own x)) x (.ins qP dx [])) x) X H')) sv nm (abn g.cs.length 0)) (rp:Rep (bG [x,tl,tb] (nw (cG (upd (upd H0 dx (.own x)) x (.ins qP dx [])) x) X H')) (dq (0,1)) pv):yN qP qC H0 X H' x tl tb g nm:=by
 have up:∀a o,H0 a=some o->upd (upd H0 dx (.own x)) x (.ins qP dx []) a=some o:=λa o h=>by
  rw[av (λz=>by rw[z,nx] at h;cases h),av (λz=>by rw[z,Qm] at h;cases h)];exact h
 have s0:aw H0 H':=λa o h=>kH a o (λz=>by rw[z,nx] at h;cases h) (up a o h);have dn:∀{a},upd (upd H0 dx (.own x)) x (.ins qP dx []) a=none->H0 a=none:=λ{a} h=>by
  cases e:H0 a with
  | none=>rfl
  | some o=>rw[up a o e] at h;cases h
 refine⟨s0,⟨nx,dn zT,dn mj⟩,_,dx,c,sv,pv,λa o h=>?_,h1,h2,h3,co,st,rp⟩;obtain⟨c1,h⟩:=eR h;have ax:a≠x:=λz=>c1 (by rw[z];simp);cases e:cG (upd (upd H0 dx (.own x)) x (.ins qP dx [])) x a with
 | none=>
  rw[cC e] at h;rw[cu ax] at e;exact⟨c1,h,.inl (dn e)⟩
 | some o'=>
  unfold nw at h;rw[e] at h;exact⟨c1,s0 _ _ (sx _ _ h),.inr h⟩
theorem jR:aS ["_law_found","_law_due"] ["_law_found","_law_due"] (aq (top 60)):=.mk
theorem JG (T:0|||0) {m:Nat} (gJ:fc P w K mg base (cV P w) (m+1) "_law_is" ["_law_found","_law_due"] (xt m)):fc P w K mg base (cV P w) (m+2) "_law_is" ["_law_found","_law_due"] (xt (m+1)):=by
 refine T.qM.dF (λ_ _ _ _ _ _=>d4 λ_ _=>rfl) λf fd F=>F.dZ jR (λvs H Q E h=>?_) (λbY A outer s H vs Q E hr h=>?_)
 ·obtain⟨_,_,rfl,_⟩:=nu h;rfl
 ·symm;obtain⟨u,v,rfl,d,pd,ru,rv,kk⟩:=nu h;nofun;clear G_;have nd:=jR.nd;refine⟨_,(ag (bc (gM (aU (zF (K:=K)) (by rfl) T.z_isinstance rfl (aa (pv 1) (aa (a6 (aa (dC (v:=V.ty "list") rfl T.z_list rfl rfl) (aa (dC (v:=V.ty "tuple") rfl T.z_tuple rfl rfl) af))) af)))) (ag (bc (PW.pt (pw_or (aL mC (aU (c6 (K:=K)) (by rfl) T.z_isinstance rfl (aa (pv 0) (aa (dC (v:=V.ty "list") rfl T.z_list rfl rfl) af))) (aU (c6 (K:=K)) (by rfl) T.z_isinstance rfl (aa (pv 1) (aa (dC (v:=V.ty "list") rfl T.z_list rfl rfl) af))) (aQ _)) (pw_or1 (aL mC (aU (c6 (K:=K)) (by rfl) T.z_isinstance rfl (aa (pv 0) (aa (dC (v:=V.ty "tuple") rfl T.z_tuple rfl rfl) af))) (aU (c6 (K:=K)) (by rfl) T.z_isinstance rfl (aa (pv 1) (aa (dC (v:=V.ty "tuple") rfl T.z_tuple rfl rfl) af))) (aQ _))))) (aj (aR ik))
   aW)
  (aj (aR (og (fo bo (aU lV (by rfl) T.z_len aav (aa (pv 0) af)) (aU lV (by rfl) T.z_len aav (aa (pv 1) af)) (aQ _)) (rA (aU (uw (K:=K)) (by rfl) T.z_all rfl (aa (cj rfl (N:=["_law_found","_law_due"]) (so:=aq (top 60)) (N':=["_law_k","_law_found","_law_due"]) (k:=1) (fr:=[0,1]) rfl rfl ⟨rfl,∅,∅,∅,rfl,∅,∅⟩ (bX rfl T.z_range (aa (aU lV (by rfl) T.z_len aav (aa (pv 1) af)) af)) (λ_ _ _ _ _=>(aV (i:=0) (show(["_law_k","_law_found","_law_due"]:List Str).Nodup by ac_rfl) rfl (.inl rfl))) (λ_ _ _ _ _=>dk)
   (λ_ _ _ _ _=>(aK gJ (hr:=hr.mono (aag _)) (aa (ar yg (pv 1) (pv 0)) (aa (ar yg (pv 2) (pv 0)) af))))) af)))))))
   aW)
  (ag (bc (gM (aU (c6 (K:=K)) (by rfl) T.z_isinstance rfl (aa (pv 1) (aa (dC (v:=V.ty "str") rfl T.z_str rfl rfl) af)))) (aj (aR (og (aU (c6 (K:=K)) (by rfl) T.z_isinstance rfl (aa (pv 0) (aa (dC (v:=V.ty "str") rfl T.z_str rfl rfl) af))) (rA (fo bo (pv 0) (pv 1) (aQ _))))))
   aW)
  (aj (aR (og (aU (c6 (K:=K)) (by rfl) T.z_isinstance rfl (aa (pv 0) (aa (dC (v:=V.ty "int") rfl T.z_int rfl rfl) af))) (og (Au (aU (c6 (K:=K)) (by rfl) T.z_isinstance rfl (aa (pv 0) (aa (dC (v:=V.ty "bool") rfl T.z_bool rfl rfl) af)))) (rA (fo bo (pv 0) (pv 1) (aQ _))))))))),?_⟩
  refine(?_:let bQ:TS:=_;let bR:TS:=_;let bS:TS:=_;tSeq bQ (tSeq bR bS) _ _ _);intro bQ bR bS;have S7:=sizeLine_eq;have sp:(∃k,u=.int k/\v=.int k)\/(∃x,u=.str x/\v=.str x)\/∃(t:String) (l q:Bool) (ds:List Dat) (a b:Addr) (xs ys:List V),u=.ref a/\v=.ref b/\ds.length<=1000/\(∀d∈ds,Kv m d)/\J5 H a xs/\J5 H b ys/\a7 H ds xs/\a7 H ds ys/\(∀H1,aw H H1->ia K H1 (.ref a) (.type t)/\ia K H1 (.ref b) (.type t))/\PySem.W.kitAny K (.type t) ql=some true/\PySem.W.kitOne K (.type t) (.type "list")=some l/\PySem.W.kitOne K (.type t) (.type "tuple")=some q:=by
   cases d with
   | int k=>exact .inl ⟨k,bg.mp ru,bg.mp rv⟩
   | str x=>exact .inr (.inl ⟨x,aI.mp ru,aI.mp rv⟩)
   | tup ds=>
    symm;obtain⟨a,xs,rfl,ha,rx⟩:=dU.mp ru;obtain⟨b,ys,rfl,hb,ry⟩:=dU.mp rv;nofun;exact .inr (.inr ⟨_,_,_,ds,a,b,xs,ys,rfl,rfl,pd.1,pd.2,.inr ha,.inr hb,rx,ry,λH1 s1=>⟨.tup (s1 _ _ ha),.tup (s1 _ _ hb)⟩,M9,CN,AU⟩)
   | lst ds=>
    symm;obtain⟨a,xs,rfl,ha,rx⟩:=aY.mp ru;obtain⟨b,ys,rfl,hb,ry⟩:=aY.mp rv;nofun;exact .inr (.inr ⟨_,_,_,ds,a,b,xs,ys,rfl,rfl,pd.1,pd.2,.inl ha,.inl hb,rx,ry,λH1 s1=>⟨.lst (s1 _ _ ha),.lst (s1 _ _ hb)⟩,M8,AV,JC⟩)
   | cU=>exact pd.elim
   | bl b=>exact pd.elim
  clear pd ru rv;rcases sp with ⟨k,rfl,rfl⟩ | ⟨x,rfl,rfl⟩ | ⟨t,l,q,ds,a,b,xs,ys,rfl,rfl,l1,hd,sa,sb,rx,ry,ty,ka,kl,kt⟩
  ·refine aN (λN=>∀H1,aw H H1->N [k⁻¹,k⁻¹] H1) (λN hN=>?_) ?_
   ·refine yM (aw H) (λH' s'=>?_) λN S8 Y=>?_
    ·dsimp?[];exact hN _ s'
    ·dsimp?[];refine⟨⋯,λp H1 s1 np ep=>⟨_,.int _,_,ep,_,xr,false,M6,?_⟩⟩;rw[if_neg ∅];exact S8 _ s1
   rintro H1 s1;dsimp?[];refine⟨_,.int _,_,CO,?_⟩;rw[if_neg ∅];refine⟨_,.int _,_,Hz,?_⟩;rw[if_pos rfl];refine⟨_,.int _,_,HA,?_⟩;rw[if_pos rfl];exact kk _ s1
  ·refine aN (λN=>∀H1,aw H H1->N [some (.str x),some (.str x)] H1) (λN hN=>?_) ?_
   ·refine yM (aw H) (λH' s'=>?_) λN S8 Y=>?_
    ·dsimp?[];exact hN _ s'
    ·dsimp?[];refine⟨⋯,λp H1 s1 np ep=>⟨_,.str _,_,ep,_,xr,false,M7,?_⟩⟩;rw[if_neg ∅];exact S8 _ s1
   rintro H1 s1;dsimp?[];refine⟨_,.str _,_,wa,?_⟩;rw[if_pos rfl];refine⟨_,.str _,_,wa,?_⟩;rw[if_pos rfl];exact kk _ s1
  ·refine aN (λ_=>True) (λN _=>?_) trivial;refine oM (aw H) (λ_=>False) (λH1 s1=>?_) (λ_ f=>f.elim) λY N hY _=>?_
   ·have lx:=rx.length;have ly:=ry.length;have su:∀{c zs H2},J5 H c zs->aw H H2->J5 H2 c zs:=λh s=>h.imp (s _ _) (s _ _);dsimp?[];refine⟨_,(ty _ s1).1,_,kl,_,(ty _ s1).2,_,kl,?_⟩;rw[if_neg (λz=>z rfl)];refine⟨_,(ty _ s1).1,_,kt,_,(ty _ s1).2,_,kt,?_⟩;rw[if_neg (λz=>z rfl)];refine⟨xs,su sa s1,ys,su sb s1,?_⟩;rw[if_pos ⋯];refine⟨ys,su sb s1,⋯,⋯,?_⟩;rw[aal];refine comp_map src_range (λ_ _ _ _ h=>by rw[h.1];exact aw.refl _) ⋯ (λi y H2=>y=.bl true) (λi y H2 H3 s3 h=>h) ?_ ?_
    ·rintro i x w0 H2 H3 Q2 hi s2 ⟨rfl,rfl⟩ kq;have tz:=s1.trans s2;obtain⟨d,ed⟩:∃d,ds[i]?=some d:=⟨_,aai ⋯⟩
     symm;obtain⟨x,ex,Rm⟩:=rx.at ed;obtain⟨y,ey,ZQ⟩:=ry.at ed;nofun;dsimp?[xt,LH,aaS];exact⟨xs,su sa tz,x,bM ex,ys,su sb tz,y,bM ey,d,hd _ (aan ed),Rm.mono tz,ZQ.mono tz,λH4 s4=>kq _ _ s4 rfl⟩
    ·intro zs H2 s2 lz hz D n1 n2;have ez:zs=(abn ys.length true).map V.bl:=List.ext_getElem? λi=>by
      rw[aaf]
      by_cases h:i<ys.length
      ·rw[List.getElem?_replicate,if_pos h,aai ⋯,hz i _ (aai ⋯)];rfl
      ·rw[List.getElem?_eq_none ⋯,List.getElem?_eq_none (by rw[aa4];lia)];rfl
     refine⟨abn ys.length true,by rw[<-ez];exact bC.of ao,?_⟩;rw[show((abn ys.length true).all id)=true by simp];exact kk _ (s1.trans (s2.trans (au n2)))
   ·dsimp?[];refine⟨⋯,λp H1 s1 np ep=>⟨_,(ty _ s1).2,_,ep,_,xr,true,ka,?_⟩⟩;rw[if_pos rfl];exact hY _ s1
theorem GC (T:0|||0):∀m:Nat,fc P w K mg base (cV P w) (m+1) "_law_is" ["_law_found","_law_due"] (xt m)
 | 0=>by
  have gJ:(1<<<"_law_is") ["_law_found","_law_due"] (xt 0):=T.qM.dF (λ_ _ _ _ _ _=>d4 λ_ _=>rfl) λf fd F=>F.dZ jR (λvs H Q E h=>by obtain⟨_,_,_,d,h,_⟩:=nu h;cases d <;>exact h.elim) (λbY A outer s H vs Q E hr h=>by obtain⟨_,_,_,d,h,_⟩:=nu h;cases d <;>exact h.elim);exact gJ
 | m+1=>JG T (GC T m)
theorem jy:aS ["_law_play","_law_game_here","_law_state","_law_got","_law_steps","_law_first","_law_dues","_law_k","_law_at","_law_found"] ["_law_play","_law_game_here","_law_state","_law_got","_law_steps","_law_first"] (aq (top 61)):=.mk
theorem JH:∀ps∈Ag,(ff ps).length<=1000:=λps h=>by
 have d:∀x∈zI,x.1*x.2<=100:=∅
 rcases iS h with ⟨k,s,An,e | ⟨m,_,e⟩⟩ | ⟨s,s2,s6,e⟩
 ·have:k*s<=100:=d (k,s) An;rw[e,ff,aad,aax];lia
 ·have:k*s<=100:=d (k,s) An;rw[e,ff,aad,aax];lia
 ·rw[e,ff];refine aao (List.length_filter_le _ _) ?_;rw[aad,aax];lia
theorem JI (T:0|||0):(10<<<"_law_looks") ["_law_play","_law_game_here","_law_state","_law_got","_law_steps","_law_first"] (CP aA ah):=by
 have qo:=ID T;have qp:=IK T;have tH:=IP T;have eM:=B6 T;have iO:=CG T;have qq:=Jv T;have gJ:(4<<<"_law_is") ["_law_found","_law_due"] (xt 3):=GC T 3;refine T.sr.dF (λ_ _ _ _ _ _ us hl=>match us,hl with | [_,_,_,_,_,_],_=>rfl) λf fd F=>F.dZ jy (λvs H Q E h=>?_) (λbY A outer s H vs Q E hr h=>?_)
 ·obtain⟨_,_,_,_,_,_,_,_,_,_,_,_,_,_,rfl,_⟩:=h;rfl
 ·symm;obtain⟨p,gv,sv,qT,sl,first,tl,tb,L,g,gs,st,pd,tr,rfl,f0,f8,pl,rg,gm,sk,vp,CI,zV,xf,tw,xR,kk⟩:=h;nofun;clear G_;have nd:=jy.nd;refine⟨_,(ag (aG (i:=6) (bT (aa (a6 (aa (ar ai (pv 2) ae) (aa (dD (dt (K:=K)) (by rfl) T.z_list rfl (aa (ar ai (pv 2) ae) af)) af))) (aa (aK iO (aa (pv 1) (aa (pv 2) af))) (aa (aK qq (aa (pv 1) (aa (pv 2) (aa (pv 3) af)))) (aa (d7 PySem.F.plainAttrs_str PySem.F.slot_str_join PySem.F.type_str_join (uz (K:=K)) aZ (aa (pv 4) af)) af))))))
  (ag (ck PassesOwn.never rfl (bX rfl T.z_range (aa ae af)) (aV (i:=7) nd rfl (.inl rfl)) (ag (aG (i:=8) (aD dz (aD aM (pv 5) (aD bf (pv 7) (aD aM ae (aD bf ae (aD dz (aD ix (pv 5) ae) ae))))) ae))
  (ag (bc (aL bo (pv 8) ae (aQ _)) (aj (aG (i:=9) (lU qo T.a9 (pv 0))))
   (aj (bc (aL bo (pv 8) ae (aQ _)) (aj (aG (i:=9) (lU eM T.a9 (pv 0))))
   (aj (bc (aL bo (pv 8) ae (aQ _)) (aj (aG (i:=9) (lU qp T.a9 (pv 0))))
   (aj (aG (i:=9) (lU tH T.a9 (pv 0)))))))))
  (ag (bc (vz (gM (aK gJ (aa (pv 9) (aa (ar aX (pv 6) (pv 8)) af))))) (aj (aR ik))
   aW)
  (ag (bc (aL bo (pv 8) ae (aQ _)) (aj (bw (d7 aaw aaX aaY c5.r (ar ai (pv 9) ae) (aa ae af))))
   aW)
  (aj (bc (aL bo (pv 8) ae (aQ _)) (aj (bw (lH aaw PySem.F.slot_list_clear PySem.F.type_list_clear iu.r (pv 9))))
   aW)))))))
  (aj (aR ik)))),?_⟩
  refine(?_:let bQ:TS:=_;let bR:TS:=_;let bS:TS:=_;tSeq bQ (tSeq bR bS) _ _ _);intro bQ bR bS;have S7:=sizeLine_eq;symm;obtain⟨sa,cl,rfl,gS,fY⟩:=id vp;obtain⟨x,lk,wx⟩:=sk.at_;have P6:Ga x:=λc k a b e=>by rw[e] at wx;exact wx
  have ew:=Jx sk wx;obtain⟨ds,od,d0⟩:=Jw (st:=st) wx;have ZR:JoinOk (aac " ") (tr.map (·.1))=true:=joinOk_of (B:=20) (λy hy=>by obtain⟨e,he,rfl⟩:=abi.mp hy;exact(tw e he).2.1) (by rw[show(aac " ").length=1 by ac_rfl,aad];lia);obtain⟨EV,CS⟩:∃f:Int->Dat,f=λb=>if b=0 then Dat.tup [.str st.1,.lst (st.2.map Dat.int)] else if b=1 then .lst ds else if b=2 then dq (w6 g st pd x) else .str (pk tr):=⟨_,rfl⟩
  nofun;clear G_;have JJ:EV 0=Dat.tup [.str st.1,.lst (st.2.map Dat.int)]:=by rw[CS];rfl
  have JK:EV 1=.lst ds:=by rw[CS];rfl
  have JL:EV 2=dq (w6 g st pd x):=by rw[CS];rfl
  have JM:EV 3=.str (pk tr):=by rw[CS];rfl
  have Na:∀{b:Int},0<=b->b<4->b=0\/b=1\/b=2\/b=3:=λh h'=>⋯
  have WN:ds.length<=1000/\∀d∈ds,Kv 2 d:=by
   cases x with
   | dM cY t b rs=>
    symm;obtain⟨ps,rfl,gl,rfl⟩:=od;nofun;refine⟨?_,λd hd=>by obtain⟨v,_,rfl⟩:=abi.mp hd;trivial⟩;have h3:∀q∈Ag,(ff q).length<=1000:=JH;rw[aad];exact h3 ps gl
   | pick vn rs=>
    rw[show ds=_ from od];refine⟨?_,λd hd=>by obtain⟨v,_,rfl⟩:=abi.mp hd;trivial⟩;rw[aad];have:=List.length_filter_le (λr=>iC g.cs st.2 r.wh) rs;have:=wx.1.1;show(rs.filter _).length<=1000;lia
   | ask c k a b=>exact wx.elim
   | fin t b=>rw[show ds=_ from od];exact⟨aah _,λd hd=>by cases hd⟩
   | score c=>rw[show ds=_ from od];exact⟨aah _,λd hd=>by cases hd⟩
  have ZS:=gm.good.lc;have J1:=sk.len;have Nb:∀b,0<=b->b<4->Kv 3 (EV b):=λb h h'=>by
   rcases Na h h' with rfl | rfl | rfl | rfl
   ·rw[JJ];refine⟨show(2:Nat)<=1000 by decide,λd hd=>?_⟩;rcases aaB.mp hd with rfl | hd
    ·trivial
    ·rw[abj.mp hd];exact⟨by rw[aad];lia,λd hd=>by obtain⟨v,_,rfl⟩:=abi.mp hd;trivial⟩
   ·rw[JK];exact WN
   ·rw[JL];exact⟨by show(2:Nat)<=1000;decide,λd hd=>by simp only[aaB,aaO,or_false] at hd;rcases hd with rfl | rfl <;>trivial⟩
   ·rw[JM];trivial
  clear CS;refine aN (λN=>∀H1 dl (dv:Int->V),aw H H1->H1 dl=some (.lst [dv 0,dv 1,dv 2,dv 3])->H dl=none->(∀b,0<=b->b<4->Rep (bG L H1) (EV b) (dv b))->N [~~~p,some gv,~~~sa,some qT,~~~sl,first⁻¹,~~~dl,none,none,none] H1) (λN hN=>?_) ?_
  ·dsimp?[Cr,Gq,rJoin,aT _ _ gS];refine⟨_,.inl (bC.of (aT _ _ fY)),λl nl=>⟨⋯,λq H2 s2 nq eq=>?_⟩⟩;have ZT:=au (o:=.lst (List.map V.int st.2)) nl;have tz:=ZT.trans s2;refine⟨g,rg.mono (aT.trans tz),gm.good,gs,st,vp.mono (aT.trans tz),sk.len,x,lk,wx,λa H3 es s3 na ra oe=>?_⟩;rw[<-CJ od oe] at ra;have iV:=tz.trans s3;refine⟨g,rg.mono (aT.trans iV),gm.good,st,vp.mono (aT.trans iV),sk.len,pd,x,lk,CI.mono (aT.trans iV),zV.le ∅,ew,λu H4 s4 ru=>?_⟩;have xp:=iV.trans s4;refine⟨rfl,tr.map (·.1),bC.of (xp _ _ xR),ZR,⋯,λdl MO=>?_⟩;obtain⟨dv,e0,e1,e2,e3⟩:∃dv:Int->V,dv 0=.ref q/\dv 1=.ref a/\dv 2=u/\dv 3=.str (pk tr):=⟨λb=>if b=0 then .ref q else if b=1 then .ref a else if b=2 then u else .str (pk tr),rfl,rfl,rfl,rfl⟩
   have sd:=au (o:=.lst [V.ref q,V.ref a,u,V.str (pk tr)]) MO;have WQ:=pl.same (xp.trans sd);have fr:∀{b o},H b=none->H4 b=some o->bG L (upd H4 dl (.lst [V.ref q,V.ref a,u,V.str (pk tr)])) b=some o:=λn h=>by rw[cA (pl.out n)];exact sd _ _ h
   refine hN _ dl dv (xp.trans sd) (by rw[e0,e1,e2,e3];exact ao) (none_of xp MO) λb b0 b4=>?_;rcases Na b0 b4 with rfl | rfl | rfl | rfl
   ·rw[JJ,e0];exact bu.mpr ⟨q,_,_,rfl,WQ.tup (sd _ _ ((s3.trans s4) _ _ eq)),aI.mpr rfl,aY.mpr ⟨l,_,rfl,fr nl ((s2.trans (s3.trans s4)) _ _ ao),ints_rep _⟩⟩
   ·rw[JK,e1];symm;obtain⟨a',xs,ea,ha,rx⟩:=aY.mp ra;nofun;cases ea;exact aY.mpr ⟨a,xs,rfl,fr (none_of tz na) (s4 _ _ ha),ES od rx _⟩
   ·rw[JL,e2];symm;obtain⟨q',rfl,gK⟩:=b9.mp ru;nofun;exact b9.mpr ⟨q',rfl,WQ.tup (sd _ _ gK)⟩
   ·rw[JM,e3];exact aI.mpr rfl
  rintro H1 dl dv s1 Ep MO ZU;have tQ:=pl.same s1;symm;obtain⟨dp,c,B7,S9,VJ,hpl,_⟩:=tQ.ex;obtain⟨Iv,Nc⟩:∃Iv:Hp->Prop,∀H',Iv H'↔K3 p tl tb H1 H'/\di aA ah L H' p tl tb g st pd tr:=⟨_,λ_=>Iff.rfl⟩
  nofun;clear G_;have hI:=λ{H'}=>Nc H';clear Nc;have EW:∀{H' fG},Iv H'->aw H' fG->Iv fG:=λh s=>hI.mpr ⟨(hI.mp h).1.trans (.of s),(hI.mp h).2.same s⟩;have fin:∀{H'},Iv H'->Q (.bl true) H':=λh=>kk _ ((K3.of s1).trans (hI.mp h).1) (hI.mp h).2;have Kw:dl∉L:=pl.out MO;have ZV:∀{H'},Iv H'->H' dl=some (.lst [dv 0,dv 1,dv 2,dv 3]):=λh=>(hI.mp h).1 _ _ (λz=>Kw (z▸pl.mem.1)) (λz=>Kw (z▸pl.mem.2.1)) (λz=>Kw (z▸pl.mem.2.2)) Ep;have Ta:∀{H'},Iv H'->∀b,0<=b->b<4->Rep H' (EV b) (dv b):=λh b k k'=>(ZU b k k').mono (((hI.mp h).1.cG pl.mem.1 pl.mem.2.1 pl.mem.2.2).trans aT);have Aa:∀{k:Str} {a b c d:V},(k==aac "course")=false->(k==aac "state")=false->(k==aac "paid")=false->(k==aac "trail")=false->List.lookup k (jo a b c d)=none:=λh1 h2 h3 h4=>by
   unfold jo;rw[bI h1,bI h2,bI h3,bI h4];rfl
  dsimp?[];refine⟨⋯,⋯,bJ (src_range (Ok:=λ_=>True)) (λi σ H'=>Iv H'/\∃z7 z8 z9,σ=[~~~p,some gv,~~~sa,some qT,~~~sl,first⁻¹,~~~dl,z7,z8,z9]) ⟨hI.mpr ⟨.of (aw.refl _),tQ⟩,_,_,_,rfl⟩ (λ_ _ _ _ _=>trivial) ?_ ?_⟩
  case refine_2=>
   intro σ H2 dg;symm;obtain⟨iv,z7,z8,z9,rfl⟩:=dg;nofun;dsimp?[];exact fin iv
  intro k y σ H2' H2 hk eV eX;symm;obtain⟨iv,z7,z8,z9,rfl⟩:=eV;obtain⟨rfl,rfl⟩:=eX;nofun;have hk4:k<4:=hk;simp only[gName,aaH,aaG,aaS];refine aN (λN=>∀b:Int,0<=b->b<4->N [~~~p,some gv,~~~sa,some qT,~~~sl,first⁻¹,~~~dl,some (.int (k:Int)),b⁻¹,z9] H2) (λN hN=>?_) ?_
  ·dsimp?[];exact⟨i9.lit,∅,br ⋯ ⋯,br ⋯ ⋯,∅,hN _ (aa2 _ ∅) (aa7 _ ∅)⟩
  rintro b b0 b4;refine aN (λN=>∀H3 v,Iv H3->Rep H3 (EV b) v->(b=0->∃q l ns,v=.ref q/\H3 q=some (.tup [.str st.1,.ref l])/\H3 l=some (.lst (List.map V.int ns))/\ns.length<=100/\Iv (cG H3 l))->(b=1->∃a xs,v=.ref a/\H3 a=some (.lst xs)/\Iv (cG H3 a))->N [~~~p,some gv,~~~sa,some qT,~~~sl,first⁻¹,~~~dl,some (.int (k:Int)),b⁻¹,some v] H3) (λN hN=>?_) ?_
  ·have D2:=(hI.mp iv).2;have k2:=(hI.mp iv).1;symm;obtain⟨dp,c,B7,S9,VJ,xo,_⟩:=D2.ex;nofun;rcases Na b0 b4 with rfl | rfl | rfl | rfl
   ·refine cH (λY N k=>by dsimp?[];exact k) ?_;dsimp?[cg,F8];exact⟨_,_,xo,Aa ∅ ∅ ∅ ∅,tl,tb,L,g,st,pd,tr,D2,λa l H3 s3 na nl ha hl=>hN H3 _ (EW iv s3) (by rw[JJ];exact bu.mpr ⟨a,_,_,rfl,ha,aI.mpr rfl,aY.mpr ⟨l,_,rfl,hl,ints_rep _⟩⟩) (λ_=>⟨a,l,st.2,rfl,ha,hl,⋯,EW iv (kf s3 nl)⟩) (λz=>absurd z ∅)⟩
   ·refine bL (λY N k=>by dsimp?[];exact k) (cH (λY N k=>by dsimp?[];exact k) ?_);dsimp?[cg,B4];refine⟨_,_,xo,Aa ∅ ∅ ∅ ∅,tl,tb,L,g,st,pd,tr,D2,x,lk,ds,od,λa H3 k3 P8 na ra=>?_⟩;symm;obtain⟨a',xs,ea,ha,rx⟩:=aY.mp ra;nofun;cases ea;refine hN H3 _ (hI.mpr ⟨k2.trans k3,P8.same cX⟩) (by rw[JK];exact ra) (λz=>absurd z ∅) (λ_=>⟨a,xs,rfl,ha,hI.mpr ⟨k2.trans λb o h1 h2 h3 h=>?_,P8⟩⟩);rw[cu (λz=>by rw[z,na] at h;cases h)];exact k3 b o h1 h2 h3 h
   ·refine bL (λY N k=>by dsimp?[];exact k) (bL (λY N k=>by dsimp?[];exact k) (cH (λY N k=>by dsimp?[];exact k) ?_));dsimp?[cg,Gc];exact⟨_,_,xo,Aa ∅ ∅ ∅ ∅,tl,tb,L,g,st,pd,tr,D2,x,lk,P6,zV.le ∅,ew,λu H3 s3 ru=>hN H3 _ (EW iv s3) (by rw[JL];exact ru) (λz=>absurd z ∅) (λz=>absurd z ∅)⟩
   ·refine bL (λY N k=>by dsimp?[];exact k) (bL (λY N k=>by dsimp?[];exact k) (bL (λY N k=>by dsimp?[];exact k) ?_));dsimp?[cg,Gf];exact⟨_,_,xo,Aa ∅ ∅ ∅ ∅,tl,tb,L,g,st,pd,tr,D2,xf,λe he=>(tw e he).2.1,λH3 s3=>hN H3 _ (EW iv s3) (by rw[JM];exact aI.mpr rfl) (λz=>absurd z ∅) (λz=>absurd z ∅)⟩
  rintro H3 v Ac rv f0 f1;refine aN (λN=>∀H4,aw H3 H4->N [~~~p,some gv,~~~sa,some qT,~~~sl,first⁻¹,~~~dl,some (.int (k:Int)),b⁻¹,some v] H4) (λN hN=>?_) ?_
  ·have at_:jS [dv 0,dv 1,dv 2,dv 3] b=some (dv b):=by rcases Na b0 b4 with rfl | rfl | rfl | rfl <;>rfl
   dsimp?[xt,ZV Ac];refine⟨_,at_,EV b,Nb b b0 b4,rv,Ta Ac b b0 b4,λH4 s4=>?_⟩;rw[if_neg ∅];exact hN _ s4
  rintro H4 s4;have ZW:=EW Ac s4;have Nd:∀{a o},Iv (cG H3 a)->Iv (upd H4 a o):=λ{a o} h=>EW h λb o' hb=>by
   by_cases z:b=a
   ·unfold cG at hb;rw[if_pos z] at hb;cases hb
   ·rw[cu z] at hb;rw[av z];exact s4 _ _ hb
  rcases Na b0 b4 with rfl | rfl | z
  ·symm;obtain⟨q,l,ns,rfl,hq,hl,l1,ZX⟩:=f0 rfl;nofun;refine aN (λN=>∀H5,Iv H5->N [~~~p,some gv,~~~sa,some qT,~~~sl,first⁻¹,~~~dl,some (.int (k:Int)),0⁻¹,~~~q] H5) (λN hN=>?_) ?_
   ·refine cH (λY N k=>by dsimp?[];exact k) ?_;dsimp?[dS,s4 _ _ hq];exact⟨.inl ⟨rfl,_,bC.of (s4 _ _ hl)⟩,_,s4 _ _ hl,by rw[aad];lia,hN _ (Nd ZX)⟩
   rintro H5 ZY;refine bL (λY N k=>by dsimp?[];exact k) ?_;dsimp?[];exact⟨ZY,_,rfl⟩
  ·symm;obtain⟨a,xs,rfl,ha,ZZ⟩:=f1 rfl;nofun;refine aN (λN=>N [~~~p,some gv,~~~sa,some qT,~~~sl,first⁻¹,~~~dl,some (.int (k:Int)),1⁻¹,~~~a] H4) (λN hN=>?_) ?_
   ·refine bL (λY N k=>by dsimp?[];exact k) ?_;dsimp?[];exact hN
   refine cH (λY N k=>by dsimp?[];exact k) ?_;dsimp?[lJ,vT];exact⟨.inl ⟨rfl,_,bC.of (s4 _ _ ha)⟩,_,s4 _ _ ha,Nd ZZ,_,rfl⟩
  ·have n0:b≠0:=⋯
   have n1:b≠1:=⋯
   refine aN (λN=>N [~~~p,some gv,~~~sa,some qT,~~~sl,first⁻¹,~~~dl,some (.int (k:Int)),b⁻¹,some v] H4) (λN hN=>?_) ?_
   ·refine bL (λY N k=>by dsimp?[];rw[if_neg n0];exact k) ?_;dsimp?[];exact hN
   refine bL (λY N k=>by dsimp?[];rw[if_neg n1];exact k) ?_;dsimp?[];exact⟨ZW,_,rfl⟩
theorem jz:aS ["_law_game_here","_law_name","_law_what_here","_law_row"] ["_law_game_here"] (aq (top 62)):=.mk
theorem GD {k a b:Str}:C5 (V.str k) [V.str a,V.str b]=true↔k=a\/k=b:=by
 simp only[C5,List.any_cons,List.any_nil,Ae,Bool.or_false,Bool.or_eq_true,beq_iff_eq,decide_eq_true_eq]
 first | exact Iff.rfl | exact or_congr eq_comm eq_comm
theorem JN (T:0|||0):(1<<<"_law_spoil") ["_law_game_here"] GB:=by
 refine T.sA.dF (λ_ _ _ _ _ _=>gA λ_=>rfl) λf fd F=>F.dZ jz (λvs H Q E h=>?_) (λbY A outer s H vs Q E hr h=>?_)
 ·obtain⟨_,rfl,_⟩:=C7 h;rfl
 ·symm;obtain⟨gv,rfl,H0,L,g,hL,rg,gg,Mv,gp,cv,pl,rfl,qS,sp,hpl,kk⟩:=C7 h;nofun;clear G_;have nd:=jz.nd;refine⟨_,(aj (ck PassesOwn.never rfl (bh (K:=K) (ar ai (pv 0) ae)) (eP (K:=K) (n:=2) rfl (bH (aV (i:=1) nd rfl (.inl rfl)) (bH (aV (i:=2) nd rfl (.inl rfl)) eO))) (ag (bc (aL oA (ar ai (pv 2) ae) (a6 (aa aZ (aa aZ af))) rfl) (ag (ck PassesOwn.never rfl (bh (K:=K) (ar ai (pv 2) (ip fI ae))) (aV (i:=3) nd rfl (.inl rfl)) (aj (bw (lH aaw PySem.F.slot_list_clear PySem.F.type_list_clear iu.r (ar ai (pv 3) ae)))))
  (aj (bw (lH aaw PySem.F.slot_list_clear PySem.F.type_list_clear iu.r (ar ai (pv 2) (ip fI ae))))))
   aW)
  (aj (bc (aL bo (ar ai (pv 2) ae) aZ (aQ _)) (aj (bw (lH aaw PySem.F.slot_list_clear PySem.F.type_list_clear iu.r (ar ai (pv 2) ae))))
   aW))))),?_⟩
  have S7:=sizeLine_eq;symm;obtain⟨gp',cv',pv,e0,Z0,MV,Qf⟩:=bu.mp (show Rep _ (.tup _) (.ref gp) from rg);nofun;clear G_;cases e0;have:=(eF Z0).1;rw[qS] at this;cases this;symm;obtain⟨vm,yy,e0,Tb,yz⟩:=aY.mp (show Rep _ (.lst _) (.ref pl) from Qf);nofun;clear G_;cases e0;obtain⟨Nf,⟨_,e⟩ | ⟨_,e,plL⟩⟩:=eF Tb
  ·cases e
  cases e;have WR:∀{a vs},H0 a=some (.tup vs)->a∉L:=λh m=>by
   obtain⟨ys,e⟩:=hL _ m;rw[h] at e;cases e
  have tup:∀{H' a vs},vq L H0 H'->jT L H0 a=some (.tup vs)->H' a=some (.tup vs):=λs h=>s.1 _ _ (WR (eF h).1) (eF h).1;have lst:∀{a ys},jT L H0 a=some (.lst ys)->a∈L/\H0 a=some (.lst ys):=λh=>by
   obtain⟨e,⟨_,z⟩ | ⟨_,z,m⟩⟩:=eF h
   ·cases z
   ·exact⟨m,e⟩
  have ZC:=gg.lp;have p0:=gg.p0;have len:=yz.length;rw[aad] at len;rw[Nf] at hpl;obtain⟨Iv,Nc⟩:∃Iv:Hp->Prop,∀H',Iv H'↔vq L H0 H'/\H' pl=some (.lst yy):=⟨_,λ_=>Iff.rfl⟩
  have hI:=λ{H'}=>Nc H';clear Nc;have EW:∀{H' fG},Iv H'->aw H' fG->Iv fG:=λh s=>hI.mpr ⟨(hI.mp h).1.up hL s,s _ _ (hI.mp h).2⟩;have Tc:∀{H' a},Iv H'->a∈L->a≠pl->Iv (upd H' a (.lst [])):=λh m n=>hI.mpr ⟨(hI.mp h).1.clear m,by rw[av (Ne.symm n)];exact(hI.mp h).2⟩;have fst:∃cp nm q,yy[0]?=some (.ref cp)/\H0 cp=some (.tup [.str nm,.ref q]):=by
   obtain⟨v0,IA,IB⟩:=yz.at (i:=0) (by rw[aaf,aai p0];rfl);symm;obtain⟨cp,y1,y2,rfl,zQ,r1,r2⟩:=bu.mp (show Rep _ (.tup _) v0 from IB);obtain⟨q,vk,rfl,_⟩:=jr r2;nofun;rw[aI.mp r1] at zQ;exact⟨cp,_,q,IA,(eF zQ).1⟩
  symm;obtain⟨cp0,PV,q0,Z1,Td⟩:=fst;nofun;have JO:∀{a ys} {ds:List Dat},H0 a=some (.lst ys)->a7 (jT L H0) ds ys->(∀d∈ds,∀v,Rep (jT L H0) d v->∃q vs,v=.ref q/\jT L H0 q=some (.tup vs)/\∀a q',vs≠[a,.ref q'])->a≠pl:=λ{a ys ds} h r k z=>by
   rw[z,Nf] at h;cases h;symm;obtain⟨d,ed,rd⟩:=r.get Z1;obtain⟨q,vs,e,hq,n⟩:=k d (aan ed) _ rd;nofun;cases e;have:=(eF hq).1;rw[Td] at this;cases this;exact n _ _ rfl
  have Rp:=sp.1 gp _ (WR qS) qS;dsimp?[Rp];refine⟨⟨_,bC.of hpl⟩,bJ (src_list (Ok:=Iv) (λH' k=>bC.of (hI.mp k).2)) (λi σ H'=>Iv H'/\∃z1 z2 z3,σ=[~~~gp,z1,z2,z3]) ⟨hI.mpr ⟨sp,hpl⟩,_,_,_,rfl⟩ (λ_ _ _ _ h=>h.1) ?_ ?_⟩
  case refine_2=>
   intro σ H' dg;symm;obtain⟨iv,z1,z2,z3,rfl⟩:=dg;nofun;exact kk _ (hI.mp iv).1
  intro i x σ H1 H2 hi eV eX;symm;obtain⟨iv,z1,z2,z3,rfl⟩:=eV;obtain⟨rfl,ex⟩:=eX;obtain⟨d0,ed,rd⟩:=yz.get ex;rw[aaf] at ed;obtain⟨pn,ec,rfl⟩:=abg.mp ed;obtain⟨cp,y1,y2,rfl,zQ,r1,r2⟩:=bu.mp (show Rep _ (.tup _) x from rd);obtain rfl:=aI.mp r1;obtain⟨q,vk,rfl,hq⟩:=jr r2;nofun;have PX:=Mv _ (aan ec);refine⟨cp,_,rfl,iP.of (tup (hI.mp iv).1 zQ),rfl,_,_,rfl,_,_,rfl,rfl,?_⟩;subst_vars;obtain⟨nm,x⟩:=pn;dsimp only at r2 hq PX ⊢;have Ky:∀{H'},Iv H'->H' q=some (.tup (.str (lg x)::vk)):=λk=>tup (hI.mp k).1 hq;have rows:lg x=aac "throw"\/lg x=aac "pick"->∃(rl:Addr) (rs:List R4) (Tf:List V),jS (V.str (lg x)::vk) (-1)=some (.ref rl)/\jT L H0 rl=some (.lst Tf)/\a7 (jT L H0) (rs.map mO) Tf/\rs.length<=100/\∀r∈rs,∃ds:List Dd,r.2.2.1=ds.map qO:=λtp=>by
   have gx:=gg.wt _ (aan ec);rcases tp with tp | tp
   ·symm;obtain⟨cY,t,b,rs,rfl⟩:=mr tp;obtain⟨q',v1,v2,v3,v4,e0,gK,a1,a2,a3,a4⟩:=cS.mp (show Rep _ (.tup _) (.ref q) from r2);nofun;cases e0;rw[hq] at gK;cases gK;symm;obtain⟨rl,ys,rfl,mi,ry⟩:=aY.mp a4;nofun;exact⟨rl,rs.map BD,ys,rfl,mi,ry,by rw[aad];exact gx.2.1,λr hr=>by obtain⟨r0,_,rfl⟩:=abi.mp hr;exact⟨_,rfl⟩⟩
   ·symm;obtain⟨vn,rs,rfl⟩:=sU tp;obtain⟨q',v1,v2,v3,e0,gK,a1,a2,a3⟩:=de.mp (show Rep _ (.tup _) (.ref q) from r2);nofun;cases e0;rw[hq] at gK;cases gK;symm;obtain⟨rl,ys,rfl,mi,ry⟩:=aY.mp a3;nofun;exact⟨rl,rs.map C9,ys,rfl,mi,ry,by rw[aad];exact gx.1,λr hr=>by obtain⟨r0,_,rfl⟩:=abi.mp hr;exact⟨_,rfl⟩⟩
  refine aN (λN=>∀H2,Iv H2->∀z3,N [~~~gp,some (.str nm),~~~q,z3] H2) (λN hN=>?_) ?_
  ·refine oM (λH'=>Iv H'/\(lg x=aac "throw"\/lg x=aac "pick")) Iv (λH' h'=>?_) (λH' Ng=>?_) λY N hY Z2=>?_
   ·obtain⟨Ng,tp⟩:=h';symm;obtain⟨rl,rs,Tf,A6,mi,Tg,S1,D1⟩:=rows tp;obtain⟨Th,EX⟩:=lst mi;have Ti:=Tg.length;rw[aad] at Ti;have Z3:∀d∈rs.map mO,∀v,Rep (jT L H0) d v->∃q vs,v=.ref q/\jT L H0 q=some (.tup vs)/\vs.length=4:=λd hd v rv=>by
     obtain⟨r,_,rfl⟩:=abi.mp hd;obtain⟨p,a,b,c,d,e,hp,_⟩:=cS.mp (show Rep _ (.tup _) v from rv);exact⟨p,_,e,hp,rfl⟩
    have Z4:rl≠pl:=JO EX Tg λd hd v rv=>by
     obtain⟨p,vs,e,hp,l4⟩:=Z3 d hd v rv;exact⟨p,vs,e,hp,λa q' z=>by rw[z] at l4;cases l4⟩
    obtain⟨zs,Nh,ez⟩:=(hI.mp Ng).1.lst Th EX;nofun;refine aN (λN=>∀H3,Iv H3->∀z3,N [~~~gp,some (.str nm),~~~q,z3] H3) (λN Z5=>?_) ?_
    ·dsimp?[Ky Ng];refine⟨_,A6,rl,rfl,⟨_,bC.of Nh⟩,bJ (src_list (Ok:=λH'=>Iv H'/\H' rl=some (.lst zs)) (λH' k=>bC.of k.2)) (λi σ H'=>(Iv H'/\H' rl=some (.lst zs))/\∃z3,σ=[~~~gp,some (.str nm),~~~q,z3]) ⟨⟨Ng,Nh⟩,_,rfl⟩ (λ_ _ _ _ h=>h.1) ?_ ?_⟩
     ·intro i y σ H3 H4 hi eV eX;symm;obtain⟨⟨Ac,WS⟩,z3,rfl⟩:=eV;obtain⟨rfl,ey⟩:=eX;nofun;rcases ez with rfl | rfl
      case inr=>simp at ey
      symm;obtain⟨d,ed,rd⟩:=Tg.get ey;rw[aaf] at ed;obtain⟨r,er,rfl⟩:=abg.mp ed;obtain⟨p,a1,a2,a3,a4,rfl,hp,b1,b2,b3,b4⟩:=cS.mp (show Rep _ (.tup _) y from rd);obtain⟨dl,ic,rfl,Ep,zO⟩:=aY.mp b3;obtain⟨Kw,EY⟩:=lst Ep;obtain⟨dd,Z6⟩:=D1 r (aan er);rw[Z6] at zO;have Z7:dl≠pl:=JO EY zO λd hd v rv=>by
       obtain⟨d',_,rfl⟩:=abi.mp hd;obtain⟨q',vs,e,gK,_,k⟩:=vg rv;exact⟨q',vs,e,gK,k⟩
      have Z8:dl≠rl:=λz=>by
       rw[z,EX] at EY;cases EY;obtain⟨d',FW,R5⟩:=zO.get ey;rw[aaf] at FW;obtain⟨d'',_,rfl⟩:=abg.mp FW;obtain⟨q',vs,e,gK,k,_⟩:=vg R5;cases e;rw[hp] at gK;cases gK;exact k rfl
      obtain⟨ws,GF,_⟩:=(hI.mp Ac).1.lst Kw EY;nofun;have Kz:=tup (hI.mp Ac).1 hp;simp only[gName,aaH,aaG];dsimp?[lJ,vT,Kz];exact⟨.inl ⟨rfl,_,bC.of GF⟩,_,GF,Tc Ac Kw Z7,by rw[av (Ne.symm Z8)];exact WS,_,rfl⟩
     ·intro σ H3 dg;symm;obtain⟨⟨Ac,WS⟩,z3,rfl⟩:=dg;nofun;exact Z5 _ Ac _
    rintro H3 Ac z3;symm;obtain⟨ws,GF,_⟩:=(hI.mp Ac).1.lst Th EX;nofun;dsimp?[lJ,vT,Ky Ac];exact⟨_,A6,.inl ⟨rfl,_,bC.of GF⟩,_,rfl,_,GF,hN _ (Tc Ac Th Z4) _⟩
   ·dsimp?[];exact hN _ Ng _
   ·dsimp?[Ky iv];refine⟨⋯,λp H3 s3 np ep=>⟨_,ep,rfl,rfl,?_⟩⟩
    by_cases tp:lg x=aac "throw"\/lg x=aac "pick"
    ·rw[if_pos (GD.mpr tp)];exact hY _ ⟨EW iv s3,tp⟩
    ·rw[if_neg (λz=>tp (GD.mp z))];exact Z2 _ (EW iv s3)
  rintro H2 KA z3
  by_cases ek:lg x=aac "throw"
  ·symm;obtain⟨cY,t,b,rs,rfl⟩:=mr ek;nofun;refine cH (λY N k=>by dsimp?[Ky KA];exact k) ?_;symm;obtain⟨q',v1,v2,v3,v4,e0,gK,a1,a2,a3,a4⟩:=cS.mp (show Rep _ (.tup _) (.ref q) from r2);nofun;cases e0;rw[hq] at gK;cases gK;symm;obtain⟨ol,ys,rfl,EG,ry⟩:=aY.mp a2;obtain⟨WT,Ni⟩:=lst EG;have one:ol≠pl:=JO Ni ry λd hd v rv=>by
    obtain⟨ps,e⟩:=(show ∃ps:List Pt,cY=ps.map lZ from PX)
    rw[e] at hd;obtain⟨p,_,rfl⟩:=abi.mp hd;obtain⟨q',vs,e,gK,k⟩:=CM rv;exact⟨q',vs,e,gK,k⟩
   obtain⟨ws,GF,_⟩:=(hI.mp KA).1.lst WT Ni;nofun;dsimp?[lJ,vT,Ky KA];exact⟨.inl ⟨rfl,_,bC.of GF⟩,_,GF,Tc KA WT one,_,rfl⟩
  ·refine bL (λY N k=>by dsimp?[Ky KA];rw[if_neg ek];exact k) ?_;dsimp?[];exact⟨KA,_,rfl⟩
theorem CT:aS ["_law_script","_law_game_here","_law_handed","_law_play","_law_state","_law_got","_law_steps","_law_k","_law_cell_here","_law_some","_law_step"] ["_law_script"] (aq (top 63)):=.mk
theorem JP (T:0|||0) {f:Addr} {fd:FuncData} (F:vZ K "law" "law" (top 63) f fd):fK P w K mg base (cV P w) 20 f fd ["_law_script"] (yw K):=by
 have dX:=yH T;have aJ:=my T;have m8:=Jl T;have eE:=CD T;have iO:=CG T;have kZ:=JI T;have tI:=JN T;have gj:=Cs T;have vh:=Ju T;have vi:=Js T;have xu:=IL T;have tJ:=IM T;have JQ:=IE T;refine F.dZ CT (λvs H Q E h=>?_) (λbY A outer s H vs Q E hr h=>?_)
 ·obtain⟨_,_,rfl,_⟩:=h;rfl
 ·symm;obtain⟨sc,qX,rfl,hS,l63,kk⟩:=h;nofun;clear G_;have nd:=CT.nd;refine⟨_,(ag (aG (i:=1) (aK m8 (aa (pv 0) (aa ae (aa (aD aM ae (aD dz (aK dX (aa (pv 0) (aa ae af))) ae)) (aa ae af))))))
  (ag (aG (i:=2) (aK m8 (aa (pv 0) (aa ae (aa (aD aM ae (aD dz (aK dX (aa (pv 0) (aa ae af))) ae)) (aa ae af))))))
  (ag (aG (i:=3) (FE JQ (hr.mono ∅) rfl j1.pass (aa (pv 2) af)))
  (ag (aG (i:=4) (aK eE (aa (pv 1) (aa (ar ai (ar aX (ar ai (pv 1) ae) ae) ae) (aa (cj rfl (N:=["_law_script","_law_game_here","_law_handed","_law_play","_law_state","_law_got","_law_steps","_law_k","_law_cell_here","_law_some","_law_step"]) (so:=aq (top 63)) (N':=["_law_one"]) (k:=1) (fr:=[]) rfl rfl ⟨rfl,∅,∅,∅,rfl,∅,∅⟩ (bh (K:=K) (ar ai (pv 1) ae)) (λ_ _ _ _ _=>(aV (i:=0) (show(["_law_one"]:List Str).Nodup by ac_rfl) rfl (.inl rfl))) (λ_ _ _ _ _=>dk)
   (λ_ _ _ _ _=>ae)) af)))))
  (ag (aG (i:=5) (a6 (aa ae (aa ae af))))
  (ag (aG (i:=6) (bT af))
  (ag (ck PassesOwn.never rfl (bX rfl T.z_range (aa ae af)) (aV (i:=7) nd rfl (.inl rfl)) (ag (aG (i:=8) (aK dX (aa (pv 0) (aa (aD aM ae (pv 7)) af))))
  (ag (bc (vz (gM (aK kZ (aa (pv 3) (aa (pv 1) (aa (pv 4) (aa (pv 5) (aa (pv 6) (aa (aK aJ (aa (aD aM (pv 8) ae) (aa ae af))) af))))))))) (aj (aR ik))
   aW)
  (ag (aG (i:=9) (aK iO (aa (pv 1) (aa (pv 4) af))))
  (ag (bc (aL bo (aU bK (by rfl) T.z_len aav (aa (pv 9) af)) ae (aQ _)) (aj tY)
   aW)
  (ag (aG (i:=10) (ar aX (pv 9) (aK aJ (aa (pv 8) (aa (aU bK (by rfl) T.z_len aav (aa (pv 9) af)) af)))))
  (ag (bc (gM (aU (c6 (K:=K)) (by rfl) T.z_isinstance rfl (aa (pv 10) (aa (dC (v:=V.ty "str") rfl T.z_str rfl rfl) af)))) (aj (bw (c8 xu T.a9 (pv 3) (aa (pv 10) af))))
   (aj (bw (c8 tJ T.a9 (pv 3) (aa (pv 10) af)))))
  (ag (aG (i:=5) (aK gj (aa (pv 5) (aa (aK vh (aa (pv 1) (aa (pv 4) af))) af))))
  (ag (aG (i:=4) (aK vi (aa (pv 1) (aa (pv 4) (aa (pv 10) af)))))
  (ag (bw (d7 aaw aaX aaY c5.r (pv 6) (aa (dD wA (by rfl) T.z_str rfl (aa (pv 10) af)) af)))
  (aj (bc (aL bo (pv 7) ae (aQ _)) (ag (bc (aL (HP hr.units) (pv 2) (pv 1) (aQ _)) (aj (aR ik))
   aW)
  (ag (bw (lH aaw PySem.F.slot_list_clear PySem.F.type_list_clear iu.r (ar ai (pv 2) ae)))
  (ag (bw (aK tI (aa (pv 2) af)))
  (aj (bw (lH aaw PySem.F.slot_list_reverse PySem.F.type_list_reverse vV.r (ar ai (pv 2) ae)))))))
   aW))))))))))))
  (aj (aR (aK kZ (aa (pv 3) (aa (pv 1) (aa (pv 4) (aa (pv 5) (aa (pv 6) (aa ae af)))))))))))))))),?_⟩
  refine(?_:let bQ:TS:=_;let bR:TS:=_;let bS:TS:=_;let df:TS:=_;let mT:TS:=_;let uY:TS:=_;let BU:TS:=_;let Gs:TS:=_;tSeq bQ (tSeq bR (tSeq bS (tSeq df (tSeq mT (tSeq uY (tSeq BU Gs)))))) _ _ _);intro bQ bR bS df mT uY BU Gs;have S7:=sizeLine_eq;obtain⟨g,eg⟩:∃x,Cn qX 1 (1+e8 qX 0 % 20) 60=x:=⟨_,rfl⟩
  obtain⟨gs,WU⟩:∃x,Cm (e8 qX 1)=x:=⟨_,rfl⟩
  refine aN (λN=>∀H1 gv,aw H H1->c4 H H1 (nE g) gv->MJ g gs->N [~~~sc,some gv,none,none,none,none,none,none,none,none,none] H1) (λN hN=>?_) ?_
  ·dsimp?[Co,Kh];refine⟨qX,hS,∅,∅,∅,qX,hS,∅,∅,⋯,⋯,∅,∅,λu H1 s1 r1 g1=>?_⟩;rw[eg] at r1 g1;rw[WU] at g1;exact hN _ u s1 r1 g1
  rintro H1 gv s1 rb gm;have rg:=rb.rep;refine aN (λN=>∀H2 hv,aw H1 H2->c4 H1 H2 (nE g) hv->N [~~~sc,some gv,some hv,none,none,none,none,none,none,none,none] H2) (λN hN=>?_) ?_
  ·have WV:=s1.seq hS;dsimp?[Co,Kh];refine⟨qX,WV,∅,∅,∅,qX,WV,∅,∅,⋯,⋯,∅,∅,λu H1 s1 r1 g1=>?_⟩;rw[eg] at r1;exact hN _ u s1 r1
  rintro H2 hv s2 Tj;symm;obtain⟨Lh,lL,rl⟩:=CL (show Rep (gG H1 H2) (nE g) hv from Tj);nofun;clear G_;have lh:∀a∈Lh,H1 a=none/\∃ys,H2 a=some (.lst ys):=λa ha=>by
   obtain⟨ys,e⟩:=lL a ha;obtain⟨c,e⟩:=iJ e;refine⟨?_,ys,e⟩;cases h:H1 a with
   | none=>rfl
   | some o=>
    have e2:=s2 _ _ h;rw[e] at e2;cases e2;exact absurd h (c ys)
  have rh:Rep (jT Lh H2) (nE g) hv:=rl.mono (gI (λ_ h=>h) λa o h _=>(iJ h).2);clear rl lL;symm;obtain⟨ft,P1,KC⟩:=gm.hd;obtain⟨nm,x0,ak,Aa,WW⟩:=gm.to ft P1 (abn g.cs.length 0);nofun;clear G_;refine aN (λN=>∀H3 p tl tb,yN aA ah H2 (tT H2) H3 p tl tb g nm->N [~~~sc,some gv,some hv,~~~p,none,none,none,none,none,none,none] H3) (λN hN=>?_) ?_
  ·dsimp?[xF,F7];intro x dx nx Qm ne;exact⟨dx,ao,H2,λa o h=>by rw[av (λz=>by rw[z,nx] at h;cases h),av (λz=>by rw[z,Qm] at h;cases h)];exact h,nx,g,Tj.rep,gm.good,gm.nl,3,ft,KC,nm,ak,λc sv qT tl tb H' kH n1 n2 h1 h2 h3 co st rp=>hN _ x tl tb (EU o9 nx Qm kH n1 n2 h1 h2 h3 co st rp)⟩
  rintro H3 p tl tb md;have KD:=md.sm;have EZ:=s2.trans KD;symm;obtain⟨gp,cv,qT,rfl,qS,rc,rp⟩:=bu.mp (show Rep H1 (.tup _) gv from rg);obtain⟨cl,u0,rfl,fY,pK⟩:=aY.mp (show Rep H1 (.lst _) cv from rc);obtain⟨pl,yy,rfl,hpl,yz⟩:=aY.mp (show Rep H1 (.lst _) qT from rp);nofun;clear G_;refine aN (λN=>∀H4 sa l,aw H3 H4->H3 sa=none->H3 l=none->H4 sa=some (.tup [.str nm,.ref l])->H4 l=some (.lst ((abn g.cs.length (0:Int)).map V.int))->N [~~~sc,~~~gp,some hv,~~~p,~~~sa,none,none,none,none,none,none] H4) (λN hN=>?_) ?_
  ·dsimp?[yF,EZ _ _ qS,EZ _ _ hpl,EZ _ _ fY];obtain⟨p0,rest,WX⟩:∃p0 rest,g.ps=p0::rest:=by
    cases e:g.ps with
    | nil=>rw[e] at KC;cases KC
    | cons a b=>exact⟨a,b,rfl⟩
   have e0:p0.1=ft:=by rw[WX] at KC;exact aay KC
   obtain⟨v,ev,rv⟩:=yz.at (i:=0) (by rw[aaf,WX];rfl);symm;obtain⟨q,x1,x2,rfl,hq,r1,r2⟩:=bu.mp (show Rep H1 (.tup _) v from rv);have r1:=aI.mp r1;rw[e0] at r1;subst r1;nofun;have u3:=pK.length;rw[aad] at u3;have lcs:=gm.good.lc;refine⟨_,bM (j:=0) ev,q,rfl,_,EZ _ _ hq,_,at0,⟨_,bC.of (EZ _ _ fY)⟩,?_⟩;have S:Src (vj K cl) (aw H3) u0.length _:=src_list (λH' s'=>bC.of (s' _ _ (EZ _ _ fY)));rw[<-u3] at S;refine lQ g.cs (λ_=>some 0) S (λ_ _ _ _ h=>h.1) ⋯ (λi a x _ _ Y N y1 y2=>?_) ?_
   ·unfold pP;refine AO ?_;dsimp?[];exact y1 _ rfl
   ·intro D n1 n2;have er:g.cs.filterMap (λ_=>some (0:Int))=abn g.cs.length 0:=by rw[List.filterMap_eq_map',List.map_const']
    rw[er];have sD:=au (o:=.lst (List.map V.int (abn g.cs.length (0:Int)))) n1;exact⟨ft,rfl,g,rg.mono (EZ.trans sD),gm.good,_,ao,aa4,3,nm,ak,λa l' H4 s4 na MZ ha hl=>hN H4 a l' (sD.trans s4) (none_of sD na) (none_of sD MZ) ha hl⟩
  rintro H4 sa l s4 WY nl gS hl;refine aN (λN=>∀H5 r,aw H4 H5->H5 r=some (.tup [.int 0,.int 1])->N [~~~sc,~~~gp,some hv,~~~p,~~~sa,~~~r,none,none,none,none,none] H5) (λN hN=>?_) ?_
  ·dsimp?[];exact⟨⋯,λr H5 s5 nr er=>hN _ r s5 er⟩
  rintro H5 r s5 WZ;refine aN (λN=>∀H6 sl,aw H5 H6->H5 sl=none->H6 sl=some (.lst [])->N [~~~sc,~~~gp,some hv,~~~p,~~~sa,~~~r,~~~sl,none,none,none,none] H6) (λN hN=>?_) ?_
  ·dsimp?[];exact⟨aah _,λsl KE=>hN _ sl (au KE) KE ao⟩
  rintro H6 sl s6 KE xR;symm;obtain⟨np,zT,mj⟩:=md.np;obtain⟨Y,dp0,c0,sv0,pv0,hY,Kz,E1,w5,_⟩:=md.ex;obtain⟨L,eL⟩:∃L,L=sl::p::tl::tb::Lh:=⟨_,rfl⟩
  nofun;clear G_;have GG:=s4.trans (s5.trans s6);have pH:H3 sl=none:=none_of (s4.trans s5) KE;have Nj:H2 sl=none:=none_of KD pH;have mL:(sl∈L/\p∈L/\tl∈L/\tb∈L)/\∀a∈Lh,a∈L:=by rw[eL];exact⟨by simp,λa ha=>by simp [ha]⟩
  have oL:∀a∈L,a=sl\/a=p\/a=tl\/a=tb\/a∈Lh:=λa ha=>by rw[eL] at ha;simpa using ha
  clear eL;have Kn:∀a,H2 a=none->a∉Lh:=λa n m=>by obtain⟨_,ys,e⟩:=lh a m;rw[n] at e;cases e
  have Qn:sl≠p:=λz=>by rw[z,Kz] at pH;cases pH
  have E2:sl≠tl:=λz=>by rw[z,E1] at pH;cases pH
  have E3:sl≠tb:=λz=>by rw[z,w5] at pH;cases pH
  have m4:∀a∈[p,tl,tb,sl],a∈L/\a∉Lh:=λa ha=>by
   simp only[aaB,aaO,or_false] at ha;rcases ha with rfl | rfl | rfl | rfl
   ·exact⟨mL.1.2.1,Kn _ np⟩
   ·exact⟨mL.1.2.2.1,Kn _ zT⟩
   ·exact⟨mL.1.2.2.2,Kn _ mj⟩
   ·exact⟨mL.1.1,Kn _ Nj⟩
  have W0:∀a∈L,∃o,H6 a=some o/\∀vs,o≠.tup vs:=λa ha=>by
   rcases oL a ha with rfl | rfl | rfl | rfl | ha
   ·exact⟨_,xR,λ_ z=>by cases z⟩
   ·exact⟨_,GG _ _ Kz,λ_ z=>by cases z⟩
   ·exact⟨_,GG _ _ E1,λ_ z=>by cases z⟩
   ·exact⟨_,GG _ _ w5,λ_ z=>by cases z⟩
   ·symm;obtain⟨_,ys,e⟩:=lh a ha;nofun;exact⟨_,(KD.trans GG) _ _ e,λ_ z=>by cases z⟩
  have Nk:∀{a},H3 a=none->a≠sl->a∉L:=λ{a} n ne m=>by
   rcases oL a m with e | e | e | e | ha
   ·exact ne e
   ·rw[e,Kz] at n;cases n
   ·rw[e,E1] at n;cases n
   ·rw[e,w5] at n;cases n
   ·obtain⟨_,ys,e⟩:=lh a ha;rw[KD _ _ e] at n;cases n
  have Tn:di aA ah L H6 p tl tb g (nm,abn g.cs.length 0) (0,1) []:=md.JF GG (λa o h n h3 m=>by
   rcases oL a m with e | e | e | e | ha
   ·rw[e,pH] at h3;cases h3
   ·exact n (by simp [e])
   ·exact n (by simp [e])
   ·exact n (by simp [e])
   ·rcases h with h | h
    ·exact Kn a h ha
    ·symm;obtain⟨_,ys,e⟩:=lh a ha;obtain⟨h,vs,z⟩:=BI h;nofun;rw[e] at h;cases h;cases z) mL.1.2 W0 gm.good
  have b6:aw H1 (bG L H6):=λa o h=>by
   rw[cA (λm=>?_)]
   ·exact(EZ.trans GG) _ _ h
   ·rcases oL a m with e | e | e | e | ha
    ·rw[<-e,EZ _ _ h] at pH;cases pH
    ·rw[<-e,s2 _ _ h] at np;cases np
    ·rw[<-e,s2 _ _ h] at zT;cases zT
    ·rw[<-e,s2 _ _ h] at mj;cases mj
    ·rw[(lh a ha).1] at h;cases h
  have Lr:∀{a o},H3 a=none->H5 a=some o->bG L H6 a=some o:=λ{a o} n h=>by
   rw[cA (Nk n (λz=>by rw[z,KE] at h;cases h))];exact s6 _ _ h
  have W1:Rep (jT Lh H6) (nE g) hv:=rh.mono (gI (λ_ h=>h) λa o h _=>(KD.trans GG) _ _ h);obtain⟨LP,Nl⟩:∃LP:Nat->Hp->V->V->Prop,∀i H' sv pv,LP i H' sv pv↔∃st pd tr,di aA ah L H' p tl tb g st pd tr/\aw H1 (bG L H')/\zW g gs st/\mP (bG L H') sv st.1 st.2/\Rep (bG L H') (dq pd) pv/\kD (20* (i:Int)) pd/\tr.length<=i/\(∀e∈tr,Kj e.1)/\H' sl=some (.lst ((tr.map (·.1)).map V.str))/\(∀b∈Lh,∃ys,H' b=some (.lst ys))/\(i<=1->Rep (jT Lh H') (nE g) hv):=⟨_,λ_ _ _ _=>Iff.rfl⟩
  have Np:=λ{i H' sv pv}=>Nl i H' sv pv;clear Nl;have Z9:LP 0 H6 (.ref sa) (.ref r):=Np.mpr ⟨(nm,abn g.cs.length 0),(0,1),[],Tn,b6,⟨aa4,(λn hn=>by rw[List.eq_of_mem_replicate hn];decide),x0,Aa,WW⟩,⟨sa,l,rfl,Lr WY (s5 _ _ gS),Lr nl (s5 _ _ hl)⟩,b9.mpr ⟨r,rfl,Tn.tup (s6 _ _ WZ)⟩,iU 0 ∅ ∅,aag _,(λe he=>by cases he),xR,λb hb=>by obtain⟨_,ys,e⟩:=lh b hb;exact⟨ys,(KD.trans GG) _ _ e⟩,λ_=>W1⟩;clear W1 Lr b6 Tn W0 Nk xR KE Nj pH hl gS WY nl WZ hY Kz E1 w5 rh Tj Aa WW ak KC P1 eg WU rb;have W2:∀{H' fG},KL [p,tl,tb,sl] H' fG->(∀a∈L,∃o,H' a=some o/\∀vs,o≠.tup vs)->aw (jT Lh H') (jT Lh fG):=λ{H' fG} k al=>gI (λ_ h=>h) λa o h c=>k a o (λm=>by
   obtain⟨m1,m2⟩:=m4 a m;rcases c with ⟨vs,e⟩ | c
   ·symm;obtain⟨o',h',n⟩:=al a m1;nofun;rw[h] at h';cases h';exact n _ e
   ·exact m2 c) h
  have JR:∀{H' fG},K3 p tl tb H' fG->KL [p,tl,tb,sl] H' fG:=λk a o n h=>by
   simp only[aaB,aaO,or_false,not_or] at n;exact k a o n.1 n.2.1 n.2.2.1 h
  have lpk:∀{i:Nat} {H' fG sv pv st pd tr},K3 p tl tb H' fG->di aA ah L H' p tl tb g st pd tr->di aA ah L fG p tl tb g st pd tr->aw H1 (bG L H')->zW g gs st->mP (bG L H') sv st.1 st.2->Rep (bG L H') (dq pd) pv->kD (20* (i:Int)) pd->tr.length<=i->(∀e∈tr,Kj e.1)->H' sl=some (.lst ((tr.map (·.1)).map V.str))->(∀b∈Lh,∃ys,H' b=some (.lst ys))->(i<=1->Rep (jT Lh H') (nE g) hv)->LP i fG sv pv:=λ{i H' fG sv pv st pd tr} k p1 p2 b sk Wi u9 hf ln tw hs ll hh=>by
   have s:=(JR k).cG (L:=L) λa ha=>(m4 a ha).1;exact Np.mpr ⟨st,pd,tr,p2,b.trans s,sk,Wi.mono s,u9.mono s,hf,ln,tw,k _ _ Qn E2 E3 hs,λb hb=>(ll b hb).imp λys e=>JR k b _ (λm=>(m4 b m).2 hb) e,λh=>(hh h).mono (W2 (JR k) p1.al)⟩
  refine aN (λN=>∀H' sv u9,(∃i,i<=21/\LP i H' sv u9)->∀z7 z8 z9 lj,N [~~~sc,~~~gp,some hv,~~~p,some sv,some u9,~~~sl,z7,z8,z9,lj] H') (λNo W3=>?_) ?_
  ·dsimp?[];refine⟨∅,∅,bJ (src_range (Ok:=λ_=>True)) (λi σ H'=>∃sv u9,LP i H' sv u9/\∃z7 z8 z9 lj,σ=[~~~sc,~~~gp,some hv,~~~p,some sv,some u9,~~~sl,z7,z8,z9,lj]) ⟨_,_,Z9,_,_,_,_,rfl⟩ (λ_ _ _ _ _=>trivial) ?_ ?_⟩
   case refine_2=>
    intro σ H7 dg;symm;obtain⟨sv,u9,lp,z7,z8,z9,lj,rfl⟩:=dg;nofun;exact W3 _ _ _ ⟨21,aag _,lp⟩ _ _ _ _
   intro k y σ H7' H7 hk eV eX;symm;obtain⟨sv,u9,lp,z7,z8,z9,lj,rfl⟩:=eV;obtain⟨rfl,rfl⟩:=eX;have aaa:k<21:=hk;obtain⟨st,pd,tr,JF,b7,sk,vp,CI,hf,ln,tw,xR,ll,hh⟩:=Np.mp lp;obtain⟨x,lk,wx⟩:=sk.at_;nofun;clear G_;simp only[gName,aaH,aaG,aaS];refine aN (λN=>N [~~~sc,~~~gp,some hv,~~~p,some sv,some u9,~~~sl,some (.int (k:Int)),some (.int (e8 qX (5+ (k:Int)))),z9,lj] H7) (λN hN=>?_) ?_
   ·dsimp?[Kh];exact⟨qX,((s1.trans b7).trans aT).seq hS,⋯,⋯,hN⟩
   generalize e8 qX (5+ (k:Int))=c;have m0:=cB (c:=c+1) (m:=8) ∅;have m1:=cQ (c:=c+1) (m:=8) ∅;refine aN (λN=>∀H8,K3 p tl tb H7 H8->di aA ah L H8 p tl tb g st pd tr->N [~~~sc,~~~gp,some hv,~~~p,some sv,some u9,~~~sl,some (.int (k:Int)),c⁻¹,z9,lj] H8) (λN hN=>?_) ?_
   ·dsimp?[CP,b5];refine⟨∅,m0,m1,tl,tb,L,g,gs,st,pd,tr,JF,rg.mono b7,gm,sk,vp,CI,hf.le ⋯,⋯,tw,xR,λH' k' vm=>?_⟩;rw[if_neg ∅];exact hN H' k' vm
   rintro H8 k8 pl8;have a8:=(JR k8).cG (L:=L) λa ha=>(m4 a ha).1;have b8:=b7.trans a8;refine aN (λN=>∀H9 ol ds,aw H8 H9->Rep H9 (.lst ds) (.ref ol)->F9 g st x ds->N [~~~sc,~~~gp,some hv,~~~p,some sv,some u9,~~~sl,some (.int (k:Int)),c⁻¹,~~~ol,lj] H9) (λN hN=>?_) ?_
   ·dsimp?[Cr];exact⟨g,rg.mono (b8.trans aT),gm.good,gs,st,(vp.mono a8).mono aT,sk.len,x,lk,wx,λa H9 ds s9 na ra od=>hN H9 a ds s9 ra od⟩
   rintro H9 ol ds s9 rds od;symm;obtain⟨ol',ic,e0,EG,Ta⟩:=aY.mp rds;nofun;clear G_;cases e0;have Qo:=pl8.same s9;have k9:=k8.trans (.of s9);refine aN (λN=>0<ic.length->N [~~~sc,~~~gp,some hv,~~~p,some sv,some u9,~~~sl,some (.int (k:Int)),c⁻¹,~~~ol,lj] H9) (λN hN9=>?_) ?_
   ·by_cases z:ic.length=0
    ·refine cH (λY N k=>by dsimp?[EG];rw[if_pos ⋯];exact k) ?_;dsimp?[];exact W3 _ _ _ ⟨k,⋯,lpk k9 JF Qo b7 sk vp CI hf ln tw xR ll hh⟩ _ _ _ _
    ·refine bL (λY N k=>by dsimp?[EG];rw[if_neg ⋯];exact k) ?_;dsimp?[];exact hN9 ⋯
   rintro WN;have c0:=cB (c:=c) (m:=(ic.length:Int)) ⋯;have c1:=cQ (c:=c) (m:=(ic.length:Int)) ⋯;generalize hb:a5 c (ic.length:Int)=b at *;obtain⟨j,rfl⟩:∃j:Nat,b=(j:Int):=⟨b.toNat,⋯⟩
   have hj:j<ic.length:=⋯
   obtain⟨v,ev⟩:∃v,ic[j]?=some v:=⟨_,aai hj⟩
   symm;obtain⟨d,ed,rd⟩:=Ta.get ev;obtain⟨w',py,fH,vo,sk',B8,sw⟩:=ER gm sk lk wx od (aan ed);nofun;clear G_;refine aN (λN=>N [~~~sc,~~~gp,some hv,~~~p,some sv,some u9,~~~sl,some (.int (k:Int)),c⁻¹,~~~ol,some v] H9) (λN hN=>?_) ?_
   ·dsimp?[b5,EG];rw[hb];exact⟨⋯,_,bM ev,hN⟩
   have Aa:∀{k:Str} {a b c d:V},(k==aac "course")=false->(k==aac "state")=false->(k==aac "paid")=false->(k==aac "trail")=false->List.lookup k (jo a b c d)=none:=λh1 h2 h3 h4=>by
    unfold jo;rw[bI h1,bI h2,bI h3,bI h4];rfl
   symm;obtain⟨dp,cc,sv2,pv2,ys2,Nq,_⟩:=Qo.ex;nofun;clear G_;refine aN (λN=>∀zN,K3 p tl tb H9 zN->di aA ah L zN p tl tb g fH (Wq.pl pd py) (tr++ [(w',st,pd)])->N [~~~sc,~~~gp,some hv,~~~p,some sv,some u9,~~~sl,some (.int (k:Int)),c⁻¹,~~~ol,some v] zN) (λN hN=>?_) ?_
   ·rcases vo with ⟨vn,rs,r,jn,Gx,M3,rfl,rfl,e2,ak⟩ | ⟨ps,t',b,rs,r,n,jn,gl,hn,v0,v1,rfl,rfl,rfl,ro,e2,ak⟩
    ·obtain rfl:=aI.mp rd;dsimp?[cg,Gd];refine⟨_,.str _,true,wa,?_⟩;rw[if_pos rfl];refine⟨_,_,Nq,Aa ∅ ∅ ∅ ∅,tl,tb,L,g,st,pd,tr,Qo,⋯,_,jn,hf.le ⋯,(λz=>by rw[M3] at z;cases z),λr' er=>?_⟩;rw[M3] at er;cases er;rw[e2] at ak;exact⟨3,fH.1,ak,λz=>absurd z ⋯,λ_ H1 k1 tQ=>hN H1 k1 (by rw[<-e2] at tQ;exact tQ)⟩
    ·obtain rfl:=bg.mp rd;dsimp?[cg,Ge];refine⟨_,.int _,false,CO,?_⟩;rw[if_neg ∅];rw[e2] at ak;exact⟨_,_,Nq,Aa ∅ ∅ ∅ ∅,tl,tb,L,g,st,pd,tr,Qo,⋯,ps,_,_,rs,jn,gl,hn,v0,v1,r,ro,3,fH.1,ak,hf.le ⋯,B8.le ∅,λz=>absurd z ⋯,λ_ H1 k1 tQ=>hN H1 k1 (by rw[<-e2] at tQ;exact tQ)⟩
   rintro zN k10 Nr;have CU:=k9.trans k10;have W4:=b7.trans ((JR CU).cG (L:=L) λa ha=>(m4 a ha).1);have Qp:=(JR CU).cG (L:=L) λa ha=>(m4 a ha).1;have pw:Ja x=py:=by
    rcases vo with ⟨vn,rs,r,jn,_,_,_,rfl,_,_⟩ | ⟨ps,t',b,rs,r,v,jn,_,_,_,_,_,_,rfl,_⟩
    ·rw[lk] at jn;cases jn;rfl
    ·rw[lk] at jn;cases jn;rfl
   have dv1:∀H',Rep H' d v:=λH'=>by
    rcases vo with ⟨vn,rs,r,jn,_,_,rfl,_,_,_⟩ | ⟨ps,t',b,rs,r,v,jn,_,_,_,_,rfl,_,_,_⟩
    ·exact aI.mpr (aI.mp rd)
    ·exact bg.mpr (bg.mp rd)
   have tx:VU v=some w':=by
    rcases vo with ⟨_,_,_,_,_,_,rfl,_⟩ | ⟨_,_,_,_,_,n,_,_,_,v0,v1,rfl,rfl,_⟩
    ·rw[aI.mp rd];rfl
    ·rw[bg.mp rd];exact if_pos (Nat.lt_of_le_of_lt (Nat.log2_le_self _) ⋯)
   refine aN (λN=>∀E4 r,aw zN E4->E4 r=some (.tup (Pr (Wq.pl pd py).1 (Wq.pl pd py).2))->N [~~~sc,~~~gp,some hv,~~~p,some sv,~~~r,~~~sl,some (.int (k:Int)),c⁻¹,~~~ol,some v] E4) (λN hN=>?_) ?_
   ·dsimp?[pq,Gp];refine⟨g,rg.mono (W4.trans aT),gm.good,st,(vp.mono Qp).mono aT,x,lk,λu E4 GH ru=>?_⟩;rw[pw] at ru;exact⟨pd,(CI.mono Qp).mono (aT.trans GH),py,ru,hf.le ⋯,B8.le ∅,λr yO Gh nr er=>hN _ r (GH.trans Gh) er⟩
   rintro E4 E5 GH JS;have v11:aw (bG L zN) E4:=aT.trans GH;have nrs:E5≠sl:=λz=>by rw[z,GH _ _ (CU _ _ Qn E2 E3 xR)] at JS;cases JS
   refine aN (λN=>∀yO a l,aw E4 yO->E4 a=none->E4 l=none->yO a=some (.tup [.str fH.1,.ref l])->yO l=some (.lst (List.map V.int fH.2))->N [~~~sc,~~~gp,some hv,~~~p,~~~a,~~~E5,~~~sl,some (.int (k:Int)),c⁻¹,~~~ol,some v] yO) (λN hN=>?_) ?_
   ·dsimp?[Gn];exact⟨g,rg.mono (W4.trans v11),gm.good,st,(vp.mono Qp).mono v11,sk.len,d,dv1 _,w',py,fH,vo,λa l yO Gh na nl ha hl=>hN yO a l Gh na nl ha hl⟩
   rintro yO JT l12 Gh na nl ha hl;have yP:=GH.trans Gh;have Nt:=Nr.same yP;have GI:yO sl=some (.lst ((tr.map (·.1)).map V.str)):=yP _ _ (CU _ _ Qn E2 E3 xR);refine aN (λN=>N [~~~sc,~~~gp,some hv,~~~p,~~~JT,~~~E5,~~~sl,some (.int (k:Int)),c⁻¹,~~~ol,some v] (upd yO sl (.lst (((tr++ [(w',st,pd)]).map (·.1)).map V.str)))) (λN hN=>?_) ?_
   ·rw[aak,aak] at hN;dsimp?[dS];exact⟨.inl ⟨rfl,_,bC.of GI⟩,_,tx,_,GI,by rw[aad,aad];lia,hN⟩
   have n4:∀{b},zN b=none->b∉L:=λn=>Nr.out n;generalize eH:upd yO sl (.lst (((tr++ [(w',st,pd)]).map (·.1)).map V.str))=tK;have qY:KL [sl] yO tK:=λb o n h=>by rw[<-eH,av (λz=>n (by simp [z]))];exact h
   have GJ:aw (bG L yO) (bG L tK):=qY.cG λb hb=>by rw[abj.mp hb];exact mL.1.1
   have GK:tK sl=some (.lst (((tr++ [(w',st,pd)]).map (·.1)).map V.str)):=by rw[<-eH];exact ao
   have JU:di aA ah L tK p tl tb g fH (Wq.pl pd py) (tr++ [(w',st,pd)]):=Nt.kept GJ (λb hb o h=>qY b o (λm=>by
    rw[abj] at m;rcases hb with e | e | e
    ·exact Qn (m.symm.trans e)
    ·exact E2 (m.symm.trans e)
    ·exact E3 (m.symm.trans e)) h) λb hb=>by
    by_cases z:b=sl
    ·exact⟨_,by rw[z];exact GK,λ_ e=>by cases e⟩
    ·symm;obtain⟨o,h,n⟩:=Nt.al b hb;nofun;exact⟨o,qY b o (by simpa using z) h,n⟩
   have fr:∀{b o},zN b=none->yO b=some o->bG L tK b=some o:=λn h=>by
    rw[cA (n4 n)];exact qY _ _ (λm=>n4 n (by rw[abj.mp m];exact mL.1.1)) h
   have To:aw (bG L H7) (bG L tK):=Qp.trans ((mm yP).trans GJ);have W5:=b7.trans To;have Nu:KL [p,tl,tb,sl] H7 tK:=(JR CU).trans ((KL.of yP).trans λb o n h=>qY b o (λm=>n (by rw[abj.mp m];simp)) h);have Tp:mP (bG L tK) (.ref JT) fH.1 fH.2:=⟨JT,l12,rfl,fr (none_of GH na) ha,fr (none_of GH nl) hl⟩
   have Tq:Rep (bG L tK) (dq (Wq.pl pd py)) (.ref E5):=b9.mpr ⟨E5,rfl,JU.tup (qY _ _ (λm=>nrs (abj.mp m)) (Gh _ _ JS))⟩;have Tr:∀e∈tr++ [(w',st,pd)],Kj e.1:=λe he=>by
    rcases List.mem_append.mp he with he | he
    ·exact tw e he
    ·rw[abj.mp he];exact sw
   have Nv:k<=1->Rep (jT Lh tK) (nE g) hv:=λh=>(hh h).mono (W2 Nu JF.al);have Nw:∀H',KL Lh tK H'->(∀b∈Lh,∃ys,H' b=some (.lst ys))->(k+1<=1->Rep (jT Lh H') (nE g) hv)->LP (k+1) H' (.ref JT) (.ref E5):=λH' kl ls h=>by
    have s':=kl.cG mL.2;have vm:di aA ah L H' p tl tb g fH (Wq.pl pd py) (tr++ [(w',st,pd)]):=JU.kept s' (λb hb o h=>kl b o (by rcases hb with e | e | e <;>rw[e];exact(m4 p (by simp)).2;exact(m4 tl (by simp)).2;exact(m4 tb (by simp)).2) h) λb hb=>by
     by_cases z:b∈Lh
     ·obtain⟨ys,e⟩:=ls b z;exact⟨_,e,λ_ z=>by cases z⟩
     ·obtain⟨o,h,n⟩:=JU.al b hb;exact⟨o,kl b o z h,n⟩
    exact Np.mpr ⟨fH,Wq.pl pd py,tr++ [(w',st,pd)],vm,W5.trans s',sk',Tp.mono s',Tq.mono s',(hf.pl B8).le ⋯,by rw[aaq];exact Nat.succ_le_succ ln,Tr,kl _ _ (m4 sl (by simp)).2 GK,ls,h⟩
   have E6:∀b∈Lh,∃ys,tK b=some (.lst ys):=λb hb=>(ll b hb).imp λys e=>Nu b _ (λm=>(m4 b m).2 hb) e
   by_cases z:k=1
   ·subst z;have rh:=Nv (aag _);symm;obtain⟨hp,ccv,hpv,rfl,hhp,hrc,PZ⟩:=bu.mp (show Rep _ (.tup _) hv from rh);obtain⟨W6,cys,rfl,Ts,Tt⟩:=aY.mp hrc;obtain⟨hpl,aab,rfl,Tu,rhp⟩:=aY.mp PZ;have E7:=(eF hhp).1;have lst:∀{a ys},jT Lh tK a=some (.lst ys)->a∈Lh/\tK a=some (.lst ys):=λh=>by
     obtain⟨e,⟨_,z⟩ | ⟨_,z,m⟩⟩:=eF h
     ·cases z
     ·exact⟨m,e⟩
    obtain⟨cL,yQ⟩:=lst Ts;obtain⟨pL,GL⟩:=lst Tu;nofun;have hpL:hp∉Lh:=λm=>by
     obtain⟨ys,e⟩:=E6 _ m;rw[E7] at e;cases e
    have Di:W6≠hpl:=λz=>by
     rw[z,GL] at yQ;cases yQ;obtain⟨v0,IA,IB⟩:=rhp.at (i:=0) (by rw[aaf,aai gm.good.p0];rfl);symm;obtain⟨d0,W7,rd0⟩:=Tt.get IA;rw[aaf] at W7;obtain⟨c0,_,rfl⟩:=abg.mp W7;obtain⟨q1,x1,x2,rfl,FC,_,r2⟩:=bu.mp (show Rep _ (.tup _) v0 from IB);obtain⟨q2,y1,y2,e,Ip,_,r4⟩:=bu.mp (show Rep _ (.tup _) (.ref q1) from rd0);nofun;cases e;rw[FC] at Ip;cases Ip;symm;obtain⟨q3,vk,rfl,_⟩:=jr r2;nofun;cases bg.mp r4
    refine cH (λY N k=>by dsimp?[];exact k) ?_;refine aN (λN=>N [~~~sc,~~~gp,~~~hp,~~~p,~~~JT,~~~E5,~~~sl,some (.int ((1:Nat):Int)),c⁻¹,~~~ol,some v] tK) (λN hN=>?_) ?_
    ·refine bL (λY N k=>?_) (by dsimp?[];exact hN);dsimp?[Ly];refine⟨nE g,rh.mono ET,rg.mono (W5.trans aT),⟨_,rfl⟩,JE gm.nl,?_⟩;rw[if_neg ∅];exact k
    refine aN (λN=>N [~~~sc,~~~gp,~~~hp,~~~p,~~~JT,~~~E5,~~~sl,some (.int ((1:Nat):Int)),c⁻¹,~~~ol,some v] (upd tK W6 (.lst []))) (λN hN=>?_) ?_
    ·dsimp?[lJ,vT,E7];exact⟨.inl ⟨rfl,_,bC.of yQ⟩,_,yQ,hN⟩
    refine aN (λN=>∀Tv,vq Lh tK Tv->N [~~~sc,~~~gp,~~~hp,~~~p,~~~JT,~~~E5,~~~sl,some (.int ((1:Nat):Int)),c⁻¹,~~~ol,some v] Tv) (λN hN=>?_) ?_
    ·dsimp?[GB];exact⟨tK,Lh,E6,g,rh,gm.good,gm.nl,_,hpl,E7,vq.refl.clear cL,by rw[av (Ne.symm Di)],λH' s=>hN H' s⟩
    rintro Tv sp;symm;obtain⟨zs,Nh,ez⟩:=sp.lst pL GL;nofun;dsimp?[ud,vT,sp.1 _ _ hpL E7];refine⟨.inl ⟨rfl,_,bC.of Nh⟩,_,Nh,_,_,Nw _ (λb o n h=>?_) (λb hb=>?_) (λh=>absurd h ∅),rfl,rfl,_,rfl⟩
    ·rw[av (λz=>n (by rw[z];exact pL))];exact sp.1 b o n h
    ·by_cases z:b=hpl
     ·exact⟨_,by rw[z];exact ao⟩
     ·obtain⟨ys,e⟩:=E6 b hb;symm;obtain⟨ws,e,_⟩:=sp.lst hb e;nofun;exact⟨ws,by rw[av z];exact e⟩
   ·refine bL (λY N k=>by dsimp?[];rw[if_neg ⋯];exact k) ?_;dsimp?[];exact⟨_,_,Nw tK (KL.of (aw.refl _)) E6 λh=>Nv ⋯,rfl,rfl,_,rfl⟩
  intro H7 sv u9 BP z7 z8 z9 lj;symm;obtain⟨i,i21,lp⟩:=BP;obtain⟨st,pd,tr,JF,b,sk,vp,CI,hf,ln,tw,xR,_,_⟩:=Np.mp lp;nofun;dsimp?[CP];exact⟨∅,∅,tl,tb,L,g,gs,st,pd,tr,JF,rg.mono b,gm,sk,vp,CI,hf.le ⋯,⋯,tw,xR,λH' _ _=>kk _⟩
end
theorem all_mk {l:PySem.W.OpenLaw} {w:World} {K:aba} {h:Heap} {mg:Str->Option Value} {fa:Addr} (X:K.In h) (G:h.Ns mainGlobals mg) (hfa:mg "law"=some (.ref fa))
  {Tx:Addr} {Tz TB:Option Addr} {TC:Array (Option Value)} {TF TH TK TL Nx TM:Value} {pI:Tok} {pJ:Tok} {qr:Tok} {aE aF aB aH ah aA:Addr} {Qq:Addr} {TN TQ:Option Addr} {TU:Array (Option Value)} {TV TX TY TZ Ny T2:Value} {Qr:Addr} {T3 T4:Option Addr} {T5:Array (Option Value)} {T6 T7 T8 T9 Nz Ua:Value} {Qs:Addr} {Ub Uc:Option Addr} {Ud:Array (Option Value)} {Ue Ug Uh Ui NA Uj:Value} {Qt:Addr} {Uk Ul:Option Addr} {Um:Array (Option Value)} {Uo Up Uq Ur NB Us:Value} {Qu:Addr} {Ut Uu:Option Addr} {Uv:Array (Option Value)} {Uw Ux Uy Uz NC UA:Value} {Qv:Addr} {UB UC:Option Addr} {UD:Array (Option Value)} {UE UG UH UI ND UJ:Value} {Qw:Addr} {UK UM:Option Addr} {UN:Array (Option Value)} {UO UP UQ UR NF US:Value} {Qx:Addr} {UT UU:Option Addr} {UW:Array (Option Value)} {UX UY UZ U0 NG U1:Value} {Qy:Addr} {U2 U3:Option Addr} {U4:Array (Option Value)} {U5 U6 U7 U8 NH U9:Value} {Qz:Addr} {Va Vb:Option Addr} {Vc:Array (Option Value)} {Vd Ve Vf Vg NI Vh:Value} {E8:Addr} {NJ NK:Option Addr} {NM:Array (Option Value)} {NN NO NP NQ GN NS:Value} {E9:Addr} {NT NU:Option Addr} {NV:Array (Option Value)} {NW NX NY NZ GO N0:Value} {Fb:Addr} {N1 N4:Option Addr} {N5:Array (Option Value)} {N6 N7 N8 N9 GP Oa:Value} {Fc:Addr} {Ob Oc:Option Addr} {Od:Array (Option Value)} {Oe Of Og Oh GQ Oi:Value} {Fd:Addr} {Oj Ol:Option Addr} {Om:Array (Option Value)} {Oo Oq Ot Ou GR Ov:Value} {Fe:Addr} {Ow Ox:Option Addr} {Oy:Array (Option Value)} {Oz OA OB OC GS OD:Value} {Ff:Addr} {OE OF:Option Addr} {OG:Array (Option Value)} {OH OI OJ OK GU OL:Value} {Fg:Addr} {OM ON:Option Addr} {OO:Array (Option Value)} {OP OQ OR OS GV OT:Value} {Fh:Addr} {OU OV:Option Addr} {OW:Array (Option Value)} {OX OY OZ O0 GW O1:Value} {Fi:Addr} {O2 O3:Option Addr} {O4:Array (Option Value)} {O5 O6 O7 O8 GX O9:Value} {Fj:Addr} {Pa Pb:Option Addr} {Pc:Array (Option Value)} {Pd Pe Pf Pg GY Ph:Value}
  (h0:fP K "is_whole" "is_whole" (top 8))
  (h1:fP K "common_divisor" "common_divisor" (top 9))
  (h2:fP K "share" "share" (top 10))
  (h3:fP K "plus" "plus" (top 11))
  (h4:fP K "table_by_weights" "table_by_weights" (top 13))
  (h5:fP K "table_of" "table_of" (top 14))
  (h6:fP K "power" "power" (top 18))
  (h7:fP K "most_faces" "most_faces" (top 19))
  (h8:fP K "part_bottom" "part_bottom" (top 20))
  (h9:fP K "part_count" "part_count" (top 21))
  (h10:fP K "check_size" "check_size" (top 22))
  (h11:fP K "dice_faces" "dice_faces" (top 23))
  (h12:fP K "again_faces" "again_faces" (top 24))
  (h13:fP K "burst_faces" "burst_faces" (top 25))
  (h14:fP K "part_faces" "part_faces" (top 26))
  (h15:fP K "value_of" "value_of" (top 27))
  (h16:fP K "sides_product" "sides_product" (top 28))
  (h17:fP K "part_throws" "part_throws" (top 29))
  (h18:fP K "throws_by_bottom" "throws_by_bottom" (top 30))
  (h19:fP K "pool_table" "pool_table" (top 31))
  (h20:fP K "own_rows" "own_rows" (top 33))
  (h21:fP K "own_what" "own_what" (top 34))
  (h22:fP K "_law_cell" "_law_cell" (top 40))
  (h23:fP K "_law_mixed" "_law_mixed" (top 41))
  (h24:fP K "_law_low" "_law_low" (top 42))
  (h25:fP K "_law_plus" "_law_plus" (top 43))
  (h26:fP K "_law_words" "_law_words" (top 45))
  (h27:fP K "_law_deeds" "_law_deeds" (top 46))
  (h28:fP K "_law_throw" "_law_throw" (top 47))
  (h29:fP K "_law_pick" "_law_pick" (top 48))
  (h30:fP K "_law_game" "_law_game" (top 49))
  (h31:fP K "_law_values" "_law_values" (top 50))
  (h32:fP K "_law_what" "_law_what" (top 51))
  (h33:fP K "_law_number" "_law_number" (top 52))
  (h34:fP K "_law_arrived" "_law_arrived" (top 53))
  (h35:fP K "_law_done" "_law_done" (top 54))
  (h36:fP K "_law_holds_when" "_law_holds_when" (top 55))
  (h37:fP K "_law_open" "_law_open" (top 56))
  (h38:fP K "_law_gone" "_law_gone" (top 57))
  (h39:fP K "_law_paid" "_law_paid" (top 58))
  (h40:fP K "_law_points" "_law_points" (top 59))
  (h41:fP K "_law_is" "_law_is" (top 60))
  (h42:fP K "_law_looks" "_law_looks" (top 61))
  (h43:fP K "_law_spoil" "_law_spoil" (top 62))
  (a44:abe K mainGlobals "law"=some (some (.ref Tx))) (l44:K.lookup Tx=some ⟨TF,Tz,.func (abd "law" "law" (bE (top 63)) (bA (top 63)) (aq (top 63)) .none TH TK TL TB Nx TM),TC⟩) (e44:abc K Nx "law"=true) (k44:abb K (.ref Tx)=true)
  (z_abs:abe K mainGlobals "abs"=some none)
  (z_all:abe K mainGlobals "all"=some none)
  (z_bool:abe K mainGlobals "bool"=some none)
  (z_enumerate:abe K mainGlobals "enumerate"=some none)
  (z_int:abe K mainGlobals "int"=some none)
  (z_isinstance:abe K mainGlobals "isinstance"=some none)
  (z_len:abe K mainGlobals "len"=some none)
  (z_list:abe K mainGlobals "list"=some none)
  (z_max:abe K mainGlobals "max"=some none)
  (z_min:abe K mainGlobals "min"=some none)
  (z_range:abe K mainGlobals "range"=some none)
  (z_sorted:abe K mainGlobals "sorted"=some none)
  (z_str:abe K mainGlobals "str"=some none)
  (z_sum:abe K mainGlobals "sum"=some none)
  (z_tuple:abe K mainGlobals "tuple"=some none)
  (c_MOST_THROWS:abe K mainGlobals "MOST_THROWS"=some (some (.int 1296 pI)))
  (c_MOST_BOTTOM:abe K mainGlobals "MOST_BOTTOM"=some (some (.int 1000000 pJ)))
  (c_MOST_STEPS:abe K mainGlobals "MOST_STEPS"=some (some (.int 200 qr)))
  (k_NoShare:abe K mainGlobals "NoShare"=some (some (.ref aE)))
  (k_NoTable:abe K mainGlobals "NoTable"=some (some (.ref aF)))
  (k_TooMany:abe K mainGlobals "TooMany"=some (some (.ref aB)))
  (k_NoStep:abe K mainGlobals "NoStep"=some (some (.ref aH)))
  (k_Course:abe K mainGlobals "Course"=some (some (.ref ah)))
  (k_Play:abe K mainGlobals "Play"=some (some (.ref aA)))
  (x_NoShare:PySem.W.excIn K aE rL j4=true)
  (x_NoTable:PySem.W.excIn K aF rL j4=true)
  (x_TooMany:PySem.W.excIn K aB rL j4=true)
  (x_NoStep:PySem.W.excIn K aH rL j4=true)
  (cl_Coursepg:PySem.W.plainGet K ah Str.empty=true)
  (cl_Coursehd:PySem.W.hasDictIn K ah=true)
  (cl_Coursepo:PySem.W.plainOver K ah=true)
  (cl_Coursesa:abf K (.ref ah) "__setattr__"=some (some (.builtin "object.__setattr__")))
  (cl_Playpg:PySem.W.plainGet K aA Str.empty=true)
  (cl_Playhd:PySem.W.hasDictIn K aA=true)
  (cl_Playpo:PySem.W.plainOver K aA=true)
  (cl_Playsa:abf K (.ref aA) "__setattr__"=some (some (.builtin "object.__setattr__")))
  (na_Course_first:abf K (.ref ah) "first"=some none)
  (na_Course_mosts:abf K (.ref ah) "mosts"=some none)
  (na_Course_spots:abf K (.ref ah) "spots"=some none)
  (na_Course_tables:abf K (.ref ah) "tables"=some none)
  (na_Course_whats:abf K (.ref ah) "whats"=some none)
  (na_Play_course:abf K (.ref aA) "course"=some none)
  (na_Play_paid:abf K (.ref aA) "paid"=some none)
  (na_Play_state:abf K (.ref aA) "state"=some none)
  (na_Play_trail:abf K (.ref aA) "trail"=some none)
  (dia_Course:abf K (.ref ah) "__init__"=some (some (.ref Qq)))
  (dii_Course:PySem.W.isFn K (.ref Qq)=true)
  (dil_Course:K.lookup Qq=some ⟨TV,TN,.func (abd "__init__" "Course.__init__" (bE (inClass (top 35) 0)) (bA (inClass (top 35) 0)) (aq (inClass (top 35) 0)) .none TX TY TZ TQ Ny T2),TU⟩)
  (dic_Course:abc K Ny "Course.__init__"=true)
  (dik_Course:abb K (.ref Qq)=true)
  (dim_Course:PySem.W.makesIn K ah=true)
  (diq_Course:abb K (.ref ah)=true)
  (dia_Play:abf K (.ref aA) "__init__"=some (some (.ref Qr)))
  (dii_Play:PySem.W.isFn K (.ref Qr)=true)
  (dil_Play:K.lookup Qr=some ⟨T6,T3,.func (abd "__init__" "Play.__init__" (bE (inClass (top 38) 0)) (bA (inClass (top 38) 0)) (aq (inClass (top 38) 0)) .none T7 T8 T9 T4 Nz Ua),T5⟩)
  (dic_Play:abc K Nz "Play.__init__"=true)
  (dik_Play:abb K (.ref Qr)=true)
  (dim_Play:PySem.W.makesIn K aA=true)
  (diq_Play:abb K (.ref aA)=true)
  (dma_Course_asked:abf K (.ref ah) "asked"=some (some (.ref Qs)))
  (dmi_Course_asked:PySem.W.isFn K (.ref Qs)=true)
  (dml_Course_asked:K.lookup Qs=some ⟨Ue,Ub,.func (abd "asked" "Course.asked" (bE (inClass (top 35) 3)) (bA (inClass (top 35) 3)) (aq (inClass (top 35) 3)) .none Ug Uh Ui Uc NA Uj),Ud⟩)
  (dmc_Course_asked:abc K NA "Course.asked"=true)
  (dmk_Course_asked:abb K (.ref Qs)=true)
  (dma_Course_by_row:abf K (.ref ah) "by_row"=some (some (.ref Qt)))
  (dmi_Course_by_row:PySem.W.isFn K (.ref Qt)=true)
  (dml_Course_by_row:K.lookup Qt=some ⟨Uo,Uk,.func (abd "by_row" "Course.by_row" (bE (inClass (top 35) 6)) (bA (inClass (top 35) 6)) (aq (inClass (top 35) 6)) .none Up Uq Ur Ul NB Us),Um⟩)
  (dmc_Course_by_row:abc K NB "Course.by_row"=true)
  (dmk_Course_by_row:abb K (.ref Qt)=true)
  (dma_Course_by_value:abf K (.ref ah) "by_value"=some (some (.ref Qu)))
  (dmi_Course_by_value:PySem.W.isFn K (.ref Qu)=true)
  (dml_Course_by_value:K.lookup Qu=some ⟨Uw,Ut,.func (abd "by_value" "Course.by_value" (bE (inClass (top 35) 7)) (bA (inClass (top 35) 7)) (aq (inClass (top 35) 7)) .none Ux Uy Uz Uu NC UA),Uv⟩)
  (dmc_Course_by_value:abc K NC "Course.by_value"=true)
  (dmk_Course_by_value:abb K (.ref Qu)=true)
  (dma_Course_do:abf K (.ref ah) "do"=some (some (.ref Qv)))
  (dmi_Course_do:PySem.W.isFn K (.ref Qv)=true)
  (dml_Course_do:K.lookup Qv=some ⟨UE,UB,.func (abd "do" "Course.do" (bE (inClass (top 35) 2)) (bA (inClass (top 35) 2)) (aq (inClass (top 35) 2)) .none UG UH UI UC ND UJ),UD⟩)
  (dmc_Course_do:abc K ND "Course.do"=true)
  (dmk_Course_do:abb K (.ref Qv)=true)
  (dma_Course_end_worth:abf K (.ref ah) "end_worth"=some (some (.ref Qw)))
  (dmi_Course_end_worth:PySem.W.isFn K (.ref Qw)=true)
  (dml_Course_end_worth:K.lookup Qw=some ⟨UO,UK,.func (abd "end_worth" "Course.end_worth" (bE (inClass (top 35) 12)) (bA (inClass (top 35) 12)) (aq (inClass (top 35) 12)) .none UP UQ UR UM NF US),UN⟩)
  (dmc_Course_end_worth:abc K NF "Course.end_worth"=true)
  (dmk_Course_end_worth:abb K (.ref Qw)=true)
  (dma_Course_holds:abf K (.ref ah) "holds"=some (some (.ref Qx)))
  (dmi_Course_holds:PySem.W.isFn K (.ref Qx)=true)
  (dml_Course_holds:K.lookup Qx=some ⟨UX,UT,.func (abd "holds" "Course.holds" (bE (inClass (top 35) 9)) (bA (inClass (top 35) 9)) (aq (inClass (top 35) 9)) .none UY UZ U0 UU NG U1),UW⟩)
  (dmc_Course_holds:abc K NG "Course.holds"=true)
  (dmk_Course_holds:abb K (.ref Qx)=true)
  (dma_Course_open_rows:abf K (.ref ah) "open_rows"=some (some (.ref Qy)))
  (dmi_Course_open_rows:PySem.W.isFn K (.ref Qy)=true)
  (dml_Course_open_rows:K.lookup Qy=some ⟨U5,U2,.func (abd "open_rows" "Course.open_rows" (bE (inClass (top 35) 10)) (bA (inClass (top 35) 10)) (aq (inClass (top 35) 10)) .none U6 U7 U8 U3 NH U9),U4⟩)
  (dmc_Course_open_rows:abc K NH "Course.open_rows"=true)
  (dmk_Course_open_rows:abb K (.ref Qy)=true)
  (dma_Course_put:abf K (.ref ah) "put"=some (some (.ref Qz)))
  (dmi_Course_put:PySem.W.isFn K (.ref Qz)=true)
  (dml_Course_put:K.lookup Qz=some ⟨Vd,Va,.func (abd "put" "Course.put" (bE (inClass (top 35) 1)) (bA (inClass (top 35) 1)) (aq (inClass (top 35) 1)) .none Ve Vf Vg Vb NI Vh),Vc⟩)
  (dmc_Course_put:abc K NI "Course.put"=true)
  (dmk_Course_put:abb K (.ref Qz)=true)
  (dma_Course_start:abf K (.ref ah) "start"=some (some (.ref E8)))
  (dmi_Course_start:PySem.W.isFn K (.ref E8)=true)
  (dml_Course_start:K.lookup E8=some ⟨NN,NJ,.func (abd "start" "Course.start" (bE (inClass (top 35) 4)) (bA (inClass (top 35) 4)) (aq (inClass (top 35) 4)) .none NO NP NQ NK GN NS),NM⟩)
  (dmc_Course_start:abc K GN "Course.start"=true)
  (dmk_Course_start:abb K (.ref E8)=true)
  (dma_Course_table_at:abf K (.ref ah) "table_at"=some (some (.ref E9)))
  (dmi_Course_table_at:PySem.W.isFn K (.ref E9)=true)
  (dml_Course_table_at:K.lookup E9=some ⟨NW,NT,.func (abd "table_at" "Course.table_at" (bE (inClass (top 35) 8)) (bA (inClass (top 35) 8)) (aq (inClass (top 35) 8)) .none NX NY NZ NU GO N0),NV⟩)
  (dmc_Course_table_at:abc K GO "Course.table_at"=true)
  (dmk_Course_table_at:abb K (.ref E9)=true)
  (dma_Course_what_at:abf K (.ref ah) "what_at"=some (some (.ref Fb)))
  (dmi_Course_what_at:PySem.W.isFn K (.ref Fb)=true)
  (dml_Course_what_at:K.lookup Fb=some ⟨N6,N1,.func (abd "what_at" "Course.what_at" (bE (inClass (top 35) 5)) (bA (inClass (top 35) 5)) (aq (inClass (top 35) 5)) .none N7 N8 N9 N4 GP Oa),N5⟩)
  (dmc_Course_what_at:abc K GP "Course.what_at"=true)
  (dmk_Course_what_at:abb K (.ref Fb)=true)
  (dma_Course_words_at:abf K (.ref ah) "words_at"=some (some (.ref Fc)))
  (dmi_Course_words_at:PySem.W.isFn K (.ref Fc)=true)
  (dml_Course_words_at:K.lookup Fc=some ⟨Oe,Ob,.func (abd "words_at" "Course.words_at" (bE (inClass (top 35) 11)) (bA (inClass (top 35) 11)) (aq (inClass (top 35) 11)) .none Of Og Oh Oc GQ Oi),Od⟩)
  (dmc_Course_words_at:abc K GQ "Course.words_at"=true)
  (dmk_Course_words_at:abb K (.ref Fc)=true)
  (dma_Play_go:abf K (.ref aA) "go"=some (some (.ref Fd)))
  (dmi_Play_go:PySem.W.isFn K (.ref Fd)=true)
  (dml_Play_go:K.lookup Fd=some ⟨Oo,Oj,.func (abd "go" "Play.go" (bE (inClass (top 38) 4)) (bA (inClass (top 38) 4)) (aq (inClass (top 38) 4)) .none Oq Ot Ou Ol GR Ov),Om⟩)
  (dmc_Play_go:abc K GR "Play.go"=true)
  (dmk_Play_go:abb K (.ref Fd)=true)
  (dma_Play_open_ways:abf K (.ref aA) "open_ways"=some (some (.ref Fe)))
  (dmi_Play_open_ways:PySem.W.isFn K (.ref Fe)=true)
  (dml_Play_open_ways:K.lookup Fe=some ⟨Oz,Ow,.func (abd "open_ways" "Play.open_ways" (bE (inClass (top 38) 3)) (bA (inClass (top 38) 3)) (aq (inClass (top 38) 3)) .none OA OB OC Ox GS OD),Oy⟩)
  (dmc_Play_open_ways:abc K GS "Play.open_ways"=true)
  (dmk_Play_open_ways:abb K (.ref Fe)=true)
  (dma_Play_points:abf K (.ref aA) "points"=some (some (.ref Ff)))
  (dmi_Play_points:PySem.W.isFn K (.ref Ff)=true)
  (dml_Play_points:K.lookup Ff=some ⟨OH,OE,.func (abd "points" "Play.points" (bE (inClass (top 38) 2)) (bA (inClass (top 38) 2)) (aq (inClass (top 38) 2)) .none OI OJ OK OF GU OL),OG⟩)
  (dmc_Play_points:abc K GU "Play.points"=true)
  (dmk_Play_points:abb K (.ref Ff)=true)
  (dma_Play_say:abf K (.ref aA) "say"=some (some (.ref Fg)))
  (dmi_Play_say:PySem.W.isFn K (.ref Fg)=true)
  (dml_Play_say:K.lookup Fg=some ⟨OP,OM,.func (abd "say" "Play.say" (bE (inClass (top 38) 5)) (bA (inClass (top 38) 5)) (aq (inClass (top 38) 5)) .none OQ OR OS ON GV OT),OO⟩)
  (dmc_Play_say:abc K GV "Play.say"=true)
  (dmk_Play_say:abb K (.ref Fg)=true)
  (dma_Play_shown:abf K (.ref aA) "shown"=some (some (.ref Fh)))
  (dmi_Play_shown:PySem.W.isFn K (.ref Fh)=true)
  (dml_Play_shown:K.lookup Fh=some ⟨OX,OU,.func (abd "shown" "Play.shown" (bE (inClass (top 38) 8)) (bA (inClass (top 38) 8)) (aq (inClass (top 38) 8)) .none OY OZ O0 OV GW O1),OW⟩)
  (dmc_Play_shown:abc K GW "Play.shown"=true)
  (dmk_Play_shown:abb K (.ref Fh)=true)
  (dma_Play_stands:abf K (.ref aA) "stands"=some (some (.ref Fi)))
  (dmi_Play_stands:PySem.W.isFn K (.ref Fi)=true)
  (dml_Play_stands:K.lookup Fi=some ⟨O5,O2,.func (abd "stands" "Play.stands" (bE (inClass (top 38) 1)) (bA (inClass (top 38) 1)) (aq (inClass (top 38) 1)) .none O6 O7 O8 O3 GX O9),O4⟩)
  (dmc_Play_stands:abc K GX "Play.stands"=true)
  (dmk_Play_stands:abb K (.ref Fi)=true)
  (dma_Play_throw:abf K (.ref aA) "throw"=some (some (.ref Fj)))
  (dmi_Play_throw:PySem.W.isFn K (.ref Fj)=true)
  (dml_Play_throw:K.lookup Fj=some ⟨Pd,Pa,.func (abd "throw" "Play.throw" (bE (inClass (top 38) 6)) (bA (inClass (top 38) 6)) (aq (inClass (top 38) 6)) .none Pe Pf Pg Pb GY Ph),Pc⟩)
  (dmc_Play_throw:abc K GY "Play.throw"=true)
  (dmk_Play_throw:abb K (.ref Fj)=true)
  :∃fd:FuncData,(∀(s:Shared) (v:Value),BindsTo s fd ⟨[v],[]⟩ [("_law_script",v)])/\∀base:Heap,K.In base->base.Ns mainGlobals mg->fK l.prog w K mg base (cV l.prog w) 30 fa fd ["_law_script"] (yw K):=by
 have e:=hfa.symm.trans (aaQ X G a44);cases e;have T:Txt K mg aE aF aB aH ah aA:=⟨aaJ X G z_abs,aaJ X G z_all,aaJ X G z_bool,aaJ X G z_enumerate,aaJ X G z_int,aaJ X G z_isinstance,aaJ X G z_len,aaJ X G z_list,aaJ X G z_max,aaJ X G z_min,aaJ X G z_range,aaJ X G z_sorted,aaJ X G z_str,aaJ X G z_sum,aaJ X G z_tuple,h0.dn X G,h1.dn X G,h2.dn X G,h3.dn X G,h4.dn X G,h5.dn X G,h6.dn X G,h7.dn X G,h8.dn X G,h9.dn X G,h10.dn X G,h11.dn X G,h12.dn X G,h13.dn X G,h14.dn X G,h15.dn X G,h16.dn X G,h17.dn X G,h18.dn X G,h19.dn X G,h20.dn X G,h21.dn X G,h22.dn X G,h23.dn X G,h24.dn X G,h25.dn X G,h26.dn X G,h27.dn X G,h28.dn X G,h29.dn X G,h30.dn X G,h31.dn X G,h32.dn X G,h33.dn X G,h34.dn X G,h35.dn X G,h36.dn X G,h37.dn X G,h38.dn X G,h39.dn X G,h40.dn X G,h41.dn X G,h42.dn X G,h43.dn X G,⟨_,aaQ X G c_MOST_THROWS⟩,⟨_,aaQ X G c_MOST_BOTTOM⟩,⟨_,aaQ X G c_MOST_STEPS⟩,aaQ X G k_NoShare,aaQ X G k_NoTable,aaQ X G k_TooMany,aaQ X G k_NoStep,aaQ X G k_Course,aaQ X G k_Play,x_NoShare,x_NoTable,x_TooMany,x_NoStep,⟨cl_Coursepg,cl_Coursehd,cl_Coursepo,cl_Coursesa⟩,⟨cl_Playpg,cl_Playhd,cl_Playpo,cl_Playsa⟩,na_Course_first,na_Course_mosts,na_Course_spots,na_Course_tables,na_Course_whats,na_Play_course,na_Play_paid,na_Play_state,na_Play_trail,⟨_,_,cN dil_Course dic_Course dik_Course,⟨dim_Course,dia_Course,dii_Course,diq_Course⟩,aaQ X G k_Course⟩,⟨_,_,cN dil_Play dic_Play dik_Play,⟨dim_Play,dia_Play,dii_Play,diq_Play⟩,aaQ X G k_Play⟩,⟨_,_,cN dml_Course_asked dmc_Course_asked dmk_Course_asked,⟨dma_Course_asked,dmi_Course_asked,dmk_Course_asked⟩⟩,⟨_,_,cN dml_Course_by_row dmc_Course_by_row dmk_Course_by_row,⟨dma_Course_by_row,dmi_Course_by_row,dmk_Course_by_row⟩⟩,⟨_,_,cN dml_Course_by_value dmc_Course_by_value dmk_Course_by_value,⟨dma_Course_by_value,dmi_Course_by_value,dmk_Course_by_value⟩⟩,⟨_,_,cN dml_Course_do dmc_Course_do dmk_Course_do,⟨dma_Course_do,dmi_Course_do,dmk_Course_do⟩⟩,⟨_,_,cN dml_Course_end_worth dmc_Course_end_worth dmk_Course_end_worth,⟨dma_Course_end_worth,dmi_Course_end_worth,dmk_Course_end_worth⟩⟩,⟨_,_,cN dml_Course_holds dmc_Course_holds dmk_Course_holds,⟨dma_Course_holds,dmi_Course_holds,dmk_Course_holds⟩⟩,⟨_,_,cN dml_Course_open_rows dmc_Course_open_rows dmk_Course_open_rows,⟨dma_Course_open_rows,dmi_Course_open_rows,dmk_Course_open_rows⟩⟩,⟨_,_,cN dml_Course_put dmc_Course_put dmk_Course_put,⟨dma_Course_put,dmi_Course_put,dmk_Course_put⟩⟩,⟨_,_,cN dml_Course_start dmc_Course_start dmk_Course_start,⟨dma_Course_start,dmi_Course_start,dmk_Course_start⟩⟩,⟨_,_,cN dml_Course_table_at dmc_Course_table_at dmk_Course_table_at,⟨dma_Course_table_at,dmi_Course_table_at,dmk_Course_table_at⟩⟩,⟨_,_,cN dml_Course_what_at dmc_Course_what_at dmk_Course_what_at,⟨dma_Course_what_at,dmi_Course_what_at,dmk_Course_what_at⟩⟩,⟨_,_,cN dml_Course_words_at dmc_Course_words_at dmk_Course_words_at,⟨dma_Course_words_at,dmi_Course_words_at,dmk_Course_words_at⟩⟩,⟨_,_,cN dml_Play_go dmc_Play_go dmk_Play_go,⟨dma_Play_go,dmi_Play_go,dmk_Play_go⟩⟩,⟨_,_,cN dml_Play_open_ways dmc_Play_open_ways dmk_Play_open_ways,⟨dma_Play_open_ways,dmi_Play_open_ways,dmk_Play_open_ways⟩⟩,⟨_,_,cN dml_Play_points dmc_Play_points dmk_Play_points,⟨dma_Play_points,dmi_Play_points,dmk_Play_points⟩⟩,⟨_,_,cN dml_Play_say dmc_Play_say dmk_Play_say,⟨dma_Play_say,dmi_Play_say,dmk_Play_say⟩⟩,⟨_,_,cN dml_Play_shown dmc_Play_shown dmk_Play_shown,⟨dma_Play_shown,dmi_Play_shown,dmk_Play_shown⟩⟩,⟨_,_,cN dml_Play_stands dmc_Play_stands dmk_Play_stands,⟨dma_Play_stands,dmi_Play_stands,dmk_Play_stands⟩⟩,⟨_,_,cN dml_Play_throw dmc_Play_throw dmk_Play_throw,⟨dma_Play_throw,dmi_Play_throw,dmk_Play_throw⟩⟩⟩
 exact⟨_,λs v=>.of_eq rfl,λbase _ _=>(JP T (cN l44 e44 k44)).mono ∅⟩
theorem walk {l:PySem.W.OpenLaw} {q:Program} {loose:List Str} {XP:(Str->Option Value)->Heap->Prop} {YP:World->Heap->Prop} {d:DefRec} {K:Params->aba} (hn:l.most=some 63) (Lj:d.params.defaults=[])
  (hY:∀(w:World) (h:Heap),YP w h->(K w.params).In h)
  (F:∀(w:World) (mg:Str->Option Value) (fa:Addr) (h:Heap),(K w.params).In h->h.Ns mainGlobals mg->mg d.name=some (.ref fa)->
   ∃fd:FuncData,(∀(s:Shared) (u:Value),BindsTo s fd ⟨[u],[]⟩ [("_law_script",u)])/\∀base:Heap,(K w.params).In base->base.Ns mainGlobals mg->fK l.prog w (K w.params) mg base (cV l.prog w) 30 fa fd ["_law_script"] (yw (K w.params))):
  PySem.W.WalkO q loose XP YP l.row.toRowW d [] (λf vs=>PySem.call f vs):=
 L2.DD (n:=63) (k:=30) (x:="_law_script") (CX:=λw=>cV l.prog w) (sp:=λw=>yw (K w.params)) hn ∅ Lj ⟨rfl,∅,∅⟩ hY F (λ_ _ a ns hl _ hS=>⟨a,ns,rfl,hS,hl,λ_=>rfl⟩) λ_ _ _ _ _ z=>(xP _ _) _ _ _ _ _ z
end K77
open PySem PySem.W PyProof.Rows
set_option maxRecDepth 100000 in
set_option maxHeartbeats 0 in
theorem PySem.Challenge.cw_pressluck_k77_steps_gone_holds : PySem.Challenge.rw_pressluck_k77_steps_gone.Holds := by
  w_on; refine holds_law K77.KO fun KO => ?_
  refine holds_open (q := K77.vw) (loose := []) (Xt := (fun s => xlAt K77.vw [] s && recOk (RowW.records (OpenRow.toRowW (PySem.W.OpenLaw.row PySem.Challenge.rw_pressluck_k77_steps_gone))) s)) (XP := XL K77.vw []) (Yf := Hook.obs (kHook K77.pre.heap_1 K77.CV K77.Df)) (Ya := Hook.val (kHook K77.pre.heap_1 K77.CV K77.Df)) (YP := Hook.says (kHook K77.pre.heap_1 K77.CV K77.Df)) (N := 7328) (Hd.yS (by kernel_rfl) (by decide) (fun s => by kernel_rfl) K77.run) (Hook.of (kHook K77.pre.heap_1 K77.CV K77.Df)) (Hook.keeps (kHook K77.pre.heap_1 K77.CV K77.Df)) (fun s e => xl_of s (Bool.and_eq_true_iff.mp e).1) XL.keeps (by rfl) (by rfl) (by rfl) (fun s e => recFacts_of (Bool.and_eq_true_iff.mp e).2) (by rfl) (by first | assumption | decide +kernel) (by decide +kernel) ⟨rfl, rfl, rfl, rfl, rfl, by decide +kernel⟩ ?hw ?hc
  (case hw => w_witness2)
  k_fill
  refine K77.walk (l := PySem.Challenge.rw_pressluck_k77_steps_gone) rfl rfl (fun w h Y => PySem.W.kIn_of Y) ?F
  case F =>
    intro w mg fa h KX G Lk;refine' K77.all_mk KX G Lk ?h0 ?h1 ?h2 ?h3 ?h4 ?h5 ?h6 ?h7 ?h8 ?h9 ?h10 ?h11 ?h12 ?h13 ?h14 ?h15 ?h16 ?h17 ?h18 ?h19 ?h20 ?h21 ?h22 ?h23 ?h24 ?h25 ?h26 ?h27 ?h28 ?h29 ?h30 ?h31 ?h32 ?h33 ?h34 ?h35 ?h36 ?h37 ?h38 ?h39 ?h40 ?h41 ?h42 ?h43 ?a44 ?l44 ?e44 ?k44 ?z_abs ?z_all ?z_bool ?z_enumerate ?z_int ?z_isinstance ?z_len ?z_list ?z_max ?z_min ?z_range ?z_sorted ?z_str ?z_sum ?z_tuple ?c_MOST_THROWS ?c_MOST_BOTTOM ?c_MOST_STEPS ?k_NoShare ?k_NoTable ?k_TooMany ?k_NoStep ?k_Course ?k_Play ?x_NoShare ?x_NoTable ?x_TooMany ?x_NoStep ?cl_Coursepg ?cl_Coursehd ?cl_Coursepo ?cl_Coursesa ?cl_Playpg ?cl_Playhd ?cl_Playpo ?cl_Playsa ?na_Course_first ?na_Course_mosts ?na_Course_spots ?na_Course_tables ?na_Course_whats ?na_Play_course ?na_Play_paid ?na_Play_state ?na_Play_trail ?dia_Course ?dii_Course ?dil_Course ?dic_Course ?dik_Course ?dim_Course ?diq_Course ?dia_Play ?dii_Play ?dil_Play ?dic_Play ?dik_Play ?dim_Play ?diq_Play ?dma_Course_asked ?dmi_Course_asked ?dml_Course_asked ?dmc_Course_asked ?dmk_Course_asked ?dma_Course_by_row ?dmi_Course_by_row ?dml_Course_by_row ?dmc_Course_by_row ?dmk_Course_by_row ?dma_Course_by_value ?dmi_Course_by_value ?dml_Course_by_value ?dmc_Course_by_value ?dmk_Course_by_value ?dma_Course_do ?dmi_Course_do ?dml_Course_do ?dmc_Course_do ?dmk_Course_do ?dma_Course_end_worth ?dmi_Course_end_worth ?dml_Course_end_worth ?dmc_Course_end_worth ?dmk_Course_end_worth ?dma_Course_holds ?dmi_Course_holds ?dml_Course_holds ?dmc_Course_holds ?dmk_Course_holds ?dma_Course_open_rows ?dmi_Course_open_rows ?dml_Course_open_rows ?dmc_Course_open_rows ?dmk_Course_open_rows ?dma_Course_put ?dmi_Course_put ?dml_Course_put ?dmc_Course_put ?dmk_Course_put ?dma_Course_start ?dmi_Course_start ?dml_Course_start ?dmc_Course_start ?dmk_Course_start ?dma_Course_table_at ?dmi_Course_table_at ?dml_Course_table_at ?dmc_Course_table_at ?dmk_Course_table_at ?dma_Course_what_at ?dmi_Course_what_at ?dml_Course_what_at ?dmc_Course_what_at ?dmk_Course_what_at ?dma_Course_words_at ?dmi_Course_words_at ?dml_Course_words_at ?dmc_Course_words_at ?dmk_Course_words_at ?dma_Play_go ?dmi_Play_go ?dml_Play_go ?dmc_Play_go ?dmk_Play_go ?dma_Play_open_ways ?dmi_Play_open_ways ?dml_Play_open_ways ?dmc_Play_open_ways ?dmk_Play_open_ways ?dma_Play_points ?dmi_Play_points ?dml_Play_points ?dmc_Play_points ?dmk_Play_points ?dma_Play_say ?dmi_Play_say ?dml_Play_say ?dmc_Play_say ?dmk_Play_say ?dma_Play_shown ?dmi_Play_shown ?dml_Play_shown ?dmc_Play_shown ?dmk_Play_shown ?dma_Play_stands ?dmi_Play_stands ?dml_Play_stands ?dmc_Play_stands ?dmk_Play_stands ?dma_Play_throw ?dmi_Play_throw ?dml_Play_throw ?dmc_Play_throw ?dmk_Play_throw
    (case h0 | h1 | h2 | h3 | h4 | h5 | h6 | h7 | h8 | h9 | h10 | h11 | h12 | h13 | h14 | h15 | h16 | h17 | h18 | h19 | h20 | h21 | h22 | h23 | h24 | h25 | h26 | h27 | h28 | h29 | h30 | h31 | h32 | h33 | h34 | h35 | h36 | h37 | h38 | h39 | h40 | h41 | h42 | h43 => exact K77.X9 (by k_is) (by k_is) (by k_is) (by k_is))
    (case a44 | l44 | e44 | k44 | z_abs | z_all | z_bool | z_enumerate | z_int | z_isinstance | z_len | z_list | z_max | z_min | z_range | z_sorted | z_str | z_sum | z_tuple | c_MOST_THROWS | c_MOST_BOTTOM | c_MOST_STEPS | k_NoShare | k_NoTable | k_TooMany | k_NoStep | k_Course | k_Play => k_is)
    (case x_NoShare => first | k_is | kit_is | kernel_rfl)
    (case x_NoTable => first | k_is | kit_is | kernel_rfl)
    (case x_TooMany => first | k_is | kit_is | kernel_rfl)
    (case x_NoStep => first | k_is | kit_is | kernel_rfl)
    (case cl_Coursepg | cl_Coursehd | cl_Coursepo | cl_Coursesa | cl_Playpg | cl_Playhd | cl_Playpo | cl_Playsa | na_Course_first | na_Course_mosts | na_Course_spots | na_Course_tables | na_Course_whats | na_Play_course | na_Play_paid | na_Play_state | na_Play_trail | dia_Course | dii_Course | dil_Course | dic_Course | dik_Course | dim_Course | diq_Course | dia_Play | dii_Play | dil_Play | dic_Play | dik_Play | dim_Play | diq_Play | dma_Course_asked | dmi_Course_asked | dml_Course_asked | dmc_Course_asked | dmk_Course_asked | dma_Course_by_row | dmi_Course_by_row | dml_Course_by_row | dmc_Course_by_row | dmk_Course_by_row | dma_Course_by_value | dmi_Course_by_value | dml_Course_by_value | dmc_Course_by_value | dmk_Course_by_value | dma_Course_do | dmi_Course_do | dml_Course_do | dmc_Course_do | dmk_Course_do | dma_Course_end_worth | dmi_Course_end_worth | dml_Course_end_worth | dmc_Course_end_worth | dmk_Course_end_worth | dma_Course_holds | dmi_Course_holds | dml_Course_holds | dmc_Course_holds | dmk_Course_holds | dma_Course_open_rows | dmi_Course_open_rows | dml_Course_open_rows | dmc_Course_open_rows | dmk_Course_open_rows | dma_Course_put | dmi_Course_put | dml_Course_put | dmc_Course_put | dmk_Course_put | dma_Course_start | dmi_Course_start | dml_Course_start | dmc_Course_start | dmk_Course_start | dma_Course_table_at | dmi_Course_table_at | dml_Course_table_at | dmc_Course_table_at | dmk_Course_table_at | dma_Course_what_at | dmi_Course_what_at | dml_Course_what_at | dmc_Course_what_at | dmk_Course_what_at | dma_Course_words_at | dmi_Course_words_at | dml_Course_words_at | dmc_Course_words_at | dmk_Course_words_at | dma_Play_go | dmi_Play_go | dml_Play_go | dmc_Play_go | dmk_Play_go | dma_Play_open_ways | dmi_Play_open_ways | dml_Play_open_ways | dmc_Play_open_ways | dmk_Play_open_ways | dma_Play_points | dmi_Play_points | dml_Play_points | dmc_Play_points | dmk_Play_points | dma_Play_say | dmi_Play_say | dml_Play_say | dmc_Play_say | dmk_Play_say | dma_Play_shown | dmi_Play_shown | dml_Play_shown | dmc_Play_shown | dmk_Play_shown | dma_Play_stands | dmi_Play_stands | dml_Play_stands | dmc_Play_stands | dmk_Play_stands | dma_Play_throw | dmi_Play_throw | dml_Play_throw | dmc_Play_throw | dmk_Play_throw => k_is)
