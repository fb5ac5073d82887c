import PyProof.Rows.All
import Wide.All
import OpenK.AllK
import Wide.FinOn
import Lean
import PyProof.EqAt
import PyProof.EqKinds
import PyProof.TupleCall
import PyProof.NeKinds
import PySem.Challenge.RW_pressluck_k43_whole_what_a_way_lacks
set_option Elab.async false
set_option linter.all false
set_option maxRecDepth 100000
local macro_rules | `(∅) => `(by exact of_decide_eq_true (by kernel_rfl))
local macro_rules | `(⋯) => `(by lia)
local macro_rules | `(command| abbrev $i:declId $s:optDeclSig $v:declVal) => `(command| noncomputable def $i:declId $s:optDeclSig $v:declVal)
local macro_rules | `(tactic| injections) => `(tactic| rfl)
open List renaming length_map->YL,getElem?_eq_getElem->YM,getD_eq_getElem?_getD->YN,getElem?_map->YO,mem_of_getElem?->YQ,mem_cons_self->YT,mem_cons_of_mem->YU,getElem_mem->YV,size_toArray->YX,length_cons->YZ,getElem?_eq_none->Y0,map_append->Y5,length_range->Y6,length_append->Y7,map_cons->Y8,take_add_one->Zc,getElem?_of_mem->Ze,length_take->Zf,take_of_length_le->Zg,length_set->Zh,getElem_of_mem->Zi,mem_append_right->Zk,getElem?_append_left->Zm,getElem?_append_right->Zn,length_replicate->Zr,lookup_cons->Zt,getElem?_range->Zu,getElem?_set_ne->Zw,ext_getElem?->Zy,idxOf_lt_length_of_mem->Zz,map_map->ZA,append_nil->ZD,map_nil->ZE,getElem_idxOf->ZJ,getElem?_set_self->ZO,mem_cons->ZT,getElem_inj->ZU,length_nil->ZW,not_mem_nil->ZX,set_cons_zero->ZY,set_cons_succ->ZZ,length_zipWith->Z2,mem_append_left->Z5,getElem?_cons_succ->Z6,filterMap_append->Z9,cons_append->aab,getElem?_cons_zero->aac,getElem?_replicate->aag,replicate_succ->aah,replicate_zero->aai,getElem?_zipWith->aaj,getElem?_take_of_lt->aal,getElem?_eq_some_iff->aat,mem_map->aau,mem_singleton->aav,replicate->aaz
open Nat renaming le_refl->YR,ne_of_lt->YW,le_trans->YY,zero_le->Y1,lt_of_lt_of_le->Y3,lt_irrefl->Zj,lt_succ_self->Zl,ne_of_gt->ZC,not_lt_zero->ZF,lt_of_le_of_lt->ZG,pow_add->ZH,zero_add->ZI,pow_le_pow_right->ZP,mul_le_mul->Z1,mul_le_mul_right->Z7,lt_succ_of_lt->Z8,mul_le_mul_left->aae,pow_lt_pow_right->aak
open Int renaming toNat_natCast->YS,eq_ofNat_of_zero_le->Y2,mul_comm->Za,mul_pos->Zd,mul_assoc->Zo,natAbs_mul->Zs,mul_zero->Zv,emod_nonneg->ZM,le_of_dvd->ZQ,zero_add->ZR,toNat_of_nonneg->Z3,emod_lt_of_pos->Z4
open Bool renaming false_ne_true->Y4,and_eq_true->Zx
open PySem renaming boot_len->Y9,mem_of_lookup->ZS,Str.ofString->YK,Heap.get?_push_of_some->aaw,Heap.get?_push_size->aax,Heap.lt_size->aay
open Option.some renaming inj->Zb,injEq->aad
open PySem.F renaming plainAttrs_list->Zq,slot_list_append->ZK,type_list_append->ZL
open PySem.W renaming mg_none_of->ZN,Frag->aam,keepIn->aan,codeIn->aao,fnOf->aap,nsIn->aaq,findIn->aar
open Array renaming length_toList->ZV
open Option renaming getD_some->aaa,map_eq_some_iff->aas
open PyProof.Rows renaming callWith_type1->aaf
namespace Hd
open PySem PySem.W PyProof.Rows
abbrev yR (ok:Thread->Bool) (st:SharedT->Thread->Option (SharedT×Thread)) (n:Nat):SharedT->Thread->Option SharedT:=
 @Nat.rec (λ_=>SharedT->Thread->Option SharedT) (λ_ _=>none)
  (λ_ ih s t=>@Bool.rec (λ_=>Option SharedT) (@Bool.rec (λ_=>Option SharedT) none (@Option.rec (SharedT×Thread) (λ_=>Option SharedT) none (λr=>@Prod.rec _ _ (λ_=>Option SharedT) (λa b=>ih a b) r) (st s t)) (ok t)) (some s) (through t)) n
theorem oS {tb:String->Option Builtin} {p:Program} {w:World} {n₀:Nat} {ann:Option Value}:∀(n:Nat) (s:SharedT) (t:Thread) (s':SharedT),yR (stepOk n₀ ann) (stepT (denote tb) p w) n s t=some s'->topRun tb p w n₀ ann n s.abs t=some s'.abs
 | 0,_,_,_,h=>by cases h
 | n+1,s,t,s',h=>by
  unfold topRun
  replace h:@Bool.rec (λ_=>Option SharedT) (@Bool.rec (λ_=>Option SharedT) none (@Option.rec (SharedT×Thread) (λ_=>Option SharedT) none (λr=>@Prod.rec _ _ (λ_=>Option SharedT) (λa b=>yR (stepOk n₀ ann) (stepT (denote tb) p w) n a b) r) (stepT (denote tb) p w s t)) (stepOk n₀ ann t)) (some s) (through t)=some s':=h
  cases ht:through t with
  | true=>rw[ht] at h;cases h;rfl
  | false=>
   rw[ht] at h;cases hk:stepOk n₀ ann t with
   | false=>rw[hk] at h;cases h
   | true=>
    rw[hk] at h;cases hs:stepT (denote tb) p w s t with
    | none=>rw[hs] at h;cases h
    | some r=>obtain⟨s₂,t₂⟩:=r;rw[hs] at h;rw[stepT_spec hs];exact oS n s₂ t₂ s' h
abbrev bt (P:Params):BT:=((boot_heap P).objs.toList.foldl (fun(x:BT×Nat) o=>(x.1.ins x.2 o,x.2+1)) (.nil,0)).1
abbrev BE (w:World) (os:OsState):SharedT:=⟨bt w.params,11,{},Array.mk [],boot_drawn,boot_toks,os⟩
theorem Au (w:World) (os:OsState):(BE w os).abs=⟨boot_heap w.params,Array.mk [],boot_drawn,boot_toks,os⟩:=by kernel_rfl
theorem xB (w:World):((boot_heap w.params).isNs mainGlobals && (Array.mk []:Array GenState).size==0,(boot_heap w.params).objs.size,(boot_heap w.params).nsMap mainGlobals "__annotations__")=(true,11,some (.ref 6)):=by kernel_rfl
theorem BF {p q:Program} {loose:List Str} {Xt:Shared->Bool} {α:Type} {Yf:Shared->α} {Ya:World->α} {N:Nat} {g0:Bool}
  (Le:∀w:World,(fencedOpening treeTable p w N).map (λs=>(s.heap,s.gens,s.drawn,s.toks))=some (boot_heap w.params,Array.mk [],boot_drawn,boot_toks))
  (run:∀(w:World) (os:OsState),(yR (stepOk 11 (some (.ref 6))) (stepT (denote treeTable) p w) N (BE w os) (topStub p)).map (λs=>((staticsOk (importedModules p.main.body) (boot_heap w.params) s.abs.heap && namesBound p s.abs.heap && gensDone s.abs && laidKept (boot_heap w.params) s.abs.heap),openSeen q loose (importedModules p.main.body) Xt g0 s.abs,Yf s.abs))=some (true,openGood q loose,Ya w)):
  LeftO p q loose Xt Yf Ya N g0:=λw=>by
 obtain⟨⟨h,gs,d,k,os⟩,e,e'⟩:=aas.mp (Le w);obtain⟨rfl,rfl,rfl,rfl⟩:h=boot_heap w.params/\gs=Array.mk []/\d=boot_drawn/\k=boot_toks:=by simpa using e'
 obtain⟨z1,z2,z3⟩:_/\_/\_:=by simpa only[Prod.mk.injEq] using xB w
 obtain⟨s,r,l⟩:=aas.mp (run w os);obtain⟨l1,l2,l3⟩:_/\_/\_:=by simpa only[Prod.mk.injEq] using l
 have r:=oS _ _ _ _ r;rw[Au] at r;have t:topFrom treeTable p w N ⟨boot_heap w.params,Array.mk [],boot_drawn,boot_toks,os⟩=some s.abs:=by
  unfold topFrom;dsimp only;rw[z1,z2,z3,r];show(match staticsOk (importedModules p.main.body) (boot_heap w.params) s.abs.heap && namesBound p s.abs.heap && gensDone s.abs && laidKept (boot_heap w.params) s.abs.heap with | true=>_ | false=>_)=_;rw[l1]
 unfold openEnds;rw[e];show((topFrom treeTable p w N ⟨boot_heap w.params,Array.mk [],boot_drawn,boot_toks,os⟩)).map _=_;rw[t];show some (_,_)=_;rw[l2,l3]
abbrev Runs (p q:Program) (loose:List Str) (Xt:Shared->Bool) {α:Type} (Yf:Shared->α) (Ya:World->α) (N:Nat) (g0:Bool) (w:World):Prop:=
 ∀os:OsState,(yR (PySem.W.Fast.tw6613529449190102663 11 (some (.ref 6))) (PySem.W.Fast.tw10156331382660048174 (PySem.W.Fast.tw11892475500146522536 PySem.W.Fast.tw14364793385576792824) p w) N (BE w os) (topStub p)).map (λs=>((staticsOk (importedModules p.main.body) (boot_heap w.params) s.abs.heap && namesBound p s.abs.heap && gensDone s.abs && laidKept (boot_heap w.params) s.abs.heap),PySem.W.Fast.tw4187177175401517315 q loose (importedModules p.main.body) Xt g0 s.abs,Yf s.abs))=some (true,openGood q loose,Ya w)
theorem Av {p q:Program} {loose:List Str} {Xt:Shared->Bool} {α:Type} {Yf:Shared->α} {Ya:World->α} {N:Nat} {g0:Bool}
  (e:opening p=plainProg p.main.scope.names) (hN:Nat.ble 600 N=true) (f:∀s,fenceModules? p s=some s)
  (run:∀w:World,Runs p q loose Xt Yf Ya N g0 w):
  LeftO p q loose Xt Yf Ya N g0:=by
 refine BF (boot_open e hN f) ?_;unfold Runs at run;rw[PySem.W.Fast.te6613529449190102663,PySem.W.Fast.te10156331382660048174,PySem.W.Fast.te11892475500146522536,PySem.W.Fast.te14364793385576792824,PySem.W.Fast.te4187177175401517315];exact run
end Hd
namespace K43
open PySem PySem.Spec PyProof.Rows
abbrev top (i:Nat):Stmt:=PySem.Challenge.pw_pressluck_k43_whole_what_a_way_lacks.main.body.getD i (.Pass ⟨0,0,0,0⟩)
end K43
section OB
open PySem PySem.W PyProof.Rows
local macro_rules | `(tactic| o_head $H) => `(tactic| (refine (fun (_ : PySem.W.Hook) => ?_) $H; assumption))
theorem K43.pre (h:PySem.W.OpenRow.Holds (PySem.W.OpenLaw.row PySem.Challenge.rw_pressluck_k43_whole_what_a_way_lacks)):PySem.W.OpenRow.Holds (PySem.W.OpenLaw.row PySem.Challenge.rw_pressluck_k43_whole_what_a_way_lacks):=by
 k_head
abbrev K43.GW:List Addr:=[2,3,15,22,23,24,25,28,35,36,37,40,47,49,50,52,53,54,55,56,59,66,67,68,71,73,74,76,77,78,80,81,83,84,85,87,88,90,91,92,94,95,97,98,99,102,103,104,107,108,109,112,113,114,117,118,119,122,123,124,126,127,129,130,131,133,134,136,137,138,141,142,143,145,146,148,149,150,153,154,155,158,159,160,163,164,165,167,168,170,171,172,175,176,177,179,180,182,183,184,186,187,189,190,191,193,194,196,197,198,201,202,203,206,207,208,210,211,213,214,222,224,225,227,228,229,232,233,234,237,238,239,240,241,242,243,246,248,249,251,252,253,256,257,258,261,262,263,265,266,268,269,270,273,274,275,277,278,280,281,282,285,286,287,289,290,292,293,294,297,298,299,302,303,304,306,307,309,310,311,314,315,316,318,319,321,322,323,326,327,328,330,331,333,334,335,338,339,340,343,344,345,347,348,350,351,352,354,355,357,358,359,361,362,364,365,366,368,369,371,372,373,375,376,378,379,380,382,383,385,386,387,390,391,392,394,395,397,398,399,402,403,404,406,407,409,410,411,413,414,416,417,430,432,433,435,436,437,439,440,442,443]
theorem K43.HZ (P:PySem.Params):K43.GW=(K43.pre.heap_1 P).map (·.1):=by kernel_rfl
abbrev K43.vw:PySem.Program:={PySem.Challenge.pw_pressluck_k43_whole_what_a_way_lacks with main:={PySem.Challenge.pw_pressluck_k43_whole_what_a_way_lacks.main with body:=[K43.top 1,K43.top 2,K43.top 3,K43.top 4,K43.top 6,K43.top 7,K43.top 8,K43.top 9,K43.top 11,K43.top 12,K43.top 13,K43.top 14,K43.top 15,K43.top 17,K43.top 18,K43.top 19,K43.top 20,K43.top 21,K43.top 22,K43.top 23,K43.top 25,K43.top 26,K43.top 28,K43.top 29,K43.top 30,K43.top 31,K43.top 32,K43.top 33,K43.top 34,K43.top 35,K43.top 36,K43.top 37,K43.top 38,K43.top 39,K43.top 40,K43.top 41,K43.top 42,K43.top 43,K43.top 44,K43.top 46,K43.top 47,K43.top 48,K43.top 50,K43.top 51,K43.top 52,K43.top 53,K43.top 54,K43.top 55,K43.top 57,K43.top 58,K43.top 59,K43.top 60,K43.top 61,K43.top 62,K43.top 63,K43.top 64,K43.top 65,K43.top 66,K43.top 67,K43.top 68,K43.top 69,K43.top 70,K43.top 71]}}
theorem K43.run (w:World):Hd.Runs (RowW.prog (OpenRow.toRowW (PySem.W.OpenLaw.row PySem.Challenge.rw_pressluck_k43_whole_what_a_way_lacks))) K43.vw [] (λs=>xlAt K43.vw [] s && recOk (RowW.records (OpenRow.toRowW (PySem.W.OpenLaw.row PySem.Challenge.rw_pressluck_k43_whole_what_a_way_lacks))) s) (Hook.obs (PySem.W.kmHook K43.pre.heap_1 K43.GW K43.HZ [173])) (Hook.val (PySem.W.kmHook K43.pre.heap_1 K43.GW K43.HZ [173])) 5922 true w:=λos=>by kernel_rfl
end OB
set_option tactic.hygienic false
set_option compiler.extract_closed false
set_option hygiene false in
local macro_rules | `(tactic| symm) => `(tactic| (refine (?_ : let G_ : Prop := _; G_); intro G_))
set_option hygiene false in
local macro_rules | `(tactic| nofun) => `(tactic| dsimp only [G_])
local macro_rules | `(tactic| ac_rfl) => `(tactic| decide +kernel)
namespace L2
open PySem PySem.Spec PyProof.Rows
@[inline]abbrev Key:=Sum Int Str
abbrev oU:Key->Value->Bool
 | .inl k,v=>Value.isInt k v
 | .inr x,v=>Value.isStrOf x v
abbrev Ia (w:World):Key->Int
 | .inl k=>hashInt k
 | .inr x=>hashStr w x
theorem cE:∀{k:Key} {v:Value},oU k v=true->(∃i t,k=Sum.inl i/\v=Value.int i t)\/(∃x t,k=Sum.inr x/\v=Value.str x t)
 | .inl i,v,h=>by
  obtain⟨t,e⟩:=Value.isInt_shape (k:=i) (v:=v) h;exact .inl ⟨i,t,rfl,e⟩
 | .inr x,v,h=>by
  obtain⟨t,e⟩:=Value.isStrOf_shape (x:=x) (v:=v) h;exact .inr ⟨x,t,rfl,e⟩
theorem Aw (i:Int) (t:Tok):oU (.inl i) (.int i t)=true:=by simp [oU,Value.isInt]
theorem Ax (x:Str) (t:Tok):oU (.inr x) (.str x t)=true:=by simp [oU,Value.isStrOf]
theorem Ib (a b:Int):decide ((Sum.inl a:Key)=Sum.inl b)=(a==b):=by
 by_cases e:a=b
 ·subst e;simp
 ·have h:¬(Sum.inl a:Key)=Sum.inl b:=λq=>e (Sum.inl.inj q);rw[decide_eq_false h];exact(beq_eq_false_iff_ne.mpr e).symm
theorem Ic (a b:Str):decide ((Sum.inr a:Key)=Sum.inr b)=decide (a=b):=by
 by_cases e:a=b
 ·subst e;simp
 ·have h:¬(Sum.inr a:Key)=Sum.inr b:=λq=>e (Sum.inr.inj q);rw[decide_eq_false h,decide_eq_false e]
theorem Ie (a:Int) (b:Str):decide ((Sum.inl a:Key)=Sum.inr b)=false:=decide_eq_false (λq=>nomatch q)
theorem Ig (a:Str) (b:Int):decide ((Sum.inr a:Key)=Sum.inl b)=false:=decide_eq_false (λq=>nomatch q)
abbrev cC (prog:Program) (w:World):PySem.KeyKind prog w Key where
 is:=oU
 hash:=Ia w
 inj:=λv a b ha hb=>by
  rcases cE ha with ⟨i,t,rfl,rfl⟩ | ⟨x,t,rfl,rfl⟩
  ·rcases cE hb with ⟨j,u,rfl,e⟩ | ⟨y,u,rfl,e⟩
   ·injection e with e1 _;rw[e1]
   ·exact nomatch e
  ·rcases cE hb with ⟨j,u,rfl,e⟩ | ⟨y,u,rfl,e⟩
   ·exact nomatch e
   ·injection e with e1 _;rw[e1]
 byValue:=λk v h=>by
  rcases cE h with ⟨i,t,rfl,rfl⟩ | ⟨x,t,rfl,rfl⟩ <;>rfl
 pyHash:=λhv h=>by
  rcases cE hv with ⟨i,t,rfl,rfl⟩ | ⟨x,t,rfl,rfl⟩
  ·exact wpAny_pyHash_int h
  ·exact wpAny_pyHash_str h
 eqBool:=λhu hv h=>by
  rcases cE hu with ⟨i,t,rfl,rfl⟩ | ⟨x,t,rfl,rfl⟩
  ·rcases cE hv with ⟨j,u,rfl,rfl⟩ | ⟨y,u,rfl,rfl⟩
   ·rw[Ib] at h;exact wpAny_eqBool_int h
   ·rw[Ie] at h;exact SeqAt.EqAt.int_str i t y u _ _ _ _ h
  ·rcases cE hv with ⟨j,u,rfl,rfl⟩ | ⟨y,u,rfl,rfl⟩
   ·rw[Ig] at h;exact SeqAt.EqAt.str_int x t j u _ _ _ _ h
   ·rw[Ic] at h;exact wpAny_eqBool_str h
 «strs»:=λk x t v h=>by
  rcases cE h with ⟨i,u,rfl,e⟩ | ⟨y,u,rfl,e⟩
  ·exact nomatch e
  ·injection e with e1 _
   subst e1;cases v <;>rfl
theorem uW (prog:Program) (w:World) (i:Int) (t:Tok):(cC prog w).is (.inl i) (.int i t)=true:=Aw i t
theorem uX (prog:Program) (w:World) (x:Str) (t:Tok):(cC prog w).is (.inr x) (.str x t)=true:=Ax x t
end L2
namespace L2
open PySem PySem.Spec PyProof.Rows
inductive V where
 | cJ | bl (b:Bool) | int (i:Int) | str (x:Str) | Bx (b:Array UInt8) | KD (b:UInt64) | ref (a:Addr) | ty (n:String)
 deriving DecidableEq
abbrev RelV:V->Value->Prop
 | .cJ,u=>u=Value.none
 | .bl b,u=>u=Value.bool b
 | .int i,u=>∃t,u=Value.int i t
 | .str x,u=>∃t,u=Value.str x t
 | .Bx b,u=>∃t,u=Value.bytes b t
 | .KD b,u=>∃t,u=Value.float b t
 | .ref a,u=>u=Value.ref a
 | .ty n,u=>u=Value.type n
@[inline]abbrev br:List V->List Value->Prop:=Paired RelV
theorem br.length {xs:List V} {us:List Value} (r:br xs us):xs.length=us.length:=Paired.length r
theorem br.get:∀{xs:List V} {us:List Value} {i:Nat} {x:V},br xs us->xs[i]?=some x->∃u,us[i]?=some u/\RelV x u
 | _,_,_,_,.nil,e=>by simp at e
 | _,_,0,_,.cons r _,e=>by simp at e;subst e;exact⟨_,rfl,r⟩
 | _,_,i+1,x,.cons _ t,e=>by
  obtain⟨u,h1,h2⟩:=br.get (i:=i) (x:=x) t (by simpa using e);exact⟨u,by simpa using h1,h2⟩
theorem br.set {x:V} {u:Value} (r:RelV x u):∀{xs:List V} {us:List Value} (i:Nat),br xs us->br (xs.set i x) (us.set i u)
 | _,_,_,.nil=>.nil
 | _,_,0,.cons _ t=>.cons r t
 | _,_,i+1,.cons q t=>.cons q (br.set r i t)
theorem br.append:∀{xs ys:List V} {us ws:List Value},br xs us->br ys ws->br (xs++ys) (us++ws)
 | _,_,_,_,.nil,s=>s
 | _,_,_,_,.cons r t,s=>.cons r (br.append t s)
theorem br.take:∀{xs:List V} {us:List Value} (n:Nat),br xs us->br (xs.take n) (us.take n)
 | _,_,0,_=>.nil
 | _,_,_+1,.nil=>.nil
 | _,_,n+1,.cons r t=>.cons r (br.take n t)
theorem br.drop:∀{xs:List V} {us:List Value} (n:Nat),br xs us->br (xs.drop n) (us.drop n)
 | _,_,0,r=>r
 | _,_,_+1,.nil=>.nil
 | _,_,n+1,.cons _ t=>br.drop n t
abbrev jC:Option V->Option Value->Prop
 | some v,some u=>RelV v u
 | none,none=>True
 | _,_=>False
abbrev KV {κ:Type}:List (κ×V)->List (κ×Value)->Prop:=Paired fun(p:κ×V) (q:κ×Value)=>p.1=q.1/\RelV p.2 q.2
abbrev kV:Key->V
 | .inl i=>.int i
 | .inr x=>.str x
inductive HO where
 | lst (xs:List V)
 | tup (xs:List V)
 | dK (kvs:List (Key×V)) | dT (kvs:List (List Key×V))
 | set (S:Int->Bool) (n:Nat)
 | ins (C dx:Addr) (fs:List (Str×V))
 | own (x:Addr)
 | xd (fs:List (Str×V))
 | met (f x:Addr)
 | qH (lo hi:Int)
 | xn (o:Obj) (u:HO)
 | rj (ps:Array Value)
 | ext (φ:Heap->Prop)
@[inline]abbrev Hp:=Addr->Option HO
abbrev upd (H:Hp) (a:Addr) (o:HO):Hp:=λb=>if b=a then some o else H b
theorem ag {H:Hp} {a:Addr} {o:HO}:upd H a o a=some o:=by unfold upd;rw[if_pos rfl]
theorem aK {H:Hp} {a b:Addr} {o:HO} (h:b≠a):upd H a o b=H b:=by unfold upd;rw[if_neg h]
theorem Fb {H:Hp} {a:Addr} {o u:HO}:upd (upd H a o) a u=upd H a u:=by
 funext b;unfold upd;split <;>rfl
theorem Lf {H:Hp} {a b:Addr} {o u:HO} (h:H a=some o) (h':H b=some u) (d:o≠u):a≠b:=by
 intro e;subst e;rw[h] at h';exact d (Zb h')
theorem bE {H:Hp} {a b:Addr} {o:HO} (h:H a=some o) (h':H b=none):a≠b:=by
 intro e;subst e;rw[h] at h';cases h'
abbrev TabAt (H:Hp) (h:Heap) (a:Addr) (ps:Array Value):Prop:=∃mo:Array Value,h.get? a=some {cls:=.none,data:=.fields mo}/\
 (mo=#[]\/∃(l c:Value) (c1:Addr) (q:Str) (t:Tok),ps=#[l,c,.str q t]/\mo=#[l,c,.ref c1]/\H c1=some (.own a)/\h.CodeRec (.ref c1) q)
section
variable (P : Program) (w : World)
abbrev cX (H:Hp) (h:Heap) (a:Addr):HO->Prop
 | .lst xs=>xs.length<=sizeLine/\∃(aW:List Value) (n:Nat),br xs aW/\h.get? a=some {cls:=.type "list",data:=.seq aW.toArray n}
 | .tup xs=>xs.length<=sizeLine/\∃aW:List Value,br xs aW/\IsTup h a aW.toArray
 | .dK kvs=>kvs.length<=sizeLine/\(a==sysModules)=false/\∃vs,KV kvs vs/\h.DictOf (cC P w) a vs
 | .dT kvs=>kvs.length<=sizeLine/\(a==sysModules)=false/\∃xs:List (List Key×Addr×Value),
   Paired (fun(p:List Key×V) (q:List Key×Addr×Value)=>p.1=q.1/\H q.2.1=some (.tup (p.1.map kV))/\RelV p.2 q.2.2) kvs xs/\
   ∃o es ep,h.get? a=some o/\o.ExactDict/\o.data=.dict es ep/\es.toList=xs.map (entryOfKey (tupleKind (cC P w)))/\(xs.map (·.1)).Nodup
 | .set S n=>h.SetOf (intKind P w) a S n
 | .ins C dx fs=>H dx=some (.own a)/\fs.length<=1000/\dx≠a/\h.get? a=some (PySem.W.instObj C dx)/\
   ∃mA,h.Ns1 dx mA/\(∀f,jC (fs.lookup f) (mA f))/\PySem.Within mA (fs.map (·.1))
 | .own _=>∃o,h.get? a=some o
 | .xd fs=>∃mA,h.Ns1 a mA/\∀f,jC (fs.lookup f) (mA f)
 | .qH lo hi=>∃t u v,h.get? a=some {cls:=.type "range",data:=.fields #[.int lo t,.int hi u,.int 1 v]}
 | .xn o u=>h.get? a=some o/\cX H h a u
 | .rj ps=>TabAt H h a ps
 | .met f x=>h.get? a=some (PySem.W.methodObj (.ref f) (.ref x))
 | .ext φ=>φ h/\(∃o,h.get? a=some o)/\∀h1 h2:Heap,φ h1->(∀o,h1.get? a=some o->h2.get? a=some o)->φ h2
abbrev iJ (H:Hp) (h:Heap):Prop:=∀a o,H a=some o->cX P w H h a o
end
section
variable {P : Program} {w : World} {H H' : Hp} {h h' : Heap} {a : Addr} {o : HO}
theorem cX.lt (x:cX P w H h a o):a<h.objs.size:=by
 cases o with
 | lst xs=>obtain⟨_,_,_,_,e⟩:=x;exact aay e
 | tup xs=>obtain⟨_,_,_,p⟩:=x;exact p.lt
 | dK kvs=>obtain⟨_,_,_,_,o,_,_,e,_⟩:=x;exact aay e
 | dT kvs=>obtain⟨_,_,_,_,o,_,_,e,_⟩:=x;exact aay e
 | set S n=>obtain⟨o,_,_,_,e,_⟩:=x;exact aay e
 | ins C dx fs=>obtain⟨_,_,_,e,_⟩:=x;exact aay e
 | own y=>obtain⟨_,e⟩:=x;exact aay e
 | xd fs=>obtain⟨_,⟨_,_,_,e,_⟩,_⟩:=x;exact aay e
 | qH lo hi=>obtain⟨_,_,_,e⟩:=x;exact aay e
 | xn ob u=>obtain⟨e,_⟩:=x;exact aay e
 | rj ps=>obtain⟨_,e,_⟩:=x;exact aay e
 | met f y=>exact aay (show h.get? a=some _ from x)
 | ext φ=>obtain⟨_,⟨_,e⟩,_⟩:=x;exact aay e
theorem Paired.Ih {α β:Type} {F G:α->β->Prop}:∀{l₁:List α} {l₂:List β},Paired F l₁ l₂->(∀a b,F a b->G a b)->Paired G l₁ l₂
 | _,_,.nil,_=>.nil
 | _,_,.cons r t,f=>.cons (f _ _ r) (Paired.Ih t f)
theorem cX.qK (x:cX P w H h a o) (k:∀b u,(b=a\/H b=some (.own a))->h.get? b=some u->h'.get? b=some u)
  (ho:∀b,H b=some (.own a)->H' b=some (.own a)) (ht:∀b xs,H b=some (.tup xs)->H' b=some (.tup xs)):cX P w H' h' a o:=by
 induction o with
 | lst xs=>obtain⟨z,aW,n,r,e⟩:=x;exact⟨z,aW,n,r,k _ _ (.inl rfl) e⟩
 | tup xs=>obtain⟨z,aW,r,ob,e,c⟩:=x;exact⟨z,aW,r,ob,k _ _ (.inl rfl) e,c⟩
 | dK kvs=>obtain⟨z,y,vs,r,ob,es,ep,e,c⟩:=x;exact⟨z,y,vs,r,ob,es,ep,k _ _ (.inl rfl) e,c⟩
 | dT kvs=>
  obtain⟨z,y,xs,r,ob,es,ep,e,c⟩:=x;exact⟨z,y,xs,Paired.Ih r λp q z=>⟨z.1,ht _ _ z.2.1,z.2.2⟩,ob,es,ep,k _ _ (.inl rfl) e,c⟩
 | set S n=>obtain⟨ob,es,ep,t,e,c⟩:=x;exact⟨ob,es,ep,t,k _ _ (.inl rfl) e,c⟩
 | ins C dx fs=>
  obtain⟨d,z,ne,e,mA,⟨od,es,ep,e2,c⟩,r⟩:=x;exact⟨ho _ d,z,ne,k _ _ (.inl rfl) e,mA,⟨od,es,ep,k _ _ (.inr d) e2,c⟩,r⟩
 | own y=>obtain⟨ob,e⟩:=x;exact⟨ob,k _ _ (.inl rfl) e⟩
 | xd fs=>obtain⟨mA,⟨od,es,ep,e,c⟩,r⟩:=x;exact⟨mA,⟨od,es,ep,k _ _ (.inl rfl) e,c⟩,r⟩
 | qH lo hi=>obtain⟨t,u,v,e⟩:=x;exact⟨t,u,v,k _ _ (.inl rfl) e⟩
 | xn ob u ih=>obtain⟨e,q⟩:=x;exact⟨k _ _ (.inl rfl) e,ih q⟩
 | rj ps=>
  obtain⟨mo,e,q⟩:=x;refine⟨mo,k _ _ (.inl rfl) e,?_⟩;rcases q with q | ⟨l,c,c1,qn,t,e1,e2,e3,c2,o2,OC,t2,f1,f2,f3,f4⟩
  ·exact .inl q
  ·cases f1;exact .inr ⟨l,c,c1,qn,t,e1,e2,ho _ e3,c1,o2,OC,t2,rfl,k _ _ (.inr e3) f2,f3,f4⟩
 | met f y=>
  have e:h.get? a=some (PySem.W.methodObj (.ref f) (.ref y)):=x;show h'.get? a=some (PySem.W.methodObj (.ref f) (.ref y));exact k a _ (.inl rfl) e
 | ext φ=>obtain⟨p,⟨o,e⟩,st⟩:=x;exact⟨st _ _ p λo q=>k _ _ (.inl rfl) q,⟨o,k _ _ (.inl rfl) e⟩,st⟩
theorem iJ.lt (x:iJ P w H h) (e:H a=some o):a<h.objs.size:=(x a o e).lt
theorem iJ.fresh (x:iJ P w H h) (e:h.objs.size<=a):H a=none:=by
 cases q:H a with
 | none=>rfl
 | some u=>exact absurd (Y3 (x.lt q) e) (Zj _)
theorem iJ.kept (x:iJ P w H h) (k:∀b u,h.get? b=some u->h'.get? b=some u):iJ P w H h':=λa o e=>
 (x a o e).qK (λb u _ q=>k b u q) (λ_ q=>q) λ_ _ q=>q
theorem iJ.laid (x:iJ P w H h) (k:∀b u,h.get? b=some u->h'.get? b=some u) (hp:h.objs.size<=a) (new:cX P w (upd H a o) h' a o):iJ P w (upd H a o) h':=λb u e=>by
 have hn:=x.fresh hp
 by_cases hb:b=a
 ·subst hb;rw[ag] at e;cases e;exact new
 ·rw[aK hb] at e;exact(x b u e).qK (λc v _ q=>k c v q) (λc q=>by rw[aK (bE q hn)];exact q) λc xs q=>by rw[aK (bE q hn)];exact q
end
abbrev Rd (H:Hp) (a:Addr) (u:HO):Prop:=H a=some u\/∃o,H a=some (.xn o u)
theorem Rd.ok {P:Program} {w:World} {H:Hp} {h:Heap} {a:Addr} {u:HO} (r:Rd H a u) (x:iJ P w H h):cX P w H h a u:=by
 rcases r with r | ⟨o,r⟩
 ·exact x a u r
 ·obtain⟨_,q⟩:=x a _ r;exact q
abbrev Lg:Option HO->Prop
 | some (.lst _)=>True
 | some (.dK _)=>True
 | some (.dT _)=>True
 | some (.set _ _)=>True
 | some (.ins _ _ _)=>True
 | some (.ext _)=>True
 | _=>False
section
variable {P : Program} {w : World} {H : Hp} {h h' : Heap} {x e : Addr} {o' : HO}
theorem iJ.write (ok:iJ P w H h) (mu:Lg (H x)) (he:e=x\/H e=some (.own x)) (k:∀b u,b≠e->h.get? b=some u->h'.get? b=some u) (KE:∃u,h'.get? e=some u)
  (new:cX P w (upd H x o') h' x o'):iJ P w (upd H x o') h':=λb u q=>by
 have Lh:∀c y,H c=some (.own y)->c≠x:=λc y r z=>by subst z;rw[r] at mu;exact mu
 have OD:∀c xs,H c=some (.tup xs)->c≠x:=λc xs r z=>by subst z;rw[r] at mu;exact mu
 by_cases hb:b=x
 ·subst hb;rw[ag] at q;cases q;exact new
 ·rw[aK hb] at q
  by_cases Ii:b=e
  ·have q':H b=some (.own x):=by
    rcases he with z | z
    ·exact absurd (Ii.trans z) hb
    ·rw[Ii];exact z
   rw[q] at q';cases q';obtain⟨v,hv⟩:=KE;exact⟨v,by rw[Ii];exact hv⟩
  ·refine(ok b u q).qK (λc v hc r=>k c v ?_ r) (λc r=>by rw[aK (Lh c b r)];exact r) λc xs r=>by rw[aK (OD c xs r)];exact r
   rcases hc with rfl | hc
   ·exact Ii
   ·rintro rfl;rcases he with z | z
    ·exact Lh c b hc z
    ·rw[hc] at z;cases z;exact hb rfl
end
structure Un (fs ex:List Addr) (H H':Hp) (h h':Heap):Prop where
 keep:∀b o,h.get? b=some o->H b=none->b∉fs->b∉ex->h'.get? b=some o
 slot:∀b o,h.get? b=some o->H b=none->b∈fs->b∉ex->∃sl,h'.get? b=some {o with slots:=sl}
 free:∀b o,h.get? b=some o->H b=none->b∉ex->H' b=none
 there:∀b o,h.get? b=some o->b∉ex->∃o',h'.get? b=some o'
 nF:∀b xs,H b=some (.tup xs)->H' b=some (.tup xs)
 oV:∀b o u,H b=some (.xn o u)->H' b=some (.xn o u)
 oW:∀b ps,H b=some (.rj ps)->∃more,H' b=some (.rj (ps++more))
section
variable {fs Tt ex Fc : List Addr} {H H1 H2 : Hp} {h h1 h2 h' : Heap} {a x e : Addr} {o : HO}
theorem Un.any (u:Un fs ex H H1 h h1) {b:Addr} {ob:Obj} (q:h.get? b=some ob) (n:H b=none) (hx:b∉ex):∃sl,h1.get? b=some {ob with slots:=sl}:=by
 by_cases hb:b∈fs
 ·exact u.slot b ob q n hb hx
 ·exact⟨ob.slots,u.keep b ob q n hb hx⟩
theorem Un.kept (k:∀b u,h.get? b=some u->h'.get? b=some u):Un fs ex H H h h':=
 ⟨λb ob q _ _ _=>k b ob q,λb ob q _ _ _=>⟨ob.slots,k b ob q⟩,λ_ _ _ n _=>n,λb ob q _=>⟨ob,k b ob q⟩,λ_ _ q=>q,λ_ _ _ q=>q,λ_ ps q=>⟨#[],by rw[q];simp⟩⟩
theorem Un.refl:Un fs ex H H h h:=Un.kept λ_ _ q=>q
theorem Un.laid (k:∀b u,h.get? b=some u->h'.get? b=some u) (hp:h.objs.size<=a) (hn:H a=none):Un fs ex H (upd H a o) h h' where
 keep:=λb u q _ _ _=>k b u q
 slot:=λb u q _ _ _=>⟨u.slots,k b u q⟩
 free:=λb u q n _=>by rw[aK (YW (Y3 (aay q) hp))];exact n
 there:=λb u q _=>⟨u,k b u q⟩
 nF:=λb xs q=>by rw[aK (bE q hn)];exact q
 oV:=λb u xs q=>by rw[aK (bE q hn)];exact q
 oW:=λb ps q=>⟨#[],by rw[aK (bE q hn),q];simp⟩
theorem Un.write (mu:Lg (H x)) (he:e=x\/H e=some (.own x)) (k:∀b u,b≠e->h.get? b=some u->h'.get? b=some u) (KE:∃u,h'.get? e=some u):Un fs ex H (upd H x o) h h':=by
 have hx:∀b,H b=none->b≠x:=λb n z=>by subst z;rw[n] at mu;exact mu
 have hb:∀b,H b=none->b≠e:=λb n z=>by
  subst z;rcases he with r | r
  ·exact hx b n r
  ·rw[n] at r;cases r
 have hm:∀b u,H b=some u->¬Lg (some u)->b≠x:=λb u q nm z=>by subst z;rw[q] at mu;exact nm mu
 refine⟨λb u q n _ _=>k b u (hb b n) q,λb u q n _ _=>⟨u.slots,k b u (hb b n) q⟩,λb u q n _=>by rw[aK (hx b n)];exact n,λb u q _=>?_,
  λb xs q=>by rw[aK (hm b _ q λz=>z)];exact q,λb u xs q=>by rw[aK (hm b _ q λz=>z)];exact q,λb ps q=>⟨#[],by rw[aK (hm b _ q λz=>z),q];simp⟩⟩
 by_cases Ii:b=e
 ·subst Ii;exact KE
 ·exact⟨u,k b u Ii q⟩
end
abbrev Ny (h:Heap) (H:Hp):List Addr:=(List.range h.objs.size).filter λa=>(H a).isSome
abbrev oX (h:Heap) (H:Hp):Heap:=PySem.W.hideAll h (Ny h H)
theorem Ay (h:Heap) (H:Hp):(oX h H).objs.size=h.objs.size:=PySem.W.hideAll_size _ _
theorem BG {h:Heap} {H:Hp} {b:Addr} {o:Obj} (e:h.get? b=some o) (n:H b=none):(oX h H).get? b=some o:=
 PySem.W.hideAll_get _ e λhm=>by
  have q:(H b).isSome=true:=(List.mem_filter.mp hm).2;rw[n] at q;simp at q
theorem Fd {h:Heap} {H:Hp} {b:Addr} {o:Obj} (e:(oX h H).get? b=some o):h.get? b=some o/\H b=none:=by
 have e':h.get? b=some o:=PySem.W.of_hideAll (Ny h H) e;refine⟨e',?_⟩;cases q:H b with
 | none=>rfl
 | some x=>
  have hm:b∈Ny h H:=List.mem_filter.mpr ⟨List.mem_range.mpr (aay e'),by simp [q]⟩;have z:(oX h H).get? b=none:=PySem.W.hideAll_none (Ny h H) hm;rw[z] at e;cases e
abbrev Fe (g h:Heap) (L:Addr):List (Addr×Obj):=(List.range h.objs.size).filterMap λa=>if a=L\/(g.get? a).isSome=true then none else (h.get? a).map λo=>(a,o)
abbrev rest (g h:Heap) (L d:Addr):List (Addr×Obj):=(Fe g h L).filter λp=>decide (p.1≠d)
end L2
namespace L2
open PySem PySem.Spec PyProof.Rows
structure Mod (K:aam) (mg:Str->Option Value) (base:Heap):Prop where
 Li:K.In base
 glob:base.Ns mainGlobals mg
 blt:∃mb,base.Ns builtinsNs mb/\∀x:Str,x≠"__name__"->mb x=bootBuiltins x
 nolimit:base.NoLimit
structure Cx where
 prog:Program
 w:World
 K:aam
 mg:Str->Option Value
 base:Heap
 A:Around
 N:List Str
 s₀:Shared
 H₀:Hp
 env:Env
 outer:List Env
 stack:List Env
 ex:List Addr
 fn:Str->Bool
 calm:Bool
 pn:List (Addr×Obj)
 xe:Value->Shared->Prop
def uY (l:List Env):List Addr:=l.filterMap (·.frame)
@[inline]abbrev Cx.fs (X:Cx):List Addr:=uY X.outer
abbrev OE (sc:Scope) (x:Str):Prop:=sc.names.lookup x=some .local\/sc.names.lookup x=some .cell\/sc.names.lookup x=some .free
abbrev Loc (sc:Scope) (x:Str):Prop:=sc.names.lookup x=some .local\/sc.names.lookup x=some .cell
abbrev Look (env:Env) (h:Heap) (m:Str->Option Value) (x:Str) (u:Value):Prop:=
 (env.kindOf x=some .local/\m x=some u)\/((env.kindOf x=some .cell\/env.kindOf x=some .free)/\∃c,env.cells.lookup x=some c/\h.IsCell c (some u))
structure Cx.Ok (X:Cx):Prop where
 mod:Mod X.K X.mg X.base
 kind:X.env.scope.kind=.function
 glob:X.env.globals=mainGlobals
 blt:X.env.builtins=builtinsNs
 above:X.s₀.heap.objs.size<=X.env.locals
 inj:∀x y c,X.env.cells.lookup x=some c->X.env.cells.lookup y=some c->x=y
 has:∀x,(X.env.kindOf x=some .cell\/X.env.kindOf x=some .free)->∃c,X.env.cells.lookup x=some c
 KG:∀x c,X.fn x=true->X.env.cells.lookup x=some c->X.s₀.heap.objs.size<=c
 hd:X.calm=true->X.A.handled=none
 frames:X.A.frames=some X.stack
 BH:X.stack=X.outer\/(X.stack=X.env::X.outer/\X.env.frame=some X.env.locals)
 OF:∀b∈X.ex,b≠X.env.locals/\∀x c,X.env.cells.lookup x=some c->c≠b
 bs:∀b o,X.base.get? b=some o->X.s₀.heap.get? b=some o/\X.H₀ b=none
 BI:X.base.objs.size<=X.s₀.heap.objs.size
 Az:∀b o,X.base.get? b=some o->b∉X.ex
 BJ:∀b∈X.ex,b∉X.fs
 lY:X.s₀.heap.FunFrames X.base X.outer
 GX:∀b∈X.fs,X.H₀ b=none
structure Inv (X:Cx) (pins:List (Addr×Obj)) (σ:List (Option V)) (H:Hp) (s:Shared):Prop where
 ok:X.Ok
 os:s.os=X.s₀.os
 bare:AllBare s.gens
 base:Un X.fs X.ex X.H₀ H X.s₀.heap s.heap
 loc:∃m,s.heap.Ns X.env.locals m/\∀(i:Nat) (x:Str) (v:V),X.N[i]?=some x->σ[i]?=some (some v)->OE X.env.scope x->∃u,RelV v u/\Look X.env s.heap m x u
 cell:∀x c,X.env.cells.lookup x=some c->∃v,s.heap.IsCell c v
 free:H X.env.locals=none
 iO:∀x c,X.env.cells.lookup x=some c->H c=none
 pin:∀p∈X.pn++pins,s.heap.get? p.1=some p.2/\H p.1=none/\p.1≠X.env.locals/\p.1∉X.fs/\∀v,p.2.data≠.cell v
 cw:iJ X.prog X.w H s.heap
 len:σ.length=X.N.length
section
variable {X : Cx} {pins : List (Addr × Obj)} {σ : List (Option V)} {H H' : Hp} {s : Shared} {h' : Heap}
theorem Cx.Ok.OG (ok:X.Ok) {b:Addr} {o:Obj} (e:X.base.get? b=some o):b∉X.fs:=λhb=>by
 have:=(ok.lY.mem hb).1;rw[e] at this;cases this
theorem Inv.bs (I:Inv X pins σ H s):∀b o,X.base.get? b=some o->s.heap.get? b=some o/\H b=none:=λb o e=>
 ⟨I.base.keep b o (I.ok.bs b o e).1 (I.ok.bs b o e).2 (I.ok.OG e) (I.ok.Az b o e),I.base.free b o (I.ok.bs b o e).1 (I.ok.bs b o e).2 (I.ok.Az b o e)⟩
theorem Inv.bk (I:Inv X pins σ H s):∀b o,X.base.get? b=some o->s.heap.get? b=some o:=λb o e=>(I.bs b o e).1
theorem Inv.mod (I:Inv X pins σ H s):Mod X.K X.mg X.base:=I.ok.mod
theorem Inv.yS (I:Inv X pins σ H s):X.K.In s.heap:=I.ok.mod.Li.keeps I.bk
theorem Inv.lt (I:Inv X pins σ H s):X.env.locals<s.heap.objs.size:=let ⟨_,hn,_⟩:=I.loc;hn.lt
theorem Inv.sz (I:Inv X pins σ H s):X.s₀.heap.objs.size<=s.heap.objs.size:=YY I.ok.above (Nat.le_of_lt I.lt)
theorem Inv.OH (I:Inv X pins σ H s) {a:Addr} (h:s.heap.objs.size<=a):a∉X.fs:=λhb=>by
 obtain⟨_,o,ho,_⟩:=I.ok.lY.mem hb;exact absurd (Y3 (aay ho) (YY I.sz h)) (Zj _)
theorem Inv.Ij (I:Inv X pins σ H s):∀x c,X.env.cells.lookup x=some c->c≠X.env.locals:=λx c e z=>by
 obtain⟨v,o,ho,hd⟩:=I.cell x c e;obtain⟨m,⟨o',es,ep,Ik,Lj,_⟩,_⟩:=I.loc;rw[z,Ik] at ho;cases ho;rw[Lj] at hd;cases hd
theorem Inv.lY (I:Inv X pins σ H s):s.heap.FunFrames X.base X.outer:=by
 have all:∀(l:List Env),(∀b∈uY l,b∈X.fs)->X.s₀.heap.FunFrames X.base l->s.heap.FunFrames X.base l:=by
  intro l
  induction l with
  | nil=>intro _ _;trivial
  | cons env r ih=>
   intro hs hl;obtain⟨hk,⟨L,o,hf,hn,ho,hd⟩,hr⟩:=hl;have hL:L∈X.fs:=hs L (by unfold uY;rw[List.filterMap_cons,hf];exact YT);obtain⟨sl,e⟩:=I.base.slot L o ho (I.ok.GX L hL) hL λz=>I.ok.BJ L z hL;exact⟨hk,⟨L,_,hf,hn,e,hd⟩,ih (λb hb=>hs b (by unfold uY;rw[List.filterMap_cons,hf];exact YU _ hb)) hr⟩
 exact all X.outer (λ_ hb=>hb) I.ok.lY
theorem Inv.stack (I:Inv X pins σ H s):s.heap.FunFrames X.base X.stack:=by
 rcases I.ok.BH with e | ⟨e,hf⟩
 ·rw[e];exact I.lY
 ·rw[e];obtain⟨m,hn,_⟩:=I.loc;refine .cons (by rw[I.ok.kind];decide) hf hn ?_ I.lY;exact Heap.get?_none_of_le (YY I.ok.BI I.ok.above)
theorem Inv.sS (I:Inv X pins σ H s):∀b∈uY X.stack,b∈X.env.locals::X.fs:=λb hb=>by
 rcases I.ok.BH with e | ⟨e,hf⟩
 ·rw[e] at hb;exact YU _ hb
 ·rw[e] at hb;unfold uY at hb;rw[List.filterMap_cons,hf] at hb;exact hb
theorem Inv.yT (I:Inv X pins σ H s):∀b∈uY X.stack,H b=none:=λb hb=>by
 rcases ZT.mp (I.sS b hb) with e | hb
 ·rw[e];exact I.free
 ·obtain⟨_,o,ho,_⟩:=I.ok.lY.mem hb;exact I.base.free b o ho (I.ok.GX b hb) λz=>I.ok.BJ b z hb
theorem Inv.step {g':Array GenState} {t':Nat} {d':Drawn} {ch:List Addr} (I:Inv X pins σ H s)
  (EV:∀b∈ch,(b∈X.ex\/X.s₀.heap.objs.size<=b)/\b≠X.env.locals/\(∀x c,X.env.cells.lookup x=some c->c≠b)/\∀p∈X.pn++pins,p.1≠b)
  (keep:∀b o,b≠X.env.locals->b∉X.fs->b∉ch->s.heap.get? b=some o->H b=none->h'.get? b=some o)
  (slot:∀b o,b≠X.env.locals->b∈X.fs->b∉ch->s.heap.get? b=some o->H b=none->∃sl,h'.get? b=some {o with slots:=sl}) (free:∀b o,b∉ch->s.heap.get? b=some o->H b=none->H' b=none)
  (there:∀b o,b∉ch->s.heap.get? b=some o->∃o',h'.get? b=some o')
  (nF:∀b xs,H b=some (.tup xs)->H' b=some (.tup xs)) (oV:∀b o u,H b=some (.xn o u)->H' b=some (.xn o u)) (oW:∀b ps,H b=some (.rj ps)->∃more,H' b=some (.rj (ps++more)))
  (ns:∀m,s.heap.Ns X.env.locals m->h'.Ns X.env.locals m) (cw:iJ X.prog X.w H' h') (hg:AllBare g'):
  Inv X pins σ H' {s with heap:=h',gens:=g',drawn:=d',toks:=t'}:=by
 have Rj:∀b o,X.s₀.heap.get? b=some o->b≠X.env.locals:=λb o e=>YW (Y3 (aay e) I.ok.above);have Nz:∀b o,X.s₀.heap.get? b=some o->b∉X.ex->b∉ch:=λb o e hx hb=>by
  rcases(EV b hb).1 with z | z
  ·exact hx z
  ·exact absurd (Y3 (aay e) z) (Zj _)
 have cellK:∀x c,X.env.cells.lookup x=some c->∀v,s.heap.IsCell c v->h'.IsCell c v:=λx c e v ⟨o,ho,hd⟩=>by
  have GY:c∉ch:=λz=>(EV c z).2.2.1 x c e rfl
  by_cases hc:c∈X.fs
  ·obtain⟨sl,q⟩:=slot c o (I.Ij x c e) hc GY ho (I.iO x c e);exact⟨_,q,hd⟩
  ·exact⟨o,keep c o (I.Ij x c e) hc GY ho (I.iO x c e),hd⟩
 refine⟨I.ok,I.os,hg,⟨λb o e n hb hx=>?_,λb o e n hb hx=>?_,λb o e n hx=>?_,λb o e hx=>?_,λb xs e=>nF b xs (I.base.nF b xs e),λb o xs e=>oV b o xs (I.base.oV b o xs e),λb ps e=>?_⟩,?_,λx c e=>?_,?_,λx c e=>?_,λp hp=>?_,cw,I.len⟩
 ·exact keep b o (Rj b o e) hb (Nz b o e hx) (I.base.keep b o e n hb hx) (I.base.free b o e n hx)
 ·obtain⟨sl,e1⟩:=I.base.slot b o e n hb hx;obtain⟨NA,e2⟩:=slot b _ (Rj b o e) hb (Nz b o e hx) e1 (I.base.free b o e n hx);exact⟨NA,e2⟩
 ·obtain⟨o',e1⟩:=I.base.there b o e hx;exact free b o' (Nz b o e hx) e1 (I.base.free b o e n hx)
 ·obtain⟨o',e1⟩:=I.base.there b o e hx;exact there b o' (Nz b o e hx) e1
 ·obtain⟨m1,e1⟩:=I.base.oW b ps e;obtain⟨m2,e2⟩:=oW b _ e1;exact⟨m1++m2,by rw[e2,Array.append_assoc]⟩
 ·obtain⟨m,hn,hl⟩:=I.loc;refine⟨m,ns m hn,λi x v e1 e2 e3=>?_⟩;obtain⟨u,r,l⟩:=hl i x v e1 e2 e3;refine⟨u,r,?_⟩;rcases l with l | ⟨k,c,e,z⟩
  ·exact .inl l
  ·exact .inr ⟨k,c,e,cellK x c e _ z⟩
 ·obtain⟨v,z⟩:=I.cell x c e;exact⟨v,cellK x c e v z⟩
 ·obtain⟨m,⟨o,_,_,ho,_⟩,_⟩:=I.loc;exact free _ o (λz=>(EV _ z).2.1 rfl) ho I.free
 ·obtain⟨v,o,ho,hd⟩:=I.cell x c e;exact free c o (λz=>(EV c z).2.2.1 x c e rfl) ho (I.iO x c e)
 ·obtain⟨e,n,ne,nf,d⟩:=I.pin p hp;have GY:p.1∉ch:=λz=>(EV p.1 z).2.2.2 p hp rfl;exact⟨keep p.1 p.2 ne nf GY e n,free p.1 p.2 GY e n,ne,nf,d⟩
theorem Inv.un {t':Nat} (I:Inv X pins σ H s) (u:Un X.fs [] H H' s.heap h') (cw:iJ X.prog X.w H' h'):Inv X pins σ H' {s with heap:=h',toks:=t'}:=by
 obtain⟨m,⟨o,es,ep,ho,r⟩,_⟩:=id I.loc;obtain⟨sl,hL⟩:=u.any ho I.free (by simp);exact I.step (g':=s.gens) (d':=s.drawn) (ch:=[]) (λ_ z=>nomatch z) (λb o _ hb _ e n=>u.keep b o e n hb (by simp)) (λb o _ hb _ e n=>u.slot b o e n hb (by simp)) (λb o _ e n=>u.free b o e n (by simp)) (λb o _ e=>u.there b o e (by simp)) u.nF u.oV u.oW (λm' hm=>by
  obtain⟨o',OI,Ff,Ik,r'⟩:=hm;rw[ho] at Ik;cases Ik;exact⟨_,OI,Ff,hL,r'⟩) cw I.bare
theorem Inv.call {g':Array GenState} {t':Nat} {d':Drawn} {ch:List Addr} (I:Inv X pins σ H s) (u:Un (uY X.stack) ch H H' s.heap h') (cw:iJ X.prog X.w H' h') (hg:AllBare g')
  (EV:∀b∈ch,(b∈X.ex\/X.s₀.heap.objs.size<=b)/\b≠X.env.locals/\(∀x c,X.env.cells.lookup x=some c->c≠b)/\∀p∈X.pn++pins,p.1≠b):
  Inv X pins σ H' {s with heap:=h',gens:=g',drawn:=d',toks:=t'}:=by
 obtain⟨m,⟨o,es,ep,ho,r⟩,_⟩:=id I.loc;obtain⟨sl,hL⟩:=u.any ho I.free λz=>(EV _ z).2.1 rfl;exact I.step (ch:=ch) EV (λb o hL hb hc e n=>u.keep b o e n (λz=>(ZT.mp (I.sS b z)).elim hL hb) hc) (λb o _ _ hc e n=>u.any e n hc) (λb o hc e n=>u.free b o e n hc) (λb o hc e=>u.there b o e hc) u.nF u.oV u.oW (λm' hm=>by
  obtain⟨o',OI,Ff,Ik,r'⟩:=hm;rw[ho] at Ik;cases Ik;exact⟨_,OI,Ff,hL,r'⟩) cw hg
theorem Inv.turned {t':Nat} {it:Addr} (I:Inv X pins σ H s) (k:∀b o,b≠it->s.heap.get? b=some o->h'.get? b=some o) (hn:H it=none) (hL:it≠X.env.locals)
  (h1:it∈X.ex\/X.s₀.heap.objs.size<=it) (h2:∀x c,X.env.cells.lookup x=some c->c≠it) (h3:∀p∈X.pn++pins,p.1≠it):Inv X pins σ H {s with heap:=h',toks:=t'}:=by
 have Rk:∀b u,H b=some u->b≠it:=λb u e z=>by rw[z,hn] at e;cases e
 refine I.step (g':=s.gens) (d':=s.drawn) (ch:=[it]) (λb hb=>?_) (λb o _ _ hc e _=>k b o (λz=>hc (by simp [z])) e) (λb o _ _ hc e _=>⟨o.slots,k b o (λz=>hc (by simp [z])) e⟩) (λ_ _ _ _ n=>n)
  (λb o hc e=>⟨o,k b o (λz=>hc (by simp [z])) e⟩) (λ_ _ e=>e) (λ_ _ _ e=>e) (λb ps e=>⟨#[],by rw[e];simp⟩) (λm hm=>?_) (λb u e=>?_) I.bare
 ·have e:b=it:=by simpa using hb
  subst e;exact⟨h1,hL,h2,h3⟩
 ·obtain⟨o,es,ep,ho,r⟩:=hm;exact⟨o,es,ep,k _ o (Ne.symm hL) ho,r⟩
 ·refine(I.cw b u e).qK (λc v hc q=>k c v ?_ q) (λ_ q=>q) λ_ _ q=>q;rcases hc with z | z
  ·rw[z];exact Rk b u e
  ·exact Rk c _ z
theorem Inv.tok (I:Inv X pins σ H s) (t:Nat):Inv X pins σ H {s with toks:=t}:=I.un (h':=s.heap) (t':=t) Un.refl I.cw
theorem Inv.kept {t':Nat} (I:Inv X pins σ H s) (k:∀b u,s.heap.get? b=some u->h'.get? b=some u):Inv X pins σ H {s with heap:=h',toks:=t'}:=I.un (Un.kept k) (I.cw.kept k)
theorem Inv.laid {a:Addr} {o:HO} {t':Nat} (I:Inv X pins σ H s) (k:∀b u,s.heap.get? b=some u->h'.get? b=some u) (hp:s.heap.objs.size<=a) (new:cX X.prog X.w (upd H a o) h' a o):
  Inv X pins σ (upd H a o) {s with heap:=h',toks:=t'}:=I.un (Un.laid k hp (I.cw.fresh hp)) (I.cw.laid k hp new)
theorem Inv.write {x e:Addr} {o:HO} {t':Nat} (I:Inv X pins σ H s) (mu:Lg (H x)) (he:e=x\/H e=some (.own x)) (k:∀b u,b≠e->s.heap.get? b=some u->h'.get? b=some u) (KE:∃u,h'.get? e=some u)
  (new:cX X.prog X.w (upd H x o) h' x o):Inv X pins σ (upd H x o) {s with heap:=h',toks:=t'}:=I.un (Un.write mu he k KE) (I.cw.write mu he k KE new)
theorem Inv.kL {GZ:List (Addr×Obj)} (I:Inv X pins σ H s) (h:∀p∈GZ,s.heap.get? p.1=some p.2/\H p.1=none/\p.1≠X.env.locals/\p.1∉X.fs/\∀v,p.2.data≠.cell v):Inv X GZ σ H s:=
 ⟨I.ok,I.os,I.bare,I.base,I.loc,I.cell,I.free,I.iO,λp hp=>(List.mem_append.mp hp).elim (λz=>I.pin p (Z5 _ z)) (h p),I.cw,I.len⟩
theorem uZ {N:List Str} (hN:N.Nodup) {i j:Nat} {x:Str} (a:N[i]?=some x) (b:N[j]?=some x):i=j:=by
 obtain⟨h1,e1⟩:=aat.mp a;obtain⟨h2,e2⟩:=aat.mp b;exact(ZU hN).mp (e1.trans e2.symm)
theorem rn {M:Model} {A:Around} {E:Value->Shared->Prop} {i:Nat} {x:Str} {v:V} {u:Value} {Q:Unit->Shared->Prop} (I:Inv X pins σ H s) (hN:X.N.Nodup) (hi:X.N[i]?=some x) (hx:Loc X.env.scope x) (r:RelV v u)
  (h:∀s',Inv X pins (σ.set i (some v)) H s'->(∃a,Heap.SameBut a s.heap s'.heap/\(a=X.env.locals\/X.env.cells.lookup x=some a))->Q () s') (hf:X.fn x=true\/X.env.scope.names.lookup x=some .local:=by first | exact .inl rfl | exact .inr rfl | assumption):wpAny M A (storeName X.env x u) Q E s:=by
 obtain⟨m,hn,hl⟩:=id I.loc;have OJ:(X.env.scope.kind==.class || (X.env.scope.kind==.module && X.env.locals !=X.env.globals))=false:=by rw[I.ok.kind];rfl
 have Rl:i<σ.length:=by rw[I.len];exact(aat.mp hi).1
 have Ij:=I.Ij;have tracked:∀{a:Addr} {h':Heap},(∃o,s.heap.get? a=some o/\H a=none)->Heap.SameBut a s.heap h'->iJ X.prog X.w H h':=λ{a h'} ha hs b ob e=>by
  obtain⟨_,_,G1⟩:=ha;refine(I.cw b ob e).qK (λc w' hc q=>(hs.2 c ?_).trans q) (λ_ q=>q) λ_ _ q=>q;rintro rfl;rcases hc with rfl | hc
  ·rw[G1] at e;cases e
  ·rw[G1] at hc;cases hc
 rcases hx with hk | hk
 ·refine wpAny_storeName_local hk hn (λh' Tu hs=>?_) OJ;obtain⟨oL,_,_,G3,_⟩:=id hn;refine h _ ⟨I.ok,I.os,I.bare,⟨λb o e n hb hx=>?_,λb o e n hb hx=>?_,I.base.free,λb o e hx=>?_,I.base.nF,I.base.oV,I.base.oW⟩,⟨_,Tu,λj y v' e1 e2 e3=>?_⟩,λy c e=>?_,I.free,I.iO,λp hp=>?_,tracked ⟨oL,G3,I.free⟩ hs,by simpa using I.len⟩ ⟨_,hs,.inl rfl⟩
  ·exact(hs.2 b (YW (Y3 (aay e) I.ok.above))).trans (I.base.keep b o e n hb hx)
  ·obtain⟨sl,e1⟩:=I.base.slot b o e n hb hx;exact⟨sl,(hs.2 b (YW (Y3 (aay e) I.ok.above))).trans e1⟩
  ·obtain⟨o',e1⟩:=I.base.there b o e hx;exact⟨o',(hs.2 b (YW (Y3 (aay e) I.ok.above))).trans e1⟩
  ·by_cases hj:j=i
   ·subst hj;rw[hi] at e1;cases e1;rw[ZO Rl] at e2;cases e2;exact⟨u,r,.inl ⟨hk,by simp⟩⟩
   ·rw[Zw (Ne.symm hj)] at e2;obtain⟨u',r',q⟩:=hl j y v' e1 e2 e3;refine⟨u',r',?_⟩;rcases q with ⟨k,e⟩ | ⟨k,c,e,z⟩
    ·refine .inl ⟨k,?_⟩;have:y≠x:=λe=>hj (uZ hN e1 (e▸hi));simp [this,e]
    ·exact .inr ⟨k,c,e,z.sameBut hs (Ij y c e)⟩
  ·obtain⟨w',z⟩:=I.cell y c e;exact⟨w',z.sameBut hs (Ij y c e)⟩
  ·obtain⟨e,n,ne,nf,d⟩:=I.pin p hp;exact⟨(hs.2 p.1 ne).trans e,n,ne,nf,d⟩
 ·have OK:X.fn x=true:=by
   rcases hf with z | z
   ·exact z
   ·rw[z] at hk;cases hk
  obtain⟨c,hc⟩:=I.ok.has x (.inl hk);obtain⟨w',z⟩:=I.cell x c hc;refine wpAny_storeName_cell I.ok.kind hk hc z (λh' Rn hs=>?_);obtain⟨oc,Ro,OL⟩:=id z;refine h {s with heap:=h'} ⟨I.ok,I.os,I.bare,⟨λb o e n hb hx=>?_,λb o e n hb hx=>?_,I.base.free,λb o e hx=>?_,I.base.nF,I.base.oV,I.base.oW⟩,⟨m,hn.sameBut hs (Ne.symm (Ij x c hc)),λj y v' e1 e2 e3=>?_⟩,λy c' e=>?_,I.free,I.iO,λp hp=>?_,tracked ⟨oc,Ro,I.iO x c hc⟩ hs,by simpa using I.len⟩ ⟨c,hs,.inr hc⟩
  ·exact(hs.2 b (YW (Y3 (aay e) (I.ok.KG x c OK hc)))).trans (I.base.keep b o e n hb hx)
  ·obtain⟨sl,e1⟩:=I.base.slot b o e n hb hx;exact⟨sl,(hs.2 b (YW (Y3 (aay e) (I.ok.KG x c OK hc)))).trans e1⟩
  ·obtain⟨o',e1⟩:=I.base.there b o e hx;exact⟨o',(hs.2 b (YW (Y3 (aay e) (I.ok.KG x c OK hc)))).trans e1⟩
  ·by_cases hj:j=i
   ·subst hj;rw[hi] at e1;cases e1;rw[ZO Rl] at e2;cases e2;exact⟨u,r,.inr ⟨.inl hk,c,hc,Rn⟩⟩
   ·rw[Zw (Ne.symm hj)] at e2;obtain⟨u',r',q⟩:=hl j y v' e1 e2 e3;refine⟨u',r',?_⟩;rcases q with q | ⟨k,c',e,z'⟩
    ·exact .inl q
    ·refine .inr ⟨k,c',e,z'.sameBut hs ?_⟩;rintro rfl;exact hj (uZ hN e1 (I.ok.inj _ _ _ e hc▸hi))
  ·by_cases NB:c'=c
   ·subst NB;exact⟨_,Rn⟩
   ·obtain⟨w2,z2⟩:=I.cell y c' e;exact⟨w2,z2.sameBut hs NB⟩
  ·obtain⟨e,n,ne,nf,d⟩:=I.pin p hp;refine⟨(hs.2 p.1 ?_).trans e,n,ne,nf,d⟩;intro q;rw[q,Ro] at e;have q':oc=p.2:=Zb e;exact d w' (by rw[<-q'];exact OL)
theorem kM {M:Model} {A:Around} {E:Value->Shared->Prop} {i:Nat} {x:Str} {v:V} {u:Value} {Q:Unit->Shared->Prop} (I:Inv X pins σ H s) (hN:X.N.Nodup) (hi:X.N[i]?=some x) (hx:Loc X.env.scope x) (r:RelV v u)
  (h:∀s',Inv X pins (σ.set i (some v)) H s'->Q () s') (hf:X.fn x=true\/X.env.scope.names.lookup x=some .local:=by first | exact .inl rfl | exact .inr rfl | assumption):wpAny M A (storeName X.env x u) Q E s:=
 rn I hN hi hx r (λs' I' _=>h s' I') hf
theorem Inv.Lk {s':Shared} {ch:List Addr} (I:Inv X pins σ H s) (ho:s'.os=s.os) (u:Un (uY X.stack) ch H H' s.heap s'.heap) (cw:iJ X.prog X.w H' s'.heap) (hg:AllBare s'.gens)
  (EV:∀b∈ch,(b∈X.ex\/X.s₀.heap.objs.size<=b)/\b≠X.env.locals/\(∀x c,X.env.cells.lookup x=some c->c≠b)/\∀p∈X.pn++pins,p.1≠b):Inv X pins σ H' s':=by
 obtain⟨h',g',d',t',o'⟩:=s';have e:o'=s.os:=ho;subst e;exact I.call (g':=g') (t':=t') (d':=d') u cw hg EV
end
@[inline]abbrev XK:=Value->Option Addr->Hp->Prop
@[inline]abbrev St:=List (Option V)
@[inline]abbrev VK:=V->Hp->Prop
@[inline]abbrev TE:=St->Hp->VK->Prop
@[inline]abbrev TT:=St->Hp->(Bool->Hp->Prop)->Prop
@[inline]abbrev TA:=St->Hp->(List V->Hp->Prop)->Prop
structure Ends where
 nx:St->Hp->Prop
 rt:VK
 bk:St->Hp->Prop:=λ_ _=>False
 ct:St->Hp->Prop:=λ_ _=>False
@[inline]abbrev TS:=Ends->St->Hp->Prop
abbrev EP (X:Cx) (pins:List (Addr×Obj)) (σ:St) (Q:VK) (u:Value) (s':Shared):Prop:=∃v H',Inv X pins σ H' s'/\RelV v u/\Q v H'
abbrev TP (X:Cx) (pins:List (Addr×Obj)) (σ:St) (Q:Bool->Hp->Prop) (b:Bool) (s':Shared):Prop:=∃H',Inv X pins σ H' s'/\Q b H'
abbrev AP (X:Cx) (pins:List (Addr×Obj)) (σ:St) (Q:List V->Hp->Prop) (us:List Value) (s':Shared):Prop:=∃vs H',Inv X pins σ H' s'/\br vs us/\Q vs H'
abbrev SP (X:Cx) (pins:List (Addr×Obj)) (D:Ends) (f:Flow) (s':Shared):Prop:=
 match f with
 | .next=>∃σ' H',Inv X pins σ' H' s'/\D.nx σ' H'
 | .brk=>∃σ' H',Inv X pins σ' H' s'/\D.bk σ' H'
 | .cont=>∃σ' H',Inv X pins σ' H' s'/\D.ct σ' H'
 | .ret u=>∃v σ' H',Inv X pins σ' H' s'/\RelV v u/\D.rt v H'
abbrev PE (X:Cx) (e:Expr) (t:TE):Prop:=
 ∀(pins:List (Addr×Obj)) (s:Shared) (σ:St) (H:Hp) (Q:VK),Inv X pins σ H s->t σ H Q->wpAny (model X.prog X.w) X.A (eval e X.env) (EP X pins σ Q) X.xe s
abbrev PT (X:Cx) (e:Expr) (t:TT):Prop:=
 ∀(pins:List (Addr×Obj)) (s:Shared) (σ:St) (H:Hp) (Q:Bool->Hp->Prop),Inv X pins σ H s->t σ H Q->wpAny (model X.prog X.w) X.A (isTrue e X.env (eval e X.env)) (TP X pins σ Q) X.xe s
abbrev PW (X:Cx) (e:Expr) (t:TT):Prop:=
 ∀(whole:Sem Value) (pins:List (Addr×Obj)) (s:Shared) (σ:St) (H:Hp) (Q:Bool->Hp->Prop),Inv X pins σ H s->t σ H Q->wpAny (model X.prog X.w) X.A (isTrue e X.env whole) (TP X pins σ Q) X.xe s
theorem PW.pt {X:Cx} {e:Expr} {t:TT} (h:PW X e t):PT X e t:=h _
abbrev PA (X:Cx) (es:List Expr) (t:TA):Prop:=
 ∀(pos:Pos) (pins:List (Addr×Obj)) (s:Shared) (σ:St) (H:Hp) (Q:List V->Hp->Prop),Inv X pins σ H s->t σ H Q->wpAny (model X.prog X.w) X.A (spliced (backTo pos (starEach es X.env))) (AP X pins σ Q) X.xe s
abbrev PS (X:Cx) (st:Stmt) (t:TS):Prop:=
 ∀(pins:List (Addr×Obj)) (s:Shared) (σ:St) (H:Hp) (D:Ends),Inv X pins σ H s->t D σ H->wpAny (model X.prog X.w) X.A (exec st X.env) (SP X pins D) X.xe s
abbrev xC (X:Cx) (st:List Stmt) (t:TS):Prop:=
 ∀(pins:List (Addr×Obj)) (s:Shared) (σ:St) (H:Hp) (D:Ends),Inv X pins σ H s->t D σ H->wpAny (model X.prog X.w) X.A (execs st X.env) (SP X pins D) X.xe s
theorem cO {α:Type} {t:Sem α} {Q Q':α->Shared->Prop} {M:Model} {A:Around} {E:Value->Shared->Prop} {s:Shared} (h:wpAny M A t Q E s) (hQ:∀a s,Q a s->Q' a s):wpAny M A t Q' E s:=wpAny_mono h hQ λ_ _ x=>x
end L2
namespace L2
open PySem PySem.Spec PyProof.Rows
section
variable {X : Cx}
abbrev tVar (i:Nat):TE:=λσ H Q=>∃v,σ[i]?=some (some v)/\Q v H
abbrev tC (v:V):TE:=λ_ H Q=>Q v H
theorem Il {i:Nat} {x:Str} {pos:Pos} (hN:X.N[i]?=some x) (hv:OE X.env.scope x) (hd:(x==("__debug__":Str))=false:=by decide) (u3:(x==("__classdict__":Str))=false:=by decide):PE X (.Name x pos) (tVar i):=by
 intro pins s σ H Q I h;obtain⟨v,e,h⟩:=h;obtain⟨m,hn,hl⟩:=I.loc;obtain⟨u,r,l⟩:=hl i x v hN e hv;have fin:EP X pins σ Q u s:=⟨v,H,I,r,h⟩
 rcases l with ⟨hk,hm⟩ | ⟨hk,c,hc,rC⟩
 ·exact wpAny_Name (wpAny_loadName_local I.ok.kind hk hn hm fin) hd
 ·rcases hk with hk | hk
  ·exact wpAny_Name (wpAny_loadName_cell I.ok.kind hk hc rC fin) hd
  ·exact wpAny_Name (wpAny_loadName_free I.ok.kind hk hc rC fin u3) hd
theorem ao {i j pos}:PE X (.Constant (.int i) j pos) (tC (.int i)):=λ_ _ _ H _ I h=>wpAny_Constant_int ⟨.int i,H,I.tok _,⟨_,rfl⟩,h⟩
theorem yU {b j pos}:PE X (.Constant (.bool b) j pos) (tC (.bl b)):=λ_ _ _ H _ I h=>Constant_bool ⟨.bl b,H,I,rfl,h⟩
theorem fG {j pos}:PE X (.Constant .none j pos) (tC .cJ):=λ_ _ _ H _ I h=>Constant_none ⟨.cJ,H,I,rfl,h⟩
theorem c9 {x j pos}:PE X (.Constant (.str x) j pos) (tC (.str x)):=λ_ _ _ H _ I h=>Calls.Constant_str ⟨.str x,H,I.tok _,⟨_,rfl⟩,h⟩
abbrev Gl (X:Cx) (x:Str):Prop:=X.env.kindOf x=some .globalImplicit
theorem sT {E:Value->Shared->Prop} {pins:List (Addr×Obj)} {s:Shared} {σ:St} {H:Hp} {x:Str} {u:Value} {pos:Pos} {Q:Value->Shared->Prop} (I:Inv X pins σ H s) (hg:Gl X x) (hm:X.mg x=some u) (h:Q u s)
  (hd:(x==("__debug__":Str))=false:=by decide):wpAny (model X.prog X.w) X.A (eval (.Name x pos) X.env) Q E s:=
 Calls.Name_function_global I.ok.kind hg (Calls.loadGlobal_global (by rw[I.ok.glob];exact I.mod.glob.keeps I.bk) hm h) hd
theorem g8 {E:Value->Shared->Prop} {pins:List (Addr×Obj)} {s:Shared} {σ:St} {H:Hp} {x:Str} {u:Value} {pos:Pos} {Q:Value->Shared->Prop} (I:Inv X pins σ H s) (hg:Gl X x) (hm:X.mg x=none) (hv:bootBuiltins x=some u) (h:Q u s)
  (hn:x≠"__name__":=by decide) (hd:(x==("__debug__":Str))=false:=by decide):wpAny (model X.prog X.w) X.A (eval (.Name x pos) X.env) Q E s:=by
 obtain⟨mb,h1,h2⟩:=I.mod.blt;exact Calls.Name_function_global I.ok.kind hg (Calls.loadGlobal_builtin (by rw[I.ok.glob];exact I.mod.glob.keeps I.bk) hm (by rw[I.ok.blt];exact h1.keeps I.bk) ((h2 x hn).trans hv) h) hd
theorem Fg {x:Str} {v:V} {u:Value} {pos:Pos} (hg:Gl X x) (hm:X.mg x=some u) (r:RelV v u) (hd:(x==("__debug__":Str))=false:=by decide):PE X (.Name x pos) (tC v):=
 λ_ _ _ H _ I h=>sT I hg hm ⟨v,H,I,r,h⟩ hd
abbrev Tv (ta tb:TE) (k:Int->Int->Hp->Prop):St->Hp->Prop:=λσ H=>ta σ H λx H1=>tb σ H1 λy H2=>∃i j,x=.int i/\y=.int j/\k i j H2
variable {a b : Expr} {ta tb : TE} {pos : Pos}
abbrev PC (X:Cx) (op:CmpOp) (a b:Expr) (t:TE):Prop:=
 ∀(pins:List (Addr×Obj)) (s:Shared) (σ:St) (H:Hp) (Q:VK),Inv X pins σ H s->t σ H Q->
  wpAny (model X.prog X.w) X.A (eval a X.env) (λv s₁=>wpAny (model X.prog X.w) X.A (eval b X.env) (λu s₂=>wpAny (model X.prog X.w) X.A (compareOp op v u) (EP X pins σ Q) X.xe s₂) X.xe s₁) X.xe s
theorem BK (b:Expr) {op:CmpOp} (h:op≠.In) (h2:op≠.NotIn):behindInMarks op b=false:=by
 have e1:(op==CmpOp.In)=false:=by cases op <;>first | rfl | exact absurd rfl h
 have e2:(op==CmpOp.NotIn)=false:=by cases op <;>first | rfl | exact absurd rfl h2
 cases b <;>simp [behindInMarks,e1,e2]
abbrev AA (p:Int->Int->Bool) (ta tb:TE):TE:=λσ H Q=>Tv ta tb (λi j H2=>Q (.bl (p i j)) H2) σ H
@[inline]abbrev XD:TE->TE->TE:=AA λi j=>decide (i<j)
@[inline]abbrev XF:TE->TE->TE:=AA λi j=>decide (i<=j)
@[inline]abbrev XG:TE->TE->TE:=AA λi j=>decide (j<i)
@[inline]abbrev XH:TE->TE->TE:=AA λi j=>decide (j<=i)
@[inline]abbrev Tw:TE->TE->TE:=AA λi j=>decide (i=j)
@[inline]abbrev Tx:TE->TE->TE:=AA λi j=>!decide (i=j)
abbrev tB (t:TE):TT:=λσ H Q=>t σ H λx H1=>∃c,x=.bl c/\Q c H1
theorem xE {op:CmpOp} {t:TE} (h:PC X op a b t) (h1:behindInMarks op b=false:=by first | exact BK _ (by decide) (by decide) | rfl):PT X (.Compare a [op] [b] pos) (tB t):=by
 intro pins s σ H Q I hw;refine wpAny_isTrue_Compare1 (cO (h pins s σ H _ I hw) λv s1 h1=>cO h1 λu s2 h2=>cO h2 λc s3 dB=>?_) h1;obtain⟨x,H1,I1,r1,q1⟩:=dB;obtain⟨d,rfl,q⟩:=q1;cases r1;exact wpAny_truthy_bool ⟨H1,I1,q⟩
theorem sU {e:Expr} {t:TE} (h:PE X e t) (he:∀whole,isTrue e X.env whole=(do let v <-whole;standAt e.pos;holding [v] (truthy v)):=by intro _;rfl):PT X e (tB t):=by
 intro pins s σ H Q I hw;refine isTrue_plain (cO (h pins s σ H _ I hw) λv s1 dB=>?_) (he _);obtain⟨x,H1,I1,r1,q1⟩:=dB;obtain⟨d,rfl,q⟩:=q1;cases r1;exact wpAny_truthy_bool ⟨H1,I1,q⟩
variable {tA NC : TT} {rest : List Expr}
abbrev tAnd (t u:TT):TT:=λσ H Q=>t σ H λc H1=>if c=true then u σ H1 Q else Q false H1
abbrev tOr (t u:TT):TT:=λσ H Q=>t σ H λc H1=>if c=true then Q true H1 else u σ H1 Q
abbrev tNot (t:TT):TT:=λσ H Q=>t σ H λc H1=>Q (!c) H1
theorem pw_and1 (ha:PT X a tA):PW X (.BoolOp .And [a] pos) tA:=by
 intro wh pins s σ H Q I h;refine isTrue_and (cO (ha pins s σ H Q I h) λc s1 e=>?_);cases c with
 | true=>exact isTrue_and_nil e
 | false=>exact e
theorem pw_or1 (ha:PT X a tA):PW X (.BoolOp .Or [a] pos) tA:=by
 intro wh pins s σ H Q I h;refine isTrue_or (cO (ha pins s σ H Q I h) λc s1 e=>?_);cases c with
 | false=>exact isTrue_or_nil e
 | true=>exact e
theorem pw_and (ha:PT X a tA) (hb:PW X (.BoolOp .And (b::rest) pos) NC):PW X (.BoolOp .And (a::b::rest) pos) (tAnd tA NC):=by
 intro wh pins s σ H Q I h;refine isTrue_and (cO (ha pins s σ H _ I h) λc s1 ⟨H1,I1,q1⟩=>?_);cases c with
 | true=>exact hb wh pins s1 σ H1 Q I1 q1
 | false=>exact⟨H1,I1,q1⟩
theorem pw_or (ha:PT X a tA) (hb:PW X (.BoolOp .Or (b::rest) pos) NC):PW X (.BoolOp .Or (a::b::rest) pos) (tOr tA NC):=by
 intro wh pins s σ H Q I h;refine isTrue_or (cO (ha pins s σ H _ I h) λc s1 ⟨H1,I1,q1⟩=>?_);cases c with
 | true=>exact⟨H1,I1,q1⟩
 | false=>exact hb wh pins s1 σ H1 Q I1 q1
theorem BL (ha:PT X a tA):PT X (.UnaryOp .Not a pos) (tNot tA):=by
 intro pins s σ H Q I h;exact isTrue_not (ha pins s σ H (λc H1=>Q (!c) H1) I h)
abbrev tAndV (ta tb:TE):TE:=λσ H Q=>ta σ H λx H1=>∃c,x=.bl c/\if c=true then tb σ H1 Q else Q (.bl false) H1
abbrev tOrV (ta tb:TE):TE:=λσ H Q=>ta σ H λx H1=>∃c,x=.bl c/\if c=true then Q (.bl true) H1 else tb σ H1 Q
abbrev tNotV (ta:TE):TE:=λσ H Q=>ta σ H λx H1=>∃c,x=.bl c/\Q (.bl (!c)) H1
theorem Im {op} {t:TE} (h:PE X a t):PE X (.BoolOp op [a] pos) t:=λpins s σ H Q I hw=>BoolOp_one (h pins s σ H Q I hw)
theorem Io (ha:PE X a ta) (hb:PE X (.BoolOp .And (b::rest) pos) tb):PE X (.BoolOp .And (a::b::rest) pos) (tAndV ta tb):=by
 intro pins s σ H Q I h;refine BoolOp_and (cO (ha pins s σ H _ I h) λv s1 dB=>?_);obtain⟨x,H1,I1,r1,q1⟩:=dB;obtain⟨c,rfl,q1⟩:=q1;cases r1;refine wpAny_truthy_bool ?_;cases c with
 | true=>exact hb pins s1 σ H1 Q I1 q1
 | false=>exact⟨.bl false,H1,I1,rfl,q1⟩
abbrev tIf (t:TT) (ta tb:TE):TE:=λσ H Q=>t σ H λc H1=>if c=true then ta σ H1 Q else tb σ H1 Q
theorem fH {c:Expr} (hc:PT X c tA) (ha:PE X a ta) (hb:PE X b tb):PE X (.IfExp c a b pos) (tIf tA ta tb):=by
 intro pins s σ H Q I h;refine wpAny_IfExp (cO (hc pins s σ H _ I h) λd s1 ⟨H1,I1,q1⟩=>?_);cases d with
 | true=>exact ha pins s1 σ H1 Q I1 q1
 | false=>exact hb pins s1 σ H1 Q I1 q1
end
end L2
namespace L2
open PySem PySem.Spec PyProof.Rows
abbrev aS (K:aam) (H:Hp) (a:Addr) (xs:List V):Prop:=
 Rd H a (.lst xs)\/
  ∃(o:Obj) (aW:Array Value) (n:Nat),K.lookup a=some o/\o.cls=.type "list"/\o.dict=none/\o.data=.seq aW n/\aW.size<=sizeLine/\br xs aW.toList
abbrev fV (K:aam) (H:Hp) (a:Addr) (xs:List V):Prop:=
 Rd H a (.tup xs)\/
  ∃(o:Obj) (aW:Array Value) (n:Nat),K.lookup a=some o/\o.cls=.type "tuple"/\o.data=.seq aW n/\aW.size<=sizeLine/\br xs aW.toList
abbrev OM:Value->Option V
 | .none=>some .cJ
 | .bool b=>some (.bl b)
 | .int i _=>some (.int i)
 | .str x _=>some (.str x)
 | .bytes b _=>some (.Bx b)
 | .float b _=>some (.KD b)
 | .ref a=>some (.ref a)
 | .type n=>some (.ty n)
 | _=>none
theorem RelV.abs {x:V} {u:Value} (r:RelV x u):OM u=some x:=by
 cases x with
 | cJ=>cases r;rfl
 | bl _=>cases r;rfl
 | int _=>obtain⟨t,rfl⟩:=r;rfl
 | str _=>obtain⟨t,rfl⟩:=r;rfl
 | Bx _=>obtain⟨t,rfl⟩:=r;rfl
 | KD _=>obtain⟨t,rfl⟩:=r;rfl
 | ref _=>cases r;rfl
 | ty _=>cases r;rfl
theorem RelV.inj {x y:V} {u:Value} (r:RelV x u) (q:RelV y u):x=y:=Zb (r.abs.symm.trans q.abs)
theorem br.inj:∀{xs ys:List V} {us:List Value},br xs us->br ys us->xs=ys
 | _,_,_,.nil,.nil=>rfl
 | _,_,_,.cons r t,.cons r' t'=>by rw[r.inj r',br.inj t t']
section
variable {X : Cx} {pins : List (Addr × Obj)} {σ : St} {H : Hp} {s : Shared} {a : Addr} {xs ys : List V}
theorem aS.of {K:aam} (h:H a=some (.lst xs)):aS K H a xs:=.inl (.inl h)
theorem fV.of {K:aam} (h:H a=some (.tup xs)):fV K H a xs:=.inl (.inl h)
theorem Inv.list (I:Inv X pins σ H s) (h:aS X.K H a xs):∃aW:List Value,br xs aW/\PlainL s.heap a aW.toArray/\xs.length<=sizeLine:=by
 rcases h with h | ⟨o,aW,n,hk,hc,hd,hs,hz,r⟩
 ·obtain⟨z,aW,n,r,e⟩:=h.ok I.cw;exact⟨aW,r,⟨_,n,e,rfl,rfl,rfl⟩,z⟩
 ·refine⟨aW.toList,r,⟨o,n,I.yS a o hk,hc,hd,by simpa using hs⟩,?_⟩;have e:=r.length;simp only[ZV] at e;lia
theorem Inv.tuple (I:Inv X pins σ H s) (h:fV X.K H a xs):∃aW:List Value,br xs aW/\IsTup s.heap a aW.toArray/\xs.length<=sizeLine:=by
 rcases h with h | ⟨o,aW,n,hk,hc,hs,hz,r⟩
 ·obtain⟨z,aW,r,p⟩:=h.ok I.cw;exact⟨aW,r,p,z⟩
 ·refine⟨aW.toList,r,⟨o,I.yS a o hk,hc,n,by simpa using hs⟩,?_⟩;have e:=r.length;simp only[ZV] at e;lia
theorem Inv.eW (I:Inv X pins σ H s) (h:aS X.K H a xs) (h':aS X.K H a ys):xs=ys:=by
 obtain⟨aW,r,⟨o,n,e,_,_,d⟩,_⟩:=I.list h;obtain⟨its',r',⟨o',n',e',_,_,d'⟩,_⟩:=I.list h';rw[e] at e';cases e';rw[d] at d'
 injection d' with d1 _
 have:aW=its':=by simpa using congrArg Array.toList d1
 subst this;exact r.inj r'
end
@[inline]abbrev Cx.lZ (X:Cx) (E:Value->Shared->Prop):Cx:={X with xe:=E}
@[inline]abbrev Cx.KH (X:Cx):Cx:=X.lZ λ_ _=>False
theorem Cx.Ok.lZ {X:Cx} (ok:X.Ok) (E:Value->Shared->Prop):(X.lZ E).Ok:=
 ⟨ok.mod,ok.kind,ok.glob,ok.blt,ok.above,ok.inj,ok.has,ok.KG,ok.hd,ok.frames,ok.BH,ok.OF,ok.bs,ok.BI,ok.Az,ok.BJ,ok.lY,ok.GX⟩
theorem Cx.Ok.hG {X:Cx} {E:Value->Shared->Prop} (ok:(X.lZ E).Ok):X.Ok:=
 ⟨ok.mod,ok.kind,ok.glob,ok.blt,ok.above,ok.inj,ok.has,ok.KG,ok.hd,ok.frames,ok.BH,ok.OF,ok.bs,ok.BI,ok.Az,ok.BJ,ok.lY,ok.GX⟩
section
variable {X : Cx} {pins : List (Addr × Obj)} {σ : St} {H : Hp} {s : Shared} {E : Value -> Shared -> Prop}
theorem Inv.lZ (I:Inv X pins σ H s) (E:Value->Shared->Prop):Inv (X.lZ E) pins σ H s:=⟨I.ok.lZ E,I.os,I.bare,I.base,I.loc,I.cell,I.free,I.iO,I.pin,I.cw,I.len⟩
theorem Inv.hG (I:Inv (X.lZ E) pins σ H s):Inv X pins σ H s:=⟨I.ok.hG,I.os,I.bare,I.base,I.loc,I.cell,I.free,I.iO,I.pin,I.cw,I.len⟩
theorem SP.hG {D:Ends} {f:Flow} {s':Shared} (h:SP (X.lZ E) pins D f s'):SP X pins D f s':=by
 cases f with
 | next=>obtain⟨σ',H',I,q⟩:=h;exact⟨σ',H',I.hG,q⟩
 | brk=>obtain⟨σ',H',I,q⟩:=h;exact⟨σ',H',I.hG,q⟩
 | cont=>obtain⟨σ',H',I,q⟩:=h;exact⟨σ',H',I.hG,q⟩
 | ret u=>obtain⟨v,σ',H',I,r,q⟩:=h;exact⟨v,σ',H',I.hG,r,q⟩
theorem xC.KH {st:List Stmt} {t:TS} (h:xC X.KH st t):xC X st t:=λpins s σ H D I hw=>
 wpAny_mono (h pins s σ H D (I.lZ _) hw) (λ_ _ q=>q.hG) λ_ _ z=>False.elim z
end
section
variable {X : Cx} {st : Stmt} {rest : List Stmt} {t u : TS} {e : Expr} {te : TE} {pos : Pos}
abbrev tNext:TS:=λD σ H=>D.nx σ H
abbrev tSeq (t u:TS):TS:=λD σ H=>t {D with nx:=u D} σ H
theorem bo:xC X [] tNext:=λ_ _ σ H _ I h=>wpAny_execs_nil ⟨σ,H,I,h⟩
theorem af (h1:PS X st t) (h2:xC X rest u):xC X (st::rest) (tSeq t u):=by
 intro pins s σ H D I h;refine wpAny_execs_cons (cO (h1 pins s σ H {D with nx:=u D} I h) λf s1 q=>?_);cases f with
 | next=>
  obtain⟨σ',H',I',q⟩:=q;exact h2 pins s1 σ' H' D I' q
 | ret v=>exact q
 | brk=>exact q
 | cont=>exact q
theorem ax (h1:PS X st t):xC X [st] t:=by
 intro pins s σ H D I h;refine wpAny_execs_cons (cO (h1 pins s σ H D I h) λf s1 q=>?_);cases f with
 | next=>exact wpAny_execs_nil q
 | ret v=>exact q
 | brk=>exact q
 | cont=>exact q
theorem Inv.quiet {pins:List (Addr×Obj)} {σ:St} {H:Hp} {s:Shared} (I:Inv X pins σ H s):interactive X.env=false:=by simp [interactive,I.ok.kind]
abbrev tDrop (te:TE):TS:=λD σ H=>te σ H λ_ H1=>D.nx σ H1
theorem dC (he:PE X e te) (hs:swapsWith e none pos.line X.env=pure false:=by rfl):PS X (.Expr e pos) (tDrop te):=by
 intro pins s σ H D I h;exact wpAny_Expr_any (cO (he pins s σ H _ I h) λv s1 ⟨x,H1,I1,r1,q1⟩=>⟨σ,H1,I1,q1⟩) I.quiet hs
abbrev tRet (te:TE):TS:=λD σ H=>te σ H D.rt
theorem aP (he:PE X e te):PS X (.Return (some e) pos) (tRet te):=by
 intro pins s σ H D I h;exact wpAny_Return_some (cO (he pins s σ H _ I h) λv s1 ⟨x,H1,I1,r1,q1⟩=>⟨x,σ,H1,I1,r1,q1⟩)
abbrev tRetN:TS:=λD _ H=>D.rt .cJ H
abbrev tIfS (c:TT) (t u:TS):TS:=λD σ H=>c σ H λb H1=>if b=true then t D σ H1 else u D σ H1
theorem bT {c:Expr} {a b:List Stmt} {tc:TT} (hc:PT X c tc) (ha:xC X a t) (hb:xC X b u):PS X (.If c a b pos) (tIfS tc t u):=by
 intro pins s σ H D I h;refine wpAny_If (cO (hc pins s σ H _ I h) λd s1 ⟨H1,I1,q1⟩=>?_);cases d with
 | true=>exact ha pins s1 σ H1 D I1 q1
 | false=>exact hb pins s1 σ H1 D I1 q1
abbrev Ip:TS:=λ_ _ _=>False
theorem oY:PS X st Ip:=λ_ _ _ _ _ _ h=>h.elim
end
@[inline]abbrev TG:=V->St->Hp->(St->Hp->Prop)->Prop
@[inline]abbrev G4:=List V->St->Hp->(St->Hp->Prop)->Prop
abbrev PG (X:Cx) (target:Expr) (t:TG):Prop:=
 ∀(pins:List (Addr×Obj)) (s:Shared) (σ:St) (H:Hp) (v:V) (u:Value) (Q:St->Hp->Prop),Inv X pins σ H s->RelV v u->t v σ H Q->
  wpAny (model X.prog X.w) X.A (assign target X.env u) (λ_ s'=>∃σ' H',Inv X pins σ' H' s'/\Q σ' H') X.xe s
abbrev KI (X:Cx) (ts:List Expr) (t:G4):Prop:=
 ∀(pins:List (Addr×Obj)) (s:Shared) (σ:St) (H:Hp) (vs:List V) (us:List Value) (Q:St->Hp->Prop),Inv X pins σ H s->br vs us->t vs σ H Q->
  wpAny (model X.prog X.w) X.A (assignInOrder ((assignEach ts X.env).map (·.2)) us) (λ_ s'=>∃σ' H',Inv X pins σ' H' s'/\Q σ' H') X.xe s
@[inline]abbrev BM:=V->V->V->Hp->(Hp->Prop)->Prop
abbrev Iq (X:Cx) (t:BM):Prop:=
 ∀(pins:List (Addr×Obj)) (s:Shared) (σ:St) (H:Hp) (o i v:V) (ov iv u:Value) (Q:Hp->Prop),Inv X pins σ H s->RelV o ov->RelV i iv->RelV v u->t o i v H Q->
  wpAny (model X.prog X.w) X.A (setItem ov iv u) (λ_ s'=>∃H',Inv X pins σ H' s'/\Q H') X.xe s
@[inline]abbrev ND:=V->V->Hp->VK->Prop
abbrev ON (X:Cx) (op:Operator) (t:ND):Prop:=
 ∀(pins:List (Addr×Obj)) (s:Shared) (σ:St) (H:Hp) (x y:V) (v u:Value) (Q:VK),Inv X pins σ H s->RelV x v->RelV y u->t x y H Q->
  wpAny (model X.prog X.w) X.A (inplaceOp op v u) (EP X pins σ Q) X.xe s
section
variable {X : Cx} {pos : Pos}
abbrev gName (i:Nat):TG:=λv σ H Q=>Q (σ.set i (some v)) H
theorem aG {i:Nat} {x:Str} (hN:X.N.Nodup) (hi:X.N[i]?=some x) (hx:Loc X.env.scope x) (hf:X.fn x=true\/X.env.scope.names.lookup x=some .local:=by first | exact .inl rfl | exact .inr rfl | assumption):PG X (.Name x pos) (gName i):=by
 intro pins s σ H v u Q I r h;exact wpAny_assign_Name (kM I hN hi hx r (λs' I'=>⟨_,H,I',h⟩) hf)
abbrev gNil:G4:=λvs σ H Q=>vs=[]/\Q σ H
abbrev gCons (t:TG) (u:G4):G4:=λvs σ H Q=>∃v r,vs=v::r/\t v σ H λσ' H'=>u r σ' H' Q
theorem bU:KI X [] gNil:=by
 intro pins s σ H vs us Q I r h;obtain⟨e,h⟩:=h;subst e;cases r;exact assignInOrder_nil ⟨σ,H,I,h⟩
theorem aQ {e:Expr} {es:List Expr} {t:TG} {u:G4} (h1:PG X e t) (h2:KI X es u)
  (hs:(assignEach (e::es) X.env).map (·.2)=assign e X.env::(assignEach es X.env).map (·.2):=by rfl):KI X (e::es) (gCons t u):=by
 intro pins s σ H vs us Q I r h;obtain⟨v,vr,e1,h⟩:=h;subst e1;cases r with
 | cons r rr=>
  rw[hs];refine assignInOrder_cons (cO (h1 pins s σ H _ _ _ I r h) λ_ s1 ⟨σ1,H1,I1,q1⟩=>?_);exact h2 pins s1 σ1 H1 _ _ Q I1 rr q1
abbrev BN (K:aam) (n:Nat) (t:G4):TG:=λv σ H Q=>∃a xs,v=.ref a/\fV K H a xs/\xs.length=n/\t xs σ H Q
theorem Ir {es:List Expr} {k:Nat} {t:G4} {n:Nat} (hc:X.calm=true) (h:KI X es t)
  (hn:(assignEach es X.env).length=n:=by rfl) (hst:(assignEach es X.env).findIdx? (·.1)=none:=by rfl):PG X (.Tuple es k pos) (BN X.K n t):=by
 intro pins s σ H v u Q I r hw;obtain⟨a,xs,e1,hq,hl,hw⟩:=hw;subst e1;cases r;obtain⟨aW,rv,ht,hz⟩:=I.tuple hq;refine assign_Tuple_tuple (I.ok.hd hc) ht (by simp [hn,<-hl,rv.length]) hst λh' hx=>?_;have I1:Inv X pins σ H {s with heap:=h'}:=I.kept (t':=s.toks) λb o e=>hx b o (YW (aay e)) e;exact h pins _ σ H xs _ Q I1 (by simpa using rv) hw
abbrev gSub (to ti:TE) (t:BM):TG:=λv σ H Q=>to σ H λo H1=>ti σ H1 λi H2=>t o i v H2 λH3=>Q σ H3
theorem fI {o i:Expr} {to ti:TE} {t:BM} (ho:PE X o to) (hi:PE X i ti) (hs:Iq X t)
  (ha:∀v,assign (.Subscript o i pos) X.env v=(do
   let ov <-holding [v] (eval o X.env);let iv <-holding [v,ov] (eval i X.env)
   standAt pos
   holding [v,ov,iv] (setItem ov iv v)
   release [v,ov,iv] []):=by intro _;rfl):PG X (.Subscript o i pos) (gSub to ti t):=by
 intro pins s σ H v u Q I r h;rw[ha];refine wpAny_bind (wpAny_holding (cO (ho pins s σ H _ I h) λov s1 dB=>?_));obtain⟨x,H1,I1,r1,q1⟩:=dB;refine wpAny_bind (wpAny_holding (cO (hi pins s1 σ H1 _ I1 q1) λiv s2 dB=>?_));obtain⟨y,H2,I2,r2,q2⟩:=dB;refine wpAny_bind (wpAny_standAt (wpAny_bind (wpAny_holding (cO (hs pins s2 σ H2 x y v ov iv u _ I2 r1 r2 r q2) λ_ s3 ⟨H3,I3,q3⟩=>?_))));exact wpAny_release ⟨σ,H3,I3,q3⟩
abbrev tAsg (te:TE) (g:TG):TS:=λD σ H=>te σ H λx H1=>g x σ H1 D.nx
theorem fc {tg e:Expr} {te:TE} {g:TG} (he:PE X e te) (hg:PG X tg g) (hs:swapsWithSole [tg] e pos.line X.env=pure false:=by rfl) (hw:swappedStores [tg] e X.env=pure none:=by rfl)
  (h1:(assignEach [tg] X.env).map (·.2)=[assign tg X.env]:=by rfl):PS X (.Assign [tg] e pos) (tAsg te g):=by
 intro pins s σ H D I h;refine wpAny_Assign_stores (cO (he pins s σ H _ I h) λv s1 dB=>?_) hs hw;obtain⟨x,H1,I1,r1,q1⟩:=dB;rw[h1];exact cO (hg pins s1 σ H1 x v _ I1 r1 q1) λ_ s2 q=>q
theorem aE {i:Nat} {x:Str} {e:Expr} {te:TE} {pos':Pos} (hN:X.N.Nodup) (hi:X.N[i]?=some x) (hx:Loc X.env.scope x) (he:PE X e te) (hs:swapsWith e (some (.Name x pos')) pos.line X.env=pure false:=by rfl) (hf:X.fn x=true\/X.env.scope.names.lookup x=some .local:=by first | exact .inl rfl | exact .inr rfl | assumption):
  PS X (.Assign [.Name x pos'] e pos) (tAsg te (gName i)):=by
 intro pins s σ H D I h;refine wpAny_Assign_Name (cO (he pins s σ H _ I h) λv s1 dB=>?_) hs;obtain⟨y,H1,I1,r1,q1⟩:=dB;exact kM I1 hN hi hx r1 (λs2 I2=>⟨_,H1,I2,q1⟩) hf
abbrev tPar (i j:Nat) (ta:TA):TS:=λD σ H=>ta σ H λvs H1=>∃v w,vs=[v,w]/\D.nx ((σ.set i (some v)).set j (some w)) H1
theorem Iu {i j:Nat} {x y:Str} {a b:Expr} {ta:TA} {px py pt:Pos} {kt k2 OP} (hc:X.calm=true) (hN:X.N.Nodup) (hi:X.N[i]?=some x) (hj:X.N[j]?=some y) (OQ:i≠j)
  (hx:X.env.scope.names.lookup x=some .local) (hy:X.env.scope.names.lookup y=some .local) (ha:PA X [a,b] ta)
  (hw:swappedStores [.Tuple [.Name x px,.Name y py] kt pt] (.Tuple [a,b] k2 OP) X.env=pure (some [x,y]))
  (hs:swapsWithSole [.Tuple [.Name x px,.Name y py] kt pt] (.Tuple [a,b] k2 OP) pos.line X.env=pure false:=by rfl):
  PS X (.Assign [.Tuple [.Name x px,.Name y py] kt pt] (.Tuple [a,b] k2 OP) pos) (tPar i j ta):=by
 intro pins s σ H D I h;rw[exec_Assign_arm];refine wpAny_bind (wpAny_standAt ?_);rw[hs];refine wpAny_bind (wpAny_pure ?_);rw[if_neg ∅];refine wpAny_bind (Tuple_ (cO (ha _ pins s σ H _ I h) λus s1 dB=>?_));obtain⟨vs,H1,I1,r1,q1⟩:=dB;obtain⟨v,w,e1,q1⟩:=q1;subst e1;obtain⟨u1,u2,rfl,rv,l7⟩:∃u1 u2,us=[u1,u2]/\RelV v u1/\RelV w u2:=by
  cases r1 with
  | cons p q=>
   cases q with
   | cons p' q'=>
    cases q';exact⟨_,_,rfl,p,p'⟩
 refine wpAny_newObj_type ?_ (by show 2<=sizeLine;decide);have I2:Inv X pins σ H1 {s1 with heap:=s1.heap.push {cls:=.type "tuple",data:=.seq [u1,u2].toArray}}:=I1.kept (t':=s1.toks) λb o e=>aaw _ e;rw[hw];refine wpAny_bind (wpAny_pure ?_);show wpAny (model X.prog X.w) X.A (do rule "assign.swapped-stores";let items <-unpackItems (.ref s1.heap.objs.size) 2 none;assignInOrder [λv=>bindName X.env y v,λv=>bindName X.env x v] items.reverse;pure Flow.next) _ _ _;refine wpAny_bind (wpAny_rule (wpAny_bind (unpackItems_tuple (items:=#[u1,u2]) (I.ok.hd hc) (IsTup.new s1.heap _) λh' nG=>?_)));have I3:=I2.kept (h':=h') (t':=s1.toks) λb o e=>nG b o (YW (aay e)) e;show wpAny _ _ (assignInOrder [λv=>bindName X.env y v,λv=>bindName X.env x v] [u2,u1] >>=λ_=>pure Flow.next) _ _ _;refine wpAny_bind (assignInOrder_cons (wpAny_bindName (kM I3 hN hj (.inl hy) l7 (λs2 I4=>?_) (.inr hy))));refine assignInOrder_cons (wpAny_bindName (kM I4 hN hi (.inl hx) rv (λs3 I5=>assignInOrder_nil (wpAny_pure ?_)) (.inr hx)));rw[List.set_comm _ _ (Ne.symm OQ)] at I5;exact⟨_,H1,I5,q1⟩
abbrev BO (to ti te:TE) (Fh:V->V->Hp->VK->Prop) (NF:ND) (Fi:BM):TS:=λD σ H=>to σ H λo H1=>ti σ H1 λi H2=>Fh o i H2 λx H3=>te σ H3 λy H4=>NF x y H4 λz H5=>Fi o i z H5 λH6=>D.nx σ H6
abbrev Ll (X:Cx) (t:V->V->Hp->VK->Prop):Prop:=
 ∀(pins:List (Addr×Obj)) (s:Shared) (σ:St) (H:Hp) (o i:V) (ov iv:Value) (Q:VK),Inv X pins σ H s->RelV o ov->RelV i iv->t o i H Q->
  wpAny (model X.prog X.w) X.A (getItem ov iv) (EP X pins σ Q) X.xe s
theorem yV {o i e:Expr} {to ti te:TE} {Fh:V->V->Hp->VK->Prop} {NF:ND} {Fi:BM} {op:Operator} {jV:Pos} (ho:PE X o to) (hi:PE X i ti) (hg:Ll X Fh) (he:PE X e te) (hp:ON X op NF) (hs:Iq X Fi)
  (ha:∀ov iv new,augStore i ov iv new=(do holding [new,ov,iv] (setItem ov iv new);release [new,ov,iv] [];pure .next):=by intros;rfl):PS X (.AugAssign (.Subscript o i jV) op e pos) (BO to ti te Fh NF Fi):=by
 intro pins s σ H D I h;refine wpAny_AugAssign_SubscriptAny (cO (ho pins s σ H _ I h) λov s1 dB=>?_) ha;obtain⟨x1,H1,I1,r1,q1⟩:=dB;refine cO (hi pins s1 σ H1 _ I1 q1) λiv s2 dB=>?_;obtain⟨x2,H2,I2,r2,q2⟩:=dB;refine cO (hg pins s2 σ H2 x1 x2 ov iv _ I2 r1 r2 q2) λold s3 dB=>?_;obtain⟨x3,H3,I3,r3,q3⟩:=dB;refine cO (he pins s3 σ H3 _ I3 q3) λv s4 dB=>?_;obtain⟨x4,H4,I4,r4,q4⟩:=dB;refine cO (hp pins s4 σ H4 x3 x4 old v _ I4 r3 r4 q4) λnew s5 dB=>?_;obtain⟨x5,H5,I5,r5,q5⟩:=dB;exact cO (hs pins s5 σ H5 x1 x2 x5 ov iv new _ I5 r1 r2 r5 q5) λ_ s6 ⟨H6,I6,q6⟩=>⟨σ,H6,I6,q6⟩
abbrev NG (f:Int->Int->Int):ND:=λx y H Q=>∃i j,x=.int i/\y=.int j/\Q (.int (f i j)) H
theorem Iv:ON X .Add (NG λi j=>i+j):=by
 intro pins s σ H x y v u Q I r1 r2 h;obtain⟨i,j,e1,e2,q⟩:=h;subst e1;subst e2;obtain⟨t,rfl⟩:=r1;obtain⟨t',rfl⟩:=r2;exact iadd_int ⟨.int _,H,I.tok _,⟨_,rfl⟩,q⟩
theorem Iw:ON X .Sub (NG λi j=>i - j):=by
 intro pins s σ H x y v u Q I r1 r2 h;obtain⟨i,j,e1,e2,q⟩:=h;subst e1;subst e2;obtain⟨t,rfl⟩:=r1;obtain⟨t',rfl⟩:=r2;exact isub_int ⟨.int _,H,I.tok _,⟨_,rfl⟩,q⟩
end
section
variable {X : Cx} {pos : Pos}
abbrev sV (c:TT) (tb:TS):TS:=λD σ H=>∃W:Nat->St->Hp->Prop,(∃m,W m σ H)/\∀m σ H,W m σ H->
 c σ H λb H1=>if b=true then ∃N:St->Hp->Prop,(∀σ' H',N σ' H'->∃m',m'<m/\W m' σ' H')/\tb {D with nx:=N,ct:=N,bk:=D.nx} σ H1 else D.nx σ H1
theorem iP {c:Expr} {body:List Stmt} {tc:TT} {tb:TS} (hp:PassesOwn (model X.prog X.w) X.A X.env X.xe) (hc:PT X c tc) (hb:xC X body tb):PS X (.While c body [] pos) (sV tc tb):=by
 intro pins s σ H D I h;obtain⟨W,⟨m0,w0⟩,turn⟩:=h;refine wpAny_While (codeAny_whileLoop (λn s'=>∃σ' H',Inv X pins σ' H' s'/\W n σ' H') ?_ m0 ⟨σ,H,I,w0⟩);rintro n s1 ⟨σ1,H1,I1,w1⟩;refine wpAny_passesOwn hp (cO (hc pins s1 σ1 H1 _ I1 (turn n σ1 H1 w1)) λb s2 ⟨H2,I2,q2⟩=>?_);cases b with
 | true=>
  obtain⟨N,hN,q2⟩:=q2;rw[if_pos rfl];refine wpAny_passesOwn hp (cO (hb pins s2 σ1 H2 _ I2 q2) λf s3 q3=>?_);cases f with
  | next=>
   obtain⟨σ3,H3,I3,n3⟩:=q3;obtain⟨m',hm,w3⟩:=hN σ3 H3 n3;exact⟨m',hm,σ3,H3,I3,w3⟩
  | cont=>
   obtain⟨σ3,H3,I3,n3⟩:=q3;obtain⟨m',hm,w3⟩:=hN σ3 H3 n3;exact⟨m',hm,σ3,H3,I3,w3⟩
  | brk=>exact q3
  | ret v=>exact q3
 | false=>
  rw[if_neg Y4];exact wpAny_execs_nil ⟨σ1,H2,I2,q2⟩
end
structure It where
 go:Nat->Hp->Prop
 xp:Nat->Hp->V->Hp->Prop
 stop:Nat->Hp->Prop
abbrev iQ (X:Cx) (pins:List (Addr×Obj)) (H:Hp) (b:Addr):Prop:=
 H b=none/\b≠X.env.locals/\b∉X.fs/\(b∈X.ex\/X.s₀.heap.objs.size<=b)/\(∀x c,X.env.cells.lookup x=some c->c≠b)/\∀p∈X.pn++pins,p.1≠b
theorem Inv.sW {X:Cx} {pins:List (Addr×Obj)} {σ:St} {H H':Hp} {s:Shared} {b:Addr} (I:Inv X pins σ H s) (hb:s.heap.objs.size<=b) (hn:H' b=none):iQ X pins H' b:=by
 refine⟨hn,ZC (Y3 I.lt hb),I.OH hb,.inr (YY I.sz hb),λx c e z=>?_,λp hp z=>?_⟩
 ·obtain⟨v,q⟩:=I.cell x c e;exact absurd (Y3 q.lt (by rw[z];exact hb)) (Zj _)
 ·exact absurd (Y3 (aay (I.pin p hp).1) (by rw[z];exact hb)) (Zj _)
structure Turn (P:Program) (w:World) (K:aam) (tg:Expr) (J:It) (fp:List Addr) (it:Addr) (tn:Nat->Heap->Prop):Prop where
 mem:it∈fp
 obj:∀i h,tn i h->∀b∈fp,∃o,h.get? b=some o/\∀v,o.data≠.cell v
 keep:∀i h h',tn i h->(∀b∈fp,∀o,h.get? b=some o->h'.get? b=some o)->tn i h'
 item:∀(X:Cx),X.prog=P->X.w=w->X.K=K->X.calm=true->∀(i:Nat) (pins:List (Addr×Obj)) (s:Shared) (σ:St) (H:Hp) (E:Value->Shared->Prop),Inv X pins σ H s->(∀b∈fp,iQ X pins H b)->tn i s.heap->J.go i H->
  wpAny (model P w) X.A (pyNext (.ref it)) (λr s1=>∃u,r=some u/\
   wpAny (model P w) X.A (letOwnedTupleGo tg (.ref it) u) (λ_ s2=>∃x H',Inv X pins σ H' s2/\RelV x u/\J.xp i H x H'/\tn (i+1) s2.heap/\∀b∈fp,H' b=none) E s1) E s
 done:∀(X:Cx),X.prog=P->X.w=w->X.K=K->X.calm=true->∀(i:Nat) (pins:List (Addr×Obj)) (s:Shared) (σ:St) (H:Hp) (E:Value->Shared->Prop),Inv X pins σ H s->(∀b∈fp,iQ X pins H b)->tn i s.heap->J.stop i H->
  wpAny (model P w) X.A (pyNext (.ref it)) (λr s1=>r=none/\Inv X pins σ H s1) E s
 self:∀(A:Around) (i:Nat) (s:Shared) (Q:Value->Shared->Prop) (E:Value->Shared->Prop),tn i s.heap->Q (.ref it) s->wpAny (model P w) A (pyIter (.ref it)) Q E s
@[inline]abbrev TI:=St->Hp->(It->Hp->Prop)->Prop
abbrev Rp (X:Cx) (pins:List (Addr×Obj)) (σ:St) (tg:Expr) (R:It->Hp->Prop) (G5:Value) (s2:Shared):Prop:=
 ∃(it:Addr) (fp:List Addr) (tn:Nat->Heap->Prop) (J:It) (H':Hp),G5=.ref it/\Inv X pins σ H' s2/\Turn X.prog X.w X.K tg J fp it tn/\tn 0 s2.heap/\(∀b∈fp,iQ X pins H' b)/\R J H'
abbrev PI (X:Cx) (tg iter:Expr) (wi:TI):Prop:=
 ∀(pins:List (Addr×Obj)) (s:Shared) (σ:St) (H:Hp) (R:It->Hp->Prop),Inv X pins σ H s->wi σ H R->
  wpAny (model X.prog X.w) X.A (eval iter X.env) (λv s1=>wpAny (model X.prog X.w) X.A (pyIter v) (Rp X pins σ tg R) X.xe s1) X.xe s
theorem BP {M:Model} {A:Around} {E:Value->Shared->Prop} {s:Shared} {tg:Expr} {it:Addr} {u:Value} {o:Obj} {n:String} {vs:Array Value} {Q:Unit->Shared->Prop} (ho:s.heap.get? it=some o) (hc:o.cls=.type n) (hd:o.data=.fields vs)
  (hn:["enumerate","zip","dict_itemiterator","dict_reverseitemiterator","odict_iterator","itertools.zip_longest","itertools.pairwise"].contains n=false) (hQ:Q () s):wpAny M A (letOwnedTupleGo tg (.ref it) u) Q E s:=by
 unfold letOwnedTupleGo;cases tg <;>first
  | exact wpAny_pure hQ
  | (cases u <;>first
    | exact wpAny_pure hQ
    | (refine wpAny_bind (wpAny_load ho ?_)
       rw[hc,hd];show wpAny M A (if (["enumerate","zip","dict_itemiterator","dict_reverseitemiterator","odict_iterator","itertools.zip_longest","itertools.pairwise"].contains n && vs[0]?==some (rawInt _))=true then _ else _) Q E s;rw[if_neg (by intro h;rw[hn,Bool.false_and] at h;cases h)];exact wpAny_pure hQ))
abbrev uO (K:aam) (a:Addr):It:=
 ⟨λi H=>∃xs x,aS K H a xs/\xs[i]?=some x,λi H x H'=>H'=H/\∀xs,aS K H a xs->xs[i]?=some x,λi H=>∃xs,aS K H a xs/\xs.length<=i⟩
abbrev Tz (K:aam) (a:Addr):It:=
 ⟨λi H=>∃xs x,fV K H a xs/\xs[i]?=some x,λi H x H'=>H'=H/\∀xs,fV K H a xs->xs[i]?=some x,λi H=>∃xs,fV K H a xs/\xs.length<=i⟩
abbrev Lm (lo:Int) (n:Nat):It:=⟨λi _=>i<n,λi H x H'=>H'=H/\x=.int (lo+i),λi _=>n<=i⟩
theorem AB {P:Program} {w:World} {K:aam} {tg:Expr} (a it:Addr):Turn P w K tg (uO K a) [it] it (λi h=>h.IsListIter it a i) where
 mem:=by simp
 obj:=λi h st b hb=>by
  have e:b=it:=by simpa using hb
  subst e;obtain⟨o,e,c,d⟩:=st;exact⟨o,e,λv z=>by rw[d] at z;cases z⟩
 keep:=λi h h' st k=>st.at λo e=>k it (by simp) o e
 item:=by
  intro X hP hw hK hc i pins s σ H E I hf st hg;subst hP hw hK;obtain⟨xs,x,hq,hx⟩:=hg;obtain⟨aW,rv,p,hz⟩:=I.list hq;obtain⟨u,hu,ru⟩:=rv.get hx;obtain⟨f0,f1,f2,f3,f4,f5⟩:=hf it (by simp);refine wpAny_pyNext_list_item st p.isList (x:=u) (by simpa using hu) λh' u4 sb=>?_;have I1:Inv X pins σ H {s with heap:=h'}:=I.turned (t':=s.toks) (λb o hb e=>(sb.2 b hb).trans e) f0 f1 f3 f4 f5;obtain⟨o,e,c,d⟩:=id u4;exact⟨u,rfl,BP (s:={s with heap:=h'}) e c d ∅ ⟨x,H,I1,ru,⟨rfl,λys hy=>by rw[I.eW hy hq];exact hx⟩,u4,λb hb=>(hf b hb).1⟩⟩
 done:=by
  intro X hP hw hK hc i pins s σ H E I hf st hg;subst hP hw hK;obtain⟨xs,hq,hx⟩:=hg;obtain⟨aW,rv,p,hz⟩:=I.list hq;obtain⟨f0,f1,f2,f3,f4,f5⟩:=hf it (by simp);have hl:=rv.length;exact wpAny_pyNext_list_end (I.ok.hd hc) st p.isList (by simp;lia) λh' eb=>⟨rfl,I.turned (t':=s.toks) (λb o hb e=>eb b o hb e) f0 f1 f3 f4 f5⟩
 self:=λ_ _ _ _ _ st h=>wpAny_pyIter_listiter st h
theorem xF {P:Program} {w:World} {K:aam} {tg:Expr} (it:Addr) (lo:Int) (n:Nat):Turn P w K tg (Lm lo n) [it] it (λi h=>IsRangeIter h it (lo+ (i:Nat)*1) ((n:Int) - (i:Nat)) 1) where
 mem:=by simp
 obj:=λi h st b hb=>by
  have e:b=it:=by simpa using hb
  subst e;exact⟨_,st,λv z=>by
   have z':Data.fields _=Data.cell v:=z;cases z'⟩
 keep:=λi h h' st k=>k it (by simp) _ st
 item:=by
  intro X hP hw hK hc i pins s σ H E I hf st hg;subst hP hw hK;obtain⟨f0,f1,f2,f3,f4,f5⟩:=hf it (by simp);have W:=Walks.range (prog:=X.prog) (w:=X.w) (I.ok.hd hc) it lo 1 n;refine W.item i s _ _ hg st λv h' tk hv u4 kk=>?_;obtain⟨t,rfl⟩:=hv;have I1:Inv X pins σ H {s with heap:=h',toks:=tk}:=I.turned (λb o hb e=>kk b o (by simpa using hb) e) f0 f1 f3 f4 f5;refine⟨_,rfl,BP (s:={s with heap:=h',toks:=tk}) (n:="range_iterator") u4 rfl rfl ∅ ⟨.int (lo+i),H,I1,⟨t,?_⟩,⟨rfl,rfl⟩,u4,λb hb=>(hf b hb).1⟩⟩;rw[Int.mul_one]
 done:=by
  intro X hP hw hK hc i pins s σ H E I hf st hg;subst hP hw hK;obtain⟨f0,f1,f2,f3,f4,f5⟩:=hf it (by simp);exact wpAny_pyNext_range_end (I.ok.hd hc) st (by have:n<=i:=hg;lia) λh' eb=>⟨rfl,I.turned (t':=s.toks) (λb o hb e=>eb b o hb e) f0 f1 f3 f4 f5⟩
 self:=λ_ _ _ _ _ st h=>wpAny_pyIter_rangeiter st h
end L2
namespace L2
open PySem PySem.Spec PyProof.Rows
section
variable {X : Cx} {tg : Expr}
abbrev iList (K:aam) (tl:TE):TI:=λσ H R=>tl σ H λx H1=>∃a,x=.ref a/\(∃xs,aS K H1 a xs)/\R (uO K a) H1
abbrev iTup (K:aam) (tl:TE):TI:=λσ H R=>tl σ H λx H1=>∃a,x=.ref a/\(∃xs,fV K H1 a xs)/\R (Tz K a) H1
theorem Fj {l:Expr} {tl:TE} (hl:PE X l tl):PI X tg l (iList X.K tl):=by
 intro pins s σ H R I h;refine cO (hl pins s σ H _ I h) λv s1 dB=>?_;obtain⟨x,H1,I1,r1,q1⟩:=dB;obtain⟨a,e,⟨xs,hq⟩,q⟩:=q1;subst e;cases r1;obtain⟨aW,rv,p,hz⟩:=I1.list hq;refine wpAny_pyIter_list p.isList ?_;refine⟨s1.heap.objs.size,[s1.heap.objs.size],_,_,H1,rfl,I1.kept (t':=s1.toks) λb o e=>aaw _ e,AB a _,⟨_,aax _ rfl,rfl,rfl⟩,λb hb=>?_,q⟩;have e:b=s1.heap.objs.size:=by simpa using hb
 subst e;exact I1.sW (YR _) (I1.cw.fresh (YR _))
theorem u5 {pins:List (Addr×Obj)} {σ:St} {H:Hp} {s:Shared} {R:It->Hp->Prop} {E:Value->Shared->Prop} {lo hi:Int} {t u v:Tok} {tk:Nat} (I:Inv X pins σ H s) (h1:-(2^62)<=lo) (h2:lo<2^62) (h3:-(2^62)<=hi) (h4:hi<2^62)
  (q:R (Lm lo (hi - lo).toNat) H):wpAny (model X.prog X.w) X.A (pyIter (.ref s.heap.objs.size)) (Rp X pins σ tg R) E {s with heap:=s.heap.push {cls:=.type "range",data:=.fields #[.int lo t,.int hi u,.int 1 v]},toks:=tk}:=by
 refine wpAny_pyIter_range (IsRange.new ..) (small_one h1 h2 h3 h4) ?_;have I1:Inv X pins σ H {s with heap:=s.heap.push {cls:=.type "range",data:=.fields #[.int lo t,.int hi u,.int 1 v]},toks:=tk}:=I.kept λb o e=>aaw _ e;refine⟨(s.heap.push {cls:=.type "range",data:=.fields #[.int lo t,.int hi u,.int 1 v]}).objs.size,[(s.heap.push {cls:=.type "range",data:=.fields #[.int lo t,.int hi u,.int 1 v]}).objs.size],_,_,H,rfl,
  I1.kept (t':=tk) λb o e=>aaw _ e,xF _ lo (hi - lo).toNat,?_,λb hb=>?_,q⟩
 ·have e1:lo+ ((0:Nat):Int)*1=lo:=by simp
  have e2:(((hi - lo).toNat:Nat):Int) - ((0:Nat):Int)=Builtin.Range.rangeSize lo hi 1:=by rw[rangeSize_one];split <;>lia
  show IsRangeIter _ _ (lo+ ((0:Nat):Int)*1) ((((hi - lo).toNat:Nat):Int) - ((0:Nat):Int)) 1;rw[e1,e2];exact aax _ rfl
 ·have e:b=(s.heap.push {cls:=.type "range",data:=.fields #[.int lo t,.int hi u,.int 1 v]}).objs.size:=by simpa using hb
  subst e;exact I1.sW (YR _) (I1.cw.fresh (YR _))
abbrev iRng1 (ta:TA):TI:=λσ H R=>ta σ H λvs H1=>∃j:Int,vs=[.int j]/\-(2^62)<=j/\j<2^62/\R (Lm 0 j.toNat) H1
abbrev iRng2 (ta:TA):TI:=λσ H R=>ta σ H λvs H1=>∃i j:Int,vs=[.int i,.int j]/\(-(2^62)<=i/\i<2^62/\-(2^62)<=j/\j<2^62)/\R (Lm i (j - i).toNat) H1
theorem du {a:Expr} {ta:TA} {p pos:Pos} (hg:Gl X "range") (hm:X.mg "range"=none) (ha:PA X [a] ta) (hs:starEach [a] X.env=[(false,eval a X.env)]:=by rfl):PI X tg (.Call (.Name "range" p) [a] [] pos) (iRng1 ta):=by
 intro pins s σ H R I h;refine Call_ (g8 I hg hm boot_range (aaf (cO (ha pos pins s σ H _ I h) λus s1 dB=>?_) hs rfl));obtain⟨vs,H1,I1,r1,q1⟩:=dB;obtain⟨j,e,q1,q2,q⟩:=q1;subst e;cases r1 with
 | cons r rr=>
  cases rr;obtain⟨t,rfl⟩:=r;exact call_range_1 (u5 I1 ⋯ ⋯ q1 q2 (by simpa using q))
theorem AD {a b:Expr} {ta:TA} {p pos:Pos} (hg:Gl X "range") (hm:X.mg "range"=none) (ha:PA X [a,b] ta) (hs:starEach [a,b] X.env=[(false,eval a X.env),(false,eval b X.env)]:=by rfl) (EW:starEach [b] X.env=[(false,eval b X.env)]:=by rfl):
  PI X tg (.Call (.Name "range" p) [a,b] [] pos) (iRng2 ta):=by
 intro pins s σ H R I h;refine Call_ (g8 I hg hm boot_range (aaf (cO (ha pos pins s σ H _ I h) λus s1 dB=>?_) (by rw[hs,EW]) (by rw[EW];rfl)));obtain⟨vs,H1,I1,r1,q1⟩:=dB;obtain⟨i,j,e,⟨q1,q2,q3,q4⟩,q⟩:=q1;subst e;cases r1 with
 | cons r rr=>
  cases rr with
  | cons r' rr=>
   cases rr;obtain⟨t,rfl⟩:=r;obtain⟨t',rfl⟩:=r';exact call_range_2 (u5 I1 q1 q2 q3 q4 q)
abbrev Ln (wi:TI) (g:TG) (tb:TS):TS:=λD σ H=>wi σ H λJ H1=>∃W:Nat->Nat->St->Hp->Prop,(∃m,W 0 m σ H1)/\∀i m σ H,W i m σ H->
 (J.stop i H/\D.nx σ H)\/(J.go i H/\∃N:St->Hp->Prop,(∀σ' H',N σ' H'->∃m',m'<m/\W (i+1) m' σ' H')/\∀x H',J.xp i H x H'->g x σ H' λσ2 H2=>tb {D with nx:=N,ct:=N,bk:=D.nx} σ2 H2)
abbrev oZ (fp:List Addr) (h:Heap):List (Addr×Obj):=fp.filterMap λb=>(h.get? b).map λo=>(b,o)
theorem hJ {fp:List Addr} {h:Heap} {b:Addr} {o:Obj} (hb:b∈fp) (e:h.get? b=some o):(b,o)∈oZ fp h:=List.mem_filterMap.mpr ⟨b,hb,by rw[e];rfl⟩
theorem AE {fp:List Addr} {h:Heap} {p:Addr×Obj} (hp:p∈oZ fp h):p.1∈fp/\h.get? p.1=some p.2:=by
 obtain⟨b,hb,e⟩:=List.mem_filterMap.mp hp;cases q:h.get? b with
 | none=>rw[q] at e;cases e
 | some o=>
  rw[q] at e;have e':(b,o)=p:=Zb e;subst e';exact⟨hb,q⟩
theorem Inv.pinned {pins:List (Addr×Obj)} {σ:St} {H:Hp} {s:Shared} {fp:List Addr} (I:Inv X pins σ H s) (hf:∀b∈fp,iQ X pins H b) (ho:∀b∈fp,∃o,s.heap.get? b=some o/\∀v,o.data≠.cell v):Inv X (pins++oZ fp s.heap) σ H s:=
 I.kL λp hp=>(List.mem_append.mp hp).elim (λz=>I.pin p (Zk _ z)) λz=>by
  obtain⟨hb,e⟩:=AE z;obtain⟨f0,f1,f2,_⟩:=hf p.1 hb;obtain⟨o,e',d⟩:=ho p.1 hb;rw[e] at e';cases e';exact⟨e,f0,f1,f2,d⟩
theorem Inv.o4 {pins pl:List (Addr×Obj)} {σ:St} {H:Hp} {s:Shared} (I:Inv X (pins++pl) σ H s):Inv X pins σ H s:=I.kL λp hp=>I.pin p (Zk _ (Z5 _ hp))
theorem cm {iter:Expr} {body:List Stmt} {wi:TI} {g:TG} {tb:TS} {pos:Pos} (hp:PassesOwn (model X.prog X.w) X.A X.env X.xe) (hc:X.calm=true) (hi:PI X tg iter wi) (hg:PG X tg g) (hb:xC X body tb)
  (hs:∀x,foldedSetIterable iter X.env x=pure x:=by intro _;rfl):PS X (.For tg iter body [] pos) (Ln wi g tb):=by
 intro pins s σ H D I h;refine wpAny_For (cO (hi pins s σ H _ I h) λv s1 h1=>cO h1 λG5 s2 h2=>?_) hs;obtain⟨it,fp,tn,J,H2,e,I2,T,xG,f2,W,⟨m0,w0⟩,turn⟩:=h2;subst e;have xH:∀{H':Hp},(∀b∈fp,H' b=none)->∀b∈fp,iQ X pins H' b:=λhn b hb=>⟨hn b hb,(f2 b hb).2⟩
 refine codeAny_forLoop_any (λn s'=>∃i σ' H',Inv X pins σ' H' s'/\tn i s'.heap/\(∀b∈fp,H' b=none)/\W i n σ' H') ?_ m0 ⟨0,σ,H2,I2,xG,λb hb=>(f2 b hb).1,w0⟩;rintro n s3 ⟨i,σ3,H3,I3,Rq,Rr,w3⟩;rcases turn i n σ3 H3 w3 with ⟨stop,qn⟩ | ⟨go,N,hN,step⟩
 ·refine wpAny_passesOwn hp (cO (T.done X rfl rfl rfl hc i pins s3 σ3 H3 X.xe I3 (xH Rr) Rq stop) λr s4 ⟨hr,I4⟩=>?_);subst hr;exact wpAny_execs_nil ⟨σ3,H3,I4,qn⟩
 ·refine wpAny_passesOwn hp (cO (T.item X rfl rfl rfl hc i pins s3 σ3 H3 X.xe I3 (xH Rr) Rq go) λr s4 ⟨u,hr,h4⟩=>?_);subst hr;refine wpAny_passesOwn hp (cO h4 λ_ s5 dB=>?_);obtain⟨x,H5,I5,r5,y5,OR,TB⟩:=dB;have TC:=I5.pinned (xH TB) (T.obj _ _ OR);refine wpAny_passesOwn hp (cO (hg _ s5 σ3 H5 x u _ TC r5 (step x H5 y5)) λ_ s6 ⟨σ6,H6,I6,q6⟩=>?_);refine wpAny_passesOwn hp (cO (hb _ s6 σ6 H6 _ I6 q6) λf s7 q7=>?_);have again:∀{σ7:St} {H7:Hp},Inv X (pins++oZ fp s5.heap) σ7 H7 s7->N σ7 H7->∃m,m<n/\∃i σ' H',Inv X pins σ' H' s7/\tn i s7.heap/\(∀b∈fp,H' b=none)/\W i m σ' H':=λ{σ7 H7} I7 n7=>by
   obtain⟨m',hm,w7⟩:=hN σ7 H7 n7;refine⟨m',hm,i+1,σ7,H7,I7.o4,T.keep _ _ _ OR λb hb o e=>(I7.pin (b,o) (Zk _ (Zk _ (hJ hb e)))).1,λb hb=>?_,w7⟩;obtain⟨o,e,d⟩:=T.obj _ _ OR b hb;exact(I7.pin (b,o) (Zk _ (Zk _ (hJ hb e)))).2.1
  cases f with
  | next=>obtain⟨σ7,H7,I7,n7⟩:=q7;exact again I7 n7
  | cont=>obtain⟨σ7,H7,I7,n7⟩:=q7;exact again I7 n7
  | brk=>obtain⟨σ7,H7,I7,q7⟩:=q7;exact⟨σ7,H7,I7.o4,q7⟩
  | ret v=>obtain⟨x7,σ7,H7,I7,r7,q7⟩:=q7;exact⟨x7,σ7,H7,I7.o4,r7,q7⟩
end
theorem u6 {c:TT} {tb:TS} {D:Ends} {σ:St} {H:Hp} (Pv:St->Hp->Prop) (μ:St->Hp->Nat) (h0:Pv σ H)
  (hs:∀σ H,Pv σ H->c σ H λb H1=>if b=true then tb {D with nx:=λσ' H'=>Pv σ' H'/\μ σ' H'<μ σ H,ct:=λσ' H'=>Pv σ' H'/\μ σ' H'<μ σ H,bk:=D.nx} σ H1 else D.nx σ H1)
  (mono:∀σ H Q Q',(∀b H1,Q b H1->Q' b H1)->c σ H Q->c σ H Q'):sV c tb D σ H:=by
 refine⟨λm σ H=>m=μ σ H/\Pv σ H,⟨_,rfl,h0⟩,?_⟩;rintro m σ H ⟨rfl,p⟩;refine mono σ H _ _ (λb H1 q=>?_) (hs σ H p);cases b with
 | true=>exact⟨_,λσ' H' ⟨p',l⟩=>⟨_,l,rfl,p'⟩,q⟩
 | false=>exact q
end L2
namespace L2
open PySem PySem.Spec PyProof.Rows
@[inline]abbrev R2:=V->V->Hp->VK->Prop
abbrev l9 (X:Cx) (f:Value->Value->Sem Value) (r:R2):Prop:=
 ∀(pins:List (Addr×Obj)) (s:Shared) (σ:St) (H:Hp) (x y:V) (v u:Value) (Q:VK),Inv X pins σ H s->RelV x v->RelV y u->r x y H Q->
  wpAny (model X.prog X.w) X.A (f v u) (EP X pins σ Q) X.xe s
abbrev NH (X:Cx) (f:Value->Sem Value) (r:V->Hp->VK->Prop):Prop:=
 ∀(pins:List (Addr×Obj)) (s:Shared) (σ:St) (H:Hp) (x:V) (v:Value) (Q:VK),Inv X pins σ H s->RelV x v->r x H Q->
  wpAny (model X.prog X.w) X.A (f v) (EP X pins σ Q) X.xe s
abbrev c7 (X:Cx) (f:Value) (r:List V->Hp->VK->Prop):Prop:=
 ∀(pins:List (Addr×Obj)) (s:Shared) (σ:St) (H:Hp) (xs:List V) (us:List Value) (Q:VK),Inv X pins σ H s->br xs us->r xs H Q->
  wpAny (model X.prog X.w) X.A (call f us) (EP X pins σ Q) X.xe s
abbrev tOp (r:R2) (ta tb:TE):TE:=λσ H Q=>ta σ H λx H1=>tb σ H1 λy H2=>r x y H2 Q
abbrev tUn (r:V->Hp->VK->Prop) (ta:TE):TE:=λσ H Q=>ta σ H λx H1=>r x H1 Q
abbrev rI (C:Int->Int->Prop) (g:Int->Int->V):R2:=λx y H Q=>∃i j,x=.int i/\y=.int j/\C i j/\Q (g i j) H
abbrev rI0 (g:Int->Int->V):R2:=λx y H Q=>∃i j,x=.int i/\y=.int j/\Q (g i j) H
abbrev rU (g:Int->V):V->Hp->VK->Prop:=λx H Q=>∃i,x=.int i/\Q (g i) H
section
variable {X : Cx} {a b c : Expr} {ta tb tc : TE} {pos : Pos}
theorem Iy (ha:PE X a ta) (hb:PE X b tb) {pins:List (Addr×Obj)} {s:Shared} {σ:St} {H:Hp} {R:V->V->Hp->Prop} (I:Inv X pins σ H s)
  (h:ta σ H λx H1=>tb σ H1 λy H2=>R x y H2) {Q:Value->Shared->Prop} {f:Value->Value->Sem Value}
  (hf:∀v u s2 x y H2,Inv X pins σ H2 s2->RelV x v->RelV y u->R x y H2->wpAny (model X.prog X.w) X.A (f v u) Q X.xe s2):
  wpAny (model X.prog X.w) X.A (eval a X.env) (λv s₁=>wpAny (model X.prog X.w) X.A (eval b X.env) (λu s₂=>wpAny (model X.prog X.w) X.A (f v u) Q X.xe s₂) X.xe s₁) X.xe s:=by
 refine cO (ha pins s σ H _ I h) λv s1 dB=>?_;obtain⟨x,H1,I1,r1,q1⟩:=dB;refine cO (hb pins s1 σ H1 _ I1 q1) λu s2 dB=>?_;obtain⟨y,H2,I2,r2,q2⟩:=dB;exact hf v u s2 x y H2 I2 r1 r2 q2
theorem aH {op:Operator} {r:R2} (ho:l9 X (binaryOp op) r) (ha:PE X a ta) (hb:PE X b tb):PE X (.BinOp a op b pos) (tOp r ta tb):=by
 intro pins s σ H Q I h;exact wpAny_BinOp (Iy ha hb I h λv u s2 x y H2 I2 rx ry q=>ho pins s2 σ H2 x y v u Q I2 rx ry q)
theorem BQ {op:UnaryOp} {r:V->Hp->VK->Prop} (ho:NH X (unaryOp op) r) (ha:PE X a ta):PE X (.UnaryOp op a pos) (tUn r ta):=by
 intro pins s σ H Q I h;exact UnaryOp_ (cO (ha pins s σ H _ I h) λv s1 ⟨x,H1,I1,r1,q1⟩=>ho pins s1 σ H1 x v Q I1 r1 q1)
theorem Lo {f:Value->Value->Sem Value} {C:Int->Int->Prop} {g:Int->Int->Int}
  (rule:∀(i j:Int) (t u:Tok) (s:Shared) (Q:Value->Shared->Prop) (E:Value->Shared->Prop),C i j->Q (.int (g i j) s.toks) {s with toks:=s.toks+1}->wpAny (model X.prog X.w) X.A (f (.int i t) (.int j u)) Q E s):
  l9 X f (rI C λi j=>.int (g i j)):=by
 intro pins s σ H x y v u Q I rx ry h;obtain⟨i,j,rfl,rfl,hc,q⟩:=h;obtain⟨t,rfl⟩:=rx;obtain⟨t',rfl⟩:=ry;exact rule i j t t' s _ _ hc ⟨.int (g i j),H,I.tok _,⟨_,rfl⟩,q⟩
theorem Lp {f:Value->Value->Sem Value} {g:Int->Int->Int}
  (rule:∀(i j:Int) (t u:Tok) (s:Shared) (Q:Value->Shared->Prop) (E:Value->Shared->Prop),Q (.int (g i j) s.toks) {s with toks:=s.toks+1}->wpAny (model X.prog X.w) X.A (f (.int i t) (.int j u)) Q E s):
  l9 X f (rI0 λi j=>.int (g i j)):=by
 intro pins s σ H x y v u Q I rx ry h;obtain⟨i,j,rfl,rfl,q⟩:=h;obtain⟨t,rfl⟩:=rx;obtain⟨t',rfl⟩:=ry;exact rule i j t t' s _ _ ⟨.int (g i j),H,I.tok _,⟨_,rfl⟩,q⟩
theorem Lq {f:Value->Value->Sem Value} {g:Int->Int->Bool}
  (rule:∀(i j:Int) (t u:Tok) (s:Shared) (Q:Value->Shared->Prop) (E:Value->Shared->Prop),Q (.bool (g i j)) s->wpAny (model X.prog X.w) X.A (f (.int i t) (.int j u)) Q E s):
  l9 X f (rI0 λi j=>.bl (g i j)):=by
 intro pins s σ H x y v u Q I rx ry h;obtain⟨i,j,rfl,rfl,q⟩:=h;obtain⟨t,rfl⟩:=rx;obtain⟨t',rfl⟩:=ry;exact rule i j t t' s _ _ ⟨.bl (g i j),H,I,rfl,q⟩
abbrev CPow (i j:Int):Prop:=0<=j/\j<=1000000/\i.natAbs<2^64
theorem bj:l9 X (binaryOp .Add) (rI0 λi j=>.int (i+j)):=Lp λ_ _ _ _ _ _ _ q=>add_int q
theorem jW:l9 X (binaryOp .Sub) (rI0 λi j=>.int (i - j)):=Lp λ_ _ _ _ _ _ _ q=>sub_int q
theorem Iz:l9 X (binaryOp .Mod) (rI (λ_ j=>0<j) λi j=>.int (i % j)):=Lo λi j _ _ _ _ _ hc q=>by
 have h1:(0:Int)<j:=hc;exact mod_int' ⋯ (by rw[Int.fmod_eq_emod_of_nonneg i ⋯];exact q)
theorem jX:l9 X (binaryOp .Pow) (rI CPow λi j=>.int (i^j.toNat)):=Lo λ_ _ _ _ _ _ _ hc q=>pow_int_small hc.1 hc.2.1 hc.2.2 q
theorem TF {f:Value->Sem Value} {g:Int->Int}
  (rule:∀(i:Int) (t:Tok) (s:Shared) (Q:Value->Shared->Prop) (E:Value->Shared->Prop),Q (.int (g i) s.toks) {s with toks:=s.toks+1}->wpAny (model X.prog X.w) X.A (f (.int i t)) Q E s):
  NH X f (rU λi=>.int (g i)):=by
 intro pins s σ H x v Q I rx h;obtain⟨i,rfl,q⟩:=h;obtain⟨t,rfl⟩:=rx;exact rule i t s _ _ ⟨.int (g i),H,I.tok _,⟨_,rfl⟩,q⟩
theorem xI:NH X (unaryOp .USub) (rU λi=>.int (-i)):=TF λ_ _ _ _ _ q=>neg_int q
end
abbrev xJ:V->V->Bool
 | .cJ,.cJ=>true | .cJ,.int _=>true | .int _,.cJ=>true | .cJ,.bl _=>true | .bl _,.cJ=>true | .cJ,.str _=>true | .str _,.cJ=>true
 | .int _,.int _=>true | .bl _,.bl _=>true | .str _,.str _=>true | .Bx _,.Bx _=>true
 | .int _,.str _=>true | .str _,.int _=>true | .bl _,.str _=>true | .str _,.bl _=>true
 | _,_=>false
abbrev rEq:R2:=λx y H Q=>xJ x y=true/\Q (.bl (decide (x=y))) H
abbrev rNe:R2:=λx y H Q=>xJ x y=true/\Q (.bl (!decide (x=y))) H
theorem yW {i j:Int}:decide (V.int i=V.int j)=(i==j):=by
 rw[Bool.eq_iff_iff];simp
theorem BR {i j:Bool}:decide (V.bl i=V.bl j)=(i==j):=by
 rw[Bool.eq_iff_iff];simp
theorem yX {i j:Str}:decide (V.str i=V.str j)=(i==j):=by
 rw[Bool.eq_iff_iff];simp
theorem yY {i j:Array UInt8}:decide (V.Bx i=V.Bx j)=(i.toList==j.toList):=by
 rw[Bool.eq_iff_iff];cases i;cases j;simp
section
variable {X : Cx} {a b c : Expr} {ta tb tc : TE} {pos : Pos}
theorem bO {pins:List (Addr×Obj)} {σ:St} {H:Hp} {s:Shared} {Q:VK} {k k':Bool} (I:Inv X pins σ H s) (q:Q (.bl k) H) (e:k=k'):EP X pins σ Q (.bool k') s:=by
 subst e;exact⟨.bl k,H,I,rfl,q⟩
theorem cF:l9 X (compareOp .Eq) rEq:=by
 intro pins s σ H x y v u Q I rx ry h;obtain⟨hs,q⟩:=h;cases x with
 | cJ=>
  cases rx;cases y with
  | cJ=>cases ry;exact PySem.EqNone.eq_none_none (bO I q (by simp))
  | bl j=>cases ry;exact PySem.EqNone.eq_none_bool (bO I q (by simp))
  | int j=>obtain⟨t',rfl⟩:=ry;exact PySem.EqNone.eq_none_int (bO I q (by simp))
  | str j=>obtain⟨t',rfl⟩:=ry;exact PySem.EqNone.eq_none_str (bO I q (by simp))
  | _=>exact absurd (show false=true from hs) Y4
 | bl i=>
  cases rx;cases y with
  | cJ=>cases ry;exact PySem.EqNone.eq_bool_none (bO I q (by simp))
  | bl j=>cases ry;exact eq_bool (bO I q BR)
  | str j=>obtain⟨t',rfl⟩:=ry;exact PySem.EqMixed.eq_bool_str (bO I q (by simp))
  | _=>exact absurd (show false=true from hs) Y4
 | int i=>
  obtain⟨t,rfl⟩:=rx;cases y with
  | cJ=>cases ry;exact PySem.EqNone.eq_int_none (bO I q (by simp))
  | int j=>obtain⟨t',rfl⟩:=ry;exact eq_int (bO I q yW)
  | str j=>obtain⟨t',rfl⟩:=ry;exact PySem.EqMixed.eq_int_str (bO I q (by simp))
  | _=>exact absurd (show false=true from hs) Y4
 | str i=>
  obtain⟨t,rfl⟩:=rx;cases y with
  | cJ=>cases ry;exact PySem.EqNone.eq_str_none (bO I q (by simp))
  | bl j=>cases ry;exact PySem.EqMixed.eq_str_bool (bO I q (by simp))
  | int j=>obtain⟨t',rfl⟩:=ry;exact PySem.EqMixed.eq_str_int (bO I q (by simp))
  | str j=>obtain⟨t',rfl⟩:=ry;exact eq_str (bO I q yX)
  | _=>exact absurd (show false=true from hs) Y4
 | Bx i=>
  obtain⟨t,rfl⟩:=rx;cases y with
  | Bx j=>obtain⟨t',rfl⟩:=ry;exact PySem.W.eq_bytes (bO I q yY)
  | _=>exact absurd (show false=true from hs) Y4
 | _=>cases y <;>exact absurd (show false=true from hs) Y4
theorem rE:l9 X (compareOp .NotEq) rNe:=by
 intro pins s σ H x y v u Q I rx ry h;obtain⟨hs,q⟩:=h;cases x with
 | cJ=>
  cases rx;cases y with
  | cJ=>cases ry;exact PySem.EqNone.ne_none_none (bO I q (by simp))
  | bl j=>cases ry;exact PySem.EqNone.ne_none_bool (bO I q (by simp))
  | int j=>obtain⟨t',rfl⟩:=ry;exact PySem.EqNone.ne_none_int (bO I q (by simp))
  | str j=>obtain⟨t',rfl⟩:=ry;exact PySem.EqNone.ne_none_str (bO I q (by simp))
  | _=>exact absurd (show false=true from hs) Y4
 | bl i=>
  cases rx;cases y with
  | cJ=>cases ry;exact PySem.EqNone.ne_bool_none (bO I q (by simp))
  | bl j=>cases ry;exact ne_bool (bO I q (congrArg not BR))
  | str j=>obtain⟨t',rfl⟩:=ry;exact PySem.EqMixed.ne_bool_str (bO I q (by simp))
  | _=>exact absurd (show false=true from hs) Y4
 | int i=>
  obtain⟨t,rfl⟩:=rx;cases y with
  | cJ=>cases ry;exact PySem.EqNone.ne_int_none (bO I q (by simp))
  | int j=>obtain⟨t',rfl⟩:=ry;exact ne_int (bO I q (congrArg not yW))
  | str j=>obtain⟨t',rfl⟩:=ry;exact PySem.EqMixed.ne_int_str (bO I q (by simp))
  | _=>exact absurd (show false=true from hs) Y4
 | str i=>
  obtain⟨t,rfl⟩:=rx;cases y with
  | cJ=>cases ry;exact PySem.EqNone.ne_str_none (bO I q (by simp))
  | bl j=>cases ry;exact PySem.EqMixed.ne_str_bool (bO I q (by simp))
  | int j=>obtain⟨t',rfl⟩:=ry;exact PySem.EqMixed.ne_str_int (bO I q (by simp))
  | str j=>obtain⟨t',rfl⟩:=ry;exact ne_str (bO I q (congrArg not yX))
  | _=>exact absurd (show false=true from hs) Y4
 | Bx i=>
  obtain⟨t,rfl⟩:=rx;cases y with
  | Bx j=>obtain⟨t',rfl⟩:=ry;exact PySem.W.ne_bytes (bO I q (congrArg not yY))
  | _=>exact absurd (show false=true from hs) Y4
 | _=>cases y <;>exact absurd (show false=true from hs) Y4
theorem o5:l9 X (compareOp .Lt) (rI0 λi j=>.bl (decide (i<j))):=Lq λ_ _ _ _ _ _ _ q=>lt_int q
theorem mT:l9 X (compareOp .Gt) (rI0 λi j=>.bl (decide (j<i))):=Lq λ_ _ _ _ _ _ _ q=>gt_int q
theorem xK:l9 X (compareOp .Is) (λx y H Q=>y=.cJ/\Q (.bl (decide (x=.cJ))) H):=by
 intro pins s σ H x y v u Q I rx ry h;obtain⟨rfl,q⟩:=h;cases ry;refine is_none_gen (bO I q ?_);cases x <;>first
  | (cases rx;rfl)
  | (obtain⟨t,rfl⟩:=rx;rfl)
theorem Fk:l9 X (compareOp .IsNot) (λx y H Q=>y=.cJ/\Q (.bl (!decide (x=.cJ))) H):=by
 intro pins s σ H x y v u Q I rx ry h;obtain⟨rfl,q⟩:=h;cases ry;refine isnot_none_gen (bO I q ?_);cases x <;>first
  | (cases rx;rfl)
  | (obtain⟨t,rfl⟩:=rx;rfl)
theorem aT (b:Expr) {op:CmpOp} (h:op≠.In:=by decide) (h2:op≠.NotIn:=by decide):behindInMarks op b=false:=by
 have e1:(op==CmpOp.In)=false:=by cases op <;>first | rfl | exact absurd rfl h
 have e2:(op==CmpOp.NotIn)=false:=by cases op <;>first | rfl | exact absurd rfl h2
 cases b <;>simp [behindInMarks,e1,e2]
theorem fZ {op:CmpOp} {r:R2} (ho:l9 X (compareOp op) r) (ha:PE X a ta) (hb:PE X b tb) (hm:behindInMarks op b=false):PE X (.Compare a [op] [b] pos) (tOp r ta tb):=by
 intro pins s σ H Q I h;exact wpAny_Compare1 (Iy ha hb I h λv u s2 x y H2 I2 rx ry q=>ho pins s2 σ H2 x y v u Q I2 rx ry q) hm
abbrev tTest (t:TE):TT:=λσ H Q=>t σ H λx H'=>∃k,x=.bl k/\Q k H'
theorem aR {op:CmpOp} {r:R2} (ho:l9 X (compareOp op) r) (ha:PE X a ta) (hb:PE X b tb) (hm:behindInMarks op b=false):PT X (.Compare a [op] [b] pos) (tTest (tOp r ta tb)):=by
 intro pins s σ H Q I h;refine wpAny_isTrue_Compare1 (cO (ha pins s σ H _ I h) λv s1 ⟨x,H1,I1,r1,q1⟩=>cO (hb pins s1 σ H1 _ I1 q1) λu s2 ⟨y,H2,I2,r2,q2⟩=>
  cO (ho pins s2 σ H2 x y v u _ I2 r1 r2 q2) λc s3 ⟨z,H3,I3,r3,k,e,q3⟩=>?_) hm
 subst e;cases r3;exact wpAny_truthy_bool ⟨H3,I3,q3⟩
abbrev tChain (r r':R2) (ta tb tc:TE):TE:=λσ H Q=>ta σ H λx H1=>tb σ H1 λy H2=>r x y H2 λz H3=>∃k,z=.bl k/\
 (if k=true then tc σ H3 λw' H4=>r' y w' H4 Q else Q (.bl false) H3)
theorem o6:(sizeLine:Nat)<2^63:=by rw[sizeLine_eq];decide
theorem vals1 {x:V} {us:List Value} (r:br [x] us):∃u,us=[u]/\RelV x u:=by
 cases r with
 | cons r1 r2=>cases r2;exact⟨_,rfl,r1⟩
theorem vals2 {x y:V} {us:List Value} (r:br [x,y] us):∃u w',us=[u,w']/\RelV x u/\RelV y w':=by
 cases r with
 | cons r1 r2=>
  cases r2 with
  | cons r3 r4=>cases r4;exact⟨_,_,rfl,r1,r3⟩
theorem o8:c7 X (.builtin "abs") (λxs H Q=>∃i,xs=[.int i]/\Q (.int (if i<0 then -i else i)) H):=by
 intro pins s σ H xs us Q I r h;obtain⟨i,rfl,q⟩:=h;obtain⟨u,rfl,t,rfl⟩:=vals1 r;exact call_abs_int λu tk=>⟨.int (if i<0 then -i else i),H,I.tok _,⟨_,rfl⟩,q⟩
end
end L2
namespace L2
open PySem PySem.Spec PyProof.Rows
structure xM (h:Heap) (x dx C:Addr) (mA:Str->Option Value):Prop where
 obj:h.get? x=some (PySem.W.instObj C dx)
 ns:h.Ns1 dx mA
 ne:dx≠x
set_option tactic.hygienic true in
theorem AF {h:Heap} {dx:Addr} {mA:Str->Option Value} (n:h.Ns1 dx mA):∃od,h.get? dx=some od/\∀name,PySem.W.lookIn name od=some (mA name):=by
 obtain⟨o,es,ep,ho,hd,hk,_,hm⟩:=n;refine⟨o,ho,λname=>?_⟩;have e:=hm name;unfold nsFind findBy at e;rw[<-Array.find?_toList] at e;unfold PySem.W.lookIn;rw[hd];dsimp only
 split
 ·rename_i y q
  rw[q] at e;exact congrArg some e
 ·rename_i q
  rw[q] at e;have a:es.toList.any (·.refKey)=false:=by
   rw[List.any_eq_false];intro y hy;obtain⟨z,t,OS⟩:=hk y (Array.mem_toList_iff.mp hy);simp [DictEntry.refKey,OS]
  have a':¬es.toList.any (·.refKey)=true:=by rw[a];exact Y4
  rw[if_neg a'];exact congrArg some e
theorem xM.look {h:Heap} {x dx C:Addr} {mA:Str->Option Value} (I:xM h x dx C mA):∃od,PySem.W.InstAt h x (PySem.W.instObj C dx) C (some od)/\∀name,PySem.W.lookIn name od=some (mA name):=
 let ⟨od,ho,hl⟩:=AF I.ns
 ⟨od,⟨I.obj,rfl,rfl,ho⟩,hl⟩
section
variable {prog : Program} {w : World} {A : Around} {E : Value -> Shared -> Prop} {s : Shared} {K : aam} {x dx C f : Addr} {mA : Str -> Option Value} {name : Str} {v : Value}
theorem get_map {expr:Bool} {Q:Value->Shared->Prop} (X:K.In s.heap) (I:xM s.heap x dx C mA) (hg:PySem.W.plainGet K C name=true) (hh:PySem.W.hasDictIn K C=true)
  (ha:aar K (.ref C) name=some none) (hv:mA name=some v) (IA:PySem.W.handedIn v=true) (h:Q v {s with toks:=s.toks+1}):
  wpAny (model prog w) A (getAttr (.ref x) name expr) Q E s:=by
 obtain⟨od,J,hl⟩:=I.look;exact PySem.W.get_value X J (PySem.W.plainGet_of hg).1 (PySem.W.findObj_own hh ha rfl (by rw[hl,hv])) IA h
theorem BU {pl:Sem Bool} {Q:Value×List Value->Shared->Prop} (X:K.In s.heap) (I:xM s.heap x dx C mA) (hg:PySem.W.plainGet K C name=true)
  (hf:aar K (.ref C) name=some (some (.ref f))) (ht:PySem.W.isFn K (.ref f)=true) (hv:mA name=none) (h:Q (.ref f,[.ref x]) s):
  wpAny (model prog w) A (getMethod (.ref x) name pl) Q E s:=by
 obtain⟨od,J,hl⟩:=I.look;exact PySem.W.method_fn X J (PySem.W.plainGet_of hg).1 (PySem.W.plainGet_of hg).2 hf (beq_iff_eq.mp ht) (by show(PySem.W.lookIn name od).map (·.isSome)=some false;rw[hl,hv];rfl) h
theorem Fl {ns:List Str} {Q:Unit->Shared->Prop} (X:K.In s.heap) (I:xM s.heap x dx C mA)
  (hs:aar K (.ref C) "__setattr__"=some (some (.builtin "object.__setattr__"))) (hp:PySem.W.plainOver K C=true) (ht:PySem.W.takerIn K C name=some none) (hh:PySem.W.hasDictIn K C=true)
  (hw:PySem.Within mA ns) (hsz:ns.length<=sizeLine)
  (h:∀h',xM h' x dx C (λy=>if y=name then some v else mA y)->Heap.SameBut dx s.heap h'->Q () {s with heap:=h',toks:=s.toks+2}):
  wpAny (model prog w) A (setAttr (.ref x) name v) Q E s:=by
 obtain⟨od,J,hl⟩:=I.look;refine PySem.W.set_plain X J hs (PySem.W.osa_open (s:={s with toks:=s.toks+1}) (r:=none) X J hp ht λb=>?_);obtain⟨cd,hc,Lj⟩:=PySem.W.any_some hh;have hx:s.heap.get? x=some ⟨.ref C,some dx,.plain,#[]⟩:=I.obj;refine wpAny_bind (wpAny_pure (wpAny_bind (wpAny_bind (wpAny_loadPart hx (wpAny_bind (PySem.W.Looks.here (s:={s with toks:=s.toks+1}) (PySem.W.looks_clsIn X hc) ?_))))));rw[Lj];refine wpAny_pure (a:=some dx) (wpAny_bind (wpAny_pure (wpAny_bind ?_)));refine wpAny_nsSet1 (s:={s with toks:=s.toks+1}) I.ns λh' NI EW=>?_;obtain⟨oD,XI,XJ,TH,TJ,TK⟩:=NI.count (PySem.Within.cons name v hw);refine wpAny_bind (wpAny_lookBehind TH (by rw[TJ];exact pastItsLine_dict (YY TK (by rw[YZ];lia))) ?_);exact wpAny_pure (h _ ⟨(EW.2 _ (Ne.symm I.ne)).trans I.obj,NI,I.ne⟩ EW)
theorem BV {R:Result->Shared->Prop} {vs:List Value} {kw:List (Str×Value)} (X:K.In s.heap) (hm:PySem.W.makesIn K C=true)
  (hi:aar K (.ref C) "__init__"=some (some (.ref f))) (hf:PySem.W.typeIn K (.ref f)=some (.type "function"))
  (h:codeAny (model prog w) (A.under (.builtin "type.__call__" ⟨.ref C::vs,kw⟩)) (.call (.ref f) ⟨.ref (s.heap.objs.size+1)::vs,kw⟩) (PySem.W.InitBack (s.heap.objs.size+1) R)
   {s with heap:=(s.heap.push PySem.W.emptyDict).push (PySem.W.instObj C s.heap.objs.size)}):
  codeAny (model prog w) A (.call (.ref C) ⟨vs,kw⟩) R s:=by
 obtain⟨hh,g,d,t,os⟩:=s;exact PySem.W.make_core (PySem.W.makes_of X hm) (PySem.W.looks_findIn X hi) (λself=>PySem.W.bind_fn X self hf) (.inl rfl) h
end
abbrev jD (f:Str) (v:V):List (Str×V)->List (Str×V)
 | []=>[(f,v)]
 | (g,x)::r=>if g=f then (g,v)::r else (g,x)::jD f v r
theorem mU (f g:Str) (v:V):∀fs:List (Str×V),(jD f v fs).lookup g=if g=f then some v else fs.lookup g
 | []=>by
  show List.lookup g [(f,v)]=_
  by_cases h:g=f
  ·have hb:(g==f)=true:=beq_iff_eq.mpr h;simp only[List.lookup,hb,if_pos h]
  ·have hb:(g==f)=false:=beq_eq_false_iff_ne.mpr h;simp only[List.lookup,hb,if_neg h]
 | (k,x)::r=>by
  have ih:=mU f g v r;rw[show jD f v ((k,x)::r)=(if k=f then (k,v)::r else (k,x)::jD f v r) from rfl]
  by_cases hk:k=f
  ·rw[if_pos hk]
   by_cases h:g=k
   ·have hb:(g==k)=true:=beq_iff_eq.mpr h;simp only[List.lookup,hb,if_pos (h.trans hk)]
   ·have hb:(g==k)=false:=beq_eq_false_iff_ne.mpr h;simp only[List.lookup,hb,if_neg (λe:g=f=>h (e.trans hk.symm))]
  ·rw[if_neg hk]
   by_cases h:g=k
   ·have hb:(g==k)=true:=beq_iff_eq.mpr h;simp only[List.lookup,hb,if_neg (λe:g=f=>hk (h.symm.trans e))]
   ·have hb:(g==k)=false:=beq_eq_false_iff_ne.mpr h;simp only[List.lookup,hb];exact ih
theorem ma (f:Str) (v:V):∀fs:List (Str×V),f∈(jD f v fs).map (·.1)/\∀g,g∈fs.map (·.1)->g∈(jD f v fs).map (·.1)
 | []=>⟨by simp [jD],λg h=>by simp at h⟩
 | (k,x)::r=>by
  obtain⟨i1,i2⟩:=ma f v r;rw[show jD f v ((k,x)::r)=(if k=f then (k,v)::r else (k,x)::jD f v r) from rfl]
  by_cases hk:k=f
  ·rw[if_pos hk];subst hk;exact⟨by simp,λg h=>by simpa using h⟩
  ·rw[if_neg hk];refine⟨?_,λg h=>?_⟩
   ·rw[Y8];exact YU _ i1
   ·rw[Y8] at h ⊢;rcases ZT.mp h with e | e
    ·exact ZT.mpr (.inl e)
    ·exact YU _ (i2 g e)
theorem mV (f:Str) (v:V):∀fs:List (Str×V),(jD f v fs).length<=fs.length+1
 | []=>by simp [jD]
 | (k,x)::r=>by
  have ih:=mV f v r;rw[show jD f v ((k,x)::r)=(if k=f then (k,v)::r else (k,x)::jD f v r) from rfl]
  by_cases hk:k=f
  ·rw[if_pos hk,YZ,YZ];lia
  ·rw[if_neg hk,YZ,YZ];lia
theorem jC.some_of {v:V} {o:Option Value} (r:jC (some v) o):∃u,o=some u/\RelV v u:=by
 cases o with
 | none=>exact(show False from r).elim
 | some u=>exact⟨u,rfl,r⟩
theorem jC.none_of {o:Option Value} (r:jC none o):o=none:=by
 cases o with
 | none=>rfl
 | some u=>exact(show False from r).elim
theorem AG {v:V} {u:Value} (r:RelV v u):PySem.W.handedIn u=true:=by
 cases v with
 | cJ=>cases (show u=Value.none from r);rfl
 | bl b=>cases (show u=Value.bool b from r);rfl
 | int i=>obtain⟨t,e⟩:=(show ∃t,u=Value.int i t from r);cases e;rfl
 | str x=>obtain⟨t,e⟩:=(show ∃t,u=Value.str x t from r);cases e;rfl
 | Bx b=>obtain⟨t,e⟩:=(show ∃t,u=Value.bytes b t from r);cases e;rfl
 | KD b=>obtain⟨t,e⟩:=(show ∃t,u=Value.float b t from r);cases e;rfl
 | ref a=>cases (show u=Value.ref a from r);rfl
 | ty n=>cases (show u=Value.type n from r);rfl
section
variable {P : Program} {w : World} {H H' : Hp} {h h' : Heap} {a C dx : Addr} {fs Tt : List (Str × V)}
theorem sY (cw:iJ P w H h) (e:H a=some (.ins C dx fs)):∃mA,xM h a dx C mA/\(∀f,jC (fs.lookup f) (mA f))/\PySem.Within mA (fs.map (·.1))/\fs.length<=1000/\H dx=some (.own a):=by
 obtain⟨d,z,ne,ob,mA,n,r,q⟩:=(show cX P w H h a (.ins C dx fs) from cw a _ e)
 exact⟨mA,⟨ob,n,ne⟩,r,q,z,d⟩
end
structure AH (K:aam) (C:Addr):Prop where
 pg:PySem.W.plainGet K C Str.empty=true
 hd:PySem.W.hasDictIn K C=true
 po:PySem.W.plainOver K C=true
 sa:aar K (.ref C) "__setattr__"=some (some (.builtin "object.__setattr__"))
theorem AH.get {K:aam} {C:Addr} (c:AH K C) (f:Str):PySem.W.plainGet K C f=true:=c.pg
abbrev md (K:aam) (C:Addr) (f:Str):Prop:=aar K (.ref C) f=some none
theorem md.Lr {K:aam} {C:Addr} {f:Str} (n:md K C f):PySem.W.takerIn K C f=some none:=by
 unfold PySem.W.takerIn;rw[show aar K (.ref C) f=some none from n];rfl
structure XM (K:aam) (C:Addr) (f:Str) (v:V) (u:Value):Prop where
 at_:aar K (.ref C) f=some (some u)
 rel:RelV v u
 get:PySem.W.specialIn K u "__get__"=some none
 cp:PySem.W.copiedNames.contains f=false
structure BW (K:aam) (C:Addr) (m:Str) (f:Addr):Prop where
 at_:aar K (.ref C) m=some (some (.ref f))
 fn:PySem.W.isFn K (.ref f)=true
 kp:aan K (.ref f)=true
section
variable {X : Cx} {pins : List (Addr × Obj)} {σ : St} {H : Hp} {s : Shared} {a C dx : Addr} {fs : List (Str × V)} {f : Str} {v : V} {A : Around} {E : Value -> Shared -> Prop}
theorem xN {b:Bool} {Q:Value->Shared->Prop} (I:Inv X pins σ H s) (e:H a=some (.ins C dx fs)) (c:AH X.K C) (n:md X.K C f) (l:fs.lookup f=some v)
  (h:∀u s',Inv X pins σ H s'->RelV v u->Q u s'):wpAny (model X.prog X.w) A (getAttr (.ref a) f b) Q E s:=by
 obtain⟨mA,O,r,_,_,_⟩:=sY I.cw e;obtain⟨u,hu,ru⟩:=jC.some_of (v:=v) (o:=mA f) (by rw[<-l];exact r f);exact get_map I.yS O (c.get f) c.hd n hu (AG ru) (h u _ (I.tok _) ru)
theorem o9 {m:Str} {g:Addr} {pl:Sem Bool} {Q:Value×List Value->Shared->Prop} (I:Inv X pins σ H s) (e:H a=some (.ins C dx fs)) (c:AH X.K C) (k:BW X.K C m g) (l:fs.lookup m=none)
  (h:Q (.ref g,[.ref a]) s):wpAny (model X.prog X.w) A (getMethod (.ref a) m pl) Q E s:=by
 obtain⟨mA,O,r,_,_,_⟩:=sY I.cw e;have hn:mA m=none:=jC.none_of (by rw[<-l];exact r m);exact BU I.yS O (c.get m) k.at_ k.fn hn h
theorem xO {y:V} {u:Value} {Q:Unit->Shared->Prop} (I:Inv X pins σ H s) (e:H a=some (.ins C dx fs)) (c:AH X.K C) (n:md X.K C f) (hl:fs.length<1000) (ry:RelV y u)
  (h:∀s',Inv X pins σ (upd H a (.ins C dx (jD f y fs))) s'->Q () s'):wpAny (model X.prog X.w) A (setAttr (.ref a) f u) Q E s:=by
 obtain⟨mA,O,r,wi,_,ho⟩:=sY I.cw e;have hz:(fs.map (·.1)).length<=sizeLine:=by rw[YL,sizeLine_eq];lia
 refine Fl I.yS O c.sa c.po n.Lr c.hd wi hz λh' O' sb=>h _ ?_;have hd:∃o,h'.get? dx=some o:=let ⟨o,_,_,e',_⟩:=O'.ns;⟨o,e'⟩;refine I.write (x:=a) (e:=dx) (by rw[e];exact True.intro) (.inr ho) (λb q hb z=>(sb.2 b hb).trans z) hd ?_;refine⟨by rw[aK O.ne];exact ho,?_,O.ne,O'.obj,_,O'.ns,λg=>?_,λg hg=>?_⟩
 ·have:=mV f y fs;lia
 ·show jC ((jD f y fs).lookup g) (if g=f then some u else mA g);rw[mU]
  by_cases q:g=f
  ·rw[if_pos q,if_pos q];exact ry
  ·rw[if_neg q,if_neg q];exact r g
 ·by_cases q:g=f
  ·rw[q];exact(ma f y fs).1
  ·refine(ma f y fs).2 g (wi g λz=>hg ?_);show(if g=f then some u else mA g)=none;rw[if_neg q];exact z
theorem Inv.made (I:Inv X pins σ H s):Inv X pins σ (upd (upd H s.heap.objs.size (.own (s.heap.objs.size+1))) (s.heap.objs.size+1) (.ins C s.heap.objs.size []))
  {s with heap:=(s.heap.push PySem.W.emptyDict).push (PySem.W.instObj C s.heap.objs.size)}:=by
 have e1:(s.heap.push PySem.W.emptyDict).get? s.heap.objs.size=some PySem.W.emptyDict:=aax s.heap rfl;have e2:((s.heap.push PySem.W.emptyDict).push (PySem.W.instObj C s.heap.objs.size)).get? (s.heap.objs.size+1)=some (PySem.W.instObj C s.heap.objs.size):=by
  have:=aax (s.heap.push PySem.W.emptyDict) (o:=PySem.W.instObj C s.heap.objs.size) rfl
  rwa [Heap.size_push] at this
 have e3:(s.heap.push PySem.W.emptyDict).Ns s.heap.objs.size (λ_=>none):=⟨PySem.W.emptyDict,#[],_,e1,rfl,(λe he=>absurd he (by simp)),λ_=>rfl⟩
 have I1:=I.laid (a:=s.heap.objs.size) (o:=.own (s.heap.objs.size+1)) (h':=s.heap.push PySem.W.emptyDict) (t':=s.toks) (λb u q=>aaw _ q) (YR _) ⟨_,e1⟩;refine I1.laid (a:=s.heap.objs.size+1) (o:=.ins C s.heap.objs.size []) (t':=s.toks) (λb u q=>aaw _ q) (Nat.le_of_eq (Heap.size_push _ _)) ?_;have ne:s.heap.objs.size≠s.heap.objs.size+1:=YW (Zl _);refine⟨by rw[aK ne,ag],Y1 _,ne,e2,λ_=>none,(Heap.Ns1.of_empty e3).at λo q=>aaw _ q,λ_=>True.intro,λy hy=>absurd rfl hy⟩
theorem Fn {prog:Program} {w:World} {env:Env} {e:Expr} {f:Str} {pos:Pos} {s:Shared} {Q:Value->Shared->Prop} (hb:attributeBase e f env (eval e env)=eval e env)
  (h:wpAny (model prog w) A (eval e env) (λo s₁=>wpAny (model prog w) A (getAttr o f true) Q E s₁) E s):wpAny (model prog w) A (eval (.Attribute e f pos) env) Q E s:=
 Attribute_any_ h (by rw[arm_eval_Attribute,hb])
end
abbrev iR (K:aam) (ta:TE) (f:Str):TE:=λσ H Q=>ta σ H λx H1=>∃a C dx fs v,x=.ref a/\H1 a=some (.ins C dx fs)/\AH K C/\md K C f/\fs.lookup f=some v/\Q v H1
abbrev Lu (K:aam) (ta tv:TE) (f:Str):TS:=λD σ H=>tv σ H λy H1=>ta σ H1 λx H2=>∃a C dx fs,x=.ref a/\H2 a=some (.ins C dx fs)/\AH K C/\md K C f/\fs.length<1000/\
 D.nx σ (upd H2 a (.ins C dx (jD f y fs)))
section
variable {X : Cx} {o e value : Expr} {f : Str} {pos pos' jV : Pos} {ta tv : TE}
theorem dN (he:PE X e ta) (hb:attributeBase e f X.env (eval e X.env)=eval e X.env):PE X (.Attribute e f pos) (iR X.K ta f):=by
 intro pins s σ H Q I h;refine Fn hb (cO (he pins s σ H _ I h) λu s1 dB=>?_);obtain⟨x,H1,I1,rx,a,C,dx,fs,v,ex,ea,c,n,l,q⟩:=dB;subst ex;obtain rfl:u=Value.ref a:=rx;exact xN I1 ea c n l λu' s2 I2 ru=>⟨v,H1,I2,ru,q⟩
theorem BX (ha:PE X o ta) (hv:PE X value tv) (hs:swapsWith value (some (.Attribute o f pos')) pos.line X.env=pure false):PS X (.Assign [.Attribute o f pos'] value pos) (Lu X.K ta tv f):=by
 intro pins s σ H D I h;refine plainObj_wpAny_Assign_Attribute (cO (hv pins s σ H _ I h) λu s1 ⟨y,H1,I1,ry,q⟩=>cO (ha pins s1 σ H1 _ I1 q) λov s2 dB=>?_) hs;obtain⟨x,H2,I2,rx,a,C,dx,fs,ex,ea,c,n,l,q2⟩:=dB;subst ex;obtain rfl:ov=Value.ref a:=rx;exact xO I2 ea c n l ry λs3 I3=>⟨σ,_,I3,q2⟩
end
section
variable {X : Cx} {pins : List (Addr × Obj)} {σ : St} {H : Hp} {s : Shared} {A : Around} {E : Value -> Shared -> Prop} {Q : Value -> Shared -> Prop} {c : Value} {b : Bool}
inductive pb (K:aam) (H:Hp):V->Value->Prop where
 | cJ:pb K H .cJ (.type "NoneType")
 | bl (x:Bool):pb K H (.bl x) (.type "bool")
 | int (i:Int):pb K H (.int i) (.type "int")
 | str (x:Str):pb K H (.str x) (.type "str")
 | KD (x:UInt64):pb K H (.KD x) (.type "float")
 | lst {a:Addr} {xs:List V} (e:H a=some (.lst xs)):pb K H (.ref a) (.type "list")
 | xn {a:Addr} {o:Obj} {xs:List V} (e:H a=some (.xn o (.lst xs))):pb K H (.ref a) (.type "list")
 | tup {a:Addr} {xs:List V} (e:H a=some (.tup xs)):pb K H (.ref a) (.type "tuple")
 | dK {a:Addr} {kvs:List (Key×V)} (e:H a=some (.dK kvs)):pb K H (.ref a) (.type "dict")
 | dT {a:Addr} {kvs:List (List Key×V)} (e:H a=some (.dT kvs)):pb K H (.ref a) (.type "dict")
 | ins {a C dx:Addr} {fs:List (Str×V)} (e:H a=some (.ins C dx fs)) (cl:AH K C) (ha:aar K (.ref C) "__class__"=some (some (.builtin "object.__class__")))
   (hn:PySem.W.specialIn K (.builtin "object.__class__") "__get__"=some (some (.builtin "getset_descriptor.__get__"))) (XN:PySem.W.takesIn K (.builtin "object.__class__")=some true)
   (hm:PySem.W.mroIn K C (.type "object")=some true):pb K H (.ref a) (.ref C)
end
end L2
namespace L2
open PySem PySem.Spec PyProof.Rows
structure dZ (k:Nat) (A:Around):Prop where
 hd:A.handled=none
 dp:A.depth+3*k+5<recursionLimit
 un:A.units+16*k+200<cLine
theorem dZ.mono {j k:Nat} {A:Around} (r:dZ k A) (h:j<=k):dZ j A:=⟨r.hd,by have:=r.dp;lia,by have:=r.un;lia⟩
theorem dZ.deeper {k:Nat} {A:Around} (r:dZ (k+1) A) (env:Env):dZ k (A.deeper env):=
 ⟨r.hd,by have:=r.dp;show A.depth+1+3*k+5<_;lia,by have:=r.un;show A.units+3+16*k+200<_;lia⟩
theorem xP {A:Around} {C:Addr} {us:List Value} {kw:List (Str×Value)}:(A.under (.builtin "type.__call__" ⟨.ref C::us,kw⟩)).depth=A.depth+1:=by
 first | rfl | simp [Around.under,Code.weight,Code.isCreation,Code.isGuard,Code.isCaller,Code.frames,Code.isFrame,guardIds]
theorem xQ {A:Around} {C:Addr} {us:List Value} {kw:List (Str×Value)}:(A.under (.builtin "type.__call__" ⟨.ref C::us,kw⟩)).units=A.units+1:=by
 first | rfl | simp [Around.under,Code.cUnits,Code.frames,Code.isFrame]
theorem dZ.make {k:Nat} {A:Around} (r:dZ (k+1) A) (C:Addr) (us:List Value) (kw:List (Str×Value)):dZ k (A.under (.builtin "type.__call__" ⟨.ref C::us,kw⟩)):=
 ⟨r.hd,by have:=r.dp;rw[xP];lia,by have:=r.un;rw[xQ];lia⟩
theorem dZ.depth {k:Nat} {A:Around} (r:dZ k A):A.depth<recursionLimit:=by have:=r.dp;lia
theorem dZ.units {k:Nat} {A:Around} (r:dZ k A):A.units+64<cLine:=by have:=r.un;lia
abbrev tNil:TA:=λ_ H Q=>Q [] H
abbrev tCons (ta:TE) (tr:TA):TA:=λσ H Q=>ta σ H λx H1=>tr σ H1 λxs H2=>Q (x::xs) H2
section
variable {X : Cx} {e : Expr} {es : List Expr} {te : TE} {t : TA} {pos : Pos}
theorem ae:PA X [] tNil:=λ_ _ _ _ H Q I h=>Calls.spliced_nil ⟨[],H,I,.nil,h⟩
theorem aa (ha:PE X e te) (hr:PA X es t) (hs:starEach (e::es) X.env=(false,eval e X.env)::starEach es X.env:=by injections):PA X (e::es) (tCons te t):=by
 intro pos pins s σ H Q I h;rw[hs];show wpAny _ _ (spliced ((false,eval e X.env)::backTo pos (starEach es X.env))) _ _ s;refine Calls.spliced_cons (cO (ha pins s σ H _ I h) λu s1 dB=>?_);obtain⟨x,H1,I1,r1,q1⟩:=dB;exact cO (hr pos pins s1 σ H1 _ I1 q1) λus s2 ⟨xs,H2,I2,r2,q2⟩=>⟨x::xs,H2,I2,.cons r1 r2,q2⟩
abbrev tLst (t:TA):TE:=λσ H Q=>t σ H λxs H1=>xs.length<=sizeLine/\∀p,H1 p=none->Q (.ref p) (upd H1 p (.lst xs))
theorem cY (h:PA X es t):PE X (.List es pos) (tLst t):=by
 intro pins s σ H Q I hq;refine wpAny_List_spliced (cO (h pos pins s σ H _ I hq) λus s1 ⟨xs,H1,I1,r,z,q⟩=>⟨by rw[<-r.length];exact z,?_⟩);have hf:H1 s1.heap.objs.size=none:=I1.cw.fresh (YR _);refine⟨.ref s1.heap.objs.size,upd H1 s1.heap.objs.size (.lst xs),I1.laid (t':=s1.toks) (λb u e=>aaw _ e) (YR _) ?_,rfl,q _ hf⟩;exact⟨z,us,0,r,aax _ rfl⟩
end
@[inline]abbrev Sp:=List V->Hp->VK->XK->Prop
@[inline]abbrev me:=List Env->Hp->Shared->XK->Value->Shared->Prop
structure xR (P:Program) (w:World) (K:aam) (mg:Str->Option Value) (base:Heap) (A:Around) (outer:List Env) (s:Shared) (H:Hp):Prop where
 frames:A.frames=some outer
 mod:Mod K mg base
 bs:∀b o,base.get? b=some o->s.heap.get? b=some o/\H b=none
 BI:base.objs.size<=s.heap.objs.size
 lY:s.heap.FunFrames base outer
 GX:∀b∈uY outer,H b=none
 cw:iJ P w H s.heap
 bare:AllBare s.gens
abbrev CE (outer:List Env) (P:Program) (w:World) (H:Hp) (s:Shared) (Q:VK) (u:Value) (s':Shared):Prop:=
 ∃v H',s'.os=s.os/\AllBare s'.gens/\Un (uY outer) [] H H' s.heap s'.heap/\iJ P w H' s'.heap/\RelV v u/\Q v H'
abbrev CR (CX:me) (outer:List Env) (P:Program) (w:World) (H:Hp) (s:Shared) (Q:VK) (E:XK) (r:Result) (s':Shared):Prop:=
 match r with
 | .ok (.ret u)=>CE outer P w H s Q u s'
 | .ok _=>False
 | .error e=>CX outer H s E e s'
structure fz (P:Program) (w:World) (K:aam) (mg:Str->Option Value) (base:Heap) (CX:me) (k:Nat) (f:Addr) (fd:FuncData) (ps:List Str) (sp:Sp):Prop where
 len:∀vs H Q E,sp vs H Q E->vs.length=ps.length
 run:∀(A:Around) (outer:List Env) (s:Shared) (H:Hp) (args:Args) (us:List Value) (vs:List V) (Q:VK) (E:XK),dZ k A->xR P w K mg base A outer s H->BindsTo s fd args (ps.zip us)->br vs us->sp vs H Q E->
  codeAny (model P w) A (.call (.ref f) args) (CR CX outer P w H s Q E) s
theorem fz.mono {P:Program} {w:World} {K:aam} {mg:Str->Option Value} {base:Heap} {CX:me} {j k:Nat} {f:Addr} {fd:FuncData} {ps:List Str} {sp:Sp} (F:fz P w K mg base CX j f fd ps sp) (h:j<=k):
  fz P w K mg base CX k f fd ps sp:=⟨F.len,λA outer s H args us vs Q E hr=>F.run A outer s H args us vs Q E (hr.mono h)⟩
theorem xR.make {P:Program} {w:World} {K:aam} {mg:Str->Option Value} {base:Heap} {A:Around} {outer:List Env} {s:Shared} {H:Hp} (e:xR P w K mg base A outer s H) (C:Addr) (us:List Value) (kw:List (Str×Value)):
  xR P w K mg base (A.under (.builtin "type.__call__" ⟨.ref C::us,kw⟩)) outer s H:=⟨by first | exact e.frames | (simpa [Around.under,Code.envs,Code.isFrame,pushEnvs] using e.frames),e.mod,e.bs,e.BI,e.lY,e.GX,e.cw,e.bare⟩
section
variable {X : Cx} {pins : List (Addr × Obj)} {σ : St} {H : Hp} {s s' : Shared}
theorem Inv.Lx (I:Inv X pins σ H s):xR X.prog X.w X.K X.mg X.base X.A X.stack s H:=
 ⟨I.ok.frames,I.ok.mod,I.bs,YY I.ok.BI I.sz,I.stack,I.yT,I.cw,I.bare⟩
theorem Inv.after {Q:VK} {u:Value} (I:Inv X pins σ H s) (h:CE X.stack X.prog X.w H s Q u s'):EP X pins σ Q u s':=by
 obtain⟨v,H',os,bare,un,cw,r,q⟩:=h;obtain⟨hh,g,d,t,BY⟩:=s';obtain rfl:BY=s.os:=os;exact⟨v,H',I.call (h':=hh) (g':=g) (d':=d) (t':=t) (ch:=[]) un cw bare (λb z=>absurd z (by simp)),r,q⟩
end
abbrev tCall (sp:Sp) (qL:List V) (E:XK) (t:TA):TE:=λσ H Q=>t σ H λvs H1=>sp (vs++qL) H1 Q E
abbrev kO (C:Addr) (m:Str) (sp:Sp) (qL:List V) (E:XK) (ta:TE) (t:TA):TE:=λσ H Q=>ta σ H λx H1=>∃a dx fs,x=.ref a/\H1 a=some (.ins C dx fs)/\fs.lookup m=none/\
 t σ H1 λvs H2=>sp (x::(vs++qL)) H2 Q E
abbrev rF (C:Addr) (sp:Sp) (qL:List V) (E:XK) (t:TA):TE:=λσ H Q=>t σ H λvs H1=>∀x dx,H1 x=none->H1 dx=none->dx≠x->
 sp (.ref x::(vs++qL)) (upd (upd H1 dx (.own x)) x (.ins C dx [])) (λv H2=>v=.cJ/\Q (.ref x) H2) E
abbrev Binds (K:aam) (fd:FuncData) (ps:List Str) (ds:List Value):Prop:=
 ∀(s:Shared) (us:List Value),K.In s.heap->(us++ds).length=ps.length->BindsTo s fd ⟨us,[]⟩ (ps.zip (us++ds))
theorem Binds.all {K:aam} {fd:FuncData} {ps:List Str} (h:∀us:List Value,us.length=ps.length->bindArgs fd ⟨us,[]⟩=pure (ps.zip us)):Binds K fd ps []:=λs us _ hl=>by
 rw[ZD] at hl ⊢;exact .of_eq (h us hl)
abbrev fJ (CX:me) (X:Cx) (E:XK):Prop:=∀(pins:List (Addr×Obj)) (σ:St) (H:Hp) (s:Shared) (e:Value) (s':Shared),Inv X pins σ H s->CX X.stack H s E e s'->X.xe e s'
section
variable {X : Cx} {CX : me} {k : Nat} {f C : Addr} {fd : FuncData} {ps : List Str} {sp : Sp} {qL : List V} {ds : List Value} {E : XK} {x m : Str} {p pos apos : Pos} {e o : Expr} {es : List Expr} {ta : TE} {t : TA}
theorem xS {pins:List (Addr×Obj)} {σ:St} {H:Hp} {s:Shared} {Q:VK} {us:List Value} {vs:List V} (F:fz X.prog X.w X.K X.mg X.base CX k f fd ps sp) (hr:dZ k X.A) (hb:Binds X.K fd ps ds) (hd:br qL ds) (hx:fJ CX X E)
  (I:Inv X pins σ H s) (r:br vs us) (h:sp (vs++qL) H Q E):wpAny (model X.prog X.w) X.A (call (.ref f) us) (EP X pins σ Q) X.xe s:=by
 have r2:br (vs++qL) (us++ds):=r.append hd;have hl:(us++ds).length=ps.length:=by rw[<-r2.length];exact F.len _ _ _ _ h
 refine wpAny_call (codeAny_mono (F.run X.A X.stack s H ⟨us,[]⟩ (us++ds) (vs++qL) Q E hr I.Lx (hb s us I.yS hl) r2 h) λr s' hq=>?_);cases r with
 | error e=>exact hx pins σ H s e s' I hq
 | ok fl=>
  cases fl with
  | ret u=>exact I.after hq
  | next=>exact False.elim hq
  | brk=>exact False.elim hq
  | cont=>exact False.elim hq
theorem Fo (F:fz X.prog X.w X.K X.mg X.base CX k f fd ps sp) (hr:dZ k X.A) (hg:Gl X x) (hm:X.mg x=some (.ref f)) (hk:aan X.K (.ref f)=true) (hb:Binds X.K fd ps ds) (hd:br qL ds) (hx:fJ CX X E)
  (ha:PA X (e::es) t) (BZ:(x==("__debug__":Str))=false:=by decide) (he:starEach (e::es) X.env=(false,eval e X.env)::starEach es X.env:=by injections) (hpl:(backTo pos (starEach es X.env)).any (·.1)=false:=by injections):
  PE X (.Call (.Name x p) (e::es) [] pos) (tCall sp qL E t):=by
 intro pins s σ H Q I h;refine wpAny_Call_Name_kw (sT I hg hm ?_ BZ);refine PySem.W.callWith_K (h₀:=X.base) I.ok.mod.Li hk (cO (ha pos pins s σ H _ I h) λus s1 ⟨vs,H1,I1,r,q⟩=>⟨I1.yS,?_⟩) he hpl;exact xS F hr hb hd hx I1 r q
theorem Fp {pl:Sem Bool} (he:PE X o ta) (c:AH X.K C) (hm:BW X.K C m f) (F:fz X.prog X.w X.K X.mg X.base CX k f fd ps sp) (hr:dZ k X.A) (hb:Binds X.K fd ps ds) (hd:br qL ds) (hx:fJ CX X E) (ha:PA X (e::es) t)
  (hst:starEach (e::es) X.env=(false,eval e X.env)::starEach es X.env:=by injections) (hpl:(backTo pos (starEach es X.env)).any (·.1)=false:=by injections)
  (ht:eval (.Call (.Attribute o m apos) (e::es) [] pos) X.env=(do
   let ov <-eval o X.env
   standAt apos.atName
   let (f,first) <-holding [ov] (getMethod ov m pl)
   callWith pos f first (backTo pos (starEach (e::es) X.env)) (backToKw pos (keywordEach [] X.env))):=by rfl):
  PE X (.Call (.Attribute o m apos) (e::es) [] pos) (kO C m sp qL E ta t):=by
 intro pins s σ H Q I h;refine PySem.W.methodCall_KW (pl:=pl) (cO (he pins s σ H _ I h) λu s1 dB=>?_) ht;obtain⟨x,H1,I1,rx,a,dx,fs,ex,ea,l,q⟩:=dB;subst ex;obtain rfl:u=Value.ref a:=rx;refine o9 I1 ea c hm l ?_;refine PySem.W.callWith_K (first:=[.ref a]) (h₀:=X.base) I.ok.mod.Li hm.kp (cO (ha pos pins s1 σ H1 _ I1 q) λus s2 ⟨vs,H2,I2,r,q2⟩=>⟨I2.yS,?_⟩) hst hpl;exact xS (us:=.ref a::us) (vs:=.ref a::vs) F hr hb hd hx I2 (.cons rfl r) q2
theorem B1 {pl:Sem Bool} (he:PE X o ta) (c:AH X.K C) (hm:BW X.K C m f) (F:fz X.prog X.w X.K X.mg X.base CX k f fd ps sp) (hr:dZ k X.A) (hb:Binds X.K fd ps ds) (hd:br qL ds) (hx:fJ CX X E)
  (ht:eval (.Call (.Attribute o m apos) [] [] pos) X.env=(do
   let ov <-eval o X.env
   standAt apos.atName
   let (f,first) <-holding [ov] (getMethod ov m pl)
   callWith pos f first (backTo pos (starEach [] X.env)) (backToKw pos (keywordEach [] X.env))):=by rfl):
  PE X (.Call (.Attribute o m apos) [] [] pos) (kO C m sp qL E ta tNil):=by
 intro pins s σ H Q I h;refine PySem.W.methodCall_KW (pl:=pl) (cO (he pins s σ H _ I h) λu s1 dB=>?_) ht;obtain⟨x,H1,I1,rx,a,dx,fs,ex,ea,l,q⟩:=dB;subst ex;obtain rfl:u=Value.ref a:=rx;refine o9 I1 ea c hm l ?_;exact PySem.W.callWith_K0 (first:=[.ref a]) I1.yS hm.kp (xS (us:=[.ref a]) (vs:=[.ref a]) F hr hb hd hx I1 (.cons rfl .nil) q)
structure Mk (K:aam) (C f:Addr):Prop where
 makes:PySem.W.makesIn K C=true
 init:aar K (.ref C) "__init__"=some (some (.ref f))
 fn:PySem.W.isFn K (.ref f)=true
 kp:aan K (.ref C)=true
theorem B2 {pins:List (Addr×Obj)} {σ:St} {H:Hp} {s:Shared} {Q:VK} {us:List Value} {vs:List V} (M:Mk X.K C f) (F:fz X.prog X.w X.K X.mg X.base CX k f fd ps sp) (hr:dZ (k+1) X.A) (hb:Binds X.K fd ps ds) (hd:br qL ds)
  (hx:fJ CX X E) (I:Inv X pins σ H s) (r:br vs us)
  (h:∀x dx,H x=none->H dx=none->dx≠x->sp (.ref x::(vs++qL)) (upd (upd H dx (.own x)) x (.ins C dx [])) (λv H2=>v=.cJ/\Q (.ref x) H2) E):
  wpAny (model X.prog X.w) X.A (call (.ref C) us) (EP X pins σ Q) X.xe s:=by
 have hq:=h (s.heap.objs.size+1) s.heap.objs.size (I.cw.fresh (Nat.le_succ _)) (I.cw.fresh (YR _)) (YW (Zl _));have I2:=Inv.made (C:=C) I;have r2:br (V.ref (s.heap.objs.size+1)::(vs++qL)) (Value.ref (s.heap.objs.size+1)::(us++ds)):=.cons rfl (r.append hd);have hl:(Value.ref (s.heap.objs.size+1)::us++ds).length=ps.length:=by
  have e:=r2.length;rw[F.len _ _ _ _ hq] at e;exact e.symm
 refine wpAny_call (BV (f:=f) I.yS M.makes M.init (beq_iff_eq.mp M.fn) (codeAny_mono (F.run _ X.stack _ _ ⟨Value.ref (s.heap.objs.size+1)::us,[]⟩ (Value.ref (s.heap.objs.size+1)::(us++ds)) _ _ E (hr.make C us [])
  (I2.Lx.make C us []) (hb _ (Value.ref (s.heap.objs.size+1)::us) I2.yS hl) r2 hq) λr s' Ly=>?_))
 cases r with
 | error e=>exact hx pins σ _ _ e s' I2 Ly
 | ok fl=>
  cases fl with
  | ret u=>
   obtain⟨v,H',I3,rv,ev,q3⟩:=I2.after Ly;subst ev;exact⟨rv,⟨V.ref (s.heap.objs.size+1),H',I3,rfl,q3⟩⟩
  | next=>exact False.elim Ly
  | brk=>exact False.elim Ly
  | cont=>exact False.elim Ly
theorem Fq (M:Mk X.K C f) (F:fz X.prog X.w X.K X.mg X.base CX k f fd ps sp) (hr:dZ (k+1) X.A) (hg:Gl X x) (hm:X.mg x=some (.ref C)) (hb:Binds X.K fd ps ds) (hd:br qL ds) (hx:fJ CX X E)
  (ha:PA X (e::es) t) (BZ:(x==("__debug__":Str))=false:=by decide) (he:starEach (e::es) X.env=(false,eval e X.env)::starEach es X.env:=by injections) (hpl:(backTo pos (starEach es X.env)).any (·.1)=false:=by injections):
  PE X (.Call (.Name x p) (e::es) [] pos) (rF C sp qL E t):=by
 intro pins s σ H Q I h;refine wpAny_Call_Name_kw (sT I hg hm ?_ BZ);refine PySem.W.callWith_K (h₀:=X.base) I.ok.mod.Li M.kp (cO (ha pos pins s σ H _ I h) λus s1 ⟨vs,H1,I1,r,q⟩=>⟨I1.yS,?_⟩) he hpl;exact B2 M F hr hb hd hx I1 r q
end
section
variable {X : Cx} {CX : me} {k : Nat} {f C : Addr} {fd : FuncData} {ps ks : List Str} {sp : Sp} {E : XK} {x m : Str} {p pos apos TL : Pos} {e o : Expr} {es : List Expr} {XO : List Keyword} {te ta : TE} {t tk : TA} {nm : Option Str}
structure OT (K:aam) (fd:FuncData) (ps ks:List Str) (g:List Value->List Value->List Value) (gV:List V->List V->List V):Prop where
 to:∀(s:Shared) (us ws:List Value),K.In s.heap->(g us ws).length=ps.length->BindsTo s fd ⟨us,ks.zip ws⟩ (ps.zip (g us ws))
 rel:∀{vs:List V} {us:List Value} {zs:List V} {ws:List Value},br vs us->br zs ws->br (gV vs zs) (g us ws)
variable {g : List Value -> List Value -> List Value} {gV : List V -> List V -> List V}
end
structure aN (N P:List Str) (sc:Scope):Prop where
 kind:sc.kind=.function
 co:sc.isCoroutine=false
 gen:sc.isGenerator=false
 nd:N.Nodup
 pre:N.take P.length=P
 par:∀x∈P,sc.names.lookup x=some .local\/sc.names.lookup x=some .cell
 IB:∀y∈sc.names,y.2≠.free
theorem rG {kindOf:Str->Option NameKind} {x:Str}:∀{binds:List (Str×Value)} {m:Str->Option Value},(∀v,(x,v)∉binds)->bindL kindOf binds m x=m x
 | [],_,_=>rfl
 | (n,v)::r,m,h=>by
  unfold bindL;rw[rG λw hw=>h w (YU _ hw)]
  split
  ·have:x≠n:=by rintro rfl;exact h v YT
   simp [this]
  ·rfl
theorem rH {kindOf:Str->Option NameKind} {x:Str}:∀{binds:List (Str×Value)} {m:Str->Option Value},(∀v,(x,v)∉binds)->bindC kindOf binds m x=m x
 | [],_,_=>rfl
 | (n,v)::r,m,h=>by
  unfold bindC;rw[rH λw hw=>h w (YU _ hw)]
  split
  ·rfl
  ·have:x≠n:=by rintro rfl;exact h v YT
   simp [this]
theorem rJ {kindOf:Str->Option NameKind} {x:Str} {v:Value}:∀{P:List Str} {vs:List Value} {i:Nat} {m:Str->Option Value},P.Nodup->P[i]?=some x->vs[i]?=some v->kindOf x=some .local->
  bindL kindOf (P.zip vs) m x=some v
 | [],_,_,_,_,h,_,_=>by simp at h
 | _::_,[],_,_,_,_,h,_=>by simp at h
 | p::P,w::vs,0,m,nd,h1,h2,hk=>by
  simp at h1 h2;subst h1;subst h2;show bindL kindOf ((p,w)::P.zip vs) m p=_;unfold bindL;rw[rG λv hv=>(List.nodup_cons.mp nd).1 (List.of_mem_zip hv).1,if_pos hk];simp
 | p::P,w::vs,i+1,m,nd,h1,h2,hk=>by
  show bindL kindOf ((p,w)::P.zip vs) m x=_;unfold bindL;exact rJ (i:=i) (List.nodup_cons.mp nd).2 (by simpa using h1) (by simpa using h2) hk
theorem rK {kindOf:Str->Option NameKind} {x:Str} {v:Value}:∀{P:List Str} {vs:List Value} {i:Nat} {m:Str->Option Value},P.Nodup->P[i]?=some x->vs[i]?=some v->kindOf x≠some .local->
  bindC kindOf (P.zip vs) m x=some v
 | [],_,_,_,_,h,_,_=>by simp at h
 | _::_,[],_,_,_,_,h,_=>by simp at h
 | p::P,w::vs,0,m,nd,h1,h2,hk=>by
  simp at h1 h2;subst h1;subst h2;show bindC kindOf ((p,w)::P.zip vs) m p=_;unfold bindC;rw[rH λv hv=>(List.nodup_cons.mp nd).1 (List.of_mem_zip hv).1,if_neg hk];simp
 | p::P,w::vs,i+1,m,nd,h1,h2,hk=>by
  show bindC kindOf ((p,w)::P.zip vs) m x=_;unfold bindC;exact rK (i:=i) (List.nodup_cons.mp nd).2 (by simpa using h1) (by simpa using h2) hk
abbrev start (N:List Str) (vs:List V):St:=vs.map some++aaz (N.length - vs.length) none
abbrev xT (CX:me) (P:Program) (w:World) (K:aam) (mg:Str->Option Value) (base:Heap) (N:List Str) (qual:Str) (scope:Scope) (f:Addr) (cd:Value) (A:Around) (outer:List Env) (s:Shared) (H:Hp) (E:XK):Cx where
 prog:=P
 w:=w
 K:=K
 mg:=mg
 base:=base
 A:=A.deeper (envOfC qual scope s.heap.objs.size f cd)
 N:=N
 s₀:=s
 H₀:=H
 env:=envOfC qual scope s.heap.objs.size f cd
 outer:=outer
 stack:=envOfC qual scope s.heap.objs.size f cd::outer
 ex:=[]
 calm:=true
 fn:=λ_=>true
 pn:=[]
 xe:=λe s'=>wpAny (model P w) (A.deeper (envOfC qual scope s.heap.objs.size f cd)) (leaving (envOfC qual scope s.heap.objs.size f cd) e) (λ_ IC=>CX outer H s E e IC) (λe' IC=>CX outer H s E e' IC) s'
theorem u7 {sc:Scope} {n:Nat} {x:Str} (h:sc.names.lookup x=some .cell):∃c,(cellsFrom n sc.names []).lookup x=some c:=by
 have q:=PySem.W.cellsFrom_some sc.names n [] (.inl h);exact Option.isSome_iff_exists.mp q
theorem AI {CX:me} {P:Program} {w:World} {K:aam} {mg:Str->Option Value} {base:Heap} {N ps:List Str} {qual:Str} {scope:Scope} {f:Addr} {cd:Value} {A:Around} {outer:List Env} {s s1:Shared} {H:Hp} {E:XK} {us:List Value} {vs:List V}
  (S:aN N ps scope) (hd:A.handled=none) (e0:xR P w K mg base A outer s H) (hl:vs.length=ps.length) (r:br vs us)
  (x:InCallC s s.heap.objs.size (bindL (envOfC qual scope s.heap.objs.size f cd).kindOf (ps.zip us) λ_=>none) (cellsFrom (s.heap.objs.size+1) scope.names []) (bindC (envOfC qual scope s.heap.objs.size f cd).kindOf (ps.zip us) λ_=>none) s1):
  Inv (xT CX P w K mg base N qual scope f cd A outer s H E) [] (start N vs) H s1:=by
 have hpl:ps.length<=N.length:=by have:=congrArg List.length S.pre;rw[Zf] at this;lia
 obtain⟨h1,tk,rfl,hk⟩:=x.done;have Lz:∀b:Addr,b∉(xT CX P w K mg base N qual scope f cd A outer s H E).ex:=λb z=>absurd (show b∈([]:List Addr) from z) (by simp);refine⟨⟨e0.mod,S.kind,rfl,rfl,YR _,λy z c h1 h2=>?_,λy hy=>?_,λy c _ h=>?_,λ_=>hd,Around.frames_deeper e0.frames,.inr ⟨rfl,rfl⟩,λb z=>absurd z (Lz b),e0.bs,e0.BI,λb _ _=>Lz b,λb z=>absurd z (Lz b),e0.lY,e0.GX⟩,
  rfl,e0.bare,Un.kept hk,⟨_,x.toInCall.ns,λi y v h1 h2 h3=>?_⟩,λy c h=>⟨_,x.cell y c h⟩,e0.cw.fresh (YR _),λy c h=>?_,λp hp=>absurd (show p∈([]:List (Addr×Obj)) from hp) (by simp),e0.cw.kept hk,?_⟩
 ·exact name_of_addr x.apart (ZS h1) (ZS h2)
 ·have hy:scope.names.lookup y=some .cell\/scope.names.lookup y=some .free:=hy;rcases hy with hy | hy
  ·exact u7 hy
  ·exact absurd rfl (S.IB _ (ZS hy))
 ·exact Nat.le_of_lt (x.above y c (ZS h))
 ·have hi:i<vs.length:=by
   unfold start at h2
   by_cases hi:i<vs.length
   ·exact hi
   ·rw[Zn (by simpa using hi)] at h2;rw[aag] at h2
    split at h2 <;>cases h2
  have ha:vs[i]?=some v:=by
   unfold start at h2;rw[Zm (by simpa using hi),YO] at h2;cases e:vs[i]? with
   | none=>rw[e] at h2;cases h2
   | some a=>rw[e] at h2;cases h2;rfl
  obtain⟨u,hu,rv⟩:=r.get ha;have hp:ps[i]?=some y:=by
   rw[<-S.pre,aal ⋯];exact h1
  have Rt:ps.Nodup:=by rw[<-S.pre];exact S.nd.sublist (List.take_sublist _ _)
  refine⟨u,rv,?_⟩;rcases S.par y (YQ hp) with k | k
  ·exact .inl ⟨k,rJ Rt hp hu k⟩
  ·obtain⟨c,e⟩:=u7 (n:=s.heap.objs.size+1) k;refine .inr ⟨.inl k,c,e,?_⟩;have q:=x.cell y c e;rw[rK Rt hp hu (by show scope.names.lookup y≠_;rw[k];decide)] at q;exact q
 ·exact e0.cw.fresh (Nat.le_of_lt (x.above y c (ZS h)))
 ·unfold start;show _=N.length;rw[Y7,YL,Zr];lia
theorem G6 {CX:me} {P:Program} {w:World} {K:aam} {mg:Str->Option Value} {base:Heap} {k:Nat} {f:Addr} {name qual:Str} {params:Arguments} {body:List Stmt} {scope:Scope} {dV kV doc pm cP ct oc:Value} {an od:Option Addr}
  {By:Array (Option Value)} {N ps:List Str} {sp:Sp} (lk:K.lookup f=some ⟨oc,od,.func (aap name qual params body scope dV kV doc pm an cP ct),By⟩) (u3:aao K cP qual=true) (S:aN N ps scope)
  (len:∀vs H Q E,sp vs H Q E->vs.length=ps.length)
  (u9:∀(A:Around) (outer:List Env) (s:Shared) (H:Hp) (vs:List V) (Q:VK) (E:XK),dZ k (A.deeper (envOfC qual scope s.heap.objs.size f cP))->sp vs H Q E->
   ∃t,xC (xT CX P w K mg base N qual scope f cP A outer s H E) body t/\t {nx:=λ_ H'=>Q .cJ H',rt:=Q} (start N vs) H):
  fz P w K mg base CX (k+1) f (aap name qual params body scope dV kV doc pm an cP ct) ps sp:=by
 refine⟨len,λA outer s H args us vs Q E hr e0 hb r EX=>?_⟩;have hl:=len _ _ _ _ EX;have KX:K.In s.heap:=e0.mod.Li.keeps λb o e=>(e0.bs b o e).1;have lim:s.heap.NoLimit:=e0.mod.nolimit.keeps λb o e=>(e0.bs b o e).1;have pd:∀y∈ps.zip us,scope.names.lookup y.1=some .local\/(scope.names.lookup y.1=some .cell/\((cellsFrom (s.heap.objs.size+1) scope.names []).lookup y.1).isSome=true):=fun⟨n,v⟩ hy=>by
  rcases S.par n (List.of_mem_zip hy).1 with q | q
  ·exact .inl q
  ·exact .inr ⟨q,PySem.W.cellsFrom_some _ _ _ (.inl q)⟩
 refine codeAny_call_function hr.depth (KX _ _ lk) rfl S.co S.gen rfl (PySem.W.codeRec_of KX u3) (hb _ _ _ _ ?_);refine wpAny_newFunctionEnv_cells S.kind pd λenv he s1 x=>?_;subst he;refine⟨lim.keeps x.toInCall.keep,codeAny_func ?_⟩;obtain⟨t,ht,hq⟩:=u9 A outer s H vs Q E (hr.deeper _) EX;have I:Inv (xT CX P w K mg base N qual scope f cP A outer s H E) [] (start N vs) H s1:=AI S hr.hd e0 hl r x;refine wpAny_mono (ht [] s1 (start N vs) H _ I hq) (λfl s' hs=>?_) λe s' hs=>hs;have fin:∀{σ':St} {H':Hp} {v:V} {u:Value},Inv (xT CX P w K mg base N qual scope f cP A outer s H E) [] σ' H' s'->RelV v u->Q v H'->CE outer P w H s Q u s':=
  λ{σ' H' v u} J rv q=>⟨v,H',J.os,J.bare,J.base,J.cw,rv,q⟩
 cases fl with
 | ret u=>
  obtain⟨v,σ',H',J,rv,q⟩:=hs;exact fin J rv q
 | next=>
  obtain⟨σ',H',J,q⟩:=hs;exact fin (v:=V.cJ) (u:=Value.none) J rfl q
 | brk=>
  obtain⟨_,_,_,q⟩:=hs;exact False.elim q
 | cont=>
  obtain⟨_,_,_,q⟩:=hs;exact False.elim q
end L2
namespace L2
open PySem PySem.Spec PyProof.Rows
section
variable {X : Cx} {x : Str} {p pos : Pos} {e : Expr} {es : List Expr} {t : TA} {id T : String} {r : List V -> Hp -> VK -> Prop}
abbrev tCB (r:List V->Hp->VK->Prop) (t:TA):TE:=λσ H Q=>t σ H λvs H1=>r vs H1 Q
theorem aU (hc:c7 X (.builtin id) r) (hg:Gl X x) (hm:X.mg x=none) (hv:bootBuiltins x=some (.builtin id)) (ha:PA X (e::es) t) (hn:x≠"__name__":=by decide) (BZ:(x==("__debug__":Str))=false:=by decide)
  (he:starEach (e::es) X.env=(false,eval e X.env)::starEach es X.env:=by injections) (hpl:(backTo pos (starEach es X.env)).any (·.1)=false:=by injections):PE X (.Call (.Name x p) (e::es) [] pos) (tCB r t):=by
 intro pins s σ H Q I h;refine wpAny_Call_Name_kw (g8 I hg hm hv ?_ hn BZ);exact PyProof.Rows.callWith_builtin1 (cO (ha pos pins s σ H _ I h) λus s1 ⟨vs,H1,I1,r1,q1⟩=>hc pins s1 σ H1 vs us Q I1 r1 q1) he hpl
theorem cG (hc:c7 X (.type T) r) (hg:Gl X x) (hm:X.mg x=none) (hv:bootBuiltins x=some (.type T)) (ha:PA X (e::es) t) (hn:x≠"__name__":=by decide) (BZ:(x==("__debug__":Str))=false:=by decide)
  (he:starEach (e::es) X.env=(false,eval e X.env)::starEach es X.env:=by injections) (hpl:(backTo pos (starEach es X.env)).any (·.1)=false:=by injections):PE X (.Call (.Name x p) (e::es) [] pos) (tCB r t):=by
 intro pins s σ H Q I h;refine wpAny_Call_Name_kw (g8 I hg hm hv ?_ hn BZ);exact aaf (cO (ha pos pins s σ H _ I h) λus s1 ⟨vs,H1,I1,r1,q1⟩=>hc pins s1 σ H1 vs us Q I1 r1 q1) he hpl
end
end L2
namespace HT
open PySem PyProof.Rows
section
open PySem.SeqAt
open PySem.AutoSeq1 (wpAny_loadPart')
open PySem.MeetsSeq PySem.MeetsSeq2 PySem.MeetsSeq3
end
section
variable {prog : Program} {w : World} {A : Around} {E : Value -> Shared -> Prop} {s : Shared}
abbrev uP (n d:Nat):Option Int->Nat
 | none=>d
 | some v=>if v<0 then (v+ (n:Int)).toNat else min v.toNat n
theorem vb (n d:Nat):uP n d none=d:=rfl
theorem oA (n d k:Nat):uP n d (some (k:Int))=min k n:=by
 show(if (k:Int)<0 then ((k:Int)+ (n:Int)).toNat else min (k:Int).toNat n)=min k n;rw[if_neg ⋯,YS]
end
end HT
namespace L2
open PySem PySem.Spec PyProof.Rows
@[inline]abbrev TO:=St->Hp->(Option Int->Hp->Prop)->Prop
abbrev PO (X:Cx) (e:Option Expr) (t:TO):Prop:=
 ∀(pins:List (Addr×Obj)) (s:Shared) (σ:St) (H:Hp) (Q:Option Int->Hp->Prop),Inv X pins σ H s->t σ H Q->
  wpAny (model X.prog X.w) X.A (evalPart e X.env) (λu s'=>∃o H',Inv X pins σ H' s'/\IsPart u o/\Q o H') X.xe s
abbrev tNoPart:TO:=λ_ H Q=>Q none H
abbrev tPart (t:TE):TO:=λσ H Q=>t σ H λx H1=>∃i,x=.int i/\Q (some i) H1
theorem intsAre_of {ns:List Int}:∀{us:List Value},br (ns.map V.int) us->IntsAre us ns:=by
 induction ns with
 | nil=>intro us r;rw[ZE] at r;cases r;exact .nil
 | cons n ns ih=>
  intro us r;rw[Y8] at r;cases r with
  | cons r1 r2=>
   obtain⟨t,e⟩:=r1;subst e;exact .cons n t (ih r2)
section
variable {X : Cx} {e : Expr} {te : TE} {lo hi : Option Expr} {tl th : TO} {pos p2 : Pos}
theorem kP:PO X none tNoPart:=by
 intro pins s σ H Q I h;rw[evalPart_none];exact wpAny_pure ⟨none,H,I,.none,h⟩
theorem hV (h:PE X e te):PO X (some e) (tPart te):=by
 intro pins s σ H Q I hw;rw[evalPart_some];refine cO (h pins s σ H _ I hw) λu s1 dB=>?_;obtain⟨x,H1,I1,r1,q1⟩:=dB;obtain⟨i,rfl,q⟩:=q1;obtain⟨t,rfl⟩:=r1;exact⟨some i,H1,I1,.int i t,q⟩
abbrev NJ (X:Cx) (r:V->Option Int->Option Int->Hp->VK->Prop):Prop:=
 ∀(pins:List (Addr×Obj)) (s:Shared) (σ:St) (H:Hp) (x:V) (v vl vu:Value) (lo hi:Option Int) (sl:Addr) (Q:VK),Inv X pins σ H s->RelV x v->s.heap.IsSliceOf sl vl vu .none->IsPart vl lo->IsPart vu hi->r x lo hi H Q->
  ∃T id,typeLookup (.type T) "__getitem__"=pure (some (.builtin id))/\s.TypeIs v T/\wpAny (model X.prog X.w) X.A (getItem v (.ref sl)) (EP X pins σ Q) X.xe s
abbrev tSl (r:V->Option Int->Option Int->Hp->VK->Prop) (te:TE) (tl th:TO):TE:=λσ H Q=>te σ H λx H1=>tl σ H1 λl H2=>th σ H2 λu H3=>r x l u H3 Q
theorem gD {r:V->Option Int->Option Int->Hp->VK->Prop} (hr:NJ X r) (he:PE X e te) (hl:PO X lo tl) (hu:PO X hi th):PE X (.Subscript e (.Slice lo hi none p2) pos) (tSl r te tl th):=by
 intro pins s σ H Q I h;refine Subscript_ (cO (he pins s σ H _ I h) λv s1 dB=>?_);obtain⟨x,H1,I1,r1,q1⟩:=dB;refine wpAny_Slice (cO (hl pins s1 σ H1 _ I1 q1) λvl s2 ⟨l,H2,I2,pl,q2⟩=>cO (hu pins s2 σ H2 _ I2 q2) λvu s3 dB=>?_);obtain⟨u,H3,I3,pu,q3⟩:=dB;rw[evalPart_none];refine wpAny_pure ?_;have I4:Inv X pins σ H3 {s3 with heap:=s3.heap.push {cls:=.type "slice",data:=.fields #[vl,vu,.none]}}:=I3.kept (t':=s3.toks) λb ob q=>aaw _ q;obtain⟨T,id,hT,ht,hg⟩:=hr pins {s3 with heap:=s3.heap.push {cls:=.type "slice",data:=.fields #[vl,vu,.none]}} σ H3 x v vl vu l u s3.heap.objs.size Q I4 r1 (Heap.IsSliceOf.new ..) pl pu q3;show wpAny (model X.prog X.w) X.A (subscriptTail e (.Slice lo hi none p2) v (.ref s3.heap.objs.size)) (EP X pins σ Q) X.xe {s3 with heap:=s3.heap.push {cls:=.type "slice",data:=.fields #[vl,vu,.none]}};exact tail_any (ops:=[.ref s3.heap.objs.size,v]) ht hT hg (by with_unfolding_all rfl)
abbrev iK (xs:List V) (lo hi:Option Int):List V:=(xs.drop (HT.uP xs.length 0 lo)).take (HT.uP xs.length xs.length hi - HT.uP xs.length 0 lo)
theorem vc (xs:List V) (lo hi:Option Int):(iK xs lo hi).length<=xs.length:=by
 unfold iK;rw[Zf,List.length_drop];lia
end
end L2
namespace L2
open PySem PySem.Spec PyProof.Rows
abbrev yZ (n:Nat) (i:Int):Option Nat:=if 0<=i then (if i<n then some i.toNat else none) else if -(n:Int)<=i then some (i+n).toNat else none
abbrev eV {α:Type} (xs:List α) (i:Int):Option α:=(yZ xs.length i).bind λj=>xs[j]?
theorem y7 {n:Nat} {i:Int} {j:Nat} (h:yZ n i=some j):seqIndex? i n=some j/\j<n/\-(n:Int)<=i/\i<n:=by
 unfold yZ at h
 by_cases h0:0<=i
 ·rw[if_pos h0] at h
  by_cases h1:i<n
  ·rw[if_pos h1] at h;have e:i.toNat=j:=Zb h;exact⟨by rw[seqIndex_of h0 h1,e],⋯,⋯,h1⟩
  ·rw[if_neg h1] at h;cases h
 ·rw[if_neg h0] at h
  by_cases h1:-(n:Int)<=i
  ·rw[if_pos h1] at h;have e:(i+n).toNat=j:=Zb h;exact⟨by rw[seqIndex_neg ⋯ h1,e],⋯,h1,⋯⟩
  ·rw[if_neg h1] at h;cases h
theorem sZ {α:Type} {xs:List α} {i:Int} {v:α} (h:eV xs i=some v):∃j,seqIndex? i xs.length=some j/\xs[j]?=some v/\j<xs.length/\-(xs.length:Int)<=i/\i<xs.length:=by
 unfold eV at h;cases e:yZ xs.length i with
 | none=>rw[e] at h;cases h
 | some j=>
  rw[e] at h;obtain⟨h1,h2,h3,h4⟩:=y7 e;exact⟨j,h1,h,h2,h3,h4⟩
theorem bA {α:Type} {xs:List α} {j:Nat} {v:α} (h:xs[j]?=some v):eV xs (j:Int)=some v:=by
 have hj:j<xs.length:=(aat.mp h).1;have e:yZ xs.length (j:Int)=some j:=by
  unfold yZ;rw[if_pos ⋯,if_pos ⋯];simp
 unfold eV;rw[e];exact h
abbrev Ft (b:Expr):Prop:=∀o i,subscripted b false o i=operate [o,i] (getItem o i)
abbrev G7 (X:Cx) (r:R2):Prop:=
 ∀(value slice:Expr) (pins:List (Addr×Obj)) (s:Shared) (σ:St) (H:Hp) (x y:V) (v u:Value) (Q:VK),Inv X pins σ H s->RelV x v->RelV y u->r x y H Q->
  subscripted slice false v u=operate [v,u] (getItem v u)->wpAny (model X.prog X.w) X.A (subscriptTail value slice v u) (EP X pins σ Q) X.xe s
abbrev KJ (X:Cx) (id:String) (r:V->List V->Hp->VK->Prop):Prop:=
 ∀(pins:List (Addr×Obj)) (s:Shared) (σ:St) (H:Hp) (x:V) (xs:List V) (v:Value) (us:List Value) (Q:VK),Inv X pins σ H s->RelV x v->br xs us->r x xs H Q->
  wpAny (model X.prog X.w) X.A (call (.builtin id) (v::us)) (EP X pins σ Q) X.xe s
section
variable {X : Cx} {a b : Expr} {ta tb : TE} {pos : Pos}
theorem aI {r:R2} (hr:G7 X r) (ha:PE X a ta) (hb:PE X b tb) (hs:Ft b):PE X (.Subscript a b pos) (tOp r ta tb):=by
 intro pins s σ H Q I h;exact Subscript_ (Iy ha hb I h λv u s2 x y H2 I2 rx ry q=>hr a b pins s2 σ H2 x y v u Q I2 rx ry q (hs _ _))
abbrev OU (K:aam):R2:=λx y H Q=>∃p xs i v,x=.ref p/\y=.int i/\aS K H p xs/\eV xs i=some v/\Q v H
abbrev OV (K:aam):R2:=λx y H Q=>∃p xs i v,x=.ref p/\y=.int i/\fV K H p xs/\eV xs i=some v/\Q v H
theorem y8:G7 X (OU X.K):=by
 intro value slice pins s σ H x y v u Q I rx ry h hs;obtain⟨p,xs,i,z,rfl,rfl,hq,he,q⟩:=h;cases rx;obtain⟨t,rfl⟩:=ry;obtain⟨aW,r,pl,hz⟩:=I.list hq;obtain⟨j,h1,h2,h3,h4,h5⟩:=sZ he;obtain⟨w,ew,l7⟩:=r.get h2;have hl:=r.length;have hn:=o6;have fin:EP X pins σ Q w s:=⟨z,H,I,l7,q⟩
 by_cases h0:0<=i
 ·have hj:i.toNat=j:=by
   rw[seqIndex_of h0 h5] at h1;exact Zb h1
  exact item_listR pl.isList h0 ⋯ (by rw[hj];simpa using ew) fin hs
 ·have hj:(i+ (aW.toArray.size:Int)).toNat=j:=by
   rw[seqIndex_neg ⋯ h4] at h1;rw[YX,<-hl];exact Zb h1
  exact subscriptTail_builtinR (x:=w) pl.isList.typeIs slot_list_getitem.lookup
   (wpAny_getItem_list_neg (Q:=λr s'=>r=w/\EP X pins σ Q r s') pl.isList ⋯ (by rw[YX] <;>lia) ⋯ (by rw[hj];simpa using ew) ⟨rfl,fin⟩) hs
theorem ID:G7 X (OV X.K):=by
 intro value slice pins s σ H x y v u Q I rx ry h hs;obtain⟨p,xs,i,z,rfl,rfl,hq,he,q⟩:=h;cases rx;obtain⟨t,rfl⟩:=ry;obtain⟨aW,r,pl,hz⟩:=I.tuple hq;obtain⟨j,h1,h2,h3,h4,h5⟩:=sZ he;obtain⟨w,ew,l7⟩:=r.get h2;have hl:=r.length;have hn:=o6;have fin:EP X pins σ Q w s:=⟨z,H,I,l7,q⟩
 exact subscriptTail_builtinR (x:=w) pl.typeIs slot_tuple_getitem.lookup
  (getItem_tuple (j:=j) (Q:=λr s'=>r=w/\EP X pins σ Q r s') pl ⋯ ⋯ (by rw[YX,<-hl];exact h1) (by simpa using ew) ⟨rfl,fin⟩) hs
theorem xU (aW:List Value) (n j:Nat) (u:Value):Obj.mapSeq (·.setIfInBounds j u) {cls:=.type "list",data:=.seq aW.toArray n}={cls:=.type "list",data:=.seq (aW.set j u).toArray n}:=by
 simp [Obj.mapSeq]
theorem Inv.lst {pins:List (Addr×Obj)} {σ:St} {H:Hp} {s:Shared} {p:Addr} {xs:List V} (I:Inv X pins σ H s) (h:H p=some (.lst xs)):
  ∃(aW:List Value) (n:Nat),br xs aW/\s.heap.get? p=some {cls:=.type "list",data:=.seq aW.toArray n}/\xs.length<=sizeLine:=by
 obtain⟨z,aW,n,r,e⟩:=I.cw p _ h;exact⟨aW,n,r,e,z⟩
theorem Inv.IE {pins:List (Addr×Obj)} {σ:St} {H:Hp} {s:Shared} {p:Addr} {xs ys:List V} {aW its':List Value} {n n':Nat} {f:Obj->Obj} (I:Inv X pins σ H s) (h:H p=some (.lst xs))
  (ho:s.heap.get? p=some {cls:=.type "list",data:=.seq aW.toArray n}) (hf:f {cls:=.type "list",data:=.seq aW.toArray n}={cls:=.type "list",data:=.seq its'.toArray n'}) (r:br ys its') (hz:ys.length<=sizeLine) (t:Nat):
  Inv X pins σ (upd H p (.lst ys)) {s with heap:=s.heap.update p f,toks:=t}:=by
 have e:(s.heap.update p f).get? p=some {cls:=.type "list",data:=.seq its'.toArray n'}:=by
  rw[Heap.get?_update_self f ho (by rw[hf] <;>rfl),hf]
 refine I.write (x:=p) (e:=p) (by rw[h];trivial) (.inl rfl) (λb u hb q=>(Heap.get?_update_other _ _ (Ne.symm hb)).trans q) ⟨_,e⟩ ?_;exact⟨hz,its',n',r,e⟩
abbrev rSetL:V->V->V->Hp->(Hp->Prop)->Prop:=λo i v H Q=>∃p xs k j,o=.ref p/\i=.int k/\H p=some (.lst xs)/\yZ xs.length k=some j/\Q (upd H p (.lst (xs.set j v)))
theorem set_list:Iq X rSetL:=by
 intro pins s σ H o i v ov iv u Q I ro ri rv h;obtain⟨p,xs,k,j,rfl,rfl,hp,hj,q⟩:=h;cases ro;obtain⟨t,rfl⟩:=ri;obtain⟨aW,n,r,ho,hz⟩:=I.lst hp;obtain⟨h1,h2,h3,h4⟩:=y7 hj;have hl:=r.length;have hn:=o6;have I':Inv X pins σ (upd H p (.lst (xs.set j v))) {s with heap:=s.heap.update p (Obj.mapSeq (·.setIfInBounds j u))}:=
  I.IE hp ho (xU aW n j u) (r.set rv j) (by rw[Zh];exact hz) s.toks
 by_cases h0:0<=k
 ·have hk:k.toNat=j:=by
   rw[seqIndex_of h0 h4] at h1;exact Zb h1
  exact PySem.W.ki_setAt ho h0 ⋯ (by rw[YX,<-hl];exact h4) (by rw[hk];exact⟨_,I',q⟩)
 ·have hk:(k+ (aW.toArray.size:Int)).toNat=j:=by
   rw[seqIndex_neg ⋯ h3] at h1;rw[YX,<-hl];exact Zb h1
  exact PySem.W.ki_setBack ho ⋯ (by rw[YX,<-hl];exact h3) ⋯ (by rw[hk];exact⟨_,I',q⟩)
theorem tj (lo hi:Option Int) (n:Nat):(sliceBounds lo hi none n).1=((HT.uP n 0 lo:Nat):Int)/\(sliceBounds lo hi none n).2.1=((HT.uP n n hi:Nat):Int)/\(sliceBounds lo hi none n).2.2=1:=by
 refine⟨?_,?_,rfl⟩
 ·cases lo with
  | none=>simp [sliceBounds,HT.uP]
  | some i=>
   simp only[sliceBounds,HT.uP,Option.getD_none,show(1:Int) >0 by decide,if_true]
   by_cases h:i<0
   ·simp only[h,if_true] <;>lia
   ·simp only[h,if_false] <;>lia
 ·cases hi with
  | none=>simp [sliceBounds,HT.uP]
  | some i=>
   simp only[sliceBounds,HT.uP,Option.getD_none,show(1:Int) >0 by decide,if_true]
   by_cases h:i<0
   ·simp only[h,if_true] <;>lia
   ·simp only[h,if_false] <;>lia
theorem qM (aW:List Value) (lo hi:Option Int):slicePick aW.toArray lo hi none=((aW.drop (HT.uP aW.length 0 lo)).take (HT.uP aW.length aW.length hi - HT.uP aW.length 0 lo)).toArray:=by
 obtain⟨h1,h2,h3⟩:=tj lo hi aW.toArray.size;unfold slicePick;rw[h1,h2,h3];simp only[sliceRange_one,pick_run,YX] <;>rfl
abbrev rSlL (K:aam):V->Option Int->Option Int->Hp->VK->Prop:=λx lo hi H Q=>∃a xs,x=.ref a/\aS K H a xs/\∀p,H p=none->Q (.ref p) (upd H p (.lst (iK xs lo hi)))
theorem Fu:NJ X (rSlL X.K):=by
 intro pins s σ H x v vl vu lo hi sl Q I rx hs pl pu h;obtain⟨a,xs,rfl,hx,q⟩:=h;cases rx;obtain⟨aW,r,ht,hz⟩:=I.list hx;have hlen:=r.length;refine⟨"list",_,slot_list_getitem.lookup,ht.isList.typeIs,?_⟩;refine wpAny_getItem_list_slice ht.isList hs pl pu .none (by simp) ?_ (by rw[YX] <;>lia);rw[qM,<-hlen];refine⟨.ref s.heap.objs.size,_,I.laid (t':=s.toks) (o:=.lst (iK xs lo hi)) (λb ob q=>aaw _ q) (YR _) ?_,rfl,q _ (I.cw.fresh (YR _))⟩;exact⟨YY (vc xs lo hi) hz,_,0,(r.drop (HT.uP xs.length 0 lo)).take (HT.uP xs.length xs.length hi - HT.uP xs.length 0 lo),aax _ rfl⟩
abbrev fK:V->Bool
 | .cJ=>true
 | .bl _=>true
 | .int _=>true
 | .str _=>true
 | _=>false
abbrev EY:V->V->Bool
 | .cJ,.cJ=>true
 | .bl a,.bl b=>a==b
 | .bl a,.int b=>(if a then 1 else 0)==b
 | .int a,.bl b=>a==(if b then 1 else 0)
 | .int a,.int b=>a==b
 | .str a,.str b=>a==b
 | _,_=>false
theorem IF {A:Around} {s:Shared} {y x:V} {u v:Value} (ry:RelV y u) (rx:RelV x v) (fy:fK y=true) (fx:fK x=true):SeqAt.EqAt A s u v (EY y x):=by
 cases y with
 | cJ=>
  cases ry;cases x with
  | cJ=>cases rx;exact SeqAt.EqAt.same _
  | bl b=>cases rx;exact SeqAt.EqAt.none_bool b
  | int b=>obtain⟨t,rfl⟩:=rx;exact SeqAt.EqAt.none_int b t
  | str b=>obtain⟨t,rfl⟩:=rx;exact SeqAt.EqAt.none_str b t
  | _=>exact absurd (show false=true from fx) Y4
 | bl a=>
  cases ry;cases x with
  | cJ=>cases rx;exact SeqAt.EqAt.bool_none a
  | bl b=>cases rx;exact SeqAt.EqAt.bool_bool a b
  | int b=>obtain⟨t,rfl⟩:=rx;exact SeqAt.EqAt.bool_int a b t
  | str b=>obtain⟨t,rfl⟩:=rx;exact SeqAt.EqAt.bool_str a b t
  | _=>exact absurd (show false=true from fx) Y4
 | int a=>
  obtain⟨t',rfl⟩:=ry;cases x with
  | cJ=>cases rx;exact SeqAt.EqAt.int_none a t'
  | bl b=>cases rx;exact SeqAt.EqAt.int_bool a t' b
  | int b=>obtain⟨t,rfl⟩:=rx;exact SeqAt.EqAt.int_int a t' b t
  | str b=>obtain⟨t,rfl⟩:=rx;exact SeqAt.EqAt.int_str a t' b t
  | _=>exact absurd (show false=true from fx) Y4
 | str a=>
  obtain⟨t',rfl⟩:=ry;cases x with
  | cJ=>cases rx;exact SeqAt.EqAt.str_none a t'
  | bl b=>cases rx;exact SeqAt.EqAt.str_bool a t' b
  | int b=>obtain⟨t,rfl⟩:=rx;exact SeqAt.EqAt.str_int a t' b t
  | str b=>obtain⟨t,rfl⟩:=rx;exact SeqAt.EqAt.str_str a t' b t
  | _=>exact absurd (show false=true from fx) Y4
 | _=>exact absurd (show false=true from fy) Y4
abbrev Fv (x:V) (u:Value):Bool:=match u with
 | .none=>EY .cJ x
 | .bool b=>EY (.bl b) x
 | .int i _=>EY (.int i) x
 | .str z _=>EY (.str z) x
 | _=>false
theorem B3 {x y:V} {u:Value} (r:RelV y u) (f:fK y=true):Fv x u=EY y x:=by
 cases y with
 | cJ=>cases r;rfl
 | bl b=>cases r;rfl
 | int i=>obtain⟨t,rfl⟩:=r;rfl
 | str z=>obtain⟨t,rfl⟩:=r;rfl
 | _=>exact absurd (show false=true from f) Y4
theorem tu {x:V}:∀{xs:List V} {us:List Value},br xs us->xs.all fK=true->us.any (Fv x)=xs.any λy=>EY y x
 | _,_,.nil,_=>rfl
 | y::xs,u::us,.cons r t,f=>by
  rw[List.all_cons,Zx] at f;rw[List.any_cons,List.any_cons,B3 r f.1,tu t f.2]
theorem pe {A:Around} {s:Shared} {x:V} {v:Value} (rx:RelV x v) (fx:fK x=true):∀{xs:List V} {us:List Value},br xs us->xs.all fK=true->∀u∈us,SeqAt.EqAt A s u v (Fv x u)
 | _,_,.nil,_=>λu hu=>by cases hu
 | y::xs,u::us,.cons r t,f=>λu' hu=>by
  rw[List.all_cons,Zx] at f;rcases ZT.mp hu with rfl | hu
  ·rw[B3 r f.1];exact IF r rx f.1 fx
  ·exact pe rx fx t f.2 u' hu
abbrev IG (x:V) (xs:List V):Bool:=xs.any λy=>EY y x
abbrev OW (K:aam) (neg:Bool):R2:=λx y H Q=>∃p xs,y=.ref p/\(aS K H p xs\/fV K H p xs)/\fK x=true/\xs.all fK=true/\Q (.bl (if neg then !IG x xs else IG x xs)) H
theorem tw:l9 X (compareOp .NotIn) (OW X.K true):=by
 intro pins s σ H x y v u Q I rx ry h;obtain⟨p,xs,rfl,hq,fx,fs,q⟩:=h;cases ry;rcases hq with hq | hq
 ·obtain⟨aW,r,pl,hz⟩:=I.list hq;refine SeqAt.notIn_listAt (Fv x) pl.isList (λw hw=>pe rx fx r fs w (by simpa using hw)) ⟨.bl _,H,I,rfl,?_⟩;rw[show aW.toArray.any (Fv x)=aW.any (Fv x) by simp,tu r fs];exact q
 ·obtain⟨aW,r,pl,hz⟩:=I.tuple hq;refine SeqAt.notIn_tupleAt (Fv x) pl (λw hw=>pe rx fx r fs w (by simpa using hw)) ⟨.bl _,H,I,rfl,?_⟩;rw[show aW.toArray.any (Fv x)=aW.any (Fv x) by simp,tu r fs];exact q
theorem kQ:c7 X (.builtin "len") (λxs H Q=>∃p ys,xs=[.ref p]/\(aS X.K H p ys\/fV X.K H p ys)/\Q (.int ys.length) H):=by
 intro pins s σ H xs us Q I r h;obtain⟨p,ys,rfl,hq,q⟩:=h;obtain⟨u,rfl,rx⟩:=vals1 r;cases rx;have hn:=o6;rcases hq with hq | hq
 ·obtain⟨aW,r',pl,hz⟩:=I.list hq;have hlen:=r'.length;exact Calls.call_len_list pl.isList (by simp only[YX] <;>lia) ⟨.int ys.length,H,I.tok _,⟨s.toks+1,by rw[YX,hlen]⟩,q⟩
 ·obtain⟨aW,r',pl,hz⟩:=I.tuple hq;have hlen:=r'.length;exact len_tuple pl (by simp only[YX] <;>lia) ⟨.int ys.length,H,I.tok _,⟨s.toks+1,by rw[YX,hlen]⟩,q⟩
theorem tD:c7 X (.type "list") (λxs H Q=>∃p ys,xs=[.ref p]/\(aS X.K H p ys\/fV X.K H p ys)/\∀l,H l=none->Q (.ref l) (upd H l (.lst ys))):=by
 intro pins s σ H xs us Q I r h;obtain⟨p,ys,rfl,hq,q⟩:=h;obtain⟨u,rfl,rx⟩:=vals1 r;cases rx;have fin:∀(aW:List Value),br ys aW->ys.length<=sizeLine->∀(h':Heap) (c':Nat),(∀b o',s.heap.get? b=some o'->h'.get? b=some o')->
   h'.get? s.heap.objs.size=some {cls:=.type "list",dict:=none,data:=.seq aW.toArray c',slots:=#[]}->EP X pins σ Q (.ref s.heap.objs.size) {s with heap:=h'}:=λaW r' hz h' c' kp e=>
  ⟨.ref s.heap.objs.size,_,I.laid (t':=s.toks) kp (YR _) (show cX X.prog X.w _ h' _ (.lst ys) from⟨hz,aW,c',r',e⟩),rfl,q _ (I.cw.fresh (YR _))⟩
 rcases hq with hq | hq
 ·obtain⟨aW,r',pl,hz⟩:=I.list hq;have hlen:=r'.length;obtain⟨o,ho,hc,n,hd⟩:=pl.isList;exact call_list_seq p (.inl rfl) ho hc hd (λh' c' kp e=>fin aW r' hz h' c' kp e) (by simp only[YX] <;>lia)
 ·obtain⟨aW,r',pl,hz⟩:=I.tuple hq;have hlen:=r'.length;obtain⟨o,ho,hc,n,hd⟩:=pl;exact call_list_seq p (.inr rfl) ho hc hd (λh' c' kp e=>fin aW r' hz h' c' kp e) (by simp only[YX] <;>lia)
abbrev OX (K:aam) (T:String) (x:V) (H:Hp):Prop:=match x with
 | .str _=>T="str"
 | .int _=>T="int"
 | .ref p=>(T="list"/\∃xs,aS K H p xs)\/(T="tuple"/\∃o,K.lookup p=some o/\o.cls=.type "tuple"/\o.dict=none)\/
   (T="dict"/\((∃kvs,H p=some (.dK kvs))\/∃kvs,H p=some (.dT kvs)))\/(T="set"/\∃S n,H p=some (.set S n))
 | _=>False
theorem IH {pins:List (Addr×Obj)} {σ:St} {H:Hp} {s:Shared} {T:String} {x:V} {v:Value} (I:Inv X pins σ H s) (r:RelV x v) (ty:OX X.K T x H):
  s.TypeIs v T/\∀a,v=.ref a->∃ob,s.heap.get? a=some ob/\ob.dict=none:=by
 cases x with
 | str z=>
  obtain⟨t,rfl⟩:=r;cases (show T="str" from ty);exact⟨typeIs_str s z t,λ_ e=>nomatch e⟩
 | int i=>
  obtain⟨t,rfl⟩:=r;cases (show T="int" from ty);exact⟨typeIs_int s i t,λ_ e=>nomatch e⟩
 | ref p=>
  cases r;rcases ty with ⟨rfl,xs,hq⟩ | ⟨rfl,o,hk,hc,hd⟩ | ⟨rfl,hk⟩ | ⟨rfl,S,n,hk⟩
  ·obtain⟨aW,_,pl,_⟩:=I.list hq;refine⟨pl.isList.typeIs,λa e=>?_⟩;cases e;obtain⟨o,n,e,c,hd,_⟩:=pl;exact⟨o,e,hd⟩
  ·refine⟨⟨o,I.yS p o hk,hc⟩,λa e=>?_⟩;cases e;exact⟨o,I.yS _ o hk,hd⟩
  ·have z:∃o,s.heap.get? p=some o/\o.ExactDict:=by
    rcases hk with ⟨kvs,hk⟩ | ⟨kvs,hk⟩
    ·obtain⟨_,_,_,_,o,_,_,e,ex,_⟩:=I.cw p _ hk;exact⟨o,e,ex⟩
    ·obtain⟨_,_,_,_,o,_,_,e,ex,_⟩:=I.cw p _ hk;exact⟨o,e,ex⟩
   obtain⟨o,e,ex⟩:=z;refine⟨⟨o,e,ex.1⟩,λa e2=>?_⟩;cases e2;exact⟨o,e,ex.2.1⟩
  ·obtain⟨o,_,_,_,e,ex,_⟩:=I.cw p _ hk;refine⟨⟨o,e,ex.1⟩,λa e2=>?_⟩;cases e2;exact⟨o,e,ex.2.1⟩
 | _=>exact False.elim ty
abbrev tBM (K:aam) (T:String) (r:V->List V->Hp->VK->Prop) (to:TE) (t:TA):TE:=λσ H Q=>to σ H λx H1=>OX K T x H1/\t σ H1 λxs H2=>r x xs H2 Q
variable {o e : Expr} {es : List Expr} {to : TE} {t : TA} {name : Str} {apos iL : Pos} {T id : String} {r : V -> List V -> Hp -> VK -> Prop}
theorem fj (pa:PlainAttrs T) (slot:Slot T name id) (TM:typeOf (.builtin id)=pure (.type "method_descriptor")) (hm:KJ X id r) (ho:PE X o to) (ha:PA X (e::es) t)
  (LC:attributeBase o name X.env (eval o X.env)=eval o X.env:=by rfl)
  (OY:((backTo iL (starEach (e::es) X.env)).all (λx=>!x.1) && (backToKw iL (keywordEach [] X.env)).all (λx=>x.1.isSome)
   && decide ((e::es).length+ ([]:List Keyword).length+ (if ([]:List Keyword).isEmpty then 0 else 1)<30))=true:=by rfl)
  (LD:(apos.endLine==iL.line)=true:=by rfl) (hs:starEach (e::es) X.env=(false,eval e X.env)::starEach es X.env:=by injections) (II:(backTo iL (starEach es X.env)).any (·.1)=false:=by injections):
  PE X (.Call (.Attribute o name apos) (e::es) [] iL) (tBM X.K T r to t):=by
 intro pins s σ H Q I h;refine wpAny_Call_method_late LC OY LD rfl (cO (ho pins s σ H _ I h) λv s1 dB=>?_);obtain⟨x,H1,I1,r1,ty,q1⟩:=dB;obtain⟨h1,h2⟩:=IH I1 r1 ty;refine⟨T,id,pa,slot,TM,h1,h2,?_⟩;have hA:=ha iL pins s1 σ H1 _ I1 q1;rw[hs] at hA ⊢;refine Calls.callWith_builtin (by show(false || (backTo iL (starEach es X.env)).any (·.1))=false;rw[II] <;>rfl) (Calls.evalArgs_plain ?_);exact cO hA λus s2 ⟨vs,H2,I2,r2,q2⟩=>hm pins s2 σ H2 x vs v us Q I2 r1 r2 q2
end
end L2
namespace L2
open PySem PySem.Spec PyProof.Rows
abbrev LF (X:Cx) (id:String) (r:V->List V->Hp->VK->Prop):Prop:=
 ∀(pins:List (Addr×Obj)) (s:Shared) (σ:St) (H:Hp) (x:V) (xs:List V) (v:Value) (us:List Value) (Q:VK),Inv X pins σ H s->RelV x v->br xs us->r x xs H Q->
  wpAny (model X.prog X.w) X.A (call (.builtin id) (v::us)) (EP X pins σ Q) X.xe s
theorem br.one:∀{x:V} {us:List Value},br [x] us->∃u,us=[u]/\RelV x u
 | _,_,.cons r .nil=>⟨_,rfl,r⟩
theorem br.rep {xs:List V} {us:List Value} (h:br xs us):∀k:Nat,br (aaz k xs).flatten (aaz k us).flatten
 | 0=>.nil
 | k+1=>by
  rw[aah,aah,List.flatten_cons,List.flatten_cons];exact br.append h (br.rep h k)
theorem foldl_rep (aW:List Value):∀(k:Nat) (acc:List Value),
  List.foldl (λx1 x2=>x1++x2) acc.toArray (aaz k aW.toArray)=(acc++ (aaz k aW).flatten).toArray
 | 0,acc=>by simp
 | k+1,acc=>by
  have e:acc.toArray++aW.toArray=(acc++aW).toArray:=by simp
  have e2:(acc++aW)++ (aaz k aW).flatten=acc++ (aaz (k+1) aW).flatten:=by
   rw[aah,List.flatten_cons,List.append_assoc]
  rw[<-e2,<-foldl_rep aW k (acc++aW),<-e,aah,List.foldl_cons]
section
variable {X : Cx} {pins : List (Addr × Obj)} {σ : St} {H : Hp} {s : Shared} {l b : Addr} {xs ys zs : List V}
theorem Inv.LG {aW its':List Value} {n:Nat} {f:Array Value->Array Value} {t':Nat} (I:Inv X pins σ H s) (hH:H l=some (.lst xs))
  (e:s.heap.get? l=some {cls:=.type "list",data:=.seq aW.toArray n}) (hf:f aW.toArray=its'.toArray) (hv:br ys its') (hz:ys.length<=sizeLine):
  Inv X pins σ (upd H l (.lst ys)) {s with heap:=s.heap.update l (Obj.mapSeq f),toks:=t'}:=by
 have q:=PySem.IsL.update e f;rw[hf] at q;refine I.write (x:=l) (e:=l) (by rw[hH];exact trivial) (.inl rfl) (λb' u hb hu=>(Heap.get?_update_other s.heap (Obj.mapSeq f) (Ne.symm hb)).trans hu) ⟨_,q⟩ ?_;exact⟨hz,its',_,hv,q⟩
theorem Inv.xV {aW:List Value} {t':Nat} (I:Inv X pins σ H s) (hv:br ys aW) (hz:ys.length<=sizeLine):
  Inv X pins σ (upd H s.heap.objs.size (.lst ys)) {s with heap:=s.heap.push {cls:=.type "list",data:=.seq aW.toArray},toks:=t'}:=
 I.laid (λ_ _ q=>aaw _ q) (YR _) ⟨hz,aW,0,hv,aax _ rfl⟩
theorem Inv.fresh (I:Inv X pins σ H s):H s.heap.objs.size=none:=I.cw.fresh (YR _)
theorem Inv.B4 (I:Inv X pins σ H s) (hH:H l=some (.lst xs)):xs.length<=sizeLine/\∃(aW:List Value) (n:Nat),br xs aW/\xs.length=aW.length/\s.heap.get? l=some {cls:=.type "list",data:=.seq aW.toArray n}:=by
 obtain⟨z,aW,n,r,e⟩:=I.cw l _ hH;exact⟨z,aW,n,r,r.length,e⟩
theorem B5 {n:Nat} (h:n<=sizeLine):Builtin.List.listTooLong n=false:=by
 unfold Builtin.List.listTooLong;exact decide_eq_false ⋯
end
section
variable {X : Cx}
abbrev dD:V->List V->Hp->VK->Prop:=λx vs H Q=>∃l xs y,x=.ref l/\vs=[y]/\H l=some (.lst xs)/\xs.length<sizeLine/\Q .cJ (upd H l (.lst (xs++ [y])))
theorem cH:LF X "list.append" dD:=by
 intro pins s σ H x vs v us Q I rx rv h;obtain⟨l,xs,y,rfl,rfl,hH,hz,q⟩:=h;cases rx;obtain⟨u,rfl,ru⟩:=rv.one;obtain⟨z,aW,n,r,hl,e⟩:=I.B4 hH;refine call_meets F.slot_list_append ⟨_,e,rfl⟩ F.entry_list_append (F.args_list_append_2 _ _) (PySem.list_append l aW.toArray n u (by rw[YX];lia)) ⟨e,?_⟩;refine⟨.cJ,_,I.LG (its':=aW++ [u]) hH e (by simp) (r.append (.cons ru .nil)) ?_,rfl,q⟩;rw[Y7,List.length_singleton];lia
abbrev Fw:R2:=λx y H Q=>∃l b xs zs,x=.ref l/\y=.ref b/\H l=some (.lst xs)/\H b=some (.lst zs)/\xs.length+zs.length<=sizeLine/\∀p,H p=none->Q (.ref p) (upd H p (.lst (xs++zs)))
theorem tE:l9 X (binaryOp .Add) Fw:=by
 intro pins s σ H x y v u Q I rx ry h;obtain⟨l,b,xs,zs,rfl,rfl,hH,hB,hz,q⟩:=h;cases rx;cases ry;obtain⟨z,aW,n,r,hl,e⟩:=I.B4 hH;obtain⟨z2,nH,n2,r2,vd,e2⟩:=I.B4 hB;refine PySem.P.add_list e e2 ?_ (by rw[YX,YX];lia);have ea:aW.toArray++nH.toArray=(aW++nH).toArray:=by simp
 rw[ea];exact⟨.ref _,_,I.xV (t':=s.toks) (r.append r2) (by rw[Y7];lia),rfl,q _ I.fresh⟩
abbrev AJ:R2:=λx y H Q=>∃l k xs,x=.ref l/\y=.int k/\H l=some (.lst xs)/\-(2^63)<=k/\k<2^63/\xs.length*k.toNat<=sizeLine/\
 ∀p,H p=none->Q (.ref p) (upd H p (.lst (aaz k.toNat xs).flatten))
theorem len_rep {α:Type} (xs:List α) (k:Nat):(aaz k xs).flatten.length=k*xs.length:=by
 induction k with
 | zero=>simp
 | succ k ih=>rw[aah,List.flatten_cons,Y7,ih,Nat.succ_mul,Nat.add_comm]
theorem pf:l9 X (binaryOp .Mult) AJ:=by
 intro pins s σ H x y v u Q I rx ry h;obtain⟨l,k,xs,rfl,rfl,hH,h1,h2,hz,q⟩:=h;cases rx;obtain⟨t,rfl⟩:=ry;obtain⟨z,aW,n,r,hl,e⟩:=I.B4 hH;have hlen:aW.toArray.size*k.toNat<=sizeLine:=by rw[YX,<-hl];exact hz
 have OZ:¬aW.toArray.size*k.toNat >(2^63 - 1) / 8:=by
  have:(sizeLine:Nat)<=(2^63 - 1) / 8:=∅
  lia
 have IJ:¬(!Builtin.List.listFitsIndex k)=true:=by
  rw[fitsIndex_both h1 h2];exact Y4
 have LH:¬Builtin.List.listTooLong (aW.toArray.size*k.toNat)=true:=by
  rw[B5 hlen];exact Y4
 have O0:List.foldl (λx1 x2=>x1++x2) #[] (aaz (if aW.toArray.isEmpty=true then 0 else k.toNat) aW.toArray)=(aaz k.toNat aW).flatten.toArray:=by
  have f0:∀m:Nat,List.foldl (λx1 x2=>x1++x2) #[] (aaz m aW.toArray)=(aaz m aW).flatten.toArray:=λm=>by
   have:=foldl_rep aW m [];rw[List.nil_append] at this;exact this
  rw[f0];cases aW with
  | nil=>simp
  | cons a r'=>rw[if_neg (by simp)]
 refine wpAny_binaryOp_repeat_ref (T:="list") (U:="int") ∅ ⟨_,e,rfl⟩ (λs'=>typeIs_int s' k t) noFill_list_mul F.fills_int_mul F.slot_int_rmul repeat_list F.slot_int_index.lookup
  (call_meets F.slot_int_rmul (typeIs_int s k t) F.entry_int_rmul (F.args_int_rmul_2 _ _) (int___rmul___int_list k t l aW.toArray n)
   ⟨e,rfl,⟨_,e,rfl⟩,call_meets F.slot_list_mul ⟨_,e,rfl⟩ F.entry_list_mul (F.args_list_mul_2 _ _) (AutoListH.list___mul___list_int_3 l aW.toArray n k t IJ OZ LH) ⟨e,?_⟩⟩)
 rw[O0];exact⟨.ref _,_,I.xV (t':=s.toks) (r.rep k.toNat) (by rw[len_rep,Nat.mul_comm];exact hz),rfl,q _ I.fresh⟩
end
section
variable {prog : Program} {w : World} {A : Around} {E : Value -> Shared -> Prop} {s : Shared}
end
section
variable {X : Cx}
end
end L2
namespace L2
open PySem PySem.Spec PyProof.Rows
section
variable {κ : Type} [DecidableEq κ]
abbrev iS (kvs:List (κ×V)) (k:κ):Option V:=(kvs.find? λkv=>decide (kv.1=k)).map (·.2)
abbrev putK (kvs:List (κ×V)) (k:κ) (v:V):List (κ×V):=
 if (kvs.any λkv=>decide (kv.1=k))=true then kvs.map (λkv=>if kv.1=k then (kv.1,v) else kv) else kvs++ [(k,v)]
abbrev LI (kvs:List (κ×V)) (k:κ):List (κ×V):=kvs.filter λkv=>decide (kv.1≠k)
theorem kR {p:κ×V} {r:List (κ×V)} {k:κ} (e:p.1=k):iS (p::r) k=some p.2:=by simp [iS,List.find?_cons,e]
theorem iT {p:κ×V} {r:List (κ×V)} {k:κ} (e:¬p.1=k):iS (p::r) k=iS r k:=by simp [iS,List.find?_cons,e]
theorem ph (k:κ):∀kvs:List (κ×V),(kvs.any λkv=>decide (kv.1=k))=(iS kvs k).isSome
 | []=>rfl
 | p::r=>by
  rw[List.any_cons]
  by_cases e:p.1=k
  ·simp only[kR e,decide_eq_true e,Bool.true_or,Option.isSome_some]
  ·rw[iT e,decide_eq_false e,Bool.false_or];exact ph k r
theorem mW (kvs:List (κ×V)) (k:κ) (v:V):(putK kvs k v).length<=kvs.length+1:=by
 unfold putK
 split
 ·rw[YL];lia
 ·rw[Y7,YZ,ZW];lia
theorem vf {kvs:List (κ×V)} {k:κ} (v:V) (h:iS kvs k=none):putK kvs k v=kvs++ [(k,v)]:=by
 unfold putK;rw[ph,h];exact if_neg ∅
theorem jC.gE {o:Option V} {u:Option Value} (r:jC o u):o.isSome=u.isSome:=by
 cases o with
 | none=>cases u with
  | none=>rfl
  | some _=>exact(show False from r).elim
 | some _=>cases u with
  | none=>exact(show False from r).elim
  | some _=>rfl
theorem KV.val {kvs:List (κ×V)} {vs:List (κ×Value)} (r:KV kvs vs) (k:κ):jC (iS kvs k) (valueAt vs k):=by
 unfold KV at r
 induction r with
 | nil=>exact True.intro
 | @cons p q ps qs h t ih=>
  obtain⟨h1,h2⟩:=h
  by_cases e:p.1=k
  ·have e':q.1=k:=h1.symm.trans e;have b:valueAt (q::qs) k=some q.2:=by simp [valueAt,List.find?_cons,e']
   rw[kR e,b];exact h2
  ·have e':¬q.1=k:=λz=>e (h1.trans z);have b:valueAt (q::qs) k=valueAt qs k:=by simp [valueAt,List.find?_cons,e']
   rw[iT e,b];exact ih
theorem KV.any {kvs:List (κ×V)} {vs:List (κ×Value)} (r:KV kvs vs) (k:κ):(kvs.any λkv=>decide (kv.1=k))=vs.any λkv=>decide (kv.1=k):=by
 unfold KV at r
 induction r with
 | nil=>rfl
 | cons h t ih=>rw[List.any_cons,List.any_cons,ih,h.1]
theorem KV.IK {kvs:List (κ×V)} {vs:List (κ×Value)} (r:KV kvs vs) (k:κ) {y:V} {u:Value} (ry:RelV y u):
  KV (kvs.map λkv=>if kv.1=k then (kv.1,y) else kv) (vs.map λkv=>if kv.1=k then (kv.1,u) else kv):=by
 unfold KV at r ⊢
 induction r with
 | nil=>exact .nil
 | @cons p q ps qs h t ih=>
  rw[Y8,Y8];refine .cons ?_ ih;obtain⟨h1,h2⟩:=h
  by_cases e:p.1=k
  ·rw[if_pos e,if_pos (h1.symm.trans e)];exact⟨h1,ry⟩
  ·rw[if_neg e,if_neg (λz=>e (h1.trans z))];exact⟨h1,h2⟩
theorem KV.put {kvs:List (κ×V)} {vs:List (κ×Value)} (r:KV kvs vs) (k:κ) {y:V} {u:Value} (ry:RelV y u):KV (putK kvs k y) (stored vs k u):=by
 unfold putK stored;rw[r.any k]
 by_cases e:(vs.any λkv=>decide (kv.1=k))=true
 ·rw[if_pos e,if_pos e];exact r.IK k ry
 ·rw[if_neg e,if_neg e];exact Paired.snoc r ⟨rfl,ry⟩
theorem KV.length {kvs:List (κ×V)} {vs:List (κ×Value)} (r:KV kvs vs):kvs.length=vs.length:=Paired.length r
end
theorem mX {P:Program} {w:World} {k:Key} {u:Value} (r:RelV (kV k) u):(cC P w).is k u=true:=by
 cases k with
 | inl i=>obtain⟨t,e⟩:=(show ∃t,u=Value.int i t from r);subst e;exact uW P w i t
 | inr x=>obtain⟨t,e⟩:=(show ∃t,u=Value.str x t from r);subst e;exact uX P w x t
theorem rL {P:Program} {w:World}:∀{ks:List Key} {us:List Value},br (ks.map kV) us->ItemsAre (cC P w) ks us
 | [],_,r=>by rw[ZE] at r;cases r;exact .nil
 | k::ks,_,r=>by
  rw[Y8] at r;cases r with
  | cons h t=>exact .cons (mX h) (rL t)
@[inline]abbrev KT (H:Hp):List (List Key×V)->List (List Key×Addr×Value)->Prop:=Paired λp q=>p.1=q.1/\H q.2.1=some (.tup (p.1.map kV))/\RelV p.2 q.2.2
theorem KT.val {H:Hp} {kvs:List (List Key×V)} {xs:List (List Key×Addr×Value)} (r:KT H kvs xs) (k:List Key):jC (iS kvs k) ((atKey xs k).map (·.2)):=by
 induction r with
 | nil=>exact True.intro
 | @cons p q ps qs h t ih=>
  obtain⟨h1,_,h2⟩:=h
  by_cases e:p.1=k
  ·have e':q.1=k:=h1.symm.trans e;have b:atKey (q::qs) k=some q.2:=by simp [atKey,List.find?_cons,e']
   rw[kR e,b];exact h2
  ·have e':¬q.1=k:=λz=>e (h1.trans z);have b:atKey (q::qs) k=atKey qs k:=by simp [atKey,List.find?_cons,e']
   rw[iT e,b];exact ih
theorem KT.IK {H:Hp} {kvs:List (List Key×V)} {xs:List (List Key×Addr×Value)} (r:KT H kvs xs) (k:List Key) {y:V} {u:Value} (ry:RelV y u):
  KT H (kvs.map λkv=>if kv.1=k then (kv.1,y) else kv) (xs.map (putAt k u)):=by
 induction r with
 | nil=>exact .nil
 | @cons p q ps qs h t ih=>
  rw[Y8,Y8];refine .cons ?_ ih;obtain⟨h1,h2,h3⟩:=h;unfold putAt
  by_cases e:p.1=k
  ·rw[if_pos e,if_pos (h1.symm.trans e)];exact⟨h1,h2,ry⟩
  ·rw[if_neg e,if_neg (λz=>e (h1.trans z))];exact⟨h1,h2,h3⟩
theorem KT.put {H:Hp} {kvs:List (List Key×V)} {xs:List (List Key×Addr×Value)} (r:KT H kvs xs) (k:List Key) {b:Addr} {y:V} {u:Value} (hb:H b=some (.tup (k.map kV))) (ry:RelV y u):
  KT H (putK kvs k y) (storedH xs k b u):=by
 have e:(kvs.any λkv=>decide (kv.1=k))=(atKey xs k).isSome:=by
  rw[ph,(r.val k).gE,Option.isSome_map]
 unfold putK storedH;rw[e]
 by_cases q:(atKey xs k).isSome=true
 ·rw[if_pos q,if_pos q];exact r.IK k ry
 ·rw[if_neg q,if_neg q];exact Paired.snoc r ⟨rfl,hb,ry⟩
theorem KT.keeps {H H':Hp} {kvs:List (List Key×V)} {xs:List (List Key×Addr×Value)} (r:KT H kvs xs) (ht:∀b ys,H b=some (.tup ys)->H' b=some (.tup ys)):KT H' kvs xs:=
 Paired.Ih r λ_ _ z=>⟨z.1,ht _ _ z.2.1,z.2.2⟩
section
variable {P : Program} {w : World} {H : Hp} {h : Heap} {a : Addr}
theorem G8 {u:HO} (ok:iJ P w H h) (e:Rd H a u):cX P w H h a u:=e.ok ok
theorem rM {kvs:List (Key×V)} (ok:iJ P w H h) (e:Rd H a (.dK kvs)):kvs.length<=sizeLine/\(a==sysModules)=false/\∃vs,KV kvs vs/\h.DictOf (cC P w) a vs:=
 show cX P w H h a (.dK kvs) from G8 ok e
theorem G9 {kvs:List (Key×V)} (ok:iJ P w H h) (e:H a=some (.dK kvs)):kvs.length<=sizeLine/\(a==sysModules)=false/\∃vs,KV kvs vs/\h.DictOf (cC P w) a vs:=rM ok (.inl e)
theorem pA {ks:List Key} (ok:iJ P w H h) (e:H a=some (.tup (ks.map kV))):(tupleKind (cC P w)).is h ks a:=by
 obtain⟨_,aW,r,o,h1,h2,n,h3⟩:=(show cX P w H h a (.tup (ks.map kV)) from ok a _ e)
 exact⟨o,aW.toArray,n,h1,h2,h3,by simpa using rL r⟩
theorem vg {kvs:List (List Key×V)} (ok:iJ P w H h) (e:Rd H a (.dT kvs)):kvs.length<=sizeLine/\(a==sysModules)=false/\
  ∃xs,KT H kvs xs/\h.DictOfH (tupleKind (cC P w)) a xs:=by
 obtain⟨z,y,xs,r,o,es,ep,h1,h2,h3,h4,h5⟩:=(show cX P w H h a (.dT kvs) from G8 ok e)
 refine⟨z,y,xs,r,o,es,ep,h1,h2,h3,h4,λx hx=>?_,h5⟩;have all:∀{l:List (List Key×V)} {m:List (List Key×Addr×Value)},KT H l m->∀x∈m,(tupleKind (cC P w)).is h x.1 x.2.1:=by
  intro l m q
  induction q with
  | nil=>intro x hx;exact nomatch hx
  | @cons p q ps qs hq t ih=>
   intro x hx;rcases ZT.mp hx with e | hx
   ·subst e;exact pA ok (by rw[<-hq.1];exact hq.2.1)
   ·exact ih x hx
 exact all r x hx
theorem LJ {kvs:List (List Key×V)} (ok:iJ P w H h) (e:H a=some (.dT kvs)):kvs.length<=sizeLine/\(a==sysModules)=false/\
  ∃xs,KT H kvs xs/\h.DictOfH (tupleKind (cC P w)) a xs:=vg ok (.inl e)
end
abbrev mh (H:Hp) (a:Addr) (y:V) (r:Option V):Prop:=
 (∃kvs k,Rd H a (.dK kvs)/\y=kV k/\r=iS kvs k)\/∃kvs k b,Rd H a (.dT kvs)/\y=.ref b/\H b=some (.tup (k.map kV))/\r=iS kvs k
abbrev xW (H:Hp) (a:Addr) (y v:V) (H':Hp):Prop:=
 (∃kvs k,H a=some (.dK kvs)/\y=kV k/\kvs.length<sizeLine/\H'=upd H a (.dK (putK kvs k v)))\/
 ∃kvs k b,H a=some (.dT kvs)/\y=.ref b/\H b=some (.tup (k.map kV))/\kvs.length<sizeLine/\H'=upd H a (.dT (putK kvs k v))
theorem xW.k {H:Hp} {a:Addr} {kvs:List (Key×V)} {k:Key} {v:V} (e:H a=some (.dK kvs)) (hl:kvs.length<sizeLine):xW H a (kV k) v (upd H a (.dK (putK kvs k v))):=.inl ⟨kvs,k,e,rfl,hl,rfl⟩
section
variable {X : Cx} {pins : List (Addr × Obj)} {σ : St} {H : Hp} {s : Shared} {a : Addr} {y v : V} {u r : Value} {o : Option V} {A : Around} {E : Value -> Shared -> Prop}
theorem Inv.Fx (I:Inv X pins σ H s):sysModules<s.heap.objs.size:=by
 have h:mainGlobals<s.heap.objs.size:=(I.mod.glob.keeps I.bk).lt;exact Nat.lt_trans ∅ h
theorem AK {Q:Value->Shared->Prop} (hu:A.units+1<cLine) (I:Inv X pins σ H s) (g:mh H a y (some v)) (ry:RelV y u) (h:∀w' s',Inv X pins σ H s'->RelV v w'->Q w' s'):
  wpAny (model X.prog X.w) A (getItem (.ref a) u) Q E s:=by
 rcases g with ⟨kvs,k,e,ey,l⟩ | ⟨kvs,k,b,e,ey,eb,l⟩
 ·subst ey;obtain⟨z,hd,vs,rel,dd⟩:=rM I.cw e;obtain⟨w',hw,l7⟩:=jC.some_of (v:=v) (o:=valueAt vs k) (by rw[l];exact rel.val k);exact wpAny_getItem_of (mX ry) dd.mapOf hw (h w' _ (I.tok _) l7)
 ·subst ey;cases (show u=Value.ref b from ry);obtain⟨z,hd,xs,rel,dd⟩:=vg I.cw e;obtain⟨w',hw,l7⟩:=jC.some_of (v:=v) (o:=(atKey xs k).map (·.2)) (by rw[l];exact rel.val k);obtain⟨p,hp,lU⟩:=aas.mp hw;refine wpAny_getItem_heap (tupleKind_room_in1 hu) (pA I.cw eb) dd hp ?_;rw[lU];exact h w' _ (I.tok _) l7
theorem O8 {Q:Value->Shared->Prop} (hu:A.units+1<cLine) (I:Inv X pins σ H s) (g:mh H a y o) (ry:RelV y u) (h:∀s',Inv X pins σ H s'->Q (.bool o.isSome) s'):
  wpAny (model X.prog X.w) A (compareOp .In u (.ref a)) Q E s:=by
 rcases g with ⟨kvs,k,e,ey,l⟩ | ⟨kvs,k,b,e,ey,eb,l⟩
 ·subst ey;obtain⟨z,hd,vs,rel,dd⟩:=rM I.cw e;refine wpAny_in_of (mX ry) hd dd.mapOf ?_;rw[<-(rel.val k).gE,<-l];exact h _ (I.tok _)
 ·subst ey;cases (show u=Value.ref b from ry);obtain⟨z,hd,xs,rel,dd⟩:=vg I.cw e;refine wpAny_in_heap (tupleKind_room_in1 hu) (pA I.cw eb) hd dd ?_;have q:=(rel.val k).gE;rw[Option.isSome_map] at q;rw[<-q,<-l];exact h _ (I.tok _)
theorem Fy {Q:Value->Shared->Prop} (hu:A.units+1<cLine) (I:Inv X pins σ H s) (g:mh H a y o) (ry:RelV y u) (h:∀s',Inv X pins σ H s'->Q (.bool (!o.isSome)) s'):
  wpAny (model X.prog X.w) A (compareOp .NotIn u (.ref a)) Q E s:=by
 rcases g with ⟨kvs,k,e,ey,l⟩ | ⟨kvs,k,b,e,ey,eb,l⟩
 ·subst ey;obtain⟨z,hd,vs,rel,dd⟩:=rM I.cw e;refine wpAny_notIn_of (mX ry) hd dd.mapOf ?_;rw[<-(rel.val k).gE,<-l];exact h _ (I.tok _)
 ·subst ey;cases (show u=Value.ref b from ry);obtain⟨z,hd,xs,rel,dd⟩:=vg I.cw e;refine wpAny_notIn_heap (tupleKind_room_in1 hu) (pA I.cw eb) hd dd ?_;have q:=(rel.val k).gE;rw[Option.isSome_map] at q;rw[<-q,<-l];exact h _ (I.tok _)
theorem tF {h':Heap} {t':Nat} {ob:HO} (I:Inv X pins σ H s) (mu:Lg (H a)) (hs:Heap.SameBut a s.heap h') (he:∃q,h'.get? a=some q) (new:cX X.prog X.w (upd H a ob) h' a ob):
  Inv X pins σ (upd H a ob) {s with heap:=h',toks:=t'}:=
 I.write (x:=a) (e:=a) mu (.inl rfl) (λb q hb z=>(hs.2 b hb).trans z) he new
theorem B6 {P:Program} {w:World} {H':Hp} {h':Heap} {kvs:List (Key×V)} {vs:List (Key×Value)} (z:kvs.length<=sizeLine) (hd:(a==sysModules)=false) (rel:KV kvs vs) (dd:h'.DictOf (cC P w) a vs):
  cX P w H' h' a (.dK kvs):=⟨z,hd,vs,rel,dd⟩
theorem AL {H':Hp} {Q:Unit->Shared->Prop} (hu:A.units+1<cLine) (I:Inv X pins σ H s) (g:xW H a y v H') (ry:RelV y u) (rv:RelV v r) (h:∀s',Inv X pins σ H' s'->Q () s'):
  wpAny (model X.prog X.w) A (setItem (.ref a) u r) Q E s:=by
 rcases g with ⟨kvs,k,e,ey,l,eH⟩ | ⟨kvs,k,b,e,ey,eb,l,eH⟩
 ·subst ey eH;obtain⟨z,hd,vs,rel,dd⟩:=G9 I.cw e;have hz:vs.length<=sizeLine:=by rw[<-rel.length];exact z
  have hl:(putK kvs k v).length<=sizeLine:=by have:=mW kvs k v;lia
  refine wpAny_setItem_pairs (hsz:=hz) (mX ry) dd λh' Fz hs=>h _ ?_;have he:∃q,h'.get? a=some q:=let ⟨q,_,_,hq,_⟩:=Fz;⟨q,hq⟩;exact tF I (by rw[e];exact True.intro) hs he (B6 hl hd (rel.put k rv) Fz)
 ·subst ey eH;cases (show u=Value.ref b from ry);obtain⟨z,hd,xs,rel,dd⟩:=LJ I.cw e;have hz:xs.length<=sizeLine:=by rw[<-Paired.length rel];exact z
  have hl:(putK kvs k v).length<=sizeLine:=by have:=mW kvs k v;lia
  refine wpAny_setItem_heap (hsz:=hz) (tupleKind_room_in1 hu) (pA I.cw eb) dd λh' Fz hs=>h _ ?_;obtain⟨q,es,ep,hq,h2,h3,h4,_,h5⟩:=Fz;refine tF I (by rw[e];exact True.intro) hs ⟨q,hq⟩ ⟨hl,hd,_,(rel.put k eb rv).keeps λc ys ec=>?_,q,es,ep,hq,h2,h3,h4,h5⟩;rw[aK (Lf ec e (λz=>nomatch z))];exact ec
end
section
variable {X : Cx} {pins : List (Addr × Obj)} {σ : St} {H : Hp} {s : Shared} {a : Addr} {kvs : List (Key × V)} {k : Key} {u : Value} {A : Around} {E : Value -> Shared -> Prop}
end
abbrev LK (i:Expr):Prop:=∀ov iv,subscripted i false ov iv=operate [ov,iv] (getItem ov iv)
theorem FA {prog:Program} {w:World} {A:Around} {E:Value->Shared->Prop} {s:Shared} {env:Env} {value slice:Expr} {pos:Pos} {T id:String} {Q:Value->Shared->Prop}
  (hl:typeLookup (.type T) "__getitem__"=pure (some (.builtin id))) (hs:LK slice)
  (h:wpAny (model prog w) A (eval value env) (λo s₁=>wpAny (model prog w) A (eval slice env) (λi s₂=>s₂.TypeIs o T/\wpAny (model prog w) A (getItem o i) Q E s₂) E s₁) E s):
  wpAny (model prog w) A (eval (.Subscript value slice pos) env) Q E s:=by
 refine Subscript_ (wpAny_mono h (λo s₁ h₁=>wpAny_mono h₁ (λi s₂ h₂=>?_) λ_ _ x=>x) λ_ _ x=>x);obtain⟨hT,h₂⟩:=h₂;unfold subscriptTail;refine wpAny_bind ?_;rw[getitemInPython_of_ne hT.not_modules];refine wpAny_bind (wpAny_specialOf hT hl ?_);have fin:wpAny (model prog w) A (subscripted slice false o i) (λr s₃=>wpAny (model prog w) A (letTemporaryGo value o r >>=λ_=>pure r) Q E s₃) E s₂:=by
  rw[hs o i];exact wpAny_operating (wpAny_mono h₂ (λr s₃ h₃=>wpAny_bind (wpAny_letTemporaryGo (wpAny_pure h₃))) λ_ _ x=>x)
 first
  | exact wpAny_pure (wpAny_bind fin)
  | exact wpAny_bind (wpAny_pure (wpAny_bind fin))
  | exact wpAny_bind fin
theorem vh {X:Cx} {pins:List (Addr×Obj)} {σ:St} {H:Hp} {s:Shared} {a:Addr} {y:V} {o:Option V} (I:Inv X pins σ H s) (g:mh H a y o):s.TypeIs (.ref a) "dict":=by
 rcases g with ⟨kvs,k,e,_,_⟩ | ⟨kvs,k,b,e,_,_,_⟩
 ·obtain⟨_,_,vs,_,dd⟩:=rM I.cw e;exact dd.typeIs
 ·obtain⟨_,_,xs,_,dd⟩:=vg I.cw e;exact dd.typeIs
abbrev tDGet (td ty:TE):TE:=λσ H Q=>td σ H λx H1=>ty σ H1 λy H2=>∃a v,x=.ref a/\mh H2 a y (some v)/\Q v H2
abbrev tDIn (ty td:TE):TE:=λσ H Q=>ty σ H λy H1=>td σ H1 λx H2=>∃a o,x=.ref a/\mh H2 a y o/\Q (.bl o.isSome) H2
abbrev tDNotIn (ty td:TE):TE:=λσ H Q=>ty σ H λy H1=>td σ H1 λx H2=>∃a o,x=.ref a/\mh H2 a y o/\Q (.bl (!o.isSome)) H2
abbrev sDPut (td ty tv:TE):TS:=λD σ H=>tv σ H λv H1=>td σ H1 λx H2=>ty σ H2 λy H3=>∃a H4,x=.ref a/\xW H3 a y v H4/\D.nx σ H4
section
variable {X : Cx} {o i e value : Expr} {pos pos' jV : Pos} {td ty tv : TE}
theorem FC (hu:X.A.units+1<cLine) (ho:PE X o td) (hi:PE X i ty) (hs:LK i):PE X (.Subscript o i pos) (tDGet td ty):=by
 intro pins s σ H Q I h;refine FA PySem.F.slot_dict_getitem.lookup hs (cO (ho pins s σ H _ I h) λu s1 ⟨x,H1,I1,rx,q1⟩=>cO (hi pins s1 σ H1 _ I1 q1) λiv s2 dB=>?_);obtain⟨y,H2,I2,ry,a,v,ex,g,q2⟩:=dB;subst ex;obtain rfl:u=Value.ref a:=rx;exact⟨vh I2 g,AK hu I2 g ry λw' s3 I3 l7=>⟨v,H2,I3,l7,q2⟩⟩
theorem B7 (hu:X.A.units+1<cLine) (hi:PE X i ty) (ho:PE X o td):PC X .In i o (tDIn ty td):=by
 intro pins s σ H Q I h;refine cO (hi pins s σ H _ I h) λiv s1 ⟨y,H1,I1,ry,q1⟩=>cO (ho pins s1 σ H1 _ I1 q1) λu s2 dB=>?_;obtain⟨x,H2,I2,rx,a,ov,ex,g,q2⟩:=dB;subst ex;obtain rfl:u=Value.ref a:=rx;exact O8 hu I2 g ry λs3 I3=>⟨.bl ov.isSome,H2,I3,rfl,q2⟩
theorem AM (hu:X.A.units+1<cLine) (hi:PE X i ty) (ho:PE X o td):PC X .NotIn i o (tDNotIn ty td):=by
 intro pins s σ H Q I h;refine cO (hi pins s σ H _ I h) λiv s1 ⟨y,H1,I1,ry,q1⟩=>cO (ho pins s1 σ H1 _ I1 q1) λu s2 dB=>?_;obtain⟨x,H2,I2,rx,a,ov,ex,g,q2⟩:=dB;subst ex;obtain rfl:u=Value.ref a:=rx;exact Fy hu I2 g ry λs3 I3=>⟨.bl (!ov.isSome),H2,I3,rfl,q2⟩
theorem y9 (hu:X.A.units+1<cLine) (ho:PE X o td) (hi:PE X i ty) (hv:PE X value tv) (hs:swapsWith value (some (.Subscript o i pos')) pos.line X.env=pure false):
  PS X (.Assign [.Subscript o i pos'] value pos) (sDPut td ty tv):=by
 intro pins s σ H D I h;refine wpAny_Assign_Subscript (cO (hv pins s σ H _ I h) λr s1 ⟨v,H1,I1,rv,q1⟩=>cO (ho pins s1 σ H1 _ I1 q1) λu s2 ⟨x,H2,I2,rx,q2⟩=>cO (hi pins s2 σ H2 _ I2 q2) λiv s3 dB=>?_) hs;obtain⟨y,H3,I3,ry,a,H4,ex,g,q3⟩:=dB;subst ex;obtain rfl:u=Value.ref a:=rx;exact AL hu I3 g ry rv λs4 I4=>⟨σ,H4,I4,q3⟩
end
theorem vi {P:Program} {w:World} {H:Hp} (h:Heap) (hb:sysModules<h.objs.size):cX P w H (h.push {cls:=.type "dict",data:=.dict #[]}) h.objs.size (.dK []):=
 ⟨Y1 _,beq_eq_false_iff_ne.mpr (Ne.symm (YW hb)),[],.nil,Heap.DictOf.new h⟩
abbrev tDNewK:TE:=λ_ H Q=>∀p,H p=none->Q (.ref p) (upd H p (.dK []))
section
variable {X : Cx} {pos : Pos}
theorem B8:PE X (.Dict [] [] pos) tDNewK:=λpins s σ H Q I h=>
 wpAny_Dict_empty ⟨.ref s.heap.objs.size,_,I.laid (a:=s.heap.objs.size) (o:=.dK []) (t':=s.toks) (λ_ _ q=>aaw _ q) (YR _) (vi s.heap I.Fx),rfl,h _ (I.cw.fresh (YR _))⟩
end
@[inline]abbrev VV:List (V×V)->List (Value×Value)->Prop:=Paired λp q=>RelV p.1 q.1/\RelV p.2 q.2
structure M1 (X:Cx) (o:Expr) (m:Str) (apos:Pos) (e:Expr) (iL:Pos):Prop where
 base:attributeBase o m X.env (eval o X.env)=eval o X.env
 vj:((backTo iL (starEach [e] X.env)).all (λx=>!x.1) && (backToKw iL (keywordEach [] X.env)).all (λx=>x.1.isSome)
  && decide (([e]:List Expr).length+ ([]:List Keyword).length+ (if ([]:List Keyword).isEmpty then 0 else 1)<30))=true
 line:(apos.endLine==iL.line)=true
 trees:backTo iL (starEach [e] X.env)=[(false,eval e X.env)]
structure M2 (X:Cx) (o:Expr) (m:Str) (apos:Pos) (e f:Expr) (iL:Pos):Prop where
 base:attributeBase o m X.env (eval o X.env)=eval o X.env
 vj:((backTo iL (starEach [e,f] X.env)).all (λx=>!x.1) && (backToKw iL (keywordEach [] X.env)).all (λx=>x.1.isSome)
  && decide (([e,f]:List Expr).length+ ([]:List Keyword).length+ (if ([]:List Keyword).isEmpty then 0 else 1)<30))=true
 line:(apos.endLine==iL.line)=true
 trees:backTo iL (starEach [e,f] X.env)=[(false,eval e X.env),(false,eval f X.env)]
abbrev O9 (H:Hp) (a:Addr):Prop:=(∃kvs,Rd H a (.dK kvs))\/∃kvs,Rd H a (.dT kvs)
section
variable {X : Cx} {pins : List (Addr × Obj)} {σ : St} {H : Hp} {s : Shared} {a : Addr} {y d : V} {u r : Value} {o : Option V} {A : Around} {E : Value -> Shared -> Prop}
end
abbrev tDGet1 (td ty:TE):TE:=λσ H Q=>td σ H λx H1=>∃a,x=.ref a/\O9 H1 a/\ty σ H1 λy H2=>∃o,mh H2 a y o/\Q (o.getD .cJ) H2
abbrev tDGet2 (td ty tx:TE):TE:=λσ H Q=>td σ H λx H1=>∃a,x=.ref a/\O9 H1 a/\ty σ H1 λy H2=>tx σ H2 λz H3=>∃o,mh H3 a y o/\Q (o.getD z) H3
abbrev tDPop1 (td ty:TE):TE:=λσ H Q=>td σ H λx H1=>∃a,x=.ref a/\O9 H1 a/\ty σ H1 λy H2=>∃kvs k v,H2 a=some (.dK kvs)/\y=kV k/\iS kvs k=some v/\Q v (upd H2 a (.dK (LI kvs k)))
section
variable {X : Cx} {o e f : Expr} {apos iL : Pos} {td ty tx : TE}
end
section
variable {X : Cx} {pins : List (Addr × Obj)} {σ : St} {H : Hp} {s : Shared} {a : Addr} {kvs : List (Key × V)} {A : Around} {E : Value -> Shared -> Prop}
end
section
variable {X : Cx} {pins : List (Addr × Obj)} {σ : St} {H : Hp} {s : Shared} {a : Addr} {y : V} {u : Value} {A : Around} {E : Value -> Shared -> Prop}
end
end L2
namespace EZ
open PySem PySem.W PySem.Calls PyProof.Rows
theorem nI {P:Params} {h:Heap}:∀(ns:List Int) (vs:List Value),WellAll P h vs (ns.map WData.int)->IntsAre vs ns:=by
 intro ns
 induction ns with
 | nil=>
  intro vs w;rw[ZE] at w;cases w;exact .nil
 | cons n ns ih=>
  intro vs w;rw[Y8] at w;cases w with
  | cons a b=>
   cases a;exact .cons _ _ (ih _ b)
theorem AN {l:OpenLaw} {n:Nat} (hn:l.most=some n) {P:Params} {h:Heap} {args:List WData} {vals:List Value}
  (FD:l.row.toRowW.claim.pre args=true) (xq:WellAll P h vals args):
  ∃a vs ns,vals=[Value.ref a]/\args=[WData.list (ns.map WData.int)]/\h.get? a=some {cls:=.type "list",data:=.seq vs.toArray}/\IntsAre vs ns/\ns.length<=n:=by
 have iC:WShape.hasAll [] args [.list .int]=true:=(pre_splitW FD).1;have hc:l.pre.holds [] {args:=args}=true:=(pre_splitW FD).2;obtain⟨d,r,rfl,h1,h2⟩:=hasAllW_cons iC;obtain rfl:=hasAllW_nil h2;obtain⟨xs,rfl,h3⟩:=hasW_list h1;obtain⟨ns,rfl⟩:=items_int h3;have hlen:ns.length<=n:=by
  unfold OpenLaw.pre at hc;have h4:(WTm.not (.lt (.lit (.int (n:Int))) (.len (.arg 0)))).holds [] {args:=[.list (ns.map .int)]}=true:=by
   have h4:=(holds_andW hc).1;rw[hn] at h4;exact h4
  have h5:=condW_of h4 (w_not (w_lt w_lit (w_len_list (w_arg rfl))));rw[YL] at h5;refine Nat.le_of_not_lt λq=>?_;have q':(n:Int)< ((ns.length:Nat):Int):=⋯
  first
   | (rw[decide_eq_true q'] at h5;exact absurd h5 ∅)
   | (simp at h5;lia)
 cases xq with
 | cons w1 w2=>
  cases w2;cases w1 with
  | list ho AO=>exact⟨_,_,ns,rfl,rfl,ho,nI ns _ AO,hlen⟩
theorem AQ (l:OpenLaw) (args:List WData):l.row.toRowW.claim.post args (.bool true) args=true:=
 postW_of (r:=l.row.toRowW) (X:=(true==true))
  (show WShape.has [] (.bool true) .bool=true by first | rfl | decide | simp [WShape.has,WShape.arms,WShape.armsAll])
  (show(WTm.eq .res (.lit (.bool true))).value [] {args:=args,res:=some (.bool true),after:=args}=some (.bool (true==true)) from w_eq_bool (w_res rfl) w_lit) rfl
theorem vk {l:OpenLaw} {n:Nat} {q:Program} {loose:List Str} {XP:(Str->Option Value)->Heap->Prop} {YP:World->Heap->Prop} {d:DefRec}
  (hn:l.most=some n) (LL:d.params.defaults=[])
  (call:∀(w:World) (s₀ s₁:Shared) (mg mb:Str->Option Value) (fa:Addr) (o:Obj) (pm cd doc:Value) (a:Addr) (vs:List Value) (ns:List Int),
   Ground q loose [] XP w s₀ mg mb s₁.heap->YP w s₁.heap->
   s₁.heap.get? fa=some o->o.data=.func (docDef d.name d.params d.body d.scope pm cd doc)->s₁.heap.CodeRec cd d.name->mg d.name=some (.ref fa)->
   s₁.heap.get? a=some {cls:=.type "list",data:=.seq vs.toArray}->IntsAre vs ns->ns.length<=n->s₁.gens=#[]->
   codeAny (model l.prog w) callerA (.call (.ref fa) ⟨[.ref a],[]⟩) (λr s'=>r=.ok (.ret (.bool true))/\OldK s₁.heap s'.heap/\s'.os=s₁.os/\AllBare s'.gens) s₁):
  WalkO q loose XP YP l.row.toRowW d [] (λf vs=>PySem.call f vs):=by
 intro w s₀ s₁ mg mb G Y fa o pm cd doc dV kV ho hd u3 hD LM hg args vals as FD TN XQ xq XR;obtain rfl:dV=.none:=Dflts.none hD LL;obtain rfl:kV=.none:=Dflts.noKw hD;obtain⟨a,vs,ns,rfl,rfl,IL,hints,hlen⟩:=AN hn FD xq;refine enter_call (codeAny_mono (call w s₀ s₁ mg mb fa o pm cd doc a vs ns G Y ho (fd_plain hd) u3 LM IL hints hlen hg) λr s' hq=>?_);obtain⟨rfl,h2,h3,h4⟩:=hq;exact⟨.inl ⟨.bool true,.bool true,[],rfl,λ_=>rfl,.bool true,AQ l _,λ_=>⟨List.Pairwise.nil,λ_ hm=>(nomatch hm)⟩⟩,h2,h3,h4⟩
section
variable {prog : Program} {w : World} {A : Around} {E : Value -> Shared -> Prop} {s : Shared} {K : Frag}
abbrev tG (h:Heap):Heap:={h with objs:=#[]}
theorem pC (h:Heap) (b:Addr):(tG h).get? b=none:=by
 cases e:(tG h).get? b with
 | none=>rfl
 | some o=>exact absurd (aay e) (ZF _)
abbrev ledger (h:Heap) (L d:Addr):List (Addr×Obj):=(List.range h.objs.size).filterMap λa=>if a=L\/a=d then none else (h.get? a).map λo=>(a,o)
set_option tactic.hygienic true in
theorem ia {h:Heap} {L d a:Addr} {o:Obj}:(a,o)∈ledger h L d↔a≠L/\a≠d/\h.get? a=some o:=by
 unfold ledger;rw[List.mem_filterMap];constructor
 ·rintro⟨b,_,e⟩
  split at e
  ·cases e
  ·rename_i hb
   obtain⟨o',ho,e'⟩:=aas.mp e;cases e';exact⟨λq=>hb (.inl q),λq=>hb (.inr q),ho⟩
 ·rintro⟨n1,n2,ho⟩;refine⟨a,List.mem_range.mpr (aay ho),?_⟩;rw[if_neg (show ¬(a=L\/a=d) from λq=>q.elim n1 n2),ho] <;>rfl
theorem IM {h:Heap} {L:Addr} {m:Str->Option Value} (n:h.Ns L m):Fr (tG h) L h m:=
 ⟨n,λb o e=>(by rw[pC] at e;cases e),Y1 _⟩
end
end EZ
namespace L2
open PySem PySem.Spec PyProof.Rows
theorem rN:∀{vs:List Value} {ns:List Int},IntsAre vs ns->br (ns.map V.int) vs
 | _,_,.nil=>.nil
 | _,_,.cons n t h=>.cons ⟨t,rfl⟩ (rN h)
end L2
namespace L2
open PySem PySem.Spec PyProof.Rows
@[inline]abbrev XS {K:aam} {h:Heap} (_:K.In h):aam:=K
end L2
namespace L2
open PySem PySem.Spec PyProof.Rows
abbrev inClass (s:Stmt) (j:Nat):Stmt:=match s with
 | .ClassDef _ _ _ body _ _ _ _ _ _ _=>body.getD j (.Pass ⟨0,0,0,0⟩)
 | _=>.Pass ⟨0,0,0,0⟩
abbrev de (s:Stmt):Arguments:=match s with
 | .FunctionDef _ a _ _ _ _ _ _ _ _=>a
 | _=>{posonlyargs:=[],args:=[],vararg:=none,kwonlyargs:=[],kw_defaults:=[],kwarg:=none,defaults:=[]}
abbrev cS (s:Stmt):List Stmt:=match s with
 | .FunctionDef _ _ b _ _ _ _ _ _ _=>b
 | _=>[]
abbrev au (s:Stmt):Scope:=match s with
 | .FunctionDef _ _ _ _ _ _ sc _ _ _=>sc
 | _=>{kind:=.function,names:=[],isGenerator:=false,isCoroutine:=false}
@[inline]abbrev XT:me:=λ_ _ _ _ _ _=>False
@[inline]abbrev E0:XK:=λ_ _ _=>False
structure xX (K:aam) (x qual:Str) (st:Stmt) (f:Addr) (fd:FuncData):Prop where
 ex:∃(oc:Value) (od:Option Addr) (kV doc pm:Value) (an:Option Addr) (cP ct:Value) (By:Array (Option Value)),
  fd=aap x qual (de st) (cS st) (au st) .none kV doc pm an cP ct/\K.lookup f=some ⟨oc,od,.func fd,By⟩/\aao K cP qual=true
 kp:aan K (.ref f)=true
section
variable {P : Program} {w : World} {K : aam} {mg : Str -> Option Value} {base : Heap}
theorem xX.binds {x qual:Str} {st:Stmt} {f:Addr} {fd:FuncData} {ps:List Str} (F:xX K x qual st f fd)
  (h:∀(kV doc pm:Value) (an:Option Addr) (cP ct:Value) (us:List Value),us.length=ps.length->bindArgs (aap x qual (de st) (cS st) (au st) .none kV doc pm an cP ct) ⟨us,[]⟩=pure (ps.zip us)):Binds K fd ps []:=by
 obtain⟨oc,od,kV,doc,pm,an,cP,ct,By,rfl,lk,u3⟩:=F.ex;exact .all (h kV doc pm an cP ct)
theorem mi {x qual:Str} {st:Stmt} {f:Addr} {oc:Value} {od an:Option Addr} {By:Array (Option Value)} {kV doc pm cP ct:Value} (l:K.lookup f=some ⟨oc,od,.func (aap x qual (de st) (cS st) (au st) .none kV doc pm an cP ct),By⟩)
  (c:aao K cP qual=true) (k:aan K (.ref f)=true):xX K x qual st f (aap x qual (de st) (cS st) (au st) .none kV doc pm an cP ct):=⟨⟨oc,od,kV,doc,pm,an,cP,ct,By,rfl,l,c⟩,k⟩
end
theorem rO {A:Around} {k:Nat} (hr:dZ k A):A.units+1<cLine:=ZG (Nat.add_le_add_left (by decide:1<=64) _) hr.units
section
variable {X : Cx}
theorem pv (i:Nat) {x:Str} {pos:Pos} (hN:X.N[i]?=some x:=by rfl) (hv:OE X.env.scope x:=by first | exact Or.inl rfl | exact Or.inr (.inl rfl) | exact Or.inr (.inr rfl)) (hd:(x==("__debug__":Str))=false:=by decide)
  (u3:(x==("__classdict__":Str))=false:=by decide):PE X (.Name x pos) (tVar i):=Il hN hv hd u3
end
theorem LN {A B:Prop} (h:A):if true=true then A else B:=by
 rw[if_pos rfl];exact h
theorem ib {c A B:Prop} [Decidable c] (h1:c->A) (h2:¬c->B):if c then A else B:=by
 by_cases h:c
 ·rw[if_pos h];exact h1 h
 ·rw[if_neg h];exact h2 h
abbrev aA (H H':Hp):Prop:=∀b o,H b=some o->H' b=some o
theorem aA.refl (H:Hp):aA H H:=λ_ _ h=>h
theorem aA.trans {H H1 H2:Hp} (a:aA H H1) (b:aA H1 H2):aA H H2:=λc o h=>b c o (a c o h)
theorem aA.seq {K:aam} {H H':Hp} {a:Addr} {xs:List V} (e:aA H H') (h:aS K H a xs):aS K H' a xs:=by
 rcases h with (h | ⟨o,h⟩) | h
 ·exact .inl (.inl (e _ _ h))
 ·exact .inl (.inr ⟨o,e _ _ h⟩)
 ·exact .inr h
end L2
namespace L2
open PySem PySem.Spec PyProof.Rows
section
variable {X : Cx}
end
section
variable {κ : Type} [DecidableEq κ]
end
end L2
namespace L2
open PySem PySem.Spec PyProof.Rows
abbrev Bt (n:Nat) (i:Int):Prop:=i.natAbs<2^n
theorem Bt.mono {m n:Nat} {i:Int} (h:Bt m i) (q:m<=n):Bt n i:=Y3 h (ZP ∅ q)
theorem Bt.bits {n:Nat} {i:Int} (h:Bt n i):Builtin.Int.intBits i<=n:=PyProof.Rows.intBits_le h
theorem Bt.mul {m n:Nat} {i j:Int} (h1:Bt m i) (h2:Bt n j):Bt (m+n) (i*j):=by
 unfold Bt at *;rw[Zs,ZH];exact Nat.mul_lt_mul_of_lt_of_lt h1 h2
theorem Bt.add {n:Nat} {i j:Int} (h1:Bt n i) (h2:Bt n j):Bt (n+1) (i+j):=by
 unfold Bt at *;rw[Nat.pow_succ];generalize 2^n=p at *;lia
theorem Bt.neg {n:Nat} {i:Int} (h1:Bt n i):Bt n (-i):=by
 unfold Bt at *;lia
theorem Bt.sub {n:Nat} {i j:Int} (h1:Bt n i) (h2:Bt n j):Bt (n+1) (i - j):=by
 have h:=Bt.add h1 h2.neg;rw[<-Int.sub_eq_add_neg] at h;exact h
theorem Bt.le {n:Nat} {i j:Int} (h:Bt n j) (q:i.natAbs<=j.natAbs):Bt n i:=ZG q h
theorem Bt.of {n:Nat} {i:Int} (b:Nat) (h1:-(b:Int)<=i) (h2:i<=(b:Int)) (h:b<2^n:=by ac_rfl):Bt n i:=by
 unfold Bt;exact ZG ⋯ h
theorem Bt.log {n:Nat} {i:Int} (h:Bt n i) (q:n<=9000:=by decide):i.natAbs.log2<9000:=by
 by_cases z:i.natAbs=0
 ·rw[z];decide
 ·exact Y3 ((Nat.log2_lt z).mpr h) q
theorem Bt.dH {m n:Nat} {i j:Int} (h1:Bt m i) (h2:Bt n j) (q:m+n<=134217728:=by decide):IntMulOk i j:=mulOk_of_bits h1.bits h2.bits q
theorem df {i j:Int} (h1:-(2^64)<i:=by decide) (h2:i<2^64:=by decide):IntMulOk i j:=.of_left (intBits_le_64 h1 h2)
theorem pE {i j:Int} (h1:-(2^64)<j:=by decide) (h2:j<2^64:=by decide):IntMulOk i j:=.of_right (intBits_le_64 h1 h2)
section
variable {X : Cx}
theorem aV:l9 X (binaryOp .Mult) (rI IntMulOk λi j=>.int (i*j)):=Lo λ_ _ _ _ _ _ _ hc q=>mul_int q hc
abbrev gF (_ j:Int):Prop:=0<j/\j.natAbs.log2<9000
theorem gF.of {i j:Int} {n:Nat} (h:0<j) (b:Bt n j) (q:n<=9000:=by decide):gF i j:=⟨h,b.log q⟩
theorem gF.lit {i j:Int} (h:0<j:=by decide) (q:j.natAbs.log2<9000:=by decide):gF i j:=⟨h,q⟩
theorem eX:l9 X (binaryOp .FloorDiv) (rI gF λi j=>.int (i / j)):=Lo λi j _ _ _ _ _ hc q=>by
 have h1:(0:Int)<j:=hc.1;exact floordiv_int ⋯ (by rw[Int.fdiv_eq_ediv_of_nonneg i ⋯];exact q) (.inl (PyProof.noPylong_of_log2 hc.2))
abbrev za (_ j:Int):Prop:=j≠0/\j.natAbs.log2<9000
theorem za.of {i j:Int} {n:Nat} (h:j≠0) (b:Bt n j) (q:n<=9000:=by decide):za i j:=⟨h,b.log q⟩
theorem B9:l9 X (binaryOp .FloorDiv) (rI za λi j=>.int (i.fdiv j)):=Lo λ_ _ _ _ _ _ _ hc q=>floordiv_int hc.1 q (.inl (PyProof.noPylong_of_log2 hc.2))
theorem dh:l9 X (binaryOp .Mod) (rI (λ_ j=>0<j) λi j=>.int (i % j)):=Iz
abbrev rIxTH:R2:=λx y H Q=>∃p xs i v,x=.ref p/\y=.int i/\H p=some (.tup xs)/\eV xs i=some v/\Q v H
theorem aL:G7 X rIxTH:=λvalue slice pins s σ H x y v u Q I rx ry ⟨p,xs,i,z,e1,e2,e3,e4,q⟩ hs=>
 ID value slice pins s σ H x y v u Q I rx ry ⟨p,xs,i,z,e1,e2,fV.of e3,e4,q⟩ hs
abbrev rIxLH:R2:=λx y H Q=>∃p xs i v,x=.ref p/\y=.int i/\H p=some (.lst xs)/\eV xs i=some v/\Q v H
theorem aJ:G7 X rIxLH:=λvalue slice pins s σ H x y v u Q I rx ry ⟨p,xs,i,z,e1,e2,e3,e4,q⟩ hs=>
 y8 value slice pins s σ H x y v u Q I rx ry ⟨p,xs,i,z,e1,e2,aS.of e3,e4,q⟩ hs
abbrev tTupS (t:TA):TE:=λσ H Q=>t σ H λxs H1=>xs.length<=sizeLine/\∀p H2,aA H1 H2->H1 p=none->H2 p=some (.tup xs)->Q (.ref p) H2
theorem ar {H:Hp} {p:Addr} {o:HO} (h:H p=none):aA H (upd H p o):=λb u e=>by
 rw[aK (bE e h)];exact e
theorem cy {es:List Expr} {t:TA} {x1} {pos:Pos} (h:PA X es t):PE X (.Tuple es x1 pos) (tTupS t):=λpins s σ H Q I hq=>
 cO (h:=wpAny_Tuple_spliced (cO (h pos pins s σ H _ I hq) λus s1 ⟨xs,H1,I1,r,z,q⟩=>⟨by rw[<-r.length];exact z,by
  have hf:H1 s1.heap.objs.size=none:=I1.cw.fresh (YR _);refine⟨.ref s1.heap.objs.size,upd H1 s1.heap.objs.size (.tup xs),I1.laid (t':=s1.toks) (λb u e=>aaw _ e) (YR _) ?_,rfl,q _ _ (ar hf) hf ag⟩;exact⟨z,us,r,⟨_,aax _ rfl,rfl,_,rfl⟩⟩⟩)) λ_ _ z=>z
theorem bu:c7 X (.builtin "len") (λxs H Q=>∃p ys,xs=[.ref p]/\H p=some (.lst ys)/\Q (.int ys.length) H):=λpins s σ H xs us Q I r ⟨p,ys,e,h,q⟩=>
 kQ pins s σ H xs us Q I r ⟨p,ys,e,.inl (aS.of h),q⟩
theorem AR:c7 X (.builtin "len") (λxs H Q=>∃p ns,xs=[.ref p]/\aS X.K H p (List.map V.int ns)/\Q (.int (List.length ns:Nat)) H):=λpins s σ H xs us Q I r ⟨p,ns,e,h,q⟩=>
 kQ pins s σ H xs us Q I r ⟨p,_,e,.inl h,by rw[YL];exact q⟩
abbrev IP (K:aam):R2:=λx y H Q=>∃p ns i,x=.ref p/\y=.int i/\aS K H p (List.map V.int ns)/\0<=i/\i< (List.length ns:Nat)/\Q (.int (ns.getD i.toNat 0)) H
theorem dP {ns:List Int} {i:Int} (h0:0<=i) (h1:i< (ns.length:Nat)):eV (ns.map V.int) i=some (.int (ns.getD i.toNat 0)):=by
 obtain⟨j,rfl⟩:=Y2 h0;refine bA ?_;have hj:j<ns.length:=⋯
 rw[YO,YM hj];simp [YN,YM hj]
theorem Ca:G7 X (IP X.K):=λvalue slice pins s σ H x y v u Q I rx ry ⟨p,ns,i,e1,e2,e3,h0,h1,q⟩ hs=>
 y8 value slice pins s σ H x y v u Q I rx ry ⟨p,_,i,_,e1,e2,e3,dP h0 h1,q⟩ hs
structure bK (P:Program) (w:World) (K:aam) (mg:Str->Option Value) (base:Heap) (CX:me) (k:Nat) (x:Str) (ps:List Str) (sp:Sp):Prop where
 ex:∃f fd,fz P w K mg base CX k f fd ps sp/\mg x=some (.ref f)/\aan K (.ref f)=true/\Binds K fd ps []
theorem aF {CX:me} {k:Nat} {x:Str} {ps:List Str} {sp:Sp} {E:XK} {e:Expr} {es:List Expr} {t:TA} {p pos:Pos} (C:bK X.prog X.w X.K X.mg X.base CX k x ps sp) (hr:dZ k X.A) (hg:Gl X x) (hx:fJ CX X E) (ha:PA X (e::es) t)
  (BZ:(x==("__debug__":Str))=false:=by decide) (he:starEach (e::es) X.env=(false,eval e X.env)::starEach es X.env:=by injections) (hpl:(backTo pos (starEach es X.env)).any (·.1)=false:=by injections):
  PE X (.Call (.Name x p) (e::es) [] pos) (tCall sp [] E t):=by
 obtain⟨f,fd,F,hm,hk,hb⟩:=C.ex;exact Fo F hr hg hm hk hb .nil hx ha BZ he hpl
end
abbrev tH (CX:me):Prop:=∀outer H s e s',¬CX outer H s (λ_ _ _=>False) e s'
theorem tH.pass {CX:me} (h:tH CX) {X:Cx}:fJ CX X E0:=λ_ _ H s e s' _ z=>(h _ H s e s' z).elim
section
variable {P : Program} {w : World} {K : aam} {mg : Str -> Option Value} {base : Heap} {CX : me}
theorem xX.eJ {x qual:Str} {st:Stmt} {f:Addr} {fd:FuncData} {N ps:List Str} {k:Nat} {sp:Sp} (F:xX K x qual st f fd) (S:aN N ps (au st)) (len:∀vs H Q E,sp vs H Q E->vs.length=ps.length)
  (u9:∀(cP:Value) (A:Around) (outer:List Env) (s:Shared) (H:Hp) (vs:List V) (Q:VK) (E:XK),dZ k (A.deeper (envOfC qual (au st) s.heap.objs.size f cP))->sp vs H Q E->
   ∃t,xC (xT CX P w K mg base N qual (au st) f cP A outer s H E).KH (cS st) t/\t {nx:=λ_ H'=>Q .cJ H',rt:=Q} (start N vs) H):fz P w K mg base CX (k+1) f fd ps sp:=by
 obtain⟨oc,od,kV,doc,pm,an,cP,ct,By,rfl,lk,u3⟩:=F.ex;refine G6 lk u3 S len λA outer s H vs Q E hr EX=>?_;obtain⟨t,h,q⟩:=u9 cP A outer s H vs Q E hr EX;exact⟨t,h.KH,q⟩
structure Dn (K:aam) (mg:Str->Option Value) (x:Str) (st:Stmt):Prop where
 ex:∃f fd,xX K x x st f fd/\mg x=some (.ref f)
theorem Dn.eG {x:Str} {st:Stmt} {ps:List Str} {k:Nat} {sp:Sp} (D:Dn K mg x st)
  (hb:∀(kV doc pm:Value) (an:Option Addr) (cP ct:Value) (us:List Value),us.length=ps.length->bindArgs (aap x x (de st) (cS st) (au st) .none kV doc pm an cP ct) ⟨us,[]⟩=pure (ps.zip us))
  (h:∀f fd,xX K x x st f fd->fz P w K mg base CX k f fd ps sp):bK P w K mg base CX k x ps sp:=by
 obtain⟨f,fd,F,hm⟩:=D.ex;exact⟨f,fd,h f fd F,hm,F.kp,F.binds hb⟩
end
section
variable {X : Cx}
abbrev Ru (xs ys:List V):Bool:=(List.range (min xs.length ys.length)).all (λj=>EY (xs.getD j .cJ) (ys.getD j .cJ)) && xs.length==ys.length
abbrev rEqT:R2:=λx y H Q=>∃p q xs ys,x=.ref p/\y=.ref q/\H p=some (.tup xs)/\H q=some (.tup ys)/\xs.all fK=true/\ys.all fK=true/\Q (.bl (Ru xs ys)) H
abbrev rInT:R2:=λx y H Q=>∃p xs,y=.ref p/\H p=some (.tup xs)/\fK x=true/\xs.all fK=true/\Q (.bl (IG x xs)) H
end
theorem at0 {α:Type} {x:α} {l:List α}:eV (x::l) 0=some x:=bA (j:=0) rfl
theorem at1 {α:Type} {x y:α} {l:List α}:eV (x::y::l) 1=some y:=bA (j:=1) rfl
theorem at2 {α:Type} {x y z:α} {l:List α}:eV (x::y::z::l) 2=some z:=bA (j:=2) rfl
abbrev Pr (a b:Int):List V:=[.int a,.int b]
end L2
namespace Nm
abbrev g (a b:Int):Int:=(Int.gcd a b:Nat)
theorem IQ (a b:Int):0<=g a b:=Int.natCast_nonneg _
theorem pF {a b:Int} (h:b≠0):0<g a b:=by
 have:=Int.gcd_pos_of_ne_zero_right a h;unfold g;lia
theorem oB (a b:Int):g a b∣a:=Int.gcd_dvd_left ..
theorem ic (a b:Int):g a b∣b:=Int.gcd_dvd_right ..
theorem tI (a b:Int):g a b=g b a:=by unfold g;rw[Int.gcd_comm]
theorem IS {a b:Int} (h:0<b):g a b<=b:=ZQ h (ic a b)
theorem Cb (a b:Int):g (a.natAbs:Int) b=g a b:=by
 unfold g Int.gcd;rw[Int.natAbs_natCast]
theorem zb (a b:Int):g a (b.natAbs:Int)=g a b:=by
 rw[tI,Cb,tI]
theorem Ha (a b:Int):g (-a) b=g a b:=by
 unfold g Int.gcd;rw[Int.natAbs_neg]
theorem Cc {a b:Int} (ha:0<=a) (XU:0<b):g b (a % b)=g a b:=by
 unfold g Int.gcd;rw[Int.natAbs_emod_of_nonneg ha,Nat.gcd_comm b.natAbs,<-Nat.gcd_rec,Nat.gcd_comm]
theorem Cd {a:Int} (ha:0<=a):g a 0=a:=by
 unfold g;rw[Int.gcd_zero_right];lia
theorem Ce {a b:Int} (h:b≠0):g a b<=(b.natAbs:Int):=by
 rw[<-zb];exact IS ⋯
theorem FE {a b:Int} (h:b≠0):g (a / g a b) (b / g a b)=1:=by
 have p:0<Int.gcd a b:=Int.gcd_pos_of_ne_zero_right a h;unfold g;rw[Int.gcd_ediv_gcd_ediv_gcd p];rfl
theorem FF {a b:Int} (h:0<b):0<b / g a b:=Int.ediv_pos_of_pos_of_dvd h (IQ a b) (ic a b)
theorem AS (a b:Int):(a / g a b)*b=a* (b / g a b):=by
 rw[<-Int.mul_ediv_assoc _ (ic a b),Za a b,Int.mul_ediv_assoc _ (oB a b),Za]
theorem oC {q a b:Int} (h:q∣a*b) (c:Int.gcd a q=1):q∣b:=by
 have h1:=(Int.dvd_gcd_mul_iff_dvd_mul (k:=q) (n:=a) (m:=b)).mpr h;rw[Int.gcd_comm,c] at h1
 simpa using h1
theorem FG {p q p' q':Int} (h:0<q) (h':0<q') (e:g p q=1) (e':g p' q'=1) (c:p*q'=p'*q):p=p'/\q=q':=by
 have c1:Int.gcd p q=1:=by unfold g at e;lia
 have c2:Int.gcd p' q'=1:=by unfold g at e';lia
 have d1:q∣q':=by
  have:q∣p*q':=⟨p',by rw[c,Za]⟩
  exact oC this c1
 have d2:q'∣q:=by
  have:q'∣p'*q:=⟨p,by rw[<-c,Za]⟩
  exact oC this c2
 have eq:q=q':=by
  have:=ZQ h' d1;have:=ZQ h d2;lia
 subst eq;exact⟨Int.eq_of_mul_eq_mul_right ⋯ c,rfl⟩
theorem fL {a g:Int} (_h:0<g) (d:g∣a):(a / g).natAbs<=a.natAbs:=by
 rw[Int.natAbs_ediv_of_dvd d];exact Nat.div_le_self _ _
theorem back {a b c d p q x y:Int} (hq:0<q) (hd:0<d) (e:p* (b*d)=(a*d - c*b)*q) (f:x* (q*d)=(p*d+c*q)*y):x*b=a*y:=by
 have h:(x*b)* (q*d)=(a*y)* (q*d):=by grind
 exact Int.eq_of_mul_eq_mul_right (by have:=Zd hq hd;lia) h
end Nm
namespace L2
open PySem PySem.Spec PyProof.Rows PySem.W
theorem cX.get {P:Program} {w:World} {H:Hp} {h:Heap} {a:Addr}:∀{o:HO},cX P w H h a o->∃ob,h.get? a=some ob
 | .lst _,x=>let ⟨_,_,_,_,e⟩:=x;⟨_,e⟩
 | .tup _,x=>let ⟨_,_,_,o,e,_⟩:=x;⟨o,e⟩
 | .dK _,x=>let ⟨_,_,_,_,o,_,_,e,_⟩:=x;⟨o,e⟩
 | .dT _,x=>let ⟨_,_,_,_,o,_,_,e,_⟩:=x;⟨o,e⟩
 | .set _ _,x=>by
  obtain⟨o,es,ep,t,e,_⟩:=x;exact⟨o,e⟩
 | .ins _ _ _,x=>let ⟨_,_,_,e,_⟩:=x;⟨_,e⟩
 | .own _,x=>x
 | .xd _,x=>by
  obtain⟨mA,⟨o,es,ep,e,_⟩,_⟩:=x;exact⟨o,e⟩
 | .qH _ _,x=>let ⟨_,_,_,e⟩:=x;⟨_,e⟩
 | .xn _ _,x=>⟨_,x.1⟩
 | .rj _,⟨_,x,_⟩=>⟨_,x⟩
 | .met _ _,x=>⟨_,x⟩
 | .ext _,x=>x.2.1
structure TQ (P:Program) (w:World) (l:List Env) (H:Hp) (s:Shared) (H':Hp) (ad:Addr) (cls:Value) (s':Shared):Prop where
 os:s'.os=s.os
 bare:AllBare s'.gens
 un:Un (uY l) [] H H' s.heap s'.heap
 cw:iJ P w H' s'.heap
 fl:∃B a0,Heap.FlyingW B l ad cls a0 s'.heap/\(∀b o,s.heap.get? b=some o->H b=none->b∉uY l->B.get? b=some o)/\(∀b o,s.heap.get? b=some o->b∉uY l->∃o',B.get? b=some o')/\
  (∀b u o,H' b=some u->s'.heap.get? b=some o->B.get? b=some o)
abbrev bF (P:Program) (w:World):me:=λl H s E e s'=>∃ad cls H',e=.ref ad/\TQ P w l H s H' ad cls s'/\E cls none H'
theorem zc (P:Program) (w:World):tH (bF P w):=λ_ _ _ _ _ ⟨_,_,_,_,_,h⟩=>h
section
variable {P : Program} {w : World} {K : aam} {mg : Str -> Option Value} {base : Heap} {N : List Str} {qual : Str} {scope : Scope} {f : Addr} {cP : Value} {A : Around} {outer : List Env} {s0 : Shared} {H0 : Hp} {E : XK}
end
end L2
namespace L2
open PySem PySem.Spec PyProof.Rows PySem.W
@[inline]abbrev TR:List Value:=[.type "ValueError",.type "Exception",.type "BaseException",.type "object"]
@[inline]abbrev Rv:String:="ValueError.__new__"
abbrev tRaise (C:Addr) (E:XK) (t:TA):TS:=λ_ σ H=>t σ H λvs H1=>vs.length<=sizeLine/\E (.ref C) none H1
section
variable {P : Program} {w : World} {K : aam} {mg : Str -> Option Value} {base : Heap} {N : List Str} {qual : Str} {scope : Scope} {f : Addr} {cP : Value} {A : Around} {outer : List Env} {s0 : Shared} {H0 : Hp} {E : XK}
end
section
variable {X : Cx} {pins : List (Addr × Obj)} {σ : St} {H H' : Hp} {s s' : Shared}
@[inline]abbrev Cx.mark (X:Cx) (ad:Addr):Cx:={X with A:=X.A.mark (some (.ref ad)),calm:=false,xe:=λ_ _=>False}
end
section
variable {X : Cx} {CX : me} {k : Nat} {x : Str} {ps : List Str} {sp : Sp} {E : XK} {e : Expr} {es : List Expr} {t : TA} {p pos : Pos}
variable {cx n : Str} {np TU TV jV : Pos} {b₀ : Stmt} {Rx : List Stmt} {i : Nat} {ts : TS} {C2 : Addr}
end
end L2
namespace Nm
abbrev st (a b:Int):Int:=if b<0 then -(a / g a b) else a / g a b
abbrev sb (a b:Int):Int:=if b<0 then -(b / g a b) else b / g a b
set_option tactic.hygienic true in
theorem Cf {a b:Int} (h:b≠0):0<sb a b:=by
 have g0:=pF (a:=a) h;unfold sb
 split
 ·rename_i hb
  have h1:0< (-b) / g a b:=Int.ediv_pos_of_pos_of_dvd ⋯ (IQ a b) (Int.dvd_neg.mpr (ic a b));rw[Int.neg_ediv_of_dvd (ic a b)] at h1;exact h1
 ·exact FF ⋯
theorem FH (a b:Int):g a (-b)=g a b:=by rw[tI,Ha,tI]
theorem Cg {a b:Int} (h:b≠0):g (st a b) (sb a b)=1:=by
 have e:=FE (a:=a) h;unfold st sb
 split
 ·rw[Ha,FH];exact e
 ·exact e
theorem vm (a b:Int):st a b*b=a*sb a b:=by
 have e:=AS a b;unfold st sb
 split
 ·rw[Int.neg_mul,e,Int.mul_neg]
 ·exact e
theorem IT {a b:Int} (h:b≠0):(st a b).natAbs<=a.natAbs:=by
 have:=fL (pF (a:=a) h) (oB a b);unfold st
 split <;>lia
theorem IU {a b:Int} (h:b≠0):(sb a b).natAbs<=b.natAbs:=by
 have:=fL (pF (a:=a) h) (ic a b);unfold sb
 split <;>lia
theorem IV {a b:Int} (h:0<b):st a b=a / g a b/\sb a b=b / g a b:=by
 unfold st sb;rw[if_neg ⋯,if_neg ⋯];exact⟨rfl,rfl⟩
end Nm
namespace L2
open PySem PySem.Spec PyProof.Rows
section
variable {P : Program} {w : World} {K : aam} {mg : Str -> Option Value} {base : Heap} {CX : me}
end
abbrev noStar:Expr->Bool
 | .Starred _ _=>false
 | _=>true
theorem se {e:Expr} {es:List Expr} {env:Env} (h:noStar e=true):starEach (e::es) env=(false,eval e env)::starEach es env:=by
 cases e <;>first | rfl | exact absurd h Y4
theorem na {env:Env} {pos:Pos}:∀{es:List Expr},es.all noStar=true->(backTo pos (starEach es env)).any (·.1)=false
 | [],_=>rfl
 | e::es,h=>by
  rw[List.all_cons,Zx] at h;rw[se h.1];show(false || (backTo pos (starEach es env)).any (·.1))=false;rw[na h.2];rfl
end L2
namespace L2
open PySem PySem.Spec PyProof.Rows PySem.W
structure Pa (K:aam) (C:Addr):Prop where
 cls:(clsIn K C).isSome=true
 ga:findIn K (.ref C) "__getattribute__"=some (some (.builtin "BaseException.__getattribute__"))
 gt:findIn K (.ref C) "__getattr__"=some none
 cl:findIn K (.ref C) "__class__"=some (some (.builtin "object.__class__"))
 be:mroIn K C (.type "BaseException")=some true
 ob:mroIn K C (.type "object")=some true
section
variable {prog : Program} {w : World} {A : Around} {E : Value -> Shared -> Prop} {K : aam} {h : Heap} {g : Array GenState} {d : Drawn} {t : Nat} {os : OsState} {a C : Addr} {o : Obj}
end
section
variable {X : Cx}
end
end L2
namespace L2
open PySem PySem.Spec PyProof.Rows
theorem jY {env:Env}:∀(names:List (Str×NameKind)) (cs:List (Str×Addr)),(∀n,(n,NameKind.free)∈names->∃c,env.cells.lookup n=some c)->(∀x c,cs.lookup x=some c->env.cells.lookup x=some c)->
  ∃cl,(forIn names cs fun(x:Str×NameKind) (r:List (Str×Addr))=>(if (x.2==NameKind.free)=true then do let c <-cellOf env x.1;pure (ForInStep.yield ((x.1,c)::r)) else pure (ForInStep.yield r):Sem (ForInStep (List (Str×Addr)))))=pure cl/\
   (∀x c,cl.lookup x=some c->env.cells.lookup x=some c)/\(∀n,((n,NameKind.free)∈names\/(cs.lookup n).isSome=true)->∃c,cl.lookup n=some c)/\(∀x c,(x,c)∈cl->(env.cells.lookup x=some c/\(x,NameKind.free)∈names)\/(x,c)∈cs)
 | [],cs,_,h=>⟨cs,rfl,h,(λn hn=>by
   rcases hn with hn | hn
   ·exact absurd hn (by simp)
   ·exact Option.isSome_iff_exists.mp hn),λx c m=>.inr m⟩
 | (n,k)::r,cs,hf,h=>by
  by_cases hk:k=.free
  ·subst hk;obtain⟨c,hc⟩:=hf n YT;obtain⟨cl,e,h1,h2,h3⟩:=jY r ((n,c)::cs) (λm hm=>hf m (YU _ hm)) (λx c' hx=>by
    rw[Zt] at hx;cases q:x==n with
    | true=>
     rw[q] at hx;have e1:x=n:=by simpa using q
     cases hx;rw[e1];exact hc
    | false=>rw[q] at hx;exact h x c' hx)
   refine⟨cl,?_,h1,λm hm=>h2 m ?_,λx c' m=>?_⟩
   rotate_left 2
   ·rcases h3 x c' m with ⟨q1,q2⟩ | m
    ·exact .inl ⟨q1,YU _ q2⟩
    ·rcases ZT.mp m with e | m
     ·cases e;exact .inl ⟨hc,YT⟩
     ·exact .inr m
   ·rw[List.forIn_cons];have NK:cellOf env n=pure c:=by unfold cellOf;rw[hc]
    simp only[beq_self_eq_true,if_true,NK,pure_bind];exact e
   ·rcases hm with hm | hm
    ·rcases ZT.mp hm with z | z
     ·cases z
      right
      rw[Zt];simp
     ·exact .inl z
    ·right
     rw[Zt];cases q:m==n with
     | true=>rfl
     | false=>exact hm
  ·obtain⟨cl,e,h1,h2,h3⟩:=jY r cs (λm hm=>hf m (YU _ hm)) h;refine⟨cl,?_,h1,λm hm=>h2 m ?_,λx c' m=>(h3 x c' m).imp (λq=>⟨q.1,YU _ q.2⟩) id⟩
   ·rw[List.forIn_cons];have:(k==NameKind.free)=false:=by simpa using hk
    simp only[this,Bool.false_eq_true,if_false,pure_bind];exact e
   ·rcases hm with hm | hm
    ·rcases ZT.mp hm with z | z
     ·cases z;exact absurd rfl hk
     ·exact .inl z
    ·exact .inr hm
theorem gi {env:Env} {scope:Scope} (hf:∀n,(n,NameKind.free)∈scope.names->∃c,env.cells.lookup n=some c):
  ∃cl,closureFor scope env=pure cl/\(∀x c,cl.lookup x=some c->env.cells.lookup x=some c)/\(∀n,(n,NameKind.free)∈scope.names->∃c,cl.lookup n=some c)/\(∀x c,(x,c)∈cl->env.cells.lookup x=some c/\(x,NameKind.free)∈scope.names):=by
 obtain⟨cl,e,h1,h2,h3⟩:=jY (env:=env) scope.names [] hf (λx c h=>by simp at h);refine⟨cl,?_,h1,λn hn=>h2 n (.inl hn),λx c m=>(h3 x c m).elim id λz=>absurd z (by simp)⟩;unfold closureFor;simp only[bind_pure];exact e
structure fF (N:List Str) (so:Scope) (N':List Str) (scope:Scope) (k:Nat) (fr:List Nat):Prop where
 kind:scope.kind=.function
 IW:∀y∈scope.names,y.2=.cell->scope.names.lookup y.1=some .cell/\(y.1,NameKind.free)∉scope.names
 locs:∀y∈scope.names,y.2=.local->scope.names.lookup y.1=some .local
 outer:∀y∈scope.names,y.2=.free->(so.names.lookup y.1=some .cell\/so.names.lookup y.1=some .free)
 len:N'.length=k+fr.length
 at_:∀t,t<fr.length->(fr[t]?).bind (λj=>N[j]?)=N'[k+t]?
 Pb:∀x∈N'.drop k,scope.names.lookup x=some .free
abbrev stC (k:Nat) (fr:List Nat) (σ:St):St:=aaz k none++fr.map λj=>(σ[j]?).join
abbrev nJ (X:Cx) (N:List Str) (scope:Scope) (cl:List (Str×Addr)) (C:Addr) (s:Shared) (H:Hp) (ex:List Addr):Cx where
 prog:=X.prog
 w:=X.w
 K:=X.K
 mg:=X.mg
 base:=X.base
 A:=X.A
 N:=N
 s₀:=s
 H₀:=H
 env:=compEnvC scope cl C X.env
 outer:=X.stack
 stack:=X.stack
 ex:=ex
 calm:=X.calm
 fn:=λx=>scope.names.lookup x==some .cell
 pn:=[]
 xe:=λ_ _=>False
theorem fk {env:Env}:∀{names:List (Str×NameKind)} {x:Str},names.lookup x=some .free->
  (names.map fun(n,k)=>if (k==NameKind.free && env.scope.kind==.function && env.kindOf n==some .cell) then (n,NameKind.cell) else (n,k)).lookup x=some .cell\/
  (names.map fun(n,k)=>if (k==NameKind.free && env.scope.kind==.function && env.kindOf n==some .cell) then (n,NameKind.cell) else (n,k)).lookup x=some .free
 | [],_,h=>by simp at h
 | (n,k)::r,x,h=>by
  have ih:=@fk env r x;show List.lookup x ((if (k==NameKind.free && env.scope.kind==.function && env.kindOf n==some .cell)=true then (n,NameKind.cell) else (n,k))::_)=_\/List.lookup x ((if (k==NameKind.free && env.scope.kind==.function && env.kindOf n==some .cell)=true then (n,NameKind.cell) else (n,k))::_)=_;cases hx:x==n with
  | true=>
   simp only[Zt,hx] at h;cases h
   by_cases hc:(NameKind.free==NameKind.free && env.scope.kind==.function && env.kindOf n==some .cell)=true
   ·rw[if_pos hc];left;simp [Zt,hx]
   ·rw[if_neg hc];right;simp [Zt,hx]
  | false=>
   simp only[Zt,hx] at h
   by_cases hc:(k==NameKind.free && env.scope.kind==.function && env.kindOf n==some .cell)=true
   ·rw[if_pos hc];simp only[Zt,hx];exact ih h
   ·rw[if_neg hc];simp only[Zt,hx];exact ih h
theorem kT {env:Env}:∀{names:List (Str×NameKind)} {x:Str},
  ((names.map fun(n,k)=>if (k==NameKind.free && env.scope.kind==.function && env.kindOf n==some .cell) then (n,NameKind.cell) else (n,k)).lookup x=some .cell\/
  (names.map fun(n,k)=>if (k==NameKind.free && env.scope.kind==.function && env.kindOf n==some .cell) then (n,NameKind.cell) else (n,k)).lookup x=some .free)->(x,NameKind.free)∈names\/(x,NameKind.cell)∈names
 | [],_,h=>by simp at h
 | (n,k)::r,x,h=>by
  have ih:=@kT env r x;have up:((x,NameKind.free)∈r\/(x,NameKind.cell)∈r)->((x,NameKind.free)∈(n,k)::r\/(x,NameKind.cell)∈(n,k)::r):=λz=>z.imp (YU _) (YU _);have h:List.lookup x ((if (k==NameKind.free && env.scope.kind==.function && env.kindOf n==some .cell)=true then (n,NameKind.cell) else (n,k))::_)=_\/List.lookup x ((if (k==NameKind.free && env.scope.kind==.function && env.kindOf n==some .cell)=true then (n,NameKind.cell) else (n,k))::_)=_:=h;cases hx:x==n with
  | true=>
   have e1:x=n:=by simpa using hx
   subst e1
   by_cases hc:(k==NameKind.free && env.scope.kind==.function && env.kindOf x==some .cell)=true
   ·have:k=.free:=by
     simp only[Zx] at hc
     simpa using hc.1.1
    subst this;exact .inl YT
   ·rw[if_neg hc] at h;simp only[Zt,hx] at h;rcases h with h | h
    ·cases h;exact .inr YT
    ·cases h;exact .inl YT
  | false=>
   by_cases hc:(k==NameKind.free && env.scope.kind==.function && env.kindOf n==some .cell)=true
   ·rw[if_pos hc] at h;simp only[Zt,hx] at h;exact up (ih h)
   ·rw[if_neg hc] at h;simp only[Zt,hx] at h;exact up (ih h)
theorem ml:∀(names:List (Str×NameKind)) (h:Heap) (acc:List (Str×Addr)) (x:Str) (c:Addr),(x,c)∈cellsFrom h.objs.size names acc->
  (x,c)∈acc\/(h.objs.size<=c/\(pushCells h names).IsCell c none/\(x,NameKind.cell)∈names)
 | [],h,acc,x,c,m=>.inl m
 | (n,k)::r,h,acc,x,c,m=>by
  unfold cellsFrom at m;unfold pushCells
  by_cases hk:(k==NameKind.cell)=true
  ·rw[if_pos hk] at m ⊢;have ih:=ml r (h.push {cls:=.type "cell",data:=.cell none}) ((n,h.objs.size)::acc) x c;rw[Heap.size_push] at ih;rcases ih m with m | ⟨q1,q2,q3⟩
   ·rcases ZT.mp m with e | m
    ·cases e;have hk:k=.cell:=by simpa using hk
     subst hk;refine .inr ⟨YR _,?_,YT⟩;have q:(h.push {cls:=.type "cell",data:=.cell none}).IsCell h.objs.size none:=⟨_,aax _ rfl,rfl⟩
     exact q.keeps λb o e=>pushCells_keeps r _ b o e
    ·exact .inl m
   ·exact .inr ⟨⋯,q2,YU _ q3⟩
  ·rw[if_neg hk] at m ⊢;rcases ml r h acc x c m with m | ⟨q1,q2,q3⟩
   ·exact .inl m
   ·exact .inr ⟨q1,q2,YU _ q3⟩
theorem mr:∀(names:List (Str×NameKind)) (n lo:Nat) (acc:List (Str×Addr)),(∀x c,(x,c)∈acc->c<n)->(∀x y c,lo<=c->(x,c)∈acc->(y,c)∈acc->x=y)->
  ∀x y c,lo<=c->(x,c)∈cellsFrom n names acc->(y,c)∈cellsFrom n names acc->x=y
 | [],n,lo,acc,h1,h2,x,y,c,hl,m1,m2=>h2 x y c hl m1 m2
 | (z,k)::r,n,lo,acc,h1,h2,x,y,c,hl,m1,m2=>by
  unfold cellsFrom at m1 m2
  by_cases hk:(k==NameKind.cell)=true
  ·rw[if_pos hk] at m1 m2;refine mr r (n+1) lo _ (λx c m=>?_) (λx y c hl m1 m2=>?_) x y c hl m1 m2
   ·rcases ZT.mp m with e | m
    ·cases e;exact Zl _
    ·exact Z8 (h1 x c m)
   ·rcases ZT.mp m1 with e1 | m1 <;>rcases ZT.mp m2 with e2 | m2
    ·cases e1;cases e2;rfl
    ·cases e1;exact absurd (h1 _ _ m2) (Zj _)
    ·cases e2;exact absurd (h1 _ _ m1) (Zj _)
    ·exact h2 x y c hl m1 m2
  ·rw[if_neg hk] at m1 m2;exact mr r n lo acc h1 h2 x y c hl m1 m2
theorem ie:∀(names:List (Str×NameKind)) (n:Nat) (acc:List (Str×Addr)) (x:Str),(x,NameKind.cell)∉names->(cellsFrom n names acc).lookup x=acc.lookup x
 | [],n,acc,x,_=>rfl
 | (z,k)::r,n,acc,x,h=>by
  have hr:(x,NameKind.cell)∉r:=λm=>h (YU _ m);unfold cellsFrom
  by_cases hk:(k==NameKind.cell)=true
  ·rw[if_pos hk,ie r _ _ x hr,Zt];have hk:k=.cell:=by simpa using hk
   subst hk;have:(x==z)=false:=by
    cases q:x==z with
    | false=>rfl
    | true=>
     have e:x=z:=by simpa using q
     subst e;exact absurd YT h
   rw[this]
  ·rw[if_neg hk];exact ie r n acc x hr
theorem mv:∀(names:List (Str×NameKind)) (n:Nat) (acc:List (Str×Addr)) (x:Str),((x,NameKind.cell)∈names\/(acc.lookup x).isSome=true)->((cellsFrom n names acc).lookup x).isSome=true
 | [],n,acc,x,h=>by
  rcases h with h | h
  ·simp at h
  ·exact h
 | (z,k)::r,n,acc,x,h=>by
  unfold cellsFrom
  by_cases hk:(k==NameKind.cell)=true
  ·rw[if_pos hk];refine mv r _ _ x ?_;rcases h with h | h
   ·rcases ZT.mp h with e | h
    ·cases e
     right
     rw[Zt];simp
    ·exact .inl h
   ·right
    rw[Zt];cases q:x==z with
    | true=>rfl
    | false=>exact h
  ·rw[if_neg hk];refine mv r _ _ x ?_;rcases h with h | h
   ·rcases ZT.mp h with e | h
    ·cases e;exact absurd rfl hk
    ·exact .inl h
   ·exact .inr h
section
variable {M : Model} {A : Around} {E : Value -> Shared -> Prop} {s : Shared}
theorem kU {scope:Scope} {globals:Addr} {closure:List (Str×Addr)} {qual:Str} {func:Option Addr} {code:Value} {outer:Env} {Q:Env->Shared->Prop}
  (hQ:Q (newEnv scope s.heap.objs.size globals (cellsFrom (s.heap.objs.size+1) scope.names closure) qual func code (some outer) builtinsNs)
   {s with heap:=pushCells (s.heap.push {cls:=.type "dict",data:=.dict #[]}) scope.names}):
  wpAny M A (newFunctionEnv scope globals closure [] qual func code (some outer)) Q E s:=by
 simp only[newFunctionEnv,Option.isSome_some,if_true];refine wpAny_bind (wpAny_alloc ?_);refine wpAny_bind (wpAny_layCells _ (λname kind cells=>by cases TX:kind==NameKind.cell <;>simp [TX]) _ _ _ _ ?_);rw[show({s with heap:=s.heap.push {cls:=.type "dict",data:=.dict #[]}}:Shared).heap.objs.size=s.heap.objs.size+1 from Heap.size_push ..];refine wpAny_bind ?_;rw[List.forIn_nil];exact wpAny_pure (wpAny_pure hQ)
end
structure IX (X:Cx) (scope:Scope) (cl:List (Str×Addr)) (lo:Nat) (C:Addr) (h1:Heap):Prop where
 old:∀x c,cl.lookup x=some c->X.env.cells.lookup x=some c\/(lo<=c/\C<c/\h1.IsCell c none)
 inj:∀x y c,C<c->cl.lookup x=some c->cl.lookup y=some c->x=y
 has:∀n,(n,NameKind.free)∈scope.names\/(n,NameKind.cell)∈scope.names->∃c,cl.lookup n=some c
 Pb:∀n,scope.names.lookup n=some .free->∀c,cl.lookup n=some c->X.env.cells.lookup n=some c
 own:∀x c,scope.names.lookup x=some .cell->cl.lookup x=some c->lo<=c
section
variable {X : Cx} {pins : List (Addr × Obj)} {σ : St} {H : Hp} {s : Shared} {N' : List Str} {scope : Scope} {k : Nat} {fr : List Nat} {cl : List (Str × Addr)}
theorem IY {C:Addr} {fp:List Addr} {h1:Heap} (I:Inv X pins σ H s) (S:fF X.N X.env.scope N' scope k fr) (B:IX X scope cl s.heap.objs.size C h1)
  (hC:s.heap.objs.size<=C) (f2:∀b∈fp,iQ X pins H b) (lt:∀b∈fp,b<s.heap.objs.size):(nJ X N' scope cl C s H fp).Ok where
 mod:=I.ok.mod
 kind:=S.kind
 glob:=I.ok.glob
 blt:=I.ok.blt
 above:=hC
 inj:=λx y c h1 h2=>by
  rcases B.old _ _ h1 with o1 | o1 <;>rcases B.old _ _ h2 with o2 | o2
  ·exact I.ok.inj x y c o1 o2
  ·exact B.inj x y c o2.2.1 h1 h2
  ·exact B.inj x y c o1.2.1 h1 h2
  ·exact B.inj x y c o1.2.1 h1 h2
 has:=λx hx=>B.has x (kT hx)
 KG:=λx c z e=>B.own x c (by
  have z:(scope.names.lookup x==some NameKind.cell)=true:=z
  simpa using z) e
 hd:=I.ok.hd
 frames:=I.ok.frames
 BH:=.inl rfl
 OF:=λb hb=>⟨YW (Y3 (lt b hb) hC),λx c e=>(B.old _ _ e).elim (λo=>(f2 b hb).2.2.2.2.1 x c o) λo=>ZC (Y3 (lt b hb) o.1)⟩
 bs:=I.bs
 BI:=YY I.ok.BI I.sz
 Az:=λb o e hb=>by
  rcases(f2 b hb).2.2.2.1 with z | z
  ·exact I.ok.Az b o e z
  ·exact absurd (Y3 (aay e) (YY I.ok.BI z)) (Zj _)
 BJ:=λb hb z=>by
  rcases ZT.mp (I.sS b z) with q | q
  ·exact(f2 b hb).2.1 q
  ·exact(f2 b hb).2.2.1 q
 lY:=I.stack
 GX:=I.yT
theorem FI {C:Addr} {fp:List Addr} {h1:Heap} {tk:Nat} {m:Str->Option Value} (I:Inv X pins σ H s) (S:fF X.N X.env.scope N' scope k fr) (B:IX X scope cl s.heap.objs.size C h1)
  (hC:s.heap.objs.size<=C) (f2:∀b∈fp,iQ X pins H b) (lt:∀b∈fp,b<s.heap.objs.size) (old:∀b o,s.heap.get? b=some o->h1.get? b=some o) (hn:h1.Ns C m):
  Inv (nJ X N' scope cl C s H fp) [] (stC k fr σ) H {s with heap:=h1,toks:=tk}:=by
 refine⟨IY I S B hC f2 lt,rfl,I.bare,Un.kept old,⟨m,hn,λi x v e1 e2 e3=>?_⟩,λx c e=>?_,I.cw.fresh hC,λx c e=>(B.old _ _ e).elim (λo=>I.iO x c o) λo=>I.cw.fresh o.1,λp hp=>absurd (show p∈([]:List (Addr×Obj)) from hp) (by simp),I.cw.kept old,?_⟩
 ·have e1:N'[i]?=some x:=e1;unfold stC at e2
  by_cases hi:i<k
  ·rw[Zm (by simpa using hi),aag,if_pos hi] at e2;cases e2
  ·rw[Zn (by simpa using hi),Zr,YO] at e2;cases q:fr[i - k]? with
   | none=>rw[q] at e2;cases e2
   | some j=>
    rw[q] at e2;have e2:(σ[j]?).join=some v:=Zb e2;have ej:σ[j]?=some (some v):=by
     cases z:σ[j]? with
     | none=>rw[z] at e2;cases e2
     | some o=>rw[z] at e2;exact congrArg some e2
    have gG:i - k<fr.length:=(aat.mp q).1;have KL:=S.at_ (i - k) gG;rw[q,show k+ (i - k)=i by lia,e1] at KL;have KL:X.N[j]?=some x:=KL;have TY:x∈N'.drop k:=List.mem_iff_getElem?.mpr ⟨i - k,by rw[List.getElem?_drop,show k+ (i - k)=i by lia];exact e1⟩;have LO:=S.Pb x TY;have LP:(x,NameKind.free)∈scope.names:=ZS LO;have FJ:=S.outer _ LP rfl;obtain⟨m0,XW,LQ⟩:=I.loc;obtain⟨u,r,l⟩:=LQ j x v KL ej (.inr FJ);refine⟨u,r,.inr ⟨fk LO,?_⟩⟩;rcases l with ⟨kk,_⟩ | ⟨_,c,e,z⟩
    ·have kk:X.env.scope.names.lookup x=some .local:=kk;rcases FJ with q1 | q1
     ·rw[kk] at q1;cases q1
     ·rw[kk] at q1;cases q1
    ·obtain⟨c',e'⟩:=B.has x (.inl LP);have ec:=B.Pb x LO _ e';rw[e] at ec;cases ec;obtain⟨ob,ho,hd⟩:=z;exact⟨c,e',ob,old _ _ ho,hd⟩
 ·rcases B.old _ _ e with o | o
  ·obtain⟨v,ob,ho,hd⟩:=I.cell x c o;exact⟨v,ob,old _ _ ho,hd⟩
  ·exact⟨none,o.2.2⟩
 ·unfold stC;rw[Y7,Zr,YL];exact S.len.symm
end
section
variable {prog : Program} {w : World} {A : Around} {E : Value -> Shared -> Prop} {R : Result -> Shared -> Prop} {s : Shared}
theorem iU {elt target iter:Expr} {ifs:List Expr} {scope:Scope} {pos:Pos} {it acc:Value} {env:Env} (I:Nat->Shared->Prop)
  (turn:∀n s,I n s->wpAny (model prog w) A (pyNext it) (λr s₁=>match r with
   | none=>R (.ok .next) s₁
   | some v=>wpAny (model prog w) A (letOwnedTupleGo target it v) (λ_ Ry=>wpAny (model prog w) A (assign target env v) (λ_ s₂=>
     wpAny (model prog w) A (forIn ifs true λc r=>if r=true then do let ok <-isTrue c env (eval c env);pure (ForInStep.yield ok) else pure (ForInStep.yield r)) (λok s₃=>
      if ok=true then wpAny (model prog w) A (eval elt env) (λx s₄=>
       wpAny (model prog w) A (call (.builtin "list.append") [acc,x]) (λ_ s₅=>∃m,m<n/\I m s₅) (λ_ _=>False) s₄) (notedBy (model prog w) A env λx s'=>R (.error x) s') s₃
      else ∃m,m<n/\I m s₃) (λ_ _=>False) s₂) (λ_ _=>False) Ry) (λ_ _=>False) s₁) (λ_ _=>False) s)
  (n:Nat) (h:I n s):
  codeAny (model prog w) A (.compLoop (.ListComp elt [⟨target,iter,ifs,0⟩] scope pos) 0 it acc env) R s:=by
 refine codeAny_loop rfl I (λn s hI=>?_) n h;show wpAny _ A ((compTurn (.ListComp elt [⟨target,iter,ifs,0⟩] scope pos) 0 it acc env).onRaise (λx=>do noteFrame x env;theTreesLotGoes x)) _ _ s;refine wpAny_noted ?_;rw[compTurn_list];refine wpAny_bind (wpAny_standAt (wpAny_bind (wpAny_mono (turn n s hI) (λr s₁ h₁=>?_) λ_ _ h'=>h'.elim)));cases r with
 | none=>exact wpAny_pure h₁
 | some v=>
  refine wpAny_bind (wpAny_mono h₁ (λ_ Ry TZ=>?_) λ_ _ h'=>h'.elim);refine wpAny_bind (wpAny_mono TZ (λ_ s₂ h₂=>wpAny_bind (wpAny_mono h₂ (λok s₃ h₃=>?_) λ_ _ h'=>h'.elim)) λ_ _ h'=>h'.elim);cases ok with
  | false=>exact wpAny_pure ⟨rfl,h₃⟩
  | true=>
   exact wpAny_bind (wpAny_bind (wpAny_mono h₃ (λx s₄ h₄=>wpAny_bind (wpAny_mono h₄ (λ_ s₅ h₅=>wpAny_pure (wpAny_pure ⟨rfl,h₅⟩)) λ_ _ h'=>h'.elim)) λ_ _ h'=>h'))
end
abbrev IZ (X:Cx) (ifs:List Expr) (t:TT):Prop:=
 ∀(pins:List (Addr×Obj)) (s:Shared) (σ:St) (H:Hp) (Q:Bool->Hp->Prop),Inv X pins σ H s->t σ H Q->
  wpAny (model X.prog X.w) X.A (forIn ifs true λc r=>if r=true then do let ok <-isTrue c X.env (eval c X.env);pure (ForInStep.yield ok) else pure (ForInStep.yield r)) (TP X pins σ Q) X.xe s
abbrev gm:TT:=λ_ H Q=>Q true H
theorem bH {X:Cx}:IZ X [] gm:=λ_ _ _ H _ I h=>wpAny_tests_nil ⟨H,I,h⟩
theorem kW {X:Cx} {c:Expr} {t:TT} (h:PT X c t):IZ X [c] t:=λpins s σ H Q I hq=>wpAny_tests_one (h pins s σ H Q I hq)
section
variable {X : Cx}
abbrev gu (J:It) (g:TG) (tc:TT) (te:TE) (σ0:St) (H1:Hp) (fin:List V->Hp->Prop):Prop:=
 ∃W:Nat->Nat->List V->St->Hp->Prop,(∃m,W 0 m [] σ0 H1)/\∀i m ys σ2 H2,W i m ys σ2 H2->
  (J.stop i H2/\fin ys H2)\/
  (J.go i H2/\∀x H3,J.xp i H2 x H3->g x σ2 H3 λσ3 H4=>tc σ3 H4 λb H5=>if b=true then te σ3 H5 λy H6=>ys.length<sizeLine/\∃m',m'<m/\W (i+1) m' (ys++ [y]) σ3 H6 else ∃m',m'<m/\W (i+1) m' ys σ3 H5)
abbrev fM (aW:List Value) (n:Nat):Obj:={cls:=.type "list",data:=.seq aW.toArray n}
theorem Ci {elt target iter:Expr} {ifs:List Expr} {scope:Scope} {pos:Pos} {g:TG} {tc:TT} {te:TE} {k:Nat} {fr:List Nat} {N':List Str} {cl:List (Str×Addr)} {pins:List (Addr×Obj)} {σ:St} {H2:Hp} {s2:Shared}
  {it:Addr} {fp:List Addr} {tn:Nat->Heap->Prop} {J:It} {fin:List V->Hp->Prop} {R0:Result->Shared->Prop} {XE:List (Str×Addr)->Addr->Shared->Hp->List Addr->Value->Shared->Prop}
  (hc:X.calm=true) (S:fF X.N X.env.scope N' scope k fr) (c1:∀x c,cl.lookup x=some c->X.env.cells.lookup x=some c) (c2:∀n,(n,NameKind.free)∈scope.names->∃c,cl.lookup n=some c) (cin:∀x c,(x,c)∈cl->∃y,X.env.cells.lookup y=some c) (NL:∀x,(x,NameKind.cell)∈scope.names->∀c,(x,c)∉cl)
  (hg:∀cl C s H ex,PG (nJ X N' scope cl C s H ex) target g) (ht:∀cl C s H ex,IZ (nJ X N' scope cl C s H ex) ifs tc) (he:∀cl C s H ex,PE ((nJ X N' scope cl C s H ex).lZ (XE cl C s H ex)) elt te)
  (I2:Inv X pins σ H2 s2) (T:Turn X.prog X.w X.K target J fp it tn) (xG:tn 0 s2.heap) (f2:∀b∈fp,iQ X pins H2 b) (hb:gu J g tc te (stC k fr σ) H2 fin)
  (hR:∀(C:Addr),C=(s2.heap.push {cls:=.type "list",dict:=none,data:=.seq ([]:List Value).toArray}).objs.size->∀(s':Shared) (m:Str->Option Value) (ys:List V) (aW:List Value) (n:Nat) (H':Hp),s2.heap.objs.size<C->s'.heap.Ns C m->br ys aW->ys.length<=sizeLine->s'.heap.get? s2.heap.objs.size=some (fM aW n)->H' s2.heap.objs.size=none->H' C=none->fin ys H'->
   s'.os=s2.os->AllBare s'.gens->Un (uY X.stack) fp H2 H' s2.heap s'.heap->iJ X.prog X.w H' s'.heap->R0 (.ok .next) s')
  (hE:∀cl C x s',C=(s2.heap.push {cls:=.type "list",dict:=none,data:=.seq ([]:List Value).toArray}).objs.size->s2.heap.objs.size<C->XE cl C s2 H2 fp x s'->notedBy (model X.prog X.w) X.A (compEnvC scope cl C X.env) (λy IC=>R0 (.error y) IC) x s'):
  codeAny (model X.prog X.w) X.A (.compStart (.ListComp elt [⟨target,iter,ifs,0⟩] scope pos) 0 (.ref it) (.ref s2.heap.objs.size) (compEnvC scope (cellsFrom ((s2.heap.push {cls:=.type "list",dict:=none,data:=.seq ([]:List Value).toArray}).objs.size+1) scope.names cl) (s2.heap.push {cls:=.type "list",dict:=none,data:=.seq ([]:List Value).toArray}).objs.size X.env)) R0 {s2 with heap:=pushCells ((s2.heap.push {cls:=.type "list",dict:=none,data:=.seq ([]:List Value).toArray}).push {cls:=.type "dict",data:=.dict #[]}) scope.names}:=by
 obtain⟨W,⟨m0,w0⟩,turn⟩:=hb;have lt:∀b∈fp,b<s2.heap.objs.size:=λb hb=>by
  obtain⟨o,e,_⟩:=T.obj _ _ xG b hb;exact aay e
 generalize Pc:s2.heap.push {cls:=.type "list",dict:=none,data:=.seq ([]:List Value).toArray}=G2 at hR hE ⊢;have KN:G2.objs.size=s2.heap.objs.size+1:=by rw[<-Pc,Heap.size_push]
 have Rz:s2.heap.objs.size≠G2.objs.size:=by rw[KN];exact YW (Zl _)
 have hC:s2.heap.objs.size<=G2.objs.size:=by rw[KN];exact Nat.le_succ _
 have old:∀b o,s2.heap.get? b=some o->(pushCells (G2.push {cls:=.type "dict",data:=.dict #[]}) scope.names).get? b=some o:=λb o e=>by
  refine pushCells_keeps _ _ b o (aaw _ ?_);rw[<-Pc];exact aaw _ e
 have FK:(pushCells (G2.push {cls:=.type "dict",data:=.dict #[]}) scope.names).get? s2.heap.objs.size=some (fM [] 0):=by
  refine pushCells_keeps _ _ _ _ (aaw _ ?_);rw[<-Pc];exact aax _ rfl
 have Pd:(pushCells (G2.push {cls:=.type "dict",data:=.dict #[]}) scope.names).Ns G2.objs.size λ_=>none:=(Heap.Ns.new G2 (.type "dict")).keeps (pushCells_keeps _ _);have RA:∀x c,(x,c)∈cl->c<G2.objs.size+1:=λx c m=>by
  obtain⟨y,hy⟩:=cin x c m;obtain⟨v,q⟩:=I2.cell y c hy;rw[KN];exact Z8 (Z8 q.lt)
 have B:IX X scope (cellsFrom (G2.objs.size+1) scope.names cl) s2.heap.objs.size G2.objs.size (pushCells (G2.push {cls:=.type "dict",data:=.dict #[]}) scope.names):=by
  have own:=ml scope.names (G2.push {cls:=.type "dict",data:=.dict #[]}) cl;rw[Heap.size_push] at own;refine⟨λx c e=>?_,λx y c hc h1 h2=>?_,λn hn=>?_,λn hn c e=>?_,λx c hx e=>?_⟩
  ·by_cases hx:(x,NameKind.cell)∈scope.names
   ·rcases own x c (ZS e) with m | ⟨q1,q2,_⟩
    ·
     exfalso;exact NL x hx c m
    ·exact .inr ⟨YY hC (Nat.le_of_succ_le q1),q1,q2⟩
   ·rw[ie _ _ _ _ hx] at e;exact .inl (c1 x c e)
  ·exact mr scope.names (G2.objs.size+1) (G2.objs.size+1) cl RA (λx y c hl m1 _=>absurd (RA x c m1) (Nat.not_lt.mpr hl)) x y c hc (ZS h1) (ZS h2)
  ·refine Option.isSome_iff_exists.mp (mv _ _ _ n ?_);rcases hn with hn | hn
   ·obtain⟨c,e⟩:=c2 n hn;exact .inr (by rw[e];rfl)
   ·exact .inl hn
  ·have hx:(n,NameKind.cell)∉scope.names:=λm=>by
    have:=(S.IW _ m rfl).1;rw[hn] at this;cases this
   rw[ie _ _ _ _ hx] at e;exact c1 n c e
  ·have hx:=ZS hx;rcases own x c (ZS e) with m | ⟨q1,q2,_⟩
   ·exact absurd m (NL x hx c)
   ·exact YY hC (Nat.le_of_succ_le q1)
 generalize pushCells (G2.push {cls:=.type "dict",data:=.dict #[]}) scope.names=h₁ at *;generalize cellsFrom (G2.objs.size+1) scope.names cl=xY at *;generalize I0:s2.heap.objs.size=D at *;generalize XX:G2.objs.size=C at *;have fD:H2 D=none:=by rw[<-I0];exact I2.cw.fresh (YR _)
 have cells:∀x c,xY.lookup x=some c->c≠D:=λx c e=>by
  rcases B.old _ _ e with o | o
  ·obtain⟨v,q⟩:=I2.cell x c o;rw[<-I0];exact YW q.lt
  ·exact ZC (Nat.lt_trans (by rw[KN];exact Zl _) o.2.1)
 have loop:∀(G5:Addr) (s3:Shared),G5=it->(∃tk,s3={s2 with heap:=h₁,toks:=tk})->
   codeAny (model X.prog X.w) X.A (.compLoop (.ListComp elt [⟨target,iter,ifs,0⟩] scope pos) 0 (.ref G5) (.ref D) (compEnvC scope xY C X.env)) R0 s3:=by
  rintro G5 s3 rfl ⟨tk,rfl⟩;have I3:Inv (nJ X N' scope xY C s2 H2 fp) [] (stC k fr σ) H2 {s2 with heap:=h₁,toks:=tk}:=FI I2 S (by rw[I0];exact B) (by rw[I0];exact hC) f2 (by rw[I0];exact lt) old Pd;have xH:∀{H':Hp} {o:Obj},(∀b∈fp,H' b=none)->∀b∈fp,iQ (nJ X N' scope xY C s2 H2 fp) [(D,o)] H' b:=λ{H' o} hn b hb=>
   ⟨hn b hb,YW (Y3 (lt b hb) hC),λz=>by
    rcases ZT.mp (I2.sS b z) with q | q
    ·exact(f2 b hb).2.1 q
    ·exact(f2 b hb).2.2.1 q,.inl hb,λx c e=>(B.old _ _ e).elim (λo=>(f2 b hb).2.2.2.2.1 x c o) (λo=>ZC (Y3 (lt b hb) o.1)),λp hp=>by
    have e:p=(D,o):=by simpa [nJ] using hp
    rw[e];exact ZC (lt b hb)⟩
  have Pe:∀{σ':St} {H':Hp} {s':Shared} {o:Obj},Inv (nJ X N' scope xY C s2 H2 fp) [] σ' H' s'->s'.heap.get? D=some o->H' D=none->(∀v,o.data≠.cell v)->Inv (nJ X N' scope xY C s2 H2 fp) [(D,o)] σ' H' s':=λ{σ' H' s' o} I' e n hd=>
   I'.kL λp hp=>by
    have q:p=(D,o):=by simpa using hp
    subst q;refine⟨e,n,Rz,λz=>?_,hd⟩;obtain⟨_,ob,ho,_⟩:=I2.stack.mem z;exact absurd (aay ho) (by rw[I0];exact Zj _)
  have T1:∀{aW:List Value} {n:Nat} (v:Option Value),(fM aW n).data≠.cell v:=λv z=>by
   have z:Data.seq _ _=Data.cell v:=z;cases z
  refine iU (λn s'=>∃i ys σ' H' aW Bz,Inv (nJ X N' scope xY C s2 H2 fp) [] σ' H' s'/\tn i s'.heap/\(∀b∈fp,H' b=none)/\s'.heap.get? D=some (fM aW Bz)/\H' D=none/\br ys aW/\ys.length<=sizeLine/\W i n ys σ' H') ?_ m0
   ⟨0,[],_,H2,[],0,I3,T.keep _ _ _ xG (λb _ o e=>old b o e),λb hb=>(f2 b hb).1,FK,fD,.nil,Y1 _,w0⟩
  rintro n s4 ⟨i,ys,σ4,H4,aW,Bz,I4,RB,RC,T3,RD,NM,RE,w4⟩;have RF:=Pe I4 T3 RD T1;rcases turn i n ys σ4 H4 w4 with ⟨stop,qf⟩ | ⟨go,step⟩
  ·refine cO (T.done (nJ X N' scope xY C s2 H2 fp) rfl rfl rfl hc i _ s4 σ4 H4 _ RF (xH RC) RB stop) λr s5 ⟨hr,I5⟩=>?_;subst hr;obtain⟨m5,T4,_⟩:=I5.loc;exact hR C rfl s5 m5 ys aW Bz H4 (by rw[KN];exact Zl _) T4 NM RE (I5.pin (D,fM aW Bz) (Zk _ YT)).1 RD I5.free qf I5.os I5.bare I5.base I5.cw
  ·refine cO (T.item (nJ X N' scope xY C s2 H2 fp) rfl rfl rfl hc i _ s4 σ4 H4 _ RF (xH RC) RB go) λr s5 ⟨u,hr,h5⟩=>?_;subst hr;refine cO h5 λ_ s6 dB=>?_;obtain⟨x,H6,I6,r6,y6,Pf,T5⟩:=dB;have T6:=I6.pinned (xH T5) (T.obj _ _ Pf);refine cO (hg xY C s2 H2 fp _ s6 σ4 H6 x u _ T6 r6 (step x H6 y6)) λ_ s7 ⟨σ7,H7,I7,q7⟩=>?_;refine cO (ht xY C s2 H2 fp _ s7 σ7 H7 _ I7 q7) λok s8 ⟨H8,I8,q8⟩=>?_;have back:∀{σ':St} {H':Hp} {s':Shared},Inv (nJ X N' scope xY C s2 H2 fp) ([(D,fM aW Bz)]++oZ fp s6.heap) σ' H' s'->tn (i+1) s'.heap/\(∀b∈fp,H' b=none)/\s'.heap.get? D=some (fM aW Bz)/\H' D=none:=λ{σ' H' s'} I'=>by
    have pD:=I'.pin (D,fM aW Bz) (Zk _ (Z5 _ (by simp)));refine⟨T.keep _ _ _ Pf λb hb o e=>(I'.pin (b,o) (Zk _ (Zk _ (hJ hb e)))).1,λb hb=>?_,pD.1,pD.2.1⟩;obtain⟨o,e,d⟩:=T.obj _ _ Pf b hb;exact(I'.pin (b,o) (Zk _ (Zk _ (hJ hb e)))).2.1
   cases ok with
   | false=>
    rw[if_neg Y4];rw[if_neg Y4] at q8;obtain⟨m',hm,w8⟩:=q8;obtain⟨b1,b2,b3,b4⟩:=back I8;exact⟨m',hm,i+1,ys,σ7,H8,aW,Bz,I8.kL (λp hp=>absurd hp (by simp)),b1,b2,b3,b4,NM,RE,w8⟩
   | true=>
    rw[if_pos rfl];rw[if_pos rfl] at q8;refine wpAny_mono (he xY C s2 H2 fp _ s8 σ7 H8 _ (I8.lZ _) q8) (λy s9 ⟨z,H9,I9,r9,gG,m',hm,w9⟩=>?_) λx s' hx=>hE xY C x s' rfl (by rw[KN];exact Zl _) hx;have I9:=I9.hG;obtain⟨b1,b2,b3,b4⟩:=back I9;have hl:=NM.length;refine call_meets F.slot_list_append ⟨_,b3,rfl⟩ F.entry_list_append (F.args_list_append_2 _ _) (PySem.list_append D aW.toArray Bz y (by rw[YX];lia)) ⟨b3,?_⟩;obtain⟨c',q⟩:∃c',(s9.heap.update D (Obj.mapSeq λx=>x.push y)).get? D=some (fM (aW++ [y]) c'):=by
     have q:=PySem.IsL.update b3 (λx=>x.push y);rw[show aW.toArray.push y=(aW++ [y]).toArray by simp] at q;exact⟨_,q⟩
    have T7:Inv (nJ X N' scope xY C s2 H2 fp) [] σ7 H9 s9:=I9.kL (λp hp=>absurd hp (by simp));have kp:∀b o,b≠D->s9.heap.get? b=some o->(s9.heap.update D (Obj.mapSeq λx=>x.push y)).get? b=some o:=λb o hb e=>(Heap.get?_update_other s9.heap (Obj.mapSeq λx=>x.push y) (Ne.symm hb)).trans e;have T8:=T7.turned (t':=s9.toks) (it:=D) (h':=s9.heap.update D (Obj.mapSeq λx=>x.push y)) kp b4 Rz (.inr (by show s2.heap.objs.size<=D;rw[I0];exact YR _)) (λx c e=>cells x c e) (λp hp=>absurd hp (by simp [nJ]));refine⟨m',hm,i+1,ys++ [z],σ7,H9,aW++ [y],c',T8,T.keep _ _ _ b1 (λb hb o e=>kp b o (YW (lt b hb)) e),b2,q,b4,NM.append (.cons r9 .nil),?_,w9⟩
    ·rw[Y7,List.length_singleton];lia
 exact codeAny_compStart_list (loop it _ rfl ⟨_,rfl⟩) (T.self _ 0 _ _ _ (T.keep _ _ _ xG (λb _ o e=>old b o e)) (loop it _ rfl ⟨_,rfl⟩))
theorem rP {elt target iter:Expr} {ifs:List Expr} {scope:Scope} {pos:Pos} {g:TG} {tc:TT} {te:TE} {k:Nat} {fr:List Nat} {N':List Str} {cl:List (Str×Addr)} {pins:List (Addr×Obj)} {σ:St} {H2:Hp} {s2:Shared}
  {it:Addr} {fp:List Addr} {tn:Nat->Heap->Prop} {J:It} {E:Value->Shared->Prop} {fin:List V->Hp->Prop} {RR:Value->Addr->Result->Shared->Prop} {XE:List (Str×Addr)->Addr->Shared->Hp->List Addr->Value->Shared->Prop}
  (hc:X.calm=true) (S:fF X.N X.env.scope N' scope k fr) (c1:∀x c,cl.lookup x=some c->X.env.cells.lookup x=some c) (c2:∀n,(n,NameKind.free)∈scope.names->∃c,cl.lookup n=some c) (cin:∀x c,(x,c)∈cl->∃y,X.env.cells.lookup y=some c) (NL:∀x,(x,NameKind.cell)∈scope.names->∀c,(x,c)∉cl)
  (hg:∀cl C s H ex,PG (nJ X N' scope cl C s H ex) target g) (ht:∀cl C s H ex,IZ (nJ X N' scope cl C s H ex) ifs tc) (he:∀cl C s H ex,PE ((nJ X N' scope cl C s H ex).lZ (XE cl C s H ex)) elt te)
  (I2:Inv X pins σ H2 s2) (T:Turn X.prog X.w X.K target J fp it tn) (xG:tn 0 s2.heap) (f2:∀b∈fp,iQ X pins H2 b) (hb:gu J g tc te (stC k fr σ) H2 fin)
  (hR:∀(C:Addr) (s':Shared) (m:Str->Option Value) (ys:List V) (aW:List Value) (n:Nat) (H':Hp),s2.heap.objs.size<C->s'.heap.Ns C m->br ys aW->ys.length<=sizeLine->s'.heap.get? s2.heap.objs.size=some (fM aW n)->H' s2.heap.objs.size=none->H' C=none->fin ys H'->
   s'.os=s2.os->AllBare s'.gens->Un (uY X.stack) fp H2 H' s2.heap s'.heap->iJ X.prog X.w H' s'.heap->RR (.ref s2.heap.objs.size) C (.ok .next) s')
  (hE:∀cl C x s',s2.heap.objs.size<C->XE cl C s2 H2 fp x s'->notedBy (model X.prog X.w) X.A (compEnvC scope cl C X.env) (λy IC=>RR (.ref s2.heap.objs.size) C (.error y) IC) x s'):
  wpAny (model X.prog X.w) X.A (newList []) (λacc s₃=>wpAny (model X.prog X.w) X.A (newFunctionEnv scope X.env.globals cl [] X.env.qual none .none (some X.env)) (λLR s₄=>
   codeAny (model X.prog X.w) X.A (.compStart (.ListComp elt [⟨target,iter,ifs,0⟩] scope pos) 0 (.ref it) acc {LR with scope:=relabel scope X.env}) (RR acc LR.locals) s₄) E s₃) E s2:=by
 refine wpAny_newObj_type (kU ?_);exact Ci (R0:=RR _ _) hc S c1 c2 cin NL hg ht he I2 T xG f2 hb (λC e=>by subst e;exact hR _) (λcl C x s' e=>by subst e;exact hE cl _ x s')
theorem comp_back {fp:List Addr} {pins:List (Addr×Obj)} {σ:St} {H2 H':Hp} {s2 s':Shared} {C:Addr} {ys:List V} {aW:List Value} {n:Nat} {h':Heap} (I2:Inv X pins σ H2 s2) (f2:∀b∈fp,iQ X pins H2 b) (hC:s2.heap.objs.size<C)
  (vl:br ys aW) (sz:ys.length<=sizeLine) (hD:s'.heap.get? s2.heap.objs.size=some (fM aW n)) (nD:H' s2.heap.objs.size=none) (nC:H' C=none)
  (os:s'.os=s2.os) (bare:AllBare s'.gens) (un:Un (uY X.stack) fp H2 H' s2.heap s'.heap) (cw:iJ X.prog X.w H' s'.heap) (hs:Heap.SameBut C s'.heap h'):
  Inv X pins σ (upd H' s2.heap.objs.size (.lst ys)) {s' with heap:=h'}:=by
 have Pg:∀b o,s2.heap.get? b=some o->b≠C:=λb o e=>YW (Nat.lt_trans (aay e) hC);have T9:∀b o,s2.heap.get? b=some o->b≠s2.heap.objs.size:=λb o e=>YW (aay e);have tk:∀b u,H' b=some u->b≠s2.heap.objs.size:=λb u e z=>by rw[z,nD] at e;cases e
 have tC:∀b u,H' b=some u->b≠C:=λb u e z=>by rw[z,nC] at e;cases e
 have fD:H2 s2.heap.objs.size=none:=I2.cw.fresh (YR _);have t2:∀b u,H2 b=some u->b≠s2.heap.objs.size:=λb u e z=>by rw[z,fD] at e;cases e
 refine I2.Lk (s':={s' with heap:=h'}) (ch:=fp) os ⟨λb o e m hb hx=>?_,λb o e m hb hx=>?_,λb o e m hx=>?_,λb o e hx=>?_,λb xs e=>?_,λb o u e=>?_,λb ps e=>?_⟩ (λb u e=>?_) bare λb hb=>?_
 ·exact(hs.2 b (Pg b o e)).trans (un.keep b o e m hb hx)
 ·obtain⟨sl,q⟩:=un.slot b o e m hb hx;exact⟨sl,(hs.2 b (Pg b o e)).trans q⟩
 ·rw[aK (T9 b o e)];exact un.free b o e m hx
 ·obtain⟨o',q⟩:=un.there b o e hx;exact⟨o',(hs.2 b (Pg b o e)).trans q⟩
 ·rw[aK (t2 b _ e)];exact un.nF b xs e
 ·rw[aK (t2 b _ e)];exact un.oV b o u e
 ·obtain⟨mo,q⟩:=un.oW b ps e;exact⟨mo,by rw[aK (t2 b _ e)];exact q⟩
 ·by_cases hb:b=s2.heap.objs.size
  ·subst hb;rw[ag] at e;cases e;exact⟨sz,aW,n,vl,(hs.2 _ (YW hC)).trans hD⟩
  ·rw[aK hb] at e;exact(cw b u e).qK (λc v hc q=>(hs.2 c (by
    rcases hc with rfl | hc
    ·exact tC _ _ e
    ·exact tC _ _ hc)).trans q) (λc r=>by rw[aK (tk _ _ r)];exact r) λc xs r=>by rw[aK (tk _ _ r)];exact r
 ·exact⟨(f2 b hb).2.2.2.1,(f2 b hb).2.1,(f2 b hb).2.2.2.2.1,(f2 b hb).2.2.2.2.2⟩
abbrev tComp (wi:TI) (g:TG) (tc:TT) (te:TE) (k:Nat) (fr:List Nat):TE:=λσ H Q=>wi σ H λJ H1=>gu J g tc te (stC k fr σ) H1 λys H2=>∀D,H1 D=none->H2 D=none->Q (.ref D) (upd H2 D (.lst ys))
theorem bS {elt target iter:Expr} {ifs:List Expr} {scope so:Scope} {pos:Pos} {wi:TI} {g:TG} {tc:TT} {te:TE} {k:Nat} {fr:List Nat} {N N':List Str} (hc:X.calm=true) (hN:X.N=N) (Ph:X.env.scope=so) (S:fF N so N' scope k fr)
  (hi:PI X target iter wi) (hg:∀cl C s H ex,PG (nJ X N' scope cl C s H ex) target g) (ht:∀cl C s H ex,IZ (nJ X N' scope cl C s H ex) ifs tc) (he:∀cl C s H ex,PE (nJ X N' scope cl C s H ex) elt te)
  (hs:∀x,foldedSetIterable iter X.env x=pure x:=by intro _;rfl):PE X (.ListComp elt [⟨target,iter,ifs,0⟩] scope pos) (tComp wi g tc te k fr):=by
 subst hN Ph;intro pins s σ H Q I h;rw[eval_ListComp];obtain⟨cl,FL,c1,c2,c3⟩:=gi (env:=X.env) (scope:=scope) λn hn=>I.ok.has n (S.outer _ hn rfl);refine wpAny_comprehension_free (use:=none) (cl:=cl) rfl hs FL S.kind S.locs ?_;refine cO (hi pins s σ H _ I h) λv s1 h1=>cO h1 λG5 s2 h2=>?_;obtain⟨it,fp,tn,J,H2,rfl,I2,T,xG,f2,hb⟩:=h2;refine rP (RR:=λacc C=>compPost (model X.prog X.w) X.A X.xe none (EP X pins σ Q) acc C) hc S c1 c2 (λx c m=>⟨x,(c3 x c m).1⟩) (λx hx c m=>(S.IW _ hx rfl).2 (c3 x c m).2) (XE:=λ_ _ _ _ _ _ _=>False) hg ht he I2 T xG f2 hb ?_ (λ_ _ _ _ _ z=>False.elim z);intro C s' m ys aW n H' hC hn vl sz hD nD nC fin os bare un cw;exact⟨m,hn,λh' Pj=>⟨.ref _,_,comp_back I2 f2 hC vl sz hD nD nC os bare un cw Pj,rfl,fin _ (I2.cw.fresh (YR _)) nD⟩⟩
theorem fA {elt target iter:Expr} {ifs:List Expr} {scope so:Scope} {pos LS py:Pos} {wi:TI} {g:TG} {tc:TT} {te:TE} {k:Nat} {fr:List Nat} {N N':List Str} {y:Str} {i:Nat} (hc:X.calm=true) (hN:X.N.Nodup) (hy:X.N[i]?=some y) (hl:X.env.scope.names.lookup y=some .local)
  (Ua:X.N=N) (Ph:X.env.scope=so) (S:fF N so N' scope k fr)
  (hi:PI X target iter wi) (hg:∀cl C s H ex,PG (nJ X N' scope cl C s H ex) target g) (ht:∀cl C s H ex,IZ (nJ X N' scope cl C s H ex) ifs tc) (he:∀cl C s H ex,PE (nJ X N' scope cl C s H ex) elt te)
  (Pk:swapsWith (.ListComp elt [⟨target,iter,ifs,0⟩] scope pos) (some (.Name y py)) LS.line X.env=pure true:=by rfl)
  (hs:∀x,foldedSetIterable iter X.env x=pure x:=by intro _;rfl):PS X (.Assign [.Name y py] (.ListComp elt [⟨target,iter,ifs,0⟩] scope pos) LS) (tAsg (tComp wi g tc te k fr) (gName i)):=by
 subst Ua Ph;intro pins s σ H D I h;rw[exec_Assign_Name_used _ _ _ _ Pk];obtain⟨cl,FL,c1,c2,c3⟩:=gi (env:=X.env) (scope:=scope) λn hn=>I.ok.has n (S.outer _ hn rfl);refine wpAny_bind (wpAny_standAt (wpAny_bind ?_));show wpAny _ X.A (do let _ <-comprehension (.ListComp elt [⟨target,iter,ifs,0⟩] scope pos) scope X.env _ (newList []) false (eval iter X.env) (some (assign (.Name y py) X.env))) _ _ s;refine wpAny_bind (wpAny_mono (wpAny_comprehension_free (use:=some (assign (.Name y py) X.env)) (Q:=λ_ s'=>SP X pins D .next s') (cl:=cl) rfl hs FL S.kind S.locs ?_) (λ_ s' hq=>wpAny_pure (wpAny_pure hq)) λ_ _ e=>e);refine cO (hi pins s σ H _ I h) λv s1 h1=>cO h1 λG5 s2 h2=>?_;obtain⟨it,fp,tn,J,H2,rfl,I2,T,xG,f2,hb⟩:=h2;refine rP (RR:=λacc C=>compPost (model X.prog X.w) X.A X.xe (some (assign (.Name y py) X.env)) (λ_ s'=>SP X pins D .next s') acc C) hc S c1 c2 (λx c m=>⟨x,(c3 x c m).1⟩) (λx hx c m=>(S.IW _ hx rfl).2 (c3 x c m).2) (XE:=λ_ _ _ _ _ _ _=>False) hg ht he I2 T xG f2 hb ?_ (λ_ _ _ _ _ z=>False.elim z);intro C s' m ys aW n H' hC hn vl sz hD nD nC fin os bare un cw;have I3:Inv X pins σ (upd H' s2.heap.objs.size (.lst ys)) s':=comp_back (h':=s'.heap) I2 f2 hC vl sz hD nD nC os bare un cw (.refl ..);refine wpAny_assign_Name (rn (v:=.ref s2.heap.objs.size) I3 hN hy (.inl hl) rfl (λs4 I4 ch=>?_) (.inr hl));have RG:X.env.locals<s2.heap.objs.size:=I2.lt;obtain⟨a,Ub,ha⟩:=ch;have aC:a≠C:=by
  rcases ha with rfl | ha
  ·exact YW (Nat.lt_trans RG hC)
  ·obtain⟨v,q⟩:=I2.cell _ _ ha;exact YW (Nat.lt_trans q.lt hC)
 refine⟨m,hn.sameBut Ub (Ne.symm aC),λh' Pj=>⟨_,_,?_,fin _ (I2.cw.fresh (YR _)) nD⟩⟩;have Uc:(upd H' s2.heap.objs.size (.lst ys)) C=none:=by rw[aK (ZC hC)];exact nC
 exact I4.turned (t':=s4.toks) (it:=C) (h':=h') (λb o hb e=>(Pj.2 b hb).trans e) Uc (ZC (Nat.lt_trans RG hC)) (.inr (YY I2.sz (Nat.le_of_lt hC))) (λx c e z=>by
  obtain⟨v,q⟩:=I2.cell x c e;exact absurd (Nat.lt_trans q.lt hC) (by rw[z];exact Zj _)) (λp hp z=>by
  have:=aay (I2.pin p hp).1;rw[z] at this;exact absurd (Nat.lt_trans this hC) (Zj _))
end
structure Src (J:It) (Ok:Hp->Prop) (n:Nat) (Item:Nat->V->Hp->Hp->Prop):Prop where
 go:∀i H,i<n->Ok H->J.go i H
 xp:∀i H x H3,i<n->Ok H->J.xp i H x H3->Item i x H H3
 stop:∀H,Ok H->J.stop n H
theorem src_list {K:aam} {a:Addr} {xs:List V} {Ok:Hp->Prop} (h:∀H,Ok H->aS K H a xs):Src (uO K a) Ok xs.length (λi x H H3=>H3=H/\xs[i]?=some x) where
 go:=λi H hi ok=>⟨xs,xs[i],h H ok,by simp [hi]⟩
 xp:=λi H x H3 hi ok ⟨e,y⟩=>⟨e,y xs (h H ok)⟩
 stop:=λH ok=>⟨xs,h H ok,YR _⟩
theorem src_range {lo:Int} {n:Nat} {Ok:Hp->Prop}:Src (Lm lo n) Ok n (λi x H H3=>H3=H/\x=.int (lo+i)) where
 go:=λ_ _ hi _=>hi
 xp:=λ_ _ _ _ _ _ y=>y
 stop:=λ_ _=>YR _
theorem jo {J:It} {g:TG} {tc:TT} {te:TE} {σ0:St} {H1:Hp} {fin:List V->Hp->Prop} {n:Nat} {Item:Nat->V->Hp->Hp->Prop} (S:Src J (aA H1) n Item) (Ja:St->Prop) (h0:Ja σ0) (P:Nat->List V->Hp->Prop) (p0:P 0 [] H1) (hz:n<=sizeLine)
  (hs:∀i x σ H ys H3 (Q:St->V->Hp->Prop) (N:St->Hp->Prop),i<n->aA H1 H->P i ys H->ys.length<=i->Ja σ->Item i x H H3->
   (∀σ3 y H6,Ja σ3->aA H1 H6->P (i+1) (ys++ [y]) H6->Q σ3 y H6)->(∀σ3 H5,Ja σ3->aA H1 H5->P (i+1) ys H5->N σ3 H5)->
   g x σ H3 λσ3 H4=>tc σ3 H4 λb H5=>if b=true then te σ3 H5 λy H6=>Q σ3 y H6 else N σ3 H5)
  (mz:∀ys H,aA H1 H->P n ys H->ys.length<=n->fin ys H):gu J g tc te σ0 H1 fin:=by
 refine⟨λi m ys σ H=>m=n - i/\i<=n/\ys.length<=i/\Ja σ/\aA H1 H/\P i ys H,⟨n,by simp,Y1 _,YR _,h0,aA.refl _,p0⟩,?_⟩;rintro i m ys σ H ⟨rfl,hi,hl,ow,sm,p⟩
 by_cases gG:i<n
 ·refine .inr ⟨S.go i H gG sm,λx H3 y=>hs i x σ H ys H3 (λσ3 y H6=>ys.length<sizeLine/\∃m',m'<n - i/\m'=n - (i+1)/\i+1<=n/\(ys++ [y]).length<=i+1/\Ja σ3/\aA H1 H6/\P (i+1) (ys++ [y]) H6)
   (λσ3 H5=>∃m',m'<n - i/\m'=n - (i+1)/\i+1<=n/\ys.length<=i+1/\Ja σ3/\aA H1 H5/\P (i+1) ys H5) gG sm p hl ow (S.xp i H x H3 gG sm y) (λσ3 y H6 o s6 q=>?_) (λσ3 H5 o s5 q=>?_)⟩
  ·exact⟨⋯,n - (i+1),⋯,rfl,gG,by rw[Y7,List.length_singleton];lia,o,s6,q⟩
  ·exact⟨n - (i+1),⋯,rfl,gG,⋯,o,s5,q⟩
 ·have e:i=n:=⋯
  subst e;exact .inl ⟨S.stop H sm,mz ys H sm p hl⟩
theorem comp_map {J:It} {te:TE} {tl:St} {H1:Hp} {fin:List V->Hp->Prop} {n:Nat} {Item:Nat->V->Hp->Hp->Prop} (S:Src J (aA H1) n Item) (sub:∀i x H H3,Item i x H H3->aA H H3) (hz:n<=sizeLine)
  (R:Nat->V->Hp->Prop) (mono:∀i y H H',aA H H'->R i y H->R i y H')
  (hs:∀i x w H H3 (Q:VK),i<n->aA H1 H->Item i x H H3->(∀y H6,aA H3 H6->R i y H6->Q y H6)->te ((w::tl).set 0 (some x)) H3 Q)
  (mz:∀ys H,aA H1 H->ys.length=n->(∀i y,ys[i]?=some y->R i y H)->fin ys H):gu J (gName 0) gm te (none::tl) H1 fin:=by
 refine⟨λi m ys σ H=>m=n - i/\i<=n/\ys.length=i/\(∃w,σ=w::tl)/\aA H1 H/\∀j y,ys[j]?=some y->R j y H,⟨n,by simp,Y1 _,rfl,⟨_,rfl⟩,aA.refl _,λj y e=>by simp at e⟩,?_⟩;rintro i m ys σ H ⟨rfl,hi,hl,⟨w,rfl⟩,sm,p⟩
 by_cases gG:i<n
 ·refine .inr ⟨S.go i H gG sm,λx H3 y=>?_⟩;have it:=S.xp i H x H3 gG sm y;have s3:=sub i x H H3 it;unfold gName gm;refine LN ?_;refine hs i x w H H3 _ gG sm it λy H6 s6 r=>⟨⋯,n - (i+1),⋯,rfl,gG,by rw[Y7,List.length_singleton];lia,⟨_,rfl⟩,sm.trans (s3.trans s6),λj z e=>?_⟩
  by_cases hj:j<i
  ·rw[Zm ⋯] at e;exact mono j z _ _ (s3.trans s6) (p j z e)
  ·rw[Zn ⋯] at e;have e2:j - ys.length=0:=by
    by_cases q:j - ys.length=0
    ·exact q
    ·rw[Y0 (by simp;lia)] at e;cases e
   rw[e2] at e;simp at e;subst e;have:j=i:=⋯
   subst this;exact r
 ·have e:i=n:=⋯
  subst e;exact .inl ⟨S.stop H sm,mz ys H sm hl p⟩
abbrev Hb (J:It) (g:TG) (tb:TS) (D:Ends) (σ:St) (H:Hp):Prop:=
 ∃W:Nat->Nat->St->Hp->Prop,(∃m,W 0 m σ H)/\∀i m σ H,W i m σ H->
  (J.stop i H/\D.nx σ H)\/(J.go i H/\∃N:St->Hp->Prop,(∀σ' H',N σ' H'->∃m',m'<m/\W (i+1) m' σ' H')/\∀x H',J.xp i H x H'->g x σ H' λσ2 H2=>tb {D with nx:=N,ct:=N,bk:=D.nx} σ2 H2)
theorem tFor_eq {wi:TI} {g:TG} {tb:TS} {D:Ends} {σ:St} {H:Hp}:Ln wi g tb D σ H=wi σ H λJ H1=>Hb J g tb D σ H1:=rfl
theorem bJ {J:It} {g:TG} {tb:TS} {D:Ends} {σ:St} {H:Hp} {n:Nat} {Item:Nat->V->Hp->Hp->Prop} {Ok:Hp->Prop} (S:Src J Ok n Item) (Pv:Nat->St->Hp->Prop) (h0:Pv 0 σ H) (cw:∀i σ H,i<=n->Pv i σ H->Ok H)
  (hs:∀i x σ H H3,i<n->Pv i σ H->Item i x H H3->g x σ H3 λσ2 H2=>tb {D with nx:=Pv (i+1),ct:=Pv (i+1),bk:=D.nx} σ2 H2) (hd:∀σ H,Pv n σ H->D.nx σ H):Hb J g tb D σ H:=by
 refine⟨λi m σ H=>m=n - i/\i<=n/\Pv i σ H,⟨n,by simp,Y1 _,h0⟩,?_⟩;rintro i m σ H ⟨rfl,hi,p⟩
 by_cases gG:i<n
 ·exact .inr ⟨S.go i H gG (cw i σ H hi p),Pv (i+1),λσ' H' p'=>⟨n - (i+1),⋯,rfl,gG,p'⟩,λx H' y=>hs i x σ H H' gG p (S.xp i H x H' gG (cw i σ H hi p) y)⟩
 ·have e:i=n:=⋯
  subst e;exact .inl ⟨S.stop H (cw i σ H hi p),hd σ H p⟩
theorem gH {K:aam} {J:It} {te:TE} {tl:St} {H1:Hp} {fin:List V->Hp->Prop} {n:Nat} {Item:Nat->V->Hp->Hp->Prop} (S:Src J (aA H1) n Item) (LU:Nat->V->V->Hp->Prop)
  (tp:∀i x H H3,i<n->aA H1 H->Item i x H H3->aA H H3/\∃p a b,x=.ref p/\fV K H3 p [a,b]/\LU i a b H3) (hz:n<=sizeLine)
  (R:Nat->V->Hp->Prop) (mono:∀i y H H',aA H H'->R i y H->R i y H')
  (hs:∀i a b H3 (Q:VK),i<n->aA H1 H3->LU i a b H3->(∀y H6,aA H3 H6->R i y H6->Q y H6)->te (some a::some b::tl) H3 Q)
  (mz:∀ys H,aA H1 H->ys.length=n->(∀(i:Nat) y,ys[i]?=some y->R i y H)->fin ys H):gu J (BN K 2 (gCons (gName 0) (gCons (gName 1) gNil))) gm te (none::none::tl) H1 fin:=by
 refine⟨λi m ys σ H=>m=n - i/\i<=n/\ys.length=i/\(∃w w',σ=w::w'::tl)/\aA H1 H/\∀(j:Nat) y,ys[j]?=some y->R j y H,⟨n,by simp,Y1 _,rfl,⟨_,_,rfl⟩,aA.refl _,λj y e=>by simp at e⟩,?_⟩;rintro i m ys σ H ⟨rfl,hi,hl,⟨w,w',rfl⟩,sm,p⟩
 by_cases gG:i<n
 ·refine .inr ⟨S.go i H gG sm,λx H3 y=>?_⟩;obtain⟨s3,q,a,b,rfl,sq,it⟩:=tp i x H H3 gG sm (S.xp i H x H3 gG sm y);refine⟨q,_,rfl,sq,rfl,_,_,rfl,_,_,rfl,rfl,?_⟩;unfold gm;refine LN ?_;refine hs i a b H3 _ gG (sm.trans s3) it λy H6 s6 r=>⟨⋯,n - (i+1),⋯,rfl,gG,by rw[Y7,List.length_singleton];lia,⟨_,_,rfl⟩,sm.trans (s3.trans s6),λj z e=>?_⟩
  by_cases hj:j<i
  ·rw[Zm ⋯] at e;exact mono j z _ _ (s3.trans s6) (p j z e)
  ·rw[Zn ⋯] at e;have e2:j - ys.length=0:=by
    by_cases q:j - ys.length=0
    ·exact q
    ·rw[Y0 (by simp;lia)] at e;cases e
   rw[e2] at e;simp at e;subst e;have:j=i:=⋯
   subst this;exact r
 ·have e:i=n:=⋯
  subst e;exact .inl ⟨S.stop H sm,mz ys H sm hl p⟩
end L2
namespace L2
open PySem PySem.Spec PyProof.Rows
section
variable {X : Cx} {pins : List (Addr × Obj)} {σ : St} {H : Hp} {s : Shared}
theorem Inv.moved {h':Heap} {t':Nat} {ch:List Addr} (I:Inv X pins σ H s) (f:∀b∈ch,iQ X pins H b) (k:∀b o,b∉ch->s.heap.get? b=some o->h'.get? b=some o):Inv X pins σ H {s with heap:=h',toks:=t'}:=by
 have GY:∀b u,H b=some u->b∉ch:=λb u e z=>by rw[(f b z).1] at e;cases e
 refine I.step (g':=s.gens) (d':=s.drawn) (ch:=ch) (λb hb=>⟨(f b hb).2.2.2.1,(f b hb).2.1,(f b hb).2.2.2.2.1,(f b hb).2.2.2.2.2⟩) (λb o _ _ hc e _=>k b o hc e) (λb o _ _ hc e _=>⟨o.slots,k b o hc e⟩) (λ_ _ _ _ n=>n)
  (λb o hc e=>⟨o,k b o hc e⟩) (λ_ _ e=>e) (λ_ _ _ e=>e) (λb ps e=>⟨#[],by rw[e];simp⟩) (λm hm=>?_) (λb u e=>?_) I.bare
 ·obtain⟨o,es,ep,ho,r⟩:=hm;exact⟨o,es,ep,k _ o (λz=>(f _ z).2.1 rfl) ho,r⟩
 ·refine(I.cw b u e).qK (λc v hc q=>k c v ?_ q) (λ_ q=>q) λ_ _ q=>q;rcases hc with z | z
  ·rw[z];exact GY b u e
  ·exact GY c _ z
theorem Inv.take {ad:Addr} {o:HO} (I:Inv X pins σ H s) (f:iQ X pins H ad) (new:X.s₀.heap.objs.size<=ad) (ok:cX X.prog X.w (upd H ad o) s.heap ad o):Inv X pins σ (upd H ad o) s:=by
 obtain⟨hn,nL,nf,_,nc,np⟩:=f;have tk:∀b u,H b=some u->b≠ad:=λb u e z=>by rw[z,hn] at e;cases e
 refine⟨I.ok,I.os,I.bare,⟨I.base.keep,I.base.slot,λb ob e m hx=>?_,I.base.there,λb xs e=>?_,λb ob u e=>?_,λb ps e=>?_⟩,I.loc,I.cell,?_,λx c e=>?_,λp hp=>?_,λb u e=>?_,I.len⟩
 ·rw[aK (YW (Y3 (aay e) new))];exact I.base.free b ob e m hx
 ·have q:=I.base.nF b xs e;rw[aK (tk b _ q)];exact q
 ·have q:=I.base.oV b ob u e;rw[aK (tk b _ q)];exact q
 ·obtain⟨mo,q⟩:=I.base.oW b ps e;exact⟨mo,by rw[aK (tk b _ q)];exact q⟩
 ·rw[aK (Ne.symm nL)];exact I.free
 ·rw[aK (nc x c e)];exact I.iO x c e
 ·obtain⟨a,b,c⟩:=I.pin p hp;exact⟨a,by rw[aK (np p hp)];exact b,c⟩
 ·by_cases hb:b=ad
  ·subst hb;rw[ag] at e;cases e;exact ok
  ·rw[aK hb] at e;exact(I.cw b u e).qK (λ_ _ _ q=>q) (λc r=>by rw[aK (tk _ _ r)];exact r) λc xs r=>by rw[aK (tk _ _ r)];exact r
end
abbrev Pn (K:aam) (a b:Addr):It:=
 ⟨λi H=>∃xs ys x y,aS K H a xs/\aS K H b ys/\xs[i]?=some x/\ys[i]?=some y,
  λi H v H'=>∃p,H p=none/\v=.ref p/\∃x y,(∀xs,aS K H a xs->xs[i]?=some x)/\(∀ys,aS K H b ys->ys[i]?=some y)/\H'=upd H p (.tup [x,y]),
  λi H=>∃xs ys,aS K H a xs/\aS K H b ys/\(i=min xs.length ys.length)⟩
theorem Cj {P:Program} {w:World} {K:aam} {elts:List Expr} {k:Nat} {pos:Pos} (z TI TO i1 i2 a b:Addr) (D:ZipApart z TI TO i1 i2 a b):
  Turn P w K (.Tuple elts k pos) (Pn K a b) [z,TI,TO,i1,i2] z (λi h=>IsZip h z TI TO .none/\IsPair h TI (.ref i1) (.ref i2)/\(∃x y,IsPair h TO x y)/\h.IsListIter i1 a i/\h.IsListIter i2 b i) where
 mem:=by simp
 obj:=λi h st c hc=>by
  obtain⟨hz,uQ,⟨x,y,xt⟩,⟨o1,e1,_,d1⟩,⟨o2,e2,_,d2⟩⟩:=st;simp only[ZT,ZX,or_false] at hc;rcases hc with rfl | rfl | rfl | rfl | rfl
  ·exact⟨_,hz,λv q=>by cases q⟩
  ·exact⟨_,uQ,λv q=>by cases q⟩
  ·exact⟨_,xt,λv q=>by cases q⟩
  ·exact⟨_,e1,λv q=>by rw[d1] at q;cases q⟩
  ·exact⟨_,e2,λv q=>by rw[d2] at q;cases q⟩
 keep:=λi h h' st kp=>by
  obtain⟨hz,uQ,⟨x,y,xt⟩,h1,h2⟩:=st;exact⟨kp z (by simp) _ hz,kp TI (by simp) _ uQ,⟨x,y,kp TO (by simp) _ xt⟩,h1.at λo e=>kp i1 (by simp) o e,h2.at λo e=>kp i2 (by simp) o e⟩
 item:=by
  intro X hP hw hK hc i pins s σ H E I hf st hg;subst hP hw hK;obtain⟨xs,ys,x,y,ze,zf,hx,hy⟩:=hg;obtain⟨fW,r1,p1,z1⟩:=I.list ze;obtain⟨nH,r2,p2,z2⟩:=I.list zf;obtain⟨u,eu,ru⟩:=r1.get hx;obtain⟨v,ev,rv⟩:=r2.get hy;obtain⟨hz,uQ,⟨x0,y0,xt⟩,h1,h2⟩:=st;have W:=WalksT.zip2 (prog:=X.prog) (w:=X.w) (I.ok.hd hc) z TI TO i1 i2 a b D fW.toArray nH.toArray;have li:i<min fW.toArray.size nH.toArray.size:=by
   have a1:=(aat.mp eu).1;have a2:=(aat.mp ev).1;simp only[YX];lia
  refine W.item i s _ _ li ⟨hz,uQ,⟨x0,y0,xt⟩,h1,h2,p1.isList,p2.isList⟩ λT vals h' tk E1 hT hI hm kk=>?_;have sub:∀c∈[z,TO,i1,i2],c∈[z,TI,TO,i1,i2]:=λc hc=>by simp at hc ⊢;rcases hc with rfl | rfl | rfl | rfl <;>simp
  have I1:Inv X pins σ H {s with heap:=h',toks:=tk}:=I.moved (ch:=[z,TO,i1,i2]) (λc hc=>hf c (sub c hc)) kk;have fT:iQ X pins H T:=I.sW hT (I.cw.fresh hT);refine⟨_,rfl,W.go elts k pos i T _ _ _ hm λxu xG LV=>?_⟩;have I2:Inv X pins σ H {s with heap:=xu,toks:=tk}:=I1.moved (s:={s with heap:=h',toks:=tk}) (t':=tk) (ch:=[z,TO,i1,i2]) (λc hc=>hf c (sub c hc)) LV;obtain⟨x',y',ex,ey,rfl⟩:=E1;have Fc:fW[i]?=some x':=by simpa using ex
  have LW:nH[i]?=some y':=by simpa using ey
  rw[eu] at Fc;cases Fc;rw[ev] at LW;cases LW;have Po:=W.apart _ _ _ hm;obtain⟨oT,eT,cT,nT,dT⟩:=hI;have LX:IsTup xu T #[u,v]:=⟨oT,LV _ _ Po eT,cT,nT,dT⟩
  have I3:Inv X pins σ (upd H T (.tup [x,y])) {s with heap:=xu,toks:=tk}:=
   I2.take fT (YY I.sz hT) ⟨by show 2<=sizeLine;decide,[u,v],.cons ru (.cons rv .nil),LX⟩
  obtain⟨b1,b2,b3,b4,b5,_,_⟩:=xG;refine⟨.ref T,_,I3,rfl,⟨T,fT.1,rfl,x,y,λjE q=>?_,λUd q=>?_,rfl⟩,⟨b1,b2,b3,b4,b5⟩,λc hc=>?_⟩
  ·rw[I.eW q ze];exact hx
  ·rw[I.eW q zf];exact hy
  ·rw[aK (λq=>?_)]
   ·exact(hf c hc).1
   ·subst q;obtain⟨o,e,_⟩:∃o,s.heap.get? c=some o/\True:=by
     simp only[ZT,ZX,or_false] at hc;obtain⟨o1,e1,_⟩:=h1;obtain⟨o2,e2,_⟩:=h2;rcases hc with rfl | rfl | rfl | rfl | rfl
     ·exact⟨_,hz,trivial⟩
     ·exact⟨_,uQ,trivial⟩
     ·exact⟨_,xt,trivial⟩
     ·exact⟨_,e1,trivial⟩
     ·exact⟨_,e2,trivial⟩
    exact absurd (aay e) (Nat.not_lt.mpr hT)
 done:=by
  intro X hP hw hK hc i pins s σ H E I hf st hg;subst hP hw hK;obtain⟨xs,ys,ze,zf,hi⟩:=hg;obtain⟨fW,r1,p1,z1⟩:=I.list ze;obtain⟨nH,r2,p2,z2⟩:=I.list zf;obtain⟨hz,uQ,xt,h1,h2⟩:=st;have W:=WalksT.zip2 (prog:=X.prog) (w:=X.w) (I.ok.hd hc) z TI TO i1 i2 a b D fW.toArray nH.toArray;have l1:=r1.length;have l2:=r2.length;have e:i=min fW.toArray.size nH.toArray.size:=by simp only[YX];lia
  subst e;have sub:∀c∈[z,TO,i1,i2],c∈[z,TI,TO,i1,i2]:=λc hc=>by simp at hc ⊢;rcases hc with rfl | rfl | rfl | rfl <;>simp
  exact W.done s _ _ ⟨hz,uQ,xt,h1,h2,p1.isList,p2.isList⟩ λh' tk kk=>⟨rfl,I.moved (ch:=[z,TO,i1,i2]) (λc hc=>hf c (sub c hc)) kk⟩
 self:=λ_ _ _ _ _ st h=>wpAny_pyIter_zip st.1 h
abbrev KO (K:aam) (a:Addr):It:=
 ⟨λi H=>∃xs x,aS K H a xs/\xs[i]?=some x,
  λi H v H'=>∃p,H p=none/\v=.ref p/\∃x,(∀xs,aS K H a xs->xs[i]?=some x)/\H'=upd H p (.tup [.int i,x]),
  λi H=>∃xs,aS K H a xs/\xs.length=i⟩
theorem AU {P:Program} {w:World} {K:aam} {elts:List Expr} {k:Nat} {pos:Pos} (e it a:Addr) (NN:e≠it) (hle:a≠e) (RH:a≠it):
  Turn P w K (.Tuple elts k pos) (KO K a) [e,it] e (λi h=>(∃old,IsEnum h e it i old)/\h.IsListIter it a i) where
 mem:=by simp
 obj:=λi h st c hc=>by
  obtain⟨⟨old,he⟩,⟨o1,e1,_,d1⟩⟩:=st;simp only[ZT,ZX,or_false] at hc;rcases hc with rfl | rfl
  ·exact⟨_,he,λv q=>by cases q⟩
  ·exact⟨_,e1,λv q=>by rw[d1] at q;cases q⟩
 keep:=λi h h' st kp=>by
  obtain⟨⟨old,he⟩,h1⟩:=st;exact⟨⟨old,kp e (by simp) _ he⟩,h1.at λo q=>kp it (by simp) o q⟩
 item:=by
  intro X hP hw hK hc i pins s σ H E I hf st hg;subst hP hw hK;obtain⟨xs,x,ze,hx⟩:=hg;obtain⟨fW,r1,p1,z1⟩:=I.list ze;obtain⟨u,eu,ru⟩:=r1.get hx;obtain⟨he,h1⟩:=st;have W:=WalksT.enumerate (prog:=X.prog) (w:=X.w) (I.ok.hd hc) e it a NN hle RH fW.toArray;have li:i<fW.toArray.size:=by
   have a1:=(aat.mp eu).1;simp only[YX];lia
  refine W.item i s _ _ li ⟨he,h1,p1.isList⟩ λT vals h' tk E1 hT hI hm kk=>?_;have I1:Inv X pins σ H {s with heap:=h',toks:=tk}:=I.moved (ch:=[e,it]) hf kk;have fT:iQ X pins H T:=I.sW hT (I.cw.fresh hT);refine⟨_,rfl,W.go elts k pos i T _ _ _ hm λxu xG LV=>?_⟩;have I2:Inv X pins σ H {s with heap:=xu,toks:=tk}:=I1.moved (s:={s with heap:=h',toks:=tk}) (t':=tk) (ch:=[e,it]) hf LV;obtain⟨t,x',ex,rfl⟩:=E1;have Fc:fW[i]?=some x':=by simpa using ex
  rw[eu] at Fc;cases Fc;have Po:=W.apart _ _ _ hm;obtain⟨oT,eT,cT,nT,dT⟩:=hI;have LX:IsTup xu T #[.int i t,u]:=⟨oT,LV _ _ Po eT,cT,nT,dT⟩
  have I3:Inv X pins σ (upd H T (.tup [.int i,x])) {s with heap:=xu,toks:=tk}:=
   I2.take fT (YY I.sz hT) ⟨by show 2<=sizeLine;decide,[.int i t,u],.cons ⟨t,rfl⟩ (.cons ru .nil),LX⟩
  obtain⟨b1,b2,_⟩:=xG;refine⟨.ref T,_,I3,rfl,⟨T,fT.1,rfl,x,λjE q=>?_,rfl⟩,⟨b1,b2⟩,λc hc=>?_⟩
  ·rw[I.eW q ze];exact hx
  ·rw[aK (λq=>?_)]
   ·exact(hf c hc).1
   ·subst q;obtain⟨o,e,_⟩:∃o,s.heap.get? c=some o/\True:=by
     simp only[ZT,ZX,or_false] at hc;obtain⟨old,he⟩:=he;obtain⟨o1,e1,_⟩:=h1;rcases hc with rfl | rfl
     ·exact⟨_,he,trivial⟩
     ·exact⟨_,e1,trivial⟩
    exact absurd (aay e) (Nat.not_lt.mpr hT)
 done:=by
  intro X hP hw hK hc i pins s σ H E I hf st hg;subst hP hw hK;obtain⟨xs,ze,hi⟩:=hg;obtain⟨fW,r1,p1,z1⟩:=I.list ze;obtain⟨he,h1⟩:=st;have W:=WalksT.enumerate (prog:=X.prog) (w:=X.w) (I.ok.hd hc) e it a NN hle RH fW.toArray;have l1:=r1.length;have e:i=fW.toArray.size:=by simp only[YX];lia
  subst e;exact W.done s _ _ ⟨he,h1,p1.isList⟩ λh' tk kk=>⟨rfl,I.moved (ch:=[_,it]) hf kk⟩
 self:=λ_ _ _ _ _ st h=>by
  obtain⟨⟨old,he⟩,_⟩:=st;exact wpAny_pyIter_enum he h
section
variable {X : Cx} {elts : List Expr} {kk : Nat} {jV : Pos}
abbrev iZip (K:aam) (ta:TA):TI:=λσ H R=>ta σ H λvs H1=>∃a b,vs=[.ref a,.ref b]/\(∃xs,aS K H1 a xs)/\(∃ys,aS K H1 b ys)/\R (Pn K a b) H1
theorem Jb {a b:Expr} {ta:TA} {p pos:Pos} (hg:Gl X "zip") (hm:X.mg "zip"=none) (ha:PA X [a,b] ta) (hs:starEach [a,b] X.env=[(false,eval a X.env),(false,eval b X.env)]:=by rfl) (EW:starEach [b] X.env=[(false,eval b X.env)]:=by rfl):
  PI X (.Tuple elts kk jV) (.Call (.Name "zip" p) [a,b] [] pos) (iZip X.K ta):=by
 intro pins s σ H R I h;refine Call_ (g8 I hg hm rfl (aaf (cO (ha pos pins s σ H _ I h) λus s1 dB=>?_) (by rw[hs,EW]) (by rw[EW];rfl)));obtain⟨vs,H1,I1,r1,q1⟩:=dB;obtain⟨a,b,e,⟨xs,q1⟩,⟨ys,q2⟩,q⟩:=q1;subst e;obtain⟨u,u',rfl,ra,rb⟩:=vals2 r1;cases ra;cases rb;obtain⟨fW,v1,p1,z1⟩:=I1.list q1;obtain⟨nH,v2,p2,z2⟩:=I1.list q2;refine call_zip_2 p1.isList p2.isList λh' b1 b2 b3 b4 b5 b6 kp=>?_;refine wpAny_pyIter_zip b1 ?_;have I2:Inv X pins σ H1 {s1 with heap:=h'}:=I1.kept (t':=s1.toks) kp;have la:a<s1.heap.objs.size:=by obtain⟨o,e,_⟩:=p1.isList;exact aay e
 have lb:b<s1.heap.objs.size:=by obtain⟨o,e,_⟩:=p2.isList;exact aay e
 refine⟨s1.heap.objs.size+4,[s1.heap.objs.size+4,s1.heap.objs.size+2,s1.heap.objs.size+3,s1.heap.objs.size,s1.heap.objs.size+1],_,_,H1,rfl,I2,
  Cj (s1.heap.objs.size+4) (s1.heap.objs.size+2) (s1.heap.objs.size+3) s1.heap.objs.size (s1.heap.objs.size+1) a b (by constructor <;>(first | exact YW ⋯ | exact ZC ⋯ | exact YW la | exact YW lb | exact YW (Y3 la (Nat.le_add_right _ _)) | exact YW (Y3 lb (Nat.le_add_right _ _)))),⟨b1,b2,⟨_,_,b3⟩,b4,b5⟩,λc hc=>?_,q⟩
 have zg:s1.heap.objs.size<=c:=by
  simp only[ZT,ZX,or_false] at hc;rcases hc with rfl | rfl | rfl | rfl | rfl <;>lia
 exact I1.sW zg (I1.cw.fresh zg)
abbrev iEnum (K:aam) (ta:TA):TI:=λσ H R=>ta σ H λvs H1=>∃a,vs=[.ref a]/\(∃xs,aS K H1 a xs)/\R (KO K a) H1
theorem tJ {a:Expr} {ta:TA} {p pos:Pos} (hg:Gl X "enumerate") (hm:X.mg "enumerate"=none) (ha:PA X [a] ta) (hs:starEach [a] X.env=[(false,eval a X.env)]:=by rfl):
  PI X (.Tuple elts kk jV) (.Call (.Name "enumerate" p) [a] [] pos) (iEnum X.K ta):=by
 intro pins s σ H R I h;refine Call_ (g8 I hg hm rfl (aaf (cO (ha pos pins s σ H _ I h) λus s1 dB=>?_) hs rfl));obtain⟨vs,H1,I1,r1,q1⟩:=dB;obtain⟨a,e,⟨xs,q1⟩,q⟩:=q1;subst e;obtain⟨u,rfl,ra⟩:=vals1 r1;cases ra;obtain⟨fW,v1,p1,z1⟩:=I1.list q1;refine call_enumerate_list p1.isList λh' b1 b2 b3 kp=>?_;refine wpAny_pyIter_enum b1 ?_;have I2:Inv X pins σ H1 {s1 with heap:=h'}:=I1.kept (t':=s1.toks) kp;have la:a<s1.heap.objs.size:=by obtain⟨o,e,_⟩:=p1.isList;exact aay e
 refine⟨s1.heap.objs.size+1,[s1.heap.objs.size+1,s1.heap.objs.size],_,_,H1,rfl,I2,
  AU (s1.heap.objs.size+1) s1.heap.objs.size a (ZC (Zl _)) (YW (Z8 la)) (YW la),⟨⟨_,b1⟩,b2⟩,λc hc=>?_,q⟩
 have zg:s1.heap.objs.size<=c:=by
  simp only[ZT,ZX,or_false] at hc;rcases hc with rfl | rfl <;>lia
 exact I1.sW zg (I1.cw.fresh zg)
end
theorem jr {K:aam} {a b:Addr} {xs ys:List V} {Ok:Hp->Prop} (h1:∀H,Ok H->aS K H a xs) (h2:∀H,Ok H->aS K H b ys):
  Src (Pn K a b) Ok (min xs.length ys.length) (λi v H H3=>∃p x y,H p=none/\v=.ref p/\xs[i]?=some x/\ys[i]?=some y/\H3=upd H p (.tup [x,y])) where
 go:=λi H hi ok=>⟨xs,ys,xs[i]'⋯,ys[i]'⋯,h1 H ok,h2 H ok,by simp,by simp⟩
 xp:=λi H x H3 hi ok ⟨p,n,e,u,v,e1,e2,e3⟩=>⟨p,u,v,n,e,e1 xs (h1 H ok),e2 ys (h2 H ok),e3⟩
 stop:=λH ok=>⟨xs,ys,h1 H ok,h2 H ok,rfl⟩
theorem fN {K:aam} {a:Addr} {xs:List V} {Ok:Hp->Prop} (h1:∀H,Ok H->aS K H a xs):
  Src (KO K a) Ok xs.length (λi v H H3=>∃p x,H p=none/\v=.ref p/\xs[i]?=some x/\H3=upd H p (.tup [.int i,x])) where
 go:=λi H hi ok=>⟨xs,xs[i],h1 H ok,by simp [hi]⟩
 xp:=λi H x H3 hi ok ⟨p,n,e,u,e1,e3⟩=>⟨p,u,n,e,e1 xs (h1 H ok),e3⟩
 stop:=λH ok=>⟨xs,h1 H ok,rfl⟩
end L2
namespace L2
open PySem PySem.Spec PyProof.Rows
inductive Dat where
 | cJ | bl (b:Bool) | int (i:Int) | str (x:Str) | tup (l:List Dat) | lst (l:List Dat)
mutual
noncomputable def Rep (H:Hp):Dat->V->Prop
 | .cJ,v=>v=.cJ
 | .bl b,v=>v=.bl b
 | .int i,v=>v=.int i
 | .str x,v=>v=.str x
 | .tup ds,v=>∃p vs,v=.ref p/\H p=some (.tup vs)/\a8 H ds vs
 | .lst ds,v=>∃p vs,v=.ref p/\H p=some (.lst vs)/\a8 H ds vs
noncomputable def a8 (H:Hp):List Dat->List V->Prop
 | [],vs=>vs=[]
 | d::ds,vs=>∃v r,vs=v::r/\Rep H d v/\a8 H ds r
end
mutual
theorem Rep.mono {H H':Hp} (s:aA H H'):∀{d:Dat} {v:V},Rep H d v->Rep H' d v
 | .cJ,_,h=>by rw[Rep] at *;exact h
 | .bl _,_,h=>by rw[Rep] at *;exact h
 | .int _,_,h=>by rw[Rep] at *;exact h
 | .str _,_,h=>by rw[Rep] at *;exact h
 | .tup _,_,h=>by
  rw[Rep] at *;obtain⟨p,vs,e,hp,r⟩:=h;exact⟨p,vs,e,s _ _ hp,a8.mono s r⟩
 | .lst _,_,h=>by
  rw[Rep] at *;obtain⟨p,vs,e,hp,r⟩:=h;exact⟨p,vs,e,s _ _ hp,a8.mono s r⟩
theorem a8.mono {H H':Hp} (s:aA H H'):∀{ds:List Dat} {vs:List V},a8 H ds vs->a8 H' ds vs
 | [],_,h=>by rw[a8] at *;exact h
 | _::_,_,h=>by
  rw[a8] at *;obtain⟨v,r,e,h1,h2⟩:=h;exact⟨v,r,e,Rep.mono s h1,a8.mono s h2⟩
end
theorem a8.length {H:Hp}:∀{ds:List Dat} {vs:List V},a8 H ds vs->ds.length=vs.length
 | [],_,h=>by rw[a8] at h;subst h;rfl
 | _::_,_,h=>by
  rw[a8] at h;obtain⟨v,r,rfl,_,h2⟩:=h;simp [h2.length]
theorem a8.get {H:Hp}:∀{ds:List Dat} {vs:List V} {i:Nat} {v:V},a8 H ds vs->vs[i]?=some v->∃d,ds[i]?=some d/\Rep H d v
 | [],_,i,v,h,e=>by rw[a8] at h;subst h;simp at e
 | d::ds,_,i,v,h,e=>by
  rw[a8] at h;obtain⟨v',r,rfl,h1,h2⟩:=h;cases i with
  | zero=>simp at e;subst e;exact⟨d,rfl,h1⟩
  | succ i=>simp at e;obtain⟨d',e',r'⟩:=h2.get e;exact⟨d',by simpa using e',r'⟩
theorem a8.at {H:Hp}:∀{ds:List Dat} {vs:List V} {i:Nat} {d:Dat},a8 H ds vs->ds[i]?=some d->∃v,vs[i]?=some v/\Rep H d v
 | [],_,i,v,h,e=>by simp at e
 | d::ds,_,i,d',h,e=>by
  rw[a8] at h;obtain⟨v',r,rfl,h1,h2⟩:=h;cases i with
  | zero=>simp at e;subst e;exact⟨v',rfl,h1⟩
  | succ i=>simp at e;obtain⟨v,e',r'⟩:=h2.at e;exact⟨v,by simpa using e',r'⟩
theorem a8.of {H:Hp}:∀{ds:List Dat} {vs:List V},ds.length=vs.length->(∀(i:Nat) d v,ds[i]?=some d->vs[i]?=some v->Rep H d v)->a8 H ds vs
 | [],[],_,_=>by rw[a8]
 | [],_::_,h,_=>by simp at h
 | _::_,[],h,_=>by simp at h
 | d::ds,v::vs,h,k=>by
  rw[a8];exact⟨v,vs,rfl,k 0 d v rfl rfl,a8.of (by simpa using h) λi d' v' e1 e2=>k (i+1) d' v' (by simpa using e1) (by simpa using e2)⟩
theorem a8.append {H:Hp}:∀{as bs:List Dat} {us vs:List V},a8 H as us->a8 H bs vs->a8 H (as++bs) (us++vs)
 | [],_,_,_,h,k=>by rw[a8] at h;subst h;exact k
 | _::_,_,_,_,h,k=>by
  rw[a8] at h;obtain⟨v,r,rfl,h1,h2⟩:=h;show a8 H (_::(_++_)) (_::(_++_));rw[a8];exact⟨_,_,rfl,h1,h2.append k⟩
abbrev depth:Dat->Nat
 | .tup l=>1+dL l
 | .lst l=>1+dL l
 | _=>0
where dL:List Dat->Nat
 | []=>0
 | d::ds=>max (depth d) (dL ds)
theorem gI {d:Dat}:∀{ds:List Dat},d∈ds->depth d<=depth.dL ds
 | e::ds,h=>by
  rw[depth.dL];rcases ZT.mp h with rfl | h
  ·exact Nat.le_max_left _ _
  ·exact YY (gI h) (Nat.le_max_right _ _)
section
variable {X : Cx} {pins : List (Addr × Obj)} {σ : St} {H : Hp} {s : Shared}
theorem all_true (n:Nat):((List.range n).all λ_=>true)=true:=by simp
theorem Ck (I:Inv X pins σ H s):∀(n:Nat) (d:Dat),depth d<=n->∀(v v':V) (u u':Value) (A:Around),Rep H d v->Rep H d v'->RelV v u->RelV v' u'->A.units+n<cLine->SeqAt.EqAt A s u u' true:=by
 intro n
 induction n with
 | zero=>
  intro d hd v v' u u' A h h' r r' hu;cases d with
  | cJ=>rw[Rep] at h h';subst h h';cases r;cases r';exact SeqAt.EqAt.same _
  | bl b=>rw[Rep] at h h';subst h h';cases r;cases r';exact SeqAt.EqAt.same _
  | int i=>rw[Rep] at h h';subst h h';obtain⟨t,rfl⟩:=r;obtain⟨t',rfl⟩:=r';have:=SeqAt.EqAt.int_int (A:=A) (s:=s) i t i t';simpa using this
  | str x=>rw[Rep] at h h';subst h h';obtain⟨t,rfl⟩:=r;obtain⟨t',rfl⟩:=r';have:=SeqAt.EqAt.str_str (A:=A) (s:=s) x t x t';simpa using this
  | tup l=>rw[depth] at hd;lia
  | lst l=>rw[depth] at hd;lia
 | succ n ih=>
  intro d hd v v' u u' A h h' r r' hu;cases d with
  | cJ=>rw[Rep] at h h';subst h h';cases r;cases r';exact SeqAt.EqAt.same _
  | bl b=>rw[Rep] at h h';subst h h';cases r;cases r';exact SeqAt.EqAt.same _
  | int i=>rw[Rep] at h h';subst h h';obtain⟨t,rfl⟩:=r;obtain⟨t',rfl⟩:=r';have:=SeqAt.EqAt.int_int (A:=A) (s:=s) i t i t';simpa using this
  | str x=>rw[Rep] at h h';subst h h';obtain⟨t,rfl⟩:=r;obtain⟨t',rfl⟩:=r';have:=SeqAt.EqAt.str_str (A:=A) (s:=s) x t x t';simpa using this
  | tup l=>
   rw[Rep] at h h';obtain⟨p,vs,rfl,hp,rl⟩:=h;obtain⟨p',Hc,rfl,kH,Cm⟩:=h';cases r;cases r';rw[depth] at hd
   by_cases LY:p=p'
   ·subst LY;exact SeqAt.EqAt.same _
   obtain⟨aW,rv,pl,hz⟩:=I.tuple (fV.of hp);obtain⟨its',Cn,Jc,Pp⟩:=I.tuple (fV.of kH);have e1:=rl.length;have e2:=Cm.length;have l1:=rv.length;have l2:=Cn.length;have R:=SeqAt.RcAt.tuples (A:=A) (e:=λ_=>true) pl Jc ⋯ (λj h1 h2=>?_)
   ·simp only[YX,all_true,Bool.true_and] at R;rw[show(aW.length==its'.length)=true by simp;lia] at R;exact .of_refs LY R
   ·rw[YX] at h1 h2;obtain⟨d,ed⟩:∃d,l[j]?=some d:=⟨l[j]'⋯,by simp⟩
    obtain⟨v1,f1,q1⟩:=rl.at ed;obtain⟨v2,f2,q2⟩:=Cm.at ed;obtain⟨u1,g1,w1⟩:=rv.get f1;obtain⟨u2,g2,w2⟩:=Cn.get f2;have a1:aW.toArray[j]=u1:=by simpa [YM h1] using g1
    have a2:its'.toArray[j]=u2:=by simpa [YM h2] using g2
    rw[a1,a2];have:=gI (YQ ed);exact ih d ⋯ v1 v2 u1 u2 A.in1 q1 q2 w1 w2 (by show A.units+1+n<cLine;lia)
  | lst l=>
   rw[Rep] at h h';obtain⟨p,vs,rfl,hp,rl⟩:=h;obtain⟨p',Hc,rfl,kH,Cm⟩:=h';cases r;cases r';rw[depth] at hd
   by_cases LY:p=p'
   ·subst LY;exact SeqAt.EqAt.same _
   obtain⟨aW,rv,pl,hz⟩:=I.list (aS.of hp);obtain⟨its',Cn,Jc,Pp⟩:=I.list (aS.of kH);have e1:=rl.length;have e2:=Cm.length;have l1:=rv.length;have l2:=Cn.length;have R:=SeqAt.RcAt.lists (A:=A) (e:=λ_=>true) pl.isList Jc.isList (by simp only[YX];lia) ⋯ (λj h1 h2=>?_)
   ·rw[all_true] at R;exact .of_refs LY R
   ·rw[YX] at h1 h2;obtain⟨d,ed⟩:∃d,l[j]?=some d:=⟨l[j]'⋯,by simp⟩
    obtain⟨v1,f1,q1⟩:=rl.at ed;obtain⟨v2,f2,q2⟩:=Cm.at ed;obtain⟨u1,g1,w1⟩:=rv.get f1;obtain⟨u2,g2,w2⟩:=Cn.get f2;have a1:aW.toArray[j]=u1:=by simpa [YM h1] using g1
    have a2:its'.toArray[j]=u2:=by simpa [YM h2] using g2
    rw[a1,a2];have:=gI (YQ ed);exact ih d ⋯ v1 v2 u1 u2 A.in1 q1 q2 w1 w2 (by show A.units+1+n<cLine;lia)
end
section
variable {X : Cx}
abbrev Co (b:Bool):R2:=λx y H Q=>∃d,Rep H d x/\Rep H d y/\(∃p,x=.ref p)/\depth d<=40/\Q (.bl b) H
theorem Cp {pins:List (Addr×Obj)} {σ:St} {H:Hp} {s:Shared} {d:Dat} {p p':Addr} (I:Inv X pins σ H s) (hu:X.A.units+64<cLine) (h:Rep H d (.ref p)) (h':Rep H d (.ref p')) (hd:depth d<=40):
  (∃aW its':List Value,IsTup s.heap p aW.toArray/\IsTup s.heap p' its'.toArray/\aW.length=its'.length/\∀j (h1:j<aW.toArray.size) (h2:j<its'.toArray.size),SeqAt.EqAt X.A.in1 s aW.toArray[j] its'.toArray[j] true)\/
  (∃aW its':List Value,s.heap.IsList p aW.toArray/\s.heap.IsList p' its'.toArray/\aW.length=its'.length/\∀j (h1:j<aW.toArray.size) (h2:j<its'.toArray.size),SeqAt.EqAt X.A.in1 s aW.toArray[j] its'.toArray[j] true):=by
 cases d with
 | cJ=>rw[Rep] at h;cases h
 | bl b=>rw[Rep] at h;cases h
 | int i=>rw[Rep] at h;cases h
 | str x=>rw[Rep] at h;cases h
 | tup l=>
  left
  rw[Rep] at h h';obtain⟨_,vs,e,hp,rl⟩:=h;cases e;obtain⟨_,Hc,e,kH,Cm⟩:=h';cases e;rw[depth] at hd;obtain⟨aW,rv,pl,hz⟩:=I.tuple (fV.of hp);obtain⟨its',Cn,Jc,Pp⟩:=I.tuple (fV.of kH);have e1:=rl.length;have e2:=Cm.length;have l1:=rv.length;have l2:=Cn.length;refine⟨aW,its',pl,Jc,⋯,λj h1 h2=>?_⟩;rw[YX] at h1 h2;obtain⟨d,ed⟩:∃d,l[j]?=some d:=⟨l[j]'⋯,by simp⟩
  obtain⟨v1,f1,q1⟩:=rl.at ed;obtain⟨v2,f2,q2⟩:=Cm.at ed;obtain⟨u1,g1,w1⟩:=rv.get f1;obtain⟨u2,g2,w2⟩:=Cn.get f2;have a1:aW.toArray[j]=u1:=by simpa [YM h1] using g1
  have a2:its'.toArray[j]=u2:=by simpa [YM h2] using g2
  rw[a1,a2];have:=gI (YQ ed);exact Ck I 40 d ⋯ v1 v2 u1 u2 X.A.in1 q1 q2 w1 w2 (by show X.A.units+1+40<cLine;lia)
 | lst l=>
  right
  rw[Rep] at h h';obtain⟨_,vs,e,hp,rl⟩:=h;cases e;obtain⟨_,Hc,e,kH,Cm⟩:=h';cases e;rw[depth] at hd;obtain⟨aW,rv,pl,hz⟩:=I.list (aS.of hp);obtain⟨its',Cn,Jc,Pp⟩:=I.list (aS.of kH);have e1:=rl.length;have e2:=Cm.length;have l1:=rv.length;have l2:=Cn.length;refine⟨aW,its',pl.isList,Jc.isList,⋯,λj h1 h2=>?_⟩;rw[YX] at h1 h2;obtain⟨d,ed⟩:∃d,l[j]?=some d:=⟨l[j]'⋯,by simp⟩
  obtain⟨v1,f1,q1⟩:=rl.at ed;obtain⟨v2,f2,q2⟩:=Cm.at ed;obtain⟨u1,g1,w1⟩:=rv.get f1;obtain⟨u2,g2,w2⟩:=Cn.get f2;have a1:aW.toArray[j]=u1:=by simpa [YM h1] using g1
  have a2:its'.toArray[j]=u2:=by simpa [YM h2] using g2
  rw[a1,a2];have:=gI (YQ ed);exact Ck I 40 d ⋯ v1 v2 u1 u2 X.A.in1 q1 q2 w1 w2 (by show X.A.units+1+40<cLine;lia)
theorem Jd (hu:X.A.units+64<cLine):l9 X (compareOp .Eq) (Co true):=by
 intro pins s σ H x y v u Q I rx ry h;obtain⟨d,h1,h2,⟨p,rfl⟩,hd,q⟩:=h;obtain⟨p',rfl⟩:∃p',y=.ref p':=by
  cases d with
  | cJ=>rw[Rep] at h1;cases h1
  | bl b=>rw[Rep] at h1;cases h1
  | int i=>rw[Rep] at h1;cases h1
  | str x=>rw[Rep] at h1;cases h1
  | tup l=>rw[Rep] at h2;obtain⟨p',_,e,_⟩:=h2;exact⟨p',e⟩
  | lst l=>rw[Rep] at h2;obtain⟨p',_,e,_⟩:=h2;exact⟨p',e⟩
 cases rx;cases ry;rcases Cp I hu h1 h2 hd with ⟨aW,its',a,b,e,k⟩ | ⟨aW,its',a,b,e,k⟩
 ·refine SeqAt.eq_tupleAt (e:=λ_=>true) a b ⋯ k ⟨.bl true,H,I,?_,q⟩;show Value.bool _=Value.bool true;rw[all_true,YX,YX,e];simp
 ·refine SeqAt.eq_listAt (e:=λ_=>true) a b (by simp only[YX];exact e) ⋯ k ⟨.bl true,H,I,?_,q⟩;show Value.bool _=Value.bool true;rw[all_true]
theorem xZ (hu:X.A.units+64<cLine):l9 X (compareOp .NotEq) (Co false):=by
 intro pins s σ H x y v u Q I rx ry h;obtain⟨d,h1,h2,⟨p,rfl⟩,hd,q⟩:=h;obtain⟨p',rfl⟩:∃p',y=.ref p':=by
  cases d with
  | cJ=>rw[Rep] at h1;cases h1
  | bl b=>rw[Rep] at h1;cases h1
  | int i=>rw[Rep] at h1;cases h1
  | str x=>rw[Rep] at h1;cases h1
  | tup l=>rw[Rep] at h2;obtain⟨p',_,e,_⟩:=h2;exact⟨p',e⟩
  | lst l=>rw[Rep] at h2;obtain⟨p',_,e,_⟩:=h2;exact⟨p',e⟩
 cases rx;cases ry;rcases Cp I hu h1 h2 hd with ⟨aW,its',a,b,e,k⟩ | ⟨aW,its',a,b,e,k⟩
 ·refine SeqAt.RcNeAt.tuples (A:=X.A) (e:=λ_=>true) a b ⋯ k X.prog X.w X.xe _ ⟨.bl false,H,I,?_,q⟩;show Value.bool _=Value.bool false;rw[all_true,YX,YX,e];simp
 ·refine SeqAt.RcNeAt.lists (A:=X.A) (e:=λ_=>true) a b (by simp only[YX];exact e) ⋯ k X.prog X.w X.xe _ ⟨.bl false,H,I,?_,q⟩;show Value.bool _=Value.bool false;rw[all_true];rfl
abbrev rNeT:R2:=λx y H Q=>∃p q xs ys,x=.ref p/\y=.ref q/\H p=some (.tup xs)/\H q=some (.tup ys)/\xs.all fK=true/\ys.all fK=true/\Q (.bl (!Ru xs ys)) H
end
end L2
namespace Nm
abbrev ins (x:Int):List Int->List Int
 | []=>[x]
 | y::r=>if x<=y then x::y::r else y::ins x r
abbrev oE:List Int->List Int
 | []=>[]
 | x::r=>ins x (oE r)
theorem pG (x:Int):∀l,(ins x l).Perm (x::l)
 | []=>.refl _
 | y::r=>by
  unfold ins
  split
  ·exact .refl _
  ·exact((pG x r).cons y).trans (.swap ..)
theorem gJ:∀l,(oE l).Perm l
 | []=>.refl _
 | x::r=>(pG x _).trans ((gJ r).cons x)
set_option tactic.hygienic true in
theorem zh (x:Int):∀l:List Int,l.Pairwise (·<=·)->(ins x l).Pairwise (·<=·)
 | [],_=>by unfold ins;simp
 | y::r,h=>by
  unfold ins;rw[List.pairwise_cons] at h
  split
  ·rename_i c
   rw[List.pairwise_cons,List.pairwise_cons];refine⟨λz hz=>?_,h.1,h.2⟩;rcases ZT.mp hz with rfl | hz
   ·exact c
   ·have:=h.1 z hz;lia
  ·rename_i c
   rw[List.pairwise_cons];refine⟨λz hz=>?_,zh x r h.2⟩;rcases ZT.mp ((pG x r).mem_iff.mp hz) with rfl | hz
   ·lia
   ·exact h.1 z hz
theorem tK:∀l:List Int,(oE l).Pairwise (·<=·)
 | []=>by unfold oE;simp
 | x::r=>zh x _ (tK r)
theorem pH (l:List Int):(oE l).length=l.length:=(gJ l).length_eq
theorem zi:∀{a b:List Int},a.Perm b->a.Pairwise (·<=·)->b.Pairwise (·<=·)->a=b
 | [],b,p,_,_=>by simpa using p.symm.eq_nil
 | x::a,[],p,_,_=>by simpa using p.eq_nil
 | x::a,y::b,p,ha,hb=>by
  rw[List.pairwise_cons] at ha hb;have e:x=y:=by
   have h1:y∈x::a:=p.mem_iff.mpr YT;have h2:x∈y::b:=p.mem_iff.mp YT;rcases ZT.mp h1 with h1 | h1
   ·exact h1.symm
   ·rcases ZT.mp h2 with h2 | h2
    ·exact h2
    ·have:=ha.1 y h1;have:=hb.1 x h2;lia
  subst e;rw[zi ((List.perm_cons x).mp p) ha.2 hb.2]
theorem oF {a b:List Int} (p:a.Perm b) (o:a.Pairwise (·<=·)):a=oE b:=zi (p.trans (gJ b).symm) o (tK b)
theorem x6 {a:List Int} (o:a.Pairwise (·<=·)):oE a=a:=(oF (.refl _) o).symm
theorem zj {a:Int} {l:List Int}:a∈oE l↔a∈l:=(gJ l).mem_iff
theorem Je {l:List Int} (h:l.Nodup):(oE l).Pairwise (·<·):=by
 have n:(oE l).Nodup:=(gJ l).nodup_iff.mpr h;have o:=tK l;exact(List.pairwise_and_iff.mpr ⟨o,n⟩).imp λ{a b} ⟨x,y⟩=>⋯
end Nm
namespace L2
open PySem PySem.Spec PyProof.Rows PySem.W
section
variable {X : Cx}
theorem x8 {us:List Value} {ns:List Int} (h:IntsAre us ns):∃xs,us.toArray=intItems xs/\preSum (numAt xs) xs.size=ns.sum:=by
 obtain⟨xs,hx⟩:=h.allInts.items;refine⟨xs,hx,?_⟩;have e1:ns=xs.toList.map (·.1):=by
  rw[<-nums_intItems,<-hx];exact h.numsOf.symm
 rw[preSum_eq,Zg (by simp),e1]
theorem x9 (hc:X.calm=true):c7 X (.builtin "sum") (λxs H Q=>∃p ns,xs=[.ref p]/\aS X.K H p (List.map V.int ns)/\Q (.int ns.sum) H):=by
 intro pins s σ H xs us Q I r h;obtain⟨p,ns,rfl,hq,q⟩:=h;obtain⟨u,rfl,rx⟩:=vals1 r;cases rx;obtain⟨aW,rv,pl,hz⟩:=I.list hq;obtain⟨ys,e1,e2⟩:=x8 (intsAre_of rv);have hl:=pl.isList;rw[e1] at hl;refine sum_intListG (I.ok.hd hc) hl λh' tk t' hk=>⟨.int ns.sum,H,I.kept (t':=tk) hk,⟨t',?_⟩,q⟩
 rw[e2]
theorem tL {us:List Value} {ns:List Int} (h:IntsAre us ns):br (ns.map V.int) us:=by
 induction h with
 | nil=>exact .nil
 | cons n t _ ih=>exact .cons ⟨t,rfl⟩ ih
abbrev iV (kvs:List (Key×V)):List Int:=kvs.map λp=>match p.1 with | .inl i=>i | .inr _=>0
abbrev allI (kvs:List (Key×V)):Prop:=∀p∈kvs,∃i,p.1=Sum.inl i
theorem qN (hc:X.calm=true):c7 X (.builtin "sorted") (λxs H Q=>∃d kvs,xs=[.ref d]/\Rd H d (.dK kvs)/\allI kvs/\kvs.length<64/\∀l,H l=none->Q (.ref l) (upd H l (.lst (List.map V.int (Nm.oE (iV kvs)))))):=by
 intro pins s σ H xs us Q I r h;obtain⟨d,kvs,rfl,hd,AO,hn,q⟩:=h;obtain⟨u,rfl,rx⟩:=vals1 r;cases rx;obtain⟨hz,lo,vs,kv,dd⟩:=rM I.cw hd;have hlen:kvs.length=vs.length:=Paired.length kv;obtain⟨ep,KL⟩:=dd.dictAt;refine Calls.call_function_entry kind_sorted plain_sorted entry_sorted (args_sorted1 _) ?_;unfold Builtin.«sorted»;refine wpAny_bind (m:=checkCount "sorted" 1 1 _) (wpAny_pure ?_);refine wpAny_bind (kdu_collect (A:=X.A.in1) (kdl_dict (kvs:=vs) (ep:=ep) lo) (I.ok.hd hc) KL (by rw[<-hlen,sizeLine_eq];lia) λh' tk acc hk FK=>?_);have hl:acc.toList.length=vs.length:=by rw[ZV];exact FK.1
 have hI:IntsAre acc.toList (iV kvs):=by
  have all:∀(j:Nat) v,acc.toList[j]?=some v->∃i t,v=Value.int i t/\(iV kvs)[j]?=some i:=λj v e=>by
   obtain⟨k,x,hx,hk⟩:=FK.2 j v (by rw[<-Array.getElem?_toList];exact e);obtain⟨p,e1,e2⟩:∃p,kvs[j]?=some p/\p.1=k:=by
    have:∀{as:List (Key×V)} {bs:List (Key×Value)} (j:Nat) {b},KV as bs->bs[j]?=some b->∃a,as[j]?=some a/\a.1=b.1:=by
     intro as bs j b r
     induction r generalizing j with
     | nil=>intro e;simp at e
     | cons r1 r2 ih=>
      intro e;cases j with
      | zero=>simp at e;subst e;exact⟨_,rfl,r1.1⟩
      | succ j=>simp at e;obtain⟨a,e1,e2⟩:=ih j e;exact⟨a,by simpa using e1,e2⟩
    obtain⟨a,e1,e2⟩:=this j kv hx;exact⟨a,e1,e2⟩
   obtain⟨i,hi⟩:=AO p (YQ e1);rw[<-e2,hi] at hk;have hk:oU (.inl i) v=true:=hk;rcases cE hk with ⟨i',t,e3,e4⟩ | ⟨x',t,e3,_⟩
   ·cases e3;refine⟨i,t,e4,?_⟩;unfold iV;rw[YO,e1];simp [hi]
   ·cases e3
  have go:∀(us:List Value) (ns:List Int),us.length=ns.length->(∀(j:Nat) v,us[j]?=some v->∃i t,v=Value.int i t/\ns[j]?=some i)->IntsAre us ns:=by
   intro us
   induction us with
   | nil=>intro ns hl _;cases ns with | nil=>exact .nil | cons _ _=>simp at hl
   | cons u us ih=>
    intro ns hl k;cases ns with
    | nil=>simp at hl
    | cons n ns=>
     obtain⟨i,t,rfl,e⟩:=k 0 u rfl;simp at e;subst e;exact .cons n t (ih ns (by simpa using hl) λj v e=>by
      obtain⟨i,t,e1,e2⟩:=k (j+1) v (by simpa using e);exact⟨i,t,e1,by simpa using e2⟩)
  refine go _ _ ?_ all;unfold iV;rw[YL,hl,hlen]
 refine wpAny_bind (wpAny_newList ?_ (by rw[hl,<-hlen,sizeLine_eq];lia));have G3:(h'.push (seqObj "list" acc.toList.toArray 0)).get? h'.objs.size=some (seqObj "list" acc.toList.toArray 0):=aax _ rfl;have I1:Inv X pins σ H {s with heap:=h',toks:=tk}:=I.kept (t':=tk) hk;refine wpAny_bind (wpAny_holding (wpAny_call_entry slot_list_sort ⟨_,G3,rfl⟩ entry_list_sort (list_sort_tree G3 hI ⋯ λout XY a1 a2 a3=>⟨_,rfl,?_⟩) (args_list_sort _)));obtain rfl:=Nm.oF a2 a3;obtain⟨e,he⟩:=sortedHeap_at (out:=out) G3;have fr:=I1.cw.fresh (a:=h'.objs.size) (YR _);refine wpAny_pure ⟨_,rfl,.ref h'.objs.size,_,I1.laid (t':=tk) (λb o eb=>?_) (YR _) (o:=.lst (List.map V.int (Nm.oE (iV kvs)))) ⟨?_,out.toList,e,tL a1,?_⟩,rfl,q _ fr⟩
 ·rw[sortedHeap_old (YW (aay eb)) (by rw[Heap.size_push];exact Z8 (aay eb))];exact aaw _ eb
 ·rw[YL,Nm.pH,sizeLine_eq];unfold iV;rw[YL];lia
 ·exact he
end
section
variable {X : Cx} {pins : List (Addr × Obj)} {σ : St} {H : Hp} {s : Shared}
end
abbrev Ue (d:Addr) (o:Obj) (kvs:List (Key×V)):It:=
 ⟨λi H=>H d=some (.xn o (.dK kvs))/\i<kvs.length,λi H x H'=>H'=H/\∃p,kvs[i]?=some p/\x=kV p.1,λi H=>H d=some (.xn o (.dK kvs))/\i=kvs.length⟩
section
variable {X : Cx} {x : Str} {Ug : Pos}
abbrev iDict (tl:TE):TI:=λσ H R=>tl σ H λv H1=>∃d kvs,v=.ref d/\H1 d=some (.dK kvs)/\∀o,R (Ue d o kvs) (upd H1 d (.xn o (.dK kvs)))
end
end L2
namespace L2
open PySem PySem.Spec PyProof.Rows PySem.W
section
variable {X : Cx} {K : aam}
theorem aZ {tg l:Expr} {tl:TE} (hl:PE X l tl) (hK:X.K=K:=by rfl):PI X tg l (iList K tl):=by subst hK;exact Fj hl
theorem js {elts:List Expr} {kk:Nat} {jV:Pos} {a b:Expr} {ta:TA} {p pos:Pos} (hg:Gl X "zip") (hm:X.mg "zip"=none) (ha:PA X [a,b] ta) (n1:noStar a=true:=by rfl) (n2:noStar b=true:=by rfl) (hK:X.K=K:=by rfl):
  PI X (.Tuple elts kk jV) (.Call (.Name "zip" p) [a,b] [] pos) (iZip K ta):=by subst hK;exact Jb hg hm ha (by rw[se n1,se n2];rfl) (by rw[se n2];rfl)
theorem cV {elts:List Expr} {kk:Nat} {jV:Pos} {a:Expr} {ta:TA} {p pos:Pos} (hg:Gl X "enumerate") (hm:X.mg "enumerate"=none) (ha:PA X [a] ta) (n1:noStar a=true:=by rfl) (hK:X.K=K:=by rfl):
  PI X (.Tuple elts kk jV) (.Call (.Name "enumerate" p) [a] [] pos) (iEnum K ta):=by subst hK;exact tJ hg hm ha (by rw[se n1];rfl)
theorem bV {es:List Expr} {k:Nat} {t:G4} {n:Nat} {pos:Pos} (hc:X.calm=true) (h:KI X es t) (hn:(assignEach es X.env).length=n:=by rfl) (hst:(assignEach es X.env).findIdx? (·.1)=none:=by rfl) (hK:X.K=K:=by rfl):PG X (.Tuple es k pos) (BN K n t):=by
 subst hK;exact Ir hc h hn hst
theorem rQ (hK:X.K=K:=by rfl):G7 X (IP K):=by subst hK;exact Ca
theorem jZ (hK:X.K=K:=by rfl):c7 X (.builtin "len") (λxs H Q=>∃p ns,xs=[.ref p]/\aS K H p (List.map V.int ns)/\Q (.int (List.length ns:Nat)) H):=by subst hK;exact AR
theorem qO (hK:X.K=K:=by rfl):l9 X (compareOp .NotIn) (OW K true):=by subst hK;exact tw
theorem bD (hK:X.K=K:=by rfl):c7 X (.type "list") (λxs H Q=>∃p ys,xs=[.ref p]/\(aS K H p ys\/fV K H p ys)/\∀l,H l=none->Q (.ref l) (upd H l (.lst ys))):=by subst hK;exact tD
theorem iW (hc:X.calm=true:=by rfl) (hK:X.K=K:=by rfl):c7 X (.builtin "sum") (λxs H Q=>∃p ns,xs=[.ref p]/\aS K H p (List.map V.int ns)/\Q (.int ns.sum) H):=by subst hK;exact x9 hc
theorem pI (hc:X.calm=true:=by rfl):c7 X (.builtin "sorted") (λxs H Q=>∃d kvs,xs=[.ref d]/\Rd H d (.dK kvs)/\allI kvs/\kvs.length<64/\∀l,H l=none->Q (.ref l) (upd H l (.lst (List.map V.int (Nm.oE (iV kvs)))))):=qN hc
theorem gK (hK:X.K=K:=by rfl):NJ X (rSlL K):=by subst hK;exact Fu
theorem LF.r {id:String} {r:V->List V->Hp->VK->Prop} (h:LF X id r):KJ X id r:=h
end
end L2
namespace Nm
@[inline]abbrev Ws:=List (Int×Int)
abbrev keys (ws:Ws):List Int:=ws.map (·.1)
abbrev look:Ws->Int->Int
 | [],_=>0
 | p::r,k=>if p.1=k then p.2 else look r k
abbrev put:Ws->Int->Int->Ws
 | [],k,v=>[(k,v)]
 | p::r,k,v=>if p.1=k then (k,v)::r else p::put r k v
abbrev NO (ws:Ws):Int:=(ws.map (·.2)).sum
structure Over (as ws:Ws) (B T:Int):Prop where
 nd:(keys ws).Nodup
 perm:(keys as).Perm (keys ws)
 val:∀k∈keys ws,look as k*T=look ws k*B
end Nm
namespace L2
open PySem PySem.Spec PyProof.Rows
abbrev a9 (p:Int×Int):Dat:=.tup [.int p.1,.int p.2]
abbrev Cq (ws:Nm.Ws):Dat:=.lst (ws.map a9)
theorem bQ {H:Hp} {r:Int×Int} {v:V}:Rep H (a9 r) v↔∃p,v=.ref p/\H p=some (.tup [.int r.1,.int r.2]):=by
 unfold a9;simp only[Rep,a8];constructor
 ·rintro⟨p,vs,rfl,hp,a,b,rfl,rfl,c,d,rfl,rfl,rfl⟩;exact⟨p,rfl,hp⟩
 ·rintro⟨p,rfl,hp⟩;exact⟨p,_,rfl,hp,_,_,rfl,rfl,_,_,rfl,rfl,rfl⟩
theorem aM {H:Hp} {ds:List Dat} {v:V}:Rep H (.lst ds) v↔∃p vs,v=.ref p/\H p=some (.lst vs)/\a8 H ds vs:=by rw[Rep]
abbrev RI (H H':Hp):Prop:=∀p xs,(H p=some (.tup xs)->H' p=some (.tup xs))/\(H p=some (.lst xs)->H' p=some (.lst xs))
mutual
theorem Rep.LZ {H H':Hp} (s:RI H H'):∀{d:Dat} {v:V},Rep H d v->Rep H' d v
 | .cJ,_,h=>by rw[Rep] at *;exact h
 | .bl _,_,h=>by rw[Rep] at *;exact h
 | .int _,_,h=>by rw[Rep] at *;exact h
 | .str _,_,h=>by rw[Rep] at *;exact h
 | .tup _,_,h=>by
  rw[Rep] at *;obtain⟨p,vs,e,hp,r⟩:=h;exact⟨p,vs,e,(s _ _).1 hp,a8.LZ s r⟩
 | .lst _,_,h=>by
  rw[Rep] at *;obtain⟨p,vs,e,hp,r⟩:=h;exact⟨p,vs,e,(s _ _).2 hp,a8.LZ s r⟩
theorem a8.LZ {H H':Hp} (s:RI H H'):∀{ds:List Dat} {vs:List V},a8 H ds vs->a8 H' ds vs
 | [],_,h=>by rw[a8] at *;exact h
 | _::_,_,h=>by
  rw[a8] at *;obtain⟨v,r,e,h1,h2⟩:=h;exact⟨v,r,e,Rep.LZ s h1,a8.LZ s h2⟩
end
theorem none_of {H H':Hp} (s:aA H H') {p:Addr} (h:H' p=none):H p=none:=by
 cases e:H p with
 | none=>rfl
 | some o=>rw[s p o e] at h;cases h
end L2
namespace Nm
end Nm
namespace L2
open PySem PySem.Spec PyProof.Rows
theorem dz {α:Type} {J:It} {tc:TT} {te:TE} {tl:St} {H1:Hp} {fin:List V->Hp->Prop} {Item:Nat->V->Hp->Hp->Prop} (as:List α) (f:α->Option Int) (S:Src J (aA H1) as.length Item) (sub:∀i x H H3,Item i x H H3->H3=H) (hz:as.length<=sizeLine)
  (hs:∀i a x,as[i]?=some a->Item i x H1 H1->∀(Y:VK) (N:Hp->Prop),(∀z,f a=some z->Y (.int z) H1)->(f a=none->N H1)->tc (some x::tl) H1 λb H5=>if b=true then te (some x::tl) H5 Y else N H5)
  (mz:fin (List.map V.int (as.filterMap f)) H1):gu J (gName 0) tc te (none::tl) H1 fin:=by
 refine jo S (λσ=>∃w0,σ=w0::tl) ⟨_,rfl⟩ (λi ys H=>H=H1/\ys=List.map V.int ((as.take i).filterMap f)) ⟨rfl,by simp⟩ hz ?_ ?_
 ·rintro i x σ H ys H3 Q N hi sm ⟨rfl,rfl⟩ hl ⟨w0,rfl⟩ it kq kn;obtain rfl:=sub _ _ _ _ it;have ea:as[i]?=some as[i]:=YM hi;refine hs i _ x ea it _ _ (λz e=>kq _ _ _ ⟨_,rfl⟩ sm ⟨rfl,?_⟩) (λe=>kn _ _ ⟨_,rfl⟩ sm ⟨rfl,?_⟩)
  ·rw[Zc,ea,Z9,Y5];simp [e]
  ·rw[Zc,ea,Z9,Y5];simp [e]
 ·rintro ys H sm ⟨rfl,rfl⟩ hl;rw[Zg (YR _)];exact mz
theorem ij {K:aam} {α:Type} {J:It} {tc:TT} {te:TE} {tl:St} {H1:Hp} {fin:List V->Hp->Prop} {Item:Nat->V->Hp->Hp->Prop} (as:List α) (f:α->Option Int) (S:Src J (aA H1) as.length Item) (sub:∀i x H H3,Item i x H H3->H3=H) (hz:as.length<=sizeLine)
  (hs:∀i a x,as[i]?=some a->Item i x H1 H1->∃p u v,x=.ref p/\fV K H1 p [u,v]/\∀(Y:VK) (N:Hp->Prop),(∀z,f a=some z->Y (.int z) H1)->(f a=none->N H1)->tc (some u::some v::tl) H1 λb H5=>if b=true then te (some u::some v::tl) H5 Y else N H5)
  (mz:fin (List.map V.int (as.filterMap f)) H1):gu J (BN K 2 (gCons (gName 0) (gCons (gName 1) gNil))) tc te (none::none::tl) H1 fin:=by
 refine jo S (λσ=>∃w0 w1,σ=w0::w1::tl) ⟨_,_,rfl⟩ (λi ys H=>H=H1/\ys=List.map V.int ((as.take i).filterMap f)) ⟨rfl,by simp⟩ hz ?_ ?_
 ·rintro i x σ H ys H3 Q N hi sm ⟨rfl,rfl⟩ hl ⟨w0,w1,rfl⟩ it kq kn;obtain rfl:=sub _ _ _ _ it;have ea:as[i]?=some as[i]:=YM hi;obtain⟨p,u,v,rfl,sq,k⟩:=hs i _ x ea it;refine⟨p,_,rfl,sq,rfl,_,_,rfl,_,_,rfl,rfl,?_⟩;refine k _ _ (λz e=>kq _ _ _ ⟨_,_,rfl⟩ sm ⟨rfl,?_⟩) (λe=>kn _ _ ⟨_,_,rfl⟩ sm ⟨rfl,?_⟩)
  ·rw[Zc,ea,Z9,Y5];simp [e]
  ·rw[Zc,ea,Z9,Y5];simp [e]
 ·rintro ys H sm ⟨rfl,rfl⟩ hl;rw[Zg (YR _)];exact mz
theorem dX {α β:Type} (f:α->β) (l:List α):l.filterMap (λa=>some (f a))=l.map f:=by
 rw[<-List.filterMap_eq_map];rfl
end L2
namespace L2
open PySem PySem.Spec PyProof.Rows PySem.W
section
variable {X : Cx} {K : aam}
theorem pJ:∀{us:List Value} {bs:List Bool},br (bs.map V.bl) us->LSm.BoolsAre us bs
 | _,[],.nil=>.nil
 | _,b::bs,.cons r t=>by
  have e:_=Value.bool b:=r;subst e;exact .cons b (pJ t)
theorem ya (hc:X.calm=true):c7 X (.builtin "all") (λxs H Q=>∃p bs,xs=[.ref p]/\aS X.K H p (List.map V.bl bs)/\Q (.bl (bs.all id)) H):=by
 intro pins s σ H xs us Q I r h;obtain⟨p,bs,rfl,hq,q⟩:=h;obtain⟨u,rfl,rx⟩:=vals1 r;cases rx;obtain⟨aW,rv,pl,hz⟩:=I.list hq;have hb:=pJ rv;have hl:=pl.isList;have gG:p<s.heap.objs.size:=by obtain⟨_,e,_⟩:=hl;exact aay e
 refine call_all_walk (wpAny_pyIter_list hl ?_);refine⟨s.heap.objs.size,[s.heap.objs.size,p],[s.heap.objs.size],aW.toArray.size,_,_,λi=>(bs[i]?).getD true,rfl,Walks.list (A:=X.A.in1) (I.ok.hd hc) _ p (YW gG) aW.toArray,
  ⟨⟨_,aax _ rfl,rfl,rfl⟩,hl.push _⟩,λi v s' Q' E' hP hQ=>?_,λh' tk hk=>?_⟩
 ·obtain⟨b,e,rfl⟩:=hb.get i v (by simpa using hP);simp only[e,aaa] at hQ;exact wpAny_truthy_bool hQ
 ·have e:((List.range aW.toArray.size).all λi=>(bs[i]?).getD true)=bs.all id:=by
   rw[YX,hb.length];exact LSm.range_all bs
  rw[e];exact⟨.bl _,H,I.kept (t':=tk) (LSm.kept_iter hk),rfl,q⟩
theorem yb (hc:X.calm=true):c7 X (.builtin "any") (λxs H Q=>∃p bs,xs=[.ref p]/\aS X.K H p (List.map V.bl bs)/\Q (.bl (bs.any id)) H):=by
 intro pins s σ H xs us Q I r h;obtain⟨p,bs,rfl,hq,q⟩:=h;obtain⟨u,rfl,rx⟩:=vals1 r;cases rx;obtain⟨aW,rv,pl,hz⟩:=I.list hq;have hb:=pJ rv;have hl:=pl.isList;have gG:p<s.heap.objs.size:=by obtain⟨_,e,_⟩:=hl;exact aay e
 refine call_any_walk (wpAny_pyIter_list hl ?_);refine⟨s.heap.objs.size,[s.heap.objs.size,p],[s.heap.objs.size],aW.toArray.size,_,_,λi=>(bs[i]?).getD false,rfl,Walks.list (A:=X.A.in1) (I.ok.hd hc) _ p (YW gG) aW.toArray,
  ⟨⟨_,aax _ rfl,rfl,rfl⟩,hl.push _⟩,λi v s' Q' E' hP hQ=>?_,λh' tk hk=>?_⟩
 ·obtain⟨b,e,rfl⟩:=hb.get i v (by simpa using hP);simp only[e,aaa] at hQ;exact wpAny_truthy_bool hQ
 ·have e:((List.range aW.toArray.size).any λi=>(bs[i]?).getD false)=bs.any id:=by
   rw[YX,hb.length];exact LSm.range_any bs
  rw[e];exact⟨.bl _,H,I.kept (t':=tk) (LSm.kept_iter hk),rfl,q⟩
theorem vo (hc:X.calm=true:=by rfl) (hK:X.K=K:=by rfl):c7 X (.builtin "all") (λxs H Q=>∃p bs,xs=[.ref p]/\aS K H p (List.map V.bl bs)/\Q (.bl (bs.all id)) H):=by subst hK;exact ya hc
theorem vq (hc:X.calm=true:=by rfl) (hK:X.K=K:=by rfl):c7 X (.builtin "any") (λxs H Q=>∃p bs,xs=[.ref p]/\aS K H p (List.map V.bl bs)/\Q (.bl (bs.any id)) H):=by subst hK;exact yb hc
abbrev tSumV (to:TE):TE:=λσ H Q=>to σ H λv H1=>∃d kvs ns,v=.ref d/\H1 d=some (.dK kvs)/\kvs.map (·.2)=List.map V.int ns/\Q (.int ns.sum) H1
theorem rR {α:Type} {J:It} {tc:TT} {te:TE} {tl:St} {H1:Hp} {fin:List V->Hp->Prop} {Item:Nat->V->Hp->Hp->Prop} (as:List α) (f:α->Option V) (S:Src J (aA H1) as.length Item) (sub:∀i x H H3,Item i x H H3->H3=H) (hz:as.length<=sizeLine)
  (hs:∀i a x,as[i]?=some a->Item i x H1 H1->∀(Y:VK) (N:Hp->Prop),(∀z,f a=some z->Y z H1)->(f a=none->N H1)->tc (some x::tl) H1 λb H5=>if b=true then te (some x::tl) H5 Y else N H5)
  (mz:fin (as.filterMap f) H1):gu J (gName 0) tc te (none::tl) H1 fin:=by
 refine jo S (λσ=>∃w0,σ=w0::tl) ⟨_,rfl⟩ (λi ys H=>H=H1/\ys=(as.take i).filterMap f) ⟨rfl,by simp⟩ hz ?_ ?_
 ·rintro i x σ H ys H3 Q N hi sm ⟨rfl,rfl⟩ hl ⟨w0,rfl⟩ it kq kn;obtain rfl:=sub _ _ _ _ it;have ea:as[i]?=some as[i]:=YM hi;refine hs i _ x ea it _ _ (λz e=>kq _ _ _ ⟨_,rfl⟩ sm ⟨rfl,?_⟩) (λe=>kn _ _ ⟨_,rfl⟩ sm ⟨rfl,?_⟩)
  ·rw[Zc,ea,Z9];simp [e]
  ·rw[Zc,ea,Z9];simp [e]
 ·rintro ys H sm ⟨rfl,rfl⟩ hl;rw[Zg (YR _)];exact mz
theorem mY (rows:Nm.Ws):depth (Cq rows)<=40:=by
 have h:∀rows:Nm.Ws,depth.dL (rows.map a9)<=1:=by
  intro rows
  induction rows with
  | nil=>simp [depth.dL]
  | cons r rs ih=>
   rw[Y8,depth.dL];have:depth (a9 r)=1:=by simp [a9,depth,depth.dL]
   lia
 have:=h rows;unfold Cq;rw[depth];lia
theorem jt {a b:TS} {D:Ends} {σ:St} {H:Hp} (C:St->Hp->Prop) (hb:∀σ' H',C σ' H'->b D σ' H') (ha:∀N:St->Hp->Prop,(∀σ' H',C σ' H'->N σ' H')->a {D with nx:=N} σ H):tSeq a b D σ H:=ha _ hb
theorem Cr {tc:TT} {a b:TS} {D:Ends} {σ:St} {H:Hp} (C1 C2:Hp->Prop) (h1:∀H',C1 H'->a D σ H') (h2:∀H',C2 H'->b D σ H')
  (ht:∀Y N:Hp->Prop,(∀H',C1 H'->Y H')->(∀H',C2 H'->N H')->tc σ H λv H'=>if v=true then Y H' else N H'):tIfS tc a b D σ H:=ht _ _ h1 h2
end
end L2
namespace Nm
abbrev pos (ps:Ws):Ws:=ps.filter λp=>decide (0<p.2)
end Nm
namespace L2
open PySem PySem.Spec PyProof.Rows PySem.W
inductive Pl where
 | fin (w:Int×Int) | d6 (w:Int×Int) (ws:List (Int×Int)) | cA (bB:Int) (to:List Int)
abbrev mZ:Pl->Dat
 | .fin w=>.tup [.str "end",a9 w]
 | .d6 w ws=>.tup [.str "throw",a9 w,.lst (ws.map a9)]
 | .cA bB to=>.tup [.str "pick",.int bB,.lst (to.map .int)]
abbrev pK (b:List Pl):Dat:=.lst (b.map mZ)
theorem ju {H:Hp}:∀{ns:List Int} {vs:List V},a8 H (ns.map Dat.int) vs↔vs=ns.map V.int
 | [],vs=>by simp only[ZE,a8]
 | n::ns,vs=>by
  simp only[Y8,a8,Rep];constructor
  ·rintro⟨v,r,rfl,rfl,h⟩;rw[ju.mp h]
  ·rintro rfl;exact⟨_,_,rfl,rfl,ju.mpr rfl⟩
theorem dM {H:Hp} {w:Int×Int} {v:V}:Rep H (mZ (.fin w)) v↔∃p q,v=.ref p/\H p=some (.tup [.str "end",.ref q])/\H q=some (.tup [.int w.1,.int w.2]):=by
 show Rep H (.tup [.str "end",a9 w]) v↔_;rw[Rep];simp only[a8,bQ];constructor
 ·rintro⟨p,vs,rfl,hp,_,_,rfl,e,_,_,rfl,⟨q,rfl,hq⟩,rfl⟩;rw[Rep] at e;subst e;exact⟨p,q,rfl,hp,hq⟩
 ·rintro⟨p,q,rfl,hp,hq⟩;exact⟨p,_,rfl,hp,_,_,rfl,by rw[Rep],_,_,rfl,⟨q,rfl,hq⟩,rfl⟩
theorem dE {H:Hp} {w:Int×Int} {ws:List (Int×Int)} {v:V}:Rep H (mZ (.d6 w ws)) v↔∃p q l xs,v=.ref p/\H p=some (.tup [.str "throw",.ref q,.ref l])/\H q=some (.tup [.int w.1,.int w.2])/\H l=some (.lst xs)/\a8 H (ws.map a9) xs:=by
 show Rep H (.tup [.str "throw",a9 w,.lst (ws.map a9)]) v↔_;rw[Rep];simp only[a8,bQ];constructor
 ·rintro⟨p,vs,rfl,hp,_,_,rfl,e,_,_,rfl,⟨q,rfl,hq⟩,_,_,rfl,k,rfl⟩;rw[Rep] at e;subst e;obtain⟨l,xs,rfl,hl,r⟩:=aM.mp k;exact⟨p,q,l,xs,rfl,hp,hq,hl,r⟩
 ·rintro⟨p,q,l,xs,rfl,hp,hq,hl,r⟩;exact⟨p,_,rfl,hp,_,_,rfl,by rw[Rep],_,_,rfl,⟨q,rfl,hq⟩,_,_,rfl,aM.mpr ⟨l,xs,rfl,hl,r⟩,rfl⟩
theorem cM {H:Hp} {bB:Int} {to:List Int} {v:V}:Rep H (mZ (.cA bB to)) v↔∃p l,v=.ref p/\H p=some (.tup [.str "pick",.int bB,.ref l])/\H l=some (.lst (to.map V.int)):=by
 show Rep H (.tup [.str "pick",.int bB,.lst (to.map .int)]) v↔_;rw[Rep];simp only[a8];constructor
 ·rintro⟨p,vs,rfl,hp,_,_,rfl,e,_,_,rfl,e2,_,_,rfl,k,rfl⟩;rw[Rep] at e;rw[Rep] at e2;subst e e2;obtain⟨l,xs,rfl,hl,r⟩:=aM.mp k;rw[ju] at r;subst r;exact⟨p,l,rfl,hp,hl⟩
 ·rintro⟨p,l,rfl,hp,hl⟩;exact⟨p,_,rfl,hp,_,_,rfl,by rw[Rep],_,_,rfl,by rw[Rep],_,_,rfl,aM.mpr ⟨l,_,rfl,hl,ju.mpr rfl⟩,rfl⟩
theorem Jf {H:Hp} {q:Pl} {v:V} (h:Rep H (mZ q) v):∃p k r,v=.ref p/\H p=some (.tup (.str k::r)):=by
 cases q with
 | fin w=>obtain⟨p,q,rfl,hp,_⟩:=dM.mp h;exact⟨p,_,_,rfl,hp⟩
 | d6 w ws=>obtain⟨p,q,l,xs,rfl,hp,_⟩:=dE.mp h;exact⟨p,_,_,rfl,hp⟩
 | cA bB to=>obtain⟨p,l,rfl,hp,_⟩:=cM.mp h;exact⟨p,_,_,rfl,hp⟩
theorem yc (p:Int×Int):depth (a9 p)=1:=by simp [a9,depth,depth.dL]
theorem di {H:Hp} {b:List Pl} {xs:List V} {i:Nat} {x:V} (h:a8 H (b.map mZ) xs) (e:xs[i]?=some x):∃q,b[i]?=some q/\Rep H (mZ q) x:=by
 obtain⟨d,ed,rd⟩:=h.get e;rw[YO] at ed;obtain⟨q,eq,rfl⟩:=aas.mp ed;exact⟨q,eq,rd⟩
theorem eK {H:Hp} {b:List Pl} {xs:List V} {i:Nat} {q:Pl} (h:a8 H (b.map mZ) xs) (e:b[i]?=some q):∃x,xs[i]?=some x/\Rep H (mZ q) x:=
 h.at (by rw[YO,e];rfl)
theorem dQ {α:Type} {H:Hp} {f:α->Dat} {as:List α} {ys:List V} (hl:ys.length=as.length) (h:∀(i:Nat) y,ys[i]?=some y->∀a,as[i]?=some a->Rep H (f a) y):a8 H (as.map f) ys:=
 a8.of (by rw[YL,hl]) λi d v e1 e2=>by
  rw[YO] at e1;obtain⟨a,ea,rfl⟩:=aas.mp e1;exact h i v e2 a ea
abbrev c6 (H:Hp) (p:Addr):Hp:=λa=>if a=p then none else H a
theorem bY {H:Hp} {p a:Addr} (h:a≠p):c6 H p a=H a:=if_neg h
theorem tM {H:Hp} {p:Addr} {o:HO}:aA (c6 H p) (upd H p o):=λa u e=>by
 unfold c6 at e
 by_cases h:a=p
 ·rw[if_pos h] at e;cases e
 ·rw[if_neg h] at e;rw[aK h];exact e
theorem b8 {H:Hp} {p:Addr}:aA (c6 H p) H:=λa u e=>by
 unfold c6 at e
 by_cases h:a=p
 ·rw[if_pos h] at e;cases e
 ·rw[if_neg h] at e;exact e
theorem fO {H0 H:Hp} {p:Addr} (s:aA H0 H) (n:H0 p=none):aA H0 (c6 H p):=λa u e=>by
 rw[bY (λz=>by rw[z,n] at e;cases e)];exact s _ _ e
theorem b9 {H H':Hp} {p:Addr} (s:aA H H'):aA (c6 H p) (c6 H' p):=λa u e=>by
 unfold c6 at *
 by_cases h:a=p
 ·rw[if_pos h] at e;cases e
 ·rw[if_neg h] at e ⊢;exact s _ _ e
theorem aX {H0 H:Hp} {p:Addr} {o:HO} (s:aA H0 H) (n:H0 p=none):aA H0 (upd H p o):=(fO s n).trans tM
theorem pL {H:Hp} {p:Addr} {ds:List Dat} {xs:List V} {d:Dat} {v:V} (h:a8 (c6 H p) ds xs) (k:Rep (c6 H p) d v):a8 (c6 (upd H p (.lst (xs++ [v]))) p) (ds++ [d]) (xs++ [v]):=by
 have s:aA (c6 H p) (c6 (upd H p (.lst (xs++ [v]))) p):=fO tM (if_pos rfl);refine(h.mono s).append ?_;rw[a8];exact⟨v,[],rfl,k.mono s,by rw[a8]⟩
theorem Cs {xs:List V} {k:Int} (h:0<=k):iK xs none (some k)=xs.take k.toNat:=by
 unfold iK;obtain⟨n,rfl⟩:=Y2 h;rw[HT.vb,show((n:Nat):Int)=Int.ofNat n from rfl];rw[show HT.uP xs.length xs.length (some (Int.ofNat n))=min n xs.length from HT.oA _ _ n];rw[List.drop_zero,Nat.sub_zero];show xs.take (min n xs.length)=xs.take n
 by_cases h:n<=xs.length
 ·rw[Nat.min_eq_left h]
 ·rw[Nat.min_eq_right ⋯,Zg (YR _),Zg ⋯]
theorem FN {xs:List V} {k:Nat} {x:V} (h:xs[k]?=some x):iK xs (some (k:Int)) (some ((k:Int)+1))=[x]:=by
 have hk:=(aat.mp h).1;unfold iK;rw[HT.oA,show((k:Int)+1)=((k+1:Nat):Int) by lia,HT.oA,Nat.min_eq_left ⋯,Nat.min_eq_left ⋯,show k+1 - k=1 by lia];rw[List.drop_eq_getElem_cons hk];have e:xs[k]=x:=by rw[YM hk] at h;exact Zb h
 rw[e];rfl
theorem j1 {α β:Type} {f:α->β} {as:List α} {i:Nat} {a:α} (h:as[i]?=some a):eV (as.map f) (i:Int)=some (f a):=bA (by rw[YO,h];rfl)
theorem vv {c:TT} {tb:TS} {D:Ends} {σ:St} {H:Hp} (W:Nat->St->Hp->Prop) {m:Nat} (h0:W m σ H)
  (hs:∀m σ H,W m σ H->c σ H λb H1=>if b=true then tb {D with nx:=λσ' H'=>∃m',m'<m/\W m' σ' H',ct:=λσ' H'=>∃m',m'<m/\W m' σ' H',bk:=D.nx} σ H1 else D.nx σ H1)
  (mono:∀σ H Q Q',(∀b H1,Q b H1->Q' b H1)->c σ H Q->c σ H Q'):sV c tb D σ H:=by
 refine⟨W,⟨m,h0⟩,λm σ H w=>mono σ H _ _ (λb H1 q=>?_) (hs m σ H w)⟩;cases b with
 | true=>exact⟨_,λ_ _ h=>h,q⟩
 | false=>exact q
theorem mB {K:aam} {α:Type} {J:It} {tc:TT} {te:TE} {tl:St} {H1:Hp} {fin:List V->Hp->Prop} {Item:Nat->V->Hp->Hp->Prop} (as:List α) (f:α->Option V) (S:Src J (aA H1) as.length Item) (LU:Nat->V->V->Hp->Prop)
  (tp:∀i x H H3,i<as.length->aA H1 H->Item i x H H3->aA H H3/\∃p a b,x=.ref p/\fV K H3 p [a,b]/\LU i a b H3) (hz:as.length<=sizeLine)
  (hs:∀i a u v H3,as[i]?=some a->aA H1 H3->LU i u v H3->∀(Y:VK) (N:Hp->Prop),(∀z H6,f a=some z->aA H3 H6->Y z H6)->(∀H6,f a=none->aA H3 H6->N H6)->tc (some u::some v::tl) H3 λb H5=>if b=true then te (some u::some v::tl) H5 Y else N H5)
  (mz:∀H2,aA H1 H2->fin (as.filterMap f) H2):gu J (BN K 2 (gCons (gName 0) (gCons (gName 1) gNil))) tc te (none::none::tl) H1 fin:=by
 refine jo S (λσ=>∃w0 w1,σ=w0::w1::tl) ⟨_,_,rfl⟩ (λi ys _=>ys=(as.take i).filterMap f) (by simp) hz ?_ ?_
 ·rintro i x σ H ys H3 Q N hi sm rfl hl ⟨w0,w1,rfl⟩ it kq kn;obtain⟨s3,p,u,v,rfl,sq,i2⟩:=tp i x H H3 hi sm it;have ea:as[i]?=some as[i]:=YM hi;refine⟨p,_,rfl,sq,rfl,_,_,rfl,_,_,rfl,rfl,?_⟩;refine hs i _ u v H3 ea (sm.trans s3) i2 _ _ (λz H6 e s6=>kq _ _ _ ⟨_,_,rfl⟩ (sm.trans (s3.trans s6)) ?_) (λH6 e s6=>kn _ _ ⟨_,_,rfl⟩ (sm.trans (s3.trans s6)) ?_)
  ·rw[Zc,ea,Z9];simp [e]
  ·rw[Zc,ea,Z9];simp [e]
 ·rintro ys H sm rfl hl;rw[Zg (YR _)];exact mz H sm
theorem eL {α:Type} (f:α->V) (p:α->Bool):∀l:List α,l.filterMap (λi=>if p i=true then some (f i) else none)=(l.filter p).map f
 | []=>rfl
 | x::l=>by
  rw[List.filterMap_cons,List.filter_cons]
  by_cases c:p x=true
  ·simp only[c,if_true,Y8,eL f p l]
  ·simp only[c,if_false,eL f p l];rfl
section
variable {X : Cx} {K : aam}
theorem yd (hc:X.calm=true):c7 X (.builtin "min") (λxs H Q=>∃p ns,xs=[.ref p]/\aS X.K H p (List.map V.int ns)/\0<ns.length/\∀M,M∈ns->(∀a∈ns,M<=a)->Q (.int M) H):=by
 intro pins s σ H xs us Q I r h;obtain⟨p,ns,rfl,hq,L3,q⟩:=h;obtain⟨u,rfl,rx⟩:=vals1 r;cases rx;obtain⟨aW,rv,pl,hz⟩:=I.list hq;have hi:=intsAre_of rv;have hl:=pl.isList;obtain⟨xs,e⟩:=hi.allInts.items;have BA:ns=xs.toList.map (·.1):=by rw[<-hi.numsOf,<-nums_intItems,<-e]
 have hsz:0<xs.size:=by
  have h3:=L3;rw[BA,YL,ZV] at h3;exact h3
 rw[e] at hl;refine min_intList (I.ok.hd hc) hl hsz λv h' tk hv hk=>?_;obtain⟨t,rfl⟩:=intItems_at hv;obtain⟨h1,h2⟩:=argBest_lt (numAt xs) (xs.size - 1);refine⟨.int _,H,I.kept (t':=tk) hk,⟨t,rfl⟩,q _ ?_ λa ha=>?_⟩
 ·rw[BA,numAt_eq];exact getD_mem (by rw[YL,ZV];lia)
 ·rw[BA] at ha;obtain⟨j,hj,rfl⟩:=mem_getD ha;rw[YL,ZV] at hj;rw[<-numAt_eq];exact h2 j ⋯
theorem ye (hc:X.calm=true):c7 X (.builtin "max") (λxs H Q=>∃p ns,xs=[.ref p]/\aS X.K H p (List.map V.int ns)/\0<ns.length/\∀M,M∈ns->(∀a∈ns,a<=M)->Q (.int M) H):=by
 intro pins s σ H xs us Q I r h;obtain⟨p,ns,rfl,hq,L3,q⟩:=h;obtain⟨u,rfl,rx⟩:=vals1 r;cases rx;obtain⟨aW,rv,pl,hz⟩:=I.list hq;have hi:=intsAre_of rv;have hl:=pl.isList;obtain⟨xs,e⟩:=hi.allInts.items;have BA:ns=xs.toList.map (·.1):=by rw[<-hi.numsOf,<-nums_intItems,<-e]
 have hsz:0<xs.size:=by
  have h3:=L3;rw[BA,YL,ZV] at h3;exact h3
 rw[e] at hl;refine max_intList (I.ok.hd hc) hl hsz λv h' tk hv hk=>?_;obtain⟨t,rfl⟩:=intItems_at hv;obtain⟨h1,h2⟩:=argBest_gt (numAt xs) (xs.size - 1);refine⟨.int _,H,I.kept (t':=tk) hk,⟨t,rfl⟩,q _ ?_ λa ha=>?_⟩
 ·rw[BA,numAt_eq];exact getD_mem (by rw[YL,ZV];lia)
 ·rw[BA] at ha;obtain⟨j,hj,rfl⟩:=mem_getD ha;rw[YL,ZV] at hj;rw[<-numAt_eq];exact h2 j ⋯
theorem vy (hc:X.calm=true:=by rfl) (hK:X.K=K:=by rfl):c7 X (.builtin "min") (λxs H Q=>∃p ns,xs=[.ref p]/\aS K H p (List.map V.int ns)/\0<ns.length/\∀M,M∈ns->(∀a∈ns,M<=a)->Q (.int M) H):=by subst hK;exact yd hc
theorem m4 (hc:X.calm=true:=by rfl) (hK:X.K=K:=by rfl):c7 X (.builtin "max") (λxs H Q=>∃p ns,xs=[.ref p]/\aS K H p (List.map V.int ns)/\0<ns.length/\∀M,M∈ns->(∀a∈ns,a<=M)->Q (.int M) H):=by subst hK;exact ye hc
end
end L2
namespace Lv
open L2
@[inline]abbrev Fs:=List (Option Int)
abbrev ik:Pl->List Int
 | .fin _=>[]
 | .d6 _ ws=>ws.map (·.2)
 | .cA _ to=>to
abbrev lk (fs:Fs) (g:Int):Option Int:=fs.getD g.toNat none
abbrev He (fs:Fs) (q:Pl):Bool:=
 match q with
 | .d6 _ ws=>(ws.map (·.2)).any λg=>(lk fs g).isSome
 | .fin _=>true
 | .cA _ to=>to.all λg=>(lk fs g).isSome
abbrev iD (b:List Pl) (fs:Fs) (i:Nat):Bool:=(fs.getD i none).isNone && (match b[i]? with | some q=>He fs q | none=>false)
abbrev fresh (b:List Pl) (fs:Fs):List Nat:=(List.range b.length).filter (iD b fs)
abbrev dj (fs:Fs) (is:List Nat) (L:Int):Fs:=is.foldl (λacc i=>acc.set i (some L)) fs
abbrev run (b:List Pl):Nat->Fs->Int->Fs
 | 0,fs,_=>fs
 | m+1,fs,L=>if fresh b fs=[] then fs else run b m (dj fs (fresh b fs) L) (L+1)
abbrev L4:Pl->Option Int
 | .fin _=>some 0
 | _=>none
abbrev qI (b:List Pl):Fs:=b.map L4
abbrev vA (b:List Pl):Fs:=run b b.length (qI b) 1
abbrev fm (fs:Fs):Nat:=fs.countP (·.isNone)
theorem oG (fs:Fs):∀(is:List Nat) (L:Int),(dj fs is L).length=fs.length
 | is,L=>by
  induction is generalizing fs with
  | nil=>rfl
  | cons i is ih=>
   show(dj (fs.set i (some L)) is L).length=_;rw[ih,Zh]
theorem zk (L:Int):∀(is:List Nat) (fs:Fs) (k:Nat),(dj fs is L)[k]?=if k∈is/\k<fs.length then some (some L) else fs[k]?
 | [],fs,k=>by simp [dj]
 | i::is,fs,k=>by
  show(dj (fs.set i (some L)) is L)[k]?=_;rw[zk L is,Zh]
  by_cases h:k<fs.length
  ·by_cases h1:k∈is
   ·rw[if_pos ⟨h1,h⟩,if_pos ⟨YU _ h1,h⟩]
   ·rw[if_neg (λz=>h1 z.1)]
    by_cases h2:k=i
    ·subst h2;rw[if_pos ⟨YT,h⟩,ZO h]
    ·rw[if_neg (λz=>(ZT.mp z.1).elim h2 h1),Zw (Ne.symm h2)]
  ·rw[if_neg (λz=>h z.2),if_neg (λz=>h z.2),Y0 (by rw[Zh];lia),Y0 ⋯]
theorem dI (x:Option Int) (fs:Fs):fm (x::fs)=fm fs+if x.isNone then 1 else 0:=by
 unfold fm;rw[List.countP_cons]
theorem rS (L:Int):∀(fs:Fs) (i:Nat),fm (fs.set i (some L))<=fm fs
 | [],i=>by simp
 | x::fs,0=>by
  rw[ZY,dI,dI];simp
 | x::fs,i+1=>by
  rw[ZZ,dI,dI];have:=rS L fs i;lia
theorem vB (L:Int):∀(fs:Fs) (i:Nat),fs[i]?=some none->fm (fs.set i (some L))<fm fs
 | [],i,h=>by simp at h
 | x::fs,0,h=>by
  simp at h;subst h;rw[ZY,dI,dI];simp
 | x::fs,i+1,h=>by
  rw[ZZ,dI,dI];have:=vB L fs i (by simpa using h);lia
theorem rT (L:Int):∀(is:List Nat) (fs:Fs),fm (dj fs is L)<=fm fs
 | [],fs=>YR _
 | i::is,fs=>YY (rT L is (fs.set i (some L))) (rS L fs i)
theorem tN (L:Int) {is:List Nat} {fs:Fs} (h:is≠[]) (k:∀i∈is,fs[i]?=some none):fm (dj fs is L)<fm fs:=by
 cases is with
 | nil=>exact absurd rfl h
 | cons i is=>exact ZG (rT L is _) (vB L fs i (k i YT))
theorem jv {b:List Pl} {fs:Fs} {i:Nat}:i∈fresh b fs↔i<b.length/\iD b fs i=true:=by
 unfold fresh;rw[List.mem_filter,List.mem_range]
theorem pM {b:List Pl} {fs:Fs} (hl:fs.length=b.length) {i:Nat} (h:i∈fresh b fs):fs[i]?=some none:=by
 obtain⟨h1,h2⟩:=jv.mp h;unfold iD at h2;rw[Zx] at h2;have e:fs[i]?=some fs[i]:=YM ⋯;rw[YN,e] at h2;rw[e];cases h:fs[i] with
 | none=>rfl
 | some v=>rw[h] at h2;simp at h2
abbrev At (fs:Fs) (L:Int) (i:Nat):Pl->Prop
 | .fin _=>fs[i]?=some (some 0)
 | .d6 _ ws=>(fs[i]?=some none/\∀g∈ws.map (·.2),∀u,lk fs g=some u->u=L - 1)\/
   ∃v,fs[i]?=some (some v)/\1<=v/\(∃g∈ws.map (·.2),lk fs g=some (v - 1))/\∀g∈ws.map (·.2),∀u,lk fs g=some u->v - 1<=u
 | .cA _ to=>(fs[i]?=some none/\((∀g∈to,(lk fs g).isSome=true)->∃g∈to,lk fs g=some (L - 1)))\/
   ∃v,fs[i]?=some (some v)/\1<=v/\(∀g∈to,∃u,lk fs g=some u/\u<=v - 1)/\∃g∈to,lk fs g=some (v - 1)
structure Good (b:List Pl):Prop where
 qH:∀q∈b,∀g∈ik q,0<=g/\g<b.length
 cA:∀q∈b,∀w to,q=.cA w to->to≠[]
structure Inv (b:List Pl) (fs:Fs) (L:Int):Prop where
 len:fs.length=b.length
 lt:∀(i:Nat) (v:Int),fs[i]?=some (some v)->0<=v/\v<L
 at_:∀(i:Nat) q,b[i]?=some q->At fs L i q
theorem Ct {b:List Pl} (g:Good b):Inv b (qI b) 1:=by
 have h0:∀(i:Nat) (v:Int),(qI b)[i]?=some (some v)->v=0:=λi v e=>by
  unfold qI at e;rw[YO] at e;obtain⟨q,_,e⟩:=aas.mp e;cases q <;>simp [L4] at e;exact e.symm
 have hk:∀(g u:Int),lk (qI b) g=some u->u=0:=λg u e=>by
  unfold lk at e;rw[YN] at e;cases h:(qI b)[g.toNat]? with
  | none=>rw[h] at e;simp at e
  | some o=>rw[h] at e;simp at e;subst e;exact h0 _ _ h
 refine⟨by simp [qI],λi v e=>by have:=h0 i v e;lia,λi q e=>?_⟩;have e2:(qI b)[i]?=some (L4 q):=by unfold qI;rw[YO,e];rfl
 cases q with
 | fin w=>exact e2
 | d6 w ws=>exact .inl ⟨e2,λg _ u h=>hk g u h⟩
 | cA w to=>
  refine .inl ⟨e2,λh=>?_⟩;cases to with
  | nil=>exact absurd rfl (g.cA _ (YQ e) _ _ rfl)
  | cons x r=>
   refine⟨x,YT,?_⟩;have:=h x YT;obtain⟨u,hu⟩:=Option.isSome_iff_exists.mp this;have:=hk x u hu;rw[hu,this];rfl
theorem rV {fs:Fs} {g:Int} {u:Int}:lk fs g=some u↔fs[g.toNat]?=some (some u):=by
 unfold lk;rw[YN];cases h:fs[g.toNat]? with
 | none=>simp
 | some o=>simp
theorem step {b:List Pl} (gb:Good b) {fs:Fs} {L:Int} (I:Inv b fs L) (L1:1<=L):Inv b (dj fs (fresh b fs) L) (L+1):=by
 have hl:=I.len;have get:∀(k:Nat),(dj fs (fresh b fs) L)[k]?=if k∈fresh b fs/\k<fs.length then some (some L) else fs[k]?:=zk L _ _
 have old:∀(k:Nat) (v:Int),fs[k]?=some (some v)->(dj fs (fresh b fs) L)[k]?=some (some v):=λk v e=>by
  rw[get,if_neg,e];intro z;rw[pM hl z.1] at e;cases e
 have AV:∀(g u:Int),lk fs g=some u->lk (dj fs (fresh b fs) L) g=some u:=λg u h=>rV.mpr (old _ _ (rV.mp h));have xV:∀(g u:Int),lk (dj fs (fresh b fs) L) g=some u->lk fs g=some u\/u=L:=λg u h=>by
  have h:=rV.mp h;rw[get] at h
  split at h
  ·right;simpa using h.symm
  ·exact .inl (rV.mpr h)
 refine⟨by rw[oG];exact hl,λi v e=>?_,λi q e=>?_⟩
 ·rw[get] at e
  split at e
  ·simp at e;lia
  ·have:=I.lt i v e;lia
 ·have hi:i<b.length:=(aat.mp e).1;have A:=I.at_ i q e;have rd:∀(q:Pl),b[i]?=some q->fs[i]?=some none->(i∈fresh b fs↔He fs q=true):=λq e e2=>by
   rw[jv];unfold iD;rw[YN,e2,e];simp [hi]
  cases q with
  | fin w=>exact old _ _ A
  | d6 w ws=>
   rcases A with ⟨a1,a2⟩ | ⟨v,a1,a2,⟨x,hx,a3⟩,a4⟩
   ·by_cases c:i∈fresh b fs
    ·right
     refine⟨L,by rw[get,if_pos ⟨c,⋯⟩],L1,?_,λg hg u h=>?_⟩
     ·have:=(rd _ e a1).mp c;have:(ws.map (·.2)).any (λg=>(lk fs g).isSome)=true:=this;obtain⟨x,hx,h⟩:=List.any_eq_true.mp this;obtain⟨u,hu⟩:=Option.isSome_iff_exists.mp h;have:=a2 x hx u hu;subst this;exact⟨x,hx,AV _ _ hu⟩
     ·rcases xV _ _ h with h | h
      ·have:=a2 g hg u h;lia
      ·lia
    ·left
     refine⟨by rw[get,if_neg (λz=>c z.1)];exact a1,λg hg u h=>?_⟩;rcases xV _ _ h with h | h
     ·exfalso;refine c ((rd _ e a1).mpr ?_);show(ws.map (·.2)).any (λg=>(lk fs g).isSome)=true;exact List.any_eq_true.mpr ⟨g,hg,by rw[h];rfl⟩
     ·lia
   ·right
    refine⟨v,old _ _ a1,a2,⟨x,hx,AV _ _ a3⟩,λg hg u h=>?_⟩;rcases xV _ _ h with h | h
    ·exact a4 g hg u h
    ·have:=I.lt i v a1;lia
  | cA w to=>
   rcases A with ⟨a1,a2⟩ | ⟨v,a1,a2,a3,x,hx,a4⟩
   ·by_cases c:i∈fresh b fs
    ·right
     have r:=(rd _ e a1).mp c;have r:to.all (λg=>(lk fs g).isSome)=true:=r;have r:=List.all_eq_true.mp r;obtain⟨x,hx,h⟩:=a2 r;refine⟨L,by rw[get,if_pos ⟨c,⋯⟩],L1,λg hg=>?_,x,hx,AV _ _ h⟩;obtain⟨u,hu⟩:=Option.isSome_iff_exists.mp (r g hg);exact⟨u,AV _ _ hu,by have:=I.lt _ _ (rV.mp hu);lia⟩
    ·left
     refine⟨by rw[get,if_neg (λz=>c z.1)];exact a1,λh=>?_⟩;have:¬∀g∈to,(lk fs g).isSome=true:=λz=>c ((rd _ e a1).mpr (show to.all (λg=>(lk fs g).isSome)=true from List.all_eq_true.mpr z));have:∃g∈to,lk fs g=none:=by
      apply Classical.byContradiction;intro n;apply this;intro g hg;cases h:lk fs g with
      | none=>exact absurd ⟨g,hg,h⟩ n
      | some u=>rfl
     obtain⟨g,hg,hn⟩:=this;obtain⟨u,hu⟩:=Option.isSome_iff_exists.mp (h g hg);refine⟨g,hg,?_⟩;rcases xV _ _ hu with h | h
     ·rw[hn] at h;cases h
     ·rw[hu,h];congr 1;lia
   ·right
    refine⟨v,old _ _ a1,a2,λg hg=>?_,x,hx,AV _ _ a4⟩;obtain⟨u,h1,h2⟩:=a3 g hg;exact⟨u,AV _ _ h1,h2⟩
abbrev Ends (fs:Fs) (i:Nat):Pl->Prop
 | .fin _=>fs[i]?=some (some 0)
 | .d6 _ ws=>(fs[i]?=some none/\∀g∈ws.map (·.2),lk fs g=none)\/
   ∃v,fs[i]?=some (some v)/\1<=v/\(∃g∈ws.map (·.2),lk fs g=some (v - 1))/\∀g∈ws.map (·.2),∀u,lk fs g=some u->v - 1<=u
 | .cA _ to=>(fs[i]?=some none/\∃g∈to,lk fs g=none)\/
   ∃v,fs[i]?=some (some v)/\1<=v/\(∀g∈to,∃u,lk fs g=some u/\u<=v - 1)/\∃g∈to,lk fs g=some (v - 1)
theorem FO {b:List Pl} {fs:Fs} {L:Int} (I:Inv b fs L) (h:fresh b fs=[]) (i:Nat) (q:Pl) (e:b[i]?=some q):Ends fs i q:=by
 have hi:i<b.length:=(aat.mp e).1;have nr:fs[i]?=some none->He fs q=false:=λe2=>by
  have:i∉fresh b fs:=by rw[h];simp
  rw[jv] at this;cases hr:He fs q with
  | false=>rfl
  | true=>
   exfalso;apply this;refine⟨hi,?_⟩;unfold iD;rw[YN,e2,e];simp [hr]
 have A:=I.at_ i q e;cases q with
 | fin w=>exact A
 | d6 w ws=>
  rcases A with ⟨a1,a2⟩ | A
  ·refine .inl ⟨a1,λg hg=>?_⟩;have:=nr a1;have:(ws.map (·.2)).any (λg=>(lk fs g).isSome)=false:=this;have:=List.any_eq_false.mp this g hg
   simpa using this
  ·exact .inr A
 | cA w to=>
  rcases A with ⟨a1,a2⟩ | A
  ·refine .inl ⟨a1,?_⟩;have:=nr a1;have:to.all (λg=>(lk fs g).isSome)=false:=this;obtain⟨g,hg,n⟩:=List.all_eq_false.mp this;exact⟨g,hg,by simpa using n⟩
  ·exact .inr A
theorem mC {b:List Pl} {fs:Fs} (hl:fs.length=b.length) (h:fresh b fs≠[]) (L:Int):fm (dj fs (fresh b fs) L)<fm fs:=tN L h λ_ hi=>pM hl hi
theorem tO {b:List Pl} (gb:Good b):∀(m:Nat) (fs:Fs) (L:Int),Inv b fs L->1<=L->fm fs<=m->∃L',L'<=L+m/\Inv b (run b m fs L) L'/\fresh b (run b m fs L)=[]
 | 0,fs,L,I,L1,h=>by
  refine⟨L,⋯,I,?_⟩;show fresh b fs=[];apply Classical.byContradiction;intro n;have:=mC I.len n L;lia
 | m+1,fs,L,I,L1,h=>by
  show ∃L',L'<=L+ (m+1:Nat)/\Inv b (if fresh b fs=[] then fs else run b m (dj fs (fresh b fs) L) (L+1)) L'/\fresh b (if fresh b fs=[] then fs else run b m (dj fs (fresh b fs) L) (L+1))=[]
  by_cases c:fresh b fs=[]
  ·rw[if_pos c];exact⟨L,⋯,I,c⟩
  ·rw[if_neg c];have:=mC I.len c L;obtain⟨L',h1,h2⟩:=tO gb m _ _ (step gb I L1) ⋯ ⋯;exact⟨L',⋯,h2⟩
theorem pN (fs:Fs):fm fs<=fs.length:=List.countP_le_length
theorem FP {b:List Pl} (gb:Good b):(vA b).length=b.length:=by
 obtain⟨L,_,I,_⟩:=tO gb b.length _ _ (Ct gb) ∅ (by have:=pN (qI b);simpa [qI] using this);exact I.len
theorem Cu {b:List Pl} (gb:Good b) (i:Nat) (q:Pl) (e:b[i]?=some q):Ends (vA b) i q:=by
 obtain⟨L,_,I,f⟩:=tO gb b.length _ _ (Ct gb) ∅ (by have:=pN (qI b);simpa [qI] using this);exact FO I f i q e
end Lv
namespace Bf
open L2 Lv
@[inline]abbrev En:=Int×Option (Int×Nat)×List Nat
abbrev keys (es:List En):List Int:=es.map (·.1)
abbrev gC (b:List Pl) (k:Int):List Int:=match b[k.toNat]? with | some q=>ik q | none=>[]
abbrev il (here:Int) (path:List Nat):Nat->List Int->List En->List En
 | _,[],es=>es
 | w,g::gs,es=>il here path (w+1) gs (if g∈keys es then es else es++ [(g,some (here,w),path++ [w])])
abbrev E2 (b:List Pl):Nat->Nat->List En->List En
 | 0,_,es=>es
 | m+1,t,es=>match es[t]? with | none=>es | some e=>E2 b m (t+1) (il e.1 e.2.2 0 (gC b e.1) es)
abbrev steps (b:List Pl) (start:Int):List En:=E2 b (b.length+1) 0 [(start,none,[])]
structure Core (b:List Pl) (start:Int) (es:List En):Prop where
 nd:(keys es).Nodup
 qH:∀e∈es,0<=e.1/\e.1<b.length
 hd:es[0]?=some (start,none,[])
 par:∀(i:Nat) e,es[i]?=some e->0<i->∃(j:Nat) (ej:En) (w:Nat),j<i/\es[j]?=some ej/\e.2.1=some (ej.1,w)/\(gC b ej.1)[w]?=some e.1/\e.2.2=ej.2.2++ [w]
 mono:∀(i j:Nat) ei ej,i<=j->es[i]?=some ei->es[j]?=some ej->ei.2.2.length<=ej.2.2.length
structure KP (b:List Pl) (start:Int) (t:Nat) (e:En) (k:Nat) (es:List En):Prop extends Core b start es where
 at_:es[t]?=some e
 top:∀(i:Nat) ei,es[i]?=some ei->ei.2.2.length<=e.2.2.length+1
 old:∀(j:Nat) ej,j<t->es[j]?=some ej->∀g∈gC b ej.1,∃(i:Nat) (ei:En),es[i]?=some ei/\ei.1=g/\ei.2.2.length<=ej.2.2.length+1
 now:∀g∈(gC b e.1).take k,∃(i:Nat) (ei:En),es[i]?=some ei/\ei.1=g/\ei.2.2.length<=e.2.2.length+1
structure Inv (b:List Pl) (start:Int) (t:Nat) (es:List En):Prop extends Core b start es where
 top:∀(i:Nat) ei et,es[i]?=some ei->es[t]?=some et->ei.2.2.length<=et.2.2.length+1
 old:∀(j:Nat) ej,j<t->es[j]?=some ej->∀g∈gC b ej.1,∃(i:Nat) (ei:En),es[i]?=some ei/\ei.1=g/\ei.2.2.length<=ej.2.2.length+1
theorem fP {α:Type} {l:List α} {x y:α} {i:Nat} (h:(l++ [x])[i]?=some y):l[i]?=some y\/(i=l.length/\y=x):=by
 by_cases c:i<l.length
 ·rw[Zm c] at h;exact .inl h
 ·rw[Zn ⋯] at h;have:i - l.length=0:=by
   by_cases q:i - l.length=0
   ·exact q
   ·rw[Y0 (by simp;lia)] at h;cases h
  rw[this] at h;simp at h;exact .inr ⟨⋯,h.symm⟩
theorem up {α:Type} {l:List α} {x y:α} {i:Nat} (h:l[i]?=some y):(l++ [x])[i]?=some y:=by
 rw[Zm (aat.mp h).1];exact h
theorem one {b:List Pl} (gb:Good b) {start:Int} {t:Nat} {e:En} {k:Nat} {es:List En} {g:Int} (M:KP b start t e k es) (hg:(gC b e.1)[k]?=some g):
  KP b start t e (k+1) (if g∈keys es then es else es++ [(g,some (e.1,k),e.2.2++ [k])]):=by
 have tk:(gC b e.1).take (k+1)=(gC b e.1).take k++ [g]:=by rw[Zc,hg];rfl
 by_cases c:g∈keys es
 ·rw[if_pos c];refine {M with now:=λx hx=>?_};rw[tk] at hx;rcases List.mem_append.mp hx with hx | hx
  ·exact M.now x hx
  ·have:x=g:=by simpa using hx
   subst this;obtain⟨ei,NN,rfl⟩:=aau.mp c;obtain⟨i,hi⟩:=Ze NN;exact⟨i,ei,hi,rfl,M.top i ei hi⟩
 ·rw[if_neg c];have rg:0<=g/\g<b.length:=by
   unfold gC at hg;cases hb:b[e.1.toNat]? with
   | none=>rw[hb] at hg;simp at hg
   | some q=>
    rw[hb] at hg;exact gb.qH q (YQ hb) g (YQ hg)
  have tl:t<es.length:=(aat.mp M.at_).1;refine⟨⟨?_,λx hx=>?_,up M.hd,λi x hx i0=>?_,λi j ei ej OQ hi hj=>?_⟩,up M.at_,λi ei hi=>?_,λj ej hj Jg x hx=>?_,λx hx=>?_⟩
  ·unfold keys at *;rw[Y5];refine List.nodup_append.mpr ⟨M.nd,by simp,λa ha b' Uh=>?_⟩;have:b'=g:=by simpa using Uh
   subst this;intro z;exact c (z▸ha)
  ·rcases List.mem_append.mp hx with hx | hx
   ·exact M.qH x hx
   ·have:x=(g,some (e.1,k),e.2.2++ [k]):=by simpa using hx
    subst this;exact rg
  ·rcases fP hx with hx | ⟨rfl,rfl⟩
   ·obtain⟨j,ej,w,a1,a2,a3⟩:=M.par i x hx i0;exact⟨j,ej,w,a1,up a2,a3⟩
   ·exact⟨t,e,k,tl,up M.at_,rfl,hg,rfl⟩
  ·rcases fP hi with hi | ⟨rfl,rfl⟩
   ·rcases fP hj with hj | ⟨rfl,rfl⟩
    ·exact M.mono i j ei ej OQ hi hj
    ·have:=M.top i ei hi
     simpa using this
   ·rcases fP hj with hj | ⟨rfl,rfl⟩
    ·have:=(aat.mp hj).1;lia
    ·exact YR _
  ·rcases fP hi with hi | ⟨rfl,rfl⟩
   ·exact M.top i ei hi
   ·simp
  ·rcases fP Jg with Jg | ⟨rfl,rfl⟩
   ·obtain⟨i,ei,a1,a2⟩:=M.old j ej hj Jg x hx;exact⟨i,ei,up a1,a2⟩
   ·lia
  ·rw[tk] at hx;rcases List.mem_append.mp hx with hx | hx
   ·obtain⟨i,ei,a1,a2⟩:=M.now x hx;exact⟨i,ei,up a1,a2⟩
   ·have:x=g:=by simpa using hx
    subst this;exact⟨es.length,(x,some (e.1,k),e.2.2++ [k]),by rw[Zn (YR _)];simp,rfl,by simp⟩
theorem pO {b:List Pl} (gb:Good b) {start:Int} {t:Nat} {e:En}:∀(gs:List Int) (k:Nat) (es:List En),KP b start t e k es->(∀(i:Nat) g,gs[i]?=some g->(gC b e.1)[k+i]?=some g)->KP b start t e (k+gs.length) (il e.1 e.2.2 k gs es)
 | [],k,es,M,_=>M
 | g::gs,k,es,M,h=>by
  have:=pO gb gs (k+1) _ (one gb M (h 0 g rfl)) λi x hx=>by
   have:=h (i+1) x (by simpa using hx)
   rwa [show k+1+i=k+ (i+1) by lia]
  rw[YZ,show k+ (gs.length+1)=k+1+gs.length by lia];exact this
theorem Cv {b:List Pl} {start:Int} {t:Nat} {e:En} {es:List En} (I:Inv b start t es) (h:es[t]?=some e):KP b start t e 0 es:=
 {I with at_:=h,top:=λi ei hi=>I.top i ei e hi h,now:=λg hg=>by simp at hg}
theorem Jh {b:List Pl} {start:Int} {t:Nat} {e:En} {es:List En} (M:KP b start t e (gC b e.1).length es):Inv b start (t+1) es:=by
 refine {M with top:=λi ei et hi ht=>?_,old:=λj ej hj Jg g hg=>?_}
 ·have h1:=M.top i ei hi;have h2:=M.mono t (t+1) e et ⋯ M.at_ ht;lia
 ·by_cases c:j<t
  ·exact M.old j ej c Jg g hg
  ·have:j=t:=⋯
   subst this;rw[M.at_] at Jg;cases Jg;exact M.now g (by rw[Zg (YR _)];exact hg)
theorem turn {b:List Pl} (gb:Good b) {start:Int} {t:Nat} {e:En} {es:List En} (I:Inv b start t es) (h:es[t]?=some e):Inv b start (t+1) (il e.1 e.2.2 0 (gC b e.1) es):=by
 have:=pO gb (gC b e.1) 0 es (Cv I h) λi g hg=>by rw[ZI];exact hg
 rw[ZI] at this;exact Jh this
theorem Ct {b:List Pl} {start:Int} (h0:0<=start) (h1:start<b.length):Inv b start 0 [(start,none,[])]:=by
 refine⟨⟨by simp [keys],λe he=>?_,rfl,λi e he hi=>?_,λi j ei ej _ hi hj=>?_⟩,λi ei et hi ht=>?_,λj ej hj=>⋯⟩
 ·have:e=(start,none,[]):=by simpa using he
  subst this;exact⟨h0,h1⟩
 ·rw[Y0 (by simp;lia)] at he;cases he
 ·cases i with
  | zero=>simp at hi;subst hi;simp
  | succ i=>rw[Y0 (by simp)] at hi;cases hi
 ·cases i with
  | zero=>simp at hi;subst hi;simp
  | succ i=>rw[Y0 (by simp)] at hi;cases hi
theorem zm:∀(n:Nat) (l:List Nat),l.Nodup->(∀x∈l,x<n)->l.length<=n
 | 0,l,_,h=>by
  cases l with
  | nil=>exact YR _
  | cons x r=>have:=h x YT;lia
 | n+1,l,nd,h=>by
  have:=zm n (l.erase n) (nd.erase n) λx hx=>by
   have h1:=(nd.mem_erase_iff).mp hx;have:=h x h1.2;have:=h1.1;lia
  have:=List.length_erase (a:=n) (l:=l)
  split at this <;>lia
theorem Ji {n:Nat} {l:List Int} (nd:l.Nodup) (h:∀x∈l,0<=x/\x< (n:Int)):l.length<=n:=by
 have:=zm n (l.map Int.toNat) (by
  unfold List.Nodup at *;rw[List.pairwise_map];refine nd.imp_of_mem ?_;intro a b ha hb RJ z;have:=h a ha;have:=h b hb;lia) λx hx=>by
   obtain⟨y,hy,rfl⟩:=aau.mp hx;have:=h y hy;lia
 rwa [YL] at this
theorem Core.vj {b:List Pl} {start:Int} {es:List En} (C:Core b start es):es.length<=b.length:=by
 have:=Ji (n:=b.length) C.nd λx hx=>by
  obtain⟨e,he,rfl⟩:=aau.mp hx;exact C.qH e he
 unfold keys at this
 rwa [YL] at this
theorem zo {b:List Pl} (gb:Good b) {start:Int}:∀(m t:Nat) (es:List En),Inv b start t es->b.length<m+t->∃t',es.length<=(E2 b m t es).length/\(E2 b m t es).length<=t'/\Inv b start t' (E2 b m t es)
 | 0,t,es,I,h=>⟨t,YR _,by have:=I.toCore.vj;show es.length<=t;lia,I⟩
 | m+1,t,es,I,h=>by
  unfold E2;cases ht:es[t]? with
  | none=>exact⟨t,YR _,List.getElem?_eq_none_iff.mp ht,I⟩
  | some e=>
   obtain⟨t',a1,a2,a3⟩:=zo gb m (t+1) _ (turn gb I ht) ⋯;refine⟨t',YY ?_ a1,a2,a3⟩;have:∀(gs:List Int) (k:Nat) (es:List En),es.length<=(il e.1 e.2.2 k gs es).length:=by
    intro gs
    induction gs with
    | nil=>intro k es;exact YR _
    | cons g gs ih=>
     intro k es;unfold il;refine YY ?_ (ih (k+1) _)
     split
     ·exact YR _
     ·simp
   exact this _ _ _
theorem gL {b:List Pl} (gb:Good b) {start:Int} (h0:0<=start) (h1:start<b.length):Core b start (steps b start)/\
  ∀(j:Nat) ej,(steps b start)[j]?=some ej->∀g∈gC b ej.1,∃(i:Nat) (ei:En),(steps b start)[i]?=some ei/\ei.1=g/\ei.2.2.length<=ej.2.2.length+1:=by
 obtain⟨t,_,a2,I⟩:=zo gb (b.length+1) 0 _ (Ct (b:=b) h0 h1) ⋯;refine⟨I.toCore,λj ej hj=>I.old j ej ?_ hj⟩;have:=(aat.mp hj).1;show j<t;unfold steps at *;lia
abbrev go (b:List Pl):Int->List Nat->Option Int
 | k,[]=>some k
 | k,w::ws=>match (gC b k)[w]? with | some g=>go b g ws | none=>none
theorem zp {b:List Pl}:∀{ws:List Nat} {k g:Int} {w:Nat},go b k (ws++ [w])=(match go b k ws with | some x=>(gC b x)[w]? | none=>none)
 | [],k,g,w=>by
  show(match (gC b k)[w]? with | some g=>go b g [] | none=>none)=(gC b k)[w]?;cases (gC b k)[w]? <;>rfl
 | v::ws,k,g,w=>by
  show(match (gC b k)[v]? with | some g=>go b g (ws++ [w]) | none=>none)=(match (match (gC b k)[v]? with | some g=>go b g ws | none=>none) with | some x=>(gC b x)[w]? | none=>none);cases (gC b k)[v]? with
  | none=>rfl
  | some x=>exact zp (g:=g)
theorem FQ {b:List Pl} {start:Int} {es:List En} (C:Core b start es):∀(i:Nat) (e:En),es[i]?=some e->go b start e.2.2=some e.1:=by
 intro i
 induction i using Nat.strongRecOn with
 | ind i ih=>
  intro e he
  by_cases c:i=0
  ·subst c;rw[C.hd] at he;cases he;rfl
  ·obtain⟨j,ej,w,a1,a2,a3,a4,a5⟩:=C.par i e he ⋯;rw[a5,zp (g:=e.1),ih j a1 ej a2];exact a4
end Bf
namespace PySem
section
variable {prog : Program} {w : World} {A : Around} {E : Value -> Shared -> Prop} {s : Shared}
end
end PySem
namespace L2
open PySem PySem.Spec PyProof.Rows PySem.W
section
variable {X : Cx} {K : aam}
abbrev tRev (K:aam) (te:TE):TE:=λσ H Q=>te σ H λv H1=>∃p xs,v=.ref p/\aS K H1 p xs/\∀l,H1 l=none->Q (.ref l) (upd H1 l (.lst xs.reverse))
abbrev tD1 (tk tv:TE):TE:=λσ H Q=>∀d,H d=none->tk σ (upd H d (.dK [])) λx H1=>tv σ H1 λv H2=>∃k,x=kV k/\H2 d=some (.dK [])/\Q (.ref d) (upd H2 d (.dK [(k,v)]))
theorem L5 {ke ve:Expr} {tk tv:TE} {pos:Pos} (hk:PE X ke tk) (hv:PE X ve tv):PE X (.Dict [some ke] [ve] pos) (tD1 tk tv):=by
 intro pins s σ H Q I h;refine wpAny_Dict_pairs (knd:=cC X.prog X.w) (pairs:=[(eval ke X.env,do let x <-eval ve X.env;standAt pos;pure x)]) rfl (by simp) (by simp) ?_;have fr:=I.cw.fresh (a:=s.heap.objs.size) (YR _);have I1:Inv X pins σ (upd H s.heap.objs.size (.dK [])) {s with heap:=s.heap.push {cls:=.type "dict",data:=.dict #[]}}:=I.laid (t':=s.toks) (λ_ _ q=>aaw _ q) (YR _) (vi s.heap I.Fx);unfold evalPairs;refine wpAny_bind (cO (hk pins _ σ _ _ I1 (h _ fr)) λku s1 dB=>?_);obtain⟨x,H1,I2,rx,q1⟩:=dB;refine wpAny_bind (wpAny_holding (wpAny_bind (cO (hv pins _ σ _ _ I2 q1) λvu s2 ⟨v,H2,I3,rv,k,ex,hd,q⟩=>wpAny_bind (wpAny_standAt (wpAny_pure ?_)))));subst ex;obtain⟨z,lo,vs,kv,dd⟩:=G9 I3.cw hd;cases kv;unfold evalPairs;refine wpAny_bind (wpAny_holding (wpAny_pure (wpAny_pure ⟨[(k,vu)],⟨mX rx,rfl,trivial⟩,dd,λh' Fz hs=>?_⟩)));have Fz:h'.DictOf (cC X.prog X.w) s.heap.objs.size [(k,vu)]:=Fz;have he:∃q,h'.get? s.heap.objs.size=some q:=let ⟨q,_,_,hq,_⟩:=Fz;⟨q,hq⟩;exact⟨.ref s.heap.objs.size,_,tF I3 (by rw[hd];exact True.intro) hs he (B6 (kvs:=[(k,v)]) (by rw[sizeLine_eq];simp) lo (.cons ⟨rfl,rv⟩ .nil) Fz),rfl,q⟩
end
end L2
namespace KS
open PySem PySem.W PyProof.Rows
abbrev Bd {α:Type} (lt:Nat->Nat->Bool) (n:Nat) (post:α->Prop):KasT α->Prop
 | .ret a=>post a
 | .ask i j k=>i<n/\j<n/\Bd lt n post (k (lt i j))
theorem Bd.bind {α β:Type} {lt:Nat->Nat->Bool} {n:Nat} {post:β->Prop} {f:α->KasT β}:∀{t:KasT α},Bd lt n (λa=>Bd lt n post (f a)) t->Bd lt n post (t.bind f)
 | .ret _,h=>h
 | .ask _ _ _,⟨h1,h2,h3⟩=>⟨h1,h2,Bd.bind h3⟩
theorem Bd.mono {α:Type} {lt:Nat->Nat->Bool} {n:Nat} {p q:α->Prop} (RK:∀a,p a->q a):∀{t:KasT α},Bd lt n p t->Bd lt n q t
 | .ret _,h=>RK _ h
 | .ask _ _ _,⟨h1,h2,h3⟩=>⟨h1,h2,Bd.mono RK h3⟩
theorem Bd.wp {α:Type} {lt:Nat->Nat->Bool} {n:Nat} {post:α->Prop} {cmp:Nat->Nat->(Bool->Shared->Prop)->Shared->Prop} {Q:α->Shared->Prop} {s:Shared}
  (hc:∀i j C,i<n->j<n->C (lt i j) s->cmp i j C s) (hq:∀a,post a->Q a s):∀{t:KasT α},Bd lt n post t->t.kasWp cmp Q s
 | .ret _,h=>hq _ h
 | .ask i j k,⟨h1,h2,h3⟩=>hc i j _ h1 h2 (Bd.wp hc hq h3)
abbrev Pm (n:Nat) (p:Array Nat):Prop:=p.Perm (List.range n).toArray
theorem Pm.lt {n:Nat} {p:Array Nat} (h:Pm n p) (hn:0<n) (i:Nat):p.getD i 0<n:=by
 by_cases hi:i<p.size
 ·have:p.getD i 0=p[i]:=by simp [Array.getD,hi]
  rw[this];have hm:p[i]∈p:=Array.getElem_mem hi;have:=(Array.Perm.mem_iff h).mp hm
  simpa using this
 ·have:p.getD i 0=0:=by simp [Array.getD,hi]
  lia
theorem Pm.rev {n:Nat} {p:Array Nat} (h:Pm n p) (i j:Nat):Pm n (kas_rev p i j):=(mirror_perm _ _ _ _).trans h
theorem Pm.Ui {n:Nat} {p:Array Nat} (h:Pm n p) (i j:Nat):Pm n (bubble p i j):=(bubble_perm _ _ _).trans h
variable {lt : Nat -> Nat -> Bool} {n : Nat}
theorem yf {p:Array Nat} (h:Pm n p) (hn:0<n):∀f k,Bd lt n (λ_=>True) (kas_asc p f k)
 | 0,_=>trivial
 | f+1,k=>by
  refine⟨h.lt hn _,h.lt hn _,?_⟩;dsimp only
  split
  ·trivial
  ·exact yf h hn f (k+1)
theorem oH (hn:0<n):∀f (p:Array Nat) k q,Pm n p->Bd lt n (λr=>Pm n r.1) (kas_desc f p k q)
 | 0,p,k,q,h=>h
 | f+1,p,k,q,h=>by
  refine⟨h.lt hn _,h.lt hn _,?_⟩;dsimp only
  split
  ·split
   ·exact oH hn f _ _ _ (h.rev _ _)
   ·exact oH hn f _ _ _ h
  ·refine⟨h.lt hn _,h.lt hn _,?_⟩;dsimp only
   split
   ·exact h
   ·exact oH hn f _ _ _ h
theorem vC (hn:0<n) {p:Array Nat} (h:Pm n p) (m r:Nat):Bd lt n (λr=>Pm n r.2) (kas_tail3 m r p):=
 Bd.bind ((yf (h.rev _ _) hn _ _).mono λ_ _=>h.rev _ _)
theorem m6 (hn:0<n) {p:Array Nat} (h:Pm n p) (m r:Nat):Bd lt n (λr=>Pm n r.2) (kas_descPart m r p):=by
 refine Bd.bind ((oH hn _ _ _ _ h).mono λx hx=>?_)
 split
 ·exact vC hn (hx.rev _ _) _ _
 ·exact vC hn hx _ _
theorem Cw (hn:0<n) {p:Array Nat} (h:Pm n p) (r:Nat):Bd lt n (λr=>Pm n r.2) (kas_count r p):=by
 refine Bd.bind ((yf h hn _ _).mono λm _=>?_)
 split
 ·exact h
 ·split
  ·refine⟨h.lt hn _,h.lt hn _,?_⟩;dsimp only
   split
   ·exact h
   ·exact m6 hn (h.rev _ _) _ _
  ·exact m6 hn h _ _
theorem pP (hn:0<n) {p:Array Nat} (h:Pm n p) (k:Nat):∀f l r,Bd lt n (λ_=>True) (kas_place p k f l r)
 | 0,_,_=>trivial
 | f+1,l,r=>by
  unfold kas_place
  split
  ·trivial
  ·refine⟨h.lt hn _,h.lt hn _,?_⟩;dsimp only
   split
   ·exact pP hn h k f _ _
   ·exact pP hn h k f _ _
theorem Cy (hn:0<n):∀f (p:Array Nat) k,Pm n p->Bd lt n (Pm n) (kas_bin f p k)
 | 0,p,k,h=>h
 | f+1,p,k,h=>Bd.bind ((pP hn h k _ _ _).mono λl _=>Cy hn f _ _ (h.Ui _ _))
theorem FR (hn:0<n):Bd lt n (Pm n) (kas_sort n):=by
 refine Bd.bind ((Cw hn (Array.Perm.refl _) n).mono λr hr=>?_)
 split
 ·exact Cy hn _ _ _ hr
 ·exact hr
section
variable {prog : Program} {w : World} {A : Around} {E : Value -> Shared -> Prop} {s : Shared} {vs : List Value} {κ : SortKind}
theorem nK {R:List Nat->Prop} {a:Addr} {m:Nat} {P:PySem.Fin->Shared->Prop} (ho:s.heap.get? a=some (seqObj "list" vs.toArray m)) (Jj:vs.length<64)
  (pd:2<=vs.length->∀h' Q',(∀b o,b≠a->s.heap.get? b=some o->h'.get? b=some o)->Q' κ {s with heap:=h'}->wpAny (model prog w) A (keyKind' vs.toArray) Q' (λ_ _=>False) {s with heap:=h'})
  (Cz:∀i j h' C,i<vs.length->j<vs.length->(∀b o,b≠a->s.heap.get? b=some o->h'.get? b=some o)->C (lt i j) {s with heap:=h'}->kas_ask prog w A κ vs i j C {s with heap:=h'})
  (Pq:2<=vs.length->Bd lt vs.length (λp=>Pm vs.length p/\R p.toList) (kas_sort vs.length)) (h0:vs.length<2->R (List.range vs.length))
  (h:∀p:List Nat,p.Perm (List.range vs.length)->R p->P (.done (.ret .none)) {s with heap:=sortedHeap s.heap a vs (p.map λi=>vs.getD i Value.none).toArray}):
  wpAny (model prog w) A (Builtin.«list.sort» ⟨[.ref a],[]⟩) P E s:=by
 rw[list_sort_plain];have ha:a<s.heap.objs.size:=aay ho;refine wpAny_bind (listItems_at ho rfl ?_);refine wpAny_bind (listUpdate_at ho rfl ?_ (by rw[YX,sizeLine_eq];lia) (Y1 _));obtain⟨e1,RL⟩:∃e1,(s.heap.update a (Obj.mapSeq λ_=>#[])).get? a=some (seqObj "list" #[] e1):=⟨_,get?_update_seq ho (λ_=>#[])⟩
 refine wpAny_bind (seqEpoch_at RL rfl ?_);refine wpAny_bind (wpAny_newTuple ?_ (by show vs.length<=_;rw[sizeLine_eq];lia));refine wpAny_bind (wpAny_newList ?_ (Y1 _));refine wpAny_holding ?_;have NP:(((s.heap.update a (Obj.mapSeq λ_=>#[])).push (seqObj "tuple" vs.toArray 0)).push (seqObj "list" #[] 0)).get? a=some (seqObj "list" #[] e1):=by
  rw[Heap.get?_push_ne _ _ _ (by rw[size_push',Heap.size_update];exact YW (Z8 ha)),Heap.get?_push_ne _ _ _ (by rw[Heap.size_update];exact YW ha)];exact RL
 have keep:∀b o,b≠a->s.heap.get? b=some o->(((s.heap.update a (Obj.mapSeq λ_=>#[])).push (seqObj "tuple" vs.toArray 0)).push (seqObj "list" #[] 0)).get? b=some o:=λb o hb q=>
  aaw _ (aaw _ ((Heap.get?_update_other _ _ (Ne.symm hb)).trans q))
 show wpAny (model prog w) A _ P E {s with heap:=((s.heap.update a (Obj.mapSeq λ_=>#[])).push (seqObj "tuple" vs.toArray 0)).push (seqObj "list" #[] 0)};dsimp only;have hsz:vs.toArray.size=vs.length:=by simp
 have gd:∀(l:List Value),(List.range l.length).map (λi=>l.getD i Value.none)=l:=λl=>by
  apply Zy;intro i;rw[YO]
  by_cases hi:i<l.length
  ·rw[Zu hi,YM hi];simp [hi]
  ·rw[Y0 (by rw[Y6];lia),Y0 ⋯];rfl
 by_cases h2:vs.toArray.size<2
 ·rw[if_pos h2,if_pos h2];refine wpAny_bind (wpAny_pure ?_);rw[StateT.run_pure];refine wpAny_bind (wpAny_pure ?_);dsimp only;refine wpAny_bind (seqEpoch_at NP rfl ?_);refine wpAny_bind (listUpdate_at NP rfl ?_ (hsz2:=by rw[Array.size_map];show(pairsOf vs).size<=_;rw[pairsOf_size,sizeLine_eq];lia));simp only[bne_self_eq_false,Bool.false_eq_true,if_false];have e:(vs.toArray.zip vs.toArray).map (fun(x:Keyed)=>x.2)=((List.range vs.length).map λi=>vs.getD i Value.none).toArray:=by
   rw[gd];apply Array.toList_inj.mp;rw[Array.toList_map];simp [List.map_snd_zip]
  refine wpAny_pure ?_;have:=h (List.range vs.length) (List.Perm.refl _) (h0 ⋯);rw[<-e] at this;exact this
 ·have xu:2<=vs.length:=⋯
  rw[if_neg h2,if_neg h2];refine wpAny_bind (wpAny_mono (pd xu _ (λκ' s'=>κ'=κ/\s'={s with heap:=((s.heap.update a (Obj.mapSeq λ_=>#[])).push (seqObj "tuple" vs.toArray 0)).push (seqObj "list" #[] 0)}) keep ⟨rfl,rfl⟩) ?_ λ_ _ x=>x.elim);rintro κ' s' ⟨rfl,rfl⟩;refine wpAny_bind (wpAny_mono (kat_run (ks:=vs) (vs:=vs) (Q:=λu4 s'=>s'={s with heap:=((s.heap.update a (Obj.mapSeq λ_=>#[])).push (seqObj "tuple" vs.toArray 0)).push (seqObj "list" #[] 0)}/\∃p:Array Nat,p.size=vs.length/\arrOf u4=p.map (kas_item (vs.toArray.zip vs.toArray))/\failedOf u4=none/\Pm vs.length p/\R p.toList)
   (G:=λp s'=>s'={s with heap:=((s.heap.update a (Obj.mapSeq λ_=>#[])).push (seqObj "tuple" vs.toArray 0)).push (seqObj "list" #[] 0)}/\Pm vs.length p/\R p.toList) rfl xu Jj (λp u4 s' a1 a2 a3 a4=>⟨a4.1,p,a1,a2,a3,a4.2⟩) ?_) ?_ λ_ _ e=>e)
  ·exact Bd.wp (lt:=lt) (n:=vs.length) (λi j C hi hj hC=>Cz i j _ C hi hj keep hC) (λp hp=>⟨rfl,hp⟩) (Pq xu)
  rintro⟨⟨⟩,u4⟩ s' ⟨rfl,p,hp,Uj,hf,pm,hR⟩;dsimp only;have FJ:=kat_snds (ks:=vs) (vs:=vs) rfl Uj;rw[FJ];refine wpAny_bind (seqEpoch_at NP rfl ?_);refine wpAny_bind (listUpdate_at NP rfl ?_ (Y1 _) (by rw[YX,YL,ZV,hp,sizeLine_eq];lia));rw[hf];simp only[bne_self_eq_false,Bool.false_eq_true,if_false];exact wpAny_pure (h p.toList (by have:=pm.toList;simpa using this) hR)
theorem tP {R:List Nat->Prop} {l:Addr} {Q:Value->Shared->Prop} (hl:s.heap.IsList l vs.toArray) (Jj:vs.length<64)
  (pd:2<=vs.length->∀h' Q',(∀b o,s.heap.get? b=some o->h'.get? b=some o)->Q' κ {s with heap:=h'}->wpAny (model prog w) A.in1.in1 (keyKind' vs.toArray) Q' (λ_ _=>False) {s with heap:=h'})
  (Cz:∀i j h' C,i<vs.length->j<vs.length->(∀b o,s.heap.get? b=some o->h'.get? b=some o)->C (lt i j) {s with heap:=h'}->kas_ask prog w A.in1.in1 κ vs i j C {s with heap:=h'})
  (Pq:2<=vs.length->Bd lt vs.length (λp=>Pm vs.length p/\R p.toList) (kas_sort vs.length)) (h0:vs.length<2->R (List.range vs.length))
  (h:∀p:List Nat,p.Perm (List.range vs.length)->R p->Q (.ref (s.heap.objs.size+1)) {s with heap:=sortedAll s.heap vs (p.map λi=>vs.getD i Value.none).toArray}):
  wpAny (model prog w) A (call (.builtin "sorted") [.ref l]) Q E s:=by
 refine Calls.call_function_entry kind_sorted plain_sorted entry_sorted (args_sorted1 _) ?_;unfold Builtin.«sorted»;refine wpAny_bind (m:=checkCount "sorted" 1 1 _) (wpAny_pure ?_);refine wpAny_bind (collect_list hl ?_ (by rw[sizeLine_eq];lia));refine wpAny_bind (wpAny_newList ?_ (by rw[sizeLine_eq];lia));have hsz:((s.heap.push (seqObj "list" #[] 0)).update s.heap.objs.size (Obj.mapSeq (·++vs.toArray))).objs.size=s.heap.objs.size+1:=by
  rw[Heap.size_update,size_push']
 have G3:(((s.heap.push (seqObj "list" #[] 0)).update s.heap.objs.size (Obj.mapSeq (·++vs.toArray))).push (seqObj "list" vs.toArray 0)).get? (s.heap.objs.size+1)=some (seqObj "list" vs.toArray 0):=by
  rw[<-hsz];exact aax _ rfl
 have keep:∀b o,s.heap.get? b=some o->b≠s.heap.objs.size+1/\(((s.heap.push (seqObj "list" #[] 0)).update s.heap.objs.size (Obj.mapSeq (·++vs.toArray))).push (seqObj "list" vs.toArray 0)).get? b=some o:=λb o q=>by
  have gG:b<s.heap.objs.size:=aay q;refine⟨YW (Z8 gG),?_⟩;rw[Heap.get?_push_ne _ _ _ (by rw[hsz];exact YW (Z8 gG)),Heap.get?_update_ne _ _ _ _ (YW gG),Heap.get?_push_ne _ _ _ (YW gG)];exact q
 show wpAny _ _ _ _ _ {s with heap:=((s.heap.push (seqObj "list" #[] 0)).update s.heap.objs.size (Obj.mapSeq (·++vs.toArray))).push (seqObj "list" vs.toArray 0)};rw[hsz];refine wpAny_bind (wpAny_holding (wpAny_call_entry slot_list_sort ⟨_,G3,rfl⟩ entry_list_sort (nK (lt:=lt) (κ:=κ) G3 Jj (λh2 h' Q' hk hq=>pd h2 h' Q' (λb o q=>hk b o (keep b o q).1 (keep b o q).2) hq)
  (λi j h' C hi hj hk hC=>Cz i j h' C hi hj (λb o q=>hk b o (keep b o q).1 (keep b o q).2) hC) Pq h0 λp hp hR=>⟨_,rfl,?_⟩) (args_list_sort _)))
 exact wpAny_pure ⟨_,rfl,h p hp hR⟩
theorem vD {l:Addr} {Q:Value->Shared->Prop} (hl:s.heap.IsList l vs.toArray) (Jj:vs.length<64)
  (pd:2<=vs.length->∀h' Q',(∀b o,s.heap.get? b=some o->h'.get? b=some o)->Q' κ {s with heap:=h'}->wpAny (model prog w) A.in1.in1 (keyKind' vs.toArray) Q' (λ_ _=>False) {s with heap:=h'})
  (Cz:∀i j h' C,i<vs.length->j<vs.length->(∀b o,s.heap.get? b=some o->h'.get? b=some o)->C (lt i j) {s with heap:=h'}->kas_ask prog w A.in1.in1 κ vs i j C {s with heap:=h'})
  (h:∀p:List Nat,p.Perm (List.range vs.length)->Q (.ref (s.heap.objs.size+1)) {s with heap:=sortedAll s.heap vs (p.map λi=>vs.getD i Value.none).toArray}):
  wpAny (model prog w) A (call (.builtin "sorted") [.ref l]) Q E s:=
 tP (R:=λ_=>True) hl Jj pd Cz (λh2=>(FR ⋯).mono λ_ hp=>⟨hp,trivial⟩) (λ_=>trivial) λp hp _=>h p hp
abbrev Pt (x y:Int×Int):Bool:=if x.1=y.1 then decide (x.2<y.2) else decide (x.1<y.1)
theorem FT {x y:Addr} {ox oy:Obj} {a b c d:Int} {t1 t2 t3 t4:Tok} {n k:Nat} {C:Bool->Shared->Prop} (hx:s.heap.get? x=some ox) (dx:ox.data=.seq #[.int a t1,.int b t2] n) (hy:s.heap.get? y=some oy) (dy:oy.data=.seq #[.int c t3,.int d t4] k)
  (h:C (Pt (a,b) (c,d)) s):wpAny (model prog w) A (keyLt' (tuples' true) (.ref x) (.ref y)) C E s:=by
 refine kat_lt hx dx hy dy (kat_cons (wpAny_eqBool_int ?_));unfold Pt at h;dsimp only at h
 by_cases e:a=c
 ·rw[if_pos e] at h;subst e;rw[show(a==a)=true by simp];refine kat_yes (kat_cons (wpAny_eqBool_int ?_))
  by_cases e2:b=d
  ·subst e2;rw[show(b==b)=true by simp];refine kat_yes (kat_nil ?_)
   simpa using h
  ·rw[show(b==d)=false by simpa using e2];refine kat_no (kat_one _ _ ?_);exact CmpOf.ints_lt (P:=λi v=>∃t,v=Value.int (if i=0 then b else d) t) (λi=>if i=0 then b else d) (λi v h=>h) 0 1 _ _ s _ _ ⟨t2,rfl⟩ ⟨t4,rfl⟩ h
 ·rw[if_neg e] at h;rw[show(a==c)=false by simpa using e];exact kat_no (oneLt_int h)
end
end KS
namespace L2
open PySem PySem.Spec PyProof.Rows PySem.W
section
variable {X : Cx} {K : aam}
theorem AW {xs:List V} {us:List Value} (r:br xs us) (p:List Nat) (hp:p.Perm (List.range us.length)):∃ys,ys.Perm xs/\br ys (p.map λi=>us.getD i Value.none):=by
 have hl:=r.length;have get:∀i,i<us.length->∃x u,xs[i]?=some x/\us[i]?=some u/\RelV x u:=by
  clear hp hl
  induction r with
  | nil=>intro i hi;simp at hi
  | cons r1 r2 ih=>
   intro i hi;cases i with
   | zero=>exact⟨_,_,rfl,rfl,r1⟩
   | succ i=>
    obtain⟨x,u,a1,a2,a3⟩:=ih i (by simpa using hi);exact⟨x,u,by simpa using a1,by simpa using a2,a3⟩
 refine⟨p.map λi=>xs.getD i .cJ,?_,?_⟩
 ·refine(hp.map _).trans ?_;rw[<-hl];have:(List.range xs.length).map (λi=>xs.getD i V.cJ)=xs:=by
   apply Zy;intro i;rw[YO]
   by_cases hi:i<xs.length
   ·rw[Zu hi,YM hi];simp [hi]
   ·rw[Y0 (by rw[Y6];lia),Y0 ⋯];rfl
  rw[this]
 ·have hb:∀i∈p,i<us.length:=λi hi=>List.mem_range.mp (hp.mem_iff.mp hi);clear hp
  induction p with
  | nil=>exact .nil
  | cons i p ih=>
   obtain⟨x,u,a1,a2,a3⟩:=get i (hb i YT);refine .cons ?_ (ih λj hj=>hb j (YU _ hj));show RelV (xs.getD i V.cJ) (us.getD i Value.none);rw[YN,YN,a1,a2];exact a3
abbrev CA (H:Hp) (xs:List V):Prop:=∀x∈xs,∃t a b,x=.ref t/\H t=some (.tup [.int a,.int b])
theorem qP:c7 X (.builtin "sorted") (λxs H Q=>∃p ys,xs=[.ref p]/\aS X.K H p ys/\ys.length<64/\CA H ys/\∀l zs,H l=none->zs.Perm ys->Q (.ref l) (upd H l (.lst zs))):=by
 intro pins s σ H xs us Q I r h;obtain⟨p,ys,rfl,hq,hn,hP,q⟩:=h;obtain⟨u,rfl,rx⟩:=vals1 r;cases rx;obtain⟨aW,rv,pl,hz⟩:=I.list hq;have hl:=rv.length;have each:∀v∈aW,∃t o a b t1 t2 n,v=.ref t/\s.heap.get? t=some o/\o.cls=.type "tuple"/\o.data=.seq #[.int a t1,.int b t2] n:=by
  clear hq hl q pl hz hn
  induction rv with
  | nil=>intro v hv;simp at hv
  | cons r1 r2 ih=>
   intro v hv;rcases ZT.mp hv with rfl | hv
   ·obtain⟨t,a,b,rfl,ht⟩:=hP _ YT;cases r1;obtain⟨XZ,v2,tp,_⟩:=I.tuple (fV.of ht);obtain⟨o,ho,hc,n,hd⟩:=tp;cases v2 with
    | cons q1 q2=>
     cases q2 with
     | cons q3 q4=>
      cases q4;obtain⟨t1,rfl⟩:=q1;obtain⟨t2,rfl⟩:=q3;exact⟨t,o,a,b,t1,t2,n,rfl,ho,hc,by simpa using hd⟩
   ·exact ih (λx hx=>hP x (YU _ hx)) v hv
 have L6:∀i:Nat,∃pr:Int×Int,∀v,aW[i]?=some v->∃t o t1 t2 n,v=.ref t/\s.heap.get? t=some o/\o.cls=.type "tuple"/\o.data=.seq #[.int pr.1 t1,.int pr.2 t2] n:=λi=>by
  cases hi:aW[i]? with
  | none=>exact⟨(0,0),λv hv=>by cases hv⟩
  | some v=>
   obtain⟨t,o,a,b,t1,t2,n,e1,e2,e3,e4⟩:=each v (YQ hi);exact⟨(a,b),λv' hv=>by cases hv;exact⟨t,o,t1,t2,n,e1,e2,e3,e4⟩⟩
 obtain⟨f,hf⟩:=Classical.skolem.mp L6;refine KS.vD (lt:=λi j=>KS.Pt (f i) (f j)) (κ:=tuples' true) pl.isList ⋯ (λh2 h' Q' hk hq=>?_) (λi j h' C hi hj hk hC=>?_) λp hp=>?_
 ·have nF:∀(l:List Value),(∀v∈l,v∈aW)->∃fs,KatTups h' l fs/\fs.length=l.length/\∀v∈fs,∃a t,v=Value.int a t:=by
   intro l
   induction l with
   | nil=>intro _;exact⟨[],trivial,rfl,λv hv=>by simp at hv⟩
   | cons v l ih=>
    intro hm;obtain⟨fs,k1,k2,k3⟩:=ih λx hx=>hm x (YU _ hx);obtain⟨t,o,a,b,t1,t2,n,rfl,e2,e3,e4⟩:=each v (hm v YT);refine⟨.int a t1::fs,KatTups.cons (hk _ _ e2) e3 e4 rfl k1,by simp [k2],λx hx=>?_⟩;rcases ZT.mp hx with rfl | hx
    ·exact⟨a,t1,rfl⟩
    ·exact k3 x hx
  obtain⟨fs,k1,k2,k3⟩:=nF aW λv hv=>hv;exact kat_kind (T:=.type "int") (s:={s with heap:=h'}) k1 ⋯ (λv hv=>by obtain⟨a,t,rfl⟩:=k3 v hv;exact .now) ∅ hq
 ·obtain⟨t,o,t1,t2,n,e1,e2,e3,e4⟩:=hf i _ (YM hi);obtain⟨t',o',t3,t4,n',zq,Pu,X0,Uk⟩:=hf j _ (YM hj);unfold kas_ask;rw[YN,YN,YM hi,YM hj,e1,zq];exact KS.FT (s:={s with heap:=h'}) (hk _ _ e2) e4 (hk _ _ Pu) Uk hC
 ·obtain⟨zs,pz,vz⟩:=AW rv p hp;obtain⟨e,he⟩:=sortedAll_at s.heap aW (p.map λi=>aW.getD i Value.none).toArray;have fr:=I.cw.fresh (a:=s.heap.objs.size+1) (Nat.le_succ _);refine⟨.ref (s.heap.objs.size+1),_,I.laid (t':=s.toks) (λ_ _=>sortedAll_old) (Nat.le_succ _) (o:=.lst zs) ⟨?_,_,e,vz,?_⟩,rfl,q _ _ fr pz⟩
  ·rw[pz.length_eq,sizeLine_eq];lia
  ·exact he
theorem pQ (hK:X.K=K:=by rfl):c7 X (.builtin "sorted") (λxs H Q=>∃p ys,xs=[.ref p]/\aS K H p ys/\ys.length<64/\CA H ys/\∀l zs,H l=none->zs.Perm ys->Q (.ref l) (upd H l (.lst zs))):=by subst hK;exact qP
end
end L2
namespace Lv
open L2
theorem Jk {fs:Fs} {k:Nat} {u:Int}:lk fs (k:Int)=some u↔fs[k]?=some (some u):=by
 rw[rV,YS]
abbrev nm (s:List Nat) (g:Int):Int:=((s.getD g.toNat 0:Nat):Int)
abbrev Ul (s:List Nat):Pl->Pl
 | .fin w=>.fin w
 | .d6 w ws=>.d6 w (ws.map λp=>(p.1,nm s p.2))
 | .cA w to=>.cA w (to.map (nm s))
abbrev turn (s:List Nat) (b:List Pl):List Pl:=(List.range b.length).map λj=>Ul s (b.getD (s.idxOf j) (.fin (0,1)))
section
variable {s : List Nat} {n : Nat} (p : s.Perm (List.range n))
include p
theorem CB:s.Nodup:=p.nodup_iff.mpr List.nodup_range
theorem CC {i i' j:Nat} (h:s[i]?=some j) (h':s[i']?=some j):i=i':=by
 have l1:=(aat.mp h).1;exact(List.getElem?_inj l1 (CB p)).mp (h.trans h'.symm)
theorem tQ {i j:Nat} (h:s[i]?=some j):s.idxOf j=i:=by
 have hm:j∈s:=YQ h;have hl:s.idxOf j<s.length:=List.idxOf_lt_length_iff.mpr hm;have:s[s.idxOf j]?=some j:=by rw[YM hl,ZJ]
 exact CC p this h
end
end Lv
namespace PySem
open Builtin Builtin.Str
section
variable {prog : Program} {w : World} {A : Around} {E : Value -> Shared -> Prop} {s : Shared} {x y : Str} {t u : Tok} {Q : Value -> Shared -> Prop}
end
end PySem
namespace L2
open PySem PySem.Spec PyProof.Rows PySem.W
section
variable {X : Cx} {K : aam}
abbrev Um (z:Str):It:=⟨λi _=>i<z.cps.size,λi H x H'=>H'=H/\∃c,z.cps[i]?=some c/\x=.str ⟨#[c]⟩,λi _=>z.cps.size<=i⟩
abbrev iStr (tl:TE):TI:=λσ H R=>tl σ H λx H1=>∃z,x=.str z/\z.cps.all (·<128)=true/\R (Um z) H1
theorem vE {x:Str} {i:Int} {pos:Pos} (hg:Gl X x) (h:∃t,X.mg x=some (.int i t)) (hd:(x==("__debug__":Str))=false:=by decide):PE X (.Name x pos) (tC (.int i)):=by
 obtain⟨t,h⟩:=h;exact Fg hg h ⟨t,rfl⟩ hd
end
end L2
namespace PySem
end PySem
namespace PySem
section
variable {M : Model} {A : Around} {E : Value -> Shared -> Prop} {s : Shared} {env : Env}
end
end PySem
namespace L2
open PySem PySem.Spec PyProof.Rows PySem.W
section
variable {M : Model} {A : Around} {E : Value -> Shared -> Prop} {s : Shared} {B : Heap} {l : List Env} {ad L : Addr} {cls a0 : Value}
end
section
variable {P : Program} {w : World} {K : aam} {mg : Str -> Option Value} {base : Heap} {N : List Str} {qual : Str} {scope : Scope} {f : Addr} {cP : Value} {A : Around} {outer : List Env} {s0 : Shared} {H0 : Hp} {E : XK}
end
end L2
namespace L2
open PySem PySem.Spec PyProof.Rows PySem.W
section
variable {X : Cx}
abbrev L7:V->List V->Hp->VK->Prop:=λx vs H Q=>∃l xs i y,x=.ref l/\vs=[.int i,y]/\H l=some (.lst xs)/\0<=i/\i<=(xs.length:Nat)/\xs.length<sizeLine/\Q .cJ (upd H l (.lst (xs.take i.toNat++y::xs.drop i.toNat)))
theorem AX:LF X "list.insert" L7:=by
 intro pins s σ H x vs v us Q I rx rv h;obtain⟨l,xs,i,y,rfl,rfl,hH,h0,h1,hz,q⟩:=h;cases rx;obtain⟨u1,u2,rfl,⟨t,rfl⟩,ru⟩:=vals2 rv;obtain⟨z,aW,n,r,hl,e⟩:=I.B4 hH;have sl:=sizeLine_eq;refine call_meets PySem.F.slot_list_insert ⟨_,e,rfl⟩ PySem.F.entry_list_insert (PySem.F.args_list_insert_3 _ _ _) (AutoSeq1.list_insert_list_int_val_1 l aW.toArray n i t u2 (by rw[fitsIndex_both ⋯ ⋯];decide) (by rw[YX];lia)) ⟨e,?_⟩;have k2:(if i<0 then (i+ (aW.toArray.size:Int)).toNat else min i.toNat aW.toArray.size)=i.toNat:=by
  rw[if_neg ⋯,YX];lia
 refine⟨.cJ,_,I.LG (its':=aW.take i.toNat++u2::aW.drop i.toNat) hH e ?_ ?_ ?_,rfl,q⟩
 ·show(aW.toArray.extract 0 (if i<0 then (i+ (aW.toArray.size:Int)).toNat else min i.toNat aW.toArray.size)).push u2++aW.toArray.extract (if i<0 then (i+ (aW.toArray.size:Int)).toNat else min i.toNat aW.toArray.size)=_;rw[k2];apply Array.toList_inj.mp;simp [Zg]
 ·exact(r.take _).append (.cons ru (r.drop _))
 ·simp;lia
end
end L2
namespace L2
open PySem PySem.Spec PyProof.Rows PySem.W
@[inline]abbrev eA (h:Heap) (T:Addr) (a b c:Value):Prop:=h.get? T=some {cls:=.type "tuple",data:=.seq #[a,b,c]}
structure L8 (z TI TO i1 i2 i3 a b c:Addr):Prop where
 TIz:TI≠z
 TOz:TO≠z
 i1z:i1≠z
 i2z:i2≠z
 NQ:i3≠z
 TITO:TI≠TO
 Uo:TI≠i1
 Up:TI≠i2
 Uq:TI≠i3
 NR:TO≠i1
 NS:TO≠i2
 NT:TO≠i3
 i12:i1≠i2
 RM:i1≠i3
 RN:i2≠i3
 az:a≠z
 bz:b≠z
 cz:c≠z
 Ur:b≠TO
 RO:c≠TO
 b1:b≠i1
 c1:c≠i1
 c2:c≠i2
section
variable {prog : Program} {w : World} {A : Around} {E : Value -> Shared -> Prop} {s : Shared}
theorem tR {T:Addr} {a b c x:Value} {k:Nat} {Q:Unit->Shared->Prop} (hT:eA s.heap T a b c)
  (h:∀h',h'.get? T=some {cls:=.type "tuple",data:=.seq ((#[a,b,c]:Array Value).setIfInBounds k x)}->Heap.SameBut T s.heap h'->Q () {s with heap:=h'}):
  wpAny (model prog w) A (updateSeq T (·.setIfInBounds k x)) Q E s:=by
 refine wpAny_updateSeq hT rfl (h _ ?_ (Heap.SameBut.update ..));rw[Heap.get?_update_self _ hT rfl];simp [Obj.mapSeq]
theorem AY {z TI TO i1 i2 i3 la lb lc:Addr} {k:Nat} {xs ys zs:Array Value} {x y u p q r:Value} {Q:Value->Shared->Prop} (D:L8 z TI TO i1 i2 i3 la lb lc)
  (hz:IsZip s.heap z TI TO .none) (hI:eA s.heap TI (.ref i1) (.ref i2) (.ref i3)) (hO:eA s.heap TO p q r)
  (h1:s.heap.IsListIter i1 la k) (h2:s.heap.IsListIter i2 lb k) (h3:s.heap.IsListIter i3 lc k) (zt:s.heap.IsList la xs) (vd:s.heap.IsList lb ys) (CD:s.heap.IsList lc zs)
  (hx:xs[k]?=some x) (hy:ys[k]?=some y) (hu:zs[k]?=some u)
  (hQ:∀h',IsZip h' z TI TO (rawInt s.heap.objs.size)->eA h' TO x y u->h'.IsListIter i1 la (k+1)->h'.IsListIter i2 lb (k+1)->h'.IsListIter i3 lc (k+1)->eA h' s.heap.objs.size x y u->
   (∀c o,c≠z->c≠TO->c≠i1->c≠i2->c≠i3->s.heap.get? c=some o->h'.get? c=some o)->Q (.ref s.heap.objs.size) {s with heap:=h'}):
  wpAny (model prog w) A (Builtin.«zip.__next__» ⟨[.ref z],[]⟩) (λfin s'=>∃v,fin=.done (.ret v)/\Q v s') E s:=by
 show wpAny _ _ (field (.ref z) 2 >>=_) _ _ _;refine wpAny_bind (wpAny_field hz rfl (x:=.bool false) rfl ?_);show wpAny _ _ (field (.ref z) 3 >>=_) _ _ _;refine wpAny_bind (wpAny_field hz rfl (x:=.ref TI) rfl (wpAny_bind (wpAny_seqItems hI rfl ?_)));show wpAny _ _ (Builtin.SmallTypes.ownedTupleIsFree (.ref z) >>=_) _ _ _;refine wpAny_bind ?_;unfold Builtin.SmallTypes.ownedTupleIsFree;refine wpAny_bind (wpAny_field hz rfl (x:=.none) rfl (wpAny_pure ?_));simp only[if_true];refine wpAny_bind (wpAny_rule (wpAny_bind (wpAny_field hz rfl (x:=.ref TO) rfl (wpAny_bind (wpAny_setField_rec hz (by simp) λg1 z1 s1=>?_)))))
 replace z1:IsZip g1 z TI TO .ellipsis:=z1
 have O1:=s1.extBut _ _ D.TOz hO;have a1:=h1.extBut s1.extBut D.i1z;have a2:=h2.extBut s1.extBut D.i2z;have a3:=h3.extBut s1.extBut D.NQ;have b1:=zt.extBut s1.extBut D.az;have b2:=vd.extBut s1.extBut D.bz;have b3:=CD.extBut s1.extBut D.cz;refine wpAny_bind ?_;simp only[List.zipIdx_cons,List.zipIdx_nil,List.forIn_cons,List.forIn_nil];refine wpAny_bind (wpAny_bind (wpAny_onRaise ?_));show wpAny _ _ (Builtin.SmallTypes.nextOf (.ref i1) >>=_) _ _ _;refine wpAny_bind (wpAny_nextOf_list_item a1 b1 hx λg2 n1 s2=>wpAny_pure ?_);have O2:=s2.extBut _ _ D.NR O1;refine wpAny_bind (wpAny_seqItems O2 rfl (wpAny_bind (tR O2 λg3 O3 s3=>wpAny_bind (wpAny_letGo (wpAny_pure ?_)))))
 replace O3:eA g3 TO x q r:=O3
 refine wpAny_bind (wpAny_bind (wpAny_onRaise ?_));show wpAny _ _ (Builtin.SmallTypes.nextOf (.ref i2) >>=_) _ _ _;refine wpAny_bind (wpAny_nextOf_list_item ((a2.extBut s2.extBut D.i12.symm).extBut s3.extBut D.NS.symm) ((b2.extBut s2.extBut D.b1).extBut s3.extBut D.Ur) hy λg4 n2 s4=>wpAny_pure ?_);have O4:=s4.extBut _ _ D.NS O3;refine wpAny_bind (wpAny_seqItems O4 rfl (wpAny_bind (tR O4 λg5 O5 s5=>wpAny_bind (wpAny_letGo (wpAny_pure ?_)))))
 replace O5:eA g5 TO x y r:=O5
 refine wpAny_bind (wpAny_bind (wpAny_onRaise ?_));show wpAny _ _ (Builtin.SmallTypes.nextOf (.ref i3) >>=_) _ _ _;refine wpAny_bind (wpAny_nextOf_list_item ((((a3.extBut s2.extBut D.RM.symm).extBut s3.extBut D.NT.symm).extBut s4.extBut D.RN.symm).extBut s5.extBut D.NT.symm)
  ((((b3.extBut s2.extBut D.c1).extBut s3.extBut D.RO).extBut s4.extBut D.c2).extBut s5.extBut D.RO) hu λg6 n3 s6=>wpAny_pure ?_)
 have O6:=s6.extBut _ _ D.NT O5;refine wpAny_bind (wpAny_seqItems O6 rfl (wpAny_bind (tR O6 λg7 O7 s7=>wpAny_bind (wpAny_letGo (wpAny_pure (wpAny_pure ?_))))))
 replace O7:eA g7 TO x y u:=O7
 refine wpAny_bind (wpAny_seqItems O7 rfl (wpAny_bind (wpAny_newTuple ?_)));have sz:g7.objs.size=s.heap.objs.size:=by rw[s7.1,s6.1,s5.1,s4.1,s3.1,s2.1,s1.1]
 have z7:IsZip g7 z TI TO .ellipsis:=s7.extBut _ _ D.TOz.symm (s6.extBut _ _ D.NQ.symm (s5.extBut _ _ D.TOz.symm (s4.extBut _ _ D.i2z.symm (s3.extBut _ _ D.TOz.symm (s2.extBut _ _ D.i1z.symm z1)))));have k7:∀c o,c≠z->c≠TO->c≠i1->c≠i2->c≠i3->s.heap.get? c=some o->g7.get? c=some o:=λc o c1 c2 c3 c4 c5 e=>
  s7.extBut _ _ c2 (s6.extBut _ _ c5 (s5.extBut _ _ c2 (s4.extBut _ _ c4 (s3.extBut _ _ c2 (s2.extBut _ _ c3 (s1.extBut _ _ c1 e))))))
 have m1:=((((n1.extBut s3.extBut D.NR.symm).extBut s4.extBut D.i12).extBut s5.extBut D.NR.symm).extBut s6.extBut D.RM).extBut s7.extBut D.NR.symm;have m2:=((n2.extBut s5.extBut D.NS.symm).extBut s6.extBut D.RN).extBut s7.extBut D.NS.symm;have m3:=n3.extBut s7.extBut D.NT.symm;have zl:z<g7.objs.size:=aay z7;show wpAny _ _ (Builtin.SmallTypes.ownedTupleHandOut (.ref z) (.ref g7.objs.size) >>=_) _ _ _;refine wpAny_bind ?_;unfold Builtin.SmallTypes.ownedTupleHandOut;have z8:IsZip (g7.push {cls:=.type "tuple",data:=.seq #[x,y,u]}) z TI TO .ellipsis:=aaw _ z7;refine wpAny_bind (wpAny_setField_rec z8 (by simp) λg9 z9 s9=>?_)
 replace z9:IsZip g9 z TI TO (rawInt g7.objs.size):=z9
 refine wpAny_setField_rec z9 (by simp) λNU jJ Jl=>?_
 replace jJ:IsZip NU z TI TO (rawInt g7.objs.size):=jJ
 have up:∀c o,c≠z->g7.get? c=some o->NU.get? c=some o:=λc o c1 e=>Jl.extBut _ _ c1 (s9.extBut _ _ c1 (aaw _ e));have RP:eA NU g7.objs.size x y u:=Jl.extBut _ _ (ZC zl) (s9.extBut _ _ (ZC zl) (aax _ rfl));rw[sz] at jJ RP;refine wpAny_pure ⟨_,rfl,?_⟩;show Q (.ref g7.objs.size) _;rw[sz];exact hQ NU jJ (up _ _ D.TOz O7) (m1.at λo e=>up _ o D.i1z e) (m2.at λo e=>up _ o D.i2z e) (m3.at λo e=>up _ o D.NQ e) RP λc o c1 c2 c3 c4 c5 e=>up c o c1 (k7 c o c1 c2 c3 c4 c5 e)
theorem CF {z TI TO i1 i2 i3 la lb lc:Addr} {k:Nat} {xs:Array Value} {Q:Fin->Shared->Prop} (hh:A.handled=none) (D:L8 z TI TO i1 i2 i3 la lb lc)
  (hz:IsZip s.heap z TI TO .none) (hI:eA s.heap TI (.ref i1) (.ref i2) (.ref i3))
  (h1:s.heap.IsListIter i1 la k) (zt:s.heap.IsList la xs) (hx:xs[k]?=none)
  (hE:∀h' e,(∀c o,c≠z->c≠i1->s.heap.get? c=some o->h'.get? c=some o)->(∃o,h'.get? e=some o/\o.cls=.type "StopIteration")->E (.ref e) {s with heap:=h'}):
  wpAny (model prog w) A (Builtin.«zip.__next__» ⟨[.ref z],[]⟩) Q E s:=by
 show wpAny _ _ (field (.ref z) 2 >>=_) _ _ _;refine wpAny_bind (wpAny_field hz rfl (x:=.bool false) rfl ?_);show wpAny _ _ (field (.ref z) 3 >>=_) _ _ _;refine wpAny_bind (wpAny_field hz rfl (x:=.ref TI) rfl (wpAny_bind (wpAny_seqItems hI rfl ?_)));show wpAny _ _ (Builtin.SmallTypes.ownedTupleIsFree (.ref z) >>=_) _ _ _;refine wpAny_bind ?_;unfold Builtin.SmallTypes.ownedTupleIsFree;refine wpAny_bind (wpAny_field hz rfl (x:=.none) rfl (wpAny_pure ?_));simp only[if_true];refine wpAny_bind (wpAny_rule (wpAny_bind (wpAny_field hz rfl (x:=.ref TO) rfl (wpAny_bind (wpAny_setField_rec hz (by simp) λg1 z1 s1=>?_)))))
 replace z1:IsZip g1 z TI TO .ellipsis:=z1
 refine wpAny_bind ?_;simp only[List.zipIdx_cons,List.zipIdx_nil,List.forIn_cons,List.forIn_nil];refine wpAny_bind (wpAny_bind (wpAny_onRaise ?_));show wpAny _ _ (Builtin.SmallTypes.nextOf (.ref i1) >>=_) _ _ _;refine wpAny_bind (wpAny_nextOf_list_end hh (h1.extBut s1.extBut D.i1z) (zt.extBut s1.extBut D.az) hx λg2 e s2 he=>?_);obtain⟨oe,Pw,RQ⟩:=he;have z2:IsZip g2 z TI TO .ellipsis:=s2 _ _ D.i1z.symm z1;have ez:e≠z:=λx=>by subst x;rw[z2] at Pw;cases Pw;simp at RQ
 exact wpAny_setField_rec z2 (by simp) λg3 _ s3=>hE g3 e (λc o c1 c3 x=>s3.extBut _ _ c1 (s2 _ _ c3 (s1.extBut _ _ c1 x))) ⟨oe,s3.extBut _ _ ez Pw,RQ⟩
end
@[inline]abbrev NV (h:Heap) (la:Addr):Heap:=h.push {cls:=.type "list_iterator",data:=.fields #[.ref la,.int 0 0]}
@[inline]abbrev NW (h:Heap) (la lb:Addr):Heap:=(NV h la).push {cls:=.type "list_iterator",data:=.fields #[.ref lb,.int 0 0]}
@[inline]abbrev NX (h:Heap) (la lb lc:Addr):Heap:=(NW h la lb).push {cls:=.type "list_iterator",data:=.fields #[.ref lc,.int 0 0]}
@[inline]abbrev NY (h:Heap) (la lb lc:Addr):Heap:=(NX h la lb lc).push {cls:=.type "tuple",data:=.seq #[.ref h.objs.size,.ref (NV h la).objs.size,.ref (NW h la lb).objs.size]}
@[inline]abbrev NZ (h:Heap) (la lb lc:Addr):Heap:=(NY h la lb lc).push {cls:=.type "tuple",data:=.seq #[.none,.none,.none]}
@[inline]abbrev Jm (h:Heap) (la lb lc:Addr):Heap:=(NZ h la lb lc).push {cls:=.type "zip",data:=.fields #[.none,.bool false,.bool false,.ref (NX h la lb lc).objs.size,.ref (NY h la lb lc).objs.size]}
set_option maxHeartbeats 2000000 in
theorem CG (la lb lc:Addr) (xs ys zs:Array Value):
  Meets (Builtin.«zip.__new__» ⟨[.type "zip",.ref la,.ref lb,.ref lc],[]⟩) (λ_ R s=>s.heap.IsList la xs/\s.heap.IsList lb ys/\s.heap.IsList lc zs/\
   R (.ok (.ret (.ref (NZ s.heap la lb lc).objs.size))) {s with heap:=Jm s.heap la lb lc}):=
 .of_wp λprog w A R s h=>by
  obtain⟨hp,g,d,tk,os⟩:=s;obtain⟨zt,vd,CD,h⟩:=h;have Us:=sub_zip;have Ut:Heap.IsList (Shared.heap ⟨hp,g,d,tk,os⟩) la xs:=zt;have Uu:Heap.IsList (Shared.heap ⟨hp.push {cls:=.type "list_iterator",data:=.fields #[.ref la,.int 0 0]},g,d,tk,os⟩) lb ys:=Heap.IsList.push vd _;have Uv:Heap.IsList (Shared.heap ⟨(hp.push {cls:=.type "list_iterator",data:=.fields #[.ref la,.int 0 0]}).push {cls:=.type "list_iterator",data:=.fields #[.ref lb,.int 0 0]},g,d,tk,os⟩) lc zs:=Heap.IsList.push (Heap.IsList.push CD _) _
  wp_walk using wpAny_pyIter_list Ut,wpAny_pyIter_list Uu,wpAny_pyIter_list Uv
  exact⟨_,rfl,h⟩
theorem FU (a b c:Value):checkTypeCall "zip" ⟨[a,b,c],[]⟩=pure ():=by kernel_rfl
theorem FV (a b c:Value):checkBuiltinCall "zip.__new__" ⟨[.type "zip",a,b,c],[]⟩=pure ():=by kernel_rfl
theorem FW (a b c d:Value):argsOk "object.__init__" ⟨[a,b,c,d],[]⟩:=by
 unfold argsOk;rw[signature?_of (id:="object.__init__") (n:=['_','_','t','i','n','i','_','_']) (o:=['t','c','e','j','b','o']) (by kernel_rfl) F.owner_object];kernel_rfl
section
variable {prog : Program} {w : World} {A : Around} {E : Value -> Shared -> Prop} {s : Shared}
theorem AZ {la lb lc:Addr} {xs ys zs:Array Value} {Q:Value->Shared->Prop} (zt:s.heap.IsList la xs) (vd:s.heap.IsList lb ys) (CD:s.heap.IsList lc zs)
  (h:∀h' n,n=s.heap.objs.size->IsZip h' (n+5) (n+3) (n+4) .none->eA h' (n+3) (.ref n) (.ref (n+1)) (.ref (n+2))->
   eA h' (n+4) .none .none .none->h'.IsListIter n la 0->h'.IsListIter (n+1) lb 0->h'.IsListIter (n+2) lc 0->
   (∀c o,s.heap.get? c=some o->h'.get? c=some o)->Q (.ref (n+5)) {s with heap:=h'}):
  wpAny (model prog w) A (call (.type "zip") [.ref la,.ref lb,.ref lc]) Q E s:=by
 refine callType_new F.called_zip ∅ (FU _ _ _) (FV _ _ _) (λobj=>FW obj _ _ _) F.entry_zip_new (CG la lb lc xs ys zs) ⟨zt,vd,CD,?_⟩;have e1:(NV s.heap la).objs.size=s.heap.objs.size+1:=Heap.size_push ..;have e2:(NW s.heap la lb).objs.size=s.heap.objs.size+2:=by rw[Heap.size_push,e1]
 have e3:(NX s.heap la lb lc).objs.size=s.heap.objs.size+3:=by rw[Heap.size_push,e2]
 have e4:(NY s.heap la lb lc).objs.size=s.heap.objs.size+4:=by rw[Heap.size_push,e3]
 have e5:(NZ s.heap la lb lc).objs.size=s.heap.objs.size+5:=by rw[Heap.size_push,e4]
 have f6:(Jm s.heap la lb lc).get? (NZ s.heap la lb lc).objs.size=some _:=aax _ rfl;have f5:(Jm s.heap la lb lc).get? (NY s.heap la lb lc).objs.size=some _:=aaw _ (aax _ rfl);have f4:(Jm s.heap la lb lc).get? (NX s.heap la lb lc).objs.size=some _:=aaw _ (aaw _ (aax _ rfl));have f3:(Jm s.heap la lb lc).get? (NW s.heap la lb).objs.size=some _:=aaw _ (aaw _ (aaw _ (aax _ rfl)));have f2:(Jm s.heap la lb lc).get? (NV s.heap la).objs.size=some _:=aaw _ (aaw _ (aaw _ (aaw _ (aax _ rfl))));have f1:(Jm s.heap la lb lc).get? s.heap.objs.size=some _:=aaw _ (aaw _ (aaw _ (aaw _ (aaw _ (aax _ rfl)))));show _/\_;rw[e3,e4,e5] at f6;rw[e4] at f5;rw[e1,e2,e3] at f4;rw[e2] at f3;rw[e1] at f2;rw[e5];exact⟨⟨_,f6,rfl⟩,h _ _ rfl f6 f4 f5 ⟨_,f1,rfl,rfl⟩ ⟨_,f2,rfl,rfl⟩ ⟨_,f3,rfl,rfl⟩ λc o x=>
  aaw _ (aaw _ (aaw _ (aaw _ (aaw _ (aaw _ x)))))⟩
theorem A2 {z TI TO i1 i2 i3 la lb lc:Addr} {k:Nat} {xs ys zs:Array Value} {x y u p q r:Value} {Q:Option Value->Shared->Prop} (D:L8 z TI TO i1 i2 i3 la lb lc)
  (hz:IsZip s.heap z TI TO .none) (hI:eA s.heap TI (.ref i1) (.ref i2) (.ref i3)) (hO:eA s.heap TO p q r)
  (h1:s.heap.IsListIter i1 la k) (h2:s.heap.IsListIter i2 lb k) (h3:s.heap.IsListIter i3 lc k) (zt:s.heap.IsList la xs) (vd:s.heap.IsList lb ys) (CD:s.heap.IsList lc zs)
  (hx:xs[k]?=some x) (hy:ys[k]?=some y) (hu:zs[k]?=some u)
  (hQ:∀h',IsZip h' z TI TO (rawInt s.heap.objs.size)->eA h' TO x y u->h'.IsListIter i1 la (k+1)->h'.IsListIter i2 lb (k+1)->h'.IsListIter i3 lc (k+1)->eA h' s.heap.objs.size x y u->
   (∀c o,c≠z->c≠TO->c≠i1->c≠i2->c≠i3->s.heap.get? c=some o->h'.get? c=some o)->Q (some (.ref s.heap.objs.size)) {s with heap:=h'}):
  wpAny (model prog w) A (pyNext (.ref z)) Q E s:=by
 have hT:s.TypeIs (.ref z) "zip":=⟨_,hz,rfl⟩
 unfold pyNext;exact wpAny_bind (wpAny_attempt (wpAny_callSpecial?_slot (name:=YK "__next__") hT F.slot_zip_next
  (wpAny_call_entry F.slot_zip_next hT F.entry_zip_next
   (AY D hz hI hO h1 h2 h3 zt vd CD hx hy hu λh' a1 a2 a3 a4 a5 a6 a7=>wpAny_pure (hQ h' a1 a2 a3 a4 a5 a6 a7)) (F.args_zip_next_1 _))))
theorem qQ {z TI TO i1 i2 i3 la lb lc:Addr} {k:Nat} {xs:Array Value} {Q:Option Value->Shared->Prop} (hh:A.handled=none) (D:L8 z TI TO i1 i2 i3 la lb lc)
  (hz:IsZip s.heap z TI TO .none) (hI:eA s.heap TI (.ref i1) (.ref i2) (.ref i3)) (h1:s.heap.IsListIter i1 la k) (zt:s.heap.IsList la xs) (hx:xs[k]?=none)
  (hQ:∀h',(∀c o,c≠z->c≠i1->s.heap.get? c=some o->h'.get? c=some o)->Q none {s with heap:=h'}):wpAny (model prog w) A (pyNext (.ref z)) Q E s:=by
 have hT:s.TypeIs (.ref z) "zip":=⟨_,hz,rfl⟩
 unfold pyNext;refine wpAny_bind (wpAny_attempt (wpAny_callSpecial?_slot (name:=YK "__next__") hT F.slot_zip_next
  (wpAny_call_entry F.slot_zip_next hT F.entry_zip_next (CF hh D hz hI h1 zt hx λh' e hk he=>?_) (F.args_zip_next_1 _))))
 obtain⟨o,ho,hc⟩:=he;exact wpAny_bind (wpAny_isInstance (T:="StopIteration") (b:=true) ⟨o,ho,hc⟩ isSubtype_stop (wpAny_pure (hQ _ hk)))
end
abbrev Px (K:aam) (a b c:Addr):It:=
 ⟨λi H=>∃xs ys zs x y z,aS K H a xs/\aS K H b ys/\aS K H c zs/\xs[i]?=some x/\ys[i]?=some y/\zs[i]?=some z,
  λi H v H'=>∃p,H p=none/\v=.ref p/\∃x y z,(∀xs,aS K H a xs->xs[i]?=some x)/\(∀ys,aS K H b ys->ys[i]?=some y)/\(∀zs,aS K H c zs->zs[i]?=some z)/\H'=upd H p (.tup [x,y,z]),
  λi H=>∃xs,aS K H a xs/\xs.length=i⟩
theorem A3 {P:Program} {w:World} {K:aam} {elts:List Expr} {k:Nat} {pos:Pos} (z TI TO i1 i2 i3 a b c:Addr) (D:L8 z TI TO i1 i2 i3 a b c):
  Turn P w K (.Tuple elts k pos) (Px K a b c) [z,TI,TO,i1,i2,i3] z (λi h=>IsZip h z TI TO .none/\eA h TI (.ref i1) (.ref i2) (.ref i3)/\(∃x y u,eA h TO x y u)/\h.IsListIter i1 a i/\h.IsListIter i2 b i/\h.IsListIter i3 c i) where
 mem:=by simp
 obj:=λi h st c hc=>by
  obtain⟨hz,uQ,⟨x,y,u,xt⟩,⟨o1,e1,_,d1⟩,⟨o2,e2,_,d2⟩,⟨o3,e3,_,d3⟩⟩:=st;simp only[ZT,ZX,or_false] at hc;rcases hc with rfl | rfl | rfl | rfl | rfl | rfl
  ·exact⟨_,hz,λv q=>by cases q⟩
  ·exact⟨_,uQ,λv q=>by cases q⟩
  ·exact⟨_,xt,λv q=>by cases q⟩
  ·exact⟨_,e1,λv q=>by rw[d1] at q;cases q⟩
  ·exact⟨_,e2,λv q=>by rw[d2] at q;cases q⟩
  ·exact⟨_,e3,λv q=>by rw[d3] at q;cases q⟩
 keep:=λi h h' st kp=>by
  obtain⟨hz,uQ,⟨x,y,u,xt⟩,h1,h2,h3⟩:=st;exact⟨kp z (by simp) _ hz,kp TI (by simp) _ uQ,⟨x,y,u,kp TO (by simp) _ xt⟩,h1.at λo e=>kp i1 (by simp) o e,h2.at λo e=>kp i2 (by simp) o e,h3.at λo e=>kp i3 (by simp) o e⟩
 item:=by
  intro X hP hw hK hc i pins s σ H E I hf st hg;subst hP hw hK;obtain⟨xs,ys,zs,x,y,u,ze,zf,RS,hx,hy,hu⟩:=hg;obtain⟨fW,r1,p1,_⟩:=I.list ze;obtain⟨nH,r2,p2,_⟩:=I.list zf;obtain⟨Py,r3,p3,_⟩:=I.list RS;obtain⟨v1,Uw,Ux⟩:=r1.get hx;obtain⟨v2,Uy,Uz⟩:=r2.get hy;obtain⟨v3,UA,UB⟩:=r3.get hu;obtain⟨hz,uQ,⟨x0,y0,u0,xt⟩,h1,h2,h3⟩:=st;have uR:∀d∈[z,TI,TO,i1,i2,i3],d<s.heap.objs.size:=λd hd=>by
   simp only[ZT,ZX,or_false] at hd;obtain⟨o1,e1,_⟩:=h1;obtain⟨o2,e2,_⟩:=h2;obtain⟨o3,e3,_⟩:=h3;rcases hd with rfl | rfl | rfl | rfl | rfl | rfl
   ·exact aay hz
   ·exact aay uQ
   ·exact aay xt
   ·exact aay e1
   ·exact aay e2
   ·exact aay e3
  refine A2 D hz uQ xt h1 h2 h3 p1.isList p2.isList p3.isList (by simpa using Uw) (by simpa using Uy) (by simpa using UA) λh' zz OO m1 m2 m3 TT kk=>?_;have sub:∀d∈[z,TO,i1,i2,i3],d∈[z,TI,TO,i1,i2,i3]:=λd hd=>by simp at hd ⊢;rcases hd with rfl | rfl | rfl | rfl | rfl <;>simp
  have k1:∀d o,d∉[z,TO,i1,i2,i3]->s.heap.get? d=some o->h'.get? d=some o:=λd o hd e=>kk d o (λq=>hd (by simp [q])) (λq=>hd (by simp [q])) (λq=>hd (by simp [q])) (λq=>hd (by simp [q])) (λq=>hd (by simp [q])) e;have I1:Inv X pins σ H {s with heap:=h'}:=I.moved (t':=s.toks) (ch:=[z,TO,i1,i2,i3]) (λd hd=>hf d (sub d hd)) k1;have fT:iQ X pins H s.heap.objs.size:=I.sW (YR _) (I.cw.fresh (YR _));refine⟨_,rfl,wpAny_letOwnedTupleGo_zip zz λxu UC s2=>?_⟩;have tz:s.heap.objs.size≠z:=ZC (uR z (by simp));have k2:∀d o,d∉[z]->h'.get? d=some o->xu.get? d=some o:=λd o hd e=>s2.extBut _ _ (λq=>hd (by simp [q])) e;have I2:Inv X pins σ H {s with heap:=xu}:=I1.moved (s:={s with heap:=h'}) (t':=s.toks) (ch:=[z]) (λd hd=>hf d (by simp at hd;simp [hd])) k2;have LX:IsTup xu s.heap.objs.size #[v1,v2,v3]:=⟨_,s2.extBut _ _ tz TT,rfl,_,rfl⟩
  have I3:Inv X pins σ (upd H s.heap.objs.size (.tup [x,y,u])) {s with heap:=xu}:=
   I2.take fT I.sz ⟨by show 3<=sizeLine;decide,[v1,v2,v3],.cons Ux (.cons Uz (.cons UB .nil)),LX⟩
  refine⟨.ref s.heap.objs.size,_,I3,rfl,⟨_,fT.1,rfl,x,y,u,λjE q=>?_,λUd q=>?_,λX1 q=>?_,rfl⟩,⟨UC,s2.extBut _ _ D.TIz (kk _ _ D.TIz D.TITO D.Uo D.Up D.Uq uQ),⟨_,_,_,s2.extBut _ _ D.TOz OO⟩,m1.extBut s2.extBut D.i1z,m2.extBut s2.extBut D.i2z,m3.extBut s2.extBut D.NQ⟩,λd hd=>?_⟩
  ·rw[I.eW q ze];exact hx
  ·rw[I.eW q zf];exact hy
  ·rw[I.eW q RS];exact hu
  ·rw[aK (YW (uR d hd))];exact(hf d hd).1
 done:=by
  intro X hP hw hK hc i pins s σ H E I hf st hg;subst hP hw hK;obtain⟨xs,ze,hi⟩:=hg;obtain⟨fW,r1,p1,_⟩:=I.list ze;obtain⟨hz,uQ,xt,h1,h2,h3⟩:=st;have l1:=r1.length;refine qQ (I.ok.hd hc) D hz uQ h1 p1.isList (Array.getElem?_eq_none (by simp only[YX];lia)) λh' kk=>⟨rfl,?_⟩
  exact I.moved (t':=s.toks) (ch:=[z,i1]) (λd hd=>hf d (by simp at hd ⊢;rcases hd with rfl | rfl <;>simp)) λd o hd e=>kk d o (λq=>hd (by simp [q])) (λq=>hd (by simp [q])) e
 self:=λ_ _ _ _ _ st h=>wpAny_pyIter_zip st.1 h
theorem L9 {x y z:V} {us:List Value} (r:br [x,y,z] us):∃u v t,us=[u,v,t]/\RelV x u/\RelV y v/\RelV z t:=by
 cases r with
 | cons a r=>cases r with
  | cons b r=>cases r with
   | cons c r=>cases r;exact⟨_,_,_,rfl,a,b,c⟩
section
variable {X : Cx} {elts : List Expr} {kk : Nat} {jV : Pos} {K : aam}
abbrev CH (K:aam) (ta:TA):TI:=λσ H R=>ta σ H λvs H1=>∃a b c,vs=[.ref a,.ref b,.ref c]/\(∃xs,aS K H1 a xs)/\(∃ys,aS K H1 b ys)/\(∃zs,aS K H1 c zs)/\R (Px K a b c) H1
theorem FX {a b c:Expr} {ta:TA} {p pos:Pos} (hg:Gl X "zip") (hm:X.mg "zip"=none) (ha:PA X [a,b,c] ta) (hs:starEach [a,b,c] X.env=(false,eval a X.env)::starEach [b,c] X.env:=by rfl) (EW:starEach [b,c] X.env=[(false,eval b X.env),(false,eval c X.env)]:=by rfl):
  PI X (.Tuple elts kk jV) (.Call (.Name "zip" p) [a,b,c] [] pos) (CH X.K ta):=by
 intro pins s σ H R I h;refine Call_ (g8 I hg hm rfl (aaf (cO (ha pos pins s σ H _ I h) λus s1 dB=>?_) hs (by rw[EW];rfl)));obtain⟨vs,H1,I1,r1,q1⟩:=dB;obtain⟨a,b,c,e,⟨xs,q1⟩,⟨ys,q2⟩,⟨zs,q3⟩,q⟩:=q1;subst e;obtain⟨u,u',X2,rfl,ra,rb,rc⟩:=L9 r1;cases ra;cases rb;cases rc;obtain⟨fW,v1,p1,_⟩:=I1.list q1;obtain⟨nH,v2,p2,_⟩:=I1.list q2;obtain⟨Py,v3,p3,_⟩:=I1.list q3;have la:a<s1.heap.objs.size:=by obtain⟨o,e,_⟩:=p1.isList;exact aay e
 have lb:b<s1.heap.objs.size:=by obtain⟨o,e,_⟩:=p2.isList;exact aay e
 have lc:c<s1.heap.objs.size:=by obtain⟨o,e,_⟩:=p3.isList;exact aay e
 refine AZ p1.isList p2.isList p3.isList λh' n en b1 b2 b3 b4 b5 b6 kp=>?_;refine wpAny_pyIter_zip b1 ?_;have I2:Inv X pins σ H1 {s1 with heap:=h'}:=I1.kept (t':=s1.toks) kp;rw[<-en] at la lb lc;refine⟨n+5,[n+5,n+3,n+4,n,n+1,n+2],_,_,H1,rfl,I2,
  A3 (n+5) (n+3) (n+4) n (n+1) (n+2) a b c (by constructor <;>(first | exact YW ⋯ | exact ZC ⋯ | exact YW la | exact YW lb | exact YW lc | exact YW (Y3 la (Nat.le_add_right _ _)) | exact YW (Y3 lb (Nat.le_add_right _ _)) | exact YW (Y3 lc (Nat.le_add_right _ _)))),⟨b1,b2,⟨_,_,_,b3⟩,b4,b5,b6⟩,λc hc=>?_,q⟩
 have zg:s1.heap.objs.size<=c:=by
  simp only[ZT,ZX,or_false] at hc;rcases hc with rfl | rfl | rfl | rfl | rfl | rfl <;>lia
 exact I1.sW zg (I1.cw.fresh zg)
theorem CI {a b c:Expr} {ta:TA} {p pos:Pos} (hg:Gl X "zip") (hm:X.mg "zip"=none) (ha:PA X [a,b,c] ta) (n1:noStar a=true:=by rfl) (n2:noStar b=true:=by rfl) (n3:noStar c=true:=by rfl) (hK:X.K=K:=by rfl):
  PI X (.Tuple elts kk jV) (.Call (.Name "zip" p) [a,b,c] [] pos) (CH K ta):=by subst hK;exact FX hg hm ha (se n1) (by rw[se n2,se n3];rfl)
end
theorem CJ {K:aam} {a b c:Addr} {xs ys zs:List V} {Ok:Hp->Prop} (h1:∀H,Ok H->aS K H a xs) (h2:∀H,Ok H->aS K H b ys) (h3:∀H,Ok H->aS K H c zs) (l2:ys.length=xs.length) (l3:zs.length=xs.length):
  Src (Px K a b c) Ok xs.length (λi v H H3=>∃p x y z,H p=none/\v=.ref p/\xs[i]?=some x/\ys[i]?=some y/\zs[i]?=some z/\H3=upd H p (.tup [x,y,z])) where
 go:=λi H hi ok=>⟨xs,ys,zs,xs[i],ys[i],zs[i],h1 H ok,h2 H ok,h3 H ok,by simp,by simp,by simp⟩
 xp:=λi H x H3 hi ok ⟨p,n,e,u,v,t,e1,e2,e3,e4⟩=>⟨p,u,v,t,n,e,e1 xs (h1 H ok),e2 ys (h2 H ok),e3 zs (h3 H ok),e4⟩
 stop:=λH ok=>⟨xs,h1 H ok,rfl⟩
end L2
namespace L2
open PySem PySem.Spec PyProof.Rows
structure pR (P:Program) (w:World) (K:aam) (mg:Str->Option Value) (base:Heap) (CX:me) (k:Nat) (x:Str) (C:Addr) (ps:List Str) (sp:Sp):Prop where
 ex:∃f fd,Mk K C f/\fz P w K mg base CX k f fd ps sp/\mg x=some (.ref C)/\Binds K fd ps []
section
variable {X : Cx}
theorem zu {CX:me} {k:Nat} {x:Str} {C:Addr} {ps:List Str} {sp:Sp} {E:XK} {e:Expr} {es:List Expr} {t:TA} {p pos:Pos} (M:pR X.prog X.w X.K X.mg X.base CX k x C ps sp) (hr:dZ (k+1) X.A) (hg:Gl X x) (hx:fJ CX X E) (ha:PA X (e::es) t)
  (BZ:(x==("__debug__":Str))=false:=by decide) (he:starEach (e::es) X.env=(false,eval e X.env)::starEach es X.env:=by injections) (hpl:(backTo pos (starEach es X.env)).any (·.1)=false:=by injections):
  PE X (.Call (.Name x p) (e::es) [] pos) (rF C sp [] E t):=by
 obtain⟨f,fd,m,F,hm,hb⟩:=M.ex;exact Fq m F hr hg hm hb .nil hx ha BZ he hpl
end
structure Pz (K:aam) (mg:Str->Option Value) (x qual:Str) (st:Stmt) (C:Addr):Prop where
 ex:∃f fd,xX K "__init__" qual st f fd/\Mk K C f/\mg x=some (.ref C)
theorem Pz.eG {P:Program} {w:World} {K:aam} {mg:Str->Option Value} {base:Heap} {CX:me} {x qual:Str} {st:Stmt} {C:Addr} {ps:List Str} {k:Nat} {sp:Sp} (D:Pz K mg x qual st C)
  (hb:∀(kV doc pm:Value) (an:Option Addr) (cP ct:Value) (us:List Value),us.length=ps.length->bindArgs (aap "__init__" qual (de st) (cS st) (au st) .none kV doc pm an cP ct) ⟨us,[]⟩=pure (ps.zip us))
  (h:∀f fd,xX K "__init__" qual st f fd->fz P w K mg base CX k f fd ps sp):pR P w K mg base CX k x C ps sp:=by
 obtain⟨f,fd,F,m,hm⟩:=D.ex;exact⟨f,fd,m,h f fd F,hm,F.binds hb⟩
end L2
namespace L2
open PySem PySem.Spec PyProof.Rows
noncomputable instance KQ:DecidableEq PyData:=λ_ _=>Classical.propDecidable _
mutual
noncomputable def iC:PyData->Bool
 | .int _=>true
 | .str x=>PyData.canLay0 (.str x)
 | .tuple xs=>mE xs
 | _=>false
noncomputable def mE:List PyData->Bool
 | []=>true
 | x::xs=>iC x && mE xs
end
mutual
theorem FY:∀(d:PyData),iC d=true->d.canLay0=true
 | .none,h=>by simp [iC] at h
 | .bool _,h=>by simp [iC] at h
 | .int _,_=>by simp [PyData.canLay0]
 | .str x,h=>by rw[iC] at h;exact h
 | .list _,h=>by simp [iC] at h
 | .tuple xs,h=>by rw[iC] at h;rw[PyData.canLay0];exact vF xs h
 | .dict _,h=>by simp [iC] at h
theorem vF:∀(xs:List PyData),mE xs=true->PyData.canLayAll0 xs=true
 | [],_=>by simp [PyData.canLayAll0]
 | x::xs,h=>by
  rw[mE,Zx] at h;rw[PyData.canLayAll0,Zx];exact⟨FY x h.1,vF xs h.2⟩
end
mutual
theorem Jn:∀(x y:PyData),iC x=true->iC y=true->PyData.eqv x y=decide (x=y)
 | .int i,y,_,hy=>by
  cases y with
  | int j=>
   rw[PyData.eqv]
   by_cases c:i=j
   ·subst c;simp
   ·rw[decide_eq_false (λe=>c (by injection e))];simp [c]
  | str _=>simp [PyData.eqv]
  | tuple _=>simp [PyData.eqv]
  | _=>simp [iC] at hy
 | .str a,y,_,hy=>by
  cases y with
  | str b=>
   rw[PyData.eqv]
   by_cases c:a=b
   ·subst c;simp
   ·rw[decide_eq_false (λe=>c (by injection e))];simp [c]
  | int _=>simp [PyData.eqv]
  | tuple _=>simp [PyData.eqv]
  | _=>simp [iC] at hy
 | .tuple xs,y,hx,hy=>by
  cases y with
  | tuple ys=>
   rw[iC] at hx hy;rw[PyData.eqv,zv xs ys hx hy]
   by_cases c:xs=ys
   ·subst c;simp
   ·rw[decide_eq_false c,decide_eq_false (λe=>c (by injection e))]
  | int _=>simp [PyData.eqv]
  | str _=>simp [PyData.eqv]
  | _=>simp [iC] at hy
 | .none,_,h,_=>by simp [iC] at h
 | .bool _,_,h,_=>by simp [iC] at h
 | .list _,_,h,_=>by simp [iC] at h
 | .dict _,_,h,_=>by simp [iC] at h
theorem zv:∀(xs ys:List PyData),mE xs=true->mE ys=true->PyData.eqvAll xs ys=decide (xs=ys)
 | [],[],_,_=>by simp [PyData.eqvAll]
 | [],_::_,_,_=>by simp [PyData.eqvAll]
 | _::_,[],_,_=>by simp [PyData.eqvAll]
 | x::xs,y::ys,hx,hy=>by
  rw[mE,Zx] at hx hy;rw[PyData.eqvAll,Jn x y hx.1 hy.1,zv xs ys hx.2 hy.2]
  by_cases c:x=y
  ·subst c
   by_cases d:xs=ys
   ·subst d;simp
   ·rw[decide_eq_false d,decide_eq_false (λe=>d (List.cons.inj e).2)];simp
  ·rw[decide_eq_false c,decide_eq_false (λe=>c (List.cons.inj e).1)];simp
end
mutual
theorem yg {h h':Heap} {d:Addr} {o:Obj} {es ep} (ho:h.get? d=some o) (hd:o.data=.dict es ep) (hs:Heap.SameBut d h h'):∀(x:PyData) (v:Value) (as:List Addr),iC x=true->Reads h v x as->Reads h' v x as
 | .int _,_,_,_,r=>by cases r;exact .int _ _
 | .str _,_,_,_,r=>by cases r;exact .str _ _
 | .tuple xs,_,_,hx,r=>by
  rw[iC] at hx;cases r with
  | @tuple a o' vs n _ _ e c q t=>
   have ne:a≠d:=λz=>by
    subst z;rw[ho] at e;cases e;rw[hd] at q;cases q
   exact .tuple ((hs.2 a ne).trans e) c q (m7 ho hd hs xs _ _ hx t)
 | .none,_,_,h,_=>by simp [iC] at h
 | .bool _,_,_,h,_=>by simp [iC] at h
 | .list _,_,_,h,_=>by simp [iC] at h
 | .dict _,_,_,h,_=>by simp [iC] at h
theorem m7 {h h':Heap} {d:Addr} {o:Obj} {es ep} (ho:h.get? d=some o) (hd:o.data=.dict es ep) (hs:Heap.SameBut d h h'):∀(xs:List PyData) (vs:List Value) (as:List Addr),mE xs=true->ReadsAll h vs xs as->ReadsAll h' vs xs as
 | [],_,_,_,r=>by cases r;exact .nil
 | x::xs,_,_,hx,r=>by
  rw[mE,Zx] at hx;cases r with
  | cons r1 r2=>exact .cons (yg ho hd hs x _ _ hx.1 r1) (m7 ho hd hs xs _ _ hx.2 r2)
end
mutual
noncomputable def zw (w:World):PyData->Int
 | .int i=>Ia w (.inl i)
 | .str x=>Ia w (.inr x)
 | .tuple xs=>reduceHash (Builtin.Tuple.tupleHashOf (f7 w xs))
 | _=>0
noncomputable def f7 (w:World):List PyData->List Int
 | []=>[]
 | x::xs=>zw w x::f7 w xs
end
mutual
noncomputable def N0:PyData->Nat
 | .tuple xs=>pS xs+1
 | _=>1
noncomputable def pS:List PyData->Nat
 | []=>0
 | x::xs=>N0 x+pS xs
end
section
variable {prog : Program} {w : World}
abbrev PH (prog:Program) (w:World) (m:Nat) (h:Heap) (d:PyData) (v:Value):Prop:=∀(A:Around) (E:Value->Shared->Prop) (s:Shared) (Q:Int->Shared->Prop),s.heap=h->A.units+m<cLine->
 Q (zw w d) {s with toks:=s.toks+N0 d}->wpAny (model prog w) A (pyHash v) Q E s
inductive Hf (prog:Program) (w:World) (m:Nat) (h:Heap):List PyData->List Value->Prop
 | nil:Hf prog w m h [] []
 | cons {d v ds vs}:PH prog w m h d v->Hf prog w m h ds vs->Hf prog w m h (d::ds) (v::vs)
theorem A4 (xs ys:List PyData):f7 w (xs++ys)=f7 w xs++f7 w ys:=by
 induction xs with
 | nil=>simp [f7]
 | cons x xs ih=>simp [f7,ih]
theorem CK (xs ys:List PyData):pS (xs++ys)=pS xs+pS ys:=by
 induction xs with
 | nil=>simp [pS]
 | cons x xs ih=>simp [pS,ih,Nat.add_assoc]
theorem CL {m:Nat} {h:Heap} {ds:List PyData} {a:Addr} {o:Obj} {items n} (ho:h.get? a=some o) (hc:o.cls=.type "tuple") (hd:o.data=.seq items n) (hi:Hf prog w m h ds items.toList):PH prog w (m+1) h (.tuple ds) (.ref a):=by
 intro A E s Q hh hu hq;subst hh;have hT:s.TypeIs (.ref a) "tuple":=⟨o,ho,hc⟩
 have UD:A.units<cLine:=⋯
 unfold pyHash
 first | unfold pyHashByItsType | skip
 first | refine wpAny_bind (wpAny_cRoomFor_or (.inr UD) ?_) | skip
 refine wpAny_bind (wpAny_specialOf hT F.slot_tuple_hash.lookup ?_);show wpAny _ _ (if (some (Value.builtin "tuple.__hash__")==some Value.none)=true then _ else _) Q E s;rw[if_neg (by rw[beq_builtin_none];exact Y4)];refine wpAny_bind (wpAny_specialOf hT F.slot_tuple_hash.lookup ?_);show wpAny _ _ (callSpecialIfBoundUnlessNone? (.ref a) "__hash__" _ >>=_) Q E s;refine wpAny_bind (wpAny_callSpecialIfBoundUnlessNone?_slot hT F.slot_tuple_hash (wpAny_call_entry F.slot_tuple_hash hT F.entry_tuple_hash ?_ (F.args_tuple_hash_1 _)));show wpAny _ _ (Builtin.Tuple.tupleItemsOf (.ref a) >>=_) _ _ s;refine wpAny_bind (wpAny_tupleItemsOf ho hd ?_);refine wpAny_bind ?_;rw[<-Array.forIn_toList];refine wpAny_forIn_list _
  (λrest (b:Array Int) s'=>∃done left,ds=done++left/\Hf prog w m s.heap left rest/\b.toList=f7 w done/\s'={s with toks:=s.toks+pS done})
  _ ?_ ?_ _ _ ⟨[],ds,rfl,hi,rfl,rfl⟩
 ·rintro x rest b s' ⟨done,left,rfl,hl,hb,rfl⟩;cases hl with
  | @cons k _ eF _ h1 vG=>
   refine wpAny_bind (h1 _ _ _ _ rfl (by show A.units+1+m<cLine;lia) ?_);have e1:(b.push (zw w k)).toList=f7 w (done++ [k]):=by rw[A4];simp [hb,f7]
   have e2:s.toks+pS done+N0 k=s.toks+pS (done++ [k]):=by rw[CK];simp [pS,Nat.add_assoc]
   first
    | exact wpAny_pure ⟨done++ [k],eF,by simp,vG,e1,by rw[<-e2]⟩
    | exact wpAny_bind (wpAny_pure (wpAny_pure ⟨done++ [k],eF,by simp,vG,e1,by rw[<-e2]⟩))
 ·rintro b s' ⟨done,left,rfl,hl,hb,rfl⟩;cases hl;rw[ZD] at hq;show wpAny _ _ (retInt (Builtin.Tuple.tupleHashOf b.toList)) _ _ _;rw[hb];refine wpAny_ret_mkInt ?_;show wpAny _ _ (if (decide (-(2:Int)^63<=Builtin.Tuple.tupleHashOf (f7 w done)) && decide (Builtin.Tuple.tupleHashOf (f7 w done)<2^63))=true then _ else _) Q E _;rw[zw,N0] at hq;unfold reduceHash at hq
  by_cases hr:(decide (-(2:Int)^63<=Builtin.Tuple.tupleHashOf (f7 w done)) && decide (Builtin.Tuple.tupleHashOf (f7 w done)<2^63))=true
  ·rw[if_pos hr];rw[if_pos hr] at hq;exact wpAny_pure (by simpa [Nat.add_assoc] using hq)
  ·rw[if_neg hr];rw[if_neg hr] at hq;exact wpAny_bind (wpAny_rule (wpAny_pure (by simpa [Nat.add_assoc] using hq)))
mutual
theorem Jo {h:Heap}:∀(d:PyData) (v:Value) (as:List Addr),iC d=true->Reads h v d as->PH prog w d.depth h d v
 | .int i,_,_,_,r=>by
  cases r with
  | int _ t=>
   intro A E s Q _ _ hq;exact(cC prog w).pyHash (k:=.inl i) (mX (k:=.inl i) ⟨t,rfl⟩) hq
 | .str x,_,_,_,r=>by
  cases r with
  | str _ t=>
   intro A E s Q _ _ hq;exact(cC prog w).pyHash (k:=.inr x) (mX (k:=.inr x) ⟨t,rfl⟩) hq
 | .tuple xs,_,_,hx,r=>by
  rw[iC] at hx;cases r with
  | tuple e c q t=>exact CL e c q (zy xs _ _ hx t)
 | .none,_,_,h,_=>by simp [iC] at h
 | .bool _,_,_,h,_=>by simp [iC] at h
 | .list _,_,_,h,_=>by simp [iC] at h
 | .dict _,_,_,h,_=>by simp [iC] at h
theorem zy {h:Heap}:∀(ds:List PyData) (vs:List Value) (as:List Addr),mE ds=true->ReadsAll h vs ds as->Hf prog w (PyData.depthAll ds) h ds vs
 | [],_,_,_,r=>by cases r;exact .nil
 | x::xs,_,_,hx,r=>by
  rw[mE,Zx] at hx;cases r with
  | cons r1 r2=>
   have p1:=Jo x _ _ hx.1 r1;have p2:=zy xs _ _ hx.2 r2;have up:∀{m m':Nat} {ds:List PyData} {vs:List Value},m<=m'->Hf prog w m h ds vs->Hf prog w m' h ds vs:=λl q=>by
    induction q with
    | nil=>exact .nil
    | cons p _ ih=>exact .cons (λA E s Q e u=>p A E s Q e ⋯) ih
   refine .cons (λA E s Q e u=>p1 A E s Q e ?_) (up ?_ p2)
   ·rw[PyData.depthAll] at u;lia
   ·rw[PyData.depthAll];lia
end
theorem vH {h:Heap} {k:Nat} {a:Addr} {o:Obj} {items n} (ho:h.get? a=some o) (hc:o.cls=.type "tuple") (hd:o.data=.seq items n) (hi:∀v∈items.toList,∀(A:Around) (E:Value->Shared->Prop) (s:Shared) (Q:Bool->Shared->Prop),s.heap=h->Q true s->wpAny (model prog w) A (eqIsQuiet k v) Q E s)
  (A:Around) (E:Value->Shared->Prop) (s:Shared) (Q:Bool->Shared->Prop) (hh:s.heap=h) (hq:Q true s):wpAny (model prog w) A (eqIsQuiet (k+1) (.ref a)) Q E s:=by
 subst hh;have hT:s.TypeIs (.ref a) "tuple":=⟨o,ho,hc⟩
 unfold eqIsQuiet;refine wpAny_bind (wpAny_specialOf hT F.slot_tuple_eq.lookup ?_);show wpAny _ _ (isInstance (.ref a) (.type "tuple") >>=_) _ _ s;refine wpAny_bind (wpAny_isInstance hT isSubtype_tuple_tuple ?_);simp only[Bool.not_true,Bool.false_eq_true,if_false];refine wpAny_bind (wpAny_seqItems ho hd ?_);refine wpAny_bind ?_;show wpAny _ _ (forIn items _ _) _ _ s;rw[<-Array.forIn_toList];refine wpAny_forIn_list _ (λrest r s'=>r.1=none/\s'=s/\∀v∈rest,v∈items.toList) _ ?_ ?_ _ _ ⟨rfl,rfl,λ_ h=>h⟩
 ·rintro v rest r s' ⟨hr,rfl,AO⟩;refine wpAny_bind (hi v (AO v YT) _ _ _ _ rfl ?_);simp only[Bool.not_true,Bool.false_eq_true,if_false];exact wpAny_pure ⟨rfl,rfl,λu UE=>AO u (YU _ UE)⟩
 ·rintro⟨r1,r2⟩ s' ⟨hr,rfl,_⟩;simp only at hr;subst hr;exact wpAny_pure hq
mutual
theorem A5 {h:Heap}:∀(d:PyData) (v:Value) (as:List Addr) (k:Nat),iC d=true->d.depth<=k->Reads h v d as->∀(A:Around) (E:Value->Shared->Prop) (s:Shared) (Q:Bool->Shared->Prop),s.heap=h->Q true s->wpAny (model prog w) A (eqIsQuiet k v) Q E s
 | .int _,_,_,_,_,_,r=>by
  cases r;intro A E s Q _ hq;rw[eqIsQuiet_byValue _ rfl];exact wpAny_pure hq
 | .str _,_,_,_,_,_,r=>by
  cases r;intro A E s Q _ hq;rw[eqIsQuiet_byValue _ rfl];exact wpAny_pure hq
 | .tuple xs,_,_,k,hx,hk,r=>by
  rw[iC] at hx;rw[PyData.depth] at hk;cases k with
  | zero=>lia
  | succ k=>
   cases r with
   | tuple e c q t=>exact vH e c q (pT xs _ _ k hx ⋯ t)
 | .none,_,_,_,h,_,_=>by simp [iC] at h
 | .bool _,_,_,_,h,_,_=>by simp [iC] at h
 | .list _,_,_,_,h,_,_=>by simp [iC] at h
 | .dict _,_,_,_,h,_,_=>by simp [iC] at h
theorem pT {h:Heap}:∀(ds:List PyData) (vs:List Value) (as:List Addr) (k:Nat),mE ds=true->PyData.depthAll ds<=k->ReadsAll h vs ds as->∀v∈vs,∀(A:Around) (E:Value->Shared->Prop) (s:Shared) (Q:Bool->Shared->Prop),s.heap=h->Q true s->wpAny (model prog w) A (eqIsQuiet k v) Q E s
 | [],_,_,_,_,_,r=>by
  cases r;intro v hv;simp at hv
 | x::xs,_,_,k,hx,hk,r=>by
  rw[mE,Zx] at hx;rw[PyData.depthAll] at hk;cases r with
  | cons r1 r2=>
   intro v hv;rcases ZT.mp hv with rfl | hv
   ·exact A5 x _ _ k hx.1 ⋯ r1
   ·exact pT xs _ _ k hx.2 ⋯ r2 v hv
end
end
end L2
namespace L2
open PySem PySem.Spec PyProof.Rows
mutual
noncomputable def toP:Dat->PyData
 | .cJ=>.none
 | .bl b=>.bool b
 | .int i=>.int i
 | .str x=>.str x
 | .tup l=>.tuple (toPL l)
 | .lst l=>.list (toPL l)
noncomputable def toPL:List Dat->List PyData
 | []=>[]
 | d::ds=>toP d::toPL ds
end
section
variable {P : Program} {w : World} {H : Hp} {h : Heap}
mutual
theorem pU (ok:iJ P w H h):∀(d:Dat) (v:V) (u:Value),Rep H d v->RelV v u->∃as,Reads h u (toP d) as
 | .cJ,v,u,r,q=>by
  rw[Rep] at r;subst r;cases (show u=Value.none from q);exact⟨_,.none⟩
 | .bl b,v,u,r,q=>by
  rw[Rep] at r;subst r;cases (show u=Value.bool b from q);exact⟨_,.bool b⟩
 | .int i,v,u,r,q=>by
  rw[Rep] at r;subst r;obtain⟨t,rfl⟩:=(show ∃t,u=Value.int i t from q)
  exact⟨_,.int i t⟩
 | .str x,v,u,r,q=>by
  rw[Rep] at r;subst r;obtain⟨t,rfl⟩:=(show ∃t,u=Value.str x t from q)
  exact⟨_,.str x t⟩
 | .tup l,v,u,r,q=>by
  rw[Rep] at r;obtain⟨p,vs,rfl,hp,rl⟩:=r;cases (show u=Value.ref p from q);obtain⟨_,aW,rv,o,h1,h2,n,h3⟩:=(show cX P w H h p (.tup vs) from ok p _ hp)
  obtain⟨as,ra⟩:=mF ok l vs aW rl rv;exact⟨as,.tuple h1 h2 h3 (by simpa using ra)⟩
 | .lst l,v,u,r,q=>by
  rw[Rep] at r;obtain⟨p,vs,rfl,hp,rl⟩:=r;cases (show u=Value.ref p from q);obtain⟨_,aW,n,rv,h1⟩:=(show cX P w H h p (.lst vs) from ok p _ hp)
  obtain⟨as,ra⟩:=mF ok l vs aW rl rv;exact⟨p::as,.list h1 rfl rfl (by simpa using ra)⟩
theorem mF (ok:iJ P w H h):∀(ds:List Dat) (vs:List V) (us:List Value),a8 H ds vs->br vs us->∃as,ReadsAll h us (toPL ds) as
 | [],vs,us,r,q=>by
  rw[a8] at r;subst r;cases q;exact⟨_,.nil⟩
 | d::ds,vs,us,r,q=>by
  rw[a8] at r;obtain⟨v,rest,rfl,r1,r2⟩:=r;cases q with
  | cons q1 q2=>
   obtain⟨a1,h1⟩:=pU ok d v _ r1 q1;obtain⟨a2,h2⟩:=mF ok ds rest _ r2 q2;exact⟨_,.cons h1 h2⟩
end
end
@[inline]abbrev Rows:=List (Dat×Addr×Int)
@[inline]abbrev X3:Rows->List (PyData×Addr×Value)->Prop:=Paired λp q=>toP p.1=q.1/\p.2.1=q.2.1/\∃t,q.2.2=Value.int p.2.2 t
section
variable {P : Program} {w : World} {H : Hp} {h : Heap} {a : Addr}
end
section
variable {X : Cx} {P : Program} {w : World} {o i e value : Expr} {pos pos' jV : Pos} {td ty tv : TE}
end
end L2
namespace L2
open PySem PySem.Spec PyProof.Rows PySem.W
abbrev Jp (K:aam) (a:Addr) (n:Nat):It:=
 ⟨λi H=>∃xs x,aS K H a xs/\xs.length=n/\xs.reverse[i]?=some x,λi H x H'=>H'=H/\∀xs,aS K H a xs->xs.reverse[i]?=some x,λi _=>i=n⟩
theorem CM {P:Program} {w:World} {K:aam} {tg:Expr} (a it:Addr) (n:Nat):Turn P w K tg (Jp K a n) [it] it (λi h=>h.IsRevIter it a ((n:Int) - 1 - (i:Int))) where
 mem:=by simp
 obj:=λi h st b hb=>by
  have e:b=it:=by simpa using hb
  subst e;obtain⟨o,e,c,d⟩:=st;exact⟨o,e,λv z=>by rw[d] at z;cases z⟩
 keep:=λi h h' st k=>st.at λo e=>k it (by simp) o e
 item:=by
  intro X hP hw hK hc i pins s σ H E I hf st hg;subst hP hw hK;obtain⟨xs,x,hq,hn,hx⟩:=hg;subst hn;obtain⟨aW,rv,p,hz⟩:=I.list hq;have hi:i<xs.length:=by
   have:=(aat.mp hx).1
   rwa [List.length_reverse] at this
  have nG:=hx;rw[List.getElem?_reverse hi] at nG;obtain⟨u,hu,ru⟩:=rv.get nG;obtain⟨f0,f1,f2,f3,f4,f5⟩:=hf it (by simp);have e:(xs.length:Int) - 1 - (i:Int)=((xs.length - 1 - i:Nat):Int):=⋯
  have X4:=st;rw[e] at st;refine wpAny_pyNext_rev_item st p.isList (x:=u) (by simpa using hu) λh' u4 sb=>?_;have I1:Inv X pins σ H {s with heap:=h'}:=I.turned (t':=s.toks) (λb o hb e=>(sb.2 b hb).trans e) f0 f1 f3 f4 f5;obtain⟨o,e1,c,d⟩:=id u4;have e2:((xs.length - 1 - i:Nat):Int) - 1=(xs.length:Int) - 1 - ((i+1:Nat):Int):=⋯
  rw[e2] at u4;exact⟨u,rfl,BP (s:={s with heap:=h'}) e1 c d ∅ ⟨x,H,I1,ru,⟨rfl,λys hy=>by rw[I.eW hy hq];exact hx⟩,u4,λb hb=>(hf b hb).1⟩⟩
 done:=by
  intro X hP hw hK hc i pins s σ H E I hf st hg;subst hP hw hK;have hg:i=n:=hg;subst hg;obtain⟨f0,f1,f2,f3,f4,f5⟩:=hf it (by simp);have e:(i:Int) - 1 - (i:Int)= -1:=⋯
  rw[e] at st;exact wpAny_pyNext_rev_end (I.ok.hd hc) st λh' eb=>⟨rfl,I.turned (t':=s.toks) (λb o hb e=>eb b o hb e) f0 f1 f3 f4 f5⟩
 self:=λ_ _ _ _ _ st h=>wpAny_pyIter_revIter st h
section
variable {X : Cx}
abbrev CN (K:aam) (ta:TA):TI:=λσ H R=>ta σ H λvs H1=>∃a xs,vs=[.ref a]/\aS K H1 a xs/\R (Jp K a xs.length) H1
theorem vI {tg a:Expr} {ta:TA} {p pos:Pos} (hg:Gl X "reversed") (hm:X.mg "reversed"=none) (ha:PA X [a] ta) (hs:starEach [a] X.env=[(false,eval a X.env)]:=by rfl):
  PI X tg (.Call (.Name "reversed" p) [a] [] pos) (CN X.K ta):=by
 intro pins s σ H R I h;refine Call_ (g8 I hg hm rfl (aaf (cO (ha pos pins s σ H _ I h) λus s1 dB=>?_) hs rfl));obtain⟨vs,H1,I1,r1,q1⟩:=dB;obtain⟨a,xs,e,q1,q⟩:=q1;subst e;obtain⟨u,rfl,ra⟩:=vals1 r1;cases ra;obtain⟨fW,v1,p1,z1⟩:=I1.list q1;have lv:=v1.length;refine call_reversed_list p1.isList ?_;have I2:Inv X pins σ H1 {s1 with heap:=s1.heap.push (revObj a ((fW.toArray.size:Int) - 1))}:=I1.kept (t':=s1.toks) λb o e=>aaw _ e;have RT:(s1.heap.push (revObj a ((fW.toArray.size:Int) - 1))).IsRevIter s1.heap.objs.size a ((xs.length:Int) - 1 - ((0:Nat):Int)):=⟨_,aax _ rfl,rfl,by
  have e:(fW.toArray.size:Int) - 1=(xs.length:Int) - 1 - ((0:Nat):Int):=by rw[YX];lia
  rw[e];rfl⟩
 refine wpAny_pyIter_revIter RT ?_;refine⟨s1.heap.objs.size,[s1.heap.objs.size],_,_,H1,rfl,I2,CM a s1.heap.objs.size xs.length,RT,λc hc=>?_,q⟩;have zg:s1.heap.objs.size<=c:=Nat.le_of_eq (aav.mp hc).symm;exact I1.sW zg (I1.cw.fresh zg)
theorem tS {K:aam} {tg a:Expr} {ta:TA} {p pos:Pos} (hg:Gl X "reversed") (hm:X.mg "reversed"=none) (ha:PA X [a] ta) (n1:noStar a=true:=by rfl) (hK:X.K=K:=by rfl):
  PI X tg (.Call (.Name "reversed" p) [a] [] pos) (CN K ta):=by subst hK;exact vI hg hm ha (by rw[se n1];rfl)
end
theorem FZ {K:aam} {a:Addr} {xs:List V} {Ok:Hp->Prop} (h:∀H,Ok H->aS K H a xs):Src (Jp K a xs.length) Ok xs.length (λi x H H3=>H3=H/\xs.reverse[i]?=some x) where
 go:=λi H hi ok=>⟨xs,xs.reverse[i]'(by rw[List.length_reverse];exact hi),h H ok,rfl,YM _⟩
 xp:=λi H x H3 hi ok ⟨e,e1⟩=>⟨e,e1 xs (h H ok)⟩
 stop:=λH ok=>rfl
end L2
namespace KS
open PySem PySem.W PyProof.Rows
section
variable {prog : Program} {w : World} {A : Around} {E : Value -> Shared -> Prop} {s : Shared}
end
end KS
namespace L2
open PySem PySem.Spec PyProof.Rows PySem.W
section
variable {X : Cx} {K : aam}
abbrev Jq (K:aam):V->List V->Hp->VK->Prop:=λx vs H Q=>∃l ns k,x=.ref l/\vs=[.int k]/\aS K H l (List.map V.int ns)/\k∈ns/\ns.length<=1000/\Q (.int (ns.idxOf k:Nat)) H
theorem A6:KJ X "list.index" (Jq X.K):=by
 intro pins s σ H x vs v us Q I rx rv h;obtain⟨l,ns,k,rfl,rfl,hq,hk,hn,q⟩:=h;cases rx;obtain⟨u,rfl,ru⟩:=vals1 rv;obtain⟨t,rfl⟩:=ru;obtain⟨aW,r,pl,hz⟩:=I.list hq;have A1:=intsAre_of r;have gG:=Zz hk;have lI:=A1.length;obtain⟨⟨c1,d1,d2,sl⟩,ho,e1,m,e2⟩:=pl.isList;cases e1;cases e2;have hit:=isInt_at k A1 (ns.idxOf k) ⋯ gG;refine call_meets PySem.F.slot_list_index ⟨_,ho,rfl⟩ PySem.F.entry_list_index (PySem.F.args_list_index_2 _ _) (PySem.SeqAt.list_indexAt l aW.toArray m d1 sl (.int k t) (isInt k) (ns.idxOf k) (by rw[YX];lia) ⋯ (hit.trans (by simp)) (λj hj hl=>?_)) ⟨ho,λy hy=>?_,⟨.int _,H,I.tok _,⟨_,rfl⟩,q⟩⟩
 ·rw[YX] at hj;exact(isInt_at k A1 j hj ⋯).trans (ne_of_lt_idxOf hl _)
 ·exact(eq_isInt k t A1 y (List.mem_toArray.mp hy)).at _ _
theorem yh (hK:X.K=K:=by rfl):KJ X "list.index" (Jq K):=by subst hK;exact A6
end
end L2
namespace L2
open PySem PySem.Spec PyProof.Rows PySem.W
section
variable {X : Cx} {K : aam}
theorem rW {P:Program} {w:World} {H:Hp} {h:Heap} (ok:iJ P w H h) {ds:List Dat} {xs:List V} {us:List Value} (r:a8 H ds xs) (v:br xs us) {i:Nat} {u:Value} (e:us[i]?=some u):∃d as,ds[i]?=some d/\Reads h u (toP d) as:=by
 have l1:=r.length;have l2:=v.length;have hi:=(aat.mp e).1;have ex:xs[i]?=some (xs[i]'⋯):=YM ⋯;obtain⟨u',e1,rv⟩:=v.get ex;rw[e] at e1;cases e1;obtain⟨d,ed,rd⟩:=r.get ex;obtain⟨as,ra⟩:=pU ok d _ _ rd rv;exact⟨d,as,ed,ra⟩
end
end L2
namespace L2
open PySem PySem.Spec PyProof.Rows
structure nM (base:Heap) (mg:Str->Option Value) (tc tp:Addr):Prop where
 blt:base.BuiltinsAt mg tp
 code:PySem.W.CodeHd base tc tp
theorem law_callT {P:Program} {tp tc:Addr} {dsc:Array Value} {w:World} {K:aam} {mg mb:Str->Option Value} {CX:me} {k:Nat} {fa a:Addr} {fd:FuncData} {x:Str} {sp:Sp} {s₁:Shared} {vs:List Value} {ns:List Int}
  (KX:K.In s₁.heap) (BA:s₁.heap.Ns mainGlobals mg) (hb:s₁.heap.Ns builtinsNs mb) (PB:∀x:Str,x≠"__name__"->mb x=bootBuiltins x) (Jr:s₁.heap.NoLimit) (hg:s₁.gens=#[])
  (ha:s₁.heap.get? a=some {cls:=.type "list",data:=.seq vs.toArray}) (hi:IntsAre vs ns) (hl:ns.length<=sizeLine) (hr:dZ k callerA)
  (kI:s₁.heap.get? tp=some (PySem.W.tabObj #[])) (RU:PySem.W.CodeHd s₁.heap tc tp) (UG:K.lookup tp=none) (F0:s₁.heap.BuiltinsAt mg tp)
  (F:∀base:Heap,K.In base->base.Ns mainGlobals mg->nM base mg tc tp->fz P w K mg base CX k fa fd [x] sp) (CO:∀(s:Shared) (u:Value),BindsTo s fd ⟨[u],[]⟩ [(x,u)])
  (EX:∀H:Hp,H tp=some (.rj dsc)->aS K H a (ns.map V.int)->sp [.ref a] H (λv _=>v=.bl true) λ_ _ _=>False)
  (PD:∀H e s',CX [] H s₁ (λ_ _ _=>False) e s'->False):
  codeAny (model P w) callerA (.call (.ref fa) ⟨[.ref a],[]⟩) (λr s'=>r=.ok (.ret (.bool true))/\OldK s₁.heap s'.heap/\s'.os=s₁.os/\AllBare s'.gens) s₁:=by
 have rv:=rN hi;have PF:=hi.length;have RV:tp≠a:=λz=>by rw[z,ha] at kI;cases kI
 have core:∀H:Hp,(∀b,b≠tp->H b=none\/∃o xs,H b=some (.xn o (.lst xs)))->H tp=some (.rj dsc)->aS K H a (ns.map V.int)->iJ P w H s₁.heap->(∀b,H b≠none->b=a\/b=tp)->(H a≠none->K.lookup a=none)->
   codeAny (model P w) callerA (.call (.ref fa) ⟨[.ref a],[]⟩) (λr s'=>r=.ok (.ret (.bool true))/\OldK s₁.heap s'.heap/\s'.os=s₁.os/\AllBare s'.gens) s₁:=by
  intro H hO hT hS cw hA hK;have tT:∀{b:Addr} {o:Obj},s₁.heap.get? b=some o->H b=none->(oX s₁.heap H).get? b=some o:=λe n=>BG e n;have Lz:∀{b:Addr} {o:Obj} {es:Array DictEntry} {ep:Nat},s₁.heap.get? b=some o->o.data=.dict es ep->H b=none:=λ{b o es ep} e d=>by
   cases q:H b with
   | none=>rfl
   | some u=>
    rcases hA b (by rw[q];simp) with e' | e'
    ·subst e';rw[ha] at e;cases e;have d':Data.seq vs.toArray _=Data.dict es ep:=d;cases d'
    ·subst e';rw[kI] at e;cases e;cases d
  have N4:∀{b:Addr} {m:Str->Option Value},s₁.heap.Ns b m->(oX s₁.heap H).Ns b m:=λ{b m} ⟨o,es,ep,e,d,r⟩=>⟨o,es,ep,tT e (Lz e d),d,r⟩
  have RW:K.In (oX s₁.heap H):=λb o e=>tT (KX b o e) (by
   cases q:H b with
   | none=>rfl
   | some u=>
    rcases hA b (by rw[q];simp) with e' | e'
    ·subst e';rw[hK (by rw[q];simp)] at e;cases e
    ·subst e';rw[UG] at e;cases e)
  have hM:Mod K mg (oX s₁.heap H):=⟨RW,N4 BA,⟨mb,N4 hb,PB⟩,let ⟨mc,h1,h2⟩:=Jr;⟨mc,N4 h1,h2⟩⟩
  have e0:xR P w K mg (oX s₁.heap H) callerA [] s₁ H:=⟨rfl,hM,λb o e=>Fd e,Nat.le_of_eq (Ay _ _),trivial,λb hb=>absurd (show b∈([]:List Addr) from hb) (by simp),cw,.of_eq hg⟩
  have UH:nM (oX s₁.heap H) mg tc tp:=by
   have look:∀{b:Addr} {o:Obj},s₁.heap.get? b=some o->b≠tp->o.cls≠.type "list"->(oX s₁.heap H).get? b=some o:=λ{b o} e n c=>tT e (by
    cases q:H b with
    | none=>rfl
    | some u=>
     rcases hA b (by rw[q];simp) with e' | e'
     ·subst e';rw[ha] at e;cases e;exact absurd rfl c
     ·exact absurd e' n)
   obtain⟨bm,o,b1,b2,b3,b4,b5,b6,b7⟩:=F0;obtain⟨o',Hc,file,tf,flags,tg,UI,text,tt,c1,c2,c3⟩:=RU;exact⟨⟨bm,o,b1,b2,b3,b4,look b5 b4 (λz=>by rw[b6] at z;injection z with z;exact absurd z ∅),b6,b7⟩,⟨o',Hc,file,tf,flags,tg,UI,text,tt,look c1 c3.2.2.2.2.2.2.2 (λz=>by rw[c2] at z;injection z with z;exact absurd z ∅),c2,c3⟩⟩
  refine codeAny_mono ((F _ RW (N4 BA) UH).run callerA [] s₁ H ⟨[.ref a],[]⟩ [.ref a] [.ref a] _ _ hr e0 (CO s₁ (.ref a)) (.cons rfl .nil) (EX H hT hS)) λr s' h=>?_;cases r with
  | error e=>exact(PD H e s' h).elim
  | ok fl=>
   cases fl with
   | next=>exact False.elim h
   | brk=>exact False.elim h
   | cont=>exact False.elim h
   | ret u=>
    obtain⟨v,H',os,bare,un,Ma,r',q⟩:=h;have q':v=.bl true:=q;subst q';obtain rfl:u=Value.bool true:=r';have fin:∀b o,b≠tp->s₁.heap.get? b=some o->s'.heap.get? b=some o:=λb o hb e=>by
     cases q:H b with
     | none=>exact un.keep b o e q (by intro z;exact absurd (show b∈([]:List Addr) from z) (by simp)) (by simp)
     | some u=>
      rcases hO b hb with z | ⟨ob,xs,z⟩
      ·rw[q] at z;cases z
      ·have z2:=un.oV b ob _ z;obtain⟨e1,_⟩:=cw b _ z;obtain⟨e2,_⟩:=Ma b _ z2;rw[e] at e1;cases e1;exact e2
    obtain⟨more,hm⟩:=un.oW tp _ hT;obtain⟨mo,e7,_⟩:=Ma tp _ hm;have Mb:s'.heap.get? tp=some {cls:=.none,data:=.fields (#[]++mo)}:=by rw[Array.empty_append];exact e7
    refine⟨rfl,⟨λb o e=>?_,λb o e=>?_⟩,os,bare⟩
    ·by_cases hb:b=tp
     ·subst hb;rw[kI] at e;cases e;exact .inr (.inl ⟨(RU.tab kI).isCodeTable,rfl,_,mo,rfl,Mb⟩)
     ·exact .inl (fin b o hb e)
    ·by_cases hb:b=tp
     ·subst hb;exact⟨_,Mb⟩
     ·exact⟨o,fin b o hb e⟩
 cases hk:K.lookup a with
 | some o=>
  have e:=KX a o hk;rw[ha] at e;cases e;refine core (λb=>if b=tp then some (.rj dsc) else none) (λb hb=>.inl (if_neg hb)) (if_pos rfl) (.inr ⟨_,vs.toArray,_,hk,rfl,rfl,rfl,by rw[YX,PF];exact hl,by simpa using rv⟩) (λb u z=>?_) (λb z=>?_) λz=>absurd (if_neg (Ne.symm RV)) z
  ·by_cases hb:b=tp
   ·have z':=(if_pos hb).symm.trans z;cases z';subst hb;exact⟨#[],kI,.inl rfl⟩
   ·have z':=(if_neg hb).symm.trans z;cases z'
  ·by_cases hb:b=tp
   ·exact .inr hb
   ·exact absurd (if_neg hb) z
 | none=>
  refine core (λb=>if b=tp then some (.rj dsc) else if b=a then some (.xn {cls:=.type "list",data:=.seq vs.toArray} (.lst (ns.map V.int))) else none) (λb hb=>?_) (if_pos rfl) (.inl (.inr ⟨{cls:=.type "list",data:=.seq vs.toArray},(if_neg (Ne.symm RV)).trans (if_pos rfl)⟩)) (λb u z=>?_) (λb z=>?_) λ_=>hk
  ·by_cases F1:b=a
   ·exact .inr ⟨_,_,(if_neg hb).trans (if_pos F1)⟩
   ·exact .inl ((if_neg hb).trans (if_neg F1))
  ·by_cases hb:b=tp
   ·have z':=(if_pos hb).symm.trans z;cases z';subst hb;exact⟨#[],kI,.inl rfl⟩
   ·by_cases F1:b=a
    ·have z':=((if_neg hb).trans (if_pos F1)).symm.trans z;cases z';subst F1;exact⟨ha,by rw[YL];exact hl,vs,_,rv,ha⟩
    ·have z':=((if_neg hb).trans (if_neg F1)).symm.trans z;cases z'
  ·by_cases hb:b=tp
   ·exact .inr hb
   ·by_cases F1:b=a
    ·exact .inl F1
    ·exact absurd ((if_neg hb).trans (if_neg F1)) z
theorem CP {tp tc:Addr} {dsc:Array Value} {l:PySem.W.OpenLaw} {n k:Nat} {q:Program} {loose:List Str} {XP:(Str->Option Value)->Heap->Prop} {YP:World->Heap->Prop} {d:DefRec} {K:Params->aam} {CX:World->me} {sp:World->Sp} {x:Str}
  (hn:l.most=some n) (NI:n<=sizeLine) (LL:d.params.defaults=[]) (hr:dZ k callerA)
  (hY:∀(w:World) (h:Heap),YP w h->(K w.params).In h)
  (PJ:∀(w:World) (h:Heap),YP w h->h.get? tp=some (PySem.W.tabObj #[])/\PySem.W.CodeHd h tc tp/\(K w.params).lookup tp=none)
  (F:∀(w:World) (mg:Str->Option Value) (fa:Addr) (h:Heap),(K w.params).In h->h.Ns mainGlobals mg->mg d.name=some (.ref fa)->
   ∃fd:FuncData,(∀(s:Shared) (u:Value),BindsTo s fd ⟨[u],[]⟩ [(x,u)])/\
    ∀base:Heap,(K w.params).In base->base.Ns mainGlobals mg->nM base mg tc tp->fz l.prog w (K w.params) mg base (CX w) k fa fd [x] (sp w))
  (EX:∀(w:World) (H:Hp) (a:Addr) (ns:List Int),ns.length<=n->H tp=some (.rj dsc)->aS (K w.params) H a (ns.map V.int)->sp w [.ref a] H (λv _=>v=.bl true) λ_ _ _=>False)
  (PD:∀(w:World) (H:Hp) (s:Shared) (e:Value) (s':Shared),CX w [] H s (λ_ _ _=>False) e s'->False):
  PySem.W.WalkO q loose XP YP l.row.toRowW d [] (λf vs=>PySem.call f vs):=by
 refine EZ.vk hn LL λw s₀ s₁ mg mb fa o pm cd doc a vs ns G Y ho hd u3 LM IL hints hlen hg=>?_;have KX:=hY w _ Y;obtain⟨fd,hb,hF⟩:=F w mg fa _ KX G.T.g LM;obtain⟨t1,t2,t3⟩:=PJ w _ Y;have F0:s₁.heap.BuiltinsAt mg tp:=by
  obtain⟨bm,ob,b1,b2,b3,b4,b5,b6⟩:=G.T.bmain;refine⟨bm,ob,b1,b2,λq=>?_,λq=>?_,b3,b4,b5,b6⟩
  ·obtain⟨o,es,ep,e,hd,_⟩:=G.T.g;rw[q,e] at b3;cases b3;rw[hd] at b6;cases b6
  ·rw[q,t1] at b3;cases b3;cases b4
 exact law_callT KX G.T.g G.T.b G.T.builtins G.T.nolimit hg IL hints (YY hlen NI) hr t1 t2 t3 F0 hF hb (λH hO hS=>EX w H a ns hlen hO hS) λH e s'=>PD w H s₁ e s'
end L2
namespace L2
open PySem PySem.Spec PyProof.Rows
structure jK (P:Program) (w:World) (K:aam) (mg:Str->Option Value) (base:Heap) (CX:me) (k:Nat) (C:Addr) (m:Str) (ps:List Str) (sp:Sp):Prop where
 ex:∃f fd,BW K C m f/\fz P w K mg base CX k f fd ps sp/\Binds K fd ps []
section
variable {X : Cx} {CX : me} {k : Nat} {C : Addr} {m : Str} {ps : List Str} {sp : Sp} {E : XK} {e o : Expr} {es : List Expr} {ta : TE} {t : TA} {pos apos : Pos} {pl : Sem Bool}
theorem Hg (M:jK X.prog X.w X.K X.mg X.base CX k C m ps sp) (c:AH X.K C) (he:PE X o ta) (hr:dZ k X.A) (hx:fJ CX X E) (ha:PA X (e::es) t)
  (hst:starEach (e::es) X.env=(false,eval e X.env)::starEach es X.env:=by injections) (hpl:(backTo pos (starEach es X.env)).any (·.1)=false:=by injections)
  (ht:eval (.Call (.Attribute o m apos) (e::es) [] pos) X.env=(do
   let ov <-eval o X.env
   standAt apos.atName
   let (f,first) <-holding [ov] (getMethod ov m pl)
   callWith pos f first (backTo pos (starEach (e::es) X.env)) (backToKw pos (keywordEach [] X.env))):=by rfl):
  PE X (.Call (.Attribute o m apos) (e::es) [] pos) (kO C m sp [] E ta t):=by
 obtain⟨f,fd,hm,F,hb⟩:=M.ex;exact Fp he c hm F hr hb .nil hx ha hst hpl ht
theorem yi (M:jK X.prog X.w X.K X.mg X.base CX k C m ps sp) (c:AH X.K C) (he:PE X o ta) (hr:dZ k X.A) (hx:fJ CX X E)
  (ht:eval (.Call (.Attribute o m apos) [] [] pos) X.env=(do
   let ov <-eval o X.env
   standAt apos.atName
   let (f,first) <-holding [ov] (getMethod ov m pl)
   callWith pos f first (backTo pos (starEach [] X.env)) (backToKw pos (keywordEach [] X.env))):=by rfl):
  PE X (.Call (.Attribute o m apos) [] [] pos) (kO C m sp [] E ta tNil):=by
 obtain⟨f,fd,hm,F,hb⟩:=M.ex;exact B1 he c hm F hr hb .nil hx ht
end
structure N5 (K:aam) (C:Addr) (m qual:Str) (st:Stmt):Prop where
 ex:∃f fd,xX K m qual st f fd/\BW K C m f
theorem N5.eG {P:Program} {w:World} {K:aam} {mg:Str->Option Value} {base:Heap} {CX:me} {m qual:Str} {st:Stmt} {C:Addr} {ps:List Str} {k:Nat} {sp:Sp} (D:N5 K C m qual st)
  (hb:∀(kV doc pm:Value) (an:Option Addr) (cP ct:Value) (us:List Value),us.length=ps.length->bindArgs (aap m qual (de st) (cS st) (au st) .none kV doc pm an cP ct) ⟨us,[]⟩=pure (ps.zip us))
  (h:∀f fd,xX K m qual st f fd->fz P w K mg base CX k f fd ps sp):jK P w K mg base CX k C m ps sp:=by
 obtain⟨f,fd,F,hm⟩:=D.ex;exact⟨f,fd,hm,h f fd F,F.binds hb⟩
end L2
namespace L2
open PySem PySem.Spec PyProof.Rows PySem.W
@[inline]abbrev jw (mp:Pos):Arguments:={posonlyargs:=[],args:=[{arg:="members",annotation:=none,pos:=mp}],vararg:=none,kwonlyargs:=[],kw_defaults:=[],kwarg:=none,defaults:=[]}
@[inline]abbrev ir (p2 p3 p4 p5 p6 p7 p8:Pos):Expr:=.Call (.Name "len" p2) [.Subscript (.Name "reach" p3) (.Subscript (.Name "members" p4) (.Constant (.int 0) 0 p5) p6) p7] [] p8
@[inline]abbrev dR:Scope:={kind:=.function,names:=[(YK "members",.local),(YK "reach",.free),(YK "len",.globalImplicit)],isGenerator:=false,isCoroutine:=false,more:=[]}
section
variable {prog : Program} {w : World} {A : Around} {s : Shared}
theorem CQ {mg mb:Str->Option Value} {qual:Str} {mp p2 p3 p4 p5 p6 p7 p8:Pos} {F2:List (Str×Addr)} {pm Hh:Value} {f c1 cell ra b d:Addr} {rs ms:Array Value} {i:Int} {t0:Tok} {kvs:List (Key×Value)} {Q:Value->Shared->Prop} {E:Value->Shared->Prop}
  (hf:s.heap.get? f=some (kla_obj "<lambda>" qual (jw mp) (ir p2 p3 p4 p5 p6 p7 p8) dR F2 pm c1 Hh)) (u3:s.heap.CodeRec (.ref c1) qual) (Mc:A.depth<recursionLimit) (Jr:s.heap.NoLimit)
  (hg:s.heap.Ns mainGlobals mg) (hlen:mg "len"=none) (hb:s.heap.Ns builtinsNs mb) (PB:∀x:Str,x≠"__name__"->mb x=bootBuiltins x)
  (FL:F2.lookup (YK "reach")=some cell) (rC:s.heap.IsCell cell (some (.ref ra))) (N6:s.heap.IsList ra rs) (UJ:s.heap.IsList b ms) (h0:ms[0]?=some (.int i t0)) (UK:0<=i) (hi:i<2^63)
  (PK:rs[i.toNat]?=some (.ref d)) (hd:(d==sysModules)=false) (dd:s.heap.DictOf (cC prog w) d kvs) (IJ:(kvs.length:Int)<2^63)
  (h:∀h' tk t,(∀x o,s.heap.get? x=some o->h'.get? x=some o)->Q (.int kvs.length t) {s with heap:=h',toks:=tk}):
  wpAny (model prog w) A (call (.ref f) [.ref b]) Q E s:=by
 refine wpAny_call (kla_callFunE Mc hf rfl rfl rfl rfl u3 ?_);have CO:bindArgs (kla_fn "<lambda>" qual (jw mp) (ir p2 p3 p4 p5 p6 p7 p8) dR F2 pm (.ref c1) Hh) ⟨[.ref b],[]⟩=pure [(YK "members",.ref b)]:=rfl;rw[CO];have UL:∀x∈dR.names,x.2≠NameKind.cell:=∅
 have LQ:∀x∈[(YK "members",Value.ref b)],dR.names.lookup x.1=some NameKind.local:=λx hx=>by rw[aav.mp hx];rfl
 refine wpAny_pure (wpAny_newFunctionEnv UL LQ (λh₁ BA RX=>⟨Jr.fresh _ RX,?_⟩) rfl);have hk:∀x o,s.heap.get? x=some o->h₁.get? x=some o:=λx o e=>RX.extBut x o (YW (aay e)) (aaw _ e);show codeAny _ _ (.expr (ir p2 p3 p4 p5 p6 p7 p8) (envX qual dR s.heap.objs.size f (.ref c1) F2)) _ _;refine kla_codeExpr ?_;refine wpAny_Call_Name_kw (Calls.Name_function_global rfl rfl (Calls.loadGlobal_builtin (hg.keeps hk) hlen (hb.keeps hk) ((PB _ ∅).trans (show bootBuiltins "len"=some (.builtin "len") from rfl)) ?_) ∅);refine PyProof.Rows.callWith_builtin1 ?_;refine Calls.spliced_cons (Subscript_ (wpAny_Name (wpAny_loadName_free rfl rfl FL (rC.keeps hk) ?_)));refine Subscript_ (wpAny_Name (wpAny_loadName_local rfl rfl BA (v:=.ref b) rfl (wpAny_Constant_int ?_)));obtain⟨om,m1,m2,m3⟩:=UJ;obtain⟨orr,r1,r2,r3⟩:=N6;refine item_listR (s:={s with heap:=h₁,toks:=_}) (l:=b) (items:=ms) ⟨om,hk _ _ m1,m2,m3⟩ ∅ ∅ (x:=.int i t0) h0 ?_;refine item_listR (s:={s with heap:=h₁,toks:=_}) (l:=ra) (items:=rs) ⟨orr,hk _ _ r1,r2,r3⟩ UK hi (x:=.ref d) PK (Calls.spliced_nil ?_);obtain⟨o,es,ep,e1,e2⟩:=dd;exact call_len_dict hd (show(Shared.mk _ _ _ _ _).heap.DictOf (cC prog w) d kvs from⟨o,es,ep,hk _ _ e1,e2⟩) IJ (h _ _ _ hk)
end
abbrev CS (tp:Addr) (dsc:Array Value) (i:Nat) (te:TE):TE:=λσ H Q=>te σ H λv H1=>∃(a:Addr) (bs:List Addr) (key:Addr->Int) (ra:Addr) (rs:List V),v=.ref a/\H1 a=some (.lst (List.map V.ref bs))/\bs.length<64/\σ[i]?=some (some (.ref ra))/\H1 ra=some (.lst rs)/\H1 tp=some (.rj dsc)/\
 (∀b∈bs,∃j xs d kvs,H1 b=some (.lst (.int j::xs))/\0<=j/\j<1000000/\rs[j.toNat]?=some (.ref d)/\H1 d=some (.dK kvs)/\key b=(kvs.length:Int))/\
 ∀p cs H2,aA H1 H2->H1 p=none->H2 p=some (.lst (List.map V.ref cs))->cs.Perm bs->cs.Pairwise (λb c=>key b<=key c)->Q (.ref p) H2
abbrev E3:Value->Addr
 | .ref a=>a
 | _=>0
theorem rX:∀{bs:List Addr} {aW:List Value},br (bs.map V.ref) aW->aW=bs.map Value.ref
 | [],_,.nil=>rfl
 | _::bs,_,.cons r t=>by rw[rX (bs:=bs) t,show _=Value.ref _ from r];rfl
section
variable {X : Cx}
theorem CT {i k:Nat} {tc tp:Addr} {dsc:Array Value} {t0:Tok} {e:Expr} {te:TE} {p1 pos kp lp mp p2 p3 p4 p5 p6 p7 p8:Pos} (hg:Gl X "sorted") (hm:X.mg "sorted"=none) (hl:X.mg "len"=none) (hB:nM X.base X.mg tc tp)
  (Hi:X.env.code=.ref tc) (hr:dZ k X.A) (Md:dsc=#[rawInt lp.line,rawInt lp.col,.str (X.env.qual++"<lambda>") t0]) (he:PE X e te) (hN:X.N[i]?=some "reach":=by rfl) (hv:X.env.kindOf "reach"=some .cell:=by rfl) (n1:noStar e=true:=by rfl):
  PE X (.Call (.Name "sorted" p1) [e] [⟨some "key",.Lambda (jw mp) (ir p2 p3 p4 p5 p6 p7 p8) dR lp,kp⟩] pos) (CS tp dsc i te):=by
 intro pins s σ H Q I h;refine wpAny_Call_Name_kw (g8 I hg hm (u:=.builtin "sorted") rfl ?_ ∅ ∅);refine PyProof.Rows.callWith_kw (e:=e) (rest:=[]) ?_ (by rw[se n1];rfl) (by rw[se n1];rfl) rfl rfl;rw[se n1];show wpAny _ _ (spliced [(false,eval e X.env)]) _ _ s;refine Calls.spliced_cons (cO (he pins s σ H _ I h) λu s1 ⟨x,H1,I1,r1,q1⟩=>Calls.spliced_nil ?_);obtain⟨a,bs,key,ra,rs,rfl,ha,Jj,eσ,N6,kI,UM,q⟩:=q1;cases r1;obtain⟨cell,ec⟩:=I1.ok.has "reach" (.inl hv);obtain⟨cl,RY,c1,c2,c3⟩:=gi (env:=X.env) (scope:=dR) (λn hn=>by
  have:n="reach":=by
   simp only[ZT,Prod.mk.injEq,ZX,or_false] at hn;rcases hn with ⟨_,z⟩ | ⟨z,_⟩ | ⟨_,z⟩
   ·cases z
   ·exact z
   ·cases z
  rw[this];exact⟨cell,ec⟩)
 have FL:cl.lookup (YK "reach")=some cell:=by
  obtain⟨c,ee⟩:=c2 "reach" (.tail _ (.head _));have:=c1 _ _ ee;rw[ec] at this;cases this;exact ee
 have mk:∀R:Value->Shared->Prop,(∀f c1 pm Hh H2 s2,Inv X pins σ H2 s2->aA H1 H2->s2.heap.get? f=some (kla_obj "<lambda>" (X.env.qual++"<lambda>") (jw mp) (ir p2 p3 p4 p5 p6 p7 p8) dR cl pm c1 Hh)->s2.heap.CodeRec (.ref c1) (X.env.qual++"<lambda>")->R (.ref f) s2)->
   wpAny (model X.prog X.w) X.A (makeFunction "<lambda>" (X.env.qual++"<lambda>") (jw mp) (.expr (ir p2 p3 p4 p5 p6 p7 p8)) dR X.env [] [] [] lp lp.line) R X.xe s1:=by
  intro R hR;obtain⟨mo,e1,e2⟩:=I1.cw tp _ kI;have PL:=I1.mod.glob.keeps I1.bk;have hC:=hB.code.keeps I1.bk;have RZ:=hB.blt.keeps I1.bk;rcases e2 with rfl | ⟨l,c,c',qn,t,f1,rfl,f3,f4⟩
  ·refine kla_makeFunction (mg:=X.mg) (c:=tc) (P:=tp) RY I1.ok.glob PL Hi hC e1 trivial rfl (λz=>?_) RZ λc' Hh h' tk hx zg gG PM N7=>?_
   ·obtain⟨o,es,ep,ee,hd,_⟩:=PL;rw[z,e1] at ee;cases ee;cases hd
   have N7:h'.get? tp=some (tabObj #[rawInt lp.line,rawInt lp.col,.ref c']):=N7;have nc:H1 c'=none:=I1.cw.fresh zg;have X5:tp≠c':=λz=>by rw[z,nc] at kI;cases kI
   have kk:∀b o,b≠tp->s1.heap.get? b=some o->(h'.push (kla_obj "<lambda>" (X.env.qual++"<lambda>") (jw mp) (ir p2 p3 p4 p5 p6 p7 p8) dR cl ((X.mg "__name__").getD .none) c' Hh)).get? b=some o:=λb o hb ee=>aaw _ (hx b o hb ee);obtain⟨R1,oc,vs,t2,g1,g2,g3,g4⟩:=PM;cases g1;refine hR _ c' _ _ (upd H1 c' (.own tp)) _ (I1.un (t':=tk) ⟨λb o ee n _ _=>kk b o (λz=>by rw[z,kI] at n;cases n) ee,λb o ee n _ _=>⟨o.slots,kk b o (λz=>by rw[z,kI] at n;cases n) ee⟩,λb o ee n _=>?_,λb o ee _=>?_,λb xs ee=>?_,λb o u ee=>?_,λb ps ee=>⟨#[],?_⟩⟩ λb o ee=>?_) (λb o ee=>?_) (aax _ rfl) ⟨c',oc,vs,t2,rfl,aaw _ g2,g3,g4⟩
   ·rw[aK (YW (Y3 (aay ee) zg))];exact n
   ·by_cases hb:b=tp
    ·subst hb;exact⟨_,aaw _ N7⟩
    ·exact⟨o,kk b o hb ee⟩
   ·rw[aK (bE ee nc)];exact ee
   ·rw[aK (bE ee nc)];exact ee
   ·rw[aK (bE ee nc),ee,Array.append_empty]
   ·by_cases hb:b=c'
    ·subst hb;rw[ag] at ee;cases ee;exact⟨oc,aaw _ g2⟩
    ·rw[aK hb] at ee
     by_cases R3:b=tp
     ·subst R3;rw[kI] at ee;cases ee;exact⟨_,aaw _ N7,.inr ⟨_,_,c',_,_,Md,rfl,ag,c',oc,vs,t2,rfl,aaw _ g2,g3,g4⟩⟩
     ·refine(I1.cw b o ee).qK (λx u nG e3=>kk x u (λz=>?_) e3) (λx e3=>by rw[aK (bE e3 nc)];exact e3) λx xs e3=>by rw[aK (bE e3 nc)];exact e3
      rcases nG with nG | nG
      ·exact R3 (nG.symm.trans z)
      ·rw[z,kI] at nG;cases nG
   ·rw[aK (bE ee nc)];exact ee
  ·rw[Md] at f1;have f1:=congrArg Array.toList f1;simp only[List.cons.injEq,and_true] at f1;obtain⟨f1,f2,f5⟩:=f1
   injection f5 with f5 _
   subst f1 f2 f5;have ht:TriplesOk [rawInt lp.line,rawInt lp.col,Value.ref c']:=by simp [TriplesOk,rawInt]
   have hf:codeAmong lp [rawInt lp.line,rawInt lp.col,Value.ref c']=some (.ref c'):=by simp [codeAmong,rawInt]
   refine kla_makeFunctionHit (mg:=X.mg) (c:=tc) (P:=tp) RY I1.ok.glob PL Hi hC e1 ht hf RZ λHh h' tk hk hsz=>?_;obtain⟨R1,oc,vs,t2,g1,g2,g3,g4⟩:=f4;cases g1;exact hR _ c' _ _ H1 _ (I1.kept (t':=tk) λb o ee=>aaw _ (hk b o ee)) (aA.refl _) (aax _ rfl) ⟨c',oc,vs,t2,rfl,aaw _ (hk _ _ g2),g3,g4⟩
 refine PyProof.Rows.kws_cons (kla_eval rfl (mk _ λf c' pm Hh H2 s2 I2 sm hf u3=>PyProof.Rows.kws_nil ?_));show wpAny _ _ (call (.builtin "sorted") [.ref a] [(YK "key",.ref f)]) _ _ _;obtain⟨m2,Js,vd⟩:=I2.loc;obtain⟨aW,n,rv,eo,hz⟩:=I2.lst (sm _ _ ha);have PN:=rX rv;subst PN;have rC:s2.heap.IsCell cell (some (.ref ra)):=by
  obtain⟨u,ru,lu⟩:=vd i "reach" (.ref ra) hN eσ (.inr (.inl hv));cases ru;rcases lu with ⟨hk,_⟩ | ⟨_,c,e1,e2⟩
  ·rw[hv] at hk;cases hk
  ·rw[ec] at e1;cases e1;exact e2
 have nL:∀{b:Addr} {u:HO},H2 b=some u->b≠X.env.locals:=λe z=>by rw[z,I2.free] at e;cases e
 have dL:∀{b:Addr} {o:Obj},s2.heap.get? b=some o->(∀es ep,o.data≠.dict es ep)->b≠X.env.locals:=λe hd z=>by
  obtain⟨o',es,ep,e',Lj,_⟩:=Js;rw[z,e'] at e;cases e;exact hd es ep Lj
 refine ksk_sorted (h₀:=EZ.tG s2.heap) (L:=X.env.locals) (m:=m2) (news:=EZ.ledger s2.heap X.env.locals X.env.locals) (kz:=bs.map key) (vs:=bs.map Value.ref) (f:=.ref f) (b:=false) (EZ.IM Js)
  (λp hp=>by obtain⟨x,o⟩:=p;obtain⟨n1,_,ee⟩:=EZ.ia.mp hp;exact⟨ee,n1,EZ.pC _ _⟩) ⟨_,eo,rfl,_,rfl⟩ (by rw[YL,YL]) (by rw[YL];exact Jj) (ksk_s1 _ _) (λx=>ksk_l1 _ _) (λx=>ksk_t1 _ _) ?turn ?done
 case turn=>
  intro j v k0 ev ek h3 tk own F3 N3;rw[YO] at ev ek;obtain⟨b,eb,rfl⟩:=aas.mp ev;rw[eb] at ek;cases ek;have kp:∀x o,x≠X.env.locals->s2.heap.get? x=some o->h3.get? x=some o:=λx o hx ee=>(N3 (x,o) (Z5 _ (EZ.ia.mpr ⟨hx,hx,ee⟩))).1;have kb:∀x o,X.base.get? x=some o->h3.get? x=some o:=λx o ee=>kp x o (λz=>by
   have l1:x<X.base.objs.size:=aay ee;have l2:=I2.ok.BI;have l3:=I2.ok.above;rw[z] at l1;exact absurd (Y3 l1 (YY l2 l3)) (Zj _)) (I2.bk x o ee)
  obtain⟨j0,xs,d,kvs,hb,g0,g1,gd,hd,PQ⟩:=UM b (YQ eb);obtain⟨X6,nb,UN,UO,_⟩:=I2.lst (sm _ _ hb);obtain⟨X7,nr,UP,UQ,_⟩:=I2.lst (sm _ _ N6);obtain⟨mb,UR,PR⟩:=I2.mod.blt;obtain⟨ui,US,t1,rfl⟩:=UN.get (i:=0) (x:=.int j0) rfl;obtain⟨ud,UT,UU⟩:=UP.get gd;obtain rfl:ud=Value.ref d:=UU;obtain⟨z1,UW,vs,rel,o,es,ep,ed,PU⟩:=I2.cw d _ (sm _ _ hd);obtain⟨R1,oc,OC,t2,w1,w2,w3,w4⟩:=u3;cases w1;obtain⟨oe,R4,R5⟩:=rC;have sl:=sizeLine_eq;have rl:=rel.length;refine CQ (s:={s2 with heap:=h3,toks:=tk}) (kvs:=vs) (kp _ _ (dL hf λ_ _ z=>by cases z) hf) ⟨c',oc,OC,t2,rfl,kp _ _ (dL w2 λ_ _ z=>by rw[w3] at z;cases z) w2,w3,w4⟩ hr.depth (I2.mod.nolimit.keeps kb) (I2.mod.glob.keeps kb) hl (UR.keeps kb) PR FL
   ⟨oe,kp _ _ (dL R4 λ_ _ z=>by rw[R5] at z;cases z) R4,R5⟩ ⟨_,kp _ _ (nL (sm _ _ N6)) UQ,rfl,_,rfl⟩ ⟨_,kp _ _ (nL (sm _ _ hb)) UO,rfl,_,rfl⟩ (by simpa using US) g0 ⋯ (by simpa using UT) UW ⟨o,es,ep,kp _ _ (nL (sm _ _ hd)) ed,PU⟩ ⋯ λh4 UX t4 k4=>?_
  rw[PQ,show((kvs.length:Nat):Int)=((vs.length:Nat):Int) by rw[rl]];exact⟨h4,UX,t4,rfl,rfl,F3.kept k4,N3.grown k4⟩
 case done=>
  intro D h3 tk out c F3 N3 lt ko;obtain⟨ps,hp,ho,hs⟩:=ko;have ez:(bs.map key).zip (bs.map Value.ref)=bs.map λb=>(key b,Value.ref b):=by
   rw[List.zip_map',]
  rw[ez] at hp;have mem:∀p∈ps,p=(key (E3 p.2),Value.ref (E3 p.2)):=λp kH=>by
   obtain⟨b,_,rfl⟩:=aau.mp (hp.mem_iff.mp kH);rfl
  have nd:(D:Addr)≠X.env.locals:=(N3 _ (.head _)).2.1;have dn:s2.heap.get? D=none:=by
   cases ee:s2.heap.get? D with
   | none=>rfl
   | some o=>exact absurd (lt (D,o) (EZ.ia.mpr ⟨nd,nd,ee⟩)) (Zj _)
  have hD:H2 D=none:=by
   cases ee:H2 D with
   | none=>rfl
   | some o=>
    obtain⟨ob,e'⟩:=cX.get (I2.cw D o ee);rw[dn] at e';cases e'
  have kp:∀x o,x≠X.env.locals->s2.heap.get? x=some o->h3.get? x=some o:=λx o hx ee=>(N3 (x,o) (YU _ (EZ.ia.mpr ⟨hx,hx,ee⟩))).1;have PX:out=((ps.map λp=>E3 p.2).map Value.ref).toArray:=by
   have:out.toList=(ps.map λp=>E3 p.2).map Value.ref:=by
    rw[ho,ZA];exact List.map_congr_left λp kH=>congrArg Prod.snd (mem p kH)
   rw[<-this,Array.toArray_toList]
  have pm:(ps.map λp=>E3 p.2).Perm bs:=by
   have:=hp.map λp=>E3 p.2;rw[ZA] at this;exact this.trans (List.Perm.of_eq (by rw[show((λp:Int×Value=>E3 p.2) ∘λb=>(key b,Value.ref b))=id from rfl,List.map_id]))
  have pl:=pm.length_eq;have R6:=(N3 _ (.head _)).1;have sl:=sizeLine_eq;refine⟨.ref D,upd H2 D (.lst ((ps.map λp=>E3 p.2).map V.ref)),I2.step (ch:=[]) (g':=s2.gens) (d':=s2.drawn) (t':=tk) (λ_ z=>nomatch z) (λb o h1 _ _ ee _=>kp b o h1 ee) (λb o h1 _ _ ee _=>⟨o.slots,kp b o h1 ee⟩) (λb o _ ee n=>?_) (λb o _ ee=>?_) (λb xs ee=>?_) (λb o u ee=>?_) (λb qs ee=>⟨#[],?_⟩) (λm hn=>?_) (λb o ee=>?_) I2.bare,rfl,?_⟩
  ·rw[aK (λz=>by rw[z,dn] at ee;cases ee)];exact n
  ·by_cases hb:b=X.env.locals
   ·obtain⟨o',_,_,e',_⟩:=F3.ns;exact⟨o',by rw[hb];exact e'⟩
   ·exact⟨o,kp b o hb ee⟩
  ·rw[aK (bE ee hD)];exact ee
  ·rw[aK (bE ee hD)];exact ee
  ·rw[aK (bE ee hD),ee,Array.append_empty]
  ·have e1:=hn.eq_nsMap;have e2:=Js.eq_nsMap;rw[e1,<-e2];exact F3.ns
  ·by_cases hb:b=D
   ·subst hb;rw[ag] at ee;cases ee;refine⟨by rw[YL,pl];lia,(ps.map λp=>E3 p.2).map Value.ref,c,?_,by rw[PX] at R6;exact R6⟩;generalize (ps.map λp=>E3 p.2)=cs
    induction cs with
    | nil=>exact .nil
    | cons x cs ih=>exact .cons rfl ih
   ·rw[aK hb] at ee;refine(I2.cw b o ee).qK (λx u nG e3=>kp x u (λz=>?_) e3) (λx e3=>by rw[aK (bE e3 hD)];exact e3) λx xs e3=>by rw[aK (bE e3 hD)];exact e3
    rcases nG with nG | nG
    ·subst nG;exact nL ee z
    ·exact nL nG z
  ·refine q D _ _ (sm.trans λb o ee=>by rw[aK (bE ee hD)];exact ee) ?_ ag pm ?_
   ·cases ee:H1 D with
    | none=>rfl
    | some o=>rw[sm _ _ ee] at hD;cases hD
   ·rw[List.pairwise_map];refine hs.imp_of_mem λ{x y} hx hy hle=>?_;have hle:x.1<=y.1:=hle;rw[mem x hx,mem y hy] at hle;exact hle
end
abbrev Me (K:aam) (mg:Str->Option Value) (x:Str) (tc:Addr):Prop:=∃f oc od fd By,mg x=some (.ref f)/\K.lookup f=some ⟨oc,od,.func fd,By⟩/\fd.code=.ref tc
section
variable {P : Program} {w : World} {K : aam} {mg : Str -> Option Value} {base : Heap} {CX : me}
theorem xX.UY {x qual:Str} {st:Stmt} {f tc:Addr} {fd:FuncData} {N ps:List Str} {k:Nat} {sp:Sp} (F:xX K x qual st f fd) (hc:fd.code=.ref tc) (S:aN N ps (au st)) (len:∀vs H Q E,sp vs H Q E->vs.length=ps.length)
  (u9:∀(A:Around) (outer:List Env) (s:Shared) (H:Hp) (vs:List V) (Q:VK) (E:XK),dZ k (A.deeper (envOfC qual (au st) s.heap.objs.size f (.ref tc)))->sp vs H Q E->
   ∃t,xC (xT CX P w K mg base N qual (au st) f (.ref tc) A outer s H E).KH (cS st) t/\t {nx:=λ_ H'=>Q .cJ H',rt:=Q} (start N vs) H):fz P w K mg base CX (k+1) f fd ps sp:=by
 obtain⟨oc,od,kV,doc,pm,an,cP,ct,By,rfl,lk,u3⟩:=F.ex;have hc:cP=.ref tc:=hc;subst hc;refine G6 lk u3 S len λA outer s H vs Q E hr EX=>?_;obtain⟨t,h,q⟩:=u9 A outer s H vs Q E hr EX;exact⟨t,h.KH,q⟩
theorem Dn.PY {x:Str} {st:Stmt} {ps:List Str} {k:Nat} {sp:Sp} {tc:Addr} (D:Dn K mg x st) (L:Me K mg x tc)
  (hb:∀(kV doc pm:Value) (an:Option Addr) (cP ct:Value) (us:List Value),us.length=ps.length->bindArgs (aap x x (de st) (cS st) (au st) .none kV doc pm an cP ct) ⟨us,[]⟩=pure (ps.zip us))
  (h:∀f fd,xX K x x st f fd->fd.code=.ref tc->fz P w K mg base CX k f fd ps sp):bK P w K mg base CX k x ps sp:=by
 obtain⟨f,fd,F,hm⟩:=D.ex;obtain⟨f',oc,od,X8,By,h1,h2,h3⟩:=L;rw[hm] at h1;cases h1;obtain⟨X9,Yb,_,_,_,_,_,_,UZ,_,lk,_⟩:=F.ex;rw[lk] at h2;cases h2;exact⟨f,fd,h f fd F h3,hm,F.kp,F.binds hb⟩
end
end L2
namespace L2
open PySem PySem.Spec PyProof.Rows PySem.W
mutual
noncomputable def vJ:PyData->Bool
 | .none=>true
 | .int _=>true
 | .str x=>PyData.canLay0 (.str x)
 | .tuple xs=>vK xs
 | .list xs=>vK xs
 | _=>false
noncomputable def vK:List PyData->Bool
 | []=>true
 | x::xs=>vJ x && vK xs
end
mutual
theorem oI:∀(d:PyData),vJ d=true->d.canLay0=true
 | .none,_=>by simp [PyData.canLay0]
 | .bool _,h=>by simp [vJ] at h
 | .int _,_=>by simp [PyData.canLay0]
 | .str x,h=>by rw[vJ] at h;exact h
 | .list xs,h=>by rw[vJ] at h;rw[PyData.canLay0];exact pV xs h
 | .tuple xs,h=>by rw[vJ] at h;rw[PyData.canLay0];exact pV xs h
 | .dict _,h=>by simp [vJ] at h
theorem pV:∀(xs:List PyData),vK xs=true->PyData.canLayAll0 xs=true
 | [],_=>by simp [PyData.canLayAll0]
 | x::xs,h=>by
  rw[vK,Zx] at h;rw[PyData.canLayAll0,Zx];exact⟨oI x h.1,pV xs h.2⟩
end
mutual
theorem zA:∀(x y:PyData),vJ x=true->vJ y=true->PyData.eqv x y=decide (x=y)
 | .none,y,_,hy=>by cases y <;>simp [PyData.eqv]
 | .int i,y,_,hy=>by
  cases y with
  | int j=>
   rw[PyData.eqv]
   by_cases c:i=j
   ·subst c;simp
   ·rw[decide_eq_false (λe=>c (by injection e))];simp [c]
  | bool _=>simp [vJ] at hy
  | _=>simp [PyData.eqv]
 | .str a,y,_,hy=>by
  cases y with
  | str b=>
   rw[PyData.eqv]
   by_cases c:a=b
   ·subst c;simp
   ·rw[decide_eq_false (λe=>c (by injection e))];simp [c]
  | _=>simp [PyData.eqv]
 | .tuple xs,y,hx,hy=>by
  cases y with
  | tuple ys=>
   rw[vJ] at hx hy;rw[PyData.eqv,pW xs ys hx hy]
   by_cases c:xs=ys
   ·subst c;simp
   ·rw[decide_eq_false c,decide_eq_false (λe=>c (by injection e))]
  | _=>simp [PyData.eqv]
 | .list xs,y,hx,hy=>by
  cases y with
  | list ys=>
   rw[vJ] at hx hy;rw[PyData.eqv,pW xs ys hx hy]
   by_cases c:xs=ys
   ·subst c;simp
   ·rw[decide_eq_false c,decide_eq_false (λe=>c (by injection e))]
  | _=>simp [PyData.eqv]
 | .bool _,_,h,_=>by simp [vJ] at h
 | .dict _,_,h,_=>by simp [vJ] at h
theorem pW:∀(xs ys:List PyData),vK xs=true->vK ys=true->PyData.eqvAll xs ys=decide (xs=ys)
 | [],[],_,_=>by simp [PyData.eqvAll]
 | [],_::_,_,_=>by simp [PyData.eqvAll]
 | _::_,[],_,_=>by simp [PyData.eqvAll]
 | x::xs,y::ys,hx,hy=>by
  rw[vK,Zx] at hx hy;rw[PyData.eqvAll,zA x y hx.1 hy.1,pW xs ys hx.2 hy.2]
  by_cases c:x=y
  ·subst c
   by_cases d:xs=ys
   ·subst d;simp
   ·rw[decide_eq_false d,decide_eq_false (λe=>d (List.cons.inj e).2)];simp
  ·rw[decide_eq_false c,decide_eq_false (λe=>c (List.cons.inj e).1)];simp
end
section
variable {X : Cx} {K : aam}
abbrev Ke (d:Dat):Prop:=vJ (toP d)=true/\(toP d).depth<=8
theorem Jt {A:Around} {s:Shared} {a b:PyData} {u v:Value} {as bs:List Addr} (ra:Reads s.heap u a as) (rb:Reads s.heap v b bs) (ha:vJ a=true) (hb:vJ b=true) (da:a.depth<=8) (db:b.depth<=8) (hu:A.units+8<cLine):SeqAt.EqAt A s u v (decide (a=b)):=λprog w E Q h=>
 SeqAt.eqBoolOverData _ _ _ _ _ _ _ _ _ _ _ _ ra rb (oI _ ha) (oI _ hb) ⋯ (by rw[zA _ _ ha hb];exact h)
theorem CU {s:Shared} {ds:List Dat} {d:Dat} (nN:∀e∈ds,Ke e) {u:Value} {e:Dat} {bs:List Addr} [Decidable (∃cs,Reads s.heap u (toP d) cs)] (he:e∈ds) (re:Reads s.heap u (toP e) bs):decide (∃cs,Reads s.heap u (toP d) cs)=decide (toP e=toP d):=by
 by_cases c:toP e=toP d
 ·rw[decide_eq_true c,decide_eq_true ⟨bs,by rw[<-c];exact re⟩]
 ·rw[decide_eq_false c,decide_eq_false];rintro⟨cs,rc⟩;exact c (SeqAt.Reads.unique _ _ _ _ _ (oI _ (nN e he).1) re rc)
abbrev PZ:V->List V->Hp->VK->Prop:=λx vs H Q=>∃l xs ds v d i,x=.ref l/\vs=[v]/\H l=some (.lst xs)/\a8 H ds xs/\(∀e∈ds,Ke e)/\Rep H d v/\Ke d/\(ds.map toP)[i]?=some (toP d)/\(∀j,j<i->(ds.map toP)[j]?≠some (toP d))/\i<100000/\Q (.int (i:Nat)) H
theorem A7 (hu:X.A.units+64<cLine):KJ X "list.index" PZ:=by
 classical
 intro pins s σ H x vs v us Q I rx rv h;obtain⟨l,xs,ds,y,d,i,rfl,rfl,hp,rd,nN,U0,hd,hi,U1,i6,q⟩:=h;cases rx;obtain⟨u,rfl,ru⟩:=vals1 rv;obtain⟨aW,r,pl,hz⟩:=I.list (aS.of hp);obtain⟨as,ra⟩:=pU I.cw d y u U0 ru;have l1:=rd.length;have l2:=r.length;have at_:∀(j:Nat) (hj:j<aW.length),∃e bs,ds[j]?=some e/\e∈ds/\Reads s.heap aW[j] (toP e) bs:=λj hj=>by
  obtain⟨e,bs,ed,re⟩:=rW I.cw rd r (YM hj);exact⟨e,bs,ed,YQ ed,re⟩
 have U2:i<aW.length:=by
  have:=(aat.mp hi).1;rw[YL] at this;lia
 obtain⟨⟨c1,d1,d2,sl⟩,ho,e1,m,e2⟩:=pl.isList;cases e1;cases e2;have hit:decide (∃cs,Reads s.heap aW[i] (toP d) cs)=true:=by
  obtain⟨e,bs,ed,he,re⟩:=at_ i U2;rw[CU nN he re];rw[YO,ed] at hi;exact decide_eq_true (Zb hi)
 refine call_meets PySem.F.slot_list_index ⟨_,ho,rfl⟩ PySem.F.entry_list_index (PySem.F.args_list_index_2 _ _) (PySem.SeqAt.list_indexAt l aW.toArray m d1 sl u (λu=>decide (∃cs,Reads s.heap u (toP d) cs)) i (by rw[YX];lia) ⋯ hit (λj hj hl=>?_)) ⟨ho,λy hy=>?_,⟨.int _,H,I.tok _,⟨_,rfl⟩,q⟩⟩
 ·rw[YX] at hj;obtain⟨e,bs,ed,he,re⟩:=at_ j hj;show decide (∃cs,Reads s.heap aW[j] (toP d) cs)=false;rw[CU nN he re];refine decide_eq_false λz=>U1 j hl ?_;rw[YO,ed];exact congrArg some z
 ·obtain⟨j,ej⟩:=Ze (List.mem_toArray.mp hy);obtain⟨e,bs,ed,re⟩:=rW I.cw rd r ej;have he:=YQ ed;show SeqAt.EqAt _ _ _ _ (decide _);rw[CU nN he re];exact Jt re ra (nN e he).1 hd.1 (nN e he).2 hd.2 (by show X.A.units+1+8<cLine;lia)
end
end L2
namespace L2
open PySem PyProof.Rows
theorem exV {b:V} {Q:V->Prop}:(∃v,(some (some b):Option (Option V))=some (some v)/\Q v)=Q b:=propext ⟨fun⟨_,e,h⟩=>by cases e;exact h,λh=>⟨b,rfl,h⟩⟩
theorem exI {a:Int} {Q:Int->Prop}:(∃i,V.int a=V.int i/\Q i)=Q a:=propext ⟨fun⟨_,e,h⟩=>by cases e;exact h,λh=>⟨a,rfl,h⟩⟩
theorem exB {a:Bool} {Q:Bool->Prop}:(∃i,V.bl a=V.bl i/\Q i)=Q a:=propext ⟨fun⟨_,e,h⟩=>by cases e;exact h,λh=>⟨a,rfl,h⟩⟩
theorem exR {a:Addr} {Q:Addr->Prop}:(∃i,V.ref a=V.ref i/\Q i)=Q a:=propext ⟨fun⟨_,e,h⟩=>by cases e;exact h,λh=>⟨a,rfl,h⟩⟩
theorem exS {a:Str} {Q:Str->Prop}:(∃i,V.str a=V.str i/\Q i)=Q a:=propext ⟨fun⟨_,e,h⟩=>by cases e;exact h,λh=>⟨a,rfl,h⟩⟩
theorem exII {a b:Int} {Q:Int->Int->Prop}:(∃i j,V.int a=V.int i/\V.int b=V.int j/\Q i j)=Q a b:=propext ⟨fun⟨_,_,e,f,h⟩=>by cases e;cases f;exact h,λh=>⟨a,b,rfl,rfl,h⟩⟩
theorem exRI {a:Addr} {k:Int} {Q:Addr->List V->Int->V->Prop}:(∃p xs i v,V.ref a=V.ref p/\V.int k=V.int i/\Q p xs i v)=∃xs v,Q a xs k v:=propext ⟨fun⟨_,xs,_,v,e,f,h⟩=>by cases e;cases f;exact⟨xs,v,h⟩,fun⟨xs,v,h⟩=>⟨a,xs,k,v,rfl,rfl,h⟩⟩
theorem exRa {α:Type} {a:Addr} {Q:Addr->α->Prop}:(∃p v,V.ref a=V.ref p/\Q p v)=∃v,Q a v:=propext ⟨fun⟨_,v,e,h⟩=>by cases e;exact⟨v,h⟩,fun⟨v,h⟩=>⟨a,v,rfl,h⟩⟩
theorem exRb {α β:Type} {a:Addr} {Q:Addr->α->β->Prop}:(∃p v u,V.ref a=V.ref p/\Q p v u)=∃v u,Q a v u:=propext ⟨fun⟨_,v,u,e,h⟩=>by cases e;exact⟨v,u,h⟩,fun⟨v,u,h⟩=>⟨a,v,u,rfl,h⟩⟩
theorem scal_ss {a b:Str}:xJ (.str a) (.str b)=true:=rfl
theorem scal_ii {a b:Int}:xJ (.int a) (.int b)=true:=rfl
theorem scal_bb {a b:Bool}:xJ (.bl a) (.bl b)=true:=rfl
theorem scal_si {a:Str} {b:Int}:xJ (.str a) (.int b)=true:=rfl
theorem scal_is {a:Int} {b:Str}:xJ (.int a) (.str b)=true:=rfl
end L2
namespace L2
open PySem PySem.Spec PyProof.Rows
section
variable {X : Cx}
theorem vL:Ll X rIxLH:=by
 intro pins s σ H x y v u Q I rx ry h;obtain⟨p,xs,i,z,rfl,rfl,hq,he,q⟩:=h;cases rx;obtain⟨t,rfl⟩:=ry;obtain⟨aW,r,pl,hz⟩:=I.list (aS.of hq);obtain⟨j,h1,h2,h3,h4,h5⟩:=sZ he;obtain⟨w,ew,l7⟩:=r.get h2;have hl:=r.length;have hn:=o6;have fin:EP X pins σ Q w s:=⟨z,H,I,l7,q⟩
 by_cases h0:0<=i
 ·have hj:i.toNat=j:=by
   rw[seqIndex_of h0 h5] at h1;exact Zb h1
  exact wpAny_getItem_list pl.isList h0 ⋯ (by rw[hj];simpa using ew) fin
 ·have hj:(i+ (aW.toArray.size:Int)).toNat=j:=by
   rw[seqIndex_neg ⋯ h4] at h1;rw[YX,<-hl];exact Zb h1
  exact wpAny_getItem_list_neg pl.isList ⋯ (by rw[YX] <;>lia) ⋯ (by rw[hj];simpa using ew) fin
theorem tU {K:aam} {e:Expr} {f:Str} {pos:Pos} {ta:TE} (he:PE X e ta) (hb:attributeBase e f X.env (eval e X.env)=eval e X.env) (hK:X.K=K:=by rfl):PE X (.Attribute e f pos) (iR K ta f):=by subst hK;exact dN he hb
theorem yj (hc:X.calm=true):c7 X (.builtin "any") (λxs H Q=>∃p ns,xs=[.ref p]/\aS X.K H p (List.map V.int ns)/\Q (.bl (ns.any λn=>n !=0)) H):=by
 intro pins s σ H xs us Q I r h;obtain⟨p,ns,rfl,hq,q⟩:=h;obtain⟨u,rfl,rx⟩:=vals1 r;cases rx;obtain⟨aW,rv,pl,hz⟩:=I.list hq;have hl:=pl.isList;have ln:=rv.length;rw[YL] at ln;have gG:p<s.heap.objs.size:=by obtain⟨_,e,_⟩:=hl;exact aay e
 refine call_any_walk (wpAny_pyIter_list hl ?_);refine⟨s.heap.objs.size,[s.heap.objs.size,p],[s.heap.objs.size],aW.toArray.size,_,_,λi=>((ns.map λn=>n !=0)[i]?).getD false,rfl,Walks.list (A:=X.A.in1) (I.ok.hd hc) _ p (YW gG) aW.toArray,
  ⟨⟨_,aax _ rfl,rfl,rfl⟩,hl.push _⟩,λi v s' Q' E' hP hQ=>?_,λh' tk hk=>?_⟩
 ·have hP:aW[i]?=some v:=by simpa using hP
  have hi:i<ns.length:=by have:=(aat.mp hP).1;lia
  obtain⟨w,ew,l7⟩:=rv.get (show(List.map V.int ns)[i]?=some (V.int ns[i]) by rw[YO,YM hi];rfl);rw[hP] at ew;cases ew;obtain⟨t,rfl⟩:=l7;have hQ:Q' (((ns.map λn=>n !=0)[i]?).getD false) s':=hQ;rw[YO,YM hi] at hQ;exact truthy_int hQ
 ·have e:((List.range aW.toArray.size).any λi=>((ns.map λn=>n !=0)[i]?).getD false)=ns.any λn=>n !=0:=by
   have:=LSm.range_any (ns.map λn=>n !=0);rw[YL,List.any_map] at this;rw[YX,<-ln,this];rfl
  rw[e];exact⟨.bl _,H,I.kept (t':=tk) (LSm.kept_iter hk),rfl,q⟩
theorem vM {K:aam} (hc:X.calm=true:=by rfl) (hK:X.K=K:=by rfl):c7 X (.builtin "any") (λxs H Q=>∃p ns,xs=[.ref p]/\aS K H p (List.map V.int ns)/\Q (.bl (ns.any λn=>n !=0)) H):=by subst hK;exact yj hc
end
end L2
namespace Wq
@[inline]abbrev Sh:=Int×Int
abbrev Lw (x:Sh):Prop:=0<x.2/\Nm.g x.1 x.2=1
abbrev sc (L:Int) (x:Sh):Int:=x.1* (L / x.2)
theorem gv {L:Int} {x:Sh} (h:x.2∣L):sc L x*x.2=x.1*L:=by
 unfold sc;rw[Zo,Int.ediv_mul_cancel h]
theorem CV {L s:Int} {x:Sh} (h:Lw x) (L0:0<L) (e:x.1*L=s*x.2):x.2∣L/\sc L x=s:=by
 have c:Int.gcd x.1 x.2=1:=by have:=h.2;unfold Nm.g at this;lia
 have d:x.2∣L:=Nm.oC (q:=x.2) (a:=x.1) ⟨s,by rw[e,Za]⟩ c;refine⟨d,?_⟩;have:=gv d;rw[e] at this;exact Int.eq_of_mul_eq_mul_right (by have:=h.1;lia) this
abbrev low (a b:Int):Sh:=(Nm.st a b,Nm.sb a b)
theorem mG {a b:Int} (h:0<b):Lw (low a b):=⟨Nm.Cf ⋯,Nm.Cg ⋯⟩
theorem tV {a b L s:Int} (h:0<b) (L0:0<L) (e:a*L=s*b):(low a b).2∣L/\sc L (low a b)=s:=by
 refine CV (mG h) L0 ?_;have c:=Nm.vm a b;show Nm.st a b*L=s*Nm.sb a b;refine Int.eq_of_mul_eq_mul_right (show b≠0 by lia) ?_
 calc Nm.st a b*L*b=(Nm.st a b*b)*L:=Int.mul_right_comm ..
  _=a*Nm.sb a b*L:=by rw[c]
  _=(a*L)*Nm.sb a b:=Int.mul_right_comm ..
  _=s*b*Nm.sb a b:=by rw[e]
  _=s*Nm.sb a b*b:=Int.mul_right_comm ..
abbrev pl (x y:Sh):Sh:=low (x.1*y.2+y.1*x.2) (x.2*y.2)
abbrev tm (x y:Sh):Sh:=low (x.1*y.1) (x.2*y.2)
theorem Mf {L:Int} {x y:Sh} (hx:0<x.2) (hy:0<y.2) (L0:0<L) (dx:x.2∣L) (dy:y.2∣L):Lw (pl x y)/\(pl x y).2∣L/\sc L (pl x y)=sc L x+sc L y:=by
 have e1:=gv dx;have e2:=gv dy;refine⟨mG (Zd hx hy),tV (Zd hx hy) L0 ?_⟩
 calc (x.1*y.2+y.1*x.2)*L=(x.1*L)*y.2+ (y.1*L)*x.2:=by rw[Int.add_mul,Int.mul_right_comm,Int.mul_right_comm y.1]
  _=sc L x*x.2*y.2+sc L y*y.2*x.2:=by rw[e1,e2]
  _=(sc L x+sc L y)* (x.2*y.2):=by rw[Int.add_mul,Zo,Zo,Za y.2 x.2]
end Wq
namespace Wq
open L2
abbrev eM (ws:List Sh) (i:Int):Sh:=ws.getD i.toNat (0,1)
abbrev cI (P1:List (Int×Int)):Int:=(P1.map (·.1)).sum
end Wq
namespace Wq
open L2
abbrev vN (c b:Int):Int:=c / Nm.g c b*b
abbrev fB:Int->List Sh->Int
 | c,[]=>c
 | c,x::xs=>fB (vN c x.2) xs
theorem F4 {c b:Int} (hc:0<c) (hb:0<b):0<vN c b/\c∣vN c b/\b∣vN c b/\∀{Z:Int},c∣Z->b∣Z->vN c b∣Z:=by
 have g0:=Nm.pF (a:=c) (b:=b) ⋯;have gl:=Nm.oB c b;have gr:=Nm.ic c b;obtain⟨u,hu⟩:=gl;obtain⟨v,hv⟩:=gr;have e1:c / Nm.g c b=u:=by
  calc c / Nm.g c b=Nm.g c b*u / Nm.g c b:=by rw[<-hu]
   _=u:=Int.mul_ediv_cancel_left _ ⋯
 have u0:0<u:=by rw[<-e1];exact Int.ediv_pos_of_pos_of_dvd hc (Nm.IQ c b) ⟨u,hu⟩
 unfold vN;rw[e1];refine⟨Zd u0 hb,⟨v,?_⟩,Int.dvd_mul_left ..,λ{Z} h1 h2=>?_⟩
 ·calc u*b=u* (Nm.g c b*v):=by rw[<-hv]
   _=(Nm.g c b*u)*v:=by rw[<-Zo,Za u]
   _=c*v:=by rw[<-hu]
 ·obtain⟨z,hz⟩:=h2;have cp:Int.gcd v u=1:=by
   have h:=Int.gcd_ediv_gcd_ediv_gcd (i:=c) (j:=b) (by unfold Nm.g at g0;lia);have e2:b / Nm.g c b=v:=by
    calc b / Nm.g c b=Nm.g c b*v / Nm.g c b:=by rw[<-hv]
     _=v:=Int.mul_ediv_cancel_left _ ⋯
   have h':Int.gcd (c / Nm.g c b) (b / Nm.g c b)=1:=h;rw[e1,e2,Int.gcd_comm] at h';exact h'
  obtain⟨k,hk⟩:=h1;have m:u*k=v*z:=by
   refine Int.eq_of_mul_eq_mul_left (show Nm.g c b≠0 by lia) ?_
   calc Nm.g c b* (u*k)=(Nm.g c b*u)*k:=(Zo ..).symm
    _=c*k:=by rw[<-hu]
    _=Z:=hk.symm
    _=b*z:=hz
    _=(Nm.g c b*v)*z:=by rw[<-hv]
    _=_:=Zo ..
  obtain⟨j,hj⟩:=Nm.oC (q:=u) (a:=v) (b:=z) ⟨k,m.symm⟩ cp;exact⟨j,by rw[hz,hj,<-Zo,Za b u]⟩
theorem kX:∀{xs:List Sh} {c:Int},0<c->(∀x∈xs,0<x.2)->0<fB c xs/\c∣fB c xs/\(∀x∈xs,x.2∣fB c xs)/\∀{Z:Int},c∣Z->(∀x∈xs,x.2∣Z)->fB c xs∣Z
 | [],c,hc,_=>⟨hc,Int.dvd_refl c,by simp,λh _=>h⟩
 | x::xs,c,hc,h=>by
  obtain⟨a1,a2,a3,a4⟩:=F4 hc (h x (YT ..));obtain⟨b1,b2,b3,b4⟩:=kX (xs:=xs) a1 λy hy=>h y (YU _ hy);refine⟨b1,Int.dvd_trans a2 b2,λy hy=>?_,λ{Z} h1 h2=>b4 (a4 h1 (h2 x (YT ..))) λy hy=>h2 y (YU _ hy)⟩;rcases ZT.mp hy with rfl | hy
  ·exact Int.dvd_trans a3 b2
  ·exact b3 y hy
abbrev Vb (M:Int) (x:Sh):Prop:= -(M*x.2)<=x.1/\x.1<=M*x.2
theorem jL {L M:Int} {x:Sh} (hx:0<x.2) (L0:0<L) (d:x.2∣L):Vb M x↔-(M*L)<=sc L x/\sc L x<=M*L:=by
 have e:=gv d;have k:M*L*x.2=M*x.2*L:=Int.mul_right_comm ..;have i1:∀p q:Int,p<=q↔p*L<=q*L:=λp q=>⟨λh=>Int.mul_le_mul_of_nonneg_right h ⋯,λh=>Int.le_of_mul_le_mul_right h L0⟩
 have i2:∀p q:Int,p<=q↔p*x.2<=q*x.2:=λp q=>⟨λh=>Int.mul_le_mul_of_nonneg_right h ⋯,λh=>Int.le_of_mul_le_mul_right h hx⟩
 unfold Vb;rw[i1 (-(M*x.2)),i1 x.1,i2 (-(M*L)),i2 (sc L x),e,Int.neg_mul,Int.neg_mul,k]
end Wq
namespace Wq
theorem rY:∀{xs:List Sh} {c:Int} {x:Sh},fB c (xs++ [x])=vN (fB c xs) x.2
 | [],_,_=>rfl
 | y::xs,c,x=>rY (xs:=xs) (c:=vN c y.2) (x:=x)
abbrev bI:L2.Pl->Sh
 | .fin g=>g
 | .d6 g _=>g
 | .cA _ _=>(0,1)
end Wq
namespace Wq
end Wq
namespace Wq
end Wq
namespace Wq
end Wq
namespace Wq
end Wq
namespace K43
open PySem PySem.Spec PyProof.Rows L2
set_option maxHeartbeats 4000000
local macro_rules | `(~~~$x) => `(some (V.ref $x))
local macro_rules | `(tactic| injections) => `(tactic| first | exact se rfl | exact na rfl | exact fun _ _ => rfl | rfl)
local macro_rules | `(tactic| simp! only [$ls,*]) => `(tactic| simp only [↓exV, ↓exI, ↓exB, ↓exR, ↓exS, ↓exII, ↓exRI, ↓exRa, ↓exRb, L2.start, Pr, tRev, tD1, tDPop1, tSl, tNoPart, tPart, rSlL, tDIn, tDNotIn, gSub, rSetL, tLst, tDNewK, tComp, L2.stC, tFor_eq, iList, iTup, iRng1, iRng2, iZip, iEnum, iDict, iStr, tChain, tSumV, tBM, tRaise, tDGet, tDGet2, tDGet1, sDPut, Option.join_some, List.getElem?_nil,  tSeq, tRet, tRetN, tIfS, tTest, tB, tOp, tUn, tVar, tC, tCB, tCons, tNil, tCall, tTupS, tAsg, gName, gNil, gCons, tPar, tNext, tDrop, tAnd, tOr, tNot, tAndV, tOrV, tNotV, tIf, rI, rI0, rU, rIxTH, rIxLH, rEqT, rNeT, rInT, rEq, rNe, scal_ss, scal_ii, scal_bb, scal_si, scal_is, CPow, at0, at1, at2, List.map_cons, List.map_nil, List.length_cons, List.length_nil, Nat.reduceSub, Nat.reduceAdd, Nat.zero_add, List.replicate_zero, List.reduceReplicate, List.append_nil, List.nil_append, List.cons_append, List.getElem?_cons_zero, List.getElem?_cons_succ, List.set_cons_zero, List.set_cons_succ, Option.some.injEq, exists_eq_left', exists_eq_left, V.ref.injEq, V.int.injEq, V.bl.injEq, V.str.injEq, V.ty.injEq, HO.tup.injEq, HO.lst.injEq, List.cons.injEq, and_true, true_and, and_assoc, exists_and_left, decide_eq_true_eq, Bool.not_eq_true', decide_eq_false_iff_not, ite_true, ite_false, if_true, if_false, Int.reduceToNat, eq_self_iff_true, $ls,*])
local macro_rules | `(tactic| subst_vars) => `(tactic| change tSeq _ _ _ _ _)
local macro_rules | `(tactic| dsimp? [$ls,*]) => `(tactic| (first | ((dsimp (config := { zetaDelta := true }) only [L2.start, Pr, tRev, tD1, tDPop1, tSl, tNoPart, tPart, rSlL, tDIn, tDNotIn, gSub, rSetL, tLst, tDNewK, tComp, L2.stC, tFor_eq, iList, iTup, iRng1, iRng2, iZip, iEnum, iDict, iStr, tChain, tSumV, tBM, tRaise, tDGet, tDGet2, tDGet1, sDPut, tSeq, tRet, tRetN, tIfS, tTest, tB, tOp, tUn, tVar, tC, tCB, tCons, tNil, tCall, tTupS, tAsg, gName, gNil, gCons, tPar, tNext, tDrop, tAnd, tOr, tNot, tAndV, tOrV, tNotV, tIf, rI, rI0, rU, rIxTH, rIxLH, rEqT, rNeT, rInT, rEq, rNe, scal_ss, scal_ii, scal_bb, scal_si, scal_is, CPow, List.getElem?_cons_zero, List.getElem?_cons_succ, List.set_cons_zero, List.set_cons_succ]); try simp! only [$ls,*]) | simp! only [$ls,*] | simp_all only [$ls,*]))
seal L2.PE L2.PT L2.PW L2.PA L2.PS L2.xC L2.PG L2.KI L2.PI L2.IZ L2.PO L2.l9 L2.NH L2.c7 L2.G7 L2.NJ L2.KJ L2.LF
theorem aB {P:Program} {w:World}:tH (bF P w):=zc P w
set_option genInjectivity false in
set_option genSizeOf false in
structure Txt (K:aam) (mg:Str->Option Value) (aD tc:Addr):Prop where
 z_abs:mg "abs"=none
 z_all:mg "all"=none
 z_any:mg "any"=none
 z_enumerate:mg "enumerate"=none
 z_len:mg "len"=none
 z_list:mg "list"=none
 z_max:mg "max"=none
 z_min:mg "min"=none
 z_range:mg "range"=none
 z_reversed:mg "reversed"=none
 z_sorted:mg "sorted"=none
 z_sum:mg "sum"=none
 z_zip:mg "zip"=none
 mH:Dn K mg "common_divisor" (top 6)
 F5:Dn K mg "share" (top 7)
 F6:Dn K mg "minus" (top 8)
 nO:Dn K mg "common_bottom" (top 9)
 F7:Dn K mg "goals" (top 11)
 yk:Dn K mg "is_ready" (top 12)
 pX:Dn K mg "ready_places" (top 13)
 CW:Dn K mg "levels" (top 14)
 Ju:Dn K mg "ring" (top 15)
 nP:Dn K mg "row_with_head" (top 17)
 A8:Dn K mg "swapped" (top 18)
 iu:Dn K mg "without_first_column" (top 19)
 F8:Dn K mg "swept" (top 20)
 nQ:Dn K mg "whole_answers" (top 21)
 vO:Dn K mg "column_of" (top 22)
 qR:Dn K mg "turned_rows" (top 23)
 tW:Dn K mg "steps_from" (top 25)
 F9:Dn K mg "parts" (top 26)
 nR:Dn K mg "ways_of_picks" (top 30)
 nS:Dn K mg "checked_parts" (top 31)
 nU:Dn K mg "weighted_ways" (top 32)
 jF:Dn K mg "all_weighted_ways" (top 33)
 pY:Dn K mg "total_weight" (top 34)
 vP:Dn K mg "part_rows" (top 35)
 A9:Dn K mg "gain_of" (top 37)
 Ba:Dn K mg "book_of" (top 38)
 yl:Dn K mg "gains_of" (top 39)
 pZ:Dn K mg "blank_worths" (top 40)
 qS:Dn K mg "with_worths" (top 41)
 vQ:Dn K mg "worths_of" (top 42)
 qT:Dn K mg "with_visits" (top 43)
 CY:Dn K mg "visits" (top 44)
 Jv:Dn K mg "fits" (top 46)
 Bb:Dn K mg "misfits" (top 47)
 Ga:Dn K mg "slips" (top 48)
 tX:Dn K mg "wanted_way" (top 50)
 qU:Dn K mg "better_ways" (top 51)
 yn:Dn K mg "picks_of" (top 52)
 j4:Dn K mg "with_best_worths" (top 53)
 vR:Dn K mg "best_pick" (top 54)
 Jw:Dn K mg "best" (top 55)
 vS:Dn K mg "_law_cell" (top 57)
 tY:Dn K mg "_law_mixed" (top 58)
 yo:Dn K mg "_law_low" (top 59)
 vT:Dn K mg "_law_plus" (top 60)
 tZ:Dn K mg "_law_times" (top 61)
 t6:Dn K mg "_law_share" (top 62)
 qV:Dn K mg "_law_turned" (top 63)
 t7:Dn K mg "_law_throw" (top 64)
 t8:Dn K mg "_law_board" (top 65)
 ua:Dn K mg "_law_picks" (top 66)
 vU:Dn K mg "_law_copy" (top 67)
 j5:Dn K mg "_law_drawn_picks" (top 70)
 c_MOST_PLACES:∃t,mg "MOST_PLACES"=some (.int 40 t)
 c_MOST_PICKS:∃t,mg "MOST_PICKS"=some (.int 4096 t)
 k_Book:mg "Book"=some (.ref aD)
 bP:AH K aD
 na_Book_bottom:aar K (.ref aD) "bottom"=some none
 na_Book_tops:aar K (.ref aD) "tops"=some none
 Gb:Pz K mg "Book" "Book.__init__" (inClass (top 36) 0) aD
 kY:N5 K aD "as_shares" "Book.as_shares" (inClass (top 36) 2)
 p9:N5 K aD "scaled" "Book.scaled" (inClass (top 36) 1)
 Gc:Me K mg "parts" tc
abbrev eN (K:aam) (x q:Str) (st:Stmt):Prop:=∃f oc od sl kV dc pm an cd ct,aaq K mainGlobals x=some (some (.ref f))/\K.lookup f=some ⟨oc,od,.func (aap q q (de st) (cS st) (au st) .none kV dc pm an cd ct),sl⟩/\aao K cd q=true/\aan K (.ref f)=true
theorem U3 {K:aam} {x q:Str} {st:Stmt} {f:Addr} {od an:Option Addr} {sl:Array (Option Value)} {oc kV dc pm cd ct:Value} (a:aaq K mainGlobals x=some (some (.ref f))) (l:K.lookup f=some ⟨oc,od,.func (aap q q (de st) (cS st) (au st) .none kV dc pm an cd ct),sl⟩) (e:aao K cd q=true) (k:aan K (.ref f)=true):eN K x q st:=⟨_,_,_,_,_,_,_,_,_,_,a,l,e,k⟩
theorem eN.dn {K:aam} {h:Heap} {mg:Str->Option Value} {x:Str} {st:Stmt} (F:eN K x x st) (X:K.In h) (G:h.Ns mainGlobals mg):Dn K mg x st:=by
 obtain⟨_,_,_,_,_,_,_,_,_,_,a,l,e,k⟩:=F;exact⟨_,_,mi l e k,PySem.W.mg_of X G a⟩
theorem P2 {C:List Value->Prop} (k:C []):∀us:List Value,us.length=0->C us:=λus h=>by
 cases us with
 | nil=>exact k
 | cons a us=>cases h
theorem CZ {C:List Value->Prop} {n:Nat} (k:∀a (us:List Value),us.length=n->C (a::us)):∀us:List Value,us.length=n+1->C us:=λus h=>by
 cases us with
 | nil=>cases h
 | cons a us=>exact k a us (Nat.succ.inj h)
theorem jG {C:List Value->Prop} (k:∀a,C [a]):∀us:List Value,us.length=1->C us:=CZ λa=>P2 (C:=λus=>C (a::us)) (k a)
theorem eO {C:List Value->Prop} (k:∀a b,C [a,b]):∀us:List Value,us.length=2->C us:=CZ λa=>jG (C:=λus=>C (a::us)) (k a)
theorem nV {C:List Value->Prop} (k:∀a b c,C [a,b,c]):∀us:List Value,us.length=3->C us:=CZ λa=>eO (C:=λus=>C (a::us)) (k a)
theorem Gd {C:List Value->Prop} (k:∀a b c d,C [a,b,c,d]):∀us:List Value,us.length=4->C us:=CZ λa=>nV (C:=λus=>C (a::us)) (k a)
theorem P4 {C:List Value->Prop} (k:∀a b c d e,C [a,b,c,d,e]):∀us:List Value,us.length=5->C us:=CZ λa=>Gd (C:=λus=>C (a::us)) (k a)
theorem ba {a b:TS} {D:Ends} {σ:L2.St} {H:Hp} (C:(L2.St->Hp->Prop)->Prop) (hb:C (b D)) (ha:∀N:L2.St->Hp->Prop,C N->a {D with nx:=N} σ H):tSeq a b D σ H:=ha _ hb
theorem yp {tc:TT} {a b:TS} {D:Ends} {σ:L2.St} {H:Hp} (h:∀Y N:Hp->Prop,Y H->tc σ H λv H'=>if v=true then Y H' else N H') (k:a D σ H):tIfS tc a b D σ H:=Cr (λH'=>H'=H) (λ_=>False) (λ_ e=>e▸k) (λ_ f=>f.elim) λY N hY _=>h Y N (hY _ rfl)
theorem zB {tc:TT} {a b:TS} {D:Ends} {σ:L2.St} {H:Hp} (h:∀Y N:Hp->Prop,N H->tc σ H λv H'=>if v=true then Y H' else N H') (k:b D σ H):tIfS tc a b D σ H:=Cr (λ_=>False) (λH'=>H'=H) (λ_ f=>f.elim) (λ_ e=>e▸k) λY N _ hN=>h Y N (hN _ rfl)
theorem yq {H:Hp} {q:Pl} {v:V} (r:Rep H (mZ q) v) (h:∀w to,q≠.cA w to):∃t x vs,v=.ref t/\H t=some (.tup (.str x::vs))/\x≠YK "pick":=by
 cases q with
 | fin g=>obtain⟨t,r,rfl,ht,_⟩:=dM.mp r;exact⟨t,_,_,rfl,ht,∅⟩
 | d6 g ws=>obtain⟨t,r,l,zs,rfl,ht,_⟩:=dE.mp r;exact⟨t,_,_,rfl,ht,∅⟩
 | cA w to=>exact absurd rfl (h w to)
@[inline]abbrev dsc:Array Value:=#[rawInt 125,rawInt 29,.str ((YK "parts"++".<locals>.")++"<lambda>") 0]
abbrev dk:Option Int->V
 | none=>.cJ
 | some i=>.int i
theorem Hj {fs:Lv.Fs} {g:Int} (h0:0<=g) (h1:g< (fs.length:Nat)):eV (List.map dk fs) g=some (dk (Lv.lk fs g)):=by
 obtain⟨j,rfl⟩:=Y2 h0;have hj:j<fs.length:=⋯
 have e:fs[j]?=some fs[j]:=YM hj;rw[j1 (f:=dk) e];congr 2;unfold Lv.lk;rw[YS,YN,e];rfl
theorem qa {o:Option Int}:(dk o=V.cJ)↔o=none:=by cases o <;>simp [dk]
abbrev vV:Sp:=λvs H Q _=>∃v q,vs=[v]/\Rep H (mZ q) v/\(Lv.ik q).length<=100/\∀l H',aA H H'->H l=none->H' l=some (.lst (List.map V.int (Lv.ik q)))->Q (.ref l) H'
abbrev C0:Sp:=λvs H Q _=>∃v q f fs,vs=[v,.ref f]/\Rep H (mZ q) v/\H f=some (.lst (List.map dk fs))/\(Lv.ik q).length<=100/\(∀g∈Lv.ik q,0<=g/\g< (fs.length:Nat))/\∀H',aA H H'->Q (.bl (Lv.He fs q)) H'
abbrev fX (i:Nat):V:=.int i
abbrev zC:Sp:=λvs H Q _=>∃a b f fs,vs=[.ref a,.ref f]/\Rep H (pK b) (.ref a)/\H f=some (.lst (List.map dk fs))/\fs.length=b.length/\b.length<=1000/\(∀q∈b,(Lv.ik q).length<=100)/\Lv.Good b/\∀l H',aA H H'->H l=none->H' l=some (.lst (List.map fX (Lv.fresh b fs)))->Q (.ref l) H'
abbrev C3:Sp:=λvs H Q _=>∃a b,vs=[.ref a]/\Rep H (pK b) (.ref a)/\b.length<=1000/\(∀q∈b,(Lv.ik q).length<=100)/\Lv.Good b/\∀l H',aA H H'->H l=none->H' l=some (.lst (List.map dk (Lv.vA b)))->Q (.ref l) H'
structure U4 (H:Hp) (b:List Pl) (a ff:Addr) (m:Nat) (σ:L2.St) (H':Hp):Prop where
 ex:∃fs L fr z,σ=[some (V.ref a),some (V.ref ff),some (V.int L),some (V.ref fr),z]/\H' ff=some (.lst (List.map dk fs))/\H' fr=some (.lst (List.map fX (Lv.fresh b fs)))/\fr≠ff/\aA H H'/\fs.length=b.length/\Lv.fm fs<=m/\Lv.run b m fs L=Lv.vA b
abbrev qb (b:List Pl):List Nat:=(List.range b.length).filter fun(i:Nat)=>(Lv.lk (Lv.vA b) (i:Int)).isNone
theorem C4 {b:List Pl} {i:Nat}:i∈qb b↔i<b.length/\Lv.lk (Lv.vA b) (i:Int)=none:=by
 unfold qb;rw[List.mem_filter,List.mem_range];simp
structure Bd (b:List Pl):Prop where
 len:b.length<=1000
 vj:∀q∈b,(Lv.ik q).length<=100
 good:Lv.Good b
abbrev yr:Sp:=λvs H Q _=>∃a b,vs=[.ref a]/\Rep H (pK b) (.ref a)/\Bd b/\∀l H',aA H H'->H l=none->H' l=some (.lst (List.map fX (qb b)))->Q (.ref l) H'
abbrev qW (H:Hp):Option (Int×Nat)->V->Prop
 | none,v=>v=.cJ
 | some (h,w),v=>∃p,v=.ref p/\H p=some (.tup [.int h,.int (w:Int)])
theorem qW.mono {H H':Hp} (s:aA H H') {o:Option (Int×Nat)} {v:V} (h:qW H o v):qW H' o v:=by
 cases o with
 | none=>exact h
 | some x=>obtain⟨p,e,hp⟩:=h;exact⟨p,e,s _ _ hp⟩
theorem qW.upd {H:Hp} {a:Addr} {o:HO} {par:Option (Int×Nat)} {v:V} (n:∀xs,H a≠some (.tup xs)) (h:qW H par v):qW (upd H a o) par v:=by
 cases par with
 | none=>exact h
 | some x=>obtain⟨p,e,hp⟩:=h;exact⟨p,e,by rw[aK (λz=>n _ (z▸hp))];exact hp⟩
structure gN (H:Hp) (d:Addr) (es:List Bf.En):Prop where
 ex:∃kvs,H d=some (.dK kvs)/\kvs.map (·.1)=(Bf.keys es).map Sum.inl/\∀(i:Nat) e,es[i]?=some e->∃v,kvs[i]?=some (Sum.inl e.1,v)/\qW H e.2.1 v
theorem gN.mono {H H':Hp} (s:aA H H') {d:Addr} {es:List Bf.En} (h:gN H d es):gN H' d es:=by
 obtain⟨kvs,hd,hk,hv⟩:=h;exact⟨kvs,s _ _ hd,hk,λi e he=>by obtain⟨v,e1,e2⟩:=hv i e he;exact⟨v,e1,e2.mono s⟩⟩
theorem yt {κ:Type} [DecidableEq κ]:∀{kvs:List (κ×V)} {i:Nat} {k:κ} {v:V},(kvs.map (·.1)).Nodup->kvs[i]?=some (k,v)->iS kvs k=some v
 | [],i,k,v,_,h=>by simp at h
 | p::r,0,k,v,_,h=>by simp at h;subst h;exact kR rfl
 | p::r,i+1,k,v,nd,h=>by
  simp at h;rw[Y8,List.nodup_cons] at nd;rw[iT (λz=>nd.1 (by rw[z];exact aau.mpr ⟨(k,v),YQ h,rfl⟩))];exact yt nd.2 h
theorem oJ {κ:Type} [DecidableEq κ]:∀{kvs:List (κ×V)} {k:κ},k∉kvs.map (·.1)->iS kvs k=none
 | [],k,_=>rfl
 | p::r,k,h=>by
  rw[Y8] at h;rw[iT (λz=>h (by rw[z];exact YT))];exact oJ λz=>h (YU _ z)
theorem C5 {l:List Int} (h:l.Nodup):(l.map (Sum.inl:Int->Key)).Nodup:=by
 unfold List.Nodup at *;rw[List.pairwise_map];exact h.imp λ{a b} RJ z=>RJ (by cases z;rfl)
theorem ub {l:List Int} {k:Int}:(Sum.inl k:Key)∈l.map Sum.inl↔k∈l:=by
 rw[aau];constructor
 ·rintro⟨x,hx,e⟩;cases e;exact hx
 ·intro h;exact⟨k,h,rfl⟩
theorem gN.get {H:Hp} {d:Addr} {es:List Bf.En} (h:gN H d es) (nd:(Bf.keys es).Nodup) {i:Nat} {e:Bf.En} (he:es[i]?=some e):∃v,mh H d (.int e.1) (some v)/\qW H e.2.1 v:=by
 obtain⟨kvs,hd,hk,hv⟩:=h;obtain⟨v,e1,e2⟩:=hv i e he;exact⟨v,.inl ⟨kvs,Sum.inl e.1,.inl hd,rfl,(yt (by rw[hk];exact C5 nd) e1).symm⟩,e2⟩
theorem gN.out {H:Hp} {d:Addr} {es:List Bf.En} (h:gN H d es) {k:Int} (hk:k∉Bf.keys es):mh H d (.int k) none:=by
 obtain⟨kvs,hd,Mg,_⟩:=h;exact .inl ⟨kvs,Sum.inl k,.inl hd,rfl,(oJ (by rw[Mg];exact λz=>hk (ub.mp z))).symm⟩
theorem gN.has {H:Hp} {d:Addr} {es:List Bf.En} (h:gN H d es) (nd:(Bf.keys es).Nodup) (k:Int):∃o,mh H d (.int k) o/\o.isSome=decide (k∈Bf.keys es):=by
 by_cases c:k∈Bf.keys es
 ·obtain⟨e,he,rfl⟩:=aau.mp c;obtain⟨i,hi⟩:=Ze he;obtain⟨v,g,_⟩:=h.get nd hi;exact⟨_,g,by simp [c]⟩
 ·exact⟨_,h.out c,by simp [c]⟩
theorem gN.put {H:Hp} {d:Addr} {es:List Bf.En} (h:gN H d es) {k:Int} {par:Option (Int×Nat)} {path:List Nat} {v:V} (hk:k∉Bf.keys es) (pv:qW H par v) (hl:es.length<sizeLine):
  ∃o,xW H d (.int k) v (upd H d o)/\gN (upd H d o) d (es++ [(k,par,path)]):=by
 obtain⟨kvs,hd,Mg,hv⟩:=h;have len:kvs.length=es.length:=by
  have:=congrArg List.length Mg;unfold Bf.keys at this
  simpa using this
 have vn:iS kvs (Sum.inl k)=none:=oJ (by rw[Mg];exact λz=>hk (ub.mp z));have nt:∀xs,H d≠some (.tup xs):=λxs z=>by rw[hd] at z;cases z
 refine⟨.dK (kvs++ [(Sum.inl k,v)]),?_,⟨kvs++ [(Sum.inl k,v)],ag,?_,λi e he=>?_⟩⟩
 ·have:=xW.k (k:=Sum.inl k) (v:=v) hd ⋯;rw[vf v vn] at this;exact this
 ·unfold Bf.keys at *;rw[Y5,Y5,Y5,Mg];rfl
 ·rcases Bf.fP he with he | ⟨rfl,rfl⟩
  ·obtain⟨v',e1,e2⟩:=hv i e he;exact⟨v',Bf.up e1,e2.upd nt⟩
  ·refine⟨v,?_,pv.upd nt⟩;rw[Zn ⋯,len,Nat.sub_self];rfl
theorem rZ {here:Int} {path:List Nat}:∀(gs:List Int) (w:Nat) (es:List Bf.En) (g:Int),Bf.il here path w (gs++ [g]) es=(if g∈Bf.keys (Bf.il here path w gs es) then Bf.il here path w gs es else Bf.il here path w gs es++ [(g,some (here,w+gs.length),path++ [w+gs.length])])
 | [],w,es,g=>rfl
 | x::gs,w,es,g=>by
  show Bf.il here path (w+1) (gs++ [g]) _=_;rw[rZ gs (w+1)];show(if g∈Bf.keys (Bf.il here path (w+1) gs _) then Bf.il here path (w+1) gs _ else Bf.il here path (w+1) gs _++ [(g,some (here,w+1+gs.length),path++ [w+1+gs.length])])=_;rw[YZ,show w+1+gs.length=w+ (gs.length+1) by lia];rfl
structure U5 (H:Hp) (b:List Pl) (a d f:Addr) (st:Int) (m:Nat) (σ:L2.St) (H':Hp):Prop where
 ex:∃(t:Nat) (es:List Bf.En),∃z5 z6 z7,σ=[some (V.ref a),some (V.int st),some (V.ref d),some (V.ref f),some (V.int (t:Int)),z5,z6,z7]/\gN H' d es/\H' f=some (.lst (List.map V.int (Bf.keys es)))/\aA H H'/\Bf.Inv b st t es/\Bf.E2 b m t es=Bf.steps b st/\b.length<m+t
abbrev zD:Sp:=λvs H Q _=>∃a b st,vs=[.ref a,.int st]/\Rep H (pK b) (.ref a)/\b.length<=1000/\(∀q∈b,(Lv.ik q).length<=100)/\Lv.Good b/\0<=st/\st<b.length/\∀d H',aA H H'->H d=none->gN H' d (Bf.steps b st)->Q (.ref d) H'
structure Yc (H:Hp) (es:List Bf.En) (a d bk:Addr) (st g:Int) (path:List Nat) (m:Nat) (σ:L2.St) (H':Hp):Prop where
 ex:∃(e:Bf.En) (bs:List Nat) (v:V),es[m]?=some e/\qW H' e.2.1 v/\H' bk=some (.lst (List.map fX bs))/\path=e.2.2++bs.reverse/\gN H' d es/\aA H H'/\σ=[some (V.ref a),some (V.int st),some (V.int g),some (V.ref d),some (V.ref bk),some v]
structure U6 (H:Hp) (a d f l:Addr) (st:Int) (t:Nat) (e:Bf.En) (gs:List Int) (es:List Bf.En) (k:Nat) (σ:L2.St) (H':Hp):Prop where
 ex:∃z6 z7,σ=[some (V.ref a),some (V.int st),some (V.ref d),some (V.ref f),some (V.int (t:Int)),some (V.int e.1),z6,z7]
 dr:gN H' d (Bf.il e.1 e.2.2 0 (gs.take k) es)
 hf:H' f=some (.lst (List.map V.int (Bf.keys (Bf.il e.1 e.2.2 0 (gs.take k) es))))
 hl:H' l=some (.lst (List.map V.int gs))
 sm:aA H H'
abbrev Al {α:Type} (R:α->V->Prop):List α->List V->Prop
 | [],[]=>True
 | a::as,v::vs=>R a v/\Al R as vs
 | _,_=>False
theorem Al.length {α:Type} {R:α->V->Prop}:∀{as:List α} {vs:List V},Al R as vs->vs.length=as.length
 | [],[],_=>rfl
 | a::as,v::vs,h=>by simp [Al.length h.2]
theorem Al.imp {α:Type} {R S:α->V->Prop} (f:∀a v,R a v->S a v):∀{as:List α} {vs:List V},Al R as vs->Al S as vs
 | [],[],_=>trivial
 | a::as,v::vs,h=>⟨f _ _ h.1,Al.imp f h.2⟩
theorem Al.append {α:Type} {R:α->V->Prop}:∀{as bs:List α} {us vs:List V},Al R as us->Al R bs vs->Al R (as++bs) (us++vs)
 | [],_,[],_,_,k=>k
 | a::as,_,v::vs,_,h,k=>⟨h.1,Al.append h.2 k⟩
theorem Al.one {α:Type} {R:α->V->Prop} {a:α} {v:V} (h:R a v):Al R [a] [v]:=⟨h,trivial⟩
theorem Al.reverse {α:Type} {R:α->V->Prop}:∀{as:List α} {vs:List V},Al R as vs->Al R as.reverse vs.reverse
 | [],[],_=>trivial
 | a::as,v::vs,h=>by
  rw[List.reverse_cons,List.reverse_cons];exact(Al.reverse h.2).append (.one h.1)
theorem C6 {α:Type} {H:Hp} {f:α->Dat} {as:List α} {vs:List V} {i:Nat} {v:V} (h:a8 H (as.map f) vs) (e:vs[i]?=some v):∃a,as[i]?=some a/\Rep H (f a) v:=by
 obtain⟨d,ed,rd⟩:=h.get e;rw[YO] at ed;obtain⟨a,ea,rfl⟩:=aas.mp ed;exact⟨a,ea,rd⟩
theorem Al.get {α:Type} {R:α->V->Prop}:∀{as:List α} {vs:List V} {i:Nat} {v:V},Al R as vs->vs[i]?=some v->∃a,as[i]?=some a/\R a v:=by
 intro as
 induction as with
 | nil=>
  intro vs i v h e;cases vs with
  | nil=>simp at e
  | cons u vs=>exact h.elim
 | cons a as ih=>
  intro vs i v h e;cases vs with
  | nil=>exact h.elim
  | cons u vs=>
   cases i with
   | zero=>cases e;exact⟨a,rfl,h.1⟩
   | succ i=>exact ih (vs:=vs) (i:=i) h.2 e
theorem Al.at {α:Type} {R:α->V->Prop}:∀{as:List α} {vs:List V} {i:Nat} {a:α},Al R as vs->as[i]?=some a->∃v,vs[i]?=some v/\R a v:=by
 intro as
 induction as with
 | nil=>
  intro vs i v h e;simp at e
 | cons a as ih=>
  intro vs i v h e;cases vs with
  | nil=>exact h.elim
  | cons u vs=>
   cases i with
   | zero=>cases e;exact⟨u,rfl,h.1⟩
   | succ i=>exact ih (vs:=vs) (i:=i) h.2 e
theorem Al.of {α:Type} {R:α->V->Prop}:∀{as:List α} {vs:List V},vs.length=as.length->(∀(i:Nat) v a,vs[i]?=some v->as[i]?=some a->R a v)->Al R as vs
 | [],[],_,_=>trivial
 | [],_::_,l,_=>by simp at l
 | _::_,[],l,_=>by simp at l
 | a::as,u::vs,l,h=>⟨h 0 u a rfl rfl,Al.of (by simpa using l) λi v b e1 e2=>h (i+1) v b (by simpa using e1) (by simpa using e2)⟩
namespace Pr
open Bf Lv
abbrev kb (b:List Pl) (p:Int):List Int:=keys (steps b p)
abbrev In (b:List Pl) (p:Int):Prop:=0<=p/\p<b.length
section Q1
variable {b : List Pl} (gb : Good b)
include gb
theorem qc {p:Int} (h:In b p):(kb b p).Nodup:=(gL gb h.1 h.2).1.nd
theorem qd {p q:Int} (h:In b p) (hq:q∈kb b p):In b q:=by
 obtain⟨e,he,rfl⟩:=aau.mp hq;exact(gL gb h.1 h.2).1.qH e he
theorem jx {p:Int} (h:In b p):p∈kb b p:=aau.mpr ⟨_,YQ (gL gb h.1 h.2).1.hd,rfl⟩
theorem uc {p q g:Int} (h:In b p) (hq:q∈kb b p) (hg:g∈gC b q):g∈kb b p:=by
 obtain⟨e,he,rfl⟩:=aau.mp hq;obtain⟨j,hj⟩:=Ze he;obtain⟨i,ei,h1,h2,_⟩:=(gL gb h.1 h.2).2 j e hj g hg;exact aau.mpr ⟨ei,YQ h1,h2⟩
theorem C7 {p:Int} (h:In b p):∀(ws:List Nat) (q r:Int),q∈kb b p->go b q ws=some r->r∈kb b p
 | [],q,r,hq,e=>by cases e;exact hq
 | w::ws,q,r,hq,e=>by
  have e:(match (gC b q)[w]? with | some g=>go b g ws | none=>none)=some r:=e;cases c:(gC b q)[w]? with
  | none=>rw[c] at e;cases e
  | some g=>rw[c] at e;exact C7 h ws g r (uc gb h hq (YQ c)) e
theorem yu {p q:Int} (h:In b p):q∈kb b p↔∃ws,go b p ws=some q:=by
 constructor
 ·intro hq;obtain⟨e,he,rfl⟩:=aau.mp hq;obtain⟨j,hj⟩:=Ze he;exact⟨_,FQ (gL gb h.1 h.2).1 j e hj⟩
 ·rintro⟨ws,e⟩;exact C7 gb h ws p q (jx gb h) e
theorem gO {p q r:Int} (h:In b p) (hq:q∈kb b p) (hr:r∈kb b q):r∈kb b p:=by
 obtain⟨ws,e⟩:=(yu gb (qd gb h hq)).mp hr;exact C7 gb h ws q r hq e
theorem C8 {p:Int} (h:In b p):(kb b p).length<=b.length:=by
 have:=(gL gb h.1 h.2).1.vj;unfold kb keys;rw[YL];exact this
end Q1
theorem qe:∀{l m:List Int},l.Nodup->(∀x∈l,x∈m)->∃r,m.Perm (l++r)
 | [],m,_,_=>⟨m,.refl _⟩
 | x::l,m,nd,h=>by
  obtain⟨n1,n2⟩:=List.nodup_cons.mp nd;obtain⟨r,p⟩:=qe (m:=m.erase x) n2 λy hy=>(List.mem_erase_of_ne (a:=y) (b:=x) λz=>n1 (by rw[<-z];exact hy)).mpr (h y (YU _ hy));exact⟨r,(List.perm_cons_erase (h x YT)).trans (p.cons x)⟩
theorem sub_len {l m:List Int} (hl:l.Nodup) (h:∀x∈l,x∈m):l.length<=m.length:=by
 obtain⟨r,p⟩:=qe hl h;rw[p.length_eq,Y7];lia
theorem sub_eq {l m:List Int} (hl:l.Nodup) (hm:m.Nodup) (h:∀x∈l,x∈m) (e:m.length<=l.length):∀x∈m,x∈l:=λx hx=>by
 obtain⟨r,p⟩:=qe hl h;have:=p.length_eq;rw[Y7] at this;have:r=[]:=List.length_eq_zero_iff.mp ⋯;subst this;rw[ZD] at p;exact p.mem_iff.mp hx
abbrev cW (b:List Pl) (p:Int):List Int:=(Nm.oE (kb b p)).filter λo=>decide (p∈kb b o)
abbrev rep (b:List Pl) (p:Int):Int:=(cW b p).headD (-1)
abbrev nN (b:List Pl) (n:Nat):List Int:=((List.range n).map fun(i:Nat)=>(i:Int)).filter λp=>decide (rep b p=p)
section Q2
variable {b : List Pl} (gb : Good b)
include gb
omit gb in
theorem dY {p o:Int}:o∈cW b p↔o∈kb b p/\p∈kb b o:=by
 unfold cW;rw[List.mem_filter,Nm.zj,decide_eq_true_eq]
theorem iX {p:Int} (h:In b p):(cW b p).Pairwise (·<·):=List.Pairwise.filter _ (Nm.Je (qc gb h))
theorem qg {p:Int} (h:In b p):p∈cW b p:=dY.mpr ⟨jx gb h,jx gb h⟩
theorem eB {p o:Int} (h:In b p) (ho:o∈cW b p):In b o:=qd gb h (dY.mp ho).1
theorem iw {p:Int} (h:In b p):cW b p≠[]:=List.ne_nil_of_mem (qg gb h)
theorem Ge {p o:Int} (ho:o∈cW b p):p∈cW b o:=dY.mpr (dY.mp ho).symm
theorem zE {p o:Int} (h:In b p) (ho:o∈cW b p):∀x,x∈kb b p↔x∈kb b o:=λx=>by
 obtain⟨h1,h2⟩:=dY.mp ho;exact⟨λhx=>gO gb (qd gb h h1) h2 hx,λhx=>gO gb h h1 hx⟩
theorem zF {p o:Int} (h:In b p) (ho:o∈cW b p):(kb b p).length=(kb b o).length:=by
 have hi:=eB gb h ho;exact Nat.le_antisymm (sub_len (qc gb h) λx hx=>(zE gb h ho x).mp hx) (sub_len (qc gb hi) λx hx=>(zE gb h ho x).mpr hx)
theorem si {p o r:Int} (h:In b p) (ho:o∈cW b p) (hr:r∈cW b o):r∈cW b p:=by
 have hi:=eB gb h ho;have PK:=eB gb hi hr;obtain⟨h1,h2⟩:=dY.mp ho;obtain⟨h3,h4⟩:=dY.mp hr;exact dY.mpr ⟨gO gb h h1 h3,gO gb PK h4 h2⟩
omit gb in
theorem Jx {l m:List Int} (hl:l.Pairwise (·<·)) (hm:m.Pairwise (·<·)) (h:∀x,x∈l↔x∈m):l=m:=by
 have p:l.Perm m:=(List.perm_ext_iff_of_nodup (hl.imp λh z=>⋯) (hm.imp λh z=>⋯)).mpr h;have o1:l.Pairwise (·<=·):=hl.imp λh=>Int.le_of_lt h;have o2:m.Pairwise (·<=·):=hm.imp λh=>Int.le_of_lt h;rw[Nm.oF p o1,Nm.x6 o2]
theorem ue {p o:Int} (h:In b p) (ho:o∈cW b p):cW b o=cW b p:=by
 have hi:=eB gb h ho;refine Jx (iX gb hi) (iX gb h) λx=>⟨λhx=>si gb h ho hx,λhx=>si gb hi (Ge gb ho) hx⟩
theorem oK {p:Int} (h:In b p):rep b p∈cW b p:=by
 unfold rep;cases e:cW b p with
 | nil=>exact absurd e (iw gb h)
 | cons x r=>exact YT
theorem Jy {p:Int} (h:In b p):In b (rep b p):=eB gb h (oK gb h)
theorem uf {p:Int} (h:In b p):cW b (rep b p)=cW b p:=ue gb h (oK gb h)
theorem Gf {p:Int} (h:In b p):rep b (rep b p)=rep b p:=by
 show(cW b (rep b p)).headD (-1)=_;rw[uf gb h];rfl
theorem ug {p o:Int} (h:In b p) (ho:o∈cW b p):rep b o=rep b p:=by
 show(cW b o).headD (-1)=_;rw[ue gb h ho];rfl
omit gb in
theorem jy {n:Nat} {p:Int}:p∈nN b n↔(0<=p/\p<n)/\rep b p=p:=by
 unfold nN;rw[List.mem_filter,aau,decide_eq_true_eq];constructor
 ·rintro⟨⟨i,hi,rfl⟩,h⟩;have:=List.mem_range.mp hi;exact⟨⟨⋯,⋯⟩,h⟩
 ·rintro⟨⟨h1,h2⟩,h⟩;exact⟨⟨p.toNat,List.mem_range.mpr ⋯,⋯⟩,h⟩
omit gb in
theorem Jz {n:Nat}:(nN b n).Nodup:=by
 refine List.Pairwise.filter _ ?_;rw[List.pairwise_map];exact List.nodup_range.imp λh z=>h ⋯
omit gb in
theorem zG {n:Nat}:(nN b n).length<=n:=by
 unfold nN;refine YY (List.length_filter_le _ _) ?_;rw[YL,Y6];exact YR _
omit gb in
theorem vW {n:Nat}:nN b (n+1)=if rep b (n:Int)=(n:Int) then nN b n++ [(n:Int)] else nN b n:=by
 unfold nN;rw[List.range_succ,Y5,List.filter_append]
 by_cases c:rep b (n:Int)=(n:Int)
 ·rw[if_pos c];simp [c]
 ·rw[if_neg c];simp [c]
theorem Gg {p:Int} (h:In b p):rep b p∈nN b b.length:=jy.mpr ⟨Jy gb h,Gf gb h⟩
end Q2
structure Told (b:List Pl) (ps:List Int):Prop where
 pm:ps.Perm (nN b b.length)
 od:ps.Pairwise λp q=>(kb b p).length<=(kb b q).length
section Q3
variable {b : List Pl} (gb : Good b) {ps : List Int} (T : Told b ps)
include gb T
omit gb in
theorem Told.nd:ps.Nodup:=T.pm.nodup_iff.mpr Jz
omit gb in
theorem Told.Gh {p:Int} (h:p∈ps):In b p:=(jy.mp (T.pm.mem_iff.mp h)).1
omit gb in
theorem Told.rp {p:Int} (h:p∈ps):rep b p=p:=(jy.mp (T.pm.mem_iff.mp h)).2
theorem Told.has {p:Int} (h:In b p):rep b p∈ps:=T.pm.mem_iff.mpr (Gg gb h)
theorem Told.JA {p q:Int} (h:In b p) (hq:q∈kb b p):ps.idxOf (rep b q)<=ps.idxOf (rep b p):=by
 have hi:=qd gb h hq;have sub:∀x∈kb b q,x∈kb b p:=λx hx=>gO gb h hq hx;have le:=sub_len (qc gb hi) sub
 by_cases c:(kb b p).length<=(kb b q).length
 ·have:p∈kb b q:=sub_eq (qc gb hi) (qc gb h) sub c p (jx gb h);rw[ug gb h (dY.mpr ⟨hq,this⟩)];exact YR _
 ·have l1:=Zz (T.has gb hi);have l2:=Zz (T.has gb h);rcases Nat.lt_or_ge (ps.idxOf (rep b p)) (ps.idxOf (rep b q)) with g | g
  ·have od:=List.pairwise_iff_getElem.mp T.od _ _ l2 l1 g;rw[ZJ l2,ZJ l1,<-zF gb h (oK gb h),<-zF gb hi (oK gb hi)] at od;lia
  ·exact g
end Q3
abbrev iM (b:List Pl):List Int->Nat->List (Int×Int)
 | [],_=>[]
 | p::ps,i=>(cW b p).map (λx=>(x,(i:Int)))++iM b ps (i+1)
theorem m8 (b:List Pl):∀(l m:List Int) (i:Nat),iM b (l++m) i=iM b l i++iM b m (i+l.length)
 | [],m,i=>rfl
 | p::l,m,i=>by
  rw[aab,iM,iM,m8 b l m (i+1),List.append_assoc,YZ,show i+1+l.length=i+ (l.length+1) by lia]
theorem kZ {b:List Pl} {x j:Int}:∀{ps:List Int} {i:Nat},(x,j)∈iM b ps i↔∃t p,ps[t]?=some p/\x∈cW b p/\j=((i+t:Nat):Int)
 | [],i=>by
  constructor
  ·intro h;cases h
  ·rintro⟨t,p,h,_⟩;simp at h
 | q::ps,i=>by
  rw[iM,List.mem_append,aau,kZ (ps:=ps)];constructor
  ·rintro(⟨y,hy,e⟩ | ⟨t,p,h1,h2,h3⟩)
   ·injection e with e1 e2
    subst e1 e2;exact⟨0,q,rfl,hy,rfl⟩
   ·exact⟨t+1,p,by simpa using h1,h2,by rw[h3];congr 1;lia⟩
  ·rintro⟨t,p,h1,h2,h3⟩;cases t with
   | zero=>simp at h1;subst h1;exact .inl ⟨x,h2,by rw[h3];rfl⟩
   | succ t=>exact .inr ⟨t,p,by simpa using h1,h2,by rw[h3];congr 1;lia⟩
theorem zH {b:List Pl} (gb:Good b):∀{ps:List Int} {i:Nat},ps.Nodup->(∀p∈ps,In b p/\rep b p=p)->((iM b ps i).map (·.1)).Nodup
 | [],i,_,_=>List.nodup_nil
 | p::ps,i,nd,h=>by
  obtain⟨n1,n2⟩:=List.nodup_cons.mp nd;have hp:=h p YT;rw[iM,Y5,List.nodup_append];refine⟨?_,zH gb n2 λq hq=>h q (YU _ hq),λx hx y hy e=>?_⟩
  ·rw[ZA,show((λx:Int×Int=>x.1) ∘λx=>(x,(i:Int)))=id from rfl,List.map_id];exact(iX gb hp.1).imp λh z=>⋯
  ·rw[ZA,show((λx:Int×Int=>x.1) ∘λx=>(x,(i:Int)))=id from rfl,List.map_id] at hx;subst e;obtain⟨⟨x',j⟩,hm,rfl⟩:=aau.mp hy;obtain⟨t,q,h1,h2,_⟩:=kZ.mp hm;have hq:=h q (YU _ (YQ h1));have e1:=ug gb hp.1 hx;have e2:=ug gb hq.1 h2;rw[hp.2] at e1;rw[hq.2] at e2;have:p=q:=e1.symm.trans e2;exact n1 (this▸YQ h1)
section Q9
variable {b : List Pl} (gb : Good b) {ps : List Int} (T : Told b ps)
include gb T
theorem Told.JB:((iM b ps 0).map (·.1)).Nodup:=zH gb T.nd λp hp=>⟨T.Gh hp,T.rp hp⟩
theorem Told.Gi {x:Int} (h:In b x):(x,((ps.idxOf (rep b x):Nat):Int))∈iM b ps 0:=by
 have hm:=T.has gb h;refine kZ.mpr ⟨ps.idxOf (rep b x),rep b x,?_,?_,by rw[ZI]⟩
 ·have l:=Zz hm;rw[YM l,ZJ l]
 ·rw[uf gb h];exact qg gb h
theorem Told.JC {x j:Int} (h:(x,j)∈iM b ps 0):In b x:=by
 obtain⟨t,p,h1,h2,_⟩:=kZ.mp h;exact eB gb (T.Gh (YQ h1)) h2
theorem Told.C9:Nm.oE ((iM b ps 0).map (·.1))=(List.range b.length).map fun(i:Nat)=>(i:Int):=by
 refine(Nm.oF ((List.perm_ext_iff_of_nodup ?_ (T.JB gb)).mpr λx=>?_) ?_).symm
 ·rw[List.nodup_iff_pairwise_ne,List.pairwise_map];exact List.nodup_range.imp λh z=>h ⋯
 ·rw[aau,aau];constructor
  ·rintro⟨i,hi,rfl⟩;have:=List.mem_range.mp hi;exact⟨_,T.Gi gb (x:=(i:Int)) ⟨⋯,⋯⟩,rfl⟩
  ·rintro⟨⟨y,j⟩,hy,rfl⟩;obtain⟨h0,h1⟩:=T.JC gb hy;exact⟨y.toNat,List.mem_range.mpr ⋯,by show((y.toNat:Nat):Int)=y;lia⟩
 ·rw[List.pairwise_map];exact List.pairwise_lt_range.imp λh=>⋯
end Q9
abbrev off (b:List Pl) (ps:List Int) (i:Nat):Nat:=(iM b (ps.take i) 0).length
theorem iY {b:List Pl} {ps:List Int} {i:Nat} {p:Int} (e:ps[i]?=some p):off b ps (i+1)=off b ps i+ (cW b p).length:=by
 unfold off;rw[Zc,e,Option.toList_some,m8,Y7,iM,iM,ZD,YL]
theorem Gj {b:List Pl} {ps:List Int}:off b ps ps.length=(iM b ps 0).length:=by unfold off;rw[Zg (YR _)]
end Pr
namespace Dg
open Lv Bf
structure Down (b:List Pl) (rk:Int->Nat):Prop where
 good:Good b
 dn:∀(i:Nat) q,b[i]?=some q->∀g∈ik q,rk g<rk (i:Int)
 d6:∀q∈b,∀g ws,q=.d6 g ws->ws≠[]
section DA
variable {b : List Pl} {rk : Int -> Nat} (D : Down b rk)
include D
end DA
end Dg
namespace Dg
@[inline]abbrev Sh:=Wq.Sh
@[inline]abbrev Wy:=List (Int×Int)
abbrev vl (x:Sh):Rat:=(x.1:Rat) / (x.2:Rat)
theorem lV {a:Int} (h:0<a):(a:Rat)≠0:=λz=>by
 have:a=0:=Rat.intCast_inj.mp z;lia
theorem vX {x:Sh} {a b:Int} (hx:0<x.2) (hb:0<b) (h:x.1*b=a*x.2):vl x=(a:Rat) / (b:Rat):=by
 have h1:=lV hx;have h2:=lV hb;have h3:(x.1:Rat)* (b:Rat)=(a:Rat)* (x.2:Rat):=by rw[<-Rat.intCast_mul,<-Rat.intCast_mul,h]
 unfold vl;generalize (x.1:Rat)=u at *;generalize (x.2:Rat)=v at *;generalize (a:Rat)=s at *;generalize (b:Rat)=t at *;grind
theorem uh {a b:Int} (h:0<b):vl (Wq.low a b)=(a:Rat) / (b:Rat):=vX (Wq.mG h).1 h (Nm.vm a b)
theorem Mh {x y:Sh} (hx:0<x.2) (hy:0<y.2):vl (Wq.pl x y)=vl x+vl y:=by
 unfold Wq.pl;rw[uh (Zd hx hy)];have h1:=lV hx;have h2:=lV hy;rw[Rat.intCast_add,Rat.intCast_mul,Rat.intCast_mul,Rat.intCast_mul];unfold vl;generalize (x.1:Rat)=u at *;generalize (x.2:Rat)=v at *;generalize (y.1:Rat)=s at *;generalize (y.2:Rat)=t at *;grind
theorem Mi {x y:Sh} (hx:0<x.2) (hy:0<y.2):vl (Wq.tm x y)=vl x*vl y:=by
 unfold Wq.tm;rw[uh (Zd hx hy)];have h1:=lV hx;have h2:=lV hy;rw[Rat.intCast_mul,Rat.intCast_mul];unfold vl;generalize (x.1:Rat)=u at *;generalize (x.2:Rat)=v at *;generalize (y.1:Rat)=s at *;generalize (y.2:Rat)=t at *;grind
theorem qh {x y:Sh} (hx:Wq.Lw x) (hy:Wq.Lw y) (h:vl x=vl y):x=y:=by
 have h1:=lV hx.1;have h2:=lV hy.1;have c:(x.1:Rat)* (y.2:Rat)=(y.1:Rat)* (x.2:Rat):=by
  unfold vl at h;generalize (x.1:Rat)=u at *;generalize (x.2:Rat)=v at *;generalize (y.1:Rat)=s at *;generalize (y.2:Rat)=t at *;grind
 rw[<-Rat.intCast_mul,<-Rat.intCast_mul] at c;obtain⟨a,b⟩:=Nm.FG hx.1 hy.1 hx.2 hy.2 (Rat.intCast_inj.mp c);exact Prod.ext a b
abbrev tt (ws:Wy):Int:=if ws=[] then 1 else Wq.cI ws
theorem dA (x:Int×Int) (ws:Wy):Wq.cI (x::ws)=x.1+Wq.cI ws:=rfl
abbrev dm (d:Int) (v:Int->Rat):Wy->Rat
 | []=>0
 | x::ws=>(x.1:Rat) / (d:Rat)*v x.2+dm d v ws
theorem j6 {d:Int} {v v':Int->Rat}:∀{ws:Wy},(∀x∈ws,v x.2=v' x.2)->dm d v ws=dm d v' ws
 | [],_=>rfl
 | x::ws,h=>by
  unfold dm;rw[h x YT,j6 λy hy=>h y (YU _ hy)]
@[inline]abbrev Bk:=List Int×Int
abbrev val (S:Bk) (q:Int):Rat:=(S.1.getD q.toNat 0:Rat) / (S.2:Rat)
abbrev fY (ts:List Int) (ws:Wy):Int:=(ws.map λx=>x.1*ts.getD x.2.toNat 0).sum
theorem k5 (ts:List Int) (d:Int) (q:Nat):(ts.map (·*d)).getD q 0=ts.getD q 0*d:=by
 rw[YN,YN,YO];cases ts[q]? with
 | none=>show(0:Int)=0*d;lia
 | some x=>rfl
theorem c8 {ts:List Int} {p q:Nat} {x:Int} (h:p≠q):(ts.set p x).getD q 0=ts.getD q 0:=by
 rw[YN,YN,Zw h]
theorem d7 {ts:List Int} {p:Nat} {x:Int} (h:p<ts.length):(ts.set p x).getD p 0=x:=by
 rw[YN,ZO h];rfl
theorem vY {S:Bk} (B0:0<S.2) {d:Int} (d0:0<d):∀ws:Wy,(fY S.1 ws:Rat) / ((S.2*d:Int):Rat)=dm d (val S) ws
 | []=>by show((0:Int):Rat) / _=0;grind
 | x::ws=>by
  have ih:=vY B0 d0 ws;have h1:=lV B0;have h2:=lV d0;show(((x.1*S.1.getD x.2.toNat 0+fY S.1 ws:Int)):Rat) / ((S.2*d:Int):Rat)=(x.1:Rat) / (d:Rat)* ((S.1.getD x.2.toNat 0:Rat) / (S.2:Rat))+dm d (val S) ws;rw[<-ih,Rat.intCast_add,Rat.intCast_mul,Rat.intCast_mul];generalize (x.1:Rat)=u at *;generalize (S.2:Rat)=v at *;generalize (d:Rat)=t at *;generalize ((S.1.getD x.2.toNat 0:Int):Rat)=s at *;generalize ((fY S.1 ws:Int):Rat)=r at *;grind
end Dg
namespace Dg
theorem Mj:((1:Int):Rat) / ((1:Int):Rat)=1:=by
 have:((1:Int):Rat)=1:=rfl;grind
theorem Bc:((0:Int):Rat) / ((1:Int):Rat)=0:=by
 have:((0:Int):Rat)=0:=rfl;grind
abbrev pr (d:Int) (q:Int):Wy->Rat
 | []=>0
 | x::ws=>(if x.2=q then (x.1:Rat) / (d:Rat) else 0)+pr d q ws
theorem uj {d q:Int}:∀{ws:Wy},(∀x∈ws,x.2≠q)->pr d q ws=0
 | [],_=>rfl
 | x::ws,h=>by
  unfold pr;rw[if_neg (h x YT),uj λy hy=>h y (YU _ hy)];grind
abbrev Runs (W:Int->Wy):List Int->(Int->Rat)->(Int->Rat)->Prop
 | [],f,g=>∀q,0<=q->g q=f q
 | p::os,f,g=>∃f1,(∀q,0<=q->f1 q=f q+f p*pr (tt (W p)) q (W p))/\Runs W os f1 g
abbrev cK (W:Int->Wy) (g:Int->Rat) (q:Int):List Int->Rat
 | []=>0
 | p::os=>g p*pr (tt (W p)) q (W p)+cK W g q os
theorem Be {W:Int->Wy} {g:Int->Rat} {q:Int} {os BY:List Int} (h:os.Perm BY):cK W g q os=cK W g q BY:=by
 induction h with
 | nil=>rfl
 | cons x _ ih=>unfold cK;rw[ih]
 | swap x y l=>unfold cK;unfold cK;grind
 | trans _ _ i1 i2=>rw[i1,i2]
theorem qk {W:Int->Wy} {g g':Int->Rat} {q:Int}:∀{os:List Int},(∀p∈os,(∃x∈W p,x.2=q)->g p=g' p)->cK W g q os=cK W g' q os
 | [],_=>rfl
 | p::os,h=>by
  unfold cK;rw[qk λr hr=>h r (YU _ hr)]
  by_cases c:∃x∈W p,x.2=q
  ·rw[h p YT c]
  ·rw[uj λx hx z=>c ⟨x,hx,z⟩];grind
abbrev addW (c:Int):Wy->List Int->List Int
 | [],ts=>ts
 | x::ws,ts=>addW c ws (ts.set x.2.toNat (ts.getD x.2.toNat 0+c*x.1))
theorem qm (c:Int):∀(ws:Wy) (ts:List Int),(addW c ws ts).length=ts.length
 | [],_=>rfl
 | x::ws,ts=>by
  unfold addW;rw[qm c ws,Zh]
theorem sj (c:Int) (x:Int×Int):∀(ws:Wy) (ts:List Int),addW c (ws++ [x]) ts=(addW c ws ts).set x.2.toNat ((addW c ws ts).getD x.2.toNat 0+c*x.1)
 | [],_=>rfl
 | y::ws,ts=>sj c x ws _
abbrev cQ (q:Int) (ws:Wy):Int:=(ws.map λx=>if x.2=q then x.1 else 0).sum
theorem qo {c q:Int} (q0:0<=q):∀{ws:Wy} {ts:List Int},(∀x∈ws,0<=x.2/\x.2< (ts.length:Int))->(addW c ws ts).getD q.toNat 0=ts.getD q.toNat 0+c*cQ q ws
 | [],ts,_=>by show _=_+c*0;rw[Zv,Int.add_zero];rfl
 | x::ws,ts,h=>by
  obtain⟨x0,x1⟩:=h x YT;have ih:=qo (c:=c) q0 (ws:=ws) (ts:=ts.set x.2.toNat (ts.getD x.2.toNat 0+c*x.1)) λy hy=>by rw[Zh];exact h y (YU _ hy)
  show(addW c ws _).getD q.toNat 0=ts.getD q.toNat 0+c* ((if x.2=q then x.1 else 0)+cQ q ws);rw[ih,Int.mul_add]
  by_cases e:x.2=q
  ·subst e;rw[d7 ⋯,if_pos rfl];lia
  ·rw[c8 ⋯,if_neg e];lia
theorem uk {d q:Int} (d0:0<d):∀ws:Wy,(cQ q ws:Rat) / (d:Rat)=pr d q ws
 | []=>by show((0:Int):Rat) / _=0;grind
 | x::ws=>by
  have ih:=uk (q:=q) d0 ws;have h1:=lV d0;show(((if x.2=q then x.1 else 0)+cQ q ws:Int):Rat) / (d:Rat)=(if x.2=q then (x.1:Rat) / (d:Rat) else 0)+pr d q ws;rw[<-ih,Rat.intCast_add]
  split
  ·grind
  ·have:((0:Int):Rat)=0:=rfl;grind
end Dg
namespace Dg
structure Yd (n:Nat) (G:Int) (i:Nat) (S:Bk):Prop where
 len:S.1.length=n
 pos:0<S.2
 dv:G∣S.2
 bb:Bt (4*i+4) S.2
 bt:∀q,(S.1.getD q 0).natAbs<=S.2.toNat * (6*i)
structure Ye (n:Nat) (i:Nat) (S:Bk):Prop where
 len:S.1.length=n
 pos:0<S.2
 bb:Bt (4*i+1) S.2
 bt:∀q,(S.1.getD q 0).natAbs<=32^i
end Dg
namespace Dg
abbrev fg (v:Int->Int):Wy->Int
 | []=>0
 | x::ws=>x.1*v x.2+fg v ws
theorem um {v:Int->Int} {M:Nat}:∀{ws:Wy},(∀x∈ws,1<=x.1/\(v x.2).natAbs<=M)->(fg v ws).natAbs<=(Wq.cI ws).toNat *M/\0<=Wq.cI ws
 | [],_=>⟨Y1 _,Int.le_refl _⟩
 | x::ws,h=>by
  obtain⟨h1,h2⟩:=h x YT;obtain⟨i1,i2⟩:=um (ws:=ws) λy hy=>h y (YU _ hy);have m1:(x.1*v x.2).natAbs<=x.1.toNat *M:=by
   rw[Zs,show x.1.natAbs=x.1.toNat by lia];exact aae _ h2
  have e:(Wq.cI (x::ws)).toNat=x.1.toNat+ (Wq.cI ws).toNat:=by rw[dA];lia
  refine⟨?_,by rw[dA];lia⟩;rw[e,Nat.add_mul];show(x.1*v x.2+fg v ws).natAbs<=_;lia
theorem zI {v:Int->Int} {M:Nat}:∀{ws:Wy},(∀x∈ws,1<=x.1/\(v x.2).natAbs<=M)->(∃x∈ws,(v x.2).natAbs<M)->(fg v ws).natAbs< (Wq.cI ws).toNat *M
 | [],_,h=>by obtain⟨x,hx,_⟩:=h;simp at hx
 | x::ws,h,k=>by
  obtain⟨h1,h2⟩:=h x YT;have hw:∀y∈ws,1<=y.1/\(v y.2).natAbs<=M:=λy hy=>h y (YU _ hy);obtain⟨i1,i2⟩:=um hw;have e:(Wq.cI (x::ws)).toNat=x.1.toNat+ (Wq.cI ws).toNat:=by rw[dA];lia
  have ab:(x.1*v x.2).natAbs=x.1.toNat * (v x.2).natAbs:=by rw[Zs,show x.1.natAbs=x.1.toNat by lia]
  have m1:x.1.toNat * (v x.2).natAbs<=x.1.toNat *M:=aae _ h2;rw[e,Nat.add_mul];show(x.1*v x.2+fg v ws).natAbs<_;obtain⟨y,hy,ly⟩:=k;rcases ZT.mp hy with rfl | hy
  ·have:y.1.toNat * (v y.2).natAbs<y.1.toNat *M:=Nat.mul_lt_mul_of_pos_left ly ⋯;lia
  ·have:=zI hw ⟨y,hy,ly⟩;lia
theorem zJ (v:Int->Int):∀(ps:List Int),ps≠[]->∃q∈ps,∀p∈ps,(v p).natAbs<=(v q).natAbs
 | [],h=>absurd rfl h
 | [a],_=>⟨a,aav.mpr rfl,λp hp=>by rw[aav.mp hp];exact YR _⟩
 | a::b::l,_=>by
  obtain⟨q,hq,h⟩:=zJ v (b::l) (by simp)
  by_cases c:(v q).natAbs<=(v a).natAbs
  ·refine⟨a,YT,λp hp=>?_⟩;rcases ZT.mp hp with rfl | hp
   ·exact YR _
   ·exact YY (h p hp) c
  ·refine⟨q,YU _ hq,λp hp=>?_⟩;rcases ZT.mp hp with rfl | hp
   ·lia
   ·exact h p hp
theorem Bg {ps:List Int} {W:Int->Wy} {lv:Int->Nat} {v:Int->Int} (h:∀p∈ps,tt (W p)*v p=fg v (W p)) (pos:∀p∈ps,∀x∈W p,1<=x.1) (out:∀q,q∉ps->v q=0) (dn:∀p∈ps,W p=[]\/∃x∈W p,lv x.2<lv p):∀p∈ps,v p=0:=by
 intro p0 KR;obtain⟨q,hq,mx⟩:=zJ v ps (List.ne_nil_of_mem KR);have all:∀r,(v r).natAbs<=(v q).natAbs:=λr=>by
  by_cases c:r∈ps
  ·exact mx r c
  ·rw[out r c];exact Y1 _
 by_cases M0:(v q).natAbs=0
 ·have:=mx p0 KR;lia
 ·exfalso;have low:∀n,∀p∈ps,lv p<n->(v p).natAbs< (v q).natAbs:=by
   intro n
   induction n with
   | zero=>exact λp _ hl=>absurd hl (ZF _)
   | succ n ih=>
    intro p hp hl;have e:=h p hp;rcases dn p hp with z | ⟨x,hx,lx⟩
    ·rw[z] at e;have e:1*v p=0:=e;lia
    ·have k:=zI (v:=v) (M:=(v q).natAbs) (ws:=W p) (λy hy=>⟨pos p hp y hy,all _⟩) ⟨x,hx,by
      by_cases c:x.2∈ps
      ·exact ih _ c ⋯
      ·rw[out _ c];show 0<_;lia⟩
     have et:tt (W p)=Wq.cI (W p):=by unfold tt;rw[if_neg (List.ne_nil_of_mem hx)]
     have tp:=(um (v:=v) (M:=(v q).natAbs) (ws:=W p) λy hy=>⟨pos p hp y hy,all _⟩).2;rw[<-e,Zs,et,show(Wq.cI (W p)).natAbs=(Wq.cI (W p)).toNat by lia] at k;exact Nat.lt_of_mul_lt_mul_left k
  exact Zj _ (low _ q hq (Zl _))
end Dg
namespace aO
@[inline]abbrev Fm:=Nat->Int
abbrev X (w:Fm) (F:List Nat->Int):List Nat->Int
 | []=>0
 | c::cs=>w c*F cs - X w (λl=>F (c::l)) cs
abbrev D:List Fm->List Nat->Int
 | [],[]=>1
 | [],_::_=>0
 | w::rs,cs=>X w (D rs) cs
theorem oM (w:Fm):∀(cs:List Nat) (F G:List Nat->Int),X w (λl=>F l+G l) cs=X w F cs+X w G cs
 | [],_,_=>rfl
 | c::cs,F,G=>by
  simp only[X];rw[oM w cs (λl=>F (c::l)) (λl=>G (c::l)),Int.mul_add];lia
theorem oN (w:Fm) (k:Int):∀(cs:List Nat) (F:List Nat->Int),X w (λl=>k*F l) cs=k*X w F cs
 | [],_=>(Zv k).symm
 | c::cs,F=>by
  simp only[X];rw[oN w k cs (λl=>F (c::l)),Int.mul_sub,<-Zo,<-Zo,Za k (w c)]
theorem vZ (w:Fm):∀(cs:List Nat),X w (λ_=>0) cs=0
 | []=>rfl
 | c::cs=>by simp only[X];rw[vZ w cs];simp
theorem Gk (w:Fm) (cs:List Nat) (F:List Nat->Int):X w (λl=> - F l) cs= - X w F cs:=by
 have:=oN w (-1) cs F;rw[Int.neg_one_mul] at this;rw[<-this];congr 1;funext l;rw[Int.neg_one_mul]
theorem iy (v w:Fm):∀(cs:List Nat) (F:List Nat->Int),X (λc=>v c+w c) F cs=X v F cs+X w F cs
 | [],_=>rfl
 | c::cs,F=>by
  simp only[X];rw[iy v w cs (λl=>F (c::l)),Int.add_mul];lia
theorem jz (k:Int) (w:Fm):∀(cs:List Nat) (F:List Nat->Int),X (λc=>k*w c) F cs=k*X w F cs
 | [],_=>(Zv k).symm
 | c::cs,F=>by
  simp only[X];rw[jz k w cs (λl=>F (c::l)),Int.mul_sub,Zo]
theorem uo {v w:Fm}:∀{cs:List Nat} {F:List Nat->Int},(∀c∈cs,v c=w c)->X v F cs=X w F cs
 | [],_,_=>rfl
 | c::cs,F,h=>by
  simp only[X];rw[h c (YT ..),uo (cs:=cs) λc' hc=>h c' (YU _ hc)]
theorem sk {w:Fm}:∀{cs:List Nat} {F:List Nat->Int},(∀c∈cs,w c=0)->X w F cs=0
 | [],_,_=>rfl
 | c::cs,F,h=>by
  simp only[X];rw[h c (YT ..),sk (cs:=cs) λc' hc=>h c' (YU _ hc)];simp
theorem Dc (w:Fm):∀(cs:List Nat) (F:List Nat->Int),X w (X w F) cs=0
 | [],_=>rfl
 | c::cs,F=>by
  simp only[X];have e:=oM w cs (λl=>w c*F l) (λl=> - X w (λm=>F (c::m)) l);have e2:X w (λl=>w c*F l - X w (λm=>F (c::m)) l) cs=X w (λl=>w c*F l+- X w (λm=>F (c::m)) l) cs:=by
   congr 1
  rw[e2,e,oN,Gk,Dc w cs λm=>F (c::m)];lia
theorem Dd (v w:Fm) (cs:List Nat) (F:List Nat->Int):X v (X w F) cs= - X w (X v F) cs:=by
 have e:=Dc (λc=>v c+w c) cs F;have e1:X (λc=>v c+w c) F=λl=>X v F l+X w F l:=by funext l;exact iy v w l F
 rw[e1,iy,oM,oM,Dc,Dc] at e;lia
theorem zK {w:Fm}:∀{rs:List Fm} (_:w∈rs) (cs:List Nat),D (w::rs) cs=0
 | u::rs,h,cs=>by
  rcases ZT.mp h with rfl | h
  ·exact Dc _ _ _
  ·show X w (X u (D rs)) cs=0;rw[Dd];have e:X w (D rs)=λ_=>0:=by funext l;exact zK h l
   rw[e,vZ];rfl
abbrev Sp:List Fm->Fm->Prop
 | [],f=>∀j,f j=0
 | w::rs,f=>∃(c:Int) (g:Fm),Sp rs g/\∀j,f j=c*w j+g j
theorem Sp.congr {f g:Fm}:∀{rs:List Fm},Sp rs f->(∀j,f j=g j)->Sp rs g
 | [],h,e=>λj=>by rw[<-e];exact h j
 | w::rs,⟨c,k,hk,e1⟩,e=>⟨c,k,hk,λj=>by rw[<-e];exact e1 j⟩
theorem Sp.zero:∀{rs:List Fm},Sp rs (λ_=>0)
 | []=>λ_=>rfl
 | _::_=>⟨0,_,Sp.zero,λj=>by simp⟩
theorem Sp.add {f g:Fm}:∀{rs:List Fm},Sp rs f->Sp rs g->Sp rs (λj=>f j+g j)
 | [],h,k=>λj=>by show f j+g j=0;rw[h j,k j];rfl
 | w::rs,⟨c,f',hf,e1⟩,⟨d,g',hg,e2⟩=>⟨c+d,_,hf.add hg,λj=>by show f j+g j=_;rw[e1,e2,Int.add_mul];lia⟩
theorem Sp.mul {f:Fm} (k:Int):∀{rs:List Fm},Sp rs f->Sp rs (λj=>k*f j)
 | [],h=>λj=>by show k*f j=0;rw[h j,Zv]
 | w::rs,⟨c,f',hf,e1⟩=>⟨k*c,_,hf.mul k,λj=>by show k*f j=_;rw[e1,Int.mul_add,Zo]⟩
theorem Sp.X {rs:List Fm} (w:Fm):∀(cs:List Nat) (F:Nat->List Nat->Int),(∀l,Sp rs (λj=>F j l))->Sp rs (λj=>aO.X w (F j) cs)
 | [],_,_=>Sp.zero
 | c::cs,F,h=>by
  have h1:=(h cs).mul (w c);have h2:=(Sp.X w cs (λj l=>F j (c::l)) (λl=>h (c::l))).mul (-1);exact(h1.add h2).congr λj=>by simp only[aO.X];rw[Int.neg_one_mul];lia
theorem Ml:∀(rs:List Fm) (l:List Nat),Sp rs (λj=>D rs (j::l))
 | [],l=>λj=>rfl
 | w::rs,l=>by
  refine⟨D rs l,_,(Sp.X w l (λj m=>D rs (j::m)) λm=>Ml rs m).mul (-1),λj=>?_⟩;show w j*D rs l - X w (λm=>D rs (j::m)) l=_;rw[Int.neg_one_mul,Za];lia
theorem De {us:List Fm}:∀{rs:List Fm} {g:Fm},Sp rs g->(∀r∈rs,r∈us)->∀cs,D (g::us) cs=0
 | [],g,h,_,cs=>sk λc _=>h c
 | w::rs,g,⟨c,g',h,e⟩,hs,cs=>by
  have e':g=λj=>c*w j+g' j:=funext e;show X g (D us) cs=0;rw[e',iy,jz];have z1:X w (D us) cs=0:=zK (hs w (YT ..)) cs;have z2:X g' (D us) cs=0:=De h (λr hr=>hs r (YU _ hr)) cs;rw[z1,z2];simp
theorem P5 (rs:List Fm) (cs:List Nat) (v:Fm):Sp rs (λj=>D rs cs*v j+- D (v::rs) (j::cs)):=by
 refine(Sp.X v cs (λj m=>D rs (j::m)) λm=>Ml rs m).congr λj=>?_;show _=D rs cs*v j+- (v j*D rs cs - X v (λm=>D rs (j::m)) cs);rw[Za];lia
theorem main (rs:List Fm) (cs:List Nat) (u v:Fm) (j k:Nat) (h:∀c∈cs,D (v::rs) (c::cs)=0):
  D rs cs*D (v::u::rs) (j::k::cs)=D (u::rs) (k::cs)*D (v::rs) (j::cs) - D (v::rs) (k::cs)*D (u::rs) (j::cs):=by
 have s:=P5 rs cs v;have z:=De (us:=u::rs) s (λr hr=>YU _ hr) (j::k::cs);have z':X (λj=>D rs cs*v j+- D (v::rs) (j::cs)) (D (u::rs)) (j::k::cs)=0:=z;have e1:D rs cs*D (v::u::rs) (j::k::cs)=X (λj=>D rs cs*v j) (D (u::rs)) (j::k::cs):=(jz _ _ _ _).symm;have e2:X (λj=>D rs cs*v j+- D (v::rs) (j::cs)) (D (u::rs)) (j::k::cs)=X (λj=>D rs cs*v j) (D (u::rs)) (j::k::cs)+X (λj=> - D (v::rs) (j::cs)) (D (u::rs)) (j::k::cs):=iy _ _ _ _;have e3:X (λj=> - D (v::rs) (j::cs)) (D (u::rs)) (j::k::cs)= - D (v::rs) (j::cs)*D (u::rs) (k::cs) - (- D (v::rs) (k::cs)*D (u::rs) (j::cs) - X (λj=> - D (v::rs) (j::cs)) (λl=>D (u::rs) (j::k::l)) cs):=rfl;have e4:X (λj=> - D (v::rs) (j::cs)) (λl=>D (u::rs) (j::k::l)) cs=0:=sk λc hc=>by rw[h c hc];rfl
 rw[e1];rw[e2,e3,e4] at z';rw[Int.neg_mul,Int.neg_mul] at z';rw[Za (D (u::rs) (k::cs))];lia
abbrev Good:List Fm->List Nat->Prop
 | [],[]=>True
 | u::rs,k::cs=>Good rs cs/\D (u::rs) (k::cs)≠0
 | _,_=>False
theorem Good.ne:∀{rs:List Fm} {cs:List Nat},Good rs cs->D rs cs≠0
 | [],[],_=>by show(1:Int)≠0;decide
 | _::_,_::_,h=>h.2
 | [],_::_,h=>h.elim
 | _::_,[],h=>h.elim
theorem Good.N8:∀{rs:List Fm} {cs:List Nat},Good rs cs->∀(v:Fm) (c:Nat),c∈cs->D (v::rs) (c::cs)=0
 | [],[],_,_,_,hc=>by cases hc
 | u::rs,k::cs,h,v,c,hc=>by
  have hm:=main rs cs u v c k (λc hc=>h.1.N8 v c hc);have hz:D (u::rs) (k::cs)*D (v::rs) (c::cs) - D (v::rs) (k::cs)*D (u::rs) (c::cs)=0:=by
   rcases ZT.mp hc with rfl | hc
   ·rw[Za];lia
   ·rw[h.1.N8 v c hc,h.1.N8 u c hc];simp
  rw[hz] at hm;rcases Int.mul_eq_zero.mp hm with h0 | h0
  ·exact absurd h0 h.1.ne
  ·exact h0
 | [],_::_,h,_,_,_=>h.elim
 | _::_,[],h,_,_,_=>h.elim
theorem Dh {rs:List Fm} {cs:List Nat} (g:Good rs cs) (u v:Fm) (j k:Nat):
  D (u::rs) (k::cs)*D (v::rs) (j::cs) - D (v::rs) (k::cs)*D (u::rs) (j::cs)=D rs cs*D (v::u::rs) (j::k::cs):=
 (main rs cs u v j k (λc hc=>g.N8 v c hc)).symm
abbrev dn:Nat->List Nat
 | 0=>[]
 | k+1=>k::dn k
theorem mI:∀{n c:Nat},c∈dn n↔c<n
 | 0,c=>by simp [dn]
 | n+1,c=>by rw[dn,ZT,mI];lia
theorem mJ:∀n,(dn n).length=n
 | 0=>rfl
 | n+1=>by rw[dn,YZ,mJ]
abbrev ng (i:Nat):Fm:=λc=>if c=i then -1 else 0
theorem Di (rs:List Fm) (u:Fm) (j k:Nat) (h:k<j):
  D (ng k::u::rs) (j::k::dn k)=D (u::rs) (j::dn k):=by
 show ng k j*D (u::rs) (k::dn k) - (ng k k*D (u::rs) (j::dn k) - X (ng k) (λl=>D (u::rs) (j::k::l)) (dn k))=_;rw[sk (w:=ng k) λc hc=>by have:=mI.mp hc;exact if_neg ⋯];have a:ng k j=0:=if_neg ⋯;have b:ng k k= -1:=if_pos rfl;rw[a,b];lia
abbrev sm:Nat->(Nat->Int)->Int
 | 0,_=>0
 | n+1,f=>sm n f+f n
theorem Hk (u:Fm) (F:List Nat->Int) (cs:List Nat):∀n,sm n (λi=>u i*X (ng i) F cs)=X (λc=>if c<n then - u c else 0) F cs
 | 0=>by
  show 0=_;exact(sk λc _=>if_neg ⋯).symm
 | n+1=>by
  show sm n _+u n*X (ng n) F cs=_;rw[Hk u F cs n,<-jz,<-iy];refine uo λc _=>?_;show(if c<n then - u c else 0)+u n* (if c=n then -1 else 0)=_
  by_cases e:c=n
  ·subst e;rw[if_neg ⋯,if_pos rfl,if_pos ⋯];lia
  ·rw[if_neg e]
   by_cases l:c<n
   ·rw[if_pos l,if_pos ⋯];simp
   ·rw[if_neg l,if_neg ⋯];simp
theorem Dj (rs:List Fm) (u:Fm) (k:Nat):
  sm k (λi=>u i*D (ng i::rs) (k::dn k))=u k*D rs (dn k) - D (u::rs) (k::dn k):=by
 have e:=Hk u (D rs) (k::dn k) k;have e1:X (λc=>if c<k then - u c else 0) (D rs) (k::dn k)=X (λc=>(-1)*u c+u k* (if c=k then 1 else 0)) (D rs) (k::dn k):=by
  refine uo λc hc=>?_;rcases ZT.mp hc with rfl | hc
  ·rw[if_neg ⋯,if_pos rfl];lia
  ·have:=mI.mp hc;rw[if_pos this,if_neg ⋯];lia
 have e2:X (λc=>if c=k then (1:Int) else 0) (D rs) (k::dn k)=D rs (dn k):=by
  show(if k=k then (1:Int) else 0)*D rs (dn k) - X (λc=>if c=k then (1:Int) else 0) (λl=>D rs (k::l)) (dn k)=_;rw[if_pos rfl,sk λc hc=>by have:=mI.mp hc;exact if_neg ⋯];lia
 have e3:sm k (λi=>u i*D (ng i::rs) (k::dn k))=sm k (λi=>u i*X (ng i) (D rs) (k::dn k)):=rfl;rw[e3,e,e1,iy,jz,jz,e2];show(-1)*D (u::rs) (k::dn k)+u k*D rs (dn k)=_;lia
theorem perm {rs us:List Fm} (h:rs.Perm us):∃s:Int,(s=1\/s= -1)/\∀cs,D rs cs=s*D us cs:=by
 induction h with
 | nil=>exact⟨1,.inl rfl,λcs=>(Int.one_mul _).symm⟩
 | cons w _ ih=>
  obtain⟨s,h,e⟩:=ih;refine⟨s,h,λcs=>?_⟩;show X w _ cs=s*X w _ cs;rw[<-oN];congr 1;funext l;exact e l
 | swap x y l=>exact⟨-1,.inr rfl,λcs=>by rw[Int.neg_one_mul];exact Dd _ _ _ _⟩
 | trans _ _ U7 N9=>
  obtain⟨s,h,e⟩:=U7;obtain⟨t,k,f⟩:=N9;refine⟨s*t,?_,λcs=>by rw[e,f,Zo]⟩;rcases h with rfl | rfl <;>rcases k with rfl | rfl <;>decide
theorem Gm {rs us:List Fm} (h:rs.Perm us) (cs:List Nat):D rs cs≠0↔D us cs≠0:=by
 obtain⟨s,hs,e⟩:=perm h;rw[e];rcases hs with rfl | rfl <;>lia
theorem eY {f g:Nat->Int}:∀{n},(∀i,i<n->f i=g i)->sm n f=sm n g
 | 0,_=>rfl
 | n+1,h=>by show sm n f+f n=sm n g+g n;rw[eY λi hi=>h i ⋯,h n ⋯]
theorem qp (f g:Nat->Int):∀n,sm n (λi=>f i+g i)=sm n f+sm n g
 | 0=>rfl
 | n+1=>by show sm n _+ (f n+g n)=sm n f+f n+ (sm n g+g n);rw[qp f g n];lia
theorem iz (k:Int) (f:Nat->Int):∀n,sm n (λi=>k*f i)=k*sm n f
 | 0=>(Zv k).symm
 | n+1=>by show sm n _+k*f n=k* (sm n f+f n);rw[iz k f n,Int.mul_add]
theorem zL:∀n,sm n (λ_=>0)=0
 | 0=>rfl
 | n+1=>by show sm n _+0=0;rw[zL n];rfl
theorem uq (g:Nat->Int) (t:Nat):∀n,sm n (λj=>g j* (if j=t then 1 else 0))=if t<n then g t else 0
 | 0=>by rw[if_neg ⋯];rfl
 | n+1=>by
  show sm n _+g n* (if n=t then 1 else 0)=_;rw[uq g t n]
  by_cases e:n=t
  ·subst e;rw[if_neg ⋯,if_pos rfl,if_pos ⋯];lia
  ·rw[if_neg e]
   by_cases l:t<n
   ·rw[if_pos l,if_pos ⋯];lia
   ·rw[if_neg l,if_neg ⋯];lia
end aO
namespace aO
abbrev pβ (β:Nat->Nat):List Nat->Nat
 | []=>1
 | c::cs=>β c*pβ β cs
theorem Mm {w:Fm} {β:Nat->Nat} (hw:∀c,(w c).natAbs<=β c):∀(cs:List Nat) (M:Nat) (F:List Nat->Int),(∀l,l.length+1=cs.length->(F l).natAbs<=M*pβ β l)->(X w F cs).natAbs<=cs.length* (M*pβ β cs)
 | [],_,_,_=>by simp [X]
 | c::cs,M,F,h=>by
  simp only[X];have h1:=Zs (w c) (F cs);have h2:=Z1 (hw c) (h cs rfl);have h3:=Mm hw cs (M*β c) (λl=>F (c::l)) (λl hl=>by
   have:=h (c::l) (by simp only[YZ];lia);rw[pβ,<-Nat.mul_assoc] at this;exact this)
  have h4:=Int.natAbs_sub_le (w c*F cs) (X w (λl=>F (c::l)) cs);have e:M*pβ β (c::cs)=β c* (M*pβ β cs):=by rw[pβ];grind
  have e2:M*β c*pβ β cs=β c* (M*pβ β cs):=by grind
  rw[YZ,Nat.add_mul,Nat.one_mul,e];rw[e2] at h3;lia
theorem JD {β:Nat->Nat} {N:Nat}:∀{rs:List Fm} (cs:List Nat),(∀w∈rs,∀c,(w c).natAbs<=β c)->cs.length<=N->(D rs cs).natAbs<=N^rs.length*pβ β cs
 | [],[],_,_=>by simp [D,pβ]
 | [],_::_,_,_=>by simp [D]
 | w::rs,cs,h,hl=>by
  have h1:=Mm (h w (YT ..)) cs (N^rs.length) (D rs) (λl vG=>JD l (λw hw=>h w (YU _ hw)) ⋯);show(X w (D rs) cs).natAbs<=_;rw[YZ,Nat.pow_succ,Nat.mul_comm (N^_),Nat.mul_assoc];exact YY h1 (Z7 _ hl)
end aO
namespace aO
abbrev fo (r:List Int):Fm:=λc=>r.getD c 0
abbrev cf (v:Fm) (rs:List Fm) (k m:Nat):List Int:=(List.range (m - k)).map λt=>D (v::rs) ((k+t)::dn k)
theorem eC (v:Fm) (rs:List Fm) (k m:Nat):(cf v rs k m).length=m - k:=by simp [cf]
theorem Bh {v:Fm} {rs:List Fm} {k m t:Nat} (h:k+t<m):(cf v rs k m)[t]?=some (D (v::rs) ((k+t)::dn k)):=by
 unfold cf;rw[YO,Zu ⋯];rfl
theorem Mn (v:Fm) (t:Nat):D [v] [t]=v t:=by
 show v t*1 - 0=v t;lia
theorem yv {r:List Int} {m:Nat} (h:r.length=m):cf (fo r) [] 0 m=r:=by
 refine Zy λi=>?_
 by_cases l:i<m
 ·rw[Bh ⋯,YM ⋯];show some (D [fo r] [0+i])=_;rw[Mn,ZI];simp [fo,YN,YM (show i<r.length by lia)]
 ·rw[Y0 (by rw[eC];lia),Y0 ⋯]
theorem d4 {k m:Nat} (h:k<m) (v:Fm) (rs:List Fm):cf v rs k m=D (v::rs) (k::dn k)::(List.range (m - (k+1))).map λt=>D (v::rs) ((k+1+t)::dn k):=by
 unfold cf;rw[show m - k=(m - (k+1))+1 by lia,List.range_succ_eq_map,Y8,ZA];congr 1;refine List.map_congr_left λt _=>?_;show D (v::rs) ((k+ (t+1))::dn k)=_;rw[show k+ (t+1)=k+1+t by lia]
theorem Gn {k m:Nat} (h:k<m) (u:Fm) (rs:List Fm):(cf u rs k m).tail=cf (ng k) (u::rs) (k+1) m:=by
 rw[d4 h,List.tail_cons];unfold cf;refine List.map_congr_left λt _=>?_;exact(Di rs u (k+1+t) k ⋯).symm
theorem zipWith_map {α:Type} (f:Int->Int->Int) (g h:α->Int):∀l:List α,List.zipWith f (l.map g) (l.map h)=l.map λa=>f (g a) (h a)
 | []=>rfl
 | a::l=>by simp only[Y8,List.zipWith_cons_cons,zipWith_map f g h l]
theorem Dk {k m:Nat} (h:k<m) {rs:List Fm} (G:Good rs (dn k)) (u v:Fm):
  List.zipWith (λone other=>(D (u::rs) (k::dn k)*one - D (v::rs) (k::dn k)*other).fdiv (D rs (dn k))) (cf v rs k m).tail (cf u rs k m).tail=cf v (u::rs) (k+1) m:=by
 rw[d4 h,d4 h,List.tail_cons,List.tail_cons,zipWith_map];unfold cf;refine List.map_congr_left λt _=>?_;rw[Dh G u v (k+1+t) k];exact Int.mul_fdiv_cancel_left _ G.ne
structure j7 (U:List Fm) (n k:Nat) (rs V:List Fm):Prop where
 len:V.length=n
 rl:rs.length=k
 good:Good rs (dn k)
 own:∀i,i<k->V[i]?=some (ng i)
 perm:(rs++V.drop k).Perm U
 le:k<=n
theorem j7.start {U:List Fm}:j7 U U.length 0 [] U:=⟨rfl,rfl,trivial,λi h=>absurd h ⋯,List.Perm.refl _,Y1 _⟩
theorem v5 {α:Type} {u a:α}:∀{l:List α} {i:Nat},l[i]?=some u->(u::l.set i a).Perm (a::l)
 | [],_,h=>by simp at h
 | b::l,0,h=>by
  simp at h;subst h;exact List.Perm.swap _ _ _
 | b::l,i+1,h=>by
  simp only[Z6] at h;show(u::b::l.set i a).Perm (a::b::l);exact(List.Perm.swap _ _ _).trans (((v5 h).cons b).trans (List.Perm.swap _ _ _))
abbrev oO (V:List Fm) (k eI:Nat) (u a:Fm):List Fm:=(V.set k u).set eI a
theorem j7.step {U:List Fm} {n k eI:Nat} {rs V:List Fm} {u a:Fm} (S:j7 U n k rs V) (hk:k<n) (hs:k<=eI) (hu:V[eI]?=some u) (ha:V[k]?=some a) (h:D (u::rs) (k::dn k)≠0):
  j7 U n (k+1) (u::rs) ((oO V k eI u a).set k (ng k)):=by
 have l:=S.len;refine⟨by simp [oO,l],by rw[YZ,S.rl],⟨S.good,h⟩,λi hi=>?_,?_,hk⟩
 ·by_cases e:i=k
  ·subst e;rw[ZO (by simp [oO];lia)]
  ·unfold oO;rw[Zw ⋯,Zw ⋯,Zw ⋯];exact S.own i ⋯
 ·refine List.Perm.trans ?_ S.perm;have hd:V.drop k=a::V.drop (k+1):=by
   obtain⟨h1,h2⟩:=aat.mp ha;rw[<-h2];exact List.drop_eq_getElem_cons h1
  have e1:((oO V k eI u a).set k (ng k)).drop (k+1)=((V.drop (k+1)).set (eI - (k+1)) a)\/(eI=k/\((oO V k eI u a).set k (ng k)).drop (k+1)=V.drop (k+1)):=by
   unfold oO
   by_cases e:eI=k
   ·right
    subst e;refine⟨rfl,?_⟩;simp [List.drop_set]
   ·left
    simp [List.drop_set];intro hh;lia
  have e2:(u::((oO V k eI u a).set k (ng k)).drop (k+1)).Perm (a::V.drop (k+1)):=by
   rcases e1 with e1 | ⟨e,e1⟩
   ·by_cases e:eI=k
    ·subst e;have:u=a:=by rw[hu] at ha;exact Zb ha
     subst this;unfold oO;simp [List.drop_set]
    ·rw[e1];refine v5 ?_;rw[List.getElem?_drop,show k+1+ (eI - (k+1))=eI by lia];exact hu
   ·subst e;have:u=a:=by rw[hu] at ha;exact Zb ha
    subst this;rw[e1]
  rw[hd];refine List.Perm.trans ?_ (e2.append_left rs);show(u::(rs++_)).Perm _;exact(List.perm_middle).symm
abbrev sr (k:Nat) (rs V:List Fm):Prop:=∀u∈V.drop k,D (u::rs) (k::dn k)=0
theorem j7.Gp {U:List Fm} {n k:Nat} {rs V:List Fm} (S:j7 U n k rs V) (z:sr k rs V) {u:Fm} (hu:u∈U):sm k (λi=>u i*D (ng i::rs) (k::dn k))=u k*D rs (dn k):=by
 rw[Dj];have:D (u::rs) (k::dn k)=0:=by
  rcases List.mem_append.mp (S.perm.mem_iff.mpr hu) with h | h
  ·exact zK h _
  ·exact z u h
 lia
theorem j7.answers {U:List Fm} {n:Nat} {rs V:List Fm} (S:j7 U n n rs V) {u:Fm} (hu:u∈U):sm n (λi=>u i*D (ng i::rs) (n::dn n))=u n*D rs (dn n):=by
 rw[Dj];have h:u∈rs:=by
  rcases List.mem_append.mp (S.perm.mem_iff.mpr hu) with h | h
  ·exact h
  ·rw[List.drop_eq_nil_of_le (by rw[S.len];exact YR _)] at h;cases h
 rw[zK h];lia
theorem j7.all {U:List Fm} {n:Nat} {rs V:List Fm} (S:j7 U n n rs V):rs.Perm U:=by
 have:=S.perm;rw[List.drop_eq_nil_of_le (by rw[S.len];exact YR _),ZD] at this;exact this
theorem j7.ne {U:List Fm} {n:Nat} {rs V:List Fm} (S:j7 U n n rs V):D U (dn n)≠0:=(Gm S.all _).mp S.good.ne
end aO
namespace aO
theorem j7.cb {U:List Fm} {n k:Nat} {β:Nat->Nat} {rs V:List Fm} (S:j7 U n k rs V) (b1:∀c,1<=β c) (hb:∀u∈U,∀c,(u c).natAbs<=β c):(∀u∈rs,∀c,(u c).natAbs<=β c)/\∀v∈V,∀c,(v c).natAbs<=β c:=by
 refine⟨λu hu=>hb u (S.perm.mem_iff.mp (Z5 _ hu)),λv hv=>?_⟩;obtain⟨i,hi,rfl⟩:=Zi hv
 by_cases l:i<k
 ·have:=S.own i l;rw[YM hi] at this;rw[Zb this];intro c;unfold ng
  split
  ·exact b1 c
  ·exact Y1 _
 ·refine hb _ (S.perm.mem_iff.mp (Zk _ ?_));refine YQ (i:=i - k) ?_;rw[List.getElem?_drop,show k+ (i - k)=i by lia,YM hi]
theorem Dl {β:Nat->Nat} {b n:Nat} (h:∀c,c<n->β c<=b):∀k,k<=n->pβ β (dn k)<=b^k
 | 0,_=>YR _
 | k+1,hk=>by
  rw[dn,pβ,Nat.pow_succ,Nat.mul_comm];exact Z1 (Dl h k ⋯) (h k ⋯)
theorem j7.R7 {U:List Fm} {n k b c:Nat} {β:Nat->Nat} {rs V:List Fm} (S:j7 U n k rs V) (b1:∀j,1<=β j) (h:∀j,j<n->β j<=b) (hc:∀j,β j<=c) (hb:∀u∈U,∀j,(u j).natAbs<=β j) {v:Fm} (hv:v∈V) (j:Nat):(D (v::rs) (j::dn k)).natAbs<=(n+1)^ (n+1)* (c*b^k):=by
 obtain⟨h1,h2⟩:=S.cb b1 hb;have le:=S.le;have h3:=JD (N:=n+1) (β:=β) (rs:=v::rs) (j::dn k) (λw hw=>by
  rcases ZT.mp hw with rfl | hw
  ·exact h2 _ hv
  ·exact h1 w hw) (by rw[YZ,mJ];lia)
 refine YY h3 (Z1 ?_ ?_)
 ·rw[YZ,S.rl];exact ZP ⋯ ⋯
 ·rw[pβ];exact Z1 (hc j) (Dl h k le)
theorem j7.R8 {U:List Fm} {n k b:Nat} {β:Nat->Nat} {rs V:List Fm} (S:j7 U n k rs V) (b1:∀j,1<=β j) (h:∀j,j<n->β j<=b) (hb:∀u∈U,∀j,(u j).natAbs<=β j):(D rs (dn k)).natAbs<=(n+1)^ (n+1)*b^k:=by
 obtain⟨h1,h2⟩:=S.cb b1 hb;have le:=S.le;have h3:=JD (N:=n+1) (β:=β) (rs:=rs) (dn k) h1 (by rw[mJ];lia);refine YY h3 (Z1 ?_ (Dl h k le));rw[S.rl];exact ZP ⋯ ⋯
end aO
namespace aO
abbrev z0:Fm:=λ_=>0
abbrev lcs (g:Nat->Int):Nat->List Fm->Fm
 | _,[]=>λ_=>0
 | o,w::ws=>λj=>g o*w j+lcs g (o+1) ws j
abbrev aug (L:List (List Int)) (S:List Int):List (List Int):=List.zipWith (λr s=>r++ [s]) L S
abbrev cell (L:List (List Int)) (i j:Nat):Int:=(L.getD i []).getD j 0
structure Sq (L:List (List Int)) (n:Nat):Prop where
 len:L.length=n
 row:∀r∈L,r.length=n
theorem Sq.at {L:List (List Int)} {n i:Nat} (h:Sq L n) (hi:i<n):∃r,L[i]?=some r/\r.length=n/\r∈L:=by
 have:=h.len;refine⟨L[i],by simp [this,hi],h.row _ (YV _),YV _⟩
theorem k6 {L:List (List Int)} {S:List Int} {n i:Nat} {r:List Int} (hS:S.length=n) (hi:i<n) (e:L[i]?=some r):(aug L S)[i]?=some (r++ [S.getD i 0]):=by
 unfold aug;rw[aaj,e,YM (show i<S.length by lia)];simp [YN,YM (show i<S.length by lia)]
theorem k8 {L:List (List Int)} {S:List Int} {n:Nat} (hL:L.length=n) (hS:S.length=n):(aug L S).length=n:=by
 unfold aug;rw[Z2,hL,hS,Nat.min_self]
theorem Dm {L:List (List Int)} {S:List Int} {n i j:Nat} (hq:Sq L n) (hS:S.length=n) (hi:i<n) (hj:j<n):(((aug L S).map fo).getD i z0) j=cell L i j:=by
 obtain⟨r,e,l,_⟩:=hq.at hi;rw[YN,YO,k6 hS hi e];show fo (r++ [S.getD i 0]) j=_;unfold fo cell;rw[YN,Zm ⋯,YN (l:=L),e];simp [YN]
theorem Dp {L:List (List Int)} {S:List Int} {n i:Nat} (hq:Sq L n) (hS:S.length=n) (hi:i<n):(((aug L S).map fo).getD i z0) n=S.getD i 0:=by
 obtain⟨r,e,l,_⟩:=hq.at hi;rw[YN,YO,k6 hS hi e];show fo (r++ [S.getD i 0]) n=_;unfold fo;rw[YN,Zn ⋯,l];simp
theorem zM {L:List (List Int)} {S:List Int} {n i:Nat} (hq:Sq L n) (hS:S.length=n) (hi:i<n):((aug L S).map fo).getD i z0∈(aug L S).map fo:=by
 have l:((aug L S).map fo).length=n:=by rw[YL,k8 hq.len hS]
 rw[YN,YM (show i< ((aug L S).map fo).length by lia)];exact YV _
abbrev yw (L:List (List Int)) (n:Nat):Prop:=∃(g:Nat->Int) (k:Nat),k<n/\g k≠0/\∀i,i<n->sm n (λj=>g j*cell L i j)=0
theorem su {L:List (List Int)} {S:List Int} {n k:Nat} {rs V:List Fm} (hq:Sq L n) (hS:S.length=n) (St:j7 ((aug L S).map fo) n k rs V) (hk:k<n) (z:sr k rs V):yw L n:=by
 refine⟨λj=>if j<k then - D (ng j::rs) (k::dn k) else if j=k then D rs (dn k) else 0,k,hk,?_,λi hi=>?_⟩
 ·show(if k<k then _ else if k=k then D rs (dn k) else 0)≠0;rw[if_neg (Zj _),if_pos rfl];exact St.good.ne
 ·have e:=St.Gp z (zM hq hS hi);have key:∀q,k+1<=q->sm q (λj=>(if j<k then - D (ng j::rs) (k::dn k) else if j=k then D rs (dn k) else 0)* (((aug L S).map fo).getD i z0) j)=0:=by
   intro q hq
   induction q with
   | zero=>lia
   | succ q ih=>
    by_cases c:q=k
    ·subst c;show sm q _+_*_=0;rw[if_neg (Zj _),if_pos rfl];have e2:sm q (λj=>(if j<q then - D (ng j::rs) (q::dn q) else if j=q then D rs (dn q) else 0)* (((aug L S).map fo).getD i z0) j)=sm q (λj=>(-1)* ((((aug L S).map fo).getD i z0) j*D (ng j::rs) (q::dn q))):=eY λi hi=>by
      rw[if_pos hi,Int.neg_mul,Int.neg_one_mul,Za]
     rw[e2,iz,e,Za (D rs (dn q))];lia
    ·show sm q _+_*_=0;rw[ih ⋯,if_neg ⋯,if_neg c];simp
  refine Eq.trans (eY λj hj=>?_) (key n ⋯);rw[Dm hq hS hi hj]
abbrev v7 (L:List (List Int)):List (List Int):=(List.range L.length).map λc=>L.map λr=>r.getD c 0
theorem Dq {L:List (List Int)} {n:Nat} (h:Sq L n):Sq (v7 L) n:=by
 refine⟨by unfold v7;rw[YL,Y6,h.len],λr hr=>?_⟩;unfold v7 at hr;obtain⟨c,_,rfl⟩:=aau.mp hr;rw[YL,h.len]
theorem zN {L:List (List Int)} {n c:Nat} (h:Sq L n) (hc:c<n):(v7 L)[c]?=some (L.map λr=>r.getD c 0):=by
 unfold v7;rw[YO,Zu (by rw[h.len];exact hc)];rfl
theorem v8 {L:List (List Int)} {n i j:Nat} (h:Sq L n) (hi:i<n) (hj:j<n):cell (v7 L) i j=cell L j i:=by
 obtain⟨r,e,l,_⟩:=h.at hj;unfold cell;rw[YN (l:=v7 L),zN h hi,aaa,YN (l:=List.map _ _),YO,e,YN (l:=L),e];rfl
abbrev qX (L:List (List Int)) (s:Nat) (l:Int) (i:Nat):List Int:=
 if i=s then (L.getD i []).tail else List.zipWith (λone other=>((L.getD s []).headD 0*one - (L.getD i []).headD 0*other).fdiv l) (L.getD i []).tail (L.getD s []).tail
abbrev Oa (L:List (List Int)) (s:Nat) (l:Int):List (List Int):=(List.range L.length).map (qX L s l)
theorem getD_map {V:List Fm} {f:Fm->List Int} {i:Nat} {v:Fm} (h:V[i]?=some v):(V.map f).getD i []=f v:=by
 rw[YN,YO,h];rfl
theorem Gq {V:List Fm} {f:Fm->List Int} {k eI:Nat} {u a:Fm} (hu:V[eI]?=some u) (ha:V[k]?=some a):((V.map f).set k ((V.map f).getD eI [])).set eI ((V.map f).getD k [])=(oO V k eI u a).map f:=by
 rw[getD_map hu,getD_map ha];unfold oO;rw[List.map_set,List.map_set]
theorem Dr {V:List Fm} {k eI:Nat} {u a:Fm} (hu:V[eI]?=some u) (ha:V[k]?=some a):(oO V k eI u a)[k]?=some u:=by
 have h1:=(aat.mp ha).1;unfold oO
 by_cases e:eI=k
 ·subst e;rw[ZO (by simpa using h1)];rw[hu] at ha;exact ha.symm
 ·rw[Zw e,ZO h1]
theorem Ds {n k m eI:Nat} {rs V:List Fm} {u a:Fm} (G:Good rs (dn k)) (hm:k<m) (hu:V[eI]?=some u) (ha:V[k]?=some a):
  Oa ((oO V k eI u a).map λv=>cf v rs k m) k (D rs (dn k))=((oO V k eI u a).set k (ng k)).map λv=>cf v (u::rs) (k+1) m:=by
 have hk:=Dr hu ha;generalize oO V k eI u a=W at *;unfold Oa;refine Zy λi=>?_;rw[YO,YO,YL]
 by_cases l:i<W.length
 ·rw[Zu l];have ew:W[i]?=some W[i]:=YM l
  by_cases e:i=k
  ·subst e;rw[ZO l];show some (qX _ i _ i)=some _;unfold qX;rw[if_pos rfl,getD_map hk,Gn hm]
  ·rw[Zw ⋯,ew];show some (qX _ k _ i)=some (cf W[i] (u::rs) (k+1) m);unfold qX;rw[if_neg e,getD_map ew,getD_map hk,<-Dk hm G u W[i]];have hh:∀v,(cf v rs k m).headD 0=D (v::rs) (k::dn k):=λv=>by rw[d4 hm];rfl
   rw[hh,hh]
 ·rw[Y0 (by rw[Y6];lia),Y0 (by rw[Zh];lia)];rfl
theorem yy {L:List (List Int)} {m:Nat} (h:∀r∈L,r.length=m):(L.map fo).map (λv=>cf v [] 0 m)=L:=by
 rw[ZA]
 conv=>rhs;rw[<-List.map_id L]
 exact List.map_congr_left λr hr=>yv (h r hr)
theorem v9 {v w:Fm}:∀{cs:List Nat} {F G:List Nat->Int},(∀c∈cs,v c=w c)->(∀l,(∀c∈l,c∈cs)->F l=G l)->X v F cs=X w G cs
 | [],_,_,_,_=>rfl
 | c::cs,F,G,h,k=>by
  simp only[X];rw[h c (YT ..),k cs λc' hc=>YU _ hc,v9 (cs:=cs) (G:=λl=>G (c::l)) (λc' hc=>h c' (YU _ hc)) λl hl=>k (c::l) λc' hc=>?_];rcases ZT.mp hc with rfl | hc
  ·exact YT ..
  ·exact YU _ (hl c' hc)
theorem Dt {n:Nat}:∀(L:List (List Int)) (S:List Int),S.length=L.length->(∀r∈L,r.length=n)->∀cs:List Nat,(∀c∈cs,c<n)->D ((aug L S).map fo) cs=D (L.map fo) cs
 | [],[],_,_,_,_=>rfl
 | [],_::_,h,_,_,_=>by simp at h
 | _::_,[],h,_,_,_=>by simp at h
 | r::L,s::S,h,hr,cs,hc=>by
  show X (fo (r++ [s])) (D ((aug L S).map fo)) cs=X (fo r) (D (L.map fo)) cs;refine v9 (λc NB=>?_) λl hl=>Dt L S (by simpa using h) (λq hq=>hr q (YU _ hq)) l λc FL=>hc c (hl c FL);unfold fo;have:=hc c NB;have lr:=hr r (YT ..);rw[YN,Zm ⋯,YN]
end aO
namespace Dg
abbrev Du (ps:List Int) (g:Nat->Int) (q:Int):Int:=if q∈ps then g (ps.idxOf q) else 0
theorem Gr {g:Nat->Int} {q w:Int}:∀{ps:List Int},ps.Nodup->aO.sm ps.length (λj=>g j* (if q=ps.getD j 0 then w else 0))=w*Du ps g q:=by
 intro ps nd;have key:∀n,n<=ps.length->aO.sm n (λj=>g j* (if q=ps.getD j 0 then w else 0))=if q∈ps.take n then w*g (ps.idxOf q) else 0:=by
  intro n
  induction n with
  | zero=>intro _;rfl
  | succ n ih=>
   intro hn;have e:ps[n]?=some ps[n]:=YM ⋯;have eg:ps.getD n 0=ps[n]:=by rw[YN,e];rfl
   show aO.sm n _+g n* (if q=ps.getD n 0 then w else 0)=_;rw[ih ⋯,Zc,e,eg]
   by_cases c:q=ps[n]
   ·have Mo:q∉ps.take n:=by
     intro z;obtain⟨j,hj,ej⟩:=Zi z;rw[Zf] at hj;rw[List.getElem_take] at ej;have:=(ZU nd).mp (ej.trans c);lia
    have ix:ps.idxOf q=n:=by
     have l:=Zz (show q∈ps by rw[c];exact YV _);exact(ZU nd).mp ((ZJ l).trans c)
    rw[if_neg Mo,if_pos c,if_pos (Zk _ (by rw[c];exact aav.mpr rfl)),ix,ZR,Za]
   ·have m:q∈ps.take n++ (some ps[n]).toList↔q∈ps.take n:=by
     rw[List.mem_append];constructor
     ·rintro(h | h)
      ·exact h
      ·exact absurd (aav.mp h) c
     ·exact .inl
    rw[if_neg c,Zv,Int.add_zero]
    by_cases k:q∈ps.take n
    ·rw[if_pos k,if_pos (m.mpr k)]
    ·rw[if_neg k,if_neg (λz=>k (m.mp z))]
 have:=key ps.length (YR _);rw[Zg (YR _)] at this;rw[this];unfold Du
 split
 ·rfl
 ·rw[Zv]
theorem zO {ps:List Int} {g:Nat->Int} (nd:ps.Nodup):∀ws:Wy,aO.sm ps.length (λj=>g j*cQ (ps.getD j 0) ws)=fg (Du ps g) ws
 | []=>by
  show aO.sm ps.length (λj=>g j*0)=0;rw[show(λj=>g j*0)=λ_=>(0:Int) from funext λj=>Zv _];exact aO.zL _
 | x::ws=>by
  have e:(λj=>g j*cQ (ps.getD j 0) (x::ws))=λj=>g j* (if x.2=ps.getD j 0 then x.1 else 0)+g j*cQ (ps.getD j 0) ws:=funext λj=>by
   show g j* ((if x.2=ps.getD j 0 then x.1 else 0)+cQ (ps.getD j 0) ws)=_;rw[Int.mul_add]
  rw[e,aO.qp,Gr nd,zO nd ws];rfl
abbrev j8 (ps:List Int) (W:Int->Wy) (L:List (List Int)):Prop:=L.length=ps.length/\(∀r∈L,r.length=ps.length)/\∀i j,i<ps.length->j<ps.length->(L.getD i []).getD j 0=(if i=j then tt (W (ps.getD i 0)) else 0) - cQ (ps.getD j 0) (W (ps.getD i 0))
theorem j8.sum {ps:List Int} {W:Int->Wy} {L:List (List Int)} (R:j8 ps W L) (nd:ps.Nodup) (g:Nat->Int) {i:Nat} (hi:i<ps.length):aO.sm ps.length (λj=>g j* (L.getD i []).getD j 0)=tt (W (ps.getD i 0))*g i - fg (Du ps g) (W (ps.getD i 0)):=by
 have e:aO.sm ps.length (λj=>g j* (L.getD i []).getD j 0)=aO.sm ps.length (λj=>tt (W (ps.getD i 0))* (g j* (if j=i then 1 else 0))+ (-1)* (g j*cQ (ps.getD j 0) (W (ps.getD i 0)))):=aO.eY λj hj=>by
  rw[R.2.2 i j hi hj]
  by_cases c:i=j
  ·subst c;rw[if_pos rfl,if_pos rfl,Int.mul_sub,Int.mul_one,Za (g i) (tt _)];lia
  ·rw[if_neg c,if_neg (Ne.symm c),Int.mul_sub,Zv,Zv];lia
 rw[e,aO.qp,aO.iz,aO.iz,aO.uq,if_pos hi,zO nd];lia
end Dg
namespace Dg
theorem yz {ps:List Int} (nd:ps.Nodup) (g:Nat->Int) {i:Nat} (hi:i<ps.length):Du ps g (ps.getD i 0)=g i:=by
 have eg:ps.getD i 0=ps[i]:=by rw[YN,YM hi];rfl
 unfold Du;rw[eg,if_pos (YV hi)];congr 1;have l:=Zz (YV hi);exact(ZU nd).mp (ZJ l)
theorem j8.Dv {ps:List Int} {W:Int->Wy} {lv:Int->Nat} {L:List (List Int)} (R:j8 ps W L) (nd:ps.Nodup) (pos:∀p∈ps,∀x∈W p,1<=x.1) (dn:∀p∈ps,W p=[]\/∃x∈W p,lv x.2<lv p):¬aO.yw L ps.length:=by
 rintro⟨g,k,hk,gk,rel⟩;apply gk;have z:=Bg (ps:=ps) (W:=W) (lv:=lv) (v:=Du ps g) (λp hp=>?_) pos (λq hq=>if_neg hq) dn (ps.getD k 0) ?_
 ·rw[yz nd g hk] at z;exact z
 ·obtain⟨i,hi,rfl⟩:=Zi hp;have eg:ps.getD i 0=ps[i]:=by rw[YN,YM hi];rfl
  have e:=R.sum nd g hi;have r:aO.sm ps.length (λj=>g j* (L.getD i []).getD j 0)=0:=rel i hi;rw[r] at e;have o:=yz nd g hi;rw[eg] at e o;rw[o];lia
 ·rw[YN,YM hk];exact YV hk
end Dg
abbrev Rw (H:Hp) (r:List Int) (x:V):Prop:=∃q,x=.ref q/\H q=some (.lst (List.map V.int r))
theorem Rw.mono {H H':Hp} {r:List Int} {x:V} (s:aA H H') (h:Rw H r x):Rw H' r x:=by
 obtain⟨q,e,k⟩:=h;exact⟨q,e,s _ _ k⟩
abbrev qJ (H:Hp) (a:Addr) (L:List (List Int)):Prop:=∃xs,H a=some (.lst xs)/\Al (Rw H) L xs
theorem qJ.mono {H H':Hp} {a:Addr} {L:List (List Int)} (s:aA H H') (h:qJ H a L):qJ H' a L:=by
 obtain⟨xs,h1,h2⟩:=h;exact⟨xs,s _ _ h1,h2.imp λ_ _ k=>k.mono s⟩
theorem qq {xs:List V} {k:Int} (h:0<=k):iK xs (some k) none=xs.drop k.toNat:=by
 unfold iK;obtain⟨n,rfl⟩:=Y2 h;rw[HT.vb,HT.oA,YS]
 by_cases c:n<=xs.length
 ·rw[Nat.min_eq_left c,Zg (by rw[List.length_drop];exact YR _)]
 ·rw[Nat.min_eq_right ⋯,List.drop_eq_nil_of_le (YR _),List.drop_eq_nil_of_le (show xs.length<=n by lia)];simp
theorem wa (r:List Int):iK (List.map V.int r) (some 1) none=List.map V.int r.tail:=by
 rw[qq (by decide)];cases r <;>rfl
theorem fC {n i:Nat} (h:i<n):yZ n (i:Int)=some i:=by
 unfold yZ;rw[if_pos ⋯,if_pos ⋯];rfl
theorem qr {xs:List V} {L:List (List Int)} {H:Hp} {i:Nat} {r:List Int} (al:Al (Rw H) L xs) (e:L[i]?=some r):∃q,eV xs (i:Int)=some (.ref q)/\H q=some (.lst (List.map V.int r)):=by
 obtain⟨v,ev,q,rfl,hq⟩:=al.at e;exact⟨q,bA ev,hq⟩
theorem Dw {r:List Int} {j:Nat} (h:j<r.length):eV (List.map V.int r) (j:Int)=some (.int (r.getD j 0)):=by
 refine bA ?_;rw[YO,YM h];simp [YN,YM h]
theorem k9 {r:List Int} (h:0<r.length):eV (List.map V.int r) 0=some (.int (r.headD 0)):=by
 cases r with
 | nil=>cases h
 | cons a r=>exact bA (j:=0) rfl
theorem Al.set {α:Type} {R:α->V->Prop} {a:α} {v:V} (h:R a v):∀{as:List α} {vs:List V} {i:Nat},Al R as vs->Al R (as.set i a) (vs.set i v)
 | [],[],_,_=>trivial
 | _::_,_::_,0,k=>⟨h,k.2⟩
 | _::_,_::_,i+1,k=>⟨k.1,Al.set h k.2⟩
theorem ur {H:Hp} {p:Addr} {o:HO}:c6 (upd H p o) p=c6 H p:=by
 funext a;unfold c6
 by_cases h:a=p
 ·rw[if_pos h,if_pos h]
 ·rw[if_neg h,if_neg h,aK h]
theorem Rw.push {H:Hp} {a q:Addr} {L:List (List Int)} {xs:List V} {r:List Int} (al:Al (Rw (c6 H a)) L xs) (hq:H q=some (.lst (List.map V.int r))) (ne:q≠a):Al (Rw (c6 (upd H a (.lst (xs++ [.ref q]))) a)) (L++ [r]) (xs++ [.ref q]):=by
 rw[ur];exact al.append (.one ⟨q,rfl,by rw[bY ne];exact hq⟩)
theorem Dx {zs:List V} {f:Int->Int->Int} {as bs:List Int} (l:zs.length=min (List.map V.int as).length (List.map V.int bs).length) (h:∀(j:Nat) y,zs[j]?=some y->∀o1 o2,as[j]?=some o1->bs[j]?=some o2->y=.int (f o1 o2)):zs=List.map V.int (List.zipWith f as bs):=by
 rw[YL,YL] at l;refine Zy λj=>?_
 by_cases c:j<min as.length bs.length
 ·have e1:as[j]?=some as[j]:=YM ⋯;have e2:bs[j]?=some bs[j]:=YM ⋯;rw[YM (show j<zs.length by lia),h j _ (YM ⋯) _ _ e1 e2,YO,aaj,e1,e2];rfl
 ·rw[Y0 ⋯,Y0 (by rw[YL,Z2];lia)]
abbrev JE:Sp:=λvs H Q _=>∃a L k,vs=[.ref a,.int (Nat.cast k)]/\qJ H a L/\k<=L.length/\L.length<=64/\(∀r∈L,0<r.length)/\(∀i:Nat,k<=i->i<L.length->(L.getD i []).headD 0≠0->Q (.int i) H)/\((∀i:Nat,k<=i->i<L.length->(L.getD i []).headD 0=0)->Q .cJ H)
abbrev Dy:Sp:=λvs H Q _=>∃a L i j,vs=[.ref a,.int (Nat.cast i),.int (Nat.cast j)]/\qJ H a L/\i<L.length/\j<L.length/\L.length<=64/\∀p H',aA H H'->qJ H' p ((L.set i (L.getD j [])).set j (L.getD i []))->Q (.ref p) H'
abbrev JF:Sp:=λvs H Q _=>∃a L s l m,vs=[.ref a,.int (Nat.cast s),.int l]/\qJ H a L/\s<L.length/\L.length<=64/\m<=64/\(∀r∈L,r.length=m+1)/\l≠0/\Bt 4000 l/\(∀r∈L,∀x∈r,Bt 4000 x)/\∀p H',aA H H'->qJ H' p (aO.Oa L s l)->Q (.ref p) H'
structure Ob (L:List (List Int)) (n m:Nat):Prop where
 len:L.length=n
 row:∀r∈L,r.length=m
 nm:n<=m
 P6:m<=64
 Fx:∀k rs W,aO.j7 (L.map aO.fo) n k rs W->Bt 4000 (aO.D rs (aO.dn k))/\∀v∈W,∀j,Bt 4000 (aO.D (v::rs) (j::aO.dn k))
abbrev JG:Sp:=λvs H Q _=>∃a L n m,vs=[.ref a,.int (Nat.cast n)]/\qJ H a L/\Ob L n m/\∀t p k rs W H',aO.j7 (L.map aO.fo) n k rs W->(k<n->aO.sr k rs W)->aA H H'->H' t=some (.tup [.ref p,.int (Nat.cast k),.int (aO.D rs (aO.dn k))])->qJ H' p (W.map λv=>aO.cf v rs k m)->Q (.ref t) H'
abbrev uS (d:Int):Int:=if 0<d then 1 else -1
abbrev qt (n:Nat) (rs:List aO.Fm):List Int:=(List.range n).map λi=>aO.D (aO.ng i::rs) (n::aO.dn n)*uS (aO.D rs (aO.dn n))
theorem Dz (d:Int):uS d=1\/uS d= -1:=by
 unfold uS
 split
 ·exact .inl rfl
 ·exact .inr rfl
theorem DB {i d:Int}:IntMulOk i (uS d):=by
 rcases Dz d with h | h <;>rw[h] <;>exact pE
theorem JH {U W rs:List aO.Fm} {n:Nat} (St:aO.j7 U n n rs W):W.filterMap (λv=>some (aO.D (v::rs) (n::aO.dn n)*uS (aO.D rs (aO.dn n))))=qt n rs:=by
 rw[List.filterMap_eq_map'];unfold qt;refine Zy λi=>?_;rw[YO,YO]
 by_cases c:i<n
 ·rw[St.own i c,Zu c];rfl
 ·rw[Y0 (by rw[St.len];lia),Y0 (by rw[Y6];lia)];rfl
abbrev DC:Sp:=λvs H Q _=>∃a c L S n,vs=[.ref a,.ref c]/\qJ H a L/\H c=some (.lst (List.map V.int S))/\S.length=n/\aO.Sq L n/\Ob (aO.aug L S) n (n+1)/\
 (∀k rs W H',aO.j7 ((aO.aug L S).map aO.fo) n k rs W->k<n->aO.sr k rs W->aA H H'->Q .cJ H')/\
 (∀rs W t p H',aO.j7 ((aO.aug L S).map aO.fo) n n rs W->aA H H'->H' t=some (.tup [.ref p,.int (aO.D rs (aO.dn n)*uS (aO.D rs (aO.dn n)))])->H' p=some (.lst (List.map V.int (qt n rs)))->Q (.ref t) H')
abbrev DD:Sp:=λvs H Q _=>∃a L c,vs=[.ref a,.int (Nat.cast c)]/\qJ H a L/\L.length<=64/\(∀r∈L,c<r.length)/\∀p H',aA H H'->H' p=some (.lst (List.map V.int (L.map λr=>r.getD c 0)))->Q (.ref p) H'
abbrev DE:Sp:=λvs H Q _=>∃a L n,vs=[.ref a]/\qJ H a L/\aO.Sq L n/\n<=64/\∀p H',aA H H'->qJ H' p (aO.v7 L)->Q (.ref p) H'
structure P7 (L:List (List Int)) (S:List Int) (n:Nat) (x:List Int) (d:Int):Prop where
 len:x.length=n
 pos:0<d
 bd:Bt 4000 d
 bx:∀v∈x,Bt 4000 v
 eq:∀i,i<n->aO.sm n (λj=>aO.cell L i j*x.getD j 0)=S.getD i 0*d
 ne:aO.D (L.map aO.fo) (aO.dn n)≠0
 Yg:d.natAbs=(aO.D (L.map aO.fo) (aO.dn n)).natAbs
theorem Gs {d:Int} (h:d≠0):0<d*uS d:=by
 unfold uS
 split
 ·lia
 ·lia
theorem lh (x d:Int):(x*uS d).natAbs=x.natAbs:=by
 rcases Dz d with h | h <;>rw[h] <;>lia
theorem DF {n i:Nat} {rs:List aO.Fm} (h:i<n):(qt n rs).getD i 0=aO.D (aO.ng i::rs) (n::aO.dn n)*uS (aO.D rs (aO.dn n)):=by
 unfold qt;rw[YN,YO,Zu h];rfl
theorem DG {L:List (List Int)} {S:List Int} {n:Nat} {rs W:List aO.Fm} (sq:aO.Sq L n) (lS:S.length=n) (B:Ob (aO.aug L S) n (n+1)) (St:aO.j7 ((aO.aug L S).map aO.fo) n n rs W):P7 L S n (qt n rs) (aO.D rs (aO.dn n)*uS (aO.D rs (aO.dn n))):=by
 refine⟨by unfold qt;rw[YL,Y6],Gs St.good.ne,?_,λv hv=>?_,λi hi=>?_,?_,?_⟩
 ·unfold Bt;rw[lh];exact(B.Fx _ _ _ St).1
 ·unfold qt at hv;obtain⟨i,hi,rfl⟩:=aau.mp hv;unfold Bt;rw[lh];exact(B.Fx _ _ _ St).2 _ (YQ (St.own i (List.mem_range.mp hi))) n
 ·have e:=St.answers (aO.zM sq lS hi);have e2:aO.sm n (λj=>aO.cell L i j* (qt n rs).getD j 0)=aO.sm n (λj=>uS (aO.D rs (aO.dn n))* ((((aO.aug L S).map aO.fo).getD i aO.z0) j*aO.D (aO.ng j::rs) (n::aO.dn n))):=aO.eY λj hj=>by
   rw[DF hj,aO.Dm sq lS hi hj,<-Zo,Za]
  rw[e2,aO.iz,e,aO.Dp sq lS hi,Za,Zo]
 ·rw[<-aO.Dt L S (by rw[lS,sq.len]) sq.row _ λc hc=>aO.mI.mp hc];exact St.ne
 ·rw[<-aO.Dt L S (by rw[lS,sq.len]) sq.row _ λc hc=>aO.mI.mp hc,lh];obtain⟨s,hs,e⟩:=aO.perm St.all;rw[e];rcases hs with rfl | rfl <;>lia
theorem zP {L:List (List Int)} {S:List Int} {n b c:Nat} (sq:aO.Sq L n) (lS:S.length=n) (Yh:n<64) (b1:1<=b) (bc:b<=c) (hL:∀r∈L,∀x∈r,x.natAbs<=b) (hS:∀x∈S,x.natAbs<=c) (top:(n+1)^ (n+1)* (c*b^n)<2^4000):Ob (aO.aug L S) n (n+1):=by
 have ge:∀{i:Nat} {r:List Int},(aO.aug L S)[i]?=some r->∃q,q∈L/\r=q++ [S.getD i 0]/\i<n:=λ{i r} e=>by
  have hi:i<n:=by have:=(aat.mp e).1;rw[aO.k8 sq.len lS] at this;exact this
  obtain⟨q,eq,_,mq⟩:=sq.at hi;rw[aO.k6 lS hi eq] at e;exact⟨q,mq,(Zb e).symm,hi⟩
 have hU:∀u∈(aO.aug L S).map aO.fo,∀j,(u j).natAbs<=if j<n then b else c:=λu hu j=>by
  obtain⟨r,hr,rfl⟩:=aau.mp hu;obtain⟨i,ei⟩:=Ze hr;obtain⟨q,mq,rfl,hi⟩:=ge ei;have lq:=sq.row q mq;unfold aO.fo;rw[YN]
  by_cases cj:j<n
  ·rw[if_pos cj,Zm ⋯,YM ⋯];exact hL q mq _ (YV _)
  ·rw[if_neg cj,Zn ⋯]
   by_cases e:j=n
   ·rw[e,lq,Nat.sub_self];show(S.getD i 0).natAbs<=c;rw[YN,YM ⋯];exact hS _ (YV _)
   ·rw[Y0 (by show 1<=_;lia)];exact Y1 _
 have β1:∀j,1<=if j<n then b else c:=λj=>by split <;>lia
 have βn:∀j,j<n->(if j<n then b else c)<=b:=λj hj=>by rw[if_pos hj];exact YR _
 have βc:∀j,(if j<n then b else c)<=c:=λj=>by split <;>lia
 refine⟨aO.k8 sq.len lS,λr hr=>?_,⋯,⋯,λk rs W St=>⟨?_,λv hv j=>?_⟩⟩
 ·obtain⟨i,ei⟩:=Ze hr;obtain⟨q,mq,rfl,_⟩:=ge ei;rw[Y7,sq.row q mq];rfl
 ·have h:=St.R8 β1 βn hU;refine ZG (YY h (aae _ ?_)) top;have:=ZP b1 St.le;exact YY this (Nat.le_mul_of_pos_left _ ⋯)
 ·have h:=St.R7 β1 βn βc hU hv j;exact ZG (YY h (aae _ (aae _ (ZP b1 St.le)))) top
theorem DH {L:List (List Int)} {S:List Int} {n b c:Nat} {rs W:List aO.Fm} (sq:aO.Sq L n) (lS:S.length=n) (b1:1<=b) (bc:b<=c) (hL:∀r∈L,∀x∈r,x.natAbs<=b) (hS:∀x∈S,x.natAbs<=c) (St:aO.j7 ((aO.aug L S).map aO.fo) n n rs W):(aO.D rs (aO.dn n)*uS (aO.D rs (aO.dn n))).natAbs<=(n+1)^ (n+1)*b^n/\∀v∈qt n rs,v.natAbs<=(n+1)^ (n+1)* (c*b^n):=by
 have hU:∀u∈(aO.aug L S).map aO.fo,∀j,(u j).natAbs<=if j<n then b else c:=λu hu j=>by
  obtain⟨r,hr,rfl⟩:=aau.mp hu;obtain⟨i,ei⟩:=Ze hr;have hi:i<n:=by have:=(aat.mp ei).1;rw[aO.k8 sq.len lS] at this;exact this
  obtain⟨q,eq,lq,mq⟩:=sq.at hi;rw[aO.k6 lS hi eq] at ei;cases ei;unfold aO.fo;rw[YN]
  by_cases cj:j<n
  ·rw[if_pos cj,Zm ⋯,YM ⋯];exact hL q mq _ (YV _)
  ·rw[if_neg cj,Zn ⋯]
   by_cases e:j=n
   ·rw[e,lq,Nat.sub_self];show(S.getD i 0).natAbs<=c;rw[YN,YM ⋯];exact hS _ (YV _)
   ·rw[Y0 (by show 1<=_;lia)];exact Y1 _
 have β1:∀j,1<=if j<n then b else c:=λj=>by split <;>lia
 have βn:∀j,j<n->(if j<n then b else c)<=b:=λj hj=>by rw[if_pos hj];exact YR _
 have βc:∀j,(if j<n then b else c)<=c:=λj=>by split <;>lia
 refine⟨by rw[lh];exact St.R8 β1 βn hU,λv hv=>?_⟩;unfold qt at hv;obtain⟨i,hi,rfl⟩:=aau.mp hv;rw[lh];exact St.R7 β1 βn βc hU (YQ (St.own i (List.mem_range.mp hi))) n
namespace Dg
theorem wb (f g:Int->Int):∀ws:Wy,fg (λq=>f q+g q) ws=fg f ws+fg g ws
 | []=>rfl
 | x::ws=>by
  show x.1* (f x.2+g x.2)+fg (λq=>f q+g q) ws=x.1*f x.2+fg f ws+ (x.1*g x.2+fg g ws);rw[wb f g ws,Int.mul_add];lia
theorem wc (d:Int) (f:Int->Int):∀ws:Wy,fg (λq=>f q*d) ws=fg f ws*d
 | []=>by show(0:Int)=0*d;lia
 | x::ws=>by
  show x.1* (f x.2*d)+fg (λq=>f q*d) ws=(x.1*f x.2+fg f ws)*d;rw[wc d f ws,Int.add_mul,Zo]
theorem qu {f g:Int->Int}:∀{ws:Wy},(∀x∈ws,f x.2=g x.2)->fg f ws=fg g ws
 | [],_=>rfl
 | x::ws,h=>by
  show x.1*f x.2+fg f ws=x.1*g x.2+fg g ws;rw[h x YT,qu λy hy=>h y (YU _ hy)]
theorem mK (ts:List Int):∀ws:Wy,fY ts ws=fg (λq=>ts.getD q.toNat 0) ws
 | []=>rfl
 | x::ws=>by
  have:=mK ts ws;show x.1*ts.getD x.2.toNat 0+fY ts ws=x.1*ts.getD x.2.toNat 0+_;rw[this]
theorem Gu {ps:List Int} {W:Int->Wy} {L:List (List Int)} {S T x:List Int} {d r:Int} (R:j8 ps W L) (nd:ps.Nodup) {i:Nat} (hi:i<ps.length)
  (sol:aO.sm ps.length (λj=>aO.cell L i j*x.getD j 0)=r*d) (zero:∀p∈ps,S.getD p.toNat 0=0)
  (R9:∀j,j<ps.length->T.getD (ps.getD j 0).toNat 0=x.getD j 0) (P8:∀y∈W (ps.getD i 0),y.2∉ps->T.getD y.2.toNat 0=S.getD y.2.toNat 0*d):
  tt (W (ps.getD i 0))*T.getD (ps.getD i 0).toNat 0=r*d - fY S (W (ps.getD i 0))*d+fY T (W (ps.getD i 0)):=by
 have e:=R.sum nd (λj=>x.getD j 0) hi;have c:aO.sm ps.length (λj=>x.getD j 0* (L.getD i []).getD j 0)=aO.sm ps.length (λj=>aO.cell L i j*x.getD j 0):=aO.eY λj _=>Za _ _;rw[c,sol] at e;have k:fg (λq=>T.getD q.toNat 0) (W (ps.getD i 0))=fg (Du ps λj=>x.getD j 0) (W (ps.getD i 0))+fY S (W (ps.getD i 0))*d:=by
  rw[mK,<-wc,<-wb];refine qu λy hy=>?_
  by_cases m:y.2∈ps
  ·have lt:=Zz m;have eg:ps.getD (ps.idxOf y.2) 0=y.2:=by rw[YN,YM lt,ZJ lt];rfl
   have t1:=R9 _ lt;rw[eg] at t1;rw[t1,zero _ m,Int.zero_mul,Int.add_zero];unfold Du;rw[if_pos m]
  ·rw[P8 y hy m];unfold Du;rw[if_neg m,ZR]
 rw[R9 i hi,mK T,k];lia
end Dg
abbrev oP (ws:Dg.Wy):Dat:=.lst (ws.map a9)
abbrev bf (dF:List Dg.Wy) (p:Int):Dg.Wy:=dF.getD p.toNat []
abbrev iZ (ps:List Int):List (Key×V):=(List.range ps.length).map λi=>(Sum.inl (ps.getD i 0),.int (i:Int))
abbrev wd:Sp:=λvs H Q _=>∃(x wl:Addr) (ps:List Int) (xs:List V) (dF:List Dg.Wy),vs=[.ref x,.ref wl]/\H x=some (.lst (ps.map V.int))/\H wl=some (.lst xs)/\a8 H (dF.map oP) xs/\ps.Nodup/\ps.length<=40/\(∀p∈ps,0<=p/\p< (dF.length:Int))/\(∀ws∈dF,ws.length<=5)/\
 ∀r L H',aA H H'->qJ H' r L->Dg.j8 ps (bf dF) L->Q (.ref r) H'
abbrev lA:Sp:=λvs H Q _=>∃(a:Addr) (ws:Dg.Wy),vs=[.ref a]/\Rep H (oP ws) (.ref a)/\ws.length<=5/\∀H',aA H H'->Q (.int (Dg.tt ws)) H'
theorem sy (ps:List Int):(iZ ps).map (·.1)=ps.map Sum.inl:=by
 unfold iZ;rw[ZA];apply Zy;intro i;rw[YO,YO]
 by_cases h:i<ps.length
 ·rw[Zu h,YM h];show some (Sum.inl (ps.getD i 0))=some (Sum.inl ps[i]);rw[YN,YM h];rfl
 ·rw[Y0 (by rw[Y6];lia),Y0 ⋯];rfl
theorem DI {ps:List Int} (nd:ps.Nodup) {i:Nat} (h:i<ps.length):iS (iZ ps) (Sum.inl (ps.getD i 0))=some (.int (i:Int)):=by
 refine yt (i:=i) ?_ ?_
 ·rw[sy];exact C5 nd
 ·unfold iZ;rw[YO,Zu h];rfl
theorem wm {ps:List Int} {q:Int} (h:q∉ps):iS (iZ ps) (Sum.inl q)=none:=oJ (by
 rw[sy];exact λz=>h (ub.mp z))
theorem Bi {ps:List Int} {i:Nat} (h:i<ps.length):iZ (ps.take (i+1))=iZ (ps.take i)++ [(Sum.inl (ps.getD i 0),.int (i:Int))]:=by
 have l1:(ps.take (i+1)).length=i+1:=by rw[Zf];lia
 have l0:(ps.take i).length=i:=by rw[Zf];lia
 unfold iZ;rw[l1,l0,List.range_succ,Y5];congr 1
 ·refine List.map_congr_left λj hj=>?_;have:=List.mem_range.mp hj;rw[YN,YN,aal ⋯,aal this]
 ·show[(Sum.inl ((ps.take (i+1)).getD i 0),V.int (i:Int))]=_;rw[YN,aal (Zl _),<-YN]
abbrev kJ (C:Addr) (H:Hp) (x:Addr) (S:Dg.Bk):Prop:=∃dx m,H x=some (.ins C dx [("tops",.ref m),("bottom",.int S.2)])/\H m=some (.lst (S.1.map V.int))
theorem kJ.mono {C:Addr} {H H':Hp} {x:Addr} {S:Dg.Bk} (s:aA H H') (h:kJ C H x S):kJ C H' x S:=by
 obtain⟨dx,m,h1,h2⟩:=h;exact⟨dx,m,s _ _ h1,s _ _ h2⟩
abbrev Bj:Sp:=λvs H Q _=>∃a b,vs=[.int a,.int b]/\Q (.int (Nm.g a b)) H
abbrev DJ:Sp:=λvs H Q _=>∃a b,vs=[.int a,.int b]/\Bt 5000 b/\0<b/\∀p H',aA H H'->H p=none->H' p=some (.tup (Pr (Nm.st a b) (Nm.sb a b)))->Q (.ref p) H'
abbrev JI:Sp:=λvs H Q _=>∃(a:Addr) (ws:List Wq.Sh) (Z:Int),vs=[.ref a]/\Rep H (.lst (ws.map a9)) (.ref a)/\ws.length<=60/\(∀x∈ws,0<x.2/\x.2∣Z)/\0<Z/\Bt 2000 Z/\Q (.int (Wq.fB 1 ws)) H
abbrev DK (C:Addr):Sp:=λvs H Q _=>∃(x dx l:Addr) (ts:List Int) (b:Int),vs=[.ref x,.ref l,.int b]/\H x=some (.ins C dx [])/\H l=some (.lst (ts.map V.int))/\
 ∀m H',H m=none->H' m=some (.lst (ts.map V.int))->H' x=some (.ins C dx [("tops",.ref m),("bottom",.int b)])->(∀y o,y≠x->H y=some o->H' y=some o)->Q .cJ H'
abbrev DL (C:Addr):Sp:=λvs H Q _=>∃(x:Addr) (S:Dg.Bk) (d:Int),vs=[.ref x,.int d]/\kJ C H x S/\Bt 4000 d/\Bt 4000 S.2/\(∀t∈S.1,Bt 4000 t)/\S.1.length<=60/\
 ∀y dy m H',aA H H'->H y=none->H m=none->H' y=some (.ins C dy [("tops",.ref m),("bottom",.int (S.2*d))])->H' m=some (.lst ((S.1.map (·*d)).map V.int))->Q (.ref y) H'
abbrev Gv (C:Addr):Sp:=λvs H Q _=>∃(x:Addr) (S:Dg.Bk),vs=[.ref x]/\kJ C H x S/\0<S.2/\Bt 5000 S.2/\S.1.length<=60/\∀l H',aA H H'->H l=none->Rep H' (.lst ((S.1.map λt=>Wq.low t S.2).map a9)) (.ref l)->Q (.ref l) H'
abbrev Bl:Sp:=λvs H Q _=>∃(a:V) (q:Pl),vs=[a]/\Rep H (mZ q) a/\∀r H',aA H H'->H' r=some (.tup (Pr (Wq.bI q).1 (Wq.bI q).2))->Q (.ref r) H'
abbrev DM (C:Addr):Sp:=λvs H Q _=>∃(a:Addr) (ws:List Wq.Sh) (Z:Int),vs=[.ref a]/\Rep H (.lst (ws.map a9)) (.ref a)/\ws.length<=60/\(∀x∈ws,0<x.2/\x.2∣Z/\Bt 4000 x.1)/\0<Z/\Bt 2000 Z/\
 ∀x H',aA H H'->kJ C H' x (ws.map (Wq.sc (Wq.fB 1 ws)),Wq.fB 1 ws)->Q (.ref x) H'
abbrev DN (C:Addr):Sp:=λvs H Q _=>∃(x:Addr) (S:Dg.Bk),vs=[.ref x]/\kJ C H x S/\S.1.length<=60/\∀y H',aA H H'->kJ C H' y (aaz S.1.length 0,S.2)->Q (.ref y) H'
namespace Dg
abbrev uu (n:Nat) (ws:Wy):Prop:=ws.length<=5/\∀x∈ws,1<=x.1/\x.1<=200000/\0<=x.2/\x.2< (n:Int)
theorem JJ:∀{ws:Wy},(∀x∈ws,1<=x.1/\x.1<=200000)->(ws.length:Int)<=Wq.cI ws/\Wq.cI ws<=200000* (ws.length:Int)
 | [],_=>⟨Int.le_refl _,Int.le_refl _⟩
 | x::ws,h=>by
  have ih:=JJ (ws:=ws) λy hy=>h y (YU _ hy);have:=h x YT;rw[dA,YZ];lia
theorem uu.NO {n:Nat} {ws:Wy} (h:uu n ws):0<=Wq.cI ws/\Wq.cI ws<=1000000:=by
 have:=JJ λx hx=>⟨(h.2 x hx).1,(h.2 x hx).2.1⟩
 have l:=h.1;lia
theorem uu.tt {n:Nat} {ws:Wy} (h:uu n ws):1<=tt ws/\tt ws<=1000000:=by
 have:=JJ λx hx=>⟨(h.2 x hx).1,(h.2 x hx).2.1⟩
 have l:=h.1;unfold Dg.tt;cases ws with
 | nil=>decide
 | cons x ws=>
  rw[if_neg (by simp)];rw[YZ] at this l;lia
theorem sG {q:Int}:∀{ws:Wy},(∀x∈ws,1<=x.1)->0<=cQ q ws/\cQ q ws<=Wq.cI ws
 | [],_=>⟨Int.le_refl _,Int.le_refl _⟩
 | x::ws,h=>by
  have ih:=sG (q:=q) (ws:=ws) λy hy=>h y (YU _ hy);have:=h x YT;show 0<=(if x.2=q then x.1 else 0)+cQ q ws/\(if x.2=q then x.1 else 0)+cQ q ws<=_;rw[dA]
  split <;>lia
theorem j8.ent {ps:List Int} {W:Int->Wy} {L:List (List Int)} {n:Nat} (R:j8 ps W L) (w:∀p∈ps,uu n (W p)):∀r∈L,∀x∈r,x.natAbs<=2^20:=by
 intro r hr x hx;obtain⟨i,hi,rfl⟩:=Zi hr;have lr:=R.2.1 _ (YV hi);obtain⟨j,hj,rfl⟩:=Zi hx;have uv:i<ps.length:=by rw[<-R.1];exact hi
 have JK:j<ps.length:=⋯
 have e:=R.2.2 i j uv JK;rw[YN (l:=L),YM hi,aaa,YN,YM hj,aaa] at e;have mp:ps.getD i 0∈ps:=by rw[YN,YM uv];exact YV uv
 have k:=w _ mp;obtain⟨t0,t1⟩:=k.tt;obtain⟨u0,u1⟩:=k.NO;obtain⟨s0,s1⟩:=sG (q:=ps.getD j 0) λx hx=>(k.2 x hx).1;rw[e]
 split <;>lia
theorem jA (n:Nat) (h:n<=31):(n+1)^ (n+1)<=2^ (5*n+5):=by
 have e:(2:Nat)^ (5*n+5)=32^ (n+1):=by rw[show 5*n+5=5* (n+1) by lia,Nat.pow_mul]
 rw[e];exact Nat.pow_le_pow_left ⋯ _
theorem DO (n M:Nat) (h:n<=31) (h1:1<=n):(n+1)^ (n+1)* (2^ (M+61)* (2^20)^n)<2^ (M+92*n):=by
 refine ZG (Z7 _ (jA n h)) ?_;rw[<-Nat.pow_mul,<-ZH,<-ZH];exact aak ∅ ⋯
theorem Gw (n:Nat) (h:n<=31) (h1:1<=n):(n+1)^ (n+1)* (2^20)^n<2^ (92*n):=by
 refine ZG (Z7 _ (jA n h)) ?_;rw[<-Nat.pow_mul,<-ZH];exact aak ∅ ⋯
abbrev putK (ps xs ts:List Int):Nat->List Int
 | 0=>ts
 | k+1=>(putK ps xs ts k).set (ps.getD k 0).toNat (xs.getD k 0)
theorem lB (ps xs ts:List Int):∀k,(putK ps xs ts k).length=ts.length
 | 0=>rfl
 | k+1=>by unfold putK;rw[Zh,lB ps xs ts k]
theorem wo {ps xs ts:List Int} {q:Int} (q0:0<=q) (hp:∀p∈ps,0<=p) (h:q∉ps):∀k,k<=ps.length->(putK ps xs ts k).getD q.toNat 0=ts.getD q.toNat 0
 | 0,_=>rfl
 | k+1,hk=>by
  have e:ps.getD k 0=ps[k]:=by rw[YN,YM ⋯];rfl
  have m:=YV (l:=ps) (n:=k) ⋯;have:=hp _ m;unfold putK;rw[c8 (λz=>h (by rw[e] at z;rw[show q=ps[k] by lia];exact m)),wo q0 hp h k ⋯]
theorem zQ {ps xs ts:List Int} {n:Nat} (nd:ps.Nodup) (hp:∀p∈ps,0<=p/\p< (n:Int)) (lt:ts.length=n) {j:Nat}:∀k,k<=ps.length->j<k->(putK ps xs ts k).getD (ps.getD j 0).toNat 0=xs.getD j 0
 | 0,_,h=>absurd h (ZF _)
 | k+1,hk,h=>by
  have e:ps.getD k 0=ps[k]:=by rw[YN,YM ⋯];rfl
  have ej:ps.getD j 0=ps[j]:=by rw[YN,YM ⋯];rfl
  have m:=hp _ (YV (l:=ps) (n:=k) ⋯);have mj:=hp _ (YV (l:=ps) (n:=j) ⋯);unfold putK
  by_cases c:j=k
  ·subst c;rw[d7 (by rw[lB,lt,e];lia)]
  ·rw[c8 ?_,zQ nd hp lt k ⋯ ⋯];rw[e,ej];intro z;exact c ((ZU nd).mp (show ps[j]=ps[k] by lia))
abbrev E4 (ps:List Int) (W:Int->Wy) (gt:List Int) (G:Int) (S T:Bk):Prop:=∃d,0<d/\T.2=S.2*d/\T.1.length=S.1.length/\(∀q,0<=q->q∉ps->T.1.getD q.toNat 0=S.1.getD q.toNat 0*d)/\
 ∀p∈ps,tt (W p)*T.1.getD p.toNat 0=tt (W p)*gt.getD p.toNat 0* (S.2 / G)*d+fY T.1 (W p)
structure Sz (n M:Nat) (S:Bk):Prop where
 len:S.1.length=n
 pos:0<S.2
 bb:Bt M S.2
 bt:∀q,Bt M (S.1.getD q 0)
theorem Sz.up {n M M':Nat} {S:Bk} (h:Sz n M S) (l:M<=M'):Sz n M' S:=⟨h.len,h.pos,h.bb.mono l,λq=>(h.bt q).mono l⟩
theorem Hl {M:Nat} (ts:List Int) (h:∀q,Bt M (ts.getD q 0)):∀{ws:Wy},(∀x∈ws,1<=x.1)->(fY ts ws).natAbs<=(Wq.cI ws).toNat *2^M/\0<=Wq.cI ws
 | [],_=>⟨by show(0:Int).natAbs<=_;simp,Int.le_refl _⟩
 | x::ws,hw=>by
  obtain⟨ih,t0⟩:=Hl ts h (ws:=ws) λy hy=>hw y (YU _ hy);have x0:=hw x YT;have e:(Wq.cI (x::ws)).toNat=x.1.toNat+ (Wq.cI ws).toNat:=by rw[dA];lia
  have m:(x.1*ts.getD x.2.toNat 0).natAbs<=x.1.toNat *2^M:=by
   rw[Zs,show x.1.natAbs=x.1.toNat by lia];exact aae _ (Nat.le_of_lt (h _))
  refine⟨?_,by rw[dA];lia⟩;rw[e,Nat.add_mul];show(x.1*ts.getD x.2.toNat 0+fY ts ws).natAbs<=_;lia
theorem JL {M n:Nat} {ts:List Int} {ws:Wy} (h:∀q,Bt M (ts.getD q 0)) (w:uu n ws):Bt (M+20) (fY ts ws):=by
 obtain⟨a,_⟩:=Hl ts h λx hx=>(w.2 x hx).1;have t:=w.NO;have e:(2:Nat)^ (M+20)=1048576*2^M:=by rw[ZH,Nat.mul_comm]
 have:(Wq.cI ws).toNat *2^M<=1000000*2^M:=Z7 _ ⋯;have:0<2^M:=Nat.pow_pos ∅;unfold Bt;lia
theorem DP {M n:Nat} {S:Bk} {G g:Int} {ws:Wy} (h:Sz n M S) (w:uu n ws) (G0:0<G) (dv:G∣S.2) (hg:g.natAbs<=2^40*G.toNat):Bt (M+60) (tt ws*g* (S.2 / G))/\(tt ws*g* (S.2 / G)+fY S.1 ws).natAbs<=2^ (M+61):=by
 obtain⟨t0,t1⟩:=w.tt;obtain⟨k,hk⟩:=dv;have S0:=h.pos;have ek:S.2 / G=k:=by rw[hk];exact Int.mul_ediv_cancel_left k ⋯
 have k0:0<k:=by rw[hk] at S0;exact Int.pos_of_mul_pos_right S0 G0
 have eS:S.2.natAbs=G.toNat *k.toNat:=by rw[hk,Zs];congr 1 <;>lia
 have b1:=h.bb;unfold Bt at b1;have g1:(g*k).natAbs<=2^40*S.2.natAbs:=by
  rw[Zs,eS,<-Nat.mul_assoc,show k.natAbs=k.toNat by lia];exact Z7 _ hg
 have g2:(tt ws*g* (S.2 / G)).natAbs<=1000000* (2^40*S.2.natAbs):=by
  rw[ek,Zo,Zs];exact Z1 ⋯ g1
 have U8:(2:Nat)^ (M+60)=1152921504606846976*2^M:=by rw[ZH,Nat.mul_comm]
 have U9:(2:Nat)^ (M+61)=2305843009213693952*2^M:=by rw[ZH,Nat.mul_comm]
 have s:=JL h.bt w;have Va:(2:Nat)^ (M+20)=1048576*2^M:=by rw[ZH,Nat.mul_comm]
 unfold Bt at s ⊢;rw[U8,U9];rw[Va] at s;lia
theorem E4.ne {ps:List Int} {W:Int->Wy} {gt:List Int} {G:Int} {S T:Bk} (h:E4 ps W gt G S T) (B0:0<S.2) {q:Int} (q0:0<=q) (hq:q∉ps):val T q=val S q:=by
 obtain⟨d,d0,e2,_,o,_⟩:=h;unfold val;rw[o q q0 hq,e2,Rat.intCast_mul,Rat.intCast_mul];have h1:=lV B0;have h2:=lV d0;generalize (S.2:Rat)=v at *;generalize (d:Rat)=t at *;generalize ((S.1.getD q.toNat 0:Int):Rat)=s at *;grind
theorem E4.eq {ps:List Int} {W:Int->Wy} {gt:List Int} {G:Int} {S T:Bk} (h:E4 ps W gt G S T) (B0:0<S.2) (G0:0<G) (dv:G∣S.2) {p:Int} (hp:p∈ps) (t0:0<tt (W p)):val T p=(gt.getD p.toNat 0:Rat) / (G:Rat)+dm (tt (W p)) (val T) (W p):=by
 obtain⟨d,d0,e2,_,_,o⟩:=h;have T0:0<T.2:=by rw[e2];exact Zd B0 d0
 have e:=o p hp;rw[<-vY T0 t0 (W p)];obtain⟨k,hk⟩:=dv;have ek:S.2 / G=k:=by rw[hk];exact Int.mul_ediv_cancel_left k ⋯
 have k0:0<k:=by
  rw[hk] at B0;exact Int.pos_of_mul_pos_right B0 G0
 unfold val;rw[ek] at e;have e':((tt (W p)*T.1.getD p.toNat 0:Int):Rat)=((tt (W p)*gt.getD p.toNat 0*k*d+fY T.1 (W p):Int):Rat):=by rw[e]
 rw[Rat.intCast_add,Rat.intCast_mul,Rat.intCast_mul,Rat.intCast_mul,Rat.intCast_mul] at e';rw[e2,hk];simp only[Rat.intCast_mul];have h1:=lV G0;have h2:=lV d0;have h3:=lV k0;have h4:=lV t0;generalize (k:Rat)=v at *;generalize (G:Rat)=u at *;generalize (d:Rat)=x at *;generalize (tt (W p):Rat)=t at *;generalize ((gt.getD p.toNat 0:Int):Rat)=s at *;generalize ((fY T.1 (W p):Int):Rat)=r at *;generalize ((T.1.getD p.toNat 0:Int):Rat)=y at *;clear ek k0 hk e o T0 e2;grind
theorem zR {d:Int} (d0:0<d) {v:Int->Rat} {M:Rat}:∀{ws:Wy},(∀x∈ws,1<=x.1/\v x.2<=M)->dm d v ws<=(Wq.cI ws:Rat) / (d:Rat)*M
 | [],_=>by show(0:Rat)<=((0:Int):Rat) / _*M;grind
 | x::ws,h=>by
  have ih:=zR d0 (v:=v) (M:=M) (ws:=ws) λy hy=>h y (YU _ hy);obtain⟨x1,x2⟩:=h x YT;show(x.1:Rat) / (d:Rat)*v x.2+dm d v ws<=((x.1+Wq.cI ws:Int):Rat) / (d:Rat)*M;rw[Rat.intCast_add];have c:(0:Rat)<=(x.1:Rat) / (d:Rat):=by
   rw[Rat.div_def];exact Rat.le_of_lt (Rat.mul_pos (Rat.intCast_pos.mpr ⋯) (Rat.inv_pos.mpr (Rat.intCast_pos.mpr ⋯)))
  have m:=Rat.mul_le_mul_of_nonneg_left x2 c;generalize v x.2=a at *;generalize dm d v ws=r at *;generalize (x.1:Rat)=s at *;generalize (Wq.cI ws:Rat)=t at *;have e:(s+t) / (d:Rat)*M=s / (d:Rat)*M+t / (d:Rat)*M:=by grind
  rw[e];generalize s / (d:Rat)=u at *;generalize t / (d:Rat)=w at *;grind
theorem zS {d:Int} (d0:0<d) {v:Int->Rat} {M:Rat}:∀{ws:Wy},(∀x∈ws,1<=x.1/\v x.2<=M)->(∃x∈ws,v x.2<M)->dm d v ws< (Wq.cI ws:Rat) / (d:Rat)*M
 | [],_,h=>by obtain⟨x,hx,_⟩:=h;simp at hx
 | x::ws,h,k=>by
  have hw:∀y∈ws,1<=y.1/\v y.2<=M:=λy hy=>h y (YU _ hy);obtain⟨x1,x2⟩:=h x YT;show(x.1:Rat) / (d:Rat)*v x.2+dm d v ws< ((x.1+Wq.cI ws:Int):Rat) / (d:Rat)*M;rw[Rat.intCast_add];have c:(0:Rat)< (x.1:Rat) / (d:Rat):=by
   rw[Rat.div_def];exact Rat.mul_pos (Rat.intCast_pos.mpr ⋯) (Rat.inv_pos.mpr (Rat.intCast_pos.mpr ⋯))
  have m:=Rat.mul_le_mul_of_nonneg_left x2 (Rat.le_of_lt c);have ih:=zR d0 hw;have N9:(∃y∈ws,v y.2<M)->dm d v ws< (Wq.cI ws:Rat) / (d:Rat)*M:=λz=>zS d0 hw z;have m2:v x.2<M->(x.1:Rat) / (d:Rat)*v x.2< (x.1:Rat) / (d:Rat)*M:=λz=>Rat.mul_lt_mul_of_pos_left z c;have k2:v x.2<M\/∃y∈ws,v y.2<M:=by
   obtain⟨y,hy,ly⟩:=k;rcases ZT.mp hy with rfl | hy
   ·exact .inl ly
   ·exact .inr ⟨y,hy,ly⟩
  generalize v x.2=a at *;generalize dm d v ws=r at *;generalize (x.1:Rat)=s at *;generalize (Wq.cI ws:Rat)=t at *;have e:(s+t) / (d:Rat)*M=s / (d:Rat)*M+t / (d:Rat)*M:=by grind
  rw[e];generalize s / (d:Rat)*M=u at *;generalize t / (d:Rat)*M=w at *;generalize s / (d:Rat)*a=z at *;rcases k2 with k2 | k2
  ·have:=m2 k2;grind
  ·have:=N9 k2;grind
theorem zT (v:Int->Rat):∀(ps:List Int),ps≠[]->∃q∈ps,∀p∈ps,v p<=v q
 | [],h=>absurd rfl h
 | [a],_=>⟨a,aav.mpr rfl,λp hp=>by rw[aav.mp hp];exact Rat.le_refl⟩
 | a::b::l,_=>by
  obtain⟨q,hq,h⟩:=zT v (b::l) (by simp);rcases Rat.le_total (a:=v q) (b:=v a) with c | c
  ·refine⟨a,YT,λp hp=>?_⟩;rcases ZT.mp hp with rfl | hp
   ·exact Rat.le_refl
   ·exact Rat.le_trans (h p hp) c
  ·refine⟨q,YU _ hq,λp hp=>?_⟩;rcases ZT.mp hp with rfl | hp
   ·exact c
   ·exact h p hp
theorem sub_zero {ps:List Int} {W:Int->Wy} {lv:Int->Nat} {v:Int->Rat} (h:∀p∈ps,v p<=dm (tt (W p)) v (W p)) (pos:∀p∈ps,∀x∈W p,1<=x.1) (out:∀p∈ps,∀x∈W p,x.2∉ps->v x.2<=0) (dn:∀p∈ps,W p=[]\/∃x∈W p,lv x.2<lv p):∀p∈ps,v p<=0:=by
 intro p0 KR;obtain⟨q,hq,mx⟩:=zT v ps (List.ne_nil_of_mem KR);rcases Rat.le_total (a:=v q) (b:=0) with M0 | M0
 ·exact Rat.le_trans (mx p0 KR) M0
 ·by_cases z:v q=0
  ·rw[<-z];exact mx p0 KR
  ·exfalso;have M1:0<v q:=by grind
   have all:∀p∈ps,∀x∈W p,v x.2<=v q:=λp hp x hx=>by
    by_cases c:x.2∈ps
    ·exact mx _ c
    ·exact Rat.le_trans (out p hp x hx c) M0
   have low:∀n,∀p∈ps,lv p<n->v p<v q:=by
    intro n
    induction n with
    | zero=>exact λp _ hl=>absurd hl (ZF _)
    | succ n ih=>
     intro p hp hl;have e:=h p hp;rcases dn p hp with z | ⟨x,hx,lx⟩
     ·rw[z] at e;have e:v p<=0:=e;grind
     ·have et:tt (W p)=Wq.cI (W p):=by unfold tt;rw[if_neg (List.ne_nil_of_mem hx)]
      have tp:0<tt (W p):=by
       rw[et];obtain⟨s0,s1⟩:=sG (q:=x.2) (pos p hp);have:∀{ws:Wy},(∀y∈ws,1<=y.1)->x∈ws->0<Wq.cI ws:=by
        intro ws
        induction ws with
        | nil=>intro _ h;simp at h
        | cons y ws N9=>
         intro h1 h2;have y1:=h1 y YT;have:=(sG (q:=x.2) λz hz=>h1 z (YU y hz))
         rw[dA];lia
       exact this (pos p hp) hx
      have k:=zS tp (v:=v) (M:=v q) (ws:=W p) (λy hy=>⟨pos p hp y hy,all p hp y hy⟩) ⟨x,hx,by
       by_cases c:x.2∈ps
       ·exact ih _ c ⋯
       ·have:=out p hp x hx c;grind⟩
      have one:(Wq.cI (W p):Rat) / (tt (W p):Rat)*v q=v q:=by
       have:=lV tp;rw[et] at this ⊢;generalize (Wq.cI (W p):Rat)=t at *;grind
      rw[one] at k;grind
   exact Rat.lt_irrefl (low _ q hq (Zl _))
theorem i4 {d:Int} {v v':Int->Rat}:∀ws:Wy,dm d (λi=>v i - v' i) ws=dm d v ws - dm d v' ws
 | []=>by show(0:Rat)=0 - 0;grind
 | x::ws=>by
  have ih:=i4 (d:=d) (v:=v) (v':=v') ws;show(x.1:Rat) / (d:Rat)* (v x.2 - v' x.2)+dm d (λi=>v i - v' i) ws=(x.1:Rat) / (d:Rat)*v x.2+dm d v ws - ((x.1:Rat) / (d:Rat)*v' x.2+dm d v' ws);rw[ih];grind
theorem wq {ps:List Int} {W:Int->Wy} {lv:Int->Nat} {g v v':Int->Rat} (h:∀p∈ps,v p=g p+dm (tt (W p)) v (W p)) (h':∀p∈ps,v' p=g p+dm (tt (W p)) v' (W p)) (pos:∀p∈ps,∀x∈W p,1<=x.1/\x.2∈ps) (dn:∀p∈ps,W p=[]\/∃x∈W p,lv x.2<lv p):∀p∈ps,v p=v' p:=by
 intro p hp;have a:=sub_zero (ps:=ps) (W:=W) (lv:=lv) (v:=λi=>v i - v' i) (λp hp=>by rw[i4,h p hp,h' p hp];grind) (λp hp x hx=>(pos p hp x hx).1) (λp hp x hx z=>absurd (pos p hp x hx).2 z) dn p hp;have b:=sub_zero (ps:=ps) (W:=W) (lv:=lv) (v:=λi=>v' i - v i) (λp hp=>by rw[i4,h p hp,h' p hp];grind) (λp hp x hx=>(pos p hp x hx).1) (λp hp x hx z=>absurd (pos p hp x hx).2 z) dn p hp;have a:v p - v' p<=0:=a;have b:v' p - v p<=0:=b;grind
end Dg
abbrev GS (p:Int×Int):Prop:=Bt 40 p.1/\Bt 20 p.2/\Wq.Lw p
abbrev xv (n:Nat):Pl->Prop
 | .fin g=>GS g
 | .d6 g ws=>GS g/\0<ws.length/\Dg.uu n ws
 | .cA bB to=>(bB=1\/bB=2)/\0<to.length/\to.length<=4/\∀g∈to,0<=g/\g< (n:Int)
abbrev zU (b:List Pl) (p:Int):Nat:=match b[p.toNat]? with | some (.cA _ to)=>to.length | _=>1
abbrev mL (b:List Pl):Nat->List Int->Nat
 | a,[]=>a
 | a,p::ps=>mL b (a*zU b p) ps
structure Hm (b:List Pl) (rk:Int->Nat):Prop where
 good:Lv.Good b
 d6:∀(i:Nat) g ws,b[i]?=some (.d6 g ws)->∃x∈ws,rk x.2<rk (i:Int)
 cA:∀(i:Nat) w to,b[i]?=some (.cA w to)->∀g∈to,rk g<rk (i:Int)
structure i5 (b:List Pl) (rk:Int->Nat):Prop where
 pos:0<b.length
 len:b.length<=16
 ok:∀q∈b,xv b.length q
 jH:Hm b rk
 Bz:∀p,Pr.In b p->mL b 1 (Pr.cW b p)<=4096
section LA
open Lv Bf
variable {b : List Pl} {rk : Int -> Nat} (D : Hm b rk)
include D
theorem Hm.lv:∀(m i:Nat),rk (i:Int)<m->i<b.length->lk (vA b) (i:Int)≠none
 | 0,_,h,_=>absurd h (ZF _)
 | m+1,i,h,hi=>by
  have e:b[i]?=some b[i]:=YM hi;have ih:∀g∈ik b[i],rk g<rk (i:Int)->lk (vA b) g≠none:=λg hg hr=>by
   obtain⟨h0,h1⟩:=D.good.qH _ (YQ e) g hg;obtain⟨j,rfl⟩:=Y2 h0;exact Hm.lv m j ⋯ ⋯
  have E:=Cu D.good i _ e;have nn:∀v,(vA b)[i]?=some (some v)->lk (vA b) (i:Int)≠none:=λv hv z=>by
   rw[Jk.mpr hv] at z;cases z
  cases q:b[i] with
  | fin w=>rw[q] at E;exact nn _ E
  | d6 w ws=>
   rw[q] at E ih e;rcases E with ⟨_,a2⟩ | ⟨v,hv,_⟩
   ·obtain⟨x,hx,rx⟩:=D.d6 i w ws e;have m:x.2∈ws.map (·.2):=aau.mpr ⟨x,hx,rfl⟩;exact absurd (a2 x.2 m) (ih x.2 m rx)
   ·exact nn v hv
  | cA w to=>
   rw[q] at E ih e;rcases E with ⟨_,g,hg,a2⟩ | ⟨v,hv,_⟩
   ·exact absurd a2 (ih g hg (D.cA i w to e g hg))
   ·exact nn v hv
theorem Hm.ring:qb b=[]:=by
 refine List.eq_nil_iff_forall_not_mem.mpr λi hi=>?_;obtain⟨h1,h2⟩:=C4.mp hi;exact D.lv _ i (Zl _) h1 h2
theorem Hm.within {p o:Int} (hp:Pr.In b p) (ho:o∈Pr.cW b p) (ne:o≠p):∃g∈gC b p,g∈Pr.cW b p:=by
 obtain⟨h1,h2⟩:=Pr.dY.mp ho;obtain⟨ws,e⟩:=(Pr.yu D.good hp).mp h1;cases ws with
 | nil=>cases e;exact absurd rfl ne
 | cons w ws=>
  have e:(match (gC b p)[w]? with | some g=>Bf.go b g ws | none=>none)=some o:=e;cases c:(gC b p)[w]? with
  | none=>rw[c] at e;cases e
  | some g=>
   rw[c] at e;have hg:=YQ c;have kg:=Pr.uc D.good hp (Pr.jx D.good hp) hg;have ig:=Pr.qd D.good hp kg;have ko:o∈Pr.kb b g:=(Pr.yu D.good ig).mpr ⟨ws,e⟩;exact⟨g,hg,Pr.dY.mpr ⟨kg,Pr.gO D.good ig ko h2⟩⟩
end LA
theorem yA (rk:Int->Nat):∀(ps:List Int),ps≠[]->∃q∈ps,∀p∈ps,rk q<=rk p
 | [],h=>absurd rfl h
 | [a],_=>⟨a,aav.mpr rfl,λp hp=>by rw[aav.mp hp];exact YR _⟩
 | a::b::l,_=>by
  obtain⟨q,hq,h⟩:=yA rk (b::l) (by simp)
  by_cases c:rk a<=rk q
  ·refine⟨a,YT,λp hp=>?_⟩;rcases ZT.mp hp with rfl | hp
   ·exact YR _
   ·exact YY c (h p hp)
  ·refine⟨q,YU _ hq,λp hp=>?_⟩;rcases ZT.mp hp with rfl | hp
   ·lia
   ·exact h p hp
abbrev nW (b:List Pl) (p:Int):Bool:=match b[p.toNat]? with | some (.cA _ _)=>true | _=>false
set_option tactic.hygienic true in
theorem zV {b:List Pl} (h:∀p,zU b p<=4):∀(ps:List Int) (a:Nat),mL b a ps<=a*4^ (ps.filter (nW b)).length
 | [],a=>by show a<=a*1;lia
 | p::ps,a=>by
  have ih:=zV h ps (a*zU b p);refine YY (show mL b (a*zU b p) ps<=_ from ih) ?_
  by_cases c:nW b p=true
  ·rw[List.filter_cons_of_pos c,YZ,Nat.pow_succ];have:=aae a (h p)
   calc a*zU b p*4^ (ps.filter (nW b)).length<=a*4*4^ (ps.filter (nW b)).length:=Z7 _ this
    _=a* (4^ (ps.filter (nW b)).length*4):=by rw[Nat.mul_assoc,Nat.mul_comm 4]
  ·rw[List.filter_cons_of_neg c];have e:zU b p=1:=by
    unfold nW at c;unfold zU
    split
    ·rename_i e;rw[e] at c;simp at c
    ·rfl
   rw[e,Nat.mul_one];exact YR _
set_option tactic.hygienic true in
theorem yB {b:List Pl} (ok:∀q∈b,xv b.length q) (p:Int):1<=zU b p/\zU b p<=4:=by
 unfold zU
 split
 ·rename_i w to e
  have:=ok _ (YQ e);exact⟨this.2.1,this.2.2.1⟩
 ·exact⟨YR _,∅⟩
theorem zW {b:List Pl} (ok:∀q∈b,xv b.length q):∀(ps:List Int) (a:Nat),a<=mL b a ps
 | [],a=>YR _
 | p::ps,a=>YY (Nat.le_mul_of_pos_right a (yB ok p).1) (zW ok ps _)
theorem JM {b:List Pl} {rk:Int->Nat} (D:Hm b rk) (ok:∀q∈b,xv b.length q) (l8:b.length<=8) {p:Int} (hp:Pr.In b p):mL b 1 (Pr.cW b p)<=4096:=by
 refine YY (zV (λp=>(yB ok p).2) _ _) ?_;rw[Nat.one_mul]
 suffices h:((Pr.cW b p).filter (nW b)).length<=6 by
  exact YY (ZP ∅ h) ∅
 have nd:(Pr.cW b p).Nodup:=(Pr.iX D.good hp).imp λh z=>⋯
 obtain⟨q,hq,mn⟩:=yA rk _ (Pr.iw D.good hp);have iq:=Pr.eB D.good hp hq
 by_cases one:∀o∈Pr.cW b p,o=q
 ·have:=Pr.sub_len (l:=(Pr.cW b p).filter (nW b)) (m:=[q]) (nd.filter _) λx hx=>aav.mpr (one x (List.mem_filter.mp hx).1);have:((Pr.cW b p).filter (nW b)).length<=1:=this;lia
 ·obtain⟨o,Vc⟩:=Classical.not_forall.mp one;obtain⟨ho,ne⟩:=Classical.not_imp.mp Vc;have ep:=Pr.ue D.good hp hq;have wi:∀x,x∈Pr.cW b p->∃g∈Bf.gC b x,g∈Pr.cW b p:=λx hx=>by
   have ix:=Pr.eB D.good hp hx;have ex:=Pr.ue D.good hp hx
   by_cases c:x=q
   ·subst c;obtain⟨g,h1,h2⟩:=D.within ix (o:=o) (by rw[ex];exact ho) ne;exact⟨g,h1,by rw[<-ex];exact h2⟩
   ·obtain⟨g,h1,h2⟩:=D.within ix (o:=q) (by rw[ex];exact hq) (λz=>c z.symm);exact⟨g,h1,by rw[<-ex];exact h2⟩
  have Vd:∀x:Int,Pr.In b x->∃i:Nat,x=i/\∃pl,b[i]?=some pl/\Bf.gC b x=Lv.ik pl:=λx hx=>by
   obtain⟨i,rfl⟩:=Y2 hx.1;have hi:i<b.length:=by have:=hx.2;lia
   refine⟨i,rfl,b[i],YM hi,?_⟩;unfold Bf.gC;rw[YS,YM hi]
  have zf:nW b q=false:=by
   obtain⟨i,rfl,pl,e,eg⟩:=Vd q iq;obtain⟨g,h1,h2⟩:=wi _ hq;rw[eg] at h1;unfold nW;rw[YS,e];cases pl with
   | fin w=>rfl
   | d6 w ws=>rfl
   | cA w to=>
    have:=D.cA i w to e g h1;have:=mn g h2;lia
  obtain⟨f,hf,mf⟩:=yA rk ((List.range b.length).map fun(i:Nat)=>(i:Int)) (by
   have:0<b.length:=by have:=hp.1;have:=hp.2;lia
   intro z;have k:=congrArg List.length z;rw[YL,Y6,ZW] at k;lia)
  obtain⟨f,Ve,rfl⟩:=aau.mp hf;have lf:=List.mem_range.mp Ve;have inr:∀g:Int,Pr.In b g->rk (f:Int)<=rk g:=λg hg=>by
   obtain⟨j,rfl⟩:=Y2 hg.1;exact mf _ (aau.mpr ⟨j,List.mem_range.mpr (by have:=hg.2;lia),rfl⟩)
  have ef:∃w,b[f]?=some (.fin w):=by
   have e:b[f]?=some b[f]:=YM lf;have rg:=D.good.qH _ (YQ e);cases c:b[f] with
   | fin w=>exact⟨w,by rw[e,c]⟩
   | d6 w ws=>
    rw[c] at e rg;obtain⟨x,hx,rx⟩:=D.d6 f w ws e;have:=inr x.2 (rg _ (aau.mpr ⟨x,hx,rfl⟩));lia
   | cA w to=>
    rw[c] at e rg;have ne:=D.good.cA _ (YQ e) w to rfl;obtain⟨g,hg⟩:=List.exists_mem_of_ne_nil _ ne;have:=D.cA f w to e g hg;have:=inr g (rg _ hg);lia
  obtain⟨w,ef⟩:=ef;have nf:(f:Int)∉Pr.cW b p:=λz=>by
   obtain⟨g,h1,_⟩:=wi _ z;unfold Bf.gC at h1;rw[YS,ef] at h1;cases h1
  have:=Pr.sub_len (l:=(f:Int)::q::(Pr.cW b p).filter (nW b)) (m:=(List.range b.length).map fun(i:Nat)=>(i:Int)) ?_ ?_
  ·rw[YZ,YZ,YL,Y6] at this;lia
  ·refine List.nodup_cons.mpr ⟨λz=>?_,List.nodup_cons.mpr ⟨λz=>?_,nd.filter _⟩⟩
   ·rcases ZT.mp z with z | z
    ·exact nf (by rw[z];exact hq)
    ·exact nf (List.mem_filter.mp z).1
   ·have:=(List.mem_filter.mp z).2;rw[zf] at this;cases this
  ·intro x hx;have ix:Pr.In b x:=by
    rcases ZT.mp hx with rfl | hx
    ·exact⟨⋯,⋯⟩
    ·rcases ZT.mp hx with rfl | hx
     ·exact iq
     ·exact Pr.eB D.good hp (List.mem_filter.mp hx).1
   obtain⟨j,rfl⟩:=Y2 ix.1;exact aau.mpr ⟨j,List.mem_range.mpr (by have:=ix.2;lia),rfl⟩
abbrev xx:Pl->Option Int->Dg.Wy
 | .fin _,_=>[]
 | .d6 _ ws,_=>ws
 | .cA _ to,k=>[(1,to.getD (k.getD 0).toNat 0)]
abbrev Hn:Pl->Option Int->Prop
 | .cA _ to,some k=>0<=k/\k< (to.length:Int)
 | .cA _ _,none=>False
 | _,_=>True
theorem xv.vj {n:Nat} {q:Pl} (h:xv n q):(Lv.ik q).length<=5:=by
 cases q with
 | fin g=>exact Y1 _
 | d6 g ws=>simp only[Lv.ik,YL];exact h.2.2.1
 | cA w to=>have:=h.2.2.1;show to.length<=5;lia
theorem Ho {n:Nat} {q:Pl} {k:Option Int} (h:xv n q) (hk:Hn q k):Dg.uu n (xx q k)/\∀x∈xx q k,x.2∈Lv.ik q:=by
 cases q with
 | fin g=>exact⟨⟨Y1 _,by simp [xx]⟩,by simp [xx]⟩
 | d6 g ws=>exact⟨h.2.2,λx hx=>aau.mpr ⟨x,hx,rfl⟩⟩
 | cA w to=>
  cases k with
  | none=>exact hk.elim
  | some k=>
   have hl:k.toNat<to.length:=by have:=hk.1;have:=hk.2;lia
   have m:to.getD k.toNat 0∈to:=by rw[YN,YM hl];exact YV hl
   have e:xx (.cA w to) (some k)=[(1,to.getD k.toNat 0)]:=rfl;rw[e];refine⟨⟨by show 1<=5;lia,λx hx=>?_⟩,λx hx=>?_⟩
   ·rw[aav.mp hx];exact⟨by show(1:Int)<=1;lia,by show(1:Int)<=200000;lia,h.2.2.2 _ m⟩
   ·rw[aav.mp hx];exact m
abbrev bN (b:List Pl) (ks:List (Option Int)):List Dg.Wy:=List.zipWith xx b ks
abbrev gB (b:List Pl):Int:=Wq.fB 1 (b.map Wq.bI)
abbrev gT (b:List Pl):List Int:=(b.map Wq.bI).map (Wq.sc (gB b))
structure dq (b:List Pl) (ks:List (Option Int)):Prop where
 len:ks.length=b.length
 ok:∀(i:Nat) q k,b[i]?=some q->ks[i]?=some k->Hn q k
theorem dq.at {b:List Pl} {ks:List (Option Int)} (h:dq b ks) {i:Nat} (hi:i<b.length):∃q k,b[i]?=some q/\ks[i]?=some k/\Hn q k/\bf (bN b ks) (i:Int)=xx q k:=by
 have e1:b[i]?=some b[i]:=YM hi;have hk:i<ks.length:=by rw[h.len];exact hi
 have e2:ks[i]?=some ks[i]:=YM hk;refine⟨_,_,e1,e2,h.ok i _ _ e1 e2,?_⟩;unfold bf bN;rw[YS,YN,aaj,e1,e2];rfl
abbrev EqAt (b:List Pl) (ks:List (Option Int)) (p:Nat) (v:Int->Rat):Prop:=∀q k,b[p]?=some q->ks[p]?=some k->v (p:Int)=Dg.vl (Wq.bI q)+Dg.dm (Dg.tt (xx q k)) v (xx q k)
theorem lD {n:Nat} {q:Pl} (h:xv n q):GS (Wq.bI q):=by
 cases q with
 | fin g=>exact h
 | d6 g ws=>exact h.1
 | cA w to=>exact⟨by show Bt 40 0;exact Bt.of 1 ∅ ∅,by show Bt 20 1;exact Bt.of 1 ∅ ∅,by show(0:Int)<1;decide,by show Nm.g 0 1=1;decide⟩
abbrev pB (xs:List Wq.Sh):Int:=xs.foldr (λx y=>x.2*y) 1
theorem DQ:∀{xs:List Wq.Sh},(∀x∈xs,GS x)->0<pB xs/\Bt (20*xs.length+1) (pB xs)/\∀x∈xs,x.2∣pB xs
 | [],_=>⟨∅,Bt.of 1 ∅ ∅,by simp⟩
 | x::xs,h=>by
  obtain⟨h1,h2,h3⟩:=DQ (xs:=xs) λy hy=>h y (YU _ hy);have g:=h x YT;refine⟨Zd g.2.2.1 h1,?_,λy hy=>?_⟩
  ·have:=g.2.1.mul h2;rw[show 20* (x::xs).length+1=20+ (20*xs.length+1) by rw[YZ];lia];exact this
  ·rcases ZT.mp hy with rfl | hy
   ·exact Int.dvd_mul_right _ _
   ·exact Int.dvd_trans (h3 y hy) (Int.dvd_mul_left _ _)
section WE
variable {b : List Pl} {rk : Int -> Nat} (B : i5 b rk)
include B
theorem i5.vj:∀q∈b,(Lv.ik q).length<=100:=λq hq=>by have:=(B.ok q hq).vj;lia
theorem i5.bd:Bd b:=⟨by have:=B.len;lia,B.vj,B.jH.good⟩
theorem i5.zX:∀x∈b.map Wq.bI,GS x:=λx hx=>by
 obtain⟨q,hq,rfl⟩:=aau.mp hx;exact lD (B.ok q hq)
theorem i5.bot:0<gB b/\Bt 321 (gB b)/\∀q∈b,(Wq.bI q).2∣gB b:=by
 obtain⟨p1,p2,p3⟩:=DQ B.zX;obtain⟨l1,l2,l3,l4⟩:=Wq.kX (xs:=b.map Wq.bI) (c:=1) ∅ λx hx=>(B.zX x hx).2.2.1;have d:=l4 (Z:=pB (b.map Wq.bI)) ⟨pB (b.map Wq.bI),⋯⟩ p3;rw[YL] at p2;have bl:=B.len;exact⟨l1,(p2.mono ⋯).le (by have:=ZQ p1 d;have:0<gB b:=l1;unfold gB at *;lia),λq hq=>l3 _ (aau.mpr ⟨q,hq,rfl⟩)⟩
theorem i5.top (p:Nat):((gT b).getD p 0).natAbs<=2^40* (gB b).toNat:=by
 obtain⟨g0,g1,g2⟩:=B.bot;unfold gT;rw[YN,YO,YO];cases e:b[p]? with
 | none=>exact Y1 _
 | some q=>
  have hq:=YQ e;obtain⟨h1,h2,h3⟩:=lD (B.ok q hq);show(Wq.sc (gB b) (Wq.bI q)).natAbs<=_;have:=Nm.fL (a:=gB b) h3.1 (g2 q hq);unfold Wq.sc;unfold Bt at h1;rw[Zs];exact Z1 ⋯ ⋯
theorem i5.gV {p:Nat} {q:Pl} (e:b[p]?=some q):((gT b).getD p 0:Rat) / (gB b:Rat)=Dg.vl (Wq.bI q):=by
 obtain⟨g0,g1,g2⟩:=B.bot;have hq:=YQ e;obtain⟨h1,h2,h4⟩:=lD (B.ok q hq);have ee:(gT b).getD p 0=Wq.sc (gB b) (Wq.bI q):=by
  unfold gT;rw[YN,YO,YO,e];rfl
 rw[ee];exact(Dg.vX h4.1 g0 (Wq.gv (g2 q hq)).symm).symm
theorem i5.dn {ks:List (Option Int)} (ko:dq b ks) {p:Int} (hp:Pr.In b p):bf (bN b ks) p=[]\/∃x∈bf (bN b ks) p,rk x.2<rk p:=by
 obtain⟨i,rfl⟩:=Y2 hp.1;obtain⟨q,k,e1,e2,po,ew⟩:=ko.at (i:=i) (by have:=hp.2;lia);rw[ew];cases q with
 | fin g=>exact .inl rfl
 | d6 g ws=>exact .inr (B.jH.d6 i g ws e1)
 | cA w to=>
  have h:=(Ho (B.ok _ (YQ e1)) po).2;refine .inr ⟨_,aav.mpr rfl,B.jH.cA i w to e1 _ (h _ (aav.mpr rfl))⟩
theorem i5.wk {ks:List (Option Int)} (ko:dq b ks) {p:Int} (hp:Pr.In b p):Dg.uu b.length (bf (bN b ks) p)/\∀x∈bf (bN b ks) p,x.2∈Bf.gC b p:=by
 obtain⟨i,rfl⟩:=Y2 hp.1;obtain⟨q,k,e1,e2,po,ew⟩:=ko.at (i:=i) (by have:=hp.2;lia);rw[ew];have h:=Ho (B.ok _ (YQ e1)) po;refine⟨h.1,λx hx=>?_⟩;unfold Bf.gC;rw[YS,e1];exact h.2 x hx
abbrev uw (b:List Pl) (ps:List Int) (p:Int):Nat:=ps.idxOf (Pr.rep b p)
variable {ps : List Int} (T : Pr.Told b ps)
include T
theorem iA {i:Nat} {h p:Int} (e:ps[i]?=some h) (hp:p∈Pr.cW b h):uw b ps p=i:=by
 have ih:=T.Gh (YQ e);unfold uw;rw[Pr.ug B.jH.good ih hp,T.rp (YQ e)];have l:=Zz (YQ e);obtain⟨hi,DR⟩:=aat.mp e;exact(ZU T.nd).mp ((ZJ l).trans DR.symm)
theorem DS {i:Nat} {h p:Int} (e:ps[i]?=some h) (hp:Pr.In b p) (z:uw b ps p=i):p∈Pr.cW b h:=by
 have m:=T.has B.jH.good hp;have l:=Zz m;have e2:ps[uw b ps p]?=some (Pr.rep b p):=by unfold uw;rw[YM l,ZJ l]
 rw[z,e] at e2;cases e2;rw[Pr.uf B.jH.good hp];exact Pr.qg B.jH.good hp
theorem DT {p:Int} (hp:Pr.In b p):uw b ps p<ps.length:=Zz (T.has B.jH.good hp)
theorem oQ {p g:Int} (hp:Pr.In b p) (hg:g∈Bf.gC b p):uw b ps g<=uw b ps p/\Pr.In b g:=by
 have k:=Pr.uc B.jH.good hp (Pr.jx B.jH.good hp) hg;exact⟨T.JA B.jH.good hp k,Pr.qd B.jH.good hp k⟩
theorem ux {i:Nat} (hi:i<=ps.length):Pr.off b ps i<=b.length:=by
 have h1:Pr.off b ps ps.length=b.length:=by
  rw[Pr.Gj];have:=congrArg List.length (T.C9 B.jH.good);rw[(Nm.gJ _).length_eq,YL,YL,Y6] at this;exact this
 have mono:∀k,i+k<=ps.length->Pr.off b ps i<=Pr.off b ps (i+k):=by
  intro k
  induction k with
  | zero=>intro _;exact YR _
  | succ k ih=>
   intro h;rw[show i+ (k+1)=i+k+1 by lia,Pr.iY (YM (show i+k<ps.length by lia))];have:=ih ⋯;lia
 have:=mono (ps.length - i) ⋯;rw[show i+ (ps.length - i)=ps.length by lia,h1] at this;exact this
end WE
structure wt (b:List Pl) (ks:List (Option Int)) (ps:List Int) (i:Nat) (S:Dg.Bk):Prop where
 sz:Dg.Sz b.length (330+92*Pr.off b ps i) S
 dv:gB b∣S.2
 eq:∀p:Nat,p<b.length->uw b ps (p:Int)<i->EqAt b ks p (Dg.val S)
 zr:∀p:Int,Pr.In b p->i<=uw b ps p->S.1.getD p.toNat 0=0
theorem wt.start {b:List Pl} {rk:Int->Nat} {ks:List (Option Int)} {ps:List Int} (B:i5 b rk):wt b ks ps 0 (aaz b.length 0,gB b):=by
 obtain⟨g0,g1,g2⟩:=B.bot;have z:∀q,(aaz b.length (0:Int)).getD q 0=0:=λq=>by
  rw[YN,aag]
  split <;>simp
 refine⟨⟨Zr,g0,g1.mono ⋯,λq=>?_⟩,Int.dvd_refl _,λp _ h=>absurd h (ZF _),λp _ _=>z _⟩;show Bt _ ((aaz b.length (0:Int)).getD q 0);rw[z];exact Bt.mono (m:=1) (Bt.of 1 ∅ ∅) ⋯
theorem wt.step {b:List Pl} {rk:Int->Nat} {ks:List (Option Int)} {ps:List Int} {i:Nat} {S S':Dg.Bk} {h:Int} (B:i5 b rk) (T:Pr.Told b ps) (ko:dq b ks) (I:wt b ks ps i S) (e:ps[i]?=some h)
  (st:Dg.E4 (Pr.cW b h) (bf (bN b ks)) (gT b) (gB b) S S') (sz:Dg.Sz b.length (330+92*Pr.off b ps i+92* (Pr.cW b h).length) S'):wt b ks ps (i+1) S':=by
 obtain⟨g0,_,_⟩:=B.bot;have ih:=T.Gh (YQ e);refine⟨?_,?_,λp hp hx=>?_,λp hp hx=>?_⟩
 ·rw[Pr.iY e,Nat.mul_add,<-Nat.add_assoc];exact sz
 ·obtain⟨d,_,e2,_⟩:=st;rw[e2];exact Int.dvd_trans I.dv (Int.dvd_mul_right _ _)
 ·have ip:Pr.In b (p:Int):=⟨⋯,⋯⟩
  obtain⟨q,k,e1,ek,po,ew⟩:=ko.at hp;intro q' k' zq KU;rw[e1] at zq;rw[ek] at KU;cases zq;cases KU;obtain⟨w5,wg⟩:=B.wk ko ip
  by_cases c:uw b ps (p:Int)=i
  ·have m:=DS B T e ip c;have:=st.eq I.sz.pos g0 I.dv m (by have:=w5.tt;lia);rw[YS,B.gV e1,ew] at this;exact this
  ·have old:=I.eq p hp ⋯ q k e1 ek;have out:∀x:Int,Pr.In b x->uw b ps x<i->Dg.val S' x=Dg.val S x:=λx hx hi=>st.ne I.sz.pos hx.1 λz=>by
    have:=iA B T e z;lia
   rw[out _ ip ⋯,old];congr 1;refine Dg.j6 λx hx=>(out x.2 ?_ ?_).symm
   ·rw[<-ew] at hx;exact(oQ B T ip (wg x hx)).2
   ·rw[<-ew] at hx;have:=(oQ B T ip (wg x hx)).1;lia
 ·obtain⟨d,_,_,_,o,_⟩:=st;rw[o p hp.1 λz=>by have:=iA B T e z;lia,I.zr p hp ⋯,Int.zero_mul]
theorem wu {b:List Pl} {rk:Int->Nat} {ks:List (Option Int)} {v v':Int->Rat} (B:i5 b rk) (ko:dq b ks) (h:∀p:Nat,p<b.length->EqAt b ks p v) (h':∀p:Nat,p<b.length->EqAt b ks p v'):∀p:Nat,p<b.length->v (p:Int)=v' (p:Int):=by
 intro p hp;have ix:∀{x:Int},x∈(List.range b.length).map (fun(i:Nat)=>(i:Int))↔Pr.In b x:=λ{x}=>by
  constructor
  ·intro hx;obtain⟨j,hj,rfl⟩:=aau.mp hx;have:=List.mem_range.mp hj;exact⟨⋯,⋯⟩
  ·intro hx;obtain⟨j,rfl⟩:=Y2 hx.1;exact aau.mpr ⟨j,List.mem_range.mpr (by have:=hx.2;lia),rfl⟩
 have go:∀{v:Int->Rat},(∀p:Nat,p<b.length->EqAt b ks p v)->∀x∈(List.range b.length).map (fun(i:Nat)=>(i:Int)),v x=Dg.vl (Wq.bI (b.getD x.toNat (.fin (0,1))))+Dg.dm (Dg.tt (bf (bN b ks) x)) v (bf (bN b ks) x):=λ{v} hv x hx=>by
  have hx:=ix.mp hx;obtain⟨j,rfl⟩:=Y2 hx.1;have hj:j<b.length:=by have:=hx.2;lia
  obtain⟨q,k,e1,ek,po,ew⟩:=ko.at hj;rw[ew,hv j hj q k e1 ek,YS,YN,e1];rfl
 refine Dg.wq (ps:=(List.range b.length).map (fun(i:Nat)=>(i:Int))) (W:=bf (bN b ks)) (lv:=rk) (g:=λx=>Dg.vl (Wq.bI (b.getD x.toNat (.fin (0,1))))) (go h) (go h') (λx hx y hy=>?_) (λx hx=>B.dn ko (ix.mp hx)) (p:Int) (ix.mpr ⟨⋯,⋯⟩);obtain⟨w5,wg⟩:=B.wk ko (ix.mp hx);obtain⟨y1,_,y3,y4⟩:=w5.2 y hy;exact⟨y1,ix.mpr ⟨y3,y4⟩⟩
theorem zY {S:Dg.Bk} (h:0<S.2) (q:Int) (hq:q.toNat<S.1.length):Dg.vl (Wq.eM (S.1.map λt=>Wq.low t S.2) q)=Dg.val S q:=by
 unfold Wq.eM Dg.val;rw[YN,YO,YN,YM hq];exact Dg.uh h
abbrev j9 (tp:Addr):Sp:=λvs H Q _=>∃(a:Addr) (b:List Pl) (rk:Int->Nat),vs=[.ref a]/\Rep H (pK b) (.ref a)/\i5 b rk/\H tp=some (.rj dsc)/\
 ∀l ps as H',Pr.Told b ps->aA H H'->H l=none->H' l=some (.lst (List.map V.ref as))->Al (λp v=>∃x,v=.ref x/\H' x=some (.lst ((Pr.cW b p).map V.int))) ps (as.map V.ref)->Q (.ref l) H'
abbrev yC:Sp:=λvs H Q _=>∃(a x:Addr) (b:List Pl) (ps:List Int),vs=[.ref a,.ref x]/\Rep H (pK b) (.ref a)/\H x=some (.lst (ps.map V.int))/\(∀p∈ps,Pr.In b p)/\(∀q∈b,xv b.length q)/\mL b 1 ps<=4096/\Q (.int (mL b 1 ps)) H
abbrev wz:Sp:=λvs H Q _=>∃(v:V) (q:Pl) (k:Option Int),vs=[v,dk k]/\Rep H (mZ q) v/\Hn q k/\∀l H',aA H H'->Rep H' (oP (xx q k)) (.ref l)->Q (.ref l) H'
abbrev Bo:Sp:=λvs H Q _=>∃(a c:Addr) (b:List Pl) (ks:List (Option Int)),vs=[.ref a,.ref c]/\Rep H (pK b) (.ref a)/\b.length<=60/\H c=some (.lst (ks.map dk))/\dq b ks/\
 ∀l xs H',aA H H'->H l=none->H' l=some (.lst xs)->a8 (c6 H' l) ((bN b ks).map oP) xs->Q (.ref l) H'
abbrev wA (C:Addr):Sp:=λvs H Q _=>∃(a:Addr) (b:List Pl) (rk:Int->Nat),vs=[.ref a]/\Rep H (pK b) (.ref a)/\i5 b rk/\∀x H',aA H H'->kJ C H' x (gT b,gB b)->Q (.ref x) H'
abbrev zZ (C:Addr):Sp:=λvs H Q _=>∃(bk gn pt wl:Addr) (S:Dg.Bk) (gt:List Int) (G:Int) (ps:List Int) (n M:Nat) (xs:List V) (dF:List Dg.Wy) (lv:Int->Nat),vs=[.ref bk,.ref gn,.ref pt,.ref wl]/\kJ C H bk S/\kJ C H gn (gt,G)/\H pt=some (.lst (ps.map V.int))/\H wl=some (.lst xs)/\a8 H (dF.map oP) xs/\
 dF.length=n/\n<=16/\ps.Nodup/\0<ps.length/\ps.length<=16/\(∀p∈ps,0<=p/\p< (n:Int))/\(∀ws∈dF,Dg.uu n ws)/\(∀p∈ps,bf dF p=[]\/∃x∈bf dF p,lv x.2<lv p)/\
 Dg.Sz n M S/\M+92*ps.length<3900/\gt.length=n/\0<G/\Bt 400 G/\G∣S.2/\(∀q,(gt.getD q 0).natAbs<=2^40*G.toNat)/\(∀p∈ps,S.1.getD p.toNat 0=0)/\
 ∀x T H',aA H H'->kJ C H' x T->Dg.E4 ps (bf dF) gt G S T->Dg.Sz n (M+92*ps.length) T->Q (.ref x) H'
abbrev Aa (tp:Addr):Sp:=λvs H Q _=>∃(a c:Addr) (b:List Pl) (rk:Int->Nat) (ks:List (Option Int)),vs=[.ref a,.ref c]/\Rep H (pK b) (.ref a)/\i5 b rk/\H c=some (.lst (ks.map dk))/\dq b ks/\H tp=some (.rj dsc)/\
 ∀l (S:Dg.Bk) H',aA H H'->H l=none->Rep H' (.lst ((S.1.map λt=>Wq.low t S.2).map a9)) (.ref l)->Dg.Sz b.length 1900 S->gB b∣S.2->(∀p:Nat,p<b.length->EqAt b ks p (Dg.val S))->Q (.ref l) H'
namespace Dg
abbrev lsum (f:Int->Rat):List Int->Rat
 | []=>0
 | q::qs=>f q+lsum f qs
theorem eD (f g:Int->Rat):∀qs,lsum (λq=>f q+g q) qs=lsum f qs+lsum g qs
 | []=>by show(0:Rat)=0+0;grind
 | q::qs=>by
  show f q+g q+lsum (λq=>f q+g q) qs=f q+lsum f qs+ (g q+lsum g qs);rw[eD f g qs];grind
theorem lE (c:Rat) (f:Int->Rat):∀qs,lsum (λq=>c*f q) qs=c*lsum f qs
 | []=>by show(0:Rat)=c*0;grind
 | q::qs=>by
  show c*f q+lsum (λq=>c*f q) qs=c* (f q+lsum f qs);rw[lE c f qs];grind
theorem uy {f g:Int->Rat}:∀{qs:List Int},(∀q∈qs,f q<=g q)->lsum f qs<=lsum g qs
 | [],_=>Rat.le_refl
 | q::qs,h=>by
  have:=uy (f:=f) (g:=g) (qs:=qs) λx hx=>h x (YU _ hx);have:=h q YT;show f q+lsum f qs<=g q+lsum g qs;grind
theorem fQ {f g:Int->Rat}:∀{qs:List Int},(∀q∈qs,f q=g q)->lsum f qs=lsum g qs
 | [],_=>rfl
 | q::qs,h=>by
  show f q+lsum f qs=g q+lsum g qs;rw[h q YT,fQ λx hx=>h x (YU _ hx)]
theorem gP (qs:List Int):lsum (λ_=>0) qs=0:=by
 induction qs with
 | nil=>rfl
 | cons q qs ih=>show(0:Rat)+lsum (λ_=>0) qs=0;rw[ih];grind
theorem wB {f:Int->Rat}:∀{qs:List Int},(∀q∈qs,0<=f q)->lsum f qs<=0->∀q∈qs,f q=0
 | [],_,_,q,hq=>by simp at hq
 | p::qs,h,k,q,hq=>by
  have h1:=h p YT;have hs:∀q∈qs,0<=f q:=λx hx=>h x (YU _ hx);have h2:0<=lsum f qs:=by
   have:=uy (f:=λ_=>0) (g:=f) hs;rw[gP] at this;exact this
  have k:f p+lsum f qs<=0:=k;rcases ZT.mp hq with rfl | hq
  ·grind
  ·exact wB hs (by grind) q hq
theorem qv {f:Int->Rat} {x:Int}:∀{qs:List Int},x∈qs->lsum f qs=f x+lsum f (qs.erase x)
 | [],h=>by simp at h
 | q::qs,h=>by
  by_cases c:q=x
  ·subst c;rw[List.erase_cons_head];rfl
  ·have:x∈qs:=by
    rcases ZT.mp h with h | h
    ·exact absurd h.symm c
    ·exact h
   rw[List.erase_cons_tail (by simpa using c)];show f q+lsum f qs=f x+ (f q+lsum f (qs.erase x));rw[qv this];grind
abbrev xy (d:Int) (qs:List Int):Wy->Rat
 | []=>0
 | x::ws=>(if x.2∈qs then (x.1:Rat) / (d:Rat) else 0)+xy d qs ws
theorem wC {c:Rat} {y:Int}:∀{qs:List Int},qs.Nodup->lsum (λq=>if y=q then c else 0) qs=if y∈qs then c else 0
 | [],_=>by rw[if_neg (by simp)];rfl
 | q::qs,h=>by
  have ih:=wC (c:=c) (y:=y) (List.nodup_cons.mp h).2;have nq:=(List.nodup_cons.mp h).1;show(if y=q then c else 0)+lsum (λq=>if y=q then c else 0) qs=_;rw[ih]
  by_cases e:y=q
  ·subst e;rw[if_pos rfl,if_neg nq,if_pos YT];grind
  ·rw[if_neg e]
   by_cases m:y∈qs
   ·rw[if_pos m,if_pos (YU _ m)];grind
   ·rw[if_neg m,if_neg (λz=>by rcases ZT.mp z with z | z;exact e z;exact m z)];grind
theorem Ab {d:Int} {qs:List Int} (nd:qs.Nodup):∀ws:Wy,lsum (λq=>pr d q ws) qs=xy d qs ws
 | []=>gP qs
 | x::ws=>by
  have ih:=Ab (d:=d) nd ws;have e:(λq=>pr d q (x::ws))=λq=>(if x.2=q then (x.1:Rat) / (d:Rat) else 0)+pr d q ws:=rfl;rw[e,eD,ih,wC nd];rfl
theorem Mp {a d:Int} (h:1<=a) (k:0<d):(0:Rat)< (a:Rat) / (d:Rat):=by
 rw[Rat.div_def];exact Rat.mul_pos (Rat.intCast_pos.mpr ⋯) (Rat.inv_pos.mpr (Rat.intCast_pos.mpr k))
theorem yD {d:Int} (d0:0<d) {qs:List Int}:∀{ws:Wy},(∀x∈ws,1<=x.1)->0<=xy d qs ws/\xy d qs ws<=(Wq.cI ws:Rat) / (d:Rat)/\((∃x∈ws,x.2∉qs)->xy d qs ws< (Wq.cI ws:Rat) / (d:Rat))
 | [],_=>by
  refine⟨Rat.le_refl,?_,fun⟨x,hx,_⟩=>by simp at hx⟩;show(0:Rat)<=((0:Int):Rat) / _;grind
 | x::ws,h=>by
  obtain⟨i1,i2,i3⟩:=yD d0 (qs:=qs) (ws:=ws) λy hy=>h y (YU _ hy);have c:=Mp (h x YT) d0;have e:((Wq.cI (x::ws):Int):Rat) / (d:Rat)=(x.1:Rat) / (d:Rat)+ (Wq.cI ws:Rat) / (d:Rat):=by
   rw[dA,Rat.intCast_add];generalize (x.1:Rat)=a at *;generalize (Wq.cI ws:Rat)=b at *;generalize (d:Rat)=u at *;grind
  rw[e];show 0<=(if x.2∈qs then (x.1:Rat) / (d:Rat) else 0)+xy d qs ws/\(if x.2∈qs then (x.1:Rat) / (d:Rat) else 0)+xy d qs ws<=_/\(_->(if x.2∈qs then (x.1:Rat) / (d:Rat) else 0)+xy d qs ws<_);generalize (x.1:Rat) / (d:Rat)=a at *;generalize (Wq.cI ws:Rat) / (d:Rat)=b at *;generalize hi:xy d qs ws=i at *
  by_cases m:x.2∈qs
  ·rw[if_pos m];refine⟨by grind,by grind,fun⟨y,hy,ny⟩=>?_⟩;rcases ZT.mp hy with rfl | hy
   ·exact absurd m ny
   ·have:=i3 ⟨y,hy,ny⟩;grind
  ·rw[if_neg m];exact⟨by grind,by grind,λ_=>by grind⟩
abbrev ab (x:Rat):Rat:=if 0<=x then x else -x
theorem DU (x:Rat):0<=ab x/\x<=ab x/\-x<=ab x:=by
 unfold ab
 split <;>grind
theorem Mq {x y:Rat} (h1:x<=y) (h2:-x<=y):ab x<=y:=by
 unfold ab
 split <;>grind
theorem Gx {x:Rat} (h:ab x=0):x=0:=by
 obtain⟨a,b,c⟩:=DU x;grind
theorem Hq {d:Int} (d0:0<d) {q:Int}:∀{ws:Wy},(∀x∈ws,1<=x.1)->0<=pr d q ws
 | [],_=>Rat.le_refl
 | x::ws,h=>by
  have ih:=Hq d0 (q:=q) (ws:=ws) λy hy=>h y (YU _ hy);have c:=Mp (h x YT) d0;show 0<=(if x.2=q then (x.1:Rat) / (d:Rat) else 0)+pr d q ws;generalize (x.1:Rat) / (d:Rat)=a at *;generalize pr d q ws=b at *
  split <;>grind
theorem wD {W:Int->Wy} {v:Int->Rat} {q:Int}:∀{ps:List Int},(∀p∈ps,0<=pr (tt (W p)) q (W p))->cK W v q ps<=cK W (λp=>ab (v p)) q ps/\-cK W v q ps<=cK W (λp=>ab (v p)) q ps
 | [],_=>⟨Rat.le_refl,by show -(0:Rat)<=0;grind⟩
 | p::ps,h=>by
  obtain⟨i1,i2⟩:=wD (W:=W) (v:=v) (q:=q) (ps:=ps) λx hx=>h x (YU _ hx);have c:=h p YT;obtain⟨a0,a1,a2⟩:=DU (v p);have m1:=Rat.mul_le_mul_of_nonneg_right a1 c;have m2:=Rat.mul_le_mul_of_nonneg_right a2 c;show v p*pr (tt (W p)) q (W p)+cK W v q ps<=ab (v p)*pr (tt (W p)) q (W p)+cK W (λp=>ab (v p)) q ps/\-(v p*pr (tt (W p)) q (W p)+cK W v q ps)<=ab (v p)*pr (tt (W p)) q (W p)+cK W (λp=>ab (v p)) q ps;generalize pr (tt (W p)) q (W p)=u at *;generalize ab (v p)=a at *;generalize v p=b at *;constructor <;>grind
theorem sI {W:Int->Wy} {v:Int->Rat} {qs:List Int} (nd:qs.Nodup):∀ps:List Int,lsum (λq=>cK W v q ps) qs=lsum (λp=>v p*xy (tt (W p)) qs (W p)) ps
 | []=>gP qs
 | p::ps=>by
  have e:(λq=>cK W v q (p::ps))=λq=>v p*pr (tt (W p)) q (W p)+cK W v q ps:=rfl;rw[e,eD,lE,Ab nd,sI nd ps];rfl
theorem qw {ws:Wy} (h:∀x∈ws,1<=x.1):0<tt ws/\(Wq.cI ws:Rat) / (tt ws:Rat)<=1/\(ws≠[]->(Wq.cI ws:Rat) / (tt ws:Rat)=1)/\(ws=[]->(Wq.cI ws:Rat) / (tt ws:Rat)=0):=by
 cases ws with
 | nil=>exact⟨∅,by show((0:Int):Rat) / ((1:Int):Rat)<=1;rw[Bc];grind,λz=>absurd rfl z,λ_=>Bc⟩
 | cons x ws=>
  have e:tt (x::ws)=Wq.cI (x::ws):=by unfold tt;rw[if_neg (by simp)]
  have p:0<Wq.cI (x::ws):=by
   have:=h x YT;have:=(sG (q:=0) (ws:=ws) λy hy=>h y (YU _ hy))
   rw[dA];lia
  have o:(Wq.cI (x::ws):Rat) / (Wq.cI (x::ws):Rat)=1:=by
   have:=lV p;generalize (Wq.cI (x::ws):Rat)=t at *;grind
  rw[e];exact⟨p,by rw[o];exact Rat.le_refl,λ_=>o,λz=>by cases z⟩
theorem Bp {ps:List Int} {W:Int->Wy} {lv:Int->Nat} {v:Int->Rat} (nd:ps.Nodup) (pos:∀p∈ps,∀x∈W p,1<=x.1) (h:∀q∈ps,v q=cK W v q ps) (dn:∀p∈ps,W p=[]\/∃x∈W p,lv x.2<lv p):∀p∈ps,v p=0:=by
 have le:∀q∈ps,ab (v q)<=cK W (λp=>ab (v p)) q ps:=λq hq=>by
  obtain⟨g1,g2⟩:=wD (W:=W) (v:=v) (q:=q) (ps:=ps) λp hp=>Hq (qw (pos p hp)).1 (pos p hp);rw[<-h q hq] at g1 g2;exact Mq g1 g2
 have key:∀qs:List Int,qs.Nodup->(∀q∈qs,q∈ps)->lsum (λq=>ab (v q)) qs=lsum (λq=>ab (v q)) ps->∀p∈ps,xy (tt (W p)) qs (W p)<1->v p=0:=by
  intro qs nq sub same p hp lt;have e1:=uy (f:=λq=>ab (v q)) (g:=λq=>cK W (λp=>ab (v p)) q ps) (qs:=qs) λq hq=>le q (sub q hq);rw[same,sI nq] at e1;have nn:∀p∈ps,0<=ab (v p)+-1* (ab (v p)*xy (tt (W p)) qs (W p)):=λp hp=>by
   obtain⟨t1,t2,_,_⟩:=qw (pos p hp);obtain⟨i1,i2,_⟩:=yD t1 (qs:=qs) (pos p hp);have m:=Rat.mul_le_mul_of_nonneg_left (Rat.le_trans i2 t2) (DU (v p)).1;generalize ab (v p)=a at *;generalize xy (tt (W p)) qs (W p)=i at *;grind
  have z:=wB (f:=λp=>ab (v p)+-1* (ab (v p)*xy (tt (W p)) qs (W p))) nn (by rw[eD,lE];grind) p hp;have z:ab (v p)+-1* (ab (v p)*xy (tt (W p)) qs (W p))=0:=z;refine Gx ?_;generalize ab (v p)=a at *;generalize xy (tt (W p)) qs (W p)=i at *;have:a* (1 - i)=0:=by grind
  rcases Rat.mul_eq_zero.mp this with h | h
  ·exact h
  ·grind
 have low:∀n,∀p∈ps,lv p<n->v p=0:=by
  intro n
  induction n with
  | zero=>exact λp _ hl=>absurd hl (ZF _)
  | succ n ih=>
   intro p hp hl;obtain⟨t1,t2,t3,t4⟩:=qw (pos p hp);rcases dn p hp with z | ⟨x,hx,lx⟩
   ·refine key ps nd (λ_ h=>h) rfl p hp ?_;rw[z];show(0:Rat)<1
    decide
   ·obtain⟨_,_,i3⟩:=yD t1 (qs:=ps.erase x.2) (pos p hp);have Mo:x.2∉ps.erase x.2:=λz=>(nd.mem_erase_iff.mp z).1 rfl;have lt:=i3 ⟨x,hx,Mo⟩;rw[t3 (List.ne_nil_of_mem hx)] at lt;refine key (ps.erase x.2) (nd.erase _) (λq hq=>List.mem_of_mem_erase hq) ?_ p hp lt
    by_cases m:x.2∈ps
    ·rw[qv m,ih x.2 m ⋯];show _=ab 0+_;have:ab 0=0:=∅
     rw[this];grind
    ·rw[List.erase_of_not_mem m]
 exact λp hp=>low _ p hp (Zl _)
end Dg
namespace Dg
abbrev mN (ps:List Int) (ws:Wy):Wy:=ws.filter λx=>decide (x.2∉ps)
theorem Ac {ps:List Int} {q:Int} (h:q∈ps):∀ws:Wy,cQ q (mN ps ws)=0
 | []=>rfl
 | x::ws=>by
  have ih:=Ac h ws;unfold mN at ih ⊢
  by_cases c:x.2∈ps
  ·rw[List.filter_cons_of_neg (by simpa using c)];exact ih
  ·rw[List.filter_cons_of_pos (by simpa using c)];show(if x.2=q then x.1 else 0)+cQ q (ws.filter _)=0;rw[if_neg (λz=>c (by rw[z];exact h)),ih];rfl
theorem wF {ps:List Int} {q:Int} (h:q∉ps):∀ws:Wy,cQ q (mN ps ws)=cQ q ws
 | []=>rfl
 | x::ws=>by
  have ih:=wF h ws;unfold mN at ih ⊢
  by_cases c:x.2∈ps
  ·rw[List.filter_cons_of_neg (by simpa using c),ih];show _=(if x.2=q then x.1 else 0)+cQ q ws;rw[if_neg (λz=>h (by rw[<-z];exact c)),ZR]
  ·rw[List.filter_cons_of_pos (by simpa using c)];show(if x.2=q then x.1 else 0)+cQ q (ws.filter _)=(if x.2=q then x.1 else 0)+cQ q ws;rw[ih]
abbrev i7 (ps xs:List Int) (W:Int->Wy) (ts:List Int):Nat->List Int
 | 0=>ts
 | k+1=>addW (xs.getD k 0) (mN ps (W (ps.getD k 0))) ((i7 ps xs W ts k).set (ps.getD k 0).toNat (xs.getD k 0*tt (W (ps.getD k 0))))
theorem i8 (ps xs:List Int) (W:Int->Wy) (ts:List Int):∀k,(i7 ps xs W ts k).length=ts.length
 | 0=>rfl
 | k+1=>by unfold i7;rw[qm,Zh,i8 ps xs W ts k]
section PV
variable {ps xs ts : List Int} {W : Int -> Wy} {n : Nat} (nd : ps.Nodup) (hp : ∀ p ∈ ps, 0 <= p /\ p < (n : Int)) (lt : ts.length = n) (wk : ∀ p ∈ ps, uu n (W p))
include hp lt wk
theorem wG {k:Nat} (hk:k<ps.length):∀x∈mN ps (W (ps.getD k 0)),0<=x.2/\x.2< (((i7 ps xs W ts k).set (ps.getD k 0).toNat (xs.getD k 0*tt (W (ps.getD k 0)))).length:Int):=λx hx=>by
 have m:ps.getD k 0∈ps:=by rw[YN,YM hk];exact YV hk
 have:=(wk _ m).2 x (List.mem_filter.mp hx).1;rw[Zh,i8,lt];exact this.2.2
theorem wH {q:Int} (q0:0<=q) (h:q∉ps):∀k,k<=ps.length->(i7 ps xs W ts k).getD q.toNat 0=ts.getD q.toNat 0+aO.sm k (λj=>xs.getD j 0*cQ q (W (ps.getD j 0)))
 | 0,_=>by show _=_+0;rw[Int.add_zero];rfl
 | k+1,hk=>by
  have m:ps.getD k 0∈ps:=by rw[YN,YM ⋯];exact YV _
  have:=hp _ m;show(addW _ _ _).getD q.toNat 0=_+ (aO.sm k _+_);rw[qo q0 (wG hp lt wk ⋯),wF h,c8 (λz=>h (by rw[show q=ps.getD k 0 by lia];exact m)),wH q0 h k ⋯,Int.add_assoc]
include nd
theorem Ad {j:Nat}:∀k,k<=ps.length->j<k->(i7 ps xs W ts k).getD (ps.getD j 0).toNat 0=xs.getD j 0*tt (W (ps.getD j 0))
 | 0,_,h=>absurd h (ZF _)
 | k+1,hk,h=>by
  have e:ps.getD k 0=ps[k]:=by rw[YN,YM ⋯];rfl
  have ej:ps.getD j 0=ps[j]:=by rw[YN,YM ⋯];rfl
  have m:=hp _ (YV (l:=ps) (n:=k) ⋯);have mj:=hp _ (YV (l:=ps) (n:=j) ⋯);show(addW _ _ _).getD (ps.getD j 0).toNat 0=_;rw[qo (by rw[ej];lia) (wG hp lt wk ⋯),Ac (by rw[ej];exact YV _),Zv,Int.add_zero]
  by_cases c:j=k
  ·subst c;rw[d7 (by rw[i8,lt,e];lia)]
  ·rw[c8 ?_,Ad k ⋯ ⋯];rw[e,ej];intro z;exact c ((ZU nd).mp (show ps[j]=ps[k] by lia))
end PV
abbrev Oc (ps:List Int) (W:Int->Wy) (S T:Bk):Prop:=(T=S/\∀p∈ps,S.1.getD p.toNat 0=0)\/∃(d:Int) (x:List Int),0<d/\T.2=S.2*d/\T.1.length=S.1.length/\(∀j,j<ps.length->T.1.getD (ps.getD j 0).toNat 0=x.getD j 0*tt (W (ps.getD j 0)))/\∀q:Int,0<=q->T.1.getD q.toNat 0=S.1.getD q.toNat 0*d+aO.sm ps.length (λi=>x.getD i 0*cQ q (W (ps.getD i 0)))
theorem mO {W:Int->Wy} {g:Int->Rat} {q p:Int}:∀os:List Int,cK W g q (os++ [p])=cK W g q os+g p*pr (tt (W p)) q (W p)
 | []=>by show g p*pr (tt (W p)) q (W p)+0=0+_;grind
 | o::os=>by
  have:=mO (W:=W) (g:=g) (q:=q) (p:=p) os;show g o*pr (tt (W o)) q (W o)+cK W g q (os++ [p])=g o*pr (tt (W o)) q (W o)+cK W g q os+_;rw[this];grind
theorem m9 {W:Int->Wy} {g:Int->Rat} {q:Int}:∀os BY:List Int,cK W g q (os++BY)=cK W g q os+cK W g q BY
 | [],BY=>by show _=0+_;grind
 | o::os,BY=>by
  have:=m9 (W:=W) (g:=g) (q:=q) os BY;show g o*pr (tt (W o)) q (W o)+cK W g q (os++BY)=g o*pr (tt (W o)) q (W o)+cK W g q os+_;rw[this];grind
theorem i9 {W:Int->Wy} {g:Int->Rat} {q:Int}:∀{os:List Int},(∀p∈os,g p=0\/∀x∈W p,x.2≠q)->cK W g q os=0
 | [],_=>rfl
 | o::os,h=>by
  show g o*pr (tt (W o)) q (W o)+cK W g q os=0;rw[i9 λp hp=>h p (YU _ hp)];rcases h o YT with z | z
  ·rw[z];grind
  ·rw[uj z];grind
theorem Oc.eq {ps:List Int} {W:Int->Wy} {S T:Bk} (h:Oc ps W S T) (B0:0<S.2) (t0:∀p∈ps,0<tt (W p)) {q:Int} (q0:0<=q):val T q=val S q+cK W (val T) q ps:=by
 rcases h with ⟨rfl,z⟩ | ⟨d,x,d0,e2,_,xi,all⟩
 ·rw[i9 λp hp=>.inl (by unfold val;rw[z p hp];show((0:Int):Rat) / _=0;grind)];grind
 ·have T0:0<T.2:=by rw[e2];exact Zd B0 d0
  have key:∀k,k<=ps.length->cK W (val T) q (ps.take k)=(aO.sm k (λi=>x.getD i 0*cQ q (W (ps.getD i 0))):Rat) / (T.2:Rat):=by
   intro k
   induction k with
   | zero=>intro _;show(0:Rat)=((0:Int):Rat) / _;grind
   | succ k ih=>
    intro hk;have e:ps.getD k 0=ps[k]:=by rw[YN,YM ⋯];rfl
    have tk:ps.take (k+1)=ps.take k++ [ps[k]]:=by rw[Zc,YM ⋯];rfl
    have tp:=t0 _ (YV (show k<ps.length by lia));rw[tk,mO,ih ⋯,<-uk tp];show _+val T ps[k]*_=((aO.sm k (λi=>x.getD i 0*cQ q (W (ps.getD i 0)))+x.getD k 0*cQ q (W (ps.getD k 0)):Int):Rat) / _;have v:val T ps[k]=(x.getD k 0:Rat)* (tt (W ps[k]):Rat) / (T.2:Rat):=by
     have:=xi k ⋯;rw[e] at this;unfold val;rw[this,Rat.intCast_mul]
    rw[v,e,Rat.intCast_add,Rat.intCast_mul];have h1:=lV T0;have h2:=lV tp;generalize (T.2:Rat)=a at *;generalize (tt (W ps[k]):Rat)=b at *;generalize (x.getD k 0:Rat)=c at *;generalize (cQ q (W ps[k]):Rat)=u at *;generalize ((aO.sm k (λi=>x.getD i 0*cQ q (W (ps.getD i 0))):Int):Rat)=m at *;clear ih;grind
  have k:=key ps.length (YR _);rw[List.take_length] at k;rw[k];unfold val;rw[all q q0,e2,Rat.intCast_add,Rat.intCast_mul,Rat.intCast_mul];have h1:=lV B0;have h2:=lV d0;generalize (S.2:Rat)=a at *;generalize (d:Rat)=b at *;generalize ((S.1.getD q.toNat 0:Int):Rat)=c at *;generalize ((aO.sm ps.length (λi=>x.getD i 0*cQ q (W (ps.getD i 0))):Int):Rat)=m at *;clear k key;grind
theorem j8.turned {ps:List Int} {W:Int->Wy} {lv:Int->Nat} {L:List (List Int)} (R:j8 ps W L) (nd:ps.Nodup) (pos:∀p∈ps,∀x∈W p,1<=x.1) (dn:∀p∈ps,W p=[]\/∃x∈W p,lv x.2<lv p):¬aO.yw (aO.v7 L) ps.length:=by
 rintro⟨g,k,hk,gk,rel⟩;have sq:aO.Sq L ps.length:=⟨R.1,R.2.1⟩
 apply gk;have gd:∀i,i<ps.length->ps.getD i 0=ps[i]!/\ps.getD i 0∈ps:=λi hi=>⟨by rw[YN];simp [hi],by rw[YN,YM hi];exact YV hi⟩
 have row:∀i,i<ps.length->tt (W (ps.getD i 0))*g i=aO.sm ps.length (λj=>g j*cQ (ps.getD i 0) (W (ps.getD j 0))):=λi hi=>by
  have r:aO.sm ps.length (λj=>g j*aO.cell (aO.v7 L) i j)=0:=rel i hi;have e:aO.sm ps.length (λj=>g j*aO.cell (aO.v7 L) i j)=aO.sm ps.length (λj=>tt (W (ps.getD i 0))* (g j* (if j=i then 1 else 0))+ (-1)* (g j*cQ (ps.getD i 0) (W (ps.getD j 0)))):=aO.eY λj hj=>by
   rw[aO.v8 sq hi hj,show aO.cell L j i=(L.getD j []).getD i 0 from rfl,R.2.2 j i hj hi]
   by_cases c:j=i
   ·subst c;rw[if_pos rfl,if_pos rfl,Int.mul_sub,Int.mul_one,Za (g j) (tt _)];lia
   ·rw[if_neg c,if_neg c,Int.mul_sub,Zv,Zv];lia
  rw[e,aO.qp,aO.iz,aO.iz,aO.uq,if_pos hi] at r;lia
 let v:Int->Rat:=λp=>if p∈ps then ((g (ps.idxOf p)*tt (W p):Int):Rat) else 0
 have Od:∀i,i<ps.length->v (ps.getD i 0)=((g i*tt (W (ps.getD i 0)):Int):Rat):=λi hi=>by
  have m:=(gd i hi).2;have o:=yz nd g hi;unfold Du at o;rw[if_pos m] at o;show(if ps.getD i 0∈ps then _ else _)=_;rw[if_pos m,o]
 have key:∀q,∀k,k<=ps.length->cK W v q (ps.take k)=((aO.sm k (λj=>g j*cQ q (W (ps.getD j 0))):Int):Rat):=by
  intro q k
  induction k with
  | zero=>intro _;rfl
  | succ k ih=>
   intro hk;have e:ps.getD k 0=ps[k]:=by rw[YN,YM ⋯];rfl
   have tk:ps.take (k+1)=ps.take k++ [ps[k]]:=by rw[Zc,YM ⋯];rfl
   have tp:=(qw (pos _ (YV (show k<ps.length by lia)))).1;have va:=Od k ⋯;rw[e] at va;rw[tk,mO,ih ⋯,<-uk tp,va];show _=((aO.sm k (λj=>g j*cQ q (W (ps.getD j 0)))+g k*cQ q (W (ps.getD k 0)):Int):Rat);rw[e,Rat.intCast_add,Rat.intCast_mul,Rat.intCast_mul];have h2:=lV tp;generalize (tt (W ps[k]):Rat)=b at *;generalize (g k:Rat)=c at *;generalize (cQ q (W ps[k]):Rat)=u at *;generalize ((aO.sm k (λj=>g j*cQ q (W (ps.getD j 0))):Int):Rat)=m at *;clear ih va Od;grind
 have z:=Bp (v:=v) (lv:=lv) nd pos (λq hq=>by
  obtain⟨i,hi,rfl⟩:=Zi hq;have e:ps.getD i 0=ps[i]:=by rw[YN,YM hi];rfl
  have k:=key ps[i] ps.length (YR _);rw[List.take_length] at k;have va:=Od i hi;have r:=row i hi;rw[e] at va r;rw[k,va,<-r,Za]) dn (ps.getD k 0) (gd k hk).2
 rw[Od k hk] at z;have z:g k*tt (W (ps.getD k 0))=0:=Rat.intCast_inj.mp z;have tp:=(qw (pos _ (gd k hk).2)).1;rcases Int.mul_eq_zero.mp z with h | h
 ·exact h
 ·lia
theorem Hr {f:Nat->Int} {b:Nat}:∀{n},(∀i,i<n->(f i).natAbs<=b)->(aO.sm n f).natAbs<=n*b
 | 0,_=>by show(0:Int).natAbs<=_;simp
 | n+1,h=>by
  have ih:=Hr (f:=f) (b:=b) (n:=n) λi hi=>h i ⋯;have:=h n (Zl _);show(aO.sm n f+f n).natAbs<=(n+1)*b;rw[Nat.add_mul];lia
theorem JN {n M X:Nat} {ps x:List Int} {W:Int->Wy} {d t q:Int} (p0:0<ps.length) (Gy:ps.length<=16) (wk:∀p∈ps,uu n (W p)) (zx:∀j,j<ps.length->(x.getD j 0).natAbs<=X) (hX:X<=2^ (M+ (25*ps.length+5))) (bd:Bt (25*ps.length+6) d) (bt:Bt M t):Bt (M+92*ps.length) (t*d+aO.sm ps.length (λi=>x.getD i 0*cQ q (W (ps.getD i 0)))):=by
 have s:=Hr (f:=λi=>x.getD i 0*cQ q (W (ps.getD i 0))) (b:=X*1000000) (n:=ps.length) λi hi=>by
  have m:ps.getD i 0∈ps:=by rw[YN,YM hi];exact YV hi
  have k:=sG (q:=q) λy hy=>((wk _ m).2 y hy).1;have u:=(wk _ m).NO;rw[Zs];exact Z1 (zx i hi) ⋯
 have b1:=bt.mul bd;unfold Bt at b1 ⊢;have e1:(2:Nat)^ (M+ (25*ps.length+6))=2^ (M+ (25*ps.length+5))*2:=by rw[show M+ (25*ps.length+6)=M+ (25*ps.length+5)+1 by lia,Nat.pow_succ]
 have e2:(2:Nat)^ (M+92*ps.length)=2^ (M+ (25*ps.length+5))*2^ (67*ps.length - 5):=by rw[<-ZH];congr 1;lia
 have e3:(2:Nat)^30<=2^ (67*ps.length - 5):=ZP ∅ ⋯;have P0:0<2^ (M+ (25*ps.length+5)):=Nat.pow_pos ∅;rw[e2];rw[e1] at b1;generalize (2:Nat)^ (M+ (25*ps.length+5))=P at *;have m1:ps.length* (X*1000000)<=16* (P*1000000):=Z1 Gy (Z7 _ hX);have m2:P*2^30<=P*2^ (67*ps.length - 5):=aae _ e3;lia
end Dg
theorem Gz {M:List (List Int)} {b:Nat} (h:∀r∈M,∀x∈r,x.natAbs<=b):∀r∈aO.v7 M,∀x∈r,x.natAbs<=b:=by
 intro r hr x hx;unfold aO.v7 at hr;obtain⟨c,hc,rfl⟩:=aau.mp hr;obtain⟨q,hq,rfl⟩:=aau.mp hx;rw[YN];cases e:q[c]? with
 | none=>exact Y1 _
 | some y=>exact h q hq y (YQ e)
theorem Dg.j8.P9 {ps:List Int} {W:Int->Dg.Wy} {L:List (List Int)} {C x:List Int} {d:Int} (R:Dg.j8 ps W L) (so:∀i,i<ps.length->aO.sm ps.length (λj=>aO.cell (aO.v7 L) i j*x.getD j 0)=C.getD i 0*d) {i:Nat} (hi:i<ps.length):x.getD i 0*Dg.tt (W (ps.getD i 0))=C.getD i 0*d+aO.sm ps.length (λj=>x.getD j 0*Dg.cQ (ps.getD i 0) (W (ps.getD j 0))):=by
 have sq:aO.Sq L ps.length:=⟨R.1,R.2.1⟩
 have e:aO.sm ps.length (λj=>aO.cell (aO.v7 L) i j*x.getD j 0)=aO.sm ps.length (λj=>Dg.tt (W (ps.getD i 0))* (x.getD j 0* (if j=i then 1 else 0))+ (-1)* (x.getD j 0*Dg.cQ (ps.getD i 0) (W (ps.getD j 0)))):=aO.eY λj hj=>by
  rw[aO.v8 sq hi hj,show aO.cell L j i=(L.getD j []).getD i 0 from rfl,R.2.2 j i hj hi,Za]
  by_cases c:j=i
  ·subst c;rw[if_pos rfl,if_pos rfl,Int.mul_sub,Int.mul_one,Za (x.getD j 0) (Dg.tt _)];lia
  ·rw[if_neg c,if_neg c,Int.mul_sub,Zv,Zv];lia
 have s:=so i hi;rw[e,aO.qp,aO.iz,aO.iz,aO.uq,if_pos hi] at s;rw[Za (x.getD i 0)];lia
abbrev ind (st:Nat) (q:Int):Rat:=if q=(st:Int) then 1 else 0
abbrev kK (n:Nat):List Int:=(List.range n).map fun(i:Nat)=>(i:Int)
theorem f9 {b:List Pl} {x:Int}:x∈kK b.length↔Pr.In b x:=by
 constructor
 ·intro hx;obtain⟨j,hj,rfl⟩:=aau.mp hx;have:=List.mem_range.mp hj;exact⟨⋯,⋯⟩
 ·intro hx;obtain⟨j,rfl⟩:=Y2 hx.1;exact aau.mpr ⟨j,List.mem_range.mpr (by have:=hx.2;lia),rfl⟩
theorem yE (n:Nat):(kK n).Nodup:=List.pairwise_map.mpr (List.nodup_range.imp λh z=>h ⋯)
abbrev GA (b:List Pl) (ks:List (Option Int)) (st:Nat) (v:Int->Rat):Prop:=∀q,Pr.In b q->v q=ind st q+Dg.cK (bf (bN b ks)) v q (kK b.length)
structure wI (b:List Pl) (ks:List (Option Int)) (st:Nat) (os:List Int) (S:Dg.Bk):Prop where
 sz:Dg.Sz b.length (330+92*os.length) S
 eq:∀q,Pr.In b q->Dg.val S q=ind st q+Dg.cK (bf (bN b ks)) (Dg.val S) q os
theorem wI.start {b:List Pl} {ks:List (Option Int)} {st:Nat} (h:st<b.length):wI b ks st [] ((aaz b.length (0:Int)).set st 1,1):=by
 refine⟨⟨by rw[Zh,Zr],by show(0:Int)<1;decide,by show Bt (330+92*0) (1:Int);exact Bt.mono (m:=1) (Bt.of 1 ∅ ∅) ∅,λq=>?_⟩,λq hq=>?_⟩
 ·show Bt _ (((aaz b.length (0:Int)).set st 1).getD q 0);refine Bt.mono (m:=1) ?_ (by show 1<=330+92*0;decide);rw[YN,List.getElem?_set,aag]
  split
  ·split <;>exact Bt.of 1 (by decide) (by decide)
  ·split <;>exact Bt.of 1 (by decide) (by decide)
 ·show(((aaz b.length (0:Int)).set st 1).getD q.toNat 0:Rat) / ((1:Int):Rat)=ind st q+0;have q0:=hq.1;unfold ind
  by_cases e:q=(st:Int)
  ·rw[if_pos e,e,YS,Dg.d7 (by rw[Zr];exact h),Dg.Mj];grind
  ·rw[if_neg e,Dg.c8 ⋯,YN,aag];have:((if q.toNat<b.length then some (0:Int) else none).getD 0)=0:=by split <;>rfl
   rw[this,Dg.Bc];grind
theorem wI.step {b:List Pl} {rk:Int->Nat} {ks:List (Option Int)} {ps os:List Int} {st i:Nat} {S S':Dg.Bk} {h:Int} (B:i5 b rk) (T:Pr.Told b ps) (ko:dq b ks) (I:wI b ks st os S) (e:ps[i]?=some h) (ho:∀q∈os,Pr.In b q/\i<uw b ps q)
  (sv:Dg.Oc (Pr.cW b h) (bf (bN b ks)) S S') (sz:Dg.Sz b.length (330+92*os.length+92* (Pr.cW b h).length) S'):wI b ks st (os++Pr.cW b h) S':=by
 have ih:=T.Gh (YQ e);have eP:∀q∈Pr.cW b h,Pr.In b q:=λq hq=>Pr.eB B.jH.good ih hq;have t0:∀p∈Pr.cW b h,0<Dg.tt (bf (bN b ks) p):=λp hp=>by have:=(B.wk ko (eP p hp)).1.tt;lia
 have ve:∀q,0<=q->Dg.val S' q=Dg.val S q+Dg.cK (bf (bN b ks)) (Dg.val S') q (Pr.cW b h):=λq q0=>sv.eq I.sz.pos t0 q0;have same:∀p∈os,Dg.val S p=Dg.val S' p:=λp hp=>by
  obtain⟨i1,i2⟩:=ho p hp;rw[ve p i1.1,Dg.i9 λr hr=>.inr λx hx z=>?_]
  ·grind
  ·have a:=(B.wk ko (eP r hr)).2 x hx;have c:=(oQ B T (eP r hr) a).1;rw[z,iA B T e hr] at c;lia
 refine⟨?_,λq hq=>?_⟩
 ·rw[Y7,Nat.mul_add,<-Nat.add_assoc];exact sz
 ·rw[ve q hq.1,I.eq q hq,Dg.m9,Dg.qk (g':=Dg.val S') λp hp _=>same p hp];grind
abbrev DV (C:Addr):Sp:=λvs H Q _=>∃(bk pt wl:Addr) (S:Dg.Bk) (ps:List Int) (n M:Nat) (xs:List V) (dF:List Dg.Wy) (lv:Int->Nat),vs=[.ref bk,.ref pt,.ref wl]/\kJ C H bk S/\H pt=some (.lst (ps.map V.int))/\H wl=some (.lst xs)/\a8 H (dF.map oP) xs/\
 dF.length=n/\n<=16/\ps.Nodup/\0<ps.length/\ps.length<=16/\(∀p∈ps,0<=p/\p< (n:Int))/\(∀ws∈dF,Dg.uu n ws)/\(∀p∈ps,bf dF p=[]\/∃x∈bf dF p,lv x.2<lv p)/\
 Dg.Sz n M S/\20<=M/\M+92*ps.length<3900/\
 ∀x T H',aA H H'->kJ C H' x T->Dg.Oc ps (bf dF) S T->Dg.Sz n (M+92*ps.length) T->Q (.ref x) H'
abbrev DW (tp:Addr):Sp:=λvs H Q _=>∃(a c:Addr) (st:Nat) (b:List Pl) (rk:Int->Nat) (ks:List (Option Int)),vs=[.ref a,.ref c,.int (st:Int)]/\Rep H (pK b) (.ref a)/\i5 b rk/\H c=some (.lst (ks.map dk))/\dq b ks/\H tp=some (.rj dsc)/\st<b.length/\
 ∀l (S:Dg.Bk) H',aA H H'->H l=none->Rep H' (.lst ((S.1.map λt=>Wq.low t S.2).map a9)) (.ref l)->Dg.Sz b.length (330+92*b.length) S->GA b ks st (Dg.val S)->Q (.ref l) H'
abbrev GB (K:aam):Sp:=λvs H Q _=>∃a ns k,vs=[.ref a,.int k]/\aS K H a (List.map V.int ns)/\0<=k/\k<1000/\∀n,Q (.int n) H
abbrev gc:Sp:=λvs H Q _=>∃c m,vs=[.int c,.int m]/\0<m/\∀r,0<=r->r<m->Q (.int r) H
abbrev qx:Sp:=λvs H Q _=>∃a b,vs=[.int a,.int b]/\0<b/\Bt 8900 b/\∀p H',aA H H'->H p=none->H' p=some (.tup (Pr (Nm.st a b) (Nm.sb a b)))->Q (.ref p) H'
abbrev Rm (a:Wq.Sh):Prop:=Bt 4000 a.1/\Bt 4000 a.2/\0<a.2
abbrev DX:Sp:=λvs H Q _=>∃p q a b,vs=[.ref p,.ref q]/\H p=some (.tup (Pr a.1 a.2))/\H q=some (.tup (Pr b.1 b.2))/\Rm a/\Rm b/\
 ∀r H',aA H H'->H r=none->H' r=some (.tup (Pr (Wq.tm a b).1 (Wq.tm a b).2))->Q (.ref r) H'
abbrev DY:Sp:=λvs H Q _=>∃c n,vs=[.int c,.int n]/\0<n/\n<=60/\∀l H' s,aA H H'->H l=none->H' l=some (.lst (List.map fX s))->s.Perm (List.range n.toNat)->Q (.ref l) H'
abbrev qy (Z M:Int) (x:Wq.Sh):Prop:=Wq.Lw x/\x.2∣Z/\Wq.Vb M x
abbrev Bq (s:List Nat) (k:Nat) (q:Pl):Prop:=xv s.length q/\match q with
 | .fin _=>True
 | .d6 _ ws=>∃x∈ws,∃j,j<k/\s[j]?=some x.2.toNat
 | .cA _ to=>∀g∈to,∃j,j<k/\s[j]?=some g.toNat
abbrev WT (H:Hp) (n:Int) (x:V):Prop:=∃q w t,x=.ref q/\H q=some (.tup [.int w,.int t])/\(1<=w/\w<=200000)/\0<=t/\t<n
theorem WT.mono {H H':Hp} {n:Int} {x:V} (s:aA H H') (h:WT H n x):WT H' n x:=by
 obtain⟨q,w,t,e,hq,r⟩:=h;exact⟨q,w,t,e,s _ _ hq,r⟩
theorem WT.put {H:Hp} {n:Int} {x:V} {p:Addr} {xs:List V} {o:HO} (hp:H p=some (.lst xs)) (h:WT H n x):WT (upd H p o) n x:=by
 obtain⟨q,w,t,e,hq,r⟩:=h;refine⟨q,w,t,e,?_,r⟩;rw[aK (λz=>by rw[z,hp] at hq;cases hq)];exact hq
theorem GC {α:Type} {H:Hp} {f:α->Dat} {P:Nat->α->Prop}:∀{xs:List V},(∀(i:Nat) x,xs[i]?=some x->∃a,Rep H (f a) x/\P i a)->∃as:List α,a8 H (as.map f) xs/\as.length=xs.length/\∀(i:Nat) a,as[i]?=some a->P i a:=by
 intro xs h;have hc:∀i:Nat,∃a:Option α,∀x,xs[i]?=some x->∃a',a=some a'/\Rep H (f a') x/\P i a':=λi=>by
  cases e:xs[i]? with
  | none=>exact⟨none,λx z=>by cases z⟩
  | some x=>
   obtain⟨a,h1,h2⟩:=h i x e;exact⟨some a,λy z=>by cases z;exact⟨a,rfl,h1,h2⟩⟩
 have ⟨g,hg⟩:=Classical.axiomOfChoice hc;have key:∀n,n<=xs.length->∃as:List α,as.length=n/\∀(i:Nat) a,as[i]?=some a->g i=some a:=by
  intro n
  induction n with
  | zero=>exact λ_=>⟨[],rfl,λi a e=>by simp at e⟩
  | succ n ih=>
   intro hn;obtain⟨as,l,o⟩:=ih ⋯;obtain⟨a,ea,_⟩:=hg n _ (YM (show n<xs.length by lia));refine⟨as++ [a],by simp [l],λi b e=>?_⟩
   by_cases c:i<as.length
   ·rw[Zm c] at e;exact o i b e
   ·rw[Zn ⋯] at e;have:i - as.length<1:=(aat.mp e).1;rw[show i - as.length=0 by lia] at e;cases e;rw[show i=n by lia];exact ea
 obtain⟨as,l,o⟩:=key xs.length (YR _);refine⟨as,dQ l.symm λi y ey a ea=>?_,l,λi a ea=>?_⟩
 ·obtain⟨a',e1,r,_⟩:=hg i y ey;rw[o i a ea] at e1;cases e1;exact r
 ·have hi:=(aat.mp ea).1;obtain⟨a',e1,_,p⟩:=hg i _ (YM (show i<xs.length by lia));rw[o i a ea] at e1;cases e1;exact p
abbrev DZ:Sp:=λvs H Q _=>∃c k,vs=[.int c,.int k]/\0<=k/\k<1000/\∀p H' a,aA H H'->H p=none->H' p=some (.tup (Pr a.1 a.2))->GS a->Q (.ref p) H'
abbrev D1:Sp:=λvs H Q _=>∃c k n,vs=[.int c,.int k,.int n]/\0<k/\k<n/\∀l H' xs,aA H H'->H' l=some (.lst xs)->(∀x∈xs,WT H' n x)->(∃x∈xs,WT H' k x)->0<xs.length->xs.length<=5->Q (.ref l) H'
abbrev Hs (K:aam):Sp:=λvs H Q _=>∃(a:Addr) (ns:List Int) (n:Nat),vs=[.ref a,.int 2,.int (n:Int)]/\aS K H a (List.map V.int ns)/\0<n/\n<=8/\∀l H' (b:List Pl) rk,aA H H'->H l=none->Rep H' (pK b) (.ref l)->b.length=n->i5 b rk->Q (.ref l) H'
abbrev D2:Sp:=λvs H Q _=>∃(a:Addr) (b:List Pl) (c:Int),vs=[.ref a,.int c]/\Rep H (pK b) (.ref a)/\b.length<=16/\(∀q∈b,xv b.length q)/\∀l H' ks,aA H H'->H l=none->H' l=some (.lst (List.map dk ks))->dq b ks->Q (.ref l) H'
abbrev lF:Sp:=λvs H Q _=>∃a b,vs=[.ref a]/\Rep H (pK b) (.ref a)/\b.length<=16/\∀l H',aA H H'->H l=none->Rep H' (pK b) (.ref l)->Q (.ref l) H'
abbrev cD (S:Dg.Bk):List Wq.Sh:=S.1.map λt=>Wq.low t S.2
abbrev Ae (K:aam) (tp:Addr):Sp:=λvs H Q _=>∃(a:Addr) (ns:List Int),vs=[.ref a]/\H tp=some (.rj dsc)/\aS K H a (ns.map V.int)/\ns.length<=63/\∀H',Q (.bl true) H'
theorem Mr {s:List Nat} {b:List Pl} (pm:s.Perm (List.range s.length)) (l0:0<s.length) (l8:s.length<=8) (lb:b.length=s.length) (ok:∀(k:Nat) p q,s[k]?=some p->b[p]?=some q->Bq s k q):i5 b (λg=>s.idxOf g.toNat):=by
 have at_:∀{p:Nat},p<b.length->∃k,s[k]?=some p:=λhp=>Ze (pm.mem_iff.mpr (List.mem_range.mpr ⋯));have Ht:∀q∈b,xv b.length q:=λq hq=>by
  obtain⟨p,ep⟩:=Ze hq;obtain⟨k,ek⟩:=at_ (aat.mp ep).1;rw[lb];exact(ok k p q ek ep).1
 have jH:Hm b (λg=>s.idxOf g.toNat):=by
  refine⟨⟨λq hq g hg=>?_,λq hq w to e=>?_⟩,λi g ws e=>?_,λi w to e g hg=>?_⟩
  ·have:=Ht q hq;cases q with
   | fin w=>simp [Lv.ik] at hg
   | d6 w ws=>
    obtain⟨x,hx,rfl⟩:=aau.mp hg;exact(this.2.2.2 x hx).2.2
   | cA w to=>exact this.2.2.2 g hg
  ·subst e;have:=(Ht _ hq).2.1;exact λz=>by rw[z] at this;cases this
  ·obtain⟨k,ek⟩:=at_ (aat.mp e).1;obtain⟨x,hx,j,jk,ej⟩:=(ok k i _ ek e).2;refine⟨x,hx,?_⟩;show s.idxOf x.2.toNat<s.idxOf ((i:Int)).toNat;rw[YS,Lv.tQ pm ej,Lv.tQ pm ek];exact jk
  ·obtain⟨k,ek⟩:=at_ (aat.mp e).1;obtain⟨j,jk,ej⟩:=(ok k i _ ek e).2 g hg;show s.idxOf g.toNat<s.idxOf ((i:Int)).toNat;rw[YS,Lv.tQ pm ej,Lv.tQ pm ek];exact jk
 exact⟨⋯,⋯,Ht,jH,λp hp=>JM jH Ht ⋯ hp⟩
theorem Ms {M N:Int} {x:Wq.Sh} (h:Wq.Vb M x) (l:M<=N) (x0:0<x.2):Wq.Vb N x:=by
 have:=Int.mul_le_mul_of_nonneg_right l (show 0<=x.2 by lia);unfold Wq.Vb at h ⊢;lia
theorem qy.rm {Z M:Int} {x:Wq.Sh} (h:qy Z M x) (Z0:0<Z) (bZ:Bt 1950 Z) (M0:0<=M) (bM:Bt 1950 M):Rm x:=by
 obtain⟨lx,d,v⟩:=h;have l0:=lx.1;have b2:Bt 1950 x.2:=bZ.le (by have:=ZQ Z0 d;lia);have b1:Bt 3900 (M*x.2):=bM.mul b2;exact⟨Bt.mono (b1.le (by obtain⟨v1,v2⟩:=v;lia)) ∅,b2.mono ∅,l0⟩
theorem qy.up {Z Z' M M':Int} {x:Wq.Sh} (h:qy Z M x) (hZ:Z∣Z') (hM:M<=M'):qy Z' M' x:=⟨h.1,Int.dvd_trans h.2.1 hZ,Ms h.2.2 hM h.1.1⟩
theorem JO {ss:List Wq.Sh} {q:Int} (h0:0<=q) (h:q< (ss.length:Int)):ss[q.toNat]?=some (Wq.eM ss q):=by
 unfold Wq.eM;rw[YN,YM (show q.toNat<ss.length by lia)];rfl
theorem sJ {H H':Hp} {ws:List Wq.Sh} {l:Addr} (h:Rep H (.lst (ws.map a9)) (.ref l)) (kl:∀xs,H l=some (.lst xs)->H' l=some (.lst xs)) (kt:∀x vs,H x=some (.tup vs)->H' x=some (.tup vs)):Rep H' (.lst (ws.map a9)) (.ref l):=by
 obtain⟨_,xs,e,hl,rl⟩:=aM.mp h;cases e;have lx:=rl.length;rw[YL] at lx;refine aM.mpr ⟨l,xs,rfl,kl _ hl,dQ lx.symm λi y ey a ea=>?_⟩;obtain⟨d,ed,rd⟩:=rl.get ey;rw[YO,ea] at ed;cases ed;obtain⟨p,rfl,hp⟩:=bQ.mp rd;exact bQ.mpr ⟨p,rfl,kt _ _ hp⟩
theorem qy.add {Z M N:Int} {x y:Wq.Sh} (hx:qy Z N x) (hy:qy Z M y) (Z0:0<Z):qy Z (N+M) (Wq.pl x y):=by
 obtain⟨p1,p2,p3⟩:=Wq.Mf hx.1.1 hy.1.1 Z0 hx.2.1 hy.2.1;refine⟨p1,p2,(Wq.jL p1.1 Z0 p2).mpr ?_⟩;have a1:=(Wq.jL hx.1.1 Z0 hx.2.1).mp hx.2.2;have a2:=(Wq.jL hy.1.1 Z0 hy.2.1).mp hy.2.2;rw[p3,Int.add_mul];lia
theorem lsum_snoc (f:Int->Rat) (q:Int):∀qs,Dg.lsum f (qs++ [q])=Dg.lsum f qs+f q
 | []=>by show f q+0=0+f q;grind
 | p::qs=>by
  show f p+Dg.lsum f (qs++ [q])=f p+Dg.lsum f qs+f q;rw[lsum_snoc f q qs];grind
theorem D3 {n i:Nat} (h:i<n):(kK n).take (i+1)=(kK n).take i++ [(i:Int)]:=by
 unfold kK;rw[Zc,YO,Zu h];rfl
theorem mP {c:Rat} {y:Int} {w:Int->Rat}:∀{qs:List Int},qs.Nodup->y∈qs->Dg.lsum (λq=>(if y=q then c else 0)*w q) qs=c*w y
 | [],_,h=>by simp at h
 | q::qs,nd,h=>by
  show(if y=q then c else 0)*w q+Dg.lsum (λq=>(if y=q then c else 0)*w q) qs=c*w y
  by_cases e:y=q
  ·subst e;have z:Dg.lsum (λq=>(if y=q then c else 0)*w q) qs=Dg.lsum (λ_=>0) qs:=Dg.fQ λq hq=>by
    rw[if_neg (λz=>(List.nodup_cons.mp nd).1 (by rw[z];exact hq))];grind
   rw[if_pos rfl,z,Dg.gP];grind
  ·rw[if_neg e,mP (List.nodup_cons.mp nd).2 (by rcases ZT.mp h with h | h;exact absurd h e;exact h)];grind
theorem wJ {d:Int} {w:Int->Rat} {ps:List Int} (nd:ps.Nodup):∀{ws:Dg.Wy},(∀x∈ws,x.2∈ps)->Dg.lsum (λq=>Dg.pr d q ws*w q) ps=Dg.dm d w ws
 | [],_=>by
  have e:(λq=>Dg.pr d q []*w q)=λ_=>(0:Rat):=funext λq=>by show 0*w q=0;grind
  rw[e,Dg.gP];rfl
 | x::ws,h=>by
  have e:(λq=>Dg.pr d q (x::ws)*w q)=λq=>(if x.2=q then (x.1:Rat) / (d:Rat) else 0)*w q+Dg.pr d q ws*w q:=funext λq=>by
   show((if x.2=q then (x.1:Rat) / (d:Rat) else 0)+Dg.pr d q ws)*w q=_;grind
  rw[e,Dg.eD,mP nd (h x YT),wJ nd λy hy=>h y (YU _ hy)];rfl
theorem Af {W:Int->Dg.Wy} {v w:Int->Rat} {qs:List Int} (nd:qs.Nodup):∀{ps:List Int},(∀p∈ps,∀x∈W p,x.2∈qs)->Dg.lsum (λq=>Dg.cK W v q ps*w q) qs=Dg.lsum (λp=>v p*Dg.dm (Dg.tt (W p)) w (W p)) ps
 | [],_=>by
  have e:(λq=>Dg.cK W v q []*w q)=λ_=>(0:Rat):=funext λq=>by show 0*w q=0;grind
  rw[e,Dg.gP];rfl
 | p::ps,h=>by
  have e:(λq=>Dg.cK W v q (p::ps)*w q)=λq=>v p* (Dg.pr (Dg.tt (W p)) q (W p)*w q)+Dg.cK W v q ps*w q:=funext λq=>by
   show(v p*Dg.pr (Dg.tt (W p)) q (W p)+Dg.cK W v q ps)*w q=_;grind
  rw[e,Dg.eD,Dg.lE,wJ nd (h p YT),Af nd λr hr=>h r (YU _ hr)];rfl
theorem qy.mul {Z Z' M M':Int} {x y:Wq.Sh} (hx:qy Z M x) (hy:qy Z' M' y) (Z0:0<Z) (Sa:0<Z'):qy (Z*Z') (M*M') (Wq.tm x y):=by
 have L0:0<Z*Z':=Zd Z0 Sa;have b0:0<x.2*y.2:=Zd hx.1.1 hy.1.1;obtain⟨d,e⟩:=Wq.tV (a:=x.1*y.1) (b:=x.2*y.2) (L:=Z*Z') (s:=Wq.sc Z x*Wq.sc Z' y) b0 L0 (by
  have e1:=Wq.gv hx.2.1;have e2:=Wq.gv hy.2.1
  calc x.1*y.1* (Z*Z')=(x.1*Z)* (y.1*Z'):=by grind
   _=(Wq.sc Z x*x.2)* (Wq.sc Z' y*y.2):=by rw[e1,e2]
   _=Wq.sc Z x*Wq.sc Z' y* (x.2*y.2):=by grind)
 have lw:=Wq.mG (a:=x.1*y.1) b0;refine⟨lw,d,(Wq.jL lw.1 L0 d).mpr ?_⟩;have a1:=(Wq.jL hx.1.1 Z0 hx.2.1).mp hx.2.2;have a2:=(Wq.jL hy.1.1 Sa hy.2.1).mp hy.2.2;rw[e];have n1:(Wq.sc Z x).natAbs<=(M*Z).natAbs:=⋯
 have n2:(Wq.sc Z' y).natAbs<=(M'*Z').natAbs:=⋯
 have p1:0<=M*Z:=⋯
 have p2:0<=M'*Z':=⋯
 have n3:=Z1 n1 n2;rw[<-Zs,<-Zs] at n3;have p3:0<=M*Z* (M'*Z'):=Int.mul_nonneg p1 p2;have e3:M*M'* (Z*Z')=M*Z* (M'*Z'):=by grind
 rw[e3];lia
theorem sM {α:Type} [DecidableEq α]:∀{l m:List α},l.Nodup->(∀x∈l,x∈m)->l.length<=m.length
 | [],_,_,_=>Y1 _
 | x::l,m,nd,h=>by
  have hx:=h x YT;have ih:=sM (l:=l) (m:=m.erase x) (List.nodup_cons.mp nd).2 λy hy=>by
   have ne:y≠x:=λz=>(List.nodup_cons.mp nd).1 (z▸hy);exact(List.mem_erase_of_ne ne).mpr (h y (YU _ hy))
  rw[List.length_erase_of_mem hx] at ih;have:0<m.length:=List.length_pos_of_mem hx;rw[YZ];lia
abbrev Oe:Pl->Int->Bool
 | .cA w _,bB=>decide (w=bB)
 | _,_=>false
abbrev Qa:Pl->List (Option Int)
 | .cA _ to=>(List.range to.length).map fun(i:Nat)=>some (i:Int)
 | _=>[some 0]
abbrev Br:List Pl->List (List (Option Int))
 | []=>[[]]
 | q::b=>((Qa q).map λk=>(Br b).map λt=>k::t).flatten
structure yF (b:List Pl) (ks:List (Option Int)):Prop where
 pk:dq b ks
 cJ:∀(i:Nat) q k,b[i]?=some q->ks[i]?=some k->(∀w to,q≠.cA w to)->k=some 0
theorem yF.mem:∀{b:List Pl} {ks:List (Option Int)},yF b ks->ks∈Br b
 | [],ks,h=>by
  have:=h.pk.len;cases ks with
  | nil=>exact aav.mpr rfl
  | cons k ks=>simp at this
 | q::b,[],h=>by have:=h.pk.len;simp at this
 | q::b,k::ks,h=>by
  have ih:=yF.mem (b:=b) (ks:=ks) ⟨⟨by have:=h.pk.len;simpa using this,λi q k e1 e2=>h.pk.ok (i+1) q k e1 e2⟩,λi q k e1 e2=>h.cJ (i+1) q k e1 e2⟩;have po:=h.pk.ok 0 q k rfl rfl;refine List.mem_flatten.mpr ⟨_,aau.mpr ⟨k,?_,rfl⟩,aau.mpr ⟨ks,ih,rfl⟩⟩;cases q with
  | fin g=>exact aav.mpr (h.cJ 0 _ _ rfl rfl (by intro w to z;cases z))
  | d6 g ws=>exact aav.mpr (h.cJ 0 _ _ rfl rfl (by intro w to z;cases z))
  | cA w to=>
   cases k with
   | none=>exact po.elim
   | some k=>
    obtain⟨k0,k1⟩:=po;exact aau.mpr ⟨k.toNat,List.mem_range.mpr ⋯,by rw[Z3 k0]⟩
section PO
variable {b : List Pl} {rk : Int -> Nat} (B : i5 b rk) {ps : List Int} {g u : Int -> Rat}
structure uT (b:List Pl) (ps:List Int) (g u:Int->Rat) (ks:List (Option Int)) (v:Int->Rat):Prop where
 eq:∀p∈ps,v p=g p+Dg.dm (Dg.tt (bf (bN b ks) p)) v (bf (bN b ks) p)
 out:∀q,0<=q->q∉ps->v q=u q
abbrev mQ (b:List Pl) (g:Int->Rat) (ks:List (Option Int)) (v:Int->Rat) (p:Int):Rat:=g p+Dg.dm (Dg.tt (bf (bN b ks) p)) v (bf (bN b ks) p)
include B
theorem JP {ks eF:List (Option Int)} {v v':Int->Rat} (eP:∀p∈ps,Pr.In b p) (JQ:dq b eF) (h:uT b ps g u ks v) (h':uT b ps g u eF v') (le:∀p∈ps,v p<=mQ b g eF v p):∀p∈ps,v p<=v' p:=by
 intro p hp;have:=Dg.sub_zero (ps:=ps) (W:=bf (bN b eF)) (lv:=rk) (v:=λi=>v i - v' i) (λp hp=>by
  rw[Dg.i4,h'.eq p hp];have:=le p hp;unfold mQ at this;grind) (λp hp x hx=>((B.wk JQ (eP p hp)).1.2 x hx).1) (λp hp x hx nx=>by
  have x0:=((B.wk JQ (eP p hp)).1.2 x hx).2.2.1;rw[h.out _ x0 nx,h'.out _ x0 nx];grind) (λp hp=>B.dn JQ (eP p hp)) p hp
 have:v p - v' p<=0:=this;grind
theorem JR {ks eF:List (Option Int)} {v v':Int->Rat} (eP:∀p∈ps,Pr.In b p) (JQ:dq b eF) (h:uT b ps g u ks v) (h':uT b ps g u eF v') (ge:∀p∈ps,mQ b g eF v p<=v p):∀p∈ps,v' p<=v p:=by
 intro p hp;have:=Dg.sub_zero (ps:=ps) (W:=bf (bN b eF)) (lv:=rk) (v:=λi=>v' i - v i) (λp hp=>by
  rw[Dg.i4,h'.eq p hp];have:=ge p hp;unfold mQ at this;grind) (λp hp x hx=>((B.wk JQ (eP p hp)).1.2 x hx).1) (λp hp x hx nx=>by
  have x0:=((B.wk JQ (eP p hp)).1.2 x hx).2.2.1;rw[h.out _ x0 nx,h'.out _ x0 nx];grind) (λp hp=>B.dn JQ (eP p hp)) p hp
 have:v' p - v p<=0:=this;grind
omit B in
theorem sN {d:Int} (d0:0<d) {v v':Int->Rat}:∀{ws:Dg.Wy},(∀x∈ws,1<=x.1/\v x.2<=v' x.2)->Dg.dm d v ws<=Dg.dm d v' ws
 | [],_=>Rat.le_refl
 | x::ws,h=>by
  have ih:=sN d0 (v:=v) (v':=v') (ws:=ws) λy hy=>h y (YU _ hy);obtain⟨x1,x2⟩:=h x YT;have c:(0:Rat)< (x.1:Rat) / (d:Rat):=by
   rw[Rat.div_def];exact Rat.mul_pos (Rat.intCast_pos.mpr ⋯) (Rat.inv_pos.mpr (Rat.intCast_pos.mpr d0))
  have m:=Rat.mul_le_mul_of_nonneg_left x2 (Rat.le_of_lt c);show(x.1:Rat) / (d:Rat)*v x.2+Dg.dm d v ws<=(x.1:Rat) / (d:Rat)*v' x.2+Dg.dm d v' ws;generalize (x.1:Rat) / (d:Rat)*v x.2=a at *;generalize (x.1:Rat) / (d:Rat)*v' x.2=a' at *;grind
theorem wK {ks:List (Option Int)} {v v':Int->Rat} {k1 k2:List (Option Int)} (eP:∀p∈ps,Pr.In b p) (ko:dq b ks) (h:uT b ps g u k1 v) (h':uT b ps g u k2 v') (le:∀p∈ps,v p<=v' p) {p:Int} (hp:p∈ps):mQ b g ks v p<=mQ b g ks v' p:=by
 unfold mQ;have w:=(B.wk ko (eP p hp)).1;have:=sN (d:=Dg.tt (bf (bN b ks) p)) (by have:=w.tt;lia) (v:=v) (v':=v') (ws:=bf (bN b ks) p) λx hx=>⟨(w.2 x hx).1,by
  by_cases c:x.2∈ps
  ·exact le _ c
  ·rw[h.out _ (w.2 x hx).2.2.1 c,h'.out _ (w.2 x hx).2.2.1 c];exact Rat.le_refl⟩
 grind
abbrev fq (b:List Pl) (ps:List Int) (bB:Int) (k1 k2:List (Option Int)):Prop:=∀p:Nat,(p:Int)∈ps->∀q,b[p]?=some q->Oe q bB=true->k1[p]?=k2[p]?
omit B in
theorem fq.symm {bB:Int} {k1 k2:List (Option Int)} (h:fq b ps bB k1 k2):fq b ps bB k2 k1:=λp hp q e i=>(h p hp q e i).symm
omit B in
theorem fq.trans {bB:Int} {k1 k2 k3:List (Option Int)} (h:fq b ps bB k1 k2) (h':fq b ps bB k2 k3):fq b ps bB k1 k3:=λp hp q e i=>(h p hp q e i).trans (h' p hp q e i)
structure wL (b:List Pl) (ps:List Int) (g u:Int->Rat) (ks:List (Option Int)) (eQ:List (List (Option Int))) (fl:Option (Int->Rat)):Prop where
 ok:yF b ks
 nd:eQ.Nodup
 new:ks∉eQ
 all:∀h∈eQ,yF b h
 floor:∀μ,fl=some μ->∀k v,dq b k->uT b ps g u k v->fq b ps 1 k ks->(∀p∈ps,μ p<=v p)/\∃p∈ps,μ p<v p
 past:∀h∈eQ,(∃μ,fl=some μ/\∃k v,dq b k/\uT b ps g u k v/\fq b ps 1 k h/\∀p∈ps,v p<=μ p)\/(fq b ps 1 h ks/\∃w,uT b ps g u h w/\∀v,uT b ps g u ks v->(∀p∈ps,v p<=w p)/\∃p∈ps,v p<w p)
omit B in
theorem wL.start {ks:List (Option Int)} (h:yF b ks):wL b ps g u ks [] none:=
 ⟨h,List.nodup_nil,by simp,by simp,(λμ z=>by cases z),by simp⟩
omit B in
theorem wL.left {ks:List (Option Int)} {eQ:List (List (Option Int))} {fl:Option (Int->Rat)} (h:wL b ps g u ks eQ fl):eQ.length< (Br b).length:=by
 have:=sM (l:=ks::eQ) (m:=Br b) (List.nodup_cons.mpr ⟨h.new,h.nd⟩) λx hx=>by
  rcases ZT.mp hx with rfl | hx
  ·exact h.ok.mem
  ·exact(h.all x hx).mem
 rw[YZ] at this;lia
theorem wL.second {ks eF:List (Option Int)} {eQ:List (List (Option Int))} {fl:Option (Int->Rat)} {v:Int->Rat} (eP:∀p∈ps,Pr.In b p) (h:wL b ps g u ks eQ fl) (hv:uT b ps g u ks v) (Mt:yF b eF) (same:fq b ps 1 eF ks) (ge:∀p∈ps,mQ b g eF v p<=v p) (st:∃p∈ps,mQ b g eF v p<v p):wL b ps g u eF (ks::eQ) fl:=by
 have low:∀v',uT b ps g u eF v'->(∀p∈ps,v' p<=v p)/\∃p∈ps,v' p<v p:=λv' IA=>by
  have le:=JR B eP Mt.pk hv IA ge;obtain⟨p,hp,lt⟩:=st;refine⟨le,p,hp,?_⟩;have m:=wK B eP Mt.pk IA hv le hp;have e:=IA.eq p hp;unfold mQ at m lt;grind
 have ne:eF≠ks:=λz=>by
  obtain⟨p,hp,lt⟩:=st;have e:=hv.eq p hp;unfold mQ at lt;rw[z] at lt;grind
 refine⟨Mt,List.nodup_cons.mpr ⟨h.new,h.nd⟩,λz=>?_,λx hx=>?_,λμ e k w hk hw sm=>h.floor μ e k w hk hw (sm.trans same),λx hx=>?_⟩
 ·rcases ZT.mp z with z | z
  ·exact ne z
  ·rcases h.past eF z with ⟨μ,e,k,w,hk,hw,sm,le⟩ | ⟨sm,w,hw,al⟩
   ·obtain⟨_,p,hp,lt⟩:=h.floor μ e k w hk hw (sm.trans same);have:=le p hp;grind
   ·obtain⟨_,p,hp,lt⟩:=al v hv;have:=(low w hw).1 p hp;grind
 ·rcases ZT.mp hx with rfl | hx
  ·exact h.ok
  ·exact h.all x hx
 ·rcases ZT.mp hx with rfl | hx
  ·exact .inr ⟨same.symm,v,hv,low⟩
  ·rcases h.past x hx with p1 | ⟨sm,w,hw,al⟩
   ·exact .inl p1
   ·refine .inr ⟨sm.trans same.symm,w,hw,λv' IA=>?_⟩;obtain⟨a1,p,hp,a2⟩:=al v hv;have l:=(low v' IA).1;exact⟨λq hq=>Rat.le_trans (l q hq) (a1 q hq),p,hp,by have:=l p hp;grind⟩
theorem wL.first {ks eF:List (Option Int)} {eQ:List (List (Option Int))} {fl:Option (Int->Rat)} {v:Int->Rat} (eP:∀p∈ps,Pr.In b p) (h:wL b ps g u ks eQ fl) (hv:uT b ps g u ks v) (Mt:yF b eF)
  (le:∀k,dq b k->fq b ps 1 k eF->∀p∈ps,v p<=mQ b g k v p) (st:∃p∈ps,∀k,dq b k->fq b ps 1 k eF->v p<mQ b g k v p):wL b ps g u eF (ks::eQ) (some v):=by
 have KW:∀k w,dq b k->uT b ps g u k w->fq b ps 1 k eF->(∀p∈ps,v p<=w p)/\∃p∈ps,v p<w p:=λk w hk hw sm=>by
  have l:=JP B eP hk hv hw (le k hk sm);obtain⟨p,hp,lt⟩:=st;refine⟨l,p,hp,?_⟩;have m:=wK B eP hk hv hw l hp;have e:=hw.eq p hp;have t:=lt k hk sm;unfold mQ at m t;grind
 have old:∀x∈ks::eQ,∃k w,dq b k/\uT b ps g u k w/\fq b ps 1 k x/\∀p∈ps,w p<=v p:=λx hx=>by
  rcases ZT.mp hx with rfl | hx
  ·exact⟨x,v,h.ok.pk,hv,λ_ _ _ _ _=>rfl,λp _=>Rat.le_refl⟩
  ·rcases h.past x hx with ⟨μ,e,k,w,hk,hw,sm,le⟩ | ⟨sm,w,hw,al⟩
   ·obtain⟨m,_⟩:=h.floor μ e ks v h.ok.pk hv (λ_ _ _ _ _=>rfl);exact⟨k,w,hk,hw,sm,λp hp=>Rat.le_trans (le p hp) (m p hp)⟩
   ·exact⟨ks,v,h.ok.pk,hv,sm.symm,λp _=>Rat.le_refl⟩
 refine⟨Mt,List.nodup_cons.mpr ⟨h.new,h.nd⟩,λz=>?_,λx hx=>?_,λμ e k w hk hw sm=>?_,λx hx=>?_⟩
 ·obtain⟨k,w,hk,hw,sm,l⟩:=old eF z;obtain⟨_,p,hp,lt⟩:=KW k w hk hw sm;have:=l p hp;grind
 ·rcases ZT.mp hx with rfl | hx
  ·exact h.ok
  ·exact h.all x hx
 ·cases e;exact KW k w hk hw sm
 ·obtain⟨k,w,hk,hw,sm,l⟩:=old x hx;exact .inl ⟨v,rfl,k,w,hk,hw,sm,l⟩
end PO
abbrev sgn (bB:Int):Int:=if bB=1 then 1 else -1
theorem JS (bB:Int):sgn bB=1\/sgn bB= -1:=by
 unfold sgn
 split
 ·exact .inl rfl
 ·exact .inr rfl
abbrev D4 (bB:Int) (to ts:List Int) (w:Nat):Prop:=∀t∈to,sgn bB*ts.getD t.toNat 0<=sgn bB*ts.getD (to.getD w 0).toNat 0
abbrev JT (bB:Int):Rat:=if bB=1 then 1 else -1
abbrev yG (b:List Pl) (p:Nat) (v:Int->Rat):Prop:=∀q,b[p]?=some q->match q with
 | .fin g=>v (p:Int)=Dg.vl g
 | .d6 g ws=>v (p:Int)=Dg.vl g+Dg.dm (Dg.tt ws) v ws
 | .cA bB to=>(∃t∈to,v (p:Int)=v t)/\∀t∈to,JT bB*v t<=JT bB*v (p:Int)
theorem yH {S:Dg.Bk} (h:0<S.2) {a b:Int}:S.1.getD a.toNat 0<S.1.getD b.toNat 0↔Dg.val S a<Dg.val S b:=by
 have h1:(0:Rat)< (S.2:Rat):=Rat.intCast_pos.mpr h;have h2:(0:Rat)< (S.2:Rat)⁻¹:=Rat.inv_pos.mpr h1;unfold Dg.val;rw[<-Rat.intCast_lt_intCast,Rat.div_def,Rat.div_def];constructor
 ·exact λk=>Rat.mul_lt_mul_of_pos_right k h2
 ·exact λk=>Rat.lt_of_mul_lt_mul_right k (Rat.le_of_lt h2)
theorem yI {S:Dg.Bk} (h:0<S.2) {a b:Int}:S.1.getD a.toNat 0<=S.1.getD b.toNat 0↔Dg.val S a<=Dg.val S b:=by
 have:=yH h (a:=b) (b:=a);constructor
 ·intro k;rcases Rat.le_total (a:=Dg.val S a) (b:=Dg.val S b) with c | c
  ·exact c
  ·by_cases e:Dg.val S a=Dg.val S b
   ·rw[e];exact Rat.le_refl
   ·have:=this.mpr (by grind);lia
 ·intro k
  by_cases c:S.1.getD b.toNat 0<S.1.getD a.toNat 0
  ·have:=this.mp c;grind
  ·lia
abbrev uz (b:List Pl) (ks:List (Option Int)) (p:Int):Int:=((bf (bN b ks) p).headD (1,0)).2
theorem ja {b:List Pl} {ks:List (Option Int)} (ko:dq b ks) {p:Nat} {bB:Int} {to:List Int} (e:b[p]?=some (.cA bB to)):∃k:Int,ks[p]?=some (some k)/\0<=k/\k< (to.length:Int)/\bf (bN b ks) (p:Int)=[(1,to.getD k.toNat 0)]/\uz b ks (p:Int)=to.getD k.toNat 0/\to.getD k.toNat 0∈to:=by
 obtain⟨q,k,e1,e2,po,ew⟩:=ko.at (aat.mp e).1;rw[e] at e1;cases e1;cases k with
 | none=>exact po.elim
 | some k=>
  obtain⟨k0,k1⟩:=po;have hl:k.toNat<to.length:=⋯
  refine⟨k,e2,k0,k1,ew,by unfold uz;rw[ew];rfl,?_⟩;rw[YN,YM hl];exact YV hl
structure jI (b:List Pl) (ks:List (Option Int)) (bB:Int) (ts qs:List Int) (bs:List (Int×Int)):Prop where
 mem:∀x∈bs,x.1∈qs/\∃to,b[x.1.toNat]?=some (.cA bB to)/\0<=x.2/\x.2< (to.length:Int)/\D4 bB to ts x.2.toNat/\ts.getD (to.getD x.2.toNat 0).toNat 0≠ts.getD (uz b ks x.1).toNat 0
 cJ:∀p∈qs,p∉bs.map (·.1)->∀to,b[p.toNat]?=some (.cA bB to)->∀t∈to,sgn bB*ts.getD t.toNat 0<=sgn bB*ts.getD (uz b ks p).toNat 0
 sub:(bs.map (·.1)).Sublist qs
theorem jI.start {b:List Pl} {ks:List (Option Int)} {bB:Int} {ts:List Int}:jI b ks bB ts [] []:=⟨by simp,by simp,List.Sublist.refl _⟩
abbrev fE (bs:List (Int×Int)) (ks:List (Option Int)):Nat->List (Option Int)
 | 0=>ks
 | j+1=>(fE bs ks j).set (bs.getD j (0,0)).1.toNat (some (bs.getD j (0,0)).2)
theorem lG (bs:List (Int×Int)) (ks:List (Option Int)):∀j,(fE bs ks j).length=ks.length
 | 0=>rfl
 | j+1=>by unfold fE;rw[Zh,lG bs ks j]
theorem jb {bs:List (Int×Int)} {ks:List (Option Int)} {p:Nat} (h0:∀x∈bs,0<=x.1) (h:(p:Int)∉bs.map (·.1)):∀j,j<=bs.length->(fE bs ks j)[p]?=ks[p]?
 | 0,_=>rfl
 | j+1,hj=>by
  have e:bs.getD j (0,0)=bs[j]:=by rw[YN,YM ⋯];rfl
  have m:=YV (l:=bs) (n:=j) ⋯;have m0:=h0 _ m;unfold fE;rw[e,Zw (λz=>h (aau.mpr ⟨bs[j],m,⋯⟩)),jb h0 h j ⋯]
theorem uA {bs:List (Int×Int)} {ks:List (Option Int)} (h0:∀x∈bs,0<=x.1/\x.1< (ks.length:Int)) (nd:(bs.map (·.1)).Nodup) {i:Nat}:∀j,j<=bs.length->i<j->∀x,bs[i]?=some x->(fE bs ks j)[x.1.toNat]?=some (some x.2)
 | 0,_,h,_,_=>absurd h (ZF _)
 | j+1,hj,h,x,ex=>by
  have e:bs.getD j (0,0)=bs[j]:=by rw[YN,YM ⋯];rfl
  have m:=h0 _ (YV (l:=bs) (n:=j) ⋯);have mx:=h0 _ (YQ ex);unfold fE;rw[e]
  by_cases c:i=j
  ·subst c;rw[YM (show i<bs.length from hj)] at ex;obtain rfl:=Zb ex;rw[ZO (by rw[lG];lia)]
  ·rw[Zw ?_,uA h0 nd j ⋯ ⋯ x ex];intro z;have li:i<bs.length:=⋯
   have lj:j<bs.length:=⋯
   rw[YM li] at ex;obtain rfl:=Zb ex;have l1:i< (bs.map (·.1)).length:=by rw[YL];exact li
   have l2:j< (bs.map (·.1)).length:=by rw[YL];exact lj
   have:(bs.map (·.1))[i]=(bs.map (·.1))[j]:=by rw[List.getElem_map,List.getElem_map];lia
   exact c ((ZU nd).mp this)
section BS
variable {b : List Pl} {rk : Int -> Nat} (B : i5 b rk) {ps : List Int} {S T : Dg.Bk} {ks : List (Option Int)}
include B
theorem JU (ko:dq b ks) (eP:∀p∈ps,Pr.In b p) (B0:0<S.2) (dv:gB b∣S.2) (st:Dg.E4 ps (bf (bN b ks)) (gT b) (gB b) S T):uT b ps (λp=>((gT b).getD p.toNat 0:Rat) / (gB b:Rat)) (Dg.val S) ks (Dg.val T):=
 ⟨λp hp=>st.eq B0 B.bot.1 dv hp (by have:=(B.wk ko (eP p hp)).1.tt;lia),λq q0 hq=>st.ne B0 q0 hq⟩
theorem jB {v:Int->Rat} {p:Nat} {bB:Int} {to:List Int} (ko:dq b ks) (e:b[p]?=some (.cA bB to)):mQ b (λp=>((gT b).getD p.toNat 0:Rat) / (gB b:Rat)) ks v (p:Int)=v (uz b ks (p:Int)):=by
 obtain⟨k,_,_,_,ew,et,_⟩:=ja ko e;unfold mQ;dsimp only;rw[ew,et,YS,B.gV e];show Dg.vl (0,1)+ (((1:Int):Rat) / ((1:Int):Rat)*v (to.getD k.toNat 0)+0)=v (to.getD k.toNat 0);have:Dg.vl (0,1)=0:=Dg.Bc;rw[this,Dg.Mj];grind
omit B in
theorem jc {v g:Int->Rat} {k1 k2:List (Option Int)} {p:Nat} (h1:dq b k1) (h2:dq b k2) (hp:p<b.length) (e:(∃bB to,b[p]?=some (.cA bB to))->k1[p]?=k2[p]?):mQ b g k1 v (p:Int)=mQ b g k2 v (p:Int):=by
 obtain⟨q,a1,e1,e2,_,ew⟩:=h1.at hp;obtain⟨q',a2,zq,Pu,_,KY⟩:=h2.at hp;rw[e1] at zq;cases zq;unfold mQ;have:xx q a1=xx q a2:=by
  cases q with
  | fin g=>rfl
  | d6 g ws=>rfl
  | cA bB to=>
   have:=e ⟨bB,to,e1⟩;rw[e2,Pu] at this;cases this;rfl
 rw[ew,KY,this]
omit B in
theorem uB {bs:List (Int×Int)} {bB:Int} {ts qs:List Int} (K:yF b ks) (Bs:∀p∈qs,Pr.In b p) (D5:qs.Nodup) (W:jI b ks bB ts qs bs):yF b (fE bs ks bs.length):=by
 have h0:∀x∈bs,0<=x.1/\x.1< (ks.length:Int):=λx hx=>by
  have:=Bs _ (W.mem x hx).1;rw[K.pk.len];exact this
 have nd:(bs.map (·.1)).Nodup:=W.sub.nodup D5;have key:∀(i:Nat) q k,b[i]?=some q->(fE bs ks bs.length)[i]?=some k->Hn q k/\((∀w to,q≠.cA w to)->k=some 0):=λi q k e1 e2=>by
  by_cases c:(i:Int)∈bs.map (·.1)
  ·obtain⟨x,hx,ex⟩:=aau.mp c;obtain⟨j,ej⟩:=Ze hx;have hj:=(aat.mp ej).1;have:=uA h0 nd bs.length (YR _) hj x ej;rw[ex,YS,e2] at this;cases this;obtain⟨_,to,eb,x0,x1,_⟩:=W.mem x hx;rw[ex,YS,e1] at eb;cases eb;exact⟨⟨x0,x1⟩,λh=>absurd rfl (h bB to)⟩
  ·rw[jb (λx hx=>(h0 x hx).1) c _ (YR _)] at e2;exact⟨K.pk.ok i q k e1 e2,K.cJ i q k e1 e2⟩
 exact⟨⟨by rw[lG];exact K.pk.len,λi q k e1 e2=>(key i q k e1 e2).1⟩,λi q k e1 e2=>(key i q k e1 e2).2⟩
omit B in
theorem uC {bs:List (Int×Int)} {bB:Int} {ts qs:List Int} (K:yF b ks) (Bs:∀p∈qs,Pr.In b p) (D5:qs.Nodup) (W:jI b ks bB ts qs bs) {p:Nat} (hp:(p:Int)∈bs.map (·.1)):∃to,b[p]?=some (.cA bB to)/\(∀t∈to,sgn bB*ts.getD t.toNat 0<=sgn bB*ts.getD (uz b (fE bs ks bs.length) (p:Int)).toNat 0)/\ts.getD (uz b (fE bs ks bs.length) (p:Int)).toNat 0≠ts.getD (uz b ks (p:Int)).toNat 0:=by
 have h0:∀x∈bs,0<=x.1/\x.1< (ks.length:Int):=λx hx=>by
  have:=Bs _ (W.mem x hx).1;rw[K.pk.len];exact this
 have nd:(bs.map (·.1)).Nodup:=W.sub.nodup D5;obtain⟨x,hx,ex⟩:=aau.mp hp;obtain⟨j,ej⟩:=Ze hx;have e2:=uA h0 nd bs.length (YR _) (aat.mp ej).1 x ej;obtain⟨_,to,eb,x0,x1,bw,ne⟩:=W.mem x hx;rw[ex,YS] at eb e2;rw[ex] at ne;obtain⟨k,ek,_,_,_,et,_⟩:=ja (uB K Bs D5 W).pk eb;rw[e2] at ek;cases ek;rw[et];exact⟨to,eb,bw,ne⟩
theorem wM {eQ:List (List (Option Int))} {fl:Option (Int->Rat)} {bs:List (Int×Int)} {qs:List Int} (eP:∀p∈ps,Pr.In b p) (T0:0<T.2) (h:wL b ps (λp=>((gT b).getD p.toNat 0:Rat) / (gB b:Rat)) (Dg.val S) ks eQ fl) (hv:uT b ps (λp=>((gT b).getD p.toNat 0:Rat) / (gB b:Rat)) (Dg.val S) ks (Dg.val T)) (hq:∀p∈qs,p∈ps) (D5:qs.Nodup) (W:jI b ks 2 T.1 qs bs) (ne:bs≠[]):wL b ps (λp=>((gT b).getD p.toNat 0:Rat) / (gB b:Rat)) (Dg.val S) (fE bs ks bs.length) (ks::eQ) fl:=by
 have K:=h.ok;have Bs:∀p∈qs,Pr.In b p:=λp hp=>eP p (hq p hp);have K':=uB K Bs D5 W;have pos:∀x∈bs,0<=x.1:=λx hx=>(Bs _ (W.mem x hx).1).1;have lt:∀p:Nat,(p:Int)∈bs.map (·.1)->(p:Int)∈ps/\mQ b (λp=>((gT b).getD p.toNat 0:Rat) / (gB b:Rat)) (fE bs ks bs.length) (Dg.val T) (p:Int)<Dg.val T (p:Int):=λp hp=>by
  obtain⟨to,eb,bw,nn⟩:=uC K Bs D5 W hp;obtain⟨k,_,_,_,ew,et,mt⟩:=ja K.pk eb;have mp:(p:Int)∈ps:=hq _ (by obtain⟨x,hx,ex⟩:=aau.mp hp;rw[<-ex];exact(W.mem x hx).1);refine⟨mp,?_⟩;have e:=hv.eq _ mp;rw[show _+_=mQ b (λp=>((gT b).getD p.toNat 0:Rat) / (gB b:Rat)) ks (Dg.val T) (p:Int) from rfl,jB B K.pk eb] at e;rw[jB B K'.pk eb,e];refine(yH T0).mp ?_;have:=bw _ mt;rw[<-et,show sgn 2= -1 from rfl] at this;lia
 have other:∀p:Nat,(p:Int)∈ps->(p:Int)∉bs.map (·.1)->mQ b (λp=>((gT b).getD p.toNat 0:Rat) / (gB b:Rat)) (fE bs ks bs.length) (Dg.val T) (p:Int)=Dg.val T (p:Int):=λp hp nb=>by
  have hpl:p<b.length:=by have:=(eP _ hp).2;lia
  rw[jc K'.pk K.pk hpl λ_=>jb pos nb _ (YR _)];exact(hv.eq _ hp).symm
 refine h.second B eP hv K' (λp hp q e i=>?_) (λp hp=>?_) ?_
 ·refine jb pos (λz=>?_) _ (YR _);obtain⟨to,eb,_⟩:=uC K Bs D5 W z;rw[e] at eb;cases eb;cases i
 ·obtain⟨p,rfl⟩:=Y2 (eP p hp).1
  by_cases c:(p:Int)∈bs.map (·.1)
  ·exact Rat.le_of_lt (lt p c).2
  ·rw[other p hp c];exact Rat.le_refl
 ·obtain⟨x,hx⟩:=List.exists_mem_of_ne_nil _ ne;obtain⟨p,ep⟩:=Y2 (pos x hx);have m:(p:Int)∈bs.map (·.1):=aau.mpr ⟨x,hx,ep⟩;exact⟨p,(lt p m).1,(lt p m).2⟩
theorem yJ {eQ:List (List (Option Int))} {fl:Option (Int->Rat)} {bs:List (Int×Int)} {qs q2:List Int} (eP:∀p∈ps,Pr.In b p) (T0:0<T.2) (h:wL b ps (λp=>((gT b).getD p.toNat 0:Rat) / (gB b:Rat)) (Dg.val S) ks eQ fl) (hv:uT b ps (λp=>((gT b).getD p.toNat 0:Rat) / (gB b:Rat)) (Dg.val S) ks (Dg.val T)) (hq:∀p∈qs,p∈ps) (D5:qs.Nodup) (W:jI b ks 1 T.1 qs bs) (ne:bs≠[])
  (W2:jI b ks 2 T.1 q2 []) (zf:∀p:Nat,(p:Int)∈ps->∀to,b[p]?=some (.cA 2 to)->(p:Int)∈q2):wL b ps (λp=>((gT b).getD p.toNat 0:Rat) / (gB b:Rat)) (Dg.val S) (fE bs ks bs.length) (ks::eQ) (some (Dg.val T)):=by
 have K:=h.ok;have Bs:∀p∈qs,Pr.In b p:=λp hp=>eP p (hq p hp);have K':=uB K Bs D5 W;have pos:∀x∈bs,0<=x.1:=λx hx=>(Bs _ (W.mem x hx).1).1;have at1:∀{k:List (Option Int)} {p:Nat} {to:List Int},dq b k->fq b ps 1 k (fE bs ks bs.length)->(p:Int)∈ps->b[p]?=some (.cA 1 to)->mQ b (λp=>((gT b).getD p.toNat 0:Rat) / (gB b:Rat)) k (Dg.val T) (p:Int)=mQ b (λp=>((gT b).getD p.toNat 0:Rat) / (gB b:Rat)) (fE bs ks bs.length) (Dg.val T) (p:Int):=λ{k p to} hk sm hp e=>jc hk K'.pk (aat.mp e).1 λ_=>sm p hp _ e rfl;have lt:∀p:Nat,(p:Int)∈bs.map (·.1)->(p:Int)∈ps/\(∃to,b[p]?=some (.cA 1 to))/\Dg.val T (p:Int)<mQ b (λp=>((gT b).getD p.toNat 0:Rat) / (gB b:Rat)) (fE bs ks bs.length) (Dg.val T) (p:Int):=λp hp=>by
  obtain⟨to,eb,bw,nn⟩:=uC K Bs D5 W hp;obtain⟨k,_,_,_,ew,et,mt⟩:=ja K.pk eb;have mp:(p:Int)∈ps:=hq _ (by obtain⟨x,hx,ex⟩:=aau.mp hp;rw[<-ex];exact(W.mem x hx).1);refine⟨mp,⟨to,eb⟩,?_⟩;have e:=hv.eq _ mp;rw[show _+_=mQ b (λp=>((gT b).getD p.toNat 0:Rat) / (gB b:Rat)) ks (Dg.val T) (p:Int) from rfl,jB B K.pk eb] at e;rw[jB B K'.pk eb,e];refine(yH T0).mp ?_;have:=bw _ mt;rw[<-et,show sgn 1=1 from rfl] at this;lia
 have old:∀p:Nat,(p:Int)∈ps->mQ b (λp=>((gT b).getD p.toNat 0:Rat) / (gB b:Rat)) ks (Dg.val T) (p:Int)=Dg.val T (p:Int):=λp hp=>(hv.eq _ hp).symm;refine h.first B eP hv K' (λk hk sm p hp=>?_) ?_
 ·obtain⟨p,rfl⟩:=Y2 (eP p hp).1;have hpl:p<b.length:=by have:=(eP _ hp).2;lia
  have eb:b[p]?=some b[p]:=YM hpl;cases q:b[p] with
  | fin g=>
   rw[jc hk K.pk hpl (fun⟨w,to,z⟩=>by rw[eb,q] at z;cases z),old p hp];exact Rat.le_refl
  | d6 g ws=>
   rw[jc hk K.pk hpl (fun⟨w,to,z⟩=>by rw[eb,q] at z;cases z),old p hp];exact Rat.le_refl
  | cA bB to=>
   rw[q] at eb;have pq:=B.ok _ (YQ eb);rcases pq.1 with w1 | w2
   ·subst w1;rw[at1 hk sm hp eb]
    by_cases c:(p:Int)∈bs.map (·.1)
    ·exact Rat.le_of_lt (lt p c).2.2
    ·rw[jc K'.pk K.pk hpl λ_=>jb pos c _ (YR _),old p hp];exact Rat.le_refl
   ·subst w2;obtain⟨k',_,_,_,_,et,mt⟩:=ja hk eb;have n2:=W2.cJ _ (zf p hp to eb) (by simp) to (by rw[YS];exact eb) _ mt;rw[<-old p hp,jB B K.pk eb,jB B hk eb,et];refine(yI T0).mp ?_;rw[show sgn 2= -1 from rfl] at n2;lia
 ·obtain⟨x,hx⟩:=List.exists_mem_of_ne_nil _ ne;obtain⟨p,ep⟩:=Y2 (pos x hx);have m:(p:Int)∈bs.map (·.1):=aau.mpr ⟨x,hx,ep⟩;obtain⟨h1,⟨to,h2⟩,h3⟩:=lt p m;exact⟨p,h1,λk hk sm=>by rw[at1 hk sm h1 h2];exact h3⟩
end BS
abbrev D7:Sp:=λvs H Q _=>∃(v:V) (m:Addr) (bB:Int) (to ts:List Int),vs=[v,.ref m]/\Rep H (mZ (.cA bB to)) v/\H m=some (.lst (ts.map V.int))/\0<to.length/\to.length<=4/\(∀g∈to,0<=g/\g< (ts.length:Int))/\(∀t∈ts,Bt 4000 t)/\
 ∀(w:Nat) H',aA H H'->w<to.length->D4 bB to ts w->Q (.int (w:Int)) H'
abbrev iN (b:List Pl) (bB:Int) (ps:List Int):List Int:=ps.filter λp=>match b[p.toNat]? with | some q=>Oe q bB | none=>false
theorem eZ {b:List Pl} {bB p:Int} {ps:List Int}:p∈iN b bB ps↔p∈ps/\∃to,b[p.toNat]?=some (.cA bB to):=by
 unfold iN;rw[List.mem_filter];constructor
 ·rintro⟨h1,h2⟩;refine⟨h1,?_⟩;cases e:b[p.toNat]? with
  | none=>rw[e] at h2;cases h2
  | some q=>
   rw[e] at h2;cases q with
   | fin g=>cases h2
   | d6 g ws=>cases h2
   | cA w to=>exact⟨to,by rw[show w=bB from of_decide_eq_true h2]⟩
 ·rintro⟨h1,to,e⟩;refine⟨h1,?_⟩;rw[e];exact decide_eq_true rfl
abbrev Ag:Sp:=λvs H Q _=>∃(bl pt:Addr) (bB:Int) (b:List Pl) (ps:List Int),vs=[.ref bl,.ref pt,.int bB]/\Rep H (pK b) (.ref bl)/\H pt=some (.lst (ps.map V.int))/\(∀p∈ps,Pr.In b p)/\ps.length<=16/\
 ∀l H',aA H H'->H l=none->H' l=some (.lst ((iN b bB ps).map V.int))->Q (.ref l) H'
abbrev D8:Sp:=λvs H Q _=>∃(bl ql wl m:Addr) (b:List Pl) (ks:List (Option Int)) (bB:Int) (ts qs:List Int) (xs:List V),vs=[.ref bl,.ref ql,.ref wl,.ref m]/\Rep H (pK b) (.ref bl)/\H ql=some (.lst (qs.map V.int))/\H wl=some (.lst xs)/\a8 H ((bN b ks).map oP) xs/\H m=some (.lst (ts.map V.int))/\ts.length=b.length/\(∀t∈ts,Bt 4000 t)/\dq b ks/\(∀q∈b,xv b.length q)/\(∀p∈qs,0<=p/\∃to,b[p.toNat]?=some (.cA bB to))/\qs.length<=16/\
 ∀l bs H',aA H H'->H l=none->Rep H' (.lst (bs.map a9)) (.ref l)->jI b ks bB ts qs bs->Q (.ref l) H'
abbrev Hu (C:Addr):Sp:=λvs H Q _=>∃(bk gn pt bl wl:Addr) (S:Dg.Bk) (b:List Pl) (rk:Int->Nat) (ks:List (Option Int)) (ps:List Int) (M:Nat) (xs:List V),vs=[.ref bk,.ref gn,.ref pt,.ref bl,.ref wl]/\kJ C (c6 H wl) bk S/\kJ C (c6 H wl) gn (gT b,gB b)/\c6 H wl pt=some (.lst (ps.map V.int))/\Rep (c6 H wl) (pK b) (.ref bl)/\i5 b rk/\H wl=some (.lst xs)/\a8 (c6 H wl) ((bN b ks).map oP) xs/\yF b ks/\
 ps.Nodup/\0<ps.length/\ps.length<=16/\(∀p∈ps,Pr.In b p)/\Dg.Sz b.length M S/\M+92*ps.length<3900/\gB b∣S.2/\(∀p∈ps,S.1.getD p.toNat 0=0)/\
 ∀x T eF jE H',aA (c6 H wl) (c6 H' wl)->H' wl=some (.lst jE)->a8 (c6 H' wl) ((bN b eF).map oP) jE->yF b eF->Dg.E4 ps (bf (bN b eF)) (gT b) (gB b) S T->Dg.Sz b.length (M+92*ps.length) T->kJ C (c6 H' wl) x T->
  (∀p:Nat,(p:Int)∈ps->∀bB to,b[p]?=some (.cA bB to)->∀t∈to,sgn bB*T.1.getD t.toNat 0<=sgn bB*T.1.getD (uz b eF (p:Int)).toNat 0)->Q (.ref x) H'
abbrev Mu (ss:List Wq.Sh) (p:Nat):Pl->Option Int
 | .cA _ to=>some (((to.map (Wq.eM ss)).idxOf (Wq.eM ss (p:Int)):Nat):Int)
 | _=>none
abbrev Mv:Sp:=λvs H Q _=>∃(v:V) (x:Addr) (wl:Addr) (q:Pl) (n p:Nat) (ss:List Wq.Sh),vs=[v,.ref x,.ref wl]/\Rep H (mZ q) v/\xv n q/\ss.length=n/\p<n/\H x=some (.tup (Pr (Wq.eM ss (p:Int)).1 (Wq.eM ss (p:Int)).2))/\Rep H (.lst (ss.map a9)) (.ref wl)/\(∀bB to,q=.cA bB to->∃t∈to,Wq.eM ss (p:Int)=Wq.eM ss t)/\∀H',aA H H'->Q (dk (Mu ss p q)) H'
abbrev Ea (tp:Addr):Sp:=λvs H Q _=>∃(a:Addr) (b:List Pl) (rk:Int->Nat),vs=[.ref a]/\Rep H (pK b) (.ref a)/\i5 b rk/\H tp=some (.rj dsc)/\
 ∀t l1 l2 (S:Dg.Bk) (ks:List (Option Int)) H',aA H H'->H' t=some (.tup [.ref l1,.ref l2])->H l1=none->H l2=none->Rep H' (.lst ((cD S).map a9)) (.ref l1)->H' l2=some (.lst (ks.map dk))->Dg.Sz b.length (330+92*b.length) S->gB b∣S.2->(∀p:Nat,p<b.length->yG b p (Dg.val S))->(∀p q,b[p]?=some q->ks[p]?=some (Mu (cD S) p q))->ks.length=b.length->Q (.ref t) H'
structure wN (b:List Pl) (ps:List Int) (i:Nat) (S:Dg.Bk):Prop where
 sz:Dg.Sz b.length (330+92*Pr.off b ps i) S
 dv:gB b∣S.2
 eq:∀p:Nat,p<b.length->uw b ps (p:Int)<i->yG b p (Dg.val S)
 zr:∀p:Int,Pr.In b p->i<=uw b ps p->S.1.getD p.toNat 0=0
theorem wN.start {b:List Pl} {rk:Int->Nat} {ps:List Int} (B:i5 b rk):wN b ps 0 (aaz b.length 0,gB b):=by
 have h:=wt.start (ks:=[]) (ps:=ps) B;exact⟨h.sz,h.dv,λp _ h=>absurd h (ZF _),h.zr⟩
theorem JV {S:Dg.Bk} (h:0<S.2) {bB a c:Int} (k:sgn bB*S.1.getD a.toNat 0<=sgn bB*S.1.getD c.toNat 0):JT bB*Dg.val S a<=JT bB*Dg.val S c:=by
 unfold sgn at k;unfold JT
 by_cases e:bB=1
 ·rw[if_pos e] at k ⊢;have:=(yI h (a:=a) (b:=c)).mp ⋯;grind
 ·rw[if_neg e] at k ⊢;have:=(yI h (a:=c) (b:=a)).mp ⋯;grind
theorem wN.step {b:List Pl} {rk:Int->Nat} {ks:List (Option Int)} {ps:List Int} {i:Nat} {S S':Dg.Bk} {h:Int} (B:i5 b rk) (T:Pr.Told b ps) (ko:dq b ks) (I:wN b ps i S) (e:ps[i]?=some h)
  (st:Dg.E4 (Pr.cW b h) (bf (bN b ks)) (gT b) (gB b) S S') (sz:Dg.Sz b.length (330+92*Pr.off b ps i+92* (Pr.cW b h).length) S')
  (best:∀p:Nat,(p:Int)∈Pr.cW b h->∀bB to,b[p]?=some (.cA bB to)->∀t∈to,sgn bB*S'.1.getD t.toNat 0<=sgn bB*S'.1.getD (uz b ks (p:Int)).toNat 0):wN b ps (i+1) S':=by
 obtain⟨g0,_,_⟩:=B.bot;refine⟨?_,?_,λp hp hx=>?_,λp hp hx=>?_⟩
 ·rw[Pr.iY e,Nat.mul_add,<-Nat.add_assoc];exact sz
 ·obtain⟨d,_,e2,_⟩:=st;rw[e2];exact Int.dvd_trans I.dv (Int.dvd_mul_right _ _)
 ·have ip:Pr.In b (p:Int):=⟨⋯,⋯⟩
  obtain⟨q,k,e1,ek,po,ew⟩:=ko.at hp;obtain⟨w5,wg⟩:=B.wk ko ip;intro q' zq;rw[e1] at zq;cases zq
  by_cases c:uw b ps (p:Int)=i
  ·have m:=DS B T e ip c;have v:=st.eq I.sz.pos g0 I.dv m (by have:=w5.tt;lia);rw[YS,B.gV e1,ew] at v;cases q with
   | fin g=>rw[v];show Dg.vl g+0=Dg.vl g;grind
   | d6 g ws=>exact v
   | cA bB to=>
    obtain⟨k',_,_,_,KY,et,mt⟩:=ja ko e1;have v2:Dg.val S' (p:Int)=Dg.val S' (uz b ks (p:Int)):=by
     rw[ew,<-et] at KY;rw[v,KY];show Dg.vl (0,1)+ (((1:Int):Rat) / ((1:Int):Rat)*Dg.val S' (uz b ks (p:Int))+0)=_;have:Dg.vl (0,1)=0:=Dg.Bc;rw[this,Dg.Mj];grind
    refine⟨⟨_,mt,by rw[<-et];exact v2⟩,λt ht=>?_⟩;rw[v2];exact JV sz.pos (best p m bB to e1 t ht)
  ·have old:=I.eq p hp ⋯ q e1;have out:∀x:Int,Pr.In b x->uw b ps x<i->Dg.val S' x=Dg.val S x:=λx hx hi=>st.ne I.sz.pos hx.1 λz=>by
    have:=iA B T e z;lia
   have JW:∀t∈Lv.ik q,Dg.val S' t=Dg.val S t:=λt ht=>by
    have hg:t∈Bf.gC b (p:Int):=by unfold Bf.gC;rw[YS,e1];exact ht
    have:=oQ B T ip hg;exact out t this.2 ⋯
   have op:=out _ ip ⋯;cases q with
   | fin g=>rw[op];exact old
   | d6 g ws=>
    rw[op,show Dg.val S (p:Int)=_ from old];congr 1;exact Dg.j6 λx hx=>(JW _ (aau.mpr ⟨x,hx,rfl⟩)).symm
   | cA bB to=>
    obtain⟨⟨t1,m1,o1⟩,o2⟩:=old;refine⟨⟨t1,m1,by rw[op,JW t1 m1];exact o1⟩,λt ht=>?_⟩;rw[op,JW t ht];exact o2 t ht
 ·obtain⟨d,_,_,_,o,_⟩:=st;rw[o p hp.1 λz=>by have:=iA B T e z;lia,I.zr p hp ⋯,Int.zero_mul]
theorem lH {S:Dg.Bk} {n M:Nat} (Z:Dg.Sz n M S):∀x∈cD S,qy S.2 (2^M) x:=by
 intro x hx;obtain⟨t,ht,rfl⟩:=aau.mp hx;obtain⟨j,hj,rfl⟩:=Zi ht;have bt:=Z.bt j;rw[YN,YM hj,aaa] at bt;have S0:=Z.pos;obtain⟨d,e⟩:=Wq.tV (a:=S.1[j]) (s:=S.1[j]) S0 S0 rfl;have lw:=Wq.mG (a:=S.1[j]) S0;refine⟨lw,d,(Wq.jL lw.1 S0 d).mpr ?_⟩;rw[e];unfold Bt at bt;have p:(2:Int)^M=((2^M:Nat):Int):=by rw[Int.natCast_pow];rfl
 have m:((2^M:Nat):Int)*1<=((2^M:Nat):Int)*S.2:=Int.mul_le_mul_of_nonneg_left ⋯ ⋯;rw[p];generalize ((2:Nat)^M)=N at *;lia
theorem Hv {x y:Wq.Sh} (hx:0<x.2) (hy:0<y.2):x.1*y.2 >y.1*x.2↔Dg.vl y<Dg.vl x:=by
 have h1:(0:Rat)< (x.2:Rat):=Rat.intCast_pos.mpr hx;have h2:(0:Rat)< (y.2:Rat):=Rat.intCast_pos.mpr hy;have h3:=Rat.mul_pos h1 h2;have e1:((x.1*y.2:Int):Rat)=Dg.vl x* ((x.2:Rat)* (y.2:Rat)):=by
  rw[Rat.intCast_mul];unfold Dg.vl;have:=Rat.ne_of_gt h1;have:=Rat.ne_of_gt h2;grind
 have e2:((y.1*x.2:Int):Rat)=Dg.vl y* ((x.2:Rat)* (y.2:Rat)):=by
  rw[Rat.intCast_mul];unfold Dg.vl;have:=Rat.ne_of_gt h1;have:=Rat.ne_of_gt h2;grind
 show y.1*x.2<x.1*y.2↔_;rw[<-Rat.intCast_lt_intCast,e1,e2];constructor
 ·intro h;exact Rat.lt_of_mul_lt_mul_right h (Rat.le_of_lt h3)
 ·intro h;exact Rat.mul_lt_mul_of_pos_right h h3
theorem cR {S:Dg.Bk} {n M:Nat} (z:Dg.Sz n M S) {q:Int} (q0:0<=q) (q1:q< (n:Int)):(cD S)[q.toNat]?=some (Wq.eM (cD S) q)/\qy S.2 (2^M) (Wq.eM (cD S) q)/\Dg.vl (Wq.eM (cD S) q)=Dg.val S q:=by
 have l:(cD S).length=n:=by unfold cD;rw[YL,z.len]
 have a:=JO (ss:=cD S) (q:=q) q0 ⋯;exact⟨a,lH z _ (YQ a),zY z.pos _ (by rw[z.len];lia)⟩
abbrev uU (a b:Wq.Sh):Wq.Sh:=Wq.low (a.1*b.2 - b.1*a.2) (a.2*b.2)
theorem Eb {a b:Wq.Sh} (ha:0<a.2) (hb:0<b.2):Wq.Lw (uU a b):=Wq.mG (Zd ha hb)
theorem yK {x y:Wq.Sh} (hx:0<x.2) (hy:0<y.2):Dg.vl (uU x y)=Dg.vl x - Dg.vl y:=by
 unfold uU;rw[Dg.uh (Zd hx hy)];have h1:=Dg.lV hx;have h2:=Dg.lV hy;rw[Rat.intCast_sub,Rat.intCast_mul,Rat.intCast_mul,Rat.intCast_mul];unfold Dg.vl;generalize (x.1:Rat)=u at *;generalize (x.2:Rat)=v at *;generalize (y.1:Rat)=s at *;generalize (y.2:Rat)=t at *;grind
theorem qy.uU {Z M N:Int} {x y:Wq.Sh} (hx:qy Z N x) (hy:qy Z M y) (Z0:0<Z):qy Z (N+M) (uU x y):=by
 have b0:0<x.2*y.2:=Zd hx.1.1 hy.1.1;have e1:=Wq.gv hx.2.1;have e2:=Wq.gv hy.2.1;obtain⟨d,e⟩:=Wq.tV (a:=x.1*y.2 - y.1*x.2) (b:=x.2*y.2) (L:=Z) (s:=Wq.sc Z x - Wq.sc Z y) b0 Z0 (by
  calc (x.1*y.2 - y.1*x.2)*Z=(x.1*Z)*y.2 - (y.1*Z)*x.2:=by grind
   _=(Wq.sc Z x*x.2)*y.2 - (Wq.sc Z y*y.2)*x.2:=by rw[e1,e2]
   _=_:=by grind)
 have lw:=Eb hx.1.1 hy.1.1;refine⟨lw,d,(Wq.jL lw.1 Z0 d).mpr ?_⟩;have a1:=(Wq.jL hx.1.1 Z0 hx.2.1).mp hx.2.2;have a2:=(Wq.jL hy.1.1 Z0 hy.2.1).mp hy.2.2;unfold K43.uU;rw[e,Int.add_mul];lia
abbrev lstP (ss:List Wq.Sh) (ks:List (Option Int)) (b:List Pl) (p:Nat):Pl->Wq.Sh
 | .cA _ _=>uU (Wq.eM ss (p:Int)) (Wq.eM ss (uz b ks (p:Int)))
 | _=>(0,1)
theorem Hw {b:List Pl} {rk:Int->Nat} {ks:List (Option Int)} {st:Nat} {v w γ:Int->Rat} (B:i5 b rk) (ko:dq b ks) (hst:st<b.length) (hv:GA b ks st v) (we:∀p∈kK b.length,w p=γ p+Dg.dm (Dg.tt (bf (bN b ks) p)) w (bf (bN b ks) p)):Dg.lsum (λp=>v p*γ p) (kK b.length)=w (st:Int):=by
 have a:Dg.lsum (λp=>v p*w p) (kK b.length)=Dg.lsum (λp=>v p*γ p) (kK b.length)+Dg.lsum (λp=>v p*Dg.dm (Dg.tt (bf (bN b ks) p)) w (bf (bN b ks) p)) (kK b.length):=by
  rw[<-Dg.eD];refine Dg.fQ λp hp=>?_;rw[we p hp];grind
 have c:Dg.lsum (λp=>v p*w p) (kK b.length)=w (st:Int)+Dg.lsum (λq=>Dg.cK (bf (bN b ks)) v q (kK b.length)*w q) (kK b.length):=by
  have i:=mP (c:=1) (y:=(st:Int)) (w:=w) (yE b.length) (f9.mpr ⟨⋯,⋯⟩);have e:Dg.lsum (λp=>v p*w p) (kK b.length)=Dg.lsum (λq=>(if (st:Int)=q then 1 else 0)*w q+Dg.cK (bf (bN b ks)) v q (kK b.length)*w q) (kK b.length):=Dg.fQ λp hp=>by
   rw[hv p (f9.mp hp)];unfold ind
   by_cases z:p=(st:Int)
   ·rw[if_pos z,if_pos z.symm];grind
   ·rw[if_neg z,if_neg (Ne.symm z)];grind
  rw[e,Dg.eD,i];grind
 rw[Af (yE _) λp hp x hx=>by have:=(B.wk ko (f9.mp hp)).1.2 x hx;exact f9.mpr ⟨this.2.2.1,this.2.2.2⟩] at c;grind
theorem Ec {b:List Pl} {rk:Int->Nat} {ks:List (Option Int)} {st:Nat} {v:Int->Rat} {S S2:Dg.Bk} {M:Nat} (B:i5 b rk) (ko:dq b ks) (hst:st<b.length) (hv:GA b ks st v) (z:Dg.Sz b.length M S) (bq:∀p:Nat,p<b.length->yG b p (Dg.val S)) (eq:∀p:Nat,p<b.length->EqAt b ks p (Dg.val S2)):Dg.val S2 (st:Int)+Dg.lsum (λp=>v p*Dg.vl (lstP (cD S) ks b p.toNat (b.getD p.toNat (.fin (0,1))))) (kK b.length)=Dg.val S (st:Int):=by
 have g1:=Hw (γ:=λp=>Dg.vl (Wq.bI (b.getD p.toNat (.fin (0,1))))) B ko hst hv (w:=Dg.val S2) λp hp=>by
  have ip:=f9.mp hp;obtain⟨j,rfl⟩:=Y2 ip.1;have hj:j<b.length:=by have:=ip.2;lia
  obtain⟨q,k,e1,ek,po,ew⟩:=ko.at hj;rw[ew,eq j hj q k e1 ek,YS,YN,e1];rfl
 have g2:=Hw (γ:=λp=>Dg.vl (Wq.bI (b.getD p.toNat (.fin (0,1))))+Dg.vl (lstP (cD S) ks b p.toNat (b.getD p.toNat (.fin (0,1))))) B ko hst hv (w:=Dg.val S) λp hp=>by
  have ip:=f9.mp hp;obtain⟨j,rfl⟩:=Y2 ip.1;have hj:j<b.length:=by have:=ip.2;lia
  obtain⟨q,k,e1,ek,po,ew⟩:=ko.at hj;have a:=bq j hj q e1;have pq:=B.ok _ (YQ e1);have Bc:Dg.vl (0,1)=0:=Dg.Bc;rw[ew,YS,YN,e1,aaa];cases q with
  | fin g=>
   show Dg.val S (j:Int)=Dg.vl g+Dg.vl (0,1)+0;rw[Bc,show Dg.val S (j:Int)=Dg.vl g from a];grind
  | d6 g ws=>
   show Dg.val S (j:Int)=Dg.vl g+Dg.vl (0,1)+Dg.dm (Dg.tt ws) (Dg.val S) ws;rw[Bc,show Dg.val S (j:Int)=_ from a];grind
  | cA bB to=>
   obtain⟨k',_,_,_,KY,et,mt⟩:=ja ko e1;rw[<-ew,KY];show Dg.val S (j:Int)=Dg.vl (0,1)+Dg.vl (uU _ _)+ (((1:Int):Rat) / ((1:Int):Rat)*Dg.val S (to.getD k'.toNat 0)+0);obtain⟨_,h2,h3⟩:=cR z (q:=(j:Int)) ⋯ ⋯;obtain⟨_,h5,h6⟩:=cR z (q:=uz b ks (j:Int)) (by rw[et];exact(pq.2.2.2 _ mt).1) (by rw[et];exact(pq.2.2.2 _ mt).2);rw[Bc,yK h2.1.1 h5.1.1,h3,h6,et,Dg.Mj];grind
 have e:Dg.lsum (λp=>v p* (Dg.vl (Wq.bI (b.getD p.toNat (.fin (0,1))))+Dg.vl (lstP (cD S) ks b p.toNat (b.getD p.toNat (.fin (0,1)))))) (kK b.length)=Dg.lsum (λp=>v p*Dg.vl (Wq.bI (b.getD p.toNat (.fin (0,1))))) (kK b.length)+Dg.lsum (λp=>v p*Dg.vl (lstP (cD S) ks b p.toNat (b.getD p.toNat (.fin (0,1))))) (kK b.length):=by
  rw[<-Dg.eD];exact Dg.fQ λp hp=>by grind
 rw[e,g1] at g2;exact g2
abbrev Sb (ts:List Int) (t g:Int):Pl->Prop
 | .fin _=>t=g
 | .d6 _ ws=>(t - g)*Dg.tt ws=Dg.fY ts ws
 | .cA bB to=>(∃x∈to,ts.getD x.toNat 0=t)/\∀x∈to,if bB=1 then ts.getD x.toNat 0<=t else t<=ts.getD x.toNat 0
theorem Ed {L:Int} {x:Wq.Sh} (h:0<x.2) (d:x.2∣L):((Wq.sc L x:Int):Rat)=Dg.vl x* (L:Rat):=by
 have e:=Wq.gv d;have h1:=Dg.lV h;have c:((Wq.sc L x:Int):Rat)* (x.2:Rat)=(x.1:Rat)* (L:Rat):=by rw[<-Rat.intCast_mul,<-Rat.intCast_mul,e]
 unfold Dg.vl;generalize ((Wq.sc L x:Int):Rat)=s at *;generalize (x.1:Rat)=u at *;generalize (x.2:Rat)=v at *;generalize (L:Rat)=l at *;grind
theorem Ah {ts:List Int} {L d:Int} {v:Int->Rat} (d0:0<d):∀{ws:Dg.Wy},(∀x∈ws,((ts.getD x.2.toNat 0:Int):Rat)=v x.2* (L:Rat))->((Dg.fY ts ws:Int):Rat)=Dg.dm d v ws* (L:Rat)* (d:Rat)
 | [],_=>by show((0:Int):Rat)=0* (L:Rat)* (d:Rat);grind
 | x::ws,h=>by
  have ih:=Ah (ts:=ts) (L:=L) (v:=v) d0 (ws:=ws) λy hy=>h y (YU _ hy);have hx:=h x YT;show((x.1*ts.getD x.2.toNat 0+Dg.fY ts ws:Int):Rat)=((x.1:Rat) / (d:Rat)*v x.2+Dg.dm d v ws)* (L:Rat)* (d:Rat);rw[Rat.intCast_add,Rat.intCast_mul,ih,hx];have:=Dg.lV d0;generalize (x.1:Rat)=u at *;generalize (d:Rat)=e at *;generalize (L:Rat)=l at *;grind
theorem Mw {b:List Pl} {rk:Int->Nat} {S:Dg.Bk} {M p:Nat} {q:Pl} {L:Int} {gs:List Wq.Sh} (B:i5 b rk) (z:Dg.Sz b.length M S) (L0:0<L) (dv:∀x∈cD S,x.2∣L) (dg:(Wq.bI q).2∣L) (e:b[p]?=some q) (h:yG b p (Dg.val S)):Sb ((cD S++gs).map (Wq.sc L)) (Wq.sc L (Wq.eM (cD S) (p:Int))) (Wq.sc L (Wq.bI q)) q:=by
 have l:(cD S).length=b.length:=by unfold cD;rw[YL,z.len]
 have hp:=(aat.mp e).1;have pq:=B.ok _ (YQ e);have rg:=B.jH.good.qH _ (YQ e);have a:=h q e;have g0:=(lD pq).2.2.1;have at_:∀x:Int,0<=x->x< (b.length:Int)->((Wq.sc L (Wq.eM (cD S) x):Int):Rat)=Dg.val S x* (L:Rat):=λx x0 x1=>by
  obtain⟨h1,h2,h3⟩:=cR z x0 x1;rw[Ed h2.1.1 (dv _ (YQ h1)),h3]
 have tp:∀x:Int,0<=x->x< (b.length:Int)->((cD S++gs).map (Wq.sc L)).getD x.toNat 0=Wq.sc L (Wq.eM (cD S) x):=λx x0 x1=>by
  rw[YN,YO,Zm ⋯,(cR z x0 x1).1];rfl
 have ep:=at_ (p:Int) ⋯ ⋯;have lp:(0:Rat)< (L:Rat):=Rat.intCast_pos.mpr L0;cases q with
 | fin g=>
  show Wq.sc L _=Wq.sc L g;have eg:=Ed (L:=L) (x:=g) g0 dg;rw[<-Rat.intCast_inj,ep,eg,show Dg.val S (p:Int)=Dg.vl g from a]
 | d6 g ws=>
  have eg:=Ed (L:=L) (x:=g) g0 dg;have Yi:=pq.2.2.tt.1;have ei:=Ah (ts:=(cD S++gs).map (Wq.sc L)) (L:=L) (v:=Dg.val S) (d:=Dg.tt ws) ⋯ (ws:=ws) λx hx=>by
   have:=pq.2.2.2 x hx;rw[tp x.2 this.2.2.1 this.2.2.2,at_ x.2 this.2.2.1 this.2.2.2]
  show(Wq.sc L _ - Wq.sc L g)*Dg.tt ws=Dg.fY _ ws;rw[<-Rat.intCast_inj,ei,Rat.intCast_mul,Rat.intCast_sub,ep,eg,show Dg.val S (p:Int)=_ from a];grind
 | cA bB to=>
  obtain⟨⟨t,m,et⟩,u⟩:=a;refine⟨⟨t,m,?_⟩,λx hx=>?_⟩
  ·rw[tp t (rg t m).1 (rg t m).2,<-Rat.intCast_inj,at_ t (rg t m).1 (rg t m).2,ep,et]
  ·rw[tp x (rg x hx).1 (rg x hx).2];have k:=u x hx;have ex:=at_ x (rg x hx).1 (rg x hx).2;unfold JT at k
   by_cases c:bB=1
   ·rw[if_pos c] at k ⊢;rw[<-Rat.intCast_le_intCast,ex,ep];exact Rat.mul_le_mul_of_nonneg_right (by grind) (Rat.le_of_lt lp)
   ·rw[if_neg c] at k ⊢;rw[<-Rat.intCast_le_intCast,ex,ep];exact Rat.mul_le_mul_of_nonneg_right (by grind) (Rat.le_of_lt lp)
abbrev Ee:Sp:=λvs H Q _=>∃p q a b,vs=[.ref p,.ref q]/\H p=some (.tup (Pr a.1 a.2))/\H q=some (.tup (Pr b.1 b.2))/\Bt 4000 a.1/\Bt 2000 a.2/\0<a.2/\Bt 4000 b.1/\Bt 2000 b.2/\0<b.2/\
 ∀r H',aA H H'->H r=none->H' r=some (.tup (Pr (uU a b).1 (uU a b).2))->Q (.ref r) H'
abbrev Ai:Sp:=λvs H Q _=>∃(a c d:Addr) (b:List Pl) (rk:Int->Nat) (S:Dg.Bk) (ks:List (Option Int)),vs=[.ref a,.ref c,.ref d]/\Rep H (pK b) (.ref a)/\i5 b rk/\Rep H (.lst ((cD S).map a9)) (.ref c)/\Dg.Sz b.length 1900 S/\H d=some (.lst (ks.map dk))/\dq b ks/\
 ∀l (cs:List Wq.Sh) H',aA H H'->H l=none->Rep H' (.lst (cs.map a9)) (.ref l)->cs.length=b.length->(∀(p:Nat) q,b[p]?=some q->cs[p]?=some (lstP (cD S) ks b p q))->Q (.ref l) H'
abbrev Ef:Sp:=λvs H Q _=>∃(a:V) (q:Pl) (t g:Int) (l:Addr) (ts:List Int) (n:Nat),vs=[a,.int t,.int g,.ref l]/\Rep H (mZ q) a/\H l=some (.lst (ts.map V.int))/\xv n q/\n<=ts.length/\Bt 7000 t/\Bt 7000 g/\(∀x∈ts,Bt 7000 x)/\Sb ts t g q/\∀H',aA H H'->Q (.bl true) H'
abbrev Eg:Sp:=λvs H Q _=>∃(a c:Addr) (b:List Pl) (rk:Int->Nat) (S:Dg.Bk),vs=[.ref a,.ref c]/\Rep H (pK b) (.ref a)/\Rep H (.lst ((cD S).map a9)) (.ref c)/\i5 b rk/\Dg.Sz b.length 1900 S/\gB b∣S.2/\(∀p:Nat,p<b.length->yG b p (Dg.val S))/\
 ∀l H',aA H H'->H l=none->H' l=some (.lst [])->Q (.ref l) H'
abbrev Eh (K:aam):Sp:=λvs H Q _=>∃(a c d:Addr) (ns:List Int) (b:List Pl) (ks:List (Option Int)),vs=[.ref a,.ref c,.ref d]/\aS K H a (ns.map V.int)/\Rep H (pK b) (.ref c)/\0<b.length/\b.length<=16/\(∀q∈b,xv b.length q)/\H d=some (.lst (ks.map dk))/\dq b ks/\
 ∀l (eF:List (Option Int)) H',aA H H'->H l=none->H' l=some (.lst (eF.map dk))->dq b eF->Q (.ref l) H'
theorem getD_in {ts:List Int} {i:Int} (h0:0<=i) (h1:i< (ts.length:Nat)):ts.getD i.toNat 0∈ts:=by
 rw[YN,YM (show i.toNat<ts.length by lia)];exact YV _
section
variable {P : Program} {w : World} {K : aam} {mg : Str -> Option Value} {base : Heap}
variable {aD tc tp : Addr}
theorem Ei {H:Hp} {ws:List (Int×Int)} {xs:List V} (rl:a8 H (ws.map a9) xs) {i:Nat} {x:V} (ex:xs[i]?=some x):∃p t,ws[i]?=some p/\x=.ref t/\H t=some (.tup [.int p.1,.int p.2]):=by
 obtain⟨d,ed,rd⟩:=rl.get ex;rw[YO] at ed;obtain⟨p,ep,rfl⟩:=aas.mp ed;obtain⟨t,rfl,ht⟩:=bQ.mp rd;exact⟨p,t,ep,rfl,ht⟩
theorem wO:aN ["place"] ["place"] (au (top 11)):=⟨rfl,rfl,rfl,∅,rfl,∅,∅⟩
theorem Ej (T:Txt K mg aD tc):bK P w K mg base (bF P w) 1 "goals" ["place"] vV:=by
 refine T.F7.eG (λ_ _ _ _ _ _=>jG λ_=>rfl) λf fd F=>F.eJ wO (λvs H Q E h=>?_) (λcP A outer s H vs Q E hr h=>?_)
 ·obtain⟨_,_,rfl,_⟩:=h;rfl
 ·symm;obtain⟨v,q,rfl,rq,lq,kk⟩:=h;nofun;have nd:=wO.nd;refine⟨_,(af (bT (aR cF (aI aL (pv 0) ao (λ_ _=>rfl)) c9 (aT _)) (ax (aP (bS rfl (N:=["place"]) (so:=au (top 11)) (N':=["weight","to"]) (k:=2) (fr:=[]) rfl rfl ⟨rfl,∅,∅,∅,rfl,∅,∅⟩ (aZ (K:=K) (aI aL (pv 0) ao (λ_ _=>rfl))) (λ_ _ _ _ _=>(bV (K:=K) (n:=2) rfl (aQ (aG (i:=0) (show(["weight","to"]:List Str).Nodup by ac_rfl) rfl (.inl rfl)) (aQ (aG (i:=1) (show(["weight","to"]:List Str).Nodup by ac_rfl) rfl (.inl rfl)) bU)))) (λ_ _ _ _ _=>bH)
   (λ_ _ _ _ _=>(pv 1)))))
   bo)
  (af (bT (aR cF (aI aL (pv 0) ao (λ_ _=>rfl)) c9 (aT _)) (ax (aP (cG (bD (K:=K)) (by rfl) T.z_list rfl (aa (aI aL (pv 0) ao (λ_ _=>rfl)) ae))))
   bo)
  (ax (aP (cY ae))))),?_⟩
  refine(?_:let cn:TS:=_;let cu:TS:=_;let cv:TS:=_;tSeq cn (tSeq cu cv) _ _ _);intro cn cu cv;cases q with
  | fin w=>
   symm;obtain⟨p,r,rfl,hp,_⟩:=dM.mp rq;nofun;dsimp?[hp];rw[if_neg ∅,if_neg ∅];exact⟨Y1 _,λl nl=>kk _ _ (ar nl) nl ag⟩
  | d6 w ws=>
   symm;obtain⟨p,r,l,xs,rfl,hp,_,hl,rl⟩:=dE.mp rq;nofun;dsimp?[hp];refine⟨⟨_,aS.of hl⟩,?_⟩;have lx:=rl.length;rw[YL] at lx;have S:Src (uO K l) (aA H) ws.length (λi x H H3=>H3=H/\xs[i]?=some x):=by rw[lx];exact src_list (λH' s'=>aS.of (s' _ _ hl))
   refine ij ws (λp=>some p.2) S (λ_ _ _ _ h=>h.1) (by rw[sizeLine_eq];have:ws.length<=100:=(by simpa [Lv.ik] using lq);lia) ?_ ?_
   ·rintro i p x ep ⟨_,ex⟩;symm;obtain⟨p',t,Ff,rfl,ht⟩:=Ei rl ex;nofun;rw[ep] at Ff;cases Ff;refine⟨t,_,_,rfl,fV.of ht,λY N y1 _=>?_⟩;dsimp?[gm];exact y1 _ rfl
   ·intro D n1 n2;rw[dX];exact kk _ _ (ar n2) n2 ag
  | cA w to=>
   symm;obtain⟨p,l,rfl,hp,hl⟩:=cM.mp rq;nofun;dsimp?[hp];rw[if_neg ∅];exact⟨_,.inl (aS.of hl),λm nm=>kk _ _ (ar nm) nm ag⟩
theorem GD {fs:Lv.Fs} {q:Pl}:Lv.He fs q=match q with | .d6 _ _=>(Lv.ik q).any (λg=>(Lv.lk fs g).isSome) | _=>(Lv.ik q).all λg=>(Lv.lk fs g).isSome:=by
 cases q <;>rfl
theorem nh:aN ["place","found","levelled"] ["place","found"] (au (top 12)):=⟨rfl,rfl,rfl,∅,rfl,∅,∅⟩
theorem JX (T:Txt K mg aD tc):bK P w K mg base (bF P w) 2 "is_ready" ["place","found"] C0:=by
 have uD:bK P w K mg base (bF P w) 1 "goals" ["place"] vV:=Ej T;refine T.yk.eG (λ_ _ _ _ _ _=>eO λ_ _=>rfl) λf fd F=>F.eJ nh (λvs H Q E h=>?_) (λcP A outer s H vs Q E hr h=>?_)
 ·obtain⟨_,_,_,_,rfl,_⟩:=h;rfl
 ·symm;obtain⟨v,q,ff,fs,rfl,rq,hf,lq,gq,kk⟩:=h;nofun;have nd:=nh.nd;refine⟨_,(af (fA (i:=2) rfl nd rfl rfl (N:=["place","found","levelled"]) (so:=au (top 12)) (N':=["to","found"]) (k:=1) (fr:=[1]) rfl rfl ⟨rfl,∅,∅,∅,rfl,∅,∅⟩ (aZ (K:=K) (aF uD (hr.mono ∅) rfl aB.pass (aa (pv 0) ae))) (λ_ _ _ _ _=>(aG (i:=0) (show(["to","found"]:List Str).Nodup by ac_rfl) rfl (.inl rfl))) (λ_ _ _ _ _=>bH)
   (λ_ _ _ _ _=>(fZ Fk (aI aJ (pv 1) (pv 0) (λ_ _=>rfl)) fG (aT _))))
  (af (bT (aR cF (aI aL (pv 0) ao (λ_ _=>rfl)) c9 (aT _)) (ax (aP (aU (vq (K:=K)) (by rfl) T.z_any rfl (aa (pv 2) ae))))
   bo)
  (ax (aP (aU (vo (K:=K)) (by rfl) T.z_all rfl (aa (pv 2) ae)))))),?_⟩
  refine(?_:let cn:TS:=_;let cu:TS:=_;let cv:TS:=_;tSeq cn (tSeq cu cv) _ _ _);intro cn cu cv;symm;obtain⟨p,k,r,rfl,hp⟩:=Jf rq;nofun;dsimp?[vV];refine⟨q,rq,lq,λl H1 s1 nl hl=>⟨⟨_,aS.of hl⟩,?_⟩⟩;have Qb:=s1 _ _ hf;have Sd:=s1 _ _ hp;have S:Src (uO K l) (aA H1) (Lv.ik q).length (λi x H H3=>H3=H/\(List.map V.int (Lv.ik q))[i]?=some x):=by
   have:=src_list (K:=K) (a:=l) (xs:=List.map V.int (Lv.ik q)) (Ok:=aA H1) (λH' s'=>aS.of (s' _ _ hl));rw[YL] at this;exact this
  refine rR (Lv.ik q) (λg=>some (.bl (Lv.lk fs g).isSome)) S (λ_ _ _ _ h=>h.1) (by rw[sizeLine_eq];lia) ?_ ?_
  ·rintro i g x eg ⟨_,ex⟩ Y N y1 _;rw[YO,eg] at ex;cases ex;have:=gq g (YQ eg);dsimp?[gm,Qb,Hj this.1 this.2];have:=y1 _ rfl;rw[show(!decide (dk (Lv.lk fs g)=V.cJ))=(Lv.lk fs g).isSome from by cases Lv.lk fs g <;>simp [dk]];exact this
  ·intro D n1 n2;rw[dX];have Vf:List.map (λg=>V.bl (Lv.lk fs g).isSome) (Lv.ik q)=List.map V.bl ((Lv.ik q).map λg=>(Lv.lk fs g).isSome):=by rw[ZA];rfl
   rw[Vf];have sD:=ar (o:=.lst (List.map V.bl ((Lv.ik q).map λg=>(Lv.lk fs g).isSome))) n2;have fin:=kk _ (s1.trans sD);rw[GD] at fin;cases q with
   | fin w=>
    symm;obtain⟨p',r',e,kH,_⟩:=dM.mp rq;nofun;cases e;have lU:=sD _ _ (s1 _ _ kH);simp only[lU,at0];refine⟨_,rfl,_,rfl,rfl,?_⟩;rw[if_neg ∅];refine⟨_,aS.of ag,?_⟩;rw[List.all_map];exact fin
   | d6 w ws=>
    symm;obtain⟨p',r',l',xs,e,kH,_⟩:=dE.mp rq;nofun;cases e;have lU:=sD _ _ (s1 _ _ kH);simp only[lU,at0];refine⟨_,rfl,_,rfl,rfl,?_⟩;rw[if_pos ∅];refine⟨_,aS.of ag,?_⟩;rw[List.any_map];exact fin
   | cA w to=>
    symm;obtain⟨p',l',e,kH,_⟩:=cM.mp rq;nofun;cases e;have lU:=sD _ _ (s1 _ _ kH);simp only[lU,at0];refine⟨_,rfl,_,rfl,rfl,?_⟩;rw[if_neg ∅];refine⟨_,aS.of ag,?_⟩;rw[List.all_map];exact fin
theorem iE:aN ["board","found"] ["board","found"] (au (top 13)):=⟨rfl,rfl,rfl,∅,rfl,∅,∅⟩
theorem JY (T:Txt K mg aD tc):bK P w K mg base (bF P w) 3 "ready_places" ["board","found"] zC:=by
 have yL:bK P w K mg base (bF P w) 2 "is_ready" ["place","found"] C0:=JX T;refine T.pX.eG (λ_ _ _ _ _ _=>eO λ_ _=>rfl) λf fd F=>F.eJ iE (λvs H Q E h=>?_) (λcP A outer s H vs Q E hr h=>?_)
 ·obtain⟨_,_,_,_,rfl,_⟩:=h;rfl
 ·symm;obtain⟨a,b,ff,fs,rfl,rb,hf,lf,lb,gl,gb,kk⟩:=h;nofun;have nd:=iE.nd;refine⟨_,(ax (aP (bS rfl (N:=["board","found"]) (so:=au (top 13)) (N':=["number","place","found"]) (k:=2) (fr:=[1]) rfl rfl ⟨rfl,∅,∅,∅,rfl,∅,∅⟩ (cV (K:=K) rfl T.z_enumerate (aa (pv 0) ae)) (λ_ _ _ _ _=>(bV (K:=K) (n:=2) rfl (aQ (aG (i:=0) (show(["number","place","found"]:List Str).Nodup by ac_rfl) rfl (.inl rfl)) (aQ (aG (i:=1) (show(["number","place","found"]:List Str).Nodup by ac_rfl) rfl (.inl rfl)) bU)))) (λ_ _ _ _ _=>(kW (PW.pt (pw_and (aR xK (aI aJ (pv 2) (pv 0) (λ_ _=>rfl)) fG (aT _)) (pw_and1 (sU (aF yL (hr.mono ∅) rfl aB.pass (aa (pv 1) (aa (pv 2) ae)))))))))
   (λ_ _ _ _ _=>(pv 0))))),?_⟩
  symm;obtain⟨_,xs,e,ha,rl⟩:=aM.mp rb;nofun;cases e;have lx:=rl.length;rw[YL] at lx;dsimp?[];refine⟨⟨_,aS.of ha⟩,?_⟩;have S:Src (KO K a) (aA H) (List.range b.length).length (λi v H H3=>∃p x,H p=none/\v=.ref p/\xs[i]?=some x/\H3=upd H p (.tup [.int i,x])):=by rw[Y6,lx];exact fN (λH' s'=>aS.of (s' _ _ ha))
  refine mB (K:=K) (List.range b.length) (λi=>if Lv.iD b fs i=true then some (fX i) else none) S (λi u v _=>u=.int i/\xs[i]?=some v) ?_ (by rw[Y6,sizeLine_eq];lia) ?_ ?_
  ·intro i x H1 H2 hi s1 dO;symm;obtain⟨p,v,np,rfl,ev,rfl⟩:=dO;nofun;exact⟨ar np,p,_,_,rfl,fV.of ag,rfl,ev⟩
  ·rintro i j u v H3 ej s3 ⟨rfl,ev⟩ Y N y1 n1;have:j=i:=by
    obtain⟨h1,h2⟩:=aat.mp ej;rw[List.getElem_range] at h2;exact h2.symm
   subst this;symm;obtain⟨q,eq,rq⟩:=di rl ev;nofun;have hj:j<b.length:=(aat.mp eq).1;have E5:=s3 _ _ hf;have hq:=YQ eq;dsimp?[E5,Hj (show(0:Int)<=(j:Int) by lia) (show(j:Int)< (fs.length:Nat) by lia),C0];have er:Lv.iD b fs j=((Lv.lk fs (j:Int)).isNone && Lv.He fs q):=by
    unfold Lv.iD Lv.lk;rw[eq,YS]
   by_cases c:Lv.lk fs (j:Int)=none
   ·rw[if_pos (qa.mpr c)];refine⟨q,rq.mono s3,fs,rfl,gl q hq,λg hg=>?_,λH4 s4=>?_⟩
    ·rw[lf];exact gb.qH q hq g hg
    ·by_cases c2:Lv.He fs q=true
     ·rw[if_pos c2];exact y1 _ _ (by rw[if_pos (by rw[er,c,c2];rfl)];rfl) s4
     ·rw[if_neg c2];exact n1 _ (by rw[if_neg (by rw[er];simp [c2])]) s4
   ·rw[if_neg (λz=>c (qa.mp z))];have nr:¬Lv.iD b fs j=true:=by
     rw[er];cases h:Lv.lk fs (j:Int) with
     | none=>exact absurd h c
     | some u=>simp
    exact n1 _ (if_neg nr) (aA.refl _)
  ·intro H2 s2 D n1 n2;have e:List.filterMap (λi=>if Lv.iD b fs i=true then some (fX i) else none) (List.range b.length)=List.map fX (Lv.fresh b fs):=eL fX (Lv.iD b fs) _;rw[e];exact kk _ _ (s2.trans (ar n2)) (none_of s2 n2) ag
theorem sO:aN ["board","found","level","fresh","number"] ["board"] (au (top 14)):=⟨rfl,rfl,rfl,∅,rfl,∅,∅⟩
theorem JZ (T:Txt K mg aD tc):bK P w K mg base (bF P w) 4 "levels" ["board"] C3:=by
 have jd:bK P w K mg base (bF P w) 3 "ready_places" ["board","found"] zC:=JY T;refine T.CW.eG (λ_ _ _ _ _ _=>jG λ_=>rfl) λf fd F=>F.eJ sO (λvs H Q E h=>?_) (λcP A outer s H vs Q E hr h=>?_)
 ·obtain⟨_,_,rfl,_⟩:=h;rfl
 ·symm;obtain⟨a,b,rfl,rb,lb,gl,gb,kk⟩:=h;nofun;have nd:=sO.nd;refine⟨_,(af (fA (i:=1) rfl nd rfl rfl (N:=["board","found","level","fresh","number"]) (so:=au (top 14)) (N':=["place"]) (k:=1) (fr:=[]) rfl rfl ⟨rfl,∅,∅,∅,rfl,∅,∅⟩ (aZ (K:=K) (pv 0)) (λ_ _ _ _ _=>(aG (i:=0) (show(["place"]:List Str).Nodup by ac_rfl) rfl (.inl rfl))) (λ_ _ _ _ _=>bH)
   (λ_ _ _ _ _=>(fH (aR cF (aI aL (pv 0) ao (λ_ _=>rfl)) c9 (aT _)) ao fG)))
  (af (aE (i:=2) nd rfl (.inl rfl) ao)
  (af (aE (i:=3) nd rfl (.inl rfl) (aF jd (hr.mono ∅) rfl aB.pass (aa (pv 0) (aa (pv 1) ae))))
  (af (iP PassesOwn.never (aR mT (aU bu (by rfl) T.z_len Y9 (aa (pv 3) ae)) ao (aT _)) (af (cm PassesOwn.never rfl (aZ (K:=K) (pv 3)) (aG (i:=4) nd rfl (.inl rfl)) (ax (fc (pv 2) (fI (pv 1) (pv 4) set_list))))
  (af (aE (i:=2) nd rfl (.inl rfl) (aH bj (pv 2) ao))
  (ax (aE (i:=3) nd rfl (.inl rfl) (aF jd (hr.mono ∅) rfl aB.pass (aa (pv 0) (aa (pv 1) ae))))))))
  (ax (aP (pv 1))))))),?_⟩
  refine(?_:let cn:TS:=_;let cu:TS:=_;let cv:TS:=_;let dU:TS:=_;let iF:TS:=_;tSeq cn (tSeq cu (tSeq cv (tSeq dU iF))) _ _ _);intro cn cu cv dU iF;symm;obtain⟨_,xs,e,ha,rl⟩:=aM.mp rb;nofun;cases e;have lx:=rl.length;rw[YL] at lx;dsimp?[zC];refine⟨⟨_,aS.of ha⟩,?_⟩;have S:Src (uO K a) (aA H) b.length (λi x H H3=>H3=H/\xs[i]?=some x):=by rw[lx];exact src_list (λH' s'=>aS.of (s' _ _ ha))
  refine rR b (λq=>some (dk (Lv.L4 q))) S (λ_ _ _ _ h=>h.1) (by rw[sizeLine_eq];lia) ?_ ?_
  ·rintro i q x eq ⟨_,ex⟩ Y N y1 _;symm;obtain⟨q',Se,rq⟩:=di rl ex;nofun;rw[eq] at Se;cases Se;have:=y1 _ rfl;cases q with
   | fin w=>
    symm;obtain⟨p,r,rfl,hp,_⟩:=dM.mp rq;nofun;dsimp?[gm,hp];exact this
   | d6 w ws=>
    symm;obtain⟨p,r,l',ys,rfl,hp,_⟩:=dE.mp rq;nofun;dsimp?[gm,hp];rw[if_neg ∅];exact this
   | cA w to=>
    symm;obtain⟨p,l',rfl,hp,_⟩:=cM.mp rq;nofun;dsimp?[gm,hp];rw[if_neg ∅];exact this
  ·intro ff n1 n2;rw[dX,show List.map (λq=>dk (Lv.L4 q)) b=List.map dk (Lv.qI b) from by unfold Lv.qI;rw[ZA];rfl];have sD:=ar (o:=.lst (List.map dk (Lv.qI b))) n2;refine⟨b,rb.mono sD,Lv.qI b,ag,by simp [Lv.qI],lb,gl,gb,λfr H1 s1 nf LO=>?_⟩;have Vg:H1 ff=some (.lst (List.map dk (Lv.qI b))):=s1 _ _ ag;have sH:=sD.trans s1;refine vv (U4 H b a ff) (m:=b.length) ⟨_,_,_,_,rfl,Vg,LO,(λz=>by rw[z,ag] at nf;cases nf),sH,by simp [Lv.qI],by have:=Lv.pN (Lv.qI b);simpa [Lv.qI] using this,rfl⟩ ?_ ?_
   ·intro m σ H2 Mx;symm;obtain⟨fs,L,fr,z,rfl,hf,Ek,ne,s2,lf,nm,er⟩:=Mx;nofun;dsimp?[];refine⟨_,Ek,?_⟩
    by_cases c:Lv.fresh b fs=[]
    ·rw[c,if_neg (by simp)];have:Lv.run b m fs L=fs:=by
      cases m with
      | zero=>rfl
      | succ m=>
       show(if Lv.fresh b fs=[] then fs else _)=fs;rw[if_pos c]
     rw[this] at er;subst er;exact kk _ _ s2 n2 hf
    ·have l0:(0:Int)< ((List.map fX (Lv.fresh b fs)).length:Nat):=by
      rw[YL];have:=List.length_pos_iff.mpr c;lia
     rw[if_pos l0];have Yj:(Lv.fresh b fs).length<=1000:=by
      have:(Lv.fresh b fs).length<=b.length:=by
       have:=List.length_filter_le (Lv.iD b fs) (List.range b.length)
       rwa [Y6] at this
      lia
     refine⟨⟨_,aS.of Ek⟩,bJ (src_list (Ok:=λH'=>H' fr=some (.lst (List.map fX (Lv.fresh b fs)))) (λH' e=>aS.of e))
      (λj σ H'=>H' fr=some (.lst (List.map fX (Lv.fresh b fs)))/\H' ff=some (.lst (List.map dk (Lv.dj fs ((Lv.fresh b fs).take j) L)))/\aA H H'/\∃z,σ=[some (V.ref a),some (V.ref ff),some (V.int L),some (V.ref fr),z])
      ⟨Ek,by rw[List.take_zero];exact hf,s2,_,rfl⟩ (λ_ _ _ _ h=>h.1) ?_ ?_⟩
     ·intro j x σ H3 H4 hj dO d5;symm;obtain⟨h3,f3,s3,z,rfl⟩:=dO;obtain⟨rfl,hx⟩:=d5;rw[YO] at hx;obtain⟨i,ei,rfl⟩:=aas.mp hx;nofun;have hi:=(Lv.jv.mp (YQ ei)).1;dsimp?[gSub,rSetL,fX];have ix:yZ (List.map dk (Lv.dj fs ((Lv.fresh b fs).take j) L)).length (i:Int)=some i:=by
       unfold yZ;rw[if_pos ⋯,YL,Lv.oG,if_pos ⋯];congr 1
      refine⟨_,f3,i,ix,by rw[aK ne];exact h3,?_,aX s3 n2,_,rfl⟩;rw[ag,Zc,ei];show some (HO.lst ((List.map dk _).set i (dk (some L))))=_;rw[<-List.map_set];congr 3;unfold Lv.dj;rw[List.foldl_append];rfl
     ·intro σ H3 dW;symm;obtain⟨h3,f3,s3,z,rfl⟩:=dW;nofun;rw[YL,Zg (YR _)] at f3;dsimp?[zC];refine⟨b,rb.mono s3,_,f3,by rw[Lv.oG];exact lf,lb,gl,gb,λYk H4 s4 n4 h4=>?_⟩;have lt:=Lv.mC lf c L;cases m with
      | zero=>lia
      | succ m=>
       refine⟨m,Zl _,_,_,_,_,rfl,s4 _ _ f3,h4,(λz=>by rw[z,f3] at n4;cases n4),s3.trans s4,by rw[Lv.oG];exact lf,⋯,?_⟩;rw[<-er];show _=(if Lv.fresh b fs=[] then fs else _);rw[if_neg c]
   ·intro σ H1 Q1 Q2 hq hc;simp only[L2.start,Pr,tRev,tD1,tDPop1,tSl,tNoPart,tPart,rSlL,tDIn,tDNotIn,gSub,rSetL,tLst,tDNewK,tComp,L2.stC,tFor_eq,iList,iTup,iRng1,iRng2,iZip,iEnum,iDict,iStr,tChain,tSumV,tBM,tRaise,tDGet,tDGet2,tDGet1,sDPut,Option.join_some,List.getElem?_nil,tSeq,tRet,tRetN,tIfS,tTest,tB,tOp,tUn,tVar,tC,tCB,tCons,tNil,tCall,tTupS,tAsg,gName,gNil,gCons,tPar,tNext,tDrop,tAnd,tOr,tNot,tAndV,tOrV,tNotV,tIf,rI,rI0,rU,rIxTH,rIxLH,rEqT,rNeT,rInT,rEq,rNe,scal_ss,scal_ii,scal_bb,scal_si,scal_is,CPow,at0,at1,at2,Y8,ZE,YZ,ZW,Nat.reduceSub,Nat.reduceAdd,ZI,aai,List.reduceReplicate,ZD,List.nil_append,aab,aac,Z6,ZY,ZZ,aad,exists_eq_left',exists_eq_left,V.ref.injEq,V.int.injEq,V.bl.injEq,V.str.injEq,V.ty.injEq,HO.tup.injEq,HO.lst.injEq,List.cons.injEq,and_true,true_and,and_assoc,exists_and_left,decide_eq_true_eq,Bool.not_eq_true',decide_eq_false_iff_not,ite_true,ite_false,if_true,if_false,Int.reduceToNat,eq_self_iff_true] at hc ⊢;symm;obtain⟨v,e1,ys,e2,xs,e3,q⟩:=hc;nofun;exact⟨v,e1,ys,e2,xs,e3,hq _ _ q⟩
theorem Aj:aN ["board"] ["board"] (au (top 15)):=⟨rfl,rfl,rfl,∅,rfl,∅,∅⟩
theorem GF (T:Txt K mg aD tc):bK P w K mg base (bF P w) 5 "ring" ["board"] yr:=by
 have El:bK P w K mg base (bF P w) 4 "levels" ["board"] C3:=JZ T;refine T.Ju.eG (λ_ _ _ _ _ _=>jG λ_=>rfl) λf fd F=>F.eJ Aj (λvs H Q E h=>?_) (λcP A outer s H vs Q E hr h=>?_)
 ·obtain⟨_,_,rfl,_⟩:=h;rfl
 ·symm;obtain⟨a,b,rfl,rb,B,kk⟩:=h;nofun;have nd:=Aj.nd;refine⟨_,(ax (aP (bS rfl (N:=["board"]) (so:=au (top 15)) (N':=["number","level"]) (k:=2) (fr:=[]) rfl rfl ⟨rfl,∅,∅,∅,rfl,∅,∅⟩ (cV (K:=K) rfl T.z_enumerate (aa (aF El (hr.mono ∅) rfl aB.pass (aa (pv 0) ae)) ae)) (λ_ _ _ _ _=>(bV (K:=K) (n:=2) rfl (aQ (aG (i:=0) (show(["number","level"]:List Str).Nodup by ac_rfl) rfl (.inl rfl)) (aQ (aG (i:=1) (show(["number","level"]:List Str).Nodup by ac_rfl) rfl (.inl rfl)) bU)))) (λ_ _ _ _ _=>(kW (aR xK (pv 1) fG (aT _))))
   (λ_ _ _ _ _=>(pv 0))))),?_⟩
  dsimp?[C3];refine⟨b,rb,B.len,B.vj,B.good,λf1 H1 s1 nf hf=>⟨⟨_,aS.of hf⟩,?_⟩⟩;have ll:=Lv.FP B.good;have bl:=B.len;have S:Src (KO K f1) (aA H1) (List.range b.length).length (λi v H H3=>∃p x,H p=none/\v=.ref p/\(List.map dk (Lv.vA b))[i]?=some x/\H3=upd H p (.tup [.int i,x])):=by
   have:=fN (K:=K) (a:=f1) (xs:=List.map dk (Lv.vA b)) (Ok:=aA H1) (λH' s'=>aS.of (s' _ _ hf));rw[YL,ll] at this;rw[Y6];exact this
  refine mB (K:=K) (List.range b.length) (λi=>if (Lv.lk (Lv.vA b) (i:Int)).isNone=true then some (fX i) else none) S (λi u v _=>u=.int i/\v=dk (Lv.lk (Lv.vA b) (i:Int))) ?_ (by rw[Y6,sizeLine_eq];lia) ?_ ?_
  ·intro i x H2 H3 hi s2 dO;symm;obtain⟨p,v,np,rfl,ev,rfl⟩:=dO;nofun;refine⟨ar np,p,_,_,rfl,fV.of ag,rfl,?_⟩;rw[YO] at ev;symm;obtain⟨o,eo,rfl⟩:=aas.mp ev;nofun;unfold Lv.lk;rw[YS,YN,eo];rfl
  ·rintro i j u v H3 ej s3 ⟨rfl,rfl⟩ Y N y1 n1;have:j=i:=by
    obtain⟨h1,h2⟩:=aat.mp ej;rw[List.getElem_range] at h2;exact h2.symm
   subst this;dsimp?[];cases h:Lv.lk (Lv.vA b) (j:Int) with
   | none=>
    rw[if_pos (qa.mpr rfl)];exact y1 _ _ (by rw[h];rfl) (aA.refl _)
   | some x=>
    rw[if_neg (by simp [dk])];exact n1 _ (by rw[h];rfl) (aA.refl _)
  ·intro H2 s2 D n1 n2;have e:List.filterMap (fun(i:Nat)=>if (Lv.lk (Lv.vA b) (i:Int)).isNone=true then some (fX i) else none) (List.range b.length)=List.map fX (qb b):=eL fX (fun(i:Nat)=>(Lv.lk (Lv.vA b) (i:Int)).isNone) _;rw[e];exact kk _ _ (s1.trans (s2.trans (ar n2))) (none_of (s1.trans s2) n2) ag
theorem jM:aN ["board","start","steps","found","turn","here","way","to"] ["board","start"] (au (top 25)):=⟨rfl,rfl,rfl,∅,rfl,∅,∅⟩
theorem J0 (T:Txt K mg aD tc):bK P w K mg base (bF P w) 2 "steps_from" ["board","start"] zD:=by
 have uD:bK P w K mg base (bF P w) 1 "goals" ["place"] vV:=Ej T;refine T.tW.eG (λ_ _ _ _ _ _=>eO λ_ _=>rfl) λf fd F=>F.eJ jM (λvs H Q E h=>?_) (λcP A outer s H vs Q E hr h=>?_)
 ·obtain⟨_,_,_,rfl,_⟩:=h;rfl
 ·symm;obtain⟨a,b,st,rfl,rb,lb,vj,gb,h0,h1,kk⟩:=h;nofun;clear G_;have nd:=jM.nd;refine⟨_,(af (aE (i:=2) nd rfl (.inl rfl) (L5 (pv 1) fG))
  (af (aE (i:=3) nd rfl (.inl rfl) (cY (aa (pv 1) ae)))
  (af (aE (i:=4) nd rfl (.inl rfl) ao)
  (af (iP PassesOwn.never (aR o5 (pv 4) (aU bu (by rfl) T.z_len Y9 (aa (pv 3) ae)) (aT _)) (af (aE (i:=5) nd rfl (.inl rfl) (aI aJ (pv 3) (pv 4) (λ_ _=>rfl)))
  (af (cm PassesOwn.never rfl (cV (K:=K) rfl T.z_enumerate (aa (aF uD (hr.mono ∅) rfl aB.pass (aa (aI aJ (pv 0) (pv 5) (λ_ _=>rfl)) ae)) ae)) (bV (K:=K) (n:=2) rfl (aQ (aG (i:=6) nd rfl (.inl rfl)) (aQ (aG (i:=7) nd rfl (.inl rfl)) bU))) (ax (bT (xE (AM (rO hr) (pv 7) (pv 2))) (af (y9 (rO hr) (pv 2) (pv 7) (cy (aa (pv 5) (aa (pv 6) ae))) rfl)
  (ax (dC (fj Zq ZK ZL cH.r (pv 3) (aa (pv 7) ae)))))
   bo)))
  (ax (aE (i:=4) nd rfl (.inl rfl) (aH bj (pv 4) ao))))))
  (ax (aP (pv 2))))))),?_⟩
  refine(?_:let cn:TS:=_;let cu:TS:=_;let cv:TS:=_;let dU:TS:=_;let iF:TS:=_;tSeq cn (tSeq cu (tSeq cv (tSeq dU iF))) _ _ _);intro cn cu cv dU iF;symm;obtain⟨_,xs,e,ha,rl⟩:=aM.mp rb;nofun;clear G_;cases e;have lx:=rl.length;rw[YL] at lx;dsimp?[];intro d Qc;refine⟨Sum.inl st,rfl,ag,∅,λf1 nf=>?_⟩;have Vh:upd (upd H d (.dK [])) d (.dK [(Sum.inl st,V.cJ)])=upd H d (.dK [(Sum.inl st,V.cJ)]):=Fb;rw[Vh] at nf ⊢;have sd:=ar (o:=.dK [(Sum.inl st,V.cJ)]) Qc;have sf:=ar (o:=.lst [V.int st]) nf;have Sf:f1≠d:=λz=>by rw[z,ag] at nf;cases nf
  have Vi:H f1=none:=none_of sd nf;have D0:gN (upd (upd H d (.dK [(Sum.inl st,V.cJ)])) f1 (.lst [V.int st])) d [(st,none,[])]:=by
   refine⟨_,sf _ _ ag,rfl,λi e he=>?_⟩
   match i,he with
   | 0,he=>cases he;exact⟨_,rfl,rfl⟩
  have Qb:(upd (upd H d (.dK [(Sum.inl st,V.cJ)])) f1 (.lst [V.int st])) f1=some (.lst [V.int st]):=ag;have sH:=sd.trans sf;generalize upd (upd H d (.dK [(Sum.inl st,V.cJ)])) f1 (.lst [V.int st])=H1 at *;refine vv (U5 H b a d f1 st) (m:=b.length+1) ⟨0,[(st,none,[])],_,_,_,rfl,D0,Qb,sH,Bf.Ct h0 h1,rfl,⋯⟩ ?_ ?_
  ·intro m σ H2 Mx;symm;obtain⟨t,es,z5,z6,z7,rfl,dr,hf,s2,I,eb,lt⟩:=Mx;nofun;clear G_;have lk:(Bf.keys es).length=es.length:=by unfold Bf.keys;rw[YL]
   have fw:=I.toCore.vj;dsimp?[];refine⟨_,hf,?_⟩;rw[YL,lk]
   by_cases c:t<es.length
   ·rw[if_pos ⋯];have et:es[t]?=some es[t]:=YM c;generalize es[t]=e at et;have rg:=I.qH e (YQ et);have ee:((e.1.toNat:Nat):Int)=e.1:=Z3 rg.1;have hb:e.1.toNat<b.length:=⋯
    have Sg:b[e.1.toNat]?=some b[e.1.toNat]:=YM hb;symm;obtain⟨v,ev,rv⟩:=eK rl Sg;nofun;clear G_;have hq:=YV hb;generalize b[e.1.toNat]=q at *;have ga:Bf.gC b e.1=Lv.ik q:=by unfold Bf.gC;rw[Sg]
    have av:eV xs e.1=some v:=by rw[<-ee];exact bA ev
    have ak:eV (List.map V.int (Bf.keys es)) (t:Int)=some (V.int e.1):=j1 (by unfold Bf.keys;rw[YO,et];rfl);simp only[hf,ak,s2 _ _ ha,av,aad,HO.lst.injEq,exists_eq_left',V.int.injEq,V.ref.injEq,vV];refine⟨v,q,rfl,rv.mono s2,vj q hq,λl H3 s3 nl hl=>⟨⟨_,aS.of hl⟩,?_⟩⟩;have Vj:=dr.mono s3;have E5:=s3 _ _ hf;have Vk:l≠d:=λz=>by
     symm;obtain⟨kvs,hd,_⟩:=dr.ex;nofun;rw[z,hd] at nl;cases nl
    have My:l≠f1:=λz=>by rw[z,hf] at nl;cases nl
    refine bJ (fN (Ok:=λH'=>H' l=some (.lst (List.map V.int (Lv.ik q)))) (λH' e=>aS.of e)) (U6 H a d f1 l st t e (Lv.ik q) es) ⟨⟨_,_,rfl⟩,Vj,E5,hl,s2.trans s3⟩ (λ_ _ _ _ h=>h.hl) ?_ ?_
    ·intro i x σ H4 H5 hi dO d5;symm;obtain⟨⟨z6,z7,rfl⟩,Of,GG,Ak,s4⟩:=dO;obtain⟨p,y,np,rfl,ey,rfl⟩:=d5;rw[YL] at hi;rw[YO] at ey;obtain⟨g,eg,rfl⟩:=aas.mp ey;nofun;clear G_;have s5:=ar (o:=.tup [.int i,.int g]) np;refine⟨p,_,rfl,fV.of ag,rfl,?_⟩;have Qd:=Of.mono s5;have Si:=s5 _ _ GG;have Mz:=s5 _ _ Ak;have Sj:=s4.trans s5;generalize upd H4 p (.tup [.int i,.int g])=H5 at *;have M:=Bf.pO gb ((Lv.ik q).take i) 0 es (Bf.Cv I et) λj x hx=>by
      rw[ZI,ga];have hj:=(aat.mp hx).1;rw[Zf] at hj
      rwa [aal ⋯] at hx
     have tk:(Lv.ik q).take (i+1)=(Lv.ik q).take i++ [g]:=by rw[Zc,eg];rfl
     have Vl:((Lv.ik q).take i).length=i:=by rw[Zf];lia
     have nx:=rZ (here:=e.1) (path:=e.2.2) ((Lv.ik q).take i) 0 es g;rw[<-tk,Vl,ZI] at nx;have Vm:=M.toCore.vj;generalize Bf.il e.1 e.2.2 0 ((Lv.ik q).take i) es=ei at *;symm;obtain⟨o,go,ho⟩:=Qd.has M.nd g;nofun;dsimp?[];refine⟨o,go,?_⟩;rw[ho]
     by_cases cg:g∈Bf.keys ei
     ·rw[if_neg (by simpa using cg)];rw[if_pos cg] at nx;exact⟨⟨_,_,rfl⟩,by rw[nx];exact Qd,by rw[nx];exact Si,Mz,Sj⟩
     ·rw[if_pos (by simpa using cg)];rw[if_neg cg] at nx;refine⟨∅,λp6 H6 s6 Yl e6=>?_⟩;obtain⟨o7,pt,Vn⟩:=(Qd.mono s6).put (par:=some (e.1,i)) (path:=e.2.2++ [i]) cg ⟨p6,rfl,e6⟩ (by rw[sizeLine_eq];lia);have MA:=s6 _ _ Si;have GH:=s6 _ _ Mz;have Qe:upd H6 d o7 f1=some (.lst (List.map V.int (Bf.keys ei))):=by rw[aK Sf];exact MA
      have Ym:(Bf.keys ei).length=ei.length:=by unfold Bf.keys;rw[YL]
      refine⟨_,pt,.inl ⟨rfl,_,aS.of Qe⟩,f1,_,_,rfl,rfl,Qe,by rw[YL,sizeLine_eq];lia,?_⟩;have sF:aA H (upd (upd H6 d o7) f1 (.lst (List.map V.int (Bf.keys ei)++ [V.int g]))):=aX (aX (Sj.trans s6) Qc) Vi;refine⟨⟨_,_,rfl⟩,?_,?_,?_,sF⟩
      ·rw[nx];symm;obtain⟨kvs,k1,k2,k3⟩:=Vn.ex;nofun;refine⟨kvs,by rw[aK (Ne.symm Sf)];exact k1,k2,λj x hx=>?_⟩;symm;obtain⟨v,v1,v2⟩:=k3 j x hx;nofun;exact⟨v,v1,v2.upd λys z=>by rw[Qe] at z;cases z⟩
      ·rw[nx,ag];unfold Bf.keys;rw[Y5,Y5];rfl
      ·rw[aK My,aK Vk];exact GH
    ·intro σ H4 dW;symm;obtain⟨⟨z6,z7,rfl⟩,Of,GG,Ak,s4⟩:=dW;nofun;rw[YL,Zg (YR _),<-ga] at Of GG;dsimp?[];cases m with
     | zero=>lia
     | succ m=>
      refine⟨m,Zl _,⟨t+1,_,_,_,_,rfl,Of,GG,s4,Bf.turn gb I et,?_,⋯⟩⟩;rw[<-eb];show _=(match es[t]? with | none=>es | some e=>Bf.E2 b m (t+1) (Bf.il e.1 e.2.2 0 (Bf.gC b e.1) es));rw[et]
   ·rw[if_neg ⋯];have:Bf.E2 b m t es=es:=by
     cases m with
     | zero=>rfl
     | succ m=>
      show(match es[t]? with | none=>es | some e=>Bf.E2 b m (t+1) (Bf.il e.1 e.2.2 0 (Bf.gC b e.1) es))=es;rw[Y0 ⋯]
    rw[this] at eb;subst eb;exact kk _ _ s2 Qc dr
  ·intro σ H1 Q1 Q2 hq hc;simp only[L2.start,Pr,tRev,tD1,tDPop1,tSl,tNoPart,tPart,rSlL,tDIn,tDNotIn,gSub,rSetL,tLst,tDNewK,tComp,L2.stC,tFor_eq,iList,iTup,iRng1,iRng2,iZip,iEnum,iDict,iStr,tChain,tSumV,tBM,tRaise,tDGet,tDGet2,tDGet1,sDPut,Option.join_some,List.getElem?_nil,tSeq,tRet,tRetN,tIfS,tTest,tB,tOp,tUn,tVar,tC,tCB,tCons,tNil,tCall,tTupS,tAsg,gName,gNil,gCons,tPar,tNext,tDrop,tAnd,tOr,tNot,tAndV,tOrV,tNotV,tIf,rI,rI0,rU,rIxTH,rIxLH,rEqT,rNeT,rInT,rEq,rNe,scal_ss,scal_ii,scal_bb,scal_si,scal_is,CPow,at0,at1,at2,Y8,ZE,YZ,ZW,Nat.reduceSub,Nat.reduceAdd,ZI,aai,List.reduceReplicate,ZD,List.nil_append,aab,aac,Z6,ZY,ZZ,aad,exists_eq_left',exists_eq_left,V.ref.injEq,V.int.injEq,V.bl.injEq,V.str.injEq,V.ty.injEq,HO.tup.injEq,HO.lst.injEq,List.cons.injEq,and_true,true_and,and_assoc,exists_and_left,decide_eq_true_eq,Bool.not_eq_true',decide_eq_false_iff_not,ite_true,ite_false,if_true,if_false,Int.reduceToNat,eq_self_iff_true] at hc ⊢;symm;obtain⟨v,e1,v1,e2,p,e3,x,e4,i,e5,q⟩:=hc;nofun;exact⟨v,e1,v1,e2,p,e3,x,e4,i,e5,hq _ _ q⟩
theorem Am (p:Int->Bool):∀l:List Int,l.filterMap (λo=>if p o=true then some o else none)=l.filter p
 | []=>rfl
 | x::l=>by
  rw[List.filterMap_cons,List.filter_cons,Am p l]
  by_cases c:p x=true
  ·simp [c]
  ·simp [c]
abbrev qz (H:Hp) (x:Addr):Int:=match H x with
 | some (.lst (.int j::_))=>j
 | _=>0
abbrev Em (tp:Addr):Sp:=λvs H Q _=>∃a b,vs=[.ref a]/\Rep H (pK b) (.ref a)/\b.length<=63/\(∀q∈b,(Lv.ik q).length<=100)/\Lv.Good b/\H tp=some (.rj dsc)/\
 ∀l ps as H',Pr.Told b ps->aA H H'->H l=none->H' l=some (.lst (List.map V.ref as))->Al (λp v=>∃x,v=.ref x/\H' x=some (.lst (List.map V.int (Pr.cW b p)))/\H x=none) ps (as.map V.ref)->Q (.ref l) H'
theorem wQ:aN ["board","reach","found","place","part"] ["board"] (au (top 26)):=⟨rfl,rfl,rfl,∅,rfl,∅,∅⟩
theorem J1 (T:Txt K mg aD tc) (LB:nM base mg tc tp):bK P w K mg base (bF P w) 3 "parts" ["board"] (Em tp):=by
 have uE:bK P w K mg base (bF P w) 2 "steps_from" ["board","start"] zD:=J0 T;refine T.F9.PY T.Gc (λ_ _ _ _ _ _=>jG λ_=>rfl) λf fd F hc=>F.UY hc wQ (λvs H Q E h=>?_) (λA outer s H vs Q E hr h=>?_)
 ·obtain⟨_,_,rfl,_⟩:=h;rfl
 ·symm;obtain⟨a,b,rfl,rb,lb,vj,gb,kI,kk⟩:=h;nofun;clear G_;have nd:=wQ.nd;refine⟨_,(af (aE (i:=1) nd rfl (.inr rfl) (bS rfl (N:=["board","reach","found","place","part"]) (so:=au (top 26)) (N':=["start","board"]) (k:=1) (fr:=[0]) rfl rfl ⟨rfl,∅,∅,∅,rfl,∅,∅⟩ (du rfl T.z_range (aa (aU bu (by rfl) T.z_len Y9 (aa (pv 0) ae)) ae)) (λ_ _ _ _ _=>(aG (i:=0) (show(["start","board"]:List Str).Nodup by ac_rfl) rfl (.inl rfl))) (λ_ _ _ _ _=>bH)
   (λ_ _ _ _ _=>(aF uE (hr.mono ∅) rfl aB.pass (aa (pv 1) (aa (pv 0) ae))))))
  (af (aE (i:=2) nd rfl (.inl rfl) (cY ae))
  (af (cm PassesOwn.never rfl (du rfl T.z_range (aa (aU bu (by rfl) T.z_len Y9 (aa (pv 0) ae)) ae)) (aG (i:=3) nd rfl (.inr rfl)) (af (fA (i:=4) rfl nd rfl rfl (N:=["board","reach","found","place","part"]) (so:=au (top 26)) (N':=["other","reach","place"]) (k:=1) (fr:=[1,3]) rfl rfl ⟨rfl,∅,∅,∅,rfl,∅,∅⟩ (aZ (K:=K) (aU pI (by rfl) T.z_sorted rfl (aa (aI aJ (pv 1) (pv 3) (λ_ _=>rfl)) ae))) (λ_ _ _ _ _=>(aG (i:=0) (show(["other","reach","place"]:List Str).Nodup by ac_rfl) rfl (.inl rfl))) (λ_ _ _ _ _=>(kW (xE (B7 (rO hr) (pv 2) (aI aJ (pv 1) (pv 0) (λ_ _=>rfl))))))
   (λ_ _ _ _ _=>(pv 0)))
  (ax (bT (aR cF (aI aJ (pv 4) ao (λ_ _=>rfl)) (pv 3) (aT _)) (ax (dC (fj Zq ZK ZL cH.r (pv 2) (aa (pv 4) ae))))
   bo))))
  (ax (aP (CT (i:=1) (dsc:=dsc) (t0:=0) rfl T.z_sorted T.z_len LB rfl hr rfl (pv 2))))))),?_⟩
  refine(?_:let cn:TS:=_;let cu:TS:=_;let cv:TS:=_;let dU:TS:=_;tSeq cn (tSeq cu (tSeq cv dU)) _ _ _);intro cn cu cv dU;have sl:=sizeLine_eq;symm;obtain⟨_,xs,e,ha,rl⟩:=aM.mp rb;nofun;clear G_;cases e;have lx:=rl.length;rw[YL] at lx;subst_vars;refine ba (λN=>∀H1,aA H H1->∀r ys,H1 r=some (.lst ys)->ys.length=b.length->(∀(i:Nat) y,ys[i]?=some y->∃d,y=.ref d/\gN H1 d (Bf.steps b (i:Int)))->N [~~~a,~~~r,none,none,none] H1) ?_ (λN hN=>?_)
  case refine_2=>
   dsimp?[zD];refine⟨_,ha,⋯,⋯,?_⟩;refine comp_map src_range (λ_ _ _ _ h=>by rw[h.1];exact aA.refl _) ⋯ (λi y H4=>∃d,y=.ref d/\gN H4 d (Bf.steps b (i:Int))) (λi y H4 H5 s5 ⟨d,e,h⟩=>⟨d,e,h.mono s5⟩) ?_ ?_
   ·rintro i x w0 H4 H5 Q2 hi s4 ⟨rfl,rfl⟩ kq;dsimp?[zD,ZR];exact⟨b,rb.mono s4,⋯,vj,gb,⋯,⋯,λd H6 s6 n6 dr=>kq _ _ s6 ⟨d,rfl,dr⟩⟩
   ·intro ys H5 s5 ly hy D n1 n2;refine hN _ (s5.trans (ar n2)) D ys ag ⋯ (λi y e=>?_);symm;obtain⟨d,e1,h1⟩:=hy i y e;nofun;exact⟨d,e1,h1.mono (ar n2)⟩
  rintro H1 s1 r ys MB ly hy;subst_vars;refine ba (λN=>∀H2 fa,H1 fa=none->aA H1 H2->H2 fa=some (.lst [])->N [~~~a,~~~r,~~~fa,none,none] H2) ?_ (λN hN=>?_)
  case refine_2=>
   dsimp?[];exact⟨Y1 _,λfa nf=>hN _ fa nf (ar nf) ag⟩
  rintro H2 fa nf s2 MC;have J2:∀i:Nat,i<b.length->∃d kvs,ys[i]?=some (.ref d)/\gN H1 d (Bf.steps b (i:Int))/\H1 d=some (.dK kvs)/\iV kvs=Pr.kb b (i:Int)/\(∀p∈kvs,∃k,p.1=Sum.inl k)/\kvs.length=(Pr.kb b (i:Int)).length:=λi hi=>by
   symm;obtain⟨d,e,dr⟩:=hy i _ (YM ⋯);obtain⟨kvs,hd,hk,_⟩:=dr.ex;nofun;refine⟨d,kvs,by rw[YM ⋯,e],dr,hd,?_,λp hp=>?_,?_⟩
   ·have:iV kvs=(kvs.map (·.1)).map (λk:Key=>match k with | .inl i=>i | .inr _=>(0:Int)):=by
     unfold iV;rw[ZA];rfl
    rw[this,hk,ZA];unfold Pr.kb;simp [Function.comp_def]
   ·have:p.1∈(Bf.keys (Bf.steps b (i:Int))).map Sum.inl:=by rw[<-hk];exact aau.mpr ⟨p,hp,rfl⟩
    symm;obtain⟨k,_,e⟩:=aau.mp this;nofun;exact⟨k,e.symm⟩
   ·have:=congrArg List.length hk;rw[YL,YL] at this;exact this
  subst_vars;refine ba (λN=>∀H3,aA H1 H3->∀as,H3 fa=some (.lst (List.map V.ref as))->Al (λp v=>∃x,v=.ref x/\H3 x=some (.lst (List.map V.int (Pr.cW b p)))/\H1 x=none) (Pr.nN b b.length) (as.map V.ref)->∀z3 z4,N [~~~a,~~~r,~~~fa,z3,z4] H3) ?_ (λN hN=>?_)
  case refine_2=>
   dsimp?[];refine⟨_,s2 _ _ (s1 _ _ ha),⋯,⋯,?_⟩;refine bJ (src_range (Ok:=λ_=>True)) (λi σ H3=>aA H1 H3/\∃as,H3 fa=some (.lst (List.map V.ref as))/\Al (λp v=>∃x,v=.ref x/\H3 x=some (.lst (List.map V.int (Pr.cW b p)))/\H1 x=none/\x≠fa) (Pr.nN b i) (as.map V.ref)/\∃z3 z4,σ=[~~~a,~~~r,~~~fa,z3,z4]) ⟨s2,[],MC,trivial,_,_,rfl⟩ (λ_ _ _ _ _=>trivial) ?_ ?_
   ·intro i x σ H3 H4 hi dO d5;symm;obtain⟨s3,as,E5,al,z3,z4,rfl⟩:=dO;obtain⟨rfl,rfl⟩:=d5;nofun;clear G_;dsimp?[ZR];have Sk:i<b.length:=⋯
    have uR:Pr.In b (i:Int):=⟨⋯,⋯⟩
    symm;obtain⟨d,kvs,ed,dr,hd,ek,ka,kl⟩:=J2 i Sk;nofun;clear G_;have Yn:=Pr.C8 gb uR;refine⟨ys,s3 _ _ MB,.ref d,bA ed,d,rfl,kvs,.inl (s3 _ _ hd),ka,⋯,λl nl=>?_⟩;rw[ek];have sL:=ar (o:=.lst (List.map V.int (Nm.oE (Pr.kb b (i:Int))))) nl;have Mz:(upd H4 l (.lst (List.map V.int (Nm.oE (Pr.kb b (i:Int)))))) l=some (.lst (List.map V.int (Nm.oE (Pr.kb b (i:Int))))):=ag;generalize upd H4 l (.lst (List.map V.int (Nm.oE (Pr.kb b (i:Int)))))=H5 at *;refine⟨⟨_,aS.of Mz⟩,?_⟩;have S:Src (uO K l) (aA H5) (Nm.oE (Pr.kb b (i:Int))).length (λj x H H3=>H3=H/\(List.map V.int (Nm.oE (Pr.kb b (i:Int))))[j]?=some x):=by
     have:=src_list (K:=K) (a:=l) (xs:=List.map V.int (Nm.oE (Pr.kb b (i:Int)))) (Ok:=aA H5) (λH' s'=>aS.of (s' _ _ Mz));rw[YL] at this;exact this
    refine dz (Nm.oE (Pr.kb b (i:Int))) (λo=>if decide ((i:Int)∈Pr.kb b o)=true then some o else none) S (λ_ _ _ _ h=>h.1) (by rw[Nm.pH];lia) ?_ ?_
    ·rintro j o x eo ⟨_,ex⟩ Y N1 y1 n1;rw[YO,eo] at ex;cases ex;have ho:=Nm.zj.mp (YQ eo);obtain⟨Sl,Vo⟩:=Pr.qd gb uR ho;obtain⟨o,rfl⟩:=Y2 Sl;symm;obtain⟨d2,Vp,PU,Vq,hd2,Yo,Yp,Yq⟩:=J2 o ⋯;obtain⟨oo,g1,g2⟩:=(Vq.mono (s3.trans sL)).has (Pr.qc gb ⟨Sl,Vo⟩) (i:Int);nofun;dsimp?[s3.trans sL _ _ MB,show eV ys (o:Int)=some (.ref d2) from bA PU];refine⟨oo,g1,?_⟩;rw[g2];exact ib (λc=>y1 _ (if_pos c)) (λc=>n1 (if_neg c))
    ·intro D n1 n2;rw[Am];have ep:(Nm.oE (Pr.kb b (i:Int))).filter (λo=>decide ((i:Int)∈Pr.kb b o))=Pr.cW b (i:Int):=rfl;rw[ep];have ne:=Pr.iw gb uR;have sD:=ar (o:=.lst (List.map V.int (Pr.cW b (i:Int)))) n2;have hD:(upd H5 D (.lst (List.map V.int (Pr.cW b (i:Int))))) D=some (.lst (List.map V.int (Pr.cW b (i:Int)))):=ag;generalize upd H5 D (.lst (List.map V.int (Pr.cW b (i:Int))))=H6 at *;have MD:aA H1 H6:=s3.trans (sL.trans sD);have MA:H6 fa=some (.lst (List.map V.ref as)):=sD _ _ (sL _ _ E5);have nD:H1 D=none:=none_of (s3.trans sL) n2;have Df:D≠fa:=λz=>by rw[z,sL _ _ E5] at n2;cases n2
     have Sm:Al (λp v=>∃x,v=V.ref x/\H6 x=some (.lst (List.map V.int (Pr.cW b p)))/\H1 x=none/\x≠fa) (Pr.nN b i) (as.map V.ref):=al.imp λp v ⟨x,e,h1,h2,h3⟩=>⟨x,e,sD _ _ (sL _ _ h1),h2,h3⟩
     have yM:=al.length;rw[YL] at yM;have vG:=Pr.zG (b:=b) (n:=i);cases ec:Pr.cW b (i:Int) with
     | nil=>exact absurd ec ne
     | cons x0 rest=>
      have ME:Pr.rep b (i:Int)=x0:=by unfold Pr.rep;rw[ec];rfl
      refine⟨_,hD,.int x0,by rw[ec,Y8];exact at0,rfl,?_⟩
      by_cases c:x0=(i:Int)
      ·rw[if_pos (by rw[c])];refine⟨.inl ⟨rfl,_,aS.of MA⟩,fa,List.map V.ref as,.ref D,rfl,rfl,MA,by rw[YL];lia,aX MD nf,as++ [D],by rw[ag,Y5];rfl,?_,_,rfl⟩;rw[Pr.vW,if_pos (by rw[ME,c]),Y5];exact(Sm.imp λp v ⟨x,e,h1,h2,h3⟩=>⟨x,e,by rw[aK h3];exact h1,h2,h3⟩).append (.one ⟨D,rfl,by rw[aK Df];exact hD,nD,Df⟩)
      ·rw[if_neg (by intro z;exact c (by injection z))];refine⟨MD,as,MA,?_,_,rfl⟩;rw[Pr.vW,if_neg (by rw[ME];exact c)];exact Sm
   ·intro σ H3 dW;symm;obtain⟨s3,as,E5,al,z3,z4,rfl⟩:=dW;nofun;rw[YS,<-lx] at al;exact hN _ s3 as E5 (al.imp λp v ⟨x,e,h1,h2,_⟩=>⟨x,e,h1,h2⟩) _ _
  rintro H3 s3 as E5 al z3 z4;dsimp?[CS];have each:∀x∈as,∃p,p∈Pr.nN b b.length/\H3 x=some (.lst (List.map V.int (Pr.cW b p)))/\H1 x=none/\qz H3 x=p/\Pr.In b p:=λx hx=>by
   obtain⟨i,ei⟩:=Ze hx;obtain⟨p,ep,x',e,h1,h2⟩:=al.get (show(as.map V.ref)[i]?=some (.ref x) by rw[YO,ei];rfl);cases e;have mp:=YQ ep;obtain⟨uR,er⟩:=Pr.jy.mp mp;refine⟨p,mp,h1,h2,?_,uR⟩;unfold qz;rw[h1];unfold Pr.rep at er;cases ec:Pr.cW b p with
   | nil=>exact absurd ec (Pr.iw gb uR)
   | cons x0 r0=>rw[ec] at er;exact er
  have emap:as.map (qz H3)=Pr.nN b b.length:=by
   apply Zy;intro i;rw[YO];cases ei:as[i]? with
   | none=>
    have l1:=al.length;rw[YL] at l1;have l2:=List.getElem?_eq_none_iff.mp ei;rw[Y0 ⋯];rfl
   | some x=>
    obtain⟨p,ep,x',e,h1,h2⟩:=al.get (show(as.map V.ref)[i]?=some (.ref x) by rw[YO,ei];rfl);cases e;obtain⟨uR,er⟩:=Pr.jy.mp (YQ ep);rw[ep];show some (qz H3 x)=some p;unfold qz;rw[h1];unfold Pr.rep at er;cases ec:Pr.cW b p with
    | nil=>exact absurd ec (Pr.iw gb uR)
    | cons x0 r0=>rw[ec] at er;exact congrArg some er
  have yM:=al.length;rw[YL] at yM;have vG:=Pr.zG (b:=b) (n:=b.length);refine⟨as,E5,⋯,λx=>((Pr.kb b (qz H3 x)).length:Int),ys,s3 _ _ MB,s3 _ _ (s1 _ _ kI),λx hx=>?_,λp cs H4 s4 np hp pm pw=>?_⟩
  ·symm;obtain⟨p,mp,h1,h2,h3,uR⟩:=each x hx;obtain⟨i,rfl⟩:=Y2 uR.1;have i1:=uR.2;obtain⟨d,kvs,ed,dr,hd,ek,ka,kl⟩:=J2 i ⋯;nofun;show ∃j xs,H3 x=some (HO.lst (V.int j::xs))/\0<=j/\j<1000000/\∃x_1,ys[j.toNat]?=some (V.ref x_1)/\∃x_2,H3 x_1=some (HO.dK x_2)/\((Pr.kb b (qz H3 x)).length:Int)=((x_2.length:Nat):Int);rw[h3];have er:=(Pr.jy.mp mp).2;unfold Pr.rep at er;cases ec:Pr.cW b (i:Int) with
   | nil=>exact absurd ec (Pr.iw gb uR)
   | cons x0 r0=>
    rw[ec] at er h1;have er:x0=(i:Int):=er;subst er;exact⟨(i:Int),_,h1,⋯,⋯,d,by rw[YS];exact ed,kvs,s3 _ _ hd,by rw[kl]⟩
  ·have Vr:(cs.map (qz H3)).Perm (Pr.nN b b.length):=by rw[<-emap];exact pm.map _
   refine kk p (cs.map (qz H3)) cs H4 ⟨Vr,?_⟩ ((s1.trans s3).trans s4) (none_of (s1.trans s3) np) hp ?_
   ·rw[List.pairwise_map];exact pw.imp λ{x y} (h:((Pr.kb b (qz H3 x)).length:Int)<=((Pr.kb b (qz H3 y)).length:Int))=>⋯
   ·refine Al.of (by rw[YL,YL]) λi v q e1 e2=>?_;rw[YO] at e1 e2;symm;obtain⟨x,ex,rfl⟩:=aas.mp e1;nofun;rw[ex] at e2;cases e2;symm;obtain⟨q,mq,h1,h2,h3,uR⟩:=each x (pm.mem_iff.mp (YQ ex));nofun;rw[h3];exact⟨x,rfl,s4 _ _ h1,none_of s1 h2⟩
theorem gQ:aN ["rows","start","spot"] ["rows","start"] (au (top 17)):=⟨rfl,rfl,rfl,∅,rfl,∅,∅⟩
theorem MF (T:Txt K mg aD tc):bK P w K mg base (bF P w) 1 "row_with_head" ["rows","start"] JE:=by
 refine T.nP.eG (λ_ _ _ _ _ _=>eO λ_ _=>rfl) λf fd F=>F.eJ gQ (λvs H Q E h=>?_) (λcP A outer s H vs Q E hr h=>?_)
 ·obtain⟨_,_,_,rfl,_⟩:=h;rfl
 ·symm;obtain⟨a,L,k,rfl,⟨xs,ha,al⟩,kn,MG,ne,kS,kN⟩:=h;nofun;have nd:=gQ.nd;refine⟨_,(af (cm PassesOwn.never rfl (AD rfl T.z_range (aa (pv 1) (aa (aU bu (by rfl) T.z_len Y9 (aa (pv 0) ae)) ae))) (aG (i:=2) nd rfl (.inl rfl)) (ax (bT (aR rE (aI aJ (aI aJ (pv 0) (pv 2) (λ_ _=>rfl)) ao (λ_ _=>rfl)) ao (aT _)) (ax (aP (pv 2)))
   bo)))
  (ax (aP fG))),?_⟩
  have lx:=al.length;dsimp?[];refine⟨_,ha,⋯,⋯,⋯,⋯,bJ (src_range (Ok:=λ_=>True)) (λi σ H'=>H=H'/\(∀j:Nat,k<=j->j<k+i->(L.getD j []).headD 0=0)/\∃z,σ=[~~~a,some (.int (k:Int)),z]) ⟨rfl,λj h1 h2=>⋯,_,rfl⟩ (λ_ _ _ _ _=>trivial) ?_ ?_⟩
  ·intro i x σ H' Yr hi dO d5;symm;obtain⟨rfl,hz,z,rfl⟩:=dO;obtain⟨rfl,rfl⟩:=d5;have DR:k+i<L.length:=⋯
   have er:L[k+i]?=some L[k+i]:=YM DR;obtain⟨q,eq,hq⟩:=qr al er;nofun;have eh:=k9 (ne L[k+i] (YV DR));have eg:L.getD (k+i) []=L[k+i]:=by rw[YN,er];rfl
   have ei:((k:Int)+ (i:Int))=((k+i:Nat):Int):=⋯
   rw[ei];dsimp?[ha,eq,hq,eh];refine ib (λc=>?_) (λc=>?_)
   ·exact kS (k+i) ⋯ DR (by rw[eg];exact c)
   ·refine⟨λj h1 h2=>?_,_,rfl⟩
    by_cases e:j=k+i
    ·rw[e,eg];exact Decidable.not_not.mp c
    ·exact hz j h1 ⋯
  ·intro σ H' dW;symm;obtain⟨rfl,hz,z,rfl⟩:=dW;nofun;dsimp?[];exact kN λi h1 h2=>hz i h1 ⋯
theorem qA:aN ["rows","one","other","turned"] ["rows","one","other"] (au (top 18)):=⟨rfl,rfl,rfl,∅,rfl,∅,∅⟩
theorem J3 (T:Txt K mg aD tc):bK P w K mg base (bF P w) 1 "swapped" ["rows","one","other"] Dy:=by
 refine T.A8.eG (λ_ _ _ _ _ _=>nV λ_ _ _=>rfl) λf fd F=>F.eJ qA (λvs H Q E h=>?_) (λcP A outer s H vs Q E hr h=>?_)
 ·obtain⟨_,_,_,_,rfl,_⟩:=h;rfl
 ·symm;obtain⟨a,L,i,j,rfl,⟨xs,ha,al⟩,hi,hj,MG,kk⟩:=h;nofun;clear G_;have nd:=qA.nd;refine⟨_,(af (aE (i:=3) nd rfl (.inl rfl) (cG (bD (K:=K)) (by rfl) T.z_list rfl (aa (pv 0) ae)))
  (af (fc (aI aJ (pv 0) (pv 2) (λ_ _=>rfl)) (fI (pv 3) (pv 1) set_list))
  (af (fc (aI aJ (pv 0) (pv 1) (λ_ _=>rfl)) (fI (pv 3) (pv 2) set_list))
  (ax (aP (pv 3)))))),?_⟩
  refine(?_:let cn:TS:=_;let cu:TS:=_;let cv:TS:=_;let dU:TS:=_;tSeq cn (tSeq cu (tSeq cv dU)) _ _ _);intro cn cu cv dU;have lx:=al.length;have ei:L[i]?=some (L.getD i []):=by rw[YN,YM hi];rfl
  have ej:L[j]?=some (L.getD j []):=by rw[YN,YM hj];rfl
  symm;obtain⟨qi,ai,Vs⟩:=qr al ei;obtain⟨qj,aj,Vt⟩:=qr al ej;nofun;clear G_;dsimp?[ha];refine⟨_,.inl (aS.of ha),λm nm=>?_⟩;have sm:=ar (o:=.lst xs) nm;have hm:upd H m (.lst xs) m=some (.lst xs):=ag;generalize upd H m (.lst xs)=H1 at *;dsimp?[sm _ _ ha,aj];have am:a≠m:=λe=>by rw[e,nm] at ha;cases ha
  refine⟨_,hm,i,fC ⋯,_,by rw[aK am];exact sm _ _ ha,_,ai,_,ag,j,fC (by rw[Zh];lia),?_⟩;have s2:=aX (o:=.lst ((xs.set i (V.ref qj)).set j (V.ref qi))) (aX (o:=.lst (xs.set i (V.ref qj))) sm nm) nm;exact kk _ _ s2 ⟨_,ag,((al.imp λ_ _ h=>h.mono s2).set ⟨qj,rfl,s2 _ _ Vt⟩).set ⟨qi,rfl,s2 _ _ Vs⟩⟩
theorem d8:aN ["rows","spot","last","head","tail","left","number","row","first"] ["rows","spot","last"] (au (top 19)):=⟨rfl,rfl,rfl,by ac_rfl,rfl,by ac_rfl,by ac_rfl⟩
theorem MH (T:Txt K mg aD tc):bK P w K mg base (bF P w) 1 "without_first_column" ["rows","spot","last"] JF:=by
 refine T.iu.eG (λ_ _ _ _ _ _=>nV λ_ _ _=>rfl) λf fd F=>F.eJ d8 (λvs H Q E h=>?_) (λcP A outer s H vs Q E hr h=>?_)
 ·obtain⟨_,_,_,_,_,rfl,_⟩:=h;rfl
 ·symm;obtain⟨a,L,s',l,m,rfl,⟨xs,ha,al⟩,hs,MG,P6,GI,l0,bl,bx,kk⟩:=h;nofun;clear G_;have nd:=d8.nd;refine⟨_,(af (aE (i:=3) nd rfl (.inr rfl) (aI aJ (aI aJ (pv 0) (pv 1) (λ_ _=>rfl)) ao (λ_ _=>rfl)))
  (af (aE (i:=4) nd rfl (.inl rfl) (gD (gK (K:=K)) (aI aJ (pv 0) (pv 1) (λ_ _=>rfl)) (hV ao) kP))
  (af (aE (i:=5) nd rfl (.inl rfl) (cY ae))
  (af (cm PassesOwn.never rfl (cV (K:=K) rfl T.z_enumerate (aa (pv 0) ae)) (bV (K:=K) (n:=2) rfl (aQ (aG (i:=6) nd rfl (.inl rfl)) (aQ (aG (i:=7) nd rfl (.inl rfl)) bU))) (ax (bT (aR cF (pv 6) (pv 1) (aT _)) (ax (dC (fj Zq ZK ZL cH.r (pv 5) (aa (pv 4) ae))))
   (af (aE (i:=8) nd rfl (.inr rfl) (aI aJ (pv 7) ao (λ_ _=>rfl)))
  (ax (dC (fj Zq ZK ZL cH.r (pv 5) (aa (bS rfl (N:=["rows","spot","last","head","tail","left","number","row","first"]) (so:=au (top 19)) (N':=["one","other","last","head","first"]) (k:=2) (fr:=[2,3,8]) rfl rfl ⟨rfl,by ac_rfl,by ac_rfl,by ac_rfl,rfl,by ac_rfl,by ac_rfl⟩ (js (K:=K) rfl T.z_zip (aa (gD (gK (K:=K)) (pv 7) (hV ao) kP) (aa (pv 4) ae))) (λ_ _ _ _ _=>(bV (K:=K) (n:=2) rfl (aQ (aG (i:=0) (show(["one","other","last","head","first"]:List Str).Nodup by ac_rfl) rfl (.inl rfl)) (aQ (aG (i:=1) (show(["one","other","last","head","first"]:List Str).Nodup by ac_rfl) rfl (.inl rfl)) bU)))) (λ_ _ _ _ _=>bH)
   (λ_ _ _ _ _=>(aH B9 (aH jW (aH aV (pv 3) (pv 0)) (aH aV (pv 4) (pv 1))) (pv 2)))) ae (se rfl)))))))))
  (ax (aP (pv 5))))))),?_⟩
  refine(?_:let cn:TS:=_;let cu:TS:=_;let cv:TS:=_;let dU:TS:=_;let iF:TS:=_;tSeq cn (tSeq cu (tSeq cv (tSeq dU iF))) _ _ _);intro cn cu cv dU iF;have sl:=sizeLine_eq;have lx:=al.length;have es:L[s']?=some (L.getD s' []):=by rw[YN,YM hs];rfl
  symm;obtain⟨qs,Sn,Og⟩:=qr al es;nofun;clear G_;have ls:=GI _ (YQ es);have bs:=bx _ (YQ es);have hh:=k9 (r:=L.getD s' []) ⋯;have bh:Bt 4000 ((L.getD s' []).headD 0):=bs _ (by
   cases e:L.getD s' [] with
   | nil=>rw[e] at ls;cases ls
   | cons x r=>exact YT ..)
  have hw:∀i:Nat,aO.qX L s' l i=if i=s' then (L.getD i []).tail else List.zipWith (λone other=>((L.getD s' []).headD 0*one - (L.getD i []).headD 0*other).fdiv l) (L.getD i []).tail (L.getD s' []).tail:=λi=>rfl
  generalize (L.getD s' []).headD 0=hd at *;generalize L.getD s' []=R at *;subst_vars;refine ba (λN=>N [~~~a,some (.int (s':Int)),some (.int l),some (.int hd),none,none,none,none,none] H) ?_ (λN hN=>?_)
  case refine_2=>
   dsimp?[ha,Sn,Og,hh];exact hN
  subst_vars;refine ba (λN=>∀H1,aA H H1->∀tl,H1 tl=some (.lst (List.map V.int R.tail))->N [~~~a,some (.int (s':Int)),some (.int l),some (.int hd),~~~tl,none,none,none,none] H1) ?_ (λN hN=>?_)
  case refine_2=>
   dsimp?[ha,Sn];exact⟨_,aS.of Og,λtl Vu=>hN _ (ar Vu) tl (by rw[ag,wa])⟩
  rintro H1 yN tl J4;subst_vars;refine ba (λN=>∀H2,aA H1 H2->∀lf,H1 lf=none->H2 lf=some (.lst [])->N [~~~a,some (.int (s':Int)),some (.int l),some (.int hd),~~~tl,~~~lf,none,none,none] H2) ?_ (λN hN=>?_)
  case refine_2=>
   dsimp?[];exact⟨Y1 _,λlf nl=>hN _ (ar nl) lf nl ag⟩
  rintro H2 BB lf My Vv;have Vw:tl≠lf:=λe=>by rw[e,My] at J4;cases J4
  subst_vars;refine ba (λN=>∀H3,aA H1 H3->qJ H3 lf (aO.Oa L s' l)->∀z1 z2 z3,N [~~~a,some (.int (s':Int)),some (.int l),some (.int hd),~~~tl,~~~lf,z1,z2,z3] H3) ?_ (λN hN=>?_)
  case refine_2=>
   dsimp?[];refine⟨⟨_,aS.of (BB _ _ (yN _ _ ha))⟩,bJ (fN (Ok:=aA H1) (λH' s=>aS.of (s _ _ (yN _ _ ha)))) (λi σ H3=>aA H1 H3/\∃ys,H3 lf=some (.lst ys)/\Al (Rw (c6 H3 lf)) ((List.range i).map (aO.qX L s' l)) ys/\∃z1 z2 z3,σ=[~~~a,some (.int (s':Int)),some (.int l),some (.int hd),~~~tl,~~~lf,z1,z2,z3]) ⟨BB,[],Vv,trivial,_,_,_,rfl⟩ (λ_ _ _ _ h=>h.1) ?_ ?_⟩
   ·intro i x σ H3 H4 hi dO d5;symm;obtain⟨J5,ys,CD,ay,z1,z2,z3,rfl⟩:=dO;obtain⟨p,y,np,rfl,ey,rfl⟩:=d5;obtain⟨r,er,q,rfl,hq⟩:=al.get ey;nofun;clear G_;have ly:=ay.length;rw[YL,Y6] at ly;have Vx:=GI _ (YQ er);have So:=bx _ (YQ er);have gr:L.getD i []=r:=by rw[YN,er];rfl
    refine⟨p,_,rfl,fV.of ag,rfl,?_⟩;have s4:=ar (o:=.tup [.int i,.ref q]) np;generalize upd H3 p (.tup [.int i,.ref q])=H4 at *;have Oh:=J5.trans s4;have Ak:=s4 _ _ CD;have Sr:=Oh _ _ (yN _ _ hq);have Ss:=Oh _ _ J4;have Su:=ay.imp λ_ _ h=>h.mono (b9 (p:=lf) s4);have eR:(List.range (i+1)).map (aO.qX L s' l)=(List.range i).map (aO.qX L s' l)++ [aO.qX L s' l i]:=by rw[List.range_succ,Y5];rfl
    dsimp?[dD]
    by_cases c:i=s'
    ·rw[if_pos ⋯];refine⟨.inl ⟨rfl,_,aS.of Ak⟩,_,Ak,⋯,aX Oh My,_,ag,?_,_,rfl⟩;rw[ur,eR];refine Su.append (.one ⟨tl,rfl,?_⟩);have Vy:r=R:=by
      subst c;rw[er] at es;cases es;rfl
     rw[bY Vw,Ss,hw,if_pos c,gr,Vy]
    ·rw[if_neg ⋯];have Vz:=k9 (r:=r) ⋯;dsimp?[Sr,Vz,dD];refine⟨.inl ⟨rfl,_,aS.of Ak⟩,_,aS.of Sr,λp2 MI=>?_⟩;have s5:=ar (o:=.lst (iK (List.map V.int r) (some 1) none)) MI;have lU:upd H4 p2 (.lst (iK (List.map V.int r) (some 1) none)) p2=some (.lst (List.map V.int r.tail)):=by rw[ag,wa]
     generalize upd H4 p2 (.lst (iK (List.map V.int r) (some 1) none))=H5 at *;have VA:=Oh.trans s5;have Sv:=s5 _ _ Ss;have VB:Bt 4000 (r.headD 0):=So _ (by
      cases r with
      | nil=>cases Vx
      | cons x r=>exact YT ..)
     refine⟨⟨_,aS.of lU⟩,⟨_,aS.of Sv⟩,?_⟩;refine gH (K:=K) (jr (λH' s'=>aS.of (s' _ _ lU)) (λH' s'=>aS.of (s' _ _ Sv))) (λj u v _=>∃o1 o2,r.tail[j]?=some o1/\R.tail[j]?=some o2/\u=.int o1/\v=.int o2) ?_ (by rw[YL,YL,List.length_tail,List.length_tail];lia) (λj y _=>∀o1 o2,r.tail[j]?=some o1->R.tail[j]?=some o2->y=.int ((hd*o1 - r.headD 0*o2).fdiv l)) (λ_ _ _ _ _ h=>h) ?_ ?_
     ·intro j v H6 H7 hj s6 dO;symm;obtain⟨t,x,y,nt,rfl,ex,LW,rfl⟩:=dO;rw[YO] at ex LW;obtain⟨o1,e1,rfl⟩:=aas.mp ex;obtain⟨o2,e2,rfl⟩:=aas.mp LW;nofun;exact⟨ar nt,t,_,_,rfl,fV.of ag,o1,o2,e1,e2,rfl,rfl⟩
     ·intro j u v H6 Q2 hj s6 d5 kq;symm;obtain⟨o1,o2,e1,e2,rfl,rfl⟩:=d5;nofun;have b1:=So o1 (List.mem_of_mem_tail (YQ e1));have b2:=bs o2 (List.mem_of_mem_tail (YQ e2));dsimp?[];refine⟨bh.dH b1,VB.dH b2,za.of l0 bl,kq _ _ (aA.refl _) λ_ _ f1 f2=>?_⟩;rw[e1] at f1;rw[e2] at f2;cases f1;cases f2;rfl
     ·intro zs H6 s6 lz hz D n1 n2;have ez:=Dx (f:=λo1 o2=>(hd*o1 - r.headD 0*o2).fdiv l) lz hz;have GH:=s6 _ _ (s5 _ _ Ak);refine⟨_,ar n2 _ _ GH,⋯,aX ((VA.trans s6).trans (ar n2)) My,_,ag,?_,_,rfl⟩;rw[ur,eR];refine(Su.imp λ_ _ h=>h.mono (b9 ((s5.trans s6).trans (ar n2)))).append (.one ⟨D,rfl,?_⟩);rw[bY (λe=>by rw[e,GH] at n2;cases n2),ag,hw,if_neg c,gr,ez]
   ·intro σ H3 dW;symm;obtain⟨J5,ys,CD,ay,z1,z2,z3,rfl⟩:=dW;nofun;rw[lx] at ay;exact hN _ J5 ⟨ys,CD,ay.imp λ_ _ h=>h.mono b8⟩ _ _ _
  rintro H3 J5 hm z1 z2 z3;dsimp?[];exact kk _ _ (yN.trans J5) hm
theorem wR:aN ["rows","columns","last","column","spot","head"] ["rows","columns"] (au (top 20)):=⟨rfl,rfl,rfl,∅,rfl,∅,∅⟩
theorem MJ (T:Txt K mg aD tc):bK P w K mg base (bF P w) 2 "swept" ["rows","columns"] JG:=by
 have nX:bK P w K mg base (bF P w) 1 "row_with_head" ["rows","start"] JE:=MF T;have Bu:bK P w K mg base (bF P w) 1 "swapped" ["rows","one","other"] Dy:=J3 T;have iB:bK P w K mg base (bF P w) 1 "without_first_column" ["rows","spot","last"] JF:=MH T;refine T.F8.eG (λ_ _ _ _ _ _=>eO λ_ _=>rfl) λf fd F=>F.eJ wR (λvs H Q E h=>?_) (λcP A outer s H vs Q E hr h=>?_)
 ·obtain⟨_,_,_,_,rfl,_⟩:=h;rfl
 ·symm;obtain⟨a,L,n,m,rfl,hM,B,kk⟩:=h;nofun;have nd:=wR.nd;refine⟨_,(af (aE (i:=2) nd rfl (.inl rfl) ao)
  (af (cm PassesOwn.never rfl (du rfl T.z_range (aa (pv 1) ae)) (aG (i:=3) nd rfl (.inl rfl)) (af (aE (i:=4) nd rfl (.inl rfl) (aF nX (hr.mono ∅) rfl aB.pass (aa (pv 0) (aa (pv 3) ae))))
  (af (bT (aR xK (pv 4) fG (aT _)) (ax (aP (cy (aa (pv 0) (aa (pv 3) (aa (pv 2) ae))))))
   bo)
  (af (aE (i:=0) nd rfl (.inl rfl) (aF Bu (hr.mono ∅) rfl aB.pass (aa (pv 0) (aa (pv 3) (aa (pv 4) ae)))))
  (af (aE (i:=5) nd rfl (.inl rfl) (aI aJ (aI aJ (pv 0) (pv 3) (λ_ _=>rfl)) ao (λ_ _=>rfl)))
  (af (aE (i:=0) nd rfl (.inl rfl) (aF iB (hr.mono ∅) rfl aB.pass (aa (pv 0) (aa (pv 3) (aa (pv 2) ae)))))
  (ax (aE (i:=2) nd rfl (.inl rfl) (pv 5)))))))))
  (ax (aP (cy (aa (pv 0) (aa (pv 1) (aa (pv 2) ae)))))))),?_⟩
  refine(?_:let cn:TS:=_;let cu:TS:=_;let cv:TS:=_;tSeq cn (tSeq cu cv) _ _ _);intro cn cu cv;have sl:=sizeLine_eq;have Bn:=B.nm;have Bm:=B.P6;have hlen:(L.map aO.fo).length=n:=by rw[YL,B.len]
  subst_vars;refine ba (λN=>N [~~~a,some (.int (n:Int)),some (.int 1),none,none,none] H) ?_ (λN hN=>?_)
  case refine_2=>
   dsimp?[];exact hN
  subst_vars;refine ba (λN=>∀H1,aA H H1->∀p rs W,aO.j7 (L.map aO.fo) n n rs W->qJ H1 p (W.map λv=>aO.cf v rs n m)->∀z1 z2 z3,N [~~~p,some (.int (n:Int)),some (.int (aO.D rs (aO.dn n))),z1,z2,z3] H1) ?_ (λN hN=>?_)
  case refine_2=>
   dsimp?[];refine⟨⋯,⋯,bJ (src_range (Ok:=λ_=>True)) (λi σ H1=>aA H H1/\∃p rs W,aO.j7 (L.map aO.fo) n i rs W/\qJ H1 p (W.map λv=>aO.cf v rs i m)/\∃z1 z2 z3,σ=[~~~p,some (.int (n:Int)),some (.int (aO.D rs (aO.dn i))),z1,z2,z3]) ?_ (λ_ _ _ _ _=>trivial) ?_ ?_⟩
   ·refine⟨aA.refl _,a,[],L.map aO.fo,?_,?_,_,_,_,rfl⟩
    ·have:=aO.j7.start (U:=L.map aO.fo);rw[hlen] at this;exact this
    ·rw[aO.yy B.row];exact hM
   ·intro k x σ H1 H2 hi dO d5;symm;obtain⟨yN,p,rs,W,S,hW,z1,z2,z3,rfl⟩:=dO;obtain⟨rfl,rfl⟩:=d5;nofun;have lW:=S.len;have hk:k<n:=⋯
    have Qf:k<m:=⋯
    have rb:∀r∈W.map (λv=>aO.cf v rs k m),∀x∈r,Bt 4000 x:=λr hr x hx=>by
     symm;obtain⟨v,hv,rfl⟩:=aau.mp hr;nofun;unfold aO.cf at hx;symm;obtain⟨t,_,rfl⟩:=aau.mp hx;nofun;exact(B.Fx _ _ _ S).2 v hv _
    have db:=(B.Fx _ _ _ S).1;have VC:(W.map λv=>aO.cf v rs k m).length=n:=by rw[YL,lW]
    have J6:∀r∈W.map (λv=>aO.cf v rs k m),r.length=(m - (k+1))+1:=λr hr=>by
     symm;obtain⟨v,_,rfl⟩:=aau.mp hr;nofun;rw[aO.eC];lia
    have Sw:∀(i:Nat) (v:aO.Fm),W[i]?=some v->((W.map λv=>aO.cf v rs k m).getD i []).headD 0=aO.D (v::rs) (k::aO.dn k):=λi v e=>by
     rw[aO.getD_map e,aO.d4 Qf];rfl
    subst_vars;rw[ZR];refine jt (λσ' H3=>H2=H3/\((aO.sr k rs W/\σ'=[~~~p,some (.int (n:Int)),some (.int (aO.D rs (aO.dn k))),some (.int (k:Int)),some .cJ,z3])\/∃i u,k<=i/\i<n/\W[i]?=some u/\aO.D (u::rs) (k::aO.dn k)≠0/\σ'=[~~~p,some (.int (n:Int)),some (.int (aO.D rs (aO.dn k))),some (.int (k:Int)),some (.int (Nat.cast i)),z3])) ?_ (λN Hx=>?_)
    case refine_2=>
     dsimp?[JE];refine⟨_,k,rfl,hW,⋯,⋯,λr hr=>by rw[J6 r hr];lia,λi h1 h2 h3=>?_,λh=>?_⟩
     ·rw[VC] at h2;have ei:W[i]?=some W[i]:=YM ⋯;rw[Sw i _ ei] at h3;exact Hx _ _ ⟨rfl,.inr ⟨i,_,h1,h2,ei,h3,rfl⟩⟩
     ·refine Hx _ _ ⟨rfl,.inl ⟨λu hu=>?_,rfl⟩⟩;symm;obtain⟨i,uv,rfl⟩:=Zi hu;nofun;rw[List.length_drop] at uv;have ei:W[k+i]?=some W[k+i]:=YM ⋯;have:=h (k+i) ⋯ ⋯;rw[Sw _ _ ei] at this;rw[List.getElem_drop];exact this
    rintro _ _ ⟨rfl,⟨BH,rfl⟩ | ⟨i,u,h1,h2,ei,L3,rfl⟩⟩
    ·dsimp?[];exact⟨∅,λt H3 s3 nt e3=>kk t p k rs W _ S (λ_=>BH) (yN.trans s3) e3 (hW.mono s3)⟩
    ·have ek:W[k]?=some W[k]:=YM ⋯;subst_vars;refine ba (λN=>N [~~~p,some (.int (n:Int)),some (.int (aO.D rs (aO.dn k))),some (.int (k:Int)),some (.int (Nat.cast i)),z3] H2) ?_ (λN Hx=>?_)
     case refine_2=>
      dsimp?[];rw[if_neg (by simp)];exact Hx
     subst_vars;refine ba (λN=>∀H3,aA H2 H3->∀p2,qJ H3 p2 ((aO.oO W k i u W[k]).map λv=>aO.cf v rs k m)->N [~~~p2,some (.int (n:Int)),some (.int (aO.D rs (aO.dn k))),some (.int (k:Int)),some (.int (Nat.cast i)),z3] H3) ?_ (λN Hx=>?_)
     case refine_2=>
      dsimp?[Dy];refine⟨_,k,rfl,i,rfl,hW,⋯,⋯,⋯,λp2 H3 s3 h3=>Hx _ s3 p2 ?_⟩;rw[aO.Gq ei ek] at h3;exact h3
     rintro H3 J5 p2 KZ;have Pk:=aO.Dr ei ek;have Ys:(aO.oO W k i u W[k]).length=n:=by unfold aO.oO;rw[Zh,Zh,lW]
     have VD:∀v∈aO.oO W k i u W[k],v∈W:=λv hv=>by
      unfold aO.oO at hv;rcases List.mem_or_eq_of_mem_set hv with h | h
      ·rcases List.mem_or_eq_of_mem_set h with h | h
       ·exact h
       ·rw[h];exact YQ ei
      ·rw[h];exact YV _
     have MK:∀r∈(aO.oO W k i u W[k]).map (λv=>aO.cf v rs k m),r.length=(m - (k+1))+1:=λr hr=>by
      symm;obtain⟨v,_,rfl⟩:=aau.mp hr;nofun;rw[aO.eC];lia
     have J7:∀r∈(aO.oO W k i u W[k]).map (λv=>aO.cf v rs k m),∀x∈r,Bt 4000 x:=λr hr x hx=>by
      symm;obtain⟨v,hv,rfl⟩:=aau.mp hr;nofun;exact rb _ (aau.mpr ⟨v,VD v hv,rfl⟩) x hx
     have S2:=S.step hk h1 ei ek L3;have ew:=aO.Ds (n:=n) S.good Qf ei ek;have e1:((aO.oO W k i u W[k]).map λv=>aO.cf v rs k m)[k]?=some (aO.cf u rs k m):=by rw[YO,Pk];rfl
     symm;obtain⟨xs,VE,al⟩:=id KZ;obtain⟨q,aq,hq⟩:=qr al e1;nofun;have ah:=k9 (r:=aO.cf u rs k m) (by rw[aO.eC];lia);have eh:(aO.cf u rs k m).headD 0=aO.D (u::rs) (k::aO.dn k):=by rw[aO.d4 Qf];rfl
     rw[eh] at ah;subst_vars;refine ba (λN=>N [~~~p2,some (.int (n:Int)),some (.int (aO.D rs (aO.dn k))),some (.int (k:Int)),some (.int (Nat.cast i)),some (.int (aO.D (u::rs) (k::aO.dn k)))] H3) ?_ (λN Hx=>?_)
     case refine_2=>
      dsimp?[VE,aq,hq,ah];exact Hx
     dsimp?[JF];refine⟨_,k,rfl,KZ,by rw[YL];lia,by rw[YL];lia,m - (k+1),⋯,MK,S.good.ne,db,J7,λp3 H4 s4 h4=>?_⟩;rw[ew] at h4;exact⟨yN.trans (J5.trans s4),_,_,_,S2,h4,rfl,rfl,_,rfl⟩
   ·intro σ H1 dW;symm;obtain⟨yN,p,rs,W,S,hW,z1,z2,z3,rfl⟩:=dW;nofun;exact hN _ yN p rs W S hW _ _ _
  rintro H1 yN p rs W S hW z1 z2 z3;dsimp?[];exact⟨∅,λt H2 s2 nt e2=>kk t p n rs W _ S (λh=>absurd h (Zj _)) (yN.trans s2) e2 (hW.mono s2)⟩
theorem gR:aN ["rows","right","done","sign"] ["rows","right"] (au (top 21)):=⟨rfl,rfl,rfl,∅,rfl,∅,∅⟩
theorem Hy (T:Txt K mg aD tc):bK P w K mg base (bF P w) 3 "whole_answers" ["rows","right"] DC:=by
 have GJ:bK P w K mg base (bF P w) 2 "swept" ["rows","columns"] JG:=MJ T;refine T.nQ.eG (λ_ _ _ _ _ _=>eO λ_ _=>rfl) λf fd F=>F.eJ gR (λvs H Q E h=>?_) (λcP A outer s H vs Q E hr h=>?_)
 ·obtain⟨_,_,_,_,_,rfl,_⟩:=h;rfl
 ·symm;obtain⟨a,c,L,S,n,rfl,hM,hc,lS,sq,B,kN,kS⟩:=h;nofun;have nd:=gR.nd;refine⟨_,(af (aE (i:=2) nd rfl (.inl rfl) (aF GJ (hr.mono ∅) rfl aB.pass (aa (bS rfl (N:=["rows","right","done","sign"]) (so:=au (top 21)) (N':=["row","side"]) (k:=2) (fr:=[]) rfl rfl ⟨rfl,∅,∅,∅,rfl,∅,∅⟩ (js (K:=K) rfl T.z_zip (aa (pv 0) (aa (pv 1) ae))) (λ_ _ _ _ _=>(bV (K:=K) (n:=2) rfl (aQ (aG (i:=0) (show(["row","side"]:List Str).Nodup by ac_rfl) rfl (.inl rfl)) (aQ (aG (i:=1) (show(["row","side"]:List Str).Nodup by ac_rfl) rfl (.inl rfl)) bU)))) (λ_ _ _ _ _=>bH)
   (λ_ _ _ _ _=>(aH tE (pv 0) (cY (aa (pv 1) ae))))) (aa (aU bu (by rfl) T.z_len Y9 (aa (pv 0) ae)) ae) (se rfl))))
  (af (bT (aR o5 (aI aL (pv 2) ao (λ_ _=>rfl)) (aU bu (by rfl) T.z_len Y9 (aa (pv 0) ae)) (aT _)) (ax (aP fG))
   bo)
  (af (aE (i:=3) nd rfl (.inr rfl) (fH (aR mT (aI aL (pv 2) ao (λ_ _=>rfl)) ao (aT _)) ao (BQ xI ao)))
  (ax (aP (cy (aa (bS rfl (N:=["rows","right","done","sign"]) (so:=au (top 21)) (N':=["row","sign"]) (k:=1) (fr:=[3]) rfl rfl ⟨rfl,∅,∅,∅,rfl,∅,∅⟩ (aZ (K:=K) (aI aL (pv 2) ao (λ_ _=>rfl))) (λ_ _ _ _ _=>(aG (i:=0) (show(["row","sign"]:List Str).Nodup by ac_rfl) rfl (.inl rfl))) (λ_ _ _ _ _=>bH)
   (λ_ _ _ _ _=>(aH aV (aI aJ (pv 0) ao (λ_ _=>rfl)) (pv 1)))) (aa (aH aV (aI aL (pv 2) ao (λ_ _=>rfl)) (pv 3)) ae) (se rfl)))))))),?_⟩
  refine(?_:let cn:TS:=_;let cu:TS:=_;let cv:TS:=_;let dU:TS:=_;tSeq cn (tSeq cu (tSeq cv dU)) _ _ _);intro cn cu cv dU;have sl:=sizeLine_eq;symm;obtain⟨xs,ha,al⟩:=id hM;nofun;have lx:=al.length;have hl:=sq.len;have MG:n+1<=64:=B.P6;subst_vars;refine ba (λN=>∀H1,aA H H1->∀t p k rs W,aO.j7 ((aO.aug L S).map aO.fo) n k rs W->(k<n->aO.sr k rs W)->H1 t=some (.tup [.ref p,.int (Nat.cast k),.int (aO.D rs (aO.dn k))])->qJ H1 p (W.map λv=>aO.cf v rs k (n+1))->N [~~~a,~~~c,~~~t,none] H1) ?_ (λN hN=>?_)
  case refine_2=>
   dsimp?[JG];refine⟨⟨_,aS.of ha⟩,⟨_,aS.of hc⟩,?_⟩;refine gH (K:=K) (jr (λH' s'=>aS.of (s' _ _ ha)) (λH' s'=>aS.of (s' _ _ hc))) (λi u v _=>∃r x,L[i]?=some r/\S[i]?=some x/\Rw H r u/\v=.int x) ?_ (by rw[YL];lia) (λi y H'=>∀r x,L[i]?=some r->S[i]?=some x->Rw H' (r++ [x]) y) (λ_ _ _ _ s h r x e1 e2=>(h r x e1 e2).mono s) ?_ ?_
   ·intro i v H2 H3 hi s2 dO;symm;obtain⟨t,x,y,nt,rfl,ex,ey,rfl⟩:=dO;rw[YO] at ey;obtain⟨z,ez,rfl⟩:=aas.mp ey;obtain⟨r,er,hr⟩:=al.get ex;nofun;exact⟨ar nt,t,_,_,rfl,fV.of ag,r,z,er,ez,hr,rfl⟩
   ·intro i u v H2 Q2 hi s2 d5 kq;symm;obtain⟨r,x,er,ex,⟨q,rfl,hq⟩,rfl⟩:=d5;nofun;have lr:=sq.row r (YQ er);dsimp?[Fw];refine⟨∅,λm nm=>⟨_,ar nm _ _ (s2 _ _ hq),_,ag,by simp only[YL,YZ,ZW];lia,λp np=>kq _ _ ((ar nm).trans (ar np)) λr' x' e1 e2=>?_⟩⟩;rw[er] at e1;rw[ex] at e2;cases e1;cases e2;exact⟨p,rfl,by rw[ag,Y5];rfl⟩
   ·intro ys H2 s2 ly hy D n1 n2;have s3:=s2.trans (ar (o:=.lst ys) n2);have hm:qJ (upd H2 D (.lst ys)) D (aO.aug L S):=by
     rw[YL] at ly;refine⟨ys,ag,Al.of (by rw[aO.k8 hl lS];lia) λi y r e1 e2=>?_⟩;have hi:=(aat.mp e1).1;have er:L[i]?=some L[i]:=YM ⋯;have ex:S[i]?=some (S.getD i 0):=by rw[YN,YM ⋯];rfl
     rw[aO.k6 lS ⋯ er] at e2;cases e2;exact(hy i y e1 _ _ er ex).mono (ar n2)
    refine⟨_,s3 _ _ ha,aO.aug L S,n,⋯,hm,n+1,B,λt p k rs W H3 St BH s4 h4 h5=>hN _ (s3.trans s4) t p k rs W St BH h4 h5⟩
  rintro H1 yN t p k rs W St BH ht hW;have VF:=yN _ _ ha;have kn:=St.le;subst_vars;refine jt (λσ' H2=>H1=H2/\k=n/\σ'=[~~~a,~~~c,~~~t,none]) ?_ (λN hN=>?_)
  case refine_2=>
   dsimp?[ht,VF];exact ib (λh=>kN k rs W _ St ⋯ (BH ⋯) yN) (λh=>hN _ _ ⟨rfl,⋯,rfl⟩)
  intro _ _ dW;symm;obtain⟨rfl,rfl,rfl⟩:=dW;nofun;have d0:=St.good.ne;subst_vars;refine jt (λσ' H2=>H1=H2/\σ'=[~~~a,~~~c,~~~t,some (.int (uS (aO.D rs (aO.dn k))))]) ?_ (λN hN=>?_)
  case refine_2=>
   dsimp?[ht];exact ib (λh=>hN _ _ ⟨rfl,by rw[uS,if_pos h]⟩) (λh=>hN _ _ ⟨rfl,by rw[uS,if_neg h]⟩)
  rintro _ _ ⟨rfl,rfl⟩;symm;obtain⟨ws,hp,aw⟩:=id hW;nofun;have lw:=aw.length;have lW:=St.len;rw[YL] at lw;dsimp?[ht,hp];refine⟨⟨_,aS.of hp⟩,?_⟩;have S':Src (uO K p) (aA H1) W.length (λi x H H3=>H3=H/\ws[i]?=some x):=by
   have:=src_list (K:=K) (a:=p) (xs:=ws) (Ok:=aA H1) (λH2 s2=>aS.of (s2 _ _ hp))
   rwa [lw] at this
  refine dz W (λv=>some (aO.D (v::rs) (k::aO.dn k)*uS (aO.D rs (aO.dn k)))) S' (λ_ _ _ _ h=>h.1) ⋯ ?_ ?_
  ·rintro i v x ev ⟨_,ex⟩ Y N y1 _;symm;obtain⟨r',ML,q,rfl,hq⟩:=aw.get ex;nofun;rw[YO,ev] at ML;cases ML;have hh:=k9 (r:=aO.cf v rs k (k+1)) (by rw[aO.eC];lia);rw[show(aO.cf v rs k (k+1)).headD 0=aO.D (v::rs) (k::aO.dn k) from by rw[aO.d4 (Zl k)];rfl] at hh;dsimp?[gm,hq,hh];exact⟨DB,y1 _ rfl⟩
  ·intro D n1 n2;refine⟨_,ar n2 _ _ ht,_,at2,_,rfl,DB,∅,λq H2 s2 nq e2=>kS rs W q D _ St (yN.trans ((ar n2).trans s2)) e2 ?_⟩;rw[s2 _ _ ag,JH St]
theorem cN {H:Hp} {ws:List (Int×Int)} {xs:List V} {i:Nat} {a:Int×Int} (r:a8 H (ws.map a9) xs) (e:ws[i]?=some a):∃p,xs[i]?=some (.ref p)/\H p=some (.tup [.int a.1,.int a.2]):=by
 obtain⟨x,ex,rx⟩:=r.at (d:=a9 a) (i:=i) (by rw[YO,e];rfl);obtain⟨p,rfl,hp⟩:=bQ.mp rx;exact⟨p,ex,hp⟩
theorem iG:aN ["ways"] ["ways"] (au (top 34)):=⟨rfl,rfl,rfl,∅,rfl,∅,∅⟩
theorem An (T:Txt K mg aD tc):bK P w K mg base (bF P w) 1 "total_weight" ["ways"] lA:=by
 refine T.pY.eG (λ_ _ _ _ _ _=>jG λ_=>rfl) λf fd F=>F.eJ iG (λvs H Q E h=>?_) (λcP A outer s H vs Q E hr h=>?_)
 ·obtain⟨_,_,rfl,_⟩:=h;rfl
 ·symm;obtain⟨a,ws,rfl,rf,l5,kk⟩:=h;nofun;have nd:=iG.nd;refine⟨_,(ax (aP (fH (aR mT (aU bu (by rfl) T.z_len Y9 (aa (pv 0) ae)) ao (aT _)) (aU (iW (K:=K)) (by rfl) T.z_sum rfl (aa (bS rfl (N:=["ways"]) (so:=au (top 34)) (N':=["weight","to"]) (k:=2) (fr:=[]) rfl rfl ⟨rfl,∅,∅,∅,rfl,∅,∅⟩ (aZ (K:=K) (pv 0)) (λ_ _ _ _ _=>(bV (K:=K) (n:=2) rfl (aQ (aG (i:=0) (show(["weight","to"]:List Str).Nodup by ac_rfl) rfl (.inl rfl)) (aQ (aG (i:=1) (show(["weight","to"]:List Str).Nodup by ac_rfl) rfl (.inl rfl)) bU)))) (λ_ _ _ _ _=>bH)
   (λ_ _ _ _ _=>(pv 0))) ae (se rfl))) ao))),?_⟩
  symm;obtain⟨_,xs,e,ha,rl⟩:=aM.mp rf;nofun;cases e;have lx:=rl.length;rw[YL] at lx;dsimp?[];refine⟨xs,ha,?_⟩
  by_cases c:ws=[]
  ·subst c;have l0:xs.length=0:=lx.symm;rw[if_neg ⋯];exact kk _ (aA.refl _)
  ·have l0:=List.length_pos_iff.mpr c;rw[if_pos ⋯];refine⟨⟨_,aS.of ha⟩,?_⟩;have S:Src (uO K a) (aA H) ws.length (λi x H H3=>H3=H/\xs[i]?=some x):=by rw[lx];exact src_list (λH' s'=>aS.of (s' _ _ ha))
   refine ij ws (λp=>some p.1) S (λ_ _ _ _ h=>h.1) (by rw[sizeLine_eq];lia) ?_ ?_
   ·rintro i p x ep ⟨_,ex⟩;symm;obtain⟨t,et,ht⟩:=cN rl ep;nofun;rw[ex] at et;cases et;refine⟨t,_,_,rfl,fV.of ht,λY N y1 _=>?_⟩;dsimp?[gm];exact y1 _ rfl
   ·intro D n1 n2;rw[dX];have:=kk _ (ar (o:=.lst (List.map V.int (ws.map λp=>p.1))) n2);unfold Dg.tt at this;rw[if_neg c] at this;exact⟨_,aS.of ag,this⟩
theorem sP (q:Int) (ws:Dg.Wy) (x:Int×Int):Dg.cQ q (ws++ [x])=Dg.cQ q ws+if x.2=q then x.1 else 0:=by
 unfold Dg.cQ;rw[Y5,List.sum_append];simp
theorem lJ:aN ["part","ways","spots","spot","place","rows","row","weight","to"] ["part","ways"] (au (top 35)):=⟨rfl,rfl,rfl,∅,rfl,∅,∅⟩
theorem Eo (T:Txt K mg aD tc):bK P w K mg base (bF P w) 2 "part_rows" ["part","ways"] wd:=by
 have cL:bK P w K mg base (bF P w) 1 "total_weight" ["ways"] lA:=An T;refine T.vP.eG (λ_ _ _ _ _ _=>eO λ_ _=>rfl) λf fd F=>F.eJ lJ (λvs H Q E h=>?_) (λcP A outer s H vs Q E hr h=>?_)
 ·obtain⟨_,_,_,_,_,rfl,_⟩:=h;rfl
 ·symm;obtain⟨x,wl,ps,xs,dF,rfl,hx,hw,rl,GK,Yt,qH,w5,kk⟩:=h;nofun;clear G_;have nd:=lJ.nd;refine⟨_,(af (aE (i:=2) nd rfl (.inl rfl) B8)
  (af (cm PassesOwn.never rfl (cV (K:=K) rfl T.z_enumerate (aa (pv 0) ae)) (bV (K:=K) (n:=2) rfl (aQ (aG (i:=3) nd rfl (.inl rfl)) (aQ (aG (i:=4) nd rfl (.inl rfl)) bU))) (ax (y9 (rO hr) (pv 2) (pv 4) (pv 3) rfl)))
  (af (aE (i:=5) nd rfl (.inl rfl) (cY ae))
  (af (cm PassesOwn.never rfl (cV (K:=K) rfl T.z_enumerate (aa (pv 0) ae)) (bV (K:=K) (n:=2) rfl (aQ (aG (i:=3) nd rfl (.inl rfl)) (aQ (aG (i:=4) nd rfl (.inl rfl)) bU))) (af (aE (i:=6) nd rfl (.inl rfl) (aH pf (cY (aa ao ae)) (aU bu (by rfl) T.z_len Y9 (aa (pv 0) ae))))
  (af (fc (aF cL (hr.mono ∅) rfl aB.pass (aa (aI aJ (pv 1) (pv 4) (λ_ _=>rfl)) ae)) (fI (pv 6) (pv 3) set_list))
  (af (cm PassesOwn.never rfl (aZ (K:=K) (aI aJ (pv 1) (pv 4) (λ_ _=>rfl))) (bV (K:=K) (n:=2) rfl (aQ (aG (i:=7) nd rfl (.inl rfl)) (aQ (aG (i:=8) nd rfl (.inl rfl)) bU))) (ax (bT (xE (B7 (rO hr) (pv 8) (pv 2))) (ax (yV (pv 6) (FC (rO hr) (pv 2) (pv 8) (λ_ _=>rfl)) vL (pv 7) Iw set_list))
   bo)))
  (ax (dC (fj Zq ZK ZL cH.r (pv 5) (aa (pv 6) ae))))))))
  (ax (aP (pv 5))))))),?_⟩
  refine(?_:let cn:TS:=_;let cu:TS:=_;let cv:TS:=_;let dU:TS:=_;let iF:TS:=_;tSeq cn (tSeq cu (tSeq cv (tSeq dU iF))) _ _ _);intro cn cu cv dU iF;have sl:=sizeLine_eq;have lx:=rl.length;rw[YL] at lx;subst_vars;refine ba (λN=>∀H1 d,aA H H1->H d=none->H1 d=some (.dK [])->N [~~~x,~~~wl,~~~d,none,none,none,none,none,none] H1) ?_ (λN hN=>?_)
  case refine_2=>
   dsimp?[];exact λd n1=>hN _ d (ar n1) n1 ag
  rintro H1 d s1 n1 hd;subst_vars;refine ba (λN=>∀H2,aA H H2->H2 d=some (.dK (iZ ps))->∀z3 z4,N [~~~x,~~~wl,~~~d,z3,z4,none,none,none,none] H2) ?_ (λN hN=>?_)
  case refine_2=>
   dsimp?[];refine⟨⟨_,aS.of (s1 _ _ hx)⟩,bJ (fN (K:=K) (a:=x) (xs:=ps.map V.int) (Ok:=aA H) (λH' s=>aS.of (s _ _ hx))) (λi σ H3=>aA H H3/\H3 d=some (.dK (iZ (ps.take i)))/\∃z3 z4,σ=[~~~x,~~~wl,~~~d,z3,z4,none,none,none,none]) ⟨s1,hd,_,_,rfl⟩ (λ_ _ _ _ h=>h.1) ?_ ?_⟩
   ·intro i y σ H3 H4 hi dO d5;symm;obtain⟨s3,Oi,z3,z4,rfl⟩:=dO;obtain⟨q,y,nq,rfl,ey,rfl⟩:=d5;nofun;clear G_;rw[YL] at hi;have ep:ps[i]?=some (ps.getD i 0):=by rw[YN,YM hi];rfl
    rw[YO,ep] at ey;cases ey;refine⟨q,_,rfl,fV.of ag,rfl,?_⟩;have s4:=ar (o:=.tup [.int (i:Int),.int (ps.getD i 0)]) nq;generalize upd H3 q (.tup [.int (i:Int),.int (ps.getD i 0)])=H4 at *;have Mo:ps.getD i 0∉ps.take i:=by
     intro z;symm;obtain⟨j,hj,ej⟩:=Zi z;nofun;rw[Zf] at hj;rw[List.getElem_take] at ej;have eg:ps.getD i 0=ps[i]:=by rw[YN,YM hi];rfl
     have:=(ZU GK).mp (ej.trans eg);lia
    have pt:=xW.k (k:=Sum.inl (ps.getD i 0)) (v:=.int (i:Int)) (s4 _ _ Oi) (by unfold iZ;rw[YL,Y6,Zf];lia);rw[vf _ (wm Mo),<-Bi hi] at pt;dsimp?[];exact⟨_,pt,aX (s3.trans s4) n1,ag,_,rfl⟩
   ·intro σ H3 dW;symm;obtain⟨s3,Oi,z3,z4,rfl⟩:=dW;nofun;rw[YL,Zg (YR _)] at Oi;exact hN _ s3 Oi _ _
  rintro H2 s2 hd2 z3 z4;subst_vars;refine ba (λN=>∀H3 r,aA H2 H3->H2 r=none->H3 r=some (.lst [])->N [~~~x,~~~wl,~~~d,z3,z4,~~~r,none,none,none] H3) ?_ (λN hN=>?_)
  case refine_2=>
   dsimp?[];exact⟨Y1 _,λr n3=>hN _ r (ar n3) n3 ag⟩
  rintro H3 r s3 nr VG;subst_vars;refine ba (λN=>∀H4,aA H2 H4->(∃L,qJ H4 r L/\Dg.j8 ps (bf dF) L)->∀z3 z4 z6 z7 z8,N [~~~x,~~~wl,~~~d,z3,z4,~~~r,z6,z7,z8] H4) ?_ (λN hN=>?_)
  case refine_2=>
   dsimp?[];refine⟨⟨_,aS.of (s3 _ _ (s2 _ _ hx))⟩,bJ (fN (K:=K) (a:=x) (xs:=ps.map V.int) (Ok:=aA H2) (λH' s=>aS.of (s _ _ (s2 _ _ hx)))) (λi σ H4=>aA H2 H4/\(∃(Ls:List (List Int)) (ys:List V),H4 r=some (.lst ys)/\Al (Rw (c6 H4 r)) Ls ys/\Ls.length=i/\(∀row∈Ls,row.length=ps.length)/\∀a j,a<i->j<ps.length->(Ls.getD a []).getD j 0=(if a=j then Dg.tt (bf dF (ps.getD a 0)) else 0) - Dg.cQ (ps.getD j 0) (bf dF (ps.getD a 0)))/\∃z3 z4 z6 z7 z8,σ=[~~~x,~~~wl,~~~d,z3,z4,~~~r,z6,z7,z8]) ⟨s3,⟨[],[],VG,trivial,rfl,by simp,λa j h=>absurd h (ZF _)⟩,_,_,_,_,_,rfl⟩ (λ_ _ _ _ h=>h.1) ?_ ?_⟩
   ·intro i y σ H4 H5 hi dO d5;symm;obtain⟨s4,⟨Ls,ys,Oj,Ol,ll,J8,GL⟩,z3,z4,z6,z7,z8,rfl⟩:=dO;obtain⟨q,y,nq,rfl,ey,rfl⟩:=d5;nofun;clear G_;rw[YL] at hi;have ep:ps[i]?=some (ps.getD i 0):=by rw[YN,YM hi];rfl
    rw[YO,ep] at ey;cases ey;have mp:ps.getD i 0∈ps:=YQ ep;obtain⟨p0,p1⟩:=qH _ mp;have ew:dF[(ps.getD i 0).toNat]?=some (bf dF (ps.getD i 0)):=by unfold bf;rw[YN (l:=dF),YM (show(ps.getD i 0).toNat<dF.length by lia)];rfl
    have VH:=w5 _ (YQ ew);generalize hp:ps.getD i 0=p at *;generalize Ep:bf dF p=ws at *;refine⟨q,_,rfl,fV.of ag,rfl,?_⟩;have s5:=ar (o:=.tup [.int (i:Int),.int p]) nq;generalize upd H4 q (.tup [.int (i:Int),.int p])=H5 at *;obtain⟨v,ev,rv⟩:=rl.at (d:=oP ws) (i:=p.toNat) (by rw[YO,ew];rfl);symm;obtain⟨wv,us,rfl,Bv,ru⟩:=aM.mp rv;nofun;clear G_;have E6:eV xs p=some (.ref wv):=by have:=bA ev;rwa [Z3 p0] at this
    have lu:=ru.length;rw[YL] at lu;dsimp?[AJ,lA];have Sx:=s4.trans s5;refine⟨∅,λm1 k1=>?_⟩;have s6:=ar (o:=.lst [.int 0]) k1;have h6:upd H5 m1 (.lst [.int 0]) m1=some (.lst [.int 0]):=ag;generalize upd H5 m1 (.lst [.int 0])=H6 at *;have Qg:(ps.map V.int).length=ps.length:=YL ..;refine⟨_,s6 _ _ (Sx _ _ (s2 _ _ hx)),_,h6,⋯,⋯,by rw[Qg,YS];show 1*ps.length<=_;lia,λro k2=>?_⟩;rw[Qg,YS,List.flatten_replicate_singleton];have s7:=ar (o:=.lst (aaz ps.length (V.int 0))) k2;have h7:upd H6 ro (.lst (aaz ps.length (V.int 0))) ro=some (.lst ((aaz ps.length 0).map V.int)):=by rw[ag,List.map_replicate]
    generalize upd H6 ro (.lst (aaz ps.length (V.int 0)))=H7 at *;have K1:=Sx.trans s6;have MM:=K1.trans s7;refine⟨_,MM _ _ (s2 _ _ hw),_,E6,wv,rfl,ws,rv.mono (s2.trans MM),VH,λH8 s8=>⟨_,s8 _ _ h7,i,fC (by rw[YL,Zr];exact hi),?_⟩⟩;rw[<-List.map_set];have s9:aA H6 (upd H8 ro (.lst (((aaz ps.length 0).set i (Dg.tt ws)).map V.int))):=aX (s7.trans s8) k2;have h9:upd H8 ro (.lst (((aaz ps.length 0).set i (Dg.tt ws)).map V.int)) ro=some (.lst (((aaz ps.length 0).set i (Dg.tt ws)).map V.int)):=ag;generalize upd H8 ro (.lst (((aaz ps.length 0).set i (Dg.tt ws)).map V.int))=H9 at *;have K2:=K1.trans s9;have Sy:=s2.trans K2;refine⟨_,Sy _ _ hw,_,E6,wv,rfl,⟨_,aS.of (Sy _ _ Bv)⟩,bJ (src_list (K:=K) (a:=wv) (xs:=us) (Ok:=aA H6) (λH' s'=>aS.of ((s2.trans (K1.trans s')) _ _ Bv))) (λt σ HA=>aA H6 HA/\(∃kc:List Int,HA ro=some (.lst (kc.map V.int))/\kc.length=ps.length/\∀j,j<ps.length->kc.getD j 0=(if i=j then Dg.tt ws else 0) - Dg.cQ (ps.getD j 0) (ws.take t))/\∃z7 z8,σ=[~~~x,~~~wl,~~~d,some (.int (i:Int)),some (.int p),~~~r,~~~ro,z7,z8]) ⟨s9,⟨_,h9,by rw[Zh,Zr],λj hj=>?_⟩,_,_,rfl⟩ (λ_ _ _ _ h=>h.1) ?_ ?_⟩
    ·show _=_ - 0
     by_cases c:i=j
     ·subst c;rw[Dg.d7 (by rw[Zr];exact hj),if_pos rfl];lia
     ·rw[Dg.c8 c,if_neg c,YN,aag,if_pos hj];rfl
    ·intro t y σ HA HB ht dO d5;symm;obtain⟨sA,⟨kc,MN,Om,ent⟩,z7,z8,rfl⟩:=dO;obtain⟨rfl,ey⟩:=d5;have et:ws[t]?=some ws[t]:=YM ⋯;obtain⟨ta,eta,VI⟩:=cN (ru.mono (s2.trans (K1.trans sA))) et;nofun;clear G_;rw[ey] at eta;cases eta;refine⟨ta,_,rfl,fV.of VI,rfl,?_⟩;have tk:ws.take (t+1)=ws.take t++ [ws[t]]:=by rw[Zc,et];rfl
     generalize ws[t]=xw at *;have SA:=(K1.trans sA) _ _ hd2;dsimp?[BO,NG]
     by_cases c:xw.2∈ps
     ·have lt:=Zz c;have Qh:ps.getD (ps.idxOf xw.2) 0=xw.2:=by rw[YN,YM lt,ZJ lt];rfl
      have sv:=DI GK lt;rw[Qh] at sv;have gt:mh HB d (.int xw.2) (some (.int (ps.idxOf xw.2:Nat))):=.inl ⟨_,Sum.inl xw.2,.inl SA,rfl,sv.symm⟩;refine⟨some (.int (ps.idxOf xw.2:Nat)),gt,?_⟩;rw[if_pos (by rfl)];generalize hk:ps.idxOf xw.2=k at *;have Qi:eV (kc.map V.int) (k:Int)=some (.int (kc.getD k 0)):=by have:=dP (ns:=kc) (i:=(k:Int)) ⋯ ⋯;rwa [YS] at this
      refine⟨_,gt,_,_,rfl,MN,_,Qi,_,rfl,_,_,rfl,MN,k,fC (by rw[YL];lia),aX sA k2,⟨kc.set k (kc.getD k 0 - xw.1),by rw[ag,List.map_set],by rw[Zh];exact Om,λj hj=>?_⟩,_,rfl⟩;rw[tk,sP]
      by_cases cj:k=j
      ·subst cj;rw[Dg.d7 ⋯,ent k hj,if_pos Qh.symm];lia
      ·rw[Dg.c8 cj,ent j hj,if_neg (show ¬xw.2=ps.getD j 0 from λz=>cj ?_)]
       ·lia
       ·have ej:ps.getD j 0=ps[j]:=by rw[YN,YM hj];rfl
        have ek:ps.getD k 0=ps[k]:=by rw[YN,YM lt];rfl
        exact(ZU GK).mp (by rw[<-ek,<-ej,Qh,z])
     ·refine⟨none,.inl ⟨_,Sum.inl xw.2,.inl SA,rfl,(wm c).symm⟩,?_⟩;rw[if_neg (by simp)];refine⟨sA,⟨kc,MN,Om,λj hj=>?_⟩,_,rfl⟩;have mj:ps.getD j 0∈ps:=by rw[YN,YM hj];exact YV hj
      rw[ent j hj,tk,sP,if_neg (show ¬xw.2=ps.getD j 0 from λz=>c (by rw[z];exact mj))];lia
    ·intro σ HA dW;symm;obtain⟨sA,⟨kc,MN,Om,ent⟩,z7,z8,rfl⟩:=dW;nofun;rw[Zg ⋯] at ent;dsimp?[dD];have SD:=s5.trans (s6.trans sA);have SE:=SD _ _ Oj;have VJ:ro≠r:=λz=>by rw[z,(s5.trans s6) _ _ Oj] at k2;cases k2
     have ly:=Ol.length;refine⟨.inl ⟨rfl,_,aS.of SE⟩,ys,SE,⋯,aX (K1.trans sA) nr,⟨Ls++ [kc],ys++ [.ref ro],ag,Rw.push (Ol.imp λ_ _ k=>k.mono (b9 SD)) MN VJ,by rw[Y7,ll];rfl,λrow J6=>?_,λa j ha hj=>?_⟩,_,rfl⟩
     ·rcases List.mem_append.mp J6 with h | h
      ·exact J8 row h
      ·rw[aav.mp h];exact Om
     ·by_cases c:a=i
      ·subst c;rw[show(Ls++ [kc]).getD a []=kc from by rw[YN,Zn ⋯,ll,Nat.sub_self];rfl,hp,Ep];exact ent j hj
      ·rw[show(Ls++ [kc]).getD a []=Ls.getD a [] from by rw[YN,Zm ⋯,<-YN]];exact GL a j ⋯ hj
   ·intro σ H4 dW;symm;obtain⟨s4,⟨Ls,ys,Oj,Ol,ll,J8,GL⟩,z3,z4,z6,z7,z8,rfl⟩:=dW;nofun;rw[YL] at ll GL;exact hN _ s4 ⟨Ls,⟨ys,Oj,Ol.imp λ_ _ k=>k.mono b8⟩,ll,J8,GL⟩ _ _ _ _ _
  intro H4 s4 dW z3 z4 z6 z7 z8;symm;obtain⟨L,h1,h2⟩:=dW;nofun;dsimp?[];exact kk _ _ _ (s2.trans s4) h1 h2
theorem gf:aN ["one","other","rest"] ["one","other"] (au (top 6)):=⟨rfl,rfl,rfl,∅,rfl,∅,∅⟩
theorem Hz (T:Txt K mg aD tc):bK P w K mg base (bF P w) 1 "common_divisor" ["one","other"] Bj:=by
 refine T.mH.eG (λ_ _ _ _ _ _=>eO λ_ _=>rfl) λf fd F=>F.eJ gf (λvs H Q E h=>?_) (λcP A outer s H vs Q E hr h=>?_)
 ·obtain⟨_,_,rfl,_⟩:=h;rfl
 ·symm;obtain⟨a,b,rfl,k⟩:=h;nofun;have nd:=gf.nd;refine⟨_,(af (aE (i:=0) nd rfl (.inl rfl) (aU o8 (by rfl) T.z_abs rfl (aa (pv 0) ae)))
  (af (aE (i:=1) nd rfl (.inl rfl) (aU o8 (by rfl) T.z_abs rfl (aa (pv 1) ae)))
  (af (iP PassesOwn.never (aR rE (pv 1) ao (aT _)) (af (aE (i:=2) nd rfl (.inl rfl) (aH dh (pv 0) (pv 1)))
  (af (aE (i:=0) nd rfl (.inl rfl) (pv 1))
  (ax (aE (i:=1) nd rfl (.inl rfl) (pv 2))))))
  (ax (aP (pv 0)))))),?_⟩
  refine(?_:let cn:TS:=_;let cu:TS:=_;let cv:TS:=_;let dU:TS:=_;tSeq cn (tSeq cu (tSeq cv dU)) _ _ _);intro cn cu cv dU;dsimp?[];refine u6 (λσ H1=>H1=H/\∃(x y:Int) (z:Option V),σ=[some (.int x),some (.int y),z]/\0<=x/\0<=y/\Nm.g x y=Nm.g a b) (λσ _=>match σ with | [_,some (.int y),_]=>y.toNat | _=>0) ?_ ?_ ?_
  ·refine⟨rfl,_,_,_,rfl,?_,?_,?_⟩
   ·split <;>lia
   ·split <;>lia
   ·rw[show(if a<0 then -a else a)=(a.natAbs:Int) by split <;>lia,show(if b<0 then -b else b)=(b.natAbs:Int) by split <;>lia,Nm.Cb,Nm.zb]
  ·intro σ H1 dW;symm;obtain⟨rfl,x,y,z,rfl,x0,y0,e⟩:=dW;nofun;dsimp?[];refine ib (λc=>?_) (λc=>?_)
   ·refine⟨⋯,y0,ZM _ ⋯,by rw[Nm.Cc x0 ⋯,e],?_⟩;have:=Z4 x (show 0<y by lia);have:=ZM x (show y≠0 by lia);lia
   ·have z:y=0:=⋯
    subst z;rw[Nm.Cd x0] at e;rw[e];exact k
  ·intro σ H1 Q1 Q2 hq hc;simp only[L2.start,Pr,tRev,tD1,tDPop1,tSl,tNoPart,tPart,rSlL,tDIn,tDNotIn,gSub,rSetL,tLst,tDNewK,tComp,L2.stC,tFor_eq,iList,iTup,iRng1,iRng2,iZip,iEnum,iDict,iStr,tChain,tSumV,tBM,tRaise,tDGet,tDGet2,tDGet1,sDPut,Option.join_some,List.getElem?_nil,tSeq,tRet,tRetN,tIfS,tTest,tB,tOp,tUn,tVar,tC,tCB,tCons,tNil,tCall,tTupS,tAsg,gName,gNil,gCons,tPar,tNext,tDrop,tAnd,tOr,tNot,tAndV,tOrV,tNotV,tIf,rI,rI0,rU,rIxTH,rIxLH,rEqT,rNeT,rInT,rEq,rNe,scal_ss,scal_ii,scal_bb,scal_si,scal_is,CPow,at0,at1,at2,Y8,ZE,YZ,ZW,Nat.reduceSub,Nat.reduceAdd,ZI,aai,List.reduceReplicate,ZD,List.nil_append,aab,aac,Z6,ZY,ZZ,aad,exists_eq_left',exists_eq_left,V.ref.injEq,V.int.injEq,V.bl.injEq,V.str.injEq,V.ty.injEq,HO.tup.injEq,HO.lst.injEq,List.cons.injEq,and_true,true_and,and_assoc,exists_and_left,decide_eq_true_eq,Bool.not_eq_true',decide_eq_false_iff_not,ite_true,ite_false,if_true,if_false,Int.reduceToNat,eq_self_iff_true] at hc ⊢;symm;obtain⟨v,e1,e2,q⟩:=hc;nofun;exact⟨v,e1,e2,hq _ _ q⟩
theorem gS:aN ["several","common","one"] ["several"] (au (top 9)):=⟨rfl,rfl,rfl,∅,rfl,∅,∅⟩
theorem MO (T:Txt K mg aD tc):bK P w K mg base (bF P w) 2 "common_bottom" ["several"] JI:=by
 have eU:bK P w K mg base (bF P w) 1 "common_divisor" ["one","other"] Bj:=Hz T;refine T.nO.eG (λ_ _ _ _ _ _=>jG λ_=>rfl) λf fd F=>F.eJ gS (λvs H Q E h=>?_) (λcP A outer s H vs Q E hr h=>?_)
 ·obtain⟨_,_,_,rfl,_⟩:=h;rfl
 ·symm;obtain⟨a,ws,Z,rfl,rf,lw,dv,Z0,bZ,kk⟩:=h;nofun;have nd:=gS.nd;refine⟨_,(af (aE (i:=1) nd rfl (.inl rfl) ao)
  (af (cm PassesOwn.never rfl (aZ (K:=K) (pv 0)) (aG (i:=2) nd rfl (.inl rfl)) (ax (aE (i:=1) nd rfl (.inl rfl) (aH aV (aH eX (pv 1) (aF eU (hr.mono ∅) rfl aB.pass (aa (pv 1) (aa (aI aL (pv 2) ao (λ_ _=>rfl)) ae)))) (aI aL (pv 2) ao (λ_ _=>rfl))))))
  (ax (aP (pv 1))))),?_⟩
  refine(?_:let cn:TS:=_;let cu:TS:=_;let cv:TS:=_;tSeq cn (tSeq cu cv) _ _ _);intro cn cu cv;symm;obtain⟨_,xs,e,ha,rl⟩:=aM.mp rf;nofun;cases e;have lx:=rl.length;rw[YL] at lx;dsimp?[Bj];refine⟨⟨_,aS.of ha⟩,bJ (src_list (Ok:=λH'=>H'=H) (λH2 s2=>by rw[s2];exact aS.of ha)) (λi σ H'=>H'=H/\∃z,σ=[some (V.ref a),some (V.int (Wq.fB 1 (ws.take i))),z]) ⟨rfl,_,rfl⟩ (λ_ _ _ _ h=>h.1) ?_ ?_⟩
  ·intro i v σ H1 H2 hi dO d5;symm;obtain⟨rfl,z,rfl⟩:=dO;obtain⟨rfl,ex⟩:=d5;have uv:i<ws.length:=⋯
   have ew:ws[i]?=some ws[i]:=YM uv;obtain⟨p,ep,hp⟩:=cN rl ew;nofun;rw[ex] at ep;cases ep;have tk:ws.take (i+1)=ws.take i++ [ws[i]]:=by rw[Zc,ew];rfl
   symm;obtain⟨l1,l2,l3,l4⟩:=Wq.kX (xs:=ws.take i) (c:=1) ∅ λx hx=>(dv x (List.mem_of_mem_take hx)).1;nofun;have lz:=l4 (Z:=Z) ⟨Z,⋯⟩ λx hx=>(dv x (List.mem_of_mem_take hx)).2;have dw:=dv _ (YV uv);have b1:Bt 2000 (Wq.fB 1 (ws.take i)):=bZ.le (by have:=ZQ Z0 lz;lia);have b2:Bt 2000 (ws[i]).2:=bZ.le (by have:=ZQ Z0 dw.2;lia);have g0:0<Nm.g (Wq.fB 1 (ws.take i)) (ws[i]).2:=Nm.pF ⋯;have bg:Bt 2000 (Nm.g (Wq.fB 1 (ws.take i)) (ws[i]).2):=b2.le (by have:=Nm.IS (a:=Wq.fB 1 (ws.take i)) dw.1;lia);dsimp?[Bj,hp];exact⟨gF.of g0 bg,Bt.dH (b1.le (Nm.fL g0 (Nm.oB _ _))) b2,by rw[tk,Wq.rY];rfl,_,rfl⟩
  ·intro σ H1 dW;symm;obtain⟨rfl,z,rfl⟩:=dW;nofun;dsimp?[];rw[Zg ⋯];exact kk
theorem wU:aN ["top","bottom","divisor"] ["top","bottom"] (au (top 7)):=⟨rfl,rfl,rfl,∅,rfl,∅,∅⟩
theorem HG (T:Txt K mg aD tc):bK P w K mg base (bF P w) 2 "share" ["top","bottom"] DJ:=by
 have eU:bK P w K mg base (bF P w) 1 "common_divisor" ["one","other"] Bj:=Hz T;refine T.F5.eG (λ_ _ _ _ _ _=>eO λ_ _=>rfl) λf fd F=>F.eJ wU (λvs H Q E h=>?_) (λcP A outer s H vs Q E hr h=>?_)
 ·obtain⟨_,_,rfl,_⟩:=h;rfl
 ·symm;obtain⟨a,b,rfl,bt,b0,kq⟩:=h;nofun;have nd:=wU.nd;refine⟨_,(af (bT (aR cF (pv 1) ao (aT _)) (ax oY)
   bo)
  (af (aE (i:=2) nd rfl (.inl rfl) (aF eU (hr.mono ∅) rfl aB.pass (aa (pv 0) (aa (pv 1) ae))))
  (af (bT (aR o5 (pv 1) ao (aT _)) (ax (aE (i:=2) nd rfl (.inl rfl) (BQ xI (pv 2))))
   bo)
  (ax (aP (cy (aa (aH eX (pv 0) (pv 2)) (aa (aH eX (pv 1) (pv 2)) ae)))))))),?_⟩
  refine(?_:let cn:TS:=_;let cu:TS:=_;let cv:TS:=_;let dU:TS:=_;tSeq cn (tSeq cu (tSeq cv dU)) _ _ _);intro cn cu cv dU;have g0:0<Nm.g a b:=Nm.pF ⋯;have gb:Bt 5000 (Nm.g a b):=bt.le (by have:=Nm.Ce (a:=a) (show b≠0 by lia);lia);unfold Nm.st Nm.sb at kq;rw[if_neg (show ¬b<0 by lia),if_neg (show ¬b<0 by lia)] at kq;dsimp?[Bj];rw[if_neg ⋯,if_neg ⋯];exact⟨gF.of g0 gb,gF.of g0 gb,∅,λp H2 s1 n1 e=>kq p H2 s1 n1 e⟩
theorem qB:aN ["place"] ["place"] (au (top 37)):=⟨rfl,rfl,rfl,∅,rfl,∅,∅⟩
theorem HI (T:Txt K mg aD tc):bK P w K mg base (bF P w) 1 "gain_of" ["place"] Bl:=by
 refine T.A9.eG (λ_ _ _ _ _ _=>jG λ_=>rfl) λf fd F=>F.eJ qB (λvs H Q E h=>?_) (λcP A outer s H vs Q E hr h=>?_)
 ·obtain⟨_,_,rfl,_⟩:=h;rfl
 ·symm;obtain⟨a,q,rfl,rq,kk⟩:=h;nofun;have nd:=qB.nd;refine⟨_,(ax (aP (fH (aR cF (aI aL (pv 0) ao (λ_ _=>rfl)) c9 (aT _)) (cy (aa ao (aa ao ae))) (aI aL (pv 0) ao (λ_ _=>rfl))))),?_⟩;cases q with
  | fin g=>
   symm;obtain⟨t',r,e,je,Ek⟩:=dM.mp rq;nofun;cases e;dsimp?[je];rw[if_neg ∅];exact kk _ _ (aA.refl _) Ek
  | d6 g ws=>
   symm;obtain⟨t',r,l,zs,e,je,Ek,vG,rz⟩:=dE.mp rq;nofun;cases e;dsimp?[je];rw[if_neg ∅];exact kk _ _ (aA.refl _) Ek
  | cA w to=>
   symm;obtain⟨t',l,e,je,vG⟩:=cM.mp rq;nofun;cases e;dsimp?[je];exact⟨∅,λp H2 s2 _ e2=>kk _ _ s2 e2⟩
theorem gU:aN ["self","tops","bottom"] ["self","tops","bottom"] (au (inClass (top 36) 0)):=⟨rfl,rfl,rfl,∅,rfl,∅,∅⟩
theorem Ao (T:Txt K mg aD tc):pR P w K mg base (bF P w) 1 "Book" aD ["self","tops","bottom"] (DK aD):=by
 refine T.Gb.eG (λ_ _ _ _ _ _=>nV λ_ _ _=>rfl) λf fd F=>F.eJ gU (λvs H Q E h=>?_) (λcP A outer s H vs Q E hr h=>?_)
 ·obtain⟨_,_,_,_,_,rfl,_⟩:=h;rfl
 ·symm;obtain⟨x,dx,l,ts,b,rfl,hx,hl,kk⟩:=h;nofun;have nd:=gU.nd;refine⟨_,(af (BX (pv 0) (cG (bD (K:=K)) (by rfl) T.z_list rfl (aa (pv 1) ae)) rfl)
  (ax (BX (pv 0) (pv 2) rfl))),?_⟩
  dsimp?[Lu];refine⟨_,.inl (aS.of hl),λm nm=>?_⟩;have mx:m≠x:=λz=>by rw[z,hx] at nm;cases nm
  have VL:upd H m (.lst (ts.map V.int)) x=some (.ins aD dx []):=by rw[aK (Ne.symm mx)];exact hx
  refine⟨_,_,_,VL,T.bP,T.na_Book_tops,∅,_,_,_,ag,T.bP,T.na_Book_bottom,by show(1:Nat)<1000;decide,?_⟩;refine kk m _ nm ?_ ?_ ?_
  ·rw[aK mx,aK mx,ag]
  ·rw[ag];show some (HO.ins aD dx (if YK "tops"=YK "bottom" then _ else _))=_;rw[if_neg ∅];rfl
  ·intro y o ny hy;have ym:y≠m:=λz=>by rw[z,nm] at hy;cases hy
   rw[aK ny,aK ny,aK ym];exact hy
theorem qC:aN ["several","bottom"] ["several"] (au (top 38)):=⟨rfl,rfl,rfl,∅,rfl,∅,∅⟩
theorem HJ (T:Txt K mg aD tc):bK P w K mg base (bF P w) 3 "book_of" ["several"] (DM aD):=by
 have nY:bK P w K mg base (bF P w) 2 "common_bottom" ["several"] JI:=MO T;have kf:pR P w K mg base (bF P w) 1 "Book" aD ["self","tops","bottom"] (DK aD):=Ao T;refine T.Ba.eG (λ_ _ _ _ _ _=>jG λ_=>rfl) λf fd F=>F.eJ qC (λvs H Q E h=>?_) (λcP A outer s H vs Q E hr h=>?_)
 ·obtain⟨_,_,_,rfl,_⟩:=h;rfl
 ·symm;obtain⟨a,ws,Z,rfl,rf,lw,dv,Z0,bZ,kk⟩:=h;nofun;clear G_;have nd:=qC.nd;refine⟨_,(af (aE (i:=1) nd rfl (.inr rfl) (aF nY (hr.mono ∅) rfl aB.pass (aa (pv 0) ae)))
  (ax (aP (zu kf (hr.mono ∅) rfl aB.pass (aa (bS rfl (N:=["several","bottom"]) (so:=au (top 38)) (N':=["one","bottom"]) (k:=1) (fr:=[1]) rfl rfl ⟨rfl,∅,∅,∅,rfl,∅,∅⟩ (aZ (K:=K) (pv 0)) (λ_ _ _ _ _=>(aG (i:=0) (show(["one","bottom"]:List Str).Nodup by ac_rfl) rfl (.inl rfl))) (λ_ _ _ _ _=>bH)
   (λ_ _ _ _ _=>(aH aV (aI aL (pv 0) ao (λ_ _=>rfl)) (aH eX (pv 1) (aI aL (pv 0) ao (λ_ _=>rfl)))))) (aa (pv 1) ae) (se rfl)))))),?_⟩
  dsimp?[JI,rF];refine⟨ws,rf,lw,Z,λx hx=>⟨(dv x hx).1,(dv x hx).2.1⟩,Z0,bZ,?_⟩;symm;obtain⟨_,xs,e,ha,rl⟩:=aM.mp rf;nofun;clear G_;cases e;have lx:=rl.length;rw[YL] at lx;refine⟨⟨_,aS.of ha⟩,?_⟩;symm;obtain⟨l1,l2,l3,l4⟩:=Wq.kX (xs:=ws) (c:=1) ∅ λx hx=>(dv x hx).1;nofun;clear G_;have lz:=l4 (Z:=Z) ⟨Z,⋯⟩ λx hx=>(dv x hx).2.1;have b1:Bt 2000 (Wq.fB 1 ws):=bZ.le (by have:=ZQ Z0 lz;lia);have S:Src (uO K a) (aA H) ws.length (λi x H H3=>H3=H/\xs[i]?=some x):=by rw[lx];exact src_list (λH' s'=>aS.of (s' _ _ ha))
  refine dz ws (λx=>some (Wq.sc (Wq.fB 1 ws) x)) S (λ_ _ _ _ h=>h.1) (by rw[sizeLine_eq];lia) ?_ ?_
  ·rintro i x v ep ⟨_,ex⟩ Y N y1 _;symm;obtain⟨t,et,ht⟩:=cN rl ep;nofun;rw[ex] at et;cases et;have dx:=dv x (YQ ep);have b2:Bt 2000 x.2:=bZ.le (by have:=ZQ Z0 dx.2.1;lia);dsimp?[gm,ht];exact⟨gF.of dx.1 b2,Bt.dH dx.2.2 (b1.le (Nm.fL dx.1 (l3 x (YQ ep)))),y1 _ rfl⟩
  ·intro D n1 n2 x dx nx Qj ne;rw[dX] at nx Qj ⊢;have s1:=ar (H:=H) (o:=.lst (List.map V.int (ws.map (Wq.sc (Wq.fB 1 ws))))) n2;have hD:upd H D (.lst (List.map V.int (ws.map (Wq.sc (Wq.fB 1 ws))))) D=some _:=ag;have s2:=s1.trans (ar (o:=.own x) Qj);have J9:=ar (o:=.own x) Qj _ _ hD;generalize upd H D (.lst (List.map V.int (ws.map (Wq.sc (Wq.fB 1 ws)))))=H1 at *;have xD:D≠x:=λz=>by rw[z,nx] at hD;cases hD
   refine⟨x,dx,D,_,_,rfl,ag,by rw[aK xD];exact J9,λm H' nm hm nG ky=>⟨rfl,kk x H' (λy o hy=>?_) ⟨dx,m,nG,hm⟩⟩⟩;have yx:y≠x:=λz=>by have:=s1 _ _ hy;rw[z,nx] at this;cases this
   exact ky y o yx (by rw[aK yx];exact s2 _ _ hy)
theorem HK {a b:V}:List.lookup (YK "scaled") [(("tops":Str),a),(("bottom":Str),b)]=none:=rfl
theorem gW {a b:V}:List.lookup (YK "tops") [(("tops":Str),a),(("bottom":Str),b)]=some a:=rfl
theorem wV {a b:V}:List.lookup (YK "bottom") [(("tops":Str),a),(("bottom":Str),b)]=some b:=rfl
theorem jf:aN ["self","factor"] ["self","factor"] (au (inClass (top 36) 1)):=⟨rfl,rfl,rfl,∅,rfl,∅,∅⟩
theorem Er (T:Txt K mg aD tc):jK P w K mg base (bF P w) 3 aD "scaled" ["self","factor"] (DL aD):=by
 have kf:pR P w K mg base (bF P w) 1 "Book" aD ["self","tops","bottom"] (DK aD):=Ao T;refine T.p9.eG (λ_ _ _ _ _ _=>eO λ_ _=>rfl) λf fd F=>F.eJ jf (λvs H Q E h=>?_) (λcP A outer s H vs Q E hr h=>?_)
 ·obtain⟨_,_,_,rfl,_⟩:=h;rfl
 ·symm;obtain⟨x,S,d,rfl,⟨dx,m,hx,hm⟩,bd,bb,bt,ln,kk⟩:=h;nofun;clear G_;have nd:=jf.nd;refine⟨_,(ax (aP (zu kf (hr.mono ∅) rfl aB.pass (aa (bS rfl (N:=["self","factor"]) (so:=au (inClass (top 36) 1)) (N':=["top","factor"]) (k:=1) (fr:=[1]) rfl rfl ⟨rfl,∅,∅,∅,rfl,∅,∅⟩ (aZ (K:=K) (dN (pv 0) rfl)) (λ_ _ _ _ _=>(aG (i:=0) (show(["top","factor"]:List Str).Nodup by ac_rfl) rfl (.inl rfl))) (λ_ _ _ _ _=>bH)
   (λ_ _ _ _ _=>(aH aV (pv 0) (pv 1)))) (aa (aH aV (dN (pv 0) rfl) (pv 1)) ae) (se rfl))))),?_⟩
  dsimp?[iR,rF];refine⟨_,_,_,hx,T.bP,T.na_Book_tops,_,gW,m,rfl,⟨_,aS.of hm⟩,?_⟩;have S':Src (uO K m) (aA H) S.1.length (λi x H H3=>H3=H/\(S.1.map V.int)[i]?=some x):=by
   have:=src_list (K:=K) (a:=m) (xs:=S.1.map V.int) (Ok:=aA H) (λH' s'=>aS.of (s' _ _ hm))
   rwa [YL] at this
  refine dz S.1 (λt=>some (t*d)) S' (λ_ _ _ _ h=>h.1) (by rw[sizeLine_eq];lia) ?_ ?_
  ·rintro i t v et ⟨_,ex⟩ Y N y1 _;rw[YO,et] at ex;cases ex;dsimp?[gm];exact⟨(bt t (YQ et)).dH bd,y1 _ rfl⟩
  ·intro D n1 n2;rw[dX];have s1:=ar (H:=H) (o:=.lst (List.map V.int (S.1.map (·*d)))) n2;have hD:upd H D (.lst (List.map V.int (S.1.map (·*d)))) D=some (.lst (List.map V.int (S.1.map (·*d)))):=ag;generalize upd H D (.lst (List.map V.int (S.1.map (·*d))))=H1 at *;refine⟨_,_,_,s1 _ _ hx,T.bP,T.na_Book_bottom,_,wV,_,rfl,bb.dH bd,λy dy ny HL ne=>?_⟩;have s2:=s1.trans (ar (o:=.own y) HL);have J9:=ar (o:=.own y) HL _ _ hD;have xD:D≠y:=λz=>by rw[z,ny] at hD;cases hD
   refine⟨y,dy,D,_,_,rfl,ag,by rw[aK xD];exact J9,λm' H' nm E7 nG ky=>⟨rfl,kk y dy m' H' (λz o hz=>?_) (none_of s1 ny) ?_ nG E7⟩⟩
   ·have yx:z≠y:=λe=>by have:=s1 _ _ hz;rw[e,ny] at this;cases this
    exact ky z o yx (by rw[aK yx];exact s2 _ _ hz)
   ·have my:m'≠y:=λe=>by rw[e,ag] at nm;cases nm
    rw[aK my] at nm;exact none_of s2 nm
theorem gh:aN ["self"] ["self"] (au (inClass (top 36) 2)):=⟨rfl,rfl,rfl,∅,rfl,∅,∅⟩
theorem Es (T:Txt K mg aD tc):jK P w K mg base (bF P w) 3 aD "as_shares" ["self"] (Gv aD):=by
 have uF:bK P w K mg base (bF P w) 2 "share" ["top","bottom"] DJ:=HG T;refine T.kY.eG (λ_ _ _ _ _ _=>jG λ_=>rfl) λf fd F=>F.eJ gh (λvs H Q E h=>?_) (λcP A outer s H vs Q E hr h=>?_)
 ·obtain⟨_,_,rfl,_⟩:=h;rfl
 ·symm;obtain⟨x,S,rfl,⟨dx,m,hx,hm⟩,b0,bb,ln,kk⟩:=h;nofun;have nd:=gh.nd;refine⟨_,(ax (aP (bS rfl (N:=["self"]) (so:=au (inClass (top 36) 2)) (N':=["top","self"]) (k:=1) (fr:=[0]) rfl rfl ⟨rfl,∅,∅,∅,rfl,∅,∅⟩ (aZ (K:=K) (dN (pv 0) rfl)) (λ_ _ _ _ _=>(aG (i:=0) (show(["top","self"]:List Str).Nodup by ac_rfl) rfl (.inl rfl))) (λ_ _ _ _ _=>bH)
   (λ_ _ _ _ _=>(aF uF (hr.mono ∅) rfl aB.pass (aa (pv 0) (aa (tU (K:=K) (pv 1) rfl) ae))))))),?_⟩
  dsimp?[iR];refine⟨_,_,_,hx,T.bP,T.na_Book_tops,_,gW,m,rfl,⟨_,aS.of hm⟩,?_⟩;refine comp_map (src_list (K:=K) (a:=m) (xs:=S.1.map V.int) (Ok:=aA H) (λH' s'=>aS.of (s' _ _ hm))) (λ_ _ _ _ h=>by rw[h.1];exact aA.refl _) (by rw[YL,sizeLine_eq];lia) (λi y H4=>∀t,S.1[i]?=some t->∃p,y=.ref p/\H4 p=some (.tup (Pr (Wq.low t S.2).1 (Wq.low t S.2).2))) (λi y H4 H5 s5 h t e=>by obtain⟨p,e1,h1⟩:=h t e;exact⟨p,e1,s5 _ _ h1⟩) ?_ ?_
  ·rintro i v w0 H4 H5 Q2 hi s4 ⟨rfl,ex⟩ kq;rw[YO] at ex;symm;obtain⟨t,et,rfl⟩:=aas.mp ex;nofun;dsimp?[DJ,iR];refine⟨_,_,_,s4 _ _ hx,T.bP,T.na_Book_bottom,_,wV,_,rfl,bb,b0,λp H6 s6 n6 h6=>kq _ _ s6 λt' e'=>?_⟩;rw[et] at e';cases e';exact⟨p,rfl,h6⟩
  ·intro ys H5 s5 ly hy D n1 n2;rw[YL] at ly;refine kk D _ (s5.trans (ar n2)) (none_of s5 n2) (aM.mpr ⟨D,ys,rfl,ag,dQ (by rw[YL];exact ly) λi y ey q eq=>?_⟩);rw[YO] at eq;symm;obtain⟨t,et,rfl⟩:=aas.mp eq;obtain⟨p,e1,h1⟩:=hy i y ey t et;nofun;exact bQ.mpr ⟨p,e1,ar n2 _ _ h1⟩
theorem Et {a b:V}:List.lookup (YK "as_shares") [(("tops":Str),a),(("bottom":Str),b)]=none:=rfl
theorem lK:aN ["rows","column"] ["rows","column"] (au (top 22)):=⟨rfl,rfl,rfl,∅,rfl,∅,∅⟩
theorem Ka (T:Txt K mg aD tc):bK P w K mg base (bF P w) 1 "column_of" ["rows","column"] DD:=by
 refine T.vO.eG (λ_ _ _ _ _ _=>eO λ_ _=>rfl) λf fd F=>F.eJ lK (λvs H Q E h=>?_) (λcP A outer s H vs Q E hr h=>?_)
 ·obtain⟨_,_,_,rfl,_⟩:=h;rfl
 ·symm;obtain⟨a,L,c,rfl,⟨xs,ha,al⟩,MG,hc,kk⟩:=h;nofun;have nd:=lK.nd;refine⟨_,(ax (aP (bS rfl (N:=["rows","column"]) (so:=au (top 22)) (N':=["row","column"]) (k:=1) (fr:=[1]) rfl rfl ⟨rfl,∅,∅,∅,rfl,∅,∅⟩ (aZ (K:=K) (pv 0)) (λ_ _ _ _ _=>(aG (i:=0) (show(["row","column"]:List Str).Nodup by ac_rfl) rfl (.inl rfl))) (λ_ _ _ _ _=>bH)
   (λ_ _ _ _ _=>(aI aJ (pv 0) (pv 1) (λ_ _=>rfl)))))),?_⟩
  have sl:=sizeLine_eq;have lx:=al.length;dsimp?[];refine⟨⟨_,aS.of ha⟩,?_⟩;have S:Src (uO K a) (aA H) L.length (λi x H H3=>H3=H/\xs[i]?=some x):=by
   have:=src_list (K:=K) (a:=a) (xs:=xs) (Ok:=aA H) (λH2 s2=>aS.of (s2 _ _ ha))
   rwa [lx] at this
  refine dz L (λr=>some (r.getD c 0)) S (λ_ _ _ _ h=>h.1) ⋯ ?_ ?_
  ·rintro i r x er ⟨_,ex⟩ Y N y1 _;symm;obtain⟨r',ML,q,rfl,hq⟩:=al.get ex;nofun;rw[er] at ML;cases ML;have ai:=Dw (hc r (YQ er));dsimp?[gm,hq,ai];exact y1 _ rfl
  ·intro D n1 n2;refine kk _ _ (ar n2) ?_;rw[ag,show List.filterMap (λr:List Int=>some (r.getD c 0)) L=L.map λr=>r.getD c 0 from by rw[List.filterMap_eq_map']]
theorem jg:aN ["rows"] ["rows"] (au (top 23)):=⟨rfl,rfl,rfl,∅,rfl,∅,∅⟩
theorem Kb (T:Txt K mg aD tc):bK P w K mg base (bF P w) 2 "turned_rows" ["rows"] DE:=by
 have wX:bK P w K mg base (bF P w) 1 "column_of" ["rows","column"] DD:=Ka T;refine T.qR.eG (λ_ _ _ _ _ _=>jG λ_=>rfl) λf fd F=>F.eJ jg (λvs H Q E h=>?_) (λcP A outer s H vs Q E hr h=>?_)
 ·obtain⟨_,_,_,rfl,_⟩:=h;rfl
 ·symm;obtain⟨a,L,n,rfl,hM,sq,MG,kk⟩:=h;nofun;have nd:=jg.nd;refine⟨_,(ax (aP (bS rfl (N:=["rows"]) (so:=au (top 23)) (N':=["column","rows"]) (k:=1) (fr:=[0]) rfl rfl ⟨rfl,∅,∅,∅,rfl,∅,∅⟩ (du rfl T.z_range (aa (aU bu (by rfl) T.z_len Y9 (aa (pv 0) ae)) ae)) (λ_ _ _ _ _=>(aG (i:=0) (show(["column","rows"]:List Str).Nodup by ac_rfl) rfl (.inl rfl))) (λ_ _ _ _ _=>bH)
   (λ_ _ _ _ _=>(aF wX (hr.mono ∅) rfl aB.pass (aa (pv 1) (aa (pv 0) ae))))))),?_⟩
  have sl:=sizeLine_eq;symm;obtain⟨xs,ha,al⟩:=id hM;nofun;have lx:=al.length;have hl:=sq.len;dsimp?[ha];refine⟨⋯,⋯,?_⟩;rw[show((xs.length:Int)).toNat=n by lia];refine comp_map src_range (λ_ _ _ _ h=>by rw[h.1];exact aA.refl _) ⋯ (λi y H2=>Rw H2 (L.map λr:List Int=>r.getD i 0) y) (λi y H2 H3 s3 h=>Rw.mono s3 h) ?_ ?_
  ·rintro i x w0 H2 H3 Q2 hi s2 ⟨rfl,rfl⟩ kq;dsimp?[DD];refine⟨L,i,ZR _,hM.mono s2,⋯,λr hr=>by rw[sq.row r hr];exact hi,λp H4 s4 h4=>kq _ _ s4 ⟨p,rfl,h4⟩⟩
  ·intro ys H2 s2 ly hy D n1 n2;refine kk _ _ (s2.trans (ar n2)) ⟨ys,ag,?_⟩;refine Al.of (by rw[(aO.Dq sq).len];exact ly) λi y r e1 e2=>?_;have hi:i<n:=by rw[<-ly];exact(aat.mp e1).1
   rw[aO.zN sq hi] at e2;cases e2;exact(hy i y e1).mono (ar n2)
theorem gX:aN ["board","part","product","place"] ["board","part"] (au (top 30)):=⟨rfl,rfl,rfl,∅,rfl,∅,∅⟩
theorem Kc (T:Txt K mg aD tc):bK P w K mg base (bF P w) 1 "ways_of_picks" ["board","part"] yC:=by
 refine T.nR.eG (λ_ _ _ _ _ _=>eO λ_ _=>rfl) λf fd F=>F.eJ gX (λvs H Q E h=>?_) (λcP A outer s H vs Q E hr h=>?_)
 ·obtain⟨_,_,_,_,rfl,_⟩:=h;rfl
 ·symm;obtain⟨a,x,b,ps,rfl,rb,hx,uR,ok,Bz,kk⟩:=h;nofun;clear G_;have nd:=gX.nd;refine⟨_,(af (aE (i:=2) nd rfl (.inl rfl) ao)
  (af (cm PassesOwn.never rfl (aZ (K:=K) (pv 1)) (aG (i:=3) nd rfl (.inl rfl)) (ax (bT (aR cF (aI aL (aI aJ (pv 0) (pv 3) (λ_ _=>rfl)) ao (λ_ _=>rfl)) c9 (aT _)) (ax (aE (i:=2) nd rfl (.inl rfl) (aH aV (pv 2) (aU bu (by rfl) T.z_len Y9 (aa (aI aL (aI aJ (pv 0) (pv 3) (λ_ _=>rfl)) ao (λ_ _=>rfl)) ae)))))
   bo)))
  (ax (aP (pv 2))))),?_⟩
  refine(?_:let cn:TS:=_;let cu:TS:=_;let cv:TS:=_;tSeq cn (tSeq cu cv) _ _ _);intro cn cu cv;symm;obtain⟨_,xs,e,ha,rl⟩:=aM.mp rb;nofun;clear G_;cases e;dsimp?[];refine⟨⟨_,aS.of hx⟩,bJ (src_list (Ok:=λH'=>H'=H) (λH2 s2=>by rw[s2];exact aS.of hx)) (λi σ H'=>H'=H/\∃(k:Nat) (z:Option V),mL b k (ps.drop i)=mL b 1 ps/\σ=[some (V.ref a),some (V.ref x),some (V.int (k:Int)),z]) ⟨rfl,1,_,rfl,rfl⟩ (λ_ _ _ _ h=>h.1) ?_ ?_⟩
  ·intro i y σ H1 H2 hi dO d5;symm;obtain⟨rfl,k,z,ki,rfl⟩:=dO;obtain⟨rfl,ex⟩:=d5;nofun;clear G_;rw[YL] at hi;rw[YO,YM hi] at ex;cases ex;rw[List.drop_eq_getElem_cons hi] at ki;have ip:=uR _ (YV hi);generalize ps[i]=p at *;obtain⟨p,rfl⟩:=Y2 ip.1;have hp:p<b.length:=by have:=ip.2;lia
   have eb:b[p]?=some b[p]:=YM hp;symm;obtain⟨v,ev,rv⟩:=eK rl eb;nofun;clear G_;have ki:mL b (k*zU b (p:Int)) (ps.drop (i+1))=mL b 1 ps:=ki;have ek:zU b (p:Int)=match b[p] with | .cA _ to=>to.length | _=>1:=by
    unfold zU;rw[YS,eb];cases b[p] <;>rfl
   have k1:k<=4096:=by
    have:=zW ok (ps.drop (i+1)) (k*zU b (p:Int));have:=Nat.le_mul_of_pos_right k (yB ok (p:Int)).1;lia
   have pq:=ok _ (YV hp);rw[ek] at ki;generalize b[p]=q at *;cases q with
   | fin g=>
    symm;obtain⟨t,r,rfl,ht,_⟩:=dM.mp rv;nofun;dsimp?[ha,show eV xs (p:Int)=some (.ref t) from bA ev,ht];rw[if_neg ∅];exact⟨k,by rw[<-ki,Nat.mul_one],rfl,_,rfl⟩
   | d6 g ws=>
    symm;obtain⟨t,r,l,zs,rfl,ht,_⟩:=dE.mp rv;nofun;dsimp?[ha,show eV xs (p:Int)=some (.ref t) from bA ev,ht];rw[if_neg ∅];exact⟨k,by rw[<-ki,Nat.mul_one],rfl,_,rfl⟩
   | cA bB to=>
    symm;obtain⟨t,l,rfl,ht,hl⟩:=cM.mp rv;nofun;dsimp?[ha,show eV xs (p:Int)=some (.ref t) from bA ev,ht,hl];have lt:(List.map V.int to).length=to.length:=YL ..;have l4:=pq.2.2.1;rw[lt];exact⟨(Bt.of (n:=13) 4096 ⋯ ⋯).dH (Bt.of (n:=3) 4 ⋯ ⋯),k*to.length,ki,by rw[Int.natCast_mul],_,rfl⟩
  ·intro σ H1 dW;symm;obtain⟨rfl,k,z,ki,rfl⟩:=dW;nofun;rw[YL,List.drop_length] at ki;have ki:k=mL b 1 ps:=ki;dsimp?[];rw[ki];exact kk
theorem gY:aN ["board","left","found","part"] ["board"] (au (top 31)):=⟨rfl,rfl,rfl,∅,rfl,∅,∅⟩
theorem yO (T:Txt K mg aD tc) (LB:nM base mg tc tp):bK P w K mg base (bF P w) 6 "checked_parts" ["board"] (j9 tp):=by
 have Kd:bK P w K mg base (bF P w) 5 "ring" ["board"] yr:=GF T;have GN:bK P w K mg base (bF P w) 3 "parts" ["board"] (Em tp):=J1 T LB;have nZ:bK P w K mg base (bF P w) 1 "ways_of_picks" ["board","part"] yC:=Kc T;refine T.nS.eG (λ_ _ _ _ _ _=>jG λ_=>rfl) λf fd F=>F.eJ gY (λvs H Q E h=>?_) (λcP A outer s H vs Q E hr h=>?_)
 ·obtain⟨_,_,_,rfl,_⟩:=h;rfl
 ·symm;obtain⟨a,b,rk,rfl,rb,B,kI,kk⟩:=h;nofun;have nd:=gY.nd;refine⟨_,(af (aE (i:=1) nd rfl (.inl rfl) (aF Kd (hr.mono ∅) rfl aB.pass (aa (pv 0) ae)))
  (af (bT (aR mT (aU bu (by rfl) T.z_len Y9 (aa (pv 1) ae)) ao (aT _)) (ax oY)
   bo)
  (af (aE (i:=2) nd rfl (.inl rfl) (aF GN (hr.mono ∅) rfl aB.pass (aa (pv 0) ae)))
  (af (cm PassesOwn.never rfl (aZ (K:=K) (pv 2)) (aG (i:=3) nd rfl (.inl rfl)) (ax (bT (PW.pt (pw_or (aR mT (aU bu (by rfl) T.z_len Y9 (aa (pv 3) ae)) (vE rfl T.c_MOST_PLACES) (aT _)) (pw_or1 (aR mT (aF nZ (hr.mono ∅) rfl aB.pass (aa (pv 0) (aa (pv 3) ae))) (vE rfl T.c_MOST_PICKS) (aT _))))) (ax oY)
   bo)))
  (ax (aP (pv 2))))))),?_⟩
  refine(?_:let cn:TS:=_;let cu:TS:=_;let cv:TS:=_;let dU:TS:=_;let iF:TS:=_;tSeq cn (tSeq cu (tSeq cv (tSeq dU iF))) _ _ _);intro cn cu cv dU iF;have bl:=B.len;dsimp?[yr,Em];refine⟨b,rb,B.bd,λl H1 s1 n1 hl=>⟨_,hl,?_⟩⟩;rw[B.jH.ring];rw[if_neg (by simp)];refine⟨b,rb.mono s1,⋯,B.vj,B.jH.good,s1 _ _ kI,λl2 ps as H2 td s2 n2 vd al=>?_⟩;have SF:Al (λp v=>∃x,v=.ref x/\H2 x=some (.lst ((Pr.cW b p).map V.int))) ps (as.map V.ref):=by
   refine Al.of al.length λi v p ev ep=>?_;symm;obtain⟨p',Ff,x,rfl,hx,_⟩:=al.get ev;nofun;rw[ep] at Ff;cases Ff;exact⟨x,rfl,hx⟩
  have GO:=s1.trans s2;refine⟨⟨_,aS.of vd⟩,bJ (src_list (Ok:=λH'=>H'=H2) (λH3 s3=>by rw[s3];exact aS.of vd)) (λi σ H'=>H'=H2/\∃z,σ=[some (V.ref a),some (V.ref l),some (V.ref l2),z]) ⟨rfl,_,rfl⟩ (λ_ _ _ _ h=>h.1) ?_ ?_⟩
  ·intro i y σ H3 H4 hi dO d5;symm;obtain⟨rfl,z,rfl⟩:=dO;obtain⟨rfl,ex⟩:=d5;obtain⟨p,ep,x,rfl,hx⟩:=SF.get ex;nofun;have ip:=td.Gh (YQ ep);have lp:(Pr.cW b p).length<=b.length:=by
    have:=Pr.sub_len (l:=Pr.cW b p) (m:=Pr.kb b p) ((Pr.iX B.jH.good ip).imp λh z=>⋯) λx hx=>(Pr.dY.mp hx).1;have:=Pr.C8 B.jH.good ip;lia
   dsimp?[yC,hx];rw[if_neg (by rw[YL];lia)];have cp:=B.Bz p ip;refine⟨b,rb.mono GO,Pr.cW b p,rfl,λq hq=>Pr.eB B.jH.good ip hq,B.ok,cp,?_⟩;rw[if_neg ⋯];exact⟨_,rfl⟩
  ·intro σ H3 dW;symm;obtain⟨rfl,z,rfl⟩:=dW;nofun;dsimp?[];exact kk l2 ps as _ td GO (none_of s1 n2) vd SF
theorem gZ:aN ["place","way"] ["place","way"] (au (top 32)):=⟨rfl,rfl,rfl,∅,rfl,∅,∅⟩
theorem Eu (T:Txt K mg aD tc):bK P w K mg base (bF P w) 1 "weighted_ways" ["place","way"] wz:=by
 refine T.nU.eG (λ_ _ _ _ _ _=>eO λ_ _=>rfl) λf fd F=>F.eJ gZ (λvs H Q E h=>?_) (λcP A outer s H vs Q E hr h=>?_)
 ·obtain⟨_,_,_,rfl,_⟩:=h;rfl
 ·symm;obtain⟨v,q,k,rfl,rv,pk,kk⟩:=h;nofun;have nd:=gZ.nd;refine⟨_,(af (bT (aR cF (aI aL (pv 0) ao (λ_ _=>rfl)) c9 (aT _)) (ax (aP (aI aL (pv 0) ao (λ_ _=>rfl))))
   bo)
  (af (bT (aR cF (aI aL (pv 0) ao (λ_ _=>rfl)) c9 (aT _)) (ax (aP (cY (aa (cy (aa ao (aa (aI aJ (aI aL (pv 0) ao (λ_ _=>rfl)) (pv 1) (λ_ _=>rfl)) ae))) ae))))
   bo)
  (ax (aP (cY ae))))),?_⟩
  refine(?_:let cn:TS:=_;let cu:TS:=_;let cv:TS:=_;tSeq cn (tSeq cu cv) _ _ _);intro cn cu cv;cases q with
  | fin g=>
   symm;obtain⟨t,r,rfl,ht,_⟩:=dM.mp rv;nofun;dsimp?[ht];rw[if_neg ∅,if_neg ∅];exact⟨Y1 _,λl nl=>kk l _ (ar nl) (aM.mpr ⟨l,[],rfl,ag,rfl⟩)⟩
  | d6 g ws=>
   symm;obtain⟨t,r,l,zs,rfl,ht,_,hl,rz⟩:=dE.mp rv;nofun;dsimp?[ht];exact kk l _ (aA.refl _) (aM.mpr ⟨l,zs,rfl,hl,rz⟩)
  | cA bB to=>
   symm;obtain⟨t,l,rfl,ht,hl⟩:=cM.mp rv;nofun;cases k with
   | none=>exact pk.elim
   | some k=>
    obtain⟨k0,k1⟩:=pk;have at1:eV (to.map V.int) k=some (.int (to.getD k.toNat 0)):=dP k0 k1;dsimp?[dk,ht,hl,at1];rw[if_neg ∅];exact⟨∅,λp H2 s2 np hp=>⟨∅,λl2 nl=>kk l2 _ (s2.trans (ar nl)) (aM.mpr ⟨l2,[.ref p],rfl,ag,⟨_,_,rfl,bQ.mpr ⟨p,rfl,ar nl _ _ hp⟩,rfl⟩⟩)⟩⟩
theorem fb:aN ["board","picks"] ["board","picks"] (au (top 33)):=⟨rfl,rfl,rfl,∅,rfl,∅,∅⟩
theorem Ew (T:Txt K mg aD tc):bK P w K mg base (bF P w) 2 "all_weighted_ways" ["board","picks"] Bo:=by
 have fh:bK P w K mg base (bF P w) 1 "weighted_ways" ["place","way"] wz:=Eu T;refine T.jF.eG (λ_ _ _ _ _ _=>eO λ_ _=>rfl) λf fd F=>F.eJ fb (λvs H Q E h=>?_) (λcP A outer s H vs Q E hr h=>?_)
 ·obtain⟨_,_,_,_,rfl,_⟩:=h;rfl
 ·symm;obtain⟨a,c,b,ks,rfl,rb,lb,hc,⟨lk,pk⟩,kk⟩:=h;nofun;have nd:=fb.nd;refine⟨_,(ax (aP (bS rfl (N:=["board","picks"]) (so:=au (top 33)) (N':=["place","way"]) (k:=2) (fr:=[]) rfl rfl ⟨rfl,∅,∅,∅,rfl,∅,∅⟩ (js (K:=K) rfl T.z_zip (aa (pv 0) (aa (pv 1) ae))) (λ_ _ _ _ _=>(bV (K:=K) (n:=2) rfl (aQ (aG (i:=0) (show(["place","way"]:List Str).Nodup by ac_rfl) rfl (.inl rfl)) (aQ (aG (i:=1) (show(["place","way"]:List Str).Nodup by ac_rfl) rfl (.inl rfl)) bU)))) (λ_ _ _ _ _=>bH)
   (λ_ _ _ _ _=>(aF fh (hr.mono ∅) rfl aB.pass (aa (pv 0) (aa (pv 1) ae))))))),?_⟩
  have sl:=sizeLine_eq;symm;obtain⟨_,xs,e,ha,rl⟩:=aM.mp rb;nofun;cases e;have lx:=rl.length;rw[YL] at lx;dsimp?[wz];refine⟨⟨_,aS.of ha⟩,⟨_,aS.of hc⟩,?_⟩;refine gH (K:=K) (jr (λH' s'=>aS.of (s' _ _ ha)) (λH' s'=>aS.of (s' _ _ hc))) (λi u v H'=>∃q k,b[i]?=some q/\ks[i]?=some k/\Rep H (mZ q) u/\v=dk k) ?_ (by rw[YL];lia) (λi y H'=>∃l,y=.ref l/\∀q k,b[i]?=some q->ks[i]?=some k->Rep H' (oP (xx q k)) (.ref l)) (λ_ _ _ _ s ⟨l,e,h⟩=>⟨l,e,λq k e1 e2=>(h q k e1 e2).mono s⟩) ?_ ?_
  ·intro i v H2 H3 hi s2 dO;symm;obtain⟨t,x,y,nt,rfl,ex,ey,rfl⟩:=dO;rw[YO] at ey;obtain⟨k,ek,rfl⟩:=aas.mp ey;obtain⟨q,eq,rq⟩:=di rl ex;nofun;exact⟨ar nt,t,_,_,rfl,fV.of ag,q,k,eq,ek,rq,rfl⟩
  ·intro i u v H2 Q2 hi s2 d5 kq;symm;obtain⟨q,k,eq,ek,rq,rfl⟩:=d5;nofun;dsimp?[wz];refine⟨q,k,rfl,rq.mono s2,pk i q k eq ek,λl H3 s3 r3=>kq _ _ s3 ⟨l,rfl,λq' k' e1 e2=>?_⟩⟩;rw[eq] at e1;rw[ek] at e2;cases e1;cases e2;exact r3
  ·intro ys H2 s2 ly hy D n1 n2;rw[YL] at ly;have lz:(bN b ks).length=b.length:=by unfold bN;rw[Z2];lia
   refine kk D ys _ (s2.trans (ar n2)) (none_of s2 n2) ag (dQ (by rw[lz];lia) λi y ey ws ew=>?_);have hi:i<b.length:=by have:=(aat.mp ew).1;lia
   symm;obtain⟨l,rfl,hl⟩:=hy i y ey;nofun;have e1:b[i]?=some b[i]:=YM hi;have e2:ks[i]?=some ks[i]:=YM ⋯;have e3:ws=xx b[i] ks[i]:=by
    unfold bN at ew;rw[aaj,e1,e2] at ew;exact(Zb ew).symm
   rw[e3];exact(hl _ _ e1 e2).mono (λa o h=>by
    have:a≠D:=λz=>by rw[z,n2] at h;cases h
    rw[bY this,aK this];exact h)
theorem ni:aN ["board"] ["board"] (au (top 39)):=⟨rfl,rfl,rfl,∅,rfl,∅,∅⟩
theorem Ex (T:Txt K mg aD tc):bK P w K mg base (bF P w) 4 "gains_of" ["board"] (wA aD):=by
 have mR:bK P w K mg base (bF P w) 1 "gain_of" ["place"] Bl:=HI T;have mS:bK P w K mg base (bF P w) 3 "book_of" ["several"] (DM aD):=HJ T;refine T.yl.eG (λ_ _ _ _ _ _=>jG λ_=>rfl) λf fd F=>F.eJ ni (λvs H Q E h=>?_) (λcP A outer s H vs Q E hr h=>?_)
 ·obtain⟨_,_,_,rfl,_⟩:=h;rfl
 ·symm;obtain⟨a,b,rk,rfl,rb,B,kk⟩:=h;nofun;have nd:=ni.nd;refine⟨_,(ax (aP (aF mS (hr.mono ∅) rfl aB.pass (aa (bS rfl (N:=["board"]) (so:=au (top 39)) (N':=["place"]) (k:=1) (fr:=[]) rfl rfl ⟨rfl,∅,∅,∅,rfl,∅,∅⟩ (aZ (K:=K) (pv 0)) (λ_ _ _ _ _=>(aG (i:=0) (show(["place"]:List Str).Nodup by ac_rfl) rfl (.inl rfl))) (λ_ _ _ _ _=>bH)
   (λ_ _ _ _ _=>(aF mR (hr.mono ∅) rfl aB.pass (aa (pv 0) ae)))) ae (se rfl))))),?_⟩
  dsimp?[DM];symm;obtain⟨_,xs,e,ha,rl⟩:=aM.mp rb;nofun;cases e;have lx:=rl.length;rw[YL] at lx;have bl:=B.len;refine⟨⟨_,aS.of ha⟩,?_⟩;refine comp_map (src_list (K:=K) (a:=a) (xs:=xs) (Ok:=aA H) (λH' s'=>aS.of (s' _ _ ha))) (λ_ _ _ _ h=>by rw[h.1];exact aA.refl _) (by rw[sizeLine_eq];lia) (λi y H4=>∀q,b[i]?=some q->∃p,y=.ref p/\H4 p=some (.tup (Pr (Wq.bI q).1 (Wq.bI q).2))) (λi y H4 H5 s5 h t e=>by obtain⟨p,e1,h1⟩:=h t e;exact⟨p,e1,s5 _ _ h1⟩) ?_ ?_
  ·rintro i v w0 H4 H5 Q2 hi s4 ⟨rfl,ex⟩ kq;symm;obtain⟨q,eq,rq⟩:=di rl ex;nofun;dsimp?[Bl];refine⟨q,rq.mono s4,λr H6 s6 Qk=>kq _ _ s6 λq' e'=>?_⟩;rw[eq] at e';cases e';exact⟨r,rfl,Qk⟩
  ·intro ys H5 s5 ly hy D n1 n2;symm;obtain⟨p1,p2,p3⟩:=DQ B.zX;nofun;rw[YL] at p2;refine⟨b.map Wq.bI,aM.mpr ⟨D,ys,rfl,ag,dQ (by rw[YL];lia) λi y ey q eq=>?_⟩,by rw[YL];lia,pB (b.map Wq.bI),λx hx=>?_,p1,p2.mono ⋯,λx H6 s6 VM=>kk x H6 (s5.trans ((ar n2).trans s6)) VM⟩
   ·rw[YO] at eq;symm;obtain⟨t,et,rfl⟩:=aas.mp eq;obtain⟨p,e1,h1⟩:=hy i y ey t et;nofun;exact bQ.mpr ⟨p,e1,ar n2 _ _ h1⟩
   ·have g:=B.zX x hx;exact⟨g.2.2.1,p3 x hx,g.1.mono ∅⟩
theorem iH:aN ["gains"] ["gains"] (au (top 40)):=⟨rfl,rfl,rfl,∅,rfl,∅,∅⟩
theorem HM (T:Txt K mg aD tc):bK P w K mg base (bF P w) 3 "blank_worths" ["gains"] (DN aD):=by
 have kf:pR P w K mg base (bF P w) 1 "Book" aD ["self","tops","bottom"] (DK aD):=Ao T;refine T.pZ.eG (λ_ _ _ _ _ _=>jG λ_=>rfl) λf fd F=>F.eJ iH (λvs H Q E h=>?_) (λcP A outer s H vs Q E hr h=>?_)
 ·obtain⟨_,_,rfl,_⟩:=h;rfl
 ·symm;obtain⟨x,S,rfl,⟨dx,m,hx,hm⟩,ln,kk⟩:=h;nofun;clear G_;have nd:=iH.nd;refine⟨_,(ax (aP (zu kf (hr.mono ∅) rfl aB.pass (aa (aH pf (cY (aa ao ae)) (aU bu (by rfl) T.z_len Y9 (aa (dN (pv 0) rfl) ae))) (aa (dN (pv 0) rfl) ae))))),?_⟩;dsimp?[iR,rF,AJ];refine⟨∅,λz nz=>?_⟩;have s1:=ar (o:=.lst [V.int 0]) nz;have hz:upd H z (.lst [V.int 0]) z=some (.lst [V.int 0]):=ag;generalize upd H z (.lst [V.int 0])=H1 at *;have ls:(S.1.map V.int).length=S.1.length:=YL ..;have sl:=sizeLine_eq;refine⟨_,_,_,s1 _ _ hx,T.bP,T.na_Book_tops,_,gW,_,rfl,_,s1 _ _ hm,_,hz,⋯,⋯,by rw[ls,YS];show 1*S.1.length<=_;lia,λD nD=>?_⟩;rw[ls,YS,List.flatten_replicate_singleton] at *;have s2:=s1.trans (ar (o:=.lst (aaz S.1.length (V.int 0))) nD);have hD:upd H1 D (.lst (aaz S.1.length (V.int 0))) D=some (.lst ((aaz S.1.length 0).map V.int)):=by rw[ag,List.map_replicate]
  generalize upd H1 D (.lst (aaz S.1.length (V.int 0)))=H2 at *;refine⟨_,_,_,s2 _ _ hx,T.bP,T.na_Book_bottom,_,wV,λy dy ny HL ne=>?_⟩;have s3:=s2.trans (ar (o:=.own y) HL);have J9:=ar (o:=.own y) HL _ _ hD;have xD:D≠y:=λz=>by rw[z,ny] at hD;cases hD
  refine⟨y,dy,D,_,_,rfl,ag,by rw[aK xD];exact J9,λm' H' nm E7 nG ky=>⟨rfl,kk y H' (λz o hz=>?_) ⟨dy,m',nG,E7⟩⟩⟩;have yx:z≠y:=λe=>by have:=s2 _ _ hz;rw[e,ny] at this;cases this
  exact ky z o yx (by rw[aK yx];exact s3 _ _ hz)
theorem jh:aN ["book","gains","part","ways","scale","right","place","gain","answers","told","top"] ["book","gains","part","ways"] (au (top 41)):=⟨rfl,rfl,rfl,∅,rfl,∅,∅⟩
theorem HN (T:Txt K mg aD tc):bK P w K mg base (bF P w) 4 "with_worths" ["book","gains","part","ways"] (zZ aD):=by
 have cL:bK P w K mg base (bF P w) 1 "total_weight" ["ways"] lA:=An T;have fi:bK P w K mg base (bF P w) 3 "whole_answers" ["rows","right"] DC:=Hy T;have jj:bK P w K mg base (bF P w) 2 "part_rows" ["part","ways"] wd:=Eo T;have gz:jK P w K mg base (bF P w) 3 aD "scaled" ["self","factor"] (DL aD):=Er T;refine T.qS.eG (λ_ _ _ _ _ _=>Gd λ_ _ _ _=>rfl) λf fd F=>F.eJ jh (λvs H Q E h=>?_) (λcP A outer s H vs Q E hr h=>?_)
 ·obtain⟨_,_,_,_,_,_,_,_,_,_,_,_,_,rfl,_⟩:=h;rfl
 ·symm;obtain⟨bk,gn,pt,wl,S,gt,G,ps,n,M,xs,dF,lv,rfl,hb,hg,hp,hw,rl,lw,VN,Ey,p0,Gy,xA,wk,dn,Z,M0,lg,G0,bG,dv,gb,zr,kk⟩:=h;nofun;clear G_;have nd:=jh.nd;refine⟨_,(af (aE (i:=4) nd rfl (.inl rfl) (aH eX (dN (pv 0) rfl) (dN (pv 1) rfl)))
  (af (aE (i:=5) nd rfl (.inl rfl) (cY ae))
  (af (cm PassesOwn.never rfl (aZ (K:=K) (pv 2)) (aG (i:=6) nd rfl (.inl rfl)) (af (aE (i:=7) nd rfl (.inl rfl) (aH aV (aH aV (aF cL (hr.mono ∅) rfl aB.pass (aa (aI aJ (pv 3) (pv 6) (λ_ _=>rfl)) ae)) (aI aJ (dN (pv 1) rfl) (pv 6) (λ_ _=>rfl))) (pv 4)))
  (ax (dC (fj Zq ZK ZL cH.r (pv 5) (aa (aH bj (pv 7) (aU (iW (K:=K)) (by rfl) T.z_sum rfl (aa (bS rfl (N:=["book","gains","part","ways","scale","right","place","gain","answers","told","top"]) (so:=au (top 41)) (N':=["weight","to","book"]) (k:=2) (fr:=[0]) rfl rfl ⟨rfl,∅,∅,∅,rfl,∅,∅⟩ (aZ (K:=K) (aI aJ (pv 3) (pv 6) (λ_ _=>rfl))) (λ_ _ _ _ _=>(bV (K:=K) (n:=2) rfl (aQ (aG (i:=0) (show(["weight","to","book"]:List Str).Nodup by ac_rfl) rfl (.inl rfl)) (aQ (aG (i:=1) (show(["weight","to","book"]:List Str).Nodup by ac_rfl) rfl (.inl rfl)) bU)))) (λ_ _ _ _ _=>bH)
   (λ_ _ _ _ _=>(aH aV (pv 0) (aI aJ (tU (K:=K) (pv 2) rfl) (pv 1) (λ_ _=>rfl))))) ae (se rfl)))) ae (se rfl)))))))
  (af (aE (i:=8) nd rfl (.inl rfl) (aF fi (hr.mono ∅) rfl aB.pass (aa (aF jj (hr.mono ∅) rfl aB.pass (aa (pv 2) (aa (pv 3) ae))) (aa (pv 5) ae))))
  (af (aE (i:=9) nd rfl (.inl rfl) (Hg gz T.bP (pv 0) (hr.mono ∅) aB.pass (aa (aI aL (pv 8) ao (λ_ _=>rfl)) ae) (hst:=se rfl)))
  (af (cm PassesOwn.never rfl (js (K:=K) rfl T.z_zip (aa (pv 2) (aa (aI aL (pv 8) ao (λ_ _=>rfl)) ae))) (bV (K:=K) (n:=2) rfl (aQ (aG (i:=6) nd rfl (.inl rfl)) (aQ (aG (i:=10) nd rfl (.inl rfl)) bU))) (ax (fc (pv 10) (fI (dN (pv 9) rfl) (pv 6) set_list))))
  (ax (aP (pv 9))))))))),?_⟩
  refine(?_:let cn:TS:=_;let cu:TS:=_;let cv:TS:=_;let dU:TS:=_;let iF:TS:=_;let sQ:TS:=_;let HP:TS:=_;tSeq cn (tSeq cu (tSeq cv (tSeq dU (tSeq iF (tSeq sQ HP))))) _ _ _);intro cn cu cv dU iF sQ HP;have sl:=sizeLine_eq;symm;obtain⟨dx,m,HQ,F0⟩:=hb;obtain⟨dg,Yu,SG,VO⟩:=hg;nofun;clear G_;have B0:=Z.pos;have lS:=Z.len;have VP:Bt M (S.2 / G):=Z.bb.le (Nm.fL G0 dv);have MP:∀t∈S.1,Bt 4000 t:=λt ht=>by
   symm;obtain⟨j,hj,rfl⟩:=Zi ht;nofun;have:=Z.bt j;rw[YN,YM hj] at this;exact Bt.mono this ⋯
  have MQ:∀p:Nat,(p:Int)∈ps->∃wv us,eV xs (p:Int)=some (.ref wv)/\Rep H (oP (bf dF (p:Int))) (.ref wv)/\H wv=some (.lst us)/\a8 H ((bf dF (p:Int)).map a9) us/\us.length=(bf dF (p:Int)).length/\Dg.uu n (bf dF (p:Int)):=λp hp=>by
   have hl:p<dF.length:=by have:=(xA _ hp).2;lia
   have ew:dF[p]?=some (bf dF (p:Int)):=by
    unfold bf;rw[YS,YN,YM hl];rfl
   obtain⟨v,ev,rv⟩:=rl.at (d:=oP (bf dF (p:Int))) (i:=p) (by rw[YO,ew];rfl);symm;obtain⟨wv,us,rfl,Bv,ru⟩:=aM.mp rv;nofun;have lu:=ru.length;rw[YL] at lu;exact⟨wv,us,bA ev,rv,Bv,ru,lu.symm,wk _ (YQ ew)⟩
  have E8:∀p∈ps,Dg.uu n (bf dF p):=λp hp=>by
   obtain⟨p,rfl⟩:=Y2 (xA p hp).1;symm;obtain⟨_,_,_,_,_,_,_,h⟩:=MQ p hp;nofun;exact h
  have rs:∀p∈ps,_:=λp hp=>Dg.DP (g:=gt.getD p.toNat 0) Z (E8 p hp) G0 dv (gb _);generalize hR:(λp:Int=>Dg.tt (bf dF p)*gt.getD p.toNat 0* (S.2 / G)+Dg.fY S.1 (bf dF p))=R at *;have Re:∀p,R p=Dg.tt (bf dF p)*gt.getD p.toNat 0* (S.2 / G)+Dg.fY S.1 (bf dF p):=λp=>by rw[<-hR]
  subst_vars;refine ba (λN=>N [~~~bk,~~~gn,~~~pt,~~~wl,some (.int (S.2 / G)),none,none,none,none,none,none] H) ?_ (λN hN=>?_)
  case refine_2=>
   dsimp?[iR];exact⟨_,_,_,HQ,T.bP,T.na_Book_bottom,_,wV,_,_,_,SG,T.bP,T.na_Book_bottom,_,wV,_,rfl,_,rfl,gF.of G0 bG,hN⟩
  subst_vars;refine ba (λN=>∀H1 r,aA H H1->H r=none->H1 r=some (.lst [])->N [~~~bk,~~~gn,~~~pt,~~~wl,some (.int (S.2 / G)),~~~r,none,none,none,none,none] H1) ?_ (λN hN=>?_)
  case refine_2=>
   dsimp?[];exact⟨Y1 _,λr n3=>hN _ r (ar n3) n3 ag⟩
  rintro H1 r s1 nr MB;subst_vars;refine ba (λN=>∀H2,aA H H2->H2 r=some (.lst ((ps.map R).map V.int))->∀z6 z7,N [~~~bk,~~~gn,~~~pt,~~~wl,some (.int (S.2 / G)),~~~r,z6,z7,none,none,none] H2) ?_ (λN hN=>?_)
  case refine_2=>
   dsimp?[];refine⟨⟨_,aS.of (s1 _ _ hp)⟩,bJ (src_list (K:=K) (a:=pt) (xs:=ps.map V.int) (Ok:=aA H) (λH' s=>aS.of (s _ _ hp))) (λj σ H2=>aA H H2/\H2 r=some (.lst (((ps.take j).map R).map V.int))/\∃z6 z7,σ=[~~~bk,~~~gn,~~~pt,~~~wl,some (.int (S.2 / G)),~~~r,z6,z7,none,none,none]) ⟨s1,MB,_,_,rfl⟩ (λ_ _ _ _ h=>h.1) ?_ ?_⟩
   ·intro j y σ H2 H3 hj dO d5;symm;obtain⟨s2,Kf,z6,z7,rfl⟩:=dO;obtain⟨rfl,ey⟩:=d5;nofun;clear G_;rw[YL] at hj;rw[YO,YM hj] at ey;cases ey;have mp:=YV hj;have tk:ps.take (j+1)=ps.take j++ [ps[j]]:=by rw[Zc,YM hj];rfl
    rw[tk];generalize ps[j]=p at *;obtain⟨p,rfl⟩:=Y2 (xA p mp).1;symm;obtain⟨wv,us,E6,rv,Bv,ru,lu,Ez⟩:=MQ p mp;obtain⟨bR,_⟩:=rs _ mp;nofun;clear G_;have Kg:eV (gt.map V.int) (p:Int)=some (.int (gt.getD p 0)):=by have:=dP (ns:=gt) (i:=(p:Int)) ⋯ (by have:=(xA _ mp).2;lia);rwa [YS] at this
    have eR:=Re (p:Int);rw[YS] at bR eR;generalize bf dF (p:Int)=ws at *;obtain⟨d0,d1⟩:=Ez.tt;have bd:Bt 20 (Dg.tt ws):=Bt.of 1000000 ⋯ ⋯;have w5:=Ez.1;have bg:Bt 440 (gt.getD p 0):=by
     have h1:=gb p;have h2:Bt 440 (2^40*G):=by
      have k:Bt 400 G:=bG;unfold Bt at k ⊢;rw[Zs,show((2:Int)^40).natAbs=2^40 by decide,show 440=40+400 by decide,ZH];exact Nat.mul_lt_mul_of_pos_left k ∅
     refine h2.le ?_;rw[Zs,show((2:Int)^40).natAbs=2^40 by decide,show G.natAbs=G.toNat by lia];exact h1
    dsimp?[lA,iR,dD];refine⟨_,s2 _ _ hw,_,E6,wv,rfl,ws,rv.mono s2,w5,λH4 s4=>?_⟩;have lX:=s2.trans s4;refine⟨_,_,_,lX _ _ SG,T.bP,T.na_Book_tops,_,gW,_,rfl,_,lX _ _ VO,_,Kg,_,rfl,bd.dH bg,(bd.mul bg).dH VP ⋯,?_⟩;refine⟨.inl ⟨rfl,_,aS.of (s4 _ _ Kf)⟩,_,lX _ _ hw,_,E6,wv,rfl,⟨_,aS.of (lX _ _ Bv)⟩,?_⟩;have S':Src (uO K wv) (aA H4) ws.length (λi x H H3=>H3=H/\us[i]?=some x):=by rw[<-lu];exact src_list (λH' s'=>aS.of (s' _ _ (lX _ _ Bv)))
    refine ij ws (λx=>some (x.1*S.1.getD x.2.toNat 0)) S' (λ_ _ _ _ h=>h.1) ⋯ ?_ ?_
    ·rintro j x v0 ex ⟨_,ey⟩;symm;obtain⟨t,et,ht⟩:=cN (ru.mono lX) ex;nofun;rw[ey] at et;cases et;symm;obtain⟨x1,x2,x3,x4⟩:=Ez.2 x (YQ ex);nofun;have VQ:eV (S.1.map V.int) x.2=some (.int (S.1.getD x.2.toNat 0)):=dP x3 ⋯;refine⟨t,_,_,rfl,fV.of ht,λY N y1 _=>?_⟩;dsimp?[gm,iR];exact⟨_,_,_,lX _ _ HQ,T.bP,T.na_Book_tops,_,gW,_,rfl,_,lX _ _ F0,_,VQ,_,rfl,(Bt.of (n:=18) 200000 ⋯ ⋯).dH (Z.bt _) ⋯,y1 _ rfl⟩
    ·intro D n1 n2;rw[dX];have eR:R (p:Int)=Dg.tt ws*gt.getD p 0* (S.2 / G)+ (ws.map λx=>x.1*S.1.getD x.2.toNat 0).sum:=eR;refine⟨_,aS.of ag,_,ar n2 _ _ (s4 _ _ Kf),by rw[YL,YL,Zf];lia,aX (lX.trans (ar n2)) nr,?_,_,rfl⟩;rw[ag,<-eR,Y5,Y5];rfl
   ·intro σ H2 dW;symm;obtain⟨s2,Kf,z6,z7,rfl⟩:=dW;nofun;rw[YL,List.take_length] at Kf;exact hN _ s2 Kf _ _
  rintro H2 s2 Kf z6 z7;have lR:(ps.map R).length=ps.length:=YL ..;have bR:∀x∈ps.map R,x.natAbs<=2^ (M+61):=λx hx=>by
   symm;obtain⟨p,hp,rfl⟩:=aau.mp hx;nofun;rw[Re];exact(rs p hp).2
  have b1:(1:Nat)<=2^20:=∅
  have bc:(2:Nat)^20<=2^ (M+61):=ZP ∅ ⋯;have top:=Dg.DO ps.length M ⋯ p0;have Ql:(ps.length+1)^ (ps.length+1)* (2^ (M+61)* (2^20)^ps.length)<2^4000:=Y3 top (ZP ∅ ⋯);subst_vars;refine ba (λN=>∀H3 u q d x L,aA H2 H3->H3 u=some (.tup [.ref q,.int d])->H3 q=some (.lst (x.map V.int))->Dg.j8 ps (bf dF) L->P7 L (ps.map R) ps.length x d->d.natAbs<=(ps.length+1)^ (ps.length+1)* (2^20)^ps.length->(∀v∈x,v.natAbs<=(ps.length+1)^ (ps.length+1)* (2^ (M+61)* (2^20)^ps.length))->N [~~~bk,~~~gn,~~~pt,~~~wl,some (.int (S.2 / G)),~~~r,z6,z7,~~~u,none,none] H3) ?_ (λN hN=>?_)
  case refine_2=>
   dsimp?[wd,DC];refine⟨ps,s2 _ _ hp,_,s2 _ _ hw,_,rl.mono s2,Ey,⋯,λp hp=>by have:=xA p hp;lia,λws Ep=>(wk ws Ep).1,λr2 L H3 s3 mt rp=>?_⟩;have sq:aO.Sq L ps.length:=⟨rp.1,rp.2.1⟩
   have hL:=rp.ent E8;have sw:=zP sq lR ⋯ b1 bc hL bR Ql;refine⟨L,mt,_,s3 _ _ Kf,?_⟩;rw[lR];refine⟨sq,sw,λk rs W H4 St hk st s4=>?_,λrs W t p H4 St s4 ht BC=>?_⟩
   ·exact absurd (aO.su sq lR St hk st) (rp.Dv Ey (λp hp x hx=>((E8 p hp).2 x hx).1) dn)
   ·obtain⟨z1,z2⟩:=DH sq lR b1 bc hL bR St;exact hN _ t p _ _ L (s3.trans s4) ht BC rp (DG sq lR sw St) z1 z2
  rintro H3 u q d x L s3 hu hq rp so zd zx;have K3:=s2.trans s3;have d0:=so.pos;have lx:=so.len;have J7:Bt (92*ps.length) d:=ZG zd (Dg.Gw _ ⋯ p0);subst_vars;refine ba (λN=>∀H4 y dy m',aA H3 H4->H3 y=none->H3 m'=none->H4 y=some (.ins aD dy [("tops",.ref m'),("bottom",.int (S.2*d))])->H4 m'=some (.lst ((S.1.map (·*d)).map V.int))->N [~~~bk,~~~gn,~~~pt,~~~wl,some (.int (S.2 / G)),~~~r,z6,z7,~~~u,~~~y,none] H4) ?_ (λN hN=>?_)
  case refine_2=>
   dsimp?[kO,hu];refine⟨_,_,K3 _ _ HQ,HK,bk,S,_,rfl,⟨_,_,K3 _ _ HQ,K3 _ _ F0⟩,so.bd,Z.bb.mono ⋯,MP,⋯,λy dy m' H4 s4 ny nm hy hm=>hN _ y dy m' s4 ny nm hy hm⟩
  rintro H4 y dy m' s4 ny Oo hy E7;subst_vars;refine ba (λN=>∀H5,aA H3 H5->H5 y=some (.ins aD dy [("tops",.ref m'),("bottom",.int (S.2*d))])->H5 m'=some (.lst ((Dg.putK ps x (S.1.map (·*d)) ps.length).map V.int))->∀z6 jJ,N [~~~bk,~~~gn,~~~pt,~~~wl,some (.int (S.2 / G)),~~~r,z6,z7,~~~u,~~~y,jJ] H5) ?_ (λN hN=>?_)
  case refine_2=>
   dsimp?[s4 _ _ hu];refine⟨⟨_,aS.of (s4 _ _ (K3 _ _ hp))⟩,⟨_,aS.of (s4 _ _ hq)⟩,bJ (jr (K:=K) (Ok:=aA H3) (λH' s=>aS.of (s _ _ (K3 _ _ hp))) (λH' s=>aS.of (s _ _ hq))) (λj σ H5=>aA H3 H5/\H5 y=some (.ins aD dy [("tops",.ref m'),("bottom",.int (S.2*d))])/\H5 m'=some (.lst ((Dg.putK ps x (S.1.map (·*d)) j).map V.int))/\∃z6 jJ,σ=[~~~bk,~~~gn,~~~pt,~~~wl,some (.int (S.2 / G)),~~~r,z6,z7,~~~u,~~~y,jJ]) ⟨s4,hy,E7,_,_,rfl⟩ (λ_ _ _ _ h=>h.1) ?_ ?_⟩
   ·intro j v0 σ H5 H6 hj dO d5;symm;obtain⟨s5,wY,wZ,z6,jJ,rfl⟩:=dO;obtain⟨t,x1,x2,nt,rfl,e1,e2,rfl⟩:=d5;nofun;clear G_;have hj:j<ps.length:=by rw[YL,YL] at hj;lia
    have g1:ps.getD j 0=ps[j]:=by rw[YN,YM hj];rfl
    have g2:x.getD j 0=x[j]:=by rw[YN,YM ⋯];rfl
    rw[YO,YM hj] at e1;rw[YO,YM (show j<x.length by lia)] at e2;cases e1;cases e2;have mp:=YV hj;have pk:Dg.putK ps x (S.1.map (·*d)) (j+1)=(Dg.putK ps x (S.1.map (·*d)) j).set (ps[j]).toNat x[j]:=by
     rw[<-g1,<-g2];rfl
    have lk:(Dg.putK ps x (S.1.map (·*d)) j).length=n:=by rw[Dg.lB,YL,lS]
    rw[pk];generalize Dg.putK ps x (S.1.map (·*d)) j=ts at *;generalize x[j]=xj at *;generalize ps[j]=p at *;have ip:=xA p mp;obtain⟨p,rfl⟩:=Y2 ip.1;refine⟨t,_,rfl,fV.of ag,rfl,?_⟩;have s6:=ar (o:=.tup [.int (p:Int),.int xj]) nt;generalize upd H5 t (.tup [.int (p:Int),.int xj])=H6 at *;dsimp?[iR];have ym:y≠m':=λz=>by rw[z,wZ] at wY;cases wY
    have lm:p< (ts.map V.int).length:=by rw[YL];lia
    refine⟨_,_,_,s6 _ _ wY,T.bP,T.na_Book_tops,_,gW,_,rfl,_,s6 _ _ wZ,p,fC lm,aX (s5.trans s6) Oo,by rw[aK ym];exact s6 _ _ wY,?_,_,rfl⟩;rw[ag,YS,List.map_set]
   ·intro σ H5 dW;symm;obtain⟨s5,wY,wZ,z6,jJ,rfl⟩:=dW;nofun;have lm:min (List.map V.int ps).length (List.map V.int x).length=ps.length:=by rw[YL,YL];lia
    rw[lm] at wZ;exact hN _ s5 wY wZ _ _
  rintro H5 s5 wY wZ z6 jJ;dsimp?[];have lT:(Dg.putK ps x (S.1.map (·*d)) ps.length).length=n:=by rw[Dg.lB,YL,lS]
  have out:∀q,0<=q->q∉ps->(Dg.putK ps x (S.1.map (·*d)) ps.length).getD q.toNat 0=S.1.getD q.toNat 0*d:=λq q0 hq=>by
   rw[Dg.wo q0 (λp hp=>(xA p hp).1) hq _ (YR _),Dg.k5]
  have ins:∀j,j<ps.length->(Dg.putK ps x (S.1.map (·*d)) ps.length).getD (ps.getD j 0).toNat 0=x.getD j 0:=λj hj=>Dg.zQ Ey xA (by rw[YL,lS]) _ (YR _) hj;have bM:Bt (M+92*ps.length) (S.2*d):=Z.bb.mul J7;refine kk y (Dg.putK ps x (S.1.map (·*d)) ps.length,S.2*d) H5 (K3.trans s5) ⟨dy,m',wY,wZ⟩ ⟨d,d0,rfl,lT.trans lS.symm,out,λp hp=>?_⟩ ⟨lT,Zd B0 d0,bM,λk=>?_⟩
  ·symm;obtain⟨i,hi,rfl⟩:=Zi hp;nofun;have g1:ps.getD i 0=ps[i]:=by rw[YN,YM hi];rfl
   have sl:=so.eq i hi;rw[YN (l:=ps.map R),YO,YM hi] at sl;have e:=Dg.Gu (S:=S.1) (T:=Dg.putK ps x (S.1.map (·*d)) ps.length) (x:=x) (d:=d) (r:=R ps[i]) rp Ey hi sl zr ins (λy hy hn=>out y.2 (by have:=(E8 _ (by rw[g1];exact hp)).2 y hy;lia) hn);rw[g1] at e;show Dg.tt _* (Dg.putK ps x (S.1.map (·*d)) ps.length).getD _ 0=_;rw[e,Re,Int.add_mul];show _=_+Dg.fY (Dg.putK ps x (S.1.map (·*d)) ps.length) _;lia
  ·show Bt _ ((Dg.putK ps x (S.1.map (·*d)) ps.length).getD k 0)
   by_cases c:(k:Int)∈ps
   ·symm;obtain⟨j,hj,ej⟩:=Zi c;nofun;have g1:ps.getD j 0=(k:Int):=by rw[YN,YM hj,ej];rfl
    have e:=ins j hj;rw[g1,YS] at e;rw[e,YN,YM ⋯];exact ZG (zx _ (YV _)) top
   ·have e:=out (k:Int) ⋯ c;rw[YS] at e;rw[e];exact(Z.bt k).mul J7
theorem lL:aN ["board","picks","found","ways","gains","book","part"] ["board","picks"] (au (top 42)):=⟨rfl,rfl,rfl,∅,rfl,∅,∅⟩
theorem MR (T:Txt K mg aD tc) (LB:nM base mg tc tp):bK P w K mg base (bF P w) 7 "worths_of" ["board","picks"] (Aa tp):=by
 have dt:bK P w K mg base (bF P w) 6 "checked_parts" ["board"] (j9 tp):=yO T LB;have cB:bK P w K mg base (bF P w) 2 "all_weighted_ways" ["board","picks"] Bo:=Ew T;have kh:bK P w K mg base (bF P w) 4 "gains_of" ["board"] (wA aD):=Ex T;have fR:bK P w K mg base (bF P w) 3 "blank_worths" ["gains"] (DN aD):=HM T;have gA:bK P w K mg base (bF P w) 4 "with_worths" ["book","gains","part","ways"] (zZ aD):=HN T;have cZ:jK P w K mg base (bF P w) 3 aD "as_shares" ["self"] (Gv aD):=Es T;refine T.vQ.eG (λ_ _ _ _ _ _=>eO λ_ _=>rfl) λf fd F=>F.eJ lL (λvs H Q E h=>?_) (λcP A outer s H vs Q E hr h=>?_)
 ·obtain⟨_,_,_,_,_,rfl,_⟩:=h;rfl
 ·symm;obtain⟨a,c,b,rk,ks,rfl,rb,B,hc,ko,kI,kk⟩:=h;nofun;have nd:=lL.nd;refine⟨_,(af (aE (i:=2) nd rfl (.inl rfl) (aF dt (hr.mono ∅) rfl aB.pass (aa (pv 0) ae)))
  (af (aE (i:=3) nd rfl (.inl rfl) (aF cB (hr.mono ∅) rfl aB.pass (aa (pv 0) (aa (pv 1) ae))))
  (af (aE (i:=4) nd rfl (.inl rfl) (aF kh (hr.mono ∅) rfl aB.pass (aa (pv 0) ae)))
  (af (aE (i:=5) nd rfl (.inl rfl) (aF fR (hr.mono ∅) rfl aB.pass (aa (pv 4) ae)))
  (af (cm PassesOwn.never rfl (aZ (K:=K) (pv 2)) (aG (i:=6) nd rfl (.inl rfl)) (ax (aE (i:=5) nd rfl (.inl rfl) (aF gA (hr.mono ∅) rfl aB.pass (aa (pv 5) (aa (pv 4) (aa (pv 6) (aa (pv 3) ae))))))))
  (ax (aP (yi cZ T.bP (pv 5) (hr.mono ∅) aB.pass)))))))),?_⟩
  refine(?_:let cn:TS:=_;let cu:TS:=_;let cv:TS:=_;let dU:TS:=_;let iF:TS:=_;let sQ:TS:=_;tSeq cn (tSeq cu (tSeq cv (tSeq dU (tSeq iF sQ)))) _ _ _);intro cn cu cv dU iF sQ;have bl:=B.len;symm;obtain⟨g0,g1,g2⟩:=B.bot;nofun;have K4:(gT b).length=b.length:=by unfold gT;rw[YL,YL]
  have HR:(bN b ks).length=b.length:=by unfold bN;rw[Z2,ko.len];lia
  dsimp?[j9,Bo,wA,DN];refine⟨b,rb,rk,B,kI,λl ps as H1 td s1 nl hl al=>⟨b,rb.mono s1,⋯,ks,s1 _ _ hc,ko,λwl xs H2 s2 nw hw l7=>⟨b,rb.mono (s1.trans s2),rk,B,λgn H3 s3 hg=>⟨_,hg,by show(gT b).length<=60;lia,λbk H4 s4 hb=>?_⟩⟩⟩⟩;have Oq:=s2.trans (s3.trans s4);have lX:=s3.trans s4;have VR:=l7.mono b8;have la:=al.length;rw[YL] at la;refine⟨⟨_,aS.of (Oq _ _ hl)⟩,bJ (src_list (K:=K) (a:=l) (xs:=as.map V.ref) (Ok:=aA H3) (λH' s=>aS.of ((s3.trans s) _ _ (s2 _ _ hl)))) (λi σ H5=>aA H3 H5/\∃bk S z,kJ aD H5 bk S/\wt b ks ps i S/\σ=[~~~a,~~~c,~~~l,~~~wl,~~~gn,~~~bk,z]) ⟨s4,bk,_,_,hb,by rw[K4];exact wt.start B,rfl⟩ (λ_ _ _ _ h=>h.1) ?_ ?_⟩
  ·intro i y σ H5 H6 hi dO d5;symm;obtain⟨s5,bk,S,z,uV,W,rfl⟩:=dO;obtain⟨rfl,ex⟩:=d5;rw[YL] at hi;obtain⟨p,ep,x,rfl,hx⟩:=al.get ex;nofun;have ip:=td.Gh (YQ ep);have Ot:=s2.trans (s3.trans s5);have lp:0< (Pr.cW b p).length:=List.length_pos_iff.mpr (Pr.iw B.jH.good ip);have o1:=ux B td (i:=i+1) ⋯;rw[Pr.iY ep] at o1;have eP:∀q∈Pr.cW b p,Pr.In b q:=λq hq=>Pr.eB B.jH.good ip hq;dsimp?[zZ];refine⟨S,uV,gT b,gB b,hg.mono s5,Pr.cW b p,Ot _ _ hx,b.length,330+92*Pr.off b ps i,xs,(s3.trans s5) _ _ hw,bN b ks,VR.mono (s3.trans s5),HR,bl,(Pr.iX B.jH.good ip).imp (λh z=>⋯),lp,⋯,eP,λws Ep=>?_,rk,λq hq=>B.dn ko (eP q hq),W.sz,⋯,K4,g0,g1.mono ∅,W.dv,B.top,λq hq=>W.zr q (eP q hq) (by rw[iA B td ep hq];exact YR _),λx2 T2 H7 s7 h7 st sz=>⟨s5.trans s7,x2,T2,h7,W.step B td ko ep st sz,rfl,_,rfl⟩⟩;symm;obtain⟨j,hj,rfl⟩:=Zi Ep;have JK:j<b.length:=⋯
   obtain⟨q,k,e1,e2,po,ew⟩:=ko.at JK;nofun;have:=(B.wk ko (p:=(j:Int)) ⟨⋯,⋯⟩).1;unfold bf at this;rw[YS,YN,YM hj] at this;exact this
  ·intro σ H5 dW;symm;obtain⟨s5,bk,S,z,uV,W,rfl⟩:=dW;nofun;rw[YL,la] at W;dsimp?[kO];symm;obtain⟨dx,m,hx,hm⟩:=id uV;nofun;have W0:=W.sz.pos;have o1:=ux B td (i:=ps.length) (YR _);have sz:=W.sz.up (M':=1900) ⋯;refine⟨_,_,hx,Et,bk,S,rfl,uV,W0,sz.bb.mono ∅,by rw[sz.len];lia,λl6 H6 s6 n6 r6=>kk l6 S H6 (s1.trans (s2.trans (s3.trans (s5.trans s6)))) (none_of (s1.trans (s2.trans (s3.trans s5))) n6) r6 sz W.dv λp hp=>W.eq p hp (DT B td ⟨⋯,⋯⟩)⟩
theorem EA {rs:List Int} {x:Int}:IG (.int x) (List.map V.int rs)=decide (x∈rs):=by
 unfold IG;rw[List.any_map,Bool.eq_iff_iff,List.any_eq_true];simp only[Function.comp,EY,beq_iff_eq,decide_eq_true_eq];constructor
 ·rintro⟨i,hi,rfl⟩;exact hi
 ·intro h;exact⟨x,h,rfl⟩
theorem EB (ns:List Int):(List.map V.int ns).all fK=true:=by
 rw[List.all_eq_true];intro v hv;obtain⟨i,_,rfl⟩:=aau.mp hv;rfl
theorem jl:aN ["book","part","ways","coming","answers","told","place","top","weight","to"] ["book","part","ways"] (au (top 43)):=⟨rfl,rfl,rfl,∅,rfl,∅,∅⟩
theorem MS (T:Txt K mg aD tc):bK P w K mg base (bF P w) 4 "with_visits" ["book","part","ways"] (DV aD):=by
 have cL:bK P w K mg base (bF P w) 1 "total_weight" ["ways"] lA:=An T;have fi:bK P w K mg base (bF P w) 3 "whole_answers" ["rows","right"] DC:=Hy T;have qY:bK P w K mg base (bF P w) 2 "turned_rows" ["rows"] DE:=Kb T;have jj:bK P w K mg base (bF P w) 2 "part_rows" ["part","ways"] wd:=Eo T;have gz:jK P w K mg base (bF P w) 3 aD "scaled" ["self","factor"] (DL aD):=Er T;refine T.qT.eG (λ_ _ _ _ _ _=>nV λ_ _ _=>rfl) λf fd F=>F.eJ jl (λvs H Q E h=>?_) (λcP A outer s H vs Q E hr h=>?_)
 ·obtain⟨_,_,_,_,_,_,_,_,_,_,rfl,_⟩:=h;rfl
 ·symm;obtain⟨bk,pt,wl,S,ps,n,M,xs,dF,lv,rfl,hb,hp,hw,rl,lw,VN,Ey,p0,Gy,xA,wk,dn,Z,VS,M0,kk⟩:=h;nofun;clear G_;have nd:=jl.nd;refine⟨_,(af (fA (i:=3) rfl nd rfl rfl (N:=["book","part","ways","coming","answers","told","place","top","weight","to"]) (so:=au (top 43)) (N':=["place","book"]) (k:=1) (fr:=[0]) rfl rfl ⟨rfl,∅,∅,∅,rfl,∅,∅⟩ (aZ (K:=K) (pv 1)) (λ_ _ _ _ _=>(aG (i:=0) (show(["place","book"]:List Str).Nodup by ac_rfl) rfl (.inl rfl))) (λ_ _ _ _ _=>bH)
   (λ_ _ _ _ _=>(aI aJ (tU (K:=K) (pv 1) rfl) (pv 0) (λ_ _=>rfl))))
  (af (bT (BL (sU (aU (vM (K:=K)) (by rfl) T.z_any rfl (aa (pv 3) ae)))) (ax (aP (pv 0)))
   bo)
  (af (aE (i:=4) nd rfl (.inl rfl) (aF fi (hr.mono ∅) rfl aB.pass (aa (aF qY (hr.mono ∅) rfl aB.pass (aa (aF jj (hr.mono ∅) rfl aB.pass (aa (pv 1) (aa (pv 2) ae))) ae)) (aa (pv 3) ae))))
  (af (aE (i:=5) nd rfl (.inl rfl) (Hg gz T.bP (pv 0) (hr.mono ∅) aB.pass (aa (aI aL (pv 4) ao (λ_ _=>rfl)) ae) (hst:=se rfl)))
  (af (cm PassesOwn.never rfl (js (K:=K) rfl T.z_zip (aa (pv 1) (aa (aI aL (pv 4) ao (λ_ _=>rfl)) ae))) (bV (K:=K) (n:=2) rfl (aQ (aG (i:=6) nd rfl (.inl rfl)) (aQ (aG (i:=7) nd rfl (.inl rfl)) bU))) (af (fc (aH aV (pv 7) (aF cL (hr.mono ∅) rfl aB.pass (aa (aI aJ (pv 2) (pv 6) (λ_ _=>rfl)) ae))) (fI (dN (pv 5) rfl) (pv 6) set_list))
  (ax (cm PassesOwn.never rfl (aZ (K:=K) (aI aJ (pv 2) (pv 6) (λ_ _=>rfl))) (bV (K:=K) (n:=2) rfl (aQ (aG (i:=8) nd rfl (.inl rfl)) (aQ (aG (i:=9) nd rfl (.inl rfl)) bU))) (ax (bT (aR (qO (K:=K)) (pv 9) (pv 1) rfl) (ax (yV (dN (pv 5) rfl) (pv 9) vL (aH aV (pv 7) (pv 8)) Iv set_list))
   bo))))))
  (ax (aP (pv 5)))))))),?_⟩
  refine(?_:let cn:TS:=_;let cu:TS:=_;let cv:TS:=_;let dU:TS:=_;let iF:TS:=_;let sQ:TS:=_;tSeq cn (tSeq cu (tSeq cv (tSeq dU (tSeq iF sQ)))) _ _ _);intro cn cu cv dU iF sQ;have sl:=sizeLine_eq;symm;obtain⟨dx,m,HQ,F0⟩:=id hb;have B0:=Z.pos;have lS:=Z.len;have MP:∀t∈S.1,Bt 4000 t:=λt ht=>by
   obtain⟨j,hj,rfl⟩:=Zi ht;have:=Z.bt j;rw[YN,YM hj] at this;exact Bt.mono this ⋯
  have MQ:∀p:Nat,(p:Int)∈ps->∃wv us,eV xs (p:Int)=some (.ref wv)/\Rep H (oP (bf dF (p:Int))) (.ref wv)/\H wv=some (.lst us)/\a8 H ((bf dF (p:Int)).map a9) us/\us.length=(bf dF (p:Int)).length/\Dg.uu n (bf dF (p:Int)):=λp hp=>by
   have hl:p<dF.length:=by have:=(xA _ hp).2;lia
   have ew:dF[p]?=some (bf dF (p:Int)):=by
    unfold bf;rw[YS,YN,YM hl];rfl
   obtain⟨v,ev,rv⟩:=rl.at (d:=oP (bf dF (p:Int))) (i:=p) (by rw[YO,ew];rfl);obtain⟨wv,us,rfl,Bv,ru⟩:=aM.mp rv;have lu:=ru.length;rw[YL] at lu;exact⟨wv,us,bA ev,rv,Bv,ru,lu.symm,wk _ (YQ ew)⟩
  have E8:∀p∈ps,Dg.uu n (bf dF p):=λp hp=>by
   obtain⟨p,rfl⟩:=Y2 (xA p hp).1;obtain⟨_,_,_,_,_,_,_,h⟩:=MQ p hp;exact h
  obtain⟨C,hC⟩:∃C:List Int,C=ps.map λp=>S.1.getD p.toNat 0:=⟨_,rfl⟩
  nofun;clear G_;have lC:C.length=ps.length:=by rw[hC,YL]
  subst_vars;refine ba (λN=>∀H1 co,aA H H1->H1 co=some (.lst (C.map V.int))->N [~~~bk,~~~pt,~~~wl,~~~co,none,none,none,none,none,none] H1) ?_ (λN hN=>?_)
  case refine_2=>
   dsimp?[];refine⟨⟨_,aS.of hp⟩,?_⟩;have S':Src (uO K pt) (aA H) ps.length (λi x H H3=>H3=H/\(ps.map V.int)[i]?=some x):=by
    have:=src_list (K:=K) (a:=pt) (xs:=ps.map V.int) (Ok:=aA H) (λH2 s2=>aS.of (s2 _ _ hp))
    rwa [YL] at this
   refine dz ps (λp=>some (S.1.getD p.toNat 0)) S' (λ_ _ _ _ h=>h.1) ⋯ ?_ ?_
   ·rintro i p x ep ⟨_,ex⟩ Y N y1 _;rw[YO,ep] at ex;cases ex;have ip:=xA p (YQ ep);have VT:eV (S.1.map V.int) p=some (.int (S.1.getD p.toNat 0)):=dP ip.1 ⋯;dsimp?[gm,iR];exact⟨_,_,_,HQ,T.bP,T.na_Book_tops,_,gW,_,rfl,_,F0,_,VT,y1 _ rfl⟩
   ·intro D n1 n2;rw[dX];exact hN _ D (ar n2) (by rw[ag,hC])
  rintro H1 co s1 NK;subst_vars;refine ba (λN=>N [~~~bk,~~~pt,~~~wl,~~~co,none,none,none,none,none,none] H1) ?_ (λN hN=>?_)
  case refine_2=>
   dsimp?[];refine⟨C,aS.of NK,?_⟩
   by_cases c0:∀p∈ps,S.1.getD p.toNat 0=0
   ·rw[if_pos (by
     rw[List.any_eq_false];intro x hx;rw[hC] at hx;symm;obtain⟨p,hp,rfl⟩:=aau.mp hx;nofun;rw[c0 p hp]
     decide)]
    exact kk bk S H1 s1 (hb.mono s1) (.inl ⟨rfl,c0⟩) (Z.up ⋯)
   ·rw[if_neg (λz=>c0 λp hp=>by
     rw[List.any_eq_false] at z;have:=z (S.1.getD p.toNat 0) (by rw[hC];exact aau.mpr ⟨p,hp,rfl⟩)
     simpa using this)]
    exact hN
  have bC:∀x∈C,x.natAbs<=2^M:=λx hx=>by
   rw[hC] at hx;symm;obtain⟨p,hp,rfl⟩:=aau.mp hx;nofun;exact Nat.le_of_lt (Z.bt _)
  have b1:(1:Nat)<=2^20:=∅
  have bc:(2:Nat)^20<=2^M:=ZP ∅ VS;have Qm:(ps.length+1)^ (ps.length+1)* (2^M* (2^20)^ps.length)<=2^ (M+ (25*ps.length+5)):=by
   refine YY (Z7 _ (Dg.jA ps.length ⋯)) ?_;rw[<-Nat.pow_mul,<-ZH,<-ZH];exact ZP ∅ ⋯
  have VU:(ps.length+1)^ (ps.length+1)* (2^20)^ps.length<=2^ (25*ps.length+5):=by
   refine YY (Z7 _ (Dg.jA ps.length ⋯)) ?_;rw[<-Nat.pow_mul,<-ZH];exact ZP ∅ ⋯
  have Ql:(ps.length+1)^ (ps.length+1)* (2^M* (2^20)^ps.length)<2^4000:=ZG Qm (aak ∅ ⋯);subst_vars;refine ba (λN=>∀H3 u q d x L,aA H1 H3->H3 u=some (.tup [.ref q,.int d])->H3 q=some (.lst (x.map V.int))->Dg.j8 ps (bf dF) L->P7 (aO.v7 L) C ps.length x d->d.natAbs<=(ps.length+1)^ (ps.length+1)* (2^20)^ps.length->(∀v∈x,v.natAbs<=(ps.length+1)^ (ps.length+1)* (2^M* (2^20)^ps.length))->N [~~~bk,~~~pt,~~~wl,~~~co,~~~u,none,none,none,none,none] H3) ?_ (λN hN=>?_)
  case refine_2=>
   dsimp?[wd,DC,DE];refine⟨ps,s1 _ _ hp,_,s1 _ _ hw,_,rl.mono s1,Ey,⋯,λp hp=>by have:=xA p hp;lia,λws Ep=>(wk ws Ep).1,λr2 L H3 s3 mt rp=>?_⟩;have sq:aO.Sq L ps.length:=⟨rp.1,rp.2.1⟩
   have MT:=aO.Dq sq;have hL:∀r∈aO.v7 L,∀x∈r,x.natAbs<=2^20:=Gz (rp.ent E8);have sw:=zP MT lC ⋯ b1 bc hL bC Ql;refine⟨L,mt,ps.length,sq,⋯,λr5 H5 s5 VW=>⟨_,VW,C,(s3.trans s5) _ _ NK,?_⟩⟩;rw[lC];refine⟨MT,sw,λk rs W H4 St hk st s4=>?_,λrs W t p H4 St s4 ht BC=>?_⟩
   ·exact absurd (aO.su MT lC St hk st) (rp.turned Ey (λp hp x hx=>((E8 p hp).2 x hx).1) dn)
   ·obtain⟨z1,z2⟩:=DH MT lC b1 bc hL bC St;exact hN _ t p _ _ L (s3.trans (s5.trans s4)) ht BC rp (DG MT lC sw St) z1 z2
  rintro H3 u q d x L s3 hu hq rp so zd zx;have EC:=s1.trans s3;have d0:=so.pos;have lx:=so.len;have J7:Bt (25*ps.length+6) d:=ZG (YY zd VU) (aak ∅ ⋯);have bX:∀v∈x,Bt (M+ (25*ps.length+6)) v:=λv hv=>ZG (YY (zx v hv) Qm) (aak ∅ ⋯);subst_vars;refine ba (λN=>∀H4 y dy m',aA H3 H4->H3 y=none->H3 m'=none->H4 y=some (.ins aD dy [("tops",.ref m'),("bottom",.int (S.2*d))])->H4 m'=some (.lst ((S.1.map (·*d)).map V.int))->N [~~~bk,~~~pt,~~~wl,~~~co,~~~u,~~~y,none,none,none,none] H4) ?_ (λN hN=>?_)
  case refine_2=>
   dsimp?[kO,hu];refine⟨_,_,EC _ _ HQ,HK,bk,S,_,rfl,⟨_,_,EC _ _ HQ,EC _ _ F0⟩,so.bd,Z.bb.mono ⋯,MP,⋯,λy dy m' H4 s4 ny nm hy hm=>hN _ y dy m' s4 ny nm hy hm⟩
  rintro H4 y dy m' s4 ny Oo hy E7;subst_vars;refine ba (λN=>∀H5,aA H3 H5->H5 y=some (.ins aD dy [("tops",.ref m'),("bottom",.int (S.2*d))])->H5 m'=some (.lst ((Dg.i7 ps x (bf dF) (S.1.map (·*d)) ps.length).map V.int))->∀z6 z7 z8 z9,N [~~~bk,~~~pt,~~~wl,~~~co,~~~u,~~~y,z6,z7,z8,z9] H5) ?_ (λN hN=>?_)
  case refine_2=>
   dsimp?[s4 _ _ hu];refine⟨⟨_,aS.of (s4 _ _ (EC _ _ hp))⟩,⟨_,aS.of (s4 _ _ hq)⟩,bJ (jr (K:=K) (Ok:=aA H3) (λH' s=>aS.of (s _ _ (EC _ _ hp))) (λH' s=>aS.of (s _ _ hq))) (λj σ H5=>aA H3 H5/\H5 y=some (.ins aD dy [("tops",.ref m'),("bottom",.int (S.2*d))])/\H5 m'=some (.lst ((Dg.i7 ps x (bf dF) (S.1.map (·*d)) j).map V.int))/\∃z6 z7 z8 z9,σ=[~~~bk,~~~pt,~~~wl,~~~co,~~~u,~~~y,z6,z7,z8,z9]) ⟨s4,hy,E7,_,_,_,_,rfl⟩ (λ_ _ _ _ h=>h.1) ?_ ?_⟩
   ·intro j v0 σ H5 H6 hj dO d5;symm;obtain⟨s5,wY,wZ,z6,z7,z8,z9,rfl⟩:=dO;obtain⟨t,x1,x2,nt,rfl,e1,e2,rfl⟩:=d5;nofun;clear G_;have hj:j<ps.length:=by rw[YL,YL] at hj;lia
    have g1:ps.getD j 0=ps[j]:=by rw[YN,YM hj];rfl
    have g2:x.getD j 0=x[j]:=by rw[YN,YM ⋯];rfl
    rw[YO,YM hj] at e1;rw[YO,YM (show j<x.length by lia)] at e2;cases e1;cases e2;have mp:=YV hj;have SH:=bX _ (YV (show j<x.length by lia));have pk:Dg.i7 ps x (bf dF) (S.1.map (·*d)) (j+1)=Dg.addW x[j] (Dg.mN ps (bf dF ps[j])) ((Dg.i7 ps x (bf dF) (S.1.map (·*d)) j).set (ps[j]).toNat (x[j]*Dg.tt (bf dF ps[j]))):=by
     rw[<-g1,<-g2];rfl
    have lk:(Dg.i7 ps x (bf dF) (S.1.map (·*d)) j).length=n:=by rw[Dg.i8,YL,lS]
    rw[pk];generalize Dg.i7 ps x (bf dF) (S.1.map (·*d)) j=ts at *;generalize x[j]=xj at *;generalize ps[j]=p at *;have ip:=xA p mp;obtain⟨p,rfl⟩:=Y2 ip.1;symm;obtain⟨wv,us,E6,rv,Bv,ru,lu,Ez⟩:=MQ p mp;nofun;clear G_;generalize bf dF (p:Int)=ws at *;obtain⟨t1,t9⟩:=Ez.tt;have w5:=Ez.1;have bd:Bt 20 (Dg.tt ws):=Bt.of 1000000 ⋯ ⋯;refine⟨t,_,rfl,fV.of ag,rfl,?_⟩;have s6:=ar (o:=.tup [.int (p:Int),.int xj]) nt;generalize upd H5 t (.tup [.int (p:Int),.int xj])=H6 at *;have ym:y≠m':=λz=>by rw[z,wZ] at wY;cases wY
    have MD:=s5.trans s6;have HS:=EC.trans MD;dsimp?[iR,lA];refine⟨_,HS _ _ hw,_,E6,wv,rfl,ws,rv.mono HS,w5,λH7 s7=>⟨SH.dH bd ⋯,?_⟩⟩;have VX:=MD.trans s7;have VY:p< (ts.map V.int).length:=by rw[YL];lia
    refine⟨_,_,_,(s6.trans s7) _ _ wY,T.bP,T.na_Book_tops,_,gW,_,rfl,_,(s6.trans s7) _ _ wZ,p,fC VY,?_⟩;rw[<-List.map_set,YS];have lm:(ts.set p (xj*Dg.tt ws)).length=n:=by rw[Zh];exact lk
    generalize ts.set p (xj*Dg.tt ws)=tq at *;have s8:aA H3 (upd H7 m' (.lst (tq.map V.int))):=aX VX Oo;have VZ:upd H7 m' (.lst (tq.map V.int)) m'=some (.lst (tq.map V.int)):=ag;have V3:upd H7 m' (.lst (tq.map V.int)) y=some (.ins aD dy [("tops",.ref m'),("bottom",.int (S.2*d))]):=by rw[aK ym];exact(s6.trans s7) _ _ wY
    generalize upd H7 m' (.lst (tq.map V.int))=H8 at *;have MU:=EC _ _ Bv;refine⟨_,(EC.trans s8) _ _ hw,_,E6,wv,rfl,⟨_,aS.of (s8 _ _ MU)⟩,bJ (src_list (K:=K) (a:=wv) (xs:=us) (Ok:=aA H3) (λH2 V4=>aS.of (V4 _ _ MU))) (λj σ H9=>aA H3 H9/\H9 y=some (.ins aD dy [("tops",.ref m'),("bottom",.int (S.2*d))])/\H9 m'=some (.lst ((Dg.addW xj (Dg.mN ps (ws.take j)) tq).map V.int))/\∃z8 z9,σ=[~~~bk,~~~pt,~~~wl,~~~co,~~~u,~~~y,some (.int (p:Int)),some (.int xj),z8,z9]) ⟨s8,V3,VZ,_,_,rfl⟩ (λ_ _ _ _ h=>h.1) ?_ ?_⟩
    ·intro j y0 σ HA HB hj dO d5;symm;obtain⟨sA,Kh,Ki,z8,z9,rfl⟩:=dO;obtain⟨rfl,ey⟩:=d5;have SI:j<ws.length:=⋯
     have ej:ws[j]?=some ws[j]:=YM SI;obtain⟨t,et,ht⟩:=cN (ru.mono (EC.trans sA)) ej;nofun;clear G_;rw[ey] at et;cases et;refine⟨t,_,rfl,fV.of ht,rfl,?_⟩;have mj:ws[j]∈ws:=YV SI;symm;obtain⟨x1,x2,x3,x4⟩:=Ez.2 _ mj;nofun;clear G_;have la:(Dg.addW xj (Dg.mN ps (ws.take j)) tq).length=n:=by rw[Dg.qm];exact lm
     have tk:ws.take (j+1)=ws.take j++ [ws[j]]:=by rw[Zc,ej];rfl
     have ot:Dg.mN ps (ws.take (j+1))=Dg.mN ps (ws.take j)++ (if (ws[j]).2∈ps then [] else [ws[j]]):=by
      rw[tk];unfold Dg.mN;rw[List.filter_append];congr 1
      by_cases c:(ws[j]).2∈ps
      ·rw[if_pos c,List.filter_cons_of_neg (by simpa using c)];rfl
      ·rw[if_neg c,List.filter_cons_of_pos (by simpa using c)];rfl
     rw[ot];generalize SJ:Dg.addW xj (Dg.mN ps (ws.take j)) tq=A0 at *;generalize ws[j]=wj at *;have Qi:eV (A0.map V.int) wj.2=some (.int (A0.getD wj.2.toNat 0)):=dP x3 ⋯;dsimp?[iR,BO,NG,OW];have ym:y≠m':=λz=>by rw[z,Ki] at Kh;cases Kh
     have ix:yZ (A0.map V.int).length wj.2=some wj.2.toNat:=by
      have:=fC (n:=(A0.map V.int).length) (i:=wj.2.toNat) (by rw[YL];lia)
      rwa [Z3 x3] at this
     refine⟨_,.inl (aS.of ((EC.trans sA) _ _ hp)),rfl,EB _,?_⟩
     by_cases c:wj.2∈ps
     ·have iv:IG (V.int wj.2) (ps.map V.int)=true:=by rw[EA];exact decide_eq_true c
      rw[iv];rw[if_neg ∅,if_pos c,ZD,SJ];exact⟨sA,Kh,Ki,_,rfl⟩
     ·have iv:IG (V.int wj.2) (ps.map V.int)=false:=by rw[EA];exact decide_eq_false c
      rw[iv,if_pos ∅,if_neg c,Dg.sj,SJ];refine⟨_,_,_,Kh,T.bP,T.na_Book_tops,_,gW,_,rfl,_,Ki,_,Qi,SH.dH (Bt.of (n:=18) 200000 ⋯ ⋯) ⋯,_,rfl,_,rfl,_,Ki,_,ix,aX sA Oo,by rw[aK ym];exact Kh,?_,_,rfl⟩;rw[ag,List.map_set]
    ·intro σ HA dW;symm;obtain⟨sA,Kh,Ki,z8,z9,rfl⟩:=dW;nofun;rw[Zg ⋯] at Ki;exact⟨sA,Kh,Ki,_,_,_,_,rfl⟩
   ·intro σ H5 dW;symm;obtain⟨s5,wY,wZ,z6,z7,z8,z9,rfl⟩:=dW;nofun;have lm:min (List.map V.int ps).length (List.map V.int x).length=ps.length:=by rw[YL,YL];lia
    rw[lm] at wZ;exact hN _ s5 wY wZ _ _ _ _
  rintro H5 s5 wY wZ z6 z7 z8 z9;dsimp?[];have lt:(S.1.map (·*d)).length=n:=by rw[YL,lS]
  have lT:(Dg.i7 ps x (bf dF) (S.1.map (·*d)) ps.length).length=n:=by rw[Dg.i8,lt]
  have sq:aO.Sq L ps.length:=⟨rp.1,rp.2.1⟩
  have ins:∀j,j<ps.length->(Dg.i7 ps x (bf dF) (S.1.map (·*d)) ps.length).getD (ps.getD j 0).toNat 0=x.getD j 0*Dg.tt (bf dF (ps.getD j 0)):=λj hj=>Dg.Ad Ey xA lt E8 _ (YR _) hj;have all:∀q:Int,0<=q->(Dg.i7 ps x (bf dF) (S.1.map (·*d)) ps.length).getD q.toNat 0=S.1.getD q.toNat 0*d+aO.sm ps.length (λi=>x.getD i 0*Dg.cQ q (bf dF (ps.getD i 0))):=λq q0=>by
   by_cases c:q∈ps
   ·symm;obtain⟨i,hi,rfl⟩:=Zi c;nofun;have g1:ps.getD i 0=ps[i]:=by rw[YN,YM hi];rfl
    have e1:=ins i hi;have e2:=rp.P9 so.eq hi;rw[hC,YN (l:=ps.map _),YO,YM hi] at e2;rw[g1] at e1 e2;rw[e1,e2];rfl
   ·rw[Dg.wH xA lt E8 q0 c _ (YR _),Dg.k5]
  refine kk y (Dg.i7 ps x (bf dF) (S.1.map (·*d)) ps.length,S.2*d) H5 (EC.trans s5) ⟨dy,m',wY,wZ⟩ (.inr ⟨d,x,d0,rfl,lT.trans lS.symm,ins,all⟩) ⟨lT,Zd B0 d0,(Z.bb.mul J7).mono ⋯,λk=>?_⟩;show Bt _ ((Dg.i7 ps x (bf dF) (S.1.map (·*d)) ps.length).getD k 0);have e:=all (k:Int) ⋯;rw[YS] at e;rw[e];exact Dg.JN p0 Gy E8 (λj hj=>zx _ (by rw[YN,YM ⋯];exact YV _)) Qm J7 (Z.bt k)
theorem sR:aN ["board","picks","start","found","ways","book","part"] ["board","picks","start"] (au (top 44)):=⟨rfl,rfl,rfl,∅,rfl,∅,∅⟩
theorem MV (T:Txt K mg aD tc) (LB:nM base mg tc tp):bK P w K mg base (bF P w) 7 "visits" ["board","picks","start"] (DW tp):=by
 have dt:bK P w K mg base (bF P w) 6 "checked_parts" ["board"] (j9 tp):=yO T LB;have cB:bK P w K mg base (bF P w) 2 "all_weighted_ways" ["board","picks"] Bo:=Ew T;have qZ:bK P w K mg base (bF P w) 4 "with_visits" ["book","part","ways"] (DV aD):=MS T;have kf:pR P w K mg base (bF P w) 1 "Book" aD ["self","tops","bottom"] (DK aD):=Ao T;have cZ:jK P w K mg base (bF P w) 3 aD "as_shares" ["self"] (Gv aD):=Es T;refine T.CY.eG (λ_ _ _ _ _ _=>nV λ_ _ _=>rfl) λf fd F=>F.eJ sR (λvs H Q E h=>?_) (λcP A outer s H vs Q E hr h=>?_)
 ·obtain⟨_,_,_,_,_,_,rfl,_⟩:=h;rfl
 ·symm;obtain⟨a,c,st,b,rk,ks,rfl,rb,B,hc,ko,kI,hst,kk⟩:=h;nofun;clear G_;have nd:=sR.nd;refine⟨_,(af (aE (i:=3) nd rfl (.inl rfl) (aF dt (hr.mono ∅) rfl aB.pass (aa (pv 0) ae)))
  (af (aE (i:=4) nd rfl (.inl rfl) (aF cB (hr.mono ∅) rfl aB.pass (aa (pv 0) (aa (pv 1) ae))))
  (af (aE (i:=5) nd rfl (.inl rfl) (zu kf (hr.mono ∅) rfl aB.pass (aa (aH pf (cY (aa ao ae)) (aU bu (by rfl) T.z_len Y9 (aa (pv 0) ae))) (aa ao ae))))
  (af (fc ao (fI (dN (pv 5) rfl) (pv 2) set_list))
  (af (cm PassesOwn.never rfl (tS (K:=K) rfl T.z_reversed (aa (pv 3) ae)) (aG (i:=6) nd rfl (.inl rfl)) (ax (aE (i:=5) nd rfl (.inl rfl) (aF qZ (hr.mono ∅) rfl aB.pass (aa (pv 5) (aa (pv 6) (aa (pv 4) ae)))))))
  (ax (aP (yi cZ T.bP (pv 5) (hr.mono ∅) aB.pass)))))))),?_⟩
  refine(?_:let cn:TS:=_;let cu:TS:=_;let cv:TS:=_;let dU:TS:=_;let iF:TS:=_;let sQ:TS:=_;tSeq cn (tSeq cu (tSeq cv (tSeq dU (tSeq iF sQ)))) _ _ _);intro cn cu cv dU iF sQ;have bl:=B.len;have sl:=sizeLine_eq;symm;obtain⟨_,xb,e,ha,HU⟩:=aM.mp rb;nofun;clear G_;cases e;have lx:=HU.length;rw[YL] at lx;subst_vars;refine ba (λN=>∀H1 l ps as,Pr.Told b ps->aA H H1->H1 l=some (.lst (List.map V.ref as))->Al (λp v=>∃x,v=.ref x/\H1 x=some (.lst ((Pr.cW b p).map V.int))) ps (as.map V.ref)->N [~~~a,~~~c,some (.int (st:Int)),~~~l,none,none,none] H1) ?_ (λN hN=>?_)
  case refine_2=>
   dsimp?[j9];exact⟨b,rb,rk,B,kI,λl ps as H1 td s1 nl hl al=>hN _ l ps as td s1 hl al⟩
  rintro H1 l ps as td s1 hl al;subst_vars;refine ba (λN=>∀H2 wl xs,aA H1 H2->H2 wl=some (.lst xs)->a8 H2 ((bN b ks).map oP) xs->N [~~~a,~~~c,some (.int (st:Int)),~~~l,~~~wl,none,none] H2) ?_ (λN hN=>?_)
  case refine_2=>
   dsimp?[Bo];exact⟨b,rb.mono s1,⋯,ks,s1 _ _ hc,ko,λwl xs H2 s2 nw hw l7=>hN _ wl xs s2 hw (l7.mono b8)⟩
  rintro H2 wl xs s2 hw rl;have GO:=s1.trans s2;subst_vars;refine ba (λN=>∀H3 y dy m,aA H2 H3->H2 m=none->H3 y=some (.ins aD dy [("tops",.ref m),("bottom",.int 1)])->H3 m=some (.lst ((aaz b.length 0).map V.int))->N [~~~a,~~~c,some (.int (st:Int)),~~~l,~~~wl,~~~y,none] H3) ?_ (λN hN=>?_)
  case refine_2=>
   dsimp?[rF,AJ];refine⟨∅,λz nz=>?_⟩;have s3:=ar (o:=.lst [V.int 0]) nz;have hz:upd H2 z (.lst [V.int 0]) z=some (.lst [V.int 0]):=ag;generalize upd H2 z (.lst [V.int 0])=H3 at *;refine⟨_,(GO.trans s3) _ _ ha,_,hz,⋯,⋯,by rw[YS];show 1*xb.length<=_;lia,λD nD=>?_⟩;rw[YS,List.flatten_replicate_singleton,<-lx] at *;have s4:=s3.trans (ar (o:=.lst (aaz b.length (V.int 0))) nD);have hD:upd H3 D (.lst (aaz b.length (V.int 0))) D=some (.lst ((aaz b.length 0).map V.int)):=by rw[ag,List.map_replicate]
   generalize upd H3 D (.lst (aaz b.length (V.int 0)))=H4 at *;intro y dy ny HL ne;have s5:=s4.trans (ar (o:=.own y) HL);have J9:=ar (o:=.own y) HL _ _ hD;have xD:D≠y:=λz=>by rw[z,ny] at hD;cases hD
   refine⟨y,dy,D,_,_,rfl,ag,by rw[aK xD];exact J9,λm' H' nm E7 nG ky=>⟨rfl,hN _ y dy m' (λz o hz=>?_) ?_ nG E7⟩⟩
   ·have yx:z≠y:=λe=>by have:=s4 _ _ hz;rw[e,ny] at this;cases this
    exact ky z o yx (by rw[aK yx];exact s5 _ _ hz)
   ·have my:m'≠y:=λe=>by rw[e,ag] at nm;cases nm
    rw[aK my] at nm;exact none_of s5 nm
  rintro H3 y dy m s3 nm hy hm;have ym:y≠m:=λz=>by rw[z,hm] at hy;cases hy
  subst_vars;refine ba (λN=>∀H4,aA H2 H4->kJ aD H4 y ((aaz b.length (0:Int)).set st 1,1)->N [~~~a,~~~c,some (.int (st:Int)),~~~l,~~~wl,~~~y,none] H4) ?_ (λN hN=>?_)
  case refine_2=>
   dsimp?[iR];refine⟨_,_,_,hy,T.bP,T.na_Book_tops,_,gW,_,rfl,_,hm,st,fC (by rw[YL,Zr];exact hst),hN _ (aX s3 nm) ⟨dy,m,by rw[aK ym];exact hy,?_⟩⟩;rw[ag,List.map_set]
  rintro H4 s4 hb;have la:=al.length;rw[YL] at la;have HR:(bN b ks).length=b.length:=by unfold bN;rw[Z2,ko.len];lia
  have MW:∀{os:List Int},os.Nodup->(∀q∈os,Pr.In b q)->os.length<=b.length:=λ{os} h1 h2=>by
   have:=Pr.sub_len (m:=kK b.length) h1 λq hq=>f9.mpr (h2 q hq);unfold kK at this
   rwa [YL,Y6] at this
  subst_vars;refine ba (λN=>∀H5,aA H2 H5->∀bk S z os,kJ aD H5 bk S->os.Nodup->(∀q,q∈os↔Pr.In b q)->wI b ks st os S->N [~~~a,~~~c,some (.int (st:Int)),~~~l,~~~wl,~~~bk,z] H5) ?_ (λN hN=>?_)
  case refine_2=>
   dsimp?[CN];have lX:=s2.trans s4;refine⟨_,aS.of (lX _ _ hl),bJ (FZ (K:=K) (a:=l) (xs:=as.map V.ref) (Ok:=aA H2) (λH' s=>aS.of ((s2.trans s) _ _ hl))) (λi σ H5=>aA H2 H5/\∃bk S z os,kJ aD H5 bk S/\os.Nodup/\(∀q,q∈os↔Pr.In b q/\ps.length<=uw b ps q+i)/\wI b ks st os S/\σ=[~~~a,~~~c,some (.int (st:Int)),~~~l,~~~wl,~~~bk,z]) ⟨s4,y,_,_,[],hb,List.nodup_nil,λq=>⟨λh=>by simp at h,λh=>by have:=DT B td h.1;have:=h.2;lia⟩,wI.start hst,rfl⟩ (λ_ _ _ _ h=>h.1) ?_ ?_⟩
   ·intro i v σ H5 H6 hi dO d5;symm;obtain⟨s5,bk,S,z,os,uV,K6,mo,I,rfl⟩:=dO;obtain⟨rfl,ex⟩:=d5;rw[YL] at hi;obtain⟨p,ep,x,rfl,hx⟩:=al.reverse.get ex;nofun;have DR:i<ps.length:=⋯
    rw[List.getElem?_reverse DR] at ep;have ip:=td.Gh (YQ ep);have eP:∀q∈Pr.cW b p,Pr.In b q:=λq hq=>Pr.eB B.jH.good ip hq;have lp:0< (Pr.cW b p).length:=List.length_pos_iff.mpr (Pr.iw B.jH.good ip);have GK:(Pr.cW b p).Nodup:=(Pr.iX B.jH.good ip).imp λh z=>⋯
    have SK:(os++Pr.cW b p).Nodup:=List.nodup_append.mpr ⟨K6,GK,λq hq r hr z=>by
     have:=((mo q).mp hq).2;rw[z,iA B td ep hr] at this;lia⟩
    have o1:=MW SK λq hq=>by
     rcases List.mem_append.mp hq with h | h
     ·exact((mo q).mp h).1
     ·exact eP q h
    rw[Y7] at o1;dsimp?[DV];refine⟨S,uV,Pr.cW b p,(s2.trans s5) _ _ hx,b.length,330+92*os.length,xs,s5 _ _ hw,bN b ks,rl.mono s5,HR,bl,GK,lp,⋯,eP,λws Ep=>?_,rk,λq hq=>B.dn ko (eP q hq),I.sz,⋯,⋯,λx2 T2 H7 s7 h7 sv sz=>⟨s5.trans s7,x2,T2,h7,_,os++Pr.cW b p,SK,λq=>?_,I.step B td ko ep (λq hq=>⟨((mo q).mp hq).1,by have:=((mo q).mp hq).2;lia⟩) sv sz,rfl,rfl⟩⟩
    ·symm;obtain⟨j,hj,rfl⟩:=Zi Ep;nofun;have:=(B.wk ko (p:=(j:Int)) ⟨⋯,⋯⟩).1;unfold bf at this;rw[YS,YN,YM hj] at this;exact this
    ·rw[List.mem_append];constructor
     ·rintro(h | h)
      ·exact⟨((mo q).mp h).1,by have:=((mo q).mp h).2;lia⟩
      ·exact⟨eP q h,by rw[iA B td ep h];lia⟩
     ·rintro⟨h1,h2⟩
      by_cases c:ps.length<=uw b ps q+i
      ·exact .inl ((mo q).mpr ⟨h1,c⟩)
      ·exact .inr (DS B td ep h1 ⋯)
   ·intro σ H5 dW;symm;obtain⟨s5,bk,S,z,os,uV,K6,mo,I,rfl⟩:=dW;nofun;rw[YL,la] at mo;exact hN _ s5 bk S z os uV K6 (λq=>⟨λh=>((mo q).mp h).1,λh=>(mo q).mpr ⟨h,⋯⟩⟩) I
  rintro H5 s5 bk S z os uV K6 mo I;dsimp?[kO];symm;obtain⟨dx,m',hx,E7⟩:=id uV;nofun;have V0:=I.sz.pos;have o1:=MW K6 λq hq=>(mo q).mp hq;have sz:=I.sz.up (M':=330+92*b.length) ⋯;have pm:os.Perm (kK b.length):=(List.perm_ext_iff_of_nodup K6 (yE _)).mpr λq=>(mo q).trans f9.symm;refine⟨_,_,hx,Et,bk,S,rfl,uV,V0,sz.bb.mono ⋯,by rw[sz.len];lia,λl6 H6 s6 n6 r6=>kk l6 S H6 (GO.trans (s5.trans s6)) (none_of (GO.trans s5) n6) r6 sz λq hq=>?_⟩;rw[I.eq q hq,Dg.Be pm]
theorem eL (c:Int->Bool):∀l:List Int,l.filterMap (λx=>if c x=true then some x else none)=l.filter c
 | []=>rfl
 | x::l=>by
  rw[List.filterMap_cons,List.filter_cons,eL c l];cases c x <;>rfl
theorem jN:aN ["place","tops","sign","wanted"] ["place","tops"] (au (top 50)):=⟨rfl,rfl,rfl,∅,rfl,∅,∅⟩
theorem Kj (T:Txt K mg aD tc):bK P w K mg base (bF P w) 1 "wanted_way" ["place","tops"] D7:=by
 refine T.tX.eG (λ_ _ _ _ _ _=>eO λ_ _=>rfl) λf fd F=>F.eJ jN (λvs H Q E h=>?_) (λcP A outer s H vs Q E hr h=>?_)
 ·obtain⟨_,_,_,_,_,rfl,_⟩:=h;rfl
 ·symm;obtain⟨v,m,bB,to,ts,rfl,rv,hm,l0,l3,qH,bt,kk⟩:=h;nofun;clear G_;have nd:=jN.nd;refine⟨_,(af (aE (i:=2) nd rfl (.inr rfl) (fH (aR cF (aI aL (pv 0) ao (λ_ _=>rfl)) ao (aT _)) ao (BQ xI ao)))
  (af (fA (i:=3) rfl nd rfl rfl (N:=["place","tops","sign","wanted"]) (so:=au (top 50)) (N':=["to","tops","sign"]) (k:=1) (fr:=[1,2]) rfl rfl ⟨rfl,∅,∅,∅,rfl,∅,∅⟩ (aZ (K:=K) (aI aL (pv 0) ao (λ_ _=>rfl))) (λ_ _ _ _ _=>(aG (i:=0) (show(["to","tops","sign"]:List Str).Nodup by ac_rfl) rfl (.inl rfl))) (λ_ _ _ _ _=>bH)
   (λ_ _ _ _ _=>(aH aV (pv 2) (aI aJ (pv 1) (pv 0) (λ_ _=>rfl)))))
  (ax (aP (fj Zq PySem.F.slot_list_index PySem.F.type_list_index (yh (K:=K)) (pv 3) (aa (aU (m4 (K:=K)) (by rfl) T.z_max rfl (aa (pv 3) ae)) ae)))))),?_⟩
  refine(?_:let cn:TS:=_;let cu:TS:=_;let cv:TS:=_;tSeq cn (tSeq cu cv) _ _ _);intro cn cu cv;have sl:=sizeLine_eq;symm;obtain⟨t,l,rfl,ht,hl⟩:=cM.mp rv;nofun;clear G_;subst_vars;refine jt (λσ' H1=>H=H1/\σ'=[~~~t,~~~m,some (.int (sgn bB)),none]) ?_ (λN hN=>?_)
  case refine_2=>
   dsimp?[ht];refine ib (λc=>hN _ _ ⟨rfl,by unfold sgn;rw[if_pos c]⟩) (λc=>hN _ _ ⟨rfl,by unfold sgn;rw[if_neg c]⟩)
  rintro _ _ ⟨rfl,rfl⟩;have sg:=JS bB;generalize hu:sgn bB=u at *;subst_vars;refine ba (λN=>∀H1 d,aA H H1->H1 d=some (.lst (List.map V.int (to.map λg=>u*ts.getD g.toNat 0)))->N [~~~t,~~~m,some (.int u),~~~d] H1) ?_ (λN hN=>?_)
  case refine_2=>
   dsimp?[ht];refine⟨⟨_,aS.of hl⟩,?_⟩;have S':Src (uO K l) (aA H) to.length (λi x H H3=>H3=H/\(to.map V.int)[i]?=some x):=by
    have:=src_list (K:=K) (a:=l) (xs:=to.map V.int) (Ok:=aA H) (λH' s'=>aS.of (s' _ _ hl))
    rwa [YL] at this
   refine dz to (λg=>some (u*ts.getD g.toNat 0)) S' (λ_ _ _ _ h=>h.1) ⋯ ?_ ?_
   ·rintro i g x eg ⟨_,ex⟩ Y N y1 _;rw[YO,eg] at ex;cases ex;obtain⟨g0,g1⟩:=qH g (YQ eg);have Kg:eV (ts.map V.int) g=some (.int (ts.getD g.toNat 0)):=dP g0 g1;have hg:g.toNat<ts.length:=⋯
    have bg:Bt 4000 (ts.getD g.toNat 0):=bt _ (by rw[YN,YM hg];exact YV hg);dsimp?[gm,hm,Kg];exact⟨(Bt.of (n:=1) 1 ⋯ ⋯).dH bg,y1 _ rfl⟩
   ·intro D n1 n2;rw[dX];exact hN _ D (ar n2) ag
  rintro H1 d s1 hd;dsimp?[Jq];refine⟨.inl ⟨rfl,_,aS.of hd⟩,_,aS.of hd,by rw[YL];exact l0,λM mM gM=>⟨_,aS.of hd,mM,by rw[YL];lia,?_⟩⟩;have lt:=Zz mM;have eg:=ZJ lt;rw[YL] at lt;generalize List.idxOf M (to.map λg=>u*ts.getD g.toNat 0)=w' at *;rw[List.getElem_map] at eg;refine kk w' _ s1 lt λg hg=>?_;have e2:to.getD w' 0=to[w']:=by rw[YN,YM lt];rfl
  rw[e2,hu,eg];exact gM _ (aau.mpr ⟨g,hg,rfl⟩)
theorem jm:aN ["board","places","ways","tops","found","place","way","picked"] ["board","places","ways","tops"] (au (top 51)):=⟨rfl,rfl,rfl,∅,rfl,∅,∅⟩
theorem MX (T:Txt K mg aD tc):bK P w K mg base (bF P w) 2 "better_ways" ["board","places","ways","tops"] D8:=by
 have uG:bK P w K mg base (bF P w) 1 "wanted_way" ["place","tops"] D7:=Kj T;refine T.qU.eG (λ_ _ _ _ _ _=>Gd λ_ _ _ _=>rfl) λf fd F=>F.eJ jm (λvs H Q E h=>?_) (λcP A outer s H vs Q E hr h=>?_)
 ·obtain⟨_,_,_,_,_,_,_,_,_,_,rfl,_⟩:=h;rfl
 ·symm;obtain⟨bl,ql,wl,m,b,ks,bB,ts,qs,xs,rfl,rb,SM,hw,rl,hm,V5,bt,ko,Ht,Og,K8,kk⟩:=h;nofun;clear G_;have nd:=jm.nd;refine⟨_,(af (aE (i:=4) nd rfl (.inl rfl) (cY ae))
  (af (cm PassesOwn.never rfl (aZ (K:=K) (pv 1)) (aG (i:=5) nd rfl (.inl rfl)) (af (aE (i:=6) nd rfl (.inl rfl) (aF uG (hr.mono ∅) rfl aB.pass (aa (aI aJ (pv 0) (pv 5) (λ_ _=>rfl)) (aa (pv 3) ae))))
  (af (aE (i:=7) nd rfl (.inl rfl) (aI aL (aI aJ (aI aJ (pv 2) (pv 5) (λ_ _=>rfl)) ao (λ_ _=>rfl)) ao (λ_ _=>rfl)))
  (ax (bT (aR rE (aI aJ (pv 3) (aI aJ (aI aL (aI aJ (pv 0) (pv 5) (λ_ _=>rfl)) ao (λ_ _=>rfl)) (pv 6) (λ_ _=>rfl)) (λ_ _=>rfl)) (aI aJ (pv 3) (pv 7) (λ_ _=>rfl)) (aT _)) (ax (dC (fj Zq ZK ZL cH.r (pv 4) (aa (cy (aa (pv 5) (aa (pv 6) ae))) ae))))
   bo)))))
  (ax (aP (pv 4))))),?_⟩
  refine(?_:let cn:TS:=_;let cu:TS:=_;let cv:TS:=_;tSeq cn (tSeq cu cv) _ _ _);intro cn cu cv;have sl:=sizeLine_eq;symm;obtain⟨_,xb,e,E9,HU⟩:=aM.mp rb;nofun;clear G_;cases e;dsimp?[];refine⟨Y1 _,λfo nf=>?_⟩;have s1:=ar (o:=.lst []) nf;have h1:upd H fo (.lst []) fo=some (.lst []):=ag;generalize upd H fo (.lst [])=H1 at *;refine⟨⟨_,aS.of (s1 _ _ SM)⟩,bJ (src_list (K:=K) (a:=ql) (xs:=qs.map V.int) (Ok:=aA H) (λH2 s2=>aS.of (s2 _ _ SM))) (λi σ H'=>aA H H'/\∃(bs:List (Int×Int)) (ys:List V) (z5 z6 z7:Option V),H' fo=some (.lst ys)/\a8 (c6 H' fo) (bs.map a9) ys/\jI b ks bB ts (qs.take i) bs/\σ=[~~~bl,~~~ql,~~~wl,~~~m,~~~fo,z5,z6,z7]) ⟨s1,[],[],_,_,_,h1,rfl,jI.start,rfl⟩ (λ_ _ _ _ h=>h.1) ?_ ?_⟩
  ·intro i y σ H2 H3 hi dO d5;symm;obtain⟨s2,bs,ys,z5,z6,z7,MC,ry,W,rfl⟩:=dO;obtain⟨rfl,ey⟩:=d5;nofun;clear G_;rw[YL] at hi;rw[YO,YM hi] at ey;cases ey;have tk:qs.take (i+1)=qs.take i++ [qs[i]]:=by rw[Zc,YM hi];rfl
   symm;obtain⟨p0,to,eb⟩:=Og _ (YV hi);nofun;clear G_;have ly:=ry.length;have lb:=W.sub.length_le;rw[YL,Zf] at lb;rw[YL] at ly;rw[tk];generalize qs[i]=p at *;obtain⟨p,rfl⟩:=Y2 p0;rw[YS] at eb;have hp:=(aat.mp eb).1;have pq:=Ht _ (YQ eb);symm;obtain⟨k,ek,k0,k1,ew,et,mt⟩:=ja ko eb;obtain⟨v,ev,rv⟩:=eK HU eb;have HR:p< (bN b ks).length:=by unfold bN;rw[Z2,ko.len];lia
   have V6:(bN b ks)[p]?=some [(1,to.getD k.toNat 0)]:=by
    rw[<-ew];unfold bf;rw[YS,YN,YM HR];rfl
   obtain⟨V7,Yv⟩:=pq.2.2.2 _ mt;nofun;clear G_;generalize to.getD k.toNat 0=tg at *;obtain⟨vw,V8,V9⟩:=rl.at (d:=oP [(1,tg)]) (i:=p) (by rw[YO,V6];rfl);symm;obtain⟨wv,us,rfl,Bv,ru⟩:=aM.mp V9;obtain⟨t0,Wb,Qn⟩:=cN (i:=0) ru rfl;obtain⟨t,l,rfl,ht,hl⟩:=cM.mp rv;nofun;dsimp?[D7,s2 _ _ E9,show eV xb (p:Int)=some (.ref t) from bA ev];refine⟨bB,to,rv.mono s2,ts,s2 _ _ hm,pq.2.1,pq.2.2.1,by rw[V5];exact pq.2.2.2,bt,λw H4 s4 Qo best=>?_⟩;have lX:=s2.trans s4;have Qp:eV us 0=some (.ref t0):=bA (j:=0) Wb;simp only[lX _ _ hw,show eV xs (p:Int)=some (.ref wv) from bA V8,lX _ _ Bv,Qp,lX _ _ Qn,L2.start,Pr,tRev,tD1,tDPop1,tSl,tNoPart,tPart,rSlL,tDIn,tDNotIn,gSub,rSetL,tLst,tDNewK,tComp,L2.stC,tFor_eq,iList,iTup,iRng1,iRng2,iZip,iEnum,iDict,iStr,tChain,tSumV,tBM,tRaise,tDGet,tDGet2,tDGet1,sDPut,Option.join_some,List.getElem?_nil,tSeq,tRet,tRetN,tIfS,tTest,tB,tOp,tUn,tVar,tC,tCB,tCons,tNil,tCall,tTupS,tAsg,gName,gNil,gCons,tPar,tNext,tDrop,tAnd,tOr,tNot,tAndV,tOrV,tNotV,tIf,rI,rI0,rU,rIxTH,rIxLH,rEqT,rNeT,rInT,rEq,rNe,scal_ss,scal_ii,scal_bb,scal_si,scal_is,CPow,at0,at1,at2,Y8,ZE,YZ,ZW,Nat.reduceSub,Nat.reduceAdd,ZI,aai,List.reduceReplicate,ZD,List.nil_append,aab,aac,Z6,ZY,ZZ,aad,exists_eq_left',exists_eq_left,V.ref.injEq,V.int.injEq,V.bl.injEq,V.str.injEq,V.ty.injEq,HO.tup.injEq,HO.lst.injEq,List.cons.injEq,and_true,true_and,and_assoc,exists_and_left,decide_eq_true_eq,Bool.not_eq_true',decide_eq_false_iff_not,ite_true,ite_false,if_true,if_false,Int.reduceToNat,eq_self_iff_true];have SN:to.getD w 0=to[w]:=by rw[YN,YM Qo];rfl
   obtain⟨g0,g1⟩:=pq.2.2.2 _ (YV Qo);have E6:eV (to.map V.int) (w:Int)=some (.int to[w]):=j1 (f:=V.int) (YM Qo);have Kg:eV (ts.map V.int) to[w]=some (.int (ts.getD (to[w]).toNat 0)):=dP g0 ⋯;have Wc:eV (ts.map V.int) tg=some (.int (ts.getD tg.toNat 0)):=dP V7 ⋯;refine⟨_,lX _ _ E9,_,bA ev,t,rfl,_,lX _ _ ht,_,at2,l,rfl,_,lX _ _ hl,_,E6,_,_,rfl,lX _ _ hm,_,Kg,_,lX _ _ hm,_,Wc,rfl,?_⟩;have GG:=s4 _ _ MC
   by_cases ce:ts.getD (to[w]).toNat 0=ts.getD tg.toNat 0
   ·rw[if_neg (by rw[ce];simp)];refine⟨lX,bs,ys,GG,ry.mono (b9 s4),⟨λx hx=>⟨Z5 _ (W.mem x hx).1,(W.mem x hx).2⟩,λp' kH nb Ou MY=>?_,List.Sublist.trans W.sub (List.sublist_append_left _ _)⟩,_,rfl⟩;rcases List.mem_append.mp kH with kH | kH
    ·exact W.cJ p' kH nb Ou MY
    ·rw[aav.mp kH,YS,eb] at MY;cases MY;rw[aav.mp kH,et,<-ce,<-SN];exact best
   ·rw[if_pos (λz=>ce (by injection z))];refine⟨.inl ⟨rfl,_,aS.of GG⟩,∅,λt5 H5 s5 n5 h5=>?_⟩;simp only[dD,L2.start,Pr,tRev,tD1,tDPop1,tSl,tNoPart,tPart,rSlL,tDIn,tDNotIn,gSub,rSetL,tLst,tDNewK,tComp,L2.stC,tFor_eq,iList,iTup,iRng1,iRng2,iZip,iEnum,iDict,iStr,tChain,tSumV,tBM,tRaise,tDGet,tDGet2,tDGet1,sDPut,Option.join_some,List.getElem?_nil,tSeq,tRet,tRetN,tIfS,tTest,tB,tOp,tUn,tVar,tC,tCB,tCons,tNil,tCall,tTupS,tAsg,gName,gNil,gCons,tPar,tNext,tDrop,tAnd,tOr,tNot,tAndV,tOrV,tNotV,tIf,rI,rI0,rU,rIxTH,rIxLH,rEqT,rNeT,rInT,rEq,rNe,scal_ss,scal_ii,scal_bb,scal_si,scal_is,CPow,at0,at1,at2,Y8,ZE,YZ,ZW,Nat.reduceSub,Nat.reduceAdd,ZI,aai,List.reduceReplicate,ZD,List.nil_append,aab,aac,Z6,ZY,ZZ,aad,exists_eq_left',exists_eq_left,V.ref.injEq,V.int.injEq,V.bl.injEq,V.str.injEq,V.ty.injEq,HO.tup.injEq,HO.lst.injEq,List.cons.injEq,and_true,true_and,and_assoc,exists_and_left,decide_eq_true_eq,Bool.not_eq_true',decide_eq_false_iff_not,ite_true,ite_false,if_true,if_false,Int.reduceToNat,eq_self_iff_true];have Wd:t5≠fo:=λz=>by rw[z,GG] at n5;cases n5
    refine⟨_,s5 _ _ GG,⋯,aX (lX.trans s5) nf,bs++ [((p:Int),(w:Int))],_,ag,?_,⟨λx hx=>?_,λp' kH nb Ou MY=>?_,?_⟩,_,rfl⟩
    ·rw[Y5];exact pL (ry.mono (b9 (s4.trans s5))) (bQ.mpr ⟨t5,rfl,by rw[bY Wd];exact h5⟩)
    ·rcases List.mem_append.mp hx with hx | hx
     ·exact⟨Z5 _ (W.mem x hx).1,(W.mem x hx).2⟩
     ·rw[aav.mp hx];refine⟨Zk _ (aav.mpr rfl),to,by rw[YS];exact eb,by show(0:Int)<=(w:Int);lia,by show(w:Int)<_;lia,by show D4 bB to ts (w:Int).toNat;rw[YS];exact best,?_⟩;show ts.getD (to.getD (w:Int).toNat 0).toNat 0≠ts.getD (uz b ks (p:Int)).toNat 0;rw[YS,et,SN];exact ce
    ·rw[Y5,List.mem_append] at nb;rcases List.mem_append.mp kH with kH | kH
     ·exact W.cJ p' kH (λz=>nb (.inl z)) Ou MY
     ·exact absurd (.inr (by rw[aav.mp kH];exact aav.mpr rfl)) nb
    ·rw[Y5];exact W.sub.append (List.Sublist.refl _)
  ·intro σ H2 dW;symm;obtain⟨s2,bs,ys,z5,z6,z7,MC,ry,W,rfl⟩:=dW;nofun;rw[YL,List.take_length] at W;dsimp?[];exact kk fo bs _ s2 nf (aM.mpr ⟨fo,ys,rfl,MC,ry.mono b8⟩) W
theorem nj:aN ["board","part","who"] ["board","part","who"] (au (top 52)):=⟨rfl,rfl,rfl,∅,rfl,∅,∅⟩
theorem MZ (T:Txt K mg aD tc):bK P w K mg base (bF P w) 1 "picks_of" ["board","part","who"] Ag:=by
 refine T.yn.eG (λ_ _ _ _ _ _=>nV λ_ _ _=>rfl) λf fd F=>F.eJ nj (λvs H Q E h=>?_) (λcP A outer s H vs Q E hr h=>?_)
 ·obtain⟨_,_,_,_,_,rfl,_⟩:=h;rfl
 ·symm;obtain⟨bl,pt,bB,b,ps,rfl,rb,E1,eP,K8,kk⟩:=h;nofun;clear G_;have nd:=nj.nd;refine⟨_,(ax (aP (bS rfl (N:=["board","part","who"]) (so:=au (top 52)) (N':=["place","board","who"]) (k:=1) (fr:=[0,2]) rfl rfl ⟨rfl,∅,∅,∅,rfl,∅,∅⟩ (aZ (K:=K) (pv 1)) (λ_ _ _ _ _=>(aG (i:=0) (show(["place","board","who"]:List Str).Nodup by ac_rfl) rfl (.inl rfl))) (λ_ _ _ _ _=>(kW (PW.pt (pw_and (aR cF (aI aL (aI aJ (pv 1) (pv 0) (λ_ _=>rfl)) ao (λ_ _=>rfl)) c9 (aT _)) (pw_and1 (aR cF (aI aL (aI aJ (pv 1) (pv 0) (λ_ _=>rfl)) ao (λ_ _=>rfl)) (pv 2) (aT _)))))))
   (λ_ _ _ _ _=>(pv 0))))),?_⟩
  have sl:=sizeLine_eq;symm;obtain⟨_,xb,e,E9,HU⟩:=aM.mp rb;nofun;clear G_;cases e;dsimp?[];refine⟨⟨_,aS.of E1⟩,?_⟩;have S':Src (uO K pt) (aA H) ps.length (λi x H H3=>H3=H/\(ps.map V.int)[i]?=some x):=by
   have:=src_list (K:=K) (a:=pt) (xs:=ps.map V.int) (Ok:=aA H) (λH2 s2=>aS.of (s2 _ _ E1))
   rwa [YL] at this
  refine dz ps (λx=>if (match b[x.toNat]? with | some q=>Oe q bB | none=>false)=true then some x else none) S' (λ_ _ _ _ h=>h.1) ⋯ ?_ ?_
  ·rintro i x v0 ex ⟨_,ey⟩ Y N y1 n1;rw[YO,ex] at ey;cases ey;have ip:=eP x (YQ ex);obtain⟨p,rfl⟩:=Y2 ip.1;have hp:p<b.length:=by have:=ip.2;lia
   have eb:b[p]?=some b[p]:=YM hp;symm;obtain⟨v,ev,rv⟩:=eK HU eb;nofun;clear G_;have Qq:eV xb (p:Int)=some v:=bA ev;rw[YS,eb] at y1 n1;generalize b[p]=q at *;cases q with
   | fin g=>
    symm;obtain⟨t,r,rfl,ht,_⟩:=dM.mp rv;nofun;dsimp?[E9,Qq,ht];rw[if_neg ∅,if_neg ∅];exact n1 rfl
   | d6 g ws=>
    symm;obtain⟨t,r,l',zs,rfl,ht,_⟩:=dE.mp rv;nofun;dsimp?[E9,Qq,ht];rw[if_neg ∅,if_neg ∅];exact n1 rfl
   | cA w' to=>
    symm;obtain⟨t,l',rfl,ht,vG⟩:=cM.mp rv;nofun;dsimp?[E9,Qq,ht];have ei:Oe (.cA w' to) bB=decide (w'=bB):=rfl;exact ib (λc=>y1 _ (if_pos (by dsimp only;rw[ei];exact decide_eq_true c))) (λc=>n1 (if_neg (by dsimp only;rw[ei,decide_eq_false c];decide)))
  ·intro D n1 n2;refine kk D _ (ar n2) n2 ?_;rw[ag];rw[eL];rfl
theorem xa {H:Hp} {d:Dat} {v:V}:∀{ds:List Dat} {xs:List V} {i:Nat},a8 H ds xs->Rep H d v->a8 H (ds.set i d) (xs.set i v)
 | [],xs,i,r,_=>by
  have:xs=[]:=r;subst this;exact r
 | e::ds,xs,i,r,h=>by
  obtain⟨w,ws,rfl,r1,r2⟩:=r;cases i with
  | zero=>exact⟨_,_,rfl,h,r2⟩
  | succ i=>exact⟨_,_,rfl,r1,xa r2 h⟩
theorem GP {c:TT} {tb:TS} {D:Ends} {σ:L2.St} {H:Hp} (Pv:Nat->L2.St->Hp->Prop) {m:Nat} (h0:Pv m σ H)
  (hs:∀m σ H,Pv m σ H->∃b:Bool,(∀Q:Bool->Hp->Prop,Q b H->c σ H Q)/\if b=true then tb {D with nx:=λσ' H'=>∃m',m'<m/\Pv m' σ' H',ct:=λσ' H'=>∃m',m'<m/\Pv m' σ' H',bk:=D.nx} σ H else D.nx σ H):sV c tb D σ H:=by
 refine⟨Pv,⟨m,h0⟩,?_⟩;intro m σ H p;obtain⟨b,k,q⟩:=hs m σ H p;refine k _ ?_;cases b with
 | true=>exact⟨_,λσ' H' h=>h,q⟩
 | false=>exact q
theorem GQ {b:List Pl} {ks:List (Option Int)} {p:Nat} {q:Pl} {k:Option Int} (e:b[p]?=some q) (lk:ks.length=b.length):bN b (ks.set p k)=(bN b ks).set p (xx q k):=by
 have hp:=(aat.mp e).1;apply Zy;intro i;unfold bN
 by_cases c:p=i
 ·subst c;rw[aaj,e,ZO ⋯,ZO (by rw[Z2];lia)]
 ·rw[aaj,Zw c,Zw c,aaj]
theorem xc {H:Hp} {p:Addr} {o:HO}:c6 (upd H p o) p=c6 H p:=by
 funext a;unfold c6
 by_cases h:a=p
 ·rw[if_pos h,if_pos h]
 ·rw[if_neg h,if_neg h,aK h]
theorem fu:aN ["book","gains","part","board","ways","first","second","told","better","place","way"] ["book","gains","part","board","ways"] (au (top 53)):=⟨rfl,rfl,rfl,by ac_rfl,rfl,by ac_rfl,by ac_rfl⟩
theorem M3 (T:Txt K mg aD tc):bK P w K mg base (bF P w) 5 "with_best_worths" ["book","gains","part","board","ways"] (Hu aD):=by
 have qD:bK P w K mg base (bF P w) 1 "picks_of" ["board","part","who"] Ag:=MZ T;have gA:bK P w K mg base (bF P w) 4 "with_worths" ["book","gains","part","ways"] (zZ aD):=HN T;have jO:bK P w K mg base (bF P w) 2 "better_ways" ["board","places","ways","tops"] D8:=MX T;have fh:bK P w K mg base (bF P w) 1 "weighted_ways" ["place","way"] wz:=Eu T;refine T.j4.eG (λ_ _ _ _ _ _=>P4 λ_ _ _ _ _=>rfl) λf fd F=>F.eJ fu (λvs H Q E h=>?_) (λcP A outer s H vs Q E hr h=>?_)
 ·obtain⟨_,_,_,_,_,_,_,_,_,_,_,_,rfl,_⟩:=h;rfl
 ·symm;obtain⟨bk,gn,pt,bl,wl,S,b,rk,ks,ps,M,xs,rfl,hb,hg,E1,rb,B,hw,rl,K0,Ey,p0,Gy,eP,Z,M0,dv,zr,kk⟩:=h;nofun;clear G_;have nd:=fu.nd;refine⟨_,(af (aE (i:=5) nd rfl (.inl rfl) (aF qD (hr.mono ∅) rfl aB.pass (aa (pv 3) (aa (pv 2) (aa ao ae)))))
  (af (aE (i:=6) nd rfl (.inl rfl) (aF qD (hr.mono ∅) rfl aB.pass (aa (pv 3) (aa (pv 2) (aa ao ae)))))
  (ax (iP PassesOwn.never (sU yU) (af (aE (i:=7) nd rfl (.inl rfl) (aF gA (hr.mono ∅) rfl aB.pass (aa (pv 0) (aa (pv 1) (aa (pv 2) (aa (pv 4) ae))))))
  (af (aE (i:=8) nd rfl (.inl rfl) (aF jO (hr.mono ∅) rfl aB.pass (aa (pv 3) (aa (pv 6) (aa (pv 4) (aa (dN (pv 7) rfl) ae))))))
  (af (bT (aR cF (aU bu (by rfl) T.z_len Y9 (aa (pv 8) ae)) ao (aT _)) (ax (aE (i:=8) nd rfl (.inl rfl) (aF jO (hr.mono ∅) rfl aB.pass (aa (pv 3) (aa (pv 5) (aa (pv 4) (aa (dN (pv 7) rfl) ae)))))))
   bo)
  (af (bT (aR cF (aU bu (by rfl) T.z_len Y9 (aa (pv 8) ae)) ao (aT _)) (ax (aP (pv 7)))
   bo)
  (ax (cm PassesOwn.never rfl (aZ (K:=K) (pv 8)) (bV (K:=K) (n:=2) rfl (aQ (aG (i:=9) nd rfl (.inl rfl)) (aQ (aG (i:=10) nd rfl (.inl rfl)) bU))) (ax (fc (aF fh (hr.mono ∅) rfl aB.pass (aa (aI aJ (pv 3) (pv 9) (λ_ _=>rfl)) (aa (pv 10) ae))) (fI (pv 4) (pv 9) set_list))))))))))))),?_⟩
  refine(?_:let cn:TS:=_;let cu:TS:=_;let cv:TS:=_;tSeq cn (tSeq cu cv) _ _ _);intro cn cu cv;have sl:=sizeLine_eq;have We:=B.len;symm;obtain⟨g0,g1,g2⟩:=B.bot;nofun;clear G_;have K4:(gT b).length=b.length:=by unfold gT;rw[YL,YL]
  have Qr:∀{ks:List (Option Int)},dq b ks->(bN b ks).length=b.length:=λ{ks} h=>by unfold bN;rw[Z2,h.len];lia
  have s0:aA (c6 H wl) H:=b8;have SO:=rb.mono s0;have Wf:∀{ks:List (Option Int)},dq b ks->∀ws∈bN b ks,Dg.uu b.length ws:=λ{ks} h ws Ep=>by
   symm;obtain⟨j,hj,rfl⟩:=Zi Ep;nofun;have JK:j<b.length:=by rw[Qr h] at hj;exact hj
   have:=(B.wk h (p:=(j:Int)) ⟨⋯,⋯⟩).1;unfold bf at this;rw[YS,YN,YM hj] at this;exact this
  subst_vars;refine ba (λN=>∀H1 l1,aA H H1->H l1=none->H1 l1=some (.lst ((iN b 1 ps).map V.int))->N [~~~bk,~~~gn,~~~pt,~~~bl,~~~wl,~~~l1,none,none,none,none,none] H1) ?_ (λN hN=>?_)
  case refine_2=>
   dsimp?[Ag];exact⟨b,SO,ps,s0 _ _ E1,eP,Gy,λl1 H1 s1 n1 h1=>hN _ l1 s1 n1 h1⟩
  rintro H1 l1 s1 n1 h1;subst_vars;refine ba (λN=>∀H2 l2,aA H1 H2->H1 l2=none->H2 l2=some (.lst ((iN b 2 ps).map V.int))->N [~~~bk,~~~gn,~~~pt,~~~bl,~~~wl,~~~l1,~~~l2,none,none,none,none] H2) ?_ (λN hN=>?_)
  case refine_2=>
   dsimp?[Ag];exact⟨b,SO.mono s1,ps,s1 _ _ (s0 _ _ E1),eP,Gy,λl2 H2 s2 n2 h2=>hN _ l2 s2 n2 h2⟩
  rintro H2 l2 s2 n2 h2;have GO:=s1.trans s2;have w1:l1≠wl:=λz=>by rw[z,hw] at n1;cases n1
  have w2:l2≠wl:=λz=>by rw[z,s1 _ _ hw] at n2;cases n2
  have M4:aA (c6 H wl) (c6 H2 wl):=b9 GO;dsimp?[];refine GP (λmm σ HX=>∃(eF:List (Option Int)) (jE:List V) (eQ:List (List (Option Int))) (fl:Option (Int->Rat)) (z7 z8 z9 jJ:Option V),mm+eQ.length=(Br b).length/\wL b ps (λp=>((gT b).getD p.toNat 0:Rat) / (gB b:Rat)) (Dg.val S) eF eQ fl/\aA (c6 H wl) (c6 HX wl)/\c6 HX wl l1=some (.lst ((iN b 1 ps).map V.int))/\c6 HX wl l2=some (.lst ((iN b 2 ps).map V.int))/\HX wl=some (.lst jE)/\a8 (c6 HX wl) ((bN b eF).map oP) jE/\σ=[~~~bk,~~~gn,~~~pt,~~~bl,~~~wl,~~~l1,~~~l2,z7,z8,z9,jJ]) (m:=(Br b).length) ⟨ks,xs,[],none,_,_,_,_,rfl,wL.start K0,M4,by rw[bY w1];exact s2 _ _ h1,by rw[bY w2];exact h2,GO _ _ hw,rl.mono M4,rfl⟩ ?_;intro mm σ HX Mx;symm;obtain⟨eF,jE,eQ,fl,z7,z8,z9,jJ,em,hi,sX,zt,vd,Kk,M5,rfl⟩:=Mx;nofun;clear G_;refine⟨true,λQQ Wg=>by dsimp?[];exact Wg,?_⟩;rw[if_pos rfl];have sh:aA (c6 HX wl) HX:=b8;have K':=hi.ok;have Wh:=M5.length;rw[YL,Qr K'.pk] at Wh;have Wi:=B.pos;have Qs:∀y∈jE,∃a us,y=V.ref a/\c6 HX wl a=some (.lst us):=λy hy=>by
   obtain⟨j,ej⟩:=Ze hy;symm;obtain⟨d,ed,rr⟩:=M5.get ej;rw[YO] at ed;obtain⟨ws,_,rfl⟩:=aas.mp ed;obtain⟨a,us,e,h,_⟩:=aM.mp rr;nofun;exact⟨a,us,e,h⟩
  subst_vars;refine ba (λN=>∀H3 x T,aA HX H3->kJ aD (c6 H3 wl) x T->Dg.E4 ps (bf (bN b eF)) (gT b) (gB b) S T->Dg.Sz b.length (M+92*ps.length) T->N [~~~bk,~~~gn,~~~pt,~~~bl,~~~wl,~~~l1,~~~l2,~~~x,z8,z9,jJ] H3) ?_ (λN hN=>?_)
  case refine_2=>
   dsimp?[];refine⟨bk,gn,pt,wl,S,gT b,gB b,ps,b.length,M,jE,bN b eF,rk,rfl,(hb.mono sX).mono sh,(hg.mono sX).mono sh,sh _ _ (sX _ _ E1),Kk,M5.mono sh,Qr K'.pk,We,Ey,p0,Gy,eP,Wf K'.pk,λp hp=>B.dn K'.pk (eP p hp),Z,M0,K4,g0,g1.mono ∅,dv,B.top,zr,λx T2 H3 s3 h3 st sz=>hN _ x T2 s3 ?_ st sz⟩;symm;obtain⟨dx,Wj,K9,M6⟩:=h3;nofun;refine⟨dx,Wj,by rw[bY (λz=>by rw[z,s3 _ _ Kk] at K9;cases K9)];exact K9,?_⟩;rw[bY]
   ·exact M6
   ·intro z;rw[z,s3 _ _ Kk] at M6;have e:jE=T2.1.map V.int:=by injection M6 with h;injection h
    have gG:0<jE.length:=⋯
    symm;obtain⟨a,_,ea,_⟩:=Qs jE[0] (YV gG);have:jE[0]?=some jE[0]:=YM gG;rw[ea,e,YO] at this;obtain⟨_,_,e2⟩:=aas.mp this;nofun;cases e2
  rintro H3 x T2 s3 K9 st sz;symm;obtain⟨dx,mt,SQ,Wk⟩:=id K9;nofun;clear G_;have Ov:aA (c6 H3 wl) H3:=b8;have M7:=b9 (p:=wl) s3;have MP:∀t∈T2.1,Bt 4000 t:=λt ht=>by
   symm;obtain⟨j,hj,rfl⟩:=Zi ht;nofun;have:=sz.bt j;rw[YN,YM hj] at this;exact Bt.mono this ⋯
  have hv:=JU B K'.pk eP Z.pos dv st;have pin:∀bB,∀p∈iN b bB ps,0<=p/\∃to,b[p.toNat]?=some (.cA bB to):=λbB p hp=>⟨(eP p (eZ.mp hp).1).1,(eZ.mp hp).2⟩
  have Qt:∀bB,(iN b bB ps).length<=16:=λbB=>YY (List.length_filter_le _ _) Gy;have HV:∀(lp:Addr) (bB:Int) (HH:Hp),aA H3 HH->c6 HX wl lp=some (.lst ((iN b bB ps).map V.int))->∀QQ:VK,(∀l bs H',aA HH H'->Rep (c6 H' wl) (.lst (bs.map a9)) (.ref l)->jI b eF bB T2.1 (iN b bB ps) bs->QQ (.ref l) H')->D8 [.ref bl,.ref lp,.ref wl,.ref mt] HH QQ E0:=λlp bB HH M8 Wl QQ kq=>by
   have Qu:=M7.trans (Ov.trans M8);refine⟨bl,lp,wl,mt,b,eF,bB,T2.1,iN b bB ps,jE,rfl,(rb.mono sX).mono Qu,Qu _ _ Wl,M8 _ _ (s3 _ _ Kk),M5.mono Qu,(Ov.trans M8) _ _ Wk,sz.len,MP,K'.pk,B.ok,pin bB,Qt bB,λl bs H' s' nl r' W=>kq l bs H' s' ?_ W⟩;have Wm:l≠wl:=λz=>by rw[z,M8 _ _ (s3 _ _ Kk)] at nl;cases nl
   have Qv:=s' _ _ (M8 _ _ (s3 _ _ Kk));exact sJ r' (λxs hx=>by rw[bY Wm];exact hx) (λy vs hy=>by rw[bY (λz=>by rw[z,Qv] at hy;cases hy)];exact hy)
  subst_vars;refine ba (λN=>∀H4 lb bs,aA H3 H4->Rep (c6 H4 wl) (.lst (bs.map a9)) (.ref lb)->jI b eF 2 T2.1 (iN b 2 ps) bs->N [~~~bk,~~~gn,~~~pt,~~~bl,~~~wl,~~~l1,~~~l2,~~~x,~~~lb,z9,jJ] H4) ?_ (λN hN=>?_)
  case refine_2=>
   dsimp?[iR];exact⟨_,_,_,Ov _ _ SQ,T.bP,T.na_Book_tops,_,gW,HV l2 2 H3 (aA.refl _) vd _ λl bs H' s' r' W=>hN _ l bs s' r' W⟩
  rintro H4 lb bs s4 SR W2;subst_vars;refine ba (λN=>∀H5 (lb:Addr) (bs:List (Int×Int)) (bB:Int),aA H3 H5->Rep (c6 H5 wl) (.lst (bs.map a9)) (.ref lb)->((bB=2/\bs≠[]/\jI b eF 2 T2.1 (iN b 2 ps) bs)\/(bB=1/\jI b eF 2 T2.1 (iN b 2 ps) []/\jI b eF 1 T2.1 (iN b 1 ps) bs))->N [~~~bk,~~~gn,~~~pt,~~~bl,~~~wl,~~~l1,~~~l2,~~~x,~~~lb,z9,jJ] H5) ?_ (λN hN=>?_)
  case refine_2=>
   dsimp?[iR];symm;obtain⟨_,ys,ey,M9,Ow⟩:=aM.mp SR;nofun;cases ey;have ly:=Ow.length;rw[YL] at ly;refine⟨ys,b8 _ _ M9,?_⟩
   by_cases c:bs=[]
   ·subst c;rw[if_pos (by rw[<-ly];rfl)];exact⟨_,_,_,s4 _ _ (Ov _ _ SQ),T.bP,T.na_Book_tops,_,gW,HV l1 1 H4 s4 zt _ λl Wn H' s' r' W1=>hN _ l Wn 1 (s4.trans s') r' (.inr ⟨rfl,W2,W1⟩)⟩
   ·rw[if_neg (by have:=List.length_pos_iff.mpr c;lia)];exact hN _ lb bs 2 s4 SR (.inl ⟨rfl,c,W2⟩)
  rintro H5 lb bs bB s5 Qw cs;symm;obtain⟨_,ys,ey,M9,Ow⟩:=aM.mp Qw;nofun;clear G_;cases ey;have ly:=Ow.length;rw[YL] at ly;have Qx:aA (c6 H wl) (c6 H5 wl):=sX.trans (M7.trans (b9 s5));have SS:=s5 _ _ (s3 _ _ Kk);have Na:=M5.mono (M7.trans (b9 (p:=wl) s5));subst_vars;refine ba (λN=>bs≠[]->N [~~~bk,~~~gn,~~~pt,~~~bl,~~~wl,~~~l1,~~~l2,~~~x,~~~lb,z9,jJ] H5) ?_ (λN hN=>?_)
  case refine_2=>
   dsimp?[];refine⟨ys,b8 _ _ M9,?_⟩
   by_cases c:bs=[]
   ·subst c;rw[if_pos (by rw[<-ly];rfl)];rcases cs with ⟨_,ne,_⟩ | ⟨_,V2,V1⟩
    ·exact absurd rfl ne
    refine kk x T2 eF jE H5 Qx SS Na K' st sz (K9.mono (b9 s5)) λp hp Wo to eb t ht=>?_;rcases(B.ok _ (YQ eb)).1 with e1 | e1
    ·subst e1;exact V1.cJ _ (eZ.mpr ⟨hp,to,by rw[YS];exact eb⟩) (by simp) to (by rw[YS];exact eb) t ht
    ·subst e1;exact V2.cJ _ (eZ.mpr ⟨hp,to,by rw[YS];exact eb⟩) (by simp) to (by rw[YS];exact eb) t ht
   ·rw[if_neg (by have:=List.length_pos_iff.mpr c;lia)];exact hN c
  rintro SU;have GK:∀bB,(iN b bB ps).Nodup:=λbB=>Ey.filter _;have Wa:jI b eF bB T2.1 (iN b bB ps) bs:=by
   rcases cs with ⟨rfl,_,V⟩ | ⟨rfl,_,V⟩
   ·exact V
   ·exact V
  have DR:∃KW,wL b ps (λp=>((gT b).getD p.toNat 0:Rat) / (gB b:Rat)) (Dg.val S) (fE bs eF bs.length) (eF::eQ) KW:=by
   rcases cs with ⟨_,_,V⟩ | ⟨_,V2,V1⟩
   ·exact⟨_,wM B eP sz.pos hi hv (λp hp=>(eZ.mp hp).1) (GK 2) V SU⟩
   ·exact⟨_,yJ B eP sz.pos hi hv (λp hp=>(eZ.mp hp).1) (GK 1) V1 SU V2 λp hp to eb=>eZ.mpr ⟨hp,to,by rw[YS];exact eb⟩⟩
  obtain⟨KW,DR⟩:=DR;have left:=hi.left;have Wp:=rb.mono Qx;symm;obtain⟨_,xb,Wr,Qy,Qz⟩:=aM.mp Wp;nofun;clear G_;cases Wr;dsimp?[];refine⟨⟨_,aS.of (b8 _ _ M9)⟩,bJ (src_list (K:=K) (a:=lb) (xs:=ys) (Ok:=λH'=>aA (c6 H5 wl) (c6 H' wl)) (λH' s=>aS.of (b8 _ _ (s _ _ M9)))) (λj σ H6=>aA (c6 H5 wl) (c6 H6 wl)/\∃(GR:List V) (z9 jJ:Option V),H6 wl=some (.lst GR)/\a8 (c6 H6 wl) ((bN b (fE bs eF j)).map oP) GR/\σ=[~~~bk,~~~gn,~~~pt,~~~bl,~~~wl,~~~l1,~~~l2,~~~x,~~~lb,z9,jJ]) ⟨aA.refl _,jE,_,_,SS,Na,rfl⟩ (λ_ _ _ _ h=>h.1) ?_ ?_⟩
  ·intro j y σ H6 H7 hj dO d5;symm;obtain⟨s6,GR,z9,jJ,QA,La,rfl⟩:=dO;obtain⟨rfl,ey⟩:=d5;have JK:j<bs.length:=⋯
   have ej:bs[j]?=some bs[j]:=YM JK;obtain⟨t,et,ht⟩:=cN Ow ej;nofun;clear G_;rw[ey] at et;cases et;have gj:bs.getD j (0,0)=bs[j]:=by rw[YN,ej];rfl
   have pj:fE bs eF (j+1)=(fE bs eF j).set (bs[j]).1.toNat (some (bs[j]).2):=by rw[<-gj];rfl
   symm;obtain⟨mq,to,eb,w0,w1,_,_⟩:=Wa.mem _ (YV JK);nofun;clear G_;have Wt:=(eP _ (eZ.mp mq).1).1;have SV:(fE bs eF j).length=b.length:=by rw[lG];exact K'.pk.len
   have Wu:=La.length;have Wv:(bN b (fE bs eF j)).length=b.length:=by unfold bN;rw[Z2,SV];lia
   rw[YL,Wv] at Wu;refine⟨t,_,rfl,fV.of (b8 _ _ (s6 _ _ ht)),rfl,?_⟩;generalize bs[j]=bw at *;obtain⟨p,Lb⟩:=Y2 Wt;rw[Lb,YS] at eb pj;rw[Lb] at ht ⊢;have hp:=(aat.mp eb).1;symm;obtain⟨v,ev,rv⟩:=eK Qz eb;nofun;have Ww:eV xb (p:Int)=some v:=bA ev;have SW:aA (c6 H7 wl) H7:=b8;dsimp?[SW _ _ (s6 _ _ Qy),Ww];refine⟨v,.cA bB to,some bw.2,rfl,(rv.mono s6).mono SW,⟨w0,w1⟩,λl' H8 s8 r8=>?_⟩;have QB:=s8 _ _ QA;have nl:l'≠wl:=λz=>by
    subst z;symm;obtain⟨_,us,e,SX,Wx⟩:=aM.mp r8;nofun;cases e;rw[QB] at SX;have Wz:GR=us:=by injection SX with h;injection h
    symm;obtain⟨t1,WA,SY⟩:=cN (i:=0) Wx rfl;nofun;have h0:0<GR.length:=⋯
    symm;obtain⟨d,ed,rr⟩:=La.get (YM h0);rw[YO] at ed;obtain⟨ws,_,rfl⟩:=aas.mp ed;obtain⟨a',Yw,e',h',_⟩:=aM.mp rr;nofun;have:GR[0]?=some (V.ref a'):=by rw[YM h0,e']
    rw[Wz,WA] at this;cases this;rw[s8 _ _ (b8 _ _ h')] at SY;cases SY
   have WB:Rep (c6 H8 wl) (oP (xx (.cA bB to) (some bw.2))) (.ref l'):=sJ r8 (λxs hx=>by rw[bY nl];exact hx) (λy vs hy=>by rw[bY (λz=>by rw[z,QB] at hy;cases hy)];exact hy);refine⟨GR,QB,p,fC ⋯,?_,_,ag,?_,_,rfl⟩
   ·rw[xc];exact s6.trans (b9 s8)
   ·rw[xc,pj,GQ eb SV,List.map_set];exact xa (La.mono (b9 s8)) WB
  ·intro σ H6 dW;symm;obtain⟨s6,GR,z9,jJ,QA,La,rfl⟩:=dW;nofun;rw[<-ly] at La;exact⟨mm - 1,⋯,_,GR,eF::eQ,by rw[YZ];lia,KW,DR,Qx.trans s6,s6 _ _ (b9 s5 _ _ (M7 _ _ zt)),s6 _ _ (b9 s5 _ _ (M7 _ _ vd)),QA,La,_,_,_,_,rfl⟩
theorem ED (x:Int×Int):Ke (a9 x):=⟨rfl,by show(toP (a9 x)).depth<=8;simp [a9,toP,toPL,PyData.depth,PyData.depthAll]⟩
theorem lM:aN ["place","worth","worths"] ["place","worth","worths"] (au (top 54)):=⟨rfl,rfl,rfl,∅,rfl,∅,∅⟩
theorem Nb (T:Txt K mg aD tc):bK P w K mg base (bF P w) 1 "best_pick" ["place","worth","worths"] Mv:=by
 refine T.vR.eG (λ_ _ _ _ _ _=>nV λ_ _ _=>rfl) λf fd F=>F.eJ lM (λvs H Q E h=>?_) (λcP A outer s H vs Q E hr h=>?_)
 ·obtain⟨_,_,_,_,_,_,_,rfl,_⟩:=h;rfl
 ·symm;obtain⟨v,x,wl,q,n,p,ss,rfl,rv,pq,ls,hp,hx,l7,mem,kk⟩:=h;nofun;clear G_;have nd:=lM.nd;refine⟨_,(af (bT (aR rE (aI aL (pv 0) ao (λ_ _=>rfl)) c9 (aT _)) (ax (aP fG))
   bo)
  (ax (aP (fj Zq PySem.F.slot_list_index PySem.F.type_list_index (A7 hr.units) (bS rfl (N:=["place","worth","worths"]) (so:=au (top 54)) (N':=["to","worths"]) (k:=1) (fr:=[2]) rfl rfl ⟨rfl,∅,∅,∅,rfl,∅,∅⟩ (aZ (K:=K) (aI aL (pv 0) ao (λ_ _=>rfl))) (λ_ _ _ _ _=>(aG (i:=0) (show(["to","worths"]:List Str).Nodup by ac_rfl) rfl (.inl rfl))) (λ_ _ _ _ _=>bH)
   (λ_ _ _ _ _=>(aI aJ (pv 1) (pv 0) (λ_ _=>rfl)))) (aa (pv 1) ae))))),?_⟩
  have sl:=sizeLine_eq;cases q with
  | fin g=>
   symm;obtain⟨t,r,rfl,ht,_⟩:=dM.mp rv;nofun;dsimp?[ht];rw[if_pos ∅];exact kk _ (aA.refl _)
  | d6 g ws=>
   symm;obtain⟨t,r,l',zs,rfl,ht,_⟩:=dE.mp rv;nofun;dsimp?[ht];rw[if_pos ∅];exact kk _ (aA.refl _)
  | cA bB to=>
   symm;obtain⟨t,l',rfl,ht,vG⟩:=cM.mp rv;nofun;clear G_;dsimp?[ht];rw[if_neg (by simp)];symm;obtain⟨_,us,e,xq,ru⟩:=aM.mp l7;nofun;clear G_;cases e;have lu:=ru.length;rw[YL] at lu;have l3:=pq.2.2.1;refine⟨⟨_,aS.of vG⟩,?_⟩;refine comp_map (src_list (K:=K) (a:=l') (xs:=to.map V.int) (Ok:=aA H) (λH' s'=>aS.of (s' _ _ vG))) (λ_ _ _ _ h=>by rw[h.1];exact aA.refl _) (by rw[YL];lia) (λi y H4=>∀g,to[i]?=some g->Rep H4 (a9 (Wq.eM ss g)) y) (λi y H4 H5 s5 h g e=>(h g e).mono s5) ?_ ?_
   ·rintro i v0 w0 H4 H5 Q2 hi s4 ⟨rfl,ex⟩ kq;rw[YO] at ex;symm;obtain⟨g,eg,rfl⟩:=aas.mp ex;obtain⟨g0,g1⟩:=pq.2.2.2 g (YQ eg);have Nc:ss[g.toNat]?=some (Wq.eM ss g):=by
     unfold Wq.eM;rw[YN,YM (show g.toNat<ss.length by lia)];rfl
    obtain⟨pr,WC,WD⟩:=cN ru Nc;nofun;have Kg:eV us g=some (.ref pr):=by have:=bA WC;rwa [Z3 g0] at this
    dsimp?[s4 _ _ xq,Kg];refine kq _ _ (aA.refl _) λg' e'=>?_;rw[eg] at e';cases e';exact bQ.mpr ⟨pr,rfl,s4 _ _ WD⟩
   ·intro ys H5 s5 ly hy D n1 n2;rw[YL] at ly;have sD:=ar (o:=.lst ys) n2;have hD:upd H5 D (.lst ys) D=some (.lst ys):=ag;generalize upd H5 D (.lst ys)=H6 at *;have rD:a8 H6 ((to.map (Wq.eM ss)).map a9) ys:=dQ (by rw[YL];exact ly) λi y ey x' Fc=>by
     rw[YO] at Fc;symm;obtain⟨g,eg,rfl⟩:=aas.mp Fc;nofun;exact(hy i y ey g eg).mono sD
    symm;obtain⟨tm,mt,et⟩:=mem bB to rfl;nofun;have mm:Wq.eM ss (p:Int)∈to.map (Wq.eM ss):=aau.mpr ⟨tm,mt,et.symm⟩;have lt:=Zz mm;have eg:=ZJ lt;have inj:∀u v:Wq.Sh,toP (a9 u)=toP (a9 v)->u=v:=λu v h=>by
     simp [a9,toP,toPL] at h;exact Prod.ext h.1 h.2
    refine⟨.inl ⟨rfl,_,aS.of hD⟩,D,ys,(to.map (Wq.eM ss)).map a9,.ref x,a9 (Wq.eM ss (p:Int)),(to.map (Wq.eM ss)).idxOf (Wq.eM ss (p:Int)),rfl,rfl,hD,rD,λe he=>?_,bQ.mpr ⟨x,rfl,(s5.trans sD) _ _ hx⟩,ED _,?_,λj hj z=>?_,?_,kk _ (s5.trans sD)⟩
    ·symm;obtain⟨u,_,rfl⟩:=aau.mp he;nofun;exact ED u
    ·rw[YO,YO,YM lt,eg];rfl
    ·have:=List.not_of_lt_findIdx (xs:=to.map (Wq.eM ss)) (p:=λy=>y==Wq.eM ss (p:Int)) hj;rw[YO,YO,YM (Nat.lt_trans hj lt)] at z;have:=inj _ _ (Zb z);simp_all
    ·rw[YL] at lt;lia
theorem EE {C:Addr} {H:Hp} {x wl:Addr} {S:Dg.Bk} {xs:List V} (h:kJ C H x S) (hw:H wl=some (.lst xs)) (xr:∀y∈xs,∃a,y=V.ref a) (l0:0<xs.length):kJ C (c6 H wl) x S:=by
 obtain⟨dx,m,hx,hm⟩:=h;refine⟨dx,m,by rw[bY (λz=>by rw[z,hw] at hx;cases hx)];exact hx,?_⟩;rw[bY]
 ·exact hm
 ·intro z;rw[z,hw] at hm;have e:xs=S.1.map V.int:=by injection hm with h;injection h
  obtain⟨a,ea⟩:=xr xs[0] (YV l0);have:xs[0]?=some xs[0]:=YM l0;rw[ea,e,YO] at this;obtain⟨_,_,e2⟩:=aas.mp this;cases e2
theorem Ap {H:Hp} {dF:List Dg.Wy} {xs:List V} (r:a8 H (dF.map oP) xs):∀y∈xs,∃a,y=V.ref a:=λy hy=>by
 obtain⟨j,ej⟩:=Ze hy;obtain⟨Yx,_,rr⟩:=C6 r ej;obtain⟨a,_,e,_⟩:=aM.mp rr;exact⟨a,e⟩
theorem EF {H:Hp} {b:List Pl} {xs:List V} (r:a8 H ((bN b (aaz b.length (some (0:Int)))).map oP) xs) (h:0<b.length):0<xs.length:=by
 have:=r.length;unfold bN at this;rw[YL,Z2,Zr] at this;lia
theorem Aq:aN ["board","found","ways","gains","book","part","worths"] ["board"] (au (top 55)):=⟨rfl,rfl,rfl,∅,rfl,∅,∅⟩
theorem Nd (T:Txt K mg aD tc) (LB:nM base mg tc tp):bK P w K mg base (bF P w) 7 "best" ["board"] (Ea tp):=by
 have dt:bK P w K mg base (bF P w) 6 "checked_parts" ["board"] (j9 tp):=yO T LB;have cB:bK P w K mg base (bF P w) 2 "all_weighted_ways" ["board","picks"] Bo:=Ew T;have kh:bK P w K mg base (bF P w) 4 "gains_of" ["board"] (wA aD):=Ex T;have fR:bK P w K mg base (bF P w) 3 "blank_worths" ["gains"] (DN aD):=HM T;have kj:bK P w K mg base (bF P w) 5 "with_best_worths" ["book","gains","part","board","ways"] (Hu aD):=M3 T;have cZ:jK P w K mg base (bF P w) 3 aD "as_shares" ["self"] (Gv aD):=Es T;have xf:bK P w K mg base (bF P w) 1 "best_pick" ["place","worth","worths"] Mv:=Nb T;refine T.Jw.eG (λ_ _ _ _ _ _=>jG λ_=>rfl) λf fd F=>F.eJ Aq (λvs H Q E h=>?_) (λcP A outer s H vs Q E hr h=>?_)
 ·obtain⟨_,_,_,rfl,_⟩:=h;rfl
 ·symm;obtain⟨a,b,rk,rfl,rb,B,kI,kk⟩:=h;nofun;clear G_;have nd:=Aq.nd;refine⟨_,(af (aE (i:=1) nd rfl (.inl rfl) (aF dt (hr.mono ∅) rfl aB.pass (aa (pv 0) ae)))
  (af (aE (i:=2) nd rfl (.inl rfl) (aF cB (hr.mono ∅) rfl aB.pass (aa (pv 0) (aa (aH pf (cY (aa ao ae)) (aU bu (by rfl) T.z_len Y9 (aa (pv 0) ae))) ae))))
  (af (aE (i:=3) nd rfl (.inl rfl) (aF kh (hr.mono ∅) rfl aB.pass (aa (pv 0) ae)))
  (af (aE (i:=4) nd rfl (.inl rfl) (aF fR (hr.mono ∅) rfl aB.pass (aa (pv 3) ae)))
  (af (cm PassesOwn.never rfl (aZ (K:=K) (pv 1)) (aG (i:=5) nd rfl (.inl rfl)) (ax (aE (i:=4) nd rfl (.inl rfl) (aF kj (hr.mono ∅) rfl aB.pass (aa (pv 4) (aa (pv 3) (aa (pv 5) (aa (pv 0) (aa (pv 2) ae)))))))))
  (af (aE (i:=6) nd rfl (.inr rfl) (yi cZ T.bP (pv 4) (hr.mono ∅) aB.pass))
  (ax (aP (cy (aa (pv 6) (aa (bS rfl (N:=["board","found","ways","gains","book","part","worths"]) (so:=au (top 55)) (N':=["place","worth","worths"]) (k:=2) (fr:=[6]) rfl rfl ⟨rfl,∅,∅,∅,rfl,∅,∅⟩ (js (K:=K) rfl T.z_zip (aa (pv 0) (aa (pv 6) ae))) (λ_ _ _ _ _=>(bV (K:=K) (n:=2) rfl (aQ (aG (i:=0) (show(["place","worth","worths"]:List Str).Nodup by ac_rfl) rfl (.inl rfl)) (aQ (aG (i:=1) (show(["place","worth","worths"]:List Str).Nodup by ac_rfl) rfl (.inl rfl)) bU)))) (λ_ _ _ _ _=>bH)
   (λ_ _ _ _ _=>(aF xf (hr.mono ∅) rfl aB.pass (aa (pv 0) (aa (pv 1) (aa (pv 2) ae)))))) ae (se rfl)) (se rfl))))))))))),?_⟩
  refine(?_:let cn:TS:=_;let cu:TS:=_;let cv:TS:=_;let dU:TS:=_;let iF:TS:=_;let sQ:TS:=_;let HP:TS:=_;tSeq cn (tSeq cu (tSeq cv (tSeq dU (tSeq iF (tSeq sQ HP))))) _ _ _);intro cn cu cv dU iF sQ HP;have sl:=sizeLine_eq;have bl:=B.len;symm;obtain⟨g0,g1,g2⟩:=B.bot;have K4:(gT b).length=b.length:=by unfold gT;rw[YL,YL]
  obtain⟨_,xb,e,ha,HU⟩:=aM.mp rb;nofun;clear G_;cases e;have lx:=HU.length;rw[YL] at lx;subst_vars;refine ba (λN=>∀H1 l ps as,Pr.Told b ps->aA H H1->H1 l=some (.lst (List.map V.ref as))->Al (λp v=>∃x,v=.ref x/\H1 x=some (.lst ((Pr.cW b p).map V.int))) ps (as.map V.ref)->N [~~~a,~~~l,none,none,none,none,none] H1) ?_ (λN hN=>?_)
  case refine_2=>
   dsimp?[j9];exact⟨b,rb,rk,B,kI,λl ps as H1 td s1 nl hl al=>hN _ l ps as td s1 hl al⟩
  rintro H1 l ps as td s1 hl al;have S1:∀(i:Nat) q k,b[i]?=some q->(aaz b.length (some (0:Int)))[i]?=some k->Hn q k:=λi q k e ek=>by
   rw[List.eq_of_mem_replicate (YQ ek)];have:=B.ok q (YQ e);cases q with
   | fin g=>trivial
   | d6 g ws=>trivial
   | cA bB to=>exact⟨Int.le_refl _,by have:=this.2.1;lia⟩
  subst_vars;refine ba (λN=>∀H2 wl xs,aA H1 H2->H1 wl=none->H2 wl=some (.lst xs)->a8 (c6 H2 wl) ((bN b (aaz b.length (some (0:Int)))).map oP) xs->N [~~~a,~~~l,~~~wl,none,none,none,none] H2) ?_ (λN hN=>?_)
  case refine_2=>
   dsimp?[AJ];refine⟨∅,λz nz=>?_⟩;have s3:=ar (o:=.lst [V.int 0]) nz;have hz:upd H1 z (.lst [V.int 0]) z=some (.lst [V.int 0]):=ag;generalize upd H1 z (.lst [V.int 0])=H3 at *;refine⟨_,(s1.trans s3) _ _ ha,_,hz,⋯,⋯,by rw[YS];show 1*xb.length<=_;lia,λD nD=>?_⟩;rw[YS,List.flatten_replicate_singleton,<-lx] at *;have s4:=s3.trans (ar (o:=.lst (aaz b.length (V.int 0))) nD);have hD:upd H3 D (.lst (aaz b.length (V.int 0))) D=some (.lst ((aaz b.length (some (0:Int))).map dk)):=by rw[ag,List.map_replicate];rfl
   generalize upd H3 D (.lst (aaz b.length (V.int 0)))=H4 at *;exact⟨a,D,b,_,rfl,rb.mono (s1.trans s4),⋯,hD,⟨Zr,S1⟩,λwl xs H5 s5 nw hw l7=>hN _ wl xs (s4.trans s5) (none_of s4 nw) hw l7⟩
  rintro H2 wl xs s2 S4 xq Nf;have WG:aA H1 (c6 H2 wl):=fO s2 S4;subst_vars;refine ba (λN=>∀H3 gn,aA H2 H3->kJ aD (c6 H3 wl) gn (gT b,gB b)->N [~~~a,~~~l,~~~wl,~~~gn,none,none,none] H3) ?_ (λN hN=>?_)
  case refine_2=>
   dsimp?[wA];exact⟨b,(rb.mono (s1.trans WG)).mono b8,rk,B,λgn H3 s3 hg=>hN _ gn s3 (EE hg (s3 _ _ xq) (Ap Nf) (EF Nf B.pos))⟩
  rintro H3 gn s3 hg;subst_vars;refine ba (λN=>∀H4 bk,aA H3 H4->kJ aD (c6 H4 wl) bk (aaz b.length 0,gB b)->N [~~~a,~~~l,~~~wl,~~~gn,~~~bk,none,none] H4) ?_ (λN hN=>?_)
  case refine_2=>
   dsimp?[DN];refine⟨_,hg.mono b8,by show(gT b).length<=60;lia,λbk H4 s4 hb=>hN _ bk s4 ?_⟩;have:kJ aD H4 bk (aaz b.length 0,gB b):=by rw[<-K4];exact hb
   exact EE this (s4 _ _ (s3 _ _ xq)) (Ap Nf) (EF Nf B.pos)
  rintro H4 bk s4 hb;have lX:=s3.trans s4;have la:=al.length;rw[YL] at la;have K0:yF b (aaz b.length (some (0:Int))):=⟨⟨Zr,S1⟩,λi q k e ek _=>List.eq_of_mem_replicate (YQ ek)⟩
  have QC:aA H1 (c6 H4 wl):=fO (s2.trans lX) S4;subst_vars;refine ba (λN=>∀H5,aA H1 H5->∀(bk:Addr) (S:Dg.Bk) (z:Option V),kJ aD H5 bk S->wN b ps ps.length S->N [~~~a,~~~l,~~~wl,~~~gn,~~~bk,z,none] H5) ?_ (λN hN=>?_)
  case refine_2=>
   dsimp?[];refine⟨⟨_,aS.of (lX _ _ (s2 _ _ hl))⟩,bJ (src_list (K:=K) (a:=l) (xs:=as.map V.ref) (Ok:=λH'=>aA H1 (c6 H' wl)) (λH' s=>aS.of (b8 _ _ (s _ _ hl)))) (λi σ H5=>aA H1 (c6 H5 wl)/\∃(bk:Addr) (S:Dg.Bk) (ks:List (Option Int)) (xs:List V) (z:Option V),kJ aD (c6 H5 wl) gn (gT b,gB b)/\kJ aD (c6 H5 wl) bk S/\H5 wl=some (.lst xs)/\a8 (c6 H5 wl) ((bN b ks).map oP) xs/\yF b ks/\wN b ps i S/\σ=[~~~a,~~~l,~~~wl,~~~gn,~~~bk,z,none]) ⟨QC,bk,_,_,xs,_,hg.mono (b9 s4),hb,lX _ _ xq,Nf.mono (b9 lX),K0,wN.start B,rfl⟩ (λ_ _ _ _ h=>h.1) ?_ ?_⟩
   ·intro i y σ H5 H6 hi dO d5;symm;obtain⟨s5,bk,S,ks,xs,z,QD,uV,Ng,Na,K5,I,rfl⟩:=dO;obtain⟨rfl,ex⟩:=d5;rw[YL] at hi;obtain⟨p,ep,x,rfl,hx⟩:=al.get ex;nofun;have ip:=td.Gh (YQ ep);have eP:∀q∈Pr.cW b p,Pr.In b q:=λq hq=>Pr.eB B.jH.good ip hq;have lp:0< (Pr.cW b p).length:=List.length_pos_iff.mpr (Pr.iw B.jH.good ip);have o1:=ux B td (i:=i+1) ⋯;rw[Pr.iY ep] at o1;dsimp?[];refine⟨bk,gn,x,a,wl,S,b,rk,ks,Pr.cW b p,330+92*Pr.off b ps i,xs,rfl,uV,QD,s5 _ _ hx,rb.mono (s1.trans s5),B,Ng,Na,K5,(Pr.iX B.jH.good ip).imp (λh z=>⋯),lp,⋯,eP,I.sz,⋯,I.dv,λq hq=>I.zr q (eP q hq) (by rw[iA B td ep hq];exact YR _),λx2 T2 WH WI H7 s7 h7 r7 K7 st sz WJ WK=>?_⟩;exact⟨s5.trans s7,QD.mono s7,x2,T2,WJ,WH,WI,h7,r7,K7,I.step B td K7.pk ep st sz WK,rfl,_,rfl⟩
   ·intro σ H5 dW;symm;obtain⟨s5,bk,S,ks,xs,z,QD,uV,Ng,Na,K5,I,rfl⟩:=dW;nofun;rw[YL,la] at I;exact hN _ (s5.trans b8) bk S z (uV.mono b8) I
  rintro H5 s5 bk S z uV I;have W0:=I.sz.pos;have o1:=ux B td (i:=ps.length) (YR _);have sz:=I.sz.up (M':=330+92*b.length) ⋯;have WL:=sz.len;have lv:∀q:Int,0<=q->q< (b.length:Int)->Dg.vl (Wq.eM (cD S) q)=Dg.val S q:=λq q0 q1=>zY W0 q ⋯;have bq:∀p:Nat,p<b.length->yG b p (Dg.val S):=λp hp=>I.eq p hp (DT B td ⟨⋯,⋯⟩);subst_vars;refine ba (λN=>∀H6 l6,aA H5 H6->H5 l6=none->Rep H6 (.lst ((cD S).map a9)) (.ref l6)->N [~~~a,~~~l,~~~wl,~~~gn,~~~bk,z,~~~l6] H6) ?_ (λN hN=>?_)
  case refine_2=>
   dsimp?[kO];symm;obtain⟨dx,m,hx,hm⟩:=id uV;nofun;exact⟨_,_,hx,Et,bk,S,rfl,uV,W0,sz.bb.mono ⋯,⋯,λl6 H6 s6 n6 r6=>hN _ l6 s6 n6 r6⟩
  rintro H6 l6 s6 n6 r6;have WM:(cD S).length=b.length:=by unfold cD;rw[YL];exact WL
  have HR:=lH sz;symm;obtain⟨_,us,e,GH,ru⟩:=aM.mp r6;nofun;clear G_;cases e;have lu:=ru.length;rw[YL] at lu;have HS:=s1.trans (s5.trans s6);dsimp?[];refine⟨⟨_,aS.of (HS _ _ ha)⟩,⟨_,aS.of GH⟩,?_⟩;have Nc:∀{i:Nat},i<b.length->(cD S)[i]?=some (Wq.eM (cD S) (i:Int)):=λ{i} hi=>by
   unfold Wq.eM;rw[YS,YN,YM ⋯];rfl
  refine gH (K:=K) (jr (λH' s'=>aS.of (s' _ _ (HS _ _ ha))) (λH' s'=>aS.of (s' _ _ GH))) (λi u v _=>∃q x,b[i]?=some q/\Rep H (mZ q) u/\v=.ref x/\H6 x=some (.tup (Pr (Wq.eM (cD S) (i:Int)).1 (Wq.eM (cD S) (i:Int)).2))) ?_ ⋯ (λi y H'=>∀q,b[i]?=some q->y=dk (Mu (cD S) i q)) (λ_ _ _ _ _ h=>h) ?_ ?_
  ·intro i v H7 H8 hi s7 dO;symm;obtain⟨t,x,y,nt,rfl,ex,ey,rfl⟩:=dO;obtain⟨q,eq,rq⟩:=di HU ex;have uv:=(aat.mp eq).1;obtain⟨px,S5,WN⟩:=cN ru (Nc uv);nofun;rw[ey] at S5;cases S5;exact⟨ar nt,t,_,_,rfl,fV.of ag,q,px,eq,rq,rfl,WN⟩
  ·intro i u v H7 Q2 hi s7 d5 kq;symm;obtain⟨q,x,eq,rq,rfl,hx⟩:=d5;nofun;have uv:=(aat.mp eq).1;dsimp?[];refine⟨u,x,l6,q,b.length,i,cD S,rfl,rq.mono (HS.trans s7),B.ok _ (YQ eq),WM,uv,s7 _ _ hx,r6.mono s7,λbB to e=>?_,λH8 s8=>kq _ _ s8 λq' e'=>?_⟩
   ·subst e;symm;obtain⟨⟨t,mt,et⟩,_⟩:=bq i uv _ eq;nofun;have rg:=B.jH.good.qH _ (YQ eq) t mt;refine⟨t,mt,Dg.qh (HR _ (YQ (Nc uv))).1 (HR _ ?_).1 (by rw[lv _ ⋯ ⋯,lv t rg.1 rg.2];exact et)⟩;have:=Nc (i:=t.toNat) ⋯;rw[Z3 rg.1] at this;exact YQ this
   ·rw[eq] at e';cases e';rfl
  ·intro ys H7 s7 ly hy D n1 n2;have WO:ys=((List.range b.length).map λi=>Mu (cD S) i (b.getD i (.fin (0,1)))).map dk:=by
    apply Zy;intro i
    by_cases hi:i<b.length
    ·have ey:ys[i]?=some ys[i]:=YM ⋯;rw[ey,hy i _ ey _ (YM hi),YO,YO,Zu hi];simp [YN,YM hi]
    ·rw[Y0 ⋯,Y0 (by rw[YL,YL,Y6];lia)]
   have sD:=ar (o:=.lst ys) n2;have hD:upd H7 D (.lst ys) D=some (.lst ys):=ag;generalize upd H7 D (.lst ys)=H8 at *;refine⟨∅,λt H9 s9 n9 h9=>kk t l6 D S _ H9 (HS.trans (s7.trans (sD.trans s9))) h9 (none_of (s1.trans s5) n6) (none_of (HS.trans s7) n2) (r6.mono (s7.trans (sD.trans s9))) (by rw[s9 _ _ hD,WO]) sz I.dv bq (λp q e=>?_) (by rw[YL,Y6])⟩;have hp:=(aat.mp e).1;rw[YO,Zu hp];simp [YN,e]
theorem yP {ts:List Int} {i:Int} (h0:0<=i) (h1:i< (ts.length:Nat)):eV (ts.map V.int) i=some (V.int (ts.getD i.toNat 0)):=by
 have:=Dw (r:=ts) (j:=i.toNat) ⋯
 rwa [Z3 h0] at this
abbrev EG:Sp:=λvs H Q _=>∃p q a b,vs=[.ref p,.ref q]/\H p=some (.tup (Pr a.1 a.2))/\H q=some (.tup (Pr b.1 b.2))/\Bt 6400 a.1/\Bt 4100 a.2/\0<a.2/\Bt 4500 b.1/\Bt 2200 b.2/\0<b.2/\
 ∀r H',aA H H'->H r=none->H' r=some (.tup (Pr (Wq.pl a b).1 (Wq.pl a b).2))->Q (.ref r) H'
theorem qy.bt {Z M:Int} {m z:Nat} {x:Wq.Sh} (h:qy Z M x) (Z0:0<Z) (bZ:Bt z Z) (M0:0<=M) (bM:Bt m M):Bt (m+z) x.1/\Bt z x.2/\0<x.2:=by
 obtain⟨lx,d,v⟩:=h;have l0:=lx.1;have b2:Bt z x.2:=bZ.le (by have:=ZQ Z0 d;lia);have b1:=bM.mul b2;exact⟨b1.le (by obtain⟨v1,v2⟩:=v;lia),b2,l0⟩
theorem Nh {x:Wq.Sh} (h:0<x.2):(x.1<0↔Dg.vl x<0)/\(0<x.1↔0<Dg.vl x):=by
 have h1:=Hv (x:=(0,1)) (y:=x) ∅ h;have h2:=Hv (x:=x) (y:=(0,1)) h ∅;rw[show Dg.vl (0,1)=0 from Dg.Bc] at h1 h2;simp only[Int.zero_mul,Int.mul_one,gt_iff_lt] at h1 h2;exact⟨h1,h2⟩
theorem EH {x:Wq.Sh} (h:0<x.2):uU x x=(0,1):=by
 refine Dg.qh (Eb h h) ⟨∅,∅⟩ ?_;rw[yK h h,show Dg.vl (0,1)=0 from Dg.Bc];grind
structure uH (b:List Pl) (S:Dg.Bk) (ks:List (Option Int)):Prop where
 sz:Dg.Sz b.length 1100 S
 dv:gB b∣S.2
 bq:∀p:Nat,p<b.length->yG b p (Dg.val S)
 bp:∀p q,b[p]?=some q->ks[p]?=some (Mu (cD S) p q)
 lk:ks.length=b.length
theorem uH.Kl {b:List Pl} {rk:Int->Nat} {S:Dg.Bk} {ks:List (Option Int)} (B:i5 b rk) (I:uH b S ks) {p:Nat} {bB:Int} {to:List Int} (e:b[p]?=some (.cA bB to)):∃k:Nat,ks[p]?=some (some (k:Int))/\k<to.length/\Wq.eM (cD S) (to.getD k 0)=Wq.eM (cD S) (p:Int):=by
 have hp:=(aat.mp e).1;have pq:=B.ok _ (YQ e);obtain⟨⟨t,m,et⟩,_⟩:=I.bq p hp _ e;obtain⟨_,lp,vp⟩:=cR I.sz (q:=(p:Int)) ⋯ ⋯;obtain⟨_,lt,vt⟩:=cR I.sz (q:=t) (pq.2.2.2 t m).1 (pq.2.2.2 t m).2;have mem:Wq.eM (cD S) (p:Int)∈to.map (Wq.eM (cD S)):=aau.mpr ⟨t,m,Dg.qh lt.1 lp.1 (by rw[vp,vt];exact et.symm)⟩;have lt':=Zz mem;have eg:=ZJ lt';rw[List.getElem_map] at eg;rw[YL] at lt';refine⟨_,I.bp p _ e,lt',?_⟩;rw[YN,YM lt',aaa];exact eg
theorem uH.ko {b:List Pl} {rk:Int->Nat} {S:Dg.Bk} {ks:List (Option Int)} (B:i5 b rk) (I:uH b S ks):dq b ks:=by
 refine⟨I.lk,λi q k e1 e2=>?_⟩;cases q with
 | fin g=>trivial
 | d6 g ws=>trivial
 | cA bB to=>
  obtain⟨j,ej,lj,_⟩:=I.Kl B e1;rw[e2] at ej;cases ej;exact⟨⋯,⋯⟩
theorem uH.QE {b:List Pl} {rk:Int->Nat} {S:Dg.Bk} {ks:List (Option Int)} (B:i5 b rk) (I:uH b S ks) {p:Nat} {q:Pl} (e:b[p]?=some q):lstP (cD S) ks b p q=(0,1):=by
 cases q with
 | fin g=>rfl
 | d6 g ws=>rfl
 | cA bB to=>
  have hp:=(aat.mp e).1;obtain⟨j,ej,lj,ea⟩:=I.Kl B e;obtain⟨k,ek,k0,k1,_,et,mt⟩:=ja (I.ko B) e;rw[ej] at ek;cases ek;show uU _ (Wq.eM (cD S) (uz b ks (p:Int)))=_;rw[et,YS,ea];exact EH (cR I.sz (q:=(p:Int)) ⋯ ⋯).2.1.1.1
theorem uH.eq {b:List Pl} {rk:Int->Nat} {S:Dg.Bk} {ks:List (Option Int)} (B:i5 b rk) (I:uH b S ks) {p:Nat} (hp:p<b.length):EqAt b ks p (Dg.val S):=by
 intro q k e ek;have a:=I.bq p hp q e;have pq:=B.ok _ (YQ e);cases q with
 | fin g=>
  show _=Dg.vl g+0;rw[show Dg.val S (p:Int)=Dg.vl g from a];grind
 | d6 g ws=>exact a
 | cA bB to=>
  obtain⟨j,ej,lj,ea⟩:=I.Kl B e;rw[ek] at ej;cases ej;have mj:to.getD j 0∈to:=by rw[YN,YM lj];exact YV lj
  obtain⟨_,_,vp⟩:=cR I.sz (q:=(p:Int)) ⋯ ⋯;obtain⟨_,_,vt⟩:=cR I.sz (q:=to.getD j 0) (pq.2.2.2 _ mj).1 (pq.2.2.2 _ mj).2;show _=Dg.vl (0,1)+ (((1:Int):Rat) / ((1:Int):Rat)*Dg.val S (to.getD ((j:Int)).toNat 0)+0);rw[show Dg.vl (0,1)=0 from Dg.Bc,Dg.Mj,YS,<-vt,ea,vp];grind
theorem Ni {S S':Dg.Bk} {n M M':Nat} (z:Dg.Sz n M S) (z':Dg.Sz n M' S') (e:∀p:Nat,p<n->Dg.val S (p:Int)=Dg.val S' (p:Int)):cD S=cD S':=by
 have l:(cD S).length=n:=by unfold cD;rw[YL,z.len]
 have l':(cD S').length=n:=by unfold cD;rw[YL,z'.len]
 apply Zy;intro i
 by_cases hi:i<n
 ·obtain⟨a1,a2,a3⟩:=cR z (q:=(i:Int)) ⋯ ⋯;obtain⟨b1,b2,b3⟩:=cR z' (q:=(i:Int)) ⋯ ⋯;rw[YS] at a1 b1;rw[a1,b1];congr 1;exact Dg.qh a2.1 b2.1 (by rw[a3,b3,e i hi])
 ·rw[Y0 ⋯,Y0 ⋯]
theorem lN:aN ["_law_script","_law_k","_law_number"] ["_law_script","_law_k"] (au (top 57)):=⟨rfl,rfl,rfl,∅,rfl,∅,∅⟩
theorem uI (T:Txt K mg aD tc):bK P w K mg base (bF P w) 1 "_law_cell" ["_law_script","_law_k"] (GB K):=by
 refine T.vS.eG (λ_ _ _ _ _ _=>eO λ_ _=>rfl) λf fd F=>F.eJ lN (λvs H Q E h=>?_) (λcP A outer s H vs Q E hr h=>?_)
 ·obtain⟨_,_,_,rfl,_⟩:=h;rfl
 ·symm;obtain⟨a,ns,k,rfl,hS,k0,k1,kk⟩:=h;nofun;have nd:=lN.nd;refine⟨_,(af (bT (aR o5 (pv 1) (aU (jZ (K:=K)) (by rfl) T.z_len Y9 (aa (pv 0) ae)) (aT _)) (ax (aP (aI (rQ (K:=K)) (pv 0) (pv 1) (λ_ _=>rfl))))
   bo)
  (af (aE (i:=2) nd rfl (.inl rfl) (aH bj (aH aV (pv 1) ao) ao))
  (af (bT (aR mT (aU (jZ (K:=K)) (by rfl) T.z_len Y9 (aa (pv 0) ae)) ao (aT _)) (ax (aE (i:=2) nd rfl (.inl rfl) (aH bj (aH aV (aH dh (aI (rQ (K:=K)) (pv 0) (aH dh (aH aV (pv 1) ao) (aU (jZ (K:=K)) (by rfl) T.z_len Y9 (aa (pv 0) ae))) (λ_ _=>rfl)) ao) ao) (aH aV (aH aV (pv 1) (pv 1)) ao))))
   bo)
  (ax (aP (aH dh (aH aV (pv 2) (pv 2)) ao)))))),?_⟩
  refine(?_:let cn:TS:=_;let cu:TS:=_;let cv:TS:=_;let dU:TS:=_;tSeq cn (tSeq cu (tSeq cv dU)) _ _ _);intro cn cu cv dU;dsimp?[IP];have j2:k*k<=1000000:=Int.le_trans (Int.mul_le_mul (show k<=1000 by lia) (show k<=1000 by lia) k0 ∅) ∅;have j3:0<=k*k:=Int.mul_nonneg k0 k0;refine⟨ns,hS,ib (λc=>⟨ns,hS,k0,c,kk _⟩) (λc=>⟨df ⋯ ⋯,ns,hS,ib (λz=>?_) (λz=>?_)⟩)⟩
  ·have m1:=ZM (ns.getD (k*5 % (ns.length:Int)).toNat 0) (show(2147483647:Int)≠0 by decide);have m2:=Z4 (ns.getD (k*5 % (ns.length:Int)).toNat 0) (show(0:Int)<2147483647 by decide);exact⟨df ⋯ ⋯,ns,hS,z,ns,hS,ZM _ ⋯,Z4 _ z,∅,pE,df ⋯ ⋯,df ⋯ ⋯,df ⋯ ⋯,∅,kk _⟩
  ·exact⟨df ⋯ ⋯,∅,kk _⟩
theorem jP:aN ["_law_cell_here","_law_many"] ["_law_cell_here","_law_many"] (au (top 58)):=⟨rfl,rfl,rfl,∅,rfl,∅,∅⟩
theorem qE (T:Txt K mg aD tc):bK P w K mg base (bF P w) 1 "_law_mixed" ["_law_cell_here","_law_many"] gc:=by
 refine T.tY.eG (λ_ _ _ _ _ _=>eO λ_ _=>rfl) λf fd F=>F.eJ jP (λvs H Q E h=>?_) (λcP A outer s H vs Q E hr h=>?_)
 ·obtain⟨_,_,rfl,_⟩:=h;rfl
 ·symm;obtain⟨c,m,rfl,m0,kk⟩:=h;nofun;have nd:=jP.nd;refine⟨_,(ax (aP (aH dh (aH eX (aH dh (aH aV (aH dh (pv 0) (aH jX ao ao)) ao) (aH jX ao ao)) (aH jX ao ao)) (pv 1)))),?_⟩;dsimp?[];have h1:=ZM c (show((2:Int)^64)≠0 by decide);have h2:=Z4 c (show(0:Int)<2^64 by decide);exact⟨∅,∅,∅,∅,df ⋯ ⋯,∅,∅,∅,∅,∅,∅,∅,gF.lit,m0,kk _ (ZM _ ⋯) (Z4 _ m0)⟩
theorem nk:aN ["_law_top","_law_bottom","_law_one","_law_other"] ["_law_top","_law_bottom"] (au (top 59)):=⟨rfl,rfl,rfl,∅,rfl,∅,∅⟩
theorem yQ (T:Txt K mg aD tc):bK P w K mg base (bF P w) 1 "_law_low" ["_law_top","_law_bottom"] qx:=by
 refine T.yo.eG (λ_ _ _ _ _ _=>eO λ_ _=>rfl) λf fd F=>F.eJ nk (λvs H Q E h=>?_) (λcP A outer s H vs Q E hr h=>?_)
 ·obtain⟨_,_,rfl,_⟩:=h;rfl
 ·symm;obtain⟨a,b,rfl,b0,bb,k⟩:=h;nofun;have nd:=nk.nd;refine⟨_,(af (aE (i:=2) nd rfl (.inl rfl) (aU o8 (by rfl) T.z_abs rfl (aa (pv 0) ae)))
  (af (aE (i:=3) nd rfl (.inl rfl) (pv 1))
  (af (iP PassesOwn.never (aR mT (pv 3) ao (aT _)) (ax (Iu (i:=2) (j:=3) rfl nd rfl rfl ∅ rfl rfl (aa (pv 3) (aa (aH dh (pv 2) (pv 3)) ae)) rfl)))
  (ax (aP (cy (aa (aH eX (pv 0) (pv 2)) (aa (aH eX (pv 1) (pv 2)) ae)))))))),?_⟩
  refine(?_:let cn:TS:=_;let cu:TS:=_;let cv:TS:=_;let dU:TS:=_;tSeq cn (tSeq cu (tSeq cv dU)) _ _ _);intro cn cu cv dU;dsimp?[];refine u6 (λσ H1=>H1=H/\∃x y:Int,σ=[some (.int a),some (.int b),some (.int x),some (.int y)]/\0<=x/\0<=y/\Nm.g x y=Nm.g a b) (λσ _=>match σ with | [_,_,_,some (.int y)]=>y.toNat | _=>0) ?_ ?_ ?_
  ·refine⟨rfl,_,_,rfl,?_,⋯,?_⟩
   ·split <;>lia
   ·rw[show(if a<0 then -a else a)=(a.natAbs:Int) by split <;>lia,Nm.Cb]
  ·intro σ H1 dW;symm;obtain⟨rfl,x,y,rfl,x0,y0,e⟩:=dW;nofun;dsimp?[];refine ib (λc=>?_) (λc=>?_)
   ·refine⟨c,y0,ZM _ ⋯,by rw[Nm.Cc x0 c,e],?_⟩;have:=Z4 x c;have:=ZM x (show y≠0 by lia);lia
   ·have z:y=0:=⋯
    subst z;rw[Nm.Cd x0] at e;rw[e];have g0:0<Nm.g a b:=Nm.pF ⋯;have gb:Bt 8900 (Nm.g a b):=bb.le (by have:=Nm.IS (a:=a) b0;lia);obtain⟨e1,e2⟩:=Nm.IV (a:=a) b0;rw[e1,e2] at k;exact⟨gF.of g0 gb,gF.of g0 gb,∅,λp H2 s1 n1 e=>k p H2 s1 n1 e⟩
  ·intro σ H1 Q1 Q2 hq hc;simp only[L2.start,Pr,tRev,tD1,tDPop1,tSl,tNoPart,tPart,rSlL,tDIn,tDNotIn,gSub,rSetL,tLst,tDNewK,tComp,L2.stC,tFor_eq,iList,iTup,iRng1,iRng2,iZip,iEnum,iDict,iStr,tChain,tSumV,tBM,tRaise,tDGet,tDGet2,tDGet1,sDPut,Option.join_some,List.getElem?_nil,tSeq,tRet,tRetN,tIfS,tTest,tB,tOp,tUn,tVar,tC,tCB,tCons,tNil,tCall,tTupS,tAsg,gName,gNil,gCons,tPar,tNext,tDrop,tAnd,tOr,tNot,tAndV,tOrV,tNotV,tIf,rI,rI0,rU,rIxTH,rIxLH,rEqT,rNeT,rInT,rEq,rNe,scal_ss,scal_ii,scal_bb,scal_si,scal_is,CPow,at0,at1,at2,Y8,ZE,YZ,ZW,Nat.reduceSub,Nat.reduceAdd,ZI,aai,List.reduceReplicate,ZD,List.nil_append,aab,aac,Z6,ZY,ZZ,aad,exists_eq_left',exists_eq_left,V.ref.injEq,V.int.injEq,V.bl.injEq,V.str.injEq,V.ty.injEq,HO.tup.injEq,HO.lst.injEq,List.cons.injEq,and_true,true_and,and_assoc,exists_and_left,decide_eq_true_eq,Bool.not_eq_true',decide_eq_false_iff_not,ite_true,ite_false,if_true,if_false,Int.reduceToNat,eq_self_iff_true] at hc ⊢;symm;obtain⟨v,e1,i,e2,q⟩:=hc;nofun;exact⟨v,e1,i,e2,hq _ _ q⟩
theorem lO:aN ["_law_one","_law_other"] ["_law_one","_law_other"] (au (top 60)):=⟨rfl,rfl,rfl,∅,rfl,∅,∅⟩
theorem Km (T:Txt K mg aD tc):bK P w K mg base (bF P w) 2 "_law_plus" ["_law_one","_law_other"] EG:=by
 have fS:bK P w K mg base (bF P w) 1 "_law_low" ["_law_top","_law_bottom"] qx:=yQ T;refine T.vT.eG (λ_ _ _ _ _ _=>eO λ_ _=>rfl) λf fd F=>F.eJ lO (λvs H Q E h=>?_) (λcP A outer s H vs Q E hr h=>?_)
 ·obtain⟨_,_,_,_,rfl,_⟩:=h;rfl
 ·symm;obtain⟨p,q,a,b,rfl,hp,hq,a1,a2,a0,b1,b2,b0,k⟩:=h;nofun;have nd:=lO.nd;refine⟨_,(ax (aP (aF fS (hr.mono ∅) rfl aB.pass (aa (aH bj (aH aV (aI aL (pv 0) ao (λ_ _=>rfl)) (aI aL (pv 1) ao (λ_ _=>rfl))) (aH aV (aI aL (pv 1) ao (λ_ _=>rfl)) (aI aL (pv 0) ao (λ_ _=>rfl)))) (aa (aH aV (aI aL (pv 0) ao (λ_ _=>rfl)) (aI aL (pv 1) ao (λ_ _=>rfl))) ae))))),?_⟩;simp only[Pr] at hp hq;dsimp?[qx,hp,hq];exact⟨a1.dH b2,b1.dH a2,a2.dH b2,Zd a0 b0,(a2.mul b2).mono ∅,λr H' s' n' e=>k r H' s' n' e⟩
theorem jQ:aN ["_law_one","_law_other"] ["_law_one","_law_other"] (au (top 61)):=⟨rfl,rfl,rfl,∅,rfl,∅,∅⟩
theorem Kn (T:Txt K mg aD tc):bK P w K mg base (bF P w) 2 "_law_times" ["_law_one","_law_other"] DX:=by
 have fS:bK P w K mg base (bF P w) 1 "_law_low" ["_law_top","_law_bottom"] qx:=yQ T;refine T.tZ.eG (λ_ _ _ _ _ _=>eO λ_ _=>rfl) λf fd F=>F.eJ jQ (λvs H Q E h=>?_) (λcP A outer s H vs Q E hr h=>?_)
 ·obtain⟨_,_,_,_,rfl,_⟩:=h;rfl
 ·symm;obtain⟨p,q,a,b,rfl,hp,hq,ga,gb,k⟩:=h;nofun;have nd:=jQ.nd;refine⟨_,(ax (aP (aF fS (hr.mono ∅) rfl aB.pass (aa (aH aV (aI aL (pv 0) ao (λ_ _=>rfl)) (aI aL (pv 1) ao (λ_ _=>rfl))) (aa (aH aV (aI aL (pv 0) ao (λ_ _=>rfl)) (aI aL (pv 1) ao (λ_ _=>rfl))) ae))))),?_⟩;simp only[Pr] at hp hq;dsimp?[qx,hp,hq];refine⟨ga.1.dH gb.1,ga.2.1.dH gb.2.1,?_⟩;exact⟨Zd ga.2.2 gb.2.2,(ga.2.1.mul gb.2.1).mono ∅,λr H' s' n' e=>k r H' s' n' e⟩
theorem jR:aN ["_law_cell_here","_law_k","_law_way","_law_top","_law_bottom"] ["_law_cell_here","_law_k"] (au (top 62)):=⟨rfl,rfl,rfl,∅,rfl,∅,∅⟩
theorem Ko (T:Txt K mg aD tc):bK P w K mg base (bF P w) 2 "_law_share" ["_law_cell_here","_law_k"] DZ:=by
 have fS:bK P w K mg base (bF P w) 1 "_law_low" ["_law_top","_law_bottom"] qx:=yQ T;have aY:bK P w K mg base (bF P w) 1 "_law_mixed" ["_law_cell_here","_law_many"] gc:=qE T;refine T.t6.eG (λ_ _ _ _ _ _=>eO λ_ _=>rfl) λf fd F=>F.eJ jR (λvs H Q E h=>?_) (λcP A outer s H vs Q E hr h=>?_)
 ·obtain⟨_,_,rfl,_⟩:=h;rfl
 ·symm;obtain⟨c,k,rfl,k0,k1,kk⟩:=h;nofun;have nd:=jR.nd;refine⟨_,(af (aE (i:=2) nd rfl (.inl rfl) (aF aY (hr.mono ∅) rfl aB.pass (aa (aH bj (pv 0) (aH aV ao (pv 1))) (aa ao ae))))
  (af (aE (i:=3) nd rfl (.inl rfl) (aH jW (aF aY (hr.mono ∅) rfl aB.pass (aa (aH bj (aH bj (pv 0) (aH aV ao (pv 1))) ao) (aa ao ae))) ao))
  (af (aE (i:=4) nd rfl (.inl rfl) ao)
  (af (bT (aR o5 (pv 2) ao (aT _)) (ax (aE (i:=4) nd rfl (.inl rfl) (aH bj ao (aF aY (hr.mono ∅) rfl aB.pass (aa (aH bj (aH bj (pv 0) (aH aV ao (pv 1))) ao) (aa ao ae))))))
   bo)
  (af (bT (aR cF (pv 2) ao (aT _)) (af (aE (i:=3) nd rfl (.inl rfl) (aH jW (aH dh (aH aV (aH bj (pv 0) ao) (aH bj (aH aV (pv 1) (pv 1)) ao)) (aH jW (aH aV ao (aH jX ao ao)) ao)) (aH jW (aH jX ao ao) ao)))
  (ax (aE (i:=4) nd rfl (.inl rfl) (aH bj ao (aH dh (aH aV (aH bj (pv 0) ao) (aH bj (aH aV (pv 1) (pv 1)) ao)) (aH jX ao ao))))))
   bo)
  (ax (aP (aF fS (hr.mono ∅) rfl aB.pass (aa (pv 3) (aa (pv 4) ae)))))))))),?_⟩
  refine(?_:let cn:TS:=_;let cu:TS:=_;let cv:TS:=_;let dU:TS:=_;let iF:TS:=_;let sQ:TS:=_;tSeq cn (tSeq cu (tSeq cv (tSeq dU (tSeq iF sQ)))) _ _ _);intro cn cu cv dU iF sQ;have j2:k*k<=1000000:=Int.le_trans (Int.mul_le_mul (show k<=1000 by lia) (show k<=1000 by lia) k0 ∅) ∅;have j3:0<=k*k:=Int.mul_nonneg k0 k0;have fin:∀x y:Int,Bt 40 x->Bt 20 y->0<y->0<y/\Bt 8900 y/\∀p H',aA H H'->H p=none->H' p=some (.tup [V.int (Nm.st x y),V.int (Nm.sb x y)])->Q (.ref p) H':=λx y bx S6 y0=>
   ⟨y0,S6.mono ∅,λp H' s' n' e=>kk p H' (Nm.st x y,Nm.sb x y) s' n' e ⟨bx.le (Nm.IT ⋯),S6.le (Nm.IU ⋯),Nm.Cf ⋯,Nm.Cg ⋯⟩⟩
  have Fx:∀c1 c2:Int,Bt 40 (c1 % (2*10^12 - 1) - (10^12 - 1))/\Bt 20 (1+c2 % 10^6)/\0<1+c2 % 10^6:=λc1 c2=>by
   have h1:=ZM c1 (show(2*10^12 - 1:Int)≠0 by decide);have h2:=Z4 c1 (show(0:Int)<2*10^12 - 1 by decide);have h3:=ZM c2 (show(10^6:Int)≠0 by decide);have h4:=Z4 c2 (show(0:Int)<10^6 by decide);exact⟨Bt.of (10^12) ⋯ ⋯,Bt.of (10^6) ⋯ ⋯,⋯⟩
  dsimp?[qx,gc];have bs:∀{t r:Int},0<=t->t<19->0<=r->r<12->Bt 40 (t - 9)/\Bt 20 (1+r):=λa b c d=>⟨Bt.of 60 ⋯ ⋯,Bt.of 60 ⋯ ⋯⟩
  refine⟨df,∅,λwy w0 w1=>⟨df,∅,λt t0 t1=>ib (λc1=>⟨df,∅,λr r0 r1=>ib (λc2=>?_) (λc2=>?_)⟩) (λc1=>ib (λc2=>?_) (λc2=>?_))⟩⟩
  ·exfalso;lia
  ·exact fin (t - 9) (1+r) (bs t0 t1 r0 r1).1 (bs t0 t1 r0 r1).2 ⋯
  ·have bg:=Fx ((c+1)* (k*k+71)) ((c+3)* (k*k+5));exact⟨df ⋯ ⋯,pE ⋯ ⋯,∅,∅,∅,df,∅,∅,∅,∅,df ⋯ ⋯,pE ⋯ ⋯,∅,∅,∅,∅,fin _ _ bg.1 bg.2.1 bg.2.2⟩
  ·exact fin (t - 9) 1 (bs t0 t1 (Int.le_refl 0) ∅).1 (Bt.of 60 ⋯ ⋯) ∅
theorem jn:aN ["_law_cell_here","_law_n","_law_first","_law_keyed"] ["_law_cell_here","_law_n"] (au (top 63)):=⟨rfl,rfl,rfl,∅,rfl,∅,∅⟩
theorem Kp (T:Txt K mg aD tc):bK P w K mg base (bF P w) 2 "_law_turned" ["_law_cell_here","_law_n"] DY:=by
 have aY:bK P w K mg base (bF P w) 1 "_law_mixed" ["_law_cell_here","_law_many"] gc:=qE T;refine T.qV.eG (λ_ _ _ _ _ _=>eO λ_ _=>rfl) λf fd F=>F.eJ jn (λvs H Q E h=>?_) (λcP A outer s H vs Q E hr h=>?_)
 ·obtain⟨_,_,rfl,_⟩:=h;rfl
 ·symm;obtain⟨c,n,rfl,n0,n1,kk⟩:=h;nofun;clear G_;have nd:=jn.nd;refine⟨_,(af (aE (i:=2) nd rfl (.inr rfl) (aH dh (pv 0) ao))
  (af (aE (i:=3) nd rfl (.inl rfl) (aU (pQ (K:=K)) (by rfl) T.z_sorted rfl (aa (bS rfl (N:=["_law_cell_here","_law_n","_law_first","_law_keyed"]) (so:=au (top 63)) (N':=["_law_k","_law_first"]) (k:=1) (fr:=[2]) rfl rfl ⟨rfl,∅,∅,∅,rfl,∅,∅⟩ (du rfl T.z_range (aa (pv 1) ae)) (λ_ _ _ _ _=>(aG (i:=0) (show(["_law_k","_law_first"]:List Str).Nodup by ac_rfl) rfl (.inl rfl))) (λ_ _ _ _ _=>bH)
   (λ_ _ _ _ _=>(cy (aa (aF aY (hr.mono ∅) rfl aB.pass (aa (aH bj (aH aV (pv 1) (aH bj (aH aV (pv 0) (pv 0)) ao)) (pv 0)) (aa (aH jX ao ao) ae))) (aa (pv 0) ae))))) ae (se rfl))))
  (ax (aP (bS rfl (N:=["_law_cell_here","_law_n","_law_first","_law_keyed"]) (so:=au (top 63)) (N':=["_law_pair"]) (k:=1) (fr:=[]) rfl rfl ⟨rfl,∅,∅,∅,rfl,∅,∅⟩ (aZ (K:=K) (pv 3)) (λ_ _ _ _ _=>(aG (i:=0) (show(["_law_pair"]:List Str).Nodup by ac_rfl) rfl (.inl rfl))) (λ_ _ _ _ _=>bH)
   (λ_ _ _ _ _=>(aI aL (pv 0) ao (λ_ _=>rfl)))))))),?_⟩
  refine(?_:let cn:TS:=_;let cu:TS:=_;let cv:TS:=_;tSeq cn (tSeq cu cv) _ _ _);intro cn cu cv;dsimp?[];obtain⟨N,rfl⟩:=Y2 (Int.le_of_lt n0);rw[YS] at kk;refine⟨∅,⋯,⋯,?_⟩;refine comp_map src_range (λ_ _ _ _ h=>by rw[h.1];exact aA.refl _) (by rw[sizeLine_eq];lia) (λi y H4=>∃tt a,y=.ref tt/\H4 tt=some (.tup [.int a,.int ((i:Nat):Int)])) (λi y H4 H5 s5 ⟨tt,a,e,h⟩=>⟨tt,a,e,s5 _ _ h⟩) ?_ ?_
  ·rintro i x w0 H9 GU Q2 hi s9 ⟨rfl,rfl⟩ kq;dsimp?[gc];have ii:(0:Int)+ (i:Int)=(i:Int):=ZR _;rw[ii];have j0:(0:Int)<=(i:Int):=⋯
   have jq:IntMulOk (i:Int) (i:Int):=df ⋯ ⋯;have j2:(i:Int)* (i:Int)<=40000:=Int.le_trans (Int.mul_le_mul (show(i:Int)<=200 by lia) (show(i:Int)<=200 by lia) j0 ∅) ∅;have j3:0<=(i:Int)* (i:Int):=Int.mul_nonneg j0 j0;exact⟨jq,pE ⋯ ⋯,∅,∅,∅,∅,λr r0 r1=>⟨∅,λq5 WQ Ox Nj WR=>kq _ _ Ox ⟨q5,r,rfl,WR⟩⟩⟩
  intro ys H9 s9 ly hy D9 Oy Nj;have WS:=s9.trans (ar (o:=.lst ys) Nj);have WU:(upd H9 D9 (.lst ys)) D9=some (.lst ys):=ag;have QF:∀(i:Nat) y,ys[i]?=some y->∃tt a,y=.ref tt/\(upd H9 D9 (.lst ys)) tt=some (.tup [.int a,.int ((i:Nat):Int)]):=λi y e=>by
   symm;obtain⟨tt,a,e1,e2⟩:=hy i y e;nofun;exact⟨tt,a,e1,ar Nj _ _ e2⟩
  generalize upd H9 D9 (.lst ys)=GU at *;have each:∀y∈ys,∃tt a b',y=.ref tt/\GU tt=some (.tup [.int a,.int b']):=λy WV=>by
   obtain⟨i,ei⟩:=Ze WV;symm;obtain⟨tt,a,e1,e2⟩:=QF i y ei;nofun;exact⟨tt,a,_,e1,e2⟩
  have ly:ys.length=N:=by simpa using ly
  refine⟨ys,aS.of WU,⋯,each,λQG zs WW pz=>?_⟩;have hg:∃g:V->Nat,g=λv=>match v with | .ref tt=>(match GU tt with | some (.tup [_,.int i])=>i.toNat | _=>0) | _=>0:=⟨_,rfl⟩
  obtain⟨g,hg⟩:=hg;have gy:∀(i:Nat) y,ys[i]?=some y->g y=i:=λi y e=>by
   symm;obtain⟨tt,a,rfl,e2⟩:=QF i y e;nofun;rw[hg];simp only[e2,YS]
  have mg:ys.map g=List.range N:=by
   apply Zy;intro i;rw[YO]
   by_cases hi:i<N
   ·rw[Zu hi,YM (show i<ys.length by lia)];show some (g _)=_;rw[gy i _ (YM ⋯)]
   ·rw[Y0 (show(List.range N).length<=i by rw[Y6];lia),Y0 (show ys.length<=i by lia)];rfl
  have pm:(zs.map g).Perm (List.range N):=by rw[<-mg];exact pz.map g
  have zl:zs.length=N:=by rw[pz.length_eq];lia
  have ez:∀z∈zs,∃tt a,z=.ref tt/\GU tt=some (.tup [.int a,.int ((g z:Nat):Int)]):=λz hz=>by
   obtain⟨i,ei⟩:=Ze (pz.mem_iff.mp hz);symm;obtain⟨tt,a,e1,e2⟩:=QF i z ei;nofun;exact⟨tt,a,e1,by rw[gy i z ei];exact e2⟩
  have Ox:=ar (o:=.lst zs) WW;have h11:(upd GU QG (.lst zs)) QG=some (.lst zs):=ag;generalize upd GU QG (.lst zs)=WQ at *;refine⟨⟨_,aS.of h11⟩,?_⟩;refine dz zs (λz=>some ((g z:Nat):Int)) (src_list (K:=K) (λH' s'=>aS.of (s' _ _ h11))) (λ_ _ _ _ h=>h.1) (by rw[sizeLine_eq];lia) ?_ ?_
  ·rintro i1 z x eg ⟨_,ex⟩ Y N1 y1 n1;rw[eg] at ex;cases ex;symm;obtain⟨tt,a,rfl,e2⟩:=ez z (YQ eg);nofun;dsimp?[gm,Ox _ _ e2];exact y1 _ rfl
  intro Yy Yz S7;rw[dX];have WX:List.map V.int (zs.map λz=>((g z:Nat):Int))=List.map fX (zs.map g):=by rw[ZA,ZA];rfl
  rw[WX];have S8:=WS.trans Ox;exact kk _ _ _ (S8.trans (ar S7)) (none_of S8 S7) ag pm
theorem uJ {a:TS} {D:Ends} {σ:L2.St} {H:Hp} (C:(L2.St->Hp->Prop)->Prop) (hb:C D.nx) (ha:∀N:L2.St->Hp->Prop,C N->a {D with nx:=N} σ H):a D σ H:=ha _ hb
theorem jS:aN ["_law_cell_here","_law_k","_law_n","_law_ways_here","_law_j","_law_weight","_law_sure"] ["_law_cell_here","_law_k","_law_n"] (au (top 64)):=⟨rfl,rfl,rfl,∅,rfl,∅,∅⟩
theorem Kq (T:Txt K mg aD tc):bK P w K mg base (bF P w) 2 "_law_throw" ["_law_cell_here","_law_k","_law_n"] D1:=by
 have aY:bK P w K mg base (bF P w) 1 "_law_mixed" ["_law_cell_here","_law_many"] gc:=qE T;refine T.t7.eG (λ_ _ _ _ _ _=>nV λ_ _ _=>rfl) λf fd F=>F.eJ jS (λvs H Q E h=>?_) (λcP A outer s H vs Q E hr h=>?_)
 ·obtain⟨_,_,_,rfl,_⟩:=h;rfl
 ·symm;obtain⟨c,k,n,rfl,k0,kn,kk⟩:=h;nofun;have nd:=jS.nd;refine⟨_,(af (aE (i:=3) nd rfl (.inl rfl) (cY ae))
  (af (cm PassesOwn.never rfl (du rfl T.z_range (aa (aF aY (hr.mono ∅) rfl aB.pass (aa (aH bj (pv 0) ao) (aa ao ae))) ae)) (aG (i:=4) nd rfl (.inl rfl)) (af (aE (i:=5) nd rfl (.inl rfl) (aH bj ao (aF aY (hr.mono ∅) rfl aB.pass (aa (aH bj (pv 0) (aH aV ao (pv 4))) (aa ao ae)))))
  (af (bT (aR cF (aF aY (hr.mono ∅) rfl aB.pass (aa (aH bj (pv 0) ao) (aa ao ae))) ao (aT _)) (ax (aE (i:=5) nd rfl (.inl rfl) (aH bj ao (aF aY (hr.mono ∅) rfl aB.pass (aa (aH bj (pv 0) (aH aV ao (pv 4))) (aa ao ae))))))
   bo)
  (ax (dC (fj Zq ZK ZL cH.r (pv 3) (aa (cy (aa (pv 5) (aa (aF aY (hr.mono ∅) rfl aB.pass (aa (aH bj (aH bj (pv 0) (aH aV ao (pv 4))) ao) (aa (pv 2) ae))) ae))) ae)))))))
  (af (aE (i:=6) nd rfl (.inl rfl) (cy (aa (aH bj ao (aF aY (hr.mono ∅) rfl aB.pass (aa (aH bj (pv 0) ao) (aa ao ae)))) (aa (aF aY (hr.mono ∅) rfl aB.pass (aa (aH bj (pv 0) ao) (aa (pv 1) ae))) ae))))
  (af (dC (fj Zq PySem.F.slot_list_insert PySem.F.type_list_insert AX.r (pv 3) (aa (aF aY (hr.mono ∅) rfl aB.pass (aa (aH bj (pv 0) ao) (aa (aH bj (aU bu (by rfl) T.z_len Y9 (aa (pv 3) ae)) ao) ae))) (aa (pv 6) ae))))
  (ax (aP (pv 3))))))),?_⟩
  refine(?_:let cn:TS:=_;let cu:TS:=_;let cv:TS:=_;let dU:TS:=_;let iF:TS:=_;tSeq cn (tSeq cu (tSeq cv (tSeq dU iF))) _ _ _);intro cn cu cv dU iF;dsimp?[gc];refine⟨Y1 _,λp np=>⟨∅,λr r0 r1=>⟨⋯,⋯,?_⟩⟩⟩;refine bJ (src_range (Ok:=λ_=>True)) (λi σ H'=>aA H H'/\∃xs z4 z5,H' p=some (.lst xs)/\xs.length=i/\(∀x∈xs,WT H' n x)/\σ=[some (.int c),some (.int k),some (.int n),some (V.ref p),z4,z5,none])
   ⟨ar np,[],_,_,ag,rfl,by simp,rfl⟩ (λ_ _ _ _ _=>trivial) ?_ ?_
  ·intro i x σ H1 H2 hi dO d5;symm;obtain⟨sm,xs,z4,z5,hp,lx,wx,rfl⟩:=dO;obtain⟨rfl,rfl⟩:=d5;nofun;dsimp?[gc];have sz:xs.length<sizeLine:=by rw[sizeLine_eq];lia
   have fin:∀w t p1 H3,aA H2 H3->H2 p1=none->H3 p1=some (.tup [.int w,.int t])->(1<=w/\w<=200000)->0<=t->t<n->aA H (upd H3 p (.lst (xs++ [V.ref p1])))/\∃jE,upd H3 p (.lst (xs++ [V.ref p1])) p=some (.lst jE)/\jE.length=i+1/\(∀x∈jE,WT (upd H3 p (.lst (xs++ [V.ref p1]))) n x):=λw t p1 H3 s3 n3 e3 w0 t0 t1=>by
    refine⟨aX (sm.trans s3) np,_,ag,by simp [lx],λx hx=>?_⟩;have Oz:=s3 _ _ hp;rcases List.mem_append.mp hx with hx | hx
    ·exact((wx x hx).mono s3).put Oz
    ·rw[aav.mp hx];exact WT.put Oz ⟨p1,w,t,rfl,e3,w0,t0,t1⟩
   have go:∀w:Int,(1<=w/\w<=200000)->OX K "list" (V.ref p) H2/\IntMulOk 29 (0+ (i:Int))/\0<n/\∀t,0<=t->t<n->2<=sizeLine/\∀p1 H3,aA H2 H3->H2 p1=none->H3 p1=some (.tup [.int w,.int t])->dD (V.ref p) [V.ref p1] H3 λ_ H'=>aA H H'/\∃jE,H' p=some (.lst jE)/\jE.length=i+1/\(∀x∈jE,WT H' n x)/\∃x,some (V.int w)=x:=λw w0=>
    ⟨.inl ⟨rfl,_,aS.of hp⟩,df,⋯,λt t0 t1=>⟨∅,λp1 H3 s3 n3 e3=>⟨p,xs,_,rfl,rfl,s3 _ _ hp,sz,let ⟨a,jE,b,c,d⟩:=fin w t p1 H3 s3 n3 e3 w0 t0 t1;⟨a,jE,b,c,d,_,rfl⟩⟩⟩⟩
   refine⟨df,∅,λr r0 r1=>⟨∅,λr2 _ _=>ib (λ_=>⟨df,∅,λr3 YA YB=>?_⟩) (λ_=>?_)⟩⟩
   ·exact go _ ⟨⋯,⋯⟩
   ·exact go _ ⟨⋯,⋯⟩
  ·intro σ H1 dW;symm;obtain⟨sm,xs,z4,z5,hp,lx,wx,rfl⟩:=dW;nofun;dsimp?[gc,L7,tBM];have sz:xs.length<sizeLine:=by rw[sizeLine_eq];lia
   refine⟨∅,λw w0 w1=>⟨k0,λt t0 t1=>⟨∅,λp1 H2 s2 n2 e2=>?_⟩⟩⟩;have lU:=s2 _ _ hp;refine⟨.inl ⟨rfl,_,aS.of lU⟩,xs,lU,⋯,λr r0 r1=>⟨xs,lU,r0,⋯,sz,kk p _ _ (aX (sm.trans s2) np) ag (λx hx=>?_) ⟨_,Zk _ YT,WT.put lU ⟨p1,_,t,rfl,e2,⟨⋯,⋯⟩,t0,t1⟩⟩ (by rw[Y7,YZ];lia) (by simp;lia)⟩⟩;rcases List.mem_append.mp hx with hx | hx
   ·exact((wx x (List.mem_of_mem_take hx)).mono s2).put lU
   ·rcases ZT.mp hx with rfl | hx
    ·exact WT.put lU ⟨p1,_,t,rfl,e2,⟨⋯,⋯⟩,t0,⋯⟩
    ·exact((wx x (List.mem_of_mem_drop hx)).mono s2).put lU
theorem lP:aN ["_law_board_here","_law_found","_law_what"] ["_law_board_here"] (au (top 67)):=⟨rfl,rfl,rfl,∅,rfl,∅,∅⟩
theorem Kr (T:Txt K mg aD tc):bK P w K mg base (bF P w) 1 "_law_copy" ["_law_board_here"] lF:=by
 refine T.vU.eG (λ_ _ _ _ _ _=>jG λ_=>rfl) λf fd F=>F.eJ lP (λvs H Q E h=>?_) (λcP A outer s H vs Q E hr h=>?_)
 ·obtain⟨_,_,rfl,_⟩:=h;rfl
 ·symm;obtain⟨a,b,rfl,rb,bl,kk⟩:=h;nofun;have nd:=lP.nd;refine⟨_,(af (aE (i:=1) nd rfl (.inl rfl) (cY ae))
  (af (cm PassesOwn.never rfl (aZ (K:=K) (pv 0)) (aG (i:=2) nd rfl (.inl rfl)) (ax (bT (aR cF (aI aL (pv 2) ao (λ_ _=>rfl)) c9 (aT _)) (ax (dC (fj Zq ZK ZL cH.r (pv 1) (aa (pv 2) ae))))
   (ax (dC (fj Zq ZK ZL cH.r (pv 1) (aa (cy (aa (aI aL (pv 2) ao (λ_ _=>rfl)) (aa (aI aL (pv 2) ao (λ_ _=>rfl)) (aa (cG (bD (K:=K)) (by rfl) T.z_list rfl (aa (aI aL (pv 2) ao (λ_ _=>rfl)) ae)) ae)))) ae)))))))
  (ax (aP (pv 1))))),?_⟩
  refine(?_:let cn:TS:=_;let cu:TS:=_;let cv:TS:=_;tSeq cn (tSeq cu cv) _ _ _);intro cn cu cv;symm;obtain⟨_,xs,e,ha,rl⟩:=aM.mp rb;nofun;cases e;have lx:=rl.length;rw[YL] at lx;dsimp?[];refine⟨Y1 _,λp np=>?_⟩;have s0:=ar (o:=.lst []) np;refine⟨⟨_,aS.of (s0 _ _ ha)⟩,bJ (src_list (Ok:=aA H) (λH2 s2=>aS.of (s2 _ _ ha)))
   (λi σ H'=>aA H H'/\∃ys z2,H' p=some (.lst ys)/\a8 (c6 H' p) ((b.take i).map mZ) ys/\σ=[some (V.ref a),some (V.ref p),z2])
   ⟨s0,[],_,ag,by simp [a8],rfl⟩ (λ_ _ _ _ h=>h.1) ?_ ?_⟩
  ·intro i v σ H1 H2 hi dO d5;symm;obtain⟨sm,ys,z2,hp,ry,rfl⟩:=dO;obtain⟨rfl,ex⟩:=d5;obtain⟨q,eq,rq⟩:=di rl ex;nofun;have ly:=ry.length;rw[YL,Zf] at ly;have tk:b.take (i+1)=b.take i++ [q]:=by rw[Zc,eq];rfl
   have sz:ys.length<sizeLine:=by rw[sizeLine_eq];lia
   change tIfS _ _ _ _ [some (V.ref a),some (V.ref p),some v] H2;refine uJ (λN=>∀H3 v',aA H2 H3->Rep (c6 H3 p) (mZ q) v'->N [some (V.ref a),some (V.ref p),some v] (upd H3 p (.lst (ys++ [v'])))) (λH3 v' s3 r3=>by
    refine⟨aX (sm.trans s3) np,_,_,ag,?_,rfl⟩;rw[tk,Y5,Y8,ZE];exact pL (ry.mono (b9 s3)) r3) (λN fin=>?_)
   have rx:=rq.mono sm;cases q with
   | fin w=>
    symm;obtain⟨t',r,rfl,je,_⟩:=dM.mp rx;nofun;dsimp?[je,dD,tBM];exact⟨.inl ⟨rfl,_,aS.of hp⟩,_,hp,sz,fin H2 _ (aA.refl _) (rq.mono (fO sm np))⟩
   | d6 w ws=>
    symm;obtain⟨t',r,l,zs,rfl,Qn,Ek,LQ,rz⟩:=dE.mp rq;nofun;have je:=sm _ _ Qn;have vG:=sm _ _ LQ;dsimp?[je];rw[if_neg ∅];dsimp?[dD,tBM,je];refine⟨.inl ⟨rfl,_,aS.of hp⟩,_,.inl (aS.of vG),λm nm=>⟨∅,λu H4 s4 nu eu=>?_⟩⟩;have s3:=(ar (o:=.lst zs) nm).trans s4;have Nk:m≠p:=λz=>by rw[z,hp] at nm;cases nm
    have Nl:u≠p:=λz=>by rw[z,ar (o:=.lst zs) nm _ _ hp] at nu;cases nu
    have sh:=fO (sm.trans s3) np;exact⟨_,s3 _ _ hp,sz,fin H4 _ s3 (dE.mpr ⟨u,r,m,zs,rfl,by rw[bY Nl];exact eu,sh _ _ Ek,by rw[bY Nk];exact s4 _ _ ag,rz.mono sh⟩)⟩
   | cA w to=>
    symm;obtain⟨t',l,rfl,je,vG⟩:=cM.mp rx;nofun;dsimp?[je];rw[if_neg ∅];dsimp?[dD,tBM,je];refine⟨.inl ⟨rfl,_,aS.of hp⟩,_,.inl (aS.of vG),λm nm=>⟨∅,λu H4 s4 nu eu=>?_⟩⟩;have s3:=(ar (o:=.lst (List.map V.int to)) nm).trans s4;have Nk:m≠p:=λz=>by rw[z,hp] at nm;cases nm
    have Nl:u≠p:=λz=>by rw[z,ar (o:=.lst (List.map V.int to)) nm _ _ hp] at nu;cases nu
    exact⟨_,s3 _ _ hp,sz,fin H4 _ s3 (cM.mpr ⟨u,m,rfl,by rw[bY Nl];exact eu,by rw[bY Nk];exact s4 _ _ ag⟩)⟩
  ·intro σ H1 dW;symm;obtain⟨sm,ys,z2,hp,ry,rfl⟩:=dW;nofun;dsimp?[];refine kk p H1 sm np (aM.mpr ⟨p,ys,rfl,hp,?_⟩);have:=ry.mono b8;rw[Zg ⋯] at this;exact this
theorem jT:aN ["_law_script","_law_at","_law_n","_law_turned_here","_law_board_here","_law_k","_law_cell_here","_law_kind","_law_ways_here"] ["_law_script","_law_at","_law_n"] (au (top 65)):=⟨rfl,rfl,rfl,∅,rfl,∅,∅⟩
theorem Ks (T:Txt K mg aD tc):bK P w K mg base (bF P w) 3 "_law_board" ["_law_script","_law_at","_law_n"] (Hs K):=by
 have cU:bK P w K mg base (bF P w) 1 "_law_cell" ["_law_script","_law_k"] (GB K):=uI T;have aY:bK P w K mg base (bF P w) 1 "_law_mixed" ["_law_cell_here","_law_many"] gc:=qE T;have lQ:bK P w K mg base (bF P w) 2 "_law_share" ["_law_cell_here","_law_k"] DZ:=Ko T;have q9:bK P w K mg base (bF P w) 2 "_law_turned" ["_law_cell_here","_law_n"] DY:=Kp T;have uK:bK P w K mg base (bF P w) 2 "_law_throw" ["_law_cell_here","_law_k","_law_n"] D1:=Kq T;refine T.t8.eG (λ_ _ _ _ _ _=>nV λ_ _ _=>rfl) λf fd F=>F.eJ jT (λvs H Q E h=>?_) (λcP A outer s H vs Q E hr h=>?_)
 ·obtain⟨_,_,_,rfl,_⟩:=h;rfl
 ·symm;obtain⟨a,ns,n,rfl,hS,n0,n8,kk⟩:=h;nofun;clear G_;have nd:=jT.nd;refine⟨_,(af (aE (i:=3) nd rfl (.inr rfl) (aF q9 (hr.mono ∅) rfl aB.pass (aa (aF cU (hr.mono ∅) rfl aB.pass (aa (pv 0) (aa (pv 1) ae))) (aa (pv 2) ae))))
  (af (fA (i:=4) rfl nd rfl rfl (N:=["_law_script","_law_at","_law_n","_law_turned_here","_law_board_here","_law_k","_law_cell_here","_law_kind","_law_ways_here"]) (so:=au (top 65)) (N':=["_law_place"]) (k:=1) (fr:=[]) rfl rfl ⟨rfl,∅,∅,∅,rfl,∅,∅⟩ (aZ (K:=K) (pv 3)) (λ_ _ _ _ _=>(aG (i:=0) (show(["_law_place"]:List Str).Nodup by ac_rfl) rfl (.inl rfl))) (λ_ _ _ _ _=>bH)
   (λ_ _ _ _ _=>fG))
  (af (cm PassesOwn.never rfl (du rfl T.z_range (aa (pv 2) ae)) (aG (i:=5) nd rfl (.inr rfl)) (af (aE (i:=6) nd rfl (.inr rfl) (aF cU (hr.mono ∅) rfl aB.pass (aa (pv 0) (aa (aH bj (aH bj (pv 1) ao) (pv 5)) ae))))
  (af (aE (i:=7) nd rfl (.inl rfl) (aF aY (hr.mono ∅) rfl aB.pass (aa (aH bj (pv 6) ao) (aa ao ae))))
  (ax (bT (PW.pt (pw_or (aR cF (pv 5) ao (aT _)) (pw_or1 (aR cF (pv 7) ao (aT _))))) (ax (fc (cy (aa c9 (aa (aF lQ (hr.mono ∅) rfl aB.pass (aa (pv 6) (aa (pv 5) ae))) ae))) (fI (pv 4) (aI aJ (pv 3) (pv 5) (λ_ _=>rfl)) set_list)))
   (ax (bT (aR o5 (pv 7) ao (aT _)) (af (fA (i:=8) rfl nd rfl rfl (N:=["_law_script","_law_at","_law_n","_law_turned_here","_law_board_here","_law_k","_law_cell_here","_law_kind","_law_ways_here"]) (so:=au (top 65)) (N':=["_law_weight","_law_to","_law_turned_here"]) (k:=2) (fr:=[3]) rfl rfl ⟨rfl,∅,∅,∅,rfl,∅,∅⟩ (aZ (K:=K) (aF uK (hr.mono ∅) rfl aB.pass (aa (pv 6) (aa (pv 5) (aa (pv 2) ae))))) (λ_ _ _ _ _=>(bV (K:=K) (n:=2) rfl (aQ (aG (i:=0) (show(["_law_weight","_law_to","_law_turned_here"]:List Str).Nodup by ac_rfl) rfl (.inl rfl)) (aQ (aG (i:=1) (show(["_law_weight","_law_to","_law_turned_here"]:List Str).Nodup by ac_rfl) rfl (.inl rfl)) bU)))) (λ_ _ _ _ _=>bH)
   (λ_ _ _ _ _=>(cy (aa (pv 0) (aa (aI aJ (pv 2) (pv 1) (λ_ _=>rfl)) ae)))))
  (ax (fc (cy (aa c9 (aa (aF lQ (hr.mono ∅) rfl aB.pass (aa (pv 6) (aa (pv 5) ae))) (aa (pv 8) ae)))) (fI (pv 4) (aI aJ (pv 3) (pv 5) (λ_ _=>rfl)) set_list))))
   (af (fA (i:=8) rfl nd rfl rfl (N:=["_law_script","_law_at","_law_n","_law_turned_here","_law_board_here","_law_k","_law_cell_here","_law_kind","_law_ways_here"]) (so:=au (top 65)) (N':=["_law_j","_law_turned_here","_law_k","_law_cell_here"]) (k:=1) (fr:=[3,5,6]) rfl rfl ⟨rfl,∅,∅,∅,rfl,∅,∅⟩ (du rfl T.z_range (aa (aH bj ao (aF aY (hr.mono ∅) rfl aB.pass (aa (aH bj (pv 6) ao) (aa ao ae)))) ae)) (λ_ _ _ _ _=>(aG (i:=0) (show(["_law_j","_law_turned_here","_law_k","_law_cell_here"]:List Str).Nodup by ac_rfl) rfl (.inl rfl))) (λ_ _ _ _ _=>bH)
   (λ_ _ _ _ _=>(aI aJ (pv 1) (aF aY (hr.mono ∅) rfl aB.pass (aa (aH bj (pv 3) (aH aV ao (pv 0))) (aa (pv 2) ae))) (λ_ _=>rfl))))
  (ax (fc (cy (aa c9 (aa (aH bj ao (aF aY (hr.mono ∅) rfl aB.pass (aa (aH bj (pv 6) ao) (aa ao ae)))) (aa (pv 8) ae)))) (fI (pv 4) (aI aJ (pv 3) (pv 5) (λ_ _=>rfl)) set_list)))))))))))
  (ax (aP (pv 4)))))),?_⟩
  refine(?_:let cn:TS:=_;let cu:TS:=_;let cv:TS:=_;let dU:TS:=_;tSeq cn (tSeq cu (tSeq cv dU)) _ _ _);intro cn cu cv dU;dsimp?[GB,DY];refine⟨ns,hS,∅,∅,λc=>⟨⋯,⋯,λl H1 sg s1 nl hl pm=>⟨⟨_,aS.of hl⟩,?_⟩⟩⟩;rw[YS] at pm;have sl:sg.length=n:=by rw[pm.length_eq,Y6]
  subst sl;refine comp_map (src_list (Ok:=aA H1) (λH' s'=>aS.of (s' _ _ hl))) (λ_ _ _ _ h=>by rw[h.1];exact aA.refl _) (by rw[sizeLine_eq,YL];lia) (λi y H4=>y=.cJ) (λi y H4 H5 s5 h=>h) ?_ ?_
  ·rintro i x w0 H4 H5 Q2 hi s4 ⟨rfl,ex⟩ kq;dsimp?[];exact kq _ _ (aA.refl _) rfl
  intro ys H2 s2 ly hy m n1 n2;rw[YL] at ly;have s3:aA H1 (upd H2 m (.lst ys)):=s2.trans (ar n2);have nm:H m=none:=none_of (s1.trans s2) n2;have M6:(upd H2 m (.lst ys)) m=some (.lst ys):=ag;generalize upd H2 m (.lst ys)=H3 at *;refine⟨⋯,⋯,bJ (src_range (Ok:=λ_=>True)) (λi σ H'=>aA H1 H'/\∃xs z5 z6 z7 z8,H' m=some (.lst xs)/\xs.length=sg.length/\(∃qs:Nat->Pl,∀j k,j<i->sg[j]?=some k->Bq sg j (qs k)/\∃v,xs[k]?=some v/\Rep (c6 H' m) (mZ (qs k)) v)/\σ=[some (V.ref a),some (V.int 2),some (V.int (sg.length:Int)),some (V.ref l),some (V.ref m),z5,z6,z7,z8])
   ⟨s3,ys,_,_,_,_,M6,⋯,⟨λ_=>.fin (0,1),λj k hj=>absurd hj (ZF _)⟩,rfl⟩ (λ_ _ _ _ _=>trivial) ?_ ?_⟩
  ·intro i x σ H4 H5 hi dO d5;symm;obtain⟨s4,xs,z5,z6,z7,z8,hm,lx,⟨qs,gx⟩,rfl⟩:=dO;obtain⟨rfl,rfl⟩:=d5;nofun;have hi:i<sg.length:=by have:i< ((sg.length:Nat):Int).toNat:=hi;lia
   obtain⟨k,hk⟩:∃k,sg[i]?=some k:=⟨_,YM hi⟩
   have kn:k<sg.length:=List.mem_range.mp (pm.mem_iff.mp (YQ hk));have at_:∀t:Int,0<=t->t< (sg.length:Int)->∃k':Nat,k'<sg.length/\sg[t.toNat]?=some k'/\eV (List.map fX sg) t=some (V.int (k':Int)):=λt t0 t1=>by
    obtain⟨j,rfl⟩:=Y2 t0;obtain⟨k',HW⟩:∃k',sg[j]?=some k':=⟨_,YM ⋯⟩
    exact⟨k',List.mem_range.mp (pm.mem_iff.mp (YQ HW)),by rw[YS];exact HW,j1 (f:=fX) HW⟩
   have ak:eV (List.map fX sg) ((0:Int)+ (i:Int))=some (V.int (k:Int)):=by rw[ZR];exact j1 (f:=fX) hk
   have kx:yZ xs.length (k:Int)=some k:=by
    unfold yZ;rw[if_pos ⋯,if_pos ⋯];simp
   have Ak:=s4 _ _ hl;have fin:∀H6 v q,aA H5 H6->Rep (c6 H6 m) (mZ q) v->Bq sg i q->aA H1 (upd H6 m (.lst (xs.set k v)))/\∃jE,upd H6 m (.lst (xs.set k v)) m=some (.lst jE)/\jE.length=sg.length/\(∃qs:Nat->Pl,∀j k',j<i+1->sg[j]?=some k'->Bq sg j (qs k')/\∃v',jE[k']?=some v'/\Rep (c6 (upd H6 m (.lst (xs.set k v))) m) (mZ (qs k')) v'):=λH6 v q s6 r6 g6=>by
    have sh:aA (c6 H6 m) (c6 (upd H6 m (.lst (xs.set k v))) m):=fO tM (if_pos rfl);refine⟨aX (s4.trans s6) (none_of s2 n2),_,ag,by rw[Zh];exact lx,λk'=>if k'=k then q else qs k',λj k' hj HW=>?_⟩
    by_cases ck:k'=k
    ·subst ck;have ji:j=i:=Lv.CC pm HW hk;subst ji;dsimp only;rw[if_pos rfl];exact⟨g6,v,by rw[ZO ⋯],r6.mono sh⟩
    ·have:j<i:=by
      by_cases cj:j=i
      ·subst cj;rw[hk] at HW;cases HW;exact absurd rfl ck
      ·lia
     dsimp only;rw[if_neg ck];symm;obtain⟨g',v',e',r'⟩:=gx j k' this HW;nofun;exact⟨g',v',by rw[Zw (Ne.symm ck)];exact e',(r'.mono (b9 s6)).mono sh⟩
   have Kt:∀{H6:Hp} {p:Addr},aA H5 H6->H6 p=none->p≠m:=λs6 np z=>by rw[z,s6 _ _ hm] at np;cases np
   subst_vars;refine uJ (λN=>∀H6 v q,aA H5 H6->Rep (c6 H6 m) (mZ q) v->Bq sg i q->∀z6 z7 z8,N [some (V.ref a),some (V.int 2),some (V.int (sg.length:Int)),some (V.ref l),some (V.ref m),some (V.int (0+ (i:Int))),z6,z7,z8] (upd H6 m (.lst (xs.set k v)))) (λH6 v q s6 r6 g6 z6 z7 z8=>by
    symm;obtain⟨x1,x2,x3,x4,x5⟩:=fin H6 v q s6 r6 g6;nofun;exact⟨x1,x2,_,_,_,_,x3,x4,x5,rfl⟩) (λN hN=>?_)
   dsimp?[GB,gc,DZ,D1];refine⟨ns,(s1.trans s4).seq hS,⋯,⋯,λcc=>⟨∅,λkd YC YD=>?_⟩⟩;have uv:(0:Int)+ (i:Int)< (sg.length:Int):=⋯
   have fe:∀(p:Addr) (H':Hp) (a:Int×Int),aA H5 H'->H5 p=none->H' p=some (HO.tup [V.int a.fst,V.int a.snd])->GS a->∀(p1:Addr) (H6:Hp),aA H' H6->H' p1=none->H6 p1=some (HO.tup [V.str "end",V.ref p])->Rep (c6 H6 m) (mZ (.fin a)) (.ref p1):=λp H' a s' n' e' _ p1 H6 s6 n6 e6=>by
    refine dM.mpr ⟨p1,p,rfl,?_,?_⟩
    ·rw[bY (Kt s' n6)];exact e6
    ·rw[bY (Kt (aA.refl _) n')];exact s6 _ _ e'
   refine ib (λ_=>?_) (λc0=>ib (λ_=>?_) (λ_=>ib (λ_=>?_) (λ_=>?_)))
   ·refine⟨⋯,⋯,λp H6 w s6 n6 e6 g6=>⟨∅,λp1 H7 s7 n7 e7=>?_⟩⟩;have hx:=λz6 z7 z8=>hN H7 (.ref p1) (.fin w) (s6.trans s7) (fe p H6 w s6 n6 e6 g6 p1 H7 s7 n7 e7) ⟨g6,trivial⟩ z6 z7 z8;exact⟨_,(s6.trans s7) _ _ Ak,_,ak,_,_,rfl,(s6.trans s7) _ _ hm,k,kx,hx _ _ _⟩
   ·refine⟨⋯,⋯,λp H6 w s6 n6 e6 g6=>⟨∅,λp1 H7 s7 n7 e7=>?_⟩⟩;have hx:=λz6 z7 z8=>hN H7 (.ref p1) (.fin w) (s6.trans s7) (fe p H6 w s6 n6 e6 g6 p1 H7 s7 n7 e7) ⟨g6,trivial⟩ z6 z7 z8;exact⟨_,(s6.trans s7) _ _ Ak,_,ak,_,_,rfl,(s6.trans s7) _ _ hm,k,kx,hx _ _ _⟩
   ·refine⟨⋯,uv,λt H6 ts s6 e6 w6 sure l0 l6=>⟨⟨_,aS.of e6⟩,?_⟩⟩;have GH:=s6 _ _ Ak;symm;obtain⟨x0,WY,WZ⟩:=sure;nofun;obtain⟨i0,S9⟩:=Ze WY;refine gH (K:=K) (src_list (Ok:=aA H6) (λH' s'=>aS.of (s' _ _ e6))) (λj a b H3=>∃w t,a=.int w/\b=.int t/\(1<=w/\w<=200000)/\0<=t/\t< (sg.length:Int)/\(j=i0->t< (i:Int))) (λj x H7 H8 hj s7 ⟨e,ex⟩=>?_) (by rw[sizeLine_eq];lia) (λj y H7=>∃q:Int×Int,Rep H7 (a9 q) y/\(1<=q.1/\q.1<=200000/\0<=q.2/\q.2< (sg.length:Int))/\(j=i0->∃j',j'<i/\sg[j']?=some q.2.toNat)) (λj y H7 H8 s8 ⟨q,r,z⟩=>⟨q,r.mono s8,z⟩) ?_ ?_
    ·subst e;symm;obtain⟨q,w,t',rfl,hq,w0,t0,t1⟩:=w6 x (YQ ex);nofun;refine⟨aA.refl _,q,_,_,rfl,fV.of (s7 _ _ hq),w,t',rfl,rfl,w0,t0,t1,λz=>?_⟩;subst z;rw[S9] at ex;cases ex;symm;obtain⟨q2,w2,t2,e2,zf,_,_,YE⟩:=WZ;nofun;cases e2;rw[hq] at zf;cases zf;lia
    ·intro j a b H7 Q7 hj s7 d5 kq;symm;obtain⟨w,t',rfl,rfl,w0,t0,t1,t2⟩:=d5;obtain⟨k',YF,zq,KU⟩:=at_ t' t0 t1;nofun;dsimp?[s7 _ _ GH,KU];exact⟨∅,λq H8 s8 n8 e8=>kq _ _ s8 ⟨(w,(k':Int)),bQ.mpr ⟨q,rfl,e8⟩,⟨w0.1,w0.2,by show(0:Int)<=(k':Int);lia,by show(k':Int)< (sg.length:Int);lia⟩,λz=>⟨t'.toNat,by have:=t2 z;lia,zq⟩⟩⟩
    ·intro us H7 s7 lu hu D n8 n9;symm;obtain⟨ws,l7,lw,Ta⟩:=GC (f:=a9) (P:=λj (q:Int×Int)=>(1<=q.1/\q.1<=200000/\0<=q.2/\q.2< (sg.length:Int))/\(j=i0->∃j',j'<i/\sg[j']?=some q.2.toNat)) (H:=H7) (xs:=us) λj x ex=>hu j x ex;nofun;refine⟨⋯,⋯,λp H9 w s9 Oy e9 g9=>⟨∅,λp1 GU Jl Nj W3=>?_⟩⟩;have Tb:=s6.trans (s7.trans ((ar (o:=.lst us) n9).trans s9));have Ku:=Tb.trans Jl;have mD:D≠m:=Kt (s6.trans s7) n9;have mp:p≠m:=Kt (s6.trans (s7.trans (ar (o:=.lst us) n9))) Oy;have QH:p1≠m:=Kt Tb Nj;have rm:a8 (c6 GU m) (ws.map a9) us:=by
      refine dQ lw.symm λj y ey q eq=>?_;symm;obtain⟨d,ed,rd⟩:=l7.get ey;nofun;rw[YO,eq] at ed;cases ed;symm;obtain⟨tt,rfl,Nn⟩:=bQ.mp rd;nofun;refine bQ.mpr ⟨tt,rfl,?_⟩;have h1:=(s6.trans s7) _ _ hm;rw[bY (λz=>by rw[z,h1] at Nn;cases Nn)];exact Jl _ _ (s9 _ _ (ar n9 _ _ Nn))
     have li:i0<ws.length:=by have:=(aat.mp S9).1;lia
     have ld:Bq sg i (.d6 w ws):=by
      refine⟨⟨g9,⋯,⋯,λx hx=>?_⟩,ws[i0],YV li,(Ta i0 _ (YM li)).2 rfl⟩;obtain⟨j,ej⟩:=Ze hx;exact(Ta j x ej).1
     have hx:=λz6 z7 z8=>hN GU (.ref p1) (.d6 w ws) Ku (dE.mpr ⟨p1,p,D,us,rfl,by rw[bY QH];exact W3,by rw[bY mp];exact Jl _ _ e9,by rw[bY mD];exact Jl _ _ (s9 _ _ ag),rm⟩) ld z6 z7 z8;exact⟨_,Ku _ _ Ak,_,ak,_,_,rfl,Ku _ _ hm,k,kx,hx _ _ _⟩
   ·refine⟨∅,λr r0 r1=>⟨⋯,⋯,?_⟩⟩;refine comp_map src_range (λ_ _ _ _ h=>by rw[h.1];exact aA.refl _) (by rw[sizeLine_eq];lia) (λj y H4=>∃t,y=.int t/\0<=t/\t< (sg.length:Int)/\∃j',j'<i/\sg[j']?=some t.toNat) (λi y H4 H5 s5 h=>h) ?_ ?_
    ·rintro j x w0 H6 H7 Q7 hj s6 ⟨rfl,rfl⟩ kq;dsimp?[gc,s6 _ _ Ak];refine⟨df,⋯,λt t0 t1=>?_⟩;symm;obtain⟨k',k1,zq,KU⟩:=at_ t t0 ⋯;nofun;exact⟨_,KU,kq _ _ (aA.refl _) ⟨_,rfl,⋯,⋯,t.toNat,⋯,by rw[YS];exact zq⟩⟩
    ·intro us H6 s6 lu hu D n8 n9;obtain⟨to,rfl⟩:∃to:List Int,us=to.map V.int:=by
      refine⟨us.map λv=>match v with | .int t=>t | _=>0,?_⟩;rw[ZA];apply Zy;intro j;rw[YO];cases ej:us[j]? with
      | none=>rfl
      | some y=>
       symm;obtain⟨t,rfl,_⟩:=hu j y ej;nofun;rfl
     refine⟨∅,λr' YG YH=>⟨∅,λp1 H7 s7 Oy e7=>?_⟩⟩;have QI:=s6.trans ((ar (o:=.lst (List.map V.int to)) n9).trans s7);have mD:D≠m:=Kt s6 n9;have QH:p1≠m:=Kt (s6.trans (ar (o:=.lst (List.map V.int to)) n9)) Oy;rw[YL] at lu;have gt:∀g∈to,0<=g/\g< (sg.length:Int)/\∃j',j'<i/\sg[j']?=some g.toNat:=λg hg=>by
      obtain⟨j,ej⟩:=Ze hg;obtain⟨t,e,t0,t1,t2⟩:=hu j (.int g) (by rw[YO,ej];rfl);cases e;exact⟨t0,t1,t2⟩
     have hx:=λz6 z7 z8=>hN H7 (.ref p1) (.cA (1+r') to) QI (cM.mpr ⟨p1,D,rfl,by rw[bY QH];exact e7,by rw[bY mD];exact s7 _ _ ag⟩) ⟨⟨⋯,⋯,⋯,λg hg=>⟨(gt g hg).1,(gt g hg).2.1⟩⟩,λg hg=>(gt g hg).2.2⟩ z6 z7 z8;exact⟨_,QI _ _ Ak,_,ak,_,_,rfl,QI _ _ hm,k,kx,hx _ _ _⟩
  ·intro σ H4 dW;symm;obtain⟨s4,xs,z5,z6,z7,z8,hm,lx,⟨qs,gx⟩,rfl⟩:=dW;nofun;dsimp?[];have qH:∀x∈sg,x<sg.length:=λx hx=>List.mem_range.mp (pm.mem_iff.mp hx);have lq:((List.range sg.length).map qs).length=sg.length:=by rw[YL,Y6]
   refine kk m H4 ((List.range sg.length).map qs) _ (s1.trans s4) nm (aM.mpr ⟨m,xs,rfl,hm,dQ (by rw[lq];exact lx) λp y ey q eq=>?_⟩) lq (Mr pm n0 n8 lq λk p q ek eq=>?_)
   ·have hp:p<sg.length:=by have:=(aat.mp ey).1;lia
    rw[YO,Zu hp] at eq;cases eq;obtain⟨j,ej⟩:=Ze (pm.mem_iff.mpr (List.mem_range.mpr hp));obtain⟨_,v,ev,rv⟩:=gx j p (by have:=(aat.mp ej).1;simpa using this) ej;rw[ey] at ev;cases ev;exact rv.mono b8
   ·have hp:=qH p (YQ ek);rw[YO,Zu hp] at eq;cases eq;exact(gx k p (by have:=(aat.mp ek).1;simpa using this) ek).1
theorem jU:aN ["_law_board_here","_law_cell_here","_law_picks_here","_law_place"] ["_law_board_here","_law_cell_here"] (au (top 66)):=⟨rfl,rfl,rfl,∅,rfl,∅,∅⟩
theorem Kv (T:Txt K mg aD tc):bK P w K mg base (bF P w) 2 "_law_picks" ["_law_board_here","_law_cell_here"] D2:=by
 have aY:bK P w K mg base (bF P w) 1 "_law_mixed" ["_law_cell_here","_law_many"] gc:=qE T;refine T.ua.eG (λ_ _ _ _ _ _=>eO λ_ _=>rfl) λf fd F=>F.eJ jU (λvs H Q E h=>?_) (λcP A outer s H vs Q E hr h=>?_)
 ·obtain⟨_,_,_,rfl,_⟩:=h;rfl
 ·symm;obtain⟨a,b,c,rfl,rb,K8,Ht,kk⟩:=h;nofun;clear G_;have nd:=jU.nd;refine⟨_,(af (aE (i:=2) nd rfl (.inl rfl) (cY ae))
  (af (cm PassesOwn.never rfl (du rfl T.z_range (aa (aU bu (by rfl) T.z_len Y9 (aa (pv 0) ae)) ae)) (aG (i:=3) nd rfl (.inl rfl)) (ax (bT (aR cF (aI aL (aI aJ (pv 0) (pv 3) (λ_ _=>rfl)) ao (λ_ _=>rfl)) c9 (aT _)) (ax (dC (fj Zq ZK ZL cH.r (pv 2) (aa (aF aY (hr.mono ∅) rfl aB.pass (aa (aH bj (pv 1) (aH aV ao (pv 3))) (aa (aU bu (by rfl) T.z_len Y9 (aa (aI aL (aI aJ (pv 0) (pv 3) (λ_ _=>rfl)) ao (λ_ _=>rfl)) ae)) ae))) ae))))
   (ax (dC (fj Zq ZK ZL cH.r (pv 2) (aa fG ae)))))))
  (ax (aP (pv 2))))),?_⟩
  refine(?_:let cn:TS:=_;let cu:TS:=_;let cv:TS:=_;tSeq cn (tSeq cu cv) _ _ _);intro cn cu cv;have sl:=sizeLine_eq;symm;obtain⟨_,xb,e,ha,rl⟩:=aM.mp rb;nofun;clear G_;cases e;have lx:=rl.length;rw[YL] at lx;dsimp?[];refine⟨Y1 _,λp np=>?_⟩;have s0:=ar (o:=.lst []) np;refine⟨_,s0 _ _ ha,⋯,⋯,bJ (src_range (Ok:=λ_=>True)) (λi σ H'=>aA H H'/\∃(ks:List (Option Int)) (z:Option V),H' p=some (.lst (ks.map dk))/\ks.length=i/\(∀(j:Nat) q k,b[j]?=some q->ks[j]?=some k->Hn q k)/\σ=[~~~a,some (.int c),~~~p,z]) ⟨s0,[],_,ag,rfl,λj q k _ e=>by simp at e,rfl⟩ (λ_ _ _ _ _=>trivial) ?_ ?_⟩
  ·intro i x σ H4 H5 hi dO d5;symm;obtain⟨s4,ks,z,BC,lk,QJ,rfl⟩:=dO;obtain⟨rfl,rfl⟩:=d5;have uv:i<b.length:=by have:i< ((xb.length:Nat):Int).toNat:=hi;lia
   have eb:b[i]?=some b[i]:=YM uv;obtain⟨v,ev,rv⟩:=eK rl eb;nofun;clear G_;have pq:=Ht _ (YV uv);have z0:(0:Int)+ (i:Int)=(i:Int):=ZR _;change tIfS _ _ _ _ [~~~a,some (.int c),~~~p,some (.int (0+ (i:Int)))] H5;rw[z0];refine uJ (λN=>∀r:Option Int,Hn b[i] r->N [~~~a,some (.int c),~~~p,some (.int (i:Int))] (upd H5 p (.lst (ks.map dk++ [dk r])))) (λr po=>by
    refine⟨aX s4 np,ks++ [r],_,by rw[ag,Y5];rfl,by rw[Y7,lk];rfl,λj q k e1 e2=>?_,rfl⟩
    by_cases c:j<ks.length
    ·rw[Zm c] at e2;exact QJ j q k e1 e2
    ·rw[Zn ⋯] at e2;have:j - ks.length<1:=(aat.mp e2).1;rw[show j - ks.length=0 by lia] at e2;cases e2;rw[show j=i by lia,eb] at e1;cases e1;exact po) (λN fin=>?_)
   have lp:(ks.map dk).length<sizeLine:=by rw[YL];lia
   generalize hq:b[i]=q at *
   by_cases cq:∃w to,q=.cA w to
   ·symm;obtain⟨bB,to,rfl⟩:=cq;obtain⟨t,l',rfl,ht,vG⟩:=cM.mp rv;nofun;dsimp?[ZR,s4 _ _ ha,show eV xb (i:Int)=some (.ref t) from bA ev,s4 _ _ ht,gc,dD,tBM];have lt:=pq.2.1;refine⟨.inl ⟨rfl,_,aS.of BC⟩,df,_,s4 _ _ vG,by rw[YL];lia,λr r0 r1=>?_⟩;rw[YL] at r1;exact⟨_,BC,lp,fin (some r) ⟨r0,r1⟩⟩
   ·symm;obtain⟨t,x',Hc,rfl,ht,ne⟩:=yq rv λw to e=>cq ⟨w,to,e⟩;nofun;dsimp?[s4 _ _ ha,show eV xb (i:Int)=some (.ref t) from bA ev,s4 _ _ ht,dD,tBM];rw[if_neg ne];exact⟨.inl ⟨rfl,_,aS.of BC⟩,_,BC,lp,fin none (by cases q with | fin g=>trivial | d6 g ws=>trivial | cA w to=>exact absurd ⟨w,to,rfl⟩ cq)⟩
  ·intro σ H4 dW;symm;obtain⟨s4,ks,z,BC,lk,QJ,rfl⟩:=dW;nofun;dsimp?[];refine kk p H4 ks s4 np BC ⟨?_,QJ⟩;rw[YS] at lk;lia
theorem xg:aN ["one","other"] ["one","other"] (au (top 8)):=⟨rfl,rfl,rfl,∅,rfl,∅,∅⟩
theorem Kw (T:Txt K mg aD tc):bK P w K mg base (bF P w) 3 "minus" ["one","other"] Ee:=by
 have uF:bK P w K mg base (bF P w) 2 "share" ["top","bottom"] DJ:=HG T;refine T.F6.eG (λ_ _ _ _ _ _=>eO λ_ _=>rfl) λf fd F=>F.eJ xg (λvs H Q E h=>?_) (λcP A outer s H vs Q E hr h=>?_)
 ·obtain⟨_,_,_,_,rfl,_⟩:=h;rfl
 ·symm;obtain⟨p,q,a,b,rfl,hp,hq,a1,a2,a0,b1,b2,b0,k⟩:=h;nofun;have nd:=xg.nd;refine⟨_,(ax (aP (aF uF (hr.mono ∅) rfl aB.pass (aa (aH jW (aH aV (aI aL (pv 0) ao (λ_ _=>rfl)) (aI aL (pv 1) ao (λ_ _=>rfl))) (aH aV (aI aL (pv 1) ao (λ_ _=>rfl)) (aI aL (pv 0) ao (λ_ _=>rfl)))) (aa (aH aV (aI aL (pv 0) ao (λ_ _=>rfl)) (aI aL (pv 1) ao (λ_ _=>rfl))) ae))))),?_⟩;simp only[Pr] at hp hq;dsimp?[DJ,hp,hq];exact⟨a1.dH b2,b1.dH a2,a2.dH b2,(a2.mul b2).mono ∅,Zd a0 b0,λr H' s' n' e=>k r H' s' n' e⟩
theorem Ar:aN ["place","top","gain","tops","leads"] ["place","top","gain","tops"] (au (top 46)):=⟨rfl,rfl,rfl,∅,rfl,∅,∅⟩
theorem Np (T:Txt K mg aD tc):bK P w K mg base (bF P w) 2 "fits" ["place","top","gain","tops"] Ef:=by
 have cL:bK P w K mg base (bF P w) 1 "total_weight" ["ways"] lA:=An T;refine T.Jv.eG (λ_ _ _ _ _ _=>Gd λ_ _ _ _=>rfl) λf fd F=>F.eJ Ar (λvs H Q E h=>?_) (λcP A outer s H vs Q E hr h=>?_)
 ·obtain⟨_,_,_,_,_,_,_,rfl,_⟩:=h;rfl
 ·symm;obtain⟨a,q,t,g,l,ts,n,rfl,rq,hl,gq,nt,bt,bg,Nq,ft,kk⟩:=h;nofun;have nd:=Ar.nd;refine⟨_,(af (bT (aR cF (aI aL (pv 0) ao (λ_ _=>rfl)) c9 (aT _)) (ax (aP (fZ cF (pv 1) (pv 2) (aT _))))
   bo)
  (af (bT (aR cF (aI aL (pv 0) ao (λ_ _=>rfl)) c9 (aT _)) (ax (aP (fZ cF (aH aV (aH jW (pv 1) (pv 2)) (aF cL (hr.mono ∅) rfl aB.pass (aa (aI aL (pv 0) ao (λ_ _=>rfl)) ae))) (aU (iW (K:=K)) (by rfl) T.z_sum rfl (aa (bS rfl (N:=["place","top","gain","tops","leads"]) (so:=au (top 46)) (N':=["weight","to","tops"]) (k:=2) (fr:=[3]) rfl rfl ⟨rfl,∅,∅,∅,rfl,∅,∅⟩ (aZ (K:=K) (aI aL (pv 0) ao (λ_ _=>rfl))) (λ_ _ _ _ _=>(bV (K:=K) (n:=2) rfl (aQ (aG (i:=0) (show(["weight","to","tops"]:List Str).Nodup by ac_rfl) rfl (.inl rfl)) (aQ (aG (i:=1) (show(["weight","to","tops"]:List Str).Nodup by ac_rfl) rfl (.inl rfl)) bU)))) (λ_ _ _ _ _=>bH)
   (λ_ _ _ _ _=>(aH aV (pv 0) (aI aJ (pv 2) (pv 1) (λ_ _=>rfl))))) ae (se rfl))) (aT _))))
   bo)
  (af (fA (i:=4) rfl nd rfl rfl (N:=["place","top","gain","tops","leads"]) (so:=au (top 46)) (N':=["to","tops"]) (k:=1) (fr:=[3]) rfl rfl ⟨rfl,∅,∅,∅,rfl,∅,∅⟩ (aZ (K:=K) (aI aL (pv 0) ao (λ_ _=>rfl))) (λ_ _ _ _ _=>(aG (i:=0) (show(["to","tops"]:List Str).Nodup by ac_rfl) rfl (.inl rfl))) (λ_ _ _ _ _=>bH)
   (λ_ _ _ _ _=>(aI aJ (pv 1) (pv 0) (λ_ _=>rfl))))
  (ax (aP (fZ cF (pv 1) (fH (aR cF (aI aL (pv 0) ao (λ_ _=>rfl)) ao (aT _)) (aU (m4 (K:=K)) (by rfl) T.z_max rfl (aa (pv 4) ae)) (aU (vy (K:=K)) (by rfl) T.z_min rfl (aa (pv 4) ae))) (aT _))))))),?_⟩
  refine(?_:let cn:TS:=_;let cu:TS:=_;let cv:TS:=_;let dU:TS:=_;tSeq cn (tSeq cu (tSeq cv dU)) _ _ _);intro cn cu cv dU;cases q with
  | fin w=>
   symm;obtain⟨t',r,e,je,Ek⟩:=dM.mp rq;nofun;cases e;subst_vars;refine ba (λ_=>True) trivial (λN _=>?_);refine yp (λY N k=>by dsimp?[je];exact k) ?_;dsimp?[je];rw[decide_eq_true (show t=g from ft)];exact kk _ (aA.refl _)
  | d6 w ws=>
   symm;obtain⟨t',r,m,zs,e,je,Ek,hm,rz⟩:=dE.mp rq;nofun;cases e;subst_vars;refine ba (λN=>N [~~~t',some (.int t),some (.int g),~~~l,none] H) ?_ (λN hN=>by refine zB (λY N k=>by dsimp?[je];rw[if_neg ∅];exact k) ?_;exact hN);subst_vars;refine ba (λ_=>True) trivial (λN _=>?_);refine yp (λY N k=>by dsimp?[je];exact k) ?_;dsimp?[je,lA];symm;obtain⟨gw,l0,Ez⟩:=gq;have w5:=Ez.1;obtain⟨t1,t9⟩:=Ez.tt;nofun;refine⟨ws,aM.mpr ⟨m,zs,rfl,hm,rz⟩,w5,λH1 s1=>⟨Bt.dH (n:=20) (bt.sub bg) (Bt.of 1000000 ⋯ ⋯),_,s1 _ _ je,_,rfl,_,rfl,⟨_,aS.of (s1 _ _ hm)⟩,?_⟩⟩;have lx:=rz.length;rw[YL] at lx;have S:Src (uO K m) (aA H1) ws.length (λi x H H3=>H3=H/\zs[i]?=some x):=by rw[lx];exact src_list (λH' s'=>aS.of (s' _ _ (s1 _ _ hm)))
   refine ij ws (λp=>some (p.1*ts.getD p.2.toNat 0)) S (λ_ _ _ _ h=>h.1) (by rw[sizeLine_eq];lia) ?_ ?_
   ·rintro i p x ep ⟨_,ex⟩;symm;obtain⟨tt,et,Nn⟩:=cN rz ep;nofun;rw[ex] at et;cases et;symm;obtain⟨g1,g2,g3,g4⟩:=Ez.2 p (YQ ep);nofun;have g4:p.2< (ts.length:Nat):=⋯
    refine⟨tt,_,_,rfl,fV.of (s1 _ _ Nn),λY N y1 _=>?_⟩;dsimp?[gm,s1 _ _ hl,yP g3 g4];exact⟨Bt.dH (m:=20) (Bt.of 200000 ⋯ ⋯) (Nq _ (getD_in g3 g4)),y1 _ rfl⟩
   ·intro D n1 n2;rw[dX];refine⟨_,aS.of ag,?_⟩;rw[decide_eq_true (show(t - g)*Dg.tt ws=(ws.map λp=>p.1*ts.getD p.2.toNat 0).sum from ft)];exact kk _ (s1.trans (ar n2))
  | cA bB to=>
   symm;obtain⟨t',m,e,je,hm⟩:=cM.mp rq;nofun;cases e;subst_vars;refine ba (λN=>N [~~~t',some (.int t),some (.int g),~~~l,none] H) ?_ (λN hN=>by refine zB (λY N k=>by dsimp?[je];rw[if_neg ∅];exact k) ?_;exact hN);subst_vars;refine ba (λN=>N [~~~t',some (.int t),some (.int g),~~~l,none] H) ?_ (λN hN=>by refine zB (λY N k=>by dsimp?[je];rw[if_neg ∅];exact k) ?_;exact hN);dsimp?[je];symm;obtain⟨hw,l0,l5,gs⟩:=gq;nofun;refine⟨⟨_,aS.of hm⟩,?_⟩;have S:Src (uO K m) (aA H) to.length (λi x H H3=>H3=H/\(to.map V.int)[i]?=some x):=by
    have:=src_list (K:=K) (a:=m) (xs:=to.map V.int) (Ok:=aA H) (λH' s'=>aS.of (s' _ _ hm));rw[YL] at this;exact this
   refine dz to (λx=>some (ts.getD x.toNat 0)) S (λ_ _ _ _ h=>h.1) (by rw[sizeLine_eq];lia) ?_ ?_
   ·rintro i x v ep ⟨_,ex⟩ Y N y1 _;rw[YO,ep] at ex;cases ex;have gp:=gs x (YQ ep);dsimp?[gm,hl,yP gp.1 (show x< (ts.length:Nat) by lia)];exact y1 _ rfl
   ·intro D n1 n2;rw[dX];symm;obtain⟨⟨x0,m0,e0⟩,up⟩:=ft;nofun;have k1:=kk _ (ar (o:=.lst (List.map V.int (to.map λx=>ts.getD x.toNat 0))) n2);have mt:t∈to.map λx=>ts.getD x.toNat 0:=aau.mpr ⟨x0,m0,e0⟩;refine⟨_,ar n2 _ _ je,_,rfl,rfl,?_⟩;rcases hw with rfl | rfl
    ·rw[if_pos rfl];refine⟨_,aS.of ag,by rw[YL];exact l0,λM hM hx=>?_⟩;symm;obtain⟨y,my,rfl⟩:=aau.mp hM;nofun;have u:=up y my;rw[if_pos rfl] at u;rw[decide_eq_true (Int.le_antisymm (hx t mt) u)];exact k1
    ·rw[if_neg (by simp)];refine⟨_,aS.of ag,by rw[YL];exact l0,λM hM hx=>?_⟩;symm;obtain⟨y,my,rfl⟩:=aau.mp hM;nofun;have u:=up y my;rw[if_neg ∅] at u;rw[decide_eq_true (Int.le_antisymm u (hx t mt))];exact k1
theorem qF:aN ["board","worths","tops","gains"] ["board","worths"] (au (top 47)):=⟨rfl,rfl,rfl,∅,rfl,∅,∅⟩
theorem Nr (T:Txt K mg aD tc):bK P w K mg base (bF P w) 4 "misfits" ["board","worths"] Eg:=by
 have mS:bK P w K mg base (bF P w) 3 "book_of" ["several"] (DM aD):=HJ T;have mR:bK P w K mg base (bF P w) 1 "gain_of" ["place"] Bl:=HI T;have Kx:bK P w K mg base (bF P w) 2 "fits" ["place","top","gain","tops"] Ef:=Np T;refine T.Bb.eG (λ_ _ _ _ _ _=>eO λ_ _=>rfl) λf fd F=>F.eJ qF (λvs H Q E h=>?_) (λcP A outer s H vs Q E hr h=>?_)
 ·obtain⟨_,_,_,_,_,rfl,_⟩:=h;rfl
 ·symm;obtain⟨a,c,b,rk,S,rfl,rb,rw_,B,z,dS,bq,kk⟩:=h;nofun;clear G_;have nd:=qF.nd;refine⟨_,(af (aE (i:=2) nd rfl (.inr rfl) (dN (aF mS (hr.mono ∅) rfl aB.pass (aa (aH tE (pv 1) (bS rfl (N:=["board","worths","tops","gains"]) (so:=au (top 47)) (N':=["place"]) (k:=1) (fr:=[]) rfl rfl ⟨rfl,∅,∅,∅,rfl,∅,∅⟩ (aZ (K:=K) (pv 0)) (λ_ _ _ _ _=>(aG (i:=0) (show(["place"]:List Str).Nodup by ac_rfl) rfl (.inl rfl))) (λ_ _ _ _ _=>bH)
   (λ_ _ _ _ _=>(aF mR (hr.mono ∅) rfl aB.pass (aa (pv 0) ae))))) ae (se rfl))) rfl))
  (af (aE (i:=3) nd rfl (.inr rfl) (gD (gK (K:=K)) (pv 2) (hV (aU bu (by rfl) T.z_len Y9 (aa (pv 1) ae))) kP))
  (ax (aP (bS rfl (N:=["board","worths","tops","gains"]) (so:=au (top 47)) (N':=["number","place","tops","gains"]) (k:=2) (fr:=[2,3]) rfl rfl ⟨rfl,∅,∅,∅,rfl,∅,∅⟩ (cV (K:=K) rfl T.z_enumerate (aa (pv 0) ae)) (λ_ _ _ _ _=>(bV (K:=K) (n:=2) rfl (aQ (aG (i:=0) (show(["number","place","tops","gains"]:List Str).Nodup by ac_rfl) rfl (.inl rfl)) (aQ (aG (i:=1) (show(["number","place","tops","gains"]:List Str).Nodup by ac_rfl) rfl (.inl rfl)) bU)))) (λ_ _ _ _ _=>(kW (BL (sU (aF Kx (hr.mono ∅) rfl aB.pass (aa (pv 1) (aa (aI aJ (pv 2) (pv 0) (λ_ _=>rfl)) (aa (aI aJ (pv 3) (pv 0) (λ_ _=>rfl)) (aa (pv 2) ae)))))))))
   (λ_ _ _ _ _=>(pv 0))))))),?_⟩
  refine(?_:let cn:TS:=_;let cu:TS:=_;let cv:TS:=_;tSeq cn (tSeq cu cv) _ _ _);intro cn cu cv;symm;obtain⟨_,xs,e,ha,rl⟩:=aM.mp rb;nofun;clear G_;cases e;symm;obtain⟨_,ys,e,hc,rc⟩:=aM.mp rw_;nofun;clear G_;cases e;have lx:=rl.length;rw[YL] at lx;have ly:=rc.length;rw[YL] at ly;have lS:(cD S).length=b.length:=by unfold cD;rw[YL,z.len]
  have K8:=B.len;dsimp?[iR,Fw,ha,hc,Bl,DM];refine⟨⟨_,aS.of ha⟩,?_⟩;refine comp_map (src_list (Ok:=aA H) (λH' s'=>aS.of (s' _ _ ha))) (λ_ _ _ _ h=>by rw[h.1];exact aA.refl _) (by rw[sizeLine_eq];lia) (λi y H4=>∃q,b[i]?=some q/\Rep H4 (a9 (Wq.bI q)) y) (λi y H4 H5 s5 ⟨q,e,r⟩=>⟨q,e,r.mono s5⟩) ?_ ?_
  ·rintro i x w0 H4 H5 Q2 hi s4 ⟨rfl,ex⟩ kq;symm;obtain⟨q,eq,rq⟩:=di rl ex;nofun;dsimp?[Bl];exact⟨q,rq.mono s4,λr H6 s6 Qk=>kq _ _ s6 ⟨q,eq,bQ.mpr ⟨r,rfl,Qk⟩⟩⟩
  intro us H2 s2 lu hu D n1 n2;have s3:=s2.trans (ar (o:=.lst us) n2);have hD:upd H2 D (.lst us) D=some (.lst us):=ag;have ru:a8 (upd H2 D (.lst us)) ((b.map Wq.bI).map a9) us:=by
   refine dQ (by rw[YL];lia) λi y ey g eg=>?_;symm;obtain⟨q',e',r'⟩:=hu i y ey;nofun;rw[YO,e'] at eg;cases eg;exact r'.mono (ar n2)
  have W4:=s3 _ _ hc;have W5:=rc.mono s3;generalize upd H2 D (.lst us)=H3 at *;refine⟨_,W4,_,hD,by rw[sizeLine_eq];lia,λp np=>?_⟩;have sp:=ar (o:=.lst (ys++us)) np;have Z0:=z.pos;have bZ:Bt 2000 S.2:=z.bb.mono ∅;have gg:∀x∈cD S++b.map Wq.bI,Wq.Lw x/\x.2∣S.2/\Bt 4000 x.1:=λx hx=>by
   rcases List.mem_append.mp hx with hx | hx
   ·have h:=lH z x hx;exact⟨h.1,h.2.1,(h.rm Z0 (z.bb.mono ∅) (Int.pow_nonneg ∅) (by unfold Bt;ac_rfl)).1⟩
   ·symm;obtain⟨q,hq,rfl⟩:=aau.mp hx;nofun;have g1:=lD (B.ok q hq);exact⟨g1.2.2,Int.dvd_trans (B.bot.2.2 q hq) dS,g1.1.mono ∅⟩
  refine⟨cD S++b.map Wq.bI,aM.mpr ⟨p,_,rfl,ag,?_⟩,by rw[Y7,YL];lia,S.2,λx hx=>⟨(gg x hx).1.1,(gg x hx).2⟩,Z0,bZ,λx H4 s4 ⟨dx,m,hx,hm⟩=>?_⟩
  ·rw[Y5];exact(W5.append ru).mono sp
  symm;obtain⟨l1,l2,l3,l4⟩:=Wq.kX (xs:=cD S++b.map Wq.bI) (c:=1) ∅ λx hx=>(gg x hx).1.1;nofun;clear G_;have lz:=l4 (Z:=S.2) ⟨S.2,⋯⟩ λx hx=>(gg x hx).2.1;have bL:Bt 2000 (Wq.fB 1 (cD S++b.map Wq.bI)):=bZ.le (by have:=ZQ Z0 lz;lia);have Nq:∀x∈cD S++b.map Wq.bI,Bt 7000 (Wq.sc (Wq.fB 1 (cD S++b.map Wq.bI)) x):=λx hx=>by
   have:=(gg x hx).2.2.mul (bL.le (Nm.fL (gg x hx).1.1 (l3 x hx)));exact Bt.mono this ∅
  have sH:aA H H4:=s3.trans (sp.trans s4);dsimp only at hx hm;generalize Wq.fB 1 (cD S++b.map Wq.bI)=L at *;refine⟨_,_,_,hx,T.bP,T.na_Book_tops,_,gW,_,sH _ _ hc,_,rfl,_,aS.of hm,λr nr=>?_⟩;have ec:iK (List.map V.int (List.map (Wq.sc L) (cD S++b.map Wq.bI))) (some (ys.length:Int)) none=List.map V.int ((b.map Wq.bI).map (Wq.sc L)):=by
   rw[qq ⋯,YS,<-ly,<-List.map_drop,<-List.map_drop,List.drop_left]
  rw[ec];have s5:=ar (o:=.lst (List.map V.int ((b.map Wq.bI).map (Wq.sc L)))) nr;have W6:upd H4 r (.lst (List.map V.int ((b.map Wq.bI).map (Wq.sc L)))) r=some _:=ag;have wZ:=s5 _ _ hm;have Lc:=sH.trans s5;have Tc:=Lc _ _ ha;generalize upd H4 r (.lst (List.map V.int ((b.map Wq.bI).map (Wq.sc L))))=H5 at *;refine⟨⟨_,aS.of Tc⟩,?_⟩;have S':Src (KO K a) (aA H5) (List.range b.length).length (λi v H H3=>∃p x,H p=none/\v=.ref p/\xs[i]?=some x/\H3=upd H p (.tup [.int i,x])):=by rw[Y6,lx];exact fN (λH' s'=>aS.of (s' _ _ Tc))
  refine mB (K:=K) (List.range b.length) (λi=>none) S' (λi u v H3=>u=.int i/\xs[i]?=some v) ?_ (by rw[Y6,sizeLine_eq];lia) ?_ ?_
  ·intro i x H6 H7 hi s6 dO;symm;obtain⟨p',v,n6,rfl,ev,rfl⟩:=dO;nofun;exact⟨ar n6,p',_,_,rfl,fV.of ag,rfl,ev⟩
  ·rintro i j u v H6 ej s6 ⟨rfl,ev⟩ Y N y1 W7;have hj:j=i/\i<b.length:=by
    obtain⟨h1,h2⟩:=aat.mp ej;rw[Y6] at h1;rw[List.getElem_range] at h2;exact⟨h2.symm,h1⟩
   obtain⟨rfl,hj⟩:=hj;symm;obtain⟨q,eq,rq⟩:=di rl ev;have hq:=YQ eq;obtain⟨ew,_,_⟩:=cR z (q:=(j:Int)) ⋯ ⋯;nofun;rw[YS] at ew;have mw:=Z5 (b.map Wq.bI) (YQ ew);have at1:eV (List.map V.int (List.map (Wq.sc L) (cD S++b.map Wq.bI))) (j:Int)=some (V.int (Wq.sc L (Wq.eM (cD S) (j:Int)))):=j1 (f:=V.int) (by rw[YO,Zm ⋯,ew];rfl);have at2:eV (List.map V.int ((b.map Wq.bI).map (Wq.sc L))) (j:Int)=some (V.int (Wq.sc L (Wq.bI q))):=j1 (f:=V.int) (by rw[YO,YO,eq];rfl);have mg:Wq.bI q∈cD S++b.map Wq.bI:=Zk _ (aau.mpr ⟨q,hq,rfl⟩);dsimp?[s6 _ _ wZ,s6 _ _ W6,at1,at2,Ef];refine⟨q,rq.mono (Lc.trans s6),_,rfl,b.length,B.ok q hq,by rw[YL,Y7];lia,Nq _ mw,Nq _ mg,λx hx=>by obtain⟨y,hy,rfl⟩:=aau.mp hx;exact Nq y hy,Mw B z l1 (λx hx=>l3 x (Z5 _ hx)) (l3 _ mg) eq (bq j hj),λH7 s7=>?_⟩;rw[if_neg (by simp)];exact W7 _ rfl s7
  ·intro H6 s6 D6 n7 n8;rw[show(List.range b.length).filterMap (λ_=>(none:Option V))=[] from by induction List.range b.length <;>simp_all] at *;exact kk D6 _ (Lc.trans (s6.trans (ar n8))) (none_of (Lc.trans s6) n8) ag
theorem xh:aN ["board","worths","picks","found","place","worth","way"] ["board","worths","picks"] (au (top 48)):=⟨rfl,rfl,rfl,∅,rfl,∅,∅⟩
theorem Ky (T:Txt K mg aD tc):bK P w K mg base (bF P w) 4 "slips" ["board","worths","picks"] Ai:=by
 have GV:bK P w K mg base (bF P w) 3 "minus" ["one","other"] Ee:=Kw T;refine T.Ga.eG (λ_ _ _ _ _ _=>nV λ_ _ _=>rfl) λf fd F=>F.eJ xh (λvs H Q E h=>?_) (λcP A outer s H vs Q E hr h=>?_)
 ·obtain⟨_,_,_,_,_,_,_,rfl,_⟩:=h;rfl
 ·symm;obtain⟨a,c,d,b,rk,S,ks,rfl,rb,B,l7,z,hd,ko,kk⟩:=h;nofun;clear G_;have nd:=xh.nd;refine⟨_,(af (aE (i:=3) nd rfl (.inl rfl) (cY ae))
  (af (cm PassesOwn.never rfl (CI (K:=K) rfl T.z_zip (aa (pv 0) (aa (pv 1) (aa (pv 2) ae)))) (bV (K:=K) (n:=3) rfl (aQ (aG (i:=4) nd rfl (.inl rfl)) (aQ (aG (i:=5) nd rfl (.inl rfl)) (aQ (aG (i:=6) nd rfl (.inl rfl)) bU)))) (ax (dC (fj Zq ZK ZL cH.r (pv 3) (aa (fH (aR cF (aI aL (pv 4) ao (λ_ _=>rfl)) c9 (aT _)) (aF GV (hr.mono ∅) rfl aB.pass (aa (pv 5) (aa (aI aJ (pv 1) (aI aJ (aI aL (pv 4) ao (λ_ _=>rfl)) (pv 6) (λ_ _=>rfl)) (λ_ _=>rfl)) ae))) (cy (aa ao (aa ao ae)))) ae)))))
  (ax (aP (pv 3))))),?_⟩
  refine(?_:let cn:TS:=_;let cu:TS:=_;let cv:TS:=_;tSeq cn (tSeq cu cv) _ _ _);intro cn cu cv;symm;obtain⟨_,xs,e,ha,rl⟩:=aM.mp rb;nofun;clear G_;cases e;symm;obtain⟨_,us,e,hc,ru⟩:=aM.mp l7;nofun;clear G_;cases e;have lx:=rl.length;have lu:=ru.length;rw[YL] at lx lu;have lS:(cD S).length=b.length:=by unfold cD;rw[YL,z.len]
  have lk:=ko.len;have K8:=B.len;have Ld:∀x:Int,0<=x->x< (b.length:Int)->Bt 4000 (Wq.eM (cD S) x).1/\Bt 2000 (Wq.eM (cD S) x).2/\0< (Wq.eM (cD S) x).2:=λx x0 x1=>by
   symm;obtain⟨_,h,_⟩:=cR z x0 x1;nofun;have r:=h.rm z.pos (z.bb.mono ∅) (Int.pow_nonneg ∅) (by unfold Bt;ac_rfl);exact⟨r.1,(z.bb.mono (show 1900<=2000 by decide)).le (by have:=ZQ z.pos h.2.1;have:=h.1.1;lia),h.1.1⟩
  dsimp?[CH];refine⟨Y1 _,λp np=>?_⟩;have s0:=ar (o:=.lst []) np;refine⟨⟨_,aS.of (s0 _ _ ha)⟩,⟨_,aS.of (s0 _ _ hc)⟩,⟨_,aS.of (s0 _ _ hd)⟩,bJ (CJ (Ok:=aA H) (λH2 s2=>aS.of (s2 _ _ ha)) (λH2 s2=>aS.of (s2 _ _ hc)) (λH2 s2=>aS.of (s2 _ _ hd)) ⋯ (by rw[YL];lia))
   (λi σ H'=>aA H H'/\∃(ys:List V) (cs:List Wq.Sh) (z4 z5 z6:Option V),H' p=some (.lst ys)/\a8 (c6 H' p) (cs.map a9) ys/\cs.length=i/\(∀(j:Nat) q,j<i->b[j]?=some q->cs[j]?=some (lstP (cD S) ks b j q))/\σ=[some (V.ref a),some (V.ref c),some (V.ref d),some (V.ref p),z4,z5,z6])
   ⟨s0,[],[],_,_,_,ag,by simp [a8],rfl,λj q h=>absurd h (ZF _),rfl⟩ (λ_ _ _ _ h=>h.1) ?_ ?_⟩
  ·intro i v σ H1 H2 hi dO d5;symm;obtain⟨sm,ys,cs,z4,z5,z6,hp,ry,lc,oc,rfl⟩:=dO;obtain⟨t,x,y,zz,nt,rfl,ex,ey,ez,rfl⟩:=d5;rw[YO] at ez;obtain⟨o,eo,rfl⟩:=aas.mp ez;obtain⟨q,eq,rq⟩:=di rl ex;have Sk:=(aat.mp eq).1;obtain⟨ew,_,_⟩:=cR z (q:=(i:Int)) ⋯ ⋯;rw[YS] at ew;obtain⟨pw,Td,hw⟩:=cN ru ew;nofun;clear G_;rw[ey] at Td;cases Td;have ly:=ry.length;rw[YL] at ly;have s2:aA H1 (upd H1 t (.tup [x,.ref pw,dk o])):=ar nt;generalize W8:upd H1 t (.tup [x,.ref pw,dk o])=H2 at *;have W9:H2 t=some (.tup [x,.ref pw,dk o]):=by rw[<-W8];exact ag
   have lU:=s2 _ _ hp;have sz:ys.length<sizeLine:=by rw[sizeLine_eq];lia
   have Te:∀{H3:Hp} {p1:Addr},aA H2 H3->H3 p1=none->p1≠p:=λs3 n3 zz=>by rw[zz,s3 _ _ lU] at n3;cases n3
   have rx:=rq.mono (sm.trans s2);refine⟨t,_,rfl,fV.of W9,rfl,_,_,rfl,_,_,rfl,_,_,rfl,rfl,?_⟩;change tDrop _ _ [some (V.ref a),some (V.ref c),some (V.ref d),some (V.ref p),some x,some (V.ref pw),some (dk o)] H2;refine uJ (λN=>∀H3 p1,aA H2 H3->p1≠p->H3 p1=some (.tup [.int (lstP (cD S) ks b i q).1,.int (lstP (cD S) ks b i q).2])->N [some (V.ref a),some (V.ref c),some (V.ref d),some (V.ref p),some x,some (V.ref pw),some (dk o)] (upd H3 p (.lst (ys++ [.ref p1])))) (λH3 p1 s3 n3 e3=>by
    refine⟨aX (sm.trans (s2.trans s3)) np,_,cs++ [lstP (cD S) ks b i q],_,_,_,ag,?_,by rw[Y7,lc];rfl,λj q' hj ej=>?_,rfl⟩
    ·rw[Y5,Y8,ZE];exact pL (ry.mono (b9 (s2.trans s3))) (bQ.mpr ⟨p1,rfl,by rw[bY n3];exact e3⟩)
    ·by_cases cj:j<i
     ·rw[Zm ⋯];exact oc j q' cj ej
     ·have:j=i:=⋯
      subst this;rw[eq] at ej;cases ej;rw[Zn ⋯,lc,Nat.sub_self];rfl) (λN fin=>?_)
   by_cases cq:∃w to,q=.cA w to
   ·symm;obtain⟨w,to,rfl⟩:=cq;obtain⟨t',l,rfl,je,hl⟩:=cM.mp rx;obtain⟨k,ek,k0,k1,_,et,mt⟩:=ja ko eq;nofun;rw[eo] at ek;cases ek;have pq:=(B.ok _ (YQ eq)).2.2.2 _ mt;symm;obtain⟨eg,_,_⟩:=cR z (q:=to.getD k.toNat 0) pq.1 pq.2;obtain⟨pg,Xa,Xb⟩:=cN ru eg;have av:eV us (to.getD k.toNat 0)=some (.ref pg):=by have:=bA Xa;rwa [Z3 pq.1] at this
    have at2:eV (to.map V.int) k=some (V.int (to.getD k.toNat 0)):=yP k0 k1;have sl:lstP (cD S) ks b i (.cA w to)=uU (Wq.eM (cD S) (i:Int)) (Wq.eM (cD S) (to.getD k.toNat 0)):=by show uU _ (Wq.eM _ (uz b ks (i:Int)))=_;rw[et]
    rw[sl] at fin;obtain⟨a1,a2,a3⟩:=Ld (i:Int) ⋯ ⋯;obtain⟨b1,b2,b3⟩:=Ld (to.getD k.toNat 0) pq.1 pq.2;nofun;dsimp?[je,dD,tBM,dk,Ee];exact⟨.inl ⟨rfl,_,aS.of lU⟩,_,hl,_,at2,_,_,rfl,s2 _ _ (sm _ _ hc),_,av,pg,rfl,_,s2 _ _ (sm _ _ hw),_,s2 _ _ (sm _ _ Xb),a1,a2,a3,b1,b2,b3,λr H3 s3 n3 e3=>⟨_,s3 _ _ lU,sz,fin H3 r s3 (Te (aA.refl _) n3) e3⟩⟩
   ·symm;obtain⟨t',x',Hc,rfl,je,ne⟩:=yq rx λw to e=>cq ⟨w,to,e⟩;nofun;have el:lstP (cD S) ks b i q=(0,1):=by cases q with | fin g=>rfl | d6 g ws=>rfl | cA w to=>exact absurd ⟨w,to,rfl⟩ cq
    rw[el] at fin;dsimp?[je,dD,tBM];refine⟨.inl ⟨rfl,_,aS.of lU⟩,?_⟩;rw[if_neg ne];exact⟨∅,λp1 H3 s3 n3 e3=>⟨_,s3 _ _ lU,sz,fin H3 p1 s3 (Te (aA.refl _) n3) e3⟩⟩
  ·intro σ H1 dW;symm;obtain⟨sm,ys,cs,z1,z2,z3,hp,ry,lc,oc,rfl⟩:=dW;nofun;dsimp?[];exact kk p cs H1 sm np (aM.mpr ⟨p,ys,rfl,hp,ry.mono b8⟩) (by rw[lc,lx]) λj q ej=>oc j q (by have:=(aat.mp ej).1;lia) ej
theorem fv:aN ["_law_script","_law_board_here","_law_told","_law_picks_here","_law_at"] ["_law_script","_law_board_here","_law_told"] (au (top 70)):=⟨rfl,rfl,rfl,∅,rfl,∅,∅⟩
theorem Kz (T:Txt K mg aD tc):bK P w K mg base (bF P w) 3 "_law_drawn_picks" ["_law_script","_law_board_here","_law_told"] (Eh K):=by
 have cU:bK P w K mg base (bF P w) 1 "_law_cell" ["_law_script","_law_k"] (GB K):=uI T;have uL:bK P w K mg base (bF P w) 2 "_law_picks" ["_law_board_here","_law_cell_here"] D2:=Kv T;refine T.j5.eG (λ_ _ _ _ _ _=>nV λ_ _ _=>rfl) λf fd F=>F.eJ fv (λvs H Q E h=>?_) (λcP A outer s H vs Q E hr h=>?_)
 ·obtain⟨_,_,_,_,_,_,rfl,_⟩:=h;rfl
 ·symm;obtain⟨a,c,d,ns,b,ks,rfl,hS,rb,b0,K8,ok,hd,ko,kk⟩:=h;nofun;clear G_;have nd:=fv.nd;refine⟨_,(af (aE (i:=3) nd rfl (.inl rfl) (aF uL (hr.mono ∅) rfl aB.pass (aa (pv 1) (aa (aF cU (hr.mono ∅) rfl aB.pass (aa (pv 0) (aa ao ae))) ae))))
  (af (bT (aR cF (aH dh (aF cU (hr.mono ∅) rfl aB.pass (aa (pv 0) (aa ao ae))) ao) ao (aT _)) (af (aE (i:=4) nd rfl (.inl rfl) (aH dh (aF cU (hr.mono ∅) rfl aB.pass (aa (pv 0) (aa ao ae))) (aU bu (by rfl) T.z_len Y9 (aa (pv 1) ae))))
  (ax (aE (i:=3) nd rfl (.inl rfl) (aH tE (aH tE (gD (gK (K:=K)) (pv 2) kP (hV (pv 4))) (gD (gK (K:=K)) (pv 3) (hV (pv 4)) (hV (aH bj (pv 4) ao)))) (gD (gK (K:=K)) (pv 2) (hV (aH bj (pv 4) ao)) kP)))))
   bo)
  (ax (aP (pv 3))))),?_⟩
  refine(?_:let cn:TS:=_;let cu:TS:=_;let cv:TS:=_;tSeq cn (tSeq cu cv) _ _ _);intro cn cu cv;dsimp?[GB,D2,Fw];symm;obtain⟨_,xs,e,hc,rl⟩:=aM.mp rb;nofun;clear G_;cases e;have lx:=rl.length;rw[YL] at lx;refine⟨ns,hS,∅,∅,λc1=>⟨b,rb,K8,ok,λl H1 ps s1 nl hl kp=>⟨ns,s1.seq hS,∅,∅,λc2=>⟨∅,ib (λ_=>?_) (λ_=>kk l ps H1 s1 nl hl kp)⟩⟩⟩⟩;refine⟨ns,s1.seq hS,∅,∅,λc3=>⟨xs,s1 _ _ hc,⋯,_,aS.of (s1 _ _ hd),λp1 QK=>?_⟩⟩;have e1:=ZM c3 (show(xs.length:Int)≠0 by lia);have e2:=Z4 c3 (show(0:Int)<xs.length by lia);obtain⟨j,ej⟩:=Y2 e1;rw[ej] at e2 ⊢;have hj:j<b.length:=⋯
  have YI:=ko.len;have Qg:=kp.len;obtain⟨x,ex⟩:∃x,ps[j]?=some x:=⟨_,YM ⋯⟩
  have sA:=ar (o:=.lst (iK (ks.map dk) none (some (j:Int)))) QK;have Sd:upd H1 p1 (.lst (iK (ks.map dk) none (some (j:Int)))) p1=some (.lst ((ks.take j).map dk)):=by rw[ag,Cs ⋯,YS,List.map_take]
  generalize upd H1 p1 (.lst (iK (ks.map dk) none (some (j:Int))))=H2 at *;refine⟨_,aS.of (sA _ _ hl),λp2 MI=>?_⟩;rw[FN (show(ps.map dk)[j]?=some (dk x) by rw[YO,ex];rfl)];have sB:=ar (o:=.lst [dk x]) MI;have lU:upd H2 p2 (.lst [dk x]) p2=some (.lst [dk x]):=ag;generalize upd H2 p2 (.lst [dk x])=H3 at *;refine⟨_,sB _ _ Sd,_,lU,by rw[YL,Zf,sizeLine_eq];simp;lia,λp3 Nk=>?_⟩;have sC:=ar (o:=.lst ((ks.take j).map dk++ [dk x])) Nk;have Oz:upd H3 p3 (.lst ((ks.take j).map dk++ [dk x])) p3=some (.lst ((ks.take j).map dk++ [dk x])):=ag;generalize upd H3 p3 (.lst ((ks.take j).map dk++ [dk x]))=H4 at *;have Oq:=sA.trans (sB.trans sC);refine⟨_,aS.of ((s1.trans Oq) _ _ hd),λp4 Nl=>?_⟩;rw[qq (show(0:Int)<=(j:Int)+1 by lia),show((j:Int)+1).toNat=j+1 by lia,<-List.map_drop];have sD:=ar (o:=.lst ((ks.drop (j+1)).map dk)) Nl;have BC:upd H4 p4 (.lst ((ks.drop (j+1)).map dk)) p4=some (.lst ((ks.drop (j+1)).map dk)):=ag;generalize upd H4 p4 (.lst ((ks.drop (j+1)).map dk))=H5 at *;refine⟨_,sD _ _ Oz,_,BC,by rw[Y7,YL,YL,Zf,List.length_drop,sizeLine_eq];simp;lia,λp5 Tf=>?_⟩;have Ot:=Oq.trans sD;refine kk p5 (ks.take j++ [x]++ks.drop (j+1)) _ (s1.trans (Ot.trans (ar Tf))) (none_of (s1.trans Ot) Tf) (by rw[ag,Y5,Y5];rfl) ⟨by rw[Y7,Y7,Zf,List.length_drop];simp;lia,λi q k e1 e2=>?_⟩;have hi:=(aat.mp e1).1
  by_cases c:i<j
  ·rw[List.append_assoc,Zm (by rw[Zf];lia),aal c] at e2;exact ko.ok i q k e1 e2
  ·by_cases c':i=j
   ·subst c';rw[List.append_assoc,Zn (by rw[Zf];lia),Zf,Nat.min_eq_left ⋯,Nat.sub_self] at e2;cases e2;exact kp.ok i q _ e1 ex
   ·rw[Zn (by rw[Y7,Zf];simp;lia),Y7,Zf,Nat.min_eq_left ⋯,List.getElem?_drop] at e2;rw[show j+1+ (i - (j+ [x].length))=i by simp;lia] at e2;exact ko.ok i q k e1 e2
theorem EI {α:Type} {x:α} {n:Nat}:(aaz n [x]).flatten=aaz n x:=by
 induction n with
 | zero=>rfl
 | succ n ih=>rw[aah,List.flatten_cons,ih,aah];rfl
theorem EJ:aN ["_law_script","_law_n","_law_board_here","_law_worths","_law_told","_law_picks_here","_law_start","_law_lost","_law_often","_law_total","_law_place","_law_low_here"] ["_law_script"] (au (top 71)):=⟨rfl,rfl,rfl,∅,rfl,∅,∅⟩
theorem KA (T:Txt K mg aD tc) (LB:nM base mg tc tp) {f:Addr} {fd:FuncData} (F:xX K "law" "law" (top 71) f fd):fz P w K mg base (bF P w) 8 f fd ["_law_script"] (Ae K tp):=by
 have cU:bK P w K mg base (bF P w) 1 "_law_cell" ["_law_script","_law_k"] (GB K):=uI T;have uM:bK P w K mg base (bF P w) 3 "_law_board" ["_law_script","_law_at","_law_n"] (Hs K):=Ks T;have dJ:bK P w K mg base (bF P w) 1 "_law_copy" ["_law_board_here"] lF:=Kr T;have km:bK P w K mg base (bF P w) 3 "_law_drawn_picks" ["_law_script","_law_board_here","_law_told"] (Eh K):=Kz T;have xk:bK P w K mg base (bF P w) 2 "_law_plus" ["_law_one","_law_other"] EG:=Km T;have uN:bK P w K mg base (bF P w) 2 "_law_times" ["_law_one","_law_other"] DX:=Kn T;have KC:bK P w K mg base (bF P w) 7 "best" ["board"] (Ea tp):=Nd T LB;have nv:bK P w K mg base (bF P w) 7 "worths_of" ["board","picks"] (Aa tp):=MR T LB;have EK:bK P w K mg base (bF P w) 7 "visits" ["board","picks","start"] (DW tp):=MV T LB;have As:bK P w K mg base (bF P w) 4 "slips" ["board","worths","picks"] Ai:=Ky T;have Bw:bK P w K mg base (bF P w) 4 "misfits" ["board","worths"] Eg:=Nr T;refine F.eJ EJ (λvs H Q E h=>?_) (λcP A outer s H vs Q E hr h=>?_)
 ·obtain⟨_,_,rfl,_⟩:=h;rfl
 ·symm;obtain⟨sa,ns,rfl,kI,hS,hlen,kk⟩:=h;nofun;clear G_;have nd:=EJ.nd;refine⟨_,(af (aE (i:=1) nd rfl (.inl rfl) (aH bj ao (aH dh (aF cU (hr.mono ∅) rfl aB.pass (aa (pv 0) (aa ao ae))) ao)))
  (af (aE (i:=2) nd rfl (.inl rfl) (aF uM (hr.mono ∅) rfl aB.pass (aa (pv 0) (aa ao (aa (pv 1) ae)))))
  (af (fc (aF KC (hr.mono ∅) rfl aB.pass (aa (aF dJ (hr.mono ∅) rfl aB.pass (aa (pv 2) ae)) ae)) (bV (K:=K) (n:=2) rfl (aQ (aG (i:=3) nd rfl (.inl rfl)) (aQ (aG (i:=4) nd rfl (.inl rfl)) bU))))
  (af (aE (i:=5) nd rfl (.inl rfl) (aF km (hr.mono ∅) rfl aB.pass (aa (pv 0) (aa (pv 2) (aa (cG (bD (K:=K)) (by rfl) T.z_list rfl (aa (pv 4) ae)) ae)))))
  (af (aE (i:=6) nd rfl (.inl rfl) (aH dh (aF cU (hr.mono ∅) rfl aB.pass (aa (pv 0) (aa ao ae))) (pv 1)))
  (af (aE (i:=7) nd rfl (.inl rfl) (aF As (hr.mono ∅) rfl aB.pass (aa (aF dJ (hr.mono ∅) rfl aB.pass (aa (pv 2) ae)) (aa (cG (bD (K:=K)) (by rfl) T.z_list rfl (aa (pv 3) ae)) (aa (cG (bD (K:=K)) (by rfl) T.z_list rfl (aa (pv 5) ae)) ae)))))
  (af (aE (i:=8) nd rfl (.inl rfl) (aF EK (hr.mono ∅) rfl aB.pass (aa (aF dJ (hr.mono ∅) rfl aB.pass (aa (pv 2) ae)) (aa (cG (bD (K:=K)) (by rfl) T.z_list rfl (aa (pv 5) ae)) (aa (pv 6) ae)))))
  (af (aE (i:=9) nd rfl (.inl rfl) (aI aJ (aF nv (hr.mono ∅) rfl aB.pass (aa (aF dJ (hr.mono ∅) rfl aB.pass (aa (pv 2) ae)) (aa (cG (bD (K:=K)) (by rfl) T.z_list rfl (aa (pv 5) ae)) ae))) (pv 6) (λ_ _=>rfl)))
  (af (cm PassesOwn.never rfl (du rfl T.z_range (aa (pv 1) ae)) (aG (i:=10) nd rfl (.inl rfl)) (af (bT (aR cF (aI aL (aI aJ (pv 2) (pv 10) (λ_ _=>rfl)) ao (λ_ _=>rfl)) c9 (aT _)) (af (aE (i:=11) nd rfl (.inl rfl) (fZ o5 (aI aL (aI aJ (pv 7) (pv 10) (λ_ _=>rfl)) ao (λ_ _=>rfl)) ao (aT _)))
  (ax (bT (aR rE (pv 11) (Io (fZ rE (aI aL (aI aJ (pv 7) (pv 10) (λ_ _=>rfl)) ao (λ_ _=>rfl)) ao (aT _)) (Im (fZ cF (aI aL (aI aJ (pv 2) (pv 10) (λ_ _=>rfl)) ao (λ_ _=>rfl)) ao (aT _)))) (aT _)) (ax (aP yU))
   bo)))
   bo)
  (ax (aE (i:=9) nd rfl (.inl rfl) (aF xk (hr.mono ∅) rfl aB.pass (aa (pv 9) (aa (aF uN (hr.mono ∅) rfl aB.pass (aa (aI aJ (pv 8) (pv 10) (λ_ _=>rfl)) (aa (aI aJ (pv 7) (pv 10) (λ_ _=>rfl)) ae))) ae)))))))
  (af (bT (PW.pt (pw_or (aR (xZ hr.units) (pv 9) (aI aJ (pv 3) (pv 6) (λ_ _=>rfl)) (aT _)) (pw_or1 (aR (xZ hr.units) (aF Bw (hr.mono ∅) rfl aB.pass (aa (aF dJ (hr.mono ∅) rfl aB.pass (aa (pv 2) ae)) (aa (cG (bD (K:=K)) (by rfl) T.z_list rfl (aa (pv 3) ae)) ae))) (cY ae) (aT _))))) (ax (aP yU))
   bo)
  (af (bT (aR (xZ hr.units) (aF As (hr.mono ∅) rfl aB.pass (aa (aF dJ (hr.mono ∅) rfl aB.pass (aa (pv 2) ae)) (aa (cG (bD (K:=K)) (by rfl) T.z_list rfl (aa (pv 3) ae)) (aa (cG (bD (K:=K)) (by rfl) T.z_list rfl (aa (pv 4) ae)) ae)))) (aH pf (cY (aa (cy (aa ao (aa ao ae))) ae)) (pv 1)) (aT _)) (ax (aP yU))
   bo)
  (ax (aP (fZ (Jd hr.units) (aF nv (hr.mono ∅) rfl aB.pass (aa (aF dJ (hr.mono ∅) rfl aB.pass (aa (pv 2) ae)) (aa (cG (bD (K:=K)) (by rfl) T.z_list rfl (aa (pv 4) ae)) ae))) (pv 3) (aT _))))))))))))))),?_⟩
  refine(?_:let cn:TS:=_;let cu:TS:=_;let cv:TS:=_;let dU:TS:=_;let iF:TS:=_;let sQ:TS:=_;let HP:TS:=_;let Tg:TS:=_;let Th:TS:=_;let Ti:TS:=_;let Nt:TS:=_;let Nu:TS:=_;tSeq cn (tSeq cu (tSeq cv (tSeq dU (tSeq iF (tSeq sQ (tSeq HP (tSeq Tg (tSeq Th (tSeq Ti (tSeq Nt Nu)))))))))) _ _ _);intro cn cu cv dU iF sQ HP Tg Th Ti Nt Nu;have sl:=sizeLine_eq;subst_vars;refine jt (λσ' H1=>H=H1/\∃n:Nat,0<n/\n<=8/\σ'=[~~~sa,some (.int (n:Int)),none,none,none,none,none,none,none,none,none,none]) ?_ (λN hN=>?_)
  case refine_2=>
   dsimp?[GB];exact⟨ns,hS,∅,∅,λc=>⟨∅,hN _ _ ⟨rfl,(1+c % 8).toNat,⋯,⋯,by rw[Z3 ⋯]⟩⟩⟩
  intro _ _ dW;symm;obtain⟨rfl,n,n0,n8,rfl⟩:=dW;nofun;clear G_;subst_vars;refine ba (λN=>∀H1 bl b rk,aA H H1->Rep H1 (pK b) (.ref bl)->b.length=n->i5 b rk->N [~~~sa,some (.int (n:Int)),~~~bl,none,none,none,none,none,none,none,none,none] H1) ?_ (λN hN=>?_)
  case refine_2=>
   dsimp?[];exact⟨sa,ns,n,rfl,hS,n0,n8,λl H1 b rk s1 nl rb lb B=>hN _ l b rk s1 rb lb B⟩
  rintro H1 bl b rk s1 rb lb B;subst_vars;refine ba (λN=>∀H2 (wl:Addr) (tl:Addr) (S:Dg.Bk) (ks:List (Option Int)),aA H1 H2->Rep H2 (.lst ((cD S).map a9)) (.ref wl)->H2 tl=some (.lst (ks.map dk))->uH b S ks->N [~~~sa,some (.int (n:Int)),~~~bl,~~~wl,~~~tl,none,none,none,none,none,none,none] H2) ?_ (λN hN=>?_)
  case refine_2=>
   dsimp?[lF,Ea];refine⟨b,rb,⋯,λl H2 s2 n2 r2=>⟨b,r2,rk,B,(s1.trans s2) _ _ kI,λt l1 l2 S ks H3 s3 ht n1 n2 r1 h2 z dv bq bp lk=>?_⟩⟩;refine⟨t,_,rfl,fV.of ht,rfl,?_⟩;dsimp?[];exact hN _ l1 l2 S ks (s2.trans s3) r1 h2 ⟨z.up ⋯,dv,bq,bp,lk⟩
  rintro H2 wl tl S ks s2 OA J4 I;have kt:=I.ko B;subst_vars;refine ba (λN=>∀H3 (pl:Addr) (ps:List (Option Int)),aA H2 H3->H3 pl=some (.lst (ps.map dk))->dq b ps->N [~~~sa,some (.int (n:Int)),~~~bl,~~~wl,~~~tl,~~~pl,none,none,none,none,none,none] H3) ?_ (λN hN=>?_)
  case refine_2=>
   dsimp?[Eh];refine⟨_,.inl (aS.of J4),λm nm=>?_⟩;have sm:=ar (o:=.lst (ks.map dk)) nm;exact⟨ns,(s1.trans (s2.trans sm)).seq hS,b,rb.mono (s2.trans sm),⋯,⋯,B.ok,ks,ag,kt,λl ps H4 s4 n4 h4 ko=>hN _ l ps (sm.trans s4) h4 ko⟩
  rintro H3 pl ps s3 hpl ko;have QL:=s1.trans (s2.trans s3);subst_vars;refine jt (λσ' H4=>H3=H4/\∃st:Nat,st<n/\σ'=[~~~sa,some (.int (n:Int)),~~~bl,~~~wl,~~~tl,~~~pl,some (.int (st:Int)),none,none,none,none,none]) ?_ (λN hN=>?_)
  case refine_2=>
   dsimp?[GB];exact⟨ns,QL.seq hS,⋯,⋯,λc=>⟨⋯,hN _ _ ⟨rfl,(c % (n:Int)).toNat,by have:=Z4 c (show(0:Int)<n by lia);have:=ZM c (show(n:Int)≠0 by lia);lia,by rw[Z3 (ZM c ⋯)]⟩⟩⟩
  intro _ _ dW;symm;obtain⟨rfl,st,hst,rfl⟩:=dW;nofun;clear G_;subst_vars;refine ba (λN=>∀H4 (ll:Addr) (cs:List Wq.Sh),aA H3 H4->Rep H4 (.lst (cs.map a9)) (.ref ll)->cs.length=b.length->(∀(p:Nat) q,b[p]?=some q->cs[p]?=some (lstP (cD S) ps b p q))->N [~~~sa,some (.int (n:Int)),~~~bl,~~~wl,~~~tl,~~~pl,some (.int (st:Int)),~~~ll,none,none,none,none] H4) ?_ (λN hN=>?_)
  case refine_2=>
   dsimp?[lF,Ai];symm;obtain⟨_,xw,e,xq,GI⟩:=aM.mp OA;nofun;clear G_;cases e;refine⟨b,rb.mono (s2.trans s3),⋯,λl H4 s4 n4 r4=>⟨_,.inl (aS.of ((s3.trans s4) _ _ xq)),λm nm=>?_⟩⟩;have sm:=ar (o:=.lst xw) nm;have hm:upd H4 m (.lst xw) m=some (.lst xw):=ag;generalize upd H4 m (.lst xw)=H5 at *;refine⟨_,.inl (aS.of ((s4.trans sm) _ _ hpl)),λm2 QM=>?_⟩;have BB:=ar (o:=.lst (ps.map dk)) QM;exact⟨b,r4.mono (sm.trans BB),rk,B,S,aM.mpr ⟨m,xw,rfl,BB _ _ hm,GI.mono (s3.trans (s4.trans (sm.trans BB)))⟩,I.sz.up ∅,ps,ag,ko,λl2 cs H7 s7 n7 r7 lc oc=>hN _ l2 cs (s4.trans (sm.trans (BB.trans s7))) r7 lc oc⟩
  rintro H4 ll cs s4 Xc lcs Xd;subst_vars;refine ba (λN=>∀H5 (ol:Addr) (S':Dg.Bk),aA H4 H5->Rep H5 (.lst ((cD S').map a9)) (.ref ol)->Dg.Sz b.length 1100 S'->GA b ps st (Dg.val S')->N [~~~sa,some (.int (n:Int)),~~~bl,~~~wl,~~~tl,~~~pl,some (.int (st:Int)),~~~ll,~~~ol,none,none,none] H5) ?_ (λN hN=>?_)
  case refine_2=>
   dsimp?[DW,lF];refine⟨b,rb.mono (s2.trans (s3.trans s4)),⋯,λhd H7 s7 n7 r7=>⟨_,.inl (aS.of ((s4.trans s7) _ _ hpl)),λm nm=>?_⟩⟩;have s8:=ar (o:=.lst (List.map dk ps)) nm;exact⟨st,rfl,b,r7.mono s8,rk,B,ps,ag,ko,(QL.trans (s4.trans (s7.trans s8))) _ _ kI,⋯,λl S' H9 s9 n9 r9 z9 e9=>hN _ l S' (s7.trans (s8.trans s9)) r9 (z9.up ⋯) e9⟩
  rintro H5 ol S' s5 Xe Nv Xf;have Lc:=QL.trans (s4.trans s5);subst_vars;refine ba (λN=>∀H6 (tA:Addr) (S2:Dg.Bk),aA H5 H6->Dg.Sz b.length 1900 S2->(∀p:Nat,p<b.length->EqAt b ps p (Dg.val S2))->H6 tA=some (.tup (Pr (Wq.eM (cD S2) (st:Int)).1 (Wq.eM (cD S2) (st:Int)).2))->N [~~~sa,some (.int (n:Int)),~~~bl,~~~wl,~~~tl,~~~pl,some (.int (st:Int)),~~~ll,~~~ol,~~~tA,none,none] H6) ?_ (λN hN=>?_)
  case refine_2=>
   dsimp?[Aa,lF];refine⟨b,rb.mono (s2.trans (s3.trans (s4.trans s5))),⋯,λhd H7 s7 n7 r7=>⟨_,.inl (aS.of ((s4.trans (s5.trans s7)) _ _ hpl)),λm nm=>?_⟩⟩;have s8:=ar (o:=.lst (List.map dk ps)) nm;refine⟨b,r7.mono s8,rk,B,ps,ag,ko,(Lc.trans (s7.trans s8)) _ _ kI,λl S2 H9 s9 n9 r9 z9 d9 e9=>?_⟩;symm;obtain⟨_,x2,e,h2,Xg⟩:=aM.mp (show Rep H9 (.lst ((cD S2).map a9)) (.ref l) from r9);nofun;cases e;symm;obtain⟨a1,_,_⟩:=cR z9 (q:=(st:Int)) ⋯ ⋯;rw[YS] at a1;obtain⟨pw,ep,Lb⟩:=cN Xg a1;nofun;exact⟨_,h2,_,bA ep,hN _ pw S2 (s7.trans (s8.trans s9)) z9 e9 Lb⟩
  rintro H6 tA S2 s6 z2 Xh HY;subst_vars;refine ba (λN=>∀H7 (tA:Addr) (jJ:Option V) (BD:Option V),aA H6 H7->H7 tA=some (.tup (Pr (Wq.eM (cD S) (st:Int)).1 (Wq.eM (cD S) (st:Int)).2))->N [~~~sa,some (.int (n:Int)),~~~bl,~~~wl,~~~tl,~~~pl,some (.int (st:Int)),~~~ll,~~~ol,~~~tA,jJ,BD] H7) ?_ (λN hN=>?_)
  case refine_2=>
   dsimp?[];symm;obtain⟨_,xl,e,Tj,QN⟩:=aM.mp (Xc.mono (s5.trans s6));nofun;clear G_;cases e;symm;obtain⟨_,xo,e,Xi,QO⟩:=aM.mp (Xe.mono s6);nofun;clear G_;cases e;have Xj:=rb.mono (s2.trans (s3.trans (s4.trans (s5.trans s6))));symm;obtain⟨_,xb,e,E9,Xk⟩:=aM.mp Xj;nofun;clear G_;cases e;have S0:=I.sz.pos;have QP:=Nv.pos;have Xl:=z2.pos;obtain⟨W,hW⟩:∃W:Int,W=2^1100:=⟨_,rfl⟩
   have W0:0<=W:=by rw[hW];exact Int.pow_nonneg ∅
   have bW:Bt 1101 W:=by
    unfold Bt;rw[hW,Int.natAbs_pow];exact aak ∅ ∅
   obtain⟨W2,KZ⟩:∃W:Int,W=2^1900:=⟨_,rfl⟩
   have Xm:0<=W2:=by rw[KZ];exact Int.pow_nonneg ∅
   have Xn:Bt 1901 W2:=by
    unfold Bt;rw[KZ,Int.natAbs_pow];exact aak ∅ ∅
   have Ld:=lH I.sz;have Nw:=lH Nv;rw[<-hW] at Ld Nw;have Zp:0<S'.2*S.2:=Zd QP S0;have Tn:Bt 2200 (S'.2*S.2):=Nv.bb.mul I.sz.bb;have Z0:0<S2.2* (S'.2*S.2):=Zd Xl Zp;have bZ:Bt 4100 (S2.2* (S'.2*S.2)):=z2.bb.mul Tn;have wW:0<=W* (W+W):=Int.mul_nonneg W0 ⋯;have To:Bt 2203 (W* (W+W)):=bW.mul (bW.add bW);have bM:∀j:Nat,j<=8->Bt 2300 (W2+ (j:Int)* (W* (W+W)))/\0<=W2+ (j:Int)* (W* (W+W)):=λj hj=>⟨Bt.mono (m:=2208) ((Xn.mono (show 1901<=2207 by decide)).add ((Bt.of (n:=4) 8 ⋯ ⋯).mul To)) ∅,Int.add_nonneg Xm (Int.mul_nonneg ⋯ wW)⟩
   symm;obtain⟨_,q2,q3⟩:=cR z2 (q:=(st:Int)) ⋯ ⋯;nofun;clear G_;rw[<-KZ] at q2;refine⟨⋯,⋯,bJ (src_range (Ok:=λ_=>True)) (λi σ H'=>aA H6 H'/\∃(tA:Addr) (x:Wq.Sh) (jJ BD:Option V),H' tA=some (.tup (Pr x.1 x.2))/\qy (S2.2* (S'.2*S.2)) (W2+ (i:Int)* (W* (W+W))) x/\Dg.vl x=Dg.val S2 (st:Int)+Dg.lsum (λp=>Dg.val S' p*Dg.vl (lstP (cD S) ps b p.toNat (b.getD p.toNat (.fin (0,1))))) ((kK b.length).take i)/\σ=[~~~sa,some (.int (n:Int)),~~~bl,~~~wl,~~~tl,~~~pl,some (.int (st:Int)),~~~ll,~~~ol,~~~tA,jJ,BD])
    ⟨aA.refl _,tA,_,_,_,HY,q2.up (Int.dvd_mul_right _ _) ⋯,by rw[q3];show _=Dg.val S2 (st:Int)+0;grind,rfl⟩ (λ_ _ _ _ _=>trivial) ?_ ?_⟩
   ·intro p x0 σ HA HB hp dO d5;symm;obtain⟨sA,tA,x,jJ,BD,HY,sx,vx,rfl⟩:=dO;obtain⟨rfl,rfl⟩:=d5;have hp:p<b.length:=by have:p< ((n:Nat):Int).toNat:=hp;lia
    have eb:b[p]?=some b[p]:=YM hp;have pq:=B.ok _ (YV hp);have z0:(0:Int)+ (p:Int)=(p:Int):=ZR _;have ec:=Xd p _ eb;obtain⟨pc,Xo,Tp⟩:=cN QN ec;have Tq:eV xl (p:Int)=some (.ref pc):=bA Xo;obtain⟨QR,YJ,Xp⟩:=cR Nv (q:=(p:Int)) ⋯ ⋯;rw[YS] at QR;obtain⟨po,Xq,Xr⟩:=cN QO QR;have Xs:eV xo (p:Int)=some (.ref po):=bA Xq;obtain⟨Tr,_,Xu⟩:=cR I.sz (q:=(p:Int)) ⋯ ⋯;rw[YS] at Tr;have sp:=Ld _ (YQ Tr);have so:=Nw _ (YQ QR);have slt:qy S.2 (W+W) (lstP (cD S) ps b p b[p])/\∀bB to,b[p]=.cA bB to->((lstP (cD S) ps b p b[p]).1<0->bB=2)/\(0< (lstP (cD S) ps b p b[p]).1->bB=1):=by
     cases q:b[p] with
     | fin g=>exact⟨⟨⟨by show(0:Int)<1;decide,by show Nm.g 0 1=1;decide⟩,Int.one_dvd _,by unfold Wq.Vb;show -(_*1)<=(0:Int)/\(0:Int)<=_*1;lia⟩,λ_ _ h=>by cases h⟩
     | d6 g ws=>exact⟨⟨⟨by show(0:Int)<1;decide,by show Nm.g 0 1=1;decide⟩,Int.one_dvd _,by unfold Wq.Vb;show -(_*1)<=(0:Int)/\(0:Int)<=_*1;lia⟩,λ_ _ h=>by cases h⟩
     | cA bB to=>
      rw[q] at eb pq;obtain⟨k,_,_,_,_,et,mt⟩:=ja ko eb;obtain⟨at1,_,Xv⟩:=cR I.sz (q:=uz b ps (p:Int)) (by rw[et];exact(pq.2.2.2 _ mt).1) (by rw[et];exact(pq.2.2.2 _ mt).2);have u4:=Ld _ (YQ at1);have NA:=sp.uU u4 S0;refine⟨NA,λw' Ou h=>?_⟩;cases h;obtain⟨g1,g2⟩:=Nh NA.1.1;obtain⟨_,u⟩:=I.bq p hp _ eb;have u1:=u _ mt;have ev:Dg.vl (uU (Wq.eM (cD S) (p:Int)) (Wq.eM (cD S) (uz b ps (p:Int))))=Dg.val S (p:Int) - Dg.val S (to.getD k.toNat 0):=by rw[yK sp.1.1 u4.1.1,Xu,Xv,et]
      rw[ev] at g1 g2;unfold JT at u1;show((uU _ _).1<0->_)/\(0< (uU _ _).1->_);rw[g1,g2];rcases pq.1 with rfl | rfl
      ·rw[if_pos rfl] at u1;exact⟨λh=>by exfalso;clear ev g1 g2;grind,λ_=>rfl⟩
      ·rw[if_neg ∅] at u1;exact⟨λ_=>rfl,λh=>by exfalso;clear ev g1 g2;grind⟩
    obtain⟨slt,sgn⟩:=slt;have smul:=so.mul slt QP S0;obtain⟨m1,m2⟩:=bM p ⋯;obtain⟨x1,x2,x3⟩:=sx.bt Z0 bZ m2 m1;obtain⟨y1,y2,y3⟩:=smul.bt Zp Tn wW To;nofun;clear G_;have Xw:Rm (Wq.eM (cD S') (p:Int)):=so.rm QP (Nv.bb.mono ∅) W0 (bW.mono ∅);have Xx:Rm (lstP (cD S) ps b p b[p]):=slt.rm S0 (I.sz.bb.mono ∅) ⋯ ((bW.add bW).mono ∅);have sn:=sx.add (smul.up (Int.dvd_mul_left _ _) (Int.le_refl _)) Z0;have ls:Dg.lsum (λp=>Dg.val S' p*Dg.vl (lstP (cD S) ps b p.toNat (b.getD p.toNat (.fin (0,1))))) ((kK b.length).take (p+1))=Dg.lsum (λp=>Dg.val S' p*Dg.vl (lstP (cD S) ps b p.toNat (b.getD p.toNat (.fin (0,1))))) ((kK b.length).take p)+Dg.val S' (p:Int)*Dg.vl (lstP (cD S) ps b p b[p]):=by
     rw[D3 hp,lsum_snoc,YS,YN,eb];rfl
    subst_vars;rw[z0];refine ba (λN2=>∀(BD:Option V),N2 [~~~sa,some (.int (n:Int)),~~~bl,~~~wl,~~~tl,~~~pl,some (.int (st:Int)),~~~ll,~~~ol,~~~tA,some (.int ((p:Int))),BD] HB) ?_ (λN2 Ts=>?_)
    case refine_2=>
     symm;obtain⟨v,ev,rq⟩:=eK Xk eb;nofun;clear G_;have av:eV xb (p:Int)=some v:=bA ev;have rq:=rq.mono sA;generalize b[p]=q at *
     by_cases cq:∃w to,q=.cA w to
     ·symm;obtain⟨bB,to,rfl⟩:=cq;obtain⟨t',l',rfl,je,_⟩:=cM.mp rq;nofun;clear G_;change tIfS _ _ _ _ _ _;refine yp (λY N k=>by dsimp?[sA _ _ E9,av,je];exact k) ?_;dsimp?[sA _ _ E9,sA _ _ Tj,Tq,sA _ _ Tp,av,je];obtain⟨g1,g2⟩:=sgn bB to rfl;have N3:=Ts (some (V.bl (decide ((lstP (cD S) ps b p (.cA bB to)).1<0))));generalize (lstP (cD S) ps b p (.cA bB to)).1=u at *;refine ib (λc=>?_) (λc=>?_)
      ·have hz:decide (u<0)=decide (bB=2):=by
        by_cases c1:u<0
        ·rw[decide_eq_true c1,g1 c1];rfl
        ·have:=g2 ⋯;rw[decide_eq_false c1,this];rfl
       rw[if_neg (λz=>z hz)];exact N3
      ·rw[if_neg ⋯];exact N3
     ·symm;obtain⟨t',x',Hc,rfl,je,ne⟩:=yq rq λw to e=>cq ⟨w,to,e⟩;nofun;change tIfS _ _ _ _ _ _;refine zB (λY N k=>by dsimp?[sA _ _ E9,av,je];rw[if_neg ne];exact k) ?_;exact Ts _
    rintro BD;dsimp?[EG,DX,sA _ _ Xi,sA _ _ Tj,Xs,Tq];refine⟨_,sA _ _ Xr,_,sA _ _ Tp,Xw,Xx,λr1 HC sC nC hC=>⟨x,sC _ _ HY,_,hC,x1,x2,x3,y1.mono ∅,y2,y3,λr2 HD sD nD hD=>⟨sA.trans (sC.trans sD),r2,_,hD,?_,?_,rfl,_,rfl⟩⟩⟩
    ·rw[show W2+ ((p+1:Nat):Int)* (W* (W+W))=W2+ (p:Int)* (W* (W+W))+W* (W+W) by rw[Int.natCast_add,Int.add_mul];lia];exact sn
    ·rw[ls,Dg.Mh sx.1.1 smul.1.1,Dg.Mi so.1.1 slt.1.1,Xp,vx];grind
   ·intro σ HA dW;symm;obtain⟨sA,tA,x,jJ,BD,HY,sx,vx,rfl⟩:=dW;have tk:(kK b.length).take ((n:Nat):Int).toNat=kK b.length:=by rw[YS,<-lb,Zg];unfold kK;rw[YL,Y6];exact YR _
    rw[tk,Ec B ko ⋯ Xf I.sz I.bq Xh] at vx;obtain⟨_,w2,w3⟩:=cR I.sz (q:=(st:Int)) ⋯ ⋯;have ex:x=Wq.eM (cD S) (st:Int):=Dg.qh sx.1 w2.1 (by rw[vx,w3]);subst ex;nofun;exact hN _ tA jJ BD sA HY
  clear HY;rintro H7 tA jJ BD s7 HY;subst_vars;refine ba (λN=>∀H8,aA H7 H8->N [~~~sa,some (.int (n:Int)),~~~bl,~~~wl,~~~tl,~~~pl,some (.int (st:Int)),~~~ll,~~~ol,~~~tA,jJ,BD] H8) ?_ (λN hN=>?_)
  case refine_2=>
   dsimp?[Co,Eg,lF];have MM:=s3.trans (s4.trans (s5.trans (s6.trans s7)));symm;obtain⟨_,xw,e,xq,GI⟩:=aM.mp (OA.mono MM);nofun;cases e;symm;obtain⟨w1,_,_⟩:=cR I.sz (q:=(st:Int)) ⋯ ⋯;rw[YS] at w1;obtain⟨pw,ep,Lb⟩:=cN GI w1;nofun;refine⟨xw,xq,_,bA ep,a9 _,bQ.mpr ⟨tA,rfl,HY⟩,bQ.mpr ⟨pw,rfl,Lb⟩,⟨_,rfl⟩,by rw[yc];decide,?_⟩;rw[if_neg Y4];refine⟨b,rb.mono (s2.trans MM),⋯,λl HA sA nA rA=>⟨xw,.inl (aS.of (sA _ _ xq)),λm nm=>?_⟩⟩;have sm:=ar (o:=.lst xw) nm;refine⟨b,rA.mono sm,rk,S,aM.mpr ⟨m,xw,rfl,ag,GI.mono (sA.trans sm)⟩,B,I.sz.up ∅,I.dv,I.bq,λl2 HB sB nB hB=>⟨∅,λp np=>?_⟩⟩;have sp:=ar (o:=.lst []) np;refine⟨.lst [],aM.mpr ⟨l2,[],rfl,sp _ _ hB,by simp [a8]⟩,aM.mpr ⟨p,[],rfl,ag,by simp [a8]⟩,⟨_,rfl⟩,∅,?_⟩;rw[if_neg Y4];exact hN _ (sA.trans (sm.trans (sB.trans sp)))
  rintro H8 s8;subst_vars;refine ba (λN=>∀H9,aA H8 H9->N [~~~sa,some (.int (n:Int)),~~~bl,~~~wl,~~~tl,~~~pl,some (.int (st:Int)),~~~ll,~~~ol,~~~tA,jJ,BD] H9) ?_ (λN hN=>?_)
  case refine_2=>
   dsimp?[AJ,Co,Ai,lF];have QS:=s3.trans (s4.trans (s5.trans (s6.trans (s7.trans s8))));symm;obtain⟨_,xw,e,xq,GI⟩:=aM.mp (OA.mono QS);nofun;clear G_;cases e;refine⟨b,rb.mono (s2.trans QS),⋯,λl HA sA nA rA=>⟨xw,.inl (aS.of (sA _ _ xq)),λm nm=>?_⟩⟩;have sm:=ar (o:=.lst xw) nm;have hm:upd HA m (.lst xw) m=some (.lst xw):=ag;generalize upd HA m (.lst xw)=HB at *;refine⟨_,.inl (aS.of ((QS.trans (sA.trans sm)) _ _ J4)),λm2 QM=>?_⟩;have BB:=ar (o:=.lst (ks.map dk)) QM;refine⟨b,rA.mono (sm.trans BB),rk,B,S,aM.mpr ⟨m,xw,rfl,BB _ _ hm,GI.mono (sA.trans (sm.trans BB))⟩,I.sz.up ∅,ks,ag,kt,λl2 Xy HD sD nD rD lc oc=>⟨∅,λp HE sE nE hE=>⟨∅,λp1 QK=>?_⟩⟩⟩;refine⟨_,ag,⋯,⋯,by rw[YS];show 1*n<=_;lia,λp2 MI=>?_⟩;have Xz:=ar (o:=.lst [V.ref p]) QK;have QT:=Xz.trans (ar (o:=.lst (aaz (n:Int).toNat [V.ref p]).flatten) MI);have lU:upd (upd HE p1 (.lst [V.ref p])) p2 (.lst (aaz (n:Int).toNat [V.ref p]).flatten) p2=some (.lst (aaz n (V.ref p))):=by
    rw[ag,YS];rw[EI]
   generalize upd (upd HE p1 (.lst [V.ref p])) p2 (.lst (aaz (n:Int).toNat [V.ref p]).flatten)=HF at *;have XA:Xy=aaz n (0,1):=by
    apply Zy;intro i
    by_cases hi:i<n
    ·have eb:b[i]?=some b[i]:=YM ⋯;rw[oc i _ eb,I.QE B eb,aag,if_pos hi]
    ·rw[Y0 ⋯,Y0 (by rw[Zr];lia)]
   refine⟨_,rD.mono (sE.trans QT),aM.mpr ⟨p2,_,rfl,lU,dQ (by rw[Zr,lc,lb]) λi y ey a ea=>?_⟩,⟨_,rfl⟩,mY _,?_⟩
   ·rw[XA] at ea;rw[List.eq_of_mem_replicate (YQ ey),List.eq_of_mem_replicate (YQ ea)];exact bQ.mpr ⟨p,rfl,QT _ _ hE⟩
   rw[if_neg Y4];exact hN _ (sA.trans (sm.trans (BB.trans (sD.trans (sE.trans QT)))))
  rintro H9 s9;dsimp?[Co,Aa,lF];have K2:=s3.trans (s4.trans (s5.trans (s6.trans (s7.trans (s8.trans s9)))));refine⟨b,rb.mono (s2.trans K2),⋯,λl HA sA nA rA=>⟨_,.inl (aS.of ((K2.trans sA) _ _ J4)),λm nm=>?_⟩⟩;have sm:=ar (o:=.lst (ks.map dk)) nm;refine⟨b,rA.mono sm,rk,B,ks,ag,kt,(s1.trans (s2.trans (K2.trans (sA.trans sm)))) _ _ kI,λl2 S3 HB sB nB rB z3 d3 e3=>?_⟩;have eS:=Ni z3 I.sz (wu B kt e3 λp hp=>I.eq B hp);have rB:Rep HB (.lst ((cD S3).map a9)) (.ref l2):=rB;rw[eS] at rB;exact⟨_,rB,OA.mono (K2.trans (sA.trans (sm.trans sB))),⟨_,rfl⟩,mY _,kk _⟩
end
theorem all_mk {l:PySem.W.OpenLaw} {w:World} {K:aam} {h:Heap} {mg:Str->Option Value} {fa:Addr} (X:K.In h) (G:h.Ns mainGlobals mg) (XB:mg "law"=some (.ref fa))
  {QU:Addr} {QV QW:Option Addr} {QX:Array (Option Value)} {QY QZ Q0 Q4 Q5:Value} {Q6:Addr} {Q8 Ra:Option Addr} {Rb:Array (Option Value)} {Rc Rf Rg Rh Nx Ri:Value} {qG:Tok} {rh:Tok} {aD tc tp:Addr} {oR:Addr} {EL EM:Option Addr} {EN:Array (Option Value)} {EO ER ES ET xm EU:Value} {dG:Addr} {kr kA:Option Addr} {kB:Array (Option Value)} {kC kD kE kF fU kG:Value} {eE:Addr} {oa og:Option Addr} {oh:Array (Option Value)} {oi oj oq ou iI oz:Value}
  (h0:eN K "common_divisor" "common_divisor" (top 6))
  (h1:eN K "share" "share" (top 7))
  (h2:eN K "minus" "minus" (top 8))
  (h3:eN K "common_bottom" "common_bottom" (top 9))
  (h4:eN K "goals" "goals" (top 11))
  (h5:eN K "is_ready" "is_ready" (top 12))
  (h6:eN K "ready_places" "ready_places" (top 13))
  (h7:eN K "levels" "levels" (top 14))
  (h8:eN K "ring" "ring" (top 15))
  (h9:eN K "row_with_head" "row_with_head" (top 17))
  (h10:eN K "swapped" "swapped" (top 18))
  (h11:eN K "without_first_column" "without_first_column" (top 19))
  (h12:eN K "swept" "swept" (top 20))
  (h13:eN K "whole_answers" "whole_answers" (top 21))
  (h14:eN K "column_of" "column_of" (top 22))
  (h15:eN K "turned_rows" "turned_rows" (top 23))
  (h16:eN K "steps_from" "steps_from" (top 25))
  (a17:aaq K mainGlobals "parts"=some (some (.ref QU))) (l17:K.lookup QU=some ⟨QY,QV,.func (aap "parts" "parts" (de (top 26)) (cS (top 26)) (au (top 26)) .none QZ Q0 Q4 QW (Value.ref tc) Q5),QX⟩) (e17:aao K (Value.ref tc) "parts"=true) (k17:aan K (.ref QU)=true)
  (h18:eN K "ways_of_picks" "ways_of_picks" (top 30))
  (h19:eN K "checked_parts" "checked_parts" (top 31))
  (h20:eN K "weighted_ways" "weighted_ways" (top 32))
  (h21:eN K "all_weighted_ways" "all_weighted_ways" (top 33))
  (h22:eN K "total_weight" "total_weight" (top 34))
  (h23:eN K "part_rows" "part_rows" (top 35))
  (h24:eN K "gain_of" "gain_of" (top 37))
  (h25:eN K "book_of" "book_of" (top 38))
  (h26:eN K "gains_of" "gains_of" (top 39))
  (h27:eN K "blank_worths" "blank_worths" (top 40))
  (h28:eN K "with_worths" "with_worths" (top 41))
  (h29:eN K "worths_of" "worths_of" (top 42))
  (h30:eN K "with_visits" "with_visits" (top 43))
  (h31:eN K "visits" "visits" (top 44))
  (h32:eN K "fits" "fits" (top 46))
  (h33:eN K "misfits" "misfits" (top 47))
  (h34:eN K "slips" "slips" (top 48))
  (h35:eN K "wanted_way" "wanted_way" (top 50))
  (h36:eN K "better_ways" "better_ways" (top 51))
  (h37:eN K "picks_of" "picks_of" (top 52))
  (h38:eN K "with_best_worths" "with_best_worths" (top 53))
  (h39:eN K "best_pick" "best_pick" (top 54))
  (h40:eN K "best" "best" (top 55))
  (h41:eN K "_law_cell" "_law_cell" (top 57))
  (h42:eN K "_law_mixed" "_law_mixed" (top 58))
  (h43:eN K "_law_low" "_law_low" (top 59))
  (h44:eN K "_law_plus" "_law_plus" (top 60))
  (h45:eN K "_law_times" "_law_times" (top 61))
  (h46:eN K "_law_share" "_law_share" (top 62))
  (h47:eN K "_law_turned" "_law_turned" (top 63))
  (h48:eN K "_law_throw" "_law_throw" (top 64))
  (h49:eN K "_law_board" "_law_board" (top 65))
  (h50:eN K "_law_picks" "_law_picks" (top 66))
  (h51:eN K "_law_copy" "_law_copy" (top 67))
  (h52:eN K "_law_drawn_picks" "_law_drawn_picks" (top 70))
  (a53:aaq K mainGlobals "law"=some (some (.ref Q6))) (l53:K.lookup Q6=some ⟨Rc,Q8,.func (aap "law" "law" (de (top 71)) (cS (top 71)) (au (top 71)) .none Rf Rg Rh Ra Nx Ri),Rb⟩) (e53:aao K Nx "law"=true) (k53:aan K (.ref Q6)=true)
  (z_abs:aaq K mainGlobals "abs"=some none)
  (z_all:aaq K mainGlobals "all"=some none)
  (z_any:aaq K mainGlobals "any"=some none)
  (z_enumerate:aaq K mainGlobals "enumerate"=some none)
  (z_len:aaq K mainGlobals "len"=some none)
  (z_list:aaq K mainGlobals "list"=some none)
  (z_max:aaq K mainGlobals "max"=some none)
  (z_min:aaq K mainGlobals "min"=some none)
  (z_range:aaq K mainGlobals "range"=some none)
  (z_reversed:aaq K mainGlobals "reversed"=some none)
  (z_sorted:aaq K mainGlobals "sorted"=some none)
  (z_sum:aaq K mainGlobals "sum"=some none)
  (z_zip:aaq K mainGlobals "zip"=some none)
  (c_MOST_PLACES:aaq K mainGlobals "MOST_PLACES"=some (some (.int 40 qG)))
  (c_MOST_PICKS:aaq K mainGlobals "MOST_PICKS"=some (some (.int 4096 rh)))
  (k_Book:aaq K mainGlobals "Book"=some (some (.ref aD)))
  (cl_Bookpg:PySem.W.plainGet K aD Str.empty=true)
  (cl_Bookhd:PySem.W.hasDictIn K aD=true)
  (cl_Bookpo:PySem.W.plainOver K aD=true)
  (cl_Booksa:aar K (.ref aD) "__setattr__"=some (some (.builtin "object.__setattr__")))
  (na_Book_bottom:aar K (.ref aD) "bottom"=some none)
  (na_Book_tops:aar K (.ref aD) "tops"=some none)
  (dia_Book:aar K (.ref aD) "__init__"=some (some (.ref oR)))
  (dii_Book:PySem.W.isFn K (.ref oR)=true)
  (dil_Book:K.lookup oR=some ⟨EO,EL,.func (aap "__init__" "Book.__init__" (de (inClass (top 36) 0)) (cS (inClass (top 36) 0)) (au (inClass (top 36) 0)) .none ER ES ET EM xm EU),EN⟩)
  (dic_Book:aao K xm "Book.__init__"=true)
  (dik_Book:aan K (.ref oR)=true)
  (dim_Book:PySem.W.makesIn K aD=true)
  (diq_Book:aan K (.ref aD)=true)
  (dma_Book_as_shares:aar K (.ref aD) "as_shares"=some (some (.ref dG)))
  (dmi_Book_as_shares:PySem.W.isFn K (.ref dG)=true)
  (dml_Book_as_shares:K.lookup dG=some ⟨kC,kr,.func (aap "as_shares" "Book.as_shares" (de (inClass (top 36) 2)) (cS (inClass (top 36) 2)) (au (inClass (top 36) 2)) .none kD kE kF kA fU kG),kB⟩)
  (dmc_Book_as_shares:aao K fU "Book.as_shares"=true)
  (dmk_Book_as_shares:aan K (.ref dG)=true)
  (dma_Book_scaled:aar K (.ref aD) "scaled"=some (some (.ref eE)))
  (dmi_Book_scaled:PySem.W.isFn K (.ref eE)=true)
  (dml_Book_scaled:K.lookup eE=some ⟨oi,oa,.func (aap "scaled" "Book.scaled" (de (inClass (top 36) 1)) (cS (inClass (top 36) 1)) (au (inClass (top 36) 1)) .none oj oq ou og iI oz),oh⟩)
  (dmc_Book_scaled:aao K iI "Book.scaled"=true)
  (dmk_Book_scaled:aan K (.ref eE)=true)
  :∃fd:FuncData,(∀(s:Shared) (v:Value),BindsTo s fd ⟨[v],[]⟩ [("_law_script",v)])/\∀base:Heap,K.In base->base.Ns mainGlobals mg->nM base mg tc tp->fz l.prog w K mg base (bF l.prog w) 30 fa fd ["_law_script"] (Ae K tp):=by
 have e:=XB.symm.trans (PySem.W.mg_of X G a53);cases e;have T:Txt K mg aD tc:=⟨ZN X G z_abs,ZN X G z_all,ZN X G z_any,ZN X G z_enumerate,ZN X G z_len,ZN X G z_list,ZN X G z_max,ZN X G z_min,ZN X G z_range,ZN X G z_reversed,ZN X G z_sorted,ZN X G z_sum,ZN X G z_zip,h0.dn X G,h1.dn X G,h2.dn X G,h3.dn X G,h4.dn X G,h5.dn X G,h6.dn X G,h7.dn X G,h8.dn X G,h9.dn X G,h10.dn X G,h11.dn X G,h12.dn X G,h13.dn X G,h14.dn X G,h15.dn X G,h16.dn X G,⟨_,_,mi l17 e17 k17,PySem.W.mg_of X G a17⟩,h18.dn X G,h19.dn X G,h20.dn X G,h21.dn X G,h22.dn X G,h23.dn X G,h24.dn X G,h25.dn X G,h26.dn X G,h27.dn X G,h28.dn X G,h29.dn X G,h30.dn X G,h31.dn X G,h32.dn X G,h33.dn X G,h34.dn X G,h35.dn X G,h36.dn X G,h37.dn X G,h38.dn X G,h39.dn X G,h40.dn X G,h41.dn X G,h42.dn X G,h43.dn X G,h44.dn X G,h45.dn X G,h46.dn X G,h47.dn X G,h48.dn X G,h49.dn X G,h50.dn X G,h51.dn X G,h52.dn X G,⟨_,PySem.W.mg_of X G c_MOST_PLACES⟩,⟨_,PySem.W.mg_of X G c_MOST_PICKS⟩,PySem.W.mg_of X G k_Book,⟨cl_Bookpg,cl_Bookhd,cl_Bookpo,cl_Booksa⟩,na_Book_bottom,na_Book_tops,⟨_,_,mi dil_Book dic_Book dik_Book,⟨dim_Book,dia_Book,dii_Book,diq_Book⟩,PySem.W.mg_of X G k_Book⟩,⟨_,_,mi dml_Book_as_shares dmc_Book_as_shares dmk_Book_as_shares,⟨dma_Book_as_shares,dmi_Book_as_shares,dmk_Book_as_shares⟩⟩,⟨_,_,mi dml_Book_scaled dmc_Book_scaled dmk_Book_scaled,⟨dma_Book_scaled,dmi_Book_scaled,dmk_Book_scaled⟩⟩,⟨_,_,_,_,_,PySem.W.mg_of X G a17,l17,rfl⟩⟩
 exact⟨_,λs v=>.of_eq rfl,λbase _ _ LB=>(KA T LB (mi l53 e53 k53)).mono ∅⟩
theorem walk {tc tp:Addr} {l:PySem.W.OpenLaw} {q:Program} {loose:List Str} {XP:(Str->Option Value)->Heap->Prop} {YP:World->Heap->Prop} {d:DefRec} {K:Params->aam} (hn:l.most=some 63) (LL:d.params.defaults=[])
  (hY:∀(w:World) (h:Heap),YP w h->(K w.params).In h) (PJ:∀(w:World) (h:Heap),YP w h->h.get? tp=some (PySem.W.tabObj #[])/\PySem.W.CodeHd h tc tp/\(K w.params).lookup tp=none)
  (F:∀(w:World) (mg:Str->Option Value) (fa:Addr) (h:Heap),(K w.params).In h->h.Ns mainGlobals mg->mg d.name=some (.ref fa)->
   ∃fd:FuncData,(∀(s:Shared) (u:Value),BindsTo s fd ⟨[u],[]⟩ [("_law_script",u)])/\∀base:Heap,(K w.params).In base->base.Ns mainGlobals mg->nM base mg tc tp->fz l.prog w (K w.params) mg base (bF l.prog w) 30 fa fd ["_law_script"] (Ae (K w.params) tp)):
  PySem.W.WalkO q loose XP YP l.row.toRowW d [] (λf vs=>PySem.call f vs):=
 L2.CP (tc:=tc) (tp:=tp) (dsc:=dsc) (n:=63) (k:=30) (x:="_law_script") (CX:=λw=>bF l.prog w) (sp:=λw=>Ae (K w.params) tp) hn ∅ LL ⟨rfl,∅,∅⟩ hY PJ F (λ_ _ a ns hl hT hS=>⟨a,ns,rfl,hT,hS,hl,λ_=>rfl⟩) λ_ _ _ _ _ z=>(zc _ _) _ _ _ _ _ z
end K43
open PySem PySem.W PyProof.Rows
set_option maxRecDepth 100000 in
set_option maxHeartbeats 0 in
theorem PySem.Challenge.cw_pressluck_k43_whole_what_a_way_lacks_holds : PySem.Challenge.rw_pressluck_k43_whole_what_a_way_lacks.Holds := by
  w_on; refine holds_law (by decide +kernel) fun XC => ?_
  refine holds_open (q := K43.vw) (loose := []) (Xt := (fun s => xlAt K43.vw [] s && recOk (RowW.records (OpenRow.toRowW (PySem.W.OpenLaw.row PySem.Challenge.rw_pressluck_k43_whole_what_a_way_lacks))) s)) (XP := XL K43.vw []) (Yf := Hook.obs (PySem.W.kmHook K43.pre.heap_1 K43.GW K43.HZ [173])) (Ya := Hook.val (PySem.W.kmHook K43.pre.heap_1 K43.GW K43.HZ [173])) (YP := Hook.says (PySem.W.kmHook K43.pre.heap_1 K43.GW K43.HZ [173])) (N := 5922) (Hd.Av (by kernel_rfl) (by decide) (fun s => by kernel_rfl) K43.run) (Hook.of (PySem.W.kmHook K43.pre.heap_1 K43.GW K43.HZ [173])) (Hook.keeps (PySem.W.kmHook K43.pre.heap_1 K43.GW K43.HZ [173])) (fun s e => xl_of s (Bool.and_eq_true_iff.mp e).1) XL.keeps (by rfl) (by rfl) (by rfl) (fun s e => recFacts_of (Bool.and_eq_true_iff.mp e).2) (by rfl) (by first | assumption | decide +kernel) (by decide +kernel) ⟨rfl, rfl, rfl, rfl, rfl, by decide +kernel⟩ ?hw ?hc
  (case hw => w_witness2)
  k_fill
  refine K43.walk (tc := 175) (tp := 173) (l := PySem.Challenge.rw_pressluck_k43_whole_what_a_way_lacks) rfl rfl (fun w h Y => PySem.W.km_in_of Y) (fun w h Y => ⟨PySem.W.km_tabs_of Y _ (.head _), PySem.W.codeHd_of_K (PySem.W.km_in_of Y) (by kernel_rfl), by kernel_rfl⟩) ?F
  case F =>
    intro w mg fa h KX G LM;refine' K43.all_mk (tc := 175) (tp := 173) KX G LM ?h0 ?h1 ?h2 ?h3 ?h4 ?h5 ?h6 ?h7 ?h8 ?h9 ?h10 ?h11 ?h12 ?h13 ?h14 ?h15 ?h16 ?a17 ?l17 ?e17 ?k17 ?h18 ?h19 ?h20 ?h21 ?h22 ?h23 ?h24 ?h25 ?h26 ?h27 ?h28 ?h29 ?h30 ?h31 ?h32 ?h33 ?h34 ?h35 ?h36 ?h37 ?h38 ?h39 ?h40 ?h41 ?h42 ?h43 ?h44 ?h45 ?h46 ?h47 ?h48 ?h49 ?h50 ?h51 ?h52 ?a53 ?l53 ?e53 ?k53 ?z_abs ?z_all ?z_any ?z_enumerate ?z_len ?z_list ?z_max ?z_min ?z_range ?z_reversed ?z_sorted ?z_sum ?z_zip ?c_MOST_PLACES ?c_MOST_PICKS ?k_Book ?cl_Bookpg ?cl_Bookhd ?cl_Bookpo ?cl_Booksa ?na_Book_bottom ?na_Book_tops ?dia_Book ?dii_Book ?dil_Book ?dic_Book ?dik_Book ?dim_Book ?diq_Book ?dma_Book_as_shares ?dmi_Book_as_shares ?dml_Book_as_shares ?dmc_Book_as_shares ?dmk_Book_as_shares ?dma_Book_scaled ?dmi_Book_scaled ?dml_Book_scaled ?dmc_Book_scaled ?dmk_Book_scaled
    (case h0 | h1 | h2 | h3 | h4 | h5 | h6 | h7 | h8 | h9 | h10 | h11 | h12 | h13 | h14 | h15 | h16 | h18 | h19 | h20 | h21 | h22 | h23 | h24 | h25 | h26 | h27 | h28 | h29 | h30 | h31 | h32 | h33 | h34 | h35 | h36 | h37 | h38 | h39 | h40 | h41 | h42 | h43 | h44 | h45 | h46 | h47 | h48 | h49 | h50 | h51 | h52 => exact K43.U3 (by k_is) (by k_is) (by k_is) (by k_is))
    (case a17 | l17 | e17 | k17 | a53 | l53 | e53 | k53 | z_abs | z_all | z_any | z_enumerate | z_len | z_list | z_max | z_min | z_range | z_reversed | z_sorted | z_sum | z_zip | c_MOST_PLACES | c_MOST_PICKS | k_Book | cl_Bookpg | cl_Bookhd | cl_Bookpo | cl_Booksa | na_Book_bottom | na_Book_tops | dia_Book | dii_Book | dil_Book | dic_Book | dik_Book | dim_Book | diq_Book | dma_Book_as_shares | dmi_Book_as_shares | dml_Book_as_shares | dmc_Book_as_shares | dmk_Book_as_shares | dma_Book_scaled | dmi_Book_scaled | dml_Book_scaled | dmc_Book_scaled | dmk_Book_scaled => k_is)
