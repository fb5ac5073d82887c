import PyProof.Rows.All
import Wide.All
import OpenK.AllK
import Wide.FinOn
import Lean
import PyProof.EqAt
import PyProof.EqKinds
import PyProof.TupleCall
import PyProof.NeKinds
import PySem.Challenge.RW_pressluck_k64_picks_of_a_rule
set_option Elab.async false
set_option linter.all false
set_option maxRecDepth 100000
local macro_rules | `(tactic| omega) => `(tactic| lia)
theorem aac : type_of% @List.length_map := @List.length_map
theorem aad : type_of% @List.getElem?_map := @List.getElem?_map
theorem aae : type_of% @List.map_cons := @List.map_cons
theorem aaf : type_of% @Nat.le_refl := @Nat.le_refl
theorem aag : type_of% @PySem.W.mg_of := @PySem.W.mg_of
theorem aah : type_of% @Nat.zero_le := @Nat.zero_le
theorem aai : type_of% @Nat.ne_of_lt := @Nat.ne_of_lt
theorem aaj : type_of% @List.mem_cons_of_mem := @List.mem_cons_of_mem
theorem aak : type_of% @List.length_append := @List.length_append
theorem aal : type_of% @Nat.le_trans := @Nat.le_trans
theorem aam : type_of% @List.mem_of_getElem? := @List.mem_of_getElem?
theorem aan : type_of% @List.size_toArray := @List.size_toArray
theorem aao : type_of% @List.map_append := @List.map_append
theorem aap : type_of% @List.mem_cons_self := @List.mem_cons_self
theorem aaq : type_of% @List.length_cons := @List.length_cons
theorem aar : type_of% @Bool.false_ne_true := @Bool.false_ne_true
theorem aas : type_of% @Nat.lt_of_lt_of_le := @Nat.lt_of_lt_of_le
theorem aat : type_of% @List.getElem?_eq_getElem := @List.getElem?_eq_getElem
theorem aau : type_of% @List.take_of_length_le := @List.take_of_length_le
theorem aav : type_of% @Int.emod_nonneg := @Int.emod_nonneg
theorem aaw : type_of% @Int.emod_lt_of_pos := @Int.emod_lt_of_pos
theorem aax : type_of% @PySem.F.plainAttrs_list := @PySem.F.plainAttrs_list
theorem aay : type_of% @Option.some.inj := @Option.some.inj
theorem aaz : type_of% @Nat.lt_irrefl := @Nat.lt_irrefl
theorem aaA : type_of% @List.lookup_cons := @List.lookup_cons
theorem aaB : type_of% @PySem.boot_len := @PySem.boot_len
theorem aaC : type_of% @List.map_nil := @List.map_nil
theorem aaD : type_of% @List.mem_cons := @List.mem_cons
theorem aaE : type_of% @List.length_range := @List.length_range
theorem aaF : type_of% @Bool.and_eq_true := @Bool.and_eq_true
theorem aaG : type_of% @List.take_add_one := @List.take_add_one
theorem aaH : type_of% @PySem.W.mg_none_of := @PySem.W.mg_none_of
theorem aaI : type_of% @List.length_singleton := @List.length_singleton
theorem aaJ : type_of% @List.map_map := @List.map_map
theorem aaK : type_of% @PySem.F.slot_list_append := @PySem.F.slot_list_append
theorem aaL : type_of% @PySem.F.type_list_append := @PySem.F.type_list_append
theorem aaM : type_of% @Nat.ne_of_gt := @Nat.ne_of_gt
theorem aaN : type_of% @List.mem_append_right := @List.mem_append_right
theorem aaO : type_of% @PySem.W.kia_one := @PySem.W.kia_one
theorem aaP : type_of% @List.append_nil := @List.append_nil
theorem aaQ : type_of% @PySem.mem_of_lookup := @PySem.mem_of_lookup
theorem aaR : type_of% @List.find?_cons := @List.find?_cons
theorem aaS : type_of% @List.getD_eq_getElem?_getD := @List.getD_eq_getElem?_getD
theorem aaT : type_of% @Nat.lt_succ_self := @Nat.lt_succ_self
theorem aaU : type_of% @List.length_take := @List.length_take
theorem aaV : type_of% @List.not_mem_nil := @List.not_mem_nil
theorem aaW : type_of% @List.sum_cons := @List.sum_cons
theorem aaX : type_of% @List.set_cons_zero := @List.set_cons_zero
theorem aaY : type_of% @List.set_cons_succ := @List.set_cons_succ
theorem aaZ : type_of% @List.lookup_cons_self := @List.lookup_cons_self
theorem aa0 : type_of% @List.length_nil := @List.length_nil
theorem aa1 : type_of% @Int.toNat_natCast := @Int.toNat_natCast
theorem aa2 : type_of% @List.getElem?_append_left := @List.getElem?_append_left
theorem aa3 : type_of% @List.filterMap_cons := @List.filterMap_cons
theorem aa4 : type_of% @List.replicate_succ := @List.replicate_succ
theorem aa5 : type_of% @List.getElem?_append_right := @List.getElem?_append_right
theorem aa6 : type_of% @List.idxOf_lt_length_of_mem := @List.idxOf_lt_length_of_mem
theorem aa7 : type_of% @List.find?_cons_of_pos := @List.find?_cons_of_pos
theorem aa8 : type_of% @List.find?_cons_of_neg := @List.find?_cons_of_neg
namespace Hd
open PySem PySem.W PyProof.Rows
noncomputable def yM (ok:Thread->Bool) (st:SharedT->Thread->Option (SharedT×Thread)) (n:Nat):SharedT->Thread->Option SharedT:=
 @Nat.rec (λ_=>SharedT->Thread->Option SharedT) (λ_ _=>none)
  (λ_ ih s t=>@Bool.rec (λ_=>Option SharedT) (@Bool.rec (λ_=>Option SharedT) none (@Option.rec (SharedT×Thread) (λ_=>Option SharedT) none (λr=>@Prod.rec _ _ (λ_=>Option SharedT) (λa b=>ih a b) r) (st s t)) (ok t)) (some s) (through t)) n
theorem pW {tb:String->Option Builtin} {p:Program} {w:World} {n₀:Nat} {ann:Option Value}:∀(n:Nat) (s:SharedT) (t:Thread) (s':SharedT),yM (stepOk n₀ ann) (stepT (denote tb) p w) n s t=some s'->topRun tb p w n₀ ann n s.abs t=some s'.abs
 | 0,_,_,_,h=>by cases h
 | n+1,s,t,s',h=>by
  unfold topRun
  replace h:@Bool.rec (λ_=>Option SharedT) (@Bool.rec (λ_=>Option SharedT) none (@Option.rec (SharedT×Thread) (λ_=>Option SharedT) none (λr=>@Prod.rec _ _ (λ_=>Option SharedT) (λa b=>yM (stepOk n₀ ann) (stepT (denote tb) p w) n a b) r) (stepT (denote tb) p w s t)) (stepOk n₀ ann t)) (some s) (through t)=some s':=h
  cases ht:through t with
  | true=>rw[ht] at h;cases h;rfl
  | false=>
   rw[ht] at h
   cases hk:stepOk n₀ ann t with
   | false=>rw[hk] at h;cases h
   | true=>
    rw[hk] at h
    cases hs:stepT (denote tb) p w s t with
    | none=>rw[hs] at h;cases h
    | some r=>obtain⟨s₂,t₂⟩:=r;rw[hs] at h;rw[stepT_spec hs];exact pW n s₂ t₂ s' h
noncomputable def bt (P:Params):BT:=((boot_heap P).objs.toList.foldl (fun(x:BT×Nat) o=>(x.1.ins x.2 o,x.2+1)) (.nil,0)).1
noncomputable def Be (w:World) (os:OsState):SharedT:=⟨bt w.params,11,{},Array.mk [],boot_drawn,boot_toks,os⟩
theorem zP (w:World) (os:OsState):(Be w os).abs=⟨boot_heap w.params,Array.mk [],boot_drawn,boot_toks,os⟩:=by kernel_rfl
theorem xf (w:World):((boot_heap w.params).isNs mainGlobals && (Array.mk []:Array GenState).size==0,(boot_heap w.params).objs.size,(boot_heap w.params).nsMap mainGlobals "__annotations__")=(true,11,some (.ref 6)):=by kernel_rfl
theorem Bf {p q:Program} {loose:List Str} {Xt:Shared->Bool} {α:Type} {Yf:Shared->α} {Ya:World->α} {N:Nat} {g0:Bool}
  (JC:∀w:World,(fencedOpening treeTable p w N).map (λs=>(s.heap,s.gens,s.drawn,s.toks))=some (boot_heap w.params,Array.mk [],boot_drawn,boot_toks))
  (run:∀(w:World) (os:OsState),(yM (stepOk 11 (some (.ref 6))) (stepT (denote treeTable) p w) N (Be w os) (topStub p)).map (λs=>((staticsOk (importedModules p.main.body) (boot_heap w.params) s.abs.heap && namesBound p s.abs.heap && gensDone s.abs && laidKept (boot_heap w.params) s.abs.heap),openSeen q loose (importedModules p.main.body) Xt g0 s.abs,Yf s.abs))=some (true,openGood q loose,Ya w)):
  LeftO p q loose Xt Yf Ya N g0:=λw=>by
 obtain⟨⟨h,gs,d,k,os⟩,e,e'⟩:=Option.map_eq_some_iff.mp (JC w)
 obtain⟨rfl,rfl,rfl,rfl⟩:h=boot_heap w.params/\gs=Array.mk []/\d=boot_drawn/\k=boot_toks:=by simpa using e'
 obtain⟨z1,z2,z3⟩:_/\_/\_:=by simpa only[Prod.mk.injEq] using xf w
 obtain⟨s,r,l⟩:=Option.map_eq_some_iff.mp (run w os)
 obtain⟨l1,l2,l3⟩:_/\_/\_:=by simpa only[Prod.mk.injEq] using l
 have r:=pW _ _ _ _ r
 rw[zP] at r
 have t:topFrom treeTable p w N ⟨boot_heap w.params,Array.mk [],boot_drawn,boot_toks,os⟩=some s.abs:=by
  unfold topFrom
  dsimp only
  rw[z1,z2,z3,r]
  show(match staticsOk (importedModules p.main.body) (boot_heap w.params) s.abs.heap && namesBound p s.abs.heap && gensDone s.abs && laidKept (boot_heap w.params) s.abs.heap with | true=>_ | false=>_)=_
  rw[l1]
 unfold openEnds
 rw[e]
 show((topFrom treeTable p w N ⟨boot_heap w.params,Array.mk [],boot_drawn,boot_toks,os⟩)).map _=_
 rw[t]
 show some (_,_)=_
 rw[l2,l3]
noncomputable def Runs (p q:Program) (loose:List Str) (Xt:Shared->Bool) {α:Type} (Yf:Shared->α) (Ya:World->α) (N:Nat) (g0:Bool) (w:World):Prop:=
 ∀os:OsState,(yM (PySem.W.Fast.tw6613529449190102663 11 (some (.ref 6))) (PySem.W.Fast.tw10156331382660048174 (PySem.W.Fast.tw11892475500146522536 PySem.W.Fast.tw14364793385576792824) p w) N (Be w os) (topStub p)).map (λs=>((staticsOk (importedModules p.main.body) (boot_heap w.params) s.abs.heap && namesBound p s.abs.heap && gensDone s.abs && laidKept (boot_heap w.params) s.abs.heap),PySem.W.Fast.tw4187177175401517315 q loose (importedModules p.main.body) Xt g0 s.abs,Yf s.abs))=some (true,openGood q loose,Ya w)
theorem zQ {p q:Program} {loose:List Str} {Xt:Shared->Bool} {α:Type} {Yf:Shared->α} {Ya:World->α} {N:Nat} {g0:Bool}
  (e:opening p=plainProg p.main.scope.names) (hN:Nat.ble 600 N=true) (f:∀s,fenceModules? p s=some s)
  (run:∀w:World,Runs p q loose Xt Yf Ya N g0 w):
  LeftO p q loose Xt Yf Ya N g0:=by
 refine Bf (boot_open e hN f) ?_
 unfold Runs at run
 rw[PySem.W.Fast.te6613529449190102663,PySem.W.Fast.te10156331382660048174,PySem.W.Fast.te11892475500146522536,PySem.W.Fast.te14364793385576792824,PySem.W.Fast.te4187177175401517315]
 exact run
end Hd
namespace K64
open PySem PySem.Spec PyProof.Rows
noncomputable def top (i:Nat):Stmt:=PySem.Challenge.pw_pressluck_k64_picks_of_a_rule.main.body.getD i (.Pass ⟨0,0,0,0⟩)
end K64
section Nk
open PySem PySem.W PyProof.Rows
local macro_rules | `(tactic| o_head $H) => `(tactic| (refine (fun (_ : PySem.W.Hook) => ?_) $H; assumption))
theorem K64.pre (h:PySem.W.OpenRow.Holds (PySem.W.OpenLaw.row PySem.Challenge.rw_pressluck_k64_picks_of_a_rule)):PySem.W.OpenRow.Holds (PySem.W.OpenLaw.row PySem.Challenge.rw_pressluck_k64_picks_of_a_rule):=by
 k_head
noncomputable def K64.FA:List Addr:=[2,3,15,22,23,24,25,28,35,36,37,40,47,48,49,52,59,60,61,64,71,72,73,76,78,79,81,82,83,85,86,88,89,90,92,93,95,96,97,100,101,102,104,105,107,108,109,112,113,114,117,118,119,121,122,124,125,126,128,129,131,132,133,135,136,138,139,140,142,143,145,146,147,149,150,152,153,154,157,158,159,162,163,164,167,168,169,171,172,174,175,176,179,180,181,183,184,186,187,188,191,192,193,196,197,198,201,202,203,206,207,208,210,211,213,214,222,224,225,227,228,229,231,232,234,235,236,238,239,241,242,243,245,246,248,249,250,252,253,255,256,257,259,260,262,263,264,266,267,269,270,271,274,275,276,278,279,281,282,283,285,286,288,289,290,293,294,295,298,299,300,302,303,305,306,307,308,309,310,311,321,323,324,326,327,328,330,331,333,334,335,336,337,338,339,342,344,345,347,348,349,352,353,354,356,357,359,360,361,364,365,366,368,369,371,372,373,375,376,378,379,380,382,383,385,386,387,389,390,392,393,394,396,397,399,400,401,403,404,406,407,408,410,411,413,414,415,417,418,420,421,422,425,426,427,429,430,432,433,434,436,437,439,440,441,443,444,446,447,448,450,451,453,454]
theorem K64.GD (P:PySem.Params):K64.FA=(K64.pre.heap_1 P).map (·.1):=by kernel_rfl
noncomputable def K64.vw:PySem.Program:={PySem.Challenge.pw_pressluck_k64_picks_of_a_rule with main:={PySem.Challenge.pw_pressluck_k64_picks_of_a_rule.main with body:=[K64.top 1,K64.top 2,K64.top 3,K64.top 4,K64.top 5,K64.top 7,K64.top 8,K64.top 9,K64.top 11,K64.top 12,K64.top 13,K64.top 14,K64.top 16,K64.top 17,K64.top 18,K64.top 19,K64.top 20,K64.top 21,K64.top 22,K64.top 23,K64.top 24,K64.top 25,K64.top 26,K64.top 27,K64.top 28,K64.top 29,K64.top 30,K64.top 31,K64.top 33,K64.top 34,K64.top 35,K64.top 36,K64.top 37,K64.top 38,K64.top 39,K64.top 40,K64.top 41,K64.top 43,K64.top 44,K64.top 45,K64.top 47,K64.top 48,K64.top 49,K64.top 50,K64.top 51,K64.top 52,K64.top 53,K64.top 54,K64.top 55,K64.top 56]}}
theorem K64.run (w:World):Hd.Runs (RowW.prog (OpenRow.toRowW (PySem.W.OpenLaw.row PySem.Challenge.rw_pressluck_k64_picks_of_a_rule))) K64.vw [] (λs=>xlAt K64.vw [] s && recOk (RowW.records (OpenRow.toRowW (PySem.W.OpenLaw.row PySem.Challenge.rw_pressluck_k64_picks_of_a_rule))) s) (Hook.obs (kHook K64.pre.heap_1 K64.FA K64.GD)) (Hook.val (kHook K64.pre.heap_1 K64.FA K64.GD)) 6562 true w:=λos=>by kernel_rfl
end Nk
namespace L2
open PySem PySem.Spec PyProof.Rows
abbrev Key:=Sum Int Str
noncomputable def pX:Key->Value->Bool
 | .inl k,v=>Value.isInt k v
 | .inr x,v=>Value.isStrOf x v
noncomputable def GF (w:World):Key->Int
 | .inl k=>hashInt k
 | .inr x=>hashStr w x
theorem cH:∀{k:Key} {v:Value},pX k v=true->(∃i t,k=Sum.inl i/\v=Value.int i t)\/(∃x t,k=Sum.inr x/\v=Value.str x t)
 | .inl i,v,h=>by
  obtain⟨t,e⟩:=Value.isInt_shape (k:=i) (v:=v) h
  exact .inl ⟨i,t,rfl,e⟩
 | .inr x,v,h=>by
  obtain⟨t,e⟩:=Value.isStrOf_shape (x:=x) (v:=v) h
  exact .inr ⟨x,t,rfl,e⟩
theorem zR (i:Int) (t:Tok):pX (.inl i) (.int i t)=true:=by simp [pX,Value.isInt]
theorem zS (x:Str) (t:Tok):pX (.inr x) (.str x t)=true:=by simp [pX,Value.isStrOf]
theorem GG (a b:Int):decide ((Sum.inl a:Key)=Sum.inl b)=(a==b):=by
 by_cases e:a=b
 ·subst e;simp
 ·have h:¬(Sum.inl a:Key)=Sum.inl b:=λq=>e (Sum.inl.inj q)
  rw[decide_eq_false h]
  exact(beq_eq_false_iff_ne.mpr e).symm
theorem GH (a b:Str):decide ((Sum.inr a:Key)=Sum.inr b)=decide (a=b):=by
 by_cases e:a=b
 ·subst e;simp
 ·have h:¬(Sum.inr a:Key)=Sum.inr b:=λq=>e (Sum.inr.inj q)
  rw[decide_eq_false h,decide_eq_false e]
theorem GI (a:Int) (b:Str):decide ((Sum.inl a:Key)=Sum.inr b)=false:=decide_eq_false (λq=>nomatch q)
theorem GJ (a:Str) (b:Int):decide ((Sum.inr a:Key)=Sum.inl b)=false:=decide_eq_false (λq=>nomatch q)
noncomputable def cF (prog:Program) (w:World):PySem.KeyKind prog w Key where
 is:=pX
 hash:=GF w
 inj:=λv a b ha hb=>by
  rcases cH ha with ⟨i,t,rfl,rfl⟩ | ⟨x,t,rfl,rfl⟩
  ·rcases cH hb with ⟨j,u,rfl,e⟩ | ⟨y,u,rfl,e⟩
   ·injection e with e1 _;rw[e1]
   ·exact nomatch e
  ·rcases cH hb with ⟨j,u,rfl,e⟩ | ⟨y,u,rfl,e⟩
   ·exact nomatch e
   ·injection e with e1 _;rw[e1]
 byValue:=λk v h=>by
  rcases cH h with ⟨i,t,rfl,rfl⟩ | ⟨x,t,rfl,rfl⟩ <;>rfl
 pyHash:=λhv h=>by
  rcases cH hv with ⟨i,t,rfl,rfl⟩ | ⟨x,t,rfl,rfl⟩
  ·exact wpAny_pyHash_int h
  ·exact wpAny_pyHash_str h
 eqBool:=λhu hv h=>by
  rcases cH hu with ⟨i,t,rfl,rfl⟩ | ⟨x,t,rfl,rfl⟩
  ·rcases cH hv with ⟨j,u,rfl,rfl⟩ | ⟨y,u,rfl,rfl⟩
   ·rw[GG] at h;exact wpAny_eqBool_int h
   ·rw[GI] at h;exact SeqAt.EqAt.int_str i t y u _ _ _ _ h
  ·rcases cH hv with ⟨j,u,rfl,rfl⟩ | ⟨y,u,rfl,rfl⟩
   ·rw[GJ] at h;exact SeqAt.EqAt.str_int x t j u _ _ _ _ h
   ·rw[GH] at h;exact wpAny_eqBool_str h
 «strs»:=λk x t v h=>by
  rcases cH h with ⟨i,u,rfl,e⟩ | ⟨y,u,rfl,e⟩
  ·exact nomatch e
  ·injection e with e1 _
   subst e1
   cases v <;>rfl
theorem vi (prog:Program) (w:World) (i:Int) (t:Tok):(cF prog w).is (.inl i) (.int i t)=true:=zR i t
theorem vj (prog:Program) (w:World) (x:Str) (t:Tok):(cF prog w).is (.inr x) (.str x t)=true:=zS x t
end L2
namespace L2
open PySem PySem.Spec PyProof.Rows
inductive V where
 | cZ | bl (b:Bool) | int (i:Int) | str (x:Str) | A9 (b:Array UInt8) | GK (b:UInt64) | ref (a:Addr) | ty (n:String)
 deriving DecidableEq
noncomputable def RelV:V->Value->Prop
 | .cZ,u=>u=Value.none
 | .bl b,u=>u=Value.bool b
 | .int i,u=>∃t,u=Value.int i t
 | .str x,u=>∃t,u=Value.str x t
 | .A9 b,u=>∃t,u=Value.bytes b t
 | .GK b,u=>∃t,u=Value.float b t
 | .ref a,u=>u=Value.ref a
 | .ty n,u=>u=Value.type n
abbrev bF:List V->List Value->Prop:=Paired RelV
theorem bF.length {xs:List V} {us:List Value} (r:bF xs us):xs.length=us.length:=Paired.length r
theorem bF.get:∀{xs:List V} {us:List Value} {i:Nat} {x:V},bF xs us->xs[i]?=some x->∃u,us[i]?=some u/\RelV x u
 | _,_,_,_,.nil,e=>by simp at e
 | _,_,0,_,.cons r _,e=>by simp at e;subst e;exact⟨_,rfl,r⟩
 | _,_,i+1,x,.cons _ t,e=>by
  obtain⟨u,h1,h2⟩:=bF.get (i:=i) (x:=x) t (by simpa using e)
  exact⟨u,by simpa using h1,h2⟩
theorem bF.set {x:V} {u:Value} (r:RelV x u):∀{xs:List V} {us:List Value} (i:Nat),bF xs us->bF (xs.set i x) (us.set i u)
 | _,_,_,.nil=>.nil
 | _,_,0,.cons _ t=>.cons r t
 | _,_,i+1,.cons q t=>.cons q (bF.set r i t)
theorem bF.append:∀{xs ys:List V} {us ws:List Value},bF xs us->bF ys ws->bF (xs++ys) (us++ws)
 | _,_,_,_,.nil,s=>s
 | _,_,_,_,.cons r t,s=>.cons r (bF.append t s)
theorem bF.take:∀{xs:List V} {us:List Value} (n:Nat),bF xs us->bF (xs.take n) (us.take n)
 | _,_,0,_=>.nil
 | _,_,_+1,.nil=>.nil
 | _,_,n+1,.cons r t=>.cons r (bF.take n t)
theorem bF.drop:∀{xs:List V} {us:List Value} (n:Nat),bF xs us->bF (xs.drop n) (us.drop n)
 | _,_,0,r=>r
 | _,_,_+1,.nil=>.nil
 | _,_,n+1,.cons _ t=>bF.drop n t
noncomputable def iK:Option V->Option Value->Prop
 | some v,some u=>RelV v u
 | none,none=>True
 | _,_=>False
noncomputable def KV {κ:Type}:List (κ×V)->List (κ×Value)->Prop:=Paired fun(p:κ×V) (q:κ×Value)=>p.1=q.1/\RelV p.2 q.2
noncomputable def kV:Key->V
 | .inl i=>.int i
 | .inr x=>.str x
inductive HO where
 | lst (xs:List V)
 | tup (xs:List V)
 | dK (kvs:List (Key×V)) | dT (kvs:List (List Key×V))
 | set (S:Int->Bool) (n:Nat)
 | ins (C dx:Addr) (fs:List (Str×V))
 | own (x:Addr)
 | xd (fs:List (Str×V))
 | met (f x:Addr)
 | Mv (lo hi:Int)
 | vf (o:Obj) (u:HO)
 | yN (ps:Array Value)
 | ext (φ:Heap->Prop)
abbrev Hp:=Addr->Option HO
noncomputable def upd (H:Hp) (a:Addr) (o:HO):Hp:=λb=>if b=a then some o else H b
theorem aq {H:Hp} {a:Addr} {o:HO}:upd H a o a=some o:=by unfold upd;rw[if_pos rfl]
theorem aD {H:Hp} {a b:Addr} {o:HO} (h:b≠a):upd H a o b=H b:=by unfold upd;rw[if_neg h]
theorem yO {H:Hp} {a:Addr} {o u:HO}:upd (upd H a o) a u=upd H a u:=by
 funext b;unfold upd;split <;>rfl
theorem JD {H:Hp} {a b:Addr} {o u:HO} (h:H a=some o) (h':H b=some u) (d:o≠u):a≠b:=by
 intro e;subst e;rw[h] at h';exact d (aay h')
theorem eJ {H:Hp} {a b:Addr} {o:HO} (h:H a=some o) (h':H b=none):a≠b:=by
 intro e;subst e;rw[h] at h';cases h'
noncomputable def TabAt (H:Hp) (h:Heap) (a:Addr) (ps:Array Value):Prop:=∃mo:Array Value,h.get? a=some {cls:=.none,data:=.fields mo}/\
 (mo=#[]\/∃(l c:Value) (c1:Addr) (q:Str) (t:Tok),ps=#[l,c,.str q t]/\mo=#[l,c,.ref c1]/\H c1=some (.own a)/\h.CodeRec (.ref c1) q)
section
variable (P : Program) (w : World)
noncomputable def cA (H:Hp) (h:Heap) (a:Addr):HO->Prop
 | .lst xs=>xs.length<=sizeLine/\∃(br:List Value) (n:Nat),bF xs br/\h.get? a=some {cls:=.type "list",data:=.seq br.toArray n}
 | .tup xs=>xs.length<=sizeLine/\∃br:List Value,bF xs br/\IsTup h a br.toArray
 | .dK kvs=>kvs.length<=sizeLine/\(a==sysModules)=false/\∃vs,KV kvs vs/\h.DictOf (cF P w) a vs
 | .dT kvs=>kvs.length<=sizeLine/\(a==sysModules)=false/\∃xs:List (List Key×Addr×Value),
   Paired (fun(p:List Key×V) (q:List Key×Addr×Value)=>p.1=q.1/\H q.2.1=some (.tup (p.1.map kV))/\RelV p.2 q.2.2) kvs xs/\
   ∃o es ep,h.get? a=some o/\o.ExactDict/\o.data=.dict es ep/\es.toList=xs.map (entryOfKey (tupleKind (cF P w)))/\(xs.map (·.1)).Nodup
 | .set S n=>h.SetOf (intKind P w) a S n
 | .ins C dx fs=>H dx=some (.own a)/\fs.length<=1000/\dx≠a/\h.get? a=some (PySem.W.instObj C dx)/\
   ∃mA,h.Ns1 dx mA/\(∀f,iK (fs.lookup f) (mA f))/\PySem.Within mA (fs.map (·.1))
 | .own _=>∃o,h.get? a=some o
 | .xd fs=>∃mA,h.Ns1 a mA/\∀f,iK (fs.lookup f) (mA f)
 | .Mv lo hi=>∃t u v,h.get? a=some {cls:=.type "range",data:=.fields #[.int lo t,.int hi u,.int 1 v]}
 | .vf o u=>h.get? a=some o/\cA H h a u
 | .yN ps=>TabAt H h a ps
 | .met f x=>h.get? a=some (PySem.W.methodObj (.ref f) (.ref x))
 | .ext φ=>φ h/\(∃o,h.get? a=some o)/\∀h1 h2:Heap,φ h1->(∀o,h1.get? a=some o->h2.get? a=some o)->φ h2
noncomputable def gG (H:Hp) (h:Heap):Prop:=∀a o,H a=some o->cA P w H h a o
end
section
variable {P : Program} {w : World} {H H' : Hp} {h h' : Heap} {a : Addr} {o : HO}
theorem cA.lt (x:cA P w H h a o):a<h.objs.size:=by
 cases o with
 | lst xs=>obtain⟨_,_,_,_,e⟩:=x;exact Heap.lt_size e
 | tup xs=>obtain⟨_,_,_,p⟩:=x;exact p.lt
 | dK kvs=>obtain⟨_,_,_,_,o,_,_,e,_⟩:=x;exact Heap.lt_size e
 | dT kvs=>obtain⟨_,_,_,_,o,_,_,e,_⟩:=x;exact Heap.lt_size e
 | set S n=>obtain⟨o,_,_,_,e,_⟩:=x;exact Heap.lt_size e
 | ins C dx fs=>obtain⟨_,_,_,e,_⟩:=x;exact Heap.lt_size e
 | own y=>obtain⟨_,e⟩:=x;exact Heap.lt_size e
 | xd fs=>obtain⟨_,⟨_,_,_,e,_⟩,_⟩:=x;exact Heap.lt_size e
 | Mv lo hi=>obtain⟨_,_,_,e⟩:=x;exact Heap.lt_size e
 | vf ob u=>obtain⟨e,_⟩:=x;exact Heap.lt_size e
 | yN ps=>obtain⟨_,e,_⟩:=x;exact Heap.lt_size e
 | met f y=>exact Heap.lt_size (show h.get? a=some _ from x)
 | ext φ=>obtain⟨_,⟨_,e⟩,_⟩:=x;exact Heap.lt_size e
theorem Paired.GL {α β:Type} {F G:α->β->Prop}:∀{l₁:List α} {l₂:List β},Paired F l₁ l₂->(∀a b,F a b->G a b)->Paired G l₁ l₂
 | _,_,.nil,_=>.nil
 | _,_,.cons r t,f=>.cons (f _ _ r) (Paired.GL t f)
theorem cA.t9 (x:cA P w H h a o) (k:∀b u,(b=a\/H b=some (.own a))->h.get? b=some u->h'.get? b=some u)
  (ho:∀b,H b=some (.own a)->H' b=some (.own a)) (ht:∀b xs,H b=some (.tup xs)->H' b=some (.tup xs)):cA P w H' h' a o:=by
 induction o with
 | lst xs=>obtain⟨z,br,n,r,e⟩:=x;exact⟨z,br,n,r,k _ _ (.inl rfl) e⟩
 | tup xs=>obtain⟨z,br,r,ob,e,c⟩:=x;exact⟨z,br,r,ob,k _ _ (.inl rfl) e,c⟩
 | dK kvs=>obtain⟨z,y,vs,r,ob,es,ep,e,c⟩:=x;exact⟨z,y,vs,r,ob,es,ep,k _ _ (.inl rfl) e,c⟩
 | dT kvs=>
  obtain⟨z,y,xs,r,ob,es,ep,e,c⟩:=x
  exact⟨z,y,xs,Paired.GL r λp q z=>⟨z.1,ht _ _ z.2.1,z.2.2⟩,ob,es,ep,k _ _ (.inl rfl) e,c⟩
 | set S n=>obtain⟨ob,es,ep,t,e,c⟩:=x;exact⟨ob,es,ep,t,k _ _ (.inl rfl) e,c⟩
 | ins C dx fs=>
  obtain⟨d,z,ne,e,mA,⟨od,es,ep,e2,c⟩,r⟩:=x
  exact⟨ho _ d,z,ne,k _ _ (.inl rfl) e,mA,⟨od,es,ep,k _ _ (.inr d) e2,c⟩,r⟩
 | own y=>obtain⟨ob,e⟩:=x;exact⟨ob,k _ _ (.inl rfl) e⟩
 | xd fs=>obtain⟨mA,⟨od,es,ep,e,c⟩,r⟩:=x;exact⟨mA,⟨od,es,ep,k _ _ (.inl rfl) e,c⟩,r⟩
 | Mv lo hi=>obtain⟨t,u,v,e⟩:=x;exact⟨t,u,v,k _ _ (.inl rfl) e⟩
 | vf ob u ih=>obtain⟨e,q⟩:=x;exact⟨k _ _ (.inl rfl) e,ih q⟩
 | yN ps=>
  obtain⟨mo,e,q⟩:=x
  refine⟨mo,k _ _ (.inl rfl) e,?_⟩
  rcases q with q | ⟨l,c,c1,qn,t,e1,e2,e3,c2,o2,WJ,t2,f1,f2,f3,f4⟩
  ·exact .inl q
  ·cases f1
   exact .inr ⟨l,c,c1,qn,t,e1,e2,ho _ e3,c1,o2,WJ,t2,rfl,k _ _ (.inr e3) f2,f3,f4⟩
 | met f y=>
  have e:h.get? a=some (PySem.W.methodObj (.ref f) (.ref y)):=x
  show h'.get? a=some (PySem.W.methodObj (.ref f) (.ref y))
  exact k a _ (.inl rfl) e
 | ext φ=>obtain⟨p,⟨o,e⟩,st⟩:=x;exact⟨st _ _ p λo q=>k _ _ (.inl rfl) q,⟨o,k _ _ (.inl rfl) e⟩,st⟩
theorem gG.lt (x:gG P w H h) (e:H a=some o):a<h.objs.size:=(x a o e).lt
theorem gG.fresh (x:gG P w H h) (e:h.objs.size<=a):H a=none:=by
 cases q:H a with
 | none=>rfl
 | some u=>exact absurd (aas (x.lt q) e) (aaz _)
theorem gG.kept (x:gG P w H h) (k:∀b u,h.get? b=some u->h'.get? b=some u):gG P w H h':=λa o e=>
 (x a o e).t9 (λb u _ q=>k b u q) (λ_ q=>q) λ_ _ q=>q
theorem gG.laid (x:gG P w H h) (k:∀b u,h.get? b=some u->h'.get? b=some u) (hp:h.objs.size<=a) (new:cA P w (upd H a o) h' a o):gG P w (upd H a o) h':=λb u e=>by
 have hn:=x.fresh hp
 by_cases hb:b=a
 ·subst hb;rw[aq] at e;cases e;exact new
 ·rw[aD hb] at e
  exact(x b u e).t9 (λc v _ q=>k c v q) (λc q=>by rw[aD (eJ q hn)];exact q) λc xs q=>by rw[aD (eJ q hn)];exact q
end
noncomputable def Rd (H:Hp) (a:Addr) (u:HO):Prop:=H a=some u\/∃o,H a=some (.vf o u)
theorem Rd.ok {P:Program} {w:World} {H:Hp} {h:Heap} {a:Addr} {u:HO} (r:Rd H a u) (x:gG P w H h):cA P w H h a u:=by
 rcases r with r | ⟨o,r⟩
 ·exact x a u r
 ·obtain⟨_,q⟩:=x a _ r
  exact q
noncomputable def JE:Option HO->Prop
 | some (.lst _)=>True
 | some (.dK _)=>True
 | some (.dT _)=>True
 | some (.set _ _)=>True
 | some (.ins _ _ _)=>True
 | some (.ext _)=>True
 | _=>False
section
variable {P : Program} {w : World} {H : Hp} {h h' : Heap} {x e : Addr} {o' : HO}
theorem gG.write (ok:gG P w H h) (mu:JE (H x)) (he:e=x\/H e=some (.own x)) (k:∀b u,b≠e->h.get? b=some u->h'.get? b=some u) (IY:∃u,h'.get? e=some u)
  (new:cA P w (upd H x o') h' x o'):gG P w (upd H x o') h':=λb u q=>by
 have JF:∀c y,H c=some (.own y)->c≠x:=λc y r z=>by subst z;rw[r] at mu;exact mu
 have Nl:∀c xs,H c=some (.tup xs)->c≠x:=λc xs r z=>by subst z;rw[r] at mu;exact mu
 by_cases hb:b=x
 ·subst hb;rw[aq] at q;cases q;exact new
 ·rw[aD hb] at q
  by_cases GN:b=e
  ·have q':H b=some (.own x):=by
    rcases he with z | z
    ·exact absurd (GN.trans z) hb
    ·rw[GN];exact z
   rw[q] at q';cases q'
   obtain⟨v,hv⟩:=IY
   exact⟨v,by rw[GN];exact hv⟩
  ·refine(ok b u q).t9 (λc v hc r=>k c v ?_ r) (λc r=>by rw[aD (JF c b r)];exact r) λc xs r=>by rw[aD (Nl c xs r)];exact r
   rcases hc with rfl | hc
   ·exact GN
   ·rintro rfl
    rcases he with z | z
    ·exact JF c b hc z
    ·rw[hc] at z;cases z;exact hb rfl
end
structure Un (fs ex:List Addr) (H H':Hp) (h h':Heap):Prop where
 keep:∀b o,h.get? b=some o->H b=none->b∉fs->b∉ex->h'.get? b=some o
 slot:∀b o,h.get? b=some o->H b=none->b∈fs->b∉ex->∃sl,h'.get? b=some {o with slots:=sl}
 free:∀b o,h.get? b=some o->H b=none->b∉ex->H' b=none
 there:∀b o,h.get? b=some o->b∉ex->∃o',h'.get? b=some o'
 jP:∀b xs,H b=some (.tup xs)->H' b=some (.tup xs)
 iQ:∀b o u,H b=some (.vf o u)->H' b=some (.vf o u)
 jQ:∀b ps,H b=some (.yN ps)->∃more,H' b=some (.yN (ps++more))
section
variable {fs WK ex Np : List Addr} {H H1 H2 : Hp} {h h1 h2 h' : Heap} {a x e : Addr} {o : HO}
theorem Un.any (u:Un fs ex H H1 h h1) {b:Addr} {ob:Obj} (q:h.get? b=some ob) (n:H b=none) (hx:b∉ex):∃sl,h1.get? b=some {ob with slots:=sl}:=by
 by_cases hb:b∈fs
 ·exact u.slot b ob q n hb hx
 ·exact⟨ob.slots,u.keep b ob q n hb hx⟩
theorem Un.kept (k:∀b u,h.get? b=some u->h'.get? b=some u):Un fs ex H H h h':=
 ⟨λb ob q _ _ _=>k b ob q,λb ob q _ _ _=>⟨ob.slots,k b ob q⟩,λ_ _ _ n _=>n,λb ob q _=>⟨ob,k b ob q⟩,λ_ _ q=>q,λ_ _ _ q=>q,λ_ ps q=>⟨#[],by rw[q];simp⟩⟩
theorem Un.refl:Un fs ex H H h h:=Un.kept λ_ _ q=>q
theorem Un.laid (k:∀b u,h.get? b=some u->h'.get? b=some u) (hp:h.objs.size<=a) (hn:H a=none):Un fs ex H (upd H a o) h h' where
 keep:=λb u q _ _ _=>k b u q
 slot:=λb u q _ _ _=>⟨u.slots,k b u q⟩
 free:=λb u q n _=>by rw[aD (aai (aas (Heap.lt_size q) hp))];exact n
 there:=λb u q _=>⟨u,k b u q⟩
 jP:=λb xs q=>by rw[aD (eJ q hn)];exact q
 iQ:=λb u xs q=>by rw[aD (eJ q hn)];exact q
 jQ:=λb ps q=>⟨#[],by rw[aD (eJ q hn),q];simp⟩
theorem Un.write (mu:JE (H x)) (he:e=x\/H e=some (.own x)) (k:∀b u,b≠e->h.get? b=some u->h'.get? b=some u) (IY:∃u,h'.get? e=some u):Un fs ex H (upd H x o) h h':=by
 have hx:∀b,H b=none->b≠x:=λb n z=>by subst z;rw[n] at mu;exact mu
 have hb:∀b,H b=none->b≠e:=λb n z=>by
  subst z
  rcases he with r | r
  ·exact hx b n r
  ·rw[n] at r;cases r
 have hm:∀b u,H b=some u->¬JE (some u)->b≠x:=λb u q nm z=>by subst z;rw[q] at mu;exact nm mu
 refine⟨λb u q n _ _=>k b u (hb b n) q,λb u q n _ _=>⟨u.slots,k b u (hb b n) q⟩,λb u q n _=>by rw[aD (hx b n)];exact n,λb u q _=>?_,
  λb xs q=>by rw[aD (hm b _ q λz=>z)];exact q,λb u xs q=>by rw[aD (hm b _ q λz=>z)];exact q,λb ps q=>⟨#[],by rw[aD (hm b _ q λz=>z),q];simp⟩⟩
 by_cases GN:b=e
 ·subst GN;exact IY
 ·exact⟨u,k b u GN q⟩
end
noncomputable def Mw (h:Heap) (H:Hp):List Addr:=(List.range h.objs.size).filter λa=>(H a).isSome
noncomputable def ua (h:Heap) (H:Hp):Heap:=PySem.W.hideAll h (Mw h H)
theorem zT (h:Heap) (H:Hp):(ua h H).objs.size=h.objs.size:=PySem.W.hideAll_size _ _
theorem Bg {h:Heap} {H:Hp} {b:Addr} {o:Obj} (e:h.get? b=some o) (n:H b=none):(ua h H).get? b=some o:=
 PySem.W.hideAll_get _ e λhm=>by
  have q:(H b).isSome=true:=(List.mem_filter.mp hm).2
  rw[n] at q;simp at q
theorem DQ {h:Heap} {H:Hp} {b:Addr} {o:Obj} (e:(ua h H).get? b=some o):h.get? b=some o/\H b=none:=by
 have e':h.get? b=some o:=PySem.W.of_hideAll (Mw h H) e
 refine⟨e',?_⟩
 cases q:H b with
 | none=>rfl
 | some x=>
  have hm:b∈Mw h H:=List.mem_filter.mpr ⟨List.mem_range.mpr (Heap.lt_size e'),by simp [q]⟩
  have z:(ua h H).get? b=none:=PySem.W.hideAll_none (Mw h H) hm
  rw[z] at e;cases e
noncomputable def DR (g h:Heap) (L:Addr):List (Addr×Obj):=(List.range h.objs.size).filterMap λa=>if a=L\/(g.get? a).isSome=true then none else (h.get? a).map λo=>(a,o)
noncomputable def rest (g h:Heap) (L d:Addr):List (Addr×Obj):=(DR g h L).filter λp=>decide (p.1≠d)
end L2
namespace L2
open PySem PySem.Spec PyProof.Rows
structure Mod (K:PySem.W.Frag) (mg:Str->Option Value) (base:Heap):Prop where
 IZ:K.In base
 glob:base.Ns mainGlobals mg
 blt:∃mb,base.Ns builtinsNs mb/\∀x:Str,x≠"__name__"->mb x=bootBuiltins x
 nolimit:base.NoLimit
structure Cx where
 prog:Program
 w:World
 K:PySem.W.Frag
 mg:Str->Option Value
 base:Heap
 A:Around
 N:List Str
 s₀:Shared
 H₀:Hp
 env:Env
 outer:List Env
 stack:List Env
 ex:List Addr
 fn:Str->Bool
 calm:Bool
 pn:List (Addr×Obj)
 xe:Value->Shared->Prop
def d4 (l:List Env):List Addr:=l.filterMap (·.frame)
abbrev Cx.fs (X:Cx):List Addr:=d4 X.outer
noncomputable def Nq (sc:Scope) (x:Str):Prop:=sc.names.lookup x=some .local\/sc.names.lookup x=some .cell\/sc.names.lookup x=some .free
noncomputable def Loc (sc:Scope) (x:Str):Prop:=sc.names.lookup x=some .local\/sc.names.lookup x=some .cell
noncomputable def Look (env:Env) (h:Heap) (m:Str->Option Value) (x:Str) (u:Value):Prop:=
 (env.kindOf x=some .local/\m x=some u)\/((env.kindOf x=some .cell\/env.kindOf x=some .free)/\∃c,env.cells.lookup x=some c/\h.IsCell c (some u))
structure Cx.Ok (X:Cx):Prop where
 mod:Mod X.K X.mg X.base
 kind:X.env.scope.kind=.function
 glob:X.env.globals=mainGlobals
 blt:X.env.builtins=builtinsNs
 above:X.s₀.heap.objs.size<=X.env.locals
 inj:∀x y c,X.env.cells.lookup x=some c->X.env.cells.lookup y=some c->x=y
 has:∀x,(X.env.kindOf x=some .cell\/X.env.kindOf x=some .free)->∃c,X.env.cells.lookup x=some c
 I0:∀x c,X.fn x=true->X.env.cells.lookup x=some c->X.s₀.heap.objs.size<=c
 hd:X.calm=true->X.A.handled=none
 frames:X.A.frames=some X.stack
 JG:X.stack=X.outer\/(X.stack=X.env::X.outer/\X.env.frame=some X.env.locals)
 Nr:∀b∈X.ex,b≠X.env.locals/\∀x c,X.env.cells.lookup x=some c->c≠b
 bs:∀b o,X.base.get? b=some o->X.s₀.heap.get? b=some o/\X.H₀ b=none
 Dz:X.base.objs.size<=X.s₀.heap.objs.size
 zU:∀b o,X.base.get? b=some o->b∉X.ex
 Bh:∀b∈X.ex,b∉X.fs
 nA:X.s₀.heap.FunFrames X.base X.outer
 FC:∀b∈X.fs,X.H₀ b=none
structure Inv (X:Cx) (pins:List (Addr×Obj)) (σ:List (Option V)) (H:Hp) (s:Shared):Prop where
 ok:X.Ok
 os:s.os=X.s₀.os
 bare:AllBare s.gens
 base:Un X.fs X.ex X.H₀ H X.s₀.heap s.heap
 loc:∃m,s.heap.Ns X.env.locals m/\∀(i:Nat) (x:Str) (v:V),X.N[i]?=some x->σ[i]?=some (some v)->Nq X.env.scope x->∃u,RelV v u/\Look X.env s.heap m x u
 cell:∀x c,X.env.cells.lookup x=some c->∃v,s.heap.IsCell c v
 free:H X.env.locals=none
 iR:∀x c,X.env.cells.lookup x=some c->H c=none
 pin:∀p∈X.pn++pins,s.heap.get? p.1=some p.2/\H p.1=none/\p.1≠X.env.locals/\p.1∉X.fs/\∀v,p.2.data≠.cell v
 bP:gG X.prog X.w H s.heap
 len:σ.length=X.N.length
section
variable {X : Cx} {pins : List (Addr × Obj)} {σ : List (Option V)} {H H' : Hp} {s : Shared} {h' : Heap}
theorem Cx.Ok.Nt (ok:X.Ok) {b:Addr} {o:Obj} (e:X.base.get? b=some o):b∉X.fs:=λhb=>by
 have:=(ok.nA.mem hb).1
 rw[e] at this;cases this
theorem Inv.bs (I:Inv X pins σ H s):∀b o,X.base.get? b=some o->s.heap.get? b=some o/\H b=none:=λb o e=>
 ⟨I.base.keep b o (I.ok.bs b o e).1 (I.ok.bs b o e).2 (I.ok.Nt e) (I.ok.zU b o e),I.base.free b o (I.ok.bs b o e).1 (I.ok.bs b o e).2 (I.ok.zU b o e)⟩
theorem Inv.bk (I:Inv X pins σ H s):∀b o,X.base.get? b=some o->s.heap.get? b=some o:=λb o e=>(I.bs b o e).1
theorem Inv.mod (I:Inv X pins σ H s):Mod X.K X.mg X.base:=I.ok.mod
theorem Inv.oQ (I:Inv X pins σ H s):X.K.In s.heap:=I.ok.mod.IZ.keeps I.bk
theorem Inv.lt (I:Inv X pins σ H s):X.env.locals<s.heap.objs.size:=let ⟨_,hn,_⟩:=I.loc;hn.lt
theorem Inv.sz (I:Inv X pins σ H s):X.s₀.heap.objs.size<=s.heap.objs.size:=aal I.ok.above (Nat.le_of_lt I.lt)
theorem Inv.Nu (I:Inv X pins σ H s) {a:Addr} (h:s.heap.objs.size<=a):a∉X.fs:=λhb=>by
 obtain⟨_,o,ho,_⟩:=I.ok.nA.mem hb
 exact absurd (aas (Heap.lt_size ho) (aal I.sz h)) (aaz _)
theorem Inv.GO (I:Inv X pins σ H s):∀x c,X.env.cells.lookup x=some c->c≠X.env.locals:=λx c e z=>by
 obtain⟨v,o,ho,hd⟩:=I.cell x c e
 obtain⟨m,⟨o',es,ep,DS,Nv,_⟩,_⟩:=I.loc
 rw[z,DS] at ho;cases ho;rw[Nv] at hd;cases hd
theorem Inv.nA (I:Inv X pins σ H s):s.heap.FunFrames X.base X.outer:=by
 have all:∀(l:List Env),(∀b∈d4 l,b∈X.fs)->X.s₀.heap.FunFrames X.base l->s.heap.FunFrames X.base l:=by
  intro l
  induction l with
  | nil=>intro _ _;trivial
  | cons env r ih=>
   intro hs hl
   obtain⟨hk,⟨L,o,hf,hn,ho,hd⟩,hr⟩:=hl
   have hL:L∈X.fs:=hs L (by unfold d4;rw[aa3,hf];exact aap)
   obtain⟨sl,e⟩:=I.base.slot L o ho (I.ok.FC L hL) hL λz=>I.ok.Bh L z hL
   exact⟨hk,⟨L,_,hf,hn,e,hd⟩,ih (λb hb=>hs b (by unfold d4;rw[aa3,hf];exact aaj _ hb)) hr⟩
 exact all X.outer (λ_ hb=>hb) I.ok.nA
theorem Inv.stack (I:Inv X pins σ H s):s.heap.FunFrames X.base X.stack:=by
 rcases I.ok.JG with e | ⟨e,hf⟩
 ·rw[e];exact I.nA
 ·rw[e]
  obtain⟨m,hn,_⟩:=I.loc
  refine .cons (by rw[I.ok.kind];decide) hf hn ?_ I.nA
  exact Heap.get?_none_of_le (aal I.ok.Dz I.ok.above)
theorem Inv.ub (I:Inv X pins σ H s):∀b∈d4 X.stack,b∈X.env.locals::X.fs:=λb hb=>by
 rcases I.ok.JG with e | ⟨e,hf⟩
 ·rw[e] at hb;exact aaj _ hb
 ·rw[e] at hb
  unfold d4 at hb
  rw[aa3,hf] at hb
  exact hb
theorem Inv.pH (I:Inv X pins σ H s):∀b∈d4 X.stack,H b=none:=λb hb=>by
 rcases List.mem_cons.mp (I.ub b hb) with e | hb
 ·rw[e];exact I.free
 ·obtain⟨_,o,ho,_⟩:=I.ok.nA.mem hb
  exact I.base.free b o ho (I.ok.FC b hb) λz=>I.ok.Bh b z hb
theorem Inv.step {g':Array GenState} {t':Nat} {d':Drawn} {ch:List Addr} (I:Inv X pins σ H s)
  (DA:∀b∈ch,(b∈X.ex\/X.s₀.heap.objs.size<=b)/\b≠X.env.locals/\(∀x c,X.env.cells.lookup x=some c->c≠b)/\∀p∈X.pn++pins,p.1≠b)
  (keep:∀b o,b≠X.env.locals->b∉X.fs->b∉ch->s.heap.get? b=some o->H b=none->h'.get? b=some o)
  (slot:∀b o,b≠X.env.locals->b∈X.fs->b∉ch->s.heap.get? b=some o->H b=none->∃sl,h'.get? b=some {o with slots:=sl}) (free:∀b o,b∉ch->s.heap.get? b=some o->H b=none->H' b=none)
  (there:∀b o,b∉ch->s.heap.get? b=some o->∃o',h'.get? b=some o')
  (jP:∀b xs,H b=some (.tup xs)->H' b=some (.tup xs)) (iQ:∀b o u,H b=some (.vf o u)->H' b=some (.vf o u)) (jQ:∀b ps,H b=some (.yN ps)->∃more,H' b=some (.yN (ps++more)))
  (ns:∀m,s.heap.Ns X.env.locals m->h'.Ns X.env.locals m) (bP:gG X.prog X.w H' h') (hg:AllBare g'):
  Inv X pins σ H' {s with heap:=h',gens:=g',drawn:=d',toks:=t'}:=by
 have UM:∀b o,X.s₀.heap.get? b=some o->b≠X.env.locals:=λb o e=>aai (aas (Heap.lt_size e) I.ok.above)
 have Mx:∀b o,X.s₀.heap.get? b=some o->b∉X.ex->b∉ch:=λb o e hx hb=>by
  rcases(DA b hb).1 with z | z
  ·exact hx z
  ·exact absurd (aas (Heap.lt_size e) z) (aaz _)
 have cellK:∀x c,X.env.cells.lookup x=some c->∀v,s.heap.IsCell c v->h'.IsCell c v:=λx c e v ⟨o,ho,hd⟩=>by
  have FD:c∉ch:=λz=>(DA c z).2.2.1 x c e rfl
  by_cases hc:c∈X.fs
  ·obtain⟨sl,q⟩:=slot c o (I.GO x c e) hc FD ho (I.iR x c e)
   exact⟨_,q,hd⟩
  ·exact⟨o,keep c o (I.GO x c e) hc FD ho (I.iR x c e),hd⟩
 refine⟨I.ok,I.os,hg,⟨λb o e n hb hx=>?_,λb o e n hb hx=>?_,λb o e n hx=>?_,λb o e hx=>?_,λb xs e=>jP b xs (I.base.jP b xs e),λb o xs e=>iQ b o xs (I.base.iQ b o xs e),λb ps e=>?_⟩,?_,λx c e=>?_,?_,λx c e=>?_,λp hp=>?_,bP,I.len⟩
 ·exact keep b o (UM b o e) hb (Mx b o e hx) (I.base.keep b o e n hb hx) (I.base.free b o e n hx)
 ·obtain⟨sl,e1⟩:=I.base.slot b o e n hb hx
  obtain⟨FE,e2⟩:=slot b _ (UM b o e) hb (Mx b o e hx) e1 (I.base.free b o e n hx)
  exact⟨FE,e2⟩
 ·obtain⟨o',e1⟩:=I.base.there b o e hx
  exact free b o' (Mx b o e hx) e1 (I.base.free b o e n hx)
 ·obtain⟨o',e1⟩:=I.base.there b o e hx
  exact there b o' (Mx b o e hx) e1
 ·obtain⟨m1,e1⟩:=I.base.jQ b ps e
  obtain⟨m2,e2⟩:=jQ b _ e1
  exact⟨m1++m2,by rw[e2,Array.append_assoc]⟩
 ·obtain⟨m,hn,hl⟩:=I.loc
  refine⟨m,ns m hn,λi x v e1 e2 e3=>?_⟩
  obtain⟨u,r,l⟩:=hl i x v e1 e2 e3
  refine⟨u,r,?_⟩
  rcases l with l | ⟨k,c,e,z⟩
  ·exact .inl l
  ·exact .inr ⟨k,c,e,cellK x c e _ z⟩
 ·obtain⟨v,z⟩:=I.cell x c e
  exact⟨v,cellK x c e v z⟩
 ·obtain⟨m,⟨o,_,_,ho,_⟩,_⟩:=I.loc
  exact free _ o (λz=>(DA _ z).2.1 rfl) ho I.free
 ·obtain⟨v,o,ho,hd⟩:=I.cell x c e
  exact free c o (λz=>(DA c z).2.2.1 x c e rfl) ho (I.iR x c e)
 ·obtain⟨e,n,ne,nf,d⟩:=I.pin p hp
  have FD:p.1∉ch:=λz=>(DA p.1 z).2.2.2 p hp rfl
  exact⟨keep p.1 p.2 ne nf FD e n,free p.1 p.2 FD e n,ne,nf,d⟩
theorem Inv.un {t':Nat} (I:Inv X pins σ H s) (u:Un X.fs [] H H' s.heap h') (bP:gG X.prog X.w H' h'):Inv X pins σ H' {s with heap:=h',toks:=t'}:=by
 obtain⟨m,⟨o,es,ep,ho,r⟩,_⟩:=id I.loc
 obtain⟨sl,hL⟩:=u.any ho I.free (by simp)
 exact I.step (g':=s.gens) (d':=s.drawn) (ch:=[]) (λ_ z=>nomatch z) (λb o _ hb _ e n=>u.keep b o e n hb (by simp)) (λb o _ hb _ e n=>u.slot b o e n hb (by simp)) (λb o _ e n=>u.free b o e n (by simp)) (λb o _ e=>u.there b o e (by simp)) u.jP u.iQ u.jQ (λm' hm=>by
  obtain⟨o',sR,zV,DS,r'⟩:=hm
  rw[ho] at DS;cases DS
  exact⟨_,sR,zV,hL,r'⟩) bP I.bare
theorem Inv.call {g':Array GenState} {t':Nat} {d':Drawn} {ch:List Addr} (I:Inv X pins σ H s) (u:Un (d4 X.stack) ch H H' s.heap h') (bP:gG X.prog X.w H' h') (hg:AllBare g')
  (DA:∀b∈ch,(b∈X.ex\/X.s₀.heap.objs.size<=b)/\b≠X.env.locals/\(∀x c,X.env.cells.lookup x=some c->c≠b)/\∀p∈X.pn++pins,p.1≠b):
  Inv X pins σ H' {s with heap:=h',gens:=g',drawn:=d',toks:=t'}:=by
 obtain⟨m,⟨o,es,ep,ho,r⟩,_⟩:=id I.loc
 obtain⟨sl,hL⟩:=u.any ho I.free λz=>(DA _ z).2.1 rfl
 exact I.step (ch:=ch) DA (λb o hL hb hc e n=>u.keep b o e n (λz=>(List.mem_cons.mp (I.ub b z)).elim hL hb) hc) (λb o _ _ hc e n=>u.any e n hc) (λb o hc e n=>u.free b o e n hc) (λb o hc e=>u.there b o e hc) u.jP u.iQ u.jQ (λm' hm=>by
  obtain⟨o',sR,zV,DS,r'⟩:=hm
  rw[ho] at DS;cases DS
  exact⟨_,sR,zV,hL,r'⟩) bP hg
theorem Inv.turned {t':Nat} {it:Addr} (I:Inv X pins σ H s) (k:∀b o,b≠it->s.heap.get? b=some o->h'.get? b=some o) (hn:H it=none) (hL:it≠X.env.locals)
  (h1:it∈X.ex\/X.s₀.heap.objs.size<=it) (h2:∀x c,X.env.cells.lookup x=some c->c≠it) (h3:∀p∈X.pn++pins,p.1≠it):Inv X pins σ H {s with heap:=h',toks:=t'}:=by
 have UN:∀b u,H b=some u->b≠it:=λb u e z=>by rw[z,hn] at e;cases e
 refine I.step (g':=s.gens) (d':=s.drawn) (ch:=[it]) (λb hb=>?_) (λb o _ _ hc e _=>k b o (λz=>hc (by simp [z])) e) (λb o _ _ hc e _=>⟨o.slots,k b o (λz=>hc (by simp [z])) e⟩) (λ_ _ _ _ n=>n)
  (λb o hc e=>⟨o,k b o (λz=>hc (by simp [z])) e⟩) (λ_ _ e=>e) (λ_ _ _ e=>e) (λb ps e=>⟨#[],by rw[e];simp⟩) (λm hm=>?_) (λb u e=>?_) I.bare
 ·have e:b=it:=by simpa using hb
  subst e
  exact⟨h1,hL,h2,h3⟩
 ·obtain⟨o,es,ep,ho,r⟩:=hm
  exact⟨o,es,ep,k _ o (Ne.symm hL) ho,r⟩
 ·refine(I.bP b u e).t9 (λc v hc q=>k c v ?_ q) (λ_ q=>q) λ_ _ q=>q
  rcases hc with z | z
  ·rw[z];exact UN b u e
  ·exact UN c _ z
theorem Inv.tok (I:Inv X pins σ H s) (t:Nat):Inv X pins σ H {s with toks:=t}:=I.un (h':=s.heap) (t':=t) Un.refl I.bP
theorem Inv.kept {t':Nat} (I:Inv X pins σ H s) (k:∀b u,s.heap.get? b=some u->h'.get? b=some u):Inv X pins σ H {s with heap:=h',toks:=t'}:=I.un (Un.kept k) (I.bP.kept k)
theorem Inv.laid {a:Addr} {o:HO} {t':Nat} (I:Inv X pins σ H s) (k:∀b u,s.heap.get? b=some u->h'.get? b=some u) (hp:s.heap.objs.size<=a) (new:cA X.prog X.w (upd H a o) h' a o):
  Inv X pins σ (upd H a o) {s with heap:=h',toks:=t'}:=I.un (Un.laid k hp (I.bP.fresh hp)) (I.bP.laid k hp new)
theorem Inv.write {x e:Addr} {o:HO} {t':Nat} (I:Inv X pins σ H s) (mu:JE (H x)) (he:e=x\/H e=some (.own x)) (k:∀b u,b≠e->s.heap.get? b=some u->h'.get? b=some u) (IY:∃u,h'.get? e=some u)
  (new:cA X.prog X.w (upd H x o) h' x o):Inv X pins σ (upd H x o) {s with heap:=h',toks:=t'}:=I.un (Un.write mu he k IY) (I.bP.write mu he k IY new)
theorem Inv.me {FF:List (Addr×Obj)} (I:Inv X pins σ H s) (h:∀p∈FF,s.heap.get? p.1=some p.2/\H p.1=none/\p.1≠X.env.locals/\p.1∉X.fs/\∀v,p.2.data≠.cell v):Inv X FF σ H s:=
 ⟨I.ok,I.os,I.bare,I.base,I.loc,I.cell,I.free,I.iR,λp hp=>(List.mem_append.mp hp).elim (λz=>I.pin p (List.mem_append_left _ z)) (h p),I.bP,I.len⟩
theorem vk {N:List Str} (hN:N.Nodup) {i j:Nat} {x:Str} (a:N[i]?=some x) (b:N[j]?=some x):i=j:=by
 obtain⟨h1,e1⟩:=List.getElem?_eq_some_iff.mp a
 obtain⟨h2,e2⟩:=List.getElem?_eq_some_iff.mp b
 exact(List.getElem_inj hN).mp (e1.trans e2.symm)
theorem sS {M:Model} {A:Around} {E:Value->Shared->Prop} {i:Nat} {x:Str} {v:V} {u:Value} {Q:Unit->Shared->Prop} (I:Inv X pins σ H s) (hN:X.N.Nodup) (hi:X.N[i]?=some x) (hx:Loc X.env.scope x) (r:RelV v u)
  (h:∀s',Inv X pins (σ.set i (some v)) H s'->(∃a,Heap.SameBut a s.heap s'.heap/\(a=X.env.locals\/X.env.cells.lookup x=some a))->Q () s') (hf:X.fn x=true\/X.env.scope.names.lookup x=some .local:=by first | exact .inl rfl | exact .inr rfl | assumption):wpAny M A (storeName X.env x u) Q E s:=by
 obtain⟨m,hn,hl⟩:=id I.loc
 have Nw:(X.env.scope.kind==.class || (X.env.scope.kind==.module && X.env.locals !=X.env.globals))=false:=by rw[I.ok.kind];rfl
 have UO:i<σ.length:=by rw[I.len];exact(List.getElem?_eq_some_iff.mp hi).1
 have GO:=I.GO
 have tracked:∀{a:Addr} {h':Heap},(∃o,s.heap.get? a=some o/\H a=none)->Heap.SameBut a s.heap h'->gG X.prog X.w H h':=λ{a h'} ha hs b ob e=>by
  obtain⟨_,_,FG⟩:=ha
  refine(I.bP b ob e).t9 (λc w' hc q=>(hs.2 c ?_).trans q) (λ_ q=>q) λ_ _ q=>q
  rintro rfl
  rcases hc with rfl | hc
  ·rw[FG] at e;cases e
  ·rw[FG] at hc;cases hc
 rcases hx with hk | hk
 ·refine wpAny_storeName_local hk hn (λh' WL hs=>?_) Nw
  obtain⟨oL,_,_,JH,_⟩:=id hn
  refine h _ ⟨I.ok,I.os,I.bare,⟨λb o e n hb hx=>?_,λb o e n hb hx=>?_,I.base.free,λb o e hx=>?_,I.base.jP,I.base.iQ,I.base.jQ⟩,⟨_,WL,λj y v' e1 e2 e3=>?_⟩,λy c e=>?_,I.free,I.iR,λp hp=>?_,tracked ⟨oL,JH,I.free⟩ hs,by simpa using I.len⟩ ⟨_,hs,.inl rfl⟩
  ·exact(hs.2 b (aai (aas (Heap.lt_size e) I.ok.above))).trans (I.base.keep b o e n hb hx)
  ·obtain⟨sl,e1⟩:=I.base.slot b o e n hb hx
   exact⟨sl,(hs.2 b (aai (aas (Heap.lt_size e) I.ok.above))).trans e1⟩
  ·obtain⟨o',e1⟩:=I.base.there b o e hx
   exact⟨o',(hs.2 b (aai (aas (Heap.lt_size e) I.ok.above))).trans e1⟩
  ·by_cases hj:j=i
   ·subst hj
    rw[hi] at e1;cases e1
    rw[List.getElem?_set_self UO] at e2
    cases e2
    exact⟨u,r,.inl ⟨hk,by simp⟩⟩
   ·rw[List.getElem?_set_ne (Ne.symm hj)] at e2
    obtain⟨u',r',q⟩:=hl j y v' e1 e2 e3
    refine⟨u',r',?_⟩
    rcases q with ⟨k,e⟩ | ⟨k,c,e,z⟩
    ·refine .inl ⟨k,?_⟩
     have:y≠x:=λe=>hj (vk hN e1 (e▸hi))
     simp [this,e]
    ·exact .inr ⟨k,c,e,z.sameBut hs (GO y c e)⟩
  ·obtain⟨w',z⟩:=I.cell y c e
   exact⟨w',z.sameBut hs (GO y c e)⟩
  ·obtain⟨e,n,ne,nf,d⟩:=I.pin p hp
   exact⟨(hs.2 p.1 ne).trans e,n,ne,nf,d⟩
 ·have Nx:X.fn x=true:=by
   rcases hf with z | z
   ·exact z
   ·rw[z] at hk;cases hk
  obtain⟨c,hc⟩:=I.ok.has x (.inl hk)
  obtain⟨w',z⟩:=I.cell x c hc
  refine wpAny_storeName_cell I.ok.kind hk hc z (λh' UP hs=>?_)
  obtain⟨oc,UQ,Ny⟩:=id z
  refine h {s with heap:=h'} ⟨I.ok,I.os,I.bare,⟨λb o e n hb hx=>?_,λb o e n hb hx=>?_,I.base.free,λb o e hx=>?_,I.base.jP,I.base.iQ,I.base.jQ⟩,⟨m,hn.sameBut hs (Ne.symm (GO x c hc)),λj y v' e1 e2 e3=>?_⟩,λy c' e=>?_,I.free,I.iR,λp hp=>?_,tracked ⟨oc,UQ,I.iR x c hc⟩ hs,by simpa using I.len⟩ ⟨c,hs,.inr hc⟩
  ·exact(hs.2 b (aai (aas (Heap.lt_size e) (I.ok.I0 x c Nx hc)))).trans (I.base.keep b o e n hb hx)
  ·obtain⟨sl,e1⟩:=I.base.slot b o e n hb hx
   exact⟨sl,(hs.2 b (aai (aas (Heap.lt_size e) (I.ok.I0 x c Nx hc)))).trans e1⟩
  ·obtain⟨o',e1⟩:=I.base.there b o e hx
   exact⟨o',(hs.2 b (aai (aas (Heap.lt_size e) (I.ok.I0 x c Nx hc)))).trans e1⟩
  ·by_cases hj:j=i
   ·subst hj
    rw[hi] at e1;cases e1
    rw[List.getElem?_set_self UO] at e2
    cases e2
    exact⟨u,r,.inr ⟨.inl hk,c,hc,UP⟩⟩
   ·rw[List.getElem?_set_ne (Ne.symm hj)] at e2
    obtain⟨u',r',q⟩:=hl j y v' e1 e2 e3
    refine⟨u',r',?_⟩
    rcases q with q | ⟨k,c',e,z'⟩
    ·exact .inl q
    ·refine .inr ⟨k,c',e,z'.sameBut hs ?_⟩
     rintro rfl
     exact hj (vk hN e1 (I.ok.inj _ _ _ e hc▸hi))
  ·by_cases JI:c'=c
   ·subst JI;exact⟨_,UP⟩
   ·obtain⟨w2,z2⟩:=I.cell y c' e
    exact⟨w2,z2.sameBut hs JI⟩
  ·obtain⟨e,n,ne,nf,d⟩:=I.pin p hp
   refine⟨(hs.2 p.1 ?_).trans e,n,ne,nf,d⟩
   intro q
   rw[q,UQ] at e
   have q':oc=p.2:=aay e
   exact d w' (by rw[<-q'];exact Ny)
theorem vm {M:Model} {A:Around} {E:Value->Shared->Prop} {i:Nat} {x:Str} {v:V} {u:Value} {Q:Unit->Shared->Prop} (I:Inv X pins σ H s) (hN:X.N.Nodup) (hi:X.N[i]?=some x) (hx:Loc X.env.scope x) (r:RelV v u)
  (h:∀s',Inv X pins (σ.set i (some v)) H s'->Q () s') (hf:X.fn x=true\/X.env.scope.names.lookup x=some .local:=by first | exact .inl rfl | exact .inr rfl | assumption):wpAny M A (storeName X.env x u) Q E s:=
 sS I hN hi hx r (λs' I' _=>h s' I') hf
theorem Inv.JJ {s':Shared} {ch:List Addr} (I:Inv X pins σ H s) (ho:s'.os=s.os) (u:Un (d4 X.stack) ch H H' s.heap s'.heap) (bP:gG X.prog X.w H' s'.heap) (hg:AllBare s'.gens)
  (DA:∀b∈ch,(b∈X.ex\/X.s₀.heap.objs.size<=b)/\b≠X.env.locals/\(∀x c,X.env.cells.lookup x=some c->c≠b)/\∀p∈X.pn++pins,p.1≠b):Inv X pins σ H' s':=by
 obtain⟨h',g',d',t',o'⟩:=s'
 have e:o'=s.os:=ho
 subst e
 exact I.call (g':=g') (t':=t') (d':=d') u bP hg DA
end
abbrev XK:=Value->Option Addr->Hp->Prop
abbrev St:=List (Option V)
abbrev VK:=V->Hp->Prop
abbrev TE:=St->Hp->VK->Prop
abbrev TT:=St->Hp->(Bool->Hp->Prop)->Prop
abbrev TA:=St->Hp->(List V->Hp->Prop)->Prop
structure Ends where
 nx:St->Hp->Prop
 rt:VK
 bk:St->Hp->Prop:=λ_ _=>False
 ct:St->Hp->Prop:=λ_ _=>False
abbrev TS:=Ends->St->Hp->Prop
noncomputable def EP (X:Cx) (pins:List (Addr×Obj)) (σ:St) (Q:VK) (u:Value) (s':Shared):Prop:=∃v H',Inv X pins σ H' s'/\RelV v u/\Q v H'
noncomputable def TP (X:Cx) (pins:List (Addr×Obj)) (σ:St) (Q:Bool->Hp->Prop) (b:Bool) (s':Shared):Prop:=∃H',Inv X pins σ H' s'/\Q b H'
noncomputable def AP (X:Cx) (pins:List (Addr×Obj)) (σ:St) (Q:List V->Hp->Prop) (us:List Value) (s':Shared):Prop:=∃vs H',Inv X pins σ H' s'/\bF vs us/\Q vs H'
noncomputable def SP (X:Cx) (pins:List (Addr×Obj)) (D:Ends) (f:Flow) (s':Shared):Prop:=
 match f with
 | .next=>∃σ' H',Inv X pins σ' H' s'/\D.nx σ' H'
 | .brk=>∃σ' H',Inv X pins σ' H' s'/\D.bk σ' H'
 | .cont=>∃σ' H',Inv X pins σ' H' s'/\D.ct σ' H'
 | .ret u=>∃v σ' H',Inv X pins σ' H' s'/\RelV v u/\D.rt v H'
noncomputable def PE (X:Cx) (e:Expr) (t:TE):Prop:=
 ∀(pins:List (Addr×Obj)) (s:Shared) (σ:St) (H:Hp) (Q:VK),Inv X pins σ H s->t σ H Q->wpAny (model X.prog X.w) X.A (eval e X.env) (EP X pins σ Q) X.xe s
noncomputable def PT (X:Cx) (e:Expr) (t:TT):Prop:=
 ∀(pins:List (Addr×Obj)) (s:Shared) (σ:St) (H:Hp) (Q:Bool->Hp->Prop),Inv X pins σ H s->t σ H Q->wpAny (model X.prog X.w) X.A (isTrue e X.env (eval e X.env)) (TP X pins σ Q) X.xe s
noncomputable def PW (X:Cx) (e:Expr) (t:TT):Prop:=
 ∀(whole:Sem Value) (pins:List (Addr×Obj)) (s:Shared) (σ:St) (H:Hp) (Q:Bool->Hp->Prop),Inv X pins σ H s->t σ H Q->wpAny (model X.prog X.w) X.A (isTrue e X.env whole) (TP X pins σ Q) X.xe s
theorem PW.pt {X:Cx} {e:Expr} {t:TT} (h:PW X e t):PT X e t:=h _
noncomputable def PA (X:Cx) (es:List Expr) (t:TA):Prop:=
 ∀(pos:Pos) (pins:List (Addr×Obj)) (s:Shared) (σ:St) (H:Hp) (Q:List V->Hp->Prop),Inv X pins σ H s->t σ H Q->wpAny (model X.prog X.w) X.A (spliced (backTo pos (starEach es X.env))) (AP X pins σ Q) X.xe s
noncomputable def PS (X:Cx) (st:Stmt) (t:TS):Prop:=
 ∀(pins:List (Addr×Obj)) (s:Shared) (σ:St) (H:Hp) (D:Ends),Inv X pins σ H s->t D σ H->wpAny (model X.prog X.w) X.A (exec st X.env) (SP X pins D) X.xe s
noncomputable def xg (X:Cx) (st:List Stmt) (t:TS):Prop:=
 ∀(pins:List (Addr×Obj)) (s:Shared) (σ:St) (H:Hp) (D:Ends),Inv X pins σ H s->t D σ H->wpAny (model X.prog X.w) X.A (execs st X.env) (SP X pins D) X.xe s
theorem cG {α:Type} {t:Sem α} {Q Q':α->Shared->Prop} {M:Model} {A:Around} {E:Value->Shared->Prop} {s:Shared} (h:wpAny M A t Q E s) (hQ:∀a s,Q a s->Q' a s):wpAny M A t Q' E s:=wpAny_mono h hQ λ_ _ x=>x
end L2
namespace L2
open PySem PySem.Spec PyProof.Rows
section
variable {X : Cx}
noncomputable def tVar (i:Nat):TE:=λσ H Q=>∃v,σ[i]?=some (some v)/\Q v H
noncomputable def tC (v:V):TE:=λ_ H Q=>Q v H
theorem GP {i:Nat} {x:Str} {pos:Pos} (hN:X.N[i]?=some x) (hv:Nq X.env.scope x) (hd:(x==("__debug__":Str))=false:=by decide) (zW:(x==("__classdict__":Str))=false:=by decide):PE X (.Name x pos) (tVar i):=by
 intro pins s σ H Q I h
 obtain⟨v,e,h⟩:=h
 obtain⟨m,hn,hl⟩:=I.loc
 obtain⟨u,r,l⟩:=hl i x v hN e hv
 have fin:EP X pins σ Q u s:=⟨v,H,I,r,h⟩
 rcases l with ⟨hk,hm⟩ | ⟨hk,c,hc,FH⟩
 ·exact wpAny_Name (wpAny_loadName_local I.ok.kind hk hn hm fin) hd
 ·rcases hk with hk | hk
  ·exact wpAny_Name (wpAny_loadName_cell I.ok.kind hk hc FH fin) hd
  ·exact wpAny_Name (wpAny_loadName_free I.ok.kind hk hc FH fin zW) hd
theorem ae {i j pos}:PE X (.Constant (.int i) j pos) (tC (.int i)):=λ_ _ _ H _ I h=>wpAny_Constant_int ⟨.int i,H,I.tok _,⟨_,rfl⟩,h⟩
theorem gN {b j pos}:PE X (.Constant (.bool b) j pos) (tC (.bl b)):=λ_ _ _ H _ I h=>Constant_bool ⟨.bl b,H,I,rfl,h⟩
theorem nB {j pos}:PE X (.Constant .none j pos) (tC .cZ):=λ_ _ _ H _ I h=>Constant_none ⟨.cZ,H,I,rfl,h⟩
theorem bc {x j pos}:PE X (.Constant (.str x) j pos) (tC (.str x)):=λ_ _ _ H _ I h=>Calls.Constant_str ⟨.str x,H,I.tok _,⟨_,rfl⟩,h⟩
noncomputable def Gl (X:Cx) (x:Str):Prop:=X.env.kindOf x=some .globalImplicit
theorem mf {E:Value->Shared->Prop} {pins:List (Addr×Obj)} {s:Shared} {σ:St} {H:Hp} {x:Str} {u:Value} {pos:Pos} {Q:Value->Shared->Prop} (I:Inv X pins σ H s) (hg:Gl X x) (hm:X.mg x=some u) (h:Q u s)
  (hd:(x==("__debug__":Str))=false:=by decide):wpAny (model X.prog X.w) X.A (eval (.Name x pos) X.env) Q E s:=
 Calls.Name_function_global I.ok.kind hg (Calls.loadGlobal_global (by rw[I.ok.glob];exact I.mod.glob.keeps I.bk) hm h) hd
theorem hZ {E:Value->Shared->Prop} {pins:List (Addr×Obj)} {s:Shared} {σ:St} {H:Hp} {x:Str} {u:Value} {pos:Pos} {Q:Value->Shared->Prop} (I:Inv X pins σ H s) (hg:Gl X x) (hm:X.mg x=none) (hv:bootBuiltins x=some u) (h:Q u s)
  (hn:x≠"__name__":=by decide) (hd:(x==("__debug__":Str))=false:=by decide):wpAny (model X.prog X.w) X.A (eval (.Name x pos) X.env) Q E s:=by
 obtain⟨mb,h1,h2⟩:=I.mod.blt
 exact Calls.Name_function_global I.ok.kind hg (Calls.loadGlobal_builtin (by rw[I.ok.glob];exact I.mod.glob.keeps I.bk) hm (by rw[I.ok.blt];exact h1.keeps I.bk) ((h2 x hn).trans hv) h) hd
theorem DT {x:Str} {v:V} {u:Value} {pos:Pos} (hg:Gl X x) (hm:X.mg x=some u) (r:RelV v u) (hd:(x==("__debug__":Str))=false:=by decide):PE X (.Name x pos) (tC v):=
 λ_ _ _ H _ I h=>mf I hg hm ⟨v,H,I,r,h⟩ hd
theorem uc {x:Str} {v:V} {u:Value} {pos:Pos} (hg:Gl X x) (hm:X.mg x=none) (hv:bootBuiltins x=some u) (r:RelV v u) (hn:x≠"__name__":=by decide) (hd:(x==("__debug__":Str))=false:=by decide):PE X (.Name x pos) (tC v):=
 λ_ _ _ H _ I h=>hZ I hg hm hv ⟨v,H,I,r,h⟩ hn hd
noncomputable def WM (ta tb:TE) (k:Int->Int->Hp->Prop):St->Hp->Prop:=λσ H=>ta σ H λx H1=>tb σ H1 λy H2=>∃i j,x=.int i/\y=.int j/\k i j H2
variable {a b : Expr} {ta tb : TE} {pos : Pos}
noncomputable def PC (X:Cx) (op:CmpOp) (a b:Expr) (t:TE):Prop:=
 ∀(pins:List (Addr×Obj)) (s:Shared) (σ:St) (H:Hp) (Q:VK),Inv X pins σ H s->t σ H Q->
  wpAny (model X.prog X.w) X.A (eval a X.env) (λv s₁=>wpAny (model X.prog X.w) X.A (eval b X.env) (λu s₂=>wpAny (model X.prog X.w) X.A (compareOp op v u) (EP X pins σ Q) X.xe s₂) X.xe s₁) X.xe s
theorem Bi (b:Expr) {op:CmpOp} (h:op≠.In) (h2:op≠.NotIn):behindInMarks op b=false:=by
 have e1:(op==CmpOp.In)=false:=by cases op <;>first | rfl | exact absurd rfl h
 have e2:(op==CmpOp.NotIn)=false:=by cases op <;>first | rfl | exact absurd rfl h2
 cases b <;>simp [behindInMarks,e1,e2]
noncomputable def zX (p:Int->Int->Bool) (ta tb:TE):TE:=λσ H Q=>WM ta tb (λi j H2=>Q (.bl (p i j)) H2) σ H
abbrev tLt:TE->TE->TE:=zX λi j=>decide (i<j)
abbrev tLe:TE->TE->TE:=zX λi j=>decide (i<=j)
abbrev tGt:TE->TE->TE:=zX λi j=>decide (j<i)
abbrev tGe:TE->TE->TE:=zX λi j=>decide (j<=i)
abbrev WN:TE->TE->TE:=zX λi j=>decide (i=j)
abbrev WO:TE->TE->TE:=zX λi j=>!decide (i=j)
noncomputable def tB (t:TE):TT:=λσ H Q=>t σ H λx H1=>∃c,x=.bl c/\Q c H1
theorem xh {op:CmpOp} {t:TE} (h:PC X op a b t) (h1:behindInMarks op b=false:=by first | exact Bi _ (by decide) (by decide) | rfl):PT X (.Compare a [op] [b] pos) (tB t):=by
 intro pins s σ H Q I hw
 refine wpAny_isTrue_Compare1 (cG (h pins s σ H _ I hw) λv s1 h1=>cG h1 λu s2 h2=>cG h2 λc s3 ⟨x,H1,I1,r1,q1⟩=>?_) h1
 obtain⟨d,rfl,q⟩:=q1
 cases r1
 exact wpAny_truthy_bool ⟨H1,I1,q⟩
theorem nE {e:Expr} {t:TE} (h:PE X e t) (he:∀whole,isTrue e X.env whole=(do let v <-whole;standAt e.pos;holding [v] (truthy v)):=by intro _;rfl):PT X e (tB t):=by
 intro pins s σ H Q I hw
 refine isTrue_plain (cG (h pins s σ H _ I hw) λv s1 ⟨x,H1,I1,r1,q1⟩=>?_) (he _)
 obtain⟨d,rfl,q⟩:=q1
 cases r1
 exact wpAny_truthy_bool ⟨H1,I1,q⟩
variable {tA My : TT} {rest : List Expr}
noncomputable def tAnd (t u:TT):TT:=λσ H Q=>t σ H λc H1=>if c=true then u σ H1 Q else Q false H1
noncomputable def tOr (t u:TT):TT:=λσ H Q=>t σ H λc H1=>if c=true then Q true H1 else u σ H1 Q
noncomputable def tNot (t:TT):TT:=λσ H Q=>t σ H λc H1=>Q (!c) H1
theorem pw_and1 (ha:PT X a tA):PW X (.BoolOp .And [a] pos) tA:=by
 intro wh pins s σ H Q I h
 refine isTrue_and (cG (ha pins s σ H Q I h) λc s1 e=>?_)
 cases c with
 | true=>exact isTrue_and_nil e
 | false=>exact e
theorem pw_or1 (ha:PT X a tA):PW X (.BoolOp .Or [a] pos) tA:=by
 intro wh pins s σ H Q I h
 refine isTrue_or (cG (ha pins s σ H Q I h) λc s1 e=>?_)
 cases c with
 | false=>exact isTrue_or_nil e
 | true=>exact e
theorem pw_and (ha:PT X a tA) (hb:PW X (.BoolOp .And (b::rest) pos) My):PW X (.BoolOp .And (a::b::rest) pos) (tAnd tA My):=by
 intro wh pins s σ H Q I h
 refine isTrue_and (cG (ha pins s σ H _ I h) λc s1 ⟨H1,I1,q1⟩=>?_)
 cases c with
 | true=>exact hb wh pins s1 σ H1 Q I1 q1
 | false=>exact⟨H1,I1,q1⟩
theorem pw_or (ha:PT X a tA) (hb:PW X (.BoolOp .Or (b::rest) pos) My):PW X (.BoolOp .Or (a::b::rest) pos) (tOr tA My):=by
 intro wh pins s σ H Q I h
 refine isTrue_or (cG (ha pins s σ H _ I h) λc s1 ⟨H1,I1,q1⟩=>?_)
 cases c with
 | true=>exact⟨H1,I1,q1⟩
 | false=>exact hb wh pins s1 σ H1 Q I1 q1
theorem Bj (ha:PT X a tA):PT X (.UnaryOp .Not a pos) (tNot tA):=by
 intro pins s σ H Q I h
 exact isTrue_not (ha pins s σ H (λc H1=>Q (!c) H1) I h)
noncomputable def tAndV (ta tb:TE):TE:=λσ H Q=>ta σ H λx H1=>∃c,x=.bl c/\if c=true then tb σ H1 Q else Q (.bl false) H1
noncomputable def tOrV (ta tb:TE):TE:=λσ H Q=>ta σ H λx H1=>∃c,x=.bl c/\if c=true then Q (.bl true) H1 else tb σ H1 Q
noncomputable def tNotV (ta:TE):TE:=λσ H Q=>ta σ H λx H1=>∃c,x=.bl c/\Q (.bl (!c)) H1
noncomputable def tIf (t:TT) (ta tb:TE):TE:=λσ H Q=>t σ H λc H1=>if c=true then ta σ H1 Q else tb σ H1 Q
theorem iS {c:Expr} (hc:PT X c tA) (ha:PE X a ta) (hb:PE X b tb):PE X (.IfExp c a b pos) (tIf tA ta tb):=by
 intro pins s σ H Q I h
 refine wpAny_IfExp (cG (hc pins s σ H _ I h) λd s1 ⟨H1,I1,q1⟩=>?_)
 cases d with
 | true=>exact ha pins s1 σ H1 Q I1 q1
 | false=>exact hb pins s1 σ H1 Q I1 q1
end
end L2
namespace L2
open PySem PySem.Spec PyProof.Rows
noncomputable def bL (K:PySem.W.Frag) (H:Hp) (a:Addr) (xs:List V):Prop:=
 Rd H a (.lst xs)\/
  ∃(o:Obj) (br:Array Value) (n:Nat),K.lookup a=some o/\o.cls=.type "list"/\o.dict=none/\o.data=.seq br n/\br.size<=sizeLine/\bF xs br.toList
noncomputable def lg (K:PySem.W.Frag) (H:Hp) (a:Addr) (xs:List V):Prop:=
 Rd H a (.tup xs)\/
  ∃(o:Obj) (br:Array Value) (n:Nat),K.lookup a=some o/\o.cls=.type "tuple"/\o.data=.seq br n/\br.size<=sizeLine/\bF xs br.toList
noncomputable def Nz:Value->Option V
 | .none=>some .cZ
 | .bool b=>some (.bl b)
 | .int i _=>some (.int i)
 | .str x _=>some (.str x)
 | .bytes b _=>some (.A9 b)
 | .float b _=>some (.GK b)
 | .ref a=>some (.ref a)
 | .type n=>some (.ty n)
 | _=>none
theorem RelV.abs {x:V} {u:Value} (r:RelV x u):Nz u=some x:=by
 cases x with
 | cZ=>cases r;rfl
 | bl _=>cases r;rfl
 | int _=>obtain⟨t,rfl⟩:=r;rfl
 | str _=>obtain⟨t,rfl⟩:=r;rfl
 | A9 _=>obtain⟨t,rfl⟩:=r;rfl
 | GK _=>obtain⟨t,rfl⟩:=r;rfl
 | ref _=>cases r;rfl
 | ty _=>cases r;rfl
theorem RelV.inj {x y:V} {u:Value} (r:RelV x u) (q:RelV y u):x=y:=aay (r.abs.symm.trans q.abs)
theorem bF.inj:∀{xs ys:List V} {us:List Value},bF xs us->bF ys us->xs=ys
 | _,_,_,.nil,.nil=>rfl
 | _,_,_,.cons r t,.cons r' t'=>by rw[r.inj r',bF.inj t t']
section
variable {X : Cx} {pins : List (Addr × Obj)} {σ : St} {H : Hp} {s : Shared} {a : Addr} {xs ys : List V}
theorem bL.of {K:PySem.W.Frag} (h:H a=some (.lst xs)):bL K H a xs:=.inl (.inl h)
theorem lg.of {K:PySem.W.Frag} (h:H a=some (.tup xs)):lg K H a xs:=.inl (.inl h)
theorem Inv.list (I:Inv X pins σ H s) (h:bL X.K H a xs):∃br:List Value,bF xs br/\PlainL s.heap a br.toArray/\xs.length<=sizeLine:=by
 rcases h with h | ⟨o,br,n,hk,hc,hd,hs,hz,r⟩
 ·obtain⟨z,br,n,r,e⟩:=h.ok I.bP
  exact⟨br,r,⟨_,n,e,rfl,rfl,rfl⟩,z⟩
 ·refine⟨br.toList,r,⟨o,n,I.oQ a o hk,hc,hd,by simpa using hs⟩,?_⟩
  have e:=r.length
  simp only[Array.length_toList] at e
  omega
theorem Inv.tuple (I:Inv X pins σ H s) (h:lg X.K H a xs):∃br:List Value,bF xs br/\IsTup s.heap a br.toArray/\xs.length<=sizeLine:=by
 rcases h with h | ⟨o,br,n,hk,hc,hs,hz,r⟩
 ·obtain⟨z,br,r,p⟩:=h.ok I.bP
  exact⟨br,r,p,z⟩
 ·refine⟨br.toList,r,⟨o,I.oQ a o hk,hc,n,by simpa using hs⟩,?_⟩
  have e:=r.length
  simp only[Array.length_toList] at e
  omega
theorem Inv.iT (I:Inv X pins σ H s) (h:bL X.K H a xs) (h':bL X.K H a ys):xs=ys:=by
 obtain⟨br,r,⟨o,n,e,_,_,d⟩,_⟩:=I.list h
 obtain⟨its',r',⟨o',n',e',_,_,d'⟩,_⟩:=I.list h'
 rw[e] at e';cases e'
 rw[d] at d'
 injection d' with d1 _
 have:br=its':=by simpa using congrArg Array.toList d1
 subst this
 exact r.inj r'
end
abbrev Cx.lh (X:Cx) (E:Value->Shared->Prop):Cx:={X with xe:=E}
abbrev Cx.Mz (X:Cx):Cx:=X.lh λ_ _=>False
theorem Cx.Ok.lh {X:Cx} (ok:X.Ok) (E:Value->Shared->Prop):(X.lh E).Ok:=
 ⟨ok.mod,ok.kind,ok.glob,ok.blt,ok.above,ok.inj,ok.has,ok.I0,ok.hd,ok.frames,ok.JG,ok.Nr,ok.bs,ok.Dz,ok.zU,ok.Bh,ok.nA,ok.FC⟩
theorem Cx.Ok.gH {X:Cx} {E:Value->Shared->Prop} (ok:(X.lh E).Ok):X.Ok:=
 ⟨ok.mod,ok.kind,ok.glob,ok.blt,ok.above,ok.inj,ok.has,ok.I0,ok.hd,ok.frames,ok.JG,ok.Nr,ok.bs,ok.Dz,ok.zU,ok.Bh,ok.nA,ok.FC⟩
section
variable {X : Cx} {pins : List (Addr × Obj)} {σ : St} {H : Hp} {s : Shared} {E : Value -> Shared -> Prop}
theorem Inv.lh (I:Inv X pins σ H s) (E:Value->Shared->Prop):Inv (X.lh E) pins σ H s:=⟨I.ok.lh E,I.os,I.bare,I.base,I.loc,I.cell,I.free,I.iR,I.pin,I.bP,I.len⟩
theorem Inv.gH (I:Inv (X.lh E) pins σ H s):Inv X pins σ H s:=⟨I.ok.gH,I.os,I.bare,I.base,I.loc,I.cell,I.free,I.iR,I.pin,I.bP,I.len⟩
theorem SP.gH {D:Ends} {f:Flow} {s':Shared} (h:SP (X.lh E) pins D f s'):SP X pins D f s':=by
 cases f with
 | next=>obtain⟨σ',H',I,q⟩:=h;exact⟨σ',H',I.gH,q⟩
 | brk=>obtain⟨σ',H',I,q⟩:=h;exact⟨σ',H',I.gH,q⟩
 | cont=>obtain⟨σ',H',I,q⟩:=h;exact⟨σ',H',I.gH,q⟩
 | ret u=>obtain⟨v,σ',H',I,r,q⟩:=h;exact⟨v,σ',H',I.gH,r,q⟩
theorem xg.Mz {st:List Stmt} {t:TS} (h:xg X.Mz st t):xg X st t:=λpins s σ H D I hw=>
 wpAny_mono (h pins s σ H D (I.lh _) hw) (λ_ _ q=>q.gH) λ_ _ z=>False.elim z
end
section
variable {X : Cx} {st : Stmt} {rest : List Stmt} {t u : TS} {e : Expr} {te : TE} {pos : Pos}
noncomputable def tNext:TS:=λD σ H=>D.nx σ H
noncomputable def tSeq (t u:TS):TS:=λD σ H=>t {D with nx:=u D} σ H
theorem bg:xg X [] tNext:=λ_ _ σ H _ I h=>wpAny_execs_nil ⟨σ,H,I,h⟩
theorem ai (h1:PS X st t) (h2:xg X rest u):xg X (st::rest) (tSeq t u):=by
 intro pins s σ H D I h
 refine wpAny_execs_cons (cG (h1 pins s σ H {D with nx:=u D} I h) λf s1 q=>?_)
 cases f with
 | next=>
  obtain⟨σ',H',I',q⟩:=q
  exact h2 pins s1 σ' H' D I' q
 | ret v=>exact q
 | brk=>exact q
 | cont=>exact q
theorem ar (h1:PS X st t):xg X [st] t:=by
 intro pins s σ H D I h
 refine wpAny_execs_cons (cG (h1 pins s σ H D I h) λf s1 q=>?_)
 cases f with
 | next=>exact wpAny_execs_nil q
 | ret v=>exact q
 | brk=>exact q
 | cont=>exact q
noncomputable def GQ:TS:=λD σ H=>D.bk σ H
theorem Bk:PS X (.Break pos) GQ:=λ_ _ σ H _ I h=>wpAny_Break ⟨σ,H,I,h⟩
theorem Inv.quiet {pins:List (Addr×Obj)} {σ:St} {H:Hp} {s:Shared} (I:Inv X pins σ H s):interactive X.env=false:=by simp [interactive,I.ok.kind]
noncomputable def tDrop (te:TE):TS:=λD σ H=>te σ H λ_ H1=>D.nx σ H1
theorem bZ (he:PE X e te) (hs:swapsWith e none pos.line X.env=pure false:=by rfl):PS X (.Expr e pos) (tDrop te):=by
 intro pins s σ H D I h
 exact wpAny_Expr_any (cG (he pins s σ H _ I h) λv s1 ⟨x,H1,I1,r1,q1⟩=>⟨σ,H1,I1,q1⟩) I.quiet hs
noncomputable def tRet (te:TE):TS:=λD σ H=>te σ H D.rt
theorem aP (he:PE X e te):PS X (.Return (some e) pos) (tRet te):=by
 intro pins s σ H D I h
 exact wpAny_Return_some (cG (he pins s σ H _ I h) λv s1 ⟨x,H1,I1,r1,q1⟩=>⟨x,σ,H1,I1,r1,q1⟩)
noncomputable def tRetN:TS:=λD _ H=>D.rt .cZ H
noncomputable def tIfS (c:TT) (t u:TS):TS:=λD σ H=>c σ H λb H1=>if b=true then t D σ H1 else u D σ H1
theorem bG {c:Expr} {a b:List Stmt} {tc:TT} (hc:PT X c tc) (ha:xg X a t) (hb:xg X b u):PS X (.If c a b pos) (tIfS tc t u):=by
 intro pins s σ H D I h
 refine wpAny_If (cG (hc pins s σ H _ I h) λd s1 ⟨H1,I1,q1⟩=>?_)
 cases d with
 | true=>exact ha pins s1 σ H1 D I1 q1
 | false=>exact hb pins s1 σ H1 D I1 q1
end
abbrev TG:=V->St->Hp->(St->Hp->Prop)->Prop
abbrev FI:=List V->St->Hp->(St->Hp->Prop)->Prop
noncomputable def PG (X:Cx) (target:Expr) (t:TG):Prop:=
 ∀(pins:List (Addr×Obj)) (s:Shared) (σ:St) (H:Hp) (v:V) (u:Value) (Q:St->Hp->Prop),Inv X pins σ H s->RelV v u->t v σ H Q->
  wpAny (model X.prog X.w) X.A (assign target X.env u) (λ_ s'=>∃σ' H',Inv X pins σ' H' s'/\Q σ' H') X.xe s
noncomputable def Ja (X:Cx) (ts:List Expr) (t:FI):Prop:=
 ∀(pins:List (Addr×Obj)) (s:Shared) (σ:St) (H:Hp) (vs:List V) (us:List Value) (Q:St->Hp->Prop),Inv X pins σ H s->bF vs us->t vs σ H Q->
  wpAny (model X.prog X.w) X.A (assignInOrder ((assignEach ts X.env).map (·.2)) us) (λ_ s'=>∃σ' H',Inv X pins σ' H' s'/\Q σ' H') X.xe s
abbrev GR:=V->V->V->Hp->(Hp->Prop)->Prop
noncomputable def JK (X:Cx) (t:GR):Prop:=
 ∀(pins:List (Addr×Obj)) (s:Shared) (σ:St) (H:Hp) (o i v:V) (ov iv u:Value) (Q:Hp->Prop),Inv X pins σ H s->RelV o ov->RelV i iv->RelV v u->t o i v H Q->
  wpAny (model X.prog X.w) X.A (setItem ov iv u) (λ_ s'=>∃H',Inv X pins σ H' s'/\Q H') X.xe s
abbrev TIp:=V->V->Hp->VK->Prop
section
variable {X : Cx} {pos : Pos}
noncomputable def gName (i:Nat):TG:=λv σ H Q=>Q (σ.set i (some v)) H
theorem aT {i:Nat} {x:Str} (hN:X.N.Nodup) (hi:X.N[i]?=some x) (hx:Loc X.env.scope x) (hf:X.fn x=true\/X.env.scope.names.lookup x=some .local:=by first | exact .inl rfl | exact .inr rfl | assumption):PG X (.Name x pos) (gName i):=by
 intro pins s σ H v u Q I r h
 exact wpAny_assign_Name (vm I hN hi hx r (λs' I'=>⟨_,H,I',h⟩) hf)
noncomputable def gNil:FI:=λvs σ H Q=>vs=[]/\Q σ H
noncomputable def gCons (t:TG) (u:FI):FI:=λvs σ H Q=>∃v r,vs=v::r/\t v σ H λσ' H'=>u r σ' H' Q
theorem dP:Ja X [] gNil:=by
 intro pins s σ H vs us Q I r h
 obtain⟨e,h⟩:=h
 subst e
 cases r
 exact assignInOrder_nil ⟨σ,H,I,h⟩
theorem bw {e:Expr} {es:List Expr} {t:TG} {u:FI} (h1:PG X e t) (h2:Ja X es u)
  (hs:(assignEach (e::es) X.env).map (·.2)=assign e X.env::(assignEach es X.env).map (·.2):=by rfl):Ja X (e::es) (gCons t u):=by
 intro pins s σ H vs us Q I r h
 obtain⟨v,vr,e1,h⟩:=h
 subst e1
 cases r with
 | cons r rr=>
  rw[hs]
  refine assignInOrder_cons (cG (h1 pins s σ H _ _ _ I r h) λ_ s1 ⟨σ1,H1,I1,q1⟩=>?_)
  exact h2 pins s1 σ1 H1 _ _ Q I1 rr q1
noncomputable def DU (K:PySem.W.Frag) (n:Nat) (t:FI):TG:=λv σ H Q=>∃a xs,v=.ref a/\lg K H a xs/\xs.length=n/\t xs σ H Q
theorem GS {es:List Expr} {k:Nat} {t:FI} {n:Nat} (hc:X.calm=true) (h:Ja X es t)
  (hn:(assignEach es X.env).length=n:=by rfl) (hst:(assignEach es X.env).findIdx? (·.1)=none:=by rfl):PG X (.Tuple es k pos) (DU X.K n t):=by
 intro pins s σ H v u Q I r hw
 obtain⟨a,xs,e1,hq,hl,hw⟩:=hw
 subst e1
 cases r
 obtain⟨br,rv,ht,hz⟩:=I.tuple hq
 refine assign_Tuple_tuple (I.ok.hd hc) ht (by simp [hn,<-hl,rv.length]) hst λh' hx=>?_
 have I1:Inv X pins σ H {s with heap:=h'}:=I.kept (t':=s.toks) λb o e=>hx b o (aai (Heap.lt_size e)) e
 exact h pins _ σ H xs _ Q I1 (by simpa using rv) hw
noncomputable def gSub (to ti:TE) (t:GR):TG:=λv σ H Q=>to σ H λo H1=>ti σ H1 λi H2=>t o i v H2 λH3=>Q σ H3
theorem Bl {o i:Expr} {to ti:TE} {t:GR} (ho:PE X o to) (hi:PE X i ti) (hs:JK X t)
  (ha:∀v,assign (.Subscript o i pos) X.env v=(do
   let ov <-holding [v] (eval o X.env)
   let iv <-holding [v,ov] (eval i X.env)
   standAt pos
   holding [v,ov,iv] (setItem ov iv v)
   release [v,ov,iv] []):=by intro _;rfl):PG X (.Subscript o i pos) (gSub to ti t):=by
 intro pins s σ H v u Q I r h
 rw[ha]
 refine wpAny_bind (wpAny_holding (cG (ho pins s σ H _ I h) λov s1 ⟨x,H1,I1,r1,q1⟩=>?_))
 refine wpAny_bind (wpAny_holding (cG (hi pins s1 σ H1 _ I1 q1) λiv s2 ⟨y,H2,I2,r2,q2⟩=>?_))
 refine wpAny_bind (wpAny_standAt (wpAny_bind (wpAny_holding (cG (hs pins s2 σ H2 x y v ov iv u _ I2 r1 r2 r q2) λ_ s3 ⟨H3,I3,q3⟩=>?_))))
 exact wpAny_release ⟨σ,H3,I3,q3⟩
noncomputable def tAsg (te:TE) (g:TG):TS:=λD σ H=>te σ H λx H1=>g x σ H1 D.nx
theorem xi {tg e:Expr} {te:TE} {g:TG} (he:PE X e te) (hg:PG X tg g) (hs:swapsWithSole [tg] e pos.line X.env=pure false:=by rfl) (hw:swappedStores [tg] e X.env=pure none:=by rfl)
  (h1:(assignEach [tg] X.env).map (·.2)=[assign tg X.env]:=by rfl):PS X (.Assign [tg] e pos) (tAsg te g):=by
 intro pins s σ H D I h
 refine wpAny_Assign_stores (cG (he pins s σ H _ I h) λv s1 ⟨x,H1,I1,r1,q1⟩=>?_) hs hw
 rw[h1]
 exact cG (hg pins s1 σ H1 x v _ I1 r1 q1) λ_ s2 q=>q
theorem aK {i:Nat} {x:Str} {e:Expr} {te:TE} {pos':Pos} (hN:X.N.Nodup) (hi:X.N[i]?=some x) (hx:Loc X.env.scope x) (he:PE X e te) (hs:swapsWith e (some (.Name x pos')) pos.line X.env=pure false:=by rfl) (hf:X.fn x=true\/X.env.scope.names.lookup x=some .local:=by first | exact .inl rfl | exact .inr rfl | assumption):
  PS X (.Assign [.Name x pos'] e pos) (tAsg te (gName i)):=by
 intro pins s σ H D I h
 refine wpAny_Assign_Name (cG (he pins s σ H _ I h) λv s1 ⟨y,H1,I1,r1,q1⟩=>?_) hs
 exact vm I1 hN hi hx r1 (λs2 I2=>⟨_,H1,I2,q1⟩) hf
noncomputable def tPar (i j:Nat) (ta:TA):TS:=λD σ H=>ta σ H λvs H1=>∃v w,vs=[v,w]/\D.nx ((σ.set i (some v)).set j (some w)) H1
end
section
variable {X : Cx} {pos : Pos}
noncomputable def xj (c:TT) (tb:TS):TS:=λD σ H=>∃W:Nat->St->Hp->Prop,(∃m,W m σ H)/\∀m σ H,W m σ H->
 c σ H λb H1=>if b=true then ∃N:St->Hp->Prop,(∀σ' H',N σ' H'->∃m',m'<m/\W m' σ' H')/\tb {D with nx:=N,ct:=N,bk:=D.nx} σ H1 else D.nx σ H1
theorem pY {c:Expr} {body:List Stmt} {tc:TT} {tb:TS} (hp:PassesOwn (model X.prog X.w) X.A X.env X.xe) (hc:PT X c tc) (hb:xg X body tb):PS X (.While c body [] pos) (xj tc tb):=by
 intro pins s σ H D I h
 obtain⟨W,⟨m0,w0⟩,turn⟩:=h
 refine wpAny_While (codeAny_whileLoop (λn s'=>∃σ' H',Inv X pins σ' H' s'/\W n σ' H') ?_ m0 ⟨σ,H,I,w0⟩)
 rintro n s1 ⟨σ1,H1,I1,w1⟩
 refine wpAny_passesOwn hp (cG (hc pins s1 σ1 H1 _ I1 (turn n σ1 H1 w1)) λb s2 ⟨H2,I2,q2⟩=>?_)
 cases b with
 | true=>
  obtain⟨N,hN,q2⟩:=q2
  rw[if_pos rfl]
  refine wpAny_passesOwn hp (cG (hb pins s2 σ1 H2 _ I2 q2) λf s3 q3=>?_)
  cases f with
  | next=>
   obtain⟨σ3,H3,I3,n3⟩:=q3
   obtain⟨m',hm,w3⟩:=hN σ3 H3 n3
   exact⟨m',hm,σ3,H3,I3,w3⟩
  | cont=>
   obtain⟨σ3,H3,I3,n3⟩:=q3
   obtain⟨m',hm,w3⟩:=hN σ3 H3 n3
   exact⟨m',hm,σ3,H3,I3,w3⟩
  | brk=>exact q3
  | ret v=>exact q3
 | false=>
  rw[if_neg aar]
  exact wpAny_execs_nil ⟨σ1,H2,I2,q2⟩
end
structure It where
 go:Nat->Hp->Prop
 w6:Nat->Hp->V->Hp->Prop
 stop:Nat->Hp->Prop
noncomputable def iU (X:Cx) (pins:List (Addr×Obj)) (H:Hp) (b:Addr):Prop:=
 H b=none/\b≠X.env.locals/\b∉X.fs/\(b∈X.ex\/X.s₀.heap.objs.size<=b)/\(∀x c,X.env.cells.lookup x=some c->c≠b)/\∀p∈X.pn++pins,p.1≠b
theorem Inv.zY {X:Cx} {pins:List (Addr×Obj)} {σ:St} {H H':Hp} {s:Shared} {b:Addr} (I:Inv X pins σ H s) (hb:s.heap.objs.size<=b) (hn:H' b=none):iU X pins H' b:=by
 refine⟨hn,aaM (aas I.lt hb),I.Nu hb,.inr (aal I.sz hb),λx c e z=>?_,λp hp z=>?_⟩
 ·obtain⟨v,q⟩:=I.cell x c e
  exact absurd (aas q.lt (by rw[z];exact hb)) (aaz _)
 ·exact absurd (aas (Heap.lt_size (I.pin p hp).1) (by rw[z];exact hb)) (aaz _)
structure Turn (P:Program) (w:World) (K:PySem.W.Frag) (tg:Expr) (J:It) (fp:List Addr) (it:Addr) (tn:Nat->Heap->Prop):Prop where
 mem:it∈fp
 obj:∀i h,tn i h->∀b∈fp,∃o,h.get? b=some o/\∀v,o.data≠.cell v
 keep:∀i h h',tn i h->(∀b∈fp,∀o,h.get? b=some o->h'.get? b=some o)->tn i h'
 item:∀(X:Cx),X.prog=P->X.w=w->X.K=K->X.calm=true->∀(i:Nat) (pins:List (Addr×Obj)) (s:Shared) (σ:St) (H:Hp) (E:Value->Shared->Prop),Inv X pins σ H s->(∀b∈fp,iU X pins H b)->tn i s.heap->J.go i H->
  wpAny (model P w) X.A (pyNext (.ref it)) (λr s1=>∃u,r=some u/\
   wpAny (model P w) X.A (letOwnedTupleGo tg (.ref it) u) (λ_ s2=>∃x H',Inv X pins σ H' s2/\RelV x u/\J.w6 i H x H'/\tn (i+1) s2.heap/\∀b∈fp,H' b=none) E s1) E s
 done:∀(X:Cx),X.prog=P->X.w=w->X.K=K->X.calm=true->∀(i:Nat) (pins:List (Addr×Obj)) (s:Shared) (σ:St) (H:Hp) (E:Value->Shared->Prop),Inv X pins σ H s->(∀b∈fp,iU X pins H b)->tn i s.heap->J.stop i H->
  wpAny (model P w) X.A (pyNext (.ref it)) (λr s1=>r=none/\Inv X pins σ H s1) E s
 self:∀(A:Around) (i:Nat) (s:Shared) (Q:Value->Shared->Prop) (E:Value->Shared->Prop),tn i s.heap->Q (.ref it) s->wpAny (model P w) A (pyIter (.ref it)) Q E s
abbrev TI:=St->Hp->(It->Hp->Prop)->Prop
noncomputable def UR (X:Cx) (pins:List (Addr×Obj)) (σ:St) (tg:Expr) (R:It->Hp->Prop) (DV:Value) (s2:Shared):Prop:=
 ∃(it:Addr) (fp:List Addr) (tn:Nat->Heap->Prop) (J:It) (H':Hp),DV=.ref it/\Inv X pins σ H' s2/\Turn X.prog X.w X.K tg J fp it tn/\tn 0 s2.heap/\(∀b∈fp,iU X pins H' b)/\R J H'
noncomputable def PI (X:Cx) (tg iter:Expr) (wi:TI):Prop:=
 ∀(pins:List (Addr×Obj)) (s:Shared) (σ:St) (H:Hp) (R:It->Hp->Prop),Inv X pins σ H s->wi σ H R->
  wpAny (model X.prog X.w) X.A (eval iter X.env) (λv s1=>wpAny (model X.prog X.w) X.A (pyIter v) (UR X pins σ tg R) X.xe s1) X.xe s
theorem FJ {M:Model} {A:Around} {E:Value->Shared->Prop} {s:Shared} {tg:Expr} {it:Addr} {u:Value} {o:Obj} {n:String} {vs:Array Value} {Q:Unit->Shared->Prop} (ho:s.heap.get? it=some o) (hc:o.cls=.type n) (hd:o.data=.fields vs)
  (hn:["enumerate","zip","dict_itemiterator","dict_reverseitemiterator","odict_iterator","itertools.zip_longest","itertools.pairwise"].contains n=false) (hQ:Q () s):wpAny M A (letOwnedTupleGo tg (.ref it) u) Q E s:=by
 unfold letOwnedTupleGo
 cases tg <;>first
  | exact wpAny_pure hQ
  | (cases u <;>first
    | exact wpAny_pure hQ
    | (refine wpAny_bind (wpAny_load ho ?_)
       rw[hc,hd]
       show wpAny M A (if (["enumerate","zip","dict_itemiterator","dict_reverseitemiterator","odict_iterator","itertools.zip_longest","itertools.pairwise"].contains n && vs[0]?==some (rawInt _))=true then _ else _) Q E s
       rw[if_neg (by intro h;rw[hn,Bool.false_and] at h;cases h)]
       exact wpAny_pure hQ))
noncomputable def Jb (K:PySem.W.Frag) (a:Addr):It:=
 ⟨λi H=>∃xs x,bL K H a xs/\xs[i]?=some x,λi H x H'=>H'=H/\∀xs,bL K H a xs->xs[i]?=some x,λi H=>∃xs,bL K H a xs/\xs.length<=i⟩
noncomputable def WQ (K:PySem.W.Frag) (a:Addr):It:=
 ⟨λi H=>∃xs x,lg K H a xs/\xs[i]?=some x,λi H x H'=>H'=H/\∀xs,lg K H a xs->xs[i]?=some x,λi H=>∃xs,lg K H a xs/\xs.length<=i⟩
noncomputable def JL (lo:Int) (n:Nat):It:=⟨λi _=>i<n,λi H x H'=>H'=H/\x=.int (lo+i),λi _=>n<=i⟩
theorem zZ {P:Program} {w:World} {K:PySem.W.Frag} {tg:Expr} (a it:Addr):Turn P w K tg (Jb K a) [it] it (λi h=>h.IsListIter it a i) where
 mem:=by simp
 obj:=λi h st b hb=>by
  have e:b=it:=by simpa using hb
  subst e
  obtain⟨o,e,c,d⟩:=st
  exact⟨o,e,λv z=>by rw[d] at z;cases z⟩
 keep:=λi h h' st k=>st.at λo e=>k it (by simp) o e
 item:=by
  intro X hP hw hK hc i pins s σ H E I hf st hg
  subst hP hw hK
  obtain⟨xs,x,hq,hx⟩:=hg
  obtain⟨br,rv,p,hz⟩:=I.list hq
  obtain⟨u,hu,ru⟩:=rv.get hx
  obtain⟨f0,f1,f2,f3,f4,f5⟩:=hf it (by simp)
  refine wpAny_pyNext_list_item st p.isList (x:=u) (by simpa using hu) λh' Ba sb=>?_
  have I1:Inv X pins σ H {s with heap:=h'}:=I.turned (t':=s.toks) (λb o hb e=>(sb.2 b hb).trans e) f0 f1 f3 f4 f5
  obtain⟨o,e,c,d⟩:=id Ba
  exact⟨u,rfl,FJ (s:={s with heap:=h'}) e c d (by decide) ⟨x,H,I1,ru,⟨rfl,λys hy=>by rw[I.iT hy hq];exact hx⟩,Ba,λb hb=>(hf b hb).1⟩⟩
 done:=by
  intro X hP hw hK hc i pins s σ H E I hf st hg
  subst hP hw hK
  obtain⟨xs,hq,hx⟩:=hg
  obtain⟨br,rv,p,hz⟩:=I.list hq
  obtain⟨f0,f1,f2,f3,f4,f5⟩:=hf it (by simp)
  have hl:=rv.length
  exact wpAny_pyNext_list_end (I.ok.hd hc) st p.isList (by simp;omega) λh' eb=>⟨rfl,I.turned (t':=s.toks) (λb o hb e=>eb b o hb e) f0 f1 f3 f4 f5⟩
 self:=λ_ _ _ _ _ st h=>wpAny_pyIter_listiter st h
theorem xk {P:Program} {w:World} {K:PySem.W.Frag} {tg:Expr} (it:Addr) (lo:Int) (n:Nat):Turn P w K tg (JL lo n) [it] it (λi h=>IsRangeIter h it (lo+ (i:Nat)*1) ((n:Int) - (i:Nat)) 1) where
 mem:=by simp
 obj:=λi h st b hb=>by
  have e:b=it:=by simpa using hb
  subst e
  exact⟨_,st,λv z=>by
   have z':Data.fields _=Data.cell v:=z
   cases z'⟩
 keep:=λi h h' st k=>k it (by simp) _ st
 item:=by
  intro X hP hw hK hc i pins s σ H E I hf st hg
  subst hP hw hK
  obtain⟨f0,f1,f2,f3,f4,f5⟩:=hf it (by simp)
  have W:=Walks.range (prog:=X.prog) (w:=X.w) (I.ok.hd hc) it lo 1 n
  refine W.item i s _ _ hg st λv h' tk hv Ba kk=>?_
  obtain⟨t,rfl⟩:=hv
  have I1:Inv X pins σ H {s with heap:=h',toks:=tk}:=I.turned (λb o hb e=>kk b o (by simpa using hb) e) f0 f1 f3 f4 f5
  refine⟨_,rfl,FJ (s:={s with heap:=h',toks:=tk}) (n:="range_iterator") Ba rfl rfl (by decide) ⟨.int (lo+i),H,I1,⟨t,?_⟩,⟨rfl,rfl⟩,Ba,λb hb=>(hf b hb).1⟩⟩
  rw[Int.mul_one]
 done:=by
  intro X hP hw hK hc i pins s σ H E I hf st hg
  subst hP hw hK
  obtain⟨f0,f1,f2,f3,f4,f5⟩:=hf it (by simp)
  exact wpAny_pyNext_range_end (I.ok.hd hc) st (by have:n<=i:=hg;omega) λh' eb=>⟨rfl,I.turned (t':=s.toks) (λb o hb e=>eb b o hb e) f0 f1 f3 f4 f5⟩
 self:=λ_ _ _ _ _ st h=>wpAny_pyIter_rangeiter st h
end L2
namespace L2
open PySem PySem.Spec PyProof.Rows
section
variable {X : Cx} {tg : Expr}
noncomputable def iList (K:PySem.W.Frag) (tl:TE):TI:=λσ H R=>tl σ H λx H1=>∃a,x=.ref a/\(∃xs,bL K H1 a xs)/\R (Jb K a) H1
noncomputable def iTup (K:PySem.W.Frag) (tl:TE):TI:=λσ H R=>tl σ H λx H1=>∃a,x=.ref a/\(∃xs,lg K H1 a xs)/\R (WQ K a) H1
theorem DW {l:Expr} {tl:TE} (hl:PE X l tl):PI X tg l (iList X.K tl):=by
 intro pins s σ H R I h
 refine cG (hl pins s σ H _ I h) λv s1 ⟨x,H1,I1,r1,q1⟩=>?_
 obtain⟨a,e,⟨xs,hq⟩,q⟩:=q1
 subst e
 cases r1
 obtain⟨br,rv,p,hz⟩:=I1.list hq
 refine wpAny_pyIter_list p.isList ?_
 refine⟨s1.heap.objs.size,[s1.heap.objs.size],_,_,H1,rfl,I1.kept (t':=s1.toks) λb o e=>Heap.get?_push_of_some _ e,zZ a _,⟨_,Heap.get?_push_size _ rfl,rfl,rfl⟩,λb hb=>?_,q⟩
 have e:b=s1.heap.objs.size:=by simpa using hb
 subst e
 exact I1.zY (aaf _) (I1.bP.fresh (aaf _))
theorem vn {pins:List (Addr×Obj)} {σ:St} {H:Hp} {s:Shared} {R:It->Hp->Prop} {E:Value->Shared->Prop} {lo hi:Int} {t u v:Tok} {tk:Nat} (I:Inv X pins σ H s) (h1:-(2^62)<=lo) (h2:lo<2^62) (h3:-(2^62)<=hi) (h4:hi<2^62)
  (q:R (JL lo (hi - lo).toNat) H):wpAny (model X.prog X.w) X.A (pyIter (.ref s.heap.objs.size)) (UR X pins σ tg R) E {s with heap:=s.heap.push {cls:=.type "range",data:=.fields #[.int lo t,.int hi u,.int 1 v]},toks:=tk}:=by
 refine wpAny_pyIter_range (IsRange.new ..) (small_one h1 h2 h3 h4) ?_
 have I1:Inv X pins σ H {s with heap:=s.heap.push {cls:=.type "range",data:=.fields #[.int lo t,.int hi u,.int 1 v]},toks:=tk}:=I.kept λb o e=>Heap.get?_push_of_some _ e
 refine⟨(s.heap.push {cls:=.type "range",data:=.fields #[.int lo t,.int hi u,.int 1 v]}).objs.size,[(s.heap.push {cls:=.type "range",data:=.fields #[.int lo t,.int hi u,.int 1 v]}).objs.size],_,_,H,rfl,
  I1.kept (t':=tk) λb o e=>Heap.get?_push_of_some _ e,xk _ lo (hi - lo).toNat,?_,λb hb=>?_,q⟩
 ·have e1:lo+ ((0:Nat):Int)*1=lo:=by simp
  have e2:(((hi - lo).toNat:Nat):Int) - ((0:Nat):Int)=Builtin.Range.rangeSize lo hi 1:=by rw[rangeSize_one];split <;>omega
  show IsRangeIter _ _ (lo+ ((0:Nat):Int)*1) ((((hi - lo).toNat:Nat):Int) - ((0:Nat):Int)) 1
  rw[e1,e2]
  exact Heap.get?_push_size _ rfl
 ·have e:b=(s.heap.push {cls:=.type "range",data:=.fields #[.int lo t,.int hi u,.int 1 v]}).objs.size:=by simpa using hb
  subst e
  exact I1.zY (aaf _) (I1.bP.fresh (aaf _))
noncomputable def iRng1 (ta:TA):TI:=λσ H R=>ta σ H λvs H1=>∃j:Int,vs=[.int j]/\-(2^62)<=j/\j<2^62/\R (JL 0 j.toNat) H1
noncomputable def iRng2 (ta:TA):TI:=λσ H R=>ta σ H λvs H1=>∃i j:Int,vs=[.int i,.int j]/\(-(2^62)<=i/\i<2^62/\-(2^62)<=j/\j<2^62)/\R (JL i (j - i).toNat) H1
theorem cV {a:Expr} {ta:TA} {p pos:Pos} (hg:Gl X "range") (hm:X.mg "range"=none) (ha:PA X [a] ta) (hs:starEach [a] X.env=[(false,eval a X.env)]:=by rfl):PI X tg (.Call (.Name "range" p) [a] [] pos) (iRng1 ta):=by
 intro pins s σ H R I h
 refine Call_ (hZ I hg hm boot_range (PyProof.Rows.callWith_type1 (cG (ha pos pins s σ H _ I h) λus s1 ⟨vs,H1,I1,r1,q1⟩=>?_) hs rfl))
 obtain⟨j,e,q1,q2,q⟩:=q1
 subst e
 cases r1 with
 | cons r rr=>
  cases rr
  obtain⟨t,rfl⟩:=r
  exact call_range_1 (vn I1 (by omega) (by omega) q1 q2 (by simpa using q))
theorem nF {a b:Expr} {ta:TA} {p pos:Pos} (hg:Gl X "range") (hm:X.mg "range"=none) (ha:PA X [a,b] ta) (hs:starEach [a,b] X.env=[(false,eval a X.env),(false,eval b X.env)]:=by rfl) (GU:starEach [b] X.env=[(false,eval b X.env)]:=by rfl):
  PI X tg (.Call (.Name "range" p) [a,b] [] pos) (iRng2 ta):=by
 intro pins s σ H R I h
 refine Call_ (hZ I hg hm boot_range (PyProof.Rows.callWith_type1 (cG (ha pos pins s σ H _ I h) λus s1 ⟨vs,H1,I1,r1,q1⟩=>?_) (by rw[hs,GU]) (by rw[GU];rfl)))
 obtain⟨i,j,e,⟨q1,q2,q3,q4⟩,q⟩:=q1
 subst e
 cases r1 with
 | cons r rr=>
  cases rr with
  | cons r' rr=>
   cases rr
   obtain⟨t,rfl⟩:=r
   obtain⟨t',rfl⟩:=r'
   exact call_range_2 (vn I1 q1 q2 q3 q4 q)
noncomputable def JM (wi:TI) (g:TG) (tb:TS):TS:=λD σ H=>wi σ H λJ H1=>∃W:Nat->Nat->St->Hp->Prop,(∃m,W 0 m σ H1)/\∀i m σ H,W i m σ H->
 (J.stop i H/\D.nx σ H)\/(J.go i H/\∃N:St->Hp->Prop,(∀σ' H',N σ' H'->∃m',m'<m/\W (i+1) m' σ' H')/\∀x H',J.w6 i H x H'->g x σ H' λσ2 H2=>tb {D with nx:=N,ct:=N,bk:=D.nx} σ2 H2)
noncomputable def pZ (fp:List Addr) (h:Heap):List (Addr×Obj):=fp.filterMap λb=>(h.get? b).map λo=>(b,o)
theorem ic {fp:List Addr} {h:Heap} {b:Addr} {o:Obj} (hb:b∈fp) (e:h.get? b=some o):(b,o)∈pZ fp h:=List.mem_filterMap.mpr ⟨b,hb,by rw[e];rfl⟩
theorem Aa {fp:List Addr} {h:Heap} {p:Addr×Obj} (hp:p∈pZ fp h):p.1∈fp/\h.get? p.1=some p.2:=by
 obtain⟨b,hb,e⟩:=List.mem_filterMap.mp hp
 cases q:h.get? b with
 | none=>rw[q] at e;cases e
 | some o=>
  rw[q] at e
  have e':(b,o)=p:=aay e
  subst e'
  exact⟨hb,q⟩
theorem Inv.pinned {pins:List (Addr×Obj)} {σ:St} {H:Hp} {s:Shared} {fp:List Addr} (I:Inv X pins σ H s) (hf:∀b∈fp,iU X pins H b) (ho:∀b∈fp,∃o,s.heap.get? b=some o/\∀v,o.data≠.cell v):Inv X (pins++pZ fp s.heap) σ H s:=
 I.me λp hp=>(List.mem_append.mp hp).elim (λz=>I.pin p (aaN _ z)) λz=>by
  obtain⟨hb,e⟩:=Aa z
  obtain⟨f0,f1,f2,_⟩:=hf p.1 hb
  obtain⟨o,e',d⟩:=ho p.1 hb
  rw[e] at e';cases e'
  exact⟨e,f0,f1,f2,d⟩
theorem Inv.p6 {pins pl:List (Addr×Obj)} {σ:St} {H:Hp} {s:Shared} (I:Inv X (pins++pl) σ H s):Inv X pins σ H s:=I.me λp hp=>I.pin p (aaN _ (List.mem_append_left _ hp))
theorem cB {iter:Expr} {body:List Stmt} {wi:TI} {g:TG} {tb:TS} {pos:Pos} (hp:PassesOwn (model X.prog X.w) X.A X.env X.xe) (hc:X.calm=true) (hi:PI X tg iter wi) (hg:PG X tg g) (hb:xg X body tb)
  (hs:∀x,foldedSetIterable iter X.env x=pure x:=by intro _;rfl):PS X (.For tg iter body [] pos) (JM wi g tb):=by
 intro pins s σ H D I h
 refine wpAny_For (cG (hi pins s σ H _ I h) λv s1 h1=>cG h1 λDV s2 h2=>?_) hs
 obtain⟨it,fp,tn,J,H2,e,I2,T,xm,f2,W,⟨m0,w0⟩,turn⟩:=h2
 subst e
 have xo:∀{H':Hp},(∀b∈fp,H' b=none)->∀b∈fp,iU X pins H' b:=λhn b hb=>⟨hn b hb,(f2 b hb).2⟩
 refine codeAny_forLoop_any (λn s'=>∃i σ' H',Inv X pins σ' H' s'/\tn i s'.heap/\(∀b∈fp,H' b=none)/\W i n σ' H') ?_ m0 ⟨0,σ,H2,I2,xm,λb hb=>(f2 b hb).1,w0⟩
 rintro n s3 ⟨i,σ3,H3,I3,US,UT,w3⟩
 rcases turn i n σ3 H3 w3 with ⟨stop,qn⟩ | ⟨go,N,hN,step⟩
 ·refine wpAny_passesOwn hp (cG (T.done X rfl rfl rfl hc i pins s3 σ3 H3 X.xe I3 (xo UT) US stop) λr s4 ⟨hr,I4⟩=>?_)
  subst hr
  exact wpAny_execs_nil ⟨σ3,H3,I4,qn⟩
 ·refine wpAny_passesOwn hp (cG (T.item X rfl rfl rfl hc i pins s3 σ3 H3 X.xe I3 (xo UT) US go) λr s4 ⟨u,hr,h4⟩=>?_)
  subst hr
  refine wpAny_passesOwn hp (cG h4 λ_ s5 ⟨x,H5,I5,r5,y5,NA,WR⟩=>?_)
  have WS:=I5.pinned (xo WR) (T.obj _ _ NA)
  refine wpAny_passesOwn hp (cG (hg _ s5 σ3 H5 x u _ WS r5 (step x H5 y5)) λ_ s6 ⟨σ6,H6,I6,q6⟩=>?_)
  refine wpAny_passesOwn hp (cG (hb _ s6 σ6 H6 _ I6 q6) λf s7 q7=>?_)
  have again:∀{σ7:St} {H7:Hp},Inv X (pins++pZ fp s5.heap) σ7 H7 s7->N σ7 H7->∃m,m<n/\∃i σ' H',Inv X pins σ' H' s7/\tn i s7.heap/\(∀b∈fp,H' b=none)/\W i m σ' H':=λ{σ7 H7} I7 n7=>by
   obtain⟨m',hm,w7⟩:=hN σ7 H7 n7
   refine⟨m',hm,i+1,σ7,H7,I7.p6,T.keep _ _ _ NA λb hb o e=>(I7.pin (b,o) (aaN _ (aaN _ (ic hb e)))).1,λb hb=>?_,w7⟩
   obtain⟨o,e,d⟩:=T.obj _ _ NA b hb
   exact(I7.pin (b,o) (aaN _ (aaN _ (ic hb e)))).2.1
  cases f with
  | next=>obtain⟨σ7,H7,I7,n7⟩:=q7;exact again I7 n7
  | cont=>obtain⟨σ7,H7,I7,n7⟩:=q7;exact again I7 n7
  | brk=>obtain⟨σ7,H7,I7,q7⟩:=q7;exact⟨σ7,H7,I7.p6,q7⟩
  | ret v=>obtain⟨x7,σ7,H7,I7,r7,q7⟩:=q7;exact⟨x7,σ7,H7,I7.p6,r7,q7⟩
end
theorem Bm {c:TT} {tb:TS} {D:Ends} {σ:St} {H:Hp} (Pv:St->Hp->Prop) (μ:St->Hp->Nat) (h0:Pv σ H)
  (hs:∀σ H,Pv σ H->c σ H λb H1=>if b=true then tb {D with nx:=λσ' H'=>Pv σ' H'/\μ σ' H'<μ σ H,ct:=λσ' H'=>Pv σ' H'/\μ σ' H'<μ σ H,bk:=D.nx} σ H1 else D.nx σ H1)
  (mono:∀σ H Q Q',(∀b H1,Q b H1->Q' b H1)->c σ H Q->c σ H Q'):xj c tb D σ H:=by
 refine⟨λm σ H=>m=μ σ H/\Pv σ H,⟨_,rfl,h0⟩,?_⟩
 rintro m σ H ⟨rfl,p⟩
 refine mono σ H _ _ (λb H1 q=>?_) (hs σ H p)
 cases b with
 | true=>exact⟨_,λσ' H' ⟨p',l⟩=>⟨_,l,rfl,p'⟩,q⟩
 | false=>exact q
end L2
namespace L2
open PySem PySem.Spec PyProof.Rows
abbrev R2:=V->V->Hp->VK->Prop
noncomputable def lq (X:Cx) (f:Value->Value->Sem Value) (r:R2):Prop:=
 ∀(pins:List (Addr×Obj)) (s:Shared) (σ:St) (H:Hp) (x y:V) (v u:Value) (Q:VK),Inv X pins σ H s->RelV x v->RelV y u->r x y H Q->
  wpAny (model X.prog X.w) X.A (f v u) (EP X pins σ Q) X.xe s
noncomputable def MA (X:Cx) (f:Value->Sem Value) (r:V->Hp->VK->Prop):Prop:=
 ∀(pins:List (Addr×Obj)) (s:Shared) (σ:St) (H:Hp) (x:V) (v:Value) (Q:VK),Inv X pins σ H s->RelV x v->r x H Q->
  wpAny (model X.prog X.w) X.A (f v) (EP X pins σ Q) X.xe s
noncomputable def di (X:Cx) (f:Value) (r:List V->Hp->VK->Prop):Prop:=
 ∀(pins:List (Addr×Obj)) (s:Shared) (σ:St) (H:Hp) (xs:List V) (us:List Value) (Q:VK),Inv X pins σ H s->bF xs us->r xs H Q->
  wpAny (model X.prog X.w) X.A (call f us) (EP X pins σ Q) X.xe s
noncomputable def tOp (r:R2) (ta tb:TE):TE:=λσ H Q=>ta σ H λx H1=>tb σ H1 λy H2=>r x y H2 Q
noncomputable def tUn (r:V->Hp->VK->Prop) (ta:TE):TE:=λσ H Q=>ta σ H λx H1=>r x H1 Q
noncomputable def rI (C:Int->Int->Prop) (g:Int->Int->V):R2:=λx y H Q=>∃i j,x=.int i/\y=.int j/\C i j/\Q (g i j) H
noncomputable def rI0 (g:Int->Int->V):R2:=λx y H Q=>∃i j,x=.int i/\y=.int j/\Q (g i j) H
noncomputable def rU (g:Int->V):V->Hp->VK->Prop:=λx H Q=>∃i,x=.int i/\Q (g i) H
section
variable {X : Cx} {a b c : Expr} {ta tb tc : TE} {pos : Pos}
theorem GV (ha:PE X a ta) (hb:PE X b tb) {pins:List (Addr×Obj)} {s:Shared} {σ:St} {H:Hp} {R:V->V->Hp->Prop} (I:Inv X pins σ H s)
  (h:ta σ H λx H1=>tb σ H1 λy H2=>R x y H2) {Q:Value->Shared->Prop} {f:Value->Value->Sem Value}
  (hf:∀v u s2 x y H2,Inv X pins σ H2 s2->RelV x v->RelV y u->R x y H2->wpAny (model X.prog X.w) X.A (f v u) Q X.xe s2):
  wpAny (model X.prog X.w) X.A (eval a X.env) (λv s₁=>wpAny (model X.prog X.w) X.A (eval b X.env) (λu s₂=>wpAny (model X.prog X.w) X.A (f v u) Q X.xe s₂) X.xe s₁) X.xe s:=by
 refine cG (ha pins s σ H _ I h) λv s1 ⟨x,H1,I1,r1,q1⟩=>?_
 refine cG (hb pins s1 σ H1 _ I1 q1) λu s2 ⟨y,H2,I2,r2,q2⟩=>?_
 exact hf v u s2 x y H2 I2 r1 r2 q2
theorem aB {op:Operator} {r:R2} (ho:lq X (binaryOp op) r) (ha:PE X a ta) (hb:PE X b tb):PE X (.BinOp a op b pos) (tOp r ta tb):=by
 intro pins s σ H Q I h
 exact wpAny_BinOp (GV ha hb I h λv u s2 x y H2 I2 rx ry q=>ho pins s2 σ H2 x y v u Q I2 rx ry q)
theorem oR {op:UnaryOp} {r:V->Hp->VK->Prop} (ho:MA X (unaryOp op) r) (ha:PE X a ta):PE X (.UnaryOp op a pos) (tUn r ta):=by
 intro pins s σ H Q I h
 exact UnaryOp_ (cG (ha pins s σ H _ I h) λv s1 ⟨x,H1,I1,r1,q1⟩=>ho pins s1 σ H1 x v Q I1 r1 q1)
theorem MB {f:Value->Value->Sem Value} {C:Int->Int->Prop} {g:Int->Int->Int}
  (rule:∀(i j:Int) (t u:Tok) (s:Shared) (Q:Value->Shared->Prop) (E:Value->Shared->Prop),C i j->Q (.int (g i j) s.toks) {s with toks:=s.toks+1}->wpAny (model X.prog X.w) X.A (f (.int i t) (.int j u)) Q E s):
  lq X f (rI C λi j=>.int (g i j)):=by
 intro pins s σ H x y v u Q I rx ry h
 obtain⟨i,j,rfl,rfl,hc,q⟩:=h
 obtain⟨t,rfl⟩:=rx
 obtain⟨t',rfl⟩:=ry
 exact rule i j t t' s _ _ hc ⟨.int (g i j),H,I.tok _,⟨_,rfl⟩,q⟩
theorem JN {f:Value->Value->Sem Value} {g:Int->Int->Int}
  (rule:∀(i j:Int) (t u:Tok) (s:Shared) (Q:Value->Shared->Prop) (E:Value->Shared->Prop),Q (.int (g i j) s.toks) {s with toks:=s.toks+1}->wpAny (model X.prog X.w) X.A (f (.int i t) (.int j u)) Q E s):
  lq X f (rI0 λi j=>.int (g i j)):=by
 intro pins s σ H x y v u Q I rx ry h
 obtain⟨i,j,rfl,rfl,q⟩:=h
 obtain⟨t,rfl⟩:=rx
 obtain⟨t',rfl⟩:=ry
 exact rule i j t t' s _ _ ⟨.int (g i j),H,I.tok _,⟨_,rfl⟩,q⟩
theorem DX {f:Value->Value->Sem Value} {g:Int->Int->Bool}
  (rule:∀(i j:Int) (t u:Tok) (s:Shared) (Q:Value->Shared->Prop) (E:Value->Shared->Prop),Q (.bool (g i j)) s->wpAny (model X.prog X.w) X.A (f (.int i t) (.int j u)) Q E s):
  lq X f (rI0 λi j=>.bl (g i j)):=by
 intro pins s σ H x y v u Q I rx ry h
 obtain⟨i,j,rfl,rfl,q⟩:=h
 obtain⟨t,rfl⟩:=rx
 obtain⟨t',rfl⟩:=ry
 exact rule i j t t' s _ _ ⟨.bl (g i j),H,I,rfl,q⟩
noncomputable def CPow (i j:Int):Prop:=0<=j/\j<=1000000/\i.natAbs<2^64
theorem bf:lq X (binaryOp .Add) (rI0 λi j=>.int (i+j)):=JN λ_ _ _ _ _ _ _ q=>add_int q
theorem fe:lq X (binaryOp .Sub) (rI0 λi j=>.int (i - j)):=JN λ_ _ _ _ _ _ _ q=>sub_int q
theorem GW:lq X (binaryOp .Mod) (rI (λ_ j=>0<j) λi j=>.int (i % j)):=MB λi j _ _ _ _ _ hc q=>by
 have h1:(0:Int)<j:=hc
 exact mod_int' (by omega) (by rw[Int.fmod_eq_emod_of_nonneg i (by omega)];exact q)
theorem WT {f:Value->Sem Value} {g:Int->Int}
  (rule:∀(i:Int) (t:Tok) (s:Shared) (Q:Value->Shared->Prop) (E:Value->Shared->Prop),Q (.int (g i) s.toks) {s with toks:=s.toks+1}->wpAny (model X.prog X.w) X.A (f (.int i t)) Q E s):
  MA X f (rU λi=>.int (g i)):=by
 intro pins s σ H x v Q I rx h
 obtain⟨i,rfl,q⟩:=h
 obtain⟨t,rfl⟩:=rx
 exact rule i t s _ _ ⟨.int (g i),H,I.tok _,⟨_,rfl⟩,q⟩
theorem iV:MA X (unaryOp .USub) (rU λi=>.int (-i)):=WT λ_ _ _ _ _ q=>neg_int q
end
noncomputable def scal:V->V->Bool
 | .cZ,.cZ=>true | .cZ,.int _=>true | .int _,.cZ=>true | .cZ,.bl _=>true | .bl _,.cZ=>true | .cZ,.str _=>true | .str _,.cZ=>true
 | .int _,.int _=>true | .bl _,.bl _=>true | .str _,.str _=>true | .A9 _,.A9 _=>true
 | .int _,.str _=>true | .str _,.int _=>true | .bl _,.str _=>true | .str _,.bl _=>true
 | _,_=>false
noncomputable def rEq:R2:=λx y H Q=>scal x y=true/\Q (.bl (decide (x=y))) H
noncomputable def rNe:R2:=λx y H Q=>scal x y=true/\Q (.bl (!decide (x=y))) H
theorem yP {i j:Int}:decide (V.int i=V.int j)=(i==j):=by
 rw[Bool.eq_iff_iff]
 simp
theorem Bn {i j:Bool}:decide (V.bl i=V.bl j)=(i==j):=by
 rw[Bool.eq_iff_iff]
 simp
theorem yQ {i j:Str}:decide (V.str i=V.str j)=(i==j):=by
 rw[Bool.eq_iff_iff]
 simp
theorem yR {i j:Array UInt8}:decide (V.A9 i=V.A9 j)=(i.toList==j.toList):=by
 rw[Bool.eq_iff_iff]
 cases i
 cases j
 simp
section
variable {X : Cx} {a b c : Expr} {ta tb tc : TE} {pos : Pos}
theorem bU {pins:List (Addr×Obj)} {σ:St} {H:Hp} {s:Shared} {Q:VK} {k k':Bool} (I:Inv X pins σ H s) (q:Q (.bl k) H) (e:k=k'):EP X pins σ Q (.bool k') s:=by
 subst e
 exact⟨.bl k,H,I,rfl,q⟩
theorem cg:lq X (compareOp .Eq) rEq:=by
 intro pins s σ H x y v u Q I rx ry h
 obtain⟨hs,q⟩:=h
 cases x with
 | cZ=>
  cases rx
  cases y with
  | cZ=>cases ry;exact PySem.EqNone.eq_none_none (bU I q (by simp))
  | bl j=>cases ry;exact PySem.EqNone.eq_none_bool (bU I q (by simp))
  | int j=>obtain⟨t',rfl⟩:=ry;exact PySem.EqNone.eq_none_int (bU I q (by simp))
  | str j=>obtain⟨t',rfl⟩:=ry;exact PySem.EqNone.eq_none_str (bU I q (by simp))
  | _=>exact absurd (show false=true from hs) aar
 | bl i=>
  cases rx
  cases y with
  | cZ=>cases ry;exact PySem.EqNone.eq_bool_none (bU I q (by simp))
  | bl j=>cases ry;exact eq_bool (bU I q Bn)
  | str j=>obtain⟨t',rfl⟩:=ry;exact PySem.EqMixed.eq_bool_str (bU I q (by simp))
  | _=>exact absurd (show false=true from hs) aar
 | int i=>
  obtain⟨t,rfl⟩:=rx
  cases y with
  | cZ=>cases ry;exact PySem.EqNone.eq_int_none (bU I q (by simp))
  | int j=>obtain⟨t',rfl⟩:=ry;exact eq_int (bU I q yP)
  | str j=>obtain⟨t',rfl⟩:=ry;exact PySem.EqMixed.eq_int_str (bU I q (by simp))
  | _=>exact absurd (show false=true from hs) aar
 | str i=>
  obtain⟨t,rfl⟩:=rx
  cases y with
  | cZ=>cases ry;exact PySem.EqNone.eq_str_none (bU I q (by simp))
  | bl j=>cases ry;exact PySem.EqMixed.eq_str_bool (bU I q (by simp))
  | int j=>obtain⟨t',rfl⟩:=ry;exact PySem.EqMixed.eq_str_int (bU I q (by simp))
  | str j=>obtain⟨t',rfl⟩:=ry;exact eq_str (bU I q yQ)
  | _=>exact absurd (show false=true from hs) aar
 | A9 i=>
  obtain⟨t,rfl⟩:=rx
  cases y with
  | A9 j=>obtain⟨t',rfl⟩:=ry;exact PySem.W.eq_bytes (bU I q yR)
  | _=>exact absurd (show false=true from hs) aar
 | _=>cases y <;>exact absurd (show false=true from hs) aar
theorem vo:lq X (compareOp .NotEq) rNe:=by
 intro pins s σ H x y v u Q I rx ry h
 obtain⟨hs,q⟩:=h
 cases x with
 | cZ=>
  cases rx
  cases y with
  | cZ=>cases ry;exact PySem.EqNone.ne_none_none (bU I q (by simp))
  | bl j=>cases ry;exact PySem.EqNone.ne_none_bool (bU I q (by simp))
  | int j=>obtain⟨t',rfl⟩:=ry;exact PySem.EqNone.ne_none_int (bU I q (by simp))
  | str j=>obtain⟨t',rfl⟩:=ry;exact PySem.EqNone.ne_none_str (bU I q (by simp))
  | _=>exact absurd (show false=true from hs) aar
 | bl i=>
  cases rx
  cases y with
  | cZ=>cases ry;exact PySem.EqNone.ne_bool_none (bU I q (by simp))
  | bl j=>cases ry;exact ne_bool (bU I q (congrArg not Bn))
  | str j=>obtain⟨t',rfl⟩:=ry;exact PySem.EqMixed.ne_bool_str (bU I q (by simp))
  | _=>exact absurd (show false=true from hs) aar
 | int i=>
  obtain⟨t,rfl⟩:=rx
  cases y with
  | cZ=>cases ry;exact PySem.EqNone.ne_int_none (bU I q (by simp))
  | int j=>obtain⟨t',rfl⟩:=ry;exact ne_int (bU I q (congrArg not yP))
  | str j=>obtain⟨t',rfl⟩:=ry;exact PySem.EqMixed.ne_int_str (bU I q (by simp))
  | _=>exact absurd (show false=true from hs) aar
 | str i=>
  obtain⟨t,rfl⟩:=rx
  cases y with
  | cZ=>cases ry;exact PySem.EqNone.ne_str_none (bU I q (by simp))
  | bl j=>cases ry;exact PySem.EqMixed.ne_str_bool (bU I q (by simp))
  | int j=>obtain⟨t',rfl⟩:=ry;exact PySem.EqMixed.ne_str_int (bU I q (by simp))
  | str j=>obtain⟨t',rfl⟩:=ry;exact ne_str (bU I q (congrArg not yQ))
  | _=>exact absurd (show false=true from hs) aar
 | A9 i=>
  obtain⟨t,rfl⟩:=rx
  cases y with
  | A9 j=>obtain⟨t',rfl⟩:=ry;exact PySem.W.ne_bytes (bU I q (congrArg not yR))
  | _=>exact absurd (show false=true from hs) aar
 | _=>cases y <;>exact absurd (show false=true from hs) aar
theorem vp:lq X (compareOp .Lt) (rI0 λi j=>.bl (decide (i<j))):=DX λ_ _ _ _ _ _ _ q=>lt_int q
theorem Bo:lq X (compareOp .LtE) (rI0 λi j=>.bl (decide (i<=j))):=DX λ_ _ _ _ _ _ _ q=>le_int q
theorem iC:lq X (compareOp .Gt) (rI0 λi j=>.bl (decide (j<i))):=DX λ_ _ _ _ _ _ _ q=>gt_int q
theorem yS:lq X (compareOp .GtE) (rI0 λi j=>.bl (decide (j<=i))):=DX λ_ _ _ _ _ _ _ q=>ge_int q
theorem Bp:lq X (compareOp .Is) (λx y H Q=>y=.cZ/\Q (.bl (decide (x=.cZ))) H):=by
 intro pins s σ H x y v u Q I rx ry h
 obtain⟨rfl,q⟩:=h
 cases ry
 refine is_none_gen (bU I q ?_)
 cases x <;>first
  | (cases rx;rfl)
  | (obtain⟨t,rfl⟩:=rx;rfl)
theorem DY:lq X (compareOp .IsNot) (λx y H Q=>y=.cZ/\Q (.bl (!decide (x=.cZ))) H):=by
 intro pins s σ H x y v u Q I rx ry h
 obtain⟨rfl,q⟩:=h
 cases ry
 refine isnot_none_gen (bU I q ?_)
 cases x <;>first
  | (cases rx;rfl)
  | (obtain⟨t,rfl⟩:=rx;rfl)
theorem aY (b:Expr) {op:CmpOp} (h:op≠.In:=by decide) (h2:op≠.NotIn:=by decide):behindInMarks op b=false:=by
 have e1:(op==CmpOp.In)=false:=by cases op <;>first | rfl | exact absurd rfl h
 have e2:(op==CmpOp.NotIn)=false:=by cases op <;>first | rfl | exact absurd rfl h2
 cases b <;>simp [behindInMarks,e1,e2]
theorem mh {op:CmpOp} {r:R2} (ho:lq X (compareOp op) r) (ha:PE X a ta) (hb:PE X b tb) (hm:behindInMarks op b=false):PE X (.Compare a [op] [b] pos) (tOp r ta tb):=by
 intro pins s σ H Q I h
 exact wpAny_Compare1 (GV ha hb I h λv u s2 x y H2 I2 rx ry q=>ho pins s2 σ H2 x y v u Q I2 rx ry q) hm
noncomputable def tTest (t:TE):TT:=λσ H Q=>t σ H λx H'=>∃k,x=.bl k/\Q k H'
theorem aM {op:CmpOp} {r:R2} (ho:lq X (compareOp op) r) (ha:PE X a ta) (hb:PE X b tb) (hm:behindInMarks op b=false):PT X (.Compare a [op] [b] pos) (tTest (tOp r ta tb)):=by
 intro pins s σ H Q I h
 refine wpAny_isTrue_Compare1 (cG (ha pins s σ H _ I h) λv s1 ⟨x,H1,I1,r1,q1⟩=>cG (hb pins s1 σ H1 _ I1 q1) λu s2 ⟨y,H2,I2,r2,q2⟩=>
  cG (ho pins s2 σ H2 x y v u _ I2 r1 r2 q2) λc s3 ⟨z,H3,I3,r3,k,e,q3⟩=>?_) hm
 subst e
 cases r3
 exact wpAny_truthy_bool ⟨H3,I3,q3⟩
noncomputable def tChain (r r':R2) (ta tb tc:TE):TE:=λσ H Q=>ta σ H λx H1=>tb σ H1 λy H2=>r x y H2 λz H3=>∃k,z=.bl k/\
 (if k=true then tc σ H3 λw' H4=>r' y w' H4 Q else Q (.bl false) H3)
theorem Bq {op NB:CmpOp} {r r':R2} (ho:lq X (compareOp op) r) (DS:lq X (compareOp NB) r') (ha:PE X a ta) (hb:PE X b tb) (hc:PE X c tc)
  (hm:lastMarks [op,NB] [b,c]=false:=by with_unfolding_all rfl):PT X (.Compare a [op,NB] [b,c] pos) (tTest (tChain r r' ta tb tc)):=by
 intro pins s σ H Q I h
 refine isTrue_chain (cG (ha pins s σ H _ I h) λv s1 ⟨x,H1,I1,r1,q1⟩=>test_link (cG (hb pins s1 σ H1 _ I1 q1) λu s2 ⟨y,H2,I2,r2,q2⟩=>
  cG (ho pins s2 σ H2 x y v u _ I2 r1 r2 q2) λd s3 ⟨z,H3,I3,r3,k,e,q3⟩=>?_)) hm
 subst e
 cases r3
 refine wpAny_truthy_bool ?_
 cases k with
 | false=>
  obtain⟨k',e',q'⟩:=q3
  cases e'
  exact ite_ff ⟨H3,I3,q'⟩
 | true=>
  refine ite_tt (test_last (cG (hc pins s3 σ H3 _ I3 q3) λw' s4 ⟨z',H4,I4,r4,q4⟩=>cG (DS pins s4 σ H4 y z' u w' _ I4 r2 r4 q4) λd' s5 ⟨z2,H5,I5,r5,k2,e2,q5⟩=>?_))
  subst e2
  cases r5
  exact wpAny_truthy_bool ⟨H5,I5,q5⟩
theorem p7:(sizeLine:Nat)<2^63:=by rw[sizeLine_eq];decide
theorem xp:lq X (binaryOp .Add) (λx y H Q=>∃i j,x=.str i/\y=.str j/\i.length+j.length<=sizeLine/\Q (.str (i++j)) H):=by
 intro pins s σ H x y v u Q I rx ry h
 obtain⟨i,j,rfl,rfl,hz,q⟩:=h
 obtain⟨t,rfl⟩:=rx
 obtain⟨t',rfl⟩:=ry
 exact add_str (λt' tk=>⟨.str (i++j),H,I.tok _,⟨_,rfl⟩,q⟩) hz
theorem vals1 {x:V} {us:List Value} (r:bF [x] us):∃u,us=[u]/\RelV x u:=by
 cases r with
 | cons r1 r2=>cases r2;exact⟨_,rfl,r1⟩
theorem vals2 {x y:V} {us:List Value} (r:bF [x,y] us):∃u w',us=[u,w']/\RelV x u/\RelV y w':=by
 cases r with
 | cons r1 r2=>
  cases r2 with
  | cons r3 r4=>cases r4;exact⟨_,_,rfl,r1,r3⟩
theorem vq:di X (.builtin "abs") (λxs H Q=>∃i,xs=[.int i]/\Q (.int (if i<0 then -i else i)) H):=by
 intro pins s σ H xs us Q I r h
 obtain⟨i,rfl,q⟩:=h
 obtain⟨u,rfl,t,rfl⟩:=vals1 r
 exact call_abs_int λu tk=>⟨.int (if i<0 then -i else i),H,I.tok _,⟨_,rfl⟩,q⟩
theorem sU (hc:X.calm=true):di X (.builtin "max") (λxs H Q=>∃i j,xs=[.int i,.int j]/\Q (.int (if j >i then j else i)) H):=by
 intro pins s σ H xs us Q I r h
 obtain⟨i,j,rfl,q⟩:=h
 obtain⟨u,w',rfl,⟨t,rfl⟩,⟨t',rfl⟩⟩:=vals2 r
 refine max_two_ints (I.ok.hd hc) λh' tk k=>⟨_,H,I.kept k,?_,q⟩
 by_cases hj:j >i
 ·rw[if_pos hj,if_pos hj];exact⟨_,rfl⟩
 ·rw[if_neg hj,if_neg hj];exact⟨_,rfl⟩
theorem sV (hc:X.calm=true):di X (.builtin "min") (λxs H Q=>∃i j,xs=[.int i,.int j]/\Q (.int (if j<i then j else i)) H):=by
 intro pins s σ H xs us Q I r h
 obtain⟨i,j,rfl,q⟩:=h
 obtain⟨u,w',rfl,⟨t,rfl⟩,⟨t',rfl⟩⟩:=vals2 r
 refine min_two_ints (I.ok.hd hc) λh' tk k=>⟨_,H,I.kept k,?_,q⟩
 by_cases hj:j<i
 ·rw[if_pos hj,if_pos hj];exact⟨_,rfl⟩
 ·rw[if_neg hj,if_neg hj];exact⟨_,rfl⟩
theorem Ab:di X (.type "int") (λxs H Q=>(∃i,xs=[.int i]/\Q (.int i) H)\/∃k,xs=[.bl k]/\Q (.int (if k then 1 else 0)) H):=by
 intro pins s σ H xs us Q I r h
 rcases h with ⟨i,rfl,q⟩ | ⟨k,rfl,q⟩
 ·obtain⟨u,rfl,t,rfl⟩:=vals1 r
  exact call_int_int ⟨.int i,H,I,⟨_,rfl⟩,q⟩
 ·obtain⟨u,rfl,r1⟩:=vals1 r
  cases r1
  exact call_int_bool ⟨.int (if k then 1 else 0),H,I.tok _,⟨_,rfl⟩,q⟩
end
end L2
namespace L2
open PySem PySem.Spec PyProof.Rows
structure xq (h:Heap) (x dx C:Addr) (mA:Str->Option Value):Prop where
 obj:h.get? x=some (PySem.W.instObj C dx)
 ns:h.Ns1 dx mA
 ne:dx≠x
theorem Ac {h:Heap} {dx:Addr} {mA:Str->Option Value} (n:h.Ns1 dx mA):∃od,h.get? dx=some od/\∀name,PySem.W.lookIn name od=some (mA name):=by
 obtain⟨o,es,ep,ho,hd,hk,_,hm⟩:=n
 refine⟨o,ho,λname=>?_⟩
 have e:=hm name
 unfold nsFind findBy at e
 rw[<-Array.find?_toList] at e
 unfold PySem.W.lookIn
 rw[hd]
 dsimp only
 split
 ·rename_i y q
  rw[q] at e
  exact congrArg some e
 ·rename_i q
  rw[q] at e
  have a:es.toList.any (·.refKey)=false:=by
   rw[List.any_eq_false]
   intro y hy
   obtain⟨z,t,NC⟩:=hk y (Array.mem_toList_iff.mp hy)
   simp [DictEntry.refKey,NC]
  have a':¬es.toList.any (·.refKey)=true:=by rw[a];exact aar
  rw[if_neg a']
  exact congrArg some e
theorem xq.look {h:Heap} {x dx C:Addr} {mA:Str->Option Value} (I:xq h x dx C mA):∃od,PySem.W.InstAt h x (PySem.W.instObj C dx) C (some od)/\∀name,PySem.W.lookIn name od=some (mA name):=
 let ⟨od,ho,hl⟩:=Ac I.ns
 ⟨od,⟨I.obj,rfl,rfl,ho⟩,hl⟩
section
variable {prog : Program} {w : World} {A : Around} {E : Value -> Shared -> Prop} {s : Shared} {K : PySem.W.Frag} {x dx C f : Addr} {mA : Str -> Option Value} {name : Str} {v : Value}
theorem get_map {expr:Bool} {Q:Value->Shared->Prop} (X:K.In s.heap) (I:xq s.heap x dx C mA) (hg:PySem.W.plainGet K C name=true) (hh:PySem.W.hasDictIn K C=true)
  (ha:PySem.W.findIn K (.ref C) name=some none) (hv:mA name=some v) (WU:PySem.W.handedIn v=true) (h:Q v {s with toks:=s.toks+1}):
  wpAny (model prog w) A (getAttr (.ref x) name expr) Q E s:=by
 obtain⟨od,J,hl⟩:=I.look
 exact PySem.W.get_value X J (PySem.W.plainGet_of hg).1 (PySem.W.findObj_own hh ha rfl (by rw[hl,hv])) WU h
theorem Br {pl:Sem Bool} {Q:Value×List Value->Shared->Prop} (X:K.In s.heap) (I:xq s.heap x dx C mA) (hg:PySem.W.plainGet K C name=true)
  (hf:PySem.W.findIn K (.ref C) name=some (some (.ref f))) (ht:PySem.W.isFn K (.ref f)=true) (hv:mA name=none) (h:Q (.ref f,[.ref x]) s):
  wpAny (model prog w) A (getMethod (.ref x) name pl) Q E s:=by
 obtain⟨od,J,hl⟩:=I.look
 exact PySem.W.method_fn X J (PySem.W.plainGet_of hg).1 (PySem.W.plainGet_of hg).2 hf (beq_iff_eq.mp ht) (by show(PySem.W.lookIn name od).map (·.isSome)=some false;rw[hl,hv];rfl) h
theorem DZ {ns:List Str} {Q:Unit->Shared->Prop} (X:K.In s.heap) (I:xq s.heap x dx C mA)
  (hs:PySem.W.findIn K (.ref C) "__setattr__"=some (some (.builtin "object.__setattr__"))) (hp:PySem.W.plainOver K C=true) (ht:PySem.W.takerIn K C name=some none) (hh:PySem.W.hasDictIn K C=true)
  (hw:PySem.Within mA ns) (hsz:ns.length<=sizeLine)
  (h:∀h',xq h' x dx C (λy=>if y=name then some v else mA y)->Heap.SameBut dx s.heap h'->Q () {s with heap:=h',toks:=s.toks+2}):
  wpAny (model prog w) A (setAttr (.ref x) name v) Q E s:=by
 obtain⟨od,J,hl⟩:=I.look
 refine PySem.W.set_plain X J hs (PySem.W.osa_open (s:={s with toks:=s.toks+1}) (r:=none) X J hp ht λb=>?_)
 obtain⟨cd,hc,Nv⟩:=PySem.W.any_some hh
 have hx:s.heap.get? x=some ⟨.ref C,some dx,.plain,#[]⟩:=I.obj
 refine wpAny_bind (wpAny_pure (wpAny_bind (wpAny_bind (wpAny_loadPart hx (wpAny_bind (PySem.W.Looks.here (s:={s with toks:=s.toks+1}) (PySem.W.looks_clsIn X hc) ?_))))))
 rw[Nv]
 refine wpAny_pure (a:=some dx) (wpAny_bind (wpAny_pure (wpAny_bind ?_)))
 refine wpAny_nsSet1 (s:={s with toks:=s.toks+1}) I.ns λh' D1 GU=>?_
 obtain⟨oD,esD,epD,WV,WW,WX⟩:=D1.count (PySem.Within.cons name v hw)
 refine wpAny_bind (wpAny_lookBehind WV (by rw[WW];exact pastItsLine_dict (aal WX (by rw[aaq];omega))) ?_)
 exact wpAny_pure (h _ ⟨(GU.2 _ (Ne.symm I.ne)).trans I.obj,D1,I.ne⟩ GU)
theorem Bs {R:Result->Shared->Prop} {vs:List Value} {kw:List (Str×Value)} (X:K.In s.heap) (hm:PySem.W.makesIn K C=true)
  (hi:PySem.W.findIn K (.ref C) "__init__"=some (some (.ref f))) (hf:PySem.W.typeIn K (.ref f)=some (.type "function"))
  (h:codeAny (model prog w) (A.under (.builtin "type.__call__" ⟨.ref C::vs,kw⟩)) (.call (.ref f) ⟨.ref (s.heap.objs.size+1)::vs,kw⟩) (PySem.W.InitBack (s.heap.objs.size+1) R)
   {s with heap:=(s.heap.push PySem.W.emptyDict).push (PySem.W.instObj C s.heap.objs.size)}):
  codeAny (model prog w) A (.call (.ref C) ⟨vs,kw⟩) R s:=by
 obtain⟨hh,g,d,t,os⟩:=s
 exact PySem.W.make_core (PySem.W.makes_of X hm) (PySem.W.looks_findIn X hi) (λself=>PySem.W.bind_fn X self hf) (.inl rfl) h
end
noncomputable def iL (f:Str) (v:V):List (Str×V)->List (Str×V)
 | []=>[(f,v)]
 | (g,x)::r=>if g=f then (g,v)::r else (g,x)::iL f v r
theorem oS (f g:Str) (v:V):∀fs:List (Str×V),(iL f v fs).lookup g=if g=f then some v else fs.lookup g
 | []=>by
  show List.lookup g [(f,v)]=_
  by_cases h:g=f
  ·have hb:(g==f)=true:=beq_iff_eq.mpr h
   simp only[List.lookup,hb,if_pos h]
  ·have hb:(g==f)=false:=beq_eq_false_iff_ne.mpr h
   simp only[List.lookup,hb,if_neg h]
 | (k,x)::r=>by
  have ih:=oS f g v r
  rw[show iL f v ((k,x)::r)=(if k=f then (k,v)::r else (k,x)::iL f v r) from rfl]
  by_cases hk:k=f
  ·rw[if_pos hk]
   by_cases h:g=k
   ·have hb:(g==k)=true:=beq_iff_eq.mpr h
    simp only[List.lookup,hb,if_pos (h.trans hk)]
   ·have hb:(g==k)=false:=beq_eq_false_iff_ne.mpr h
    simp only[List.lookup,hb,if_neg (λe:g=f=>h (e.trans hk.symm))]
  ·rw[if_neg hk]
   by_cases h:g=k
   ·have hb:(g==k)=true:=beq_iff_eq.mpr h
    simp only[List.lookup,hb,if_neg (λe:g=f=>hk (h.symm.trans e))]
   ·have hb:(g==k)=false:=beq_eq_false_iff_ne.mpr h
    simp only[List.lookup,hb]
    exact ih
theorem nG (f:Str) (v:V):∀fs:List (Str×V),f∈(iL f v fs).map (·.1)/\∀g,g∈fs.map (·.1)->g∈(iL f v fs).map (·.1)
 | []=>⟨by simp [iL],λg h=>by simp at h⟩
 | (k,x)::r=>by
  obtain⟨i1,i2⟩:=nG f v r
  rw[show iL f v ((k,x)::r)=(if k=f then (k,v)::r else (k,x)::iL f v r) from rfl]
  by_cases hk:k=f
  ·rw[if_pos hk]
   subst hk
   exact⟨by simp,λg h=>by simpa using h⟩
  ·rw[if_neg hk]
   refine⟨?_,λg h=>?_⟩
   ·rw[aae]
    exact aaj _ i1
   ·rw[aae] at h ⊢
    rcases List.mem_cons.mp h with e | e
    ·exact List.mem_cons.mpr (.inl e)
    ·exact aaj _ (i2 g e)
theorem oU (f:Str) (v:V):∀fs:List (Str×V),(iL f v fs).length<=fs.length+1
 | []=>by simp [iL]
 | (k,x)::r=>by
  have ih:=oU f v r
  rw[show iL f v ((k,x)::r)=(if k=f then (k,v)::r else (k,x)::iL f v r) from rfl]
  by_cases hk:k=f
  ·rw[if_pos hk,aaq,aaq];omega
  ·rw[if_neg hk,aaq,aaq];omega
theorem iK.some_of {v:V} {o:Option Value} (r:iK (some v) o):∃u,o=some u/\RelV v u:=by
 cases o with
 | none=>exact(show False from r).elim
 | some u=>exact⟨u,rfl,r⟩
theorem iK.none_of {o:Option Value} (r:iK none o):o=none:=by
 cases o with
 | none=>rfl
 | some u=>exact(show False from r).elim
theorem Ad {v:V} {u:Value} (r:RelV v u):PySem.W.handedIn u=true:=by
 cases v with
 | cZ=>cases (show u=Value.none from r);rfl
 | bl b=>cases (show u=Value.bool b from r);rfl
 | int i=>obtain⟨t,e⟩:=(show ∃t,u=Value.int i t from r);cases e;rfl
 | str x=>obtain⟨t,e⟩:=(show ∃t,u=Value.str x t from r);cases e;rfl
 | A9 b=>obtain⟨t,e⟩:=(show ∃t,u=Value.bytes b t from r);cases e;rfl
 | GK b=>obtain⟨t,e⟩:=(show ∃t,u=Value.float b t from r);cases e;rfl
 | ref a=>cases (show u=Value.ref a from r);rfl
 | ty n=>cases (show u=Value.type n from r);rfl
section
variable {P : Program} {w : World} {H H' : Hp} {h h' : Heap} {a C dx : Addr} {fs WK : List (Str × V)}
theorem pI (bP:gG P w H h) (e:H a=some (.ins C dx fs)):∃mA,xq h a dx C mA/\(∀f,iK (fs.lookup f) (mA f))/\PySem.Within mA (fs.map (·.1))/\fs.length<=1000/\H dx=some (.own a):=by
 obtain⟨d,z,ne,ob,mA,n,r,q⟩:=(show cA P w H h a (.ins C dx fs) from bP a _ e)
 exact⟨mA,⟨ob,n,ne⟩,r,q,z,d⟩
end
structure yT (K:PySem.W.Frag) (C:Addr):Prop where
 pg:PySem.W.plainGet K C Str.empty=true
 hd:PySem.W.hasDictIn K C=true
 po:PySem.W.plainOver K C=true
 sa:PySem.W.findIn K (.ref C) "__setattr__"=some (some (.builtin "object.__setattr__"))
theorem yT.get {K:PySem.W.Frag} {C:Addr} (c:yT K C) (f:Str):PySem.W.plainGet K C f=true:=c.pg
noncomputable def nH (K:PySem.W.Frag) (C:Addr) (f:Str):Prop:=PySem.W.findIn K (.ref C) f=some none
theorem nH.JO {K:PySem.W.Frag} {C:Addr} {f:Str} (n:nH K C f):PySem.W.takerIn K C f=some none:=by
 unfold PySem.W.takerIn
 rw[show PySem.W.findIn K (.ref C) f=some none from n]
 rfl
structure Con (K:PySem.W.Frag) (C:Addr) (f:Str) (v:V) (u:Value):Prop where
 at_:PySem.W.findIn K (.ref C) f=some (some u)
 rel:RelV v u
 get:PySem.W.specialIn K u "__get__"=some none
 cp:PySem.W.copiedNames.contains f=false
structure Bu (K:PySem.W.Frag) (C:Addr) (m:Str) (f:Addr):Prop where
 at_:PySem.W.findIn K (.ref C) m=some (some (.ref f))
 fn:PySem.W.isFn K (.ref f)=true
 kp:PySem.W.keepIn K (.ref f)=true
section
variable {X : Cx} {pins : List (Addr × Obj)} {σ : St} {H : Hp} {s : Shared} {a C dx : Addr} {fs : List (Str × V)} {f : Str} {v : V} {A : Around} {E : Value -> Shared -> Prop}
theorem xr {b:Bool} {Q:Value->Shared->Prop} (I:Inv X pins σ H s) (e:H a=some (.ins C dx fs)) (c:yT X.K C) (n:nH X.K C f) (l:fs.lookup f=some v)
  (h:∀u s',Inv X pins σ H s'->RelV v u->Q u s'):wpAny (model X.prog X.w) A (getAttr (.ref a) f b) Q E s:=by
 obtain⟨mA,O,r,_,_,_⟩:=pI I.bP e
 obtain⟨u,hu,ru⟩:=iK.some_of (v:=v) (o:=mA f) (by rw[<-l];exact r f)
 exact get_map I.oQ O (c.get f) c.hd n hu (Ad ru) (h u _ (I.tok _) ru)
theorem p8 {m:Str} {g:Addr} {pl:Sem Bool} {Q:Value×List Value->Shared->Prop} (I:Inv X pins σ H s) (e:H a=some (.ins C dx fs)) (c:yT X.K C) (k:Bu X.K C m g) (l:fs.lookup m=none)
  (h:Q (.ref g,[.ref a]) s):wpAny (model X.prog X.w) A (getMethod (.ref a) m pl) Q E s:=by
 obtain⟨mA,O,r,_,_,_⟩:=pI I.bP e
 have hn:mA m=none:=iK.none_of (by rw[<-l];exact r m)
 exact Br I.oQ O (c.get m) k.at_ k.fn hn h
theorem xt {y:V} {u:Value} {Q:Unit->Shared->Prop} (I:Inv X pins σ H s) (e:H a=some (.ins C dx fs)) (c:yT X.K C) (n:nH X.K C f) (hl:fs.length<1000) (ry:RelV y u)
  (h:∀s',Inv X pins σ (upd H a (.ins C dx (iL f y fs))) s'->Q () s'):wpAny (model X.prog X.w) A (setAttr (.ref a) f u) Q E s:=by
 obtain⟨mA,O,r,wi,_,ho⟩:=pI I.bP e
 have hz:(fs.map (·.1)).length<=sizeLine:=by rw[aac,sizeLine_eq];omega
 refine DZ I.oQ O c.sa c.po n.JO c.hd wi hz λh' O' sb=>h _ ?_
 have hd:∃o,h'.get? dx=some o:=let ⟨o,_,_,e',_⟩:=O'.ns;⟨o,e'⟩
 refine I.write (x:=a) (e:=dx) (by rw[e];exact True.intro) (.inr ho) (λb q hb z=>(sb.2 b hb).trans z) hd ?_
 refine⟨by rw[aD O.ne];exact ho,?_,O.ne,O'.obj,_,O'.ns,λg=>?_,λg hg=>?_⟩
 ·have:=oU f y fs;omega
 ·show iK ((iL f y fs).lookup g) (if g=f then some u else mA g)
  rw[oS]
  by_cases q:g=f
  ·rw[if_pos q,if_pos q];exact ry
  ·rw[if_neg q,if_neg q];exact r g
 ·by_cases q:g=f
  ·rw[q];exact(nG f y fs).1
  ·refine(nG f y fs).2 g (wi g λz=>hg ?_)
   show(if g=f then some u else mA g)=none
   rw[if_neg q];exact z
theorem Inv.made (I:Inv X pins σ H s):Inv X pins σ (upd (upd H s.heap.objs.size (.own (s.heap.objs.size+1))) (s.heap.objs.size+1) (.ins C s.heap.objs.size []))
  {s with heap:=(s.heap.push PySem.W.emptyDict).push (PySem.W.instObj C s.heap.objs.size)}:=by
 have e1:(s.heap.push PySem.W.emptyDict).get? s.heap.objs.size=some PySem.W.emptyDict:=Heap.get?_push_size s.heap rfl
 have e2:((s.heap.push PySem.W.emptyDict).push (PySem.W.instObj C s.heap.objs.size)).get? (s.heap.objs.size+1)=some (PySem.W.instObj C s.heap.objs.size):=by
  have:=Heap.get?_push_size (s.heap.push PySem.W.emptyDict) (o:=PySem.W.instObj C s.heap.objs.size) rfl
  rwa [Heap.size_push] at this
 have e3:(s.heap.push PySem.W.emptyDict).Ns s.heap.objs.size (λ_=>none):=⟨PySem.W.emptyDict,#[],_,e1,rfl,(λe he=>absurd he (by simp)),λ_=>rfl⟩
 have I1:=I.laid (a:=s.heap.objs.size) (o:=.own (s.heap.objs.size+1)) (h':=s.heap.push PySem.W.emptyDict) (t':=s.toks) (λb u q=>Heap.get?_push_of_some _ q) (aaf _) ⟨_,e1⟩
 refine I1.laid (a:=s.heap.objs.size+1) (o:=.ins C s.heap.objs.size []) (t':=s.toks) (λb u q=>Heap.get?_push_of_some _ q) (Nat.le_of_eq (Heap.size_push _ _)) ?_
 have ne:s.heap.objs.size≠s.heap.objs.size+1:=aai (aaT _)
 refine⟨by rw[aD ne,aq],aah _,ne,e2,λ_=>none,(Heap.Ns1.of_empty e3).at λo q=>Heap.get?_push_of_some _ q,λ_=>True.intro,λy hy=>absurd rfl hy⟩
theorem D3 {prog:Program} {w:World} {env:Env} {e:Expr} {f:Str} {pos:Pos} {s:Shared} {Q:Value->Shared->Prop} (hb:attributeBase e f env (eval e env)=eval e env)
  (h:wpAny (model prog w) A (eval e env) (λo s₁=>wpAny (model prog w) A (getAttr o f true) Q E s₁) E s):wpAny (model prog w) A (eval (.Attribute e f pos) env) Q E s:=
 Attribute_any_ h (by rw[arm_eval_Attribute,hb])
end
noncomputable def d9 (K:PySem.W.Frag) (ta:TE) (f:Str):TE:=λσ H Q=>ta σ H λx H1=>∃a C dx fs v,x=.ref a/\H1 a=some (.ins C dx fs)/\yT K C/\nH K C f/\fs.lookup f=some v/\Q v H1
noncomputable def xu (K:PySem.W.Frag) (ta tv:TE) (f:Str):TS:=λD σ H=>tv σ H λy H1=>ta σ H1 λx H2=>∃a C dx fs,x=.ref a/\H2 a=some (.ins C dx fs)/\yT K C/\nH K C f/\fs.length<1000/\
 D.nx σ (upd H2 a (.ins C dx (iL f y fs)))
section
variable {X : Cx} {o e value : Expr} {f : Str} {pos pos' rR : Pos} {ta tv : TE}
theorem b9 (he:PE X e ta) (hb:attributeBase e f X.env (eval e X.env)=eval e X.env):PE X (.Attribute e f pos) (d9 X.K ta f):=by
 intro pins s σ H Q I h
 refine D3 hb (cG (he pins s σ H _ I h) λu s1 ⟨x,H1,I1,rx,a,C,dx,fs,v,ex,ea,c,n,l,q⟩=>?_)
 subst ex
 obtain rfl:u=Value.ref a:=rx
 exact xr I1 ea c n l λu' s2 I2 ru=>⟨v,H1,I2,ru,q⟩
theorem lA (ha:PE X o ta) (hv:PE X value tv) (hs:swapsWith value (some (.Attribute o f pos')) pos.line X.env=pure false):PS X (.Assign [.Attribute o f pos'] value pos) (xu X.K ta tv f):=by
 intro pins s σ H D I h
 refine plainObj_wpAny_Assign_Attribute (cG (hv pins s σ H _ I h) λu s1 ⟨y,H1,I1,ry,q⟩=>cG (ha pins s1 σ H1 _ I1 q) λov s2 ⟨x,H2,I2,rx,a,C,dx,fs,ex,ea,c,n,l,q2⟩=>?_) hs
 subst ex
 obtain rfl:ov=Value.ref a:=rx
 exact xt I2 ea c n l ry λs3 I3=>⟨σ,_,I3,q2⟩
end
section
variable {X : Cx} {pins : List (Addr × Obj)} {σ : St} {H : Hp} {s : Shared} {A : Around} {E : Value -> Shared -> Prop} {Q : Value -> Shared -> Prop} {c : Value} {b : Bool}
inductive iW (K:PySem.W.Frag) (H:Hp):V->Value->Prop where
 | cZ:iW K H .cZ (.type "NoneType")
 | bl (x:Bool):iW K H (.bl x) (.type "bool")
 | int (i:Int):iW K H (.int i) (.type "int")
 | str (x:Str):iW K H (.str x) (.type "str")
 | GK (x:UInt64):iW K H (.GK x) (.type "float")
 | lst {a:Addr} {xs:List V} (e:H a=some (.lst xs)):iW K H (.ref a) (.type "list")
 | vf {a:Addr} {o:Obj} {xs:List V} (e:H a=some (.vf o (.lst xs))):iW K H (.ref a) (.type "list")
 | tup {a:Addr} {xs:List V} (e:H a=some (.tup xs)):iW K H (.ref a) (.type "tuple")
 | dK {a:Addr} {kvs:List (Key×V)} (e:H a=some (.dK kvs)):iW K H (.ref a) (.type "dict")
 | dT {a:Addr} {kvs:List (List Key×V)} (e:H a=some (.dT kvs)):iW K H (.ref a) (.type "dict")
 | ins {a C dx:Addr} {fs:List (Str×V)} (e:H a=some (.ins C dx fs)) (cl:yT K C) (ha:PySem.W.findIn K (.ref C) "__class__"=some (some (.builtin "object.__class__")))
   (hn:PySem.W.specialIn K (.builtin "object.__class__") "__get__"=some (some (.builtin "getset_descriptor.__get__"))) (UU:PySem.W.takesIn K (.builtin "object.__class__")=some true)
   (hm:PySem.W.mroIn K C (.type "object")=some true):iW K H (.ref a) (.ref C)
theorem Ae {x:V} {u t:Value} (I:Inv X pins σ H s) (rx:RelV x u) (ty:iW X.K H x t) (e:PySem.W.kitOne X.K t c=some b) (h:∀tk,Q (.bool b) {s with toks:=tk}):
  wpAny (model X.prog X.w) A (call (.builtin "isinstance") [u,c]) Q E s:=by
 cases ty with
 | cZ=>cases (show u=Value.none from rx);exact aaO PySem.W.kitx_none I.oQ True.intro e (λz=>nomatch z) h
 | bl y=>cases (show u=Value.bool y from rx);exact aaO PySem.W.kitx_bool I.oQ True.intro e (λz=>nomatch z) h
 | int i=>obtain⟨t,q⟩:=(show ∃t,u=Value.int i t from rx);cases q;exact aaO PySem.W.kitx_int I.oQ True.intro e (λz=>nomatch z) h
 | str y=>obtain⟨t,q⟩:=(show ∃t,u=Value.str y t from rx);cases q;exact aaO PySem.W.kitx_str I.oQ True.intro e (λz=>nomatch z) h
 | GK y=>obtain⟨t,q⟩:=(show ∃t,u=Value.float y t from rx);cases q;exact aaO PySem.W.kitx_float I.oQ True.intro e (λz=>nomatch z) h
 | @lst a xs ea=>
  cases (show u=Value.ref a from rx)
  obtain⟨_,_,n,_,h1⟩:=(show cA X.prog X.w H s.heap a (.lst xs) from I.bP a _ ea)
  exact aaO PySem.W.kitx_list I.oQ ⟨_,h1,rfl⟩ e (λz=>nomatch z) h
 | @vf a ob xs ea=>
  cases (show u=Value.ref a from rx)
  obtain⟨_,_,_,n,_,h1⟩:=(show cA X.prog X.w H s.heap a (.vf ob (.lst xs)) from I.bP a _ ea)
  exact aaO PySem.W.kitx_list I.oQ ⟨_,h1,rfl⟩ e (λz=>nomatch z) h
 | @tup a xs ea=>
  cases (show u=Value.ref a from rx)
  obtain⟨_,_,_,p⟩:=(show cA X.prog X.w H s.heap a (.tup xs) from I.bP a _ ea)
  obtain⟨o,h1,h2,_⟩:=p
  exact aaO PySem.W.kitx_tuple I.oQ ⟨o,h1,h2⟩ e (λz=>nomatch z) h
 | @dK a kvs ea=>
  cases (show u=Value.ref a from rx)
  obtain⟨_,_,vs,_,p⟩:=(show cA X.prog X.w H s.heap a (.dK kvs) from I.bP a _ ea)
  obtain⟨o,es,ep,h1,h2,_⟩:=p
  exact aaO PySem.W.kitx_dict I.oQ ⟨o,h1,h2.1⟩ e (λz=>nomatch z) h
 | @dT a kvs ea=>
  cases (show u=Value.ref a from rx)
  obtain⟨_,_,xs,_,o,es,ep,h1,h2,_⟩:=(show cA X.prog X.w H s.heap a (.dT kvs) from I.bP a _ ea)
  exact aaO PySem.W.kitx_dict I.oQ ⟨o,h1,h2.1⟩ e (λz=>nomatch z) h
 | @ins a C dx fs ea cl ha hn UU hm=>
  cases (show u=Value.ref a from rx)
  obtain⟨mA,O,_⟩:=pI I.bP ea
  obtain⟨od,J,_⟩:=O.look
  exact aaO (PySem.W.kitx_own (cl.get _) cl.hd ha hn UU hm) I.oQ J e (λz=>nomatch z) h
end
end L2
namespace L2
open PySem PySem.Spec PyProof.Rows
structure dH (k:Nat) (A:Around):Prop where
 hd:A.handled=none
 dp:A.depth+3*k+5<recursionLimit
 un:A.units+16*k+200<cLine
theorem dH.mono {j k:Nat} {A:Around} (r:dH k A) (h:j<=k):dH j A:=⟨r.hd,by have:=r.dp;omega,by have:=r.un;omega⟩
theorem dH.deeper {k:Nat} {A:Around} (r:dH (k+1) A) (env:Env):dH k (A.deeper env):=
 ⟨r.hd,by have:=r.dp;show A.depth+1+3*k+5<_;omega,by have:=r.un;show A.units+3+16*k+200<_;omega⟩
theorem xw {A:Around} {C:Addr} {us:List Value} {kw:List (Str×Value)}:(A.under (.builtin "type.__call__" ⟨.ref C::us,kw⟩)).depth=A.depth+1:=by
 first | rfl | simp [Around.under,Code.weight,Code.isCreation,Code.isGuard,Code.isCaller,Code.frames,Code.isFrame,guardIds]
theorem xx {A:Around} {C:Addr} {us:List Value} {kw:List (Str×Value)}:(A.under (.builtin "type.__call__" ⟨.ref C::us,kw⟩)).units=A.units+1:=by
 first | rfl | simp [Around.under,Code.cUnits,Code.frames,Code.isFrame]
theorem dH.make {k:Nat} {A:Around} (r:dH (k+1) A) (C:Addr) (us:List Value) (kw:List (Str×Value)):dH k (A.under (.builtin "type.__call__" ⟨.ref C::us,kw⟩)):=
 ⟨r.hd,by have:=r.dp;rw[xw];omega,by have:=r.un;rw[xx];omega⟩
theorem dH.depth {k:Nat} {A:Around} (r:dH k A):A.depth<recursionLimit:=by have:=r.dp;omega
theorem dH.units {k:Nat} {A:Around} (r:dH k A):A.units+64<cLine:=by have:=r.un;omega
noncomputable def tNil:TA:=λ_ H Q=>Q [] H
noncomputable def tCons (ta:TE) (tr:TA):TA:=λσ H Q=>ta σ H λx H1=>tr σ H1 λxs H2=>Q (x::xs) H2
section
variable {X : Cx} {e : Expr} {es : List Expr} {te : TE} {t : TA} {pos : Pos}
theorem ag:PA X [] tNil:=λ_ _ _ _ H Q I h=>Calls.spliced_nil ⟨[],H,I,.nil,h⟩
theorem aa (ha:PE X e te) (hr:PA X es t) (hs:starEach (e::es) X.env=(false,eval e X.env)::starEach es X.env:=by rfl):PA X (e::es) (tCons te t):=by
 intro pos pins s σ H Q I h
 rw[hs]
 show wpAny _ _ (spliced ((false,eval e X.env)::backTo pos (starEach es X.env))) _ _ s
 refine Calls.spliced_cons (cG (ha pins s σ H _ I h) λu s1 ⟨x,H1,I1,r1,q1⟩=>?_)
 exact cG (hr pos pins s1 σ H1 _ I1 q1) λus s2 ⟨xs,H2,I2,r2,q2⟩=>⟨x::xs,H2,I2,.cons r1 r2,q2⟩
noncomputable def tLst (t:TA):TE:=λσ H Q=>t σ H λxs H1=>xs.length<=sizeLine/\∀p,H1 p=none->Q (.ref p) (upd H1 p (.lst xs))
theorem bJ (h:PA X es t):PE X (.List es pos) (tLst t):=by
 intro pins s σ H Q I hq
 refine wpAny_List_spliced (cG (h pos pins s σ H _ I hq) λus s1 ⟨xs,H1,I1,r,z,q⟩=>⟨by rw[<-r.length];exact z,?_⟩)
 have hf:H1 s1.heap.objs.size=none:=I1.bP.fresh (aaf _)
 refine⟨.ref s1.heap.objs.size,upd H1 s1.heap.objs.size (.lst xs),I1.laid (t':=s1.toks) (λb u e=>Heap.get?_push_of_some _ e) (aaf _) ?_,rfl,q _ hf⟩
 exact⟨z,us,0,r,Heap.get?_push_size _ rfl⟩
end
abbrev Sp:=List V->Hp->VK->XK->Prop
abbrev oV:=List Env->Hp->Shared->XK->Value->Shared->Prop
structure xy (P:Program) (w:World) (K:PySem.W.Frag) (mg:Str->Option Value) (base:Heap) (A:Around) (outer:List Env) (s:Shared) (H:Hp):Prop where
 frames:A.frames=some outer
 mod:Mod K mg base
 bs:∀b o,base.get? b=some o->s.heap.get? b=some o/\H b=none
 Dz:base.objs.size<=s.heap.objs.size
 nA:s.heap.FunFrames base outer
 FC:∀b∈d4 outer,H b=none
 bP:gG P w H s.heap
 bare:AllBare s.gens
noncomputable def CE (outer:List Env) (P:Program) (w:World) (H:Hp) (s:Shared) (Q:VK) (u:Value) (s':Shared):Prop:=
 ∃v H',s'.os=s.os/\AllBare s'.gens/\Un (d4 outer) [] H H' s.heap s'.heap/\gG P w H' s'.heap/\RelV v u/\Q v H'
noncomputable def CR (CX:oV) (outer:List Env) (P:Program) (w:World) (H:Hp) (s:Shared) (Q:VK) (E:XK) (r:Result) (s':Shared):Prop:=
 match r with
 | .ok (.ret u)=>CE outer P w H s Q u s'
 | .ok _=>False
 | .error e=>CX outer H s E e s'
structure fH (P:Program) (w:World) (K:PySem.W.Frag) (mg:Str->Option Value) (base:Heap) (CX:oV) (k:Nat) (f:Addr) (fd:FuncData) (ps:List Str) (sp:Sp):Prop where
 len:∀vs H Q E,sp vs H Q E->vs.length=ps.length
 run:∀(A:Around) (outer:List Env) (s:Shared) (H:Hp) (args:Args) (us:List Value) (vs:List V) (Q:VK) (E:XK),dH k A->xy P w K mg base A outer s H->BindsTo s fd args (ps.zip us)->bF vs us->sp vs H Q E->
  codeAny (model P w) A (.call (.ref f) args) (CR CX outer P w H s Q E) s
theorem fH.mono {P:Program} {w:World} {K:PySem.W.Frag} {mg:Str->Option Value} {base:Heap} {CX:oV} {j k:Nat} {f:Addr} {fd:FuncData} {ps:List Str} {sp:Sp} (F:fH P w K mg base CX j f fd ps sp) (h:j<=k):
  fH P w K mg base CX k f fd ps sp:=⟨F.len,λA outer s H args us vs Q E hr=>F.run A outer s H args us vs Q E (hr.mono h)⟩
theorem xy.make {P:Program} {w:World} {K:PySem.W.Frag} {mg:Str->Option Value} {base:Heap} {A:Around} {outer:List Env} {s:Shared} {H:Hp} (e:xy P w K mg base A outer s H) (C:Addr) (us:List Value) (kw:List (Str×Value)):
  xy P w K mg base (A.under (.builtin "type.__call__" ⟨.ref C::us,kw⟩)) outer s H:=⟨by first | exact e.frames | (simpa [Around.under,Code.envs,Code.isFrame,pushEnvs] using e.frames),e.mod,e.bs,e.Dz,e.nA,e.FC,e.bP,e.bare⟩
section
variable {X : Cx} {pins : List (Addr × Obj)} {σ : St} {H : Hp} {s s' : Shared}
theorem Inv.JP (I:Inv X pins σ H s):xy X.prog X.w X.K X.mg X.base X.A X.stack s H:=
 ⟨I.ok.frames,I.ok.mod,I.bs,aal I.ok.Dz I.sz,I.stack,I.pH,I.bP,I.bare⟩
theorem Inv.after {Q:VK} {u:Value} (I:Inv X pins σ H s) (h:CE X.stack X.prog X.w H s Q u s'):EP X pins σ Q u s':=by
 obtain⟨v,H',os,bare,un,bP,r,q⟩:=h
 obtain⟨hh,g,d,t,WY⟩:=s'
 obtain rfl:WY=s.os:=os
 exact⟨v,H',I.call (h':=hh) (g':=g) (d':=d) (t':=t) (ch:=[]) un bP bare (λb z=>absurd z (by simp)),r,q⟩
end
noncomputable def tCall (sp:Sp) (pJ:List V) (E:XK) (t:TA):TE:=λσ H Q=>t σ H λvs H1=>sp (vs++pJ) H1 Q E
noncomputable def cN (C:Addr) (m:Str) (sp:Sp) (pJ:List V) (E:XK) (ta:TE) (t:TA):TE:=λσ H Q=>ta σ H λx H1=>∃a dx fs,x=.ref a/\H1 a=some (.ins C dx fs)/\fs.lookup m=none/\
 t σ H1 λvs H2=>sp (x::(vs++pJ)) H2 Q E
noncomputable def p9 (C:Addr) (sp:Sp) (pJ:List V) (E:XK) (t:TA):TE:=λσ H Q=>t σ H λvs H1=>∀x dx,H1 x=none->H1 dx=none->dx≠x->
 sp (.ref x::(vs++pJ)) (upd (upd H1 dx (.own x)) x (.ins C dx [])) (λv H2=>v=.cZ/\Q (.ref x) H2) E
noncomputable def Binds (K:PySem.W.Frag) (fd:FuncData) (ps:List Str) (ds:List Value):Prop:=
 ∀(s:Shared) (us:List Value),K.In s.heap->(us++ds).length=ps.length->BindsTo s fd ⟨us,[]⟩ (ps.zip (us++ds))
theorem Binds.all {K:PySem.W.Frag} {fd:FuncData} {ps:List Str} (h:∀us:List Value,us.length=ps.length->bindArgs fd ⟨us,[]⟩=pure (ps.zip us)):Binds K fd ps []:=λs us _ hl=>by
 rw[aaP] at hl ⊢
 exact .of_eq (h us hl)
noncomputable def dX (CX:oV) (X:Cx) (E:XK):Prop:=∀(pins:List (Addr×Obj)) (σ:St) (H:Hp) (s:Shared) (e:Value) (s':Shared),Inv X pins σ H s->CX X.stack H s E e s'->X.xe e s'
section
variable {X : Cx} {CX : oV} {k : Nat} {f C : Addr} {fd : FuncData} {ps : List Str} {sp : Sp} {pJ : List V} {ds : List Value} {E : XK} {x m : Str} {p pos apos : Pos} {e o : Expr} {es : List Expr} {ta : TE} {t : TA}
theorem xA {pins:List (Addr×Obj)} {σ:St} {H:Hp} {s:Shared} {Q:VK} {us:List Value} {vs:List V} (F:fH X.prog X.w X.K X.mg X.base CX k f fd ps sp) (hr:dH k X.A) (hb:Binds X.K fd ps ds) (hd:bF pJ ds) (hx:dX CX X E)
  (I:Inv X pins σ H s) (r:bF vs us) (h:sp (vs++pJ) H Q E):wpAny (model X.prog X.w) X.A (call (.ref f) us) (EP X pins σ Q) X.xe s:=by
 have r2:bF (vs++pJ) (us++ds):=r.append hd
 have hl:(us++ds).length=ps.length:=by rw[<-r2.length];exact F.len _ _ _ _ h
 refine wpAny_call (codeAny_mono (F.run X.A X.stack s H ⟨us,[]⟩ (us++ds) (vs++pJ) Q E hr I.JP (hb s us I.oQ hl) r2 h) λr s' hq=>?_)
 cases r with
 | error e=>exact hx pins σ H s e s' I hq
 | ok fl=>
  cases fl with
  | ret u=>exact I.after hq
  | next=>exact False.elim hq
  | brk=>exact False.elim hq
  | cont=>exact False.elim hq
theorem D5 (F:fH X.prog X.w X.K X.mg X.base CX k f fd ps sp) (hr:dH k X.A) (hg:Gl X x) (hm:X.mg x=some (.ref f)) (hk:PySem.W.keepIn X.K (.ref f)=true) (hb:Binds X.K fd ps ds) (hd:bF pJ ds) (hx:dX CX X E)
  (ha:PA X (e::es) t) (vt:(x==("__debug__":Str))=false:=by decide) (he:starEach (e::es) X.env=(false,eval e X.env)::starEach es X.env:=by rfl) (hpl:(backTo pos (starEach es X.env)).any (·.1)=false:=by rfl):
  PE X (.Call (.Name x p) (e::es) [] pos) (tCall sp pJ E t):=by
 intro pins s σ H Q I h
 refine wpAny_Call_Name_kw (mf I hg hm ?_ vt)
 refine PySem.W.callWith_K (h₀:=X.base) I.ok.mod.IZ hk (cG (ha pos pins s σ H _ I h) λus s1 ⟨vs,H1,I1,r,q⟩=>⟨I1.oQ,?_⟩) he hpl
 exact xA F hr hb hd hx I1 r q
theorem D6 {pl:Sem Bool} (he:PE X o ta) (c:yT X.K C) (hm:Bu X.K C m f) (F:fH X.prog X.w X.K X.mg X.base CX k f fd ps sp) (hr:dH k X.A) (hb:Binds X.K fd ps ds) (hd:bF pJ ds) (hx:dX CX X E) (ha:PA X (e::es) t)
  (hst:starEach (e::es) X.env=(false,eval e X.env)::starEach es X.env:=by rfl) (hpl:(backTo pos (starEach es X.env)).any (·.1)=false:=by rfl)
  (ht:eval (.Call (.Attribute o m apos) (e::es) [] pos) X.env=(do
   let ov <-eval o X.env
   standAt apos.atName
   let (f,first) <-holding [ov] (getMethod ov m pl)
   callWith pos f first (backTo pos (starEach (e::es) X.env)) (backToKw pos (keywordEach [] X.env))):=by rfl):
  PE X (.Call (.Attribute o m apos) (e::es) [] pos) (cN C m sp pJ E ta t):=by
 intro pins s σ H Q I h
 refine PySem.W.methodCall_KW (pl:=pl) (cG (he pins s σ H _ I h) λu s1 ⟨x,H1,I1,rx,a,dx,fs,ex,ea,l,q⟩=>?_) ht
 subst ex
 obtain rfl:u=Value.ref a:=rx
 refine p8 I1 ea c hm l ?_
 refine PySem.W.callWith_K (first:=[.ref a]) (h₀:=X.base) I.ok.mod.IZ hm.kp (cG (ha pos pins s1 σ H1 _ I1 q) λus s2 ⟨vs,H2,I2,r,q2⟩=>⟨I2.oQ,?_⟩) hst hpl
 exact xA (us:=.ref a::us) (vs:=.ref a::vs) F hr hb hd hx I2 (.cons rfl r) q2
theorem Bv {pl:Sem Bool} (he:PE X o ta) (c:yT X.K C) (hm:Bu X.K C m f) (F:fH X.prog X.w X.K X.mg X.base CX k f fd ps sp) (hr:dH k X.A) (hb:Binds X.K fd ps ds) (hd:bF pJ ds) (hx:dX CX X E)
  (ht:eval (.Call (.Attribute o m apos) [] [] pos) X.env=(do
   let ov <-eval o X.env
   standAt apos.atName
   let (f,first) <-holding [ov] (getMethod ov m pl)
   callWith pos f first (backTo pos (starEach [] X.env)) (backToKw pos (keywordEach [] X.env))):=by rfl):
  PE X (.Call (.Attribute o m apos) [] [] pos) (cN C m sp pJ E ta tNil):=by
 intro pins s σ H Q I h
 refine PySem.W.methodCall_KW (pl:=pl) (cG (he pins s σ H _ I h) λu s1 ⟨x,H1,I1,rx,a,dx,fs,ex,ea,l,q⟩=>?_) ht
 subst ex
 obtain rfl:u=Value.ref a:=rx
 refine p8 I1 ea c hm l ?_
 exact PySem.W.callWith_K0 (first:=[.ref a]) I1.oQ hm.kp (xA (us:=[.ref a]) (vs:=[.ref a]) F hr hb hd hx I1 (.cons rfl .nil) q)
structure Mk (K:PySem.W.Frag) (C f:Addr):Prop where
 makes:PySem.W.makesIn K C=true
 init:PySem.W.findIn K (.ref C) "__init__"=some (some (.ref f))
 fn:PySem.W.isFn K (.ref f)=true
 kp:PySem.W.keepIn K (.ref C)=true
theorem vv {pins:List (Addr×Obj)} {σ:St} {H:Hp} {s:Shared} {Q:VK} {us:List Value} {vs:List V} (M:Mk X.K C f) (F:fH X.prog X.w X.K X.mg X.base CX k f fd ps sp) (hr:dH (k+1) X.A) (hb:Binds X.K fd ps ds) (hd:bF pJ ds)
  (hx:dX CX X E) (I:Inv X pins σ H s) (r:bF vs us)
  (h:∀x dx,H x=none->H dx=none->dx≠x->sp (.ref x::(vs++pJ)) (upd (upd H dx (.own x)) x (.ins C dx [])) (λv H2=>v=.cZ/\Q (.ref x) H2) E):
  wpAny (model X.prog X.w) X.A (call (.ref C) us) (EP X pins σ Q) X.xe s:=by
 have hq:=h (s.heap.objs.size+1) s.heap.objs.size (I.bP.fresh (Nat.le_succ _)) (I.bP.fresh (aaf _)) (aai (aaT _))
 have I2:=Inv.made (C:=C) I
 have r2:bF (V.ref (s.heap.objs.size+1)::(vs++pJ)) (Value.ref (s.heap.objs.size+1)::(us++ds)):=.cons rfl (r.append hd)
 have hl:(Value.ref (s.heap.objs.size+1)::us++ds).length=ps.length:=by
  have e:=r2.length
  rw[F.len _ _ _ _ hq] at e
  exact e.symm
 refine wpAny_call (Bs (f:=f) I.oQ M.makes M.init (beq_iff_eq.mp M.fn) (codeAny_mono (F.run _ X.stack _ _ ⟨Value.ref (s.heap.objs.size+1)::us,[]⟩ (Value.ref (s.heap.objs.size+1)::(us++ds)) _ _ E (hr.make C us [])
  (I2.JP.make C us []) (hb _ (Value.ref (s.heap.objs.size+1)::us) I2.oQ hl) r2 hq) λr s' JQ=>?_))
 cases r with
 | error e=>exact hx pins σ _ _ e s' I2 JQ
 | ok fl=>
  cases fl with
  | ret u=>
   obtain⟨v,H',I3,rv,ev,q3⟩:=I2.after JQ
   subst ev
   exact⟨rv,⟨V.ref (s.heap.objs.size+1),H',I3,rfl,q3⟩⟩
  | next=>exact False.elim JQ
  | brk=>exact False.elim JQ
  | cont=>exact False.elim JQ
theorem D7 (M:Mk X.K C f) (F:fH X.prog X.w X.K X.mg X.base CX k f fd ps sp) (hr:dH (k+1) X.A) (hg:Gl X x) (hm:X.mg x=some (.ref C)) (hb:Binds X.K fd ps ds) (hd:bF pJ ds) (hx:dX CX X E)
  (ha:PA X (e::es) t) (vt:(x==("__debug__":Str))=false:=by decide) (he:starEach (e::es) X.env=(false,eval e X.env)::starEach es X.env:=by rfl) (hpl:(backTo pos (starEach es X.env)).any (·.1)=false:=by rfl):
  PE X (.Call (.Name x p) (e::es) [] pos) (p9 C sp pJ E t):=by
 intro pins s σ H Q I h
 refine wpAny_Call_Name_kw (mf I hg hm ?_ vt)
 refine PySem.W.callWith_K (h₀:=X.base) I.ok.mod.IZ M.kp (cG (ha pos pins s σ H _ I h) λus s1 ⟨vs,H1,I1,r,q⟩=>⟨I1.oQ,?_⟩) he hpl
 exact vv M F hr hb hd hx I1 r q
theorem Bw (M:Mk X.K C f) (F:fH X.prog X.w X.K X.mg X.base CX k f fd ps sp) (hr:dH (k+1) X.A) (hg:Gl X x) (hm:X.mg x=some (.ref C)) (hb:Binds X.K fd ps ds) (hd:bF pJ ds) (hx:dX CX X E)
  (vt:(x==("__debug__":Str))=false:=by decide):PE X (.Call (.Name x p) [] [] pos) (p9 C sp pJ E tNil):=by
 intro pins s σ H Q I h
 refine wpAny_Call_Name_kw (mf I hg hm ?_ vt)
 exact PySem.W.callWith_K0 I.oQ M.kp (vv (us:=[]) M F hr hb hd hx I .nil h)
end
section
variable {X : Cx} {CX : oV} {k : Nat} {f C : Addr} {fd : FuncData} {ps ks : List Str} {sp : Sp} {E : XK} {x m : Str} {p pos apos WZ : Pos} {e o : Expr} {es : List Expr} {kws : List Keyword} {te ta : TE} {t tk : TA} {nm : Option Str}
structure ND (K:PySem.W.Frag) (fd:FuncData) (ps ks:List Str) (g:List Value->List Value->List Value) (gV:List V->List V->List V):Prop where
 to:∀(s:Shared) (us ws:List Value),K.In s.heap->(g us ws).length=ps.length->BindsTo s fd ⟨us,ks.zip ws⟩ (ps.zip (g us ws))
 rel:∀{vs:List V} {us:List Value} {zs:List V} {ws:List Value},bF vs us->bF zs ws->bF (gV vs zs) (g us ws)
variable {g : List Value -> List Value -> List Value} {gV : List V -> List V -> List V}
end
structure aV (N P:List Str) (sc:Scope):Prop where
 kind:sc.kind=.function
 co:sc.isCoroutine=false
 gen:sc.isGenerator=false
 nd:N.Nodup
 pre:N.take P.length=P
 par:∀x∈P,sc.names.lookup x=some .local\/sc.names.lookup x=some .cell
 GX:∀y∈sc.names,y.2≠.free
theorem sW {kindOf:Str->Option NameKind} {x:Str}:∀{binds:List (Str×Value)} {m:Str->Option Value},(∀v,(x,v)∉binds)->bindL kindOf binds m x=m x
 | [],_,_=>rfl
 | (n,v)::r,m,h=>by
  unfold bindL
  rw[sW λw hw=>h w (aaj _ hw)]
  split
  ·have:x≠n:=by rintro rfl;exact h v aap
   simp [this]
  ·rfl
theorem sY {kindOf:Str->Option NameKind} {x:Str}:∀{binds:List (Str×Value)} {m:Str->Option Value},(∀v,(x,v)∉binds)->bindC kindOf binds m x=m x
 | [],_,_=>rfl
 | (n,v)::r,m,h=>by
  unfold bindC
  rw[sY λw hw=>h w (aaj _ hw)]
  split
  ·rfl
  ·have:x≠n:=by rintro rfl;exact h v aap
   simp [this]
theorem sZ {kindOf:Str->Option NameKind} {x:Str} {v:Value}:∀{P:List Str} {vs:List Value} {i:Nat} {m:Str->Option Value},P.Nodup->P[i]?=some x->vs[i]?=some v->kindOf x=some .local->
  bindL kindOf (P.zip vs) m x=some v
 | [],_,_,_,_,h,_,_=>by simp at h
 | _::_,[],_,_,_,_,h,_=>by simp at h
 | p::P,w::vs,0,m,nd,h1,h2,hk=>by
  simp at h1 h2;subst h1;subst h2
  show bindL kindOf ((p,w)::P.zip vs) m p=_
  unfold bindL
  rw[sW λv hv=>(List.nodup_cons.mp nd).1 (List.of_mem_zip hv).1,if_pos hk]
  simp
 | p::P,w::vs,i+1,m,nd,h1,h2,hk=>by
  show bindL kindOf ((p,w)::P.zip vs) m x=_
  unfold bindL
  exact sZ (i:=i) (List.nodup_cons.mp nd).2 (by simpa using h1) (by simpa using h2) hk
theorem tf {kindOf:Str->Option NameKind} {x:Str} {v:Value}:∀{P:List Str} {vs:List Value} {i:Nat} {m:Str->Option Value},P.Nodup->P[i]?=some x->vs[i]?=some v->kindOf x≠some .local->
  bindC kindOf (P.zip vs) m x=some v
 | [],_,_,_,_,h,_,_=>by simp at h
 | _::_,[],_,_,_,_,h,_=>by simp at h
 | p::P,w::vs,0,m,nd,h1,h2,hk=>by
  simp at h1 h2;subst h1;subst h2
  show bindC kindOf ((p,w)::P.zip vs) m p=_
  unfold bindC
  rw[sY λv hv=>(List.nodup_cons.mp nd).1 (List.of_mem_zip hv).1,if_neg hk]
  simp
 | p::P,w::vs,i+1,m,nd,h1,h2,hk=>by
  show bindC kindOf ((p,w)::P.zip vs) m x=_
  unfold bindC
  exact tf (i:=i) (List.nodup_cons.mp nd).2 (by simpa using h1) (by simpa using h2) hk
noncomputable def start (N:List Str) (vs:List V):St:=vs.map some++List.replicate (N.length - vs.length) none
noncomputable def dz (CX:oV) (P:Program) (w:World) (K:PySem.W.Frag) (mg:Str->Option Value) (base:Heap) (N:List Str) (qual:Str) (scope:Scope) (f:Addr) (cd:Value) (A:Around) (outer:List Env) (s:Shared) (H:Hp) (E:XK):Cx where
 prog:=P
 w:=w
 K:=K
 mg:=mg
 base:=base
 A:=A.deeper (envOfC qual scope s.heap.objs.size f cd)
 N:=N
 s₀:=s
 H₀:=H
 env:=envOfC qual scope s.heap.objs.size f cd
 outer:=outer
 stack:=envOfC qual scope s.heap.objs.size f cd::outer
 ex:=[]
 calm:=true
 fn:=λ_=>true
 pn:=[]
 xe:=λe s'=>wpAny (model P w) (A.deeper (envOfC qual scope s.heap.objs.size f cd)) (leaving (envOfC qual scope s.heap.objs.size f cd) e) (λ_ ud=>CX outer H s E e ud) (λe' ud=>CX outer H s E e' ud) s'
theorem vx {sc:Scope} {n:Nat} {x:Str} (h:sc.names.lookup x=some .cell):∃c,(cellsFrom n sc.names []).lookup x=some c:=by
 have q:=PySem.W.cellsFrom_some sc.names n [] (.inl h)
 exact Option.isSome_iff_exists.mp q
theorem Af {CX:oV} {P:Program} {w:World} {K:PySem.W.Frag} {mg:Str->Option Value} {base:Heap} {N ps:List Str} {qual:Str} {scope:Scope} {f:Addr} {cd:Value} {A:Around} {outer:List Env} {s s1:Shared} {H:Hp} {E:XK} {us:List Value} {vs:List V}
  (S:aV N ps scope) (hd:A.handled=none) (e0:xy P w K mg base A outer s H) (hl:vs.length=ps.length) (r:bF vs us)
  (x:InCallC s s.heap.objs.size (bindL (envOfC qual scope s.heap.objs.size f cd).kindOf (ps.zip us) λ_=>none) (cellsFrom (s.heap.objs.size+1) scope.names []) (bindC (envOfC qual scope s.heap.objs.size f cd).kindOf (ps.zip us) λ_=>none) s1):
  Inv (dz CX P w K mg base N qual scope f cd A outer s H E) [] (start N vs) H s1:=by
 have hpl:ps.length<=N.length:=by have:=congrArg List.length S.pre;rw[aaU] at this;omega
 obtain⟨h1,tk,rfl,hk⟩:=x.done
 have JR:∀b:Addr,b∉(dz CX P w K mg base N qual scope f cd A outer s H E).ex:=λb z=>absurd (show b∈([]:List Addr) from z) (by simp)
 refine⟨⟨e0.mod,S.kind,rfl,rfl,aaf _,λy z c h1 h2=>?_,λy hy=>?_,λy c _ h=>?_,λ_=>hd,Around.frames_deeper e0.frames,.inr ⟨rfl,rfl⟩,λb z=>absurd z (JR b),e0.bs,e0.Dz,λb _ _=>JR b,λb z=>absurd z (JR b),e0.nA,e0.FC⟩,
  rfl,e0.bare,Un.kept hk,⟨_,x.toInCall.ns,λi y v h1 h2 h3=>?_⟩,λy c h=>⟨_,x.cell y c h⟩,e0.bP.fresh (aaf _),λy c h=>?_,λp hp=>absurd (show p∈([]:List (Addr×Obj)) from hp) (by simp),e0.bP.kept hk,?_⟩
 ·exact name_of_addr x.apart (aaQ h1) (aaQ h2)
 ·have hy:scope.names.lookup y=some .cell\/scope.names.lookup y=some .free:=hy
  rcases hy with hy | hy
  ·exact vx hy
  ·exact absurd rfl (S.GX _ (aaQ hy))
 ·exact Nat.le_of_lt (x.above y c (aaQ h))
 ·have hi:i<vs.length:=by
   unfold start at h2
   by_cases hi:i<vs.length
   ·exact hi
   ·rw[aa5 (by simpa using hi)] at h2
    rw[List.getElem?_replicate] at h2
    split at h2 <;>cases h2
  have ha:vs[i]?=some v:=by
   unfold start at h2
   rw[aa2 (by simpa using hi),aad] at h2
   cases e:vs[i]? with
   | none=>rw[e] at h2;cases h2
   | some a=>rw[e] at h2;cases h2;rfl
  obtain⟨u,hu,rv⟩:=r.get ha
  have hp:ps[i]?=some y:=by
   rw[<-S.pre,List.getElem?_take_of_lt (by omega)];exact h1
  have UW:ps.Nodup:=by rw[<-S.pre];exact S.nd.sublist (List.take_sublist _ _)
  refine⟨u,rv,?_⟩
  rcases S.par y (aam hp) with k | k
  ·exact .inl ⟨k,sZ UW hp hu k⟩
  ·obtain⟨c,e⟩:=vx (n:=s.heap.objs.size+1) k
   refine .inr ⟨.inl k,c,e,?_⟩
   have q:=x.cell y c e
   rw[tf UW hp hu (by show scope.names.lookup y≠_;rw[k];decide)] at q
   exact q
 ·exact e0.bP.fresh (Nat.le_of_lt (x.above y c (aaQ h)))
 ·unfold start
  show _=N.length
  rw[aak,aac,List.length_replicate]
  omega
theorem FK {CX:oV} {P:Program} {w:World} {K:PySem.W.Frag} {mg:Str->Option Value} {base:Heap} {k:Nat} {f:Addr} {name qual:Str} {params:Arguments} {body:List Stmt} {scope:Scope} {dV kV doc pm bV ct oc:Value} {an od:Option Addr}
  {D8:Array (Option Value)} {N ps:List Str} {sp:Sp} (lk:K.lookup f=some ⟨oc,od,.func (PySem.W.fnOf name qual params body scope dV kV doc pm an bV ct),D8⟩) (zW:PySem.W.codeIn K bV qual=true) (S:aV N ps scope)
  (len:∀vs H Q E,sp vs H Q E->vs.length=ps.length)
  (vy:∀(A:Around) (outer:List Env) (s:Shared) (H:Hp) (vs:List V) (Q:VK) (E:XK),dH k (A.deeper (envOfC qual scope s.heap.objs.size f bV))->sp vs H Q E->
   ∃t,xg (dz CX P w K mg base N qual scope f bV A outer s H E) body t/\t {nx:=λ_ H'=>Q .cZ H',rt:=Q} (start N vs) H):
  fH P w K mg base CX (k+1) f (PySem.W.fnOf name qual params body scope dV kV doc pm an bV ct) ps sp:=by
 refine⟨len,λA outer s H args us vs Q E hr e0 hb r yU=>?_⟩
 have hl:=len _ _ _ _ yU
 have KX:K.In s.heap:=e0.mod.IZ.keeps λb o e=>(e0.bs b o e).1
 have lim:s.heap.NoLimit:=e0.mod.nolimit.keeps λb o e=>(e0.bs b o e).1
 have JS:∀y∈ps.zip us,scope.names.lookup y.1=some .local\/(scope.names.lookup y.1=some .cell/\((cellsFrom (s.heap.objs.size+1) scope.names []).lookup y.1).isSome=true):=fun⟨n,v⟩ hy=>by
  rcases S.par n (List.of_mem_zip hy).1 with q | q
  ·exact .inl q
  ·exact .inr ⟨q,PySem.W.cellsFrom_some _ _ _ (.inl q)⟩
 refine codeAny_call_function hr.depth (KX _ _ lk) rfl S.co S.gen rfl (PySem.W.codeRec_of KX zW) (hb _ _ _ _ ?_)
 refine wpAny_newFunctionEnv_cells S.kind JS λenv he s1 x=>?_
 subst he
 refine⟨lim.keeps x.toInCall.keep,codeAny_func ?_⟩
 obtain⟨t,ht,hq⟩:=vy A outer s H vs Q E (hr.deeper _) yU
 have I:Inv (dz CX P w K mg base N qual scope f bV A outer s H E) [] (start N vs) H s1:=Af S hr.hd e0 hl r x
 refine wpAny_mono (ht [] s1 (start N vs) H _ I hq) (λfl s' hs=>?_) λe s' hs=>hs
 have fin:∀{σ':St} {H':Hp} {v:V} {u:Value},Inv (dz CX P w K mg base N qual scope f bV A outer s H E) [] σ' H' s'->RelV v u->Q v H'->CE outer P w H s Q u s':=
  λ{σ' H' v u} J rv q=>⟨v,H',J.os,J.bare,J.base,J.bP,rv,q⟩
 cases fl with
 | ret u=>
  obtain⟨v,σ',H',J,rv,q⟩:=hs
  exact fin J rv q
 | next=>
  obtain⟨σ',H',J,q⟩:=hs
  exact fin (v:=V.cZ) (u:=Value.none) J rfl q
 | brk=>
  obtain⟨_,_,_,q⟩:=hs
  exact False.elim q
 | cont=>
  obtain⟨_,_,_,q⟩:=hs
  exact False.elim q
end L2
namespace L2
open PySem PySem.Spec PyProof.Rows
section
variable {X : Cx} {x : Str} {p pos : Pos} {e : Expr} {es : List Expr} {t : TA} {id T : String} {r : List V -> Hp -> VK -> Prop}
noncomputable def tCB (r:List V->Hp->VK->Prop) (t:TA):TE:=λσ H Q=>t σ H λvs H1=>r vs H1 Q
theorem bx (hc:di X (.builtin id) r) (hg:Gl X x) (hm:X.mg x=none) (hv:bootBuiltins x=some (.builtin id)) (ha:PA X (e::es) t) (hn:x≠"__name__":=by decide) (vt:(x==("__debug__":Str))=false:=by decide)
  (he:starEach (e::es) X.env=(false,eval e X.env)::starEach es X.env:=by rfl) (hpl:(backTo pos (starEach es X.env)).any (·.1)=false:=by rfl):PE X (.Call (.Name x p) (e::es) [] pos) (tCB r t):=by
 intro pins s σ H Q I h
 refine wpAny_Call_Name_kw (hZ I hg hm hv ?_ hn vt)
 exact PyProof.Rows.callWith_builtin1 (cG (ha pos pins s σ H _ I h) λus s1 ⟨vs,H1,I1,r1,q1⟩=>hc pins s1 σ H1 vs us Q I1 r1 q1) he hpl
theorem fO (hc:di X (.type T) r) (hg:Gl X x) (hm:X.mg x=none) (hv:bootBuiltins x=some (.type T)) (ha:PA X (e::es) t) (hn:x≠"__name__":=by decide) (vt:(x==("__debug__":Str))=false:=by decide)
  (he:starEach (e::es) X.env=(false,eval e X.env)::starEach es X.env:=by rfl) (hpl:(backTo pos (starEach es X.env)).any (·.1)=false:=by rfl):PE X (.Call (.Name x p) (e::es) [] pos) (tCB r t):=by
 intro pins s σ H Q I h
 refine wpAny_Call_Name_kw (hZ I hg hm hv ?_ hn vt)
 exact PyProof.Rows.callWith_type1 (cG (ha pos pins s σ H _ I h) λus s1 ⟨vs,H1,I1,r1,q1⟩=>hc pins s1 σ H1 vs us Q I1 r1 q1) he hpl
end
end L2
namespace HT
open PySem PyProof.Rows
section
open PySem.SeqAt
open PySem.AutoSeq1 (wpAny_loadPart')
open PySem.MeetsSeq PySem.MeetsSeq2 PySem.MeetsSeq3
end
section
variable {prog : Program} {w : World} {A : Around} {E : Value -> Shared -> Prop} {s : Shared}
noncomputable def xB (n d:Nat):Option Int->Nat
 | none=>d
 | some v=>if v<0 then (v+ (n:Int)).toNat else min v.toNat n
end
end HT
namespace L2
open PySem PySem.Spec PyProof.Rows
abbrev TO:=St->Hp->(Option Int->Hp->Prop)->Prop
noncomputable def PO (X:Cx) (e:Option Expr) (t:TO):Prop:=
 ∀(pins:List (Addr×Obj)) (s:Shared) (σ:St) (H:Hp) (Q:Option Int->Hp->Prop),Inv X pins σ H s->t σ H Q->
  wpAny (model X.prog X.w) X.A (evalPart e X.env) (λu s'=>∃o H',Inv X pins σ H' s'/\IsPart u o/\Q o H') X.xe s
noncomputable def tNoPart:TO:=λ_ H Q=>Q none H
noncomputable def tPart (t:TE):TO:=λσ H Q=>t σ H λx H1=>∃i,x=.int i/\Q (some i) H1
theorem intsAre_of {ns:List Int}:∀{us:List Value},bF (ns.map V.int) us->IntsAre us ns:=by
 induction ns with
 | nil=>intro us r;rw[aaC] at r;cases r;exact .nil
 | cons n ns ih=>
  intro us r
  rw[aae] at r
  cases r with
  | cons r1 r2=>
   obtain⟨t,e⟩:=r1
   subst e
   exact .cons n t (ih r2)
section
variable {X : Cx} {e : Expr} {te : TE} {lo hi : Option Expr} {tl th : TO} {pos p2 : Pos}
theorem yV:PO X none tNoPart:=by
 intro pins s σ H Q I h
 rw[evalPart_none]
 exact wpAny_pure ⟨none,H,I,.none,h⟩
theorem yW (h:PE X e te):PO X (some e) (tPart te):=by
 intro pins s σ H Q I hw
 rw[evalPart_some]
 refine cG (h pins s σ H _ I hw) λu s1 ⟨x,H1,I1,r1,q1⟩=>?_
 obtain⟨i,rfl,q⟩:=q1
 obtain⟨t,rfl⟩:=r1
 exact⟨some i,H1,I1,.int i t,q⟩
noncomputable def MC (X:Cx) (r:V->Option Int->Option Int->Hp->VK->Prop):Prop:=
 ∀(pins:List (Addr×Obj)) (s:Shared) (σ:St) (H:Hp) (x:V) (v vl vu:Value) (lo hi:Option Int) (sl:Addr) (Q:VK),Inv X pins σ H s->RelV x v->s.heap.IsSliceOf sl vl vu .none->IsPart vl lo->IsPart vu hi->r x lo hi H Q->
  ∃T id,typeLookup (.type T) "__getitem__"=pure (some (.builtin id))/\s.TypeIs v T/\wpAny (model X.prog X.w) X.A (getItem v (.ref sl)) (EP X pins σ Q) X.xe s
noncomputable def tSl (r:V->Option Int->Option Int->Hp->VK->Prop) (te:TE) (tl th:TO):TE:=λσ H Q=>te σ H λx H1=>tl σ H1 λl H2=>th σ H2 λu H3=>r x l u H3 Q
theorem vz {r:V->Option Int->Option Int->Hp->VK->Prop} (hr:MC X r) (he:PE X e te) (hl:PO X lo tl) (hu:PO X hi th):PE X (.Subscript e (.Slice lo hi none p2) pos) (tSl r te tl th):=by
 intro pins s σ H Q I h
 refine Subscript_ (cG (he pins s σ H _ I h) λv s1 ⟨x,H1,I1,r1,q1⟩=>?_)
 refine wpAny_Slice (cG (hl pins s1 σ H1 _ I1 q1) λvl s2 ⟨l,H2,I2,pl,q2⟩=>cG (hu pins s2 σ H2 _ I2 q2) λvu s3 ⟨u,H3,I3,pu,q3⟩=>?_)
 rw[evalPart_none]
 refine wpAny_pure ?_
 have I4:Inv X pins σ H3 {s3 with heap:=s3.heap.push {cls:=.type "slice",data:=.fields #[vl,vu,.none]}}:=I3.kept (t':=s3.toks) λb ob q=>Heap.get?_push_of_some _ q
 obtain⟨T,id,hT,ht,hg⟩:=hr pins {s3 with heap:=s3.heap.push {cls:=.type "slice",data:=.fields #[vl,vu,.none]}} σ H3 x v vl vu l u s3.heap.objs.size Q I4 r1 (Heap.IsSliceOf.new ..) pl pu q3
 show wpAny (model X.prog X.w) X.A (subscriptTail e (.Slice lo hi none p2) v (.ref s3.heap.objs.size)) (EP X pins σ Q) X.xe {s3 with heap:=s3.heap.push {cls:=.type "slice",data:=.fields #[vl,vu,.none]}}
 exact tail_any (ops:=[.ref s3.heap.objs.size,v]) ht hT hg (by with_unfolding_all rfl)
noncomputable def D9 (xs:List V) (lo hi:Option Int):List V:=(xs.drop (HT.xB xs.length 0 lo)).take (HT.xB xs.length xs.length hi - HT.xB xs.length 0 lo)
theorem vA (xs:List V) (lo hi:Option Int):(D9 xs lo hi).length<=xs.length:=by
 unfold D9
 rw[aaU,List.length_drop]
 omega
end
end L2
namespace L2
open PySem PySem.Spec PyProof.Rows
noncomputable def Ea (n:Nat) (i:Int):Option Nat:=if 0<=i then (if i<n then some i.toNat else none) else if -(n:Int)<=i then some (i+n).toNat else none
noncomputable def oW {α:Type} (xs:List α) (i:Int):Option α:=(Ea xs.length i).bind λj=>xs[j]?
theorem yX {n:Nat} {i:Int} {j:Nat} (h:Ea n i=some j):seqIndex? i n=some j/\j<n/\-(n:Int)<=i/\i<n:=by
 unfold Ea at h
 by_cases h0:0<=i
 ·rw[if_pos h0] at h
  by_cases h1:i<n
  ·rw[if_pos h1] at h
   have e:i.toNat=j:=aay h
   exact⟨by rw[seqIndex_of h0 h1,e],by omega,by omega,h1⟩
  ·rw[if_neg h1] at h;cases h
 ·rw[if_neg h0] at h
  by_cases h1:-(n:Int)<=i
  ·rw[if_pos h1] at h
   have e:(i+n).toNat=j:=aay h
   exact⟨by rw[seqIndex_neg (by omega) h1,e],by omega,h1,by omega⟩
  ·rw[if_neg h1] at h;cases h
theorem ue {α:Type} {xs:List α} {i:Int} {v:α} (h:oW xs i=some v):∃j,seqIndex? i xs.length=some j/\xs[j]?=some v/\j<xs.length/\-(xs.length:Int)<=i/\i<xs.length:=by
 unfold oW at h
 cases e:Ea xs.length i with
 | none=>rw[e] at h;cases h
 | some j=>
  rw[e] at h
  obtain⟨h1,h2,h3,h4⟩:=yX e
  exact⟨j,h1,h,h2,h3,h4⟩
theorem cP {α:Type} {xs:List α} {j:Nat} {v:α} (h:xs[j]?=some v):oW xs (j:Int)=some v:=by
 have hj:j<xs.length:=(List.getElem?_eq_some_iff.mp h).1
 have e:Ea xs.length (j:Int)=some j:=by
  unfold Ea
  rw[if_pos (by omega),if_pos (by omega)];simp
 unfold oW;rw[e];exact h
noncomputable def Eb (b:Expr):Prop:=∀o i,subscripted b false o i=operate [o,i] (getItem o i)
noncomputable def DB (X:Cx) (r:R2):Prop:=
 ∀(value slice:Expr) (pins:List (Addr×Obj)) (s:Shared) (σ:St) (H:Hp) (x y:V) (v u:Value) (Q:VK),Inv X pins σ H s->RelV x v->RelV y u->r x y H Q->
  subscripted slice false v u=operate [v,u] (getItem v u)->wpAny (model X.prog X.w) X.A (subscriptTail value slice v u) (EP X pins σ Q) X.xe s
noncomputable def MD (X:Cx) (id:String) (r:V->List V->Hp->VK->Prop):Prop:=
 ∀(pins:List (Addr×Obj)) (s:Shared) (σ:St) (H:Hp) (x:V) (xs:List V) (v:Value) (us:List Value) (Q:VK),Inv X pins σ H s->RelV x v->bF xs us->r x xs H Q->
  wpAny (model X.prog X.w) X.A (call (.builtin id) (v::us)) (EP X pins σ Q) X.xe s
section
variable {X : Cx} {a b : Expr} {ta tb : TE} {pos : Pos}
theorem aE {r:R2} (hr:DB X r) (ha:PE X a ta) (hb:PE X b tb) (hs:Eb b):PE X (.Subscript a b pos) (tOp r ta tb):=by
 intro pins s σ H Q I h
 exact Subscript_ (GV ha hb I h λv u s2 x y H2 I2 rx ry q=>hr a b pins s2 σ H2 x y v u Q I2 rx ry q (hs _ _))
noncomputable def NF (K:PySem.W.Frag):R2:=λx y H Q=>∃p xs i v,x=.ref p/\y=.int i/\bL K H p xs/\oW xs i=some v/\Q v H
noncomputable def NG (K:PySem.W.Frag):R2:=λx y H Q=>∃p xs i v,x=.ref p/\y=.int i/\lg K H p xs/\oW xs i=some v/\Q v H
noncomputable def GY:R2:=λx y H Q=>∃z i c,x=.str z/\y=.int i/\z.length<=sizeLine/\oW z.cps.toList i=some c/\Q (.str ⟨#[c]⟩) H
theorem yY:DB X (NF X.K):=by
 intro value slice pins s σ H x y v u Q I rx ry h hs
 obtain⟨p,xs,i,z,rfl,rfl,hq,he,q⟩:=h
 cases rx
 obtain⟨t,rfl⟩:=ry
 obtain⟨br,r,pl,hz⟩:=I.list hq
 obtain⟨j,h1,h2,h3,h4,h5⟩:=ue he
 obtain⟨w,ew,Bx⟩:=r.get h2
 have hl:=r.length
 have hn:=p7
 have fin:EP X pins σ Q w s:=⟨z,H,I,Bx,q⟩
 by_cases h0:0<=i
 ·have hj:i.toNat=j:=by
   rw[seqIndex_of h0 h5] at h1
   exact aay h1
  exact item_listR pl.isList h0 (by omega) (by rw[hj];simpa using ew) fin hs
 ·have hj:(i+ (br.toArray.size:Int)).toNat=j:=by
   rw[seqIndex_neg (by omega) h4] at h1
   rw[aan,<-hl]
   exact aay h1
  exact subscriptTail_builtinR (x:=w) pl.isList.typeIs slot_list_getitem.lookup
   (wpAny_getItem_list_neg (Q:=λr s'=>r=w/\EP X pins σ Q r s') pl.isList (by omega) (by rw[aan] <;>omega) (by omega) (by rw[hj];simpa using ew) ⟨rfl,fin⟩) hs
theorem GZ:DB X (NG X.K):=by
 intro value slice pins s σ H x y v u Q I rx ry h hs
 obtain⟨p,xs,i,z,rfl,rfl,hq,he,q⟩:=h
 cases rx
 obtain⟨t,rfl⟩:=ry
 obtain⟨br,r,pl,hz⟩:=I.tuple hq
 obtain⟨j,h1,h2,h3,h4,h5⟩:=ue he
 obtain⟨w,ew,Bx⟩:=r.get h2
 have hl:=r.length
 have hn:=p7
 have fin:EP X pins σ Q w s:=⟨z,H,I,Bx,q⟩
 exact subscriptTail_builtinR (x:=w) pl.typeIs slot_tuple_getitem.lookup
  (getItem_tuple (j:=j) (Q:=λr s'=>r=w/\EP X pins σ Q r s') pl (by omega) (by omega) (by rw[aan,<-hl];exact h1) (by simpa using ew) ⟨rfl,fin⟩) hs
theorem G0:DB X GY:=by
 intro value slice pins s σ H x y v u Q I rx ry h hs
 obtain⟨z,i,c,rfl,rfl,hz,he,q⟩:=h
 obtain⟨t,rfl⟩:=rx
 obtain⟨t',rfl⟩:=ry
 obtain⟨j,h1,h2,h3,h4,h5⟩:=ue he
 have hl:z.cps.toList.length=z.length:=by simp [Str.length]
 rw[hl] at h1 h4 h5
 have hn:=p7
 exact tail_any (typeIs_str s z t) slot_str_getitem.lookup (getItem_str (c:=c) (by
  have e1:decide (i < -(2^63:Int))=false:=decide_eq_false (by omega)
  have e2:decide (i≥2^63)=false:=decide_eq_false (by omega)
  rw[e1,e2,Bool.or_false]) (by rw[h1];simpa using h2) ⟨.str ⟨#[c]⟩,H,I.tok _,⟨_,rfl⟩,q⟩) hs
theorem xC (br:List Value) (n j:Nat) (u:Value):Obj.mapSeq (·.setIfInBounds j u) {cls:=.type "list",data:=.seq br.toArray n}={cls:=.type "list",data:=.seq (br.set j u).toArray n}:=by
 simp [Obj.mapSeq]
theorem Inv.lst {pins:List (Addr×Obj)} {σ:St} {H:Hp} {s:Shared} {p:Addr} {xs:List V} (I:Inv X pins σ H s) (h:H p=some (.lst xs)):
  ∃(br:List Value) (n:Nat),bF xs br/\s.heap.get? p=some {cls:=.type "list",data:=.seq br.toArray n}/\xs.length<=sizeLine:=by
 obtain⟨z,br,n,r,e⟩:=I.bP p _ h
 exact⟨br,n,r,e,z⟩
theorem Inv.G1 {pins:List (Addr×Obj)} {σ:St} {H:Hp} {s:Shared} {p:Addr} {xs ys:List V} {br its':List Value} {n n':Nat} {f:Obj->Obj} (I:Inv X pins σ H s) (h:H p=some (.lst xs))
  (ho:s.heap.get? p=some {cls:=.type "list",data:=.seq br.toArray n}) (hf:f {cls:=.type "list",data:=.seq br.toArray n}={cls:=.type "list",data:=.seq its'.toArray n'}) (r:bF ys its') (hz:ys.length<=sizeLine) (t:Nat):
  Inv X pins σ (upd H p (.lst ys)) {s with heap:=s.heap.update p f,toks:=t}:=by
 have e:(s.heap.update p f).get? p=some {cls:=.type "list",data:=.seq its'.toArray n'}:=by
  rw[Heap.get?_update_self f ho (by rw[hf] <;>rfl),hf]
 refine I.write (x:=p) (e:=p) (by rw[h];trivial) (.inl rfl) (λb u hb q=>(Heap.get?_update_other _ _ (Ne.symm hb)).trans q) ⟨_,e⟩ ?_
 exact⟨hz,its',n',r,e⟩
noncomputable def rSetL:V->V->V->Hp->(Hp->Prop)->Prop:=λo i v H Q=>∃p xs k j,o=.ref p/\i=.int k/\H p=some (.lst xs)/\Ea xs.length k=some j/\Q (upd H p (.lst (xs.set j v)))
theorem set_list:JK X rSetL:=by
 intro pins s σ H o i v ov iv u Q I ro ri rv h
 obtain⟨p,xs,k,j,rfl,rfl,hp,hj,q⟩:=h
 cases ro
 obtain⟨t,rfl⟩:=ri
 obtain⟨br,n,r,ho,hz⟩:=I.lst hp
 obtain⟨h1,h2,h3,h4⟩:=yX hj
 have hl:=r.length
 have hn:=p7
 have I':Inv X pins σ (upd H p (.lst (xs.set j v))) {s with heap:=s.heap.update p (Obj.mapSeq (·.setIfInBounds j u))}:=
  I.G1 hp ho (xC br n j u) (r.set rv j) (by rw[List.length_set];exact hz) s.toks
 by_cases h0:0<=k
 ·have hk:k.toNat=j:=by
   rw[seqIndex_of h0 h4] at h1
   exact aay h1
  exact PySem.W.ki_setAt ho h0 (by omega) (by rw[aan,<-hl];exact h4) (by rw[hk];exact⟨_,I',q⟩)
 ·have hk:(k+ (br.toArray.size:Int)).toNat=j:=by
   rw[seqIndex_neg (by omega) h3] at h1
   rw[aan,<-hl]
   exact aay h1
  exact PySem.W.ki_setBack ho (by omega) (by rw[aan,<-hl];exact h3) (by omega) (by rw[hk];exact⟨_,I',q⟩)
theorem uf (lo hi:Option Int) (n:Nat):(sliceBounds lo hi none n).1=((HT.xB n 0 lo:Nat):Int)/\(sliceBounds lo hi none n).2.1=((HT.xB n n hi:Nat):Int)/\(sliceBounds lo hi none n).2.2=1:=by
 refine⟨?_,?_,rfl⟩
 ·cases lo with
  | none=>simp [sliceBounds,HT.xB]
  | some i=>
   simp only[sliceBounds,HT.xB,Option.getD_none,show(1:Int) >0 by decide,if_true]
   by_cases h:i<0
   ·simp only[h,if_true] <;>omega
   ·simp only[h,if_false] <;>omega
 ·cases hi with
  | none=>simp [sliceBounds,HT.xB]
  | some i=>
   simp only[sliceBounds,HT.xB,Option.getD_none,show(1:Int) >0 by decide,if_true]
   by_cases h:i<0
   ·simp only[h,if_true] <;>omega
   ·simp only[h,if_false] <;>omega
theorem rS (br:List Value) (lo hi:Option Int):slicePick br.toArray lo hi none=((br.drop (HT.xB br.length 0 lo)).take (HT.xB br.length br.length hi - HT.xB br.length 0 lo)).toArray:=by
 obtain⟨h1,h2,h3⟩:=uf lo hi br.toArray.size
 unfold slicePick
 rw[h1,h2,h3]
 simp only[sliceRange_one,pick_run,aan] <;>rfl
noncomputable def rSlL (K:PySem.W.Frag):V->Option Int->Option Int->Hp->VK->Prop:=λx lo hi H Q=>∃a xs,x=.ref a/\bL K H a xs/\∀p,H p=none->Q (.ref p) (upd H p (.lst (D9 xs lo hi)))
theorem Ec:MC X (rSlL X.K):=by
 intro pins s σ H x v vl vu lo hi sl Q I rx hs pl pu h
 obtain⟨a,xs,rfl,hx,q⟩:=h
 cases rx
 obtain⟨br,r,ht,hz⟩:=I.list hx
 have hlen:=r.length
 refine⟨"list",_,slot_list_getitem.lookup,ht.isList.typeIs,?_⟩
 refine wpAny_getItem_list_slice ht.isList hs pl pu .none (by simp) ?_ (by rw[aan] <;>omega)
 rw[rS,<-hlen]
 refine⟨.ref s.heap.objs.size,_,I.laid (t':=s.toks) (o:=.lst (D9 xs lo hi)) (λb ob q=>Heap.get?_push_of_some _ q) (aaf _) ?_,rfl,q _ (I.bP.fresh (aaf _))⟩
 exact⟨aal (vA xs lo hi) hz,_,0,(r.drop (HT.xB xs.length 0 lo)).take (HT.xB xs.length xs.length hi - HT.xB xs.length 0 lo),Heap.get?_push_size _ rfl⟩
noncomputable def gy:V->Bool
 | .cZ=>true
 | .bl _=>true
 | .int _=>true
 | .str _=>true
 | _=>false
noncomputable def DC:V->V->Bool
 | .cZ,.cZ=>true
 | .bl a,.bl b=>a==b
 | .bl a,.int b=>(if a then 1 else 0)==b
 | .int a,.bl b=>a==(if b then 1 else 0)
 | .int a,.int b=>a==b
 | .str a,.str b=>a==b
 | _,_=>false
theorem G3 {A:Around} {s:Shared} {y x:V} {u v:Value} (ry:RelV y u) (rx:RelV x v) (fy:gy y=true) (fx:gy x=true):SeqAt.EqAt A s u v (DC y x):=by
 cases y with
 | cZ=>
  cases ry
  cases x with
  | cZ=>cases rx;exact SeqAt.EqAt.same _
  | bl b=>cases rx;exact SeqAt.EqAt.none_bool b
  | int b=>obtain⟨t,rfl⟩:=rx;exact SeqAt.EqAt.none_int b t
  | str b=>obtain⟨t,rfl⟩:=rx;exact SeqAt.EqAt.none_str b t
  | _=>exact absurd (show false=true from fx) aar
 | bl a=>
  cases ry
  cases x with
  | cZ=>cases rx;exact SeqAt.EqAt.bool_none a
  | bl b=>cases rx;exact SeqAt.EqAt.bool_bool a b
  | int b=>obtain⟨t,rfl⟩:=rx;exact SeqAt.EqAt.bool_int a b t
  | str b=>obtain⟨t,rfl⟩:=rx;exact SeqAt.EqAt.bool_str a b t
  | _=>exact absurd (show false=true from fx) aar
 | int a=>
  obtain⟨t',rfl⟩:=ry
  cases x with
  | cZ=>cases rx;exact SeqAt.EqAt.int_none a t'
  | bl b=>cases rx;exact SeqAt.EqAt.int_bool a t' b
  | int b=>obtain⟨t,rfl⟩:=rx;exact SeqAt.EqAt.int_int a t' b t
  | str b=>obtain⟨t,rfl⟩:=rx;exact SeqAt.EqAt.int_str a t' b t
  | _=>exact absurd (show false=true from fx) aar
 | str a=>
  obtain⟨t',rfl⟩:=ry
  cases x with
  | cZ=>cases rx;exact SeqAt.EqAt.str_none a t'
  | bl b=>cases rx;exact SeqAt.EqAt.str_bool a t' b
  | int b=>obtain⟨t,rfl⟩:=rx;exact SeqAt.EqAt.str_int a t' b t
  | str b=>obtain⟨t,rfl⟩:=rx;exact SeqAt.EqAt.str_str a t' b t
  | _=>exact absurd (show false=true from fx) aar
 | _=>exact absurd (show false=true from fy) aar
noncomputable def Ed (x:V) (u:Value):Bool:=match u with
 | .none=>DC .cZ x
 | .bool b=>DC (.bl b) x
 | .int i _=>DC (.int i) x
 | .str z _=>DC (.str z) x
 | _=>false
theorem By {x y:V} {u:Value} (r:RelV y u) (f:gy y=true):Ed x u=DC y x:=by
 cases y with
 | cZ=>cases r;rfl
 | bl b=>cases r;rfl
 | int i=>obtain⟨t,rfl⟩:=r;rfl
 | str z=>obtain⟨t,rfl⟩:=r;rfl
 | _=>exact absurd (show false=true from f) aar
theorem ug {x:V}:∀{xs:List V} {us:List Value},bF xs us->xs.all gy=true->us.any (Ed x)=xs.any λy=>DC y x
 | _,_,.nil,_=>rfl
 | y::xs,u::us,.cons r t,f=>by
  rw[List.all_cons,aaF] at f
  rw[List.any_cons,List.any_cons,By r f.1,ug t f.2]
theorem qa {A:Around} {s:Shared} {x:V} {v:Value} (rx:RelV x v) (fx:gy x=true):∀{xs:List V} {us:List Value},bF xs us->xs.all gy=true->∀u∈us,SeqAt.EqAt A s u v (Ed x u)
 | _,_,.nil,_=>λu hu=>by cases hu
 | y::xs,u::us,.cons r t,f=>λu' hu=>by
  rw[List.all_cons,aaF] at f
  rcases List.mem_cons.mp hu with rfl | hu
  ·rw[By r f.1];exact G3 r rx f.1 fx
  ·exact qa rx fx t f.2 u' hu
noncomputable def JT (x:V) (xs:List V):Bool:=xs.any λy=>DC y x
noncomputable def W2 (K:PySem.W.Frag) (neg:Bool):R2:=λx y H Q=>∃p xs,y=.ref p/\(bL K H p xs\/lg K H p xs)/\gy x=true/\xs.all gy=true/\Q (.bl (if neg then !JT x xs else JT x xs)) H
theorem Ag:lq X (compareOp .In) (W2 X.K false):=by
 intro pins s σ H x y v u Q I rx ry h
 obtain⟨p,xs,rfl,hq,fx,fs,q⟩:=h
 cases ry
 rcases hq with hq | hq
 ·obtain⟨br,r,pl,hz⟩:=I.list hq
  refine SeqAt.in_listAt (Ed x) pl.isList (λw hw=>qa rx fx r fs w (by simpa using hw)) ⟨.bl _,H,I,rfl,?_⟩
  rw[show br.toArray.any (Ed x)=br.any (Ed x) by simp,ug r fs]
  exact q
 ·obtain⟨br,r,pl,hz⟩:=I.tuple hq
  refine SeqAt.in_tupleAt (Ed x) pl (λw hw=>qa rx fx r fs w (by simpa using hw)) ⟨.bl _,H,I,rfl,?_⟩
  rw[show br.toArray.any (Ed x)=br.any (Ed x) by simp,ug r fs]
  exact q
theorem mi:di X (.builtin "len") (λxs H Q=>∃p ys,xs=[.ref p]/\(bL X.K H p ys\/lg X.K H p ys)/\Q (.int ys.length) H):=by
 intro pins s σ H xs us Q I r h
 obtain⟨p,ys,rfl,hq,q⟩:=h
 obtain⟨u,rfl,rx⟩:=vals1 r
 cases rx
 have hn:=p7
 rcases hq with hq | hq
 ·obtain⟨br,r',pl,hz⟩:=I.list hq
  have hlen:=r'.length
  exact Calls.call_len_list pl.isList (by simp only[aan] <;>omega) ⟨.int ys.length,H,I.tok _,⟨s.toks+1,by rw[aan,hlen]⟩,q⟩
 ·obtain⟨br,r',pl,hz⟩:=I.tuple hq
  have hlen:=r'.length
  exact len_tuple pl (by simp only[aan] <;>omega) ⟨.int ys.length,H,I.tok _,⟨s.toks+1,by rw[aan,hlen]⟩,q⟩
theorem uh:di X (.type "list") (λxs H Q=>∃p ys,xs=[.ref p]/\(bL X.K H p ys\/lg X.K H p ys)/\∀l,H l=none->Q (.ref l) (upd H l (.lst ys))):=by
 intro pins s σ H xs us Q I r h
 obtain⟨p,ys,rfl,hq,q⟩:=h
 obtain⟨u,rfl,rx⟩:=vals1 r
 cases rx
 have fin:∀(br:List Value),bF ys br->ys.length<=sizeLine->∀(h':Heap) (c':Nat),(∀b o',s.heap.get? b=some o'->h'.get? b=some o')->
   h'.get? s.heap.objs.size=some {cls:=.type "list",dict:=none,data:=.seq br.toArray c',slots:=#[]}->EP X pins σ Q (.ref s.heap.objs.size) {s with heap:=h'}:=λbr r' hz h' c' kp e=>
  ⟨.ref s.heap.objs.size,_,I.laid (t':=s.toks) kp (aaf _) (show cA X.prog X.w _ h' _ (.lst ys) from⟨hz,br,c',r',e⟩),rfl,q _ (I.bP.fresh (aaf _))⟩
 rcases hq with hq | hq
 ·obtain⟨br,r',pl,hz⟩:=I.list hq
  have hlen:=r'.length
  obtain⟨o,ho,hc,n,hd⟩:=pl.isList
  exact call_list_seq p (.inl rfl) ho hc hd (λh' c' kp e=>fin br r' hz h' c' kp e) (by simp only[aan] <;>omega)
 ·obtain⟨br,r',pl,hz⟩:=I.tuple hq
  have hlen:=r'.length
  obtain⟨o,ho,hc,n,hd⟩:=pl
  exact call_list_seq p (.inr rfl) ho hc hd (λh' c' kp e=>fin br r' hz h' c' kp e) (by simp only[aan] <;>omega)
theorem rT:di X (.type "tuple") (λxs H Q=>∃p ys,xs=[.ref p]/\((bL X.K H p ys/\∀l,H l=none->Q (.ref l) (upd H l (.tup ys)))\/(lg X.K H p ys/\Q (.ref p) H))):=by
 intro pins s σ H xs us Q I r h
 obtain⟨p,ys,rfl,h⟩:=h
 obtain⟨u,rfl,rx⟩:=vals1 r
 cases rx
 rcases h with ⟨hq,q⟩ | ⟨hq,q⟩
 ·obtain⟨br,r',pl,hz⟩:=I.list hq
  have hlen:=r'.length
  refine call_tuple_list pl.isList (λh' kp=>?_) (by simp only[aan] <;>omega)
  have I1:Inv X pins σ H {s with heap:=h'}:=I.kept (t':=s.toks) kp
  have I2:Inv X pins σ (upd H h'.objs.size (.tup ys)) {s with heap:=h'.push {cls:=.type "tuple",data:=.seq br.toArray}}:=
   I1.laid (t':=s.toks) (λb o e=>Heap.get?_push_of_some _ e) (aaf _) (show cA X.prog X.w _ _ _ (.tup ys) from⟨hz,br,r',IsTup.new _ _⟩)
  exact⟨.ref h'.objs.size,_,I2,rfl,q _ (I1.bP.fresh (aaf _))⟩
 ·obtain⟨br,r',pl,hz⟩:=I.tuple hq
  exact call_tuple_same pl ⟨.ref p,H,I,rfl,q⟩
noncomputable def G4 (K:PySem.W.Frag) (T:String) (x:V) (H:Hp):Prop:=match x with
 | .str _=>T="str"
 | .int _=>T="int"
 | .ref p=>(T="list"/\∃xs,bL K H p xs)\/(T="tuple"/\∃o,K.lookup p=some o/\o.cls=.type "tuple"/\o.dict=none)\/
   (T="dict"/\((∃kvs,H p=some (.dK kvs))\/∃kvs,H p=some (.dT kvs)))\/(T="set"/\∃S n,H p=some (.set S n))
 | _=>False
theorem Bz {pins:List (Addr×Obj)} {σ:St} {H:Hp} {s:Shared} {T:String} {x:V} {v:Value} (I:Inv X pins σ H s) (r:RelV x v) (ty:G4 X.K T x H):
  s.TypeIs v T/\∀a,v=.ref a->∃ob,s.heap.get? a=some ob/\ob.dict=none:=by
 cases x with
 | str z=>
  obtain⟨t,rfl⟩:=r
  cases (show T="str" from ty)
  exact⟨typeIs_str s z t,λ_ e=>nomatch e⟩
 | int i=>
  obtain⟨t,rfl⟩:=r
  cases (show T="int" from ty)
  exact⟨typeIs_int s i t,λ_ e=>nomatch e⟩
 | ref p=>
  cases r
  rcases ty with ⟨rfl,xs,hq⟩ | ⟨rfl,o,hk,hc,hd⟩ | ⟨rfl,hk⟩ | ⟨rfl,S,n,hk⟩
  ·obtain⟨br,_,pl,_⟩:=I.list hq
   refine⟨pl.isList.typeIs,λa e=>?_⟩
   cases e
   obtain⟨o,n,e,c,hd,_⟩:=pl
   exact⟨o,e,hd⟩
  ·refine⟨⟨o,I.oQ p o hk,hc⟩,λa e=>?_⟩
   cases e
   exact⟨o,I.oQ _ o hk,hd⟩
  ·have z:∃o,s.heap.get? p=some o/\o.ExactDict:=by
    rcases hk with ⟨kvs,hk⟩ | ⟨kvs,hk⟩
    ·obtain⟨_,_,_,_,o,_,_,e,ex,_⟩:=I.bP p _ hk
     exact⟨o,e,ex⟩
    ·obtain⟨_,_,_,_,o,_,_,e,ex,_⟩:=I.bP p _ hk
     exact⟨o,e,ex⟩
   obtain⟨o,e,ex⟩:=z
   refine⟨⟨o,e,ex.1⟩,λa e2=>?_⟩
   cases e2
   exact⟨o,e,ex.2.1⟩
  ·obtain⟨o,_,_,_,e,ex,_⟩:=I.bP p _ hk
   refine⟨⟨o,e,ex.1⟩,λa e2=>?_⟩
   cases e2
   exact⟨o,e,ex.2.1⟩
 | _=>exact False.elim ty
noncomputable def tBM (K:PySem.W.Frag) (T:String) (r:V->List V->Hp->VK->Prop) (to:TE) (t:TA):TE:=λσ H Q=>to σ H λx H1=>G4 K T x H1/\t σ H1 λxs H2=>r x xs H2 Q
variable {o e : Expr} {es : List Expr} {to : TE} {t : TA} {name : Str} {apos d7 : Pos} {T id : String} {r : V -> List V -> Hp -> VK -> Prop}
theorem eE (pa:PlainAttrs T) (slot:Slot T name id) (W3:typeOf (.builtin id)=pure (.type "method_descriptor")) (hm:MD X id r) (ho:PE X o to) (ha:PA X (e::es) t)
  (BA:attributeBase o name X.env (eval o X.env)=eval o X.env:=by rfl)
  (NH:((backTo d7 (starEach (e::es) X.env)).all (λx=>!x.1) && (backToKw d7 (keywordEach [] X.env)).all (λx=>x.1.isSome)
   && decide ((e::es).length+ ([]:List Keyword).length+ (if ([]:List Keyword).isEmpty then 0 else 1)<30))=true:=by rfl)
  (BB:(apos.endLine==d7.line)=true:=by rfl) (hs:starEach (e::es) X.env=(false,eval e X.env)::starEach es X.env:=by rfl) (G5:(backTo d7 (starEach es X.env)).any (·.1)=false:=by rfl):
  PE X (.Call (.Attribute o name apos) (e::es) [] d7) (tBM X.K T r to t):=by
 intro pins s σ H Q I h
 refine wpAny_Call_method_late BA NH BB rfl (cG (ho pins s σ H _ I h) λv s1 ⟨x,H1,I1,r1,ty,q1⟩=>?_)
 obtain⟨h1,h2⟩:=Bz I1 r1 ty
 refine⟨T,id,pa,slot,W3,h1,h2,?_⟩
 have hA:=ha d7 pins s1 σ H1 _ I1 q1
 rw[hs] at hA ⊢
 refine Calls.callWith_builtin (by show(false || (backTo d7 (starEach es X.env)).any (·.1))=false;rw[G5] <;>rfl) (Calls.evalArgs_plain ?_)
 exact cG hA λus s2 ⟨vs,H2,I2,r2,q2⟩=>hm pins s2 σ H2 x vs v us Q I2 r1 r2 q2
end
end L2
namespace L2
open PySem PySem.Spec PyProof.Rows
noncomputable def JU (X:Cx) (id:String) (r:V->List V->Hp->VK->Prop):Prop:=
 ∀(pins:List (Addr×Obj)) (s:Shared) (σ:St) (H:Hp) (x:V) (xs:List V) (v:Value) (us:List Value) (Q:VK),Inv X pins σ H s->RelV x v->bF xs us->r x xs H Q->
  wpAny (model X.prog X.w) X.A (call (.builtin id) (v::us)) (EP X pins σ Q) X.xe s
theorem bF.one:∀{x:V} {us:List Value},bF [x] us->∃u,us=[u]/\RelV x u
 | _,_,.cons r .nil=>⟨_,rfl,r⟩
theorem bF.rep {xs:List V} {us:List Value} (h:bF xs us):∀k:Nat,bF (List.replicate k xs).flatten (List.replicate k us).flatten
 | 0=>.nil
 | k+1=>by
  rw[aa4,aa4,List.flatten_cons,List.flatten_cons]
  exact bF.append h (bF.rep h k)
theorem foldl_rep (br:List Value):∀(k:Nat) (acc:List Value),
  List.foldl (λx1 x2=>x1++x2) acc.toArray (List.replicate k br.toArray)=(acc++ (List.replicate k br).flatten).toArray
 | 0,acc=>by simp
 | k+1,acc=>by
  have e:acc.toArray++br.toArray=(acc++br).toArray:=by simp
  have e2:(acc++br)++ (List.replicate k br).flatten=acc++ (List.replicate (k+1) br).flatten:=by
   rw[aa4,List.flatten_cons,List.append_assoc]
  rw[<-e2,<-foldl_rep br k (acc++br),<-e,aa4,List.foldl_cons]
section
variable {X : Cx} {pins : List (Addr × Obj)} {σ : St} {H : Hp} {s : Shared} {l b : Addr} {xs ys zs : List V}
theorem Inv.JV {br its':List Value} {n:Nat} {f:Array Value->Array Value} {t':Nat} (I:Inv X pins σ H s) (hH:H l=some (.lst xs))
  (e:s.heap.get? l=some {cls:=.type "list",data:=.seq br.toArray n}) (hf:f br.toArray=its'.toArray) (hv:bF ys its') (hz:ys.length<=sizeLine):
  Inv X pins σ (upd H l (.lst ys)) {s with heap:=s.heap.update l (Obj.mapSeq f),toks:=t'}:=by
 have q:=PySem.IsL.update e f
 rw[hf] at q
 refine I.write (x:=l) (e:=l) (by rw[hH];exact trivial) (.inl rfl) (λb' u hb hu=>(Heap.get?_update_other s.heap (Obj.mapSeq f) (Ne.symm hb)).trans hu) ⟨_,q⟩ ?_
 exact⟨hz,its',_,hv,q⟩
theorem Inv.JW {br:List Value} {t':Nat} (I:Inv X pins σ H s) (hv:bF ys br) (hz:ys.length<=sizeLine):
  Inv X pins σ (upd H s.heap.objs.size (.lst ys)) {s with heap:=s.heap.push {cls:=.type "list",data:=.seq br.toArray},toks:=t'}:=
 I.laid (λ_ _ q=>Heap.get?_push_of_some _ q) (aaf _) ⟨hz,br,0,hv,Heap.get?_push_size _ rfl⟩
theorem Inv.fresh (I:Inv X pins σ H s):H s.heap.objs.size=none:=I.bP.fresh (aaf _)
theorem Inv.Ah (I:Inv X pins σ H s) (hH:H l=some (.lst xs)):xs.length<=sizeLine/\∃(br:List Value) (n:Nat),bF xs br/\xs.length=br.length/\s.heap.get? l=some {cls:=.type "list",data:=.seq br.toArray n}:=by
 obtain⟨z,br,n,r,e⟩:=I.bP l _ hH
 exact⟨z,br,n,r,r.length,e⟩
theorem vB {n:Nat} (h:n<=sizeLine):Builtin.List.listTooLong n=false:=by
 unfold Builtin.List.listTooLong
 exact decide_eq_false (by omega)
end
section
variable {X : Cx}
noncomputable def c7:V->List V->Hp->VK->Prop:=λx vs H Q=>∃l xs y,x=.ref l/\vs=[y]/\H l=some (.lst xs)/\xs.length<sizeLine/\Q .cZ (upd H l (.lst (xs++ [y])))
theorem cI:JU X "list.append" c7:=by
 intro pins s σ H x vs v us Q I rx rv h
 obtain⟨l,xs,y,rfl,rfl,hH,hz,q⟩:=h
 cases rx
 obtain⟨u,rfl,ru⟩:=rv.one
 obtain⟨z,br,n,r,hl,e⟩:=I.Ah hH
 refine call_meets F.slot_list_append ⟨_,e,rfl⟩ F.entry_list_append (F.args_list_append_2 _ _) (PySem.list_append l br.toArray n u (by rw[aan];omega)) ⟨e,?_⟩
 refine⟨.cZ,_,I.JV (its':=br++ [u]) hH e (by simp) (r.append (.cons ru .nil)) ?_,rfl,q⟩
 rw[aak,aaI]
 omega
noncomputable def pK:V->List V->Hp->VK->Prop:=λx vs H Q=>∃l b xs zs,x=.ref l/\vs=[.ref b]/\H l=some (.lst xs)/\H b=some (.lst zs)/\xs.length+zs.length<=sizeLine/\Q .cZ (upd H l (.lst (xs++zs)))
theorem nI:JU X "list.extend" pK:=by
 intro pins s σ H x vs v us Q I rx rv h
 obtain⟨l,b,xs,zs,rfl,rfl,hH,hB,hz,q⟩:=h
 cases rx
 obtain⟨u,rfl,ru⟩:=rv.one
 cases ru
 obtain⟨z,br,n,r,hl,e⟩:=I.Ah hH
 obtain⟨z2,ui,n2,r2,iM,e2⟩:=I.Ah hB
 have hsz:br.toArray.size+ui.toArray.size<=sizeLine:=by rw[aan,aan];omega
 have BC:¬(!br.toArray.isEmpty && Builtin.List.listTooLong (br.toArray.size+ui.toArray.size))=true:=by
  rw[vB hsz,Bool.and_false]
  exact aar
 refine call_meets F.slot_list_extend ⟨_,e,rfl⟩ F.entry_list_extend (F.args_list_extend_2 _ _)
  (AutoSeq1.list_extend_list_list_0 l br.toArray n b ui.toArray n2 BC (by rw[aan];omega) (by omega)) ⟨e,e2,?_⟩
 refine⟨.cZ,_,I.JV (its':=br++ui) hH e (by simp) (r.append r2) ?_,rfl,q⟩
 rw[aak]
 omega
noncomputable def Ee:R2:=λx y H Q=>∃l b xs zs,x=.ref l/\y=.ref b/\H l=some (.lst xs)/\H b=some (.lst zs)/\xs.length+zs.length<=sizeLine/\∀p,H p=none->Q (.ref p) (upd H p (.lst (xs++zs)))
theorem xD:lq X (binaryOp .Add) Ee:=by
 intro pins s σ H x y v u Q I rx ry h
 obtain⟨l,b,xs,zs,rfl,rfl,hH,hB,hz,q⟩:=h
 cases rx
 cases ry
 obtain⟨z,br,n,r,hl,e⟩:=I.Ah hH
 obtain⟨z2,ui,n2,r2,iM,e2⟩:=I.Ah hB
 refine PySem.P.add_list e e2 ?_ (by rw[aan,aan];omega)
 have ea:br.toArray++ui.toArray=(br++ui).toArray:=by simp
 rw[ea]
 exact⟨.ref _,_,I.JW (t':=s.toks) (r.append r2) (by rw[aak];omega),rfl,q _ I.fresh⟩
noncomputable def JX:R2:=λx y H Q=>∃l k xs,x=.ref l/\y=.int k/\H l=some (.lst xs)/\-(2^63)<=k/\k<2^63/\xs.length*k.toNat<=sizeLine/\
 ∀p,H p=none->Q (.ref p) (upd H p (.lst (List.replicate k.toNat xs).flatten))
theorem len_rep {α:Type} (xs:List α) (k:Nat):(List.replicate k xs).flatten.length=k*xs.length:=by
 induction k with
 | zero=>simp
 | succ k ih=>rw[aa4,List.flatten_cons,aak,ih,Nat.succ_mul,Nat.add_comm]
theorem G6:lq X (binaryOp .Mult) JX:=by
 intro pins s σ H x y v u Q I rx ry h
 obtain⟨l,k,xs,rfl,rfl,hH,h1,h2,hz,q⟩:=h
 cases rx
 obtain⟨t,rfl⟩:=ry
 obtain⟨z,br,n,r,hl,e⟩:=I.Ah hH
 have hlen:br.toArray.size*k.toNat<=sizeLine:=by rw[aan,<-hl];exact hz
 have NI:¬br.toArray.size*k.toNat >(2^63 - 1) / 8:=by
  have:(sizeLine:Nat)<=(2^63 - 1) / 8:=by decide
  omega
 have NJ:¬(!Builtin.List.listFitsIndex k)=true:=by
  rw[fitsIndex_both h1 h2]
  exact aar
 have BC:¬Builtin.List.listTooLong (br.toArray.size*k.toNat)=true:=by
  rw[vB hlen]
  exact aar
 have NK:List.foldl (λx1 x2=>x1++x2) #[] (List.replicate (if br.toArray.isEmpty=true then 0 else k.toNat) br.toArray)=(List.replicate k.toNat br).flatten.toArray:=by
  have f0:∀m:Nat,List.foldl (λx1 x2=>x1++x2) #[] (List.replicate m br.toArray)=(List.replicate m br).flatten.toArray:=λm=>by
   have:=foldl_rep br m []
   rw[List.nil_append] at this
   exact this
  rw[f0]
  cases br with
  | nil=>simp
  | cons a r'=>rw[if_neg (by simp)]
 refine wpAny_binaryOp_repeat_ref (T:="list") (U:="int") (by decide) ⟨_,e,rfl⟩ (λs'=>typeIs_int s' k t) noFill_list_mul F.fills_int_mul F.slot_int_rmul repeat_list F.slot_int_index.lookup
  (call_meets F.slot_int_rmul (typeIs_int s k t) F.entry_int_rmul (F.args_int_rmul_2 _ _) (int___rmul___int_list k t l br.toArray n)
   ⟨e,rfl,⟨_,e,rfl⟩,call_meets F.slot_list_mul ⟨_,e,rfl⟩ F.entry_list_mul (F.args_list_mul_2 _ _) (AutoListH.list___mul___list_int_3 l br.toArray n k t NJ NI BC) ⟨e,?_⟩⟩)
 rw[NK]
 exact⟨.ref _,_,I.JW (t':=s.toks) (r.rep k.toNat) (by rw[len_rep,Nat.mul_comm];exact hz),rfl,q _ I.fresh⟩
end
section
variable {prog : Program} {w : World} {A : Around} {E : Value -> Shared -> Prop} {s : Shared}
end
section
variable {X : Cx}
end
end L2
namespace L2
open PySem PySem.Spec PyProof.Rows
section
variable {κ : Type} [DecidableEq κ]
noncomputable def d8 (kvs:List (κ×V)) (k:κ):Option V:=(kvs.find? λkv=>decide (kv.1=k)).map (·.2)
noncomputable def putK (kvs:List (κ×V)) (k:κ) (v:V):List (κ×V):=
 if (kvs.any λkv=>decide (kv.1=k))=true then kvs.map (λkv=>if kv.1=k then (kv.1,v) else kv) else kvs++ [(k,v)]
noncomputable def JY (kvs:List (κ×V)) (k:κ):List (κ×V):=kvs.filter λkv=>decide (kv.1≠k)
theorem iX {p:κ×V} {r:List (κ×V)} {k:κ} (e:p.1=k):d8 (p::r) k=some p.2:=by simp [d8,aaR,e]
theorem fQ {p:κ×V} {r:List (κ×V)} {k:κ} (e:¬p.1=k):d8 (p::r) k=d8 r k:=by simp [d8,aaR,e]
theorem vC (k:κ):∀kvs:List (κ×V),(kvs.any λkv=>decide (kv.1=k))=(d8 kvs k).isSome
 | []=>rfl
 | p::r=>by
  rw[List.any_cons]
  by_cases e:p.1=k
  ·simp only[iX e,decide_eq_true e,Bool.true_or,Option.isSome_some]
  ·rw[fQ e,decide_eq_false e,Bool.false_or];exact vC k r
theorem oX (kvs:List (κ×V)) (k:κ) (v:V):(putK kvs k v).length<=kvs.length+1:=by
 unfold putK
 split
 ·rw[aac];omega
 ·rw[aak,aaq,aa0];omega
theorem iK.nJ {o:Option V} {u:Option Value} (r:iK o u):o.isSome=u.isSome:=by
 cases o with
 | none=>cases u with
  | none=>rfl
  | some _=>exact(show False from r).elim
 | some _=>cases u with
  | none=>exact(show False from r).elim
  | some _=>rfl
theorem iK.getD {o:Option V} {u:Option Value} {d:V} {d':Value} (r:iK o u) (rd:RelV d d'):RelV (o.getD d) (u.getD d'):=by
 cases o with
 | none=>cases u with
  | none=>exact rd
  | some _=>exact(show False from r).elim
 | some _=>cases u with
  | none=>exact(show False from r).elim
  | some _=>exact r
theorem KV.val {kvs:List (κ×V)} {vs:List (κ×Value)} (r:KV kvs vs) (k:κ):iK (d8 kvs k) (valueAt vs k):=by
 unfold KV at r
 induction r with
 | nil=>exact True.intro
 | @cons p q ps qs h t ih=>
  obtain⟨h1,h2⟩:=h
  by_cases e:p.1=k
  ·have e':q.1=k:=h1.symm.trans e
   have b:valueAt (q::qs) k=some q.2:=by simp [valueAt,aaR,e']
   rw[iX e,b];exact h2
  ·have e':¬q.1=k:=λz=>e (h1.trans z)
   have b:valueAt (q::qs) k=valueAt qs k:=by simp [valueAt,aaR,e']
   rw[fQ e,b];exact ih
theorem KV.any {kvs:List (κ×V)} {vs:List (κ×Value)} (r:KV kvs vs) (k:κ):(kvs.any λkv=>decide (kv.1=k))=vs.any λkv=>decide (kv.1=k):=by
 unfold KV at r
 induction r with
 | nil=>rfl
 | cons h t ih=>rw[List.any_cons,List.any_cons,ih,h.1]
theorem KV.G7 {kvs:List (κ×V)} {vs:List (κ×Value)} (r:KV kvs vs) (k:κ) {y:V} {u:Value} (ry:RelV y u):
  KV (kvs.map λkv=>if kv.1=k then (kv.1,y) else kv) (vs.map λkv=>if kv.1=k then (kv.1,u) else kv):=by
 unfold KV at r ⊢
 induction r with
 | nil=>exact .nil
 | @cons p q ps qs h t ih=>
  rw[aae,aae]
  refine .cons ?_ ih
  obtain⟨h1,h2⟩:=h
  by_cases e:p.1=k
  ·rw[if_pos e,if_pos (h1.symm.trans e)];exact⟨h1,ry⟩
  ·rw[if_neg e,if_neg (λz=>e (h1.trans z))];exact⟨h1,h2⟩
theorem KV.put {kvs:List (κ×V)} {vs:List (κ×Value)} (r:KV kvs vs) (k:κ) {y:V} {u:Value} (ry:RelV y u):KV (putK kvs k y) (stored vs k u):=by
 unfold putK stored
 rw[r.any k]
 by_cases e:(vs.any λkv=>decide (kv.1=k))=true
 ·rw[if_pos e,if_pos e];exact r.G7 k ry
 ·rw[if_neg e,if_neg e];exact Paired.snoc r ⟨rfl,ry⟩
theorem KV.length {kvs:List (κ×V)} {vs:List (κ×Value)} (r:KV kvs vs):kvs.length=vs.length:=Paired.length r
end
theorem qb {P:Program} {w:World} {k:Key} {u:Value} (r:RelV (kV k) u):(cF P w).is k u=true:=by
 cases k with
 | inl i=>obtain⟨t,e⟩:=(show ∃t,u=Value.int i t from r);subst e;exact vi P w i t
 | inr x=>obtain⟨t,e⟩:=(show ∃t,u=Value.str x t from r);subst e;exact vj P w x t
theorem tj {P:Program} {w:World}:∀{ks:List Key} {us:List Value},bF (ks.map kV) us->ItemsAre (cF P w) ks us
 | [],_,r=>by rw[aaC] at r;cases r;exact .nil
 | k::ks,_,r=>by
  rw[aae] at r
  cases r with
  | cons h t=>exact .cons (qb h) (tj t)
abbrev KT (H:Hp):List (List Key×V)->List (List Key×Addr×Value)->Prop:=Paired λp q=>p.1=q.1/\H q.2.1=some (.tup (p.1.map kV))/\RelV p.2 q.2.2
theorem KT.val {H:Hp} {kvs:List (List Key×V)} {xs:List (List Key×Addr×Value)} (r:KT H kvs xs) (k:List Key):iK (d8 kvs k) ((atKey xs k).map (·.2)):=by
 induction r with
 | nil=>exact True.intro
 | @cons p q ps qs h t ih=>
  obtain⟨h1,_,h2⟩:=h
  by_cases e:p.1=k
  ·have e':q.1=k:=h1.symm.trans e
   have b:atKey (q::qs) k=some q.2:=by simp [atKey,aaR,e']
   rw[iX e,b];exact h2
  ·have e':¬q.1=k:=λz=>e (h1.trans z)
   have b:atKey (q::qs) k=atKey qs k:=by simp [atKey,aaR,e']
   rw[fQ e,b];exact ih
theorem KT.G7 {H:Hp} {kvs:List (List Key×V)} {xs:List (List Key×Addr×Value)} (r:KT H kvs xs) (k:List Key) {y:V} {u:Value} (ry:RelV y u):
  KT H (kvs.map λkv=>if kv.1=k then (kv.1,y) else kv) (xs.map (putAt k u)):=by
 induction r with
 | nil=>exact .nil
 | @cons p q ps qs h t ih=>
  rw[aae,aae]
  refine .cons ?_ ih
  obtain⟨h1,h2,h3⟩:=h
  unfold putAt
  by_cases e:p.1=k
  ·rw[if_pos e,if_pos (h1.symm.trans e)];exact⟨h1,h2,ry⟩
  ·rw[if_neg e,if_neg (λz=>e (h1.trans z))];exact⟨h1,h2,h3⟩
theorem KT.put {H:Hp} {kvs:List (List Key×V)} {xs:List (List Key×Addr×Value)} (r:KT H kvs xs) (k:List Key) {b:Addr} {y:V} {u:Value} (hb:H b=some (.tup (k.map kV))) (ry:RelV y u):
  KT H (putK kvs k y) (storedH xs k b u):=by
 have e:(kvs.any λkv=>decide (kv.1=k))=(atKey xs k).isSome:=by
  rw[vC,(r.val k).nJ,Option.isSome_map]
 unfold putK storedH
 rw[e]
 by_cases q:(atKey xs k).isSome=true
 ·rw[if_pos q,if_pos q];exact r.G7 k ry
 ·rw[if_neg q,if_neg q];exact Paired.snoc r ⟨rfl,hb,ry⟩
theorem KT.keeps {H H':Hp} {kvs:List (List Key×V)} {xs:List (List Key×Addr×Value)} (r:KT H kvs xs) (ht:∀b ys,H b=some (.tup ys)->H' b=some (.tup ys)):KT H' kvs xs:=
 Paired.GL r λ_ _ z=>⟨z.1,ht _ _ z.2.1,z.2.2⟩
section
variable {P : Program} {w : World} {H : Hp} {h : Heap} {a : Addr}
theorem FL {u:HO} (ok:gG P w H h) (e:Rd H a u):cA P w H h a u:=e.ok ok
theorem oY {kvs:List (Key×V)} (ok:gG P w H h) (e:Rd H a (.dK kvs)):kvs.length<=sizeLine/\(a==sysModules)=false/\∃vs,KV kvs vs/\h.DictOf (cF P w) a vs:=
 show cA P w H h a (.dK kvs) from FL ok e
theorem BD {kvs:List (Key×V)} (ok:gG P w H h) (e:H a=some (.dK kvs)):kvs.length<=sizeLine/\(a==sysModules)=false/\∃vs,KV kvs vs/\h.DictOf (cF P w) a vs:=oY ok (.inl e)
theorem qd {ks:List Key} (ok:gG P w H h) (e:H a=some (.tup (ks.map kV))):(tupleKind (cF P w)).is h ks a:=by
 obtain⟨_,br,r,o,h1,h2,n,h3⟩:=(show cA P w H h a (.tup (ks.map kV)) from ok a _ e)
 exact⟨o,br.toArray,n,h1,h2,h3,by simpa using tj r⟩
theorem tq {kvs:List (List Key×V)} (ok:gG P w H h) (e:Rd H a (.dT kvs)):kvs.length<=sizeLine/\(a==sysModules)=false/\
  ∃xs,KT H kvs xs/\h.DictOfH (tupleKind (cF P w)) a xs:=by
 obtain⟨z,y,xs,r,o,es,ep,h1,h2,h3,h4,h5⟩:=(show cA P w H h a (.dT kvs) from FL ok e)
 refine⟨z,y,xs,r,o,es,ep,h1,h2,h3,h4,λx hx=>?_,h5⟩
 have all:∀{l:List (List Key×V)} {m:List (List Key×Addr×Value)},KT H l m->∀x∈m,(tupleKind (cF P w)).is h x.1 x.2.1:=by
  intro l m q
  induction q with
  | nil=>intro x hx;exact nomatch hx
  | @cons p q ps qs hq t ih=>
   intro x hx
   rcases List.mem_cons.mp hx with e | hx
   ·subst e
    exact qd ok (by rw[<-hq.1];exact hq.2.1)
   ·exact ih x hx
 exact all r x hx
theorem JZ {kvs:List (List Key×V)} (ok:gG P w H h) (e:H a=some (.dT kvs)):kvs.length<=sizeLine/\(a==sysModules)=false/\
  ∃xs,KT H kvs xs/\h.DictOfH (tupleKind (cF P w)) a xs:=tq ok (.inl e)
end
noncomputable def mj (H:Hp) (a:Addr) (y:V) (r:Option V):Prop:=
 (∃kvs k,Rd H a (.dK kvs)/\y=kV k/\r=d8 kvs k)\/∃kvs k b,Rd H a (.dT kvs)/\y=.ref b/\H b=some (.tup (k.map kV))/\r=d8 kvs k
noncomputable def Ai (H:Hp) (a:Addr) (y v:V) (H':Hp):Prop:=
 (∃kvs k,H a=some (.dK kvs)/\y=kV k/\kvs.length<sizeLine/\H'=upd H a (.dK (putK kvs k v)))\/
 ∃kvs k b,H a=some (.dT kvs)/\y=.ref b/\H b=some (.tup (k.map kV))/\kvs.length<sizeLine/\H'=upd H a (.dT (putK kvs k v))
theorem Ai.k {H:Hp} {a:Addr} {kvs:List (Key×V)} {k:Key} {v:V} (e:H a=some (.dK kvs)) (hl:kvs.length<sizeLine):Ai H a (kV k) v (upd H a (.dK (putK kvs k v))):=.inl ⟨kvs,k,e,rfl,hl,rfl⟩
section
variable {X : Cx} {pins : List (Addr × Obj)} {σ : St} {H : Hp} {s : Shared} {a : Addr} {y v : V} {u r : Value} {o : Option V} {A : Around} {E : Value -> Shared -> Prop}
theorem Inv.NL (I:Inv X pins σ H s):sysModules<s.heap.objs.size:=by
 have h:mainGlobals<s.heap.objs.size:=(I.mod.glob.keeps I.bk).lt
 exact Nat.lt_trans (by decide) h
theorem Aj {Q:Value->Shared->Prop} (hu:A.units+1<cLine) (I:Inv X pins σ H s) (g:mj H a y (some v)) (ry:RelV y u) (h:∀w' s',Inv X pins σ H s'->RelV v w'->Q w' s'):
  wpAny (model X.prog X.w) A (getItem (.ref a) u) Q E s:=by
 rcases g with ⟨kvs,k,e,ey,l⟩ | ⟨kvs,k,b,e,ey,eb,l⟩
 ·subst ey
  obtain⟨z,hd,vs,rel,dd⟩:=oY I.bP e
  obtain⟨w',hw,Bx⟩:=iK.some_of (v:=v) (o:=valueAt vs k) (by rw[l];exact rel.val k)
  exact wpAny_getItem_of (qb ry) dd.mapOf hw (h w' _ (I.tok _) Bx)
 ·subst ey
  cases (show u=Value.ref b from ry)
  obtain⟨z,hd,xs,rel,dd⟩:=tq I.bP e
  obtain⟨w',hw,Bx⟩:=iK.some_of (v:=v) (o:=(atKey xs k).map (·.2)) (by rw[l];exact rel.val k)
  obtain⟨p,hp,ME⟩:=Option.map_eq_some_iff.mp hw
  refine wpAny_getItem_heap (tupleKind_room_in1 hu) (qd I.bP eb) dd hp ?_
  rw[ME]
  exact h w' _ (I.tok _) Bx
theorem Ef {Q:Value->Shared->Prop} (hu:A.units+1<cLine) (I:Inv X pins σ H s) (g:mj H a y o) (ry:RelV y u) (h:∀s',Inv X pins σ H s'->Q (.bool (!o.isSome)) s'):
  wpAny (model X.prog X.w) A (compareOp .NotIn u (.ref a)) Q E s:=by
 rcases g with ⟨kvs,k,e,ey,l⟩ | ⟨kvs,k,b,e,ey,eb,l⟩
 ·subst ey
  obtain⟨z,hd,vs,rel,dd⟩:=oY I.bP e
  refine wpAny_notIn_of (qb ry) hd dd.mapOf ?_
  rw[<-(rel.val k).nJ,<-l]
  exact h _ (I.tok _)
 ·subst ey
  cases (show u=Value.ref b from ry)
  obtain⟨z,hd,xs,rel,dd⟩:=tq I.bP e
  refine wpAny_notIn_heap (tupleKind_room_in1 hu) (qd I.bP eb) hd dd ?_
  have q:=(rel.val k).nJ
  rw[Option.isSome_map] at q
  rw[<-q,<-l]
  exact h _ (I.tok _)
theorem uj {h':Heap} {t':Nat} {ob:HO} (I:Inv X pins σ H s) (mu:JE (H a)) (hs:Heap.SameBut a s.heap h') (he:∃q,h'.get? a=some q) (new:cA X.prog X.w (upd H a ob) h' a ob):
  Inv X pins σ (upd H a ob) {s with heap:=h',toks:=t'}:=
 I.write (x:=a) (e:=a) mu (.inl rfl) (λb q hb z=>(hs.2 b hb).trans z) he new
theorem G8 {P:Program} {w:World} {H':Hp} {h':Heap} {kvs:List (Key×V)} {vs:List (Key×Value)} (z:kvs.length<=sizeLine) (hd:(a==sysModules)=false) (rel:KV kvs vs) (dd:h'.DictOf (cF P w) a vs):
  cA P w H' h' a (.dK kvs):=⟨z,hd,vs,rel,dd⟩
theorem Ak {H':Hp} {Q:Unit->Shared->Prop} (hu:A.units+1<cLine) (I:Inv X pins σ H s) (g:Ai H a y v H') (ry:RelV y u) (rv:RelV v r) (h:∀s',Inv X pins σ H' s'->Q () s'):
  wpAny (model X.prog X.w) A (setItem (.ref a) u r) Q E s:=by
 rcases g with ⟨kvs,k,e,ey,l,eH⟩ | ⟨kvs,k,b,e,ey,eb,l,eH⟩
 ·subst ey eH
  obtain⟨z,hd,vs,rel,dd⟩:=BD I.bP e
  have hz:vs.length<=sizeLine:=by rw[<-rel.length];exact z
  have hl:(putK kvs k v).length<=sizeLine:=by have:=oX kvs k v;omega
  refine wpAny_setItem_pairs (hsz:=hz) (qb ry) dd λh' G9 hs=>h _ ?_
  have he:∃q,h'.get? a=some q:=let ⟨q,_,_,hq,_⟩:=G9;⟨q,hq⟩
  exact uj I (by rw[e];exact True.intro) hs he (G8 hl hd (rel.put k rv) G9)
 ·subst ey eH
  cases (show u=Value.ref b from ry)
  obtain⟨z,hd,xs,rel,dd⟩:=JZ I.bP e
  have hz:xs.length<=sizeLine:=by rw[<-Paired.length rel];exact z
  have hl:(putK kvs k v).length<=sizeLine:=by have:=oX kvs k v;omega
  refine wpAny_setItem_heap (hsz:=hz) (tupleKind_room_in1 hu) (qd I.bP eb) dd λh' G9 hs=>h _ ?_
  obtain⟨q,es,ep,hq,h2,h3,h4,_,h5⟩:=G9
  refine uj I (by rw[e];exact True.intro) hs ⟨q,hq⟩ ⟨hl,hd,_,(rel.put k eb rv).keeps λc ys ec=>?_,q,es,ep,hq,h2,h3,h4,h5⟩
  rw[aD (JD ec e (λz=>nomatch z))]
  exact ec
end
section
variable {X : Cx} {pins : List (Addr × Obj)} {σ : St} {H : Hp} {s : Shared} {a : Addr} {kvs : List (Key × V)} {k : Key} {u : Value} {A : Around} {E : Value -> Shared -> Prop}
theorem J0 {Q:Value->Shared->Prop} (I:Inv X pins σ H s) (e:Rd H a (.dK kvs)) (h:∀t s',Inv X pins σ H s'->Q (.int kvs.length t) s'):wpAny (model X.prog X.w) A (call (.builtin "len") [.ref a]) Q E s:=by
 obtain⟨z,hd,vs,rel,dd⟩:=oY I.bP e
 refine call_len_dict hd dd (by rw[<-rel.length];rw[sizeLine_eq] at z;omega) ?_
 rw[<-rel.length]
 exact h _ _ (I.tok _)
end
noncomputable def Ha (i:Expr):Prop:=∀ov iv,subscripted i false ov iv=operate [ov,iv] (getItem ov iv)
theorem yZ {prog:Program} {w:World} {A:Around} {E:Value->Shared->Prop} {s:Shared} {env:Env} {value slice:Expr} {pos:Pos} {T id:String} {Q:Value->Shared->Prop}
  (hl:typeLookup (.type T) "__getitem__"=pure (some (.builtin id))) (hs:Ha slice)
  (h:wpAny (model prog w) A (eval value env) (λo s₁=>wpAny (model prog w) A (eval slice env) (λi s₂=>s₂.TypeIs o T/\wpAny (model prog w) A (getItem o i) Q E s₂) E s₁) E s):
  wpAny (model prog w) A (eval (.Subscript value slice pos) env) Q E s:=by
 refine Subscript_ (wpAny_mono h (λo s₁ h₁=>wpAny_mono h₁ (λi s₂ h₂=>?_) λ_ _ x=>x) λ_ _ x=>x)
 obtain⟨hT,h₂⟩:=h₂
 unfold subscriptTail
 refine wpAny_bind ?_
 rw[getitemInPython_of_ne hT.not_modules]
 refine wpAny_bind (wpAny_specialOf hT hl ?_)
 have fin:wpAny (model prog w) A (subscripted slice false o i) (λr s₃=>wpAny (model prog w) A (letTemporaryGo value o r >>=λ_=>pure r) Q E s₃) E s₂:=by
  rw[hs o i]
  exact wpAny_operating (wpAny_mono h₂ (λr s₃ h₃=>wpAny_bind (wpAny_letTemporaryGo (wpAny_pure h₃))) λ_ _ x=>x)
 first
  | exact wpAny_pure (wpAny_bind fin)
  | exact wpAny_bind (wpAny_pure (wpAny_bind fin))
  | exact wpAny_bind fin
theorem vD {X:Cx} {pins:List (Addr×Obj)} {σ:St} {H:Hp} {s:Shared} {a:Addr} {y:V} {o:Option V} (I:Inv X pins σ H s) (g:mj H a y o):s.TypeIs (.ref a) "dict":=by
 rcases g with ⟨kvs,k,e,_,_⟩ | ⟨kvs,k,b,e,_,_,_⟩
 ·obtain⟨_,_,vs,_,dd⟩:=oY I.bP e
  exact dd.typeIs
 ·obtain⟨_,_,xs,_,dd⟩:=tq I.bP e
  exact dd.typeIs
noncomputable def tDGet (td ty:TE):TE:=λσ H Q=>td σ H λx H1=>ty σ H1 λy H2=>∃a v,x=.ref a/\mj H2 a y (some v)/\Q v H2
noncomputable def tDIn (ty td:TE):TE:=λσ H Q=>ty σ H λy H1=>td σ H1 λx H2=>∃a o,x=.ref a/\mj H2 a y o/\Q (.bl o.isSome) H2
noncomputable def tDNotIn (ty td:TE):TE:=λσ H Q=>ty σ H λy H1=>td σ H1 λx H2=>∃a o,x=.ref a/\mj H2 a y o/\Q (.bl (!o.isSome)) H2
noncomputable def sDPut (td ty tv:TE):TS:=λD σ H=>tv σ H λv H1=>td σ H1 λx H2=>ty σ H2 λy H3=>∃a H4,x=.ref a/\Ai H3 a y v H4/\D.nx σ H4
section
variable {X : Cx} {o i e value : Expr} {pos pos' rR : Pos} {td ty tv : TE}
theorem eP (hu:X.A.units+1<cLine) (ho:PE X o td) (hi:PE X i ty) (hs:Ha i):PE X (.Subscript o i pos) (tDGet td ty):=by
 intro pins s σ H Q I h
 refine yZ PySem.F.slot_dict_getitem.lookup hs (cG (ho pins s σ H _ I h) λu s1 ⟨x,H1,I1,rx,q1⟩=>cG (hi pins s1 σ H1 _ I1 q1) λiv s2 ⟨y,H2,I2,ry,a,v,ex,g,q2⟩=>?_)
 subst ex
 obtain rfl:u=Value.ref a:=rx
 exact⟨vD I2 g,Aj hu I2 g ry λw' s3 I3 Bx=>⟨v,H2,I3,Bx,q2⟩⟩
theorem tu (hu:X.A.units+1<cLine) (hi:PE X i ty) (ho:PE X o td):PC X .NotIn i o (tDNotIn ty td):=by
 intro pins s σ H Q I h
 refine cG (hi pins s σ H _ I h) λiv s1 ⟨y,H1,I1,ry,q1⟩=>cG (ho pins s1 σ H1 _ I1 q1) λu s2 ⟨x,H2,I2,rx,a,ov,ex,g,q2⟩=>?_
 subst ex
 obtain rfl:u=Value.ref a:=rx
 exact Ef hu I2 g ry λs3 I3=>⟨.bl (!ov.isSome),H2,I3,rfl,q2⟩
theorem pL (hu:X.A.units+1<cLine) (ho:PE X o td) (hi:PE X i ty) (hv:PE X value tv) (hs:swapsWith value (some (.Subscript o i pos')) pos.line X.env=pure false):
  PS X (.Assign [.Subscript o i pos'] value pos) (sDPut td ty tv):=by
 intro pins s σ H D I h
 refine wpAny_Assign_Subscript (cG (hv pins s σ H _ I h) λr s1 ⟨v,H1,I1,rv,q1⟩=>cG (ho pins s1 σ H1 _ I1 q1) λu s2 ⟨x,H2,I2,rx,q2⟩=>cG (hi pins s2 σ H2 _ I2 q2) λiv s3 ⟨y,H3,I3,ry,a,H4,ex,g,q3⟩=>?_) hs
 subst ex
 obtain rfl:u=Value.ref a:=rx
 exact Ak hu I3 g ry rv λs4 I4=>⟨σ,H4,I4,q3⟩
end
theorem BE {P:Program} {w:World} {H:Hp} (h:Heap) (hb:sysModules<h.objs.size):cA P w H (h.push {cls:=.type "dict",data:=.dict #[]}) h.objs.size (.dK []):=
 ⟨aah _,beq_eq_false_iff_ne.mpr (Ne.symm (aai hb)),[],.nil,Heap.DictOf.new h⟩
noncomputable def tDNewK:TE:=λ_ H Q=>∀p,H p=none->Q (.ref p) (upd H p (.dK []))
section
variable {X : Cx} {pos : Pos}
theorem mm:PE X (.Dict [] [] pos) tDNewK:=λpins s σ H Q I h=>
 wpAny_Dict_empty ⟨.ref s.heap.objs.size,_,I.laid (a:=s.heap.objs.size) (o:=.dK []) (t':=s.toks) (λ_ _ q=>Heap.get?_push_of_some _ q) (aaf _) (BE s.heap I.NL),rfl,h _ (I.bP.fresh (aaf _))⟩
end
abbrev VV:List (V×V)->List (Value×Value)->Prop:=Paired λp q=>RelV p.1 q.1/\RelV p.2 q.2
structure M1 (X:Cx) (o:Expr) (m:Str) (apos:Pos) (e:Expr) (d7:Pos):Prop where
 base:attributeBase o m X.env (eval o X.env)=eval o X.env
 Jc:((backTo d7 (starEach [e] X.env)).all (λx=>!x.1) && (backToKw d7 (keywordEach [] X.env)).all (λx=>x.1.isSome)
  && decide (([e]:List Expr).length+ ([]:List Keyword).length+ (if ([]:List Keyword).isEmpty then 0 else 1)<30))=true
 line:(apos.endLine==d7.line)=true
 trees:backTo d7 (starEach [e] X.env)=[(false,eval e X.env)]
structure M2 (X:Cx) (o:Expr) (m:Str) (apos:Pos) (e f:Expr) (d7:Pos):Prop where
 base:attributeBase o m X.env (eval o X.env)=eval o X.env
 Jc:((backTo d7 (starEach [e,f] X.env)).all (λx=>!x.1) && (backToKw d7 (keywordEach [] X.env)).all (λx=>x.1.isSome)
  && decide (([e,f]:List Expr).length+ ([]:List Keyword).length+ (if ([]:List Keyword).isEmpty then 0 else 1)<30))=true
 line:(apos.endLine==d7.line)=true
 trees:backTo d7 (starEach [e,f] X.env)=[(false,eval e X.env),(false,eval f X.env)]
noncomputable def MF (H:Hp) (a:Addr):Prop:=(∃kvs,Rd H a (.dK kvs))\/∃kvs,Rd H a (.dT kvs)
theorem Hb {X:Cx} {pins:List (Addr×Obj)} {σ:St} {H:Hp} {s:Shared} {a:Addr} (I:Inv X pins σ H s) (d:MF H a):
  s.TypeIs (.ref a) "dict"/\(∀b,Value.ref a=.ref b->∃ob,s.heap.get? b=some ob/\ob.dict=none)/\(a==sysModules)=false:=by
 rcases d with ⟨kvs,e⟩ | ⟨kvs,e⟩
 ·obtain⟨_,hd,vs,_,dd⟩:=oY I.bP e
  refine⟨dd.typeIs,λb q=>?_,hd⟩
  cases q
  obtain⟨ob,_,_,h1,h2,_⟩:=dd
  exact⟨ob,h1,h2.2.1⟩
 ·obtain⟨_,hd,xs,_,dd⟩:=tq I.bP e
  refine⟨dd.typeIs,λb q=>?_,hd⟩
  cases q
  obtain⟨ob,_,_,h1,h2,_⟩:=dd
  exact⟨ob,h1,h2.2.1⟩
section
variable {X : Cx} {pins : List (Addr × Obj)} {σ : St} {H : Hp} {s : Shared} {a : Addr} {y d : V} {u r : Value} {o : Option V} {A : Around} {E : Value -> Shared -> Prop}
theorem Hc {Q:Value->Shared->Prop} (hu:A.units+1<cLine) (I:Inv X pins σ H s) (g:mj H a y o) (ry:RelV y u) (rd:RelV d r) (h:∀w' s',Inv X pins σ H s'->RelV (o.getD d) w'->Q w' s'):
  wpAny (model X.prog X.w) A (call (.builtin "dict.get") [.ref a,u,r]) Q E s:=by
 rcases g with ⟨kvs,k,e,ey,l⟩ | ⟨kvs,k,b,e,ey,eb,l⟩
 ·subst ey
  obtain⟨z,hd,vs,rel,dd⟩:=oY I.bP e
  refine call_meetsIn PySem.F.slot_dict_get dd.typeIs PySem.F.entry_dict_get (PySem.F.args_dict_get_3 _ _ _) (meets_dict_get_default (cF X.prog X.w) a (qb ry) hd r) ⟨_,dd.mapOf,h _ _ (I.tok _) ?_⟩
  rw[l]
  exact(rel.val k).getD rd
 ·subst ey
  cases (show u=Value.ref b from ry)
  obtain⟨z,hd,xs,rel,dd⟩:=tq I.bP e
  refine call_meetsIn PySem.F.slot_dict_get dd.typeIs PySem.F.entry_dict_get (PySem.F.args_dict_get_3 _ _ _) (meetsH_dict_get_default (tupleKind (cF X.prog X.w)) a b hd r) ⟨tupleKind_room_in1 hu,k,xs,qd I.bP eb,dd,h _ _ (I.tok _) ?_⟩
  rw[l]
  exact(rel.val k).getD rd
end
noncomputable def tDGet1 (td ty:TE):TE:=λσ H Q=>td σ H λx H1=>∃a,x=.ref a/\MF H1 a/\ty σ H1 λy H2=>∃o,mj H2 a y o/\Q (o.getD .cZ) H2
noncomputable def tDGet2 (td ty tx:TE):TE:=λσ H Q=>td σ H λx H1=>∃a,x=.ref a/\MF H1 a/\ty σ H1 λy H2=>tx σ H2 λz H3=>∃o,mj H3 a y o/\Q (o.getD z) H3
noncomputable def tDPop1 (td ty:TE):TE:=λσ H Q=>td σ H λx H1=>∃a,x=.ref a/\MF H1 a/\ty σ H1 λy H2=>∃kvs k v,H2 a=some (.dK kvs)/\y=kV k/\d8 kvs k=some v/\Q v (upd H2 a (.dK (JY kvs k)))
section
variable {X : Cx} {o e f : Expr} {apos d7 : Pos} {td ty tx : TE}
theorem BF (hu:X.A.units+1<cLine) (ho:PE X o td) (he:PE X e ty) (hf:PE X f tx) (m:M2 X o "get" apos e f d7):PE X (.Call (.Attribute o "get" apos) [e,f] [] d7) (tDGet2 td ty tx):=by
 intro pins s σ H Q I h
 refine wpAny_Call_method m.base m.Jc m.line PySem.F.plainAttrs_dict PySem.F.slot_dict_get PySem.F.type_dict_get (cG (ho pins s σ H _ I h) λu s1 ⟨x,H1,I1,rx,a,ex,d,q1⟩=>?_)
 subst ex
 obtain rfl:u=Value.ref a:=rx
 obtain⟨t1,t2,_⟩:=Hb I1 d
 refine⟨t1,t2,?_⟩
 rw[m.trees]
 refine Calls.callWith_builtin rfl (Calls.evalArgs_plain (Calls.spliced_cons (cG (he pins s1 σ H1 _ I1 q1) λiv s2 ⟨y,H2,I2,ry,q2⟩=>
  Calls.spliced_cons (cG (hf pins s2 σ H2 _ I2 q2) λfv s3 ⟨z,H3,I3,rz,ov,g,q3⟩=>Calls.spliced_nil ?_))))
 exact Hc hu I3 g ry rz λw' s4 I4 Bx=>⟨_,H3,I4,Bx,q3⟩
end
section
variable {X : Cx} {pins : List (Addr × Obj)} {σ : St} {H : Hp} {s : Shared} {a : Addr} {kvs : List (Key × V)} {A : Around} {E : Value -> Shared -> Prop}
end
section
variable {X : Cx} {pins : List (Addr × Obj)} {σ : St} {H : Hp} {s : Shared} {a : Addr} {y : V} {u : Value} {A : Around} {E : Value -> Shared -> Prop}
end
end L2
namespace UX
open PySem PySem.W PySem.Calls PyProof.Rows
theorem pq {P:Params} {h:Heap}:∀(ns:List Int) (vs:List Value),WellAll P h vs (ns.map WData.int)->IntsAre vs ns:=by
 intro ns
 induction ns with
 | nil=>
  intro vs w
  rw[aaC] at w
  cases w
  exact .nil
 | cons n ns ih=>
  intro vs w
  rw[aae] at w
  cases w with
  | cons a b=>
   cases a
   exact .cons _ _ (ih _ b)
theorem Am {l:OpenLaw} {n:Nat} (hn:l.most=some n) {P:Params} {h:Heap} {args:List WData} {vals:List Value}
  (Eg:l.row.toRowW.claim.pre args=true) (Jd:WellAll P h vals args):
  ∃a vs ns,vals=[Value.ref a]/\args=[WData.list (ns.map WData.int)]/\h.get? a=some {cls:=.type "list",data:=.seq vs.toArray}/\IntsAre vs ns/\ns.length<=n:=by
 have dt:WShape.hasAll [] args [.list .int]=true:=(pre_splitW Eg).1
 have hc:l.pre.holds [] {args:=args}=true:=(pre_splitW Eg).2
 obtain⟨d,r,rfl,h1,h2⟩:=hasAllW_cons dt
 obtain rfl:=hasAllW_nil h2
 obtain⟨xs,rfl,h3⟩:=hasW_list h1
 obtain⟨ns,rfl⟩:=items_int h3
 have hlen:ns.length<=n:=by
  unfold OpenLaw.pre at hc
  have h4:(WTm.not (.lt (.lit (.int (n:Int))) (.len (.arg 0)))).holds [] {args:=[.list (ns.map .int)]}=true:=by
   have h4:=(holds_andW hc).1
   rw[hn] at h4
   exact h4
  have h5:=condW_of h4 (w_not (w_lt w_lit (w_len_list (w_arg rfl))))
  rw[aac] at h5
  refine Nat.le_of_not_lt λq=>?_
  have q':(n:Int)< ((ns.length:Nat):Int):=by omega
  first
   | (rw[decide_eq_true q'] at h5;exact absurd h5 (by decide))
   | (simp at h5;omega)
 cases Jd with
 | cons w1 w2=>
  cases w2
  cases w1 with
  | list ho An=>exact⟨_,_,ns,rfl,rfl,ho,pq ns _ An,hlen⟩
theorem Ao (l:OpenLaw) (args:List WData):l.row.toRowW.claim.post args (.bool true) args=true:=
 postW_of (r:=l.row.toRowW) (X:=(true==true))
  (show WShape.has [] (.bool true) .bool=true by first | rfl | decide | simp [WShape.has,WShape.arms,WShape.armsAll])
  (show(WTm.eq .res (.lit (.bool true))).value [] {args:=args,res:=some (.bool true),after:=args}=some (.bool (true==true)) from w_eq_bool (w_res rfl) w_lit) rfl
theorem vE {l:OpenLaw} {n:Nat} {q:Program} {loose:List Str} {XP:(Str->Option Value)->Heap->Prop} {YP:World->Heap->Prop} {d:DefRec}
  (hn:l.most=some n) (J1:d.params.defaults=[])
  (call:∀(w:World) (s₀ s₁:Shared) (mg mb:Str->Option Value) (fa:Addr) (o:Obj) (pm cd doc:Value) (a:Addr) (vs:List Value) (ns:List Int),
   Ground q loose [] XP w s₀ mg mb s₁.heap->YP w s₁.heap->
   s₁.heap.get? fa=some o->o.data=.func (docDef d.name d.params d.body d.scope pm cd doc)->s₁.heap.CodeRec cd d.name->mg d.name=some (.ref fa)->
   s₁.heap.get? a=some {cls:=.type "list",data:=.seq vs.toArray}->IntsAre vs ns->ns.length<=n->s₁.gens=#[]->
   codeAny (model l.prog w) callerA (.call (.ref fa) ⟨[.ref a],[]⟩) (λr s'=>r=.ok (.ret (.bool true))/\OldK s₁.heap s'.heap/\s'.os=s₁.os/\AllBare s'.gens) s₁):
  WalkO q loose XP YP l.row.toRowW d [] (λf vs=>PySem.call f vs):=by
 intro w s₀ s₁ mg mb G Y fa o pm cd doc dV kV ho hd zW hD J2 hg args vals as Eg W4 hrd Jd hlo
 obtain rfl:dV=.none:=Dflts.none hD J1
 obtain rfl:kV=.none:=Dflts.noKw hD
 obtain⟨a,vs,ns,rfl,rfl,He,hints,hlen⟩:=Am hn Eg Jd
 refine enter_call (codeAny_mono (call w s₀ s₁ mg mb fa o pm cd doc a vs ns G Y ho (fd_plain hd) zW J2 He hints hlen hg) λr s' hq=>?_)
 obtain⟨rfl,h2,h3,h4⟩:=hq
 exact⟨.inl ⟨.bool true,.bool true,[],rfl,λ_=>rfl,.bool true,Ao l _,λ_=>⟨List.Pairwise.nil,λ_ hm=>(nomatch hm)⟩⟩,h2,h3,h4⟩
section
variable {prog : Program} {w : World} {A : Around} {E : Value -> Shared -> Prop} {s : Shared} {K : Frag}
end
end UX
namespace L2
open PySem PySem.Spec PyProof.Rows
theorem tw:∀{vs:List Value} {ns:List Int},IntsAre vs ns->bF (ns.map V.int) vs
 | _,_,.nil=>.nil
 | _,_,.cons n t h=>.cons ⟨t,rfl⟩ (tw h)
noncomputable def Hf (H:Hp):Prop:=∀b,H b=none\/∃o xs,H b=some (.vf o (.lst xs))
theorem law_call {P:Program} {w:World} {K:PySem.W.Frag} {mg mb:Str->Option Value} {CX:oV} {k:Nat} {fa a:Addr} {fd:FuncData} {x:Str} {sp:Sp} {s₁:Shared} {vs:List Value} {ns:List Int}
  (KX:K.In s₁.heap) (UY:s₁.heap.Ns mainGlobals mg) (hb:s₁.heap.Ns builtinsNs mb) (W5:∀x:Str,x≠"__name__"->mb x=bootBuiltins x) (NM:s₁.heap.NoLimit) (hg:s₁.gens=#[])
  (ha:s₁.heap.get? a=some {cls:=.type "list",data:=.seq vs.toArray}) (hi:IntsAre vs ns) (hl:ns.length<=sizeLine) (hr:dH k callerA)
  (F:∀base:Heap,K.In base->base.Ns mainGlobals mg->fH P w K mg base CX k fa fd [x] sp) (J3:∀(s:Shared) (u:Value),BindsTo s fd ⟨[u],[]⟩ [(x,u)])
  (yU:∀H:Hp,Hf H->bL K H a (ns.map V.int)->sp [.ref a] H (λv _=>v=.bl true) λ_ _ _=>False)
  (NN:∀H e s',CX [] H s₁ (λ_ _ _=>False) e s'->False):
  codeAny (model P w) callerA (.call (.ref fa) ⟨[.ref a],[]⟩) (λr s'=>r=.ok (.ret (.bool true))/\OldK s₁.heap s'.heap/\s'.os=s₁.os/\AllBare s'.gens) s₁:=by
 have rv:=tw hi
 have NO:=hi.length
 have core:∀H:Hp,Hf H->bL K H a (ns.map V.int)->gG P w H s₁.heap->(∀b,H b≠none->b=a)->(H a≠none->K.lookup a=none)->
   codeAny (model P w) callerA (.call (.ref fa) ⟨[.ref a],[]⟩) (λr s'=>r=.ok (.ret (.bool true))/\OldK s₁.heap s'.heap/\s'.os=s₁.os/\AllBare s'.gens) s₁:=by
  intro H hO hS bP hA hK
  have y7:∀{b:Addr} {o:Obj},s₁.heap.get? b=some o->H b=none->(ua s₁.heap H).get? b=some o:=λe n=>Bg e n
  have JR:∀{b:Addr} {o:Obj} {es:Array DictEntry} {ep:Nat},s₁.heap.get? b=some o->o.data=.dict es ep->H b=none:=λ{b o es ep} e d=>by
   cases q:H b with
   | none=>rfl
   | some u=>
    have e':b=a:=hA b (by rw[q];simp)
    subst e'
    rw[ha] at e;cases e
    have d':Data.seq vs.toArray _=Data.dict es ep:=d
    cases d'
  have MG:∀{b:Addr} {m:Str->Option Value},s₁.heap.Ns b m->(ua s₁.heap H).Ns b m:=λ{b m} ⟨o,es,ep,e,d,r⟩=>⟨o,es,ep,y7 e (JR e d),d,r⟩
  have UZ:K.In (ua s₁.heap H):=λb o e=>y7 (KX b o e) (by
   cases q:H b with
   | none=>rfl
   | some u=>
    have e':b=a:=hA b (by rw[q];simp)
    subst e'
    rw[hK (by rw[q];simp)] at e;cases e)
  have hM:Mod K mg (ua s₁.heap H):=⟨UZ,MG UY,⟨mb,MG hb,W5⟩,let ⟨mc,h1,h2⟩:=NM;⟨mc,MG h1,h2⟩⟩
  have e0:xy P w K mg (ua s₁.heap H) callerA [] s₁ H:=⟨rfl,hM,λb o e=>DQ e,Nat.le_of_eq (zT _ _),trivial,λb hb=>absurd (show b∈([]:List Addr) from hb) (by simp),bP,.of_eq hg⟩
  refine codeAny_mono ((F _ UZ (MG UY)).run callerA [] s₁ H ⟨[.ref a],[]⟩ [.ref a] [.ref a] _ _ hr e0 (J3 s₁ (.ref a)) (.cons rfl .nil) (yU H hO hS)) λr s' h=>?_
  cases r with
  | error e=>exact(NN H e s' h).elim
  | ok fl=>
   cases fl with
   | next=>exact False.elim h
   | brk=>exact False.elim h
   | cont=>exact False.elim h
   | ret u=>
    obtain⟨v,H',os,bare,un,NP,r',q⟩:=h
    have q':v=.bl true:=q
    subst q'
    obtain rfl:u=Value.bool true:=r'
    refine⟨rfl,OldK.of_keep λb o e=>?_,os,bare⟩
    cases q:H b with
    | none=>exact un.keep b o e q (by intro z;exact absurd (show b∈([]:List Addr) from z) (by simp)) (by simp)
    | some u=>
     rcases hO b with z | ⟨ob,xs,z⟩
     ·rw[q] at z;cases z
     ·have z2:=un.iQ b ob _ z
      obtain⟨e1,_⟩:=bP b _ z
      obtain⟨e2,_⟩:=NP b _ z2
      rw[e] at e1;cases e1
      exact e2
 cases hk:K.lookup a with
 | some o=>
  have e:=KX a o hk
  rw[ha] at e
  cases e
  refine core (λ_=>none) (λ_=>.inl rfl) (.inr ⟨_,vs.toArray,_,hk,rfl,rfl,rfl,by rw[aan,NO];exact hl,by simpa using rv⟩) (λb u z=>by have z':(none:Option HO)=some u:=z;cases z') (λb z=>absurd rfl z) λz=>absurd rfl z
 | none=>
  refine core (λb=>if b=a then some (.vf {cls:=.type "list",data:=.seq vs.toArray} (.lst (ns.map V.int))) else none) (λb=>?_) (.inl (.inr ⟨{cls:=.type "list",data:=.seq vs.toArray},if_pos rfl⟩)) (λb u z=>?_) (λb z=>?_) λ_=>hk
  ·by_cases hb:b=a
   ·exact .inr ⟨_,_,if_pos hb⟩
   ·exact .inl (if_neg hb)
  ·by_cases hb:b=a
   ·have z':=(if_pos hb).symm.trans z
    cases z'
    subst hb
    exact⟨ha,by rw[aac];exact hl,vs,_,rv,ha⟩
   ·have z':=(if_neg hb).symm.trans z
    cases z'
  ·by_cases hb:b=a
   ·exact hb
   ·exact absurd (if_neg hb) z
end L2
namespace L2
open PySem PySem.Spec PyProof.Rows
abbrev KOf {K:PySem.W.Frag} {h:Heap} (_:K.In h):PySem.W.Frag:=K
theorem Eh {l:PySem.W.OpenLaw} {n k:Nat} {q:Program} {loose:List Str} {XP:(Str->Option Value)->Heap->Prop} {YP:World->Heap->Prop} {d:DefRec} {K:Params->PySem.W.Frag} {CX:World->oV} {sp:World->Sp} {x:Str}
  (hn:l.most=some n) (D1:n<=sizeLine) (J1:d.params.defaults=[]) (hr:dH k callerA)
  (hY:∀(w:World) (h:Heap),YP w h->(K w.params).In h)
  (F:∀(w:World) (mg:Str->Option Value) (fa:Addr) (h:Heap),(K w.params).In h->h.Ns mainGlobals mg->mg d.name=some (.ref fa)->
   ∃fd:FuncData,(∀(s:Shared) (u:Value),BindsTo s fd ⟨[u],[]⟩ [(x,u)])/\
    ∀base:Heap,(K w.params).In base->base.Ns mainGlobals mg->fH l.prog w (K w.params) mg base (CX w) k fa fd [x] (sp w))
  (yU:∀(w:World) (H:Hp) (a:Addr) (ns:List Int),ns.length<=n->Hf H->bL (K w.params) H a (ns.map V.int)->sp w [.ref a] H (λv _=>v=.bl true) λ_ _ _=>False)
  (NN:∀(w:World) (H:Hp) (s:Shared) (e:Value) (s':Shared),CX w [] H s (λ_ _ _=>False) e s'->False):
  PySem.W.WalkO q loose XP YP l.row.toRowW d [] (λf vs=>PySem.call f vs):=by
 refine UX.vE hn J1 λw s₀ s₁ mg mb fa o pm cd doc a vs ns G Y ho hd zW J2 He hints hlen hg=>?_
 have KX:=hY w _ Y
 obtain⟨fd,hb,hF⟩:=F w mg fa _ KX G.T.g J2
 exact law_call KX G.T.g G.T.b G.T.builtins G.T.nolimit hg He hints (aal hlen D1) hr hF hb (λH hO hS=>yU w H a ns hlen hO hS) λH e s'=>NN w H s₁ e s'
end L2
namespace L2
open PySem PySem.Spec PyProof.Rows
noncomputable def inClass (s:Stmt) (j:Nat):Stmt:=match s with
 | .ClassDef _ _ _ body _ _ _ _ _ _ _=>body.getD j (.Pass ⟨0,0,0,0⟩)
 | _=>.Pass ⟨0,0,0,0⟩
noncomputable def aR (s:Stmt):Arguments:=match s with
 | .FunctionDef _ a _ _ _ _ _ _ _ _=>a
 | _=>{posonlyargs:=[],args:=[],vararg:=none,kwonlyargs:=[],kw_defaults:=[],kwarg:=none,defaults:=[]}
noncomputable def aO (s:Stmt):List Stmt:=match s with
 | .FunctionDef _ _ b _ _ _ _ _ _ _=>b
 | _=>[]
noncomputable def aj (s:Stmt):Scope:=match s with
 | .FunctionDef _ _ _ _ _ _ sc _ _ _=>sc
 | _=>{kind:=.function,names:=[],isGenerator:=false,isCoroutine:=false}
abbrev CX0:oV:=λ_ _ _ _ _ _=>False
abbrev E0:XK:=λ_ _ _=>False
structure xE (K:PySem.W.Frag) (x qual:Str) (st:Stmt) (f:Addr) (fd:FuncData):Prop where
 ex:∃(oc:Value) (od:Option Addr) (kV doc pm:Value) (an:Option Addr) (bV ct:Value) (D8:Array (Option Value)),
  fd=PySem.W.fnOf x qual (aR st) (aO st) (aj st) .none kV doc pm an bV ct/\K.lookup f=some ⟨oc,od,.func fd,D8⟩/\PySem.W.codeIn K bV qual=true
 kp:PySem.W.keepIn K (.ref f)=true
section
variable {P : Program} {w : World} {K : PySem.W.Frag} {mg : Str -> Option Value} {base : Heap}
theorem xE.binds {x qual:Str} {st:Stmt} {f:Addr} {fd:FuncData} {ps:List Str} (F:xE K x qual st f fd)
  (h:∀(kV doc pm:Value) (an:Option Addr) (bV ct:Value) (us:List Value),us.length=ps.length->bindArgs (PySem.W.fnOf x qual (aR st) (aO st) (aj st) .none kV doc pm an bV ct) ⟨us,[]⟩=pure (ps.zip us)):Binds K fd ps []:=by
 obtain⟨oc,od,kV,doc,pm,an,bV,ct,D8,rfl,lk,zW⟩:=F.ex
 exact .all (h kV doc pm an bV ct)
theorem bj {x qual:Str} {st:Stmt} {f:Addr} {oc:Value} {od an:Option Addr} {D8:Array (Option Value)} {kV doc pm bV ct:Value} (l:K.lookup f=some ⟨oc,od,.func (PySem.W.fnOf x qual (aR st) (aO st) (aj st) .none kV doc pm an bV ct),D8⟩)
  (c:PySem.W.codeIn K bV qual=true) (k:PySem.W.keepIn K (.ref f)=true):xE K x qual st f (PySem.W.fnOf x qual (aR st) (aO st) (aj st) .none kV doc pm an bV ct):=⟨⟨oc,od,kV,doc,pm,an,bV,ct,D8,rfl,l,c⟩,k⟩
end
theorem eX {A:Around} {k:Nat} (hr:dH k A):A.units+1<cLine:=Nat.lt_of_le_of_lt (Nat.add_le_add_left (by decide:1<=64) _) hr.units
section
variable {X : Cx}
theorem pv (i:Nat) {x:Str} {pos:Pos} (hN:X.N[i]?=some x:=by rfl) (hv:Nq X.env.scope x:=by first | exact Or.inl rfl | exact Or.inr (Or.inl rfl) | exact Or.inr (Or.inr rfl)) (hd:(x==("__debug__":Str))=false:=by decide)
  (zW:(x==("__classdict__":Str))=false:=by decide):PE X (.Name x pos) (tVar i):=GP hN hv hd zW
end
theorem Hg {A B:Prop} (h:A):if true=true then A else B:=by
 rw[if_pos rfl]
 exact h
theorem jR {c A B:Prop} [Decidable c] (h1:c->A) (h2:¬c->B):if c then A else B:=by
 by_cases h:c
 ·rw[if_pos h]
  exact h1 h
 ·rw[if_neg h]
  exact h2 h
noncomputable def aw (H H':Hp):Prop:=∀b o,H b=some o->H' b=some o
theorem aw.refl (H:Hp):aw H H:=λ_ _ h=>h
theorem aw.trans {H H1 H2:Hp} (a:aw H H1) (b:aw H1 H2):aw H H2:=λc o h=>b c o (a c o h)
theorem aw.seq {K:PySem.W.Frag} {H H':Hp} {a:Addr} {xs:List V} (e:aw H H') (h:bL K H a xs):bL K H' a xs:=by
 rcases h with (h | ⟨o,h⟩) | h
 ·exact .inl (.inl (e _ _ h))
 ·exact .inl (.inr ⟨o,e _ _ h⟩)
 ·exact .inr h
end L2
namespace L2
open PySem PySem.Spec PyProof.Rows
section
variable {X : Cx}
theorem Ap:di X (.builtin "len") (λxs H Q=>∃a kvs,xs=[V.ref a]/\H a=some (.dK kvs)/\Q (.int kvs.length) H):=by
 intro pins s σ H xs us Q I r h
 obtain⟨a,kvs,rfl,ha,q⟩:=h
 obtain⟨u,rfl,ru⟩:=vals1 r
 cases ru
 exact J0 I (.inl ha) λt s' I'=>⟨.int kvs.length,H,I',⟨t,rfl⟩,q⟩
end
section
variable {κ : Type} [DecidableEq κ]
end
end L2
namespace L2
open PySem PySem.Spec PyProof.Rows
noncomputable def Bt (n:Nat) (i:Int):Prop:=i.natAbs<2^n
theorem Bt.neg {n:Nat} {i:Int} (h1:Bt n i):Bt n (-i):=by
 unfold Bt at *
 omega
theorem Bt.le {n:Nat} {i j:Int} (h:Bt n j) (q:i.natAbs<=j.natAbs):Bt n i:=Nat.lt_of_le_of_lt q h
theorem Bt.of {n:Nat} {i:Int} (b:Nat) (h1:-(b:Int)<=i) (h2:i<=(b:Int)) (h:b<2^n:=by decide +kernel):Bt n i:=by
 unfold Bt
 exact Nat.lt_of_le_of_lt (by omega) h
theorem Bt.log {n:Nat} {i:Int} (h:Bt n i) (q:n<=9000:=by decide):i.natAbs.log2<9000:=by
 by_cases z:i.natAbs=0
 ·rw[z];decide
 ·exact aas ((Nat.log2_lt z).mpr h) q
theorem cW {i j:Int} (h1:-(2^64)<i:=by decide) (h2:i<2^64:=by decide):IntMulOk i j:=.of_left (intBits_le_64 h1 h2)
theorem iY {i j:Int} (h1:-(2^64)<j:=by decide) (h2:j<2^64:=by decide):IntMulOk i j:=.of_right (intBits_le_64 h1 h2)
section
variable {X : Cx}
theorem bM:lq X (binaryOp .Mult) (rI IntMulOk λi j=>.int (i*j)):=MB λ_ _ _ _ _ _ _ hc q=>mul_int q hc
noncomputable def dE (_ j:Int):Prop:=0<j/\j.natAbs.log2<9000
theorem dE.of {i j:Int} {n:Nat} (h:0<j) (b:Bt n j) (q:n<=9000:=by decide):dE i j:=⟨h,b.log q⟩
theorem dE.lit {i j:Int} (h:0<j:=by decide) (q:j.natAbs.log2<9000:=by decide):dE i j:=⟨h,q⟩
theorem cj:lq X (binaryOp .FloorDiv) (rI dE λi j=>.int (i / j)):=MB λi j _ _ _ _ _ hc q=>by
 have h1:(0:Int)<j:=hc.1
 exact floordiv_int (by omega) (by rw[Int.fdiv_eq_ediv_of_nonneg i (by omega)];exact q) (.inl (PyProof.noPylong_of_log2 hc.2))
noncomputable def qe (_ j:Int):Prop:=j≠0/\j.natAbs.log2<9000
theorem qe.of {i j:Int} {n:Nat} (h:j≠0) (b:Bt n j) (q:n<=9000:=by decide):qe i j:=⟨h,b.log q⟩
theorem vF:lq X (binaryOp .FloorDiv) (rI qe λi j=>.int (i.fdiv j)):=MB λ_ _ _ _ _ _ _ hc q=>floordiv_int hc.1 q (.inl (PyProof.noPylong_of_log2 hc.2))
theorem bo:lq X (binaryOp .Mod) (rI (λ_ j=>0<j) λi j=>.int (i % j)):=GW
noncomputable def rIxTH:R2:=λx y H Q=>∃p xs i v,x=.ref p/\y=.int i/\H p=some (.tup xs)/\oW xs i=some v/\Q v H
theorem av:DB X rIxTH:=λvalue slice pins s σ H x y v u Q I rx ry ⟨p,xs,i,z,e1,e2,e3,e4,q⟩ hs=>
 GZ value slice pins s σ H x y v u Q I rx ry ⟨p,xs,i,z,e1,e2,lg.of e3,e4,q⟩ hs
noncomputable def rIxLH:R2:=λx y H Q=>∃p xs i v,x=.ref p/\y=.int i/\H p=some (.lst xs)/\oW xs i=some v/\Q v H
theorem aX:DB X rIxLH:=λvalue slice pins s σ H x y v u Q I rx ry ⟨p,xs,i,z,e1,e2,e3,e4,q⟩ hs=>
 yY value slice pins s σ H x y v u Q I rx ry ⟨p,xs,i,z,e1,e2,bL.of e3,e4,q⟩ hs
noncomputable def tTupS (t:TA):TE:=λσ H Q=>t σ H λxs H1=>xs.length<=sizeLine/\∀p H2,aw H1 H2->H1 p=none->H2 p=some (.tup xs)->Q (.ref p) H2
theorem ao {H:Hp} {p:Addr} {o:HO} (h:H p=none):aw H (upd H p o):=λb u e=>by
 rw[aD (eJ e h)]
 exact e
theorem aZ {es:List Expr} {t:TA} {x1} {pos:Pos} (h:PA X es t):PE X (.Tuple es x1 pos) (tTupS t):=λpins s σ H Q I hq=>
 cG (h:=wpAny_Tuple_spliced (cG (h pos pins s σ H _ I hq) λus s1 ⟨xs,H1,I1,r,z,q⟩=>⟨by rw[<-r.length];exact z,by
  have hf:H1 s1.heap.objs.size=none:=I1.bP.fresh (aaf _)
  refine⟨.ref s1.heap.objs.size,upd H1 s1.heap.objs.size (.tup xs),I1.laid (t':=s1.toks) (λb u e=>Heap.get?_push_of_some _ e) (aaf _) ?_,rfl,q _ _ (ao hf) hf aq⟩
  exact⟨z,us,r,⟨_,Heap.get?_push_size _ rfl,rfl,_,rfl⟩⟩⟩)) λ_ _ z=>z
theorem cM:di X (.builtin "len") (λxs H Q=>∃p ys,xs=[.ref p]/\H p=some (.lst ys)/\Q (.int ys.length) H):=λpins s σ H xs us Q I r ⟨p,ys,e,h,q⟩=>
 mi pins s σ H xs us Q I r ⟨p,ys,e,.inl (bL.of h),q⟩
theorem Aq:di X (.builtin "len") (λxs H Q=>∃p ns,xs=[.ref p]/\bL X.K H p (List.map V.int ns)/\Q (.int (List.length ns:Nat)) H):=λpins s σ H xs us Q I r ⟨p,ns,e,h,q⟩=>
 mi pins s σ H xs us Q I r ⟨p,_,e,.inl h,by rw[aac];exact q⟩
noncomputable def Hh (K:PySem.W.Frag):R2:=λx y H Q=>∃p ns i,x=.ref p/\y=.int i/\bL K H p (List.map V.int ns)/\0<=i/\i< (List.length ns:Nat)/\Q (.int (ns.getD i.toNat 0)) H
theorem vG {ns:List Int} {i:Int} (h0:0<=i) (h1:i< (ns.length:Nat)):oW (ns.map V.int) i=some (.int (ns.getD i.toNat 0)):=by
 obtain⟨j,rfl⟩:=Int.eq_ofNat_of_zero_le h0
 refine cP ?_
 have hj:j<ns.length:=by omega
 rw[aad,aat hj]
 simp [aaS,aat hj]
theorem BG:DB X (Hh X.K):=λvalue slice pins s σ H x y v u Q I rx ry ⟨p,ns,i,e1,e2,e3,h0,h1,q⟩ hs=>
 yY value slice pins s σ H x y v u Q I rx ry ⟨p,_,i,_,e1,e2,e3,vG h0 h1,q⟩ hs
structure cL (P:Program) (w:World) (K:PySem.W.Frag) (mg:Str->Option Value) (base:Heap) (CX:oV) (k:Nat) (x:Str) (ps:List Str) (sp:Sp):Prop where
 ex:∃f fd,fH P w K mg base CX k f fd ps sp/\mg x=some (.ref f)/\PySem.W.keepIn K (.ref f)=true/\Binds K fd ps []
theorem aW {CX:oV} {k:Nat} {x:Str} {ps:List Str} {sp:Sp} {E:XK} {e:Expr} {es:List Expr} {t:TA} {p pos:Pos} (C:cL X.prog X.w X.K X.mg X.base CX k x ps sp) (hr:dH k X.A) (hg:Gl X x) (hx:dX CX X E) (ha:PA X (e::es) t)
  (vt:(x==("__debug__":Str))=false:=by decide) (he:starEach (e::es) X.env=(false,eval e X.env)::starEach es X.env:=by rfl) (hpl:(backTo pos (starEach es X.env)).any (·.1)=false:=by rfl):
  PE X (.Call (.Name x p) (e::es) [] pos) (tCall sp [] E t):=by
 obtain⟨f,fd,F,hm,hk,hb⟩:=C.ex
 exact D5 F hr hg hm hk hb .nil hx ha vt he hpl
end
noncomputable def uk (CX:oV):Prop:=∀outer H s e s',¬CX outer H s (λ_ _ _=>False) e s'
theorem uk.pass {CX:oV} (h:uk CX) {X:Cx}:dX CX X E0:=λ_ _ H s e s' _ z=>(h _ H s e s' z).elim
section
variable {P : Program} {w : World} {K : PySem.W.Frag} {mg : Str -> Option Value} {base : Heap} {CX : oV}
theorem xE.fR {x qual:Str} {st:Stmt} {f:Addr} {fd:FuncData} {N ps:List Str} {k:Nat} {sp:Sp} (F:xE K x qual st f fd) (S:aV N ps (aj st)) (len:∀vs H Q E,sp vs H Q E->vs.length=ps.length)
  (vy:∀(bV:Value) (A:Around) (outer:List Env) (s:Shared) (H:Hp) (vs:List V) (Q:VK) (E:XK),dH k (A.deeper (envOfC qual (aj st) s.heap.objs.size f bV))->sp vs H Q E->
   ∃t,xg (dz CX P w K mg base N qual (aj st) f bV A outer s H E).Mz (aO st) t/\t {nx:=λ_ H'=>Q .cZ H',rt:=Q} (start N vs) H):fH P w K mg base CX (k+1) f fd ps sp:=by
 obtain⟨oc,od,kV,doc,pm,an,bV,ct,D8,rfl,lk,zW⟩:=F.ex
 refine FK lk zW S len λA outer s H vs Q E hr yU=>?_
 obtain⟨t,h,q⟩:=vy bV A outer s H vs Q E hr yU
 exact⟨t,h.Mz,q⟩
structure Dn (K:PySem.W.Frag) (mg:Str->Option Value) (x:Str) (st:Stmt):Prop where
 ex:∃f fd,xE K x x st f fd/\mg x=some (.ref f)
theorem Dn.eF {x:Str} {st:Stmt} {ps:List Str} {k:Nat} {sp:Sp} (D:Dn K mg x st)
  (hb:∀(kV doc pm:Value) (an:Option Addr) (bV ct:Value) (us:List Value),us.length=ps.length->bindArgs (PySem.W.fnOf x x (aR st) (aO st) (aj st) .none kV doc pm an bV ct) ⟨us,[]⟩=pure (ps.zip us))
  (h:∀f fd,xE K x x st f fd->fH P w K mg base CX k f fd ps sp):cL P w K mg base CX k x ps sp:=by
 obtain⟨f,fd,F,hm⟩:=D.ex
 exact⟨f,fd,h f fd F,hm,F.kp,F.binds hb⟩
end
section
variable {X : Cx}
noncomputable def U0 (xs ys:List V):Bool:=(List.range (min xs.length ys.length)).all (λj=>DC (xs.getD j .cZ) (ys.getD j .cZ)) && xs.length==ys.length
noncomputable def rEqT:R2:=λx y H Q=>∃p q xs ys,x=.ref p/\y=.ref q/\H p=some (.tup xs)/\H q=some (.tup ys)/\xs.all gy=true/\ys.all gy=true/\Q (.bl (U0 xs ys)) H
noncomputable def rInT:R2:=λx y H Q=>∃p xs,y=.ref p/\H p=some (.tup xs)/\gy x=true/\xs.all gy=true/\Q (.bl (JT x xs)) H
theorem xF:lq X (compareOp .In) rInT:=λpins s σ H x y v u Q I rx ry ⟨p,xs,e1,e2,f1,f2,q⟩=>
 Ag pins s σ H x y v u Q I rx ry ⟨p,xs,e1,.inr (lg.of e2),f1,f2,q⟩
theorem BH:di X (.builtin "isinstance") (λxs H Q=>∃x c t b,xs=[x,.ty c]/\iW X.K H x t/\PySem.W.kitOne X.K t (.type c)=some b/\Q (.bl b) H):=by
 intro pins s σ H xs us Q I r h
 obtain⟨x,c,t,b,rfl,ty,e,q⟩:=h
 obtain⟨u,u',rfl,rx,rc⟩:=vals2 r
 cases rc
 exact Ae I rx ty e λtk=>⟨.bl b,H,I.tok tk,rfl,q⟩
end
theorem at0 {α:Type} {x:α} {l:List α}:oW (x::l) 0=some x:=cP (j:=0) rfl
theorem at1 {α:Type} {x y:α} {l:List α}:oW (x::y::l) 1=some y:=cP (j:=1) rfl
theorem at2 {α:Type} {x y z:α} {l:List α}:oW (x::y::z::l) 2=some z:=cP (j:=2) rfl
noncomputable def Pr (a b:Int):List V:=[.int a,.int b]
theorem Hi {K:PySem.W.Frag}:PySem.W.kitOne K (.type "int") (.type "int")=some true:=by unfold PySem.W.kitOne;rw[if_pos (by decide +kernel)]
theorem Hj {K:PySem.W.Frag}:PySem.W.kitOne K (.type "list") (.type "list")=some true:=by unfold PySem.W.kitOne;rw[if_pos (by decide +kernel)]
theorem Ei {K:PySem.W.Frag} {t c:String} {b:Bool} (h1:(Value.type t==Value.type c)=false:=by decide +kernel) (h2:PySem.W.kitMeta c=true:=by decide +kernel) (h3:(PySem.fastBuiltinMro t).map (·.contains (Value.type c))=some b:=by decide +kernel):
  PySem.W.kitOne K (.type t) (.type c)=some b:=by
 unfold PySem.W.kitOne PySem.W.kitCls PySem.W.subIn
 rw[if_neg (by rw[h1];decide)]
 dsimp only
 rw[if_pos h2]
 exact h3
theorem Hk {K:PySem.W.Frag}:PySem.W.kitOne K (.type "int") (.type "bool")=some false:=Ei
end L2
namespace Nm
noncomputable def g (a b:Int):Int:=(Int.gcd a b:Nat)
theorem NQ (a b:Int):0<=g a b:=Int.natCast_nonneg _
theorem FN {a b:Int} (h:b≠0):0<g a b:=by
 have:=Int.gcd_pos_of_ne_zero_right a h
 unfold g
 omega
theorem um (a b:Int):g a b∣a:=Int.gcd_dvd_left ..
theorem pM (a b:Int):g a b∣b:=Int.gcd_dvd_right ..
theorem BI (a b:Int):g a b=g b a:=by unfold g;rw[Int.gcd_comm]
theorem J4 {a b:Int} (h:0<b):g a b<=b:=Int.le_of_dvd h (pM a b)
theorem FO (a b:Int):g (a.natAbs:Int) b=g a b:=by
 unfold g Int.gcd
 rw[Int.natAbs_natCast]
theorem y8 (a b:Int):g a (b.natAbs:Int)=g a b:=by
 rw[BI,FO,BI]
theorem Hl {a b:Int} (ha:0<=a) (_hb:0<b):g b (a % b)=g a b:=by
 unfold g Int.gcd
 rw[Int.natAbs_emod_of_nonneg ha,Nat.gcd_comm b.natAbs,<-Nat.gcd_rec,Nat.gcd_comm]
theorem Hm {a:Int} (ha:0<=a):g a 0=a:=by
 unfold g
 rw[Int.gcd_zero_right]
 omega
theorem BJ {a b:Int} (h:b≠0):g a b<=(b.natAbs:Int):=by
 rw[<-y8]
 exact J4 (by omega)
theorem tD (a b:Int):(a / g a b)*b=a* (b / g a b):=by
 rw[<-Int.mul_ediv_assoc _ (pM a b),Int.mul_comm a b,Int.mul_ediv_assoc _ (um a b),Int.mul_comm]
theorem back {a b c d p q x y:Int} (hq:0<q) (hd:0<d) (e:p* (b*d)=(a*d - c*b)*q) (f:x* (q*d)=(p*d+c*q)*y):x*b=a*y:=by
 have h:(x*b)* (q*d)=(a*y)* (q*d):=by grind
 exact Int.eq_of_mul_eq_mul_right (by have:=Int.mul_pos hq hd;omega) h
end Nm
namespace L2
open PySem PySem.Spec PyProof.Rows PySem.W
theorem cA.get {P:Program} {w:World} {H:Hp} {h:Heap} {a:Addr}:∀{o:HO},cA P w H h a o->∃ob,h.get? a=some ob
 | .lst _,x=>let ⟨_,_,_,_,e⟩:=x;⟨_,e⟩
 | .tup _,x=>let ⟨_,_,_,o,e,_⟩:=x;⟨o,e⟩
 | .dK _,x=>let ⟨_,_,_,_,o,_,_,e,_⟩:=x;⟨o,e⟩
 | .dT _,x=>let ⟨_,_,_,_,o,_,_,e,_⟩:=x;⟨o,e⟩
 | .set _ _,x=>by
  obtain⟨o,es,ep,t,e,_⟩:=x
  exact⟨o,e⟩
 | .ins _ _ _,x=>let ⟨_,_,_,e,_⟩:=x;⟨_,e⟩
 | .own _,x=>x
 | .xd _,x=>by
  obtain⟨mA,⟨o,es,ep,e,_⟩,_⟩:=x
  exact⟨o,e⟩
 | .Mv _ _,x=>let ⟨_,_,_,e⟩:=x;⟨_,e⟩
 | .vf _ _,x=>⟨_,x.1⟩
 | .yN _,⟨_,x,_⟩=>⟨_,x⟩
 | .met _ _,x=>⟨_,x⟩
 | .ext _,x=>x.2.1
theorem gG.Je {P:Program} {w:World} {H:Hp} {h h' B:Heap} (ok:gG P w H h) (hB:∀b u o,H b=some u->h.get? b=some o->B.get? b=some o) (st:B.StaysIn h'):gG P w H h':=λa o e=>
 (ok a o e).t9 (λb u hb q=>st b u (by
  rcases hb with rfl | hb
  ·exact hB _ _ _ e q
  ·exact hB _ _ _ hb q)) (λ_ r=>r) λ_ _ r=>r
structure U1 (P:Program) (w:World) (l:List Env) (H:Hp) (s:Shared) (H':Hp) (ad:Addr) (cls:Value) (s':Shared):Prop where
 os:s'.os=s.os
 bare:AllBare s'.gens
 un:Un (d4 l) [] H H' s.heap s'.heap
 bP:gG P w H' s'.heap
 fl:∃B a0,Heap.FlyingW B l ad cls a0 s'.heap/\(∀b o,s.heap.get? b=some o->H b=none->b∉d4 l->B.get? b=some o)/\(∀b o,s.heap.get? b=some o->b∉d4 l->∃o',B.get? b=some o')/\
  (∀b u o,H' b=some u->s'.heap.get? b=some o->B.get? b=some o)
noncomputable def bC (P:Program) (w:World):oV:=λl H s E e s'=>∃ad cls H',e=.ref ad/\U1 P w l H s H' ad cls s'/\E cls none H'
theorem y9 (P:Program) (w:World):uk (bC P w):=λ_ _ _ _ _ ⟨_,_,_,_,_,h⟩=>h
section
variable {P : Program} {w : World} {K : PySem.W.Frag} {mg : Str -> Option Value} {base : Heap} {N : List Str} {qual : Str} {scope : Scope} {f : Addr} {bV : Value} {A : Around} {outer : List Env} {s0 : Shared} {H0 : Hp} {E : XK}
theorem BK {pins:List (Addr×Obj)} {σ:St} {H:Hp} {s:Shared} {h':Heap} {ad:Addr} {cls:Value} {vs:List Value}
  (I:Inv (dz (bC P w) P w K mg base N qual scope f bV A outer s0 H0 E) pins σ H s) (mx:Heap.MadeExcOf s.heap h' ad cls vs) (e:E cls none H):
  (dz (bC P w) P w K mg base N qual scope f bV A outer s0 H0 E).xe (.ref ad) {s with heap:=h'}:=by
 let env:Env:=envOfC qual scope s0.heap.objs.size f bV
 have xG:∀b o,s0.heap.get? b=some o->b∉d4 outer->b∉d4 (env::outer):=λb o q hb z=>by
  rcases List.mem_cons.mp (show b∈s0.heap.objs.size::d4 outer from z) with z | z
  ·rw[z] at q
   exact absurd (Heap.lt_size q) (aaz _)
  ·exact hb z
 have MH:∀b,b∈d4 outer->b∈d4 (env::outer):=λb hb=>List.mem_cons.mpr (.inr hb)
 have ST:s.heap.FunFrames base (env::outer):=I.stack
 have SF:∀b∈d4 (env::outer),H b=none:=I.pH
 have BS:Un (d4 outer) [] H0 H s0.heap s.heap:=I.base
 show wpAny (model P w) (A.deeper env) (leaving env (.ref ad)) (λ_ ud=>bC P w outer H0 s0 E (.ref ad) ud) (λe' ud=>bC P w outer H0 s0 E e' ud) {s with heap:=h'}
 refine wpAny_leaves_madeW (base:=hideAll s.heap (d4 (env::outer))) (h:=s.heap) (L:=s0.heap.objs.size) I.ok.frames rfl (λb o q=>of_hideAll _ q)
  (funFrames_hide ST λen he a ha=>List.mem_filterMap.mpr ⟨en,he,ha⟩) mx λh2 t x1 _ _ x4=>?_
 have x4:Heap.UpToSlots h' h2:=x4
 have fr:∀b∈d4 (env::outer),∀o,s.heap.get? b=some o->∃sl,h2.get? b=some {o with slots:=sl}:=λb hb o q=>by
  obtain⟨_,o1,q1,nf⟩:=ST.mem hb
  rw[q] at q1
  cases q1
  exact x4 b o (mx.keeps b o q) nf
 refine⟨ad,cls,H,rfl,⟨I.os,I.bare,⟨λb o q n hb hx=>?_,λb o q n hb hx=>?_,BS.free,λb o q hx=>?_,BS.jP,BS.iQ,BS.jQ⟩,?_,⟨_,_,x1,λb o q n hb=>?_,λb o q hb=>?_,λb u o e1 q=>?_⟩⟩,e⟩
 ·exact x1.1 b o (hideAll_get _ (BS.keep b o q n hb hx) (xG b o q hb))
 ·obtain⟨sl,q1⟩:=BS.slot b o q n hb hx
  obtain⟨Ej,q2⟩:=fr b (MH b hb) _ q1
  exact⟨Ej,q2⟩
 ·obtain⟨o1,q1⟩:=BS.there b o q hx
  by_cases hb:b∈d4 (env::outer)
  ·obtain⟨Ej,q2⟩:=fr b hb _ q1
   exact⟨_,q2⟩
  ·exact⟨o1,x1.1 b o1 (hideAll_get _ q1 hb)⟩
 ·exact gG.Je I.bP (λb u o e1 q=>hideAll_get _ q λz=>by
   have:=SF b z
   rw[e1] at this
   cases this) x1.1
 ·exact hideAll_get _ (BS.keep b o q n hb (by simp)) (xG b o q hb)
 ·obtain⟨o1,q1⟩:=BS.there b o q (by simp)
  exact⟨o1,hideAll_get _ q1 (xG b o q hb)⟩
 ·obtain⟨o1,q1⟩:=(I.bP b u e1).get
  have q2:=hideAll_get (d4 (env::outer)) q1 λz=>by
   have:=SF b z
   rw[e1] at this
   cases this
  have q3:=x1.1 b o1 q2
  rw[q] at q3
  cases q3
  exact q2
theorem mn:dX (bC P w) (dz (bC P w) P w K mg base N qual scope f bV A outer s0 H0 E) E:=by
 intro pins σ H s e s' I c
 let env:Env:=envOfC qual scope s0.heap.objs.size f bV
 obtain⟨ad,cls,H',rfl,F,he⟩:=c
 have xG:∀b o,s0.heap.get? b=some o->b∉d4 outer->b∉d4 (env::outer):=λb o q hb z=>by
  rcases List.mem_cons.mp (show b∈s0.heap.objs.size::d4 outer from z) with z | z
  ·rw[z] at q
   exact absurd (Heap.lt_size q) (aaz _)
  ·exact hb z
 have MH:∀b,b∈d4 outer->b∈d4 (env::outer):=λb hb=>List.mem_cons.mpr (.inr hb)
 have ST:s.heap.FunFrames base (env::outer):=I.stack
 have BS:Un (d4 outer) [] H0 H s0.heap s.heap:=I.base
 have FU:Un (d4 (env::outer)) [] H H' s.heap s'.heap:=F.un
 obtain⟨B,a0,fl,c0,c2,c1⟩:=F.fl
 have fl:Heap.FlyingW B (env::outer) ad cls a0 s'.heap:=fl
 have c0:∀b o,s.heap.get? b=some o->H b=none->b∉d4 (env::outer)->B.get? b=some o:=c0
 have c2:∀b o,s.heap.get? b=some o->b∉d4 (env::outer)->∃o',B.get? b=some o':=c2
 show wpAny (model P w) (A.deeper env) (leaving env (.ref ad)) (λ_ ud=>bC P w outer H0 s0 E (.ref ad) ud) (λe' ud=>bC P w outer H0 s0 E e' ud) s'
 refine wpAny_leaves_onW (L:=s0.heap.objs.size) I.ok.frames rfl fl λh2 x1 x2=>?_
 have fr:∀b∈d4 (env::outer),∀o,s'.heap.get? b=some o->∃sl,h2.get? b=some {o with slots:=sl}:=λb hb o q=>by
  obtain⟨_,o1,q1,nf⟩:=fl.2.2.1.mem hb
  rw[q] at q1
  cases q1
  exact x2 b o q nf
 refine⟨ad,cls,H',rfl,⟨F.os.trans I.os,F.bare,⟨λb o q n hb hx=>?_,λb o q n hb hx=>?_,λb o q n hx=>?_,λb o q hx=>?_,λb xs q=>FU.jP b xs (BS.jP b xs q),λb o u q=>FU.iQ b o u (BS.iQ b o u q),λb ps q=>?_⟩,F.bP.Je c1 x1.1,
  ⟨B,a0,x1,λb o q n hb=>?_,λb o q hb=>?_,λb u o e1 q=>?_⟩⟩,he⟩
 ·exact x1.1 b o (c0 b o (BS.keep b o q n hb hx) (BS.free b o q n hx) (xG b o q hb))
 ·obtain⟨sl,q1⟩:=BS.slot b o q n hb hx
  obtain⟨U2,q2⟩:=FU.slot b _ q1 (BS.free b o q n hx) (MH b hb) hx
  obtain⟨Ej,q3⟩:=fr b (MH b hb) _ q2
  exact⟨Ej,q3⟩
 ·obtain⟨o1,q1⟩:=BS.there b o q hx
  exact FU.free b o1 q1 (BS.free b o q n hx) hx
 ·obtain⟨o1,q1⟩:=BS.there b o q hx
  by_cases hb:b∈d4 (env::outer)
  ·obtain⟨o2,q2⟩:=FU.there b o1 q1 hx
   obtain⟨Ej,q3⟩:=fr b hb _ q2
   exact⟨_,q3⟩
  ·obtain⟨o2,q2⟩:=c2 b o1 q1 hb
   exact⟨o2,x1.1 b o2 q2⟩
 ·obtain⟨m1,e1⟩:=BS.jQ b ps q
  obtain⟨m2,e2⟩:=FU.jQ b _ e1
  exact⟨m1++m2,by rw[e2,Array.append_assoc]⟩
 ·exact c0 b o (BS.keep b o q n hb (by simp)) (BS.free b o q n (by simp)) (xG b o q hb)
 ·obtain⟨o1,q1⟩:=BS.there b o q (by simp)
  exact c2 b o1 q1 (xG b o q hb)
 ·obtain⟨o1,q1⟩:=(F.bP b u e1).get
  have q2:=c1 b u o1 e1 q1
  have q3:=x1.1 b o1 q2
  rw[q] at q3
  cases q3
  exact q2
end
end L2
namespace L2
open PySem PySem.Spec PyProof.Rows PySem.W
theorem Ek {K:Frag} {h:Heap} {C:Addr} {U3:List Value} {newId:String} (X:K.In h) (q:excIn K C U3 newId=true):
  ∃tl N nm qn bs hdct sn sub ab col dd k0 k1 k2 k3 k5 mN,h.get? C=some (excClassObj nm qn C N bs tl hdct sn sub ab col dd k0 k1 k2 k3 k5 newId)/\h.Ns N mN/\mN "__init__"=none/\OwnTail h U3 tl:=by
 unfold excIn at q
 split at q
 ·rename_i dd cd sl ho
  split at q
  ·rename_i C' bm k0 k1 k2 k3 n k5 hm hs
   simp only[aaF,beq_iff_eq,Bool.not_eq_true'] at q
   obtain⟨⟨⟨⟨⟨rfl,rfl⟩,J5⟩,ht⟩,bP⟩,MI⟩:=q
   obtain⟨nm,bs,mro,ns,qn,hd,sn,sub,ab,col,del⟩:=cd
   dsimp only at hm J5 bP MI
   subst hm J5
   have NR:sl=#[k0,k1,k2,k3,some (.builtin n),k5]:=by
    obtain⟨l⟩:=sl
    simp only at hs
    rw[hs]
   subst NR
   exact⟨bm,ns,nm,qn,bs,hd,sn,sub,ab,col,dd,k0,k1,k2,k3,k5,_,X _ _ ho,.of_isNs (isNs_of_in X bP),nsMap_none_of_in X bP MI,tail_of_in X ht⟩
  ·cases q
 ·cases q
abbrev uo:List Value:=[.type "ValueError",.type "Exception",.type "BaseException",.type "object"]
abbrev mq:String:="ValueError.__new__"
noncomputable def tRaise (C:Addr) (E:XK) (t:TA):TS:=λ_ σ H=>t σ H λvs H1=>vs.length<=sizeLine/\E (.ref C) none H1
section
variable {P : Program} {w : World} {K : PySem.W.Frag} {mg : Str -> Option Value} {base : Heap} {N : List Str} {qual : Str} {scope : Scope} {f : Addr} {bV : Value} {A : Around} {outer : List Env} {s0 : Shared} {H0 : Hp} {E : XK}
theorem gO {x:Str} {C:Addr} {np d7 pos:Pos} {e:Expr} {es:List Expr} {t:TA} (hg:Gl (dz (bC P w) P w K mg base N qual scope f bV A outer s0 H0 E) x) (hm:mg x=some (.ref C)) (q:excIn K C uo mq=true)
  (hh:A.handled=none) (ha:PA (dz (bC P w) P w K mg base N qual scope f bV A outer s0 H0 E) (e::es) t) (vt:(x==("__debug__":Str))=false:=by decide)
  (he:starEach (e::es) (dz (bC P w) P w K mg base N qual scope f bV A outer s0 H0 E).env=(false,eval e (dz (bC P w) P w K mg base N qual scope f bV A outer s0 H0 E).env)::starEach es (dz (bC P w) P w K mg base N qual scope f bV A outer s0 H0 E).env:=by rfl)
  (hpl:(backTo d7 (starEach es (dz (bC P w) P w K mg base N qual scope f bV A outer s0 H0 E).env)).any (·.1)=false:=by rfl):
  PS (dz (bC P w) P w K mg base N qual scope f bV A outer s0 H0 E) (.Raise (some (.Call (.Name x np) (e::es) [] d7)) none pos) (tRaise C E t):=by
 intro pins s σ H D I h
 have FB:=PySem.F.excBase_ValueError
 obtain⟨tl,Nn,nm,qn,bs,hdct,sn,sub,ab,col,dd,k0,k1,k2,k3,k5,mN,hC,hN,MI,T⟩:=Ek I.ok.mod.IZ q
 refine wpAny_Raise_call_subT (C:=C) (nm:=nm) (q:=qn) (N:=Nn) (bs:=bs) (bm:=tl) (hdct:=hdct) (sn:=sn) (sub:=sub) (ab:=ab) (col:=col) (dd:=dd) (k0:=k0) (k1:=k1) (k2:=k2) (k3:=k3) (k5:=k5)
  FB (mN:=mN) (T.hasType FB.hasBase) hh (by rw[he];show(false || (backTo d7 (starEach es _)).any (·.1))=false;rw[hpl];rfl) MI (mf I hg hm ⟨rfl,?_⟩ vt)
 rw[he]
 have U4:=ha d7 pins s σ H _ I h
 rw[he] at U4
 refine Calls.evalArgs_plain (cG U4 λus s1 ⟨vs,H1,I1,r,z,k⟩=>⟨rfl,by rw[<-r.length];exact z,I1.bk _ _ hC,hN.keeps I1.bk,T.keeps I1.bk,λh' ad mx=>?_⟩)
 exact BK I1 mx k
end
section
variable {X : Cx} {pins : List (Addr × Obj)} {σ : St} {H H' : Hp} {s s' : Shared}
abbrev Cx.mark (X:Cx) (ad:Addr):Cx:={X with A:=X.A.mark (some (.ref ad)),calm:=false,xe:=λ_ _=>False}
end
section
variable {X : Cx} {CX : oV} {k : Nat} {x : Str} {ps : List Str} {sp : Sp} {E : XK} {e : Expr} {es : List Expr} {t : TA} {p pos : Pos}
variable {cx n : Str} {np W6 W7 rR : Pos} {b₀ : Stmt} {U5 : List Stmt} {i : Nat} {ts : TS} {C2 : Addr}
end
end L2
namespace Nm
noncomputable def st (a b:Int):Int:=if b<0 then -(a / g a b) else a / g a b
noncomputable def sb (a b:Int):Int:=if b<0 then -(b / g a b) else b / g a b
theorem BL {a d:Int} (h:0<d):a.fdiv d=a / d:=Int.fdiv_eq_ediv_of_nonneg a (by omega)
theorem BM {a d:Int} (h:0<d) (dv:d∣a):a.fdiv (-d)= -(a / d):=by
 obtain⟨k,rfl⟩:=dv
 rw[Int.mul_ediv_cancel_left _ (by omega),show d*k=(-d)* (-k) by rw[Int.neg_mul_neg]]
 exact Int.mul_fdiv_cancel_left _ (by omega)
end Nm
namespace L2
open PySem PySem.Spec PyProof.Rows
section
variable {P : Program} {w : World} {K : PySem.W.Frag} {mg : Str -> Option Value} {base : Heap} {CX : oV}
theorem xE.FP {x qual:Str} {st:Stmt} {f:Addr} {fd:FuncData} {N ps:List Str} {k:Nat} {sp:Sp} (F:xE K x qual st f fd) (S:aV N ps (aj st)) (len:∀vs H Q E,sp vs H Q E->vs.length=ps.length)
  (vy:∀(bV:Value) (A:Around) (outer:List Env) (s:Shared) (H:Hp) (vs:List V) (Q:VK) (E:XK),dH k (A.deeper (envOfC qual (aj st) s.heap.objs.size f bV))->sp vs H Q E->
   ∃t,xg (dz CX P w K mg base N qual (aj st) f bV A outer s H E) (aO st) t/\t {nx:=λ_ H'=>Q .cZ H',rt:=Q} (start N vs) H):fH P w K mg base CX (k+1) f fd ps sp:=by
 obtain⟨oc,od,kV,doc,pm,an,bV,ct,D8,rfl,lk,zW⟩:=F.ex
 exact FK lk zW S len λA outer s H vs Q E hr yU=>vy bV A outer s H vs Q E hr yU
end
noncomputable def noStar:Expr->Bool
 | .Starred _ _=>false
 | _=>true
theorem se {e:Expr} {es:List Expr} {env:Env} (h:noStar e=true):starEach (e::es) env=(false,eval e env)::starEach es env:=by
 cases e <;>first | rfl | exact absurd h aar
theorem na {env:Env} {pos:Pos}:∀{es:List Expr},es.all noStar=true->(backTo pos (starEach es env)).any (·.1)=false
 | [],_=>rfl
 | e::es,h=>by
  rw[List.all_cons,aaF] at h
  rw[se h.1]
  show(false || (backTo pos (starEach es env)).any (·.1))=false
  rw[na h.2]
  rfl
end L2
namespace L2
open PySem PySem.Spec PyProof.Rows PySem.W
structure NS (K:PySem.W.Frag) (C:Addr):Prop where
 cls:(clsIn K C).isSome=true
 ga:findIn K (.ref C) "__getattribute__"=some (some (.builtin "BaseException.__getattribute__"))
 gt:findIn K (.ref C) "__getattr__"=some none
 cl:findIn K (.ref C) "__class__"=some (some (.builtin "object.__class__"))
 be:mroIn K C (.type "BaseException")=some true
 ob:mroIn K C (.type "object")=some true
section
variable {prog : Program} {w : World} {A : Around} {E : Value -> Shared -> Prop} {K : PySem.W.Frag} {h : Heap} {g : Array GenState} {d : Drawn} {t : Nat} {os : OsState} {a C : Addr} {o : Obj}
end
section
variable {X : Cx}
end
end L2
namespace L2
open PySem PySem.Spec PyProof.Rows
theorem lB {env:Env}:∀(names:List (Str×NameKind)) (cs:List (Str×Addr)),(∀n,(n,NameKind.free)∈names->∃c,env.cells.lookup n=some c)->(∀x c,cs.lookup x=some c->env.cells.lookup x=some c)->
  ∃cl,(forIn names cs fun(x:Str×NameKind) (r:List (Str×Addr))=>(if (x.2==NameKind.free)=true then do let c <-cellOf env x.1;pure (ForInStep.yield ((x.1,c)::r)) else pure (ForInStep.yield r):Sem (ForInStep (List (Str×Addr)))))=pure cl/\
   (∀x c,cl.lookup x=some c->env.cells.lookup x=some c)/\(∀n,((n,NameKind.free)∈names\/(cs.lookup n).isSome=true)->∃c,cl.lookup n=some c)/\(∀x c,(x,c)∈cl->(env.cells.lookup x=some c/\(x,NameKind.free)∈names)\/(x,c)∈cs)
 | [],cs,_,h=>⟨cs,rfl,h,(λn hn=>by
   rcases hn with hn | hn
   ·exact absurd hn (by simp)
   ·exact Option.isSome_iff_exists.mp hn),λx c m=>.inr m⟩
 | (n,k)::r,cs,hf,h=>by
  by_cases hk:k=.free
  ·subst hk
   obtain⟨c,hc⟩:=hf n aap
   obtain⟨cl,e,h1,h2,h3⟩:=lB r ((n,c)::cs) (λm hm=>hf m (aaj _ hm)) (λx c' hx=>by
    rw[aaA] at hx
    cases q:x==n with
    | true=>
     rw[q] at hx
     have e1:x=n:=by simpa using q
     cases hx
     rw[e1];exact hc
    | false=>rw[q] at hx;exact h x c' hx)
   refine⟨cl,?_,h1,λm hm=>h2 m ?_,λx c' m=>?_⟩
   rotate_left 2
   ·rcases h3 x c' m with ⟨q1,q2⟩ | m
    ·exact .inl ⟨q1,aaj _ q2⟩
    ·rcases List.mem_cons.mp m with e | m
     ·cases e
      exact .inl ⟨hc,aap⟩
     ·exact .inr m
   ·rw[List.forIn_cons]
    have W8:cellOf env n=pure c:=by unfold cellOf;rw[hc]
    simp only[beq_self_eq_true,if_true,W8,pure_bind]
    exact e
   ·rcases hm with hm | hm
    ·rcases List.mem_cons.mp hm with z | z
     ·cases z
      right
      rw[aaA]
      simp
     ·exact .inl z
    ·right
     rw[aaA]
     cases q:m==n with
     | true=>rfl
     | false=>exact hm
  ·obtain⟨cl,e,h1,h2,h3⟩:=lB r cs (λm hm=>hf m (aaj _ hm)) h
   refine⟨cl,?_,h1,λm hm=>h2 m ?_,λx c' m=>(h3 x c' m).imp (λq=>⟨q.1,aaj _ q.2⟩) id⟩
   ·rw[List.forIn_cons]
    have:(k==NameKind.free)=false:=by simpa using hk
    simp only[this,Bool.false_eq_true,if_false,pure_bind]
    exact e
   ·rcases hm with hm | hm
    ·rcases List.mem_cons.mp hm with z | z
     ·cases z;exact absurd rfl hk
     ·exact .inl z
    ·exact .inr hm
theorem gI {env:Env} {scope:Scope} (hf:∀n,(n,NameKind.free)∈scope.names->∃c,env.cells.lookup n=some c):
  ∃cl,closureFor scope env=pure cl/\(∀x c,cl.lookup x=some c->env.cells.lookup x=some c)/\(∀n,(n,NameKind.free)∈scope.names->∃c,cl.lookup n=some c)/\(∀x c,(x,c)∈cl->env.cells.lookup x=some c/\(x,NameKind.free)∈scope.names):=by
 obtain⟨cl,e,h1,h2,h3⟩:=lB (env:=env) scope.names [] hf (λx c h=>by simp at h)
 refine⟨cl,?_,h1,λn hn=>h2 n (.inl hn),λx c m=>(h3 x c m).elim id λz=>absurd z (by simp)⟩
 unfold closureFor
 simp only[bind_pure]
 exact e
structure eK (N:List Str) (so:Scope) (N':List Str) (scope:Scope) (k:Nat) (fr:List Nat):Prop where
 kind:scope.kind=.function
 El:∀y∈scope.names,y.2=.cell->scope.names.lookup y.1=some .cell/\(y.1,NameKind.free)∉scope.names
 locs:∀y∈scope.names,y.2=.local->scope.names.lookup y.1=some .local
 outer:∀y∈scope.names,y.2=.free->(so.names.lookup y.1=some .cell\/so.names.lookup y.1=some .free)
 len:N'.length=k+fr.length
 at_:∀t,t<fr.length->(fr[t]?).bind (λj=>N[j]?)=N'[k+t]?
 FQ:∀x∈N'.drop k,scope.names.lookup x=some .free
noncomputable def stC (k:Nat) (fr:List Nat) (σ:St):St:=List.replicate k none++fr.map λj=>(σ[j]?).join
noncomputable def lC (X:Cx) (N:List Str) (scope:Scope) (cl:List (Str×Addr)) (C:Addr) (s:Shared) (H:Hp) (ex:List Addr):Cx where
 prog:=X.prog
 w:=X.w
 K:=X.K
 mg:=X.mg
 base:=X.base
 A:=X.A
 N:=N
 s₀:=s
 H₀:=H
 env:=compEnvC scope cl C X.env
 outer:=X.stack
 stack:=X.stack
 ex:=ex
 calm:=X.calm
 fn:=λx=>scope.names.lookup x==some .cell
 pn:=[]
 xe:=λ_ _=>False
theorem fm {env:Env}:∀{names:List (Str×NameKind)} {x:Str},names.lookup x=some .free->
  (names.map fun(n,k)=>if (k==NameKind.free && env.scope.kind==.function && env.kindOf n==some .cell) then (n,NameKind.cell) else (n,k)).lookup x=some .cell\/
  (names.map fun(n,k)=>if (k==NameKind.free && env.scope.kind==.function && env.kindOf n==some .cell) then (n,NameKind.cell) else (n,k)).lookup x=some .free
 | [],_,h=>by simp at h
 | (n,k)::r,x,h=>by
  have ih:=@fm env r x
  show List.lookup x ((if (k==NameKind.free && env.scope.kind==.function && env.kindOf n==some .cell)=true then (n,NameKind.cell) else (n,k))::_)=_\/List.lookup x ((if (k==NameKind.free && env.scope.kind==.function && env.kindOf n==some .cell)=true then (n,NameKind.cell) else (n,k))::_)=_
  cases hx:x==n with
  | true=>
   simp only[aaA,hx] at h
   cases h
   by_cases hc:(NameKind.free==NameKind.free && env.scope.kind==.function && env.kindOf n==some .cell)=true
   ·rw[if_pos hc];left;simp [aaA,hx]
   ·rw[if_neg hc];right;simp [aaA,hx]
  | false=>
   simp only[aaA,hx] at h
   by_cases hc:(k==NameKind.free && env.scope.kind==.function && env.kindOf n==some .cell)=true
   ·rw[if_pos hc];simp only[aaA,hx];exact ih h
   ·rw[if_neg hc];simp only[aaA,hx];exact ih h
theorem mr {env:Env}:∀{names:List (Str×NameKind)} {x:Str},
  ((names.map fun(n,k)=>if (k==NameKind.free && env.scope.kind==.function && env.kindOf n==some .cell) then (n,NameKind.cell) else (n,k)).lookup x=some .cell\/
  (names.map fun(n,k)=>if (k==NameKind.free && env.scope.kind==.function && env.kindOf n==some .cell) then (n,NameKind.cell) else (n,k)).lookup x=some .free)->(x,NameKind.free)∈names\/(x,NameKind.cell)∈names
 | [],_,h=>by simp at h
 | (n,k)::r,x,h=>by
  have ih:=@mr env r x
  have up:((x,NameKind.free)∈r\/(x,NameKind.cell)∈r)->((x,NameKind.free)∈(n,k)::r\/(x,NameKind.cell)∈(n,k)::r):=λz=>z.imp (aaj _) (aaj _)
  have h:List.lookup x ((if (k==NameKind.free && env.scope.kind==.function && env.kindOf n==some .cell)=true then (n,NameKind.cell) else (n,k))::_)=_\/List.lookup x ((if (k==NameKind.free && env.scope.kind==.function && env.kindOf n==some .cell)=true then (n,NameKind.cell) else (n,k))::_)=_:=h
  cases hx:x==n with
  | true=>
   have e1:x=n:=by simpa using hx
   subst e1
   by_cases hc:(k==NameKind.free && env.scope.kind==.function && env.kindOf x==some .cell)=true
   ·have:k=.free:=by
     simp only[aaF] at hc
     simpa using hc.1.1
    subst this
    exact .inl aap
   ·rw[if_neg hc] at h
    simp only[aaA,hx] at h
    rcases h with h | h
    ·cases h;exact .inr aap
    ·cases h;exact .inl aap
  | false=>
   by_cases hc:(k==NameKind.free && env.scope.kind==.function && env.kindOf n==some .cell)=true
   ·rw[if_pos hc] at h;simp only[aaA,hx] at h;exact up (ih h)
   ·rw[if_neg hc] at h;simp only[aaA,hx] at h;exact up (ih h)
theorem nK:∀(names:List (Str×NameKind)) (h:Heap) (acc:List (Str×Addr)) (x:Str) (c:Addr),(x,c)∈cellsFrom h.objs.size names acc->
  (x,c)∈acc\/(h.objs.size<=c/\(pushCells h names).IsCell c none/\(x,NameKind.cell)∈names)
 | [],h,acc,x,c,m=>.inl m
 | (n,k)::r,h,acc,x,c,m=>by
  unfold cellsFrom at m
  unfold pushCells
  by_cases hk:(k==NameKind.cell)=true
  ·rw[if_pos hk] at m ⊢
   have ih:=nK r (h.push {cls:=.type "cell",data:=.cell none}) ((n,h.objs.size)::acc) x c
   rw[Heap.size_push] at ih
   rcases ih m with m | ⟨q1,q2,q3⟩
   ·rcases List.mem_cons.mp m with e | m
    ·cases e
     have hk:k=.cell:=by simpa using hk
     subst hk
     refine .inr ⟨aaf _,?_,aap⟩
     have q:(h.push {cls:=.type "cell",data:=.cell none}).IsCell h.objs.size none:=⟨_,Heap.get?_push_size _ rfl,rfl⟩
     exact q.keeps λb o e=>pushCells_keeps r _ b o e
    ·exact .inl m
   ·exact .inr ⟨by omega,q2,aaj _ q3⟩
  ·rw[if_neg hk] at m ⊢
   rcases nK r h acc x c m with m | ⟨q1,q2,q3⟩
   ·exact .inl m
   ·exact .inr ⟨q1,q2,aaj _ q3⟩
theorem nM:∀(names:List (Str×NameKind)) (n lo:Nat) (acc:List (Str×Addr)),(∀x c,(x,c)∈acc->c<n)->(∀x y c,lo<=c->(x,c)∈acc->(y,c)∈acc->x=y)->
  ∀x y c,lo<=c->(x,c)∈cellsFrom n names acc->(y,c)∈cellsFrom n names acc->x=y
 | [],n,lo,acc,h1,h2,x,y,c,hl,m1,m2=>h2 x y c hl m1 m2
 | (z,k)::r,n,lo,acc,h1,h2,x,y,c,hl,m1,m2=>by
  unfold cellsFrom at m1 m2
  by_cases hk:(k==NameKind.cell)=true
  ·rw[if_pos hk] at m1 m2
   refine nM r (n+1) lo _ (λx c m=>?_) (λx y c hl m1 m2=>?_) x y c hl m1 m2
   ·rcases List.mem_cons.mp m with e | m
    ·cases e;exact aaT _
    ·exact Nat.lt_succ_of_lt (h1 x c m)
   ·rcases List.mem_cons.mp m1 with e1 | m1 <;>rcases List.mem_cons.mp m2 with e2 | m2
    ·cases e1;cases e2;rfl
    ·cases e1;exact absurd (h1 _ _ m2) (aaz _)
    ·cases e2;exact absurd (h1 _ _ m1) (aaz _)
    ·exact h2 x y c hl m1 m2
  ·rw[if_neg hk] at m1 m2
   exact nM r n lo acc h1 h2 x y c hl m1 m2
theorem ie:∀(names:List (Str×NameKind)) (n:Nat) (acc:List (Str×Addr)) (x:Str),(x,NameKind.cell)∉names->(cellsFrom n names acc).lookup x=acc.lookup x
 | [],n,acc,x,_=>rfl
 | (z,k)::r,n,acc,x,h=>by
  have hr:(x,NameKind.cell)∉r:=λm=>h (aaj _ m)
  unfold cellsFrom
  by_cases hk:(k==NameKind.cell)=true
  ·rw[if_pos hk,ie r _ _ x hr,aaA]
   have hk:k=.cell:=by simpa using hk
   subst hk
   have:(x==z)=false:=by
    cases q:x==z with
    | false=>rfl
    | true=>
     have e:x=z:=by simpa using q
     subst e
     exact absurd aap h
   rw[this]
  ·rw[if_neg hk]
   exact ie r n acc x hr
theorem nN:∀(names:List (Str×NameKind)) (n:Nat) (acc:List (Str×Addr)) (x:Str),((x,NameKind.cell)∈names\/(acc.lookup x).isSome=true)->((cellsFrom n names acc).lookup x).isSome=true
 | [],n,acc,x,h=>by
  rcases h with h | h
  ·simp at h
  ·exact h
 | (z,k)::r,n,acc,x,h=>by
  unfold cellsFrom
  by_cases hk:(k==NameKind.cell)=true
  ·rw[if_pos hk]
   refine nN r _ _ x ?_
   rcases h with h | h
   ·rcases List.mem_cons.mp h with e | h
    ·cases e
     right
     rw[aaA]
     simp
    ·exact .inl h
   ·right
    rw[aaA]
    cases q:x==z with
    | true=>rfl
    | false=>exact h
  ·rw[if_neg hk]
   refine nN r _ _ x ?_
   rcases h with h | h
   ·rcases List.mem_cons.mp h with e | h
    ·cases e;exact absurd rfl hk
    ·exact .inl h
   ·exact .inr h
section
variable {M : Model} {A : Around} {E : Value -> Shared -> Prop} {s : Shared}
theorem gz {scope:Scope} {globals:Addr} {closure:List (Str×Addr)} {qual:Str} {func:Option Addr} {code:Value} {outer:Env} {Q:Env->Shared->Prop}
  (hQ:Q (newEnv scope s.heap.objs.size globals (cellsFrom (s.heap.objs.size+1) scope.names closure) qual func code (some outer) builtinsNs)
   {s with heap:=pushCells (s.heap.push {cls:=.type "dict",data:=.dict #[]}) scope.names}):
  wpAny M A (newFunctionEnv scope globals closure [] qual func code (some outer)) Q E s:=by
 simp only[newFunctionEnv,Option.isSome_some,if_true]
 refine wpAny_bind (wpAny_alloc ?_)
 refine wpAny_bind (wpAny_layCells _ (λname kind cells=>by cases W9:kind==NameKind.cell <;>simp [W9]) _ _ _ _ ?_)
 rw[show({s with heap:=s.heap.push {cls:=.type "dict",data:=.dict #[]}}:Shared).heap.objs.size=s.heap.objs.size+1 from Heap.size_push ..]
 refine wpAny_bind ?_
 rw[List.forIn_nil]
 exact wpAny_pure (wpAny_pure hQ)
end
structure Hn (X:Cx) (scope:Scope) (cl:List (Str×Addr)) (lo:Nat) (C:Addr) (h1:Heap):Prop where
 old:∀x c,cl.lookup x=some c->X.env.cells.lookup x=some c\/(lo<=c/\C<c/\h1.IsCell c none)
 inj:∀x y c,C<c->cl.lookup x=some c->cl.lookup y=some c->x=y
 has:∀n,(n,NameKind.free)∈scope.names\/(n,NameKind.cell)∈scope.names->∃c,cl.lookup n=some c
 FQ:∀n,scope.names.lookup n=some .free->∀c,cl.lookup n=some c->X.env.cells.lookup n=some c
 own:∀x c,scope.names.lookup x=some .cell->cl.lookup x=some c->lo<=c
section
variable {X : Cx} {pins : List (Addr × Obj)} {σ : St} {H : Hp} {s : Shared} {N' : List Str} {scope : Scope} {k : Nat} {fr : List Nat} {cl : List (Str × Addr)}
theorem Ho {C:Addr} {fp:List Addr} {h1:Heap} (I:Inv X pins σ H s) (S:eK X.N X.env.scope N' scope k fr) (B:Hn X scope cl s.heap.objs.size C h1)
  (hC:s.heap.objs.size<=C) (f2:∀b∈fp,iU X pins H b) (lt:∀b∈fp,b<s.heap.objs.size):(lC X N' scope cl C s H fp).Ok where
 mod:=I.ok.mod
 kind:=S.kind
 glob:=I.ok.glob
 blt:=I.ok.blt
 above:=hC
 inj:=λx y c h1 h2=>by
  rcases B.old _ _ h1 with o1 | o1 <;>rcases B.old _ _ h2 with o2 | o2
  ·exact I.ok.inj x y c o1 o2
  ·exact B.inj x y c o2.2.1 h1 h2
  ·exact B.inj x y c o1.2.1 h1 h2
  ·exact B.inj x y c o1.2.1 h1 h2
 has:=λx hx=>B.has x (mr hx)
 I0:=λx c z e=>B.own x c (by
  have z:(scope.names.lookup x==some NameKind.cell)=true:=z
  simpa using z) e
 hd:=I.ok.hd
 frames:=I.ok.frames
 JG:=.inl rfl
 Nr:=λb hb=>⟨aai (aas (lt b hb) hC),λx c e=>(B.old _ _ e).elim (λo=>(f2 b hb).2.2.2.2.1 x c o) λo=>aaM (aas (lt b hb) o.1)⟩
 bs:=I.bs
 Dz:=aal I.ok.Dz I.sz
 zU:=λb o e hb=>by
  rcases(f2 b hb).2.2.2.1 with z | z
  ·exact I.ok.zU b o e z
  ·exact absurd (aas (Heap.lt_size e) (aal I.ok.Dz z)) (aaz _)
 Bh:=λb hb z=>by
  rcases List.mem_cons.mp (I.ub b z) with q | q
  ·exact(f2 b hb).2.1 q
  ·exact(f2 b hb).2.2.1 q
 nA:=I.stack
 FC:=I.pH
theorem Em {C:Addr} {fp:List Addr} {h1:Heap} {tk:Nat} {m:Str->Option Value} (I:Inv X pins σ H s) (S:eK X.N X.env.scope N' scope k fr) (B:Hn X scope cl s.heap.objs.size C h1)
  (hC:s.heap.objs.size<=C) (f2:∀b∈fp,iU X pins H b) (lt:∀b∈fp,b<s.heap.objs.size) (old:∀b o,s.heap.get? b=some o->h1.get? b=some o) (hn:h1.Ns C m):
  Inv (lC X N' scope cl C s H fp) [] (stC k fr σ) H {s with heap:=h1,toks:=tk}:=by
 refine⟨Ho I S B hC f2 lt,rfl,I.bare,Un.kept old,⟨m,hn,λi x v e1 e2 e3=>?_⟩,λx c e=>?_,I.bP.fresh hC,λx c e=>(B.old _ _ e).elim (λo=>I.iR x c o) λo=>I.bP.fresh o.1,λp hp=>absurd (show p∈([]:List (Addr×Obj)) from hp) (by simp),I.bP.kept old,?_⟩
 ·have e1:N'[i]?=some x:=e1
  unfold stC at e2
  by_cases hi:i<k
  ·rw[aa2 (by simpa using hi),List.getElem?_replicate,if_pos hi] at e2
   cases e2
  ·rw[aa5 (by simpa using hi),List.length_replicate,aad] at e2
   cases q:fr[i - k]? with
   | none=>rw[q] at e2;cases e2
   | some j=>
    rw[q] at e2
    have e2:(σ[j]?).join=some v:=aay e2
    have ej:σ[j]?=some (some v):=by
     cases z:σ[j]? with
     | none=>rw[z] at e2;cases e2
     | some o=>rw[z] at e2;exact congrArg some e2
    have ig:i - k<fr.length:=(List.getElem?_eq_some_iff.mp q).1
    have FR:=S.at_ (i - k) ig
    rw[q,show k+ (i - k)=i by omega,e1] at FR
    have FR:X.N[j]?=some x:=FR
    have Xa:x∈N'.drop k:=List.mem_iff_getElem?.mpr ⟨i - k,by rw[List.getElem?_drop,show k+ (i - k)=i by omega];exact e1⟩
    have MJ:=S.FQ x Xa
    have J6:(x,NameKind.free)∈scope.names:=aaQ MJ
    have J7:=S.outer _ J6 rfl
    obtain⟨m0,hn0,Xb⟩:=I.loc
    obtain⟨u,r,l⟩:=Xb j x v FR ej (.inr J7)
    refine⟨u,r,.inr ⟨fm MJ,?_⟩⟩
    rcases l with ⟨kk,_⟩ | ⟨_,c,e,z⟩
    ·have kk:X.env.scope.names.lookup x=some .local:=kk
     rcases J7 with q1 | q1
     ·rw[kk] at q1;cases q1
     ·rw[kk] at q1;cases q1
    ·obtain⟨c',e'⟩:=B.has x (.inl J6)
     have ec:=B.FQ x MJ _ e'
     rw[e] at ec
     cases ec
     obtain⟨ob,ho,hd⟩:=z
     exact⟨c,e',ob,old _ _ ho,hd⟩
 ·rcases B.old _ _ e with o | o
  ·obtain⟨v,ob,ho,hd⟩:=I.cell x c o
   exact⟨v,ob,old _ _ ho,hd⟩
  ·exact⟨none,o.2.2⟩
 ·unfold stC
  rw[aak,List.length_replicate,aac]
  exact S.len.symm
end
section
variable {prog : Program} {w : World} {A : Around} {E : Value -> Shared -> Prop} {R : Result -> Shared -> Prop} {s : Shared}
theorem iZ {elt target iter:Expr} {ifs:List Expr} {scope:Scope} {pos:Pos} {it acc:Value} {env:Env} (I:Nat->Shared->Prop)
  (turn:∀n s,I n s->wpAny (model prog w) A (pyNext it) (λr s₁=>match r with
   | none=>R (.ok .next) s₁
   | some v=>wpAny (model prog w) A (letOwnedTupleGo target it v) (λ_ U6=>wpAny (model prog w) A (assign target env v) (λ_ s₂=>
     wpAny (model prog w) A (forIn ifs true λc r=>if r=true then do let ok <-isTrue c env (eval c env);pure (ForInStep.yield ok) else pure (ForInStep.yield r)) (λok s₃=>
      if ok=true then wpAny (model prog w) A (eval elt env) (λx s₄=>
       wpAny (model prog w) A (call (.builtin "list.append") [acc,x]) (λ_ s₅=>∃m,m<n/\I m s₅) (λ_ _=>False) s₄) (notedBy (model prog w) A env λx s'=>R (.error x) s') s₃
      else ∃m,m<n/\I m s₃) (λ_ _=>False) s₂) (λ_ _=>False) U6) (λ_ _=>False) s₁) (λ_ _=>False) s)
  (n:Nat) (h:I n s):
  codeAny (model prog w) A (.compLoop (.ListComp elt [⟨target,iter,ifs,0⟩] scope pos) 0 it acc env) R s:=by
 refine codeAny_loop rfl I (λn s hI=>?_) n h
 show wpAny _ A ((compTurn (.ListComp elt [⟨target,iter,ifs,0⟩] scope pos) 0 it acc env).onRaise (λx=>do noteFrame x env;theTreesLotGoes x)) _ _ s
 refine wpAny_noted ?_
 rw[compTurn_list]
 refine wpAny_bind (wpAny_standAt (wpAny_bind (wpAny_mono (turn n s hI) (λr s₁ h₁=>?_) λ_ _ h'=>h'.elim)))
 cases r with
 | none=>exact wpAny_pure h₁
 | some v=>
  refine wpAny_bind (wpAny_mono h₁ (λ_ U6 Xc=>?_) λ_ _ h'=>h'.elim)
  refine wpAny_bind (wpAny_mono Xc (λ_ s₂ h₂=>wpAny_bind (wpAny_mono h₂ (λok s₃ h₃=>?_) λ_ _ h'=>h'.elim)) λ_ _ h'=>h'.elim)
  cases ok with
  | false=>exact wpAny_pure ⟨rfl,h₃⟩
  | true=>
   exact wpAny_bind (wpAny_bind (wpAny_mono h₃ (λx s₄ h₄=>wpAny_bind (wpAny_mono h₄ (λ_ s₅ h₅=>wpAny_pure (wpAny_pure ⟨rfl,h₅⟩)) λ_ _ h'=>h'.elim)) λ_ _ h'=>h'))
end
noncomputable def FT (X:Cx) (ifs:List Expr) (t:TT):Prop:=
 ∀(pins:List (Addr×Obj)) (s:Shared) (σ:St) (H:Hp) (Q:Bool->Hp->Prop),Inv X pins σ H s->t σ H Q->
  wpAny (model X.prog X.w) X.A (forIn ifs true λc r=>if r=true then do let ok <-isTrue c X.env (eval c X.env);pure (ForInStep.yield ok) else pure (ForInStep.yield r)) (TP X pins σ Q) X.xe s
noncomputable def uq:TT:=λ_ H Q=>Q true H
theorem dq {X:Cx}:FT X [] uq:=λ_ _ _ H _ I h=>wpAny_tests_nil ⟨H,I,h⟩
theorem ur {X:Cx} {c:Expr} {t:TT} (h:PT X c t):FT X [c] t:=λpins s σ H Q I hq=>wpAny_tests_one (h pins s σ H Q I hq)
section
variable {X : Cx}
noncomputable def ij (J:It) (g:TG) (tc:TT) (te:TE) (σ0:St) (H1:Hp) (fin:List V->Hp->Prop):Prop:=
 ∃W:Nat->Nat->List V->St->Hp->Prop,(∃m,W 0 m [] σ0 H1)/\∀i m ys σ2 H2,W i m ys σ2 H2->
  (J.stop i H2/\fin ys H2)\/
  (J.go i H2/\∀x H3,J.w6 i H2 x H3->g x σ2 H3 λσ3 H4=>tc σ3 H4 λb H5=>if b=true then te σ3 H5 λy H6=>ys.length<sizeLine/\∃m',m'<m/\W (i+1) m' (ys++ [y]) σ3 H6 else ∃m',m'<m/\W (i+1) m' ys σ3 H5)
noncomputable def fS (br:List Value) (n:Nat):Obj:={cls:=.type "list",data:=.seq br.toArray n}
theorem vH {elt target iter:Expr} {ifs:List Expr} {scope:Scope} {pos:Pos} {g:TG} {tc:TT} {te:TE} {k:Nat} {fr:List Nat} {N':List Str} {cl:List (Str×Addr)} {pins:List (Addr×Obj)} {σ:St} {H2:Hp} {s2:Shared}
  {it:Addr} {fp:List Addr} {tn:Nat->Heap->Prop} {J:It} {fin:List V->Hp->Prop} {R0:Result->Shared->Prop} {XE:List (Str×Addr)->Addr->Shared->Hp->List Addr->Value->Shared->Prop}
  (hc:X.calm=true) (S:eK X.N X.env.scope N' scope k fr) (c1:∀x c,cl.lookup x=some c->X.env.cells.lookup x=some c) (c2:∀n,(n,NameKind.free)∈scope.names->∃c,cl.lookup n=some c) (cin:∀x c,(x,c)∈cl->∃y,X.env.cells.lookup y=some c) (MK:∀x,(x,NameKind.cell)∈scope.names->∀c,(x,c)∉cl)
  (hg:∀cl C s H ex,PG (lC X N' scope cl C s H ex) target g) (ht:∀cl C s H ex,FT (lC X N' scope cl C s H ex) ifs tc) (he:∀cl C s H ex,PE ((lC X N' scope cl C s H ex).lh (XE cl C s H ex)) elt te)
  (I2:Inv X pins σ H2 s2) (T:Turn X.prog X.w X.K target J fp it tn) (xm:tn 0 s2.heap) (f2:∀b∈fp,iU X pins H2 b) (hb:ij J g tc te (stC k fr σ) H2 fin)
  (hR:∀(C:Addr),C=(s2.heap.push {cls:=.type "list",dict:=none,data:=.seq ([]:List Value).toArray}).objs.size->∀(s':Shared) (m:Str->Option Value) (ys:List V) (br:List Value) (n:Nat) (H':Hp),s2.heap.objs.size<C->s'.heap.Ns C m->bF ys br->ys.length<=sizeLine->s'.heap.get? s2.heap.objs.size=some (fS br n)->H' s2.heap.objs.size=none->H' C=none->fin ys H'->
   s'.os=s2.os->AllBare s'.gens->Un (d4 X.stack) fp H2 H' s2.heap s'.heap->gG X.prog X.w H' s'.heap->R0 (.ok .next) s')
  (hE:∀cl C x s',C=(s2.heap.push {cls:=.type "list",dict:=none,data:=.seq ([]:List Value).toArray}).objs.size->s2.heap.objs.size<C->XE cl C s2 H2 fp x s'->notedBy (model X.prog X.w) X.A (compEnvC scope cl C X.env) (λy ud=>R0 (.error y) ud) x s'):
  codeAny (model X.prog X.w) X.A (.compStart (.ListComp elt [⟨target,iter,ifs,0⟩] scope pos) 0 (.ref it) (.ref s2.heap.objs.size) (compEnvC scope (cellsFrom ((s2.heap.push {cls:=.type "list",dict:=none,data:=.seq ([]:List Value).toArray}).objs.size+1) scope.names cl) (s2.heap.push {cls:=.type "list",dict:=none,data:=.seq ([]:List Value).toArray}).objs.size X.env)) R0 {s2 with heap:=pushCells ((s2.heap.push {cls:=.type "list",dict:=none,data:=.seq ([]:List Value).toArray}).push {cls:=.type "dict",data:=.dict #[]}) scope.names}:=by
 obtain⟨W,⟨m0,w0⟩,turn⟩:=hb
 have lt:∀b∈fp,b<s2.heap.objs.size:=λb hb=>by
  obtain⟨o,e,_⟩:=T.obj _ _ xm b hb
  exact Heap.lt_size e
 generalize NT:s2.heap.push {cls:=.type "list",dict:=none,data:=.seq ([]:List Value).toArray}=G2 at hR hE ⊢
 have Jf:G2.objs.size=s2.heap.objs.size+1:=by rw[<-NT,Heap.size_push]
 have U7:s2.heap.objs.size≠G2.objs.size:=by rw[Jf];exact aai (aaT _)
 have hC:s2.heap.objs.size<=G2.objs.size:=by rw[Jf];exact Nat.le_succ _
 have old:∀b o,s2.heap.get? b=some o->(pushCells (G2.push {cls:=.type "dict",data:=.dict #[]}) scope.names).get? b=some o:=λb o e=>by
  refine pushCells_keeps _ _ b o (Heap.get?_push_of_some _ ?_)
  rw[<-NT]
  exact Heap.get?_push_of_some _ e
 have En:(pushCells (G2.push {cls:=.type "dict",data:=.dict #[]}) scope.names).get? s2.heap.objs.size=some (fS [] 0):=by
  refine pushCells_keeps _ _ _ _ (Heap.get?_push_of_some _ ?_)
  rw[<-NT]
  exact Heap.get?_push_size _ rfl
 have NU:(pushCells (G2.push {cls:=.type "dict",data:=.dict #[]}) scope.names).Ns G2.objs.size λ_=>none:=(Heap.Ns.new G2 (.type "dict")).keeps (pushCells_keeps _ _)
 have U8:∀x c,(x,c)∈cl->c<G2.objs.size+1:=λx c m=>by
  obtain⟨y,hy⟩:=cin x c m
  obtain⟨v,q⟩:=I2.cell y c hy
  rw[Jf]
  exact Nat.lt_succ_of_lt (Nat.lt_succ_of_lt q.lt)
 have B:Hn X scope (cellsFrom (G2.objs.size+1) scope.names cl) s2.heap.objs.size G2.objs.size (pushCells (G2.push {cls:=.type "dict",data:=.dict #[]}) scope.names):=by
  have own:=nK scope.names (G2.push {cls:=.type "dict",data:=.dict #[]}) cl
  rw[Heap.size_push] at own
  refine⟨λx c e=>?_,λx y c hc h1 h2=>?_,λn hn=>?_,λn hn c e=>?_,λx c hx e=>?_⟩
  ·by_cases hx:(x,NameKind.cell)∈scope.names
   ·rcases own x c (aaQ e) with m | ⟨q1,q2,_⟩
    ·
     exfalso
     exact MK x hx c m
    ·exact .inr ⟨aal hC (Nat.le_of_succ_le q1),q1,q2⟩
   ·rw[ie _ _ _ _ hx] at e
    exact .inl (c1 x c e)
  ·exact nM scope.names (G2.objs.size+1) (G2.objs.size+1) cl U8 (λx y c hl m1 _=>absurd (U8 x c m1) (Nat.not_lt.mpr hl)) x y c hc (aaQ h1) (aaQ h2)
  ·refine Option.isSome_iff_exists.mp (nN _ _ _ n ?_)
   rcases hn with hn | hn
   ·obtain⟨c,e⟩:=c2 n hn
    exact .inr (by rw[e];rfl)
   ·exact .inl hn
  ·have hx:(n,NameKind.cell)∉scope.names:=λm=>by
    have:=(S.El _ m rfl).1
    rw[hn] at this
    cases this
   rw[ie _ _ _ _ hx] at e
   exact c1 n c e
  ·have hx:=aaQ hx
   rcases own x c (aaQ e) with m | ⟨q1,q2,_⟩
   ·exact absurd m (MK x hx c)
   ·exact aal hC (Nat.le_of_succ_le q1)
 generalize pushCells (G2.push {cls:=.type "dict",data:=.dict #[]}) scope.names=h₁ at *
 generalize cellsFrom (G2.objs.size+1) scope.names cl=xH at *
 generalize Hq:s2.heap.objs.size=D at *
 generalize hCc:G2.objs.size=C at *
 have fD:H2 D=none:=by rw[<-Hq];exact I2.bP.fresh (aaf _)
 have cells:∀x c,xH.lookup x=some c->c≠D:=λx c e=>by
  rcases B.old _ _ e with o | o
  ·obtain⟨v,q⟩:=I2.cell x c o
   rw[<-Hq]
   exact aai q.lt
  ·exact aaM (Nat.lt_trans (by rw[Jf];exact aaT _) o.2.1)
 have loop:∀(DV:Addr) (s3:Shared),DV=it->(∃tk,s3={s2 with heap:=h₁,toks:=tk})->
   codeAny (model X.prog X.w) X.A (.compLoop (.ListComp elt [⟨target,iter,ifs,0⟩] scope pos) 0 (.ref DV) (.ref D) (compEnvC scope xH C X.env)) R0 s3:=by
  rintro DV s3 rfl ⟨tk,rfl⟩
  have I3:Inv (lC X N' scope xH C s2 H2 fp) [] (stC k fr σ) H2 {s2 with heap:=h₁,toks:=tk}:=Em I2 S (by rw[Hq];exact B) (by rw[Hq];exact hC) f2 (by rw[Hq];exact lt) old NU
  have xo:∀{H':Hp} {o:Obj},(∀b∈fp,H' b=none)->∀b∈fp,iU (lC X N' scope xH C s2 H2 fp) [(D,o)] H' b:=λ{H' o} hn b hb=>
   ⟨hn b hb,aai (aas (lt b hb) hC),λz=>by
    rcases List.mem_cons.mp (I2.ub b z) with q | q
    ·exact(f2 b hb).2.1 q
    ·exact(f2 b hb).2.2.1 q,.inl hb,λx c e=>(B.old _ _ e).elim (λo=>(f2 b hb).2.2.2.2.1 x c o) (λo=>aaM (aas (lt b hb) o.1)),λp hp=>by
    have e:p=(D,o):=by simpa [lC] using hp
    rw[e]
    exact aaM (lt b hb)⟩
  have NV:∀{σ':St} {H':Hp} {s':Shared} {o:Obj},Inv (lC X N' scope xH C s2 H2 fp) [] σ' H' s'->s'.heap.get? D=some o->H' D=none->(∀v,o.data≠.cell v)->Inv (lC X N' scope xH C s2 H2 fp) [(D,o)] σ' H' s':=λ{σ' H' s' o} I' e n hd=>
   I'.me λp hp=>by
    have q:p=(D,o):=by simpa using hp
    subst q
    refine⟨e,n,U7,λz=>?_,hd⟩
    obtain⟨_,ob,ho,_⟩:=I2.stack.mem z
    exact absurd (Heap.lt_size ho) (by rw[Hq];exact aaz _)
  have Xd:∀{br:List Value} {n:Nat} (v:Option Value),(fS br n).data≠.cell v:=λv z=>by
   have z:Data.seq _ _=Data.cell v:=z
   cases z
  refine iZ (λn s'=>∃i ys σ' H' br Eo,Inv (lC X N' scope xH C s2 H2 fp) [] σ' H' s'/\tn i s'.heap/\(∀b∈fp,H' b=none)/\s'.heap.get? D=some (fS br Eo)/\H' D=none/\bF ys br/\ys.length<=sizeLine/\W i n ys σ' H') ?_ m0
   ⟨0,[],_,H2,[],0,I3,T.keep _ _ _ xm (λb _ o e=>old b o e),λb hb=>(f2 b hb).1,En,fD,.nil,aah _,w0⟩
  rintro n s4 ⟨i,ys,σ4,H4,br,Eo,I4,U9,J8,Xe,Va,ML,Vb,w4⟩
  have Vc:=NV I4 Xe Va Xd
  rcases turn i n ys σ4 H4 w4 with ⟨stop,qf⟩ | ⟨go,step⟩
  ·refine cG (T.done (lC X N' scope xH C s2 H2 fp) rfl rfl rfl hc i _ s4 σ4 H4 _ Vc (xo J8) U9 stop) λr s5 ⟨hr,I5⟩=>?_
   subst hr
   obtain⟨m5,Ep,_⟩:=I5.loc
   exact hR C rfl s5 m5 ys br Eo H4 (by rw[Jf];exact aaT _) Ep ML Vb (I5.pin (D,fS br Eo) (aaN _ aap)).1 Va I5.free qf I5.os I5.bare I5.base I5.bP
  ·refine cG (T.item (lC X N' scope xH C s2 H2 fp) rfl rfl rfl hc i _ s4 σ4 H4 _ Vc (xo J8) U9 go) λr s5 ⟨u,hr,h5⟩=>?_
   subst hr
   refine cG h5 λ_ s6 ⟨x,H6,I6,r6,y6,NW,Xf⟩=>?_
   have Xg:=I6.pinned (xo Xf) (T.obj _ _ NW)
   refine cG (hg xH C s2 H2 fp _ s6 σ4 H6 x u _ Xg r6 (step x H6 y6)) λ_ s7 ⟨σ7,H7,I7,q7⟩=>?_
   refine cG (ht xH C s2 H2 fp _ s7 σ7 H7 _ I7 q7) λok s8 ⟨H8,I8,q8⟩=>?_
   have back:∀{σ':St} {H':Hp} {s':Shared},Inv (lC X N' scope xH C s2 H2 fp) ([(D,fS br Eo)]++pZ fp s6.heap) σ' H' s'->tn (i+1) s'.heap/\(∀b∈fp,H' b=none)/\s'.heap.get? D=some (fS br Eo)/\H' D=none:=λ{σ' H' s'} I'=>by
    have pD:=I'.pin (D,fS br Eo) (aaN _ (List.mem_append_left _ (by simp)))
    refine⟨T.keep _ _ _ NW λb hb o e=>(I'.pin (b,o) (aaN _ (aaN _ (ic hb e)))).1,λb hb=>?_,pD.1,pD.2.1⟩
    obtain⟨o,e,d⟩:=T.obj _ _ NW b hb
    exact(I'.pin (b,o) (aaN _ (aaN _ (ic hb e)))).2.1
   cases ok with
   | false=>
    rw[if_neg aar]
    rw[if_neg aar] at q8
    obtain⟨m',hm,w8⟩:=q8
    obtain⟨b1,b2,b3,b4⟩:=back I8
    exact⟨m',hm,i+1,ys,σ7,H8,br,Eo,I8.me (λp hp=>absurd hp (by simp)),b1,b2,b3,b4,ML,Vb,w8⟩
   | true=>
    rw[if_pos rfl]
    rw[if_pos rfl] at q8
    refine wpAny_mono (he xH C s2 H2 fp _ s8 σ7 H8 _ (I8.lh _) q8) (λy s9 ⟨z,H9,I9,r9,ig,m',hm,w9⟩=>?_) λx s' hx=>hE xH C x s' rfl (by rw[Jf];exact aaT _) hx
    have I9:=I9.gH
    obtain⟨b1,b2,b3,b4⟩:=back I9
    have hl:=ML.length
    refine call_meets F.slot_list_append ⟨_,b3,rfl⟩ F.entry_list_append (F.args_list_append_2 _ _) (PySem.list_append D br.toArray Eo y (by rw[aan];omega)) ⟨b3,?_⟩
    obtain⟨c',q⟩:∃c',(s9.heap.update D (Obj.mapSeq λx=>x.push y)).get? D=some (fS (br++ [y]) c'):=by
     have q:=PySem.IsL.update b3 (λx=>x.push y)
     rw[show br.toArray.push y=(br++ [y]).toArray by simp] at q
     exact⟨_,q⟩
    have Xh:Inv (lC X N' scope xH C s2 H2 fp) [] σ7 H9 s9:=I9.me (λp hp=>absurd hp (by simp))
    have kp:∀b o,b≠D->s9.heap.get? b=some o->(s9.heap.update D (Obj.mapSeq λx=>x.push y)).get? b=some o:=λb o hb e=>(Heap.get?_update_other s9.heap (Obj.mapSeq λx=>x.push y) (Ne.symm hb)).trans e
    have Xi:=Xh.turned (t':=s9.toks) (it:=D) (h':=s9.heap.update D (Obj.mapSeq λx=>x.push y)) kp b4 U7 (.inr (by show s2.heap.objs.size<=D;rw[Hq];exact aaf _)) (λx c e=>cells x c e) (λp hp=>absurd hp (by simp [lC]))
    refine⟨m',hm,i+1,ys++ [z],σ7,H9,br++ [y],c',Xi,T.keep _ _ _ b1 (λb hb o e=>kp b o (aai (lt b hb)) e),b2,q,b4,ML.append (.cons r9 .nil),?_,w9⟩
    ·rw[aak,aaI]
     omega
 exact codeAny_compStart_list (loop it _ rfl ⟨_,rfl⟩) (T.self _ 0 _ _ _ (T.keep _ _ _ xm (λb _ o e=>old b o e)) (loop it _ rfl ⟨_,rfl⟩))
theorem tE {elt target iter:Expr} {ifs:List Expr} {scope:Scope} {pos:Pos} {g:TG} {tc:TT} {te:TE} {k:Nat} {fr:List Nat} {N':List Str} {cl:List (Str×Addr)} {pins:List (Addr×Obj)} {σ:St} {H2:Hp} {s2:Shared}
  {it:Addr} {fp:List Addr} {tn:Nat->Heap->Prop} {J:It} {E:Value->Shared->Prop} {fin:List V->Hp->Prop} {RR:Value->Addr->Result->Shared->Prop} {XE:List (Str×Addr)->Addr->Shared->Hp->List Addr->Value->Shared->Prop}
  (hc:X.calm=true) (S:eK X.N X.env.scope N' scope k fr) (c1:∀x c,cl.lookup x=some c->X.env.cells.lookup x=some c) (c2:∀n,(n,NameKind.free)∈scope.names->∃c,cl.lookup n=some c) (cin:∀x c,(x,c)∈cl->∃y,X.env.cells.lookup y=some c) (MK:∀x,(x,NameKind.cell)∈scope.names->∀c,(x,c)∉cl)
  (hg:∀cl C s H ex,PG (lC X N' scope cl C s H ex) target g) (ht:∀cl C s H ex,FT (lC X N' scope cl C s H ex) ifs tc) (he:∀cl C s H ex,PE ((lC X N' scope cl C s H ex).lh (XE cl C s H ex)) elt te)
  (I2:Inv X pins σ H2 s2) (T:Turn X.prog X.w X.K target J fp it tn) (xm:tn 0 s2.heap) (f2:∀b∈fp,iU X pins H2 b) (hb:ij J g tc te (stC k fr σ) H2 fin)
  (hR:∀(C:Addr) (s':Shared) (m:Str->Option Value) (ys:List V) (br:List Value) (n:Nat) (H':Hp),s2.heap.objs.size<C->s'.heap.Ns C m->bF ys br->ys.length<=sizeLine->s'.heap.get? s2.heap.objs.size=some (fS br n)->H' s2.heap.objs.size=none->H' C=none->fin ys H'->
   s'.os=s2.os->AllBare s'.gens->Un (d4 X.stack) fp H2 H' s2.heap s'.heap->gG X.prog X.w H' s'.heap->RR (.ref s2.heap.objs.size) C (.ok .next) s')
  (hE:∀cl C x s',s2.heap.objs.size<C->XE cl C s2 H2 fp x s'->notedBy (model X.prog X.w) X.A (compEnvC scope cl C X.env) (λy ud=>RR (.ref s2.heap.objs.size) C (.error y) ud) x s'):
  wpAny (model X.prog X.w) X.A (newList []) (λacc s₃=>wpAny (model X.prog X.w) X.A (newFunctionEnv scope X.env.globals cl [] X.env.qual none .none (some X.env)) (λcenv s₄=>
   codeAny (model X.prog X.w) X.A (.compStart (.ListComp elt [⟨target,iter,ifs,0⟩] scope pos) 0 (.ref it) acc {cenv with scope:=relabel scope X.env}) (RR acc cenv.locals) s₄) E s₃) E s2:=by
 refine wpAny_newObj_type (gz ?_)
 exact vH (R0:=RR _ _) hc S c1 c2 cin MK hg ht he I2 T xm f2 hb (λC e=>by subst e;exact hR _) (λcl C x s' e=>by subst e;exact hE cl _ x s')
theorem comp_back {fp:List Addr} {pins:List (Addr×Obj)} {σ:St} {H2 H':Hp} {s2 s':Shared} {C:Addr} {ys:List V} {br:List Value} {n:Nat} {h':Heap} (I2:Inv X pins σ H2 s2) (f2:∀b∈fp,iU X pins H2 b) (hC:s2.heap.objs.size<C)
  (vl:bF ys br) (sz:ys.length<=sizeLine) (hD:s'.heap.get? s2.heap.objs.size=some (fS br n)) (nD:H' s2.heap.objs.size=none) (nC:H' C=none)
  (os:s'.os=s2.os) (bare:AllBare s'.gens) (un:Un (d4 X.stack) fp H2 H' s2.heap s'.heap) (bP:gG X.prog X.w H' s'.heap) (hs:Heap.SameBut C s'.heap h'):
  Inv X pins σ (upd H' s2.heap.objs.size (.lst ys)) {s' with heap:=h'}:=by
 have NX:∀b o,s2.heap.get? b=some o->b≠C:=λb o e=>aai (Nat.lt_trans (Heap.lt_size e) hC)
 have Xj:∀b o,s2.heap.get? b=some o->b≠s2.heap.objs.size:=λb o e=>aai (Heap.lt_size e)
 have tk:∀b u,H' b=some u->b≠s2.heap.objs.size:=λb u e z=>by rw[z,nD] at e;cases e
 have tC:∀b u,H' b=some u->b≠C:=λb u e z=>by rw[z,nC] at e;cases e
 have fD:H2 s2.heap.objs.size=none:=I2.bP.fresh (aaf _)
 have t2:∀b u,H2 b=some u->b≠s2.heap.objs.size:=λb u e z=>by rw[z,fD] at e;cases e
 refine I2.JJ (s':={s' with heap:=h'}) (ch:=fp) os ⟨λb o e m hb hx=>?_,λb o e m hb hx=>?_,λb o e m hx=>?_,λb o e hx=>?_,λb xs e=>?_,λb o u e=>?_,λb ps e=>?_⟩ (λb u e=>?_) bare λb hb=>?_
 ·exact(hs.2 b (NX b o e)).trans (un.keep b o e m hb hx)
 ·obtain⟨sl,q⟩:=un.slot b o e m hb hx
  exact⟨sl,(hs.2 b (NX b o e)).trans q⟩
 ·rw[aD (Xj b o e)]
  exact un.free b o e m hx
 ·obtain⟨o',q⟩:=un.there b o e hx
  exact⟨o',(hs.2 b (NX b o e)).trans q⟩
 ·rw[aD (t2 b _ e)]
  exact un.jP b xs e
 ·rw[aD (t2 b _ e)]
  exact un.iQ b o u e
 ·obtain⟨mo,q⟩:=un.jQ b ps e
  exact⟨mo,by rw[aD (t2 b _ e)];exact q⟩
 ·by_cases hb:b=s2.heap.objs.size
  ·subst hb
   rw[aq] at e
   cases e
   exact⟨sz,br,n,vl,(hs.2 _ (aai hC)).trans hD⟩
  ·rw[aD hb] at e
   exact(bP b u e).t9 (λc v hc q=>(hs.2 c (by
    rcases hc with rfl | hc
    ·exact tC _ _ e
    ·exact tC _ _ hc)).trans q) (λc r=>by rw[aD (tk _ _ r)];exact r) λc xs r=>by rw[aD (tk _ _ r)];exact r
 ·exact⟨(f2 b hb).2.2.2.1,(f2 b hb).2.1,(f2 b hb).2.2.2.2.1,(f2 b hb).2.2.2.2.2⟩
noncomputable def tComp (wi:TI) (g:TG) (tc:TT) (te:TE) (k:Nat) (fr:List Nat):TE:=λσ H Q=>wi σ H λJ H1=>ij J g tc te (stC k fr σ) H1 λys H2=>∀D,H1 D=none->H2 D=none->Q (.ref D) (upd H2 D (.lst ys))
theorem dA {elt target iter:Expr} {ifs:List Expr} {scope so:Scope} {pos:Pos} {wi:TI} {g:TG} {tc:TT} {te:TE} {k:Nat} {fr:List Nat} {N N':List Str} (hc:X.calm=true) (hN:X.N=N) (J9:X.env.scope=so) (S:eK N so N' scope k fr)
  (hi:PI X target iter wi) (hg:∀cl C s H ex,PG (lC X N' scope cl C s H ex) target g) (ht:∀cl C s H ex,FT (lC X N' scope cl C s H ex) ifs tc) (he:∀cl C s H ex,PE (lC X N' scope cl C s H ex) elt te)
  (hs:∀x,foldedSetIterable iter X.env x=pure x:=by intro _;rfl):PE X (.ListComp elt [⟨target,iter,ifs,0⟩] scope pos) (tComp wi g tc te k fr):=by
 subst hN J9
 intro pins s σ H Q I h
 rw[eval_ListComp]
 obtain⟨cl,vg,c1,c2,c3⟩:=gI (env:=X.env) (scope:=scope) λn hn=>I.ok.has n (S.outer _ hn rfl)
 refine wpAny_comprehension_free (use:=none) (cl:=cl) rfl hs vg S.kind S.locs ?_
 refine cG (hi pins s σ H _ I h) λv s1 h1=>cG h1 λDV s2 h2=>?_
 obtain⟨it,fp,tn,J,H2,rfl,I2,T,xm,f2,hb⟩:=h2
 refine tE (RR:=λacc C=>compPost (model X.prog X.w) X.A X.xe none (EP X pins σ Q) acc C) hc S c1 c2 (λx c m=>⟨x,(c3 x c m).1⟩) (λx hx c m=>(S.El _ hx rfl).2 (c3 x c m).2) (XE:=λ_ _ _ _ _ _ _=>False) hg ht he I2 T xm f2 hb ?_ (λ_ _ _ _ _ z=>False.elim z)
 intro C s' m ys br n H' hC hn vl sz hD nD nC fin os bare un bP
 exact⟨m,hn,λh' Er=>⟨.ref _,_,comp_back I2 f2 hC vl sz hD nD nC os bare un bP Er,rfl,fin _ (I2.bP.fresh (aaf _)) nD⟩⟩
theorem uu {elt target iter:Expr} {ifs:List Expr} {scope so:Scope} {pos Ka py:Pos} {wi:TI} {g:TG} {tc:TT} {te:TE} {k:Nat} {fr:List Nat} {N N':List Str} {y:Str} {i:Nat} (hc:X.calm=true) (hN:X.N.Nodup) (hy:X.N[i]?=some y) (hl:X.env.scope.names.lookup y=some .local)
  (Xk:X.N=N) (J9:X.env.scope=so) (S:eK N so N' scope k fr)
  (hi:PI X target iter wi) (hg:∀cl C s H ex,PG (lC X N' scope cl C s H ex) target g) (ht:∀cl C s H ex,FT (lC X N' scope cl C s H ex) ifs tc) (he:∀cl C s H ex,PE (lC X N' scope cl C s H ex) elt te)
  (Xl:swapsWith (.ListComp elt [⟨target,iter,ifs,0⟩] scope pos) (some (.Name y py)) Ka.line X.env=pure true:=by rfl)
  (hs:∀x,foldedSetIterable iter X.env x=pure x:=by intro _;rfl):PS X (.Assign [.Name y py] (.ListComp elt [⟨target,iter,ifs,0⟩] scope pos) Ka) (tAsg (tComp wi g tc te k fr) (gName i)):=by
 subst Xk J9
 intro pins s σ H D I h
 rw[exec_Assign_Name_used _ _ _ _ Xl]
 obtain⟨cl,vg,c1,c2,c3⟩:=gI (env:=X.env) (scope:=scope) λn hn=>I.ok.has n (S.outer _ hn rfl)
 refine wpAny_bind (wpAny_standAt (wpAny_bind ?_))
 show wpAny _ X.A (do let _ <-comprehension (.ListComp elt [⟨target,iter,ifs,0⟩] scope pos) scope X.env _ (newList []) false (eval iter X.env) (some (assign (.Name y py) X.env))) _ _ s
 refine wpAny_bind (wpAny_mono (wpAny_comprehension_free (use:=some (assign (.Name y py) X.env)) (Q:=λ_ s'=>SP X pins D .next s') (cl:=cl) rfl hs vg S.kind S.locs ?_) (λ_ s' hq=>wpAny_pure (wpAny_pure hq)) λ_ _ e=>e)
 refine cG (hi pins s σ H _ I h) λv s1 h1=>cG h1 λDV s2 h2=>?_
 obtain⟨it,fp,tn,J,H2,rfl,I2,T,xm,f2,hb⟩:=h2
 refine tE (RR:=λacc C=>compPost (model X.prog X.w) X.A X.xe (some (assign (.Name y py) X.env)) (λ_ s'=>SP X pins D .next s') acc C) hc S c1 c2 (λx c m=>⟨x,(c3 x c m).1⟩) (λx hx c m=>(S.El _ hx rfl).2 (c3 x c m).2) (XE:=λ_ _ _ _ _ _ _=>False) hg ht he I2 T xm f2 hb ?_ (λ_ _ _ _ _ z=>False.elim z)
 intro C s' m ys br n H' hC hn vl sz hD nD nC fin os bare un bP
 have I3:Inv X pins σ (upd H' s2.heap.objs.size (.lst ys)) s':=comp_back (h':=s'.heap) I2 f2 hC vl sz hD nD nC os bare un bP (.refl ..)
 refine wpAny_assign_Name (sS (v:=.ref s2.heap.objs.size) I3 hN hy (.inl hl) rfl (λs4 I4 ch=>?_) (.inr hl))
 have Vd:X.env.locals<s2.heap.objs.size:=I2.lt
 obtain⟨a,tF,ha⟩:=ch
 have aC:a≠C:=by
  rcases ha with rfl | ha
  ·exact aai (Nat.lt_trans Vd hC)
  ·obtain⟨v,q⟩:=I2.cell _ _ ha
   exact aai (Nat.lt_trans q.lt hC)
 refine⟨m,hn.sameBut tF (Ne.symm aC),λh' Er=>⟨_,_,?_,fin _ (I2.bP.fresh (aaf _)) nD⟩⟩
 have MM:(upd H' s2.heap.objs.size (.lst ys)) C=none:=by rw[aD (aaM hC)];exact nC
 exact I4.turned (t':=s4.toks) (it:=C) (h':=h') (λb o hb e=>(Er.2 b hb).trans e) MM (aaM (Nat.lt_trans Vd hC)) (.inr (aal I2.sz (Nat.le_of_lt hC))) (λx c e z=>by
  obtain⟨v,q⟩:=I2.cell x c e
  exact absurd (Nat.lt_trans q.lt hC) (by rw[z];exact aaz _)) (λp hp z=>by
  have:=Heap.lt_size (I2.pin p hp).1
  rw[z] at this
  exact absurd (Nat.lt_trans this hC) (aaz _))
end
structure Src (J:It) (Ok:Hp->Prop) (n:Nat) (Item:Nat->V->Hp->Hp->Prop):Prop where
 go:∀i H,i<n->Ok H->J.go i H
 w6:∀i H x H3,i<n->Ok H->J.w6 i H x H3->Item i x H H3
 stop:∀H,Ok H->J.stop n H
theorem src_list {K:PySem.W.Frag} {a:Addr} {xs:List V} {Ok:Hp->Prop} (h:∀H,Ok H->bL K H a xs):Src (Jb K a) Ok xs.length (λi x H H3=>H3=H/\xs[i]?=some x) where
 go:=λi H hi ok=>⟨xs,xs[i],h H ok,by simp [hi]⟩
 w6:=λi H x H3 hi ok ⟨e,y⟩=>⟨e,y xs (h H ok)⟩
 stop:=λH ok=>⟨xs,h H ok,aaf _⟩
theorem src_range {lo:Int} {n:Nat} {Ok:Hp->Prop}:Src (JL lo n) Ok n (λi x H H3=>H3=H/\x=.int (lo+i)) where
 go:=λ_ _ hi _=>hi
 w6:=λ_ _ _ _ _ _ y=>y
 stop:=λ_ _=>aaf _
theorem Ar {J:It} {g:TG} {tc:TT} {te:TE} {σ0:St} {H1:Hp} {fin:List V->Hp->Prop} {n:Nat} {Item:Nat->V->Hp->Hp->Prop} (S:Src J (aw H1) n Item) (Hr:St->Prop) (h0:Hr σ0) (P:Nat->List V->Hp->Prop) (p0:P 0 [] H1) (hz:n<=sizeLine)
  (hs:∀i x σ H ys H3 (Q:St->V->Hp->Prop) (N:St->Hp->Prop),i<n->aw H1 H->P i ys H->ys.length<=i->Hr σ->Item i x H H3->
   (∀σ3 y H6,Hr σ3->aw H1 H6->P (i+1) (ys++ [y]) H6->Q σ3 y H6)->(∀σ3 H5,Hr σ3->aw H1 H5->P (i+1) ys H5->N σ3 H5)->
   g x σ H3 λσ3 H4=>tc σ3 H4 λb H5=>if b=true then te σ3 H5 λy H6=>Q σ3 y H6 else N σ3 H5)
  (qg:∀ys H,aw H1 H->P n ys H->ys.length<=n->fin ys H):ij J g tc te σ0 H1 fin:=by
 refine⟨λi m ys σ H=>m=n - i/\i<=n/\ys.length<=i/\Hr σ/\aw H1 H/\P i ys H,⟨n,by simp,aah _,aaf _,h0,aw.refl _,p0⟩,?_⟩
 rintro i m ys σ H ⟨rfl,hi,hl,ow,sm,p⟩
 by_cases ig:i<n
 ·refine .inr ⟨S.go i H ig sm,λx H3 y=>hs i x σ H ys H3 (λσ3 y H6=>ys.length<sizeLine/\∃m',m'<n - i/\m'=n - (i+1)/\i+1<=n/\(ys++ [y]).length<=i+1/\Hr σ3/\aw H1 H6/\P (i+1) (ys++ [y]) H6)
   (λσ3 H5=>∃m',m'<n - i/\m'=n - (i+1)/\i+1<=n/\ys.length<=i+1/\Hr σ3/\aw H1 H5/\P (i+1) ys H5) ig sm p hl ow (S.w6 i H x H3 ig sm y) (λσ3 y H6 o s6 q=>?_) (λσ3 H5 o s5 q=>?_)⟩
  ·exact⟨by omega,n - (i+1),by omega,rfl,ig,by rw[aak,aaI];omega,o,s6,q⟩
  ·exact⟨n - (i+1),by omega,rfl,ig,by omega,o,s5,q⟩
 ·have e:i=n:=by omega
  subst e
  exact .inl ⟨S.stop H sm,qg ys H sm p hl⟩
theorem comp_map {J:It} {te:TE} {tl:St} {H1:Hp} {fin:List V->Hp->Prop} {n:Nat} {Item:Nat->V->Hp->Hp->Prop} (S:Src J (aw H1) n Item) (sub:∀i x H H3,Item i x H H3->aw H H3) (hz:n<=sizeLine)
  (R:Nat->V->Hp->Prop) (mono:∀i y H H',aw H H'->R i y H->R i y H')
  (hs:∀i x w H H3 (Q:VK),i<n->aw H1 H->Item i x H H3->(∀y H6,aw H3 H6->R i y H6->Q y H6)->te ((w::tl).set 0 (some x)) H3 Q)
  (qg:∀ys H,aw H1 H->ys.length=n->(∀i y,ys[i]?=some y->R i y H)->fin ys H):ij J (gName 0) uq te (none::tl) H1 fin:=by
 refine⟨λi m ys σ H=>m=n - i/\i<=n/\ys.length=i/\(∃w,σ=w::tl)/\aw H1 H/\∀j y,ys[j]?=some y->R j y H,⟨n,by simp,aah _,rfl,⟨_,rfl⟩,aw.refl _,λj y e=>by simp at e⟩,?_⟩
 rintro i m ys σ H ⟨rfl,hi,hl,⟨w,rfl⟩,sm,p⟩
 by_cases ig:i<n
 ·refine .inr ⟨S.go i H ig sm,λx H3 y=>?_⟩
  have it:=S.w6 i H x H3 ig sm y
  have s3:=sub i x H H3 it
  unfold gName uq
  refine Hg ?_
  refine hs i x w H H3 _ ig sm it λy H6 s6 r=>⟨by omega,n - (i+1),by omega,rfl,ig,by rw[aak,aaI];omega,⟨_,rfl⟩,sm.trans (s3.trans s6),λj z e=>?_⟩
  by_cases hj:j<i
  ·rw[aa2 (by omega)] at e
   exact mono j z _ _ (s3.trans s6) (p j z e)
  ·rw[aa5 (by omega)] at e
   have e2:j - ys.length=0:=by
    by_cases q:j - ys.length=0
    ·exact q
    ·rw[List.getElem?_eq_none (by simp;omega)] at e;cases e
   rw[e2] at e
   simp at e
   subst e
   have:j=i:=by omega
   subst this
   exact r
 ·have e:i=n:=by omega
  subst e
  exact .inl ⟨S.stop H sm,qg ys H sm hl p⟩
noncomputable def FV (J:It) (g:TG) (tb:TS) (D:Ends) (σ:St) (H:Hp):Prop:=
 ∃W:Nat->Nat->St->Hp->Prop,(∃m,W 0 m σ H)/\∀i m σ H,W i m σ H->
  (J.stop i H/\D.nx σ H)\/(J.go i H/\∃N:St->Hp->Prop,(∀σ' H',N σ' H'->∃m',m'<m/\W (i+1) m' σ' H')/\∀x H',J.w6 i H x H'->g x σ H' λσ2 H2=>tb {D with nx:=N,ct:=N,bk:=D.nx} σ2 H2)
theorem tFor_eq {wi:TI} {g:TG} {tb:TS} {D:Ends} {σ:St} {H:Hp}:JM wi g tb D σ H=wi σ H λJ H1=>FV J g tb D σ H1:=rfl
theorem bX {J:It} {g:TG} {tb:TS} {D:Ends} {σ:St} {H:Hp} {n:Nat} {Item:Nat->V->Hp->Hp->Prop} {Ok:Hp->Prop} (S:Src J Ok n Item) (Pv:Nat->St->Hp->Prop) (h0:Pv 0 σ H) (bP:∀i σ H,i<=n->Pv i σ H->Ok H)
  (hs:∀i x σ H H3,i<n->Pv i σ H->Item i x H H3->g x σ H3 λσ2 H2=>tb {D with nx:=Pv (i+1),ct:=Pv (i+1),bk:=D.nx} σ2 H2) (hd:∀σ H,Pv n σ H->D.nx σ H):FV J g tb D σ H:=by
 refine⟨λi m σ H=>m=n - i/\i<=n/\Pv i σ H,⟨n,by simp,aah _,h0⟩,?_⟩
 rintro i m σ H ⟨rfl,hi,p⟩
 by_cases ig:i<n
 ·exact .inr ⟨S.go i H ig (bP i σ H hi p),Pv (i+1),λσ' H' p'=>⟨n - (i+1),by omega,rfl,ig,p'⟩,λx H' y=>hs i x σ H H' ig p (S.w6 i H x H' ig (bP i σ H hi p) y)⟩
 ·have e:i=n:=by omega
  subst e
  exact .inl ⟨S.stop H (bP i σ H hi p),hd σ H p⟩
theorem tG {K:PySem.W.Frag} {J:It} {te:TE} {tl:St} {H1:Hp} {fin:List V->Hp->Prop} {n:Nat} {Item:Nat->V->Hp->Hp->Prop} (S:Src J (aw H1) n Item) (Kb:Nat->V->V->Hp->Prop)
  (tp:∀i x H H3,i<n->aw H1 H->Item i x H H3->aw H H3/\∃p a b,x=.ref p/\lg K H3 p [a,b]/\Kb i a b H3) (hz:n<=sizeLine)
  (R:Nat->V->Hp->Prop) (mono:∀i y H H',aw H H'->R i y H->R i y H')
  (hs:∀i a b H3 (Q:VK),i<n->aw H1 H3->Kb i a b H3->(∀y H6,aw H3 H6->R i y H6->Q y H6)->te (some a::some b::tl) H3 Q)
  (qg:∀ys H,aw H1 H->ys.length=n->(∀(i:Nat) y,ys[i]?=some y->R i y H)->fin ys H):ij J (DU K 2 (gCons (gName 0) (gCons (gName 1) gNil))) uq te (none::none::tl) H1 fin:=by
 refine⟨λi m ys σ H=>m=n - i/\i<=n/\ys.length=i/\(∃w w',σ=w::w'::tl)/\aw H1 H/\∀(j:Nat) y,ys[j]?=some y->R j y H,⟨n,by simp,aah _,rfl,⟨_,_,rfl⟩,aw.refl _,λj y e=>by simp at e⟩,?_⟩
 rintro i m ys σ H ⟨rfl,hi,hl,⟨w,w',rfl⟩,sm,p⟩
 by_cases ig:i<n
 ·refine .inr ⟨S.go i H ig sm,λx H3 y=>?_⟩
  obtain⟨s3,q,a,b,rfl,sq,it⟩:=tp i x H H3 ig sm (S.w6 i H x H3 ig sm y)
  refine⟨q,_,rfl,sq,rfl,_,_,rfl,_,_,rfl,rfl,?_⟩
  unfold uq
  refine Hg ?_
  refine hs i a b H3 _ ig (sm.trans s3) it λy H6 s6 r=>⟨by omega,n - (i+1),by omega,rfl,ig,by rw[aak,aaI];omega,⟨_,_,rfl⟩,sm.trans (s3.trans s6),λj z e=>?_⟩
  by_cases hj:j<i
  ·rw[aa2 (by omega)] at e
   exact mono j z _ _ (s3.trans s6) (p j z e)
  ·rw[aa5 (by omega)] at e
   have e2:j - ys.length=0:=by
    by_cases q:j - ys.length=0
    ·exact q
    ·rw[List.getElem?_eq_none (by simp;omega)] at e;cases e
   rw[e2] at e
   simp at e
   subst e
   have:j=i:=by omega
   subst this
   exact r
 ·have e:i=n:=by omega
  subst e
  exact .inl ⟨S.stop H sm,qg ys H sm hl p⟩
end L2
namespace L2
open PySem PySem.Spec PyProof.Rows
section
variable {X : Cx} {pins : List (Addr × Obj)} {σ : St} {H : Hp} {s : Shared}
theorem Inv.moved {h':Heap} {t':Nat} {ch:List Addr} (I:Inv X pins σ H s) (f:∀b∈ch,iU X pins H b) (k:∀b o,b∉ch->s.heap.get? b=some o->h'.get? b=some o):Inv X pins σ H {s with heap:=h',toks:=t'}:=by
 have FD:∀b u,H b=some u->b∉ch:=λb u e z=>by rw[(f b z).1] at e;cases e
 refine I.step (g':=s.gens) (d':=s.drawn) (ch:=ch) (λb hb=>⟨(f b hb).2.2.2.1,(f b hb).2.1,(f b hb).2.2.2.2.1,(f b hb).2.2.2.2.2⟩) (λb o _ _ hc e _=>k b o hc e) (λb o _ _ hc e _=>⟨o.slots,k b o hc e⟩) (λ_ _ _ _ n=>n)
  (λb o hc e=>⟨o,k b o hc e⟩) (λ_ _ e=>e) (λ_ _ _ e=>e) (λb ps e=>⟨#[],by rw[e];simp⟩) (λm hm=>?_) (λb u e=>?_) I.bare
 ·obtain⟨o,es,ep,ho,r⟩:=hm
  exact⟨o,es,ep,k _ o (λz=>(f _ z).2.1 rfl) ho,r⟩
 ·refine(I.bP b u e).t9 (λc v hc q=>k c v ?_ q) (λ_ q=>q) λ_ _ q=>q
  rcases hc with z | z
  ·rw[z];exact FD b u e
  ·exact FD c _ z
theorem Inv.take {ad:Addr} {o:HO} (I:Inv X pins σ H s) (f:iU X pins H ad) (new:X.s₀.heap.objs.size<=ad) (ok:cA X.prog X.w (upd H ad o) s.heap ad o):Inv X pins σ (upd H ad o) s:=by
 obtain⟨hn,nL,nf,_,nc,np⟩:=f
 have tk:∀b u,H b=some u->b≠ad:=λb u e z=>by rw[z,hn] at e;cases e
 refine⟨I.ok,I.os,I.bare,⟨I.base.keep,I.base.slot,λb ob e m hx=>?_,I.base.there,λb xs e=>?_,λb ob u e=>?_,λb ps e=>?_⟩,I.loc,I.cell,?_,λx c e=>?_,λp hp=>?_,λb u e=>?_,I.len⟩
 ·rw[aD (aai (aas (Heap.lt_size e) new))]
  exact I.base.free b ob e m hx
 ·have q:=I.base.jP b xs e
  rw[aD (tk b _ q)];exact q
 ·have q:=I.base.iQ b ob u e
  rw[aD (tk b _ q)];exact q
 ·obtain⟨mo,q⟩:=I.base.jQ b ps e
  exact⟨mo,by rw[aD (tk b _ q)];exact q⟩
 ·rw[aD (Ne.symm nL)];exact I.free
 ·rw[aD (nc x c e)];exact I.iR x c e
 ·obtain⟨a,b,c⟩:=I.pin p hp
  exact⟨a,by rw[aD (np p hp)];exact b,c⟩
 ·by_cases hb:b=ad
  ·subst hb
   rw[aq] at e
   cases e
   exact ok
  ·rw[aD hb] at e
   exact(I.bP b u e).t9 (λ_ _ _ q=>q) (λc r=>by rw[aD (tk _ _ r)];exact r) λc xs r=>by rw[aD (tk _ _ r)];exact r
end
noncomputable def Xm (K:PySem.W.Frag) (a b:Addr):It:=
 ⟨λi H=>∃xs ys x y,bL K H a xs/\bL K H b ys/\xs[i]?=some x/\ys[i]?=some y,
  λi H v H'=>∃p,H p=none/\v=.ref p/\∃x y,(∀xs,bL K H a xs->xs[i]?=some x)/\(∀ys,bL K H b ys->ys[i]?=some y)/\H'=upd H p (.tup [x,y]),
  λi H=>∃xs ys,bL K H a xs/\bL K H b ys/\(i=min xs.length ys.length)⟩
noncomputable def NY (K:PySem.W.Frag) (a:Addr):It:=
 ⟨λi H=>∃xs x,bL K H a xs/\xs[i]?=some x,
  λi H v H'=>∃p,H p=none/\v=.ref p/\∃x,(∀xs,bL K H a xs->xs[i]?=some x)/\H'=upd H p (.tup [.int i,x]),
  λi H=>∃xs,bL K H a xs/\xs.length=i⟩
theorem As {P:Program} {w:World} {K:PySem.W.Frag} {elts:List Expr} {k:Nat} {pos:Pos} (e it a:Addr) (Ve:e≠it) (hle:a≠e) (Vf:a≠it):
  Turn P w K (.Tuple elts k pos) (NY K a) [e,it] e (λi h=>(∃old,IsEnum h e it i old)/\h.IsListIter it a i) where
 mem:=by simp
 obj:=λi h st c hc=>by
  obtain⟨⟨old,he⟩,⟨o1,e1,_,d1⟩⟩:=st
  simp only[aaD,aaV,or_false] at hc
  rcases hc with rfl | rfl
  ·exact⟨_,he,λv q=>by cases q⟩
  ·exact⟨_,e1,λv q=>by rw[d1] at q;cases q⟩
 keep:=λi h h' st kp=>by
  obtain⟨⟨old,he⟩,h1⟩:=st
  exact⟨⟨old,kp e (by simp) _ he⟩,h1.at λo q=>kp it (by simp) o q⟩
 item:=by
  intro X hP hw hK hc i pins s σ H E I hf st hg
  subst hP hw hK
  obtain⟨xs,x,Es,hx⟩:=hg
  obtain⟨rV,r1,p1,z1⟩:=I.list Es
  obtain⟨u,eu,ru⟩:=r1.get hx
  obtain⟨he,h1⟩:=st
  have W:=WalksT.enumerate (prog:=X.prog) (w:=X.w) (I.ok.hd hc) e it a Ve hle Vf rV.toArray
  have li:i<rV.toArray.size:=by
   have a1:=(List.getElem?_eq_some_iff.mp eu).1
   simp only[aan]
   omega
  refine W.item i s _ _ li ⟨he,h1,p1.isList⟩ λT vals h' tk Xn hT hI hm kk=>?_
  have I1:Inv X pins σ H {s with heap:=h',toks:=tk}:=I.moved (ch:=[e,it]) hf kk
  have fT:iU X pins H T:=I.zY hT (I.bP.fresh hT)
  refine⟨_,rfl,W.go elts k pos i T _ _ _ hm λFW xm Vg=>?_⟩
  have I2:Inv X pins σ H {s with heap:=FW,toks:=tk}:=I1.moved (s:={s with heap:=h',toks:=tk}) (t':=tk) (ch:=[e,it]) hf Vg
  obtain⟨t,x',ex,rfl⟩:=Xn
  have Np:rV[i]?=some x':=by simpa using ex
  rw[eu] at Np;cases Np
  have Xo:=W.apart _ _ _ hm
  obtain⟨oT,eT,cT,nT,dT⟩:=hI
  have NZ:IsTup FW T #[.int i t,u]:=⟨oT,Vg _ _ Xo eT,cT,nT,dT⟩
  have I3:Inv X pins σ (upd H T (.tup [.int i,x])) {s with heap:=FW,toks:=tk}:=
   I2.take fT (aal I.sz hT) ⟨by show 2<=sizeLine;decide,[.int i t,u],.cons ⟨t,rfl⟩ (.cons ru .nil),NZ⟩
  obtain⟨b1,b2,_⟩:=xm
  refine⟨.ref T,_,I3,rfl,⟨T,fT.1,rfl,x,λXp q=>?_,rfl⟩,⟨b1,b2⟩,λc hc=>?_⟩
  ·rw[I.iT q Es];exact hx
  ·rw[aD (λq=>?_)]
   ·exact(hf c hc).1
   ·subst q
    obtain⟨o,e,_⟩:∃o,s.heap.get? c=some o/\True:=by
     simp only[aaD,aaV,or_false] at hc
     obtain⟨old,he⟩:=he
     obtain⟨o1,e1,_⟩:=h1
     rcases hc with rfl | rfl
     ·exact⟨_,he,trivial⟩
     ·exact⟨_,e1,trivial⟩
    exact absurd (Heap.lt_size e) (Nat.not_lt.mpr hT)
 done:=by
  intro X hP hw hK hc i pins s σ H E I hf st hg
  subst hP hw hK
  obtain⟨xs,Es,hi⟩:=hg
  obtain⟨rV,r1,p1,z1⟩:=I.list Es
  obtain⟨he,h1⟩:=st
  have W:=WalksT.enumerate (prog:=X.prog) (w:=X.w) (I.ok.hd hc) e it a Ve hle Vf rV.toArray
  have l1:=r1.length
  have e:i=rV.toArray.size:=by simp only[aan];omega
  subst e
  exact W.done s _ _ ⟨he,h1,p1.isList⟩ λh' tk kk=>⟨rfl,I.moved (ch:=[_,it]) hf kk⟩
 self:=λ_ _ _ _ _ st h=>by
  obtain⟨⟨old,he⟩,_⟩:=st
  exact wpAny_pyIter_enum he h
section
variable {X : Cx} {elts : List Expr} {kk : Nat} {rR : Pos}
noncomputable def iZip (K:PySem.W.Frag) (ta:TA):TI:=λσ H R=>ta σ H λvs H1=>∃a b,vs=[.ref a,.ref b]/\(∃xs,bL K H1 a xs)/\(∃ys,bL K H1 b ys)/\R (Xm K a b) H1
noncomputable def iEnum (K:PySem.W.Frag) (ta:TA):TI:=λσ H R=>ta σ H λvs H1=>∃a,vs=[.ref a]/\(∃xs,bL K H1 a xs)/\R (NY K a) H1
theorem uv {a:Expr} {ta:TA} {p pos:Pos} (hg:Gl X "enumerate") (hm:X.mg "enumerate"=none) (ha:PA X [a] ta) (hs:starEach [a] X.env=[(false,eval a X.env)]:=by rfl):
  PI X (.Tuple elts kk rR) (.Call (.Name "enumerate" p) [a] [] pos) (iEnum X.K ta):=by
 intro pins s σ H R I h
 refine Call_ (hZ I hg hm rfl (PyProof.Rows.callWith_type1 (cG (ha pos pins s σ H _ I h) λus s1 ⟨vs,H1,I1,r1,q1⟩=>?_) hs rfl))
 obtain⟨a,e,⟨xs,q1⟩,q⟩:=q1
 subst e
 obtain⟨u,rfl,ra⟩:=vals1 r1
 cases ra
 obtain⟨rV,v1,p1,z1⟩:=I1.list q1
 refine call_enumerate_list p1.isList λh' b1 b2 b3 kp=>?_
 refine wpAny_pyIter_enum b1 ?_
 have I2:Inv X pins σ H1 {s1 with heap:=h'}:=I1.kept (t':=s1.toks) kp
 have la:a<s1.heap.objs.size:=by obtain⟨o,e,_⟩:=p1.isList;exact Heap.lt_size e
 refine⟨s1.heap.objs.size+1,[s1.heap.objs.size+1,s1.heap.objs.size],_,_,H1,rfl,I2,
  As (s1.heap.objs.size+1) s1.heap.objs.size a (aaM (aaT _)) (aai (Nat.lt_succ_of_lt la)) (aai la),⟨⟨_,b1⟩,b2⟩,λc hc=>?_,q⟩
 have Kc:s1.heap.objs.size<=c:=by
  simp only[aaD,aaV,or_false] at hc
  rcases hc with rfl | rfl <;>omega
 exact I1.zY Kc (I1.bP.fresh Kc)
end
theorem BN {K:PySem.W.Frag} {a:Addr} {xs:List V} {Ok:Hp->Prop} (h1:∀H,Ok H->bL K H a xs):
  Src (NY K a) Ok xs.length (λi v H H3=>∃p x,H p=none/\v=.ref p/\xs[i]?=some x/\H3=upd H p (.tup [.int i,x])) where
 go:=λi H hi ok=>⟨xs,xs[i],h1 H ok,by simp [hi]⟩
 w6:=λi H x H3 hi ok ⟨p,n,e,u,e1,e3⟩=>⟨p,u,n,e,e1 xs (h1 H ok),e3⟩
 stop:=λH ok=>⟨xs,h1 H ok,rfl⟩
end L2
namespace L2
open PySem PySem.Spec PyProof.Rows
inductive Dat where
 | cZ | bl (b:Bool) | int (i:Int) | str (x:Str) | tup (l:List Dat) | lst (l:List Dat)
mutual
noncomputable def Rep (H:Hp):Dat->V->Prop
 | .cZ,v=>v=.cZ
 | .bl b,v=>v=.bl b
 | .int i,v=>v=.int i
 | .str x,v=>v=.str x
 | .tup ds,v=>∃p vs,v=.ref p/\H p=some (.tup vs)/\bb H ds vs
 | .lst ds,v=>∃p vs,v=.ref p/\H p=some (.lst vs)/\bb H ds vs
noncomputable def bb (H:Hp):List Dat->List V->Prop
 | [],vs=>vs=[]
 | d::ds,vs=>∃v r,vs=v::r/\Rep H d v/\bb H ds r
end
mutual
theorem Rep.mono {H H':Hp} (s:aw H H'):∀{d:Dat} {v:V},Rep H d v->Rep H' d v
 | .cZ,_,h=>by rw[Rep] at *;exact h
 | .bl _,_,h=>by rw[Rep] at *;exact h
 | .int _,_,h=>by rw[Rep] at *;exact h
 | .str _,_,h=>by rw[Rep] at *;exact h
 | .tup _,_,h=>by
  rw[Rep] at *
  obtain⟨p,vs,e,hp,r⟩:=h
  exact⟨p,vs,e,s _ _ hp,bb.mono s r⟩
 | .lst _,_,h=>by
  rw[Rep] at *
  obtain⟨p,vs,e,hp,r⟩:=h
  exact⟨p,vs,e,s _ _ hp,bb.mono s r⟩
theorem bb.mono {H H':Hp} (s:aw H H'):∀{ds:List Dat} {vs:List V},bb H ds vs->bb H' ds vs
 | [],_,h=>by rw[bb] at *;exact h
 | _::_,_,h=>by
  rw[bb] at *
  obtain⟨v,r,e,h1,h2⟩:=h
  exact⟨v,r,e,Rep.mono s h1,bb.mono s h2⟩
end
theorem bb.length {H:Hp}:∀{ds:List Dat} {vs:List V},bb H ds vs->ds.length=vs.length
 | [],_,h=>by rw[bb] at h;subst h;rfl
 | _::_,_,h=>by
  rw[bb] at h
  obtain⟨v,r,rfl,_,h2⟩:=h
  simp [h2.length]
theorem bb.get {H:Hp}:∀{ds:List Dat} {vs:List V} {i:Nat} {v:V},bb H ds vs->vs[i]?=some v->∃d,ds[i]?=some d/\Rep H d v
 | [],_,i,v,h,e=>by rw[bb] at h;subst h;simp at e
 | d::ds,_,i,v,h,e=>by
  rw[bb] at h
  obtain⟨v',r,rfl,h1,h2⟩:=h
  cases i with
  | zero=>simp at e;subst e;exact⟨d,rfl,h1⟩
  | succ i=>simp at e;obtain⟨d',e',r'⟩:=h2.get e;exact⟨d',by simpa using e',r'⟩
theorem bb.at {H:Hp}:∀{ds:List Dat} {vs:List V} {i:Nat} {d:Dat},bb H ds vs->ds[i]?=some d->∃v,vs[i]?=some v/\Rep H d v
 | [],_,i,v,h,e=>by simp at e
 | d::ds,_,i,d',h,e=>by
  rw[bb] at h
  obtain⟨v',r,rfl,h1,h2⟩:=h
  cases i with
  | zero=>simp at e;subst e;exact⟨v',rfl,h1⟩
  | succ i=>simp at e;obtain⟨v,e',r'⟩:=h2.at e;exact⟨v,by simpa using e',r'⟩
theorem bb.of {H:Hp}:∀{ds:List Dat} {vs:List V},ds.length=vs.length->(∀(i:Nat) d v,ds[i]?=some d->vs[i]?=some v->Rep H d v)->bb H ds vs
 | [],[],_,_=>by rw[bb]
 | [],_::_,h,_=>by simp at h
 | _::_,[],h,_=>by simp at h
 | d::ds,v::vs,h,k=>by
  rw[bb]
  exact⟨v,vs,rfl,k 0 d v rfl rfl,bb.of (by simpa using h) λi d' v' e1 e2=>k (i+1) d' v' (by simpa using e1) (by simpa using e2)⟩
theorem bb.append {H:Hp}:∀{as bs:List Dat} {us vs:List V},bb H as us->bb H bs vs->bb H (as++bs) (us++vs)
 | [],_,_,_,h,k=>by rw[bb] at h;subst h;exact k
 | _::_,_,_,_,h,k=>by
  rw[bb] at h
  obtain⟨v,r,rfl,h1,h2⟩:=h
  show bb H (_::(_++_)) (_::(_++_))
  rw[bb]
  exact⟨_,_,rfl,h1,h2.append k⟩
theorem bb.ints {H:Hp}:∀(ns:List Int),bb H (ns.map Dat.int) (ns.map V.int)
 | []=>by simp only[aaC];rw[bb]
 | n::ns=>by
  simp only[aae]
  rw[bb]
  exact⟨_,_,rfl,by rw[Rep],bb.ints ns⟩
noncomputable def depth:Dat->Nat
 | .tup l=>1+dL l
 | .lst l=>1+dL l
 | _=>0
where dL:List Dat->Nat
 | []=>0
 | d::ds=>max (depth d) (dL ds)
section
variable {X : Cx} {pins : List (Addr × Obj)} {σ : St} {H : Hp} {s : Shared}
end
section
variable {X : Cx}
noncomputable def rNeT:R2:=λx y H Q=>∃p q xs ys,x=.ref p/\y=.ref q/\H p=some (.tup xs)/\H q=some (.tup ys)/\xs.all gy=true/\ys.all gy=true/\Q (.bl (!U0 xs ys)) H
end
end L2
namespace Nm
noncomputable def ins (x:Int):List Int->List Int
 | []=>[x]
 | y::r=>if x<=y then x::y::r else y::ins x r
noncomputable def uw:List Int->List Int
 | []=>[]
 | x::r=>ins x (uw r)
theorem qh (x:Int):∀l,(ins x l).Perm (x::l)
 | []=>.refl _
 | y::r=>by
  unfold ins
  split
  ·exact .refl _
  ·exact((qh x r).cons y).trans (.swap ..)
theorem mv:∀l,(uw l).Perm l
 | []=>.refl _
 | x::r=>(qh x _).trans ((mv r).cons x)
theorem za (x:Int):∀l:List Int,l.Pairwise (·<=·)->(ins x l).Pairwise (·<=·)
 | [],_=>by unfold ins;simp
 | y::r,h=>by
  unfold ins
  rw[List.pairwise_cons] at h
  split
  ·rename_i c
   rw[List.pairwise_cons,List.pairwise_cons]
   refine⟨λz hz=>?_,h.1,h.2⟩
   rcases List.mem_cons.mp hz with rfl | hz
   ·exact c
   ·have:=h.1 z hz;omega
  ·rename_i c
   rw[List.pairwise_cons]
   refine⟨λz hz=>?_,za x r h.2⟩
   rcases List.mem_cons.mp ((qh x r).mem_iff.mp hz) with rfl | hz
   ·omega
   ·exact h.1 z hz
theorem zb:∀l:List Int,(uw l).Pairwise (·<=·)
 | []=>by unfold uw;simp
 | x::r=>za x _ (zb r)
theorem iq (l:List Int):(uw l).length=l.length:=(mv l).length_eq
theorem zc:∀{a b:List Int},a.Perm b->a.Pairwise (·<=·)->b.Pairwise (·<=·)->a=b
 | [],b,p,_,_=>by simpa using p.symm.eq_nil
 | x::a,[],p,_,_=>by simpa using p.eq_nil
 | x::a,y::b,p,ha,hb=>by
  rw[List.pairwise_cons] at ha hb
  have e:x=y:=by
   have h1:y∈x::a:=p.mem_iff.mpr aap
   have h2:x∈y::b:=p.mem_iff.mp aap
   rcases List.mem_cons.mp h1 with h1 | h1
   ·exact h1.symm
   ·rcases List.mem_cons.mp h2 with h2 | h2
    ·exact h2
    ·have:=ha.1 y h1
     have:=hb.1 x h2
     omega
  subst e
  rw[zc ((List.perm_cons x).mp p) ha.2 hb.2]
theorem ux {a b:List Int} (p:a.Perm b) (o:a.Pairwise (·<=·)):a=uw b:=zc (p.trans (mv b).symm) o (zb b)
theorem Et {a:Int} {l:List Int}:a∈uw l↔a∈l:=(mv l).mem_iff
end Nm
namespace L2
open PySem PySem.Spec PyProof.Rows PySem.W
section
variable {X : Cx}
theorem xI {us:List Value} {ns:List Int} (h:IntsAre us ns):∃xs,us.toArray=intItems xs/\preSum (numAt xs) xs.size=ns.sum:=by
 obtain⟨xs,hx⟩:=h.allInts.items
 refine⟨xs,hx,?_⟩
 have e1:ns=xs.toList.map (·.1):=by
  rw[<-nums_intItems,<-hx]
  exact h.numsOf.symm
 rw[preSum_eq,aau (by simp),e1]
theorem xJ (hc:X.calm=true):di X (.builtin "sum") (λxs H Q=>∃p ns,xs=[.ref p]/\bL X.K H p (List.map V.int ns)/\Q (.int ns.sum) H):=by
 intro pins s σ H xs us Q I r h
 obtain⟨p,ns,rfl,hq,q⟩:=h
 obtain⟨u,rfl,rx⟩:=vals1 r
 cases rx
 obtain⟨br,rv,pl,hz⟩:=I.list hq
 obtain⟨ys,e1,e2⟩:=xI (intsAre_of rv)
 have hl:=pl.isList
 rw[e1] at hl
 refine sum_intListG (I.ok.hd hc) hl λh' tk t' hk=>⟨.int ns.sum,H,I.kept (t':=tk) hk,⟨t',?_⟩,q⟩
 rw[e2]
theorem iu {us:List Value} {ns:List Int} (h:IntsAre us ns):bF (ns.map V.int) us:=by
 induction h with
 | nil=>exact .nil
 | cons n t _ ih=>exact .cons ⟨t,rfl⟩ ih
theorem rW:di X (.builtin "sorted") (λxs H Q=>∃p ns,xs=[.ref p]/\bL X.K H p (List.map V.int ns)/\ns.length<64/\∀l,H l=none->Q (.ref l) (upd H l (.lst (List.map V.int (Nm.uw ns))))):=by
 intro pins s σ H xs us Q I r h
 obtain⟨p,ns,rfl,hq,hn,q⟩:=h
 obtain⟨u,rfl,rx⟩:=vals1 r
 cases rx
 obtain⟨br,rv,pl,hz⟩:=I.list hq
 have hl:=rv.length
 rw[aac] at hl
 refine sorted_ints pl.isList (intsAre_of rv) (by omega) λout Kf a1 a2 a3=>?_
 obtain rfl:=Nm.ux a2 a3
 obtain⟨e,he⟩:=sortedAll_at s.heap br out
 have fr:=I.bP.fresh (a:=s.heap.objs.size+1) (Nat.le_succ _)
 refine⟨.ref (s.heap.objs.size+1),_,I.laid (t':=s.toks) (λ_ _=>sortedAll_old) (Nat.le_succ _) (o:=.lst (List.map V.int (Nm.uw ns))) ⟨?_,out.toList,e,iu a1,?_⟩,rfl,q _ fr⟩
 ·rw[aac,Nm.iq,sizeLine_eq];omega
 ·exact he
noncomputable def kz (kvs:List (Key×V)):List Int:=kvs.map λp=>match p.1 with | .inl i=>i | .inr _=>0
noncomputable def allI (kvs:List (Key×V)):Prop:=∀p∈kvs,∃i,p.1=Sum.inl i
theorem rX (hc:X.calm=true):di X (.builtin "sorted") (λxs H Q=>∃d kvs,xs=[.ref d]/\Rd H d (.dK kvs)/\allI kvs/\kvs.length<64/\∀l,H l=none->Q (.ref l) (upd H l (.lst (List.map V.int (Nm.uw (kz kvs)))))):=by
 intro pins s σ H xs us Q I r h
 obtain⟨d,kvs,rfl,hd,An,hn,q⟩:=h
 obtain⟨u,rfl,rx⟩:=vals1 r
 cases rx
 obtain⟨hz,lo,vs,kv,dd⟩:=oY I.bP hd
 have hlen:kvs.length=vs.length:=Paired.length kv
 obtain⟨ep,FR⟩:=dd.dictAt
 refine Calls.call_function_entry kind_sorted plain_sorted entry_sorted (args_sorted1 _) ?_
 unfold Builtin.«sorted»
 refine wpAny_bind (m:=checkCount "sorted" 1 1 _) (wpAny_pure ?_)
 refine wpAny_bind (kdu_collect (A:=X.A.in1) (kdl_dict (kvs:=vs) (ep:=ep) lo) (I.ok.hd hc) FR (by rw[<-hlen,sizeLine_eq];omega) λh' tk acc hk En=>?_)
 have hl:acc.toList.length=vs.length:=by rw[Array.length_toList];exact En.1
 have hI:IntsAre acc.toList (kz kvs):=by
  have all:∀(j:Nat) v,acc.toList[j]?=some v->∃i t,v=Value.int i t/\(kz kvs)[j]?=some i:=λj v e=>by
   obtain⟨k,x,hx,hk⟩:=En.2 j v (by rw[<-Array.getElem?_toList];exact e)
   obtain⟨p,e1,e2⟩:∃p,kvs[j]?=some p/\p.1=k:=by
    have:∀{as:List (Key×V)} {bs:List (Key×Value)} (j:Nat) {b},KV as bs->bs[j]?=some b->∃a,as[j]?=some a/\a.1=b.1:=by
     intro as bs j b r
     induction r generalizing j with
     | nil=>intro e;simp at e
     | cons r1 r2 ih=>
      intro e
      cases j with
      | zero=>simp at e;subst e;exact⟨_,rfl,r1.1⟩
      | succ j=>simp at e;obtain⟨a,e1,e2⟩:=ih j e;exact⟨a,by simpa using e1,e2⟩
    obtain⟨a,e1,e2⟩:=this j kv hx
    exact⟨a,e1,e2⟩
   obtain⟨i,hi⟩:=An p (aam e1)
   rw[<-e2,hi] at hk
   have hk:pX (.inl i) v=true:=hk
   rcases cH hk with ⟨i',t,e3,e4⟩ | ⟨x',t,e3,_⟩
   ·cases e3
    refine⟨i,t,e4,?_⟩
    unfold kz
    rw[aad,e1]
    simp [hi]
   ·cases e3
  have go:∀(us:List Value) (ns:List Int),us.length=ns.length->(∀(j:Nat) v,us[j]?=some v->∃i t,v=Value.int i t/\ns[j]?=some i)->IntsAre us ns:=by
   intro us
   induction us with
   | nil=>intro ns hl _;cases ns with | nil=>exact .nil | cons _ _=>simp at hl
   | cons u us ih=>
    intro ns hl k
    cases ns with
    | nil=>simp at hl
    | cons n ns=>
     obtain⟨i,t,rfl,e⟩:=k 0 u rfl
     simp at e
     subst e
     exact .cons n t (ih ns (by simpa using hl) λj v e=>by
      obtain⟨i,t,e1,e2⟩:=k (j+1) v (by simpa using e)
      exact⟨i,t,e1,by simpa using e2⟩)
  refine go _ _ ?_ all
  unfold kz
  rw[aac,hl,hlen]
 refine wpAny_bind (wpAny_newList ?_ (by rw[hl,<-hlen,sizeLine_eq];omega))
 have JH:(h'.push (seqObj "list" acc.toList.toArray 0)).get? h'.objs.size=some (seqObj "list" acc.toList.toArray 0):=Heap.get?_push_size _ rfl
 have I1:Inv X pins σ H {s with heap:=h',toks:=tk}:=I.kept (t':=tk) hk
 refine wpAny_bind (wpAny_holding (wpAny_call_entry slot_list_sort ⟨_,JH,rfl⟩ entry_list_sort (list_sort_tree JH hI (by omega) λout Kf a1 a2 a3=>⟨_,rfl,?_⟩) (args_list_sort _)))
 obtain rfl:=Nm.ux a2 a3
 obtain⟨e,he⟩:=sortedHeap_at (out:=out) JH
 have fr:=I1.bP.fresh (a:=h'.objs.size) (aaf _)
 refine wpAny_pure ⟨_,rfl,.ref h'.objs.size,_,I1.laid (t':=tk) (λb o eb=>?_) (aaf _) (o:=.lst (List.map V.int (Nm.uw (kz kvs)))) ⟨?_,out.toList,e,iu a1,?_⟩,rfl,q _ fr⟩
 ·rw[sortedHeap_old (aai (Heap.lt_size eb)) (by rw[Heap.size_push];exact Nat.lt_succ_of_lt (Heap.lt_size eb))]
  exact Heap.get?_push_of_some _ eb
 ·rw[aac,Nm.iq,sizeLine_eq]
  unfold kz
  rw[aac]
  omega
 ·exact he
end
section
variable {X : Cx} {pins : List (Addr × Obj)} {σ : St} {H : Hp} {s : Shared}
end
noncomputable def Xq (d:Addr) (o:Obj) (kvs:List (Key×V)):It:=
 ⟨λi H=>H d=some (.vf o (.dK kvs))/\i<kvs.length,λi H x H'=>H'=H/\∃p,kvs[i]?=some p/\x=kV p.1,λi H=>H d=some (.vf o (.dK kvs))/\i=kvs.length⟩
section
variable {X : Cx} {x : Str} {Xr : Pos}
noncomputable def iDict (tl:TE):TI:=λσ H R=>tl σ H λv H1=>∃d kvs,v=.ref d/\H1 d=some (.dK kvs)/\∀o,R (Xq d o kvs) (upd H1 d (.vf o (.dK kvs)))
end
end L2
namespace L2
open PySem PySem.Spec PyProof.Rows PySem.W
section
variable {X : Cx} {K : PySem.W.Frag}
theorem bH {tg l:Expr} {tl:TE} (hl:PE X l tl) (hK:X.K=K:=by rfl):PI X tg l (iList K tl):=by subst hK;exact DW hl
theorem rY {elts:List Expr} {kk:Nat} {rR:Pos} {a:Expr} {ta:TA} {p pos:Pos} (hg:Gl X "enumerate") (hm:X.mg "enumerate"=none) (ha:PA X [a] ta) (n1:noStar a=true:=by rfl) (hK:X.K=K:=by rfl):
  PI X (.Tuple elts kk rR) (.Call (.Name "enumerate" p) [a] [] pos) (iEnum K ta):=by subst hK;exact uv hg hm ha (by rw[se n1];rfl)
theorem dQ {es:List Expr} {k:Nat} {t:FI} {n:Nat} {pos:Pos} (hc:X.calm=true) (h:Ja X es t) (hn:(assignEach es X.env).length=n:=by rfl) (hst:(assignEach es X.env).findIdx? (·.1)=none:=by rfl) (hK:X.K=K:=by rfl):PG X (.Tuple es k pos) (DU K n t):=by
 subst hK;exact GS hc h hn hst
theorem tH (hK:X.K=K:=by rfl):DB X (Hh K):=by subst hK;exact BG
theorem lD (hK:X.K=K:=by rfl):di X (.builtin "len") (λxs H Q=>∃p ns,xs=[.ref p]/\bL K H p (List.map V.int ns)/\Q (.int (List.length ns:Nat)) H):=by subst hK;exact Aq
theorem eQ (hK:X.K=K:=by rfl):di X (.type "list") (λxs H Q=>∃p ys,xs=[.ref p]/\(bL K H p ys\/lg K H p ys)/\∀l,H l=none->Q (.ref l) (upd H l (.lst ys))):=by subst hK;exact uh
theorem qi (hK:X.K=K:=by rfl):di X (.type "tuple") (λxs H Q=>∃p ys,xs=[.ref p]/\((bL K H p ys/\∀l,H l=none->Q (.ref l) (upd H l (.tup ys)))\/(lg K H p ys/\Q (.ref p) H))):=by subst hK;exact rT
theorem nO (hK:X.K=K:=by rfl):di X (.builtin "isinstance") (λxs H Q=>∃x c t b,xs=[x,.ty c]/\iW K H x t/\PySem.W.kitOne K t (.type c)=some b/\Q (.bl b) H):=by subst hK;exact BH
theorem i4 (hc:X.calm=true:=by rfl) (hK:X.K=K:=by rfl):di X (.builtin "sum") (λxs H Q=>∃p ns,xs=[.ref p]/\bL K H p (List.map V.int ns)/\Q (.int ns.sum) H):=by subst hK;exact xJ hc
theorem qj (hK:X.K=K:=by rfl):di X (.builtin "sorted") (λxs H Q=>∃p ns,xs=[.ref p]/\bL K H p (List.map V.int ns)/\ns.length<64/\∀l,H l=none->Q (.ref l) (upd H l (.lst (List.map V.int (Nm.uw ns))))):=by subst hK;exact rW
theorem qk (hc:X.calm=true:=by rfl):di X (.builtin "sorted") (λxs H Q=>∃d kvs,xs=[.ref d]/\Rd H d (.dK kvs)/\allI kvs/\kvs.length<64/\∀l,H l=none->Q (.ref l) (upd H l (.lst (List.map V.int (Nm.uw (kz kvs)))))):=rX hc
theorem vI (hK:X.K=K:=by rfl):MC X (rSlL K):=by subst hK;exact Ec
theorem JU.r {id:String} {r:V->List V->Hp->VK->Prop} (h:JU X id r):MD X id r:=h
end
end L2
namespace Nm
abbrev Ws:=List (Int×Int)
noncomputable def keys (ws:Ws):List Int:=ws.map (·.1)
noncomputable def look:Ws->Int->Int
 | [],_=>0
 | p::r,k=>if p.1=k then p.2 else look r k
noncomputable def put:Ws->Int->Int->Ws
 | [],k,v=>[(k,v)]
 | p::r,k,v=>if p.1=k then (k,v)::r else p::put r k v
noncomputable def ql (ws:Ws):Int:=(ws.map (·.2)).sum
noncomputable def jS (ws:Ws) (k x:Int):Ws:=put ws k (look ws k+x)
noncomputable def aU (ws ps:Ws):Ws:=ps.foldl (λacc p=>jS acc p.1 p.2) ws
noncomputable def cnt (ps:Ws) (s:Int):Int:=(ps.map λp=>if p.1=s then p.2 else 0).sum
theorem vJ:∀(ws:Ws) (k v j:Int),look (put ws k v) j=if k=j then v else look ws j
 | [],k,v,j=>by simp [put,look]
 | p::r,k,v,j=>by
  unfold put
  split
  ·rename_i c
   simp only[look]
   by_cases e:k=j
   ·simp [e]
   ·rw[if_neg e,if_neg e,if_neg (by omega)]
  ·rename_i c
   simp only[look]
   by_cases e:p.1=j
   ·rw[if_pos e,if_neg (by omega),if_pos e]
   ·rw[if_neg e,if_neg e]
    exact vJ r k v j
theorem zd {ws:Ws} {k v j:Int}:j∈keys (put ws k v)↔j=k\/j∈keys ws:=by
 induction ws with
 | nil=>simp [put,keys]
 | cons p r ih=>
  unfold put
  split
  ·rename_i c
   simp only[keys,aae,aaD]
   rw[c]
   constructor
   ·intro h;exact .inr h
   ·rintro(h | h)
    ·exact .inl h
    ·exact h
  ·simp only[keys,aae,aaD] at ih ⊢
   rw[ih]
   constructor
   ·rintro(h | h | h)
    ·exact .inr (.inl h)
    ·exact .inl h
    ·exact .inr (.inr h)
   ·rintro(h | h | h)
    ·exact .inr (.inl h)
    ·exact .inl h
    ·exact .inr (.inr h)
theorem Au {ws:Ws} (k v:Int) (h:(keys ws).Nodup):(keys (put ws k v)).Nodup:=by
 induction ws with
 | nil=>simp [put,keys]
 | cons p r ih=>
  have h':p.1∉keys r/\(keys r).Nodup:=by simpa [keys] using h
  unfold put
  split
  ·rename_i c
   have:k∉keys r/\(keys r).Nodup:=by rw[<-c];exact h'
   simpa [keys] using this
  ·rename_i c
   have i:=ih h'.2
   have n:p.1∉keys (put r k v):=λz=>by
    rcases zd.mp z with z | z
    ·exact c z
    ·exact h'.1 z
   have:p.1∉keys (put r k v)/\(keys (put r k v)).Nodup:=⟨n,i⟩
   simpa [keys] using this
theorem vK:∀(ws:Ws) (k x:Int),ql (jS ws k x)=ql ws+x
 | [],k,x=>by simp [jS,put,look,ql]
 | p::r,k,x=>by
  have ih:=vK r k x
  unfold jS ql at *
  unfold put look
  by_cases c:p.1=k
  ·rw[if_pos c,if_pos c]
   simp only[aae,aaW]
   omega
  ·rw[if_neg c,if_neg c]
   simp only[aae,aaW]
   omega
theorem Eu (ws:Ws) (k v:Int):(put ws k v).length<=ws.length+1:=by
 induction ws with
 | nil=>simp [put]
 | cons p r ih=>
  unfold put
  split
  ·simp
  ·simp only[aaq];omega
theorem oZ:∀(ps ws:Ws) (s:Int),look (aU ws ps) s=look ws s+cnt ps s
 | [],ws,s=>by simp [aU,cnt]
 | p::r,ws,s=>by
  have ih:=oZ r (jS ws p.1 p.2) s
  show look (aU (jS ws p.1 p.2) r) s=_
  rw[ih]
  unfold jS cnt
  rw[vJ]
  simp only[aae,aaW]
  by_cases c:p.1=s
  ·rw[if_pos c,if_pos c,c];omega
  ·rw[if_neg c,if_neg c];omega
theorem lE {s:Int}:∀{ps ws:Ws},s∈keys (aU ws ps)↔s∈keys ws\/s∈keys ps
 | [],ws=>by simp [aU,keys]
 | p::r,ws=>by
  show s∈keys (aU (jS ws p.1 p.2) r)↔_
  rw[lE]
  unfold jS
  rw[zd]
  simp only[keys,aae,aaD]
  constructor
  ·rintro((h | h) | h)
   ·exact .inr (.inl h)
   ·exact .inl h
   ·exact .inr (.inr h)
  ·rintro(h | h | h)
   ·exact .inl (.inr h)
   ·exact .inl (.inl h)
   ·exact .inr h
theorem mw:∀{ps ws:Ws},(keys ws).Nodup->(keys (aU ws ps)).Nodup
 | [],_,h=>h
 | p::r,ws,h=>by
  show(keys (aU (jS ws p.1 p.2) r)).Nodup
  exact mw (Au _ _ h)
theorem qo:∀(ps ws:Ws),ql (aU ws ps)=ql ws+ql ps
 | [],ws=>by simp [aU,ql]
 | p::r,ws=>by
  show ql (aU (jS ws p.1 p.2) r)=_
  rw[qo,vK]
  unfold ql
  simp only[aae,aaW]
  omega
theorem qp:∀(ps ws:Ws),(aU ws ps).length<=ws.length+ps.length
 | [],ws=>by simp [aU]
 | p::r,ws=>by
  have h:=qp r (jS ws p.1 p.2)
  have h2:=Eu ws p.1 (look ws p.1+p.2)
  show(aU (jS ws p.1 p.2) r).length<=_
  unfold jS at *
  simp only[aaq]
  omega
structure Over (as ws:Ws) (B T:Int):Prop where
 nd:(keys ws).Nodup
 perm:(keys as).Perm (keys ws)
 val:∀k∈keys ws,look as k*T=look ws k*B
theorem eg {ws:Ws} {p:Int×Int} (h:(keys ws).Nodup) (hp:p∈ws):look ws p.1=p.2:=by
 induction ws with
 | nil=>cases hp
 | cons q r ih=>
  have h':q.1∉keys r/\(keys r).Nodup:=by simpa [keys] using h
  unfold look
  rcases List.mem_cons.mp hp with rfl | hp
  ·rw[if_pos rfl]
  ·rw[if_neg (λz=>h'.1 (by rw[z];exact List.mem_map.mpr ⟨p,hp,rfl⟩))]
   exact ih h'.2 hp
noncomputable def rowsOf (ws:Ws) (B:Int):List (Int×Int×Int):=(uw (keys ws)).map λv=>(v,st (look ws v) B,sb (look ws v) B)
noncomputable def weigh (rows:List (Int×Int×Int)) (B:Int):Ws:=rows.map λr=>(r.1,r.2.1* (B / r.2.2))
theorem rZ (ws p q:Ws):aU ws (p++q)=aU (aU ws p) q:=by
 unfold aU
 rw[List.foldl_append]
theorem vL (ws p:Ws) (k x:Int):aU ws (p++ [(k,x)])=jS (aU ws p) k x:=by
 rw[rZ]
 rfl
theorem ze:∀{l:List Int},0<l.length->(∀x∈l,0<x)->0<l.sum
 | [],h,_=>by simp at h
 | x::r,_,h=>by
  have hx:=h x aap
  rw[aaW]
  by_cases c:0<r.length
  ·have:=ze c λy hy=>h y (aaj _ hy)
   omega
  ·have:r=[]:=List.eq_nil_of_length_eq_zero (by omega)
   subst this
   simpa using hx
theorem Hs {ws:Ws} (nd:(keys ws).Nodup) {P:Int->Prop} (h:∀k∈keys ws,P (look ws k)):∀x∈ws.map (·.2),P x:=λx hx=>by
 obtain⟨p,hp,rfl⟩:=List.mem_map.mp hx
 have:=h p.1 (List.mem_map.mpr ⟨p,hp,rfl⟩)
 rwa [eg nd hp] at this
theorem Ew {ws:Ws} (h:0<ws.length) (nd:(keys ws).Nodup) (w:∀k∈keys ws,0<look ws k):0<ql ws:=
 ze (by rw[aac];exact h) (Hs nd w)
theorem Ht {ps:Ws} (h:∀p∈ps,0<p.2) (s:Int):0<=cnt ps s:=by
 induction ps with
 | nil=>simp [cnt]
 | cons p r ih=>
  have i:=ih λq hq=>h q (aaj _ hq)
  have hp:=h p aap
  unfold cnt at *
  rw[aae,aaW]
  split <;>omega
theorem pN {ps:Ws} (h:∀p∈ps,0<p.2) {s:Int} (hs:s∈keys ps):0<cnt ps s:=by
 induction ps with
 | nil=>simp [keys] at hs
 | cons p r ih=>
  have h':∀q∈r,0<q.2:=λq hq=>h q (aaj _ hq)
  have hp:=h p aap
  have n:=Ht h' s
  have e:cnt (p::r) s=(if p.1=s then p.2 else 0)+cnt r s:=by unfold cnt;rw[aae,aaW]
  rw[e]
  by_cases c:p.1=s
  ·rw[if_pos c];omega
  ·rw[if_neg c]
   have Er:s∈keys r:=by
    unfold keys at hs ⊢
    rw[aae] at hs
    rcases List.mem_cons.mp hs with z | z
    ·exact absurd z.symm c
    ·exact z
   have:=ih h' Er
   omega
end Nm
namespace L2
open PySem PySem.Spec PyProof.Rows
noncomputable def enc (ws:Nm.Ws):List (Key×V):=ws.map λp=>(Sum.inl p.1,V.int p.2)
theorem uy (ws:Nm.Ws):(enc ws).length=ws.length:=by unfold enc;rw[aac]
theorem Av (ws:Nm.Ws):kz (enc ws)=Nm.keys ws:=by
 unfold kz enc Nm.keys
 rw[aaJ]
 rfl
theorem BO (ws:Nm.Ws):allI (enc ws):=λp hp=>by
 unfold enc at hp
 obtain⟨q,_,rfl⟩:=List.mem_map.mp hp
 exact⟨q.1,rfl⟩
theorem zf (ws:Nm.Ws) (k:Int):d8 (enc ws) (Sum.inl k)=if k∈Nm.keys ws then some (.int (Nm.look ws k)) else none:=by
 induction ws with
 | nil=>simp [enc,d8,Nm.keys]
 | cons p r ih=>
  unfold d8 at *
  unfold enc at *
  rw[aae,aaR]
  unfold Nm.look
  by_cases c:p.1=k
  ·rw[show decide ((Sum.inl p.1:Key)=Sum.inl k)=true by rw[c];simp]
   simp [Nm.keys,c]
  ·rw[show decide ((Sum.inl p.1:Key)=Sum.inl k)=false by simpa using c]
   simp only[ih]
   have e:(k∈Nm.keys (p::r))=(k∈Nm.keys r):=by
    unfold Nm.keys
    rw[aae,aaD]
    apply propext
    constructor
    ·rintro(h | h)
     ·exact absurd h.symm c
     ·exact h
    ·exact .inr
   simp only[e,if_neg c]
theorem Ex {ws:Nm.Ws} (nd:(Nm.keys ws).Nodup) (k v:Int):putK (enc ws) (Sum.inl k) (.int v)=enc (Nm.put ws k v):=by
 have key:∀{ws:Nm.Ws},k∉Nm.keys ws->(enc ws).map (λkv=>if kv.1=(Sum.inl k:Key) then (kv.1,V.int v) else kv)=enc ws:=by
  intro ws h
  unfold enc
  rw[aaJ]
  apply List.map_congr_left
  intro p hp
  have:p.1≠k:=λz=>h (by rw[<-z];exact List.mem_map.mpr ⟨p,hp,rfl⟩)
  simp [this]
 have any:∀ws:Nm.Ws,((enc ws).any λkv=>decide (kv.1=(Sum.inl k:Key)))=decide (k∈Nm.keys ws):=by
  intro ws
  induction ws with
  | nil=>simp [enc,Nm.keys]
  | cons p r ih=>
   unfold enc at *
   rw[aae,List.any_cons,ih]
   unfold Nm.keys
   rw[aae]
   by_cases c:p.1=k
   ·simp [c]
   ·have c2:¬k=p.1:=λz=>c z.symm
    simp [c,c2]
 unfold putK
 rw[any]
 clear any
 by_cases c:k∈Nm.keys ws
 ·rw[if_pos (by simpa using c)]
  induction ws with
  | nil=>simp [Nm.keys] at c
  | cons p r ih=>
   have h':p.1∉Nm.keys r/\(Nm.keys r).Nodup:=by simpa [Nm.keys] using nd
   unfold Nm.put
   by_cases e:p.1=k
   ·rw[if_pos e]
    have:=key (ws:=r) (by rw[<-e];exact h'.1)
    unfold enc at *
    rw[aae,aae,this,aae]
    simp [e]
   ·rw[if_neg e]
    have c':k∈Nm.keys r:=by
     unfold Nm.keys at c ⊢
     rw[aae] at c
     rcases List.mem_cons.mp c with z | z
     ·exact absurd z.symm e
     ·exact z
    have:=ih h'.2 c'
    unfold enc at *
    rw[aae,aae,this,aae]
    simp [e]
 ·rw[if_neg (by simpa using c)]
  induction ws with
  | nil=>simp [enc,Nm.put]
  | cons p r ih=>
   have h':p.1∉Nm.keys r/\(Nm.keys r).Nodup:=by simpa [Nm.keys] using nd
   have e:¬p.1=k:=λz=>c (by unfold Nm.keys;rw[aae,z];exact aap)
   have c':k∉Nm.keys r:=λz=>c (by unfold Nm.keys at *;rw[aae];exact aaj _ z)
   unfold Nm.put
   rw[if_neg e]
   have:=ih h'.2 c'
   unfold enc at *
   rw[aae,List.cons_append,this,aae]
theorem Ey {H:Hp} {d:Addr} {ws:Nm.Ws} {v:Int} (h:Rd H d (.dK (enc ws))) (hv:v∈Nm.keys ws):mj H d (.int v) (some (.int (Nm.look ws v))):=
 .inl ⟨_,Sum.inl v,h,rfl,by rw[zf,if_pos hv]⟩
theorem BP {H:Hp} {d:Addr} {ws:Nm.Ws} {v:Int} (h:H d=some (.dK (enc ws))) (hv:v∈Nm.keys ws):mj H d (.int v) (some (.int (Nm.look ws v))):=Ey (.inl h) hv
theorem BQ {ws:Nm.Ws} {v:Int} (h:v∉Nm.keys ws):Nm.look ws v=0:=by
 induction ws with
 | nil=>rfl
 | cons p r ih=>
  unfold Nm.keys at h
  rw[aae] at h
  unfold Nm.look
  rw[if_neg (λz=>h (by rw[z];exact aap))]
  exact ih λz=>h (aaj _ z)
theorem Aw {H:Hp} {d:Addr} {ws:Nm.Ws} (v:Int) (h:Rd H d (.dK (enc ws))):∃o,mj H d (.int v) o/\o.getD (.int 0)=.int (Nm.look ws v):=by
 refine⟨_,.inl ⟨_,Sum.inl v,h,rfl,rfl⟩,?_⟩
 rw[zf]
 by_cases c:v∈Nm.keys ws
 ·rw[if_pos c];rfl
 ·rw[if_neg c,BQ c];rfl
theorem BR {H:Hp} {d:Addr} {ws:Nm.Ws} (v x:Int) (h:H d=some (.dK (enc ws))) (nd:(Nm.keys ws).Nodup) (hl:ws.length<sizeLine):Ai H d (.int v) (.int x) (upd H d (.dK (enc (Nm.put ws v x)))):=by
 have:=Ai.k (k:=Sum.inl v) (v:=.int x) h (by rw[uy];exact hl)
 rw[Ex nd] at this
 exact this
noncomputable def Ez (r:Int×Int×Int):Dat:=.tup [.int r.1,.tup [.int r.2.1,.int r.2.2]]
noncomputable def kA (rows:List (Int×Int×Int)):Dat:=.lst (rows.map Ez)
noncomputable def o4 (p:Int×Int):Dat:=.tup [.int p.1,.int p.2]
noncomputable def i5 (ws:Nm.Ws):Dat:=.lst (ws.map o4)
theorem my {H:Hp} {r:Int×Int×Int} {v:V}:Rep H (Ez r) v↔∃p q,v=.ref p/\H p=some (.tup [.int r.1,.ref q])/\H q=some (.tup [.int r.2.1,.int r.2.2]):=by
 unfold Ez
 simp only[Rep,bb]
 constructor
 ·rintro⟨p,vs,rfl,hp,a,b,rfl,rfl,c,d,rfl,⟨q,us,rfl,hq,e,f,rfl,rfl,g,h,rfl,rfl,rfl⟩,rfl⟩
  exact⟨p,q,rfl,hp,hq⟩
 ·rintro⟨p,q,rfl,hp,hq⟩
  exact⟨p,_,rfl,hp,_,_,rfl,rfl,_,_,rfl,⟨q,_,rfl,hq,_,_,rfl,rfl,_,_,rfl,rfl,rfl⟩,rfl⟩
theorem dI {H:Hp} {r:Int×Int} {v:V}:Rep H (o4 r) v↔∃p,v=.ref p/\H p=some (.tup [.int r.1,.int r.2]):=by
 unfold o4
 simp only[Rep,bb]
 constructor
 ·rintro⟨p,vs,rfl,hp,a,b,rfl,rfl,c,d,rfl,rfl,rfl⟩
  exact⟨p,rfl,hp⟩
 ·rintro⟨p,rfl,hp⟩
  exact⟨p,_,rfl,hp,_,_,rfl,rfl,_,_,rfl,rfl,rfl⟩
theorem bq {H:Hp} {ds:List Dat} {v:V}:Rep H (.lst ds) v↔∃p vs,v=.ref p/\H p=some (.lst vs)/\bb H ds vs:=by rw[Rep]
noncomputable def Vh (H H':Hp):Prop:=∀p xs,(H p=some (.tup xs)->H' p=some (.tup xs))/\(H p=some (.lst xs)->H' p=some (.lst xs))
mutual
theorem Rep.Kg {H H':Hp} (s:Vh H H'):∀{d:Dat} {v:V},Rep H d v->Rep H' d v
 | .cZ,_,h=>by rw[Rep] at *;exact h
 | .bl _,_,h=>by rw[Rep] at *;exact h
 | .int _,_,h=>by rw[Rep] at *;exact h
 | .str _,_,h=>by rw[Rep] at *;exact h
 | .tup _,_,h=>by
  rw[Rep] at *
  obtain⟨p,vs,e,hp,r⟩:=h
  exact⟨p,vs,e,(s _ _).1 hp,bb.Kg s r⟩
 | .lst _,_,h=>by
  rw[Rep] at *
  obtain⟨p,vs,e,hp,r⟩:=h
  exact⟨p,vs,e,(s _ _).2 hp,bb.Kg s r⟩
theorem bb.Kg {H H':Hp} (s:Vh H H'):∀{ds:List Dat} {vs:List V},bb H ds vs->bb H' ds vs
 | [],_,h=>by rw[bb] at *;exact h
 | _::_,_,h=>by
  rw[bb] at *
  obtain⟨v,r,e,h1,h2⟩:=h
  exact⟨v,r,e,Rep.Kg s h1,bb.Kg s h2⟩
end
theorem none_of {H H':Hp} (s:aw H H') {p:Addr} (h:H' p=none):H p=none:=by
 cases e:H p with
 | none=>rfl
 | some o=>rw[s p o e] at h;cases h
end L2
namespace Nm
end Nm
namespace L2
open PySem PySem.Spec PyProof.Rows
theorem EA {α β:Type} (f:α->β) (l:List α):l.filterMap (λa=>some (f a))=l.map f:=by
 rw[<-List.filterMap_eq_map];rfl
end L2
namespace L2
open PySem PySem.Spec PyProof.Rows PySem.W
section
variable {X : Cx} {K : PySem.W.Frag}
theorem Hu {as:List (Key×V)} {bs:List (Key×Value)} (r:KV as bs):∀(j:Nat) {b},bs[j]?=some b->∃a,as[j]?=some a/\RelV a.2 b.2:=by
 induction r with
 | nil=>intro j b e;simp at e
 | cons r1 r2 ih=>
  intro j b e
  cases j with
  | zero=>simp at e;subst e;exact⟨_,rfl,r1.2⟩
  | succ j=>simp at e;obtain⟨a,e1,e2⟩:=ih j e;exact⟨a,by simpa using e1,e2⟩
theorem vM (ns:List Int):preSum (λi=>ns.getD i 0) ns.length=ns.sum:=by
 have e:=preSum_eq (ns.map λn=>(n,(0:Nat))).toArray ns.length
 have f:(λi=>ns.getD i 0)=numAt (ns.map λn=>(n,(0:Nat))).toArray:=by
  funext i
  unfold numAt
  simp only[List.getElem?_toArray,aad,aaS]
  cases ns[i]? <;>rfl
 rw[f]
 refine e.trans ?_
 rw[aau (by simp)]
 congr 1
 simp [Function.comp_def]
noncomputable def tSumV (to:TE):TE:=λσ H Q=>to σ H λv H1=>∃d kvs ns,v=.ref d/\H1 d=some (.dK kvs)/\kvs.map (·.2)=List.map V.int ns/\Q (.int ns.sum) H1
theorem xK {o:Expr} {to:TE} {p apos d7 pos:Pos} (hc:X.calm=true) (hg:Gl X "sum") (hm:X.mg "sum"=none) (ho:PE X o to)
  (BA:attributeBase o "values" X.env (eval o X.env)=eval o X.env:=by rfl) (BB:(apos.endLine==d7.line)=true:=by rfl)
  (he:starEach [Expr.Call (.Attribute o "values" apos) [] [] d7] X.env=[(false,eval (.Call (.Attribute o "values" apos) [] [] d7) X.env)]:=by rfl):
  PE X (.Call (.Name "sum" p) [.Call (.Attribute o "values" apos) [] [] d7] [] pos) (tSumV to):=by
 intro pins s σ H Q I h
 refine wpAny_Call_Name_kw (hZ I hg hm (u:=.builtin "sum") rfl ?_ (by decide) (by decide))
 rw[he]
 refine PySem.callWith_builtin1 ?_
 refine wpAny_Call_method0_late BA BB (cG (ho pins s σ H _ I h) λv s1 ⟨x,H1,I1,r1,q1⟩=>?_)
 obtain⟨d,kvs,ns,rfl,hd,hv,q⟩:=q1
 obtain⟨h1,h2⟩:=Bz (T:="dict") I1 r1 (.inr (.inr (.inl ⟨rfl,.inl ⟨_,hd⟩⟩)))
 cases r1
 obtain⟨hz,lo,vs,kv,dd⟩:=BD I1.bP hd
 have hlen:kvs.length=vs.length:=Paired.length kv
 refine⟨"dict","dict.values",PySem.F.plainAttrs_dict,PySem.F.slot_dict_values,PySem.F.type_dict_values,h1,h2,Calls.callWith_builtin rfl (PySem.evalArgs_none ?_)⟩
 refine call_meetsIn PySem.F.slot_dict_values dd.typeIs PySem.F.entry_dict_values (PySem.F.args_dict_values_1 _) (meets_dict_values _ d lo) ⟨⟨vs,dd⟩,?_⟩
 have I2:Inv X pins σ H1 {s1 with heap:=s1.heap.push {cls:=.type "dict_values",data:=.fields #[.ref d]}}:=I1.kept (t':=s1.toks) λb o e=>Heap.get?_push_of_some _ e
 obtain⟨hz,lo,vs,kv,dd⟩:=BD I2.bP hd
 have hlen:kvs.length=vs.length:=Paired.length kv
 obtain⟨ep,FR⟩:=dd.dictAt
 have hn:ns.length=vs.length:=by
  have:=congrArg List.length hv
  rw[aac,aac] at this
  omega
 have Ks:=kdl_values (prog:=X.prog) (w:=X.w) (r:=s1.heap.objs.size) (d:=d) (knd:=cF X.prog X.w) (kvs:=vs) (ep:=ep)
 have bP:({s1 with heap:=s1.heap.push {cls:=.type "dict_values",data:=.fields #[.ref d]}}:Shared).heap.IsValuesView s1.heap.objs.size d/\({s1 with heap:=s1.heap.push {cls:=.type "dict_values",data:=.fields #[.ref d]}}:Shared).heap.DictAt (cF X.prog X.w) d vs ep:=⟨⟨_,Heap.get?_push_size _ rfl,rfl,rfl⟩,FR⟩
 refine call_sum_walkAnyS ?_
 obtain⟨oI,St,hit,W,st⟩:=Ks.iter X.A.in1 _ (I.ok.hd hc) bP
 refine hit _ _ ⟨_,_,_,_,vs.length,_,_,λi=>ns.getD i 0,rfl,W.toS,st,λb hb=>?_,λi v hP=>?_,λs' t' Vi=>?_⟩
 ·show b< (Heap.push _ oI).objs.size
  rw[size_push']
  rcases List.mem_cons.mp hb with e | hb
  ·rw[e];exact aaT _
  ·rw[List.mem_singleton.mp hb];exact Nat.lt_succ_of_lt (Ks.there _ bP).2
 ·obtain⟨k,e⟩:=hP
  obtain⟨a,e1,e2⟩:=Hu kv i e
  have e3:(kvs.map (·.2))[i]?=some a.2:=by rw[aad,e1];rfl
  rw[hv,aad] at e3
  obtain⟨n,en,ea⟩:=Option.map_eq_some_iff.mp e3
  rw[<-ea] at e2
  obtain⟨t,e2⟩:=e2
  refine⟨t,?_⟩
  show v=Value.int (ns.getD i 0) t
  rw[aaS,en]
  exact e2
 ·have hk:∀b o,(s1.heap.push {cls:=.type "dict_values",data:=.fields #[.ref d]}).get? b=some o->s'.heap.get? b=some o:=λb o e=>
   Vi.heap b o (λhI=>absurd (Heap.lt_size e) (by rw[List.mem_singleton.mp hI];exact aaz _)) (Heap.get?_push_of_some _ e)
  rw[Moved.eq_with Vi,<-hn,vM]
  exact⟨.int ns.sum,H1,I2.kept (t':=s'.toks) hk,⟨t',rfl⟩,q⟩
theorem nP {α:Type} {J:It} {tc:TT} {te:TE} {tl:St} {H1:Hp} {fin:List V->Hp->Prop} {Item:Nat->V->Hp->Hp->Prop} (as:List α) (f:α->Option V) (S:Src J (aw H1) as.length Item) (sub:∀i x H H3,Item i x H H3->H3=H) (hz:as.length<=sizeLine)
  (hs:∀i a x,as[i]?=some a->Item i x H1 H1->∀(Y:VK) (N:Hp->Prop),(∀z,f a=some z->Y z H1)->(f a=none->N H1)->tc (some x::tl) H1 λb H5=>if b=true then te (some x::tl) H5 Y else N H5)
  (qg:fin (as.filterMap f) H1):ij J (gName 0) tc te (none::tl) H1 fin:=by
 refine Ar S (λσ=>∃w0,σ=w0::tl) ⟨_,rfl⟩ (λi ys H=>H=H1/\ys=(as.take i).filterMap f) ⟨rfl,by simp⟩ hz ?_ ?_
 ·rintro i x σ H ys H3 Q N hi sm ⟨rfl,rfl⟩ hl ⟨w0,rfl⟩ it kq kn
  obtain rfl:=sub _ _ _ _ it
  have ea:as[i]?=some as[i]:=aat hi
  refine hs i _ x ea it _ _ (λz e=>kq _ _ _ ⟨_,rfl⟩ sm ⟨rfl,?_⟩) (λe=>kn _ _ ⟨_,rfl⟩ sm ⟨rfl,?_⟩)
  ·rw[aaG,ea,List.filterMap_append]
   simp [e]
  ·rw[aaG,ea,List.filterMap_append]
   simp [e]
 ·rintro ys H sm ⟨rfl,rfl⟩ hl
  rw[aau (aaf _)]
  exact qg
theorem cQ {a b:TS} {D:Ends} {σ:St} {H:Hp} (C:St->Hp->Prop) (hb:∀σ' H',C σ' H'->b D σ' H') (ha:∀N:St->Hp->Prop,(∀σ' H',C σ' H'->N σ' H')->a {D with nx:=N} σ H):tSeq a b D σ H:=ha _ hb
theorem qq {tc:TT} {a b:TS} {D:Ends} {σ:St} {H:Hp} (C1 C2:Hp->Prop) (h1:∀H',C1 H'->a D σ H') (h2:∀H',C2 H'->b D σ H')
  (ht:∀Y N:Hp->Prop,(∀H',C1 H'->Y H')->(∀H',C2 H'->N H')->tc σ H λv H'=>if v=true then Y H' else N H'):tIfS tc a b D σ H:=ht _ _ h1 h2
end
end L2
namespace Nm
noncomputable def pos (ps:Ws):Ws:=ps.filter λp=>decide (0<p.2)
noncomputable def lF (ps:Ws):Ws:=aU [] (pos ps)
noncomputable def bad (ps:Ws):Prop:=(∃p∈ps,p.2<0)\/pos ps=[]
theorem BU (ps:Ws) (p:Int×Int):pos (ps++ [p])=if 0<p.2 then pos ps++ [p] else pos ps:=by
 unfold pos
 rw[List.filter_append]
 by_cases c:0<p.2
 ·rw[if_pos c];simp [c]
 ·rw[if_neg c];simp [c]
theorem BV (ps:Ws) (p:Int×Int):lF (ps++ [p])=if 0<p.2 then jS (lF ps) p.1 p.2 else lF ps:=by
 unfold lF
 rw[BU]
 split
 ·rw[vL]
 ·rfl
theorem nQ (ps:Ws):(keys (lF ps)).Nodup:=mw (by simp [keys])
theorem zg (ps:Ws):(lF ps).length<=ps.length:=by
 have:=qp (pos ps) []
 have h2:(pos ps).length<=ps.length:=List.length_filter_le _ _
 unfold lF
 simp only[aa0] at this
 omega
theorem zh {ps:Ws}:lF ps=[]↔pos ps=[]:=by
 constructor
 ·intro h
  cases e:pos ps with
  | nil=>rfl
  | cons p r=>
   have m:p.1∈keys (lF ps):=by
    unfold lF
    rw[e]
    exact lE.mpr (.inr (by simp [keys]))
   rw[h] at m
   simp [keys] at m
 ·intro h
  unfold lF
  rw[h]
  rfl
theorem EB (ps:Ws):∀p∈pos ps,0<p.2:=λp hp=>by
 unfold pos at hp
 simpa using (List.mem_filter.mp hp).2
theorem EC (ps:Ws):∀k∈keys (lF ps),0<look (lF ps) k:=λk hk=>by
 unfold lF at *
 rw[oZ]
 have h:k∈keys (pos ps):=by
  rcases lE.mp hk with z | z
  ·simp [keys] at z
  ·exact z
 have:=pN (EB ps) h
 simp only[look]
 omega
theorem ED (ps:Ws):ql (lF ps)=ql (pos ps):=by
 unfold lF
 rw[qo]
 simp [ql]
theorem qr {c:Int} (c0:0<=c):∀{ps:Ws},(∀p∈ps,p.2<=c)->ql (pos ps)<=ps.length*c
 | [],_=>by simp [pos,ql]
 | p::r,h=>by
  have ih:=qr c0 λq hq=>h q (aaj _ hq)
  have hp:=h p aap
  rw[aaq,Int.natCast_succ,Int.add_mul]
  unfold pos at *
  rw[List.filter_cons]
  split
  ·rw[show ql (p::List.filter (λp=>decide (0<p.2)) r)=p.2+ql (List.filter (λp=>decide (0<p.2)) r) from by unfold ql;rw[aae,aaW]]
   omega
  ·omega
end Nm
namespace L2
open PySem PySem.Spec PyProof.Rows PySem.W
section
variable {X : Cx} {K : PySem.W.Frag}
theorem mz:∀{us:List Value} {ts:List Str},bF (ts.map V.str) us->∃l:List (Str×Tok),strValues l=us/\l.map (·.1)=ts
 | _,[],.nil=>⟨[],rfl,rfl⟩
 | _,x::ts,.cons r t=>by
  obtain⟨k,rfl⟩:=(r:∃k,_=Value.str x k)
  obtain⟨l,rfl,rfl⟩:=mz t
  exact⟨(x,k)::l,rfl,rfl⟩
noncomputable def rJoin (K:PySem.W.Frag):V->List V->Hp->VK->Prop:=λx xs H Q=>∃sep p ts,x=.str sep/\xs=[.ref p]/\bL K H p (List.map V.str ts)/\JoinOk sep ts=true/\Q (.str (Txt.join sep ts)) H
theorem xM:di X (.type "int") (λxs H Q=>∃k,xs=[.bl k]/\Q (.int (if k then 1 else 0)) H):=by
 intro pins s σ H xs us Q I r h
 exact Ab pins s σ H xs us Q I r (.inr h)
abbrev TJ:=Str->TE
noncomputable def jNil:TJ:=λacc _ H Q=>Q (.str acc) H
noncomputable def jLit (x:Str) (t:TJ):TJ:=λacc σ H Q=>(acc++x).length<=sizeLine/\t (acc++x) σ H Q
noncomputable def jInt (te:TE) (t:TJ):TJ:=λacc σ H Q=>te σ H λv H1=>∃i,v=.int i/\i.natAbs.log2<1920/\(acc++toString i).length<=sizeLine/\t (acc++toString i) σ H1 Q
noncomputable def jStr (te:TE) (t:TJ):TJ:=λacc σ H Q=>te σ H λv H1=>∃z,v=.str z/\z.length<=sizeLine/\(acc++z).length<=sizeLine/\t (acc++z) σ H1 Q
noncomputable def tJoined (t:TJ):TE:=λσ H Q=>t Str.empty σ H Q
end
end L2
namespace L2
open PySem PySem.Spec PyProof.Rows PySem.W
inductive Pl where
 | fin (w:Int×Int) | gA (w:Int×Int) (ws:List (Int×Int)) | pck (rO:Int) (to:List Int)
noncomputable def c6 (H:Hp) (p:Addr):Hp:=λa=>if a=p then none else H a
theorem bN {H:Hp} {p a:Addr} (h:a≠p):c6 H p a=H a:=if_neg h
theorem EE {H:Hp} {p:Addr} {o:HO}:aw (c6 H p) (upd H p o):=λa u e=>by
 unfold c6 at e
 by_cases h:a=p
 ·rw[if_pos h] at e;cases e
 ·rw[if_neg h] at e;rw[aD h];exact e
theorem bD {H:Hp} {p:Addr}:aw (c6 H p) H:=λa u e=>by
 unfold c6 at e
 by_cases h:a=p
 ·rw[if_pos h] at e;cases e
 ·rw[if_neg h] at e;exact e
theorem BW {H0 H:Hp} {p:Addr} (s:aw H0 H) (n:H0 p=none):aw H0 (c6 H p):=λa u e=>by
 rw[bN (λz=>by rw[z,n] at e;cases e)]
 exact s _ _ e
theorem bI {H H':Hp} {p:Addr} (s:aw H H'):aw (c6 H p) (c6 H' p):=λa u e=>by
 unfold c6 at *
 by_cases h:a=p
 ·rw[if_pos h] at e;cases e
 ·rw[if_neg h] at e ⊢;exact s _ _ e
theorem ck {H0 H:Hp} {p:Addr} {o:HO} (s:aw H0 H) (n:H0 p=none):aw H0 (upd H p o):=(BW s n).trans EE
section
variable {X : Cx} {K : PySem.W.Frag}
end
end L2
namespace PySem
section
variable {prog : Program} {w : World} {A : Around} {E : Value -> Shared -> Prop} {s : Shared}
end
end PySem
namespace L2
open PySem PySem.Spec PyProof.Rows PySem.W
section
variable {X : Cx} {K : PySem.W.Frag}
noncomputable def tRev (K:PySem.W.Frag) (te:TE):TE:=λσ H Q=>te σ H λv H1=>∃p xs,v=.ref p/\bL K H1 p xs/\∀l,H1 l=none->Q (.ref l) (upd H1 l (.lst xs.reverse))
noncomputable def tD1 (tk tv:TE):TE:=λσ H Q=>∀d,H d=none->tk σ (upd H d (.dK [])) λx H1=>tv σ H1 λv H2=>∃k,x=kV k/\H2 d=some (.dK [])/\Q (.ref d) (upd H2 d (.dK [(k,v)]))
end
end L2
namespace PySem
open Builtin Builtin.Str
section
variable {prog : Program} {w : World} {A : Around} {E : Value -> Shared -> Prop} {s : Shared} {x y : Str} {t u : Tok} {Q : Value -> Shared -> Prop}
end
end PySem
namespace L2
open PySem PySem.Spec PyProof.Rows PySem.W
section
variable {X : Cx} {K : PySem.W.Frag}
noncomputable def Xs (z:Str):It:=⟨λi _=>i<z.cps.size,λi H x H'=>H'=H/\∃c,z.cps[i]?=some c/\x=.str ⟨#[c]⟩,λi _=>z.cps.size<=i⟩
noncomputable def iStr (tl:TE):TI:=λσ H R=>tl σ H λx H1=>∃z,x=.str z/\z.cps.all (·<128)=true/\R (Xs z) H1
theorem Ax {K:PySem.W.Frag} {J:It} {te:TE} {tl:St} {H1:Hp} {fin:List V->Hp->Prop} {n:Nat} {Item:Nat->V->Hp->Hp->Prop} (S:Src J (aw H1) n Item) (Kb:Nat->V->V->V->Hp->Prop)
  (tp:∀i x H H3,i<n->aw H1 H->Item i x H H3->aw H H3/\∃p a b c,x=.ref p/\lg K H3 p [a,b,c]/\Kb i a b c H3) (hz:n<=sizeLine)
  (R:Nat->V->Hp->Prop) (mono:∀i y H H',aw H H'->R i y H->R i y H')
  (hs:∀i a b c H3 (Q:VK),i<n->aw H1 H3->Kb i a b c H3->(∀y H6,aw H3 H6->R i y H6->Q y H6)->te (some a::some b::some c::tl) H3 Q)
  (qg:∀ys H,aw H1 H->ys.length=n->(∀(i:Nat) y,ys[i]?=some y->R i y H)->fin ys H):ij J (DU K 3 (gCons (gName 0) (gCons (gName 1) (gCons (gName 2) gNil)))) uq te (none::none::none::tl) H1 fin:=by
 refine⟨λi m ys σ H=>m=n - i/\i<=n/\ys.length=i/\(∃w w' Vj,σ=w::w'::Vj::tl)/\aw H1 H/\∀(j:Nat) y,ys[j]?=some y->R j y H,⟨n,by simp,aah _,rfl,⟨_,_,_,rfl⟩,aw.refl _,λj y e=>by simp at e⟩,?_⟩
 rintro i m ys σ H ⟨rfl,hi,hl,⟨w,w',Vj,rfl⟩,sm,p⟩
 by_cases ig:i<n
 ·refine .inr ⟨S.go i H ig sm,λx H3 y=>?_⟩
  obtain⟨s3,q,a,b,c,rfl,sq,it⟩:=tp i x H H3 ig sm (S.w6 i H x H3 ig sm y)
  refine⟨q,_,rfl,sq,rfl,_,_,rfl,_,_,rfl,_,_,rfl,rfl,?_⟩
  unfold uq
  refine Hg ?_
  refine hs i a b c H3 _ ig (sm.trans s3) it λy H6 s6 r=>⟨by omega,n - (i+1),by omega,rfl,ig,by rw[aak,aaI];omega,⟨_,_,_,rfl⟩,sm.trans (s3.trans s6),λj z e=>?_⟩
  by_cases hj:j<i
  ·rw[aa2 (by omega)] at e
   exact mono j z _ _ (s3.trans s6) (p j z e)
  ·rw[aa5 (by omega)] at e
   have e2:j - ys.length=0:=by
    by_cases q:j - ys.length=0
    ·exact q
    ·rw[List.getElem?_eq_none (by simp;omega)] at e;cases e
   rw[e2] at e
   simp at e
   subst e
   have:j=i:=by omega
   subst this
   exact r
 ·have e:i=n:=by omega
  subst e
  exact .inl ⟨S.stop H sm,qg ys H sm hl p⟩
theorem mB {x:Str} {i:Int} {pos:Pos} (hg:Gl X x) (h:∃t,X.mg x=some (.int i t)) (hd:(x==("__debug__":Str))=false:=by decide):PE X (.Name x pos) (tC (.int i)):=by
 obtain⟨t,h⟩:=h
 exact DT hg h ⟨t,rfl⟩ hd
theorem EF:DB X GY:=G0
end
end L2
namespace PySem
end PySem
namespace PySem
section
variable {M : Model} {A : Around} {E : Value -> Shared -> Prop} {s : Shared} {env : Env}
theorem Ay {e:Expr} {scope:Scope} {pos:Pos} {BX first:Sem Value} {g:Comprehension} {gs:List Comprehension} {cl:List (Str×Addr)} {Q:Value->Shared->Prop}
  (h1:clausesOf e=g::gs) (h2:∀x,foldedSetIterable g.iter env x=pure x) (h3:closureFor scope env=pure cl) (h4:scope.kind=.function) (h5:∀x∈scope.names,x.2=.local->scope.names.lookup x.1=some .local)
  (h:wpAny M A first (λx t1=>wpAny M A (pyIter x) (λit t2=>wpAny M A BX (λacc t3=>wpAny M A (newFunctionEnv scope env.globals cl [] env.qual none .none (some env)) (λce t4=>
    codeAny M A (.compStart e 0 it acc {ce with scope:=relabel scope env}) (λr t=>∃m,t.heap.Ns ce.locals m/\∀h',Heap.SameBut ce.locals t.heap h'->match r with
     | .ok _=>Q acc {t with heap:=h'}
     | .error x=>wpAny M A (passOn "comprehension.variables-let-go" x {ce with scope:=relabel scope env}:Sem Value) (λ_ _=>False) E {t with heap:=h'}) t4) E t3) E t2) E t1) E s):
  wpAny M A (comprehension e scope env pos BX false first none) Q E s:=by
 unfold comprehension
 rw[h3,h1]
 refine wpAny_bind (wpAny_mono h (λx t1 a1=>?_) λ_ _ y=>y)
 refine wpAny_bind (wpAny_standAt ?_)
 refine wpAny_bind (wpAny_of_eq (h2 x) ?_)
 refine wpAny_bind (wpAny_holding (wpAny_mono a1 (λit t2 a2=>?_) λ_ _ y=>y))
 refine wpAny_standIf (wpAny_bind (wpAny_mono a2 (λacc t3 a3=>?_) λ_ _ y=>y))
 refine wpAny_bind (wpAny_pure (wpAny_bind (wpAny_mono a3 (λce t4 a4=>?_) λ_ _ y=>y)))
 dsimp only
 have own:∀x∈(scope.names.filter λy=>(y.2==.local || y.2==.cell) && y.1 !=(".0":Str)).reverse,x.2=.local->Env.kindOf {ce with scope:=relabel scope env} x.1=some .local:=by
  intro x hx hl
  have hm:=(List.mem_filter.mp (List.mem_reverse.mp hx)).1
  exact lookup_relabel_local (h5 x hm hl)
 refine wpAny_holding (wpAny_bind (wpAny_attempt (wpAny_holding (wpAny_run (codeAny_mono a4 λr t hr=>?_)))))
 obtain⟨m,hn,hq⟩:=hr
 cases r with
 | ok fl=>
  refine wpAny_bind (wpAny_holding (wpAny_comp_letGo (cenv:={ce with scope:=relabel scope env}) h4 _ t m own hn λh' m' _ sb=>?_))
  exact wpAny_pure (hq h' sb)
 | error x=>
  refine wpAny_bind (wpAny_holding (wpAny_comp_letGo (cenv:={ce with scope:=relabel scope env}) h4 _ t m own hn λh' m' _ sb=>?_))
  exact wpAny_mono (hq h' sb) (λ_ _ z=>False.elim z) λ_ _ y=>y
end
end PySem
namespace L2
open PySem PySem.Spec PyProof.Rows PySem.W
theorem Az {x:Value} {e1 e2:Env} (h:e1.frame=e2.frame):noteFrame x e1=noteFrame x e2:=by
 unfold noteFrame PySem.frameOf
 simp only[h]
theorem qu {C:Addr} {h h' base:Heap} (sb:Heap.SameBut C h h'):∀{l:List Env},h.FunFrames base l->C∉d4 l->h'.FunFrames base l
 | [],_,_=>trivial
 | en::r,⟨a1,⟨L,o,b1,b2,b3,b4⟩,a3⟩,n=>by
  have e:d4 (en::r)=L::d4 r:=by unfold d4;rw[aa3,b1]
  rw[e] at n
  refine⟨a1,⟨L,o,b1,b2,(sb.2 L λz=>n (by rw[z];exact aap)).trans b3,b4⟩,?_⟩
  exact qu sb a3 λz=>n (aaj _ z)
section
variable {M : Model} {A : Around} {E : Value -> Shared -> Prop} {s : Shared} {B : Heap} {l : List Env} {ad L : Addr} {cls a0 : Value}
theorem AA {N0:String} {ce:Env} {Q:Value->Shared->Prop} (hh:Heap.HeldW B l ad cls a0 L s.heap) (hf:ce.frame=some L)
  (k:∀h',Heap.HeldW B l ad cls a0 L h'->s.heap.UpToSlots h'->E (.ref ad) {s with heap:=h'}):wpAny M A (PySem.passOn N0 (.ref ad) ce:Sem Value) Q E s:=by
 obtain⟨st,na,ff,oe,vs,T,oT,ts,g1,g2,g3,g4,g5,g6,g7,g8,g9⟩:=id hh
 have sz:3<ts.size:=(Array.getElem?_eq_some_iff.mp g9).1
 unfold PySem.passOn
 refine wpAny_bind (wpAny_field g1 g3 g4 ?_)
 have nz:¬(Value.ref T==Value.none)=true:=by simp
 rw[if_neg nz,hf]
 have ot:∀{f:Obj->Obj} b,b≠T->(s.heap.update T f).get? b=s.heap.get? b:=λb hb=>Heap.get?_update_other _ _ (Ne.symm hb)
 have nr:∀b o,s.heap.get? b=some o->(∀us,o.data≠.fields us)->b≠T:=λb o e nf z=>by
  rw[z,g7] at e
  cases e
  exact nf ts g8
 have fin:wpAny M A (setFlight (.ref ad) (some L)) (λ_ s1=>wpAny M A (throw (.ref ad):Sem Value) Q E s1) E s:=by
  unfold setFlight
  refine wpAny_bind (wpAny_field g1 g3 g4 ?_)
  have yz:(Value.ref T !=Value.none)=true:=by simp
  rw[if_pos yz]
  refine wpAny_setField g7 g8 sz (wpAny_throw (k _ ⟨λb o e=>?_,na,?_,?_⟩ λb o e nf=>?_))
  ·refine(ot b λz=>?_).trans (st b o e)
   rw[z,g5] at e
   cases e
  ·exact Heap.FunFrames.of_keeps (λb o e nf=>⟨o,(ot b (nr b o e nf)).trans e,rfl⟩) ff
  ·exact⟨oe,vs,T,_,_,(ot ad (Ne.symm g6)).trans g1,g2,g3,g4,g5,g6,Heap.get?_update_self _ g7 (Obj.isFreed_of_fields (Obj.data_mapFields g8 _)),Obj.data_mapFields g8 _,by simp [sz]⟩
  ·exact⟨o.slots,(ot b (nr b o e nf)).trans e⟩
 first
  | exact wpAny_bind (wpAny_pure (wpAny_bind fin))
  | exact wpAny_bind fin
theorem leave_held {en:Env} {r:List Env} {Q:Unit->Shared->Prop} (hf:en.frame=some L) (hh:Heap.HeldW B (en::r) ad cls a0 L s.heap)
  (k:∀h',Heap.FlyingW B r ad cls a0 h'->s.heap.UpToSlots h'->Q () {s with heap:=h'}):wpAny M A (leaving en (.ref ad)) Q E s:=by
 have lands:wpAny M A (setFlight (.ref ad) none) Q E s:=wpAny_landsW hh λh' fl up=>by
  obtain⟨p1,p2,p3,p4⟩:=fl
  exact k h' ⟨p1,p2,p3.2.2,p4⟩ up
 unfold leaving
 exact wpAny_bind (wpAny_noteFrame_againW hf hh.2.2.2 lands)
end
section
variable {P : Program} {w : World} {K : PySem.W.Frag} {mg : Str -> Option Value} {base : Heap} {N : List Str} {qual : Str} {scope : Scope} {f : Addr} {bV : Value} {A : Around} {outer : List Env} {s0 : Shared} {H0 : Hp} {E : XK}
theorem BY {N':List Str} {vN:Scope} {cl:List (Str×Addr)} {C:Addr} {fp:List Addr} {FX FY:List (Addr×Obj)} {σD σ4:St} {H2 H4 H':Hp} {s2 s4 s':Shared} {ad:Addr} {cls:Value} {QE:Value->Shared->Prop} {ce:Env}
  (I2:Inv (dz (bC P w) P w K mg base N qual scope f bV A outer s0 H0 E) FX σD H2 s2) (hC:s2.heap.objs.size<C) (f2:∀b∈fp,iU (dz (bC P w) P w K mg base N qual scope f bV A outer s0 H0 E) FX H2 b)
  (I4:Inv (lC (dz (bC P w) P w K mg base N qual scope f bV A outer s0 H0 E) N' vN cl C s2 H2 fp) FY σ4 H4 s4) (F:U1 P w (envOfC qual scope s0.heap.objs.size f bV::outer) H4 s4 H' ad cls s') (he:E cls none H')
  (MN:ce.frame=some s0.heap.objs.size):
  wpAny (model P w) (A.deeper (envOfC qual scope s0.heap.objs.size f bV)) (noteFrame (.ref ad) (compEnvC vN cl C (envOfC qual scope s0.heap.objs.size f bV)))
   (λ_ s5=>∃m,s5.heap.Ns C m/\∀h',Heap.SameBut C s5.heap h'->wpAny (model P w) (A.deeper (envOfC qual scope s0.heap.objs.size f bV)) (PySem.passOn "comprehension.variables-let-go" (.ref ad) ce:Sem Value) (λ_ _=>False)
    (dz (bC P w) P w K mg base N qual scope f bV A outer s0 H0 E).xe {s5 with heap:=h'}) QE s':=by
 generalize Jg:envOfC qual scope s0.heap.objs.size f bV=en at *
 have N2:en.frame=some s0.heap.objs.size:=by rw[<-Jg];rfl
 have FQ:d4 (en::outer)=s0.heap.objs.size::d4 outer:=by unfold d4;rw[aa3,N2]
 have D0:Un (d4 outer) [] H0 H2 s0.heap s2.heap:=I2.base
 have D2:Un (d4 (en::outer)) fp H2 H4 s2.heap s4.heap:=by rw[<-Jg];exact I4.base
 have D4:Un (d4 (en::outer)) [] H4 H' s4.heap s'.heap:=F.un
 have ST:s2.heap.FunFrames base (en::outer):=by rw[<-Jg];exact I2.stack
 have xG:∀b o,s0.heap.get? b=some o->b∉d4 outer->b∉d4 (en::outer):=λb o q hb z=>by
  rw[FQ] at z
  rcases List.mem_cons.mp z with z | z
  ·rw[z] at q
   exact absurd (Heap.lt_size q) (aaz _)
  ·exact hb z
 have Kh:∀b o,s0.heap.get? b=some o->b∉fp:=λb o q z=>by
  rcases(f2 b z).2.2.2.1 with m | m
  ·exact absurd (show b∈([]:List Addr) from m) (by simp)
  ·exact absurd (Heap.lt_size q) (Nat.not_lt.mpr m)
 have Vk:∀b∈d4 (en::outer),b∉fp:=λb hb z=>by
  have q:=(f2 b z)
  rw[FQ] at hb
  rcases List.mem_cons.mp hb with e | e
  ·exact q.2.1 (by rw[e];rfl)
  ·exact q.2.2.1 e
 have Vl:∀b∈d4 (en::outer),∃o,s2.heap.get? b=some o/\(∀us,o.data≠.fields us):=λb hb=>by
  obtain⟨_,o,q,nf⟩:=ST.mem hb
  exact⟨o,q,nf⟩
 have N4:C∉d4 (en::outer):=λz=>by
  obtain⟨o,q,_⟩:=Vl C z
  exact absurd (Nat.lt_trans (Heap.lt_size q) hC) (aaz _)
 have J8:∀b∈d4 (en::outer),H2 b=none:=λb hb=>I2.pH b (by show b∈d4 (envOfC qual scope s0.heap.objs.size f bV::outer);rw[Jg];exact hb)
 obtain⟨B,a0,fl,c0,c2,c1⟩:=F.fl
 obtain⟨m4,N5,_⟩:=I4.loc
 obtain⟨oC,es,ep,MO,dC,rC⟩:=N5
 have MO:s4.heap.get? C=some oC:=MO
 have MM:H4 C=none:=I4.free
 have Xu:s'.heap.get? C=some oC:=D4.keep C oC MO MM N4 (by simp)
 have Xv:H' C=none:=D4.free C oC MO MM (by simp)
 have Je:∀b o,(hideAll B [C]).get? b=some o->B.get? b=some o/\b≠C:=λb o q=>⟨of_hideAll _ q,λz=>by
  rw[z,hideAll_none [C] aap] at q
  cases q⟩
 have N6:∀b o,B.get? b=some o->b≠C->(hideAll B [C]).get? b=some o:=λb o q n=>hideAll_get _ q (by simpa using n)
 have fl:Heap.FlyingW (hideAll B [C]) (en::outer) ad cls a0 s'.heap:=flyingW_base (λb o q=>(Je b o q).1) fl
 rw[Az (e2:=en) (show(compEnvC vN cl C en).frame=en.frame from rfl)]
 refine wpAny_looks_onW (L:=s0.heap.objs.size) (by rw[<-Jg];exact I2.ok.frames) N2 fl λh5 Ki Vm=>?_
 have Vn:h5.Ns C m4:=Vm.ns ⟨oC,es,ep,Xu,dC,rC⟩
 refine⟨m4,Vn,λh6 Kj=>?_⟩
 have Kk:Heap.HeldW (hideAll B [C]) (en::outer) ad cls a0 s0.heap.objs.size h6:=by
  obtain⟨q1,q2,q3,oe,vs,T,oT,ts,g1,g2,g3,g4,g5,g6,g7,g8,g9⟩:=Ki
  obtain⟨o5,es5,ep5,e5,d5,_⟩:=Vn
  have Xw:ad≠C:=λz=>by
   rw[z,e5] at g1
   cases g1
   rw[d5] at g3
   cases g3
  have nT:T≠C:=λz=>by
   rw[z,e5] at g7
   cases g7
   rw[d5] at g8
   cases g8
  exact⟨λb o q=>(Kj.2 b (Je b o q).2).trans (q1 b o q),q2,qu Kj q3 N4,oe,vs,T,oT,ts,(Kj.2 ad Xw).trans g1,g2,g3,g4,g5,g6,(Kj.2 T nT).trans g7,g8,g9⟩
 refine AA Kk MN λh7 Kl Xx=>?_
 show wpAny (model P w) (A.deeper (envOfC qual scope s0.heap.objs.size f bV)) (leaving (envOfC qual scope s0.heap.objs.size f bV) (.ref ad)) (λ_ ud=>bC P w outer H0 s0 E (.ref ad) ud) (λe' ud=>bC P w outer H0 s0 E e' ud) _
 rw[Jg]
 refine leave_held N2 Kl λh8 Km Xy=>?_
 have Xz:∀b∈d4 (en::outer),∀o,s'.heap.get? b=some o->(∀us,o.data≠.fields us)->∃sl,h8.get? b=some {o with slots:=sl}:=λb hb o q nf=>by
  have nb:b≠C:=λz=>N4 (by rw[<-z];exact hb)
  obtain⟨x1,q1⟩:=Vm b o q nf
  have q2:=(Kj.2 b nb).trans q1
  obtain⟨x3,q3⟩:=Xx b _ q2 nf
  obtain⟨x4,q4⟩:=Xy b _ q3 nf
  exact⟨x4,q4⟩
 have slot:∀b o,s2.heap.get? b=some o->b∈d4 (en::outer)->∃sl,h8.get? b=some {o with slots:=sl}:=λb o q hb=>by
  obtain⟨o',q',nf⟩:=Vl b hb
  rw[q] at q'
  cases q'
  obtain⟨x1,q1⟩:=D2.slot b o q (J8 b hb) hb (Vk b hb)
  obtain⟨x2,q2⟩:=D4.slot b _ q1 (D2.free b o q (J8 b hb) (Vk b hb)) hb (by simp)
  obtain⟨x3,q3⟩:=Xz b hb _ q2 nf
  exact⟨x3,q3⟩
 have low:∀b o,s2.heap.get? b=some o->b≠C:=λb o q=>aai (Nat.lt_trans (Heap.lt_size q) hC)
 have FZ:∀b o,s0.heap.get? b=some o->H0 b=none->b∉d4 outer->(hideAll B [C]).get? b=some o:=λb o q n hb=>by
  have q1:=D0.keep b o q n hb (by simp)
  have n1:=D0.free b o q n (by simp)
  have q2:=D2.keep b o q1 n1 (xG b o q hb) (Kh b o q)
  exact N6 b o (c0 b o q2 (D2.free b o q1 n1 (Kh b o q)) (xG b o q hb)) (low b o q1)
 have BZ:∀b o,s0.heap.get? b=some o->b∉d4 outer->∃o',(hideAll B [C]).get? b=some o':=λb o q hb=>by
  obtain⟨o1,q1⟩:=D0.there b o q (by simp)
  obtain⟨o2,q2⟩:=D2.there b o1 q1 (Kh b o q)
  obtain⟨o3,q3⟩:=c2 b o2 q2 (xG b o q hb)
  exact⟨o3,N6 b o3 q3 (low b o1 q1)⟩
 have Vo:∀b u o,H' b=some u->s'.heap.get? b=some o->(hideAll B [C]).get? b=some o:=λb u o e q=>N6 b o (c1 b u o e q) λz=>by
  rw[z,Xv] at e
  cases e
 refine⟨ad,cls,H',rfl,⟨(F.os.trans I4.os).trans I2.os,F.bare,⟨λb o q n hb hx=>Km.1 b o (FZ b o q n hb),λb o q n hb hx=>?_,λb o q n hx=>?_,λb o q hx=>?_,λb xs q=>D4.jP b xs (D2.jP b xs (D0.jP b xs q)),λb o u q=>D4.iQ b o u (D2.iQ b o u (D0.iQ b o u q)),λb ps q=>?_⟩,F.bP.Je Vo Km.1,
  ⟨hideAll B [C],a0,Km,FZ,BZ,λb u o e q=>?_⟩⟩,he⟩
 ·obtain⟨x1,q1⟩:=D0.slot b o q n hb hx
  obtain⟨x2,q2⟩:=slot b _ q1 (by rw[FQ];exact aaj _ hb)
  exact⟨x2,q2⟩
 ·have q1:=(D0.there b o q hx).choose_spec
  have n1:=D0.free b o q n hx
  obtain⟨o2,q2⟩:=D2.there b _ q1 (Kh b o q)
  exact D4.free b o2 q2 (D2.free b _ q1 n1 (Kh b o q)) hx
 ·by_cases hb:b∈d4 outer
  ·obtain⟨o1,q1⟩:=D0.there b o q hx
   obtain⟨x2,q2⟩:=slot b o1 q1 (by rw[FQ];exact aaj _ hb)
   exact⟨_,q2⟩
  ·obtain⟨o1,q1⟩:=BZ b o q hb
   exact⟨o1,Km.1 b o1 q1⟩
 ·obtain⟨m1,e1⟩:=D0.jQ b ps q
  obtain⟨m2,e2⟩:=D2.jQ b _ e1
  obtain⟨m3,e3⟩:=D4.jQ b _ e2
  exact⟨m1++m2++m3,by rw[e3,Array.append_assoc,Array.append_assoc,Array.append_assoc]⟩
 ·obtain⟨o1,q1⟩:=(F.bP b u e).get
  have q2:=Vo b u o1 e q1
  have q3:=Km.1 b o1 q2
  rw[q] at q3
  cases q3
  exact q2
noncomputable def N7 (X:Cx) (N':List Str) (vN:Scope) (E:XK):List (Str×Addr)->Addr->Shared->Hp->List Addr->Value->Shared->Prop:=λcl C s H ex e s'=>
 ∃pins σ H4 s4,Inv (lC X N' vN cl C s H ex) pins σ H4 s4/\bC X.prog X.w X.stack H4 s4 E e s'
theorem B1 {N':List Str} {vN:Scope} {cl:List (Str×Addr)} {C:Addr} {s:Shared} {H:Hp} {ex:List Addr}:
  dX (bC P w) ((lC (dz (bC P w) P w K mg base N qual scope f bV A outer s0 H0 E) N' vN cl C s H ex).lh (N7 (dz (bC P w) P w K mg base N qual scope f bV A outer s0 H0 E) N' vN E cl C s H ex)) E:=
 λpins σ H4 s4 _ _ I c=>⟨pins,σ,H4,s4,I.gH,c⟩
theorem B2 {elt target iter:Expr} {ifs:List Expr} {vN so:Scope} {pos:Pos} {wi:TI} {g:TG} {tc:TT} {te:TE} {k:Nat} {fr:List Nat} {N1 N':List Str} (hc:(dz (bC P w) P w K mg base N qual scope f bV A outer s0 H0 E).calm=true) (hN:N=N1)
  (J9:(dz (bC P w) P w K mg base N qual scope f bV A outer s0 H0 E).env.scope=so) (S:eK N1 so N' vN k fr) (hi:PI (dz (bC P w) P w K mg base N qual scope f bV A outer s0 H0 E) target iter wi)
  (hg:∀cl C s H ex,PG (lC (dz (bC P w) P w K mg base N qual scope f bV A outer s0 H0 E) N' vN cl C s H ex) target g) (ht:∀cl C s H ex,FT (lC (dz (bC P w) P w K mg base N qual scope f bV A outer s0 H0 E) N' vN cl C s H ex) ifs tc)
  (he:∀cl C s H ex,PE ((lC (dz (bC P w) P w K mg base N qual scope f bV A outer s0 H0 E) N' vN cl C s H ex).lh (N7 (dz (bC P w) P w K mg base N qual scope f bV A outer s0 H0 E) N' vN E cl C s H ex)) elt te)
  (hs:∀x,foldedSetIterable iter (dz (bC P w) P w K mg base N qual scope f bV A outer s0 H0 E).env x=pure x:=by intro _;rfl):
  PE (dz (bC P w) P w K mg base N qual scope f bV A outer s0 H0 E) (.ListComp elt [⟨target,iter,ifs,0⟩] vN pos) (tComp wi g tc te k fr):=by
 subst hN J9
 intro pins s σ H Q I h
 rw[eval_ListComp]
 obtain⟨cl,vg,c1,c2,c3⟩:=gI (env:=(dz (bC P w) P w K mg base N qual scope f bV A outer s0 H0 E).env) (scope:=vN) λn hn=>I.ok.has n (S.outer _ hn rfl)
 refine Ay (cl:=cl) rfl hs vg S.kind S.locs ?_
 refine cG (hi pins s σ H _ I h) λv s1 h1=>cG h1 λDV s2 h2=>?_
 obtain⟨it,fp,tn,J,H2,rfl,I2,T,xm,f2,hb⟩:=h2
 refine wpAny_newObj_type (gz ?_)
 refine vH (XE:=N7 (dz (bC P w) P w K mg base N qual scope f bV A outer s0 H0 E) N' vN E) hc S c1 c2 (λx c m=>⟨x,(c3 x c m).1⟩) (λx hx c m=>(S.El _ hx rfl).2 (c3 x c m).2) hg ht he I2 T xm f2 hb ?_ ?_
 ·intro C e s' m ys br n H' hC hn vl sz hD nD nC fin os bare un bP
  subst e
  exact⟨m,hn,λh' Er=>⟨.ref _,_,comp_back I2 f2 hC vl sz hD nD nC os bare un bP Er,rfl,fin _ (I2.bP.fresh (aaf _)) nD⟩⟩
 ·rintro cl' C x s' e hC ⟨FY,σ4,H4,s4,I4,ad,cls,H',rfl,F,XA⟩
  subst e
  exact BY I2 hC f2 I4 F XA rfl
end
end L2
namespace L2
open PySem PySem.Spec PyProof.Rows PySem.W
section
variable {X : Cx}
end
end L2
namespace L2
open PySem PySem.Spec PyProof.Rows PySem.W
abbrev eA (h:Heap) (T:Addr) (a b c:Value):Prop:=h.get? T=some {cls:=.type "tuple",data:=.seq #[a,b,c]}
structure Kn (z TI TO i1 i2 i3 a b c:Addr):Prop where
 TIz:TI≠z
 TOz:TO≠z
 i1z:i1≠z
 i2z:i2≠z
 MP:i3≠z
 TITO:TI≠TO
 XB:TI≠i1
 XC:TI≠i2
 XD:TI≠i3
 MQ:TO≠i1
 MR:TO≠i2
 MS:TO≠i3
 i12:i1≠i2
 Vp:i1≠i3
 Vq:i2≠i3
 az:a≠z
 bz:b≠z
 cz:c≠z
 XF:b≠TO
 Vr:c≠TO
 b1:b≠i1
 c1:c≠i1
 c2:c≠i2
section
variable {prog : Program} {w : World} {A : Around} {E : Value -> Shared -> Prop} {s : Shared}
theorem uz {T:Addr} {a b c x:Value} {k:Nat} {Q:Unit->Shared->Prop} (hT:eA s.heap T a b c)
  (h:∀h',h'.get? T=some {cls:=.type "tuple",data:=.seq ((#[a,b,c]:Array Value).setIfInBounds k x)}->Heap.SameBut T s.heap h'->Q () {s with heap:=h'}):
  wpAny (model prog w) A (updateSeq T (·.setIfInBounds k x)) Q E s:=by
 refine wpAny_updateSeq hT rfl (h _ ?_ (Heap.SameBut.update ..))
 rw[Heap.get?_update_self _ hT rfl]
 simp [Obj.mapSeq]
theorem AB {z TI TO i1 i2 i3 la lb lc:Addr} {k:Nat} {xs ys zs:Array Value} {x y u p q r:Value} {Q:Value->Shared->Prop} (D:Kn z TI TO i1 i2 i3 la lb lc)
  (hz:IsZip s.heap z TI TO .none) (hI:eA s.heap TI (.ref i1) (.ref i2) (.ref i3)) (hO:eA s.heap TO p q r)
  (h1:s.heap.IsListIter i1 la k) (h2:s.heap.IsListIter i2 lb k) (h3:s.heap.IsListIter i3 lc k) (B3:s.heap.IsList la xs) (iM:s.heap.IsList lb ys) (Hv:s.heap.IsList lc zs)
  (hx:xs[k]?=some x) (hy:ys[k]?=some y) (hu:zs[k]?=some u)
  (hQ:∀h',IsZip h' z TI TO (rawInt s.heap.objs.size)->eA h' TO x y u->h'.IsListIter i1 la (k+1)->h'.IsListIter i2 lb (k+1)->h'.IsListIter i3 lc (k+1)->eA h' s.heap.objs.size x y u->
   (∀c o,c≠z->c≠TO->c≠i1->c≠i2->c≠i3->s.heap.get? c=some o->h'.get? c=some o)->Q (.ref s.heap.objs.size) {s with heap:=h'}):
  wpAny (model prog w) A (Builtin.«zip.__next__» ⟨[.ref z],[]⟩) (λfin s'=>∃v,fin=.done (.ret v)/\Q v s') E s:=by
 show wpAny _ _ (field (.ref z) 2 >>=_) _ _ _
 refine wpAny_bind (wpAny_field hz rfl (x:=.bool false) rfl ?_)
 show wpAny _ _ (field (.ref z) 3 >>=_) _ _ _
 refine wpAny_bind (wpAny_field hz rfl (x:=.ref TI) rfl (wpAny_bind (wpAny_seqItems hI rfl ?_)))
 show wpAny _ _ (Builtin.SmallTypes.ownedTupleIsFree (.ref z) >>=_) _ _ _
 refine wpAny_bind ?_
 unfold Builtin.SmallTypes.ownedTupleIsFree
 refine wpAny_bind (wpAny_field hz rfl (x:=.none) rfl (wpAny_pure ?_))
 simp only[if_true]
 refine wpAny_bind (wpAny_rule (wpAny_bind (wpAny_field hz rfl (x:=.ref TO) rfl (wpAny_bind (wpAny_setField_rec hz (by simp) λg1 z1 s1=>?_)))))
 replace z1:IsZip g1 z TI TO .ellipsis:=z1
 have O1:=s1.extBut _ _ D.TOz hO
 have a1:=h1.extBut s1.extBut D.i1z
 have a2:=h2.extBut s1.extBut D.i2z
 have a3:=h3.extBut s1.extBut D.MP
 have b1:=B3.extBut s1.extBut D.az
 have b2:=iM.extBut s1.extBut D.bz
 have b3:=Hv.extBut s1.extBut D.cz
 refine wpAny_bind ?_
 simp only[List.zipIdx_cons,List.zipIdx_nil,List.forIn_cons,List.forIn_nil]
 refine wpAny_bind (wpAny_bind (wpAny_onRaise ?_))
 show wpAny _ _ (Builtin.SmallTypes.nextOf (.ref i1) >>=_) _ _ _
 refine wpAny_bind (wpAny_nextOf_list_item a1 b1 hx λg2 n1 s2=>wpAny_pure ?_)
 have O2:=s2.extBut _ _ D.MQ O1
 refine wpAny_bind (wpAny_seqItems O2 rfl (wpAny_bind (uz O2 λg3 O3 s3=>wpAny_bind (wpAny_letGo (wpAny_pure ?_)))))
 replace O3:eA g3 TO x q r:=O3
 refine wpAny_bind (wpAny_bind (wpAny_onRaise ?_))
 show wpAny _ _ (Builtin.SmallTypes.nextOf (.ref i2) >>=_) _ _ _
 refine wpAny_bind (wpAny_nextOf_list_item ((a2.extBut s2.extBut D.i12.symm).extBut s3.extBut D.MR.symm) ((b2.extBut s2.extBut D.b1).extBut s3.extBut D.XF) hy λg4 n2 s4=>wpAny_pure ?_)
 have O4:=s4.extBut _ _ D.MR O3
 refine wpAny_bind (wpAny_seqItems O4 rfl (wpAny_bind (uz O4 λg5 O5 s5=>wpAny_bind (wpAny_letGo (wpAny_pure ?_)))))
 replace O5:eA g5 TO x y r:=O5
 refine wpAny_bind (wpAny_bind (wpAny_onRaise ?_))
 show wpAny _ _ (Builtin.SmallTypes.nextOf (.ref i3) >>=_) _ _ _
 refine wpAny_bind (wpAny_nextOf_list_item ((((a3.extBut s2.extBut D.Vp.symm).extBut s3.extBut D.MS.symm).extBut s4.extBut D.Vq.symm).extBut s5.extBut D.MS.symm)
  ((((b3.extBut s2.extBut D.c1).extBut s3.extBut D.Vr).extBut s4.extBut D.c2).extBut s5.extBut D.Vr) hu λg6 n3 s6=>wpAny_pure ?_)
 have O6:=s6.extBut _ _ D.MS O5
 refine wpAny_bind (wpAny_seqItems O6 rfl (wpAny_bind (uz O6 λg7 O7 s7=>wpAny_bind (wpAny_letGo (wpAny_pure (wpAny_pure ?_))))))
 replace O7:eA g7 TO x y u:=O7
 refine wpAny_bind (wpAny_seqItems O7 rfl (wpAny_bind (wpAny_newTuple ?_)))
 have sz:g7.objs.size=s.heap.objs.size:=by rw[s7.1,s6.1,s5.1,s4.1,s3.1,s2.1,s1.1]
 have z7:IsZip g7 z TI TO .ellipsis:=s7.extBut _ _ D.TOz.symm (s6.extBut _ _ D.MP.symm (s5.extBut _ _ D.TOz.symm (s4.extBut _ _ D.i2z.symm (s3.extBut _ _ D.TOz.symm (s2.extBut _ _ D.i1z.symm z1)))))
 have k7:∀c o,c≠z->c≠TO->c≠i1->c≠i2->c≠i3->s.heap.get? c=some o->g7.get? c=some o:=λc o c1 c2 c3 c4 c5 e=>
  s7.extBut _ _ c2 (s6.extBut _ _ c5 (s5.extBut _ _ c2 (s4.extBut _ _ c4 (s3.extBut _ _ c2 (s2.extBut _ _ c3 (s1.extBut _ _ c1 e))))))
 have m1:=((((n1.extBut s3.extBut D.MQ.symm).extBut s4.extBut D.i12).extBut s5.extBut D.MQ.symm).extBut s6.extBut D.Vp).extBut s7.extBut D.MQ.symm
 have m2:=((n2.extBut s5.extBut D.MR.symm).extBut s6.extBut D.Vq).extBut s7.extBut D.MR.symm
 have m3:=n3.extBut s7.extBut D.MS.symm
 have zl:z<g7.objs.size:=Heap.lt_size z7
 show wpAny _ _ (Builtin.SmallTypes.ownedTupleHandOut (.ref z) (.ref g7.objs.size) >>=_) _ _ _
 refine wpAny_bind ?_
 unfold Builtin.SmallTypes.ownedTupleHandOut
 have z8:IsZip (g7.push {cls:=.type "tuple",data:=.seq #[x,y,u]}) z TI TO .ellipsis:=Heap.get?_push_of_some _ z7
 refine wpAny_bind (wpAny_setField_rec z8 (by simp) λg9 z9 s9=>?_)
 replace z9:IsZip g9 z TI TO (rawInt g7.objs.size):=z9
 refine wpAny_setField_rec z9 (by simp) λMT zi Ko=>?_
 replace zi:IsZip MT z TI TO (rawInt g7.objs.size):=zi
 have up:∀c o,c≠z->g7.get? c=some o->MT.get? c=some o:=λc o c1 e=>Ko.extBut _ _ c1 (s9.extBut _ _ c1 (Heap.get?_push_of_some _ e))
 have Vs:eA MT g7.objs.size x y u:=Ko.extBut _ _ (aaM zl) (s9.extBut _ _ (aaM zl) (Heap.get?_push_size _ rfl))
 rw[sz] at zi Vs
 refine wpAny_pure ⟨_,rfl,?_⟩
 show Q (.ref g7.objs.size) _
 rw[sz]
 exact hQ MT zi (up _ _ D.TOz O7) (m1.at λo e=>up _ o D.i1z e) (m2.at λo e=>up _ o D.i2z e) (m3.at λo e=>up _ o D.MP e) Vs λc o c1 c2 c3 c4 c5 e=>up c o c1 (k7 c o c1 c2 c3 c4 c5 e)
theorem B4 {z TI TO i1 i2 i3 la lb lc:Addr} {k:Nat} {xs:Array Value} {Q:Fin->Shared->Prop} (hh:A.handled=none) (D:Kn z TI TO i1 i2 i3 la lb lc)
  (hz:IsZip s.heap z TI TO .none) (hI:eA s.heap TI (.ref i1) (.ref i2) (.ref i3))
  (h1:s.heap.IsListIter i1 la k) (B3:s.heap.IsList la xs) (hx:xs[k]?=none)
  (hE:∀h' e,(∀c o,c≠z->c≠i1->s.heap.get? c=some o->h'.get? c=some o)->(∃o,h'.get? e=some o/\o.cls=.type "StopIteration")->E (.ref e) {s with heap:=h'}):
  wpAny (model prog w) A (Builtin.«zip.__next__» ⟨[.ref z],[]⟩) Q E s:=by
 show wpAny _ _ (field (.ref z) 2 >>=_) _ _ _
 refine wpAny_bind (wpAny_field hz rfl (x:=.bool false) rfl ?_)
 show wpAny _ _ (field (.ref z) 3 >>=_) _ _ _
 refine wpAny_bind (wpAny_field hz rfl (x:=.ref TI) rfl (wpAny_bind (wpAny_seqItems hI rfl ?_)))
 show wpAny _ _ (Builtin.SmallTypes.ownedTupleIsFree (.ref z) >>=_) _ _ _
 refine wpAny_bind ?_
 unfold Builtin.SmallTypes.ownedTupleIsFree
 refine wpAny_bind (wpAny_field hz rfl (x:=.none) rfl (wpAny_pure ?_))
 simp only[if_true]
 refine wpAny_bind (wpAny_rule (wpAny_bind (wpAny_field hz rfl (x:=.ref TO) rfl (wpAny_bind (wpAny_setField_rec hz (by simp) λg1 z1 s1=>?_)))))
 replace z1:IsZip g1 z TI TO .ellipsis:=z1
 refine wpAny_bind ?_
 simp only[List.zipIdx_cons,List.zipIdx_nil,List.forIn_cons,List.forIn_nil]
 refine wpAny_bind (wpAny_bind (wpAny_onRaise ?_))
 show wpAny _ _ (Builtin.SmallTypes.nextOf (.ref i1) >>=_) _ _ _
 refine wpAny_bind (wpAny_nextOf_list_end hh (h1.extBut s1.extBut D.i1z) (B3.extBut s1.extBut D.az) hx λg2 e s2 he=>?_)
 obtain⟨oe,N8,MN⟩:=he
 have z2:IsZip g2 z TI TO .ellipsis:=s2 _ _ D.i1z.symm z1
 have ez:e≠z:=λx=>by subst x;rw[z2] at N8;cases N8;simp at MN
 exact wpAny_setField_rec z2 (by simp) λg3 _ s3=>hE g3 e (λc o c1 c3 x=>s3.extBut _ _ c1 (s2 _ _ c3 (s1.extBut _ _ c1 x))) ⟨oe,s3.extBut _ _ ez N8,MN⟩
end
abbrev MU (h:Heap) (la:Addr):Heap:=h.push {cls:=.type "list_iterator",data:=.fields #[.ref la,.int 0 0]}
abbrev MV (h:Heap) (la lb:Addr):Heap:=(MU h la).push {cls:=.type "list_iterator",data:=.fields #[.ref lb,.int 0 0]}
abbrev MW (h:Heap) (la lb lc:Addr):Heap:=(MV h la lb).push {cls:=.type "list_iterator",data:=.fields #[.ref lc,.int 0 0]}
abbrev MX (h:Heap) (la lb lc:Addr):Heap:=(MW h la lb lc).push {cls:=.type "tuple",data:=.seq #[.ref h.objs.size,.ref (MU h la).objs.size,.ref (MV h la lb).objs.size]}
abbrev MY (h:Heap) (la lb lc:Addr):Heap:=(MX h la lb lc).push {cls:=.type "tuple",data:=.seq #[.none,.none,.none]}
abbrev Hw (h:Heap) (la lb lc:Addr):Heap:=(MY h la lb lc).push {cls:=.type "zip",data:=.fields #[.none,.bool false,.bool false,.ref (MW h la lb lc).objs.size,.ref (MX h la lb lc).objs.size]}
set_option maxHeartbeats 2000000 in
theorem B5 (la lb lc:Addr) (xs ys zs:Array Value):
  Meets (Builtin.«zip.__new__» ⟨[.type "zip",.ref la,.ref lb,.ref lc],[]⟩) (λ_ R s=>s.heap.IsList la xs/\s.heap.IsList lb ys/\s.heap.IsList lc zs/\
   R (.ok (.ret (.ref (MY s.heap la lb lc).objs.size))) {s with heap:=Hw s.heap la lb lc}):=
 .of_wp λprog w A R s h=>by
  obtain⟨hp,g,d,tk,os⟩:=s
  obtain⟨B3,iM,Hv,h⟩:=h
  have XG:=sub_zip
  have XH:Heap.IsList (Shared.heap ⟨hp,g,d,tk,os⟩) la xs:=B3
  have XI:Heap.IsList (Shared.heap ⟨hp.push {cls:=.type "list_iterator",data:=.fields #[.ref la,.int 0 0]},g,d,tk,os⟩) lb ys:=Heap.IsList.push iM _
  have XJ:Heap.IsList (Shared.heap ⟨(hp.push {cls:=.type "list_iterator",data:=.fields #[.ref la,.int 0 0]}).push {cls:=.type "list_iterator",data:=.fields #[.ref lb,.int 0 0]},g,d,tk,os⟩) lc zs:=Heap.IsList.push (Heap.IsList.push Hv _) _
  wp_walk using wpAny_pyIter_list XH,wpAny_pyIter_list XI,wpAny_pyIter_list XJ
  exact⟨_,rfl,h⟩
theorem EG (a b c:Value):checkTypeCall "zip" ⟨[a,b,c],[]⟩=pure ():=by kernel_rfl
theorem EH (a b c:Value):checkBuiltinCall "zip.__new__" ⟨[.type "zip",a,b,c],[]⟩=pure ():=by kernel_rfl
theorem EI (a b c d:Value):argsOk "object.__init__" ⟨[a,b,c,d],[]⟩:=by
 unfold argsOk;rw[signature?_of (id:="object.__init__") (n:=['_','_','t','i','n','i','_','_']) (o:=['t','c','e','j','b','o']) (by kernel_rfl) F.owner_object];kernel_rfl
section
variable {prog : Program} {w : World} {A : Around} {E : Value -> Shared -> Prop} {s : Shared}
theorem AD {la lb lc:Addr} {xs ys zs:Array Value} {Q:Value->Shared->Prop} (B3:s.heap.IsList la xs) (iM:s.heap.IsList lb ys) (Hv:s.heap.IsList lc zs)
  (h:∀h' n,n=s.heap.objs.size->IsZip h' (n+5) (n+3) (n+4) .none->eA h' (n+3) (.ref n) (.ref (n+1)) (.ref (n+2))->
   eA h' (n+4) .none .none .none->h'.IsListIter n la 0->h'.IsListIter (n+1) lb 0->h'.IsListIter (n+2) lc 0->
   (∀c o,s.heap.get? c=some o->h'.get? c=some o)->Q (.ref (n+5)) {s with heap:=h'}):
  wpAny (model prog w) A (call (.type "zip") [.ref la,.ref lb,.ref lc]) Q E s:=by
 refine callType_new F.called_zip (by decide) (EG _ _ _) (EH _ _ _) (λobj=>EI obj _ _ _) F.entry_zip_new (B5 la lb lc xs ys zs) ⟨B3,iM,Hv,?_⟩
 have e1:(MU s.heap la).objs.size=s.heap.objs.size+1:=Heap.size_push ..
 have e2:(MV s.heap la lb).objs.size=s.heap.objs.size+2:=by rw[Heap.size_push,e1]
 have e3:(MW s.heap la lb lc).objs.size=s.heap.objs.size+3:=by rw[Heap.size_push,e2]
 have e4:(MX s.heap la lb lc).objs.size=s.heap.objs.size+4:=by rw[Heap.size_push,e3]
 have e5:(MY s.heap la lb lc).objs.size=s.heap.objs.size+5:=by rw[Heap.size_push,e4]
 have f6:(Hw s.heap la lb lc).get? (MY s.heap la lb lc).objs.size=some _:=Heap.get?_push_size _ rfl
 have f5:(Hw s.heap la lb lc).get? (MX s.heap la lb lc).objs.size=some _:=Heap.get?_push_of_some _ (Heap.get?_push_size _ rfl)
 have f4:(Hw s.heap la lb lc).get? (MW s.heap la lb lc).objs.size=some _:=Heap.get?_push_of_some _ (Heap.get?_push_of_some _ (Heap.get?_push_size _ rfl))
 have f3:(Hw s.heap la lb lc).get? (MV s.heap la lb).objs.size=some _:=Heap.get?_push_of_some _ (Heap.get?_push_of_some _ (Heap.get?_push_of_some _ (Heap.get?_push_size _ rfl)))
 have f2:(Hw s.heap la lb lc).get? (MU s.heap la).objs.size=some _:=Heap.get?_push_of_some _ (Heap.get?_push_of_some _ (Heap.get?_push_of_some _ (Heap.get?_push_of_some _ (Heap.get?_push_size _ rfl))))
 have f1:(Hw s.heap la lb lc).get? s.heap.objs.size=some _:=Heap.get?_push_of_some _ (Heap.get?_push_of_some _ (Heap.get?_push_of_some _ (Heap.get?_push_of_some _ (Heap.get?_push_of_some _ (Heap.get?_push_size _ rfl)))))
 show _/\_
 rw[e3,e4,e5] at f6
 rw[e4] at f5
 rw[e1,e2,e3] at f4
 rw[e2] at f3
 rw[e1] at f2
 rw[e5]
 exact⟨⟨_,f6,rfl⟩,h _ _ rfl f6 f4 f5 ⟨_,f1,rfl,rfl⟩ ⟨_,f2,rfl,rfl⟩ ⟨_,f3,rfl,rfl⟩ λc o x=>
  Heap.get?_push_of_some _ (Heap.get?_push_of_some _ (Heap.get?_push_of_some _ (Heap.get?_push_of_some _ (Heap.get?_push_of_some _ (Heap.get?_push_of_some _ x)))))⟩
theorem AE {z TI TO i1 i2 i3 la lb lc:Addr} {k:Nat} {xs ys zs:Array Value} {x y u p q r:Value} {Q:Option Value->Shared->Prop} (D:Kn z TI TO i1 i2 i3 la lb lc)
  (hz:IsZip s.heap z TI TO .none) (hI:eA s.heap TI (.ref i1) (.ref i2) (.ref i3)) (hO:eA s.heap TO p q r)
  (h1:s.heap.IsListIter i1 la k) (h2:s.heap.IsListIter i2 lb k) (h3:s.heap.IsListIter i3 lc k) (B3:s.heap.IsList la xs) (iM:s.heap.IsList lb ys) (Hv:s.heap.IsList lc zs)
  (hx:xs[k]?=some x) (hy:ys[k]?=some y) (hu:zs[k]?=some u)
  (hQ:∀h',IsZip h' z TI TO (rawInt s.heap.objs.size)->eA h' TO x y u->h'.IsListIter i1 la (k+1)->h'.IsListIter i2 lb (k+1)->h'.IsListIter i3 lc (k+1)->eA h' s.heap.objs.size x y u->
   (∀c o,c≠z->c≠TO->c≠i1->c≠i2->c≠i3->s.heap.get? c=some o->h'.get? c=some o)->Q (some (.ref s.heap.objs.size)) {s with heap:=h'}):
  wpAny (model prog w) A (pyNext (.ref z)) Q E s:=by
 have hT:s.TypeIs (.ref z) "zip":=⟨_,hz,rfl⟩
 unfold pyNext
 exact wpAny_bind (wpAny_attempt (wpAny_callSpecial?_slot (name:=Str.ofString "__next__") hT F.slot_zip_next
  (wpAny_call_entry F.slot_zip_next hT F.entry_zip_next
   (AB D hz hI hO h1 h2 h3 B3 iM Hv hx hy hu λh' a1 a2 a3 a4 a5 a6 a7=>wpAny_pure (hQ h' a1 a2 a3 a4 a5 a6 a7)) (F.args_zip_next_1 _))))
theorem sf {z TI TO i1 i2 i3 la lb lc:Addr} {k:Nat} {xs:Array Value} {Q:Option Value->Shared->Prop} (hh:A.handled=none) (D:Kn z TI TO i1 i2 i3 la lb lc)
  (hz:IsZip s.heap z TI TO .none) (hI:eA s.heap TI (.ref i1) (.ref i2) (.ref i3)) (h1:s.heap.IsListIter i1 la k) (B3:s.heap.IsList la xs) (hx:xs[k]?=none)
  (hQ:∀h',(∀c o,c≠z->c≠i1->s.heap.get? c=some o->h'.get? c=some o)->Q none {s with heap:=h'}):wpAny (model prog w) A (pyNext (.ref z)) Q E s:=by
 have hT:s.TypeIs (.ref z) "zip":=⟨_,hz,rfl⟩
 unfold pyNext
 refine wpAny_bind (wpAny_attempt (wpAny_callSpecial?_slot (name:=Str.ofString "__next__") hT F.slot_zip_next
  (wpAny_call_entry F.slot_zip_next hT F.entry_zip_next (B4 hh D hz hI h1 B3 hx λh' e hk he=>?_) (F.args_zip_next_1 _))))
 obtain⟨o,ho,hc⟩:=he
 exact wpAny_bind (wpAny_isInstance (T:="StopIteration") (b:=true) ⟨o,ho,hc⟩ isSubtype_stop (wpAny_pure (hQ _ hk)))
end
noncomputable def N9 (K:PySem.W.Frag) (a b c:Addr):It:=
 ⟨λi H=>∃xs ys zs x y z,bL K H a xs/\bL K H b ys/\bL K H c zs/\xs[i]?=some x/\ys[i]?=some y/\zs[i]?=some z,
  λi H v H'=>∃p,H p=none/\v=.ref p/\∃x y z,(∀xs,bL K H a xs->xs[i]?=some x)/\(∀ys,bL K H b ys->ys[i]?=some y)/\(∀zs,bL K H c zs->zs[i]?=some z)/\H'=upd H p (.tup [x,y,z]),
  λi H=>∃xs,bL K H a xs/\xs.length=i⟩
theorem AF {P:Program} {w:World} {K:PySem.W.Frag} {elts:List Expr} {k:Nat} {pos:Pos} (z TI TO i1 i2 i3 a b c:Addr) (D:Kn z TI TO i1 i2 i3 a b c):
  Turn P w K (.Tuple elts k pos) (N9 K a b c) [z,TI,TO,i1,i2,i3] z (λi h=>IsZip h z TI TO .none/\eA h TI (.ref i1) (.ref i2) (.ref i3)/\(∃x y u,eA h TO x y u)/\h.IsListIter i1 a i/\h.IsListIter i2 b i/\h.IsListIter i3 c i) where
 mem:=by simp
 obj:=λi h st c hc=>by
  obtain⟨hz,EJ,⟨x,y,u,Hx⟩,⟨o1,e1,_,d1⟩,⟨o2,e2,_,d2⟩,⟨o3,e3,_,d3⟩⟩:=st
  simp only[aaD,aaV,or_false] at hc
  rcases hc with rfl | rfl | rfl | rfl | rfl | rfl
  ·exact⟨_,hz,λv q=>by cases q⟩
  ·exact⟨_,EJ,λv q=>by cases q⟩
  ·exact⟨_,Hx,λv q=>by cases q⟩
  ·exact⟨_,e1,λv q=>by rw[d1] at q;cases q⟩
  ·exact⟨_,e2,λv q=>by rw[d2] at q;cases q⟩
  ·exact⟨_,e3,λv q=>by rw[d3] at q;cases q⟩
 keep:=λi h h' st kp=>by
  obtain⟨hz,EJ,⟨x,y,u,Hx⟩,h1,h2,h3⟩:=st
  exact⟨kp z (by simp) _ hz,kp TI (by simp) _ EJ,⟨x,y,u,kp TO (by simp) _ Hx⟩,h1.at λo e=>kp i1 (by simp) o e,h2.at λo e=>kp i2 (by simp) o e,h3.at λo e=>kp i3 (by simp) o e⟩
 item:=by
  intro X hP hw hK hc i pins s σ H E I hf st hg
  subst hP hw hK
  obtain⟨xs,ys,zs,x,y,u,Es,Hy,Vt,hx,hy,hu⟩:=hg
  obtain⟨rV,r1,p1,_⟩:=I.list Es
  obtain⟨ui,r2,p2,_⟩:=I.list Hy
  obtain⟨Oa,r3,p3,_⟩:=I.list Vt
  obtain⟨v1,XM,XN⟩:=r1.get hx
  obtain⟨v2,XO,XQ⟩:=r2.get hy
  obtain⟨v3,XR,Kq⟩:=r3.get hu
  obtain⟨hz,EJ,⟨x0,y0,u0,Hx⟩,h1,h2,h3⟩:=st
  have Vu:∀d∈[z,TI,TO,i1,i2,i3],d<s.heap.objs.size:=λd hd=>by
   simp only[aaD,aaV,or_false] at hd
   obtain⟨o1,e1,_⟩:=h1
   obtain⟨o2,e2,_⟩:=h2
   obtain⟨o3,e3,_⟩:=h3
   rcases hd with rfl | rfl | rfl | rfl | rfl | rfl
   ·exact Heap.lt_size hz
   ·exact Heap.lt_size EJ
   ·exact Heap.lt_size Hx
   ·exact Heap.lt_size e1
   ·exact Heap.lt_size e2
   ·exact Heap.lt_size e3
  refine AE D hz EJ Hx h1 h2 h3 p1.isList p2.isList p3.isList (by simpa using XM) (by simpa using XO) (by simpa using XR) λh' zz OO m1 m2 m3 TT kk=>?_
  have sub:∀d∈[z,TO,i1,i2,i3],d∈[z,TI,TO,i1,i2,i3]:=λd hd=>by simp at hd ⊢;rcases hd with rfl | rfl | rfl | rfl | rfl <;>simp
  have k1:∀d o,d∉[z,TO,i1,i2,i3]->s.heap.get? d=some o->h'.get? d=some o:=λd o hd e=>kk d o (λq=>hd (by simp [q])) (λq=>hd (by simp [q])) (λq=>hd (by simp [q])) (λq=>hd (by simp [q])) (λq=>hd (by simp [q])) e
  have I1:Inv X pins σ H {s with heap:=h'}:=I.moved (t':=s.toks) (ch:=[z,TO,i1,i2,i3]) (λd hd=>hf d (sub d hd)) k1
  have fT:iU X pins H s.heap.objs.size:=I.zY (aaf _) (I.bP.fresh (aaf _))
  refine⟨_,rfl,wpAny_letOwnedTupleGo_zip zz λFW XS s2=>?_⟩
  have tz:s.heap.objs.size≠z:=aaM (Vu z (by simp))
  have k2:∀d o,d∉[z]->h'.get? d=some o->FW.get? d=some o:=λd o hd e=>s2.extBut _ _ (λq=>hd (by simp [q])) e
  have I2:Inv X pins σ H {s with heap:=FW}:=I1.moved (s:={s with heap:=h'}) (t':=s.toks) (ch:=[z]) (λd hd=>hf d (by simp at hd;simp [hd])) k2
  have NZ:IsTup FW s.heap.objs.size #[v1,v2,v3]:=⟨_,s2.extBut _ _ tz TT,rfl,_,rfl⟩
  have I3:Inv X pins σ (upd H s.heap.objs.size (.tup [x,y,u])) {s with heap:=FW}:=
   I2.take fT I.sz ⟨by show 3<=sizeLine;decide,[v1,v2,v3],.cons XN (.cons XQ (.cons Kq .nil)),NZ⟩
  refine⟨.ref s.heap.objs.size,_,I3,rfl,⟨_,fT.1,rfl,x,y,u,λXp q=>?_,λMZ q=>?_,λzs' q=>?_,rfl⟩,⟨XS,s2.extBut _ _ D.TIz (kk _ _ D.TIz D.TITO D.XB D.XC D.XD EJ),⟨_,_,_,s2.extBut _ _ D.TOz OO⟩,m1.extBut s2.extBut D.i1z,m2.extBut s2.extBut D.i2z,m3.extBut s2.extBut D.MP⟩,λd hd=>?_⟩
  ·rw[I.iT q Es];exact hx
  ·rw[I.iT q Hy];exact hy
  ·rw[I.iT q Vt];exact hu
  ·rw[aD (aai (Vu d hd))]
   exact(hf d hd).1
 done:=by
  intro X hP hw hK hc i pins s σ H E I hf st hg
  subst hP hw hK
  obtain⟨xs,Es,hi⟩:=hg
  obtain⟨rV,r1,p1,_⟩:=I.list Es
  obtain⟨hz,EJ,Hx,h1,h2,h3⟩:=st
  have l1:=r1.length
  refine sf (I.ok.hd hc) D hz EJ h1 p1.isList (Array.getElem?_eq_none (by simp only[aan];omega)) λh' kk=>⟨rfl,?_⟩
  exact I.moved (t':=s.toks) (ch:=[z,i1]) (λd hd=>hf d (by simp at hd ⊢;rcases hd with rfl | rfl <;>simp)) λd o hd e=>kk d o (λq=>hd (by simp [q])) (λq=>hd (by simp [q])) e
 self:=λ_ _ _ _ _ st h=>wpAny_pyIter_zip st.1 h
theorem Kr {x y z:V} {us:List Value} (r:bF [x,y,z] us):∃u v t,us=[u,v,t]/\RelV x u/\RelV y v/\RelV z t:=by
 cases r with
 | cons a r=>cases r with
  | cons b r=>cases r with
   | cons c r=>cases r;exact⟨_,_,_,rfl,a,b,c⟩
section
variable {X : Cx} {elts : List Expr} {kk : Nat} {rR : Pos} {K : PySem.W.Frag}
noncomputable def B6 (K:PySem.W.Frag) (ta:TA):TI:=λσ H R=>ta σ H λvs H1=>∃a b c,vs=[.ref a,.ref b,.ref c]/\(∃xs,bL K H1 a xs)/\(∃ys,bL K H1 b ys)/\(∃zs,bL K H1 c zs)/\R (N9 K a b c) H1
theorem EK {a b c:Expr} {ta:TA} {p pos:Pos} (hg:Gl X "zip") (hm:X.mg "zip"=none) (ha:PA X [a,b,c] ta) (hs:starEach [a,b,c] X.env=(false,eval a X.env)::starEach [b,c] X.env:=by rfl) (GU:starEach [b,c] X.env=[(false,eval b X.env),(false,eval c X.env)]:=by rfl):
  PI X (.Tuple elts kk rR) (.Call (.Name "zip" p) [a,b,c] [] pos) (B6 X.K ta):=by
 intro pins s σ H R I h
 refine Call_ (hZ I hg hm rfl (PyProof.Rows.callWith_type1 (cG (ha pos pins s σ H _ I h) λus s1 ⟨vs,H1,I1,r1,q1⟩=>?_) hs (by rw[GU];rfl)))
 obtain⟨a,b,c,e,⟨xs,q1⟩,⟨ys,q2⟩,⟨zs,q3⟩,q⟩:=q1
 subst e
 obtain⟨u,u',u'',rfl,ra,rb,rc⟩:=Kr r1
 cases ra
 cases rb
 cases rc
 obtain⟨rV,v1,p1,_⟩:=I1.list q1
 obtain⟨ui,v2,p2,_⟩:=I1.list q2
 obtain⟨Oa,v3,p3,_⟩:=I1.list q3
 have la:a<s1.heap.objs.size:=by obtain⟨o,e,_⟩:=p1.isList;exact Heap.lt_size e
 have lb:b<s1.heap.objs.size:=by obtain⟨o,e,_⟩:=p2.isList;exact Heap.lt_size e
 have lc:c<s1.heap.objs.size:=by obtain⟨o,e,_⟩:=p3.isList;exact Heap.lt_size e
 refine AD p1.isList p2.isList p3.isList λh' n en b1 b2 b3 b4 b5 b6 kp=>?_
 refine wpAny_pyIter_zip b1 ?_
 have I2:Inv X pins σ H1 {s1 with heap:=h'}:=I1.kept (t':=s1.toks) kp
 rw[<-en] at la lb lc
 refine⟨n+5,[n+5,n+3,n+4,n,n+1,n+2],_,_,H1,rfl,I2,
  AF (n+5) (n+3) (n+4) n (n+1) (n+2) a b c (by constructor <;>(first | exact aai (by omega) | exact aaM (by omega) | exact aai la | exact aai lb | exact aai lc | exact aai (aas la (Nat.le_add_right _ _)) | exact aai (aas lb (Nat.le_add_right _ _)) | exact aai (aas lc (Nat.le_add_right _ _)))),⟨b1,b2,⟨_,_,_,b3⟩,b4,b5,b6⟩,λc hc=>?_,q⟩
 have Kc:s1.heap.objs.size<=c:=by
  simp only[aaD,aaV,or_false] at hc
  rcases hc with rfl | rfl | rfl | rfl | rfl | rfl <;>omega
 exact I1.zY Kc (I1.bP.fresh Kc)
theorem B7 {a b c:Expr} {ta:TA} {p pos:Pos} (hg:Gl X "zip") (hm:X.mg "zip"=none) (ha:PA X [a,b,c] ta) (n1:noStar a=true:=by rfl) (n2:noStar b=true:=by rfl) (n3:noStar c=true:=by rfl) (hK:X.K=K:=by rfl):
  PI X (.Tuple elts kk rR) (.Call (.Name "zip" p) [a,b,c] [] pos) (B6 K ta):=by subst hK;exact EK hg hm ha (se n1) (by rw[se n2,se n3];rfl)
end
theorem B8 {K:PySem.W.Frag} {a b c:Addr} {xs ys zs:List V} {Ok:Hp->Prop} (h1:∀H,Ok H->bL K H a xs) (h2:∀H,Ok H->bL K H b ys) (h3:∀H,Ok H->bL K H c zs) (l2:ys.length=xs.length) (l3:zs.length=xs.length):
  Src (N9 K a b c) Ok xs.length (λi v H H3=>∃p x y z,H p=none/\v=.ref p/\xs[i]?=some x/\ys[i]?=some y/\zs[i]?=some z/\H3=upd H p (.tup [x,y,z])) where
 go:=λi H hi ok=>⟨xs,ys,zs,xs[i],ys[i],zs[i],h1 H ok,h2 H ok,h3 H ok,by simp,by simp,by simp⟩
 w6:=λi H x H3 hi ok ⟨p,n,e,u,v,t,e1,e2,e3,e4⟩=>⟨p,u,v,t,n,e,e1 xs (h1 H ok),e2 ys (h2 H ok),e3 zs (h3 H ok),e4⟩
 stop:=λH ok=>⟨xs,h1 H ok,rfl⟩
end L2
namespace L2
open PySem PySem.Spec PyProof.Rows PySem.W
section
variable {X : Cx} {K : PySem.W.Frag}
noncomputable def tSortR (K:PySem.W.Frag) (te:TE):TE:=λσ H Q=>te σ H λv H1=>∃p ns,v=.ref p/\bL K H1 p (List.map V.int ns)/\ns.length<64/\∀l,H1 l=none->Q (.ref l) (upd H1 l (.lst (List.map V.int (Nm.uw ns).reverse)))
theorem B9 {e d:Expr} {te:TE} {p1 pos kp:Pos} (hg:Gl X "sorted") (hm:X.mg "sorted"=none) (he:PE X e te) (hd:PE X d (tC (.bl true))) (n1:noStar e=true:=by rfl):
  PE X (.Call (.Name "sorted" p1) [e] [⟨some "reverse",d,kp⟩] pos) (tSortR X.K te):=by
 intro pins s σ H Q I h
 refine wpAny_Call_Name_kw (hZ I hg hm (u:=.builtin "sorted") rfl ?_ (by decide) (by decide))
 refine PyProof.Rows.callWith_kw (e:=e) (rest:=[]) ?_ (by rw[se n1];rfl) (by rw[se n1];rfl) rfl rfl
 rw[se n1]
 show wpAny _ _ (spliced [(false,eval e X.env)]) _ _ s
 refine Calls.spliced_cons (cG (he pins s σ H _ I h) λu s1 ⟨x,H1,I1,r1,q1⟩=>Calls.spliced_nil ?_)
 refine PyProof.Rows.kws_cons (cG (hd pins s1 σ H1 (λv H2=>v=.bl true/\H2=H1) I1 ⟨rfl,rfl⟩) λdv s2 ⟨y,H2,I2,r2,ey,eh⟩=>PyProof.Rows.kws_nil ?_)
 subst ey
 subst eh
 have r2:dv=.bool true:=r2
 subst r2
 obtain⟨p,ns,rfl,hq,hn,q⟩:=q1
 cases r1
 obtain⟨br,rv,pl,hz⟩:=I2.list hq
 have hl:=rv.length
 rw[aac] at hl
 show wpAny _ _ (call (.builtin "sorted") [.ref p] [(Str.ofString "reverse",.bool true)]) _ _ _
 refine sorted_ints_rev pl.isList (intsAre_of rv) (by omega) λout Kf a1 a2 a3=>?_
 have a3:Kf.Pairwise (·≥·):=a3
 have e3:Kf=(Nm.uw ns).reverse:=by
  have:=Nm.ux ((List.reverse_perm Kf).trans a2) (List.pairwise_reverse.mpr a3)
  rw[<-this,List.reverse_reverse]
 subst e3
 obtain⟨e,he⟩:=sortedAll_at s2.heap br out
 have fr:=I2.bP.fresh (a:=s2.heap.objs.size+1) (Nat.le_succ _)
 refine⟨.ref (s2.heap.objs.size+1),_,I2.laid (t':=s2.toks) (λ_ _=>sortedAll_old) (Nat.le_succ _) (o:=.lst (List.map V.int (Nm.uw ns).reverse)) ⟨?_,out.toList,e,iu a1,?_⟩,rfl,q _ fr⟩
 ·rw[aac,List.length_reverse,Nm.iq,sizeLine_eq];omega
 ·exact he
theorem AG {e d:Expr} {te:TE} {p1 pos kp:Pos} (hg:Gl X "sorted") (hm:X.mg "sorted"=none) (he:PE X e te) (hd:PE X d (tC (.bl true))) (n1:noStar e=true:=by rfl) (hK:X.K=K:=by rfl):
  PE X (.Call (.Name "sorted" p1) [e] [⟨some "reverse",d,kp⟩] pos) (tSortR K te):=by subst hK;exact B9 hg hm he hd n1
end
end L2
namespace PySem.SeqAt
open AutoSeq1 (wpAny_loadPart')
open MeetsSeq MeetsSeq2 MeetsSeq3
end PySem.SeqAt
namespace L2
open PySem PySem.Spec PyProof.Rows PySem.W
noncomputable def F0:List Int->List Int->Bool
 | [],[]=>true
 | [],_::_=>false
 | _::_,[]=>true
 | a::r,b::q=>if a=b then F0 r q else decide (b<=a)
section
variable {X : Cx} {K : PySem.W.Frag}
end
end L2
namespace PySem.UL
section
variable {prog : Program} {w : World} {A : Around} {E : Value -> Shared -> Prop} {s : Shared}
end
end PySem.UL
namespace L2
open PySem PySem.Spec PyProof.Rows PySem.W
section
variable {X : Cx} {K : PySem.W.Frag}
end
end L2
namespace L2
open PySem PySem.Spec PyProof.Rows
structure o6 (P:Program) (w:World) (K:PySem.W.Frag) (mg:Str->Option Value) (base:Heap) (CX:oV) (k:Nat) (x:Str) (C:Addr) (ps:List Str) (sp:Sp):Prop where
 ex:∃f fd,Mk K C f/\fH P w K mg base CX k f fd ps sp/\mg x=some (.ref C)/\Binds K fd ps []
section
variable {X : Cx}
theorem F1 {CX:oV} {k:Nat} {x:Str} {C:Addr} {ps:List Str} {sp:Sp} {E:XK} {e:Expr} {es:List Expr} {t:TA} {p pos:Pos} (M:o6 X.prog X.w X.K X.mg X.base CX k x C ps sp) (hr:dH (k+1) X.A) (hg:Gl X x) (hx:dX CX X E) (ha:PA X (e::es) t)
  (vt:(x==("__debug__":Str))=false:=by decide) (he:starEach (e::es) X.env=(false,eval e X.env)::starEach es X.env:=by rfl) (hpl:(backTo pos (starEach es X.env)).any (·.1)=false:=by rfl):
  PE X (.Call (.Name x p) (e::es) [] pos) (p9 C sp [] E t):=by
 obtain⟨f,fd,m,F,hm,hb⟩:=M.ex
 exact D7 m F hr hg hm hb .nil hx ha vt he hpl
end
structure M0 (K:PySem.W.Frag) (mg:Str->Option Value) (x qual:Str) (st:Stmt) (C:Addr):Prop where
 ex:∃f fd,xE K "__init__" qual st f fd/\Mk K C f/\mg x=some (.ref C)
theorem M0.eF {P:Program} {w:World} {K:PySem.W.Frag} {mg:Str->Option Value} {base:Heap} {CX:oV} {x qual:Str} {st:Stmt} {C:Addr} {ps:List Str} {k:Nat} {sp:Sp} (D:M0 K mg x qual st C)
  (hb:∀(kV doc pm:Value) (an:Option Addr) (bV ct:Value) (us:List Value),us.length=ps.length->bindArgs (PySem.W.fnOf "__init__" qual (aR st) (aO st) (aj st) .none kV doc pm an bV ct) ⟨us,[]⟩=pure (ps.zip us))
  (h:∀f fd,xE K "__init__" qual st f fd->fH P w K mg base CX k f fd ps sp):o6 P w K mg base CX k x C ps sp:=by
 obtain⟨f,fd,F,m,hm⟩:=D.ex
 exact⟨f,fd,m,h f fd F,hm,F.binds hb⟩
end L2
namespace L2
open PySem PySem.Spec PyProof.Rows
noncomputable instance Jh:DecidableEq PyData:=λ_ _=>Classical.propDecidable _
mutual
noncomputable def dt:PyData->Bool
 | .int _=>true
 | .str x=>PyData.canLay0 (.str x)
 | .tuple xs=>i7 xs
 | _=>false
noncomputable def i7:List PyData->Bool
 | []=>true
 | x::xs=>dt x && i7 xs
end
mutual
theorem iw:∀(d:PyData),dt d=true->d.canLay0=true
 | .none,h=>by simp [dt] at h
 | .bool _,h=>by simp [dt] at h
 | .int _,_=>by simp [PyData.canLay0]
 | .str x,h=>by rw[dt] at h;exact h
 | .list _,h=>by simp [dt] at h
 | .tuple xs,h=>by rw[dt] at h;rw[PyData.canLay0];exact vO xs h
 | .dict _,h=>by simp [dt] at h
theorem vO:∀(xs:List PyData),i7 xs=true->PyData.canLayAll0 xs=true
 | [],_=>by simp [PyData.canLayAll0]
 | x::xs,h=>by
  rw[i7,aaF] at h
  rw[PyData.canLayAll0,aaF]
  exact⟨iw x h.1,vO xs h.2⟩
end
mutual
theorem xN:∀(x y:PyData),dt x=true->dt y=true->PyData.eqv x y=decide (x=y)
 | .int i,y,_,hy=>by
  cases y with
  | int j=>
   rw[PyData.eqv]
   by_cases c:i=j
   ·subst c;simp
   ·rw[decide_eq_false (λe=>c (by injection e))]
    simp [c]
  | str _=>simp [PyData.eqv]
  | tuple _=>simp [PyData.eqv]
  | _=>simp [dt] at hy
 | .str a,y,_,hy=>by
  cases y with
  | str b=>
   rw[PyData.eqv]
   by_cases c:a=b
   ·subst c;simp
   ·rw[decide_eq_false (λe=>c (by injection e))]
    simp [c]
  | int _=>simp [PyData.eqv]
  | tuple _=>simp [PyData.eqv]
  | _=>simp [dt] at hy
 | .tuple xs,y,hx,hy=>by
  cases y with
  | tuple ys=>
   rw[dt] at hx hy
   rw[PyData.eqv,zj xs ys hx hy]
   by_cases c:xs=ys
   ·subst c;simp
   ·rw[decide_eq_false c,decide_eq_false (λe=>c (by injection e))]
  | int _=>simp [PyData.eqv]
  | str _=>simp [PyData.eqv]
  | _=>simp [dt] at hy
 | .none,_,h,_=>by simp [dt] at h
 | .bool _,_,h,_=>by simp [dt] at h
 | .list _,_,h,_=>by simp [dt] at h
 | .dict _,_,h,_=>by simp [dt] at h
theorem zj:∀(xs ys:List PyData),i7 xs=true->i7 ys=true->PyData.eqvAll xs ys=decide (xs=ys)
 | [],[],_,_=>by simp [PyData.eqvAll]
 | [],_::_,_,_=>by simp [PyData.eqvAll]
 | _::_,[],_,_=>by simp [PyData.eqvAll]
 | x::xs,y::ys,hx,hy=>by
  rw[i7,aaF] at hx hy
  rw[PyData.eqvAll,xN x y hx.1 hy.1,zj xs ys hx.2 hy.2]
  by_cases c:x=y
  ·subst c
   by_cases d:xs=ys
   ·subst d;simp
   ·rw[decide_eq_false d,decide_eq_false (λe=>d (List.cons.inj e).2)];simp
  ·rw[decide_eq_false c,decide_eq_false (λe=>c (List.cons.inj e).1)];simp
end
mutual
theorem qv {h h':Heap} {d:Addr} {o:Obj} {es ep} (ho:h.get? d=some o) (hd:o.data=.dict es ep) (hs:Heap.SameBut d h h'):∀(x:PyData) (v:Value) (as:List Addr),dt x=true->Reads h v x as->Reads h' v x as
 | .int _,_,_,_,r=>by cases r;exact .int _ _
 | .str _,_,_,_,r=>by cases r;exact .str _ _
 | .tuple xs,_,_,hx,r=>by
  rw[dt] at hx
  cases r with
  | @tuple a o' vs n _ _ e c q t=>
   have ne:a≠d:=λz=>by
    subst z
    rw[ho] at e
    cases e
    rw[hd] at q
    cases q
   exact .tuple ((hs.2 a ne).trans e) c q (o7 ho hd hs xs _ _ hx t)
 | .none,_,_,h,_=>by simp [dt] at h
 | .bool _,_,_,h,_=>by simp [dt] at h
 | .list _,_,_,h,_=>by simp [dt] at h
 | .dict _,_,_,h,_=>by simp [dt] at h
theorem o7 {h h':Heap} {d:Addr} {o:Obj} {es ep} (ho:h.get? d=some o) (hd:o.data=.dict es ep) (hs:Heap.SameBut d h h'):∀(xs:List PyData) (vs:List Value) (as:List Addr),i7 xs=true->ReadsAll h vs xs as->ReadsAll h' vs xs as
 | [],_,_,_,r=>by cases r;exact .nil
 | x::xs,_,_,hx,r=>by
  rw[i7,aaF] at hx
  cases r with
  | cons r1 r2=>exact .cons (qv ho hd hs x _ _ hx.1 r1) (o7 ho hd hs xs _ _ hx.2 r2)
end
mutual
noncomputable def vP (w:World):PyData->Int
 | .int i=>GF w (.inl i)
 | .str x=>GF w (.inr x)
 | .tuple xs=>reduceHash (Builtin.Tuple.tupleHashOf (gB w xs))
 | _=>0
noncomputable def gB (w:World):List PyData->List Int
 | []=>[]
 | x::xs=>vP w x::gB w xs
end
mutual
noncomputable def Kt:PyData->Nat
 | .tuple xs=>qw xs+1
 | _=>1
noncomputable def qw:List PyData->Nat
 | []=>0
 | x::xs=>Kt x+qw xs
end
section
variable {prog : Program} {w : World}
noncomputable def PH (prog:Program) (w:World) (m:Nat) (h:Heap) (d:PyData) (v:Value):Prop:=∀(A:Around) (E:Value->Shared->Prop) (s:Shared) (Q:Int->Shared->Prop),s.heap=h->A.units+m<cLine->
 Q (vP w d) {s with toks:=s.toks+Kt d}->wpAny (model prog w) A (pyHash v) Q E s
inductive F2 (prog:Program) (w:World) (m:Nat) (h:Heap):List PyData->List Value->Prop
 | nil:F2 prog w m h [] []
 | cons {d v ds vs}:PH prog w m h d v->F2 prog w m h ds vs->F2 prog w m h (d::ds) (v::vs)
theorem AH (xs ys:List PyData):gB w (xs++ys)=gB w xs++gB w ys:=by
 induction xs with
 | nil=>simp [gB]
 | cons x xs ih=>simp [gB,ih]
theorem Ca (xs ys:List PyData):qw (xs++ys)=qw xs+qw ys:=by
 induction xs with
 | nil=>simp [qw]
 | cons x xs ih=>simp [qw,ih,Nat.add_assoc]
theorem Cb {m:Nat} {h:Heap} {ds:List PyData} {a:Addr} {o:Obj} {items n} (ho:h.get? a=some o) (hc:o.cls=.type "tuple") (hd:o.data=.seq items n) (hi:F2 prog w m h ds items.toList):PH prog w (m+1) h (.tuple ds) (.ref a):=by
 intro A E s Q hh hu hq
 subst hh
 have hT:s.TypeIs (.ref a) "tuple":=⟨o,ho,hc⟩
 have XT:A.units<cLine:=by omega
 unfold pyHash
 first | unfold pyHashByItsType | skip
 first | refine wpAny_bind (wpAny_cRoomFor_or (.inr XT) ?_) | skip
 refine wpAny_bind (wpAny_specialOf hT F.slot_tuple_hash.lookup ?_)
 show wpAny _ _ (if (some (Value.builtin "tuple.__hash__")==some Value.none)=true then _ else _) Q E s
 rw[if_neg (by rw[beq_builtin_none];exact aar)]
 refine wpAny_bind (wpAny_specialOf hT F.slot_tuple_hash.lookup ?_)
 show wpAny _ _ (callSpecialIfBoundUnlessNone? (.ref a) "__hash__" _ >>=_) Q E s
 refine wpAny_bind (wpAny_callSpecialIfBoundUnlessNone?_slot hT F.slot_tuple_hash (wpAny_call_entry F.slot_tuple_hash hT F.entry_tuple_hash ?_ (F.args_tuple_hash_1 _)))
 show wpAny _ _ (Builtin.Tuple.tupleItemsOf (.ref a) >>=_) _ _ s
 refine wpAny_bind (wpAny_tupleItemsOf ho hd ?_)
 refine wpAny_bind ?_
 rw[<-Array.forIn_toList]
 refine wpAny_forIn_list _
  (λrest (b:Array Int) s'=>∃done left,ds=done++left/\F2 prog w m s.heap left rest/\b.toList=gB w done/\s'={s with toks:=s.toks+qw done})
  _ ?_ ?_ _ _ ⟨[],ds,rfl,hi,rfl,rfl⟩
 ·rintro x rest b s' ⟨done,left,rfl,hl,hb,rfl⟩
  cases hl with
  | @cons k _ Vv _ h1 Vw=>
   refine wpAny_bind (h1 _ _ _ _ rfl (by show A.units+1+m<cLine;omega) ?_)
   have e1:(b.push (vP w k)).toList=gB w (done++ [k]):=by rw[AH];simp [hb,gB]
   have e2:s.toks+qw done+Kt k=s.toks+qw (done++ [k]):=by rw[Ca];simp [qw,Nat.add_assoc]
   first
    | exact wpAny_pure ⟨done++ [k],Vv,by simp,Vw,e1,by rw[<-e2]⟩
    | exact wpAny_bind (wpAny_pure (wpAny_pure ⟨done++ [k],Vv,by simp,Vw,e1,by rw[<-e2]⟩))
 ·rintro b s' ⟨done,left,rfl,hl,hb,rfl⟩
  cases hl
  rw[aaP] at hq
  show wpAny _ _ (retInt (Builtin.Tuple.tupleHashOf b.toList)) _ _ _
  rw[hb]
  refine wpAny_ret_mkInt ?_
  show wpAny _ _ (if (decide (-(2:Int)^63<=Builtin.Tuple.tupleHashOf (gB w done)) && decide (Builtin.Tuple.tupleHashOf (gB w done)<2^63))=true then _ else _) Q E _
  rw[vP,Kt] at hq
  unfold reduceHash at hq
  by_cases hr:(decide (-(2:Int)^63<=Builtin.Tuple.tupleHashOf (gB w done)) && decide (Builtin.Tuple.tupleHashOf (gB w done)<2^63))=true
  ·rw[if_pos hr]
   rw[if_pos hr] at hq
   exact wpAny_pure (by simpa [Nat.add_assoc] using hq)
  ·rw[if_neg hr]
   rw[if_neg hr] at hq
   exact wpAny_bind (wpAny_rule (wpAny_pure (by simpa [Nat.add_assoc] using hq)))
mutual
theorem Cc {h:Heap}:∀(d:PyData) (v:Value) (as:List Addr),dt d=true->Reads h v d as->PH prog w d.depth h d v
 | .int i,_,_,_,r=>by
  cases r with
  | int _ t=>
   intro A E s Q _ _ hq
   exact(cF prog w).pyHash (k:=.inl i) (qb (k:=.inl i) ⟨t,rfl⟩) hq
 | .str x,_,_,_,r=>by
  cases r with
  | str _ t=>
   intro A E s Q _ _ hq
   exact(cF prog w).pyHash (k:=.inr x) (qb (k:=.inr x) ⟨t,rfl⟩) hq
 | .tuple xs,_,_,hx,r=>by
  rw[dt] at hx
  cases r with
  | tuple e c q t=>exact Cb e c q (zk xs _ _ hx t)
 | .none,_,_,h,_=>by simp [dt] at h
 | .bool _,_,_,h,_=>by simp [dt] at h
 | .list _,_,_,h,_=>by simp [dt] at h
 | .dict _,_,_,h,_=>by simp [dt] at h
theorem zk {h:Heap}:∀(ds:List PyData) (vs:List Value) (as:List Addr),i7 ds=true->ReadsAll h vs ds as->F2 prog w (PyData.depthAll ds) h ds vs
 | [],_,_,_,r=>by cases r;exact .nil
 | x::xs,_,_,hx,r=>by
  rw[i7,aaF] at hx
  cases r with
  | cons r1 r2=>
   have p1:=Cc x _ _ hx.1 r1
   have p2:=zk xs _ _ hx.2 r2
   have up:∀{m m':Nat} {ds:List PyData} {vs:List Value},m<=m'->F2 prog w m h ds vs->F2 prog w m' h ds vs:=λl q=>by
    induction q with
    | nil=>exact .nil
    | cons p _ ih=>exact .cons (λA E s Q e u=>p A E s Q e (by omega)) ih
   refine .cons (λA E s Q e u=>p1 A E s Q e ?_) (up ?_ p2)
   ·rw[PyData.depthAll] at u
    omega
   ·rw[PyData.depthAll]
    omega
end
theorem vQ {h:Heap} {k:Nat} {a:Addr} {o:Obj} {items n} (ho:h.get? a=some o) (hc:o.cls=.type "tuple") (hd:o.data=.seq items n) (hi:∀v∈items.toList,∀(A:Around) (E:Value->Shared->Prop) (s:Shared) (Q:Bool->Shared->Prop),s.heap=h->Q true s->wpAny (model prog w) A (eqIsQuiet k v) Q E s)
  (A:Around) (E:Value->Shared->Prop) (s:Shared) (Q:Bool->Shared->Prop) (hh:s.heap=h) (hq:Q true s):wpAny (model prog w) A (eqIsQuiet (k+1) (.ref a)) Q E s:=by
 subst hh
 have hT:s.TypeIs (.ref a) "tuple":=⟨o,ho,hc⟩
 unfold eqIsQuiet
 refine wpAny_bind (wpAny_specialOf hT F.slot_tuple_eq.lookup ?_)
 show wpAny _ _ (isInstance (.ref a) (.type "tuple") >>=_) _ _ s
 refine wpAny_bind (wpAny_isInstance hT isSubtype_tuple_tuple ?_)
 simp only[Bool.not_true,Bool.false_eq_true,if_false]
 refine wpAny_bind (wpAny_seqItems ho hd ?_)
 refine wpAny_bind ?_
 show wpAny _ _ (forIn items _ _) _ _ s
 rw[<-Array.forIn_toList]
 refine wpAny_forIn_list _ (λrest r s'=>r.1=none/\s'=s/\∀v∈rest,v∈items.toList) _ ?_ ?_ _ _ ⟨rfl,rfl,λ_ h=>h⟩
 ·rintro v rest r s' ⟨hr,rfl,An⟩
  refine wpAny_bind (hi v (An v aap) _ _ _ _ rfl ?_)
  simp only[Bool.not_true,Bool.false_eq_true,if_false]
  exact wpAny_pure ⟨rfl,rfl,λu Ku=>An u (aaj _ Ku)⟩
 ·rintro⟨r1,r2⟩ s' ⟨hr,rfl,_⟩
  simp only at hr
  subst hr
  exact wpAny_pure hq
mutual
theorem tI {h:Heap}:∀(d:PyData) (v:Value) (as:List Addr) (k:Nat),dt d=true->d.depth<=k->Reads h v d as->∀(A:Around) (E:Value->Shared->Prop) (s:Shared) (Q:Bool->Shared->Prop),s.heap=h->Q true s->wpAny (model prog w) A (eqIsQuiet k v) Q E s
 | .int _,_,_,_,_,_,r=>by
  cases r
  intro A E s Q _ hq
  rw[eqIsQuiet_byValue _ rfl]
  exact wpAny_pure hq
 | .str _,_,_,_,_,_,r=>by
  cases r
  intro A E s Q _ hq
  rw[eqIsQuiet_byValue _ rfl]
  exact wpAny_pure hq
 | .tuple xs,_,_,k,hx,hk,r=>by
  rw[dt] at hx
  rw[PyData.depth] at hk
  cases k with
  | zero=>omega
  | succ k=>
   cases r with
   | tuple e c q t=>exact vQ e c q (qx xs _ _ k hx (by omega) t)
 | .none,_,_,_,h,_,_=>by simp [dt] at h
 | .bool _,_,_,_,h,_,_=>by simp [dt] at h
 | .list _,_,_,_,h,_,_=>by simp [dt] at h
 | .dict _,_,_,_,h,_,_=>by simp [dt] at h
theorem qx {h:Heap}:∀(ds:List PyData) (vs:List Value) (as:List Addr) (k:Nat),i7 ds=true->PyData.depthAll ds<=k->ReadsAll h vs ds as->∀v∈vs,∀(A:Around) (E:Value->Shared->Prop) (s:Shared) (Q:Bool->Shared->Prop),s.heap=h->Q true s->wpAny (model prog w) A (eqIsQuiet k v) Q E s
 | [],_,_,_,_,_,r=>by
  cases r
  intro v hv
  simp at hv
 | x::xs,_,_,k,hx,hk,r=>by
  rw[i7,aaF] at hx
  rw[PyData.depthAll] at hk
  cases r with
  | cons r1 r2=>
   intro v hv
   rcases List.mem_cons.mp hv with rfl | hv
   ·exact tI x _ _ k hx.1 (by omega) r1
   ·exact qx xs _ _ k hx.2 (by omega) r2 v hv
end
noncomputable def XU (h:Heap) (k:PyData) (a:Addr):Prop:=dt k=true/\k.depth<=8/\∃as,Reads h (.ref a) k as
noncomputable def gP (prog:Program) (w:World):HeapKind prog w PyData where
 is:=XU
 hash:=vP w
 draws:=Kt
 room:=λA=>A.units+8<cLine
 inj:=fun⟨hx,_,_,rx⟩ ⟨_,_,_,ry⟩=>SeqAt.Reads.unique _ _ _ _ _ (iw _ hx) rx ry
 keeps:=fun⟨hx,hd,as,r⟩ ho M3 hs=>⟨hx,hd,as,qv ho M3 hs _ _ _ hx r⟩
 pyHash:=λhu ⟨hx,hd,_,r⟩ h=>Cc _ _ _ hx r _ _ _ _ rfl (by omega) h
 eqBool:=λ{A E s x y a b Q} hu ⟨hx,dx,_,rx⟩ ⟨hy,dy,_,ry⟩ h=>SeqAt.eqBoolOverData _ _ _ _ _ _ _ _ _ _ _ _ rx ry (iw _ hx) (iw _ hy) (by omega) (by rw[xN _ _ hx hy];exact h)
 quiet:=fun⟨hx,hd,_,r⟩ h=>tI _ _ _ 8 hx hd r _ _ _ _ rfl h
end
end L2
namespace L2
open PySem PySem.Spec PyProof.Rows
mutual
noncomputable def cO:Dat->PyData
 | .cZ=>.none
 | .bl b=>.bool b
 | .int i=>.int i
 | .str x=>.str x
 | .tup l=>.tuple (mC l)
 | .lst l=>.list (mC l)
noncomputable def mC:List Dat->List PyData
 | []=>[]
 | d::ds=>cO d::mC ds
end
section
variable {P : Program} {w : World} {H : Hp} {h : Heap}
mutual
theorem fU (ok:gG P w H h):∀(d:Dat) (v:V) (u:Value),Rep H d v->RelV v u->∃as,Reads h u (cO d) as
 | .cZ,v,u,r,q=>by
  rw[Rep] at r
  subst r
  cases (show u=Value.none from q)
  exact⟨_,.none⟩
 | .bl b,v,u,r,q=>by
  rw[Rep] at r
  subst r
  cases (show u=Value.bool b from q)
  exact⟨_,.bool b⟩
 | .int i,v,u,r,q=>by
  rw[Rep] at r
  subst r
  obtain⟨t,rfl⟩:=(show ∃t,u=Value.int i t from q)
  exact⟨_,.int i t⟩
 | .str x,v,u,r,q=>by
  rw[Rep] at r
  subst r
  obtain⟨t,rfl⟩:=(show ∃t,u=Value.str x t from q)
  exact⟨_,.str x t⟩
 | .tup l,v,u,r,q=>by
  rw[Rep] at r
  obtain⟨p,vs,rfl,hp,rl⟩:=r
  cases (show u=Value.ref p from q)
  obtain⟨_,br,rv,o,h1,h2,n,h3⟩:=(show cA P w H h p (.tup vs) from ok p _ hp)
  obtain⟨as,ra⟩:=nR ok l vs br rl rv
  exact⟨as,.tuple h1 h2 h3 (by simpa using ra)⟩
 | .lst l,v,u,r,q=>by
  rw[Rep] at r
  obtain⟨p,vs,rfl,hp,rl⟩:=r
  cases (show u=Value.ref p from q)
  obtain⟨_,br,n,rv,h1⟩:=(show cA P w H h p (.lst vs) from ok p _ hp)
  obtain⟨as,ra⟩:=nR ok l vs br rl rv
  exact⟨p::as,.list h1 rfl rfl (by simpa using ra)⟩
theorem nR (ok:gG P w H h):∀(ds:List Dat) (vs:List V) (us:List Value),bb H ds vs->bF vs us->∃as,ReadsAll h us (mC ds) as
 | [],vs,us,r,q=>by
  rw[bb] at r
  subst r
  cases q
  exact⟨_,.nil⟩
 | d::ds,vs,us,r,q=>by
  rw[bb] at r
  obtain⟨v,rest,rfl,r1,r2⟩:=r
  cases q with
  | cons q1 q2=>
   obtain⟨a1,h1⟩:=fU ok d v _ r1 q1
   obtain⟨a2,h2⟩:=nR ok ds rest _ r2 q2
   exact⟨_,.cons h1 h2⟩
end
end
noncomputable def jT (H:Hp) (d:Dat) (b:Addr):Prop:=dt (cO d)=true/\(cO d).depth<=8/\Rep H d (.ref b)
theorem jT.mono {H H':Hp} {d:Dat} {b:Addr} (s:aw H H') (k:jT H d b):jT H' d b:=⟨k.1,k.2.1,k.2.2.mono s⟩
theorem jT.is {P:Program} {w:World} {H:Hp} {h:Heap} {d:Dat} {b:Addr} (ok:gG P w H h) (k:jT H d b):(gP P w).is h (cO d) b:=⟨k.1,k.2.1,fU ok d _ _ k.2.2 rfl⟩
abbrev Rows:=List (Dat×Addr×Int)
noncomputable def vR (H:Hp) (ks:Rows):Prop:=∀p∈ks,jT H p.1 p.2.1
theorem vR.mono {H H':Hp} {ks:Rows} (s:aw H H') (k:vR H ks):vR H' ks:=λp hp=>(k p hp).mono s
noncomputable def iD (ks:Rows) (k:PyData):Option Int:=(ks.find? λp=>decide (cO p.1=k)).map (·.2.2)
abbrev Ji:Rows->List (PyData×Addr×Value)->Prop:=Paired λp q=>cO p.1=q.1/\p.2.1=q.2.1/\∃t,q.2.2=Value.int p.2.2 t
noncomputable def DD (P:Program) (w:World) (a:Addr) (ks:Rows):HO:=.ext λh=>∃o es ep xs,h.get? a=some o/\o.ExactDict/\o.data=.dict es ep/\es.toList=xs.map (entryOfKey (gP P w))/\(xs.map (·.1)).Nodup/\Ji ks xs/\ks.length<=sizeLine/\(a==sysModules)=false
section
variable {P : Program} {w : World} {H : Hp} {h : Heap} {a : Addr}
theorem Cd {ks:Rows} {xs:List (PyData×Addr×Value)} {o es ep} (h1:h.get? a=some o) (h2:o.ExactDict) (h3:o.data=.dict es ep) (h4:es.toList=xs.map (entryOfKey (gP P w))) (h5:(xs.map (·.1)).Nodup) (h6:Ji ks xs) (h7:ks.length<=sizeLine) (h8:(a==sysModules)=false):cA P w H h a (DD P w a ks):=
 ⟨⟨o,es,ep,xs,h1,h2,h3,h4,h5,h6,h7,h8⟩,⟨o,h1⟩,λ_ _ ⟨o,es,ep,xs,g1,g⟩ k=>⟨o,es,ep,xs,k _ g1,g⟩⟩
theorem Ce {ks:Rows} (ok:gG P w H h) (e:H a=some (DD P w a ks)) (al:vR H ks):ks.length<=sizeLine/\(a==sysModules)=false/\∃xs,Ji ks xs/\h.DictOfH (gP P w) a xs:=by
 obtain⟨⟨o,es,ep,xs,g1,g2,g3,g4,g5,g6,g7,g8⟩,_⟩:=(show cA P w H h a (DD P w a ks) from ok a _ e)
 refine⟨g7,g8,xs,g6,o,es,ep,g1,g2,g3,g4,λx hx=>?_,g5⟩
 have all:∀{l:Rows} {m:List (PyData×Addr×Value)},Ji l m->vR H l->∀x∈m,(gP P w).is h x.1 x.2.1:=by
  intro l m q
  induction q with
  | nil=>intro _ x hx;exact nomatch hx
  | @cons p q ps qs hq t ih=>
   intro al x hx
   rcases List.mem_cons.mp hx with e | hx
   ·subst e
    rw[<-hq.1,<-hq.2.1]
    exact(al p aap).is ok
   ·exact ih (λp hp=>al p (aaj _ hp)) x hx
 exact all g6 al x hx
theorem Ji.val {ks:Rows} {xs:List (PyData×Addr×Value)} (r:Ji ks xs) (k:PyData):(iD ks k=none/\atKey xs k=none)\/∃i t b,iD ks k=some i/\atKey xs k=some (b,Value.int i t):=by
 induction r with
 | nil=>exact .inl ⟨rfl,rfl⟩
 | @cons p q ps qs h t ih=>
  obtain⟨h1,h2,tk,h3⟩:=h
  by_cases e:cO p.1=k
  ·have e':q.1=k:=h1.symm.trans e
   refine .inr ⟨p.2.2,tk,q.2.1,?_,?_⟩
   ·unfold iD
    rw[aaR,decide_eq_true e]
    rfl
   ·unfold atKey
    rw[aaR,decide_eq_true e',<-h3]
    rfl
  ·have e':¬q.1=k:=λz=>e (h1.trans z)
   have a1:iD (p::ps) k=iD ps k:=by
    unfold iD
    rw[aaR,decide_eq_false e]
   have a2:atKey (q::qs) k=atKey qs k:=by
    unfold atKey
    rw[aaR,decide_eq_false e']
   rw[a1,a2]
   exact ih
end
noncomputable def Cf (P:Program) (w:World):TE:=λ_ H Q=>∀p,H p=none->Q (.ref p) (upd H p (DD P w p []))
noncomputable def Kv (P:Program) (w:World) (H:Hp) (x y:V) (o:Option Int):Prop:=∃a b d ks,x=.ref a/\y=.ref b/\H a=some (DD P w a ks)/\vR H ks/\jT H d b/\o=iD ks (cO d)
noncomputable def F3 (P:Program) (w:World) (td ty:TE):TE:=λσ H Q=>td σ H λx H1=>ty σ H1 λy H2=>∃i,Kv P w H2 x y (some i)/\Q (.int i) H2
noncomputable def zm (P:Program) (w:World) (ty td:TE):TE:=λσ H Q=>ty σ H λy H1=>td σ H1 λx H2=>∃o,Kv P w H2 x y o/\Q (.bl (!o.isSome)) H2
noncomputable def F4 (P:Program) (w:World) (td ty tv:TE):TS:=λD σ H=>tv σ H λv H1=>td σ H1 λx H2=>ty σ H2 λy H3=>∃a b d ks i,x=.ref a/\y=.ref b/\v=.int i/\H3 a=some (DD P w a ks)/\vR H3 ks/\jT H3 d b/\iD ks (cO d)=none/\ks.length<sizeLine/\D.nx σ (upd H3 a (DD P w a (ks++ [(d,b,i)])))
section
variable {X : Cx} {P : Program} {w : World} {o i e value : Expr} {pos pos' rR : Pos} {td ty tv : TE}
theorem Cg (hP:X.prog=P:=by rfl) (hw:X.w=w:=by rfl):PE X (.Dict [] [] pos) (Cf P w):=λpins s σ H Q I h=>by
 subst hP hw
 exact wpAny_Dict_empty ⟨.ref s.heap.objs.size,_,I.laid (a:=s.heap.objs.size) (o:=DD X.prog X.w s.heap.objs.size []) (t':=s.toks) (λ_ _ q=>Heap.get?_push_of_some _ q) (aaf _) (Cd (xs:=[]) (Heap.get?_push_size _ rfl) ⟨rfl,rfl,rfl⟩ rfl rfl List.nodup_nil .nil (aah _) (beq_eq_false_iff_ne.mpr (Ne.symm (aai I.NL)))),rfl,h _ (I.bP.fresh (aaf _))⟩
theorem Ci {A:Around} (hu:A.units+64<cLine):(gP P w).room A.in1:=(by show A.units+1+8<cLine;omega)
theorem EL (hu:X.A.units+64<cLine) (ho:PE X o td) (hi:PE X i ty) (hs:Ha i) (hP:X.prog=P:=by rfl) (hw:X.w=w:=by rfl):PE X (.Subscript o i pos) (F3 P w td ty):=by
 subst hP hw
 intro pins s σ H Q I h
 refine yZ PySem.F.slot_dict_getitem.lookup hs (cG (ho pins s σ H _ I h) λu s1 ⟨x,H1,I1,rx,q1⟩=>cG (hi pins s1 σ H1 _ I1 q1) λiv s2 ⟨y,H2,I2,ry,j,⟨a,b,d,ks,ex,ey,ea,al,kn,lo⟩,q2⟩=>?_)
 subst ex ey
 obtain rfl:u=Value.ref a:=rx
 obtain rfl:iv=Value.ref b:=ry
 obtain⟨z,hd,xs,rel,dd⟩:=Ce I2.bP ea al
 refine⟨dd.typeIs,?_⟩
 rcases rel.val (cO d) with ⟨l1,_⟩ | ⟨j',t,b',l1,l2⟩
 ·rw[l1] at lo
  cases lo
 ·rw[l1] at lo
  cases lo
  exact wpAny_getItem_heap (Ci hu) (kn.is I2.bP) dd l2 ⟨.int j,H2,I2.tok _,⟨t,rfl⟩,q2⟩
theorem AI (hu:X.A.units+64<cLine) (hi:PE X i ty) (ho:PE X o td) (hP:X.prog=P:=by rfl) (hw:X.w=w:=by rfl):PC X .NotIn i o (zm P w ty td):=by
 subst hP hw
 intro pins s σ H Q I h
 refine cG (hi pins s σ H _ I h) λiv s1 ⟨y,H1,I1,ry,q1⟩=>cG (ho pins s1 σ H1 _ I1 q1) λu s2 ⟨x,H2,I2,rx,ov,⟨a,b,d,ks,ex,ey,ea,al,kn,lo⟩,q2⟩=>?_
 subst ex ey
 obtain rfl:u=Value.ref a:=rx
 obtain rfl:iv=Value.ref b:=ry
 obtain⟨z,hd,xs,rel,dd⟩:=Ce I2.bP ea al
 refine wpAny_notIn_heap (Ci hu) (kn.is I2.bP) hd dd ?_
 have:(atKey xs (cO d)).isSome=ov.isSome:=by
  rcases rel.val (cO d) with ⟨l1,l2⟩ | ⟨j',t,b',l1,l2⟩
  ·rw[lo,l1,l2]
   rfl
  ·rw[lo,l1,l2]
   rfl
 rw[this]
 exact⟨.bl (!ov.isSome),H2,I2.tok _,rfl,q2⟩
theorem EM (hu:X.A.units+64<cLine) (ho:PE X o td) (hi:PE X i ty) (hv:PE X value tv) (hs:swapsWith value (some (.Subscript o i pos')) pos.line X.env=pure false) (hP:X.prog=P:=by rfl) (hw:X.w=w:=by rfl):
  PS X (.Assign [.Subscript o i pos'] value pos) (F4 P w td ty tv):=by
 subst hP hw
 intro pins s σ H D I h
 refine wpAny_Assign_Subscript (cG (hv pins s σ H _ I h) λr s1 ⟨v,H1,I1,rv,q1⟩=>cG (ho pins s1 σ H1 _ I1 q1) λu s2 ⟨x,H2,I2,rx,q2⟩=>cG (hi pins s2 σ H2 _ I2 q2) λiv s3 ⟨y,H3,I3,ry,a,b,d,ks,j,ex,ey,ev,ea,al,kn,lo,ln,q3⟩=>?_) hs
 subst ex ey ev
 obtain rfl:u=Value.ref a:=rx
 obtain rfl:iv=Value.ref b:=ry
 obtain⟨t,rfl⟩:=(show ∃t,r=Value.int j t from rv)
 obtain⟨z,hd,xs,rel,dd⟩:=Ce I3.bP ea al
 have hz:xs.length<=sizeLine:=by rw[<-Paired.length rel];exact z
 have la:atKey xs (cO d)=none:=by
  rcases rel.val (cO d) with ⟨l1,l2⟩ | ⟨j',t,b',l1,l2⟩
  ·exact l2
  ·rw[l1] at lo
   cases lo
 refine wpAny_setItem_heap (hsz:=hz) (Ci hu) (kn.is I3.bP) dd λh' G9 hs=>⟨σ,_,?_,q3⟩
 rw[storedH_new la] at G9
 obtain⟨q,es,ep,hq,h2,h3,h4,_,h5⟩:=G9
 exact uj I3 (by rw[ea];exact True.intro) hs ⟨q,hq⟩ (Cd hq h2 h3 h4 h5 (Paired.snoc rel ⟨rfl,rfl,t,rfl⟩) (by rw[aak];exact ln) hd)
end
end L2
namespace L2
open PySem PySem.Spec PyProof.Rows PySem.W
section
variable {X : Cx} {K : PySem.W.Frag}
noncomputable def Kd (d:Dat):Prop:=dt (cO d)=true/\(cO d).depth<=8
theorem jK {P:Program} {w:World} {H:Hp} {h:Heap} (ok:gG P w H h) {ds:List Dat} {xs:List V} {us:List Value} (r:bb H ds xs) (v:bF xs us) {i:Nat} {u:Value} (e:us[i]?=some u):∃d as,ds[i]?=some d/\Reads h u (cO d) as:=by
 have l1:=r.length
 have l2:=v.length
 have hi:=(List.getElem?_eq_some_iff.mp e).1
 have ex:xs[i]?=some (xs[i]'(by omega)):=aat (by omega)
 obtain⟨u',e1,rv⟩:=v.get ex
 rw[e] at e1
 cases e1
 obtain⟨d,ed,rd⟩:=r.get ex
 obtain⟨as,ra⟩:=fU ok d _ _ rd rv
 exact⟨d,as,ed,ra⟩
theorem Hz {A:Around} {s:Shared} {a b:PyData} {u v:Value} {as bs:List Addr} (ra:Reads s.heap u a as) (rb:Reads s.heap v b bs) (ha:dt a=true) (hb:dt b=true) (da:a.depth<=8) (db:b.depth<=8) (hu:A.units+8<cLine):SeqAt.EqAt A s u v (decide (a=b)):=λprog w E Q h=>
 SeqAt.eqBoolOverData _ _ _ _ _ _ _ _ _ _ _ _ ra rb (iw _ ha) (iw _ hb) (by omega) (by rw[xN _ _ ha hb];exact h)
noncomputable def HA:V->List V->Hp->VK->Prop:=λx vs H Q=>∃l xs ds v d i,x=.ref l/\vs=[v]/\H l=some (.lst xs)/\bb H ds xs/\(∀e∈ds,Kd e)/\Rep H d v/\Kd d/\(ds.map cO)[i]?=some (cO d)/\(∀j,j<i->(ds.map cO)[j]?≠some (cO d))/\i<100000/\Q (.int (i:Nat)) H
theorem tJ (hu:X.A.units+64<cLine):MD X "list.index" HA:=by
 classical
 intro pins s σ H x vs v us Q I rx rv h
 obtain⟨l,xs,ds,y,d,i,rfl,rfl,hp,rd,AJ,Kw,hd,hi,XW,i6,q⟩:=h
 cases rx
 obtain⟨u,rfl,ru⟩:=vals1 rv
 obtain⟨br,r,pl,hz⟩:=I.list (bL.of hp)
 obtain⟨as,ra⟩:=fU I.bP d y u Kw ru
 have l1:=rd.length
 have l2:=r.length
 have dec:∀{u e bs},e∈ds->Reads s.heap u (cO e) bs->decide (∃cs,Reads s.heap u (cO d) cs)=decide (cO e=cO d):=λ{u e bs} he re=>by
  by_cases c:cO e=cO d
  ·rw[decide_eq_true c,decide_eq_true ⟨bs,by rw[<-c];exact re⟩]
  ·rw[decide_eq_false c,decide_eq_false]
   rintro⟨cs,rc⟩
   exact c (SeqAt.Reads.unique _ _ _ _ _ (iw _ (AJ e he).1) re rc)
 have at_:∀(j:Nat) (hj:j<br.length),∃e bs,ds[j]?=some e/\e∈ds/\Reads s.heap br[j] (cO e) bs:=λj hj=>by
  obtain⟨e,bs,ed,re⟩:=jK I.bP rd r (aat hj)
  exact⟨e,bs,ed,aam ed,re⟩
 have XX:i<br.length:=by
  have:=(List.getElem?_eq_some_iff.mp hi).1
  rw[aac] at this
  omega
 obtain⟨⟨c1,d1,d2,sl⟩,ho,e1,m,e2⟩:=pl.isList
 cases e1
 cases e2
 have hit:decide (∃cs,Reads s.heap br[i] (cO d) cs)=true:=by
  obtain⟨e,bs,ed,he,re⟩:=at_ i XX
  rw[dec he re]
  rw[aad,ed] at hi
  exact decide_eq_true (aay hi)
 refine call_meets PySem.F.slot_list_index ⟨_,ho,rfl⟩ PySem.F.entry_list_index (PySem.F.args_list_index_2 _ _) (PySem.SeqAt.list_indexAt l br.toArray m d1 sl u (λu=>decide (∃cs,Reads s.heap u (cO d) cs)) i (by rw[aan];omega) (by omega) hit (λj hj hl=>?_)) ⟨ho,λy hy=>?_,⟨.int _,H,I.tok _,⟨_,rfl⟩,q⟩⟩
 ·rw[aan] at hj
  obtain⟨e,bs,ed,he,re⟩:=at_ j hj
  show decide (∃cs,Reads s.heap br[j] (cO d) cs)=false
  rw[dec he re]
  refine decide_eq_false λz=>XW j hl ?_
  rw[aad,ed]
  exact congrArg some z
 ·obtain⟨j,ej⟩:=List.getElem?_of_mem (List.mem_toArray.mp hy)
  obtain⟨e,bs,ed,re⟩:=jK I.bP rd r ej
  have he:=aam ed
  show SeqAt.EqAt _ _ _ _ (decide _)
  rw[dec he re]
  exact Hz re ra (AJ e he).1 hd.1 (AJ e he).2 hd.2 (by show X.A.units+1+8<cLine;omega)
end
end L2
namespace L2
open PySem PySem.Spec PyProof.Rows
structure b7 (P:Program) (w:World) (K:PySem.W.Frag) (mg:Str->Option Value) (base:Heap) (CX:oV) (k:Nat) (C:Addr) (m:Str) (ps:List Str) (sp:Sp):Prop where
 ex:∃f fd,Bu K C m f/\fH P w K mg base CX k f fd ps sp/\Binds K fd ps []
section
variable {X : Cx} {CX : oV} {k : Nat} {C : Addr} {m : Str} {ps : List Str} {sp : Sp} {E : XK} {e o : Expr} {es : List Expr} {ta : TE} {t : TA} {pos apos : Pos} {pl : Sem Bool}
theorem dj (M:b7 X.prog X.w X.K X.mg X.base CX k C m ps sp) (c:yT X.K C) (he:PE X o ta) (hr:dH k X.A) (hx:dX CX X E) (ha:PA X (e::es) t)
  (hst:starEach (e::es) X.env=(false,eval e X.env)::starEach es X.env:=by rfl) (hpl:(backTo pos (starEach es X.env)).any (·.1)=false:=by rfl)
  (ht:eval (.Call (.Attribute o m apos) (e::es) [] pos) X.env=(do
   let ov <-eval o X.env
   standAt apos.atName
   let (f,first) <-holding [ov] (getMethod ov m pl)
   callWith pos f first (backTo pos (starEach (e::es) X.env)) (backToKw pos (keywordEach [] X.env))):=by rfl):
  PE X (.Call (.Attribute o m apos) (e::es) [] pos) (cN C m sp [] E ta t):=by
 obtain⟨f,fd,hm,F,hb⟩:=M.ex
 exact D6 he c hm F hr hb .nil hx ha hst hpl ht
theorem HB (M:b7 X.prog X.w X.K X.mg X.base CX k C m ps sp) (c:yT X.K C) (he:PE X o ta) (hr:dH k X.A) (hx:dX CX X E)
  (ht:eval (.Call (.Attribute o m apos) [] [] pos) X.env=(do
   let ov <-eval o X.env
   standAt apos.atName
   let (f,first) <-holding [ov] (getMethod ov m pl)
   callWith pos f first (backTo pos (starEach [] X.env)) (backToKw pos (keywordEach [] X.env))):=by rfl):
  PE X (.Call (.Attribute o m apos) [] [] pos) (cN C m sp [] E ta tNil):=by
 obtain⟨f,fd,hm,F,hb⟩:=M.ex
 exact Bv he c hm F hr hb .nil hx ht
theorem HC {x:Str} {p:Pos} (M:o6 X.prog X.w X.K X.mg X.base CX k x C ps sp) (hr:dH (k+1) X.A) (hg:Gl X x) (hx:dX CX X E) (vt:(x==("__debug__":Str))=false:=by decide):
  PE X (.Call (.Name x p) [] [] pos) (p9 C sp [] E tNil):=by
 obtain⟨f,fd,m,F,hm,hb⟩:=M.ex
 exact Bw m F hr hg hm hb .nil hx vt
end
structure xO (K:PySem.W.Frag) (C:Addr) (m qual:Str) (st:Stmt):Prop where
 ex:∃f fd,xE K m qual st f fd/\Bu K C m f
theorem xO.eF {P:Program} {w:World} {K:PySem.W.Frag} {mg:Str->Option Value} {base:Heap} {CX:oV} {m qual:Str} {st:Stmt} {C:Addr} {ps:List Str} {k:Nat} {sp:Sp} (D:xO K C m qual st)
  (hb:∀(kV doc pm:Value) (an:Option Addr) (bV ct:Value) (us:List Value),us.length=ps.length->bindArgs (PySem.W.fnOf m qual (aR st) (aO st) (aj st) .none kV doc pm an bV ct) ⟨us,[]⟩=pure (ps.zip us))
  (h:∀f fd,xE K m qual st f fd->fH P w K mg base CX k f fd ps sp):b7 P w K mg base CX k C m ps sp:=by
 obtain⟨f,fd,F,hm⟩:=D.ex
 exact⟨f,fd,hm,h f fd F,F.binds hb⟩
end L2
namespace L2
open PySem PySem.Spec PyProof.Rows PySem.W
mutual
noncomputable def qy:PyData->Bool
 | .none=>true
 | .int _=>true
 | .str x=>PyData.canLay0 (.str x)
 | .tuple xs=>qz xs
 | .list xs=>qz xs
 | _=>false
noncomputable def qz:List PyData->Bool
 | []=>true
 | x::xs=>qy x && qz xs
end
mutual
theorem jL:∀(d:PyData),qy d=true->d.canLay0=true
 | .none,_=>by simp [PyData.canLay0]
 | .bool _,h=>by simp [qy] at h
 | .int _,_=>by simp [PyData.canLay0]
 | .str x,h=>by rw[qy] at h;exact h
 | .list xs,h=>by rw[qy] at h;rw[PyData.canLay0];exact qA xs h
 | .tuple xs,h=>by rw[qy] at h;rw[PyData.canLay0];exact qA xs h
 | .dict _,h=>by simp [qy] at h
theorem qA:∀(xs:List PyData),qz xs=true->PyData.canLayAll0 xs=true
 | [],_=>by simp [PyData.canLayAll0]
 | x::xs,h=>by
  rw[qz,aaF] at h
  rw[PyData.canLayAll0,aaF]
  exact⟨jL x h.1,qA xs h.2⟩
end
mutual
theorem uA:∀(x y:PyData),qy x=true->qy y=true->PyData.eqv x y=decide (x=y)
 | .none,y,_,hy=>by cases y <;>simp [PyData.eqv]
 | .int i,y,_,hy=>by
  cases y with
  | int j=>
   rw[PyData.eqv]
   by_cases c:i=j
   ·subst c;simp
   ·rw[decide_eq_false (λe=>c (by injection e))]
    simp [c]
  | bool _=>simp [qy] at hy
  | _=>simp [PyData.eqv]
 | .str a,y,_,hy=>by
  cases y with
  | str b=>
   rw[PyData.eqv]
   by_cases c:a=b
   ·subst c;simp
   ·rw[decide_eq_false (λe=>c (by injection e))]
    simp [c]
  | _=>simp [PyData.eqv]
 | .tuple xs,y,hx,hy=>by
  cases y with
  | tuple ys=>
   rw[qy] at hx hy
   rw[PyData.eqv,qB xs ys hx hy]
   by_cases c:xs=ys
   ·subst c;simp
   ·rw[decide_eq_false c,decide_eq_false (λe=>c (by injection e))]
  | _=>simp [PyData.eqv]
 | .list xs,y,hx,hy=>by
  cases y with
  | list ys=>
   rw[qy] at hx hy
   rw[PyData.eqv,qB xs ys hx hy]
   by_cases c:xs=ys
   ·subst c;simp
   ·rw[decide_eq_false c,decide_eq_false (λe=>c (by injection e))]
  | _=>simp [PyData.eqv]
 | .bool _,_,h,_=>by simp [qy] at h
 | .dict _,_,h,_=>by simp [qy] at h
theorem qB:∀(xs ys:List PyData),qz xs=true->qz ys=true->PyData.eqvAll xs ys=decide (xs=ys)
 | [],[],_,_=>by simp [PyData.eqvAll]
 | [],_::_,_,_=>by simp [PyData.eqvAll]
 | _::_,[],_,_=>by simp [PyData.eqvAll]
 | x::xs,y::ys,hx,hy=>by
  rw[qz,aaF] at hx hy
  rw[PyData.eqvAll,uA x y hx.1 hy.1,qB xs ys hx.2 hy.2]
  by_cases c:x=y
  ·subst c
   by_cases d:xs=ys
   ·subst d;simp
   ·rw[decide_eq_false d,decide_eq_false (λe=>d (List.cons.inj e).2)];simp
  ·rw[decide_eq_false c,decide_eq_false (λe=>c (List.cons.inj e).1)];simp
end
section
variable {X : Cx} {K : PySem.W.Frag}
noncomputable def Ke (d:Dat):Prop:=qy (cO d)=true/\(cO d).depth<=8
theorem HD {A:Around} {s:Shared} {a b:PyData} {u v:Value} {as bs:List Addr} (ra:Reads s.heap u a as) (rb:Reads s.heap v b bs) (ha:qy a=true) (hb:qy b=true) (da:a.depth<=8) (db:b.depth<=8) (hu:A.units+8<cLine):SeqAt.EqAt A s u v (decide (a=b)):=λprog w E Q h=>
 SeqAt.eqBoolOverData _ _ _ _ _ _ _ _ _ _ _ _ ra rb (jL _ ha) (jL _ hb) (by omega) (by rw[uA _ _ ha hb];exact h)
theorem Cj {s:Shared} {ds:List Dat} {d:Dat} (AJ:∀e∈ds,Ke e) {u:Value} {e:Dat} {bs:List Addr} [Decidable (∃cs,Reads s.heap u (cO d) cs)] (he:e∈ds) (re:Reads s.heap u (cO e) bs):decide (∃cs,Reads s.heap u (cO d) cs)=decide (cO e=cO d):=by
 by_cases c:cO e=cO d
 ·rw[decide_eq_true c,decide_eq_true ⟨bs,by rw[<-c];exact re⟩]
 ·rw[decide_eq_false c,decide_eq_false]
  rintro⟨cs,rc⟩
  exact c (SeqAt.Reads.unique _ _ _ _ _ (jL _ (AJ e he).1) re rc)
noncomputable def HE (neg:Bool):R2:=λx y H Q=>∃p xs ds d,y=.ref p/\H p=some (.lst xs)/\bb H ds xs/\(∀e∈ds,Ke e)/\Rep H d x/\Ke d/\Q (.bl (if neg=true then !decide (cO d∈ds.map cO) else decide (cO d∈ds.map cO))) H
theorem Ob (hu:X.A.units+64<cLine) {pins:List (Addr×Obj)} {s:Shared} {σ:St} {H:Hp} {x:V} {v:Value} {p:Addr} {xs:List V} {ds:List Dat} {d:Dat} (I:Inv X pins σ H s) (rx:RelV x v) (hp:H p=some (.lst xs)) (rd:bb H ds xs) (AJ:∀e∈ds,Ke e) (Kw:Rep H d x) (hd:Ke d):
  ∃(br:List Value) (f:Value->Bool),s.heap.IsList p br.toArray/\(∀u∈br.toArray,SeqAt.EqAt X.A.in1 s u v (f u))/\br.toArray.any f=decide (cO d∈ds.map cO):=by
 classical
 obtain⟨br,r,pl,hz⟩:=I.list (bL.of hp)
 obtain⟨as,ra⟩:=fU I.bP d x v Kw rx
 have each:∀u∈br,∃e bs,e∈ds/\Reads s.heap u (cO e) bs:=λu hu=>by
  obtain⟨i,ei⟩:=List.getElem?_of_mem hu
  obtain⟨e,bs,ed,re⟩:=jK I.bP rd r ei
  exact⟨e,bs,aam ed,re⟩
 refine⟨br,λu=>decide (∃cs,Reads s.heap u (cO d) cs),pl.isList,λu Ku=>?_,?_⟩
 ·obtain⟨e,bs,he,re⟩:=each u (List.mem_toArray.mp Ku)
  show SeqAt.EqAt _ _ _ _ (decide _)
  rw[Cj AJ he re]
  exact HD re ra (AJ e he).1 hd.1 (AJ e he).2 hd.2 (by show X.A.units+1+8<cLine;omega)
 ·rw[List.any_toArray]
  by_cases c:cO d∈ds.map cO
  ·rw[decide_eq_true c,List.any_eq_true]
   obtain⟨e,he,ee⟩:=List.mem_map.mp c
   obtain⟨i,ei⟩:=List.getElem?_of_mem he
   have hi:=(List.getElem?_eq_some_iff.mp ei).1
   have l1:=rd.length
   have l2:=r.length
   have eu:br[i]?=some (br[i]'(by omega)):=aat (by omega)
   obtain⟨e',bs,ed,re⟩:=jK I.bP rd r eu
   rw[ei] at ed
   cases ed
   exact⟨_,aam eu,by rw[Cj AJ he re,decide_eq_true ee]⟩
  ·rw[decide_eq_false c,List.any_eq_false]
   intro u Ku
   obtain⟨e,bs,he,re⟩:=each u Ku
   rw[Cj AJ he re,decide_eq_false λz=>c (List.mem_map.mpr ⟨e,he,z⟩)]
   decide
theorem Ck (hu:X.A.units+64<cLine):lq X (compareOp .In) (HE false):=by
 intro pins s σ H x y v u Q I rx ry h
 obtain⟨p,xs,ds,d,rfl,hp,rd,AJ,Kw,hd,q⟩:=h
 cases ry
 obtain⟨br,f,a,b,c⟩:=Ob hu I rx hp rd AJ Kw hd
 refine SeqAt.in_listAt f a b ⟨.bl _,H,I,rfl,?_⟩
 rw[c]
 exact q
noncomputable def Ky (b:Bool):R2:=λx y H Q=>∃d e,Rep H d x/\Rep H e y/\Ke d/\Ke e/\Q (.bl (if b=true then decide (cO d=cO e) else !decide (cO d=cO e))) H
theorem Cm (hu:X.A.units+64<cLine):lq X (compareOp .NotEq) (Ky false):=by
 intro pins s σ H x y v u Q I rx ry h
 obtain⟨d,e,h1,h2,k1,k2,q⟩:=h
 obtain⟨as,ra⟩:=fU I.bP d x v h1 rx
 obtain⟨bs,rb⟩:=fU I.bP e y u h2 ry
 have:=k1.2
 have:=k2.2
 refine SeqAt.compareNe_reads ra rb (jL _ k1.1) (jL _ k2.1) (by omega) ⟨.bl _,H,I,rfl,?_⟩
 rw[uA _ _ k1.1 k2.1]
 exact q
end
end L2
namespace PySem.Dfl
open PySem PyProof.Rows
section
variable {prog : Program} {w : World} {A : Around} {E : Value -> Shared -> Prop} {s : Shared}
end
section
variable {prog : Program} {w : World} {K : Type} [DecidableEq K] {knd : KeyKind prog w K} {A : Around} {R : Result -> Shared -> Prop} {I : Addr} {fp wr : List Addr} {G : Array GenState -> Array GenState -> Prop} {n : Nat} {P : Nat -> Value -> Prop} {St : Nat -> Shared -> Prop}
end
end PySem.Dfl
namespace PySem.Dfl
open PySem PyProof.Rows
section
variable {prog : Program} {w : World} {K : Type} [DecidableEq K] {knd : KeyKind prog w K} {A : Around} {E : Value -> Shared -> Prop} {s : Shared}
end
end PySem.Dfl
namespace L2
open PySem PyProof.Rows
section
variable {X : Cx} {P : Program} {w : World} {K : PySem.W.Frag}
end
end L2
namespace L2
open PySem PyProof.Rows
section
variable {X : Cx}
end
end L2
namespace L2
open PySem PyProof.Rows
structure DnA (K:PySem.W.Frag) (mg:Str->Option Value) (g x:Str) (st:Stmt):Prop where
 ex:∃f fd,xE K x x st f fd/\mg g=some (.ref f)
end L2
namespace L2
open PySem PyProof.Rows
theorem exV {b:V} {Q:V->Prop}:(∃v,(some (some b):Option (Option V))=some (some v)/\Q v)=Q b:=propext ⟨fun⟨_,e,h⟩=>by cases e;exact h,λh=>⟨b,rfl,h⟩⟩
theorem exI {a:Int} {Q:Int->Prop}:(∃i,V.int a=V.int i/\Q i)=Q a:=propext ⟨fun⟨_,e,h⟩=>by cases e;exact h,λh=>⟨a,rfl,h⟩⟩
theorem exB {a:Bool} {Q:Bool->Prop}:(∃i,V.bl a=V.bl i/\Q i)=Q a:=propext ⟨fun⟨_,e,h⟩=>by cases e;exact h,λh=>⟨a,rfl,h⟩⟩
theorem exR {a:Addr} {Q:Addr->Prop}:(∃i,V.ref a=V.ref i/\Q i)=Q a:=propext ⟨fun⟨_,e,h⟩=>by cases e;exact h,λh=>⟨a,rfl,h⟩⟩
theorem exS {a:Str} {Q:Str->Prop}:(∃i,V.str a=V.str i/\Q i)=Q a:=propext ⟨fun⟨_,e,h⟩=>by cases e;exact h,λh=>⟨a,rfl,h⟩⟩
theorem exII {a b:Int} {Q:Int->Int->Prop}:(∃i j,V.int a=V.int i/\V.int b=V.int j/\Q i j)=Q a b:=propext ⟨fun⟨_,_,e,f,h⟩=>by cases e;cases f;exact h,λh=>⟨a,b,rfl,rfl,h⟩⟩
theorem exRI {a:Addr} {k:Int} {Q:Addr->List V->Int->V->Prop}:(∃p xs i v,V.ref a=V.ref p/\V.int k=V.int i/\Q p xs i v)=∃xs v,Q a xs k v:=propext ⟨fun⟨_,xs,_,v,e,f,h⟩=>by cases e;cases f;exact⟨xs,v,h⟩,fun⟨xs,v,h⟩=>⟨a,xs,k,v,rfl,rfl,h⟩⟩
theorem exRa {α:Type} {a:Addr} {Q:Addr->α->Prop}:(∃p v,V.ref a=V.ref p/\Q p v)=∃v,Q a v:=propext ⟨fun⟨_,v,e,h⟩=>by cases e;exact⟨v,h⟩,fun⟨v,h⟩=>⟨a,v,rfl,h⟩⟩
theorem exRb {α β:Type} {a:Addr} {Q:Addr->α->β->Prop}:(∃p v u,V.ref a=V.ref p/\Q p v u)=∃v u,Q a v u:=propext ⟨fun⟨_,v,u,e,h⟩=>by cases e;exact⟨v,u,h⟩,fun⟨v,u,h⟩=>⟨a,v,u,rfl,h⟩⟩
end L2
namespace K64
open PySem PySem.Spec PyProof.Rows L2
set_option maxHeartbeats 4000000
local macro_rules | `(tactic| simp_all only [$ls,*]) => `(tactic| (first | ((dsimp (config := { zetaDelta := true }) only [L2.start, Pr, tRev, tSortR, tD1, tDPop1, tSl, tNoPart, tPart, rSlL, tDIn, tDNotIn, gSub, rSetL, tLst, tDNewK, tComp, L2.stC, tFor_eq, iList, iTup, iRng1, iRng2, iZip, iEnum, iDict, iStr, tChain, tSumV, tBM, rJoin, tJoined, jNil, jLit, jInt, jStr, tRaise, tDGet, tDGet2, tDGet1, sDPut, tSeq, tRet, tRetN, tIfS, tTest, tB, tOp, tUn, tVar, tC, tCB, tCons, tNil, tCall, tTupS, tAsg, gName, gNil, gCons, tPar, tNext, tDrop, tAnd, tOr, tNot, tAndV, tOrV, tNotV, tIf, rI, rI0, rU, rIxTH, rIxLH, rEqT, rNeT, rInT, rEq, rNe, scal, CPow, List.getElem?_cons_zero, List.getElem?_cons_succ, List.set_cons_zero, List.set_cons_succ]); try simp only [↓exV, ↓exI, ↓exB, ↓exR, ↓exS, ↓exII, ↓exRI, ↓exRa, ↓exRb, L2.start, Pr, tRev, tSortR, tD1, tDPop1, tSl, tNoPart, tPart, rSlL, tDIn, tDNotIn, gSub, rSetL, tLst, tDNewK, tComp, L2.stC, tFor_eq, iList, iTup, iRng1, iRng2, iZip, iEnum, iDict, iStr, tChain, tSumV, tBM, rJoin, tJoined, jNil, jLit, jInt, jStr, tRaise, tDGet, tDGet2, tDGet1, sDPut, Option.join_some, List.getElem?_nil,  tSeq, tRet, tRetN, tIfS, tTest, tB, tOp, tUn, tVar, tC, tCB, tCons, tNil, tCall, tTupS, tAsg, gName, gNil, gCons, tPar, tNext, tDrop, tAnd, tOr, tNot, tAndV, tOrV, tNotV, tIf, rI, rI0, rU, rIxTH, rIxLH, rEqT, rNeT, rInT, rEq, rNe, scal, CPow, at0, at1, at2, List.map_cons, List.map_nil, List.length_cons, List.length_nil, Nat.reduceSub, Nat.reduceAdd, Nat.zero_add, List.replicate_zero, List.reduceReplicate, List.append_nil, List.nil_append, List.cons_append, List.getElem?_cons_zero, List.getElem?_cons_succ, List.set_cons_zero, List.set_cons_succ, Option.some.injEq, exists_eq_left', exists_eq_left, V.ref.injEq, V.int.injEq, V.bl.injEq, V.str.injEq, V.ty.injEq, HO.tup.injEq, HO.lst.injEq, List.cons.injEq, and_true, true_and, and_assoc, exists_and_left, decide_eq_true_eq, Bool.not_eq_true', decide_eq_false_iff_not, ite_true, ite_false, if_true, if_false, Int.reduceToNat, eq_self_iff_true, $ls,*]) | simp only [↓exV, ↓exI, ↓exB, ↓exR, ↓exS, ↓exII, ↓exRI, ↓exRa, ↓exRb, L2.start, Pr, tRev, tSortR, tD1, tDPop1, tSl, tNoPart, tPart, rSlL, tDIn, tDNotIn, gSub, rSetL, tLst, tDNewK, tComp, L2.stC, tFor_eq, iList, iTup, iRng1, iRng2, iZip, iEnum, iDict, iStr, tChain, tSumV, tBM, rJoin, tJoined, jNil, jLit, jInt, jStr, tRaise, tDGet, tDGet2, tDGet1, sDPut, Option.join_some, List.getElem?_nil,  tSeq, tRet, tRetN, tIfS, tTest, tB, tOp, tUn, tVar, tC, tCB, tCons, tNil, tCall, tTupS, tAsg, gName, gNil, gCons, tPar, tNext, tDrop, tAnd, tOr, tNot, tAndV, tOrV, tNotV, tIf, rI, rI0, rU, rIxTH, rIxLH, rEqT, rNeT, rInT, rEq, rNe, scal, CPow, at0, at1, at2, List.map_cons, List.map_nil, List.length_cons, List.length_nil, Nat.reduceSub, Nat.reduceAdd, Nat.zero_add, List.replicate_zero, List.reduceReplicate, List.append_nil, List.nil_append, List.cons_append, List.getElem?_cons_zero, List.getElem?_cons_succ, List.set_cons_zero, List.set_cons_succ, Option.some.injEq, exists_eq_left', exists_eq_left, V.ref.injEq, V.int.injEq, V.bl.injEq, V.str.injEq, V.ty.injEq, HO.tup.injEq, HO.lst.injEq, List.cons.injEq, and_true, true_and, and_assoc, exists_and_left, decide_eq_true_eq, Bool.not_eq_true', decide_eq_false_iff_not, ite_true, ite_false, if_true, if_false, Int.reduceToNat, eq_self_iff_true, $ls,*]))
seal L2.PE L2.PT L2.PW L2.PA L2.PS L2.xg L2.PG L2.Ja L2.PI L2.FT L2.PO L2.lq L2.MA L2.di L2.DB L2.MC L2.MD L2.JU
theorem aF {P:Program} {w:World}:uk (bC P w):=y9 P w
set_option genInjectivity false in
set_option genSizeOf false in
structure Txt (K:PySem.W.Frag) (mg:Str->Option Value) (aG aH aA aL af au:Addr):Prop where
 z_abs:mg "abs"=none
 z_bool:mg "bool"=none
 z_enumerate:mg "enumerate"=none
 z_int:mg "int"=none
 z_isinstance:mg "isinstance"=none
 z_len:mg "len"=none
 z_list:mg "list"=none
 z_max:mg "max"=none
 z_min:mg "min"=none
 z_range:mg "range"=none
 z_sorted:mg "sorted"=none
 z_sum:mg "sum"=none
 z_tuple:mg "tuple"=none
 z_zip:mg "zip"=none
 nS:Dn K mg "common_divisor" (top 7)
 EN:Dn K mg "share" (top 8)
 pw:Dn K mg "common_bottom" (top 9)
 lG:Dn K mg "table_by_weights" (top 11)
 xP:Dn K mg "table_of" (top 12)
 vS:Dn K mg "bottom_of" (top 13)
 AK:Dn K mg "weighed" (top 14)
 EO:Dn K mg "power" (top 18)
 uB:Dn K mg "most_faces" (top 19)
 sg:Dn K mg "part_bottom" (top 20)
 uC:Dn K mg "part_count" (top 21)
 uD:Dn K mg "check_size" (top 22)
 uE:Dn K mg "dice_faces" (top 23)
 sh:Dn K mg "again_faces" (top 24)
 si:Dn K mg "burst_faces" (top 25)
 uF:Dn K mg "part_faces" (top 26)
 xQ:Dn K mg "value_of" (top 27)
 px:Dn K mg "sides_product" (top 28)
 sj:Dn K mg "part_throws" (top 29)
 lH:Dn K mg "throws_by_bottom" (top 30)
 uG:Dn K mg "pool_table" (top 31)
 xR:Dn K mg "own_rows" (top 34)
 xS:Dn K mg "own_what" (top 35)
 uH:Dn K mg "throw_ways" (top 38)
 vT:Dn K mg "pick_ways" (top 39)
 xT:Dn K mg "taken_up" (top 40)
 Cn:Dn K mg "spread" (top 41)
 Co:Dn K mg "way_by" (top 43)
 mD:Dn K mg "spread_picks_by" (top 44)
 xU:Dn K mg "picks_by" (top 45)
 vU:Dn K mg "_law_cell" (top 47)
 uI:Dn K mg "_law_names" (top 48)
 uJ:Dn K mg "_law_deeds" (top 49)
 uK:Dn K mg "_law_throw" (top 50)
 vV:Dn K mg "_law_pick" (top 51)
 vW:Dn K mg "_law_game" (top 52)
 vX:Dn K mg "_law_rule" (top 53)
 uL:Dn K mg "_law_holds" (top 54)
 xV:Dn K mg "_law_due" (top 55)
 c_MOST_THROWS:∃t,mg "MOST_THROWS"=some (.int 1296 t)
 c_MOST_BOTTOM:∃t,mg "MOST_BOTTOM"=some (.int 1000000 t)
 c_MOST_STATES:∃t,mg "MOST_STATES"=some (.int 120 t)
 k_NoShare:mg "NoShare"=some (.ref aG)
 k_NoTable:mg "NoTable"=some (.ref aH)
 k_TooMany:mg "TooMany"=some (.ref aA)
 k_NoWay:mg "NoWay"=some (.ref aL)
 k_Course:mg "Course"=some (.ref af)
 k_Finder:mg "Finder"=some (.ref au)
 x_NoShare:PySem.W.excIn K aG uo mq=true
 x_NoTable:PySem.W.excIn K aH uo mq=true
 x_TooMany:PySem.W.excIn K aA uo mq=true
 x_NoWay:PySem.W.excIn K aL uo mq=true
 aI:yT K af
 bT:yT K au
 na_Course_first:PySem.W.findIn K (.ref af) "first"=some none
 na_Course_mosts:PySem.W.findIn K (.ref af) "mosts"=some none
 na_Course_spots:PySem.W.findIn K (.ref af) "spots"=some none
 na_Course_tables:PySem.W.findIn K (.ref af) "tables"=some none
 na_Course_whats:PySem.W.findIn K (.ref af) "whats"=some none
 na_Finder_numbers:PySem.W.findIn K (.ref au) "numbers"=some none
 na_Finder_states:PySem.W.findIn K (.ref au) "states"=some none
 AL:M0 K mg "Course" "Course.__init__" (inClass (top 36) 0) af
 AM:M0 K mg "Finder" "Finder.__init__" (inClass (top 37) 0) au
 pz:xO K af "asked" "Course.asked" (inClass (top 36) 3)
 nU:xO K af "by_row" "Course.by_row" (inClass (top 36) 6)
 lI:xO K af "by_value" "Course.by_value" (inClass (top 36) 7)
 uM:xO K af "do" "Course.do" (inClass (top 36) 2)
 jU:xO K af "end_worth" "Course.end_worth" (inClass (top 36) 12)
 pA:xO K af "holds" "Course.holds" (inClass (top 36) 9)
 jV:xO K af "open_rows" "Course.open_rows" (inClass (top 36) 10)
 sx:xO K af "put" "Course.put" (inClass (top 36) 1)
 pB:xO K af "start" "Course.start" (inClass (top 36) 4)
 lJ:xO K af "table_at" "Course.table_at" (inClass (top 36) 8)
 mE:xO K af "what_at" "Course.what_at" (inClass (top 36) 5)
 lK:xO K af "words_at" "Course.words_at" (inClass (top 36) 11)
 jW:xO K au "number_of" "Finder.number_of" (inClass (top 37) 1)
noncomputable def Al {α:Type} (R:α->V->Prop):List α->List V->Prop
 | [],[]=>True
 | a::as,v::vs=>R a v/\Al R as vs
 | _,_=>False
theorem Al.length {α:Type} {R:α->V->Prop}:∀{as:List α} {vs:List V},Al R as vs->vs.length=as.length
 | [],[],_=>rfl
 | a::as,v::vs,h=>by simp [Al.length h.2]
theorem Al.imp {α:Type} {R S:α->V->Prop} (f:∀a v,R a v->S a v):∀{as:List α} {vs:List V},Al R as vs->Al S as vs
 | [],[],_=>trivial
 | a::as,v::vs,h=>⟨f _ _ h.1,Al.imp f h.2⟩
theorem Al.append {α:Type} {R:α->V->Prop}:∀{as bs:List α} {us vs:List V},Al R as us->Al R bs vs->Al R (as++bs) (us++vs)
 | [],_,[],_,_,k=>k
 | a::as,_,v::vs,_,h,k=>⟨h.1,Al.append h.2 k⟩
theorem Al.one {α:Type} {R:α->V->Prop} {a:α} {v:V} (h:R a v):Al R [a] [v]:=⟨h,trivial⟩
theorem Al.get {α:Type} {R:α->V->Prop}:∀{as:List α} {vs:List V} {i:Nat} {v:V},Al R as vs->vs[i]?=some v->∃a,as[i]?=some a/\R a v
 | [],[],i,v,_,e=>by simp at e
 | a::as,u::vs,i,v,h,e=>by
  cases i with
  | zero=>simp at e;subst e;exact⟨a,rfl,h.1⟩
  | succ i=>simp at e;obtain⟨b,e1,e2⟩:=Al.get h.2 e;exact⟨b,by simpa using e1,e2⟩
theorem Al.at {α:Type} {R:α->V->Prop}:∀{as:List α} {vs:List V} {i:Nat} {a:α},Al R as vs->as[i]?=some a->∃v,vs[i]?=some v/\R a v
 | [],[],i,v,_,e=>by simp at e
 | a::as,u::vs,i,v,h,e=>by
  cases i with
  | zero=>simp at e;subst e;exact⟨u,rfl,h.1⟩
  | succ i=>simp at e;obtain⟨b,e1,e2⟩:=Al.at h.2 e;exact⟨b,by simpa using e1,e2⟩
theorem Al.of {α:Type} {R:α->V->Prop}:∀{as:List α} {vs:List V},vs.length=as.length->(∀(i:Nat) v a,vs[i]?=some v->as[i]?=some a->R a v)->Al R as vs
 | [],[],_,_=>trivial
 | [],_::_,l,_=>by simp at l
 | _::_,[],l,_=>by simp at l
 | a::as,u::vs,l,h=>⟨h 0 u a rfl rfl,Al.of (by simpa using l) λi v b e1 e2=>h (i+1) v b (by simpa using e1) (by simpa using e2)⟩
noncomputable def Cp:Sp:=λvs H Q _=>∃a b,vs=[.int a,.int b]/\Q (.int (Nm.g a b)) H
noncomputable def HF (qn:Addr):Sp:=λvs H Q E=>∃a b,vs=[.int a,.int b]/\Bt 5000 b/\(b=0->E (.ref qn) none H)/\(b≠0->∀p H',aw H H'->H p=none->H' p=some (.tup (Pr (Nm.st a b) (Nm.sb a b)))->Q (.ref p) H')
noncomputable def ER:Sp:=λvs H Q _=>∃d B ws,vs=[.ref d,.int B]/\H d=some (.dK (enc ws))/\(Nm.keys ws).Nodup/\ws.length<64/\B≠0/\Bt 5000 B/\∀p H',aw H H'->H p=none->Rep H' (kA (Nm.rowsOf ws B)) (.ref p)->Q (.ref p) H'
noncomputable def HG (qt:Addr):Sp:=λvs H Q E=>∃v ps,vs=[v]/\Rep H (i5 ps) v/\ps.length<=1296/\(∀p∈ps,p.2<=10^12)/\(Nm.lF ps).length<64/\
 (Nm.bad ps->∀H',aw H H'->E (.ref qt) none H')/\
 (¬Nm.bad ps->∀p H',aw H H'->H p=none->Rep H' (kA (Nm.rowsOf (Nm.lF ps) (Nm.ql (Nm.lF ps)))) (.ref p)->Q (.ref p) H')
noncomputable def ES (s:Nat):Nat->List (List Int)
 | 0=>[[]]
 | d+1=>(ES s d).flatMap λf=>(List.range s).map λi:Nat=>f++ [((i:Nat):Int)+1]
theorem pO (s:Nat):∀d,(ES s d).length=s^d
 | 0=>rfl
 | d+1=>by
  have h:∀l:List (List Int),(l.flatMap λf=>(List.range s).map λi:Nat=>f++ [((i:Nat):Int)+1]).length=l.length*s:=by
   intro l
   induction l with
   | nil=>simp
   | cons a r ih=>rw[List.flatMap_cons,aak,ih,aac,aaE,aaq,Nat.succ_mul,Nat.add_comm]
  rw[ES,h,pO s d,Nat.pow_succ]
theorem uN (s:Nat):∀d,∀f∈ES s d,f.length=d/\∀x∈f,1<=x/\x<=(s:Int)
 | 0,f,h=>by
  rw[List.mem_singleton.mp h]
  exact⟨rfl,by simp⟩
 | d+1,f,h=>by
  obtain⟨g,hg,hf⟩:=List.mem_flatMap.mp h
  obtain⟨i,hi,rfl⟩:=List.mem_map.mp hf
  obtain⟨l,k⟩:=uN s d g hg
  have:=List.mem_range.mp hi
  refine⟨by rw[aak,l];rfl,λx hx=>?_⟩
  rcases List.mem_append.mp hx with h | h
  ·exact k x h
  ·rw[List.mem_singleton.mp h];omega
noncomputable def Lt (f g:List Int):Prop:=F0 f g=false
noncomputable def Jj (low s:Nat):List (List Int):=(List.range s).flatMap λi:Nat=>if i<low then (List.range s).map λj:Nat=>[((i:Nat):Int)+1,((j:Nat):Int)+1] else [[((i:Nat):Int)+1]]
theorem zo {low s:Nat}:∀f∈Jj low s,(∀x∈f,1<=x/\x<=(s:Int))/\((∃a b:Int,f=[a,b]/\a<=(low:Int))\/∃a:Int,f=[a]/\(low:Int)<a):=by
 intro f hf
 obtain⟨i,hi,hf⟩:=List.mem_flatMap.mp hf
 have hi:=List.mem_range.mp hi
 by_cases c:i<low
 ·rw[if_pos c] at hf
  obtain⟨j,hj,rfl⟩:=List.mem_map.mp hf
  have hj:=List.mem_range.mp hj
  refine⟨λx hx=>?_,.inl ⟨_,_,rfl,by omega⟩⟩
  simp only[aaD,aaV,or_false] at hx
  rcases hx with rfl | rfl <;>omega
 ·rw[if_neg c] at hf
  rw[List.mem_singleton.mp hf]
  refine⟨λx hx=>?_,.inr ⟨_,rfl,by omega⟩⟩
  rw[List.mem_singleton.mp hx]
  omega
theorem ET (low s:Nat):(Jj low s).length=((List.range s).map λi=>if i<low then s else 1).sum:=by
 unfold Jj
 have:∀l:List Nat,(l.flatMap λi:Nat=>if i<low then (List.range s).map λj:Nat=>[((i:Nat):Int)+1,((j:Nat):Int)+1] else [[((i:Nat):Int)+1]]).length=(l.map λi=>if i<low then s else 1).sum:=by
  intro l
  induction l with
  | nil=>rfl
  | cons a r ih=>
   rw[List.flatMap_cons,aak,ih,aae,aaW]
   congr 1
   split <;>simp
 exact this _
inductive Pt
 | num (n:Nat)
 | gJ (m s:Nat)
 | again (n s:Nat)
noncomputable def qC:Pt->List V
 | .num n=>[.str (Str.ofString "number"),.int (n:Int)]
 | .gJ m s=>[.str (Str.ofString "dice"),.int (m:Int),.int (s:Int)]
 | .again n s=>[.str (Str.ofString "again"),.int (n:Int),.int (s:Int)]
noncomputable def zp:Pt->Dat
 | .num n=>.tup [.str (Str.ofString "number"),.int (n:Int)]
 | .gJ m s=>.tup [.str (Str.ofString "dice"),.int (m:Int),.int (s:Int)]
 | .again n s=>.tup [.str (Str.ofString "again"),.int (n:Int),.int (s:Int)]
noncomputable def lst:Pt->Nat
 | .num n=>n
 | .gJ _ s=>s
 | .again _ s=>s
noncomputable def sd:Pt->Nat
 | .num _=>1
 | p=>lst p
noncomputable def DE:Pt->Nat
 | .num _=>0
 | .gJ m _=>m
 | .again n _=>if 0<n then 2 else 1
noncomputable def bot (p:Pt):Nat:=sd p^DE p
noncomputable def cnt:Pt->Nat
 | .num _=>1
 | .again n s=>min n s*s+ (s - min n s)
 | p=>bot p
noncomputable def EU:Pt->List (List Int)
 | .num _=>[[]]
 | .gJ m s=>ES s m
 | .again n s=>Jj n s
noncomputable def val:Pt->List Int->Int
 | .num n,_=>n
 | .again _ _,f=>f.getLastD 0
 | .gJ _ _,f=>f.sum
noncomputable def dJ:Pt->Prop
 | .num n=>n<=99
 | .gJ m s=>1<=s/\s<=20/\m<=6
 | .again n s=>1<=s/\s<=20/\n<=20
theorem uO {p:Pt} (g:dJ p):1<=sd p/\sd p<=20:=by
 cases p <;>simp only[sd,lst,dJ] at *<;>omega
theorem HH {p:Pt} (g:dJ p):lst p<=99:=by
 cases p <;>simp only[lst,dJ] at *<;>omega
theorem qD {p:Pt} (g:dJ p):DE p<=7:=by
 cases p <;>simp only[DE,dJ] at *<;>(try split) <;>omega
theorem AN {s e:Nat} (hs:s<=20) (he:e<=10):s^e<=10240000000000:=
 aal (Nat.pow_le_pow_left hs e) (aal (Nat.pow_le_pow_right (by decide) he) (by decide))
theorem zq (low c:Nat):∀k,((List.range k).map λi=>if i<low then c else 1).sum=min low k*c+ (k - min low k)
 | 0=>by simp
 | k+1=>by
  rw[List.range_succ,aao,List.sum_append_nat,zq low c k,aae,aaC,aaW,List.sum_nil]
  by_cases h:k<low
  ·rw[if_pos h,Nat.min_eq_right (by omega),Nat.min_eq_right (by omega),Nat.succ_mul]
   omega
  ·rw[if_neg h,Nat.min_eq_left (by omega),Nat.min_eq_left (by omega)]
   omega
theorem mG (p:Pt):(EU p).length=cnt p:=by
 cases p with
 | num n=>rfl
 | gJ m s=>exact pO s m
 | again n s=>show(Jj n s).length=min n s*s+ (s - min n s);rw[ET,zq]
theorem mH {p:Pt} (g:dJ p):∀f∈EU p,(∀x∈f,1<=x/\x<=(lst p:Int))/\f.length<=DE p:=by
 intro f hf
 cases p with
 | num n=>rw[List.mem_singleton.mp hf];simp
 | gJ m s=>obtain⟨a,b⟩:=uN s m f hf;exact⟨b,Nat.le_of_eq a⟩
 | again n s=>
  obtain⟨a,b⟩:=zo f hf
  refine⟨a,?_⟩
  show f.length<=if 0<n then 2 else 1
  rcases b with ⟨x,y,rfl,h⟩ | ⟨x,rfl,h⟩
  ·have:=(a x (by simp)).1
   rw[if_pos (by omega)]
   simp
  ·simp
   split <;>omega
theorem EV {p:Pt} (g:dJ p) {f:List Int} (hf:f∈EU p):1<=sd p^f.length/\sd p^f.length<=bot p:=
 ⟨Nat.pow_pos (uO g).1,Nat.pow_le_pow_right (uO g).1 (mH g f hf).2⟩
abbrev Row:=List Int×Int×Nat
noncomputable def DF (p:Pt):List Row:=(EU p).map λf=>(f,val p f,sd p^f.length)
noncomputable def F5 (rs:List Row) (p:Pt):List Row:=rs.flatMap λr=>(DF p).map λq=>(r.1++q.1,r.2.1+q.2.1,r.2.2*q.2.2)
noncomputable def gA (ps:List Pt):List Row:=ps.foldl F5 [([],0,1)]
theorem qE (ps:List Pt) (p:Pt):gA (ps++ [p])=F5 (gA ps) p:=by unfold gA;rw[List.foldl_append];rfl
noncomputable def lL:List Nat->Nat
 | []=>1
 | a::r=>a*lL r
theorem gQ (l:List Nat) (a:Nat):lL (l++ [a])=lL l*a:=by
 induction l with
 | nil=>simp [lL]
 | cons b r ih=>simp only[List.cons_append,lL,ih,Nat.mul_assoc]
theorem zr {l:List Nat} (h:∀a∈l,1<=a):1<=lL l:=by
 induction l with
 | nil=>simp [lL]
 | cons b r ih=>
  have h1:=h b (by simp)
  have h2:=ih λa ha=>h a (aaj _ ha)
  exact Nat.mul_le_mul h1 h2
theorem vY {l:List Nat} (h:∀a∈l,1<=a):∀i,lL (l.take i)<=lL l:=by
 induction l with
 | nil=>intro i;simp
 | cons b r ih=>
  intro i
  have h1:=h b (by simp)
  have h0:∀a∈r,1<=a:=λa ha=>h a (aaj _ ha)
  cases i with
  | zero=>exact Nat.mul_le_mul h1 (zr h0)
  | succ i=>exact Nat.mul_le_mul (aaf _) (ih h0 i)
theorem EW (rs:List Row) (p:Pt):(F5 rs p).length=rs.length*cnt p:=by
 unfold F5
 induction rs with
 | nil=>simp
 | cons r t ih=>
  rw[List.flatMap_cons,aak,ih,aac,aaq,Nat.succ_mul]
  unfold DF
  rw[aac,mG]
  omega
theorem take_snoc {α:Type} {l:List α} {i:Nat} (h:i<l.length):l.take (i+1)=l.take i++ [l[i]]:=by
 rw[aaG,aat h]
 rfl
theorem pP (ps:List Pt):(gA ps).length=lL (ps.map cnt):=by
 have:∀i,i<=ps.length->(gA (ps.take i)).length=lL ((ps.take i).map cnt):=by
  intro i
  induction i with
  | zero=>intro _;rfl
  | succ i ih=>
   intro h
   rw[take_snoc (by omega),qE,EW,ih (by omega),aao,aae,aaC,gQ]
 have:=this ps.length (aaf _)
 rwa [aau (aaf _)] at this
theorem pN {p:Pt} (g:dJ p):1<=cnt p:=by
 cases p with
 | num n=>simp [cnt]
 | gJ m s=>exact Nat.pow_pos g.1
 | again n s=>
  simp only[cnt,dJ] at *
  by_cases h:s - min n s=0
  ·have:min n s=s:=by omega
   rw[this]
   have:1*1<=s*s:=Nat.mul_le_mul g.1 g.1
   omega
  ·omega
theorem zt {p:Pt} (g:dJ p):1<=bot p:=Nat.pow_pos (uO g).1
noncomputable def tK (ps:List Pt):Prop:=(∀p∈ps,dJ p)/\lL (ps.map cnt)<=1296/\lL (ps.map bot)<=1000000
theorem nV {ps:List Pt} (g:tK ps) (i:Nat):lL ((ps.take i).map cnt)<=1296:=by
 rw[List.map_take]
 exact aal (vY (λa ha=>by obtain⟨p,hp,rfl⟩:=List.mem_map.mp ha;exact pN (g.1 p hp)) i) g.2.1
theorem nW {ps:List Pt} (g:tK ps) (i:Nat):lL ((ps.take i).map bot)<=1000000:=by
 rw[List.map_take]
 exact aal (vY (λa ha=>by obtain⟨p,hp,rfl⟩:=List.mem_map.mp ha;exact zt (g.1 p hp)) i) g.2.2
theorem zu {l:List Nat} (h:∀a∈l,1<=a):∀a∈l,a<=lL l:=by
 induction l with
 | nil=>intro a ha;cases ha
 | cons b r ih=>
  intro a ha
  have h1:=h b (by simp)
  have h0:∀a∈r,1<=a:=λa ha=>h a (aaj _ ha)
  rw[lL]
  rcases List.mem_cons.mp ha with rfl | ha
  ·have:=Nat.mul_le_mul (aaf a) (zr h0)
   omega
  ·have:=Nat.mul_le_mul h1 (ih h0 a ha)
   omega
theorem nX {ps:List Pt} (g:tK ps) {p:Pt} (hp:p∈ps):dJ p/\cnt p<=1296/\bot p<=1000000:=
 ⟨g.1 p hp,aal (zu (λa ha=>by obtain⟨p,hp,rfl⟩:=List.mem_map.mp ha;exact pN (g.1 p hp)) _ (List.mem_map_of_mem hp)) g.2.1,
  aal (zu (λa ha=>by obtain⟨p,hp,rfl⟩:=List.mem_map.mp ha;exact zt (g.1 p hp)) _ (List.mem_map_of_mem hp)) g.2.2⟩
theorem zv {ps:List Pt} (g:∀p∈ps,dJ p):∀i,i<=ps.length->∀r∈gA (ps.take i),r.1.length<=7*i/\1<=r.2.2/\r.2.2<=lL ((ps.take i).map bot):=by
 intro i
 induction i with
 | zero=>intro _ r hr;rw[List.mem_singleton.mp hr];simp [lL]
 | succ i ih=>
  intro h r hr
  rw[take_snoc (by omega),qE] at hr
  obtain⟨r0,h0,hr⟩:=List.mem_flatMap.mp hr
  obtain⟨q,hq,rfl⟩:=List.mem_map.mp hr
  obtain⟨f,hf,rfl⟩:=List.mem_map.mp hq
  obtain⟨a,b,c⟩:=ih (by omega) r0 h0
  have gp:=g _ (List.getElem_mem (show i<ps.length by omega))
  obtain⟨d,e⟩:=EV gp hf
  have l:=(mH gp f hf).2
  have m:=qD gp
  rw[take_snoc (by omega),aao,aae,aaC,gQ]
  refine⟨by rw[aak];show r0.1.length+f.length<=_;omega,Nat.mul_le_mul b d,Nat.mul_le_mul c e⟩
noncomputable def Fa (H:Hp) (f:List Int) (v:V):Prop:=∃q,v=.ref q/\H q=some (.lst (List.map V.int f))
theorem Fa.mono {H H':Hp} {f:List Int} {v:V} (s:aw H H'):Fa H f v->Fa H' f v:=fun⟨q,e,h⟩=>⟨q,e,s _ _ h⟩
noncomputable def TR (G H:Hp) (r:Row) (v:V):Prop:=∃a q,v=.ref a/\H a=some (.tup [.ref q,.int r.2.1,.int (r.2.2:Int)])/\H q=some (.lst (List.map V.int r.1))/\G q=none
theorem TR.mono {G H H':Hp} {r:Row} {v:V} (s:aw H H'):TR G H r v->TR G H' r v:=fun⟨a,q,e,h,k,n⟩=>⟨a,q,e,s _ _ h,s _ _ k,n⟩
noncomputable def HI (H:Hp) (l:Addr) (ps:List Pt):Prop:=∃xs,H l=some (.lst xs)/\Al (λp v=>∃q,v=.ref q/\H q=some (.tup (qC p))) ps xs
theorem HI.mono {H H':Hp} {l:Addr} {ps:List Pt} (s:aw H H'):HI H l ps->HI H' l ps:=fun⟨xs,h,a⟩=>⟨xs,s _ _ h,a.imp λ_ _ ⟨q,e,k⟩=>⟨q,e,s _ _ k⟩⟩
theorem pQ {H:Hp} {p:Addr} {o:HO}:c6 (upd H p o) p=c6 H p:=by
 funext a
 unfold c6
 by_cases c:a=p
 ·rw[if_pos c,if_pos c]
 ·rw[if_neg c,if_neg c,aD c]
theorem Cq (p:Pt):oW (qC p) (-1)=some (.int (lst p:Int)):=by cases p <;>rfl
noncomputable def kd:Pt->Str
 | .num _=>Str.ofString "number"
 | .gJ _ _=>Str.ofString "dice"
 | .again _ _=>Str.ofString "again"
noncomputable def HJ:Sp:=λvs H Q _=>∃b e:Nat,vs=[.int (b:Int),.int (e:Int)]/\(1<=b\/e=0)/\e<=10/\b^e<=1000000/\Q (.int ((b^e:Nat):Int)) H
noncomputable def Cr:Sp:=λvs H Q _=>∃q p,vs=[.ref q]/\H q=some (.tup (qC p))/\Q (.int (DE p:Int)) H
noncomputable def vZ:Sp:=λvs H Q _=>∃q p,vs=[.ref q]/\H q=some (.tup (qC p))/\dJ p/\bot p<=1000000/\Q (.int (bot p:Int)) H
noncomputable def HK:Sp:=λvs H Q _=>∃q p,vs=[.ref q]/\H q=some (.tup (qC p))/\dJ p/\bot p<=1000000/\Q (.int (cnt p:Int)) H
noncomputable def HL:Sp:=λvs H Q _=>∃l ps,vs=[.ref l]/\HI H l ps/\tK ps/\Q .cZ H
noncomputable def HM:Sp:=λvs H Q _=>∃d s:Nat,vs=[.int (d:Int),.int (s:Int)]/\1<=s/\s<=20/\d<=6/\s^d<=1296/\∀l H' xs,aw H H'->H' l=some (.lst xs)->Al (Fa H') (ES s d) xs->Q (.ref l) H'
noncomputable def HN:Sp:=λvs H Q _=>∃n s:Nat,vs=[.int (n:Int),.int (s:Int)]/\s<=20/\∀l H' xs,aw H H'->H' l=some (.lst xs)->Al (Fa H') (Jj n s) xs->Q (.ref l) H'
noncomputable def HP:Sp:=λvs H Q _=>∃q p,vs=[.ref q]/\H q=some (.tup (qC p))/\dJ p/\cnt p<=1296/\∀l H' xs,aw H H'->H' l=some (.lst xs)->Al (Fa H') (EU p) xs->Q (.ref l) H'
noncomputable def HQ:Sp:=λvs H Q _=>∃q p l f,vs=[.ref q,.ref l]/\H q=some (.tup (qC p))/\H l=some (.lst (List.map V.int f))/\dJ p/\f∈EU p/\∀H',aw H H'->Q (.int (val p f)) H'
noncomputable def HR:Sp:=λvs H Q _=>∃q p l f,vs=[.ref q,.ref l]/\H q=some (.tup (qC p))/\H l=some (.lst (List.map V.int f))/\dJ p/\f∈EU p/\Q (.int ((sd p^f.length:Nat):Int)) H
noncomputable def HS:Sp:=λvs H Q _=>∃q p,vs=[.ref q]/\H q=some (.tup (qC p))/\dJ p/\cnt p<=1296/\∀l H' xs,aw H H'->H' l=some (.lst xs)->Al (TR (λ_=>none) H') (DF p) xs->Q (.ref l) H'
noncomputable def HU:Sp:=λvs H Q _=>∃a ps,vs=[.ref a]/\HI H a ps/\tK ps/\ps.length<=4/\∀l H' xs,aw H H'->H' l=some (.lst xs)->Al (TR H H') (gA ps) xs->Q (.ref l) H'
noncomputable def Kz:Sp:=λ_ _ _ _=>False
noncomputable def AO:List (List Pt):=[[.gJ 1 2],[.gJ 1 3],[.num 1,.gJ 1 2],[.again 1 2]]
theorem Cs {ps:List Pt} (g:ps∈AO):tK ps:=by
 simp only[AO,aaD,aaV,or_false] at g
 rcases g with rfl | rfl | rfl | rfl <;>exact⟨by simp [dJ],by decide +kernel,by decide +kernel⟩
noncomputable def EX (C:Nat) (rs:List Row):Nm.Ws:=rs.map λr=>(r.2.1,((C / r.2.2:Nat):Int))
noncomputable def DG (ps:List Pt):Nm.Ws:=EX (lL (ps.map bot)) (gA ps)
noncomputable def iy (ps:List Pt):List (Int×Int×Int):=Nm.rowsOf (Nm.lF (DG ps)) (Nm.ql (Nm.lF (DG ps)))
noncomputable def mI (ps:List Pt):Prop:=ps∈AO
noncomputable def Ct (ps:List Pt):Int:=(lL (ps.map bot):Int)
noncomputable def GoodR (W:Int) (rows:List (Int×Int×Int)):Prop:=0<W/\W<=1000000/\rows.length<=1296/\∀r∈rows,0<r.2.2/\r.2.2∣W/\0<=r.2.1/\r.2.1<=W
theorem tL {ps:List Pt} (g:mI ps):GoodR (Ct ps) (iy ps):=by
 have h:∀ps∈AO,0<Ct ps/\Ct ps<=1000000/\(iy ps).length<=1296/\∀r∈iy ps,0<r.2.2/\r.2.2∣Ct ps/\0<=r.2.1/\r.2.1<=Ct ps:=by decide +kernel
 exact h ps g
theorem zw:∀ps∈AO,(∀x∈DG ps,0<x.2/\x.2<=10^12)/\(DG ps).length<=1296/\(Nm.lF (DG ps)).length<64/\Nm.pos (DG ps)≠[]:=by decide +kernel
theorem HV {ps:List Pt} (g:mI ps):¬Nm.bad (DG ps):=λb=>by
 obtain⟨h1,_,_,h4⟩:=zw ps g
 rcases b with ⟨x,hx,c⟩ | c
 ·have:=h1 x hx;omega
 ·exact h4 c
theorem EY {p q:Pt} (h:zp p=zp q):p=q:=by
 cases p <;>cases q <;>simp only[zp,Dat.tup.injEq,List.cons.injEq,Dat.str.injEq,Dat.int.injEq,and_true,Int.natCast_inj] at h <;>first | exact absurd h.1 (by decide +kernel) | (obtain⟨_,rfl⟩:=h;rfl) | (obtain⟨_,rfl,rfl⟩:=h;rfl)
noncomputable def HW:Sp:=λvs H Q _=>∃a ps,vs=[.ref a]/\HI H a ps/\mI ps/\ps.length<=4/\∀p H',aw H H'->H p=none->Rep H' (kA (iy ps)) (.ref p)->Q (.ref p) H'
inductive Dd
 | set (n:Str) (k:Int)
 | plus (n:Str) (k:Int)
 | face (n:Str)
 | move (n m:Str)
noncomputable def EZ:Dd->Dat
 | .set n k=>.tup [.str (Str.ofString "set"),.str n,.int k]
 | .plus n k=>.tup [.str (Str.ofString "plus"),.str n,.int k]
 | .face n=>.tup [.str (Str.ofString "face"),.str n]
 | .move n m=>.tup [.str (Str.ofString "move"),.str n,.str m]
structure Rw where
 word:Str
 wh:Option (Str×Str×Int)
 ds:List Dd
 to:Str
noncomputable def DH:Option (Str×Str×Int)->Dat
 | none=>.cZ
 | some (a,b,k)=>.tup [.str a,.str b,.int k]
abbrev R4:=Dat×Dat×List Dat×Dat
noncomputable def tM (r:R4):Dat:=.tup [r.1,r.2.1,.lst r.2.2.1,r.2.2.2]
noncomputable def DI (r:Rw):R4:=(.str r.word,DH r.wh,r.ds.map EZ,.str r.to)
abbrev Tw:=Int×Int×List Dd×Str
noncomputable def Jk (r:Tw):R4:=(.int r.1,.int r.2.1,r.2.2.1.map EZ,.str r.2.2.2)
inductive Wt
 | ask (c:Str) (k:Int) (one other:Str)
 | fin (t b:Int)
 | score (c:Str)
 | pick (rO:Int) (rs:List Rw)
 | gA (fI:List Dat) (t b:Int) (rs:List Tw)
noncomputable def rP:Wt->Dat
 | .ask c k a b=>.tup [.str (Str.ofString "ask"),.str c,.int k,.str a,.str b]
 | .fin t b=>.tup [.str (Str.ofString "end"),.tup [.int t,.int b]]
 | .score c=>.tup [.str (Str.ofString "score"),.str c]
 | .pick w rs=>.tup [.str (Str.ofString "pick"),.int w,.lst ((rs.map DI).map tM)]
 | .gA fI t b rs=>.tup [.str (Str.ofString "throw"),.lst fI,.tup [.int t,.int b],.lst ((rs.map Jk).map tM)]
structure Gm where
 cs:List (Str×Int)
 ps:List (Str×Wt)
noncomputable def Oc (cs:List (Str×Int)):Dat:=.lst (cs.map λc=>.tup [.str c.1,.int c.2])
noncomputable def XY (ps:List (Str×Wt)):Dat:=.lst (ps.map λp=>.tup [.str p.1,rP p.2])
noncomputable def E1 (g:Gm):Dat:=.tup [Oc g.cs,XY g.ps]
noncomputable def dm (cs:List (Str×Int)) (n:Str):Nat:=(cs.map (·.1)).idxOf n
noncomputable def most (cs:List (Str×Int)) (i:Nat):Int:=(cs.map (·.2)).getD i 0
noncomputable def uP (cs:List (Str×Int)) (ns:List Int) (i:Nat) (k:Int):List Int:=ns.set i (min k (most cs i))
noncomputable def mJ (cs:List (Str×Int)) (v:Int) (ns:List Int):Dd->List Int
 | .set n k=>uP cs ns (dm cs n) k
 | .plus n k=>uP cs ns (dm cs n) (ns.getD (dm cs n) 0+k)
 | .face n=>uP cs ns (dm cs n) (ns.getD (dm cs n) 0+v)
 | .move n m=>(uP cs ns (dm cs m) (ns.getD (dm cs m) 0+ns.getD (dm cs n) 0)).set (dm cs n) 0
noncomputable def tN (cs:List (Str×Int)):Dd->Prop
 | .set n _=>n∈cs.map (·.1)
 | .plus n _=>n∈cs.map (·.1)
 | .face n=>n∈cs.map (·.1)
 | .move n m=>n∈cs.map (·.1)/\m∈cs.map (·.1)
theorem dB {cs:List (Str×Int)} {n:Str} (h:n∈cs.map (·.1)):dm cs n<cs.length:=by
 have:=aa6 h
 rwa [aac] at this
theorem gR {cs:List (Str×Int)} {ns:List Int} {i:Nat} {k:Int}:(uP cs ns i k).length=ns.length:=by unfold uP;rw[List.length_set]
theorem E2 {cs:List (Str×Int)} {v:Int} {ns:List Int}:∀d:Dd,(mJ cs v ns d).length=ns.length
 | .set _ _=>gR
 | .plus _ _=>gR
 | .face _=>gR
 | .move _ _=>by unfold mJ;rw[List.length_set,gR]
noncomputable def look (ps:List (Str×Wt)) (n:Str):Option Wt:=(ps.find? λp=>decide (p.1=n)).map (·.2)
noncomputable def gw (g:Gm) (ns:List Int):Nat->Str->Option Str
 | 0,_=>none
 | f+1,nm=>match look g.ps nm with
  | some (.ask c k a b)=>if k<=ns.getD (dm g.cs c) 0 then gw g ns f a else gw g ns f b
  | some _=>some nm
  | none=>none
noncomputable def gK (cs:List (Str×Int)) (ns:List Int):Option (Str×Str×Int)->Bool
 | none=>true
 | some (n,x,k)=>if n∈cs.map (·.1) then (if x=Str.ofString "from" then decide (k<=ns.getD (dm cs n) 0) else decide (ns.getD (dm cs n) 0<k)) else false
noncomputable def F6 (cs:List (Str×Int)):Wt->Prop
 | .ask c _ _ _=>c∈cs.map (·.1)
 | .fin _ _=>True
 | .score c=>c∈cs.map (·.1)
 | .pick _ rs=>rs.length<=100/\∀r∈rs,r.ds.length<=100/\∀d∈r.ds,tN cs d
 | .gA fI _ _ rs=>fI.length<=100/\rs.length<=100/\∀r∈rs,r.2.2.1.length<=100/\∀d∈r.2.2.1,tN cs d
structure GoodG (g:Gm):Prop where
 nc:(g.cs.map (·.1)).Nodup
 np:(g.ps.map (·.1)).Nodup
 lc:g.cs.length<=100
 lp:g.ps.length<=100
 p0:0<g.ps.length
 wt:∀p∈g.ps,F6 g.cs p.2
theorem eg {ps:List (Str×Wt)} {n:Str} {x:Wt} (h:look ps n=some x):(n,x)∈ps:=by
 unfold look at h
 obtain⟨p,hp,rfl⟩:=Option.map_eq_some_iff.mp h
 have e:=List.find?_some hp
 have e:p.1=n:=by simpa using e
 subst e
 exact List.mem_of_find?_eq_some hp
noncomputable def qF:List (Str×Int)->Nat->List (Key×V)
 | [],_=>[]
 | c::cs,i=>(Sum.inr c.1,V.int (i:Int))::qF cs (i+1)
theorem zx:∀(cs:List (Str×Int)) (i:Nat),(qF cs i).length=cs.length
 | [],_=>rfl
 | _::cs,i=>by rw[qF,aaq,zx cs,aaq]
theorem wb (c:Str×Int):∀(cs:List (Str×Int)) (i:Nat),qF (cs++ [c]) i=qF cs i++ [(Sum.inr c.1,V.int ((i+cs.length:Nat):Int))]
 | [],i=>rfl
 | d::cs,i=>by
  rw[List.cons_append,qF,wb c cs (i+1),qF,aaq,show i+1+cs.length=i+ (cs.length+1) by omega]
  rfl
theorem zy {n:Str}:∀{cs:List (Str×Int)} {i:Nat},n∈cs.map (·.1)->d8 (qF cs i) (Sum.inr n)=some (.int ((i+dm cs n:Nat):Int))
 | [],_,h=>by simp at h
 | c::cs,i,h=>by
  rw[qF]
  by_cases e:c.1=n
  ·rw[iX (by rw[e])]
   have:dm (c::cs) n=0:=by unfold dm;rw[aae,e,List.idxOf_cons_self]
   rw[this]
   rfl
  ·rw[fQ (λz=>e (by injection z)),zy (cs:=cs) (i:=i+1) (by simpa [Ne.symm e] using h)]
   have:dm (c::cs) n=dm cs n+1:=by unfold dm;rw[aae,List.idxOf_cons,beq_false_of_ne e];rfl
   rw[this,show i+1+dm cs n=i+ (dm cs n+1) by omega]
theorem qG {n:Str}:∀{cs:List (Str×Int)} {i:Nat},n∉cs.map (·.1)->d8 (qF cs i) (Sum.inr n)=none
 | [],_,_=>rfl
 | c::cs,i,h=>by
  rw[qF,fQ (λz=>h (by injection z with z;simp [z])),qG (cs:=cs) (i:=i+1) (λz=>h (by rw[aae];exact aaj _ z))]
theorem pR {κ:Type} [DecidableEq κ] {kvs:List (κ×V)} {k:κ} {v:V} (h:d8 kvs k=none):putK kvs k v=kvs++ [(k,v)]:=by
 unfold putK
 rw[if_neg]
 intro c
 obtain⟨x,hx,e⟩:=List.any_eq_true.mp c
 unfold d8 at h
 have:kvs.find? (λkv=>decide (kv.1=k))=none:=by simpa using h
 exact absurd e (by simpa using List.find?_eq_none.mp this x hx)
noncomputable def qH (H:Hp):List (Str×Wt)->List (Key×V)->Prop
 | [],us=>us=[]
 | p::ps,us=>∃v r,us=(Sum.inr p.1,v)::r/\Rep H (rP p.2) v/\qH H ps r
theorem qH.mono {H H':Hp} (s:aw H H'):∀{ps:List (Str×Wt)} {us:List (Key×V)},qH H ps us->qH H' ps us
 | [],_,h=>h
 | _::_,_,⟨v,r,e,h1,h2⟩=>⟨v,r,e,h1.mono s,h2.mono s⟩
theorem qH.len {H:Hp}:∀{ps:List (Str×Wt)} {us:List (Key×V)},qH H ps us->us.length=ps.length
 | [],_,h=>by rw[qH] at h;subst h;rfl
 | _::_,_,⟨v,r,e,h1,h2⟩=>by rw[e,aaq,h2.len,aaq]
theorem qH.snoc {H:Hp} {p:Str×Wt} {v:V} (k:Rep H (rP p.2) v):∀{ps:List (Str×Wt)} {us:List (Key×V)},qH H ps us->qH H (ps++ [p]) (us++ [(Sum.inr p.1,v)])
 | [],_,h=>by rw[qH] at h;subst h;exact⟨v,[],rfl,k,rfl⟩
 | _::_,_,⟨u,r,e,h1,h2⟩=>by rw[e];exact⟨u,_,rfl,h1,h2.snoc k⟩
theorem qH.val {H:Hp} {n:Str}:∀{ps:List (Str×Wt)} {us:List (Key×V)},qH H ps us->(∃x v,look ps n=some x/\d8 us (Sum.inr n)=some v/\Rep H (rP x) v)\/(look ps n=none/\d8 us (Sum.inr n)=none)
 | [],_,h=>by rw[qH] at h;subst h;exact .inr ⟨rfl,rfl⟩
 | p::ps,_,⟨u,r,e,h1,h2⟩=>by
  subst e
  by_cases c:p.1=n
  ·exact .inl ⟨p.2,u,by unfold look;rw[aa7 (by simpa using c)];rfl,iX (by rw[c]),h1⟩
  ·rcases h2.val (n:=n) with ⟨x,v,a,b,d⟩ | ⟨a,b⟩
   ·exact .inl ⟨x,v,by unfold look at *;rw[aa8 (by simpa using c)];exact a,by rw[fQ (λz=>c (by injection z))];exact b,d⟩
   ·exact .inr ⟨by unfold look at *;rw[aa8 (by simpa using c)];exact a,by rw[fQ (λz=>c (by injection z))];exact b⟩
theorem AQ {ps:List (Str×Wt)} {n:Str} (h:n∉ps.map (·.1)):look ps n=none:=by
 unfold look
 rw[Option.map_eq_none_iff,List.find?_eq_none]
 intro p hp c
 exact h (List.mem_map.mpr ⟨p,hp,by simpa using c⟩)
theorem gS {cs:List (Str×Int)} {v:Int}:∀(ds:List Dd) (ns:List Int),(ds.foldl (mJ cs v) ns).length=ns.length
 | [],_=>rfl
 | d::ds,ns=>by rw[List.foldl_cons,gS ds,E2]
noncomputable def dM (cs:List (Str×Int)) (ns:List Int):Wt->List Rw
 | .pick _ rs=>rs.filter λr=>gK cs ns r.wh
 | _=>[]
noncomputable def E3 (cs:List (Str×Int)) (ns:List Int):Wt->Option (Int×Int)
 | .fin t b=>some (t,b)
 | .score c=>some (ns.getD (dm cs c) 0,1)
 | _=>none
theorem ba {a b:TS} {D:Ends} {σ:L2.St} {H:Hp} (C:(L2.St->Hp->Prop)->Prop) (hb:C (b D)) (ha:∀N:L2.St->Hp->Prop,C N->a {D with nx:=N} σ H):tSeq a b D σ H:=ha _ hb
noncomputable def tO (q:Addr) (H:Hp) (c:Addr) (g:Gm):Prop:=∃dx sp mo wh tb us ft,H c=some (.ins q dx [(Str.ofString "spots",.ref sp),(Str.ofString "mosts",.ref mo),(Str.ofString "first",.str ft),(Str.ofString "whats",.ref wh),(Str.ofString "tables",.ref tb)])/\
 H sp=some (.dK (qF g.cs 0))/\H mo=some (.lst ((g.cs.map (·.2)).map V.int))/\H wh=some (.dK us)/\qH H g.ps us/\(g.ps.map (·.1)).head?=some ft
theorem tO.mono {q:Addr} {H H':Hp} {c:Addr} {g:Gm} (s:aw H H'):tO q H c g->tO q H' c g:=fun⟨dx,sp,mo,wh,tb,us,ft,h1,h2,h3,h4,h5,h6⟩=>⟨dx,sp,mo,wh,tb,us,ft,s _ _ h1,s _ _ h2,s _ _ h3,s _ _ h4,h5.mono s,h6⟩
noncomputable def tP (H:Hp) (v:V) (nm:Str) (ns:List Int):Prop:=∃a l,v=.ref a/\H a=some (.tup [.str nm,.ref l])/\H l=some (.lst (ns.map V.int))
theorem tP.mono {H H':Hp} {v:V} {nm:Str} {ns:List Int} (s:aw H H'):tP H v nm ns->tP H' v nm ns:=fun⟨a,l,e,h1,h2⟩=>⟨a,l,e,s _ _ h1,s _ _ h2⟩
noncomputable def xW:Sp:=λvs H Q _=>∃v,∃rs:List R4,vs=[v]/\Rep H (.lst (rs.map tM)) v/\rs.length<=100/\(∀r∈rs,r.2.2.1.length<=100)/\∀p H',aw H H'->Rep H' (.lst (rs.map tM)) (.ref p)->Q (.ref p) H'
noncomputable def HX:Sp:=λvs H Q _=>∃v x cs,vs=[v]/\Rep H (rP x) v/\F6 cs x/\∀u H',aw H H'->Rep H' (rP x) u->Q u H'
noncomputable def tQ (q:Addr):Sp:=λvs H Q _=>∃c l i k g ns,vs=[.ref c,.ref l,.int ((i:Nat):Int),.int k]/\tO q (c6 H l) c g/\H l=some (.lst (List.map V.int ns))/\i<g.cs.length/\ns.length=g.cs.length/\Q .cZ (upd H l (.lst ((uP g.cs ns i k).map V.int)))
noncomputable def HY (q:Addr):Sp:=λvs H Q _=>∃c l dv v g ns d,vs=[.ref c,.ref l,dv,.int v]/\tO q (c6 H l) c g/\H l=some (.lst (List.map V.int ns))/\Rep (c6 H l) (EZ d) dv/\tN g.cs d/\ns.length=g.cs.length/\Q .cZ (upd H l (.lst ((mJ g.cs v ns d).map V.int)))
noncomputable def wc (q:Addr):Sp:=λvs H Q _=>∃c nm l g ns f gL,vs=[.ref c,.str nm,.ref l]/\tO q H c g/\GoodG g/\H l=some (.lst (List.map V.int ns))/\ns.length=g.cs.length/\gw g ns f nm=some gL/\∀a H',aw H H'->H a=none->H' a=some (.tup [.str gL,.ref l])->Q (.ref a) H'
noncomputable def Cu (q:Addr):Sp:=λvs H Q _=>∃c g f ft gL,vs=[.ref c]/\tO q H c g/\GoodG g/\(g.ps.map (·.1)).head?=some ft/\gw g (List.replicate g.cs.length 0) f ft=some gL/\∀a l H',aw H H'->H a=none->H l=none->H' a=some (.tup [.str gL,.ref l])->H' l=some (.lst ((List.replicate g.cs.length (0:Int)).map V.int))->Q (.ref a) H'
noncomputable def iE (q:Addr):Sp:=λvs H Q _=>∃c v H0 g nm ns x,vs=[.ref c,v]/\aw H0 H/\tO q H0 c g/\tP H v nm ns/\look g.ps nm=some x/\∀u,Rep H0 (rP x) u->Q u H
noncomputable def wd (q:Addr):Sp:=λvs H Q _=>∃c v l g ns wh,vs=[.ref c,v,.ref l]/\tO q H c g/\Rep H (DH wh) v/\H l=some (.lst (List.map V.int ns))/\ns.length=g.cs.length/\Q (.bl (gK g.cs ns wh)) H
noncomputable def we (q:Addr):Sp:=λvs H Q _=>∃c sv rv v g nm ns a b ds to f gL,vs=[.ref c,sv,rv,.int v]/\tO q H c g/\GoodG g/\tP H sv nm ns/\Rep H (tM (a,b,List.map EZ ds,.str to)) rv/\(∀d∈ds,tN g.cs d)/\ds.length<=100/\ns.length=g.cs.length/\
 gw g (ds.foldl (mJ g.cs v) ns) f to=some gL/\∀p l H',aw H H'->H p=none->H l=none->H' p=some (.tup [.str gL,.ref l])->H' l=some (.lst ((ds.foldl (mJ g.cs v) ns).map V.int))->Q (.ref p) H'
theorem eR {H:Hp} {ds:List Dat} {v:V}:Rep H (.tup ds) v↔∃p vs,v=.ref p/\H p=some (.tup vs)/\bb H ds vs:=by rw[Rep]
theorem aQ {H:Hp} {d:Dat} {ds:List Dat} {vs:List V}:bb H (d::ds) vs↔∃v r,vs=v::r/\Rep H d v/\bb H ds r:=by rw[bb]
theorem bK {H:Hp} {vs:List V}:bb H [] vs↔vs=[]:=by rw[bb]
theorem aS {H:Hp} {x:Str} {v:V}:Rep H (.str x) v↔v=.str x:=by rw[Rep]
theorem bA {H:Hp} {x:Int} {v:V}:Rep H (.int x) v↔v=.int x:=by rw[Rep]
theorem bO {H:Hp} {a b:Dat} {v:V}:Rep H (.tup [a,b]) v↔∃p x y,v=.ref p/\H p=some (.tup [x,y])/\Rep H a x/\Rep H b y:=by
 rw[eR]
 constructor
 ·rintro⟨p,vs,e,h,r⟩
  obtain⟨x,r1,rfl,hx,r⟩:=aQ.mp r
  obtain⟨y,r2,rfl,hy,r⟩:=aQ.mp r
  rw[bK.mp r] at h
  exact⟨p,x,y,e,h,hx,hy⟩
 ·rintro⟨p,x,y,e,h,hx,hy⟩
  exact⟨p,_,e,h,aQ.mpr ⟨x,_,rfl,hx,aQ.mpr ⟨y,_,rfl,hy,bK.mpr rfl⟩⟩⟩
theorem du {H:Hp} {a b c:Dat} {v:V}:Rep H (.tup [a,b,c]) v↔∃p x y z,v=.ref p/\H p=some (.tup [x,y,z])/\Rep H a x/\Rep H b y/\Rep H c z:=by
 rw[eR]
 constructor
 ·rintro⟨p,vs,e,h,r⟩
  obtain⟨x,r1,rfl,hx,r⟩:=aQ.mp r
  obtain⟨y,r2,rfl,hy,r⟩:=aQ.mp r
  obtain⟨z,r3,rfl,hz,r⟩:=aQ.mp r
  rw[bK.mp r] at h
  exact⟨p,x,y,z,e,h,hx,hy,hz⟩
 ·rintro⟨p,x,y,z,e,h,hx,hy,hz⟩
  exact⟨p,_,e,h,aQ.mpr ⟨x,_,rfl,hx,aQ.mpr ⟨y,_,rfl,hy,aQ.mpr ⟨z,_,rfl,hz,bK.mpr rfl⟩⟩⟩⟩
theorem fg {H:Hp} {a b c d:Dat} {v:V}:Rep H (.tup [a,b,c,d]) v↔∃p x y z u,v=.ref p/\H p=some (.tup [x,y,z,u])/\Rep H a x/\Rep H b y/\Rep H c z/\Rep H d u:=by
 rw[eR]
 constructor
 ·rintro⟨p,vs,e,h,r⟩
  obtain⟨x,r1,rfl,hx,r⟩:=aQ.mp r
  obtain⟨y,r2,rfl,hy,r⟩:=aQ.mp r
  obtain⟨z,r3,rfl,hz,r⟩:=aQ.mp r
  obtain⟨u,r4,rfl,hu,r⟩:=aQ.mp r
  rw[bK.mp r] at h
  exact⟨p,x,y,z,u,e,h,hx,hy,hz,hu⟩
 ·rintro⟨p,x,y,z,u,e,h,hx,hy,hz,hu⟩
  exact⟨p,_,e,h,aQ.mpr ⟨x,_,rfl,hx,aQ.mpr ⟨y,_,rfl,hy,aQ.mpr ⟨z,_,rfl,hz,aQ.mpr ⟨u,_,rfl,hu,bK.mpr rfl⟩⟩⟩⟩⟩
theorem xX {H:Hp} {a b c d f:Dat} {v:V}:Rep H (.tup [a,b,c,d,f]) v↔∃p x y z u t,v=.ref p/\H p=some (.tup [x,y,z,u,t])/\Rep H a x/\Rep H b y/\Rep H c z/\Rep H d u/\Rep H f t:=by
 rw[eR]
 constructor
 ·rintro⟨p,vs,e,h,r⟩
  obtain⟨x,r1,rfl,hx,r⟩:=aQ.mp r
  obtain⟨y,r2,rfl,hy,r⟩:=aQ.mp r
  obtain⟨z,r3,rfl,hz,r⟩:=aQ.mp r
  obtain⟨u,r4,rfl,hu,r⟩:=aQ.mp r
  obtain⟨t,r5,rfl,ht,r⟩:=aQ.mp r
  rw[bK.mp r] at h
  exact⟨p,x,y,z,u,t,e,h,hx,hy,hz,hu,ht⟩
 ·rintro⟨p,x,y,z,u,t,e,h,hx,hy,hz,hu,ht⟩
  exact⟨p,_,e,h,aQ.mpr ⟨x,_,rfl,hx,aQ.mpr ⟨y,_,rfl,hy,aQ.mpr ⟨z,_,rfl,hz,aQ.mpr ⟨u,_,rfl,hu,aQ.mpr ⟨t,_,rfl,ht,bK.mpr rfl⟩⟩⟩⟩⟩⟩
theorem dG {k k':Str} {v:V} {l:List (Str×V)} (h:(k==k')=false):List.lookup k ((k',v)::l)=List.lookup k l:=by rw[aaA,h]
theorem kB {a b c d e:V}:List.lookup (Str.ofString "spots") [(Str.ofString "spots",a),(Str.ofString "mosts",b),(Str.ofString "first",c),(Str.ofString "whats",d),(Str.ofString "tables",e)]=some a:=aaZ
theorem F7 {a b c d e:V}:List.lookup (Str.ofString "mosts") [(Str.ofString "spots",a),(Str.ofString "mosts",b),(Str.ofString "first",c),(Str.ofString "whats",d),(Str.ofString "tables",e)]=some b:=by
 rw[dG (by decide +kernel)];exact aaZ
theorem KA {a b c d e:V}:List.lookup (Str.ofString "first") [(Str.ofString "spots",a),(Str.ofString "mosts",b),(Str.ofString "first",c),(Str.ofString "whats",d),(Str.ofString "tables",e)]=some c:=by
 rw[dG (by decide +kernel),dG (by decide +kernel)];exact aaZ
theorem zA {a b c d e:V}:List.lookup (Str.ofString "whats") [(Str.ofString "spots",a),(Str.ofString "mosts",b),(Str.ofString "first",c),(Str.ofString "whats",d),(Str.ofString "tables",e)]=some d:=by
 rw[dG (by decide +kernel),dG (by decide +kernel),dG (by decide +kernel)];exact aaZ
theorem dN {a b c d e:V} {k:Str} (h1:(k==Str.ofString "spots")=false) (h2:(k==Str.ofString "mosts")=false) (h3:(k==Str.ofString "first")=false) (h4:(k==Str.ofString "whats")=false) (h5:(k==Str.ofString "tables")=false):
  List.lookup k [(Str.ofString "spots",a),(Str.ofString "mosts",b),(Str.ofString "first",c),(Str.ofString "whats",d),(Str.ofString "tables",e)]=none:=by
 rw[dG h1,dG h2,dG h3,dG h4,dG h5];rfl
theorem zB {n i:Nat} (h:i<n):Ea n (i:Int)=some i:=by
 unfold Ea
 rw[if_pos (by omega),if_pos (by omega),aa1]
theorem fJ {ns:List Int} {i:Nat} (h:i<ns.length):oW (List.map V.int ns) (i:Int)=some (.int (ns.getD i 0)):=by
 have:=vG (ns:=ns) (i:=(i:Int)) (by omega) (by omega)
 rwa [aa1] at this
theorem E4 {cs:List (Str×Int)} {i:Nat} (h:i<cs.length):oW (List.map V.int (cs.map (·.2))) (i:Int)=some (.int (most cs i)):=fJ (by rw[aac];exact h)
theorem iz {H:Hp} {sp:Addr} {cs:List (Str×Int)} {n:Str} (h:H sp=some (.dK (qF cs 0))) (hn:n∈cs.map (·.1)):mj H sp (.str n) (some (.int ((dm cs n:Nat):Int))):=
 .inl ⟨_,Sum.inr n,.inl h,rfl,by rw[zy hn,Nat.zero_add]⟩
theorem mK {H:Hp} {p:Addr} {o:HO}:c6 (upd H p o) p=c6 H p:=by
 funext a
 unfold c6
 by_cases c:a=p
 ·rw[if_pos c,if_pos c]
 ·rw[if_neg c,if_neg c,aD c]
theorem zC {c:TT} {tb:TS} {D:Ends} {σ:L2.St} {H:Hp} (Pv:Nat->L2.St->Hp->Prop) {m:Nat} (h0:Pv m σ H)
  (hs:∀m σ H,Pv m σ H->∃b:Bool,(∀Q:Bool->Hp->Prop,Q b H->c σ H Q)/\if b=true then tb {D with nx:=λσ' H'=>∃m',m'<m/\Pv m' σ' H',ct:=λσ' H'=>∃m',m'<m/\Pv m' σ' H',bk:=D.nx} σ H else D.nx σ H):xj c tb D σ H:=by
 refine⟨Pv,⟨m,h0⟩,?_⟩
 intro m σ H p
 obtain⟨b,k,q⟩:=hs m σ H p
 refine k _ ?_
 cases b with
 | true=>exact⟨_,λσ' H' h=>h,q⟩
 | false=>exact q
theorem Cv {H:Hp} {p:Addr} (h:H p=none):c6 H p=H:=by
 funext a
 unfold c6
 by_cases c:a=p
 ·rw[if_pos c,c,h]
 ·rw[if_neg c]
theorem qI {H H':Hp} {p:Addr} (h:c6 H' p=H):aw H H':=by rw[<-h];exact bD
theorem Cw (n:Nat):(List.replicate n [V.int 0]).flatten=List.map V.int (List.replicate n 0):=by
 induction n with
 | zero=>rfl
 | succ n ih=>rw[aa4,List.flatten_cons,ih,aa4];rfl
noncomputable def wg (q:Addr):Sp:=λvs H Q _=>∃c v H0 g nm ns x,vs=[.ref c,v]/\aw H0 H/\tO q H0 c g/\GoodG g/\tP H v nm ns/\ns.length=g.cs.length/\look g.ps nm=some x/\∀p xs H',aw H H'->H p=none->H' p=some (.lst xs)->bb H0 (((dM g.cs ns x).map DI).map tM) xs->Q (.ref p) H'
noncomputable def Cy (q:Addr):Sp:=λvs H Q _=>∃c v g nm ns x,vs=[.ref c,v]/\tO q H c g/\GoodG g/\tP H v nm ns/\ns.length=g.cs.length/\look g.ps nm=some x/\∀p H',aw H H'->H p=none->Rep H' (.lst ((dM g.cs ns x).map λr=>Dat.str r.word)) (.ref p)->Q (.ref p) H'
noncomputable def zD (q:Addr):Sp:=λvs H Q _=>∃c v g nm ns x t b,vs=[.ref c,v]/\tO q H c g/\GoodG g/\tP H v nm ns/\ns.length=g.cs.length/\look g.ps nm=some x/\E3 g.cs ns x=some (t,b)/\∀u H',aw H H'->Rep H' (.tup [.int t,.int b]) u->Q u H'
theorem qJ {H:Hp} {p:Rw->Bool}:∀{rs:List Rw} {xs:List V},bb H ((rs.map DI).map tM) xs->bb H (((rs.filter p).map DI).map tM) ((xs.zip rs).filterMap λx=>if p x.2=true then some x.1 else none)
 | [],xs,h=>by rw[List.zip_nil_right];exact bK.mpr rfl
 | r::rs,xs,h=>by
  obtain⟨v,ys,rfl,h1,h2⟩:=aQ.mp h
  have ih:=qJ (p:=p) h2
  rw[List.zip_cons_cons,aa3]
  by_cases c:p r=true
  ·simp only[c,if_true]
   rw[List.filter_cons_of_pos c,aae,aae]
   exact aQ.mpr ⟨v,_,rfl,h1,ih⟩
  ·simp only[c]
   rw[List.filter_cons_of_neg c]
   exact ih
theorem tR {H:Hp}:∀{rs:List Rw} {xs:List V},bb H ((rs.map DI).map tM) xs->bb H (rs.map λr=>Dat.str r.word) (rs.map λr=>V.str r.word)
 | [],xs,h=>bK.mpr rfl
 | r::rs,xs,h=>by
  obtain⟨v,ys,rfl,h1,h2⟩:=aQ.mp h
  exact aQ.mpr ⟨_,_,rfl,aS.mpr rfl,tR h2⟩
theorem zE {H:Hp} {rs:List Rw} {xs:List V} {i:Nat} {x:V} (h:bb H ((rs.map DI).map tM) xs) (e:xs[i]?=some x):∃r p a b c d,rs[i]?=some r/\x=.ref p/\H p=some (.tup [.str r.word,b,c,d])/\Rep H (DH r.wh) b/\a=r:=by
 obtain⟨dd,ed,rd⟩:=h.get e
 rw[aad,aad] at ed
 obtain⟨r4,e4,rfl⟩:=Option.map_eq_some_iff.mp ed
 obtain⟨r,er,rfl⟩:=Option.map_eq_some_iff.mp e4
 obtain⟨p,x1,x2,x3,x4,rfl,hp,r1,r2,r3,r4⟩:=fg.mp (show Rep H (.tup _) x from rd)
 have r1:x1=.str r.word:=aS.mp r1
 subst r1
 exact⟨r,p,r,x2,x3,x4,er,rfl,hp,r2,rfl⟩
theorem lM {tc:TT} {a b:TS} {D:Ends} {σ:L2.St} {H:Hp} (h:∀Y N:Hp->Prop,Y H->tc σ H λv H'=>if v=true then Y H' else N H') (k:a D σ H):tIfS tc a b D σ H:=qq (λH'=>H'=H) (λ_=>False) (λ_ e=>e▸k) (λ_ f=>f.elim) λY N hY _=>h Y N (hY _ rfl)
theorem gT {tc:TT} {a b:TS} {D:Ends} {σ:L2.St} {H:Hp} (h:∀Y N:Hp->Prop,N H->tc σ H λv H'=>if v=true then Y H' else N H') (k:b D σ H):tIfS tc a b D σ H:=qq (λ_=>False) (λH'=>H'=H) (λ_ f=>f.elim) (λ_ e=>e▸k) λY N _ hN=>h Y N (hN _ rfl)
abbrev cD:=Str×List Int
noncomputable def gU (s:cD):Dat:=.tup [.str s.1,.tup (s.2.map .int)]
theorem tS:∀ns:List Int,mC (ns.map Dat.int)=ns.map PyData.int
 | []=>by simp [mC]
 | n::ns=>by rw[aae,mC,tS ns,cO,aae]
theorem pS (s:cD):cO (gU s)=.tuple [.str s.1,.tuple (s.2.map PyData.int)]:=by
 unfold gU
 rw[cO,mC,mC,mC,cO,cO,tS]
theorem E5 {s t:cD}:cO (gU s)=cO (gU t)↔s=t:=by
 rw[pS,pS]
 constructor
 ·intro h
  injection h with h
  injection h with h1 h
  injection h with h2 _
  injection h1 with h1
  injection h2 with h2
  have:s.2=t.2:=by
   have:∀{a b:List Int},a.map PyData.int=b.map PyData.int->a=b:=by
    intro a
    induction a with
    | nil=>intro b h;cases b with | nil=>rfl | cons _ _=>cases h
    | cons x a ih=>
     intro b h
     cases b with
     | nil=>cases h
     | cons y b=>
      rw[aae,aae] at h
      injection h with h1 h2
      injection h1 with h1
      rw[h1,ih h2]
   exact this h2
  exact Prod.ext h1 this
 ·rintro rfl;rfl
theorem tT:∀ns:List Int,i7 (ns.map PyData.int)=true
 | []=>rfl
 | n::ns=>by rw[aae,i7,tT ns];rfl
theorem tU:∀ns:List Int,PyData.depthAll (ns.map PyData.int)<=1
 | []=>by simp [PyData.depthAll]
 | n::ns=>by
  have:=tU ns
  rw[aae,PyData.depthAll,PyData.depth]
  omega
noncomputable def lN:List cD->Rows->Nat->Prop
 | [],ks,_=>ks=[]
 | s::ss,ks,i=>∃b r,ks=(gU s,b,(i:Int))::r/\lN ss r (i+1)
theorem lN.len:∀{ss:List cD} {ks:Rows} {i:Nat},lN ss ks i->ks.length=ss.length
 | [],_,_,h=>by rw[lN] at h;subst h;rfl
 | _::_,_,_,⟨b,r,e,h⟩=>by rw[e,aaq,h.len,aaq]
theorem lN.snoc {s:cD} {b:Addr}:∀{ss:List cD} {ks:Rows} {i:Nat},lN ss ks i->lN (ss++ [s]) (ks++ [(gU s,b,((i+ss.length:Nat):Int))]) i
 | [],_,i,h=>by rw[lN] at h;subst h;exact⟨b,[],rfl,rfl⟩
 | t::ss,_,i,⟨b',r,e,h⟩=>by
  rw[e]
  refine⟨b',_,rfl,?_⟩
  have:=h.snoc (s:=s) (b:=b)
  rw[show i+1+ss.length=i+ (t::ss).length by rw[aaq];omega] at this
  exact this
theorem lN.look {s:cD}:∀{ss:List cD} {ks:Rows} {i:Nat},lN ss ks i->iD ks (cO (gU s))=if s∈ss then some ((i+ss.idxOf s:Nat):Int) else none
 | [],_,_,h=>by rw[lN] at h;subst h;rfl
 | t::ss,_,i,⟨b,r,e,h⟩=>by
  subst e
  unfold iD
  by_cases c:t=s
  ·subst c
   rw[aa7 (by simp),if_pos aap,List.idxOf_cons_self]
   rfl
  ·rw[aa8 (by simpa [E5] using c)]
   have ih:=h.look (s:=s)
   unfold iD at ih
   rw[ih]
   have e:(t::ss).idxOf s=ss.idxOf s+1:=by rw[List.idxOf_cons,beq_false_of_ne c];rfl
   rw[e,show i+1+ss.idxOf s=i+ (ss.idxOf s+1) by omega]
   by_cases d:s∈ss
   ·rw[if_pos d,if_pos (aaj _ d)]
   ·rw[if_neg d,if_neg (λz=>by rcases List.mem_cons.mp z with z | z;exact c z.symm;exact d z)]
noncomputable def fV (ss:List cD) (s:cD):List cD:=if s∈ss then ss else ss++ [s]
theorem HZ {H:Hp} {s:cD} {b t:Addr} (h:dt (.str s.1)=true) (hb:H b=some (.tup [.str s.1,.ref t])) (ht:H t=some (.tup (s.2.map V.int))):jT H (gU s) b:=by
 refine⟨?_,?_,?_⟩
 ·rw[pS,dt,i7,h,i7,dt,tT]
  rfl
 ·rw[pS]
  have:=tU s.2
  simp only[PyData.depth,PyData.depthAll]
  omega
 ·unfold gU
  exact bO.mpr ⟨b,_,_,rfl,hb,aS.mpr rfl,eR.mpr ⟨t,_,rfl,ht,bb.ints _⟩⟩
noncomputable abbrev bS (H:Hp) (l n:Addr):Hp:=c6 (c6 H l) n
theorem aJ {H:Hp} {l n:Addr}:aw (bS H l n) H:=λa o e=>bD _ _ (bD _ _ e)
noncomputable def Bb (Fr:Addr->Prop) (H:Hp) (v:V) (nm:Str) (ns:List Int):Prop:=∃a l,v=.ref a/\H a=some (.tup [.str nm,.ref l])/\H l=some (.lst (ns.map V.int))/\Fr l
theorem Bb.mono {Fr:Addr->Prop} {H H':Hp} {v:V} {nm:Str} {ns:List Int} (s:aw H H'):Bb Fr H v nm ns->Bb Fr H' v nm ns:=fun⟨a,l,e,h1,h2,h3⟩=>⟨a,l,e,s _ _ h1,s _ _ h2,h3⟩
theorem Bb.st {Fr:Addr->Prop} {H:Hp} {v:V} {nm:Str} {ns:List Int}:Bb Fr H v nm ns->tP H v nm ns:=fun⟨a,l,e,h1,h2,_⟩=>⟨a,l,e,h1,h2⟩
noncomputable def lO (P:Program) (w:World) (q:Addr) (Fr:Addr->Prop) (H:Hp) (f l n:Addr) (ss:List cD):Prop:=∃dx xs ks,bS H l n f=some (.ins q dx [(Str.ofString "states",.ref l),(Str.ofString "numbers",.ref n)])/\l≠n/\H l=some (.lst xs)/\Al (λs v=>Bb Fr (bS H l n) v s.1 s.2) ss xs/\
 H n=some (DD P w n ks)/\vR (bS H l n) ks/\lN ss ks 0/\ss.length<=120
theorem kC {a b:V}:List.lookup (Str.ofString "states") [(Str.ofString "states",a),(Str.ofString "numbers",b)]=some a:=aaZ
theorem Cz {a b:V}:List.lookup (Str.ofString "numbers") [(Str.ofString "states",a),(Str.ofString "numbers",b)]=some b:=by
 rw[dG (by decide +kernel)];exact aaZ
theorem xY {a b:V} {k:Str} (h1:(k==Str.ofString "states")=false) (h2:(k==Str.ofString "numbers")=false):List.lookup k [(Str.ofString "states",a),(Str.ofString "numbers",b)]=none:=by
 rw[dG h1,dG h2];rfl
noncomputable def Ia (P:Program) (w:World) (q:Addr):Sp:=λvs H Q _=>∃f dx,vs=[.ref f]/\H f=some (.ins q dx [])/\∀l n H',H l=none->H n=none->(∀a o,a≠f->H a=some o->bS H' l n a=some o)->(∀Fr,lO P w q Fr H' f l n [])->Q .cZ H'
theorem cf {H:Hp} {l n a:Addr} (h1:a≠l) (h2:a≠n):bS H l n a=H a:=by
 show c6 (c6 H l) n a=_
 rw[bN h2,bN h1]
theorem gW {H:Hp} {l n a:Addr} {o:HO} (e:bS H l n a=some o):a≠l/\a≠n:=by
 have e:(if a=n then none else if a=l then none else H a)=some o:=e
 refine⟨λz=>?_,λz=>?_⟩
 ·by_cases c:a=n
  ·rw[if_pos c] at e;cases e
  ·rw[if_neg c,if_pos z] at e;cases e
 ·rw[if_pos z] at e;cases e
theorem bu {H H':Hp} {l n:Addr} (s:aw H H'):aw (bS H l n) (bS H' l n):=λa o e=>by
 obtain⟨h1,h2⟩:=gW e
 rw[cf h1 h2] at e ⊢
 exact s _ _ e
theorem AR {H:Hp} {l n:Addr} {o:HO}:bS (upd H l o) l n=bS H l n:=by show c6 (c6 (upd H l o) l) n=_;rw[mK]
theorem AS {H:Hp} {l n:Addr} {o:HO} (h:l≠n):bS (upd H n o) l n=bS H l n:=by
 funext a
 show(if a=n then none else if a=l then none else upd H n o a)=if a=n then none else if a=l then none else H a
 by_cases c:a=n
 ·rw[if_pos c,if_pos c]
 ·rw[if_neg c,if_neg c,aD c]
theorem qK (ss:List cD) (s:cD):s∈fV ss s:=by
 unfold fV
 split
 ·assumption
 ·simp
theorem qL (ss:List cD) (s:cD):(fV ss s).idxOf s=ss.idxOf s:=by
 unfold fV
 split
 ·rfl
 ·rename_i h
  rw[List.idxOf_append,if_neg h,List.idxOf_cons_self,List.idxOf_eq_length h]
  omega
theorem lO.mono {P:Program} {w:World} {q:Addr} {Fr:Addr->Prop} {H H':Hp} {f l n:Addr} {ss:List cD} (s:aw H H'):lO P w q Fr H f l n ss->lO P w q Fr H' f l n ss:=fun⟨dx,xs,ks,h1,h2,h3,h4,h5,h6,h7,h8⟩=>
 ⟨dx,xs,ks,bu s _ _ h1,h2,s _ _ h3,h4.imp λ_ _ k=>k.mono (bu s),s _ _ h5,h6.mono (bu s),h7,h8⟩
noncomputable def Kp (H H':Hp):Prop:=∀a,(∀vs,H a=some (.tup vs)->H' a=some (.tup vs))/\∀vs,H a=some (.lst vs)->H' a=some (.lst vs)
theorem Kp.of {H H':Hp} (s:aw H H'):Kp H H':=λa=>⟨λ_=>s _ _,λ_=>s _ _⟩
theorem Kp.upd {H:Hp} {p:Addr} {o:HO} (h1:∀vs,H p≠some (.tup vs)) (h2:∀vs,H p≠some (.lst vs)):Kp H (upd H p o):=λa=>by
 by_cases c:a=p
 ·subst c;exact⟨λvs e=>absurd e (h1 vs),λvs e=>absurd e (h2 vs)⟩
 ·rw[aD c];exact⟨λ_ h=>h,λ_ h=>h⟩
theorem Kp.trans {H H' H2:Hp} (a:Kp H H') (b:Kp H' H2):Kp H H2:=λx=>⟨λ_ h=>(b x).1 _ ((a x).1 _ h),λ_ h=>(b x).2 _ ((a x).2 _ h)⟩
mutual
theorem Kp.rep {H H':Hp} (s:Kp H H'):∀{d:Dat} {v:V},Rep H d v->Rep H' d v
 | .cZ,_,h=>by rw[Rep] at *;exact h
 | .bl _,_,h=>by rw[Rep] at *;exact h
 | .int _,_,h=>by rw[Rep] at *;exact h
 | .str _,_,h=>by rw[Rep] at *;exact h
 | .tup ds,_,h=>by
  rw[Rep] at *
  obtain⟨p,vs,e,hp,r⟩:=h
  exact⟨p,vs,e,(s p).1 _ hp,s.Ib r⟩
 | .lst ds,_,h=>by
  rw[Rep] at *
  obtain⟨p,vs,e,hp,r⟩:=h
  exact⟨p,vs,e,(s p).2 _ hp,s.Ib r⟩
theorem Kp.Ib {H H':Hp} (s:Kp H H'):∀{ds:List Dat} {vs:List V},bb H ds vs->bb H' ds vs
 | [],_,h=>by rw[bb] at *;exact h
 | d::ds,_,h=>by
  rw[bb] at *
  obtain⟨v,r,e,h1,h2⟩:=h
  exact⟨v,r,e,s.rep h1,s.Ib h2⟩
end
theorem Kp.Od {H H':Hp} (s:Kp H H'):∀{ps:List (Str×Wt)} {us:List (Key×V)},qH H ps us->qH H' ps us
 | [],_,h=>h
 | _::_,_,⟨v,r,e,h1,h2⟩=>⟨v,r,e,s.rep h1,s.Od h2⟩
theorem qH.none {H:Hp} {ps:List (Str×Wt)} {us:List (Key×V)} {n:Str} (h:qH H ps us) (nn:n∉ps.map (·.1)):d8 us (Sum.inr n)=none:=by
 rcases h.val (n:=n) with ⟨x,v,a,_,_⟩ | ⟨_,b⟩
 ·rw[AQ nn] at a;cases a
 ·exact b
theorem wj {α:Type} {l:List α} (h:l.Nodup) {i:Nat} {x:α} (e:l[i]?=some x):x∉l.take i:=by
 intro m
 obtain⟨j,hj,ej⟩:=List.getElem_of_mem m
 rw[aaU] at hj
 rw[List.getElem_take] at ej
 obtain⟨hi,ei⟩:=List.getElem?_eq_some_iff.mp e
 have:=(List.getElem_inj h).mp (ej.trans ei.symm)
 omega
noncomputable def aU (ss ts:List cD):List cD:=ts.foldl fV ss
noncomputable def pC (ss SS:List cD):Prop:=∃r,SS=ss++r
theorem pC.refl (ss:List cD):pC ss ss:=⟨[],(aaP _).symm⟩
theorem pC.trans {a b c:List cD}:pC a b->pC b c->pC a c:=fun⟨r,e⟩ ⟨t,f⟩=>⟨r++t,by rw[f,e,List.append_assoc]⟩
theorem CA (ss:List cD) (s:cD):pC ss (fV ss s):=by
 unfold fV
 split
 ·exact pC.refl _
 ·exact⟨_,rfl⟩
theorem eL:∀(ts ss:List cD),pC ss (aU ss ts)
 | [],ss=>pC.refl _
 | t::ts,ss=>(CA ss t).trans (eL ts (fV ss t))
theorem pC.idx {ss SS:List cD} {s:cD} (h:s∈ss):pC ss SS->SS.idxOf s=ss.idxOf s:=fun⟨r,e⟩=>by rw[e,List.idxOf_append,if_pos h]
theorem pC.len {ss SS:List cD}:pC ss SS->ss.length<=SS.length:=fun⟨r,e⟩=>by rw[e,aak];omega
noncomputable def Jl (g:Gm) (ns:List Int) (r:Rw):Option cD:=(gw g (r.ds.foldl (mJ g.cs 0) ns) (g.ps.length+1) r.to).map λnm=>(nm,r.ds.foldl (mJ g.cs 0) ns)
noncomputable def Goes (g:Gm) (st:cD) (ts:List cD):Prop:=match look g.ps st.1 with
 | some (.pick w rs)=>dM g.cs st.2 (.pick w rs)≠[]/\ts.length=(dM g.cs st.2 (.pick w rs)).length/\∀(i:Nat) r,(dM g.cs st.2 (.pick w rs))[i]?=some r->∃t,ts[i]?=some t/\Jl g st.2 r=some t/\dt (.str t.1)=true
 | some (.fin _ _)=>ts=[]
 | some (.score _)=>ts=[]
 | _=>False
noncomputable def E6 (g:Gm) (SS:List cD) (st:cD) (ts:List cD):Dat:=match look g.ps st.1 with
 | some (.pick w _)=>.tup [.str (Str.ofString "pick"),.int w,.lst (ts.map λt=>.int ((SS.idxOf t:Nat):Int))]
 | some x=>.tup [.str (Str.ofString "end"),.tup [.int ((E3 g.cs st.2 x).getD (0,1)).1,.int ((E3 g.cs st.2 x).getD (0,1)).2]]
 | none=>.cZ
theorem CB {J:It} {g:TG} {tc:TT} {te:TE} {σ0:L2.St} {H1:Hp} {fin:List V->Hp->Prop} {n:Nat} {Item:Nat->V->Hp->Hp->Prop} {Ok:Hp->Prop} (S:Src J Ok n Item) (W:Nat->List V->L2.St->Hp->Prop) (p0:W 0 [] σ0 H1) (bP:∀i ys σ H,W i ys σ H->Ok H) (hz:n<=sizeLine)
  (hs:∀i x σ H ys H3 (Q:L2.St->V->Hp->Prop) (N:L2.St->Hp->Prop),i<n->W i ys σ H->Item i x H H3->
   (∀σ3 y H6,W (i+1) (ys++ [y]) σ3 H6->Q σ3 y H6)->(∀σ3 H5,W (i+1) ys σ3 H5->N σ3 H5)->
   g x σ H3 λσ3 H4=>tc σ3 H4 λb H5=>if b=true then te σ3 H5 λy H6=>Q σ3 y H6 else N σ3 H5)
  (qg:∀ys σ H,W n ys σ H->fin ys H):ij J g tc te σ0 H1 fin:=by
 refine⟨λi m ys σ H=>m=n - i/\i<=n/\ys.length<=i/\W i ys σ H,⟨n,by simp,aah _,aaf _,p0⟩,?_⟩
 rintro i m ys σ H ⟨rfl,hi,hl,p⟩
 by_cases ig:i<n
 ·refine .inr ⟨S.go i H ig (bP _ _ _ _ p),λx H3 y=>hs i x σ H ys H3 (λσ3 y H6=>ys.length<sizeLine/\∃m',m'<n - i/\m'=n - (i+1)/\i+1<=n/\(ys++ [y]).length<=i+1/\W (i+1) (ys++ [y]) σ3 H6)
   (λσ3 H5=>∃m',m'<n - i/\m'=n - (i+1)/\i+1<=n/\ys.length<=i+1/\W (i+1) ys σ3 H5) ig p (S.w6 i H x H3 ig (bP _ _ _ _ p) y) (λσ3 y H6 q=>?_) (λσ3 H5 q=>?_)⟩
  ·exact⟨by omega,n - (i+1),by omega,rfl,ig,by rw[aak,aaI];omega,q⟩
  ·exact⟨n - (i+1),by omega,rfl,ig,by omega,q⟩
 ·have e:i=n:=by omega
  subst e
  exact .inl ⟨S.stop H (bP _ _ _ _ p),qg ys σ H p⟩
theorem lO.fr {P:Program} {w:World} {q:Addr} {Fr Ic:Addr->Prop} {H:Hp} {f l n:Addr} {ss:List cD} (k:∀a o,H a=some o->Fr a->Ic a):lO P w q Fr H f l n ss->lO P w q Ic H f l n ss:=fun⟨dx,xs,ks,h1,h2,h3,h4,h5,h6,h7,h8⟩=>
 ⟨dx,xs,ks,h1,h2,h3,h4.imp λ_ _ ⟨a,b,e,a1,a2,a3⟩=>⟨a,b,e,a1,a2,k _ _ (aJ _ _ a2) a3⟩,h5,h6,h7,h8⟩
theorem jT.tup {H H':Hp} {s:cD} {b:Addr} (k:∀a vs,H a=some (.tup vs)->H' a=some (.tup vs)):jT H (gU s) b->jT H' (gU s) b:=fun⟨h1,h2,h3⟩=>by
 refine⟨h1,h2,?_⟩
 unfold gU at h3 ⊢
 obtain⟨p,x,y,e,hp,r1,r2⟩:=bO.mp h3
 obtain⟨t,vs,e2,ht,r3⟩:=eR.mp r2
 refine bO.mpr ⟨p,x,y,e,k _ _ hp,aS.mpr (aS.mp r1),eR.mpr ⟨t,vs,e2,k _ _ ht,?_⟩⟩
 have:vs=s.2.map V.int:=by
  have:∀{ns:List Int} {vs:List V},bb H (ns.map Dat.int) vs->vs=ns.map V.int:=by
   intro ns
   induction ns with
   | nil=>intro vs h;exact bK.mp h
   | cons x ns ih=>
    intro vs h
    obtain⟨v,r,rfl,h1,h2⟩:=aQ.mp h
    rw[bA.mp h1,ih h2]
    rfl
  exact this r3
 rw[this]
 exact bb.ints _
theorem lN.key:∀{ss:List cD} {ks:Rows} {i:Nat},lN ss ks i->∀p∈ks,∃s,p.1=gU s
 | [],_,_,h,p,hp=>by rw[lN] at h;subst h;cases hp
 | s::ss,_,_,⟨b,r,e,h⟩,p,hp=>by
  subst e
  rcases List.mem_cons.mp hp with rfl | hp
  ·exact⟨s,rfl⟩
  ·exact h.key p hp
theorem lO.KC {P:Program} {w:World} {q:Addr} {Fr:Addr->Prop} {H:Hp} {f l n b:Addr} {ss:List cD} {ys MZ:List V} (k:∀a,Fr a->a≠b) (hb:H b=some (.lst ys)) (bl:b≠l):lO P w q Fr H f l n ss->lO P w q Fr (upd H b (.lst MZ)) f l n ss:=fun⟨dx,xs,ks,h1,h2,h3,h4,h5,h6,h7,h8⟩=>by
 have bn:b≠n:=λz=>by rw[z,h5] at hb;cases hb
 have up:∀a o,a≠b->bS H l n a=some o->bS (upd H b (.lst MZ)) l n a=some o:=λa o ab e=>by
  obtain⟨e1,e2⟩:=gW e
  rw[cf e1 e2] at e ⊢
  rw[aD ab]
  exact e
 have tp:∀a vs,bS H l n a=some (.tup vs)->bS (upd H b (.lst MZ)) l n a=some (.tup vs):=λa vs e=>up a _ (λz=>by have:=aJ _ _ e;rw[z,hb] at this;cases this) e
 refine⟨dx,xs,ks,up _ _ (λz=>by have:=aJ _ _ h1;rw[z,hb] at this;cases this) h1,h2,by rw[aD (Ne.symm bl)];exact h3,h4.imp λ_ _ ⟨a,c,e,a1,a2,a3⟩=>⟨a,c,e,tp _ _ a1,up _ _ (k _ a3) a2,a3⟩,by rw[aD (Ne.symm bn)];exact h5,λp hp=>?_,h7,h8⟩
 obtain⟨s,es⟩:=h7.key p hp
 have:=h6 p hp
 rw[es] at this ⊢
 exact jT.tup tp this
noncomputable def gM (g:Gm) (st:cD):Dat:=.lst ((dM g.cs st.2 ((look g.ps st.1).getD (.fin 0 1))).map λr=>Dat.str r.word)
theorem E7 {H:Hp} {p:Pt} {v:V} (h:Rep H (zp p) v):∃q,v=.ref q/\H q=some (.tup (qC p)):=by
 cases p with
 | num n=>obtain⟨q,x,y,e,hq,a,b⟩:=bO.mp (show Rep H (.tup _) v from h);rw[aS.mp a,bA.mp b] at hq;exact⟨q,e,hq⟩
 | gJ n s=>obtain⟨q,x,y,z,e,hq,a,b,c⟩:=du.mp (show Rep H (.tup _) v from h);rw[aS.mp a,bA.mp b,bA.mp c] at hq;exact⟨q,e,hq⟩
 | again n s=>obtain⟨q,x,y,z,e,hq,a,b,c⟩:=du.mp (show Rep H (.tup _) v from h);rw[aS.mp a,bA.mp b,bA.mp c] at hq;exact⟨q,e,hq⟩
noncomputable def DJ (q:Addr) (H:Hp) (c:Addr) (g:Gm) (tb:Addr):Prop:=∃dx sp mo wh us ft,H c=some (.ins q dx [(Str.ofString "spots",.ref sp),(Str.ofString "mosts",.ref mo),(Str.ofString "first",.str ft),(Str.ofString "whats",.ref wh),(Str.ofString "tables",.ref tb)])/\
 H sp=some (.dK (qF g.cs 0))/\H mo=some (.lst ((g.cs.map (·.2)).map V.int))/\H wh=some (.dK us)/\qH H g.ps us/\(g.ps.map (·.1)).head?=some ft
theorem DJ.co {q:Addr} {H:Hp} {c:Addr} {g:Gm} {tb:Addr}:DJ q H c g tb->tO q H c g:=fun⟨dx,sp,mo,wh,us,ft,h1,h2,h3,h4,h5,h6⟩=>⟨dx,sp,mo,wh,tb,us,ft,h1,h2,h3,h4,h5,h6⟩
theorem DJ.mono {q:Addr} {H H':Hp} {c:Addr} {g:Gm} {tb:Addr} (s:aw H H'):DJ q H c g tb->DJ q H' c g tb:=fun⟨dx,sp,mo,wh,us,ft,h1,h2,h3,h4,h5,h6⟩=>⟨dx,sp,mo,wh,us,ft,s _ _ h1,s _ _ h2,s _ _ h3,s _ _ h4,h5.mono s,h6⟩
theorem Kp.c6 {H:Hp} {tb:Addr} {kvs:List (Key×V)} (h:H tb=some (.dK kvs)):Kp H (c6 H tb):=λa=>by
 by_cases c:a=tb
 ·subst c;rw[h];exact⟨(λ_ e=>by cases e),(λ_ e=>by cases e)⟩
 ·rw[bN c];exact⟨λ_ e=>e,λ_ e=>e⟩
noncomputable def CC (q:Addr):Sp:=λvs H Q _=>∃c dx gv g,vs=[.ref c,gv]/\H c=some (.ins q dx [])/\Rep H (E1 g) gv/\GoodG g/\∀tb H',(∀a o,a≠c->H a=some o->H' a=some o)->H tb=none->H' tb=some (.dK [])->DJ q (c6 H' tb) c g tb->Q .cZ H'
noncomputable abbrev cy (H:Hp) (l n tb:Addr):Hp:=c6 (bS H l n) tb
theorem cE {H:Hp} {l n tb:Addr}:aw (cy H l n tb) H:=bD.trans aJ
theorem cK {H:Hp} {l n tb a:Addr} (h1:a≠l) (h2:a≠n) (h3:a≠tb):cy H l n tb a=H a:=by
 show c6 (bS H l n) tb a=_
 rw[bN h3,cf h1 h2]
theorem fW {H:Hp} {l n tb a:Addr} {o:HO} (e:cy H l n tb a=some o):a≠l/\a≠n/\a≠tb:=by
 have h3:a≠tb:=λz=>by
  have e:(if a=tb then none else bS H l n a)=some o:=e
  rw[if_pos z] at e
  cases e
 have e:c6 (bS H l n) tb a=some o:=e
 rw[bN h3] at e
 obtain⟨h1,h2⟩:=gW e
 exact⟨h1,h2,h3⟩
theorem CD {H:Hp} {l n tb:Addr}:aw (cy H l n tb) (c6 H tb):=λa o e=>by
 obtain⟨h1,h2,h3⟩:=fW e
 rw[cK h1 h2 h3] at e
 rw[bN h3]
 exact e
theorem CF {rows:List (Int×Int×Int)} {B C:Int} (h:0<B/\(∀r∈rows,r.2.2∣B)/\∀M,(∀r∈rows,r.2.2∣M)->B∣M) (k:0<C/\(∀r∈rows,r.2.2∣C)/\∀M,(∀r∈rows,r.2.2∣M)->C∣M):B=C:=
 Int.le_antisymm (Int.le_of_dvd k.1 (h.2.2 C k.2.1)) (Int.le_of_dvd h.1 (k.2.2 B h.2.1))
theorem E8 {H H':Hp} {l n tb:Addr} (s:aw (c6 H tb) (c6 H' tb)):aw (cy H l n tb) (cy H' l n tb):=λa o e=>by
 obtain⟨h1,h2,h3⟩:=fW e
 rw[cK h1 h2 h3] at e ⊢
 have:=s a o (by rw[bN h3];exact e)
 rwa [bN h3] at this
theorem lO.tb {P:Program} {w:World} {q:Addr} {Fr:Addr->Prop} {H H':Hp} {f l n tb:Addr} {ss:List cD} {kvs:List (Key×V)} (s:aw (c6 H tb) (c6 H' tb)) (ht:H tb=some (.dK kvs)):lO P w q Fr H f l n ss->lO P w q Fr H' f l n ss:=fun⟨dx,xs,ks,h1,h2,h3,h4,h5,h6,h7,h8⟩=>by
 have up:∀a o,H a=some o->(∀kvs,o≠.dK kvs)->H' a=some o:=λa o e no=>by
  have ne:a≠tb:=λz=>by rw[z,ht] at e;cases e;exact no _ rfl
  have:=s a o (by rw[bN ne];exact e)
  rwa [bN ne] at this
 have Oe:∀a o,bS H l n a=some o->(∀kvs,o≠.dK kvs)->bS H' l n a=some o:=λa o e no=>by
  obtain⟨e1,e2⟩:=gW e
  rw[cf e1 e2] at e ⊢
  exact up a o e no
 have tp:∀a vs,bS H l n a=some (.tup vs)->bS H' l n a=some (.tup vs):=λa vs e=>Oe _ _ e (λ_ z=>by cases z)
 refine⟨dx,xs,ks,Oe _ _ h1 (λ_ z=>by cases z),h2,up _ _ h3 (λ_ z=>by cases z),h4.imp λ_ _ ⟨a,c,e,a1,a2,a3⟩=>⟨a,c,e,tp _ _ a1,Oe _ _ a2 (λ_ z=>by cases z),a3⟩,up _ _ h5 (λ_ z=>by cases z),λp hp=>?_,h7,h8⟩
 obtain⟨s,es⟩:=h7.key p hp
 have:=h6 p hp
 rw[es] at this ⊢
 exact jT.tup tp this
noncomputable def KD (rows:List (Int×Int×Int)) (B:Int):Prop:=0<B/\(∀r∈rows,r.2.2∣B)/\∀M,(∀r∈rows,r.2.2∣M)->B∣M
noncomputable def qM (rs:List Tw) (v:Int):Option Tw:=rs.find? λr=>decide (r.1<=v) && decide (v<=r.2.1)
noncomputable def Jm (g:Gm) (ns:List Int) (r:Tw) (v:Int):Option cD:=(gw g (r.2.2.1.foldl (mJ g.cs v) ns) (g.ps.length+1) r.2.2.2).map λnm=>(nm,r.2.2.1.foldl (mJ g.cs v) ns)
noncomputable def eI (g:Gm) (st:cD) (ts:List (Int×cD)):Prop:=match look g.ps st.1 with
 | some (.pick _ _)=>Goes g st (ts.map (·.2))
 | some (.gA fI _ _ rs)=>∃ps B,fI=ps.map zp/\mI ps/\ps.length<=4/\KD (iy ps) B/\ts.length=(iy ps).length/\∀(i:Nat) x,(Nm.weigh (iy ps) B)[i]?=some x->∃r s,qM rs x.1=some r/\ts[i]?=some (x.2,s)/\Jm g st.2 r x.1=some s/\dt (.str s.1)=true
 | some (.fin _ _)=>ts=[]
 | some (.score _)=>ts=[]
 | _=>False
noncomputable def E9 (SS:List cD) (x:Int×cD):Dat:=.tup [.int x.1,.int ((SS.idxOf x.2:Nat):Int)]
noncomputable def nY (g:Gm) (SS:List cD) (st:cD) (ts:List (Int×cD)):Dat:=match look g.ps st.1 with
 | some (.gA _ t b _)=>.tup [.str (Str.ofString "throw"),.tup [.int t,.int b],.lst (ts.map (E9 SS))]
 | _=>E6 g SS st (ts.map (·.2))
theorem xZ {g:Gm} {st:cD} {ts:List (Int×cD)} (h:eI g st ts):∃x,look g.ps st.1=some x:=by
 unfold eI at h
 cases lk:look g.ps st.1 with
 | none=>rw[lk] at h;exact h.elim
 | some x=>exact⟨x,rfl⟩
noncomputable def AU (H X:Hp) (tb:Addr) (g:Gm) (m:Nat) (Fr:Addr->Prop):Prop:=∃kvs,H tb=some (.dK kvs)/\kvs.length<=m/\∀nm v,d8 kvs (Sum.inr nm)=some v->∃ps t b rs,look g.ps nm=some (.gA (ps.map zp) t b rs)/\(∃p,v=.ref p/\Fr p)/\Rep X (kA (iy ps)) v
theorem AU.mono {H X X':Hp} {tb:Addr} {g:Gm} {m m':Nat} {Fr:Addr->Prop} (s:aw X X') (hm:m<=m'):AU H X tb g m Fr->AU H X' tb g m' Fr:=fun⟨kvs,h1,h2,h3⟩=>⟨kvs,h1,by omega,λnm v e=>by obtain⟨ps,t,b,rs,a1,fp,a2⟩:=h3 nm v e;exact⟨ps,t,b,rs,a1,fp,a2.mono s⟩⟩
theorem AU.heap {H H' X:Hp} {tb:Addr} {g:Gm} {m:Nat} {Fr:Addr->Prop} (e:∀o,H tb=some o->H' tb=some o):AU H X tb g m Fr->AU H' X tb g m Fr:=fun⟨kvs,h1,h2,h3⟩=>⟨kvs,e _ h1,h2,h3⟩
theorem wm {kvs:List (Key×V)} {k:Key} {v:V} (h:d8 kvs k=none) (k':Key):d8 (kvs++ [(k,v)]) k'=if k=k' then some v else d8 kvs k':=by
 unfold d8 at *
 rw[List.find?_append]
 by_cases c:k=k'
 ·subst c
  rw[if_pos rfl]
  have:kvs.find? (λkv=>decide (kv.1=k))=none:=by simpa using h
  rw[this]
  simp
 ·rw[if_neg c]
  have:List.find? (λkv:Key×V=>decide (kv.1=k')) [(k,v)]=none:=by simp [c]
  rw[this]
  simp
theorem zF:∀{ps qs:List Pt},ps.map zp=qs.map zp->ps=qs
 | [],[],_=>rfl
 | [],_::_,h=>by cases h
 | _::_,[],h=>by cases h
 | p::ps,q::qs,h=>by
  rw[aae,aae] at h
  injection h with h1 h2
  rw[EY h1,zF h2]
theorem Fb {H:Hp} {v:V} {ps:List Pt} (h:Rep H (.lst (ps.map zp)) v):∃a,v=.ref a/\HI H a ps:=by
 obtain⟨a,xs,e,ha,r⟩:=bq.mp h
 refine⟨a,e,xs,ha,?_⟩
 have:∀{ps:List Pt} {xs:List V},bb H (ps.map zp) xs->Al (λp v=>∃q,v=.ref q/\H q=some (.tup (qC p))) ps xs:=by
  intro ps
  induction ps with
  | nil=>intro xs h;rw[bK.mp h];trivial
  | cons p ps ih=>
   intro xs h
   obtain⟨v,r,rfl,h1,h2⟩:=aQ.mp h
   exact⟨E7 h1,ih h2⟩
 exact this r
theorem zG {H X:Hp} {rows:List (Int×Int×Int)} {p:Addr} (h:Rep H (kA rows) (.ref p)) (kp:∀o,H p=some o->X p=some o) (kt:∀a vs,H a=some (.tup vs)->X a=some (.tup vs)):Rep X (kA rows) (.ref p):=by
 obtain⟨a,xs,e,ha,r⟩:=bq.mp h
 cases e
 refine bq.mpr ⟨_,xs,rfl,kp _ ha,?_⟩
 refine bb.of r.length λi d v ed ev=>?_
 obtain⟨d',F8,rd⟩:=r.get ev
 rw[ed] at F8
 cases F8
 rw[aad] at ed
 obtain⟨x,_,rfl⟩:=Option.map_eq_some_iff.mp ed
 obtain⟨p1,q1,rfl,h1,h2⟩:=my.mp rd
 exact my.mpr ⟨p1,q1,rfl,kt _ _ h1,kt _ _ h2⟩
theorem CG {H X:Hp} {ws:Nm.Ws} {p:Addr} (h:Rep H (i5 ws) (.ref p)) (kp:∀o,H p=some o->X p=some o) (kt:∀a vs,H a=some (.tup vs)->X a=some (.tup vs)):Rep X (i5 ws) (.ref p):=by
 obtain⟨a,xs,e,ha,r⟩:=bq.mp h
 cases e
 refine bq.mpr ⟨_,xs,rfl,kp _ ha,?_⟩
 refine bb.of r.length λi d v ed ev=>?_
 obtain⟨d',F8,rd⟩:=r.get ev
 rw[ed] at F8
 cases F8
 rw[aad] at ed
 obtain⟨x,_,rfl⟩:=Option.map_eq_some_iff.mp ed
 obtain⟨q1,rfl,h1⟩:=dI.mp rd
 exact dI.mpr ⟨q1,rfl,kt _ _ h1⟩
noncomputable def Ie:Sp:=λvs H Q _=>∃v ps W,vs=[v]/\Rep H (i5 ps) v/\0<W/\W<=1000000/\ps.length<=1296/\(∀p∈ps,0<p.2/\p.2∣W)/\∀B,0<B->(∀M,(∀p∈ps,p.2∣M)->B∣M)->(∀p∈ps,p.2∣B)->Q (.int B) H
noncomputable def CH:Sp:=λvs H Q _=>∃v rows W,vs=[v]/\Rep H (kA rows) v/\GoodR W rows/\∀B H',aw H H'->KD rows B->Q (.int B) H'
noncomputable def Ig:Sp:=λvs H Q _=>∃v rows W B,vs=[v,.int B]/\Rep H (kA rows) v/\GoodR W rows/\KD rows B/\∀p H',aw H H'->H p=none->Rep H' (i5 (Nm.weigh rows B)) (.ref p)->Q (.ref p) H'
theorem CI {a b W:Int} (h1:a∣W) (h2:b∣W):a / Nm.g a b*b∣W:=by
 rw[Nm.tD,<-Int.mul_ediv_assoc _ (Nm.pM a b)]
 have e:a*b / Nm.g a b=a*b / ((Int.gcd a b:Nat):Int):=rfl
 rw[e]
 refine Int.natAbs_dvd_natAbs.mp ?_
 rw[Int.natAbs_ediv_of_dvd (Int.dvd_trans (Int.gcd_dvd_left ..) (Int.dvd_mul_right ..)),Int.natAbs_mul,Int.natAbs_natCast]
 exact Nat.lcm_dvd (Int.natAbs_dvd_natAbs.mpr h1) (Int.natAbs_dvd_natAbs.mpr h2)
theorem Ih {W B:Int} {rows:List (Int×Int×Int)} (g:GoodR W rows) (gb:KD rows B):B<=1000000:=Int.le_trans (Int.le_of_dvd g.1 (gb.2.2 W λr hr=>(g.2.2.2 r hr).2.1)) g.2.1
noncomputable def CJ (q:Addr):Sp:=λvs H Q _=>∃c sv g nm ns tb kvs ps t b rs,vs=[.ref c,sv]/\DJ q (c6 H tb) c g tb/\tP H sv nm ns/\H tb=some (.dK kvs)/\kvs.length<=1000/\look g.ps nm=some (.gA (ps.map zp) t b rs)/\mI ps/\ps.length<=4/\
 (∀v,d8 kvs (Sum.inr nm)=some v->Q v H)/\(d8 kvs (Sum.inr nm)=none->∀p H1,aw H H1->H p=none->Rep H1 (kA (iy ps)) (.ref p)->Q (.ref p) (upd H1 tb (.dK (kvs++ [(Sum.inr nm,.ref p)]))))
noncomputable def Ii (q:Addr):Sp:=λvs H Q _=>∃c sv v g nm ns fI t b rs r f gL,vs=[.ref c,sv,.int v]/\tO q H c g/\GoodG g/\tP H sv nm ns/\ns.length=g.cs.length/\look g.ps nm=some (.gA fI t b rs)/\qM rs v=some r/\gw g (r.2.2.1.foldl (mJ g.cs v) ns) f r.2.2.2=some gL/\
 ∀p l H',aw H H'->H p=none->H l=none->H' p=some (.tup [.str gL,.ref l])->H' l=some (.lst ((r.2.2.1.foldl (mJ g.cs v) ns).map V.int))->Q (.ref p) H'
noncomputable def gu (ts:List (Int×cD)):List cD:=ts.map (·.2)
noncomputable def wq (g:Gm) (SS:List cD) (hX:List (List (Int×cD))):List Dat:=(SS.zip hX).map λx=>nY g SS x.1 x.2
theorem tV {H:Hp} {p:Tw->Bool}:∀{rs:List Tw} {xs:List V},bb H ((rs.map Jk).map tM) xs->bb H (((rs.filter p).map Jk).map tM) ((xs.zip rs).filterMap λx=>if p x.2=true then some x.1 else none)
 | [],xs,h=>by rw[List.zip_nil_right];exact bK.mpr rfl
 | r::rs,xs,h=>by
  obtain⟨v,ys,rfl,h1,h2⟩:=aQ.mp h
  have ih:=tV (p:=p) h2
  rw[List.zip_cons_cons,aa3]
  by_cases c:p r=true
  ·simp only[c,if_true]
   rw[List.filter_cons_of_pos c,aae,aae]
   exact aQ.mpr ⟨v,_,rfl,h1,ih⟩
  ·simp only[c]
   rw[List.filter_cons_of_neg c]
   exact ih
theorem wu {α:Type} [DecidableEq α]:∀{l U:List α},l.Nodup->(∀x∈l,x∈U)->l.length<=U.length
 | [],_,_,_=>aah _
 | a::l,U,nd,h=>by
  obtain⟨na,nd⟩:=List.nodup_cons.mp nd
  have ha:=h a aap
  have:=wu (l:=l) (U:=U.erase a) nd λx hx=>by
   have xa:x≠a:=λz=>na (z▸hx)
   exact(List.mem_erase_of_ne xa).mpr (h x (aaj _ hx))
  rw[List.length_erase_of_mem ha] at this
  have:=List.length_pos_of_mem ha
  rw[aaq]
  omega
theorem x6 {ss:List cD} {s:cD} (h:ss.Nodup):(fV ss s).Nodup:=by
 unfold fV
 split
 ·exact h
 ·rename_i c
  rw[List.nodup_append]
  exact⟨h,List.pairwise_singleton _ _,λa ha b hb=>by rw[List.mem_singleton.mp hb];exact λz=>c (z▸ha)⟩
theorem mL:∀{ts ss:List cD},ss.Nodup->(aU ss ts).Nodup
 | [],_,h=>h
 | _::ts,_,h=>mL (ts:=ts) (x6 h)
theorem AV {ss:List cD} {s x:cD}:x∈fV ss s↔x∈ss\/x=s:=by
 unfold fV
 split
 ·rename_i c
  exact⟨.inl,λh=>h.elim id λz=>z▸c⟩
 ·rw[List.mem_append,List.mem_singleton]
theorem i8:∀{ts ss:List cD} {x:cD},x∈aU ss ts↔x∈ss\/x∈ts
 | [],_,_=>by
  unfold aU
  simp
 | t::ts,ss,x=>by
  show x∈aU (fV ss t) ts↔_
  rw[i8 (ts:=ts),AV,aaD,or_assoc]
noncomputable def qN (g:Gm) (st:cD):Prop:=∃wo rs,look g.ps st.1=some (.pick wo rs)/\dM g.cs st.2 (.pick wo rs)=[]
theorem eI.stuck {g:Gm} {st:cD} {ts:List (Int×cD)} (h:eI g st ts):¬qN g st:=by
 rintro⟨wo,rs,lk,e⟩
 unfold eI at h
 rw[lk] at h
 have h:Goes g st (ts.map (·.2)):=h
 unfold Goes at h
 rw[lk] at h
 exact h.1 e
noncomputable def iF (g:Gm) (o:Nat) (SS:List cD):Nat->List cD->List (List (Int×cD))->Prop
 | i,ss,[]=>pC ss SS/\(o=0->ss=SS/\i=SS.length)/\(o=1->∃st,ss[i]?=some st/\st.2.length=g.cs.length/\qN g st)/\(o=2->∃st ts,ss[i]?=some st/\st.2.length=g.cs.length/\eI g st ts/\120< (aU ss (gu ts)).length)
 | i,ss,ts::r=>∃st,ss[i]?=some st/\st.2.length=g.cs.length/\eI g st ts/\iF g o SS (i+1) (aU ss (gu ts)) r
theorem iF.x8 {g:Gm} {o:Nat} {SS:List cD}:∀{r:List (List (Int×cD))} {i:Nat} {ss:List cD},iF g o SS i ss r->pC ss SS
 | [],_,_,h=>h.1
 | ts::_,_,ss,⟨_,_,_,_,h⟩=>(eL (gu ts) ss).trans h.x8
theorem iF.all {g:Gm} {SS:List cD}:∀{r:List (List (Int×cD))} {i:Nat} {ss:List cD},iF g 0 SS i ss r->i+r.length=SS.length/\∀j,i<=j->j<SS.length->∃st ts,SS[j]?=some st/\st.2.length=g.cs.length/\eI g st ts/\∀t∈gu ts,t∈SS
 | [],i,ss,h=>⟨(h.2.1 rfl).2,λj h1 h2=>by have:=(h.2.1 rfl).2;omega⟩
 | ts::r,i,ss,⟨st,es,ls,go,h⟩=>by
  obtain⟨a,b⟩:=h.all
  refine⟨by rw[aaq];omega,λj h1 h2=>?_⟩
  by_cases c:i=j
  ·subst c
   obtain⟨q,e⟩:=(eL (gu ts) ss).trans h.x8
   obtain⟨q',e'⟩:=h.x8
   exact⟨st,ts,by rw[e,aa2 (List.getElem?_eq_some_iff.mp es).1];exact es,ls,go,λt ht=>by rw[e'];exact List.mem_append_left _ (i8.mpr (.inr ht))⟩
  ·exact b j (by omega) h2
theorem iF.ex {g:Gm} {R:cD->Prop} (cl:∀st,R st->st.2.length=g.cs.length/\(qN g st\/∃ts,eI g st ts/\∀t∈gu ts,R t)):∀(k i:Nat) (ss:List cD),ss.Nodup->(∀s∈ss,R s)->i<=ss.length->ss.length<=120->120<=i+k->∃o SS hX,o<=2/\iF g o SS i ss hX/\SS.length<=120/\SS.Nodup/\(∀s∈SS,R s)/\(o=1->∃st,R st/\qN g st)/\(o=2->∃us:List cD,us.Nodup/\(∀s∈us,R s)/\120<us.length):=by
 intro k
 induction k with
 | zero=>
  intro i ss nd sub hi CK hk
  exact⟨0,ss,[],by decide,⟨pC.refl _,λ_=>⟨rfl,by omega⟩,(λz=>by cases z),(λz=>by cases z)⟩,CK,nd,sub,(λz=>by cases z),(λz=>by cases z)⟩
 | succ k ih=>
  intro i ss nd sub hi CK hk
  by_cases e:i=ss.length
  ·exact⟨0,ss,[],by decide,⟨pC.refl _,λ_=>⟨rfl,e⟩,(λz=>by cases z),(λz=>by cases z)⟩,CK,nd,sub,(λz=>by cases z),(λz=>by cases z)⟩
  ·have ig:i<ss.length:=by omega
   have hm:=sub _ (List.getElem_mem ig)
   have es:=aat ig
   obtain⟨l,sk | ⟨ts,go,to⟩⟩:=cl _ hm
   ·exact⟨1,ss,[],by decide,⟨pC.refl _,(λz=>by cases z),λ_=>⟨_,es,l,sk⟩,(λz=>by cases z)⟩,CK,nd,sub,λ_=>⟨_,hm,sk⟩,(λz=>by cases z)⟩
   ·have Vx:(aU ss (gu ts)).Nodup:=mL nd
    have KE:∀s∈aU ss (gu ts),R s:=λs hs=>(i8.mp hs).elim (sub s) (to s)
    by_cases c:(aU ss (gu ts)).length<=120
    ·have a:=(eL (gu ts) ss).len
     obtain⟨o,SS,hX,ho,h1,h2⟩:=ih (i+1) (aU ss (gu ts)) Vx KE (by omega) c (by omega)
     exact⟨o,SS,ts::hX,ho,⟨ss[i],es,l,go,h1⟩,h2⟩
    ·exact⟨2,ss,[],by decide,⟨pC.refl _,(λz=>by cases z),(λz=>by cases z),λ_=>⟨_,ts,es,l,go,by omega⟩⟩,CK,nd,sub,(λz=>by cases z),λ_=>⟨_,Vx,KE,by omega⟩⟩
noncomputable def lP (P:Program) (w:World) (q qm:Addr):Sp:=λvs H Q E=>∃f sv Fr l n ss s,vs=[.ref f,sv]/\lO P w q Fr H f l n ss/\Bb Fr (bS H l n) sv s.1 s.2/\dt (.str s.1)=true/\s.2.length<=100/\(s∉ss->ss.length=120->∀H',aw H H'->E (.ref qm) none H')/\((s∈ss\/ss.length<120)->∀H',aw (bS H l n) (bS H' l n)->lO P w q Fr H' f l n (fV ss s)->Q (.int ((ss.idxOf s:Nat):Int)) H')
noncomputable def zH (P:Program) (w:World) (qc qf qn qm:Addr):Sp:=λvs H Q E=>∃c f sv Fr l n g ss st wo rs,vs=[.ref c,.ref f,sv]/\tO qc (bS H l n) c g/\GoodG g/\lO P w qf Fr H f l n ss/\(∀a,H a=none->Fr a)/\tP (bS H l n) sv st.1 st.2/\st.2.length=g.cs.length/\look g.ps st.1=some (.pick wo rs)/\
 (dM g.cs st.2 (.pick wo rs)=[]->∀H',aw H H'->E (.ref qn) none H')/\
 (dM g.cs st.2 (.pick wo rs)≠[]->∃ts SS,Goes g st ts/\((aU ss ts).length<=120->pC (aU ss ts) SS)/\(120< (aU ss ts).length->∀H',aw (bS H l n) (bS H' l n)->E (.ref qm) none H')/\
  ((aU ss ts).length<=120->∀p H',aw (bS H l n) (bS H' l n)->lO P w qf Fr H' f l n (aU ss ts)->H p=none->bS H' l n p=some (.lst (ts.map λt=>V.int ((SS.idxOf t:Nat):Int)))->Q (.ref p) H'))
noncomputable def CL (P:Program) (w:World) (qc qf qm:Addr):Sp:=λvs H Q E=>∃c f sv Fr l n tb g ss st ts fI t b rs SS m,vs=[.ref c,.ref f,sv]/\DJ qc (cy H l n tb) c g tb/\GoodG g/\lO P w qf Fr H f l n ss/\AU H (cy H l n tb) tb g m Fr/\m<=200/\(∀a,H a=none->Fr a)/\tP (cy H l n tb) sv st.1 st.2/\st.2.length=g.cs.length/\look g.ps st.1=some (.gA fI t b rs)/\
 eI g st ts/\((aU ss (gu ts)).length<=120->pC (aU ss (gu ts)) SS)/\(120< (aU ss (gu ts)).length->∀H',aw (cy H l n tb) (cy H' l n tb)->E (.ref qm) none H')/\
 ((aU ss (gu ts)).length<=120->∀p H',aw (cy H l n tb) (cy H' l n tb)->lO P w qf Fr H' f l n (aU ss (gu ts))->AU H' (cy H' l n tb) tb g (m+1) Fr->H p=none->Rep (cy H' l n tb) (.lst (ts.map (E9 SS))) (.ref p)->Q (.ref p) H')
noncomputable def zI (P:Program) (w:World) (qc qf qn qm:Addr):Sp:=λvs H Q E=>∃c f sv Fr l n tb g ss st m,vs=[.ref c,.ref f,sv]/\DJ qc (cy H l n tb) c g tb/\GoodG g/\lO P w qf Fr H f l n ss/\AU H (cy H l n tb) tb g m Fr/\m<=200/\(∀a,H a=none->Fr a)/\tP (cy H l n tb) sv st.1 st.2/\st.2.length=g.cs.length/\
 (qN g st->∀H',aw H H'->E (.ref qn) none H')/\
 (¬qN g st->∃ts SS,eI g st ts/\((aU ss (gu ts)).length<=120->pC (aU ss (gu ts)) SS)/\(120< (aU ss (gu ts)).length->∀H',aw (cy H l n tb) (cy H' l n tb)->E (.ref qm) none H')/\
  ((aU ss (gu ts)).length<=120->∀u H',aw (cy H l n tb) (cy H' l n tb)->lO P w qf Fr H' f l n (aU ss (gu ts))->AU H' (cy H' l n tb) tb g (m+1) Fr->(∀b ys,H b=some (.lst ys)->Rep (c6 (cy H' l n tb) b) (nY g SS st ts) u/\∃q vs,u=.ref q/\c6 (cy H' l n tb) b q=some (.tup vs)/\∀x y w,vs=[x,y,.ref w]->H w=none)->Q u H'))
noncomputable def Jn (H0 X:Hp) (b l:Addr) (v:V):Prop:=∃q vs,v=.ref q/\X q=some (.tup vs)/\∀x y w,vs=[x,y,.ref w]->H0 w=none/\w≠b/\w≠l
theorem Jn.mono {H0 X X':Hp} {b l:Addr} {v:V} (s:aw X X'):Jn H0 X b l v->Jn H0 X' b l v:=fun⟨q,vs,e,h,k⟩=>⟨q,vs,e,s _ _ h,k⟩
noncomputable def qO (qn qm:Addr):Sp:=λvs H Q E=>∃gv g ft nm F o SS hX,vs=[gv]/\Rep H (E1 g) gv/\GoodG g/\(g.ps.map (·.1)).head?=some ft/\gw g (List.replicate g.cs.length 0) F ft=some nm/\dt (.str nm)=true/\o<=2/\iF g o SS 0 [(nm,List.replicate g.cs.length 0)] hX/\SS.length<=120/\
 (o=1->∀H',aw H H'->E (.ref qn) none H')/\(o=2->∀H',aw H H'->E (.ref qm) none H')/\
 (o=0->∀p b l wl bs xs ws H',aw H H'->H b=none->H' p=some (.tup [.ref b,.ref l,.ref wl])->H' b=some (.lst bs)->bb H' (wq g SS hX) bs->(∀v∈bs,Jn H H' b l v)->H' l=some (.lst xs)->Al (λs v=>Bb (λa=>H a=none/\a≠b/\a≠l) H' v s.1 s.2) SS xs->H' wl=some (.lst ws)->bb H' (SS.map (gM g)) ws->Q (.ref p) H')
noncomputable def nat (nms:List Str) (i:Nat):Str:=nms.getD i default
theorem qP {nms:List Str} {i:Nat} (h:i<nms.length):nms[i]?=some (nat nms i):=by
 unfold nat
 rw[aaS,aat h]
 rfl
theorem jM {nms:List Str} {i:Nat} (h:i<nms.length):nat nms i∈nms:=aam (qP h)
noncomputable def CM (cs:List (Str×Int)):Dd->Prop
 | .set n k=>n∈cs.map (·.1)/\0<=k
 | .plus n k=>n∈cs.map (·.1)/\0<=k
 | .face n=>n∈cs.map (·.1)
 | .move _ _=>False
noncomputable def CN (cs:List (Str×Int)) (ds:List Dd):Prop:=ds.length<=2/\∀d∈ds,CM cs d
theorem CM.good {cs:List (Str×Int)}:∀{d:Dd},CM cs d->tN cs d
 | .set _ _,h=>h.1
 | .plus _ _,h=>h.1
 | .face _,h=>h
 | .move _ _,h=>h.elim
noncomputable def Jo (nms:List Str) (wh:Option (Str×Str×Int)):Prop:=∀n x k,wh=some (n,x,k)->n∈nms/\dt (.str x)=true
noncomputable def AW (nms:List Str) (m:Nat) (to:Str):Prop:=∃j:Nat,j<=m+1/\to=nat nms j
noncomputable def Ij (cs:List (Str×Int)) (nms:List Str) (m i:Nat):Wt->Prop
 | .ask c _ a b=>c∈cs.map (·.1)/\(∃j:Nat,i<j/\j<=m+1/\a=nat nms j)/\∃j:Nat,i<j/\j<=m+1/\b=nat nms j
 | .fin _ _=>True
 | .score c=>c∈cs.map (·.1)
 | .pick _ rs=>(∃r t,rs=r::t/\r.wh=none)/\rs.length<=3/\∀r∈rs,CN cs r.ds/\AW nms m r.to/\r.word∈nms/\Jo nms r.wh
 | .gA fI _ _ rs=>∃ps d1 t1 d2 t2,fI=List.map zp ps/\ps∈AO/\rs=[(0,1,d1,t1),(2,9,d2,t2)]/\CN cs d1/\CN cs d2/\AW nms m t1/\AW nms m t2
structure i9 (g:Gm) (nms:List Str) (m:Nat):Prop where
 ln:nms.length=14
 nd:nms.Nodup
 hs:∀n∈nms,dt (.str n)=true
 m4:m<=4
 c3:g.cs.length<=3
 cn:∀(i:Nat) c,g.cs[i]?=some c->c.1=nat nms (6+i)/\0<=c.2/\c.2<=4 - (g.cs.length:Int)
 lp:g.ps.length=m+2
 pn:∀(i:Nat) x,g.ps[i]?=some x->x.1=nat nms i/\Ij g.cs nms m i x.2
theorem zJ:∀{ps:List (Str×Wt)} {i:Nat} {x:Str×Wt},(ps.map (·.1)).Nodup->ps[i]?=some x->look ps x.1=some x.2
 | [],_,_,_,e=>by simp at e
 | p::ps,i,x,nd,e=>by
  rw[aae,List.nodup_cons] at nd
  unfold look
  cases i with
  | zero=>
   have e:p=x:=by simpa using e
   subst e
   rw[aa7 (by simp)]
   rfl
  | succ i=>
   have e:ps[i]?=some x:=by simpa using e
   rw[aa8 (by
    intro z
    have z:p.1=x.1:=by simpa using z
    exact nd.1 (by rw[z];exact List.mem_map.mpr ⟨x,aam e,rfl⟩))]
   exact zJ nd.2 e
theorem CO {ps:List Pt} (g:mI ps):KD (iy ps) (Ct ps):=by
 have h:∀ps∈AO,∃r∈iy ps,r.2.2=Ct ps:=by decide +kernel
 obtain⟨a,b,c,d⟩:=tL g
 obtain⟨r,hr,e⟩:=h ps g
 exact⟨a,λr hr=>(d r hr).2.1,λM hM=>by rw[<-e];exact hM r hr⟩
theorem wx {ps:List Pt} (g:mI ps):ps.length<=4/\∀x∈Nm.weigh (iy ps) (Ct ps),0<=x.1/\x.1<=9:=by
 have h:∀ps∈AO,ps.length<=4/\∀x∈Nm.weigh (iy ps) (Ct ps),0<=x.1/\x.1<=9:=by decide +kernel
 exact h ps g
theorem Fc {v:Int} {d1 d2:List Dd} {t1 t2:Str} (h0:0<=v) (h9:v<=9):qM [(0,1,d1,t1),(2,9,d2,t2)] v=some (0,1,d1,t1)\/qM [(0,1,d1,t1),(2,9,d2,t2)] v=some (2,9,d2,t2):=by
 unfold qM
 by_cases c:v<=1
 ·exact .inl (aa7 (by simp;omega))
 ·refine .inr ?_
  rw[aa8 (by simp;omega)]
  exact aa7 (by simp;omega)
noncomputable def DK (cs:List (Str×Int)) (ns:List Int):Prop:=ns.length=cs.length/\∀(i:Nat) c,cs[i]?=some c->0<=ns.getD i 0/\ns.getD i 0<=c.2
theorem Ik {cs:List (Str×Int)} {i:Nat} {c:Str×Int} (e:cs[i]?=some c):most cs i=c.2:=by
 unfold most
 rw[aaS,aad,e]
 rfl
theorem CP {l:List Int} {i j:Nat} {v:Int} (h:i<l.length):(l.set i v).getD j 0=if j=i then v else l.getD j 0:=by
 rw[aaS,List.getElem?_set,aaS]
 by_cases c:i=j
 ·subst c
  rw[if_pos rfl,if_pos h,if_pos rfl]
  rfl
 ·rw[if_neg c,if_neg (Ne.symm c)]
theorem x9 {cs:List (Str×Int)} {ns:List Int} {j:Nat} {k:Int} (h0:∀(i:Nat) c,cs[i]?=some c->0<=c.2) (h:DK cs ns) (hj:j<cs.length) (k0:0<=k):DK cs (uP cs ns j k):=by
 refine⟨gR.trans h.1,λi c ec=>?_⟩
 unfold uP
 rw[CP (by rw[h.1];exact hj)]
 by_cases e:i=j
 ·subst e
  rw[if_pos rfl,Ik ec]
  have:=h0 i c ec
  omega
 ·rw[if_neg e]
  exact h.2 i c ec
theorem CQ {cs:List (Str×Int)} {ns:List Int} {j:Nat} (h:DK cs ns) (hj:j<cs.length):0<=ns.getD j 0:=(h.2 j _ (aat hj)).1
theorem KG {cs:List (Str×Int)} {v:Int} (h0:∀(i:Nat) c,cs[i]?=some c->0<=c.2) (v0:0<=v):∀{d:Dd} {ns:List Int},CM cs d->DK cs ns->DK cs (mJ cs v ns d)
 | .set n k,_,d,h=>x9 h0 h (dB d.1) d.2
 | .plus n k,ns,d,h=>x9 h0 h (dB d.1) (by have:=CQ h (dB d.1);have:=d.2;omega)
 | .face n,ns,d,h=>x9 h0 h (dB d) (by have:=CQ h (dB d);omega)
 | .move _ _,_,d,_=>d.elim
theorem uQ {cs:List (Str×Int)} {v:Int} (h0:∀(i:Nat) c,cs[i]?=some c->0<=c.2) (v0:0<=v):∀{ds:List Dd} {ns:List Int},(∀d∈ds,CM cs d)->DK cs ns->DK cs (ds.foldl (mJ cs v) ns)
 | [],_,_,h=>h
 | d::ds,ns,k,h=>uQ h0 v0 (ds:=ds) (λx hx=>k x (aaj _ hx)) (KG h0 v0 (k d aap) h)
noncomputable def Fd (c:Nat):Nat->List (List Int)
 | 0=>[[]]
 | n+1=>(List.range (c+1)).flatMap λx:Nat=>(Fd c n).map λl=>(x:Int)::l
theorem wy {c:Nat}:∀{n:Nat} {l:List Int},l.length=n->(∀x∈l,0<=x/\x<=(c:Int))->l∈Fd c n
 | 0,l,e,_=>by rw[List.length_eq_zero_iff.mp e];exact List.mem_singleton.mpr rfl
 | n+1,[],e,_=>by simp at e
 | n+1,x::l,e,h=>by
  have hx:=h x aap
  refine List.mem_flatMap.mpr ⟨x.toNat,List.mem_range.mpr (by omega),List.mem_map.mpr ⟨l,wy (by simpa using e) (λy hy=>h y (aaj _ hy)),?_⟩⟩
  rw[Int.toNat_of_nonneg hx.1]
section XZ
variable {g : Gm} {nms : List Str} {m : Nat}
theorem i9.c0 (G:i9 g nms m):∀(i:Nat) c,g.cs[i]?=some c->0<=c.2:=λi c e=>(G.cn i c e).2.1
theorem i9.Vy (G:i9 g nms m):g.cs.map (·.1)=(nms.drop 6).take g.cs.length:=by
 have c3:=G.c3
 apply List.ext_getElem?
 intro i
 rw[aad]
 cases e:g.cs[i]? with
 | none=>
  have:=List.getElem?_eq_none_iff.mp e
  rw[List.getElem?_eq_none (by rw[aaU];omega)]
  rfl
 | some c=>
  have hi:=(List.getElem?_eq_some_iff.mp e).1
  rw[List.getElem?_take,if_pos hi,List.getElem?_drop,qP (by rw[G.ln];omega),<-(G.cn i c e).1]
  rfl
theorem i9.Vz (G:i9 g nms m):g.ps.map (·.1)=nms.take (m+2):=by
 have m4:=G.m4
 apply List.ext_getElem?
 intro i
 rw[aad]
 cases e:g.ps[i]? with
 | none=>
  have:=List.getElem?_eq_none_iff.mp e
  rw[G.lp] at this
  rw[List.getElem?_eq_none (by rw[aaU];omega)]
  rfl
 | some c=>
  have hi:=(List.getElem?_eq_some_iff.mp e).1
  rw[G.lp] at hi
  rw[List.getElem?_take,if_pos hi,qP (by rw[G.ln];omega),<-(G.pn i c e).1]
  rfl
theorem i9.AX (G:i9 g nms m) {n:Str} (h:n∈g.cs.map (·.1)):n∈nms:=by
 rw[G.Vy] at h
 exact List.mem_of_mem_drop (List.mem_of_mem_take h)
theorem i9.gg (G:i9 g nms m):GoodG g where
 nc:=by
  rw[G.Vy]
  exact(G.nd.sublist (List.drop_sublist _ _)).sublist (List.take_sublist _ _)
 np:=by
  rw[G.Vz]
  exact G.nd.sublist (List.take_sublist _ _)
 lc:=by have:=G.c3;omega
 lp:=by have:=G.lp;have:=G.m4;omega
 p0:=by have:=G.lp;omega
 wt:=λp hp=>by
  obtain⟨i,hi⟩:=List.mem_iff_getElem?.mp hp
  have k:=(G.pn i p hi).2
  cases e:p.2 with
  | ask c x a b=>rw[e] at k;exact k.1
  | fin t b=>exact trivial
  | score c=>rw[e] at k;exact k
  | pick rO rs=>
   rw[e] at k
   obtain⟨_,l,h⟩:=k
   exact⟨by omega,λr hr=>⟨by have:=(h r hr).1.1;omega,λd hd=>((h r hr).1.2 d hd).good⟩⟩
  | gA fI t b rs=>
   rw[e] at k
   obtain⟨ps,d1,t1,d2,t2,rfl,hp,rfl,k1,k2,_⟩:=k
   have:=(wx (show mI ps from hp)).1
   refine⟨by rw[aac];omega,by simp,λr hr=>?_⟩
   rcases List.mem_cons.mp hr with rfl | hr
   ·exact⟨by have:=k1.1;show d1.length<=100;omega,λd hd=>(k1.2 d hd).good⟩
   ·rw[List.mem_singleton.mp hr]
    exact⟨by have:=k2.1;show d2.length<=100;omega,λd hd=>(k2.2 d hd).good⟩
theorem i9.look (G:i9 g nms m) {i:Nat} {x:Str×Wt} (e:g.ps[i]?=some x):K64.look g.ps x.1=some x.2:=zJ G.gg.np e
noncomputable def F9 (x:Wt):Prop:=∀c k a b,x≠.ask c k a b
theorem i9.ask (G:i9 g nms m) (ns:List Int):∀(f i:Nat),m+2 - i<=f->i<=m+1->∃(j:Nat) (x:Str×Wt),j<=m+1/\g.ps[j]?=some x/\F9 x.2/\gw g ns f (nat nms i)=some x.1
 | 0,i,h,k=>by omega
 | f+1,i,h,k=>by
  have hi:i<g.ps.length:=by rw[G.lp];omega
  have ex:=aat hi
  obtain⟨e1,p⟩:=G.pn i _ ex
  have lk:=G.look ex
  rw[e1] at lk
  unfold gw
  rw[lk]
  cases e:(g.ps[i]).2 with
  | ask c x a b=>
   rw[e] at p
   obtain⟨_,⟨ja,ia,la,rfl⟩,⟨jb,ib,lb,rfl⟩⟩:=p
   simp only[]
   split
   ·exact i9.ask G ns f ja (by omega) la
   ·exact i9.ask G ns f jb (by omega) lb
  | fin t b=>exact⟨i,_,k,ex,(λ_ _ _ _ z=>by rw[e] at z;cases z),by rw[e1]⟩
  | score c=>exact⟨i,_,k,ex,(λ_ _ _ _ z=>by rw[e] at z;cases z),by rw[e1]⟩
  | pick rO rs=>exact⟨i,_,k,ex,(λ_ _ _ _ z=>by rw[e] at z;cases z),by rw[e1]⟩
  | gA fI t b rs=>exact⟨i,_,k,ex,(λ_ _ _ _ z=>by rw[e] at z;cases z),by rw[e1]⟩
noncomputable def CS (g:Gm) (st:cD):Prop:=(∃(j:Nat) (x:Str×Wt),g.ps[j]?=some x/\F9 x.2/\st.1=x.1)/\DK g.cs st.2
theorem i9.Of (G:i9 g nms m) {i:Nat} {x:Str×Wt} (e:g.ps[i]?=some x):dt (.str x.1)=true:=by
 have hi:=(List.getElem?_eq_some_iff.mp e).1
 have:=G.m4
 rw[G.lp] at hi
 rw[(G.pn i x e).1]
 exact G.hs _ (jM (by rw[G.ln];omega))
theorem i9.at (G:i9 g nms m) {ns:List Int} {to:Str} (t:AW nms m to) (h:DK g.cs ns):∃s:cD,((gw g ns (g.ps.length+1) to).map λnm=>(nm,ns))=some s/\dt (.str s.1)=true/\CS g s:=by
 obtain⟨j,lj,rfl⟩:=t
 obtain⟨k,x,lk,ex,na,e⟩:=G.ask ns (g.ps.length+1) j (by rw[G.lp];omega) lj
 exact⟨(x.1,ns),by rw[e];rfl,G.Of ex,⟨k,x,ex,na,rfl⟩,h⟩
theorem i9.cl (G:i9 g nms m) (st:cD) (h:CS g st):st.2.length=g.cs.length/\∃ts,eI g st ts/\∀t∈gu ts,CS g t:=by
 obtain⟨⟨i,x,ex,na,e1⟩,inr⟩:=h
 refine⟨inr.1,?_⟩
 have lk:=G.look ex
 rw[<-e1] at lk
 have p:=(G.pn i x ex).2
 cases e:x.2 with
 | ask c k a b=>exact absurd e (na c k a b)
 | fin t b=>exact⟨[],by unfold eI;rw[lk,e],λt ht=>by cases ht⟩
 | score c=>exact⟨[],by unfold eI;rw[lk,e],λt ht=>by cases ht⟩
 | pick rO rs=>
  rw[e] at p lk
  obtain⟨⟨r0,t0,er,w0⟩,_,hr⟩:=p
  have ne:dM g.cs st.2 (.pick rO rs)≠[]:=by
   rw[er]
   show List.filter (λr=>gK g.cs st.2 r.wh) (r0::t0)≠[]
   rw[List.filter_cons_of_pos (by rw[w0];rfl)]
   exact List.cons_ne_nil _ _
  have go:∀r∈dM g.cs st.2 (.pick rO rs),∃s,Jl g st.2 r=some s/\dt (.str s.1)=true/\CS g s:=λr h=>by
   have h:=(List.mem_filter.mp (show r∈List.filter (λr=>gK g.cs st.2 r.wh) rs from h)).1
   exact G.at (hr r h).2.1 (uQ G.c0 (by decide) (hr r h).1.2 inr)
  refine⟨(dM g.cs st.2 (.pick rO rs)).map λr=>((0:Int),(Jl g st.2 r).getD st),?_,λt ht=>?_⟩
  ·unfold eI
   rw[lk]
   show Goes g st _
   unfold Goes
   rw[lk]
   refine⟨ne,by rw[aac,aac],λj r ej=>?_⟩
   obtain⟨s,es,hs,_⟩:=go r (aam ej)
   exact⟨s,by rw[aad,aad,ej];show some ((Jl g st.2 r).getD st)=_;rw[es];rfl,es,hs⟩
  ·unfold gu at ht
   rw[aaJ] at ht
   obtain⟨r,h,rfl⟩:=List.mem_map.mp ht
   obtain⟨s,es,_,k⟩:=go r h
   show CS g ((Jl g st.2 r).getD st)
   rw[es]
   exact k
 | gA fI t b rs=>
  rw[e] at p lk
  obtain⟨ps,d1,t1,d2,t2,rfl,hp,rfl,k1,k2,o1,o2⟩:=p
  have gl:mI ps:=hp
  have go:∀v:Int,0<=v->v<=9->∃r s,qM [(0,1,d1,t1),(2,9,d2,t2)] v=some r/\Jm g st.2 r v=some s/\dt (.str s.1)=true/\CS g s:=λv v0 v9=>by
   rcases Fc (d1:=d1) (d2:=d2) (t1:=t1) (t2:=t2) v0 v9 with h | h
   ·obtain⟨s,a⟩:=G.at o1 (uQ G.c0 v0 k1.2 inr)
    exact⟨_,s,h,a⟩
   ·obtain⟨s,a⟩:=G.at o2 (uQ G.c0 v0 k2.2 inr)
    exact⟨_,s,h,a⟩
  obtain⟨l4,pv⟩:=wx gl
  refine⟨(Nm.weigh (iy ps) (Ct ps)).map λx=>(x.2,((qM [(0,1,d1,t1),(2,9,d2,t2)] x.1).bind λr=>Jm g st.2 r x.1).getD st),?_,λt ht=>?_⟩
  ·unfold eI
   rw[lk]
   refine⟨ps,Ct ps,rfl,gl,l4,CO gl,by rw[aac];unfold Nm.weigh;rw[aac],λj x ej=>?_⟩
   obtain⟨v0,v9⟩:=pv x (aam ej)
   obtain⟨r,s,a,b,c,_⟩:=go x.1 v0 v9
   exact⟨r,s,a,by rw[aad,ej];show some (x.2,Option.getD (Option.bind _ _) st)=_;rw[a];show some (x.2,(Jm g st.2 r x.1).getD st)=_;rw[b];rfl,b,c⟩
  ·unfold gu at ht
   rw[aaJ] at ht
   obtain⟨x,h,rfl⟩:=List.mem_map.mp ht
   obtain⟨v0,v9⟩:=pv x h
   obtain⟨r,s,a,b,_,k⟩:=go x.1 v0 v9
   show CS g (Option.getD (Option.bind _ _) st)
   rw[a]
   show CS g ((Jm g st.2 r x.1).getD st)
   rw[b]
   exact k
noncomputable def univ (nms:List Str) (m c:Nat):List cD:=(List.range (m+2)).flatMap λj=>(Fd (4 - c) c).map λl=>(nat nms j,l)
theorem CT:∀m∈[0,1,2,3,4],∀c∈[0,1,2,3],((List.range (m+2)).flatMap λj:Nat=>(Fd (4 - c) c).map λl=>(j,l)).length<=120:=by decide +kernel
theorem i9.Jc (G:i9 g nms m) {l:List cD} (nd:l.Nodup) (h:∀s∈l,CS g s):l.length<=120:=by
 have m4:=G.m4
 have c3:=G.c3
 have b:(univ nms m g.cs.length).length<=120:=by
  have:=CT m (by simp only[aaD,aaV,or_false];omega) g.cs.length (by simp only[aaD,aaV,or_false];omega)
  unfold univ
  rw[List.length_flatMap] at this ⊢
  simp only[aac] at this ⊢
  exact this
 refine aal (wu nd λs hs=>?_) b
 obtain⟨⟨i,x,ex,na,e1⟩,l1,k⟩:=h s hs
 have hi:=(List.getElem?_eq_some_iff.mp ex).1
 rw[G.lp] at hi
 refine List.mem_flatMap.mpr ⟨i,List.mem_range.mpr hi,List.mem_map.mpr ⟨s.2,wy l1 (λy hy=>?_),?_⟩⟩
 ·obtain⟨j,ej⟩:=List.mem_iff_getElem?.mp hy
  have hj:=(List.getElem?_eq_some_iff.mp ej).1
  rw[l1] at hj
  have ec:=aat hj
  have a:=k j _ ec
  have c:=(G.cn j _ ec).2.2
  rw[aaS,ej] at a
  have a:0<=y/\y<=(g.cs[j]).2:=a
  omega
 ·rw[<-(G.pn i x ex).1,<-e1]
theorem Fe {cs:List (Str×Int)} (h0:∀(i:Nat) c,cs[i]?=some c->0<=c.2):DK cs (List.replicate cs.length 0):=by
 refine⟨List.length_replicate,λi c e=>?_⟩
 have hi:=(List.getElem?_eq_some_iff.mp e).1
 rw[aaS,List.getElem?_replicate,if_pos hi]
 exact⟨Int.le_refl _,h0 i c e⟩
theorem i9.out (G:i9 g nms m):∃ft nm F SS hX,(g.ps.map (·.1)).head?=some ft/\gw g (List.replicate g.cs.length 0) F ft=some nm/\dt (.str nm)=true/\iF g 0 SS 0 [(nm,List.replicate g.cs.length 0)] hX/\SS.length<=120/\∀s∈SS,CS g s:=by
 obtain⟨j,x,lj,ex,na,e⟩:=G.ask (List.replicate g.cs.length 0) (m+2) 0 (aaf _) (aah _)
 obtain⟨o,SS,hX,o2,sp,l,nd,sub,h1,h2⟩:=iF.ex (g:=g) (R:=CS g) (λst h=>⟨(G.cl st h).1,.inr (G.cl st h).2⟩) 120 0 [(x.1,List.replicate g.cs.length 0)] (by simp) (λs hs=>by rw[List.mem_singleton.mp hs];exact⟨⟨j,x,ex,na,rfl⟩,Fe G.c0⟩) (aah _) (by simp) (by omega)
 have o0:o=0:=by
  rcases Nat.lt_or_ge 0 o with h | h
  ·rcases Nat.lt_or_ge 1 o with k | k
   ·obtain⟨us,nu,su,lu⟩:=h2 (by omega)
    have:=G.Jc nu su
    omega
   ·obtain⟨st,r,sk⟩:=h1 (by omega)
    obtain⟨ts,go,_⟩:=(G.cl st r).2
    exact absurd sk go.stuck
  ·omega
 subst o0
 refine⟨nat nms 0,x.1,m+2,SS,hX,?_,e,G.Of ex,sp,l,sub⟩
 rw[G.Vz]
 have m4:=G.m4
 rw[List.head?_take,if_neg (by omega),List.head?_eq_getElem?,qP (by rw[G.ln];omega)]
end XZ
noncomputable def aN (ns:List Int) (k:Int):Int:=if k< (ns.length:Int) then ns.getD k.toNat 0 else if (ns.length:Int)=0 then k*k*101+53 else ns.getD (k*3 % (ns.length:Int)).toNat 0 % 2147483629*48271+k*k*7703
noncomputable def eU (nms:List Str) (i:Int):Str:=nat nms i.toNat
noncomputable def Il (c j k a:Int):Nat:=97+ ((c / (64+j)+ (if j=a then k else 0)) % 26).toNat
noncomputable def fX (c:Int) (size:Nat) (a k:Int):Str:=⟨((List.range size).map λj:Nat=>Il c (j:Int) k a).toArray⟩
noncomputable def iG (c:Int):Nat:=(1+c % 8).toNat
noncomputable def zK (c:Int):Int:=c / 8 % (iG c:Int)
noncomputable def namesOf (c:Int):List Str:=(List.range 14).map λk:Nat=>fX c (iG c) (zK c) (k:Int)
noncomputable def bY (ns:List Int):List Str:=namesOf (aN ns 0)
theorem CU (c:Int):1<=iG c/\iG c<=8:=by unfold iG;omega
theorem gX (c:Int):(namesOf c).length=14:=by unfold namesOf;rw[aac,aaE]
theorem CV (c:Int):(namesOf c).Nodup:=by
 have sb:=CU c
 have a0:0<=zK c:=aav _ (by omega)
 have a1:zK c< (iG c:Int):=aaw _ (by omega)
 unfold namesOf List.Nodup
 rw[List.pairwise_map]
 refine List.Pairwise.imp_of_mem ?_ (List.nodup_range (n:=14))
 intro i j hi hj ne e
 have hi:=List.mem_range.mp hi
 have hj:=List.mem_range.mp hj
 unfold fX at e
 have e:=congrArg (λs:Str=>s.cps.toList[(zK c).toNat]?) e
 simp only[aad] at e
 rw[List.getElem?_range (by omega)] at e
 have e:Il c (((zK c).toNat:Nat):Int) (i:Int) (zK c)=Il c (((zK c).toNat:Nat):Int) (j:Int) (zK c):=aay e
 have ea:(((zK c).toNat:Nat):Int)=zK c:=Int.toNat_of_nonneg a0
 unfold Il at e
 rw[ea,if_pos rfl,if_pos rfl] at e
 omega
theorem KH {c j k a:Int}:Il c j k a<123:=by unfold Il;omega
theorem wz (c:Int):∀n∈namesOf c,dt (.str n)=true:=by
 intro n hn
 obtain⟨k,_,rfl⟩:=List.mem_map.mp hn
 rw[dt,PyData.canLay0]
 unfold fX PyData.strOk
 simp only[List.all_toArray,List.all_eq_true,decide_eq_true_eq]
 intro x hx
 obtain⟨j,_,rfl⟩:=List.mem_map.mp hx
 have:=KH (c:=c) (j:=(j:Int)) (k:=(k:Int)) (a:=zK c)
 omega
noncomputable def fh (c:Int) (nms:List Str) (many:Nat) (th:Bool):List Dd:=
 if many=0 then [] else
  ([[],[.plus (eU nms (6+c / 12 % (many:Int))) 1],[.set (eU nms (6+c / 12 % (many:Int))) (c / 108 % 3),.plus (eU nms (6+c / 36 % (many:Int))) 1],[.face (eU nms (6+c / 12 % (many:Int)))]]:List (List Dd)).getD (c % (3+if th=true then 1 else 0)).toNat []
noncomputable def ya (ns:List Int) (k m:Nat) (nms:List Str) (many:Nat):Wt:=
 .gA ((AO.getD (aN ns (10+5* (k:Int)) % 4).toNat []).map zp) (aN ns (13+5* (k:Int)) % 5 - 2) 1
  [(0,1,fh (aN ns (10+5* (k:Int)) / 4) nms many true,eU nms (if aN ns 1 % 3 >0 then (k:Int)+1+aN ns (11+5* (k:Int)) % ((m:Int)+2) % ((m:Int)+1 - (k:Int)) else aN ns (11+5* (k:Int)) % ((m:Int)+2))),
   (2,9,fh (aN ns (10+5* (k:Int)) / 64) nms many true,eU nms ((k:Int)+1+aN ns (12+5* (k:Int)) % ((m:Int)+1 - (k:Int))))]
noncomputable def Og:List Str:=[Str.ofString "from",Str.ofString "below"]
noncomputable def qQ (c o:Int) (nms:List Str) (many:Nat) (x:Int):Option (Str×Str×Int):=some (eU nms (6+o % (many:Int)),Og.getD (c % 3 - 1).toNat default,x)
noncomputable def mM (ns:List Int) (k m:Nat) (nms:List Str) (many j:Nat):Rw:=
 ⟨eU nms (10+ (j:Int)),if 0<many/\0<j/\aN ns (11+5* (k:Int)+ (j:Int)) % 3 >0 then qQ (aN ns (11+5* (k:Int)+ (j:Int))) (aN ns (11+5* (k:Int)+ (j:Int)) / 240) nms many (aN ns (11+5* (k:Int)+ (j:Int)) / 3 % 4) else none,
  fh (aN ns (11+5* (k:Int)+ (j:Int)) / 60) nms many false,eU nms ((k:Int)+1+aN ns (11+5* (k:Int)+ (j:Int)) / 12 % ((m:Int)+1 - (k:Int)))⟩
noncomputable def jc (ns:List Int) (k:Nat):Nat:=(1+aN ns (10+5* (k:Int)) % 3).toNat
noncomputable def CW (ns:List Int) (k m:Nat) (nms:List Str) (many:Nat) (rO:Int):Wt:=.pick rO ((List.range (jc ns k)).map (mM ns k m nms many))
noncomputable def zL (ns:List Int) (nms:List Str) (many:Nat):List (Str×Int):=(List.range many).map λk:Nat=>(eU nms (6+ (k:Int)),1+aN ns (7+ (k:Int)) % (4 - (many:Int)))
noncomputable def AY (ns:List Int) (k:Nat):Int:=aN ns (14+5* (k:Int)) % 4
noncomputable def jd (ns:List Int) (m:Nat) (nms:List Str) (many k:Nat):Wt:=
 if AY ns k=3/\0<many then .ask (eU nms (6+aN ns (13+5* (k:Int)) % (many:Int))) (aN ns (12+5* (k:Int)) % 4) (eU nms ((k:Int)+1+aN ns (10+5* (k:Int)+0) % ((m:Int)+1 - (k:Int)))) (eU nms ((k:Int)+1+aN ns (10+5* (k:Int)+1) % ((m:Int)+1 - (k:Int))))
 else if AY ns k=1\/AY ns k=2 then CW ns k m nms many (AY ns k) else ya ns k m nms many
noncomputable def tW (ns:List Int) (nms:List Str) (many:Nat):Wt:=if 0<many then .score (eU nms (6+aN ns 5 % (many:Int))) else .fin (aN ns 5 % 21 - 10) 1
noncomputable def mF (ns:List Int):Nat:=(1+aN ns 2 % 4).toNat
noncomputable def dw (ns:List Int):Nat:=(aN ns 3 % 4).toNat
noncomputable def eV (ns:List Int) (m:Nat) (nms:List Str) (many:Nat):List (Str×Wt):=(List.range m).map λk:Nat=>(eU nms (k:Int),jd ns m nms many k)
noncomputable def kD (ns:List Int):Gm:=⟨zL ns (bY ns) (dw ns),eV ns (mF ns) (bY ns) (dw ns)++ [(eU (bY ns) (mF ns:Int),.fin (aN ns 4 % 21 - 10) 1),(eU (bY ns) ((mF ns:Int)+1),tW ns (bY ns) (dw ns))]⟩
abbrev Rl:=Str×Str×Option (Str×Str×Int)
noncomputable def pE (ns:List Int) (k:Nat):Int:=aN ns (35+2* (k:Int)) % 2147483629*16807 % 2147483647
noncomputable def yc (ns:List Int) (k:Nat):Int:=aN ns (36+2* (k:Int)) % 2147483629*39373 % 2147483647
noncomputable def pT (ns:List Int) (nms:List Str) (k:Nat):Rl:=(eU nms (pE ns k / 3 % 5),eU nms (10+pE ns k / 15 % 4),if pE ns k % 3 >0 then qQ (pE ns k) (yc ns k) nms 4 (yc ns k / 4 % 4) else none)
noncomputable def wA (ns:List Int):Nat:=(aN ns 6 % 7).toNat
noncomputable def kG (ns:List Int) (nms:List Str):List Rl:=(List.range (wA ns)).map (pT ns nms)
theorem VA (ns:List Int):1<=mF ns/\mF ns<=4:=by unfold mF;omega
theorem CY (ns:List Int):dw ns<=3:=by unfold dw;omega
theorem Im {ns:List Int} {nms:List Str} {many:Nat} {i:Int} (h0:0<=i) (h1:i< (many:Int)):eU nms (6+i)∈(zL ns nms many).map (·.1):=by
 unfold zL
 rw[aaJ]
 exact List.mem_map.mpr ⟨i.toNat,List.mem_range.mpr (by omega),by show eU nms (6+ ((i.toNat:Nat):Int))=_;rw[Int.toNat_of_nonneg h0]⟩
theorem uR {ns:List Int} {nms:List Str} {many:Nat} (x:Int) (h:0<many):eU nms (6+x % (many:Int))∈(zL ns nms many).map (·.1):=Im (aav _ (by omega)) (aaw _ (by omega))
theorem qR {ns:List Int} {nms:List Str} {many:Nat} {c:Int} {th:Bool}:CN (zL ns nms many) (fh c nms many th):=by
 unfold fh
 by_cases z:many=0
 ·rw[if_pos z]
  exact⟨by simp,λd hd=>by cases hd⟩
 ·rw[if_neg z]
  have p:0<many:=by omega
  have n1:=uR (ns:=ns) (nms:=nms) (c / 12) p
  have n2:=uR (ns:=ns) (nms:=nms) (c / 36) p
  have q:0<=c / 108 % 3:=by omega
  generalize (c % (3+if th=true then 1 else 0)).toNat=i
  rcases i with _ | _ | _ | _ | i
  ·exact⟨by simp,λd hd=>by cases hd⟩
  ·exact⟨by simp,λd hd=>by rw[List.mem_singleton.mp hd];exact⟨n1,by decide⟩⟩
  ·refine⟨by simp,λd hd=>?_⟩
   rcases List.mem_cons.mp hd with rfl | hd
   ·exact⟨n1,q⟩
   ·rw[List.mem_singleton.mp hd];exact⟨n2,by decide⟩
  ·exact⟨by simp,λd hd=>by rw[List.mem_singleton.mp hd];exact n1⟩
  ·exact⟨by simp,λd hd=>by simp at hd⟩
theorem yd {nms:List Str} {k m:Nat} (x:Int) (h:k<m):∃j:Nat,k<j/\j<=m+1/\eU nms ((k:Int)+1+x % ((m:Int)+1 - (k:Int)))=nat nms j:=by
 have a:=aav x (show(m:Int)+1 - (k:Int)≠0 by omega)
 have b:=aaw x (show(0:Int)< (m:Int)+1 - (k:Int) by omega)
 exact⟨((k:Int)+1+x % ((m:Int)+1 - (k:Int))).toNat,by omega,by omega,rfl⟩
theorem CZ {nms:List Str} {k m:Nat} (x:Int) (h:k<m):AW nms m (eU nms ((k:Int)+1+x % ((m:Int)+1 - (k:Int)))):=by
 obtain⟨j,_,l,e⟩:=yd (nms:=nms) x h
 exact⟨j,l,e⟩
theorem Ff (x:Int):AO.getD (x % 4).toNat []∈AO:=by
 have h:(x % 4).toNat<AO.length:=by show _<4;omega
 rw[aaS,aat h]
 exact List.getElem_mem h
theorem KI (i:Nat):dt (.str (Og.getD i default))=true:=by
 rcases i with _ | _ | i
 ·decide +kernel
 ·decide +kernel
 ·show dt (.str default)=true;decide +kernel
theorem C0 {c o x:Int} {nms:List Str} {many:Nat} (ln:nms.length=14) (y1:0<many) (y4:many<=4):Jo nms (qQ c o nms many x):=λn y k e=>by
 cases e
 have a:=aav o (show(many:Int)≠0 by omega)
 have b:=aaw o (show(0:Int)< (many:Int) by omega)
 exact⟨jM (by omega),KI _⟩
theorem C3 {ns:List Int} {nms:List Str} {m many k:Nat} (ln:nms.length=14) (hk:k<m) (h4:m<=4) (y3:many<=3):Ij (zL ns nms many) nms m k (jd ns m nms many k):=by
 unfold jd
 by_cases c:AY ns k=3/\0<many
 ·rw[if_pos c]
  exact⟨uR _ c.2,yd _ hk,yd _ hk⟩
 ·rw[if_neg c]
  by_cases d:AY ns k=1\/AY ns k=2
  ·rw[if_pos d]
   have n1:1<=jc ns k/\jc ns k<=3:=by unfold jc;omega
   refine⟨?_,by rw[aac,aaE];exact n1.2,λr hr=>?_⟩
   ·obtain⟨q,e⟩:∃q,jc ns k=q+1:=⟨jc ns k - 1,by omega⟩
    rw[e,List.range_succ_eq_map,aae]
    exact⟨_,_,rfl,if_neg (by omega)⟩
   ·obtain⟨j,hj,rfl⟩:=List.mem_map.mp hr
    have hj:=List.mem_range.mp hj
    refine⟨qR,CZ _ hk,jM (by show(10+ (j:Int)).toNat<_;omega),?_⟩
    show Jo nms (if _ then _ else _)
    split
    ·rename_i h;exact C0 ln h.1 (by omega)
    ·exact λ_ _ _ e=>by cases e
  ·rw[if_neg d]
   refine⟨_,_,_,_,_,rfl,Ff _,rfl,qR,qR,?_,CZ _ hk⟩
   by_cases e:aN ns 1 % 3 >0
   ·rw[if_pos e];exact CZ _ hk
   ·rw[if_neg e]
    have a:=aav (aN ns (11+5* (k:Int))) (show(m:Int)+2≠0 by omega)
    have b:=aaw (aN ns (11+5* (k:Int))) (show(0:Int)< (m:Int)+2 by omega)
    exact⟨(aN ns (11+5* (k:Int)) % ((m:Int)+2)).toNat,by omega,rfl⟩
theorem Fg (ns:List Int):i9 (kD ns) (bY ns) (mF ns):=by
 have mb:=VA ns
 have yb:=CY ns
 have lc:(kD ns).cs.length=dw ns:=by show(zL _ _ _).length=_;unfold zL;rw[aac,aaE]
 have lp:(eV ns (mF ns) (bY ns) (dw ns)).length=mF ns:=by unfold eV;rw[aac,aaE]
 refine⟨gX _,CV _,wz _,mb.2,by omega,λi c e=>?_,by show(_++ [_,_]).length=_;rw[aak,lp];rfl,λi x e=>?_⟩
 ·have e:(zL ns (bY ns) (dw ns))[i]?=some c:=e
  unfold zL at e
  rw[aad] at e
  obtain⟨k,ek,rfl⟩:=Option.map_eq_some_iff.mp e
  obtain⟨h1,h2⟩:=List.getElem?_eq_some_iff.mp ek
  rw[aaE] at h1
  rw[List.getElem_range] at h2
  subst h2
  have a:=aav (aN ns (7+ (i:Int))) (show 4 - (dw ns:Int)≠0 by omega)
  have b:=aaw (aN ns (7+ (i:Int))) (show(0:Int)<4 - (dw ns:Int) by omega)
  refine⟨?_,?_,?_⟩
  ·show nat _ (6+ (i:Int)).toNat=_
   rw[show(6+ (i:Int)).toNat=6+i by omega]
  ·show 0<=1+aN ns (7+ (i:Int)) % (4 - (dw ns:Int));omega
  ·rw[lc];show 1+aN ns (7+ (i:Int)) % (4 - (dw ns:Int))<=4 - (dw ns:Int);omega
 ·have e:(eV ns (mF ns) (bY ns) (dw ns)++ [_,_])[i]?=some x:=e
  by_cases c:i<mF ns
  ·rw[aa2 (by rw[lp];exact c)] at e
   unfold eV at e
   rw[aad,List.getElem?_range c] at e
   cases e
   exact⟨rfl,C3 (gX _) c mb.2 yb⟩
  ·rw[aa5 (by rw[lp];omega),lp] at e
   have hi:i - mF ns<2:=(List.getElem?_eq_some_iff.mp e).1
   by_cases d:i=mF ns
   ·subst d
    rw[Nat.sub_self] at e
    cases e
    exact⟨rfl,trivial⟩
   ·rw[show i - mF ns=1 by omega] at e
    cases e
    refine⟨?_,?_⟩
    ·show nat _ ((mF ns:Int)+1).toNat=nat _ i
     rw[show((mF ns:Int)+1).toNat=i by omega]
    ·show Ij _ _ _ _ (tW ns (bY ns) (dw ns))
     unfold tW
     by_cases y:0<dw ns
     ·rw[if_pos y];exact uR _ y
     ·rw[if_neg y];exact trivial
noncomputable def Io (nms:List Str) (rule:List Rl):Prop:=rule.length<=6/\∀r∈rule,r.1∈nms/\r.2.1∈nms/\Jo nms r.2.2
theorem Fh {ns:List Int} {nms:List Str} (ln:nms.length=14):Io nms (kG ns nms):=by
 refine⟨by unfold kG wA;rw[aac,aaE];omega,λr hr=>?_⟩
 obtain⟨k,_,rfl⟩:=List.mem_map.mp hr
 refine⟨jM (by omega),jM (by omega),?_⟩
 show Jo nms (if _ then _ else _)
 split
 ·exact C0 ln (by decide) (by decide)
 ·exact λ_ _ _ e=>by cases e
theorem nZ:∀{l:List Str} {x:Str} {j:Nat},j<l.idxOf x->l[j]?≠some x
 | [],_,_,h=>by simp at h
 | y::l,x,j,h=>by
  rw[List.idxOf_cons] at h
  by_cases c:y=x
  ·rw[c,beq_self_eq_true] at h;exact absurd h (Nat.not_lt_zero _)
  ·rw[beq_false_of_ne c] at h
   cases j with
   | zero=>simpa using c
   | succ j=>rw[List.getElem?_cons_succ];exact nZ (l:=l) (Nat.lt_of_succ_lt_succ h)
theorem wB (l:List Str):(l.map Dat.str).map cO=l.map PyData.str:=by
 rw[aaJ]
 exact List.map_congr_left λa _=>by show cO (.str a)=_;rw[cO]
theorem C4 {l:List Str} {x:Str} (h:x∈l):((l.map Dat.str).map cO)[l.idxOf x]?=some (cO (.str x))/\∀j,j<l.idxOf x->((l.map Dat.str).map cO)[j]?≠some (cO (.str x)):=by
 have hl:=aa6 h
 rw[wB,show cO (.str x)=PyData.str x by rw[cO]]
 refine⟨by rw[aad,aat hl,List.getElem_idxOf];rfl,λj hj e=>?_⟩
 rw[aad] at e
 obtain⟨y,ey,e⟩:=Option.map_eq_some_iff.mp e
 injection e with e
 exact nZ hj (e▸ey)
noncomputable def m4 (cs:List (Str×Int)) (ms:List Int):Dd->List Int
 | .move n _=>ms.set (dm cs n) 0
 | _=>ms
noncomputable def n4 (cs:List (Str×Int)) (x:Int) (ms:List Int):Dd->Int
 | .move n _=>ms.getD (dm cs n) 0
 | _=>x
noncomputable def Kx (n:Nat) (d:Dat):Prop:=qy (cO d)=true/\(cO d).depth<=n
theorem c8 {n:Nat} (k:Int):Kx n (.int k):=by unfold Kx;rw[cO,qy,PyData.depth];exact⟨rfl,aah _⟩
theorem Ip {n:Nat}:Kx n .cZ:=by unfold Kx;rw[cO,qy,PyData.depth];exact⟨rfl,aah _⟩
theorem b8 {n:Nat} {x:Str} (h:dt (.str x)=true):Kx n (.str x):=by
 rw[dt] at h
 unfold Kx
 rw[cO,qy,PyData.depth]
 exact⟨h,aah _⟩
theorem ye {n:Nat}:∀{ds:List Dat},(∀d∈ds,Kx n d)->qz (mC ds)=true/\PyData.depthAll (mC ds)<=n
 | [],_=>by rw[mC,qz,PyData.depthAll];exact⟨rfl,aah _⟩
 | d::ds,h=>by
  obtain⟨a,b⟩:=h d aap
  obtain⟨e,f⟩:=ye (ds:=ds) λx hx=>h x (aaj _ hx)
  rw[mC,qz,PyData.depthAll,a,e]
  exact⟨rfl,by omega⟩
theorem uS {n:Nat} {ds:List Dat} (h:∀d∈ds,Kx n d):Kx (n+1) (.tup ds):=by
 obtain⟨a,b⟩:=ye h
 unfold Kx
 rw[cO,qy,PyData.depth]
 exact⟨a,by omega⟩
theorem lQ {n:Nat} {ds:List Dat} (h:∀d∈ds,Kx n d):Kx (n+1) (.lst ds):=by
 obtain⟨a,b⟩:=ye h
 unfold Kx
 rw[cO,qy,PyData.depth]
 exact⟨a,by omega⟩
theorem uT {n:Nat} {a b:Dat} (ha:Kx n a) (hb:Kx n b):Kx (n+1) (.tup [a,b]):=uS λd hd=>by
 rcases List.mem_cons.mp hd with rfl | hd
 ·exact ha
 ·rw[List.mem_singleton.mp hd];exact hb
theorem yf {n:Nat} {a b c:Dat} (ha:Kx n a) (hb:Kx n b) (hc:Kx n c):Kx (n+1) (.tup [a,b,c]):=uS λd hd=>by
 rcases List.mem_cons.mp hd with rfl | hd
 ·exact ha
 ·rcases List.mem_cons.mp hd with rfl | hd
  ·exact hb
  ·rw[List.mem_singleton.mp hd];exact hc
theorem Fi {n:Nat} {a b c e:Dat} (ha:Kx n a) (hb:Kx n b) (hc:Kx n c) (he:Kx n e):Kx (n+1) (.tup [a,b,c,e]):=uS λd hd=>by
 rcases List.mem_cons.mp hd with rfl | hd
 ·exact ha
 ·rcases List.mem_cons.mp hd with rfl | hd
  ·exact hb
  ·rcases List.mem_cons.mp hd with rfl | hd
   ·exact hc
   ·rw[List.mem_singleton.mp hd];exact he
theorem gC {n k:Nat} {d:Dat} (h:Kx n d) (l:n<=k):Kx k d:=⟨h.1,aal h.2 l⟩
noncomputable def M4 (r:Rl):Dat:=.tup [.str r.1,.str r.2.1,DH r.2.2]
noncomputable def mO (rule:List Rl):Dat:=.lst (rule.map M4)
noncomputable def iN (g:Gm) (st:cD):List Str:=(dM g.cs st.2 ((look g.ps st.1).getD (.fin 0 1))).map (·.word)
theorem tX (g:Gm) (st:cD):gM g st=.lst ((iN g st).map Dat.str):=by
 unfold gM iN
 rw[aaJ]
 rfl
noncomputable def kH (g:Gm) (st:cD) (r:Rl):Bool:=decide (r.1=st.1) && (decide (r.2.1∈iN g st) && gK g.cs st.2 r.2.2)
noncomputable def uU (g:Gm) (rule:List Rl) (st:cD):Nat:=match rule.find? (kH g st) with
 | some r=>(iN g st).idxOf r.2.1
 | none=>0
noncomputable def Oh (g:Gm) (st:cD):Bool:=match look g.ps st.1 with
 | some (.pick _ _)=>true
 | _=>false
noncomputable def fY (g:Gm) (rule:List Rl) (st:cD):V:=if Oh g st=true then .int ((uU g rule st:Nat):Int) else .cZ
theorem wC {g:Gm} {SS:List cD} {st:cD} {ts:List (Int×cD)} {x:Wt} (lk:look g.ps st.1=some x):∃kd r,nY g SS st ts=.tup (.str kd::r)/\(kd=Str.ofString "pick"↔Oh g st=true):=by
 unfold nY E6 Oh
 rw[lk]
 cases x with
 | pick w rs=>exact⟨_,_,rfl,⟨λ_=>rfl,λ_=>rfl⟩⟩
 | gA fI t b rs=>exact⟨_,_,rfl,⟨λe=>absurd e (by decide +kernel),λe=>by cases e⟩⟩
 | ask c k a b=>exact⟨_,_,rfl,⟨λe=>absurd e (by decide +kernel),λe=>by cases e⟩⟩
 | fin t b=>exact⟨_,_,rfl,⟨λe=>absurd e (by decide +kernel),λe=>by cases e⟩⟩
 | score c=>exact⟨_,_,rfl,⟨λe=>absurd e (by decide +kernel),λe=>by cases e⟩⟩
theorem Ga {nms:List Str} (hs:∀n∈nms,dt (.str n)=true) {wh:Option (Str×Str×Int)} (w:Jo nms wh):Kx 1 (DH wh):=by
 cases wh with
 | none=>exact Ip
 | some p=>
  obtain⟨n,x,k⟩:=p
  obtain⟨a,b⟩:=w n x k rfl
  exact yf (b8 (hs n a)) (b8 b) (c8 _)
theorem Fj {nms:List Str} (hs:∀n∈nms,dt (.str n)=true) {rule:List Rl} (r:Io nms rule):Kx 8 (mO rule):=by
 refine gC (n:=3) (lQ λd hd=>?_) (by decide)
 obtain⟨x,hx,rfl⟩:=List.mem_map.mp hd
 obtain⟨a,b,c⟩:=r.2 x hx
 exact yf (b8 (hs _ a)) (b8 (hs _ b)) (Ga hs c)
section X0
variable {g : Gm} {nms : List Str} {m : Nat}
theorem i9.dd (G:i9 g nms m) {ds:List Dd} (h:CN g.cs ds):Kx 2 (.lst (ds.map EZ)):=by
 refine lQ λd hd=>?_
 obtain⟨x,hx,rfl⟩:=List.mem_map.mp hd
 have k:=h.2 x hx
 cases x with
 | set n i=>exact yf (b8 (by decide +kernel)) (b8 (G.hs _ (G.AX k.1))) (c8 _)
 | plus n i=>exact yf (b8 (by decide +kernel)) (b8 (G.hs _ (G.AX k.1))) (c8 _)
 | face n=>exact uT (b8 (by decide +kernel)) (b8 (G.hs _ (G.AX k)))
 | move n i=>exact k.elim
theorem i9.to (G:i9 g nms m) {to:Str} (h:AW nms m to):dt (.str to)=true:=by
 obtain⟨j,l,rfl⟩:=h
 have:=G.m4
 exact G.hs _ (jM (by rw[G.ln];omega))
theorem i9.kx (G:i9 g nms m):Kx 8 (E1 g):=by
 refine uT (gC (n:=2) (lQ λd hd=>?_) (by decide)) (lQ λd hd=>?_)
 ·obtain⟨c,hc,rfl⟩:=List.mem_map.mp hd
  exact uT (b8 (G.hs _ (G.AX (List.mem_map.mpr ⟨c,hc,rfl⟩)))) (c8 _)
 ·obtain⟨p,hp,rfl⟩:=List.mem_map.mp hd
  obtain⟨i,hi⟩:=List.mem_iff_getElem?.mp hp
  have k:=(G.pn i p hi).2
  refine uT (b8 (G.Of hi)) ?_
  cases e:p.2 with
  | ask c x a b=>
   rw[e] at k
   obtain⟨h1,⟨ja,_,la,rfl⟩,⟨jb,_,lb,rfl⟩⟩:=k
   refine gC (n:=1) (uS λd hd=>?_) (by decide)
   have t1:=G.to ⟨ja,la,rfl⟩
   have t2:=G.to ⟨jb,lb,rfl⟩
   rcases List.mem_cons.mp hd with rfl | hd
   ·exact b8 (by decide +kernel)
   rcases List.mem_cons.mp hd with rfl | hd
   ·exact b8 (G.hs _ (G.AX h1))
   rcases List.mem_cons.mp hd with rfl | hd
   ·exact c8 _
   rcases List.mem_cons.mp hd with rfl | hd
   ·exact b8 t1
   ·rw[List.mem_singleton.mp hd];exact b8 t2
  | fin t b=>exact gC (n:=2) (uT (b8 (by decide +kernel)) (uT (c8 _) (c8 _))) (by decide)
  | score c=>rw[e] at k;exact gC (n:=1) (uT (b8 (by decide +kernel)) (b8 (G.hs _ (G.AX k)))) (by decide)
  | pick rO rs=>
   rw[e] at k
   refine yf (b8 (by decide +kernel)) (c8 _) (lQ λd hd=>?_)
   rw[aaJ] at hd
   obtain⟨r,hr,rfl⟩:=List.mem_map.mp hd
   obtain⟨k1,k2,k3,k4⟩:=k.2.2 r hr
   exact Fi (b8 (G.hs _ k3)) (gC (Ga G.hs k4) (by decide)) (G.dd k1) (b8 (G.to k2))
  | gA fI t b rs=>
   rw[e] at k
   obtain⟨ps,d1,t1,d2,t2,rfl,hp,rfl,k1,k2,o1,o2⟩:=k
   refine Fi (b8 (by decide +kernel)) (gC (n:=2) (lQ λd hd=>?_) (by decide)) (gC (n:=1) (uT (c8 _) (c8 _)) (by decide)) (lQ λd hd=>?_)
   ·obtain⟨p,_,rfl⟩:=List.mem_map.mp hd
    cases p with
    | num n=>exact uT (b8 (by decide +kernel)) (c8 _)
    | gJ n s=>exact yf (b8 (by decide +kernel)) (c8 _) (c8 _)
    | again n s=>exact yf (b8 (by decide +kernel)) (c8 _) (c8 _)
   ·rcases List.mem_cons.mp hd with rfl | hd
    ·exact Fi (c8 _) (c8 _) (G.dd k1) (b8 (G.to o1))
    ·rw[List.mem_singleton.mp hd];exact Fi (c8 _) (c8 _) (G.dd k2) (b8 (G.to o2))
theorem i9.VB (G:i9 g nms m) (st:cD):(iN g st).length<=3/\∀n∈iN g st,n∈nms:=by
 unfold iN
 cases lk:K64.look g.ps st.1 with
 | none=>exact⟨aah _,λn hn=>by cases hn⟩
 | some x=>
  cases x with
  | pick rO rs=>
   obtain⟨i,hi⟩:=List.mem_iff_getElem?.mp (eg lk)
   obtain⟨_,l,k⟩:=(G.pn i _ hi).2
   refine⟨?_,λn hn=>?_⟩
   ·rw[aac]
    exact aal (List.length_filter_le _ _) l
   ·obtain⟨r,hr,rfl⟩:=List.mem_map.mp hn
    exact(k r (List.mem_filter.mp hr).1).2.2.1
  | ask c x a b=>exact⟨aah _,λn hn=>by cases hn⟩
  | fin t b=>exact⟨aah _,λn hn=>by cases hn⟩
  | score c=>exact⟨aah _,λn hn=>by cases hn⟩
  | gA fI t b rs=>exact⟨aah _,λn hn=>by cases hn⟩
end X0
noncomputable def sy (H:Hp) (l:Addr) (nms:List Str):Prop:=H l=some (.lst (nms.map V.str))
noncomputable def eD (K:PySem.W.Frag):Sp:=λvs H Q _=>∃a ns k,vs=[.ref a,.int k]/\bL K H a (List.map V.int ns)/\0<=k/\k<1000/\Q (.int (aN ns k)) H
noncomputable def C5 (K:PySem.W.Frag):Sp:=λvs H Q _=>∃a ns,vs=[.ref a]/\bL K H a (List.map V.int ns)/\∀l H',aw H H'->sy H' l (bY ns)->Q (.ref l) H'
noncomputable def C6 (K:PySem.W.Frag):Sp:=λvs H Q _=>∃a ns,vs=[.ref a]/\bL K H a (List.map V.int ns)/\∀v H',aw H H'->Rep H' (E1 (kD ns)) v->Q v H'
noncomputable def Iq (K:PySem.W.Frag):Sp:=λvs H Q _=>∃a ns nl nms,vs=[.ref a,.ref nl]/\bL K H a (List.map V.int ns)/\sy H nl nms/\nms.length=14/\∀l H',aw H H'->Rep H' (mO (kG ns nms)) (.ref l)->Q (.ref l) H'
noncomputable def Ir:Sp:=λvs H Q _=>∃cv nl wv cs ns wh,vs=[cv,.ref nl,wv]/\Rep H (Oc cs) cv/\H nl=some (.lst (List.map V.int ns))/\ns.length=cs.length/\cs.length<=100/\Rep H (DH wh) wv/\Q (.bl (gK cs ns wh)) H
noncomputable def M5 (g:Gm) (rule:List Rl) (st:cD):Prop:=rule.length<=100/\(∀r∈rule,dt (.str r.2.1)=true)/\(iN g st).length<=100/\∀n∈iN g st,dt (.str n)=true
noncomputable def Iu:Sp:=λvs H Q _=>∃gv rv sv wv g rule st,vs=[gv,rv,sv,wv]/\Rep H (E1 g) gv/\Rep H (mO rule) rv/\tP H sv st.1 st.2/\Rep H (gM g st) wv/\st.2.length=g.cs.length/\g.cs.length<=100/\M5 g rule st/\Q (.int ((uU g rule st:Nat):Int)) H
noncomputable def Iv (q:Addr):Sp:=λvs H Q _=>∃rv c sv wv g rule st,vs=[rv,.ref c,sv,wv]/\Rep H (mO rule) rv/\tO q H c g/\tP H sv st.1 st.2/\Rep H (gM g st) wv/\st.2.length=g.cs.length/\M5 g rule st/\Q (.int ((uU g rule st:Nat):Int)) H
noncomputable def X1 (H:Hp) (t:Addr) (g:Gm) (SS:List cD) (hX:List (List (Int×cD))):Prop:=∃b l wl bs xs ws,H t=some (.tup [.ref b,.ref l,.ref wl])/\H b=some (.lst bs)/\bb H (wq g SS hX) bs/\H l=some (.lst xs)/\Al (λs v=>tP H v s.1 s.2) SS xs/\H wl=some (.lst ws)/\bb H (SS.map (gM g)) ws
structure Iw (g:Gm) (rule:List Rl) (SS:List cD) (hX:List (List (Int×cD))):Prop where
 gg:GoodG g
 sp:hX.length=SS.length
 l1:SS.length<=120
 ls:∀s∈SS,s.2.length=g.cs.length/\M5 g rule s/\∃x,look g.ps s.1=some x
noncomputable def Iy:Sp:=λvs H Q _=>∃gv t rv g rule SS hX,vs=[gv,.ref t,rv]/\Rep H (E1 g) gv/\Rep H (mO rule) rv/\X1 H t g SS hX/\Iw g rule SS hX/\∀l H',aw H H'->H' l=some (.lst (SS.map (fY g rule)))->Q (.ref l) H'
noncomputable def Iz:Sp:=λvs H Q _=>∃gv rv g rule SS hX ft nm F,vs=[gv,rv]/\Rep H (E1 g) gv/\Rep H (mO rule) rv/\Iw g rule SS hX/\(g.ps.map (·.1)).head?=some ft/\gw g (List.replicate g.cs.length 0) F ft=some nm/\dt (.str nm)=true/\iF g 0 SS 0 [(nm,List.replicate g.cs.length 0)] hX/\∀l H',aw H H'->H' l=some (.lst (SS.map (fY g rule)))->Q (.ref l) H'
noncomputable def zM (K:PySem.W.Frag):Sp:=λvs H Q _=>∃(a:Addr) (ns:List Int),vs=[.ref a]/\bL K H a (ns.map V.int)/\ns.length<=63/\∀H',Q (.bl true) H'
section
variable {P : Program} {w : World} {K : PySem.W.Frag} {mg : Str -> Option Value} {base : Heap}
variable {aG aH aA aL af au : Addr}
theorem gD:aV ["one","other","rest"] ["one","other"] (aj (top 7)):=⟨rfl,rfl,rfl,by decide +kernel,rfl,by decide +kernel,by decide +kernel⟩
theorem Gb (T:Txt K mg aG aH aA aL af au):cL P w K mg base (bC P w) 1 "common_divisor" ["one","other"] Cp:=by
 refine T.nS.eF (λ_ _ _ _ _ _ us hl=>match us,hl with | [_,_],_=>rfl) λf fd F=>F.fR gD (λvs H Q E h=>?_) (λbV A outer s H vs Q E hr h=>?_)
 ·obtain⟨_,_,rfl,_⟩:=h;rfl
 ·refine(?_:let G_:Prop:=_;G_)
  intro G_
  obtain⟨a,b,rfl,k⟩:=h
  dsimp only[G_]
  have nd:=gD.nd
  refine⟨_,(ai (aK (i:=0) nd rfl (Or.inl rfl) (bx vq (by rfl) T.z_abs rfl (aa (pv 0) ag (se rfl)) (he:=se rfl) (hpl:=na rfl)))
  (ai (aK (i:=1) nd rfl (Or.inl rfl) (bx vq (by rfl) T.z_abs rfl (aa (pv 1) ag (se rfl)) (he:=se rfl) (hpl:=na rfl)))
  (ai (pY PassesOwn.never (aM vo (pv 1) ae (aY _)) (ai (aK (i:=2) nd rfl (Or.inl rfl) (aB bo (pv 0) (pv 1)))
  (ai (aK (i:=0) nd rfl (Or.inl rfl) (pv 1))
  (ar (aK (i:=1) nd rfl (Or.inl rfl) (pv 2))))))
  (ar (aP (pv 0)))))),?_⟩
  refine(?_:let cm:TS:=_;let cu:TS:=_;let cw:TS:=_;let dZ:TS:=_;tSeq cm (tSeq cu (tSeq cw dZ)) _ _ _)
  intro cm cu cw dZ
  simp_all only[]
  refine Bm (λσ H1=>H1=H/\∃(x y:Int) (z:Option V),σ=[some (.int x),some (.int y),z]/\0<=x/\0<=y/\Nm.g x y=Nm.g a b) (λσ _=>match σ with | [_,some (.int y),_]=>y.toNat | _=>0) ?_ ?_ ?_
  ·refine⟨rfl,_,_,_,rfl,?_,?_,?_⟩
   ·split <;>omega
   ·split <;>omega
   ·rw[show(if a<0 then -a else a)=(a.natAbs:Int) by split <;>omega,show(if b<0 then -b else b)=(b.natAbs:Int) by split <;>omega,Nm.FO,Nm.y8]
  ·intro σ H1 dk
   refine(?_:let G_:Prop:=_;G_)
   intro G_
   obtain⟨rfl,x,y,z,rfl,x0,y0,e⟩:=dk
   dsimp only[G_]
   simp_all only[]
   refine jR (λc=>?_) (λc=>?_)
   ·refine⟨by omega,y0,aav _ (by omega),by rw[Nm.Hl x0 (by omega),e],?_⟩
    have:=aaw x (show 0<y by omega)
    have:=aav x (show y≠0 by omega)
    omega
   ·have z:y=0:=by omega
    subst z
    rw[Nm.Hm x0] at e
    rw[e]
    exact k
  ·intro σ H1 Q1 Q2 hq hc
   simp only[L2.start,Pr,tRev,tSortR,tD1,tDPop1,tSl,tNoPart,tPart,rSlL,tDIn,tDNotIn,gSub,rSetL,tLst,tDNewK,tComp,L2.stC,tFor_eq,iList,iTup,iRng1,iRng2,iZip,iEnum,iDict,iStr,tChain,tSumV,tBM,rJoin,tJoined,jNil,jLit,jInt,jStr,tRaise,tDGet,tDGet2,tDGet1,sDPut,Option.join_some,List.getElem?_nil,tSeq,tRet,tRetN,tIfS,tTest,tB,tOp,tUn,tVar,tC,tCB,tCons,tNil,tCall,tTupS,tAsg,gName,gNil,gCons,tPar,tNext,tDrop,tAnd,tOr,tNot,tAndV,tOrV,tNotV,tIf,rI,rI0,rU,rIxTH,rIxLH,rEqT,rNeT,rInT,rEq,rNe,scal,CPow,at0,at1,at2,aae,aaC,aaq,aa0,Nat.reduceSub,Nat.reduceAdd,Nat.zero_add,List.replicate_zero,List.reduceReplicate,aaP,List.nil_append,List.cons_append,List.getElem?_cons_zero,List.getElem?_cons_succ,aaX,aaY,Option.some.injEq,exists_eq_left',exists_eq_left,V.ref.injEq,V.int.injEq,V.bl.injEq,V.str.injEq,V.ty.injEq,HO.tup.injEq,HO.lst.injEq,List.cons.injEq,and_true,true_and,and_assoc,exists_and_left,decide_eq_true_eq,Bool.not_eq_true',decide_eq_false_iff_not,ite_true,ite_false,if_true,if_false,Int.reduceToNat,eq_self_iff_true] at hc ⊢
   refine(?_:let G_:Prop:=_;G_)
   intro G_
   obtain⟨v,e1,e2,q⟩:=hc
   dsimp only[G_]
   exact⟨v,e1,e2,hq _ _ q⟩
theorem wD:aV ["top","bottom","divisor"] ["top","bottom"] (aj (top 8)):=⟨rfl,rfl,rfl,by decide +kernel,rfl,by decide +kernel,by decide +kernel⟩
theorem KJ (T:Txt K mg aG aH aA aL af au):cL P w K mg base (bC P w) 2 "share" ["top","bottom"] (HF aG):=by
 have eN:cL P w K mg base (bC P w) 1 "common_divisor" ["one","other"] Cp:=Gb T
 refine T.EN.eF (λ_ _ _ _ _ _ us hl=>match us,hl with | [_,_],_=>rfl) λf fd F=>F.FP wD (λvs H Q E h=>?_) (λbV A outer s H vs Q E hr h=>?_)
 ·obtain⟨_,_,rfl,_⟩:=h;rfl
 ·refine(?_:let G_:Prop:=_;G_)
  intro G_
  obtain⟨a,b,rfl,bt,kE,kQ⟩:=h
  dsimp only[G_]
  have nd:=wD.nd
  have AZ:A.handled=none:=hr.hd
  refine⟨_,(ai (bG (aM cg (pv 1) ae (aY _)) (ar (gO rfl T.k_NoShare T.x_NoShare AZ (aa bc ag (se rfl)) (he:=se rfl) (hpl:=na rfl)))
   bg)
  (ai (aK (i:=2) nd rfl (Or.inl rfl) (aW eN (hr.mono (by decide)) rfl aF.pass (aa (pv 0) (aa (pv 1) ag (se rfl)) (se rfl)) (he:=se rfl) (hpl:=na rfl)))
  (ai (bG (aM vp (pv 1) ae (aY _)) (ar (aK (i:=2) nd rfl (Or.inl rfl) (oR iV (pv 2))))
   bg)
  (ar (aP (aZ (aa (aB vF (pv 0) (pv 2)) (aa (aB vF (pv 1) (pv 2)) ag (se rfl)) (se rfl)))))))),?_⟩
  refine(?_:let cm:TS:=_;let cu:TS:=_;let cw:TS:=_;let dZ:TS:=_;tSeq cm (tSeq cu (tSeq cw dZ)) _ _ _)
  intro cm cu cw dZ
  simp_all only[Cp,tRaise]
  refine jR (λz=>?_) (λz=>?_)
  ·exact⟨by decide,kE z⟩
  ·have g0:0<Nm.g a b:=Nm.FN z
   have gb:Bt 5000 (Nm.g a b):=bt.le (by have:=Nm.BJ (a:=a) z;omega)
   have kq:=kQ z
   unfold Nm.st Nm.sb at kq
   refine jR (λc=>?_) (λc=>?_)
   ·rw[if_pos c,if_pos c] at kq
    rw[Nm.BM g0 (Nm.um a b),Nm.BM g0 (Nm.pM a b)]
    exact⟨qe.of (by omega) gb.neg,qe.of (by omega) gb.neg,by decide,λp H2 s1 n1 e=>kq p H2 s1 n1 e⟩
   ·rw[if_neg c,if_neg c] at kq
    rw[Nm.BL g0,Nm.BL g0]
    exact⟨qe.of (by omega) gb,qe.of (by omega) gb,by decide,λp H2 s1 n1 e=>kq p H2 s1 n1 e⟩
theorem fo:aV ["weights","bottom"] ["weights","bottom"] (aj (top 11)):=⟨rfl,rfl,rfl,by decide +kernel,rfl,by decide +kernel,by decide +kernel⟩
theorem KL (T:Txt K mg aG aH aA aL af au):cL P w K mg base (bC P w) 3 "table_by_weights" ["weights","bottom"] ER:=by
 have Fk:cL P w K mg base (bC P w) 2 "share" ["top","bottom"] (HF aG):=KJ T
 refine T.lG.eF (λ_ _ _ _ _ _ us hl=>match us,hl with | [_,_],_=>rfl) λf fd F=>F.fR fo (λvs H Q E h=>?_) (λbV A outer s H vs Q E hr h=>?_)
 ·obtain⟨_,_,_,rfl,_⟩:=h;rfl
 ·refine(?_:let G_:Prop:=_;G_)
  intro G_
  obtain⟨d,B,ws,rfl,hd,ndk,hz,B0,bB,k⟩:=h
  dsimp only[G_]
  have nd:=fo.nd
  refine⟨_,(ar (aP (dA rfl (N:=["weights","bottom"]) (so:=aj (top 11)) (N':=["value","weights","bottom"]) (k:=1) (fr:=[0,1]) rfl rfl ⟨rfl,by decide +kernel,by decide +kernel,by decide +kernel,rfl,by decide +kernel,by decide +kernel⟩ (bH (K:=K) (bx qk (by rfl) T.z_sorted rfl (aa (pv 0) ag (se rfl)) (he:=se rfl) (hpl:=na rfl))) (λ_ _ _ _ _=>(aT (i:=0) (show(["value","weights","bottom"]:List Str).Nodup by decide +kernel) rfl (Or.inl rfl))) (λ_ _ _ _ _=>dq)
   (λ_ _ _ _ _=>(aZ (aa (pv 0) (aa (aW Fk (hr.mono (by decide)) rfl aF.pass (aa (eP (eX hr) (pv 1) (pv 0) (λ_ _=>rfl)) (aa (pv 2) ag (se rfl)) (se rfl)) (he:=se rfl) (hpl:=na rfl)) ag (se rfl)) (se rfl))))))),?_⟩
  simp_all only[]
  refine⟨enc ws,.inl hd,BO ws,by rw[uy];exact hz,λl nl=>⟨⟨_,bL.of aq⟩,?_⟩⟩
  rw[Av]
  have sm:aw H (upd H l (.lst (List.map V.int (Nm.uw (Nm.keys ws))))):=ao nl
  have ll:(List.map V.int (Nm.uw (Nm.keys ws))).length=ws.length:=by rw[aac,Nm.iq];unfold Nm.keys;rw[aac]
  refine comp_map (src_list (λH2 s2=>s2.seq (bL.of aq))) (λ_ _ _ _ h=>by rw[h.1];exact aw.refl _) (by rw[ll,sizeLine_eq];omega) (λi y H2=>∀r,(Nm.rowsOf ws B)[i]?=some r->Rep H2 (Ez r) y) (λi y H2 H3 s3 h r e=>(h r e).mono s3) ?_ ?_
  ·rintro i x w0 H2 H3 Q2 hi s2 ⟨rfl,hx⟩ kq
   rw[aad] at hx
   refine(?_:let G_:Prop:=_;G_)
   intro G_
   obtain⟨v,ev,rfl⟩:=Option.map_eq_some_iff.mp hx
   dsimp only[G_]
   have hv:v∈Nm.keys ws:=Nm.Et.mp (aam ev)
   have hd2:=s2 _ _ (sm _ _ hd)
   simp_all only[HF]
   refine⟨_,BP hd2 hv,_,rfl,bB,λz=>absurd z B0,λ_ p H4 s4 _ e4=>⟨by decide,λp5 H5 s5 _ e5=>?_⟩⟩
   refine kq _ _ (s4.trans s5) λr er=>?_
   have:r=(v,Nm.st (Nm.look ws v) B,Nm.sb (Nm.look ws v) B):=by
    unfold Nm.rowsOf at er
    rw[aad,ev] at er
    exact(aay er).symm
   subst this
   exact my.mpr ⟨p5,p,rfl,e5,s5 _ _ e4⟩
  ·intro ys H2 s2 ly hy D n1 n2
   refine k _ _ (sm.trans (s2.trans (ao n2))) (none_of sm n1) (bq.mpr ⟨D,ys,rfl,aq,?_⟩)
   refine bb.of ?_ λi dd v e1 e2=>?_
   ·rw[aac,ly]
    unfold Nm.rowsOf
    rw[aac,aac]
   ·rw[aad] at e1
    refine(?_:let G_:Prop:=_;G_)
    intro G_
    obtain⟨r,er,rfl⟩:=Option.map_eq_some_iff.mp e1
    dsimp only[G_]
    exact(hy i v e2 r er).mono (ao n2)
theorem o8:aV ["rows","weights","value","weight"] ["rows"] (aj (top 12)):=⟨rfl,rfl,rfl,by decide +kernel,rfl,by decide +kernel,by decide +kernel⟩
theorem KN (T:Txt K mg aG aH aA aL af au):cL P w K mg base (bC P w) 4 "table_of" ["rows"] (HG aH):=by
 have lR:cL P w K mg base (bC P w) 3 "table_by_weights" ["weights","bottom"] ER:=KL T
 refine T.xP.eF (λ_ _ _ _ _ _ us hl=>match us,hl with | [_],_=>rfl) λf fd F=>F.FP o8 (λvs H Q E h=>?_) (λbV A outer s H vs Q E hr h=>?_)
 ·obtain⟨_,_,rfl,_⟩:=h;rfl
 ·refine(?_:let G_:Prop:=_;G_)
  intro G_
  obtain⟨v,ps,rfl,rp,hz,hb,hw,kE,kQ⟩:=h
  dsimp only[G_]
  have nd:=o8.nd
  have AZ:A.handled=none:=hr.hd
  refine⟨_,(ai (aK (i:=1) nd rfl (Or.inl rfl) mm)
  (ai (cB PassesOwn.leaving rfl (bH (K:=K) (pv 0)) (dQ (K:=K) (n:=2) rfl (bw (aT (i:=2) nd rfl (Or.inl rfl)) (bw (aT (i:=3) nd rfl (Or.inl rfl)) dP))) (ai (bG (aM vp (pv 3) ae (aY _)) (ar (gO rfl T.k_NoTable T.x_NoTable AZ (aa bc ag (se rfl)) (he:=se rfl) (hpl:=na rfl)))
   bg)
  (ar (bG (aM iC (pv 3) ae (aY _)) (ar (pL (eX hr) (pv 1) (pv 2) (aB bf (BF (eX hr) (pv 1) (pv 2) ae (by first | exact⟨rfl,rfl,rfl⟩ | constructor <;>rfl)) (pv 3)) rfl))
   bg))))
  (ai (bG (aM cg (bx Ap (by rfl) T.z_len aaB (aa (pv 1) ag (se rfl)) (he:=se rfl) (hpl:=na rfl)) ae (aY _)) (ar (gO rfl T.k_NoTable T.x_NoTable AZ (aa bc ag (se rfl)) (he:=se rfl) (hpl:=na rfl)))
   bg)
  (ar (aP (aW lR (hr.mono (by decide)) rfl aF.pass (aa (pv 1) (aa (xK rfl (by rfl) T.z_sum (pv 1) (he:=se rfl)) ag (se rfl)) (se rfl)) (he:=se rfl) (hpl:=na rfl))))))),?_⟩
  refine(?_:let cm:TS:=_;let cu:TS:=_;let cw:TS:=_;let dZ:TS:=_;tSeq cm (tSeq cu (tSeq cw dZ)) _ _ _)
  intro cm cu cw dZ
  simp_all only[ER,tRaise]
  intro d Jp
  refine(?_:let G_:Prop:=_;G_)
  intro G_
  obtain⟨a,xs,rfl,ha,rl⟩:=bq.mp rp
  dsimp only[G_]
  have n1:=rl.length
  rw[aac] at n1
  have q1:∀o,bL K (upd H d o) a xs:=λo=>bL.of (ao Jp _ _ ha)
  refine⟨_,rfl,⟨_,q1 _⟩,bX (src_list (Ok:=λH'=>∃o,H'=upd H d o) (λH' ⟨o,e⟩=>by rw[e];exact q1 o))
   (λi σ H'=>H'=upd H d (.dK (enc (Nm.lF (ps.take i))))/\(∀p∈ps.take i,0<=p.2)/\∃z1 z2,σ=[some (.ref a),some (.ref d),z1,z2])
   ⟨by rw[List.take_zero];rfl,by simp,_,_,rfl⟩ (λ_ _ _ _ h=>⟨_,h.1⟩) ?_ ?_⟩
  ·intro i x σ H' xb hi fK fj
   refine(?_:let G_:Prop:=_;G_)
   intro G_
   obtain⟨rfl,nn,z1,z2,rfl⟩:=fK
   obtain⟨rfl,hx⟩:=fj
   obtain⟨dd,ed,rd⟩:=rl.get hx
   rw[aad] at ed
   obtain⟨p,ep,rfl⟩:=Option.map_eq_some_iff.mp ed
   obtain⟨q,rfl,hq⟩:=dI.mp rd
   dsimp only[G_]
   have tk:ps.take (i+1)=ps.take i++ [p]:=by rw[aaG,ep];rfl
   refine⟨q,_,rfl,lg.of (ao Jp _ _ hq),rfl,?_⟩
   simp_all only[tRaise]
   rw[tk,Nm.BV]
   refine jR (λc=>?_) (λc=>?_)
   ·exact⟨by decide,kE (.inl ⟨p,aam ep,c⟩) _ (ao Jp)⟩
   ·have VC:∀r∈ps.take i++ [p],0<=r.2:=λr hr=>by
     rcases List.mem_append.mp hr with h | h
     ·exact nn r h
     ·have:r=p:=by simpa using h
      subst this
      omega
    refine jR (λc2=>?_) (λc2=>?_)
    ·refine(?_:let G_:Prop:=_;G_)
     intro G_
     obtain⟨o,ho,eo⟩:=Aw (H:=upd H d (.dK (enc (Nm.lF (ps.take i))))) p.1 (.inl aq)
     dsimp only[G_]
     refine⟨.inl ⟨_,.inl aq⟩,o,ho,?_⟩
     rw[eo]
     simp_all only[]
     refine⟨_,BR _ _ aq (Nm.nQ _) ?_,?_,VC,?_⟩
     ·have:=Nm.zg (ps.take i)
      rw[aaU] at this
      rw[sizeLine_eq]
      omega
     ·rw[yO,if_pos c2]
      rfl
     ·exact⟨_,rfl⟩
    ·refine⟨by rw[if_neg c2],VC,?_⟩
     exact⟨_,rfl⟩
  ·intro σ H' dk
   refine(?_:let G_:Prop:=_;G_)
   intro G_
   obtain⟨rfl,nn,z1,z2,rfl⟩:=dk
   dsimp only[G_]
   rw[aau (by omega)] at nn ⊢
   simp_all only[tRaise,ER]
   have el:(enc (Nm.lF ps)).length=(Nm.lF ps).length:=uy _
   refine⟨_,aq,jR (λz=>⟨by decide,kE (.inr ?_) _ (ao Jp)⟩) (λz=>?_)⟩
   ·exact Nm.zh.mp (List.eq_nil_of_length_eq_zero (by omega))
   ·have np:Nm.pos ps≠[]:=λe=>by
     have:=Nm.zh.mpr e
     exact z (by rw[el,this];rfl)
    have nb:¬Nm.bad ps:=λb=>by
     rcases b with ⟨p,hp,c⟩ | c
     ·have:=nn p hp
      omega
     ·exact np c
    have T0:=Nm.Ew (show 0< (Nm.lF ps).length by omega) (Nm.nQ ps) (Nm.EC ps)
    have T1:=Nm.qr (c:=10^12) (by decide) hb
    rw[<-Nm.ED] at T1
    have lw:=Nm.zg ps
    have ev:List.map (λx:Key×V=>x.2) (enc (Nm.lF ps))=List.map V.int ((Nm.lF ps).map (·.2)):=by
     unfold enc
     rw[aaJ,aaJ]
     rfl
    refine⟨_,aq,_,ev,_,aq,Nm.nQ ps,by omega,?_,?_,λp H' s' C7 r'=>?_⟩
    ·show Nm.ql (Nm.lF ps)≠0
     omega
    ·show Bt 5000 (Nm.ql (Nm.lF ps))
     exact Bt.of (10^16) (by omega) (by omega)
    ·exact kQ nb p H' ((ao Jp).trans s') (none_of (ao Jp) C7) r'
theorem wF:aV ["base","exponent","product","turn"] ["base","exponent"] (aj (top 18)):=⟨rfl,rfl,rfl,by decide +kernel,rfl,by decide +kernel,by decide +kernel⟩
theorem KO (T:Txt K mg aG aH aA aL af au):cL P w K mg base (bC P w) 1 "power" ["base","exponent"] HJ:=by
 refine T.EO.eF (λ_ _ _ _ _ _ us hl=>match us,hl with | [_,_],_=>rfl) λf fd F=>F.fR wF (λvs H Q E h=>?_) (λbV A outer s H vs Q E hr h=>?_)
 ·obtain⟨_,_,rfl,_⟩:=h;rfl
 ·refine(?_:let G_:Prop:=_;G_)
  intro G_
  obtain⟨b,e,rfl,be,e10,hb,kk⟩:=h
  dsimp only[G_]
  have nd:=wF.nd
  refine⟨_,(ai (aK (i:=2) nd rfl (Or.inl rfl) ae)
  (ai (cB PassesOwn.never rfl (cV rfl T.z_range (aa (pv 1) ag (se rfl))) (aT (i:=3) nd rfl (Or.inl rfl)) (ai (bG (aM iC (pv 2) (mB rfl T.c_MOST_BOTTOM) (aY _)) (ar Bk)
   bg)
  (ar (aK (i:=2) nd rfl (Or.inl rfl) (aB bM (pv 2) (pv 0))))))
  (ar (aP (pv 2))))),?_⟩
  refine(?_:let cm:TS:=_;let cu:TS:=_;let cw:TS:=_;tSeq cm (tSeq cu cw) _ _ _)
  intro cm cu cw
  have sl:=sizeLine_eq
  simp_all only[]
  refine⟨by omega,by omega,bX (src_range (Ok:=λ_=>True)) (λi σ H'=>H=H'/\∃z,σ=[some (.int (b:Int)),some (.int (e:Int)),some (.int ((b^i:Nat):Int)),z]) ⟨rfl,_,rfl⟩ (λ_ _ _ _ _=>trivial) ?_ ?_⟩
  ·intro i x σ H' xb hi fK fj
   refine(?_:let G_:Prop:=_;G_)
   intro G_
   obtain⟨rfl,z,rfl⟩:=fK
   obtain⟨rfl,rfl⟩:=fj
   dsimp only[G_]
   have b1:1<=b:=by omega
   have le:b^i<=b^e:=Nat.pow_le_pow_right b1 (by omega)
   simp_all only[]
   rw[if_neg (by omega)]
   refine⟨cW (by omega) (by omega),?_,_,rfl⟩
   rw[Nat.pow_succ,Int.natCast_mul]
  ·intro σ H' dk
   refine(?_:let G_:Prop:=_;G_)
   intro G_
   obtain⟨rfl,z,rfl⟩:=dk
   dsimp only[G_]
   rw[aa1]
   simp_all only[]
   exact kk
theorem kI:aV ["part"] ["part"] (aj (top 19)):=⟨rfl,rfl,rfl,by decide +kernel,rfl,by decide +kernel,by decide +kernel⟩
theorem C8 (T:Txt K mg aG aH aA aL af au):cL P w K mg base (bC P w) 1 "most_faces" ["part"] Cr:=by
 refine T.uB.eF (λ_ _ _ _ _ _ us hl=>match us,hl with | [_],_=>rfl) λf fd F=>F.fR kI (λvs H Q E h=>?_) (λbV A outer s H vs Q E hr h=>?_)
 ·obtain⟨_,_,rfl,_⟩:=h;rfl
 ·refine(?_:let G_:Prop:=_;G_)
  intro G_
  obtain⟨q,p,rfl,hq,kk⟩:=h
  dsimp only[G_]
  have nd:=kI.nd
  refine⟨_,(ai (bG (aM cg (aE av (pv 0) ae (λ_ _=>rfl)) bc (aY _)) (ar (aP ae))
   bg)
  (ai (bG (aM cg (aE av (pv 0) ae (λ_ _=>rfl)) bc (aY _)) (ar (aP (iS (aM iC (aE av (pv 0) ae (λ_ _=>rfl)) ae (aY _)) ae ae)))
   bg)
  (ai (bG (aM cg (aE av (pv 0) ae (λ_ _=>rfl)) bc (aY _)) (ar (aP (aB bf (bx (sU rfl) (by rfl) T.z_max rfl (aa (aE av (pv 0) ae (λ_ _=>rfl)) (aa ae ag (se rfl)) (se rfl)) (he:=se rfl) (hpl:=na rfl)) ae)))
   bg)
  (ar (aP (aE av (pv 0) (oR iV ae) (λ_ _=>rfl))))))),?_⟩
  refine(?_:let cm:TS:=_;let cu:TS:=_;let cw:TS:=_;let dZ:TS:=_;tSeq cm (tSeq cu (tSeq cw dZ)) _ _ _)
  intro cm cu cw dZ
  cases p with
  | num n=>
   simp only[qC] at hq
   simp_all only[hq]
   exact kk
  | gJ m s=>
   simp only[qC] at hq
   simp_all only[hq]
   rw[if_neg (by decide +kernel),if_neg (by decide +kernel),if_neg (by decide +kernel)]
   exact⟨_,rfl,kk⟩
  | again n s=>
   simp only[qC] at hq
   simp_all only[hq]
   rw[if_neg (by decide +kernel)]
   have e:DE (.again n s)=if 0<n then 2 else 1:=rfl
   rw[e] at kk
   by_cases c:0<n
   ·rw[if_pos (by omega)]
    rw[if_pos c] at kk
    exact kk
   ·rw[if_neg (by omega)]
    rw[if_neg c] at kk
    exact kk
theorem je:aV ["part"] ["part"] (aj (top 20)):=⟨rfl,rfl,rfl,by decide +kernel,rfl,by decide +kernel,by decide +kernel⟩
theorem C9 (T:Txt K mg aG aH aA aL af au):cL P w K mg base (bC P w) 2 "part_bottom" ["part"] vZ:=by
 have Fl:cL P w K mg base (bC P w) 1 "power" ["base","exponent"] HJ:=KO T
 have eC:cL P w K mg base (bC P w) 1 "most_faces" ["part"] Cr:=C8 T
 refine T.sg.eF (λ_ _ _ _ _ _ us hl=>match us,hl with | [_],_=>rfl) λf fd F=>F.fR je (λvs H Q E h=>?_) (λbV A outer s H vs Q E hr h=>?_)
 ·obtain⟨_,_,rfl,_⟩:=h;rfl
 ·refine(?_:let G_:Prop:=_;G_)
  intro G_
  obtain⟨q,p,rfl,hq,g,hb,kk⟩:=h
  dsimp only[G_]
  have nd:=je.nd
  refine⟨_,(ar (aP (aW Fl (hr.mono (by decide)) rfl aF.pass (aa (aE av (pv 0) (oR iV ae) (λ_ _=>rfl)) (aa (aW eC (hr.mono (by decide)) rfl aF.pass (aa (pv 0) ag (se rfl)) (he:=se rfl) (hpl:=na rfl)) ag (se rfl)) (se rfl)) (he:=se rfl) (hpl:=na rfl)))),?_⟩
  simp_all only[HJ,Cr]
  refine⟨_,hq,_,Cq p,p,hq,lst p,rfl,DE p,rfl,?_,?_,?_,?_⟩
  ·cases p with
   | num n=>exact .inr rfl
   | _=>exact .inl g.1
  ·have:=qD g;omega
  ·have:lst p^DE p=bot p:=by cases p <;>rfl
   rw[this];exact hb
  ·have:lst p^DE p=bot p:=by cases p <;>rfl
   rw[this];exact kk
theorem kJ:aV ["part","sides","low"] ["part"] (aj (top 21)):=⟨rfl,rfl,rfl,by decide +kernel,rfl,by decide +kernel,by decide +kernel⟩
theorem KP (T:Txt K mg aG aH aA aL af au):cL P w K mg base (bC P w) 3 "part_count" ["part"] HK:=by
 have eC:cL P w K mg base (bC P w) 1 "most_faces" ["part"] Cr:=C8 T
 have dO:cL P w K mg base (bC P w) 2 "part_bottom" ["part"] vZ:=C9 T
 refine T.uC.eF (λ_ _ _ _ _ _ us hl=>match us,hl with | [_],_=>rfl) λf fd F=>F.fR kJ (λvs H Q E h=>?_) (λbV A outer s H vs Q E hr h=>?_)
 ·obtain⟨_,_,rfl,_⟩:=h;rfl
 ·refine(?_:let G_:Prop:=_;G_)
  intro G_
  obtain⟨q,p,rfl,hq,g,hb,kk⟩:=h
  dsimp only[G_]
  have nd:=kJ.nd
  refine⟨_,(ai (aK (i:=1) nd rfl (Or.inl rfl) (aE av (pv 0) (oR iV ae) (λ_ _=>rfl)))
  (ai (bG (aM cg (aE av (pv 0) ae (λ_ _=>rfl)) bc (aY _)) (ai (aK (i:=2) nd rfl (Or.inl rfl) (bx (sU rfl) (by rfl) T.z_max rfl (aa (bx (sV rfl) (by rfl) T.z_min rfl (aa (aE av (pv 0) ae (λ_ _=>rfl)) (aa (pv 1) ag (se rfl)) (se rfl)) (he:=se rfl) (hpl:=na rfl)) (aa ae ag (se rfl)) (se rfl)) (he:=se rfl) (hpl:=na rfl)))
  (ar (aP (aB fe (aB bf (aB bM (pv 2) (pv 1)) (pv 1)) (pv 2)))))
   bg)
  (ai (bG (aM cg (aE av (pv 0) ae (λ_ _=>rfl)) bc (aY _)) (ar (aP (aB bf (aB bM (aW eC (hr.mono (by decide)) rfl aF.pass (aa (pv 0) ag (se rfl)) (he:=se rfl) (hpl:=na rfl)) (aB fe (pv 1) ae)) ae)))
   bg)
  (ar (aP (aW dO (hr.mono (by decide)) rfl aF.pass (aa (pv 0) ag (se rfl)) (he:=se rfl) (hpl:=na rfl))))))),?_⟩
  refine(?_:let cm:TS:=_;let cu:TS:=_;let cw:TS:=_;let dZ:TS:=_;tSeq cm (tSeq cu (tSeq cw dZ)) _ _ _)
  intro cm cu cw dZ
  cases p with
  | num n=>
   simp only[qC] at hq
   simp_all only[hq,vZ]
   refine⟨_,rfl,?_⟩
   rw[if_neg (by decide +kernel),if_neg (by decide +kernel)]
   exact⟨.num n,rfl,g,hb,kk⟩
  | gJ m s=>
   simp only[qC] at hq
   simp_all only[hq,vZ]
   refine⟨_,rfl,?_⟩
   rw[if_neg (by decide +kernel),if_neg (by decide +kernel)]
   exact⟨.gJ m s,rfl,g,hb,kk⟩
  | again n s=>
   simp only[qC] at hq
   simp_all only[hq]
   refine⟨_,rfl,?_⟩
   simp_all only[]
   have e:(if (0:Int) >(if (s:Int)< (n:Int) then (s:Int) else (n:Int)) then (0:Int) else (if (s:Int)< (n:Int) then (s:Int) else (n:Int)))=((min n s:Nat):Int):=by
    by_cases c:(s:Int)< (n:Int)
    ·rw[if_pos c,if_neg (by omega),Nat.min_eq_right (by omega)]
    ·rw[if_neg c,if_neg (by omega),Nat.min_eq_left (by omega)]
   have M6:=g.2.1
   rw[e]
   refine⟨iY (by omega) (by omega),?_⟩
   have e2:((min n s:Nat):Int)* (s:Int)+ (s:Int) - ((min n s:Nat):Int)=((min n s*s+ (s - min n s):Nat):Int):=by
    rw[Int.natCast_add,Int.natCast_mul,Int.natCast_sub (Nat.min_le_right n s)]
    omega
   rw[e2]
   exact kk
theorem kK:aV ["pool","count","bottom","part"] ["pool"] (aj (top 22)):=⟨rfl,rfl,rfl,by decide +kernel,rfl,by decide +kernel,by decide +kernel⟩
theorem KQ (T:Txt K mg aG aH aA aL af au):cL P w K mg base (bC P w) 4 "check_size" ["pool"] HL:=by
 have uV:cL P w K mg base (bC P w) 3 "part_count" ["part"] HK:=KP T
 have dO:cL P w K mg base (bC P w) 2 "part_bottom" ["part"] vZ:=C9 T
 refine T.uD.eF (λ_ _ _ _ _ _ us hl=>match us,hl with | [_],_=>rfl) λf fd F=>F.FP kK (λvs H Q E h=>?_) (λbV A outer s H vs Q E hr h=>?_)
 ·obtain⟨_,_,rfl,_⟩:=h;rfl
 ·refine(?_:let G_:Prop:=_;G_)
  intro G_
  obtain⟨l,ps,rfl,hp,g,kk⟩:=h
  dsimp only[G_]
  have nd:=kK.nd
  have AZ:A.handled=none:=hr.hd
  refine⟨_,(ai (aK (i:=1) nd rfl (Or.inl rfl) ae)
  (ai (aK (i:=2) nd rfl (Or.inl rfl) ae)
  (ai (cB PassesOwn.leaving rfl (bH (K:=K) (pv 0)) (aT (i:=3) nd rfl (Or.inl rfl)) (ai (aK (i:=1) nd rfl (Or.inl rfl) (aB bM (pv 1) (aW uV (hr.mono (by decide)) rfl aF.pass (aa (pv 3) ag (se rfl)) (he:=se rfl) (hpl:=na rfl))))
  (ar (aK (i:=2) nd rfl (Or.inl rfl) (aB bM (pv 2) (aW dO (hr.mono (by decide)) rfl aF.pass (aa (pv 3) ag (se rfl)) (he:=se rfl) (hpl:=na rfl)))))))
  (ar (bG (PW.pt (pw_or (aM iC (pv 1) (mB rfl T.c_MOST_THROWS) (aY _)) (pw_or1 (aM iC (pv 2) (mB rfl T.c_MOST_BOTTOM) (aY _))))) (ar (gO rfl T.k_TooMany T.x_TooMany AZ (aa bc ag (se rfl)) (he:=se rfl) (hpl:=na rfl)))
   bg))))),?_⟩
  refine(?_:let cm:TS:=_;let cu:TS:=_;let cw:TS:=_;let dZ:TS:=_;tSeq cm (tSeq cu (tSeq cw dZ)) _ _ _)
  intro cm cu cw dZ
  refine(?_:let G_:Prop:=_;G_)
  intro G_
  obtain⟨xs,hl,al⟩:=hp
  dsimp only[G_]
  have lx:=al.length
  simp_all only[]
  refine⟨⟨_,bL.of hl⟩,bX (src_list (Ok:=λH'=>H=H') (λH' e=>by subst e;exact bL.of hl)) (λi σ H'=>H=H'/\∃z,σ=[some (.ref l),some (.int ((lL ((ps.take i).map cnt):Nat):Int)),some (.int ((lL ((ps.take i).map bot):Nat):Int)),z]) ⟨rfl,_,rfl⟩ (λ_ _ _ _ h=>h.1) ?_ ?_⟩
  ·intro i x σ H' xb hi fK fj
   refine(?_:let G_:Prop:=_;G_)
   intro G_
   obtain⟨rfl,z,rfl⟩:=fK
   obtain⟨rfl,ex⟩:=fj
   obtain⟨p,ep,q,rfl,hq⟩:=al.get ex
   dsimp only[G_]
   obtain⟨Fm,zV⟩:=List.getElem?_eq_some_iff.mp ep
   have hm:p∈ps:=by rw[<-zV];exact List.getElem_mem Fm
   refine(?_:let G_:Prop:=_;G_)
   intro G_
   obtain⟨gp,c1,b1⟩:=nX g hm
   dsimp only[G_]
   have c0:=nV g i
   have b0:=nW g i
   simp_all only[HK,vZ]
   refine⟨p,hq,gp,b1,cW (by omega) (by omega),p,hq,gp,b1,cW (by omega) (by omega),?_,?_,_,rfl⟩
   ·rw[take_snoc Fm,zV,aao,aae,aaC,gQ,Int.natCast_mul]
   ·rw[take_snoc Fm,zV,aao,aae,aaC,gQ,Int.natCast_mul]
  ·intro σ H' dk
   refine(?_:let G_:Prop:=_;G_)
   intro G_
   obtain⟨rfl,z,rfl⟩:=dk
   dsimp only[G_]
   rw[lx,aau (aaf _)]
   have c0:=g.2.1
   have b0:=g.2.2
   simp_all only[]
   rw[if_neg (by omega),if_neg (by omega)]
   exact kk
theorem kL:aV ["dice","sides","found","turn","longer","faces"] ["dice","sides"] (aj (top 23)):=⟨rfl,rfl,rfl,by decide +kernel,rfl,by decide +kernel,by decide +kernel⟩
theorem KR (T:Txt K mg aG aH aA aL af au):cL P w K mg base (bC P w) 1 "dice_faces" ["dice","sides"] HM:=by
 refine T.uE.eF (λ_ _ _ _ _ _ us hl=>match us,hl with | [_,_],_=>rfl) λf fd F=>F.fR kL (λvs H Q E h=>?_) (λbV A outer s H vs Q E hr h=>?_)
 ·obtain⟨_,_,rfl,_⟩:=h;rfl
 ·refine(?_:let G_:Prop:=_;G_)
  intro G_
  obtain⟨d,s',rfl,s1,M6,d6,hd,kk⟩:=h
  dsimp only[G_]
  have nd:=kL.nd
  refine⟨_,(ai (aK (i:=2) nd rfl (Or.inl rfl) (bJ (aa (bJ ag) ag (se rfl))))
  (ai (cB PassesOwn.never rfl (cV rfl T.z_range (aa (pv 0) ag (se rfl))) (aT (i:=3) nd rfl (Or.inl rfl)) (ai (aK (i:=4) nd rfl (Or.inl rfl) (bJ ag))
  (ai (cB PassesOwn.never rfl (bH (K:=K) (pv 2)) (aT (i:=5) nd rfl (Or.inr rfl)) (ar (bZ (eE aax PySem.F.slot_list_extend PySem.F.type_list_extend nI.r (pv 4) (aa (dA rfl (N:=["dice","sides","found","turn","longer","faces"]) (so:=aj (top 23)) (N':=["face","faces"]) (k:=1) (fr:=[5]) rfl rfl ⟨rfl,by decide +kernel,by decide +kernel,by decide +kernel,rfl,by decide +kernel,by decide +kernel⟩ (nF rfl T.z_range (aa ae (aa (aB bf (pv 1) ae) ag (se rfl)) (se rfl))) (λ_ _ _ _ _=>(aT (i:=0) (show(["face","faces"]:List Str).Nodup by decide +kernel) rfl (Or.inl rfl))) (λ_ _ _ _ _=>dq)
   (λ_ _ _ _ _=>(aB xD (pv 1) (bJ (aa (pv 0) ag (se rfl)))))) ag (se rfl))))))
  (ar (aK (i:=2) nd rfl (Or.inl rfl) (pv 4))))))
  (ar (aP (pv 2))))),?_⟩
  refine(?_:let cm:TS:=_;let cu:TS:=_;let cw:TS:=_;tSeq cm (tSeq cu cw) _ _ _)
  intro cm cu cw
  have sl:=sizeLine_eq
  simp_all only[]
  refine⟨aah _,λe0 m0=>⟨by decide,λl0 n0=>⟨by omega,by omega,?_⟩⟩⟩
  have s0:aw H (upd (upd H e0 (.lst [])) l0 (.lst [.ref e0])):=(ao m0).trans (ao n0)
  refine bX (src_range (Ok:=λ_=>True)) (λi σ H'=>aw H H'/\∃l xs z z' M7,H' l=some (.lst xs)/\Al (Fa H') (ES s' i) xs/\σ=[some (.int (d:Int)),some (.int (s':Int)),some (.ref l),z,z',M7]) ?_ (λ_ _ _ _ _=>trivial) ?_ ?_
  ·exact⟨s0,l0,_,_,_,_,aq,.one ⟨e0,rfl,ao n0 _ _ aq⟩,rfl⟩
  ·intro i x σ H' xb hi fK fj
   refine(?_:let G_:Prop:=_;G_)
   intro G_
   obtain⟨sm,l,xs,z,z',M7,hl,al,rfl⟩:=fK
   obtain⟨rfl,rfl⟩:=fj
   dsimp only[G_]
   have lx:=al.length
   rw[pO] at lx
   have hle:s'^ (i+1)<=1296:=aal (Nat.pow_le_pow_right s1 (by omega)) hd
   have X2:s'^i<=1296:=aal (Nat.pow_le_pow_right s1 (by omega)) hd
   change tSeq _ _ _ _ _
   refine cQ (λσ' H1=>aw xb H1/\∃m,xb m=none/\H1 m=some (.lst [])/\σ'=[some (.int (d:Int)),some (.int (s':Int)),some (.ref l),some (.int (0+i)),some (.ref m),M7]) ?_ (λN hN=>?_)
   case refine_2=>
    simp_all only[]
    exact⟨aah _,λm nm=>hN _ _ ⟨ao nm,m,nm,aq,rfl⟩⟩
   intro _ H1 dk
   refine(?_:let G_:Prop:=_;G_)
   intro G_
   obtain⟨DL,m,nm,hm,rfl⟩:=dk
   dsimp only[G_]
   change tSeq _ _ _ _ _
   refine cQ (λσ' H2=>aw xb H2/\∃ys,H2 m=some (.lst ys)/\Al (Fa H2) (ES s' (i+1)) ys/\∃z,σ'=[some (.int (d:Int)),some (.int (s':Int)),some (.ref l),some (.int (0+i)),some (.ref m),z]) ?_ (λN hN=>?_)
   case refine_2=>
    simp_all only[]
    refine⟨⟨_,bL.of (DL _ _ hl)⟩,bX (src_list (Ok:=aw xb) (λH2 s2=>bL.of (s2 _ _ hl)))
     (λj σ H2=>aw xb H2/\∃ys z,H2 m=some (.lst ys)/\ys.length=j*s'/\Al (Fa (c6 H2 m)) (((ES s' i).take j).flatMap λf=>(List.range s').map λi:Nat=>f++ [((i:Nat):Int)+1]) ys/\σ=[some (.int (d:Int)),some (.int (s':Int)),some (.ref l),some (.int (0+i)),some (.ref m),z])
     ⟨DL,[],_,hm,by simp,trivial,rfl⟩ (λ_ _ _ _ h=>h.1) ?_ ?_⟩
    ·intro j x σ H2 H3 hj fK fj
     refine(?_:let G_:Prop:=_;G_)
     intro G_
     obtain⟨wG,ys,z,vh,ly,ay,rfl⟩:=fK
     obtain⟨rfl,ex⟩:=fj
     obtain⟨f,ef,q,rfl,hq⟩:=al.get ex
     dsimp only[G_]
     obtain⟨X3,X4⟩:=List.getElem?_eq_some_iff.mp ef
     have fl:=(uN s' i f (by rw[<-X4];exact List.getElem_mem X3)).1
     have Hy:=wG _ _ hq
     simp_all only[pK]
     refine⟨.inl ⟨rfl,_,bL.of vh⟩,by omega,by omega,by omega,by omega,?_⟩
     rw[show((s':Int)+1 - 1).toNat=s' by omega]
     refine comp_map src_range (λ_ _ _ _ h=>by rw[h.1];exact aw.refl _) (by omega) (λk y H4=>Fa (c6 H4 m) (f++ [((k:Nat):Int)+1]) y) (λk y H4 H5 s5 h=>h.mono (bI s5)) ?_ ?_
     ·rintro k x w0 H4 H5 Q2 hk s4 ⟨rfl,rfl⟩ kq
      simp_all only[Ee]
      refine⟨by decide,λa1 n1=>⟨_,ao n1 _ _ (s4 _ _ Hy),_,aq,by rw[aac];simp only[aaq,aa0];omega,λa2 n2=>kq _ _ ((ao n1).trans (ao n2)) ⟨a2,rfl,?_⟩⟩⟩
      have ne:a2≠m:=λe=>by
       subst e
       rw[ao n1 _ _ (s4 _ _ vh)] at n2
       cases n2
      rw[bN ne,aq,aao,Int.add_comm]
      rfl
     ·intro zs H4 s4 lz hz D n1 n2
      have Oi:=s4 _ _ vh
      have jm:j*s'<=s'^ (i+1):=by rw[Nat.pow_succ];exact Nat.mul_le_mul_right _ (by omega)
      have X5:∀{k:Nat},k=j*s'+s'->k<=sizeLine:=λe=>by omega
      refine⟨_,ao n2 _ _ Oi,_,aq,X5 (by rw[ly,lz]),?_⟩
      have s5:aw H3 (upd H4 D (.lst zs)):=s4.trans (ao n2)
      refine⟨ck (wG.trans s5) nm,_,aq,by rw[aak,ly,lz,Nat.succ_mul],?_,_,rfl⟩
      rw[pQ,aaG,ef,List.flatMap_append]
      refine Al.append (ay.imp λ_ _ h=>h.mono (bI s5)) ?_
      simp only[Option.toList,List.flatMap_cons,List.flatMap_nil,aaP]
      refine Al.of (by rw[aac,aaE];exact lz) λk y g e1 e2=>?_
      rw[aad] at e2
      refine(?_:let G_:Prop:=_;G_)
      intro G_
      obtain⟨k',ek,rfl⟩:=Option.map_eq_some_iff.mp e2
      dsimp only[G_]
      obtain⟨X6,KS⟩:=List.getElem?_eq_some_iff.mp ek
      rw[List.getElem_range] at KS
      subst KS
      exact(hz _ _ e1).mono (bI (ao n2))
    ·intro σ H2 dk
     refine(?_:let G_:Prop:=_;G_)
     intro G_
     obtain⟨wG,ys,z,vh,ly,ay,rfl⟩:=dk
     dsimp only[G_]
     refine hN _ _ ⟨wG,ys,vh,?_,_,rfl⟩
     rw[lx,<-pO s' i,aau (aaf _)] at ay
     exact ay.imp λ_ _ h=>h.mono bD
   intro _ H2 dk
   refine(?_:let G_:Prop:=_;G_)
   intro G_
   obtain⟨wG,ys,vh,ay,z,rfl⟩:=dk
   dsimp only[G_]
   simp_all only[]
   first | exact⟨sm.trans wG,m,_,vh,ay,rfl,⟨_,rfl⟩,⟨_,rfl⟩,⟨_,rfl⟩⟩ | exact⟨sm.trans wG,m,_,vh,ay,rfl,_,_,rfl⟩ | exact⟨sm.trans wG,m,_,vh,ay,rfl,⟨_,rfl⟩,_,rfl⟩ | exact⟨sm.trans wG,m,_,vh,ay,rfl,_,rfl⟩
  ·intro σ H' dk
   refine(?_:let G_:Prop:=_;G_)
   intro G_
   obtain⟨sm,l,xs,z,z',M7,hl,al,rfl⟩:=dk
   dsimp only[G_]
   rw[aa1] at al
   simp_all only[]
   exact kk _ _ _ sm hl al
theorem jf:aV ["low","sides","found","face"] ["low","sides"] (aj (top 24)):=⟨rfl,rfl,rfl,by decide +kernel,rfl,by decide +kernel,by decide +kernel⟩
theorem KU (T:Txt K mg aG aH aA aL af au):cL P w K mg base (bC P w) 1 "again_faces" ["low","sides"] HN:=by
 refine T.sh.eF (λ_ _ _ _ _ _ us hl=>match us,hl with | [_,_],_=>rfl) λf fd F=>F.fR jf (λvs H Q E h=>?_) (λbV A outer s H vs Q E hr h=>?_)
 ·obtain⟨_,_,rfl,_⟩:=h;rfl
 ·refine(?_:let G_:Prop:=_;G_)
  intro G_
  obtain⟨n,s',rfl,M6,kk⟩:=h
  dsimp only[G_]
  have nd:=jf.nd
  refine⟨_,(ai (aK (i:=2) nd rfl (Or.inl rfl) (bJ ag))
  (ai (cB PassesOwn.never rfl (nF rfl T.z_range (aa ae (aa (aB bf (pv 1) ae) ag (se rfl)) (se rfl))) (aT (i:=3) nd rfl (Or.inr rfl)) (ar (bG (aM Bo (pv 3) (pv 0) (aY _)) (ar (bZ (eE aax PySem.F.slot_list_extend PySem.F.type_list_extend nI.r (pv 2) (aa (dA rfl (N:=["low","sides","found","face"]) (so:=aj (top 24)) (N':=["second","face"]) (k:=1) (fr:=[3]) rfl rfl ⟨rfl,by decide +kernel,by decide +kernel,by decide +kernel,rfl,by decide +kernel,by decide +kernel⟩ (nF rfl T.z_range (aa ae (aa (aB bf (pv 1) ae) ag (se rfl)) (se rfl))) (λ_ _ _ _ _=>(aT (i:=0) (show(["second","face"]:List Str).Nodup by decide +kernel) rfl (Or.inl rfl))) (λ_ _ _ _ _=>dq)
   (λ_ _ _ _ _=>(bJ (aa (pv 1) (aa (pv 0) ag (se rfl)) (se rfl))))) ag (se rfl)))))
   (ar (bZ (eE aax aaK aaL cI.r (pv 2) (aa (bJ (aa (pv 3) ag (se rfl))) ag (se rfl))))))))
  (ar (aP (pv 2))))),?_⟩
  refine(?_:let cm:TS:=_;let cu:TS:=_;let cw:TS:=_;tSeq cm (tSeq cu cw) _ _ _)
  intro cm cu cw
  have sl:=sizeLine_eq
  simp_all only[]
  refine⟨aah _,λm nm=>⟨by omega,by omega,by omega,by omega,?_⟩⟩
  rw[show((s':Int)+1 - 1).toNat=s' by omega]
  refine bX (src_range (Ok:=λ_=>True)) (λi σ H'=>aw H H'/\∃xs z,H' m=some (.lst xs)/\xs.length<=i*20/\Al (Fa (c6 H' m)) ((List.range i).flatMap λi:Nat=>if i<n then (List.range s').map λj:Nat=>[((i:Nat):Int)+1,((j:Nat):Int)+1] else [[((i:Nat):Int)+1]]) xs/\σ=[some (.int (n:Int)),some (.int (s':Int)),some (.ref m),z]) ?_ (λ_ _ _ _ _=>trivial) ?_ ?_
  ·exact⟨ao nm,_,_,aq,aah _,trivial,rfl⟩
  ·intro i x σ H1 H2 hi fK fj
   refine(?_:let G_:Prop:=_;G_)
   intro G_
   obtain⟨sm,xs,z,hm,lx,al,rfl⟩:=fK
   obtain⟨rfl,rfl⟩:=fj
   dsimp only[G_]
   change tIfS _ _ _ _ [some (.int (n:Int)),some (.int (s':Int)),some (.ref m),some (.int (1+ (i:Int)))] H2
   refine qq (λH'=>H2=H'/\i<n) (λH'=>H2=H'/\¬i<n) (λH' e=>?_) (λH' e=>?_) (λY N hY hN=>?_)
   ·obtain⟨rfl,c⟩:=e
    simp_all only[pK]
    refine⟨.inl ⟨rfl,_,bL.of hm⟩,by omega,by omega,by omega,by omega,?_⟩
    rw[show((s':Int)+1 - 1).toNat=s' by omega]
    refine comp_map src_range (λ_ _ _ _ h=>by rw[h.1];exact aw.refl _) (by omega) (λk y H4=>Fa (c6 H4 m) [((i:Nat):Int)+1,((k:Nat):Int)+1] y) (λk y H4 H5 s5 h=>h.mono (bI s5)) ?_ ?_
    ·rintro k x w0 H4 H5 Q2 hk s4 ⟨rfl,rfl⟩ kq
     simp_all only[]
     refine⟨by decide,λa1 n1=>kq _ _ (ao n1) ⟨a1,rfl,?_⟩⟩
     have ne:a1≠m:=λe=>by
      subst e
      rw[s4 _ _ hm] at n1
      cases n1
     rw[bN ne,aq,Int.add_comm,Int.add_comm 1 (k:Int)]
     rfl
    ·intro zs H4 s4 lz hz D n1 n2
     have Oi:=s4 _ _ hm
     refine⟨_,ao n2 _ _ Oi,_,aq,by omega,?_⟩
     have s5:aw H2 (upd H4 D (.lst zs)):=s4.trans (ao n2)
     refine⟨ck (sm.trans s5) nm,_,aq,by rw[aak,lz];omega,?_,_,rfl⟩
     rw[pQ,List.range_succ,List.flatMap_append]
     refine Al.append (al.imp λ_ _ h=>h.mono (bI s5)) ?_
     simp only[List.flatMap_cons,List.flatMap_nil,aaP]
     rw[if_pos c]
     refine Al.of (by rw[aac,aaE];exact lz) λk y g e1 e2=>?_
     rw[aad] at e2
     refine(?_:let G_:Prop:=_;G_)
     intro G_
     obtain⟨k',ek,rfl⟩:=Option.map_eq_some_iff.mp e2
     dsimp only[G_]
     obtain⟨X6,KS⟩:=List.getElem?_eq_some_iff.mp ek
     rw[List.getElem_range] at KS
     subst KS
     exact(hz _ _ e1).mono (bI (ao n2))
   ·obtain⟨rfl,c⟩:=e
    simp_all only[c7]
    refine⟨.inl ⟨rfl,_,bL.of hm⟩,by decide,λa1 n1=>⟨_,ao n1 _ _ hm,by omega,?_⟩⟩
    have s5:=ao (o:=.lst [V.int (1+ (i:Int))]) n1
    have ne:a1≠m:=λe=>by
     subst e
     rw[hm] at n1
     cases n1
    refine⟨ck (sm.trans s5) nm,_,aq,by rw[aak];simp only[aaq,aa0];omega,?_,_,rfl⟩
    rw[pQ,List.range_succ,List.flatMap_append]
    refine Al.append (al.imp λ_ _ h=>h.mono (bI s5)) ?_
    simp only[List.flatMap_cons,List.flatMap_nil,aaP]
    rw[if_neg c]
    refine .one ⟨a1,rfl,?_⟩
    rw[bN ne,aq,Int.add_comm]
    rfl
   ·simp_all only[]
    exact jR (λc=>hY _ ⟨rfl,by omega⟩) (λc=>hN _ ⟨rfl,by omega⟩)
  ·intro σ H' dk
   refine(?_:let G_:Prop:=_;G_)
   intro G_
   obtain⟨sm,xs,z,hm,lx,al,rfl⟩:=dk
   dsimp only[G_]
   simp_all only[]
   exact kk _ _ _ sm hm (al.imp λ_ _ h=>h.mono bD)
theorem qS:aV ["most","sides","found","ahead"] ["most","sides"] (aj (top 25)):=⟨rfl,rfl,rfl,by decide +kernel,rfl,by decide +kernel,by decide +kernel⟩
theorem KW (T:Txt K mg aG aH aA aL af au):cL P w K mg base (bC P w) 1 "burst_faces" ["most","sides"] Kz:=by
 refine T.si.eF (λ_ _ _ _ _ _ us hl=>match us,hl with | [_,_],_=>rfl) λf fd F=>F.fR qS (λvs H Q E h=>h.elim) (λbV A outer s H vs Q E hr h=>h.elim)
theorem kO:aV ["part"] ["part"] (aj (top 26)):=⟨rfl,rfl,rfl,by decide +kernel,rfl,by decide +kernel,by decide +kernel⟩
theorem KY (T:Txt K mg aG aH aA aL af au):cL P w K mg base (bC P w) 2 "part_faces" ["part"] HP:=by
 have eC:cL P w K mg base (bC P w) 1 "most_faces" ["part"] Cr:=C8 T
 have uW:cL P w K mg base (bC P w) 1 "dice_faces" ["dice","sides"] HM:=KR T
 have sE:cL P w K mg base (bC P w) 1 "again_faces" ["low","sides"] HN:=KU T
 have sG:cL P w K mg base (bC P w) 1 "burst_faces" ["most","sides"] Kz:=KW T
 refine T.uF.eF (λ_ _ _ _ _ _ us hl=>match us,hl with | [_],_=>rfl) λf fd F=>F.fR kO (λvs H Q E h=>?_) (λbV A outer s H vs Q E hr h=>?_)
 ·obtain⟨_,_,rfl,_⟩:=h;rfl
 ·refine(?_:let G_:Prop:=_;G_)
  intro G_
  obtain⟨q,p,rfl,hq,g,hc,kk⟩:=h
  dsimp only[G_]
  have nd:=kO.nd
  refine⟨_,(ai (bG (aM cg (aE av (pv 0) ae (λ_ _=>rfl)) bc (aY _)) (ar (aP (bJ (aa (bJ ag) ag (se rfl)))))
   bg)
  (ai (bG (aM cg (aE av (pv 0) ae (λ_ _=>rfl)) bc (aY _)) (ar (aP (aW sE (hr.mono (by decide)) rfl aF.pass (aa (aE av (pv 0) ae (λ_ _=>rfl)) (aa (aE av (pv 0) ae (λ_ _=>rfl)) ag (se rfl)) (se rfl)) (he:=se rfl) (hpl:=na rfl))))
   bg)
  (ai (bG (aM cg (aE av (pv 0) ae (λ_ _=>rfl)) bc (aY _)) (ar (aP (aW sG (hr.mono (by decide)) rfl aF.pass (aa (aW eC (hr.mono (by decide)) rfl aF.pass (aa (pv 0) ag (se rfl)) (he:=se rfl) (hpl:=na rfl)) (aa (aE av (pv 0) ae (λ_ _=>rfl)) ag (se rfl)) (se rfl)) (he:=se rfl) (hpl:=na rfl))))
   bg)
  (ar (aP (aW uW (hr.mono (by decide)) rfl aF.pass (aa (aE av (pv 0) (oR iV ae) (λ_ _=>rfl)) (aa (aE av (pv 0) (oR iV ae) (λ_ _=>rfl)) ag (se rfl)) (se rfl)) (he:=se rfl) (hpl:=na rfl))))))),?_⟩
  refine(?_:let cm:TS:=_;let cu:TS:=_;let cw:TS:=_;let dZ:TS:=_;tSeq cm (tSeq cu (tSeq cw dZ)) _ _ _)
  intro cm cu cw dZ
  cases p with
  | num n=>
   simp only[qC] at hq
   simp_all only[hq]
   refine⟨aah _,λe0 m0=>⟨by decide,λl0 n0=>kk _ _ _ ((ao m0).trans (ao n0)) aq (.one ⟨e0,rfl,ao n0 _ _ aq⟩)⟩⟩
  | gJ m s=>
   simp only[qC] at hq
   simp_all only[hq,HM]
   rw[if_neg (by decide +kernel),if_neg (by decide +kernel),if_neg (by decide +kernel)]
   refine⟨_,rfl,_,rfl,m,rfl,s,rfl,g.1,g.2.1,g.2.2,hc,kk⟩
  | again n s=>
   simp only[qC] at hq
   simp_all only[hq,HN]
   rw[if_neg (by decide +kernel)]
   refine⟨n,rfl,s,rfl,g.2.1,kk⟩
theorem o9:aV ["part","faces"] ["part","faces"] (aj (top 27)):=⟨rfl,rfl,rfl,by decide +kernel,rfl,by decide +kernel,by decide +kernel⟩
theorem KZ (T:Txt K mg aG aH aA aL af au):cL P w K mg base (bC P w) 1 "value_of" ["part","faces"] HQ:=by
 refine T.xQ.eF (λ_ _ _ _ _ _ us hl=>match us,hl with | [_,_],_=>rfl) λf fd F=>F.fR o9 (λvs H Q E h=>?_) (λbV A outer s H vs Q E hr h=>?_)
 ·obtain⟨_,_,_,_,rfl,_⟩:=h;rfl
 ·refine(?_:let G_:Prop:=_;G_)
  intro G_
  obtain⟨q,p,l,fs,rfl,hq,hl,g,hf,kk⟩:=h
  dsimp only[G_]
  have nd:=o9.nd
  refine⟨_,(ai (bG (aM cg (aE av (pv 0) ae (λ_ _=>rfl)) bc (aY _)) (ar (aP (aE av (pv 0) ae (λ_ _=>rfl))))
   bg)
  (ai (bG (aM cg (aE av (pv 0) ae (λ_ _=>rfl)) bc (aY _)) (ar (aP (bx (i4 (K:=K)) (by rfl) T.z_sum rfl (aa (vz (vI (K:=K)) (AG (K:=K) rfl T.z_sorted (pv 1) gN (n1:=rfl)) yV (yW (aE av (pv 0) ae (λ_ _=>rfl)))) ag (se rfl)) (he:=se rfl) (hpl:=na rfl))))
   bg)
  (ai (bG (aM cg (aE av (pv 0) ae (λ_ _=>rfl)) bc (aY _)) (ar (aP (bx (i4 (K:=K)) (by rfl) T.z_sum rfl (aa (vz (vI (K:=K)) (bx (qj (K:=K)) (by rfl) T.z_sorted rfl (aa (pv 1) ag (se rfl)) (he:=se rfl) (hpl:=na rfl)) yV (yW (aE av (pv 0) ae (λ_ _=>rfl)))) ag (se rfl)) (he:=se rfl) (hpl:=na rfl))))
   bg)
  (ai (bG (aM cg (aE av (pv 0) ae (λ_ _=>rfl)) bc (aY _)) (ar (aP (bx cM (by rfl) T.z_len aaB (aa (dA rfl (N:=["part","faces"]) (so:=aj (top 27)) (N':=["face","part"]) (k:=1) (fr:=[0]) rfl rfl ⟨rfl,by decide +kernel,by decide +kernel,by decide +kernel,rfl,by decide +kernel,by decide +kernel⟩ (bH (K:=K) (pv 1)) (λ_ _ _ _ _=>(aT (i:=0) (show(["face","part"]:List Str).Nodup by decide +kernel) rfl (Or.inl rfl))) (λ_ _ _ _ _=>(ur (aM yS (pv 0) (aE av (pv 1) ae (λ_ _=>rfl)) (aY _))))
   (λ_ _ _ _ _=>(pv 0))) ag (se rfl)) (he:=se rfl) (hpl:=na rfl))))
   bg)
  (ai (bG (aM cg (aE av (pv 0) ae (λ_ _=>rfl)) bc (aY _)) (ar (aP (aE aX (pv 1) (oR iV ae) (λ_ _=>rfl))))
   bg)
  (ar (aP (bx (i4 (K:=K)) (by rfl) T.z_sum rfl (aa (pv 1) ag (se rfl)) (he:=se rfl) (hpl:=na rfl))))))))),?_⟩
  refine(?_:let cm:TS:=_;let cu:TS:=_;let cw:TS:=_;let dZ:TS:=_;let qT:TS:=_;let tY:TS:=_;tSeq cm (tSeq cu (tSeq cw (tSeq dZ (tSeq qT tY)))) _ _ _)
  intro cm cu cw dZ qT tY
  have sl:=sizeLine_eq
  have fl:=(mH g fs hf).2
  have ml:=qD g
  cases p with
  | num n=>
   simp only[qC] at hq
   simp_all only[hq]
   exact kk _ (aw.refl _)
  | gJ m s=>
   simp only[qC] at hq
   simp_all only[hq]
   rw[if_neg (by decide +kernel),if_neg (by decide +kernel),if_neg (by decide +kernel),if_neg (by decide +kernel),if_neg (by decide +kernel)]
   exact⟨fs,bL.of hl,kk _ (aw.refl _)⟩
  | again n s=>
   simp only[qC] at hq
   simp_all only[hq]
   rw[if_neg (by decide +kernel),if_neg (by decide +kernel),if_neg (by decide +kernel),if_neg (by decide +kernel)]
   obtain⟨_,h⟩:=zo fs hf
   rcases h with ⟨x,y,rfl,_⟩ | ⟨x,rfl,_⟩
   ·exact⟨_,hl,_,rfl,kk _ (aw.refl _)⟩
   ·exact⟨_,hl,_,rfl,kk _ (aw.refl _)⟩
theorem gY:aV ["part","faces","product","face"] ["part","faces"] (aj (top 28)):=⟨rfl,rfl,rfl,by decide +kernel,rfl,by decide +kernel,by decide +kernel⟩
theorem K0 (T:Txt K mg aG aH aA aL af au):cL P w K mg base (bC P w) 1 "sides_product" ["part","faces"] HR:=by
 refine T.px.eF (λ_ _ _ _ _ _ us hl=>match us,hl with | [_,_],_=>rfl) λf fd F=>F.fR gY (λvs H Q E h=>?_) (λbV A outer s H vs Q E hr h=>?_)
 ·obtain⟨_,_,_,_,rfl,_⟩:=h;rfl
 ·refine(?_:let G_:Prop:=_;G_)
  intro G_
  obtain⟨q,p,l,fs,rfl,hq,hl,g,hf,kk⟩:=h
  dsimp only[G_]
  have nd:=gY.nd
  refine⟨_,(ai (aK (i:=2) nd rfl (Or.inl rfl) ae)
  (ai (cB PassesOwn.never rfl (bH (K:=K) (pv 1)) (aT (i:=3) nd rfl (Or.inl rfl)) (ar (aK (i:=2) nd rfl (Or.inl rfl) (aB bM (pv 2) (aE av (pv 0) (oR iV ae) (λ_ _=>rfl))))))
  (ar (aP (pv 2))))),?_⟩
  refine(?_:let cm:TS:=_;let cu:TS:=_;let cw:TS:=_;tSeq cm (tSeq cu cw) _ _ _)
  intro cm cu cw
  have fl:=(mH g fs hf).2
  have ml:=qD g
  have l99:=HH g
  have M6:=(uO g).2
  have e0:0<fs.length->lst p=sd p:=λh=>by
   cases p with
   | num n=>rw[List.mem_singleton.mp hf] at h;cases h
   | _=>rfl
  simp_all only[]
  refine⟨⟨_,bL.of hl⟩,bX (src_list (Ok:=λH'=>H=H') (λH' e=>by subst e;exact bL.of hl)) (λi σ H'=>H=H'/\∃z,σ=[some (.ref q),some (.ref l),some (.int ((sd p^i:Nat):Int)),z]) ⟨rfl,_,rfl⟩ (λ_ _ _ _ h=>h.1) ?_ ?_⟩
  ·intro i x σ H' xb hi fK fj
   refine(?_:let G_:Prop:=_;G_)
   intro G_
   obtain⟨rfl,z,rfl⟩:=fK
   obtain⟨rfl,ex⟩:=fj
   dsimp only[G_]
   rw[aac] at hi
   have le:=AN (e:=i) M6 (by omega)
   have e1:=e0 (by omega)
   simp_all only[]
   refine⟨_,hq,_,Cq p,?_⟩
   simp_all only[]
   refine⟨cW (by omega) (by omega),?_,_,rfl⟩
   rw[Nat.pow_succ,Int.natCast_mul,e1]
  ·intro σ H' dk
   refine(?_:let G_:Prop:=_;G_)
   intro G_
   obtain⟨rfl,z,rfl⟩:=dk
   dsimp only[G_]
   rw[aac]
   simp_all only[]
   exact kk
theorem jg:aV ["part"] ["part"] (aj (top 29)):=⟨rfl,rfl,rfl,by decide +kernel,rfl,by decide +kernel,by decide +kernel⟩
theorem K2 (T:Txt K mg aG aH aA aL af au):cL P w K mg base (bC P w) 3 "part_throws" ["part"] HS:=by
 have uX:cL P w K mg base (bC P w) 2 "part_faces" ["part"] HP:=KY T
 have yg:cL P w K mg base (bC P w) 1 "value_of" ["part","faces"] HQ:=KZ T
 have pF:cL P w K mg base (bC P w) 1 "sides_product" ["part","faces"] HR:=K0 T
 refine T.sj.eF (λ_ _ _ _ _ _ us hl=>match us,hl with | [_],_=>rfl) λf fd F=>F.fR jg (λvs H Q E h=>?_) (λbV A outer s H vs Q E hr h=>?_)
 ·obtain⟨_,_,rfl,_⟩:=h;rfl
 ·refine(?_:let G_:Prop:=_;G_)
  intro G_
  obtain⟨q,p,rfl,hq,g,hc,kk⟩:=h
  dsimp only[G_]
  have nd:=jg.nd
  refine⟨_,(ar (aP (dA rfl (N:=["part"]) (so:=aj (top 29)) (N':=["faces","part"]) (k:=1) (fr:=[0]) rfl rfl ⟨rfl,by decide +kernel,by decide +kernel,by decide +kernel,rfl,by decide +kernel,by decide +kernel⟩ (bH (K:=K) (aW uX (hr.mono (by decide)) rfl aF.pass (aa (pv 0) ag (se rfl)) (he:=se rfl) (hpl:=na rfl))) (λ_ _ _ _ _=>(aT (i:=0) (show(["faces","part"]:List Str).Nodup by decide +kernel) rfl (Or.inl rfl))) (λ_ _ _ _ _=>dq)
   (λ_ _ _ _ _=>(aZ (aa (pv 0) (aa (aW yg (hr.mono (by decide)) rfl aF.pass (aa (pv 1) (aa (pv 0) ag (se rfl)) (se rfl)) (he:=se rfl) (hpl:=na rfl)) (aa (aW pF (hr.mono (by decide)) rfl aF.pass (aa (pv 1) (aa (pv 0) ag (se rfl)) (se rfl)) (he:=se rfl) (hpl:=na rfl)) ag (se rfl)) (se rfl)) (se rfl))))))),?_⟩
  have sl:=sizeLine_eq
  simp_all only[HP]
  refine⟨p,hq,g,hc,λl H1 xs s1 hl al=>⟨⟨_,bL.of hl⟩,?_⟩⟩
  have lx:=al.length
  rw[mG] at lx
  refine comp_map (src_list (λH2 s2=>bL.of (s2 _ _ hl))) (λ_ _ _ _ h=>by rw[h.1];exact aw.refl _) (by omega) (λi y H2=>∀f,(EU p)[i]?=some f->TR (λ_=>none) H2 (f,val p f,sd p^f.length) y) (λi y H2 H3 s3 h f e=>(h f e).mono s3) ?_ ?_
  ·rintro i x w0 H2 H3 Q2 hi s2 ⟨rfl,ex⟩ kq
   refine(?_:let G_:Prop:=_;G_)
   intro G_
   obtain⟨fs,ef,b,rfl,hb⟩:=al.get ex
   dsimp only[G_]
   have hf:fs∈EU p:=aam ef
   have Hy:=s2 _ _ (s1 _ _ hq)
   have Oj:=s2 _ _ hb
   simp_all only[HQ,HR]
   refine⟨p,Hy,fs,Oj,g,hf,λH4 s4=>⟨p,s4 _ _ Hy,fs,s4 _ _ Oj,g,hf,by decide,λa H5 s5 na e5=>kq _ _ (s4.trans s5) λf e=>?_⟩⟩
   rw[ef] at e
   cases e
   exact⟨a,b,rfl,e5,s5 _ _ (s4 _ _ Oj),rfl⟩
  ·intro ys H2 s2 ly hy D n1 n2
   refine kk _ _ _ (s1.trans (s2.trans (ao n2))) aq ?_
   refine Al.of (by unfold DF;rw[aac,mG];omega) λi y r e1 e2=>?_
   unfold DF at e2
   rw[aad] at e2
   refine(?_:let G_:Prop:=_;G_)
   intro G_
   obtain⟨f,ef,rfl⟩:=Option.map_eq_some_iff.mp e2
   dsimp only[G_]
   exact(hy i y e1 f ef).mono (ao n2)
theorem fw:aV ["pool","found","part","behind","longer","faces","value","bottom"] ["pool"] (aj (top 30)):=⟨rfl,rfl,rfl,by decide +kernel,rfl,by decide +kernel,by decide +kernel⟩
theorem K3 (T:Txt K mg aG aH aA aL af au):cL P w K mg base (bC P w) 5 "throws_by_bottom" ["pool"] HU:=by
 have uY:cL P w K mg base (bC P w) 4 "check_size" ["pool"] HL:=KQ T
 have sH:cL P w K mg base (bC P w) 3 "part_throws" ["part"] HS:=K2 T
 refine T.lH.eF (λ_ _ _ _ _ _ us hl=>match us,hl with | [_],_=>rfl) λf fd F=>F.fR fw (λvs H Q E h=>?_) (λbV A outer s H vs Q E hr h=>?_)
 ·obtain⟨_,_,rfl,_⟩:=h;rfl
 ·refine(?_:let G_:Prop:=_;G_)
  intro G_
  obtain⟨a,ps,rfl,hp,g,l4,kk⟩:=h
  dsimp only[G_]
  clear G_
  have nd:=fw.nd
  refine⟨_,(ai (bZ (aW uY (hr.mono (by decide)) rfl aF.pass (aa (pv 0) ag (se rfl)) (he:=se rfl) (hpl:=na rfl)))
  (ai (aK (i:=1) nd rfl (Or.inl rfl) (bJ (aa (aZ (aa (bJ ag) (aa ae (aa ae ag (se rfl)) (se rfl)) (se rfl))) ag (se rfl))))
  (ai (cB PassesOwn.never rfl (bH (K:=K) (pv 0)) (aT (i:=2) nd rfl (Or.inl rfl)) (ai (aK (i:=3) nd rfl (Or.inl rfl) (aW sH (hr.mono (by decide)) rfl aF.pass (aa (pv 2) ag (se rfl)) (he:=se rfl) (hpl:=na rfl)))
  (ai (aK (i:=4) nd rfl (Or.inl rfl) (bJ ag))
  (ai (cB PassesOwn.never rfl (bH (K:=K) (pv 1)) (dQ (K:=K) (n:=3) rfl (bw (aT (i:=5) nd rfl (Or.inr rfl)) (bw (aT (i:=6) nd rfl (Or.inr rfl)) (bw (aT (i:=7) nd rfl (Or.inr rfl)) dP)))) (ar (bZ (eE aax PySem.F.slot_list_extend PySem.F.type_list_extend nI.r (pv 4) (aa (dA rfl (N:=["pool","found","part","behind","longer","faces","value","bottom"]) (so:=aj (top 30)) (N':=["more","faces","value","bottom"]) (k:=1) (fr:=[5,6,7]) rfl rfl ⟨rfl,by decide +kernel,by decide +kernel,by decide +kernel,rfl,by decide +kernel,by decide +kernel⟩ (bH (K:=K) (pv 3)) (λ_ _ _ _ _=>(aT (i:=0) (show(["more","faces","value","bottom"]:List Str).Nodup by decide +kernel) rfl (Or.inl rfl))) (λ_ _ _ _ _=>dq)
   (λ_ _ _ _ _=>(aZ (aa (aB xD (pv 1) (aE av (pv 0) ae (λ_ _=>rfl))) (aa (aB bf (pv 2) (aE av (pv 0) ae (λ_ _=>rfl))) (aa (aB bM (pv 3) (aE av (pv 0) ae (λ_ _=>rfl))) ag (se rfl)) (se rfl)) (se rfl))))) ag (se rfl))))))
  (ar (aK (i:=1) nd rfl (Or.inl rfl) (pv 4)))))))
  (ar (aP (pv 1)))))),?_⟩
  refine(?_:let cm:TS:=_;let cu:TS:=_;let cw:TS:=_;let dZ:TS:=_;tSeq cm (tSeq cu (tSeq cw dZ)) _ _ _)
  intro cm cu cw dZ
  have sl:=sizeLine_eq
  refine(?_:let G_:Prop:=_;G_)
  intro G_
  obtain⟨vs,ha,ap⟩:=hp
  dsimp only[G_]
  clear G_
  have lv:=ap.length
  change tSeq _ _ _ _ _
  refine cQ (λσ' H1=>H=H1/\σ'=[some (.ref a),none,none,none,none,none,none,none]) ?_ (λN hN=>?_)
  case refine_2=>
   simp_all only[HL]
   exact⟨ps,⟨vs,ha,ap⟩,g,hN _ _ ⟨rfl,rfl⟩⟩
  rintro _ _ ⟨rfl,rfl⟩
  change tSeq _ _ _ _ _
  refine cQ (λσ' H1=>aw H H1/\∃l xs,H1 l=some (.lst xs)/\Al (TR H H1) (gA []) xs/\σ'=[some (.ref a),some (.ref l),none,none,none,none,none,none]) ?_ (λN hN=>?_)
  case refine_2=>
   simp_all only[]
   refine⟨aah _,λe0 m0=>⟨by decide,λt H1 s1 nt e1=>⟨by decide,λl n1=>hN _ _ ⟨(ao m0).trans (s1.trans (ao n1)),l,_,aq,.one ⟨t,e0,rfl,ao n1 _ _ e1,ao n1 _ _ (s1 _ _ aq),m0⟩,rfl⟩⟩⟩⟩
  intro _ H1 dk
  refine(?_:let G_:Prop:=_;G_)
  intro G_
  obtain⟨DL,l,xs,hl,al,rfl⟩:=dk
  dsimp only[G_]
  clear G_
  change tSeq _ _ _ _ _
  refine cQ (λσ' H2=>aw H H2/\∃l xs,H2 l=some (.lst xs)/\Al (TR H H2) (gA ps) xs/\∃z1 z2 z3 z4 z5 z6,σ'=[some (.ref a),some (.ref l),z1,z2,z3,z4,z5,z6]) ?_ (λN hN=>?_)
  case refine_2=>
   simp_all only[]
   refine⟨⟨_,bL.of (DL _ _ ha)⟩,bX (src_list (Ok:=aw H) (λH2 s2=>bL.of (s2 _ _ ha)))
    (λi σ H2=>aw H H2/\∃l xs z1 z2 z3 z4 z5 z6,H2 l=some (.lst xs)/\Al (TR H H2) (gA (ps.take i)) xs/\σ=[some (.ref a),some (.ref l),z1,z2,z3,z4,z5,z6])
    ⟨DL,l,xs,_,_,_,_,_,_,hl,al,rfl⟩ (λ_ _ _ _ h=>h.1) ?_ ?_⟩
   ·clear hl al xs l
    intro i x σ H2 H3 hi fK fj
    refine(?_:let G_:Prop:=_;G_)
    intro G_
    obtain⟨wG,l,xs,z1,z2,z3,z4,z5,z6,hl,al,rfl⟩:=fK
    obtain⟨rfl,ex⟩:=fj
    obtain⟨p,ep,q,rfl,hq⟩:=ap.get ex
    dsimp only[G_]
    obtain⟨Fm,zV⟩:=List.getElem?_eq_some_iff.mp ep
    have hm:p∈ps:=by rw[<-zV];exact List.getElem_mem Fm
    refine(?_:let G_:Prop:=_;G_)
    intro G_
    obtain⟨gp,c1,b1⟩:=nX g hm
    dsimp only[G_]
    have lx:=al.length
    rw[pP] at lx
    have c0:=nV g i
    have c2:=nV g (i+1)
    have es:gA (ps.take (i+1))=F5 (gA (ps.take i)) p:=by rw[take_snoc Fm,zV,qE]
    have ec:lL ((ps.take (i+1)).map cnt)=lL ((ps.take i).map cnt)*cnt p:=by rw[take_snoc Fm,zV,aao,aae,aaC,gQ]
    rw[ec] at c2
    change tSeq _ _ _ _ _
    refine cQ (λσ' H4=>aw H3 H4/\∃b bs,H4 b=some (.lst bs)/\Al (TR (λ_=>none) H4) (DF p) bs/\σ'=[some (.ref a),some (.ref l),some (.ref q),some (.ref b),z3,z4,z5,z6]) ?_ (λN hN=>?_)
    case refine_2=>
     simp_all only[HS]
     exact⟨p,wG _ _ hq,gp,c1,λb H4 bs s4 hb ab=>hN _ _ ⟨s4,b,bs,hb,ab,rfl⟩⟩
    intro _ H4 dk
    refine(?_:let G_:Prop:=_;G_)
    intro G_
    obtain⟨M8,b,bs,hb,ab,rfl⟩:=dk
    dsimp only[G_]
    have lb:=ab.length
    unfold DF at lb
    rw[aac,mG] at lb
    have hl:=M8 _ _ hl
    have al:=al.imp λ_ _ h=>TR.mono M8 h
    change tSeq _ _ _ _ _
    refine cQ (λσ' H5=>aw H4 H5/\∃m,H4 m=none/\H5 m=some (.lst [])/\σ'=[some (.ref a),some (.ref l),some (.ref q),some (.ref b),some (.ref m),z4,z5,z6]) ?_ (λN hN=>?_)
    case refine_2=>
     simp_all only[]
     exact⟨aah _,λm nm=>hN _ _ ⟨ao nm,m,nm,aq,rfl⟩⟩
    intro _ H5 dk
    refine(?_:let G_:Prop:=_;G_)
    intro G_
    obtain⟨VD,m,nm,X7,rfl⟩:=dk
    dsimp only[G_]
    change tSeq _ _ _ _ _
    refine cQ (λσ' H6=>aw H4 H6/\∃ys,H6 m=some (.lst ys)/\Al (TR H H6) (F5 (gA (ps.take i)) p) ys/\∃z4 z5 z6,σ'=[some (.ref a),some (.ref l),some (.ref q),some (.ref b),some (.ref m),z4,z5,z6]) ?_ (λN hN=>?_)
    case refine_2=>
     simp_all only[]
     refine⟨⟨_,bL.of (VD _ _ hl)⟩,bX (src_list (Ok:=aw H4) (λH2 s2=>bL.of (s2 _ _ hl)))
      (λj σ H6=>aw H4 H6/\∃ys z4 z5 z6,H6 m=some (.lst ys)/\ys.length=j*cnt p/\Al (TR H (c6 H6 m)) (F5 ((gA (ps.take i)).take j) p) ys/\σ=[some (.ref a),some (.ref l),some (.ref q),some (.ref b),some (.ref m),z4,z5,z6])
      ⟨VD,[],_,_,_,X7,by simp,trivial,rfl⟩ (λ_ _ _ _ h=>h.1) ?_ ?_⟩
     ·intro j x σ H6 H7 hj fK fj
      refine(?_:let G_:Prop:=_;G_)
      intro G_
      obtain⟨Dc,ys,z4,z5,z6,Gc,ly,ay,rfl⟩:=fK
      obtain⟨rfl,ex⟩:=fj
      obtain⟨r,er,t,fq,rfl,ht,Ol,nfq⟩:=al.get ex
      dsimp only[G_]
      have A0:=zv g.1 i (by omega) r (aam er)
      have ht:=Dc _ _ ht
      have Ol:=Dc _ _ Ol
      have Jq:=Dc _ _ hb
      have b0:=nW g i
      refine⟨t,_,rfl,lg.of ht,rfl,_,_,rfl,_,_,rfl,_,_,rfl,rfl,?_⟩
      simp_all only[pK]
      refine⟨.inl ⟨rfl,_,bL.of Gc⟩,⟨_,bL.of Jq⟩,?_⟩
      refine comp_map (src_list (λH2 s2=>bL.of (s2 _ _ Jq))) (λ_ _ _ _ h=>by rw[h.1];exact aw.refl _) (by omega) (λk y H8=>∀u,(DF p)[k]?=some u->TR H (c6 H8 m) (r.1++u.1,r.2.1+u.2.1,r.2.2*u.2.2) y) (λk y H8 H9 s9 h u e=>(h u e).mono (bI s9)) ?_ ?_
      ·rintro k x w0 H8 H9 Q2 hk s8 ⟨rfl,ex⟩ kq
       refine(?_:let G_:Prop:=_;G_)
       intro G_
       obtain⟨u,eu,c,d,rfl,hc,hd,_⟩:=ab.get ex
       dsimp only[G_]
       have VE:=s8 _ _ (Dc _ _ hc)
       have X8:=s8 _ _ (Dc _ _ hd)
       have Om:=s8 _ _ Ol
       have lu:u.1.length<=7:=by
        have hu:=aam eu
        unfold DF at hu
        refine(?_:let G_:Prop:=_;G_)
        intro G_
        obtain⟨f,hf,rfl⟩:=List.mem_map.mp hu
        dsimp only[G_]
        exact aal (mH gp f hf).2 (qD gp)
       simp_all only[Ee,VE,X8,Om]
       refine⟨by rw[aac,aac];omega,λa1 n1=>?_⟩
       have s9:=ao (o:=.lst (List.map V.int r.1++List.map V.int u.1)) n1
       simp only[s9 _ _ VE]
       refine⟨_,rfl,_,at1,_,rfl,_,rfl,_,at2,_,rfl,cW (by omega) (by omega),by decide,λt2 H10 Ko VF e10=>kq _ _ (s9.trans Ko) λu' VG=>?_⟩
       rw[eu] at VG
       cases VG
       have X9:=s9 _ _ (s8 _ _ Gc)
       refine⟨t2,a1,rfl,?_,?_,?_⟩
       ·rw[bN (λe=>by rw[e,X9] at VF;cases VF),e10,Int.natCast_mul]
       ·rw[bN (λe=>by rw[e,s8 _ _ Gc] at n1;cases n1),Ko _ _ aq,aao]
       ·exact none_of (wG.trans (M8.trans (Dc.trans s8))) n1
      ·intro zs H8 s8 lz hz D n1 n2
       have Yb:=s8 _ _ Gc
       have jm:j*cnt p+cnt p<=lL ((ps.take i).map cnt)*cnt p:=by
        rw[<-Nat.succ_mul]
        exact Nat.mul_le_mul_right _ (by omega)
       refine⟨_,ao n2 _ _ Yb,_,aq,by omega,?_⟩
       have s9:aw H7 (upd H8 D (.lst zs)):=s8.trans (ao n2)
       refine⟨ck (Dc.trans s9) nm,_,aq,by rw[aak,ly,lz,lb,Nat.succ_mul],?_,_,rfl⟩
       rw[pQ,aaG,er]
       unfold F5
       rw[List.flatMap_append]
       refine Al.append (ay.imp λ_ _ h=>h.mono (bI s9)) ?_
       simp only[Option.toList,List.flatMap_cons,List.flatMap_nil,aaP]
       refine Al.of (by rw[aac];unfold DF;rw[aac,mG];omega) λk y v e1 e2=>?_
       rw[aad] at e2
       refine(?_:let G_:Prop:=_;G_)
       intro G_
       obtain⟨u,eu,rfl⟩:=Option.map_eq_some_iff.mp e2
       dsimp only[G_]
       exact(hz _ _ e1 u eu).mono (bI (ao n2))
     ·intro σ H6 dk
      refine(?_:let G_:Prop:=_;G_)
      intro G_
      obtain⟨Dc,ys,z4,z5,z6,Gc,ly,ay,rfl⟩:=dk
      dsimp only[G_]
      refine hN _ _ ⟨Dc,ys,Gc,?_,_,_,_,rfl⟩
      rw[lx,<-pP,aau (aaf _)] at ay
      exact ay.imp λ_ _ h=>h.mono bD
    intro _ H6 dk
    refine(?_:let G_:Prop:=_;G_)
    intro G_
    obtain⟨Dc,ys,Gc,ay,z4,z5,z6,rfl⟩:=dk
    dsimp only[G_]
    simp_all only[]
    rw[es]
    exact⟨wG.trans (M8.trans Dc),m,_,Gc,ay,rfl,_,rfl⟩
   ·intro σ H2 dk
    refine(?_:let G_:Prop:=_;G_)
    intro G_
    obtain⟨wG,l,xs,z1,z2,z3,z4,z5,z6,hl,al,rfl⟩:=dk
    dsimp only[G_]
    rw[lv,aau (aaf _)] at al
    exact hN _ _ ⟨wG,l,xs,hl,al,_,_,_,_,_,_,rfl⟩
  intro _ H2 dk
  refine(?_:let G_:Prop:=_;G_)
  intro G_
  obtain⟨wG,l,xs,hl,al,z1,z2,z3,z4,z5,z6,rfl⟩:=dk
  dsimp only[G_]
  simp_all only[]
  exact kk _ _ _ wG hl al
theorem kP:aV ["pool","found","common","part"] ["pool"] (aj (top 31)):=⟨rfl,rfl,rfl,by decide +kernel,rfl,by decide +kernel,by decide +kernel⟩
theorem K4 (T:Txt K mg aG aH aA aL af au):cL P w K mg base (bC P w) 6 "pool_table" ["pool"] HW:=by
 have lS:cL P w K mg base (bC P w) 5 "throws_by_bottom" ["pool"] HU:=K3 T
 have dO:cL P w K mg base (bC P w) 2 "part_bottom" ["part"] vZ:=C9 T
 have yh:cL P w K mg base (bC P w) 4 "table_of" ["rows"] (HG aH):=KN T
 refine T.uG.eF (λ_ _ _ _ _ _ us hl=>match us,hl with | [_],_=>rfl) λf fd F=>F.fR kP (λvs H Q E h=>?_) (λbV A outer s H vs Q E hr h=>?_)
 ·obtain⟨_,_,rfl,_⟩:=h;rfl
 ·refine(?_:let G_:Prop:=_;G_)
  intro G_
  obtain⟨a,ps,rfl,hp,gl,l4,kk⟩:=h
  dsimp only[G_]
  clear G_
  have nd:=kP.nd
  refine⟨_,(ai (aK (i:=1) nd rfl (Or.inl rfl) (aW lS (hr.mono (by decide)) rfl aF.pass (aa (pv 0) ag (se rfl)) (he:=se rfl) (hpl:=na rfl)))
  (ai (aK (i:=2) nd rfl (Or.inr rfl) ae)
  (ai (cB PassesOwn.never rfl (bH (K:=K) (pv 0)) (aT (i:=3) nd rfl (Or.inl rfl)) (ar (aK (i:=2) nd rfl (Or.inr rfl) (aB bM (pv 2) (aW dO (hr.mono (by decide)) rfl aF.pass (aa (pv 3) ag (se rfl)) (he:=se rfl) (hpl:=na rfl))))))
  (ar (aP (aW yh (hr.mono (by decide)) rfl aF.pass (aa (dA rfl (N:=["pool","found","common","part"]) (so:=aj (top 31)) (N':=["faces","value","bottom","common"]) (k:=3) (fr:=[2]) rfl rfl ⟨rfl,by decide +kernel,by decide +kernel,by decide +kernel,rfl,by decide +kernel,by decide +kernel⟩ (bH (K:=K) (pv 1)) (λ_ _ _ _ _=>(dQ (K:=K) (n:=3) rfl (bw (aT (i:=0) (show(["faces","value","bottom","common"]:List Str).Nodup by decide +kernel) rfl (Or.inl rfl)) (bw (aT (i:=1) (show(["faces","value","bottom","common"]:List Str).Nodup by decide +kernel) rfl (Or.inl rfl)) (bw (aT (i:=2) (show(["faces","value","bottom","common"]:List Str).Nodup by decide +kernel) rfl (Or.inl rfl)) dP))))) (λ_ _ _ _ _=>dq)
   (λ_ _ _ _ _=>(aZ (aa (pv 1) (aa (aB cj (pv 3) (pv 2)) ag (se rfl)) (se rfl))))) ag (se rfl)) (he:=se rfl) (hpl:=na rfl))))))),?_⟩
  refine(?_:let cm:TS:=_;let cu:TS:=_;let cw:TS:=_;let dZ:TS:=_;tSeq cm (tSeq cu (tSeq cw dZ)) _ _ _)
  intro cm cu cw dZ
  have sl:=sizeLine_eq
  have gm:=Cs gl
  refine(?_:let G_:Prop:=_;G_)
  intro G_
  obtain⟨vs,ha,ap⟩:=id hp
  dsimp only[G_]
  clear G_
  have lv:=ap.length
  change tSeq _ _ _ _ _
  refine cQ (λσ' H1=>aw H H1/\∃l xs,H1 l=some (.lst xs)/\Al (TR H H1) (gA ps) xs/\σ'=[some (.ref a),some (.ref l),none,none]) ?_ (λN hN=>?_)
  case refine_2=>
   simp_all only[HU]
   exact⟨ps,hp,gm,l4,λl H1 xs s1 hl al=>hN _ _ ⟨s1,l,xs,hl,al,rfl⟩⟩
  intro _ H1 dk
  refine(?_:let G_:Prop:=_;G_)
  intro G_
  obtain⟨DL,l,xs,hl,al,rfl⟩:=dk
  dsimp only[G_]
  clear G_
  have lx:=al.length
  rw[pP] at lx
  change tSeq _ _ _ _ _
  refine cQ (λσ' H2=>H1=H2/\σ'=[some (.ref a),some (.ref l),some (.int 1),none]) ?_ (λN hN=>?_)
  case refine_2=>
   simp_all only[]
   exact hN _ _ ⟨rfl,rfl⟩
  rintro _ _ ⟨rfl,rfl⟩
  change tSeq _ _ _ _ _
  refine cQ (λσ' H2=>H1=H2/\∃z,σ'=[some (.ref a),some (.ref l),some (.int (lL (ps.map bot):Int)),z]) ?_ (λN hN=>?_)
  case refine_2=>
   simp_all only[]
   refine⟨⟨_,bL.of (DL _ _ ha)⟩,bX (src_list (Ok:=λH'=>H1=H') (λH' e=>by subst e;exact bL.of (DL _ _ ha))) (λi σ H'=>H1=H'/\∃z,σ=[some (.ref a),some (.ref l),some (.int (lL ((ps.take i).map bot):Int)),z]) ⟨rfl,_,rfl⟩ (λ_ _ _ _ h=>h.1) ?_ ?_⟩
   ·intro i x σ H' xb hi fK fj
    refine(?_:let G_:Prop:=_;G_)
    intro G_
    obtain⟨rfl,z,rfl⟩:=fK
    obtain⟨rfl,ex⟩:=fj
    obtain⟨p,ep,q,rfl,hq⟩:=ap.get ex
    dsimp only[G_]
    obtain⟨Fm,zV⟩:=List.getElem?_eq_some_iff.mp ep
    refine(?_:let G_:Prop:=_;G_)
    intro G_
    obtain⟨gp,c1,b1⟩:=nX gm (aam ep)
    dsimp only[G_]
    have b0:=nW gm i
    simp_all only[vZ]
    refine⟨p,DL _ _ hq,gp,b1,cW (by omega) (by omega),?_,_,rfl⟩
    rw[take_snoc Fm,zV,aao,aae,aaC,gQ,Int.natCast_mul]
   ·intro σ H' dk
    refine(?_:let G_:Prop:=_;G_)
    intro G_
    obtain⟨rfl,z,rfl⟩:=dk
    dsimp only[G_]
    rw[lv,aau (aaf _)]
    exact hN _ _ ⟨rfl,_,rfl⟩
  intro _ _ dk
  refine(?_:let G_:Prop:=_;G_)
  intro G_
  obtain⟨rfl,z,rfl⟩:=dk
  have c0:=gm.2.1
  have bW:=gm.2.2
  obtain⟨Yc,Yd,Ye,_⟩:=zw ps gl
  dsimp only[G_]
  clear G_
  have dv:∀r∈gA ps,1<=r.2.2/\r.2.2<=lL (ps.map bot):=λr A0=>by
   have:=zv gm.1 ps.length (aaf _) r (by rw[aau (aaf _)];exact A0)
   rw[aau (aaf _)] at this
   exact this.2
  have nb:=HV gl
  have Yg:EX (lL (ps.map bot)) (gA ps)=DG ps:=rfl
  generalize hW:lL (ps.map bot)=W at *
  simp_all only[HG]
  refine⟨⟨_,bL.of hl⟩,?_⟩
  refine Ax (K:=K) (src_list (λH2 s2=>bL.of (s2 _ _ hl))) (λi u v b' H2=>∃r,(gA ps)[i]?=some r/\v=.int r.2.1/\b'=.int (r.2.2:Int)) ?_ (by omega)
   (λi y H2=>∀r,(gA ps)[i]?=some r->Rep H2 (o4 (r.2.1,((W / r.2.2:Nat):Int))) y) (λi y H2 H3 s3 h r e=>(h r e).mono s3) ?_ ?_
  ·rintro i x H2 H3 hi s2 ⟨rfl,ex⟩
   refine(?_:let G_:Prop:=_;G_)
   intro G_
   obtain⟨r,er,t,q,rfl,ht,hq,nq⟩:=al.get ex
   dsimp only[G_]
   exact⟨aw.refl _,t,_,_,_,rfl,lg.of (s2 _ _ ht),r,er,rfl,rfl⟩
  ·intro i u v b' H2 Q2 hi s2 Yh kq
   refine(?_:let G_:Prop:=_;G_)
   intro G_
   obtain⟨r,er,rfl,rfl⟩:=Yh
   dsimp only[G_]
   have hb:=dv r (aam er)
   simp_all only[]
   refine⟨dE.of (n:=64) (by omega) (Bt.of 1000000 (by omega) (by omega)),by decide,λt H3 s3 nt e3=>kq _ _ s3 λr' De=>?_⟩
   rw[er] at De
   cases De
   rw[<-Int.natCast_ediv] at e3
   exact dI.mpr ⟨t,rfl,e3⟩
  ·intro ys H2 s2 ly hy D n1 n2
   have rp:Rep (upd H2 D (.lst ys)) (i5 (DG ps)) (.ref D):=by
    rw[<-Yg]
    refine bq.mpr ⟨D,ys,rfl,aq,bb.of ?_ λi dd v e1 e2=>?_⟩
    ·unfold EX
     rw[aac,aac,ly,lx,<-pP]
    ·unfold EX at e1
     rw[aad,aad] at e1
     refine(?_:let G_:Prop:=_;G_)
     intro G_
     obtain⟨p,ep,rfl⟩:=Option.map_eq_some_iff.mp e1
     obtain⟨r,er,rfl⟩:=Option.map_eq_some_iff.mp ep
     dsimp only[G_]
     exact(hy i v e2 r er).mono (ao n2)
   have sD:aw H (upd H2 D (.lst ys)):=DL.trans (s2.trans (ao n2))
   exact⟨DG ps,rp,Yd,λx hx=>(Yc x hx).2,Ye,λb=>absurd b nb,λ_ p H' s' np r'=>kk p H' (sD.trans s') (none_of sD np) r'⟩
theorem gZ:aV ["several","common","one"] ["several"] (aj (top 9)):=⟨rfl,rfl,rfl,by decide +kernel,rfl,by decide +kernel,by decide +kernel⟩
theorem K5 (T:Txt K mg aG aH aA aL af au):cL P w K mg base (bC P w) 2 "common_bottom" ["several"] Ie:=by
 have eN:cL P w K mg base (bC P w) 1 "common_divisor" ["one","other"] Cp:=Gb T
 refine T.pw.eF (λ_ _ _ _ _ _ us hl=>match us,hl with | [_],_=>rfl) λf fd F=>F.fR gZ (λvs H Q E h=>?_) (λbV A outer s H vs Q E hr h=>?_)
 ·obtain⟨_,_,_,rfl,_⟩:=h;rfl
 ·refine(?_:let G_:Prop:=_;G_)
  intro G_
  obtain⟨v,ps,W,rfl,rp,W0,W1,hz,good,k⟩:=h
  dsimp only[G_]
  have nd:=gZ.nd
  refine⟨_,(ai (aK (i:=1) nd rfl (Or.inl rfl) ae)
  (ai (cB PassesOwn.never rfl (bH (K:=K) (pv 0)) (aT (i:=2) nd rfl (Or.inl rfl)) (ar (aK (i:=1) nd rfl (Or.inl rfl) (aB bM (aB cj (pv 1) (aW eN (hr.mono (by decide)) rfl aF.pass (aa (pv 1) (aa (aE av (pv 2) ae (λ_ _=>rfl)) ag (se rfl)) (se rfl)) (he:=se rfl) (hpl:=na rfl))) (aE av (pv 2) ae (λ_ _=>rfl))))))
  (ar (aP (pv 1))))),?_⟩
  refine(?_:let cm:TS:=_;let cu:TS:=_;let cw:TS:=_;tSeq cm (tSeq cu cw) _ _ _)
  intro cm cu cw
  refine(?_:let G_:Prop:=_;G_)
  intro G_
  obtain⟨l,xs,rfl,hl,rl⟩:=bq.mp rp
  dsimp only[G_]
  have len:=rl.length
  rw[aac] at len
  simp_all only[]
  refine⟨⟨_,bL.of hl⟩,bX (src_list (Ok:=λH2=>H2=H) (λH2 e=>by rw[e];exact bL.of hl)) (λi σ H2=>H2=H/\∃B z,σ=[some (.ref l),some (.int B),z]/\0<B/\(∀M,(∀p∈ps,p.2∣M)->B∣M)/\∀p∈ps.take i,p.2∣B)
   ⟨rfl,1,none,rfl,by decide,λ_ _=>Int.one_dvd _,by simp⟩ (λ_ _ _ _ h=>h.1) ?_ ?_⟩
  ·intro i x σ H2 H3 hi fK fj
   refine(?_:let G_:Prop:=_;G_)
   intro G_
   obtain⟨rfl,B,z,rfl,B0,bB,dv⟩:=fK
   obtain⟨rfl,hx⟩:=fj
   obtain⟨d,ed,rd⟩:=rl.get hx
   dsimp only[G_]
   refine(?_:let G_:Prop:=_;G_)
   intro G_
   obtain⟨p,ep,rfl⟩:=aad ..▸ed |>Option.map_eq_some_iff.mp
   obtain⟨a,rfl,ha⟩:=dI.mp rd
   obtain⟨p0,bp⟩:=good p (aam ep)
   dsimp only[G_]
   have g0:=Nm.FN (a:=B) (show p.2≠0 by omega)
   have p1:p.2<=1000000:=Int.le_trans (Int.le_of_dvd W0 bp) W1
   have gb:Bt 20 (Nm.g B p.2):=Bt.of 1000000 (by omega) (by have:=Nm.J4 (a:=B) p0;omega)
   simp_all only[Cp,ha]
   have e:B / Nm.g B p.2*p.2=B* (p.2 / Nm.g B p.2):=Nm.tD B p.2
   refine⟨dE.of g0 gb,iY (by omega) (by omega),?_,?_,?_⟩
   ·exact Int.mul_pos (Int.ediv_pos_of_pos_of_dvd B0 (Nm.NQ _ _) (Nm.um _ _)) p0
   ·exact λM hM=>CI (bB M hM) (hM p (aam ep))
   ·intro q hq
    rw[aaG,ep] at hq
    rcases List.mem_append.mp hq with hq | hq
    ·rw[e]
     exact Int.dvd_trans (dv q hq) (Int.dvd_mul_right _ _)
    ·have:q=p:=by simpa using hq
     subst this
     exact Int.dvd_mul_left _ _
  ·intro σ H2 dk
   refine(?_:let G_:Prop:=_;G_)
   intro G_
   obtain⟨rfl,B,z,rfl,B0,bB,dv⟩:=dk
   dsimp only[G_]
   simp_all only[]
   exact k B B0 bB (λp hp=>dv p (by rw[aau (by omega)];exact hp))
theorem mP:aV ["table"] ["table"] (aj (top 13)):=⟨rfl,rfl,rfl,by decide +kernel,rfl,by decide +kernel,by decide +kernel⟩
theorem IA (T:Txt K mg aG aH aA aL af au):cL P w K mg base (bC P w) 3 "bottom_of" ["table"] CH:=by
 have pG:cL P w K mg base (bC P w) 2 "common_bottom" ["several"] Ie:=K5 T
 refine T.vS.eF (λ_ _ _ _ _ _ us hl=>match us,hl with | [_],_=>rfl) λf fd F=>F.fR mP (λvs H Q E h=>?_) (λbV A outer s H vs Q E hr h=>?_)
 ·obtain⟨_,_,_,rfl,_⟩:=h;rfl
 ·refine(?_:let G_:Prop:=_;G_)
  intro G_
  obtain⟨v,rows,W,rfl,rp,⟨W0,W1,hz,good⟩,k⟩:=h
  dsimp only[G_]
  have nd:=mP.nd
  refine⟨_,(ar (aP (aW pG (hr.mono (by decide)) rfl aF.pass (aa (dA rfl (N:=["table"]) (so:=aj (top 13)) (N':=["value","part"]) (k:=2) (fr:=[]) rfl rfl ⟨rfl,by decide +kernel,by decide +kernel,by decide +kernel,rfl,by decide +kernel,by decide +kernel⟩ (bH (K:=K) (pv 0)) (λ_ _ _ _ _=>(dQ (K:=K) (n:=2) rfl (bw (aT (i:=0) (show(["value","part"]:List Str).Nodup by decide +kernel) rfl (Or.inl rfl)) (bw (aT (i:=1) (show(["value","part"]:List Str).Nodup by decide +kernel) rfl (Or.inl rfl)) dP)))) (λ_ _ _ _ _=>dq)
   (λ_ _ _ _ _=>(pv 1))) ag (se rfl)) (he:=se rfl) (hpl:=na rfl)))),?_⟩
  refine(?_:let G_:Prop:=_;G_)
  intro G_
  obtain⟨l,xs,rfl,hl,rl⟩:=bq.mp rp
  dsimp only[G_]
  have len:=rl.length
  rw[aac] at len
  simp_all only[]
  refine⟨⟨_,bL.of hl⟩,?_⟩
  refine tG (src_list (λH2 s2=>s2.seq (bL.of hl))) (λi a b H3=>∀r,rows[i]?=some r->Rep H3 (o4 r.2) b) ?_ (by rw[sizeLine_eq];omega) (λi y H2=>∀r,rows[i]?=some r->Rep H2 (o4 r.2) y) (λi y H2 H3 s3 h r e=>(h r e).mono s3) ?_ ?_
  ·rintro i x H2 H3 hi s2 ⟨rfl,hx⟩
   refine(?_:let G_:Prop:=_;G_)
   intro G_
   obtain⟨d,ed,rd⟩:=rl.get hx
   rw[aad] at ed
   obtain⟨r,er,rfl⟩:=Option.map_eq_some_iff.mp ed
   obtain⟨p,q,rfl,hp,hq⟩:=my.mp rd
   dsimp only[G_]
   refine⟨aw.refl _,p,_,_,rfl,lg.of (s2 _ _ hp),λr' De=>?_⟩
   rw[er] at De
   cases De
   exact dI.mpr ⟨q,rfl,s2 _ _ hq⟩
  ·intro i a b H3 Q2 hi s3 it kq
   simp_all only[]
   exact kq _ _ (aw.refl _) it
  ·intro ys H2 s2 ly hy D n1 n2
   simp_all only[Ie]
   have Yi:Rep (upd H2 D (.lst ys)) (i5 (rows.map (·.2))) (.ref D):=by
    refine bq.mpr ⟨D,ys,rfl,aq,bb.of ?_ λi dd v e1 e2=>?_⟩
    ·rw[aac,aac,ly,len]
    ·rw[aad,aad] at e1
     refine(?_:let G_:Prop:=_;G_)
     intro G_
     obtain⟨p,ep,rfl⟩:=Option.map_eq_some_iff.mp e1
     obtain⟨r,er,rfl⟩:=Option.map_eq_some_iff.mp ep
     dsimp only[G_]
     exact(hy i v e2 r er).mono (ao n2)
   refine⟨_,Yi,W,W0,W1,by rw[aac];exact hz,λp hp=>?_,λB B0 bB dv=>?_⟩
   ·refine(?_:let G_:Prop:=_;G_)
    intro G_
    obtain⟨r,A0,rfl⟩:=List.mem_map.mp hp
    dsimp only[G_]
    exact⟨(good r A0).1,(good r A0).2.1⟩
   ·refine k B _ (s2.trans (ao n2)) ⟨B0,λr A0=>dv _ (List.mem_map.mpr ⟨r,A0,rfl⟩),λM hM=>bB M λp hp=>by obtain⟨r,A0,rfl⟩:=List.mem_map.mp hp;exact hM r A0⟩
theorem qU:aV ["table","bottom"] ["table","bottom"] (aj (top 14)):=⟨rfl,rfl,rfl,by decide +kernel,rfl,by decide +kernel,by decide +kernel⟩
theorem K6 (T:Txt K mg aG aH aA aL af au):cL P w K mg base (bC P w) 1 "weighed" ["table","bottom"] Ig:=by
 refine T.AK.eF (λ_ _ _ _ _ _ us hl=>match us,hl with | [_,_],_=>rfl) λf fd F=>F.fR qU (λvs H Q E h=>?_) (λbV A outer s H vs Q E hr h=>?_)
 ·obtain⟨_,_,_,_,rfl,_⟩:=h;rfl
 ·refine(?_:let G_:Prop:=_;G_)
  intro G_
  obtain⟨v,rows,W,B,rfl,rp,gr,gb,k⟩:=h
  have b1:=Ih gr gb
  obtain⟨W0,W1,hz,good⟩:=id gr
  obtain⟨B0,dv,bB⟩:=gb
  dsimp only[G_]
  have nd:=qU.nd
  refine⟨_,(ar (aP (dA rfl (N:=["table","bottom"]) (so:=aj (top 14)) (N':=["value","part","bottom"]) (k:=2) (fr:=[1]) rfl rfl ⟨rfl,by decide +kernel,by decide +kernel,by decide +kernel,rfl,by decide +kernel,by decide +kernel⟩ (bH (K:=K) (pv 0)) (λ_ _ _ _ _=>(dQ (K:=K) (n:=2) rfl (bw (aT (i:=0) (show(["value","part","bottom"]:List Str).Nodup by decide +kernel) rfl (Or.inl rfl)) (bw (aT (i:=1) (show(["value","part","bottom"]:List Str).Nodup by decide +kernel) rfl (Or.inl rfl)) dP)))) (λ_ _ _ _ _=>dq)
   (λ_ _ _ _ _=>(aZ (aa (pv 0) (aa (aB bM (aE av (pv 1) ae (λ_ _=>rfl)) (aB cj (pv 2) (aE av (pv 1) ae (λ_ _=>rfl)))) ag (se rfl)) (se rfl))))))),?_⟩
  refine(?_:let G_:Prop:=_;G_)
  intro G_
  obtain⟨l,xs,rfl,hl,rl⟩:=bq.mp rp
  dsimp only[G_]
  have len:=rl.length
  rw[aac] at len
  simp_all only[]
  refine⟨⟨_,bL.of hl⟩,?_⟩
  refine tG (src_list (λH2 s2=>s2.seq (bL.of hl))) (λi a b H3=>∃r,rows[i]?=some r/\a=.int r.1/\Rep H3 (o4 r.2) b) ?_ (by rw[sizeLine_eq];omega) (λi y H2=>∀r,rows[i]?=some r->Rep H2 (o4 (r.1,r.2.1* (B / r.2.2))) y) (λi y H2 H3 s3 h r e=>(h r e).mono s3) ?_ ?_
  ·rintro i x H2 H3 hi s2 ⟨rfl,hx⟩
   refine(?_:let G_:Prop:=_;G_)
   intro G_
   obtain⟨d,ed,rd⟩:=rl.get hx
   rw[aad] at ed
   obtain⟨r,er,rfl⟩:=Option.map_eq_some_iff.mp ed
   obtain⟨p,q,rfl,hp,hq⟩:=my.mp rd
   dsimp only[G_]
   exact⟨aw.refl _,p,_,_,rfl,lg.of (s2 _ _ hp),r,er,rfl,dI.mpr ⟨q,rfl,s2 _ _ hq⟩⟩
  ·intro i a b H3 Q2 hi s3 fj kq
   refine(?_:let G_:Prop:=_;G_)
   intro G_
   obtain⟨r,er,rfl,rb⟩:=fj
   obtain⟨q,rfl,hq⟩:=dI.mp rb
   obtain⟨g3,g2,g0,g1⟩:=good r (aam er)
   dsimp only[G_]
   have r1:r.2.2<=1000000:=Int.le_trans (Int.le_of_dvd W0 g2) W1
   simp_all only[hq]
   refine⟨dE.of (n:=20) g3 (Bt.of 1000000 (by omega) (by omega)),cW (by omega) (by omega),by decide,λp4 H4 s4 _ e4=>kq _ _ s4 λr' De=>?_⟩
   rw[er] at De
   cases De
   exact dI.mpr ⟨p4,rfl,e4⟩
  ·intro ys H2 s2 ly hy D n1 n2
   refine k _ _ (s2.trans (ao n2)) n1 (bq.mpr ⟨D,ys,rfl,aq,bb.of ?_ λi dd v e1 e2=>?_⟩)
   ·rw[aac,ly]
    unfold Nm.weigh
    rw[aac,len]
   ·unfold Nm.weigh at e1
    rw[aad,aad] at e1
    refine(?_:let G_:Prop:=_;G_)
    intro G_
    obtain⟨p,ep,rfl⟩:=Option.map_eq_some_iff.mp e1
    obtain⟨r,er,rfl⟩:=Option.map_eq_some_iff.mp ep
    dsimp only[G_]
    exact(hy i v e2 r er).mono (ao n2)
theorem pd:aV ["rows"] ["rows"] (aj (top 34)):=⟨rfl,rfl,rfl,by decide +kernel,rfl,by decide +kernel,by decide +kernel⟩
theorem K7 (T:Txt K mg aG aH aA aL af au):cL P w K mg base (bC P w) 1 "own_rows" ["rows"] xW:=by
 refine T.xR.eF (λ_ _ _ _ _ _ us hl=>match us,hl with | [_],_=>rfl) λf fd F=>F.fR pd (λvs H Q E h=>?_) (λbV A outer s H vs Q E hr h=>?_)
 ·obtain⟨_,_,rfl,_⟩:=h;rfl
 ·refine(?_:let G_:Prop:=_;G_)
  intro G_
  obtain⟨v,rs,rfl,rp,lr,ll,kk⟩:=h
  dsimp only[G_]
  have nd:=pd.nd
  refine⟨_,(ar (aP (dA rfl (N:=["rows"]) (so:=aj (top 34)) (N':=["row"]) (k:=1) (fr:=[]) rfl rfl ⟨rfl,by decide +kernel,by decide +kernel,by decide +kernel,rfl,by decide +kernel,by decide +kernel⟩ (bH (K:=K) (pv 0)) (λ_ _ _ _ _=>(aT (i:=0) (show(["row"]:List Str).Nodup by decide +kernel) rfl (Or.inl rfl))) (λ_ _ _ _ _=>dq)
   (λ_ _ _ _ _=>(aZ (aa (aE av (pv 0) ae (λ_ _=>rfl)) (aa (aE av (pv 0) ae (λ_ _=>rfl)) (aa (fO (eQ (K:=K)) (by rfl) T.z_list rfl (aa (aE av (pv 0) ae (λ_ _=>rfl)) ag (se rfl)) (he:=se rfl) (hpl:=na rfl)) (aa (aE av (pv 0) ae (λ_ _=>rfl)) ag (se rfl)) (se rfl)) (se rfl)) (se rfl))))))),?_⟩
  have sl:=sizeLine_eq
  refine(?_:let G_:Prop:=_;G_)
  intro G_
  obtain⟨l,xs,rfl,hl,rl⟩:=bq.mp rp
  dsimp only[G_]
  have len:=rl.length
  rw[aac] at len
  simp_all only[]
  refine⟨⟨_,bL.of hl⟩,?_⟩
  refine comp_map (src_list (K:=K) (λH' s'=>bL.of (s' _ _ hl))) (λ_ _ _ _ h=>by rw[h.1];exact aw.refl _) (by omega) (λi y H4=>∀r,rs[i]?=some r->Rep H4 (tM r) y) (λi y H4 H5 s5 h r e=>(h r e).mono s5) ?_ ?_
  ·rintro i x w0 H4 H5 Q2 hi s4 ⟨rfl,ex⟩ kq
   refine(?_:let G_:Prop:=_;G_)
   intro G_
   obtain⟨d,ed,rd⟩:=rl.get ex
   rw[aad] at ed
   obtain⟨r,er,rfl⟩:=Option.map_eq_some_iff.mp ed
   obtain⟨p,a,b,c,d,rfl,hp,ra,rb,rc,Oo⟩:=fg.mp (rd.mono s4)
   obtain⟨c',VH,rfl,hc,IB⟩:=bq.mp rc
   dsimp only[G_]
   simp_all only[hp]
   refine⟨_,.inl (bL.of hc),λm nm=>⟨_,ao nm _ _ hp,_,rfl,by decide,λt H6 s6 nt e6=>kq _ _ ((ao nm).trans s6) λr' De=>?_⟩⟩
   rw[er] at De
   cases De
   have sm:=(ao (o:=.lst VH) nm).trans s6
   exact fg.mpr ⟨t,_,_,_,_,rfl,e6,ra.mono sm,rb.mono sm,bq.mpr ⟨m,VH,rfl,s6 _ _ aq,IB.mono sm⟩,Oo.mono sm⟩
  ·intro ys H5 s5 ly hy D n1 n2
   refine kk D _ (s5.trans (ao n2)) (bq.mpr ⟨D,ys,rfl,aq,bb.of (by rw[aac];omega) λi dd u e1 e2=>?_⟩)
   rw[aad] at e1
   refine(?_:let G_:Prop:=_;G_)
   intro G_
   obtain⟨r,er,rfl⟩:=Option.map_eq_some_iff.mp e1
   dsimp only[G_]
   exact(hy i u e2 r er).mono (ao n2)
theorem pe:aV ["what"] ["what"] (aj (top 35)):=⟨rfl,rfl,rfl,by decide +kernel,rfl,by decide +kernel,by decide +kernel⟩
theorem K8 (T:Txt K mg aG aH aA aL af au):cL P w K mg base (bC P w) 2 "own_what" ["what"] HX:=by
 have qV:cL P w K mg base (bC P w) 1 "own_rows" ["rows"] xW:=K7 T
 refine T.xS.eF (λ_ _ _ _ _ _ us hl=>match us,hl with | [_],_=>rfl) λf fd F=>F.fR pe (λvs H Q E h=>?_) (λbV A outer s H vs Q E hr h=>?_)
 ·obtain⟨_,_,_,rfl,_⟩:=h;rfl
 ·refine(?_:let G_:Prop:=_;G_)
  intro G_
  obtain⟨v,x,cs,rfl,rp,gd,kk⟩:=h
  dsimp only[G_]
  have nd:=pe.nd
  refine⟨_,(ai (bG (aM cg (aE av (pv 0) ae (λ_ _=>rfl)) bc (aY _)) (ar (aP (aZ (aa bc (aa (fO (eQ (K:=K)) (by rfl) T.z_list rfl (aa (aE av (pv 0) ae (λ_ _=>rfl)) ag (se rfl)) (he:=se rfl) (hpl:=na rfl)) (aa (aE av (pv 0) ae (λ_ _=>rfl)) (aa (aW qV (hr.mono (by decide)) rfl aF.pass (aa (aE av (pv 0) ae (λ_ _=>rfl)) ag (se rfl)) (he:=se rfl) (hpl:=na rfl)) ag (se rfl)) (se rfl)) (se rfl)) (se rfl)))))
   bg)
  (ai (bG (aM cg (aE av (pv 0) ae (λ_ _=>rfl)) bc (aY _)) (ar (aP (aZ (aa bc (aa (aE av (pv 0) ae (λ_ _=>rfl)) (aa (aW qV (hr.mono (by decide)) rfl aF.pass (aa (aE av (pv 0) ae (λ_ _=>rfl)) ag (se rfl)) (he:=se rfl) (hpl:=na rfl)) ag (se rfl)) (se rfl)) (se rfl)))))
   bg)
  (ar (aP (pv 0))))),?_⟩
  refine(?_:let cm:TS:=_;let cu:TS:=_;let cw:TS:=_;tSeq cm (tSeq cu cw) _ _ _)
  intro cm cu cw
  have sl:=sizeLine_eq
  cases x with
  | ask c k a b=>
   refine(?_:let G_:Prop:=_;G_)
   intro G_
   obtain⟨p,x1,x2,x3,x4,x5,rfl,hp,r1,r2,r3,r4,r5⟩:=xX.mp (show Rep H (.tup _) v from rp)
   rw[aS] at r1
   subst r1
   dsimp only[G_]
   simp_all only[xW,hp]
   rw[if_neg (by decide +kernel),if_neg (by decide +kernel)]
   exact kk _ _ (aw.refl _) rp
  | fin t b=>
   refine(?_:let G_:Prop:=_;G_)
   intro G_
   obtain⟨p,x1,x2,rfl,hp,r1,r2⟩:=bO.mp (show Rep H (.tup _) v from rp)
   rw[aS] at r1
   subst r1
   dsimp only[G_]
   simp_all only[xW,hp]
   rw[if_neg (by decide +kernel),if_neg (by decide +kernel)]
   exact kk _ _ (aw.refl _) rp
  | score c=>
   refine(?_:let G_:Prop:=_;G_)
   intro G_
   obtain⟨p,x1,x2,rfl,hp,r1,r2⟩:=bO.mp (show Rep H (.tup _) v from rp)
   rw[aS] at r1
   subst r1
   dsimp only[G_]
   simp_all only[xW,hp]
   rw[if_neg (by decide +kernel),if_neg (by decide +kernel)]
   exact kk _ _ (aw.refl _) rp
  | pick w rs=>
   refine(?_:let G_:Prop:=_;G_)
   intro G_
   obtain⟨p,x1,x2,x3,rfl,hp,r1,r2,r3⟩:=du.mp (show Rep H (.tup _) v from rp)
   rw[aS] at r1
   subst r1
   dsimp only[G_]
   simp_all only[xW,hp]
   rw[if_neg (by decide +kernel)]
   obtain⟨g1,g2⟩:=gd
   refine⟨_,r3,by rw[aac];exact g1,λr A0=>?_,λm H1 s1 rm=>⟨by decide,λt H2 s2 nt e2=>kk _ _ (s1.trans s2) ?_⟩⟩
   ·refine(?_:let G_:Prop:=_;G_)
    intro G_
    obtain⟨r0,h0,rfl⟩:=List.mem_map.mp A0
    dsimp only[G_]
    show(r0.ds.map EZ).length<=100
    rw[aac]
    exact(g2 r0 h0).1
   ·exact du.mpr ⟨t,_,_,_,rfl,e2,aS.mpr rfl,r2.mono (s1.trans s2),rm.mono s2⟩
  | gA fI t b rs=>
   refine(?_:let G_:Prop:=_;G_)
   intro G_
   obtain⟨p,x1,x2,x3,x4,rfl,hp,r1,r2,r3,r4⟩:=fg.mp (show Rep H (.tup _) v from rp)
   rw[aS] at r1
   subst r1
   dsimp only[G_]
   simp_all only[xW,hp]
   refine(?_:let G_:Prop:=_;G_)
   intro G_
   obtain⟨g1,g2,g3⟩:=gd
   obtain⟨l2,K9,rfl,iM,Yj⟩:=bq.mp r2
   dsimp only[G_]
   refine⟨_,rfl,_,.inl (bL.of iM),λm nm=>?_⟩
   have sm:=ao (o:=.lst K9) nm
   refine⟨_,sm _ _ hp,_,rfl,_,sm _ _ hp,_,rfl,_,r4.mono sm,by rw[aac];exact g2,λr A0=>?_,λn H1 s1 rn=>⟨by decide,λt H2 s2 nt e2=>kk _ _ (sm.trans (s1.trans s2)) ?_⟩⟩
   ·refine(?_:let G_:Prop:=_;G_)
    intro G_
    obtain⟨r0,h0,rfl⟩:=List.mem_map.mp A0
    dsimp only[G_]
    show(r0.2.2.1.map EZ).length<=100
    rw[aac]
    exact(g3 r0 h0).1
   ·have Oq:=sm.trans (s1.trans s2)
    exact fg.mpr ⟨t,_,_,_,_,rfl,e2,aS.mpr rfl,bq.mpr ⟨m,K9,rfl,s2 _ _ (s1 _ _ aq),Yj.mono Oq⟩,r3.mono Oq,rn.mono s2⟩
theorem kR:aV ["self","counts","spot","number"] ["self","counts","spot","number"] (aj (inClass (top 36) 1)):=⟨rfl,rfl,rfl,by decide +kernel,rfl,by decide +kernel,by decide +kernel⟩
theorem IC (T:Txt K mg aG aH aA aL af au):b7 P w K mg base (bC P w) 1 af "put" ["self","counts","spot","number"] (tQ af):=by
 refine T.sx.eF (λ_ _ _ _ _ _ us hl=>match us,hl with | [_,_,_,_],_=>rfl) λf fd F=>F.fR kR (λvs H Q E h=>?_) (λbV A outer s H vs Q E hr h=>?_)
 ·obtain⟨_,_,_,_,_,_,rfl,_⟩:=h;rfl
 ·refine(?_:let G_:Prop:=_;G_)
  intro G_
  obtain⟨c,l,i,k,g,ns,rfl,⟨dx,sp,mo,wh,tb,us,ft,h1,h2,h3,h4,h5,h6⟩,hl,il,ln,kk⟩:=h
  dsimp only[G_]
  have nd:=kR.nd
  refine⟨_,(ar (xi (bx (sV rfl) (by rfl) T.z_min rfl (aa (pv 3) (aa (aE aX (b9 (pv 0) rfl) (pv 2) (λ_ _=>rfl)) ag (se rfl)) (se rfl)) (he:=se rfl) (hpl:=na rfl)) (Bl (pv 1) (pv 2) set_list))),?_⟩
  have h1:=bD _ _ h1
  have h3:=bD _ _ h3
  simp_all only[d9]
  refine⟨_,_,_,h1,T.aI,T.na_Course_mosts,_,F7,_,rfl,_,h3,_,E4 il,_,rfl,_,hl,_,zB (by rw[aac];omega),?_⟩
  rw[<-List.map_set]
  have e:(if most g.cs i<k then most g.cs i else k)=min k (most g.cs i):=by omega
  rw[e]
  exact kk
theorem mQ:aV ["self","counts","deed","value","spot","other"] ["self","counts","deed","value"] (aj (inClass (top 36) 2)):=⟨rfl,rfl,rfl,by decide +kernel,rfl,by decide +kernel,by decide +kernel⟩
theorem La (T:Txt K mg aG aH aA aL af au):b7 P w K mg base (bC P w) 2 af "do" ["self","counts","deed","value"] (HY af):=by
 have fL:b7 P w K mg base (bC P w) 1 af "put" ["self","counts","spot","number"] (tQ af):=IC T
 refine T.uM.eF (λ_ _ _ _ _ _ us hl=>match us,hl with | [_,_,_,_],_=>rfl) λf fd F=>F.fR mQ (λvs H Q E h=>?_) (λbV A outer s H vs Q E hr h=>?_)
 ·obtain⟨_,_,_,_,_,_,_,rfl,_⟩:=h;rfl
 ·refine(?_:let G_:Prop:=_;G_)
  intro G_
  obtain⟨c,l,dv,v,g,ns,d,rfl,co,hl,rd,gd,ln,kk⟩:=h
  dsimp only[G_]
  have nd:=mQ.nd
  refine⟨_,(ai (aK (i:=4) nd rfl (Or.inl rfl) (eP (eX hr) (b9 (pv 0) rfl) (aE av (pv 2) ae (λ_ _=>rfl)) (λ_ _=>rfl)))
  (ar (bG (aM cg (aE av (pv 2) ae (λ_ _=>rfl)) bc (aY _)) (ar (bZ (dj fL T.aI (pv 0) (hr.mono (by decide)) aF.pass (aa (pv 1) (aa (pv 4) (aa (aE av (pv 2) ae (λ_ _=>rfl)) ag (se rfl)) (se rfl)) (se rfl)) (hst:=se rfl) (hpl:=na rfl))))
   (ar (bG (aM cg (aE av (pv 2) ae (λ_ _=>rfl)) bc (aY _)) (ar (bZ (dj fL T.aI (pv 0) (hr.mono (by decide)) aF.pass (aa (pv 1) (aa (pv 4) (aa (aB bf (aE aX (pv 1) (pv 4) (λ_ _=>rfl)) (aE av (pv 2) ae (λ_ _=>rfl))) ag (se rfl)) (se rfl)) (se rfl)) (hst:=se rfl) (hpl:=na rfl))))
   (ar (bG (aM cg (aE av (pv 2) ae (λ_ _=>rfl)) bc (aY _)) (ar (bZ (dj fL T.aI (pv 0) (hr.mono (by decide)) aF.pass (aa (pv 1) (aa (pv 4) (aa (aB bf (aE aX (pv 1) (pv 4) (λ_ _=>rfl)) (pv 3)) ag (se rfl)) (se rfl)) (se rfl)) (hst:=se rfl) (hpl:=na rfl))))
   (ai (aK (i:=5) nd rfl (Or.inl rfl) (eP (eX hr) (b9 (pv 0) rfl) (aE av (pv 2) ae (λ_ _=>rfl)) (λ_ _=>rfl)))
  (ai (bZ (dj fL T.aI (pv 0) (hr.mono (by decide)) aF.pass (aa (pv 1) (aa (pv 5) (aa (aB bf (aE aX (pv 1) (pv 5) (λ_ _=>rfl)) (aE aX (pv 1) (pv 4) (λ_ _=>rfl))) ag (se rfl)) (se rfl)) (se rfl)) (hst:=se rfl) (hpl:=na rfl)))
  (ar (xi ae (Bl (pv 1) (pv 4) set_list)))))))))))),?_⟩
  refine(?_:let G_:Prop:=_;G_)
  intro G_
  obtain⟨dx,sp,mo,wh,tb,us,ft,h1,h2,h3,h4,h5,h6⟩:=id co
  dsimp only[G_]
  have h1:=bD _ _ h1
  have h2:=bD _ _ h2
  have lp:∀{a b c d e:V},List.lookup (Str.ofString "put") [(Str.ofString "spots",a),(Str.ofString "mosts",b),(Str.ofString "first",c),(Str.ofString "whats",d),(Str.ofString "tables",e)]=none:=dN (by decide +kernel) (by decide +kernel) (by decide +kernel) (by decide +kernel) (by decide +kernel)
  cases d with
  | set n k=>
   refine(?_:let G_:Prop:=_;G_)
   intro G_
   obtain⟨p,x1,x2,x3,rfl,hp,r1,r2,r3⟩:=du.mp (show Rep (c6 H l) (.tup _) dv from rd)
   rw[aS] at r1 r2
   rw[bA] at r3
   subst r1 r2 r3
   dsimp only[G_]
   have hp:=bD _ _ hp
   have sl:=dB (cs:=g.cs) gd
   change tSeq _ _ _ _ _
   refine cQ (λσ' H'=>H=H'/\σ'=[some (.ref c),some (.ref l),some (.ref p),some (.int v),some (.int ((dm g.cs n:Nat):Int)),none]) ?_ (λN hN=>by simp_all only[d9,hp];exact⟨_,_,_,h1,T.aI,T.na_Course_spots,_,kB,_,rfl,_,iz h2 gd,hN _ _ ⟨rfl,rfl⟩⟩)
   rintro _ _ ⟨rfl,rfl⟩
   refine lM (λY N k=>by simp_all only[hp];first | exact k | (rw[if_pos (by decide +kernel)];exact k)) ?_
   simp_all only[d9,cN,tQ,hp]
   exact⟨_,_,h1,lp,_,rfl,_,co,_,hl,sl,ln,kk⟩
  | plus n k=>
   refine(?_:let G_:Prop:=_;G_)
   intro G_
   obtain⟨p,x1,x2,x3,rfl,hp,r1,r2,r3⟩:=du.mp (show Rep (c6 H l) (.tup _) dv from rd)
   rw[aS] at r1 r2
   rw[bA] at r3
   subst r1 r2 r3
   dsimp only[G_]
   have hp:=bD _ _ hp
   have sl:=dB (cs:=g.cs) gd
   change tSeq _ _ _ _ _
   refine cQ (λσ' H'=>H=H'/\σ'=[some (.ref c),some (.ref l),some (.ref p),some (.int v),some (.int ((dm g.cs n:Nat):Int)),none]) ?_ (λN hN=>by simp_all only[d9,hp];exact⟨_,_,_,h1,T.aI,T.na_Course_spots,_,kB,_,rfl,_,iz h2 gd,hN _ _ ⟨rfl,rfl⟩⟩)
   rintro _ _ ⟨rfl,rfl⟩
   refine gT (λY N k=>by simp_all only[hp];first | exact k | (rw[if_neg (by decide +kernel)];exact k)) (lM (λY N k=>by simp_all only[hp];first | exact k | (rw[if_pos (by decide +kernel)];exact k)) ?_)
   simp_all only[d9,cN,tQ,hp]
   exact⟨_,_,h1,lp,_,hl,_,fJ (by omega),_,rfl,_,rfl,_,co,_,hl,sl,ln,kk⟩
  | face n=>
   refine(?_:let G_:Prop:=_;G_)
   intro G_
   obtain⟨p,x1,x2,rfl,hp,r1,r2⟩:=bO.mp (show Rep (c6 H l) (.tup _) dv from rd)
   rw[aS] at r1 r2
   subst r1 r2
   dsimp only[G_]
   have hp:=bD _ _ hp
   have sl:=dB (cs:=g.cs) gd
   change tSeq _ _ _ _ _
   refine cQ (λσ' H'=>H=H'/\σ'=[some (.ref c),some (.ref l),some (.ref p),some (.int v),some (.int ((dm g.cs n:Nat):Int)),none]) ?_ (λN hN=>by simp_all only[d9,hp];exact⟨_,_,_,h1,T.aI,T.na_Course_spots,_,kB,_,rfl,_,iz h2 gd,hN _ _ ⟨rfl,rfl⟩⟩)
   rintro _ _ ⟨rfl,rfl⟩
   refine gT (λY N k=>by simp_all only[hp];first | exact k | (rw[if_neg (by decide +kernel)];exact k)) (gT (λY N k=>by simp_all only[hp];first | exact k | (rw[if_neg (by decide +kernel)];exact k)) (lM (λY N k=>by simp_all only[hp];first | exact k | (rw[if_pos (by decide +kernel)];exact k)) ?_))
   simp_all only[d9,cN,tQ,hp]
   exact⟨_,_,h1,lp,_,hl,_,fJ (by omega),_,rfl,_,rfl,_,co,_,hl,sl,ln,kk⟩
  | move n m=>
   refine(?_:let G_:Prop:=_;G_)
   intro G_
   obtain⟨p,x1,x2,x3,rfl,hp,r1,r2,r3⟩:=du.mp (show Rep (c6 H l) (.tup _) dv from rd)
   rw[aS] at r1 r2 r3
   subst r1 r2 r3
   dsimp only[G_]
   have hp:=bD _ _ hp
   have sl:=dB (cs:=g.cs) gd.1
   have Ej:=dB (cs:=g.cs) gd.2
   change tSeq _ _ _ _ _
   refine cQ (λσ' H'=>H=H'/\σ'=[some (.ref c),some (.ref l),some (.ref p),some (.int v),some (.int ((dm g.cs n:Nat):Int)),none]) ?_ (λN hN=>by simp_all only[d9,hp];exact⟨_,_,_,h1,T.aI,T.na_Course_spots,_,kB,_,rfl,_,iz h2 gd.1,hN _ _ ⟨rfl,rfl⟩⟩)
   rintro _ _ ⟨rfl,rfl⟩
   refine gT (λY N k=>by simp_all only[hp];first | exact k | (rw[if_neg (by decide +kernel)];exact k)) (gT (λY N k=>by simp_all only[hp];first | exact k | (rw[if_neg (by decide +kernel)];exact k)) (gT (λY N k=>by simp_all only[hp];first | exact k | (rw[if_neg (by decide +kernel)];exact k)) ?_))
   simp_all only[d9,cN,tQ,hp]
   refine⟨_,_,_,h1,T.aI,T.na_Course_spots,_,kB,_,rfl,_,iz h2 gd.2,_,_,h1,lp,_,_,rfl,hl,_,fJ (by omega),_,hl,_,fJ (by omega),_,rfl,_,rfl,_,rfl,_,co,_,hl,Ej,ln,_,aq,_,zB (by rw[aac,gR];omega),?_⟩
   rw[yO,<-List.map_set]
   exact kk
theorem iH:aV ["self","name","counts","what"] ["self","name","counts"] (aj (inClass (top 36) 3)):=⟨rfl,rfl,rfl,by decide +kernel,rfl,by decide +kernel,by decide +kernel⟩
theorem Df (T:Txt K mg aG aH aA aL af au):b7 P w K mg base (bC P w) 1 af "asked" ["self","name","counts"] (wc af):=by
 refine T.pz.eF (λ_ _ _ _ _ _ us hl=>match us,hl with | [_,_,_],_=>rfl) λf fd F=>F.fR iH (λvs H Q E h=>?_) (λbV A outer s H vs Q E hr h=>?_)
 ·obtain⟨_,_,_,_,_,_,_,rfl,_⟩:=h;rfl
 ·refine(?_:let G_:Prop:=_;G_)
  intro G_
  obtain⟨c,nm,l,g,ns,fu,gL,rfl,co,gg,hl,ln,ak,kk⟩:=h
  dsimp only[G_]
  clear G_
  have nd:=iH.nd
  refine⟨_,(ai (aK (i:=3) nd rfl (Or.inl rfl) (eP (eX hr) (b9 (pv 0) rfl) (pv 1) (λ_ _=>rfl)))
  (ai (pY PassesOwn.never (aM cg (aE av (pv 3) ae (λ_ _=>rfl)) bc (aY _)) (ai (aK (i:=1) nd rfl (Or.inl rfl) (iS (aM yS (aE aX (pv 2) (eP (eX hr) (b9 (pv 0) rfl) (aE av (pv 3) ae (λ_ _=>rfl)) (λ_ _=>rfl)) (λ_ _=>rfl)) (aE av (pv 3) ae (λ_ _=>rfl)) (aY _)) (aE av (pv 3) ae (λ_ _=>rfl)) (aE av (pv 3) ae (λ_ _=>rfl))))
  (ar (aK (i:=3) nd rfl (Or.inl rfl) (eP (eX hr) (b9 (pv 0) rfl) (pv 1) (λ_ _=>rfl))))))
  (ar (aP (aZ (aa (pv 1) (aa (pv 2) ag (se rfl)) (se rfl))))))),?_⟩
  refine(?_:let cm:TS:=_;let cu:TS:=_;let cw:TS:=_;tSeq cm (tSeq cu cw) _ _ _)
  intro cm cu cw
  refine(?_:let G_:Prop:=_;G_)
  intro G_
  obtain⟨dx,sp,mo,wh,tb,us,ft,h1,h2,h3,h4,h5,h6⟩:=id co
  dsimp only[G_]
  clear G_
  simp_all only[d9]
  cases fu with
  | zero=>cases ak
  | succ fu=>
   rcases h5.val (n:=nm) with ⟨x,u,lk,vl,rx⟩ | ⟨lk,vl⟩
   ·refine⟨_,_,_,h1,T.aI,T.na_Course_whats,_,zA,_,rfl,_,.inl ⟨_,Sum.inr nm,.inl h4,rfl,vl.symm⟩,?_⟩
    refine zC (λm σ H'=>H=H'/\∃nm x u,gw g ns (m+1) nm=some gL/\look g.ps nm=some x/\Rep H (rP x) u/\σ=[some (V.ref c),some (V.str nm),some (V.ref l),some u]) (m:=fu) ⟨rfl,nm,x,u,ak,lk,rx,rfl⟩ ?_
    clear ak lk rx vl
    intro m σ H' Lb
    refine(?_:let G_:Prop:=_;G_)
    intro G_
    obtain⟨rfl,nm,x,u,ak,lk,rx,rfl⟩:=Lb
    dsimp only[G_]
    have gx:=gg.wt _ (eg lk)
    rw[gw,lk] at ak
    have fin:∀{p:Addr} {xs:List V} {y:Str},u=.ref p->H p=some (.tup (.str y::xs))->y≠Str.ofString "ask"->nm=gL->∃b:Bool,(∀Q:Bool->Hp->Prop,Q b H->tTest (tOp rEq (tOp rIxTH (tVar 3) (tC (V.int 0))) (tC (V.str (Str.ofString "ask")))) [some (V.ref c),some (V.str nm),some (V.ref l),some u] H Q)/\b=false:=by
     intro p xs y e hp ny _
     refine⟨false,λQ q=>?_,rfl⟩
     subst e
     simp_all only[hp]
     rw[decide_eq_false ny]
     exact q
    cases x with
    | ask c' k a b=>
     refine(?_:let G_:Prop:=_;G_)
     intro G_
     obtain⟨p,x1,x2,x3,x4,x5,rfl,hp,r1,r2,r3,r4,r5⟩:=xX.mp (show Rep H (.tup _) u from rx)
     rw[aS] at r1 r2 r4 r5
     rw[bA] at r3
     subst r1 r2 r3 r4 r5
     dsimp only[G_]
     refine⟨true,λQ q=>?_,?_⟩
     ·simp_all only[hp]
      rw[decide_eq_true trivial]
      exact q
     ·rw[if_pos rfl]
      have hs:=dB (cs:=g.cs) gx
      have step:∀y,gw g ns m y=some gL->∃m' x u,m'<m/\gw g ns (m'+1) y=some gL/\look g.ps y=some x/\Rep H (rP x) u/\mj H wh (.str y) (some u):=by
       intro y hy
       cases m with
       | zero=>cases hy
       | succ m'=>
        rcases h5.val (n:=y) with ⟨x,u,xc,vl,Yk⟩ | ⟨xc,vl⟩
        ·exact⟨m',x,u,aaT _,hy,xc,Yk,.inl ⟨_,Sum.inr y,.inl h4,rfl,vl.symm⟩⟩
        ·rw[gw,xc] at hy
         cases hy
      have ak:(if k<=ns.getD (dm g.cs c') 0 then gw g ns m a else gw g ns m b)=some gL:=ak
      simp_all only[d9,hp]
      refine⟨_,_,_,h1,T.aI,T.na_Course_spots,_,kB,_,rfl,_,iz h2 gx,_,_,rfl,hl,_,fJ (by omega),_,rfl,jR (λc1=>?_) (λc1=>?_)⟩
      ·rw[if_pos c1] at ak
       refine(?_:let G_:Prop:=_;G_)
       intro G_
       obtain⟨m',x,u,l1,l2,l3,l4,l5⟩:=step a ak
       dsimp only[G_]
       refine⟨_,rfl,_,_,_,h1,T.aI,T.na_Course_whats,_,zA,_,rfl,_,l5,?_⟩
       exact⟨m',l1,a,l2,x,l3,u,l4,rfl,rfl⟩
      ·rw[if_neg c1] at ak
       refine(?_:let G_:Prop:=_;G_)
       intro G_
       obtain⟨m',x,u,l1,l2,l3,l4,l5⟩:=step b ak
       dsimp only[G_]
       refine⟨_,rfl,_,_,_,h1,T.aI,T.na_Course_whats,_,zA,_,rfl,_,l5,?_⟩
       exact⟨m',l1,b,l2,x,l3,u,l4,rfl,rfl⟩
    | fin t b=>
     refine(?_:let G_:Prop:=_;G_)
     intro G_
     obtain⟨p,x1,x2,rfl,hp,r1,r2⟩:=bO.mp (show Rep H (.tup _) u from rx)
     rw[aS] at r1
     subst r1
     have e:nm=gL:=by injection ak
     obtain⟨b',k1,rfl⟩:=fin rfl hp (by decide +kernel) e
     dsimp only[G_]
     refine⟨false,k1,?_⟩
     rw[if_neg (by decide)]
     simp_all only[]
     exact⟨by decide,λp H2 s2 np e2=>kk p H2 s2 np (by rw[<-e];exact e2)⟩
    | score c'=>
     refine(?_:let G_:Prop:=_;G_)
     intro G_
     obtain⟨p,x1,x2,rfl,hp,r1,r2⟩:=bO.mp (show Rep H (.tup _) u from rx)
     rw[aS] at r1
     subst r1
     have e:nm=gL:=by injection ak
     obtain⟨b',k1,rfl⟩:=fin rfl hp (by decide +kernel) e
     dsimp only[G_]
     refine⟨false,k1,?_⟩
     rw[if_neg (by decide)]
     simp_all only[]
     exact⟨by decide,λp H2 s2 np e2=>kk p H2 s2 np (by rw[<-e];exact e2)⟩
    | pick w' rs=>
     refine(?_:let G_:Prop:=_;G_)
     intro G_
     obtain⟨p,x1,x2,x3,rfl,hp,r1,r2,r3⟩:=du.mp (show Rep H (.tup _) u from rx)
     rw[aS] at r1
     subst r1
     have e:nm=gL:=by injection ak
     obtain⟨b',k1,rfl⟩:=fin rfl hp (by decide +kernel) e
     dsimp only[G_]
     refine⟨false,k1,?_⟩
     rw[if_neg (by decide)]
     simp_all only[]
     exact⟨by decide,λp H2 s2 np e2=>kk p H2 s2 np (by rw[<-e];exact e2)⟩
    | gA fI t b rs=>
     refine(?_:let G_:Prop:=_;G_)
     intro G_
     obtain⟨p,x1,x2,x3,x4,rfl,hp,r1,r2,r3,r4⟩:=fg.mp (show Rep H (.tup _) u from rx)
     rw[aS] at r1
     subst r1
     have e:nm=gL:=by injection ak
     obtain⟨b',k1,rfl⟩:=fin rfl hp (by decide +kernel) e
     dsimp only[G_]
     refine⟨false,k1,?_⟩
     rw[if_neg (by decide)]
     simp_all only[]
     exact⟨by decide,λp H2 s2 np e2=>kk p H2 s2 np (by rw[<-e];exact e2)⟩
   ·rw[gw,lk] at ak
    cases ak
theorem iI:aV ["self","when","counts","number"] ["self","when","counts"] (aj (inClass (top 36) 9)):=⟨rfl,rfl,rfl,by decide +kernel,rfl,by decide +kernel,by decide +kernel⟩
theorem Dg (T:Txt K mg aG aH aA aL af au):b7 P w K mg base (bC P w) 1 af "holds" ["self","when","counts"] (wd af):=by
 refine T.pA.eF (λ_ _ _ _ _ _ us hl=>match us,hl with | [_,_,_],_=>rfl) λf fd F=>F.fR iI (λvs H Q E h=>?_) (λbV A outer s H vs Q E hr h=>?_)
 ·obtain⟨_,_,_,_,_,_,rfl,_⟩:=h;rfl
 ·refine(?_:let G_:Prop:=_;G_)
  intro G_
  obtain⟨c,v,l,g,ns,Yl,rfl,co,rv,hl,ln,kk⟩:=h
  dsimp only[G_]
  have nd:=iI.nd
  refine⟨_,(ai (bG (aM Bp (pv 1) nB (aY _)) (ar (aP gN))
   bg)
  (ai (bG (xh (tu (eX hr) (aE av (pv 1) ae (λ_ _=>rfl)) (b9 (pv 0) rfl))) (ar (aP gN))
   bg)
  (ai (aK (i:=3) nd rfl (Or.inl rfl) (aE aX (pv 2) (eP (eX hr) (b9 (pv 0) rfl) (aE av (pv 1) ae (λ_ _=>rfl)) (λ_ _=>rfl)) (λ_ _=>rfl)))
  (ar (aP (iS (aM cg (aE av (pv 1) ae (λ_ _=>rfl)) bc (aY _)) (mh yS (pv 3) (aE av (pv 1) ae (λ_ _=>rfl)) (aY _)) (mh vp (pv 3) (aE av (pv 1) ae (λ_ _=>rfl)) (aY _)))))))),?_⟩
  refine(?_:let cm:TS:=_;let cu:TS:=_;let cw:TS:=_;let dZ:TS:=_;tSeq cm (tSeq cu (tSeq cw dZ)) _ _ _)
  intro cm cu cw dZ
  refine(?_:let G_:Prop:=_;G_)
  intro G_
  obtain⟨dx,sp,mo,wh,tb,us,ft,h1,h2,h3,h4,h5,h6⟩:=id co
  dsimp only[G_]
  cases Yl with
  | none=>
   have e:v=.cZ:=by rw[DH,Rep] at rv;exact rv
   subst e
   simp_all only[]
   exact kk
  | some x=>
   refine(?_:let G_:Prop:=_;G_)
   intro G_
   obtain⟨a,b,k⟩:=x
   obtain⟨p,x1,x2,x3,rfl,hp,r1,r2,r3⟩:=du.mp (show Rep H (.tup _) v from rv)
   rw[aS] at r1 r2
   rw[bA] at r3
   subst r1 r2 r3
   dsimp only[G_]
   simp_all only[d9,hp]
   rw[if_neg (by intro z;cases z)]
   by_cases hn:a∈g.cs.map (·.1)
   ·have hs:=dB hn
    refine⟨_,_,_,h1,T.aI,T.na_Course_spots,_,kB,_,rfl,_,iz h2 hn,?_⟩
    rw[if_neg (by simp)]
    refine⟨_,_,_,h1,T.aI,T.na_Course_spots,_,kB,_,rfl,_,iz h2 hn,_,_,rfl,hl,_,fJ (by omega),?_⟩
    have kk:Q (.bl (if a∈g.cs.map (·.1) then (if b=Str.ofString "from" then decide (k<=ns.getD (dm g.cs a) 0) else decide (ns.getD (dm g.cs a) 0<k)) else false)) H:=kk
    rw[if_pos hn] at kk
    by_cases c1:b=Str.ofString "from"
    ·rw[if_pos c1] at kk ⊢
     exact⟨_,rfl,kk⟩
    ·rw[if_neg c1] at kk ⊢
     exact⟨_,rfl,kk⟩
   ·refine⟨_,_,_,h1,T.aI,T.na_Course_spots,_,kB,_,rfl,_,.inl ⟨_,Sum.inr a,.inl h2,rfl,rfl⟩,?_⟩
    rw[qG hn,if_pos (by rfl)]
    have kk:Q (.bl (if a∈g.cs.map (·.1) then (if b=Str.ofString "from" then decide (k<=ns.getD (dm g.cs a) 0) else decide (ns.getD (dm g.cs a) 0<k)) else false)) H:=kk
    rw[if_neg hn] at kk
    exact kk
theorem iJ:aV ["self"] ["self"] (aj (inClass (top 36) 4)):=⟨rfl,rfl,rfl,by decide +kernel,rfl,by decide +kernel,by decide +kernel⟩
theorem ID (T:Txt K mg aG aH aA aL af au):b7 P w K mg base (bC P w) 2 af "start" ["self"] (Cu af):=by
 have fZ:b7 P w K mg base (bC P w) 1 af "asked" ["self","name","counts"] (wc af):=Df T
 refine T.pB.eF (λ_ _ _ _ _ _ us hl=>match us,hl with | [_],_=>rfl) λf fd F=>F.fR iJ (λvs H Q E h=>?_) (λbV A outer s H vs Q E hr h=>?_)
 ·obtain⟨_,_,_,_,_,rfl,_⟩:=h;rfl
 ·refine(?_:let G_:Prop:=_;G_)
  intro G_
  obtain⟨c,g,fu,ft,gL,rfl,co,gg,hf,ak,kk⟩:=h
  dsimp only[G_]
  have nd:=iJ.nd
  refine⟨_,(ar (aP (dj fZ T.aI (pv 0) (hr.mono (by decide)) aF.pass (aa (b9 (pv 0) rfl) (aa (aB G6 (bJ (aa ae ag (se rfl))) (bx cM (by rfl) T.z_len aaB (aa (b9 (pv 0) rfl) ag (se rfl)) (he:=se rfl) (hpl:=na rfl))) ag (se rfl)) (se rfl)) (hst:=se rfl) (hpl:=na rfl)))),?_⟩
  have sl:=sizeLine_eq
  have lc:=gg.lc
  refine(?_:let G_:Prop:=_;G_)
  intro G_
  obtain⟨dx,sp,mo,wh,tb,us,Dh,h1,h2,h3,h4,h5,h6⟩:=id co
  dsimp only[G_]
  rw[h6] at hf
  cases hf
  have lp:∀{a b c d e:V},List.lookup (Str.ofString "asked") [(Str.ofString "spots",a),(Str.ofString "mosts",b),(Str.ofString "first",c),(Str.ofString "whats",d),(Str.ofString "tables",e)]=none:=dN (by decide +kernel) (by decide +kernel) (by decide +kernel) (by decide +kernel) (by decide +kernel)
  simp_all only[d9,cN,wc,JX]
  refine⟨_,_,h1,lp,_,_,_,h1,T.aI,T.na_Course_first,_,KA,by decide,λp np=>?_⟩
  have M9:=ao (o:=.lst [V.int 0]) np
  refine⟨_,_,_,M9 _ _ h1,T.aI,T.na_Course_mosts,_,F7,_,rfl,_,M9 _ _ h3,_,aq,by simp only[aac];omega,by simp only[aac];omega,by simp only[aac,aaq,aa0];omega,λl nl=>?_⟩
  have el:(List.replicate (((List.map V.int (List.map (λx=>x.snd) g.cs)).length:Nat):Int).toNat [V.int 0]).flatten=List.map V.int (List.replicate g.cs.length 0):=by rw[Cw,aa1,aac,aac]
  rw[el]
  have FE:=M9.trans (ao (o:=.lst (List.map V.int (List.replicate g.cs.length 0))) nl)
  exact⟨_,rfl,g,co.mono FE,gg,_,aq,by simp,fu,gL,ak,λa H' s' na e'=>kk a l H' (FE.trans s') (none_of FE na) (none_of M9 nl) e' (s' _ _ aq)⟩
theorem gE:aV ["self","state"] ["self","state"] (aj (inClass (top 36) 5)):=⟨rfl,rfl,rfl,by decide +kernel,rfl,by decide +kernel,by decide +kernel⟩
theorem qW (T:Txt K mg aG aH aA aL af au):b7 P w K mg base (bC P w) 1 af "what_at" ["self","state"] (iE af):=by
 refine T.mE.eF (λ_ _ _ _ _ _ us hl=>match us,hl with | [_,_],_=>rfl) λf fd F=>F.fR gE (λvs H Q E h=>?_) (λbV A outer s H vs Q E hr h=>?_)
 ·obtain⟨_,_,_,_,_,_,_,rfl,_⟩:=h;rfl
 ·refine(?_:let G_:Prop:=_;G_)
  intro G_
  obtain⟨c,v,H0,g,nm,ns,x,rfl,s0,co,⟨a,l,rfl,ha,hl⟩,lk,kk⟩:=h
  dsimp only[G_]
  have nd:=gE.nd
  refine⟨_,(ar (aP (eP (eX hr) (b9 (pv 0) rfl) (aE av (pv 1) ae (λ_ _=>rfl)) (λ_ _=>rfl)))),?_⟩
  refine(?_:let G_:Prop:=_;G_)
  intro G_
  obtain⟨dx,sp,mo,wh,tb,us,Dh,h1,h2,h3,h4,h5,h6⟩:=id co
  dsimp only[G_]
  simp_all only[d9,ha]
  rcases h5.val (n:=nm) with ⟨x',u,xc,vl,rx⟩ | ⟨xc,vl⟩
  ·rw[lk] at xc
   cases xc
   exact⟨_,_,_,s0 _ _ h1,T.aI,T.na_Course_whats,_,zA,_,rfl,_,.inl ⟨_,Sum.inr nm,.inl (s0 _ _ h4),rfl,vl.symm⟩,kk u rx⟩
  ·rw[lk] at xc
   cases xc
theorem hG:aV ["self","state","row","value","counts","deed"] ["self","state","row","value"] (aj (inClass (top 36) 6)):=⟨rfl,rfl,rfl,by decide +kernel,rfl,by decide +kernel,by decide +kernel⟩
theorem Di (T:Txt K mg aG aH aA aL af au):b7 P w K mg base (bC P w) 3 af "by_row" ["self","state","row","value"] (we af):=by
 have wH:b7 P w K mg base (bC P w) 2 af "do" ["self","counts","deed","value"] (HY af):=La T
 have fZ:b7 P w K mg base (bC P w) 1 af "asked" ["self","name","counts"] (wc af):=Df T
 refine T.nU.eF (λ_ _ _ _ _ _ us hl=>match us,hl with | [_,_,_,_],_=>rfl) λf fd F=>F.fR hG (λvs H Q E h=>?_) (λbV A outer s H vs Q E hr h=>?_)
 ·obtain⟨_,_,_,_,_,_,_,_,_,_,_,_,_,rfl,_⟩:=h;rfl
 ·refine(?_:let G_:Prop:=_;G_)
  intro G_
  obtain⟨c,sv,rv,v,g,nm,ns,a,b,ds,to,fu,gL,rfl,co,gg,⟨sa,l,rfl,tF,hl⟩,rr,gd,ld,ln,ak,kk⟩:=h
  dsimp only[G_]
  have nd:=hG.nd
  refine⟨_,(ai (aK (i:=4) nd rfl (Or.inl rfl) (fO (eQ (K:=K)) (by rfl) T.z_list rfl (aa (aE av (pv 1) ae (λ_ _=>rfl)) ag (se rfl)) (he:=se rfl) (hpl:=na rfl)))
  (ai (cB PassesOwn.never rfl (bH (K:=K) (aE av (pv 2) ae (λ_ _=>rfl))) (aT (i:=5) nd rfl (Or.inl rfl)) (ar (bZ (dj wH T.aI (pv 0) (hr.mono (by decide)) aF.pass (aa (pv 4) (aa (pv 5) (aa (pv 3) ag (se rfl)) (se rfl)) (se rfl)) (hst:=se rfl) (hpl:=na rfl)))))
  (ar (aP (dj fZ T.aI (pv 0) (hr.mono (by decide)) aF.pass (aa (aE av (pv 2) ae (λ_ _=>rfl)) (aa (pv 4) ag (se rfl)) (se rfl)) (hst:=se rfl) (hpl:=na rfl)))))),?_⟩
  refine(?_:let cm:TS:=_;let cu:TS:=_;let cw:TS:=_;tSeq cm (tSeq cu cw) _ _ _)
  intro cm cu cw
  have sl:=sizeLine_eq
  have lc:=gg.lc
  refine(?_:let G_:Prop:=_;G_)
  intro G_
  obtain⟨dx,sp,mo,wh,tb,us,Dh,h1,h2,h3,h4,h5,h6⟩:=id co
  obtain⟨rp,x1,x2,x3,x4,rfl,VI,r1,r2,r3,r4⟩:=fg.mp (show Rep H (.tup _) rv from rr)
  rw[aS] at r4
  subst r4
  obtain⟨dl,pJ,rfl,VJ,VL⟩:=bq.mp r3
  dsimp only[G_]
  have lp:∀{a b c d e:V},List.lookup (Str.ofString "asked") [(Str.ofString "spots",a),(Str.ofString "mosts",b),(Str.ofString "first",c),(Str.ofString "whats",d),(Str.ofString "tables",e)]=none:=dN (by decide +kernel) (by decide +kernel) (by decide +kernel) (by decide +kernel) (by decide +kernel)
  have Bc:∀{a b c d e:V},List.lookup (Str.ofString "do") [(Str.ofString "spots",a),(Str.ofString "mosts",b),(Str.ofString "first",c),(Str.ofString "whats",d),(Str.ofString "tables",e)]=none:=dN (by decide +kernel) (by decide +kernel) (by decide +kernel) (by decide +kernel) (by decide +kernel)
  change tSeq _ _ _ _ _
  refine ba (λN=>∀H1 m,H m=none->aw H H1->c6 H1 m=H->H1 m=some (.lst (List.map V.int ns))->N [some (.ref c),some (.ref sa),some (.ref rp),some (.int v),some (.ref m),none] H1) ?_ (λN hN=>?_)
  case refine_2=>
   simp_all only[tF]
   exact⟨_,.inl (bL.of hl),λm nm=>hN _ m nm (ao nm) (by rw[mK,Cv nm]) aq⟩
  rintro H1 m Ym s1 hh hm
  have Lc:=VL.length
  rw[aac] at Lc
  change tSeq _ _ _ _ _
  refine ba (λN=>∀H2,c6 H2 m=H->H2 m=some (.lst (List.map V.int (ds.foldl (mJ g.cs v) ns)))->∀z,N [some (.ref c),some (.ref sa),some (.ref rp),some (.int v),some (.ref m),z] H2) ?_ (λN hN=>?_)
  case refine_2=>
   simp_all only[s1 _ _ VI]
   refine⟨⟨_,bL.of (s1 _ _ VJ)⟩,bX (src_list (Ok:=λH'=>c6 H' m=H) (λH' e=>bL.of (qI e _ _ VJ))) (λi σ H'=>c6 H' m=H/\H' m=some (.lst (List.map V.int ((ds.take i).foldl (mJ g.cs v) ns)))/\∃z,σ=[some (.ref c),some (.ref sa),some (.ref rp),some (.int v),some (.ref m),z]) ⟨hh,by rw[List.take_zero];exact hm,_,rfl⟩ (λ_ _ _ _ h=>h.1) ?_ ?_⟩
   ·intro i x σ H3 H2 hi fK fj
    refine(?_:let G_:Prop:=_;G_)
    intro G_
    obtain⟨e2,vh,z,rfl⟩:=fK
    obtain⟨rfl,ex⟩:=fj
    obtain⟨dd,ed,rd⟩:=VL.get ex
    rw[aad] at ed
    obtain⟨d,e0,rfl⟩:=Option.map_eq_some_iff.mp ed
    dsimp only[G_]
    have s2:=qI e2
    simp_all only[cN,HY]
    refine⟨_,_,s2 _ _ h1,Bc,g,by rw[e2];exact co,_,vh,d,by rw[e2];exact rd,gd d (aam e0),by rw[gS];exact ln,by rw[mK];exact e2,?_,_,rfl⟩
    rw[aq,aaG,e0,Option.toList_some,List.foldl_append]
    rfl
   ·intro σ H2 dk
    refine(?_:let G_:Prop:=_;G_)
    intro G_
    obtain⟨e2,vh,z,rfl⟩:=dk
    dsimp only[G_]
    rw[<-Lc,aau (aaf _)] at vh
    exact hN _ e2 vh _
  rintro H2 e2 vh z
  have s2:=qI e2
  have Yn:(ds.foldl (mJ g.cs v) ns).length=g.cs.length:=by rw[gS];exact ln
  simp_all only[cN,wc,s2 _ _ VI]
  exact⟨_,_,s2 _ _ h1,lp,_,rfl,_,rfl,g,co.mono s2,gg,_,vh,Yn,fu,gL,ak,λa H' s' na e'=>kk a m H' (s2.trans s') (none_of s2 na) Ym e' (s' _ _ vh)⟩
theorem fz:aV ["self","state","what"] ["self","state"] (aj (inClass (top 36) 10)):=⟨rfl,rfl,rfl,by decide +kernel,rfl,by decide +kernel,by decide +kernel⟩
theorem Dj (T:Txt K mg aG aH aA aL af au):b7 P w K mg base (bC P w) 2 af "open_rows" ["self","state"] (wg af):=by
 have bQ:b7 P w K mg base (bC P w) 1 af "what_at" ["self","state"] (iE af):=qW T
 have gc:b7 P w K mg base (bC P w) 1 af "holds" ["self","when","counts"] (wd af):=Dg T
 refine T.jV.eF (λ_ _ _ _ _ _ us hl=>match us,hl with | [_,_],_=>rfl) λf fd F=>F.fR fz (λvs H Q E h=>?_) (λbV A outer s H vs Q E hr h=>?_)
 ·obtain⟨_,_,_,_,_,_,_,rfl,_⟩:=h;rfl
 ·refine(?_:let G_:Prop:=_;G_)
  intro G_
  obtain⟨c,v,H0,g,nm,ns,x,rfl,s0,VM,gg,st,ln,lk,kk⟩:=h
  dsimp only[G_]
  have co:=VM.mono s0
  have nd:=fz.nd
  refine⟨_,(ai (aK (i:=2) nd rfl (Or.inl rfl) (dj bQ T.aI (pv 0) (hr.mono (by decide)) aF.pass (aa (pv 1) ag (se rfl)) (hst:=se rfl) (hpl:=na rfl)))
  (ai (bG (aM vo (aE av (pv 2) ae (λ_ _=>rfl)) bc (aY _)) (ar (aP (bJ ag)))
   bg)
  (ar (aP (dA rfl (N:=["self","state","what"]) (so:=aj (inClass (top 36) 10)) (N':=["row","self","state"]) (k:=1) (fr:=[0,1]) rfl rfl ⟨rfl,by decide +kernel,by decide +kernel,by decide +kernel,rfl,by decide +kernel,by decide +kernel⟩ (bH (K:=K) (aE av (pv 2) ae (λ_ _=>rfl))) (λ_ _ _ _ _=>(aT (i:=0) (show(["row","self","state"]:List Str).Nodup by decide +kernel) rfl (Or.inl rfl))) (λ_ _ _ _ _=>(ur (nE (dj gc T.aI (pv 1) (hr.mono (by decide)) aF.pass (aa (aE av (pv 0) ae (λ_ _=>rfl)) (aa (aE av (pv 2) ae (λ_ _=>rfl)) ag (se rfl)) (se rfl)) (hst:=se rfl) (hpl:=na rfl)))))
   (λ_ _ _ _ _=>(pv 0))))))),?_⟩
  refine(?_:let cm:TS:=_;let cu:TS:=_;let cw:TS:=_;tSeq cm (tSeq cu cw) _ _ _)
  intro cm cu cw
  have sl:=sizeLine_eq
  refine(?_:let G_:Prop:=_;G_)
  intro G_
  obtain⟨dx,sp,mo,wh,tb,us,Dh,h1,h2,h3,h4,h5,h6⟩:=id co
  obtain⟨sa,l,rfl,tF,hl⟩:=id st
  dsimp only[G_]
  have lp:∀{a b c d e:V},List.lookup (Str.ofString "what_at") [(Str.ofString "spots",a),(Str.ofString "mosts",b),(Str.ofString "first",c),(Str.ofString "whats",d),(Str.ofString "tables",e)]=none:=dN (by decide +kernel) (by decide +kernel) (by decide +kernel) (by decide +kernel) (by decide +kernel)
  have Bc:∀{a b c d e:V},List.lookup (Str.ofString "holds") [(Str.ofString "spots",a),(Str.ofString "mosts",b),(Str.ofString "first",c),(Str.ofString "whats",d),(Str.ofString "tables",e)]=none:=dN (by decide +kernel) (by decide +kernel) (by decide +kernel) (by decide +kernel) (by decide +kernel)
  have gx:=gg.wt _ (eg lk)
  change tSeq _ _ _ _ _
  refine ba (λN=>∀u,Rep H0 (rP x) u->N [some (.ref c),some (.ref sa),some u] H) ?_ (λN hN=>?_)
  case refine_2=>
   simp_all only[cN,iE]
   exact⟨_,_,h1,lp,H0,s0,g,VM,nm,ns,st,x,lk,λu ru=>hN u ru⟩
  rintro u ru
  cases x with
  | pick w' rs=>
   refine(?_:let G_:Prop:=_;G_)
   intro G_
   obtain⟨p,x1,x2,x3,rfl,hp,r1,r2,r3⟩:=du.mp (show Rep H0 (.tup _) u from ru)
   rw[aS] at r1
   subst r1
   obtain⟨rl,xs,rfl,Gd,wI⟩:=bq.mp r3
   have len:=wI.length
   rw[aac,aac] at len
   obtain⟨g1,g2⟩:=gx
   dsimp only[G_]
   have zl:(xs.zip rs).length=xs.length:=by rw[List.length_zip];omega
   simp_all only[s0 _ _ hp]
   refine⟨⟨_,bL.of (s0 _ _ Gd)⟩,?_⟩
   have S:Src (Jb K rl) (aw H) xs.length _:=src_list (λH' s'=>bL.of (s' _ _ (s0 _ _ Gd)))
   rw[<-zl] at S
   refine nP (xs.zip rs) (λx=>if gK g.cs ns x.2.wh=true then some x.1 else none) S (λ_ _ _ _ h=>h.1) (by omega) ?_ ?_
   ·rintro i ⟨x,r⟩ y Ld ⟨_,ey⟩ Y N y1 y2
    obtain⟨e1,e2⟩:=List.getElem?_zip_eq_some.mp Ld
    rw[e1] at ey
    cases ey
    refine(?_:let G_:Prop:=_;G_)
    intro G_
    obtain⟨r',p',a',b',c',d',er,rfl,DM,rb,_⟩:=zE wI e1
    dsimp only[G_]
    rw[e2] at er
    cases er
    simp_all only[cN,wd,s0 _ _ DM,tF]
    exact⟨_,_,h1,Bc,g,co,ns,_,rb.mono s0,hl,ln,jR (λc=>y1 _ (if_pos c)) (λc=>y2 (if_neg c))⟩
   ·intro D n1 n2
    exact kk D _ _ (ao n2) n2 aq (qJ wI)
  | ask _ _ _ _=>
   refine(?_:let G_:Prop:=_;G_)
   intro G_
   obtain⟨p,x1,x2,x3,x4,x5,rfl,hp,r1,r2,r3,r4,r5⟩:=xX.mp (show Rep H0 (.tup _) u from ru)
   rw[aS] at r1
   subst r1
   dsimp only[G_]
   simp_all only[s0 _ _ hp]
   rw[if_pos (by decide +kernel)]
   exact⟨aah _,λD nD=>kk D _ _ (ao nD) nD aq (bK.mpr rfl)⟩
  | fin _ _=>
   refine(?_:let G_:Prop:=_;G_)
   intro G_
   obtain⟨p,x1,x2,rfl,hp,r1,r2⟩:=bO.mp (show Rep H0 (.tup _) u from ru)
   rw[aS] at r1
   subst r1
   dsimp only[G_]
   simp_all only[s0 _ _ hp]
   rw[if_pos (by decide +kernel)]
   exact⟨aah _,λD nD=>kk D _ _ (ao nD) nD aq (bK.mpr rfl)⟩
  | score _=>
   refine(?_:let G_:Prop:=_;G_)
   intro G_
   obtain⟨p,x1,x2,rfl,hp,r1,r2⟩:=bO.mp (show Rep H0 (.tup _) u from ru)
   rw[aS] at r1
   subst r1
   dsimp only[G_]
   simp_all only[s0 _ _ hp]
   rw[if_pos (by decide +kernel)]
   exact⟨aah _,λD nD=>kk D _ _ (ao nD) nD aq (bK.mpr rfl)⟩
  | gA _ _ _ _=>
   refine(?_:let G_:Prop:=_;G_)
   intro G_
   obtain⟨p,x1,x2,x3,x4,rfl,hp,r1,r2,r3,r4⟩:=fg.mp (show Rep H0 (.tup _) u from ru)
   rw[aS] at r1
   subst r1
   dsimp only[G_]
   simp_all only[s0 _ _ hp]
   rw[if_pos (by decide +kernel)]
   exact⟨aah _,λD nD=>kk D _ _ (ao nD) nD aq (bK.mpr rfl)⟩
theorem gf:aV ["self","state"] ["self","state"] (aj (inClass (top 36) 11)):=⟨rfl,rfl,rfl,by decide +kernel,rfl,by decide +kernel,by decide +kernel⟩
theorem IE (T:Txt K mg aG aH aA aL af au):b7 P w K mg base (bC P w) 3 af "words_at" ["self","state"] (Cy af):=by
 have dY:b7 P w K mg base (bC P w) 2 af "open_rows" ["self","state"] (wg af):=Dj T
 refine T.lK.eF (λ_ _ _ _ _ _ us hl=>match us,hl with | [_,_],_=>rfl) λf fd F=>F.fR gf (λvs H Q E h=>?_) (λbV A outer s H vs Q E hr h=>?_)
 ·obtain⟨_,_,_,_,_,_,rfl,_⟩:=h;rfl
 ·refine(?_:let G_:Prop:=_;G_)
  intro G_
  obtain⟨c,v,g,nm,ns,x,rfl,co,gg,st,ln,lk,kk⟩:=h
  dsimp only[G_]
  clear G_
  have nd:=gf.nd
  refine⟨_,(ar (aP (dA rfl (N:=["self","state"]) (so:=aj (inClass (top 36) 11)) (N':=["row"]) (k:=1) (fr:=[]) rfl rfl ⟨rfl,by decide +kernel,by decide +kernel,by decide +kernel,rfl,by decide +kernel,by decide +kernel⟩ (bH (K:=K) (dj dY T.aI (pv 0) (hr.mono (by decide)) aF.pass (aa (pv 1) ag (se rfl)) (hst:=se rfl) (hpl:=na rfl))) (λ_ _ _ _ _=>(aT (i:=0) (show(["row"]:List Str).Nodup by decide +kernel) rfl (Or.inl rfl))) (λ_ _ _ _ _=>dq)
   (λ_ _ _ _ _=>(aE av (pv 0) ae (λ_ _=>rfl)))))),?_⟩
  have sl:=sizeLine_eq
  refine(?_:let G_:Prop:=_;G_)
  intro G_
  obtain⟨dx,sp,mo,wh,tb,us,Dh,h1,h2,h3,h4,h5,h6⟩:=id co
  dsimp only[G_]
  clear G_
  have lp:∀{a b c d e:V},List.lookup (Str.ofString "open_rows") [(Str.ofString "spots",a),(Str.ofString "mosts",b),(Str.ofString "first",c),(Str.ofString "whats",d),(Str.ofString "tables",e)]=none:=dN (by decide +kernel) (by decide +kernel) (by decide +kernel) (by decide +kernel) (by decide +kernel)
  have gx:=gg.wt _ (eg lk)
  have Jc:(dM g.cs ns x).length<=100:=by
   cases x with
   | pick w' rs=>exact aal (List.length_filter_le _ _) gx.1
   | _=>exact aah _
  simp_all only[cN,wg]
  refine⟨_,_,h1,lp,H,aw.refl _,g,co,gg,nm,ns,st,ln,x,lk,λrl xs H1 s1 n1 Gd Ot=>?_⟩
  generalize dM g.cs ns x=rs at *
  have wI:=Ot.mono s1
  have len:=wI.length
  rw[aac,aac] at len
  have zl:(xs.zip rs).length=xs.length:=by rw[List.length_zip];omega
  refine⟨⟨_,bL.of Gd⟩,?_⟩
  have S:Src (Jb K rl) (aw H1) xs.length _:=src_list (λH' s'=>bL.of (s' _ _ Gd))
  rw[<-zl] at S
  refine nP (xs.zip rs) (λx=>some (.str x.2.word)) S (λ_ _ _ _ h=>h.1) (by omega) ?_ ?_
  ·rintro i ⟨x,r⟩ y Ld ⟨_,ey⟩ Y N y1 y2
   obtain⟨e1,e2⟩:=List.getElem?_zip_eq_some.mp Ld
   rw[e1] at ey
   cases ey
   refine(?_:let G_:Prop:=_;G_)
   intro G_
   obtain⟨r',p',a',b',c',d',er,rfl,DM,rb,_⟩:=zE wI e1
   dsimp only[G_]
   rw[e2] at er
   cases er
   simp_all only[uq,DM]
   exact y1 _ rfl
  ·intro D Yo n2
   have e:(xs.zip rs).filterMap (λx=>some (V.str x.2.word))=rs.map λr=>V.str r.word:=by
    rw[EA]
    have:(xs.zip rs).map (λx=>V.str x.2.word)=((xs.zip rs).map Prod.snd).map λr=>V.str r.word:=by rw[aaJ];rfl
    rw[this,List.map_snd_zip (by omega)]
   rw[e]
   exact kk D _ (s1.trans (ao n2)) (none_of s1 n2) (bq.mpr ⟨D,_,rfl,aq,(tR wI).mono (ao n2)⟩)
theorem fA:aV ["self","state","what"] ["self","state"] (aj (inClass (top 36) 12)):=⟨rfl,rfl,rfl,by decide +kernel,rfl,by decide +kernel,by decide +kernel⟩
theorem IF (T:Txt K mg aG aH aA aL af au):b7 P w K mg base (bC P w) 2 af "end_worth" ["self","state"] (zD af):=by
 have bQ:b7 P w K mg base (bC P w) 1 af "what_at" ["self","state"] (iE af):=qW T
 refine T.jU.eF (λ_ _ _ _ _ _ us hl=>match us,hl with | [_,_],_=>rfl) λf fd F=>F.fR fA (λvs H Q E h=>?_) (λbV A outer s H vs Q E hr h=>?_)
 ·obtain⟨_,_,_,_,_,_,_,_,rfl,_⟩:=h;rfl
 ·refine(?_:let G_:Prop:=_;G_)
  intro G_
  obtain⟨c,v,g,nm,ns,x,t,b,rfl,co,gg,st,ln,lk,ew,kk⟩:=h
  dsimp only[G_]
  have nd:=fA.nd
  refine⟨_,(ai (aK (i:=2) nd rfl (Or.inl rfl) (dj bQ T.aI (pv 0) (hr.mono (by decide)) aF.pass (aa (pv 1) ag (se rfl)) (hst:=se rfl) (hpl:=na rfl)))
  (ar (aP (iS (aM cg (aE av (pv 2) ae (λ_ _=>rfl)) bc (aY _)) (aE av (pv 2) ae (λ_ _=>rfl)) (aZ (aa (aE aX (aE av (pv 1) ae (λ_ _=>rfl)) (eP (eX hr) (b9 (pv 0) rfl) (aE av (pv 2) ae (λ_ _=>rfl)) (λ_ _=>rfl)) (λ_ _=>rfl)) (aa ae ag (se rfl)) (se rfl))))))),?_⟩
  have sl:=sizeLine_eq
  refine(?_:let G_:Prop:=_;G_)
  intro G_
  obtain⟨dx,sp,mo,wh,tb,us,Dh,h1,h2,h3,h4,h5,h6⟩:=id co
  obtain⟨sa,l,rfl,tF,hl⟩:=id st
  dsimp only[G_]
  have lp:∀{a b c d e:V},List.lookup (Str.ofString "what_at") [(Str.ofString "spots",a),(Str.ofString "mosts",b),(Str.ofString "first",c),(Str.ofString "whats",d),(Str.ofString "tables",e)]=none:=dN (by decide +kernel) (by decide +kernel) (by decide +kernel) (by decide +kernel) (by decide +kernel)
  have gx:=gg.wt _ (eg lk)
  change tSeq _ _ _ _ _
  refine ba (λN=>∀u,Rep H (rP x) u->N [some (.ref c),some (.ref sa),some u] H) ?_ (λN hN=>?_)
  case refine_2=>
   simp_all only[cN,iE]
   exact⟨_,_,h1,lp,H,aw.refl _,g,co,nm,ns,st,x,lk,λu ru=>hN u ru⟩
  rintro u ru
  cases x with
  | fin t' b'=>
   refine(?_:let G_:Prop:=_;G_)
   intro G_
   obtain⟨p,x1,x2,rfl,hp,r1,r2⟩:=bO.mp (show Rep H (.tup _) u from ru)
   rw[aS] at r1
   subst r1
   dsimp only[G_]
   cases ew
   simp_all only[d9,hp]
   exact kk _ _ (aw.refl _) r2
  | score c'=>
   refine(?_:let G_:Prop:=_;G_)
   intro G_
   obtain⟨p,x1,x2,rfl,hp,r1,r2⟩:=bO.mp (show Rep H (.tup _) u from ru)
   rw[aS] at r1 r2
   subst r1 r2
   dsimp only[G_]
   cases ew
   have hs:=dB (cs:=g.cs) gx
   simp_all only[d9,hp,tF]
   rw[if_neg (by decide +kernel)]
   refine⟨_,_,_,h1,T.aI,T.na_Course_spots,_,kB,_,rfl,_,iz h2 gx,_,_,rfl,hl,_,fJ (by omega),by decide,λp' H2 s2 np e2=>kk _ _ s2 (bO.mpr ⟨p',_,_,rfl,e2,bA.mpr rfl,bA.mpr rfl⟩)⟩
  | ask _ _ _ _=>cases ew
  | pick _ _=>cases ew
  | gA _ _ _ _=>cases ew
theorem gh:aV ["self"] ["self"] (aj (inClass (top 37) 0)):=⟨rfl,rfl,rfl,by decide +kernel,rfl,by decide +kernel,by decide +kernel⟩
theorem Le (T:Txt K mg aG aH aA aL af au):o6 P w K mg base (bC P w) 1 "Finder" au ["self"] (Ia P w au):=by
 refine T.AM.eF (λ_ _ _ _ _ _ us hl=>match us,hl with | [_],_=>rfl) λf fd F=>F.fR gh (λvs H Q E h=>?_) (λbV A outer s H vs Q E hr h=>?_)
 ·obtain⟨_,_,rfl,_⟩:=h;rfl
 ·refine(?_:let G_:Prop:=_;G_)
  intro G_
  obtain⟨x,dx,rfl,hx,kk⟩:=h
  dsimp only[G_]
  have nd:=gh.nd
  refine⟨_,(ai (lA (pv 0) (bJ ag) rfl)
  (ar (lA (pv 0) (Cg (P:=P) (w:=w)) rfl))),?_⟩
  have sl:=sizeLine_eq
  simp_all only[xu,Cf]
  refine⟨aah _,λl nl=>?_⟩
  have lx:x≠l:=λz=>by rw[<-z,hx] at nl;cases nl
  have Yp:upd H l (.lst []) x=some (.ins au dx []):=by rw[aD lx];exact hx
  refine⟨_,_,_,Yp,T.bT,T.na_Finder_states,by decide,λn nn=>?_⟩
  have e1:iL (Str.ofString "states") (V.ref l) []=[(Str.ofString "states",V.ref l)]:=rfl
  have e2:iL (Str.ofString "numbers") (V.ref n) [(Str.ofString "states",V.ref l)]=[(Str.ofString "states",V.ref l),(Str.ofString "numbers",V.ref n)]:=by
   show(if Str.ofString "states"=Str.ofString "numbers" then _ else _)=_
   rw[if_neg (by decide +kernel)]
   rfl
  rw[e1] at nn ⊢
  have xn:n≠x:=λz=>by rw[z,aq] at nn;cases nn
  rw[aD xn] at nn
  have qX:n≠l:=λz=>by rw[z,aq] at nn;cases nn
  rw[aD qX] at nn
  refine⟨_,_,_,by rw[aD (Ne.symm xn),aq],T.bT,T.na_Finder_numbers,by show(1:Nat)<1000;decide,?_⟩
  rw[e2]
  refine kk l n _ nl nn (λa o ax ha=>?_) λFr=>⟨dx,[],[],?_,Ne.symm qX,?_,trivial,?_,(λp hp=>nomatch hp),rfl,aah _⟩
  ·have al:a≠l:=λz=>by rw[z,nl] at ha;cases ha
   have an:a≠n:=λz=>by rw[z,nn] at ha;cases ha
   rw[cf al an,aD ax,aD an,aD ax,aD al]
   exact ha
  ·rw[cf lx (Ne.symm xn),aq]
  ·rw[aD (Ne.symm lx),aD (Ne.symm qX),aD (Ne.symm lx),aq]
  ·rw[aD xn,aq]
theorem fB:aV ["self","state","key"] ["self","state"] (aj (inClass (top 37) 1)):=⟨rfl,rfl,rfl,by decide +kernel,rfl,by decide +kernel,by decide +kernel⟩
theorem yi (T:Txt K mg aG aH aA aL af au):b7 P w K mg base (bC P w) 1 au "number_of" ["self","state"] (lP P w au aA):=by
 refine T.jW.eF (λ_ _ _ _ _ _ us hl=>match us,hl with | [_,_],_=>rfl) λf fd F=>F.FP fB (λvs H Q E h=>?_) (λbV A outer s H vs Q E hr h=>?_)
 ·obtain⟨_,_,_,_,_,_,_,rfl,_⟩:=h;rfl
 ·refine(?_:let G_:Prop:=_;G_)
  intro G_
  obtain⟨fa,sv,Fr,l,n,ss,st,rfl,⟨dx,xs,ks,hf,ln,hl,al,hn,an,nk,A1⟩,rQ,hs,Yq,kE,kQ⟩:=h
  dsimp only[G_]
  have nd:=fB.nd
  have AZ:A.handled=none:=hr.hd
  refine⟨_,(ai (aK (i:=2) nd rfl (Or.inl rfl) (aZ (aa (aE av (pv 1) ae (λ_ _=>rfl)) (aa (fO (qi (K:=K)) (by rfl) T.z_tuple rfl (aa (aE av (pv 1) ae (λ_ _=>rfl)) ag (se rfl)) (he:=se rfl) (hpl:=na rfl)) ag (se rfl)) (se rfl))))
  (ai (bG (xh (AI (P:=P) (w:=w) hr.units (pv 2) (b9 (pv 0) rfl))) (ai (bG (aM cg (bx cM (by rfl) T.z_len aaB (aa (b9 (pv 0) rfl) ag (se rfl)) (he:=se rfl) (hpl:=na rfl)) (mB rfl T.c_MOST_STATES) (aY _)) (ar (gO rfl T.k_TooMany T.x_TooMany AZ (aa bc ag (se rfl)) (he:=se rfl) (hpl:=na rfl)))
   bg)
  (ai (EM (P:=P) (w:=w) hr.units (b9 (pv 0) rfl) (pv 2) (bx cM (by rfl) T.z_len aaB (aa (b9 (pv 0) rfl) ag (se rfl)) (he:=se rfl) (hpl:=na rfl)) rfl)
  (ar (bZ (eE aax aaK aaL cI.r (b9 (pv 0) rfl) (aa (pv 1) ag (se rfl)))))))
   bg)
  (ar (aP (EL (P:=P) (w:=w) hr.units (b9 (pv 0) rfl) (pv 2) (λ_ _=>rfl)))))),?_⟩
  refine(?_:let cm:TS:=_;let cu:TS:=_;let cw:TS:=_;tSeq cm (tSeq cu cw) _ _ _)
  intro cm cu cw
  have sl:=sizeLine_eq
  refine(?_:let G_:Prop:=_;G_)
  intro G_
  obtain⟨sa,cl,rfl,tF,vg,MJ⟩:=id rQ
  dsimp only[G_]
  have Lf:=aJ _ _ hf
  have Ou:=aJ _ _ tF
  have Ov:=aJ _ _ vg
  have Yr:=nk.len
  have yj:=al.length
  change tSeq _ _ _ _ _
  refine ba (λN=>∀H1,aw H H1->∀b,jT (bS H1 l n) (gU st) b->N [some (.ref fa),some (.ref sa),some (.ref b)] H1) ?_ (λN hN=>?_)
  case refine_2=>
   simp_all only[Ou]
   refine⟨_,.inl ⟨bL.of Ov,λt nt=>⟨by decide,λp H2 s2 np e2=>hN _ ((ao nt).trans s2) p ?_⟩⟩⟩
   have tl:t≠l:=λz=>by rw[z,hl] at nt;cases nt
   have tn:t≠n:=λz=>by rw[z,hn] at nt;cases nt
   have pl:p≠l:=λz=>by rw[z,ao nt _ _ hl] at np;cases np
   have pn:p≠n:=λz=>by rw[z,ao nt _ _ hn] at np;cases np
   exact HZ hs (by rw[cf pl pn];exact e2) (by rw[cf tl tn];exact s2 _ _ aq)
  rintro H1 s1 b kb
  have Ow:=nk.look (s:=st)
  rw[Nat.zero_add] at Ow
  have Ys:=al.imp λ_ _ k=>Bb.mono (bu (l:=l) (n:=n) s1) k
  have Lg:=an.mono (bu (l:=l) (n:=n) s1)
  change tSeq _ _ _ _ _
  refine cQ (λσ' H2=>aw (bS H l n) (bS H2 l n)/\(st∈ss\/ss.length<120)/\lO P w au Fr H2 fa l n (fV ss st)/\jT (bS H2 l n) (gU st) b/\σ'=[some (.ref fa),some (.ref sa),some (.ref b)]) ?_ (λN hN=>?_)
  case refine_2=>
   have DE:=T.c_MOST_STATES
   simp_all only[d9,zm,F4,c7,tRaise]
   refine⟨_,_,_,s1 _ _ Lf,T.bT,T.na_Finder_numbers,_,Cz,_,⟨n,b,gU st,ks,rfl,rfl,s1 _ _ hn,Lg.mono aJ,kb.mono aJ,rfl⟩,?_⟩
   rw[Ow]
   by_cases hm:st∈ss
   ·rw[if_pos hm,if_neg (by simp)]
    refine hN _ _ ⟨bu s1,.inl hm,?_,kb,rfl⟩
    have e:fV ss st=ss:=by unfold fV;rw[if_pos hm]
    rw[e]
    exact lO.mono s1 ⟨dx,xs,ks,hf,ln,hl,al,hn,an,nk,A1⟩
   ·have Ox:iD ks (cO (gU st))=none:=by rw[Ow,if_neg hm]
    have e:fV ss st=ss++ [st]:=by unfold fV;rw[if_neg hm]
    rw[if_neg hm,if_pos (by rfl)]
    refine⟨_,_,_,s1 _ _ Lf,T.bT,T.na_Finder_states,_,kC,_,rfl,_,s1 _ _ hl,?_⟩
    by_cases full:ss.length=120
    ·rw[if_pos (by omega)]
     exact⟨by decide,kE hm full _ s1⟩
    have lt:ss.length<120:=by omega
    rw[if_neg (by omega)]
    refine⟨_,_,_,s1 _ _ Lf,T.bT,T.na_Finder_states,_,kC,_,rfl,_,s1 _ _ hl,?_⟩
    have iM:∀o,upd H1 n o l=some (.lst xs):=λo=>by rw[aD ln];exact s1 _ _ hl
    have ty:∀o,G4 K "list" (.ref l) (upd H1 n o):=λo=>.inl ⟨rfl,_,bL.of (iM o)⟩
    refine⟨_,_,_,s1 _ _ Lf,T.bT,T.na_Finder_numbers,_,Cz,_,rfl,gU st,ks,s1 _ _ hn,Lg.mono aJ,kb.mono aJ,Ox,by omega,_,_,_,by rw[aD (gW hf).2];exact s1 _ _ Lf,T.bT,T.na_Finder_states,_,kC,ty _,_,rfl,_,iM _,by omega,hN _ _ ?_⟩
    have eh:bS (upd (upd H1 n (DD P w n (ks++ [(gU st,b,((xs.length:Nat):Int))]))) l (.lst (xs++ [V.ref sa]))) l n=bS H1 l n:=by rw[AR,AS ln]
    refine⟨by rw[eh];exact bu s1,.inr lt,?_,by rw[eh];exact kb,rfl⟩
    rw[e]
    refine⟨dx,_,_,by rw[eh];exact bu s1 _ _ hf,ln,aq,by rw[eh];exact Ys.append (.one (rQ.mono (bu s1))),by rw[aD (Ne.symm ln),aq],?_,?_,by rw[aak];simp only[aaq,aa0];omega⟩
    ·rw[eh]
     intro p hp
     rcases List.mem_append.mp hp with h | h
     ·exact Lg p h
     ·rw[List.mem_singleton.mp h];exact kb
    ·have:=nk.snoc (s:=st) (b:=b)
     rw[Nat.zero_add,<-yj] at this
     exact this
  intro _ H2 dk
  refine(?_:let G_:Prop:=_;G_)
  intro G_
  obtain⟨s2,Yt,fi,kb2,rfl⟩:=dk
  obtain⟨VN,K9,Oy,g1,g2,g3,g4,g5,g6,g7,g8⟩:=id fi
  dsimp only[G_]
  simp_all only[d9,F3]
  refine⟨_,_,_,aJ _ _ g1,T.bT,T.na_Finder_numbers,_,Cz,_,⟨n,b,gU st,Oy,rfl,rfl,g5,g6.mono aJ,kb2.mono aJ,?_⟩,kQ Yt H2 s2 fi⟩
  rw[g7.look,if_pos (qK _ _),qL,Nat.zero_add]
theorem gi:aV ["self","game","spot","count","name","what"] ["self","game"] (aj (inClass (top 36) 0)):=⟨rfl,rfl,rfl,by decide +kernel,rfl,by decide +kernel,by decide +kernel⟩
theorem Ge (T:Txt K mg aG aH aA aL af au):o6 P w K mg base (bC P w) 3 "Course" af ["self","game"] (CC af):=by
 have yk:cL P w K mg base (bC P w) 2 "own_what" ["what"] HX:=K8 T
 refine T.AL.eF (λ_ _ _ _ _ _ us hl=>match us,hl with | [_,_],_=>rfl) λf fd F=>F.fR gi (λvs H Q E h=>?_) (λbV A outer s H vs Q E hr h=>?_)
 ·obtain⟨_,_,_,_,rfl,_⟩:=h;rfl
 ·refine(?_:let G_:Prop:=_;G_)
  intro G_
  obtain⟨c,dx,gv,g,rfl,hc,rg,gg,kk⟩:=h
  dsimp only[G_]
  clear G_
  have nd:=gi.nd
  refine⟨_,(ai (lA (pv 0) mm rfl)
  (ai (lA (pv 0) (bJ ag) rfl)
  (ai (cB PassesOwn.never rfl (rY (K:=K) rfl T.z_enumerate (aa (aE av (pv 1) ae (λ_ _=>rfl)) ag (se rfl))) (dQ (K:=K) (n:=2) rfl (bw (aT (i:=2) nd rfl (Or.inl rfl)) (bw (aT (i:=3) nd rfl (Or.inl rfl)) dP))) (ai (pL (eX hr) (b9 (pv 0) rfl) (aE av (pv 3) ae (λ_ _=>rfl)) (pv 2) rfl)
  (ar (bZ (eE aax aaK aaL cI.r (b9 (pv 0) rfl) (aa (aE av (pv 3) ae (λ_ _=>rfl)) ag (se rfl)))))))
  (ai (lA (pv 0) (aE av (aE aX (aE av (pv 1) ae (λ_ _=>rfl)) ae (λ_ _=>rfl)) ae (λ_ _=>rfl)) rfl)
  (ai (lA (pv 0) mm rfl)
  (ai (cB PassesOwn.never rfl (bH (K:=K) (aE av (pv 1) ae (λ_ _=>rfl))) (dQ (K:=K) (n:=2) rfl (bw (aT (i:=4) nd rfl (Or.inl rfl)) (bw (aT (i:=5) nd rfl (Or.inl rfl)) dP))) (ar (pL (eX hr) (b9 (pv 0) rfl) (pv 4) (aW yk (hr.mono (by decide)) rfl aF.pass (aa (pv 5) ag (se rfl)) (he:=se rfl) (hpl:=na rfl)) rfl)))
  (ar (lA (pv 0) mm rfl)))))))),?_⟩
  refine(?_:let cm:TS:=_;let cu:TS:=_;let cw:TS:=_;let dZ:TS:=_;let qT:TS:=_;let tY:TS:=_;let Dk:TS:=_;tSeq cm (tSeq cu (tSeq cw (tSeq dZ (tSeq qT (tSeq tY Dk))))) _ _ _)
  intro cm cu cw dZ qT tY Dk
  have sl:=sizeLine_eq
  have np:=gg.np
  have nc:=gg.nc
  have lc:=gg.lc
  have lpp:=gg.lp
  have p0:=gg.p0
  refine(?_:let G_:Prop:=_;G_)
  intro G_
  obtain⟨gp,g0,g1,rfl,Lh,rc,rp⟩:=bO.mp (show Rep H (.tup _) gv from rg)
  obtain⟨cl,Oz,rfl,vg,IB⟩:=bq.mp (show Rep H (.lst _) g0 from rc)
  obtain⟨pl,VO,rfl,hpl,Li⟩:=bq.mp (show Rep H (.lst _) g1 from rp)
  dsimp only[G_]
  clear G_
  have Lj:=IB.length
  rw[aac] at Lj
  have Lk:=Li.length
  rw[aac] at Lk
  change tSeq _ _ _ _ _
  let K1:Hp->Prop:=λH1=>∀a o,a≠c->H a=some o->H1 a=some o
  have kp:∀{H1},K1 H1->Kp H H1:=λ{H1} k a=>by
   by_cases z:a=c
   ·subst z;rw[hc];exact⟨(λ_ e=>by cases e),(λ_ e=>by cases e)⟩
   ·exact⟨λ_=>k _ _ z,λ_=>k _ _ z⟩
  have yl:∀{H1 a vs},K1 H1->H a=some (.tup vs)->H1 a=some (.tup vs):=λk e=>((kp k) _).1 _ e
  have Dm:∀{H1 a vs},K1 H1->H a=some (.lst vs)->H1 a=some (.lst vs):=λk e=>((kp k) _).2 _ e
  refine ba (λN=>∀H1,K1 H1->(∃sp,sp≠c/\H sp=none/\H1 c=some (.ins af dx [(Str.ofString "spots",.ref sp)])/\H1 sp=some (.dK []))->N [some (.ref c),some (.ref gp),none,none,none,none] H1) ?_ (λN hN=>?_)
  case refine_2=>
   simp_all only[xu,tDNewK]
   intro sp Jr
   have e1:sp≠c:=λz=>by rw[z,hc] at Jr;cases Jr
   refine⟨_,_,_,by rw[aD (Ne.symm e1)];exact hc,T.aI,T.na_Course_spots,by decide,hN _ (λa o ac ha=>?_) ⟨sp,e1,Jr,aq,by rw[aD e1,aq]⟩⟩
   rw[aD ac,aD (λz=>by rw[z,Jr] at ha;cases ha)]
   exact ha
  intro H1 k1 dk
  refine(?_:let G_:Prop:=_;G_)
  intro G_
  obtain⟨sp,Js,Jr,VP,Ll⟩:=dk
  dsimp only[G_]
  clear G_
  change tSeq _ _ _ _ _
  refine ba (λN=>∀H2,K1 H2->(∃mo,mo≠c/\mo≠sp/\H mo=none/\H2 c=some (.ins af dx [(Str.ofString "spots",.ref sp),(Str.ofString "mosts",.ref mo)])/\H2 sp=some (.dK [])/\H2 mo=some (.lst []))->N [some (.ref c),some (.ref gp),none,none,none,none] H2) ?_ (λN hN=>?_)
  case refine_2=>
   simp_all only[xu]
   refine⟨aah _,λmo Gf=>?_⟩
   have e1:mo≠c:=λz=>by rw[z,VP] at Gf;cases Gf
   have e2:mo≠sp:=λz=>by rw[z,Ll] at Gf;cases Gf
   have n0:H mo=none:=by
    cases h0:H mo with
    | none=>rfl
    | some o=>rw[k1 _ _ e1 h0] at Gf;cases Gf
   refine⟨_,_,_,by rw[aD (Ne.symm e1)];exact VP,T.aI,T.na_Course_mosts,by show(1:Nat)<1000;decide,hN _ (λa o ac ha=>?_) ⟨mo,e1,e2,n0,?_,by rw[aD Js,aD (Ne.symm e2)];exact Ll,by rw[aD e1,aq]⟩⟩
   ·rw[aD ac,aD (λz=>by rw[z,n0] at ha;cases ha)]
    exact k1 _ _ ac ha
   ·rw[aq]
    show some (HO.ins _ _ (if Str.ofString "spots"=Str.ofString "mosts" then _ else _))=_
    rw[if_neg (by decide +kernel)]
    rfl
  intro H2 k2 dk
  refine(?_:let G_:Prop:=_;G_)
  intro G_
  obtain⟨mo,Na,Lm,Gf,Yu,OA,OB⟩:=dk
  dsimp only[G_]
  clear G_
  change tSeq _ _ _ _ _
  refine ba (λN=>∀H3,K1 H3->H3 c=some (.ins af dx [(Str.ofString "spots",.ref sp),(Str.ofString "mosts",.ref mo)])->H3 sp=some (.dK (qF g.cs 0))->H3 mo=some (.lst ((g.cs.map (·.2)).map V.int))->∀z1 z2,N [some (.ref c),some (.ref gp),z1,z2,none,none] H3) ?_ (λN hN=>?_)
  case refine_2=>
   simp_all only[iEnum,yl k2 Lh]
   refine⟨⟨_,bL.of (Dm k2 vg)⟩,bX (BN (Ok:=K1) (λH' k=>bL.of (Dm k vg))) (λi σ H'=>K1 H'/\H' c=some (.ins af dx [(Str.ofString "spots",.ref sp),(Str.ofString "mosts",.ref mo)])/\H' sp=some (.dK (qF (g.cs.take i) 0))/\H' mo=some (.lst (((g.cs.take i).map (·.2)).map V.int))/\∃z1 z2,σ=[some (.ref c),some (.ref gp),z1,z2,none,none]) ⟨k2,Yu,OA,OB,_,_,rfl⟩ (λ_ _ _ _ h=>h.1) ?_ ?_⟩
   ·intro i x σ H3 H4 hi fK fj
    refine(?_:let G_:Prop:=_;G_)
    intro G_
    obtain⟨k3,Jt,ym,yn,z1,z2,rfl⟩:=fK
    obtain⟨t,y,nt,rfl,ey,rfl⟩:=fj
    obtain⟨d0,ed,rd⟩:=IB.get ey
    rw[aad] at ed
    obtain⟨cn,ec,rfl⟩:=Option.map_eq_some_iff.mp ed
    obtain⟨cp,y1,y2,rfl,Nb,r1,r2⟩:=bO.mp (show Rep H (.tup _) y from rd)
    rw[aS] at r1
    rw[bA] at r2
    subst r1 r2
    dsimp only[G_]
    clear G_
    have tk:g.cs.take (i+1)=g.cs.take i++ [cn]:=by rw[aaG,ec];rfl
    have nn:cn.1∉(g.cs.take i).map (·.1):=by
     rw[List.map_take]
     exact wj nc (by rw[aad,ec];rfl)
    have tc:t≠c:=λz=>by rw[z,Jt] at nt;cases nt
    have ts:t≠sp:=λz=>by rw[z,ym] at nt;cases nt
    have tm:t≠mo:=λz=>by rw[z,yn] at nt;cases nt
    have k4:K1 (upd H3 t (.tup [.int (i:Int),.ref cp])):=λa o ac ha=>ao nt _ _ (k3 a o ac ha)
    have Ju:upd H3 t (.tup [.int (i:Int),.ref cp]) c=_:=ao nt _ _ Jt
    have Fn:upd H3 t (.tup [.int (i:Int),.ref cp]) sp=_:=ao nt _ _ ym
    have Fo:upd H3 t (.tup [.int (i:Int),.ref cp]) mo=_:=ao nt _ _ yn
    refine⟨t,_,rfl,lg.of aq,rfl,?_⟩
    generalize upd H3 t (.tup [.int (i:Int),.ref cp])=H4 at *
    have Yv:(qF (g.cs.take i) 0).length<sizeLine:=by rw[zx,aaU];omega
    have k5:K1 (upd H4 sp (.dK (putK (qF (g.cs.take i) 0) (Sum.inr cn.1) (.int (i:Int))))):=λa o ac ha=>by
     rw[aD (λz=>by rw[z,Jr] at ha;cases ha)]
     exact k4 a o ac ha
    simp_all only[sDPut,d9,c7,yl k4 Nb]
    have Nc:d8 (qF (g.cs.take i) 0) (Sum.inr cn.1)=none:=qG nn
    rw[pR Nc] at k5
    have lt:(g.cs.take i).length=i:=by rw[aaU];omega
    have Fp:∀o,upd H4 sp o mo=some (.lst (((g.cs.take i).map (·.2)).map V.int)):=λo=>by rw[aD Lm];exact Fo
    have ty:∀o,G4 K "list" (.ref mo) (upd H4 sp o):=λo=>.inl ⟨rfl,_,bL.of (Fp o)⟩
    refine⟨_,_,_,Ju,T.aI,T.na_Course_spots,_,aaZ,_,rfl,_,.inl ⟨_,Sum.inr cn.1,Fn,rfl,Yv,rfl⟩,?_⟩
    rw[pR Nc]
    refine⟨_,_,_,by rw[aD (Ne.symm Js)];exact Ju,T.aI,T.na_Course_mosts,_,by rw[dG (by decide +kernel)];exact aaZ,ty _,_,yl k5 Nb,_,rfl,_,rfl,_,Fp _,by rw[aac,aac];omega,?_⟩
    refine⟨?_,?_,?_,?_,_,rfl⟩
    ·intro a o ac ha
     rw[aD (λz=>by rw[z,Gf] at ha;cases ha)]
     exact k5 a o ac ha
    ·rw[aD (Ne.symm Na),aD (Ne.symm Js)];exact Ju
    ·rw[aD (Ne.symm Lm),aq,tk,wb,lt,Nat.zero_add]
    ·rw[aq,tk,aao,aao]
     rfl
   ·intro σ H3 dk
    refine(?_:let G_:Prop:=_;G_)
    intro G_
    obtain⟨k3,Jt,ym,yn,z1,z2,rfl⟩:=dk
    dsimp only[G_]
    rw[<-Lj,aau (aaf _)] at ym yn
    exact hN _ k3 Jt ym yn _ _
  rintro H3 k3 Jt ym yn z1 z2
  obtain⟨⟨n0,x0⟩,VQ⟩:∃x,g.ps[0]?=some x:=⟨_,aat p0⟩
  obtain⟨v0,Yw,Yx⟩:=Li.at (by rw[aad,VQ];rfl)
  change tSeq _ _ _ _ _
  refine ba (λN=>∀H4,K1 H4->H4 c=some (.ins af dx [(Str.ofString "spots",.ref sp),(Str.ofString "mosts",.ref mo),(Str.ofString "first",.str n0)])->H4 sp=some (.dK (qF g.cs 0))->H4 mo=some (.lst ((g.cs.map (·.2)).map V.int))->N [some (.ref c),some (.ref gp),z1,z2,none,none] H4) ?_ (λN hN=>?_)
  case refine_2=>
   simp_all only[xu,yl k3 Lh]
   refine(?_:let G_:Prop:=_;G_)
   intro G_
   obtain⟨q0,a1,a2,rfl,Yy,b1,_⟩:=bO.mp (show Rep H (.tup _) v0 from Yx)
   rw[aS] at b1
   subst b1
   dsimp only[G_]
   have at0:oW VO 0=some (.ref q0):=(cP Yw:oW VO ((0:Nat):Int)=_)
   refine⟨_,Dm k3 hpl,_,at0,_,rfl,_,yl k3 Yy,_,rfl,_,_,_,Jt,T.aI,T.na_Course_first,by show(2:Nat)<1000;decide,hN _ (λa o ac ha=>?_) ?_ (by rw[aD Js];exact ym) (by rw[aD Na];exact yn)⟩
   ·rw[aD ac]
    exact k3 _ _ ac ha
   ·rw[aq]
    show some (HO.ins _ _ (if Str.ofString "spots"=Str.ofString "first" then _ else _::(if Str.ofString "mosts"=Str.ofString "first" then _ else _)))=_
    rw[if_neg (by decide +kernel),if_neg (by decide +kernel)]
    rfl
  rintro H4 k4 Ju Fn Fo
  change tSeq _ _ _ _ _
  refine ba (λN=>∀H5,K1 H5->(∃wh,wh≠c/\wh≠sp/\wh≠mo/\H wh=none/\H5 c=some (.ins af dx [(Str.ofString "spots",.ref sp),(Str.ofString "mosts",.ref mo),(Str.ofString "first",.str n0),(Str.ofString "whats",.ref wh)])/\H5 sp=some (.dK (qF g.cs 0))/\H5 mo=some (.lst ((g.cs.map (·.2)).map V.int))/\H5 wh=some (.dK []))->N [some (.ref c),some (.ref gp),z1,z2,none,none] H5) ?_ (λN hN=>?_)
  case refine_2=>
   simp_all only[xu,tDNewK]
   intro wh DN
   have e1:wh≠c:=λz=>by rw[z,Ju] at DN;cases DN
   have e2:wh≠sp:=λz=>by rw[z,Fn] at DN;cases DN
   have e3:wh≠mo:=λz=>by rw[z,Fo] at DN;cases DN
   have n0:H wh=none:=by
    cases h0:H wh with
    | none=>rfl
    | some o=>rw[k4 _ _ e1 h0] at DN;cases DN
   refine⟨_,_,_,by rw[aD (Ne.symm e1)];exact Ju,T.aI,T.na_Course_whats,by show(3:Nat)<1000;decide,hN _ (λa o ac ha=>?_) ⟨wh,e1,e2,e3,n0,?_,by rw[aD Js,aD (Ne.symm e2)];exact Fn,by rw[aD Na,aD (Ne.symm e3)];exact Fo,by rw[aD e1,aq]⟩⟩
   ·rw[aD ac,aD (λz=>by rw[z,n0] at ha;cases ha)]
    exact k4 _ _ ac ha
   ·rw[aq]
    show some (HO.ins _ _ (if Str.ofString "spots"=Str.ofString "whats" then _ else _::(if Str.ofString "mosts"=Str.ofString "whats" then _ else _::(if Str.ofString "first"=Str.ofString "whats" then _ else _))))=_
    rw[if_neg (by decide +kernel),if_neg (by decide +kernel),if_neg (by decide +kernel)]
    rfl
  intro H5 k5 dk
  refine(?_:let G_:Prop:=_;G_)
  intro G_
  obtain⟨wh,VR,OC,OD,DN,Yz,OE,Fp,OF⟩:=dk
  dsimp only[G_]
  change tSeq _ _ _ _ _
  refine ba (λN=>∀H6,K1 H6->H6 c=some (.ins af dx [(Str.ofString "spots",.ref sp),(Str.ofString "mosts",.ref mo),(Str.ofString "first",.str n0),(Str.ofString "whats",.ref wh)])->H6 sp=some (.dK (qF g.cs 0))->H6 mo=some (.lst ((g.cs.map (·.2)).map V.int))->(∃us,H6 wh=some (.dK us)/\qH H6 g.ps us)->∀z3 z4,N [some (.ref c),some (.ref gp),z1,z2,z3,z4] H6) ?_ (λN hN=>?_)
  case refine_2=>
   simp_all only[yl k5 Lh]
   refine⟨⟨_,bL.of (Dm k5 hpl)⟩,bX (src_list (Ok:=K1) (λH' k=>bL.of (Dm k hpl))) (λi σ H'=>K1 H'/\H' c=some (.ins af dx [(Str.ofString "spots",.ref sp),(Str.ofString "mosts",.ref mo),(Str.ofString "first",.str n0),(Str.ofString "whats",.ref wh)])/\H' sp=some (.dK (qF g.cs 0))/\H' mo=some (.lst ((g.cs.map (·.2)).map V.int))/\(∃us,H' wh=some (.dK us)/\qH H' (g.ps.take i) us)/\∃z3 z4,σ=[some (.ref c),some (.ref gp),z1,z2,z3,z4]) ⟨k5,Yz,OE,Fp,⟨[],OF,rfl⟩,_,_,rfl⟩ (λ_ _ _ _ h=>h.1) ?_ ?_⟩
   ·intro i x σ H7 H6 hi fK fj
    refine(?_:let G_:Prop:=_;G_)
    intro G_
    obtain⟨k6,Gg,A2,A3,⟨us,wJ,wk⟩,z3,z4,rfl⟩:=fK
    obtain⟨rfl,ey⟩:=fj
    obtain⟨d0,ed,rd⟩:=Li.get ey
    rw[aad] at ed
    obtain⟨pn,ec,rfl⟩:=Option.map_eq_some_iff.mp ed
    obtain⟨cp,y1,y2,rfl,Nb,r1,r2⟩:=bO.mp (show Rep H (.tup _) x from rd)
    rw[aS] at r1
    subst r1
    dsimp only[G_]
    have tk:g.ps.take (i+1)=g.ps.take i++ [pn]:=by rw[aaG,ec];rfl
    have nn:pn.1∉(g.ps.take i).map (·.1):=by
     rw[List.map_take]
     exact wj np (by rw[aad,ec];rfl)
    have Nc:=wk.none nn
    have lus:us.length<=100:=by rw[wk.len,aaU];omega
    refine⟨cp,_,rfl,lg.of (yl k6 Nb),rfl,?_⟩
    simp_all only[sDPut,d9,HX]
    refine⟨_,(kp k6).rep r2,_,gg.wt _ (aam ec),λu H7 s7 ru=>?_⟩
    refine⟨_,_,_,s7 _ _ Gg,T.aI,T.na_Course_whats,_,by rw[dG (by decide +kernel),dG (by decide +kernel),dG (by decide +kernel)];exact aaZ,_,rfl,_,.inl ⟨_,Sum.inr pn.1,s7 _ _ wJ,rfl,by omega,rfl⟩,?_⟩
    rw[pR Nc]
    have kq:Kp H7 (upd H7 wh (.dK (us++ [(Sum.inr pn.1,u)]))):=Kp.upd (λvs e=>by rw[s7 _ _ wJ] at e;cases e) (λvs e=>by rw[s7 _ _ wJ] at e;cases e)
    refine⟨λa o ac ha=>?_,by rw[aD (Ne.symm VR)];exact s7 _ _ Gg,by rw[aD (Ne.symm OC)];exact s7 _ _ A2,by rw[aD (Ne.symm OD)];exact s7 _ _ A3,⟨_,aq,?_⟩,_,rfl⟩
    ·rw[aD (λz=>by rw[z,DN] at ha;cases ha)]
     exact s7 _ _ (k6 _ _ ac ha)
    ·rw[tk]
     exact qH.snoc (kq.rep ru) (kq.Od (wk.mono s7))
   ·intro σ H6 dk
    refine(?_:let G_:Prop:=_;G_)
    intro G_
    obtain⟨k6,Gg,A2,A3,⟨us,wJ,wk⟩,z3,z4,rfl⟩:=dk
    dsimp only[G_]
    rw[<-Lk,aau (aaf _)] at wk
    exact hN _ k6 Gg A2 A3 ⟨us,wJ,wk⟩ _ _
  intro H6 k6 Gg A2 A3 YA z3 z4
  refine(?_:let G_:Prop:=_;G_)
  intro G_
  obtain⟨us,wJ,wk⟩:=YA
  dsimp only[G_]
  simp_all only[xu,tDNewK]
  intro tb yo
  have e1:tb≠c:=λz=>by rw[z,Gg] at yo;cases yo
  have e2:tb≠sp:=λz=>by rw[z,A2] at yo;cases yo
  have e3:tb≠mo:=λz=>by rw[z,A3] at yo;cases yo
  have e4:tb≠wh:=λz=>by rw[z,wJ] at yo;cases yo
  have Ln:H tb=none:=by
   cases h0:H tb with
   | none=>rfl
   | some o=>rw[k6 _ _ e1 h0] at yo;cases yo
  refine⟨_,_,_,by rw[aD (Ne.symm e1)];exact Gg,T.aI,T.na_Course_tables,by show(4:Nat)<1000;decide,kk tb _ (λa o ac ha=>?_) Ln (by rw[aD e1,aq]) ⟨dx,sp,mo,wh,us,n0,?_,by rw[bN (Ne.symm e2),aD Js,aD (Ne.symm e2)];exact A2,by rw[bN (Ne.symm e3),aD Na,aD (Ne.symm e3)];exact A3,by rw[bN (Ne.symm e4),aD VR,aD (Ne.symm e4)];exact wJ,?_,?_⟩⟩
  ·rw[aD ac,aD (λz=>by rw[z,Ln] at ha;cases ha)]
   exact k6 _ _ ac ha
  ·rw[bN (Ne.symm e1),aq]
   show some (HO.ins _ _ (if Str.ofString "spots"=Str.ofString "tables" then _ else _::(if Str.ofString "mosts"=Str.ofString "tables" then _ else _::(if Str.ofString "first"=Str.ofString "tables" then _ else _::(if Str.ofString "whats"=Str.ofString "tables" then _ else _)))))=_
   rw[if_neg (by decide +kernel),if_neg (by decide +kernel),if_neg (by decide +kernel),if_neg (by decide +kernel)]
   rfl
  ·have JI:upd H6 tb (.dK []) c=_:=(aD (Ne.symm e1)).trans Gg
   refine((Kp.of (ao yo)).trans ((Kp.upd (o:=_) (λvs e=>by rw[JI] at e;cases e) (λvs e=>by rw[JI] at e;cases e)).trans (Kp.c6 (tb:=tb) (kvs:=[]) ?_))).Od wk
   rw[aD e1,aq]
  ·rw[List.head?_map,List.head?_eq_getElem?,VQ]
   rfl
theorem mR:aV ["course","finder","state","rows"] ["course","finder","state"] (aj (top 39)):=⟨rfl,rfl,rfl,by decide +kernel,rfl,by decide +kernel,by decide +kernel⟩
theorem IG (T:Txt K mg aG aH aA aL af au):cL P w K mg base (bC P w) 4 "pick_ways" ["course","finder","state"] (zH P w af au aL aA):=by
 have dY:b7 P w K mg base (bC P w) 2 af "open_rows" ["self","state"] (wg af):=Dj T
 have fk:b7 P w K mg base (bC P w) 3 af "by_row" ["self","state","row","value"] (we af):=Di T
 have cJ:b7 P w K mg base (bC P w) 1 au "number_of" ["self","state"] (lP P w au aA):=yi T
 refine T.vT.eF (λ_ _ _ _ _ _ us hl=>match us,hl with | [_,_,_],_=>rfl) λf fd F=>F.FP mR (λvs H Q E h=>?_) (λbV A outer s H vs Q E hr h=>?_)
 ·obtain⟨_,_,_,_,_,_,_,_,_,_,_,rfl,_⟩:=h;rfl
 ·refine(?_:let G_:Prop:=_;G_)
  intro G_
  obtain⟨c,fa,sv,Fr,l,n,g,ss,st,wo,rs,rfl,co,gg,fi,fr,rQ,ln,lk,kE,kQ⟩:=h
  dsimp only[G_]
  clear G_
  have nd:=mR.nd
  have AZ:A.handled=none:=hr.hd
  refine⟨_,(ai (aK (i:=3) nd rfl (Or.inl rfl) (dj dY T.aI (pv 0) (hr.mono (by decide)) aF.pass (aa (pv 2) ag (se rfl)) (hst:=se rfl) (hpl:=na rfl)))
  (ai (bG (aM cg (bx cM (by rfl) T.z_len aaB (aa (pv 3) ag (se rfl)) (he:=se rfl) (hpl:=na rfl)) ae (aY _)) (ar (gO rfl T.k_NoWay T.x_NoWay AZ (aa bc ag (se rfl)) (he:=se rfl) (hpl:=na rfl)))
   bg)
  (ar (aP (B2 rfl (N:=["course","finder","state","rows"]) (so:=aj (top 39)) (N':=["row","course","finder","state"]) (k:=1) (fr:=[0,1,2]) rfl rfl ⟨rfl,by decide +kernel,by decide +kernel,by decide +kernel,rfl,by decide +kernel,by decide +kernel⟩ (bH (K:=K) (pv 3)) (λ_ _ _ _ _=>(aT (i:=0) (show(["row","course","finder","state"]:List Str).Nodup by decide +kernel) rfl (Or.inl rfl))) (λ_ _ _ _ _=>dq)
   (λ_ _ _ _ _=>(dj cJ T.bT (pv 2) (hr.mono (by decide)) B1 (aa (dj fk T.aI (pv 1) (hr.mono (by decide)) aF.pass (aa (pv 3) (aa (pv 0) (aa ae ag (se rfl)) (se rfl)) (se rfl)) (hst:=se rfl) (hpl:=na rfl)) ag (se rfl)) (hst:=se rfl) (hpl:=na rfl)))))))),?_⟩
  refine(?_:let cm:TS:=_;let cu:TS:=_;let cw:TS:=_;tSeq cm (tSeq cu cw) _ _ _)
  intro cm cu cw
  have sl:=sizeLine_eq
  refine(?_:let G_:Prop:=_;G_)
  intro G_
  obtain⟨dx,sp,mo,wh,tb,us,Dh,h1,h2,h3,h4,h5,h6⟩:=id co
  obtain⟨Jv,VS,VT,f1,f2,f3,f4,f5,f6,f7,f8⟩:=id fi
  obtain⟨sa,cl,rfl,tF,vg⟩:=id rQ
  dsimp only[G_]
  clear G_
  have gx:=gg.wt _ (eg lk)
  have lp:∀{a b c d e:V},List.lookup (Str.ofString "open_rows") [(Str.ofString "spots",a),(Str.ofString "mosts",b),(Str.ofString "first",c),(Str.ofString "whats",d),(Str.ofString "tables",e)]=none:=dN (by decide +kernel) (by decide +kernel) (by decide +kernel) (by decide +kernel) (by decide +kernel)
  have Bc:∀{a b c d e:V},List.lookup (Str.ofString "by_row") [(Str.ofString "spots",a),(Str.ofString "mosts",b),(Str.ofString "first",c),(Str.ofString "whats",d),(Str.ofString "tables",e)]=none:=dN (by decide +kernel) (by decide +kernel) (by decide +kernel) (by decide +kernel) (by decide +kernel)
  have OG:∀{a b:V},List.lookup (Str.ofString "number_of") [(Str.ofString "states",a),(Str.ofString "numbers",b)]=none:=xY (by decide +kernel) (by decide +kernel)
  change tSeq _ _ _ _ _
  refine ba (λN=>∀H1,aw H H1->∀p xs,H p=none->H1 p=some (.lst xs)->bb (bS H l n) (((dM g.cs st.2 (.pick wo rs)).map DI).map tM) xs->N [some (.ref c),some (.ref fa),some (.ref sa),some (.ref p)] H1) ?_ (λN hN=>?_)
  case refine_2=>
   simp_all only[cN,wg]
   refine⟨_,_,aJ _ _ h1,lp,bS H l n,aJ,g,co,gg,st.1,st.2,rQ.mono aJ,ln,_,lk,λp xs H1 s1 n1 e1 r1=>hN _ s1 p xs n1 e1 r1⟩
  rintro H1 s1 p xs np hp wI
  have yj:=wI.length
  rw[aac,aac] at yj
  have Jc:(dM g.cs st.2 (.pick wo rs)).length<=100:=aal (List.length_filter_le _ _) gx.1
  by_cases ne:dM g.cs st.2 (.pick wo rs)=[]
  case pos=>
   rw[ne] at yj
   have yj:0=xs.length:=yj
   simp_all only[hp,tRaise]
   rw[if_pos (by omega)]
   exact⟨by decide,kE ne _ s1⟩
  refine(?_:let G_:Prop:=_;G_)
  intro G_
  obtain⟨ts,SS,go,x8,kM,kk⟩:=kQ ne
  dsimp only[G_]
  clear G_
  unfold Goes at go
  rw[lk] at go
  refine(?_:let G_:Prop:=_;G_)
  intro G_
  obtain⟨_,tl,al⟩:=go
  dsimp only[G_]
  clear G_
  have ne0:0< (dM g.cs st.2 (.pick wo rs)).length:=List.length_pos_iff.mpr ne
  clear kE kQ
  have row:∀r∈dM g.cs st.2 (.pick wo rs),r.ds.length<=100/\∀d∈r.ds,tN g.cs d:=λr hr=>gx.2 r (List.mem_filter.mp hr).1
  generalize dM g.cs st.2 (.pick wo rs)=os at *
  simp_all only[hp]
  rw[if_neg (by omega)]
  have pl:p≠l:=λz=>by rw[z,f3] at np;cases np
  have pn:p≠n:=λz=>by rw[z,f5] at np;cases np
  refine⟨⟨_,bL.of hp⟩,CB (src_list (Ok:=λH'=>bS H' l n p=some (.lst xs)) (λH' k=>bL.of (aJ _ _ k))) (λi ys σ H'=>aw (bS H l n) (bS H' l n)/\lO P w au Fr H' fa l n (aU ss (ts.take i))/\bS H' l n p=some (.lst xs)/\(120< (aU ss ts).length\/ys=(ts.take i).map (λt=>V.int ((SS.idxOf t:Nat):Int)))/\∃z,σ=[z,some (.ref c),some (.ref fa),some (.ref sa)]) ⟨bu s1,fi.mono s1,by rw[cf pl pn];exact hp,.inr rfl,_,rfl⟩ (λ_ _ _ _ h=>h.2.2.1) (by omega) ?_ ?_⟩
  ·intro i x σ H3 ys H2 Q' N hi YB OH y1 _
   refine(?_:let G_:Prop:=_;G_)
   intro G_
   obtain⟨k2,Fq,ME,Nd,z,rfl⟩:=YB
   obtain⟨rfl,ex⟩:=OH
   obtain⟨dd,ed,rd⟩:=wI.get ex
   rw[aad,aad] at ed
   obtain⟨r4,e4,rfl⟩:=Option.map_eq_some_iff.mp ed
   obtain⟨r,er,rfl⟩:=Option.map_eq_some_iff.mp e4
   obtain⟨t,et,gr,ht⟩:=al i r er
   obtain⟨q1,q2⟩:=row r (aam er)
   dsimp only[G_]
   unfold Jl at gr
   refine(?_:let G_:Prop:=_;G_)
   intro G_
   obtain⟨gL,ak,e9⟩:=Option.map_eq_some_iff.mp gr
   subst e9
   have tk:ts.take (i+1)=ts.take i++ [(gL,r.ds.foldl (mJ g.cs 0) st.2)]:=by rw[aaG,et];rfl
   have ea:aU ss (ts.take (i+1))=fV (aU ss (ts.take i)) (gL,r.ds.foldl (mJ g.cs 0) st.2):=by
    rw[tk]
    unfold aU
    rw[List.foldl_append]
    rfl
   have ah:pC (aU ss (ts.take (i+1))) (aU ss ts):=by
    have:=eL (ts.drop (i+1)) (aU ss (ts.take (i+1)))
    unfold aU at this ⊢
    rw[<-List.foldl_append,List.take_append_drop] at this
    exact this
   have Dp:aw (bS H l n) H2:=k2.trans aJ
   obtain⟨VN,K9,Oy,u1,u2,u3,u4,u5,u6,u7,u8⟩:=id Fq
   dsimp only[G_]
   simp_all only[cN,uq,we,lP]
   refine⟨_,_,aJ _ _ u1,OG,_,_,Dp _ _ h1,Bc,g,co.mono Dp,gg,st.1,st.2,rQ.mono Dp,_,_,r.ds,r.to,rd.mono Dp,q2,q1,ln,_,gL,ak,λa b H5 s5 na nb e1 e2=>?_⟩
   have Lo:a≠l:=λz=>by rw[z,u3] at na;cases na
   have IH:a≠n:=λz=>by rw[z,u5] at na;cases na
   have DO:b≠l:=λz=>by rw[z,u3] at nb;cases nb
   have II:b≠n:=λz=>by rw[z,u5] at nb;cases nb
   have OI:Fr b:=fr b (by
    cases h0:H b with
    | none=>rfl
    | some o=>rw[Dp _ _ (by rw[cf DO II];exact h0)] at nb;cases nb)
   have OJ:Bb Fr (bS H5 l n) (.ref a) gL (r.ds.foldl (mJ g.cs 0) st.2):=⟨a,b,rfl,by rw[cf Lo IH];exact e1,by rw[cf DO II];exact e2,OI⟩
   have OK:(r.ds.foldl (mJ g.cs 0) st.2).length<=100:=by rw[gS,ln];exact gg.lc
   refine⟨Fr,l,n,_,Fq.mono s5,(gL,_),OJ,ht,OK,λxG full H6 s6=>kM ?_ _ (k2.trans (bu (s5.trans s6))),λ_ H6 s6 OL=>y1 _ _ _ ⟨k2.trans ((bu s5).trans s6),by rw[ea];exact OL,s6 _ _ (bu s5 _ _ ME),?_,_,rfl⟩⟩
   ·refine aas ?_ ah.len
    rw[ea]
    unfold fV
    rw[if_neg xG,aak,full,aaI]
    decide
   ·by_cases c:120< (aU ss ts).length
    ·exact .inl c
    ·refine .inr ?_
     have mem:(gL,r.ds.foldl (mJ g.cs 0) st.2)∈aU ss (ts.take (i+1)):=by rw[ea];exact qK _ _
     rw[Nd.resolve_left c,tk,aao,aae,aaC,(ah.trans (x8 (by omega))).idx mem,ea,qL]
  ·intro ys σ H2 Lb D VU DP
   refine(?_:let G_:Prop:=_;G_)
   intro G_
   obtain⟨k2,Fq,ME,Nd,z,rfl⟩:=Lb
   rw[<-yj,<-tl,aau (aaf _)] at Fq Nd
   obtain⟨VN,K9,Oy,u1,u2,u3,u4,u5,u6,u7,u8⟩:=id Fq
   dsimp only[G_]
   have le:(aU ss ts).length<=120:=u8
   rw[Nd.resolve_left (by omega)]
   have Dl:D≠l:=λz=>by rw[z,u3] at DP;cases DP
   have Dn:D≠n:=λz=>by rw[z,u5] at DP;cases DP
   exact kk le D _ (k2.trans (bu (ao DP))) (Fq.mono (ao DP)) (none_of s1 VU) (by rw[cf Dl Dn,aq])
theorem gj:aV ["self","state"] ["self","state"] (aj (inClass (top 36) 8)):=⟨rfl,rfl,rfl,by decide +kernel,rfl,by decide +kernel,by decide +kernel⟩
theorem wK {a b c d e:V}:List.lookup (Str.ofString "tables") [(Str.ofString "spots",a),(Str.ofString "mosts",b),(Str.ofString "first",c),(Str.ofString "whats",d),(Str.ofString "tables",e)]=some e:=by
 rw[dG (by decide +kernel),dG (by decide +kernel),dG (by decide +kernel),dG (by decide +kernel)];exact aaZ
theorem IJ (T:Txt K mg aG aH aA aL af au):b7 P w K mg base (bC P w) 7 af "table_at" ["self","state"] (CJ af):=by
 have bQ:b7 P w K mg base (bC P w) 1 af "what_at" ["self","state"] (iE af):=qW T
 have uZ:cL P w K mg base (bC P w) 6 "pool_table" ["pool"] HW:=K4 T
 refine T.lJ.eF (λ_ _ _ _ _ _ us hl=>match us,hl with | [_,_],_=>rfl) λf fd F=>F.fR gj (λvs H Q E h=>?_) (λbV A outer s H vs Q E hr h=>?_)
 ·obtain⟨_,_,_,_,_,_,_,_,_,_,_,rfl,_⟩:=h;rfl
 ·refine(?_:let G_:Prop:=_;G_)
  intro G_
  obtain⟨c,sv,g,nm,ns,tb,kvs,ps,t,b,rs,rfl,co,st,n6,VW,lk,gl,l4,kF,kN⟩:=h
  dsimp only[G_]
  have nd:=gj.nd
  refine⟨_,(ai (bG (xh (tu (eX hr) (aE av (pv 1) ae (λ_ _=>rfl)) (b9 (pv 0) rfl))) (ar (pL (eX hr) (b9 (pv 0) rfl) (aE av (pv 1) ae (λ_ _=>rfl)) (aW uZ (hr.mono (by decide)) rfl aF.pass (aa (aE av (dj bQ T.aI (pv 0) (hr.mono (by decide)) aF.pass (aa (pv 1) ag (se rfl)) (hst:=se rfl) (hpl:=na rfl)) ae (λ_ _=>rfl)) ag (se rfl)) (he:=se rfl) (hpl:=na rfl)) rfl))
   bg)
  (ar (aP (eP (eX hr) (b9 (pv 0) rfl) (aE av (pv 1) ae (λ_ _=>rfl)) (λ_ _=>rfl))))),?_⟩
  have sl:=sizeLine_eq
  refine(?_:let G_:Prop:=_;G_)
  intro G_
  obtain⟨dx,sp,mo,wh,us,Dh,h1,h2,h3,h4,h5,h6⟩:=id co
  obtain⟨sa,cl,rfl,tF,vg⟩:=id st
  dsimp only[G_]
  have Jw:=bD _ _ h1
  have lp:∀{a b c d e:V},List.lookup (Str.ofString "what_at") [(Str.ofString "spots",a),(Str.ofString "mosts",b),(Str.ofString "first",c),(Str.ofString "whats",d),(Str.ofString "tables",e)]=none:=dN (by decide +kernel) (by decide +kernel) (by decide +kernel) (by decide +kernel) (by decide +kernel)
  cases hv:d8 kvs (Sum.inr nm) with
  | some v=>
   simp_all only[d9,tF]
   refine⟨_,_,_,Jw,T.aI,T.na_Course_tables,_,wK,_,rfl,_,.inl ⟨kvs,Sum.inr nm,.inl n6,rfl,hv.symm⟩,?_⟩
   rw[if_neg (by simp)]
   exact⟨_,_,_,Jw,T.aI,T.na_Course_tables,_,wK,_,rfl,_,.inl ⟨kvs,Sum.inr nm,.inl n6,rfl,hv.symm⟩,kF v hv⟩
  | none=>
   simp_all only[d9,cN,tF,iE,HW,sDPut]
   refine⟨_,_,_,Jw,T.aI,T.na_Course_tables,_,wK,_,rfl,_,.inl ⟨kvs,Sum.inr nm,.inl n6,rfl,hv.symm⟩,?_⟩
   rw[if_pos (by rfl)]
   refine⟨_,_,Jw,lp,c6 H tb,bD,g,co.co,nm,ns,st,_,lk,λu ru=>?_⟩
   refine(?_:let G_:Prop:=_;G_)
   intro G_
   obtain⟨p,x1,x2,x3,x4,rfl,hp,r1,r2,r3,r4⟩:=fg.mp (show Rep _ (.tup _) u from ru)
   obtain⟨a,rfl,pl⟩:=Fb r2
   dsimp only[G_]
   refine⟨_,rfl,_,bD _ _ hp,_,rfl,_,rfl,ps,pl.mono bD,gl,l4,λp2 H1 s1 n1 rt=>?_⟩
   have ct:c≠tb:=λz=>by rw[z] at h1;unfold c6 at h1;rw[if_pos rfl] at h1;cases h1
   have sat:sa≠tb:=λz=>by rw[z,n6] at tF;cases tF
   refine⟨_,_,_,s1 _ _ Jw,T.aI,T.na_Course_tables,_,wK,_,s1 _ _ tF,_,rfl,_,rfl,_,.inl ⟨kvs,Sum.inr nm,s1 _ _ n6,rfl,by omega,rfl⟩,?_⟩
   rw[pR hv]
   refine⟨_,_,_,by rw[aD ct];exact s1 _ _ Jw,T.aI,T.na_Course_tables,_,wK,_,by rw[aD sat];exact s1 _ _ tF,_,rfl,_,rfl,_,.inl ⟨_,Sum.inr nm,.inl aq,rfl,?_⟩,kN hv p2 H1 s1 n1 rt⟩
   rw[wm hv,if_pos rfl]
theorem gk:aV ["self","state","value","rows"] ["self","state","value"] (aj (inClass (top 36) 7)):=⟨rfl,rfl,rfl,by decide +kernel,rfl,by decide +kernel,by decide +kernel⟩
theorem Lp (T:Txt K mg aG aH aA aL af au):b7 P w K mg base (bC P w) 4 af "by_value" ["self","state","value"] (Ii af):=by
 have bQ:b7 P w K mg base (bC P w) 1 af "what_at" ["self","state"] (iE af):=qW T
 have fk:b7 P w K mg base (bC P w) 3 af "by_row" ["self","state","row","value"] (we af):=Di T
 refine T.lI.eF (λ_ _ _ _ _ _ us hl=>match us,hl with | [_,_,_],_=>rfl) λf fd F=>F.fR gk (λvs H Q E h=>?_) (λbV A outer s H vs Q E hr h=>?_)
 ·obtain⟨_,_,_,_,_,_,_,_,_,_,_,_,_,rfl,_⟩:=h;rfl
 ·refine(?_:let G_:Prop:=_;G_)
  intro G_
  obtain⟨c,sv,v,g,nm,ns,fI,t,b,rs,r,fu,gL,rfl,co,gg,st,ln,lk,ro,ak,kk⟩:=h
  dsimp only[G_]
  have nd:=gk.nd
  refine⟨_,(ai (uu (i:=3) rfl nd rfl rfl (N:=["self","state","value","rows"]) (so:=aj (inClass (top 36) 7)) (N':=["row","value"]) (k:=1) (fr:=[2]) rfl rfl ⟨rfl,by decide +kernel,by decide +kernel,by decide +kernel,rfl,by decide +kernel,by decide +kernel⟩ (bH (K:=K) (aE av (dj bQ T.aI (pv 0) (hr.mono (by decide)) aF.pass (aa (pv 1) ag (se rfl)) (hst:=se rfl) (hpl:=na rfl)) ae (λ_ _=>rfl))) (λ_ _ _ _ _=>(aT (i:=0) (show(["row","value"]:List Str).Nodup by decide +kernel) rfl (Or.inl rfl))) (λ_ _ _ _ _=>(ur (Bq Bo Bo (aE av (pv 0) ae (λ_ _=>rfl)) (pv 1) (aE av (pv 0) ae (λ_ _=>rfl)))))
   (λ_ _ _ _ _=>(pv 0)))
  (ar (aP (dj fk T.aI (pv 0) (hr.mono (by decide)) aF.pass (aa (pv 1) (aa (aE aX (pv 3) ae (λ_ _=>rfl)) (aa (pv 2) ag (se rfl)) (se rfl)) (se rfl)) (hst:=se rfl) (hpl:=na rfl))))),?_⟩
  have sl:=sizeLine_eq
  refine(?_:let G_:Prop:=_;G_)
  intro G_
  obtain⟨dx,sp,mo,wh,tb,us,Dh,h1,h2,h3,h4,h5,h6⟩:=id co
  obtain⟨sa,cl,rfl,tF,vg⟩:=id st
  obtain⟨g0,g1,g2⟩:=gg.wt _ (eg lk)
  dsimp only[G_]
  have lp:∀{a b c d e:V},List.lookup (Str.ofString "what_at") [(Str.ofString "spots",a),(Str.ofString "mosts",b),(Str.ofString "first",c),(Str.ofString "whats",d),(Str.ofString "tables",e)]=none:=dN (by decide +kernel) (by decide +kernel) (by decide +kernel) (by decide +kernel) (by decide +kernel)
  have Bc:∀{a b c d e:V},List.lookup (Str.ofString "by_row") [(Str.ofString "spots",a),(Str.ofString "mosts",b),(Str.ofString "first",c),(Str.ofString "whats",d),(Str.ofString "tables",e)]=none:=dN (by decide +kernel) (by decide +kernel) (by decide +kernel) (by decide +kernel) (by decide +kernel)
  change tSeq _ _ _ _ _
  refine ba (λN=>∀H1,aw H H1->∀p xs,H1 p=some (.lst xs)->bb H (((rs.filter λr=>decide (r.1<=v) && decide (v<=r.2.1)).map Jk).map tM) xs->N [some (.ref c),some (.ref sa),some (.int v),some (.ref p)] H1) ?_ (λN hN=>?_)
  case refine_2=>
   simp_all only[cN,iE]
   refine⟨_,_,h1,lp,H,aw.refl _,g,co,nm,ns,st,_,lk,λu ru=>?_⟩
   refine(?_:let G_:Prop:=_;G_)
   intro G_
   obtain⟨p,x1,x2,x3,x4,rfl,hp,r1,r2,r3,r4⟩:=fg.mp (show Rep H (.tup _) u from ru)
   obtain⟨rl,xs,rfl,Gd,wI⟩:=bq.mp r4
   dsimp only[G_]
   have len:=wI.length
   rw[aac,aac] at len
   have zl:(xs.zip rs).length=xs.length:=by rw[List.length_zip];omega
   refine⟨_,rfl,_,hp,_,rfl,_,rfl,⟨_,bL.of Gd⟩,?_⟩
   have S:Src (Jb K rl) (aw H) xs.length _:=src_list (λH' s'=>bL.of (s' _ _ Gd))
   rw[<-zl] at S
   refine nP (xs.zip rs) (λx=>if (decide (x.2.1<=v) && decide (v<=x.2.2.1))=true then some x.1 else none) S (λ_ _ _ _ h=>h.1) (by omega) ?_ ?_
   ·rintro i ⟨x,r'⟩ y Ld ⟨_,ey⟩ Y N3 y1 y2
    obtain⟨e1,e2⟩:=List.getElem?_zip_eq_some.mp Ld
    rw[e1] at ey
    cases ey
    refine(?_:let G_:Prop:=_;G_)
    intro G_
    obtain⟨dd,ed,rd⟩:=wI.get e1
    dsimp only[G_]
    rw[aad,aad,e2] at ed
    cases ed
    refine(?_:let G_:Prop:=_;G_)
    intro G_
    obtain⟨p',a',b',c',d',rfl,DM,q1,q2,q3,q4⟩:=fg.mp (show Rep H (.tup _) x from rd)
    dsimp only[G_]
    rw[show a'=.int r'.1 from bA.mp q1,show b'=.int r'.2.1 from bA.mp q2] at DM
    simp_all only[DM]
    by_cases c1:r'.1<=v
    ·rw[if_pos c1]
     by_cases c2:v<=r'.2.1
     ·rw[if_pos c2];exact y1 _ (if_pos (by simp [c1,c2]))
     ·rw[if_neg c2];exact y2 (if_neg (by simp [c2]))
    ·rw[if_neg c1,if_neg (by decide)];exact y2 (if_neg (by simp [c1]))
   ·intro D n1 n2
    exact hN _ (ao n2) D _ aq (tV wI)
  rintro H1 s1 p xs hp wI
  have hd:(rs.filter λr=>decide (r.1<=v) && decide (v<=r.2.1)).head?=some r:=by rw[List.head?_filter];exact ro
  obtain⟨rest,er⟩:∃rest,(rs.filter λr=>decide (r.1<=v) && decide (v<=r.2.1))=r::rest:=by
   cases h:rs.filter λr=>decide (r.1<=v) && decide (v<=r.2.1) with
   | nil=>rw[h] at hd;cases hd
   | cons a l=>rw[h] at hd;cases hd;exact⟨l,rfl⟩
  rw[er] at wI
  refine(?_:let G_:Prop:=_;G_)
  intro G_
  obtain⟨y,ys,rfl,ry,_⟩:=aQ.mp wI
  have OM:r∈rs:=List.mem_of_find?_eq_some ro
  obtain⟨q1,q2⟩:=g2 r OM
  dsimp only[G_]
  simp_all only[cN,we]
  refine⟨_,_,s1 _ _ h1,Bc,_,hp,_,(cP rfl:oW (y::ys) ((0:Nat):Int)=_),g,co.mono s1,gg,nm,ns,st.mono s1,_,_,r.2.2.1,r.2.2.2,ry.mono s1,q2,q1,ln,fu,gL,ak,λp' l' H' s' n1 n2 e1 e2=>kk p' l' H' (s1.trans s') (none_of s1 n1) (none_of s1 n2) e1 e2⟩
theorem kS:aV ["course","finder","state","table","ways","value","weight"] ["course","finder","state"] (aj (top 38)):=⟨rfl,rfl,rfl,by decide +kernel,rfl,by decide +kernel,by decide +kernel⟩
theorem IK (T:Txt K mg aG aH aA aL af au):cL P w K mg base (bC P w) 8 "throw_ways" ["course","finder","state"] (CL P w af au aA):=by
 have mS:b7 P w K mg base (bC P w) 7 af "table_at" ["self","state"] (CJ af):=IJ T
 have mT:b7 P w K mg base (bC P w) 4 af "by_value" ["self","state","value"] (Ii af):=Lp T
 have cJ:b7 P w K mg base (bC P w) 1 au "number_of" ["self","state"] (lP P w au aA):=yi T
 have wL:cL P w K mg base (bC P w) 3 "bottom_of" ["table"] CH:=IA T
 have A4:cL P w K mg base (bC P w) 1 "weighed" ["table","bottom"] Ig:=K6 T
 refine T.uH.eF (λ_ _ _ _ _ _ us hl=>match us,hl with | [_,_,_],_=>rfl) λf fd F=>F.FP kS (λvs H Q E h=>?_) (λbV A outer s H vs Q E hr h=>?_)
 ·obtain⟨_,_,_,_,_,_,_,_,_,_,_,_,_,_,_,_,_,rfl,_⟩:=h;rfl
 ·refine(?_:let G_:Prop:=_;G_)
  intro G_
  obtain⟨c,fa,sv,Fr,l,n,tb,g,ss,st,ts,fI,t,b,rs,SS,m,rfl,co,gg,fi,Lq,Lr,fr,rQ,ln,lk,go,x8,kM,kk⟩:=h
  dsimp only[G_]
  have nd:=kS.nd
  have AZ:A.handled=none:=hr.hd
  refine⟨_,(ai (aK (i:=3) nd rfl (Or.inl rfl) (dj mS T.aI (pv 0) (hr.mono (by decide)) aF.pass (aa (pv 2) ag (se rfl)) (hst:=se rfl) (hpl:=na rfl)))
  (ai (aK (i:=4) nd rfl (Or.inl rfl) (bJ ag))
  (ai (cB PassesOwn.leaving rfl (bH (K:=K) (aW A4 (hr.mono (by decide)) rfl aF.pass (aa (pv 3) (aa (aW wL (hr.mono (by decide)) rfl aF.pass (aa (pv 3) ag (se rfl)) (he:=se rfl) (hpl:=na rfl)) ag (se rfl)) (se rfl)) (he:=se rfl) (hpl:=na rfl))) (dQ (K:=K) (n:=2) rfl (bw (aT (i:=5) nd rfl (Or.inl rfl)) (bw (aT (i:=6) nd rfl (Or.inl rfl)) dP))) (ar (bZ (eE aax aaK aaL cI.r (pv 4) (aa (aZ (aa (pv 6) (aa (dj cJ T.bT (pv 1) (hr.mono (by decide)) mn (aa (dj mT T.aI (pv 0) (hr.mono (by decide)) aF.pass (aa (pv 2) (aa (pv 5) ag (se rfl)) (se rfl)) (hst:=se rfl) (hpl:=na rfl)) ag (se rfl)) (hst:=se rfl) (hpl:=na rfl)) ag (se rfl)) (se rfl))) ag (se rfl))))))
  (ar (aP (pv 4)))))),?_⟩
  refine(?_:let cm:TS:=_;let cu:TS:=_;let cw:TS:=_;let dZ:TS:=_;tSeq cm (tSeq cu (tSeq cw dZ)) _ _ _)
  intro cm cu cw dZ
  have sl:=sizeLine_eq
  unfold eI at go
  rw[lk] at go
  refine(?_:let G_:Prop:=_;G_)
  intro G_
  obtain⟨ps,B,rfl,gl,l4,YC,tl,al⟩:=go
  obtain⟨dx,sp,mo,wh,us,Dh,h1,h2,h3,h4,h5,h6⟩:=id co
  obtain⟨Jv,VS,VT,f1,f2,f3,f4,f5,f6,f7,f8⟩:=id fi
  obtain⟨sa,cl,rfl,tF,vg⟩:=id rQ
  obtain⟨kvs,n6,YD,tabs⟩:=id Lq
  dsimp only[G_]
  have ON:=tL gl
  have tl1:(iy ps).length<=1296:=ON.2.2.1
  have lp:∀{a b c d e:V},List.lookup (Str.ofString "table_at") [(Str.ofString "spots",a),(Str.ofString "mosts",b),(Str.ofString "first",c),(Str.ofString "whats",d),(Str.ofString "tables",e)]=none:=dN (by decide +kernel) (by decide +kernel) (by decide +kernel) (by decide +kernel) (by decide +kernel)
  have Bc:∀{a b c d e:V},List.lookup (Str.ofString "by_value") [(Str.ofString "spots",a),(Str.ofString "mosts",b),(Str.ofString "first",c),(Str.ofString "whats",d),(Str.ofString "tables",e)]=none:=dN (by decide +kernel) (by decide +kernel) (by decide +kernel) (by decide +kernel) (by decide +kernel)
  have OG:∀{a b:V},List.lookup (Str.ofString "number_of") [(Str.ofString "states",a),(Str.ofString "numbers",b)]=none:=xY (by decide +kernel) (by decide +kernel)
  change tSeq _ _ _ _ _
  refine ba (λN=>∀H1 u,aw (cy H l n tb) (cy H1 l n tb)->lO P w au Fr H1 fa l n ss->AU H1 (cy H1 l n tb) tb g (m+1) Fr->(∀a,H1 a=none->H a=none)->Rep (cy H1 l n tb) (kA (iy ps)) u->N [some (.ref c),some (.ref fa),some (.ref sa),some u,none,none,none] H1) ?_ (λN hN=>?_)
  case refine_2=>
   simp_all only[cN,CJ]
   refine⟨_,_,cE _ _ h1,lp,g,st.1,st.2,tb,co.mono CD,rQ.mono cE,kvs,n6,by omega,ps,t,b,rs,lk,gl,l4,λv hv=>?_,λhv p H1 s1 np rt=>?_⟩
   ·refine(?_:let G_:Prop:=_;G_)
    intro G_
    obtain⟨Gh,t',b',Gi,xc,_,rep⟩:=tabs _ _ hv
    dsimp only[G_]
    rw[lk] at xc
    injection xc with xc
    injection xc with xc _ _ _
    rw[<-zF xc] at rep
    exact hN _ v (aw.refl _) fi (Lq.mono (aw.refl _) (by omega)) (λ_ h=>h) rep
   ·have sT:aw (c6 H tb) (c6 (upd H1 tb (.dK (kvs++ [(Sum.inr st.1,V.ref p)]))) tb):=by rw[mK];exact bI s1
    have s3:=E8 (l:=l) (n:=n) sT
    have kt:∀a vs,H1 a=some (.tup vs)->cy (upd H1 tb (.dK (kvs++ [(Sum.inr st.1,V.ref p)]))) l n tb a=some (.tup vs):=λa vs e=>by
     have e1:a≠l:=λz=>by rw[z,s1 _ _ f3] at e;cases e
     have e2:a≠n:=λz=>by rw[z,s1 _ _ f5] at e;cases e
     have e3:a≠tb:=λz=>by rw[z,s1 _ _ n6] at e;cases e
     rw[cK e1 e2 e3,aD e3]
     exact e
    have kp:∀o,H1 p=some o->cy (upd H1 tb (.dK (kvs++ [(Sum.inr st.1,V.ref p)]))) l n tb p=some o:=λo e=>by
     have e1:p≠l:=λz=>by rw[z,f3] at np;cases np
     have e2:p≠n:=λz=>by rw[z,f5] at np;cases np
     have e3:p≠tb:=λz=>by rw[z,n6] at np;cases np
     rw[cK e1 e2 e3,aD e3]
     exact e
    have VX:=zG rt kp kt
    refine hN _ (.ref p) s3 (fi.tb sT n6) ⟨_,aq,by rw[aak,aaI];omega,λnm v e=>?_⟩ (λa ha=>?_) VX
    ·rw[wm hv] at e
     by_cases z:(Sum.inr st.1:Key)=Sum.inr nm
     ·rw[if_pos z] at e
      injection z with z
      injection e with e
      subst e
      exact⟨ps,t,b,rs,z▸lk,⟨p,rfl,fr p np⟩,VX⟩
     ·rw[if_neg z] at e
      refine(?_:let G_:Prop:=_;G_)
      intro G_
      obtain⟨Gh,t',b',Gi,a1,fp,a2⟩:=tabs nm v e
      dsimp only[G_]
      exact⟨Gh,t',b',Gi,a1,fp,a2.mono s3⟩
    ·have z:a≠tb:=λz=>by rw[z,aq] at ha;cases ha
     rw[aD z] at ha
     exact none_of s1 ha
  rintro H1 u s1 Gj Nf VY ru
  refine(?_:let G_:Prop:=_;G_)
  intro G_
  obtain⟨Fs,iO,OP,Ls⟩:=id Nf
  obtain⟨dxg,VZ,V0,g1,g2,g3,g4,g5,g6,g7,g8⟩:=id Gj
  dsimp only[G_]
  change tSeq _ _ _ _ _
  refine ba (λN=>∀H2,aw H1 H2->∀w',H1 w'=none->H2 w'=some (.lst [])->N [some (.ref c),some (.ref fa),some (.ref sa),some u,some (.ref w'),none,none] H2) ?_ (λN hN=>?_)
  case refine_2=>
   simp_all only[]
   exact⟨aah _,λw' nw=>hN _ (ao nw) w' nw aq⟩
  rintro H2 s2 w' nw V1
  simp_all only[CH,Ig]
  refine⟨_,(ru.mono cE).mono s2,_,ON,λB' H3 s3 Lu=>?_⟩
  have eB:=CF Lu YC
  subst eB
  refine⟨_,(ru.mono cE).mono (s2.trans s3),_,ON,Lu,λwl H4 s4 Gk r4=>?_⟩
  have wM:aw H1 H4:=s2.trans (s3.trans s4)
  have Bd:aw H1 H3:=s2.trans s3
  have OQ:w'≠l:=λz=>by rw[z,g3] at nw;cases nw
  have V2:w'≠n:=λz=>by rw[z,g5] at nw;cases nw
  have V3:w'≠tb:=λz=>by rw[z,iO] at nw;cases nw
  have V4:H4 w'=some (.lst []):=(s3.trans s4) _ _ V1
  let X:Hp->Hp:=λH'=>c6 (cy H' l n tb) w'
  have Ft:∀{H':Hp} {a:Addr},a≠l->a≠n->a≠tb->a≠w'->X H' a=H' a:=λh1 h2 h3 h4=>by
   show c6 (cy _ l n tb) w' _=_
   rw[bN h4,cK h1 h2 h3]
  have V5:∀{H':Hp} {a:Addr} {o:HO},X H' a=some o->a≠l/\a≠n/\a≠tb/\a≠w':=λ{H' a o} e=>by
   have h4:a≠w':=λz=>by
    have e:(if a=w' then none else cy H' l n tb a)=some o:=e
    rw[if_pos z] at e
    cases e
   have e:c6 (cy H' l n tb) w' a=some o:=e
   rw[bN h4] at e
   refine(?_:let G_:Prop:=_;G_)
   intro G_
   obtain⟨h1,h2,h3⟩:=fW e
   dsimp only[G_]
   exact⟨h1,h2,h3,h4⟩
  have Dq:∀{H':Hp},aw (X H') H':=bD.trans cE
  have Lv:aw (cy H1 l n tb) (X H4):=λa o e=>by
   refine(?_:let G_:Prop:=_;G_)
   intro G_
   obtain⟨e1,e2,e3⟩:=fW e
   dsimp only[G_]
   rw[cK e1 e2 e3] at e
   rw[Ft e1 e2 e3 (λz=>by rw[z,nw] at e;cases e)]
   exact wM _ _ e
  have YE:Rep (X H4) (i5 (Nm.weigh (iy ps) B')) (.ref wl):=by
   refine CG r4 (λo e=>?_) λa vs e=>?_
   ·rw[Ft (λz=>by rw[z,Bd _ _ g3] at Gk;cases Gk) (λz=>by rw[z,Bd _ _ g5] at Gk;cases Gk) (λz=>by rw[z,Bd _ _ iO] at Gk;cases Gk) (λz=>by rw[z,s3 _ _ V1] at Gk;cases Gk)]
    exact e
   ·rw[Ft (λz=>by rw[z,wM _ _ g3] at e;cases e) (λz=>by rw[z,wM _ _ g5] at e;cases e) (λz=>by rw[z,wM _ _ iO] at e;cases e) (λz=>by rw[z,V4] at e;cases e)]
    exact e
  refine(?_:let G_:Prop:=_;G_)
  intro G_
  obtain⟨_,zs,ez,Jd,rz⟩:=bq.mp YE
  dsimp only[G_]
  cases ez
  have zl:=rz.length
  rw[aac] at zl
  have OR:(Nm.weigh (iy ps) B').length=(iy ps).length:=by unfold Nm.weigh;rw[aac]
  let Ic:Addr->Prop:=λa=>Fr a/\a≠w'
  refine⟨⟨_,bL.of (Dq _ _ Jd)⟩,bX (src_list (Ok:=λH'=>X H' wl=some (.lst zs)) (λH' k=>bL.of (Dq _ _ k))) (λi σ H'=>aw (X H4) (X H')/\lO P w au Ic H' fa l n (aU ss (gu (ts.take i)))/\H' tb=some (.dK Fs)/\(∃xs,H' w'=some (.lst xs)/\xs.length=i/\(120< (aU ss (gu ts)).length\/bb (X H') ((ts.take i).map (E9 SS)) xs))/\∃z1 z2,σ=[some (.ref c),some (.ref fa),some (.ref sa),some u,some (.ref w'),z1,z2]) ⟨aw.refl _,(Gj.fr λa o ha h0=>⟨h0,(λz=>by rw[z,nw] at ha;cases ha)⟩).mono wM,wM _ _ iO,⟨[],V4,rfl,.inr (bK.mpr rfl)⟩,_,_,rfl⟩ (λ_ _ _ _ h=>h.1 _ _ Jd) ?_ ?_⟩
  ·intro i x σ H6 H5 hi fK fj
   refine(?_:let G_:Prop:=_;G_)
   intro G_
   obtain⟨sX,A5,wN,⟨xs,Lw,xl,rx⟩,z1,z2,rfl⟩:=fK
   obtain⟨rfl,ex⟩:=fj
   obtain⟨dd,ed,rd⟩:=rz.get ex
   rw[aad] at ed
   obtain⟨x0,e0,rfl⟩:=Option.map_eq_some_iff.mp ed
   obtain⟨q,rfl,hq⟩:=dI.mp rd
   obtain⟨r,s',ro,et,gt,Er⟩:=al i x0 e0
   dsimp only[G_]
   unfold Jm at gt
   refine(?_:let G_:Prop:=_;G_)
   intro G_
   obtain⟨gL,ak,e9⟩:=Option.map_eq_some_iff.mp gt
   subst e9
   have IL:aw (X H4) H5:=sX.trans Dq
   have OS:aw (cy H l n tb) H5:=s1.trans (Lv.trans IL)
   obtain⟨dx5,xs5,ks5,u1,u2,u3,u4,u5,u6,u7,u8⟩:=id A5
   dsimp only[G_]
   have tk:ts.take (i+1)=ts.take i++ [(x0.2,(gL,r.2.2.1.foldl (mJ g.cs x0.1) st.2))]:=by rw[aaG,et];rfl
   have ea:aU ss (gu (ts.take (i+1)))=fV (aU ss (gu (ts.take i))) (gL,r.2.2.1.foldl (mJ g.cs x0.1) st.2):=by
    rw[tk]
    unfold aU gu
    rw[aao,List.foldl_append]
    rfl
   have ah:pC (aU ss (gu (ts.take (i+1)))) (aU ss (gu ts)):=by
    have:=eL (gu (ts.drop (i+1))) (aU ss (gu (ts.take (i+1))))
    unfold aU gu at this ⊢
    rw[<-List.foldl_append,<-aao,List.take_append_drop] at this
    exact this
   have ty:G4 K "list" (.ref w') H5:=.inl ⟨rfl,_,bL.of Lw⟩
   refine⟨q,_,rfl,lg.of (IL _ _ hq),rfl,?_⟩
   have Gn:∀{H':Hp} {o:HO},X (upd H' w' o)=X H':=λ{H' o}=>by
    funext a
    show(if a=w' then none else (if a=tb then none else if a=n then none else if a=l then none else upd H' w' o a))=if a=w' then none else (if a=tb then none else if a=n then none else if a=l then none else H' a)
    by_cases z:a=w'
    ·rw[if_pos z,if_pos z]
    ·rw[if_neg z,if_neg z,aD z]
   have yp:∀{H' xb:Hp},aw H' xb->aw (X H') (X xb):=λs=>bI (bI (bu s))
   simp_all only[cN,Ii,lP,c7]
   refine⟨ty,_,_,aJ _ _ u1,OG,_,_,OS _ _ h1,Bc,g,(co.mono OS).co,gg,st.1,st.2,rQ.mono OS,ln,_,_,_,_,lk,r,ro,_,gL,ak,λa b' H7 s7 na nb e1 e2=>?_⟩
   have Lo:a≠l:=λz=>by rw[z,u3] at na;cases na
   have IH:a≠n:=λz=>by rw[z,u5] at na;cases na
   have DO:b'≠l:=λz=>by rw[z,u3] at nb;cases nb
   have II:b'≠n:=λz=>by rw[z,u5] at nb;cases nb
   have YF:b'≠tb:=λz=>by rw[z,wN] at nb;cases nb
   have YG:b'≠w':=λz=>by rw[z,Lw] at nb;cases nb
   have OI:Ic b':=⟨fr b' (VY b' (by
    cases h0:H1 b' with
    | none=>rfl
    | some o=>rw[(Lv.trans IL) _ _ (by rw[cK DO II YF];exact h0)] at nb;cases nb)),YG⟩
   have OJ:Bb Ic (bS H7 l n) (.ref a) gL (r.2.2.1.foldl (mJ g.cs x0.1) st.2):=⟨a,b',rfl,by rw[cf Lo IH];exact e1,by rw[cf DO II];exact e2,OI⟩
   have OK:(r.2.2.1.foldl (mJ g.cs x0.1) st.2).length<=100:=by rw[gS,ln];exact gg.lc
   refine⟨Ic,l,n,_,A5.mono s7,(gL,_),OJ,Er,OK,λxG full H8 s8=>kM ?_ _ (s1.trans (Lv.trans (sX.trans ((yp (s7.trans s8)).trans bD)))),λ_ H8 s8 V6=>⟨by omega,λe H9 s9 ne ee=>?_⟩⟩
   ·refine aas ?_ ah.len
    rw[ea]
    unfold fV
    rw[if_neg xG,aak,full,aaI]
    decide
   have yN:tb≠l:=λz=>by rw[z,g3] at iO;cases iO
   have Lx:tb≠n:=λz=>by rw[z,g5] at iO;cases iO
   have Ly:H8 tb=some (.dK Fs):=aJ _ _ (s8 _ _ (by rw[cf yN Lx];exact s7 _ _ wN))
   have Lz:H8 w'=some (.lst xs):=aJ _ _ (s8 _ _ (by rw[cf OQ V2];exact s7 _ _ Lw))
   refine(?_:let G_:Prop:=_;G_)
   intro G_
   obtain⟨dx8,xs8,ks8,v1,v2,v3,v4,v5,v6,v7,v8⟩:=id V6
   dsimp only[G_]
   have V7:aw (X H5) (X H9):=(yp s7).trans ((bI (bI s8)).trans (yp s9))
   have mem:(gL,r.2.2.1.foldl (mJ g.cs x0.1) st.2)∈aU ss (gu (ts.take (i+1))):=by rw[ea];exact qK _ _
   have OT:¬120< (aU ss (gu ts)).length->SS.idxOf (gL,r.2.2.1.foldl (mJ g.cs x0.1) st.2)=(aU ss (gu (ts.take i))).idxOf (gL,r.2.2.1.foldl (mJ g.cs x0.1) st.2):=λc=>by rw[(ah.trans (x8 (by omega))).idx mem,ea,qL]
   refine⟨_,s9 _ _ Lz,by omega,by change aw (X _) (X _);rw[Gn];exact sX.trans V7,by rw[ea];exact(V6.mono s9).KC (λa h=>h.2) (s9 _ _ Lz) OQ,by rw[aD (Ne.symm V3)];exact s9 _ _ Ly,⟨_,aq,by rw[aak,xl];rfl,?_⟩,_,rfl⟩
   by_cases c:120< (aU ss (gu ts)).length
   ·exact .inl c
   refine .inr ?_
   change bb (X _) _ _
   rw[Gn,tk,aao]
   refine((rx.resolve_left c).mono V7).append (aQ.mpr ⟨_,_,rfl,bO.mpr ⟨e,_,_,rfl,?_,bA.mpr rfl,bA.mpr (by rw[OT c])⟩,bK.mpr rfl⟩)
   rw[Ft (λz=>by rw[z,v3] at ne;cases ne) (λz=>by rw[z,v5] at ne;cases ne) (λz=>by rw[z,Ly] at ne;cases ne) (λz=>by rw[z,Lz] at ne;cases ne)]
   exact ee
  ·intro σ H5 dk
   refine(?_:let G_:Prop:=_;G_)
   intro G_
   obtain⟨sX,A5,wN,⟨xs,Lw,xl,rx⟩,z1,z2,rfl⟩:=dk
   dsimp only[G_]
   rw[<-zl,OR,<-tl,aau (aaf _)] at A5 rx
   have le:(aU ss (gu ts)).length<=120:=by obtain⟨_,_,_,_,_,_,_,_,_,_,u8⟩:=id A5;exact u8
   have rx:=rx.resolve_left (by omega)
   simp_all only[]
   refine kk le w' H5 (s1.trans (Lv.trans (sX.trans bD))) (A5.fr λa o _ h=>h.1) ?_ (VY _ nw) (bq.mpr ⟨w',xs,rfl,by rw[cK OQ V2 V3];exact Lw,rx.mono bD⟩)
   exact⟨Fs,wN,OP,λnm v e=>by obtain⟨Gh,t',b',Gi,a1,fp,a2⟩:=Ls nm v e;exact⟨Gh,t',b',Gi,a1,fp,a2.mono (Lv.trans (sX.trans bD))⟩⟩
theorem ph:aV ["course","finder","state","what"] ["course","finder","state"] (aj (top 40)):=⟨rfl,rfl,rfl,by decide +kernel,rfl,by decide +kernel,by decide +kernel⟩
theorem LA (T:Txt K mg aG aH aA aL af au):cL P w K mg base (bC P w) 9 "taken_up" ["course","finder","state"] (zI P w af au aL aA):=by
 have bQ:b7 P w K mg base (bC P w) 1 af "what_at" ["self","state"] (iE af):=qW T
 have lT:b7 P w K mg base (bC P w) 2 af "end_worth" ["self","state"] (zD af):=IF T
 have wO:cL P w K mg base (bC P w) 4 "pick_ways" ["course","finder","state"] (zH P w af au aL aA):=IG T
 have u9:cL P w K mg base (bC P w) 8 "throw_ways" ["course","finder","state"] (CL P w af au aA):=IK T
 refine T.xT.eF (λ_ _ _ _ _ _ us hl=>match us,hl with | [_,_,_],_=>rfl) λf fd F=>F.FP ph (λvs H Q E h=>?_) (λbV A outer s H vs Q E hr h=>?_)
 ·obtain⟨_,_,_,_,_,_,_,_,_,_,_,rfl,_⟩:=h;rfl
 ·refine(?_:let G_:Prop:=_;G_)
  intro G_
  obtain⟨c,fa,sv,Fr,l,n,tb,g,ss,st,m,rfl,Gp,gg,fi,Lq,Lr,fr,LB,ln,kE,kQ⟩:=h
  dsimp only[G_]
  have co:tO af (bS H l n) c g:=(Gp.mono bD).co
  have rQ:tP (bS H l n) sv st.1 st.2:=LB.mono bD
  have nd:=ph.nd
  have AZ:A.handled=none:=hr.hd
  refine⟨_,(ai (aK (i:=3) nd rfl (Or.inl rfl) (dj bQ T.aI (pv 0) (hr.mono (by decide)) aF.pass (aa (pv 2) ag (se rfl)) (hst:=se rfl) (hpl:=na rfl)))
  (ai (bG (aM cg (aE av (pv 3) ae (λ_ _=>rfl)) bc (aY _)) (ar (aP (aZ (aa bc (aa (aE av (pv 3) ae (λ_ _=>rfl)) (aa (aW u9 (hr.mono (by decide)) rfl mn (aa (pv 0) (aa (pv 1) (aa (pv 2) ag (se rfl)) (se rfl)) (se rfl)) (he:=se rfl) (hpl:=na rfl)) ag (se rfl)) (se rfl)) (se rfl)))))
   bg)
  (ai (bG (aM cg (aE av (pv 3) ae (λ_ _=>rfl)) bc (aY _)) (ar (aP (aZ (aa bc (aa (aE av (pv 3) ae (λ_ _=>rfl)) (aa (aW wO (hr.mono (by decide)) rfl mn (aa (pv 0) (aa (pv 1) (aa (pv 2) ag (se rfl)) (se rfl)) (se rfl)) (he:=se rfl) (hpl:=na rfl)) ag (se rfl)) (se rfl)) (se rfl)))))
   bg)
  (ar (aP (aZ (aa bc (aa (dj lT T.aI (pv 0) (hr.mono (by decide)) aF.pass (aa (pv 2) ag (se rfl)) (hst:=se rfl) (hpl:=na rfl)) ag (se rfl)) (se rfl)))))))),?_⟩
  refine(?_:let cm:TS:=_;let cu:TS:=_;let cw:TS:=_;let dZ:TS:=_;tSeq cm (tSeq cu (tSeq cw dZ)) _ _ _)
  intro cm cu cw dZ
  have sl:=sizeLine_eq
  refine(?_:let G_:Prop:=_;G_)
  intro G_
  obtain⟨kvs,n6,YD,tabs⟩:=id Lq
  obtain⟨dx,sp,mo,wh,tb0,us,Dh,h1,h2,h3,h4,h5,h6⟩:=id co
  obtain⟨Jv,VS,VT,f1,f2,f3,f4,f5,f6,f7,f8⟩:=id fi
  obtain⟨sa,cl,rfl,tF,vg⟩:=id rQ
  dsimp only[G_]
  have yN:tb≠l:=λz=>by rw[z,f3] at n6;cases n6
  have Lx:tb≠n:=λz=>by rw[z,f5] at n6;cases n6
  have Gq:∀{H':Hp},aw (bS H l n) (bS H' l n)->AU H' (cy H' l n tb) tb g (m+1) Fr:=λ{H'} s=>⟨kvs,aJ _ _ (s _ _ (by rw[cf yN Lx];exact n6)),by omega,λnm v e=>by obtain⟨Gh,t',b',Gi,a1,fp,a2⟩:=tabs nm v e;exact⟨Gh,t',b',Gi,a1,fp,a2.mono (bI s)⟩⟩
  by_cases sk:qN g st
  case pos=>
   have YH:∀{a b c d e:V},List.lookup (Str.ofString "what_at") [(Str.ofString "spots",a),(Str.ofString "mosts",b),(Str.ofString "first",c),(Str.ofString "whats",d),(Str.ofString "tables",e)]=none:=dN (by decide +kernel) (by decide +kernel) (by decide +kernel) (by decide +kernel) (by decide +kernel)
   refine(?_:let G_:Prop:=_;G_)
   intro G_
   obtain⟨wo,rs,lk,ne⟩:=id sk
   dsimp only[G_]
   change tSeq _ _ _ _ _
   refine ba (λN=>∀u,Rep (bS H l n) (rP (.pick wo rs)) u->N [some (.ref c),some (.ref fa),some (.ref sa),some u] H) ?_ (λN hN=>?_)
   case refine_2=>
    simp_all only[cN,iE]
    exact⟨_,_,aJ _ _ h1,YH,bS H l n,aJ,g,co,st.1,st.2,rQ.mono aJ,_,lk,λu ru=>hN u ru⟩
   rintro u ru
   refine(?_:let G_:Prop:=_;G_)
   intro G_
   obtain⟨p,x1,x2,x3,rfl,hp,r1,r2,r3⟩:=du.mp (show Rep _ (.tup _) u from ru)
   rw[aS] at r1
   rw[bA] at r2
   subst r1 r2
   dsimp only[G_]
   simp_all only[aJ _ _ hp,zH]
   rw[if_neg (by decide +kernel)]
   exact⟨Fr,l,n,g,co,gg,ss,fi,fr,st,rQ,ln,wo,rs,lk,λ_=>kE sk,λz=>absurd ne z⟩
  refine(?_:let G_:Prop:=_;G_)
  intro G_
  obtain⟨ts,SS,go,x8,kM,kk⟩:=kQ sk
  dsimp only[G_]
  have YI:=go
  unfold eI at go
  have lp:∀{a b c d e:V},List.lookup (Str.ofString "what_at") [(Str.ofString "spots",a),(Str.ofString "mosts",b),(Str.ofString "first",c),(Str.ofString "whats",d),(Str.ofString "tables",e)]=none:=dN (by decide +kernel) (by decide +kernel) (by decide +kernel) (by decide +kernel) (by decide +kernel)
  have Bc:∀{a b c d e:V},List.lookup (Str.ofString "end_worth") [(Str.ofString "spots",a),(Str.ofString "mosts",b),(Str.ofString "first",c),(Str.ofString "whats",d),(Str.ofString "tables",e)]=none:=dN (by decide +kernel) (by decide +kernel) (by decide +kernel) (by decide +kernel) (by decide +kernel)
  have LC:∀x t b,look g.ps st.1=some x->ts=[]->E3 g.cs st.2 x=some (t,b)->(∀wo rs,x≠.pick wo rs)->∀p u H1,aw H H1->H p=none->H1 p=some (.tup [.str (Str.ofString "end"),u])->Rep H1 (.tup [.int t,.int b]) u->Q (.ref p) H1:=by
   intro x t b lk e0 ew np p u H1 s1 n1 e1 r1
   subst e0
   refine kk f8 _ H1 (bI (bu s1)) (fi.mono s1) (Gq (bu s1)) λb' ys hb=>?_
   have rd:nY g SS st []=.tup [.str (Str.ofString "end"),.tup [.int t,.int b]]:=by
    unfold nY E6
    rw[lk]
    cases x with
    | pick wo rs=>exact absurd rfl (np wo rs)
    | fin _ _=>simp only[ew];rfl
    | score _=>simp only[ew];rfl
    | ask _ _ _ _=>cases ew
    | gA _ _ _ _=>cases ew
   rw[rd]
   refine(?_:let G_:Prop:=_;G_)
   intro G_
   obtain⟨q,y1,y2,rfl,hq,z1,z2⟩:=bO.mp r1
   dsimp only[G_]
   have tp:∀a vs,H1 a=some (.tup vs)->c6 (cy H1 l n tb) b' a=some (.tup vs):=λa vs ha=>by
    have al:a≠l:=λz=>by rw[z,s1 _ _ f3] at ha;cases ha
    have an:a≠n:=λz=>by rw[z,s1 _ _ f5] at ha;cases ha
    have ab:a≠b':=λz=>by rw[z,s1 _ _ hb] at ha;cases ha
    have at':a≠tb:=λz=>by rw[z,s1 _ _ n6] at ha;cases ha
    rw[bN ab,cK al an at']
    exact ha
   exact⟨bO.mpr ⟨p,_,_,rfl,tp _ _ e1,aS.mpr rfl,bO.mpr ⟨q,y1,y2,rfl,tp _ _ hq,bA.mpr (bA.mp z1),bA.mpr (bA.mp z2)⟩⟩,p,_,rfl,tp _ _ e1,λx y w e=>by simp at e⟩
  cases lk:look g.ps st.1 with
  | none=>rw[lk] at go;exact go.elim
  | some x=>
  rw[lk] at go
  change tSeq _ _ _ _ _
  refine ba (λN=>∀u,Rep (bS H l n) (rP x) u->N [some (.ref c),some (.ref fa),some (.ref sa),some u] H) ?_ (λN hN=>?_)
  case refine_2=>
   simp_all only[cN,iE]
   exact⟨_,_,aJ _ _ h1,lp,bS H l n,aJ,g,co,st.1,st.2,rQ.mono aJ,x,lk,λu ru=>hN u ru⟩
  rintro u ru
  cases x with
  | pick wo rs=>
   refine(?_:let G_:Prop:=_;G_)
   intro G_
   obtain⟨p,x1,x2,x3,rfl,hp,r1,r2,r3⟩:=du.mp (show Rep _ (.tup _) u from ru)
   rw[aS] at r1
   rw[bA] at r2
   subst r1 r2
   dsimp only[G_]
   simp_all only[aJ _ _ hp,zH]
   rw[if_neg (by decide +kernel)]
   refine⟨Fr,l,n,g,co,gg,ss,fi,fr,st,rQ,ln,wo,rs,lk,(λz=>absurd ⟨wo,rs,lk,z⟩ sk),λ_=>⟨gu ts,go,SS,x8,λc H1 s1=>kM c _ (bI s1),λle p' H1 s1 Gj C7 DM=>⟨by omega,λp2 H2 s2 n2 e2=>kk le _ H2 (bI (s1.trans (bu s2))) (Gj.mono s2) (Gq (s1.trans (bu s2))) λb ys hb=>?_⟩⟩⟩
   refine(?_:let G_:Prop:=_;G_)
   intro G_
   obtain⟨YJ,VZ,V0,u1,u2,u3,u4,u5,u6,u7,u8⟩:=id Gj
   dsimp only[G_]
   have rd:nY g SS st ts=.tup [.str (Str.ofString "pick"),.int wo,.lst ((gu ts).map λt=>.int ((SS.idxOf t:Nat):Int))]:=by
    unfold nY E6
    rw[lk]
    rfl
   rw[rd]
   have IM:∃o,H1 b=some o:=by
    by_cases z:b=l
    ·exact⟨_,z▸u3⟩
    ·exact⟨_,aJ _ _ (s1 _ _ (by rw[cf z (λz=>by rw[z,f5] at hb;cases hb)];exact hb))⟩
   obtain⟨o,IM⟩:=IM
   have pb:p'≠b:=λz=>by rw[z,hb] at C7;cases C7
   have LD:p2≠b:=λz=>by rw[z,IM] at n2;cases n2
   have LF:p2≠l:=λz=>by rw[z,u3] at n2;cases n2
   have iO:H1 tb=some (.dK kvs):=aJ _ _ (s1 _ _ (by rw[cf yN Lx];exact n6))
   have LG:p2≠tb:=λz=>by rw[z,iO] at n2;cases n2
   have pt:p'≠tb:=λz=>by rw[z,n6] at C7;cases C7
   have LH:p2≠n:=λz=>by rw[z,u5] at n2;cases n2
   refine⟨?_,p2,_,rfl,by rw[bN LD,cK LF LH LG];exact e2,λx y w e=>by simp only[List.cons.injEq,V.ref.injEq] at e;obtain⟨_,_,e,_⟩:=e;exact e▸C7⟩
   refine du.mpr ⟨p2,_,_,_,rfl,by rw[bN LD,cK LF LH LG];exact e2,aS.mpr rfl,bA.mpr rfl,bq.mpr ⟨p',_,rfl,by rw[bN pb];show c6 (bS H2 l n) tb p'=_;rw[bN pt];exact bu s2 _ _ DM,?_⟩⟩
   have e:((gu ts).map λt=>V.int ((SS.idxOf t:Nat):Int))=((gu ts).map λt=>((SS.idxOf t:Nat):Int)).map V.int:=by rw[aaJ];rfl
   have e':((gu ts).map λt=>Dat.int ((SS.idxOf t:Nat):Int))=((gu ts).map λt=>((SS.idxOf t:Nat):Int)).map Dat.int:=by rw[aaJ];rfl
   rw[e,e']
   exact bb.ints _
  | fin t b=>
   refine(?_:let G_:Prop:=_;G_)
   intro G_
   obtain⟨p,x1,x2,rfl,hp,r1,r2⟩:=bO.mp (show Rep _ (.tup _) u from ru)
   rw[aS] at r1
   subst r1
   dsimp only[G_]
   simp_all only[aJ _ _ hp,cN,zD]
   rw[if_neg (by decide +kernel),if_neg (by decide +kernel)]
   refine⟨_,_,aJ _ _ h1,Bc,g,co.mono aJ,gg,st.1,st.2,rQ.mono aJ,ln,_,lk,_,_,rfl,λu H1 s1 r1=>⟨by omega,λp2 H2 s2 n2 e2=>LC _ _ _ lk go rfl (λ_ _ z=>by cases z) p2 u H2 (s1.trans s2) (none_of s1 n2) e2 (r1.mono s2)⟩⟩
  | score cn=>
   refine(?_:let G_:Prop:=_;G_)
   intro G_
   obtain⟨p,x1,x2,rfl,hp,r1,r2⟩:=bO.mp (show Rep _ (.tup _) u from ru)
   rw[aS] at r1
   subst r1
   dsimp only[G_]
   simp_all only[aJ _ _ hp,cN,zD]
   rw[if_neg (by decide +kernel),if_neg (by decide +kernel)]
   refine⟨_,_,aJ _ _ h1,Bc,g,co.mono aJ,gg,st.1,st.2,rQ.mono aJ,ln,_,lk,_,_,rfl,λu H1 s1 r1=>⟨by omega,λp2 H2 s2 n2 e2=>LC _ _ _ lk go rfl (λ_ _ z=>by cases z) p2 u H2 (s1.trans s2) (none_of s1 n2) e2 (r1.mono s2)⟩⟩
  | ask _ _ _ _=>exact go.elim
  | gA fI t b rs=>
   refine(?_:let G_:Prop:=_;G_)
   intro G_
   obtain⟨p,x1,x2,x3,x4,rfl,hp,r1,r2,r3,r4⟩:=fg.mp (show Rep _ (.tup _) u from ru)
   rw[aS] at r1
   subst r1
   dsimp only[G_]
   simp_all only[aJ _ _ hp,CL]
   refine⟨Fr,l,n,tb,g,Gp,gg,ss,fi,st,ts,fI,t,b,rs,SS,m,Lq,Lr,fr,LB,ln,lk,YI,x8,kM,λle p' H1 s1 Gj Nf C7 YK=>⟨by omega,λp2 H2 s2 n2 e2=>kk le _ H2 (s1.trans (bI (bu s2))) (Gj.mono s2) ((Nf.heap λ_ h=>s2 _ _ h).mono (bI (bu s2)) (aaf _)) λb' ys hb=>?_⟩⟩
   refine(?_:let G_:Prop:=_;G_)
   intro G_
   obtain⟨YJ,VZ,V0,u1,u2,u3,u4,u5,u6,u7,u8⟩:=id Gj
   obtain⟨Fs,iO,_,_⟩:=id Nf
   dsimp only[G_]
   have rd:nY g SS st ts=.tup [.str (Str.ofString "throw"),.tup [.int t,.int b],.lst (ts.map (E9 SS))]:=by
    unfold nY
    rw[lk]
   rw[rd]
   have b1:∀{a vs},cy H1 l n tb a=some (.tup vs)->c6 (cy H2 l n tb) b' a=some (.tup vs):=λ{a vs} ha=>by
    refine(?_:let G_:Prop:=_;G_)
    intro G_
    obtain⟨e1,e2,e3⟩:=fW ha
    dsimp only[G_]
    have ab:a≠b':=λz=>by
     subst z
     have:=s1 _ _ (by rw[cK e1 e2 e3];exact hb)
     rw[this] at ha
     cases ha
    rw[bN ab]
    exact bI (bu s2) _ _ ha
   have IM:∃o,H1 b'=some o:=by
    by_cases z:b'=l
    ·exact⟨_,z▸u3⟩
    ·exact⟨_,cE _ _ (s1 _ _ (by rw[cK z (λz=>by rw[z,f5] at hb;cases hb) (λz=>by rw[z,n6] at hb;cases hb)];exact hb))⟩
   obtain⟨o,IM⟩:=IM
   have LD:p2≠b':=λz=>by rw[z,IM] at n2;cases n2
   have LF:p2≠l:=λz=>by rw[z,u3] at n2;cases n2
   have LH:p2≠n:=λz=>by rw[z,u5] at n2;cases n2
   have LG:p2≠tb:=λz=>by rw[z,iO] at n2;cases n2
   have pb:p'≠b':=λz=>by rw[z,hb] at C7;cases C7
   refine(?_:let G_:Prop:=_;G_)
   intro G_
   obtain⟨pa,y1,y2,rfl,V8,q1,q2⟩:=bO.mp r3
   have OU:cy H l n tb pa=some (.tup [y1,y2]):=by
    show c6 (bS H l n) tb pa=_
    rw[bN (λz=>by have:=aJ _ _ V8;rw[z,n6] at this;cases this)]
    exact V8
   obtain⟨p'',zs,ez,DM,rz⟩:=bq.mp YK
   dsimp only[G_]
   cases ez
   refine⟨?_,p2,_,rfl,by rw[bN LD,cK LF LH LG];exact e2,λx y w e=>by simp only[List.cons.injEq,V.ref.injEq] at e;obtain⟨_,_,e,_⟩:=e;exact e▸C7⟩
   refine du.mpr ⟨p2,_,_,_,rfl,by rw[bN LD,cK LF LH LG];exact e2,aS.mpr rfl,bO.mpr ⟨pa,y1,y2,rfl,b1 (s1 _ _ OU),bA.mpr (bA.mp q1),bA.mpr (bA.mp q2)⟩,bq.mpr ⟨p',zs,rfl,by rw[bN pb];exact bI (bu s2) _ _ DM,bb.of rz.length λi d v ed ev=>?_⟩⟩
   refine(?_:let G_:Prop:=_;G_)
   intro G_
   obtain⟨d',F8,Oo⟩:=rz.get ev
   dsimp only[G_]
   rw[ed] at F8
   cases F8
   rw[aad] at ed
   refine(?_:let G_:Prop:=_;G_)
   intro G_
   obtain⟨x,_,rfl⟩:=Option.map_eq_some_iff.mp ed
   obtain⟨q,a1,a2,rfl,hq,c1,c2⟩:=bO.mp (show Rep _ (.tup _) v from Oo)
   dsimp only[G_]
   exact bO.mpr ⟨q,a1,a2,rfl,b1 hq,bA.mpr (bA.mp c1),bA.mpr (bA.mp c2)⟩
theorem tZ:aV ["game","course","finder","board"] ["game"] (aj (top 41)):=⟨rfl,rfl,rfl,by decide +kernel,rfl,by decide +kernel,by decide +kernel⟩
theorem wQ {α β:Type} {x:α} {y:β}:∀{as:List α} {bs:List β},as[bs.length]?=some x->as.zip (bs++ [y])=as.zip bs++ [(x,y)]
 | [],_,e=>by simp at e
 | a::as,[],e=>by
  have e:some a=some x:=e
  cases e
  simp
 | a::as,b::bs,e=>by
  rw[List.cons_append,List.zip_cons_cons,List.zip_cons_cons,wQ (as:=as) (bs:=bs) (by simpa using e)]
  rfl
theorem V9 {Fr:Addr->Prop} {H:Hp} {l n tb:Addr} {kvs:List (Key×V)} {v:V} {nm:Str} {ns:List Int} (n6:H tb=some (.dK kvs)) (rv:Bb Fr (bS H l n) v nm ns):tP (cy H l n tb) v nm ns:=by
 obtain⟨a,cc,e,q1,q2,q3⟩:=rv
 refine⟨a,cc,e,?_,?_⟩
 ·show c6 (bS H l n) tb a=_
  rw[bN (λz=>by have:=aJ _ _ q1;rw[z,n6] at this;cases this)]
  exact q1
 ·show c6 (bS H l n) tb cc=_
  rw[bN (λz=>by have:=aJ _ _ q2;rw[z,n6] at this;cases this)]
  exact q2
theorem Dr (T:Txt K mg aG aH aA aL af au):cL P w K mg base (bC P w) 10 "spread" ["game"] (qO aL aA):=by
 have qY:b7 P w K mg base (bC P w) 2 af "start" ["self"] (Cu af):=ID T
 have mU:b7 P w K mg base (bC P w) 3 af "words_at" ["self","state"] (Cy af):=IE T
 have cJ:b7 P w K mg base (bC P w) 1 au "number_of" ["self","state"] (lP P w au aA):=yi T
 have yq:cL P w K mg base (bC P w) 9 "taken_up" ["course","finder","state"] (zI P w af au aL aA):=LA T
 have qZ:o6 P w K mg base (bC P w) 3 "Course" af ["self","game"] (CC af):=Ge T
 have Ds:o6 P w K mg base (bC P w) 1 "Finder" au ["self"] (Ia P w au):=Le T
 refine T.Cn.eF (λ_ _ _ _ _ _ us hl=>match us,hl with | [_],_=>rfl) λf fd F=>F.FP tZ (λvs H Q E h=>?_) (λbV A outer s H vs Q E hr h=>?_)
 ·obtain⟨_,_,_,_,_,_,_,_,rfl,_⟩:=h;rfl
 ·refine(?_:let G_:Prop:=_;G_)
  intro G_
  obtain⟨gv,g,ft,nm,fu,oo,SS,hX,rfl,rg,gg,hd,ak,Jx,o2,sp,A1,kW,kM,kk⟩:=h
  dsimp only[G_]
  have nd:=tZ.nd
  have AZ:A.handled=none:=hr.hd
  refine⟨_,(ai (aK (i:=1) nd rfl (Or.inr rfl) (F1 qZ (hr.mono (by decide)) rfl aF.pass (aa (pv 0) ag (se rfl)) (he:=se rfl) (hpl:=na rfl)))
  (ai (aK (i:=2) nd rfl (Or.inl rfl) (HC Ds (hr.mono (by decide)) rfl aF.pass))
  (ai (bZ (dj cJ T.bT (pv 2) (hr.mono (by decide)) mn (aa (HB qY T.aI (pv 1) (hr.mono (by decide)) aF.pass) ag (se rfl)) (hst:=se rfl) (hpl:=na rfl)))
  (ai (aK (i:=3) nd rfl (Or.inl rfl) (bJ ag))
  (ai (pY PassesOwn.leaving (aM vp (bx cM (by rfl) T.z_len aaB (aa (pv 3) ag (se rfl)) (he:=se rfl) (hpl:=na rfl)) (bx cM (by rfl) T.z_len aaB (aa (b9 (pv 2) rfl) ag (se rfl)) (he:=se rfl) (hpl:=na rfl)) (aY _)) (ar (bZ (eE aax aaK aaL cI.r (pv 3) (aa (aW yq (hr.mono (by decide)) rfl mn (aa (pv 1) (aa (pv 2) (aa (aE aX (b9 (pv 2) rfl) (bx cM (by rfl) T.z_len aaB (aa (pv 3) ag (se rfl)) (he:=se rfl) (hpl:=na rfl)) (λ_ _=>rfl)) ag (se rfl)) (se rfl)) (se rfl)) (he:=se rfl) (hpl:=na rfl)) ag (se rfl))))))
  (ar (aP (aZ (aa (pv 3) (aa (b9 (pv 2) rfl) (aa (dA rfl (N:=["game","course","finder","board"]) (so:=aj (top 41)) (N':=["state","course"]) (k:=1) (fr:=[1]) rfl rfl ⟨rfl,by decide +kernel,by decide +kernel,by decide +kernel,rfl,by decide +kernel,by decide +kernel⟩ (bH (K:=K) (b9 (pv 2) rfl)) (λ_ _ _ _ _=>(aT (i:=0) (show(["state","course"]:List Str).Nodup by decide +kernel) rfl (Or.inl rfl))) (λ_ _ _ _ _=>dq)
   (λ_ _ _ _ _=>(dj mU T.aI (pv 1) (hr.mono (by decide)) aF.pass (aa (pv 0) ag (se rfl)) (hst:=se rfl) (hpl:=na rfl)))) ag (se rfl)) (se rfl)) (se rfl)))))))))),?_⟩
  refine(?_:let cm:TS:=_;let cu:TS:=_;let cw:TS:=_;let dZ:TS:=_;let qT:TS:=_;let tY:TS:=_;tSeq cm (tSeq cu (tSeq cw (tSeq dZ (tSeq qT tY)))) _ _ _)
  intro cm cu cw dZ qT tY
  have sl:=sizeLine_eq
  have lc:=gg.lc
  change tSeq _ _ _ _ _
  refine ba (λN=>∀H1 tb c,aw H (c6 H1 tb)->H1 tb=some (.dK [])->DJ af (c6 H1 tb) c g tb->N [some gv,some (.ref c),none,none] H1) ?_ (λN hN=>?_)
  case refine_2=>
   simp_all only[p9,CC]
   intro c dx nc LI dc
   have sm:aw H (upd (upd H dx (.own c)) c (.ins af dx [])):=(ao LI).trans (ao (by rw[aD (Ne.symm dc)];exact nc))
   refine⟨_,aq,g,rg.mono sm,gg,λtb H1 k1 yo n6 co=>hN _ tb c (λa o ha=>?_) n6 co⟩
   rw[bN (λz=>by rw[z,none_of sm yo] at ha;cases ha)]
   exact k1 a o (λz=>by rw[z,nc] at ha;cases ha) (sm _ _ ha)
  rintro H1 tb c Gr iO Gp
  have s1:aw H H1:=Gr.trans bD
  have co:tO af H1 c g:=(Gp.mono bD).co
  have yo:H tb=none:=by
   cases h0:H tb with
   | none=>rfl
   | some o=>have:=Gr _ _ h0;unfold c6 at this;rw[if_pos rfl] at this;cases this
  change tSeq _ _ _ _ _
  refine ba (λN=>∀H2 fa l n,H1 l=none->H1 n=none->aw H1 (bS H2 l n)->(∀Fr,lO P w au Fr H2 fa l n [])->N [some gv,some (.ref c),some (.ref fa),none] H2) ?_ (λN hN=>?_)
  case refine_2=>
   simp_all only[p9,Ia]
   intro fa dx nf LI dc
   have YL:upd H1 dx (.own fa) fa=none:=by rw[aD (Ne.symm dc)];exact nf
   have sm:aw H1 (upd (upd H1 dx (.own fa)) fa (.ins au dx [])):=(ao LI).trans (ao YL)
   refine⟨_,aq,λl n H2 nl nn k2 fi=>hN _ fa l n (none_of sm nl) (none_of sm nn) (λa o ha=>k2 a o (λz=>by rw[z,nf] at ha;cases ha) (sm _ _ ha)) fi⟩
  rintro H2 fa l n nl nn s2 Fq
  have YM:∀{a b:V},List.lookup (Str.ofString "number_of") [(Str.ofString "states",a),(Str.ofString "numbers",b)]=none:=xY (by decide +kernel) (by decide +kernel)
  have YN:∀{a b c d e:V},List.lookup (Str.ofString "start") [(Str.ofString "spots",a),(Str.ofString "mosts",b),(Str.ofString "first",c),(Str.ofString "whats",d),(Str.ofString "tables",e)]=none:=dN (by decide +kernel) (by decide +kernel) (by decide +kernel) (by decide +kernel) (by decide +kernel)
  have YO:∀{a b c d e:V},List.lookup (Str.ofString "words_at") [(Str.ofString "spots",a),(Str.ofString "mosts",b),(Str.ofString "first",c),(Str.ofString "whats",d),(Str.ofString "tables",e)]=none:=dN (by decide +kernel) (by decide +kernel) (by decide +kernel) (by decide +kernel) (by decide +kernel)
  refine(?_:let G_:Prop:=_;G_)
  intro G_
  obtain⟨dx,YQ,mo,wh,us,Dh,Wa,h2,h3,h4,h5,h6⟩:=id Gp
  dsimp only[G_]
  have h1:=bD _ _ Wa
  change tSeq _ _ _ _ _
  refine ba (λN=>∀H3,aw H1 (bS H3 l n)->lO P w au (λa=>H a=none) H3 fa l n [(nm,List.replicate g.cs.length 0)]->N [some gv,some (.ref c),some (.ref fa),none] H3) ?_ (λN hN=>?_)
  case refine_2=>
   have OV:aw H1 H2:=s2.trans aJ
   refine(?_:let G_:Prop:=_;G_)
   intro G_
   obtain⟨Jv,Ng,OW,u1,u2,u3,u4,u5,u6,u7,u8⟩:=Fq (λa=>H a=none)
   dsimp only[G_]
   simp_all only[cN,Cu,lP]
   refine⟨_,_,aJ _ _ u1,YM,_,_,OV _ _ h1,YN,g,co.mono OV,gg,fu,ft,hd,nm,ak,λa b H3 s3 na nb e1 e2=>?_⟩
   have Lo:a≠l:=λz=>by rw[z,u3] at na;cases na
   have IH:a≠n:=λz=>by rw[z,u5] at na;cases na
   have DO:b≠l:=λz=>by rw[z,u3] at nb;cases nb
   have II:b≠n:=λz=>by rw[z,u5] at nb;cases nb
   refine⟨λa=>H a=none,l,n,[],(Fq _).mono s3,(nm,List.replicate g.cs.length 0),⟨a,b,rfl,by rw[cf Lo IH];exact e1,by rw[cf DO II];exact e2,none_of (s1.trans OV) nb⟩,Jx,by rw[List.length_replicate];exact lc,(λ_ z=>by cases z),λ_ H4 s4 OX=>hN _ (s2.trans ((bu s3).trans s4)) OX⟩
  rintro H3 s3 Wb
  change tSeq _ _ _ _ _
  refine ba (λN=>∀H4,aw H1 (bS H4 l n)->∀b,H1 b=none->b≠l->H4 b=some (.lst [])->lO P w au (λa=>H a=none/\a≠b) H4 fa l n [(nm,List.replicate g.cs.length 0)]->N [some gv,some (.ref c),some (.ref fa),some (.ref b)] H4) ?_ (λN hN=>?_)
  case refine_2=>
   refine(?_:let G_:Prop:=_;G_)
   intro G_
   obtain⟨Jv,Ng,OW,u1,u2,u3,u4,u5,u6,u7,u8⟩:=id Wb
   dsimp only[G_]
   simp_all only[]
   refine⟨aah _,λb nb=>hN _ (s3.trans (bu (ao nb))) b (none_of (s3.trans aJ) nb) (λz=>by rw[z,u3] at nb;cases nb) aq ((Wb.fr λa o ha h0=>⟨h0,(λz=>by rw[z,nb] at ha;cases ha)⟩).mono (ao nb))⟩
  rintro H4 s4 b nb bl hb OX
  change tSeq _ _ _ _ _
  have yN:tb≠l:=λz=>by rw[z,nl] at iO;cases iO
  have Lx:tb≠n:=λz=>by rw[z,nn] at iO;cases iO
  refine ba (λN=>∀H5,oo=0->aw (c6 H1 tb) (cy H5 l n tb)->lO P w au (λa=>H a=none/\a≠b) H5 fa l n SS->(∃bs,H5 b=some (.lst bs)/\bb H5 (wq g SS hX) bs/\∀v∈bs,Jn H H5 b l v)->N [some gv,some (.ref c),some (.ref fa),some (.ref b)] H5) ?_ (λN hN=>?_)
  case refine_2=>
   refine zC (λm σ H'=>∃dn rest ss bs,hX=dn++rest/\m=rest.length/\dn.length<=SS.length/\iF g oo SS dn.length ss rest/\aw (c6 H1 tb) (cy H' l n tb)/\AU H' (cy H' l n tb) tb g dn.length (λa=>H a=none/\a≠b)/\lO P w au (λa=>H a=none/\a≠b) H' fa l n ss/\H' b=some (.lst bs)/\(∀v∈bs,Jn H (c6 (cy H' l n tb) b) b l v)/\bb (c6 (cy H' l n tb) b) ((SS.zip dn).map λx=>nY g SS x.1 x.2) bs/\σ=[some gv,some (.ref c),some (.ref fa),some (.ref b)]) (m:=hX.length) ⟨[],hX,_,[],rfl,rfl,aah _,sp,bI s4,⟨[],aJ _ _ (s4 _ _ iO),aaf _,λnm v e=>by cases e⟩,OX,hb,(λv hv=>by cases hv),by rw[List.zip_nil_right];exact bK.mpr rfl,rfl⟩ ?_
   intro m _ H5 Lb
   refine(?_:let G_:Prop:=_;G_)
   intro G_
   obtain⟨dn,rest,ss,bs,et,rfl,dS,sd,s5,OY,A5,t5,Nh,rb,rfl⟩:=Lb
   obtain⟨YR,wN,YS,Wc⟩:=id OY
   obtain⟨Jv,Ng,OW,u1,u2,u3,u4,u5,u6,u7,u8⟩:=id A5
   dsimp only[G_]
   have x8:=sd.x8
   have xl:=u4.length
   have DO:bs.length=dn.length:=by
    have:=rb.length
    rw[aac,List.length_zip] at this
    omega
   cases rest with
   | nil=>
    refine(?_:let G_:Prop:=_;G_)
    intro G_
    obtain⟨_,c0,c1,c2⟩:=sd
    dsimp only[G_]
    by_cases o0:oo=0
    ·obtain⟨rfl,e2⟩:=c0 o0
     refine⟨false,λQ hq=>?_,?_⟩
     ·simp_all only[d9]
      refine⟨_,t5,_,_,_,aJ _ _ u1,T.bT,T.na_Finder_states,_,kC,_,rfl,_,u3,?_⟩
      rw[decide_eq_false (by omega)]
      exact hq
     ·rw[if_neg (by simp)]
      rw[aaP] at et
      exact hN _ o0 s5 A5 ⟨bs,t5,by rw[et];exact rb.mono (bD.trans cE),λv hv=>(Nh v hv).mono (bD.trans cE)⟩
    ·obtain⟨st,es,ls⟩:∃st,ss[dn.length]?=some st/\st.2.length=g.cs.length:=by
      by_cases o1:oo=1
      ·obtain⟨st,a,b,_⟩:=c1 o1;exact⟨st,a,b⟩
      ·obtain⟨st,_,a,b,_⟩:=c2 (by omega);exact⟨st,a,b⟩
     have Wd:=(List.getElem?_eq_some_iff.mp es).1
     refine⟨true,λQ hq=>?_,?_⟩
     ·simp_all only[d9]
      refine⟨_,t5,_,_,_,aJ _ _ u1,T.bT,T.na_Finder_states,_,kC,_,rfl,_,u3,?_⟩
      rw[decide_eq_true (by omega)]
      exact hq
     ·rw[if_pos rfl]
      refine(?_:let G_:Prop:=_;G_)
      intro G_
      obtain⟨v,ev,rv⟩:=u4.at es
      dsimp only[G_]
      have Kq:=V9 wN rv
      have ty:G4 K "list" (.ref b) H5:=.inl ⟨rfl,_,bL.of t5⟩
      have dl:dn.length<=120:=by omega
      simp_all only[d9,zI,c7]
      refine⟨ty,_,_,_,aJ _ _ u1,T.bT,T.na_Finder_states,_,kC,_,t5,_,rfl,_,u3,v,by rw[DO];exact cP ev,_,l,n,tb,g,Gp.mono s5,gg,ss,A5,st,dn.length,OY,by omega,λa ha=>⟨none_of (Gr.trans (s5.trans cE)) ha,λz=>by rw[z,t5] at ha;cases ha⟩,Kq,ls,λsk H6 s6=>?_,λYT=>?_⟩
      ·by_cases o1:oo=1
       ·exact kW o1 _ (Gr.trans (s5.trans (cE.trans s6)))
       ·refine(?_:let G_:Prop:=_;G_)
        intro G_
        obtain⟨Ba,ts,sR,_,go,_⟩:=c2 (by omega)
        dsimp only[G_]
        rw[es] at sR
        cases sR
        exact absurd sk go.stuck
      ·by_cases o1:oo=1
       ·refine(?_:let G_:Prop:=_;G_)
        intro G_
        obtain⟨Ba,sR,_,sk⟩:=c1 o1
        dsimp only[G_]
        rw[es] at sR
        cases sR
        exact absurd sk YT
       ·refine(?_:let G_:Prop:=_;G_)
        intro G_
        obtain⟨Ba,ts,sR,_,go,NL⟩:=c2 (by omega)
        dsimp only[G_]
        rw[es] at sR
        cases sR
        exact⟨ts,go,SS,(λz=>by omega),λ_ H6 s6=>kM (by omega) _ (Gr.trans (s5.trans (s6.trans cE))),(λz=>by omega)⟩
   | cons ts r=>
    refine(?_:let G_:Prop:=_;G_)
    intro G_
    obtain⟨st,es,ls,go,sr⟩:=sd
    dsimp only[G_]
    have Wd:=(List.getElem?_eq_some_iff.mp es).1
    refine⟨true,λQ hq=>?_,?_⟩
    ·simp_all only[d9]
     refine⟨_,t5,_,_,_,aJ _ _ u1,T.bT,T.na_Finder_states,_,kC,_,rfl,_,u3,?_⟩
     rw[decide_eq_true (by omega)]
     exact hq
    ·rw[if_pos rfl]
     refine(?_:let G_:Prop:=_;G_)
     intro G_
     obtain⟨v,ev,rv⟩:=u4.at es
     dsimp only[G_]
     have eS:SS[dn.length]?=some st:=by
      obtain⟨q,e⟩:=x8
      rw[e,aa2 Wd]
      exact es
     have We:=sr.x8
     have bn:b≠n:=λz=>by rw[z,u5] at t5;cases t5
     have bt:b≠tb:=λz=>by rw[z,wN] at t5;cases t5
     have Kq:=V9 wN rv
     have ty:G4 K "list" (.ref b) H5:=.inl ⟨rfl,_,bL.of t5⟩
     have dl:dn.length<=120:=by omega
     have Wf:=aal We.len A1
     simp_all only[d9,zI,c7]
     refine⟨ty,_,_,_,aJ _ _ u1,T.bT,T.na_Finder_states,_,kC,_,t5,_,rfl,_,u3,v,by rw[DO];exact cP ev,_,l,n,tb,g,Gp.mono s5,gg,ss,A5,st,dn.length,OY,by omega,λa ha=>⟨none_of (Gr.trans (s5.trans cE)) ha,λz=>by rw[z,t5] at ha;cases ha⟩,Kq,ls,λsk=>absurd sk go.stuck,λ_=>⟨ts,go,SS,λ_=>We,(λz=>by omega),λ_ u H6 s6 OL YU ru=>?_⟩⟩
     have Jq:H6 b=some (.lst bs):=cE _ _ (s6 _ _ (by rw[cK bl bn bt];exact t5))
     refine(?_:let G_:Prop:=_;G_)
     intro G_
     obtain⟨OZ,O0,O8,LJ⟩:=id YU
     dsimp only[G_]
     have eh:∀o,c6 (cy (upd H6 b o) l n tb) b=c6 (cy H6 l n tb) b:=λo=>by
      funext a
      by_cases z:a=b
      ·rw[z];unfold c6;rw[if_pos rfl,if_pos rfl]
      ·rw[bN z,bN z]
       show(if a=tb then none else if a=n then none else if a=l then none else upd H6 b o a)=if a=tb then none else if a=n then none else if a=l then none else H6 a
       rw[aD z]
     refine⟨_,Jq,by omega,r.length,by omega,dn++ [ts],r,by rw[List.append_assoc];exact et,rfl,by rw[aak,aaI];have:=x8.len;omega,aU ss (gu ts),by rw[aak,aaI];exact sr,?_,?_,OL.KC (λa h=>h.2) Jq bl,_,aq,?_,?_⟩
     ·intro a o ha
      have ab:a≠b:=λz=>by have:=bD _ _ ha;rw[z,nb] at this;cases this
      have h6:=s6 _ _ (s5 _ _ ha)
      refine(?_:let G_:Prop:=_;G_)
      intro G_
      obtain⟨e1,e2,e3⟩:=fW h6
      dsimp only[G_]
      rw[cK e1 e2 e3] at h6 ⊢
      rw[aD ab]
      exact h6
     ·rw[aak,aaI]
      refine⟨OZ,by rw[aD (Ne.symm bt)];exact O0,O8,λnm v e=>?_⟩
      refine(?_:let G_:Prop:=_;G_)
      intro G_
      obtain⟨Gh,t',b',Gi,a1,⟨p',ep,fp⟩,a2⟩:=LJ nm v e
      subst ep
      dsimp only[G_]
      have kb:∀{a o},a≠b->cy H6 l n tb a=some o->cy (upd H6 b (.lst (bs++ [u]))) l n tb a=some o:=λ{a o} ab ha=>by
       refine(?_:let G_:Prop:=_;G_)
       intro G_
       obtain⟨e1,e2,e3⟩:=fW ha
       dsimp only[G_]
       rw[cK e1 e2 e3] at ha ⊢
       rw[aD ab]
       exact ha
      exact⟨Gh,t',b',Gi,a1,⟨p',rfl,fp⟩,zG a2 (λo ho=>kb fp.2 ho) λa vs ha=>kb (λz=>by have:=cE _ _ ha;rw[z,Jq] at this;cases this) ha⟩
     ·rw[eh]
      intro v hv
      rcases List.mem_append.mp hv with hv | hv
      ·exact(Nh v hv).mono (bI s6)
      ·rw[List.mem_singleton.mp hv]
       refine(?_:let G_:Prop:=_;G_)
       intro G_
       obtain⟨_,q,eq,vs,hq,kq⟩:=ru b bs t5
       dsimp only[G_]
       refine⟨q,vs,eq,hq,λx y w' e=>?_⟩
       have nw:=kq x y w' e
       exact⟨none_of (Gr.trans (s5.trans cE)) nw,(λz=>by rw[z,t5] at nw;cases nw),(λz=>by rw[z,u3] at nw;cases nw)⟩
     ·rw[eh,wQ eS,aao]
      exact(rb.mono (bI s6)).append (aQ.mpr ⟨u,[],rfl,(ru b bs t5).1,bK.mpr rfl⟩)
  intro H5 o0 s5 A5 YV
  refine(?_:let G_:Prop:=_;G_)
  intro G_
  obtain⟨bs,t5,rb,Nh⟩:=YV
  subst o0
  have kk:=kk rfl
  obtain⟨Jv,Ng,OW,u1,u2,u3,u4,u5,u6,u7,u8⟩:=id A5
  dsimp only[G_]
  have xl:=u4.length
  have O9:aw (c6 H1 tb) H5:=s5.trans cE
  simp_all only[d9]
  refine⟨_,_,_,aJ _ _ u1,T.bT,T.na_Finder_states,_,kC,_,_,_,aJ _ _ u1,T.bT,T.na_Finder_states,_,kC,_,rfl,⟨_,bL.of u3⟩,?_⟩
  refine comp_map (src_list (Ok:=aw H5) (λH' k=>bL.of (k _ _ u3))) (λ_ _ _ _ h=>h.1▸aw.refl _) (by omega) (λi y H'=>∃st,SS[i]?=some st/\Rep H' (gM g st) y) (λ_ _ _ _ k ⟨st,e,r⟩=>⟨st,e,r.mono k⟩) ?_ ?_
  ·rintro i x z H7 H6 Q' hi s6 ⟨rfl,ex⟩ yy
   refine(?_:let G_:Prop:=_;G_)
   intro G_
   obtain⟨st,es,YW⟩:=u4.get ex
   dsimp only[G_]
   refine(?_:let G_:Prop:=_;G_)
   intro G_
   obtain⟨Ba,ts',sR,ls,go,_⟩:=sp.all.2 i (aah _) (List.getElem?_eq_some_iff.mp es).1
   dsimp only[G_]
   rw[es] at sR
   cases sR
   obtain⟨x0,lk⟩:=xZ go
   simp_all only[cN,Cy]
   refine⟨_,_,s6 _ _ (O9 _ _ Wa),YO,g,(Gp.mono (O9.trans s6)).co,gg,st.1,st.2,YW.st.mono (aJ.trans s6),ls,x0,lk,λp H8 s8 n8 r8=>yy _ _ s8 ⟨st,es,?_⟩⟩
   unfold gM
   rw[lk]
   exact r8
  ·intro ys H6 s6 ly hy D VU DP
   refine⟨by omega,λp H7 s7 np e7=>kk p b l D bs Ng ys H7 (Gr.trans (O9.trans (s6.trans ((ao DP).trans s7)))) (none_of s1 nb) e7 ?_ ?_ ?_ ?_ ?_ (s7 _ _ aq) ?_⟩
   all_goals have Jy:aw H5 H7:=s6.trans ((ao DP).trans s7)
   ·exact Jy _ _ t5
   ·exact rb.mono Jy
   ·exact λv hv=>(Nh v hv).mono Jy
   ·exact Jy _ _ u3
   ·exact u4.imp λ_ _ ⟨a,c',e,q1,q2,q3⟩=>⟨a,c',e,(aJ.trans Jy) _ _ q1,(aJ.trans Jy) _ _ q2,q3.1,q3.2,(gW q2).1⟩
   ·refine bb.of (by rw[aac];omega) λi d y ed ey=>?_
    rw[aad] at ed
    refine(?_:let G_:Prop:=_;G_)
    intro G_
    obtain⟨st,es,rfl⟩:=Option.map_eq_some_iff.mp ed
    obtain⟨Ba,sR,r⟩:=hy i y ey
    dsimp only[G_]
    rw[es] at sR
    cases sR
    exact r.mono ((ao DP).trans s7)
theorem mz {H:Hp}:∀{l:List Str} {vs:List V},bb H (l.map Dat.str) vs->vs=l.map V.str
 | [],_,h=>bK.mp h
 | _::_,_,h=>by
  obtain⟨v,r,rfl,a,b⟩:=aQ.mp h
  rw[aS.mp a,mz b,aae]
theorem Dt {α:Type} {p:α->Bool} {l:List α} {i:Nat} {x:α} (n:(l.take i).find? p=none) (e:l[i]?=some x) (h:p x=true):l.find? p=some x:=by
 have hi:=(List.getElem?_eq_some_iff.mp e).1
 rw[<-List.take_append_drop i l,List.find?_append,n,Option.none_or,List.drop_eq_getElem_cons hi,aa7]
 ·rw[(List.getElem?_eq_some_iff.mp e).2]
 ·rw[(List.getElem?_eq_some_iff.mp e).2];exact h
theorem fP {α:Type} {p:α->Bool} {l:List α} {i:Nat} {x:α} (n:(l.take i).find? p=none) (e:l[i]?=some x) (h:p x=false):(l.take (i+1)).find? p=none:=by
 rw[aaG,e,List.find?_append,n,Option.none_or]
 show List.find? p [x]=none
 rw[aa8 (by rw[h];decide),List.find?_nil]
theorem zN {g:Gm} {rule:List Rl} {st:cD} {i:Nat} {r:Rl} (n:(rule.take i).find? (kH g st)=none) (e:rule[i]?=some r) (h:kH g st r=true):uU g rule st=(iN g st).idxOf r.2.1:=by
 unfold uU
 rw[Dt n e h]
theorem wR {g:Gm} {rule:List Rl} {st:cD} (n:rule.find? (kH g st)=none):uU g rule st=0:=by
 unfold uU
 rw[n]
theorem Fu {n:Str} (h:dt (.str n)=true):Kd (.str n):=⟨by rw[cO];exact h,by rw[cO,PyData.depth];decide⟩
theorem Fv {n:Str} (h:dt (.str n)=true):Ke (.str n):=b8 h
theorem pU {l:List Str} {n:Str}:cO (.str n)∈(l.map Dat.str).map cO↔n∈l:=by
 rw[wB,cO]
 constructor
 ·intro h
  obtain⟨x,hx,e⟩:=List.mem_map.mp h
  cases e
  exact hx
 ·exact λh=>List.mem_map.mpr ⟨n,h,rfl⟩
theorem jh {g:Gm} {st:cD} {r:Rl}:kH g st r=if r.1=st.1 then (if r.2.1∈iN g st then gK g.cs st.2 r.2.2 else false) else false:=by
 unfold kH
 by_cases a:r.1=st.1
 ·rw[if_pos a,decide_eq_true a,Bool.true_and]
  by_cases b:r.2.1∈iN g st
  ·rw[if_pos b,decide_eq_true b,Bool.true_and]
  ·rw[if_neg b,decide_eq_false b,Bool.false_and]
 ·rw[if_neg a,decide_eq_false a,Bool.false_and]
theorem c9 {nms:List Str} {i:Int} (h0:0<=i) (h1:i< (nms.length:Int)):oW (nms.map V.str) i=some (.str (eU nms i)):=by
 obtain⟨j,rfl⟩:∃j:Nat,i=(j:Int):=⟨i.toNat,by omega⟩
 have hj:j<nms.length:=by omega
 rw[cP (j:=j) (by rw[aad,qP hj];rfl)]
 rfl
noncomputable def iP (G H:Hp):Hp:=λa=>match G a with
 | some (.lst _)=>none
 | _=>H a
noncomputable def fC (G H:Hp):Prop:=∀a ys,G a=some (.lst ys)->∃zs,H a=some (.lst zs)
theorem fC.of {G H:Hp} (s:aw G H):fC G H:=λa ys e=>⟨ys,s _ _ e⟩
theorem fC.trans {G H K:Hp} (s:fC G H) (t:aw H K):fC G K:=λa ys e=>by
 obtain⟨zs,h⟩:=s a ys e
 exact⟨zs,t _ _ h⟩
theorem iA {G H:Hp} {a:Addr} (h:∀ys,G a≠some (.lst ys)):iP G H a=H a:=by
 unfold iP
 split
 ·rename_i e;exact absurd e (h _)
 ·rfl
theorem va {G H:Hp} {a:Addr} {ys:List V} (h:G a=some (.lst ys)):iP G H a=none:=by
 unfold iP
 rw[h]
theorem rf {G H:Hp} {a:Addr} {o:HO} (h:iP G H a=some o):(∀ys,G a≠some (.lst ys))/\H a=some o:=by
 by_cases c:∃ys,G a=some (.lst ys)
 ·obtain⟨ys,e⟩:=c
  rw[va e] at h
  cases h
 ·have c:∀ys,G a≠some (.lst ys):=λys e=>c ⟨ys,e⟩
  rw[iA c] at h
  exact⟨c,h⟩
theorem t6 {G H H':Hp} (s:aw H H'):aw (iP G H) (iP G H'):=λa o e=>by
 obtain⟨c,h⟩:=rf e
 rw[iA c]
 exact s _ _ h
theorem wU {G H:Hp}:aw (iP G H) H:=λa o e=>(rf e).2
theorem wV {G G' H:Hp} (s:fC G G'):aw (iP G' H) (iP G H):=λa o e=>by
 obtain⟨c,h⟩:=rf e
 rw[iA (λys k=>by obtain⟨zs,z⟩:=s a ys k;exact c zs z)]
 exact h
theorem mV {G H:Hp} {l:Addr} {ys:List V} {o:HO} (e:G l=some (.lst ys)):iP G (upd H l o)=iP G H:=by
 funext a
 by_cases c:∃ys,G a=some (.lst ys)
 ·obtain⟨zs,z⟩:=c
  rw[va z,va z]
 ·have c:∀ys,G a≠some (.lst ys):=λys e=>c ⟨ys,e⟩
  rw[iA c,iA c,aD (λz=>by rw[z] at c;exact c ys e)]
noncomputable def cX (G H:Hp) (d:Dat) (v:V):Prop:=Rep (iP G H) d v
noncomputable def cY (G H:Hp) (ds:List Dat) (vs:List V):Prop:=bb (iP G H) ds vs
theorem cX.mono {G H H':Hp} {d:Dat} {v:V} (s:aw H H') (h:cX G H d v):cX G H' d v:=Rep.mono (t6 s) h
theorem cY.mono {G H H':Hp} {ds:List Dat} {vs:List V} (s:aw H H') (h:cY G H ds vs):cY G H' ds vs:=bb.mono (t6 s) h
theorem cX.low {G G' H:Hp} {d:Dat} {v:V} (s:fC G G') (h:cX G' H d v):cX G H d v:=Rep.mono (wV s) h
theorem cY.low {G G' H:Hp} {ds:List Dat} {vs:List V} (s:fC G G') (h:cY G' H ds vs):cY G H ds vs:=bb.mono (wV s) h
theorem cX.rep {G H:Hp} {d:Dat} {v:V} (h:cX G H d v):Rep H d v:=Rep.mono wU h
theorem cY.rep {G H:Hp} {ds:List Dat} {vs:List V} (h:cY G H ds vs):bb H ds vs:=bb.mono wU h
theorem bR {G H:Hp} {x:Str}:cX G H (.str x) (.str x):=aS.mpr rfl
theorem cC {G H:Hp} {k:Int}:cX G H (.int k) (.int k):=bA.mpr rfl
theorem vb {G H:Hp}:cX G H .cZ .cZ:=by unfold cX;rw[Rep]
theorem de {G H:Hp}:cY G H [] []:=bK.mpr rfl
theorem bE {G H:Hp} {d:Dat} {ds:List Dat} {v:V} {vs:List V} (h:cX G H d v) (k:cY G H ds vs):cY G H (d::ds) (v::vs):=aQ.mpr ⟨_,_,rfl,h,k⟩
theorem eO {G H:Hp} {p:Addr} {ds:List Dat} {vs:List V} (n:G p=none) (h:H p=some (.lst vs)) (r:cY G H ds vs):cX G H (.lst ds) (.ref p):=bq.mpr ⟨p,vs,rfl,by rw[iA (λys e=>by rw[n] at e;cases e)];exact h,r⟩
theorem vc {G H:Hp} (s:fC G H) {p:Addr} {ds:List Dat} {vs:List V} (h:H p=some (.tup vs)) (r:cY G H ds vs):cX G H (.tup ds) (.ref p):=eR.mpr ⟨p,vs,rfl,by rw[iA (λys e=>by obtain⟨zs,z⟩:=s _ _ e;rw[h] at z;cases z)];exact h,r⟩
theorem wW {G H:Hp} (s:fC G H) {p:Addr} {a b:Dat} {x y:V} (h:H p=some (.tup [x,y])) (ha:cX G H a x) (hb:cX G H b y):cX G H (.tup [a,b]) (.ref p):=vc s h (bE ha (bE hb de))
theorem rj {G H:Hp} (s:fC G H) {p:Addr} {a b c:Dat} {x y z:V} (h:H p=some (.tup [x,y,z])) (ha:cX G H a x) (hb:cX G H b y) (hc:cX G H c z):cX G H (.tup [a,b,c]) (.ref p):=vc s h (bE ha (bE hb (bE hc de)))
theorem Fw {G H:Hp} (s:fC G H) {p:Addr} {a b c d:Dat} {x y z u:V} (h:H p=some (.tup [x,y,z,u])) (ha:cX G H a x) (hb:cX G H b y) (hc:cX G H c z) (hd:cX G H d u):cX G H (.tup [a,b,c,d]) (.ref p):=vc s h (bE ha (bE hb (bE hc (bE hd de))))
theorem pV {G H:Hp} {d:Dat} {v:V} (h:cX G H d v) {ds:List Dat} {vs:List V} (k:cY G H ds vs):cY G H (ds++ [d]) (vs++ [v]):=bb.append k (aQ.mpr ⟨_,_,rfl,h,bK.mpr rfl⟩)
theorem cY.ix {G H:Hp} {ds:List Dat} {vs:List V} (h:cY G H ds vs) {i:Int} {d:Dat} (i0:0<=i) (ed:ds[i.toNat]?=some d):∃v,oW vs i=some v/\cX G H d v:=by
 obtain⟨v,ev,r⟩:=bb.at h ed
 exact⟨v,by rw[show i=((i.toNat:Nat):Int) by omega];exact cP ev,r⟩
noncomputable def t7:Sp:=λvs H Q _=>∃c nl nms th,∃many:Nat,vs=[.int c,.ref nl,.int (many:Int),.bl th]/\sy H nl nms/\nms.length=14/\many<=3/\∀v H',aw H H'->cX H H' (.lst ((fh c nms many th).map EZ)) v->Q v H'
noncomputable def Du (K:PySem.W.Frag):Sp:=λvs H Q _=>∃a ns nl nms,∃k m many:Nat,vs=[.ref a,.int (k:Int),.int (m:Int),.ref nl,.int (many:Int)]/\bL K H a (List.map V.int ns)/\sy H nl nms/\nms.length=14/\many<=3/\k<m/\m<=4/\∀v H',aw H H'->cX H H' (rP (ya ns k m nms many)) v->Q v H'
noncomputable def Dv (K:PySem.W.Frag):Sp:=λvs H Q _=>∃a ns nl nms rO,∃k m many:Nat,vs=[.ref a,.int (k:Int),.int (m:Int),.ref nl,.int (many:Int),.int rO]/\bL K H a (List.map V.int ns)/\sy H nl nms/\nms.length=14/\many<=3/\k<m/\m<=4/\∀v H',aw H H'->cX H H' (rP (CW ns k m nms many rO)) v->Q v H'
theorem map_getD {α β:Type} {l:List α} {f:α->β} {i:Nat} (d:α) (h:i<l.length):(l.map f)[i]?=some (f (l.getD i d)):=by
 rw[aad,aaS,aat h]
 rfl
theorem A6 (c:Int) (j:Nat) (a k:Int):fX c (j+1) a k=fX c j a k++ (⟨#[Il c (j:Int) k a]⟩:Str):=by
 unfold fX
 rw[List.range_succ,aao]
 show(⟨(_++ [_]).toArray⟩:Str)=⟨_++#[_]⟩
 congr 1
 simp
theorem Dw (c:Int) (j:Nat) (a k:Int):(fX c j a k).length=j:=by
 unfold fX Str.length
 simp
theorem IP {x:Int}:oW (Str.ofString "abcdefghijklmnopqrstuvwxyz").cps.toList (x % 26)=some (97+ (x % 26).toNat):=by
 have h:∀i∈List.range 26,(Str.ofString "abcdefghijklmnopqrstuvwxyz").cps.toList[i]?=some (97+i):=by decide +kernel
 have e:x % 26=(((x % 26).toNat:Nat):Int):=by omega
 have:=h (x % 26).toNat (List.mem_range.mpr (by omega))
 rw[e]
 rw[aa1]
 exact cP this
theorem IQ {l:List Str} {a:Str} {i:Nat} (e:l[i]?=some a) (nf:∀j,j<i->l[j]?≠some a):l.idxOf a=i:=by
 have hl:=aa6 (aam e)
 rcases Nat.lt_trichotomy (l.idxOf a) i with c | c | c
 ·exact absurd (by rw[aat hl,List.getElem_idxOf]) (nf _ c)
 ·exact c
 ·exact absurd e (nZ c)
theorem Gs {i:Int} (h0:0<=i) (h1:i<2):oW [V.str (Str.ofString "from"),V.str (Str.ofString "below")] i=some (.str (Og.getD i.toNat default)):=by
 rcases(show i=0\/i=1 by omega) with rfl | rfl <;>rfl
theorem IS {n k:Int} {q:Prop} [Decidable q]:decide (decide (k<=n)=decide q)=if q then decide (k<=n) else decide (n<k):=by
 by_cases c:q
 ·rw[if_pos c,decide_eq_true c]
  by_cases d:k<=n
  ·rw[decide_eq_true d];rfl
  ·rw[decide_eq_false d];rfl
 ·rw[if_neg c,decide_eq_false c]
  by_cases d:k<=n
  ·rw[decide_eq_true d,decide_eq_false (show ¬n<k by omega)];rfl
  ·rw[decide_eq_false d,decide_eq_true (show n<k by omega)];rfl
theorem Gu {k:Int}:JT (.int k) [.int 1,.int 2]=true↔k=1\/k=2:=by
 unfold JT
 simp [DC]
 omega
theorem t8:aV ["rule","course","state","words","name","word","when"] ["rule","course","state","words"] (aj (top 43)):=⟨rfl,rfl,rfl,by decide +kernel,rfl,by decide +kernel,by decide +kernel⟩
theorem LK (T:Txt K mg aG aH aA aL af au):cL P w K mg base (bC P w) 2 "way_by" ["rule","course","state","words"] (Iv af):=by
 have gc:b7 P w K mg base (bC P w) 1 af "holds" ["self","when","counts"] (wd af):=Dg T
 refine T.Co.eF (λ_ _ _ _ _ _ us hl=>match us,hl with | [_,_,_,_],_=>rfl) λf fd F=>F.fR t8 (λvs H Q E h=>?_) (λbV A outer s H vs Q E hr h=>?_)
 ·obtain⟨_,_,_,_,_,_,_,rfl,_⟩:=h;rfl
 ·refine(?_:let G_:Prop:=_;G_)
  intro G_
  obtain⟨rv,c,sv,wv,g,rule,st,rfl,rr,co,stH,Fx,ls,hs,kk⟩:=h
  dsimp only[G_]
  have nd:=t8.nd
  refine⟨_,(ai (cB PassesOwn.never rfl (bH (K:=K) (pv 0)) (dQ (K:=K) (n:=3) rfl (bw (aT (i:=4) nd rfl (Or.inl rfl)) (bw (aT (i:=5) nd rfl (Or.inl rfl)) (bw (aT (i:=6) nd rfl (Or.inl rfl)) dP)))) (ar (bG (PW.pt (pw_and (aM cg (pv 4) (aE av (pv 2) ae (λ_ _=>rfl)) (aY _)) (pw_and (aM (Ck hr.units) (pv 5) (pv 3) rfl) (pw_and1 (nE (dj gc T.aI (pv 1) (hr.mono (by decide)) aF.pass (aa (pv 6) (aa (aE av (pv 2) ae (λ_ _=>rfl)) ag (se rfl)) (se rfl)) (hst:=se rfl) (hpl:=na rfl))))))) (ar (aP (eE aax PySem.F.slot_list_index PySem.F.type_list_index (tJ hr.units) (pv 3) (aa (pv 5) ag (se rfl)))))
   bg)))
  (ar (aP ae))),?_⟩
  refine(?_:let G_:Prop:=_;G_)
  intro G_
  obtain⟨ra,Gv,rfl,IT,IU⟩:=bq.mp (show Rep H (.lst _) rv from rr)
  obtain⟨sp,nl,rfl,yU,Pa⟩:=stH
  rw[tX] at Fx
  obtain⟨wa,YX,rfl,IV,rws⟩:=bq.mp Fx
  obtain rfl:=mz rws
  obtain⟨lr,Pb,lw,LL⟩:=hs
  have Pc:Gv.length=rule.length:=by have:=IU.length;rw[aac] at this;omega
  have Pd:∀e∈(iN g st).map Dat.str,Kd e:=λe he=>by obtain⟨n,hn,rfl⟩:=List.mem_map.mp he;exact Fu (LL n hn)
  have Pe:∀e∈(iN g st).map Dat.str,Ke e:=λe he=>by obtain⟨n,hn,rfl⟩:=List.mem_map.mp he;exact Fv (LL n hn)
  have lp:∀{a b c d e:V},List.lookup (Str.ofString "holds") [(Str.ofString "spots",a),(Str.ofString "mosts",b),(Str.ofString "first",c),(Str.ofString "whats",d),(Str.ofString "tables",e)]=none:=dN (by decide +kernel) (by decide +kernel) (by decide +kernel) (by decide +kernel) (by decide +kernel)
  obtain⟨dx,YQ,mo,wh,tb,us,ft,h1,h2,h3,h4,h5,h6⟩:=id co
  dsimp only[G_]
  change tSeq _ _ _ _ _
  refine ba (λN=>rule.find? (kH g st)=none->∀z4 z5 z6,N [some (.ref ra),some (.ref c),some (.ref sp),some (.ref wa),z4,z5,z6] H) ?_ (λN hN=>?_)
  case refine_2=>
   simp_all only[]
   refine⟨⟨_,bL.of IT⟩,bX (src_list (Ok:=λH'=>H=H') (λH' e=>by subst e;exact bL.of IT)) (λi σ H'=>H=H'/\(rule.take i).find? (kH g st)=none/\∃z4 z5 z6,σ=[some (.ref ra),some (.ref c),some (.ref sp),some (.ref wa),z4,z5,z6]) ⟨rfl,by rw[List.take_zero];rfl,_,_,_,rfl⟩ (λ_ _ _ _ h=>h.1) ?_ ?_⟩
   ·intro i x σ H' xb hi fK fj
    refine(?_:let G_:Prop:=_;G_)
    intro G_
    obtain⟨rfl,nf,z4,z5,z6,rfl⟩:=fK
    obtain⟨rfl,ex⟩:=fj
    obtain⟨d,ed,rd⟩:=IU.get ex
    rw[aad] at ed
    obtain⟨r,er,rfl⟩:=Option.map_eq_some_iff.mp ed
    obtain⟨q,y1,y2,y3,rfl,hq,r1,r2,r3⟩:=du.mp (show Rep _ (.tup _) x from rd)
    obtain rfl:=aS.mp r1
    obtain rfl:=aS.mp r2
    dsimp only[G_]
    have LM:=Pb r (aam er)
    refine⟨q,_,rfl,lg.of hq,rfl,?_⟩
    simp_all only[cN,wd,HE,HA,yU]
    by_cases a1:r.1=st.1
    ·rw[if_pos a1]
     refine⟨_,IV,_,rws,Pe,.str r.2.1,aS.mpr rfl,Fv LM,?_⟩
     by_cases b1:r.2.1∈iN g st
     ·rw[if_pos (by rw[if_neg (by decide)];exact decide_eq_true (pU.mpr b1))]
      refine⟨_,_,h1,lp,g,co,st.2,r.2.2,r3,Pa,ls,?_⟩
      by_cases c1:gK g.cs st.2 r.2.2=true
      ·rw[if_pos c1]
       have ia:=C4 b1
       rw[zN nf er (by rw[jh,if_pos a1,if_pos b1];exact c1)] at kk
       exact⟨.inl ⟨rfl,_,bL.of IV⟩,_,IV,_,rws,Pd,.str r.2.1,aS.mpr rfl,Fu LM,_,ia.1,ia.2,by have:=aa6 b1;omega,kk⟩
      ·rw[if_neg c1]
       exact⟨fP nf er (by rw[jh,if_pos a1,if_pos b1];exact eq_false_of_ne_true c1),_,rfl⟩
     ·rw[if_neg (λz=>b1 (pU.mp (of_decide_eq_true (by rw[if_neg (by decide)] at z;exact z)))),if_neg (by decide)]
      exact⟨fP nf er (by rw[jh,if_pos a1,if_neg b1]),_,rfl⟩
    ·rw[if_neg a1,if_neg (by decide)]
     exact⟨fP nf er (by rw[jh,if_neg a1]),_,rfl⟩
   ·intro σ H' dk
    refine(?_:let G_:Prop:=_;G_)
    intro G_
    obtain⟨rfl,nf,z4,z5,z6,rfl⟩:=dk
    dsimp only[G_]
    rw[Pc,aau (aaf _)] at nf
    exact hN nf _ _ _
  rintro nf z4 z5 z6
  rw[wR nf] at kk
  exact kk
theorem gn:aV ["game","told","rule","course","picks","place","state","words"] ["game","told","rule"] (aj (top 44)):=⟨rfl,rfl,rfl,by decide +kernel,rfl,by decide +kernel,by decide +kernel⟩
theorem LN (T:Txt K mg aG aH aA aL af au):cL P w K mg base (bC P w) 5 "spread_picks_by" ["game","told","rule"] Iy:=by
 have Dx:cL P w K mg base (bC P w) 2 "way_by" ["rule","course","state","words"] (Iv af):=LK T
 have qZ:o6 P w K mg base (bC P w) 3 "Course" af ["self","game"] (CC af):=Ge T
 refine T.mD.eF (λ_ _ _ _ _ _ us hl=>match us,hl with | [_,_,_],_=>rfl) λf fd F=>F.fR gn (λvs H Q E h=>?_) (λbV A outer s H vs Q E hr h=>?_)
 ·obtain⟨_,_,_,_,_,_,_,rfl,_⟩:=h;rfl
 ·refine(?_:let G_:Prop:=_;G_)
  intro G_
  obtain⟨gv,t,rv,g,rule,SS,hX,rfl,rg,rr,tl,al,kk⟩:=h
  dsimp only[G_]
  clear G_
  have nd:=gn.nd
  refine⟨_,(ai (aK (i:=3) nd rfl (Or.inl rfl) (F1 qZ (hr.mono (by decide)) rfl aF.pass (aa (pv 0) ag (se rfl)) (he:=se rfl) (hpl:=na rfl)))
  (ai (aK (i:=4) nd rfl (Or.inl rfl) (bJ ag))
  (ai (cB PassesOwn.never rfl (B7 (K:=K) rfl T.z_zip (aa (aE av (pv 1) ae (λ_ _=>rfl)) (aa (aE av (pv 1) ae (λ_ _=>rfl)) (aa (aE av (pv 1) ae (λ_ _=>rfl)) ag (se rfl)) (se rfl)) (se rfl))) (dQ (K:=K) (n:=3) rfl (bw (aT (i:=5) nd rfl (Or.inl rfl)) (bw (aT (i:=6) nd rfl (Or.inl rfl)) (bw (aT (i:=7) nd rfl (Or.inl rfl)) dP)))) (ar (bZ (eE aax aaK aaL cI.r (pv 4) (aa (iS (aM cg (aE av (pv 5) ae (λ_ _=>rfl)) bc (aY _)) (aW Dx (hr.mono (by decide)) rfl aF.pass (aa (pv 2) (aa (pv 3) (aa (pv 6) (aa (pv 7) ag (se rfl)) (se rfl)) (se rfl)) (se rfl)) (he:=se rfl) (hpl:=na rfl)) nB) ag (se rfl))))))
  (ar (aP (pv 4)))))),?_⟩
  refine(?_:let cm:TS:=_;let cu:TS:=_;let cw:TS:=_;let dZ:TS:=_;tSeq cm (tSeq cu (tSeq cw dZ)) _ _ _)
  intro cm cu cw dZ
  have sl:=sizeLine_eq
  refine(?_:let G_:Prop:=_;G_)
  intro G_
  obtain⟨b,l,wl,bs,xs,ws,ht,hb,rb,hl,ax,hw,rws⟩:=tl
  dsimp only[G_]
  clear G_
  have l1:=al.l1
  have Wg:bs.length=SS.length:=by
   have:=rb.length
   unfold wq at this
   rw[aac,List.length_zip,al.sp,Nat.min_self] at this
   omega
  have lxs:xs.length=SS.length:=ax.length
  have lws:ws.length=SS.length:=by have:=rws.length;rw[aac] at this;omega
  change tSeq _ _ _ _ _
  refine ba (λN=>∀H1 c,aw H H1->tO af H1 c g->N [some gv,some (.ref t),some rv,some (.ref c),none,none,none,none] H1) ?_ (λN hN=>?_)
  case refine_2=>
   simp_all only[p9,CC]
   intro c dx nc LI dc
   have sm:aw H (upd (upd H dx (.own c)) c (.ins af dx [])):=(ao LI).trans (ao (by rw[aD (Ne.symm dc)];exact nc))
   exact⟨_,aq,g,rg.mono sm,al.gg,λtb H1 k1 yo n6 co=>hN _ c (λa o ha=>k1 a o (λz=>by rw[z,nc] at ha;cases ha) (sm _ _ ha)) (co.mono bD).co⟩
  rintro H1 c s1 co
  change tSeq _ _ _ _ _
  refine ba (λN=>∀H2 p,aw H1 H2->H1 p=none->H2 p=some (.lst [])->N [some gv,some (.ref t),some rv,some (.ref c),some (.ref p),none,none,none] H2) ?_ (λN hN=>?_)
  case refine_2=>
   simp_all only[]
   exact⟨aah _,λp np=>hN _ p (ao np) np aq⟩
  rintro H2 p s2 np hp
  have LO:=s1.trans s2
  have rr2:=rr.mono LO
  change tSeq _ _ _ _ _
  refine ba (λN=>∀H3,aw H H3->H3 p=some (.lst (SS.map (fY g rule)))->∀z5 z6 z7,N [some gv,some (.ref t),some rv,some (.ref c),some (.ref p),z5,z6,z7] H3) ?_ (λN hN=>?_)
  case refine_2=>
   simp_all only[B6,LO _ _ ht]
   refine⟨⟨_,bL.of (LO _ _ hb)⟩,⟨_,bL.of (LO _ _ hl)⟩,⟨_,bL.of (LO _ _ hw)⟩,bX (B8 (Ok:=aw H1) (λH3 s3=>bL.of (s3 _ _ (s1 _ _ hb))) (λH3 s3=>bL.of (s3 _ _ (s1 _ _ hl))) (λH3 s3=>bL.of (s3 _ _ (s1 _ _ hw))) (by omega) (by omega))
    (λi σ H3=>aw H1 H3/\H3 p=some (.lst ((SS.take i).map (fY g rule)))/\∃z5 z6 z7,σ=[some gv,some (.ref t),some rv,some (.ref c),some (.ref p),z5,z6,z7]) ⟨s2,hp,_,_,_,rfl⟩ (λ_ _ _ _ h=>h.1) ?_ ?_⟩
   ·intro i v σ H3 H4 hi fK fj
    refine(?_:let G_:Prop:=_;G_)
    intro G_
    obtain⟨s3,Jz,z5,z6,z7,rfl⟩:=fK
    obtain⟨e,x,y,z,ne,rfl,ex,ey,ez,rfl⟩:=fj
    obtain⟨st,es,rQ⟩:=ax.get ey
    have hm:=aam es
    obtain⟨lst,Ni,wt,lk⟩:=al.ls st hm
    obtain⟨d,ed,rd⟩:=rb.get ex
    obtain⟨d2,Wh,YY⟩:=rws.get ez
    dsimp only[G_]
    clear G_
    rw[aad,es] at Wh
    cases Wh
    unfold wq at ed
    rw[aad] at ed
    refine(?_:let G_:Prop:=_;G_)
    intro G_
    obtain⟨⟨Ba,ts⟩,YZ,rfl⟩:=Option.map_eq_some_iff.mp ed
    dsimp only[G_]
    clear G_
    obtain⟨e1,e2⟩:=List.getElem?_zip_eq_some.mp YZ
    have e1:=aay (es.symm.trans e1)
    subst e1
    refine(?_:let G_:Prop:=_;G_)
    intro G_
    obtain⟨kd,rs,ep,ik⟩:=wC (SS:=SS) (ts:=ts) lk
    have rd:Rep H (nY g SS st ts) x:=rd
    rw[ep] at rd
    obtain⟨q,vs,rfl,hq,Gv⟩:=eR.mp rd
    obtain⟨u0,us,rfl,Pf,_⟩:=aQ.mp Gv
    obtain rfl:=aS.mp Pf
    dsimp only[G_]
    clear G_
    have s4:aw H3 (upd H3 e (.tup [.ref q,y,z])):=ao ne
    generalize Y0:upd H3 e (.tup [.ref q,y,z])=H4 at *
    have Y1:H4 e=some (.tup [.ref q,y,z]):=by rw[<-Y0];exact aq
    have wM:=s1.trans (s3.trans s4)
    have Y2:=wM _ _ hq
    have Pg:=s4 _ _ Jz
    refine⟨e,_,rfl,lg.of Y1,rfl,?_⟩
    simp_all only[c7,Y2,Iv]
    have lt:((SS.take i).map (fY g rule)).length=i:=by rw[aac,aaU];omega
    have tk:(SS.take (i+1)).map (fY g rule)=(SS.take i).map (fY g rule)++ [fY g rule st]:=by rw[aaG,es,aao];rfl
    refine⟨.inl ⟨rfl,_,bL.of Pg⟩,?_⟩
    by_cases kp:kd=Str.ofString "pick"
    ·rw[if_pos kp]
     have ev:fY g rule st=.int ((uU g rule st:Nat):Int):=if_pos (ik.mp kp)
     exact⟨g,rule,rr.mono wM,co.mono (s3.trans s4),st,rQ.mono wM,YY.mono wM,lst,Ni,_,Pg,by omega,ck (s3.trans s4) np,by rw[aq,tk,ev],_,rfl⟩
    ·rw[if_neg kp]
     have ev:fY g rule st=.cZ:=if_neg (λz=>kp (ik.mpr z))
     exact⟨_,Pg,by omega,ck (s3.trans s4) np,by rw[aq,tk,ev],_,rfl⟩
   ·intro σ H3 dk
    refine(?_:let G_:Prop:=_;G_)
    intro G_
    obtain⟨s3,Jz,z5,z6,z7,rfl⟩:=dk
    dsimp only[G_]
    rw[Wg,aau (aaf _)] at Jz
    exact hN _ (s1.trans s3) Jz _ _ _
  rintro H3 s3 Jz z5 z6 z7
  simp_all only[]
  exact kk _ _ s3 Jz
theorem pj:aV ["game","rule"] ["game","rule"] (aj (top 45)):=⟨rfl,rfl,rfl,by decide +kernel,rfl,by decide +kernel,by decide +kernel⟩
theorem LP (T:Txt K mg aG aH aA aL af au):cL P w K mg base (bC P w) 11 "picks_by" ["game","rule"] Iz:=by
 have mW:cL P w K mg base (bC P w) 5 "spread_picks_by" ["game","told","rule"] Iy:=LN T
 have rk:cL P w K mg base (bC P w) 10 "spread" ["game"] (qO aL aA):=Dr T
 refine T.xU.eF (λ_ _ _ _ _ _ us hl=>match us,hl with | [_,_],_=>rfl) λf fd F=>F.fR pj (λvs H Q E h=>?_) (λbV A outer s H vs Q E hr h=>?_)
 ·obtain⟨_,_,_,_,_,_,_,_,_,rfl,_⟩:=h;rfl
 ·refine(?_:let G_:Prop:=_;G_)
  intro G_
  obtain⟨gv,rv,g,rule,SS,hX,ft,nm,fu,rfl,rg,rr,al,hd,ak,Jx,sp,kk⟩:=h
  dsimp only[G_]
  have nd:=pj.nd
  refine⟨_,(ar (aP (aW mW (hr.mono (by decide)) rfl aF.pass (aa (pv 0) (aa (aW rk (hr.mono (by decide)) rfl aF.pass (aa (pv 0) ag (se rfl)) (he:=se rfl) (hpl:=na rfl)) (aa (pv 1) ag (se rfl)) (se rfl)) (se rfl)) (he:=se rfl) (hpl:=na rfl)))),?_⟩
  simp_all only[qO,Iy]
  exact⟨g,rg,al.gg,ft,hd,nm,fu,ak,Jx,0,by decide,SS,hX,sp,al.l1,(λz=>by cases z),(λz=>by cases z),λ_ p b l wl bs xs ws H' s' nb hp hb rb wf hl ax hw rws=>⟨g,rg.mono s',rule,rr.mono s',SS,hX,⟨b,l,wl,bs,xs,ws,hp,hb,rb,hl,ax.imp λ_ _ h=>h.st,hw,rws⟩,al,λl' H2 s2 h2=>kk l' H2 (s'.trans s2) h2⟩⟩
theorem mX:aV ["_law_script","_law_k"] ["_law_script","_law_k"] (aj (top 47)):=⟨rfl,rfl,rfl,by decide +kernel,rfl,by decide +kernel,by decide +kernel⟩
theorem wX (T:Txt K mg aG aH aA aL af au):cL P w K mg base (bC P w) 1 "_law_cell" ["_law_script","_law_k"] (eD K):=by
 refine T.vU.eF (λ_ _ _ _ _ _ us hl=>match us,hl with | [_,_],_=>rfl) λf fd F=>F.fR mX (λvs H Q E h=>?_) (λbV A outer s H vs Q E hr h=>?_)
 ·obtain⟨_,_,_,rfl,_⟩:=h;rfl
 ·refine(?_:let G_:Prop:=_;G_)
  intro G_
  obtain⟨a,ns,k,rfl,hS,k0,k1,kk⟩:=h
  dsimp only[G_]
  have nd:=mX.nd
  refine⟨_,(ai (bG (aM vp (pv 1) (bx (lD (K:=K)) (by rfl) T.z_len aaB (aa (pv 0) ag (se rfl)) (he:=se rfl) (hpl:=na rfl)) (aY _)) (ar (aP (aE (tH (K:=K)) (pv 0) (pv 1) (λ_ _=>rfl))))
   bg)
  (ai (bG (aM cg (bx (lD (K:=K)) (by rfl) T.z_len aaB (aa (pv 0) ag (se rfl)) (he:=se rfl) (hpl:=na rfl)) ae (aY _)) (ar (aP (aB bf (aB bM (aB bM (pv 1) (pv 1)) ae) ae)))
   bg)
  (ar (aP (aB bf (aB bM (aB bo (aE (tH (K:=K)) (pv 0) (aB bo (aB bM (pv 1) ae) (bx (lD (K:=K)) (by rfl) T.z_len aaB (aa (pv 0) ag (se rfl)) (he:=se rfl) (hpl:=na rfl))) (λ_ _=>rfl)) ae) ae) (aB bM (aB bM (pv 1) (pv 1)) ae)))))),?_⟩
  refine(?_:let cm:TS:=_;let cu:TS:=_;let cw:TS:=_;tSeq cm (tSeq cu cw) _ _ _)
  intro cm cu cw
  have kq:IntMulOk k k:=cW (by omega) (by omega)
  unfold aN at kk
  simp_all only[Hh]
  refine⟨ns,hS,jR (λc=>?_) (λc=>⟨ns,hS,jR (λz=>?_) (λz=>?_)⟩)⟩
  ·rw[if_pos c] at kk
   exact⟨ns,hS,k0,c,kk⟩
  ·rw[if_neg c,if_pos z] at kk
   exact⟨kq,iY (by omega) (by omega),kk⟩
  ·rw[if_neg c,if_neg z] at kk
   have m1:=aav (ns.getD ((k*3) % (ns.length:Int)).toNat 0) (show(2147483629:Int)≠0 by decide)
   have m2:=aaw (ns.getD ((k*3) % (ns.length:Int)).toNat 0) (show(0:Int)<2147483629 by decide)
   exact⟨iY,ns,hS,by omega,ns,hS,aav _ (by omega),aaw _ (by omega),by decide,iY,kq,iY,kk⟩
theorem kT:aV ["_law_script","_law_cell_here","_law_size","_law_at","_law_names_here","_law_k","_law_name","_law_j","_law_step"] ["_law_script"] (aj (top 48)):=⟨rfl,rfl,rfl,by decide +kernel,rfl,by decide +kernel,by decide +kernel⟩
theorem Gw (T:Txt K mg aG aH aA aL af au):cL P w K mg base (bC P w) 2 "_law_names" ["_law_script"] (C5 K):=by
 have bh:cL P w K mg base (bC P w) 1 "_law_cell" ["_law_script","_law_k"] (eD K):=wX T
 refine T.uI.eF (λ_ _ _ _ _ _ us hl=>match us,hl with | [_],_=>rfl) λf fd F=>F.fR kT (λvs H Q E h=>?_) (λbV A outer s H vs Q E hr h=>?_)
 ·obtain⟨_,_,rfl,_⟩:=h;rfl
 ·refine(?_:let G_:Prop:=_;G_)
  intro G_
  obtain⟨a,ns,rfl,hS,kk⟩:=h
  dsimp only[G_]
  clear G_
  have nd:=kT.nd
  refine⟨_,(ai (aK (i:=1) nd rfl (Or.inl rfl) (aW bh (hr.mono (by decide)) rfl aF.pass (aa (pv 0) (aa ae ag (se rfl)) (se rfl)) (he:=se rfl) (hpl:=na rfl)))
  (ai (aK (i:=2) nd rfl (Or.inl rfl) (aB bf ae (aB bo (pv 1) ae)))
  (ai (aK (i:=3) nd rfl (Or.inl rfl) (aB bo (aB cj (pv 1) ae) (pv 2)))
  (ai (aK (i:=4) nd rfl (Or.inl rfl) (bJ ag))
  (ai (cB PassesOwn.never rfl (cV rfl T.z_range (aa ae ag (se rfl))) (aT (i:=5) nd rfl (Or.inl rfl)) (ai (aK (i:=6) nd rfl (Or.inl rfl) bc)
  (ai (cB PassesOwn.never rfl (cV rfl T.z_range (aa (pv 2) ag (se rfl))) (aT (i:=7) nd rfl (Or.inl rfl)) (ai (aK (i:=8) nd rfl (Or.inl rfl) ae)
  (ai (bG (aM cg (pv 7) (pv 3) (aY _)) (ar (aK (i:=8) nd rfl (Or.inl rfl) (pv 5)))
   bg)
  (ar (aK (i:=6) nd rfl (Or.inl rfl) (aB xp (pv 6) (aE EF bc (aB bo (aB bf (aB cj (pv 1) (aB bf ae (pv 7))) (pv 8)) ae) (λ_ _=>rfl))))))))
  (ar (bZ (eE aax aaK aaL cI.r (pv 4) (aa (pv 6) ag (se rfl))))))))
  (ar (aP (pv 4)))))))),?_⟩
  refine(?_:let cm:TS:=_;let cu:TS:=_;let cw:TS:=_;let dZ:TS:=_;let qT:TS:=_;let tY:TS:=_;tSeq cm (tSeq cu (tSeq cw (tSeq dZ (tSeq qT tY)))) _ _ _)
  intro cm cu cw dZ qT tY
  have sl:=sizeLine_eq
  have sb:=CU (aN ns 0)
  have es:(iG (aN ns 0):Int)=1+aN ns 0 % 8:=by unfold iG;omega
  change tSeq _ _ _ _ _
  refine ba (λN=>N [some (.ref a),some (.int (aN ns 0)),none,none,none,none,none,none,none] H) ?_ (λN hN=>?_)
  case refine_2=>
   simp_all only[eD]
   exact⟨ns,hS,by decide,by decide,hN⟩
  change tSeq _ _ _ _ _
  refine ba (λN=>N [some (.ref a),some (.int (aN ns 0)),some (.int (iG (aN ns 0):Int)),none,none,none,none,none,none] H) ?_ (λN hN=>?_)
  case refine_2=>
   simp_all only[]
   rw[es] at hN
   exact⟨by decide,hN⟩
  change tSeq _ _ _ _ _
  refine ba (λN=>N [some (.ref a),some (.int (aN ns 0)),some (.int (iG (aN ns 0):Int)),some (.int (zK (aN ns 0))),none,none,none,none,none] H) ?_ (λN hN=>?_)
  case refine_2=>
   simp_all only[]
   exact⟨dE.lit,by omega,hN⟩
  change tSeq _ _ _ _ _
  refine ba (λN=>∀H1 l,aw H H1->H l=none->H1 l=some (.lst [])->N [some (.ref a),some (.int (aN ns 0)),some (.int (iG (aN ns 0):Int)),some (.int (zK (aN ns 0))),some (.ref l),none,none,none,none] H1) ?_ (λN hN=>?_)
  case refine_2=>
   simp_all only[]
   exact⟨aah _,λl nl=>hN _ l (ao nl) nl aq⟩
  rintro H1 l s1 nl hl
  generalize hc:aN ns 0=c at *
  generalize ha:zK c=at_ at *
  generalize hz:iG c=sz at *
  have kk:∀l H',aw H H'->sy H' l ((List.range 14).map λk:Nat=>fX c sz at_ (k:Int))->Q (.ref l) H':=λl H' s h=>kk l H' s (by unfold bY namesOf;rw[hc,ha,hz];exact h)
  change tSeq _ _ _ _ _
  refine ba (λN=>∀H2,aw H H2->sy H2 l ((List.range 14).map λk:Nat=>fX c sz at_ (k:Int))->∀z5 z6 z7 z8,N [some (.ref a),some (.int c),some (.int (sz:Int)),some (.int at_),some (.ref l),z5,z6,z7,z8] H2) ?_ (λN hN=>?_)
  case refine_2=>
   simp_all only[]
   refine⟨by decide,by decide,bX (src_range (Ok:=λ_=>True)) (λi σ H2=>aw H H2/\sy H2 l ((List.range i).map λk:Nat=>fX c sz at_ (k:Int))/\∃z5 z6 z7 z8,σ=[some (.ref a),some (.int c),some (.int (sz:Int)),some (.int at_),some (.ref l),z5,z6,z7,z8]) ⟨s1,hl,_,_,_,_,rfl⟩ (λ_ _ _ _ _=>trivial) ?_ ?_⟩
   ·intro k x σ H2 H3 hk fK fj
    refine(?_:let G_:Prop:=_;G_)
    intro G_
    obtain⟨s2,iM,z5,z6,z7,z8,rfl⟩:=fK
    obtain⟨rfl,rfl⟩:=fj
    dsimp only[G_]
    simp only[gName,aaY,aaX,Int.zero_add]
    change tSeq _ _ _ _ _
    refine ba (λN=>N [some (.ref a),some (.int c),some (.int (sz:Int)),some (.int at_),some (.ref l),some (.int (k:Int)),some (.str (Str.ofString "")),z7,z8] H3) ?_ (λN hN=>?_)
    case refine_2=>
     simp_all only[]
     exact hN
    change tSeq _ _ _ _ _
    refine ba (λN=>∀z7 z8,N [some (.ref a),some (.int c),some (.int (sz:Int)),some (.int at_),some (.ref l),some (.int (k:Int)),some (.str (fX c sz at_ (k:Int))),z7,z8] H3) ?_ (λN hN=>?_)
    case refine_2=>
     simp_all only[]
     refine⟨by omega,by omega,bX (src_range (Ok:=λ_=>True)) (λj σ H4=>H3=H4/\∃z7 z8,σ=[some (.ref a),some (.int c),some (.int (sz:Int)),some (.int at_),some (.ref l),some (.int (k:Int)),some (.str (fX c j at_ (k:Int))),z7,z8]) ⟨rfl,_,_,rfl⟩ (λ_ _ _ _ _=>trivial) ?_ ?_⟩
     ·intro j x σ H4 H5 hj fK fj
      refine(?_:let G_:Prop:=_;G_)
      intro G_
      obtain⟨rfl,z7,z8,rfl⟩:=fK
      obtain⟨rfl,rfl⟩:=fj
      dsimp only[G_]
      simp only[gName,aaY,aaX,Int.zero_add]
      change tSeq _ _ _ _ _
      refine ba (λN=>N [some (.ref a),some (.int c),some (.int (sz:Int)),some (.int at_),some (.ref l),some (.int (k:Int)),some (.str (fX c j at_ (k:Int))),some (.int (j:Int)),some (.int 0)] H5) ?_ (λN hN=>?_)
      case refine_2=>
       simp_all only[]
       exact hN
      change tSeq _ _ _ _ _
      refine ba (λN=>N [some (.ref a),some (.int c),some (.int (sz:Int)),some (.int at_),some (.ref l),some (.int (k:Int)),some (.str (fX c j at_ (k:Int))),some (.int (j:Int)),some (.int (if (j:Int)=at_ then (k:Int) else 0))] H5) ?_ (λN hN=>?_)
      case refine_2=>
       simp_all only[]
       refine jR (λe=>?_) (λe=>?_)
       ·rw[if_pos e] at hN
        exact hN
       ·rw[if_neg e] at hN
        exact hN
      simp_all only[GY]
      exact⟨dE.of (n:=64) (by omega) (Bt.of 1000000 (by omega) (by omega)),by decide,by rw[sl];decide +kernel,_,IP,by rw[Dw];show j+1<=sizeLine;omega,(A6 c j at_ k).symm,_,rfl⟩
     ·intro σ H4 dk
      refine(?_:let G_:Prop:=_;G_)
      intro G_
      obtain⟨rfl,z7,z8,rfl⟩:=dk
      dsimp only[G_]
      rw[show((sz:Int)).toNat=sz from aa1 _]
      exact hN _ _
    rintro z7 z8
    simp_all only[c7]
    refine⟨.inl ⟨rfl,_,bL.of iM⟩,_,iM,by rw[aac,aac,aaE];omega,ck s2 nl,?_,_,rfl⟩
    unfold sy
    rw[aq,List.range_succ,aao,aao]
    rfl
   ·intro σ H2 dk
    refine(?_:let G_:Prop:=_;G_)
    intro G_
    obtain⟨s2,iM,z5,z6,z7,z8,rfl⟩:=dk
    dsimp only[G_]
    exact hN _ s2 iM _ _ _ _
  rintro H2 s2 iM z5 z6 z7 z8
  simp_all only[]
  exact kk _ _ s2 iM
theorem kU:aV ["_law_cell_here","_law_names_here","_law_many","_law_thrown","_law_count","_law_other","_law_some"] ["_law_cell_here","_law_names_here","_law_many","_law_thrown"] (aj (top 49)):=⟨rfl,rfl,rfl,by decide +kernel,rfl,by decide +kernel,by decide +kernel⟩
theorem Gx (T:Txt K mg aG aH aA aL af au):cL P w K mg base (bC P w) 1 "_law_deeds" ["_law_cell_here","_law_names_here","_law_many","_law_thrown"] t7:=by
 refine T.uJ.eF (λ_ _ _ _ _ _ us hl=>match us,hl with | [_,_,_,_],_=>rfl) λf fd F=>F.fR kU (λvs H Q E h=>?_) (λbV A outer s H vs Q E hr h=>?_)
 ·obtain⟨_,_,_,_,_,rfl,_⟩:=h;rfl
 ·refine(?_:let G_:Prop:=_;G_)
  intro G_
  obtain⟨c,nl,nms,th,many,rfl,hn,ln,y3,kk⟩:=h
  dsimp only[G_]
  clear G_
  have nd:=kU.nd
  refine⟨_,(ai (bG (aM cg (pv 2) ae (aY _)) (ar (aP (bJ ag)))
   bg)
  (ai (aK (i:=4) nd rfl (Or.inl rfl) (aE aX (pv 1) (aB bf ae (aB bo (aB cj (pv 0) ae) (pv 2))) (λ_ _=>rfl)))
  (ai (aK (i:=5) nd rfl (Or.inl rfl) (aE aX (pv 1) (aB bf ae (aB bo (aB cj (pv 0) ae) (pv 2))) (λ_ _=>rfl)))
  (ai (aK (i:=6) nd rfl (Or.inl rfl) (bJ (aa (bJ ag) (aa (bJ (aa (aZ (aa bc (aa (pv 4) (aa ae ag (se rfl)) (se rfl)) (se rfl))) ag (se rfl))) (aa (bJ (aa (aZ (aa bc (aa (pv 4) (aa (aB bo (aB cj (pv 0) ae) ae) ag (se rfl)) (se rfl)) (se rfl))) (aa (aZ (aa bc (aa (pv 5) (aa ae ag (se rfl)) (se rfl)) (se rfl))) ag (se rfl)) (se rfl))) (aa (bJ (aa (aZ (aa bc (aa (pv 4) ag (se rfl)) (se rfl))) ag (se rfl))) ag (se rfl)) (se rfl)) (se rfl)) (se rfl))))
  (ar (aP (aE aX (pv 6) (aB bo (pv 0) (aB bf ae (fO xM (by rfl) T.z_int rfl (aa (pv 3) ag (se rfl)) (he:=se rfl) (hpl:=na rfl)))) (λ_ _=>rfl)))))))),?_⟩
  refine(?_:let cm:TS:=_;let cu:TS:=_;let cw:TS:=_;let dZ:TS:=_;let qT:TS:=_;tSeq cm (tSeq cu (tSeq cw (tSeq dZ qT))) _ _ _)
  intro cm cu cw dZ qT
  have sl:=sizeLine_eq
  change tSeq _ _ _ _ _
  by_cases z:many=0
  ·subst z
   refine ba (λ_=>True) trivial (λN _=>?_)
   refine lM (λY N k=>by simp_all only[];first | exact k | (rw[if_pos (by rfl)];exact k)) ?_
   simp_all only[]
   refine⟨aah _,λp np=>kk _ _ (ao np) (eO np aq ?_)⟩
   unfold fh
   rw[if_pos rfl]
   exact de
  ·refine ba (λN=>N [some (.int c),some (.ref nl),some (.int (many:Int)),some (.bl th),none,none,none] H) ?_ (λN hN=>?_)
   case refine_2=>exact gT (λY N k=>by simp_all only[];rw[if_neg (by omega)];exact k) hN
   have hy:∀x:Int,0<=6+x % (many:Int)/\6+x % (many:Int)<14:=λx=>by
    have e1:=aav x (show(many:Int)≠0 by omega)
    have e2:=aaw x (show(0:Int)< (many:Int) by omega)
    omega
   change tSeq _ _ _ _ _
   refine ba (λN=>N [some (.int c),some (.ref nl),some (.int (many:Int)),some (.bl th),some (.str (eU nms (6+c / 12 % (many:Int)))),none,none] H) ?_ (λN hN=>?_)
   case refine_2=>
    simp_all only[]
    have:=hy (c / 12)
    exact⟨dE.lit,by omega,_,hn,_,c9 (by omega) (by omega),hN⟩
   change tSeq _ _ _ _ _
   refine ba (λN=>N [some (.int c),some (.ref nl),some (.int (many:Int)),some (.bl th),some (.str (eU nms (6+c / 12 % (many:Int)))),some (.str (eU nms (6+c / 36 % (many:Int)))),none] H) ?_ (λN hN=>?_)
   case refine_2=>
    simp_all only[]
    have:=hy (c / 36)
    exact⟨dE.lit,by omega,_,hn,_,c9 (by omega) (by omega),hN⟩
   have dF:fh c nms many th=([[],[.plus (eU nms (6+c / 12 % (many:Int))) 1],[.set (eU nms (6+c / 12 % (many:Int))) (c / 108 % 3),.plus (eU nms (6+c / 36 % (many:Int))) 1],[.face (eU nms (6+c / 12 % (many:Int)))]]:List (List Dd)).getD (c % (3+if th=true then 1 else 0)).toNat []:=by unfold fh;rw[if_neg z]
   rw[dF] at kk
   generalize eU nms (6+c / 12 % (many:Int))=n1 at *
   generalize eU nms (6+c / 36 % (many:Int))=n2 at *
   generalize M3:([[],[.plus n1 1],[.set n1 (c / 108 % 3),.plus n2 1],[.face n1]]:List (List Dd))=Wi at *
   have ld:Wi.length=4:=by rw[<-M3];rfl
   change tSeq _ _ _ _ _
   refine ba (λN=>∀H1 sl vs,aw H H1->H1 sl=some (.lst vs)->cY H H1 (Wi.map λds=>Dat.lst (ds.map EZ)) vs->N [some (.int c),some (.ref nl),some (.int (many:Int)),some (.bl th),some (.str n1),some (.str n2),some (.ref sl)] H1) ?_ (λN hN=>?_)
   case refine_2=>
    subst M3
    simp_all only[]
    refine⟨aah _,λl0 m0=>⟨by omega,λt1 H1 s1 Yo e1=>⟨by omega,λl1 m1=>⟨dE.lit,by decide,by omega,λt2 H2 s2 n2' e2=>⟨by omega,λt3 H3 s3 n3 e3=>⟨by omega,λl2 m2=>⟨by omega,λt4 H4 s4 n4 e4=>⟨by omega,λl3 m3=>⟨by omega,λFE ms=>?_⟩⟩⟩⟩⟩⟩⟩⟩⟩
    have q9:=ao (o:=.lst [V.ref l0,.ref l1,.ref l2,.ref l3]) ms
    have q8:=(ao (o:=.lst [V.ref t4]) m3).trans q9
    have q7:=s4.trans q8
    have q6:=(ao (o:=.lst [V.ref t2,V.ref t3]) m2).trans q7
    have q5:=s3.trans q6
    have q4:=s2.trans q5
    have q3:=(ao (o:=.lst [V.ref t1]) m1).trans q4
    have q2:=s1.trans q3
    have q1:=(ao (o:=.lst []) m0).trans q2
    have z1:H l1=none:=none_of ((ao m0).trans s1) m1
    have z2:H l2=none:=none_of ((ao m0).trans (s1.trans ((ao m1).trans (s2.trans s3)))) m2
    have z3:H l3=none:=none_of ((ao m0).trans (s1.trans ((ao m1).trans (s2.trans (s3.trans ((ao m2).trans s4)))))) m3
    exact hN _ FE _ q1 aq (bE (eO m0 (q2 _ _ aq) de) (bE (eO z1 (q4 _ _ aq) (bE (rj (.of q1) (q3 _ _ e1) bR bR cC) de)) (bE (eO z2 (q7 _ _ aq) (bE (rj (.of q1) (q5 _ _ e2) bR bR cC) (bE (rj (.of q1) (q6 _ _ e3) bR bR cC) de))) (bE (eO z3 (q9 _ _ aq) (bE (wW (.of q1) (q8 _ _ e4) bR bR) de)) de))))
   rintro H1 FE vs s1 NR Y3
   have ib:0<=c % (3+if th=true then 1 else 0)/\c % (3+if th=true then 1 else 0)<4:=by
    cases th with
    | true=>rw[if_pos rfl];omega
    | false=>rw[if_neg (by decide)];omega
   have ip:(0:Int)<3+if th=true then 1 else 0:=by split <;>omega
   obtain⟨v,ev,rv⟩:=Y3.ix ib.1 (map_getD [] (by rw[ld];omega))
   simp_all only[]
   exact⟨ip,_,NR,_,ev,kk _ _ s1 rv⟩
theorem kX:aV ["_law_script","_law_k","_law_m","_law_names_here","_law_many","_law_pools","_law_cell_here","_law_back","_law_goal","_law_first","_law_second"] ["_law_script","_law_k","_law_m","_law_names_here","_law_many"] (aj (top 50)):=⟨rfl,rfl,rfl,by decide +kernel,rfl,by decide +kernel,by decide +kernel⟩
theorem LQ (T:Txt K mg aG aH aA aL af au):cL P w K mg base (bC P w) 2 "_law_throw" ["_law_script","_law_k","_law_m","_law_names_here","_law_many"] (Du K):=by
 have bh:cL P w K mg base (bC P w) 1 "_law_cell" ["_law_script","_law_k"] (eD K):=wX T
 have fM:cL P w K mg base (bC P w) 1 "_law_deeds" ["_law_cell_here","_law_names_here","_law_many","_law_thrown"] t7:=Gx T
 refine T.uK.eF (λ_ _ _ _ _ _ us hl=>match us,hl with | [_,_,_,_,_],_=>rfl) λf fd F=>F.fR kX (λvs H Q E h=>?_) (λbV A outer s H vs Q E hr h=>?_)
 ·obtain⟨_,_,_,_,_,_,_,rfl,_⟩:=h;rfl
 ·refine(?_:let G_:Prop:=_;G_)
  intro G_
  obtain⟨a,ns,nl,nms,k,m,many,rfl,hS,hn,ln,y3,km,m4,kk⟩:=h
  dsimp only[G_]
  clear G_
  have nd:=kX.nd
  refine⟨_,(ai (aK (i:=5) nd rfl (Or.inl rfl) (bJ (aa (bJ (aa (aZ (aa bc (aa ae (aa ae ag (se rfl)) (se rfl)) (se rfl))) ag (se rfl))) (aa (bJ (aa (aZ (aa bc (aa ae (aa ae ag (se rfl)) (se rfl)) (se rfl))) ag (se rfl))) (aa (bJ (aa (aZ (aa bc (aa ae ag (se rfl)) (se rfl))) (aa (aZ (aa bc (aa ae (aa ae ag (se rfl)) (se rfl)) (se rfl))) ag (se rfl)) (se rfl))) (aa (bJ (aa (aZ (aa bc (aa ae (aa ae ag (se rfl)) (se rfl)) (se rfl))) ag (se rfl))) ag (se rfl)) (se rfl)) (se rfl)) (se rfl))))
  (ai (aK (i:=6) nd rfl (Or.inl rfl) (aW bh (hr.mono (by decide)) rfl aF.pass (aa (pv 0) (aa (aB bf ae (aB bM ae (pv 1))) ag (se rfl)) (se rfl)) (he:=se rfl) (hpl:=na rfl)))
  (ai (aK (i:=7) nd rfl (Or.inl rfl) (aB bo (aW bh (hr.mono (by decide)) rfl aF.pass (aa (pv 0) (aa (aB bf ae (aB bM ae (pv 1))) ag (se rfl)) (se rfl)) (he:=se rfl) (hpl:=na rfl)) (aB bf (pv 2) ae)))
  (ai (bG (aM iC (aB bo (aW bh (hr.mono (by decide)) rfl aF.pass (aa (pv 0) (aa ae ag (se rfl)) (se rfl)) (he:=se rfl) (hpl:=na rfl)) ae) ae (aY _)) (ar (aK (i:=7) nd rfl (Or.inl rfl) (aB bf (aB bf (pv 1) ae) (aB bo (pv 7) (aB fe (aB bf (pv 2) ae) (pv 1))))))
   bg)
  (ai (aK (i:=8) nd rfl (Or.inl rfl) (aB bf (aB bf (pv 1) ae) (aB bo (aW bh (hr.mono (by decide)) rfl aF.pass (aa (pv 0) (aa (aB bf ae (aB bM ae (pv 1))) ag (se rfl)) (se rfl)) (he:=se rfl) (hpl:=na rfl)) (aB fe (aB bf (pv 2) ae) (pv 1)))))
  (ai (aK (i:=9) nd rfl (Or.inl rfl) (aZ (aa ae (aa ae (aa (aW fM (hr.mono (by decide)) rfl aF.pass (aa (aB cj (pv 6) ae) (aa (pv 3) (aa (pv 4) (aa gN ag (se rfl)) (se rfl)) (se rfl)) (se rfl)) (he:=se rfl) (hpl:=na rfl)) (aa (aE aX (pv 3) (pv 7) (λ_ _=>rfl)) ag (se rfl)) (se rfl)) (se rfl)) (se rfl))))
  (ai (aK (i:=10) nd rfl (Or.inl rfl) (aZ (aa ae (aa ae (aa (aW fM (hr.mono (by decide)) rfl aF.pass (aa (aB cj (pv 6) ae) (aa (pv 3) (aa (pv 4) (aa gN ag (se rfl)) (se rfl)) (se rfl)) (se rfl)) (he:=se rfl) (hpl:=na rfl)) (aa (aE aX (pv 3) (pv 8) (λ_ _=>rfl)) ag (se rfl)) (se rfl)) (se rfl)) (se rfl))))
  (ar (aP (aZ (aa bc (aa (aE aX (pv 5) (aB bo (pv 6) ae) (λ_ _=>rfl)) (aa (aZ (aa (aB fe (aB bo (aW bh (hr.mono (by decide)) rfl aF.pass (aa (pv 0) (aa (aB bf ae (aB bM ae (pv 1))) ag (se rfl)) (se rfl)) (he:=se rfl) (hpl:=na rfl)) ae) ae) (aa ae ag (se rfl)) (se rfl))) (aa (bJ (aa (pv 9) (aa (pv 10) ag (se rfl)) (se rfl))) ag (se rfl)) (se rfl)) (se rfl)) (se rfl)))))))))))),?_⟩
  refine(?_:let cm:TS:=_;let cu:TS:=_;let cw:TS:=_;let dZ:TS:=_;let qT:TS:=_;let tY:TS:=_;let Dk:TS:=_;let Gy:TS:=_;tSeq cm (tSeq cu (tSeq cw (tSeq dZ (tSeq qT (tSeq tY (tSeq Dk Gy)))))) _ _ _)
  intro cm cu cw dZ qT tY Dk Gy
  have sl:=sizeLine_eq
  have l14:(nms.length:Int)=14:=by omega
  have A7:∀x:Int,0<=x % ((m:Int)+1 - (k:Int))/\x % ((m:Int)+1 - (k:Int))< (m:Int)+1 - (k:Int):=λx=>⟨aav _ (by omega),aaw _ (by omega)⟩
  change tSeq _ _ _ _ _
  refine ba (λN=>∀H1 pl vs,aw H H1->H1 pl=some (.lst vs)->cY H H1 (AO.map λps=>Dat.lst (ps.map zp)) vs->N [some (.ref a),some (.int (k:Int)),some (.int (m:Int)),some (.ref nl),some (.int (many:Int)),some (.ref pl),none,none,none,none,none] H1) ?_ (λN hN=>?_)
  case refine_2=>
   simp_all only[]
   refine⟨by decide,λt0 H1 s1 n1 e1=>⟨by decide,λl0 m0=>⟨by decide,λt1 H2 s2 n2 e2=>⟨by decide,λl1 m1=>⟨by decide,λt2 H3 s3 n3 e3=>⟨by decide,λt3 H4 s4 n4 e4=>⟨by decide,λl2 m2=>⟨by decide,λt4 H5 s5 n5 e5=>⟨by decide,λl3 m3=>⟨by decide,λpl mp=>?_⟩⟩⟩⟩⟩⟩⟩⟩⟩⟩
   have q9:=ao (o:=.lst [V.ref l0,.ref l1,.ref l2,.ref l3]) mp
   have q8:=(ao (o:=.lst [V.ref t4]) m3).trans q9
   have q7:=s5.trans q8
   have q6:=(ao (o:=.lst [V.ref t2,V.ref t3]) m2).trans q7
   have q5:=s4.trans q6
   have q4:=s3.trans q5
   have q3:=(ao (o:=.lst [V.ref t1]) m1).trans q4
   have q2:=s2.trans q3
   have q1:=(ao (o:=.lst [V.ref t0]) m0).trans q2
   refine hN _ pl _ (s1.trans q1) aq ?_
   have sF:=s1.trans q1
   have z0:H l0=none:=none_of s1 m0
   have z1:H l1=none:=none_of (s1.trans ((ao m0).trans s2)) m1
   have z2:H l2=none:=none_of (s1.trans ((ao m0).trans (s2.trans ((ao m1).trans (s3.trans s4))))) m2
   have z3:H l3=none:=none_of (s1.trans ((ao m0).trans (s2.trans ((ao m1).trans (s3.trans (s4.trans ((ao m2).trans s5))))))) m3
   refine bE (eO z0 (q2 _ _ aq) (bE (rj (.of sF) (q1 _ _ e1) bR cC cC) de)) ?_
   refine bE (eO z1 (q4 _ _ aq) (bE (rj (.of sF) (q3 _ _ e2) bR cC cC) de)) ?_
   refine bE (eO z2 (q7 _ _ aq) (bE (wW (.of sF) (q5 _ _ e3) bR cC) (bE (rj (.of sF) (q6 _ _ e4) bR cC cC) de))) ?_
   exact bE (eO z3 (q9 _ _ aq) (bE (rj (.of sF) (q8 _ _ e5) bR cC cC) de)) de
  rintro H1 pl vs s1 hpl Li
  have wY:=s1.seq hS
  have Ph:=s1 _ _ hn
  change tSeq _ _ _ _ _
  refine ba (λN=>N [some (.ref a),some (.int (k:Int)),some (.int (m:Int)),some (.ref nl),some (.int (many:Int)),some (.ref pl),some (.int (aN ns (10+5* (k:Int)))),none,none,none,none] H1) ?_ (λN hN=>?_)
  case refine_2=>
   simp_all only[eD]
   exact⟨cW (by omega) (by omega),ns,wY,by omega,by omega,hN⟩
  change tSeq _ _ _ _ _
  refine ba (λN=>N [some (.ref a),some (.int (k:Int)),some (.int (m:Int)),some (.ref nl),some (.int (many:Int)),some (.ref pl),some (.int (aN ns (10+5* (k:Int)))),some (.int (aN ns (11+5* (k:Int)) % ((m:Int)+2))),none,none,none] H1) ?_ (λN hN=>?_)
  case refine_2=>
   simp_all only[eD]
   exact⟨cW (by omega) (by omega),ns,wY,by omega,by omega,by omega,hN⟩
  generalize hb:(if aN ns 1 % 3 >0 then (k:Int)+1+aN ns (11+5* (k:Int)) % ((m:Int)+2) % ((m:Int)+1 - (k:Int)) else aN ns (11+5* (k:Int)) % ((m:Int)+2))=bk at *
  have bkb:0<=bk/\bk<14:=by
   have a1:=aav (aN ns (11+5* (k:Int))) (show(m:Int)+2≠0 by omega)
   have a2:=aaw (aN ns (11+5* (k:Int))) (show(0:Int)< (m:Int)+2 by omega)
   have a3:=A7 (aN ns (11+5* (k:Int)) % ((m:Int)+2))
   subst hb
   split <;>omega
  change tSeq _ _ _ _ _
  refine ba (λN=>N [some (.ref a),some (.int (k:Int)),some (.int (m:Int)),some (.ref nl),some (.int (many:Int)),some (.ref pl),some (.int (aN ns (10+5* (k:Int)))),some (.int bk),none,none,none] H1) ?_ (λN hN=>?_)
  case refine_2=>
   subst hb
   simp_all only[eD]
   refine⟨ns,wY,by decide,by decide,by decide,jR (λc=>?_) (λc=>?_)⟩
   ·rw[if_pos c] at hN
    exact⟨by omega,hN⟩
   ·rw[if_neg c] at hN
    exact hN
  generalize hg:(k:Int)+1+aN ns (12+5* (k:Int)) % ((m:Int)+1 - (k:Int))=gl at *
  have glb:0<=gl/\gl<14:=by have:=A7 (aN ns (12+5* (k:Int)));omega
  change tSeq _ _ _ _ _
  refine ba (λN=>N [some (.ref a),some (.int (k:Int)),some (.int (m:Int)),some (.ref nl),some (.int (many:Int)),some (.ref pl),some (.int (aN ns (10+5* (k:Int)))),some (.int bk),some (.int gl),none,none] H1) ?_ (λN hN=>?_)
  case refine_2=>
   subst hg
   simp_all only[eD]
   exact⟨cW (by omega) (by omega),ns,wY,by omega,by omega,by omega,hN⟩
  change tSeq _ _ _ _ _
  refine ba (λN=>∀H2 v,aw H1 H2->cX H H2 (tM (Jk (0,1,fh (aN ns (10+5* (k:Int)) / 4) nms many true,eU nms bk))) v->N [some (.ref a),some (.int (k:Int)),some (.int (m:Int)),some (.ref nl),some (.int (many:Int)),some (.ref pl),some (.int (aN ns (10+5* (k:Int)))),some (.int bk),some (.int gl),some v,none] H2) ?_ (λN hN=>?_)
  case refine_2=>
   simp_all only[t7]
   exact⟨dE.lit,nms,true,many,rfl,rfl,Ph,ln,y3,λv H' s' rb=>⟨_,s' _ _ Ph,_,c9 (by omega) (by omega),by omega,λp H2 s2 np e2=>hN _ _ (s'.trans s2) (Fw (.of (s1.trans (s'.trans s2))) e2 cC cC ((rb.low (.of s1)).mono s2) bR)⟩⟩
  rintro H2 v1 s2 r1
  change tSeq _ _ _ _ _
  refine ba (λN=>∀H3 v,aw H2 H3->cX H H3 (tM (Jk (2,9,fh (aN ns (10+5* (k:Int)) / 64) nms many true,eU nms gl))) v->N [some (.ref a),some (.int (k:Int)),some (.int (m:Int)),some (.ref nl),some (.int (many:Int)),some (.ref pl),some (.int (aN ns (10+5* (k:Int)))),some (.int bk),some (.int gl),some v1,some v] H3) ?_ (λN hN=>?_)
  case refine_2=>
   simp_all only[t7]
   have D1:=s2 _ _ Ph
   exact⟨dE.lit,nms,true,many,rfl,rfl,D1,ln,y3,λv H' s' rb=>⟨_,s' _ _ D1,_,c9 (by omega) (by omega),by omega,λp H2 s3 np e2=>hN _ _ (s'.trans s3) (Fw (.of (s1.trans (s2.trans (s'.trans s3)))) e2 cC cC ((rb.low (.of (s1.trans s2))).mono s3) bR)⟩⟩
  rintro H3 v2 s3 r2
  have Bd:=s2.trans s3
  obtain⟨x,ex,rx⟩:=Li.ix (i:=aN ns (10+5* (k:Int)) % 4) (aav _ (by decide)) (map_getD [] (by show _<4;omega))
  simp_all only[eD]
  refine⟨by decide,_,Bd _ _ hpl,x,ex,cW (by omega) (by omega),ns,Bd.seq wY,by omega,by omega,by decide,by omega,λp H4 s4 np e4=>⟨by omega,λp1 n1=>⟨by omega,λp2 H5 s5 n2 e5=>?_⟩⟩⟩
  have s6:=(ao (o:=.lst [v1,v2]) n1).trans s5
  have sA:=s1.trans (Bd.trans (s4.trans s6))
  refine kk _ _ sA ?_
  subst hb hg
  exact Fw (.of sA) e5 bR (rx.mono (Bd.trans (s4.trans s6))) (wW (.of sA) (s6 _ _ e4) cC cC) (eO (none_of (s1.trans (Bd.trans s4)) n1) (s5 _ _ aq) (bE (r1.mono (s3.trans (s4.trans s6))) (bE (r2.mono (s4.trans s6)) de)))
theorem mY:aV ["_law_script","_law_k","_law_m","_law_names_here","_law_many","_law_who","_law_rows","_law_j","_law_cell_here","_law_when","_law_goal"] ["_law_script","_law_k","_law_m","_law_names_here","_law_many","_law_who"] (aj (top 51)):=⟨rfl,rfl,rfl,by decide +kernel,rfl,by decide +kernel,by decide +kernel⟩
theorem LR (T:Txt K mg aG aH aA aL af au):cL P w K mg base (bC P w) 2 "_law_pick" ["_law_script","_law_k","_law_m","_law_names_here","_law_many","_law_who"] (Dv K):=by
 have bh:cL P w K mg base (bC P w) 1 "_law_cell" ["_law_script","_law_k"] (eD K):=wX T
 have fM:cL P w K mg base (bC P w) 1 "_law_deeds" ["_law_cell_here","_law_names_here","_law_many","_law_thrown"] t7:=Gx T
 refine T.vV.eF (λ_ _ _ _ _ _ us hl=>match us,hl with | [_,_,_,_,_,_],_=>rfl) λf fd F=>F.fR mY (λvs H Q E h=>?_) (λbV A outer s H vs Q E hr h=>?_)
 ·obtain⟨_,_,_,_,_,_,_,_,rfl,_⟩:=h;rfl
 ·refine(?_:let G_:Prop:=_;G_)
  intro G_
  obtain⟨a,ns,nl,nms,rO,k,m,many,rfl,hS,hn,ln,y3,km,m4,kk⟩:=h
  dsimp only[G_]
  clear G_
  have nd:=mY.nd
  refine⟨_,(ai (aK (i:=6) nd rfl (Or.inl rfl) (bJ ag))
  (ai (cB PassesOwn.never rfl (cV rfl T.z_range (aa (aB bf ae (aB bo (aW bh (hr.mono (by decide)) rfl aF.pass (aa (pv 0) (aa (aB bf ae (aB bM ae (pv 1))) ag (se rfl)) (se rfl)) (he:=se rfl) (hpl:=na rfl)) ae)) ag (se rfl))) (aT (i:=7) nd rfl (Or.inl rfl)) (ai (aK (i:=8) nd rfl (Or.inl rfl) (aW bh (hr.mono (by decide)) rfl aF.pass (aa (pv 0) (aa (aB bf (aB bf ae (aB bM ae (pv 1))) (pv 7)) ag (se rfl)) (se rfl)) (he:=se rfl) (hpl:=na rfl)))
  (ai (aK (i:=9) nd rfl (Or.inl rfl) nB)
  (ai (bG (PW.pt (pw_and (aM iC (pv 4) ae (aY _)) (pw_and (aM iC (pv 7) ae (aY _)) (pw_and1 (aM iC (aB bo (pv 8) ae) ae (aY _)))))) (ar (aK (i:=9) nd rfl (Or.inl rfl) (aZ (aa (aE aX (pv 3) (aB bf ae (aB bo (aB cj (pv 8) ae) (pv 4))) (λ_ _=>rfl)) (aa (aE aX (bJ (aa bc (aa bc ag (se rfl)) (se rfl))) (aB fe (aB bo (pv 8) ae) ae) (λ_ _=>rfl)) (aa (aB bo (aB cj (pv 8) ae) ae) ag (se rfl)) (se rfl)) (se rfl)))))
   bg)
  (ai (aK (i:=10) nd rfl (Or.inl rfl) (aB bf (aB bf (pv 1) ae) (aB bo (aB cj (pv 8) ae) (aB fe (aB bf (pv 2) ae) (pv 1)))))
  (ar (bZ (eE aax aaK aaL cI.r (pv 6) (aa (aZ (aa (aE aX (pv 3) (aB bf ae (pv 7)) (λ_ _=>rfl)) (aa (pv 9) (aa (aW fM (hr.mono (by decide)) rfl aF.pass (aa (aB cj (pv 8) ae) (aa (pv 3) (aa (pv 4) (aa gN ag (se rfl)) (se rfl)) (se rfl)) (se rfl)) (he:=se rfl) (hpl:=na rfl)) (aa (aE aX (pv 3) (pv 10) (λ_ _=>rfl)) ag (se rfl)) (se rfl)) (se rfl)) (se rfl))) ag (se rfl))))))))))
  (ar (aP (aZ (aa bc (aa (pv 5) (aa (pv 6) ag (se rfl)) (se rfl)) (se rfl))))))),?_⟩
  refine(?_:let cm:TS:=_;let cu:TS:=_;let cw:TS:=_;tSeq cm (tSeq cu cw) _ _ _)
  intro cm cu cw
  have sl:=sizeLine_eq
  have l14:(nms.length:Int)=14:=by omega
  have A7:∀x:Int,0<=x % ((m:Int)+1 - (k:Int))/\x % ((m:Int)+1 - (k:Int))< (m:Int)+1 - (k:Int):=λx=>⟨aav _ (by omega),aaw _ (by omega)⟩
  have rn:1<=jc ns k/\jc ns k<=3:=by unfold jc;omega
  change tSeq _ _ _ _ _
  refine ba (λN=>∀H1 l,aw H H1->H l=none->H1 l=some (.lst [])->N [some (.ref a),some (.int (k:Int)),some (.int (m:Int)),some (.ref nl),some (.int (many:Int)),some (.int rO),some (.ref l),none,none,none,none] H1) ?_ (λN hN=>?_)
  case refine_2=>
   simp_all only[]
   exact⟨aah _,λl qX=>hN _ l (ao qX) qX aq⟩
  rintro H1 l s1 qX hl
  change tSeq _ _ _ _ _
  refine ba (λN=>∀H2 vs,aw H H2->H2 l=some (.lst vs)->cY H H2 ((((List.range (jc ns k)).map (mM ns k m nms many)).map DI).map tM) vs->∀z7 z8 z9 zi,N [some (.ref a),some (.int (k:Int)),some (.int (m:Int)),some (.ref nl),some (.int (many:Int)),some (.int rO),some (.ref l),z7,z8,z9,zi] H2) ?_ (λN hN=>?_)
  case refine_2=>
   simp_all only[eD]
   refine⟨cW (by omega) (by omega),ns,s1.seq hS,by omega,by omega,by decide,by omega,by omega,?_⟩
   rw[show(1+aN ns (10+5* (k:Int)) % 3).toNat=jc ns k from rfl]
   refine bX (src_range (Ok:=λ_=>True)) (λi σ H2=>aw H H2/\∃vs,H2 l=some (.lst vs)/\cY (upd H l (.lst [])) H2 ((((List.range i).map (mM ns k m nms many)).map DI).map tM) vs/\∃z7 z8 z9 zi,σ=[some (.ref a),some (.int (k:Int)),some (.int (m:Int)),some (.ref nl),some (.int (many:Int)),some (.int rO),some (.ref l),z7,z8,z9,zi]) ⟨s1,[],hl,de,_,_,_,_,rfl⟩ (λ_ _ _ _ _=>trivial) ?_ ?_
   ·intro j x σ H2 H3 hj fK fj
    refine(?_:let G_:Prop:=_;G_)
    intro G_
    obtain⟨s2,vs,iM,rv,z7,z8,z9,zi,rfl⟩:=fK
    obtain⟨rfl,rfl⟩:=fj
    dsimp only[G_]
    clear G_
    have Nj:vs.length=j:=by have:=bb.length rv;rw[aac,aac,aac,aaE] at this;exact this.symm
    have Gz:=s2 _ _ hn
    have li:fC (upd H l (.lst [])) H3:=λb ys e=>by
     by_cases c:b=l
     ·subst c;exact⟨_,iM⟩
     ·rw[aD c] at e;exact⟨_,s2 _ _ e⟩
    simp only[gName,aaY,aaX,Int.zero_add]
    change tSeq _ _ _ _ _
    refine ba (λN=>N [some (.ref a),some (.int (k:Int)),some (.int (m:Int)),some (.ref nl),some (.int (many:Int)),some (.int rO),some (.ref l),some (.int (j:Int)),some (.int (aN ns (11+5* (k:Int)+ (j:Int)))),z9,zi] H3) ?_ (λN hN=>?_)
    case refine_2=>
     simp_all only[eD]
     exact⟨cW (by omega) (by omega),ns,s2.seq hS,by omega,by omega,hN⟩
    have Y4:mM ns k m nms many j=⟨eU nms (10+ (j:Int)),if 0<many/\0<j/\aN ns (11+5* (k:Int)+ (j:Int)) % 3 >0 then qQ (aN ns (11+5* (k:Int)+ (j:Int))) (aN ns (11+5* (k:Int)+ (j:Int)) / 240) nms many (aN ns (11+5* (k:Int)+ (j:Int)) / 3 % 4) else none,fh (aN ns (11+5* (k:Int)+ (j:Int)) / 60) nms many false,eU nms ((k:Int)+1+aN ns (11+5* (k:Int)+ (j:Int)) / 12 % ((m:Int)+1 - (k:Int)))⟩:=rfl
    generalize aN ns (11+5* (k:Int)+ (j:Int))=ce at *
    change tSeq _ _ _ _ _
    refine ba (λN=>N [some (.ref a),some (.int (k:Int)),some (.int (m:Int)),some (.ref nl),some (.int (many:Int)),some (.int rO),some (.ref l),some (.int (j:Int)),some (.int ce),some .cZ,zi] H3) ?_ (λN hN=>?_)
    case refine_2=>
     simp_all only[]
     exact hN
    change tSeq _ _ _ _ _
    refine ba (λN=>∀H4 wv,aw H3 H4->cX H3 H4 (DH (if 0<many/\0<j/\ce % 3 >0 then qQ ce (ce / 240) nms many (ce / 3 % 4) else none)) wv->N [some (.ref a),some (.int (k:Int)),some (.int (m:Int)),some (.ref nl),some (.int (many:Int)),some (.int rO),some (.ref l),some (.int (j:Int)),some (.int ce),some wv,zi] H4) ?_ (λN hN=>?_)
    case refine_2=>
     simp_all only[]
     by_cases c1:0<many
     ·rw[if_pos (by omega)]
      by_cases c2:0<j
      ·rw[if_pos (by omega)]
       refine⟨by decide,jR (λc3=>?_) (λc3=>?_)⟩
       ·rw[if_pos ⟨c1,c2,c3⟩] at hN
        have a1:=aav (ce / 240) (show(many:Int)≠0 by omega)
        have a2:=aaw (ce / 240) (show(0:Int)< (many:Int) by omega)
        exact⟨dE.lit,by omega,_,Gz,_,c9 (by omega) (by omega),by omega,λp np=>⟨by decide,_,aq,_,Gs (by omega) (by omega),dE.lit,by decide,by omega,λp1 H4 s4 n1 e4=>hN _ _ ((ao np).trans s4) (rj (.of ((ao np).trans s4)) e4 bR bR cC)⟩⟩
       ·rw[if_neg (λz=>c3 z.2.2)] at hN
        exact hN _ _ (aw.refl _) vb
      ·rw[if_neg (by omega),if_neg (by decide)]
       rw[if_neg (λz=>c2 z.2.1)] at hN
       exact hN _ _ (aw.refl _) vb
     ·rw[if_neg (by omega),if_neg (by decide)]
      rw[if_neg (λz=>c1 z.1)] at hN
      exact hN _ _ (aw.refl _) vb
    rintro H4 wv s4 LS
    change tSeq _ _ _ _ _
    refine ba (λN=>N [some (.ref a),some (.int (k:Int)),some (.int (m:Int)),some (.ref nl),some (.int (many:Int)),some (.int rO),some (.ref l),some (.int (j:Int)),some (.int ce),some wv,some (.int ((k:Int)+1+ce / 12 % ((m:Int)+1 - (k:Int))))] H4) ?_ (λN hN=>?_)
    case refine_2=>
     simp_all only[]
     exact⟨dE.lit,by omega,hN⟩
    simp_all only[c7,t7]
    have gb:=A7 (ce / 12)
    refine⟨.inl ⟨rfl,_,bL.of (s4 _ _ iM)⟩,_,s4 _ _ Gz,_,c9 (by omega) (by omega),dE.lit,nms,false,many,rfl,rfl,s4 _ _ Gz,ln,y3,λdv H5 s5 rd=>⟨_,s5 _ _ (s4 _ _ Gz),_,c9 (by omega) (by omega),by omega,λp H6 s6 np e6=>⟨_,s6 _ _ (s5 _ _ (s4 _ _ iM)),by omega,ck (s2.trans (s4.trans (s5.trans s6))) qX,_,aq,?_,_,rfl⟩⟩⟩
    have Wj:=li.trans s4
    have Pj:=Wj.trans (s5.trans s6)
    show bb (iP _ (upd _ _ _)) _ _
    rw[mV (ys:=[]) aq,List.range_succ,aao,aao,aao]
    refine pV ?_ (rv.mono (s4.trans (s5.trans s6)))
    show cX _ _ (tM (DI (mM ns k m nms many j))) _
    rw[Y4]
    exact Fw Pj e6 bR ((LS.low li).mono (s5.trans s6)) ((rd.low Wj).mono s6) bR
   ·intro σ H2 dk
    refine(?_:let G_:Prop:=_;G_)
    intro G_
    obtain⟨s2,vs,iM,rv,z7,z8,z9,zi,rfl⟩:=dk
    dsimp only[G_]
    exact hN _ vs s2 iM (rv.low (.of (ao qX))) _ _ _ _
  rintro H2 vs s2 iM rv z7 z8 z9 zi
  simp_all only[]
  exact⟨by omega,λp H3 s3 np e3=>kk _ _ (s2.trans s3) (rj (.of (s2.trans s3)) e3 bR cC (eO qX (s3 _ _ iM) (rv.mono s3)))⟩
theorem mZ:aV ["_law_script","_law_names_here","_law_m","_law_many","_law_counts","_law_places","_law_k","_law_kind","_law_goals","_law_asked","_law_last"] ["_law_script"] (aj (top 52)):=⟨rfl,rfl,rfl,by decide +kernel,rfl,by decide +kernel,by decide +kernel⟩
theorem LU (T:Txt K mg aG aH aA aL af au):cL P w K mg base (bC P w) 3 "_law_game" ["_law_script"] (C6 K):=by
 have bh:cL P w K mg base (bC P w) 1 "_law_cell" ["_law_script","_law_k"] (eD K):=wX T
 have iB:cL P w K mg base (bC P w) 2 "_law_names" ["_law_script"] (C5 K):=Gw T
 have vd:cL P w K mg base (bC P w) 2 "_law_throw" ["_law_script","_law_k","_law_m","_law_names_here","_law_many"] (Du K):=LQ T
 have wZ:cL P w K mg base (bC P w) 2 "_law_pick" ["_law_script","_law_k","_law_m","_law_names_here","_law_many","_law_who"] (Dv K):=LR T
 refine T.vW.eF (λ_ _ _ _ _ _ us hl=>match us,hl with | [_],_=>rfl) λf fd F=>F.fR mZ (λvs H Q E h=>?_) (λbV A outer s H vs Q E hr h=>?_)
 ·obtain⟨_,_,rfl,_⟩:=h;rfl
 ·refine(?_:let G_:Prop:=_;G_)
  intro G_
  obtain⟨a,ns,rfl,hS,kk⟩:=h
  dsimp only[G_]
  clear G_
  have nd:=mZ.nd
  refine⟨_,(ai (aK (i:=1) nd rfl (Or.inr rfl) (aW iB (hr.mono (by decide)) rfl aF.pass (aa (pv 0) ag (se rfl)) (he:=se rfl) (hpl:=na rfl)))
  (ai (aK (i:=2) nd rfl (Or.inr rfl) (aB bf ae (aB bo (aW bh (hr.mono (by decide)) rfl aF.pass (aa (pv 0) (aa ae ag (se rfl)) (se rfl)) (he:=se rfl) (hpl:=na rfl)) ae)))
  (ai (aK (i:=3) nd rfl (Or.inr rfl) (aB bo (aW bh (hr.mono (by decide)) rfl aF.pass (aa (pv 0) (aa ae ag (se rfl)) (se rfl)) (he:=se rfl) (hpl:=na rfl)) ae))
  (ai (uu (i:=4) rfl nd rfl rfl (N:=["_law_script","_law_names_here","_law_m","_law_many","_law_counts","_law_places","_law_k","_law_kind","_law_goals","_law_asked","_law_last"]) (so:=aj (top 52)) (N':=["_law_k","_law_script","_law_names_here","_law_many"]) (k:=1) (fr:=[0,1,3]) rfl rfl ⟨rfl,by decide +kernel,by decide +kernel,by decide +kernel,rfl,by decide +kernel,by decide +kernel⟩ (cV rfl T.z_range (aa (pv 3) ag (se rfl))) (λ_ _ _ _ _=>(aT (i:=0) (show(["_law_k","_law_script","_law_names_here","_law_many"]:List Str).Nodup by decide +kernel) rfl (Or.inl rfl))) (λ_ _ _ _ _=>dq)
   (λ_ _ _ _ _=>(aZ (aa (aE aX (pv 2) (aB bf ae (pv 0)) (λ_ _=>rfl)) (aa (aB bf ae (aB bo (aW bh (hr.mono (by decide)) rfl aF.pass (aa (pv 1) (aa (aB bf ae (pv 0)) ag (se rfl)) (se rfl)) (he:=se rfl) (hpl:=na rfl)) (aB fe ae (pv 3)))) ag (se rfl)) (se rfl)))))
  (ai (aK (i:=5) nd rfl (Or.inl rfl) (bJ ag))
  (ai (cB PassesOwn.never rfl (cV rfl T.z_range (aa (pv 2) ag (se rfl))) (aT (i:=6) nd rfl (Or.inr rfl)) (ai (aK (i:=7) nd rfl (Or.inl rfl) (aB bo (aW bh (hr.mono (by decide)) rfl aF.pass (aa (pv 0) (aa (aB bf ae (aB bM ae (pv 6))) ag (se rfl)) (se rfl)) (he:=se rfl) (hpl:=na rfl)) ae))
  (ar (bG (PW.pt (pw_and (aM cg (pv 7) ae (aY _)) (pw_and1 (aM iC (pv 3) ae (aY _))))) (ai (uu (i:=8) rfl nd rfl rfl (N:=["_law_script","_law_names_here","_law_m","_law_many","_law_counts","_law_places","_law_k","_law_kind","_law_goals","_law_asked","_law_last"]) (so:=aj (top 52)) (N':=["_law_j","_law_script","_law_names_here","_law_m","_law_k"]) (k:=1) (fr:=[0,1,2,6]) rfl rfl ⟨rfl,by decide +kernel,by decide +kernel,by decide +kernel,rfl,by decide +kernel,by decide +kernel⟩ (cV rfl T.z_range (aa ae ag (se rfl))) (λ_ _ _ _ _=>(aT (i:=0) (show(["_law_j","_law_script","_law_names_here","_law_m","_law_k"]:List Str).Nodup by decide +kernel) rfl (Or.inl rfl))) (λ_ _ _ _ _=>dq)
   (λ_ _ _ _ _=>(aE aX (pv 2) (aB bf (aB bf (pv 4) ae) (aB bo (aW bh (hr.mono (by decide)) rfl aF.pass (aa (pv 1) (aa (aB bf (aB bf ae (aB bM ae (pv 4))) (pv 0)) ag (se rfl)) (se rfl)) (he:=se rfl) (hpl:=na rfl)) (aB fe (aB bf (pv 3) ae) (pv 4)))) (λ_ _=>rfl))))
  (ai (aK (i:=9) nd rfl (Or.inl rfl) (aE aX (pv 1) (aB bf ae (aB bo (aW bh (hr.mono (by decide)) rfl aF.pass (aa (pv 0) (aa (aB bf ae (aB bM ae (pv 6))) ag (se rfl)) (se rfl)) (he:=se rfl) (hpl:=na rfl)) (pv 3))) (λ_ _=>rfl)))
  (ar (bZ (eE aax aaK aaL cI.r (pv 5) (aa (aZ (aa (aE aX (pv 1) (pv 6) (λ_ _=>rfl)) (aa (aZ (aa bc (aa (pv 9) (aa (aB bo (aW bh (hr.mono (by decide)) rfl aF.pass (aa (pv 0) (aa (aB bf ae (aB bM ae (pv 6))) ag (se rfl)) (se rfl)) (he:=se rfl) (hpl:=na rfl)) ae) (aa (aE aX (pv 8) ae (λ_ _=>rfl)) (aa (aE aX (pv 8) ae (λ_ _=>rfl)) ag (se rfl)) (se rfl)) (se rfl)) (se rfl)) (se rfl))) ag (se rfl)) (se rfl))) ag (se rfl)))))))
   (ar (bG (aM xF (pv 7) (aZ (aa ae (aa ae ag (se rfl)) (se rfl))) rfl) (ar (bZ (eE aax aaK aaL cI.r (pv 5) (aa (aZ (aa (aE aX (pv 1) (pv 6) (λ_ _=>rfl)) (aa (aW wZ (hr.mono (by decide)) rfl aF.pass (aa (pv 0) (aa (pv 6) (aa (pv 2) (aa (pv 1) (aa (pv 3) (aa (pv 7) ag (se rfl)) (se rfl)) (se rfl)) (se rfl)) (se rfl)) (se rfl)) (he:=se rfl) (hpl:=na rfl)) ag (se rfl)) (se rfl))) ag (se rfl)))))
   (ar (bZ (eE aax aaK aaL cI.r (pv 5) (aa (aZ (aa (aE aX (pv 1) (pv 6) (λ_ _=>rfl)) (aa (aW vd (hr.mono (by decide)) rfl aF.pass (aa (pv 0) (aa (pv 6) (aa (pv 2) (aa (pv 1) (aa (pv 3) ag (se rfl)) (se rfl)) (se rfl)) (se rfl)) (se rfl)) (he:=se rfl) (hpl:=na rfl)) ag (se rfl)) (se rfl))) ag (se rfl)))))))))))
  (ai (bZ (eE aax aaK aaL cI.r (pv 5) (aa (aZ (aa (aE aX (pv 1) (pv 2) (λ_ _=>rfl)) (aa (aZ (aa bc (aa (aZ (aa (aB fe (aB bo (aW bh (hr.mono (by decide)) rfl aF.pass (aa (pv 0) (aa ae ag (se rfl)) (se rfl)) (he:=se rfl) (hpl:=na rfl)) ae) ae) (aa ae ag (se rfl)) (se rfl))) ag (se rfl)) (se rfl))) ag (se rfl)) (se rfl))) ag (se rfl))))
  (ai (aK (i:=10) nd rfl (Or.inl rfl) (aZ (aa bc (aa (aZ (aa (aB fe (aB bo (aW bh (hr.mono (by decide)) rfl aF.pass (aa (pv 0) (aa ae ag (se rfl)) (se rfl)) (he:=se rfl) (hpl:=na rfl)) ae) ae) (aa ae ag (se rfl)) (se rfl))) ag (se rfl)) (se rfl))))
  (ai (bG (aM iC (pv 3) ae (aY _)) (ar (aK (i:=10) nd rfl (Or.inl rfl) (aZ (aa bc (aa (aE aX (pv 1) (aB bf ae (aB bo (aW bh (hr.mono (by decide)) rfl aF.pass (aa (pv 0) (aa ae ag (se rfl)) (se rfl)) (he:=se rfl) (hpl:=na rfl)) (pv 3))) (λ_ _=>rfl)) ag (se rfl)) (se rfl)))))
   bg)
  (ar (aP (aZ (aa (pv 4) (aa (aB xD (pv 5) (bJ (aa (aZ (aa (aE aX (pv 1) (aB bf (pv 2) ae) (λ_ _=>rfl)) (aa (pv 10) ag (se rfl)) (se rfl))) ag (se rfl)))) ag (se rfl)) (se rfl)))))))))))))),?_⟩
  refine(?_:let cm:TS:=_;let cu:TS:=_;let cw:TS:=_;let dZ:TS:=_;let qT:TS:=_;let tY:TS:=_;let Dk:TS:=_;let Gy:TS:=_;let Wk:TS:=_;let Wl:TS:=_;tSeq cm (tSeq cu (tSeq cw (tSeq dZ (tSeq qT (tSeq tY (tSeq Dk (tSeq Gy (tSeq Wk Wl)))))))) _ _ _)
  intro cm cu cw dZ qT tY Dk Gy Wk Wl
  have sl:=sizeLine_eq
  have mb:=VA ns
  have yb:=CY ns
  have ln:=gX (aN ns 0)
  have l14:((bY ns).length:Int)=14:=by unfold bY;omega
  have eM:(mF ns:Int)=1+aN ns 2 % 4:=by unfold mF;omega
  have eY:(dw ns:Int)=aN ns 3 % 4:=by unfold dw;omega
  change tSeq _ _ _ _ _
  refine ba (λN=>∀H1 nl,aw H H1->sy H1 nl (bY ns)->N [some (.ref a),some (.ref nl),none,none,none,none,none,none,none,none,none] H1) ?_ (λN hN=>?_)
  case refine_2=>
   simp_all only[C5]
   exact⟨ns,hS,λnl H1 s1 hn=>hN _ nl s1 hn⟩
  rintro H1 nl s1 hn
  have wY:=s1.seq hS
  change tSeq _ _ _ _ _
  refine ba (λN=>N [some (.ref a),some (.ref nl),some (.int (mF ns:Int)),none,none,none,none,none,none,none,none] H1) ?_ (λN hN=>?_)
  case refine_2=>
   rw[eM] at hN
   simp_all only[eD]
   exact⟨ns,wY,by decide,by decide,by decide,hN⟩
  change tSeq _ _ _ _ _
  refine ba (λN=>N [some (.ref a),some (.ref nl),some (.int (mF ns:Int)),some (.int (dw ns:Int)),none,none,none,none,none,none,none] H1) ?_ (λN hN=>?_)
  case refine_2=>
   rw[eY] at hN
   simp_all only[eD]
   exact⟨ns,wY,by decide,by decide,by decide,hN⟩
  have eG:kD ns=⟨zL ns (bY ns) (dw ns),eV ns (mF ns) (bY ns) (dw ns)++ [(eU (bY ns) (mF ns:Int),.fin (aN ns 4 % 21 - 10) 1),(eU (bY ns) ((mF ns:Int)+1),tW ns (bY ns) (dw ns))]⟩:=rfl
  rw[eG] at kk
  have Wm:(bY ns).length=14:=ln
  clear eG eM eY ln
  generalize mF ns=m at *
  generalize dw ns=many at *
  generalize bY ns=nms at *
  change tSeq _ _ _ _ _
  refine ba (λN=>∀H2 cl,aw H1 H2->cX H1 H2 (Oc (zL ns nms many)) (.ref cl)->N [some (.ref a),some (.ref nl),some (.int (m:Int)),some (.int (many:Int)),some (.ref cl),none,none,none,none,none,none] H2) ?_ (λN hN=>?_)
  case refine_2=>
   simp_all only[eD]
   refine⟨by omega,by omega,?_⟩
   rw[aa1]
   refine comp_map src_range (λ_ _ _ _ h=>by rw[h.1];exact aw.refl _) (by omega) (λi y H2=>cX H1 H2 (.tup [.str (eU nms (6+ (i:Int))),.int (1+aN ns (7+ (i:Int)) % (4 - (many:Int)))]) y) (λi y H2 H3 s3 h=>h.mono s3) ?_ ?_
   ·rintro i x w0 H2 H3 Q2 hi s2 ⟨rfl,rfl⟩ kq
    simp_all only[eD,Int.zero_add]
    exact⟨_,s2 _ _ hn,_,c9 (by omega) (by omega),ns,s2.seq wY,by omega,by omega,by omega,by omega,λp H4 s4 np e4=>kq _ _ s4 (wW (.of (s2.trans s4)) e4 bR cC)⟩
   ·intro ys H2 s2 ly hy D n1 n2
    refine hN _ D (s2.trans (ao n2)) (eO n1 aq ?_)
    refine bb.of (by unfold zL;rw[aac,aac,aaE,ly]) λi d v e1 e2=>?_
    unfold zL at e1
    rw[aad,aad] at e1
    refine(?_:let G_:Prop:=_;G_)
    intro G_
    obtain⟨c,ec,rfl⟩:=Option.map_eq_some_iff.mp e1
    obtain⟨k,ek,rfl⟩:=Option.map_eq_some_iff.mp ec
    dsimp only[G_]
    obtain⟨h1,h2⟩:=List.getElem?_eq_some_iff.mp ek
    rw[List.getElem_range] at h2
    subst h2
    exact(hy i v e2).mono (ao n2)
  rintro H2 cl s2 Y5
  have Oq:=s1.trans s2
  have D1:=s2 _ _ hn
  change tSeq _ _ _ _ _
  refine ba (λN=>∀H3 l,aw H2 H3->H2 l=none->H3 l=some (.lst [])->N [some (.ref a),some (.ref nl),some (.int (m:Int)),some (.int (many:Int)),some (.ref cl),some (.ref l),none,none,none,none,none] H3) ?_ (λN hN=>?_)
  case refine_2=>
   simp_all only[]
   exact⟨aah _,λl qX=>hN _ l (ao qX) qX aq⟩
  rintro H3 l s3 qX hl
  change tSeq _ _ _ _ _
  refine ba (λN=>∀H4 vs,aw H2 H4->H4 l=some (.lst vs)->cY (upd H2 l (.lst [])) H4 ((eV ns m nms many).map λp=>.tup [.str p.1,rP p.2]) vs->∀z6 z7 z8 z9,N [some (.ref a),some (.ref nl),some (.int (m:Int)),some (.int (many:Int)),some (.ref cl),some (.ref l),z6,z7,z8,z9,none] H4) ?_ (λN hN=>?_)
  case refine_2=>
   simp_all only[]
   refine⟨by omega,by omega,bX (src_range (Ok:=λ_=>True)) (λi σ H4=>aw H2 H4/\∃vs,H4 l=some (.lst vs)/\cY (upd H2 l (.lst [])) H4 (((List.range i).map λk:Nat=>(eU nms (k:Int),jd ns m nms many k)).map λp=>.tup [.str p.1,rP p.2]) vs/\∃z6 z7 z8 z9,σ=[some (.ref a),some (.ref nl),some (.int (m:Int)),some (.int (many:Int)),some (.ref cl),some (.ref l),z6,z7,z8,z9,none]) ⟨s3,[],hl,de,_,_,_,_,rfl⟩ (λ_ _ _ _ _=>trivial) ?_ ?_⟩
   ·intro k x σ H4 H5 hk fK fj
    refine(?_:let G_:Prop:=_;G_)
    intro G_
    obtain⟨s4,vs,A8,rv,z6,z7,z8,z9,rfl⟩:=fK
    obtain⟨rfl,rfl⟩:=fj
    dsimp only[G_]
    clear G_
    have Nj:vs.length=k:=by have:=bb.length rv;rw[aac,aac,aaE] at this;exact this.symm
    have hk:k<m:=by omega
    have Ep:=s4 _ _ D1
    have GA:=(s2.trans s4).seq wY
    have li:fC (upd H2 l (.lst [])) H5:=λb ys e=>by
     by_cases c:b=l
     ·subst c;exact⟨_,A8⟩
     ·rw[aD c] at e;exact⟨_,s4 _ _ e⟩
    simp only[gName,aaY,aaX,Int.zero_add]
    change tSeq _ _ _ _ _
    refine ba (λN=>N [some (.ref a),some (.ref nl),some (.int (m:Int)),some (.int (many:Int)),some (.ref cl),some (.ref l),some (.int (k:Int)),some (.int (AY ns k)),z8,z9,none] H5) ?_ (λN hN=>?_)
    case refine_2=>
     simp_all only[eD]
     exact⟨cW (by omega) (by omega),ns,GA,by omega,by omega,by decide,hN⟩
    have close:∀H8 p2 wv,aw H5 H8->H8 p2=some (.tup [.str (eU nms (k:Int)),wv])->cX H5 H8 (rP (jd ns m nms many k)) wv->aw H2 (upd H8 l (.lst (vs++ [.ref p2])))/\∃zO,upd H8 l (.lst (vs++ [.ref p2])) l=some (.lst zO)/\cY (upd H2 l (.lst [])) (upd H8 l (.lst (vs++ [.ref p2]))) (((List.range (k+1)).map λk:Nat=>(eU nms (k:Int),jd ns m nms many k)).map λp=>.tup [.str p.1,rP p.2]) zO:=λH8 p2 wv s8 e8 Y6=>by
     refine⟨ck (s4.trans s8) qX,_,aq,?_⟩
     show bb (iP _ (upd _ _ _)) _ _
     rw[mV (ys:=[]) aq,List.range_succ,aao,aao]
     exact pV (wW (li.trans s8) e8 bR (Y6.low li)) (rv.mono s8)
    have A7:∀x:Int,0<=x % ((m:Int)+1 - (k:Int))/\x % ((m:Int)+1 - (k:Int))< (m:Int)+1 - (k:Int):=λx=>⟨aav _ (by omega),aaw _ (by omega)⟩
    have GB:jd ns m nms many k=if AY ns k=3/\0<many then .ask (eU nms (6+aN ns (13+5* (k:Int)) % (many:Int))) (aN ns (12+5* (k:Int)) % 4) (eU nms ((k:Int)+1+aN ns (10+5* (k:Int)+0) % ((m:Int)+1 - (k:Int)))) (eU nms ((k:Int)+1+aN ns (10+5* (k:Int)+1) % ((m:Int)+1 - (k:Int)))) else if AY ns k=1\/AY ns k=2 then CW ns k m nms many (AY ns k) else ya ns k m nms many:=rfl
    generalize jd ns m nms many k=pf at close GB
    generalize AY ns k=kd at *
    change tIfS _ _ _ _ [some (.ref a),some (.ref nl),some (.int (m:Int)),some (.int (many:Int)),some (.ref cl),some (.ref l),some (.int (k:Int)),some (.int kd),z8,z9,none] H5
    by_cases c1:kd=3/\0<many
    ·rw[if_pos c1] at GB
     refine lM (λY N k=>by simp_all only[];rw[if_pos c1.1,if_pos (by omega)];exact k) ?_
     change tSeq _ _ _ _ _
     refine ba (λN=>∀H6 gl,aw H5 H6->H6 gl=some (.lst [.str (eU nms ((k:Int)+1+aN ns (10+5* (k:Int)+0) % ((m:Int)+1 - (k:Int)))),.str (eU nms ((k:Int)+1+aN ns (10+5* (k:Int)+1) % ((m:Int)+1 - (k:Int))))])->N [some (.ref a),some (.ref nl),some (.int (m:Int)),some (.int (many:Int)),some (.ref cl),some (.ref l),some (.int (k:Int)),some (.int kd),some (.ref gl),z9,none] H6) ?_ (λN hN=>?_)
     case refine_2=>
      simp_all only[]
      refine⟨by decide,by decide,?_⟩
      refine comp_map src_range (λ_ _ _ _ h=>by rw[h.1];exact aw.refl _) (by decide) (λi y H2=>y=.str (eU nms ((k:Int)+1+aN ns (10+5* (k:Int)+ (i:Int)) % ((m:Int)+1 - (k:Int))))) (λi y H2 H3 s3 h=>h) ?_ ?_
      ·rintro i x w0 H6 H7 Q2 hi s6 ⟨rfl,rfl⟩ kq
       simp_all only[eD,Int.zero_add]
       have:=A7 (aN ns (10+5* (k:Int)+ (i:Int)))
       exact⟨cW (by omega) (by omega),ns,s6.seq GA,by omega,by omega,by omega,_,s6 _ _ Ep,_,c9 (by omega) (by omega),kq _ _ (aw.refl _) rfl⟩
      ·intro ys H6 s6 ly hy D n1 n2
       obtain⟨y0,y1,rfl⟩:∃y0 y1,ys=[y0,y1]:=by
        rcases ys with _ | ⟨y0,_ | ⟨y1,_ | ⟨y2,r⟩⟩⟩
        ·cases ly
        ·cases ly
        ·exact⟨_,_,rfl⟩
        ·simp at ly
       have e0:=hy 0 y0 rfl
       have e1:=hy 1 y1 rfl
       subst e0 e1
       exact hN _ D (s6.trans (ao n2)) aq
     rintro H6 gl s6 Y7
     have Wn:=s6.seq GA
     have GC:=s6 _ _ Ep
     have a1:=aav (aN ns (13+5* (k:Int))) (show(many:Int)≠0 by omega)
     have a2:=aaw (aN ns (13+5* (k:Int))) (show(0:Int)< (many:Int) by omega)
     change tSeq _ _ _ _ _
     refine ba (λN=>N [some (.ref a),some (.ref nl),some (.int (m:Int)),some (.int (many:Int)),some (.ref cl),some (.ref l),some (.int (k:Int)),some (.int kd),some (.ref gl),some (.str (eU nms (6+aN ns (13+5* (k:Int)) % (many:Int)))),none] H6) ?_ (λN hN=>?_)
     case refine_2=>
      simp_all only[eD]
      exact⟨cW (by omega) (by omega),ns,Wn,by omega,by omega,by omega,_,GC,_,c9 (by omega) (by omega),hN⟩
     simp_all only[c7,eD,Y7]
     refine⟨.inl ⟨rfl,_,bL.of (s6 _ _ A8)⟩,_,GC,_,c9 (by omega) (by omega),cW (by omega) (by omega),ns,Wn,by omega,by omega,by decide,by omega,λp H7 s7 np e7=>⟨by omega,λp2 H8 s8 Y8 e8=>?_⟩⟩
     have Fy:=s6.trans (s7.trans s8)
     obtain⟨q1,zO,q2,q3⟩:=close H8 p2 _ Fy e8 (by rw[GB];exact vc (.of Fy) (s8 _ _ e7) (bE bR (bE bR (bE cC (bE bR (bE bR de))))))
     exact⟨_,Fy _ _ A8,by omega,q1,zO,q2,q3,_,rfl⟩
    ·rw[if_neg c1] at GB
     refine gT (λY N Wo=>by
      simp_all only[]
      by_cases e:kd=3
      ·rw[if_pos e,if_neg (by omega)];exact Wo
      ·rw[if_neg e,if_neg (by decide)];exact Wo) ?_
     change tIfS _ _ _ _ [some (.ref a),some (.ref nl),some (.int (m:Int)),some (.int (many:Int)),some (.ref cl),some (.ref l),some (.int (k:Int)),some (.int kd),z8,z9,none] H5
     refine qq (λH'=>aw H5 H'/\(kd=1\/kd=2)) (λH'=>aw H5 H'/\¬(kd=1\/kd=2)) (λH6 e=>?_) (λH6 e=>?_) (λY N hY hN=>?_)
     ·obtain⟨s6,d⟩:=e
      rw[if_pos d] at GB
      have GC:=s6 _ _ Ep
      simp_all only[c7,Dv]
      refine⟨.inl ⟨rfl,_,bL.of (s6 _ _ A8)⟩,_,GC,_,c9 (by omega) (by omega),ns,nl,nms,kd,k,rfl,m,rfl,rfl,many,rfl,rfl,s6.seq GA,GC,Wm,yb,hk,mb.2,λv H7 s7 r7=>⟨by omega,λp2 H8 s8 np e8=>?_⟩⟩
      have Fy:=s6.trans (s7.trans s8)
      obtain⟨q1,zO,q2,q3⟩:=close H8 p2 _ Fy e8 (by rw[GB];exact(r7.low (.of s6)).mono s8)
      exact⟨_,Fy _ _ A8,by omega,q1,zO,q2,q3,_,rfl⟩
     ·obtain⟨s6,d⟩:=e
      rw[if_neg d] at GB
      have GC:=s6 _ _ Ep
      simp_all only[c7,Du]
      refine⟨.inl ⟨rfl,_,bL.of (s6 _ _ A8)⟩,_,GC,_,c9 (by omega) (by omega),ns,nl,nms,k,rfl,m,rfl,rfl,many,rfl,s6.seq GA,GC,Wm,yb,hk,mb.2,λv H7 s7 r7=>⟨by omega,λp2 H8 s8 np e8=>?_⟩⟩
      have Fy:=s6.trans (s7.trans s8)
      obtain⟨q1,zO,q2,q3⟩:=close H8 p2 _ Fy e8 (by rw[GB];exact(r7.low (.of s6)).mono s8)
      exact⟨_,Fy _ _ A8,by omega,q1,zO,q2,q3,_,rfl⟩
     ·simp_all only[rInT]
      refine⟨by omega,λp H6 s6 np e6=>⟨_,e6,rfl,rfl,?_⟩⟩
      by_cases d:kd=1\/kd=2
      ·rw[if_pos (Gu.mpr d)]
       exact hY _ ⟨s6,d⟩
      ·rw[if_neg (λz=>d (Gu.mp z))]
       exact hN _ ⟨s6,d⟩
   ·intro σ H4 dk
    refine(?_:let G_:Prop:=_;G_)
    intro G_
    obtain⟨s4,vs,A8,rv,z6,z7,z8,z9,rfl⟩:=dk
    dsimp only[G_]
    rw[aa1] at rv
    exact hN _ vs s4 A8 rv _ _ _ _
  rintro H4 vs s4 A8 rv z6 z7 z8 z9
  have wM:=s2.trans s4
  have N5:=wM _ _ hn
  have Y9:=wM.seq wY
  have Nj:vs.length=m:=by have:=bb.length rv;unfold eV at this;rw[aac,aac,aaE] at this;exact this.symm
  have li:fC (upd H2 l (.lst [])) H4:=λb ys e=>by
   by_cases c:b=l
   ·subst c;exact⟨_,A8⟩
   ·rw[aD c] at e;exact⟨_,s4 _ _ e⟩
  change tSeq _ _ _ _ _
  refine ba (λN=>∀H5 zO,aw H2 H5->H5 l=some (.lst zO)->zO.length=m+1->cY (upd H2 l (.lst [])) H5 ((eV ns m nms many++ [(eU nms (m:Int),Wt.fin (aN ns 4 % 21 - 10) 1)]).map λp=>.tup [.str p.1,rP p.2]) zO->N [some (.ref a),some (.ref nl),some (.int (m:Int)),some (.int (many:Int)),some (.ref cl),some (.ref l),z6,z7,z8,z9,none] H5) ?_ (λN hN=>?_)
  case refine_2=>
   simp_all only[c7,eD]
   refine⟨.inl ⟨rfl,_,bL.of A8⟩,_,N5,_,c9 (by omega) (by omega),ns,Y9,by decide,by decide,by decide,by omega,λp H5 s5 np e5=>⟨by omega,λp1 H6 s6 Za e6=>⟨by omega,λp2 H7 s7 Y8 e7=>⟨_,(s5.trans (s6.trans s7)) _ _ A8,by omega,hN _ _ (ck (s4.trans (s5.trans (s6.trans s7))) qX) aq (by rw[aak,Nj];rfl) ?_⟩⟩⟩⟩
   have sA:=s5.trans (s6.trans s7)
   have Pk:=li.trans sA
   show bb (iP _ (upd _ _ _)) _ _
   rw[mV (ys:=[]) aq,aao]
   exact pV (wW Pk e7 bR (wW Pk (s7 _ _ e6) bR (wW Pk ((s6.trans s7) _ _ e5) cC cC))) (rv.mono sA)
  rintro H5 zO s5 Zb Zc Zd
  have JA:=s2.trans s5
  have Ep:=JA _ _ hn
  have GA:=JA.seq wY
  change tSeq _ _ _ _ _
  refine ba (λN=>∀H6 lv,aw H5 H6->Rep H6 (rP (.fin (aN ns 5 % 21 - 10) 1)) lv->N [some (.ref a),some (.ref nl),some (.int (m:Int)),some (.int (many:Int)),some (.ref cl),some (.ref l),z6,z7,z8,z9,some lv] H6) ?_ (λN hN=>?_)
  case refine_2=>
   simp_all only[eD]
   exact⟨ns,GA,by decide,by decide,by decide,by omega,λp H6 s6 np e6=>⟨by omega,λp1 H7 s7 Za e7=>hN _ _ (s6.trans s7) (bO.mpr ⟨p1,_,_,rfl,e7,aS.mpr rfl,bO.mpr ⟨p,_,_,rfl,s7 _ _ e6,bA.mpr rfl,bA.mpr rfl⟩⟩)⟩⟩
  rintro H6 lv s6 Ze
  change tSeq _ _ _ _ _
  refine ba (λN=>∀H7 lv,aw H5 H7->Rep H7 (rP (tW ns nms many)) lv->N [some (.ref a),some (.ref nl),some (.int (m:Int)),some (.int (many:Int)),some (.ref cl),some (.ref l),z6,z7,z8,z9,some lv] H7) ?_ (λN hN=>?_)
  case refine_2=>
   unfold tW at hN
   simp_all only[eD]
   refine jR (λc=>?_) (λc=>?_)
   ·rw[if_pos (by omega)] at hN
    have a1:=aav (aN ns 5) (show(many:Int)≠0 by omega)
    have a2:=aaw (aN ns 5) (show(0:Int)< (many:Int) by omega)
    exact⟨ns,s6.seq GA,by decide,by decide,by omega,_,s6 _ _ Ep,_,c9 (by omega) (by omega),by omega,λp H7 s7 np e7=>hN _ _ (s6.trans s7) (bO.mpr ⟨p,_,_,rfl,e7,aS.mpr rfl,aS.mpr rfl⟩)⟩
   ·rw[if_neg (by omega)] at hN
    exact hN _ _ s6 Ze
  rintro H7 lv7 s7 Zf
  simp_all only[Ee]
  refine⟨_,s7 _ _ Ep,_,c9 (by omega) (by omega),by omega,λp H8 s8 np e8=>⟨by omega,λp1 n1=>⟨_,(ao n1) _ _ (s8 _ _ (s7 _ _ Zb)),_,aq,by rw[Zc];show m+1+1<=sizeLine;omega,λp2 n2=>⟨by omega,λp3 H9 s9 n3 e9=>?_⟩⟩⟩⟩
  have sB:=(ao (o:=.lst [V.ref p]) n1).trans ((ao (o:=.lst (zO++ [V.ref p])) n2).trans s9)
  have sC:=s7.trans (s8.trans sB)
  refine kk _ _ (s1.trans (s2.trans (s5.trans sC))) (bO.mpr ⟨p3,_,_,rfl,e9,Y5.rep.mono (s5.trans sC),bq.mpr ⟨p2,_,rfl,s9 _ _ aq,?_⟩⟩)
  show bb H9 (List.map _ (eV ns m nms many++ [_,_])) _
  rw[show ∀(xs:List (Str×Wt)) a b,xs++ [a,b]=(xs++ [a])++ [b] from λxs a b=>by simp,aao]
  exact(Zd.rep.mono sC).append (aQ.mpr ⟨_,_,rfl,bO.mpr ⟨p,_,_,rfl,sB _ _ e8,aS.mpr rfl,Zf.mono (s8.trans sB)⟩,bK.mpr rfl⟩)
theorem m6:aV ["_law_script","_law_names_here","_law_rule_here","_law_k","_law_cell_here","_law_other","_law_when"] ["_law_script","_law_names_here"] (aj (top 53)):=⟨rfl,rfl,rfl,by decide +kernel,rfl,by decide +kernel,by decide +kernel⟩
theorem LV (T:Txt K mg aG aH aA aL af au):cL P w K mg base (bC P w) 2 "_law_rule" ["_law_script","_law_names_here"] (Iq K):=by
 have bh:cL P w K mg base (bC P w) 1 "_law_cell" ["_law_script","_law_k"] (eD K):=wX T
 refine T.vX.eF (λ_ _ _ _ _ _ us hl=>match us,hl with | [_,_],_=>rfl) λf fd F=>F.fR m6 (λvs H Q E h=>?_) (λbV A outer s H vs Q E hr h=>?_)
 ·obtain⟨_,_,_,_,rfl,_⟩:=h;rfl
 ·refine(?_:let G_:Prop:=_;G_)
  intro G_
  obtain⟨a,ns,nl,nms,rfl,hS,hn,ln,kk⟩:=h
  dsimp only[G_]
  clear G_
  have nd:=m6.nd
  refine⟨_,(ai (aK (i:=2) nd rfl (Or.inl rfl) (bJ ag))
  (ai (cB PassesOwn.never rfl (cV rfl T.z_range (aa (aB bo (aW bh (hr.mono (by decide)) rfl aF.pass (aa (pv 0) (aa ae ag (se rfl)) (se rfl)) (he:=se rfl) (hpl:=na rfl)) ae) ag (se rfl))) (aT (i:=3) nd rfl (Or.inl rfl)) (ai (aK (i:=4) nd rfl (Or.inl rfl) (aB bo (aB bM (aB bo (aW bh (hr.mono (by decide)) rfl aF.pass (aa (pv 0) (aa (aB bf ae (aB bM ae (pv 3))) ag (se rfl)) (se rfl)) (he:=se rfl) (hpl:=na rfl)) ae) ae) ae))
  (ai (aK (i:=5) nd rfl (Or.inl rfl) (aB bo (aB bM (aB bo (aW bh (hr.mono (by decide)) rfl aF.pass (aa (pv 0) (aa (aB bf ae (aB bM ae (pv 3))) ag (se rfl)) (se rfl)) (he:=se rfl) (hpl:=na rfl)) ae) ae) ae))
  (ai (aK (i:=6) nd rfl (Or.inl rfl) nB)
  (ai (bG (aM iC (aB bo (pv 4) ae) ae (aY _)) (ar (aK (i:=6) nd rfl (Or.inl rfl) (aZ (aa (aE aX (pv 1) (aB bf ae (aB bo (pv 5) ae)) (λ_ _=>rfl)) (aa (aE aX (bJ (aa bc (aa bc ag (se rfl)) (se rfl))) (aB fe (aB bo (pv 4) ae) ae) (λ_ _=>rfl)) (aa (aB bo (aB cj (pv 5) ae) ae) ag (se rfl)) (se rfl)) (se rfl)))))
   bg)
  (ar (bZ (eE aax aaK aaL cI.r (pv 2) (aa (aZ (aa (aE aX (pv 1) (aB bo (aB cj (pv 4) ae) ae) (λ_ _=>rfl)) (aa (aE aX (pv 1) (aB bf ae (aB bo (aB cj (pv 4) ae) ae)) (λ_ _=>rfl)) (aa (pv 6) ag (se rfl)) (se rfl)) (se rfl))) ag (se rfl))))))))))
  (ar (aP (pv 2))))),?_⟩
  refine(?_:let cm:TS:=_;let cu:TS:=_;let cw:TS:=_;tSeq cm (tSeq cu cw) _ _ _)
  intro cm cu cw
  have sl:=sizeLine_eq
  have l14:(nms.length:Int)=14:=by omega
  have rn:wA ns<=6:=by unfold wA;omega
  change tSeq _ _ _ _ _
  refine ba (λN=>∀H1 l,aw H H1->H l=none->H1 l=some (.lst [])->N [some (.ref a),some (.ref nl),some (.ref l),none,none,none,none] H1) ?_ (λN hN=>?_)
  case refine_2=>
   simp_all only[]
   exact⟨aah _,λl qX=>hN _ l (ao qX) qX aq⟩
  rintro H1 l s1 qX hl
  change tSeq _ _ _ _ _
  refine ba (λN=>∀H2 vs,aw H H2->H2 l=some (.lst vs)->cY H H2 ((kG ns nms).map M4) vs->∀z3 z4 z5 z6,N [some (.ref a),some (.ref nl),some (.ref l),z3,z4,z5,z6] H2) ?_ (λN hN=>?_)
  case refine_2=>
   simp_all only[eD]
   refine⟨ns,s1.seq hS,by decide,by decide,by decide,by omega,by omega,?_⟩
   rw[show(aN ns 6 % 7).toNat=wA ns from rfl]
   refine bX (src_range (Ok:=λ_=>True)) (λi σ H2=>aw H H2/\∃vs,H2 l=some (.lst vs)/\cY (upd H l (.lst [])) H2 (((List.range i).map (pT ns nms)).map M4) vs/\∃z3 z4 z5 z6,σ=[some (.ref a),some (.ref nl),some (.ref l),z3,z4,z5,z6]) ⟨s1,[],hl,de,_,_,_,_,rfl⟩ (λ_ _ _ _ _=>trivial) ?_ ?_
   ·intro j x σ H2 H3 hj fK fj
    refine(?_:let G_:Prop:=_;G_)
    intro G_
    obtain⟨s2,vs,iM,rv,z3,z4,z5,z6,rfl⟩:=fK
    obtain⟨rfl,rfl⟩:=fj
    dsimp only[G_]
    clear G_
    have Nj:vs.length=j:=by have:=bb.length rv;rw[aac,aac,aaE] at this;exact this.symm
    have Gz:=s2 _ _ hn
    have li:fC (upd H l (.lst [])) H3:=λb ys e=>by
     by_cases c:b=l
     ·subst c;exact⟨_,iM⟩
     ·rw[aD c] at e;exact⟨_,s2 _ _ e⟩
    simp only[gName,aaY,aaX,Int.zero_add]
    have Wp:pE ns j=aN ns (35+2* (j:Int)) % 2147483629*16807 % 2147483647:=rfl
    have Wq:yc ns j=aN ns (36+2* (j:Int)) % 2147483629*39373 % 2147483647:=rfl
    have b1:=aav (aN ns (35+2* (j:Int))) (show(2147483629:Int)≠0 by decide)
    have b2:=aaw (aN ns (35+2* (j:Int))) (show(0:Int)<2147483629 by decide)
    have b3:=aav (aN ns (36+2* (j:Int))) (show(2147483629:Int)≠0 by decide)
    have b4:=aaw (aN ns (36+2* (j:Int))) (show(0:Int)<2147483629 by decide)
    change tSeq _ _ _ _ _
    refine ba (λN=>N [some (.ref a),some (.ref nl),some (.ref l),some (.int (j:Int)),some (.int (pE ns j)),z5,z6] H3) ?_ (λN hN=>?_)
    case refine_2=>
     rw[Wp] at hN
     simp_all only[eD]
     exact⟨cW (by omega) (by omega),ns,s2.seq hS,by omega,by omega,by decide,iY,by decide,hN⟩
    change tSeq _ _ _ _ _
    refine ba (λN=>N [some (.ref a),some (.ref nl),some (.ref l),some (.int (j:Int)),some (.int (pE ns j)),some (.int (yc ns j)),z6] H3) ?_ (λN hN=>?_)
    case refine_2=>
     rw[Wq] at hN
     simp_all only[eD]
     exact⟨cW (by omega) (by omega),ns,s2.seq hS,by omega,by omega,by decide,iY,by decide,hN⟩
    have err:pT ns nms j=(eU nms (pE ns j / 3 % 5),eU nms (10+pE ns j / 15 % 4),if pE ns j % 3 >0 then qQ (pE ns j) (yc ns j) nms 4 (yc ns j / 4 % 4) else none):=rfl
    clear Wp Wq b1 b2 b3 b4
    generalize pE ns j=ca at *
    generalize yc ns j=cb at *
    change tSeq _ _ _ _ _
    refine ba (λN=>N [some (.ref a),some (.ref nl),some (.ref l),some (.int (j:Int)),some (.int ca),some (.int cb),some .cZ] H3) ?_ (λN hN=>?_)
    case refine_2=>
     simp_all only[]
     exact hN
    change tSeq _ _ _ _ _
    refine ba (λN=>∀H4 wv,aw H3 H4->cX H3 H4 (DH (if ca % 3 >0 then qQ ca cb nms 4 (cb / 4 % 4) else none)) wv->N [some (.ref a),some (.ref nl),some (.ref l),some (.int (j:Int)),some (.int ca),some (.int cb),some wv] H4) ?_ (λN hN=>?_)
    case refine_2=>
     simp_all only[]
     refine⟨by decide,jR (λc3=>?_) (λc3=>?_)⟩
     ·rw[if_pos c3] at hN
      exact⟨by decide,_,Gz,_,c9 (by omega) (by omega),by omega,λp np=>⟨by decide,_,aq,_,Gs (by omega) (by omega),dE.lit,by decide,by omega,λp1 H4 s4 n1 e4=>hN _ _ ((ao np).trans s4) (rj (.of ((ao np).trans s4)) e4 bR bR cC)⟩⟩
     ·rw[if_neg c3] at hN
      exact hN _ _ (aw.refl _) vb
    rintro H4 wv s4 LS
    simp_all only[c7]
    refine⟨.inl ⟨rfl,_,bL.of (s4 _ _ iM)⟩,dE.lit,by decide,_,s4 _ _ Gz,_,c9 (by omega) (by omega),dE.lit,by decide,_,s4 _ _ Gz,_,c9 (by omega) (by omega),by omega,λp H6 s6 np e6=>⟨_,s6 _ _ (s4 _ _ iM),by omega,ck (s2.trans (s4.trans s6)) qX,_,aq,?_,_,rfl⟩⟩
    have Pj:=li.trans (s4.trans s6)
    show bb (iP _ (upd _ _ _)) _ _
    rw[mV (ys:=[]) aq,List.range_succ,aao,aao]
    refine pV ?_ (rv.mono (s4.trans s6))
    show cX _ _ (M4 (pT ns nms j)) _
    rw[err]
    exact rj Pj e6 bR bR ((LS.low li).mono s6)
   ·intro σ H2 dk
    refine(?_:let G_:Prop:=_;G_)
    intro G_
    obtain⟨s2,vs,iM,rv,z3,z4,z5,z6,rfl⟩:=dk
    dsimp only[G_]
    exact hN _ vs s2 iM (rv.low (.of (ao qX))) _ _ _ _
  rintro H2 vs s2 iM rv z3 z4 z5 z6
  simp_all only[]
  exact kk _ _ s2 (eO qX iM rv).rep
theorem kY:aV ["_law_counts","_law_numbers","_law_when","_law_k"] ["_law_counts","_law_numbers","_law_when"] (aj (top 54)):=⟨rfl,rfl,rfl,by decide +kernel,rfl,by decide +kernel,by decide +kernel⟩
theorem LW (T:Txt K mg aG aH aA aL af au):cL P w K mg base (bC P w) 1 "_law_holds" ["_law_counts","_law_numbers","_law_when"] Ir:=by
 refine T.uL.eF (λ_ _ _ _ _ _ us hl=>match us,hl with | [_,_,_],_=>rfl) λf fd F=>F.fR kY (λvs H Q E h=>?_) (λbV A outer s H vs Q E hr h=>?_)
 ·obtain⟨_,_,_,_,_,_,rfl,_⟩:=h;rfl
 ·refine(?_:let G_:Prop:=_;G_)
  intro G_
  obtain⟨cv,nl,wv,cs,ns,wh,rfl,rc,hn,ln,lc,Fx,kk⟩:=h
  dsimp only[G_]
  have nd:=kY.nd
  refine⟨_,(ai (bG (aM Bp (pv 2) nB (aY _)) (ar (aP gN))
   bg)
  (ai (cB PassesOwn.never rfl (cV rfl T.z_range (aa (bx cM (by rfl) T.z_len aaB (aa (pv 0) ag (se rfl)) (he:=se rfl) (hpl:=na rfl)) ag (se rfl))) (aT (i:=3) nd rfl (Or.inl rfl)) (ar (bG (aM cg (aE av (aE aX (pv 0) (pv 3) (λ_ _=>rfl)) ae (λ_ _=>rfl)) (aE av (pv 2) ae (λ_ _=>rfl)) (aY _)) (ar (aP (mh cg (mh yS (aE aX (pv 1) (pv 3) (λ_ _=>rfl)) (aE av (pv 2) ae (λ_ _=>rfl)) (aY _)) (mh cg (aE av (pv 2) ae (λ_ _=>rfl)) bc (aY _)) (aY _))))
   bg)))
  (ar (aP gN)))),?_⟩
  refine(?_:let cm:TS:=_;let cu:TS:=_;let cw:TS:=_;tSeq cm (tSeq cu cw) _ _ _)
  intro cm cu cw
  have sl:=sizeLine_eq
  refine(?_:let G_:Prop:=_;G_)
  intro G_
  obtain⟨cl,Oz,rfl,vg,IB⟩:=bq.mp (show Rep H (.lst _) cv from rc)
  dsimp only[G_]
  have lcv:Oz.length=cs.length:=by have:=IB.length;rw[aac] at this;omega
  cases wh with
  | none=>
   have e:wv=.cZ:=by rw[DH,Rep] at Fx;exact Fx
   subst e
   change tSeq _ _ _ _ _
   refine ba (λ_=>True) trivial (λN _=>?_)
   refine lM (λY N k=>by simp_all only[];first | exact k | (rw[if_pos (by rfl)];exact k)) ?_
   exact kk
  | some x=>
   refine(?_:let G_:Prop:=_;G_)
   intro G_
   obtain⟨a,b,k⟩:=x
   obtain⟨p,x1,x2,x3,rfl,hp,r1,r2,r3⟩:=du.mp (show Rep H (.tup _) wv from Fx)
   rw[aS] at r1 r2
   rw[bA] at r3
   subst r1 r2 r3
   dsimp only[G_]
   have kk:Q (.bl (if a∈cs.map (·.1) then (if b=Str.ofString "from" then decide (k<=ns.getD (dm cs a) 0) else decide (ns.getD (dm cs a) 0<k)) else false)) H:=kk
   change tSeq _ _ _ _ _
   refine ba (λN=>N [some (.ref cl),some (.ref nl),some (.ref p),none] H) ?_ (λN hN=>?_)
   case refine_2=>exact gT (λY N k=>by simp_all only[];first | exact k | (rw[if_neg (by intro z;cases z)];exact k)) hN
   change tSeq _ _ _ _ _
   refine ba (λN=>a∉cs.map (·.1)->∀z,N [some (.ref cl),some (.ref nl),some (.ref p),z] H) ?_ (λN hN=>?_)
   case refine_2=>
    simp_all only[]
    refine⟨_,vg,by omega,by omega,bX (src_range (Ok:=λ_=>True)) (λi σ H'=>H=H'/\(∀j,j<i->(cs.map (·.1))[j]?≠some a)/\∃z,σ=[some (.ref cl),some (.ref nl),some (.ref p),z]) ⟨rfl,(λj hj=>absurd hj (Nat.not_lt_zero _)),_,rfl⟩ (λ_ _ _ _ _=>trivial) ?_ ?_⟩
    ·intro i x σ H' xb hi fK fj
     refine(?_:let G_:Prop:=_;G_)
     intro G_
     obtain⟨rfl,nf,z,rfl⟩:=fK
     obtain⟨rfl,rfl⟩:=fj
     dsimp only[G_]
     have Pm:i<cs.length:=by omega
     have ec:=aat Pm
     obtain⟨cv,ev,Zg⟩:=IB.at (i:=i) (by rw[aad,ec];rfl)
     refine(?_:let G_:Prop:=_;G_)
     intro G_
     obtain⟨cq,y1,y2,rfl,Wr,q1,q2⟩:=bO.mp (show Rep _ (.tup _) cv from Zg)
     obtain rfl:=aS.mp q1
     dsimp only[G_]
     have ei:oW Oz (0+ (i:Int))=some (.ref cq):=by rw[Int.zero_add];exact cP ev
     have en:(cs.map (·.1))[i]?=some (cs[i]).1:=by rw[aad,ec];rfl
     simp_all only[hp,Wr,vg,hn]
     refine⟨_,ei,cq,rfl,_,Wr,_,rfl,rfl,?_⟩
     by_cases c:(cs[i]).1=a
     ·rw[if_pos (by rw[c])]
      have sp:dm cs a=i:=IQ (by rw[en,c]) nf
      rw[if_pos (by rw[<-c];exact aam en),sp] at kk
      refine⟨_,by rw[Int.zero_add];exact fJ (by omega),_,rfl,?_⟩
      rw[IS]
      exact kk
     ·rw[if_neg (λz=>c (by cases z;rfl))]
      refine⟨λj hj e=>?_,_,rfl⟩
      rcases Nat.lt_or_ge j i with h | h
      ·exact nf j h e
      ·rw[show j=i by omega,en] at e
       exact c (aay e)
    ·intro σ H' dk
     refine(?_:let G_:Prop:=_;G_)
     intro G_
     obtain⟨rfl,nf,z,rfl⟩:=dk
     dsimp only[G_]
     refine hN (λh=>?_) _
     have hl:=aa6 h
     refine nf ((cs.map (·.1)).idxOf a) ?_ (by rw[aat hl,List.getElem_idxOf])
     rw[aac] at hl
     omega
   rintro na z
   rw[if_neg na] at kk
   exact kk
theorem pk:aV ["_law_game_here","_law_rule_here","_law_state","_law_words","_law_name","_law_word","_law_when"] ["_law_game_here","_law_rule_here","_law_state","_law_words"] (aj (top 55)):=⟨rfl,rfl,rfl,by decide +kernel,rfl,by decide +kernel,by decide +kernel⟩
theorem Fz (T:Txt K mg aG aH aA aL af au):cL P w K mg base (bC P w) 2 "_law_due" ["_law_game_here","_law_rule_here","_law_state","_law_words"] Iu:=by
 have ve:cL P w K mg base (bC P w) 1 "_law_holds" ["_law_counts","_law_numbers","_law_when"] Ir:=LW T
 refine T.xV.eF (λ_ _ _ _ _ _ us hl=>match us,hl with | [_,_,_,_],_=>rfl) λf fd F=>F.fR pk (λvs H Q E h=>?_) (λbV A outer s H vs Q E hr h=>?_)
 ·obtain⟨_,_,_,_,_,_,_,rfl,_⟩:=h;rfl
 ·refine(?_:let G_:Prop:=_;G_)
  intro G_
  obtain⟨gv,rv,sv,wv,g,rule,st,rfl,rg,rr,stH,Fx,ls,lc,hs,kk⟩:=h
  dsimp only[G_]
  have nd:=pk.nd
  refine⟨_,(ai (cB PassesOwn.never rfl (bH (K:=K) (pv 1)) (dQ (K:=K) (n:=3) rfl (bw (aT (i:=4) nd rfl (Or.inl rfl)) (bw (aT (i:=5) nd rfl (Or.inl rfl)) (bw (aT (i:=6) nd rfl (Or.inl rfl)) dP)))) (ar (bG (PW.pt (pw_and (aM cg (pv 4) (aE av (pv 2) ae (λ_ _=>rfl)) (aY _)) (pw_and (aM (Ck hr.units) (pv 5) (pv 3) rfl) (pw_and1 (nE (aW ve (hr.mono (by decide)) rfl aF.pass (aa (aE av (pv 0) ae (λ_ _=>rfl)) (aa (aE av (pv 2) ae (λ_ _=>rfl)) (aa (pv 6) ag (se rfl)) (se rfl)) (se rfl)) (he:=se rfl) (hpl:=na rfl))))))) (ar (aP (eE aax PySem.F.slot_list_index PySem.F.type_list_index (tJ hr.units) (pv 3) (aa (pv 5) ag (se rfl)))))
   bg)))
  (ar (aP ae))),?_⟩
  refine(?_:let G_:Prop:=_;G_)
  intro G_
  obtain⟨gp,cv,pv,rfl,Lh,rc,rp⟩:=bO.mp (show Rep H (.tup _) gv from rg)
  obtain⟨ra,Gv,rfl,IT,IU⟩:=bq.mp (show Rep H (.lst _) rv from rr)
  obtain⟨sp,nl,rfl,yU,Pa⟩:=stH
  rw[tX] at Fx
  obtain⟨wa,YX,rfl,IV,rws⟩:=bq.mp Fx
  obtain rfl:=mz rws
  obtain⟨lr,Pb,lw,LL⟩:=hs
  dsimp only[G_]
  have Pc:Gv.length=rule.length:=by have:=IU.length;rw[aac] at this;omega
  have Pd:∀e∈(iN g st).map Dat.str,Kd e:=λe he=>by obtain⟨n,hn,rfl⟩:=List.mem_map.mp he;exact Fu (LL n hn)
  have Pe:∀e∈(iN g st).map Dat.str,Ke e:=λe he=>by obtain⟨n,hn,rfl⟩:=List.mem_map.mp he;exact Fv (LL n hn)
  change tSeq _ _ _ _ _
  refine ba (λN=>rule.find? (kH g st)=none->∀z4 z5 z6,N [some (.ref gp),some (.ref ra),some (.ref sp),some (.ref wa),z4,z5,z6] H) ?_ (λN hN=>?_)
  case refine_2=>
   simp_all only[]
   refine⟨⟨_,bL.of IT⟩,bX (src_list (Ok:=λH'=>H=H') (λH' e=>by subst e;exact bL.of IT)) (λi σ H'=>H=H'/\(rule.take i).find? (kH g st)=none/\∃z4 z5 z6,σ=[some (.ref gp),some (.ref ra),some (.ref sp),some (.ref wa),z4,z5,z6]) ⟨rfl,by rw[List.take_zero];rfl,_,_,_,rfl⟩ (λ_ _ _ _ h=>h.1) ?_ ?_⟩
   ·intro i x σ H' xb hi fK fj
    refine(?_:let G_:Prop:=_;G_)
    intro G_
    obtain⟨rfl,nf,z4,z5,z6,rfl⟩:=fK
    obtain⟨rfl,ex⟩:=fj
    obtain⟨d,ed,rd⟩:=IU.get ex
    rw[aad] at ed
    obtain⟨r,er,rfl⟩:=Option.map_eq_some_iff.mp ed
    obtain⟨q,y1,y2,y3,rfl,hq,r1,r2,r3⟩:=du.mp (show Rep _ (.tup _) x from rd)
    obtain rfl:=aS.mp r1
    obtain rfl:=aS.mp r2
    dsimp only[G_]
    have LM:=Pb r (aam er)
    refine⟨q,_,rfl,lg.of hq,rfl,?_⟩
    simp_all only[Ir,HE,HA,yU,Lh]
    by_cases a1:r.1=st.1
    ·rw[if_pos a1]
     refine⟨_,IV,_,rws,Pe,.str r.2.1,aS.mpr rfl,Fv LM,?_⟩
     by_cases b1:r.2.1∈iN g st
     ·rw[if_pos (by rw[if_neg (by decide)];exact decide_eq_true (pU.mpr b1))]
      refine⟨g.cs,rc,st.2,Pa,ls,lc,r.2.2,r3,?_⟩
      by_cases c1:gK g.cs st.2 r.2.2=true
      ·rw[if_pos c1]
       have ia:=C4 b1
       rw[zN nf er (by rw[jh,if_pos a1,if_pos b1];exact c1)] at kk
       exact⟨.inl ⟨rfl,_,bL.of IV⟩,_,IV,_,rws,Pd,.str r.2.1,aS.mpr rfl,Fu LM,_,ia.1,ia.2,by have:=aa6 b1;omega,kk⟩
      ·rw[if_neg c1]
       exact⟨fP nf er (by rw[jh,if_pos a1,if_pos b1];exact eq_false_of_ne_true c1),_,rfl⟩
     ·rw[if_neg (λz=>b1 (pU.mp (of_decide_eq_true (by rw[if_neg (by decide)] at z;exact z)))),if_neg (by decide)]
      exact⟨fP nf er (by rw[jh,if_pos a1,if_neg b1]),_,rfl⟩
    ·rw[if_neg a1,if_neg (by decide)]
     exact⟨fP nf er (by rw[jh,if_neg a1]),_,rfl⟩
   ·intro σ H' dk
    refine(?_:let G_:Prop:=_;G_)
    intro G_
    obtain⟨rfl,nf,z4,z5,z6,rfl⟩:=dk
    dsimp only[G_]
    rw[Pc,aau (aaf _)] at nf
    exact hN nf _ _ _
  rintro nf z4 z5 z6
  rw[wR nf] at kk
  exact kk
theorem Dy:aV ["_law_script","_law_game_here","_law_rule_here","_law_handed","_law_found","_law_board","_law_states","_law_words","_law_k"] ["_law_script"] (aj (top 56)):=⟨rfl,rfl,rfl,by decide +kernel,rfl,by decide +kernel,by decide +kernel⟩
theorem IW (T:Txt K mg aG aH aA aL af au) {f:Addr} {fd:FuncData} (F:xE K "law" "law" (top 56) f fd):fH P w K mg base (bC P w) 12 f fd ["_law_script"] (zM K):=by
 have ji:cL P w K mg base (bC P w) 3 "_law_game" ["_law_script"] (C6 K):=LU T
 have iB:cL P w K mg base (bC P w) 2 "_law_names" ["_law_script"] (C5 K):=Gw T
 have w5:cL P w K mg base (bC P w) 2 "_law_rule" ["_law_script","_law_names_here"] (Iq K):=LV T
 have yr:cL P w K mg base (bC P w) 2 "_law_due" ["_law_game_here","_law_rule_here","_law_state","_law_words"] Iu:=Fz T
 have yt:cL P w K mg base (bC P w) 11 "picks_by" ["game","rule"] Iz:=LP T
 have rk:cL P w K mg base (bC P w) 10 "spread" ["game"] (qO aL aA):=Dr T
 refine F.fR Dy (λvs H Q E h=>?_) (λbV A outer s H vs Q E hr h=>?_)
 ·obtain⟨_,_,rfl,_⟩:=h;rfl
 ·refine(?_:let G_:Prop:=_;G_)
  intro G_
  obtain⟨sa,ns,rfl,hS,l63,kk⟩:=h
  dsimp only[G_]
  clear G_
  have nd:=Dy.nd
  refine⟨_,(ai (aK (i:=1) nd rfl (Or.inl rfl) (aW ji (hr.mono (by decide)) rfl aF.pass (aa (pv 0) ag (se rfl)) (he:=se rfl) (hpl:=na rfl)))
  (ai (aK (i:=2) nd rfl (Or.inl rfl) (aW w5 (hr.mono (by decide)) rfl aF.pass (aa (pv 0) (aa (aW iB (hr.mono (by decide)) rfl aF.pass (aa (pv 0) ag (se rfl)) (he:=se rfl) (hpl:=na rfl)) ag (se rfl)) (se rfl)) (he:=se rfl) (hpl:=na rfl)))
  (ai (aK (i:=3) nd rfl (Or.inl rfl) (fO (eQ (K:=K)) (by rfl) T.z_list rfl (aa (pv 2) ag (se rfl)) (he:=se rfl) (hpl:=na rfl)))
  (ai (aK (i:=4) nd rfl (Or.inl rfl) (aW yt (hr.mono (by decide)) rfl aF.pass (aa (pv 1) (aa (pv 3) ag (se rfl)) (se rfl)) (he:=se rfl) (hpl:=na rfl)))
  (ai (xi (aW rk (hr.mono (by decide)) rfl aF.pass (aa (aW ji (hr.mono (by decide)) rfl aF.pass (aa (pv 0) ag (se rfl)) (he:=se rfl) (hpl:=na rfl)) ag (se rfl)) (he:=se rfl) (hpl:=na rfl)) (dQ (K:=K) (n:=3) rfl (bw (aT (i:=5) nd rfl (Or.inl rfl)) (bw (aT (i:=6) nd rfl (Or.inl rfl)) (bw (aT (i:=7) nd rfl (Or.inl rfl)) dP)))))
  (ai (bG (PW.pt (pw_or (Bj (nE (bx (nO (K:=K)) (by rfl) T.z_isinstance rfl (aa (pv 4) (aa (uc (v:=V.ty "list") rfl T.z_list rfl rfl) ag (se rfl)) (se rfl)) (he:=se rfl) (hpl:=na rfl)))) (pw_or (aM vo (bx cM (by rfl) T.z_len aaB (aa (pv 4) ag (se rfl)) (he:=se rfl) (hpl:=na rfl)) (bx cM (by rfl) T.z_len aaB (aa (pv 5) ag (se rfl)) (he:=se rfl) (hpl:=na rfl)) (aY _)) (pw_or (aM (Cm hr.units) (pv 3) (pv 2) (aY _)) (pw_or1 (aM (Cm hr.units) (pv 1) (aW ji (hr.mono (by decide)) rfl aF.pass (aa (pv 0) ag (se rfl)) (he:=se rfl) (hpl:=na rfl)) (aY _))))))) (ar (aP gN))
   bg)
  (ai (cB PassesOwn.never rfl (cV rfl T.z_range (aa (bx cM (by rfl) T.z_len aaB (aa (pv 5) ag (se rfl)) (he:=se rfl) (hpl:=na rfl)) ag (se rfl))) (aT (i:=8) nd rfl (Or.inl rfl)) (ar (bG (aM vo (aE av (aE aX (pv 5) (pv 8) (λ_ _=>rfl)) ae (λ_ _=>rfl)) bc (aY _)) (ar (bG (aM DY (aE aX (pv 4) (pv 8) (λ_ _=>rfl)) nB (aY _)) (ar (aP gN))
   bg))
   (ar (bG (PW.pt (pw_or (Bj (nE (bx (nO (K:=K)) (by rfl) T.z_isinstance rfl (aa (aE aX (pv 4) (pv 8) (λ_ _=>rfl)) (aa (uc (v:=V.ty "int") rfl T.z_int rfl rfl) ag (se rfl)) (se rfl)) (he:=se rfl) (hpl:=na rfl)))) (pw_or1 (nE (bx (nO (K:=K)) (by rfl) T.z_isinstance rfl (aa (aE aX (pv 4) (pv 8) (λ_ _=>rfl)) (aa (uc (v:=V.ty "bool") rfl T.z_bool rfl rfl) ag (se rfl)) (se rfl)) (he:=se rfl) (hpl:=na rfl)))))) (ar (aP gN))
   (ar (bG (aM vo (aE aX (pv 4) (pv 8) (λ_ _=>rfl)) (aW yr (hr.mono (by decide)) rfl aF.pass (aa (pv 1) (aa (pv 2) (aa (aE aX (pv 6) (pv 8) (λ_ _=>rfl)) (aa (aE aX (pv 7) (pv 8) (λ_ _=>rfl)) ag (se rfl)) (se rfl)) (se rfl)) (se rfl)) (he:=se rfl) (hpl:=na rfl)) (aY _)) (ar (aP gN))
   bg)))))))
  (ar (aP gN))))))))),?_⟩
  refine(?_:let cm:TS:=_;let cu:TS:=_;let cw:TS:=_;let dZ:TS:=_;let qT:TS:=_;let tY:TS:=_;let Dk:TS:=_;let Gy:TS:=_;tSeq cm (tSeq cu (tSeq cw (tSeq dZ (tSeq qT (tSeq tY (tSeq Dk Gy)))))) _ _ _)
  intro cm cu cw dZ qT tY Dk Gy
  have sl:=sizeLine_eq
  have G:=Fg ns
  have Pn:∀n∈bY ns,dt (.str n)=true:=wz (aN ns 0)
  have R:Io (bY ns) (kG ns (bY ns)):=Fh (gX (aN ns 0))
  refine(?_:let G_:Prop:=_;G_)
  intro G_
  obtain⟨ft,nm,fu,SS,hX,hd,ak,Jx,sp,A1,sub⟩:=G.out
  dsimp only[G_]
  clear G_
  have kg:Ke (E1 (kD ns)):=G.kx
  have kr:Ke (mO (kG ns (bY ns))):=Fj Pn R
  have Wu:hX.length=SS.length:=by have:=sp.all.1;omega
  have Ni:∀s,M5 (kD ns) (kG ns (bY ns)) s:=λs=>⟨by have:=R.1;omega,λr hr=>Pn _ (R.2 r hr).2.1,by have:=(G.VB s).1;omega,λn hn=>Pn _ ((G.VB s).2 n hn)⟩
  have Po:∀s∈SS,s.2.length=(kD ns).cs.length/\∃x,look (kD ns).ps s.1=some x:=λs hs=>by
   refine(?_:let G_:Prop:=_;G_)
   intro G_
   obtain⟨⟨j,x,ex,_,e⟩,ir⟩:=sub s hs
   dsimp only[G_]
   exact⟨ir.1,x.2,by rw[e];exact G.look ex⟩
  have al:Iw (kD ns) (kG ns (bY ns)) SS hX:=⟨G.gg,Wu,A1,λs hs=>⟨(Po s hs).1,Ni s,(Po s hs).2⟩⟩
  have lcs:=G.gg.lc
  generalize hg:kD ns=g at *
  change tSeq _ _ _ _ _
  refine ba (λN=>∀H1 gv,aw H H1->Rep H1 (E1 g) gv->N [some (.ref sa),some gv,none,none,none,none,none,none,none] H1) ?_ (λN hN=>?_)
  case refine_2=>
   subst hg
   simp_all only[C6]
   exact⟨ns,hS,λv H1 s1 r=>hN _ v s1 r⟩
  rintro H1 gv s1 rg
  have wY:=s1.seq hS
  change tSeq _ _ _ _ _
  refine ba (λN=>∀H2 ra,aw H1 H2->Rep H2 (mO (kG ns (bY ns))) (.ref ra)->N [some (.ref sa),some gv,some (.ref ra),none,none,none,none,none,none] H2) ?_ (λN hN=>?_)
  case refine_2=>
   simp_all only[C5,Iq]
   exact⟨ns,wY,λnl H2 s2 hn=>⟨ns,s2.seq wY,bY ns,hn,gX _,λl H3 s3 r=>hN _ l (s2.trans s3) r⟩⟩
  rintro H2 ra s2 rr
  generalize kG ns (bY ns)=rule at *
  refine(?_:let G_:Prop:=_;G_)
  intro G_
  obtain⟨ra',Gv,e0,IT,IU⟩:=bq.mp (show Rep H2 (.lst _) (.ref ra) from rr)
  dsimp only[G_]
  clear G_
  cases e0
  change tSeq _ _ _ _ _
  refine ba (λN=>∀H3 ha,aw H2 H3->Rep H3 (mO rule) (.ref ha)->N [some (.ref sa),some gv,some (.ref ra),some (.ref ha),none,none,none,none,none] H3) ?_ (λN hN=>?_)
  case refine_2=>
   simp_all only[]
   exact⟨_,.inl (bL.of IT),λl nl=>hN _ l (ao nl) (bq.mpr ⟨l,_,rfl,aq,IU.mono (ao nl)⟩)⟩
  rintro H3 ha s3 rh
  have Bd:=s2.trans s3
  change tSeq _ _ _ _ _
  refine ba (λN=>∀H4 fl,aw H3 H4->H4 fl=some (.lst (SS.map (fY g rule)))->N [some (.ref sa),some gv,some (.ref ra),some (.ref ha),some (.ref fl),none,none,none,none] H4) ?_ (λN hN=>?_)
  case refine_2=>
   simp_all only[Iz]
   exact⟨g,rg.mono Bd,rule,rh,SS,hX,al,ft,hd,nm,fu,ak,Jx,sp,λl H4 s4 h4=>hN _ l s4 h4⟩
  rintro H4 fl s4 Zh
  have wM:=Bd.trans s4
  change tSeq _ _ _ _ _
  refine ba (λN=>∀H5 b l wl bs xs ws,aw H4 H5->H5 b=some (.lst bs)->bb H5 (wq g SS hX) bs->H5 l=some (.lst xs)->Al (λs v=>tP H5 v s.1 s.2) SS xs->H5 wl=some (.lst ws)->bb H5 (SS.map (gM g)) ws->N [some (.ref sa),some gv,some (.ref ra),some (.ref ha),some (.ref fl),some (.ref b),some (.ref l),some (.ref wl),none] H5) ?_ (λN hN=>?_)
  case refine_2=>
   simp_all only[C6,qO]
   refine⟨ns,wM.seq wY,λv H5 s5 r5=>?_⟩
   rw[hg] at r5
   refine⟨g,r5,al.gg,ft,hd,nm,fu,ak,Jx,0,by decide,SS,hX,sp,A1,(λz=>by cases z),(λz=>by cases z),λ_ p b l wl bs xs ws H6 s6 nb hp hb rb wf hl ax hw rws=>?_⟩
   refine⟨p,_,rfl,lg.of hp,rfl,?_⟩
   simp_all only[]
   exact hN _ b l wl bs xs ws (s5.trans s6) hb rb hl (ax.imp λ_ _ h=>h.st) hw rws
  rintro H5 b l wl bs xs ws s5 hb rb hl ax hw rws
  have JA:=wM.trans s5
  have Pp:=s4.trans s5
  have Wg:bs.length=SS.length:=by
   have:=rb.length
   unfold wq at this
   rw[aac,List.length_zip,Wu,Nat.min_self] at this
   omega
  have IX:=s5 _ _ Zh
  change tSeq _ _ _ _ _
  refine ba (λN=>∀H6,aw H5 H6->N [some (.ref sa),some gv,some (.ref ra),some (.ref ha),some (.ref fl),some (.ref b),some (.ref l),some (.ref wl),none] H6) ?_ (λN hN=>?_)
  case refine_2=>
   refine qq (λ_=>False) (λH'=>aw H5 H') (λ_ e=>e.elim) (λH' e=>hN _ e) (λY N hY hN=>?_)
   simp_all only[C6,Ky,IX,hb]
   refine⟨_,iW.lst IX,_,Hj,?_⟩
   rw[if_neg (by decide),if_neg (by rw[aac];omega)]
   refine⟨_,rh.mono Pp,_,rr.mono (s3.trans Pp),kr,kr,?_⟩
   rw[if_neg (by simp)]
   refine⟨ns,JA.seq wY,λv H6 s6 r6=>?_⟩
   rw[hg] at r6
   refine⟨_,rg.mono (JA.trans s6),_,r6,kg,kg,?_⟩
   rw[if_neg (by simp)]
   exact hN _ s6
  rintro H6 s6
  change tSeq _ _ _ _ _
  refine ba (λN=>∀z,N [some (.ref sa),some gv,some (.ref ra),some (.ref ha),some (.ref fl),some (.ref b),some (.ref l),some (.ref wl),z] H6) ?_ (λN hN=>?_)
  case refine_2=>
   simp_all only[s6 _ _ hb]
   refine⟨by omega,by omega,bX (src_range (Ok:=λ_=>True)) (λi σ H'=>H6=H'/\∃z,σ=[some (.ref sa),some gv,some (.ref ra),some (.ref ha),some (.ref fl),some (.ref b),some (.ref l),some (.ref wl),z]) ⟨rfl,_,rfl⟩ (λ_ _ _ _ _=>trivial) ?_ ?_⟩
   ·intro i x σ H7 H8 hi fK fj
    refine(?_:let G_:Prop:=_;G_)
    intro G_
    obtain⟨rfl,z,rfl⟩:=fK
    obtain⟨rfl,rfl⟩:=fj
    dsimp only[G_]
    clear G_
    have Pm:i<SS.length:=by omega
    have es:=aat Pm
    generalize SS[i]=st at es
    have hm:=aam es
    refine(?_:let G_:Prop:=_;G_)
    intro G_
    obtain⟨lst,wt,lk⟩:=Po st hm
    dsimp only[G_]
    clear G_
    have et:hX[i]?=some (hX[i]'(by omega)):=aat _
    generalize hX[i]'(by omega)=ts at et
    obtain⟨bv,Zi,Wv⟩:=rb.at (i:=i) (d:=nY g SS st ts) (by unfold wq;rw[aad,List.getElem?_zip_eq_some (z:=(st,ts)).mpr ⟨es,et⟩];rfl)
    refine(?_:let G_:Prop:=_;G_)
    intro G_
    obtain⟨kd,rs,ep,ik⟩:=wC (SS:=SS) (ts:=ts) lk
    rw[ep] at Wv
    obtain⟨q,vs,rfl,hq,Gv⟩:=eR.mp Wv
    obtain⟨u0,us,rfl,Pf,_⟩:=aQ.mp Gv
    obtain rfl:=aS.mp Pf
    dsimp only[G_]
    clear G_
    have hx:i<xs.length:=by have:=ax.length;omega
    have ex:=aat hx
    generalize xs[i]=xv at ex
    refine(?_:let G_:Prop:=_;G_)
    intro G_
    obtain⟨Ba,sR,rQ⟩:=ax.get ex
    have e1:=aay (es.symm.trans sR)
    subst e1
    dsimp only[G_]
    obtain⟨wv,Zj,LS⟩:=rws.at (i:=i) (d:=gM g st) (by rw[aad,es];rfl)
    have LX:=s6 _ _ hb
    have Ww:=s6 _ _ hq
    have LY:=s6 _ _ IX
    have Zk:=s6 _ _ hl
    have Lz:=s6 _ _ hw
    have Wx:oW bs (i:Int)=some (.ref q):=cP Zi
    have JB:oW (SS.map (fY g rule)) (i:Int)=some (fY g rule st):=cP (by rw[aad,es];rfl)
    simp only[gName,aaY,aaX,Int.zero_add]
    change tIfS _ _ _ _ [some (.ref sa),some gv,some (.ref ra),some (.ref ha),some (.ref fl),some (.ref b),some (.ref l),some (.ref wl),some (.int (i:Int))] _
    by_cases kp:kd=Str.ofString "pick"
    ·have ev:fY g rule st=.int ((uU g rule st:Nat):Int):=if_pos (ik.mp kp)
     rw[ev] at JB
     refine gT (λY N kn=>by
      simp_all only[LX,LY]
      refine⟨_,Wx,q,rfl,_,Ww,.str kd,at0,rfl,?_⟩
      rw[if_neg (λz=>z (by rw[kp]))]
      exact kn) ?_
     change tIfS _ _ _ _ [some (.ref sa),some gv,some (.ref ra),some (.ref ha),some (.ref fl),some (.ref b),some (.ref l),some (.ref wl),some (.int (i:Int))] _
     refine gT (λY N kn=>by
      simp_all only[LX,LY]
      refine⟨_,JB,_,iW.int _,_,Hi,?_⟩
      rw[if_neg (by decide)]
      refine⟨_,JB,_,iW.int _,_,Hk,?_⟩
      rw[if_neg (by decide)]
      exact kn) ?_
     change tIfS _ _ _ _ [some (.ref sa),some gv,some (.ref ra),some (.ref ha),some (.ref fl),some (.ref b),some (.ref l),some (.ref wl),some (.int (i:Int))] _
     refine gT (λY N kn=>by
      simp_all only[LX,LY,Zk,Lz,Iu]
      refine⟨_,JB,_,cP ex,_,cP Zj,g,rg.mono (JA.trans s6),rule,rr.mono ((s3.trans Pp).trans s6),st,rQ.mono s6,LS.mono s6,lst,lcs,Ni st,rfl,?_⟩
      rw[if_neg (λz=>z rfl)]
      exact kn) ?_
     exact⟨rfl,_,rfl⟩
    ·have ev:fY g rule st=.cZ:=if_neg (λz=>kp (ik.mpr z))
     rw[ev] at JB
     refine lM (λY N kn=>by
      simp_all only[LX,LY]
      refine⟨_,Wx,q,rfl,_,Ww,.str kd,at0,rfl,?_⟩
      rw[if_pos (λz=>kp (by cases z;rfl))]
      exact kn) ?_
     change tIfS _ _ _ _ [some (.ref sa),some gv,some (.ref ra),some (.ref ha),some (.ref fl),some (.ref b),some (.ref l),some (.ref wl),some (.int (i:Int))] _
     refine gT (λY N kn=>by
      simp_all only[LX,LY]
      refine⟨_,JB,?_⟩
      rw[if_neg (λz=>z rfl)]
      exact kn) ?_
     exact⟨rfl,_,rfl⟩
   ·intro σ H7 dk
    refine(?_:let G_:Prop:=_;G_)
    intro G_
    obtain⟨rfl,z,rfl⟩:=dk
    dsimp only[G_]
    exact hN _
  rintro z
  exact kk _
end
theorem all_mk {l:PySem.W.OpenLaw} {w:World} {K:PySem.W.Frag} {h:Heap} {mg:Str->Option Value} {fa:Addr} (X:K.In h) (G:h.Ns mainGlobals mg) (Zl:mg "law"=some (.ref fa))
  {f0:Addr} {Zm Zn:Option Addr} {Zo:Array (Option Value)} {Zp Zq Zr Zs Wy Zt:Value} {f1:Addr} {Zu Lg:Option Addr} {U2:Array (Option Value)} {Zv Zw Zx Zy Wz Zz:Value} {f2:Addr} {ZA ZC:Option Addr} {Ej:Array (Option Value)} {ZD ZE ZF ZG WA ZH:Value} {f3:Addr} {ZI ZJ:Option Addr} {ZK:Array (Option Value)} {ZL ZM ZN ZO WB ZP:Value} {f4:Addr} {ZQ ZR:Option Addr} {ZS:Array (Option Value)} {ZT ZU ZV ZW WC ZX:Value} {f5:Addr} {ZY IH:Option Addr} {ZZ:Array (Option Value)} {Z0 Z1 Z2 Z3 WD Z4:Value} {f6:Addr} {Z5 Z6:Option Addr} {Z7:Array (Option Value)} {Z8 Z9 dc6 pm6 WE ct6:Value} {f7:Addr} {od7 an7:Option Addr} {sl7:Array (Option Value)} {oc7 kV7 dc7 pm7 WG ct7:Value} {f8:Addr} {od8 an8:Option Addr} {sl8:Array (Option Value)} {oc8 kV8 dc8 pm8 WH ct8:Value} {f9:Addr} {od9 an9:Option Addr} {sl9:Array (Option Value)} {oc9 kV9 dc9 pm9 WI ct9:Value} {Pq:Addr} {Pu Pw:Option Addr} {Px:Array (Option Value)} {Py Pz PB PD LZ PF:Value} {PJ:Addr} {PK PL:Option Addr} {PM:Array (Option Value)} {PN PQ PR PU L0 PV:Value} {PX:Addr} {PY PZ:Option Addr} {P0:Array (Option Value)} {P1 P2 P4 P5 L1 P6:Value} {P7:Addr} {P8 P9:Option Addr} {Qa:Array (Option Value)} {Qb Qc Qd Qe L3 Qf:Value} {Qg:Addr} {Qh Qi:Option Addr} {Qj:Array (Option Value)} {Qk Ql Qm Qn L4 Qo:Value} {Qp:Addr} {Qq Qr:Option Addr} {Qs:Array (Option Value)} {Qt Qu Qv Qw L5 Qx:Value} {Qy:Addr} {Qz QA:Option Addr} {QB:Array (Option Value)} {QC QD QF QG L6 QH:Value} {QI:Addr} {QJ QK:Option Addr} {QL:Array (Option Value)} {QM QN QO QP L7 QQ:Value} {QR:Addr} {QS QT:Option Addr} {QU:Array (Option Value)} {QV QW QX QY L8 QZ:Value} {Q0:Addr} {Q3 Q4:Option Addr} {Q5:Array (Option Value)} {Q6 Q7 Q8 Q9 L9 Ra:Value} {Rb:Addr} {Rc Rf:Option Addr} {Rg:Array (Option Value)} {Rh Ri Rj Rk Ma Rm:Value} {Rn:Addr} {Ro Rp:Option Addr} {Rq:Array (Option Value)} {Rr Rt Ru Rv Mb Rx:Value} {Ry:Addr} {Rz RA:Option Addr} {RB:Array (Option Value)} {RC RD RE RF Mc RG:Value} {RH:Addr} {RI RJ:Option Addr} {RK:Array (Option Value)} {RL RM RN RO Md RP:Value} {RQ:Addr} {RS RT:Option Addr} {RU:Array (Option Value)} {RV RW RX RY Me RZ:Value} {R1:Addr} {R3 R5:Option Addr} {R6:Array (Option Value)} {R7 R8 R9 Sa Mf Sb:Value} {Sd:Addr} {Se Sf:Option Addr} {Sg:Array (Option Value)} {Sh Si Sj Sk Mg Sl:Value} {Sm:Addr} {Sn So:Option Addr} {Sq:Array (Option Value)} {Sr Ss Su Sv Mh Sw:Value} {Sx:Addr} {Sy Sz:Option Addr} {SA:Array (Option Value)} {SD SE SG SH Mi SI:Value} {SJ:Addr} {SK SM:Option Addr} {SN:Array (Option Value)} {SO SQ SR SU Mj SV:Value} {SW:Addr} {SX SY:Option Addr} {S0:Array (Option Value)} {S1 S2 S3 S4 Ml S5:Value} {S6:Addr} {S7 S8:Option Addr} {S9:Array (Option Value)} {Ta Tb Tc Td Mm Te:Value} {Tf:Addr} {Tg Th:Option Addr} {Ti:Array (Option Value)} {Tj Tn To Tp Mn Tq:Value} {Tr:Addr} {Ts Tt:Option Addr} {Tu:Array (Option Value)} {Tv Tx Tz TB Mo TC:Value} {TF:Addr} {TH TK:Option Addr} {TL:Array (Option Value)} {TM TN TQ TU Mp TV:Value} {TX:Addr} {TY TZ:Option Addr} {T2:Array (Option Value)} {T3 T4 T5 T6 Mq T7:Value} {T8:Addr} {T9 Ua:Option Addr} {Ub:Array (Option Value)} {Uc Ud Ue Ug Mr Uh:Value} {Ui:Addr} {Uj Uk:Option Addr} {Ul:Array (Option Value)} {Um Uo Up Uq Ms Ur:Value} {Us:Addr} {Ut Uu:Option Addr} {Uv:Array (Option Value)} {Uw Ux Uy Uz Mt UA:Value} {UB:Addr} {UC UD:Option Addr} {UE:Array (Option Value)} {UG UH UI UJ Mu UK:Value} {rq:Tok} {rA:Tok} {rB:Tok} {aG aH aA aL af au:Addr} {jN:Addr} {yu yv:Option Addr} {yw:Array (Option Value)} {yx yA yB yC rD yD:Value} {jO:Addr} {yE yF:Option Addr} {yG:Array (Option Value)} {yH yI yJ yK rE yL:Value} {dR:Addr} {n9 oa:Option Addr} {og:Array (Option Value)} {oh oi oj om hJ oq:Value} {dD:Addr} {m7 m8:Option Addr} {m9:Array (Option Value)} {ng nh ni nj gF nv:Value} {df:Addr} {jX jY:Option Addr} {jZ:Array (Option Value)} {j0 j1 j2 j3 fE j4:Value} {fN:Addr} {sI sJ:Option Addr} {sL:Array (Option Value)} {sM sN sO sP kZ sQ:Value} {cR:Addr} {jj jk:Option Addr} {jl:Array (Option Value)} {jn jo jq jr eZ js:Value} {dU:Addr} {ou ox:Option Addr} {oy:Array (Option Value)} {oz oA oB oE hU oF:Value} {cS:Addr} {jt ju:Option Addr} {jv:Array (Option Value)} {jw jx jy jz fb jA:Value} {eW:Addr} {rF rG:Option Addr} {rH:Array (Option Value)} {rJ rK rL rM jB rN:Value} {dW:Addr} {oG oH:Option Addr} {oJ:Array (Option Value)} {oK oM oN oO hV oP:Value} {dg:Addr} {j5 j6:Option Addr} {j7:Array (Option Value)} {j8 j9 ka kc fF ke:Value} {dr:Addr} {lU lV:Option Addr} {lW:Array (Option Value)} {lX lY lZ ma gq md:Value} {dh:Addr} {kf kh:Option Addr} {ki:Array (Option Value)} {kj kl ko ku fG ky:Value} {cU:Addr} {jC jD:Option Addr} {jE:Array (Option Value)} {jF jG jH jI fc jJ:Value}
  (a0:PySem.W.nsIn K mainGlobals "common_divisor"=some (some (.ref f0))) (l0:K.lookup f0=some ⟨Zp,Zm,.func (PySem.W.fnOf "common_divisor" "common_divisor" (aR (top 7)) (aO (top 7)) (aj (top 7)) .none Zq Zr Zs Zn Wy Zt),Zo⟩) (e0:PySem.W.codeIn K Wy "common_divisor"=true) (k0:PySem.W.keepIn K (.ref f0)=true)
  (a1:PySem.W.nsIn K mainGlobals "share"=some (some (.ref f1))) (l1:K.lookup f1=some ⟨Zv,Zu,.func (PySem.W.fnOf "share" "share" (aR (top 8)) (aO (top 8)) (aj (top 8)) .none Zw Zx Zy Lg Wz Zz),U2⟩) (e1:PySem.W.codeIn K Wz "share"=true) (k1:PySem.W.keepIn K (.ref f1)=true)
  (a2:PySem.W.nsIn K mainGlobals "common_bottom"=some (some (.ref f2))) (l2:K.lookup f2=some ⟨ZD,ZA,.func (PySem.W.fnOf "common_bottom" "common_bottom" (aR (top 9)) (aO (top 9)) (aj (top 9)) .none ZE ZF ZG ZC WA ZH),Ej⟩) (e2:PySem.W.codeIn K WA "common_bottom"=true) (k2:PySem.W.keepIn K (.ref f2)=true)
  (a3:PySem.W.nsIn K mainGlobals "table_by_weights"=some (some (.ref f3))) (l3:K.lookup f3=some ⟨ZL,ZI,.func (PySem.W.fnOf "table_by_weights" "table_by_weights" (aR (top 11)) (aO (top 11)) (aj (top 11)) .none ZM ZN ZO ZJ WB ZP),ZK⟩) (e3:PySem.W.codeIn K WB "table_by_weights"=true) (k3:PySem.W.keepIn K (.ref f3)=true)
  (a4:PySem.W.nsIn K mainGlobals "table_of"=some (some (.ref f4))) (l4:K.lookup f4=some ⟨ZT,ZQ,.func (PySem.W.fnOf "table_of" "table_of" (aR (top 12)) (aO (top 12)) (aj (top 12)) .none ZU ZV ZW ZR WC ZX),ZS⟩) (e4:PySem.W.codeIn K WC "table_of"=true) (k4:PySem.W.keepIn K (.ref f4)=true)
  (a5:PySem.W.nsIn K mainGlobals "bottom_of"=some (some (.ref f5))) (l5:K.lookup f5=some ⟨Z0,ZY,.func (PySem.W.fnOf "bottom_of" "bottom_of" (aR (top 13)) (aO (top 13)) (aj (top 13)) .none Z1 Z2 Z3 IH WD Z4),ZZ⟩) (e5:PySem.W.codeIn K WD "bottom_of"=true) (k5:PySem.W.keepIn K (.ref f5)=true)
  (a6:PySem.W.nsIn K mainGlobals "weighed"=some (some (.ref f6))) (l6:K.lookup f6=some ⟨Z8,Z5,.func (PySem.W.fnOf "weighed" "weighed" (aR (top 14)) (aO (top 14)) (aj (top 14)) .none Z9 dc6 pm6 Z6 WE ct6),Z7⟩) (e6:PySem.W.codeIn K WE "weighed"=true) (k6:PySem.W.keepIn K (.ref f6)=true)
  (a7:PySem.W.nsIn K mainGlobals "power"=some (some (.ref f7))) (l7:K.lookup f7=some ⟨oc7,od7,.func (PySem.W.fnOf "power" "power" (aR (top 18)) (aO (top 18)) (aj (top 18)) .none kV7 dc7 pm7 an7 WG ct7),sl7⟩) (e7:PySem.W.codeIn K WG "power"=true) (k7:PySem.W.keepIn K (.ref f7)=true)
  (a8:PySem.W.nsIn K mainGlobals "most_faces"=some (some (.ref f8))) (l8:K.lookup f8=some ⟨oc8,od8,.func (PySem.W.fnOf "most_faces" "most_faces" (aR (top 19)) (aO (top 19)) (aj (top 19)) .none kV8 dc8 pm8 an8 WH ct8),sl8⟩) (e8:PySem.W.codeIn K WH "most_faces"=true) (k8:PySem.W.keepIn K (.ref f8)=true)
  (a9:PySem.W.nsIn K mainGlobals "part_bottom"=some (some (.ref f9))) (l9:K.lookup f9=some ⟨oc9,od9,.func (PySem.W.fnOf "part_bottom" "part_bottom" (aR (top 20)) (aO (top 20)) (aj (top 20)) .none kV9 dc9 pm9 an9 WI ct9),sl9⟩) (e9:PySem.W.codeIn K WI "part_bottom"=true) (k9:PySem.W.keepIn K (.ref f9)=true)
  (a10:PySem.W.nsIn K mainGlobals "part_count"=some (some (.ref Pq))) (l10:K.lookup Pq=some ⟨Py,Pu,.func (PySem.W.fnOf "part_count" "part_count" (aR (top 21)) (aO (top 21)) (aj (top 21)) .none Pz PB PD Pw LZ PF),Px⟩) (e10:PySem.W.codeIn K LZ "part_count"=true) (k10:PySem.W.keepIn K (.ref Pq)=true)
  (a11:PySem.W.nsIn K mainGlobals "check_size"=some (some (.ref PJ))) (l11:K.lookup PJ=some ⟨PN,PK,.func (PySem.W.fnOf "check_size" "check_size" (aR (top 22)) (aO (top 22)) (aj (top 22)) .none PQ PR PU PL L0 PV),PM⟩) (e11:PySem.W.codeIn K L0 "check_size"=true) (k11:PySem.W.keepIn K (.ref PJ)=true)
  (a12:PySem.W.nsIn K mainGlobals "dice_faces"=some (some (.ref PX))) (l12:K.lookup PX=some ⟨P1,PY,.func (PySem.W.fnOf "dice_faces" "dice_faces" (aR (top 23)) (aO (top 23)) (aj (top 23)) .none P2 P4 P5 PZ L1 P6),P0⟩) (e12:PySem.W.codeIn K L1 "dice_faces"=true) (k12:PySem.W.keepIn K (.ref PX)=true)
  (a13:PySem.W.nsIn K mainGlobals "again_faces"=some (some (.ref P7))) (l13:K.lookup P7=some ⟨Qb,P8,.func (PySem.W.fnOf "again_faces" "again_faces" (aR (top 24)) (aO (top 24)) (aj (top 24)) .none Qc Qd Qe P9 L3 Qf),Qa⟩) (e13:PySem.W.codeIn K L3 "again_faces"=true) (k13:PySem.W.keepIn K (.ref P7)=true)
  (a14:PySem.W.nsIn K mainGlobals "burst_faces"=some (some (.ref Qg))) (l14:K.lookup Qg=some ⟨Qk,Qh,.func (PySem.W.fnOf "burst_faces" "burst_faces" (aR (top 25)) (aO (top 25)) (aj (top 25)) .none Ql Qm Qn Qi L4 Qo),Qj⟩) (e14:PySem.W.codeIn K L4 "burst_faces"=true) (k14:PySem.W.keepIn K (.ref Qg)=true)
  (a15:PySem.W.nsIn K mainGlobals "part_faces"=some (some (.ref Qp))) (l15:K.lookup Qp=some ⟨Qt,Qq,.func (PySem.W.fnOf "part_faces" "part_faces" (aR (top 26)) (aO (top 26)) (aj (top 26)) .none Qu Qv Qw Qr L5 Qx),Qs⟩) (e15:PySem.W.codeIn K L5 "part_faces"=true) (k15:PySem.W.keepIn K (.ref Qp)=true)
  (a16:PySem.W.nsIn K mainGlobals "value_of"=some (some (.ref Qy))) (l16:K.lookup Qy=some ⟨QC,Qz,.func (PySem.W.fnOf "value_of" "value_of" (aR (top 27)) (aO (top 27)) (aj (top 27)) .none QD QF QG QA L6 QH),QB⟩) (e16:PySem.W.codeIn K L6 "value_of"=true) (k16:PySem.W.keepIn K (.ref Qy)=true)
  (a17:PySem.W.nsIn K mainGlobals "sides_product"=some (some (.ref QI))) (l17:K.lookup QI=some ⟨QM,QJ,.func (PySem.W.fnOf "sides_product" "sides_product" (aR (top 28)) (aO (top 28)) (aj (top 28)) .none QN QO QP QK L7 QQ),QL⟩) (e17:PySem.W.codeIn K L7 "sides_product"=true) (k17:PySem.W.keepIn K (.ref QI)=true)
  (a18:PySem.W.nsIn K mainGlobals "part_throws"=some (some (.ref QR))) (l18:K.lookup QR=some ⟨QV,QS,.func (PySem.W.fnOf "part_throws" "part_throws" (aR (top 29)) (aO (top 29)) (aj (top 29)) .none QW QX QY QT L8 QZ),QU⟩) (e18:PySem.W.codeIn K L8 "part_throws"=true) (k18:PySem.W.keepIn K (.ref QR)=true)
  (a19:PySem.W.nsIn K mainGlobals "throws_by_bottom"=some (some (.ref Q0))) (l19:K.lookup Q0=some ⟨Q6,Q3,.func (PySem.W.fnOf "throws_by_bottom" "throws_by_bottom" (aR (top 30)) (aO (top 30)) (aj (top 30)) .none Q7 Q8 Q9 Q4 L9 Ra),Q5⟩) (e19:PySem.W.codeIn K L9 "throws_by_bottom"=true) (k19:PySem.W.keepIn K (.ref Q0)=true)
  (a20:PySem.W.nsIn K mainGlobals "pool_table"=some (some (.ref Rb))) (l20:K.lookup Rb=some ⟨Rh,Rc,.func (PySem.W.fnOf "pool_table" "pool_table" (aR (top 31)) (aO (top 31)) (aj (top 31)) .none Ri Rj Rk Rf Ma Rm),Rg⟩) (e20:PySem.W.codeIn K Ma "pool_table"=true) (k20:PySem.W.keepIn K (.ref Rb)=true)
  (a21:PySem.W.nsIn K mainGlobals "own_rows"=some (some (.ref Rn))) (l21:K.lookup Rn=some ⟨Rr,Ro,.func (PySem.W.fnOf "own_rows" "own_rows" (aR (top 34)) (aO (top 34)) (aj (top 34)) .none Rt Ru Rv Rp Mb Rx),Rq⟩) (e21:PySem.W.codeIn K Mb "own_rows"=true) (k21:PySem.W.keepIn K (.ref Rn)=true)
  (a22:PySem.W.nsIn K mainGlobals "own_what"=some (some (.ref Ry))) (l22:K.lookup Ry=some ⟨RC,Rz,.func (PySem.W.fnOf "own_what" "own_what" (aR (top 35)) (aO (top 35)) (aj (top 35)) .none RD RE RF RA Mc RG),RB⟩) (e22:PySem.W.codeIn K Mc "own_what"=true) (k22:PySem.W.keepIn K (.ref Ry)=true)
  (a23:PySem.W.nsIn K mainGlobals "throw_ways"=some (some (.ref RH))) (l23:K.lookup RH=some ⟨RL,RI,.func (PySem.W.fnOf "throw_ways" "throw_ways" (aR (top 38)) (aO (top 38)) (aj (top 38)) .none RM RN RO RJ Md RP),RK⟩) (e23:PySem.W.codeIn K Md "throw_ways"=true) (k23:PySem.W.keepIn K (.ref RH)=true)
  (a24:PySem.W.nsIn K mainGlobals "pick_ways"=some (some (.ref RQ))) (l24:K.lookup RQ=some ⟨RV,RS,.func (PySem.W.fnOf "pick_ways" "pick_ways" (aR (top 39)) (aO (top 39)) (aj (top 39)) .none RW RX RY RT Me RZ),RU⟩) (e24:PySem.W.codeIn K Me "pick_ways"=true) (k24:PySem.W.keepIn K (.ref RQ)=true)
  (a25:PySem.W.nsIn K mainGlobals "taken_up"=some (some (.ref R1))) (l25:K.lookup R1=some ⟨R7,R3,.func (PySem.W.fnOf "taken_up" "taken_up" (aR (top 40)) (aO (top 40)) (aj (top 40)) .none R8 R9 Sa R5 Mf Sb),R6⟩) (e25:PySem.W.codeIn K Mf "taken_up"=true) (k25:PySem.W.keepIn K (.ref R1)=true)
  (a26:PySem.W.nsIn K mainGlobals "spread"=some (some (.ref Sd))) (l26:K.lookup Sd=some ⟨Sh,Se,.func (PySem.W.fnOf "spread" "spread" (aR (top 41)) (aO (top 41)) (aj (top 41)) .none Si Sj Sk Sf Mg Sl),Sg⟩) (e26:PySem.W.codeIn K Mg "spread"=true) (k26:PySem.W.keepIn K (.ref Sd)=true)
  (a27:PySem.W.nsIn K mainGlobals "way_by"=some (some (.ref Sm))) (l27:K.lookup Sm=some ⟨Sr,Sn,.func (PySem.W.fnOf "way_by" "way_by" (aR (top 43)) (aO (top 43)) (aj (top 43)) .none Ss Su Sv So Mh Sw),Sq⟩) (e27:PySem.W.codeIn K Mh "way_by"=true) (k27:PySem.W.keepIn K (.ref Sm)=true)
  (a28:PySem.W.nsIn K mainGlobals "spread_picks_by"=some (some (.ref Sx))) (l28:K.lookup Sx=some ⟨SD,Sy,.func (PySem.W.fnOf "spread_picks_by" "spread_picks_by" (aR (top 44)) (aO (top 44)) (aj (top 44)) .none SE SG SH Sz Mi SI),SA⟩) (e28:PySem.W.codeIn K Mi "spread_picks_by"=true) (k28:PySem.W.keepIn K (.ref Sx)=true)
  (a29:PySem.W.nsIn K mainGlobals "picks_by"=some (some (.ref SJ))) (l29:K.lookup SJ=some ⟨SO,SK,.func (PySem.W.fnOf "picks_by" "picks_by" (aR (top 45)) (aO (top 45)) (aj (top 45)) .none SQ SR SU SM Mj SV),SN⟩) (e29:PySem.W.codeIn K Mj "picks_by"=true) (k29:PySem.W.keepIn K (.ref SJ)=true)
  (a30:PySem.W.nsIn K mainGlobals "_law_cell"=some (some (.ref SW))) (l30:K.lookup SW=some ⟨S1,SX,.func (PySem.W.fnOf "_law_cell" "_law_cell" (aR (top 47)) (aO (top 47)) (aj (top 47)) .none S2 S3 S4 SY Ml S5),S0⟩) (e30:PySem.W.codeIn K Ml "_law_cell"=true) (k30:PySem.W.keepIn K (.ref SW)=true)
  (a31:PySem.W.nsIn K mainGlobals "_law_names"=some (some (.ref S6))) (l31:K.lookup S6=some ⟨Ta,S7,.func (PySem.W.fnOf "_law_names" "_law_names" (aR (top 48)) (aO (top 48)) (aj (top 48)) .none Tb Tc Td S8 Mm Te),S9⟩) (e31:PySem.W.codeIn K Mm "_law_names"=true) (k31:PySem.W.keepIn K (.ref S6)=true)
  (a32:PySem.W.nsIn K mainGlobals "_law_deeds"=some (some (.ref Tf))) (l32:K.lookup Tf=some ⟨Tj,Tg,.func (PySem.W.fnOf "_law_deeds" "_law_deeds" (aR (top 49)) (aO (top 49)) (aj (top 49)) .none Tn To Tp Th Mn Tq),Ti⟩) (e32:PySem.W.codeIn K Mn "_law_deeds"=true) (k32:PySem.W.keepIn K (.ref Tf)=true)
  (a33:PySem.W.nsIn K mainGlobals "_law_throw"=some (some (.ref Tr))) (l33:K.lookup Tr=some ⟨Tv,Ts,.func (PySem.W.fnOf "_law_throw" "_law_throw" (aR (top 50)) (aO (top 50)) (aj (top 50)) .none Tx Tz TB Tt Mo TC),Tu⟩) (e33:PySem.W.codeIn K Mo "_law_throw"=true) (k33:PySem.W.keepIn K (.ref Tr)=true)
  (a34:PySem.W.nsIn K mainGlobals "_law_pick"=some (some (.ref TF))) (l34:K.lookup TF=some ⟨TM,TH,.func (PySem.W.fnOf "_law_pick" "_law_pick" (aR (top 51)) (aO (top 51)) (aj (top 51)) .none TN TQ TU TK Mp TV),TL⟩) (e34:PySem.W.codeIn K Mp "_law_pick"=true) (k34:PySem.W.keepIn K (.ref TF)=true)
  (a35:PySem.W.nsIn K mainGlobals "_law_game"=some (some (.ref TX))) (l35:K.lookup TX=some ⟨T3,TY,.func (PySem.W.fnOf "_law_game" "_law_game" (aR (top 52)) (aO (top 52)) (aj (top 52)) .none T4 T5 T6 TZ Mq T7),T2⟩) (e35:PySem.W.codeIn K Mq "_law_game"=true) (k35:PySem.W.keepIn K (.ref TX)=true)
  (a36:PySem.W.nsIn K mainGlobals "_law_rule"=some (some (.ref T8))) (l36:K.lookup T8=some ⟨Uc,T9,.func (PySem.W.fnOf "_law_rule" "_law_rule" (aR (top 53)) (aO (top 53)) (aj (top 53)) .none Ud Ue Ug Ua Mr Uh),Ub⟩) (e36:PySem.W.codeIn K Mr "_law_rule"=true) (k36:PySem.W.keepIn K (.ref T8)=true)
  (a37:PySem.W.nsIn K mainGlobals "_law_holds"=some (some (.ref Ui))) (l37:K.lookup Ui=some ⟨Um,Uj,.func (PySem.W.fnOf "_law_holds" "_law_holds" (aR (top 54)) (aO (top 54)) (aj (top 54)) .none Uo Up Uq Uk Ms Ur),Ul⟩) (e37:PySem.W.codeIn K Ms "_law_holds"=true) (k37:PySem.W.keepIn K (.ref Ui)=true)
  (a38:PySem.W.nsIn K mainGlobals "_law_due"=some (some (.ref Us))) (l38:K.lookup Us=some ⟨Uw,Ut,.func (PySem.W.fnOf "_law_due" "_law_due" (aR (top 55)) (aO (top 55)) (aj (top 55)) .none Ux Uy Uz Uu Mt UA),Uv⟩) (e38:PySem.W.codeIn K Mt "_law_due"=true) (k38:PySem.W.keepIn K (.ref Us)=true)
  (a39:PySem.W.nsIn K mainGlobals "law"=some (some (.ref UB))) (l39:K.lookup UB=some ⟨UG,UC,.func (PySem.W.fnOf "law" "law" (aR (top 56)) (aO (top 56)) (aj (top 56)) .none UH UI UJ UD Mu UK),UE⟩) (e39:PySem.W.codeIn K Mu "law"=true) (k39:PySem.W.keepIn K (.ref UB)=true)
  (z_abs:PySem.W.nsIn K mainGlobals "abs"=some none)
  (z_bool:PySem.W.nsIn K mainGlobals "bool"=some none)
  (z_enumerate:PySem.W.nsIn K mainGlobals "enumerate"=some none)
  (z_int:PySem.W.nsIn K mainGlobals "int"=some none)
  (z_isinstance:PySem.W.nsIn K mainGlobals "isinstance"=some none)
  (z_len:PySem.W.nsIn K mainGlobals "len"=some none)
  (z_list:PySem.W.nsIn K mainGlobals "list"=some none)
  (z_max:PySem.W.nsIn K mainGlobals "max"=some none)
  (z_min:PySem.W.nsIn K mainGlobals "min"=some none)
  (z_range:PySem.W.nsIn K mainGlobals "range"=some none)
  (z_sorted:PySem.W.nsIn K mainGlobals "sorted"=some none)
  (z_sum:PySem.W.nsIn K mainGlobals "sum"=some none)
  (z_tuple:PySem.W.nsIn K mainGlobals "tuple"=some none)
  (z_zip:PySem.W.nsIn K mainGlobals "zip"=some none)
  (c_MOST_THROWS:PySem.W.nsIn K mainGlobals "MOST_THROWS"=some (some (.int 1296 rq)))
  (c_MOST_BOTTOM:PySem.W.nsIn K mainGlobals "MOST_BOTTOM"=some (some (.int 1000000 rA)))
  (c_MOST_STATES:PySem.W.nsIn K mainGlobals "MOST_STATES"=some (some (.int 120 rB)))
  (k_NoShare:PySem.W.nsIn K mainGlobals "NoShare"=some (some (.ref aG)))
  (k_NoTable:PySem.W.nsIn K mainGlobals "NoTable"=some (some (.ref aH)))
  (k_TooMany:PySem.W.nsIn K mainGlobals "TooMany"=some (some (.ref aA)))
  (k_NoWay:PySem.W.nsIn K mainGlobals "NoWay"=some (some (.ref aL)))
  (k_Course:PySem.W.nsIn K mainGlobals "Course"=some (some (.ref af)))
  (k_Finder:PySem.W.nsIn K mainGlobals "Finder"=some (some (.ref au)))
  (x_NoShare:PySem.W.excIn K aG uo mq=true)
  (x_NoTable:PySem.W.excIn K aH uo mq=true)
  (x_TooMany:PySem.W.excIn K aA uo mq=true)
  (x_NoWay:PySem.W.excIn K aL uo mq=true)
  (cl_Coursepg:PySem.W.plainGet K af Str.empty=true)
  (cl_Coursehd:PySem.W.hasDictIn K af=true)
  (cl_Coursepo:PySem.W.plainOver K af=true)
  (cl_Coursesa:PySem.W.findIn K (.ref af) "__setattr__"=some (some (.builtin "object.__setattr__")))
  (cl_Finderpg:PySem.W.plainGet K au Str.empty=true)
  (cl_Finderhd:PySem.W.hasDictIn K au=true)
  (cl_Finderpo:PySem.W.plainOver K au=true)
  (cl_Findersa:PySem.W.findIn K (.ref au) "__setattr__"=some (some (.builtin "object.__setattr__")))
  (na_Course_first:PySem.W.findIn K (.ref af) "first"=some none)
  (na_Course_mosts:PySem.W.findIn K (.ref af) "mosts"=some none)
  (na_Course_spots:PySem.W.findIn K (.ref af) "spots"=some none)
  (na_Course_tables:PySem.W.findIn K (.ref af) "tables"=some none)
  (na_Course_whats:PySem.W.findIn K (.ref af) "whats"=some none)
  (na_Finder_numbers:PySem.W.findIn K (.ref au) "numbers"=some none)
  (na_Finder_states:PySem.W.findIn K (.ref au) "states"=some none)
  (dia_Course:PySem.W.findIn K (.ref af) "__init__"=some (some (.ref jN)))
  (dii_Course:PySem.W.isFn K (.ref jN)=true)
  (dil_Course:K.lookup jN=some ⟨yx,yu,.func (PySem.W.fnOf "__init__" "Course.__init__" (aR (inClass (top 36) 0)) (aO (inClass (top 36) 0)) (aj (inClass (top 36) 0)) .none yA yB yC yv rD yD),yw⟩)
  (dic_Course:PySem.W.codeIn K rD "Course.__init__"=true)
  (dik_Course:PySem.W.keepIn K (.ref jN)=true)
  (dim_Course:PySem.W.makesIn K af=true)
  (diq_Course:PySem.W.keepIn K (.ref af)=true)
  (dia_Finder:PySem.W.findIn K (.ref au) "__init__"=some (some (.ref jO)))
  (dii_Finder:PySem.W.isFn K (.ref jO)=true)
  (dil_Finder:K.lookup jO=some ⟨yH,yE,.func (PySem.W.fnOf "__init__" "Finder.__init__" (aR (inClass (top 37) 0)) (aO (inClass (top 37) 0)) (aj (inClass (top 37) 0)) .none yI yJ yK yF rE yL),yG⟩)
  (dic_Finder:PySem.W.codeIn K rE "Finder.__init__"=true)
  (dik_Finder:PySem.W.keepIn K (.ref jO)=true)
  (dim_Finder:PySem.W.makesIn K au=true)
  (diq_Finder:PySem.W.keepIn K (.ref au)=true)
  (dma_Course_asked:PySem.W.findIn K (.ref af) "asked"=some (some (.ref dR)))
  (dmi_Course_asked:PySem.W.isFn K (.ref dR)=true)
  (dml_Course_asked:K.lookup dR=some ⟨oh,n9,.func (PySem.W.fnOf "asked" "Course.asked" (aR (inClass (top 36) 3)) (aO (inClass (top 36) 3)) (aj (inClass (top 36) 3)) .none oi oj om oa hJ oq),og⟩)
  (dmc_Course_asked:PySem.W.codeIn K hJ "Course.asked"=true)
  (dmk_Course_asked:PySem.W.keepIn K (.ref dR)=true)
  (dma_Course_by_row:PySem.W.findIn K (.ref af) "by_row"=some (some (.ref dD)))
  (dmi_Course_by_row:PySem.W.isFn K (.ref dD)=true)
  (dml_Course_by_row:K.lookup dD=some ⟨ng,m7,.func (PySem.W.fnOf "by_row" "Course.by_row" (aR (inClass (top 36) 6)) (aO (inClass (top 36) 6)) (aj (inClass (top 36) 6)) .none nh ni nj m8 gF nv),m9⟩)
  (dmc_Course_by_row:PySem.W.codeIn K gF "Course.by_row"=true)
  (dmk_Course_by_row:PySem.W.keepIn K (.ref dD)=true)
  (dma_Course_by_value:PySem.W.findIn K (.ref af) "by_value"=some (some (.ref df)))
  (dmi_Course_by_value:PySem.W.isFn K (.ref df)=true)
  (dml_Course_by_value:K.lookup df=some ⟨j0,jX,.func (PySem.W.fnOf "by_value" "Course.by_value" (aR (inClass (top 36) 7)) (aO (inClass (top 36) 7)) (aj (inClass (top 36) 7)) .none j1 j2 j3 jY fE j4),jZ⟩)
  (dmc_Course_by_value:PySem.W.codeIn K fE "Course.by_value"=true)
  (dmk_Course_by_value:PySem.W.keepIn K (.ref df)=true)
  (dma_Course_do:PySem.W.findIn K (.ref af) "do"=some (some (.ref fN)))
  (dmi_Course_do:PySem.W.isFn K (.ref fN)=true)
  (dml_Course_do:K.lookup fN=some ⟨sM,sI,.func (PySem.W.fnOf "do" "Course.do" (aR (inClass (top 36) 2)) (aO (inClass (top 36) 2)) (aj (inClass (top 36) 2)) .none sN sO sP sJ kZ sQ),sL⟩)
  (dmc_Course_do:PySem.W.codeIn K kZ "Course.do"=true)
  (dmk_Course_do:PySem.W.keepIn K (.ref fN)=true)
  (dma_Course_end_worth:PySem.W.findIn K (.ref af) "end_worth"=some (some (.ref cR)))
  (dmi_Course_end_worth:PySem.W.isFn K (.ref cR)=true)
  (dml_Course_end_worth:K.lookup cR=some ⟨jn,jj,.func (PySem.W.fnOf "end_worth" "Course.end_worth" (aR (inClass (top 36) 12)) (aO (inClass (top 36) 12)) (aj (inClass (top 36) 12)) .none jo jq jr jk eZ js),jl⟩)
  (dmc_Course_end_worth:PySem.W.codeIn K eZ "Course.end_worth"=true)
  (dmk_Course_end_worth:PySem.W.keepIn K (.ref cR)=true)
  (dma_Course_holds:PySem.W.findIn K (.ref af) "holds"=some (some (.ref dU)))
  (dmi_Course_holds:PySem.W.isFn K (.ref dU)=true)
  (dml_Course_holds:K.lookup dU=some ⟨oz,ou,.func (PySem.W.fnOf "holds" "Course.holds" (aR (inClass (top 36) 9)) (aO (inClass (top 36) 9)) (aj (inClass (top 36) 9)) .none oA oB oE ox hU oF),oy⟩)
  (dmc_Course_holds:PySem.W.codeIn K hU "Course.holds"=true)
  (dmk_Course_holds:PySem.W.keepIn K (.ref dU)=true)
  (dma_Course_open_rows:PySem.W.findIn K (.ref af) "open_rows"=some (some (.ref cS)))
  (dmi_Course_open_rows:PySem.W.isFn K (.ref cS)=true)
  (dml_Course_open_rows:K.lookup cS=some ⟨jw,jt,.func (PySem.W.fnOf "open_rows" "Course.open_rows" (aR (inClass (top 36) 10)) (aO (inClass (top 36) 10)) (aj (inClass (top 36) 10)) .none jx jy jz ju fb jA),jv⟩)
  (dmc_Course_open_rows:PySem.W.codeIn K fb "Course.open_rows"=true)
  (dmk_Course_open_rows:PySem.W.keepIn K (.ref cS)=true)
  (dma_Course_put:PySem.W.findIn K (.ref af) "put"=some (some (.ref eW)))
  (dmi_Course_put:PySem.W.isFn K (.ref eW)=true)
  (dml_Course_put:K.lookup eW=some ⟨rJ,rF,.func (PySem.W.fnOf "put" "Course.put" (aR (inClass (top 36) 1)) (aO (inClass (top 36) 1)) (aj (inClass (top 36) 1)) .none rK rL rM rG jB rN),rH⟩)
  (dmc_Course_put:PySem.W.codeIn K jB "Course.put"=true)
  (dmk_Course_put:PySem.W.keepIn K (.ref eW)=true)
  (dma_Course_start:PySem.W.findIn K (.ref af) "start"=some (some (.ref dW)))
  (dmi_Course_start:PySem.W.isFn K (.ref dW)=true)
  (dml_Course_start:K.lookup dW=some ⟨oK,oG,.func (PySem.W.fnOf "start" "Course.start" (aR (inClass (top 36) 4)) (aO (inClass (top 36) 4)) (aj (inClass (top 36) 4)) .none oM oN oO oH hV oP),oJ⟩)
  (dmc_Course_start:PySem.W.codeIn K hV "Course.start"=true)
  (dmk_Course_start:PySem.W.keepIn K (.ref dW)=true)
  (dma_Course_table_at:PySem.W.findIn K (.ref af) "table_at"=some (some (.ref dg)))
  (dmi_Course_table_at:PySem.W.isFn K (.ref dg)=true)
  (dml_Course_table_at:K.lookup dg=some ⟨j8,j5,.func (PySem.W.fnOf "table_at" "Course.table_at" (aR (inClass (top 36) 8)) (aO (inClass (top 36) 8)) (aj (inClass (top 36) 8)) .none j9 ka kc j6 fF ke),j7⟩)
  (dmc_Course_table_at:PySem.W.codeIn K fF "Course.table_at"=true)
  (dmk_Course_table_at:PySem.W.keepIn K (.ref dg)=true)
  (dma_Course_what_at:PySem.W.findIn K (.ref af) "what_at"=some (some (.ref dr)))
  (dmi_Course_what_at:PySem.W.isFn K (.ref dr)=true)
  (dml_Course_what_at:K.lookup dr=some ⟨lX,lU,.func (PySem.W.fnOf "what_at" "Course.what_at" (aR (inClass (top 36) 5)) (aO (inClass (top 36) 5)) (aj (inClass (top 36) 5)) .none lY lZ ma lV gq md),lW⟩)
  (dmc_Course_what_at:PySem.W.codeIn K gq "Course.what_at"=true)
  (dmk_Course_what_at:PySem.W.keepIn K (.ref dr)=true)
  (dma_Course_words_at:PySem.W.findIn K (.ref af) "words_at"=some (some (.ref dh)))
  (dmi_Course_words_at:PySem.W.isFn K (.ref dh)=true)
  (dml_Course_words_at:K.lookup dh=some ⟨kj,kf,.func (PySem.W.fnOf "words_at" "Course.words_at" (aR (inClass (top 36) 11)) (aO (inClass (top 36) 11)) (aj (inClass (top 36) 11)) .none kl ko ku kh fG ky),ki⟩)
  (dmc_Course_words_at:PySem.W.codeIn K fG "Course.words_at"=true)
  (dmk_Course_words_at:PySem.W.keepIn K (.ref dh)=true)
  (dma_Finder_number_of:PySem.W.findIn K (.ref au) "number_of"=some (some (.ref cU)))
  (dmi_Finder_number_of:PySem.W.isFn K (.ref cU)=true)
  (dml_Finder_number_of:K.lookup cU=some ⟨jF,jC,.func (PySem.W.fnOf "number_of" "Finder.number_of" (aR (inClass (top 37) 1)) (aO (inClass (top 37) 1)) (aj (inClass (top 37) 1)) .none jG jH jI jD fc jJ),jE⟩)
  (dmc_Finder_number_of:PySem.W.codeIn K fc "Finder.number_of"=true)
  (dmk_Finder_number_of:PySem.W.keepIn K (.ref cU)=true)
  :∃fd:FuncData,(∀(s:Shared) (v:Value),BindsTo s fd ⟨[v],[]⟩ [("_law_script",v)])/\∀base:Heap,K.In base->base.Ns mainGlobals mg->fH l.prog w K mg base (bC l.prog w) 30 fa fd ["_law_script"] (zM K):=by
 have e:=Zl.symm.trans (aag X G a39)
 cases e
 have T:Txt K mg aG aH aA aL af au:=⟨aaH X G z_abs,aaH X G z_bool,aaH X G z_enumerate,aaH X G z_int,aaH X G z_isinstance,aaH X G z_len,aaH X G z_list,aaH X G z_max,aaH X G z_min,aaH X G z_range,aaH X G z_sorted,aaH X G z_sum,aaH X G z_tuple,aaH X G z_zip,⟨_,_,bj l0 e0 k0,aag X G a0⟩,⟨_,_,bj l1 e1 k1,aag X G a1⟩,⟨_,_,bj l2 e2 k2,aag X G a2⟩,⟨_,_,bj l3 e3 k3,aag X G a3⟩,⟨_,_,bj l4 e4 k4,aag X G a4⟩,⟨_,_,bj l5 e5 k5,aag X G a5⟩,⟨_,_,bj l6 e6 k6,aag X G a6⟩,⟨_,_,bj l7 e7 k7,aag X G a7⟩,⟨_,_,bj l8 e8 k8,aag X G a8⟩,⟨_,_,bj l9 e9 k9,aag X G a9⟩,⟨_,_,bj l10 e10 k10,aag X G a10⟩,⟨_,_,bj l11 e11 k11,aag X G a11⟩,⟨_,_,bj l12 e12 k12,aag X G a12⟩,⟨_,_,bj l13 e13 k13,aag X G a13⟩,⟨_,_,bj l14 e14 k14,aag X G a14⟩,⟨_,_,bj l15 e15 k15,aag X G a15⟩,⟨_,_,bj l16 e16 k16,aag X G a16⟩,⟨_,_,bj l17 e17 k17,aag X G a17⟩,⟨_,_,bj l18 e18 k18,aag X G a18⟩,⟨_,_,bj l19 e19 k19,aag X G a19⟩,⟨_,_,bj l20 e20 k20,aag X G a20⟩,⟨_,_,bj l21 e21 k21,aag X G a21⟩,⟨_,_,bj l22 e22 k22,aag X G a22⟩,⟨_,_,bj l23 e23 k23,aag X G a23⟩,⟨_,_,bj l24 e24 k24,aag X G a24⟩,⟨_,_,bj l25 e25 k25,aag X G a25⟩,⟨_,_,bj l26 e26 k26,aag X G a26⟩,⟨_,_,bj l27 e27 k27,aag X G a27⟩,⟨_,_,bj l28 e28 k28,aag X G a28⟩,⟨_,_,bj l29 e29 k29,aag X G a29⟩,⟨_,_,bj l30 e30 k30,aag X G a30⟩,⟨_,_,bj l31 e31 k31,aag X G a31⟩,⟨_,_,bj l32 e32 k32,aag X G a32⟩,⟨_,_,bj l33 e33 k33,aag X G a33⟩,⟨_,_,bj l34 e34 k34,aag X G a34⟩,⟨_,_,bj l35 e35 k35,aag X G a35⟩,⟨_,_,bj l36 e36 k36,aag X G a36⟩,⟨_,_,bj l37 e37 k37,aag X G a37⟩,⟨_,_,bj l38 e38 k38,aag X G a38⟩,⟨_,aag X G c_MOST_THROWS⟩,⟨_,aag X G c_MOST_BOTTOM⟩,⟨_,aag X G c_MOST_STATES⟩,aag X G k_NoShare,aag X G k_NoTable,aag X G k_TooMany,aag X G k_NoWay,aag X G k_Course,aag X G k_Finder,x_NoShare,x_NoTable,x_TooMany,x_NoWay,⟨cl_Coursepg,cl_Coursehd,cl_Coursepo,cl_Coursesa⟩,⟨cl_Finderpg,cl_Finderhd,cl_Finderpo,cl_Findersa⟩,na_Course_first,na_Course_mosts,na_Course_spots,na_Course_tables,na_Course_whats,na_Finder_numbers,na_Finder_states,⟨_,_,bj dil_Course dic_Course dik_Course,⟨dim_Course,dia_Course,dii_Course,diq_Course⟩,aag X G k_Course⟩,⟨_,_,bj dil_Finder dic_Finder dik_Finder,⟨dim_Finder,dia_Finder,dii_Finder,diq_Finder⟩,aag X G k_Finder⟩,⟨_,_,bj dml_Course_asked dmc_Course_asked dmk_Course_asked,⟨dma_Course_asked,dmi_Course_asked,dmk_Course_asked⟩⟩,⟨_,_,bj dml_Course_by_row dmc_Course_by_row dmk_Course_by_row,⟨dma_Course_by_row,dmi_Course_by_row,dmk_Course_by_row⟩⟩,⟨_,_,bj dml_Course_by_value dmc_Course_by_value dmk_Course_by_value,⟨dma_Course_by_value,dmi_Course_by_value,dmk_Course_by_value⟩⟩,⟨_,_,bj dml_Course_do dmc_Course_do dmk_Course_do,⟨dma_Course_do,dmi_Course_do,dmk_Course_do⟩⟩,⟨_,_,bj dml_Course_end_worth dmc_Course_end_worth dmk_Course_end_worth,⟨dma_Course_end_worth,dmi_Course_end_worth,dmk_Course_end_worth⟩⟩,⟨_,_,bj dml_Course_holds dmc_Course_holds dmk_Course_holds,⟨dma_Course_holds,dmi_Course_holds,dmk_Course_holds⟩⟩,⟨_,_,bj dml_Course_open_rows dmc_Course_open_rows dmk_Course_open_rows,⟨dma_Course_open_rows,dmi_Course_open_rows,dmk_Course_open_rows⟩⟩,⟨_,_,bj dml_Course_put dmc_Course_put dmk_Course_put,⟨dma_Course_put,dmi_Course_put,dmk_Course_put⟩⟩,⟨_,_,bj dml_Course_start dmc_Course_start dmk_Course_start,⟨dma_Course_start,dmi_Course_start,dmk_Course_start⟩⟩,⟨_,_,bj dml_Course_table_at dmc_Course_table_at dmk_Course_table_at,⟨dma_Course_table_at,dmi_Course_table_at,dmk_Course_table_at⟩⟩,⟨_,_,bj dml_Course_what_at dmc_Course_what_at dmk_Course_what_at,⟨dma_Course_what_at,dmi_Course_what_at,dmk_Course_what_at⟩⟩,⟨_,_,bj dml_Course_words_at dmc_Course_words_at dmk_Course_words_at,⟨dma_Course_words_at,dmi_Course_words_at,dmk_Course_words_at⟩⟩,⟨_,_,bj dml_Finder_number_of dmc_Finder_number_of dmk_Finder_number_of,⟨dma_Finder_number_of,dmi_Finder_number_of,dmk_Finder_number_of⟩⟩⟩
 exact⟨_,λs v=>.of_eq rfl,λbase _ _=>(IW T (bj l39 e39 k39)).mono (by decide)⟩
theorem walk {l:PySem.W.OpenLaw} {q:Program} {loose:List Str} {XP:(Str->Option Value)->Heap->Prop} {YP:World->Heap->Prop} {d:DefRec} {K:Params->PySem.W.Frag} (hn:l.most=some 63) (J1:d.params.defaults=[])
  (hY:∀(w:World) (h:Heap),YP w h->(K w.params).In h)
  (F:∀(w:World) (mg:Str->Option Value) (fa:Addr) (h:Heap),(K w.params).In h->h.Ns mainGlobals mg->mg d.name=some (.ref fa)->
   ∃fd:FuncData,(∀(s:Shared) (u:Value),BindsTo s fd ⟨[u],[]⟩ [("_law_script",u)])/\∀base:Heap,(K w.params).In base->base.Ns mainGlobals mg->fH l.prog w (K w.params) mg base (bC l.prog w) 30 fa fd ["_law_script"] (zM (K w.params))):
  PySem.W.WalkO q loose XP YP l.row.toRowW d [] (λf vs=>PySem.call f vs):=
 L2.Eh (n:=63) (k:=30) (x:="_law_script") (CX:=λw=>bC l.prog w) (sp:=λw=>zM (K w.params)) hn (by decide) J1 ⟨rfl,by decide,by decide⟩ hY F (λ_ _ a ns hl _ hS=>⟨a,ns,rfl,hS,hl,λ_=>rfl⟩) λ_ _ _ _ _ z=>(y9 _ _) _ _ _ _ _ z
end K64
open PySem PySem.W PyProof.Rows
set_option maxRecDepth 100000 in
set_option maxHeartbeats 0 in
theorem PySem.Challenge.cw_pressluck_k64_picks_of_a_rule_holds : PySem.Challenge.rw_pressluck_k64_picks_of_a_rule.Holds := by
  w_on; refine holds_law (by decide +kernel) fun aaa => ?_
  refine holds_open (q := K64.vw) (loose := []) (Xt := (fun s => xlAt K64.vw [] s && recOk (RowW.records (OpenRow.toRowW (PySem.W.OpenLaw.row PySem.Challenge.rw_pressluck_k64_picks_of_a_rule))) s)) (XP := XL K64.vw []) (Yf := Hook.obs (kHook K64.pre.heap_1 K64.FA K64.GD)) (Ya := Hook.val (kHook K64.pre.heap_1 K64.FA K64.GD)) (YP := Hook.says (kHook K64.pre.heap_1 K64.FA K64.GD)) (N := 6562) (Hd.zQ (by kernel_rfl) (by decide) (fun s => by kernel_rfl) K64.run) (Hook.of (kHook K64.pre.heap_1 K64.FA K64.GD)) (Hook.keeps (kHook K64.pre.heap_1 K64.FA K64.GD)) (fun s e => xl_of s (Bool.and_eq_true_iff.mp e).1) XL.keeps (by rfl) (by rfl) (by rfl) (fun s e => recFacts_of (Bool.and_eq_true_iff.mp e).2) (by rfl) (by first | assumption | decide +kernel) (by decide +kernel) ⟨rfl, rfl, rfl, rfl, rfl, by decide +kernel⟩ ?hw ?hc
  (case hw => w_witness2)
  k_fill
  refine K64.walk (l := PySem.Challenge.rw_pressluck_k64_picks_of_a_rule) rfl rfl (fun w h Y => PySem.W.kIn_of Y) ?F
  case F =>
    intro w mg fa h KX G J2
    refine' K64.all_mk KX G J2 ?a0 ?l0 ?e0 ?k0 ?a1 ?l1 ?e1 ?k1 ?a2 ?l2 ?e2 ?k2 ?a3 ?l3 ?e3 ?k3 ?a4 ?l4 ?e4 ?k4 ?a5 ?l5 ?e5 ?k5 ?a6 ?l6 ?e6 ?k6 ?a7 ?l7 ?e7 ?k7 ?a8 ?l8 ?e8 ?k8 ?a9 ?l9 ?e9 ?k9 ?a10 ?l10 ?e10 ?k10 ?a11 ?l11 ?e11 ?k11 ?a12 ?l12 ?e12 ?k12 ?a13 ?l13 ?e13 ?k13 ?a14 ?l14 ?e14 ?k14 ?a15 ?l15 ?e15 ?k15 ?a16 ?l16 ?e16 ?k16 ?a17 ?l17 ?e17 ?k17 ?a18 ?l18 ?e18 ?k18 ?a19 ?l19 ?e19 ?k19 ?a20 ?l20 ?e20 ?k20 ?a21 ?l21 ?e21 ?k21 ?a22 ?l22 ?e22 ?k22 ?a23 ?l23 ?e23 ?k23 ?a24 ?l24 ?e24 ?k24 ?a25 ?l25 ?e25 ?k25 ?a26 ?l26 ?e26 ?k26 ?a27 ?l27 ?e27 ?k27 ?a28 ?l28 ?e28 ?k28 ?a29 ?l29 ?e29 ?k29 ?a30 ?l30 ?e30 ?k30 ?a31 ?l31 ?e31 ?k31 ?a32 ?l32 ?e32 ?k32 ?a33 ?l33 ?e33 ?k33 ?a34 ?l34 ?e34 ?k34 ?a35 ?l35 ?e35 ?k35 ?a36 ?l36 ?e36 ?k36 ?a37 ?l37 ?e37 ?k37 ?a38 ?l38 ?e38 ?k38 ?a39 ?l39 ?e39 ?k39 ?z_abs ?z_bool ?z_enumerate ?z_int ?z_isinstance ?z_len ?z_list ?z_max ?z_min ?z_range ?z_sorted ?z_sum ?z_tuple ?z_zip ?c_MOST_THROWS ?c_MOST_BOTTOM ?c_MOST_STATES ?k_NoShare ?k_NoTable ?k_TooMany ?k_NoWay ?k_Course ?k_Finder ?x_NoShare ?x_NoTable ?x_TooMany ?x_NoWay ?cl_Coursepg ?cl_Coursehd ?cl_Coursepo ?cl_Coursesa ?cl_Finderpg ?cl_Finderhd ?cl_Finderpo ?cl_Findersa ?na_Course_first ?na_Course_mosts ?na_Course_spots ?na_Course_tables ?na_Course_whats ?na_Finder_numbers ?na_Finder_states ?dia_Course ?dii_Course ?dil_Course ?dic_Course ?dik_Course ?dim_Course ?diq_Course ?dia_Finder ?dii_Finder ?dil_Finder ?dic_Finder ?dik_Finder ?dim_Finder ?diq_Finder ?dma_Course_asked ?dmi_Course_asked ?dml_Course_asked ?dmc_Course_asked ?dmk_Course_asked ?dma_Course_by_row ?dmi_Course_by_row ?dml_Course_by_row ?dmc_Course_by_row ?dmk_Course_by_row ?dma_Course_by_value ?dmi_Course_by_value ?dml_Course_by_value ?dmc_Course_by_value ?dmk_Course_by_value ?dma_Course_do ?dmi_Course_do ?dml_Course_do ?dmc_Course_do ?dmk_Course_do ?dma_Course_end_worth ?dmi_Course_end_worth ?dml_Course_end_worth ?dmc_Course_end_worth ?dmk_Course_end_worth ?dma_Course_holds ?dmi_Course_holds ?dml_Course_holds ?dmc_Course_holds ?dmk_Course_holds ?dma_Course_open_rows ?dmi_Course_open_rows ?dml_Course_open_rows ?dmc_Course_open_rows ?dmk_Course_open_rows ?dma_Course_put ?dmi_Course_put ?dml_Course_put ?dmc_Course_put ?dmk_Course_put ?dma_Course_start ?dmi_Course_start ?dml_Course_start ?dmc_Course_start ?dmk_Course_start ?dma_Course_table_at ?dmi_Course_table_at ?dml_Course_table_at ?dmc_Course_table_at ?dmk_Course_table_at ?dma_Course_what_at ?dmi_Course_what_at ?dml_Course_what_at ?dmc_Course_what_at ?dmk_Course_what_at ?dma_Course_words_at ?dmi_Course_words_at ?dml_Course_words_at ?dmc_Course_words_at ?dmk_Course_words_at ?dma_Finder_number_of ?dmi_Finder_number_of ?dml_Finder_number_of ?dmc_Finder_number_of ?dmk_Finder_number_of
    (case a0 => k_is)
    (case l0 => k_is)
    (case e0 => k_is)
    (case k0 => k_is)
    (case a1 => k_is)
    (case l1 => k_is)
    (case e1 => k_is)
    (case k1 => k_is)
    (case a2 => k_is)
    (case l2 => k_is)
    (case e2 => k_is)
    (case k2 => k_is)
    (case a3 => k_is)
    (case l3 => k_is)
    (case e3 => k_is)
    (case k3 => k_is)
    (case a4 => k_is)
    (case l4 => k_is)
    (case e4 => k_is)
    (case k4 => k_is)
    (case a5 => k_is)
    (case l5 => k_is)
    (case e5 => k_is)
    (case k5 => k_is)
    (case a6 => k_is)
    (case l6 => k_is)
    (case e6 => k_is)
    (case k6 => k_is)
    (case a7 => k_is)
    (case l7 => k_is)
    (case e7 => k_is)
    (case k7 => k_is)
    (case a8 => k_is)
    (case l8 => k_is)
    (case e8 => k_is)
    (case k8 => k_is)
    (case a9 => k_is)
    (case l9 => k_is)
    (case e9 => k_is)
    (case k9 => k_is)
    (case a10 => k_is)
    (case l10 => k_is)
    (case e10 => k_is)
    (case k10 => k_is)
    (case a11 => k_is)
    (case l11 => k_is)
    (case e11 => k_is)
    (case k11 => k_is)
    (case a12 => k_is)
    (case l12 => k_is)
    (case e12 => k_is)
    (case k12 => k_is)
    (case a13 => k_is)
    (case l13 => k_is)
    (case e13 => k_is)
    (case k13 => k_is)
    (case a14 => k_is)
    (case l14 => k_is)
    (case e14 => k_is)
    (case k14 => k_is)
    (case a15 => k_is)
    (case l15 => k_is)
    (case e15 => k_is)
    (case k15 => k_is)
    (case a16 => k_is)
    (case l16 => k_is)
    (case e16 => k_is)
    (case k16 => k_is)
    (case a17 => k_is)
    (case l17 => k_is)
    (case e17 => k_is)
    (case k17 => k_is)
    (case a18 => k_is)
    (case l18 => k_is)
    (case e18 => k_is)
    (case k18 => k_is)
    (case a19 => k_is)
    (case l19 => k_is)
    (case e19 => k_is)
    (case k19 => k_is)
    (case a20 => k_is)
    (case l20 => k_is)
    (case e20 => k_is)
    (case k20 => k_is)
    (case a21 => k_is)
    (case l21 => k_is)
    (case e21 => k_is)
    (case k21 => k_is)
    (case a22 => k_is)
    (case l22 => k_is)
    (case e22 => k_is)
    (case k22 => k_is)
    (case a23 => k_is)
    (case l23 => k_is)
    (case e23 => k_is)
    (case k23 => k_is)
    (case a24 => k_is)
    (case l24 => k_is)
    (case e24 => k_is)
    (case k24 => k_is)
    (case a25 => k_is)
    (case l25 => k_is)
    (case e25 => k_is)
    (case k25 => k_is)
    (case a26 => k_is)
    (case l26 => k_is)
    (case e26 => k_is)
    (case k26 => k_is)
    (case a27 => k_is)
    (case l27 => k_is)
    (case e27 => k_is)
    (case k27 => k_is)
    (case a28 => k_is)
    (case l28 => k_is)
    (case e28 => k_is)
    (case k28 => k_is)
    (case a29 => k_is)
    (case l29 => k_is)
    (case e29 => k_is)
    (case k29 => k_is)
    (case a30 => k_is)
    (case l30 => k_is)
    (case e30 => k_is)
    (case k30 => k_is)
    (case a31 => k_is)
    (case l31 => k_is)
    (case e31 => k_is)
    (case k31 => k_is)
    (case a32 => k_is)
    (case l32 => k_is)
    (case e32 => k_is)
    (case k32 => k_is)
    (case a33 => k_is)
    (case l33 => k_is)
    (case e33 => k_is)
    (case k33 => k_is)
    (case a34 => k_is)
    (case l34 => k_is)
    (case e34 => k_is)
    (case k34 => k_is)
    (case a35 => k_is)
    (case l35 => k_is)
    (case e35 => k_is)
    (case k35 => k_is)
    (case a36 => k_is)
    (case l36 => k_is)
    (case e36 => k_is)
    (case k36 => k_is)
    (case a37 => k_is)
    (case l37 => k_is)
    (case e37 => k_is)
    (case k37 => k_is)
    (case a38 => k_is)
    (case l38 => k_is)
    (case e38 => k_is)
    (case k38 => k_is)
    (case a39 => k_is)
    (case l39 => k_is)
    (case e39 => k_is)
    (case k39 => k_is)
    (case z_abs => k_is)
    (case z_bool => k_is)
    (case z_enumerate => k_is)
    (case z_int => k_is)
    (case z_isinstance => k_is)
    (case z_len => k_is)
    (case z_list => k_is)
    (case z_max => k_is)
    (case z_min => k_is)
    (case z_range => k_is)
    (case z_sorted => k_is)
    (case z_sum => k_is)
    (case z_tuple => k_is)
    (case z_zip => k_is)
    (case c_MOST_THROWS => k_is)
    (case c_MOST_BOTTOM => k_is)
    (case c_MOST_STATES => k_is)
    (case k_NoShare => k_is)
    (case k_NoTable => k_is)
    (case k_TooMany => k_is)
    (case k_NoWay => k_is)
    (case k_Course => k_is)
    (case k_Finder => k_is)
    (case x_NoShare => first | k_is | kit_is | kernel_rfl)
    (case x_NoTable => first | k_is | kit_is | kernel_rfl)
    (case x_TooMany => first | k_is | kit_is | kernel_rfl)
    (case x_NoWay => first | k_is | kit_is | kernel_rfl)
    (case cl_Coursepg => k_is)
    (case cl_Coursehd => k_is)
    (case cl_Coursepo => k_is)
    (case cl_Coursesa => k_is)
    (case cl_Finderpg => k_is)
    (case cl_Finderhd => k_is)
    (case cl_Finderpo => k_is)
    (case cl_Findersa => k_is)
    (case na_Course_first => k_is)
    (case na_Course_mosts => k_is)
    (case na_Course_spots => k_is)
    (case na_Course_tables => k_is)
    (case na_Course_whats => k_is)
    (case na_Finder_numbers => k_is)
    (case na_Finder_states => k_is)
    (case dia_Course => k_is)
    (case dii_Course => k_is)
    (case dil_Course => k_is)
    (case dic_Course => k_is)
    (case dik_Course => k_is)
    (case dim_Course => k_is)
    (case diq_Course => k_is)
    (case dia_Finder => k_is)
    (case dii_Finder => k_is)
    (case dil_Finder => k_is)
    (case dic_Finder => k_is)
    (case dik_Finder => k_is)
    (case dim_Finder => k_is)
    (case diq_Finder => k_is)
    (case dma_Course_asked => k_is)
    (case dmi_Course_asked => k_is)
    (case dml_Course_asked => k_is)
    (case dmc_Course_asked => k_is)
    (case dmk_Course_asked => k_is)
    (case dma_Course_by_row => k_is)
    (case dmi_Course_by_row => k_is)
    (case dml_Course_by_row => k_is)
    (case dmc_Course_by_row => k_is)
    (case dmk_Course_by_row => k_is)
    (case dma_Course_by_value => k_is)
    (case dmi_Course_by_value => k_is)
    (case dml_Course_by_value => k_is)
    (case dmc_Course_by_value => k_is)
    (case dmk_Course_by_value => k_is)
    (case dma_Course_do => k_is)
    (case dmi_Course_do => k_is)
    (case dml_Course_do => k_is)
    (case dmc_Course_do => k_is)
    (case dmk_Course_do => k_is)
    (case dma_Course_end_worth => k_is)
    (case dmi_Course_end_worth => k_is)
    (case dml_Course_end_worth => k_is)
    (case dmc_Course_end_worth => k_is)
    (case dmk_Course_end_worth => k_is)
    (case dma_Course_holds => k_is)
    (case dmi_Course_holds => k_is)
    (case dml_Course_holds => k_is)
    (case dmc_Course_holds => k_is)
    (case dmk_Course_holds => k_is)
    (case dma_Course_open_rows => k_is)
    (case dmi_Course_open_rows => k_is)
    (case dml_Course_open_rows => k_is)
    (case dmc_Course_open_rows => k_is)
    (case dmk_Course_open_rows => k_is)
    (case dma_Course_put => k_is)
    (case dmi_Course_put => k_is)
    (case dml_Course_put => k_is)
    (case dmc_Course_put => k_is)
    (case dmk_Course_put => k_is)
    (case dma_Course_start => k_is)
    (case dmi_Course_start => k_is)
    (case dml_Course_start => k_is)
    (case dmc_Course_start => k_is)
    (case dmk_Course_start => k_is)
    (case dma_Course_table_at => k_is)
    (case dmi_Course_table_at => k_is)
    (case dml_Course_table_at => k_is)
    (case dmc_Course_table_at => k_is)
    (case dmk_Course_table_at => k_is)
    (case dma_Course_what_at => k_is)
    (case dmi_Course_what_at => k_is)
    (case dml_Course_what_at => k_is)
    (case dmc_Course_what_at => k_is)
    (case dmk_Course_what_at => k_is)
    (case dma_Course_words_at => k_is)
    (case dmi_Course_words_at => k_is)
    (case dml_Course_words_at => k_is)
    (case dmc_Course_words_at => k_is)
    (case dmk_Course_words_at => k_is)
    (case dma_Finder_number_of => k_is)
    (case dmi_Finder_number_of => k_is)
    (case dml_Finder_number_of => k_is)
    (case dmc_Finder_number_of => k_is)
    (case dmk_Finder_number_of => k_is)
