import PyProof.Rows.All
import Wide.All
import OpenK.AllK
import Wide.FinOn
import Lean
import PyProof.EqAt
import PyProof.EqKinds
import PyProof.TupleCall
import PyProof.NeKinds
import PySem.Challenge.RW_pressluck_k46_factors_and_signs
set_option Elab.async false
set_option linter.all false
set_option maxRecDepth 100000
theorem aab : type_of% @List.length_map := @List.length_map
theorem aac : type_of% @List.getElem?_eq_getElem := @List.getElem?_eq_getElem
theorem aad : type_of% @List.getElem?_map := @List.getElem?_map
theorem aae : type_of% @List.getD_eq_getElem?_getD := @List.getD_eq_getElem?_getD
theorem aaf : type_of% @List.mem_of_getElem? := @List.mem_of_getElem?
theorem aag : type_of% @Nat.le_refl := @Nat.le_refl
theorem aah : type_of% @Int.toNat_natCast := @Int.toNat_natCast
theorem aai : type_of% @List.mem_cons_self := @List.mem_cons_self
theorem aaj : type_of% @List.mem_cons_of_mem := @List.mem_cons_of_mem
theorem aak : type_of% @List.size_toArray := @List.size_toArray
theorem aal : type_of% @PySem.W.mg_of := @PySem.W.mg_of
theorem aam : type_of% @Nat.ne_of_lt := @Nat.ne_of_lt
theorem aan : type_of% @List.getElem_mem := @List.getElem_mem
theorem aao : type_of% @Nat.le_trans := @Nat.le_trans
theorem aap : type_of% @List.length_cons := @List.length_cons
theorem aaq : type_of% @List.getElem?_eq_none := @List.getElem?_eq_none
theorem aar : type_of% @Nat.zero_le := @Nat.zero_le
theorem aas : type_of% @List.map_cons := @List.map_cons
theorem aat : type_of% @Nat.lt_of_lt_of_le := @Nat.lt_of_lt_of_le
theorem aau : type_of% @List.map_append := @List.map_append
theorem aav : type_of% @Int.eq_ofNat_of_zero_le := @Int.eq_ofNat_of_zero_le
theorem aaw : type_of% @List.getElem?_of_mem := @List.getElem?_of_mem
theorem aax : type_of% @Option.some.inj := @Option.some.inj
theorem aay : type_of% @Bool.false_ne_true := @Bool.false_ne_true
theorem aaz : type_of% @List.length_range := @List.length_range
theorem aaA : type_of% @PySem.boot_len := @PySem.boot_len
theorem aaB : type_of% @Int.mul_comm := @Int.mul_comm
theorem aaC : type_of% @List.take_add_one := @List.take_add_one
theorem aaD : type_of% @List.length_append := @List.length_append
theorem aaE : type_of% @PySem.F.plainAttrs_list := @PySem.F.plainAttrs_list
theorem aaF : type_of% @Nat.lt_irrefl := @Nat.lt_irrefl
theorem aaG : type_of% @List.take_of_length_le := @List.take_of_length_le
theorem aaH : type_of% @List.mem_append_right := @List.mem_append_right
theorem aaI : type_of% @Int.emod_nonneg := @Int.emod_nonneg
theorem aaJ : type_of% @Nat.lt_succ_self := @Nat.lt_succ_self
theorem aaK : type_of% @List.map_nil := @List.map_nil
theorem aaL : type_of% @List.lookup_cons := @List.lookup_cons
theorem aaM : type_of% @List.map_map := @List.map_map
theorem aaN : type_of% @PySem.F.slot_list_append := @PySem.F.slot_list_append
theorem aaO : type_of% @PySem.F.type_list_append := @PySem.F.type_list_append
theorem aaP : type_of% @List.getElem?_set_ne := @List.getElem?_set_ne
theorem aaQ : type_of% @List.length_take := @List.length_take
theorem aaR : type_of% @Bool.and_eq_true := @Bool.and_eq_true
theorem aaS : type_of% @List.ext_getElem? := @List.ext_getElem?
theorem aaT : type_of% @Int.mul_assoc := @Int.mul_assoc
theorem aaU : type_of% @Int.emod_lt_of_pos := @Int.emod_lt_of_pos
theorem aaV : type_of% @List.getElem?_append_right := @List.getElem?_append_right
theorem aaW : type_of% @List.getElem?_append_left := @List.getElem?_append_left
theorem aaX : type_of% @List.length_set := @List.length_set
theorem aaY : type_of% @Int.natAbs_mul := @Int.natAbs_mul
theorem aaZ : type_of% @Nat.zero_add := @Nat.zero_add
theorem aa0 : type_of% @List.getElem?_range := @List.getElem?_range
theorem aa1 : type_of% @List.idxOf_lt_length_of_mem := @List.idxOf_lt_length_of_mem
theorem aa2 : type_of% @List.getElem_of_mem := @List.getElem_of_mem
theorem aa3 : type_of% @List.getElem?_set_self := @List.getElem?_set_self
theorem aa4 : type_of% @List.append_nil := @List.append_nil
theorem aa5 : type_of% @List.getElem_idxOf := @List.getElem_idxOf
theorem aa6 : type_of% @PySem.W.mg_none_of := @PySem.W.mg_none_of
theorem aa7 : type_of% @PySem.mem_of_lookup := @PySem.mem_of_lookup
theorem aa8 : type_of% @List.length_replicate := @List.length_replicate
theorem aa9 : type_of% @List.length_nil := @List.length_nil
theorem aba : type_of% @Nat.not_lt_zero := @Nat.not_lt_zero
theorem abb : type_of% @Nat.lt_of_le_of_lt := @Nat.lt_of_le_of_lt
theorem abc : type_of% @List.set_cons_zero := @List.set_cons_zero
theorem abd : type_of% @List.set_cons_succ := @List.set_cons_succ
theorem abe : type_of% @List.getElem_inj := @List.getElem_inj
theorem abf : type_of% @List.getElem?_cons_succ := @List.getElem?_cons_succ
theorem abg : type_of% @Array.length_toList := @Array.length_toList
theorem abh : type_of% @Nat.pow_le_pow_right := @Nat.pow_le_pow_right
theorem abi : type_of% @Nat.lt_succ_of_lt := @Nat.lt_succ_of_lt
theorem abj : type_of% @List.filterMap_append := @List.filterMap_append
theorem abk : type_of% @List.cons_append := @List.cons_append
theorem abl : type_of% @List.getElem?_cons_zero := @List.getElem?_cons_zero
theorem abm : type_of% @Option.some.injEq := @Option.some.injEq
theorem abn : type_of% @List.length_zipWith := @List.length_zipWith
theorem abo : type_of% @List.mem_append_left := @List.mem_append_left
theorem abp : type_of% @List.map_congr_left := @List.map_congr_left
theorem abq : type_of% @List.replicate_zero := @List.replicate_zero
theorem abr : type_of% @Nat.mul_le_mul_left := @Nat.mul_le_mul_left
theorem abt : type_of% @List.getElem?_zipWith := @List.getElem?_zipWith
namespace Hd
open PySem PySem.W PyProof.Rows
noncomputable def vI (ok:Thread->Bool) (st:SharedT->Thread->Option (SharedT×Thread)) (n:Nat):SharedT->Thread->Option SharedT:=
 @Nat.rec (λ_=>SharedT->Thread->Option SharedT) (λ_ _=>none)
  (λ_ ih s t=>@Bool.rec (λ_=>Option SharedT) (@Bool.rec (λ_=>Option SharedT) none (@Option.rec (SharedT×Thread) (λ_=>Option SharedT) none (λr=>@Prod.rec _ _ (λ_=>Option SharedT) (λa b=>ih a b) r) (st s t)) (ok t)) (some s) (through t)) n
theorem mE {tb:String->Option Builtin} {p:Program} {w:World} {n₀:Nat} {ann:Option Value}:∀(n:Nat) (s:SharedT) (t:Thread) (s':SharedT),vI (stepOk n₀ ann) (stepT (denote tb) p w) n s t=some s'->topRun tb p w n₀ ann n s.abs t=some s'.abs
 | 0,_,_,_,h=>by cases h
 | n+1,s,t,s',h=>by
  unfold topRun
  replace h:@Bool.rec (λ_=>Option SharedT) (@Bool.rec (λ_=>Option SharedT) none (@Option.rec (SharedT×Thread) (λ_=>Option SharedT) none (λr=>@Prod.rec _ _ (λ_=>Option SharedT) (λa b=>vI (stepOk n₀ ann) (stepT (denote tb) p w) n a b) r) (stepT (denote tb) p w s t)) (stepOk n₀ ann t)) (some s) (through t)=some s':=h
  cases ht:through t with
  | true=>rw[ht] at h;cases h;rfl
  | false=>
   rw[ht] at h
   cases hk:stepOk n₀ ann t with
   | false=>rw[hk] at h;cases h
   | true=>
    rw[hk] at h
    cases hs:stepT (denote tb) p w s t with
    | none=>rw[hs] at h;cases h
    | some r=>obtain⟨s₂,t₂⟩:=r;rw[hs] at h;rw[stepT_spec hs];exact mE n s₂ t₂ s' h
noncomputable def bt (P:Params):BT:=((boot_heap P).objs.toList.foldl (fun(x:BT×Nat) o=>(x.1.ins x.2 o,x.2+1)) (.nil,0)).1
noncomputable def yy (w:World) (os:OsState):SharedT:=⟨bt w.params,11,{},Array.mk [],boot_drawn,boot_toks,os⟩
theorem xt (w:World) (os:OsState):(yy w os).abs=⟨boot_heap w.params,Array.mk [],boot_drawn,boot_toks,os⟩:=by kernel_rfl
theorem ur (w:World):((boot_heap w.params).isNs mainGlobals && (Array.mk []:Array GenState).size==0,(boot_heap w.params).objs.size,(boot_heap w.params).nsMap mainGlobals "__annotations__")=(true,11,some (.ref 6)):=by kernel_rfl
theorem yz {p q:Program} {loose:List Str} {Xt:Shared->Bool} {α:Type} {Yf:Shared->α} {Ya:World->α} {N:Nat} {g0:Bool}
  (Ha:∀w:World,(fencedOpening treeTable p w N).map (λs=>(s.heap,s.gens,s.drawn,s.toks))=some (boot_heap w.params,Array.mk [],boot_drawn,boot_toks))
  (run:∀(w:World) (os:OsState),(vI (stepOk 11 (some (.ref 6))) (stepT (denote treeTable) p w) N (yy w os) (topStub p)).map (λs=>((staticsOk (importedModules p.main.body) (boot_heap w.params) s.abs.heap && namesBound p s.abs.heap && gensDone s.abs && laidKept (boot_heap w.params) s.abs.heap),openSeen q loose (importedModules p.main.body) Xt g0 s.abs,Yf s.abs))=some (true,openGood q loose,Ya w)):
  LeftO p q loose Xt Yf Ya N g0:=λw=>by
 obtain⟨⟨h,gs,d,k,os⟩,e,e'⟩:=Option.map_eq_some_iff.mp (Ha w)
 obtain⟨rfl,rfl,rfl,rfl⟩:h=boot_heap w.params/\gs=Array.mk []/\d=boot_drawn/\k=boot_toks:=by simpa using e'
 obtain⟨z1,z2,z3⟩:_/\_/\_:=by simpa only[Prod.mk.injEq] using ur w
 obtain⟨s,r,l⟩:=Option.map_eq_some_iff.mp (run w os)
 obtain⟨l1,l2,l3⟩:_/\_/\_:=by simpa only[Prod.mk.injEq] using l
 have r:=mE _ _ _ _ r
 rw[xt] at r
 have t:topFrom treeTable p w N ⟨boot_heap w.params,Array.mk [],boot_drawn,boot_toks,os⟩=some s.abs:=by
  unfold topFrom
  dsimp only
  rw[z1,z2,z3,r]
  show(match staticsOk (importedModules p.main.body) (boot_heap w.params) s.abs.heap && namesBound p s.abs.heap && gensDone s.abs && laidKept (boot_heap w.params) s.abs.heap with | true=>_ | false=>_)=_
  rw[l1]
 unfold openEnds
 rw[e]
 show((topFrom treeTable p w N ⟨boot_heap w.params,Array.mk [],boot_drawn,boot_toks,os⟩)).map _=_
 rw[t]
 show some (_,_)=_
 rw[l2,l3]
noncomputable def Runs (p q:Program) (loose:List Str) (Xt:Shared->Bool) {α:Type} (Yf:Shared->α) (Ya:World->α) (N:Nat) (g0:Bool) (w:World):Prop:=
 ∀os:OsState,(vI (PySem.W.Fast.tw6613529449190102663 11 (some (.ref 6))) (PySem.W.Fast.tw10156331382660048174 (PySem.W.Fast.tw11892475500146522536 PySem.W.Fast.tw14364793385576792824) p w) N (yy w os) (topStub p)).map (λs=>((staticsOk (importedModules p.main.body) (boot_heap w.params) s.abs.heap && namesBound p s.abs.heap && gensDone s.abs && laidKept (boot_heap w.params) s.abs.heap),PySem.W.Fast.tw4187177175401517315 q loose (importedModules p.main.body) Xt g0 s.abs,Yf s.abs))=some (true,openGood q loose,Ya w)
theorem xu {p q:Program} {loose:List Str} {Xt:Shared->Bool} {α:Type} {Yf:Shared->α} {Ya:World->α} {N:Nat} {g0:Bool}
  (e:opening p=plainProg p.main.scope.names) (hN:Nat.ble 600 N=true) (f:∀s,fenceModules? p s=some s)
  (run:∀w:World,Runs p q loose Xt Yf Ya N g0 w):
  LeftO p q loose Xt Yf Ya N g0:=by
 refine yz (boot_open e hN f) ?_
 unfold Runs at run
 rw[PySem.W.Fast.te6613529449190102663,PySem.W.Fast.te10156331382660048174,PySem.W.Fast.te11892475500146522536,PySem.W.Fast.te14364793385576792824,PySem.W.Fast.te4187177175401517315]
 exact run
end Hd
namespace K46
open PySem PySem.Spec PyProof.Rows
noncomputable def top (i:Nat):Stmt:=PySem.Challenge.pw_pressluck_k46_factors_and_signs.main.body.getD i (.Pass ⟨0,0,0,0⟩)
end K46
section Lc
open PySem PySem.W PyProof.Rows
local macro_rules | `(tactic| o_head $H) => `(tactic| (refine (fun (_ : PySem.W.Hook) => ?_) $H; assumption))
theorem K46.pre (h:PySem.W.OpenRow.Holds (PySem.W.OpenLaw.row PySem.Challenge.rw_pressluck_k46_factors_and_signs)):PySem.W.OpenRow.Holds (PySem.W.OpenLaw.row PySem.Challenge.rw_pressluck_k46_factors_and_signs):=by
 k_head
noncomputable def K46.Dk:List Addr:=[2,3,15,18,19,20,23,24,25,28,29,30,33,34,35,38,39,40,47,48,49,50,53,60,61,62,65,72,74,75,77,78,79,80,81,84,91,92,93,96,98,99,101,102,103,105,106,108,109,110,112,113,115,116,117,119,120,122,123,124,126,127,129,130,131,134,135,136,138,139,141,142,143,146,147,148,150,151,153,154,155,158,159,160,162,163,165,166,167,169,170,172,173,174,176,177,179,180,181,184,185,186,189,190,191,193,194,196,197,205,207,208,210,211,212,215,216,217,220,221,222,223,224,225,226,229,231,232,234,235,236,239,240,241,244,245,246,248,249,251,252,253,256,257,258,261,262,263,265,266,268,269,270,273,274,275,277,278,280,281,282,285,286,287,290,291,292,294,295,297,298,299,301,302,304,305,306,308,309,311,312,320,322,323,325,326,327,329,330,332,333,334,337,338,339,341,342,344,345,346,349,350,358,360,361,363,364,377,379,380,382,383,384,386,387,389,390,391,394,395]
theorem K46.D8 (P:PySem.Params):K46.Dk=(K46.pre.heap_1 P).map (·.1):=by kernel_rfl
noncomputable def K46.vw:PySem.Program:={PySem.Challenge.pw_pressluck_k46_factors_and_signs with main:={PySem.Challenge.pw_pressluck_k46_factors_and_signs.main with body:=[K46.top 1,K46.top 2,K46.top 3,K46.top 4,K46.top 5,K46.top 7,K46.top 8,K46.top 9,K46.top 10,K46.top 12,K46.top 13,K46.top 14,K46.top 16,K46.top 17,K46.top 18,K46.top 19,K46.top 20,K46.top 22,K46.top 23,K46.top 25,K46.top 26,K46.top 27,K46.top 28,K46.top 29,K46.top 30,K46.top 31,K46.top 32,K46.top 33,K46.top 34,K46.top 35,K46.top 36,K46.top 37,K46.top 38,K46.top 40,K46.top 41,K46.top 42,K46.top 43,K46.top 44,K46.top 45,K46.top 47,K46.top 48,K46.top 49,K46.top 50,K46.top 51,K46.top 52,K46.top 53,K46.top 54,K46.top 55,K46.top 56,K46.top 57,K46.top 58,K46.top 59,K46.top 60,K46.top 61,K46.top 62]}}
theorem K46.run (w:World):Hd.Runs (RowW.prog (OpenRow.toRowW (PySem.W.OpenLaw.row PySem.Challenge.rw_pressluck_k46_factors_and_signs))) K46.vw [] (λs=>xlAt K46.vw [] s && recOk (RowW.records (OpenRow.toRowW (PySem.W.OpenLaw.row PySem.Challenge.rw_pressluck_k46_factors_and_signs))) s) (Hook.obs (PySem.W.kmHook K46.pre.heap_1 K46.Dk K46.D8 [156])) (Hook.val (PySem.W.kmHook K46.pre.heap_1 K46.Dk K46.D8 [156])) 5412 true w:=λos=>by kernel_rfl
end Lc
set_option tactic.hygienic false
set_option compiler.extract_closed false
local macro_rules | `(tactic| omega) => `(tactic| lia)
namespace L2
open PySem PySem.Spec PyProof.Rows
abbrev Key:=Sum Int Str
noncomputable def mF:Key->Value->Bool
 | .inl k,v=>Value.isInt k v
 | .inr x,v=>Value.isStrOf x v
noncomputable def Ea (w:World):Key->Int
 | .inl k=>hashInt k
 | .inr x=>hashStr w x
theorem cf:∀{k:Key} {v:Value},mF k v=true->(∃i t,k=Sum.inl i/\v=Value.int i t)\/(∃x t,k=Sum.inr x/\v=Value.str x t)
 | .inl i,v,h=>by
  obtain⟨t,e⟩:=Value.isInt_shape (k:=i) (v:=v) h
  exact .inl ⟨i,t,rfl,e⟩
 | .inr x,v,h=>by
  obtain⟨t,e⟩:=Value.isStrOf_shape (x:=x) (v:=v) h
  exact .inr ⟨x,t,rfl,e⟩
theorem xv (i:Int) (t:Tok):mF (.inl i) (.int i t)=true:=by simp [mF,Value.isInt]
theorem xx (x:Str) (t:Tok):mF (.inr x) (.str x t)=true:=by simp [mF,Value.isStrOf]
theorem Eb (a b:Int):decide ((Sum.inl a:Key)=Sum.inl b)=(a==b):=by
 by_cases e:a=b
 ·subst e;simp
 ·have h:¬(Sum.inl a:Key)=Sum.inl b:=λq=>e (Sum.inl.inj q)
  rw[decide_eq_false h]
  exact(beq_eq_false_iff_ne.mpr e).symm
theorem Ec (a b:Str):decide ((Sum.inr a:Key)=Sum.inr b)=decide (a=b):=by
 by_cases e:a=b
 ·subst e;simp
 ·have h:¬(Sum.inr a:Key)=Sum.inr b:=λq=>e (Sum.inr.inj q)
  rw[decide_eq_false h,decide_eq_false e]
theorem Ed (a:Int) (b:Str):decide ((Sum.inl a:Key)=Sum.inr b)=false:=decide_eq_false (λq=>nomatch q)
theorem Ee (a:Str) (b:Int):decide ((Sum.inr a:Key)=Sum.inl b)=false:=decide_eq_false (λq=>nomatch q)
noncomputable def bY (prog:Program) (w:World):PySem.KeyKind prog w Key where
 is:=mF
 hash:=Ea w
 inj:=λv a b ha hb=>by
  rcases cf ha with ⟨i,t,rfl,rfl⟩ | ⟨x,t,rfl,rfl⟩
  ·rcases cf hb with ⟨j,u,rfl,e⟩ | ⟨y,u,rfl,e⟩
   ·injection e with e1 _;rw[e1]
   ·exact nomatch e
  ·rcases cf hb with ⟨j,u,rfl,e⟩ | ⟨y,u,rfl,e⟩
   ·exact nomatch e
   ·injection e with e1 _;rw[e1]
 byValue:=λk v h=>by
  rcases cf h with ⟨i,t,rfl,rfl⟩ | ⟨x,t,rfl,rfl⟩ <;>rfl
 pyHash:=λhv h=>by
  rcases cf hv with ⟨i,t,rfl,rfl⟩ | ⟨x,t,rfl,rfl⟩
  ·exact wpAny_pyHash_int h
  ·exact wpAny_pyHash_str h
 eqBool:=λhu hv h=>by
  rcases cf hu with ⟨i,t,rfl,rfl⟩ | ⟨x,t,rfl,rfl⟩
  ·rcases cf hv with ⟨j,u,rfl,rfl⟩ | ⟨y,u,rfl,rfl⟩
   ·rw[Eb] at h;exact wpAny_eqBool_int h
   ·rw[Ed] at h;exact SeqAt.EqAt.int_str i t y u _ _ _ _ h
  ·rcases cf hv with ⟨j,u,rfl,rfl⟩ | ⟨y,u,rfl,rfl⟩
   ·rw[Ee] at h;exact SeqAt.EqAt.str_int x t j u _ _ _ _ h
   ·rw[Ec] at h;exact wpAny_eqBool_str h
 «strs»:=λk x t v h=>by
  rcases cf h with ⟨i,u,rfl,e⟩ | ⟨y,u,rfl,e⟩
  ·exact nomatch e
  ·injection e with e1 _
   subst e1
   cases v <;>rfl
theorem rV (prog:Program) (w:World) (i:Int) (t:Tok):(bY prog w).is (.inl i) (.int i t)=true:=xv i t
theorem rW (prog:Program) (w:World) (x:Str) (t:Tok):(bY prog w).is (.inr x) (.str x t)=true:=xx x t
end L2
namespace L2
open PySem PySem.Spec PyProof.Rows
inductive V where
 | cB | bl (b:Bool) | int (i:Int) | str (x:Str) | yt (b:Array UInt8) | GF (b:UInt64) | ref (a:Addr) | ty (n:String)
 deriving DecidableEq
noncomputable def RelV:V->Value->Prop
 | .cB,u=>u=Value.none
 | .bl b,u=>u=Value.bool b
 | .int i,u=>∃t,u=Value.int i t
 | .str x,u=>∃t,u=Value.str x t
 | .yt b,u=>∃t,u=Value.bytes b t
 | .GF b,u=>∃t,u=Value.float b t
 | .ref a,u=>u=Value.ref a
 | .ty n,u=>u=Value.type n
abbrev bu:List V->List Value->Prop:=Paired RelV
theorem bu.length {xs:List V} {us:List Value} (r:bu xs us):xs.length=us.length:=Paired.length r
theorem bu.get:∀{xs:List V} {us:List Value} {i:Nat} {x:V},bu xs us->xs[i]?=some x->∃u,us[i]?=some u/\RelV x u
 | _,_,_,_,.nil,e=>by simp at e
 | _,_,0,_,.cons r _,e=>by simp at e;subst e;exact⟨_,rfl,r⟩
 | _,_,i+1,x,.cons _ t,e=>by
  obtain⟨u,h1,h2⟩:=bu.get (i:=i) (x:=x) t (by simpa using e)
  exact⟨u,by simpa using h1,h2⟩
theorem bu.set {x:V} {u:Value} (r:RelV x u):∀{xs:List V} {us:List Value} (i:Nat),bu xs us->bu (xs.set i x) (us.set i u)
 | _,_,_,.nil=>.nil
 | _,_,0,.cons _ t=>.cons r t
 | _,_,i+1,.cons q t=>.cons q (bu.set r i t)
theorem bu.append:∀{xs ys:List V} {us ws:List Value},bu xs us->bu ys ws->bu (xs++ys) (us++ws)
 | _,_,_,_,.nil,s=>s
 | _,_,_,_,.cons r t,s=>.cons r (bu.append t s)
theorem bu.take:∀{xs:List V} {us:List Value} (n:Nat),bu xs us->bu (xs.take n) (us.take n)
 | _,_,0,_=>.nil
 | _,_,_+1,.nil=>.nil
 | _,_,n+1,.cons r t=>.cons r (bu.take n t)
theorem bu.drop:∀{xs:List V} {us:List Value} (n:Nat),bu xs us->bu (xs.drop n) (us.drop n)
 | _,_,0,r=>r
 | _,_,_+1,.nil=>.nil
 | _,_,n+1,.cons _ t=>bu.drop n t
noncomputable def ib:Option V->Option Value->Prop
 | some v,some u=>RelV v u
 | none,none=>True
 | _,_=>False
noncomputable def KV {κ:Type}:List (κ×V)->List (κ×Value)->Prop:=Paired fun(p:κ×V) (q:κ×Value)=>p.1=q.1/\RelV p.2 q.2
noncomputable def kV:Key->V
 | .inl i=>.int i
 | .inr x=>.str x
inductive HO where
 | lst (xs:List V)
 | tup (xs:List V)
 | dK (kvs:List (Key×V)) | dT (kvs:List (List Key×V))
 | set (S:Int->Bool) (n:Nat)
 | ins (C dx:Addr) (fs:List (Str×V))
 | own (x:Addr)
 | xd (fs:List (Str×V))
 | met (f x:Addr)
 | mG (lo hi:Int)
 | uk (o:Obj) (u:HO)
 | rQ (ps:Array Value)
 | ext (φ:Heap->Prop)
abbrev Hp:=Addr->Option HO
noncomputable def upd (H:Hp) (a:Addr) (o:HO):Hp:=λb=>if b=a then some o else H b
theorem ar {H:Hp} {a:Addr} {o:HO}:upd H a o a=some o:=by unfold upd;rw[if_pos rfl]
theorem aG {H:Hp} {a b:Addr} {o:HO} (h:b≠a):upd H a o b=H b:=by unfold upd;rw[if_neg h]
theorem Bw {H:Hp} {a:Addr} {o u:HO}:upd (upd H a o) a u=upd H a u:=by
 funext b;unfold upd;split <;>rfl
theorem Hb {H:Hp} {a b:Addr} {o u:HO} (h:H a=some o) (h':H b=some u) (d:o≠u):a≠b:=by
 intro e;subst e;rw[h] at h';exact d (aax h')
theorem bA {H:Hp} {a b:Addr} {o:HO} (h:H a=some o) (h':H b=none):a≠b:=by
 intro e;subst e;rw[h] at h';cases h'
noncomputable def TabAt (H:Hp) (h:Heap) (a:Addr) (ps:Array Value):Prop:=∃mo:Array Value,h.get? a=some {cls:=.none,data:=.fields mo}/\
 (mo=#[]\/∃(l c:Value) (c1:Addr) (q:Str) (t:Tok),ps=#[l,c,.str q t]/\mo=#[l,c,.ref c1]/\H c1=some (.own a)/\h.CodeRec (.ref c1) q)
section
variable (P : Program) (w : World)
noncomputable def cI (H:Hp) (h:Heap) (a:Addr):HO->Prop
 | .lst xs=>xs.length<=sizeLine/\∃(aU:List Value) (n:Nat),bu xs aU/\h.get? a=some {cls:=.type "list",data:=.seq aU.toArray n}
 | .tup xs=>xs.length<=sizeLine/\∃aU:List Value,bu xs aU/\IsTup h a aU.toArray
 | .dK kvs=>kvs.length<=sizeLine/\(a==sysModules)=false/\∃vs,KV kvs vs/\h.DictOf (bY P w) a vs
 | .dT kvs=>kvs.length<=sizeLine/\(a==sysModules)=false/\∃xs:List (List Key×Addr×Value),
   Paired (fun(p:List Key×V) (q:List Key×Addr×Value)=>p.1=q.1/\H q.2.1=some (.tup (p.1.map kV))/\RelV p.2 q.2.2) kvs xs/\
   ∃o es ep,h.get? a=some o/\o.ExactDict/\o.data=.dict es ep/\es.toList=xs.map (entryOfKey (tupleKind (bY P w)))/\(xs.map (·.1)).Nodup
 | .set S n=>h.SetOf (intKind P w) a S n
 | .ins C dx fs=>H dx=some (.own a)/\fs.length<=1000/\dx≠a/\h.get? a=some (PySem.W.instObj C dx)/\
   ∃mA,h.Ns1 dx mA/\(∀f,ib (fs.lookup f) (mA f))/\PySem.Within mA (fs.map (·.1))
 | .own _=>∃o,h.get? a=some o
 | .xd fs=>∃mA,h.Ns1 a mA/\∀f,ib (fs.lookup f) (mA f)
 | .mG lo hi=>∃t u v,h.get? a=some {cls:=.type "range",data:=.fields #[.int lo t,.int hi u,.int 1 v]}
 | .uk o u=>h.get? a=some o/\cI H h a u
 | .rQ ps=>TabAt H h a ps
 | .met f x=>h.get? a=some (PySem.W.methodObj (.ref f) (.ref x))
 | .ext φ=>φ h/\(∃o,h.get? a=some o)/\∀h1 h2:Heap,φ h1->(∀o,h1.get? a=some o->h2.get? a=some o)->φ h2
noncomputable def gm (H:Hp) (h:Heap):Prop:=∀a o,H a=some o->cI P w H h a o
end
section
variable {P : Program} {w : World} {H H' : Hp} {h h' : Heap} {a : Addr} {o : HO}
theorem cI.lt (x:cI P w H h a o):a<h.objs.size:=by
 cases o with
 | lst xs=>obtain⟨_,_,_,_,e⟩:=x;exact Heap.lt_size e
 | tup xs=>obtain⟨_,_,_,p⟩:=x;exact p.lt
 | dK kvs=>obtain⟨_,_,_,_,o,_,_,e,_⟩:=x;exact Heap.lt_size e
 | dT kvs=>obtain⟨_,_,_,_,o,_,_,e,_⟩:=x;exact Heap.lt_size e
 | set S n=>obtain⟨o,_,_,_,e,_⟩:=x;exact Heap.lt_size e
 | ins C dx fs=>obtain⟨_,_,_,e,_⟩:=x;exact Heap.lt_size e
 | own y=>obtain⟨_,e⟩:=x;exact Heap.lt_size e
 | xd fs=>obtain⟨_,⟨_,_,_,e,_⟩,_⟩:=x;exact Heap.lt_size e
 | mG lo hi=>obtain⟨_,_,_,e⟩:=x;exact Heap.lt_size e
 | uk ob u=>obtain⟨e,_⟩:=x;exact Heap.lt_size e
 | rQ ps=>obtain⟨_,e,_⟩:=x;exact Heap.lt_size e
 | met f y=>exact Heap.lt_size (show h.get? a=some _ from x)
 | ext φ=>obtain⟨_,⟨_,e⟩,_⟩:=x;exact Heap.lt_size e
theorem Paired.Ef {α β:Type} {F G:α->β->Prop}:∀{l₁:List α} {l₂:List β},Paired F l₁ l₂->(∀a b,F a b->G a b)->Paired G l₁ l₂
 | _,_,.nil,_=>.nil
 | _,_,.cons r t,f=>.cons (f _ _ r) (Paired.Ef t f)
theorem cI.oI (x:cI P w H h a o) (k:∀b u,(b=a\/H b=some (.own a))->h.get? b=some u->h'.get? b=some u)
  (ho:∀b,H b=some (.own a)->H' b=some (.own a)) (ht:∀b xs,H b=some (.tup xs)->H' b=some (.tup xs)):cI P w H' h' a o:=by
 induction o with
 | lst xs=>obtain⟨z,aU,n,r,e⟩:=x;exact⟨z,aU,n,r,k _ _ (.inl rfl) e⟩
 | tup xs=>obtain⟨z,aU,r,ob,e,c⟩:=x;exact⟨z,aU,r,ob,k _ _ (.inl rfl) e,c⟩
 | dK kvs=>obtain⟨z,y,vs,r,ob,es,ep,e,c⟩:=x;exact⟨z,y,vs,r,ob,es,ep,k _ _ (.inl rfl) e,c⟩
 | dT kvs=>
  obtain⟨z,y,xs,r,ob,es,ep,e,c⟩:=x
  exact⟨z,y,xs,Paired.Ef r λp q z=>⟨z.1,ht _ _ z.2.1,z.2.2⟩,ob,es,ep,k _ _ (.inl rfl) e,c⟩
 | set S n=>obtain⟨ob,es,ep,t,e,c⟩:=x;exact⟨ob,es,ep,t,k _ _ (.inl rfl) e,c⟩
 | ins C dx fs=>
  obtain⟨d,z,ne,e,mA,⟨od,es,ep,e2,c⟩,r⟩:=x
  exact⟨ho _ d,z,ne,k _ _ (.inl rfl) e,mA,⟨od,es,ep,k _ _ (.inr d) e2,c⟩,r⟩
 | own y=>obtain⟨ob,e⟩:=x;exact⟨ob,k _ _ (.inl rfl) e⟩
 | xd fs=>obtain⟨mA,⟨od,es,ep,e,c⟩,r⟩:=x;exact⟨mA,⟨od,es,ep,k _ _ (.inl rfl) e,c⟩,r⟩
 | mG lo hi=>obtain⟨t,u,v,e⟩:=x;exact⟨t,u,v,k _ _ (.inl rfl) e⟩
 | uk ob u ih=>obtain⟨e,q⟩:=x;exact⟨k _ _ (.inl rfl) e,ih q⟩
 | rQ ps=>
  obtain⟨mo,e,q⟩:=x
  refine⟨mo,k _ _ (.inl rfl) e,?_⟩
  rcases q with q | ⟨l,c,c1,qn,t,e1,e2,e3,c2,o2,Ld,t2,f1,f2,f3,f4⟩
  ·exact .inl q
  ·cases f1
   exact .inr ⟨l,c,c1,qn,t,e1,e2,ho _ e3,c1,o2,Ld,t2,rfl,k _ _ (.inr e3) f2,f3,f4⟩
 | met f y=>
  have e:h.get? a=some (PySem.W.methodObj (.ref f) (.ref y)):=x
  show h'.get? a=some (PySem.W.methodObj (.ref f) (.ref y))
  exact k a _ (.inl rfl) e
 | ext φ=>obtain⟨p,⟨o,e⟩,st⟩:=x;exact⟨st _ _ p λo q=>k _ _ (.inl rfl) q,⟨o,k _ _ (.inl rfl) e⟩,st⟩
theorem gm.lt (x:gm P w H h) (e:H a=some o):a<h.objs.size:=(x a o e).lt
theorem gm.fresh (x:gm P w H h) (e:h.objs.size<=a):H a=none:=by
 cases q:H a with
 | none=>rfl
 | some u=>exact absurd (aat (x.lt q) e) (aaF _)
theorem gm.kept (x:gm P w H h) (k:∀b u,h.get? b=some u->h'.get? b=some u):gm P w H h':=λa o e=>
 (x a o e).oI (λb u _ q=>k b u q) (λ_ q=>q) λ_ _ q=>q
theorem gm.laid (x:gm P w H h) (k:∀b u,h.get? b=some u->h'.get? b=some u) (hp:h.objs.size<=a) (new:cI P w (upd H a o) h' a o):gm P w (upd H a o) h':=λb u e=>by
 have hn:=x.fresh hp
 by_cases hb:b=a
 ·subst hb;rw[ar] at e;cases e;exact new
 ·rw[aG hb] at e
  exact(x b u e).oI (λc v _ q=>k c v q) (λc q=>by rw[aG (bA q hn)];exact q) λc xs q=>by rw[aG (bA q hn)];exact q
end
noncomputable def Rd (H:Hp) (a:Addr) (u:HO):Prop:=H a=some u\/∃o,H a=some (.uk o u)
theorem Rd.ok {P:Program} {w:World} {H:Hp} {h:Heap} {a:Addr} {u:HO} (r:Rd H a u) (x:gm P w H h):cI P w H h a u:=by
 rcases r with r | ⟨o,r⟩
 ·exact x a u r
 ·obtain⟨_,q⟩:=x a _ r
  exact q
noncomputable def Hc:Option HO->Prop
 | some (.lst _)=>True
 | some (.dK _)=>True
 | some (.dT _)=>True
 | some (.set _ _)=>True
 | some (.ins _ _ _)=>True
 | some (.ext _)=>True
 | _=>False
section
variable {P : Program} {w : World} {H : Hp} {h h' : Heap} {x e : Addr} {o' : HO}
theorem gm.write (ok:gm P w H h) (mu:Hc (H x)) (he:e=x\/H e=some (.own x)) (k:∀b u,b≠e->h.get? b=some u->h'.get? b=some u) (GG:∃u,h'.get? e=some u)
  (new:cI P w (upd H x o') h' x o'):gm P w (upd H x o') h':=λb u q=>by
 have He:∀c y,H c=some (.own y)->c≠x:=λc y r z=>by subst z;rw[r] at mu;exact mu
 have Le:∀c xs,H c=some (.tup xs)->c≠x:=λc xs r z=>by subst z;rw[r] at mu;exact mu
 by_cases hb:b=x
 ·subst hb;rw[ar] at q;cases q;exact new
 ·rw[aG hb] at q
  by_cases Eg:b=e
  ·have q':H b=some (.own x):=by
    rcases he with z | z
    ·exact absurd (Eg.trans z) hb
    ·rw[Eg];exact z
   rw[q] at q';cases q'
   obtain⟨v,hv⟩:=GG
   exact⟨v,by rw[Eg];exact hv⟩
  ·refine(ok b u q).oI (λc v hc r=>k c v ?_ r) (λc r=>by rw[aG (He c b r)];exact r) λc xs r=>by rw[aG (Le c xs r)];exact r
   rcases hc with rfl | hc
   ·exact Eg
   ·rintro rfl
    rcases he with z | z
    ·exact He c b hc z
    ·rw[hc] at z;cases z;exact hb rfl
end
structure Un (fs ex:List Addr) (H H':Hp) (h h':Heap):Prop where
 keep:∀b o,h.get? b=some o->H b=none->b∉fs->b∉ex->h'.get? b=some o
 slot:∀b o,h.get? b=some o->H b=none->b∈fs->b∉ex->∃sl,h'.get? b=some {o with slots:=sl}
 free:∀b o,h.get? b=some o->H b=none->b∉ex->H' b=none
 there:∀b o,h.get? b=some o->b∉ex->∃o',h'.get? b=some o'
 kP:∀b xs,H b=some (.tup xs)->H' b=some (.tup xs)
 mH:∀b o u,H b=some (.uk o u)->H' b=some (.uk o u)
 mI:∀b ps,H b=some (.rQ ps)->∃more,H' b=some (.rQ (ps++more))
section
variable {fs Vj ex Bx : List Addr} {H H1 H2 : Hp} {h h1 h2 h' : Heap} {a x e : Addr} {o : HO}
theorem Un.any (u:Un fs ex H H1 h h1) {b:Addr} {ob:Obj} (q:h.get? b=some ob) (n:H b=none) (hx:b∉ex):∃sl,h1.get? b=some {ob with slots:=sl}:=by
 by_cases hb:b∈fs
 ·exact u.slot b ob q n hb hx
 ·exact⟨ob.slots,u.keep b ob q n hb hx⟩
theorem Un.kept (k:∀b u,h.get? b=some u->h'.get? b=some u):Un fs ex H H h h':=
 ⟨λb ob q _ _ _=>k b ob q,λb ob q _ _ _=>⟨ob.slots,k b ob q⟩,λ_ _ _ n _=>n,λb ob q _=>⟨ob,k b ob q⟩,λ_ _ q=>q,λ_ _ _ q=>q,λ_ ps q=>⟨#[],by rw[q];simp⟩⟩
theorem Un.refl:Un fs ex H H h h:=Un.kept λ_ _ q=>q
theorem Un.laid (k:∀b u,h.get? b=some u->h'.get? b=some u) (hp:h.objs.size<=a) (hn:H a=none):Un fs ex H (upd H a o) h h' where
 keep:=λb u q _ _ _=>k b u q
 slot:=λb u q _ _ _=>⟨u.slots,k b u q⟩
 free:=λb u q n _=>by rw[aG (aam (aat (Heap.lt_size q) hp))];exact n
 there:=λb u q _=>⟨u,k b u q⟩
 kP:=λb xs q=>by rw[aG (bA q hn)];exact q
 mH:=λb u xs q=>by rw[aG (bA q hn)];exact q
 mI:=λb ps q=>⟨#[],by rw[aG (bA q hn),q];simp⟩
theorem Un.write (mu:Hc (H x)) (he:e=x\/H e=some (.own x)) (k:∀b u,b≠e->h.get? b=some u->h'.get? b=some u) (GG:∃u,h'.get? e=some u):Un fs ex H (upd H x o) h h':=by
 have hx:∀b,H b=none->b≠x:=λb n z=>by subst z;rw[n] at mu;exact mu
 have hb:∀b,H b=none->b≠e:=λb n z=>by
  subst z
  rcases he with r | r
  ·exact hx b n r
  ·rw[n] at r;cases r
 have hm:∀b u,H b=some u->¬Hc (some u)->b≠x:=λb u q nm z=>by subst z;rw[q] at mu;exact nm mu
 refine⟨λb u q n _ _=>k b u (hb b n) q,λb u q n _ _=>⟨u.slots,k b u (hb b n) q⟩,λb u q n _=>by rw[aG (hx b n)];exact n,λb u q _=>?_,
  λb xs q=>by rw[aG (hm b _ q λz=>z)];exact q,λb u xs q=>by rw[aG (hm b _ q λz=>z)];exact q,λb ps q=>⟨#[],by rw[aG (hm b _ q λz=>z),q];simp⟩⟩
 by_cases Eg:b=e
 ·subst Eg;exact GG
 ·exact⟨u,k b u Eg q⟩
end
noncomputable def Kj (h:Heap) (H:Hp):List Addr:=(List.range h.objs.size).filter λa=>(H a).isSome
noncomputable def mJ (h:Heap) (H:Hp):Heap:=PySem.W.hideAll h (Kj h H)
theorem xy (h:Heap) (H:Hp):(mJ h H).objs.size=h.objs.size:=PySem.W.hideAll_size _ _
theorem yA {h:Heap} {H:Hp} {b:Addr} {o:Obj} (e:h.get? b=some o) (n:H b=none):(mJ h H).get? b=some o:=
 PySem.W.hideAll_get _ e λhm=>by
  have q:(H b).isSome=true:=(List.mem_filter.mp hm).2
  rw[n] at q;simp at q
theorem By {h:Heap} {H:Hp} {b:Addr} {o:Obj} (e:(mJ h H).get? b=some o):h.get? b=some o/\H b=none:=by
 have e':h.get? b=some o:=PySem.W.of_hideAll (Kj h H) e
 refine⟨e',?_⟩
 cases q:H b with
 | none=>rfl
 | some x=>
  have hm:b∈Kj h H:=List.mem_filter.mpr ⟨List.mem_range.mpr (Heap.lt_size e'),by simp [q]⟩
  have z:(mJ h H).get? b=none:=PySem.W.hideAll_none (Kj h H) hm
  rw[z] at e;cases e
noncomputable def Bz (g h:Heap) (L:Addr):List (Addr×Obj):=(List.range h.objs.size).filterMap λa=>if a=L\/(g.get? a).isSome=true then none else (h.get? a).map λo=>(a,o)
noncomputable def rest (g h:Heap) (L d:Addr):List (Addr×Obj):=(Bz g h L).filter λp=>decide (p.1≠d)
end L2
namespace L2
open PySem PySem.Spec PyProof.Rows
structure Mod (K:PySem.W.Frag) (mg:Str->Option Value) (base:Heap):Prop where
 Hf:K.In base
 glob:base.Ns mainGlobals mg
 blt:∃mb,base.Ns builtinsNs mb/\∀x:Str,x≠"__name__"->mb x=bootBuiltins x
 nolimit:base.NoLimit
structure Cx where
 prog:Program
 w:World
 K:PySem.W.Frag
 mg:Str->Option Value
 base:Heap
 A:Around
 N:List Str
 s₀:Shared
 H₀:Hp
 env:Env
 outer:List Env
 stack:List Env
 ex:List Addr
 fn:Str->Bool
 calm:Bool
 pn:List (Addr×Obj)
 xe:Value->Shared->Prop
def rX (l:List Env):List Addr:=l.filterMap (·.frame)
abbrev Cx.fs (X:Cx):List Addr:=rX X.outer
noncomputable def Lf (sc:Scope) (x:Str):Prop:=sc.names.lookup x=some .local\/sc.names.lookup x=some .cell\/sc.names.lookup x=some .free
noncomputable def Loc (sc:Scope) (x:Str):Prop:=sc.names.lookup x=some .local\/sc.names.lookup x=some .cell
noncomputable def Look (env:Env) (h:Heap) (m:Str->Option Value) (x:Str) (u:Value):Prop:=
 (env.kindOf x=some .local/\m x=some u)\/((env.kindOf x=some .cell\/env.kindOf x=some .free)/\∃c,env.cells.lookup x=some c/\h.IsCell c (some u))
structure Cx.Ok (X:Cx):Prop where
 mod:Mod X.K X.mg X.base
 kind:X.env.scope.kind=.function
 glob:X.env.globals=mainGlobals
 blt:X.env.builtins=builtinsNs
 above:X.s₀.heap.objs.size<=X.env.locals
 inj:∀x y c,X.env.cells.lookup x=some c->X.env.cells.lookup y=some c->x=y
 has:∀x,(X.env.kindOf x=some .cell\/X.env.kindOf x=some .free)->∃c,X.env.cells.lookup x=some c
 GH:∀x c,X.fn x=true->X.env.cells.lookup x=some c->X.s₀.heap.objs.size<=c
 hd:X.calm=true->X.A.handled=none
 frames:X.A.frames=some X.stack
 yB:X.stack=X.outer\/(X.stack=X.env::X.outer/\X.env.frame=some X.env.locals)
 Lg:∀b∈X.ex,b≠X.env.locals/\∀x c,X.env.cells.lookup x=some c->c≠b
 bs:∀b o,X.base.get? b=some o->X.s₀.heap.get? b=some o/\X.H₀ b=none
 yC:X.base.objs.size<=X.s₀.heap.objs.size
 xA:∀b o,X.base.get? b=some o->b∉X.ex
 yD:∀b∈X.ex,b∉X.fs
 jM:X.s₀.heap.FunFrames X.base X.outer
 Dl:∀b∈X.fs,X.H₀ b=none
structure Inv (X:Cx) (pins:List (Addr×Obj)) (σ:List (Option V)) (H:Hp) (s:Shared):Prop where
 ok:X.Ok
 os:s.os=X.s₀.os
 bare:AllBare s.gens
 base:Un X.fs X.ex X.H₀ H X.s₀.heap s.heap
 loc:∃m,s.heap.Ns X.env.locals m/\∀(i:Nat) (x:Str) (v:V),X.N[i]?=some x->σ[i]?=some (some v)->Lf X.env.scope x->∃u,RelV v u/\Look X.env s.heap m x u
 cell:∀x c,X.env.cells.lookup x=some c->∃v,s.heap.IsCell c v
 free:H X.env.locals=none
 gD:∀x c,X.env.cells.lookup x=some c->H c=none
 pin:∀p∈X.pn++pins,s.heap.get? p.1=some p.2/\H p.1=none/\p.1≠X.env.locals/\p.1∉X.fs/\∀v,p.2.data≠.cell v
 bU:gm X.prog X.w H s.heap
 len:σ.length=X.N.length
section
variable {X : Cx} {pins : List (Addr × Obj)} {σ : List (Option V)} {H H' : Hp} {s : Shared} {h' : Heap}
theorem Cx.Ok.Lh (ok:X.Ok) {b:Addr} {o:Obj} (e:X.base.get? b=some o):b∉X.fs:=λhb=>by
 have:=(ok.jM.mem hb).1
 rw[e] at this;cases this
theorem Inv.bs (I:Inv X pins σ H s):∀b o,X.base.get? b=some o->s.heap.get? b=some o/\H b=none:=λb o e=>
 ⟨I.base.keep b o (I.ok.bs b o e).1 (I.ok.bs b o e).2 (I.ok.Lh e) (I.ok.xA b o e),I.base.free b o (I.ok.bs b o e).1 (I.ok.bs b o e).2 (I.ok.xA b o e)⟩
theorem Inv.bk (I:Inv X pins σ H s):∀b o,X.base.get? b=some o->s.heap.get? b=some o:=λb o e=>(I.bs b o e).1
theorem Inv.mod (I:Inv X pins σ H s):Mod X.K X.mg X.base:=I.ok.mod
theorem Inv.vJ (I:Inv X pins σ H s):X.K.In s.heap:=I.ok.mod.Hf.keeps I.bk
theorem Inv.lt (I:Inv X pins σ H s):X.env.locals<s.heap.objs.size:=let ⟨_,hn,_⟩:=I.loc;hn.lt
theorem Inv.sz (I:Inv X pins σ H s):X.s₀.heap.objs.size<=s.heap.objs.size:=aao I.ok.above (Nat.le_of_lt I.lt)
theorem Inv.Li (I:Inv X pins σ H s) {a:Addr} (h:s.heap.objs.size<=a):a∉X.fs:=λhb=>by
 obtain⟨_,o,ho,_⟩:=I.ok.jM.mem hb
 exact absurd (aat (Heap.lt_size ho) (aao I.sz h)) (aaF _)
theorem Inv.Eh (I:Inv X pins σ H s):∀x c,X.env.cells.lookup x=some c->c≠X.env.locals:=λx c e z=>by
 obtain⟨v,o,ho,hd⟩:=I.cell x c e
 obtain⟨m,⟨o',es,ep,Ei,Hg,_⟩,_⟩:=I.loc
 rw[z,Ei] at ho;cases ho;rw[Hg] at hd;cases hd
theorem Inv.jM (I:Inv X pins σ H s):s.heap.FunFrames X.base X.outer:=by
 have all:∀(l:List Env),(∀b∈rX l,b∈X.fs)->X.s₀.heap.FunFrames X.base l->s.heap.FunFrames X.base l:=by
  intro l
  induction l with
  | nil=>intro _ _;trivial
  | cons env r ih=>
   intro hs hl
   obtain⟨hk,⟨L,o,hf,hn,ho,hd⟩,hr⟩:=hl
   have hL:L∈X.fs:=hs L (by unfold rX;rw[List.filterMap_cons,hf];exact aai)
   obtain⟨sl,e⟩:=I.base.slot L o ho (I.ok.Dl L hL) hL λz=>I.ok.yD L z hL
   exact⟨hk,⟨L,_,hf,hn,e,hd⟩,ih (λb hb=>hs b (by unfold rX;rw[List.filterMap_cons,hf];exact aaj _ hb)) hr⟩
 exact all X.outer (λ_ hb=>hb) I.ok.jM
theorem Inv.stack (I:Inv X pins σ H s):s.heap.FunFrames X.base X.stack:=by
 rcases I.ok.yB with e | ⟨e,hf⟩
 ·rw[e];exact I.jM
 ·rw[e]
  obtain⟨m,hn,_⟩:=I.loc
  refine .cons (by rw[I.ok.kind];decide) hf hn ?_ I.jM
  exact Heap.get?_none_of_le (aao I.ok.yC I.ok.above)
theorem Inv.qd (I:Inv X pins σ H s):∀b∈rX X.stack,b∈X.env.locals::X.fs:=λb hb=>by
 rcases I.ok.yB with e | ⟨e,hf⟩
 ·rw[e] at hb;exact aaj _ hb
 ·rw[e] at hb
  unfold rX at hb
  rw[List.filterMap_cons,hf] at hb
  exact hb
theorem Inv.vK (I:Inv X pins σ H s):∀b∈rX X.stack,H b=none:=λb hb=>by
 rcases List.mem_cons.mp (I.qd b hb) with e | hb
 ·rw[e];exact I.free
 ·obtain⟨_,o,ho,_⟩:=I.ok.jM.mem hb
  exact I.base.free b o ho (I.ok.Dl b hb) λz=>I.ok.yD b z hb
theorem Inv.step {g':Array GenState} {t':Nat} {d':Drawn} {ch:List Addr} (I:Inv X pins σ H s)
  (Be:∀b∈ch,(b∈X.ex\/X.s₀.heap.objs.size<=b)/\b≠X.env.locals/\(∀x c,X.env.cells.lookup x=some c->c≠b)/\∀p∈X.pn++pins,p.1≠b)
  (keep:∀b o,b≠X.env.locals->b∉X.fs->b∉ch->s.heap.get? b=some o->H b=none->h'.get? b=some o)
  (slot:∀b o,b≠X.env.locals->b∈X.fs->b∉ch->s.heap.get? b=some o->H b=none->∃sl,h'.get? b=some {o with slots:=sl}) (free:∀b o,b∉ch->s.heap.get? b=some o->H b=none->H' b=none)
  (there:∀b o,b∉ch->s.heap.get? b=some o->∃o',h'.get? b=some o')
  (kP:∀b xs,H b=some (.tup xs)->H' b=some (.tup xs)) (mH:∀b o u,H b=some (.uk o u)->H' b=some (.uk o u)) (mI:∀b ps,H b=some (.rQ ps)->∃more,H' b=some (.rQ (ps++more)))
  (ns:∀m,s.heap.Ns X.env.locals m->h'.Ns X.env.locals m) (bU:gm X.prog X.w H' h') (hg:AllBare g'):
  Inv X pins σ H' {s with heap:=h',gens:=g',drawn:=d',toks:=t'}:=by
 have Tb:∀b o,X.s₀.heap.get? b=some o->b≠X.env.locals:=λb o e=>aam (aat (Heap.lt_size e) I.ok.above)
 have Kk:∀b o,X.s₀.heap.get? b=some o->b∉X.ex->b∉ch:=λb o e hx hb=>by
  rcases(Be b hb).1 with z | z
  ·exact hx z
  ·exact absurd (aat (Heap.lt_size e) z) (aaF _)
 have cellK:∀x c,X.env.cells.lookup x=some c->∀v,s.heap.IsCell c v->h'.IsCell c v:=λx c e v ⟨o,ho,hd⟩=>by
  have Dm:c∉ch:=λz=>(Be c z).2.2.1 x c e rfl
  by_cases hc:c∈X.fs
  ·obtain⟨sl,q⟩:=slot c o (I.Eh x c e) hc Dm ho (I.gD x c e)
   exact⟨_,q,hd⟩
  ·exact⟨o,keep c o (I.Eh x c e) hc Dm ho (I.gD x c e),hd⟩
 refine⟨I.ok,I.os,hg,⟨λb o e n hb hx=>?_,λb o e n hb hx=>?_,λb o e n hx=>?_,λb o e hx=>?_,λb xs e=>kP b xs (I.base.kP b xs e),λb o xs e=>mH b o xs (I.base.mH b o xs e),λb ps e=>?_⟩,?_,λx c e=>?_,?_,λx c e=>?_,λp hp=>?_,bU,I.len⟩
 ·exact keep b o (Tb b o e) hb (Kk b o e hx) (I.base.keep b o e n hb hx) (I.base.free b o e n hx)
 ·obtain⟨sl,e1⟩:=I.base.slot b o e n hb hx
  obtain⟨Vk,e2⟩:=slot b _ (Tb b o e) hb (Kk b o e hx) e1 (I.base.free b o e n hx)
  exact⟨Vk,e2⟩
 ·obtain⟨o',e1⟩:=I.base.there b o e hx
  exact free b o' (Kk b o e hx) e1 (I.base.free b o e n hx)
 ·obtain⟨o',e1⟩:=I.base.there b o e hx
  exact there b o' (Kk b o e hx) e1
 ·obtain⟨m1,e1⟩:=I.base.mI b ps e
  obtain⟨m2,e2⟩:=mI b _ e1
  exact⟨m1++m2,by rw[e2,Array.append_assoc]⟩
 ·obtain⟨m,hn,hl⟩:=I.loc
  refine⟨m,ns m hn,λi x v e1 e2 e3=>?_⟩
  obtain⟨u,r,l⟩:=hl i x v e1 e2 e3
  refine⟨u,r,?_⟩
  rcases l with l | ⟨k,c,e,z⟩
  ·exact .inl l
  ·exact .inr ⟨k,c,e,cellK x c e _ z⟩
 ·obtain⟨v,z⟩:=I.cell x c e
  exact⟨v,cellK x c e v z⟩
 ·obtain⟨m,⟨o,_,_,ho,_⟩,_⟩:=I.loc
  exact free _ o (λz=>(Be _ z).2.1 rfl) ho I.free
 ·obtain⟨v,o,ho,hd⟩:=I.cell x c e
  exact free c o (λz=>(Be c z).2.2.1 x c e rfl) ho (I.gD x c e)
 ·obtain⟨e,n,ne,nf,d⟩:=I.pin p hp
  have Dm:p.1∉ch:=λz=>(Be p.1 z).2.2.2 p hp rfl
  exact⟨keep p.1 p.2 ne nf Dm e n,free p.1 p.2 Dm e n,ne,nf,d⟩
theorem Inv.un {t':Nat} (I:Inv X pins σ H s) (u:Un X.fs [] H H' s.heap h') (bU:gm X.prog X.w H' h'):Inv X pins σ H' {s with heap:=h',toks:=t'}:=by
 obtain⟨m,⟨o,es,ep,ho,r⟩,_⟩:=id I.loc
 obtain⟨sl,hL⟩:=u.any ho I.free (by simp)
 exact I.step (g':=s.gens) (d':=s.drawn) (ch:=[]) (λ_ z=>nomatch z) (λb o _ hb _ e n=>u.keep b o e n hb (by simp)) (λb o _ hb _ e n=>u.slot b o e n hb (by simp)) (λb o _ e n=>u.free b o e n (by simp)) (λb o _ e=>u.there b o e (by simp)) u.kP u.mH u.mI (λm' hm=>by
  obtain⟨o',Lj,BA,Ei,r'⟩:=hm
  rw[ho] at Ei;cases Ei
  exact⟨_,Lj,BA,hL,r'⟩) bU I.bare
theorem Inv.call {g':Array GenState} {t':Nat} {d':Drawn} {ch:List Addr} (I:Inv X pins σ H s) (u:Un (rX X.stack) ch H H' s.heap h') (bU:gm X.prog X.w H' h') (hg:AllBare g')
  (Be:∀b∈ch,(b∈X.ex\/X.s₀.heap.objs.size<=b)/\b≠X.env.locals/\(∀x c,X.env.cells.lookup x=some c->c≠b)/\∀p∈X.pn++pins,p.1≠b):
  Inv X pins σ H' {s with heap:=h',gens:=g',drawn:=d',toks:=t'}:=by
 obtain⟨m,⟨o,es,ep,ho,r⟩,_⟩:=id I.loc
 obtain⟨sl,hL⟩:=u.any ho I.free λz=>(Be _ z).2.1 rfl
 exact I.step (ch:=ch) Be (λb o hL hb hc e n=>u.keep b o e n (λz=>(List.mem_cons.mp (I.qd b z)).elim hL hb) hc) (λb o _ _ hc e n=>u.any e n hc) (λb o hc e n=>u.free b o e n hc) (λb o hc e=>u.there b o e hc) u.kP u.mH u.mI (λm' hm=>by
  obtain⟨o',Lj,BA,Ei,r'⟩:=hm
  rw[ho] at Ei;cases Ei
  exact⟨_,Lj,BA,hL,r'⟩) bU hg
theorem Inv.turned {t':Nat} {it:Addr} (I:Inv X pins σ H s) (k:∀b o,b≠it->s.heap.get? b=some o->h'.get? b=some o) (hn:H it=none) (hL:it≠X.env.locals)
  (h1:it∈X.ex\/X.s₀.heap.objs.size<=it) (h2:∀x c,X.env.cells.lookup x=some c->c≠it) (h3:∀p∈X.pn++pins,p.1≠it):Inv X pins σ H {s with heap:=h',toks:=t'}:=by
 have Tc:∀b u,H b=some u->b≠it:=λb u e z=>by rw[z,hn] at e;cases e
 refine I.step (g':=s.gens) (d':=s.drawn) (ch:=[it]) (λb hb=>?_) (λb o _ _ hc e _=>k b o (λz=>hc (by simp [z])) e) (λb o _ _ hc e _=>⟨o.slots,k b o (λz=>hc (by simp [z])) e⟩) (λ_ _ _ _ n=>n)
  (λb o hc e=>⟨o,k b o (λz=>hc (by simp [z])) e⟩) (λ_ _ e=>e) (λ_ _ _ e=>e) (λb ps e=>⟨#[],by rw[e];simp⟩) (λm hm=>?_) (λb u e=>?_) I.bare
 ·have e:b=it:=by simpa using hb
  subst e
  exact⟨h1,hL,h2,h3⟩
 ·obtain⟨o,es,ep,ho,r⟩:=hm
  exact⟨o,es,ep,k _ o (Ne.symm hL) ho,r⟩
 ·refine(I.bU b u e).oI (λc v hc q=>k c v ?_ q) (λ_ q=>q) λ_ _ q=>q
  rcases hc with z | z
  ·rw[z];exact Tc b u e
  ·exact Tc c _ z
theorem Inv.tok (I:Inv X pins σ H s) (t:Nat):Inv X pins σ H {s with toks:=t}:=I.un (h':=s.heap) (t':=t) Un.refl I.bU
theorem Inv.kept {t':Nat} (I:Inv X pins σ H s) (k:∀b u,s.heap.get? b=some u->h'.get? b=some u):Inv X pins σ H {s with heap:=h',toks:=t'}:=I.un (Un.kept k) (I.bU.kept k)
theorem Inv.laid {a:Addr} {o:HO} {t':Nat} (I:Inv X pins σ H s) (k:∀b u,s.heap.get? b=some u->h'.get? b=some u) (hp:s.heap.objs.size<=a) (new:cI X.prog X.w (upd H a o) h' a o):
  Inv X pins σ (upd H a o) {s with heap:=h',toks:=t'}:=I.un (Un.laid k hp (I.bU.fresh hp)) (I.bU.laid k hp new)
theorem Inv.write {x e:Addr} {o:HO} {t':Nat} (I:Inv X pins σ H s) (mu:Hc (H x)) (he:e=x\/H e=some (.own x)) (k:∀b u,b≠e->s.heap.get? b=some u->h'.get? b=some u) (GG:∃u,h'.get? e=some u)
  (new:cI X.prog X.w (upd H x o) h' x o):Inv X pins σ (upd H x o) {s with heap:=h',toks:=t'}:=I.un (Un.write mu he k GG) (I.bU.write mu he k GG new)
theorem Inv.jd {Dp:List (Addr×Obj)} (I:Inv X pins σ H s) (h:∀p∈Dp,s.heap.get? p.1=some p.2/\H p.1=none/\p.1≠X.env.locals/\p.1∉X.fs/\∀v,p.2.data≠.cell v):Inv X Dp σ H s:=
 ⟨I.ok,I.os,I.bare,I.base,I.loc,I.cell,I.free,I.gD,λp hp=>(List.mem_append.mp hp).elim (λz=>I.pin p (abo _ z)) (h p),I.bU,I.len⟩
theorem rY {N:List Str} (hN:N.Nodup) {i j:Nat} {x:Str} (a:N[i]?=some x) (b:N[j]?=some x):i=j:=by
 obtain⟨h1,e1⟩:=List.getElem?_eq_some_iff.mp a
 obtain⟨h2,e2⟩:=List.getElem?_eq_some_iff.mp b
 exact(abe hN).mp (e1.trans e2.symm)
theorem o4 {M:Model} {A:Around} {E:Value->Shared->Prop} {i:Nat} {x:Str} {v:V} {u:Value} {Q:Unit->Shared->Prop} (I:Inv X pins σ H s) (hN:X.N.Nodup) (hi:X.N[i]?=some x) (hx:Loc X.env.scope x) (r:RelV v u)
  (h:∀s',Inv X pins (σ.set i (some v)) H s'->(∃a,Heap.SameBut a s.heap s'.heap/\(a=X.env.locals\/X.env.cells.lookup x=some a))->Q () s') (hf:X.fn x=true\/X.env.scope.names.lookup x=some .local:=by first | exact .inl rfl | exact .inr rfl | assumption):wpAny M A (storeName X.env x u) Q E s:=by
 obtain⟨m,hn,hl⟩:=id I.loc
 have Lk:(X.env.scope.kind==.class || (X.env.scope.kind==.module && X.env.locals !=X.env.globals))=false:=by rw[I.ok.kind];rfl
 have Td:i<σ.length:=by rw[I.len];exact(List.getElem?_eq_some_iff.mp hi).1
 have Eh:=I.Eh
 have tracked:∀{a:Addr} {h':Heap},(∃o,s.heap.get? a=some o/\H a=none)->Heap.SameBut a s.heap h'->gm X.prog X.w H h':=λ{a h'} ha hs b ob e=>by
  obtain⟨_,_,Dq⟩:=ha
  refine(I.bU b ob e).oI (λc w' hc q=>(hs.2 c ?_).trans q) (λ_ q=>q) λ_ _ q=>q
  rintro rfl
  rcases hc with rfl | hc
  ·rw[Dq] at e;cases e
  ·rw[Dq] at hc;cases hc
 rcases hx with hk | hk
 ·refine wpAny_storeName_local hk hn (λh' Vl hs=>?_) Lk
  obtain⟨oL,_,_,Dr,_⟩:=id hn
  refine h _ ⟨I.ok,I.os,I.bare,⟨λb o e n hb hx=>?_,λb o e n hb hx=>?_,I.base.free,λb o e hx=>?_,I.base.kP,I.base.mH,I.base.mI⟩,⟨_,Vl,λj y v' e1 e2 e3=>?_⟩,λy c e=>?_,I.free,I.gD,λp hp=>?_,tracked ⟨oL,Dr,I.free⟩ hs,by simpa using I.len⟩ ⟨_,hs,.inl rfl⟩
  ·exact(hs.2 b (aam (aat (Heap.lt_size e) I.ok.above))).trans (I.base.keep b o e n hb hx)
  ·obtain⟨sl,e1⟩:=I.base.slot b o e n hb hx
   exact⟨sl,(hs.2 b (aam (aat (Heap.lt_size e) I.ok.above))).trans e1⟩
  ·obtain⟨o',e1⟩:=I.base.there b o e hx
   exact⟨o',(hs.2 b (aam (aat (Heap.lt_size e) I.ok.above))).trans e1⟩
  ·by_cases hj:j=i
   ·subst hj
    rw[hi] at e1;cases e1
    rw[aa3 Td] at e2
    cases e2
    exact⟨u,r,.inl ⟨hk,by simp⟩⟩
   ·rw[aaP (Ne.symm hj)] at e2
    obtain⟨u',r',q⟩:=hl j y v' e1 e2 e3
    refine⟨u',r',?_⟩
    rcases q with ⟨k,e⟩ | ⟨k,c,e,z⟩
    ·refine .inl ⟨k,?_⟩
     have:y≠x:=λe=>hj (rY hN e1 (e▸hi))
     simp [this,e]
    ·exact .inr ⟨k,c,e,z.sameBut hs (Eh y c e)⟩
  ·obtain⟨w',z⟩:=I.cell y c e
   exact⟨w',z.sameBut hs (Eh y c e)⟩
  ·obtain⟨e,n,ne,nf,d⟩:=I.pin p hp
   exact⟨(hs.2 p.1 ne).trans e,n,ne,nf,d⟩
 ·have Ll:X.fn x=true:=by
   rcases hf with z | z
   ·exact z
   ·rw[z] at hk;cases hk
  obtain⟨c,hc⟩:=I.ok.has x (.inl hk)
  obtain⟨w',z⟩:=I.cell x c hc
  refine wpAny_storeName_cell I.ok.kind hk hc z (λh' Te hs=>?_)
  obtain⟨oc,Tf,Lm⟩:=id z
  refine h {s with heap:=h'} ⟨I.ok,I.os,I.bare,⟨λb o e n hb hx=>?_,λb o e n hb hx=>?_,I.base.free,λb o e hx=>?_,I.base.kP,I.base.mH,I.base.mI⟩,⟨m,hn.sameBut hs (Ne.symm (Eh x c hc)),λj y v' e1 e2 e3=>?_⟩,λy c' e=>?_,I.free,I.gD,λp hp=>?_,tracked ⟨oc,Tf,I.gD x c hc⟩ hs,by simpa using I.len⟩ ⟨c,hs,.inr hc⟩
  ·exact(hs.2 b (aam (aat (Heap.lt_size e) (I.ok.GH x c Ll hc)))).trans (I.base.keep b o e n hb hx)
  ·obtain⟨sl,e1⟩:=I.base.slot b o e n hb hx
   exact⟨sl,(hs.2 b (aam (aat (Heap.lt_size e) (I.ok.GH x c Ll hc)))).trans e1⟩
  ·obtain⟨o',e1⟩:=I.base.there b o e hx
   exact⟨o',(hs.2 b (aam (aat (Heap.lt_size e) (I.ok.GH x c Ll hc)))).trans e1⟩
  ·by_cases hj:j=i
   ·subst hj
    rw[hi] at e1;cases e1
    rw[aa3 Td] at e2
    cases e2
    exact⟨u,r,.inr ⟨.inl hk,c,hc,Te⟩⟩
   ·rw[aaP (Ne.symm hj)] at e2
    obtain⟨u',r',q⟩:=hl j y v' e1 e2 e3
    refine⟨u',r',?_⟩
    rcases q with q | ⟨k,c',e,z'⟩
    ·exact .inl q
    ·refine .inr ⟨k,c',e,z'.sameBut hs ?_⟩
     rintro rfl
     exact hj (rY hN e1 (I.ok.inj _ _ _ e hc▸hi))
  ·by_cases Kl:c'=c
   ·subst Kl;exact⟨_,Te⟩
   ·obtain⟨w2,z2⟩:=I.cell y c' e
    exact⟨w2,z2.sameBut hs Kl⟩
  ·obtain⟨e,n,ne,nf,d⟩:=I.pin p hp
   refine⟨(hs.2 p.1 ?_).trans e,n,ne,nf,d⟩
   intro q
   rw[q,Tf] at e
   have q':oc=p.2:=aax e
   exact d w' (by rw[<-q'];exact Lm)
theorem je {M:Model} {A:Around} {E:Value->Shared->Prop} {i:Nat} {x:Str} {v:V} {u:Value} {Q:Unit->Shared->Prop} (I:Inv X pins σ H s) (hN:X.N.Nodup) (hi:X.N[i]?=some x) (hx:Loc X.env.scope x) (r:RelV v u)
  (h:∀s',Inv X pins (σ.set i (some v)) H s'->Q () s') (hf:X.fn x=true\/X.env.scope.names.lookup x=some .local:=by first | exact .inl rfl | exact .inr rfl | assumption):wpAny M A (storeName X.env x u) Q E s:=
 o4 I hN hi hx r (λs' I' _=>h s' I') hf
theorem Inv.Hh {s':Shared} {ch:List Addr} (I:Inv X pins σ H s) (ho:s'.os=s.os) (u:Un (rX X.stack) ch H H' s.heap s'.heap) (bU:gm X.prog X.w H' s'.heap) (hg:AllBare s'.gens)
  (Be:∀b∈ch,(b∈X.ex\/X.s₀.heap.objs.size<=b)/\b≠X.env.locals/\(∀x c,X.env.cells.lookup x=some c->c≠b)/\∀p∈X.pn++pins,p.1≠b):Inv X pins σ H' s':=by
 obtain⟨h',g',d',t',o'⟩:=s'
 have e:o'=s.os:=ho
 subst e
 exact I.call (g':=g') (t':=t') (d':=d') u bU hg Be
end
abbrev XK:=Value->Option Addr->Hp->Prop
abbrev St:=List (Option V)
abbrev VK:=V->Hp->Prop
abbrev TE:=St->Hp->VK->Prop
abbrev TT:=St->Hp->(Bool->Hp->Prop)->Prop
abbrev TA:=St->Hp->(List V->Hp->Prop)->Prop
structure Ends where
 nx:St->Hp->Prop
 rt:VK
 bk:St->Hp->Prop:=λ_ _=>False
 ct:St->Hp->Prop:=λ_ _=>False
abbrev TS:=Ends->St->Hp->Prop
noncomputable def EP (X:Cx) (pins:List (Addr×Obj)) (σ:St) (Q:VK) (u:Value) (s':Shared):Prop:=∃v H',Inv X pins σ H' s'/\RelV v u/\Q v H'
noncomputable def TP (X:Cx) (pins:List (Addr×Obj)) (σ:St) (Q:Bool->Hp->Prop) (b:Bool) (s':Shared):Prop:=∃H',Inv X pins σ H' s'/\Q b H'
noncomputable def AP (X:Cx) (pins:List (Addr×Obj)) (σ:St) (Q:List V->Hp->Prop) (us:List Value) (s':Shared):Prop:=∃vs H',Inv X pins σ H' s'/\bu vs us/\Q vs H'
noncomputable def SP (X:Cx) (pins:List (Addr×Obj)) (D:Ends) (f:Flow) (s':Shared):Prop:=
 match f with
 | .next=>∃σ' H',Inv X pins σ' H' s'/\D.nx σ' H'
 | .brk=>∃σ' H',Inv X pins σ' H' s'/\D.bk σ' H'
 | .cont=>∃σ' H',Inv X pins σ' H' s'/\D.ct σ' H'
 | .ret u=>∃v σ' H',Inv X pins σ' H' s'/\RelV v u/\D.rt v H'
noncomputable def PE (X:Cx) (e:Expr) (t:TE):Prop:=
 ∀(pins:List (Addr×Obj)) (s:Shared) (σ:St) (H:Hp) (Q:VK),Inv X pins σ H s->t σ H Q->wpAny (model X.prog X.w) X.A (eval e X.env) (EP X pins σ Q) X.xe s
noncomputable def PT (X:Cx) (e:Expr) (t:TT):Prop:=
 ∀(pins:List (Addr×Obj)) (s:Shared) (σ:St) (H:Hp) (Q:Bool->Hp->Prop),Inv X pins σ H s->t σ H Q->wpAny (model X.prog X.w) X.A (isTrue e X.env (eval e X.env)) (TP X pins σ Q) X.xe s
noncomputable def PW (X:Cx) (e:Expr) (t:TT):Prop:=
 ∀(whole:Sem Value) (pins:List (Addr×Obj)) (s:Shared) (σ:St) (H:Hp) (Q:Bool->Hp->Prop),Inv X pins σ H s->t σ H Q->wpAny (model X.prog X.w) X.A (isTrue e X.env whole) (TP X pins σ Q) X.xe s
theorem PW.pt {X:Cx} {e:Expr} {t:TT} (h:PW X e t):PT X e t:=h _
noncomputable def PA (X:Cx) (es:List Expr) (t:TA):Prop:=
 ∀(pos:Pos) (pins:List (Addr×Obj)) (s:Shared) (σ:St) (H:Hp) (Q:List V->Hp->Prop),Inv X pins σ H s->t σ H Q->wpAny (model X.prog X.w) X.A (spliced (backTo pos (starEach es X.env))) (AP X pins σ Q) X.xe s
noncomputable def PS (X:Cx) (st:Stmt) (t:TS):Prop:=
 ∀(pins:List (Addr×Obj)) (s:Shared) (σ:St) (H:Hp) (D:Ends),Inv X pins σ H s->t D σ H->wpAny (model X.prog X.w) X.A (exec st X.env) (SP X pins D) X.xe s
noncomputable def uu (X:Cx) (st:List Stmt) (t:TS):Prop:=
 ∀(pins:List (Addr×Obj)) (s:Shared) (σ:St) (H:Hp) (D:Ends),Inv X pins σ H s->t D σ H->wpAny (model X.prog X.w) X.A (execs st X.env) (SP X pins D) X.xe s
theorem cy {α:Type} {t:Sem α} {Q Q':α->Shared->Prop} {M:Model} {A:Around} {E:Value->Shared->Prop} {s:Shared} (h:wpAny M A t Q E s) (hQ:∀a s,Q a s->Q' a s):wpAny M A t Q' E s:=wpAny_mono h hQ λ_ _ x=>x
end L2
namespace L2
open PySem PySem.Spec PyProof.Rows
section
variable {X : Cx}
noncomputable def tVar (i:Nat):TE:=λσ H Q=>∃v,σ[i]?=some (some v)/\Q v H
noncomputable def tC (v:V):TE:=λ_ H Q=>Q v H
theorem Ej {i:Nat} {x:Str} {pos:Pos} (hN:X.N[i]?=some x) (hv:Lf X.env.scope x) (hd:(x==("__debug__":Str))=false:=by decide) (rZ:(x==("__classdict__":Str))=false:=by decide):PE X (.Name x pos) (tVar i):=by
 intro pins s σ H Q I h
 obtain⟨v,e,h⟩:=h
 obtain⟨m,hn,hl⟩:=I.loc
 obtain⟨u,r,l⟩:=hl i x v hN e hv
 have fin:EP X pins σ Q u s:=⟨v,H,I,r,h⟩
 rcases l with ⟨hk,hm⟩ | ⟨hk,c,hc,o5⟩
 ·exact wpAny_Name (wpAny_loadName_local I.ok.kind hk hn hm fin) hd
 ·rcases hk with hk | hk
  ·exact wpAny_Name (wpAny_loadName_cell I.ok.kind hk hc o5 fin) hd
  ·exact wpAny_Name (wpAny_loadName_free I.ok.kind hk hc o5 fin rZ) hd
theorem ao {i j pos}:PE X (.Constant (.int i) j pos) (tC (.int i)):=λ_ _ _ H _ I h=>wpAny_Constant_int ⟨.int i,H,I.tok _,⟨_,rfl⟩,h⟩
theorem vL {b j pos}:PE X (.Constant (.bool b) j pos) (tC (.bl b)):=λ_ _ _ H _ I h=>Constant_bool ⟨.bl b,H,I,rfl,h⟩
theorem eV {j pos}:PE X (.Constant .none j pos) (tC .cB):=λ_ _ _ H _ I h=>Constant_none ⟨.cB,H,I,rfl,h⟩
theorem cJ {x j pos}:PE X (.Constant (.str x) j pos) (tC (.str x)):=λ_ _ _ H _ I h=>Calls.Constant_str ⟨.str x,H,I.tok _,⟨_,rfl⟩,h⟩
noncomputable def Gl (X:Cx) (x:Str):Prop:=X.env.kindOf x=some .globalImplicit
theorem qe {E:Value->Shared->Prop} {pins:List (Addr×Obj)} {s:Shared} {σ:St} {H:Hp} {x:Str} {u:Value} {pos:Pos} {Q:Value->Shared->Prop} (I:Inv X pins σ H s) (hg:Gl X x) (hm:X.mg x=some u) (h:Q u s)
  (hd:(x==("__debug__":Str))=false:=by decide):wpAny (model X.prog X.w) X.A (eval (.Name x pos) X.env) Q E s:=
 Calls.Name_function_global I.ok.kind hg (Calls.loadGlobal_global (by rw[I.ok.glob];exact I.mod.glob.keeps I.bk) hm h) hd
theorem iJ {E:Value->Shared->Prop} {pins:List (Addr×Obj)} {s:Shared} {σ:St} {H:Hp} {x:Str} {u:Value} {pos:Pos} {Q:Value->Shared->Prop} (I:Inv X pins σ H s) (hg:Gl X x) (hm:X.mg x=none) (hv:bootBuiltins x=some u) (h:Q u s)
  (hn:x≠"__name__":=by decide) (hd:(x==("__debug__":Str))=false:=by decide):wpAny (model X.prog X.w) X.A (eval (.Name x pos) X.env) Q E s:=by
 obtain⟨mb,h1,h2⟩:=I.mod.blt
 exact Calls.Name_function_global I.ok.kind hg (Calls.loadGlobal_builtin (by rw[I.ok.glob];exact I.mod.glob.keeps I.bk) hm (by rw[I.ok.blt];exact h1.keeps I.bk) ((h2 x hn).trans hv) h) hd
theorem BB {x:Str} {v:V} {u:Value} {pos:Pos} (hg:Gl X x) (hm:X.mg x=some u) (r:RelV v u) (hd:(x==("__debug__":Str))=false:=by decide):PE X (.Name x pos) (tC v):=
 λ_ _ _ H _ I h=>qe I hg hm ⟨v,H,I,r,h⟩ hd
noncomputable def Vm (ta tb:TE) (k:Int->Int->Hp->Prop):St->Hp->Prop:=λσ H=>ta σ H λx H1=>tb σ H1 λy H2=>∃i j,x=.int i/\y=.int j/\k i j H2
variable {a b : Expr} {ta tb : TE} {pos : Pos}
noncomputable def PC (X:Cx) (op:CmpOp) (a b:Expr) (t:TE):Prop:=
 ∀(pins:List (Addr×Obj)) (s:Shared) (σ:St) (H:Hp) (Q:VK),Inv X pins σ H s->t σ H Q->
  wpAny (model X.prog X.w) X.A (eval a X.env) (λv s₁=>wpAny (model X.prog X.w) X.A (eval b X.env) (λu s₂=>wpAny (model X.prog X.w) X.A (compareOp op v u) (EP X pins σ Q) X.xe s₂) X.xe s₁) X.xe s
theorem yE (b:Expr) {op:CmpOp} (h:op≠.In) (h2:op≠.NotIn):behindInMarks op b=false:=by
 have e1:(op==CmpOp.In)=false:=by cases op <;>first | rfl | exact absurd rfl h
 have e2:(op==CmpOp.NotIn)=false:=by cases op <;>first | rfl | exact absurd rfl h2
 cases b <;>simp [behindInMarks,e1,e2]
noncomputable def xB (p:Int->Int->Bool) (ta tb:TE):TE:=λσ H Q=>Vm ta tb (λi j H2=>Q (.bl (p i j)) H2) σ H
abbrev ZH:TE->TE->TE:=xB λi j=>decide (i<j)
abbrev ZI:TE->TE->TE:=xB λi j=>decide (i<=j)
abbrev ZJ:TE->TE->TE:=xB λi j=>decide (j<i)
abbrev ZK:TE->TE->TE:=xB λi j=>decide (j<=i)
abbrev Vn:TE->TE->TE:=xB λi j=>decide (i=j)
abbrev Vo:TE->TE->TE:=xB λi j=>!decide (i=j)
noncomputable def tB (t:TE):TT:=λσ H Q=>t σ H λx H1=>∃c,x=.bl c/\Q c H1
theorem uv {op:CmpOp} {t:TE} (h:PC X op a b t) (h1:behindInMarks op b=false:=by first | exact yE _ (by decide) (by decide) | rfl):PT X (.Compare a [op] [b] pos) (tB t):=by
 intro pins s σ H Q I hw
 refine wpAny_isTrue_Compare1 (cy (h pins s σ H _ I hw) λv s1 h1=>cy h1 λu s2 h2=>cy h2 λc s3 cX=>?_) h1
 obtain⟨x,H1,I1,r1,q1⟩:=cX
 obtain⟨d,rfl,q⟩:=q1
 cases r1
 exact wpAny_truthy_bool ⟨H1,I1,q⟩
theorem yF {e:Expr} {t:TE} (h:PE X e t) (he:∀whole,isTrue e X.env whole=(do let v <-whole;standAt e.pos;holding [v] (truthy v)):=by intro _;rfl):PT X e (tB t):=by
 intro pins s σ H Q I hw
 refine isTrue_plain (cy (h pins s σ H _ I hw) λv s1 cX=>?_) (he _)
 obtain⟨x,H1,I1,r1,q1⟩:=cX
 obtain⟨d,rfl,q⟩:=q1
 cases r1
 exact wpAny_truthy_bool ⟨H1,I1,q⟩
variable {tA Km : TT} {rest : List Expr}
noncomputable def tAnd (t u:TT):TT:=λσ H Q=>t σ H λc H1=>if c=true then u σ H1 Q else Q false H1
noncomputable def tOr (t u:TT):TT:=λσ H Q=>t σ H λc H1=>if c=true then Q true H1 else u σ H1 Q
noncomputable def tNot (t:TT):TT:=λσ H Q=>t σ H λc H1=>Q (!c) H1
theorem pw_and1 (ha:PT X a tA):PW X (.BoolOp .And [a] pos) tA:=by
 intro wh pins s σ H Q I h
 refine isTrue_and (cy (ha pins s σ H Q I h) λc s1 e=>?_)
 cases c with
 | true=>exact isTrue_and_nil e
 | false=>exact e
theorem pw_or1 (ha:PT X a tA):PW X (.BoolOp .Or [a] pos) tA:=by
 intro wh pins s σ H Q I h
 refine isTrue_or (cy (ha pins s σ H Q I h) λc s1 e=>?_)
 cases c with
 | false=>exact isTrue_or_nil e
 | true=>exact e
theorem pw_and (ha:PT X a tA) (hb:PW X (.BoolOp .And (b::rest) pos) Km):PW X (.BoolOp .And (a::b::rest) pos) (tAnd tA Km):=by
 intro wh pins s σ H Q I h
 refine isTrue_and (cy (ha pins s σ H _ I h) λc s1 ⟨H1,I1,q1⟩=>?_)
 cases c with
 | true=>exact hb wh pins s1 σ H1 Q I1 q1
 | false=>exact⟨H1,I1,q1⟩
theorem pw_or (ha:PT X a tA) (hb:PW X (.BoolOp .Or (b::rest) pos) Km):PW X (.BoolOp .Or (a::b::rest) pos) (tOr tA Km):=by
 intro wh pins s σ H Q I h
 refine isTrue_or (cy (ha pins s σ H _ I h) λc s1 ⟨H1,I1,q1⟩=>?_)
 cases c with
 | true=>exact⟨H1,I1,q1⟩
 | false=>exact hb wh pins s1 σ H1 Q I1 q1
noncomputable def tAndV (ta tb:TE):TE:=λσ H Q=>ta σ H λx H1=>∃c,x=.bl c/\if c=true then tb σ H1 Q else Q (.bl false) H1
noncomputable def tOrV (ta tb:TE):TE:=λσ H Q=>ta σ H λx H1=>∃c,x=.bl c/\if c=true then Q (.bl true) H1 else tb σ H1 Q
noncomputable def tNotV (ta:TE):TE:=λσ H Q=>ta σ H λx H1=>∃c,x=.bl c/\Q (.bl (!c)) H1
theorem Ek {op} {t:TE} (h:PE X a t):PE X (.BoolOp op [a] pos) t:=λpins s σ H Q I hw=>BoolOp_one (h pins s σ H Q I hw)
theorem El (ha:PE X a ta) (hb:PE X (.BoolOp .And (b::rest) pos) tb):PE X (.BoolOp .And (a::b::rest) pos) (tAndV ta tb):=by
 intro pins s σ H Q I h
 refine BoolOp_and (cy (ha pins s σ H _ I h) λv s1 cX=>?_)
 obtain⟨x,H1,I1,r1,q1⟩:=cX
 obtain⟨c,rfl,q1⟩:=q1
 cases r1
 refine wpAny_truthy_bool ?_
 cases c with
 | true=>exact hb pins s1 σ H1 Q I1 q1
 | false=>exact⟨.bl false,H1,I1,rfl,q1⟩
noncomputable def tIf (t:TT) (ta tb:TE):TE:=λσ H Q=>t σ H λc H1=>if c=true then ta σ H1 Q else tb σ H1 Q
theorem gE {c:Expr} (hc:PT X c tA) (ha:PE X a ta) (hb:PE X b tb):PE X (.IfExp c a b pos) (tIf tA ta tb):=by
 intro pins s σ H Q I h
 refine wpAny_IfExp (cy (hc pins s σ H _ I h) λd s1 ⟨H1,I1,q1⟩=>?_)
 cases d with
 | true=>exact ha pins s1 σ H1 Q I1 q1
 | false=>exact hb pins s1 σ H1 Q I1 q1
end
end L2
namespace L2
open PySem PySem.Spec PyProof.Rows
noncomputable def aZ (K:PySem.W.Frag) (H:Hp) (a:Addr) (xs:List V):Prop:=
 Rd H a (.lst xs)\/
  ∃(o:Obj) (aU:Array Value) (n:Nat),K.lookup a=some o/\o.cls=.type "list"/\o.dict=none/\o.data=.seq aU n/\aU.size<=sizeLine/\bu xs aU.toList
noncomputable def d6 (K:PySem.W.Frag) (H:Hp) (a:Addr) (xs:List V):Prop:=
 Rd H a (.tup xs)\/
  ∃(o:Obj) (aU:Array Value) (n:Nat),K.lookup a=some o/\o.cls=.type "tuple"/\o.data=.seq aU n/\aU.size<=sizeLine/\bu xs aU.toList
noncomputable def Ln:Value->Option V
 | .none=>some .cB
 | .bool b=>some (.bl b)
 | .int i _=>some (.int i)
 | .str x _=>some (.str x)
 | .bytes b _=>some (.yt b)
 | .float b _=>some (.GF b)
 | .ref a=>some (.ref a)
 | .type n=>some (.ty n)
 | _=>none
theorem RelV.abs {x:V} {u:Value} (r:RelV x u):Ln u=some x:=by
 cases x with
 | cB=>cases r;rfl
 | bl _=>cases r;rfl
 | int _=>obtain⟨t,rfl⟩:=r;rfl
 | str _=>obtain⟨t,rfl⟩:=r;rfl
 | yt _=>obtain⟨t,rfl⟩:=r;rfl
 | GF _=>obtain⟨t,rfl⟩:=r;rfl
 | ref _=>cases r;rfl
 | ty _=>cases r;rfl
theorem RelV.inj {x y:V} {u:Value} (r:RelV x u) (q:RelV y u):x=y:=aax (r.abs.symm.trans q.abs)
theorem bu.inj:∀{xs ys:List V} {us:List Value},bu xs us->bu ys us->xs=ys
 | _,_,_,.nil,.nil=>rfl
 | _,_,_,.cons r t,.cons r' t'=>by rw[r.inj r',bu.inj t t']
section
variable {X : Cx} {pins : List (Addr × Obj)} {σ : St} {H : Hp} {s : Shared} {a : Addr} {xs ys : List V}
theorem aZ.of {K:PySem.W.Frag} (h:H a=some (.lst xs)):aZ K H a xs:=.inl (.inl h)
theorem d6.of {K:PySem.W.Frag} (h:H a=some (.tup xs)):d6 K H a xs:=.inl (.inl h)
theorem Inv.list (I:Inv X pins σ H s) (h:aZ X.K H a xs):∃aU:List Value,bu xs aU/\PlainL s.heap a aU.toArray/\xs.length<=sizeLine:=by
 rcases h with h | ⟨o,aU,n,hk,hc,hd,hs,hz,r⟩
 ·obtain⟨z,aU,n,r,e⟩:=h.ok I.bU
  exact⟨aU,r,⟨_,n,e,rfl,rfl,rfl⟩,z⟩
 ·refine⟨aU.toList,r,⟨o,n,I.vJ a o hk,hc,hd,by simpa using hs⟩,?_⟩
  have e:=r.length
  simp only[abg] at e
  omega
theorem Inv.tuple (I:Inv X pins σ H s) (h:d6 X.K H a xs):∃aU:List Value,bu xs aU/\IsTup s.heap a aU.toArray/\xs.length<=sizeLine:=by
 rcases h with h | ⟨o,aU,n,hk,hc,hs,hz,r⟩
 ·obtain⟨z,aU,r,p⟩:=h.ok I.bU
  exact⟨aU,r,p,z⟩
 ·refine⟨aU.toList,r,⟨o,I.vJ a o hk,hc,n,by simpa using hs⟩,?_⟩
  have e:=r.length
  simp only[abg] at e
  omega
theorem Inv.jf (I:Inv X pins σ H s) (h:aZ X.K H a xs) (h':aZ X.K H a ys):xs=ys:=by
 obtain⟨aU,r,⟨o,n,e,_,_,d⟩,_⟩:=I.list h
 obtain⟨its',r',⟨o',n',e',_,_,d'⟩,_⟩:=I.list h'
 rw[e] at e';cases e'
 rw[d] at d'
 injection d' with d1 _
 have:aU=its':=by simpa using congrArg Array.toList d1
 subst this
 exact r.inj r'
end
abbrev Cx.jN (X:Cx) (E:Value->Shared->Prop):Cx:={X with xe:=E}
abbrev Cx.GI (X:Cx):Cx:=X.jN λ_ _=>False
theorem Cx.Ok.jN {X:Cx} (ok:X.Ok) (E:Value->Shared->Prop):(X.jN E).Ok:=
 ⟨ok.mod,ok.kind,ok.glob,ok.blt,ok.above,ok.inj,ok.has,ok.GH,ok.hd,ok.frames,ok.yB,ok.Lg,ok.bs,ok.yC,ok.xA,ok.yD,ok.jM,ok.Dl⟩
theorem Cx.Ok.fL {X:Cx} {E:Value->Shared->Prop} (ok:(X.jN E).Ok):X.Ok:=
 ⟨ok.mod,ok.kind,ok.glob,ok.blt,ok.above,ok.inj,ok.has,ok.GH,ok.hd,ok.frames,ok.yB,ok.Lg,ok.bs,ok.yC,ok.xA,ok.yD,ok.jM,ok.Dl⟩
section
variable {X : Cx} {pins : List (Addr × Obj)} {σ : St} {H : Hp} {s : Shared} {E : Value -> Shared -> Prop}
theorem Inv.jN (I:Inv X pins σ H s) (E:Value->Shared->Prop):Inv (X.jN E) pins σ H s:=⟨I.ok.jN E,I.os,I.bare,I.base,I.loc,I.cell,I.free,I.gD,I.pin,I.bU,I.len⟩
theorem Inv.fL (I:Inv (X.jN E) pins σ H s):Inv X pins σ H s:=⟨I.ok.fL,I.os,I.bare,I.base,I.loc,I.cell,I.free,I.gD,I.pin,I.bU,I.len⟩
theorem SP.fL {D:Ends} {f:Flow} {s':Shared} (h:SP (X.jN E) pins D f s'):SP X pins D f s':=by
 cases f with
 | next=>obtain⟨σ',H',I,q⟩:=h;exact⟨σ',H',I.fL,q⟩
 | brk=>obtain⟨σ',H',I,q⟩:=h;exact⟨σ',H',I.fL,q⟩
 | cont=>obtain⟨σ',H',I,q⟩:=h;exact⟨σ',H',I.fL,q⟩
 | ret u=>obtain⟨v,σ',H',I,r,q⟩:=h;exact⟨v,σ',H',I.fL,r,q⟩
theorem uu.GI {st:List Stmt} {t:TS} (h:uu X.GI st t):uu X st t:=λpins s σ H D I hw=>
 wpAny_mono (h pins s σ H D (I.jN _) hw) (λ_ _ q=>q.fL) λ_ _ z=>False.elim z
end
section
variable {X : Cx} {st : Stmt} {rest : List Stmt} {t u : TS} {e : Expr} {te : TE} {pos : Pos}
noncomputable def tNext:TS:=λD σ H=>D.nx σ H
noncomputable def tSeq (t u:TS):TS:=λD σ H=>t {D with nx:=u D} σ H
theorem bC:uu X [] tNext:=λ_ _ σ H _ I h=>wpAny_execs_nil ⟨σ,H,I,h⟩
theorem ag (h1:PS X st t) (h2:uu X rest u):uu X (st::rest) (tSeq t u):=by
 intro pins s σ H D I h
 refine wpAny_execs_cons (cy (h1 pins s σ H {D with nx:=u D} I h) λf s1 q=>?_)
 cases f with
 | next=>
  obtain⟨σ',H',I',q⟩:=q
  exact h2 pins s1 σ' H' D I' q
 | ret v=>exact q
 | brk=>exact q
 | cont=>exact q
theorem ax (h1:PS X st t):uu X [st] t:=by
 intro pins s σ H D I h
 refine wpAny_execs_cons (cy (h1 pins s σ H D I h) λf s1 q=>?_)
 cases f with
 | next=>exact wpAny_execs_nil q
 | ret v=>exact q
 | brk=>exact q
 | cont=>exact q
theorem Inv.quiet {pins:List (Addr×Obj)} {σ:St} {H:Hp} {s:Shared} (I:Inv X pins σ H s):interactive X.env=false:=by simp [interactive,I.ok.kind]
noncomputable def tDrop (te:TE):TS:=λD σ H=>te σ H λ_ H1=>D.nx σ H1
theorem cF (he:PE X e te) (hs:swapsWith e none pos.line X.env=pure false:=by rfl):PS X (.Expr e pos) (tDrop te):=by
 intro pins s σ H D I h
 exact wpAny_Expr_any (cy (he pins s σ H _ I h) λv s1 ⟨x,H1,I1,r1,q1⟩=>⟨σ,H1,I1,q1⟩) I.quiet hs
noncomputable def tRet (te:TE):TS:=λD σ H=>te σ H D.rt
theorem aT (he:PE X e te):PS X (.Return (some e) pos) (tRet te):=by
 intro pins s σ H D I h
 exact wpAny_Return_some (cy (he pins s σ H _ I h) λv s1 ⟨x,H1,I1,r1,q1⟩=>⟨x,σ,H1,I1,r1,q1⟩)
noncomputable def tRetN:TS:=λD _ H=>D.rt .cB H
noncomputable def tIfS (c:TT) (t u:TS):TS:=λD σ H=>c σ H λb H1=>if b=true then t D σ H1 else u D σ H1
theorem bW {c:Expr} {a b:List Stmt} {tc:TT} (hc:PT X c tc) (ha:uu X a t) (hb:uu X b u):PS X (.If c a b pos) (tIfS tc t u):=by
 intro pins s σ H D I h
 refine wpAny_If (cy (hc pins s σ H _ I h) λd s1 ⟨H1,I1,q1⟩=>?_)
 cases d with
 | true=>exact ha pins s1 σ H1 D I1 q1
 | false=>exact hb pins s1 σ H1 D I1 q1
noncomputable def Em:TS:=λ_ _ _=>False
theorem mK:PS X st Em:=λ_ _ _ _ _ _ h=>h.elim
end
abbrev TG:=V->St->Hp->(St->Hp->Prop)->Prop
abbrev Ds:=List V->St->Hp->(St->Hp->Prop)->Prop
noncomputable def PG (X:Cx) (target:Expr) (t:TG):Prop:=
 ∀(pins:List (Addr×Obj)) (s:Shared) (σ:St) (H:Hp) (v:V) (u:Value) (Q:St->Hp->Prop),Inv X pins σ H s->RelV v u->t v σ H Q->
  wpAny (model X.prog X.w) X.A (assign target X.env u) (λ_ s'=>∃σ' H',Inv X pins σ' H' s'/\Q σ' H') X.xe s
noncomputable def GJ (X:Cx) (ts:List Expr) (t:Ds):Prop:=
 ∀(pins:List (Addr×Obj)) (s:Shared) (σ:St) (H:Hp) (vs:List V) (us:List Value) (Q:St->Hp->Prop),Inv X pins σ H s->bu vs us->t vs σ H Q->
  wpAny (model X.prog X.w) X.A (assignInOrder ((assignEach ts X.env).map (·.2)) us) (λ_ s'=>∃σ' H',Inv X pins σ' H' s'/\Q σ' H') X.xe s
abbrev yG:=V->V->V->Hp->(Hp->Prop)->Prop
noncomputable def Eo (X:Cx) (t:yG):Prop:=
 ∀(pins:List (Addr×Obj)) (s:Shared) (σ:St) (H:Hp) (o i v:V) (ov iv u:Value) (Q:Hp->Prop),Inv X pins σ H s->RelV o ov->RelV i iv->RelV v u->t o i v H Q->
  wpAny (model X.prog X.w) X.A (setItem ov iv u) (λ_ s'=>∃H',Inv X pins σ H' s'/\Q H') X.xe s
abbrev Kn:=V->V->Hp->VK->Prop
noncomputable def Tg (X:Cx) (op:Operator) (t:Kn):Prop:=
 ∀(pins:List (Addr×Obj)) (s:Shared) (σ:St) (H:Hp) (x y:V) (v u:Value) (Q:VK),Inv X pins σ H s->RelV x v->RelV y u->t x y H Q->
  wpAny (model X.prog X.w) X.A (inplaceOp op v u) (EP X pins σ Q) X.xe s
section
variable {X : Cx} {pos : Pos}
noncomputable def gName (i:Nat):TG:=λv σ H Q=>Q (σ.set i (some v)) H
theorem aE {i:Nat} {x:Str} (hN:X.N.Nodup) (hi:X.N[i]?=some x) (hx:Loc X.env.scope x) (hf:X.fn x=true\/X.env.scope.names.lookup x=some .local:=by first | exact .inl rfl | exact .inr rfl | assumption):PG X (.Name x pos) (gName i):=by
 intro pins s σ H v u Q I r h
 exact wpAny_assign_Name (je I hN hi hx r (λs' I'=>⟨_,H,I',h⟩) hf)
noncomputable def gNil:Ds:=λvs σ H Q=>vs=[]/\Q σ H
noncomputable def gCons (t:TG) (u:Ds):Ds:=λvs σ H Q=>∃v r,vs=v::r/\t v σ H λσ' H'=>u r σ' H' Q
theorem b8:GJ X [] gNil:=by
 intro pins s σ H vs us Q I r h
 obtain⟨e,h⟩:=h
 subst e
 cases r
 exact assignInOrder_nil ⟨σ,H,I,h⟩
theorem aS {e:Expr} {es:List Expr} {t:TG} {u:Ds} (h1:PG X e t) (h2:GJ X es u)
  (hs:(assignEach (e::es) X.env).map (·.2)=assign e X.env::(assignEach es X.env).map (·.2):=by rfl):GJ X (e::es) (gCons t u):=by
 intro pins s σ H vs us Q I r h
 obtain⟨v,vr,e1,h⟩:=h
 subst e1
 cases r with
 | cons r rr=>
  rw[hs]
  refine assignInOrder_cons (cy (h1 pins s σ H _ _ _ I r h) λ_ s1 ⟨σ1,H1,I1,q1⟩=>?_)
  exact h2 pins s1 σ1 H1 _ _ Q I1 rr q1
noncomputable def yH (K:PySem.W.Frag) (n:Nat) (t:Ds):TG:=λv σ H Q=>∃a xs,v=.ref a/\d6 K H a xs/\xs.length=n/\t xs σ H Q
theorem Ep {es:List Expr} {k:Nat} {t:Ds} {n:Nat} (hc:X.calm=true) (h:GJ X es t)
  (hn:(assignEach es X.env).length=n:=by rfl) (hst:(assignEach es X.env).findIdx? (·.1)=none:=by rfl):PG X (.Tuple es k pos) (yH X.K n t):=by
 intro pins s σ H v u Q I r hw
 obtain⟨a,xs,e1,hq,hl,hw⟩:=hw
 subst e1
 cases r
 obtain⟨aU,rv,ht,hz⟩:=I.tuple hq
 refine assign_Tuple_tuple (I.ok.hd hc) ht (by simp [hn,<-hl,rv.length]) hst λh' hx=>?_
 have I1:Inv X pins σ H {s with heap:=h'}:=I.kept (t':=s.toks) λb o e=>hx b o (aam (Heap.lt_size e)) e
 exact h pins _ σ H xs _ Q I1 (by simpa using rv) hw
noncomputable def gSub (to ti:TE) (t:yG):TG:=λv σ H Q=>to σ H λo H1=>ti σ H1 λi H2=>t o i v H2 λH3=>Q σ H3
theorem fM {o i:Expr} {to ti:TE} {t:yG} (ho:PE X o to) (hi:PE X i ti) (hs:Eo X t)
  (ha:∀v,assign (.Subscript o i pos) X.env v=(do
   let ov <-holding [v] (eval o X.env)
   let iv <-holding [v,ov] (eval i X.env)
   standAt pos
   holding [v,ov,iv] (setItem ov iv v)
   release [v,ov,iv] []):=by intro _;rfl):PG X (.Subscript o i pos) (gSub to ti t):=by
 intro pins s σ H v u Q I r h
 rw[ha]
 refine wpAny_bind (wpAny_holding (cy (ho pins s σ H _ I h) λov s1 cX=>?_))
 obtain⟨x,H1,I1,r1,q1⟩:=cX
 refine wpAny_bind (wpAny_holding (cy (hi pins s1 σ H1 _ I1 q1) λiv s2 cX=>?_))
 obtain⟨y,H2,I2,r2,q2⟩:=cX
 refine wpAny_bind (wpAny_standAt (wpAny_bind (wpAny_holding (cy (hs pins s2 σ H2 x y v ov iv u _ I2 r1 r2 r q2) λ_ s3 ⟨H3,I3,q3⟩=>?_))))
 exact wpAny_release ⟨σ,H3,I3,q3⟩
noncomputable def tAsg (te:TE) (g:TG):TS:=λD σ H=>te σ H λx H1=>g x σ H1 D.nx
theorem eB {tg e:Expr} {te:TE} {g:TG} (he:PE X e te) (hg:PG X tg g) (hs:swapsWithSole [tg] e pos.line X.env=pure false:=by rfl) (hw:swappedStores [tg] e X.env=pure none:=by rfl)
  (h1:(assignEach [tg] X.env).map (·.2)=[assign tg X.env]:=by rfl):PS X (.Assign [tg] e pos) (tAsg te g):=by
 intro pins s σ H D I h
 refine wpAny_Assign_stores (cy (he pins s σ H _ I h) λv s1 cX=>?_) hs hw
 obtain⟨x,H1,I1,r1,q1⟩:=cX
 rw[h1]
 exact cy (hg pins s1 σ H1 x v _ I1 r1 q1) λ_ s2 q=>q
theorem aF {i:Nat} {x:Str} {e:Expr} {te:TE} {pos':Pos} (hN:X.N.Nodup) (hi:X.N[i]?=some x) (hx:Loc X.env.scope x) (he:PE X e te) (hs:swapsWith e (some (.Name x pos')) pos.line X.env=pure false:=by rfl) (hf:X.fn x=true\/X.env.scope.names.lookup x=some .local:=by first | exact .inl rfl | exact .inr rfl | assumption):
  PS X (.Assign [.Name x pos'] e pos) (tAsg te (gName i)):=by
 intro pins s σ H D I h
 refine wpAny_Assign_Name (cy (he pins s σ H _ I h) λv s1 cX=>?_) hs
 obtain⟨y,H1,I1,r1,q1⟩:=cX
 exact je I1 hN hi hx r1 (λs2 I2=>⟨_,H1,I2,q1⟩) hf
noncomputable def tPar (i j:Nat) (ta:TA):TS:=λD σ H=>ta σ H λvs H1=>∃v w,vs=[v,w]/\D.nx ((σ.set i (some v)).set j (some w)) H1
theorem Er {i j:Nat} {x y:Str} {a b:Expr} {ta:TA} {px py pt:Pos} {kt k2 Lo} (hc:X.calm=true) (hN:X.N.Nodup) (hi:X.N[i]?=some x) (hj:X.N[j]?=some y) (Lp:i≠j)
  (hx:X.env.scope.names.lookup x=some .local) (hy:X.env.scope.names.lookup y=some .local) (ha:PA X [a,b] ta)
  (hw:swappedStores [.Tuple [.Name x px,.Name y py] kt pt] (.Tuple [a,b] k2 Lo) X.env=pure (some [x,y]))
  (hs:swapsWithSole [.Tuple [.Name x px,.Name y py] kt pt] (.Tuple [a,b] k2 Lo) pos.line X.env=pure false:=by rfl):
  PS X (.Assign [.Tuple [.Name x px,.Name y py] kt pt] (.Tuple [a,b] k2 Lo) pos) (tPar i j ta):=by
 intro pins s σ H D I h
 rw[exec_Assign_arm]
 refine wpAny_bind (wpAny_standAt ?_)
 rw[hs]
 refine wpAny_bind (wpAny_pure ?_)
 rw[if_neg (by decide)]
 refine wpAny_bind (Tuple_ (cy (ha _ pins s σ H _ I h) λus s1 cX=>?_))
 obtain⟨vs,H1,I1,r1,q1⟩:=cX
 obtain⟨v,w,e1,q1⟩:=q1
 subst e1
 obtain⟨u1,u2,rfl,rv,qg⟩:∃u1 u2,us=[u1,u2]/\RelV v u1/\RelV w u2:=by
  cases r1 with
  | cons p q=>
   cases q with
   | cons p' q'=>
    cases q'
    exact⟨_,_,rfl,p,p'⟩
 refine wpAny_newObj_type ?_ (by show 2<=sizeLine;decide)
 have I2:Inv X pins σ H1 {s1 with heap:=s1.heap.push {cls:=.type "tuple",data:=.seq [u1,u2].toArray}}:=I1.kept (t':=s1.toks) λb o e=>Heap.get?_push_of_some _ e
 rw[hw]
 refine wpAny_bind (wpAny_pure ?_)
 show wpAny (model X.prog X.w) X.A (do rule "assign.swapped-stores";let items <-unpackItems (.ref s1.heap.objs.size) 2 none;assignInOrder [λv=>bindName X.env y v,λv=>bindName X.env x v] items.reverse;pure Flow.next) _ _ _
 refine wpAny_bind (wpAny_rule (wpAny_bind (unpackItems_tuple (items:=#[u1,u2]) (I.ok.hd hc) (IsTup.new s1.heap _) λh' o6=>?_)))
 have I3:=I2.kept (h':=h') (t':=s1.toks) λb o e=>o6 b o (aam (Heap.lt_size e)) e
 show wpAny _ _ (assignInOrder [λv=>bindName X.env y v,λv=>bindName X.env x v] [u2,u1] >>=λ_=>pure Flow.next) _ _ _
 refine wpAny_bind (assignInOrder_cons (wpAny_bindName (je I3 hN hj (.inl hy) qg (λs2 I4=>?_) (.inr hy))))
 refine assignInOrder_cons (wpAny_bindName (je I4 hN hi (.inl hx) rv (λs3 I5=>assignInOrder_nil (wpAny_pure ?_)) (.inr hx)))
 rw[List.set_comm _ _ (Ne.symm Lp)] at I5
 exact⟨_,H1,I5,q1⟩
noncomputable def Dt (to ti te:TE) (BC:V->V->Hp->VK->Prop) (Ko:Kn) (BD:yG):TS:=λD σ H=>to σ H λo H1=>ti σ H1 λi H2=>BC o i H2 λx H3=>te σ H3 λy H4=>Ko x y H4 λz H5=>BD o i z H5 λH6=>D.nx σ H6
noncomputable def Hi (X:Cx) (t:V->V->Hp->VK->Prop):Prop:=
 ∀(pins:List (Addr×Obj)) (s:Shared) (σ:St) (H:Hp) (o i:V) (ov iv:Value) (Q:VK),Inv X pins σ H s->RelV o ov->RelV i iv->t o i H Q->
  wpAny (model X.prog X.w) X.A (getItem ov iv) (EP X pins σ Q) X.xe s
theorem BE {o i e:Expr} {to ti te:TE} {BC:V->V->Hp->VK->Prop} {Ko:Kn} {BD:yG} {op:Operator} {kQ:Pos} (ho:PE X o to) (hi:PE X i ti) (hg:Hi X BC) (he:PE X e te) (hp:Tg X op Ko) (hs:Eo X BD)
  (ha:∀ov iv new,augStore i ov iv new=(do holding [new,ov,iv] (setItem ov iv new);release [new,ov,iv] [];pure .next):=by intros;rfl):PS X (.AugAssign (.Subscript o i kQ) op e pos) (Dt to ti te BC Ko BD):=by
 intro pins s σ H D I h
 refine wpAny_AugAssign_SubscriptAny (cy (ho pins s σ H _ I h) λov s1 cX=>?_) ha
 obtain⟨x1,H1,I1,r1,q1⟩:=cX
 refine cy (hi pins s1 σ H1 _ I1 q1) λiv s2 cX=>?_
 obtain⟨x2,H2,I2,r2,q2⟩:=cX
 refine cy (hg pins s2 σ H2 x1 x2 ov iv _ I2 r1 r2 q2) λold s3 cX=>?_
 obtain⟨x3,H3,I3,r3,q3⟩:=cX
 refine cy (he pins s3 σ H3 _ I3 q3) λv s4 cX=>?_
 obtain⟨x4,H4,I4,r4,q4⟩:=cX
 refine cy (hp pins s4 σ H4 x3 x4 old v _ I4 r3 r4 q4) λnew s5 cX=>?_
 obtain⟨x5,H5,I5,r5,q5⟩:=cX
 exact cy (hs pins s5 σ H5 x1 x2 x5 ov iv new _ I5 r1 r2 r5 q5) λ_ s6 ⟨H6,I6,q6⟩=>⟨σ,H6,I6,q6⟩
noncomputable def Th (f:Int->Int->Int):Kn:=λx y H Q=>∃i j,x=.int i/\y=.int j/\Q (.int (f i j)) H
theorem Es:Tg X .Sub (Th λi j=>i - j):=by
 intro pins s σ H x y v u Q I r1 r2 h
 obtain⟨i,j,e1,e2,q⟩:=h
 subst e1;subst e2
 obtain⟨t,rfl⟩:=r1
 obtain⟨t',rfl⟩:=r2
 exact isub_int ⟨.int _,H,I.tok _,⟨_,rfl⟩,q⟩
end
section
variable {X : Cx} {pos : Pos}
noncomputable def qh (c:TT) (tb:TS):TS:=λD σ H=>∃W:Nat->St->Hp->Prop,(∃m,W m σ H)/\∀m σ H,W m σ H->
 c σ H λb H1=>if b=true then ∃N:St->Hp->Prop,(∀σ' H',N σ' H'->∃m',m'<m/\W m' σ' H')/\tb {D with nx:=N,ct:=N,bk:=D.nx} σ H1 else D.nx σ H1
theorem gF {c:Expr} {body:List Stmt} {tc:TT} {tb:TS} (hp:PassesOwn (model X.prog X.w) X.A X.env X.xe) (hc:PT X c tc) (hb:uu X body tb):PS X (.While c body [] pos) (qh tc tb):=by
 intro pins s σ H D I h
 obtain⟨W,⟨m0,w0⟩,turn⟩:=h
 refine wpAny_While (codeAny_whileLoop (λn s'=>∃σ' H',Inv X pins σ' H' s'/\W n σ' H') ?_ m0 ⟨σ,H,I,w0⟩)
 rintro n s1 ⟨σ1,H1,I1,w1⟩
 refine wpAny_passesOwn hp (cy (hc pins s1 σ1 H1 _ I1 (turn n σ1 H1 w1)) λb s2 ⟨H2,I2,q2⟩=>?_)
 cases b with
 | true=>
  obtain⟨N,hN,q2⟩:=q2
  rw[if_pos rfl]
  refine wpAny_passesOwn hp (cy (hb pins s2 σ1 H2 _ I2 q2) λf s3 q3=>?_)
  cases f with
  | next=>
   obtain⟨σ3,H3,I3,n3⟩:=q3
   obtain⟨m',hm,w3⟩:=hN σ3 H3 n3
   exact⟨m',hm,σ3,H3,I3,w3⟩
  | cont=>
   obtain⟨σ3,H3,I3,n3⟩:=q3
   obtain⟨m',hm,w3⟩:=hN σ3 H3 n3
   exact⟨m',hm,σ3,H3,I3,w3⟩
  | brk=>exact q3
  | ret v=>exact q3
 | false=>
  rw[if_neg aay]
  exact wpAny_execs_nil ⟨σ1,H2,I2,q2⟩
end
structure It where
 go:Nat->Hp->Prop
 vM:Nat->Hp->V->Hp->Prop
 stop:Nat->Hp->Prop
noncomputable def ic (X:Cx) (pins:List (Addr×Obj)) (H:Hp) (b:Addr):Prop:=
 H b=none/\b≠X.env.locals/\b∉X.fs/\(b∈X.ex\/X.s₀.heap.objs.size<=b)/\(∀x c,X.env.cells.lookup x=some c->c≠b)/\∀p∈X.pn++pins,p.1≠b
theorem Inv.xC {X:Cx} {pins:List (Addr×Obj)} {σ:St} {H H':Hp} {s:Shared} {b:Addr} (I:Inv X pins σ H s) (hb:s.heap.objs.size<=b) (hn:H' b=none):ic X pins H' b:=by
 refine⟨hn,Nat.ne_of_gt (aat I.lt hb),I.Li hb,.inr (aao I.sz hb),λx c e z=>?_,λp hp z=>?_⟩
 ·obtain⟨v,q⟩:=I.cell x c e
  exact absurd (aat q.lt (by rw[z];exact hb)) (aaF _)
 ·exact absurd (aat (Heap.lt_size (I.pin p hp).1) (by rw[z];exact hb)) (aaF _)
structure Turn (P:Program) (w:World) (K:PySem.W.Frag) (tg:Expr) (J:It) (fp:List Addr) (it:Addr) (tn:Nat->Heap->Prop):Prop where
 mem:it∈fp
 obj:∀i h,tn i h->∀b∈fp,∃o,h.get? b=some o/\∀v,o.data≠.cell v
 keep:∀i h h',tn i h->(∀b∈fp,∀o,h.get? b=some o->h'.get? b=some o)->tn i h'
 item:∀(X:Cx),X.prog=P->X.w=w->X.K=K->X.calm=true->∀(i:Nat) (pins:List (Addr×Obj)) (s:Shared) (σ:St) (H:Hp) (E:Value->Shared->Prop),Inv X pins σ H s->(∀b∈fp,ic X pins H b)->tn i s.heap->J.go i H->
  wpAny (model P w) X.A (pyNext (.ref it)) (λr s1=>∃u,r=some u/\
   wpAny (model P w) X.A (letOwnedTupleGo tg (.ref it) u) (λ_ s2=>∃x H',Inv X pins σ H' s2/\RelV x u/\J.vM i H x H'/\tn (i+1) s2.heap/\∀b∈fp,H' b=none) E s1) E s
 done:∀(X:Cx),X.prog=P->X.w=w->X.K=K->X.calm=true->∀(i:Nat) (pins:List (Addr×Obj)) (s:Shared) (σ:St) (H:Hp) (E:Value->Shared->Prop),Inv X pins σ H s->(∀b∈fp,ic X pins H b)->tn i s.heap->J.stop i H->
  wpAny (model P w) X.A (pyNext (.ref it)) (λr s1=>r=none/\Inv X pins σ H s1) E s
 self:∀(A:Around) (i:Nat) (s:Shared) (Q:Value->Shared->Prop) (E:Value->Shared->Prop),tn i s.heap->Q (.ref it) s->wpAny (model P w) A (pyIter (.ref it)) Q E s
abbrev TI:=St->Hp->(It->Hp->Prop)->Prop
noncomputable def Ti (X:Cx) (pins:List (Addr×Obj)) (σ:St) (tg:Expr) (R:It->Hp->Prop) (Du:Value) (s2:Shared):Prop:=
 ∃(it:Addr) (fp:List Addr) (tn:Nat->Heap->Prop) (J:It) (H':Hp),Du=.ref it/\Inv X pins σ H' s2/\Turn X.prog X.w X.K tg J fp it tn/\tn 0 s2.heap/\(∀b∈fp,ic X pins H' b)/\R J H'
noncomputable def PI (X:Cx) (tg iter:Expr) (wi:TI):Prop:=
 ∀(pins:List (Addr×Obj)) (s:Shared) (σ:St) (H:Hp) (R:It->Hp->Prop),Inv X pins σ H s->wi σ H R->
  wpAny (model X.prog X.w) X.A (eval iter X.env) (λv s1=>wpAny (model X.prog X.w) X.A (pyIter v) (Ti X pins σ tg R) X.xe s1) X.xe s
theorem Dv {M:Model} {A:Around} {E:Value->Shared->Prop} {s:Shared} {tg:Expr} {it:Addr} {u:Value} {o:Obj} {n:String} {vs:Array Value} {Q:Unit->Shared->Prop} (ho:s.heap.get? it=some o) (hc:o.cls=.type n) (hd:o.data=.fields vs)
  (hn:["enumerate","zip","dict_itemiterator","dict_reverseitemiterator","odict_iterator","itertools.zip_longest","itertools.pairwise"].contains n=false) (hQ:Q () s):wpAny M A (letOwnedTupleGo tg (.ref it) u) Q E s:=by
 unfold letOwnedTupleGo
 cases tg <;>first
  | exact wpAny_pure hQ
  | (cases u <;>first
    | exact wpAny_pure hQ
    | (refine wpAny_bind (wpAny_load ho ?_)
       rw[hc,hd]
       show wpAny M A (if (["enumerate","zip","dict_itemiterator","dict_reverseitemiterator","odict_iterator","itertools.zip_longest","itertools.pairwise"].contains n && vs[0]?==some (rawInt _))=true then _ else _) Q E s
       rw[if_neg (by intro h;rw[hn,Bool.false_and] at h;cases h)]
       exact wpAny_pure hQ))
noncomputable def vN (K:PySem.W.Frag) (a:Addr):It:=
 ⟨λi H=>∃xs x,aZ K H a xs/\xs[i]?=some x,λi H x H'=>H'=H/\∀xs,aZ K H a xs->xs[i]?=some x,λi H=>∃xs,aZ K H a xs/\xs.length<=i⟩
noncomputable def Vp (K:PySem.W.Frag) (a:Addr):It:=
 ⟨λi H=>∃xs x,d6 K H a xs/\xs[i]?=some x,λi H x H'=>H'=H/\∀xs,d6 K H a xs->xs[i]?=some x,λi H=>∃xs,d6 K H a xs/\xs.length<=i⟩
noncomputable def Hj (lo:Int) (n:Nat):It:=⟨λi _=>i<n,λi H x H'=>H'=H/\x=.int (lo+i),λi _=>n<=i⟩
theorem xE {P:Program} {w:World} {K:PySem.W.Frag} {tg:Expr} (a it:Addr):Turn P w K tg (vN K a) [it] it (λi h=>h.IsListIter it a i) where
 mem:=by simp
 obj:=λi h st b hb=>by
  have e:b=it:=by simpa using hb
  subst e
  obtain⟨o,e,c,d⟩:=st
  exact⟨o,e,λv z=>by rw[d] at z;cases z⟩
 keep:=λi h h' st k=>st.at λo e=>k it (by simp) o e
 item:=by
  intro X hP hw hK hc i pins s σ H E I hf st hg
  subst hP hw hK
  obtain⟨xs,x,hq,hx⟩:=hg
  obtain⟨aU,rv,p,hz⟩:=I.list hq
  obtain⟨u,hu,ru⟩:=rv.get hx
  obtain⟨f0,f1,f2,f3,f4,f5⟩:=hf it (by simp)
  refine wpAny_pyNext_list_item st p.isList (x:=u) (by simpa using hu) λh' Bg sb=>?_
  have I1:Inv X pins σ H {s with heap:=h'}:=I.turned (t':=s.toks) (λb o hb e=>(sb.2 b hb).trans e) f0 f1 f3 f4 f5
  obtain⟨o,e,c,d⟩:=id Bg
  exact⟨u,rfl,Dv (s:={s with heap:=h'}) e c d (by decide) ⟨x,H,I1,ru,⟨rfl,λys hy=>by rw[I.jf hy hq];exact hx⟩,Bg,λb hb=>(hf b hb).1⟩⟩
 done:=by
  intro X hP hw hK hc i pins s σ H E I hf st hg
  subst hP hw hK
  obtain⟨xs,hq,hx⟩:=hg
  obtain⟨aU,rv,p,hz⟩:=I.list hq
  obtain⟨f0,f1,f2,f3,f4,f5⟩:=hf it (by simp)
  have hl:=rv.length
  exact wpAny_pyNext_list_end (I.ok.hd hc) st p.isList (by simp;omega) λh' eb=>⟨rfl,I.turned (t':=s.toks) (λb o hb e=>eb b o hb e) f0 f1 f3 f4 f5⟩
 self:=λ_ _ _ _ _ st h=>wpAny_pyIter_listiter st h
theorem uw {P:Program} {w:World} {K:PySem.W.Frag} {tg:Expr} (it:Addr) (lo:Int) (n:Nat):Turn P w K tg (Hj lo n) [it] it (λi h=>IsRangeIter h it (lo+ (i:Nat)*1) ((n:Int) - (i:Nat)) 1) where
 mem:=by simp
 obj:=λi h st b hb=>by
  have e:b=it:=by simpa using hb
  subst e
  exact⟨_,st,λv z=>by
   have z':Data.fields _=Data.cell v:=z
   cases z'⟩
 keep:=λi h h' st k=>k it (by simp) _ st
 item:=by
  intro X hP hw hK hc i pins s σ H E I hf st hg
  subst hP hw hK
  obtain⟨f0,f1,f2,f3,f4,f5⟩:=hf it (by simp)
  have W:=Walks.range (prog:=X.prog) (w:=X.w) (I.ok.hd hc) it lo 1 n
  refine W.item i s _ _ hg st λv h' tk hv Bg kk=>?_
  obtain⟨t,rfl⟩:=hv
  have I1:Inv X pins σ H {s with heap:=h',toks:=tk}:=I.turned (λb o hb e=>kk b o (by simpa using hb) e) f0 f1 f3 f4 f5
  refine⟨_,rfl,Dv (s:={s with heap:=h',toks:=tk}) (n:="range_iterator") Bg rfl rfl (by decide) ⟨.int (lo+i),H,I1,⟨t,?_⟩,⟨rfl,rfl⟩,Bg,λb hb=>(hf b hb).1⟩⟩
  rw[Int.mul_one]
 done:=by
  intro X hP hw hK hc i pins s σ H E I hf st hg
  subst hP hw hK
  obtain⟨f0,f1,f2,f3,f4,f5⟩:=hf it (by simp)
  exact wpAny_pyNext_range_end (I.ok.hd hc) st (by have:n<=i:=hg;omega) λh' eb=>⟨rfl,I.turned (t':=s.toks) (λb o hb e=>eb b o hb e) f0 f1 f3 f4 f5⟩
 self:=λ_ _ _ _ _ st h=>wpAny_pyIter_rangeiter st h
end L2
namespace L2
open PySem PySem.Spec PyProof.Rows
section
variable {X : Cx} {tg : Expr}
noncomputable def iList (K:PySem.W.Frag) (tl:TE):TI:=λσ H R=>tl σ H λx H1=>∃a,x=.ref a/\(∃xs,aZ K H1 a xs)/\R (vN K a) H1
noncomputable def iTup (K:PySem.W.Frag) (tl:TE):TI:=λσ H R=>tl σ H λx H1=>∃a,x=.ref a/\(∃xs,d6 K H1 a xs)/\R (Vp K a) H1
theorem BF {l:Expr} {tl:TE} (hl:PE X l tl):PI X tg l (iList X.K tl):=by
 intro pins s σ H R I h
 refine cy (hl pins s σ H _ I h) λv s1 cX=>?_
 obtain⟨x,H1,I1,r1,q1⟩:=cX
 obtain⟨a,e,⟨xs,hq⟩,q⟩:=q1
 subst e
 cases r1
 obtain⟨aU,rv,p,hz⟩:=I1.list hq
 refine wpAny_pyIter_list p.isList ?_
 refine⟨s1.heap.objs.size,[s1.heap.objs.size],_,_,H1,rfl,I1.kept (t':=s1.toks) λb o e=>Heap.get?_push_of_some _ e,xE a _,⟨_,Heap.get?_push_size _ rfl,rfl,rfl⟩,λb hb=>?_,q⟩
 have e:b=s1.heap.objs.size:=by simpa using hb
 subst e
 exact I1.xC (aag _) (I1.bU.fresh (aag _))
theorem si {pins:List (Addr×Obj)} {σ:St} {H:Hp} {s:Shared} {R:It->Hp->Prop} {E:Value->Shared->Prop} {lo hi:Int} {t u v:Tok} {tk:Nat} (I:Inv X pins σ H s) (h1:-(2^62)<=lo) (h2:lo<2^62) (h3:-(2^62)<=hi) (h4:hi<2^62)
  (q:R (Hj lo (hi - lo).toNat) H):wpAny (model X.prog X.w) X.A (pyIter (.ref s.heap.objs.size)) (Ti X pins σ tg R) E {s with heap:=s.heap.push {cls:=.type "range",data:=.fields #[.int lo t,.int hi u,.int 1 v]},toks:=tk}:=by
 refine wpAny_pyIter_range (IsRange.new ..) (small_one h1 h2 h3 h4) ?_
 have I1:Inv X pins σ H {s with heap:=s.heap.push {cls:=.type "range",data:=.fields #[.int lo t,.int hi u,.int 1 v]},toks:=tk}:=I.kept λb o e=>Heap.get?_push_of_some _ e
 refine⟨(s.heap.push {cls:=.type "range",data:=.fields #[.int lo t,.int hi u,.int 1 v]}).objs.size,[(s.heap.push {cls:=.type "range",data:=.fields #[.int lo t,.int hi u,.int 1 v]}).objs.size],_,_,H,rfl,
  I1.kept (t':=tk) λb o e=>Heap.get?_push_of_some _ e,uw _ lo (hi - lo).toNat,?_,λb hb=>?_,q⟩
 ·have e1:lo+ ((0:Nat):Int)*1=lo:=by simp
  have e2:(((hi - lo).toNat:Nat):Int) - ((0:Nat):Int)=Builtin.Range.rangeSize lo hi 1:=by rw[rangeSize_one];split <;>omega
  show IsRangeIter _ _ (lo+ ((0:Nat):Int)*1) ((((hi - lo).toNat:Nat):Int) - ((0:Nat):Int)) 1
  rw[e1,e2]
  exact Heap.get?_push_size _ rfl
 ·have e:b=(s.heap.push {cls:=.type "range",data:=.fields #[.int lo t,.int hi u,.int 1 v]}).objs.size:=by simpa using hb
  subst e
  exact I1.xC (aag _) (I1.bU.fresh (aag _))
noncomputable def iRng1 (ta:TA):TI:=λσ H R=>ta σ H λvs H1=>∃j:Int,vs=[.int j]/\-(2^62)<=j/\j<2^62/\R (Hj 0 j.toNat) H1
noncomputable def iRng2 (ta:TA):TI:=λσ H R=>ta σ H λvs H1=>∃i j:Int,vs=[.int i,.int j]/\(-(2^62)<=i/\i<2^62/\-(2^62)<=j/\j<2^62)/\R (Hj i (j - i).toNat) H1
theorem di {a:Expr} {ta:TA} {p pos:Pos} (hg:Gl X "range") (hm:X.mg "range"=none) (ha:PA X [a] ta) (hs:starEach [a] X.env=[(false,eval a X.env)]:=by rfl):PI X tg (.Call (.Name "range" p) [a] [] pos) (iRng1 ta):=by
 intro pins s σ H R I h
 refine Call_ (iJ I hg hm boot_range (PyProof.Rows.callWith_type1 (cy (ha pos pins s σ H _ I h) λus s1 cX=>?_) hs rfl))
 obtain⟨vs,H1,I1,r1,q1⟩:=cX
 obtain⟨j,e,q1,q2,q⟩:=q1
 subst e
 cases r1 with
 | cons r rr=>
  cases rr
  obtain⟨t,rfl⟩:=r
  exact call_range_1 (si I1 (by omega) (by omega) q1 q2 (by simpa using q))
theorem xF {a b:Expr} {ta:TA} {p pos:Pos} (hg:Gl X "range") (hm:X.mg "range"=none) (ha:PA X [a,b] ta) (hs:starEach [a,b] X.env=[(false,eval a X.env),(false,eval b X.env)]:=by rfl) (Dw:starEach [b] X.env=[(false,eval b X.env)]:=by rfl):
  PI X tg (.Call (.Name "range" p) [a,b] [] pos) (iRng2 ta):=by
 intro pins s σ H R I h
 refine Call_ (iJ I hg hm boot_range (PyProof.Rows.callWith_type1 (cy (ha pos pins s σ H _ I h) λus s1 cX=>?_) (by rw[hs,Dw]) (by rw[Dw];rfl)))
 obtain⟨vs,H1,I1,r1,q1⟩:=cX
 obtain⟨i,j,e,⟨q1,q2,q3,q4⟩,q⟩:=q1
 subst e
 cases r1 with
 | cons r rr=>
  cases rr with
  | cons r' rr=>
   cases rr
   obtain⟨t,rfl⟩:=r
   obtain⟨t',rfl⟩:=r'
   exact call_range_2 (si I1 q1 q2 q3 q4 q)
noncomputable def Hk (wi:TI) (g:TG) (tb:TS):TS:=λD σ H=>wi σ H λJ H1=>∃W:Nat->Nat->St->Hp->Prop,(∃m,W 0 m σ H1)/\∀i m σ H,W i m σ H->
 (J.stop i H/\D.nx σ H)\/(J.go i H/\∃N:St->Hp->Prop,(∀σ' H',N σ' H'->∃m',m'<m/\W (i+1) m' σ' H')/\∀x H',J.vM i H x H'->g x σ H' λσ2 H2=>tb {D with nx:=N,ct:=N,bk:=D.nx} σ2 H2)
noncomputable def mL (fp:List Addr) (h:Heap):List (Addr×Obj):=fp.filterMap λb=>(h.get? b).map λo=>(b,o)
theorem fN {fp:List Addr} {h:Heap} {b:Addr} {o:Obj} (hb:b∈fp) (e:h.get? b=some o):(b,o)∈mL fp h:=List.mem_filterMap.mpr ⟨b,hb,by rw[e];rfl⟩
theorem xG {fp:List Addr} {h:Heap} {p:Addr×Obj} (hp:p∈mL fp h):p.1∈fp/\h.get? p.1=some p.2:=by
 obtain⟨b,hb,e⟩:=List.mem_filterMap.mp hp
 cases q:h.get? b with
 | none=>rw[q] at e;cases e
 | some o=>
  rw[q] at e
  have e':(b,o)=p:=aax e
  subst e'
  exact⟨hb,q⟩
theorem Inv.pinned {pins:List (Addr×Obj)} {σ:St} {H:Hp} {s:Shared} {fp:List Addr} (I:Inv X pins σ H s) (hf:∀b∈fp,ic X pins H b) (ho:∀b∈fp,∃o,s.heap.get? b=some o/\∀v,o.data≠.cell v):Inv X (pins++mL fp s.heap) σ H s:=
 I.jd λp hp=>(List.mem_append.mp hp).elim (λz=>I.pin p (aaH _ z)) λz=>by
  obtain⟨hb,e⟩:=xG z
  obtain⟨f0,f1,f2,_⟩:=hf p.1 hb
  obtain⟨o,e',d⟩:=ho p.1 hb
  rw[e] at e';cases e'
  exact⟨e,f0,f1,f2,d⟩
theorem Inv.mN {pins pl:List (Addr×Obj)} {σ:St} {H:Hp} {s:Shared} (I:Inv X (pins++pl) σ H s):Inv X pins σ H s:=I.jd λp hp=>I.pin p (aaH _ (abo _ hp))
theorem cz {iter:Expr} {body:List Stmt} {wi:TI} {g:TG} {tb:TS} {pos:Pos} (hp:PassesOwn (model X.prog X.w) X.A X.env X.xe) (hc:X.calm=true) (hi:PI X tg iter wi) (hg:PG X tg g) (hb:uu X body tb)
  (hs:∀x,foldedSetIterable iter X.env x=pure x:=by intro _;rfl):PS X (.For tg iter body [] pos) (Hk wi g tb):=by
 intro pins s σ H D I h
 refine wpAny_For (cy (hi pins s σ H _ I h) λv s1 h1=>cy h1 λDu s2 h2=>?_) hs
 obtain⟨it,fp,tn,J,H2,e,I2,T,ux,f2,W,⟨m0,w0⟩,turn⟩:=h2
 subst e
 have uy:∀{H':Hp},(∀b∈fp,H' b=none)->∀b∈fp,ic X pins H' b:=λhn b hb=>⟨hn b hb,(f2 b hb).2⟩
 refine codeAny_forLoop_any (λn s'=>∃i σ' H',Inv X pins σ' H' s'/\tn i s'.heap/\(∀b∈fp,H' b=none)/\W i n σ' H') ?_ m0 ⟨0,σ,H2,I2,ux,λb hb=>(f2 b hb).1,w0⟩
 rintro n s3 ⟨i,σ3,H3,I3,Tj,Tn,w3⟩
 rcases turn i n σ3 H3 w3 with ⟨stop,qn⟩ | ⟨go,N,hN,step⟩
 ·refine wpAny_passesOwn hp (cy (T.done X rfl rfl rfl hc i pins s3 σ3 H3 X.xe I3 (uy Tn) Tj stop) λr s4 ⟨hr,I4⟩=>?_)
  subst hr
  exact wpAny_execs_nil ⟨σ3,H3,I4,qn⟩
 ·refine wpAny_passesOwn hp (cy (T.item X rfl rfl rfl hc i pins s3 σ3 H3 X.xe I3 (uy Tn) Tj go) λr s4 ⟨u,hr,h4⟩=>?_)
  subst hr
  refine wpAny_passesOwn hp (cy h4 λ_ s5 cX=>?_)
  obtain⟨x,H5,I5,r5,y5,Lq,Vq⟩:=cX
  have Vr:=I5.pinned (uy Vq) (T.obj _ _ Lq)
  refine wpAny_passesOwn hp (cy (hg _ s5 σ3 H5 x u _ Vr r5 (step x H5 y5)) λ_ s6 ⟨σ6,H6,I6,q6⟩=>?_)
  refine wpAny_passesOwn hp (cy (hb _ s6 σ6 H6 _ I6 q6) λf s7 q7=>?_)
  have again:∀{σ7:St} {H7:Hp},Inv X (pins++mL fp s5.heap) σ7 H7 s7->N σ7 H7->∃m,m<n/\∃i σ' H',Inv X pins σ' H' s7/\tn i s7.heap/\(∀b∈fp,H' b=none)/\W i m σ' H':=λ{σ7 H7} I7 n7=>by
   obtain⟨m',hm,w7⟩:=hN σ7 H7 n7
   refine⟨m',hm,i+1,σ7,H7,I7.mN,T.keep _ _ _ Lq λb hb o e=>(I7.pin (b,o) (aaH _ (aaH _ (fN hb e)))).1,λb hb=>?_,w7⟩
   obtain⟨o,e,d⟩:=T.obj _ _ Lq b hb
   exact(I7.pin (b,o) (aaH _ (aaH _ (fN hb e)))).2.1
  cases f with
  | next=>obtain⟨σ7,H7,I7,n7⟩:=q7;exact again I7 n7
  | cont=>obtain⟨σ7,H7,I7,n7⟩:=q7;exact again I7 n7
  | brk=>obtain⟨σ7,H7,I7,q7⟩:=q7;exact⟨σ7,H7,I7.mN,q7⟩
  | ret v=>obtain⟨x7,σ7,H7,I7,r7,q7⟩:=q7;exact⟨x7,σ7,H7,I7.mN,r7,q7⟩
end
theorem sj {c:TT} {tb:TS} {D:Ends} {σ:St} {H:Hp} (Pv:St->Hp->Prop) (μ:St->Hp->Nat) (h0:Pv σ H)
  (hs:∀σ H,Pv σ H->c σ H λb H1=>if b=true then tb {D with nx:=λσ' H'=>Pv σ' H'/\μ σ' H'<μ σ H,ct:=λσ' H'=>Pv σ' H'/\μ σ' H'<μ σ H,bk:=D.nx} σ H1 else D.nx σ H1)
  (mono:∀σ H Q Q',(∀b H1,Q b H1->Q' b H1)->c σ H Q->c σ H Q'):qh c tb D σ H:=by
 refine⟨λm σ H=>m=μ σ H/\Pv σ H,⟨_,rfl,h0⟩,?_⟩
 rintro m σ H ⟨rfl,p⟩
 refine mono σ H _ _ (λb H1 q=>?_) (hs σ H p)
 cases b with
 | true=>exact⟨_,λσ' H' ⟨p',l⟩=>⟨_,l,rfl,p'⟩,q⟩
 | false=>exact q
end L2
namespace L2
open PySem PySem.Spec PyProof.Rows
abbrev R2:=V->V->Hp->VK->Prop
noncomputable def jO (X:Cx) (f:Value->Value->Sem Value) (r:R2):Prop:=
 ∀(pins:List (Addr×Obj)) (s:Shared) (σ:St) (H:Hp) (x y:V) (v u:Value) (Q:VK),Inv X pins σ H s->RelV x v->RelV y u->r x y H Q->
  wpAny (model X.prog X.w) X.A (f v u) (EP X pins σ Q) X.xe s
noncomputable def Kp (X:Cx) (f:Value->Sem Value) (r:V->Hp->VK->Prop):Prop:=
 ∀(pins:List (Addr×Obj)) (s:Shared) (σ:St) (H:Hp) (x:V) (v:Value) (Q:VK),Inv X pins σ H s->RelV x v->r x H Q->
  wpAny (model X.prog X.w) X.A (f v) (EP X pins σ Q) X.xe s
noncomputable def cU (X:Cx) (f:Value) (r:List V->Hp->VK->Prop):Prop:=
 ∀(pins:List (Addr×Obj)) (s:Shared) (σ:St) (H:Hp) (xs:List V) (us:List Value) (Q:VK),Inv X pins σ H s->bu xs us->r xs H Q->
  wpAny (model X.prog X.w) X.A (call f us) (EP X pins σ Q) X.xe s
noncomputable def tOp (r:R2) (ta tb:TE):TE:=λσ H Q=>ta σ H λx H1=>tb σ H1 λy H2=>r x y H2 Q
noncomputable def tUn (r:V->Hp->VK->Prop) (ta:TE):TE:=λσ H Q=>ta σ H λx H1=>r x H1 Q
noncomputable def rI (C:Int->Int->Prop) (g:Int->Int->V):R2:=λx y H Q=>∃i j,x=.int i/\y=.int j/\C i j/\Q (g i j) H
noncomputable def rI0 (g:Int->Int->V):R2:=λx y H Q=>∃i j,x=.int i/\y=.int j/\Q (g i j) H
noncomputable def rU (g:Int->V):V->Hp->VK->Prop:=λx H Q=>∃i,x=.int i/\Q (g i) H
section
variable {X : Cx} {a b c : Expr} {ta tb tc : TE} {pos : Pos}
theorem Et (ha:PE X a ta) (hb:PE X b tb) {pins:List (Addr×Obj)} {s:Shared} {σ:St} {H:Hp} {R:V->V->Hp->Prop} (I:Inv X pins σ H s)
  (h:ta σ H λx H1=>tb σ H1 λy H2=>R x y H2) {Q:Value->Shared->Prop} {f:Value->Value->Sem Value}
  (hf:∀v u s2 x y H2,Inv X pins σ H2 s2->RelV x v->RelV y u->R x y H2->wpAny (model X.prog X.w) X.A (f v u) Q X.xe s2):
  wpAny (model X.prog X.w) X.A (eval a X.env) (λv s₁=>wpAny (model X.prog X.w) X.A (eval b X.env) (λu s₂=>wpAny (model X.prog X.w) X.A (f v u) Q X.xe s₂) X.xe s₁) X.xe s:=by
 refine cy (ha pins s σ H _ I h) λv s1 cX=>?_
 obtain⟨x,H1,I1,r1,q1⟩:=cX
 refine cy (hb pins s1 σ H1 _ I1 q1) λu s2 cX=>?_
 obtain⟨y,H2,I2,r2,q2⟩:=cX
 exact hf v u s2 x y H2 I2 r1 r2 q2
theorem aD {op:Operator} {r:R2} (ho:jO X (binaryOp op) r) (ha:PE X a ta) (hb:PE X b tb):PE X (.BinOp a op b pos) (tOp r ta tb):=by
 intro pins s σ H Q I h
 exact wpAny_BinOp (Et ha hb I h λv u s2 x y H2 I2 rx ry q=>ho pins s2 σ H2 x y v u Q I2 rx ry q)
theorem sk {op:UnaryOp} {r:V->Hp->VK->Prop} (ho:Kp X (unaryOp op) r) (ha:PE X a ta):PE X (.UnaryOp op a pos) (tUn r ta):=by
 intro pins s σ H Q I h
 exact UnaryOp_ (cy (ha pins s σ H _ I h) λv s1 ⟨x,H1,I1,r1,q1⟩=>ho pins s1 σ H1 x v Q I1 r1 q1)
theorem Hl {f:Value->Value->Sem Value} {C:Int->Int->Prop} {g:Int->Int->Int}
  (rule:∀(i j:Int) (t u:Tok) (s:Shared) (Q:Value->Shared->Prop) (E:Value->Shared->Prop),C i j->Q (.int (g i j) s.toks) {s with toks:=s.toks+1}->wpAny (model X.prog X.w) X.A (f (.int i t) (.int j u)) Q E s):
  jO X f (rI C λi j=>.int (g i j)):=by
 intro pins s σ H x y v u Q I rx ry h
 obtain⟨i,j,rfl,rfl,hc,q⟩:=h
 obtain⟨t,rfl⟩:=rx
 obtain⟨t',rfl⟩:=ry
 exact rule i j t t' s _ _ hc ⟨.int (g i j),H,I.tok _,⟨_,rfl⟩,q⟩
theorem Hm {f:Value->Value->Sem Value} {g:Int->Int->Int}
  (rule:∀(i j:Int) (t u:Tok) (s:Shared) (Q:Value->Shared->Prop) (E:Value->Shared->Prop),Q (.int (g i j) s.toks) {s with toks:=s.toks+1}->wpAny (model X.prog X.w) X.A (f (.int i t) (.int j u)) Q E s):
  jO X f (rI0 λi j=>.int (g i j)):=by
 intro pins s σ H x y v u Q I rx ry h
 obtain⟨i,j,rfl,rfl,q⟩:=h
 obtain⟨t,rfl⟩:=rx
 obtain⟨t',rfl⟩:=ry
 exact rule i j t t' s _ _ ⟨.int (g i j),H,I.tok _,⟨_,rfl⟩,q⟩
theorem Hn {f:Value->Value->Sem Value} {g:Int->Int->Bool}
  (rule:∀(i j:Int) (t u:Tok) (s:Shared) (Q:Value->Shared->Prop) (E:Value->Shared->Prop),Q (.bool (g i j)) s->wpAny (model X.prog X.w) X.A (f (.int i t) (.int j u)) Q E s):
  jO X f (rI0 λi j=>.bl (g i j)):=by
 intro pins s σ H x y v u Q I rx ry h
 obtain⟨i,j,rfl,rfl,q⟩:=h
 obtain⟨t,rfl⟩:=rx
 obtain⟨t',rfl⟩:=ry
 exact rule i j t t' s _ _ ⟨.bl (g i j),H,I,rfl,q⟩
noncomputable def CPow (i j:Int):Prop:=0<=j/\j<=1000000/\i.natAbs<2^64
theorem br:jO X (binaryOp .Add) (rI0 λi j=>.int (i+j)):=Hm λ_ _ _ _ _ _ _ q=>add_int q
theorem iK:jO X (binaryOp .Sub) (rI0 λi j=>.int (i - j)):=Hm λ_ _ _ _ _ _ _ q=>sub_int q
theorem Eu:jO X (binaryOp .Mod) (rI (λ_ j=>0<j) λi j=>.int (i % j)):=Hl λi j _ _ _ _ _ hc q=>by
 have h1:(0:Int)<j:=hc
 exact mod_int' (by omega) (by rw[Int.fmod_eq_emod_of_nonneg i (by omega)];exact q)
theorem iL:jO X (binaryOp .Pow) (rI CPow λi j=>.int (i^j.toNat)):=Hl λ_ _ _ _ _ _ _ hc q=>pow_int_small hc.1 hc.2.1 hc.2.2 q
theorem Vs {f:Value->Sem Value} {g:Int->Int}
  (rule:∀(i:Int) (t:Tok) (s:Shared) (Q:Value->Shared->Prop) (E:Value->Shared->Prop),Q (.int (g i) s.toks) {s with toks:=s.toks+1}->wpAny (model X.prog X.w) X.A (f (.int i t)) Q E s):
  Kp X f (rU λi=>.int (g i)):=by
 intro pins s σ H x v Q I rx h
 obtain⟨i,rfl,q⟩:=h
 obtain⟨t,rfl⟩:=rx
 exact rule i t s _ _ ⟨.int (g i),H,I.tok _,⟨_,rfl⟩,q⟩
theorem mO:Kp X (unaryOp .USub) (rU λi=>.int (-i)):=Vs λ_ _ _ _ _ q=>neg_int q
end
noncomputable def uz:V->V->Bool
 | .cB,.cB=>true | .cB,.int _=>true | .int _,.cB=>true | .cB,.bl _=>true | .bl _,.cB=>true | .cB,.str _=>true | .str _,.cB=>true
 | .int _,.int _=>true | .bl _,.bl _=>true | .str _,.str _=>true | .yt _,.yt _=>true
 | .int _,.str _=>true | .str _,.int _=>true | .bl _,.str _=>true | .str _,.bl _=>true
 | _,_=>false
noncomputable def rEq:R2:=λx y H Q=>uz x y=true/\Q (.bl (decide (x=y))) H
noncomputable def rNe:R2:=λx y H Q=>uz x y=true/\Q (.bl (!decide (x=y))) H
theorem vO {i j:Int}:decide (V.int i=V.int j)=(i==j):=by
 rw[Bool.eq_iff_iff]
 simp
theorem yI {i j:Bool}:decide (V.bl i=V.bl j)=(i==j):=by
 rw[Bool.eq_iff_iff]
 simp
theorem vP {i j:Str}:decide (V.str i=V.str j)=(i==j):=by
 rw[Bool.eq_iff_iff]
 simp
theorem vQ {i j:Array UInt8}:decide (V.yt i=V.yt j)=(i.toList==j.toList):=by
 rw[Bool.eq_iff_iff]
 cases i
 cases j
 simp
section
variable {X : Cx} {a b c : Expr} {ta tb tc : TE} {pos : Pos}
theorem bE {pins:List (Addr×Obj)} {σ:St} {H:Hp} {s:Shared} {Q:VK} {k k':Bool} (I:Inv X pins σ H s) (q:Q (.bl k) H) (e:k=k'):EP X pins σ Q (.bool k') s:=by
 subst e
 exact⟨.bl k,H,I,rfl,q⟩
theorem cV:jO X (compareOp .Eq) rEq:=by
 intro pins s σ H x y v u Q I rx ry h
 obtain⟨hs,q⟩:=h
 cases x with
 | cB=>
  cases rx
  cases y with
  | cB=>cases ry;exact PySem.EqNone.eq_none_none (bE I q (by simp))
  | bl j=>cases ry;exact PySem.EqNone.eq_none_bool (bE I q (by simp))
  | int j=>obtain⟨t',rfl⟩:=ry;exact PySem.EqNone.eq_none_int (bE I q (by simp))
  | str j=>obtain⟨t',rfl⟩:=ry;exact PySem.EqNone.eq_none_str (bE I q (by simp))
  | _=>exact absurd (show false=true from hs) aay
 | bl i=>
  cases rx
  cases y with
  | cB=>cases ry;exact PySem.EqNone.eq_bool_none (bE I q (by simp))
  | bl j=>cases ry;exact eq_bool (bE I q yI)
  | str j=>obtain⟨t',rfl⟩:=ry;exact PySem.EqMixed.eq_bool_str (bE I q (by simp))
  | _=>exact absurd (show false=true from hs) aay
 | int i=>
  obtain⟨t,rfl⟩:=rx
  cases y with
  | cB=>cases ry;exact PySem.EqNone.eq_int_none (bE I q (by simp))
  | int j=>obtain⟨t',rfl⟩:=ry;exact eq_int (bE I q vO)
  | str j=>obtain⟨t',rfl⟩:=ry;exact PySem.EqMixed.eq_int_str (bE I q (by simp))
  | _=>exact absurd (show false=true from hs) aay
 | str i=>
  obtain⟨t,rfl⟩:=rx
  cases y with
  | cB=>cases ry;exact PySem.EqNone.eq_str_none (bE I q (by simp))
  | bl j=>cases ry;exact PySem.EqMixed.eq_str_bool (bE I q (by simp))
  | int j=>obtain⟨t',rfl⟩:=ry;exact PySem.EqMixed.eq_str_int (bE I q (by simp))
  | str j=>obtain⟨t',rfl⟩:=ry;exact eq_str (bE I q vP)
  | _=>exact absurd (show false=true from hs) aay
 | yt i=>
  obtain⟨t,rfl⟩:=rx
  cases y with
  | yt j=>obtain⟨t',rfl⟩:=ry;exact PySem.W.eq_bytes (bE I q vQ)
  | _=>exact absurd (show false=true from hs) aay
 | _=>cases y <;>exact absurd (show false=true from hs) aay
theorem vR:jO X (compareOp .NotEq) rNe:=by
 intro pins s σ H x y v u Q I rx ry h
 obtain⟨hs,q⟩:=h
 cases x with
 | cB=>
  cases rx
  cases y with
  | cB=>cases ry;exact PySem.EqNone.ne_none_none (bE I q (by simp))
  | bl j=>cases ry;exact PySem.EqNone.ne_none_bool (bE I q (by simp))
  | int j=>obtain⟨t',rfl⟩:=ry;exact PySem.EqNone.ne_none_int (bE I q (by simp))
  | str j=>obtain⟨t',rfl⟩:=ry;exact PySem.EqNone.ne_none_str (bE I q (by simp))
  | _=>exact absurd (show false=true from hs) aay
 | bl i=>
  cases rx
  cases y with
  | cB=>cases ry;exact PySem.EqNone.ne_bool_none (bE I q (by simp))
  | bl j=>cases ry;exact ne_bool (bE I q (congrArg not yI))
  | str j=>obtain⟨t',rfl⟩:=ry;exact PySem.EqMixed.ne_bool_str (bE I q (by simp))
  | _=>exact absurd (show false=true from hs) aay
 | int i=>
  obtain⟨t,rfl⟩:=rx
  cases y with
  | cB=>cases ry;exact PySem.EqNone.ne_int_none (bE I q (by simp))
  | int j=>obtain⟨t',rfl⟩:=ry;exact ne_int (bE I q (congrArg not vO))
  | str j=>obtain⟨t',rfl⟩:=ry;exact PySem.EqMixed.ne_int_str (bE I q (by simp))
  | _=>exact absurd (show false=true from hs) aay
 | str i=>
  obtain⟨t,rfl⟩:=rx
  cases y with
  | cB=>cases ry;exact PySem.EqNone.ne_str_none (bE I q (by simp))
  | bl j=>cases ry;exact PySem.EqMixed.ne_str_bool (bE I q (by simp))
  | int j=>obtain⟨t',rfl⟩:=ry;exact PySem.EqMixed.ne_str_int (bE I q (by simp))
  | str j=>obtain⟨t',rfl⟩:=ry;exact ne_str (bE I q (congrArg not vP))
  | _=>exact absurd (show false=true from hs) aay
 | yt i=>
  obtain⟨t,rfl⟩:=rx
  cases y with
  | yt j=>obtain⟨t',rfl⟩:=ry;exact PySem.W.ne_bytes (bE I q (congrArg not vQ))
  | _=>exact absurd (show false=true from hs) aay
 | _=>cases y <;>exact absurd (show false=true from hs) aay
theorem o8:jO X (compareOp .Lt) (rI0 λi j=>.bl (decide (i<j))):=Hn λ_ _ _ _ _ _ _ q=>lt_int q
theorem kh:jO X (compareOp .Gt) (rI0 λi j=>.bl (decide (j<i))):=Hn λ_ _ _ _ _ _ _ q=>gt_int q
theorem uA:jO X (compareOp .Is) (λx y H Q=>y=.cB/\Q (.bl (decide (x=.cB))) H):=by
 intro pins s σ H x y v u Q I rx ry h
 obtain⟨rfl,q⟩:=h
 cases ry
 refine is_none_gen (bE I q ?_)
 cases x <;>first
  | (cases rx;rfl)
  | (obtain⟨t,rfl⟩:=rx;rfl)
theorem BG:jO X (compareOp .IsNot) (λx y H Q=>y=.cB/\Q (.bl (!decide (x=.cB))) H):=by
 intro pins s σ H x y v u Q I rx ry h
 obtain⟨rfl,q⟩:=h
 cases ry
 refine isnot_none_gen (bE I q ?_)
 cases x <;>first
  | (cases rx;rfl)
  | (obtain⟨t,rfl⟩:=rx;rfl)
theorem aV (b:Expr) {op:CmpOp} (h:op≠.In:=by decide) (h2:op≠.NotIn:=by decide):behindInMarks op b=false:=by
 have e1:(op==CmpOp.In)=false:=by cases op <;>first | rfl | exact absurd rfl h
 have e2:(op==CmpOp.NotIn)=false:=by cases op <;>first | rfl | exact absurd rfl h2
 cases b <;>simp [behindInMarks,e1,e2]
theorem qk {op:CmpOp} {r:R2} (ho:jO X (compareOp op) r) (ha:PE X a ta) (hb:PE X b tb) (hm:behindInMarks op b=false):PE X (.Compare a [op] [b] pos) (tOp r ta tb):=by
 intro pins s σ H Q I h
 exact wpAny_Compare1 (Et ha hb I h λv u s2 x y H2 I2 rx ry q=>ho pins s2 σ H2 x y v u Q I2 rx ry q) hm
noncomputable def tTest (t:TE):TT:=λσ H Q=>t σ H λx H'=>∃k,x=.bl k/\Q k H'
theorem aQ {op:CmpOp} {r:R2} (ho:jO X (compareOp op) r) (ha:PE X a ta) (hb:PE X b tb) (hm:behindInMarks op b=false):PT X (.Compare a [op] [b] pos) (tTest (tOp r ta tb)):=by
 intro pins s σ H Q I h
 refine wpAny_isTrue_Compare1 (cy (ha pins s σ H _ I h) λv s1 ⟨x,H1,I1,r1,q1⟩=>cy (hb pins s1 σ H1 _ I1 q1) λu s2 ⟨y,H2,I2,r2,q2⟩=>
  cy (ho pins s2 σ H2 x y v u _ I2 r1 r2 q2) λc s3 ⟨z,H3,I3,r3,k,e,q3⟩=>?_) hm
 subst e
 cases r3
 exact wpAny_truthy_bool ⟨H3,I3,q3⟩
noncomputable def tChain (r r':R2) (ta tb tc:TE):TE:=λσ H Q=>ta σ H λx H1=>tb σ H1 λy H2=>r x y H2 λz H3=>∃k,z=.bl k/\
 (if k=true then tc σ H3 λw' H4=>r' y w' H4 Q else Q (.bl false) H3)
theorem mP:(sizeLine:Nat)<2^63:=by rw[sizeLine_eq];decide
theorem vals1 {x:V} {us:List Value} (r:bu [x] us):∃u,us=[u]/\RelV x u:=by
 cases r with
 | cons r1 r2=>cases r2;exact⟨_,rfl,r1⟩
theorem vals2 {x y:V} {us:List Value} (r:bu [x,y] us):∃u w',us=[u,w']/\RelV x u/\RelV y w':=by
 cases r with
 | cons r1 r2=>
  cases r2 with
  | cons r3 r4=>cases r4;exact⟨_,_,rfl,r1,r3⟩
theorem mQ:cU X (.builtin "abs") (λxs H Q=>∃i,xs=[.int i]/\Q (.int (if i<0 then -i else i)) H):=by
 intro pins s σ H xs us Q I r h
 obtain⟨i,rfl,q⟩:=h
 obtain⟨u,rfl,t,rfl⟩:=vals1 r
 exact call_abs_int λu tk=>⟨.int (if i<0 then -i else i),H,I.tok _,⟨_,rfl⟩,q⟩
theorem xH:cU X (.type "int") (λxs H Q=>(∃i,xs=[.int i]/\Q (.int i) H)\/∃k,xs=[.bl k]/\Q (.int (if k then 1 else 0)) H):=by
 intro pins s σ H xs us Q I r h
 rcases h with ⟨i,rfl,q⟩ | ⟨k,rfl,q⟩
 ·obtain⟨u,rfl,t,rfl⟩:=vals1 r
  exact call_int_int ⟨.int i,H,I,⟨_,rfl⟩,q⟩
 ·obtain⟨u,rfl,r1⟩:=vals1 r
  cases r1
  exact call_int_bool ⟨.int (if k then 1 else 0),H,I.tok _,⟨_,rfl⟩,q⟩
end
end L2
namespace L2
open PySem PySem.Spec PyProof.Rows
structure uB (h:Heap) (x dx C:Addr) (mA:Str->Option Value):Prop where
 obj:h.get? x=some (PySem.W.instObj C dx)
 ns:h.Ns1 dx mA
 ne:dx≠x
set_option tactic.hygienic true in
theorem xI {h:Heap} {dx:Addr} {mA:Str->Option Value} (n:h.Ns1 dx mA):∃od,h.get? dx=some od/\∀name,PySem.W.lookIn name od=some (mA name):=by
 obtain⟨o,es,ep,ho,hd,hk,_,hm⟩:=n
 refine⟨o,ho,λname=>?_⟩
 have e:=hm name
 unfold nsFind findBy at e
 rw[<-Array.find?_toList] at e
 unfold PySem.W.lookIn
 rw[hd]
 dsimp only
 split
 ·rename_i y q
  rw[q] at e
  exact congrArg some e
 ·rename_i q
  rw[q] at e
  have a:es.toList.any (·.refKey)=false:=by
   rw[List.any_eq_false]
   intro y hy
   obtain⟨z,t,Lr⟩:=hk y (Array.mem_toList_iff.mp hy)
   simp [DictEntry.refKey,Lr]
  have a':¬es.toList.any (·.refKey)=true:=by rw[a];exact aay
  rw[if_neg a']
  exact congrArg some e
theorem uB.look {h:Heap} {x dx C:Addr} {mA:Str->Option Value} (I:uB h x dx C mA):∃od,PySem.W.InstAt h x (PySem.W.instObj C dx) C (some od)/\∀name,PySem.W.lookIn name od=some (mA name):=
 let ⟨od,ho,hl⟩:=xI I.ns
 ⟨od,⟨I.obj,rfl,rfl,ho⟩,hl⟩
section
variable {prog : Program} {w : World} {A : Around} {E : Value -> Shared -> Prop} {s : Shared} {K : PySem.W.Frag} {x dx C f : Addr} {mA : Str -> Option Value} {name : Str} {v : Value}
theorem get_map {expr:Bool} {Q:Value->Shared->Prop} (X:K.In s.heap) (I:uB s.heap x dx C mA) (hg:PySem.W.plainGet K C name=true) (hh:PySem.W.hasDictIn K C=true)
  (ha:PySem.W.findIn K (.ref C) name=some none) (hv:mA name=some v) (Ew:PySem.W.handedIn v=true) (h:Q v {s with toks:=s.toks+1}):
  wpAny (model prog w) A (getAttr (.ref x) name expr) Q E s:=by
 obtain⟨od,J,hl⟩:=I.look
 exact PySem.W.get_value X J (PySem.W.plainGet_of hg).1 (PySem.W.findObj_own hh ha rfl (by rw[hl,hv])) Ew h
theorem yJ {pl:Sem Bool} {Q:Value×List Value->Shared->Prop} (X:K.In s.heap) (I:uB s.heap x dx C mA) (hg:PySem.W.plainGet K C name=true)
  (hf:PySem.W.findIn K (.ref C) name=some (some (.ref f))) (ht:PySem.W.isFn K (.ref f)=true) (hv:mA name=none) (h:Q (.ref f,[.ref x]) s):
  wpAny (model prog w) A (getMethod (.ref x) name pl) Q E s:=by
 obtain⟨od,J,hl⟩:=I.look
 exact PySem.W.method_fn X J (PySem.W.plainGet_of hg).1 (PySem.W.plainGet_of hg).2 hf (beq_iff_eq.mp ht) (by show(PySem.W.lookIn name od).map (·.isSome)=some false;rw[hl,hv];rfl) h
theorem BH {ns:List Str} {Q:Unit->Shared->Prop} (X:K.In s.heap) (I:uB s.heap x dx C mA)
  (hs:PySem.W.findIn K (.ref C) "__setattr__"=some (some (.builtin "object.__setattr__"))) (hp:PySem.W.plainOver K C=true) (ht:PySem.W.takerIn K C name=some none) (hh:PySem.W.hasDictIn K C=true)
  (hw:PySem.Within mA ns) (hsz:ns.length<=sizeLine)
  (h:∀h',uB h' x dx C (λy=>if y=name then some v else mA y)->Heap.SameBut dx s.heap h'->Q () {s with heap:=h',toks:=s.toks+2}):
  wpAny (model prog w) A (setAttr (.ref x) name v) Q E s:=by
 obtain⟨od,J,hl⟩:=I.look
 refine PySem.W.set_plain X J hs (PySem.W.osa_open (s:={s with toks:=s.toks+1}) (r:=none) X J hp ht λb=>?_)
 obtain⟨cd,hc,Hg⟩:=PySem.W.any_some hh
 have hx:s.heap.get? x=some ⟨.ref C,some dx,.plain,#[]⟩:=I.obj
 refine wpAny_bind (wpAny_pure (wpAny_bind (wpAny_bind (wpAny_loadPart hx (wpAny_bind (PySem.W.Looks.here (s:={s with toks:=s.toks+1}) (PySem.W.looks_clsIn X hc) ?_))))))
 rw[Hg]
 refine wpAny_pure (a:=some dx) (wpAny_bind (wpAny_pure (wpAny_bind ?_)))
 refine wpAny_nsSet1 (s:={s with toks:=s.toks+1}) I.ns λh' Kq Dw=>?_
 obtain⟨oD,ZL,ZM,Vt,Vu,Vv⟩:=Kq.count (PySem.Within.cons name v hw)
 refine wpAny_bind (wpAny_lookBehind Vt (by rw[Vu];exact pastItsLine_dict (aao Vv (by rw[aap];omega))) ?_)
 exact wpAny_pure (h _ ⟨(Dw.2 _ (Ne.symm I.ne)).trans I.obj,Kq,I.ne⟩ Dw)
theorem yK {R:Result->Shared->Prop} {vs:List Value} {kw:List (Str×Value)} (X:K.In s.heap) (hm:PySem.W.makesIn K C=true)
  (hi:PySem.W.findIn K (.ref C) "__init__"=some (some (.ref f))) (hf:PySem.W.typeIn K (.ref f)=some (.type "function"))
  (h:codeAny (model prog w) (A.under (.builtin "type.__call__" ⟨.ref C::vs,kw⟩)) (.call (.ref f) ⟨.ref (s.heap.objs.size+1)::vs,kw⟩) (PySem.W.InitBack (s.heap.objs.size+1) R)
   {s with heap:=(s.heap.push PySem.W.emptyDict).push (PySem.W.instObj C s.heap.objs.size)}):
  codeAny (model prog w) A (.call (.ref C) ⟨vs,kw⟩) R s:=by
 obtain⟨hh,g,d,t,os⟩:=s
 exact PySem.W.make_core (PySem.W.makes_of X hm) (PySem.W.looks_findIn X hi) (λself=>PySem.W.bind_fn X self hf) (.inl rfl) h
end
noncomputable def ie (f:Str) (v:V):List (Str×V)->List (Str×V)
 | []=>[(f,v)]
 | (g,x)::r=>if g=f then (g,v)::r else (g,x)::ie f v r
theorem kj (f g:Str) (v:V):∀fs:List (Str×V),(ie f v fs).lookup g=if g=f then some v else fs.lookup g
 | []=>by
  show List.lookup g [(f,v)]=_
  by_cases h:g=f
  ·have hb:(g==f)=true:=beq_iff_eq.mpr h
   simp only[List.lookup,hb,if_pos h]
  ·have hb:(g==f)=false:=beq_eq_false_iff_ne.mpr h
   simp only[List.lookup,hb,if_neg h]
 | (k,x)::r=>by
  have ih:=kj f g v r
  rw[show ie f v ((k,x)::r)=(if k=f then (k,v)::r else (k,x)::ie f v r) from rfl]
  by_cases hk:k=f
  ·rw[if_pos hk]
   by_cases h:g=k
   ·have hb:(g==k)=true:=beq_iff_eq.mpr h
    simp only[List.lookup,hb,if_pos (h.trans hk)]
   ·have hb:(g==k)=false:=beq_eq_false_iff_ne.mpr h
    simp only[List.lookup,hb,if_neg (λe:g=f=>h (e.trans hk.symm))]
  ·rw[if_neg hk]
   by_cases h:g=k
   ·have hb:(g==k)=true:=beq_iff_eq.mpr h
    simp only[List.lookup,hb,if_neg (λe:g=f=>hk (h.symm.trans e))]
   ·have hb:(g==k)=false:=beq_eq_false_iff_ne.mpr h
    simp only[List.lookup,hb]
    exact ih
theorem jP (f:Str) (v:V):∀fs:List (Str×V),f∈(ie f v fs).map (·.1)/\∀g,g∈fs.map (·.1)->g∈(ie f v fs).map (·.1)
 | []=>⟨by simp [ie],λg h=>by simp at h⟩
 | (k,x)::r=>by
  obtain⟨i1,i2⟩:=jP f v r
  rw[show ie f v ((k,x)::r)=(if k=f then (k,v)::r else (k,x)::ie f v r) from rfl]
  by_cases hk:k=f
  ·rw[if_pos hk]
   subst hk
   exact⟨by simp,λg h=>by simpa using h⟩
  ·rw[if_neg hk]
   refine⟨?_,λg h=>?_⟩
   ·rw[aas]
    exact aaj _ i1
   ·rw[aas] at h ⊢
    rcases List.mem_cons.mp h with e | e
    ·exact List.mem_cons.mpr (.inl e)
    ·exact aaj _ (i2 g e)
theorem km (f:Str) (v:V):∀fs:List (Str×V),(ie f v fs).length<=fs.length+1
 | []=>by simp [ie]
 | (k,x)::r=>by
  have ih:=km f v r
  rw[show ie f v ((k,x)::r)=(if k=f then (k,v)::r else (k,x)::ie f v r) from rfl]
  by_cases hk:k=f
  ·rw[if_pos hk,aap,aap];omega
  ·rw[if_neg hk,aap,aap];omega
theorem ib.some_of {v:V} {o:Option Value} (r:ib (some v) o):∃u,o=some u/\RelV v u:=by
 cases o with
 | none=>exact(show False from r).elim
 | some u=>exact⟨u,rfl,r⟩
theorem ib.none_of {o:Option Value} (r:ib none o):o=none:=by
 cases o with
 | none=>rfl
 | some u=>exact(show False from r).elim
theorem xJ {v:V} {u:Value} (r:RelV v u):PySem.W.handedIn u=true:=by
 cases v with
 | cB=>cases (show u=Value.none from r);rfl
 | bl b=>cases (show u=Value.bool b from r);rfl
 | int i=>obtain⟨t,e⟩:=(show ∃t,u=Value.int i t from r);cases e;rfl
 | str x=>obtain⟨t,e⟩:=(show ∃t,u=Value.str x t from r);cases e;rfl
 | yt b=>obtain⟨t,e⟩:=(show ∃t,u=Value.bytes b t from r);cases e;rfl
 | GF b=>obtain⟨t,e⟩:=(show ∃t,u=Value.float b t from r);cases e;rfl
 | ref a=>cases (show u=Value.ref a from r);rfl
 | ty n=>cases (show u=Value.type n from r);rfl
section
variable {P : Program} {w : World} {H H' : Hp} {h h' : Heap} {a C dx : Addr} {fs Vj : List (Str × V)}
theorem qm (bU:gm P w H h) (e:H a=some (.ins C dx fs)):∃mA,uB h a dx C mA/\(∀f,ib (fs.lookup f) (mA f))/\PySem.Within mA (fs.map (·.1))/\fs.length<=1000/\H dx=some (.own a):=by
 obtain⟨d,z,ne,ob,mA,n,r,q⟩:=(show cI P w H h a (.ins C dx fs) from bU a _ e)
 exact⟨mA,⟨ob,n,ne⟩,r,q,z,d⟩
end
structure xK (K:PySem.W.Frag) (C:Addr):Prop where
 pg:PySem.W.plainGet K C Str.empty=true
 hd:PySem.W.hasDictIn K C=true
 po:PySem.W.plainOver K C=true
 sa:PySem.W.findIn K (.ref C) "__setattr__"=some (some (.builtin "object.__setattr__"))
theorem xK.get {K:PySem.W.Frag} {C:Addr} (c:xK K C) (f:Str):PySem.W.plainGet K C f=true:=c.pg
noncomputable def jQ (K:PySem.W.Frag) (C:Addr) (f:Str):Prop:=PySem.W.findIn K (.ref C) f=some none
theorem jQ.Ho {K:PySem.W.Frag} {C:Addr} {f:Str} (n:jQ K C f):PySem.W.takerIn K C f=some none:=by
 unfold PySem.W.takerIn
 rw[show PySem.W.findIn K (.ref C) f=some none from n]
 rfl
structure ZN (K:PySem.W.Frag) (C:Addr) (f:Str) (v:V) (u:Value):Prop where
 at_:PySem.W.findIn K (.ref C) f=some (some u)
 rel:RelV v u
 get:PySem.W.specialIn K u "__get__"=some none
 cp:PySem.W.copiedNames.contains f=false
structure yL (K:PySem.W.Frag) (C:Addr) (m:Str) (f:Addr):Prop where
 at_:PySem.W.findIn K (.ref C) m=some (some (.ref f))
 fn:PySem.W.isFn K (.ref f)=true
 kp:PySem.W.keepIn K (.ref f)=true
section
variable {X : Cx} {pins : List (Addr × Obj)} {σ : St} {H : Hp} {s : Shared} {a C dx : Addr} {fs : List (Str × V)} {f : Str} {v : V} {A : Around} {E : Value -> Shared -> Prop}
theorem uC {b:Bool} {Q:Value->Shared->Prop} (I:Inv X pins σ H s) (e:H a=some (.ins C dx fs)) (c:xK X.K C) (n:jQ X.K C f) (l:fs.lookup f=some v)
  (h:∀u s',Inv X pins σ H s'->RelV v u->Q u s'):wpAny (model X.prog X.w) A (getAttr (.ref a) f b) Q E s:=by
 obtain⟨mA,O,r,_,_,_⟩:=qm I.bU e
 obtain⟨u,hu,ru⟩:=ib.some_of (v:=v) (o:=mA f) (by rw[<-l];exact r f)
 exact get_map I.vJ O (c.get f) c.hd n hu (xJ ru) (h u _ (I.tok _) ru)
theorem mR {m:Str} {g:Addr} {pl:Sem Bool} {Q:Value×List Value->Shared->Prop} (I:Inv X pins σ H s) (e:H a=some (.ins C dx fs)) (c:xK X.K C) (k:yL X.K C m g) (l:fs.lookup m=none)
  (h:Q (.ref g,[.ref a]) s):wpAny (model X.prog X.w) A (getMethod (.ref a) m pl) Q E s:=by
 obtain⟨mA,O,r,_,_,_⟩:=qm I.bU e
 have hn:mA m=none:=ib.none_of (by rw[<-l];exact r m)
 exact yJ I.vJ O (c.get m) k.at_ k.fn hn h
theorem uD {y:V} {u:Value} {Q:Unit->Shared->Prop} (I:Inv X pins σ H s) (e:H a=some (.ins C dx fs)) (c:xK X.K C) (n:jQ X.K C f) (hl:fs.length<1000) (ry:RelV y u)
  (h:∀s',Inv X pins σ (upd H a (.ins C dx (ie f y fs))) s'->Q () s'):wpAny (model X.prog X.w) A (setAttr (.ref a) f u) Q E s:=by
 obtain⟨mA,O,r,wi,_,ho⟩:=qm I.bU e
 have hz:(fs.map (·.1)).length<=sizeLine:=by rw[aab,sizeLine_eq];omega
 refine BH I.vJ O c.sa c.po n.Ho c.hd wi hz λh' O' sb=>h _ ?_
 have hd:∃o,h'.get? dx=some o:=let ⟨o,_,_,e',_⟩:=O'.ns;⟨o,e'⟩
 refine I.write (x:=a) (e:=dx) (by rw[e];exact True.intro) (.inr ho) (λb q hb z=>(sb.2 b hb).trans z) hd ?_
 refine⟨by rw[aG O.ne];exact ho,?_,O.ne,O'.obj,_,O'.ns,λg=>?_,λg hg=>?_⟩
 ·have:=km f y fs;omega
 ·show ib ((ie f y fs).lookup g) (if g=f then some u else mA g)
  rw[kj]
  by_cases q:g=f
  ·rw[if_pos q,if_pos q];exact ry
  ·rw[if_neg q,if_neg q];exact r g
 ·by_cases q:g=f
  ·rw[q];exact(jP f y fs).1
  ·refine(jP f y fs).2 g (wi g λz=>hg ?_)
   show(if g=f then some u else mA g)=none
   rw[if_neg q];exact z
theorem Inv.made (I:Inv X pins σ H s):Inv X pins σ (upd (upd H s.heap.objs.size (.own (s.heap.objs.size+1))) (s.heap.objs.size+1) (.ins C s.heap.objs.size []))
  {s with heap:=(s.heap.push PySem.W.emptyDict).push (PySem.W.instObj C s.heap.objs.size)}:=by
 have e1:(s.heap.push PySem.W.emptyDict).get? s.heap.objs.size=some PySem.W.emptyDict:=Heap.get?_push_size s.heap rfl
 have e2:((s.heap.push PySem.W.emptyDict).push (PySem.W.instObj C s.heap.objs.size)).get? (s.heap.objs.size+1)=some (PySem.W.instObj C s.heap.objs.size):=by
  have:=Heap.get?_push_size (s.heap.push PySem.W.emptyDict) (o:=PySem.W.instObj C s.heap.objs.size) rfl
  rwa [Heap.size_push] at this
 have e3:(s.heap.push PySem.W.emptyDict).Ns s.heap.objs.size (λ_=>none):=⟨PySem.W.emptyDict,#[],_,e1,rfl,(λe he=>absurd he (by simp)),λ_=>rfl⟩
 have I1:=I.laid (a:=s.heap.objs.size) (o:=.own (s.heap.objs.size+1)) (h':=s.heap.push PySem.W.emptyDict) (t':=s.toks) (λb u q=>Heap.get?_push_of_some _ q) (aag _) ⟨_,e1⟩
 refine I1.laid (a:=s.heap.objs.size+1) (o:=.ins C s.heap.objs.size []) (t':=s.toks) (λb u q=>Heap.get?_push_of_some _ q) (Nat.le_of_eq (Heap.size_push _ _)) ?_
 have ne:s.heap.objs.size≠s.heap.objs.size+1:=aam (aaJ _)
 refine⟨by rw[aG ne,ar],aar _,ne,e2,λ_=>none,(Heap.Ns1.of_empty e3).at λo q=>Heap.get?_push_of_some _ q,λ_=>True.intro,λy hy=>absurd rfl hy⟩
theorem BI {prog:Program} {w:World} {env:Env} {e:Expr} {f:Str} {pos:Pos} {s:Shared} {Q:Value->Shared->Prop} (hb:attributeBase e f env (eval e env)=eval e env)
  (h:wpAny (model prog w) A (eval e env) (λo s₁=>wpAny (model prog w) A (getAttr o f true) Q E s₁) E s):wpAny (model prog w) A (eval (.Attribute e f pos) env) Q E s:=
 Attribute_any_ h (by rw[arm_eval_Attribute,hb])
end
noncomputable def kR (K:PySem.W.Frag) (ta:TE) (f:Str):TE:=λσ H Q=>ta σ H λx H1=>∃a C dx fs v,x=.ref a/\H1 a=some (.ins C dx fs)/\xK K C/\jQ K C f/\fs.lookup f=some v/\Q v H1
noncomputable def Hq (K:PySem.W.Frag) (ta tv:TE) (f:Str):TS:=λD σ H=>tv σ H λy H1=>ta σ H1 λx H2=>∃a C dx fs,x=.ref a/\H2 a=some (.ins C dx fs)/\xK K C/\jQ K C f/\fs.length<1000/\
 D.nx σ (upd H2 a (.ins C dx (ie f y fs)))
section
variable {X : Cx} {o e value : Expr} {f : Str} {pos pos' kQ : Pos} {ta tv : TE}
theorem dU (he:PE X e ta) (hb:attributeBase e f X.env (eval e X.env)=eval e X.env):PE X (.Attribute e f pos) (kR X.K ta f):=by
 intro pins s σ H Q I h
 refine BI hb (cy (he pins s σ H _ I h) λu s1 cX=>?_)
 obtain⟨x,H1,I1,rx,a,C,dx,fs,v,ex,ea,c,n,l,q⟩:=cX
 subst ex
 obtain rfl:u=Value.ref a:=rx
 exact uC I1 ea c n l λu' s2 I2 ru=>⟨v,H1,I2,ru,q⟩
theorem yM (ha:PE X o ta) (hv:PE X value tv) (hs:swapsWith value (some (.Attribute o f pos')) pos.line X.env=pure false):PS X (.Assign [.Attribute o f pos'] value pos) (Hq X.K ta tv f):=by
 intro pins s σ H D I h
 refine plainObj_wpAny_Assign_Attribute (cy (hv pins s σ H _ I h) λu s1 ⟨y,H1,I1,ry,q⟩=>cy (ha pins s1 σ H1 _ I1 q) λov s2 cX=>?_) hs
 obtain⟨x,H2,I2,rx,a,C,dx,fs,ex,ea,c,n,l,q2⟩:=cX
 subst ex
 obtain rfl:ov=Value.ref a:=rx
 exact uD I2 ea c n l ry λs3 I3=>⟨σ,_,I3,q2⟩
end
section
variable {X : Cx} {pins : List (Addr × Obj)} {σ : St} {H : Hp} {s : Shared} {A : Around} {E : Value -> Shared -> Prop} {Q : Value -> Shared -> Prop} {c : Value} {b : Bool}
inductive mS (K:PySem.W.Frag) (H:Hp):V->Value->Prop where
 | cB:mS K H .cB (.type "NoneType")
 | bl (x:Bool):mS K H (.bl x) (.type "bool")
 | int (i:Int):mS K H (.int i) (.type "int")
 | str (x:Str):mS K H (.str x) (.type "str")
 | GF (x:UInt64):mS K H (.GF x) (.type "float")
 | lst {a:Addr} {xs:List V} (e:H a=some (.lst xs)):mS K H (.ref a) (.type "list")
 | uk {a:Addr} {o:Obj} {xs:List V} (e:H a=some (.uk o (.lst xs))):mS K H (.ref a) (.type "list")
 | tup {a:Addr} {xs:List V} (e:H a=some (.tup xs)):mS K H (.ref a) (.type "tuple")
 | dK {a:Addr} {kvs:List (Key×V)} (e:H a=some (.dK kvs)):mS K H (.ref a) (.type "dict")
 | dT {a:Addr} {kvs:List (List Key×V)} (e:H a=some (.dT kvs)):mS K H (.ref a) (.type "dict")
 | ins {a C dx:Addr} {fs:List (Str×V)} (e:H a=some (.ins C dx fs)) (cl:xK K C) (ha:PySem.W.findIn K (.ref C) "__class__"=some (some (.builtin "object.__class__")))
   (hn:PySem.W.specialIn K (.builtin "object.__class__") "__get__"=some (some (.builtin "getset_descriptor.__get__"))) (ZO:PySem.W.takesIn K (.builtin "object.__class__")=some true)
   (hm:PySem.W.mroIn K C (.type "object")=some true):mS K H (.ref a) (.ref C)
end
end L2
namespace L2
open PySem PySem.Spec PyProof.Rows
structure de (k:Nat) (A:Around):Prop where
 hd:A.handled=none
 dp:A.depth+3*k+5<recursionLimit
 un:A.units+16*k+200<cLine
theorem de.mono {j k:Nat} {A:Around} (r:de k A) (h:j<=k):de j A:=⟨r.hd,by have:=r.dp;omega,by have:=r.un;omega⟩
theorem de.deeper {k:Nat} {A:Around} (r:de (k+1) A) (env:Env):de k (A.deeper env):=
 ⟨r.hd,by have:=r.dp;show A.depth+1+3*k+5<_;omega,by have:=r.un;show A.units+3+16*k+200<_;omega⟩
theorem uE {A:Around} {C:Addr} {us:List Value} {kw:List (Str×Value)}:(A.under (.builtin "type.__call__" ⟨.ref C::us,kw⟩)).depth=A.depth+1:=by
 first | rfl | simp [Around.under,Code.weight,Code.isCreation,Code.isGuard,Code.isCaller,Code.frames,Code.isFrame,guardIds]
theorem uF {A:Around} {C:Addr} {us:List Value} {kw:List (Str×Value)}:(A.under (.builtin "type.__call__" ⟨.ref C::us,kw⟩)).units=A.units+1:=by
 first | rfl | simp [Around.under,Code.cUnits,Code.frames,Code.isFrame]
theorem de.make {k:Nat} {A:Around} (r:de (k+1) A) (C:Addr) (us:List Value) (kw:List (Str×Value)):de k (A.under (.builtin "type.__call__" ⟨.ref C::us,kw⟩)):=
 ⟨r.hd,by have:=r.dp;rw[uE];omega,by have:=r.un;rw[uF];omega⟩
theorem de.depth {k:Nat} {A:Around} (r:de k A):A.depth<recursionLimit:=by have:=r.dp;omega
theorem de.units {k:Nat} {A:Around} (r:de k A):A.units+64<cLine:=by have:=r.un;omega
noncomputable def tNil:TA:=λ_ H Q=>Q [] H
noncomputable def tCons (ta:TE) (tr:TA):TA:=λσ H Q=>ta σ H λx H1=>tr σ H1 λxs H2=>Q (x::xs) H2
section
variable {X : Cx} {e : Expr} {es : List Expr} {te : TE} {t : TA} {pos : Pos}
theorem af:PA X [] tNil:=λ_ _ _ _ H Q I h=>Calls.spliced_nil ⟨[],H,I,.nil,h⟩
theorem aa (ha:PE X e te) (hr:PA X es t) (hs:starEach (e::es) X.env=(false,eval e X.env)::starEach es X.env:=by rfl):PA X (e::es) (tCons te t):=by
 intro pos pins s σ H Q I h
 rw[hs]
 show wpAny _ _ (spliced ((false,eval e X.env)::backTo pos (starEach es X.env))) _ _ s
 refine Calls.spliced_cons (cy (ha pins s σ H _ I h) λu s1 cX=>?_)
 obtain⟨x,H1,I1,r1,q1⟩:=cX
 exact cy (hr pos pins s1 σ H1 _ I1 q1) λus s2 ⟨xs,H2,I2,r2,q2⟩=>⟨x::xs,H2,I2,.cons r1 r2,q2⟩
noncomputable def tLst (t:TA):TE:=λσ H Q=>t σ H λxs H1=>xs.length<=sizeLine/\∀p,H1 p=none->Q (.ref p) (upd H1 p (.lst xs))
theorem cQ (h:PA X es t):PE X (.List es pos) (tLst t):=by
 intro pins s σ H Q I hq
 refine wpAny_List_spliced (cy (h pos pins s σ H _ I hq) λus s1 ⟨xs,H1,I1,r,z,q⟩=>⟨by rw[<-r.length];exact z,?_⟩)
 have hf:H1 s1.heap.objs.size=none:=I1.bU.fresh (aag _)
 refine⟨.ref s1.heap.objs.size,upd H1 s1.heap.objs.size (.lst xs),I1.laid (t':=s1.toks) (λb u e=>Heap.get?_push_of_some _ e) (aag _) ?_,rfl,q _ hf⟩
 exact⟨z,us,0,r,Heap.get?_push_size _ rfl⟩
end
abbrev Sp:=List V->Hp->VK->XK->Prop
abbrev jR:=List Env->Hp->Shared->XK->Value->Shared->Prop
structure uG (P:Program) (w:World) (K:PySem.W.Frag) (mg:Str->Option Value) (base:Heap) (A:Around) (outer:List Env) (s:Shared) (H:Hp):Prop where
 frames:A.frames=some outer
 mod:Mod K mg base
 bs:∀b o,base.get? b=some o->s.heap.get? b=some o/\H b=none
 yC:base.objs.size<=s.heap.objs.size
 jM:s.heap.FunFrames base outer
 Dl:∀b∈rX outer,H b=none
 bU:gm P w H s.heap
 bare:AllBare s.gens
noncomputable def CE (outer:List Env) (P:Program) (w:World) (H:Hp) (s:Shared) (Q:VK) (u:Value) (s':Shared):Prop:=
 ∃v H',s'.os=s.os/\AllBare s'.gens/\Un (rX outer) [] H H' s.heap s'.heap/\gm P w H' s'.heap/\RelV v u/\Q v H'
noncomputable def CR (CX:jR) (outer:List Env) (P:Program) (w:World) (H:Hp) (s:Shared) (Q:VK) (E:XK) (r:Result) (s':Shared):Prop:=
 match r with
 | .ok (.ret u)=>CE outer P w H s Q u s'
 | .ok _=>False
 | .error e=>CX outer H s E e s'
structure d7 (P:Program) (w:World) (K:PySem.W.Frag) (mg:Str->Option Value) (base:Heap) (CX:jR) (k:Nat) (f:Addr) (fd:FuncData) (ps:List Str) (sp:Sp):Prop where
 len:∀vs H Q E,sp vs H Q E->vs.length=ps.length
 run:∀(A:Around) (outer:List Env) (s:Shared) (H:Hp) (args:Args) (us:List Value) (vs:List V) (Q:VK) (E:XK),de k A->uG P w K mg base A outer s H->BindsTo s fd args (ps.zip us)->bu vs us->sp vs H Q E->
  codeAny (model P w) A (.call (.ref f) args) (CR CX outer P w H s Q E) s
theorem d7.mono {P:Program} {w:World} {K:PySem.W.Frag} {mg:Str->Option Value} {base:Heap} {CX:jR} {j k:Nat} {f:Addr} {fd:FuncData} {ps:List Str} {sp:Sp} (F:d7 P w K mg base CX j f fd ps sp) (h:j<=k):
  d7 P w K mg base CX k f fd ps sp:=⟨F.len,λA outer s H args us vs Q E hr=>F.run A outer s H args us vs Q E (hr.mono h)⟩
theorem uG.make {P:Program} {w:World} {K:PySem.W.Frag} {mg:Str->Option Value} {base:Heap} {A:Around} {outer:List Env} {s:Shared} {H:Hp} (e:uG P w K mg base A outer s H) (C:Addr) (us:List Value) (kw:List (Str×Value)):
  uG P w K mg base (A.under (.builtin "type.__call__" ⟨.ref C::us,kw⟩)) outer s H:=⟨by first | exact e.frames | (simpa [Around.under,Code.envs,Code.isFrame,pushEnvs] using e.frames),e.mod,e.bs,e.yC,e.jM,e.Dl,e.bU,e.bare⟩
section
variable {X : Cx} {pins : List (Addr × Obj)} {σ : St} {H : Hp} {s s' : Shared}
theorem Inv.Hr (I:Inv X pins σ H s):uG X.prog X.w X.K X.mg X.base X.A X.stack s H:=
 ⟨I.ok.frames,I.ok.mod,I.bs,aao I.ok.yC I.sz,I.stack,I.vK,I.bU,I.bare⟩
theorem Inv.after {Q:VK} {u:Value} (I:Inv X pins σ H s) (h:CE X.stack X.prog X.w H s Q u s'):EP X pins σ Q u s':=by
 obtain⟨v,H',os,bare,un,bU,r,q⟩:=h
 obtain⟨hh,g,d,t,Vw⟩:=s'
 obtain rfl:Vw=s.os:=os
 exact⟨v,H',I.call (h':=hh) (g':=g) (d':=d) (t':=t) (ch:=[]) un bU bare (λb z=>absurd z (by simp)),r,q⟩
end
noncomputable def tCall (sp:Sp) (oJ:List V) (E:XK) (t:TA):TE:=λσ H Q=>t σ H λvs H1=>sp (vs++oJ) H1 Q E
noncomputable def o9 (C:Addr) (m:Str) (sp:Sp) (oJ:List V) (E:XK) (ta:TE) (t:TA):TE:=λσ H Q=>ta σ H λx H1=>∃a dx fs,x=.ref a/\H1 a=some (.ins C dx fs)/\fs.lookup m=none/\
 t σ H1 λvs H2=>sp (x::(vs++oJ)) H2 Q E
noncomputable def sr (C:Addr) (sp:Sp) (oJ:List V) (E:XK) (t:TA):TE:=λσ H Q=>t σ H λvs H1=>∀x dx,H1 x=none->H1 dx=none->dx≠x->
 sp (.ref x::(vs++oJ)) (upd (upd H1 dx (.own x)) x (.ins C dx [])) (λv H2=>v=.cB/\Q (.ref x) H2) E
noncomputable def Binds (K:PySem.W.Frag) (fd:FuncData) (ps:List Str) (ds:List Value):Prop:=
 ∀(s:Shared) (us:List Value),K.In s.heap->(us++ds).length=ps.length->BindsTo s fd ⟨us,[]⟩ (ps.zip (us++ds))
theorem Binds.all {K:PySem.W.Frag} {fd:FuncData} {ps:List Str} (h:∀us:List Value,us.length=ps.length->bindArgs fd ⟨us,[]⟩=pure (ps.zip us)):Binds K fd ps []:=λs us _ hl=>by
 rw[aa4] at hl ⊢
 exact .of_eq (h us hl)
noncomputable def eC (CX:jR) (X:Cx) (E:XK):Prop:=∀(pins:List (Addr×Obj)) (σ:St) (H:Hp) (s:Shared) (e:Value) (s':Shared),Inv X pins σ H s->CX X.stack H s E e s'->X.xe e s'
section
variable {X : Cx} {CX : jR} {k : Nat} {f C : Addr} {fd : FuncData} {ps : List Str} {sp : Sp} {oJ : List V} {ds : List Value} {E : XK} {x m : Str} {p pos apos : Pos} {e o : Expr} {es : List Expr} {ta : TE} {t : TA}
theorem uH {pins:List (Addr×Obj)} {σ:St} {H:Hp} {s:Shared} {Q:VK} {us:List Value} {vs:List V} (F:d7 X.prog X.w X.K X.mg X.base CX k f fd ps sp) (hr:de k X.A) (hb:Binds X.K fd ps ds) (hd:bu oJ ds) (hx:eC CX X E)
  (I:Inv X pins σ H s) (r:bu vs us) (h:sp (vs++oJ) H Q E):wpAny (model X.prog X.w) X.A (call (.ref f) us) (EP X pins σ Q) X.xe s:=by
 have r2:bu (vs++oJ) (us++ds):=r.append hd
 have hl:(us++ds).length=ps.length:=by rw[<-r2.length];exact F.len _ _ _ _ h
 refine wpAny_call (codeAny_mono (F.run X.A X.stack s H ⟨us,[]⟩ (us++ds) (vs++oJ) Q E hr I.Hr (hb s us I.vJ hl) r2 h) λr s' hq=>?_)
 cases r with
 | error e=>exact hx pins σ H s e s' I hq
 | ok fl=>
  cases fl with
  | ret u=>exact I.after hq
  | next=>exact False.elim hq
  | brk=>exact False.elim hq
  | cont=>exact False.elim hq
theorem BJ (F:d7 X.prog X.w X.K X.mg X.base CX k f fd ps sp) (hr:de k X.A) (hg:Gl X x) (hm:X.mg x=some (.ref f)) (hk:PySem.W.keepIn X.K (.ref f)=true) (hb:Binds X.K fd ps ds) (hd:bu oJ ds) (hx:eC CX X E)
  (ha:PA X (e::es) t) (yN:(x==("__debug__":Str))=false:=by decide) (he:starEach (e::es) X.env=(false,eval e X.env)::starEach es X.env:=by rfl) (hpl:(backTo pos (starEach es X.env)).any (·.1)=false:=by rfl):
  PE X (.Call (.Name x p) (e::es) [] pos) (tCall sp oJ E t):=by
 intro pins s σ H Q I h
 refine wpAny_Call_Name_kw (qe I hg hm ?_ yN)
 refine PySem.W.callWith_K (h₀:=X.base) I.ok.mod.Hf hk (cy (ha pos pins s σ H _ I h) λus s1 ⟨vs,H1,I1,r,q⟩=>⟨I1.vJ,?_⟩) he hpl
 exact uH F hr hb hd hx I1 r q
theorem BK {pl:Sem Bool} (he:PE X o ta) (c:xK X.K C) (hm:yL X.K C m f) (F:d7 X.prog X.w X.K X.mg X.base CX k f fd ps sp) (hr:de k X.A) (hb:Binds X.K fd ps ds) (hd:bu oJ ds) (hx:eC CX X E) (ha:PA X (e::es) t)
  (hst:starEach (e::es) X.env=(false,eval e X.env)::starEach es X.env:=by rfl) (hpl:(backTo pos (starEach es X.env)).any (·.1)=false:=by rfl)
  (ht:eval (.Call (.Attribute o m apos) (e::es) [] pos) X.env=(do
   let ov <-eval o X.env
   standAt apos.atName
   let (f,first) <-holding [ov] (getMethod ov m pl)
   callWith pos f first (backTo pos (starEach (e::es) X.env)) (backToKw pos (keywordEach [] X.env))):=by rfl):
  PE X (.Call (.Attribute o m apos) (e::es) [] pos) (o9 C m sp oJ E ta t):=by
 intro pins s σ H Q I h
 refine PySem.W.methodCall_KW (pl:=pl) (cy (he pins s σ H _ I h) λu s1 cX=>?_) ht
 obtain⟨x,H1,I1,rx,a,dx,fs,ex,ea,l,q⟩:=cX
 subst ex
 obtain rfl:u=Value.ref a:=rx
 refine mR I1 ea c hm l ?_
 refine PySem.W.callWith_K (first:=[.ref a]) (h₀:=X.base) I.ok.mod.Hf hm.kp (cy (ha pos pins s1 σ H1 _ I1 q) λus s2 ⟨vs,H2,I2,r,q2⟩=>⟨I2.vJ,?_⟩) hst hpl
 exact uH (us:=.ref a::us) (vs:=.ref a::vs) F hr hb hd hx I2 (.cons rfl r) q2
theorem yO {pl:Sem Bool} (he:PE X o ta) (c:xK X.K C) (hm:yL X.K C m f) (F:d7 X.prog X.w X.K X.mg X.base CX k f fd ps sp) (hr:de k X.A) (hb:Binds X.K fd ps ds) (hd:bu oJ ds) (hx:eC CX X E)
  (ht:eval (.Call (.Attribute o m apos) [] [] pos) X.env=(do
   let ov <-eval o X.env
   standAt apos.atName
   let (f,first) <-holding [ov] (getMethod ov m pl)
   callWith pos f first (backTo pos (starEach [] X.env)) (backToKw pos (keywordEach [] X.env))):=by rfl):
  PE X (.Call (.Attribute o m apos) [] [] pos) (o9 C m sp oJ E ta tNil):=by
 intro pins s σ H Q I h
 refine PySem.W.methodCall_KW (pl:=pl) (cy (he pins s σ H _ I h) λu s1 cX=>?_) ht
 obtain⟨x,H1,I1,rx,a,dx,fs,ex,ea,l,q⟩:=cX
 subst ex
 obtain rfl:u=Value.ref a:=rx
 refine mR I1 ea c hm l ?_
 exact PySem.W.callWith_K0 (first:=[.ref a]) I1.vJ hm.kp (uH (us:=[.ref a]) (vs:=[.ref a]) F hr hb hd hx I1 (.cons rfl .nil) q)
structure Mk (K:PySem.W.Frag) (C f:Addr):Prop where
 makes:PySem.W.makesIn K C=true
 init:PySem.W.findIn K (.ref C) "__init__"=some (some (.ref f))
 fn:PySem.W.isFn K (.ref f)=true
 kp:PySem.W.keepIn K (.ref C)=true
theorem yP {pins:List (Addr×Obj)} {σ:St} {H:Hp} {s:Shared} {Q:VK} {us:List Value} {vs:List V} (M:Mk X.K C f) (F:d7 X.prog X.w X.K X.mg X.base CX k f fd ps sp) (hr:de (k+1) X.A) (hb:Binds X.K fd ps ds) (hd:bu oJ ds)
  (hx:eC CX X E) (I:Inv X pins σ H s) (r:bu vs us)
  (h:∀x dx,H x=none->H dx=none->dx≠x->sp (.ref x::(vs++oJ)) (upd (upd H dx (.own x)) x (.ins C dx [])) (λv H2=>v=.cB/\Q (.ref x) H2) E):
  wpAny (model X.prog X.w) X.A (call (.ref C) us) (EP X pins σ Q) X.xe s:=by
 have hq:=h (s.heap.objs.size+1) s.heap.objs.size (I.bU.fresh (Nat.le_succ _)) (I.bU.fresh (aag _)) (aam (aaJ _))
 have I2:=Inv.made (C:=C) I
 have r2:bu (V.ref (s.heap.objs.size+1)::(vs++oJ)) (Value.ref (s.heap.objs.size+1)::(us++ds)):=.cons rfl (r.append hd)
 have hl:(Value.ref (s.heap.objs.size+1)::us++ds).length=ps.length:=by
  have e:=r2.length
  rw[F.len _ _ _ _ hq] at e
  exact e.symm
 refine wpAny_call (yK (f:=f) I.vJ M.makes M.init (beq_iff_eq.mp M.fn) (codeAny_mono (F.run _ X.stack _ _ ⟨Value.ref (s.heap.objs.size+1)::us,[]⟩ (Value.ref (s.heap.objs.size+1)::(us++ds)) _ _ E (hr.make C us [])
  (I2.Hr.make C us []) (hb _ (Value.ref (s.heap.objs.size+1)::us) I2.vJ hl) r2 hq) λr s' Hs=>?_))
 cases r with
 | error e=>exact hx pins σ _ _ e s' I2 Hs
 | ok fl=>
  cases fl with
  | ret u=>
   obtain⟨v,H',I3,rv,ev,q3⟩:=I2.after Hs
   subst ev
   exact⟨rv,⟨V.ref (s.heap.objs.size+1),H',I3,rfl,q3⟩⟩
  | next=>exact False.elim Hs
  | brk=>exact False.elim Hs
  | cont=>exact False.elim Hs
theorem BL (M:Mk X.K C f) (F:d7 X.prog X.w X.K X.mg X.base CX k f fd ps sp) (hr:de (k+1) X.A) (hg:Gl X x) (hm:X.mg x=some (.ref C)) (hb:Binds X.K fd ps ds) (hd:bu oJ ds) (hx:eC CX X E)
  (ha:PA X (e::es) t) (yN:(x==("__debug__":Str))=false:=by decide) (he:starEach (e::es) X.env=(false,eval e X.env)::starEach es X.env:=by rfl) (hpl:(backTo pos (starEach es X.env)).any (·.1)=false:=by rfl):
  PE X (.Call (.Name x p) (e::es) [] pos) (sr C sp oJ E t):=by
 intro pins s σ H Q I h
 refine wpAny_Call_Name_kw (qe I hg hm ?_ yN)
 refine PySem.W.callWith_K (h₀:=X.base) I.ok.mod.Hf M.kp (cy (ha pos pins s σ H _ I h) λus s1 ⟨vs,H1,I1,r,q⟩=>⟨I1.vJ,?_⟩) he hpl
 exact yP M F hr hb hd hx I1 r q
end
section
variable {X : Cx} {CX : jR} {k : Nat} {f C : Addr} {fd : FuncData} {ps ks : List Str} {sp : Sp} {E : XK} {x m : Str} {p pos apos Vx : Pos} {e o : Expr} {es : List Expr} {ZP : List Keyword} {te ta : TE} {t tk : TA} {nm : Option Str}
structure Lu (K:PySem.W.Frag) (fd:FuncData) (ps ks:List Str) (g:List Value->List Value->List Value) (gV:List V->List V->List V):Prop where
 to:∀(s:Shared) (us ws:List Value),K.In s.heap->(g us ws).length=ps.length->BindsTo s fd ⟨us,ks.zip ws⟩ (ps.zip (g us ws))
 rel:∀{vs:List V} {us:List Value} {zs:List V} {ws:List Value},bu vs us->bu zs ws->bu (gV vs zs) (g us ws)
variable {g : List Value -> List Value -> List Value} {gV : List V -> List V -> List V}
end
structure aN (N P:List Str) (sc:Scope):Prop where
 kind:sc.kind=.function
 co:sc.isCoroutine=false
 gen:sc.isGenerator=false
 nd:N.Nodup
 pre:N.take P.length=P
 par:∀x∈P,sc.names.lookup x=some .local\/sc.names.lookup x=some .cell
 Ex:∀y∈sc.names,y.2≠.free
theorem pb {kindOf:Str->Option NameKind} {x:Str}:∀{binds:List (Str×Value)} {m:Str->Option Value},(∀v,(x,v)∉binds)->bindL kindOf binds m x=m x
 | [],_,_=>rfl
 | (n,v)::r,m,h=>by
  unfold bindL
  rw[pb λw hw=>h w (aaj _ hw)]
  split
  ·have:x≠n:=by rintro rfl;exact h v aai
   simp [this]
  ·rfl
theorem pd {kindOf:Str->Option NameKind} {x:Str}:∀{binds:List (Str×Value)} {m:Str->Option Value},(∀v,(x,v)∉binds)->bindC kindOf binds m x=m x
 | [],_,_=>rfl
 | (n,v)::r,m,h=>by
  unfold bindC
  rw[pd λw hw=>h w (aaj _ hw)]
  split
  ·rfl
  ·have:x≠n:=by rintro rfl;exact h v aai
   simp [this]
theorem pe {kindOf:Str->Option NameKind} {x:Str} {v:Value}:∀{P:List Str} {vs:List Value} {i:Nat} {m:Str->Option Value},P.Nodup->P[i]?=some x->vs[i]?=some v->kindOf x=some .local->
  bindL kindOf (P.zip vs) m x=some v
 | [],_,_,_,_,h,_,_=>by simp at h
 | _::_,[],_,_,_,_,h,_=>by simp at h
 | p::P,w::vs,0,m,nd,h1,h2,hk=>by
  simp at h1 h2;subst h1;subst h2
  show bindL kindOf ((p,w)::P.zip vs) m p=_
  unfold bindL
  rw[pb λv hv=>(List.nodup_cons.mp nd).1 (List.of_mem_zip hv).1,if_pos hk]
  simp
 | p::P,w::vs,i+1,m,nd,h1,h2,hk=>by
  show bindL kindOf ((p,w)::P.zip vs) m x=_
  unfold bindL
  exact pe (i:=i) (List.nodup_cons.mp nd).2 (by simpa using h1) (by simpa using h2) hk
theorem pf {kindOf:Str->Option NameKind} {x:Str} {v:Value}:∀{P:List Str} {vs:List Value} {i:Nat} {m:Str->Option Value},P.Nodup->P[i]?=some x->vs[i]?=some v->kindOf x≠some .local->
  bindC kindOf (P.zip vs) m x=some v
 | [],_,_,_,_,h,_,_=>by simp at h
 | _::_,[],_,_,_,_,h,_=>by simp at h
 | p::P,w::vs,0,m,nd,h1,h2,hk=>by
  simp at h1 h2;subst h1;subst h2
  show bindC kindOf ((p,w)::P.zip vs) m p=_
  unfold bindC
  rw[pd λv hv=>(List.nodup_cons.mp nd).1 (List.of_mem_zip hv).1,if_neg hk]
  simp
 | p::P,w::vs,i+1,m,nd,h1,h2,hk=>by
  show bindC kindOf ((p,w)::P.zip vs) m x=_
  unfold bindC
  exact pf (i:=i) (List.nodup_cons.mp nd).2 (by simpa using h1) (by simpa using h2) hk
noncomputable def start (N:List Str) (vs:List V):St:=vs.map some++List.replicate (N.length - vs.length) none
noncomputable def uI (CX:jR) (P:Program) (w:World) (K:PySem.W.Frag) (mg:Str->Option Value) (base:Heap) (N:List Str) (qual:Str) (scope:Scope) (f:Addr) (cd:Value) (A:Around) (outer:List Env) (s:Shared) (H:Hp) (E:XK):Cx where
 prog:=P
 w:=w
 K:=K
 mg:=mg
 base:=base
 A:=A.deeper (envOfC qual scope s.heap.objs.size f cd)
 N:=N
 s₀:=s
 H₀:=H
 env:=envOfC qual scope s.heap.objs.size f cd
 outer:=outer
 stack:=envOfC qual scope s.heap.objs.size f cd::outer
 ex:=[]
 calm:=true
 fn:=λ_=>true
 pn:=[]
 xe:=λe s'=>wpAny (model P w) (A.deeper (envOfC qual scope s.heap.objs.size f cd)) (leaving (envOfC qual scope s.heap.objs.size f cd) e) (λ_ Ey=>CX outer H s E e Ey) (λe' Ey=>CX outer H s E e' Ey) s'
theorem su {sc:Scope} {n:Nat} {x:Str} (h:sc.names.lookup x=some .cell):∃c,(cellsFrom n sc.names []).lookup x=some c:=by
 have q:=PySem.W.cellsFrom_some sc.names n [] (.inl h)
 exact Option.isSome_iff_exists.mp q
theorem xM {CX:jR} {P:Program} {w:World} {K:PySem.W.Frag} {mg:Str->Option Value} {base:Heap} {N ps:List Str} {qual:Str} {scope:Scope} {f:Addr} {cd:Value} {A:Around} {outer:List Env} {s s1:Shared} {H:Hp} {E:XK} {us:List Value} {vs:List V}
  (S:aN N ps scope) (hd:A.handled=none) (e0:uG P w K mg base A outer s H) (hl:vs.length=ps.length) (r:bu vs us)
  (x:InCallC s s.heap.objs.size (bindL (envOfC qual scope s.heap.objs.size f cd).kindOf (ps.zip us) λ_=>none) (cellsFrom (s.heap.objs.size+1) scope.names []) (bindC (envOfC qual scope s.heap.objs.size f cd).kindOf (ps.zip us) λ_=>none) s1):
  Inv (uI CX P w K mg base N qual scope f cd A outer s H E) [] (start N vs) H s1:=by
 have hpl:ps.length<=N.length:=by have:=congrArg List.length S.pre;rw[aaQ] at this;omega
 obtain⟨h1,tk,rfl,hk⟩:=x.done
 have Ht:∀b:Addr,b∉(uI CX P w K mg base N qual scope f cd A outer s H E).ex:=λb z=>absurd (show b∈([]:List Addr) from z) (by simp)
 refine⟨⟨e0.mod,S.kind,rfl,rfl,aag _,λy z c h1 h2=>?_,λy hy=>?_,λy c _ h=>?_,λ_=>hd,Around.frames_deeper e0.frames,.inr ⟨rfl,rfl⟩,λb z=>absurd z (Ht b),e0.bs,e0.yC,λb _ _=>Ht b,λb z=>absurd z (Ht b),e0.jM,e0.Dl⟩,
  rfl,e0.bare,Un.kept hk,⟨_,x.toInCall.ns,λi y v h1 h2 h3=>?_⟩,λy c h=>⟨_,x.cell y c h⟩,e0.bU.fresh (aag _),λy c h=>?_,λp hp=>absurd (show p∈([]:List (Addr×Obj)) from hp) (by simp),e0.bU.kept hk,?_⟩
 ·exact name_of_addr x.apart (aa7 h1) (aa7 h2)
 ·have hy:scope.names.lookup y=some .cell\/scope.names.lookup y=some .free:=hy
  rcases hy with hy | hy
  ·exact su hy
  ·exact absurd rfl (S.Ex _ (aa7 hy))
 ·exact Nat.le_of_lt (x.above y c (aa7 h))
 ·have hi:i<vs.length:=by
   unfold start at h2
   by_cases hi:i<vs.length
   ·exact hi
   ·rw[aaV (by simpa using hi)] at h2
    rw[List.getElem?_replicate] at h2
    split at h2 <;>cases h2
  have ha:vs[i]?=some v:=by
   unfold start at h2
   rw[aaW (by simpa using hi),aad] at h2
   cases e:vs[i]? with
   | none=>rw[e] at h2;cases h2
   | some a=>rw[e] at h2;cases h2;rfl
  obtain⟨u,hu,rv⟩:=r.get ha
  have hp:ps[i]?=some y:=by
   rw[<-S.pre,List.getElem?_take_of_lt (by omega)];exact h1
  have To:ps.Nodup:=by rw[<-S.pre];exact S.nd.sublist (List.take_sublist _ _)
  refine⟨u,rv,?_⟩
  rcases S.par y (aaf hp) with k | k
  ·exact .inl ⟨k,pe To hp hu k⟩
  ·obtain⟨c,e⟩:=su (n:=s.heap.objs.size+1) k
   refine .inr ⟨.inl k,c,e,?_⟩
   have q:=x.cell y c e
   rw[pf To hp hu (by show scope.names.lookup y≠_;rw[k];decide)] at q
   exact q
 ·exact e0.bU.fresh (Nat.le_of_lt (x.above y c (aa7 h)))
 ·unfold start
  show _=N.length
  rw[aaD,aab,aa8]
  omega
theorem Dx {CX:jR} {P:Program} {w:World} {K:PySem.W.Frag} {mg:Str->Option Value} {base:Heap} {k:Nat} {f:Addr} {name qual:Str} {params:Arguments} {body:List Stmt} {scope:Scope} {dV kV doc pm cK ct oc:Value} {an od:Option Addr}
  {yu:Array (Option Value)} {N ps:List Str} {sp:Sp} (lk:K.lookup f=some ⟨oc,od,.func (PySem.W.fnOf name qual params body scope dV kV doc pm an cK ct),yu⟩) (rZ:PySem.W.codeIn K cK qual=true) (S:aN N ps scope)
  (len:∀vs H Q E,sp vs H Q E->vs.length=ps.length)
  (sx:∀(A:Around) (outer:List Env) (s:Shared) (H:Hp) (vs:List V) (Q:VK) (E:XK),de k (A.deeper (envOfC qual scope s.heap.objs.size f cK))->sp vs H Q E->
   ∃t,uu (uI CX P w K mg base N qual scope f cK A outer s H E) body t/\t {nx:=λ_ H'=>Q .cB H',rt:=Q} (start N vs) H):
  d7 P w K mg base CX (k+1) f (PySem.W.fnOf name qual params body scope dV kV doc pm an cK ct) ps sp:=by
 refine⟨len,λA outer s H args us vs Q E hr e0 hb r Bh=>?_⟩
 have hl:=len _ _ _ _ Bh
 have KX:K.In s.heap:=e0.mod.Hf.keeps λb o e=>(e0.bs b o e).1
 have lim:s.heap.NoLimit:=e0.mod.nolimit.keeps λb o e=>(e0.bs b o e).1
 have mT:∀y∈ps.zip us,scope.names.lookup y.1=some .local\/(scope.names.lookup y.1=some .cell/\((cellsFrom (s.heap.objs.size+1) scope.names []).lookup y.1).isSome=true):=fun⟨n,v⟩ hy=>by
  rcases S.par n (List.of_mem_zip hy).1 with q | q
  ·exact .inl q
  ·exact .inr ⟨q,PySem.W.cellsFrom_some _ _ _ (.inl q)⟩
 refine codeAny_call_function hr.depth (KX _ _ lk) rfl S.co S.gen rfl (PySem.W.codeRec_of KX rZ) (hb _ _ _ _ ?_)
 refine wpAny_newFunctionEnv_cells S.kind mT λenv he s1 x=>?_
 subst he
 refine⟨lim.keeps x.toInCall.keep,codeAny_func ?_⟩
 obtain⟨t,ht,hq⟩:=sx A outer s H vs Q E (hr.deeper _) Bh
 have I:Inv (uI CX P w K mg base N qual scope f cK A outer s H E) [] (start N vs) H s1:=xM S hr.hd e0 hl r x
 refine wpAny_mono (ht [] s1 (start N vs) H _ I hq) (λfl s' hs=>?_) λe s' hs=>hs
 have fin:∀{σ':St} {H':Hp} {v:V} {u:Value},Inv (uI CX P w K mg base N qual scope f cK A outer s H E) [] σ' H' s'->RelV v u->Q v H'->CE outer P w H s Q u s':=
  λ{σ' H' v u} J rv q=>⟨v,H',J.os,J.bare,J.base,J.bU,rv,q⟩
 cases fl with
 | ret u=>
  obtain⟨v,σ',H',J,rv,q⟩:=hs
  exact fin J rv q
 | next=>
  obtain⟨σ',H',J,q⟩:=hs
  exact fin (v:=V.cB) (u:=Value.none) J rfl q
 | brk=>
  obtain⟨_,_,_,q⟩:=hs
  exact False.elim q
 | cont=>
  obtain⟨_,_,_,q⟩:=hs
  exact False.elim q
end L2
namespace L2
open PySem PySem.Spec PyProof.Rows
section
variable {X : Cx} {x : Str} {p pos : Pos} {e : Expr} {es : List Expr} {t : TA} {id T : String} {r : List V -> Hp -> VK -> Prop}
noncomputable def tCB (r:List V->Hp->VK->Prop) (t:TA):TE:=λσ H Q=>t σ H λvs H1=>r vs H1 Q
theorem ba (hc:cU X (.builtin id) r) (hg:Gl X x) (hm:X.mg x=none) (hv:bootBuiltins x=some (.builtin id)) (ha:PA X (e::es) t) (hn:x≠"__name__":=by decide) (yN:(x==("__debug__":Str))=false:=by decide)
  (he:starEach (e::es) X.env=(false,eval e X.env)::starEach es X.env:=by rfl) (hpl:(backTo pos (starEach es X.env)).any (·.1)=false:=by rfl):PE X (.Call (.Name x p) (e::es) [] pos) (tCB r t):=by
 intro pins s σ H Q I h
 refine wpAny_Call_Name_kw (iJ I hg hm hv ?_ hn yN)
 exact PyProof.Rows.callWith_builtin1 (cy (ha pos pins s σ H _ I h) λus s1 ⟨vs,H1,I1,r1,q1⟩=>hc pins s1 σ H1 vs us Q I1 r1 q1) he hpl
theorem dE (hc:cU X (.type T) r) (hg:Gl X x) (hm:X.mg x=none) (hv:bootBuiltins x=some (.type T)) (ha:PA X (e::es) t) (hn:x≠"__name__":=by decide) (yN:(x==("__debug__":Str))=false:=by decide)
  (he:starEach (e::es) X.env=(false,eval e X.env)::starEach es X.env:=by rfl) (hpl:(backTo pos (starEach es X.env)).any (·.1)=false:=by rfl):PE X (.Call (.Name x p) (e::es) [] pos) (tCB r t):=by
 intro pins s σ H Q I h
 refine wpAny_Call_Name_kw (iJ I hg hm hv ?_ hn yN)
 exact PyProof.Rows.callWith_type1 (cy (ha pos pins s σ H _ I h) λus s1 ⟨vs,H1,I1,r1,q1⟩=>hc pins s1 σ H1 vs us Q I1 r1 q1) he hpl
end
end L2
namespace HT
open PySem PyProof.Rows
section
open PySem.SeqAt
open PySem.AutoSeq1 (wpAny_loadPart')
open PySem.MeetsSeq PySem.MeetsSeq2 PySem.MeetsSeq3
end
section
variable {prog : Program} {w : World} {A : Around} {E : Value -> Shared -> Prop} {s : Shared}
theorem BM {t b:Addr} {vs ws:List Value} {Q:Value->Shared->Prop} (ht:IsTup s.heap t vs.toArray) (hb:IsTup s.heap b ws.toArray) (hv:vs≠[])
  (h1:ws=[]->Q (.ref t) s) (h2:ws≠[]->Q (.ref s.heap.objs.size) {s with heap:=s.heap.push {cls:=.type "tuple",data:=.seq (vs++ws).toArray}})
  (hsz:vs.length+ws.length<=sizeLine):wpAny (model prog w) A (binaryOp .Add (.ref t) (.ref b)) Q E s:=by
 obtain⟨⟨cls,dd,data,sl⟩,ho,hc,n,hd⟩:=id ht
 obtain⟨⟨Vy,Tp,data2,Kr⟩,Ks,Tq,n2,hd2⟩:=id hb
 simp only at hc hd Tq hd2
 subst hc hd Tq hd2
 have e:vs.toArray++ws.toArray=(vs++ws).toArray:=by simp
 by_cases hw:ws=[]
 ·exact concat_meets ⟨_,ho,rfl⟩ ⟨_,Ks,rfl⟩ noFill_tuple_add seq_tuple_add PySem.F.slot_tuple_add PySem.F.entry_tuple_add (PySem.F.args_tuple_add_2 _ _)
   (tuple_addW1 t b vs.toArray ws.toArray n n2 dd Tp sl Kr (by simpa using hv) (by simp [hw])) ⟨ho,Ks,h1 hw⟩
 ·refine concat_meets ⟨_,ho,rfl⟩ ⟨_,Ks,rfl⟩ noFill_tuple_add seq_tuple_add PySem.F.slot_tuple_add PySem.F.entry_tuple_add (PySem.F.args_tuple_add_2 _ _)
   (tuple_addW2 t b vs.toArray ws.toArray n n2 dd Tp sl Kr (by simpa using hv) (by simpa using hw) (by rw[aak,aak];exact hsz)) ⟨ho,Ks,?_⟩
  rw[e]
  exact h2 hw
noncomputable def dB (n d:Nat):Option Int->Nat
 | none=>d
 | some v=>if v<0 then (v+ (n:Int)).toNat else min v.toNat n
theorem yQ (n d:Nat):dB n d none=d:=rfl
theorem BN (n d k:Nat):dB n d (some (k:Int))=min k n:=by
 show(if (k:Int)<0 then ((k:Int)+ (n:Int)).toNat else min (k:Int).toNat n)=min k n
 rw[if_neg (by omega),aah]
theorem Ez (n d:Nat) (hd:d<=n) (o:Option Int):dB n d o<=n:=by
 cases o with
 | none=>exact hd
 | some v=>
  show(if v<0 then (v+ (n:Int)).toNat else min v.toNat n)<=n
  by_cases hv:v<0
  ·rw[if_pos hv];omega
  ·rw[if_neg hv];exact Nat.min_le_right _ _
theorem vS (v:Int) (n d:Nat):(if v<0 then max (v+ (n:Int)) 0 else min v (n:Int))=((dB n d (some v):Nat):Int):=by
 show(if v<0 then max (v+ (n:Int)) 0 else min v (n:Int))=(((if v<0 then (v+ (n:Int)).toNat else min v.toNat n):Nat):Int)
 by_cases hv:v<0
 ·simp only[if_pos hv];omega
 ·simp only[if_neg hv];omega
theorem uJ (lo hi:Option Int) (n:Nat):Builtin.Slice.sliceAdjust lo hi 1 (n:Int)=(((dB n 0 lo:Nat):Int),((dB n n hi:Nat):Int)):=by
 have h1:¬((1:Int)<0):=by omega
 unfold Builtin.Slice.sliceAdjust
 simp only[h1,if_false]
 refine Prod.ext ?_ ?_
 ·cases lo with
  | none=>rfl
  | some v=>exact vS v n 0
 ·cases hi with
  | none=>rfl
  | some v=>exact vS v n n
theorem uK (i j:Nat):Builtin.Slice.slicePlaces (i:Int) (j:Int) 1=j - i:=by
 unfold Builtin.Slice.slicePlaces
 have h1:(1:Int) >0:=by omega
 simp only[h1,if_true,Int.ediv_one]
 split <;>omega
theorem mU {v:Value} {o:Option Int} {Q:Option Int->Shared->Prop} (p:IsPart v o) (h:Q o s):wpAny (model prog w) A (Builtin.Slice.slicePartIndex v) Q E s:=by
 cases p with
 | none=>exact slicePart_none h
 | int i t=>exact slicePart_int h
theorem jS {sl:Addr} {vl vu:Value} {lo hi:Option Int} {n:Nat} {Q:Int×Int×Nat->Shared->Prop} (hs:s.heap.IsSliceOf sl vl vu .none) (pl:IsPart vl lo) (pu:IsPart vu hi)
  (h:Q (((dB n 0 lo:Nat):Int),1,dB n n hi - dB n 0 lo) s):wpAny (model prog w) A (Builtin.Slice.sliceApplied (.ref sl) (pure (n:Int))) Q E s:=by
 obtain⟨os,Hu,Tr,jb⟩:=id hs
 unfold Builtin.Slice.sliceApplied Builtin.Slice.sliceFields
 refine wpAny_bind (wpAny_bind (wpAny_field Hu jb (x:=vl) rfl (wpAny_bind (wpAny_field Hu jb (x:=vu) rfl (wpAny_bind (wpAny_field Hu jb (x:=.none) rfl (wpAny_pure ?_)))))))
 refine wpAny_bind (slicePart_none ?_)
 show wpAny _ _ (if ((1:Int)==0)=true then _ else _) _ _ s
 rw[if_neg (by decide)]
 refine wpAny_bind (mU pl (wpAny_bind (mU pu (wpAny_bind (wpAny_pure ?_)))))
 show wpAny _ _ (match Builtin.Slice.sliceAdjust lo hi 1 (n:Int) with | (lo,hi)=>pure (lo,(1:Int),Builtin.Slice.slicePlaces lo hi 1)) _ _ s
 rw[uJ lo hi n]
 show wpAny _ _ (pure (((dB n 0 lo:Nat):Int),(1:Int),Builtin.Slice.slicePlaces ((dB n 0 lo:Nat):Int) ((dB n n hi:Nat):Int) 1)) _ _ s
 rw[uK]
 exact wpAny_pure h
theorem yR (xs:Array Value) (i k:Nat):((List.range k).filterMap fun(m:Nat)=>xs[((i:Int)+ (m:Int)*1).toNat]?).toArray=((xs.toList.drop i).take k).toArray:=by
 have e:(fun(m:Nat)=>xs[((i:Int)+ (m:Int)*1).toNat]?)=λm=>xs[i+m]?:=by
  funext m
  have:((i:Int)+ (m:Int)*1).toNat=i+m:=by omega
  rw[this]
 rw[e]
 have:=pick_run xs i k
 rw[List.filterMap_map] at this
 have e2:((λx=>xs[x]?) ∘λx=>i+x)=λm=>xs[i+m]?:=rfl
 rw[e2] at this
 rw[this]
theorem jg {t sl:Addr} {items:Array Value} {vl vu:Value} {lo hi:Option Int} {Q:Value->Shared->Prop} (ht:IsTup s.heap t items) (hs:s.heap.IsSliceOf sl vl vu .none) (pl:IsPart vl lo) (pu:IsPart vu hi)
  (hw:¬(dB items.size 0 lo=0/\dB items.size items.size hi=items.size))
  (h:Q (.ref s.heap.objs.size) {s with heap:=s.heap.push {cls:=.type "tuple",data:=.seq ((items.toList.drop (dB items.size 0 lo)).take (dB items.size items.size hi - dB items.size 0 lo)).toArray}})
  (hsz:items.size<=sizeLine):wpAny (model prog w) A (getItem (.ref t) (.ref sl)) Q E s:=by
 have vT:sizeOk (.seq ((items.toList.drop (dB items.size 0 lo)).take (dB items.size items.size hi - dB items.size 0 lo)).toArray):=by
  show((items.toList.drop (dB items.size 0 lo)).take (dB items.size items.size hi - dB items.size 0 lo)).toArray.size<=sizeLine
  rw[aak,aaQ,List.length_drop,abg]
  omega
 have hj:dB items.size items.size hi<=items.size:=Ez _ _ (aag _) hi
 obtain⟨os,Hu,Tr,jb⟩:=id hs
 have Vz:s.TypeIs (.ref sl) "slice":=⟨os,Hu,Tr⟩
 unfold getItem
 try with_reducible refine wpAny_holding ?_
 first | refine wpAny_bind (wpAny_pure ?_) | skip
 refine wpAny_bind (wpAny_sequenceKey ht.typeIs (by decide) ?_)
 refine wpAny_bind (wpAny_callSpecial?_slot (name:=Str.ofString "__getitem__") ht.typeIs PyProof.Rows.slot_tuple_getitem
  (wpAny_call_entry PyProof.Rows.slot_tuple_getitem ht.typeIs entry_tuple_getitem ?_ (args_tuple_getitem _ _)))
 show wpAny _ _ (Builtin.Tuple.tupleItemsOf (.ref t) >>=_) _ _ s
 refine wpAny_bind (tupleItemsOf_ ht ?_)
 refine wpAny_bind (wpAny_typeOf Vz ?_)
 rw[if_pos (by decide)]
 refine wpAny_bind (jS hs pl pu ?_)
 have Lx:¬((((dB items.size 0 lo:Nat):Int)==0 && (1:Int)==1 && (dB items.size items.size hi - dB items.size 0 lo)==items.size)=true):=by
  intro q
  rw[aaR,aaR] at q
  have q1:((dB items.size 0 lo:Nat):Int)=0:=eq_of_beq q.1.1
  have q2:dB items.size items.size hi - dB items.size 0 lo=items.size:=eq_of_beq q.2
  exact hw ⟨by omega,by omega⟩
 show wpAny _ _ (if (((dB items.size 0 lo:Nat):Int)==0 && (1:Int)==1 && (dB items.size items.size hi - dB items.size 0 lo)==items.size)=true then _ else _) _ _ s
 rw[if_neg Lx,yR]
 first
  | exact wpAny_bind (m:=Builtin.Tuple.tupleExact _) (wpAny_newObj_type (wpAny_pure ⟨_,rfl,wpAny_pure h⟩) vT)
  | exact wpAny_bind (m:=Builtin.Tuple.tupleExact _) (wpAny_newObj_type (wpAny_bind (wpAny_pure (wpAny_pure ⟨_,rfl,wpAny_pure h⟩))) vT)
  | exact wpAny_bind (wpAny_bind (m:=Builtin.Tuple.tupleExact _) (wpAny_newObj_type (wpAny_pure (wpAny_pure ⟨_,rfl,wpAny_pure h⟩)) vT))
  | exact wpAny_bind (wpAny_bind (m:=Builtin.Tuple.tupleExact _) (wpAny_newObj_type (wpAny_pure ⟨_,rfl,wpAny_pure h⟩) vT))
end
end HT
namespace L2
open PySem PySem.Spec PyProof.Rows
abbrev TO:=St->Hp->(Option Int->Hp->Prop)->Prop
noncomputable def PO (X:Cx) (e:Option Expr) (t:TO):Prop:=
 ∀(pins:List (Addr×Obj)) (s:Shared) (σ:St) (H:Hp) (Q:Option Int->Hp->Prop),Inv X pins σ H s->t σ H Q->
  wpAny (model X.prog X.w) X.A (evalPart e X.env) (λu s'=>∃o H',Inv X pins σ H' s'/\IsPart u o/\Q o H') X.xe s
noncomputable def tNoPart:TO:=λ_ H Q=>Q none H
noncomputable def tPart (t:TE):TO:=λσ H Q=>t σ H λx H1=>∃i,x=.int i/\Q (some i) H1
theorem intsAre_of {ns:List Int}:∀{us:List Value},bu (ns.map V.int) us->IntsAre us ns:=by
 induction ns with
 | nil=>intro us r;rw[aaK] at r;cases r;exact .nil
 | cons n ns ih=>
  intro us r
  rw[aas] at r
  cases r with
  | cons r1 r2=>
   obtain⟨t,e⟩:=r1
   subst e
   exact .cons n t (ih r2)
section
variable {X : Cx} {e : Expr} {te : TE} {lo hi : Option Expr} {tl th : TO} {pos p2 : Pos}
theorem qo:PO X none tNoPart:=by
 intro pins s σ H Q I h
 rw[evalPart_none]
 exact wpAny_pure ⟨none,H,I,.none,h⟩
theorem qp (h:PE X e te):PO X (some e) (tPart te):=by
 intro pins s σ H Q I hw
 rw[evalPart_some]
 refine cy (h pins s σ H _ I hw) λu s1 cX=>?_
 obtain⟨x,H1,I1,r1,q1⟩:=cX
 obtain⟨i,rfl,q⟩:=q1
 obtain⟨t,rfl⟩:=r1
 exact⟨some i,H1,I1,.int i t,q⟩
noncomputable def Hv (X:Cx) (r:V->Option Int->Option Int->Hp->VK->Prop):Prop:=
 ∀(pins:List (Addr×Obj)) (s:Shared) (σ:St) (H:Hp) (x:V) (v vl vu:Value) (lo hi:Option Int) (sl:Addr) (Q:VK),Inv X pins σ H s->RelV x v->s.heap.IsSliceOf sl vl vu .none->IsPart vl lo->IsPart vu hi->r x lo hi H Q->
  ∃T id,typeLookup (.type T) "__getitem__"=pure (some (.builtin id))/\s.TypeIs v T/\wpAny (model X.prog X.w) X.A (getItem v (.ref sl)) (EP X pins σ Q) X.xe s
noncomputable def tSl (r:V->Option Int->Option Int->Hp->VK->Prop) (te:TE) (tl th:TO):TE:=λσ H Q=>te σ H λx H1=>tl σ H1 λl H2=>th σ H2 λu H3=>r x l u H3 Q
theorem mV {r:V->Option Int->Option Int->Hp->VK->Prop} (hr:Hv X r) (he:PE X e te) (hl:PO X lo tl) (hu:PO X hi th):PE X (.Subscript e (.Slice lo hi none p2) pos) (tSl r te tl th):=by
 intro pins s σ H Q I h
 refine Subscript_ (cy (he pins s σ H _ I h) λv s1 cX=>?_)
 obtain⟨x,H1,I1,r1,q1⟩:=cX
 refine wpAny_Slice (cy (hl pins s1 σ H1 _ I1 q1) λvl s2 ⟨l,H2,I2,pl,q2⟩=>cy (hu pins s2 σ H2 _ I2 q2) λvu s3 cX=>?_)
 obtain⟨u,H3,I3,pu,q3⟩:=cX
 rw[evalPart_none]
 refine wpAny_pure ?_
 have I4:Inv X pins σ H3 {s3 with heap:=s3.heap.push {cls:=.type "slice",data:=.fields #[vl,vu,.none]}}:=I3.kept (t':=s3.toks) λb ob q=>Heap.get?_push_of_some _ q
 obtain⟨T,id,hT,ht,hg⟩:=hr pins {s3 with heap:=s3.heap.push {cls:=.type "slice",data:=.fields #[vl,vu,.none]}} σ H3 x v vl vu l u s3.heap.objs.size Q I4 r1 (Heap.IsSliceOf.new ..) pl pu q3
 show wpAny (model X.prog X.w) X.A (subscriptTail e (.Slice lo hi none p2) v (.ref s3.heap.objs.size)) (EP X pins σ Q) X.xe {s3 with heap:=s3.heap.push {cls:=.type "slice",data:=.fields #[vl,vu,.none]}}
 exact tail_any (ops:=[.ref s3.heap.objs.size,v]) ht hT hg (by with_unfolding_all rfl)
noncomputable def iM (xs:List V) (lo hi:Option Int):List V:=(xs.drop (HT.dB xs.length 0 lo)).take (HT.dB xs.length xs.length hi - HT.dB xs.length 0 lo)
theorem kr (xs:List V) (lo hi:Option Int):(iM xs lo hi).length<=xs.length:=by
 unfold iM
 rw[aaQ,List.length_drop]
 omega
noncomputable def Ly (K:PySem.W.Frag):V->Option Int->Option Int->Hp->VK->Prop:=λx lo hi H Q=>∃a xs,x=.ref a/\d6 K H a xs/\
 ¬(HT.dB xs.length 0 lo=0/\HT.dB xs.length xs.length hi=xs.length)/\∀p,H p=none->Q (.ref p) (upd H p (.tup (iM xs lo hi)))
theorem EA:Hv X (Ly X.K):=by
 intro pins s σ H x v vl vu lo hi sl Q I rx hs pl pu h
 obtain⟨a,xs,rfl,hx,hw,q⟩:=h
 cases rx
 obtain⟨aU,r,ht,hz⟩:=I.tuple hx
 have hlen:aU.toArray.size=xs.length:=by rw[aak];exact r.length.symm
 refine⟨"tuple",_,PyProof.Rows.slot_tuple_getitem.lookup,ht.typeIs,?_⟩
 refine HT.jg ht hs pl pu (by rw[hlen];exact hw) ?_ (by rw[hlen];exact hz)
 rw[hlen]
 refine⟨.ref s.heap.objs.size,_,I.laid (t':=s.toks) (o:=.tup (iM xs lo hi)) (λb ob q=>Heap.get?_push_of_some _ q) (aag _) ?_,rfl,q _ (I.bU.fresh (aag _))⟩
 exact⟨aao (kr xs lo hi) hz,_,(r.drop (HT.dB xs.length 0 lo)).take (HT.dB xs.length xs.length hi - HT.dB xs.length 0 lo),IsTup.new _ _⟩
noncomputable def Dy (K:PySem.W.Frag):R2:=λx y H Q=>∃a b xs ys,x=.ref a/\y=.ref b/\d6 K H a xs/\d6 K H b ys/\xs≠[]/\xs.length+ys.length<=sizeLine/\
 (ys=[]->Q (.ref a) H)/\(ys≠[]->∀p,H p=none->Q (.ref p) (upd H p (.tup (xs++ys))))
theorem bu.qq {xs:List V} {us:List Value} (r:bu xs us):us=[]↔xs=[]:=by
 cases r with
 | nil=>simp
 | cons _ _=>simp
theorem BO:jO X (binaryOp .Add) (Dy X.K):=by
 intro pins s σ H x y v u Q I rx ry h
 obtain⟨a,b,xs,ys,rfl,rfl,ha,hb,hx,hz,q1,q2⟩:=h
 cases rx
 cases ry
 obtain⟨aU,r1,p1,_⟩:=I.tuple ha
 obtain⟨mW,r2,p2,_⟩:=I.tuple hb
 refine HT.BM p1 p2 (λz=>hx (r1.qq.mp z)) (λz=>⟨.ref a,H,I,rfl,q1 (r2.qq.mp z)⟩) (λz=>?_) (by rw[<-r1.length,<-r2.length];exact hz)
 refine⟨.ref s.heap.objs.size,_,I.laid (t':=s.toks) (o:=.tup (xs++ys)) (λb ob q=>Heap.get?_push_of_some _ q) (aag _) ?_,rfl,q2 (λw=>z (r2.qq.mpr w)) _ (I.bU.fresh (aag _))⟩
 exact⟨by rw[aaD];exact hz,_,r1.append r2,IsTup.new _ _⟩
end
end L2
namespace L2
open PySem PySem.Spec PyProof.Rows
noncomputable def xN (n:Nat) (i:Int):Option Nat:=if 0<=i then (if i<n then some i.toNat else none) else if -(n:Int)<=i then some (i+n).toNat else none
noncomputable def fH {α:Type} (xs:List α) (i:Int):Option α:=(xN xs.length i).bind λj=>xs[j]?
theorem vU {n:Nat} {i:Int} {j:Nat} (h:xN n i=some j):seqIndex? i n=some j/\j<n/\-(n:Int)<=i/\i<n:=by
 unfold xN at h
 by_cases h0:0<=i
 ·rw[if_pos h0] at h
  by_cases h1:i<n
  ·rw[if_pos h1] at h
   have e:i.toNat=j:=aax h
   exact⟨by rw[seqIndex_of h0 h1,e],by omega,by omega,h1⟩
  ·rw[if_neg h1] at h;cases h
 ·rw[if_neg h0] at h
  by_cases h1:-(n:Int)<=i
  ·rw[if_pos h1] at h
   have e:(i+n).toNat=j:=aax h
   exact⟨by rw[seqIndex_neg (by omega) h1,e],by omega,h1,by omega⟩
  ·rw[if_neg h1] at h;cases h
theorem qr {α:Type} {xs:List α} {i:Int} {v:α} (h:fH xs i=some v):∃j,seqIndex? i xs.length=some j/\xs[j]?=some v/\j<xs.length/\-(xs.length:Int)<=i/\i<xs.length:=by
 unfold fH at h
 cases e:xN xs.length i with
 | none=>rw[e] at h;cases h
 | some j=>
  rw[e] at h
  obtain⟨h1,h2,h3,h4⟩:=vU e
  exact⟨j,h1,h,h2,h3,h4⟩
theorem bL {α:Type} {xs:List α} {j:Nat} {v:α} (h:xs[j]?=some v):fH xs (j:Int)=some v:=by
 have hj:j<xs.length:=(List.getElem?_eq_some_iff.mp h).1
 have e:xN xs.length (j:Int)=some j:=by
  unfold xN
  rw[if_pos (by omega),if_pos (by omega)];simp
 unfold fH;rw[e];exact h
noncomputable def BP (b:Expr):Prop:=∀o i,subscripted b false o i=operate [o,i] (getItem o i)
noncomputable def Dz (X:Cx) (r:R2):Prop:=
 ∀(value slice:Expr) (pins:List (Addr×Obj)) (s:Shared) (σ:St) (H:Hp) (x y:V) (v u:Value) (Q:VK),Inv X pins σ H s->RelV x v->RelV y u->r x y H Q->
  subscripted slice false v u=operate [v,u] (getItem v u)->wpAny (model X.prog X.w) X.A (subscriptTail value slice v u) (EP X pins σ Q) X.xe s
noncomputable def GK (X:Cx) (id:String) (r:V->List V->Hp->VK->Prop):Prop:=
 ∀(pins:List (Addr×Obj)) (s:Shared) (σ:St) (H:Hp) (x:V) (xs:List V) (v:Value) (us:List Value) (Q:VK),Inv X pins σ H s->RelV x v->bu xs us->r x xs H Q->
  wpAny (model X.prog X.w) X.A (call (.builtin id) (v::us)) (EP X pins σ Q) X.xe s
section
variable {X : Cx} {a b : Expr} {ta tb : TE} {pos : Pos}
theorem aI {r:R2} (hr:Dz X r) (ha:PE X a ta) (hb:PE X b tb) (hs:BP b):PE X (.Subscript a b pos) (tOp r ta tb):=by
 intro pins s σ H Q I h
 exact Subscript_ (Et ha hb I h λv u s2 x y H2 I2 rx ry q=>hr a b pins s2 σ H2 x y v u Q I2 rx ry q (hs _ _))
noncomputable def Lz (K:PySem.W.Frag):R2:=λx y H Q=>∃p xs i v,x=.ref p/\y=.int i/\aZ K H p xs/\fH xs i=some v/\Q v H
noncomputable def LC (K:PySem.W.Frag):R2:=λx y H Q=>∃p xs i v,x=.ref p/\y=.int i/\d6 K H p xs/\fH xs i=some v/\Q v H
theorem vV:Dz X (Lz X.K):=by
 intro value slice pins s σ H x y v u Q I rx ry h hs
 obtain⟨p,xs,i,z,rfl,rfl,hq,he,q⟩:=h
 cases rx
 obtain⟨t,rfl⟩:=ry
 obtain⟨aU,r,pl,hz⟩:=I.list hq
 obtain⟨j,h1,h2,h3,h4,h5⟩:=qr he
 obtain⟨w,ew,qg⟩:=r.get h2
 have hl:=r.length
 have hn:=mP
 have fin:EP X pins σ Q w s:=⟨z,H,I,qg,q⟩
 by_cases h0:0<=i
 ·have hj:i.toNat=j:=by
   rw[seqIndex_of h0 h5] at h1
   exact aax h1
  exact item_listR pl.isList h0 (by omega) (by rw[hj];simpa using ew) fin hs
 ·have hj:(i+ (aU.toArray.size:Int)).toNat=j:=by
   rw[seqIndex_neg (by omega) h4] at h1
   rw[aak,<-hl]
   exact aax h1
  exact subscriptTail_builtinR (x:=w) pl.isList.typeIs slot_list_getitem.lookup
   (wpAny_getItem_list_neg (Q:=λr s'=>r=w/\EP X pins σ Q r s') pl.isList (by omega) (by rw[aak] <;>omega) (by omega) (by rw[hj];simpa using ew) ⟨rfl,fin⟩) hs
theorem EB:Dz X (LC X.K):=by
 intro value slice pins s σ H x y v u Q I rx ry h hs
 obtain⟨p,xs,i,z,rfl,rfl,hq,he,q⟩:=h
 cases rx
 obtain⟨t,rfl⟩:=ry
 obtain⟨aU,r,pl,hz⟩:=I.tuple hq
 obtain⟨j,h1,h2,h3,h4,h5⟩:=qr he
 obtain⟨w,ew,qg⟩:=r.get h2
 have hl:=r.length
 have hn:=mP
 have fin:EP X pins σ Q w s:=⟨z,H,I,qg,q⟩
 exact subscriptTail_builtinR (x:=w) pl.typeIs slot_tuple_getitem.lookup
  (getItem_tuple (j:=j) (Q:=λr s'=>r=w/\EP X pins σ Q r s') pl (by omega) (by omega) (by rw[aak,<-hl];exact h1) (by simpa using ew) ⟨rfl,fin⟩) hs
theorem uL (aU:List Value) (n j:Nat) (u:Value):Obj.mapSeq (·.setIfInBounds j u) {cls:=.type "list",data:=.seq aU.toArray n}={cls:=.type "list",data:=.seq (aU.set j u).toArray n}:=by
 simp [Obj.mapSeq]
theorem Inv.lst {pins:List (Addr×Obj)} {σ:St} {H:Hp} {s:Shared} {p:Addr} {xs:List V} (I:Inv X pins σ H s) (h:H p=some (.lst xs)):
  ∃(aU:List Value) (n:Nat),bu xs aU/\s.heap.get? p=some {cls:=.type "list",data:=.seq aU.toArray n}/\xs.length<=sizeLine:=by
 obtain⟨z,aU,n,r,e⟩:=I.bU p _ h
 exact⟨aU,n,r,e,z⟩
theorem Inv.EC {pins:List (Addr×Obj)} {σ:St} {H:Hp} {s:Shared} {p:Addr} {xs ys:List V} {aU its':List Value} {n n':Nat} {f:Obj->Obj} (I:Inv X pins σ H s) (h:H p=some (.lst xs))
  (ho:s.heap.get? p=some {cls:=.type "list",data:=.seq aU.toArray n}) (hf:f {cls:=.type "list",data:=.seq aU.toArray n}={cls:=.type "list",data:=.seq its'.toArray n'}) (r:bu ys its') (hz:ys.length<=sizeLine) (t:Nat):
  Inv X pins σ (upd H p (.lst ys)) {s with heap:=s.heap.update p f,toks:=t}:=by
 have e:(s.heap.update p f).get? p=some {cls:=.type "list",data:=.seq its'.toArray n'}:=by
  rw[Heap.get?_update_self f ho (by rw[hf] <;>rfl),hf]
 refine I.write (x:=p) (e:=p) (by rw[h];trivial) (.inl rfl) (λb u hb q=>(Heap.get?_update_other _ _ (Ne.symm hb)).trans q) ⟨_,e⟩ ?_
 exact⟨hz,its',n',r,e⟩
noncomputable def rSetL:V->V->V->Hp->(Hp->Prop)->Prop:=λo i v H Q=>∃p xs k j,o=.ref p/\i=.int k/\H p=some (.lst xs)/\xN xs.length k=some j/\Q (upd H p (.lst (xs.set j v)))
theorem set_list:Eo X rSetL:=by
 intro pins s σ H o i v ov iv u Q I ro ri rv h
 obtain⟨p,xs,k,j,rfl,rfl,hp,hj,q⟩:=h
 cases ro
 obtain⟨t,rfl⟩:=ri
 obtain⟨aU,n,r,ho,hz⟩:=I.lst hp
 obtain⟨h1,h2,h3,h4⟩:=vU hj
 have hl:=r.length
 have hn:=mP
 have I':Inv X pins σ (upd H p (.lst (xs.set j v))) {s with heap:=s.heap.update p (Obj.mapSeq (·.setIfInBounds j u))}:=
  I.EC hp ho (uL aU n j u) (r.set rv j) (by rw[aaX];exact hz) s.toks
 by_cases h0:0<=k
 ·have hk:k.toNat=j:=by
   rw[seqIndex_of h0 h4] at h1
   exact aax h1
  exact PySem.W.ki_setAt ho h0 (by omega) (by rw[aak,<-hl];exact h4) (by rw[hk];exact⟨_,I',q⟩)
 ·have hk:(k+ (aU.toArray.size:Int)).toNat=j:=by
   rw[seqIndex_neg (by omega) h3] at h1
   rw[aak,<-hl]
   exact aax h1
  exact PySem.W.ki_setBack ho (by omega) (by rw[aak,<-hl];exact h3) (by omega) (by rw[hk];exact⟨_,I',q⟩)
theorem qt (lo hi:Option Int) (n:Nat):(sliceBounds lo hi none n).1=((HT.dB n 0 lo:Nat):Int)/\(sliceBounds lo hi none n).2.1=((HT.dB n n hi:Nat):Int)/\(sliceBounds lo hi none n).2.2=1:=by
 refine⟨?_,?_,rfl⟩
 ·cases lo with
  | none=>simp [sliceBounds,HT.dB]
  | some i=>
   simp only[sliceBounds,HT.dB,Option.getD_none,show(1:Int) >0 by decide,if_true]
   by_cases h:i<0
   ·simp only[h,if_true] <;>omega
   ·simp only[h,if_false] <;>omega
 ·cases hi with
  | none=>simp [sliceBounds,HT.dB]
  | some i=>
   simp only[sliceBounds,HT.dB,Option.getD_none,show(1:Int) >0 by decide,if_true]
   by_cases h:i<0
   ·simp only[h,if_true] <;>omega
   ·simp only[h,if_false] <;>omega
theorem oK (aU:List Value) (lo hi:Option Int):slicePick aU.toArray lo hi none=((aU.drop (HT.dB aU.length 0 lo)).take (HT.dB aU.length aU.length hi - HT.dB aU.length 0 lo)).toArray:=by
 obtain⟨h1,h2,h3⟩:=qt lo hi aU.toArray.size
 unfold slicePick
 rw[h1,h2,h3]
 simp only[sliceRange_one,pick_run,aak] <;>rfl
noncomputable def rSlL (K:PySem.W.Frag):V->Option Int->Option Int->Hp->VK->Prop:=λx lo hi H Q=>∃a xs,x=.ref a/\aZ K H a xs/\∀p,H p=none->Q (.ref p) (upd H p (.lst (iM xs lo hi)))
theorem BQ:Hv X (rSlL X.K):=by
 intro pins s σ H x v vl vu lo hi sl Q I rx hs pl pu h
 obtain⟨a,xs,rfl,hx,q⟩:=h
 cases rx
 obtain⟨aU,r,ht,hz⟩:=I.list hx
 have hlen:=r.length
 refine⟨"list",_,slot_list_getitem.lookup,ht.isList.typeIs,?_⟩
 refine wpAny_getItem_list_slice ht.isList hs pl pu .none (by simp) ?_ (by rw[aak] <;>omega)
 rw[oK,<-hlen]
 refine⟨.ref s.heap.objs.size,_,I.laid (t':=s.toks) (o:=.lst (iM xs lo hi)) (λb ob q=>Heap.get?_push_of_some _ q) (aag _) ?_,rfl,q _ (I.bU.fresh (aag _))⟩
 exact⟨aao (kr xs lo hi) hz,_,0,(r.drop (HT.dB xs.length 0 lo)).take (HT.dB xs.length xs.length hi - HT.dB xs.length 0 lo),Heap.get?_push_size _ rfl⟩
noncomputable def ph:V->Bool
 | .cB=>true
 | .bl _=>true
 | .int _=>true
 | .str _=>true
 | _=>false
noncomputable def Ts:V->V->Bool
 | .cB,.cB=>true
 | .bl a,.bl b=>a==b
 | .bl a,.int b=>(if a then 1 else 0)==b
 | .int a,.bl b=>a==(if b then 1 else 0)
 | .int a,.int b=>a==b
 | .str a,.str b=>a==b
 | _,_=>false
noncomputable def VA (x:V) (xs:List V):Bool:=xs.any λy=>Ts y x
theorem jh:cU X (.builtin "len") (λxs H Q=>∃p ys,xs=[.ref p]/\(aZ X.K H p ys\/d6 X.K H p ys)/\Q (.int ys.length) H):=by
 intro pins s σ H xs us Q I r h
 obtain⟨p,ys,rfl,hq,q⟩:=h
 obtain⟨u,rfl,rx⟩:=vals1 r
 cases rx
 have hn:=mP
 rcases hq with hq | hq
 ·obtain⟨aU,r',pl,hz⟩:=I.list hq
  have hlen:=r'.length
  exact Calls.call_len_list pl.isList (by simp only[aak] <;>omega) ⟨.int ys.length,H,I.tok _,⟨s.toks+1,by rw[aak,hlen]⟩,q⟩
 ·obtain⟨aU,r',pl,hz⟩:=I.tuple hq
  have hlen:=r'.length
  exact len_tuple pl (by simp only[aak] <;>omega) ⟨.int ys.length,H,I.tok _,⟨s.toks+1,by rw[aak,hlen]⟩,q⟩
theorem qu:cU X (.type "list") (λxs H Q=>∃p ys,xs=[.ref p]/\(aZ X.K H p ys\/d6 X.K H p ys)/\∀l,H l=none->Q (.ref l) (upd H l (.lst ys))):=by
 intro pins s σ H xs us Q I r h
 obtain⟨p,ys,rfl,hq,q⟩:=h
 obtain⟨u,rfl,rx⟩:=vals1 r
 cases rx
 have fin:∀(aU:List Value),bu ys aU->ys.length<=sizeLine->∀(h':Heap) (c':Nat),(∀b o',s.heap.get? b=some o'->h'.get? b=some o')->
   h'.get? s.heap.objs.size=some {cls:=.type "list",dict:=none,data:=.seq aU.toArray c',slots:=#[]}->EP X pins σ Q (.ref s.heap.objs.size) {s with heap:=h'}:=λaU r' hz h' c' kp e=>
  ⟨.ref s.heap.objs.size,_,I.laid (t':=s.toks) kp (aag _) (show cI X.prog X.w _ h' _ (.lst ys) from⟨hz,aU,c',r',e⟩),rfl,q _ (I.bU.fresh (aag _))⟩
 rcases hq with hq | hq
 ·obtain⟨aU,r',pl,hz⟩:=I.list hq
  have hlen:=r'.length
  obtain⟨o,ho,hc,n,hd⟩:=pl.isList
  exact call_list_seq p (.inl rfl) ho hc hd (λh' c' kp e=>fin aU r' hz h' c' kp e) (by simp only[aak] <;>omega)
 ·obtain⟨aU,r',pl,hz⟩:=I.tuple hq
  have hlen:=r'.length
  obtain⟨o,ho,hc,n,hd⟩:=pl
  exact call_list_seq p (.inr rfl) ho hc hd (λh' c' kp e=>fin aU r' hz h' c' kp e) (by simp only[aak] <;>omega)
noncomputable def LD (K:PySem.W.Frag) (T:String) (x:V) (H:Hp):Prop:=match x with
 | .str _=>T="str"
 | .int _=>T="int"
 | .ref p=>(T="list"/\∃xs,aZ K H p xs)\/(T="tuple"/\∃o,K.lookup p=some o/\o.cls=.type "tuple"/\o.dict=none)\/
   (T="dict"/\((∃kvs,H p=some (.dK kvs))\/∃kvs,H p=some (.dT kvs)))\/(T="set"/\∃S n,H p=some (.set S n))
 | _=>False
theorem ED {pins:List (Addr×Obj)} {σ:St} {H:Hp} {s:Shared} {T:String} {x:V} {v:Value} (I:Inv X pins σ H s) (r:RelV x v) (ty:LD X.K T x H):
  s.TypeIs v T/\∀a,v=.ref a->∃ob,s.heap.get? a=some ob/\ob.dict=none:=by
 cases x with
 | str z=>
  obtain⟨t,rfl⟩:=r
  cases (show T="str" from ty)
  exact⟨typeIs_str s z t,λ_ e=>nomatch e⟩
 | int i=>
  obtain⟨t,rfl⟩:=r
  cases (show T="int" from ty)
  exact⟨typeIs_int s i t,λ_ e=>nomatch e⟩
 | ref p=>
  cases r
  rcases ty with ⟨rfl,xs,hq⟩ | ⟨rfl,o,hk,hc,hd⟩ | ⟨rfl,hk⟩ | ⟨rfl,S,n,hk⟩
  ·obtain⟨aU,_,pl,_⟩:=I.list hq
   refine⟨pl.isList.typeIs,λa e=>?_⟩
   cases e
   obtain⟨o,n,e,c,hd,_⟩:=pl
   exact⟨o,e,hd⟩
  ·refine⟨⟨o,I.vJ p o hk,hc⟩,λa e=>?_⟩
   cases e
   exact⟨o,I.vJ _ o hk,hd⟩
  ·have z:∃o,s.heap.get? p=some o/\o.ExactDict:=by
    rcases hk with ⟨kvs,hk⟩ | ⟨kvs,hk⟩
    ·obtain⟨_,_,_,_,o,_,_,e,ex,_⟩:=I.bU p _ hk
     exact⟨o,e,ex⟩
    ·obtain⟨_,_,_,_,o,_,_,e,ex,_⟩:=I.bU p _ hk
     exact⟨o,e,ex⟩
   obtain⟨o,e,ex⟩:=z
   refine⟨⟨o,e,ex.1⟩,λa e2=>?_⟩
   cases e2
   exact⟨o,e,ex.2.1⟩
  ·obtain⟨o,_,_,_,e,ex,_⟩:=I.bU p _ hk
   refine⟨⟨o,e,ex.1⟩,λa e2=>?_⟩
   cases e2
   exact⟨o,e,ex.2.1⟩
 | _=>exact False.elim ty
noncomputable def tBM (K:PySem.W.Frag) (T:String) (r:V->List V->Hp->VK->Prop) (to:TE) (t:TA):TE:=λσ H Q=>to σ H λx H1=>LD K T x H1/\t σ H1 λxs H2=>r x xs H2 Q
variable {o e : Expr} {es : List Expr} {to : TE} {t : TA} {name : Str} {apos gu : Pos} {T id : String} {r : V -> List V -> Hp -> VK -> Prop}
theorem dD (pa:PlainAttrs T) (slot:Slot T name id) (VB:typeOf (.builtin id)=pure (.type "method_descriptor")) (hm:GK X id r) (ho:PE X o to) (ha:PA X (e::es) t)
  (Hw:attributeBase o name X.env (eval o X.env)=eval o X.env:=by rfl)
  (LF:((backTo gu (starEach (e::es) X.env)).all (λx=>!x.1) && (backToKw gu (keywordEach [] X.env)).all (λx=>x.1.isSome)
   && decide ((e::es).length+ ([]:List Keyword).length+ (if ([]:List Keyword).isEmpty then 0 else 1)<30))=true:=by rfl)
  (Hx:(apos.endLine==gu.line)=true:=by rfl) (hs:starEach (e::es) X.env=(false,eval e X.env)::starEach es X.env:=by rfl) (EE:(backTo gu (starEach es X.env)).any (·.1)=false:=by rfl):
  PE X (.Call (.Attribute o name apos) (e::es) [] gu) (tBM X.K T r to t):=by
 intro pins s σ H Q I h
 refine wpAny_Call_method_late Hw LF Hx rfl (cy (ho pins s σ H _ I h) λv s1 cX=>?_)
 obtain⟨x,H1,I1,r1,ty,q1⟩:=cX
 obtain⟨h1,h2⟩:=ED I1 r1 ty
 refine⟨T,id,pa,slot,VB,h1,h2,?_⟩
 have hA:=ha gu pins s1 σ H1 _ I1 q1
 rw[hs] at hA ⊢
 refine Calls.callWith_builtin (by show(false || (backTo gu (starEach es X.env)).any (·.1))=false;rw[EE] <;>rfl) (Calls.evalArgs_plain ?_)
 exact cy hA λus s2 ⟨vs,H2,I2,r2,q2⟩=>hm pins s2 σ H2 x vs v us Q I2 r1 r2 q2
end
end L2
namespace L2
open PySem PySem.Spec PyProof.Rows
noncomputable def Hy (X:Cx) (id:String) (r:V->List V->Hp->VK->Prop):Prop:=
 ∀(pins:List (Addr×Obj)) (s:Shared) (σ:St) (H:Hp) (x:V) (xs:List V) (v:Value) (us:List Value) (Q:VK),Inv X pins σ H s->RelV x v->bu xs us->r x xs H Q->
  wpAny (model X.prog X.w) X.A (call (.builtin id) (v::us)) (EP X pins σ Q) X.xe s
theorem bu.one:∀{x:V} {us:List Value},bu [x] us->∃u,us=[u]/\RelV x u
 | _,_,.cons r .nil=>⟨_,rfl,r⟩
theorem bu.rep {xs:List V} {us:List Value} (h:bu xs us):∀k:Nat,bu (List.replicate k xs).flatten (List.replicate k us).flatten
 | 0=>.nil
 | k+1=>by
  rw[List.replicate_succ,List.replicate_succ,List.flatten_cons,List.flatten_cons]
  exact bu.append h (bu.rep h k)
theorem foldl_rep (aU:List Value):∀(k:Nat) (acc:List Value),
  List.foldl (λx1 x2=>x1++x2) acc.toArray (List.replicate k aU.toArray)=(acc++ (List.replicate k aU).flatten).toArray
 | 0,acc=>by simp
 | k+1,acc=>by
  have e:acc.toArray++aU.toArray=(acc++aU).toArray:=by simp
  have e2:(acc++aU)++ (List.replicate k aU).flatten=acc++ (List.replicate (k+1) aU).flatten:=by
   rw[List.replicate_succ,List.flatten_cons,List.append_assoc]
  rw[<-e2,<-foldl_rep aU k (acc++aU),<-e,List.replicate_succ,List.foldl_cons]
section
variable {X : Cx} {pins : List (Addr × Obj)} {σ : St} {H : Hp} {s : Shared} {l b : Addr} {xs ys zs : List V}
theorem Inv.Hz {aU its':List Value} {n:Nat} {f:Array Value->Array Value} {t':Nat} (I:Inv X pins σ H s) (hH:H l=some (.lst xs))
  (e:s.heap.get? l=some {cls:=.type "list",data:=.seq aU.toArray n}) (hf:f aU.toArray=its'.toArray) (hv:bu ys its') (hz:ys.length<=sizeLine):
  Inv X pins σ (upd H l (.lst ys)) {s with heap:=s.heap.update l (Obj.mapSeq f),toks:=t'}:=by
 have q:=PySem.IsL.update e f
 rw[hf] at q
 refine I.write (x:=l) (e:=l) (by rw[hH];exact trivial) (.inl rfl) (λb' u hb hu=>(Heap.get?_update_other s.heap (Obj.mapSeq f) (Ne.symm hb)).trans hu) ⟨_,q⟩ ?_
 exact⟨hz,its',_,hv,q⟩
theorem Inv.uM {aU:List Value} {t':Nat} (I:Inv X pins σ H s) (hv:bu ys aU) (hz:ys.length<=sizeLine):
  Inv X pins σ (upd H s.heap.objs.size (.lst ys)) {s with heap:=s.heap.push {cls:=.type "list",data:=.seq aU.toArray},toks:=t'}:=
 I.laid (λ_ _ q=>Heap.get?_push_of_some _ q) (aag _) ⟨hz,aU,0,hv,Heap.get?_push_size _ rfl⟩
theorem Inv.fresh (I:Inv X pins σ H s):H s.heap.objs.size=none:=I.bU.fresh (aag _)
theorem Inv.yS (I:Inv X pins σ H s) (hH:H l=some (.lst xs)):xs.length<=sizeLine/\∃(aU:List Value) (n:Nat),bu xs aU/\xs.length=aU.length/\s.heap.get? l=some {cls:=.type "list",data:=.seq aU.toArray n}:=by
 obtain⟨z,aU,n,r,e⟩:=I.bU l _ hH
 exact⟨z,aU,n,r,r.length,e⟩
theorem yT {n:Nat} (h:n<=sizeLine):Builtin.List.listTooLong n=false:=by
 unfold Builtin.List.listTooLong
 exact decide_eq_false (by omega)
end
section
variable {X : Cx}
noncomputable def cG:V->List V->Hp->VK->Prop:=λx vs H Q=>∃l xs y,x=.ref l/\vs=[y]/\H l=some (.lst xs)/\xs.length<sizeLine/\Q .cB (upd H l (.lst (xs++ [y])))
theorem bS:Hy X "list.append" cG:=by
 intro pins s σ H x vs v us Q I rx rv h
 obtain⟨l,xs,y,rfl,rfl,hH,hz,q⟩:=h
 cases rx
 obtain⟨u,rfl,ru⟩:=rv.one
 obtain⟨z,aU,n,r,hl,e⟩:=I.yS hH
 refine call_meets F.slot_list_append ⟨_,e,rfl⟩ F.entry_list_append (F.args_list_append_2 _ _) (PySem.list_append l aU.toArray n u (by rw[aak];omega)) ⟨e,?_⟩
 refine⟨.cB,_,I.Hz (its':=aU++ [u]) hH e (by simp) (r.append (.cons ru .nil)) ?_,rfl,q⟩
 rw[aaD,List.length_singleton]
 omega
noncomputable def HC:R2:=λx y H Q=>∃l b xs zs,x=.ref l/\y=.ref b/\H l=some (.lst xs)/\H b=some (.lst zs)/\xs.length+zs.length<=sizeLine/\∀p,H p=none->Q (.ref p) (upd H p (.lst (xs++zs)))
theorem EF:jO X (binaryOp .Add) HC:=by
 intro pins s σ H x y v u Q I rx ry h
 obtain⟨l,b,xs,zs,rfl,rfl,hH,hB,hz,q⟩:=h
 cases rx
 cases ry
 obtain⟨z,aU,n,r,hl,e⟩:=I.yS hH
 obtain⟨z2,mW,n2,r2,BR,e2⟩:=I.yS hB
 refine PySem.P.add_list e e2 ?_ (by rw[aak,aak];omega)
 have ea:aU.toArray++mW.toArray=(aU++mW).toArray:=by simp
 rw[ea]
 exact⟨.ref _,_,I.uM (t':=s.toks) (r.append r2) (by rw[aaD];omega),rfl,q _ I.fresh⟩
noncomputable def BU:R2:=λx y H Q=>∃l k xs,x=.ref l/\y=.int k/\H l=some (.lst xs)/\-(2^63)<=k/\k<2^63/\xs.length*k.toNat<=sizeLine/\
 ∀p,H p=none->Q (.ref p) (upd H p (.lst (List.replicate k.toNat xs).flatten))
theorem len_rep {α:Type} (xs:List α) (k:Nat):(List.replicate k xs).flatten.length=k*xs.length:=by
 induction k with
 | zero=>simp
 | succ k ih=>rw[List.replicate_succ,List.flatten_cons,aaD,ih,Nat.succ_mul,Nat.add_comm]
theorem uN:jO X (binaryOp .Mult) BU:=by
 intro pins s σ H x y v u Q I rx ry h
 obtain⟨l,k,xs,rfl,rfl,hH,h1,h2,hz,q⟩:=h
 cases rx
 obtain⟨t,rfl⟩:=ry
 obtain⟨z,aU,n,r,hl,e⟩:=I.yS hH
 have hlen:aU.toArray.size*k.toNat<=sizeLine:=by rw[aak,<-hl];exact hz
 have LG:¬aU.toArray.size*k.toNat >(2^63 - 1) / 8:=by
  have:(sizeLine:Nat)<=(2^63 - 1) / 8:=by decide
  omega
 have EG:¬(!Builtin.List.listFitsIndex k)=true:=by
  rw[fitsIndex_both h1 h2]
  exact aay
 have HD:¬Builtin.List.listTooLong (aU.toArray.size*k.toNat)=true:=by
  rw[yT hlen]
  exact aay
 have LH:List.foldl (λx1 x2=>x1++x2) #[] (List.replicate (if aU.toArray.isEmpty=true then 0 else k.toNat) aU.toArray)=(List.replicate k.toNat aU).flatten.toArray:=by
  have f0:∀m:Nat,List.foldl (λx1 x2=>x1++x2) #[] (List.replicate m aU.toArray)=(List.replicate m aU).flatten.toArray:=λm=>by
   have:=foldl_rep aU m []
   rw[List.nil_append] at this
   exact this
  rw[f0]
  cases aU with
  | nil=>simp
  | cons a r'=>rw[if_neg (by simp)]
 refine wpAny_binaryOp_repeat_ref (T:="list") (U:="int") (by decide) ⟨_,e,rfl⟩ (λs'=>typeIs_int s' k t) noFill_list_mul F.fills_int_mul F.slot_int_rmul repeat_list F.slot_int_index.lookup
  (call_meets F.slot_int_rmul (typeIs_int s k t) F.entry_int_rmul (F.args_int_rmul_2 _ _) (int___rmul___int_list k t l aU.toArray n)
   ⟨e,rfl,⟨_,e,rfl⟩,call_meets F.slot_list_mul ⟨_,e,rfl⟩ F.entry_list_mul (F.args_list_mul_2 _ _) (AutoListH.list___mul___list_int_3 l aU.toArray n k t EG LG HD) ⟨e,?_⟩⟩)
 rw[LH]
 exact⟨.ref _,_,I.uM (t':=s.toks) (r.rep k.toNat) (by rw[len_rep,Nat.mul_comm];exact hz),rfl,q _ I.fresh⟩
end
section
variable {prog : Program} {w : World} {A : Around} {E : Value -> Shared -> Prop} {s : Shared}
end
section
variable {X : Cx}
end
end L2
namespace L2
open PySem PySem.Spec PyProof.Rows
section
variable {κ : Type} [DecidableEq κ]
noncomputable def gG (kvs:List (κ×V)) (k:κ):Option V:=(kvs.find? λkv=>decide (kv.1=k)).map (·.2)
noncomputable def putK (kvs:List (κ×V)) (k:κ) (v:V):List (κ×V):=
 if (kvs.any λkv=>decide (kv.1=k))=true then kvs.map (λkv=>if kv.1=k then (kv.1,v) else kv) else kvs++ [(k,v)]
noncomputable def HE (kvs:List (κ×V)) (k:κ):List (κ×V):=kvs.filter λkv=>decide (kv.1≠k)
theorem jj {p:κ×V} {r:List (κ×V)} {k:κ} (e:p.1=k):gG (p::r) k=some p.2:=by simp [gG,List.find?_cons,e]
theorem gH {p:κ×V} {r:List (κ×V)} {k:κ} (e:¬p.1=k):gG (p::r) k=gG r k:=by simp [gG,List.find?_cons,e]
theorem mX (k:κ):∀kvs:List (κ×V),(kvs.any λkv=>decide (kv.1=k))=(gG kvs k).isSome
 | []=>rfl
 | p::r=>by
  rw[List.any_cons]
  by_cases e:p.1=k
  ·simp only[jj e,decide_eq_true e,Bool.true_or,Option.isSome_some]
  ·rw[gH e,decide_eq_false e,Bool.false_or];exact mX k r
theorem kA (kvs:List (κ×V)) (k:κ) (v:V):(putK kvs k v).length<=kvs.length+1:=by
 unfold putK
 split
 ·rw[aab];omega
 ·rw[aaD,aap,aa9];omega
theorem sy {kvs:List (κ×V)} {k:κ} (v:V) (h:gG kvs k=none):putK kvs k v=kvs++ [(k,v)]:=by
 unfold putK
 rw[mX,h]
 exact if_neg (by decide)
theorem ib.fg {o:Option V} {u:Option Value} (r:ib o u):o.isSome=u.isSome:=by
 cases o with
 | none=>cases u with
  | none=>rfl
  | some _=>exact(show False from r).elim
 | some _=>cases u with
  | none=>exact(show False from r).elim
  | some _=>rfl
theorem KV.val {kvs:List (κ×V)} {vs:List (κ×Value)} (r:KV kvs vs) (k:κ):ib (gG kvs k) (valueAt vs k):=by
 unfold KV at r
 induction r with
 | nil=>exact True.intro
 | @cons p q ps qs h t ih=>
  obtain⟨h1,h2⟩:=h
  by_cases e:p.1=k
  ·have e':q.1=k:=h1.symm.trans e
   have b:valueAt (q::qs) k=some q.2:=by simp [valueAt,List.find?_cons,e']
   rw[jj e,b];exact h2
  ·have e':¬q.1=k:=λz=>e (h1.trans z)
   have b:valueAt (q::qs) k=valueAt qs k:=by simp [valueAt,List.find?_cons,e']
   rw[gH e,b];exact ih
theorem KV.any {kvs:List (κ×V)} {vs:List (κ×Value)} (r:KV kvs vs) (k:κ):(kvs.any λkv=>decide (kv.1=k))=vs.any λkv=>decide (kv.1=k):=by
 unfold KV at r
 induction r with
 | nil=>rfl
 | cons h t ih=>rw[List.any_cons,List.any_cons,ih,h.1]
theorem KV.EH {kvs:List (κ×V)} {vs:List (κ×Value)} (r:KV kvs vs) (k:κ) {y:V} {u:Value} (ry:RelV y u):
  KV (kvs.map λkv=>if kv.1=k then (kv.1,y) else kv) (vs.map λkv=>if kv.1=k then (kv.1,u) else kv):=by
 unfold KV at r ⊢
 induction r with
 | nil=>exact .nil
 | @cons p q ps qs h t ih=>
  rw[aas,aas]
  refine .cons ?_ ih
  obtain⟨h1,h2⟩:=h
  by_cases e:p.1=k
  ·rw[if_pos e,if_pos (h1.symm.trans e)];exact⟨h1,ry⟩
  ·rw[if_neg e,if_neg (λz=>e (h1.trans z))];exact⟨h1,h2⟩
theorem KV.put {kvs:List (κ×V)} {vs:List (κ×Value)} (r:KV kvs vs) (k:κ) {y:V} {u:Value} (ry:RelV y u):KV (putK kvs k y) (stored vs k u):=by
 unfold putK stored
 rw[r.any k]
 by_cases e:(vs.any λkv=>decide (kv.1=k))=true
 ·rw[if_pos e,if_pos e];exact r.EH k ry
 ·rw[if_neg e,if_neg e];exact Paired.snoc r ⟨rfl,ry⟩
theorem KV.length {kvs:List (κ×V)} {vs:List (κ×Value)} (r:KV kvs vs):kvs.length=vs.length:=Paired.length r
end
theorem kB {P:Program} {w:World} {k:Key} {u:Value} (r:RelV (kV k) u):(bY P w).is k u=true:=by
 cases k with
 | inl i=>obtain⟨t,e⟩:=(show ∃t,u=Value.int i t from r);subst e;exact rV P w i t
 | inr x=>obtain⟨t,e⟩:=(show ∃t,u=Value.str x t from r);subst e;exact rW P w x t
theorem pA {P:Program} {w:World}:∀{ks:List Key} {us:List Value},bu (ks.map kV) us->ItemsAre (bY P w) ks us
 | [],_,r=>by rw[aaK] at r;cases r;exact .nil
 | k::ks,_,r=>by
  rw[aas] at r
  cases r with
  | cons h t=>exact .cons (kB h) (pA t)
abbrev KT (H:Hp):List (List Key×V)->List (List Key×Addr×Value)->Prop:=Paired λp q=>p.1=q.1/\H q.2.1=some (.tup (p.1.map kV))/\RelV p.2 q.2.2
theorem KT.val {H:Hp} {kvs:List (List Key×V)} {xs:List (List Key×Addr×Value)} (r:KT H kvs xs) (k:List Key):ib (gG kvs k) ((atKey xs k).map (·.2)):=by
 induction r with
 | nil=>exact True.intro
 | @cons p q ps qs h t ih=>
  obtain⟨h1,_,h2⟩:=h
  by_cases e:p.1=k
  ·have e':q.1=k:=h1.symm.trans e
   have b:atKey (q::qs) k=some q.2:=by simp [atKey,List.find?_cons,e']
   rw[jj e,b];exact h2
  ·have e':¬q.1=k:=λz=>e (h1.trans z)
   have b:atKey (q::qs) k=atKey qs k:=by simp [atKey,List.find?_cons,e']
   rw[gH e,b];exact ih
theorem KT.EH {H:Hp} {kvs:List (List Key×V)} {xs:List (List Key×Addr×Value)} (r:KT H kvs xs) (k:List Key) {y:V} {u:Value} (ry:RelV y u):
  KT H (kvs.map λkv=>if kv.1=k then (kv.1,y) else kv) (xs.map (putAt k u)):=by
 induction r with
 | nil=>exact .nil
 | @cons p q ps qs h t ih=>
  rw[aas,aas]
  refine .cons ?_ ih
  obtain⟨h1,h2,h3⟩:=h
  unfold putAt
  by_cases e:p.1=k
  ·rw[if_pos e,if_pos (h1.symm.trans e)];exact⟨h1,h2,ry⟩
  ·rw[if_neg e,if_neg (λz=>e (h1.trans z))];exact⟨h1,h2,h3⟩
theorem KT.put {H:Hp} {kvs:List (List Key×V)} {xs:List (List Key×Addr×Value)} (r:KT H kvs xs) (k:List Key) {b:Addr} {y:V} {u:Value} (hb:H b=some (.tup (k.map kV))) (ry:RelV y u):
  KT H (putK kvs k y) (storedH xs k b u):=by
 have e:(kvs.any λkv=>decide (kv.1=k))=(atKey xs k).isSome:=by
  rw[mX,(r.val k).fg,Option.isSome_map]
 unfold putK storedH
 rw[e]
 by_cases q:(atKey xs k).isSome=true
 ·rw[if_pos q,if_pos q];exact r.EH k ry
 ·rw[if_neg q,if_neg q];exact Paired.snoc r ⟨rfl,hb,ry⟩
theorem KT.keeps {H H':Hp} {kvs:List (List Key×V)} {xs:List (List Key×Addr×Value)} (r:KT H kvs xs) (ht:∀b ys,H b=some (.tup ys)->H' b=some (.tup ys)):KT H' kvs xs:=
 Paired.Ef r λ_ _ z=>⟨z.1,ht _ _ z.2.1,z.2.2⟩
section
variable {P : Program} {w : World} {H : Hp} {h : Heap} {a : Addr}
theorem DB {u:HO} (ok:gm P w H h) (e:Rd H a u):cI P w H h a u:=e.ok ok
theorem pC {kvs:List (Key×V)} (ok:gm P w H h) (e:Rd H a (.dK kvs)):kvs.length<=sizeLine/\(a==sysModules)=false/\∃vs,KV kvs vs/\h.DictOf (bY P w) a vs:=
 show cI P w H h a (.dK kvs) from DB ok e
theorem DC {kvs:List (Key×V)} (ok:gm P w H h) (e:H a=some (.dK kvs)):kvs.length<=sizeLine/\(a==sysModules)=false/\∃vs,KV kvs vs/\h.DictOf (bY P w) a vs:=pC ok (.inl e)
theorem mY {ks:List Key} (ok:gm P w H h) (e:H a=some (.tup (ks.map kV))):(tupleKind (bY P w)).is h ks a:=by
 obtain⟨_,aU,r,o,h1,h2,n,h3⟩:=(show cI P w H h a (.tup (ks.map kV)) from ok a _ e)
 exact⟨o,aU.toArray,n,h1,h2,h3,by simpa using pA r⟩
theorem sC {kvs:List (List Key×V)} (ok:gm P w H h) (e:Rd H a (.dT kvs)):kvs.length<=sizeLine/\(a==sysModules)=false/\
  ∃xs,KT H kvs xs/\h.DictOfH (tupleKind (bY P w)) a xs:=by
 obtain⟨z,y,xs,r,o,es,ep,h1,h2,h3,h4,h5⟩:=(show cI P w H h a (.dT kvs) from DB ok e)
 refine⟨z,y,xs,r,o,es,ep,h1,h2,h3,h4,λx hx=>?_,h5⟩
 have all:∀{l:List (List Key×V)} {m:List (List Key×Addr×Value)},KT H l m->∀x∈m,(tupleKind (bY P w)).is h x.1 x.2.1:=by
  intro l m q
  induction q with
  | nil=>intro x hx;exact nomatch hx
  | @cons p q ps qs hq t ih=>
   intro x hx
   rcases List.mem_cons.mp hx with e | hx
   ·subst e
    exact mY ok (by rw[<-hq.1];exact hq.2.1)
   ·exact ih x hx
 exact all r x hx
theorem HF {kvs:List (List Key×V)} (ok:gm P w H h) (e:H a=some (.dT kvs)):kvs.length<=sizeLine/\(a==sysModules)=false/\
  ∃xs,KT H kvs xs/\h.DictOfH (tupleKind (bY P w)) a xs:=sC ok (.inl e)
end
noncomputable def jT (H:Hp) (a:Addr) (y:V) (r:Option V):Prop:=
 (∃kvs k,Rd H a (.dK kvs)/\y=kV k/\r=gG kvs k)\/∃kvs k b,Rd H a (.dT kvs)/\y=.ref b/\H b=some (.tup (k.map kV))/\r=gG kvs k
noncomputable def uO (H:Hp) (a:Addr) (y v:V) (H':Hp):Prop:=
 (∃kvs k,H a=some (.dK kvs)/\y=kV k/\kvs.length<sizeLine/\H'=upd H a (.dK (putK kvs k v)))\/
 ∃kvs k b,H a=some (.dT kvs)/\y=.ref b/\H b=some (.tup (k.map kV))/\kvs.length<sizeLine/\H'=upd H a (.dT (putK kvs k v))
theorem uO.k {H:Hp} {a:Addr} {kvs:List (Key×V)} {k:Key} {v:V} (e:H a=some (.dK kvs)) (hl:kvs.length<sizeLine):uO H a (kV k) v (upd H a (.dK (putK kvs k v))):=.inl ⟨kvs,k,e,rfl,hl,rfl⟩
section
variable {X : Cx} {pins : List (Addr × Obj)} {σ : St} {H : Hp} {s : Shared} {a : Addr} {y v : V} {u r : Value} {o : Option V} {A : Around} {E : Value -> Shared -> Prop}
theorem Inv.BV (I:Inv X pins σ H s):sysModules<s.heap.objs.size:=by
 have h:mainGlobals<s.heap.objs.size:=(I.mod.glob.keeps I.bk).lt
 exact Nat.lt_trans (by decide) h
theorem xO {Q:Value->Shared->Prop} (hu:A.units+1<cLine) (I:Inv X pins σ H s) (g:jT H a y (some v)) (ry:RelV y u) (h:∀w' s',Inv X pins σ H s'->RelV v w'->Q w' s'):
  wpAny (model X.prog X.w) A (getItem (.ref a) u) Q E s:=by
 rcases g with ⟨kvs,k,e,ey,l⟩ | ⟨kvs,k,b,e,ey,eb,l⟩
 ·subst ey
  obtain⟨z,hd,vs,rel,dd⟩:=pC I.bU e
  obtain⟨w',hw,qg⟩:=ib.some_of (v:=v) (o:=valueAt vs k) (by rw[l];exact rel.val k)
  exact wpAny_getItem_of (kB ry) dd.mapOf hw (h w' _ (I.tok _) qg)
 ·subst ey
  cases (show u=Value.ref b from ry)
  obtain⟨z,hd,xs,rel,dd⟩:=sC I.bU e
  obtain⟨w',hw,qg⟩:=ib.some_of (v:=v) (o:=(atKey xs k).map (·.2)) (by rw[l];exact rel.val k)
  obtain⟨p,hp,rR⟩:=Option.map_eq_some_iff.mp hw
  refine wpAny_getItem_heap (tupleKind_room_in1 hu) (mY I.bU eb) dd hp ?_
  rw[rR]
  exact h w' _ (I.tok _) qg
theorem LI {Q:Value->Shared->Prop} (hu:A.units+1<cLine) (I:Inv X pins σ H s) (g:jT H a y o) (ry:RelV y u) (h:∀s',Inv X pins σ H s'->Q (.bool o.isSome) s'):
  wpAny (model X.prog X.w) A (compareOp .In u (.ref a)) Q E s:=by
 rcases g with ⟨kvs,k,e,ey,l⟩ | ⟨kvs,k,b,e,ey,eb,l⟩
 ·subst ey
  obtain⟨z,hd,vs,rel,dd⟩:=pC I.bU e
  refine wpAny_in_of (kB ry) hd dd.mapOf ?_
  rw[<-(rel.val k).fg,<-l]
  exact h _ (I.tok _)
 ·subst ey
  cases (show u=Value.ref b from ry)
  obtain⟨z,hd,xs,rel,dd⟩:=sC I.bU e
  refine wpAny_in_heap (tupleKind_room_in1 hu) (mY I.bU eb) hd dd ?_
  have q:=(rel.val k).fg
  rw[Option.isSome_map] at q
  rw[<-q,<-l]
  exact h _ (I.tok _)
theorem BW {Q:Value->Shared->Prop} (hu:A.units+1<cLine) (I:Inv X pins σ H s) (g:jT H a y o) (ry:RelV y u) (h:∀s',Inv X pins σ H s'->Q (.bool (!o.isSome)) s'):
  wpAny (model X.prog X.w) A (compareOp .NotIn u (.ref a)) Q E s:=by
 rcases g with ⟨kvs,k,e,ey,l⟩ | ⟨kvs,k,b,e,ey,eb,l⟩
 ·subst ey
  obtain⟨z,hd,vs,rel,dd⟩:=pC I.bU e
  refine wpAny_notIn_of (kB ry) hd dd.mapOf ?_
  rw[<-(rel.val k).fg,<-l]
  exact h _ (I.tok _)
 ·subst ey
  cases (show u=Value.ref b from ry)
  obtain⟨z,hd,xs,rel,dd⟩:=sC I.bU e
  refine wpAny_notIn_heap (tupleKind_room_in1 hu) (mY I.bU eb) hd dd ?_
  have q:=(rel.val k).fg
  rw[Option.isSome_map] at q
  rw[<-q,<-l]
  exact h _ (I.tok _)
theorem qv {h':Heap} {t':Nat} {ob:HO} (I:Inv X pins σ H s) (mu:Hc (H a)) (hs:Heap.SameBut a s.heap h') (he:∃q,h'.get? a=some q) (new:cI X.prog X.w (upd H a ob) h' a ob):
  Inv X pins σ (upd H a ob) {s with heap:=h',toks:=t'}:=
 I.write (x:=a) (e:=a) mu (.inl rfl) (λb q hb z=>(hs.2 b hb).trans z) he new
theorem yU {P:Program} {w:World} {H':Hp} {h':Heap} {kvs:List (Key×V)} {vs:List (Key×Value)} (z:kvs.length<=sizeLine) (hd:(a==sysModules)=false) (rel:KV kvs vs) (dd:h'.DictOf (bY P w) a vs):
  cI P w H' h' a (.dK kvs):=⟨z,hd,vs,rel,dd⟩
theorem xP {H':Hp} {Q:Unit->Shared->Prop} (hu:A.units+1<cLine) (I:Inv X pins σ H s) (g:uO H a y v H') (ry:RelV y u) (rv:RelV v r) (h:∀s',Inv X pins σ H' s'->Q () s'):
  wpAny (model X.prog X.w) A (setItem (.ref a) u r) Q E s:=by
 rcases g with ⟨kvs,k,e,ey,l,eH⟩ | ⟨kvs,k,b,e,ey,eb,l,eH⟩
 ·subst ey eH
  obtain⟨z,hd,vs,rel,dd⟩:=DC I.bU e
  have hz:vs.length<=sizeLine:=by rw[<-rel.length];exact z
  have hl:(putK kvs k v).length<=sizeLine:=by have:=kA kvs k v;omega
  refine wpAny_setItem_pairs (hsz:=hz) (kB ry) dd λh' BX hs=>h _ ?_
  have he:∃q,h'.get? a=some q:=let ⟨q,_,_,hq,_⟩:=BX;⟨q,hq⟩
  exact qv I (by rw[e];exact True.intro) hs he (yU hl hd (rel.put k rv) BX)
 ·subst ey eH
  cases (show u=Value.ref b from ry)
  obtain⟨z,hd,xs,rel,dd⟩:=HF I.bU e
  have hz:xs.length<=sizeLine:=by rw[<-Paired.length rel];exact z
  have hl:(putK kvs k v).length<=sizeLine:=by have:=kA kvs k v;omega
  refine wpAny_setItem_heap (hsz:=hz) (tupleKind_room_in1 hu) (mY I.bU eb) dd λh' BX hs=>h _ ?_
  obtain⟨q,es,ep,hq,h2,h3,h4,_,h5⟩:=BX
  refine qv I (by rw[e];exact True.intro) hs ⟨q,hq⟩ ⟨hl,hd,_,(rel.put k eb rv).keeps λc ys ec=>?_,q,es,ep,hq,h2,h3,h4,h5⟩
  rw[aG (Hb ec e (λz=>nomatch z))]
  exact ec
end
section
variable {X : Cx} {pins : List (Addr × Obj)} {σ : St} {H : Hp} {s : Shared} {a : Addr} {kvs : List (Key × V)} {k : Key} {u : Value} {A : Around} {E : Value -> Shared -> Prop}
end
noncomputable def HG (i:Expr):Prop:=∀ov iv,subscripted i false ov iv=operate [ov,iv] (getItem ov iv)
theorem BY {prog:Program} {w:World} {A:Around} {E:Value->Shared->Prop} {s:Shared} {env:Env} {value slice:Expr} {pos:Pos} {T id:String} {Q:Value->Shared->Prop}
  (hl:typeLookup (.type T) "__getitem__"=pure (some (.builtin id))) (hs:HG slice)
  (h:wpAny (model prog w) A (eval value env) (λo s₁=>wpAny (model prog w) A (eval slice env) (λi s₂=>s₂.TypeIs o T/\wpAny (model prog w) A (getItem o i) Q E s₂) E s₁) E s):
  wpAny (model prog w) A (eval (.Subscript value slice pos) env) Q E s:=by
 refine Subscript_ (wpAny_mono h (λo s₁ h₁=>wpAny_mono h₁ (λi s₂ h₂=>?_) λ_ _ x=>x) λ_ _ x=>x)
 obtain⟨hT,h₂⟩:=h₂
 unfold subscriptTail
 refine wpAny_bind ?_
 rw[getitemInPython_of_ne hT.not_modules]
 refine wpAny_bind (wpAny_specialOf hT hl ?_)
 have fin:wpAny (model prog w) A (subscripted slice false o i) (λr s₃=>wpAny (model prog w) A (letTemporaryGo value o r >>=λ_=>pure r) Q E s₃) E s₂:=by
  rw[hs o i]
  exact wpAny_operating (wpAny_mono h₂ (λr s₃ h₃=>wpAny_bind (wpAny_letTemporaryGo (wpAny_pure h₃))) λ_ _ x=>x)
 first
  | exact wpAny_pure (wpAny_bind fin)
  | exact wpAny_bind (wpAny_pure (wpAny_bind fin))
  | exact wpAny_bind fin
theorem sE {X:Cx} {pins:List (Addr×Obj)} {σ:St} {H:Hp} {s:Shared} {a:Addr} {y:V} {o:Option V} (I:Inv X pins σ H s) (g:jT H a y o):s.TypeIs (.ref a) "dict":=by
 rcases g with ⟨kvs,k,e,_,_⟩ | ⟨kvs,k,b,e,_,_,_⟩
 ·obtain⟨_,_,vs,_,dd⟩:=pC I.bU e
  exact dd.typeIs
 ·obtain⟨_,_,xs,_,dd⟩:=sC I.bU e
  exact dd.typeIs
noncomputable def tDGet (td ty:TE):TE:=λσ H Q=>td σ H λx H1=>ty σ H1 λy H2=>∃a v,x=.ref a/\jT H2 a y (some v)/\Q v H2
noncomputable def tDIn (ty td:TE):TE:=λσ H Q=>ty σ H λy H1=>td σ H1 λx H2=>∃a o,x=.ref a/\jT H2 a y o/\Q (.bl o.isSome) H2
noncomputable def tDNotIn (ty td:TE):TE:=λσ H Q=>ty σ H λy H1=>td σ H1 λx H2=>∃a o,x=.ref a/\jT H2 a y o/\Q (.bl (!o.isSome)) H2
noncomputable def sDPut (td ty tv:TE):TS:=λD σ H=>tv σ H λv H1=>td σ H1 λx H2=>ty σ H2 λy H3=>∃a H4,x=.ref a/\uO H3 a y v H4/\D.nx σ H4
section
variable {X : Cx} {o i e value : Expr} {pos pos' kQ : Pos} {td ty tv : TE}
theorem BZ (hu:X.A.units+1<cLine) (ho:PE X o td) (hi:PE X i ty) (hs:HG i):PE X (.Subscript o i pos) (tDGet td ty):=by
 intro pins s σ H Q I h
 refine BY PySem.F.slot_dict_getitem.lookup hs (cy (ho pins s σ H _ I h) λu s1 ⟨x,H1,I1,rx,q1⟩=>cy (hi pins s1 σ H1 _ I1 q1) λiv s2 cX=>?_)
 obtain⟨y,H2,I2,ry,a,v,ex,g,q2⟩:=cX
 subst ex
 obtain rfl:u=Value.ref a:=rx
 exact⟨sE I2 g,xO hu I2 g ry λw' s3 I3 qg=>⟨v,H2,I3,qg,q2⟩⟩
theorem yV (hu:X.A.units+1<cLine) (hi:PE X i ty) (ho:PE X o td):PC X .In i o (tDIn ty td):=by
 intro pins s σ H Q I h
 refine cy (hi pins s σ H _ I h) λiv s1 ⟨y,H1,I1,ry,q1⟩=>cy (ho pins s1 σ H1 _ I1 q1) λu s2 cX=>?_
 obtain⟨x,H2,I2,rx,a,ov,ex,g,q2⟩:=cX
 subst ex
 obtain rfl:u=Value.ref a:=rx
 exact LI hu I2 g ry λs3 I3=>⟨.bl ov.isSome,H2,I3,rfl,q2⟩
theorem xQ (hu:X.A.units+1<cLine) (hi:PE X i ty) (ho:PE X o td):PC X .NotIn i o (tDNotIn ty td):=by
 intro pins s σ H Q I h
 refine cy (hi pins s σ H _ I h) λiv s1 ⟨y,H1,I1,ry,q1⟩=>cy (ho pins s1 σ H1 _ I1 q1) λu s2 cX=>?_
 obtain⟨x,H2,I2,rx,a,ov,ex,g,q2⟩:=cX
 subst ex
 obtain rfl:u=Value.ref a:=rx
 exact BW hu I2 g ry λs3 I3=>⟨.bl (!ov.isSome),H2,I3,rfl,q2⟩
theorem vW (hu:X.A.units+1<cLine) (ho:PE X o td) (hi:PE X i ty) (hv:PE X value tv) (hs:swapsWith value (some (.Subscript o i pos')) pos.line X.env=pure false):
  PS X (.Assign [.Subscript o i pos'] value pos) (sDPut td ty tv):=by
 intro pins s σ H D I h
 refine wpAny_Assign_Subscript (cy (hv pins s σ H _ I h) λr s1 ⟨v,H1,I1,rv,q1⟩=>cy (ho pins s1 σ H1 _ I1 q1) λu s2 ⟨x,H2,I2,rx,q2⟩=>cy (hi pins s2 σ H2 _ I2 q2) λiv s3 cX=>?_) hs
 obtain⟨y,H3,I3,ry,a,H4,ex,g,q3⟩:=cX
 subst ex
 obtain rfl:u=Value.ref a:=rx
 exact xP hu I3 g ry rv λs4 I4=>⟨σ,H4,I4,q3⟩
end
theorem sG {P:Program} {w:World} {H:Hp} (h:Heap) (hb:sysModules<h.objs.size):cI P w H (h.push {cls:=.type "dict",data:=.dict #[]}) h.objs.size (.dK []):=
 ⟨aar _,beq_eq_false_iff_ne.mpr (Ne.symm (aam hb)),[],.nil,Heap.DictOf.new h⟩
noncomputable def tDNewK:TE:=λ_ H Q=>∀p,H p=none->Q (.ref p) (upd H p (.dK []))
section
variable {X : Cx} {pos : Pos}
theorem yW:PE X (.Dict [] [] pos) tDNewK:=λpins s σ H Q I h=>
 wpAny_Dict_empty ⟨.ref s.heap.objs.size,_,I.laid (a:=s.heap.objs.size) (o:=.dK []) (t':=s.toks) (λ_ _ q=>Heap.get?_push_of_some _ q) (aag _) (sG s.heap I.BV),rfl,h _ (I.bU.fresh (aag _))⟩
end
abbrev VV:List (V×V)->List (Value×Value)->Prop:=Paired λp q=>RelV p.1 q.1/\RelV p.2 q.2
structure M1 (X:Cx) (o:Expr) (m:Str) (apos:Pos) (e:Expr) (gu:Pos):Prop where
 base:attributeBase o m X.env (eval o X.env)=eval o X.env
 sI:((backTo gu (starEach [e] X.env)).all (λx=>!x.1) && (backToKw gu (keywordEach [] X.env)).all (λx=>x.1.isSome)
  && decide (([e]:List Expr).length+ ([]:List Keyword).length+ (if ([]:List Keyword).isEmpty then 0 else 1)<30))=true
 line:(apos.endLine==gu.line)=true
 trees:backTo gu (starEach [e] X.env)=[(false,eval e X.env)]
structure M2 (X:Cx) (o:Expr) (m:Str) (apos:Pos) (e f:Expr) (gu:Pos):Prop where
 base:attributeBase o m X.env (eval o X.env)=eval o X.env
 sI:((backTo gu (starEach [e,f] X.env)).all (λx=>!x.1) && (backToKw gu (keywordEach [] X.env)).all (λx=>x.1.isSome)
  && decide (([e,f]:List Expr).length+ ([]:List Keyword).length+ (if ([]:List Keyword).isEmpty then 0 else 1)<30))=true
 line:(apos.endLine==gu.line)=true
 trees:backTo gu (starEach [e,f] X.env)=[(false,eval e X.env),(false,eval f X.env)]
noncomputable def LJ (H:Hp) (a:Addr):Prop:=(∃kvs,Rd H a (.dK kvs))\/∃kvs,Rd H a (.dT kvs)
section
variable {X : Cx} {pins : List (Addr × Obj)} {σ : St} {H : Hp} {s : Shared} {a : Addr} {y d : V} {u r : Value} {o : Option V} {A : Around} {E : Value -> Shared -> Prop}
end
noncomputable def tDGet1 (td ty:TE):TE:=λσ H Q=>td σ H λx H1=>∃a,x=.ref a/\LJ H1 a/\ty σ H1 λy H2=>∃o,jT H2 a y o/\Q (o.getD .cB) H2
noncomputable def tDGet2 (td ty tx:TE):TE:=λσ H Q=>td σ H λx H1=>∃a,x=.ref a/\LJ H1 a/\ty σ H1 λy H2=>tx σ H2 λz H3=>∃o,jT H3 a y o/\Q (o.getD z) H3
noncomputable def tDPop1 (td ty:TE):TE:=λσ H Q=>td σ H λx H1=>∃a,x=.ref a/\LJ H1 a/\ty σ H1 λy H2=>∃kvs k v,H2 a=some (.dK kvs)/\y=kV k/\gG kvs k=some v/\Q v (upd H2 a (.dK (HE kvs k)))
section
variable {X : Cx} {o e f : Expr} {apos gu : Pos} {td ty tx : TE}
end
section
variable {X : Cx} {pins : List (Addr × Obj)} {σ : St} {H : Hp} {s : Shared} {a : Addr} {kvs : List (Key × V)} {A : Around} {E : Value -> Shared -> Prop}
end
section
variable {X : Cx} {pins : List (Addr × Obj)} {σ : St} {H : Hp} {s : Shared} {a : Addr} {y : V} {u : Value} {A : Around} {E : Value -> Shared -> Prop}
end
end L2
namespace Bi
open PySem PySem.W PySem.Calls PyProof.Rows
theorem kT {P:Params} {h:Heap}:∀(ns:List Int) (vs:List Value),WellAll P h vs (ns.map WData.int)->IntsAre vs ns:=by
 intro ns
 induction ns with
 | nil=>
  intro vs w
  rw[aaK] at w
  cases w
  exact .nil
 | cons n ns ih=>
  intro vs w
  rw[aas] at w
  cases w with
  | cons a b=>
   cases a
   exact .cons _ _ (ih _ b)
theorem xR {l:OpenLaw} {n:Nat} (hn:l.most=some n) {P:Params} {h:Heap} {args:List WData} {vals:List Value}
  (B1:l.row.toRowW.claim.pre args=true) (B3:WellAll P h vals args):
  ∃a vs ns,vals=[Value.ref a]/\args=[WData.list (ns.map WData.int)]/\h.get? a=some {cls:=.type "list",data:=.seq vs.toArray}/\IntsAre vs ns/\ns.length<=n:=by
 have fY:WShape.hasAll [] args [.list .int]=true:=(pre_splitW B1).1
 have hc:l.pre.holds [] {args:=args}=true:=(pre_splitW B1).2
 obtain⟨d,r,rfl,h1,h2⟩:=hasAllW_cons fY
 obtain rfl:=hasAllW_nil h2
 obtain⟨xs,rfl,h3⟩:=hasW_list h1
 obtain⟨ns,rfl⟩:=items_int h3
 have hlen:ns.length<=n:=by
  unfold OpenLaw.pre at hc
  have h4:(WTm.not (.lt (.lit (.int (n:Int))) (.len (.arg 0)))).holds [] {args:=[.list (ns.map .int)]}=true:=by
   have h4:=(holds_andW hc).1
   rw[hn] at h4
   exact h4
  have h5:=condW_of h4 (w_not (w_lt w_lit (w_len_list (w_arg rfl))))
  rw[aab] at h5
  refine Nat.le_of_not_lt λq=>?_
  have q':(n:Int)< ((ns.length:Nat):Int):=by omega
  first
   | (rw[decide_eq_true q'] at h5;exact absurd h5 (by decide))
   | (simp at h5;omega)
 cases B3 with
 | cons w1 w2=>
  cases w2
  cases w1 with
  | list ho xS=>exact⟨_,_,ns,rfl,rfl,ho,kT ns _ xS,hlen⟩
theorem xT (l:OpenLaw) (args:List WData):l.row.toRowW.claim.post args (.bool true) args=true:=
 postW_of (r:=l.row.toRowW) (X:=(true==true))
  (show WShape.has [] (.bool true) .bool=true by first | rfl | decide | simp [WShape.has,WShape.arms,WShape.armsAll])
  (show(WTm.eq .res (.lit (.bool true))).value [] {args:=args,res:=some (.bool true),after:=args}=some (.bool (true==true)) from w_eq_bool (w_res rfl) w_lit) rfl
theorem sJ {l:OpenLaw} {n:Nat} {q:Program} {loose:List Str} {XP:(Str->Option Value)->Heap->Prop} {YP:World->Heap->Prop} {d:DefRec}
  (hn:l.most=some n) (HI:d.params.defaults=[])
  (call:∀(w:World) (s₀ s₁:Shared) (mg mb:Str->Option Value) (fa:Addr) (o:Obj) (pm cd doc:Value) (a:Addr) (vs:List Value) (ns:List Int),
   Ground q loose [] XP w s₀ mg mb s₁.heap->YP w s₁.heap->
   s₁.heap.get? fa=some o->o.data=.func (docDef d.name d.params d.body d.scope pm cd doc)->s₁.heap.CodeRec cd d.name->mg d.name=some (.ref fa)->
   s₁.heap.get? a=some {cls:=.type "list",data:=.seq vs.toArray}->IntsAre vs ns->ns.length<=n->s₁.gens=#[]->
   codeAny (model l.prog w) callerA (.call (.ref fa) ⟨[.ref a],[]⟩) (λr s'=>r=.ok (.ret (.bool true))/\OldK s₁.heap s'.heap/\s'.os=s₁.os/\AllBare s'.gens) s₁):
  WalkO q loose XP YP l.row.toRowW d [] (λf vs=>PySem.call f vs):=by
 intro w s₀ s₁ mg mb G Y fa o pm cd doc dV kV ho hd rZ hD HJ hg args vals as B1 VC ZQ B3 ZR
 obtain rfl:dV=.none:=Dflts.none hD HI
 obtain rfl:kV=.none:=Dflts.noKw hD
 obtain⟨a,vs,ns,rfl,rfl,EI,hints,hlen⟩:=xR hn B1 B3
 refine enter_call (codeAny_mono (call w s₀ s₁ mg mb fa o pm cd doc a vs ns G Y ho (fd_plain hd) rZ HJ EI hints hlen hg) λr s' hq=>?_)
 obtain⟨rfl,h2,h3,h4⟩:=hq
 exact⟨.inl ⟨.bool true,.bool true,[],rfl,λ_=>rfl,.bool true,xT l _,λ_=>⟨List.Pairwise.nil,λ_ hm=>(nomatch hm)⟩⟩,h2,h3,h4⟩
section
variable {prog : Program} {w : World} {A : Around} {E : Value -> Shared -> Prop} {s : Shared} {K : Frag}
noncomputable def qw (h:Heap):Heap:={h with objs:=#[]}
theorem mZ (h:Heap) (b:Addr):(qw h).get? b=none:=by
 cases e:(qw h).get? b with
 | none=>rfl
 | some o=>exact absurd (Heap.lt_size e) (aba _)
noncomputable def ledger (h:Heap) (L d:Addr):List (Addr×Obj):=(List.range h.objs.size).filterMap λa=>if a=L\/a=d then none else (h.get? a).map λo=>(a,o)
set_option tactic.hygienic true in
theorem fO {h:Heap} {L d a:Addr} {o:Obj}:(a,o)∈ledger h L d↔a≠L/\a≠d/\h.get? a=some o:=by
 unfold ledger
 rw[List.mem_filterMap]
 constructor
 ·rintro⟨b,_,e⟩
  split at e
  ·cases e
  ·rename_i hb
   obtain⟨o',ho,e'⟩:=Option.map_eq_some_iff.mp e
   cases e'
   exact⟨λq=>hb (.inl q),λq=>hb (.inr q),ho⟩
 ·rintro⟨n1,n2,ho⟩
  refine⟨a,List.mem_range.mpr (Heap.lt_size ho),?_⟩
  rw[if_neg (show ¬(a=L\/a=d) from λq=>q.elim n1 n2),ho] <;>rfl
theorem EJ {h:Heap} {L:Addr} {m:Str->Option Value} (n:h.Ns L m):Fr (qw h) L h m:=
 ⟨n,λb o e=>(by rw[mZ] at e;cases e),aar _⟩
end
end Bi
namespace L2
open PySem PySem.Spec PyProof.Rows
theorem pE:∀{vs:List Value} {ns:List Int},IntsAre vs ns->bu (ns.map V.int) vs
 | _,_,.nil=>.nil
 | _,_,.cons n t h=>.cons ⟨t,rfl⟩ (pE h)
end L2
namespace L2
open PySem PySem.Spec PyProof.Rows
abbrev ZS {K:PySem.W.Frag} {h:Heap} (_:K.In h):PySem.W.Frag:=K
end L2
namespace L2
open PySem PySem.Spec PyProof.Rows
noncomputable def inClass (s:Stmt) (j:Nat):Stmt:=match s with
 | .ClassDef _ _ _ body _ _ _ _ _ _ _=>body.getD j (.Pass ⟨0,0,0,0⟩)
 | _=>.Pass ⟨0,0,0,0⟩
noncomputable def aM (s:Stmt):Arguments:=match s with
 | .FunctionDef _ a _ _ _ _ _ _ _ _=>a
 | _=>{posonlyargs:=[],args:=[],vararg:=none,kwonlyargs:=[],kw_defaults:=[],kwarg:=none,defaults:=[]}
noncomputable def aJ (s:Stmt):List Stmt:=match s with
 | .FunctionDef _ _ b _ _ _ _ _ _ _=>b
 | _=>[]
noncomputable def ae (s:Stmt):Scope:=match s with
 | .FunctionDef _ _ _ _ _ _ sc _ _ _=>sc
 | _=>{kind:=.function,names:=[],isGenerator:=false,isCoroutine:=false}
abbrev ZT:jR:=λ_ _ _ _ _ _=>False
abbrev E0:XK:=λ_ _ _=>False
structure uP (K:PySem.W.Frag) (x qual:Str) (st:Stmt) (f:Addr) (fd:FuncData):Prop where
 ex:∃(oc:Value) (od:Option Addr) (kV doc pm:Value) (an:Option Addr) (cK ct:Value) (yu:Array (Option Value)),
  fd=PySem.W.fnOf x qual (aM st) (aJ st) (ae st) .none kV doc pm an cK ct/\K.lookup f=some ⟨oc,od,.func fd,yu⟩/\PySem.W.codeIn K cK qual=true
 kp:PySem.W.keepIn K (.ref f)=true
section
variable {P : Program} {w : World} {K : PySem.W.Frag} {mg : Str -> Option Value} {base : Heap}
theorem uP.binds {x qual:Str} {st:Stmt} {f:Addr} {fd:FuncData} {ps:List Str} (F:uP K x qual st f fd)
  (h:∀(kV doc pm:Value) (an:Option Addr) (cK ct:Value) (us:List Value),us.length=ps.length->bindArgs (PySem.W.fnOf x qual (aM st) (aJ st) (ae st) .none kV doc pm an cK ct) ⟨us,[]⟩=pure (ps.zip us)):Binds K fd ps []:=by
 obtain⟨oc,od,kV,doc,pm,an,cK,ct,yu,rfl,lk,rZ⟩:=F.ex
 exact .all (h kV doc pm an cK ct)
theorem bf {x qual:Str} {st:Stmt} {f:Addr} {oc:Value} {od an:Option Addr} {yu:Array (Option Value)} {kV doc pm cK ct:Value} (l:K.lookup f=some ⟨oc,od,.func (PySem.W.fnOf x qual (aM st) (aJ st) (ae st) .none kV doc pm an cK ct),yu⟩)
  (c:PySem.W.codeIn K cK qual=true) (k:PySem.W.keepIn K (.ref f)=true):uP K x qual st f (PySem.W.fnOf x qual (aM st) (aJ st) (ae st) .none kV doc pm an cK ct):=⟨⟨oc,od,kV,doc,pm,an,cK,ct,yu,rfl,l,c⟩,k⟩
end
theorem pF {A:Around} {k:Nat} (hr:de k A):A.units+1<cLine:=abb (Nat.add_le_add_left (by decide:1<=64) _) hr.units
section
variable {X : Cx}
theorem pv (i:Nat) {x:Str} {pos:Pos} (hN:X.N[i]?=some x:=by rfl) (hv:Lf X.env.scope x:=by first | exact Or.inl rfl | exact Or.inr (Or.inl rfl) | exact Or.inr (Or.inr rfl)) (hd:(x==("__debug__":Str))=false:=by decide)
  (rZ:(x==("__classdict__":Str))=false:=by decide):PE X (.Name x pos) (tVar i):=Ej hN hv hd rZ
end
theorem HK {A B:Prop} (h:A):if true=true then A else B:=by
 rw[if_pos rfl]
 exact h
theorem gI {c A B:Prop} [Decidable c] (h1:c->A) (h2:¬c->B):if c then A else B:=by
 by_cases h:c
 ·rw[if_pos h]
  exact h1 h
 ·rw[if_neg h]
  exact h2 h
noncomputable def az (H H':Hp):Prop:=∀b o,H b=some o->H' b=some o
theorem az.refl (H:Hp):az H H:=λ_ _ h=>h
theorem az.trans {H H1 H2:Hp} (a:az H H1) (b:az H1 H2):az H H2:=λc o h=>b c o (a c o h)
theorem az.seq {K:PySem.W.Frag} {H H':Hp} {a:Addr} {xs:List V} (e:az H H') (h:aZ K H a xs):aZ K H' a xs:=by
 rcases h with (h | ⟨o,h⟩) | h
 ·exact .inl (.inl (e _ _ h))
 ·exact .inl (.inr ⟨o,e _ _ h⟩)
 ·exact .inr h
end L2
namespace L2
open PySem PySem.Spec PyProof.Rows
section
variable {X : Cx}
end
section
variable {κ : Type} [DecidableEq κ]
end
end L2
namespace L2
open PySem PySem.Spec PyProof.Rows
noncomputable def Bt (n:Nat) (i:Int):Prop:=i.natAbs<2^n
theorem Bt.mono {m n:Nat} {i:Int} (h:Bt m i) (q:m<=n):Bt n i:=aat h (abh (by decide) q)
theorem Bt.bits {n:Nat} {i:Int} (h:Bt n i):Builtin.Int.intBits i<=n:=PyProof.Rows.intBits_le h
theorem Bt.mul {m n:Nat} {i j:Int} (h1:Bt m i) (h2:Bt n j):Bt (m+n) (i*j):=by
 unfold Bt at *
 rw[aaY,Nat.pow_add]
 exact Nat.mul_lt_mul_of_lt_of_lt h1 h2
theorem Bt.le {n:Nat} {i j:Int} (h:Bt n j) (q:i.natAbs<=j.natAbs):Bt n i:=abb q h
theorem Bt.of {n:Nat} {i:Int} (b:Nat) (h1:-(b:Int)<=i) (h2:i<=(b:Int)) (h:b<2^n:=by decide +kernel):Bt n i:=by
 unfold Bt
 exact abb (by omega) h
theorem Bt.log {n:Nat} {i:Int} (h:Bt n i) (q:n<=9000:=by decide):i.natAbs.log2<9000:=by
 by_cases z:i.natAbs=0
 ·rw[z];decide
 ·exact aat ((Nat.log2_lt z).mpr h) q
theorem Bt.fh {m n:Nat} {i j:Int} (h1:Bt m i) (h2:Bt n j) (q:m+n<=134217728:=by decide):IntMulOk i j:=mulOk_of_bits h1.bits h2.bits q
theorem cR {i j:Int} (h1:-(2^64)<i:=by decide) (h2:i<2^64:=by decide):IntMulOk i j:=.of_left (intBits_le_64 h1 h2)
theorem m4 {i j:Int} (h1:-(2^64)<j:=by decide) (h2:j<2^64:=by decide):IntMulOk i j:=.of_right (intBits_le_64 h1 h2)
section
variable {X : Cx}
theorem bo:jO X (binaryOp .Mult) (rI IntMulOk λi j=>.int (i*j)):=Hl λ_ _ _ _ _ _ _ hc q=>mul_int q hc
noncomputable def fi (_ j:Int):Prop:=0<j/\j.natAbs.log2<9000
theorem fi.of {i j:Int} {n:Nat} (h:0<j) (b:Bt n j) (q:n<=9000:=by decide):fi i j:=⟨h,b.log q⟩
theorem fi.lit {i j:Int} (h:0<j:=by decide) (q:j.natAbs.log2<9000:=by decide):fi i j:=⟨h,q⟩
theorem dM:jO X (binaryOp .FloorDiv) (rI fi λi j=>.int (i / j)):=Hl λi j _ _ _ _ _ hc q=>by
 have h1:(0:Int)<j:=hc.1
 exact floordiv_int (by omega) (by rw[Int.fdiv_eq_ediv_of_nonneg i (by omega)];exact q) (.inl (PyProof.noPylong_of_log2 hc.2))
noncomputable def vX (_ j:Int):Prop:=j≠0/\j.natAbs.log2<9000
theorem vX.of {i j:Int} {n:Nat} (h:j≠0) (b:Bt n j) (q:n<=9000:=by decide):vX i j:=⟨h,b.log q⟩
theorem yX:jO X (binaryOp .FloorDiv) (rI vX λi j=>.int (i.fdiv j)):=Hl λ_ _ _ _ _ _ _ hc q=>floordiv_int hc.1 q (.inl (PyProof.noPylong_of_log2 hc.2))
theorem cH:jO X (binaryOp .Mod) (rI (λ_ j=>0<j) λi j=>.int (i % j)):=Eu
noncomputable def rIxTH:R2:=λx y H Q=>∃p xs i v,x=.ref p/\y=.int i/\H p=some (.tup xs)/\fH xs i=some v/\Q v H
theorem aK:Dz X rIxTH:=λvalue slice pins s σ H x y v u Q I rx ry ⟨p,xs,i,z,e1,e2,e3,e4,q⟩ hs=>
 EB value slice pins s σ H x y v u Q I rx ry ⟨p,xs,i,z,e1,e2,d6.of e3,e4,q⟩ hs
noncomputable def rIxLH:R2:=λx y H Q=>∃p xs i v,x=.ref p/\y=.int i/\H p=some (.lst xs)/\fH xs i=some v/\Q v H
theorem aL:Dz X rIxLH:=λvalue slice pins s σ H x y v u Q I rx ry ⟨p,xs,i,z,e1,e2,e3,e4,q⟩ hs=>
 vV value slice pins s σ H x y v u Q I rx ry ⟨p,xs,i,z,e1,e2,aZ.of e3,e4,q⟩ hs
noncomputable def tTupS (t:TA):TE:=λσ H Q=>t σ H λxs H1=>xs.length<=sizeLine/\∀p H2,az H1 H2->H1 p=none->H2 p=some (.tup xs)->Q (.ref p) H2
theorem au {H:Hp} {p:Addr} {o:HO} (h:H p=none):az H (upd H p o):=λb u e=>by
 rw[aG (bA e h)]
 exact e
theorem bH {es:List Expr} {t:TA} {x1} {pos:Pos} (h:PA X es t):PE X (.Tuple es x1 pos) (tTupS t):=λpins s σ H Q I hq=>
 cy (h:=wpAny_Tuple_spliced (cy (h pos pins s σ H _ I hq) λus s1 ⟨xs,H1,I1,r,z,q⟩=>⟨by rw[<-r.length];exact z,by
  have hf:H1 s1.heap.objs.size=none:=I1.bU.fresh (aag _)
  refine⟨.ref s1.heap.objs.size,upd H1 s1.heap.objs.size (.tup xs),I1.laid (t':=s1.toks) (λb u e=>Heap.get?_push_of_some _ e) (aag _) ?_,rfl,q _ _ (au hf) hf ar⟩
  exact⟨z,us,r,⟨_,Heap.get?_push_size _ rfl,rfl,_,rfl⟩⟩⟩)) λ_ _ z=>z
theorem bD:cU X (.builtin "len") (λxs H Q=>∃p ys,xs=[.ref p]/\H p=some (.lst ys)/\Q (.int ys.length) H):=λpins s σ H xs us Q I r ⟨p,ys,e,h,q⟩=>
 jh pins s σ H xs us Q I r ⟨p,ys,e,.inl (aZ.of h),q⟩
theorem xU:cU X (.builtin "len") (λxs H Q=>∃p ns,xs=[.ref p]/\aZ X.K H p (List.map V.int ns)/\Q (.int (List.length ns:Nat)) H):=λpins s σ H xs us Q I r ⟨p,ns,e,h,q⟩=>
 jh pins s σ H xs us Q I r ⟨p,_,e,.inl h,by rw[aab];exact q⟩
noncomputable def EK (K:PySem.W.Frag):R2:=λx y H Q=>∃p ns i,x=.ref p/\y=.int i/\aZ K H p (List.map V.int ns)/\0<=i/\i< (List.length ns:Nat)/\Q (.int (ns.getD i.toNat 0)) H
theorem dN {ns:List Int} {i:Int} (h0:0<=i) (h1:i< (ns.length:Nat)):fH (ns.map V.int) i=some (.int (ns.getD i.toNat 0)):=by
 obtain⟨j,rfl⟩:=aav h0
 refine bL ?_
 have hj:j<ns.length:=by omega
 rw[aad,aac hj]
 simp [aae,aac hj]
theorem yY:Dz X (EK X.K):=λvalue slice pins s σ H x y v u Q I rx ry ⟨p,ns,i,e1,e2,e3,h0,h1,q⟩ hs=>
 vV value slice pins s σ H x y v u Q I rx ry ⟨p,_,i,_,e1,e2,e3,dN h0 h1,q⟩ hs
structure bX (P:Program) (w:World) (K:PySem.W.Frag) (mg:Str->Option Value) (base:Heap) (CX:jR) (k:Nat) (x:Str) (ps:List Str) (sp:Sp):Prop where
 ex:∃f fd,d7 P w K mg base CX k f fd ps sp/\mg x=some (.ref f)/\PySem.W.keepIn K (.ref f)=true/\Binds K fd ps []
theorem aH {CX:jR} {k:Nat} {x:Str} {ps:List Str} {sp:Sp} {E:XK} {e:Expr} {es:List Expr} {t:TA} {p pos:Pos} (C:bX X.prog X.w X.K X.mg X.base CX k x ps sp) (hr:de k X.A) (hg:Gl X x) (hx:eC CX X E) (ha:PA X (e::es) t)
  (yN:(x==("__debug__":Str))=false:=by decide) (he:starEach (e::es) X.env=(false,eval e X.env)::starEach es X.env:=by rfl) (hpl:(backTo pos (starEach es X.env)).any (·.1)=false:=by rfl):
  PE X (.Call (.Name x p) (e::es) [] pos) (tCall sp [] E t):=by
 obtain⟨f,fd,F,hm,hk,hb⟩:=C.ex
 exact BJ F hr hg hm hk hb .nil hx ha yN he hpl
end
noncomputable def qx (CX:jR):Prop:=∀outer H s e s',¬CX outer H s (λ_ _ _=>False) e s'
theorem qx.pass {CX:jR} (h:qx CX) {X:Cx}:eC CX X E0:=λ_ _ H s e s' _ z=>(h _ H s e s' z).elim
section
variable {P : Program} {w : World} {K : PySem.W.Frag} {mg : Str -> Option Value} {base : Heap} {CX : jR}
theorem uP.eL {x qual:Str} {st:Stmt} {f:Addr} {fd:FuncData} {N ps:List Str} {k:Nat} {sp:Sp} (F:uP K x qual st f fd) (S:aN N ps (ae st)) (len:∀vs H Q E,sp vs H Q E->vs.length=ps.length)
  (sx:∀(cK:Value) (A:Around) (outer:List Env) (s:Shared) (H:Hp) (vs:List V) (Q:VK) (E:XK),de k (A.deeper (envOfC qual (ae st) s.heap.objs.size f cK))->sp vs H Q E->
   ∃t,uu (uI CX P w K mg base N qual (ae st) f cK A outer s H E).GI (aJ st) t/\t {nx:=λ_ H'=>Q .cB H',rt:=Q} (start N vs) H):d7 P w K mg base CX (k+1) f fd ps sp:=by
 obtain⟨oc,od,kV,doc,pm,an,cK,ct,yu,rfl,lk,rZ⟩:=F.ex
 refine Dx lk rZ S len λA outer s H vs Q E hr Bh=>?_
 obtain⟨t,h,q⟩:=sx cK A outer s H vs Q E hr Bh
 exact⟨t,h.GI,q⟩
structure Dn (K:PySem.W.Frag) (mg:Str->Option Value) (x:Str) (st:Stmt):Prop where
 ex:∃f fd,uP K x x st f fd/\mg x=some (.ref f)
theorem Dn.eD {x:Str} {st:Stmt} {ps:List Str} {k:Nat} {sp:Sp} (D:Dn K mg x st)
  (hb:∀(kV doc pm:Value) (an:Option Addr) (cK ct:Value) (us:List Value),us.length=ps.length->bindArgs (PySem.W.fnOf x x (aM st) (aJ st) (ae st) .none kV doc pm an cK ct) ⟨us,[]⟩=pure (ps.zip us))
  (h:∀f fd,uP K x x st f fd->d7 P w K mg base CX k f fd ps sp):bX P w K mg base CX k x ps sp:=by
 obtain⟨f,fd,F,hm⟩:=D.ex
 exact⟨f,fd,h f fd F,hm,F.kp,F.binds hb⟩
end
section
variable {X : Cx}
noncomputable def Tt (xs ys:List V):Bool:=(List.range (min xs.length ys.length)).all (λj=>Ts (xs.getD j .cB) (ys.getD j .cB)) && xs.length==ys.length
noncomputable def rEqT:R2:=λx y H Q=>∃p q xs ys,x=.ref p/\y=.ref q/\H p=some (.tup xs)/\H q=some (.tup ys)/\xs.all ph=true/\ys.all ph=true/\Q (.bl (Tt xs ys)) H
noncomputable def rInT:R2:=λx y H Q=>∃p xs,y=.ref p/\H p=some (.tup xs)/\ph x=true/\xs.all ph=true/\Q (.bl (VA x xs)) H
end
theorem at0 {α:Type} {x:α} {l:List α}:fH (x::l) 0=some x:=bL (j:=0) rfl
theorem at1 {α:Type} {x y:α} {l:List α}:fH (x::y::l) 1=some y:=bL (j:=1) rfl
theorem at2 {α:Type} {x y z:α} {l:List α}:fH (x::y::z::l) 2=some z:=bL (j:=2) rfl
noncomputable def Pr (a b:Int):List V:=[.int a,.int b]
end L2
namespace Nm
noncomputable def g (a b:Int):Int:=(Int.gcd a b:Nat)
theorem EL (a b:Int):0<=g a b:=Int.natCast_nonneg _
theorem jl {a b:Int} (h:b≠0):0<g a b:=by
 have:=Int.gcd_pos_of_ne_zero_right a h
 unfold g
 omega
theorem jm (a b:Int):g a b∣a:=Int.gcd_dvd_left ..
theorem eN (a b:Int):g a b∣b:=Int.gcd_dvd_right ..
theorem qy (a b:Int):g a b=g b a:=by unfold g;rw[Int.gcd_comm]
theorem EM {a b:Int} (h:0<b):g a b<=b:=Int.le_of_dvd h (eN a b)
theorem yZ (a b:Int):g (a.natAbs:Int) b=g a b:=by
 unfold g Int.gcd
 rw[Int.natAbs_natCast]
theorem vY (a b:Int):g a (b.natAbs:Int)=g a b:=by
 rw[qy,yZ,qy]
theorem DD (a b:Int):g (-a) b=g a b:=by
 unfold g Int.gcd
 rw[Int.natAbs_neg]
theorem y2 {a b:Int} (ha:0<=a) (ZU:0<b):g b (a % b)=g a b:=by
 unfold g Int.gcd
 rw[Int.natAbs_emod_of_nonneg ha,Nat.gcd_comm b.natAbs,<-Nat.gcd_rec,Nat.gcd_comm]
theorem y3 {a:Int} (ha:0<=a):g a 0=a:=by
 unfold g
 rw[Int.gcd_zero_right]
 omega
theorem y4 {a b:Int} (h:b≠0):g a b<=(b.natAbs:Int):=by
 rw[<-vY]
 exact EM (by omega)
theorem B4 {a b:Int} (h:b≠0):g (a / g a b) (b / g a b)=1:=by
 have p:0<Int.gcd a b:=Int.gcd_pos_of_ne_zero_right a h
 unfold g
 rw[Int.gcd_ediv_gcd_ediv_gcd p]
 rfl
theorem B5 {a b:Int} (h:0<b):0<b / g a b:=Int.ediv_pos_of_pos_of_dvd h (EL a b) (eN a b)
theorem xV (a b:Int):(a / g a b)*b=a* (b / g a b):=by
 rw[<-Int.mul_ediv_assoc _ (eN a b),aaB a b,Int.mul_ediv_assoc _ (jm a b),aaB]
theorem lX {q a b:Int} (h:q∣a*b) (c:Int.gcd a q=1):q∣b:=by
 have h1:=(Int.dvd_gcd_mul_iff_dvd_mul (k:=q) (n:=a) (m:=b)).mpr h
 rw[Int.gcd_comm,c] at h1
 simpa using h1
theorem B6 {p q p' q':Int} (h:0<q) (h':0<q') (e:g p q=1) (e':g p' q'=1) (c:p*q'=p'*q):p=p'/\q=q':=by
 have c1:Int.gcd p q=1:=by unfold g at e;omega
 have c2:Int.gcd p' q'=1:=by unfold g at e';omega
 have d1:q∣q':=by
  have:q∣p*q':=⟨p',by rw[c,aaB]⟩
  exact lX this c1
 have d2:q'∣q:=by
  have:q'∣p'*q:=⟨p,by rw[<-c,aaB]⟩
  exact lX this c2
 have eq:q=q':=by
  have:=Int.le_of_dvd h' d1
  have:=Int.le_of_dvd h d2
  omega
 subst eq
 exact⟨Int.eq_of_mul_eq_mul_right (by omega) c,rfl⟩
theorem dO {a g:Int} (_h:0<g) (d:g∣a):(a / g).natAbs<=a.natAbs:=by
 rw[Int.natAbs_ediv_of_dvd d]
 exact Nat.div_le_self _ _
theorem back {a b c d p q x y:Int} (hq:0<q) (hd:0<d) (e:p* (b*d)=(a*d - c*b)*q) (f:x* (q*d)=(p*d+c*q)*y):x*b=a*y:=by
 have h:(x*b)* (q*d)=(a*y)* (q*d):=by grind
 exact Int.eq_of_mul_eq_mul_right (by have:=Int.mul_pos hq hd;omega) h
end Nm
namespace L2
open PySem PySem.Spec PyProof.Rows PySem.W
theorem cI.get {P:Program} {w:World} {H:Hp} {h:Heap} {a:Addr}:∀{o:HO},cI P w H h a o->∃ob,h.get? a=some ob
 | .lst _,x=>let ⟨_,_,_,_,e⟩:=x;⟨_,e⟩
 | .tup _,x=>let ⟨_,_,_,o,e,_⟩:=x;⟨o,e⟩
 | .dK _,x=>let ⟨_,_,_,_,o,_,_,e,_⟩:=x;⟨o,e⟩
 | .dT _,x=>let ⟨_,_,_,_,o,_,_,e,_⟩:=x;⟨o,e⟩
 | .set _ _,x=>by
  obtain⟨o,es,ep,t,e,_⟩:=x
  exact⟨o,e⟩
 | .ins _ _ _,x=>let ⟨_,_,_,e,_⟩:=x;⟨_,e⟩
 | .own _,x=>x
 | .xd _,x=>by
  obtain⟨mA,⟨o,es,ep,e,_⟩,_⟩:=x
  exact⟨o,e⟩
 | .mG _ _,x=>let ⟨_,_,_,e⟩:=x;⟨_,e⟩
 | .uk _ _,x=>⟨_,x.1⟩
 | .rQ _,⟨_,x,_⟩=>⟨_,x⟩
 | .met _ _,x=>⟨_,x⟩
 | .ext _,x=>x.2.1
structure VD (P:Program) (w:World) (l:List Env) (H:Hp) (s:Shared) (H':Hp) (ad:Addr) (cls:Value) (s':Shared):Prop where
 os:s'.os=s.os
 bare:AllBare s'.gens
 un:Un (rX l) [] H H' s.heap s'.heap
 bU:gm P w H' s'.heap
 fl:∃B a0,Heap.FlyingW B l ad cls a0 s'.heap/\(∀b o,s.heap.get? b=some o->H b=none->b∉rX l->B.get? b=some o)/\(∀b o,s.heap.get? b=some o->b∉rX l->∃o',B.get? b=some o')/\
  (∀b u o,H' b=some u->s'.heap.get? b=some o->B.get? b=some o)
noncomputable def bQ (P:Program) (w:World):jR:=λl H s E e s'=>∃ad cls H',e=.ref ad/\VD P w l H s H' ad cls s'/\E cls none H'
theorem vZ (P:Program) (w:World):qx (bQ P w):=λ_ _ _ _ _ ⟨_,_,_,_,_,h⟩=>h
section
variable {P : Program} {w : World} {K : PySem.W.Frag} {mg : Str -> Option Value} {base : Heap} {N : List Str} {qual : Str} {scope : Scope} {f : Addr} {cK : Value} {A : Around} {outer : List Env} {s0 : Shared} {H0 : Hp} {E : XK}
end
end L2
namespace L2
open PySem PySem.Spec PyProof.Rows PySem.W
abbrev VE:List Value:=[.type "ValueError",.type "Exception",.type "BaseException",.type "object"]
abbrev Tu:String:="ValueError.__new__"
noncomputable def tRaise (C:Addr) (E:XK) (t:TA):TS:=λ_ σ H=>t σ H λvs H1=>vs.length<=sizeLine/\E (.ref C) none H1
section
variable {P : Program} {w : World} {K : PySem.W.Frag} {mg : Str -> Option Value} {base : Heap} {N : List Str} {qual : Str} {scope : Scope} {f : Addr} {cK : Value} {A : Around} {outer : List Env} {s0 : Shared} {H0 : Hp} {E : XK}
end
section
variable {X : Cx} {pins : List (Addr × Obj)} {σ : St} {H H' : Hp} {s s' : Shared}
abbrev Cx.mark (X:Cx) (ad:Addr):Cx:={X with A:=X.A.mark (some (.ref ad)),calm:=false,xe:=λ_ _=>False}
end
section
variable {X : Cx} {CX : jR} {k : Nat} {x : Str} {ps : List Str} {sp : Sp} {E : XK} {e : Expr} {es : List Expr} {t : TA} {p pos : Pos}
variable {cx n : Str} {np VF VG kQ : Pos} {b₀ : Stmt} {Tv : List Stmt} {i : Nat} {ts : TS} {C2 : Addr}
end
end L2
namespace Nm
noncomputable def st (a b:Int):Int:=if b<0 then -(a / g a b) else a / g a b
noncomputable def sb (a b:Int):Int:=if b<0 then -(b / g a b) else b / g a b
set_option tactic.hygienic true in
theorem y7 {a b:Int} (h:b≠0):0<sb a b:=by
 have g0:=jl (a:=a) h
 unfold sb
 split
 ·rename_i hb
  have h1:0< (-b) / g a b:=Int.ediv_pos_of_pos_of_dvd (by omega) (EL a b) (Int.dvd_neg.mpr (eN a b))
  rw[Int.neg_ediv_of_dvd (eN a b)] at h1
  exact h1
 ·exact B5 (by omega)
theorem B7 (a b:Int):g a (-b)=g a b:=by rw[qy,DD,qy]
theorem y8 {a b:Int} (h:b≠0):g (st a b) (sb a b)=1:=by
 have e:=B4 (a:=a) h
 unfold st sb
 split
 ·rw[DD,B7];exact e
 ·exact e
theorem sM (a b:Int):st a b*b=a*sb a b:=by
 have e:=xV a b
 unfold st sb
 split
 ·rw[Int.neg_mul,e,Int.mul_neg]
 ·exact e
theorem EN {a b:Int} (h:b≠0):(st a b).natAbs<=a.natAbs:=by
 have:=dO (jl (a:=a) h) (jm a b)
 unfold st
 split <;>omega
theorem EO {a b:Int} (h:b≠0):(sb a b).natAbs<=b.natAbs:=by
 have:=dO (jl (a:=a) h) (eN a b)
 unfold sb
 split <;>omega
theorem qz {a b:Int} (h:0<b):st a b=a / g a b/\sb a b=b / g a b:=by
 unfold st sb
 rw[if_neg (by omega),if_neg (by omega)]
 exact⟨rfl,rfl⟩
end Nm
namespace L2
open PySem PySem.Spec PyProof.Rows
section
variable {P : Program} {w : World} {K : PySem.W.Frag} {mg : Str -> Option Value} {base : Heap} {CX : jR}
end
noncomputable def noStar:Expr->Bool
 | .Starred _ _=>false
 | _=>true
theorem se {e:Expr} {es:List Expr} {env:Env} (h:noStar e=true):starEach (e::es) env=(false,eval e env)::starEach es env:=by
 cases e <;>first | rfl | exact absurd h aay
theorem na {env:Env} {pos:Pos}:∀{es:List Expr},es.all noStar=true->(backTo pos (starEach es env)).any (·.1)=false
 | [],_=>rfl
 | e::es,h=>by
  rw[List.all_cons,aaR] at h
  rw[se h.1]
  show(false || (backTo pos (starEach es env)).any (·.1))=false
  rw[na h.2]
  rfl
end L2
namespace L2
open PySem PySem.Spec PyProof.Rows PySem.W
structure LK (K:PySem.W.Frag) (C:Addr):Prop where
 cls:(clsIn K C).isSome=true
 ga:findIn K (.ref C) "__getattribute__"=some (some (.builtin "BaseException.__getattribute__"))
 gt:findIn K (.ref C) "__getattr__"=some none
 cl:findIn K (.ref C) "__class__"=some (some (.builtin "object.__class__"))
 be:mroIn K C (.type "BaseException")=some true
 ob:mroIn K C (.type "object")=some true
section
variable {prog : Program} {w : World} {A : Around} {E : Value -> Shared -> Prop} {K : PySem.W.Frag} {h : Heap} {g : Array GenState} {d : Drawn} {t : Nat} {os : OsState} {a C : Addr} {o : Obj}
end
section
variable {X : Cx}
end
end L2
namespace L2
open PySem PySem.Spec PyProof.Rows
theorem iN {env:Env}:∀(names:List (Str×NameKind)) (cs:List (Str×Addr)),(∀n,(n,NameKind.free)∈names->∃c,env.cells.lookup n=some c)->(∀x c,cs.lookup x=some c->env.cells.lookup x=some c)->
  ∃cl,(forIn names cs fun(x:Str×NameKind) (r:List (Str×Addr))=>(if (x.2==NameKind.free)=true then do let c <-cellOf env x.1;pure (ForInStep.yield ((x.1,c)::r)) else pure (ForInStep.yield r):Sem (ForInStep (List (Str×Addr)))))=pure cl/\
   (∀x c,cl.lookup x=some c->env.cells.lookup x=some c)/\(∀n,((n,NameKind.free)∈names\/(cs.lookup n).isSome=true)->∃c,cl.lookup n=some c)/\(∀x c,(x,c)∈cl->(env.cells.lookup x=some c/\(x,NameKind.free)∈names)\/(x,c)∈cs)
 | [],cs,_,h=>⟨cs,rfl,h,(λn hn=>by
   rcases hn with hn | hn
   ·exact absurd hn (by simp)
   ·exact Option.isSome_iff_exists.mp hn),λx c m=>.inr m⟩
 | (n,k)::r,cs,hf,h=>by
  by_cases hk:k=.free
  ·subst hk
   obtain⟨c,hc⟩:=hf n aai
   obtain⟨cl,e,h1,h2,h3⟩:=iN r ((n,c)::cs) (λm hm=>hf m (aaj _ hm)) (λx c' hx=>by
    rw[aaL] at hx
    cases q:x==n with
    | true=>
     rw[q] at hx
     have e1:x=n:=by simpa using q
     cases hx
     rw[e1];exact hc
    | false=>rw[q] at hx;exact h x c' hx)
   refine⟨cl,?_,h1,λm hm=>h2 m ?_,λx c' m=>?_⟩
   rotate_left 2
   ·rcases h3 x c' m with ⟨q1,q2⟩ | m
    ·exact .inl ⟨q1,aaj _ q2⟩
    ·rcases List.mem_cons.mp m with e | m
     ·cases e
      exact .inl ⟨hc,aai⟩
     ·exact .inr m
   ·rw[List.forIn_cons]
    have VH:cellOf env n=pure c:=by unfold cellOf;rw[hc]
    simp only[beq_self_eq_true,if_true,VH,pure_bind]
    exact e
   ·rcases hm with hm | hm
    ·rcases List.mem_cons.mp hm with z | z
     ·cases z
      right
      rw[aaL]
      simp
     ·exact .inl z
    ·right
     rw[aaL]
     cases q:m==n with
     | true=>rfl
     | false=>exact hm
  ·obtain⟨cl,e,h1,h2,h3⟩:=iN r cs (λm hm=>hf m (aaj _ hm)) h
   refine⟨cl,?_,h1,λm hm=>h2 m ?_,λx c' m=>(h3 x c' m).imp (λq=>⟨q.1,aaj _ q.2⟩) id⟩
   ·rw[List.forIn_cons]
    have:(k==NameKind.free)=false:=by simpa using hk
    simp only[this,Bool.false_eq_true,if_false,pure_bind]
    exact e
   ·rcases hm with hm | hm
    ·rcases List.mem_cons.mp hm with z | z
     ·cases z;exact absurd rfl hk
     ·exact .inl z
    ·exact .inr hm
theorem eW {env:Env} {scope:Scope} (hf:∀n,(n,NameKind.free)∈scope.names->∃c,env.cells.lookup n=some c):
  ∃cl,closureFor scope env=pure cl/\(∀x c,cl.lookup x=some c->env.cells.lookup x=some c)/\(∀n,(n,NameKind.free)∈scope.names->∃c,cl.lookup n=some c)/\(∀x c,(x,c)∈cl->env.cells.lookup x=some c/\(x,NameKind.free)∈scope.names):=by
 obtain⟨cl,e,h1,h2,h3⟩:=iN (env:=env) scope.names [] hf (λx c h=>by simp at h)
 refine⟨cl,?_,h1,λn hn=>h2 n (.inl hn),λx c m=>(h3 x c m).elim id λz=>absurd z (by simp)⟩
 unfold closureFor
 simp only[bind_pure]
 exact e
structure en (N:List Str) (so:Scope) (N':List Str) (scope:Scope) (k:Nat) (fr:List Nat):Prop where
 kind:scope.kind=.function
 ER:∀y∈scope.names,y.2=.cell->scope.names.lookup y.1=some .cell/\(y.1,NameKind.free)∉scope.names
 locs:∀y∈scope.names,y.2=.local->scope.names.lookup y.1=some .local
 outer:∀y∈scope.names,y.2=.free->(so.names.lookup y.1=some .cell\/so.names.lookup y.1=some .free)
 len:N'.length=k+fr.length
 at_:∀t,t<fr.length->(fr[t]?).bind (λj=>N[j]?)=N'[k+t]?
 LL:∀x∈N'.drop k,scope.names.lookup x=some .free
noncomputable def stC (k:Nat) (fr:List Nat) (σ:St):St:=List.replicate k none++fr.map λj=>(σ[j]?).join
noncomputable def kU (X:Cx) (N:List Str) (scope:Scope) (cl:List (Str×Addr)) (C:Addr) (s:Shared) (H:Hp) (ex:List Addr):Cx where
 prog:=X.prog
 w:=X.w
 K:=X.K
 mg:=X.mg
 base:=X.base
 A:=X.A
 N:=N
 s₀:=s
 H₀:=H
 env:=compEnvC scope cl C X.env
 outer:=X.stack
 stack:=X.stack
 ex:=ex
 calm:=X.calm
 fn:=λx=>scope.names.lookup x==some .cell
 pn:=[]
 xe:=λ_ _=>False
theorem dZ {env:Env}:∀{names:List (Str×NameKind)} {x:Str},names.lookup x=some .free->
  (names.map fun(n,k)=>if (k==NameKind.free && env.scope.kind==.function && env.kindOf n==some .cell) then (n,NameKind.cell) else (n,k)).lookup x=some .cell\/
  (names.map fun(n,k)=>if (k==NameKind.free && env.scope.kind==.function && env.kindOf n==some .cell) then (n,NameKind.cell) else (n,k)).lookup x=some .free
 | [],_,h=>by simp at h
 | (n,k)::r,x,h=>by
  have ih:=@dZ env r x
  show List.lookup x ((if (k==NameKind.free && env.scope.kind==.function && env.kindOf n==some .cell)=true then (n,NameKind.cell) else (n,k))::_)=_\/List.lookup x ((if (k==NameKind.free && env.scope.kind==.function && env.kindOf n==some .cell)=true then (n,NameKind.cell) else (n,k))::_)=_
  cases hx:x==n with
  | true=>
   simp only[aaL,hx] at h
   cases h
   by_cases hc:(NameKind.free==NameKind.free && env.scope.kind==.function && env.kindOf n==some .cell)=true
   ·rw[if_pos hc];left;simp [aaL,hx]
   ·rw[if_neg hc];right;simp [aaL,hx]
  | false=>
   simp only[aaL,hx] at h
   by_cases hc:(k==NameKind.free && env.scope.kind==.function && env.kindOf n==some .cell)=true
   ·rw[if_pos hc];simp only[aaL,hx];exact ih h
   ·rw[if_neg hc];simp only[aaL,hx];exact ih h
theorem jn {env:Env}:∀{names:List (Str×NameKind)} {x:Str},
  ((names.map fun(n,k)=>if (k==NameKind.free && env.scope.kind==.function && env.kindOf n==some .cell) then (n,NameKind.cell) else (n,k)).lookup x=some .cell\/
  (names.map fun(n,k)=>if (k==NameKind.free && env.scope.kind==.function && env.kindOf n==some .cell) then (n,NameKind.cell) else (n,k)).lookup x=some .free)->(x,NameKind.free)∈names\/(x,NameKind.cell)∈names
 | [],_,h=>by simp at h
 | (n,k)::r,x,h=>by
  have ih:=@jn env r x
  have up:((x,NameKind.free)∈r\/(x,NameKind.cell)∈r)->((x,NameKind.free)∈(n,k)::r\/(x,NameKind.cell)∈(n,k)::r):=λz=>z.imp (aaj _) (aaj _)
  have h:List.lookup x ((if (k==NameKind.free && env.scope.kind==.function && env.kindOf n==some .cell)=true then (n,NameKind.cell) else (n,k))::_)=_\/List.lookup x ((if (k==NameKind.free && env.scope.kind==.function && env.kindOf n==some .cell)=true then (n,NameKind.cell) else (n,k))::_)=_:=h
  cases hx:x==n with
  | true=>
   have e1:x=n:=by simpa using hx
   subst e1
   by_cases hc:(k==NameKind.free && env.scope.kind==.function && env.kindOf x==some .cell)=true
   ·have:k=.free:=by
     simp only[aaR] at hc
     simpa using hc.1.1
    subst this
    exact .inl aai
   ·rw[if_neg hc] at h
    simp only[aaL,hx] at h
    rcases h with h | h
    ·cases h;exact .inr aai
    ·cases h;exact .inl aai
  | false=>
   by_cases hc:(k==NameKind.free && env.scope.kind==.function && env.kindOf n==some .cell)=true
   ·rw[if_pos hc] at h;simp only[aaL,hx] at h;exact up (ih h)
   ·rw[if_neg hc] at h;simp only[aaL,hx] at h;exact up (ih h)
theorem jU:∀(names:List (Str×NameKind)) (h:Heap) (acc:List (Str×Addr)) (x:Str) (c:Addr),(x,c)∈cellsFrom h.objs.size names acc->
  (x,c)∈acc\/(h.objs.size<=c/\(pushCells h names).IsCell c none/\(x,NameKind.cell)∈names)
 | [],h,acc,x,c,m=>.inl m
 | (n,k)::r,h,acc,x,c,m=>by
  unfold cellsFrom at m
  unfold pushCells
  by_cases hk:(k==NameKind.cell)=true
  ·rw[if_pos hk] at m ⊢
   have ih:=jU r (h.push {cls:=.type "cell",data:=.cell none}) ((n,h.objs.size)::acc) x c
   rw[Heap.size_push] at ih
   rcases ih m with m | ⟨q1,q2,q3⟩
   ·rcases List.mem_cons.mp m with e | m
    ·cases e
     have hk:k=.cell:=by simpa using hk
     subst hk
     refine .inr ⟨aag _,?_,aai⟩
     have q:(h.push {cls:=.type "cell",data:=.cell none}).IsCell h.objs.size none:=⟨_,Heap.get?_push_size _ rfl,rfl⟩
     exact q.keeps λb o e=>pushCells_keeps r _ b o e
    ·exact .inl m
   ·exact .inr ⟨by omega,q2,aaj _ q3⟩
  ·rw[if_neg hk] at m ⊢
   rcases jU r h acc x c m with m | ⟨q1,q2,q3⟩
   ·exact .inl m
   ·exact .inr ⟨q1,q2,aaj _ q3⟩
theorem jV:∀(names:List (Str×NameKind)) (n lo:Nat) (acc:List (Str×Addr)),(∀x c,(x,c)∈acc->c<n)->(∀x y c,lo<=c->(x,c)∈acc->(y,c)∈acc->x=y)->
  ∀x y c,lo<=c->(x,c)∈cellsFrom n names acc->(y,c)∈cellsFrom n names acc->x=y
 | [],n,lo,acc,h1,h2,x,y,c,hl,m1,m2=>h2 x y c hl m1 m2
 | (z,k)::r,n,lo,acc,h1,h2,x,y,c,hl,m1,m2=>by
  unfold cellsFrom at m1 m2
  by_cases hk:(k==NameKind.cell)=true
  ·rw[if_pos hk] at m1 m2
   refine jV r (n+1) lo _ (λx c m=>?_) (λx y c hl m1 m2=>?_) x y c hl m1 m2
   ·rcases List.mem_cons.mp m with e | m
    ·cases e;exact aaJ _
    ·exact abi (h1 x c m)
   ·rcases List.mem_cons.mp m1 with e1 | m1 <;>rcases List.mem_cons.mp m2 with e2 | m2
    ·cases e1;cases e2;rfl
    ·cases e1;exact absurd (h1 _ _ m2) (aaF _)
    ·cases e2;exact absurd (h1 _ _ m1) (aaF _)
    ·exact h2 x y c hl m1 m2
  ·rw[if_neg hk] at m1 m2
   exact jV r n lo acc h1 h2 x y c hl m1 m2
theorem fP:∀(names:List (Str×NameKind)) (n:Nat) (acc:List (Str×Addr)) (x:Str),(x,NameKind.cell)∉names->(cellsFrom n names acc).lookup x=acc.lookup x
 | [],n,acc,x,_=>rfl
 | (z,k)::r,n,acc,x,h=>by
  have hr:(x,NameKind.cell)∉r:=λm=>h (aaj _ m)
  unfold cellsFrom
  by_cases hk:(k==NameKind.cell)=true
  ·rw[if_pos hk,fP r _ _ x hr,aaL]
   have hk:k=.cell:=by simpa using hk
   subst hk
   have:(x==z)=false:=by
    cases q:x==z with
    | false=>rfl
    | true=>
     have e:x=z:=by simpa using q
     subst e
     exact absurd aai h
   rw[this]
  ·rw[if_neg hk]
   exact fP r n acc x hr
theorem jW:∀(names:List (Str×NameKind)) (n:Nat) (acc:List (Str×Addr)) (x:Str),((x,NameKind.cell)∈names\/(acc.lookup x).isSome=true)->((cellsFrom n names acc).lookup x).isSome=true
 | [],n,acc,x,h=>by
  rcases h with h | h
  ·simp at h
  ·exact h
 | (z,k)::r,n,acc,x,h=>by
  unfold cellsFrom
  by_cases hk:(k==NameKind.cell)=true
  ·rw[if_pos hk]
   refine jW r _ _ x ?_
   rcases h with h | h
   ·rcases List.mem_cons.mp h with e | h
    ·cases e
     right
     rw[aaL]
     simp
    ·exact .inl h
   ·right
    rw[aaL]
    cases q:x==z with
    | true=>rfl
    | false=>exact h
  ·rw[if_neg hk]
   refine jW r _ _ x ?_
   rcases h with h | h
   ·rcases List.mem_cons.mp h with e | h
    ·cases e;exact absurd rfl hk
    ·exact .inl h
   ·exact .inr h
section
variable {M : Model} {A : Around} {E : Value -> Shared -> Prop} {s : Shared}
theorem jo {scope:Scope} {globals:Addr} {closure:List (Str×Addr)} {qual:Str} {func:Option Addr} {code:Value} {outer:Env} {Q:Env->Shared->Prop}
  (hQ:Q (newEnv scope s.heap.objs.size globals (cellsFrom (s.heap.objs.size+1) scope.names closure) qual func code (some outer) builtinsNs)
   {s with heap:=pushCells (s.heap.push {cls:=.type "dict",data:=.dict #[]}) scope.names}):
  wpAny M A (newFunctionEnv scope globals closure [] qual func code (some outer)) Q E s:=by
 simp only[newFunctionEnv,Option.isSome_some,if_true]
 refine wpAny_bind (wpAny_alloc ?_)
 refine wpAny_bind (wpAny_layCells _ (λname kind cells=>by cases VI:kind==NameKind.cell <;>simp [VI]) _ _ _ _ ?_)
 rw[show({s with heap:=s.heap.push {cls:=.type "dict",data:=.dict #[]}}:Shared).heap.objs.size=s.heap.objs.size+1 from Heap.size_push ..]
 refine wpAny_bind ?_
 rw[List.forIn_nil]
 exact wpAny_pure (wpAny_pure hQ)
end
structure ES (X:Cx) (scope:Scope) (cl:List (Str×Addr)) (lo:Nat) (C:Addr) (h1:Heap):Prop where
 old:∀x c,cl.lookup x=some c->X.env.cells.lookup x=some c\/(lo<=c/\C<c/\h1.IsCell c none)
 inj:∀x y c,C<c->cl.lookup x=some c->cl.lookup y=some c->x=y
 has:∀n,(n,NameKind.free)∈scope.names\/(n,NameKind.cell)∈scope.names->∃c,cl.lookup n=some c
 LL:∀n,scope.names.lookup n=some .free->∀c,cl.lookup n=some c->X.env.cells.lookup n=some c
 own:∀x c,scope.names.lookup x=some .cell->cl.lookup x=some c->lo<=c
section
variable {X : Cx} {pins : List (Addr × Obj)} {σ : St} {H : Hp} {s : Shared} {N' : List Str} {scope : Scope} {k : Nat} {fr : List Nat} {cl : List (Str × Addr)}
theorem ET {C:Addr} {fp:List Addr} {h1:Heap} (I:Inv X pins σ H s) (S:en X.N X.env.scope N' scope k fr) (B:ES X scope cl s.heap.objs.size C h1)
  (hC:s.heap.objs.size<=C) (f2:∀b∈fp,ic X pins H b) (lt:∀b∈fp,b<s.heap.objs.size):(kU X N' scope cl C s H fp).Ok where
 mod:=I.ok.mod
 kind:=S.kind
 glob:=I.ok.glob
 blt:=I.ok.blt
 above:=hC
 inj:=λx y c h1 h2=>by
  rcases B.old _ _ h1 with o1 | o1 <;>rcases B.old _ _ h2 with o2 | o2
  ·exact I.ok.inj x y c o1 o2
  ·exact B.inj x y c o2.2.1 h1 h2
  ·exact B.inj x y c o1.2.1 h1 h2
  ·exact B.inj x y c o1.2.1 h1 h2
 has:=λx hx=>B.has x (jn hx)
 GH:=λx c z e=>B.own x c (by
  have z:(scope.names.lookup x==some NameKind.cell)=true:=z
  simpa using z) e
 hd:=I.ok.hd
 frames:=I.ok.frames
 yB:=.inl rfl
 Lg:=λb hb=>⟨aam (aat (lt b hb) hC),λx c e=>(B.old _ _ e).elim (λo=>(f2 b hb).2.2.2.2.1 x c o) λo=>Nat.ne_of_gt (aat (lt b hb) o.1)⟩
 bs:=I.bs
 yC:=aao I.ok.yC I.sz
 xA:=λb o e hb=>by
  rcases(f2 b hb).2.2.2.1 with z | z
  ·exact I.ok.xA b o e z
  ·exact absurd (aat (Heap.lt_size e) (aao I.ok.yC z)) (aaF _)
 yD:=λb hb z=>by
  rcases List.mem_cons.mp (I.qd b z) with q | q
  ·exact(f2 b hb).2.1 q
  ·exact(f2 b hb).2.2.1 q
 jM:=I.stack
 Dl:=I.vK
theorem B8 {C:Addr} {fp:List Addr} {h1:Heap} {tk:Nat} {m:Str->Option Value} (I:Inv X pins σ H s) (S:en X.N X.env.scope N' scope k fr) (B:ES X scope cl s.heap.objs.size C h1)
  (hC:s.heap.objs.size<=C) (f2:∀b∈fp,ic X pins H b) (lt:∀b∈fp,b<s.heap.objs.size) (old:∀b o,s.heap.get? b=some o->h1.get? b=some o) (hn:h1.Ns C m):
  Inv (kU X N' scope cl C s H fp) [] (stC k fr σ) H {s with heap:=h1,toks:=tk}:=by
 refine⟨ET I S B hC f2 lt,rfl,I.bare,Un.kept old,⟨m,hn,λi x v e1 e2 e3=>?_⟩,λx c e=>?_,I.bU.fresh hC,λx c e=>(B.old _ _ e).elim (λo=>I.gD x c o) λo=>I.bU.fresh o.1,λp hp=>absurd (show p∈([]:List (Addr×Obj)) from hp) (by simp),I.bU.kept old,?_⟩
 ·have e1:N'[i]?=some x:=e1
  unfold stC at e2
  by_cases hi:i<k
  ·rw[aaW (by simpa using hi),List.getElem?_replicate,if_pos hi] at e2
   cases e2
  ·rw[aaV (by simpa using hi),aa8,aad] at e2
   cases q:fr[i - k]? with
   | none=>rw[q] at e2;cases e2
   | some j=>
    rw[q] at e2
    have e2:(σ[j]?).join=some v:=aax e2
    have ej:σ[j]?=some (some v):=by
     cases z:σ[j]? with
     | none=>rw[z] at e2;cases e2
     | some o=>rw[z] at e2;exact congrArg some e2
    have fQ:i - k<fr.length:=(List.getElem?_eq_some_iff.mp q).1
    have GL:=S.at_ (i - k) fQ
    rw[q,show k+ (i - k)=i by omega,e1] at GL
    have GL:X.N[j]?=some x:=GL
    have VJ:x∈N'.drop k:=List.mem_iff_getElem?.mpr ⟨i - k,by rw[List.getElem?_drop,show k+ (i - k)=i by omega];exact e1⟩
    have HL:=S.LL x VJ
    have HM:(x,NameKind.free)∈scope.names:=aa7 HL
    have B9:=S.outer _ HM rfl
    obtain⟨m0,ZV,Ca⟩:=I.loc
    obtain⟨u,r,l⟩:=Ca j x v GL ej (.inr B9)
    refine⟨u,r,.inr ⟨dZ HL,?_⟩⟩
    rcases l with ⟨kk,_⟩ | ⟨_,c,e,z⟩
    ·have kk:X.env.scope.names.lookup x=some .local:=kk
     rcases B9 with q1 | q1
     ·rw[kk] at q1;cases q1
     ·rw[kk] at q1;cases q1
    ·obtain⟨c',e'⟩:=B.has x (.inl HM)
     have ec:=B.LL x HL _ e'
     rw[e] at ec
     cases ec
     obtain⟨ob,ho,hd⟩:=z
     exact⟨c,e',ob,old _ _ ho,hd⟩
 ·rcases B.old _ _ e with o | o
  ·obtain⟨v,ob,ho,hd⟩:=I.cell x c o
   exact⟨v,ob,old _ _ ho,hd⟩
  ·exact⟨none,o.2.2⟩
 ·unfold stC
  rw[aaD,aa8,aab]
  exact S.len.symm
end
section
variable {prog : Program} {w : World} {A : Around} {E : Value -> Shared -> Prop} {R : Result -> Shared -> Prop} {s : Shared}
theorem gJ {elt target iter:Expr} {ifs:List Expr} {scope:Scope} {pos:Pos} {it acc:Value} {env:Env} (I:Nat->Shared->Prop)
  (turn:∀n s,I n s->wpAny (model prog w) A (pyNext it) (λr s₁=>match r with
   | none=>R (.ok .next) s₁
   | some v=>wpAny (model prog w) A (letOwnedTupleGo target it v) (λ_ Tw=>wpAny (model prog w) A (assign target env v) (λ_ s₂=>
     wpAny (model prog w) A (forIn ifs true λc r=>if r=true then do let ok <-isTrue c env (eval c env);pure (ForInStep.yield ok) else pure (ForInStep.yield r)) (λok s₃=>
      if ok=true then wpAny (model prog w) A (eval elt env) (λx s₄=>
       wpAny (model prog w) A (call (.builtin "list.append") [acc,x]) (λ_ s₅=>∃m,m<n/\I m s₅) (λ_ _=>False) s₄) (notedBy (model prog w) A env λx s'=>R (.error x) s') s₃
      else ∃m,m<n/\I m s₃) (λ_ _=>False) s₂) (λ_ _=>False) Tw) (λ_ _=>False) s₁) (λ_ _=>False) s)
  (n:Nat) (h:I n s):
  codeAny (model prog w) A (.compLoop (.ListComp elt [⟨target,iter,ifs,0⟩] scope pos) 0 it acc env) R s:=by
 refine codeAny_loop rfl I (λn s hI=>?_) n h
 show wpAny _ A ((compTurn (.ListComp elt [⟨target,iter,ifs,0⟩] scope pos) 0 it acc env).onRaise (λx=>do noteFrame x env;theTreesLotGoes x)) _ _ s
 refine wpAny_noted ?_
 rw[compTurn_list]
 refine wpAny_bind (wpAny_standAt (wpAny_bind (wpAny_mono (turn n s hI) (λr s₁ h₁=>?_) λ_ _ h'=>h'.elim)))
 cases r with
 | none=>exact wpAny_pure h₁
 | some v=>
  refine wpAny_bind (wpAny_mono h₁ (λ_ Tw VL=>?_) λ_ _ h'=>h'.elim)
  refine wpAny_bind (wpAny_mono VL (λ_ s₂ h₂=>wpAny_bind (wpAny_mono h₂ (λok s₃ h₃=>?_) λ_ _ h'=>h'.elim)) λ_ _ h'=>h'.elim)
  cases ok with
  | false=>exact wpAny_pure ⟨rfl,h₃⟩
  | true=>
   exact wpAny_bind (wpAny_bind (wpAny_mono h₃ (λx s₄ h₄=>wpAny_bind (wpAny_mono h₄ (λ_ s₅ h₅=>wpAny_pure (wpAny_pure ⟨rfl,h₅⟩)) λ_ _ h'=>h'.elim)) λ_ _ h'=>h'))
end
noncomputable def EU (X:Cx) (ifs:List Expr) (t:TT):Prop:=
 ∀(pins:List (Addr×Obj)) (s:Shared) (σ:St) (H:Hp) (Q:Bool->Hp->Prop),Inv X pins σ H s->t σ H Q->
  wpAny (model X.prog X.w) X.A (forIn ifs true λc r=>if r=true then do let ok <-isTrue c X.env (eval c X.env);pure (ForInStep.yield ok) else pure (ForInStep.yield r)) (TP X pins σ Q) X.xe s
noncomputable def gK:TT:=λ_ H Q=>Q true H
theorem bI {X:Cx}:EU X [] gK:=λ_ _ _ H _ I h=>wpAny_tests_nil ⟨H,I,h⟩
theorem lY {X:Cx} {c:Expr} {t:TT} (h:PT X c t):EU X [c] t:=λpins s σ H Q I hq=>wpAny_tests_one (h pins s σ H Q I hq)
section
variable {X : Cx}
noncomputable def eX (J:It) (g:TG) (tc:TT) (te:TE) (σ0:St) (H1:Hp) (fin:List V->Hp->Prop):Prop:=
 ∃W:Nat->Nat->List V->St->Hp->Prop,(∃m,W 0 m [] σ0 H1)/\∀i m ys σ2 H2,W i m ys σ2 H2->
  (J.stop i H2/\fin ys H2)\/
  (J.go i H2/\∀x H3,J.vM i H2 x H3->g x σ2 H3 λσ3 H4=>tc σ3 H4 λb H5=>if b=true then te σ3 H5 λy H6=>ys.length<sizeLine/\∃m',m'<m/\W (i+1) m' (ys++ [y]) σ3 H6 else ∃m',m'<m/\W (i+1) m' ys σ3 H5)
noncomputable def eE (aU:List Value) (n:Nat):Obj:={cls:=.type "list",data:=.seq aU.toArray n}
theorem y9 {elt target iter:Expr} {ifs:List Expr} {scope:Scope} {pos:Pos} {g:TG} {tc:TT} {te:TE} {k:Nat} {fr:List Nat} {N':List Str} {cl:List (Str×Addr)} {pins:List (Addr×Obj)} {σ:St} {H2:Hp} {s2:Shared}
  {it:Addr} {fp:List Addr} {tn:Nat->Heap->Prop} {J:It} {fin:List V->Hp->Prop} {R0:Result->Shared->Prop} {XE:List (Str×Addr)->Addr->Shared->Hp->List Addr->Value->Shared->Prop}
  (hc:X.calm=true) (S:en X.N X.env.scope N' scope k fr) (c1:∀x c,cl.lookup x=some c->X.env.cells.lookup x=some c) (c2:∀n,(n,NameKind.free)∈scope.names->∃c,cl.lookup n=some c) (cin:∀x c,(x,c)∈cl->∃y,X.env.cells.lookup y=some c) (Kt:∀x,(x,NameKind.cell)∈scope.names->∀c,(x,c)∉cl)
  (hg:∀cl C s H ex,PG (kU X N' scope cl C s H ex) target g) (ht:∀cl C s H ex,EU (kU X N' scope cl C s H ex) ifs tc) (he:∀cl C s H ex,PE ((kU X N' scope cl C s H ex).jN (XE cl C s H ex)) elt te)
  (I2:Inv X pins σ H2 s2) (T:Turn X.prog X.w X.K target J fp it tn) (ux:tn 0 s2.heap) (f2:∀b∈fp,ic X pins H2 b) (hb:eX J g tc te (stC k fr σ) H2 fin)
  (hR:∀(C:Addr),C=(s2.heap.push {cls:=.type "list",dict:=none,data:=.seq ([]:List Value).toArray}).objs.size->∀(s':Shared) (m:Str->Option Value) (ys:List V) (aU:List Value) (n:Nat) (H':Hp),s2.heap.objs.size<C->s'.heap.Ns C m->bu ys aU->ys.length<=sizeLine->s'.heap.get? s2.heap.objs.size=some (eE aU n)->H' s2.heap.objs.size=none->H' C=none->fin ys H'->
   s'.os=s2.os->AllBare s'.gens->Un (rX X.stack) fp H2 H' s2.heap s'.heap->gm X.prog X.w H' s'.heap->R0 (.ok .next) s')
  (hE:∀cl C x s',C=(s2.heap.push {cls:=.type "list",dict:=none,data:=.seq ([]:List Value).toArray}).objs.size->s2.heap.objs.size<C->XE cl C s2 H2 fp x s'->notedBy (model X.prog X.w) X.A (compEnvC scope cl C X.env) (λy Ey=>R0 (.error y) Ey) x s'):
  codeAny (model X.prog X.w) X.A (.compStart (.ListComp elt [⟨target,iter,ifs,0⟩] scope pos) 0 (.ref it) (.ref s2.heap.objs.size) (compEnvC scope (cellsFrom ((s2.heap.push {cls:=.type "list",dict:=none,data:=.seq ([]:List Value).toArray}).objs.size+1) scope.names cl) (s2.heap.push {cls:=.type "list",dict:=none,data:=.seq ([]:List Value).toArray}).objs.size X.env)) R0 {s2 with heap:=pushCells ((s2.heap.push {cls:=.type "list",dict:=none,data:=.seq ([]:List Value).toArray}).push {cls:=.type "dict",data:=.dict #[]}) scope.names}:=by
 obtain⟨W,⟨m0,w0⟩,turn⟩:=hb
 have lt:∀b∈fp,b<s2.heap.objs.size:=λb hb=>by
  obtain⟨o,e,_⟩:=T.obj _ _ ux b hb
  exact Heap.lt_size e
 generalize LM:s2.heap.push {cls:=.type "list",dict:=none,data:=.seq ([]:List Value).toArray}=G2 at hR hE ⊢
 have GN:G2.objs.size=s2.heap.objs.size+1:=by rw[<-LM,Heap.size_push]
 have Tx:s2.heap.objs.size≠G2.objs.size:=by rw[GN];exact aam (aaJ _)
 have hC:s2.heap.objs.size<=G2.objs.size:=by rw[GN];exact Nat.le_succ _
 have old:∀b o,s2.heap.get? b=some o->(pushCells (G2.push {cls:=.type "dict",data:=.dict #[]}) scope.names).get? b=some o:=λb o e=>by
  refine pushCells_keeps _ _ b o (Heap.get?_push_of_some _ ?_)
  rw[<-LM]
  exact Heap.get?_push_of_some _ e
 have Cb:(pushCells (G2.push {cls:=.type "dict",data:=.dict #[]}) scope.names).get? s2.heap.objs.size=some (eE [] 0):=by
  refine pushCells_keeps _ _ _ _ (Heap.get?_push_of_some _ ?_)
  rw[<-LM]
  exact Heap.get?_push_size _ rfl
 have LN:(pushCells (G2.push {cls:=.type "dict",data:=.dict #[]}) scope.names).Ns G2.objs.size λ_=>none:=(Heap.Ns.new G2 (.type "dict")).keeps (pushCells_keeps _ _)
 have Tz:∀x c,(x,c)∈cl->c<G2.objs.size+1:=λx c m=>by
  obtain⟨y,hy⟩:=cin x c m
  obtain⟨v,q⟩:=I2.cell y c hy
  rw[GN]
  exact abi (abi q.lt)
 have B:ES X scope (cellsFrom (G2.objs.size+1) scope.names cl) s2.heap.objs.size G2.objs.size (pushCells (G2.push {cls:=.type "dict",data:=.dict #[]}) scope.names):=by
  have own:=jU scope.names (G2.push {cls:=.type "dict",data:=.dict #[]}) cl
  rw[Heap.size_push] at own
  refine⟨λx c e=>?_,λx y c hc h1 h2=>?_,λn hn=>?_,λn hn c e=>?_,λx c hx e=>?_⟩
  ·by_cases hx:(x,NameKind.cell)∈scope.names
   ·rcases own x c (aa7 e) with m | ⟨q1,q2,_⟩
    ·
     exfalso
     exact Kt x hx c m
    ·exact .inr ⟨aao hC (Nat.le_of_succ_le q1),q1,q2⟩
   ·rw[fP _ _ _ _ hx] at e
    exact .inl (c1 x c e)
  ·exact jV scope.names (G2.objs.size+1) (G2.objs.size+1) cl Tz (λx y c hl m1 _=>absurd (Tz x c m1) (Nat.not_lt.mpr hl)) x y c hc (aa7 h1) (aa7 h2)
  ·refine Option.isSome_iff_exists.mp (jW _ _ _ n ?_)
   rcases hn with hn | hn
   ·obtain⟨c,e⟩:=c2 n hn
    exact .inr (by rw[e];rfl)
   ·exact .inl hn
  ·have hx:(n,NameKind.cell)∉scope.names:=λm=>by
    have:=(S.ER _ m rfl).1
    rw[hn] at this
    cases this
   rw[fP _ _ _ _ hx] at e
   exact c1 n c e
  ·have hx:=aa7 hx
   rcases own x c (aa7 e) with m | ⟨q1,q2,_⟩
   ·exact absurd m (Kt x hx c)
   ·exact aao hC (Nat.le_of_succ_le q1)
 generalize pushCells (G2.push {cls:=.type "dict",data:=.dict #[]}) scope.names=h₁ at *
 generalize cellsFrom (G2.objs.size+1) scope.names cl=uQ at *
 generalize EV:s2.heap.objs.size=D at *
 generalize ZW:G2.objs.size=C at *
 have fD:H2 D=none:=by rw[<-EV];exact I2.bU.fresh (aag _)
 have cells:∀x c,uQ.lookup x=some c->c≠D:=λx c e=>by
  rcases B.old _ _ e with o | o
  ·obtain⟨v,q⟩:=I2.cell x c o
   rw[<-EV]
   exact aam q.lt
  ·exact Nat.ne_of_gt (Nat.lt_trans (by rw[GN];exact aaJ _) o.2.1)
 have loop:∀(Du:Addr) (s3:Shared),Du=it->(∃tk,s3={s2 with heap:=h₁,toks:=tk})->
   codeAny (model X.prog X.w) X.A (.compLoop (.ListComp elt [⟨target,iter,ifs,0⟩] scope pos) 0 (.ref Du) (.ref D) (compEnvC scope uQ C X.env)) R0 s3:=by
  rintro Du s3 rfl ⟨tk,rfl⟩
  have I3:Inv (kU X N' scope uQ C s2 H2 fp) [] (stC k fr σ) H2 {s2 with heap:=h₁,toks:=tk}:=B8 I2 S (by rw[EV];exact B) (by rw[EV];exact hC) f2 (by rw[EV];exact lt) old LN
  have uy:∀{H':Hp} {o:Obj},(∀b∈fp,H' b=none)->∀b∈fp,ic (kU X N' scope uQ C s2 H2 fp) [(D,o)] H' b:=λ{H' o} hn b hb=>
   ⟨hn b hb,aam (aat (lt b hb) hC),λz=>by
    rcases List.mem_cons.mp (I2.qd b z) with q | q
    ·exact(f2 b hb).2.1 q
    ·exact(f2 b hb).2.2.1 q,.inl hb,λx c e=>(B.old _ _ e).elim (λo=>(f2 b hb).2.2.2.2.1 x c o) (λo=>Nat.ne_of_gt (aat (lt b hb) o.1)),λp hp=>by
    have e:p=(D,o):=by simpa [kU] using hp
    rw[e]
    exact Nat.ne_of_gt (lt b hb)⟩
  have LO:∀{σ':St} {H':Hp} {s':Shared} {o:Obj},Inv (kU X N' scope uQ C s2 H2 fp) [] σ' H' s'->s'.heap.get? D=some o->H' D=none->(∀v,o.data≠.cell v)->Inv (kU X N' scope uQ C s2 H2 fp) [(D,o)] σ' H' s':=λ{σ' H' s' o} I' e n hd=>
   I'.jd λp hp=>by
    have q:p=(D,o):=by simpa using hp
    subst q
    refine⟨e,n,Tx,λz=>?_,hd⟩
    obtain⟨_,ob,ho,_⟩:=I2.stack.mem z
    exact absurd (Heap.lt_size ho) (by rw[EV];exact aaF _)
  have VM:∀{aU:List Value} {n:Nat} (v:Option Value),(eE aU n).data≠.cell v:=λv z=>by
   have z:Data.seq _ _=Data.cell v:=z
   cases z
  refine gJ (λn s'=>∃i ys σ' H' aU yv,Inv (kU X N' scope uQ C s2 H2 fp) [] σ' H' s'/\tn i s'.heap/\(∀b∈fp,H' b=none)/\s'.heap.get? D=some (eE aU yv)/\H' D=none/\bu ys aU/\ys.length<=sizeLine/\W i n ys σ' H') ?_ m0
   ⟨0,[],_,H2,[],0,I3,T.keep _ _ _ ux (λb _ o e=>old b o e),λb hb=>(f2 b hb).1,Cb,fD,.nil,aar _,w0⟩
  rintro n s4 ⟨i,ys,σ4,H4,aU,yv,I4,TB,TC,VN,TF,Ku,TH,w4⟩
  have TK:=LO I4 VN TF VM
  rcases turn i n ys σ4 H4 w4 with ⟨stop,qf⟩ | ⟨go,step⟩
  ·refine cy (T.done (kU X N' scope uQ C s2 H2 fp) rfl rfl rfl hc i _ s4 σ4 H4 _ TK (uy TC) TB stop) λr s5 ⟨hr,I5⟩=>?_
   subst hr
   obtain⟨m5,VO,_⟩:=I5.loc
   exact hR C rfl s5 m5 ys aU yv H4 (by rw[GN];exact aaJ _) VO Ku TH (I5.pin (D,eE aU yv) (aaH _ aai)).1 TF I5.free qf I5.os I5.bare I5.base I5.bU
  ·refine cy (T.item (kU X N' scope uQ C s2 H2 fp) rfl rfl rfl hc i _ s4 σ4 H4 _ TK (uy TC) TB go) λr s5 ⟨u,hr,h5⟩=>?_
   subst hr
   refine cy h5 λ_ s6 cX=>?_
   obtain⟨x,H6,I6,r6,y6,LP,VP⟩:=cX
   have VQ:=I6.pinned (uy VP) (T.obj _ _ LP)
   refine cy (hg uQ C s2 H2 fp _ s6 σ4 H6 x u _ VQ r6 (step x H6 y6)) λ_ s7 ⟨σ7,H7,I7,q7⟩=>?_
   refine cy (ht uQ C s2 H2 fp _ s7 σ7 H7 _ I7 q7) λok s8 ⟨H8,I8,q8⟩=>?_
   have back:∀{σ':St} {H':Hp} {s':Shared},Inv (kU X N' scope uQ C s2 H2 fp) ([(D,eE aU yv)]++mL fp s6.heap) σ' H' s'->tn (i+1) s'.heap/\(∀b∈fp,H' b=none)/\s'.heap.get? D=some (eE aU yv)/\H' D=none:=λ{σ' H' s'} I'=>by
    have pD:=I'.pin (D,eE aU yv) (aaH _ (abo _ (by simp)))
    refine⟨T.keep _ _ _ LP λb hb o e=>(I'.pin (b,o) (aaH _ (aaH _ (fN hb e)))).1,λb hb=>?_,pD.1,pD.2.1⟩
    obtain⟨o,e,d⟩:=T.obj _ _ LP b hb
    exact(I'.pin (b,o) (aaH _ (aaH _ (fN hb e)))).2.1
   cases ok with
   | false=>
    rw[if_neg aay]
    rw[if_neg aay] at q8
    obtain⟨m',hm,w8⟩:=q8
    obtain⟨b1,b2,b3,b4⟩:=back I8
    exact⟨m',hm,i+1,ys,σ7,H8,aU,yv,I8.jd (λp hp=>absurd hp (by simp)),b1,b2,b3,b4,Ku,TH,w8⟩
   | true=>
    rw[if_pos rfl]
    rw[if_pos rfl] at q8
    refine wpAny_mono (he uQ C s2 H2 fp _ s8 σ7 H8 _ (I8.jN _) q8) (λy s9 ⟨z,H9,I9,r9,fQ,m',hm,w9⟩=>?_) λx s' hx=>hE uQ C x s' rfl (by rw[GN];exact aaJ _) hx
    have I9:=I9.fL
    obtain⟨b1,b2,b3,b4⟩:=back I9
    have hl:=Ku.length
    refine call_meets F.slot_list_append ⟨_,b3,rfl⟩ F.entry_list_append (F.args_list_append_2 _ _) (PySem.list_append D aU.toArray yv y (by rw[aak];omega)) ⟨b3,?_⟩
    obtain⟨c',q⟩:∃c',(s9.heap.update D (Obj.mapSeq λx=>x.push y)).get? D=some (eE (aU++ [y]) c'):=by
     have q:=PySem.IsL.update b3 (λx=>x.push y)
     rw[show aU.toArray.push y=(aU++ [y]).toArray by simp] at q
     exact⟨_,q⟩
    have VR:Inv (kU X N' scope uQ C s2 H2 fp) [] σ7 H9 s9:=I9.jd (λp hp=>absurd hp (by simp))
    have kp:∀b o,b≠D->s9.heap.get? b=some o->(s9.heap.update D (Obj.mapSeq λx=>x.push y)).get? b=some o:=λb o hb e=>(Heap.get?_update_other s9.heap (Obj.mapSeq λx=>x.push y) (Ne.symm hb)).trans e
    have VS:=VR.turned (t':=s9.toks) (it:=D) (h':=s9.heap.update D (Obj.mapSeq λx=>x.push y)) kp b4 Tx (.inr (by show s2.heap.objs.size<=D;rw[EV];exact aag _)) (λx c e=>cells x c e) (λp hp=>absurd hp (by simp [kU]))
    refine⟨m',hm,i+1,ys++ [z],σ7,H9,aU++ [y],c',VS,T.keep _ _ _ b1 (λb hb o e=>kp b o (aam (lt b hb)) e),b2,q,b4,Ku.append (.cons r9 .nil),?_,w9⟩
    ·rw[aaD,List.length_singleton]
     omega
 exact codeAny_compStart_list (loop it _ rfl ⟨_,rfl⟩) (T.self _ 0 _ _ _ (T.keep _ _ _ ux (λb _ o e=>old b o e)) (loop it _ rfl ⟨_,rfl⟩))
theorem pG {elt target iter:Expr} {ifs:List Expr} {scope:Scope} {pos:Pos} {g:TG} {tc:TT} {te:TE} {k:Nat} {fr:List Nat} {N':List Str} {cl:List (Str×Addr)} {pins:List (Addr×Obj)} {σ:St} {H2:Hp} {s2:Shared}
  {it:Addr} {fp:List Addr} {tn:Nat->Heap->Prop} {J:It} {E:Value->Shared->Prop} {fin:List V->Hp->Prop} {RR:Value->Addr->Result->Shared->Prop} {XE:List (Str×Addr)->Addr->Shared->Hp->List Addr->Value->Shared->Prop}
  (hc:X.calm=true) (S:en X.N X.env.scope N' scope k fr) (c1:∀x c,cl.lookup x=some c->X.env.cells.lookup x=some c) (c2:∀n,(n,NameKind.free)∈scope.names->∃c,cl.lookup n=some c) (cin:∀x c,(x,c)∈cl->∃y,X.env.cells.lookup y=some c) (Kt:∀x,(x,NameKind.cell)∈scope.names->∀c,(x,c)∉cl)
  (hg:∀cl C s H ex,PG (kU X N' scope cl C s H ex) target g) (ht:∀cl C s H ex,EU (kU X N' scope cl C s H ex) ifs tc) (he:∀cl C s H ex,PE ((kU X N' scope cl C s H ex).jN (XE cl C s H ex)) elt te)
  (I2:Inv X pins σ H2 s2) (T:Turn X.prog X.w X.K target J fp it tn) (ux:tn 0 s2.heap) (f2:∀b∈fp,ic X pins H2 b) (hb:eX J g tc te (stC k fr σ) H2 fin)
  (hR:∀(C:Addr) (s':Shared) (m:Str->Option Value) (ys:List V) (aU:List Value) (n:Nat) (H':Hp),s2.heap.objs.size<C->s'.heap.Ns C m->bu ys aU->ys.length<=sizeLine->s'.heap.get? s2.heap.objs.size=some (eE aU n)->H' s2.heap.objs.size=none->H' C=none->fin ys H'->
   s'.os=s2.os->AllBare s'.gens->Un (rX X.stack) fp H2 H' s2.heap s'.heap->gm X.prog X.w H' s'.heap->RR (.ref s2.heap.objs.size) C (.ok .next) s')
  (hE:∀cl C x s',s2.heap.objs.size<C->XE cl C s2 H2 fp x s'->notedBy (model X.prog X.w) X.A (compEnvC scope cl C X.env) (λy Ey=>RR (.ref s2.heap.objs.size) C (.error y) Ey) x s'):
  wpAny (model X.prog X.w) X.A (newList []) (λacc s₃=>wpAny (model X.prog X.w) X.A (newFunctionEnv scope X.env.globals cl [] X.env.qual none .none (some X.env)) (λHN s₄=>
   codeAny (model X.prog X.w) X.A (.compStart (.ListComp elt [⟨target,iter,ifs,0⟩] scope pos) 0 (.ref it) acc {HN with scope:=relabel scope X.env}) (RR acc HN.locals) s₄) E s₃) E s2:=by
 refine wpAny_newObj_type (jo ?_)
 exact y9 (R0:=RR _ _) hc S c1 c2 cin Kt hg ht he I2 T ux f2 hb (λC e=>by subst e;exact hR _) (λcl C x s' e=>by subst e;exact hE cl _ x s')
theorem comp_back {fp:List Addr} {pins:List (Addr×Obj)} {σ:St} {H2 H':Hp} {s2 s':Shared} {C:Addr} {ys:List V} {aU:List Value} {n:Nat} {h':Heap} (I2:Inv X pins σ H2 s2) (f2:∀b∈fp,ic X pins H2 b) (hC:s2.heap.objs.size<C)
  (vl:bu ys aU) (sz:ys.length<=sizeLine) (hD:s'.heap.get? s2.heap.objs.size=some (eE aU n)) (nD:H' s2.heap.objs.size=none) (nC:H' C=none)
  (os:s'.os=s2.os) (bare:AllBare s'.gens) (un:Un (rX X.stack) fp H2 H' s2.heap s'.heap) (bU:gm X.prog X.w H' s'.heap) (hs:Heap.SameBut C s'.heap h'):
  Inv X pins σ (upd H' s2.heap.objs.size (.lst ys)) {s' with heap:=h'}:=by
 have LQ:∀b o,s2.heap.get? b=some o->b≠C:=λb o e=>aam (Nat.lt_trans (Heap.lt_size e) hC)
 have VT:∀b o,s2.heap.get? b=some o->b≠s2.heap.objs.size:=λb o e=>aam (Heap.lt_size e)
 have tk:∀b u,H' b=some u->b≠s2.heap.objs.size:=λb u e z=>by rw[z,nD] at e;cases e
 have tC:∀b u,H' b=some u->b≠C:=λb u e z=>by rw[z,nC] at e;cases e
 have fD:H2 s2.heap.objs.size=none:=I2.bU.fresh (aag _)
 have t2:∀b u,H2 b=some u->b≠s2.heap.objs.size:=λb u e z=>by rw[z,fD] at e;cases e
 refine I2.Hh (s':={s' with heap:=h'}) (ch:=fp) os ⟨λb o e m hb hx=>?_,λb o e m hb hx=>?_,λb o e m hx=>?_,λb o e hx=>?_,λb xs e=>?_,λb o u e=>?_,λb ps e=>?_⟩ (λb u e=>?_) bare λb hb=>?_
 ·exact(hs.2 b (LQ b o e)).trans (un.keep b o e m hb hx)
 ·obtain⟨sl,q⟩:=un.slot b o e m hb hx
  exact⟨sl,(hs.2 b (LQ b o e)).trans q⟩
 ·rw[aG (VT b o e)]
  exact un.free b o e m hx
 ·obtain⟨o',q⟩:=un.there b o e hx
  exact⟨o',(hs.2 b (LQ b o e)).trans q⟩
 ·rw[aG (t2 b _ e)]
  exact un.kP b xs e
 ·rw[aG (t2 b _ e)]
  exact un.mH b o u e
 ·obtain⟨mo,q⟩:=un.mI b ps e
  exact⟨mo,by rw[aG (t2 b _ e)];exact q⟩
 ·by_cases hb:b=s2.heap.objs.size
  ·subst hb
   rw[ar] at e
   cases e
   exact⟨sz,aU,n,vl,(hs.2 _ (aam hC)).trans hD⟩
  ·rw[aG hb] at e
   exact(bU b u e).oI (λc v hc q=>(hs.2 c (by
    rcases hc with rfl | hc
    ·exact tC _ _ e
    ·exact tC _ _ hc)).trans q) (λc r=>by rw[aG (tk _ _ r)];exact r) λc xs r=>by rw[aG (tk _ _ r)];exact r
 ·exact⟨(f2 b hb).2.2.2.1,(f2 b hb).2.1,(f2 b hb).2.2.2.2.1,(f2 b hb).2.2.2.2.2⟩
noncomputable def tComp (wi:TI) (g:TG) (tc:TT) (te:TE) (k:Nat) (fr:List Nat):TE:=λσ H Q=>wi σ H λJ H1=>eX J g tc te (stC k fr σ) H1 λys H2=>∀D,H1 D=none->H2 D=none->Q (.ref D) (upd H2 D (.lst ys))
theorem bT {elt target iter:Expr} {ifs:List Expr} {scope so:Scope} {pos:Pos} {wi:TI} {g:TG} {tc:TT} {te:TE} {k:Nat} {fr:List Nat} {N N':List Str} (hc:X.calm=true) (hN:X.N=N) (LR:X.env.scope=so) (S:en N so N' scope k fr)
  (hi:PI X target iter wi) (hg:∀cl C s H ex,PG (kU X N' scope cl C s H ex) target g) (ht:∀cl C s H ex,EU (kU X N' scope cl C s H ex) ifs tc) (he:∀cl C s H ex,PE (kU X N' scope cl C s H ex) elt te)
  (hs:∀x,foldedSetIterable iter X.env x=pure x:=by intro _;rfl):PE X (.ListComp elt [⟨target,iter,ifs,0⟩] scope pos) (tComp wi g tc te k fr):=by
 subst hN LR
 intro pins s σ H Q I h
 rw[eval_ListComp]
 obtain⟨cl,Cc,c1,c2,c3⟩:=eW (env:=X.env) (scope:=scope) λn hn=>I.ok.has n (S.outer _ hn rfl)
 refine wpAny_comprehension_free (use:=none) (cl:=cl) rfl hs Cc S.kind S.locs ?_
 refine cy (hi pins s σ H _ I h) λv s1 h1=>cy h1 λDu s2 h2=>?_
 obtain⟨it,fp,tn,J,H2,rfl,I2,T,ux,f2,hb⟩:=h2
 refine pG (RR:=λacc C=>compPost (model X.prog X.w) X.A X.xe none (EP X pins σ Q) acc C) hc S c1 c2 (λx c m=>⟨x,(c3 x c m).1⟩) (λx hx c m=>(S.ER _ hx rfl).2 (c3 x c m).2) (XE:=λ_ _ _ _ _ _ _=>False) hg ht he I2 T ux f2 hb ?_ (λ_ _ _ _ _ z=>False.elim z)
 intro C s' m ys aU n H' hC hn vl sz hD nD nC fin os bare un bU
 exact⟨m,hn,λh' LS=>⟨.ref _,_,comp_back I2 f2 hC vl sz hD nD nC os bare un bU LS,rfl,fin _ (I2.bU.fresh (aag _)) nD⟩⟩
theorem fR {elt target iter:Expr} {ifs:List Expr} {scope so:Scope} {pos HP py:Pos} {wi:TI} {g:TG} {tc:TT} {te:TE} {k:Nat} {fr:List Nat} {N N':List Str} {y:Str} {i:Nat} (hc:X.calm=true) (hN:X.N.Nodup) (hy:X.N[i]?=some y) (hl:X.env.scope.names.lookup y=some .local)
  (VU:X.N=N) (LR:X.env.scope=so) (S:en N so N' scope k fr)
  (hi:PI X target iter wi) (hg:∀cl C s H ex,PG (kU X N' scope cl C s H ex) target g) (ht:∀cl C s H ex,EU (kU X N' scope cl C s H ex) ifs tc) (he:∀cl C s H ex,PE (kU X N' scope cl C s H ex) elt te)
  (LU:swapsWith (.ListComp elt [⟨target,iter,ifs,0⟩] scope pos) (some (.Name y py)) HP.line X.env=pure true:=by rfl)
  (hs:∀x,foldedSetIterable iter X.env x=pure x:=by intro _;rfl):PS X (.Assign [.Name y py] (.ListComp elt [⟨target,iter,ifs,0⟩] scope pos) HP) (tAsg (tComp wi g tc te k fr) (gName i)):=by
 subst VU LR
 intro pins s σ H D I h
 rw[exec_Assign_Name_used _ _ _ _ LU]
 obtain⟨cl,Cc,c1,c2,c3⟩:=eW (env:=X.env) (scope:=scope) λn hn=>I.ok.has n (S.outer _ hn rfl)
 refine wpAny_bind (wpAny_standAt (wpAny_bind ?_))
 show wpAny _ X.A (do let _ <-comprehension (.ListComp elt [⟨target,iter,ifs,0⟩] scope pos) scope X.env _ (newList []) false (eval iter X.env) (some (assign (.Name y py) X.env))) _ _ s
 refine wpAny_bind (wpAny_mono (wpAny_comprehension_free (use:=some (assign (.Name y py) X.env)) (Q:=λ_ s'=>SP X pins D .next s') (cl:=cl) rfl hs Cc S.kind S.locs ?_) (λ_ s' hq=>wpAny_pure (wpAny_pure hq)) λ_ _ e=>e)
 refine cy (hi pins s σ H _ I h) λv s1 h1=>cy h1 λDu s2 h2=>?_
 obtain⟨it,fp,tn,J,H2,rfl,I2,T,ux,f2,hb⟩:=h2
 refine pG (RR:=λacc C=>compPost (model X.prog X.w) X.A X.xe (some (assign (.Name y py) X.env)) (λ_ s'=>SP X pins D .next s') acc C) hc S c1 c2 (λx c m=>⟨x,(c3 x c m).1⟩) (λx hx c m=>(S.ER _ hx rfl).2 (c3 x c m).2) (XE:=λ_ _ _ _ _ _ _=>False) hg ht he I2 T ux f2 hb ?_ (λ_ _ _ _ _ z=>False.elim z)
 intro C s' m ys aU n H' hC hn vl sz hD nD nC fin os bare un bU
 have I3:Inv X pins σ (upd H' s2.heap.objs.size (.lst ys)) s':=comp_back (h':=s'.heap) I2 f2 hC vl sz hD nD nC os bare un bU (.refl ..)
 refine wpAny_assign_Name (o4 (v:=.ref s2.heap.objs.size) I3 hN hy (.inl hl) rfl (λs4 I4 ch=>?_) (.inr hl))
 have TL:X.env.locals<s2.heap.objs.size:=I2.lt
 obtain⟨a,VW,ha⟩:=ch
 have aC:a≠C:=by
  rcases ha with rfl | ha
  ·exact aam (Nat.lt_trans TL hC)
  ·obtain⟨v,q⟩:=I2.cell _ _ ha
   exact aam (Nat.lt_trans q.lt hC)
 refine⟨m,hn.sameBut VW (Ne.symm aC),λh' LS=>⟨_,_,?_,fin _ (I2.bU.fresh (aag _)) nD⟩⟩
 have VX:(upd H' s2.heap.objs.size (.lst ys)) C=none:=by rw[aG (Nat.ne_of_gt hC)];exact nC
 exact I4.turned (t':=s4.toks) (it:=C) (h':=h') (λb o hb e=>(LS.2 b hb).trans e) VX (Nat.ne_of_gt (Nat.lt_trans TL hC)) (.inr (aao I2.sz (Nat.le_of_lt hC))) (λx c e z=>by
  obtain⟨v,q⟩:=I2.cell x c e
  exact absurd (Nat.lt_trans q.lt hC) (by rw[z];exact aaF _)) (λp hp z=>by
  have:=Heap.lt_size (I2.pin p hp).1
  rw[z] at this
  exact absurd (Nat.lt_trans this hC) (aaF _))
end
structure Src (J:It) (Ok:Hp->Prop) (n:Nat) (Item:Nat->V->Hp->Hp->Prop):Prop where
 go:∀i H,i<n->Ok H->J.go i H
 vM:∀i H x H3,i<n->Ok H->J.vM i H x H3->Item i x H H3
 stop:∀H,Ok H->J.stop n H
theorem src_list {K:PySem.W.Frag} {a:Addr} {xs:List V} {Ok:Hp->Prop} (h:∀H,Ok H->aZ K H a xs):Src (vN K a) Ok xs.length (λi x H H3=>H3=H/\xs[i]?=some x) where
 go:=λi H hi ok=>⟨xs,xs[i],h H ok,by simp [hi]⟩
 vM:=λi H x H3 hi ok ⟨e,y⟩=>⟨e,y xs (h H ok)⟩
 stop:=λH ok=>⟨xs,h H ok,aag _⟩
theorem src_range {lo:Int} {n:Nat} {Ok:Hp->Prop}:Src (Hj lo n) Ok n (λi x H H3=>H3=H/\x=.int (lo+i)) where
 go:=λ_ _ hi _=>hi
 vM:=λ_ _ _ _ _ _ y=>y
 stop:=λ_ _=>aag _
theorem gZ {J:It} {g:TG} {tc:TT} {te:TE} {σ0:St} {H1:Hp} {fin:List V->Hp->Prop} {n:Nat} {Item:Nat->V->Hp->Hp->Prop} (S:Src J (az H1) n Item) (EW:St->Prop) (h0:EW σ0) (P:Nat->List V->Hp->Prop) (p0:P 0 [] H1) (hz:n<=sizeLine)
  (hs:∀i x σ H ys H3 (Q:St->V->Hp->Prop) (N:St->Hp->Prop),i<n->az H1 H->P i ys H->ys.length<=i->EW σ->Item i x H H3->
   (∀σ3 y H6,EW σ3->az H1 H6->P (i+1) (ys++ [y]) H6->Q σ3 y H6)->(∀σ3 H5,EW σ3->az H1 H5->P (i+1) ys H5->N σ3 H5)->
   g x σ H3 λσ3 H4=>tc σ3 H4 λb H5=>if b=true then te σ3 H5 λy H6=>Q σ3 y H6 else N σ3 H5)
  (jX:∀ys H,az H1 H->P n ys H->ys.length<=n->fin ys H):eX J g tc te σ0 H1 fin:=by
 refine⟨λi m ys σ H=>m=n - i/\i<=n/\ys.length<=i/\EW σ/\az H1 H/\P i ys H,⟨n,by simp,aar _,aag _,h0,az.refl _,p0⟩,?_⟩
 rintro i m ys σ H ⟨rfl,hi,hl,ow,sm,p⟩
 by_cases fQ:i<n
 ·refine .inr ⟨S.go i H fQ sm,λx H3 y=>hs i x σ H ys H3 (λσ3 y H6=>ys.length<sizeLine/\∃m',m'<n - i/\m'=n - (i+1)/\i+1<=n/\(ys++ [y]).length<=i+1/\EW σ3/\az H1 H6/\P (i+1) (ys++ [y]) H6)
   (λσ3 H5=>∃m',m'<n - i/\m'=n - (i+1)/\i+1<=n/\ys.length<=i+1/\EW σ3/\az H1 H5/\P (i+1) ys H5) fQ sm p hl ow (S.vM i H x H3 fQ sm y) (λσ3 y H6 o s6 q=>?_) (λσ3 H5 o s5 q=>?_)⟩
  ·exact⟨by omega,n - (i+1),by omega,rfl,fQ,by rw[aaD,List.length_singleton];omega,o,s6,q⟩
  ·exact⟨n - (i+1),by omega,rfl,fQ,by omega,o,s5,q⟩
 ·have e:i=n:=by omega
  subst e
  exact .inl ⟨S.stop H sm,jX ys H sm p hl⟩
theorem comp_map {J:It} {te:TE} {tl:St} {H1:Hp} {fin:List V->Hp->Prop} {n:Nat} {Item:Nat->V->Hp->Hp->Prop} (S:Src J (az H1) n Item) (sub:∀i x H H3,Item i x H H3->az H H3) (hz:n<=sizeLine)
  (R:Nat->V->Hp->Prop) (mono:∀i y H H',az H H'->R i y H->R i y H')
  (hs:∀i x w H H3 (Q:VK),i<n->az H1 H->Item i x H H3->(∀y H6,az H3 H6->R i y H6->Q y H6)->te ((w::tl).set 0 (some x)) H3 Q)
  (jX:∀ys H,az H1 H->ys.length=n->(∀i y,ys[i]?=some y->R i y H)->fin ys H):eX J (gName 0) gK te (none::tl) H1 fin:=by
 refine⟨λi m ys σ H=>m=n - i/\i<=n/\ys.length=i/\(∃w,σ=w::tl)/\az H1 H/\∀j y,ys[j]?=some y->R j y H,⟨n,by simp,aar _,rfl,⟨_,rfl⟩,az.refl _,λj y e=>by simp at e⟩,?_⟩
 rintro i m ys σ H ⟨rfl,hi,hl,⟨w,rfl⟩,sm,p⟩
 by_cases fQ:i<n
 ·refine .inr ⟨S.go i H fQ sm,λx H3 y=>?_⟩
  have it:=S.vM i H x H3 fQ sm y
  have s3:=sub i x H H3 it
  unfold gName gK
  refine HK ?_
  refine hs i x w H H3 _ fQ sm it λy H6 s6 r=>⟨by omega,n - (i+1),by omega,rfl,fQ,by rw[aaD,List.length_singleton];omega,⟨_,rfl⟩,sm.trans (s3.trans s6),λj z e=>?_⟩
  by_cases hj:j<i
  ·rw[aaW (by omega)] at e
   exact mono j z _ _ (s3.trans s6) (p j z e)
  ·rw[aaV (by omega)] at e
   have e2:j - ys.length=0:=by
    by_cases q:j - ys.length=0
    ·exact q
    ·rw[aaq (by simp;omega)] at e;cases e
   rw[e2] at e
   simp at e
   subst e
   have:j=i:=by omega
   subst this
   exact r
 ·have e:i=n:=by omega
  subst e
  exact .inl ⟨S.stop H sm,jX ys H sm hl p⟩
noncomputable def DE (J:It) (g:TG) (tb:TS) (D:Ends) (σ:St) (H:Hp):Prop:=
 ∃W:Nat->Nat->St->Hp->Prop,(∃m,W 0 m σ H)/\∀i m σ H,W i m σ H->
  (J.stop i H/\D.nx σ H)\/(J.go i H/\∃N:St->Hp->Prop,(∀σ' H',N σ' H'->∃m',m'<m/\W (i+1) m' σ' H')/\∀x H',J.vM i H x H'->g x σ H' λσ2 H2=>tb {D with nx:=N,ct:=N,bk:=D.nx} σ2 H2)
theorem tFor_eq {wi:TI} {g:TG} {tb:TS} {D:Ends} {σ:St} {H:Hp}:Hk wi g tb D σ H=wi σ H λJ H1=>DE J g tb D σ H1:=rfl
theorem bN {J:It} {g:TG} {tb:TS} {D:Ends} {σ:St} {H:Hp} {n:Nat} {Item:Nat->V->Hp->Hp->Prop} {Ok:Hp->Prop} (S:Src J Ok n Item) (Pv:Nat->St->Hp->Prop) (h0:Pv 0 σ H) (bU:∀i σ H,i<=n->Pv i σ H->Ok H)
  (hs:∀i x σ H H3,i<n->Pv i σ H->Item i x H H3->g x σ H3 λσ2 H2=>tb {D with nx:=Pv (i+1),ct:=Pv (i+1),bk:=D.nx} σ2 H2) (hd:∀σ H,Pv n σ H->D.nx σ H):DE J g tb D σ H:=by
 refine⟨λi m σ H=>m=n - i/\i<=n/\Pv i σ H,⟨n,by simp,aar _,h0⟩,?_⟩
 rintro i m σ H ⟨rfl,hi,p⟩
 by_cases fQ:i<n
 ·exact .inr ⟨S.go i H fQ (bU i σ H hi p),Pv (i+1),λσ' H' p'=>⟨n - (i+1),by omega,rfl,fQ,p'⟩,λx H' y=>hs i x σ H H' fQ p (S.vM i H x H' fQ (bU i σ H hi p) y)⟩
 ·have e:i=n:=by omega
  subst e
  exact .inl ⟨S.stop H (bU i σ H hi p),hd σ H p⟩
theorem fj {K:PySem.W.Frag} {J:It} {te:TE} {tl:St} {H1:Hp} {fin:List V->Hp->Prop} {n:Nat} {Item:Nat->V->Hp->Hp->Prop} (S:Src J (az H1) n Item) (HQ:Nat->V->V->Hp->Prop)
  (tp:∀i x H H3,i<n->az H1 H->Item i x H H3->az H H3/\∃p a b,x=.ref p/\d6 K H3 p [a,b]/\HQ i a b H3) (hz:n<=sizeLine)
  (R:Nat->V->Hp->Prop) (mono:∀i y H H',az H H'->R i y H->R i y H')
  (hs:∀i a b H3 (Q:VK),i<n->az H1 H3->HQ i a b H3->(∀y H6,az H3 H6->R i y H6->Q y H6)->te (some a::some b::tl) H3 Q)
  (jX:∀ys H,az H1 H->ys.length=n->(∀(i:Nat) y,ys[i]?=some y->R i y H)->fin ys H):eX J (yH K 2 (gCons (gName 0) (gCons (gName 1) gNil))) gK te (none::none::tl) H1 fin:=by
 refine⟨λi m ys σ H=>m=n - i/\i<=n/\ys.length=i/\(∃w w',σ=w::w'::tl)/\az H1 H/\∀(j:Nat) y,ys[j]?=some y->R j y H,⟨n,by simp,aar _,rfl,⟨_,_,rfl⟩,az.refl _,λj y e=>by simp at e⟩,?_⟩
 rintro i m ys σ H ⟨rfl,hi,hl,⟨w,w',rfl⟩,sm,p⟩
 by_cases fQ:i<n
 ·refine .inr ⟨S.go i H fQ sm,λx H3 y=>?_⟩
  obtain⟨s3,q,a,b,rfl,sq,it⟩:=tp i x H H3 fQ sm (S.vM i H x H3 fQ sm y)
  refine⟨q,_,rfl,sq,rfl,_,_,rfl,_,_,rfl,rfl,?_⟩
  unfold gK
  refine HK ?_
  refine hs i a b H3 _ fQ (sm.trans s3) it λy H6 s6 r=>⟨by omega,n - (i+1),by omega,rfl,fQ,by rw[aaD,List.length_singleton];omega,⟨_,_,rfl⟩,sm.trans (s3.trans s6),λj z e=>?_⟩
  by_cases hj:j<i
  ·rw[aaW (by omega)] at e
   exact mono j z _ _ (s3.trans s6) (p j z e)
  ·rw[aaV (by omega)] at e
   have e2:j - ys.length=0:=by
    by_cases q:j - ys.length=0
    ·exact q
    ·rw[aaq (by simp;omega)] at e;cases e
   rw[e2] at e
   simp at e
   subst e
   have:j=i:=by omega
   subst this
   exact r
 ·have e:i=n:=by omega
  subst e
  exact .inl ⟨S.stop H sm,jX ys H sm hl p⟩
end L2
namespace L2
open PySem PySem.Spec PyProof.Rows
section
variable {X : Cx} {pins : List (Addr × Obj)} {σ : St} {H : Hp} {s : Shared}
theorem Inv.moved {h':Heap} {t':Nat} {ch:List Addr} (I:Inv X pins σ H s) (f:∀b∈ch,ic X pins H b) (k:∀b o,b∉ch->s.heap.get? b=some o->h'.get? b=some o):Inv X pins σ H {s with heap:=h',toks:=t'}:=by
 have Dm:∀b u,H b=some u->b∉ch:=λb u e z=>by rw[(f b z).1] at e;cases e
 refine I.step (g':=s.gens) (d':=s.drawn) (ch:=ch) (λb hb=>⟨(f b hb).2.2.2.1,(f b hb).2.1,(f b hb).2.2.2.2.1,(f b hb).2.2.2.2.2⟩) (λb o _ _ hc e _=>k b o hc e) (λb o _ _ hc e _=>⟨o.slots,k b o hc e⟩) (λ_ _ _ _ n=>n)
  (λb o hc e=>⟨o,k b o hc e⟩) (λ_ _ e=>e) (λ_ _ _ e=>e) (λb ps e=>⟨#[],by rw[e];simp⟩) (λm hm=>?_) (λb u e=>?_) I.bare
 ·obtain⟨o,es,ep,ho,r⟩:=hm
  exact⟨o,es,ep,k _ o (λz=>(f _ z).2.1 rfl) ho,r⟩
 ·refine(I.bU b u e).oI (λc v hc q=>k c v ?_ q) (λ_ q=>q) λ_ _ q=>q
  rcases hc with z | z
  ·rw[z];exact Dm b u e
  ·exact Dm c _ z
theorem Inv.take {ad:Addr} {o:HO} (I:Inv X pins σ H s) (f:ic X pins H ad) (new:X.s₀.heap.objs.size<=ad) (ok:cI X.prog X.w (upd H ad o) s.heap ad o):Inv X pins σ (upd H ad o) s:=by
 obtain⟨hn,nL,nf,_,nc,np⟩:=f
 have tk:∀b u,H b=some u->b≠ad:=λb u e z=>by rw[z,hn] at e;cases e
 refine⟨I.ok,I.os,I.bare,⟨I.base.keep,I.base.slot,λb ob e m hx=>?_,I.base.there,λb xs e=>?_,λb ob u e=>?_,λb ps e=>?_⟩,I.loc,I.cell,?_,λx c e=>?_,λp hp=>?_,λb u e=>?_,I.len⟩
 ·rw[aG (aam (aat (Heap.lt_size e) new))]
  exact I.base.free b ob e m hx
 ·have q:=I.base.kP b xs e
  rw[aG (tk b _ q)];exact q
 ·have q:=I.base.mH b ob u e
  rw[aG (tk b _ q)];exact q
 ·obtain⟨mo,q⟩:=I.base.mI b ps e
  exact⟨mo,by rw[aG (tk b _ q)];exact q⟩
 ·rw[aG (Ne.symm nL)];exact I.free
 ·rw[aG (nc x c e)];exact I.gD x c e
 ·obtain⟨a,b,c⟩:=I.pin p hp
  exact⟨a,by rw[aG (np p hp)];exact b,c⟩
 ·by_cases hb:b=ad
  ·subst hb
   rw[ar] at e
   cases e
   exact ok
  ·rw[aG hb] at e
   exact(I.bU b u e).oI (λ_ _ _ q=>q) (λc r=>by rw[aG (tk _ _ r)];exact r) λc xs r=>by rw[aG (tk _ _ r)];exact r
end
noncomputable def LV (K:PySem.W.Frag) (a b:Addr):It:=
 ⟨λi H=>∃xs ys x y,aZ K H a xs/\aZ K H b ys/\xs[i]?=some x/\ys[i]?=some y,
  λi H v H'=>∃p,H p=none/\v=.ref p/\∃x y,(∀xs,aZ K H a xs->xs[i]?=some x)/\(∀ys,aZ K H b ys->ys[i]?=some y)/\H'=upd H p (.tup [x,y]),
  λi H=>∃xs ys,aZ K H a xs/\aZ K H b ys/\(i=min xs.length ys.length)⟩
theorem za {P:Program} {w:World} {K:PySem.W.Frag} {elts:List Expr} {k:Nat} {pos:Pos} (z TI TO i1 i2 a b:Addr) (D:ZipApart z TI TO i1 i2 a b):
  Turn P w K (.Tuple elts k pos) (LV K a b) [z,TI,TO,i1,i2] z (λi h=>IsZip h z TI TO .none/\IsPair h TI (.ref i1) (.ref i2)/\(∃x y,IsPair h TO x y)/\h.IsListIter i1 a i/\h.IsListIter i2 b i) where
 mem:=by simp
 obj:=λi h st c hc=>by
  obtain⟨hz,DF,⟨x,y,DG⟩,⟨o1,e1,_,d1⟩,⟨o2,e2,_,d2⟩⟩:=st
  simp only[List.mem_cons,List.not_mem_nil,or_false] at hc
  rcases hc with rfl | rfl | rfl | rfl | rfl
  ·exact⟨_,hz,λv q=>by cases q⟩
  ·exact⟨_,DF,λv q=>by cases q⟩
  ·exact⟨_,DG,λv q=>by cases q⟩
  ·exact⟨_,e1,λv q=>by rw[d1] at q;cases q⟩
  ·exact⟨_,e2,λv q=>by rw[d2] at q;cases q⟩
 keep:=λi h h' st kp=>by
  obtain⟨hz,DF,⟨x,y,DG⟩,h1,h2⟩:=st
  exact⟨kp z (by simp) _ hz,kp TI (by simp) _ DF,⟨x,y,kp TO (by simp) _ DG⟩,h1.at λo e=>kp i1 (by simp) o e,h2.at λo e=>kp i2 (by simp) o e⟩
 item:=by
  intro X hP hw hK hc i pins s σ H E I hf st hg
  subst hP hw hK
  obtain⟨xs,ys,x,y,Cd,zb,hx,hy⟩:=hg
  obtain⟨iO,r1,p1,z1⟩:=I.list Cd
  obtain⟨mW,r2,p2,z2⟩:=I.list zb
  obtain⟨u,eu,ru⟩:=r1.get hx
  obtain⟨v,ev,rv⟩:=r2.get hy
  obtain⟨hz,DF,⟨x0,y0,DG⟩,h1,h2⟩:=st
  have W:=WalksT.zip2 (prog:=X.prog) (w:=X.w) (I.ok.hd hc) z TI TO i1 i2 a b D iO.toArray mW.toArray
  have li:i<min iO.toArray.size mW.toArray.size:=by
   have a1:=(List.getElem?_eq_some_iff.mp eu).1
   have a2:=(List.getElem?_eq_some_iff.mp ev).1
   simp only[aak]
   omega
  refine W.item i s _ _ li ⟨hz,DF,⟨x0,y0,DG⟩,h1,h2,p1.isList,p2.isList⟩ λT vals h' tk Bj hT hI hm kk=>?_
  have sub:∀c∈[z,TO,i1,i2],c∈[z,TI,TO,i1,i2]:=λc hc=>by simp at hc ⊢;rcases hc with rfl | rfl | rfl | rfl <;>simp
  have I1:Inv X pins σ H {s with heap:=h',toks:=tk}:=I.moved (ch:=[z,TO,i1,i2]) (λc hc=>hf c (sub c hc)) kk
  have fT:ic X pins H T:=I.xC hT (I.bU.fresh hT)
  refine⟨_,rfl,W.go elts k pos i T _ _ _ hm λv3 ux HR=>?_⟩
  have I2:Inv X pins σ H {s with heap:=v3,toks:=tk}:=I1.moved (s:={s with heap:=h',toks:=tk}) (t':=tk) (ch:=[z,TO,i1,i2]) (λc hc=>hf c (sub c hc)) HR
  obtain⟨x',y',ex,ey,rfl⟩:=Bj
  have Bx:iO[i]?=some x':=by simpa using ex
  have HS:mW[i]?=some y':=by simpa using ey
  rw[eu] at Bx;cases Bx
  rw[ev] at HS;cases HS
  have LW:=W.apart _ _ _ hm
  obtain⟨oT,eT,cT,nT,dT⟩:=hI
  have LX:IsTup v3 T #[u,v]:=⟨oT,HR _ _ LW eT,cT,nT,dT⟩
  have I3:Inv X pins σ (upd H T (.tup [x,y])) {s with heap:=v3,toks:=tk}:=
   I2.take fT (aao I.sz hT) ⟨by show 2<=sizeLine;decide,[u,v],.cons ru (.cons rv .nil),LX⟩
  obtain⟨b1,b2,b3,b4,b5,_,_⟩:=ux
  refine⟨.ref T,_,I3,rfl,⟨T,fT.1,rfl,x,y,λiy q=>?_,λoM q=>?_,rfl⟩,⟨b1,b2,b3,b4,b5⟩,λc hc=>?_⟩
  ·rw[I.jf q Cd];exact hx
  ·rw[I.jf q zb];exact hy
  ·rw[aG (λq=>?_)]
   ·exact(hf c hc).1
   ·subst q
    obtain⟨o,e,_⟩:∃o,s.heap.get? c=some o/\True:=by
     simp only[List.mem_cons,List.not_mem_nil,or_false] at hc
     obtain⟨o1,e1,_⟩:=h1
     obtain⟨o2,e2,_⟩:=h2
     rcases hc with rfl | rfl | rfl | rfl | rfl
     ·exact⟨_,hz,trivial⟩
     ·exact⟨_,DF,trivial⟩
     ·exact⟨_,DG,trivial⟩
     ·exact⟨_,e1,trivial⟩
     ·exact⟨_,e2,trivial⟩
    exact absurd (Heap.lt_size e) (Nat.not_lt.mpr hT)
 done:=by
  intro X hP hw hK hc i pins s σ H E I hf st hg
  subst hP hw hK
  obtain⟨xs,ys,Cd,zb,hi⟩:=hg
  obtain⟨iO,r1,p1,z1⟩:=I.list Cd
  obtain⟨mW,r2,p2,z2⟩:=I.list zb
  obtain⟨hz,DF,DG,h1,h2⟩:=st
  have W:=WalksT.zip2 (prog:=X.prog) (w:=X.w) (I.ok.hd hc) z TI TO i1 i2 a b D iO.toArray mW.toArray
  have l1:=r1.length
  have l2:=r2.length
  have e:i=min iO.toArray.size mW.toArray.size:=by simp only[aak];omega
  subst e
  have sub:∀c∈[z,TO,i1,i2],c∈[z,TI,TO,i1,i2]:=λc hc=>by simp at hc ⊢;rcases hc with rfl | rfl | rfl | rfl <;>simp
  exact W.done s _ _ ⟨hz,DF,DG,h1,h2,p1.isList,p2.isList⟩ λh' tk kk=>⟨rfl,I.moved (ch:=[z,TO,i1,i2]) (λc hc=>hf c (sub c hc)) kk⟩
 self:=λ_ _ _ _ _ st h=>wpAny_pyIter_zip st.1 h
noncomputable def HU (K:PySem.W.Frag) (a:Addr):It:=
 ⟨λi H=>∃xs x,aZ K H a xs/\xs[i]?=some x,
  λi H v H'=>∃p,H p=none/\v=.ref p/\∃x,(∀xs,aZ K H a xs->xs[i]?=some x)/\H'=upd H p (.tup [.int i,x]),
  λi H=>∃xs,aZ K H a xs/\xs.length=i⟩
theorem xW {P:Program} {w:World} {K:PySem.W.Frag} {elts:List Expr} {k:Nat} {pos:Pos} (e it a:Addr) (Kv:e≠it) (hle:a≠e) (TM:a≠it):
  Turn P w K (.Tuple elts k pos) (HU K a) [e,it] e (λi h=>(∃old,IsEnum h e it i old)/\h.IsListIter it a i) where
 mem:=by simp
 obj:=λi h st c hc=>by
  obtain⟨⟨old,he⟩,⟨o1,e1,_,d1⟩⟩:=st
  simp only[List.mem_cons,List.not_mem_nil,or_false] at hc
  rcases hc with rfl | rfl
  ·exact⟨_,he,λv q=>by cases q⟩
  ·exact⟨_,e1,λv q=>by rw[d1] at q;cases q⟩
 keep:=λi h h' st kp=>by
  obtain⟨⟨old,he⟩,h1⟩:=st
  exact⟨⟨old,kp e (by simp) _ he⟩,h1.at λo q=>kp it (by simp) o q⟩
 item:=by
  intro X hP hw hK hc i pins s σ H E I hf st hg
  subst hP hw hK
  obtain⟨xs,x,Cd,hx⟩:=hg
  obtain⟨iO,r1,p1,z1⟩:=I.list Cd
  obtain⟨u,eu,ru⟩:=r1.get hx
  obtain⟨he,h1⟩:=st
  have W:=WalksT.enumerate (prog:=X.prog) (w:=X.w) (I.ok.hd hc) e it a Kv hle TM iO.toArray
  have li:i<iO.toArray.size:=by
   have a1:=(List.getElem?_eq_some_iff.mp eu).1
   simp only[aak]
   omega
  refine W.item i s _ _ li ⟨he,h1,p1.isList⟩ λT vals h' tk Bj hT hI hm kk=>?_
  have I1:Inv X pins σ H {s with heap:=h',toks:=tk}:=I.moved (ch:=[e,it]) hf kk
  have fT:ic X pins H T:=I.xC hT (I.bU.fresh hT)
  refine⟨_,rfl,W.go elts k pos i T _ _ _ hm λv3 ux HR=>?_⟩
  have I2:Inv X pins σ H {s with heap:=v3,toks:=tk}:=I1.moved (s:={s with heap:=h',toks:=tk}) (t':=tk) (ch:=[e,it]) hf HR
  obtain⟨t,x',ex,rfl⟩:=Bj
  have Bx:iO[i]?=some x':=by simpa using ex
  rw[eu] at Bx;cases Bx
  have LW:=W.apart _ _ _ hm
  obtain⟨oT,eT,cT,nT,dT⟩:=hI
  have LX:IsTup v3 T #[.int i t,u]:=⟨oT,HR _ _ LW eT,cT,nT,dT⟩
  have I3:Inv X pins σ (upd H T (.tup [.int i,x])) {s with heap:=v3,toks:=tk}:=
   I2.take fT (aao I.sz hT) ⟨by show 2<=sizeLine;decide,[.int i t,u],.cons ⟨t,rfl⟩ (.cons ru .nil),LX⟩
  obtain⟨b1,b2,_⟩:=ux
  refine⟨.ref T,_,I3,rfl,⟨T,fT.1,rfl,x,λiy q=>?_,rfl⟩,⟨b1,b2⟩,λc hc=>?_⟩
  ·rw[I.jf q Cd];exact hx
  ·rw[aG (λq=>?_)]
   ·exact(hf c hc).1
   ·subst q
    obtain⟨o,e,_⟩:∃o,s.heap.get? c=some o/\True:=by
     simp only[List.mem_cons,List.not_mem_nil,or_false] at hc
     obtain⟨old,he⟩:=he
     obtain⟨o1,e1,_⟩:=h1
     rcases hc with rfl | rfl
     ·exact⟨_,he,trivial⟩
     ·exact⟨_,e1,trivial⟩
    exact absurd (Heap.lt_size e) (Nat.not_lt.mpr hT)
 done:=by
  intro X hP hw hK hc i pins s σ H E I hf st hg
  subst hP hw hK
  obtain⟨xs,Cd,hi⟩:=hg
  obtain⟨iO,r1,p1,z1⟩:=I.list Cd
  obtain⟨he,h1⟩:=st
  have W:=WalksT.enumerate (prog:=X.prog) (w:=X.w) (I.ok.hd hc) e it a Kv hle TM iO.toArray
  have l1:=r1.length
  have e:i=iO.toArray.size:=by simp only[aak];omega
  subst e
  exact W.done s _ _ ⟨he,h1,p1.isList⟩ λh' tk kk=>⟨rfl,I.moved (ch:=[_,it]) hf kk⟩
 self:=λ_ _ _ _ _ st h=>by
  obtain⟨⟨old,he⟩,_⟩:=st
  exact wpAny_pyIter_enum he h
section
variable {X : Cx} {elts : List Expr} {kk : Nat} {kQ : Pos}
noncomputable def iZip (K:PySem.W.Frag) (ta:TA):TI:=λσ H R=>ta σ H λvs H1=>∃a b,vs=[.ref a,.ref b]/\(∃xs,aZ K H1 a xs)/\(∃ys,aZ K H1 b ys)/\R (LV K a b) H1
theorem EX {a b:Expr} {ta:TA} {p pos:Pos} (hg:Gl X "zip") (hm:X.mg "zip"=none) (ha:PA X [a,b] ta) (hs:starEach [a,b] X.env=[(false,eval a X.env),(false,eval b X.env)]:=by rfl) (Dw:starEach [b] X.env=[(false,eval b X.env)]:=by rfl):
  PI X (.Tuple elts kk kQ) (.Call (.Name "zip" p) [a,b] [] pos) (iZip X.K ta):=by
 intro pins s σ H R I h
 refine Call_ (iJ I hg hm rfl (PyProof.Rows.callWith_type1 (cy (ha pos pins s σ H _ I h) λus s1 cX=>?_) (by rw[hs,Dw]) (by rw[Dw];rfl)))
 obtain⟨vs,H1,I1,r1,q1⟩:=cX
 obtain⟨a,b,e,⟨xs,q1⟩,⟨ys,q2⟩,q⟩:=q1
 subst e
 obtain⟨u,u',rfl,ra,rb⟩:=vals2 r1
 cases ra
 cases rb
 obtain⟨iO,v1,p1,z1⟩:=I1.list q1
 obtain⟨mW,v2,p2,z2⟩:=I1.list q2
 refine call_zip_2 p1.isList p2.isList λh' b1 b2 b3 b4 b5 b6 kp=>?_
 refine wpAny_pyIter_zip b1 ?_
 have I2:Inv X pins σ H1 {s1 with heap:=h'}:=I1.kept (t':=s1.toks) kp
 have la:a<s1.heap.objs.size:=by obtain⟨o,e,_⟩:=p1.isList;exact Heap.lt_size e
 have lb:b<s1.heap.objs.size:=by obtain⟨o,e,_⟩:=p2.isList;exact Heap.lt_size e
 refine⟨s1.heap.objs.size+4,[s1.heap.objs.size+4,s1.heap.objs.size+2,s1.heap.objs.size+3,s1.heap.objs.size,s1.heap.objs.size+1],_,_,H1,rfl,I2,
  za (s1.heap.objs.size+4) (s1.heap.objs.size+2) (s1.heap.objs.size+3) s1.heap.objs.size (s1.heap.objs.size+1) a b (by constructor <;>(first | exact aam (by omega) | exact Nat.ne_of_gt (by omega) | exact aam la | exact aam lb | exact aam (aat la (Nat.le_add_right _ _)) | exact aam (aat lb (Nat.le_add_right _ _)))),⟨b1,b2,⟨_,_,b3⟩,b4,b5⟩,λc hc=>?_,q⟩
 have DH:s1.heap.objs.size<=c:=by
  simp only[List.mem_cons,List.not_mem_nil,or_false] at hc
  rcases hc with rfl | rfl | rfl | rfl | rfl <;>omega
 exact I1.xC DH (I1.bU.fresh DH)
noncomputable def iEnum (K:PySem.W.Frag) (ta:TA):TI:=λσ H R=>ta σ H λvs H1=>∃a,vs=[.ref a]/\(∃xs,aZ K H1 a xs)/\R (HU K a) H1
theorem qA {a:Expr} {ta:TA} {p pos:Pos} (hg:Gl X "enumerate") (hm:X.mg "enumerate"=none) (ha:PA X [a] ta) (hs:starEach [a] X.env=[(false,eval a X.env)]:=by rfl):
  PI X (.Tuple elts kk kQ) (.Call (.Name "enumerate" p) [a] [] pos) (iEnum X.K ta):=by
 intro pins s σ H R I h
 refine Call_ (iJ I hg hm rfl (PyProof.Rows.callWith_type1 (cy (ha pos pins s σ H _ I h) λus s1 cX=>?_) hs rfl))
 obtain⟨vs,H1,I1,r1,q1⟩:=cX
 obtain⟨a,e,⟨xs,q1⟩,q⟩:=q1
 subst e
 obtain⟨u,rfl,ra⟩:=vals1 r1
 cases ra
 obtain⟨iO,v1,p1,z1⟩:=I1.list q1
 refine call_enumerate_list p1.isList λh' b1 b2 b3 kp=>?_
 refine wpAny_pyIter_enum b1 ?_
 have I2:Inv X pins σ H1 {s1 with heap:=h'}:=I1.kept (t':=s1.toks) kp
 have la:a<s1.heap.objs.size:=by obtain⟨o,e,_⟩:=p1.isList;exact Heap.lt_size e
 refine⟨s1.heap.objs.size+1,[s1.heap.objs.size+1,s1.heap.objs.size],_,_,H1,rfl,I2,
  xW (s1.heap.objs.size+1) s1.heap.objs.size a (Nat.ne_of_gt (aaJ _)) (aam (abi la)) (aam la),⟨⟨_,b1⟩,b2⟩,λc hc=>?_,q⟩
 have DH:s1.heap.objs.size<=c:=by
  simp only[List.mem_cons,List.not_mem_nil,or_false] at hc
  rcases hc with rfl | rfl <;>omega
 exact I1.xC DH (I1.bU.fresh DH)
end
theorem jr {K:PySem.W.Frag} {a b:Addr} {xs ys:List V} {Ok:Hp->Prop} (h1:∀H,Ok H->aZ K H a xs) (h2:∀H,Ok H->aZ K H b ys):
  Src (LV K a b) Ok (min xs.length ys.length) (λi v H H3=>∃p x y,H p=none/\v=.ref p/\xs[i]?=some x/\ys[i]?=some y/\H3=upd H p (.tup [x,y])) where
 go:=λi H hi ok=>⟨xs,ys,xs[i]'(by omega),ys[i]'(by omega),h1 H ok,h2 H ok,by simp,by simp⟩
 vM:=λi H x H3 hi ok ⟨p,n,e,u,v,e1,e2,e3⟩=>⟨p,u,v,n,e,e1 xs (h1 H ok),e2 ys (h2 H ok),e3⟩
 stop:=λH ok=>⟨xs,ys,h1 H ok,h2 H ok,rfl⟩
theorem fk {K:PySem.W.Frag} {a:Addr} {xs:List V} {Ok:Hp->Prop} (h1:∀H,Ok H->aZ K H a xs):
  Src (HU K a) Ok xs.length (λi v H H3=>∃p x,H p=none/\v=.ref p/\xs[i]?=some x/\H3=upd H p (.tup [.int i,x])) where
 go:=λi H hi ok=>⟨xs,xs[i],h1 H ok,by simp [hi]⟩
 vM:=λi H x H3 hi ok ⟨p,n,e,u,e1,e3⟩=>⟨p,u,n,e,e1 xs (h1 H ok),e3⟩
 stop:=λH ok=>⟨xs,h1 H ok,rfl⟩
end L2
namespace L2
open PySem PySem.Spec PyProof.Rows
inductive Dat where
 | cB | bl (b:Bool) | int (i:Int) | str (x:Str) | tup (l:List Dat) | lst (l:List Dat)
mutual
noncomputable def Rep (H:Hp):Dat->V->Prop
 | .cB,v=>v=.cB
 | .bl b,v=>v=.bl b
 | .int i,v=>v=.int i
 | .str x,v=>v=.str x
 | .tup ds,v=>∃p vs,v=.ref p/\H p=some (.tup vs)/\aY H ds vs
 | .lst ds,v=>∃p vs,v=.ref p/\H p=some (.lst vs)/\aY H ds vs
noncomputable def aY (H:Hp):List Dat->List V->Prop
 | [],vs=>vs=[]
 | d::ds,vs=>∃v r,vs=v::r/\Rep H d v/\aY H ds r
end
mutual
theorem Rep.mono {H H':Hp} (s:az H H'):∀{d:Dat} {v:V},Rep H d v->Rep H' d v
 | .cB,_,h=>by rw[Rep] at *;exact h
 | .bl _,_,h=>by rw[Rep] at *;exact h
 | .int _,_,h=>by rw[Rep] at *;exact h
 | .str _,_,h=>by rw[Rep] at *;exact h
 | .tup _,_,h=>by
  rw[Rep] at *
  obtain⟨p,vs,e,hp,r⟩:=h
  exact⟨p,vs,e,s _ _ hp,aY.mono s r⟩
 | .lst _,_,h=>by
  rw[Rep] at *
  obtain⟨p,vs,e,hp,r⟩:=h
  exact⟨p,vs,e,s _ _ hp,aY.mono s r⟩
theorem aY.mono {H H':Hp} (s:az H H'):∀{ds:List Dat} {vs:List V},aY H ds vs->aY H' ds vs
 | [],_,h=>by rw[aY] at *;exact h
 | _::_,_,h=>by
  rw[aY] at *
  obtain⟨v,r,e,h1,h2⟩:=h
  exact⟨v,r,e,Rep.mono s h1,aY.mono s h2⟩
end
theorem aY.length {H:Hp}:∀{ds:List Dat} {vs:List V},aY H ds vs->ds.length=vs.length
 | [],_,h=>by rw[aY] at h;subst h;rfl
 | _::_,_,h=>by
  rw[aY] at h
  obtain⟨v,r,rfl,_,h2⟩:=h
  simp [h2.length]
theorem aY.get {H:Hp}:∀{ds:List Dat} {vs:List V} {i:Nat} {v:V},aY H ds vs->vs[i]?=some v->∃d,ds[i]?=some d/\Rep H d v
 | [],_,i,v,h,e=>by rw[aY] at h;subst h;simp at e
 | d::ds,_,i,v,h,e=>by
  rw[aY] at h
  obtain⟨v',r,rfl,h1,h2⟩:=h
  cases i with
  | zero=>simp at e;subst e;exact⟨d,rfl,h1⟩
  | succ i=>simp at e;obtain⟨d',e',r'⟩:=h2.get e;exact⟨d',by simpa using e',r'⟩
theorem aY.at {H:Hp}:∀{ds:List Dat} {vs:List V} {i:Nat} {d:Dat},aY H ds vs->ds[i]?=some d->∃v,vs[i]?=some v/\Rep H d v
 | [],_,i,v,h,e=>by simp at e
 | d::ds,_,i,d',h,e=>by
  rw[aY] at h
  obtain⟨v',r,rfl,h1,h2⟩:=h
  cases i with
  | zero=>simp at e;subst e;exact⟨v',rfl,h1⟩
  | succ i=>simp at e;obtain⟨v,e',r'⟩:=h2.at e;exact⟨v,by simpa using e',r'⟩
theorem aY.of {H:Hp}:∀{ds:List Dat} {vs:List V},ds.length=vs.length->(∀(i:Nat) d v,ds[i]?=some d->vs[i]?=some v->Rep H d v)->aY H ds vs
 | [],[],_,_=>by rw[aY]
 | [],_::_,h,_=>by simp at h
 | _::_,[],h,_=>by simp at h
 | d::ds,v::vs,h,k=>by
  rw[aY]
  exact⟨v,vs,rfl,k 0 d v rfl rfl,aY.of (by simpa using h) λi d' v' e1 e2=>k (i+1) d' v' (by simpa using e1) (by simpa using e2)⟩
theorem aY.append {H:Hp}:∀{as bs:List Dat} {us vs:List V},aY H as us->aY H bs vs->aY H (as++bs) (us++vs)
 | [],_,_,_,h,k=>by rw[aY] at h;subst h;exact k
 | _::_,_,_,_,h,k=>by
  rw[aY] at h
  obtain⟨v,r,rfl,h1,h2⟩:=h
  show aY H (_::(_++_)) (_::(_++_))
  rw[aY]
  exact⟨_,_,rfl,h1,h2.append k⟩
noncomputable def depth:Dat->Nat
 | .tup l=>1+dL l
 | .lst l=>1+dL l
 | _=>0
where dL:List Dat->Nat
 | []=>0
 | d::ds=>max (depth d) (dL ds)
theorem fm {d:Dat}:∀{ds:List Dat},d∈ds->depth d<=depth.dL ds
 | e::ds,h=>by
  rw[depth.dL]
  rcases List.mem_cons.mp h with rfl | h
  ·exact Nat.le_max_left _ _
  ·exact aao (fm h) (Nat.le_max_right _ _)
section
variable {X : Cx} {pins : List (Addr × Obj)} {σ : St} {H : Hp} {s : Shared}
theorem all_true (n:Nat):((List.range n).all λ_=>true)=true:=by simp
theorem zc (I:Inv X pins σ H s):∀(n:Nat) (d:Dat),depth d<=n->∀(v v':V) (u u':Value) (A:Around),Rep H d v->Rep H d v'->RelV v u->RelV v' u'->A.units+n<cLine->SeqAt.EqAt A s u u' true:=by
 intro n
 induction n with
 | zero=>
  intro d hd v v' u u' A h h' r r' hu
  cases d with
  | cB=>rw[Rep] at h h';subst h h';cases r;cases r';exact SeqAt.EqAt.same _
  | bl b=>rw[Rep] at h h';subst h h';cases r;cases r';exact SeqAt.EqAt.same _
  | int i=>rw[Rep] at h h';subst h h';obtain⟨t,rfl⟩:=r;obtain⟨t',rfl⟩:=r';have:=SeqAt.EqAt.int_int (A:=A) (s:=s) i t i t';simpa using this
  | str x=>rw[Rep] at h h';subst h h';obtain⟨t,rfl⟩:=r;obtain⟨t',rfl⟩:=r';have:=SeqAt.EqAt.str_str (A:=A) (s:=s) x t x t';simpa using this
  | tup l=>rw[depth] at hd;omega
  | lst l=>rw[depth] at hd;omega
 | succ n ih=>
  intro d hd v v' u u' A h h' r r' hu
  cases d with
  | cB=>rw[Rep] at h h';subst h h';cases r;cases r';exact SeqAt.EqAt.same _
  | bl b=>rw[Rep] at h h';subst h h';cases r;cases r';exact SeqAt.EqAt.same _
  | int i=>rw[Rep] at h h';subst h h';obtain⟨t,rfl⟩:=r;obtain⟨t',rfl⟩:=r';have:=SeqAt.EqAt.int_int (A:=A) (s:=s) i t i t';simpa using this
  | str x=>rw[Rep] at h h';subst h h';obtain⟨t,rfl⟩:=r;obtain⟨t',rfl⟩:=r';have:=SeqAt.EqAt.str_str (A:=A) (s:=s) x t x t';simpa using this
  | tup l=>
   rw[Rep] at h h'
   obtain⟨p,vs,rfl,hp,rl⟩:=h
   obtain⟨p',HV,rfl,jc,ze⟩:=h'
   cases r
   cases r'
   rw[depth] at hd
   by_cases HW:p=p'
   ·subst HW;exact SeqAt.EqAt.same _
   obtain⟨aU,rv,pl,hz⟩:=I.tuple (d6.of hp)
   obtain⟨its',zf,EY,LY⟩:=I.tuple (d6.of jc)
   have e1:=rl.length
   have e2:=ze.length
   have l1:=rv.length
   have l2:=zf.length
   have R:=SeqAt.RcAt.tuples (A:=A) (e:=λ_=>true) pl EY (by omega) (λj h1 h2=>?_)
   ·simp only[aak,all_true,Bool.true_and] at R
    rw[show(aU.length==its'.length)=true by simp;omega] at R
    exact .of_refs HW R
   ·rw[aak] at h1 h2
    obtain⟨d,ed⟩:∃d,l[j]?=some d:=⟨l[j]'(by omega),by simp⟩
    obtain⟨v1,f1,q1⟩:=rl.at ed
    obtain⟨v2,f2,q2⟩:=ze.at ed
    obtain⟨u1,g1,w1⟩:=rv.get f1
    obtain⟨u2,g2,w2⟩:=zf.get f2
    have a1:aU.toArray[j]=u1:=by simpa [aac h1] using g1
    have a2:its'.toArray[j]=u2:=by simpa [aac h2] using g2
    rw[a1,a2]
    have:=fm (aaf ed)
    exact ih d (by omega) v1 v2 u1 u2 A.in1 q1 q2 w1 w2 (by show A.units+1+n<cLine;omega)
  | lst l=>
   rw[Rep] at h h'
   obtain⟨p,vs,rfl,hp,rl⟩:=h
   obtain⟨p',HV,rfl,jc,ze⟩:=h'
   cases r
   cases r'
   rw[depth] at hd
   by_cases HW:p=p'
   ·subst HW;exact SeqAt.EqAt.same _
   obtain⟨aU,rv,pl,hz⟩:=I.list (aZ.of hp)
   obtain⟨its',zf,EY,LY⟩:=I.list (aZ.of jc)
   have e1:=rl.length
   have e2:=ze.length
   have l1:=rv.length
   have l2:=zf.length
   have R:=SeqAt.RcAt.lists (A:=A) (e:=λ_=>true) pl.isList EY.isList (by simp only[aak];omega) (by omega) (λj h1 h2=>?_)
   ·rw[all_true] at R
    exact .of_refs HW R
   ·rw[aak] at h1 h2
    obtain⟨d,ed⟩:∃d,l[j]?=some d:=⟨l[j]'(by omega),by simp⟩
    obtain⟨v1,f1,q1⟩:=rl.at ed
    obtain⟨v2,f2,q2⟩:=ze.at ed
    obtain⟨u1,g1,w1⟩:=rv.get f1
    obtain⟨u2,g2,w2⟩:=zf.get f2
    have a1:aU.toArray[j]=u1:=by simpa [aac h1] using g1
    have a2:its'.toArray[j]=u2:=by simpa [aac h2] using g2
    rw[a1,a2]
    have:=fm (aaf ed)
    exact ih d (by omega) v1 v2 u1 u2 A.in1 q1 q2 w1 w2 (by show A.units+1+n<cLine;omega)
end
section
variable {X : Cx}
noncomputable def Ce (b:Bool):R2:=λx y H Q=>∃d,Rep H d x/\Rep H d y/\(∃p,x=.ref p)/\depth d<=40/\Q (.bl b) H
theorem zg {pins:List (Addr×Obj)} {σ:St} {H:Hp} {s:Shared} {d:Dat} {p p':Addr} (I:Inv X pins σ H s) (hu:X.A.units+64<cLine) (h:Rep H d (.ref p)) (h':Rep H d (.ref p')) (hd:depth d<=40):
  (∃aU its':List Value,IsTup s.heap p aU.toArray/\IsTup s.heap p' its'.toArray/\aU.length=its'.length/\∀j (h1:j<aU.toArray.size) (h2:j<its'.toArray.size),SeqAt.EqAt X.A.in1 s aU.toArray[j] its'.toArray[j] true)\/
  (∃aU its':List Value,s.heap.IsList p aU.toArray/\s.heap.IsList p' its'.toArray/\aU.length=its'.length/\∀j (h1:j<aU.toArray.size) (h2:j<its'.toArray.size),SeqAt.EqAt X.A.in1 s aU.toArray[j] its'.toArray[j] true):=by
 cases d with
 | cB=>rw[Rep] at h;cases h
 | bl b=>rw[Rep] at h;cases h
 | int i=>rw[Rep] at h;cases h
 | str x=>rw[Rep] at h;cases h
 | tup l=>
  left
  rw[Rep] at h h'
  obtain⟨_,vs,e,hp,rl⟩:=h
  cases e
  obtain⟨_,HV,e,jc,ze⟩:=h'
  cases e
  rw[depth] at hd
  obtain⟨aU,rv,pl,hz⟩:=I.tuple (d6.of hp)
  obtain⟨its',zf,EY,LY⟩:=I.tuple (d6.of jc)
  have e1:=rl.length
  have e2:=ze.length
  have l1:=rv.length
  have l2:=zf.length
  refine⟨aU,its',pl,EY,by omega,λj h1 h2=>?_⟩
  rw[aak] at h1 h2
  obtain⟨d,ed⟩:∃d,l[j]?=some d:=⟨l[j]'(by omega),by simp⟩
  obtain⟨v1,f1,q1⟩:=rl.at ed
  obtain⟨v2,f2,q2⟩:=ze.at ed
  obtain⟨u1,g1,w1⟩:=rv.get f1
  obtain⟨u2,g2,w2⟩:=zf.get f2
  have a1:aU.toArray[j]=u1:=by simpa [aac h1] using g1
  have a2:its'.toArray[j]=u2:=by simpa [aac h2] using g2
  rw[a1,a2]
  have:=fm (aaf ed)
  exact zc I 40 d (by omega) v1 v2 u1 u2 X.A.in1 q1 q2 w1 w2 (by show X.A.units+1+40<cLine;omega)
 | lst l=>
  right
  rw[Rep] at h h'
  obtain⟨_,vs,e,hp,rl⟩:=h
  cases e
  obtain⟨_,HV,e,jc,ze⟩:=h'
  cases e
  rw[depth] at hd
  obtain⟨aU,rv,pl,hz⟩:=I.list (aZ.of hp)
  obtain⟨its',zf,EY,LY⟩:=I.list (aZ.of jc)
  have e1:=rl.length
  have e2:=ze.length
  have l1:=rv.length
  have l2:=zf.length
  refine⟨aU,its',pl.isList,EY.isList,by omega,λj h1 h2=>?_⟩
  rw[aak] at h1 h2
  obtain⟨d,ed⟩:∃d,l[j]?=some d:=⟨l[j]'(by omega),by simp⟩
  obtain⟨v1,f1,q1⟩:=rl.at ed
  obtain⟨v2,f2,q2⟩:=ze.at ed
  obtain⟨u1,g1,w1⟩:=rv.get f1
  obtain⟨u2,g2,w2⟩:=zf.get f2
  have a1:aU.toArray[j]=u1:=by simpa [aac h1] using g1
  have a2:its'.toArray[j]=u2:=by simpa [aac h2] using g2
  rw[a1,a2]
  have:=fm (aaf ed)
  exact zc I 40 d (by omega) v1 v2 u1 u2 X.A.in1 q1 q2 w1 w2 (by show X.A.units+1+40<cLine;omega)
theorem zh (hu:X.A.units+64<cLine):jO X (compareOp .Eq) (Ce true):=by
 intro pins s σ H x y v u Q I rx ry h
 obtain⟨d,h1,h2,⟨p,rfl⟩,hd,q⟩:=h
 obtain⟨p',rfl⟩:∃p',y=.ref p':=by
  cases d with
  | cB=>rw[Rep] at h1;cases h1
  | bl b=>rw[Rep] at h1;cases h1
  | int i=>rw[Rep] at h1;cases h1
  | str x=>rw[Rep] at h1;cases h1
  | tup l=>rw[Rep] at h2;obtain⟨p',_,e,_⟩:=h2;exact⟨p',e⟩
  | lst l=>rw[Rep] at h2;obtain⟨p',_,e,_⟩:=h2;exact⟨p',e⟩
 cases rx
 cases ry
 rcases zg I hu h1 h2 hd with ⟨aU,its',a,b,e,k⟩ | ⟨aU,its',a,b,e,k⟩
 ·refine SeqAt.eq_tupleAt (e:=λ_=>true) a b (by omega) k ⟨.bl true,H,I,?_,q⟩
  show Value.bool _=Value.bool true
  rw[all_true,aak,aak,e]
  simp
 ·refine SeqAt.eq_listAt (e:=λ_=>true) a b (by simp only[aak];exact e) (by omega) k ⟨.bl true,H,I,?_,q⟩
  show Value.bool _=Value.bool true
  rw[all_true]
theorem EZ (hu:X.A.units+64<cLine):jO X (compareOp .NotEq) (Ce false):=by
 intro pins s σ H x y v u Q I rx ry h
 obtain⟨d,h1,h2,⟨p,rfl⟩,hd,q⟩:=h
 obtain⟨p',rfl⟩:∃p',y=.ref p':=by
  cases d with
  | cB=>rw[Rep] at h1;cases h1
  | bl b=>rw[Rep] at h1;cases h1
  | int i=>rw[Rep] at h1;cases h1
  | str x=>rw[Rep] at h1;cases h1
  | tup l=>rw[Rep] at h2;obtain⟨p',_,e,_⟩:=h2;exact⟨p',e⟩
  | lst l=>rw[Rep] at h2;obtain⟨p',_,e,_⟩:=h2;exact⟨p',e⟩
 cases rx
 cases ry
 rcases zg I hu h1 h2 hd with ⟨aU,its',a,b,e,k⟩ | ⟨aU,its',a,b,e,k⟩
 ·refine SeqAt.RcNeAt.tuples (A:=X.A) (e:=λ_=>true) a b (by omega) k X.prog X.w X.xe _ ⟨.bl false,H,I,?_,q⟩
  show Value.bool _=Value.bool false
  rw[all_true,aak,aak,e]
  simp
 ·refine SeqAt.RcNeAt.lists (A:=X.A) (e:=λ_=>true) a b (by simp only[aak];exact e) (by omega) k X.prog X.w X.xe _ ⟨.bl false,H,I,?_,q⟩
  show Value.bool _=Value.bool false
  rw[all_true]
  rfl
noncomputable def rNeT:R2:=λx y H Q=>∃p q xs ys,x=.ref p/\y=.ref q/\H p=some (.tup xs)/\H q=some (.tup ys)/\xs.all ph=true/\ys.all ph=true/\Q (.bl (!Tt xs ys)) H
end
end L2
namespace Nm
noncomputable def ins (x:Int):List Int->List Int
 | []=>[x]
 | y::r=>if x<=y then x::y::r else y::ins x r
noncomputable def lZ:List Int->List Int
 | []=>[]
 | x::r=>ins x (lZ r)
theorem m6 (x:Int):∀l,(ins x l).Perm (x::l)
 | []=>.refl _
 | y::r=>by
  unfold ins
  split
  ·exact .refl _
  ·exact((m6 x r).cons y).trans (.swap ..)
theorem fq:∀l,(lZ l).Perm l
 | []=>.refl _
 | x::r=>(m6 x _).trans ((fq r).cons x)
set_option tactic.hygienic true in
theorem v5 (x:Int):∀l:List Int,l.Pairwise (·<=·)->(ins x l).Pairwise (·<=·)
 | [],_=>by unfold ins;simp
 | y::r,h=>by
  unfold ins
  rw[List.pairwise_cons] at h
  split
  ·rename_i c
   rw[List.pairwise_cons,List.pairwise_cons]
   refine⟨λz hz=>?_,h.1,h.2⟩
   rcases List.mem_cons.mp hz with rfl | hz
   ·exact c
   ·have:=h.1 z hz;omega
  ·rename_i c
   rw[List.pairwise_cons]
   refine⟨λz hz=>?_,v5 x r h.2⟩
   rcases List.mem_cons.mp ((m6 x r).mem_iff.mp hz) with rfl | hz
   ·omega
   ·exact h.1 z hz
theorem qB:∀l:List Int,(lZ l).Pairwise (·<=·)
 | []=>by unfold lZ;simp
 | x::r=>v5 x _ (qB r)
theorem m7 (l:List Int):(lZ l).length=l.length:=(fq l).length_eq
theorem v7:∀{a b:List Int},a.Perm b->a.Pairwise (·<=·)->b.Pairwise (·<=·)->a=b
 | [],b,p,_,_=>by simpa using p.symm.eq_nil
 | x::a,[],p,_,_=>by simpa using p.eq_nil
 | x::a,y::b,p,ha,hb=>by
  rw[List.pairwise_cons] at ha hb
  have e:x=y:=by
   have h1:y∈x::a:=p.mem_iff.mpr aai
   have h2:x∈y::b:=p.mem_iff.mp aai
   rcases List.mem_cons.mp h1 with h1 | h1
   ·exact h1.symm
   ·rcases List.mem_cons.mp h2 with h2 | h2
    ·exact h2
    ·have:=ha.1 y h1
     have:=hb.1 x h2
     omega
  subst e
  rw[v7 ((List.perm_cons x).mp p) ha.2 hb.2]
theorem ma {a b:List Int} (p:a.Perm b) (o:a.Pairwise (·<=·)):a=lZ b:=v7 (p.trans (fq b).symm) o (qB b)
theorem uR {a:List Int} (o:a.Pairwise (·<=·)):lZ a=a:=(ma (.refl _) o).symm
theorem v8 {a:Int} {l:List Int}:a∈lZ l↔a∈l:=(fq l).mem_iff
theorem E1 {l:List Int} (h:l.Nodup):(lZ l).Pairwise (·<·):=by
 have n:(lZ l).Nodup:=(fq l).nodup_iff.mpr h
 have o:=qB l
 exact(List.pairwise_and_iff.mpr ⟨o,n⟩).imp λ{a b} ⟨x,y⟩=>by omega
end Nm
namespace L2
open PySem PySem.Spec PyProof.Rows PySem.W
section
variable {X : Cx}
theorem uS {us:List Value} {ns:List Int} (h:IntsAre us ns):∃xs,us.toArray=intItems xs/\preSum (numAt xs) xs.size=ns.sum:=by
 obtain⟨xs,hx⟩:=h.allInts.items
 refine⟨xs,hx,?_⟩
 have e1:ns=xs.toList.map (·.1):=by
  rw[<-nums_intItems,<-hx]
  exact h.numsOf.symm
 rw[preSum_eq,aaG (by simp),e1]
theorem uT (hc:X.calm=true):cU X (.builtin "sum") (λxs H Q=>∃p ns,xs=[.ref p]/\aZ X.K H p (List.map V.int ns)/\Q (.int ns.sum) H):=by
 intro pins s σ H xs us Q I r h
 obtain⟨p,ns,rfl,hq,q⟩:=h
 obtain⟨u,rfl,rx⟩:=vals1 r
 cases rx
 obtain⟨aU,rv,pl,hz⟩:=I.list hq
 obtain⟨ys,e1,e2⟩:=uS (intsAre_of rv)
 have hl:=pl.isList
 rw[e1] at hl
 refine sum_intListG (I.ok.hd hc) hl λh' tk t' hk=>⟨.int ns.sum,H,I.kept (t':=tk) hk,⟨t',?_⟩,q⟩
 rw[e2]
theorem qC {us:List Value} {ns:List Int} (h:IntsAre us ns):bu (ns.map V.int) us:=by
 induction h with
 | nil=>exact .nil
 | cons n t _ ih=>exact .cons ⟨t,rfl⟩ ih
noncomputable def gL (kvs:List (Key×V)):List Int:=kvs.map λp=>match p.1 with | .inl i=>i | .inr _=>0
noncomputable def allI (kvs:List (Key×V)):Prop:=∀p∈kvs,∃i,p.1=Sum.inl i
theorem oN (hc:X.calm=true):cU X (.builtin "sorted") (λxs H Q=>∃d kvs,xs=[.ref d]/\Rd H d (.dK kvs)/\allI kvs/\kvs.length<64/\∀l,H l=none->Q (.ref l) (upd H l (.lst (List.map V.int (Nm.lZ (gL kvs)))))):=by
 intro pins s σ H xs us Q I r h
 obtain⟨d,kvs,rfl,hd,xS,hn,q⟩:=h
 obtain⟨u,rfl,rx⟩:=vals1 r
 cases rx
 obtain⟨hz,lo,vs,kv,dd⟩:=pC I.bU hd
 have hlen:kvs.length=vs.length:=Paired.length kv
 obtain⟨ep,GL⟩:=dd.dictAt
 refine Calls.call_function_entry kind_sorted plain_sorted entry_sorted (args_sorted1 _) ?_
 unfold Builtin.«sorted»
 refine wpAny_bind (m:=checkCount "sorted" 1 1 _) (wpAny_pure ?_)
 refine wpAny_bind (kdu_collect (A:=X.A.in1) (kdl_dict (kvs:=vs) (ep:=ep) lo) (I.ok.hd hc) GL (by rw[<-hlen,sizeLine_eq];omega) λh' tk acc hk Cb=>?_)
 have hl:acc.toList.length=vs.length:=by rw[abg];exact Cb.1
 have hI:IntsAre acc.toList (gL kvs):=by
  have all:∀(j:Nat) v,acc.toList[j]?=some v->∃i t,v=Value.int i t/\(gL kvs)[j]?=some i:=λj v e=>by
   obtain⟨k,x,hx,hk⟩:=Cb.2 j v (by rw[<-Array.getElem?_toList];exact e)
   obtain⟨p,e1,e2⟩:∃p,kvs[j]?=some p/\p.1=k:=by
    have:∀{as:List (Key×V)} {bs:List (Key×Value)} (j:Nat) {b},KV as bs->bs[j]?=some b->∃a,as[j]?=some a/\a.1=b.1:=by
     intro as bs j b r
     induction r generalizing j with
     | nil=>intro e;simp at e
     | cons r1 r2 ih=>
      intro e
      cases j with
      | zero=>simp at e;subst e;exact⟨_,rfl,r1.1⟩
      | succ j=>simp at e;obtain⟨a,e1,e2⟩:=ih j e;exact⟨a,by simpa using e1,e2⟩
    obtain⟨a,e1,e2⟩:=this j kv hx
    exact⟨a,e1,e2⟩
   obtain⟨i,hi⟩:=xS p (aaf e1)
   rw[<-e2,hi] at hk
   have hk:mF (.inl i) v=true:=hk
   rcases cf hk with ⟨i',t,e3,e4⟩ | ⟨x',t,e3,_⟩
   ·cases e3
    refine⟨i,t,e4,?_⟩
    unfold gL
    rw[aad,e1]
    simp [hi]
   ·cases e3
  have go:∀(us:List Value) (ns:List Int),us.length=ns.length->(∀(j:Nat) v,us[j]?=some v->∃i t,v=Value.int i t/\ns[j]?=some i)->IntsAre us ns:=by
   intro us
   induction us with
   | nil=>intro ns hl _;cases ns with | nil=>exact .nil | cons _ _=>simp at hl
   | cons u us ih=>
    intro ns hl k
    cases ns with
    | nil=>simp at hl
    | cons n ns=>
     obtain⟨i,t,rfl,e⟩:=k 0 u rfl
     simp at e
     subst e
     exact .cons n t (ih ns (by simpa using hl) λj v e=>by
      obtain⟨i,t,e1,e2⟩:=k (j+1) v (by simpa using e)
      exact⟨i,t,e1,by simpa using e2⟩)
  refine go _ _ ?_ all
  unfold gL
  rw[aab,hl,hlen]
 refine wpAny_bind (wpAny_newList ?_ (by rw[hl,<-hlen,sizeLine_eq];omega))
 have Dr:(h'.push (seqObj "list" acc.toList.toArray 0)).get? h'.objs.size=some (seqObj "list" acc.toList.toArray 0):=Heap.get?_push_size _ rfl
 have I1:Inv X pins σ H {s with heap:=h',toks:=tk}:=I.kept (t':=tk) hk
 refine wpAny_bind (wpAny_holding (wpAny_call_entry slot_list_sort ⟨_,Dr,rfl⟩ entry_list_sort (list_sort_tree Dr hI (by omega) λout ZX a1 a2 a3=>⟨_,rfl,?_⟩) (args_list_sort _)))
 obtain rfl:=Nm.ma a2 a3
 obtain⟨e,he⟩:=sortedHeap_at (out:=out) Dr
 have fr:=I1.bU.fresh (a:=h'.objs.size) (aag _)
 refine wpAny_pure ⟨_,rfl,.ref h'.objs.size,_,I1.laid (t':=tk) (λb o eb=>?_) (aag _) (o:=.lst (List.map V.int (Nm.lZ (gL kvs)))) ⟨?_,out.toList,e,qC a1,?_⟩,rfl,q _ fr⟩
 ·rw[sortedHeap_old (aam (Heap.lt_size eb)) (by rw[Heap.size_push];exact abi (Heap.lt_size eb))]
  exact Heap.get?_push_of_some _ eb
 ·rw[aab,Nm.m7,sizeLine_eq]
  unfold gL
  rw[aab]
  omega
 ·exact he
end
section
variable {X : Cx} {pins : List (Addr × Obj)} {σ : St} {H : Hp} {s : Shared}
end
noncomputable def VY (d:Addr) (o:Obj) (kvs:List (Key×V)):It:=
 ⟨λi H=>H d=some (.uk o (.dK kvs))/\i<kvs.length,λi H x H'=>H'=H/\∃p,kvs[i]?=some p/\x=kV p.1,λi H=>H d=some (.uk o (.dK kvs))/\i=kvs.length⟩
section
variable {X : Cx} {x : Str} {VZ : Pos}
noncomputable def iDict (tl:TE):TI:=λσ H R=>tl σ H λv H1=>∃d kvs,v=.ref d/\H1 d=some (.dK kvs)/\∀o,R (VY d o kvs) (upd H1 d (.uk o (.dK kvs)))
end
end L2
namespace L2
open PySem PySem.Spec PyProof.Rows PySem.W
section
variable {X : Cx} {K : PySem.W.Frag}
theorem bj {tg l:Expr} {tl:TE} (hl:PE X l tl) (hK:X.K=K:=by rfl):PI X tg l (iList K tl):=by subst hK;exact BF hl
theorem js {elts:List Expr} {kk:Nat} {kQ:Pos} {a b:Expr} {ta:TA} {p pos:Pos} (hg:Gl X "zip") (hm:X.mg "zip"=none) (ha:PA X [a,b] ta) (n1:noStar a=true:=by rfl) (n2:noStar b=true:=by rfl) (hK:X.K=K:=by rfl):
  PI X (.Tuple elts kk kQ) (.Call (.Name "zip" p) [a,b] [] pos) (iZip K ta):=by subst hK;exact EX hg hm ha (by rw[se n1,se n2];rfl) (by rw[se n2];rfl)
theorem cO {elts:List Expr} {kk:Nat} {kQ:Pos} {a:Expr} {ta:TA} {p pos:Pos} (hg:Gl X "enumerate") (hm:X.mg "enumerate"=none) (ha:PA X [a] ta) (n1:noStar a=true:=by rfl) (hK:X.K=K:=by rfl):
  PI X (.Tuple elts kk kQ) (.Call (.Name "enumerate" p) [a] [] pos) (iEnum K ta):=by subst hK;exact qA hg hm ha (by rw[se n1];rfl)
theorem b9 {es:List Expr} {k:Nat} {t:Ds} {n:Nat} {pos:Pos} (hc:X.calm=true) (h:GJ X es t) (hn:(assignEach es X.env).length=n:=by rfl) (hst:(assignEach es X.env).findIdx? (·.1)=none:=by rfl) (hK:X.K=K:=by rfl):PG X (.Tuple es k pos) (yH K n t):=by
 subst hK;exact Ep hc h hn hst
theorem pH (hK:X.K=K:=by rfl):Dz X (EK K):=by subst hK;exact yY
theorem iP (hK:X.K=K:=by rfl):cU X (.builtin "len") (λxs H Q=>∃p ns,xs=[.ref p]/\aZ K H p (List.map V.int ns)/\Q (.int (List.length ns:Nat)) H):=by subst hK;exact xU
theorem cP (hK:X.K=K:=by rfl):cU X (.type "list") (λxs H Q=>∃p ys,xs=[.ref p]/\(aZ K H p ys\/d6 K H p ys)/\∀l,H l=none->Q (.ref l) (upd H l (.lst ys))):=by subst hK;exact qu
theorem kC (hc:X.calm=true:=by rfl) (hK:X.K=K:=by rfl):cU X (.builtin "sum") (λxs H Q=>∃p ns,xs=[.ref p]/\aZ K H p (List.map V.int ns)/\Q (.int ns.sum) H):=by subst hK;exact uT hc
theorem m8 (hc:X.calm=true:=by rfl):cU X (.builtin "sorted") (λxs H Q=>∃d kvs,xs=[.ref d]/\Rd H d (.dK kvs)/\allI kvs/\kvs.length<64/\∀l,H l=none->Q (.ref l) (upd H l (.lst (List.map V.int (Nm.lZ (gL kvs)))))):=oN hc
theorem sN (hK:X.K=K:=by rfl):Hv X (rSlL K):=by subst hK;exact BQ
theorem Hy.r {id:String} {r:V->List V->Hp->VK->Prop} (h:Hy X id r):GK X id r:=h
end
end L2
namespace Nm
abbrev Ws:=List (Int×Int)
noncomputable def keys (ws:Ws):List Int:=ws.map (·.1)
noncomputable def look:Ws->Int->Int
 | [],_=>0
 | p::r,k=>if p.1=k then p.2 else look r k
noncomputable def put:Ws->Int->Int->Ws
 | [],k,v=>[(k,v)]
 | p::r,k,v=>if p.1=k then (k,v)::r else p::put r k v
noncomputable def LZ (ws:Ws):Int:=(ws.map (·.2)).sum
structure Over (as ws:Ws) (B T:Int):Prop where
 nd:(keys ws).Nodup
 perm:(keys as).Perm (keys ws)
 val:∀k∈keys ws,look as k*T=look ws k*B
end Nm
namespace L2
open PySem PySem.Spec PyProof.Rows
noncomputable def Cf (r:Int×Int×Int):Dat:=.tup [.int r.1,.tup [.int r.2.1,.int r.2.2]]
noncomputable def DI (rows:List (Int×Int×Int)):Dat:=.lst (rows.map Cf)
noncomputable def bB (p:Int×Int):Dat:=.tup [.int p.1,.int p.2]
theorem bV {H:Hp} {r:Int×Int} {v:V}:Rep H (bB r) v↔∃p,v=.ref p/\H p=some (.tup [.int r.1,.int r.2]):=by
 unfold bB
 simp only[Rep,aY]
 constructor
 ·rintro⟨p,vs,rfl,hp,a,b,rfl,rfl,c,d,rfl,rfl,rfl⟩
  exact⟨p,rfl,hp⟩
 ·rintro⟨p,rfl,hp⟩
  exact⟨p,_,rfl,hp,_,_,rfl,rfl,_,_,rfl,rfl,rfl⟩
theorem aO {H:Hp} {ds:List Dat} {v:V}:Rep H (.lst ds) v↔∃p vs,v=.ref p/\H p=some (.lst vs)/\aY H ds vs:=by rw[Rep]
theorem iQ (rows:List (Int×Int×Int)):depth (DI rows)<=40:=by
 have h:∀rows:List (Int×Int×Int),depth.dL (rows.map Cf)<=2:=by
  intro rows
  induction rows with
  | nil=>simp [depth.dL]
  | cons r rs ih=>
   rw[aas,depth.dL]
   have:depth (Cf r)=2:=by simp [Cf,depth,depth.dL]
   omega
 have:=h rows
 unfold DI
 rw[depth]
 omega
noncomputable def TN (H H':Hp):Prop:=∀p xs,(H p=some (.tup xs)->H' p=some (.tup xs))/\(H p=some (.lst xs)->H' p=some (.lst xs))
mutual
theorem Rep.HY {H H':Hp} (s:TN H H'):∀{d:Dat} {v:V},Rep H d v->Rep H' d v
 | .cB,_,h=>by rw[Rep] at *;exact h
 | .bl _,_,h=>by rw[Rep] at *;exact h
 | .int _,_,h=>by rw[Rep] at *;exact h
 | .str _,_,h=>by rw[Rep] at *;exact h
 | .tup _,_,h=>by
  rw[Rep] at *
  obtain⟨p,vs,e,hp,r⟩:=h
  exact⟨p,vs,e,(s _ _).1 hp,aY.HY s r⟩
 | .lst _,_,h=>by
  rw[Rep] at *
  obtain⟨p,vs,e,hp,r⟩:=h
  exact⟨p,vs,e,(s _ _).2 hp,aY.HY s r⟩
theorem aY.HY {H H':Hp} (s:TN H H'):∀{ds:List Dat} {vs:List V},aY H ds vs->aY H' ds vs
 | [],_,h=>by rw[aY] at *;exact h
 | _::_,_,h=>by
  rw[aY] at *
  obtain⟨v,r,e,h1,h2⟩:=h
  exact⟨v,r,e,Rep.HY s h1,aY.HY s h2⟩
end
theorem none_of {H H':Hp} (s:az H H') {p:Addr} (h:H' p=none):H p=none:=by
 cases e:H p with
 | none=>rfl
 | some o=>rw[s p o e] at h;cases h
end L2
namespace Nm
end Nm
namespace L2
open PySem PySem.Spec PyProof.Rows
theorem dF {α:Type} {J:It} {tc:TT} {te:TE} {tl:St} {H1:Hp} {fin:List V->Hp->Prop} {Item:Nat->V->Hp->Hp->Prop} (as:List α) (f:α->Option Int) (S:Src J (az H1) as.length Item) (sub:∀i x H H3,Item i x H H3->H3=H) (hz:as.length<=sizeLine)
  (hs:∀i a x,as[i]?=some a->Item i x H1 H1->∀(Y:VK) (N:Hp->Prop),(∀z,f a=some z->Y (.int z) H1)->(f a=none->N H1)->tc (some x::tl) H1 λb H5=>if b=true then te (some x::tl) H5 Y else N H5)
  (jX:fin (List.map V.int (as.filterMap f)) H1):eX J (gName 0) tc te (none::tl) H1 fin:=by
 refine gZ S (λσ=>∃w0,σ=w0::tl) ⟨_,rfl⟩ (λi ys H=>H=H1/\ys=List.map V.int ((as.take i).filterMap f)) ⟨rfl,by simp⟩ hz ?_ ?_
 ·rintro i x σ H ys H3 Q N hi sm ⟨rfl,rfl⟩ hl ⟨w0,rfl⟩ it kq kn
  obtain rfl:=sub _ _ _ _ it
  have ea:as[i]?=some as[i]:=aac hi
  refine hs i _ x ea it _ _ (λz e=>kq _ _ _ ⟨_,rfl⟩ sm ⟨rfl,?_⟩) (λe=>kn _ _ ⟨_,rfl⟩ sm ⟨rfl,?_⟩)
  ·rw[aaC,ea,abj,aau]
   simp [e]
  ·rw[aaC,ea,abj,aau]
   simp [e]
 ·rintro ys H sm ⟨rfl,rfl⟩ hl
  rw[aaG (aag _)]
  exact jX
theorem iR {K:PySem.W.Frag} {α:Type} {J:It} {tc:TT} {te:TE} {tl:St} {H1:Hp} {fin:List V->Hp->Prop} {Item:Nat->V->Hp->Hp->Prop} (as:List α) (f:α->Option Int) (S:Src J (az H1) as.length Item) (sub:∀i x H H3,Item i x H H3->H3=H) (hz:as.length<=sizeLine)
  (hs:∀i a x,as[i]?=some a->Item i x H1 H1->∃p u v,x=.ref p/\d6 K H1 p [u,v]/\∀(Y:VK) (N:Hp->Prop),(∀z,f a=some z->Y (.int z) H1)->(f a=none->N H1)->tc (some u::some v::tl) H1 λb H5=>if b=true then te (some u::some v::tl) H5 Y else N H5)
  (jX:fin (List.map V.int (as.filterMap f)) H1):eX J (yH K 2 (gCons (gName 0) (gCons (gName 1) gNil))) tc te (none::none::tl) H1 fin:=by
 refine gZ S (λσ=>∃w0 w1,σ=w0::w1::tl) ⟨_,_,rfl⟩ (λi ys H=>H=H1/\ys=List.map V.int ((as.take i).filterMap f)) ⟨rfl,by simp⟩ hz ?_ ?_
 ·rintro i x σ H ys H3 Q N hi sm ⟨rfl,rfl⟩ hl ⟨w0,w1,rfl⟩ it kq kn
  obtain rfl:=sub _ _ _ _ it
  have ea:as[i]?=some as[i]:=aac hi
  obtain⟨p,u,v,rfl,sq,k⟩:=hs i _ x ea it
  refine⟨p,_,rfl,sq,rfl,_,_,rfl,_,_,rfl,rfl,?_⟩
  refine k _ _ (λz e=>kq _ _ _ ⟨_,_,rfl⟩ sm ⟨rfl,?_⟩) (λe=>kn _ _ ⟨_,_,rfl⟩ sm ⟨rfl,?_⟩)
  ·rw[aaC,ea,abj,aau]
   simp [e]
  ·rw[aaC,ea,abj,aau]
   simp [e]
 ·rintro ys H sm ⟨rfl,rfl⟩ hl
  rw[aaG (aag _)]
  exact jX
theorem d8 {α β:Type} (f:α->β) (l:List α):l.filterMap (λa=>some (f a))=l.map f:=by
 rw[<-List.filterMap_eq_map];rfl
end L2
namespace L2
open PySem PySem.Spec PyProof.Rows PySem.W
section
variable {X : Cx} {K : PySem.W.Frag}
theorem m9:∀{us:List Value} {bs:List Bool},bu (bs.map V.bl) us->LSm.BoolsAre us bs
 | _,[],.nil=>.nil
 | _,b::bs,.cons r t=>by
  have e:_=Value.bool b:=r
  subst e
  exact .cons b (m9 t)
theorem uU (hc:X.calm=true):cU X (.builtin "all") (λxs H Q=>∃p bs,xs=[.ref p]/\aZ X.K H p (List.map V.bl bs)/\Q (.bl (bs.all id)) H):=by
 intro pins s σ H xs us Q I r h
 obtain⟨p,bs,rfl,hq,q⟩:=h
 obtain⟨u,rfl,rx⟩:=vals1 r
 cases rx
 obtain⟨aU,rv,pl,hz⟩:=I.list hq
 have hb:=m9 rv
 have hl:=pl.isList
 have fQ:p<s.heap.objs.size:=by obtain⟨_,e,_⟩:=hl;exact Heap.lt_size e
 refine call_all_walk (wpAny_pyIter_list hl ?_)
 refine⟨s.heap.objs.size,[s.heap.objs.size,p],[s.heap.objs.size],aU.toArray.size,_,_,λi=>(bs[i]?).getD true,rfl,Walks.list (A:=X.A.in1) (I.ok.hd hc) _ p (aam fQ) aU.toArray,
  ⟨⟨_,Heap.get?_push_size _ rfl,rfl,rfl⟩,hl.push _⟩,λi v s' Q' E' hP hQ=>?_,λh' tk hk=>?_⟩
 ·obtain⟨b,e,rfl⟩:=hb.get i v (by simpa using hP)
  simp only[e,Option.getD_some] at hQ
  exact wpAny_truthy_bool hQ
 ·have e:((List.range aU.toArray.size).all λi=>(bs[i]?).getD true)=bs.all id:=by
   rw[aak,hb.length];exact LSm.range_all bs
  rw[e]
  exact⟨.bl _,H,I.kept (t':=tk) (LSm.kept_iter hk),rfl,q⟩
theorem uV (hc:X.calm=true):cU X (.builtin "any") (λxs H Q=>∃p bs,xs=[.ref p]/\aZ X.K H p (List.map V.bl bs)/\Q (.bl (bs.any id)) H):=by
 intro pins s σ H xs us Q I r h
 obtain⟨p,bs,rfl,hq,q⟩:=h
 obtain⟨u,rfl,rx⟩:=vals1 r
 cases rx
 obtain⟨aU,rv,pl,hz⟩:=I.list hq
 have hb:=m9 rv
 have hl:=pl.isList
 have fQ:p<s.heap.objs.size:=by obtain⟨_,e,_⟩:=hl;exact Heap.lt_size e
 refine call_any_walk (wpAny_pyIter_list hl ?_)
 refine⟨s.heap.objs.size,[s.heap.objs.size,p],[s.heap.objs.size],aU.toArray.size,_,_,λi=>(bs[i]?).getD false,rfl,Walks.list (A:=X.A.in1) (I.ok.hd hc) _ p (aam fQ) aU.toArray,
  ⟨⟨_,Heap.get?_push_size _ rfl,rfl,rfl⟩,hl.push _⟩,λi v s' Q' E' hP hQ=>?_,λh' tk hk=>?_⟩
 ·obtain⟨b,e,rfl⟩:=hb.get i v (by simpa using hP)
  simp only[e,Option.getD_some] at hQ
  exact wpAny_truthy_bool hQ
 ·have e:((List.range aU.toArray.size).any λi=>(bs[i]?).getD false)=bs.any id:=by
   rw[aak,hb.length];exact LSm.range_any bs
  rw[e]
  exact⟨.bl _,H,I.kept (t':=tk) (LSm.kept_iter hk),rfl,q⟩
theorem sO (hc:X.calm=true:=by rfl) (hK:X.K=K:=by rfl):cU X (.builtin "all") (λxs H Q=>∃p bs,xs=[.ref p]/\aZ K H p (List.map V.bl bs)/\Q (.bl (bs.all id)) H):=by subst hK;exact uU hc
theorem sP (hc:X.calm=true:=by rfl) (hK:X.K=K:=by rfl):cU X (.builtin "any") (λxs H Q=>∃p bs,xs=[.ref p]/\aZ K H p (List.map V.bl bs)/\Q (.bl (bs.any id)) H):=by subst hK;exact uV hc
noncomputable def tSumV (to:TE):TE:=λσ H Q=>to σ H λv H1=>∃d kvs ns,v=.ref d/\H1 d=some (.dK kvs)/\kvs.map (·.2)=List.map V.int ns/\Q (.int ns.sum) H1
theorem pI {α:Type} {J:It} {tc:TT} {te:TE} {tl:St} {H1:Hp} {fin:List V->Hp->Prop} {Item:Nat->V->Hp->Hp->Prop} (as:List α) (f:α->Option V) (S:Src J (az H1) as.length Item) (sub:∀i x H H3,Item i x H H3->H3=H) (hz:as.length<=sizeLine)
  (hs:∀i a x,as[i]?=some a->Item i x H1 H1->∀(Y:VK) (N:Hp->Prop),(∀z,f a=some z->Y z H1)->(f a=none->N H1)->tc (some x::tl) H1 λb H5=>if b=true then te (some x::tl) H5 Y else N H5)
  (jX:fin (as.filterMap f) H1):eX J (gName 0) tc te (none::tl) H1 fin:=by
 refine gZ S (λσ=>∃w0,σ=w0::tl) ⟨_,rfl⟩ (λi ys H=>H=H1/\ys=(as.take i).filterMap f) ⟨rfl,by simp⟩ hz ?_ ?_
 ·rintro i x σ H ys H3 Q N hi sm ⟨rfl,rfl⟩ hl ⟨w0,rfl⟩ it kq kn
  obtain rfl:=sub _ _ _ _ it
  have ea:as[i]?=some as[i]:=aac hi
  refine hs i _ x ea it _ _ (λz e=>kq _ _ _ ⟨_,rfl⟩ sm ⟨rfl,?_⟩) (λe=>kn _ _ ⟨_,rfl⟩ sm ⟨rfl,?_⟩)
  ·rw[aaC,ea,abj]
   simp [e]
  ·rw[aaC,ea,abj]
   simp [e]
 ·rintro ys H sm ⟨rfl,rfl⟩ hl
  rw[aaG (aag _)]
  exact jX
theorem aR {a b:TS} {D:Ends} {σ:St} {H:Hp} (C:St->Hp->Prop) (hb:∀σ' H',C σ' H'->b D σ' H') (ha:∀N:St->Hp->Prop,(∀σ' H',C σ' H'->N σ' H')->a {D with nx:=N} σ H):tSeq a b D σ H:=ha _ hb
end
end L2
namespace Nm
noncomputable def pos (ps:Ws):Ws:=ps.filter λp=>decide (0<p.2)
end Nm
namespace L2
open PySem PySem.Spec PyProof.Rows PySem.W
section
variable {X : Cx} {K : PySem.W.Frag}
noncomputable def rJoin (K:PySem.W.Frag):V->List V->Hp->VK->Prop:=λx xs H Q=>∃sep p ts,x=.str sep/\xs=[.ref p]/\aZ K H p (List.map V.str ts)/\JoinOk sep ts=true/\Q (.str (Txt.join sep ts)) H
theorem uW:cU X (.type "int") (λxs H Q=>∃k,xs=[.bl k]/\Q (.int (if k then 1 else 0)) H):=by
 intro pins s σ H xs us Q I r h
 exact xH pins s σ H xs us Q I r (.inr h)
abbrev TJ:=Str->TE
noncomputable def jNil:TJ:=λacc _ H Q=>Q (.str acc) H
noncomputable def jLit (x:Str) (t:TJ):TJ:=λacc σ H Q=>(acc++x).length<=sizeLine/\t (acc++x) σ H Q
noncomputable def jInt (te:TE) (t:TJ):TJ:=λacc σ H Q=>te σ H λv H1=>∃i,v=.int i/\i.natAbs.log2<1920/\(acc++toString i).length<=sizeLine/\t (acc++toString i) σ H1 Q
noncomputable def jStr (te:TE) (t:TJ):TJ:=λacc σ H Q=>te σ H λv H1=>∃z,v=.str z/\z.length<=sizeLine/\(acc++z).length<=sizeLine/\t (acc++z) σ H1 Q
noncomputable def tJoined (t:TJ):TE:=λσ H Q=>t Str.empty σ H Q
end
end L2
namespace L2
open PySem PySem.Spec PyProof.Rows PySem.W
inductive Pl where
 | fin (w:Int×Int) | cL (w:Int×Int) (ws:List (Int×Int)) | bJ (who:Int) (to:List Int)
noncomputable def iS:Pl->Dat
 | .fin w=>.tup [.str (Str.ofString "end"),bB w]
 | .cL w ws=>.tup [.str (Str.ofString "throw"),bB w,.lst (ws.map bB)]
 | .bJ who to=>.tup [.str (Str.ofString "pick"),.int who,.lst (to.map .int)]
noncomputable def pJ (b:List Pl):Dat:=.lst (b.map iS)
theorem g5 {H:Hp}:∀{ns:List Int} {vs:List V},aY H (ns.map Dat.int) vs↔vs=ns.map V.int
 | [],vs=>by simp only[aaK,aY]
 | n::ns,vs=>by
  simp only[aas,aY,Rep]
  constructor
  ·rintro⟨v,r,rfl,rfl,h⟩
   rw[g5.mp h]
  ·rintro rfl
   exact⟨_,_,rfl,rfl,g5.mpr rfl⟩
theorem cM {H:Hp} {w:Int×Int} {v:V}:Rep H (iS (.fin w)) v↔∃p q,v=.ref p/\H p=some (.tup [.str (Str.ofString "end"),.ref q])/\H q=some (.tup [.int w.1,.int w.2]):=by
 show Rep H (.tup [.str (Str.ofString "end"),bB w]) v↔_
 rw[Rep]
 simp only[aY,bV]
 constructor
 ·rintro⟨p,vs,rfl,hp,_,_,rfl,e,_,_,rfl,⟨q,rfl,hq⟩,rfl⟩
  rw[Rep] at e
  subst e
  exact⟨p,q,rfl,hp,hq⟩
 ·rintro⟨p,q,rfl,hp,hq⟩
  exact⟨p,_,rfl,hp,_,_,rfl,by rw[Rep],_,_,rfl,⟨q,rfl,hq⟩,rfl⟩
theorem cm {H:Hp} {w:Int×Int} {ws:List (Int×Int)} {v:V}:Rep H (iS (.cL w ws)) v↔∃p q l xs,v=.ref p/\H p=some (.tup [.str (Str.ofString "throw"),.ref q,.ref l])/\H q=some (.tup [.int w.1,.int w.2])/\H l=some (.lst xs)/\aY H (ws.map bB) xs:=by
 show Rep H (.tup [.str (Str.ofString "throw"),bB w,.lst (ws.map bB)]) v↔_
 rw[Rep]
 simp only[aY,bV]
 constructor
 ·rintro⟨p,vs,rfl,hp,_,_,rfl,e,_,_,rfl,⟨q,rfl,hq⟩,_,_,rfl,k,rfl⟩
  rw[Rep] at e
  subst e
  obtain⟨l,xs,rfl,hl,r⟩:=aO.mp k
  exact⟨p,q,l,xs,rfl,hp,hq,hl,r⟩
 ·rintro⟨p,q,l,xs,rfl,hp,hq,hl,r⟩
  exact⟨p,_,rfl,hp,_,_,rfl,by rw[Rep],_,_,rfl,⟨q,rfl,hq⟩,_,_,rfl,aO.mpr ⟨l,xs,rfl,hl,r⟩,rfl⟩
theorem cC {H:Hp} {who:Int} {to:List Int} {v:V}:Rep H (iS (.bJ who to)) v↔∃p l,v=.ref p/\H p=some (.tup [.str (Str.ofString "pick"),.int who,.ref l])/\H l=some (.lst (to.map V.int)):=by
 show Rep H (.tup [.str (Str.ofString "pick"),.int who,.lst (to.map .int)]) v↔_
 rw[Rep]
 simp only[aY]
 constructor
 ·rintro⟨p,vs,rfl,hp,_,_,rfl,e,_,_,rfl,e2,_,_,rfl,k,rfl⟩
  rw[Rep] at e
  rw[Rep] at e2
  subst e e2
  obtain⟨l,xs,rfl,hl,r⟩:=aO.mp k
  rw[g5] at r
  subst r
  exact⟨p,l,rfl,hp,hl⟩
 ·rintro⟨p,l,rfl,hp,hl⟩
  exact⟨p,_,rfl,hp,_,_,rfl,by rw[Rep],_,_,rfl,by rw[Rep],_,_,rfl,aO.mpr ⟨l,_,rfl,hl,g5.mpr rfl⟩,rfl⟩
theorem E2 {H:Hp} {q:Pl} {v:V} (h:Rep H (iS q) v):∃p k r,v=.ref p/\H p=some (.tup (.str k::r)):=by
 cases q with
 | fin w=>obtain⟨p,q,rfl,hp,_⟩:=cM.mp h;exact⟨p,_,_,rfl,hp⟩
 | cL w ws=>obtain⟨p,q,l,xs,rfl,hp,_⟩:=cm.mp h;exact⟨p,_,_,rfl,hp⟩
 | bJ who to=>obtain⟨p,l,rfl,hp,_⟩:=cC.mp h;exact⟨p,_,_,rfl,hp⟩
theorem nh {ds:List Dat} {n:Nat} (h:∀d∈ds,depth d<=n):depth.dL ds<=n:=by
 induction ds with
 | nil=>rw[depth.dL];omega
 | cons d ds ih=>
  rw[depth.dL]
  have:=h d aai
  have:=ih λe he=>h e (aaj _ he)
  omega
theorem uX (p:Int×Int):depth (bB p)=1:=by simp [bB,depth,depth.dL]
theorem cY {H:Hp} {b:List Pl} {xs:List V} {i:Nat} {x:V} (h:aY H (b.map iS) xs) (e:xs[i]?=some x):∃q,b[i]?=some q/\Rep H (iS q) x:=by
 obtain⟨d,ed,rd⟩:=h.get e
 rw[aad] at ed
 obtain⟨q,eq,rfl⟩:=Option.map_eq_some_iff.mp ed
 exact⟨q,eq,rd⟩
theorem ft {H:Hp} {b:List Pl} {xs:List V} {i:Nat} {q:Pl} (h:aY H (b.map iS) xs) (e:b[i]?=some q):∃x,xs[i]?=some x/\Rep H (iS q) x:=
 h.at (by rw[aad,e];rfl)
theorem cZ {α:Type} {H:Hp} {f:α->Dat} {as:List α} {ys:List V} (hl:ys.length=as.length) (h:∀(i:Nat) y,ys[i]?=some y->∀a,as[i]?=some a->Rep H (f a) y):aY H (as.map f) ys:=
 aY.of (by rw[aab,hl]) λi d v e1 e2=>by
  rw[aad] at e1
  obtain⟨a,ea,rfl⟩:=Option.map_eq_some_iff.mp e1
  exact h i v e2 a ea
noncomputable def cE (H:Hp) (p:Addr):Hp:=λa=>if a=p then none else H a
theorem bz {H:Hp} {p a:Addr} (h:a≠p):cE H p a=H a:=if_neg h
theorem qD {H:Hp} {p:Addr} {o:HO}:az (cE H p) (upd H p o):=λa u e=>by
 unfold cE at e
 by_cases h:a=p
 ·rw[if_pos h] at e;cases e
 ·rw[if_neg h] at e;rw[aG h];exact e
theorem bO {H:Hp} {p:Addr}:az (cE H p) H:=λa u e=>by
 unfold cE at e
 by_cases h:a=p
 ·rw[if_pos h] at e;cases e
 ·rw[if_neg h] at e;exact e
theorem c7 {H0 H:Hp} {p:Addr} (s:az H0 H) (n:H0 p=none):az H0 (cE H p):=λa u e=>by
 rw[bz (λz=>by rw[z,n] at e;cases e)]
 exact s _ _ e
theorem bF {H H':Hp} {p:Addr} (s:az H H'):az (cE H p) (cE H' p):=λa u e=>by
 unfold cE at *
 by_cases h:a=p
 ·rw[if_pos h] at e;cases e
 ·rw[if_neg h] at e ⊢;exact s _ _ e
theorem aX {H0 H:Hp} {p:Addr} {o:HO} (s:az H0 H) (n:H0 p=none):az H0 (upd H p o):=(c7 s n).trans qD
theorem jt {H:Hp} {p:Addr} {ds:List Dat} {xs:List V} {d:Dat} {v:V} (h:aY (cE H p) ds xs) (k:Rep (cE H p) d v):aY (cE (upd H p (.lst (xs++ [v]))) p) (ds++ [d]) (xs++ [v]):=by
 have s:az (cE H p) (cE (upd H p (.lst (xs++ [v]))) p):=c7 qD (if_pos rfl)
 refine(h.mono s).append ?_
 rw[aY]
 exact⟨v,[],rfl,k.mono s,by rw[aY]⟩
theorem ni {α β:Type} {f:α->β} {as:List α} {i:Nat} {a:α} (h:as[i]?=some a):fH (as.map f) (i:Int)=some (f a):=bL (by rw[aad,h];rfl)
theorem sQ {c:TT} {tb:TS} {D:Ends} {σ:St} {H:Hp} (W:Nat->St->Hp->Prop) {m:Nat} (h0:W m σ H)
  (hs:∀m σ H,W m σ H->c σ H λb H1=>if b=true then tb {D with nx:=λσ' H'=>∃m',m'<m/\W m' σ' H',ct:=λσ' H'=>∃m',m'<m/\W m' σ' H',bk:=D.nx} σ H1 else D.nx σ H1)
  (mono:∀σ H Q Q',(∀b H1,Q b H1->Q' b H1)->c σ H Q->c σ H Q'):qh c tb D σ H:=by
 refine⟨W,⟨m,h0⟩,λm σ H w=>mono σ H _ _ (λb H1 q=>?_) (hs m σ H w)⟩
 cases b with
 | true=>exact⟨_,λ_ _ h=>h,q⟩
 | false=>exact q
theorem pK {K:PySem.W.Frag} {α:Type} {J:It} {tc:TT} {te:TE} {tl:St} {H1:Hp} {fin:List V->Hp->Prop} {Item:Nat->V->Hp->Hp->Prop} (as:List α) (f:α->Option V) (S:Src J (az H1) as.length Item) (HQ:Nat->V->V->Hp->Prop)
  (tp:∀i x H H3,i<as.length->az H1 H->Item i x H H3->az H H3/\∃p a b,x=.ref p/\d6 K H3 p [a,b]/\HQ i a b H3) (hz:as.length<=sizeLine)
  (hs:∀i a u v H3,as[i]?=some a->az H1 H3->HQ i u v H3->∀(Y:VK) (N:Hp->Prop),(∀z H6,f a=some z->az H3 H6->Y z H6)->(∀H6,f a=none->az H3 H6->N H6)->tc (some u::some v::tl) H3 λb H5=>if b=true then te (some u::some v::tl) H5 Y else N H5)
  (jX:∀H2,az H1 H2->fin (as.filterMap f) H2):eX J (yH K 2 (gCons (gName 0) (gCons (gName 1) gNil))) tc te (none::none::tl) H1 fin:=by
 refine gZ S (λσ=>∃w0 w1,σ=w0::w1::tl) ⟨_,_,rfl⟩ (λi ys _=>ys=(as.take i).filterMap f) (by simp) hz ?_ ?_
 ·rintro i x σ H ys H3 Q N hi sm rfl hl ⟨w0,w1,rfl⟩ it kq kn
  obtain⟨s3,p,u,v,rfl,sq,i2⟩:=tp i x H H3 hi sm it
  have ea:as[i]?=some as[i]:=aac hi
  refine⟨p,_,rfl,sq,rfl,_,_,rfl,_,_,rfl,rfl,?_⟩
  refine hs i _ u v H3 ea (sm.trans s3) i2 _ _ (λz H6 e s6=>kq _ _ _ ⟨_,_,rfl⟩ (sm.trans (s3.trans s6)) ?_) (λH6 e s6=>kn _ _ ⟨_,_,rfl⟩ (sm.trans (s3.trans s6)) ?_)
  ·rw[aaC,ea,abj]
   simp [e]
  ·rw[aaC,ea,abj]
   simp [e]
 ·rintro ys H sm rfl hl
  rw[aaG (aag _)]
  exact jX H sm
theorem dG {α:Type} (f:α->V) (p:α->Bool):∀l:List α,l.filterMap (λi=>if p i=true then some (f i) else none)=(l.filter p).map f
 | []=>rfl
 | x::l=>by
  rw[List.filterMap_cons,List.filter_cons]
  by_cases c:p x=true
  ·simp only[c,if_true,aas,dG f p l]
  ·simp only[c,if_false,dG f p l]
   rfl
section
variable {X : Cx} {K : PySem.W.Frag}
theorem uY (hc:X.calm=true):cU X (.builtin "max") (λxs H Q=>∃p ns,xs=[.ref p]/\aZ X.K H p (List.map V.int ns)/\0<ns.length/\∀M,M∈ns->(∀a∈ns,a<=M)->Q (.int M) H):=by
 intro pins s σ H xs us Q I r h
 obtain⟨p,ns,rfl,hq,L3,q⟩:=h
 obtain⟨u,rfl,rx⟩:=vals1 r
 cases rx
 obtain⟨aU,rv,pl,hz⟩:=I.list hq
 have hi:=intsAre_of rv
 have hl:=pl.isList
 obtain⟨xs,e⟩:=hi.allInts.items
 have DJ:ns=xs.toList.map (·.1):=by rw[<-hi.numsOf,<-nums_intItems,<-e]
 have hsz:0<xs.size:=by
  have h3:=L3;rw[DJ,aab,abg] at h3;exact h3
 rw[e] at hl
 refine max_intList (I.ok.hd hc) hl hsz λv h' tk hv hk=>?_
 obtain⟨t,rfl⟩:=intItems_at hv
 obtain⟨h1,h2⟩:=argBest_gt (numAt xs) (xs.size - 1)
 refine⟨.int _,H,I.kept (t':=tk) hk,⟨t,rfl⟩,q _ ?_ λa ha=>?_⟩
 ·rw[DJ,numAt_eq];exact getD_mem (by rw[aab,abg];omega)
 ·rw[DJ] at ha
  obtain⟨j,hj,rfl⟩:=mem_getD ha
  rw[aab,abg] at hj
  rw[<-numAt_eq];exact h2 j (by omega)
theorem zi (hK:X.K=K:=by rfl):jO X (binaryOp .Add) (Dy K):=by subst hK;exact BO
theorem sR (hc:X.calm=true:=by rfl) (hK:X.K=K:=by rfl):cU X (.builtin "max") (λxs H Q=>∃p ns,xs=[.ref p]/\aZ K H p (List.map V.int ns)/\0<ns.length/\∀M,M∈ns->(∀a∈ns,a<=M)->Q (.int M) H):=by subst hK;exact uY hc
end
end L2
namespace Lv
open L2
abbrev Fs:=List (Option Int)
noncomputable def fI:Pl->List Int
 | .fin _=>[]
 | .cL _ ws=>ws.map (·.2)
 | .bJ _ to=>to
noncomputable def lk (fs:Fs) (g:Int):Option Int:=fs.getD g.toNat none
noncomputable def DK (fs:Fs) (q:Pl):Bool:=
 match q with
 | .cL _ ws=>(ws.map (·.2)).any λg=>(lk fs g).isSome
 | .fin _=>true
 | .bJ _ to=>to.all λg=>(lk fs g).isSome
noncomputable def fZ (b:List Pl) (fs:Fs) (i:Nat):Bool:=(fs.getD i none).isNone && (match b[i]? with | some q=>DK fs q | none=>false)
noncomputable def fresh (b:List Pl) (fs:Fs):List Nat:=(List.range b.length).filter (fZ b fs)
noncomputable def cN (fs:Fs) (is:List Nat) (L:Int):Fs:=is.foldl (λacc i=>acc.set i (some L)) fs
noncomputable def run (b:List Pl):Nat->Fs->Int->Fs
 | 0,fs,_=>fs
 | m+1,fs,L=>if fresh b fs=[] then fs else run b m (cN fs (fresh b fs) L) (L+1)
noncomputable def HZ:Pl->Option Int
 | .fin _=>some 0
 | _=>none
noncomputable def oG (b:List Pl):Fs:=b.map HZ
noncomputable def sS (b:List Pl):Fs:=run b b.length (oG b) 1
noncomputable def d3 (fs:Fs):Nat:=fs.countP (·.isNone)
theorem md (fs:Fs):∀(is:List Nat) (L:Int),(cN fs is L).length=fs.length
 | is,L=>by
  induction is generalizing fs with
  | nil=>rfl
  | cons i is ih=>
   show(cN (fs.set i (some L)) is L).length=_
   rw[ih,aaX]
theorem v9 (L:Int):∀(is:List Nat) (fs:Fs) (k:Nat),(cN fs is L)[k]?=if k∈is/\k<fs.length then some (some L) else fs[k]?
 | [],fs,k=>by simp [cN]
 | i::is,fs,k=>by
  show(cN (fs.set i (some L)) is L)[k]?=_
  rw[v9 L is,aaX]
  by_cases h:k<fs.length
  ·by_cases h1:k∈is
   ·rw[if_pos ⟨h1,h⟩,if_pos ⟨aaj _ h1,h⟩]
   ·rw[if_neg (λz=>h1 z.1)]
    by_cases h2:k=i
    ·subst h2
     rw[if_pos ⟨aai,h⟩,aa3 h]
    ·rw[if_neg (λz=>(List.mem_cons.mp z.1).elim h2 h1),aaP (Ne.symm h2)]
  ·rw[if_neg (λz=>h z.2),if_neg (λz=>h z.2),aaq (by rw[aaX];omega),aaq (by omega)]
theorem c4 (x:Option Int) (fs:Fs):d3 (x::fs)=d3 fs+if x.isNone then 1 else 0:=by
 unfold d3
 rw[List.countP_cons]
theorem pL (L:Int):∀(fs:Fs) (i:Nat),d3 (fs.set i (some L))<=d3 fs
 | [],i=>by simp
 | x::fs,0=>by
  rw[abc,c4,c4]
  simp
 | x::fs,i+1=>by
  rw[abd,c4,c4]
  have:=pL L fs i
  omega
theorem sT (L:Int):∀(fs:Fs) (i:Nat),fs[i]?=some none->d3 (fs.set i (some L))<d3 fs
 | [],i,h=>by simp at h
 | x::fs,0,h=>by
  simp at h
  subst h
  rw[abc,c4,c4]
  simp
 | x::fs,i+1,h=>by
  rw[abd,c4,c4]
  have:=sT L fs i (by simpa using h)
  omega
theorem pM (L:Int):∀(is:List Nat) (fs:Fs),d3 (cN fs is L)<=d3 fs
 | [],fs=>aag _
 | i::is,fs=>aao (pM L is (fs.set i (some L))) (pL L fs i)
theorem qE (L:Int) {is:List Nat} {fs:Fs} (h:is≠[]) (k:∀i∈is,fs[i]?=some none):d3 (cN fs is L)<d3 fs:=by
 cases is with
 | nil=>exact absurd rfl h
 | cons i is=>exact abb (pM L is _) (sT L fs i (k i aai))
theorem g7 {b:List Pl} {fs:Fs} {i:Nat}:i∈fresh b fs↔i<b.length/\fZ b fs i=true:=by
 unfold fresh
 rw[List.mem_filter,List.mem_range]
theorem nj {b:List Pl} {fs:Fs} (hl:fs.length=b.length) {i:Nat} (h:i∈fresh b fs):fs[i]?=some none:=by
 obtain⟨h1,h2⟩:=g7.mp h
 unfold fZ at h2
 rw[aaR] at h2
 have e:fs[i]?=some fs[i]:=aac (by omega)
 rw[aae,e] at h2
 rw[e]
 cases h:fs[i] with
 | none=>rfl
 | some v=>rw[h] at h2;simp at h2
noncomputable def At (fs:Fs) (L:Int) (i:Nat):Pl->Prop
 | .fin _=>fs[i]?=some (some 0)
 | .cL _ ws=>(fs[i]?=some none/\∀g∈ws.map (·.2),∀u,lk fs g=some u->u=L - 1)\/
   ∃v,fs[i]?=some (some v)/\1<=v/\(∃g∈ws.map (·.2),lk fs g=some (v - 1))/\∀g∈ws.map (·.2),∀u,lk fs g=some u->v - 1<=u
 | .bJ _ to=>(fs[i]?=some none/\((∀g∈to,(lk fs g).isSome=true)->∃g∈to,lk fs g=some (L - 1)))\/
   ∃v,fs[i]?=some (some v)/\1<=v/\(∀g∈to,∃u,lk fs g=some u/\u<=v - 1)/\∃g∈to,lk fs g=some (v - 1)
structure Good (b:List Pl):Prop where
 mG:∀q∈b,∀g∈fI q,0<=g/\g<b.length
 bJ:∀q∈b,∀w to,q=.bJ w to->to≠[]
structure Inv (b:List Pl) (fs:Fs) (L:Int):Prop where
 len:fs.length=b.length
 lt:∀(i:Nat) (v:Int),fs[i]?=some (some v)->0<=v/\v<L
 at_:∀(i:Nat) q,b[i]?=some q->At fs L i q
theorem zj {b:List Pl} (g:Good b):Inv b (oG b) 1:=by
 have h0:∀(i:Nat) (v:Int),(oG b)[i]?=some (some v)->v=0:=λi v e=>by
  unfold oG at e
  rw[aad] at e
  obtain⟨q,_,e⟩:=Option.map_eq_some_iff.mp e
  cases q <;>simp [HZ] at e
  exact e.symm
 have hk:∀(g u:Int),lk (oG b) g=some u->u=0:=λg u e=>by
  unfold lk at e
  rw[aae] at e
  cases h:(oG b)[g.toNat]? with
  | none=>rw[h] at e;simp at e
  | some o=>rw[h] at e;simp at e;subst e;exact h0 _ _ h
 refine⟨by simp [oG],λi v e=>by have:=h0 i v e;omega,λi q e=>?_⟩
 have e2:(oG b)[i]?=some (HZ q):=by unfold oG;rw[aad,e];rfl
 cases q with
 | fin w=>exact e2
 | cL w ws=>exact .inl ⟨e2,λg _ u h=>hk g u h⟩
 | bJ w to=>
  refine .inl ⟨e2,λh=>?_⟩
  cases to with
  | nil=>exact absurd rfl (g.bJ _ (aaf e) _ _ rfl)
  | cons x r=>
   refine⟨x,aai,?_⟩
   have:=h x aai
   obtain⟨u,hu⟩:=Option.isSome_iff_exists.mp this
   have:=hk x u hu
   rw[hu,this]
   rfl
theorem pN {fs:Fs} {g:Int} {u:Int}:lk fs g=some u↔fs[g.toNat]?=some (some u):=by
 unfold lk
 rw[aae]
 cases h:fs[g.toNat]? with
 | none=>simp
 | some o=>simp
theorem step {b:List Pl} (gb:Good b) {fs:Fs} {L:Int} (I:Inv b fs L) (L1:1<=L):Inv b (cN fs (fresh b fs) L) (L+1):=by
 have hl:=I.len
 have get:∀(k:Nat),(cN fs (fresh b fs) L)[k]?=if k∈fresh b fs/\k<fs.length then some (some L) else fs[k]?:=v9 L _ _
 have old:∀(k:Nat) (v:Int),fs[k]?=some (some v)->(cN fs (fresh b fs) L)[k]?=some (some v):=λk v e=>by
  rw[get,if_neg,e]
  intro z
  rw[nj hl z.1] at e
  cases e
 have xX:∀(g u:Int),lk fs g=some u->lk (cN fs (fresh b fs) L) g=some u:=λg u h=>pN.mpr (old _ _ (pN.mp h))
 have uM:∀(g u:Int),lk (cN fs (fresh b fs) L) g=some u->lk fs g=some u\/u=L:=λg u h=>by
  have h:=pN.mp h
  rw[get] at h
  split at h
  ·right;simpa using h.symm
  ·exact .inl (pN.mpr h)
 refine⟨by rw[md];exact hl,λi v e=>?_,λi q e=>?_⟩
 ·rw[get] at e
  split at e
  ·simp at e;omega
  ·have:=I.lt i v e;omega
 ·have hi:i<b.length:=(List.getElem?_eq_some_iff.mp e).1
  have A:=I.at_ i q e
  have rd:∀(q:Pl),b[i]?=some q->fs[i]?=some none->(i∈fresh b fs↔DK fs q=true):=λq e e2=>by
   rw[g7]
   unfold fZ
   rw[aae,e2,e]
   simp [hi]
  cases q with
  | fin w=>exact old _ _ A
  | cL w ws=>
   rcases A with ⟨a1,a2⟩ | ⟨v,a1,a2,⟨x,hx,a3⟩,a4⟩
   ·by_cases c:i∈fresh b fs
    ·right
     refine⟨L,by rw[get,if_pos ⟨c,by omega⟩],L1,?_,λg hg u h=>?_⟩
     ·have:=(rd _ e a1).mp c
      have:(ws.map (·.2)).any (λg=>(lk fs g).isSome)=true:=this
      obtain⟨x,hx,h⟩:=List.any_eq_true.mp this
      obtain⟨u,hu⟩:=Option.isSome_iff_exists.mp h
      have:=a2 x hx u hu
      subst this
      exact⟨x,hx,xX _ _ hu⟩
     ·rcases uM _ _ h with h | h
      ·have:=a2 g hg u h;omega
      ·omega
    ·left
     refine⟨by rw[get,if_neg (λz=>c z.1)];exact a1,λg hg u h=>?_⟩
     rcases uM _ _ h with h | h
     ·exfalso
      refine c ((rd _ e a1).mpr ?_)
      show(ws.map (·.2)).any (λg=>(lk fs g).isSome)=true
      exact List.any_eq_true.mpr ⟨g,hg,by rw[h];rfl⟩
     ·omega
   ·right
    refine⟨v,old _ _ a1,a2,⟨x,hx,xX _ _ a3⟩,λg hg u h=>?_⟩
    rcases uM _ _ h with h | h
    ·exact a4 g hg u h
    ·have:=I.lt i v a1;omega
  | bJ w to=>
   rcases A with ⟨a1,a2⟩ | ⟨v,a1,a2,a3,x,hx,a4⟩
   ·by_cases c:i∈fresh b fs
    ·right
     have r:=(rd _ e a1).mp c
     have r:to.all (λg=>(lk fs g).isSome)=true:=r
     have r:=List.all_eq_true.mp r
     obtain⟨x,hx,h⟩:=a2 r
     refine⟨L,by rw[get,if_pos ⟨c,by omega⟩],L1,λg hg=>?_,x,hx,xX _ _ h⟩
     obtain⟨u,hu⟩:=Option.isSome_iff_exists.mp (r g hg)
     exact⟨u,xX _ _ hu,by have:=I.lt _ _ (pN.mp hu);omega⟩
    ·left
     refine⟨by rw[get,if_neg (λz=>c z.1)];exact a1,λh=>?_⟩
     have:¬∀g∈to,(lk fs g).isSome=true:=λz=>c ((rd _ e a1).mpr (show to.all (λg=>(lk fs g).isSome)=true from List.all_eq_true.mpr z))
     have:∃g∈to,lk fs g=none:=by
      apply Classical.byContradiction
      intro n
      apply this
      intro g hg
      cases h:lk fs g with
      | none=>exact absurd ⟨g,hg,h⟩ n
      | some u=>rfl
     obtain⟨g,hg,hn⟩:=this
     obtain⟨u,hu⟩:=Option.isSome_iff_exists.mp (h g hg)
     refine⟨g,hg,?_⟩
     rcases uM _ _ hu with h | h
     ·rw[hn] at h;cases h
     ·rw[hu,h];congr 1;omega
   ·right
    refine⟨v,old _ _ a1,a2,λg hg=>?_,x,hx,xX _ _ a4⟩
    obtain⟨u,h1,h2⟩:=a3 g hg
    exact⟨u,xX _ _ h1,h2⟩
noncomputable def Ends (fs:Fs) (i:Nat):Pl->Prop
 | .fin _=>fs[i]?=some (some 0)
 | .cL _ ws=>(fs[i]?=some none/\∀g∈ws.map (·.2),lk fs g=none)\/
   ∃v,fs[i]?=some (some v)/\1<=v/\(∃g∈ws.map (·.2),lk fs g=some (v - 1))/\∀g∈ws.map (·.2),∀u,lk fs g=some u->v - 1<=u
 | .bJ _ to=>(fs[i]?=some none/\∃g∈to,lk fs g=none)\/
   ∃v,fs[i]?=some (some v)/\1<=v/\(∀g∈to,∃u,lk fs g=some u/\u<=v - 1)/\∃g∈to,lk fs g=some (v - 1)
theorem Cg {b:List Pl} {fs:Fs} {L:Int} (I:Inv b fs L) (h:fresh b fs=[]) (i:Nat) (q:Pl) (e:b[i]?=some q):Ends fs i q:=by
 have hi:i<b.length:=(List.getElem?_eq_some_iff.mp e).1
 have nr:fs[i]?=some none->DK fs q=false:=λe2=>by
  have:i∉fresh b fs:=by rw[h];simp
  rw[g7] at this
  cases hr:DK fs q with
  | false=>rfl
  | true=>
   exfalso
   apply this
   refine⟨hi,?_⟩
   unfold fZ
   rw[aae,e2,e]
   simp [hr]
 have A:=I.at_ i q e
 cases q with
 | fin w=>exact A
 | cL w ws=>
  rcases A with ⟨a1,a2⟩ | A
  ·refine .inl ⟨a1,λg hg=>?_⟩
   have:=nr a1
   have:(ws.map (·.2)).any (λg=>(lk fs g).isSome)=false:=this
   have:=List.any_eq_false.mp this g hg
   simpa using this
  ·exact .inr A
 | bJ w to=>
  rcases A with ⟨a1,a2⟩ | A
  ·refine .inl ⟨a1,?_⟩
   have:=nr a1
   have:to.all (λg=>(lk fs g).isSome)=false:=this
   obtain⟨g,hg,n⟩:=List.all_eq_false.mp this
   exact⟨g,hg,by simpa using n⟩
  ·exact .inr A
theorem jY {b:List Pl} {fs:Fs} (hl:fs.length=b.length) (h:fresh b fs≠[]) (L:Int):d3 (cN fs (fresh b fs) L)<d3 fs:=qE L h λ_ hi=>nj hl hi
theorem qF {b:List Pl} (gb:Good b):∀(m:Nat) (fs:Fs) (L:Int),Inv b fs L->1<=L->d3 fs<=m->∃L',L'<=L+m/\Inv b (run b m fs L) L'/\fresh b (run b m fs L)=[]
 | 0,fs,L,I,L1,h=>by
  refine⟨L,by omega,I,?_⟩
  show fresh b fs=[]
  apply Classical.byContradiction
  intro n
  have:=jY I.len n L
  omega
 | m+1,fs,L,I,L1,h=>by
  show ∃L',L'<=L+ (m+1:Nat)/\Inv b (if fresh b fs=[] then fs else run b m (cN fs (fresh b fs) L) (L+1)) L'/\fresh b (if fresh b fs=[] then fs else run b m (cN fs (fresh b fs) L) (L+1))=[]
  by_cases c:fresh b fs=[]
  ·rw[if_pos c]
   exact⟨L,by omega,I,c⟩
  ·rw[if_neg c]
   have:=jY I.len c L
   obtain⟨L',h1,h2⟩:=qF gb m _ _ (step gb I L1) (by omega) (by omega)
   exact⟨L',by omega,h2⟩
theorem nk (fs:Fs):d3 fs<=fs.length:=List.countP_le_length
theorem Ci {b:List Pl} (gb:Good b):(sS b).length=b.length:=by
 obtain⟨L,_,I,_⟩:=qF gb b.length _ _ (zj gb) (by decide) (by have:=nk (oG b);simpa [oG] using this)
 exact I.len
theorem zk {b:List Pl} (gb:Good b) (i:Nat) (q:Pl) (e:b[i]?=some q):Ends (sS b) i q:=by
 obtain⟨L,_,I,f⟩:=qF gb b.length _ _ (zj gb) (by decide) (by have:=nk (oG b);simpa [oG] using this)
 exact Cg I f i q e
end Lv
namespace Bf
open L2 Lv
abbrev En:=Int×Option (Int×Nat)×List Nat
noncomputable def keys (es:List En):List Int:=es.map (·.1)
noncomputable def fb (b:List Pl) (k:Int):List Int:=match b[k.toNat]? with | some q=>fI q | none=>[]
noncomputable def fS (here:Int) (path:List Nat):Nat->List Int->List En->List En
 | _,[],es=>es
 | w,g::gs,es=>fS here path (w+1) gs (if g∈keys es then es else es++ [(g,some (here,w),path++ [w])])
noncomputable def Bl (b:List Pl):Nat->Nat->List En->List En
 | 0,_,es=>es
 | m+1,t,es=>match es[t]? with | none=>es | some e=>Bl b m (t+1) (fS e.1 e.2.2 0 (fb b e.1) es)
noncomputable def steps (b:List Pl) (start:Int):List En:=Bl b (b.length+1) 0 [(start,none,[])]
structure Core (b:List Pl) (start:Int) (es:List En):Prop where
 nd:(keys es).Nodup
 mG:∀e∈es,0<=e.1/\e.1<b.length
 hd:es[0]?=some (start,none,[])
 par:∀(i:Nat) e,es[i]?=some e->0<i->∃(j:Nat) (ej:En) (w:Nat),j<i/\es[j]?=some ej/\e.2.1=some (ej.1,w)/\(fb b ej.1)[w]?=some e.1/\e.2.2=ej.2.2++ [w]
 mono:∀(i j:Nat) ei ej,i<=j->es[i]?=some ei->es[j]?=some ej->ei.2.2.length<=ej.2.2.length
structure GO (b:List Pl) (start:Int) (t:Nat) (e:En) (k:Nat) (es:List En):Prop extends Core b start es where
 at_:es[t]?=some e
 top:∀(i:Nat) ei,es[i]?=some ei->ei.2.2.length<=e.2.2.length+1
 old:∀(j:Nat) ej,j<t->es[j]?=some ej->∀g∈fb b ej.1,∃(i:Nat) (ei:En),es[i]?=some ei/\ei.1=g/\ei.2.2.length<=ej.2.2.length+1
 now:∀g∈(fb b e.1).take k,∃(i:Nat) (ei:En),es[i]?=some ei/\ei.1=g/\ei.2.2.length<=e.2.2.length+1
structure Inv (b:List Pl) (start:Int) (t:Nat) (es:List En):Prop extends Core b start es where
 top:∀(i:Nat) ei et,es[i]?=some ei->es[t]?=some et->ei.2.2.length<=et.2.2.length+1
 old:∀(j:Nat) ej,j<t->es[j]?=some ej->∀g∈fb b ej.1,∃(i:Nat) (ei:En),es[i]?=some ei/\ei.1=g/\ei.2.2.length<=ej.2.2.length+1
theorem eF {α:Type} {l:List α} {x y:α} {i:Nat} (h:(l++ [x])[i]?=some y):l[i]?=some y\/(i=l.length/\y=x):=by
 by_cases c:i<l.length
 ·rw[aaW c] at h
  exact .inl h
 ·rw[aaV (by omega)] at h
  have:i - l.length=0:=by
   by_cases q:i - l.length=0
   ·exact q
   ·rw[aaq (by simp;omega)] at h;cases h
  rw[this] at h
  simp at h
  exact .inr ⟨by omega,h.symm⟩
theorem up {α:Type} {l:List α} {x y:α} {i:Nat} (h:l[i]?=some y):(l++ [x])[i]?=some y:=by
 rw[aaW (List.getElem?_eq_some_iff.mp h).1]
 exact h
theorem one {b:List Pl} (gb:Good b) {start:Int} {t:Nat} {e:En} {k:Nat} {es:List En} {g:Int} (M:GO b start t e k es) (hg:(fb b e.1)[k]?=some g):
  GO b start t e (k+1) (if g∈keys es then es else es++ [(g,some (e.1,k),e.2.2++ [k])]):=by
 have tk:(fb b e.1).take (k+1)=(fb b e.1).take k++ [g]:=by rw[aaC,hg];rfl
 by_cases c:g∈keys es
 ·rw[if_pos c]
  refine {M with now:=λx hx=>?_}
  rw[tk] at hx
  rcases List.mem_append.mp hx with hx | hx
  ·exact M.now x hx
  ·have:x=g:=by simpa using hx
   subst this
   obtain⟨ei,Kv,rfl⟩:=List.mem_map.mp c
   obtain⟨i,hi⟩:=aaw Kv
   exact⟨i,ei,hi,rfl,M.top i ei hi⟩
 ·rw[if_neg c]
  have rg:0<=g/\g<b.length:=by
   unfold fb at hg
   cases hb:b[e.1.toNat]? with
   | none=>rw[hb] at hg;simp at hg
   | some q=>
    rw[hb] at hg
    exact gb.mG q (aaf hb) g (aaf hg)
  have tl:t<es.length:=(List.getElem?_eq_some_iff.mp M.at_).1
  refine⟨⟨?_,λx hx=>?_,up M.hd,λi x hx i0=>?_,λi j ei ej Lp hi hj=>?_⟩,up M.at_,λi ei hi=>?_,λj ej hj E3 x hx=>?_,λx hx=>?_⟩
  ·unfold keys at *
   rw[aau]
   refine List.nodup_append.mpr ⟨M.nd,by simp,λa ha b' V0=>?_⟩
   have:b'=g:=by simpa using V0
   subst this
   intro z
   exact c (z▸ha)
  ·rcases List.mem_append.mp hx with hx | hx
   ·exact M.mG x hx
   ·have:x=(g,some (e.1,k),e.2.2++ [k]):=by simpa using hx
    subst this
    exact rg
  ·rcases eF hx with hx | ⟨rfl,rfl⟩
   ·obtain⟨j,ej,w,a1,a2,a3⟩:=M.par i x hx i0
    exact⟨j,ej,w,a1,up a2,a3⟩
   ·exact⟨t,e,k,tl,up M.at_,rfl,hg,rfl⟩
  ·rcases eF hi with hi | ⟨rfl,rfl⟩
   ·rcases eF hj with hj | ⟨rfl,rfl⟩
    ·exact M.mono i j ei ej Lp hi hj
    ·have:=M.top i ei hi
     simpa using this
   ·rcases eF hj with hj | ⟨rfl,rfl⟩
    ·have:=(List.getElem?_eq_some_iff.mp hj).1
     omega
    ·exact aag _
  ·rcases eF hi with hi | ⟨rfl,rfl⟩
   ·exact M.top i ei hi
   ·simp
  ·rcases eF E3 with E3 | ⟨rfl,rfl⟩
   ·obtain⟨i,ei,a1,a2⟩:=M.old j ej hj E3 x hx
    exact⟨i,ei,up a1,a2⟩
   ·omega
  ·rw[tk] at hx
   rcases List.mem_append.mp hx with hx | hx
   ·obtain⟨i,ei,a1,a2⟩:=M.now x hx
    exact⟨i,ei,up a1,a2⟩
   ·have:x=g:=by simpa using hx
    subst this
    exact⟨es.length,(x,some (e.1,k),e.2.2++ [k]),by rw[aaV (aag _)];simp,rfl,by simp⟩
theorem nv {b:List Pl} (gb:Good b) {start:Int} {t:Nat} {e:En}:∀(gs:List Int) (k:Nat) (es:List En),GO b start t e k es->(∀(i:Nat) g,gs[i]?=some g->(fb b e.1)[k+i]?=some g)->GO b start t e (k+gs.length) (fS e.1 e.2.2 k gs es)
 | [],k,es,M,_=>M
 | g::gs,k,es,M,h=>by
  have:=nv gb gs (k+1) _ (one gb M (h 0 g rfl)) λi x hx=>by
   have:=h (i+1) x (by simpa using hx)
   rwa [show k+1+i=k+ (i+1) by omega]
  rw[aap,show k+ (gs.length+1)=k+1+gs.length by omega]
  exact this
theorem zm {b:List Pl} {start:Int} {t:Nat} {e:En} {es:List En} (I:Inv b start t es) (h:es[t]?=some e):GO b start t e 0 es:=
 {I with at_:=h,top:=λi ei hi=>I.top i ei e hi h,now:=λg hg=>by simp at hg}
theorem E4 {b:List Pl} {start:Int} {t:Nat} {e:En} {es:List En} (M:GO b start t e (fb b e.1).length es):Inv b start (t+1) es:=by
 refine {M with top:=λi ei et hi ht=>?_,old:=λj ej hj E3 g hg=>?_}
 ·have h1:=M.top i ei hi
  have h2:=M.mono t (t+1) e et (by omega) M.at_ ht
  omega
 ·by_cases c:j<t
  ·exact M.old j ej c E3 g hg
  ·have:j=t:=by omega
   subst this
   rw[M.at_] at E3
   cases E3
   exact M.now g (by rw[aaG (aag _)];exact hg)
theorem turn {b:List Pl} (gb:Good b) {start:Int} {t:Nat} {e:En} {es:List En} (I:Inv b start t es) (h:es[t]?=some e):Inv b start (t+1) (fS e.1 e.2.2 0 (fb b e.1) es):=by
 have:=nv gb (fb b e.1) 0 es (zm I h) λi g hg=>by rw[aaZ];exact hg
 rw[aaZ] at this
 exact E4 this
theorem zj {b:List Pl} {start:Int} (h0:0<=start) (h1:start<b.length):Inv b start 0 [(start,none,[])]:=by
 refine⟨⟨by simp [keys],λe he=>?_,rfl,λi e he hi=>?_,λi j ei ej _ hi hj=>?_⟩,λi ei et hi ht=>?_,λj ej hj=>by omega⟩
 ·have:e=(start,none,[]):=by simpa using he
  subst this
  exact⟨h0,h1⟩
 ·rw[aaq (by simp;omega)] at he
  cases he
 ·cases i with
  | zero=>simp at hi;subst hi;simp
  | succ i=>rw[aaq (by simp)] at hi;cases hi
 ·cases i with
  | zero=>simp at hi;subst hi;simp
  | succ i=>rw[aaq (by simp)] at hi;cases hi
theorem wa:∀(n:Nat) (l:List Nat),l.Nodup->(∀x∈l,x<n)->l.length<=n
 | 0,l,_,h=>by
  cases l with
  | nil=>exact aag _
  | cons x r=>have:=h x aai;omega
 | n+1,l,nd,h=>by
  have:=wa n (l.erase n) (nd.erase n) λx hx=>by
   have h1:=(nd.mem_erase_iff).mp hx
   have:=h x h1.2
   have:=h1.1
   omega
  have:=List.length_erase (a:=n) (l:=l)
  split at this <;>omega
theorem E5 {n:Nat} {l:List Int} (nd:l.Nodup) (h:∀x∈l,0<=x/\x< (n:Int)):l.length<=n:=by
 have:=wa n (l.map Int.toNat) (by
  unfold List.Nodup at *
  rw[List.pairwise_map]
  refine nd.imp_of_mem ?_
  intro a b ha hb TQ z
  have:=h a ha
  have:=h b hb
  omega) λx hx=>by
   obtain⟨y,hy,rfl⟩:=List.mem_map.mp hx
   have:=h y hy
   omega
 rwa [aab] at this
theorem Core.sI {b:List Pl} {start:Int} {es:List En} (C:Core b start es):es.length<=b.length:=by
 have:=E5 (n:=b.length) C.nd λx hx=>by
  obtain⟨e,he,rfl⟩:=List.mem_map.mp hx
  exact C.mG e he
 unfold keys at this
 rwa [aab] at this
theorem wb {b:List Pl} (gb:Good b) {start:Int}:∀(m t:Nat) (es:List En),Inv b start t es->b.length<m+t->∃t',es.length<=(Bl b m t es).length/\(Bl b m t es).length<=t'/\Inv b start t' (Bl b m t es)
 | 0,t,es,I,h=>⟨t,aag _,by have:=I.toCore.sI;show es.length<=t;omega,I⟩
 | m+1,t,es,I,h=>by
  unfold Bl
  cases ht:es[t]? with
  | none=>exact⟨t,aag _,List.getElem?_eq_none_iff.mp ht,I⟩
  | some e=>
   obtain⟨t',a1,a2,a3⟩:=wb gb m (t+1) _ (turn gb I ht) (by omega)
   refine⟨t',aao ?_ a1,a2,a3⟩
   have:∀(gs:List Int) (k:Nat) (es:List En),es.length<=(fS e.1 e.2.2 k gs es).length:=by
    intro gs
    induction gs with
    | nil=>intro k es;exact aag _
    | cons g gs ih=>
     intro k es
     unfold fS
     refine aao ?_ (ih (k+1) _)
     split
     ·exact aag _
     ·simp
   exact this _ _ _
theorem fu {b:List Pl} (gb:Good b) {start:Int} (h0:0<=start) (h1:start<b.length):Core b start (steps b start)/\
  ∀(j:Nat) ej,(steps b start)[j]?=some ej->∀g∈fb b ej.1,∃(i:Nat) (ei:En),(steps b start)[i]?=some ei/\ei.1=g/\ei.2.2.length<=ej.2.2.length+1:=by
 obtain⟨t,_,a2,I⟩:=wb gb (b.length+1) 0 _ (zj (b:=b) h0 h1) (by omega)
 refine⟨I.toCore,λj ej hj=>I.old j ej ?_ hj⟩
 have:=(List.getElem?_eq_some_iff.mp hj).1
 show j<t
 unfold steps at *
 omega
noncomputable def go (b:List Pl):Int->List Nat->Option Int
 | k,[]=>some k
 | k,w::ws=>match (fb b k)[w]? with | some g=>go b g ws | none=>none
theorem wc {b:List Pl}:∀{ws:List Nat} {k g:Int} {w:Nat},go b k (ws++ [w])=(match go b k ws with | some x=>(fb b x)[w]? | none=>none)
 | [],k,g,w=>by
  show(match (fb b k)[w]? with | some g=>go b g [] | none=>none)=(fb b k)[w]?
  cases (fb b k)[w]? <;>rfl
 | v::ws,k,g,w=>by
  show(match (fb b k)[v]? with | some g=>go b g (ws++ [w]) | none=>none)=(match (match (fb b k)[v]? with | some g=>go b g ws | none=>none) with | some x=>(fb b x)[w]? | none=>none)
  cases (fb b k)[v]? with
  | none=>rfl
  | some x=>exact wc (g:=g)
theorem Cj {b:List Pl} {start:Int} {es:List En} (C:Core b start es):∀(i:Nat) (e:En),es[i]?=some e->go b start e.2.2=some e.1:=by
 intro i
 induction i using Nat.strongRecOn with
 | ind i ih=>
  intro e he
  by_cases c:i=0
  ·subst c
   rw[C.hd] at he
   cases he
   rfl
  ·obtain⟨j,ej,w,a1,a2,a3,a4,a5⟩:=C.par i e he (by omega)
   rw[a5,wc (g:=e.1),ih j a1 ej a2]
   exact a4
end Bf
namespace PySem
section
variable {prog : Program} {w : World} {A : Around} {E : Value -> Shared -> Prop} {s : Shared}
end
end PySem
namespace L2
open PySem PySem.Spec PyProof.Rows PySem.W
section
variable {X : Cx} {K : PySem.W.Frag}
noncomputable def tRev (K:PySem.W.Frag) (te:TE):TE:=λσ H Q=>te σ H λv H1=>∃p xs,v=.ref p/\aZ K H1 p xs/\∀l,H1 l=none->Q (.ref l) (upd H1 l (.lst xs.reverse))
noncomputable def tD1 (tk tv:TE):TE:=λσ H Q=>∀d,H d=none->tk σ (upd H d (.dK [])) λx H1=>tv σ H1 λv H2=>∃k,x=kV k/\H2 d=some (.dK [])/\Q (.ref d) (upd H2 d (.dK [(k,v)]))
theorem Ia {ke ve:Expr} {tk tv:TE} {pos:Pos} (hk:PE X ke tk) (hv:PE X ve tv):PE X (.Dict [some ke] [ve] pos) (tD1 tk tv):=by
 intro pins s σ H Q I h
 refine wpAny_Dict_pairs (knd:=bY X.prog X.w) (pairs:=[(eval ke X.env,do let x <-eval ve X.env;standAt pos;pure x)]) rfl (by simp) (by simp) ?_
 have fr:=I.bU.fresh (a:=s.heap.objs.size) (aag _)
 have I1:Inv X pins σ (upd H s.heap.objs.size (.dK [])) {s with heap:=s.heap.push {cls:=.type "dict",data:=.dict #[]}}:=I.laid (t':=s.toks) (λ_ _ q=>Heap.get?_push_of_some _ q) (aag _) (sG s.heap I.BV)
 unfold evalPairs
 refine wpAny_bind (cy (hk pins _ σ _ _ I1 (h _ fr)) λku s1 cX=>?_)
 obtain⟨x,H1,I2,rx,q1⟩:=cX
 refine wpAny_bind (wpAny_holding (wpAny_bind (cy (hv pins _ σ _ _ I2 q1) λvu s2 ⟨v,H2,I3,rv,k,ex,hd,q⟩=>wpAny_bind (wpAny_standAt (wpAny_pure ?_)))))
 subst ex
 obtain⟨z,lo,vs,kv,dd⟩:=DC I3.bU hd
 cases kv
 unfold evalPairs
 refine wpAny_bind (wpAny_holding (wpAny_pure (wpAny_pure ⟨[(k,vu)],⟨kB rx,rfl,trivial⟩,dd,λh' BX hs=>?_⟩)))
 have BX:h'.DictOf (bY X.prog X.w) s.heap.objs.size [(k,vu)]:=BX
 have he:∃q,h'.get? s.heap.objs.size=some q:=let ⟨q,_,_,hq,_⟩:=BX;⟨q,hq⟩
 exact⟨.ref s.heap.objs.size,_,qv I3 (by rw[hd];exact True.intro) hs he (yU (kvs:=[(k,v)]) (by rw[sizeLine_eq];simp) lo (.cons ⟨rfl,rv⟩ .nil) BX),rfl,q⟩
end
end L2
namespace KS
open PySem PySem.W PyProof.Rows
noncomputable def Bd {α:Type} (lt:Nat->Nat->Bool) (n:Nat) (post:α->Prop):KasT α->Prop
 | .ret a=>post a
 | .ask i j k=>i<n/\j<n/\Bd lt n post (k (lt i j))
theorem Bd.bind {α β:Type} {lt:Nat->Nat->Bool} {n:Nat} {post:β->Prop} {f:α->KasT β}:∀{t:KasT α},Bd lt n (λa=>Bd lt n post (f a)) t->Bd lt n post (t.bind f)
 | .ret _,h=>h
 | .ask _ _ _,⟨h1,h2,h3⟩=>⟨h1,h2,Bd.bind h3⟩
theorem Bd.mono {α:Type} {lt:Nat->Nat->Bool} {n:Nat} {p q:α->Prop} (TR:∀a,p a->q a):∀{t:KasT α},Bd lt n p t->Bd lt n q t
 | .ret _,h=>TR _ h
 | .ask _ _ _,⟨h1,h2,h3⟩=>⟨h1,h2,Bd.mono TR h3⟩
theorem Bd.wp {α:Type} {lt:Nat->Nat->Bool} {n:Nat} {post:α->Prop} {cmp:Nat->Nat->(Bool->Shared->Prop)->Shared->Prop} {Q:α->Shared->Prop} {s:Shared}
  (hc:∀i j C,i<n->j<n->C (lt i j) s->cmp i j C s) (hq:∀a,post a->Q a s):∀{t:KasT α},Bd lt n post t->t.kasWp cmp Q s
 | .ret _,h=>hq _ h
 | .ask i j k,⟨h1,h2,h3⟩=>hc i j _ h1 h2 (Bd.wp hc hq h3)
noncomputable def Pm (n:Nat) (p:Array Nat):Prop:=p.Perm (List.range n).toArray
theorem Pm.lt {n:Nat} {p:Array Nat} (h:Pm n p) (hn:0<n) (i:Nat):p.getD i 0<n:=by
 by_cases hi:i<p.size
 ·have:p.getD i 0=p[i]:=by simp [Array.getD,hi]
  rw[this]
  have hm:p[i]∈p:=Array.getElem_mem hi
  have:=(Array.Perm.mem_iff h).mp hm
  simpa using this
 ·have:p.getD i 0=0:=by simp [Array.getD,hi]
  omega
theorem Pm.rev {n:Nat} {p:Array Nat} (h:Pm n p) (i j:Nat):Pm n (kas_rev p i j):=(mirror_perm _ _ _ _).trans h
theorem Pm.V3 {n:Nat} {p:Array Nat} (h:Pm n p) (i j:Nat):Pm n (bubble p i j):=(bubble_perm _ _ _).trans h
variable {lt : Nat -> Nat -> Bool} {n : Nat}
theorem uZ {p:Array Nat} (h:Pm n p) (hn:0<n):∀f k,Bd lt n (λ_=>True) (kas_asc p f k)
 | 0,_=>trivial
 | f+1,k=>by
  refine⟨h.lt hn _,h.lt hn _,?_⟩
  dsimp only
  split
  ·trivial
  ·exact uZ h hn f (k+1)
theorem me (hn:0<n):∀f (p:Array Nat) k q,Pm n p->Bd lt n (λr=>Pm n r.1) (kas_desc f p k q)
 | 0,p,k,q,h=>h
 | f+1,p,k,q,h=>by
  refine⟨h.lt hn _,h.lt hn _,?_⟩
  dsimp only
  split
  ·split
   ·exact me hn f _ _ _ (h.rev _ _)
   ·exact me hn f _ _ _ h
  ·refine⟨h.lt hn _,h.lt hn _,?_⟩
   dsimp only
   split
   ·exact h
   ·exact me hn f _ _ _ h
theorem sU (hn:0<n) {p:Array Nat} (h:Pm n p) (m r:Nat):Bd lt n (λr=>Pm n r.2) (kas_tail3 m r p):=
 Bd.bind ((uZ (h.rev _ _) hn _ _).mono λ_ _=>h.rev _ _)
theorem kD (hn:0<n) {p:Array Nat} (h:Pm n p) (m r:Nat):Bd lt n (λr=>Pm n r.2) (kas_descPart m r p):=by
 refine Bd.bind ((me hn _ _ _ _ h).mono λx hx=>?_)
 split
 ·exact sU hn (hx.rev _ _) _ _
 ·exact sU hn hx _ _
theorem zo (hn:0<n) {p:Array Nat} (h:Pm n p) (r:Nat):Bd lt n (λr=>Pm n r.2) (kas_count r p):=by
 refine Bd.bind ((uZ h hn _ _).mono λm _=>?_)
 split
 ·exact h
 ·split
  ·refine⟨h.lt hn _,h.lt hn _,?_⟩
   dsimp only
   split
   ·exact h
   ·exact kD hn (h.rev _ _) _ _
  ·exact kD hn h _ _
theorem nA (hn:0<n) {p:Array Nat} (h:Pm n p) (k:Nat):∀f l r,Bd lt n (λ_=>True) (kas_place p k f l r)
 | 0,_,_=>trivial
 | f+1,l,r=>by
  unfold kas_place
  split
  ·trivial
  ·refine⟨h.lt hn _,h.lt hn _,?_⟩
   dsimp only
   split
   ·exact nA hn h k f _ _
   ·exact nA hn h k f _ _
theorem zp (hn:0<n):∀f (p:Array Nat) k,Pm n p->Bd lt n (Pm n) (kas_bin f p k)
 | 0,p,k,h=>h
 | f+1,p,k,h=>Bd.bind ((nA hn h k _ _ _).mono λl _=>zp hn f _ _ (h.V3 _ _))
theorem Ck (hn:0<n):Bd lt n (Pm n) (kas_sort n):=by
 refine Bd.bind ((zo hn (Array.Perm.refl _) n).mono λr hr=>?_)
 split
 ·exact zp hn _ _ _ hr
 ·exact hr
section
variable {prog : Program} {w : World} {A : Around} {E : Value -> Shared -> Prop} {s : Shared} {vs : List Value} {κ : SortKind}
theorem kW {R:List Nat->Prop} {a:Addr} {m:Nat} {P:PySem.Fin->Shared->Prop} (ho:s.heap.get? a=some (seqObj "list" vs.toArray m)) (E6:vs.length<64)
  (mT:2<=vs.length->∀h' Q',(∀b o,b≠a->s.heap.get? b=some o->h'.get? b=some o)->Q' κ {s with heap:=h'}->wpAny (model prog w) A (keyKind' vs.toArray) Q' (λ_ _=>False) {s with heap:=h'})
  (zq:∀i j h' C,i<vs.length->j<vs.length->(∀b o,b≠a->s.heap.get? b=some o->h'.get? b=some o)->C (lt i j) {s with heap:=h'}->kas_ask prog w A κ vs i j C {s with heap:=h'})
  (L4:2<=vs.length->Bd lt vs.length (λp=>Pm vs.length p/\R p.toList) (kas_sort vs.length)) (h0:vs.length<2->R (List.range vs.length))
  (h:∀p:List Nat,p.Perm (List.range vs.length)->R p->P (.done (.ret .none)) {s with heap:=sortedHeap s.heap a vs (p.map λi=>vs.getD i Value.none).toArray}):
  wpAny (model prog w) A (Builtin.«list.sort» ⟨[.ref a],[]⟩) P E s:=by
 rw[list_sort_plain]
 have ha:a<s.heap.objs.size:=Heap.lt_size ho
 refine wpAny_bind (listItems_at ho rfl ?_)
 refine wpAny_bind (listUpdate_at ho rfl ?_ (by rw[aak,sizeLine_eq];omega) (aar _))
 obtain⟨e1,TU⟩:∃e1,(s.heap.update a (Obj.mapSeq λ_=>#[])).get? a=some (seqObj "list" #[] e1):=⟨_,get?_update_seq ho (λ_=>#[])⟩
 refine wpAny_bind (seqEpoch_at TU rfl ?_)
 refine wpAny_bind (wpAny_newTuple ?_ (by show vs.length<=_;rw[sizeLine_eq];omega))
 refine wpAny_bind (wpAny_newList ?_ (aar _))
 refine wpAny_holding ?_
 have Kw:(((s.heap.update a (Obj.mapSeq λ_=>#[])).push (seqObj "tuple" vs.toArray 0)).push (seqObj "list" #[] 0)).get? a=some (seqObj "list" #[] e1):=by
  rw[Heap.get?_push_ne _ _ _ (by rw[size_push',Heap.size_update];exact aam (abi ha)),Heap.get?_push_ne _ _ _ (by rw[Heap.size_update];exact aam ha)]
  exact TU
 have keep:∀b o,b≠a->s.heap.get? b=some o->(((s.heap.update a (Obj.mapSeq λ_=>#[])).push (seqObj "tuple" vs.toArray 0)).push (seqObj "list" #[] 0)).get? b=some o:=λb o hb q=>
  Heap.get?_push_of_some _ (Heap.get?_push_of_some _ ((Heap.get?_update_other _ _ (Ne.symm hb)).trans q))
 show wpAny (model prog w) A _ P E {s with heap:=((s.heap.update a (Obj.mapSeq λ_=>#[])).push (seqObj "tuple" vs.toArray 0)).push (seqObj "list" #[] 0)}
 dsimp only
 have hsz:vs.toArray.size=vs.length:=by simp
 have gd:∀(l:List Value),(List.range l.length).map (λi=>l.getD i Value.none)=l:=λl=>by
  apply aaS
  intro i
  rw[aad]
  by_cases hi:i<l.length
  ·rw[aa0 hi,aac hi]
   simp [hi]
  ·rw[aaq (by rw[aaz];omega),aaq (by omega)]
   rfl
 by_cases h2:vs.toArray.size<2
 ·rw[if_pos h2,if_pos h2]
  refine wpAny_bind (wpAny_pure ?_)
  rw[StateT.run_pure]
  refine wpAny_bind (wpAny_pure ?_)
  dsimp only
  refine wpAny_bind (seqEpoch_at Kw rfl ?_)
  refine wpAny_bind (listUpdate_at Kw rfl ?_ (hsz2:=by rw[Array.size_map];show(pairsOf vs).size<=_;rw[pairsOf_size,sizeLine_eq];omega))
  simp only[bne_self_eq_false,Bool.false_eq_true,if_false]
  have e:(vs.toArray.zip vs.toArray).map (fun(x:Keyed)=>x.2)=((List.range vs.length).map λi=>vs.getD i Value.none).toArray:=by
   rw[gd]
   apply Array.toList_inj.mp
   rw[Array.toList_map]
   simp [List.map_snd_zip]
  refine wpAny_pure ?_
  have:=h (List.range vs.length) (List.Perm.refl _) (h0 (by omega))
  rw[<-e] at this
  exact this
 ·have v3:2<=vs.length:=by omega
  rw[if_neg h2,if_neg h2]
  refine wpAny_bind (wpAny_mono (mT v3 _ (λκ' s'=>κ'=κ/\s'={s with heap:=((s.heap.update a (Obj.mapSeq λ_=>#[])).push (seqObj "tuple" vs.toArray 0)).push (seqObj "list" #[] 0)}) keep ⟨rfl,rfl⟩) ?_ λ_ _ x=>x.elim)
  rintro κ' s' ⟨rfl,rfl⟩
  refine wpAny_bind (wpAny_mono (kat_run (ks:=vs) (vs:=vs) (Q:=λBg s'=>s'={s with heap:=((s.heap.update a (Obj.mapSeq λ_=>#[])).push (seqObj "tuple" vs.toArray 0)).push (seqObj "list" #[] 0)}/\∃p:Array Nat,p.size=vs.length/\arrOf Bg=p.map (kas_item (vs.toArray.zip vs.toArray))/\failedOf Bg=none/\Pm vs.length p/\R p.toList)
   (G:=λp s'=>s'={s with heap:=((s.heap.update a (Obj.mapSeq λ_=>#[])).push (seqObj "tuple" vs.toArray 0)).push (seqObj "list" #[] 0)}/\Pm vs.length p/\R p.toList) rfl v3 E6 (λp Bg s' a1 a2 a3 a4=>⟨a4.1,p,a1,a2,a3,a4.2⟩) ?_) ?_ λ_ _ e=>e)
  ·exact Bd.wp (lt:=lt) (n:=vs.length) (λi j C hi hj hC=>zq i j _ C hi hj keep hC) (λp hp=>⟨rfl,hp⟩) (L4 v3)
  rintro⟨⟨⟩,Bg⟩ s' ⟨rfl,p,hp,V4,hf,pm,hR⟩
  dsimp only
  have B9:=kat_snds (ks:=vs) (vs:=vs) rfl V4
  rw[B9]
  refine wpAny_bind (seqEpoch_at Kw rfl ?_)
  refine wpAny_bind (listUpdate_at Kw rfl ?_ (aar _) (by rw[aak,aab,abg,hp,sizeLine_eq];omega))
  rw[hf]
  simp only[bne_self_eq_false,Bool.false_eq_true,if_false]
  exact wpAny_pure (h p.toList (by have:=pm.toList;simpa using this) hR)
theorem qG {R:List Nat->Prop} {l:Addr} {Q:Value->Shared->Prop} (hl:s.heap.IsList l vs.toArray) (E6:vs.length<64)
  (mT:2<=vs.length->∀h' Q',(∀b o,s.heap.get? b=some o->h'.get? b=some o)->Q' κ {s with heap:=h'}->wpAny (model prog w) A.in1.in1 (keyKind' vs.toArray) Q' (λ_ _=>False) {s with heap:=h'})
  (zq:∀i j h' C,i<vs.length->j<vs.length->(∀b o,s.heap.get? b=some o->h'.get? b=some o)->C (lt i j) {s with heap:=h'}->kas_ask prog w A.in1.in1 κ vs i j C {s with heap:=h'})
  (L4:2<=vs.length->Bd lt vs.length (λp=>Pm vs.length p/\R p.toList) (kas_sort vs.length)) (h0:vs.length<2->R (List.range vs.length))
  (h:∀p:List Nat,p.Perm (List.range vs.length)->R p->Q (.ref (s.heap.objs.size+1)) {s with heap:=sortedAll s.heap vs (p.map λi=>vs.getD i Value.none).toArray}):
  wpAny (model prog w) A (call (.builtin "sorted") [.ref l]) Q E s:=by
 refine Calls.call_function_entry kind_sorted plain_sorted entry_sorted (args_sorted1 _) ?_
 unfold Builtin.«sorted»
 refine wpAny_bind (m:=checkCount "sorted" 1 1 _) (wpAny_pure ?_)
 refine wpAny_bind (collect_list hl ?_ (by rw[sizeLine_eq];omega))
 refine wpAny_bind (wpAny_newList ?_ (by rw[sizeLine_eq];omega))
 have hsz:((s.heap.push (seqObj "list" #[] 0)).update s.heap.objs.size (Obj.mapSeq (·++vs.toArray))).objs.size=s.heap.objs.size+1:=by
  rw[Heap.size_update,size_push']
 have Dr:(((s.heap.push (seqObj "list" #[] 0)).update s.heap.objs.size (Obj.mapSeq (·++vs.toArray))).push (seqObj "list" vs.toArray 0)).get? (s.heap.objs.size+1)=some (seqObj "list" vs.toArray 0):=by
  rw[<-hsz];exact Heap.get?_push_size _ rfl
 have keep:∀b o,s.heap.get? b=some o->b≠s.heap.objs.size+1/\(((s.heap.push (seqObj "list" #[] 0)).update s.heap.objs.size (Obj.mapSeq (·++vs.toArray))).push (seqObj "list" vs.toArray 0)).get? b=some o:=λb o q=>by
  have fQ:b<s.heap.objs.size:=Heap.lt_size q
  refine⟨aam (abi fQ),?_⟩
  rw[Heap.get?_push_ne _ _ _ (by rw[hsz];exact aam (abi fQ)),Heap.get?_update_ne _ _ _ _ (aam fQ),Heap.get?_push_ne _ _ _ (aam fQ)]
  exact q
 show wpAny _ _ _ _ _ {s with heap:=((s.heap.push (seqObj "list" #[] 0)).update s.heap.objs.size (Obj.mapSeq (·++vs.toArray))).push (seqObj "list" vs.toArray 0)}
 rw[hsz]
 refine wpAny_bind (wpAny_holding (wpAny_call_entry slot_list_sort ⟨_,Dr,rfl⟩ entry_list_sort (kW (lt:=lt) (κ:=κ) Dr E6 (λh2 h' Q' hk hq=>mT h2 h' Q' (λb o q=>hk b o (keep b o q).1 (keep b o q).2) hq)
  (λi j h' C hi hj hk hC=>zq i j h' C hi hj (λb o q=>hk b o (keep b o q).1 (keep b o q).2) hC) L4 h0 λp hp hR=>⟨_,rfl,?_⟩) (args_list_sort _)))
 exact wpAny_pure ⟨_,rfl,h p hp hR⟩
theorem sV {l:Addr} {Q:Value->Shared->Prop} (hl:s.heap.IsList l vs.toArray) (E6:vs.length<64)
  (mT:2<=vs.length->∀h' Q',(∀b o,s.heap.get? b=some o->h'.get? b=some o)->Q' κ {s with heap:=h'}->wpAny (model prog w) A.in1.in1 (keyKind' vs.toArray) Q' (λ_ _=>False) {s with heap:=h'})
  (zq:∀i j h' C,i<vs.length->j<vs.length->(∀b o,s.heap.get? b=some o->h'.get? b=some o)->C (lt i j) {s with heap:=h'}->kas_ask prog w A.in1.in1 κ vs i j C {s with heap:=h'})
  (h:∀p:List Nat,p.Perm (List.range vs.length)->Q (.ref (s.heap.objs.size+1)) {s with heap:=sortedAll s.heap vs (p.map λi=>vs.getD i Value.none).toArray}):
  wpAny (model prog w) A (call (.builtin "sorted") [.ref l]) Q E s:=
 qG (R:=λ_=>True) hl E6 mT zq (λh2=>(Ck (by omega)).mono λ_ hp=>⟨hp,trivial⟩) (λ_=>trivial) λp hp _=>h p hp
noncomputable def L5 (x y:Int×Int):Bool:=if x.1=y.1 then decide (x.2<y.2) else decide (x.1<y.1)
theorem Cm {x y:Addr} {ox oy:Obj} {a b c d:Int} {t1 t2 t3 t4:Tok} {n k:Nat} {C:Bool->Shared->Prop} (hx:s.heap.get? x=some ox) (dx:ox.data=.seq #[.int a t1,.int b t2] n) (hy:s.heap.get? y=some oy) (dy:oy.data=.seq #[.int c t3,.int d t4] k)
  (h:C (L5 (a,b) (c,d)) s):wpAny (model prog w) A (keyLt' (tuples' true) (.ref x) (.ref y)) C E s:=by
 refine kat_lt hx dx hy dy (kat_cons (wpAny_eqBool_int ?_))
 unfold L5 at h
 dsimp only at h
 by_cases e:a=c
 ·rw[if_pos e] at h
  subst e
  rw[show(a==a)=true by simp]
  refine kat_yes (kat_cons (wpAny_eqBool_int ?_))
  by_cases e2:b=d
  ·subst e2
   rw[show(b==b)=true by simp]
   refine kat_yes (kat_nil ?_)
   simpa using h
  ·rw[show(b==d)=false by simpa using e2]
   refine kat_no (kat_one _ _ ?_)
   exact CmpOf.ints_lt (P:=λi v=>∃t,v=Value.int (if i=0 then b else d) t) (λi=>if i=0 then b else d) (λi v h=>h) 0 1 _ _ s _ _ ⟨t2,rfl⟩ ⟨t4,rfl⟩ h
 ·rw[if_neg e] at h
  rw[show(a==c)=false by simpa using e]
  exact kat_no (oneLt_int h)
end
end KS
namespace L2
open PySem PySem.Spec PyProof.Rows PySem.W
section
variable {X : Cx} {K : PySem.W.Frag}
theorem xY {xs:List V} {us:List Value} (r:bu xs us) (p:List Nat) (hp:p.Perm (List.range us.length)):∃ys,ys.Perm xs/\bu ys (p.map λi=>us.getD i Value.none):=by
 have hl:=r.length
 have get:∀i,i<us.length->∃x u,xs[i]?=some x/\us[i]?=some u/\RelV x u:=by
  clear hp hl
  induction r with
  | nil=>intro i hi;simp at hi
  | cons r1 r2 ih=>
   intro i hi
   cases i with
   | zero=>exact⟨_,_,rfl,rfl,r1⟩
   | succ i=>
    obtain⟨x,u,a1,a2,a3⟩:=ih i (by simpa using hi)
    exact⟨x,u,by simpa using a1,by simpa using a2,a3⟩
 refine⟨p.map λi=>xs.getD i .cB,?_,?_⟩
 ·refine(hp.map _).trans ?_
  rw[<-hl]
  have:(List.range xs.length).map (λi=>xs.getD i V.cB)=xs:=by
   apply aaS
   intro i
   rw[aad]
   by_cases hi:i<xs.length
   ·rw[aa0 hi,aac hi]
    simp [hi]
   ·rw[aaq (by rw[aaz];omega),aaq (by omega)]
    rfl
  rw[this]
 ·have hb:∀i∈p,i<us.length:=λi hi=>List.mem_range.mp (hp.mem_iff.mp hi)
  clear hp
  induction p with
  | nil=>exact .nil
  | cons i p ih=>
   obtain⟨x,u,a1,a2,a3⟩:=get i (hb i aai)
   refine .cons ?_ (ih λj hj=>hb j (aaj _ hj))
   show RelV (xs.getD i V.cB) (us.getD i Value.none)
   rw[aae,aae,a1,a2]
   exact a3
noncomputable def zt (H:Hp) (xs:List V):Prop:=∀x∈xs,∃t a b,x=.ref t/\H t=some (.tup [.int a,.int b])
theorem oO:cU X (.builtin "sorted") (λxs H Q=>∃p ys,xs=[.ref p]/\aZ X.K H p ys/\ys.length<64/\zt H ys/\∀l zs,H l=none->zs.Perm ys->Q (.ref l) (upd H l (.lst zs))):=by
 intro pins s σ H xs us Q I r h
 obtain⟨p,ys,rfl,hq,hn,hP,q⟩:=h
 obtain⟨u,rfl,rx⟩:=vals1 r
 cases rx
 obtain⟨aU,rv,pl,hz⟩:=I.list hq
 have hl:=rv.length
 have each:∀v∈aU,∃t o a b t1 t2 n,v=.ref t/\s.heap.get? t=some o/\o.cls=.type "tuple"/\o.data=.seq #[.int a t1,.int b t2] n:=by
  clear hq hl q pl hz hn
  induction rv with
  | nil=>intro v hv;simp at hv
  | cons r1 r2 ih=>
   intro v hv
   rcases List.mem_cons.mp hv with rfl | hv
   ·obtain⟨t,a,b,rfl,ht⟩:=hP _ aai
    cases r1
    obtain⟨ZY,v2,tp,_⟩:=I.tuple (d6.of ht)
    obtain⟨o,ho,hc,n,hd⟩:=tp
    cases v2 with
    | cons q1 q2=>
     cases q2 with
     | cons q3 q4=>
      cases q4
      obtain⟨t1,rfl⟩:=q1
      obtain⟨t2,rfl⟩:=q3
      exact⟨t,o,a,b,t1,t2,n,rfl,ho,hc,by simpa using hd⟩
   ·exact ih (λx hx=>hP x (aaj _ hx)) v hv
 have Ib:∀i:Nat,∃pr:Int×Int,∀v,aU[i]?=some v->∃t o t1 t2 n,v=.ref t/\s.heap.get? t=some o/\o.cls=.type "tuple"/\o.data=.seq #[.int pr.1 t1,.int pr.2 t2] n:=λi=>by
  cases hi:aU[i]? with
  | none=>exact⟨(0,0),λv hv=>by cases hv⟩
  | some v=>
   obtain⟨t,o,a,b,t1,t2,n,e1,e2,e3,e4⟩:=each v (aaf hi)
   exact⟨(a,b),λv' hv=>by cases hv;exact⟨t,o,t1,t2,n,e1,e2,e3,e4⟩⟩
 obtain⟨f,hf⟩:=Classical.skolem.mp Ib
 refine KS.sV (lt:=λi j=>KS.L5 (f i) (f j)) (κ:=tuples' true) pl.isList (by omega) (λh2 h' Q' hk hq=>?_) (λi j h' C hi hj hk hC=>?_) λp hp=>?_
 ·have kP:∀(l:List Value),(∀v∈l,v∈aU)->∃fs,KatTups h' l fs/\fs.length=l.length/\∀v∈fs,∃a t,v=Value.int a t:=by
   intro l
   induction l with
   | nil=>intro _;exact⟨[],trivial,rfl,λv hv=>by simp at hv⟩
   | cons v l ih=>
    intro hm
    obtain⟨fs,k1,k2,k3⟩:=ih λx hx=>hm x (aaj _ hx)
    obtain⟨t,o,a,b,t1,t2,n,rfl,e2,e3,e4⟩:=each v (hm v aai)
    refine⟨.int a t1::fs,KatTups.cons (hk _ _ e2) e3 e4 rfl k1,by simp [k2],λx hx=>?_⟩
    rcases List.mem_cons.mp hx with rfl | hx
    ·exact⟨a,t1,rfl⟩
    ·exact k3 x hx
  obtain⟨fs,k1,k2,k3⟩:=kP aU λv hv=>hv
  exact kat_kind (T:=.type "int") (s:={s with heap:=h'}) k1 (by omega) (λv hv=>by obtain⟨a,t,rfl⟩:=k3 v hv;exact .now) (by decide) hq
 ·obtain⟨t,o,t1,t2,n,e1,e2,e3,e4⟩:=hf i _ (aac hi)
  obtain⟨t',o',t3,t4,n',zu,L6,ZZ,V5⟩:=hf j _ (aac hj)
  unfold kas_ask
  rw[aae,aae,aac hi,aac hj,e1,zu]
  exact KS.Cm (s:={s with heap:=h'}) (hk _ _ e2) e4 (hk _ _ L6) V5 hC
 ·obtain⟨zs,pz,vz⟩:=xY rv p hp
  obtain⟨e,he⟩:=sortedAll_at s.heap aU (p.map λi=>aU.getD i Value.none).toArray
  have fr:=I.bU.fresh (a:=s.heap.objs.size+1) (Nat.le_succ _)
  refine⟨.ref (s.heap.objs.size+1),_,I.laid (t':=s.toks) (λ_ _=>sortedAll_old) (Nat.le_succ _) (o:=.lst zs) ⟨?_,_,e,vz,?_⟩,rfl,q _ _ fr pz⟩
  ·rw[pz.length_eq,sizeLine_eq];omega
  ·exact he
theorem nB (hK:X.K=K:=by rfl):cU X (.builtin "sorted") (λxs H Q=>∃p ys,xs=[.ref p]/\aZ K H p ys/\ys.length<64/\zt H ys/\∀l zs,H l=none->zs.Perm ys->Q (.ref l) (upd H l (.lst zs))):=by subst hK;exact oO
end
end L2
namespace Lv
open L2
theorem E7 {fs:Fs} {k:Nat} {u:Int}:lk fs (k:Int)=some u↔fs[k]?=some (some u):=by
 rw[pN,aah]
noncomputable def nm (s:List Nat) (g:Int):Int:=((s.getD g.toNat 0:Nat):Int)
noncomputable def V6 (s:List Nat):Pl->Pl
 | .fin w=>.fin w
 | .cL w ws=>.cL w (ws.map λp=>(p.1,nm s p.2))
 | .bJ w to=>.bJ w (to.map (nm s))
noncomputable def turn (s:List Nat) (b:List Pl):List Pl:=(List.range b.length).map λj=>V6 s (b.getD (s.idxOf j) (.fin (0,1)))
section
variable {s : List Nat} {n : Nat} (p : s.Perm (List.range n))
include p
theorem zv:s.Nodup:=p.nodup_iff.mpr List.nodup_range
theorem zw {i i' j:Nat} (h:s[i]?=some j) (h':s[i']?=some j):i=i':=by
 have l1:=(List.getElem?_eq_some_iff.mp h).1
 exact(List.getElem?_inj l1 (zv p)).mp (h.trans h'.symm)
theorem qH {i j:Nat} (h:s[i]?=some j):s.idxOf j=i:=by
 have hm:j∈s:=aaf h
 have hl:s.idxOf j<s.length:=List.idxOf_lt_length_iff.mpr hm
 have:s[s.idxOf j]?=some j:=by rw[aac hl,aa5]
 exact zw p this h
end
end Lv
namespace PySem
open Builtin Builtin.Str
section
variable {prog : Program} {w : World} {A : Around} {E : Value -> Shared -> Prop} {s : Shared} {x y : Str} {t u : Tok} {Q : Value -> Shared -> Prop}
end
end PySem
namespace L2
open PySem PySem.Spec PyProof.Rows PySem.W
section
variable {X : Cx} {K : PySem.W.Frag}
noncomputable def V7 (z:Str):It:=⟨λi _=>i<z.cps.size,λi H x H'=>H'=H/\∃c,z.cps[i]?=some c/\x=.str ⟨#[c]⟩,λi _=>z.cps.size<=i⟩
noncomputable def iStr (tl:TE):TI:=λσ H R=>tl σ H λx H1=>∃z,x=.str z/\z.cps.all (·<128)=true/\R (V7 z) H1
theorem sW {x:Str} {i:Int} {pos:Pos} (hg:Gl X x) (h:∃t,X.mg x=some (.int i t)) (hd:(x==("__debug__":Str))=false:=by decide):PE X (.Name x pos) (tC (.int i)):=by
 obtain⟨t,h⟩:=h
 exact BB hg h ⟨t,rfl⟩ hd
end
end L2
namespace PySem
end PySem
namespace PySem
section
variable {M : Model} {A : Around} {E : Value -> Shared -> Prop} {s : Shared} {env : Env}
end
end PySem
namespace L2
open PySem PySem.Spec PyProof.Rows PySem.W
section
variable {M : Model} {A : Around} {E : Value -> Shared -> Prop} {s : Shared} {B : Heap} {l : List Env} {ad L : Addr} {cls a0 : Value}
end
section
variable {P : Program} {w : World} {K : PySem.W.Frag} {mg : Str -> Option Value} {base : Heap} {N : List Str} {qual : Str} {scope : Scope} {f : Addr} {cK : Value} {A : Around} {outer : List Env} {s0 : Shared} {H0 : Hp} {E : XK}
end
end L2
namespace L2
open PySem PySem.Spec PyProof.Rows PySem.W
section
variable {X : Cx}
noncomputable def Ic:V->List V->Hp->VK->Prop:=λx vs H Q=>∃l xs i y,x=.ref l/\vs=[.int i,y]/\H l=some (.lst xs)/\0<=i/\i<=(xs.length:Nat)/\xs.length<sizeLine/\Q .cB (upd H l (.lst (xs.take i.toNat++y::xs.drop i.toNat)))
theorem xZ:Hy X "list.insert" Ic:=by
 intro pins s σ H x vs v us Q I rx rv h
 obtain⟨l,xs,i,y,rfl,rfl,hH,h0,h1,hz,q⟩:=h
 cases rx
 obtain⟨u1,u2,rfl,⟨t,rfl⟩,ru⟩:=vals2 rv
 obtain⟨z,aU,n,r,hl,e⟩:=I.yS hH
 have sl:=sizeLine_eq
 refine call_meets PySem.F.slot_list_insert ⟨_,e,rfl⟩ PySem.F.entry_list_insert (PySem.F.args_list_insert_3 _ _ _) (AutoSeq1.list_insert_list_int_val_1 l aU.toArray n i t u2 (by rw[fitsIndex_both (by omega) (by omega)];decide) (by rw[aak];omega)) ⟨e,?_⟩
 have k2:(if i<0 then (i+ (aU.toArray.size:Int)).toNat else min i.toNat aU.toArray.size)=i.toNat:=by
  rw[if_neg (by omega),aak]
  omega
 refine⟨.cB,_,I.Hz (its':=aU.take i.toNat++u2::aU.drop i.toNat) hH e ?_ ?_ ?_,rfl,q⟩
 ·show(aU.toArray.extract 0 (if i<0 then (i+ (aU.toArray.size:Int)).toNat else min i.toNat aU.toArray.size)).push u2++aU.toArray.extract (if i<0 then (i+ (aU.toArray.size:Int)).toNat else min i.toNat aU.toArray.size)=_
  rw[k2]
  apply Array.toList_inj.mp
  simp [aaG]
 ·exact(r.take _).append (.cons ru (r.drop _))
 ·simp
  omega
end
end L2
namespace L2
open PySem PySem.Spec PyProof.Rows
structure pO (P:Program) (w:World) (K:PySem.W.Frag) (mg:Str->Option Value) (base:Heap) (CX:jR) (k:Nat) (x:Str) (C:Addr) (ps:List Str) (sp:Sp):Prop where
 ex:∃f fd,Mk K C f/\d7 P w K mg base CX k f fd ps sp/\mg x=some (.ref C)/\Binds K fd ps []
section
variable {X : Cx}
theorem zy {CX:jR} {k:Nat} {x:Str} {C:Addr} {ps:List Str} {sp:Sp} {E:XK} {e:Expr} {es:List Expr} {t:TA} {p pos:Pos} (M:pO X.prog X.w X.K X.mg X.base CX k x C ps sp) (hr:de (k+1) X.A) (hg:Gl X x) (hx:eC CX X E) (ha:PA X (e::es) t)
  (yN:(x==("__debug__":Str))=false:=by decide) (he:starEach (e::es) X.env=(false,eval e X.env)::starEach es X.env:=by rfl) (hpl:(backTo pos (starEach es X.env)).any (·.1)=false:=by rfl):
  PE X (.Call (.Name x p) (e::es) [] pos) (sr C sp [] E t):=by
 obtain⟨f,fd,m,F,hm,hb⟩:=M.ex
 exact BL m F hr hg hm hb .nil hx ha yN he hpl
end
structure L7 (K:PySem.W.Frag) (mg:Str->Option Value) (x qual:Str) (st:Stmt) (C:Addr):Prop where
 ex:∃f fd,uP K "__init__" qual st f fd/\Mk K C f/\mg x=some (.ref C)
theorem L7.eD {P:Program} {w:World} {K:PySem.W.Frag} {mg:Str->Option Value} {base:Heap} {CX:jR} {x qual:Str} {st:Stmt} {C:Addr} {ps:List Str} {k:Nat} {sp:Sp} (D:L7 K mg x qual st C)
  (hb:∀(kV doc pm:Value) (an:Option Addr) (cK ct:Value) (us:List Value),us.length=ps.length->bindArgs (PySem.W.fnOf "__init__" qual (aM st) (aJ st) (ae st) .none kV doc pm an cK ct) ⟨us,[]⟩=pure (ps.zip us))
  (h:∀f fd,uP K "__init__" qual st f fd->d7 P w K mg base CX k f fd ps sp):pO P w K mg base CX k x C ps sp:=by
 obtain⟨f,fd,F,m,hm⟩:=D.ex
 exact⟨f,fd,m,h f fd F,hm,F.binds hb⟩
end L2
namespace L2
open PySem PySem.Spec PyProof.Rows
noncomputable instance GP:DecidableEq PyData:=λ_ _=>Classical.propDecidable _
mutual
noncomputable def fY:PyData->Bool
 | .int _=>true
 | .str x=>PyData.canLay0 (.str x)
 | .tuple xs=>jZ xs
 | _=>false
noncomputable def jZ:List PyData->Bool
 | []=>true
 | x::xs=>fY x && jZ xs
end
mutual
theorem Cn:∀(d:PyData),fY d=true->d.canLay0=true
 | .none,h=>by simp [fY] at h
 | .bool _,h=>by simp [fY] at h
 | .int _,_=>by simp [PyData.canLay0]
 | .str x,h=>by rw[fY] at h;exact h
 | .list _,h=>by simp [fY] at h
 | .tuple xs,h=>by rw[fY] at h;rw[PyData.canLay0];exact sY xs h
 | .dict _,h=>by simp [fY] at h
theorem sY:∀(xs:List PyData),jZ xs=true->PyData.canLayAll0 xs=true
 | [],_=>by simp [PyData.canLayAll0]
 | x::xs,h=>by
  rw[jZ,aaR] at h
  rw[PyData.canLayAll0,aaR]
  exact⟨Cn x h.1,sY xs h.2⟩
end
mutual
theorem E8:∀(x y:PyData),fY x=true->fY y=true->PyData.eqv x y=decide (x=y)
 | .int i,y,_,hy=>by
  cases y with
  | int j=>
   rw[PyData.eqv]
   by_cases c:i=j
   ·subst c;simp
   ·rw[decide_eq_false (λe=>c (by injection e))]
    simp [c]
  | str _=>simp [PyData.eqv]
  | tuple _=>simp [PyData.eqv]
  | _=>simp [fY] at hy
 | .str a,y,_,hy=>by
  cases y with
  | str b=>
   rw[PyData.eqv]
   by_cases c:a=b
   ·subst c;simp
   ·rw[decide_eq_false (λe=>c (by injection e))]
    simp [c]
  | int _=>simp [PyData.eqv]
  | tuple _=>simp [PyData.eqv]
  | _=>simp [fY] at hy
 | .tuple xs,y,hx,hy=>by
  cases y with
  | tuple ys=>
   rw[fY] at hx hy
   rw[PyData.eqv,wd xs ys hx hy]
   by_cases c:xs=ys
   ·subst c;simp
   ·rw[decide_eq_false c,decide_eq_false (λe=>c (by injection e))]
  | int _=>simp [PyData.eqv]
  | str _=>simp [PyData.eqv]
  | _=>simp [fY] at hy
 | .none,_,h,_=>by simp [fY] at h
 | .bool _,_,h,_=>by simp [fY] at h
 | .list _,_,h,_=>by simp [fY] at h
 | .dict _,_,h,_=>by simp [fY] at h
theorem wd:∀(xs ys:List PyData),jZ xs=true->jZ ys=true->PyData.eqvAll xs ys=decide (xs=ys)
 | [],[],_,_=>by simp [PyData.eqvAll]
 | [],_::_,_,_=>by simp [PyData.eqvAll]
 | _::_,[],_,_=>by simp [PyData.eqvAll]
 | x::xs,y::ys,hx,hy=>by
  rw[jZ,aaR] at hx hy
  rw[PyData.eqvAll,E8 x y hx.1 hy.1,wd xs ys hx.2 hy.2]
  by_cases c:x=y
  ·subst c
   by_cases d:xs=ys
   ·subst d;simp
   ·rw[decide_eq_false d,decide_eq_false (λe=>d (List.cons.inj e).2)];simp
  ·rw[decide_eq_false c,decide_eq_false (λe=>c (List.cons.inj e).1)];simp
end
mutual
theorem u3 {h h':Heap} {d:Addr} {o:Obj} {es ep} (ho:h.get? d=some o) (hd:o.data=.dict es ep) (hs:Heap.SameBut d h h'):∀(x:PyData) (v:Value) (as:List Addr),fY x=true->Reads h v x as->Reads h' v x as
 | .int _,_,_,_,r=>by cases r;exact .int _ _
 | .str _,_,_,_,r=>by cases r;exact .str _ _
 | .tuple xs,_,_,hx,r=>by
  rw[fY] at hx
  cases r with
  | @tuple a o' vs n _ _ e c q t=>
   have ne:a≠d:=λz=>by
    subst z
    rw[ho] at e
    cases e
    rw[hd] at q
    cases q
   exact .tuple ((hs.2 a ne).trans e) c q (kE ho hd hs xs _ _ hx t)
 | .none,_,_,h,_=>by simp [fY] at h
 | .bool _,_,_,h,_=>by simp [fY] at h
 | .list _,_,_,h,_=>by simp [fY] at h
 | .dict _,_,_,h,_=>by simp [fY] at h
theorem kE {h h':Heap} {d:Addr} {o:Obj} {es ep} (ho:h.get? d=some o) (hd:o.data=.dict es ep) (hs:Heap.SameBut d h h'):∀(xs:List PyData) (vs:List Value) (as:List Addr),jZ xs=true->ReadsAll h vs xs as->ReadsAll h' vs xs as
 | [],_,_,_,r=>by cases r;exact .nil
 | x::xs,_,_,hx,r=>by
  rw[jZ,aaR] at hx
  cases r with
  | cons r1 r2=>exact .cons (u3 ho hd hs x _ _ hx.1 r1) (kE ho hd hs xs _ _ hx.2 r2)
end
mutual
noncomputable def we (w:World):PyData->Int
 | .int i=>Ea w (.inl i)
 | .str x=>Ea w (.inr x)
 | .tuple xs=>reduceHash (Builtin.Tuple.tupleHashOf (eO w xs))
 | _=>0
noncomputable def eO (w:World):List PyData->List Int
 | []=>[]
 | x::xs=>we w x::eO w xs
end
mutual
noncomputable def Kx:PyData->Nat
 | .tuple xs=>nE xs+1
 | _=>1
noncomputable def nE:List PyData->Nat
 | []=>0
 | x::xs=>Kx x+nE xs
end
section
variable {prog : Program} {w : World}
noncomputable def PH (prog:Program) (w:World) (m:Nat) (h:Heap) (d:PyData) (v:Value):Prop:=∀(A:Around) (E:Value->Shared->Prop) (s:Shared) (Q:Int->Shared->Prop),s.heap=h->A.units+m<cLine->
 Q (we w d) {s with toks:=s.toks+Kx d}->wpAny (model prog w) A (pyHash v) Q E s
inductive DL (prog:Program) (w:World) (m:Nat) (h:Heap):List PyData->List Value->Prop
 | nil:DL prog w m h [] []
 | cons {d v ds vs}:PH prog w m h d v->DL prog w m h ds vs->DL prog w m h (d::ds) (v::vs)
theorem x8 (xs ys:List PyData):eO w (xs++ys)=eO w xs++eO w ys:=by
 induction xs with
 | nil=>simp [eO]
 | cons x xs ih=>simp [eO,ih]
theorem zA (xs ys:List PyData):nE (xs++ys)=nE xs+nE ys:=by
 induction xs with
 | nil=>simp [nE]
 | cons x xs ih=>simp [nE,ih,Nat.add_assoc]
theorem zB {m:Nat} {h:Heap} {ds:List PyData} {a:Addr} {o:Obj} {items n} (ho:h.get? a=some o) (hc:o.cls=.type "tuple") (hd:o.data=.seq items n) (hi:DL prog w m h ds items.toList):PH prog w (m+1) h (.tuple ds) (.ref a):=by
 intro A E s Q hh hu hq
 subst hh
 have hT:s.TypeIs (.ref a) "tuple":=⟨o,ho,hc⟩
 have V8:A.units<cLine:=by omega
 unfold pyHash
 first | unfold pyHashByItsType | skip
 first | refine wpAny_bind (wpAny_cRoomFor_or (.inr V8) ?_) | skip
 refine wpAny_bind (wpAny_specialOf hT F.slot_tuple_hash.lookup ?_)
 show wpAny _ _ (if (some (Value.builtin "tuple.__hash__")==some Value.none)=true then _ else _) Q E s
 rw[if_neg (by rw[beq_builtin_none];exact aay)]
 refine wpAny_bind (wpAny_specialOf hT F.slot_tuple_hash.lookup ?_)
 show wpAny _ _ (callSpecialIfBoundUnlessNone? (.ref a) "__hash__" _ >>=_) Q E s
 refine wpAny_bind (wpAny_callSpecialIfBoundUnlessNone?_slot hT F.slot_tuple_hash (wpAny_call_entry F.slot_tuple_hash hT F.entry_tuple_hash ?_ (F.args_tuple_hash_1 _)))
 show wpAny _ _ (Builtin.Tuple.tupleItemsOf (.ref a) >>=_) _ _ s
 refine wpAny_bind (wpAny_tupleItemsOf ho hd ?_)
 refine wpAny_bind ?_
 rw[<-Array.forIn_toList]
 refine wpAny_forIn_list _
  (λrest (b:Array Int) s'=>∃done left,ds=done++left/\DL prog w m s.heap left rest/\b.toList=eO w done/\s'={s with toks:=s.toks+nE done})
  _ ?_ ?_ _ _ ⟨[],ds,rfl,hi,rfl,rfl⟩
 ·rintro x rest b s' ⟨done,left,rfl,hl,hb,rfl⟩
  cases hl with
  | @cons k _ dt _ h1 oH=>
   refine wpAny_bind (h1 _ _ _ _ rfl (by show A.units+1+m<cLine;omega) ?_)
   have e1:(b.push (we w k)).toList=eO w (done++ [k]):=by rw[x8];simp [hb,eO]
   have e2:s.toks+nE done+Kx k=s.toks+nE (done++ [k]):=by rw[zA];simp [nE,Nat.add_assoc]
   first
    | exact wpAny_pure ⟨done++ [k],dt,by simp,oH,e1,by rw[<-e2]⟩
    | exact wpAny_bind (wpAny_pure (wpAny_pure ⟨done++ [k],dt,by simp,oH,e1,by rw[<-e2]⟩))
 ·rintro b s' ⟨done,left,rfl,hl,hb,rfl⟩
  cases hl
  rw[aa4] at hq
  show wpAny _ _ (retInt (Builtin.Tuple.tupleHashOf b.toList)) _ _ _
  rw[hb]
  refine wpAny_ret_mkInt ?_
  show wpAny _ _ (if (decide (-(2:Int)^63<=Builtin.Tuple.tupleHashOf (eO w done)) && decide (Builtin.Tuple.tupleHashOf (eO w done)<2^63))=true then _ else _) Q E _
  rw[we,Kx] at hq
  unfold reduceHash at hq
  by_cases hr:(decide (-(2:Int)^63<=Builtin.Tuple.tupleHashOf (eO w done)) && decide (Builtin.Tuple.tupleHashOf (eO w done)<2^63))=true
  ·rw[if_pos hr]
   rw[if_pos hr] at hq
   exact wpAny_pure (by simpa [Nat.add_assoc] using hq)
  ·rw[if_neg hr]
   rw[if_neg hr] at hq
   exact wpAny_bind (wpAny_rule (wpAny_pure (by simpa [Nat.add_assoc] using hq)))
mutual
theorem E9 {h:Heap}:∀(d:PyData) (v:Value) (as:List Addr),fY d=true->Reads h v d as->PH prog w d.depth h d v
 | .int i,_,_,_,r=>by
  cases r with
  | int _ t=>
   intro A E s Q _ _ hq
   exact(bY prog w).pyHash (k:=.inl i) (kB (k:=.inl i) ⟨t,rfl⟩) hq
 | .str x,_,_,_,r=>by
  cases r with
  | str _ t=>
   intro A E s Q _ _ hq
   exact(bY prog w).pyHash (k:=.inr x) (kB (k:=.inr x) ⟨t,rfl⟩) hq
 | .tuple xs,_,_,hx,r=>by
  rw[fY] at hx
  cases r with
  | tuple e c q t=>exact zB e c q (wj xs _ _ hx t)
 | .none,_,_,h,_=>by simp [fY] at h
 | .bool _,_,_,h,_=>by simp [fY] at h
 | .list _,_,_,h,_=>by simp [fY] at h
 | .dict _,_,_,h,_=>by simp [fY] at h
theorem wj {h:Heap}:∀(ds:List PyData) (vs:List Value) (as:List Addr),jZ ds=true->ReadsAll h vs ds as->DL prog w (PyData.depthAll ds) h ds vs
 | [],_,_,_,r=>by cases r;exact .nil
 | x::xs,_,_,hx,r=>by
  rw[jZ,aaR] at hx
  cases r with
  | cons r1 r2=>
   have p1:=E9 x _ _ hx.1 r1
   have p2:=wj xs _ _ hx.2 r2
   have up:∀{m m':Nat} {ds:List PyData} {vs:List Value},m<=m'->DL prog w m h ds vs->DL prog w m' h ds vs:=λl q=>by
    induction q with
    | nil=>exact .nil
    | cons p _ ih=>exact .cons (λA E s Q e u=>p A E s Q e (by omega)) ih
   refine .cons (λA E s Q e u=>p1 A E s Q e ?_) (up ?_ p2)
   ·rw[PyData.depthAll] at u
    omega
   ·rw[PyData.depthAll]
    omega
end
theorem sZ {h:Heap} {k:Nat} {a:Addr} {o:Obj} {items n} (ho:h.get? a=some o) (hc:o.cls=.type "tuple") (hd:o.data=.seq items n) (hi:∀v∈items.toList,∀(A:Around) (E:Value->Shared->Prop) (s:Shared) (Q:Bool->Shared->Prop),s.heap=h->Q true s->wpAny (model prog w) A (eqIsQuiet k v) Q E s)
  (A:Around) (E:Value->Shared->Prop) (s:Shared) (Q:Bool->Shared->Prop) (hh:s.heap=h) (hq:Q true s):wpAny (model prog w) A (eqIsQuiet (k+1) (.ref a)) Q E s:=by
 subst hh
 have hT:s.TypeIs (.ref a) "tuple":=⟨o,ho,hc⟩
 unfold eqIsQuiet
 refine wpAny_bind (wpAny_specialOf hT F.slot_tuple_eq.lookup ?_)
 show wpAny _ _ (isInstance (.ref a) (.type "tuple") >>=_) _ _ s
 refine wpAny_bind (wpAny_isInstance hT isSubtype_tuple_tuple ?_)
 simp only[Bool.not_true,Bool.false_eq_true,if_false]
 refine wpAny_bind (wpAny_seqItems ho hd ?_)
 refine wpAny_bind ?_
 show wpAny _ _ (forIn items _ _) _ _ s
 rw[<-Array.forIn_toList]
 refine wpAny_forIn_list _ (λrest r s'=>r.1=none/\s'=s/\∀v∈rest,v∈items.toList) _ ?_ ?_ _ _ ⟨rfl,rfl,λ_ h=>h⟩
 ·rintro v rest r s' ⟨hr,rfl,xS⟩
  refine wpAny_bind (hi v (xS v aai) _ _ _ _ rfl ?_)
  simp only[Bool.not_true,Bool.false_eq_true,if_false]
  exact wpAny_pure ⟨rfl,rfl,λu V9=>xS u (aaj _ V9)⟩
 ·rintro⟨r1,r2⟩ s' ⟨hr,rfl,_⟩
  simp only at hr
  subst hr
  exact wpAny_pure hq
mutual
theorem x9 {h:Heap}:∀(d:PyData) (v:Value) (as:List Addr) (k:Nat),fY d=true->d.depth<=k->Reads h v d as->∀(A:Around) (E:Value->Shared->Prop) (s:Shared) (Q:Bool->Shared->Prop),s.heap=h->Q true s->wpAny (model prog w) A (eqIsQuiet k v) Q E s
 | .int _,_,_,_,_,_,r=>by
  cases r
  intro A E s Q _ hq
  rw[eqIsQuiet_byValue _ rfl]
  exact wpAny_pure hq
 | .str _,_,_,_,_,_,r=>by
  cases r
  intro A E s Q _ hq
  rw[eqIsQuiet_byValue _ rfl]
  exact wpAny_pure hq
 | .tuple xs,_,_,k,hx,hk,r=>by
  rw[fY] at hx
  rw[PyData.depth] at hk
  cases k with
  | zero=>omega
  | succ k=>
   cases r with
   | tuple e c q t=>exact sZ e c q (nF xs _ _ k hx (by omega) t)
 | .none,_,_,_,h,_,_=>by simp [fY] at h
 | .bool _,_,_,_,h,_,_=>by simp [fY] at h
 | .list _,_,_,_,h,_,_=>by simp [fY] at h
 | .dict _,_,_,_,h,_,_=>by simp [fY] at h
theorem nF {h:Heap}:∀(ds:List PyData) (vs:List Value) (as:List Addr) (k:Nat),jZ ds=true->PyData.depthAll ds<=k->ReadsAll h vs ds as->∀v∈vs,∀(A:Around) (E:Value->Shared->Prop) (s:Shared) (Q:Bool->Shared->Prop),s.heap=h->Q true s->wpAny (model prog w) A (eqIsQuiet k v) Q E s
 | [],_,_,_,_,_,r=>by
  cases r
  intro v hv
  simp at hv
 | x::xs,_,_,k,hx,hk,r=>by
  rw[jZ,aaR] at hx
  rw[PyData.depthAll] at hk
  cases r with
  | cons r1 r2=>
   intro v hv
   rcases List.mem_cons.mp hv with rfl | hv
   ·exact x9 x _ _ k hx.1 (by omega) r1
   ·exact nF xs _ _ k hx.2 (by omega) r2 v hv
end
end
end L2
namespace L2
open PySem PySem.Spec PyProof.Rows
mutual
noncomputable def toP:Dat->PyData
 | .cB=>.none
 | .bl b=>.bool b
 | .int i=>.int i
 | .str x=>.str x
 | .tup l=>.tuple (toPL l)
 | .lst l=>.list (toPL l)
noncomputable def toPL:List Dat->List PyData
 | []=>[]
 | d::ds=>toP d::toPL ds
end
section
variable {P : Program} {w : World} {H : Hp} {h : Heap}
mutual
theorem nG (ok:gm P w H h):∀(d:Dat) (v:V) (u:Value),Rep H d v->RelV v u->∃as,Reads h u (toP d) as
 | .cB,v,u,r,q=>by
  rw[Rep] at r
  subst r
  cases (show u=Value.none from q)
  exact⟨_,.none⟩
 | .bl b,v,u,r,q=>by
  rw[Rep] at r
  subst r
  cases (show u=Value.bool b from q)
  exact⟨_,.bool b⟩
 | .int i,v,u,r,q=>by
  rw[Rep] at r
  subst r
  obtain⟨t,rfl⟩:=(show ∃t,u=Value.int i t from q)
  exact⟨_,.int i t⟩
 | .str x,v,u,r,q=>by
  rw[Rep] at r
  subst r
  obtain⟨t,rfl⟩:=(show ∃t,u=Value.str x t from q)
  exact⟨_,.str x t⟩
 | .tup l,v,u,r,q=>by
  rw[Rep] at r
  obtain⟨p,vs,rfl,hp,rl⟩:=r
  cases (show u=Value.ref p from q)
  obtain⟨_,aU,rv,o,h1,h2,n,h3⟩:=(show cI P w H h p (.tup vs) from ok p _ hp)
  obtain⟨as,ra⟩:=j1 ok l vs aU rl rv
  exact⟨as,.tuple h1 h2 h3 (by simpa using ra)⟩
 | .lst l,v,u,r,q=>by
  rw[Rep] at r
  obtain⟨p,vs,rfl,hp,rl⟩:=r
  cases (show u=Value.ref p from q)
  obtain⟨_,aU,n,rv,h1⟩:=(show cI P w H h p (.lst vs) from ok p _ hp)
  obtain⟨as,ra⟩:=j1 ok l vs aU rl rv
  exact⟨p::as,.list h1 rfl rfl (by simpa using ra)⟩
theorem j1 (ok:gm P w H h):∀(ds:List Dat) (vs:List V) (us:List Value),aY H ds vs->bu vs us->∃as,ReadsAll h us (toPL ds) as
 | [],vs,us,r,q=>by
  rw[aY] at r
  subst r
  cases q
  exact⟨_,.nil⟩
 | d::ds,vs,us,r,q=>by
  rw[aY] at r
  obtain⟨v,rest,rfl,r1,r2⟩:=r
  cases q with
  | cons q1 q2=>
   obtain⟨a1,h1⟩:=nG ok d v _ r1 q1
   obtain⟨a2,h2⟩:=j1 ok ds rest _ r2 q2
   exact⟨_,.cons h1 h2⟩
end
end
abbrev Rows:=List (Dat×Addr×Int)
abbrev Z1:Rows->List (PyData×Addr×Value)->Prop:=Paired λp q=>toP p.1=q.1/\p.2.1=q.2.1/\∃t,q.2.2=Value.int p.2.2 t
section
variable {P : Program} {w : World} {H : Hp} {h : Heap} {a : Addr}
end
section
variable {X : Cx} {P : Program} {w : World} {o i e value : Expr} {pos pos' kQ : Pos} {td ty tv : TE}
end
end L2
namespace KS
open PySem PySem.W PyProof.Rows
section
variable {prog : Program} {w : World} {A : Around} {E : Value -> Shared -> Prop} {s : Shared}
end
end KS
namespace L2
open PySem PySem.Spec PyProof.Rows PySem.W
section
variable {X : Cx} {K : PySem.W.Frag}
noncomputable def Fb (K:PySem.W.Frag):V->List V->Hp->VK->Prop:=λx vs H Q=>∃l ns k,x=.ref l/\vs=[.int k]/\aZ K H l (List.map V.int ns)/\k∈ns/\ns.length<=1000/\Q (.int (ns.idxOf k:Nat)) H
theorem ya:GK X "list.index" (Fb X.K):=by
 intro pins s σ H x vs v us Q I rx rv h
 obtain⟨l,ns,k,rfl,rfl,hq,hk,hn,q⟩:=h
 cases rx
 obtain⟨u,rfl,ru⟩:=vals1 rv
 obtain⟨t,rfl⟩:=ru
 obtain⟨aU,r,pl,hz⟩:=I.list hq
 have A1:=intsAre_of r
 have fQ:=aa1 hk
 have lI:=A1.length
 obtain⟨⟨c1,d1,d2,sl⟩,ho,e1,m,e2⟩:=pl.isList
 cases e1
 cases e2
 have hit:=isInt_at k A1 (ns.idxOf k) (by omega) fQ
 refine call_meets PySem.F.slot_list_index ⟨_,ho,rfl⟩ PySem.F.entry_list_index (PySem.F.args_list_index_2 _ _) (PySem.SeqAt.list_indexAt l aU.toArray m d1 sl (.int k t) (isInt k) (ns.idxOf k) (by rw[aak];omega) (by omega) (hit.trans (by simp)) (λj hj hl=>?_)) ⟨ho,λy hy=>?_,⟨.int _,H,I.tok _,⟨_,rfl⟩,q⟩⟩
 ·rw[aak] at hj
  exact(isInt_at k A1 j hj (by omega)).trans (ne_of_lt_idxOf hl _)
 ·exact(eq_isInt k t A1 y (List.mem_toArray.mp hy)).at _ _
theorem u4 (hK:X.K=K:=by rfl):GK X "list.index" (Fb K):=by subst hK;exact ya
end
end L2
namespace L2
open PySem PySem.Spec PyProof.Rows PySem.W
section
variable {X : Cx} {K : PySem.W.Frag}
theorem pP {P:Program} {w:World} {H:Hp} {h:Heap} (ok:gm P w H h) {ds:List Dat} {xs:List V} {us:List Value} (r:aY H ds xs) (v:bu xs us) {i:Nat} {u:Value} (e:us[i]?=some u):∃d as,ds[i]?=some d/\Reads h u (toP d) as:=by
 have l1:=r.length
 have l2:=v.length
 have hi:=(List.getElem?_eq_some_iff.mp e).1
 have ex:xs[i]?=some (xs[i]'(by omega)):=aac (by omega)
 obtain⟨u',e1,rv⟩:=v.get ex
 rw[e] at e1
 cases e1
 obtain⟨d,ed,rd⟩:=r.get ex
 obtain⟨as,ra⟩:=nG ok d _ _ rd rv
 exact⟨d,as,ed,ra⟩
end
end L2
namespace L2
open PySem PySem.Spec PyProof.Rows
structure oP (base:Heap) (mg:Str->Option Value) (tc tp:Addr):Prop where
 blt:base.BuiltinsAt mg tp
 code:PySem.W.CodeHd base tc tp
theorem law_callT {P:Program} {tp tc:Addr} {dsc:Array Value} {w:World} {K:PySem.W.Frag} {mg mb:Str->Option Value} {CX:jR} {k:Nat} {fa a:Addr} {fd:FuncData} {x:Str} {sp:Sp} {s₁:Shared} {vs:List Value} {ns:List Int}
  (KX:K.In s₁.heap) (DJ:s₁.heap.Ns mainGlobals mg) (hb:s₁.heap.Ns builtinsNs mb) (L8:∀x:Str,x≠"__name__"->mb x=bootBuiltins x) (Fc:s₁.heap.NoLimit) (hg:s₁.gens=#[])
  (ha:s₁.heap.get? a=some {cls:=.type "list",data:=.seq vs.toArray}) (hi:IntsAre vs ns) (hl:ns.length<=sizeLine) (hr:de k callerA)
  (kX:s₁.heap.get? tp=some (PySem.W.tabObj #[])) (TV:PySem.W.CodeHd s₁.heap tc tp) (Wb:K.lookup tp=none) (GQ:s₁.heap.BuiltinsAt mg tp)
  (F:∀base:Heap,K.In base->base.Ns mainGlobals mg->oP base mg tc tp->d7 P w K mg base CX k fa fd [x] sp) (zC:∀(s:Shared) (u:Value),BindsTo s fd ⟨[u],[]⟩ [(x,u)])
  (Bh:∀H:Hp,H tp=some (.rQ dsc)->aZ K H a (ns.map V.int)->sp [.ref a] H (λv _=>v=.bl true) λ_ _ _=>False)
  (L9:∀H e s',CX [] H s₁ (λ_ _ _=>False) e s'->False):
  codeAny (model P w) callerA (.call (.ref fa) ⟨[.ref a],[]⟩) (λr s'=>r=.ok (.ret (.bool true))/\OldK s₁.heap s'.heap/\s'.os=s₁.os/\AllBare s'.gens) s₁:=by
 have rv:=pE hi
 have Ma:=hi.length
 have TX:tp≠a:=λz=>by rw[z,ha] at kX;cases kX
 have core:∀H:Hp,(∀b,b≠tp->H b=none\/∃o xs,H b=some (.uk o (.lst xs)))->H tp=some (.rQ dsc)->aZ K H a (ns.map V.int)->gm P w H s₁.heap->(∀b,H b≠none->b=a\/b=tp)->(H a≠none->K.lookup a=none)->
   codeAny (model P w) callerA (.call (.ref fa) ⟨[.ref a],[]⟩) (λr s'=>r=.ok (.ret (.bool true))/\OldK s₁.heap s'.heap/\s'.os=s₁.os/\AllBare s'.gens) s₁:=by
  intro H hO hT hS bU hA hK
  have qI:∀{b:Addr} {o:Obj},s₁.heap.get? b=some o->H b=none->(mJ s₁.heap H).get? b=some o:=λe n=>yA e n
  have Ht:∀{b:Addr} {o:Obj} {es:Array DictEntry} {ep:Nat},s₁.heap.get? b=some o->o.data=.dict es ep->H b=none:=λ{b o es ep} e d=>by
   cases q:H b with
   | none=>rfl
   | some u=>
    rcases hA b (by rw[q];simp) with e' | e'
    ·subst e'
     rw[ha] at e;cases e
     have d':Data.seq vs.toArray _=Data.dict es ep:=d
     cases d'
    ·subst e'
     rw[kX] at e;cases e
     cases d
  have Ky:∀{b:Addr} {m:Str->Option Value},s₁.heap.Ns b m->(mJ s₁.heap H).Ns b m:=λ{b m} ⟨o,es,ep,e,d,r⟩=>⟨o,es,ep,qI e (Ht e d),d,r⟩
  have TY:K.In (mJ s₁.heap H):=λb o e=>qI (KX b o e) (by
   cases q:H b with
   | none=>rfl
   | some u=>
    rcases hA b (by rw[q];simp) with e' | e'
    ·subst e'
     rw[hK (by rw[q];simp)] at e;cases e
    ·subst e'
     rw[Wb] at e;cases e)
  have hM:Mod K mg (mJ s₁.heap H):=⟨TY,Ky DJ,⟨mb,Ky hb,L8⟩,let ⟨mc,h1,h2⟩:=Fc;⟨mc,Ky h1,h2⟩⟩
  have e0:uG P w K mg (mJ s₁.heap H) callerA [] s₁ H:=⟨rfl,hM,λb o e=>By e,Nat.le_of_eq (xy _ _),trivial,λb hb=>absurd (show b∈([]:List Addr) from hb) (by simp),bU,.of_eq hg⟩
  have Wc:oP (mJ s₁.heap H) mg tc tp:=by
   have look:∀{b:Addr} {o:Obj},s₁.heap.get? b=some o->b≠tp->o.cls≠.type "list"->(mJ s₁.heap H).get? b=some o:=λ{b o} e n c=>qI e (by
    cases q:H b with
    | none=>rfl
    | some u=>
     rcases hA b (by rw[q];simp) with e' | e'
     ·subst e'
      rw[ha] at e;cases e
      exact absurd rfl c
     ·exact absurd e' n)
   obtain⟨bm,o,b1,b2,b3,b4,b5,b6,b7⟩:=GQ
   obtain⟨o',HV,file,tf,flags,tg,Wd,text,tt,c1,c2,c3⟩:=TV
   exact⟨⟨bm,o,b1,b2,b3,b4,look b5 b4 (λz=>by rw[b6] at z;injection z with z;exact absurd z (by decide)),b6,b7⟩,⟨o',HV,file,tf,flags,tg,Wd,text,tt,look c1 c3.2.2.2.2.2.2.2 (λz=>by rw[c2] at z;injection z with z;exact absurd z (by decide)),c2,c3⟩⟩
  refine codeAny_mono ((F _ TY (Ky DJ) Wc).run callerA [] s₁ H ⟨[.ref a],[]⟩ [.ref a] [.ref a] _ _ hr e0 (zC s₁ (.ref a)) (.cons rfl .nil) (Bh H hT hS)) λr s' h=>?_
  cases r with
  | error e=>exact(L9 H e s' h).elim
  | ok fl=>
   cases fl with
   | next=>exact False.elim h
   | brk=>exact False.elim h
   | cont=>exact False.elim h
   | ret u=>
    obtain⟨v,H',os,bare,un,Ie,r',q⟩:=h
    have q':v=.bl true:=q
    subst q'
    obtain rfl:u=Value.bool true:=r'
    have fin:∀b o,b≠tp->s₁.heap.get? b=some o->s'.heap.get? b=some o:=λb o hb e=>by
     cases q:H b with
     | none=>exact un.keep b o e q (by intro z;exact absurd (show b∈([]:List Addr) from z) (by simp)) (by simp)
     | some u=>
      rcases hO b hb with z | ⟨ob,xs,z⟩
      ·rw[q] at z;cases z
      ·have z2:=un.mH b ob _ z
       obtain⟨e1,_⟩:=bU b _ z
       obtain⟨e2,_⟩:=Ie b _ z2
       rw[e] at e1;cases e1
       exact e2
    obtain⟨more,hm⟩:=un.mI tp _ hT
    obtain⟨mo,e7,_⟩:=Ie tp _ hm
    have Ig:s'.heap.get? tp=some {cls:=.none,data:=.fields (#[]++mo)}:=by rw[Array.empty_append];exact e7
    refine⟨rfl,⟨λb o e=>?_,λb o e=>?_⟩,os,bare⟩
    ·by_cases hb:b=tp
     ·subst hb
      rw[kX] at e
      cases e
      exact .inr (.inl ⟨(TV.tab kX).isCodeTable,rfl,_,mo,rfl,Ig⟩)
     ·exact .inl (fin b o hb e)
    ·by_cases hb:b=tp
     ·subst hb
      exact⟨_,Ig⟩
     ·exact⟨o,fin b o hb e⟩
 cases hk:K.lookup a with
 | some o=>
  have e:=KX a o hk
  rw[ha] at e
  cases e
  refine core (λb=>if b=tp then some (.rQ dsc) else none) (λb hb=>.inl (if_neg hb)) (if_pos rfl) (.inr ⟨_,vs.toArray,_,hk,rfl,rfl,rfl,by rw[aak,Ma];exact hl,by simpa using rv⟩) (λb u z=>?_) (λb z=>?_) λz=>absurd (if_neg (Ne.symm TX)) z
  ·by_cases hb:b=tp
   ·have z':=(if_pos hb).symm.trans z
    cases z'
    subst hb
    exact⟨#[],kX,.inl rfl⟩
   ·have z':=(if_neg hb).symm.trans z
    cases z'
  ·by_cases hb:b=tp
   ·exact .inr hb
   ·exact absurd (if_neg hb) z
 | none=>
  refine core (λb=>if b=tp then some (.rQ dsc) else if b=a then some (.uk {cls:=.type "list",data:=.seq vs.toArray} (.lst (ns.map V.int))) else none) (λb hb=>?_) (if_pos rfl) (.inl (.inr ⟨{cls:=.type "list",data:=.seq vs.toArray},(if_neg (Ne.symm TX)).trans (if_pos rfl)⟩)) (λb u z=>?_) (λb z=>?_) λ_=>hk
  ·by_cases Co:b=a
   ·exact .inr ⟨_,_,(if_neg hb).trans (if_pos Co)⟩
   ·exact .inl ((if_neg hb).trans (if_neg Co))
  ·by_cases hb:b=tp
   ·have z':=(if_pos hb).symm.trans z
    cases z'
    subst hb
    exact⟨#[],kX,.inl rfl⟩
   ·by_cases Co:b=a
    ·have z':=((if_neg hb).trans (if_pos Co)).symm.trans z
     cases z'
     subst Co
     exact⟨ha,by rw[aab];exact hl,vs,_,rv,ha⟩
    ·have z':=((if_neg hb).trans (if_neg Co)).symm.trans z
     cases z'
  ·by_cases hb:b=tp
   ·exact .inr hb
   ·by_cases Co:b=a
    ·exact .inl Co
    ·exact absurd ((if_neg hb).trans (if_neg Co)) z
theorem zD {tp tc:Addr} {dsc:Array Value} {l:PySem.W.OpenLaw} {n k:Nat} {q:Program} {loose:List Str} {XP:(Str->Option Value)->Heap->Prop} {YP:World->Heap->Prop} {d:DefRec} {K:Params->PySem.W.Frag} {CX:World->jR} {sp:World->Sp} {x:Str}
  (hn:l.most=some n) (Kq:n<=sizeLine) (HI:d.params.defaults=[]) (hr:de k callerA)
  (hY:∀(w:World) (h:Heap),YP w h->(K w.params).In h)
  (Mb:∀(w:World) (h:Heap),YP w h->h.get? tp=some (PySem.W.tabObj #[])/\PySem.W.CodeHd h tc tp/\(K w.params).lookup tp=none)
  (F:∀(w:World) (mg:Str->Option Value) (fa:Addr) (h:Heap),(K w.params).In h->h.Ns mainGlobals mg->mg d.name=some (.ref fa)->
   ∃fd:FuncData,(∀(s:Shared) (u:Value),BindsTo s fd ⟨[u],[]⟩ [(x,u)])/\
    ∀base:Heap,(K w.params).In base->base.Ns mainGlobals mg->oP base mg tc tp->d7 l.prog w (K w.params) mg base (CX w) k fa fd [x] (sp w))
  (Bh:∀(w:World) (H:Hp) (a:Addr) (ns:List Int),ns.length<=n->H tp=some (.rQ dsc)->aZ (K w.params) H a (ns.map V.int)->sp w [.ref a] H (λv _=>v=.bl true) λ_ _ _=>False)
  (L9:∀(w:World) (H:Hp) (s:Shared) (e:Value) (s':Shared),CX w [] H s (λ_ _ _=>False) e s'->False):
  PySem.W.WalkO q loose XP YP l.row.toRowW d [] (λf vs=>PySem.call f vs):=by
 refine Bi.sJ hn HI λw s₀ s₁ mg mb fa o pm cd doc a vs ns G Y ho hd rZ HJ EI hints hlen hg=>?_
 have KX:=hY w _ Y
 obtain⟨fd,hb,hF⟩:=F w mg fa _ KX G.T.g HJ
 obtain⟨t1,t2,t3⟩:=Mb w _ Y
 have GQ:s₁.heap.BuiltinsAt mg tp:=by
  obtain⟨bm,ob,b1,b2,b3,b4,b5,b6⟩:=G.T.bmain
  refine⟨bm,ob,b1,b2,λq=>?_,λq=>?_,b3,b4,b5,b6⟩
  ·obtain⟨o,es,ep,e,hd,_⟩:=G.T.g
   rw[q,e] at b3;cases b3;rw[hd] at b6;cases b6
  ·rw[q,t1] at b3;cases b3;cases b4
 exact law_callT KX G.T.g G.T.b G.T.builtins G.T.nolimit hg EI hints (aao hlen Kq) hr t1 t2 t3 GQ hF hb (λH hO hS=>Bh w H a ns hlen hO hS) λH e s'=>L9 w H s₁ e s'
end L2
namespace L2
open PySem PySem.Spec PyProof.Rows
structure nH (P:Program) (w:World) (K:PySem.W.Frag) (mg:Str->Option Value) (base:Heap) (CX:jR) (k:Nat) (C:Addr) (m:Str) (ps:List Str) (sp:Sp):Prop where
 ex:∃f fd,yL K C m f/\d7 P w K mg base CX k f fd ps sp/\Binds K fd ps []
section
variable {X : Cx} {CX : jR} {k : Nat} {C : Addr} {m : Str} {ps : List Str} {sp : Sp} {E : XK} {e o : Expr} {es : List Expr} {ta : TE} {t : TA} {pos apos : Pos} {pl : Sem Bool}
theorem Ih (M:nH X.prog X.w X.K X.mg X.base CX k C m ps sp) (c:xK X.K C) (he:PE X o ta) (hr:de k X.A) (hx:eC CX X E) (ha:PA X (e::es) t)
  (hst:starEach (e::es) X.env=(false,eval e X.env)::starEach es X.env:=by rfl) (hpl:(backTo pos (starEach es X.env)).any (·.1)=false:=by rfl)
  (ht:eval (.Call (.Attribute o m apos) (e::es) [] pos) X.env=(do
   let ov <-eval o X.env
   standAt apos.atName
   let (f,first) <-holding [ov] (getMethod ov m pl)
   callWith pos f first (backTo pos (starEach (e::es) X.env)) (backToKw pos (keywordEach [] X.env))):=by rfl):
  PE X (.Call (.Attribute o m apos) (e::es) [] pos) (o9 C m sp [] E ta t):=by
 obtain⟨f,fd,hm,F,hb⟩:=M.ex
 exact BK he c hm F hr hb .nil hx ha hst hpl ht
theorem Fd (M:nH X.prog X.w X.K X.mg X.base CX k C m ps sp) (c:xK X.K C) (he:PE X o ta) (hr:de k X.A) (hx:eC CX X E)
  (ht:eval (.Call (.Attribute o m apos) [] [] pos) X.env=(do
   let ov <-eval o X.env
   standAt apos.atName
   let (f,first) <-holding [ov] (getMethod ov m pl)
   callWith pos f first (backTo pos (starEach [] X.env)) (backToKw pos (keywordEach [] X.env))):=by rfl):
  PE X (.Call (.Attribute o m apos) [] [] pos) (o9 C m sp [] E ta tNil):=by
 obtain⟨f,fd,hm,F,hb⟩:=M.ex
 exact yO he c hm F hr hb .nil hx ht
end
structure Kz (K:PySem.W.Frag) (C:Addr) (m qual:Str) (st:Stmt):Prop where
 ex:∃f fd,uP K m qual st f fd/\yL K C m f
theorem Kz.eD {P:Program} {w:World} {K:PySem.W.Frag} {mg:Str->Option Value} {base:Heap} {CX:jR} {m qual:Str} {st:Stmt} {C:Addr} {ps:List Str} {k:Nat} {sp:Sp} (D:Kz K C m qual st)
  (hb:∀(kV doc pm:Value) (an:Option Addr) (cK ct:Value) (us:List Value),us.length=ps.length->bindArgs (PySem.W.fnOf m qual (aM st) (aJ st) (ae st) .none kV doc pm an cK ct) ⟨us,[]⟩=pure (ps.zip us))
  (h:∀f fd,uP K m qual st f fd->d7 P w K mg base CX k f fd ps sp):nH P w K mg base CX k C m ps sp:=by
 obtain⟨f,fd,F,hm⟩:=D.ex
 exact⟨f,fd,hm,h f fd F,F.binds hb⟩
end L2
namespace L2
open PySem PySem.Spec PyProof.Rows PySem.W
abbrev g8 (mp:Pos):Arguments:={posonlyargs:=[],args:=[{arg:="members",annotation:=none,pos:=mp}],vararg:=none,kwonlyargs:=[],kw_defaults:=[],kwarg:=none,defaults:=[]}
abbrev fU (p2 p3 p4 p5 p6 p7 p8:Pos):Expr:=.Call (.Name "len" p2) [.Subscript (.Name "reach" p3) (.Subscript (.Name "members" p4) (.Constant (.int 0) 0 p5) p6) p7] [] p8
abbrev c8:Scope:={kind:=.function,names:=[(Str.ofString "members",.local),(Str.ofString "reach",.free),(Str.ofString "len",.globalImplicit)],isGenerator:=false,isCoroutine:=false,more:=[]}
section
variable {prog : Program} {w : World} {A : Around} {s : Shared}
theorem zE {mg mb:Str->Option Value} {qual:Str} {mp p2 p3 p4 p5 p6 p7 p8:Pos} {Cp:List (Str×Addr)} {pm DM:Value} {f c1 cell ra b d:Addr} {rs ms:Array Value} {i:Int} {t0:Tok} {kvs:List (Key×Value)} {Q:Value->Shared->Prop} {E:Value->Shared->Prop}
  (hf:s.heap.get? f=some (kla_obj "<lambda>" qual (g8 mp) (fU p2 p3 p4 p5 p6 p7 p8) c8 Cp pm c1 DM)) (rZ:s.heap.CodeRec (.ref c1) qual) (Ii:A.depth<recursionLimit) (Fc:s.heap.NoLimit)
  (hg:s.heap.Ns mainGlobals mg) (hlen:mg "len"=none) (hb:s.heap.Ns builtinsNs mb) (L8:∀x:Str,x≠"__name__"->mb x=bootBuiltins x)
  (Cc:Cp.lookup (Str.ofString "reach")=some cell) (o5:s.heap.IsCell cell (some (.ref ra))) (KA:s.heap.IsList ra rs) (We:s.heap.IsList b ms) (h0:ms[0]?=some (.int i t0)) (Wf:0<=i) (hi:i<2^63)
  (Mc:rs[i.toNat]?=some (.ref d)) (hd:(d==sysModules)=false) (dd:s.heap.DictOf (bY prog w) d kvs) (EG:(kvs.length:Int)<2^63)
  (h:∀h' tk t,(∀x o,s.heap.get? x=some o->h'.get? x=some o)->Q (.int kvs.length t) {s with heap:=h',toks:=tk}):
  wpAny (model prog w) A (call (.ref f) [.ref b]) Q E s:=by
 refine wpAny_call (kla_callFunE Ii hf rfl rfl rfl rfl rZ ?_)
 have zC:bindArgs (kla_fn "<lambda>" qual (g8 mp) (fU p2 p3 p4 p5 p6 p7 p8) c8 Cp pm (.ref c1) DM) ⟨[.ref b],[]⟩=pure [(Str.ofString "members",.ref b)]:=rfl
 rw[zC]
 have Wg:∀x∈c8.names,x.2≠NameKind.cell:=by decide +kernel
 have Ca:∀x∈[(Str.ofString "members",Value.ref b)],c8.names.lookup x.1=some NameKind.local:=λx hx=>by rw[List.mem_singleton.mp hx];rfl
 refine wpAny_pure (wpAny_newFunctionEnv Wg Ca (λh₁ DJ TZ=>⟨Fc.fresh _ TZ,?_⟩) rfl)
 have hk:∀x o,s.heap.get? x=some o->h₁.get? x=some o:=λx o e=>TZ.extBut x o (aam (Heap.lt_size e)) (Heap.get?_push_of_some _ e)
 show codeAny _ _ (.expr (fU p2 p3 p4 p5 p6 p7 p8) (envX qual c8 s.heap.objs.size f (.ref c1) Cp)) _ _
 refine kla_codeExpr ?_
 refine wpAny_Call_Name_kw (Calls.Name_function_global rfl rfl (Calls.loadGlobal_builtin (hg.keeps hk) hlen (hb.keeps hk) ((L8 _ (by decide)).trans (show bootBuiltins "len"=some (.builtin "len") from rfl)) ?_) (by decide))
 refine PyProof.Rows.callWith_builtin1 ?_
 refine Calls.spliced_cons (Subscript_ (wpAny_Name (wpAny_loadName_free rfl rfl Cc (o5.keeps hk) ?_)))
 refine Subscript_ (wpAny_Name (wpAny_loadName_local rfl rfl DJ (v:=.ref b) rfl (wpAny_Constant_int ?_)))
 obtain⟨om,m1,m2,m3⟩:=We
 obtain⟨orr,r1,r2,r3⟩:=KA
 refine item_listR (s:={s with heap:=h₁,toks:=_}) (l:=b) (items:=ms) ⟨om,hk _ _ m1,m2,m3⟩ (by decide) (by decide) (x:=.int i t0) h0 ?_
 refine item_listR (s:={s with heap:=h₁,toks:=_}) (l:=ra) (items:=rs) ⟨orr,hk _ _ r1,r2,r3⟩ Wf hi (x:=.ref d) Mc (Calls.spliced_nil ?_)
 obtain⟨o,es,ep,e1,e2⟩:=dd
 exact call_len_dict hd (show(Shared.mk _ _ _ _ _).heap.DictOf (bY prog w) d kvs from⟨o,es,ep,hk _ _ e1,e2⟩) EG (h _ _ _ hk)
end
noncomputable def zF (tp:Addr) (dsc:Array Value) (i:Nat) (te:TE):TE:=λσ H Q=>te σ H λv H1=>∃(a:Addr) (bs:List Addr) (key:Addr->Int) (ra:Addr) (rs:List V),v=.ref a/\H1 a=some (.lst (List.map V.ref bs))/\bs.length<64/\σ[i]?=some (some (.ref ra))/\H1 ra=some (.lst rs)/\H1 tp=some (.rQ dsc)/\
 (∀b∈bs,∃j xs d kvs,H1 b=some (.lst (.int j::xs))/\0<=j/\j<1000000/\rs[j.toNat]?=some (.ref d)/\H1 d=some (.dK kvs)/\key b=(kvs.length:Int))/\
 ∀p cs H2,az H1 H2->H1 p=none->H2 p=some (.lst (List.map V.ref cs))->cs.Perm bs->cs.Pairwise (λb c=>key b<=key c)->Q (.ref p) H2
noncomputable def Bo:Value->Addr
 | .ref a=>a
 | _=>0
theorem pQ:∀{bs:List Addr} {aU:List Value},bu (bs.map V.ref) aU->aU=bs.map Value.ref
 | [],_,.nil=>rfl
 | _::bs,_,.cons r t=>by rw[pQ (bs:=bs) t,show _=Value.ref _ from r];rfl
section
variable {X : Cx}
theorem zG {i k:Nat} {tc tp:Addr} {dsc:Array Value} {t0:Tok} {e:Expr} {te:TE} {p1 pos kp lp mp p2 p3 p4 p5 p6 p7 p8:Pos} (hg:Gl X "sorted") (hm:X.mg "sorted"=none) (hl:X.mg "len"=none) (hB:oP X.base X.mg tc tp)
  (DN:X.env.code=.ref tc) (hr:de k X.A) (Ij:dsc=#[rawInt lp.line,rawInt lp.col,.str (X.env.qual++"<lambda>") t0]) (he:PE X e te) (hN:X.N[i]?=some "reach":=by rfl) (hv:X.env.kindOf "reach"=some .cell:=by rfl) (n1:noStar e=true:=by rfl):
  PE X (.Call (.Name "sorted" p1) [e] [⟨some "key",.Lambda (g8 mp) (fU p2 p3 p4 p5 p6 p7 p8) c8 lp,kp⟩] pos) (zF tp dsc i te):=by
 intro pins s σ H Q I h
 refine wpAny_Call_Name_kw (iJ I hg hm (u:=.builtin "sorted") rfl ?_ (by decide) (by decide))
 refine PyProof.Rows.callWith_kw (e:=e) (rest:=[]) ?_ (by rw[se n1];rfl) (by rw[se n1];rfl) rfl rfl
 rw[se n1]
 show wpAny _ _ (spliced [(false,eval e X.env)]) _ _ s
 refine Calls.spliced_cons (cy (he pins s σ H _ I h) λu s1 ⟨x,H1,I1,r1,q1⟩=>Calls.spliced_nil ?_)
 obtain⟨a,bs,key,ra,rs,rfl,ha,E6,eσ,KA,kX,Wh,q⟩:=q1
 cases r1
 obtain⟨cell,ec⟩:=I1.ok.has "reach" (.inl hv)
 obtain⟨cl,T1,c1,c2,c3⟩:=eW (env:=X.env) (scope:=c8) (λn hn=>by
  have:n="reach":=by
   simp only[List.mem_cons,Prod.mk.injEq,List.not_mem_nil,or_false] at hn
   rcases hn with ⟨_,z⟩ | ⟨z,_⟩ | ⟨_,z⟩
   ·cases z
   ·exact z
   ·cases z
  rw[this]
  exact⟨cell,ec⟩)
 have Cc:cl.lookup (Str.ofString "reach")=some cell:=by
  obtain⟨c,ee⟩:=c2 "reach" (.tail _ (.head _))
  have:=c1 _ _ ee
  rw[ec] at this
  cases this
  exact ee
 have mk:∀R:Value->Shared->Prop,(∀f c1 pm DM H2 s2,Inv X pins σ H2 s2->az H1 H2->s2.heap.get? f=some (kla_obj "<lambda>" (X.env.qual++"<lambda>") (g8 mp) (fU p2 p3 p4 p5 p6 p7 p8) c8 cl pm c1 DM)->s2.heap.CodeRec (.ref c1) (X.env.qual++"<lambda>")->R (.ref f) s2)->
   wpAny (model X.prog X.w) X.A (makeFunction "<lambda>" (X.env.qual++"<lambda>") (g8 mp) (.expr (fU p2 p3 p4 p5 p6 p7 p8)) c8 X.env [] [] [] lp lp.line) R X.xe s1:=by
  intro R hR
  obtain⟨mo,e1,e2⟩:=I1.bU tp _ kX
  have Md:=I1.mod.glob.keeps I1.bk
  have hC:=hB.code.keeps I1.bk
  have T3:=hB.blt.keeps I1.bk
  rcases e2 with rfl | ⟨l,c,c',qn,t,f1,rfl,f3,f4⟩
  ·refine kla_makeFunction (mg:=X.mg) (c:=tc) (P:=tp) T1 I1.ok.glob Md DN hC e1 trivial rfl (λz=>?_) T3 λc' DM h' tk hx DH fQ Me KC=>?_
   ·obtain⟨o,es,ep,ee,hd,_⟩:=Md
    rw[z,e1] at ee;cases ee;cases hd
   have KC:h'.get? tp=some (tabObj #[rawInt lp.line,rawInt lp.col,.ref c']):=KC
   have nc:H1 c'=none:=I1.bU.fresh DH
   have Z2:tp≠c':=λz=>by rw[z,nc] at kX;cases kX
   have kk:∀b o,b≠tp->s1.heap.get? b=some o->(h'.push (kla_obj "<lambda>" (X.env.qual++"<lambda>") (g8 mp) (fU p2 p3 p4 p5 p6 p7 p8) c8 cl ((X.mg "__name__").getD .none) c' DM)).get? b=some o:=λb o hb ee=>Heap.get?_push_of_some _ (hx b o hb ee)
   obtain⟨T4,oc,vs,t2,g1,g2,g3,g4⟩:=Me
   cases g1
   refine hR _ c' _ _ (upd H1 c' (.own tp)) _ (I1.un (t':=tk) ⟨λb o ee n _ _=>kk b o (λz=>by rw[z,kX] at n;cases n) ee,λb o ee n _ _=>⟨o.slots,kk b o (λz=>by rw[z,kX] at n;cases n) ee⟩,λb o ee n _=>?_,λb o ee _=>?_,λb xs ee=>?_,λb o u ee=>?_,λb ps ee=>⟨#[],?_⟩⟩ λb o ee=>?_) (λb o ee=>?_) (Heap.get?_push_size _ rfl) ⟨c',oc,vs,t2,rfl,Heap.get?_push_of_some _ g2,g3,g4⟩
   ·rw[aG (aam (aat (Heap.lt_size ee) DH))];exact n
   ·by_cases hb:b=tp
    ·subst hb;exact⟨_,Heap.get?_push_of_some _ KC⟩
    ·exact⟨o,kk b o hb ee⟩
   ·rw[aG (bA ee nc)];exact ee
   ·rw[aG (bA ee nc)];exact ee
   ·rw[aG (bA ee nc),ee,Array.append_empty]
   ·by_cases hb:b=c'
    ·subst hb
     rw[ar] at ee
     cases ee
     exact⟨oc,Heap.get?_push_of_some _ g2⟩
    ·rw[aG hb] at ee
     by_cases T5:b=tp
     ·subst T5
      rw[kX] at ee
      cases ee
      exact⟨_,Heap.get?_push_of_some _ KC,.inr ⟨_,_,c',_,_,Ij,rfl,ar,c',oc,vs,t2,rfl,Heap.get?_push_of_some _ g2,g3,g4⟩⟩
     ·refine(I1.bU b o ee).oI (λx u o6 e3=>kk x u (λz=>?_) e3) (λx e3=>by rw[aG (bA e3 nc)];exact e3) λx xs e3=>by rw[aG (bA e3 nc)];exact e3
      rcases o6 with o6 | o6
      ·exact T5 (o6.symm.trans z)
      ·rw[z,kX] at o6;cases o6
   ·rw[aG (bA ee nc)];exact ee
  ·rw[Ij] at f1
   have f1:=congrArg Array.toList f1
   simp only[List.cons.injEq,and_true] at f1
   obtain⟨f1,f2,f5⟩:=f1
   injection f5 with f5 _
   subst f1 f2 f5
   have ht:TriplesOk [rawInt lp.line,rawInt lp.col,Value.ref c']:=by simp [TriplesOk,rawInt]
   have hf:codeAmong lp [rawInt lp.line,rawInt lp.col,Value.ref c']=some (.ref c'):=by simp [codeAmong,rawInt]
   refine kla_makeFunctionHit (mg:=X.mg) (c:=tc) (P:=tp) T1 I1.ok.glob Md DN hC e1 ht hf T3 λDM h' tk hk hsz=>?_
   obtain⟨T4,oc,vs,t2,g1,g2,g3,g4⟩:=f4
   cases g1
   exact hR _ c' _ _ H1 _ (I1.kept (t':=tk) λb o ee=>Heap.get?_push_of_some _ (hk b o ee)) (az.refl _) (Heap.get?_push_size _ rfl) ⟨c',oc,vs,t2,rfl,Heap.get?_push_of_some _ (hk _ _ g2),g3,g4⟩
 refine PyProof.Rows.kws_cons (kla_eval rfl (mk _ λf c' pm DM H2 s2 I2 sm hf rZ=>PyProof.Rows.kws_nil ?_))
 show wpAny _ _ (call (.builtin "sorted") [.ref a] [(Str.ofString "key",.ref f)]) _ _ _
 obtain⟨m2,Fe,BR⟩:=I2.loc
 obtain⟨aU,n,rv,eo,hz⟩:=I2.lst (sm _ _ ha)
 have Mf:=pQ rv
 subst Mf
 have o5:s2.heap.IsCell cell (some (.ref ra)):=by
  obtain⟨u,ru,lu⟩:=BR i "reach" (.ref ra) hN eσ (.inr (.inl hv))
  cases ru
  rcases lu with ⟨hk,_⟩ | ⟨_,c,e1,e2⟩
  ·rw[hv] at hk;cases hk
  ·rw[ec] at e1;cases e1;exact e2
 have nL:∀{b:Addr} {u:HO},H2 b=some u->b≠X.env.locals:=λe z=>by rw[z,I2.free] at e;cases e
 have dL:∀{b:Addr} {o:Obj},s2.heap.get? b=some o->(∀es ep,o.data≠.dict es ep)->b≠X.env.locals:=λe hd z=>by
  obtain⟨o',es,ep,e',Hg,_⟩:=Fe
  rw[z,e'] at e;cases e;exact hd es ep Hg
 refine ksk_sorted (h₀:=Bi.qw s2.heap) (L:=X.env.locals) (m:=m2) (news:=Bi.ledger s2.heap X.env.locals X.env.locals) (kz:=bs.map key) (vs:=bs.map Value.ref) (f:=.ref f) (b:=false) (Bi.EJ Fe)
  (λp hp=>by obtain⟨x,o⟩:=p;obtain⟨n1,_,ee⟩:=Bi.fO.mp hp;exact⟨ee,n1,Bi.mZ _ _⟩) ⟨_,eo,rfl,_,rfl⟩ (by rw[aab,aab]) (by rw[aab];exact E6) (ksk_s1 _ _) (λx=>ksk_l1 _ _) (λx=>ksk_t1 _ _) ?turn ?done
 case turn=>
  intro j v k0 ev ek h3 tk own F3 N3
  rw[aad] at ev ek
  obtain⟨b,eb,rfl⟩:=Option.map_eq_some_iff.mp ev
  rw[eb] at ek
  cases ek
  have kp:∀x o,x≠X.env.locals->s2.heap.get? x=some o->h3.get? x=some o:=λx o hx ee=>(N3 (x,o) (abo _ (Bi.fO.mpr ⟨hx,hx,ee⟩))).1
  have kb:∀x o,X.base.get? x=some o->h3.get? x=some o:=λx o ee=>kp x o (λz=>by
   have l1:x<X.base.objs.size:=Heap.lt_size ee
   have l2:=I2.ok.yC
   have l3:=I2.ok.above
   rw[z] at l1
   exact absurd (aat l1 (aao l2 l3)) (aaF _)) (I2.bk x o ee)
  obtain⟨j0,xs,d,kvs,hb,g0,g1,gd,hd,Mg⟩:=Wh b (aaf eb)
  obtain⟨Z3,nb,Wi,Wj,_⟩:=I2.lst (sm _ _ hb)
  obtain⟨Z4,nr,Wk,Wl,_⟩:=I2.lst (sm _ _ KA)
  obtain⟨mb,Wm,Mh⟩:=I2.mod.blt
  obtain⟨ui,Wn,t1,rfl⟩:=Wi.get (i:=0) (x:=.int j0) rfl
  obtain⟨ud,Wo,Wp⟩:=Wk.get gd
  obtain rfl:ud=Value.ref d:=Wp
  obtain⟨z1,Wr,vs,rel,o,es,ep,ed,Mi⟩:=I2.bU d _ (sm _ _ hd)
  obtain⟨T4,oc,Ld,t2,w1,w2,w3,w4⟩:=rZ
  cases w1
  obtain⟨oe,T6,T7⟩:=o5
  have sl:=sizeLine_eq
  have rl:=rel.length
  refine zE (s:={s2 with heap:=h3,toks:=tk}) (kvs:=vs) (kp _ _ (dL hf λ_ _ z=>by cases z) hf) ⟨c',oc,Ld,t2,rfl,kp _ _ (dL w2 λ_ _ z=>by rw[w3] at z;cases z) w2,w3,w4⟩ hr.depth (I2.mod.nolimit.keeps kb) (I2.mod.glob.keeps kb) hl (Wm.keeps kb) Mh Cc
   ⟨oe,kp _ _ (dL T6 λ_ _ z=>by rw[T7] at z;cases z) T6,T7⟩ ⟨_,kp _ _ (nL (sm _ _ KA)) Wl,rfl,_,rfl⟩ ⟨_,kp _ _ (nL (sm _ _ hb)) Wj,rfl,_,rfl⟩ (by simpa using Wn) g0 (by omega) (by simpa using Wo) Wr ⟨o,es,ep,kp _ _ (nL (sm _ _ hd)) ed,Mi⟩ (by omega) λh4 Wt t4 k4=>?_
  rw[Mg,show((kvs.length:Nat):Int)=((vs.length:Nat):Int) by rw[rl]]
  exact⟨h4,Wt,t4,rfl,rfl,F3.kept k4,N3.grown k4⟩
 case done=>
  intro D h3 tk out c F3 N3 lt ko
  obtain⟨ps,hp,ho,hs⟩:=ko
  have ez:(bs.map key).zip (bs.map Value.ref)=bs.map λb=>(key b,Value.ref b):=by
   rw[List.zip_map',]
  rw[ez] at hp
  have mem:∀p∈ps,p=(key (Bo p.2),Value.ref (Bo p.2)):=λp jc=>by
   obtain⟨b,_,rfl⟩:=List.mem_map.mp (hp.mem_iff.mp jc)
   rfl
  have nd:(D:Addr)≠X.env.locals:=(N3 _ (.head _)).2.1
  have dn:s2.heap.get? D=none:=by
   cases ee:s2.heap.get? D with
   | none=>rfl
   | some o=>exact absurd (lt (D,o) (Bi.fO.mpr ⟨nd,nd,ee⟩)) (aaF _)
  have hD:H2 D=none:=by
   cases ee:H2 D with
   | none=>rfl
   | some o=>
    obtain⟨ob,e'⟩:=cI.get (I2.bU D o ee)
    rw[dn] at e';cases e'
  have kp:∀x o,x≠X.env.locals->s2.heap.get? x=some o->h3.get? x=some o:=λx o hx ee=>(N3 (x,o) (aaj _ (Bi.fO.mpr ⟨hx,hx,ee⟩))).1
  have Mj:out=((ps.map λp=>Bo p.2).map Value.ref).toArray:=by
   have:out.toList=(ps.map λp=>Bo p.2).map Value.ref:=by
    rw[ho,aaM]
    exact abp λp jc=>congrArg Prod.snd (mem p jc)
   rw[<-this,Array.toArray_toList]
  have pm:(ps.map λp=>Bo p.2).Perm bs:=by
   have:=hp.map λp=>Bo p.2
   rw[aaM] at this
   exact this.trans (List.Perm.of_eq (by rw[show((λp:Int×Value=>Bo p.2) ∘λb=>(key b,Value.ref b))=id from rfl,List.map_id]))
  have pl:=pm.length_eq
  have T8:=(N3 _ (.head _)).1
  have sl:=sizeLine_eq
  refine⟨.ref D,upd H2 D (.lst ((ps.map λp=>Bo p.2).map V.ref)),I2.step (ch:=[]) (g':=s2.gens) (d':=s2.drawn) (t':=tk) (λ_ z=>nomatch z) (λb o h1 _ _ ee _=>kp b o h1 ee) (λb o h1 _ _ ee _=>⟨o.slots,kp b o h1 ee⟩) (λb o _ ee n=>?_) (λb o _ ee=>?_) (λb xs ee=>?_) (λb o u ee=>?_) (λb qs ee=>⟨#[],?_⟩) (λm hn=>?_) (λb o ee=>?_) I2.bare,rfl,?_⟩
  ·rw[aG (λz=>by rw[z,dn] at ee;cases ee)];exact n
  ·by_cases hb:b=X.env.locals
   ·obtain⟨o',_,_,e',_⟩:=F3.ns
    exact⟨o',by rw[hb];exact e'⟩
   ·exact⟨o,kp b o hb ee⟩
  ·rw[aG (bA ee hD)];exact ee
  ·rw[aG (bA ee hD)];exact ee
  ·rw[aG (bA ee hD),ee,Array.append_empty]
  ·have e1:=hn.eq_nsMap
   have e2:=Fe.eq_nsMap
   rw[e1,<-e2]
   exact F3.ns
  ·by_cases hb:b=D
   ·subst hb
    rw[ar] at ee
    cases ee
    refine⟨by rw[aab,pl];omega,(ps.map λp=>Bo p.2).map Value.ref,c,?_,by rw[Mj] at T8;exact T8⟩
    generalize (ps.map λp=>Bo p.2)=cs
    induction cs with
    | nil=>exact .nil
    | cons x cs ih=>exact .cons rfl ih
   ·rw[aG hb] at ee
    refine(I2.bU b o ee).oI (λx u o6 e3=>kp x u (λz=>?_) e3) (λx e3=>by rw[aG (bA e3 hD)];exact e3) λx xs e3=>by rw[aG (bA e3 hD)];exact e3
    rcases o6 with o6 | o6
    ·subst o6;exact nL ee z
    ·exact nL o6 z
  ·refine q D _ _ (sm.trans λb o ee=>by rw[aG (bA ee hD)];exact ee) ?_ ar pm ?_
   ·cases ee:H1 D with
    | none=>rfl
    | some o=>rw[sm _ _ ee] at hD;cases hD
   ·rw[List.pairwise_map]
    refine hs.imp_of_mem λ{x y} hx hy hle=>?_
    have hle:x.1<=y.1:=hle
    rw[mem x hx,mem y hy] at hle
    exact hle
end
noncomputable def Ik (K:PySem.W.Frag) (mg:Str->Option Value) (x:Str) (tc:Addr):Prop:=∃f oc od fd yu,mg x=some (.ref f)/\K.lookup f=some ⟨oc,od,.func fd,yu⟩/\fd.code=.ref tc
section
variable {P : Program} {w : World} {K : PySem.W.Frag} {mg : Str -> Option Value} {base : Heap} {CX : jR}
theorem uP.Wu {x qual:Str} {st:Stmt} {f tc:Addr} {fd:FuncData} {N ps:List Str} {k:Nat} {sp:Sp} (F:uP K x qual st f fd) (hc:fd.code=.ref tc) (S:aN N ps (ae st)) (len:∀vs H Q E,sp vs H Q E->vs.length=ps.length)
  (sx:∀(A:Around) (outer:List Env) (s:Shared) (H:Hp) (vs:List V) (Q:VK) (E:XK),de k (A.deeper (envOfC qual (ae st) s.heap.objs.size f (.ref tc)))->sp vs H Q E->
   ∃t,uu (uI CX P w K mg base N qual (ae st) f (.ref tc) A outer s H E).GI (aJ st) t/\t {nx:=λ_ H'=>Q .cB H',rt:=Q} (start N vs) H):d7 P w K mg base CX (k+1) f fd ps sp:=by
 obtain⟨oc,od,kV,doc,pm,an,cK,ct,yu,rfl,lk,rZ⟩:=F.ex
 have hc:cK=.ref tc:=hc
 subst hc
 refine Dx lk rZ S len λA outer s H vs Q E hr Bh=>?_
 obtain⟨t,h,q⟩:=sx A outer s H vs Q E hr Bh
 exact⟨t,h.GI,q⟩
theorem Dn.Ml {x:Str} {st:Stmt} {ps:List Str} {k:Nat} {sp:Sp} {tc:Addr} (D:Dn K mg x st) (L:Ik K mg x tc)
  (hb:∀(kV doc pm:Value) (an:Option Addr) (cK ct:Value) (us:List Value),us.length=ps.length->bindArgs (PySem.W.fnOf x x (aM st) (aJ st) (ae st) .none kV doc pm an cK ct) ⟨us,[]⟩=pure (ps.zip us))
  (h:∀f fd,uP K x x st f fd->fd.code=.ref tc->d7 P w K mg base CX k f fd ps sp):bX P w K mg base CX k x ps sp:=by
 obtain⟨f,fd,F,hm⟩:=D.ex
 obtain⟨f',oc,od,Z5,yu,h1,h2,h3⟩:=L
 rw[hm] at h1
 cases h1
 obtain⟨Z6,Z7,_,_,_,_,_,_,Wv,_,lk,_⟩:=F.ex
 rw[lk] at h2
 cases h2
 exact⟨f,fd,h f fd F h3,hm,F.kp,F.binds hb⟩
end
end L2
namespace L2
open PySem PySem.Spec PyProof.Rows PySem.W
mutual
noncomputable def tj:PyData->Bool
 | .none=>true
 | .int _=>true
 | .str x=>PyData.canLay0 (.str x)
 | .tuple xs=>tq xs
 | .list xs=>tq xs
 | _=>false
noncomputable def tq:List PyData->Bool
 | []=>true
 | x::xs=>tj x && tq xs
end
mutual
theorem mh:∀(d:PyData),tj d=true->d.canLay0=true
 | .none,_=>by simp [PyData.canLay0]
 | .bool _,h=>by simp [tj] at h
 | .int _,_=>by simp [PyData.canLay0]
 | .str x,h=>by rw[tj] at h;exact h
 | .list xs,h=>by rw[tj] at h;rw[PyData.canLay0];exact nI xs h
 | .tuple xs,h=>by rw[tj] at h;rw[PyData.canLay0];exact nI xs h
 | .dict _,h=>by simp [tj] at h
theorem nI:∀(xs:List PyData),tq xs=true->PyData.canLayAll0 xs=true
 | [],_=>by simp [PyData.canLayAll0]
 | x::xs,h=>by
  rw[tq,aaR] at h
  rw[PyData.canLayAll0,aaR]
  exact⟨mh x h.1,nI xs h.2⟩
end
mutual
theorem wm:∀(x y:PyData),tj x=true->tj y=true->PyData.eqv x y=decide (x=y)
 | .none,y,_,hy=>by cases y <;>simp [PyData.eqv]
 | .int i,y,_,hy=>by
  cases y with
  | int j=>
   rw[PyData.eqv]
   by_cases c:i=j
   ·subst c;simp
   ·rw[decide_eq_false (λe=>c (by injection e))]
    simp [c]
  | bool _=>simp [tj] at hy
  | _=>simp [PyData.eqv]
 | .str a,y,_,hy=>by
  cases y with
  | str b=>
   rw[PyData.eqv]
   by_cases c:a=b
   ·subst c;simp
   ·rw[decide_eq_false (λe=>c (by injection e))]
    simp [c]
  | _=>simp [PyData.eqv]
 | .tuple xs,y,hx,hy=>by
  cases y with
  | tuple ys=>
   rw[tj] at hx hy
   rw[PyData.eqv,nJ xs ys hx hy]
   by_cases c:xs=ys
   ·subst c;simp
   ·rw[decide_eq_false c,decide_eq_false (λe=>c (by injection e))]
  | _=>simp [PyData.eqv]
 | .list xs,y,hx,hy=>by
  cases y with
  | list ys=>
   rw[tj] at hx hy
   rw[PyData.eqv,nJ xs ys hx hy]
   by_cases c:xs=ys
   ·subst c;simp
   ·rw[decide_eq_false c,decide_eq_false (λe=>c (by injection e))]
  | _=>simp [PyData.eqv]
 | .bool _,_,h,_=>by simp [tj] at h
 | .dict _,_,h,_=>by simp [tj] at h
theorem nJ:∀(xs ys:List PyData),tq xs=true->tq ys=true->PyData.eqvAll xs ys=decide (xs=ys)
 | [],[],_,_=>by simp [PyData.eqvAll]
 | [],_::_,_,_=>by simp [PyData.eqvAll]
 | _::_,[],_,_=>by simp [PyData.eqvAll]
 | x::xs,y::ys,hx,hy=>by
  rw[tq,aaR] at hx hy
  rw[PyData.eqvAll,wm x y hx.1 hy.1,nJ xs ys hx.2 hy.2]
  by_cases c:x=y
  ·subst c
   by_cases d:xs=ys
   ·subst d;simp
   ·rw[decide_eq_false d,decide_eq_false (λe=>d (List.cons.inj e).2)];simp
  ·rw[decide_eq_false c,decide_eq_false (λe=>c (List.cons.inj e).1)];simp
end
section
variable {X : Cx} {K : PySem.W.Frag}
noncomputable def Ke (d:Dat):Prop:=tj (toP d)=true/\(toP d).depth<=8
theorem Ff {A:Around} {s:Shared} {a b:PyData} {u v:Value} {as bs:List Addr} (ra:Reads s.heap u a as) (rb:Reads s.heap v b bs) (ha:tj a=true) (hb:tj b=true) (da:a.depth<=8) (db:b.depth<=8) (hu:A.units+8<cLine):SeqAt.EqAt A s u v (decide (a=b)):=λprog w E Q h=>
 SeqAt.eqBoolOverData _ _ _ _ _ _ _ _ _ _ _ _ ra rb (mh _ ha) (mh _ hb) (by omega) (by rw[wm _ _ ha hb];exact h)
theorem zH {s:Shared} {ds:List Dat} {d:Dat} (jb:∀e∈ds,Ke e) {u:Value} {e:Dat} {bs:List Addr} [Decidable (∃cs,Reads s.heap u (toP d) cs)] (he:e∈ds) (re:Reads s.heap u (toP e) bs):decide (∃cs,Reads s.heap u (toP d) cs)=decide (toP e=toP d):=by
 by_cases c:toP e=toP d
 ·rw[decide_eq_true c,decide_eq_true ⟨bs,by rw[<-c];exact re⟩]
 ·rw[decide_eq_false c,decide_eq_false]
  rintro⟨cs,rc⟩
  exact c (SeqAt.Reads.unique _ _ _ _ _ (mh _ (jb e he).1) re rc)
noncomputable def Mm:V->List V->Hp->VK->Prop:=λx vs H Q=>∃l xs ds v d i,x=.ref l/\vs=[v]/\H l=some (.lst xs)/\aY H ds xs/\(∀e∈ds,Ke e)/\Rep H d v/\Ke d/\(ds.map toP)[i]?=some (toP d)/\(∀j,j<i->(ds.map toP)[j]?≠some (toP d))/\i<100000/\Q (.int (i:Nat)) H
theorem yb (hu:X.A.units+64<cLine):GK X "list.index" Mm:=by
 classical
 intro pins s σ H x vs v us Q I rx rv h
 obtain⟨l,xs,ds,y,d,i,rfl,rfl,hp,rd,jb,Ww,hd,hi,Lx,i6,q⟩:=h
 cases rx
 obtain⟨u,rfl,ru⟩:=vals1 rv
 obtain⟨aU,r,pl,hz⟩:=I.list (aZ.of hp)
 obtain⟨as,ra⟩:=nG I.bU d y u Ww ru
 have l1:=rd.length
 have l2:=r.length
 have at_:∀(j:Nat) (hj:j<aU.length),∃e bs,ds[j]?=some e/\e∈ds/\Reads s.heap aU[j] (toP e) bs:=λj hj=>by
  obtain⟨e,bs,ed,re⟩:=pP I.bU rd r (aac hj)
  exact⟨e,bs,ed,aaf ed,re⟩
 have Wx:i<aU.length:=by
  have:=(List.getElem?_eq_some_iff.mp hi).1
  rw[aab] at this
  omega
 obtain⟨⟨c1,d1,d2,sl⟩,ho,e1,m,e2⟩:=pl.isList
 cases e1
 cases e2
 have hit:decide (∃cs,Reads s.heap aU[i] (toP d) cs)=true:=by
  obtain⟨e,bs,ed,he,re⟩:=at_ i Wx
  rw[zH jb he re]
  rw[aad,ed] at hi
  exact decide_eq_true (aax hi)
 refine call_meets PySem.F.slot_list_index ⟨_,ho,rfl⟩ PySem.F.entry_list_index (PySem.F.args_list_index_2 _ _) (PySem.SeqAt.list_indexAt l aU.toArray m d1 sl u (λu=>decide (∃cs,Reads s.heap u (toP d) cs)) i (by rw[aak];omega) (by omega) hit (λj hj hl=>?_)) ⟨ho,λy hy=>?_,⟨.int _,H,I.tok _,⟨_,rfl⟩,q⟩⟩
 ·rw[aak] at hj
  obtain⟨e,bs,ed,he,re⟩:=at_ j hj
  show decide (∃cs,Reads s.heap aU[j] (toP d) cs)=false
  rw[zH jb he re]
  refine decide_eq_false λz=>Lx j hl ?_
  rw[aad,ed]
  exact congrArg some z
 ·obtain⟨j,ej⟩:=aaw (List.mem_toArray.mp hy)
  obtain⟨e,bs,ed,re⟩:=pP I.bU rd r ej
  have he:=aaf ed
  show SeqAt.EqAt _ _ _ _ (decide _)
  rw[zH jb he re]
  exact Ff re ra (jb e he).1 hd.1 (jb e he).2 hd.2 (by show X.A.units+1+8<cLine;omega)
end
end L2
namespace L2
open PySem PyProof.Rows
theorem exV {b:V} {Q:V->Prop}:(∃v,(some (some b):Option (Option V))=some (some v)/\Q v)=Q b:=propext ⟨fun⟨_,e,h⟩=>by cases e;exact h,λh=>⟨b,rfl,h⟩⟩
theorem exI {a:Int} {Q:Int->Prop}:(∃i,V.int a=V.int i/\Q i)=Q a:=propext ⟨fun⟨_,e,h⟩=>by cases e;exact h,λh=>⟨a,rfl,h⟩⟩
theorem exB {a:Bool} {Q:Bool->Prop}:(∃i,V.bl a=V.bl i/\Q i)=Q a:=propext ⟨fun⟨_,e,h⟩=>by cases e;exact h,λh=>⟨a,rfl,h⟩⟩
theorem exR {a:Addr} {Q:Addr->Prop}:(∃i,V.ref a=V.ref i/\Q i)=Q a:=propext ⟨fun⟨_,e,h⟩=>by cases e;exact h,λh=>⟨a,rfl,h⟩⟩
theorem exS {a:Str} {Q:Str->Prop}:(∃i,V.str a=V.str i/\Q i)=Q a:=propext ⟨fun⟨_,e,h⟩=>by cases e;exact h,λh=>⟨a,rfl,h⟩⟩
theorem exII {a b:Int} {Q:Int->Int->Prop}:(∃i j,V.int a=V.int i/\V.int b=V.int j/\Q i j)=Q a b:=propext ⟨fun⟨_,_,e,f,h⟩=>by cases e;cases f;exact h,λh=>⟨a,b,rfl,rfl,h⟩⟩
theorem exRI {a:Addr} {k:Int} {Q:Addr->List V->Int->V->Prop}:(∃p xs i v,V.ref a=V.ref p/\V.int k=V.int i/\Q p xs i v)=∃xs v,Q a xs k v:=propext ⟨fun⟨_,xs,_,v,e,f,h⟩=>by cases e;cases f;exact⟨xs,v,h⟩,fun⟨xs,v,h⟩=>⟨a,xs,k,v,rfl,rfl,h⟩⟩
theorem exRa {α:Type} {a:Addr} {Q:Addr->α->Prop}:(∃p v,V.ref a=V.ref p/\Q p v)=∃v,Q a v:=propext ⟨fun⟨_,v,e,h⟩=>by cases e;exact⟨v,h⟩,fun⟨v,h⟩=>⟨a,v,rfl,h⟩⟩
theorem exRb {α β:Type} {a:Addr} {Q:Addr->α->β->Prop}:(∃p v u,V.ref a=V.ref p/\Q p v u)=∃v u,Q a v u:=propext ⟨fun⟨_,v,u,e,h⟩=>by cases e;exact⟨v,u,h⟩,fun⟨v,u,h⟩=>⟨a,v,u,rfl,h⟩⟩
theorem scal_ss {a b:Str}:uz (.str a) (.str b)=true:=rfl
theorem scal_ii {a b:Int}:uz (.int a) (.int b)=true:=rfl
theorem scal_bb {a b:Bool}:uz (.bl a) (.bl b)=true:=rfl
theorem scal_si {a:Str} {b:Int}:uz (.str a) (.int b)=true:=rfl
theorem scal_is {a:Int} {b:Str}:uz (.int a) (.str b)=true:=rfl
end L2
namespace L2
open PySem PySem.Spec PyProof.Rows
section
variable {X : Cx}
theorem zI:Hi X rIxLH:=by
 intro pins s σ H x y v u Q I rx ry h
 obtain⟨p,xs,i,z,rfl,rfl,hq,he,q⟩:=h
 cases rx
 obtain⟨t,rfl⟩:=ry
 obtain⟨aU,r,pl,hz⟩:=I.list (aZ.of hq)
 obtain⟨j,h1,h2,h3,h4,h5⟩:=qr he
 obtain⟨w,ew,qg⟩:=r.get h2
 have hl:=r.length
 have hn:=mP
 have fin:EP X pins σ Q w s:=⟨z,H,I,qg,q⟩
 by_cases h0:0<=i
 ·have hj:i.toNat=j:=by
   rw[seqIndex_of h0 h5] at h1
   exact aax h1
  exact wpAny_getItem_list pl.isList h0 (by omega) (by rw[hj];simpa using ew) fin
 ·have hj:(i+ (aU.toArray.size:Int)).toNat=j:=by
   rw[seqIndex_neg (by omega) h4] at h1
   rw[aak,<-hl]
   exact aax h1
  exact wpAny_getItem_list_neg pl.isList (by omega) (by rw[aak] <;>omega) (by omega) (by rw[hj];simpa using ew) fin
theorem wo {K:PySem.W.Frag} {e:Expr} {f:Str} {pos:Pos} {ta:TE} (he:PE X e ta) (hb:attributeBase e f X.env (eval e X.env)=eval e X.env) (hK:X.K=K:=by rfl):PE X (.Attribute e f pos) (kR K ta f):=by subst hK;exact dU he hb
end
end L2
namespace Wq
abbrev Sh:=Int×Int
noncomputable def Lw (x:Sh):Prop:=0<x.2/\Nm.g x.1 x.2=1
noncomputable def sc (L:Int) (x:Sh):Int:=x.1* (L / x.2)
theorem u5 {L:Int} {x:Sh} (h:x.2∣L):sc L x*x.2=x.1*L:=by
 unfold sc
 rw[aaT,Int.ediv_mul_cancel h]
theorem zJ {L s:Int} {x:Sh} (h:Lw x) (L0:0<L) (e:x.1*L=s*x.2):x.2∣L/\sc L x=s:=by
 have c:Int.gcd x.1 x.2=1:=by have:=h.2;unfold Nm.g at this;omega
 have d:x.2∣L:=Nm.lX (q:=x.2) (a:=x.1) ⟨s,by rw[e,aaB]⟩ c
 refine⟨d,?_⟩
 have:=u5 d
 rw[e] at this
 exact Int.eq_of_mul_eq_mul_right (by have:=h.1;omega) this
noncomputable def low (a b:Int):Sh:=(Nm.st a b,Nm.sb a b)
theorem nK {a b:Int} (h:0<b):Lw (low a b):=⟨Nm.y7 (by omega),Nm.y8 (by omega)⟩
theorem Fg {a b L s:Int} (h:0<b) (L0:0<L) (e:a*L=s*b):(low a b).2∣L/\sc L (low a b)=s:=by
 refine zJ (nK h) L0 ?_
 have c:=Nm.sM a b
 show Nm.st a b*L=s*Nm.sb a b
 refine Int.eq_of_mul_eq_mul_right (show b≠0 by omega) ?_
 calc Nm.st a b*L*b=(Nm.st a b*b)*L:=Int.mul_right_comm ..
  _=a*Nm.sb a b*L:=by rw[c]
  _=(a*L)*Nm.sb a b:=Int.mul_right_comm ..
  _=s*b*Nm.sb a b:=by rw[e]
  _=s*Nm.sb a b*b:=Int.mul_right_comm ..
noncomputable def pl (x y:Sh):Sh:=low (x.1*y.2+y.1*x.2) (x.2*y.2)
noncomputable def tm (x y:Sh):Sh:=low (x.1*y.1) (x.2*y.2)
end Wq
namespace Wq
open L2
noncomputable def fJ (ws:List Sh) (i:Int):Sh:=ws.getD i.toNat (0,1)
noncomputable def c5 (Mn:List (Int×Int)):Int:=(Mn.map (·.1)).sum
end Wq
namespace Wq
open L2
noncomputable def tu (c b:Int):Int:=c / Nm.g c b*b
noncomputable def eY:Int->List Sh->Int
 | c,[]=>c
 | c,x::xs=>eY (tu c x.2) xs
theorem Cq {c b:Int} (hc:0<c) (hb:0<b):0<tu c b/\c∣tu c b/\b∣tu c b/\∀{Z:Int},c∣Z->b∣Z->tu c b∣Z:=by
 have g0:=Nm.jl (a:=c) (b:=b) (by omega)
 have gl:=Nm.jm c b
 have gr:=Nm.eN c b
 obtain⟨u,hu⟩:=gl
 obtain⟨v,hv⟩:=gr
 have e1:c / Nm.g c b=u:=by
  calc c / Nm.g c b=Nm.g c b*u / Nm.g c b:=by rw[<-hu]
   _=u:=Int.mul_ediv_cancel_left _ (by omega)
 have u0:0<u:=by rw[<-e1];exact Int.ediv_pos_of_pos_of_dvd hc (Nm.EL c b) ⟨u,hu⟩
 unfold tu
 rw[e1]
 refine⟨Int.mul_pos u0 hb,⟨v,?_⟩,Int.dvd_mul_left ..,λ{Z} h1 h2=>?_⟩
 ·calc u*b=u* (Nm.g c b*v):=by rw[<-hv]
   _=(Nm.g c b*u)*v:=by rw[<-aaT,aaB u]
   _=c*v:=by rw[<-hu]
 ·obtain⟨z,hz⟩:=h2
  have cp:Int.gcd v u=1:=by
   have h:=Int.gcd_ediv_gcd_ediv_gcd (i:=c) (j:=b) (by unfold Nm.g at g0;omega)
   have e2:b / Nm.g c b=v:=by
    calc b / Nm.g c b=Nm.g c b*v / Nm.g c b:=by rw[<-hv]
     _=v:=Int.mul_ediv_cancel_left _ (by omega)
   have h':Int.gcd (c / Nm.g c b) (b / Nm.g c b)=1:=h
   rw[e1,e2,Int.gcd_comm] at h'
   exact h'
  obtain⟨k,hk⟩:=h1
  have m:u*k=v*z:=by
   refine Int.eq_of_mul_eq_mul_left (show Nm.g c b≠0 by omega) ?_
   calc Nm.g c b* (u*k)=(Nm.g c b*u)*k:=(aaT ..).symm
    _=c*k:=by rw[<-hu]
    _=Z:=hk.symm
    _=b*z:=hz
    _=(Nm.g c b*v)*z:=by rw[<-hv]
    _=_:=aaT ..
  obtain⟨j,hj⟩:=Nm.lX (q:=u) (a:=v) (b:=z) ⟨k,m.symm⟩ cp
  exact⟨j,by rw[hz,hj,<-aaT,aaB b u]⟩
theorem mi:∀{xs:List Sh} {c:Int},0<c->(∀x∈xs,0<x.2)->0<eY c xs/\c∣eY c xs/\(∀x∈xs,x.2∣eY c xs)/\∀{Z:Int},c∣Z->(∀x∈xs,x.2∣Z)->eY c xs∣Z
 | [],c,hc,_=>⟨hc,Int.dvd_refl c,by simp,λh _=>h⟩
 | x::xs,c,hc,h=>by
  obtain⟨a1,a2,a3,a4⟩:=Cq hc (h x (aai ..))
  obtain⟨b1,b2,b3,b4⟩:=mi (xs:=xs) a1 λy hy=>h y (aaj _ hy)
  refine⟨b1,Int.dvd_trans a2 b2,λy hy=>?_,λ{Z} h1 h2=>b4 (a4 h1 (h2 x (aai ..))) λy hy=>h2 y (aaj _ hy)⟩
  rcases List.mem_cons.mp hy with rfl | hy
  ·exact Int.dvd_trans a3 b2
  ·exact b3 y hy
noncomputable def Vb (M:Int) (x:Sh):Prop:= -(M*x.2)<=x.1/\x.1<=M*x.2
theorem Il {L M:Int} {x:Sh} (hx:0<x.2) (L0:0<L) (d:x.2∣L):Vb M x↔-(M*L)<=sc L x/\sc L x<=M*L:=by
 have e:=u5 d
 have k:M*L*x.2=M*x.2*L:=Int.mul_right_comm ..
 have i1:∀p q:Int,p<=q↔p*L<=q*L:=λp q=>⟨λh=>Int.mul_le_mul_of_nonneg_right h (by omega),λh=>Int.le_of_mul_le_mul_right h L0⟩
 have i2:∀p q:Int,p<=q↔p*x.2<=q*x.2:=λp q=>⟨λh=>Int.mul_le_mul_of_nonneg_right h (by omega),λh=>Int.le_of_mul_le_mul_right h hx⟩
 unfold Vb
 rw[i1 (-(M*x.2)),i1 x.1,i2 (-(M*L)),i2 (sc L x),e,Int.neg_mul,Int.neg_mul,k]
end Wq
namespace Wq
theorem pR:∀{xs:List Sh} {c:Int} {x:Sh},eY c (xs++ [x])=tu (eY c xs) x.2
 | [],_,_=>rfl
 | y::xs,c,x=>pR (xs:=xs) (c:=tu c y.2) (x:=x)
noncomputable def dj:L2.Pl->Sh
 | .fin g=>g
 | .cL g _=>g
 | .bJ _ _=>(0,1)
end Wq
namespace Wq
end Wq
namespace Wq
end Wq
namespace Wq
end Wq
namespace Wq
end Wq
namespace K46
open PySem PySem.Spec PyProof.Rows L2
set_option maxHeartbeats 4000000
local macro_rules | `(tactic| simp! only [$ls,*]) => `(tactic| simp only [↓exV, ↓exI, ↓exB, ↓exR, ↓exS, ↓exII, ↓exRI, ↓exRa, ↓exRb, L2.start, Pr, tRev, tD1, tDPop1, tSl, tNoPart, tPart, rSlL, tDIn, tDNotIn, gSub, rSetL, tLst, tDNewK, tComp, L2.stC, tFor_eq, iList, iTup, iRng1, iRng2, iZip, iEnum, iDict, iStr, tChain, tSumV, tBM, rJoin, tJoined, jNil, jLit, jInt, jStr, tRaise, tDGet, tDGet2, tDGet1, sDPut, Option.join_some, List.getElem?_nil,  tSeq, tRet, tRetN, tIfS, tTest, tB, tOp, tUn, tVar, tC, tCB, tCons, tNil, tCall, tTupS, tAsg, gName, gNil, gCons, tPar, tNext, tDrop, tAnd, tOr, tNot, tAndV, tOrV, tNotV, tIf, rI, rI0, rU, rIxTH, rIxLH, rEqT, rNeT, rInT, rEq, rNe, scal_ss, scal_ii, scal_bb, scal_si, scal_is, CPow, at0, at1, at2, List.map_cons, List.map_nil, List.length_cons, List.length_nil, Nat.reduceSub, Nat.reduceAdd, Nat.zero_add, List.replicate_zero, List.reduceReplicate, List.append_nil, List.nil_append, List.cons_append, List.getElem?_cons_zero, List.getElem?_cons_succ, List.set_cons_zero, List.set_cons_succ, Option.some.injEq, exists_eq_left', exists_eq_left, V.ref.injEq, V.int.injEq, V.bl.injEq, V.str.injEq, V.ty.injEq, HO.tup.injEq, HO.lst.injEq, List.cons.injEq, and_true, true_and, and_assoc, exists_and_left, decide_eq_true_eq, Bool.not_eq_true', decide_eq_false_iff_not, ite_true, ite_false, if_true, if_false, Int.reduceToNat, eq_self_iff_true, $ls,*])
local macro_rules | `(tactic| simp_all only [$ls,*]) => `(tactic| (first | ((dsimp (config := { zetaDelta := true }) only [L2.start, Pr, tRev, tD1, tDPop1, tSl, tNoPart, tPart, rSlL, tDIn, tDNotIn, gSub, rSetL, tLst, tDNewK, tComp, L2.stC, tFor_eq, iList, iTup, iRng1, iRng2, iZip, iEnum, iDict, iStr, tChain, tSumV, tBM, rJoin, tJoined, jNil, jLit, jInt, jStr, tRaise, tDGet, tDGet2, tDGet1, sDPut, tSeq, tRet, tRetN, tIfS, tTest, tB, tOp, tUn, tVar, tC, tCB, tCons, tNil, tCall, tTupS, tAsg, gName, gNil, gCons, tPar, tNext, tDrop, tAnd, tOr, tNot, tAndV, tOrV, tNotV, tIf, rI, rI0, rU, rIxTH, rIxLH, rEqT, rNeT, rInT, rEq, rNe, scal_ss, scal_ii, scal_bb, scal_si, scal_is, CPow, List.getElem?_cons_zero, List.getElem?_cons_succ, List.set_cons_zero, List.set_cons_succ]); try simp! only [$ls,*]) | simp! only [$ls,*]))
seal L2.PE L2.PT L2.PW L2.PA L2.PS L2.uu L2.PG L2.GJ L2.PI L2.EU L2.PO L2.jO L2.Kp L2.cU L2.Dz L2.Hv L2.GK L2.Hy
theorem aB {P:Program} {w:World}:qx (bQ P w):=vZ P w
set_option genInjectivity false in
set_option genSizeOf false in
structure Txt (K:PySem.W.Frag) (mg:Str->Option Value) (aA tc:Addr):Prop where
 z_abs:mg "abs"=none
 z_all:mg "all"=none
 z_any:mg "any"=none
 z_enumerate:mg "enumerate"=none
 z_int:mg "int"=none
 z_len:mg "len"=none
 z_list:mg "list"=none
 z_max:mg "max"=none
 z_range:mg "range"=none
 z_sorted:mg "sorted"=none
 z_sum:mg "sum"=none
 z_zip:mg "zip"=none
 Cr:Dn K mg "goals" (top 1)
 u6:Dn K mg "is_ready" (top 2)
 nM:Dn K mg "ready_places" (top 3)
 zK:Dn K mg "levels" (top 4)
 Fh:Dn K mg "ring" (top 5)
 j4:Dn K mg "common_divisor" (top 12)
 Cs:Dn K mg "share" (top 13)
 kY:Dn K mg "common_bottom" (top 14)
 kZ:Dn K mg "row_with_head" (top 16)
 yc:Dn K mg "swapped" (top 17)
 fV:Dn K mg "without_first_column" (top 18)
 Ct:Dn K mg "swept" (top 19)
 lh:Dn K mg "whole_answers" (top 20)
 qJ:Dn K mg "steps_from" (top 22)
 Cu:Dn K mg "parts" (top 23)
 lA:Dn K mg "ways_of_picks" (top 27)
 lB:Dn K mg "checked_parts" (top 28)
 lC:Dn K mg "weighted_ways" (top 29)
 ij:Dn K mg "all_weighted_ways" (top 30)
 nN:Dn K mg "total_weight" (top 31)
 tw:Dn K mg "part_rows" (top 32)
 yd:Dn K mg "gain_of" (top 34)
 ye:Dn K mg "book_of" (top 35)
 u7:Dn K mg "gains_of" (top 36)
 nO:Dn K mg "blank_worths" (top 37)
 oQ:Dn K mg "with_worths" (top 38)
 qK:Dn K mg "wanted_way" (top 40)
 oR:Dn K mg "better_ways" (top 41)
 u9:Dn K mg "picks_of" (top 42)
 iT:Dn K mg "with_best_worths" (top 43)
 tz:Dn K mg "best_pick" (top 44)
 Fi:Dn K mg "best" (top 45)
 tD:Dn K mg "_law_cell" (top 47)
 qL:Dn K mg "_law_mixed" (top 48)
 va:Dn K mg "_law_low" (top 49)
 qM:Dn K mg "_law_times" (top 51)
 qN:Dn K mg "_law_share" (top 52)
 oS:Dn K mg "_law_turned" (top 53)
 qO:Dn K mg "_law_throw" (top 54)
 qP:Dn K mg "_law_board" (top 55)
 tE:Dn K mg "_law_copy" (top 57)
 tF:Dn K mg "_law_made" (top 60)
 qQ:Dn K mg "_law_small" (top 61)
 c_MOST_PLACES:∃t,mg "MOST_PLACES"=some (.int 40 t)
 c_MOST_PICKS:∃t,mg "MOST_PICKS"=some (.int 4096 t)
 k_Book:mg "Book"=some (.ref aA)
 cD:xK K aA
 na_Book_bottom:PySem.W.findIn K (.ref aA) "bottom"=some none
 na_Book_tops:PySem.W.findIn K (.ref aA) "tops"=some none
 Cv:L7 K mg "Book" "Book.__init__" (inClass (top 33) 0) aA
 ju:Kz K aA "as_shares" "Book.as_shares" (inClass (top 33) 2)
 nP:Kz K aA "scaled" "Book.scaled" (inClass (top 33) 1)
 Cw:Ik K mg "parts" tc
theorem Mo {C:List Value->Prop} (k:C []):∀us:List Value,us.length=0->C us:=λus h=>by
 cases us with
 | nil=>exact k
 | cons a us=>cases h
theorem zL {C:List Value->Prop} {n:Nat} (k:∀a (us:List Value),us.length=n->C (a::us)):∀us:List Value,us.length=n+1->C us:=λus h=>by
 cases us with
 | nil=>cases h
 | cons a us=>exact k a us (Nat.succ.inj h)
theorem ik {C:List Value->Prop} (k:∀a,C [a]):∀us:List Value,us.length=1->C us:=zL λa=>Mo (C:=λus=>C (a::us)) (k a)
theorem eZ {C:List Value->Prop} (k:∀a b,C [a,b]):∀us:List Value,us.length=2->C us:=zL λa=>ik (C:=λus=>C (a::us)) (k a)
theorem qR {C:List Value->Prop} (k:∀a b c,C [a,b,c]):∀us:List Value,us.length=3->C us:=zL λa=>eZ (C:=λus=>C (a::us)) (k a)
theorem Fj {C:List Value->Prop} (k:∀a b c d,C [a,b,c,d]):∀us:List Value,us.length=4->C us:=zL λa=>qR (C:=λus=>C (a::us)) (k a)
theorem Mp {C:List Value->Prop} (k:∀a b c d e,C [a,b,c,d,e]):∀us:List Value,us.length=5->C us:=zL λa=>Fj (C:=λus=>C (a::us)) (k a)
abbrev dsc:Array Value:=#[rawInt 119,rawInt 29,.str ((Str.ofString "parts"++".<locals>.")++"<lambda>") 0]
noncomputable def gv:Option Int->V
 | none=>.cB
 | some i=>.int i
noncomputable def Im:Option Int->Dat
 | none=>.cB
 | some i=>.int i
theorem wq {H:Hp} {ps:List (Option Int)} {l:Addr} (h:H l=some (.lst (List.map gv ps))):Rep H (.lst (ps.map Im)) (.ref l):=by
 refine aO.mpr ⟨l,_,rfl,h,cZ (by rw[aab]) λi y ey o eo=>?_⟩
 rw[aad,eo] at ey
 cases ey
 cases o <;>simp [Im,gv,Rep]
theorem yf (ps:List (Option Int)):depth (.lst (ps.map Im))<=40:=by
 have:=nh (ds:=ps.map Im) (n:=0) λd hd=>by obtain⟨o,_,rfl⟩:=List.mem_map.mp hd;cases o <;>simp [Im,depth]
 rw[depth]
 omega
theorem DO {fs:Lv.Fs} {g:Int} (h0:0<=g) (h1:g< (fs.length:Nat)):fH (List.map gv fs) g=some (gv (Lv.lk fs g)):=by
 obtain⟨j,rfl⟩:=aav h0
 have hj:j<fs.length:=by omega
 have e:fs[j]?=some fs[j]:=aac hj
 rw[ni (f:=gv) e]
 congr 2
 unfold Lv.lk
 rw[aah,aae,e]
 rfl
theorem nQ {o:Option Int}:(gv o=V.cB)↔o=none:=by cases o <;>simp [gv]
noncomputable def tG:Sp:=λvs H Q _=>∃v q,vs=[v]/\Rep H (iS q) v/\(Lv.fI q).length<=100/\∀l H',az H H'->H l=none->H' l=some (.lst (List.map V.int (Lv.fI q)))->Q (.ref l) H'
noncomputable def zM:Sp:=λvs H Q _=>∃v q f fs,vs=[v,.ref f]/\Rep H (iS q) v/\H f=some (.lst (List.map gv fs))/\(Lv.fI q).length<=100/\(∀g∈Lv.fI q,0<=g/\g< (fs.length:Nat))/\∀H',az H H'->Q (.bl (Lv.DK fs q)) H'
noncomputable def eM (i:Nat):V:=.int i
noncomputable def wt:Sp:=λvs H Q _=>∃a b f fs,vs=[.ref a,.ref f]/\Rep H (pJ b) (.ref a)/\H f=some (.lst (List.map gv fs))/\fs.length=b.length/\b.length<=1000/\(∀q∈b,(Lv.fI q).length<=100)/\Lv.Good b/\∀l H',az H H'->H l=none->H' l=some (.lst (List.map eM (Lv.fresh b fs)))->Q (.ref l) H'
noncomputable def zN:Sp:=λvs H Q _=>∃a b,vs=[.ref a]/\Rep H (pJ b) (.ref a)/\b.length<=1000/\(∀q∈b,(Lv.fI q).length<=100)/\Lv.Good b/\∀l H',az H H'->H l=none->H' l=some (.lst (List.map gv (Lv.sS b)))->Q (.ref l) H'
structure Wz (H:Hp) (b:List Pl) (a ff:Addr) (m:Nat) (σ:L2.St) (H':Hp):Prop where
 ex:∃fs L fr z,σ=[some (V.ref a),some (V.ref ff),some (V.int L),some (V.ref fr),z]/\H' ff=some (.lst (List.map gv fs))/\H' fr=some (.lst (List.map eM (Lv.fresh b fs)))/\fr≠ff/\az H H'/\fs.length=b.length/\Lv.d3 fs<=m/\Lv.run b m fs L=Lv.sS b
noncomputable def nR (b:List Pl):List Nat:=(List.range b.length).filter fun(i:Nat)=>(Lv.lk (Lv.sS b) (i:Int)).isNone
theorem zO {b:List Pl} {i:Nat}:i∈nR b↔i<b.length/\Lv.lk (Lv.sS b) (i:Int)=none:=by
 unfold nR
 rw[List.mem_filter,List.mem_range]
 simp
structure Bd (b:List Pl):Prop where
 len:b.length<=1000
 sI:∀q∈b,(Lv.fI q).length<=100
 good:Lv.Good b
noncomputable def vb:Sp:=λvs H Q _=>∃a b,vs=[.ref a]/\Rep H (pJ b) (.ref a)/\Bd b/\∀l H',az H H'->H l=none->H' l=some (.lst (List.map eM (nR b)))->Q (.ref l) H'
noncomputable def oU (H:Hp):Option (Int×Nat)->V->Prop
 | none,v=>v=.cB
 | some (h,w),v=>∃p,v=.ref p/\H p=some (.tup [.int h,.int (w:Int)])
theorem oU.mono {H H':Hp} (s:az H H') {o:Option (Int×Nat)} {v:V} (h:oU H o v):oU H' o v:=by
 cases o with
 | none=>exact h
 | some x=>obtain⟨p,e,hp⟩:=h;exact⟨p,e,s _ _ hp⟩
theorem oU.upd {H:Hp} {a:Addr} {o:HO} {par:Option (Int×Nat)} {v:V} (n:∀xs,H a≠some (.tup xs)) (h:oU H par v):oU (upd H a o) par v:=by
 cases par with
 | none=>exact h
 | some x=>obtain⟨p,e,hp⟩:=h;exact⟨p,e,by rw[aG (λz=>n _ (z▸hp))];exact hp⟩
structure fv (H:Hp) (d:Addr) (es:List Bf.En):Prop where
 ex:∃kvs,H d=some (.dK kvs)/\kvs.map (·.1)=(Bf.keys es).map Sum.inl/\∀(i:Nat) e,es[i]?=some e->∃v,kvs[i]?=some (Sum.inl e.1,v)/\oU H e.2.1 v
theorem fv.mono {H H':Hp} (s:az H H') {d:Addr} {es:List Bf.En} (h:fv H d es):fv H' d es:=by
 obtain⟨kvs,hd,hk,hv⟩:=h
 exact⟨kvs,s _ _ hd,hk,λi e he=>by obtain⟨v,e1,e2⟩:=hv i e he;exact⟨v,e1,e2.mono s⟩⟩
theorem vc {κ:Type} [DecidableEq κ]:∀{kvs:List (κ×V)} {i:Nat} {k:κ} {v:V},(kvs.map (·.1)).Nodup->kvs[i]?=some (k,v)->gG kvs k=some v
 | [],i,k,v,_,h=>by simp at h
 | p::r,0,k,v,_,h=>by simp at h;subst h;exact jj rfl
 | p::r,i+1,k,v,nd,h=>by
  simp at h
  rw[aas,List.nodup_cons] at nd
  rw[gH (λz=>nd.1 (by rw[z];exact List.mem_map.mpr ⟨(k,v),aaf h,rfl⟩))]
  exact vc nd.2 h
theorem ml {κ:Type} [DecidableEq κ]:∀{kvs:List (κ×V)} {k:κ},k∉kvs.map (·.1)->gG kvs k=none
 | [],k,_=>rfl
 | p::r,k,h=>by
  rw[aas] at h
  rw[gH (λz=>h (by rw[z];exact aai))]
  exact ml λz=>h (aaj _ z)
theorem zP {l:List Int} (h:l.Nodup):(l.map (Sum.inl:Int->Key)).Nodup:=by
 unfold List.Nodup at *
 rw[List.pairwise_map]
 exact h.imp λ{a b} TQ z=>TQ (by cases z;rfl)
theorem qS {l:List Int} {k:Int}:(Sum.inl k:Key)∈l.map Sum.inl↔k∈l:=by
 rw[List.mem_map]
 constructor
 ·rintro⟨x,hx,e⟩;cases e;exact hx
 ·intro h;exact⟨k,h,rfl⟩
theorem fv.get {H:Hp} {d:Addr} {es:List Bf.En} (h:fv H d es) (nd:(Bf.keys es).Nodup) {i:Nat} {e:Bf.En} (he:es[i]?=some e):∃v,jT H d (.int e.1) (some v)/\oU H e.2.1 v:=by
 obtain⟨kvs,hd,hk,hv⟩:=h
 obtain⟨v,e1,e2⟩:=hv i e he
 exact⟨v,.inl ⟨kvs,Sum.inl e.1,.inl hd,rfl,(vc (by rw[hk];exact zP nd) e1).symm⟩,e2⟩
theorem fv.out {H:Hp} {d:Addr} {es:List Bf.En} (h:fv H d es) {k:Int} (hk:k∉Bf.keys es):jT H d (.int k) none:=by
 obtain⟨kvs,hd,Io,_⟩:=h
 exact .inl ⟨kvs,Sum.inl k,.inl hd,rfl,(ml (by rw[Io];exact λz=>hk (qS.mp z))).symm⟩
theorem fv.has {H:Hp} {d:Addr} {es:List Bf.En} (h:fv H d es) (nd:(Bf.keys es).Nodup) (k:Int):∃o,jT H d (.int k) o/\o.isSome=decide (k∈Bf.keys es):=by
 by_cases c:k∈Bf.keys es
 ·obtain⟨e,he,rfl⟩:=List.mem_map.mp c
  obtain⟨i,hi⟩:=aaw he
  obtain⟨v,g,_⟩:=h.get nd hi
  exact⟨_,g,by simp [c]⟩
 ·exact⟨_,h.out c,by simp [c]⟩
theorem fv.put {H:Hp} {d:Addr} {es:List Bf.En} (h:fv H d es) {k:Int} {par:Option (Int×Nat)} {path:List Nat} {v:V} (hk:k∉Bf.keys es) (pv:oU H par v) (hl:es.length<sizeLine):
  ∃o,uO H d (.int k) v (upd H d o)/\fv (upd H d o) d (es++ [(k,par,path)]):=by
 obtain⟨kvs,hd,Io,hv⟩:=h
 have len:kvs.length=es.length:=by
  have:=congrArg List.length Io
  unfold Bf.keys at this
  simpa using this
 have vn:gG kvs (Sum.inl k)=none:=ml (by rw[Io];exact λz=>hk (qS.mp z))
 have nt:∀xs,H d≠some (.tup xs):=λxs z=>by rw[hd] at z;cases z
 refine⟨.dK (kvs++ [(Sum.inl k,v)]),?_,⟨kvs++ [(Sum.inl k,v)],ar,?_,λi e he=>?_⟩⟩
 ·have:=uO.k (k:=Sum.inl k) (v:=v) hd (by omega)
  rw[sy v vn] at this
  exact this
 ·unfold Bf.keys at *
  rw[aau,aau,aau,Io]
  rfl
 ·rcases Bf.eF he with he | ⟨rfl,rfl⟩
  ·obtain⟨v',e1,e2⟩:=hv i e he
   exact⟨v',Bf.up e1,e2.upd nt⟩
  ·refine⟨v,?_,pv.upd nt⟩
   rw[aaV (by omega),len,Nat.sub_self]
   rfl
theorem pS {here:Int} {path:List Nat}:∀(gs:List Int) (w:Nat) (es:List Bf.En) (g:Int),Bf.fS here path w (gs++ [g]) es=(if g∈Bf.keys (Bf.fS here path w gs es) then Bf.fS here path w gs es else Bf.fS here path w gs es++ [(g,some (here,w+gs.length),path++ [w+gs.length])])
 | [],w,es,g=>rfl
 | x::gs,w,es,g=>by
  show Bf.fS here path (w+1) (gs++ [g]) _=_
  rw[pS gs (w+1)]
  show(if g∈Bf.keys (Bf.fS here path (w+1) gs _) then Bf.fS here path (w+1) gs _ else Bf.fS here path (w+1) gs _++ [(g,some (here,w+1+gs.length),path++ [w+1+gs.length])])=_
  rw[aap,show w+1+gs.length=w+ (gs.length+1) by omega]
  rfl
structure WA (H:Hp) (b:List Pl) (a d f:Addr) (st:Int) (m:Nat) (σ:L2.St) (H':Hp):Prop where
 ex:∃(t:Nat) (es:List Bf.En),∃z5 z6 z7,σ=[some (V.ref a),some (V.int st),some (V.ref d),some (V.ref f),some (V.int (t:Int)),z5,z6,z7]/\fv H' d es/\H' f=some (.lst (List.map V.int (Bf.keys es)))/\az H H'/\Bf.Inv b st t es/\Bf.Bl b m t es=Bf.steps b st/\b.length<m+t
noncomputable def wu:Sp:=λvs H Q _=>∃a b st,vs=[.ref a,.int st]/\Rep H (pJ b) (.ref a)/\b.length<=1000/\(∀q∈b,(Lv.fI q).length<=100)/\Lv.Good b/\0<=st/\st<b.length/\∀d H',az H H'->H d=none->fv H' d (Bf.steps b st)->Q (.ref d) H'
structure Z8 (H:Hp) (es:List Bf.En) (a d bk:Addr) (st g:Int) (path:List Nat) (m:Nat) (σ:L2.St) (H':Hp):Prop where
 ex:∃(e:Bf.En) (bs:List Nat) (v:V),es[m]?=some e/\oU H' e.2.1 v/\H' bk=some (.lst (List.map eM bs))/\path=e.2.2++bs.reverse/\fv H' d es/\az H H'/\σ=[some (V.ref a),some (V.int st),some (V.int g),some (V.ref d),some (V.ref bk),some v]
structure WB (H:Hp) (a d f l:Addr) (st:Int) (t:Nat) (e:Bf.En) (gs:List Int) (es:List Bf.En) (k:Nat) (σ:L2.St) (H':Hp):Prop where
 ex:∃z6 z7,σ=[some (V.ref a),some (V.int st),some (V.ref d),some (V.ref f),some (V.int (t:Int)),some (V.int e.1),z6,z7]
 dr:fv H' d (Bf.fS e.1 e.2.2 0 (gs.take k) es)
 hf:H' f=some (.lst (List.map V.int (Bf.keys (Bf.fS e.1 e.2.2 0 (gs.take k) es))))
 hl:H' l=some (.lst (List.map V.int gs))
 sm:az H H'
noncomputable def Al {α:Type} (R:α->V->Prop):List α->List V->Prop
 | [],[]=>True
 | a::as,v::vs=>R a v/\Al R as vs
 | _,_=>False
theorem Al.length {α:Type} {R:α->V->Prop}:∀{as:List α} {vs:List V},Al R as vs->vs.length=as.length
 | [],[],_=>rfl
 | a::as,v::vs,h=>by simp [Al.length h.2]
theorem Al.imp {α:Type} {R S:α->V->Prop} (f:∀a v,R a v->S a v):∀{as:List α} {vs:List V},Al R as vs->Al S as vs
 | [],[],_=>trivial
 | a::as,v::vs,h=>⟨f _ _ h.1,Al.imp f h.2⟩
theorem Al.append {α:Type} {R:α->V->Prop}:∀{as bs:List α} {us vs:List V},Al R as us->Al R bs vs->Al R (as++bs) (us++vs)
 | [],_,[],_,_,k=>k
 | a::as,_,v::vs,_,h,k=>⟨h.1,Al.append h.2 k⟩
theorem Al.one {α:Type} {R:α->V->Prop} {a:α} {v:V} (h:R a v):Al R [a] [v]:=⟨h,trivial⟩
theorem zQ {α:Type} {H:Hp} {f:α->Dat} {as:List α} {vs:List V} {i:Nat} {v:V} (h:aY H (as.map f) vs) (e:vs[i]?=some v):∃a,as[i]?=some a/\Rep H (f a) v:=by
 obtain⟨d,ed,rd⟩:=h.get e
 rw[aad] at ed
 obtain⟨a,ea,rfl⟩:=Option.map_eq_some_iff.mp ed
 exact⟨a,ea,rd⟩
theorem Al.get {α:Type} {R:α->V->Prop}:∀{as:List α} {vs:List V} {i:Nat} {v:V},Al R as vs->vs[i]?=some v->∃a,as[i]?=some a/\R a v:=by
 intro as
 induction as with
 | nil=>
  intro vs i v h e
  cases vs with
  | nil=>simp at e
  | cons u vs=>exact h.elim
 | cons a as ih=>
  intro vs i v h e
  cases vs with
  | nil=>exact h.elim
  | cons u vs=>
   cases i with
   | zero=>cases e;exact⟨a,rfl,h.1⟩
   | succ i=>exact ih (vs:=vs) (i:=i) h.2 e
theorem Al.at {α:Type} {R:α->V->Prop}:∀{as:List α} {vs:List V} {i:Nat} {a:α},Al R as vs->as[i]?=some a->∃v,vs[i]?=some v/\R a v:=by
 intro as
 induction as with
 | nil=>
  intro vs i v h e
  simp at e
 | cons a as ih=>
  intro vs i v h e
  cases vs with
  | nil=>exact h.elim
  | cons u vs=>
   cases i with
   | zero=>cases e;exact⟨u,rfl,h.1⟩
   | succ i=>exact ih (vs:=vs) (i:=i) h.2 e
theorem Al.of {α:Type} {R:α->V->Prop}:∀{as:List α} {vs:List V},vs.length=as.length->(∀(i:Nat) v a,vs[i]?=some v->as[i]?=some a->R a v)->Al R as vs
 | [],[],_,_=>trivial
 | [],_::_,l,_=>by simp at l
 | _::_,[],l,_=>by simp at l
 | a::as,u::vs,l,h=>⟨h 0 u a rfl rfl,Al.of (by simpa using l) λi v b e1 e2=>h (i+1) v b (by simpa using e1) (by simpa using e2)⟩
namespace Pr
open Bf Lv
noncomputable def kb (b:List Pl) (p:Int):List Int:=keys (steps b p)
noncomputable def In (b:List Pl) (p:Int):Prop:=0<=p/\p<b.length
section Q1
variable {b : List Pl} (gb : Good b)
include gb
theorem nS {p:Int} (h:In b p):(kb b p).Nodup:=(fu gb h.1 h.2).1.nd
theorem nU {p q:Int} (h:In b p) (hq:q∈kb b p):In b q:=by
 obtain⟨e,he,rfl⟩:=List.mem_map.mp hq
 exact(fu gb h.1 h.2).1.mG e he
theorem hG {p:Int} (h:In b p):p∈kb b p:=List.mem_map.mpr ⟨_,aaf (fu gb h.1 h.2).1.hd,rfl⟩
theorem qT {p q g:Int} (h:In b p) (hq:q∈kb b p) (hg:g∈fb b q):g∈kb b p:=by
 obtain⟨e,he,rfl⟩:=List.mem_map.mp hq
 obtain⟨j,hj⟩:=aaw he
 obtain⟨i,ei,h1,h2,_⟩:=(fu gb h.1 h.2).2 j e hj g hg
 exact List.mem_map.mpr ⟨ei,aaf h1,h2⟩
theorem zR {p:Int} (h:In b p):∀(ws:List Nat) (q r:Int),q∈kb b p->go b q ws=some r->r∈kb b p
 | [],q,r,hq,e=>by cases e;exact hq
 | w::ws,q,r,hq,e=>by
  have e:(match (fb b q)[w]? with | some g=>go b g ws | none=>none)=some r:=e
  cases c:(fb b q)[w]? with
  | none=>rw[c] at e;cases e
  | some g=>rw[c] at e;exact zR h ws g r (qT gb h hq (aaf c)) e
theorem vd {p q:Int} (h:In b p):q∈kb b p↔∃ws,go b p ws=some q:=by
 constructor
 ·intro hq
  obtain⟨e,he,rfl⟩:=List.mem_map.mp hq
  obtain⟨j,hj⟩:=aaw he
  exact⟨_,Cj (fu gb h.1 h.2).1 j e hj⟩
 ·rintro⟨ws,e⟩
  exact zR gb h ws p q (hG gb h) e
theorem fx {p q r:Int} (h:In b p) (hq:q∈kb b p) (hr:r∈kb b q):r∈kb b p:=by
 obtain⟨ws,e⟩:=(vd gb (nU gb h hq)).mp hr
 exact zR gb h ws q r hq e
theorem zS {p:Int} (h:In b p):(kb b p).length<=b.length:=by
 have:=(fu gb h.1 h.2).1.sI
 unfold kb keys
 rw[aab]
 exact this
end Q1
theorem nV:∀{l m:List Int},l.Nodup->(∀x∈l,x∈m)->∃r,m.Perm (l++r)
 | [],m,_,_=>⟨m,.refl _⟩
 | x::l,m,nd,h=>by
  obtain⟨n1,n2⟩:=List.nodup_cons.mp nd
  obtain⟨r,p⟩:=nV (m:=m.erase x) n2 λy hy=>(List.mem_erase_of_ne (a:=y) (b:=x) λz=>n1 (by rw[<-z];exact hy)).mpr (h y (aaj _ hy))
  exact⟨r,(List.perm_cons_erase (h x aai)).trans (p.cons x)⟩
theorem sub_len {l m:List Int} (hl:l.Nodup) (h:∀x∈l,x∈m):l.length<=m.length:=by
 obtain⟨r,p⟩:=nV hl h
 rw[p.length_eq,aaD]
 omega
theorem sub_eq {l m:List Int} (hl:l.Nodup) (hm:m.Nodup) (h:∀x∈l,x∈m) (e:m.length<=l.length):∀x∈m,x∈l:=λx hx=>by
 obtain⟨r,p⟩:=nV hl h
 have:=p.length_eq
 rw[aaD] at this
 have:r=[]:=List.length_eq_zero_iff.mp (by omega)
 subst this
 rw[aa4] at p
 exact p.mem_iff.mp hx
noncomputable def c6 (b:List Pl) (p:Int):List Int:=(Nm.lZ (kb b p)).filter λo=>decide (p∈kb b o)
noncomputable def rep (b:List Pl) (p:Int):Int:=(c6 b p).headD (-1)
noncomputable def jb (b:List Pl) (n:Nat):List Int:=((List.range n).map fun(i:Nat)=>(i:Int)).filter λp=>decide (rep b p=p)
section Q2
variable {b : List Pl} (gb : Good b)
include gb
omit gb in
theorem c9 {p o:Int}:o∈c6 b p↔o∈kb b p/\p∈kb b o:=by
 unfold c6
 rw[List.mem_filter,Nm.v8,decide_eq_true_eq]
theorem j5 {p:Int} (h:In b p):(c6 b p).Pairwise (·<·):=List.Pairwise.filter _ (Nm.E1 (nS gb h))
theorem nW {p:Int} (h:In b p):p∈c6 b p:=c9.mpr ⟨hG gb h,hG gb h⟩
theorem eG {p o:Int} (h:In b p) (ho:o∈c6 b p):In b o:=nU gb h (c9.mp ho).1
theorem iU {p:Int} (h:In b p):c6 b p≠[]:=List.ne_nil_of_mem (nW gb h)
theorem Cy {p o:Int} (ho:o∈c6 b p):p∈c6 b o:=c9.mpr (c9.mp ho).symm
theorem wz {p o:Int} (h:In b p) (ho:o∈c6 b p):∀x,x∈kb b p↔x∈kb b o:=λx=>by
 obtain⟨h1,h2⟩:=c9.mp ho
 exact⟨λhx=>fx gb (nU gb h h1) h2 hx,λhx=>fx gb h h1 hx⟩
theorem wA {p o:Int} (h:In b p) (ho:o∈c6 b p):(kb b p).length=(kb b o).length:=by
 have hi:=eG gb h ho
 exact Nat.le_antisymm (sub_len (nS gb h) λx hx=>(wz gb h ho x).mp hx) (sub_len (nS gb hi) λx hx=>(wz gb h ho x).mpr hx)
theorem pT {p o r:Int} (h:In b p) (ho:o∈c6 b p) (hr:r∈c6 b o):r∈c6 b p:=by
 have hi:=eG gb h ho
 have Mc:=eG gb hi hr
 obtain⟨h1,h2⟩:=c9.mp ho
 obtain⟨h3,h4⟩:=c9.mp hr
 exact c9.mpr ⟨fx gb h h1 h3,fx gb Mc h4 h2⟩
omit gb in
theorem Fk {l m:List Int} (hl:l.Pairwise (·<·)) (hm:m.Pairwise (·<·)) (h:∀x,x∈l↔x∈m):l=m:=by
 have p:l.Perm m:=(List.perm_ext_iff_of_nodup (hl.imp λh z=>by omega) (hm.imp λh z=>by omega)).mpr h
 have o1:l.Pairwise (·<=·):=hl.imp λh=>Int.le_of_lt h
 have o2:m.Pairwise (·<=·):=hm.imp λh=>Int.le_of_lt h
 rw[Nm.ma p o1,Nm.uR o2]
theorem qU {p o:Int} (h:In b p) (ho:o∈c6 b p):c6 b o=c6 b p:=by
 have hi:=eG gb h ho
 refine Fk (j5 gb hi) (j5 gb h) λx=>⟨λhx=>pT gb h ho hx,λhx=>pT gb hi (Cy gb ho) hx⟩
theorem mr {p:Int} (h:In b p):rep b p∈c6 b p:=by
 unfold rep
 cases e:c6 b p with
 | nil=>exact absurd e (iU gb h)
 | cons x r=>exact aai
theorem Fl {p:Int} (h:In b p):In b (rep b p):=eG gb h (mr gb h)
theorem qV {p:Int} (h:In b p):c6 b (rep b p)=c6 b p:=qU gb h (mr gb h)
theorem Cz {p:Int} (h:In b p):rep b (rep b p)=rep b p:=by
 show(c6 b (rep b p)).headD (-1)=_
 rw[qV gb h]
 rfl
theorem qW {p o:Int} (h:In b p) (ho:o∈c6 b p):rep b o=rep b p:=by
 show(c6 b o).headD (-1)=_
 rw[qU gb h ho]
 rfl
omit gb in
theorem hJ {n:Nat} {p:Int}:p∈jb b n↔(0<=p/\p<n)/\rep b p=p:=by
 unfold jb
 rw[List.mem_filter,List.mem_map,decide_eq_true_eq]
 constructor
 ·rintro⟨⟨i,hi,rfl⟩,h⟩
  have:=List.mem_range.mp hi
  exact⟨⟨by omega,by omega⟩,h⟩
 ·rintro⟨⟨h1,h2⟩,h⟩
  exact⟨⟨p.toNat,List.mem_range.mpr (by omega),by omega⟩,h⟩
omit gb in
theorem Fn {n:Nat}:(jb b n).Nodup:=by
 refine List.Pairwise.filter _ ?_
 rw[List.pairwise_map]
 exact List.nodup_range.imp λh z=>h (by omega)
omit gb in
theorem wB {n:Nat}:(jb b n).length<=n:=by
 unfold jb
 refine aao (List.length_filter_le _ _) ?_
 rw[aab,aaz]
 exact aag _
omit gb in
theorem tH {n:Nat}:jb b (n+1)=if rep b (n:Int)=(n:Int) then jb b n++ [(n:Int)] else jb b n:=by
 unfold jb
 rw[List.range_succ,aau,List.filter_append]
 by_cases c:rep b (n:Int)=(n:Int)
 ·rw[if_pos c]
  simp [c]
 ·rw[if_neg c]
  simp [c]
theorem CA {p:Int} (h:In b p):rep b p∈jb b b.length:=hJ.mpr ⟨Fl gb h,Cz gb h⟩
end Q2
structure Told (b:List Pl) (ps:List Int):Prop where
 pm:ps.Perm (jb b b.length)
 od:ps.Pairwise λp q=>(kb b p).length<=(kb b q).length
section Q3
variable {b : List Pl} (gb : Good b) {ps : List Int} (T : Told b ps)
include gb T
omit gb in
theorem Told.nd:ps.Nodup:=T.pm.nodup_iff.mpr Fn
omit gb in
theorem Told.Ip {p:Int} (h:p∈ps):In b p:=(hJ.mp (T.pm.mem_iff.mp h)).1
omit gb in
theorem Told.rp {p:Int} (h:p∈ps):rep b p=p:=(hJ.mp (T.pm.mem_iff.mp h)).2
theorem Told.has {p:Int} (h:In b p):rep b p∈ps:=T.pm.mem_iff.mpr (CA gb h)
theorem Told.Fo {p q:Int} (h:In b p) (hq:q∈kb b p):ps.idxOf (rep b q)<=ps.idxOf (rep b p):=by
 have hi:=nU gb h hq
 have sub:∀x∈kb b q,x∈kb b p:=λx hx=>fx gb h hq hx
 have le:=sub_len (nS gb hi) sub
 by_cases c:(kb b p).length<=(kb b q).length
 ·have:p∈kb b q:=sub_eq (nS gb hi) (nS gb h) sub c p (hG gb h)
  rw[qW gb h (c9.mpr ⟨hq,this⟩)]
  exact aag _
 ·have l1:=aa1 (T.has gb hi)
  have l2:=aa1 (T.has gb h)
  rcases Nat.lt_or_ge (ps.idxOf (rep b p)) (ps.idxOf (rep b q)) with g | g
  ·have od:=List.pairwise_iff_getElem.mp T.od _ _ l2 l1 g
   rw[aa5 l2,aa5 l1,<-wA gb h (mr gb h),<-wA gb hi (mr gb hi)] at od
   omega
  ·exact g
end Q3
noncomputable def gw (b:List Pl):List Int->Nat->List (Int×Int)
 | [],_=>[]
 | p::ps,i=>(c6 b p).map (λx=>(x,(i:Int)))++gw b ps (i+1)
theorem kF (b:List Pl):∀(l m:List Int) (i:Nat),gw b (l++m) i=gw b l i++gw b m (i+l.length)
 | [],m,i=>rfl
 | p::l,m,i=>by
  rw[abk,gw,gw,kF b l m (i+1),List.append_assoc,aap,show i+1+l.length=i+ (l.length+1) by omega]
theorem jv {b:List Pl} {x j:Int}:∀{ps:List Int} {i:Nat},(x,j)∈gw b ps i↔∃t p,ps[t]?=some p/\x∈c6 b p/\j=((i+t:Nat):Int)
 | [],i=>by
  constructor
  ·intro h;cases h
  ·rintro⟨t,p,h,_⟩;simp at h
 | q::ps,i=>by
  rw[gw,List.mem_append,List.mem_map,jv (ps:=ps)]
  constructor
  ·rintro(⟨y,hy,e⟩ | ⟨t,p,h1,h2,h3⟩)
   ·injection e with e1 e2
    subst e1 e2
    exact⟨0,q,rfl,hy,rfl⟩
   ·exact⟨t+1,p,by simpa using h1,h2,by rw[h3];congr 1;omega⟩
  ·rintro⟨t,p,h1,h2,h3⟩
   cases t with
   | zero=>simp at h1;subst h1;exact .inl ⟨x,h2,by rw[h3];rfl⟩
   | succ t=>exact .inr ⟨t,p,by simpa using h1,h2,by rw[h3];congr 1;omega⟩
theorem wC {b:List Pl} (gb:Good b):∀{ps:List Int} {i:Nat},ps.Nodup->(∀p∈ps,In b p/\rep b p=p)->((gw b ps i).map (·.1)).Nodup
 | [],i,_,_=>List.nodup_nil
 | p::ps,i,nd,h=>by
  obtain⟨n1,n2⟩:=List.nodup_cons.mp nd
  have hp:=h p aai
  rw[gw,aau,List.nodup_append]
  refine⟨?_,wC gb n2 λq hq=>h q (aaj _ hq),λx hx y hy e=>?_⟩
  ·rw[aaM,show((λx:Int×Int=>x.1) ∘λx=>(x,(i:Int)))=id from rfl,List.map_id]
   exact(j5 gb hp.1).imp λh z=>by omega
  ·rw[aaM,show((λx:Int×Int=>x.1) ∘λx=>(x,(i:Int)))=id from rfl,List.map_id] at hx
   subst e
   obtain⟨⟨x',j⟩,hm,rfl⟩:=List.mem_map.mp hy
   obtain⟨t,q,h1,h2,_⟩:=jv.mp hm
   have hq:=h q (aaj _ (aaf h1))
   have e1:=qW gb hp.1 hx
   have e2:=qW gb hq.1 h2
   rw[hp.2] at e1
   rw[hq.2] at e2
   have:p=q:=e1.symm.trans e2
   exact n1 (this▸aaf h1)
section Q9
variable {b : List Pl} (gb : Good b) {ps : List Int} (T : Told b ps)
include gb T
theorem Told.Fp:((gw b ps 0).map (·.1)).Nodup:=wC gb T.nd λp hp=>⟨T.Ip hp,T.rp hp⟩
theorem Told.CB {x:Int} (h:In b x):(x,((ps.idxOf (rep b x):Nat):Int))∈gw b ps 0:=by
 have hm:=T.has gb h
 refine jv.mpr ⟨ps.idxOf (rep b x),rep b x,?_,?_,by rw[aaZ]⟩
 ·have l:=aa1 hm
  rw[aac l,aa5 l]
 ·rw[qV gb h];exact nW gb h
theorem Told.Fq {x j:Int} (h:(x,j)∈gw b ps 0):In b x:=by
 obtain⟨t,p,h1,h2,_⟩:=jv.mp h
 exact eG gb (T.Ip (aaf h1)) h2
theorem Told.zT:Nm.lZ ((gw b ps 0).map (·.1))=(List.range b.length).map fun(i:Nat)=>(i:Int):=by
 refine(Nm.ma ((List.perm_ext_iff_of_nodup ?_ (T.Fp gb)).mpr λx=>?_) ?_).symm
 ·rw[List.nodup_iff_pairwise_ne,List.pairwise_map]
  exact List.nodup_range.imp λh z=>h (by omega)
 ·rw[List.mem_map,List.mem_map]
  constructor
  ·rintro⟨i,hi,rfl⟩
   have:=List.mem_range.mp hi
   exact⟨_,T.CB gb (x:=(i:Int)) ⟨by omega,by omega⟩,rfl⟩
  ·rintro⟨⟨y,j⟩,hy,rfl⟩
   obtain⟨h0,h1⟩:=T.Fq gb hy
   exact⟨y.toNat,List.mem_range.mpr (by omega),by show((y.toNat:Nat):Int)=y;omega⟩
 ·rw[List.pairwise_map]
  exact List.pairwise_lt_range.imp λh=>by omega
end Q9
noncomputable def off (b:List Pl) (ps:List Int) (i:Nat):Nat:=(gw b (ps.take i) 0).length
theorem nX {b:List Pl} {ps:List Int} {i:Nat} {p:Int} (e:ps[i]?=some p):off b ps (i+1)=off b ps i+ (c6 b p).length:=by
 unfold off
 rw[aaC,e,Option.toList_some,kF,aaD,gw,gw,aa4,aab]
theorem CC {b:List Pl} {ps:List Int}:off b ps ps.length=(gw b ps 0).length:=by unfold off;rw[aaG (aag _)]
end Pr
namespace Dg
open Lv Bf
structure Down (b:List Pl) (rk:Int->Nat):Prop where
 good:Good b
 dn:∀(i:Nat) q,b[i]?=some q->∀g∈fI q,rk g<rk (i:Int)
 cL:∀q∈b,∀g ws,q=.cL g ws->ws≠[]
section DA
variable {b : List Pl} {rk : Int -> Nat} (D : Down b rk)
include D
end DA
end Dg
namespace Dg
abbrev Sh:=Wq.Sh
abbrev Wy:=List (Int×Int)
noncomputable def vl (x:Sh):Rat:=(x.1:Rat) / (x.2:Rat)
theorem vf {a:Int} (h:0<a):(a:Rat)≠0:=λz=>by
 have:a=0:=Rat.intCast_inj.mp z
 omega
theorem tI {x:Sh} {a b:Int} (hx:0<x.2) (hb:0<b) (h:x.1*b=a*x.2):vl x=(a:Rat) / (b:Rat):=by
 have h1:=vf hx
 have h2:=vf hb
 have h3:(x.1:Rat)* (b:Rat)=(a:Rat)* (x.2:Rat):=by rw[<-Rat.intCast_mul,<-Rat.intCast_mul,h]
 unfold vl
 generalize (x.1:Rat)=u at *
 generalize (x.2:Rat)=v at *
 generalize (a:Rat)=s at *
 generalize (b:Rat)=t at *
 grind
theorem zU {a b:Int} (h:0<b):vl (Wq.low a b)=(a:Rat) / (b:Rat):=tI (Wq.nK h).1 h (Nm.sM a b)
theorem kG {x y:Sh} (hx:0<x.2) (hy:0<y.2):vl (Wq.tm x y)=vl x*vl y:=by
 unfold Wq.tm
 rw[zU (Int.mul_pos hx hy)]
 have h1:=vf hx
 have h2:=vf hy
 rw[Rat.intCast_mul,Rat.intCast_mul]
 unfold vl
 generalize (x.1:Rat)=u at *
 generalize (x.2:Rat)=v at *
 generalize (y.1:Rat)=s at *
 generalize (y.2:Rat)=t at *
 grind
theorem vg {x y:Sh} (hx:Wq.Lw x) (hy:Wq.Lw y) (h:vl x=vl y):x=y:=by
 have h1:=vf hx.1
 have h2:=vf hy.1
 have c:(x.1:Rat)* (y.2:Rat)=(y.1:Rat)* (x.2:Rat):=by
  unfold vl at h
  generalize (x.1:Rat)=u at *
  generalize (x.2:Rat)=v at *
  generalize (y.1:Rat)=s at *
  generalize (y.2:Rat)=t at *
  grind
 rw[<-Rat.intCast_mul,<-Rat.intCast_mul] at c
 obtain⟨a,b⟩:=Nm.B6 hx.1 hy.1 hx.2 hy.2 (Rat.intCast_inj.mp c)
 exact Prod.ext a b
noncomputable def tt (ws:Wy):Int:=if ws=[] then 1 else Wq.c5 ws
theorem dk (x:Int×Int) (ws:Wy):Wq.c5 (x::ws)=x.1+Wq.c5 ws:=rfl
noncomputable def cS (d:Int) (v:Int->Rat):Wy->Rat
 | []=>0
 | x::ws=>(x.1:Rat) / (d:Rat)*v x.2+cS d v ws
theorem nY {d:Int} {v v':Int->Rat}:∀{ws:Wy},(∀x∈ws,v x.2=v' x.2)->cS d v ws=cS d v' ws
 | [],_=>rfl
 | x::ws,h=>by
  unfold cS
  rw[h x aai,nY λy hy=>h y (aaj _ hy)]
abbrev Bk:=List Int×Int
noncomputable def val (S:Bk) (q:Int):Rat:=(S.1.getD q.toNat 0:Rat) / (S.2:Rat)
noncomputable def gz (ts:List Int) (ws:Wy):Int:=(ws.map λx=>x.1*ts.getD x.2.toNat 0).sum
theorem qX (ts:List Int) (d:Int) (q:Nat):(ts.map (·*d)).getD q 0=ts.getD q 0*d:=by
 rw[aae,aae,aad]
 cases ts[q]? with
 | none=>show(0:Int)=0*d;omega
 | some x=>rfl
theorem eP {ts:List Int} {p q:Nat} {x:Int} (h:p≠q):(ts.set p x).getD q 0=ts.getD q 0:=by
 rw[aae,aae,aaP h]
theorem gN {ts:List Int} {p:Nat} {x:Int} (h:p<ts.length):(ts.set p x).getD p 0=x:=by
 rw[aae,aa3 h]
 rfl
theorem tJ {S:Bk} (B0:0<S.2) {d:Int} (d0:0<d):∀ws:Wy,(gz S.1 ws:Rat) / ((S.2*d:Int):Rat)=cS d (val S) ws
 | []=>by show((0:Int):Rat) / _=0;grind
 | x::ws=>by
  have ih:=tJ B0 d0 ws
  have h1:=vf B0
  have h2:=vf d0
  show(((x.1*S.1.getD x.2.toNat 0+gz S.1 ws:Int)):Rat) / ((S.2*d:Int):Rat)=(x.1:Rat) / (d:Rat)* ((S.1.getD x.2.toNat 0:Rat) / (S.2:Rat))+cS d (val S) ws
  rw[<-ih,Rat.intCast_add,Rat.intCast_mul,Rat.intCast_mul]
  generalize (x.1:Rat)=u at *
  generalize (S.2:Rat)=v at *
  generalize (d:Rat)=t at *
  generalize ((S.1.getD x.2.toNat 0:Int):Rat)=s at *
  generalize ((gz S.1 ws:Int):Rat)=r at *
  grind
end Dg
namespace Dg
theorem Mq:((1:Int):Rat) / ((1:Int):Rat)=1:=by
 have:((1:Int):Rat)=1:=rfl
 grind
theorem Mr:((0:Int):Rat) / ((1:Int):Rat)=0:=by
 have:((0:Int):Rat)=0:=rfl
 grind
noncomputable def pr (d:Int) (q:Int):Wy->Rat
 | []=>0
 | x::ws=>(if x.2=q then (x.1:Rat) / (d:Rat) else 0)+pr d q ws
noncomputable def Runs (W:Int->Wy):List Int->(Int->Rat)->(Int->Rat)->Prop
 | [],f,g=>∀q,0<=q->g q=f q
 | p::os,f,g=>∃f1,(∀q,0<=q->f1 q=f q+f p*pr (tt (W p)) q (W p))/\Runs W os f1 g
noncomputable def iV (q:Int) (ws:Wy):Int:=(ws.map λx=>if x.2=q then x.1 else 0).sum
end Dg
namespace Dg
structure Z9 (n:Nat) (G:Int) (i:Nat) (S:Bk):Prop where
 len:S.1.length=n
 pos:0<S.2
 dv:G∣S.2
 bb:Bt (4*i+4) S.2
 bt:∀q,(S.1.getD q 0).natAbs<=S.2.toNat * (6*i)
structure Vst (n:Nat) (i:Nat) (S:Bk):Prop where
 len:S.1.length=n
 pos:0<S.2
 bb:Bt (4*i+1) S.2
 bt:∀q,(S.1.getD q 0).natAbs<=32^i
end Dg
namespace Dg
noncomputable def dW (v:Int->Int):Wy->Int
 | []=>0
 | x::ws=>x.1*v x.2+dW v ws
theorem qY {v:Int->Int} {M:Nat}:∀{ws:Wy},(∀x∈ws,1<=x.1/\(v x.2).natAbs<=M)->(dW v ws).natAbs<=(Wq.c5 ws).toNat *M/\0<=Wq.c5 ws
 | [],_=>⟨aar _,Int.le_refl _⟩
 | x::ws,h=>by
  obtain⟨h1,h2⟩:=h x aai
  obtain⟨i1,i2⟩:=qY (ws:=ws) λy hy=>h y (aaj _ hy)
  have m1:(x.1*v x.2).natAbs<=x.1.toNat *M:=by
   rw[aaY,show x.1.natAbs=x.1.toNat by omega]
   exact abr _ h2
  have e:(Wq.c5 (x::ws)).toNat=x.1.toNat+ (Wq.c5 ws).toNat:=by rw[dk];omega
  refine⟨?_,by rw[dk];omega⟩
  rw[e,Nat.add_mul]
  show(x.1*v x.2+dW v ws).natAbs<=_
  omega
theorem wD {v:Int->Int} {M:Nat}:∀{ws:Wy},(∀x∈ws,1<=x.1/\(v x.2).natAbs<=M)->(∃x∈ws,(v x.2).natAbs<M)->(dW v ws).natAbs< (Wq.c5 ws).toNat *M
 | [],_,h=>by obtain⟨x,hx,_⟩:=h;simp at hx
 | x::ws,h,k=>by
  obtain⟨h1,h2⟩:=h x aai
  have hw:∀y∈ws,1<=y.1/\(v y.2).natAbs<=M:=λy hy=>h y (aaj _ hy)
  obtain⟨i1,i2⟩:=qY hw
  have e:(Wq.c5 (x::ws)).toNat=x.1.toNat+ (Wq.c5 ws).toNat:=by rw[dk];omega
  have ab:(x.1*v x.2).natAbs=x.1.toNat * (v x.2).natAbs:=by rw[aaY,show x.1.natAbs=x.1.toNat by omega]
  have m1:x.1.toNat * (v x.2).natAbs<=x.1.toNat *M:=abr _ h2
  rw[e,Nat.add_mul]
  show(x.1*v x.2+dW v ws).natAbs<_
  obtain⟨y,hy,ly⟩:=k
  rcases List.mem_cons.mp hy with rfl | hy
  ·have:y.1.toNat * (v y.2).natAbs<y.1.toNat *M:=Nat.mul_lt_mul_of_pos_left ly (by omega)
   omega
  ·have:=wD hw ⟨y,hy,ly⟩
   omega
theorem wF (v:Int->Int):∀(ps:List Int),ps≠[]->∃q∈ps,∀p∈ps,(v p).natAbs<=(v q).natAbs
 | [],h=>absurd rfl h
 | [a],_=>⟨a,List.mem_singleton.mpr rfl,λp hp=>by rw[List.mem_singleton.mp hp];exact aag _⟩
 | a::b::l,_=>by
  obtain⟨q,hq,h⟩:=wF v (b::l) (by simp)
  by_cases c:(v q).natAbs<=(v a).natAbs
  ·refine⟨a,aai,λp hp=>?_⟩
   rcases List.mem_cons.mp hp with rfl | hp
   ·exact aag _
   ·exact aao (h p hp) c
  ·refine⟨q,aaj _ hq,λp hp=>?_⟩
   rcases List.mem_cons.mp hp with rfl | hp
   ·omega
   ·exact h p hp
theorem yg {ps:List Int} {W:Int->Wy} {lv:Int->Nat} {v:Int->Int} (h:∀p∈ps,tt (W p)*v p=dW v (W p)) (pos:∀p∈ps,∀x∈W p,1<=x.1) (out:∀q,q∉ps->v q=0) (dn:∀p∈ps,W p=[]\/∃x∈W p,lv x.2<lv p):∀p∈ps,v p=0:=by
 intro p0 GR
 obtain⟨q,hq,mx⟩:=wF v ps (List.ne_nil_of_mem GR)
 have all:∀r,(v r).natAbs<=(v q).natAbs:=λr=>by
  by_cases c:r∈ps
  ·exact mx r c
  ·rw[out r c];exact aar _
 by_cases M0:(v q).natAbs=0
 ·have:=mx p0 GR
  omega
 ·exfalso
  have low:∀n,∀p∈ps,lv p<n->(v p).natAbs< (v q).natAbs:=by
   intro n
   induction n with
   | zero=>exact λp _ hl=>absurd hl (aba _)
   | succ n ih=>
    intro p hp hl
    have e:=h p hp
    rcases dn p hp with z | ⟨x,hx,lx⟩
    ·rw[z] at e
     have e:1*v p=0:=e
     omega
    ·have k:=wD (v:=v) (M:=(v q).natAbs) (ws:=W p) (λy hy=>⟨pos p hp y hy,all _⟩) ⟨x,hx,by
      by_cases c:x.2∈ps
      ·exact ih _ c (by omega)
      ·rw[out _ c];show 0<_;omega⟩
     have et:tt (W p)=Wq.c5 (W p):=by unfold tt;rw[if_neg (List.ne_nil_of_mem hx)]
     have tp:=(qY (v:=v) (M:=(v q).natAbs) (ws:=W p) λy hy=>⟨pos p hp y hy,all _⟩).2
     rw[<-e,aaY,et,show(Wq.c5 (W p)).natAbs=(Wq.c5 (W p)).toNat by omega] at k
     exact Nat.lt_of_mul_lt_mul_left k
  exact aaF _ (low _ q hq (aaJ _))
end Dg
namespace aP
abbrev Fm:=Nat->Int
noncomputable def X (w:Fm) (F:List Nat->Int):List Nat->Int
 | []=>0
 | c::cs=>w c*F cs - X w (λl=>F (c::l)) cs
noncomputable def D:List Fm->List Nat->Int
 | [],[]=>1
 | [],_::_=>0
 | w::rs,cs=>X w (D rs) cs
theorem mv (w:Fm):∀(cs:List Nat) (F G:List Nat->Int),X w (λl=>F l+G l) cs=X w F cs+X w G cs
 | [],_,_=>rfl
 | c::cs,F,G=>by
  simp only[X]
  rw[mv w cs (λl=>F (c::l)) (λl=>G (c::l)),Int.mul_add]
  omega
theorem mw (w:Fm) (k:Int):∀(cs:List Nat) (F:List Nat->Int),X w (λl=>k*F l) cs=k*X w F cs
 | [],_=>(Int.mul_zero k).symm
 | c::cs,F=>by
  simp only[X]
  rw[mw w k cs (λl=>F (c::l)),Int.mul_sub,<-aaT,<-aaT,aaB k (w c)]
theorem tK (w:Fm):∀(cs:List Nat),X w (λ_=>0) cs=0
 | []=>rfl
 | c::cs=>by simp only[X];rw[tK w cs];simp
theorem CD (w:Fm) (cs:List Nat) (F:List Nat->Int):X w (λl=> - F l) cs= - X w F cs:=by
 have:=mw w (-1) cs F
 rw[Int.neg_one_mul] at this
 rw[<-this]
 congr 1;funext l;rw[Int.neg_one_mul]
theorem fW (v w:Fm):∀(cs:List Nat) (F:List Nat->Int),X (λc=>v c+w c) F cs=X v F cs+X w F cs
 | [],_=>rfl
 | c::cs,F=>by
  simp only[X]
  rw[fW v w cs (λl=>F (c::l)),Int.add_mul]
  omega
theorem hV (k:Int) (w:Fm):∀(cs:List Nat) (F:List Nat->Int),X (λc=>k*w c) F cs=k*X w F cs
 | [],_=>(Int.mul_zero k).symm
 | c::cs,F=>by
  simp only[X]
  rw[hV k w cs (λl=>F (c::l)),Int.mul_sub,aaT]
theorem qZ {v w:Fm}:∀{cs:List Nat} {F:List Nat->Int},(∀c∈cs,v c=w c)->X v F cs=X w F cs
 | [],_,_=>rfl
 | c::cs,F,h=>by
  simp only[X]
  rw[h c (aai ..),qZ (cs:=cs) λc' hc=>h c' (aaj _ hc)]
theorem pU {w:Fm}:∀{cs:List Nat} {F:List Nat->Int},(∀c∈cs,w c=0)->X w F cs=0
 | [],_,_=>rfl
 | c::cs,F,h=>by
  simp only[X]
  rw[h c (aai ..),pU (cs:=cs) λc' hc=>h c' (aaj _ hc)]
  simp
theorem zV (w:Fm):∀(cs:List Nat) (F:List Nat->Int),X w (X w F) cs=0
 | [],_=>rfl
 | c::cs,F=>by
  simp only[X]
  have e:=mv w cs (λl=>w c*F l) (λl=> - X w (λm=>F (c::m)) l)
  have e2:X w (λl=>w c*F l - X w (λm=>F (c::m)) l) cs=X w (λl=>w c*F l+- X w (λm=>F (c::m)) l) cs:=by
   congr 1
  rw[e2,e,mw,CD,zV w cs λm=>F (c::m)]
  omega
theorem zW (v w:Fm) (cs:List Nat) (F:List Nat->Int):X v (X w F) cs= - X w (X v F) cs:=by
 have e:=zV (λc=>v c+w c) cs F
 have e1:X (λc=>v c+w c) F=λl=>X v F l+X w F l:=by funext l;exact fW v w l F
 rw[e1,fW,mv,mv,zV,zV] at e
 omega
theorem wG {w:Fm}:∀{rs:List Fm} (_:w∈rs) (cs:List Nat),D (w::rs) cs=0
 | u::rs,h,cs=>by
  rcases List.mem_cons.mp h with rfl | h
  ·exact zV _ _ _
  ·show X w (X u (D rs)) cs=0
   rw[zW]
   have e:X w (D rs)=λ_=>0:=by funext l;exact wG h l
   rw[e,tK]
   rfl
noncomputable def Sp:List Fm->Fm->Prop
 | [],f=>∀j,f j=0
 | w::rs,f=>∃(c:Int) (g:Fm),Sp rs g/\∀j,f j=c*w j+g j
theorem Sp.congr {f g:Fm}:∀{rs:List Fm},Sp rs f->(∀j,f j=g j)->Sp rs g
 | [],h,e=>λj=>by rw[<-e];exact h j
 | w::rs,⟨c,k,hk,e1⟩,e=>⟨c,k,hk,λj=>by rw[<-e];exact e1 j⟩
theorem Sp.zero:∀{rs:List Fm},Sp rs (λ_=>0)
 | []=>λ_=>rfl
 | _::_=>⟨0,_,Sp.zero,λj=>by simp⟩
theorem Sp.add {f g:Fm}:∀{rs:List Fm},Sp rs f->Sp rs g->Sp rs (λj=>f j+g j)
 | [],h,k=>λj=>by show f j+g j=0;rw[h j,k j];rfl
 | w::rs,⟨c,f',hf,e1⟩,⟨d,g',hg,e2⟩=>⟨c+d,_,hf.add hg,λj=>by show f j+g j=_;rw[e1,e2,Int.add_mul];omega⟩
theorem Sp.mul {f:Fm} (k:Int):∀{rs:List Fm},Sp rs f->Sp rs (λj=>k*f j)
 | [],h=>λj=>by show k*f j=0;rw[h j,Int.mul_zero]
 | w::rs,⟨c,f',hf,e1⟩=>⟨k*c,_,hf.mul k,λj=>by show k*f j=_;rw[e1,Int.mul_add,aaT]⟩
theorem Sp.X {rs:List Fm} (w:Fm):∀(cs:List Nat) (F:Nat->List Nat->Int),(∀l,Sp rs (λj=>F j l))->Sp rs (λj=>aP.X w (F j) cs)
 | [],_,_=>Sp.zero
 | c::cs,F,h=>by
  have h1:=(h cs).mul (w c)
  have h2:=(Sp.X w cs (λj l=>F j (c::l)) (λl=>h (c::l))).mul (-1)
  exact(h1.add h2).congr λj=>by simp only[aP.X];rw[Int.neg_one_mul];omega
theorem Iq:∀(rs:List Fm) (l:List Nat),Sp rs (λj=>D rs (j::l))
 | [],l=>λj=>rfl
 | w::rs,l=>by
  refine⟨D rs l,_,(Sp.X w l (λj m=>D rs (j::m)) λm=>Iq rs m).mul (-1),λj=>?_⟩
  show w j*D rs l - X w (λm=>D rs (j::m)) l=_
  rw[Int.neg_one_mul,aaB]
  omega
theorem zX {us:List Fm}:∀{rs:List Fm} {g:Fm},Sp rs g->(∀r∈rs,r∈us)->∀cs,D (g::us) cs=0
 | [],g,h,_,cs=>pU λc _=>h c
 | w::rs,g,⟨c,g',h,e⟩,hs,cs=>by
  have e':g=λj=>c*w j+g' j:=funext e
  show X g (D us) cs=0
  rw[e',fW,hV]
  have z1:X w (D us) cs=0:=wG (hs w (aai ..)) cs
  have z2:X g' (D us) cs=0:=zX h (λr hr=>hs r (aaj _ hr)) cs
  rw[z1,z2];simp
theorem Ms (rs:List Fm) (cs:List Nat) (v:Fm):Sp rs (λj=>D rs cs*v j+- D (v::rs) (j::cs)):=by
 refine(Sp.X v cs (λj m=>D rs (j::m)) λm=>Iq rs m).congr λj=>?_
 show _=D rs cs*v j+- (v j*D rs cs - X v (λm=>D rs (j::m)) cs)
 rw[aaB]
 omega
theorem main (rs:List Fm) (cs:List Nat) (u v:Fm) (j k:Nat) (h:∀c∈cs,D (v::rs) (c::cs)=0):
  D rs cs*D (v::u::rs) (j::k::cs)=D (u::rs) (k::cs)*D (v::rs) (j::cs) - D (v::rs) (k::cs)*D (u::rs) (j::cs):=by
 have s:=Ms rs cs v
 have z:=zX (us:=u::rs) s (λr hr=>aaj _ hr) (j::k::cs)
 have z':X (λj=>D rs cs*v j+- D (v::rs) (j::cs)) (D (u::rs)) (j::k::cs)=0:=z
 have e1:D rs cs*D (v::u::rs) (j::k::cs)=X (λj=>D rs cs*v j) (D (u::rs)) (j::k::cs):=(hV _ _ _ _).symm
 have e2:X (λj=>D rs cs*v j+- D (v::rs) (j::cs)) (D (u::rs)) (j::k::cs)=X (λj=>D rs cs*v j) (D (u::rs)) (j::k::cs)+X (λj=> - D (v::rs) (j::cs)) (D (u::rs)) (j::k::cs):=fW _ _ _ _
 have e3:X (λj=> - D (v::rs) (j::cs)) (D (u::rs)) (j::k::cs)= - D (v::rs) (j::cs)*D (u::rs) (k::cs) - (- D (v::rs) (k::cs)*D (u::rs) (j::cs) - X (λj=> - D (v::rs) (j::cs)) (λl=>D (u::rs) (j::k::l)) cs):=rfl
 have e4:X (λj=> - D (v::rs) (j::cs)) (λl=>D (u::rs) (j::k::l)) cs=0:=pU λc hc=>by rw[h c hc];rfl
 rw[e1]
 rw[e2,e3,e4] at z'
 rw[Int.neg_mul,Int.neg_mul] at z'
 rw[aaB (D (u::rs) (k::cs))]
 omega
noncomputable def Good:List Fm->List Nat->Prop
 | [],[]=>True
 | u::rs,k::cs=>Good rs cs/\D (u::rs) (k::cs)≠0
 | _,_=>False
theorem Good.ne:∀{rs:List Fm} {cs:List Nat},Good rs cs->D rs cs≠0
 | [],[],_=>by show(1:Int)≠0;decide
 | _::_,_::_,h=>h.2
 | [],_::_,h=>h.elim
 | _::_,[],h=>h.elim
theorem Good.KD:∀{rs:List Fm} {cs:List Nat},Good rs cs->∀(v:Fm) (c:Nat),c∈cs->D (v::rs) (c::cs)=0
 | [],[],_,_,_,hc=>by cases hc
 | u::rs,k::cs,h,v,c,hc=>by
  have hm:=main rs cs u v c k (λc hc=>h.1.KD v c hc)
  have hz:D (u::rs) (k::cs)*D (v::rs) (c::cs) - D (v::rs) (k::cs)*D (u::rs) (c::cs)=0:=by
   rcases List.mem_cons.mp hc with rfl | hc
   ·rw[aaB];omega
   ·rw[h.1.KD v c hc,h.1.KD u c hc];simp
  rw[hz] at hm
  rcases Int.mul_eq_zero.mp hm with h0 | h0
  ·exact absurd h0 h.1.ne
  ·exact h0
 | [],_::_,h,_,_,_=>h.elim
 | _::_,[],h,_,_,_=>h.elim
theorem zY {rs:List Fm} {cs:List Nat} (g:Good rs cs) (u v:Fm) (j k:Nat):
  D (u::rs) (k::cs)*D (v::rs) (j::cs) - D (v::rs) (k::cs)*D (u::rs) (j::cs)=D rs cs*D (v::u::rs) (j::k::cs):=
 (main rs cs u v j k (λc hc=>g.KD v c hc)).symm
noncomputable def dn:Nat->List Nat
 | 0=>[]
 | k+1=>k::dn k
theorem j6:∀{n c:Nat},c∈dn n↔c<n
 | 0,c=>by simp [dn]
 | n+1,c=>by rw[dn,List.mem_cons,j6];omega
theorem j7:∀n,(dn n).length=n
 | 0=>rfl
 | n+1=>by rw[dn,aap,j7]
noncomputable def ng (i:Nat):Fm:=λc=>if c=i then -1 else 0
theorem zZ (rs:List Fm) (u:Fm) (j k:Nat) (h:k<j):
  D (ng k::u::rs) (j::k::dn k)=D (u::rs) (j::dn k):=by
 show ng k j*D (u::rs) (k::dn k) - (ng k k*D (u::rs) (j::dn k) - X (ng k) (λl=>D (u::rs) (j::k::l)) (dn k))=_
 rw[pU (w:=ng k) λc hc=>by have:=j6.mp hc;exact if_neg (by omega)]
 have a:ng k j=0:=if_neg (by omega)
 have b:ng k k= -1:=if_pos rfl
 rw[a,b]
 omega
noncomputable def sm:Nat->(Nat->Int)->Int
 | 0,_=>0
 | n+1,f=>sm n f+f n
theorem DP (u:Fm) (F:List Nat->Int) (cs:List Nat):∀n,sm n (λi=>u i*X (ng i) F cs)=X (λc=>if c<n then - u c else 0) F cs
 | 0=>by
  show 0=_
  exact(pU λc _=>if_neg (by omega)).symm
 | n+1=>by
  show sm n _+u n*X (ng n) F cs=_
  rw[DP u F cs n,<-hV,<-fW]
  refine qZ λc _=>?_
  show(if c<n then - u c else 0)+u n* (if c=n then -1 else 0)=_
  by_cases e:c=n
  ·subst e
   rw[if_neg (by omega),if_pos rfl,if_pos (by omega)]
   omega
  ·rw[if_neg e]
   by_cases l:c<n
   ·rw[if_pos l,if_pos (by omega)];simp
   ·rw[if_neg l,if_neg (by omega)];simp
theorem Aa (rs:List Fm) (u:Fm) (k:Nat):
  sm k (λi=>u i*D (ng i::rs) (k::dn k))=u k*D rs (dn k) - D (u::rs) (k::dn k):=by
 have e:=DP u (D rs) (k::dn k) k
 have e1:X (λc=>if c<k then - u c else 0) (D rs) (k::dn k)=X (λc=>(-1)*u c+u k* (if c=k then 1 else 0)) (D rs) (k::dn k):=by
  refine qZ λc hc=>?_
  rcases List.mem_cons.mp hc with rfl | hc
  ·rw[if_neg (by omega),if_pos rfl];omega
  ·have:=j6.mp hc
   rw[if_pos this,if_neg (by omega)];omega
 have e2:X (λc=>if c=k then (1:Int) else 0) (D rs) (k::dn k)=D rs (dn k):=by
  show(if k=k then (1:Int) else 0)*D rs (dn k) - X (λc=>if c=k then (1:Int) else 0) (λl=>D rs (k::l)) (dn k)=_
  rw[if_pos rfl,pU λc hc=>by have:=j6.mp hc;exact if_neg (by omega)]
  omega
 have e3:sm k (λi=>u i*D (ng i::rs) (k::dn k))=sm k (λi=>u i*X (ng i) (D rs) (k::dn k)):=rfl
 rw[e3,e,e1,fW,hV,hV,e2]
 show(-1)*D (u::rs) (k::dn k)+u k*D rs (dn k)=_
 omega
theorem perm {rs us:List Fm} (h:rs.Perm us):∃s:Int,(s=1\/s= -1)/\∀cs,D rs cs=s*D us cs:=by
 induction h with
 | nil=>exact⟨1,.inl rfl,λcs=>(Int.one_mul _).symm⟩
 | cons w _ ih=>
  obtain⟨s,h,e⟩:=ih
  refine⟨s,h,λcs=>?_⟩
  show X w _ cs=s*X w _ cs
  rw[<-mw]
  congr 1
  funext l
  exact e l
 | swap x y l=>exact⟨-1,.inr rfl,λcs=>by rw[Int.neg_one_mul];exact zW _ _ _ _⟩
 | trans _ _ WC KE=>
  obtain⟨s,h,e⟩:=WC
  obtain⟨t,k,f⟩:=KE
  refine⟨s*t,?_,λcs=>by rw[e,f,aaT]⟩
  rcases h with rfl | rfl <;>rcases k with rfl | rfl <;>decide
theorem CF {rs us:List Fm} (h:rs.Perm us) (cs:List Nat):D rs cs≠0↔D us cs≠0:=by
 obtain⟨s,hs,e⟩:=perm h
 rw[e]
 rcases hs with rfl | rfl <;>omega
theorem fy {f g:Nat->Int}:∀{n},(∀i,i<n->f i=g i)->sm n f=sm n g
 | 0,_=>rfl
 | n+1,h=>by show sm n f+f n=sm n g+g n;rw[fy λi hi=>h i (by omega),h n (by omega)]
theorem vh (f g:Nat->Int):∀n,sm n (λi=>f i+g i)=sm n f+sm n g
 | 0=>rfl
 | n+1=>by show sm n _+ (f n+g n)=sm n f+f n+ (sm n g+g n);rw[vh f g n];omega
theorem nZ (k:Int) (f:Nat->Int):∀n,sm n (λi=>k*f i)=k*sm n f
 | 0=>(Int.mul_zero k).symm
 | n+1=>by show sm n _+k*f n=k* (sm n f+f n);rw[nZ k f n,Int.mul_add]
theorem wH:∀n,sm n (λ_=>0)=0
 | 0=>rfl
 | n+1=>by show sm n _+0=0;rw[wH n];rfl
theorem Ab (g:Nat->Int) (t:Nat):∀n,sm n (λj=>g j* (if j=t then 1 else 0))=if t<n then g t else 0
 | 0=>by rw[if_neg (by omega)];rfl
 | n+1=>by
  show sm n _+g n* (if n=t then 1 else 0)=_
  rw[Ab g t n]
  by_cases e:n=t
  ·subst e;rw[if_neg (by omega),if_pos rfl,if_pos (by omega)];omega
  ·rw[if_neg e]
   by_cases l:t<n
   ·rw[if_pos l,if_pos (by omega)];omega
   ·rw[if_neg l,if_neg (by omega)];omega
end aP
namespace aP
noncomputable def pβ (β:Nat->Nat):List Nat->Nat
 | []=>1
 | c::cs=>β c*pβ β cs
theorem Ir {w:Fm} {β:Nat->Nat} (hw:∀c,(w c).natAbs<=β c):∀(cs:List Nat) (M:Nat) (F:List Nat->Int),(∀l,l.length+1=cs.length->(F l).natAbs<=M*pβ β l)->(X w F cs).natAbs<=cs.length* (M*pβ β cs)
 | [],_,_,_=>by simp [X]
 | c::cs,M,F,h=>by
  simp only[X]
  have h1:=aaY (w c) (F cs)
  have h2:=Nat.mul_le_mul (hw c) (h cs rfl)
  have h3:=Ir hw cs (M*β c) (λl=>F (c::l)) (λl hl=>by
   have:=h (c::l) (by simp only[aap];omega)
   rw[pβ,<-Nat.mul_assoc] at this
   exact this)
  have h4:=Int.natAbs_sub_le (w c*F cs) (X w (λl=>F (c::l)) cs)
  have e:M*pβ β (c::cs)=β c* (M*pβ β cs):=by rw[pβ];grind
  have e2:M*β c*pβ β cs=β c* (M*pβ β cs):=by grind
  rw[aap,Nat.add_mul,Nat.one_mul,e]
  rw[e2] at h3
  omega
theorem Ft {β:Nat->Nat} {N:Nat}:∀{rs:List Fm} (cs:List Nat),(∀w∈rs,∀c,(w c).natAbs<=β c)->cs.length<=N->(D rs cs).natAbs<=N^rs.length*pβ β cs
 | [],[],_,_=>by simp [D,pβ]
 | [],_::_,_,_=>by simp [D]
 | w::rs,cs,h,hl=>by
  have h1:=Ir (h w (aai ..)) cs (N^rs.length) (D rs) (λl oH=>Ft l (λw hw=>h w (aaj _ hw)) (by omega))
  show(X w (D rs) cs).natAbs<=_
  rw[aap,Nat.pow_succ,Nat.mul_comm (N^_),Nat.mul_assoc]
  exact aao h1 (Nat.mul_le_mul_right _ hl)
end aP
namespace aP
noncomputable def fo (r:List Int):Fm:=λc=>r.getD c 0
noncomputable def bP (v:Fm) (rs:List Fm) (k m:Nat):List Int:=(List.range (m - k)).map λt=>D (v::rs) ((k+t)::dn k)
theorem du (v:Fm) (rs:List Fm) (k m:Nat):(bP v rs k m).length=m - k:=by simp [bP]
theorem yh {v:Fm} {rs:List Fm} {k m t:Nat} (h:k+t<m):(bP v rs k m)[t]?=some (D (v::rs) ((k+t)::dn k)):=by
 unfold bP
 rw[aad,aa0 (by omega)]
 rfl
theorem Iu (v:Fm) (t:Nat):D [v] [t]=v t:=by
 show v t*1 - 0=v t
 omega
theorem vi {r:List Int} {m:Nat} (h:r.length=m):bP (fo r) [] 0 m=r:=by
 refine aaS λi=>?_
 by_cases l:i<m
 ·rw[yh (by omega),aac (by omega)]
  show some (D [fo r] [0+i])=_
  rw[Iu,aaZ]
  simp [fo,aae,aac (show i<r.length by omega)]
 ·rw[aaq (by rw[du];omega),aaq (by omega)]
theorem df {k m:Nat} (h:k<m) (v:Fm) (rs:List Fm):bP v rs k m=D (v::rs) (k::dn k)::(List.range (m - (k+1))).map λt=>D (v::rs) ((k+1+t)::dn k):=by
 unfold bP
 rw[show m - k=(m - (k+1))+1 by omega,List.range_succ_eq_map,aas,aaM]
 congr 1
 refine abp λt _=>?_
 show D (v::rs) ((k+ (t+1))::dn k)=_
 rw[show k+ (t+1)=k+1+t by omega]
theorem CG {k m:Nat} (h:k<m) (u:Fm) (rs:List Fm):(bP u rs k m).tail=bP (ng k) (u::rs) (k+1) m:=by
 rw[df h,List.tail_cons]
 unfold bP
 refine abp λt _=>?_
 exact(zZ rs u (k+1+t) k (by omega)).symm
theorem zipWith_map {α:Type} (f:Int->Int->Int) (g h:α->Int):∀l:List α,List.zipWith f (l.map g) (l.map h)=l.map λa=>f (g a) (h a)
 | []=>rfl
 | a::l=>by simp only[aas,List.zipWith_cons_cons,zipWith_map f g h l]
theorem Ac {k m:Nat} (h:k<m) {rs:List Fm} (G:Good rs (dn k)) (u v:Fm):
  List.zipWith (λone other=>(D (u::rs) (k::dn k)*one - D (v::rs) (k::dn k)*other).fdiv (D rs (dn k))) (bP v rs k m).tail (bP u rs k m).tail=bP v (u::rs) (k+1) m:=by
 rw[df h,df h,List.tail_cons,List.tail_cons,zipWith_map]
 unfold bP
 refine abp λt _=>?_
 rw[zY G u v (k+1+t) k]
 exact Int.mul_fdiv_cancel_left _ G.ne
structure iW (U:List Fm) (n k:Nat) (rs V:List Fm):Prop where
 len:V.length=n
 rl:rs.length=k
 good:Good rs (dn k)
 own:∀i,i<k->V[i]?=some (ng i)
 perm:(rs++V.drop k).Perm U
 le:k<=n
theorem iW.start {U:List Fm}:iW U U.length 0 [] U:=⟨rfl,rfl,trivial,λi h=>absurd h (by omega),List.Perm.refl _,aar _⟩
theorem tL {α:Type} {u a:α}:∀{l:List α} {i:Nat},l[i]?=some u->(u::l.set i a).Perm (a::l)
 | [],_,h=>by simp at h
 | b::l,0,h=>by
  simp at h;subst h
  exact List.Perm.swap _ _ _
 | b::l,i+1,h=>by
  simp only[abf] at h
  show(u::b::l.set i a).Perm (a::b::l)
  exact(List.Perm.swap _ _ _).trans (((tL h).cons b).trans (List.Perm.swap _ _ _))
noncomputable def mz (V:List Fm) (k dC:Nat) (u a:Fm):List Fm:=(V.set k u).set dC a
theorem iW.step {U:List Fm} {n k dC:Nat} {rs V:List Fm} {u a:Fm} (S:iW U n k rs V) (hk:k<n) (hs:k<=dC) (hu:V[dC]?=some u) (ha:V[k]?=some a) (h:D (u::rs) (k::dn k)≠0):
  iW U n (k+1) (u::rs) ((mz V k dC u a).set k (ng k)):=by
 have l:=S.len
 refine⟨by simp [mz,l],by rw[aap,S.rl],⟨S.good,h⟩,λi hi=>?_,?_,hk⟩
 ·by_cases e:i=k
  ·subst e
   rw[aa3 (by simp [mz];omega)]
  ·unfold mz
   rw[aaP (by omega),aaP (by omega),aaP (by omega)]
   exact S.own i (by omega)
 ·refine List.Perm.trans ?_ S.perm
  have hd:V.drop k=a::V.drop (k+1):=by
   obtain⟨h1,h2⟩:=List.getElem?_eq_some_iff.mp ha
   rw[<-h2]
   exact List.drop_eq_getElem_cons h1
  have e1:((mz V k dC u a).set k (ng k)).drop (k+1)=((V.drop (k+1)).set (dC - (k+1)) a)\/(dC=k/\((mz V k dC u a).set k (ng k)).drop (k+1)=V.drop (k+1)):=by
   unfold mz
   by_cases e:dC=k
   ·right
    subst e
    refine⟨rfl,?_⟩
    simp [List.drop_set]
   ·left
    simp [List.drop_set]
    intro hh
    omega
  have e2:(u::((mz V k dC u a).set k (ng k)).drop (k+1)).Perm (a::V.drop (k+1)):=by
   rcases e1 with e1 | ⟨e,e1⟩
   ·by_cases e:dC=k
    ·subst e
     have:u=a:=by rw[hu] at ha;exact aax ha
     subst this
     unfold mz
     simp [List.drop_set]
    ·rw[e1]
     refine tL ?_
     rw[List.getElem?_drop,show k+1+ (dC - (k+1))=dC by omega]
     exact hu
   ·subst e
    have:u=a:=by rw[hu] at ha;exact aax ha
    subst this
    rw[e1]
  rw[hd]
  refine List.Perm.trans ?_ (e2.append_left rs)
  show(u::(rs++_)).Perm _
  exact(List.perm_middle).symm
noncomputable def pV (k:Nat) (rs V:List Fm):Prop:=∀u∈V.drop k,D (u::rs) (k::dn k)=0
theorem iW.CH {U:List Fm} {n k:Nat} {rs V:List Fm} (S:iW U n k rs V) (z:pV k rs V) {u:Fm} (hu:u∈U):sm k (λi=>u i*D (ng i::rs) (k::dn k))=u k*D rs (dn k):=by
 rw[Aa]
 have:D (u::rs) (k::dn k)=0:=by
  rcases List.mem_append.mp (S.perm.mem_iff.mpr hu) with h | h
  ·exact wG h _
  ·exact z u h
 omega
theorem iW.answers {U:List Fm} {n:Nat} {rs V:List Fm} (S:iW U n n rs V) {u:Fm} (hu:u∈U):sm n (λi=>u i*D (ng i::rs) (n::dn n))=u n*D rs (dn n):=by
 rw[Aa]
 have h:u∈rs:=by
  rcases List.mem_append.mp (S.perm.mem_iff.mpr hu) with h | h
  ·exact h
  ·rw[List.drop_eq_nil_of_le (by rw[S.len];exact aag _)] at h;cases h
 rw[wG h]
 omega
theorem iW.all {U:List Fm} {n:Nat} {rs V:List Fm} (S:iW U n n rs V):rs.Perm U:=by
 have:=S.perm
 rw[List.drop_eq_nil_of_le (by rw[S.len];exact aag _),aa4] at this
 exact this
theorem iW.ne {U:List Fm} {n:Nat} {rs V:List Fm} (S:iW U n n rs V):D U (dn n)≠0:=(CF S.all _).mp S.good.ne
end aP
namespace aP
theorem iW.cb {U:List Fm} {n k:Nat} {β:Nat->Nat} {rs V:List Fm} (S:iW U n k rs V) (b1:∀c,1<=β c) (hb:∀u∈U,∀c,(u c).natAbs<=β c):(∀u∈rs,∀c,(u c).natAbs<=β c)/\∀v∈V,∀c,(v c).natAbs<=β c:=by
 refine⟨λu hu=>hb u (S.perm.mem_iff.mp (abo _ hu)),λv hv=>?_⟩
 obtain⟨i,hi,rfl⟩:=aa2 hv
 by_cases l:i<k
 ·have:=S.own i l
  rw[aac hi] at this
  rw[aax this]
  intro c
  unfold ng
  split
  ·exact b1 c
  ·exact aar _
 ·refine hb _ (S.perm.mem_iff.mp (aaH _ ?_))
  refine aaf (i:=i - k) ?_
  rw[List.getElem?_drop,show k+ (i - k)=i by omega,aac hi]
theorem Ad {β:Nat->Nat} {b n:Nat} (h:∀c,c<n->β c<=b):∀k,k<=n->pβ β (dn k)<=b^k
 | 0,_=>aag _
 | k+1,hk=>by
  rw[dn,pβ,Nat.pow_succ,Nat.mul_comm]
  exact Nat.mul_le_mul (Ad h k (by omega)) (h k (by omega))
theorem iW.T9 {U:List Fm} {n k b c:Nat} {β:Nat->Nat} {rs V:List Fm} (S:iW U n k rs V) (b1:∀j,1<=β j) (h:∀j,j<n->β j<=b) (hc:∀j,β j<=c) (hb:∀u∈U,∀j,(u j).natAbs<=β j) {v:Fm} (hv:v∈V) (j:Nat):(D (v::rs) (j::dn k)).natAbs<=(n+1)^ (n+1)* (c*b^k):=by
 obtain⟨h1,h2⟩:=S.cb b1 hb
 have le:=S.le
 have h3:=Ft (N:=n+1) (β:=β) (rs:=v::rs) (j::dn k) (λw hw=>by
  rcases List.mem_cons.mp hw with rfl | hw
  ·exact h2 _ hv
  ·exact h1 w hw) (by rw[aap,j7];omega)
 refine aao h3 (Nat.mul_le_mul ?_ ?_)
 ·rw[aap,S.rl]
  exact abh (by omega) (by omega)
 ·rw[pβ]
  exact Nat.mul_le_mul (hc j) (Ad h k le)
theorem iW.Ua {U:List Fm} {n k b:Nat} {β:Nat->Nat} {rs V:List Fm} (S:iW U n k rs V) (b1:∀j,1<=β j) (h:∀j,j<n->β j<=b) (hb:∀u∈U,∀j,(u j).natAbs<=β j):(D rs (dn k)).natAbs<=(n+1)^ (n+1)*b^k:=by
 obtain⟨h1,h2⟩:=S.cb b1 hb
 have le:=S.le
 have h3:=Ft (N:=n+1) (β:=β) (rs:=rs) (dn k) h1 (by rw[j7];omega)
 refine aao h3 (Nat.mul_le_mul ?_ (Ad h k le))
 rw[S.rl]
 exact abh (by omega) (by omega)
end aP
namespace aP
noncomputable def z0:Fm:=λ_=>0
noncomputable def aug (L:List (List Int)) (S:List Int):List (List Int):=List.zipWith (λr s=>r++ [s]) L S
noncomputable def cell (L:List (List Int)) (i j:Nat):Int:=(L.getD i []).getD j 0
structure Sq (L:List (List Int)) (n:Nat):Prop where
 len:L.length=n
 row:∀r∈L,r.length=n
theorem Sq.at {L:List (List Int)} {n i:Nat} (h:Sq L n) (hi:i<n):∃r,L[i]?=some r/\r.length=n/\r∈L:=by
 have:=h.len
 refine⟨L[i],by simp [this,hi],h.row _ (aan _),aan _⟩
theorem jw {L:List (List Int)} {S:List Int} {n i:Nat} {r:List Int} (hS:S.length=n) (hi:i<n) (e:L[i]?=some r):(aug L S)[i]?=some (r++ [S.getD i 0]):=by
 unfold aug
 rw[abt,e,aac (show i<S.length by omega)]
 simp [aae,aac (show i<S.length by omega)]
theorem jx {L:List (List Int)} {S:List Int} {n:Nat} (hL:L.length=n) (hS:S.length=n):(aug L S).length=n:=by
 unfold aug
 rw[abn,hL,hS,Nat.min_self]
theorem Ae {L:List (List Int)} {S:List Int} {n i j:Nat} (hq:Sq L n) (hS:S.length=n) (hi:i<n) (hj:j<n):(((aug L S).map fo).getD i z0) j=cell L i j:=by
 obtain⟨r,e,l,_⟩:=hq.at hi
 rw[aae,aad,jw hS hi e]
 show fo (r++ [S.getD i 0]) j=_
 unfold fo cell
 rw[aae,aaW (by omega),aae (l:=L),e]
 simp [aae]
theorem Af {L:List (List Int)} {S:List Int} {n i:Nat} (hq:Sq L n) (hS:S.length=n) (hi:i<n):(((aug L S).map fo).getD i z0) n=S.getD i 0:=by
 obtain⟨r,e,l,_⟩:=hq.at hi
 rw[aae,aad,jw hS hi e]
 show fo (r++ [S.getD i 0]) n=_
 unfold fo
 rw[aae,aaV (by omega),l]
 simp
theorem wI {L:List (List Int)} {S:List Int} {n i:Nat} (hq:Sq L n) (hS:S.length=n) (hi:i<n):((aug L S).map fo).getD i z0∈(aug L S).map fo:=by
 have l:((aug L S).map fo).length=n:=by rw[aab,jx hq.len hS]
 rw[aae,aac (show i< ((aug L S).map fo).length by omega)]
 exact aan _
noncomputable def Ag (L:List (List Int)) (n:Nat):Prop:=∃(g:Nat->Int) (k:Nat),k<n/\g k≠0/\∀i,i<n->sm n (λj=>g j*cell L i j)=0
theorem yi {L:List (List Int)} {S:List Int} {n k:Nat} {rs V:List Fm} (hq:Sq L n) (hS:S.length=n) (St:iW ((aug L S).map fo) n k rs V) (hk:k<n) (z:pV k rs V):Ag L n:=by
 refine⟨λj=>if j<k then - D (ng j::rs) (k::dn k) else if j=k then D rs (dn k) else 0,k,hk,?_,λi hi=>?_⟩
 ·show(if k<k then _ else if k=k then D rs (dn k) else 0)≠0
  rw[if_neg (aaF _),if_pos rfl]
  exact St.good.ne
 ·have e:=St.CH z (wI hq hS hi)
  have key:∀q,k+1<=q->sm q (λj=>(if j<k then - D (ng j::rs) (k::dn k) else if j=k then D rs (dn k) else 0)* (((aug L S).map fo).getD i z0) j)=0:=by
   intro q hq
   induction q with
   | zero=>omega
   | succ q ih=>
    by_cases c:q=k
    ·subst c
     show sm q _+_*_=0
     rw[if_neg (aaF _),if_pos rfl]
     have e2:sm q (λj=>(if j<q then - D (ng j::rs) (q::dn q) else if j=q then D rs (dn q) else 0)* (((aug L S).map fo).getD i z0) j)=sm q (λj=>(-1)* ((((aug L S).map fo).getD i z0) j*D (ng j::rs) (q::dn q))):=fy λi hi=>by
      rw[if_pos hi,Int.neg_mul,Int.neg_one_mul,aaB]
     rw[e2,nZ,e,aaB (D rs (dn q))]
     omega
    ·show sm q _+_*_=0
     rw[ih (by omega),if_neg (by omega),if_neg c]
     simp
  refine Eq.trans (fy λj hj=>?_) (key n (by omega))
  rw[Ae hq hS hi hj]
noncomputable def oV (L:List (List Int)) (s:Nat) (l:Int) (i:Nat):List Int:=
 if i=s then (L.getD i []).tail else List.zipWith (λone other=>((L.getD s []).headD 0*one - (L.getD i []).headD 0*other).fdiv l) (L.getD i []).tail (L.getD s []).tail
noncomputable def KG (L:List (List Int)) (s:Nat) (l:Int):List (List Int):=(List.range L.length).map (oV L s l)
theorem getD_map {V:List Fm} {f:Fm->List Int} {i:Nat} {v:Fm} (h:V[i]?=some v):(V.map f).getD i []=f v:=by
 rw[aae,aad,h]
 rfl
theorem CI {V:List Fm} {f:Fm->List Int} {k dC:Nat} {u a:Fm} (hu:V[dC]?=some u) (ha:V[k]?=some a):((V.map f).set k ((V.map f).getD dC [])).set dC ((V.map f).getD k [])=(mz V k dC u a).map f:=by
 rw[getD_map hu,getD_map ha]
 unfold mz
 rw[List.map_set,List.map_set]
theorem Ah {V:List Fm} {k dC:Nat} {u a:Fm} (hu:V[dC]?=some u) (ha:V[k]?=some a):(mz V k dC u a)[k]?=some u:=by
 have h1:=(List.getElem?_eq_some_iff.mp ha).1
 unfold mz
 by_cases e:dC=k
 ·subst e
  rw[aa3 (by simpa using h1)]
  rw[hu] at ha
  exact ha.symm
 ·rw[aaP e,aa3 h1]
theorem Ai {n k m dC:Nat} {rs V:List Fm} {u a:Fm} (G:Good rs (dn k)) (hm:k<m) (hu:V[dC]?=some u) (ha:V[k]?=some a):
  KG ((mz V k dC u a).map λv=>bP v rs k m) k (D rs (dn k))=((mz V k dC u a).set k (ng k)).map λv=>bP v (u::rs) (k+1) m:=by
 have hk:=Ah hu ha
 generalize mz V k dC u a=W at *
 unfold KG
 refine aaS λi=>?_
 rw[aad,aad,aab]
 by_cases l:i<W.length
 ·rw[aa0 l]
  have ew:W[i]?=some W[i]:=aac l
  by_cases e:i=k
  ·subst e
   rw[aa3 l]
   show some (oV _ i _ i)=some _
   unfold oV
   rw[if_pos rfl,getD_map hk,CG hm]
  ·rw[aaP (by omega),ew]
   show some (oV _ k _ i)=some (bP W[i] (u::rs) (k+1) m)
   unfold oV
   rw[if_neg e,getD_map ew,getD_map hk,<-Ac hm G u W[i]]
   have hh:∀v,(bP v rs k m).headD 0=D (v::rs) (k::dn k):=λv=>by rw[df hm];rfl
   rw[hh,hh]
 ·rw[aaq (by rw[aaz];omega),aaq (by rw[aaX];omega)]
  rfl
theorem vj {L:List (List Int)} {m:Nat} (h:∀r∈L,r.length=m):(L.map fo).map (λv=>bP v [] 0 m)=L:=by
 rw[aaM]
 conv=>rhs;rw[<-List.map_id L]
 exact abp λr hr=>vi (h r hr)
theorem tM {v w:Fm}:∀{cs:List Nat} {F G:List Nat->Int},(∀c∈cs,v c=w c)->(∀l,(∀c∈l,c∈cs)->F l=G l)->X v F cs=X w G cs
 | [],_,_,_,_=>rfl
 | c::cs,F,G,h,k=>by
  simp only[X]
  rw[h c (aai ..),k cs λc' hc=>aaj _ hc,tM (cs:=cs) (G:=λl=>G (c::l)) (λc' hc=>h c' (aaj _ hc)) λl hl=>k (c::l) λc' hc=>?_]
  rcases List.mem_cons.mp hc with rfl | hc
  ·exact aai ..
  ·exact aaj _ (hl c' hc)
theorem Aj {n:Nat}:∀(L:List (List Int)) (S:List Int),S.length=L.length->(∀r∈L,r.length=n)->∀cs:List Nat,(∀c∈cs,c<n)->D ((aug L S).map fo) cs=D (L.map fo) cs
 | [],[],_,_,_,_=>rfl
 | [],_::_,h,_,_,_=>by simp at h
 | _::_,[],h,_,_,_=>by simp at h
 | r::L,s::S,h,hr,cs,hc=>by
  show X (fo (r++ [s])) (D ((aug L S).map fo)) cs=X (fo r) (D (L.map fo)) cs
  refine tM (λc Kl=>?_) λl hl=>Aj L S (by simpa using h) (λq hq=>hr q (aaj _ hq)) l λc Cc=>hc c (hl c Cc)
  unfold fo
  have:=hc c Kl
  have lr:=hr r (aai ..)
  rw[aae,aaW (by omega),aae]
end aP
namespace Dg
noncomputable def Bp (ps:List Int) (g:Nat->Int) (q:Int):Int:=if q∈ps then g (ps.idxOf q) else 0
theorem CJ {g:Nat->Int} {q w:Int}:∀{ps:List Int},ps.Nodup->aP.sm ps.length (λj=>g j* (if q=ps.getD j 0 then w else 0))=w*Bp ps g q:=by
 intro ps nd
 have key:∀n,n<=ps.length->aP.sm n (λj=>g j* (if q=ps.getD j 0 then w else 0))=if q∈ps.take n then w*g (ps.idxOf q) else 0:=by
  intro n
  induction n with
  | zero=>intro _;rfl
  | succ n ih=>
   intro hn
   have e:ps[n]?=some ps[n]:=aac (by omega)
   have eg:ps.getD n 0=ps[n]:=by rw[aae,e];rfl
   show aP.sm n _+g n* (if q=ps.getD n 0 then w else 0)=_
   rw[ih (by omega),aaC,e,eg]
   by_cases c:q=ps[n]
   ·have Mt:q∉ps.take n:=by
     intro z
     obtain⟨j,hj,ej⟩:=aa2 z
     rw[aaQ] at hj
     rw[List.getElem_take] at ej
     have:=(abe nd).mp (ej.trans c)
     omega
    have ix:ps.idxOf q=n:=by
     have l:=aa1 (show q∈ps by rw[c];exact aan _)
     exact(abe nd).mp ((aa5 l).trans c)
    rw[if_neg Mt,if_pos c,if_pos (aaH _ (by rw[c];exact List.mem_singleton.mpr rfl)),ix,Int.zero_add,aaB]
   ·have m:q∈ps.take n++ (some ps[n]).toList↔q∈ps.take n:=by
     rw[List.mem_append]
     constructor
     ·rintro(h | h)
      ·exact h
      ·exact absurd (List.mem_singleton.mp h) c
     ·exact .inl
    rw[if_neg c,Int.mul_zero,Int.add_zero]
    by_cases k:q∈ps.take n
    ·rw[if_pos k,if_pos (m.mpr k)]
    ·rw[if_neg k,if_neg (λz=>k (m.mp z))]
 have:=key ps.length (aag _)
 rw[aaG (aag _)] at this
 rw[this]
 unfold Bp
 split
 ·rfl
 ·rw[Int.mul_zero]
theorem wJ {ps:List Int} {g:Nat->Int} (nd:ps.Nodup):∀ws:Wy,aP.sm ps.length (λj=>g j*iV (ps.getD j 0) ws)=dW (Bp ps g) ws
 | []=>by
  show aP.sm ps.length (λj=>g j*0)=0
  rw[show(λj=>g j*0)=λ_=>(0:Int) from funext λj=>Int.mul_zero _]
  exact aP.wH _
 | x::ws=>by
  have e:(λj=>g j*iV (ps.getD j 0) (x::ws))=λj=>g j* (if x.2=ps.getD j 0 then x.1 else 0)+g j*iV (ps.getD j 0) ws:=funext λj=>by
   show g j* ((if x.2=ps.getD j 0 then x.1 else 0)+iV (ps.getD j 0) ws)=_
   rw[Int.mul_add]
  rw[e,aP.vh,CJ nd,wJ nd ws]
  rfl
noncomputable def oW (ps:List Int) (W:Int->Wy) (L:List (List Int)):Prop:=L.length=ps.length/\(∀r∈L,r.length=ps.length)/\∀i j,i<ps.length->j<ps.length->(L.getD i []).getD j 0=(if i=j then tt (W (ps.getD i 0)) else 0) - iV (ps.getD j 0) (W (ps.getD i 0))
theorem oW.sum {ps:List Int} {W:Int->Wy} {L:List (List Int)} (R:oW ps W L) (nd:ps.Nodup) (g:Nat->Int) {i:Nat} (hi:i<ps.length):aP.sm ps.length (λj=>g j* (L.getD i []).getD j 0)=tt (W (ps.getD i 0))*g i - dW (Bp ps g) (W (ps.getD i 0)):=by
 have e:aP.sm ps.length (λj=>g j* (L.getD i []).getD j 0)=aP.sm ps.length (λj=>tt (W (ps.getD i 0))* (g j* (if j=i then 1 else 0))+ (-1)* (g j*iV (ps.getD j 0) (W (ps.getD i 0)))):=aP.fy λj hj=>by
  rw[R.2.2 i j hi hj]
  by_cases c:i=j
  ·subst c
   rw[if_pos rfl,if_pos rfl,Int.mul_sub,Int.mul_one,aaB (g i) (tt _)]
   omega
  ·rw[if_neg c,if_neg (Ne.symm c),Int.mul_sub,Int.mul_zero,Int.mul_zero]
   omega
 rw[e,aP.vh,aP.nZ,aP.nZ,aP.Ab,if_pos hi,wJ nd]
 omega
end Dg
namespace Dg
theorem Ak {ps:List Int} (nd:ps.Nodup) (g:Nat->Int) {i:Nat} (hi:i<ps.length):Bp ps g (ps.getD i 0)=g i:=by
 have eg:ps.getD i 0=ps[i]:=by rw[aae,aac hi];rfl
 unfold Bp
 rw[eg,if_pos (aan hi)]
 congr 1
 have l:=aa1 (aan hi)
 exact(abe nd).mp (aa5 l)
theorem oW.Am {ps:List Int} {W:Int->Wy} {lv:Int->Nat} {L:List (List Int)} (R:oW ps W L) (nd:ps.Nodup) (pos:∀p∈ps,∀x∈W p,1<=x.1) (dn:∀p∈ps,W p=[]\/∃x∈W p,lv x.2<lv p):¬aP.Ag L ps.length:=by
 rintro⟨g,k,hk,gk,rel⟩
 apply gk
 have z:=yg (ps:=ps) (W:=W) (lv:=lv) (v:=Bp ps g) (λp hp=>?_) pos (λq hq=>if_neg hq) dn (ps.getD k 0) ?_
 ·rw[Ak nd g hk] at z
  exact z
 ·obtain⟨i,hi,rfl⟩:=aa2 hp
  have eg:ps.getD i 0=ps[i]:=by rw[aae,aac hi];rfl
  have e:=R.sum nd g hi
  have r:aP.sm ps.length (λj=>g j* (L.getD i []).getD j 0)=0:=rel i hi
  rw[r] at e
  have o:=Ak nd g hi
  rw[eg] at e o
  rw[o]
  omega
 ·rw[aae,aac hk]
  exact aan hk
end Dg
noncomputable def Rw (H:Hp) (r:List Int) (x:V):Prop:=∃q,x=.ref q/\H q=some (.lst (List.map V.int r))
theorem Rw.mono {H H':Hp} {r:List Int} {x:V} (s:az H H') (h:Rw H r x):Rw H' r x:=by
 obtain⟨q,e,k⟩:=h
 exact⟨q,e,s _ _ k⟩
noncomputable def q9 (H:Hp) (a:Addr) (L:List (List Int)):Prop:=∃xs,H a=some (.lst xs)/\Al (Rw H) L xs
theorem q9.mono {H H':Hp} {a:Addr} {L:List (List Int)} (s:az H H') (h:q9 H a L):q9 H' a L:=by
 obtain⟨xs,h1,h2⟩:=h
 exact⟨xs,s _ _ h1,h2.imp λ_ _ k=>k.mono s⟩
theorem An {xs:List V} {k:Int} (h:0<=k):iM xs (some k) none=xs.drop k.toNat:=by
 unfold iM
 obtain⟨n,rfl⟩:=aav h
 rw[HT.yQ,HT.BN,aah]
 by_cases c:n<=xs.length
 ·rw[Nat.min_eq_left c,aaG (by rw[List.length_drop];exact aag _)]
 ·rw[Nat.min_eq_right (by omega),List.drop_eq_nil_of_le (aag _),List.drop_eq_nil_of_le (show xs.length<=n by omega)]
  simp
theorem tN (r:List Int):iM (List.map V.int r) (some 1) none=List.map V.int r.tail:=by
 rw[An (by decide)]
 cases r <;>rfl
theorem hX {n i:Nat} (h:i<n):xN n (i:Int)=some i:=by
 unfold xN
 rw[if_pos (by omega),if_pos (by omega)]
 rfl
theorem oa {xs:List V} {L:List (List Int)} {H:Hp} {i:Nat} {r:List Int} (al:Al (Rw H) L xs) (e:L[i]?=some r):∃q,fH xs (i:Int)=some (.ref q)/\H q=some (.lst (List.map V.int r)):=by
 obtain⟨v,ev,q,rfl,hq⟩:=al.at e
 exact⟨q,bL ev,hq⟩
theorem jy {r:List Int} (h:0<r.length):fH (List.map V.int r) 0=some (.int (r.headD 0)):=by
 cases r with
 | nil=>cases h
 | cons a r=>exact bL (j:=0) rfl
theorem Al.set {α:Type} {R:α->V->Prop} {a:α} {v:V} (h:R a v):∀{as:List α} {vs:List V} {i:Nat},Al R as vs->Al R (as.set i a) (vs.set i v)
 | [],[],_,_=>trivial
 | _::_,_::_,0,k=>⟨h,k.2⟩
 | _::_,_::_,i+1,k=>⟨k.1,Al.set h k.2⟩
theorem rh {H:Hp} {p:Addr} {o:HO}:cE (upd H p o) p=cE H p:=by
 funext a
 unfold cE
 by_cases h:a=p
 ·rw[if_pos h,if_pos h]
 ·rw[if_neg h,if_neg h,aG h]
theorem Rw.push {H:Hp} {a q:Addr} {L:List (List Int)} {xs:List V} {r:List Int} (al:Al (Rw (cE H a)) L xs) (hq:H q=some (.lst (List.map V.int r))) (ne:q≠a):Al (Rw (cE (upd H a (.lst (xs++ [.ref q]))) a)) (L++ [r]) (xs++ [.ref q]):=by
 rw[rh]
 exact al.append (.one ⟨q,rfl,by rw[bz ne];exact hq⟩)
theorem Ao {zs:List V} {f:Int->Int->Int} {as bs:List Int} (l:zs.length=min (List.map V.int as).length (List.map V.int bs).length) (h:∀(j:Nat) y,zs[j]?=some y->∀o1 o2,as[j]?=some o1->bs[j]?=some o2->y=.int (f o1 o2)):zs=List.map V.int (List.zipWith f as bs):=by
 rw[aab,aab] at l
 refine aaS λj=>?_
 by_cases c:j<min as.length bs.length
 ·have e1:as[j]?=some as[j]:=aac (by omega)
  have e2:bs[j]?=some bs[j]:=aac (by omega)
  rw[aac (show j<zs.length by omega),h j _ (aac (by omega)) _ _ e1 e2,aad,abt,e1,e2]
  rfl
 ·rw[aaq (by omega),aaq (by rw[aab,abn];omega)]
noncomputable def Fu:Sp:=λvs H Q _=>∃a L k,vs=[.ref a,.int (Nat.cast k)]/\q9 H a L/\k<=L.length/\L.length<=64/\(∀r∈L,0<r.length)/\(∀i:Nat,k<=i->i<L.length->(L.getD i []).headD 0≠0->Q (.int i) H)/\((∀i:Nat,k<=i->i<L.length->(L.getD i []).headD 0=0)->Q .cB H)
noncomputable def Ap:Sp:=λvs H Q _=>∃a L i j,vs=[.ref a,.int (Nat.cast i),.int (Nat.cast j)]/\q9 H a L/\i<L.length/\j<L.length/\L.length<=64/\∀p H',az H H'->q9 H' p ((L.set i (L.getD j [])).set j (L.getD i []))->Q (.ref p) H'
noncomputable def Fv:Sp:=λvs H Q _=>∃a L s l m,vs=[.ref a,.int (Nat.cast s),.int l]/\q9 H a L/\s<L.length/\L.length<=64/\m<=64/\(∀r∈L,r.length=m+1)/\l≠0/\Bt 4000 l/\(∀r∈L,∀x∈r,Bt 4000 x)/\∀p H',az H H'->q9 H' p (aP.KG L s l)->Q (.ref p) H'
structure KH (L:List (List Int)) (n m:Nat):Prop where
 len:L.length=n
 row:∀r∈L,r.length=m
 nm:n<=m
 Mu:m<=64
 BV:∀k rs W,aP.iW (L.map aP.fo) n k rs W->Bt 4000 (aP.D rs (aP.dn k))/\∀v∈W,∀j,Bt 4000 (aP.D (v::rs) (j::aP.dn k))
noncomputable def Fw:Sp:=λvs H Q _=>∃a L n m,vs=[.ref a,.int (Nat.cast n)]/\q9 H a L/\KH L n m/\∀t p k rs W H',aP.iW (L.map aP.fo) n k rs W->(k<n->aP.pV k rs W)->az H H'->H' t=some (.tup [.ref p,.int (Nat.cast k),.int (aP.D rs (aP.dn k))])->q9 H' p (W.map λv=>aP.bP v rs k m)->Q (.ref t) H'
noncomputable def rS (d:Int):Int:=if 0<d then 1 else -1
noncomputable def og (n:Nat) (rs:List aP.Fm):List Int:=(List.range n).map λi=>aP.D (aP.ng i::rs) (n::aP.dn n)*rS (aP.D rs (aP.dn n))
theorem Aq (d:Int):rS d=1\/rS d= -1:=by
 unfold rS
 split
 ·exact .inl rfl
 ·exact .inr rfl
theorem Ar {i d:Int}:IntMulOk i (rS d):=by
 rcases Aq d with h | h <;>rw[h] <;>exact m4
theorem Fx {U W rs:List aP.Fm} {n:Nat} (St:aP.iW U n n rs W):W.filterMap (λv=>some (aP.D (v::rs) (n::aP.dn n)*rS (aP.D rs (aP.dn n))))=og n rs:=by
 rw[List.filterMap_eq_map']
 unfold og
 refine aaS λi=>?_
 rw[aad,aad]
 by_cases c:i<n
 ·rw[St.own i c,aa0 c]
  rfl
 ·rw[aaq (by rw[St.len];omega),aaq (by rw[aaz];omega)]
  rfl
noncomputable def Fy:Sp:=λvs H Q _=>∃a c L S n,vs=[.ref a,.ref c]/\q9 H a L/\H c=some (.lst (List.map V.int S))/\S.length=n/\aP.Sq L n/\KH (aP.aug L S) n (n+1)/\
 (∀k rs W H',aP.iW ((aP.aug L S).map aP.fo) n k rs W->k<n->aP.pV k rs W->az H H'->Q .cB H')/\
 (∀rs W t p H',aP.iW ((aP.aug L S).map aP.fo) n n rs W->az H H'->H' t=some (.tup [.ref p,.int (aP.D rs (aP.dn n)*rS (aP.D rs (aP.dn n)))])->H' p=some (.lst (List.map V.int (og n rs)))->Q (.ref t) H')
structure Ub (L:List (List Int)) (S:List Int) (n:Nat) (x:List Int) (d:Int):Prop where
 len:x.length=n
 pos:0<d
 bd:Bt 4000 d
 bx:∀v∈x,Bt 4000 v
 eq:∀i,i<n->aP.sm n (λj=>aP.cell L i j*x.getD j 0)=S.getD i 0*d
 ne:aP.D (L.map aP.fo) (aP.dn n)≠0
 dnn:d.natAbs=(aP.D (L.map aP.fo) (aP.dn n)).natAbs
theorem CK {d:Int} (h:d≠0):0<d*rS d:=by
 unfold rS
 split
 ·omega
 ·omega
theorem jz (x d:Int):(x*rS d).natAbs=x.natAbs:=by
 rcases Aq d with h | h <;>rw[h] <;>omega
theorem As {n i:Nat} {rs:List aP.Fm} (h:i<n):(og n rs).getD i 0=aP.D (aP.ng i::rs) (n::aP.dn n)*rS (aP.D rs (aP.dn n)):=by
 unfold og
 rw[aae,aad,aa0 h]
 rfl
theorem Fz {L:List (List Int)} {S:List Int} {n:Nat} {rs W:List aP.Fm} (sq:aP.Sq L n) (lS:S.length=n) (B:KH (aP.aug L S) n (n+1)) (St:aP.iW ((aP.aug L S).map aP.fo) n n rs W):Ub L S n (og n rs) (aP.D rs (aP.dn n)*rS (aP.D rs (aP.dn n))):=by
 refine⟨by unfold og;rw[aab,aaz],CK St.good.ne,?_,λv hv=>?_,λi hi=>?_,?_,?_⟩
 ·unfold Bt
  rw[jz]
  exact(B.BV _ _ _ St).1
 ·unfold og at hv
  obtain⟨i,hi,rfl⟩:=List.mem_map.mp hv
  unfold Bt
  rw[jz]
  exact(B.BV _ _ _ St).2 _ (aaf (St.own i (List.mem_range.mp hi))) n
 ·have e:=St.answers (aP.wI sq lS hi)
  have e2:aP.sm n (λj=>aP.cell L i j* (og n rs).getD j 0)=aP.sm n (λj=>rS (aP.D rs (aP.dn n))* ((((aP.aug L S).map aP.fo).getD i aP.z0) j*aP.D (aP.ng j::rs) (n::aP.dn n))):=aP.fy λj hj=>by
   rw[As hj,aP.Ae sq lS hi hj,<-aaT,aaB]
  rw[e2,aP.nZ,e,aP.Af sq lS hi,aaB,aaT]
 ·rw[<-aP.Aj L S (by rw[lS,sq.len]) sq.row _ λc hc=>aP.j6.mp hc]
  exact St.ne
 ·rw[<-aP.Aj L S (by rw[lS,sq.len]) sq.row _ λc hc=>aP.j6.mp hc,jz]
  obtain⟨s,hs,e⟩:=aP.perm St.all
  rw[e]
  rcases hs with rfl | rfl <;>omega
theorem CL {L:List (List Int)} {S:List Int} {n b c:Nat} (sq:aP.Sq L n) (lS:S.length=n) (n63:n<64) (b1:1<=b) (bc:b<=c) (hL:∀r∈L,∀x∈r,x.natAbs<=b) (hS:∀x∈S,x.natAbs<=c) (top:(n+1)^ (n+1)* (c*b^n)<2^4000):KH (aP.aug L S) n (n+1):=by
 have ge:∀{i:Nat} {r:List Int},(aP.aug L S)[i]?=some r->∃q,q∈L/\r=q++ [S.getD i 0]/\i<n:=λ{i r} e=>by
  have hi:i<n:=by have:=(List.getElem?_eq_some_iff.mp e).1;rw[aP.jx sq.len lS] at this;exact this
  obtain⟨q,eq,_,mq⟩:=sq.at hi
  rw[aP.jw lS hi eq] at e
  exact⟨q,mq,(aax e).symm,hi⟩
 have hU:∀u∈(aP.aug L S).map aP.fo,∀j,(u j).natAbs<=if j<n then b else c:=λu hu j=>by
  obtain⟨r,hr,rfl⟩:=List.mem_map.mp hu
  obtain⟨i,ei⟩:=aaw hr
  obtain⟨q,mq,rfl,hi⟩:=ge ei
  have lq:=sq.row q mq
  unfold aP.fo
  rw[aae]
  by_cases cj:j<n
  ·rw[if_pos cj,aaW (by omega),aac (by omega)]
   exact hL q mq _ (aan _)
  ·rw[if_neg cj,aaV (by omega)]
   by_cases e:j=n
   ·rw[e,lq,Nat.sub_self]
    show(S.getD i 0).natAbs<=c
    rw[aae,aac (by omega)]
    exact hS _ (aan _)
   ·rw[aaq (by show 1<=_;omega)]
    exact aar _
 have β1:∀j,1<=if j<n then b else c:=λj=>by split <;>omega
 have βn:∀j,j<n->(if j<n then b else c)<=b:=λj hj=>by rw[if_pos hj];exact aag _
 have βc:∀j,(if j<n then b else c)<=c:=λj=>by split <;>omega
 refine⟨aP.jx sq.len lS,λr hr=>?_,by omega,by omega,λk rs W St=>⟨?_,λv hv j=>?_⟩⟩
 ·obtain⟨i,ei⟩:=aaw hr
  obtain⟨q,mq,rfl,_⟩:=ge ei
  rw[aaD,sq.row q mq]
  rfl
 ·have h:=St.Ua β1 βn hU
  refine abb (aao h (abr _ ?_)) top
  have:=abh b1 St.le
  exact aao this (Nat.le_mul_of_pos_left _ (by omega))
 ·have h:=St.T9 β1 βn βc hU hv j
  exact abb (aao h (abr _ (abr _ (abh b1 St.le)))) top
theorem FA {L:List (List Int)} {S:List Int} {n b c:Nat} {rs W:List aP.Fm} (sq:aP.Sq L n) (lS:S.length=n) (b1:1<=b) (bc:b<=c) (hL:∀r∈L,∀x∈r,x.natAbs<=b) (hS:∀x∈S,x.natAbs<=c) (St:aP.iW ((aP.aug L S).map aP.fo) n n rs W):(aP.D rs (aP.dn n)*rS (aP.D rs (aP.dn n))).natAbs<=(n+1)^ (n+1)*b^n/\∀v∈og n rs,v.natAbs<=(n+1)^ (n+1)* (c*b^n):=by
 have hU:∀u∈(aP.aug L S).map aP.fo,∀j,(u j).natAbs<=if j<n then b else c:=λu hu j=>by
  obtain⟨r,hr,rfl⟩:=List.mem_map.mp hu
  obtain⟨i,ei⟩:=aaw hr
  have hi:i<n:=by have:=(List.getElem?_eq_some_iff.mp ei).1;rw[aP.jx sq.len lS] at this;exact this
  obtain⟨q,eq,lq,mq⟩:=sq.at hi
  rw[aP.jw lS hi eq] at ei
  cases ei
  unfold aP.fo
  rw[aae]
  by_cases cj:j<n
  ·rw[if_pos cj,aaW (by omega),aac (by omega)]
   exact hL q mq _ (aan _)
  ·rw[if_neg cj,aaV (by omega)]
   by_cases e:j=n
   ·rw[e,lq,Nat.sub_self]
    show(S.getD i 0).natAbs<=c
    rw[aae,aac (by omega)]
    exact hS _ (aan _)
   ·rw[aaq (by show 1<=_;omega)]
    exact aar _
 have β1:∀j,1<=if j<n then b else c:=λj=>by split <;>omega
 have βn:∀j,j<n->(if j<n then b else c)<=b:=λj hj=>by rw[if_pos hj];exact aag _
 have βc:∀j,(if j<n then b else c)<=c:=λj=>by split <;>omega
 refine⟨by rw[jz];exact St.Ua β1 βn hU,λv hv=>?_⟩
 unfold og at hv
 obtain⟨i,hi,rfl⟩:=List.mem_map.mp hv
 rw[jz]
 exact St.T9 β1 βn βc hU (aaf (St.own i (List.mem_range.mp hi))) n
namespace Dg
theorem tO (f g:Int->Int):∀ws:Wy,dW (λq=>f q+g q) ws=dW f ws+dW g ws
 | []=>rfl
 | x::ws=>by
  show x.1* (f x.2+g x.2)+dW (λq=>f q+g q) ws=x.1*f x.2+dW f ws+ (x.1*g x.2+dW g ws)
  rw[tO f g ws,Int.mul_add]
  omega
theorem tP (d:Int) (f:Int->Int):∀ws:Wy,dW (λq=>f q*d) ws=dW f ws*d
 | []=>by show(0:Int)=0*d;omega
 | x::ws=>by
  show x.1* (f x.2*d)+dW (λq=>f q*d) ws=(x.1*f x.2+dW f ws)*d
  rw[tP d f ws,Int.add_mul,aaT]
theorem oh {f g:Int->Int}:∀{ws:Wy},(∀x∈ws,f x.2=g x.2)->dW f ws=dW g ws
 | [],_=>rfl
 | x::ws,h=>by
  show x.1*f x.2+dW f ws=x.1*g x.2+dW g ws
  rw[h x aai,oh λy hy=>h y (aaj _ hy)]
theorem j8 (ts:List Int):∀ws:Wy,gz ts ws=dW (λq=>ts.getD q.toNat 0) ws
 | []=>rfl
 | x::ws=>by
  have:=j8 ts ws
  show x.1*ts.getD x.2.toNat 0+gz ts ws=x.1*ts.getD x.2.toNat 0+_
  rw[this]
theorem CM {ps:List Int} {W:Int->Wy} {L:List (List Int)} {S T x:List Int} {d r:Int} (R:oW ps W L) (nd:ps.Nodup) {i:Nat} (hi:i<ps.length)
  (sol:aP.sm ps.length (λj=>aP.cell L i j*x.getD j 0)=r*d) (zero:∀p∈ps,S.getD p.toNat 0=0)
  (Uc:∀j,j<ps.length->T.getD (ps.getD j 0).toNat 0=x.getD j 0) (Mv:∀y∈W (ps.getD i 0),y.2∉ps->T.getD y.2.toNat 0=S.getD y.2.toNat 0*d):
  tt (W (ps.getD i 0))*T.getD (ps.getD i 0).toNat 0=r*d - gz S (W (ps.getD i 0))*d+gz T (W (ps.getD i 0)):=by
 have e:=R.sum nd (λj=>x.getD j 0) hi
 have c:aP.sm ps.length (λj=>x.getD j 0* (L.getD i []).getD j 0)=aP.sm ps.length (λj=>aP.cell L i j*x.getD j 0):=aP.fy λj _=>aaB _ _
 rw[c,sol] at e
 have k:dW (λq=>T.getD q.toNat 0) (W (ps.getD i 0))=dW (Bp ps λj=>x.getD j 0) (W (ps.getD i 0))+gz S (W (ps.getD i 0))*d:=by
  rw[j8,<-tP,<-tO]
  refine oh λy hy=>?_
  by_cases m:y.2∈ps
  ·have lt:=aa1 m
   have eg:ps.getD (ps.idxOf y.2) 0=y.2:=by rw[aae,aac lt,aa5 lt];rfl
   have t1:=Uc _ lt
   rw[eg] at t1
   rw[t1,zero _ m,Int.zero_mul,Int.add_zero]
   unfold Bp
   rw[if_pos m]
  ·rw[Mv y hy m]
   unfold Bp
   rw[if_neg m,Int.zero_add]
 rw[Uc i hi,j8 T,k]
 omega
end Dg
noncomputable def pW (ws:Dg.Wy):Dat:=.lst (ws.map bB)
noncomputable def cq (fK:List Dg.Wy) (p:Int):Dg.Wy:=fK.getD p.toNat []
noncomputable def gO (ps:List Int):List (Key×V):=(List.range ps.length).map λi=>(Sum.inl (ps.getD i 0),.int (i:Int))
noncomputable def Au:Sp:=λvs H Q _=>∃(x wl:Addr) (ps:List Int) (xs:List V) (fK:List Dg.Wy),vs=[.ref x,.ref wl]/\H x=some (.lst (ps.map V.int))/\H wl=some (.lst xs)/\aY H (fK.map pW) xs/\ps.Nodup/\ps.length<=40/\(∀p∈ps,0<=p/\p< (fK.length:Int))/\(∀ws∈fK,ws.length<=5)/\
 ∀r L H',az H H'->q9 H' r L->Dg.oW ps (cq fK) L->Q (.ref r) H'
noncomputable def tQ:Sp:=λvs H Q _=>∃(a:Addr) (ws:Dg.Wy),vs=[.ref a]/\Rep H (pW ws) (.ref a)/\ws.length<=5/\∀H',az H H'->Q (.int (Dg.tt ws)) H'
theorem pX (ps:List Int):(gO ps).map (·.1)=ps.map Sum.inl:=by
 unfold gO
 rw[aaM]
 apply aaS
 intro i
 rw[aad,aad]
 by_cases h:i<ps.length
 ·rw[aa0 h,aac h]
  show some (Sum.inl (ps.getD i 0))=some (Sum.inl ps[i])
  rw[aae,aac h]
  rfl
 ·rw[aaq (by rw[aaz];omega),aaq (by omega)]
  rfl
theorem Av {ps:List Int} (nd:ps.Nodup) {i:Nat} (h:i<ps.length):gG (gO ps) (Sum.inl (ps.getD i 0))=some (.int (i:Int)):=by
 refine vc (i:=i) ?_ ?_
 ·rw[pX]
  exact zP nd
 ·unfold gO
  rw[aad,aa0 h]
  rfl
theorem tR {ps:List Int} {q:Int} (h:q∉ps):gG (gO ps) (Sum.inl q)=none:=ml (by
 rw[pX]
 exact λz=>h (qS.mp z))
theorem yj {ps:List Int} {i:Nat} (h:i<ps.length):gO (ps.take (i+1))=gO (ps.take i)++ [(Sum.inl (ps.getD i 0),.int (i:Int))]:=by
 have l1:(ps.take (i+1)).length=i+1:=by rw[aaQ];omega
 have l0:(ps.take i).length=i:=by rw[aaQ];omega
 unfold gO
 rw[l1,l0,List.range_succ,aau]
 congr 1
 ·refine abp λj hj=>?_
  have:=List.mem_range.mp hj
  rw[aae,aae,List.getElem?_take_of_lt (by omega),List.getElem?_take_of_lt this]
 ·show[(Sum.inl ((ps.take (i+1)).getD i 0),V.int (i:Int))]=_
  rw[aae,List.getElem?_take_of_lt (aaJ _),<-aae]
noncomputable def mB (C:Addr) (H:Hp) (x:Addr) (S:Dg.Bk):Prop:=∃dx m,H x=some (.ins C dx [("tops",.ref m),("bottom",.int S.2)])/\H m=some (.lst (S.1.map V.int))
theorem mB.mono {C:Addr} {H H':Hp} {x:Addr} {S:Dg.Bk} (s:az H H') (h:mB C H x S):mB C H' x S:=by
 obtain⟨dx,m,h1,h2⟩:=h
 exact⟨dx,m,s _ _ h1,s _ _ h2⟩
noncomputable def yk:Sp:=λvs H Q _=>∃a b,vs=[.int a,.int b]/\Q (.int (Nm.g a b)) H
noncomputable def FC:Sp:=λvs H Q _=>∃a b,vs=[.int a,.int b]/\Bt 5000 b/\0<b/\∀p H',az H H'->H p=none->H' p=some (.tup (Pr (Nm.st a b) (Nm.sb a b)))->Q (.ref p) H'
noncomputable def FD:Sp:=λvs H Q _=>∃(a:Addr) (ws:List Wq.Sh) (Z:Int),vs=[.ref a]/\Rep H (.lst (ws.map bB)) (.ref a)/\ws.length<=60/\(∀x∈ws,0<x.2/\x.2∣Z)/\0<Z/\Bt 2000 Z/\Q (.int (Wq.eY 1 ws)) H
noncomputable def CN (C:Addr):Sp:=λvs H Q _=>∃(x dx l:Addr) (ts:List Int) (b:Int),vs=[.ref x,.ref l,.int b]/\H x=some (.ins C dx [])/\H l=some (.lst (ts.map V.int))/\
 ∀m H',H m=none->H' m=some (.lst (ts.map V.int))->H' x=some (.ins C dx [("tops",.ref m),("bottom",.int b)])->(∀y o,y≠x->H y=some o->H' y=some o)->Q .cB H'
noncomputable def DQ (C:Addr):Sp:=λvs H Q _=>∃(x:Addr) (S:Dg.Bk) (d:Int),vs=[.ref x,.int d]/\mB C H x S/\Bt 4000 d/\Bt 4000 S.2/\(∀t∈S.1,Bt 4000 t)/\S.1.length<=60/\
 ∀y dy m H',az H H'->H y=none->H m=none->H' y=some (.ins C dy [("tops",.ref m),("bottom",.int (S.2*d))])->H' m=some (.lst ((S.1.map (·*d)).map V.int))->Q (.ref y) H'
noncomputable def Iv (C:Addr):Sp:=λvs H Q _=>∃(x:Addr) (S:Dg.Bk),vs=[.ref x]/\mB C H x S/\0<S.2/\Bt 5000 S.2/\S.1.length<=60/\∀l H',az H H'->H l=none->Rep H' (.lst ((S.1.map λt=>Wq.low t S.2).map bB)) (.ref l)->Q (.ref l) H'
noncomputable def FE:Sp:=λvs H Q _=>∃(a:V) (q:Pl),vs=[a]/\Rep H (iS q) a/\∀r H',az H H'->H' r=some (.tup (Pr (Wq.dj q).1 (Wq.dj q).2))->Q (.ref r) H'
noncomputable def FF (C:Addr):Sp:=λvs H Q _=>∃(a:Addr) (ws:List Wq.Sh) (Z:Int),vs=[.ref a]/\Rep H (.lst (ws.map bB)) (.ref a)/\ws.length<=60/\(∀x∈ws,0<x.2/\x.2∣Z/\Bt 4000 x.1)/\0<Z/\Bt 2000 Z/\
 ∀x H',az H H'->mB C H' x (ws.map (Wq.sc (Wq.eY 1 ws)),Wq.eY 1 ws)->Q (.ref x) H'
noncomputable def FG (C:Addr):Sp:=λvs H Q _=>∃(x:Addr) (S:Dg.Bk),vs=[.ref x]/\mB C H x S/\S.1.length<=60/\∀y H',az H H'->mB C H' y (List.replicate S.1.length 0,S.2)->Q (.ref y) H'
namespace Dg
noncomputable def wK (n:Nat) (ws:Wy):Prop:=ws.length<=5/\∀x∈ws,1<=x.1/\x.1<=200000/\0<=x.2/\x.2< (n:Int)
theorem FH:∀{ws:Wy},(∀x∈ws,1<=x.1/\x.1<=200000)->(ws.length:Int)<=Wq.c5 ws/\Wq.c5 ws<=200000* (ws.length:Int)
 | [],_=>⟨Int.le_refl _,Int.le_refl _⟩
 | x::ws,h=>by
  have ih:=FH (ws:=ws) λy hy=>h y (aaj _ hy)
  have:=h x aai
  rw[dk,aap]
  omega
theorem wK.LZ {n:Nat} {ws:Wy} (h:wK n ws):0<=Wq.c5 ws/\Wq.c5 ws<=1000000:=by
 have:=FH λx hx=>⟨(h.2 x hx).1,(h.2 x hx).2.1⟩
 have l:=h.1
 omega
theorem wK.tt {n:Nat} {ws:Wy} (h:wK n ws):1<=tt ws/\tt ws<=1000000:=by
 have:=FH λx hx=>⟨(h.2 x hx).1,(h.2 x hx).2.1⟩
 have l:=h.1
 unfold Dg.tt
 cases ws with
 | nil=>decide
 | cons x ws=>
  rw[if_neg (by simp)]
  rw[aap] at this l
  omega
theorem wL {q:Int}:∀{ws:Wy},(∀x∈ws,1<=x.1)->0<=iV q ws/\iV q ws<=Wq.c5 ws
 | [],_=>⟨Int.le_refl _,Int.le_refl _⟩
 | x::ws,h=>by
  have ih:=wL (q:=q) (ws:=ws) λy hy=>h y (aaj _ hy)
  have:=h x aai
  show 0<=(if x.2=q then x.1 else 0)+iV q ws/\(if x.2=q then x.1 else 0)+iV q ws<=_
  rw[dk]
  split <;>omega
theorem oW.ent {ps:List Int} {W:Int->Wy} {L:List (List Int)} {n:Nat} (R:oW ps W L) (w:∀p∈ps,wK n (W p)):∀r∈L,∀x∈r,x.natAbs<=2^20:=by
 intro r hr x hx
 obtain⟨i,hi,rfl⟩:=aa2 hr
 have lr:=R.2.1 _ (aan hi)
 obtain⟨j,hj,rfl⟩:=aa2 hx
 have um:i<ps.length:=by rw[<-R.1];exact hi
 have Iw:j<ps.length:=by omega
 have e:=R.2.2 i j um Iw
 rw[aae (l:=L),aac hi,Option.getD_some,aae,aac hj,Option.getD_some] at e
 have mp:ps.getD i 0∈ps:=by rw[aae,aac um];exact aan um
 have k:=w _ mp
 obtain⟨t0,t1⟩:=k.tt
 obtain⟨u0,u1⟩:=k.LZ
 obtain⟨s0,s1⟩:=wL (q:=ps.getD j 0) λx hx=>(k.2 x hx).1
 rw[e]
 split <;>omega
theorem pY (n:Nat) (h:n<=31):(n+1)^ (n+1)<=2^ (5*n+5):=by
 have e:(2:Nat)^ (5*n+5)=32^ (n+1):=by rw[show 5*n+5=5* (n+1) by omega,Nat.pow_mul]
 rw[e]
 exact Nat.pow_le_pow_left (by omega) _
theorem Aw (n M:Nat) (h:n<=31) (h1:1<=n):(n+1)^ (n+1)* (2^ (M+61)* (2^20)^n)<2^ (M+92*n):=by
 refine abb (Nat.mul_le_mul_right _ (pY n h)) ?_
 rw[<-Nat.pow_mul,<-Nat.pow_add,<-Nat.pow_add]
 exact Nat.pow_lt_pow_right (by decide) (by omega)
theorem CO (n:Nat) (h:n<=31) (h1:1<=n):(n+1)^ (n+1)* (2^20)^n<2^ (92*n):=by
 refine abb (Nat.mul_le_mul_right _ (pY n h)) ?_
 rw[<-Nat.pow_mul,<-Nat.pow_add]
 exact Nat.pow_lt_pow_right (by decide) (by omega)
noncomputable def putK (ps xs ts:List Int):Nat->List Int
 | 0=>ts
 | k+1=>(putK ps xs ts k).set (ps.getD k 0).toNat (xs.getD k 0)
theorem jA (ps xs ts:List Int):∀k,(putK ps xs ts k).length=ts.length
 | 0=>rfl
 | k+1=>by unfold putK;rw[aaX,jA ps xs ts k]
theorem tS {ps xs ts:List Int} {q:Int} (q0:0<=q) (hp:∀p∈ps,0<=p) (h:q∉ps):∀k,k<=ps.length->(putK ps xs ts k).getD q.toNat 0=ts.getD q.toNat 0
 | 0,_=>rfl
 | k+1,hk=>by
  have e:ps.getD k 0=ps[k]:=by rw[aae,aac (by omega)];rfl
  have m:=aan (l:=ps) (n:=k) (by omega)
  have:=hp _ m
  unfold putK
  rw[eP (λz=>h (by rw[e] at z;rw[show q=ps[k] by omega];exact m)),tS q0 hp h k (by omega)]
theorem wM {ps xs ts:List Int} {n:Nat} (nd:ps.Nodup) (hp:∀p∈ps,0<=p/\p< (n:Int)) (lt:ts.length=n) {j:Nat}:∀k,k<=ps.length->j<k->(putK ps xs ts k).getD (ps.getD j 0).toNat 0=xs.getD j 0
 | 0,_,h=>absurd h (aba _)
 | k+1,hk,h=>by
  have e:ps.getD k 0=ps[k]:=by rw[aae,aac (by omega)];rfl
  have ej:ps.getD j 0=ps[j]:=by rw[aae,aac (by omega)];rfl
  have m:=hp _ (aan (l:=ps) (n:=k) (by omega))
  have mj:=hp _ (aan (l:=ps) (n:=j) (by omega))
  unfold putK
  by_cases c:j=k
  ·subst c
   rw[gN (by rw[jA,lt,e];omega)]
  ·rw[eP ?_,wM nd hp lt k (by omega) (by omega)]
   rw[e,ej]
   intro z
   exact c ((abe nd).mp (show ps[j]=ps[k] by omega))
noncomputable def CP (ps:List Int) (W:Int->Wy) (gt:List Int) (G:Int) (S T:Bk):Prop:=∃d,0<d/\T.2=S.2*d/\T.1.length=S.1.length/\(∀q,0<=q->q∉ps->T.1.getD q.toNat 0=S.1.getD q.toNat 0*d)/\
 ∀p∈ps,tt (W p)*T.1.getD p.toNat 0=tt (W p)*gt.getD p.toNat 0* (S.2 / G)*d+gz T.1 (W p)
structure Sz (n M:Nat) (S:Bk):Prop where
 len:S.1.length=n
 pos:0<S.2
 bb:Bt M S.2
 bt:∀q,Bt M (S.1.getD q 0)
theorem Sz.up {n M M':Nat} {S:Bk} (h:Sz n M S) (l:M<=M'):Sz n M' S:=⟨h.len,h.pos,h.bb.mono l,λq=>(h.bt q).mono l⟩
theorem DR {M:Nat} (ts:List Int) (h:∀q,Bt M (ts.getD q 0)):∀{ws:Wy},(∀x∈ws,1<=x.1)->(gz ts ws).natAbs<=(Wq.c5 ws).toNat *2^M/\0<=Wq.c5 ws
 | [],_=>⟨by show(0:Int).natAbs<=_;simp,Int.le_refl _⟩
 | x::ws,hw=>by
  obtain⟨ih,t0⟩:=DR ts h (ws:=ws) λy hy=>hw y (aaj _ hy)
  have x0:=hw x aai
  have e:(Wq.c5 (x::ws)).toNat=x.1.toNat+ (Wq.c5 ws).toNat:=by rw[dk];omega
  have m:(x.1*ts.getD x.2.toNat 0).natAbs<=x.1.toNat *2^M:=by
   rw[aaY,show x.1.natAbs=x.1.toNat by omega]
   exact abr _ (Nat.le_of_lt (h _))
  refine⟨?_,by rw[dk];omega⟩
  rw[e,Nat.add_mul]
  show(x.1*ts.getD x.2.toNat 0+gz ts ws).natAbs<=_
  omega
theorem FI {M n:Nat} {ts:List Int} {ws:Wy} (h:∀q,Bt M (ts.getD q 0)) (w:wK n ws):Bt (M+20) (gz ts ws):=by
 obtain⟨a,_⟩:=DR ts h λx hx=>(w.2 x hx).1
 have t:=w.LZ
 have e:(2:Nat)^ (M+20)=1048576*2^M:=by rw[Nat.pow_add,Nat.mul_comm]
 have:(Wq.c5 ws).toNat *2^M<=1000000*2^M:=Nat.mul_le_mul_right _ (by omega)
 have:0<2^M:=Nat.pow_pos (by decide)
 unfold Bt
 omega
theorem Ax {M n:Nat} {S:Bk} {G g:Int} {ws:Wy} (h:Sz n M S) (w:wK n ws) (G0:0<G) (dv:G∣S.2) (hg:g.natAbs<=2^40*G.toNat):Bt (M+60) (tt ws*g* (S.2 / G))/\(tt ws*g* (S.2 / G)+gz S.1 ws).natAbs<=2^ (M+61):=by
 obtain⟨t0,t1⟩:=w.tt
 obtain⟨k,hk⟩:=dv
 have S0:=h.pos
 have ek:S.2 / G=k:=by rw[hk];exact Int.mul_ediv_cancel_left k (by omega)
 have k0:0<k:=by rw[hk] at S0;exact Int.pos_of_mul_pos_right S0 G0
 have eS:S.2.natAbs=G.toNat *k.toNat:=by rw[hk,aaY];congr 1 <;>omega
 have b1:=h.bb
 unfold Bt at b1
 have g1:(g*k).natAbs<=2^40*S.2.natAbs:=by
  rw[aaY,eS,<-Nat.mul_assoc,show k.natAbs=k.toNat by omega]
  exact Nat.mul_le_mul_right _ hg
 have g2:(tt ws*g* (S.2 / G)).natAbs<=1000000* (2^40*S.2.natAbs):=by
  rw[ek,aaT,aaY]
  exact Nat.mul_le_mul (by omega) g1
 have WD:(2:Nat)^ (M+60)=1152921504606846976*2^M:=by rw[Nat.pow_add,Nat.mul_comm]
 have WG:(2:Nat)^ (M+61)=2305843009213693952*2^M:=by rw[Nat.pow_add,Nat.mul_comm]
 have s:=FI h.bt w
 have e20:(2:Nat)^ (M+20)=1048576*2^M:=by rw[Nat.pow_add,Nat.mul_comm]
 unfold Bt at s ⊢
 rw[WD,WG]
 rw[e20] at s
 omega
theorem CP.ne {ps:List Int} {W:Int->Wy} {gt:List Int} {G:Int} {S T:Bk} (h:CP ps W gt G S T) (B0:0<S.2) {q:Int} (q0:0<=q) (hq:q∉ps):val T q=val S q:=by
 obtain⟨d,d0,e2,_,o,_⟩:=h
 unfold val
 rw[o q q0 hq,e2,Rat.intCast_mul,Rat.intCast_mul]
 have h1:=vf B0
 have h2:=vf d0
 generalize (S.2:Rat)=v at *
 generalize (d:Rat)=t at *
 generalize ((S.1.getD q.toNat 0:Int):Rat)=s at *
 grind
theorem CP.eq {ps:List Int} {W:Int->Wy} {gt:List Int} {G:Int} {S T:Bk} (h:CP ps W gt G S T) (B0:0<S.2) (G0:0<G) (dv:G∣S.2) {p:Int} (hp:p∈ps) (t0:0<tt (W p)):val T p=(gt.getD p.toNat 0:Rat) / (G:Rat)+cS (tt (W p)) (val T) (W p):=by
 obtain⟨d,d0,e2,_,_,o⟩:=h
 have T0:0<T.2:=by rw[e2];exact Int.mul_pos B0 d0
 have e:=o p hp
 rw[<-tJ T0 t0 (W p)]
 obtain⟨k,hk⟩:=dv
 have ek:S.2 / G=k:=by rw[hk];exact Int.mul_ediv_cancel_left k (by omega)
 have k0:0<k:=by
  rw[hk] at B0
  exact Int.pos_of_mul_pos_right B0 G0
 unfold val
 rw[ek] at e
 have e':((tt (W p)*T.1.getD p.toNat 0:Int):Rat)=((tt (W p)*gt.getD p.toNat 0*k*d+gz T.1 (W p):Int):Rat):=by rw[e]
 rw[Rat.intCast_add,Rat.intCast_mul,Rat.intCast_mul,Rat.intCast_mul,Rat.intCast_mul] at e'
 rw[e2,hk]
 simp only[Rat.intCast_mul]
 have h1:=vf G0
 have h2:=vf d0
 have h3:=vf k0
 have h4:=vf t0
 generalize (k:Rat)=v at *
 generalize (G:Rat)=u at *
 generalize (d:Rat)=x at *
 generalize (tt (W p):Rat)=t at *
 generalize ((gt.getD p.toNat 0:Int):Rat)=s at *
 generalize ((gz T.1 (W p):Int):Rat)=r at *
 generalize ((T.1.getD p.toNat 0:Int):Rat)=y at *
 clear ek k0 hk e o T0 e2
 grind
theorem wN {d:Int} (d0:0<d) {v:Int->Rat} {M:Rat}:∀{ws:Wy},(∀x∈ws,1<=x.1/\v x.2<=M)->cS d v ws<=(Wq.c5 ws:Rat) / (d:Rat)*M
 | [],_=>by show(0:Rat)<=((0:Int):Rat) / _*M;grind
 | x::ws,h=>by
  have ih:=wN d0 (v:=v) (M:=M) (ws:=ws) λy hy=>h y (aaj _ hy)
  obtain⟨x1,x2⟩:=h x aai
  show(x.1:Rat) / (d:Rat)*v x.2+cS d v ws<=((x.1+Wq.c5 ws:Int):Rat) / (d:Rat)*M
  rw[Rat.intCast_add]
  have c:(0:Rat)<=(x.1:Rat) / (d:Rat):=by
   rw[Rat.div_def]
   exact Rat.le_of_lt (Rat.mul_pos (Rat.intCast_pos.mpr (by omega)) (Rat.inv_pos.mpr (Rat.intCast_pos.mpr (by omega))))
  have m:=Rat.mul_le_mul_of_nonneg_left x2 c
  generalize v x.2=a at *
  generalize cS d v ws=r at *
  generalize (x.1:Rat)=s at *
  generalize (Wq.c5 ws:Rat)=t at *
  have e:(s+t) / (d:Rat)*M=s / (d:Rat)*M+t / (d:Rat)*M:=by grind
  rw[e]
  generalize s / (d:Rat)=u at *
  generalize t / (d:Rat)=w at *
  grind
theorem wO {d:Int} (d0:0<d) {v:Int->Rat} {M:Rat}:∀{ws:Wy},(∀x∈ws,1<=x.1/\v x.2<=M)->(∃x∈ws,v x.2<M)->cS d v ws< (Wq.c5 ws:Rat) / (d:Rat)*M
 | [],_,h=>by obtain⟨x,hx,_⟩:=h;simp at hx
 | x::ws,h,k=>by
  have hw:∀y∈ws,1<=y.1/\v y.2<=M:=λy hy=>h y (aaj _ hy)
  obtain⟨x1,x2⟩:=h x aai
  show(x.1:Rat) / (d:Rat)*v x.2+cS d v ws< ((x.1+Wq.c5 ws:Int):Rat) / (d:Rat)*M
  rw[Rat.intCast_add]
  have c:(0:Rat)< (x.1:Rat) / (d:Rat):=by
   rw[Rat.div_def]
   exact Rat.mul_pos (Rat.intCast_pos.mpr (by omega)) (Rat.inv_pos.mpr (Rat.intCast_pos.mpr (by omega)))
  have m:=Rat.mul_le_mul_of_nonneg_left x2 (Rat.le_of_lt c)
  have ih:=wN d0 hw
  have KE:(∃y∈ws,v y.2<M)->cS d v ws< (Wq.c5 ws:Rat) / (d:Rat)*M:=λz=>wO d0 hw z
  have m2:v x.2<M->(x.1:Rat) / (d:Rat)*v x.2< (x.1:Rat) / (d:Rat)*M:=λz=>Rat.mul_lt_mul_of_pos_left z c
  have k2:v x.2<M\/∃y∈ws,v y.2<M:=by
   obtain⟨y,hy,ly⟩:=k
   rcases List.mem_cons.mp hy with rfl | hy
   ·exact .inl ly
   ·exact .inr ⟨y,hy,ly⟩
  generalize v x.2=a at *
  generalize cS d v ws=r at *
  generalize (x.1:Rat)=s at *
  generalize (Wq.c5 ws:Rat)=t at *
  have e:(s+t) / (d:Rat)*M=s / (d:Rat)*M+t / (d:Rat)*M:=by grind
  rw[e]
  generalize s / (d:Rat)*M=u at *
  generalize t / (d:Rat)*M=w at *
  generalize s / (d:Rat)*a=z at *
  rcases k2 with k2 | k2
  ·have:=m2 k2
   grind
  ·have:=KE k2
   grind
theorem wQ (v:Int->Rat):∀(ps:List Int),ps≠[]->∃q∈ps,∀p∈ps,v p<=v q
 | [],h=>absurd rfl h
 | [a],_=>⟨a,List.mem_singleton.mpr rfl,λp hp=>by rw[List.mem_singleton.mp hp];exact Rat.le_refl⟩
 | a::b::l,_=>by
  obtain⟨q,hq,h⟩:=wQ v (b::l) (by simp)
  rcases Rat.le_total (a:=v q) (b:=v a) with c | c
  ·refine⟨a,aai,λp hp=>?_⟩
   rcases List.mem_cons.mp hp with rfl | hp
   ·exact Rat.le_refl
   ·exact Rat.le_trans (h p hp) c
  ·refine⟨q,aaj _ hq,λp hp=>?_⟩
   rcases List.mem_cons.mp hp with rfl | hp
   ·exact c
   ·exact h p hp
theorem sub_zero {ps:List Int} {W:Int->Wy} {lv:Int->Nat} {v:Int->Rat} (h:∀p∈ps,v p<=cS (tt (W p)) v (W p)) (pos:∀p∈ps,∀x∈W p,1<=x.1) (out:∀p∈ps,∀x∈W p,x.2∉ps->v x.2<=0) (dn:∀p∈ps,W p=[]\/∃x∈W p,lv x.2<lv p):∀p∈ps,v p<=0:=by
 intro p0 GR
 obtain⟨q,hq,mx⟩:=wQ v ps (List.ne_nil_of_mem GR)
 rcases Rat.le_total (a:=v q) (b:=0) with M0 | M0
 ·exact Rat.le_trans (mx p0 GR) M0
 ·by_cases z:v q=0
  ·rw[<-z];exact mx p0 GR
  ·exfalso
   have M1:0<v q:=by grind
   have all:∀p∈ps,∀x∈W p,v x.2<=v q:=λp hp x hx=>by
    by_cases c:x.2∈ps
    ·exact mx _ c
    ·exact Rat.le_trans (out p hp x hx c) M0
   have low:∀n,∀p∈ps,lv p<n->v p<v q:=by
    intro n
    induction n with
    | zero=>exact λp _ hl=>absurd hl (aba _)
    | succ n ih=>
     intro p hp hl
     have e:=h p hp
     rcases dn p hp with z | ⟨x,hx,lx⟩
     ·rw[z] at e
      have e:v p<=0:=e
      grind
     ·have et:tt (W p)=Wq.c5 (W p):=by unfold tt;rw[if_neg (List.ne_nil_of_mem hx)]
      have tp:0<tt (W p):=by
       rw[et]
       obtain⟨s0,s1⟩:=wL (q:=x.2) (pos p hp)
       have:∀{ws:Wy},(∀y∈ws,1<=y.1)->x∈ws->0<Wq.c5 ws:=by
        intro ws
        induction ws with
        | nil=>intro _ h;simp at h
        | cons y ws KE=>
         intro h1 h2
         have y1:=h1 y aai
         have:=(wL (q:=x.2) λz hz=>h1 z (aaj y hz))
         rw[dk]
         omega
       exact this (pos p hp) hx
      have k:=wO tp (v:=v) (M:=v q) (ws:=W p) (λy hy=>⟨pos p hp y hy,all p hp y hy⟩) ⟨x,hx,by
       by_cases c:x.2∈ps
       ·exact ih _ c (by omega)
       ·have:=out p hp x hx c
        grind⟩
      have one:(Wq.c5 (W p):Rat) / (tt (W p):Rat)*v q=v q:=by
       have:=vf tp
       rw[et] at this ⊢
       generalize (Wq.c5 (W p):Rat)=t at *
       grind
      rw[one] at k
      grind
   exact Rat.lt_irrefl (low _ q hq (aaJ _))
theorem jB {d:Int} {v v':Int->Rat}:∀ws:Wy,cS d (λi=>v i - v' i) ws=cS d v ws - cS d v' ws
 | []=>by show(0:Rat)=0 - 0;grind
 | x::ws=>by
  have ih:=jB (d:=d) (v:=v) (v':=v') ws
  show(x.1:Rat) / (d:Rat)* (v x.2 - v' x.2)+cS d (λi=>v i - v' i) ws=(x.1:Rat) / (d:Rat)*v x.2+cS d v ws - ((x.1:Rat) / (d:Rat)*v' x.2+cS d v' ws)
  rw[ih]
  grind
end Dg
noncomputable def GS (p:Int×Int):Prop:=Bt 40 p.1/\Bt 20 p.2/\Wq.Lw p
noncomputable def vk (n:Nat):Pl->Prop
 | .fin g=>GS g
 | .cL g ws=>GS g/\0<ws.length/\Dg.wK n ws
 | .bJ who to=>(who=1\/who=2)/\0<to.length/\to.length<=4/\∀g∈to,0<=g/\g< (n:Int)
noncomputable def wR (b:List Pl) (p:Int):Nat:=match b[p.toNat]? with | some (.bJ _ to)=>to.length | _=>1
noncomputable def j9 (b:List Pl):Nat->List Int->Nat
 | a,[]=>a
 | a,p::ps=>j9 b (a*wR b p) ps
structure CQ (b:List Pl) (rk:Int->Nat):Prop where
 good:Lv.Good b
 cL:∀(i:Nat) g ws,b[i]?=some (.cL g ws)->∃x∈ws,rk x.2<rk (i:Int)
 bJ:∀(i:Nat) w to,b[i]?=some (.bJ w to)->∀g∈to,rk g<rk (i:Int)
structure gP (b:List Pl) (rk:Int->Nat):Prop where
 pos:0<b.length
 len:b.length<=16
 ok:∀q∈b,vk b.length q
 gC:CQ b rk
 yv:∀p,Pr.In b p->j9 b 1 (Pr.c6 b p)<=4096
section LA
open Lv Bf
variable {b : List Pl} {rk : Int -> Nat} (D : CQ b rk)
include D
theorem CQ.lv:∀(m i:Nat),rk (i:Int)<m->i<b.length->lk (sS b) (i:Int)≠none
 | 0,_,h,_=>absurd h (aba _)
 | m+1,i,h,hi=>by
  have e:b[i]?=some b[i]:=aac hi
  have ih:∀g∈fI b[i],rk g<rk (i:Int)->lk (sS b) g≠none:=λg hg hr=>by
   obtain⟨h0,h1⟩:=D.good.mG _ (aaf e) g hg
   obtain⟨j,rfl⟩:=aav h0
   exact CQ.lv m j (by omega) (by omega)
  have E:=zk D.good i _ e
  have nn:∀v,(sS b)[i]?=some (some v)->lk (sS b) (i:Int)≠none:=λv hv z=>by
   rw[E7.mpr hv] at z
   cases z
  cases q:b[i] with
  | fin w=>rw[q] at E;exact nn _ E
  | cL w ws=>
   rw[q] at E ih e
   rcases E with ⟨_,a2⟩ | ⟨v,hv,_⟩
   ·obtain⟨x,hx,rx⟩:=D.cL i w ws e
    have m:x.2∈ws.map (·.2):=List.mem_map.mpr ⟨x,hx,rfl⟩
    exact absurd (a2 x.2 m) (ih x.2 m rx)
   ·exact nn v hv
  | bJ w to=>
   rw[q] at E ih e
   rcases E with ⟨_,g,hg,a2⟩ | ⟨v,hv,_⟩
   ·exact absurd a2 (ih g hg (D.bJ i w to e g hg))
   ·exact nn v hv
theorem CQ.ring:nR b=[]:=by
 refine List.eq_nil_iff_forall_not_mem.mpr λi hi=>?_
 obtain⟨h1,h2⟩:=zO.mp hi
 exact D.lv _ i (aaJ _) h1 h2
theorem CQ.within {p o:Int} (hp:Pr.In b p) (ho:o∈Pr.c6 b p) (ne:o≠p):∃g∈fb b p,g∈Pr.c6 b p:=by
 obtain⟨h1,h2⟩:=Pr.c9.mp ho
 obtain⟨ws,e⟩:=(Pr.vd D.good hp).mp h1
 cases ws with
 | nil=>cases e;exact absurd rfl ne
 | cons w ws=>
  have e:(match (fb b p)[w]? with | some g=>Bf.go b g ws | none=>none)=some o:=e
  cases c:(fb b p)[w]? with
  | none=>rw[c] at e;cases e
  | some g=>
   rw[c] at e
   have hg:=aaf c
   have kg:=Pr.qT D.good hp (Pr.hG D.good hp) hg
   have ig:=Pr.nU D.good hp kg
   have ko:o∈Pr.kb b g:=(Pr.vd D.good ig).mpr ⟨ws,e⟩
   exact⟨g,hg,Pr.c9.mpr ⟨kg,Pr.fx D.good ig ko h2⟩⟩
end LA
theorem vm (rk:Int->Nat):∀(ps:List Int),ps≠[]->∃q∈ps,∀p∈ps,rk q<=rk p
 | [],h=>absurd rfl h
 | [a],_=>⟨a,List.mem_singleton.mpr rfl,λp hp=>by rw[List.mem_singleton.mp hp];exact aag _⟩
 | a::b::l,_=>by
  obtain⟨q,hq,h⟩:=vm rk (b::l) (by simp)
  by_cases c:rk a<=rk q
  ·refine⟨a,aai,λp hp=>?_⟩
   rcases List.mem_cons.mp hp with rfl | hp
   ·exact aag _
   ·exact aao c (h p hp)
  ·refine⟨q,aaj _ hq,λp hp=>?_⟩
   rcases List.mem_cons.mp hp with rfl | hp
   ·omega
   ·exact h p hp
noncomputable def lD (b:List Pl) (p:Int):Bool:=match b[p.toNat]? with | some (.bJ _ _)=>true | _=>false
set_option tactic.hygienic true in
theorem wU {b:List Pl} (h:∀p,wR b p<=4):∀(ps:List Int) (a:Nat),j9 b a ps<=a*4^ (ps.filter (lD b)).length
 | [],a=>by show a<=a*1;omega
 | p::ps,a=>by
  have ih:=wU h ps (a*wR b p)
  refine aao (show j9 b (a*wR b p) ps<=_ from ih) ?_
  by_cases c:lD b p=true
  ·rw[List.filter_cons_of_pos c,aap,Nat.pow_succ]
   have:=abr a (h p)
   calc a*wR b p*4^ (ps.filter (lD b)).length<=a*4*4^ (ps.filter (lD b)).length:=Nat.mul_le_mul_right _ this
    _=a* (4^ (ps.filter (lD b)).length*4):=by rw[Nat.mul_assoc,Nat.mul_comm 4]
  ·rw[List.filter_cons_of_neg c]
   have e:wR b p=1:=by
    unfold lD at c
    unfold wR
    split
    ·rename_i e;rw[e] at c;simp at c
    ·rfl
   rw[e,Nat.mul_one]
   exact aag _
set_option tactic.hygienic true in
theorem vo {b:List Pl} (ok:∀q∈b,vk b.length q) (p:Int):1<=wR b p/\wR b p<=4:=by
 unfold wR
 split
 ·rename_i w to e
  have:=ok _ (aaf e)
  exact⟨this.2.1,this.2.2.1⟩
 ·exact⟨aag _,by decide⟩
theorem wV {b:List Pl} (ok:∀q∈b,vk b.length q):∀(ps:List Int) (a:Nat),a<=j9 b a ps
 | [],a=>aag _
 | p::ps,a=>aao (Nat.le_mul_of_pos_right a (vo ok p).1) (wV ok ps _)
theorem Ay {b:List Pl} {rk:Int->Nat} (D:CQ b rk) (ok:∀q∈b,vk b.length q) (l8:b.length<=8) {p:Int} (hp:Pr.In b p):j9 b 1 (Pr.c6 b p)<=4096:=by
 refine aao (wU (λp=>(vo ok p).2) _ _) ?_
 rw[Nat.one_mul]
 suffices h:((Pr.c6 b p).filter (lD b)).length<=6 by
  exact aao (abh (by decide) h) (by decide)
 have nd:(Pr.c6 b p).Nodup:=(Pr.j5 D.good hp).imp λh z=>by omega
 obtain⟨q,hq,mn⟩:=vm rk _ (Pr.iU D.good hp)
 have iq:=Pr.eG D.good hp hq
 by_cases one:∀o∈Pr.c6 b p,o=q
 ·have:=Pr.sub_len (l:=(Pr.c6 b p).filter (lD b)) (m:=[q]) (nd.filter _) λx hx=>List.mem_singleton.mpr (one x (List.mem_filter.mp hx).1)
  have:((Pr.c6 b p).filter (lD b)).length<=1:=this
  omega
 ·obtain⟨o,WH⟩:=Classical.not_forall.mp one
  obtain⟨ho,ne⟩:=Classical.not_imp.mp WH
  have ep:=Pr.qU D.good hp hq
  have wi:∀x,x∈Pr.c6 b p->∃g∈Bf.fb b x,g∈Pr.c6 b p:=λx hx=>by
   have ix:=Pr.eG D.good hp hx
   have ex:=Pr.qU D.good hp hx
   by_cases c:x=q
   ·subst c
    obtain⟨g,h1,h2⟩:=D.within ix (o:=o) (by rw[ex];exact ho) ne
    exact⟨g,h1,by rw[<-ex];exact h2⟩
   ·obtain⟨g,h1,h2⟩:=D.within ix (o:=q) (by rw[ex];exact hq) (λz=>c z.symm)
    exact⟨g,h1,by rw[<-ex];exact h2⟩
  have WI:∀x:Int,Pr.In b x->∃i:Nat,x=i/\∃pl,b[i]?=some pl/\Bf.fb b x=Lv.fI pl:=λx hx=>by
   obtain⟨i,rfl⟩:=aav hx.1
   have hi:i<b.length:=by have:=hx.2;omega
   refine⟨i,rfl,b[i],aac hi,?_⟩
   unfold Bf.fb
   rw[aah,aac hi]
  have zb:lD b q=false:=by
   obtain⟨i,rfl,pl,e,eg⟩:=WI q iq
   obtain⟨g,h1,h2⟩:=wi _ hq
   rw[eg] at h1
   unfold lD
   rw[aah,e]
   cases pl with
   | fin w=>rfl
   | cL w ws=>rfl
   | bJ w to=>
    have:=D.bJ i w to e g h1
    have:=mn g h2
    omega
  obtain⟨f,hf,mf⟩:=vm rk ((List.range b.length).map fun(i:Nat)=>(i:Int)) (by
   have:0<b.length:=by have:=hp.1;have:=hp.2;omega
   intro z
   have k:=congrArg List.length z
   rw[aab,aaz,aa9] at k
   omega)
  obtain⟨f,WJ,rfl⟩:=List.mem_map.mp hf
  have lf:=List.mem_range.mp WJ
  have inr:∀g:Int,Pr.In b g->rk (f:Int)<=rk g:=λg hg=>by
   obtain⟨j,rfl⟩:=aav hg.1
   exact mf _ (List.mem_map.mpr ⟨j,List.mem_range.mpr (by have:=hg.2;omega),rfl⟩)
  have ef:∃w,b[f]?=some (.fin w):=by
   have e:b[f]?=some b[f]:=aac lf
   have rg:=D.good.mG _ (aaf e)
   cases c:b[f] with
   | fin w=>exact⟨w,by rw[e,c]⟩
   | cL w ws=>
    rw[c] at e rg
    obtain⟨x,hx,rx⟩:=D.cL f w ws e
    have:=inr x.2 (rg _ (List.mem_map.mpr ⟨x,hx,rfl⟩))
    omega
   | bJ w to=>
    rw[c] at e rg
    have ne:=D.good.bJ _ (aaf e) w to rfl
    obtain⟨g,hg⟩:=List.exists_mem_of_ne_nil _ ne
    have:=D.bJ f w to e g hg
    have:=inr g (rg _ hg)
    omega
  obtain⟨w,ef⟩:=ef
  have nf:(f:Int)∉Pr.c6 b p:=λz=>by
   obtain⟨g,h1,_⟩:=wi _ z
   unfold Bf.fb at h1
   rw[aah,ef] at h1
   cases h1
  have:=Pr.sub_len (l:=(f:Int)::q::(Pr.c6 b p).filter (lD b)) (m:=(List.range b.length).map fun(i:Nat)=>(i:Int)) ?_ ?_
  ·rw[aap,aap,aab,aaz] at this
   omega
  ·refine List.nodup_cons.mpr ⟨λz=>?_,List.nodup_cons.mpr ⟨λz=>?_,nd.filter _⟩⟩
   ·rcases List.mem_cons.mp z with z | z
    ·exact nf (by rw[z];exact hq)
    ·exact nf (List.mem_filter.mp z).1
   ·have:=(List.mem_filter.mp z).2
    rw[zb] at this
    cases this
  ·intro x hx
   have ix:Pr.In b x:=by
    rcases List.mem_cons.mp hx with rfl | hx
    ·exact⟨by omega,by omega⟩
    ·rcases List.mem_cons.mp hx with rfl | hx
     ·exact iq
     ·exact Pr.eG D.good hp (List.mem_filter.mp hx).1
   obtain⟨j,rfl⟩:=aav ix.1
   exact List.mem_map.mpr ⟨j,List.mem_range.mpr (by have:=ix.2;omega),rfl⟩
noncomputable def uo:Pl->Option Int->Dg.Wy
 | .fin _,_=>[]
 | .cL _ ws,_=>ws
 | .bJ _ to,k=>[(1,to.getD (k.getD 0).toNat 0)]
noncomputable def GU:Pl->Option Int->Prop
 | .bJ _ to,some k=>0<=k/\k< (to.length:Int)
 | .bJ _ _,none=>False
 | _,_=>True
theorem vk.sI {n:Nat} {q:Pl} (h:vk n q):(Lv.fI q).length<=5:=by
 cases q with
 | fin g=>exact aar _
 | cL g ws=>simp only[Lv.fI,aab];exact h.2.2.1
 | bJ w to=>have:=h.2.2.1;show to.length<=5;omega
theorem DS {n:Nat} {q:Pl} {k:Option Int} (h:vk n q) (hk:GU q k):Dg.wK n (uo q k)/\∀x∈uo q k,x.2∈Lv.fI q:=by
 cases q with
 | fin g=>exact⟨⟨aar _,by simp [uo]⟩,by simp [uo]⟩
 | cL g ws=>exact⟨h.2.2,λx hx=>List.mem_map.mpr ⟨x,hx,rfl⟩⟩
 | bJ w to=>
  cases k with
  | none=>exact hk.elim
  | some k=>
   have hl:k.toNat<to.length:=by have:=hk.1;have:=hk.2;omega
   have m:to.getD k.toNat 0∈to:=by rw[aae,aac hl];exact aan hl
   have e:uo (.bJ w to) (some k)=[(1,to.getD k.toNat 0)]:=rfl
   rw[e]
   refine⟨⟨by show 1<=5;omega,λx hx=>?_⟩,λx hx=>?_⟩
   ·rw[List.mem_singleton.mp hx]
    exact⟨by show(1:Int)<=1;omega,by show(1:Int)<=200000;omega,h.2.2.2 _ m⟩
   ·rw[List.mem_singleton.mp hx]
    exact m
noncomputable def cA (b:List Pl) (ks:List (Option Int)):List Dg.Wy:=List.zipWith uo b ks
noncomputable def gB (b:List Pl):Int:=Wq.eY 1 (b.map Wq.dj)
noncomputable def gT (b:List Pl):List Int:=(b.map Wq.dj).map (Wq.sc (gB b))
structure dX (b:List Pl) (ks:List (Option Int)):Prop where
 len:ks.length=b.length
 ok:∀(i:Nat) q k,b[i]?=some q->ks[i]?=some k->GU q k
theorem dX.at {b:List Pl} {ks:List (Option Int)} (h:dX b ks) {i:Nat} (hi:i<b.length):∃q k,b[i]?=some q/\ks[i]?=some k/\GU q k/\cq (cA b ks) (i:Int)=uo q k:=by
 have e1:b[i]?=some b[i]:=aac hi
 have hk:i<ks.length:=by rw[h.len];exact hi
 have e2:ks[i]?=some ks[i]:=aac hk
 refine⟨_,_,e1,e2,h.ok i _ _ e1 e2,?_⟩
 unfold cq cA
 rw[aah,aae,abt,e1,e2]
 rfl
noncomputable def EqAt (b:List Pl) (ks:List (Option Int)) (p:Nat) (v:Int->Rat):Prop:=∀q k,b[p]?=some q->ks[p]?=some k->v (p:Int)=Dg.vl (Wq.dj q)+Dg.cS (Dg.tt (uo q k)) v (uo q k)
theorem jC {n:Nat} {q:Pl} (h:vk n q):GS (Wq.dj q):=by
 cases q with
 | fin g=>exact h
 | cL g ws=>exact h.1
 | bJ w to=>exact⟨by show Bt 40 0;exact Bt.of 1 (by decide) (by decide),by show Bt 20 1;exact Bt.of 1 (by decide) (by decide),by show(0:Int)<1;decide,by show Nm.g 0 1=1;decide⟩
noncomputable def pB (xs:List Wq.Sh):Int:=xs.foldr (λx y=>x.2*y) 1
theorem Az:∀{xs:List Wq.Sh},(∀x∈xs,GS x)->0<pB xs/\Bt (20*xs.length+1) (pB xs)/\∀x∈xs,x.2∣pB xs
 | [],_=>⟨by decide,Bt.of 1 (by decide) (by decide),by simp⟩
 | x::xs,h=>by
  obtain⟨h1,h2,h3⟩:=Az (xs:=xs) λy hy=>h y (aaj _ hy)
  have g:=h x aai
  refine⟨Int.mul_pos g.2.2.1 h1,?_,λy hy=>?_⟩
  ·have:=g.2.1.mul h2
   rw[show 20* (x::xs).length+1=20+ (20*xs.length+1) by rw[aap];omega]
   exact this
  ·rcases List.mem_cons.mp hy with rfl | hy
   ·exact Int.dvd_mul_right _ _
   ·exact Int.dvd_trans (h3 y hy) (Int.dvd_mul_left _ _)
section WE
variable {b : List Pl} {rk : Int -> Nat} (B : gP b rk)
include B
theorem gP.sI:∀q∈b,(Lv.fI q).length<=100:=λq hq=>by have:=(B.ok q hq).sI;omega
theorem gP.bd:Bd b:=⟨by have:=B.len;omega,B.sI,B.gC.good⟩
theorem gP.wW:∀x∈b.map Wq.dj,GS x:=λx hx=>by
 obtain⟨q,hq,rfl⟩:=List.mem_map.mp hx
 exact jC (B.ok q hq)
theorem gP.bot:0<gB b/\Bt 321 (gB b)/\∀q∈b,(Wq.dj q).2∣gB b:=by
 obtain⟨p1,p2,p3⟩:=Az B.wW
 obtain⟨l1,l2,l3,l4⟩:=Wq.mi (xs:=b.map Wq.dj) (c:=1) (by decide) λx hx=>(B.wW x hx).2.2.1
 have d:=l4 (Z:=pB (b.map Wq.dj)) ⟨pB (b.map Wq.dj),by omega⟩ p3
 rw[aab] at p2
 have bl:=B.len
 exact⟨l1,(p2.mono (by omega)).le (by have:=Int.le_of_dvd p1 d;have:0<gB b:=l1;unfold gB at *;omega),λq hq=>l3 _ (List.mem_map.mpr ⟨q,hq,rfl⟩)⟩
theorem gP.top (p:Nat):((gT b).getD p 0).natAbs<=2^40* (gB b).toNat:=by
 obtain⟨g0,g1,g2⟩:=B.bot
 unfold gT
 rw[aae,aad,aad]
 cases e:b[p]? with
 | none=>exact aar _
 | some q=>
  have hq:=aaf e
  obtain⟨h1,h2,h3⟩:=jC (B.ok q hq)
  show(Wq.sc (gB b) (Wq.dj q)).natAbs<=_
  have:=Nm.dO (a:=gB b) h3.1 (g2 q hq)
  unfold Wq.sc
  unfold Bt at h1
  rw[aaY]
  exact Nat.mul_le_mul (by omega) (by omega)
theorem gP.gV {p:Nat} {q:Pl} (e:b[p]?=some q):((gT b).getD p 0:Rat) / (gB b:Rat)=Dg.vl (Wq.dj q):=by
 obtain⟨g0,g1,g2⟩:=B.bot
 have hq:=aaf e
 obtain⟨h1,h2,h4⟩:=jC (B.ok q hq)
 have ee:(gT b).getD p 0=Wq.sc (gB b) (Wq.dj q):=by
  unfold gT
  rw[aae,aad,aad,e]
  rfl
 rw[ee]
 exact(Dg.tI h4.1 g0 (Wq.u5 (g2 q hq)).symm).symm
theorem gP.dn {ks:List (Option Int)} (ko:dX b ks) {p:Int} (hp:Pr.In b p):cq (cA b ks) p=[]\/∃x∈cq (cA b ks) p,rk x.2<rk p:=by
 obtain⟨i,rfl⟩:=aav hp.1
 obtain⟨q,k,e1,e2,po,ew⟩:=ko.at (i:=i) (by have:=hp.2;omega)
 rw[ew]
 cases q with
 | fin g=>exact .inl rfl
 | cL g ws=>exact .inr (B.gC.cL i g ws e1)
 | bJ w to=>
  have h:=(DS (B.ok _ (aaf e1)) po).2
  refine .inr ⟨_,List.mem_singleton.mpr rfl,B.gC.bJ i w to e1 _ (h _ (List.mem_singleton.mpr rfl))⟩
theorem gP.wk {ks:List (Option Int)} (ko:dX b ks) {p:Int} (hp:Pr.In b p):Dg.wK b.length (cq (cA b ks) p)/\∀x∈cq (cA b ks) p,x.2∈Bf.fb b p:=by
 obtain⟨i,rfl⟩:=aav hp.1
 obtain⟨q,k,e1,e2,po,ew⟩:=ko.at (i:=i) (by have:=hp.2;omega)
 rw[ew]
 have h:=DS (B.ok _ (aaf e1)) po
 refine⟨h.1,λx hx=>?_⟩
 unfold Bf.fb
 rw[aah,e1]
 exact h.2 x hx
noncomputable def wX (b:List Pl) (ps:List Int) (p:Int):Nat:=ps.idxOf (Pr.rep b p)
variable {ps : List Int} (T : Pr.Told b ps)
include T
theorem vp {i:Nat} {h p:Int} (e:ps[i]?=some h) (hp:p∈Pr.c6 b h):wX b ps p=i:=by
 have ih:=T.Ip (aaf e)
 unfold wX
 rw[Pr.qW B.gC.good ih hp,T.rp (aaf e)]
 have l:=aa1 (aaf e)
 obtain⟨hi,CS⟩:=List.getElem?_eq_some_iff.mp e
 exact(abe T.nd).mp ((aa5 l).trans CS.symm)
theorem Iy {i:Nat} {h p:Int} (e:ps[i]?=some h) (hp:Pr.In b p) (z:wX b ps p=i):p∈Pr.c6 b h:=by
 have m:=T.has B.gC.good hp
 have l:=aa1 m
 have e2:ps[wX b ps p]?=some (Pr.rep b p):=by unfold wX;rw[aac l,aa5 l]
 rw[z,e] at e2
 cases e2
 rw[Pr.qV B.gC.good hp]
 exact Pr.nW B.gC.good hp
theorem Iz {p:Int} (hp:Pr.In b p):wX b ps p<ps.length:=aa1 (T.has B.gC.good hp)
theorem CT {p g:Int} (hp:Pr.In b p) (hg:g∈Bf.fb b p):wX b ps g<=wX b ps p/\Pr.In b g:=by
 have k:=Pr.qT B.gC.good hp (Pr.hG B.gC.good hp) hg
 exact⟨T.Fo B.gC.good hp k,Pr.nU B.gC.good hp k⟩
theorem AA {i:Nat} (hi:i<=ps.length):Pr.off b ps i<=b.length:=by
 have h1:Pr.off b ps ps.length=b.length:=by
  rw[Pr.CC]
  have:=congrArg List.length (T.zT B.gC.good)
  rw[(Nm.fq _).length_eq,aab,aab,aaz] at this
  exact this
 have mono:∀k,i+k<=ps.length->Pr.off b ps i<=Pr.off b ps (i+k):=by
  intro k
  induction k with
  | zero=>intro _;exact aag _
  | succ k ih=>
   intro h
   rw[show i+ (k+1)=i+k+1 by omega,Pr.nX (aac (show i+k<ps.length by omega))]
   have:=ih (by omega)
   omega
 have:=mono (ps.length - i) (by omega)
 rw[show i+ (ps.length - i)=ps.length by omega,h1] at this
 exact this
end WE
structure FJ (b:List Pl) (ks:List (Option Int)) (ps:List Int) (i:Nat) (S:Dg.Bk):Prop where
 sz:Dg.Sz b.length (330+92*Pr.off b ps i) S
 dv:gB b∣S.2
 eq:∀p:Nat,p<b.length->wX b ps (p:Int)<i->EqAt b ks p (Dg.val S)
 zr:∀p:Int,Pr.In b p->i<=wX b ps p->S.1.getD p.toNat 0=0
theorem FJ.start {b:List Pl} {rk:Int->Nat} {ks:List (Option Int)} {ps:List Int} (B:gP b rk):FJ b ks ps 0 (List.replicate b.length 0,gB b):=by
 obtain⟨g0,g1,g2⟩:=B.bot
 have z:∀q,(List.replicate b.length (0:Int)).getD q 0=0:=λq=>by
  rw[aae,List.getElem?_replicate]
  split <;>simp
 refine⟨⟨aa8,g0,g1.mono (by omega),λq=>?_⟩,Int.dvd_refl _,λp _ h=>absurd h (aba _),λp _ _=>z _⟩
 show Bt _ ((List.replicate b.length (0:Int)).getD q 0)
 rw[z]
 exact Bt.mono (m:=1) (Bt.of 1 (by decide) (by decide)) (by omega)
theorem wY {S:Dg.Bk} (h:0<S.2) (q:Int) (hq:q.toNat<S.1.length):Dg.vl (Wq.fJ (S.1.map λt=>Wq.low t S.2) q)=Dg.val S q:=by
 unfold Wq.fJ Dg.val
 rw[aae,aad,aae,aac hq]
 exact Dg.zU h
noncomputable def vq (tp:Addr):Sp:=λvs H Q _=>∃(a:Addr) (b:List Pl) (rk:Int->Nat),vs=[.ref a]/\Rep H (pJ b) (.ref a)/\gP b rk/\H tp=some (.rQ dsc)/\
 ∀l ps as H',Pr.Told b ps->az H H'->H l=none->H' l=some (.lst (List.map V.ref as))->Al (λp v=>∃x,v=.ref x/\H' x=some (.lst ((Pr.c6 b p).map V.int))) ps (as.map V.ref)->Q (.ref l) H'
noncomputable def vt:Sp:=λvs H Q _=>∃(a x:Addr) (b:List Pl) (ps:List Int),vs=[.ref a,.ref x]/\Rep H (pJ b) (.ref a)/\H x=some (.lst (ps.map V.int))/\(∀p∈ps,Pr.In b p)/\(∀q∈b,vk b.length q)/\j9 b 1 ps<=4096/\Q (.int (j9 b 1 ps)) H
noncomputable def tT:Sp:=λvs H Q _=>∃(v:V) (q:Pl) (k:Option Int),vs=[v,gv k]/\Rep H (iS q) v/\GU q k/\∀l H',az H H'->Rep H' (pW (uo q k)) (.ref l)->Q (.ref l) H'
noncomputable def IA:Sp:=λvs H Q _=>∃(a c:Addr) (b:List Pl) (ks:List (Option Int)),vs=[.ref a,.ref c]/\Rep H (pJ b) (.ref a)/\b.length<=60/\H c=some (.lst (ks.map gv))/\dX b ks/\
 ∀l xs H',az H H'->H l=none->H' l=some (.lst xs)->aY (cE H' l) ((cA b ks).map pW) xs->Q (.ref l) H'
noncomputable def AB (C:Addr):Sp:=λvs H Q _=>∃(a:Addr) (b:List Pl) (rk:Int->Nat),vs=[.ref a]/\Rep H (pJ b) (.ref a)/\gP b rk/\∀x H',az H H'->mB C H' x (gT b,gB b)->Q (.ref x) H'
noncomputable def DT (C:Addr):Sp:=λvs H Q _=>∃(bk gn pt wl:Addr) (S:Dg.Bk) (gt:List Int) (G:Int) (ps:List Int) (n M:Nat) (xs:List V) (fK:List Dg.Wy) (lv:Int->Nat),vs=[.ref bk,.ref gn,.ref pt,.ref wl]/\mB C H bk S/\mB C H gn (gt,G)/\H pt=some (.lst (ps.map V.int))/\H wl=some (.lst xs)/\aY H (fK.map pW) xs/\
 fK.length=n/\n<=16/\ps.Nodup/\0<ps.length/\ps.length<=16/\(∀p∈ps,0<=p/\p< (n:Int))/\(∀ws∈fK,Dg.wK n ws)/\(∀p∈ps,cq fK p=[]\/∃x∈cq fK p,lv x.2<lv p)/\
 Dg.Sz n M S/\M+92*ps.length<3900/\gt.length=n/\0<G/\Bt 400 G/\G∣S.2/\(∀q,(gt.getD q 0).natAbs<=2^40*G.toNat)/\(∀p∈ps,S.1.getD p.toNat 0=0)/\
 ∀x T H',az H H'->mB C H' x T->Dg.CP ps (cq fK) gt G S T->Dg.Sz n (M+92*ps.length) T->Q (.ref x) H'
noncomputable def FK (K:PySem.W.Frag):Sp:=λvs H Q _=>∃a ns k,vs=[.ref a,.int k]/\aZ K H a (List.map V.int ns)/\0<=k/\k<1000/\∀n,Q (.int n) H
noncomputable def gc:Sp:=λvs H Q _=>∃c m,vs=[.int c,.int m]/\0<m/\∀r,0<=r->r<m->Q (.int r) H
noncomputable def iz:Sp:=λvs H Q _=>∃a b,vs=[.int a,.int b]/\0<b/\Bt 8900 b/\∀p H',az H H'->H p=none->H' p=some (.tup (Pr (Nm.st a b) (Nm.sb a b)))->Q (.ref p) H'
noncomputable def Rm (a:Wq.Sh):Prop:=Bt 4000 a.1/\Bt 4000 a.2/\0<a.2
noncomputable def kH:Sp:=λvs H Q _=>∃p q a b,vs=[.ref p,.ref q]/\H p=some (.tup (Pr a.1 a.2))/\H q=some (.tup (Pr b.1 b.2))/\Rm a/\Rm b/\
 ∀r H',az H H'->H r=none->H' r=some (.tup (Pr (Wq.tm a b).1 (Wq.tm a b).2))->Q (.ref r) H'
noncomputable def AD:Sp:=λvs H Q _=>∃c n,vs=[.int c,.int n]/\0<n/\n<=60/\∀l H' s,az H H'->H l=none->H' l=some (.lst (List.map eM s))->s.Perm (List.range n.toNat)->Q (.ref l) H'
noncomputable def KI (Z M:Int) (x:Wq.Sh):Prop:=Wq.Lw x/\x.2∣Z/\Wq.Vb M x
noncomputable def AE (s:List Nat) (k:Nat) (q:Pl):Prop:=vk s.length q/\match q with
 | .fin _=>True
 | .cL _ ws=>∃x∈ws,∃j,j<k/\s[j]?=some x.2.toNat
 | .bJ _ to=>∀g∈to,∃j,j<k/\s[j]?=some g.toNat
noncomputable def WT (H:Hp) (n:Int) (x:V):Prop:=∃q w t,x=.ref q/\H q=some (.tup [.int w,.int t])/\(1<=w/\w<=200000)/\0<=t/\t<n
theorem WT.mono {H H':Hp} {n:Int} {x:V} (s:az H H') (h:WT H n x):WT H' n x:=by
 obtain⟨q,w,t,e,hq,r⟩:=h
 exact⟨q,w,t,e,s _ _ hq,r⟩
theorem WT.put {H:Hp} {n:Int} {x:V} {p:Addr} {xs:List V} {o:HO} (hp:H p=some (.lst xs)) (h:WT H n x):WT (upd H p o) n x:=by
 obtain⟨q,w,t,e,hq,r⟩:=h
 refine⟨q,w,t,e,?_,r⟩
 rw[aG (λz=>by rw[z,hp] at hq;cases hq)]
 exact hq
theorem CU {α:Type} {H:Hp} {f:α->Dat} {P:Nat->α->Prop}:∀{xs:List V},(∀(i:Nat) x,xs[i]?=some x->∃a,Rep H (f a) x/\P i a)->∃as:List α,aY H (as.map f) xs/\as.length=xs.length/\∀(i:Nat) a,as[i]?=some a->P i a:=by
 intro xs h
 have hc:∀i:Nat,∃a:Option α,∀x,xs[i]?=some x->∃a',a=some a'/\Rep H (f a') x/\P i a':=λi=>by
  cases e:xs[i]? with
  | none=>exact⟨none,λx z=>by cases z⟩
  | some x=>
   obtain⟨a,h1,h2⟩:=h i x e
   exact⟨some a,λy z=>by cases z;exact⟨a,rfl,h1,h2⟩⟩
 have ⟨g,hg⟩:=Classical.axiomOfChoice hc
 have key:∀n,n<=xs.length->∃as:List α,as.length=n/\∀(i:Nat) a,as[i]?=some a->g i=some a:=by
  intro n
  induction n with
  | zero=>exact λ_=>⟨[],rfl,λi a e=>by simp at e⟩
  | succ n ih=>
   intro hn
   obtain⟨as,l,o⟩:=ih (by omega)
   obtain⟨a,ea,_⟩:=hg n _ (aac (show n<xs.length by omega))
   refine⟨as++ [a],by simp [l],λi b e=>?_⟩
   by_cases c:i<as.length
   ·rw[aaW c] at e
    exact o i b e
   ·rw[aaV (by omega)] at e
    have:i - as.length<1:=(List.getElem?_eq_some_iff.mp e).1
    rw[show i - as.length=0 by omega] at e
    cases e
    rw[show i=n by omega]
    exact ea
 obtain⟨as,l,o⟩:=key xs.length (aag _)
 refine⟨as,cZ l.symm λi y ey a ea=>?_,l,λi a ea=>?_⟩
 ·obtain⟨a',e1,r,_⟩:=hg i y ey
  rw[o i a ea] at e1
  cases e1
  exact r
 ·have hi:=(List.getElem?_eq_some_iff.mp ea).1
  obtain⟨a',e1,_,p⟩:=hg i _ (aac (show i<xs.length by omega))
  rw[o i a ea] at e1
  cases e1
  exact p
noncomputable def AF:Sp:=λvs H Q _=>∃c k,vs=[.int c,.int k]/\0<=k/\k<1000/\∀p H' a,az H H'->H p=none->H' p=some (.tup (Pr a.1 a.2))->GS a->Q (.ref p) H'
noncomputable def AG:Sp:=λvs H Q _=>∃c k n,vs=[.int c,.int k,.int n]/\0<k/\k<n/\∀l H' xs,az H H'->H' l=some (.lst xs)->(∀x∈xs,WT H' n x)->(∃x∈xs,WT H' k x)->0<xs.length->xs.length<=5->Q (.ref l) H'
noncomputable def DU (K:PySem.W.Frag):Sp:=λvs H Q _=>∃(a:Addr) (ns:List Int) (n:Nat),vs=[.ref a,.int 2,.int (n:Int)]/\aZ K H a (List.map V.int ns)/\0<n/\n<=8/\∀l H' (b:List Pl) rk,az H H'->H l=none->Rep H' (pJ b) (.ref l)->b.length=n->gP b rk->Q (.ref l) H'
noncomputable def eA (S:Dg.Bk):List Wq.Sh:=S.1.map λt=>Wq.low t S.2
noncomputable def wZ (K:PySem.W.Frag) (tp:Addr):Sp:=λvs H Q _=>∃(a:Addr) (ns:List Int),vs=[.ref a]/\H tp=some (.rQ dsc)/\aZ K H a (ns.map V.int)/\ns.length<=63/\∀H',Q (.bl true) H'
theorem IB {s:List Nat} {b:List Pl} (pm:s.Perm (List.range s.length)) (l0:0<s.length) (l8:s.length<=8) (lb:b.length=s.length) (ok:∀(k:Nat) p q,s[k]?=some p->b[p]?=some q->AE s k q):gP b (λg=>s.idxOf g.toNat):=by
 have at_:∀{p:Nat},p<b.length->∃k,s[k]?=some p:=λhp=>aaw (pm.mem_iff.mpr (List.mem_range.mpr (by omega)))
 have GV:∀q∈b,vk b.length q:=λq hq=>by
  obtain⟨p,ep⟩:=aaw hq
  obtain⟨k,ek⟩:=at_ (List.getElem?_eq_some_iff.mp ep).1
  rw[lb]
  exact(ok k p q ek ep).1
 have gC:CQ b (λg=>s.idxOf g.toNat):=by
  refine⟨⟨λq hq g hg=>?_,λq hq w to e=>?_⟩,λi g ws e=>?_,λi w to e g hg=>?_⟩
  ·have:=GV q hq
   cases q with
   | fin w=>simp [Lv.fI] at hg
   | cL w ws=>
    obtain⟨x,hx,rfl⟩:=List.mem_map.mp hg
    exact(this.2.2.2 x hx).2.2
   | bJ w to=>exact this.2.2.2 g hg
  ·subst e
   have:=(GV _ hq).2.1
   exact λz=>by rw[z] at this;cases this
  ·obtain⟨k,ek⟩:=at_ (List.getElem?_eq_some_iff.mp e).1
   obtain⟨x,hx,j,jk,ej⟩:=(ok k i _ ek e).2
   refine⟨x,hx,?_⟩
   show s.idxOf x.2.toNat<s.idxOf ((i:Int)).toNat
   rw[aah,Lv.qH pm ej,Lv.qH pm ek]
   exact jk
  ·obtain⟨k,ek⟩:=at_ (List.getElem?_eq_some_iff.mp e).1
   obtain⟨j,jk,ej⟩:=(ok k i _ ek e).2 g hg
   show s.idxOf g.toNat<s.idxOf ((i:Int)).toNat
   rw[aah,Lv.qH pm ej,Lv.qH pm ek]
   exact jk
 exact⟨by omega,by omega,GV,gC,λp hp=>Ay gC GV (by omega) hp⟩
theorem KI.rm {Z M:Int} {x:Wq.Sh} (h:KI Z M x) (Z0:0<Z) (bZ:Bt 1950 Z) (M0:0<=M) (bM:Bt 1950 M):Rm x:=by
 obtain⟨lx,d,v⟩:=h
 have l0:=lx.1
 have b2:Bt 1950 x.2:=bZ.le (by have:=Int.le_of_dvd Z0 d;omega)
 have b1:Bt 3900 (M*x.2):=bM.mul b2
 exact⟨Bt.mono (b1.le (by obtain⟨v1,v2⟩:=v;omega)) (by decide),b2.mono (by decide),l0⟩
theorem rj {ss:List Wq.Sh} {q:Int} (h0:0<=q) (h:q< (ss.length:Int)):ss[q.toNat]?=some (Wq.fJ ss q):=by
 unfold Wq.fJ
 rw[aae,aac (show q.toNat<ss.length by omega)]
 rfl
theorem pZ {H H':Hp} {ws:List Wq.Sh} {l:Addr} (h:Rep H (.lst (ws.map bB)) (.ref l)) (kl:∀xs,H l=some (.lst xs)->H' l=some (.lst xs)) (kt:∀x vs,H x=some (.tup vs)->H' x=some (.tup vs)):Rep H' (.lst (ws.map bB)) (.ref l):=by
 obtain⟨_,xs,e,hl,rl⟩:=aO.mp h
 cases e
 have lx:=rl.length
 rw[aab] at lx
 refine aO.mpr ⟨l,xs,rfl,kl _ hl,cZ lx.symm λi y ey a ea=>?_⟩
 obtain⟨d,ed,rd⟩:=rl.get ey
 rw[aad,ea] at ed
 cases ed
 obtain⟨p,rfl,hp⟩:=bV.mp rd
 exact bV.mpr ⟨p,rfl,kt _ _ hp⟩
theorem p9 {α:Type} [DecidableEq α]:∀{l m:List α},l.Nodup->(∀x∈l,x∈m)->l.length<=m.length
 | [],_,_,_=>aar _
 | x::l,m,nd,h=>by
  have hx:=h x aai
  have ih:=p9 (l:=l) (m:=m.erase x) (List.nodup_cons.mp nd).2 λy hy=>by
   have ne:y≠x:=λz=>(List.nodup_cons.mp nd).1 (z▸hy)
   exact(List.mem_erase_of_ne ne).mpr (h y (aaj _ hy))
  rw[List.length_erase_of_mem hx] at ih
  have:0<m.length:=List.length_pos_of_mem hx
  rw[aap]
  omega
noncomputable def KJ:Pl->Int->Bool
 | .bJ w _,who=>decide (w=who)
 | _,_=>false
noncomputable def Mw:Pl->List (Option Int)
 | .bJ _ to=>(List.range to.length).map fun(i:Nat)=>some (i:Int)
 | _=>[some 0]
noncomputable def yl:List Pl->List (List (Option Int))
 | []=>[[]]
 | q::b=>((Mw q).map λk=>(yl b).map λt=>k::t).flatten
structure vv (b:List Pl) (ks:List (Option Int)):Prop where
 pk:dX b ks
 cB:∀(i:Nat) q k,b[i]?=some q->ks[i]?=some k->(∀w to,q≠.bJ w to)->k=some 0
theorem vv.mem:∀{b:List Pl} {ks:List (Option Int)},vv b ks->ks∈yl b
 | [],ks,h=>by
  have:=h.pk.len
  cases ks with
  | nil=>exact List.mem_singleton.mpr rfl
  | cons k ks=>simp at this
 | q::b,[],h=>by have:=h.pk.len;simp at this
 | q::b,k::ks,h=>by
  have ih:=vv.mem (b:=b) (ks:=ks) ⟨⟨by have:=h.pk.len;simpa using this,λi q k e1 e2=>h.pk.ok (i+1) q k e1 e2⟩,λi q k e1 e2=>h.cB (i+1) q k e1 e2⟩
  have po:=h.pk.ok 0 q k rfl rfl
  refine List.mem_flatten.mpr ⟨_,List.mem_map.mpr ⟨k,?_,rfl⟩,List.mem_map.mpr ⟨ks,ih,rfl⟩⟩
  cases q with
  | fin g=>exact List.mem_singleton.mpr (h.cB 0 _ _ rfl rfl (by intro w to z;cases z))
  | cL g ws=>exact List.mem_singleton.mpr (h.cB 0 _ _ rfl rfl (by intro w to z;cases z))
  | bJ w to=>
   cases k with
   | none=>exact po.elim
   | some k=>
    obtain⟨k0,k1⟩:=po
    exact List.mem_map.mpr ⟨k.toNat,List.mem_range.mpr (by omega),by rw[Int.toNat_of_nonneg k0]⟩
section PO
variable {b : List Pl} {rk : Int -> Nat} (B : gP b rk) {ps : List Int} {g u : Int -> Rat}
structure rT (b:List Pl) (ps:List Int) (g u:Int->Rat) (ks:List (Option Int)) (v:Int->Rat):Prop where
 eq:∀p∈ps,v p=g p+Dg.cS (Dg.tt (cq (cA b ks) p)) v (cq (cA b ks) p)
 out:∀q,0<=q->q∉ps->v q=u q
noncomputable def kc (b:List Pl) (g:Int->Rat) (ks:List (Option Int)) (v:Int->Rat) (p:Int):Rat:=g p+Dg.cS (Dg.tt (cq (cA b ks) p)) v (cq (cA b ks) p)
include B
theorem FL {ks dt:List (Option Int)} {v v':Int->Rat} (fc:∀p∈ps,Pr.In b p) (FN:dX b dt) (h:rT b ps g u ks v) (h':rT b ps g u dt v') (le:∀p∈ps,v p<=kc b g dt v p):∀p∈ps,v p<=v' p:=by
 intro p hp
 have:=Dg.sub_zero (ps:=ps) (W:=cq (cA b dt)) (lv:=rk) (v:=λi=>v i - v' i) (λp hp=>by
  rw[Dg.jB,h'.eq p hp]
  have:=le p hp
  unfold kc at this
  grind) (λp hp x hx=>((B.wk FN (fc p hp)).1.2 x hx).1) (λp hp x hx nx=>by
  have x0:=((B.wk FN (fc p hp)).1.2 x hx).2.2.1
  rw[h.out _ x0 nx,h'.out _ x0 nx]
  grind) (λp hp=>B.dn FN (fc p hp)) p hp
 have:v p - v' p<=0:=this
 grind
theorem FO {ks dt:List (Option Int)} {v v':Int->Rat} (fc:∀p∈ps,Pr.In b p) (FN:dX b dt) (h:rT b ps g u ks v) (h':rT b ps g u dt v') (ge:∀p∈ps,kc b g dt v p<=v p):∀p∈ps,v' p<=v p:=by
 intro p hp
 have:=Dg.sub_zero (ps:=ps) (W:=cq (cA b dt)) (lv:=rk) (v:=λi=>v' i - v i) (λp hp=>by
  rw[Dg.jB,h'.eq p hp]
  have:=ge p hp
  unfold kc at this
  grind) (λp hp x hx=>((B.wk FN (fc p hp)).1.2 x hx).1) (λp hp x hx nx=>by
  have x0:=((B.wk FN (fc p hp)).1.2 x hx).2.2.1
  rw[h.out _ x0 nx,h'.out _ x0 nx]
  grind) (λp hp=>B.dn FN (fc p hp)) p hp
 have:v' p - v p<=0:=this
 grind
omit B in
theorem qa {d:Int} (d0:0<d) {v v':Int->Rat}:∀{ws:Dg.Wy},(∀x∈ws,1<=x.1/\v x.2<=v' x.2)->Dg.cS d v ws<=Dg.cS d v' ws
 | [],_=>Rat.le_refl
 | x::ws,h=>by
  have ih:=qa d0 (v:=v) (v':=v') (ws:=ws) λy hy=>h y (aaj _ hy)
  obtain⟨x1,x2⟩:=h x aai
  have c:(0:Rat)< (x.1:Rat) / (d:Rat):=by
   rw[Rat.div_def]
   exact Rat.mul_pos (Rat.intCast_pos.mpr (by omega)) (Rat.inv_pos.mpr (Rat.intCast_pos.mpr d0))
  have m:=Rat.mul_le_mul_of_nonneg_left x2 (Rat.le_of_lt c)
  show(x.1:Rat) / (d:Rat)*v x.2+Dg.cS d v ws<=(x.1:Rat) / (d:Rat)*v' x.2+Dg.cS d v' ws
  generalize (x.1:Rat) / (d:Rat)*v x.2=a at *
  generalize (x.1:Rat) / (d:Rat)*v' x.2=a' at *
  grind
theorem tU {ks:List (Option Int)} {v v':Int->Rat} {k1 k2:List (Option Int)} (fc:∀p∈ps,Pr.In b p) (ko:dX b ks) (h:rT b ps g u k1 v) (h':rT b ps g u k2 v') (le:∀p∈ps,v p<=v' p) {p:Int} (hp:p∈ps):kc b g ks v p<=kc b g ks v' p:=by
 unfold kc
 have w:=(B.wk ko (fc p hp)).1
 have:=qa (d:=Dg.tt (cq (cA b ks) p)) (by have:=w.tt;omega) (v:=v) (v':=v') (ws:=cq (cA b ks) p) λx hx=>⟨(w.2 x hx).1,by
  by_cases c:x.2∈ps
  ·exact le _ c
  ·rw[h.out _ (w.2 x hx).2.2.1 c,h'.out _ (w.2 x hx).2.2.1 c]
   exact Rat.le_refl⟩
 grind
noncomputable def d4 (b:List Pl) (ps:List Int) (who:Int) (k1 k2:List (Option Int)):Prop:=∀p:Nat,(p:Int)∈ps->∀q,b[p]?=some q->KJ q who=true->k1[p]?=k2[p]?
omit B in
theorem d4.symm {who:Int} {k1 k2:List (Option Int)} (h:d4 b ps who k1 k2):d4 b ps who k2 k1:=λp hp q e i=>(h p hp q e i).symm
omit B in
theorem d4.trans {who:Int} {k1 k2 k3:List (Option Int)} (h:d4 b ps who k1 k2) (h':d4 b ps who k2 k3):d4 b ps who k1 k3:=λp hp q e i=>(h p hp q e i).trans (h' p hp q e i)
structure tV (b:List Pl) (ps:List Int) (g u:Int->Rat) (ks:List (Option Int)) (dH:List (List (Option Int))) (fl:Option (Int->Rat)):Prop where
 ok:vv b ks
 nd:dH.Nodup
 new:ks∉dH
 all:∀h∈dH,vv b h
 floor:∀μ,fl=some μ->∀k v,dX b k->rT b ps g u k v->d4 b ps 1 k ks->(∀p∈ps,μ p<=v p)/\∃p∈ps,μ p<v p
 past:∀h∈dH,(∃μ,fl=some μ/\∃k v,dX b k/\rT b ps g u k v/\d4 b ps 1 k h/\∀p∈ps,v p<=μ p)\/(d4 b ps 1 h ks/\∃w,rT b ps g u h w/\∀v,rT b ps g u ks v->(∀p∈ps,v p<=w p)/\∃p∈ps,v p<w p)
omit B in
theorem tV.start {ks:List (Option Int)} (h:vv b ks):tV b ps g u ks [] none:=
 ⟨h,List.nodup_nil,by simp,by simp,(λμ z=>by cases z),by simp⟩
omit B in
theorem tV.left {ks:List (Option Int)} {dH:List (List (Option Int))} {fl:Option (Int->Rat)} (h:tV b ps g u ks dH fl):dH.length< (yl b).length:=by
 have:=p9 (l:=ks::dH) (m:=yl b) (List.nodup_cons.mpr ⟨h.new,h.nd⟩) λx hx=>by
  rcases List.mem_cons.mp hx with rfl | hx
  ·exact h.ok.mem
  ·exact(h.all x hx).mem
 rw[aap] at this
 omega
theorem tV.second {ks dt:List (Option Int)} {dH:List (List (Option Int))} {fl:Option (Int->Rat)} {v:Int->Rat} (fc:∀p∈ps,Pr.In b p) (h:tV b ps g u ks dH fl) (hv:rT b ps g u ks v) (xa:vv b dt) (same:d4 b ps 1 dt ks) (ge:∀p∈ps,kc b g dt v p<=v p) (st:∃p∈ps,kc b g dt v p<v p):tV b ps g u dt (ks::dH) fl:=by
 have low:∀v',rT b ps g u dt v'->(∀p∈ps,v' p<=v p)/\∃p∈ps,v' p<v p:=λv' Ew=>by
  have le:=FO B fc xa.pk hv Ew ge
  obtain⟨p,hp,lt⟩:=st
  refine⟨le,p,hp,?_⟩
  have m:=tU B fc xa.pk Ew hv le hp
  have e:=Ew.eq p hp
  unfold kc at m lt
  grind
 have ne:dt≠ks:=λz=>by
  obtain⟨p,hp,lt⟩:=st
  have e:=hv.eq p hp
  unfold kc at lt
  rw[z] at lt
  grind
 refine⟨xa,List.nodup_cons.mpr ⟨h.new,h.nd⟩,λz=>?_,λx hx=>?_,λμ e k w hk hw sm=>h.floor μ e k w hk hw (sm.trans same),λx hx=>?_⟩
 ·rcases List.mem_cons.mp z with z | z
  ·exact ne z
  ·rcases h.past dt z with ⟨μ,e,k,w,hk,hw,sm,le⟩ | ⟨sm,w,hw,al⟩
   ·obtain⟨_,p,hp,lt⟩:=h.floor μ e k w hk hw (sm.trans same)
    have:=le p hp
    grind
   ·obtain⟨_,p,hp,lt⟩:=al v hv
    have:=(low w hw).1 p hp
    grind
 ·rcases List.mem_cons.mp hx with rfl | hx
  ·exact h.ok
  ·exact h.all x hx
 ·rcases List.mem_cons.mp hx with rfl | hx
  ·exact .inr ⟨same.symm,v,hv,low⟩
  ·rcases h.past x hx with p1 | ⟨sm,w,hw,al⟩
   ·exact .inl p1
   ·refine .inr ⟨sm.trans same.symm,w,hw,λv' Ew=>?_⟩
    obtain⟨a1,p,hp,a2⟩:=al v hv
    have l:=(low v' Ew).1
    exact⟨λq hq=>Rat.le_trans (l q hq) (a1 q hq),p,hp,by have:=l p hp;grind⟩
theorem tV.first {ks dt:List (Option Int)} {dH:List (List (Option Int))} {fl:Option (Int->Rat)} {v:Int->Rat} (fc:∀p∈ps,Pr.In b p) (h:tV b ps g u ks dH fl) (hv:rT b ps g u ks v) (xa:vv b dt)
  (le:∀k,dX b k->d4 b ps 1 k dt->∀p∈ps,v p<=kc b g k v p) (st:∃p∈ps,∀k,dX b k->d4 b ps 1 k dt->v p<kc b g k v p):tV b ps g u dt (ks::dH) (some v):=by
 have GW:∀k w,dX b k->rT b ps g u k w->d4 b ps 1 k dt->(∀p∈ps,v p<=w p)/\∃p∈ps,v p<w p:=λk w hk hw sm=>by
  have l:=FL B fc hk hv hw (le k hk sm)
  obtain⟨p,hp,lt⟩:=st
  refine⟨l,p,hp,?_⟩
  have m:=tU B fc hk hv hw l hp
  have e:=hw.eq p hp
  have t:=lt k hk sm
  unfold kc at m t
  grind
 have old:∀x∈ks::dH,∃k w,dX b k/\rT b ps g u k w/\d4 b ps 1 k x/\∀p∈ps,w p<=v p:=λx hx=>by
  rcases List.mem_cons.mp hx with rfl | hx
  ·exact⟨x,v,h.ok.pk,hv,λ_ _ _ _ _=>rfl,λp _=>Rat.le_refl⟩
  ·rcases h.past x hx with ⟨μ,e,k,w,hk,hw,sm,le⟩ | ⟨sm,w,hw,al⟩
   ·obtain⟨m,_⟩:=h.floor μ e ks v h.ok.pk hv (λ_ _ _ _ _=>rfl)
    exact⟨k,w,hk,hw,sm,λp hp=>Rat.le_trans (le p hp) (m p hp)⟩
   ·exact⟨ks,v,h.ok.pk,hv,sm.symm,λp _=>Rat.le_refl⟩
 refine⟨xa,List.nodup_cons.mpr ⟨h.new,h.nd⟩,λz=>?_,λx hx=>?_,λμ e k w hk hw sm=>?_,λx hx=>?_⟩
 ·obtain⟨k,w,hk,hw,sm,l⟩:=old dt z
  obtain⟨_,p,hp,lt⟩:=GW k w hk hw sm
  have:=l p hp
  grind
 ·rcases List.mem_cons.mp hx with rfl | hx
  ·exact h.ok
  ·exact h.all x hx
 ·cases e
  exact GW k w hk hw sm
 ·obtain⟨k,w,hk,hw,sm,l⟩:=old x hx
  exact .inl ⟨v,rfl,k,w,hk,hw,sm,l⟩
end PO
noncomputable def sgn (who:Int):Int:=if who=1 then 1 else -1
theorem FP (who:Int):sgn who=1\/sgn who= -1:=by
 unfold sgn
 split
 ·exact .inl rfl
 ·exact .inr rfl
noncomputable def AH (who:Int) (to ts:List Int) (w:Nat):Prop:=∀t∈to,sgn who*ts.getD t.toNat 0<=sgn who*ts.getD (to.getD w 0).toNat 0
noncomputable def yw (who:Int):Rat:=if who=1 then 1 else -1
noncomputable def il (b:List Pl) (p:Nat) (v:Int->Rat):Prop:=∀q,b[p]?=some q->match q with
 | .fin g=>v (p:Int)=Dg.vl g
 | .cL g ws=>v (p:Int)=Dg.vl g+Dg.cS (Dg.tt ws) v ws
 | .bJ who to=>(∃t∈to,v (p:Int)=v t)/\∀t∈to,yw who*v t<=yw who*v (p:Int)
theorem vx {S:Dg.Bk} (h:0<S.2) {a b:Int}:S.1.getD a.toNat 0<S.1.getD b.toNat 0↔Dg.val S a<Dg.val S b:=by
 have h1:(0:Rat)< (S.2:Rat):=Rat.intCast_pos.mpr h
 have h2:(0:Rat)< (S.2:Rat)⁻¹:=Rat.inv_pos.mpr h1
 unfold Dg.val
 rw[<-Rat.intCast_lt_intCast,Rat.div_def,Rat.div_def]
 constructor
 ·exact λk=>Rat.mul_lt_mul_of_pos_right k h2
 ·exact λk=>Rat.lt_of_mul_lt_mul_right k (Rat.le_of_lt h2)
theorem vy {S:Dg.Bk} (h:0<S.2) {a b:Int}:S.1.getD a.toNat 0<=S.1.getD b.toNat 0↔Dg.val S a<=Dg.val S b:=by
 have:=vx h (a:=b) (b:=a)
 constructor
 ·intro k
  rcases Rat.le_total (a:=Dg.val S a) (b:=Dg.val S b) with c | c
  ·exact c
  ·by_cases e:Dg.val S a=Dg.val S b
   ·rw[e];exact Rat.le_refl
   ·have:=this.mpr (by grind)
    omega
 ·intro k
  by_cases c:S.1.getD b.toNat 0<S.1.getD a.toNat 0
  ·have:=this.mp c
   grind
  ·omega
noncomputable def yn (b:List Pl) (ks:List (Option Int)) (p:Int):Int:=((cq (cA b ks) p).headD (1,0)).2
theorem oi {b:List Pl} {ks:List (Option Int)} (ko:dX b ks) {p:Nat} {who:Int} {to:List Int} (e:b[p]?=some (.bJ who to)):∃k:Int,ks[p]?=some (some k)/\0<=k/\k< (to.length:Int)/\cq (cA b ks) (p:Int)=[(1,to.getD k.toNat 0)]/\yn b ks (p:Int)=to.getD k.toNat 0/\to.getD k.toNat 0∈to:=by
 obtain⟨q,k,e1,e2,po,ew⟩:=ko.at (List.getElem?_eq_some_iff.mp e).1
 rw[e] at e1
 cases e1
 cases k with
 | none=>exact po.elim
 | some k=>
  obtain⟨k0,k1⟩:=po
  have hl:k.toNat<to.length:=by omega
  refine⟨k,e2,k0,k1,ew,by unfold yn;rw[ew];rfl,?_⟩
  rw[aae,aac hl]
  exact aan hl
structure ir (b:List Pl) (ks:List (Option Int)) (who:Int) (ts qs:List Int) (bs:List (Int×Int)):Prop where
 mem:∀x∈bs,x.1∈qs/\∃to,b[x.1.toNat]?=some (.bJ who to)/\0<=x.2/\x.2< (to.length:Int)/\AH who to ts x.2.toNat/\ts.getD (to.getD x.2.toNat 0).toNat 0≠ts.getD (yn b ks x.1).toNat 0
 cB:∀p∈qs,p∉bs.map (·.1)->∀to,b[p.toNat]?=some (.bJ who to)->∀t∈to,sgn who*ts.getD t.toNat 0<=sgn who*ts.getD (yn b ks p).toNat 0
 sub:(bs.map (·.1)).Sublist qs
theorem ir.start {b:List Pl} {ks:List (Option Int)} {who:Int} {ts:List Int}:ir b ks who ts [] []:=⟨by simp,by simp,List.Sublist.refl _⟩
noncomputable def d9 (bs:List (Int×Int)) (ks:List (Option Int)):Nat->List (Option Int)
 | 0=>ks
 | j+1=>(d9 bs ks j).set (bs.getD j (0,0)).1.toNat (some (bs.getD j (0,0)).2)
theorem jD (bs:List (Int×Int)) (ks:List (Option Int)):∀j,(d9 bs ks j).length=ks.length
 | 0=>rfl
 | j+1=>by unfold d9;rw[aaX,jD bs ks j]
theorem gQ {bs:List (Int×Int)} {ks:List (Option Int)} {p:Nat} (h0:∀x∈bs,0<=x.1) (h:(p:Int)∉bs.map (·.1)):∀j,j<=bs.length->(d9 bs ks j)[p]?=ks[p]?
 | 0,_=>rfl
 | j+1,hj=>by
  have e:bs.getD j (0,0)=bs[j]:=by rw[aae,aac (by omega)];rfl
  have m:=aan (l:=bs) (n:=j) (by omega)
  have m0:=h0 _ m
  unfold d9
  rw[e,aaP (λz=>h (List.mem_map.mpr ⟨bs[j],m,by omega⟩)),gQ h0 h j (by omega)]
theorem rn {bs:List (Int×Int)} {ks:List (Option Int)} (h0:∀x∈bs,0<=x.1/\x.1< (ks.length:Int)) (nd:(bs.map (·.1)).Nodup) {i:Nat}:∀j,j<=bs.length->i<j->∀x,bs[i]?=some x->(d9 bs ks j)[x.1.toNat]?=some (some x.2)
 | 0,_,h,_,_=>absurd h (aba _)
 | j+1,hj,h,x,ex=>by
  have e:bs.getD j (0,0)=bs[j]:=by rw[aae,aac (by omega)];rfl
  have m:=h0 _ (aan (l:=bs) (n:=j) (by omega))
  have mx:=h0 _ (aaf ex)
  unfold d9
  rw[e]
  by_cases c:i=j
  ·subst c
   rw[aac (show i<bs.length from hj)] at ex
   obtain rfl:=aax ex
   rw[aa3 (by rw[jD];omega)]
  ·rw[aaP ?_,rn h0 nd j (by omega) (by omega) x ex]
   intro z
   have li:i<bs.length:=by omega
   have lj:j<bs.length:=by omega
   rw[aac li] at ex
   obtain rfl:=aax ex
   have l1:i< (bs.map (·.1)).length:=by rw[aab];exact li
   have l2:j< (bs.map (·.1)).length:=by rw[aab];exact lj
   have:(bs.map (·.1))[i]=(bs.map (·.1))[j]:=by rw[List.getElem_map,List.getElem_map];omega
   exact c ((abe nd).mp this)
section BS
variable {b : List Pl} {rk : Int -> Nat} (B : gP b rk) {ps : List Int} {S T : Dg.Bk} {ks : List (Option Int)}
include B
theorem FQ (ko:dX b ks) (fc:∀p∈ps,Pr.In b p) (B0:0<S.2) (dv:gB b∣S.2) (st:Dg.CP ps (cq (cA b ks)) (gT b) (gB b) S T):rT b ps (λp=>((gT b).getD p.toNat 0:Rat) / (gB b:Rat)) (Dg.val S) ks (Dg.val T):=
 ⟨λp hp=>st.eq B0 B.bot.1 dv hp (by have:=(B.wk ko (fc p hp)).1.tt;omega),λq q0 hq=>st.ne B0 q0 hq⟩
theorem hZ {v:Int->Rat} {p:Nat} {who:Int} {to:List Int} (ko:dX b ks) (e:b[p]?=some (.bJ who to)):kc b (λp=>((gT b).getD p.toNat 0:Rat) / (gB b:Rat)) ks v (p:Int)=v (yn b ks (p:Int)):=by
 obtain⟨k,_,_,_,ew,et,_⟩:=oi ko e
 unfold kc
 dsimp only
 rw[ew,et,aah,B.gV e]
 show Dg.vl (0,1)+ (((1:Int):Rat) / ((1:Int):Rat)*v (to.getD k.toNat 0)+0)=v (to.getD k.toNat 0)
 have:Dg.vl (0,1)=0:=Dg.Mr
 rw[this,Dg.Mq]
 grind
omit B in
theorem gR {v g:Int->Rat} {k1 k2:List (Option Int)} {p:Nat} (h1:dX b k1) (h2:dX b k2) (hp:p<b.length) (e:(∃who to,b[p]?=some (.bJ who to))->k1[p]?=k2[p]?):kc b g k1 v (p:Int)=kc b g k2 v (p:Int):=by
 obtain⟨q,a1,e1,e2,_,ew⟩:=h1.at hp
 obtain⟨q',a2,zu,L6,_,KL⟩:=h2.at hp
 rw[e1] at zu
 cases zu
 unfold kc
 have:uo q a1=uo q a2:=by
  cases q with
  | fin g=>rfl
  | cL g ws=>rfl
  | bJ who to=>
   have:=e ⟨who,to,e1⟩
   rw[e2,L6] at this
   cases this
   rfl
 rw[ew,KL,this]
omit B in
theorem rA {bs:List (Int×Int)} {who:Int} {ts qs:List Int} (K:vv b ks) (yo:∀p∈qs,Pr.In b p) (AI:qs.Nodup) (W:ir b ks who ts qs bs):vv b (d9 bs ks bs.length):=by
 have h0:∀x∈bs,0<=x.1/\x.1< (ks.length:Int):=λx hx=>by
  have:=yo _ (W.mem x hx).1
  rw[K.pk.len]
  exact this
 have nd:(bs.map (·.1)).Nodup:=W.sub.nodup AI
 have key:∀(i:Nat) q k,b[i]?=some q->(d9 bs ks bs.length)[i]?=some k->GU q k/\((∀w to,q≠.bJ w to)->k=some 0):=λi q k e1 e2=>by
  by_cases c:(i:Int)∈bs.map (·.1)
  ·obtain⟨x,hx,ex⟩:=List.mem_map.mp c
   obtain⟨j,ej⟩:=aaw hx
   have hj:=(List.getElem?_eq_some_iff.mp ej).1
   have:=rn h0 nd bs.length (aag _) hj x ej
   rw[ex,aah,e2] at this
   cases this
   obtain⟨_,to,eb,x0,x1,_⟩:=W.mem x hx
   rw[ex,aah,e1] at eb
   cases eb
   exact⟨⟨x0,x1⟩,λh=>absurd rfl (h who to)⟩
  ·rw[gQ (λx hx=>(h0 x hx).1) c _ (aag _)] at e2
   exact⟨K.pk.ok i q k e1 e2,K.cB i q k e1 e2⟩
 exact⟨⟨by rw[jD];exact K.pk.len,λi q k e1 e2=>(key i q k e1 e2).1⟩,λi q k e1 e2=>(key i q k e1 e2).2⟩
omit B in
theorem rB {bs:List (Int×Int)} {who:Int} {ts qs:List Int} (K:vv b ks) (yo:∀p∈qs,Pr.In b p) (AI:qs.Nodup) (W:ir b ks who ts qs bs) {p:Nat} (hp:(p:Int)∈bs.map (·.1)):∃to,b[p]?=some (.bJ who to)/\(∀t∈to,sgn who*ts.getD t.toNat 0<=sgn who*ts.getD (yn b (d9 bs ks bs.length) (p:Int)).toNat 0)/\ts.getD (yn b (d9 bs ks bs.length) (p:Int)).toNat 0≠ts.getD (yn b ks (p:Int)).toNat 0:=by
 have h0:∀x∈bs,0<=x.1/\x.1< (ks.length:Int):=λx hx=>by
  have:=yo _ (W.mem x hx).1
  rw[K.pk.len]
  exact this
 have nd:(bs.map (·.1)).Nodup:=W.sub.nodup AI
 obtain⟨x,hx,ex⟩:=List.mem_map.mp hp
 obtain⟨j,ej⟩:=aaw hx
 have e2:=rn h0 nd bs.length (aag _) (List.getElem?_eq_some_iff.mp ej).1 x ej
 obtain⟨_,to,eb,x0,x1,bw,ne⟩:=W.mem x hx
 rw[ex,aah] at eb e2
 rw[ex] at ne
 obtain⟨k,ek,_,_,_,et,_⟩:=oi (rA K yo AI W).pk eb
 rw[e2] at ek
 cases ek
 rw[et]
 exact⟨to,eb,bw,ne⟩
theorem tW {dH:List (List (Option Int))} {fl:Option (Int->Rat)} {bs:List (Int×Int)} {qs:List Int} (fc:∀p∈ps,Pr.In b p) (T0:0<T.2) (h:tV b ps (λp=>((gT b).getD p.toNat 0:Rat) / (gB b:Rat)) (Dg.val S) ks dH fl) (hv:rT b ps (λp=>((gT b).getD p.toNat 0:Rat) / (gB b:Rat)) (Dg.val S) ks (Dg.val T)) (hq:∀p∈qs,p∈ps) (AI:qs.Nodup) (W:ir b ks 2 T.1 qs bs) (ne:bs≠[]):tV b ps (λp=>((gT b).getD p.toNat 0:Rat) / (gB b:Rat)) (Dg.val S) (d9 bs ks bs.length) (ks::dH) fl:=by
 have K:=h.ok
 have yo:∀p∈qs,Pr.In b p:=λp hp=>fc p (hq p hp)
 have K':=rA K yo AI W
 have pos:∀x∈bs,0<=x.1:=λx hx=>(yo _ (W.mem x hx).1).1
 have lt:∀p:Nat,(p:Int)∈bs.map (·.1)->(p:Int)∈ps/\kc b (λp=>((gT b).getD p.toNat 0:Rat) / (gB b:Rat)) (d9 bs ks bs.length) (Dg.val T) (p:Int)<Dg.val T (p:Int):=λp hp=>by
  obtain⟨to,eb,bw,nn⟩:=rB K yo AI W hp
  obtain⟨k,_,_,_,ew,et,mt⟩:=oi K.pk eb
  have mp:(p:Int)∈ps:=hq _ (by obtain⟨x,hx,ex⟩:=List.mem_map.mp hp;rw[<-ex];exact(W.mem x hx).1)
  refine⟨mp,?_⟩
  have e:=hv.eq _ mp
  rw[show _+_=kc b (λp=>((gT b).getD p.toNat 0:Rat) / (gB b:Rat)) ks (Dg.val T) (p:Int) from rfl,hZ B K.pk eb] at e
  rw[hZ B K'.pk eb,e]
  refine(vx T0).mp ?_
  have:=bw _ mt
  rw[<-et,show sgn 2= -1 from rfl] at this
  omega
 have other:∀p:Nat,(p:Int)∈ps->(p:Int)∉bs.map (·.1)->kc b (λp=>((gT b).getD p.toNat 0:Rat) / (gB b:Rat)) (d9 bs ks bs.length) (Dg.val T) (p:Int)=Dg.val T (p:Int):=λp hp nb=>by
  have hpl:p<b.length:=by have:=(fc _ hp).2;omega
  rw[gR K'.pk K.pk hpl λ_=>gQ pos nb _ (aag _)]
  exact(hv.eq _ hp).symm
 refine h.second B fc hv K' (λp hp q e i=>?_) (λp hp=>?_) ?_
 ·refine gQ pos (λz=>?_) _ (aag _)
  obtain⟨to,eb,_⟩:=rB K yo AI W z
  rw[e] at eb
  cases eb
  cases i
 ·obtain⟨p,rfl⟩:=aav (fc p hp).1
  by_cases c:(p:Int)∈bs.map (·.1)
  ·exact Rat.le_of_lt (lt p c).2
  ·rw[other p hp c];exact Rat.le_refl
 ·obtain⟨x,hx⟩:=List.exists_mem_of_ne_nil _ ne
  obtain⟨p,ep⟩:=aav (pos x hx)
  have m:(p:Int)∈bs.map (·.1):=List.mem_map.mpr ⟨x,hx,ep⟩
  exact⟨p,(lt p m).1,(lt p m).2⟩
theorem vA {dH:List (List (Option Int))} {fl:Option (Int->Rat)} {bs:List (Int×Int)} {qs q2:List Int} (fc:∀p∈ps,Pr.In b p) (T0:0<T.2) (h:tV b ps (λp=>((gT b).getD p.toNat 0:Rat) / (gB b:Rat)) (Dg.val S) ks dH fl) (hv:rT b ps (λp=>((gT b).getD p.toNat 0:Rat) / (gB b:Rat)) (Dg.val S) ks (Dg.val T)) (hq:∀p∈qs,p∈ps) (AI:qs.Nodup) (W:ir b ks 1 T.1 qs bs) (ne:bs≠[])
  (W2:ir b ks 2 T.1 q2 []) (zb:∀p:Nat,(p:Int)∈ps->∀to,b[p]?=some (.bJ 2 to)->(p:Int)∈q2):tV b ps (λp=>((gT b).getD p.toNat 0:Rat) / (gB b:Rat)) (Dg.val S) (d9 bs ks bs.length) (ks::dH) (some (Dg.val T)):=by
 have K:=h.ok
 have yo:∀p∈qs,Pr.In b p:=λp hp=>fc p (hq p hp)
 have K':=rA K yo AI W
 have pos:∀x∈bs,0<=x.1:=λx hx=>(yo _ (W.mem x hx).1).1
 have at1:∀{k:List (Option Int)} {p:Nat} {to:List Int},dX b k->d4 b ps 1 k (d9 bs ks bs.length)->(p:Int)∈ps->b[p]?=some (.bJ 1 to)->kc b (λp=>((gT b).getD p.toNat 0:Rat) / (gB b:Rat)) k (Dg.val T) (p:Int)=kc b (λp=>((gT b).getD p.toNat 0:Rat) / (gB b:Rat)) (d9 bs ks bs.length) (Dg.val T) (p:Int):=λ{k p to} hk sm hp e=>gR hk K'.pk (List.getElem?_eq_some_iff.mp e).1 λ_=>sm p hp _ e rfl
 have lt:∀p:Nat,(p:Int)∈bs.map (·.1)->(p:Int)∈ps/\(∃to,b[p]?=some (.bJ 1 to))/\Dg.val T (p:Int)<kc b (λp=>((gT b).getD p.toNat 0:Rat) / (gB b:Rat)) (d9 bs ks bs.length) (Dg.val T) (p:Int):=λp hp=>by
  obtain⟨to,eb,bw,nn⟩:=rB K yo AI W hp
  obtain⟨k,_,_,_,ew,et,mt⟩:=oi K.pk eb
  have mp:(p:Int)∈ps:=hq _ (by obtain⟨x,hx,ex⟩:=List.mem_map.mp hp;rw[<-ex];exact(W.mem x hx).1)
  refine⟨mp,⟨to,eb⟩,?_⟩
  have e:=hv.eq _ mp
  rw[show _+_=kc b (λp=>((gT b).getD p.toNat 0:Rat) / (gB b:Rat)) ks (Dg.val T) (p:Int) from rfl,hZ B K.pk eb] at e
  rw[hZ B K'.pk eb,e]
  refine(vx T0).mp ?_
  have:=bw _ mt
  rw[<-et,show sgn 1=1 from rfl] at this
  omega
 have old:∀p:Nat,(p:Int)∈ps->kc b (λp=>((gT b).getD p.toNat 0:Rat) / (gB b:Rat)) ks (Dg.val T) (p:Int)=Dg.val T (p:Int):=λp hp=>(hv.eq _ hp).symm
 refine h.first B fc hv K' (λk hk sm p hp=>?_) ?_
 ·obtain⟨p,rfl⟩:=aav (fc p hp).1
  have hpl:p<b.length:=by have:=(fc _ hp).2;omega
  have eb:b[p]?=some b[p]:=aac hpl
  cases q:b[p] with
  | fin g=>
   rw[gR hk K.pk hpl (fun⟨w,to,z⟩=>by rw[eb,q] at z;cases z),old p hp]
   exact Rat.le_refl
  | cL g ws=>
   rw[gR hk K.pk hpl (fun⟨w,to,z⟩=>by rw[eb,q] at z;cases z),old p hp]
   exact Rat.le_refl
  | bJ who to=>
   rw[q] at eb
   have pq:=B.ok _ (aaf eb)
   rcases pq.1 with w1 | w2
   ·subst w1
    rw[at1 hk sm hp eb]
    by_cases c:(p:Int)∈bs.map (·.1)
    ·exact Rat.le_of_lt (lt p c).2.2
    ·rw[gR K'.pk K.pk hpl λ_=>gQ pos c _ (aag _),old p hp]
     exact Rat.le_refl
   ·subst w2
    obtain⟨k',_,_,_,_,et,mt⟩:=oi hk eb
    have n2:=W2.cB _ (zb p hp to eb) (by simp) to (by rw[aah];exact eb) _ mt
    rw[<-old p hp,hZ B K.pk eb,hZ B hk eb,et]
    refine(vy T0).mp ?_
    rw[show sgn 2= -1 from rfl] at n2
    omega
 ·obtain⟨x,hx⟩:=List.exists_mem_of_ne_nil _ ne
  obtain⟨p,ep⟩:=aav (pos x hx)
  have m:(p:Int)∈bs.map (·.1):=List.mem_map.mpr ⟨x,hx,ep⟩
  obtain⟨h1,⟨to,h2⟩,h3⟩:=lt p m
  exact⟨p,h1,λk hk sm=>by rw[at1 hk sm h1 h2];exact h3⟩
end BS
noncomputable def AJ:Sp:=λvs H Q _=>∃(v:V) (m:Addr) (who:Int) (to ts:List Int),vs=[v,.ref m]/\Rep H (iS (.bJ who to)) v/\H m=some (.lst (ts.map V.int))/\0<to.length/\to.length<=4/\(∀g∈to,0<=g/\g< (ts.length:Int))/\(∀t∈ts,Bt 4000 t)/\
 ∀(w:Nat) H',az H H'->w<to.length->AH who to ts w->Q (.int (w:Int)) H'
noncomputable def gA (b:List Pl) (who:Int) (ps:List Int):List Int:=ps.filter λp=>match b[p.toNat]? with | some q=>KJ q who | none=>false
theorem dP {b:List Pl} {who p:Int} {ps:List Int}:p∈gA b who ps↔p∈ps/\∃to,b[p.toNat]?=some (.bJ who to):=by
 unfold gA
 rw[List.mem_filter]
 constructor
 ·rintro⟨h1,h2⟩
  refine⟨h1,?_⟩
  cases e:b[p.toNat]? with
  | none=>rw[e] at h2;cases h2
  | some q=>
   rw[e] at h2
   cases q with
   | fin g=>cases h2
   | cL g ws=>cases h2
   | bJ w to=>exact⟨to,by rw[show w=who from of_decide_eq_true h2]⟩
 ·rintro⟨h1,to,e⟩
  refine⟨h1,?_⟩
  rw[e]
  exact decide_eq_true rfl
noncomputable def xc:Sp:=λvs H Q _=>∃(bl pt:Addr) (who:Int) (b:List Pl) (ps:List Int),vs=[.ref bl,.ref pt,.int who]/\Rep H (pJ b) (.ref bl)/\H pt=some (.lst (ps.map V.int))/\(∀p∈ps,Pr.In b p)/\ps.length<=16/\
 ∀l H',az H H'->H l=none->H' l=some (.lst ((gA b who ps).map V.int))->Q (.ref l) H'
noncomputable def AK:Sp:=λvs H Q _=>∃(bl ql wl m:Addr) (b:List Pl) (ks:List (Option Int)) (who:Int) (ts qs:List Int) (xs:List V),vs=[.ref bl,.ref ql,.ref wl,.ref m]/\Rep H (pJ b) (.ref bl)/\H ql=some (.lst (qs.map V.int))/\H wl=some (.lst xs)/\aY H ((cA b ks).map pW) xs/\H m=some (.lst (ts.map V.int))/\ts.length=b.length/\(∀t∈ts,Bt 4000 t)/\dX b ks/\(∀q∈b,vk b.length q)/\(∀p∈qs,0<=p/\∃to,b[p.toNat]?=some (.bJ who to))/\qs.length<=16/\
 ∀l bs H',az H H'->H l=none->Rep H' (.lst (bs.map bB)) (.ref l)->ir b ks who ts qs bs->Q (.ref l) H'
noncomputable def DV (C:Addr):Sp:=λvs H Q _=>∃(bk gn pt bl wl:Addr) (S:Dg.Bk) (b:List Pl) (rk:Int->Nat) (ks:List (Option Int)) (ps:List Int) (M:Nat) (xs:List V),vs=[.ref bk,.ref gn,.ref pt,.ref bl,.ref wl]/\mB C (cE H wl) bk S/\mB C (cE H wl) gn (gT b,gB b)/\cE H wl pt=some (.lst (ps.map V.int))/\Rep (cE H wl) (pJ b) (.ref bl)/\gP b rk/\H wl=some (.lst xs)/\aY (cE H wl) ((cA b ks).map pW) xs/\vv b ks/\
 ps.Nodup/\0<ps.length/\ps.length<=16/\(∀p∈ps,Pr.In b p)/\Dg.Sz b.length M S/\M+92*ps.length<3900/\gB b∣S.2/\(∀p∈ps,S.1.getD p.toNat 0=0)/\
 ∀x T dt iy H',az (cE H wl) (cE H' wl)->H' wl=some (.lst iy)->aY (cE H' wl) ((cA b dt).map pW) iy->vv b dt->Dg.CP ps (cq (cA b dt)) (gT b) (gB b) S T->Dg.Sz b.length (M+92*ps.length) T->mB C (cE H' wl) x T->
  (∀p:Nat,(p:Int)∈ps->∀who to,b[p]?=some (.bJ who to)->∀t∈to,sgn who*T.1.getD t.toNat 0<=sgn who*T.1.getD (yn b dt (p:Int)).toNat 0)->Q (.ref x) H'
noncomputable def Bq (ss:List Wq.Sh) (p:Nat):Pl->Option Int
 | .bJ _ to=>some (((to.map (Wq.fJ ss)).idxOf (Wq.fJ ss (p:Int)):Nat):Int)
 | _=>none
noncomputable def IC:Sp:=λvs H Q _=>∃(v:V) (x:Addr) (wl:Addr) (q:Pl) (n p:Nat) (ss:List Wq.Sh),vs=[v,.ref x,.ref wl]/\Rep H (iS q) v/\vk n q/\ss.length=n/\p<n/\H x=some (.tup (Pr (Wq.fJ ss (p:Int)).1 (Wq.fJ ss (p:Int)).2))/\Rep H (.lst (ss.map bB)) (.ref wl)/\(∀who to,q=.bJ who to->∃t∈to,Wq.fJ ss (p:Int)=Wq.fJ ss t)/\∀H',az H H'->Q (gv (Bq ss p q)) H'
noncomputable def tX (tp:Addr):Sp:=λvs H Q _=>∃(a:Addr) (b:List Pl) (rk:Int->Nat),vs=[.ref a]/\Rep H (pJ b) (.ref a)/\gP b rk/\H tp=some (.rQ dsc)/\
 ∀t l1 l2 (S:Dg.Bk) (ks:List (Option Int)) H',az H H'->H' t=some (.tup [.ref l1,.ref l2])->H l1=none->H l2=none->Rep H' (.lst ((eA S).map bB)) (.ref l1)->H' l2=some (.lst (ks.map gv))->Dg.Sz b.length (330+92*b.length) S->gB b∣S.2->(∀p:Nat,p<b.length->il b p (Dg.val S))->(∀p q,b[p]?=some q->ks[p]?=some (Bq (eA S) p q))->ks.length=b.length->Q (.ref t) H'
structure tY (b:List Pl) (ps:List Int) (i:Nat) (S:Dg.Bk):Prop where
 sz:Dg.Sz b.length (330+92*Pr.off b ps i) S
 dv:gB b∣S.2
 eq:∀p:Nat,p<b.length->wX b ps (p:Int)<i->il b p (Dg.val S)
 zr:∀p:Int,Pr.In b p->i<=wX b ps p->S.1.getD p.toNat 0=0
theorem tY.start {b:List Pl} {rk:Int->Nat} {ps:List Int} (B:gP b rk):tY b ps 0 (List.replicate b.length 0,gB b):=by
 have h:=FJ.start (ks:=[]) (ps:=ps) B
 exact⟨h.sz,h.dv,λp _ h=>absurd h (aba _),h.zr⟩
theorem FR {S:Dg.Bk} (h:0<S.2) {who a c:Int} (k:sgn who*S.1.getD a.toNat 0<=sgn who*S.1.getD c.toNat 0):yw who*Dg.val S a<=yw who*Dg.val S c:=by
 unfold sgn at k
 unfold yw
 by_cases e:who=1
 ·rw[if_pos e] at k ⊢
  have:=(vy h (a:=a) (b:=c)).mp (by omega)
  grind
 ·rw[if_neg e] at k ⊢
  have:=(vy h (a:=c) (b:=a)).mp (by omega)
  grind
theorem tY.step {b:List Pl} {rk:Int->Nat} {ks:List (Option Int)} {ps:List Int} {i:Nat} {S S':Dg.Bk} {h:Int} (B:gP b rk) (T:Pr.Told b ps) (ko:dX b ks) (I:tY b ps i S) (e:ps[i]?=some h)
  (st:Dg.CP (Pr.c6 b h) (cq (cA b ks)) (gT b) (gB b) S S') (sz:Dg.Sz b.length (330+92*Pr.off b ps i+92* (Pr.c6 b h).length) S')
  (best:∀p:Nat,(p:Int)∈Pr.c6 b h->∀who to,b[p]?=some (.bJ who to)->∀t∈to,sgn who*S'.1.getD t.toNat 0<=sgn who*S'.1.getD (yn b ks (p:Int)).toNat 0):tY b ps (i+1) S':=by
 obtain⟨g0,_,_⟩:=B.bot
 refine⟨?_,?_,λp hp hx=>?_,λp hp hx=>?_⟩
 ·rw[Pr.nX e,Nat.mul_add,<-Nat.add_assoc]
  exact sz
 ·obtain⟨d,_,e2,_⟩:=st
  rw[e2]
  exact Int.dvd_trans I.dv (Int.dvd_mul_right _ _)
 ·have ip:Pr.In b (p:Int):=⟨by omega,by omega⟩
  obtain⟨q,k,e1,ek,po,ew⟩:=ko.at hp
  obtain⟨w5,wg⟩:=B.wk ko ip
  intro q' zu
  rw[e1] at zu
  cases zu
  by_cases c:wX b ps (p:Int)=i
  ·have m:=Iy B T e ip c
   have v:=st.eq I.sz.pos g0 I.dv m (by have:=w5.tt;omega)
   rw[aah,B.gV e1,ew] at v
   cases q with
   | fin g=>rw[v];show Dg.vl g+0=Dg.vl g;grind
   | cL g ws=>exact v
   | bJ who to=>
    obtain⟨k',_,_,_,KL,et,mt⟩:=oi ko e1
    have v2:Dg.val S' (p:Int)=Dg.val S' (yn b ks (p:Int)):=by
     rw[ew,<-et] at KL
     rw[v,KL]
     show Dg.vl (0,1)+ (((1:Int):Rat) / ((1:Int):Rat)*Dg.val S' (yn b ks (p:Int))+0)=_
     have:Dg.vl (0,1)=0:=Dg.Mr
     rw[this,Dg.Mq]
     grind
    refine⟨⟨_,mt,by rw[<-et];exact v2⟩,λt ht=>?_⟩
    rw[v2]
    exact FR sz.pos (best p m who to e1 t ht)
  ·have old:=I.eq p hp (by omega) q e1
   have out:∀x:Int,Pr.In b x->wX b ps x<i->Dg.val S' x=Dg.val S x:=λx hx hi=>st.ne I.sz.pos hx.1 λz=>by
    have:=vp B T e z
    omega
   have FT:∀t∈Lv.fI q,Dg.val S' t=Dg.val S t:=λt ht=>by
    have hg:t∈Bf.fb b (p:Int):=by unfold Bf.fb;rw[aah,e1];exact ht
    have:=CT B T ip hg
    exact out t this.2 (by omega)
   have op:=out _ ip (by omega)
   cases q with
   | fin g=>rw[op];exact old
   | cL g ws=>
    rw[op,show Dg.val S (p:Int)=_ from old]
    congr 1
    exact Dg.nY λx hx=>(FT _ (List.mem_map.mpr ⟨x,hx,rfl⟩)).symm
   | bJ who to=>
    obtain⟨⟨t1,m1,o1⟩,o2⟩:=old
    refine⟨⟨t1,m1,by rw[op,FT t1 m1];exact o1⟩,λt ht=>?_⟩
    rw[op,FT t ht]
    exact o2 t ht
 ·obtain⟨d,_,_,_,o,_⟩:=st
  rw[o p hp.1 λz=>by have:=vp B T e z;omega,I.zr p hp (by omega),Int.zero_mul]
theorem jE {S:Dg.Bk} {n M:Nat} (Z:Dg.Sz n M S):∀x∈eA S,KI S.2 (2^M) x:=by
 intro x hx
 obtain⟨t,ht,rfl⟩:=List.mem_map.mp hx
 obtain⟨j,hj,rfl⟩:=aa2 ht
 have bt:=Z.bt j
 rw[aae,aac hj,Option.getD_some] at bt
 have S0:=Z.pos
 obtain⟨d,e⟩:=Wq.Fg (a:=S.1[j]) (s:=S.1[j]) S0 S0 rfl
 have lw:=Wq.nK (a:=S.1[j]) S0
 refine⟨lw,d,(Wq.Il lw.1 S0 d).mpr ?_⟩
 rw[e]
 unfold Bt at bt
 have p:(2:Int)^M=((2^M:Nat):Int):=by rw[Int.natCast_pow];rfl
 have m:((2^M:Nat):Int)*1<=((2^M:Nat):Int)*S.2:=Int.mul_le_mul_of_nonneg_left (by omega) (by omega)
 rw[p]
 generalize ((2:Nat)^M)=N at *
 omega
theorem ID {x y:Wq.Sh} (hx:0<x.2) (hy:0<y.2):x.1*y.2 >y.1*x.2↔Dg.vl y<Dg.vl x:=by
 have h1:(0:Rat)< (x.2:Rat):=Rat.intCast_pos.mpr hx
 have h2:(0:Rat)< (y.2:Rat):=Rat.intCast_pos.mpr hy
 have h3:=Rat.mul_pos h1 h2
 have e1:((x.1*y.2:Int):Rat)=Dg.vl x* ((x.2:Rat)* (y.2:Rat)):=by
  rw[Rat.intCast_mul]
  unfold Dg.vl
  have:=Rat.ne_of_gt h1
  have:=Rat.ne_of_gt h2
  grind
 have e2:((y.1*x.2:Int):Rat)=Dg.vl y* ((x.2:Rat)* (y.2:Rat)):=by
  rw[Rat.intCast_mul]
  unfold Dg.vl
  have:=Rat.ne_of_gt h1
  have:=Rat.ne_of_gt h2
  grind
 show y.1*x.2<x.1*y.2↔_
 rw[<-Rat.intCast_lt_intCast,e1,e2]
 constructor
 ·intro h
  exact Rat.lt_of_mul_lt_mul_right h (Rat.le_of_lt h3)
 ·intro h
  exact Rat.mul_lt_mul_of_pos_right h h3
theorem rC {S:Dg.Bk} {n M:Nat} (z:Dg.Sz n M S) {q:Int} (q0:0<=q) (q1:q< (n:Int)):(eA S)[q.toNat]?=some (Wq.fJ (eA S) q)/\KI S.2 (2^M) (Wq.fJ (eA S) q)/\Dg.vl (Wq.fJ (eA S) q)=Dg.val S q:=by
 have l:(eA S).length=n:=by unfold eA;rw[aab,z.len]
 have a:=rj (ss:=eA S) (q:=q) q0 (by omega)
 exact⟨a,jE z _ (aaf a),wY z.pos _ (by rw[z.len];omega)⟩
theorem xf {b:List Pl} {rk:Int->Nat} {v v':Int->Rat} (B:gP b rk) (h:∀p:Nat,p<b.length->il b p v) (h':∀p:Nat,p<b.length->il b p v'):∀p:Nat,p<b.length->v (p:Int)<=v' (p:Int):=by
 have ex:∀x:Int,∃ws:Dg.Wy,Pr.In b x->(∀y∈ws,1<=y.1/\Pr.In b y.2)/\(ws=[]\/∃y∈ws,rk y.2<rk x)/\v x - v' x<=Dg.cS (Dg.tt ws) (λi=>v i - v' i) ws:=λx=>by
  by_cases c:Pr.In b x
  ·obtain⟨p,rfl⟩:=aav c.1
   have hp:p<b.length:=by have:=c.2;omega
   have eb:b[p]?=some b[p]:=aac hp
   have a:=h p hp _ eb
   have a':=h' p hp _ eb
   have pq:=B.ok _ (aan hp)
   have rg:=B.gC.good.mG _ (aan hp)
   have one:∀t,v (p:Int) - v' (p:Int)<=v t - v' t->v (p:Int) - v' (p:Int)<=Dg.cS (Dg.tt [(1,t)]) (λi=>v i - v' i) [(1,t)]:=λt k=>by
    show _<=((1:Int):Rat) / ((1:Int):Rat)* (v t - v' t)+0
    rw[Dg.Mq]
    grind
   cases q:b[p] with
   | fin g=>
    rw[q] at a a'
    refine⟨[],λ_=>⟨by simp,.inl rfl,?_⟩⟩
    show _<=(0:Rat)
    rw[show v (p:Int)=_ from a,show v' (p:Int)=_ from a']
    grind
   | cL g ws=>
    rw[q] at a a' eb pq rg
    refine⟨ws,λ_=>⟨λy hy=>⟨(pq.2.2.2 y hy).1,(pq.2.2.2 y hy).2.2⟩,.inr (B.gC.cL p g ws eb),?_⟩⟩
    rw[Dg.jB,show v (p:Int)=_ from a,show v' (p:Int)=_ from a']
    grind
   | bJ who to=>
    rw[q] at a a' eb pq rg
    obtain⟨⟨t1,m1,e1⟩,u1⟩:=a
    obtain⟨⟨t2,m2,e2⟩,u2⟩:=a'
    rcases pq.1 with rfl | rfl
    ·refine⟨[(1,t1)],λ_=>⟨λy hy=>by rw[List.mem_singleton.mp hy];exact⟨Int.le_refl _,rg t1 m1⟩,.inr ⟨_,List.mem_singleton.mpr rfl,B.gC.bJ p _ to eb t1 m1⟩,one t1 ?_⟩⟩
     have:=u2 t1 m1
     unfold yw at this
     rw[if_pos rfl] at this
     grind
    ·refine⟨[(1,t2)],λ_=>⟨λy hy=>by rw[List.mem_singleton.mp hy];exact⟨Int.le_refl _,rg t2 m2⟩,.inr ⟨_,List.mem_singleton.mpr rfl,B.gC.bJ p _ to eb t2 m2⟩,one t2 ?_⟩⟩
     have:=u1 t2 m2
     unfold yw at this
     rw[if_neg (by decide)] at this
     grind
  ·exact⟨[],λz=>absurd z c⟩
 have ⟨W,hW⟩:=Classical.axiomOfChoice ex
 have ix:∀{x:Int},x∈(List.range b.length).map (fun(i:Nat)=>(i:Int))↔Pr.In b x:=λ{x}=>by
  constructor
  ·intro hx
   obtain⟨j,hj,rfl⟩:=List.mem_map.mp hx
   have:=List.mem_range.mp hj
   exact⟨by omega,by omega⟩
  ·intro hx
   obtain⟨j,rfl⟩:=aav hx.1
   exact List.mem_map.mpr ⟨j,List.mem_range.mpr (by have:=hx.2;omega),rfl⟩
 intro p hp
 have:=Dg.sub_zero (ps:=(List.range b.length).map (fun(i:Nat)=>(i:Int))) (W:=W) (lv:=rk) (v:=λi=>v i - v' i) (λx hx=>(hW x (ix.mp hx)).2.2) (λx hx y hy=>((hW x (ix.mp hx)).1 y hy).1) (λx hx y hy ny=>absurd (ix.mpr ((hW x (ix.mp hx)).1 y hy).2) ny) (λx hx=>(hW x (ix.mp hx)).2.1) (p:Int) (ix.mpr ⟨by omega,by omega⟩)
 have:v (p:Int) - v' (p:Int)<=0:=this
 grind
noncomputable def vB:Sp:=λvs H Q _=>∃a b,vs=[.ref a]/\Rep H (pJ b) (.ref a)/\b.length<=16/\∀l xs H',az H H'->H l=none->H' l=some (.lst xs)->aY (cE H' l) (b.map iS) xs->Q (.ref l) H'
inductive Mx:Pl->Pl->Prop
 | fin {g g':Wq.Sh} (h:Dg.vl g<=Dg.vl g'):Mx (.fin g) (.fin g')
 | cL {g g':Wq.Sh} {ws:List (Int×Int)} (h:Dg.vl g<=Dg.vl g'):Mx (.cL g ws) (.cL g' ws)
 | bJ {who:Int} {to:List Int}:Mx (.bJ who to) (.bJ who to)
theorem oj {d:Int} {v:Int->Rat} {c:Rat}:∀ws:Dg.Wy,Dg.cS d (λi=>v i*c) ws=Dg.cS d v ws*c
 | []=>by show(0:Rat)=0*c;grind
 | x::ws=>by
  have ih:=oj (d:=d) (v:=v) (c:=c) ws
  show(x.1:Rat) / (d:Rat)* (v x.2*c)+Dg.cS d (λi=>v i*c) ws=((x.1:Rat) / (d:Rat)*v x.2+Dg.cS d v ws)*c
  rw[ih]
  grind
noncomputable def uq (c:Wq.Sh):Pl->Pl
 | .fin g=>.fin (Wq.tm g c)
 | .cL g ws=>.cL (Wq.tm g c) ws
 | .bJ who to=>.bJ who to
noncomputable def rE:Pl->Pl
 | .fin g=>.fin (Wq.tm g (-1,1))
 | .cL g ws=>.cL (Wq.tm g (-1,1)) ws
 | .bJ who to=>.bJ (3 - who) to
theorem rF:Dg.vl (-1,1)= -1:=by
 show((-1:Int):Rat) / ((1:Int):Rat)= -1
 have a:((-1:Int):Rat)= -1:=rfl
 have b:((1:Int):Rat)=1:=rfl
 rw[a,b]
 grind
theorem AL {b:List Pl} {p:Nat} {v:Int->Rat} {c:Wq.Sh} (c0:0<c.2) (cn:0<=Dg.vl c) (gp:∀q,b[p]?=some q->0< (Wq.dj q).2) (h:il b p v):il (b.map (uq c)) p (λi=>v i*Dg.vl c):=by
 intro q' e'
 rw[aad] at e'
 obtain⟨q,e,rfl⟩:=Option.map_eq_some_iff.mp e'
 have a:=h q e
 have g0:=gp q e
 cases q with
 | fin g=>
  show v (p:Int)*Dg.vl c=Dg.vl (Wq.tm g c)
  rw[Dg.kG (show 0<g.2 from g0) c0,show v (p:Int)=_ from a]
 | cL g ws=>
  show v (p:Int)*Dg.vl c=Dg.vl (Wq.tm g c)+Dg.cS (Dg.tt ws) (λi=>v i*Dg.vl c) ws
  rw[Dg.kG (show 0<g.2 from g0) c0,oj,show v (p:Int)=_ from a]
  grind
 | bJ who to=>
  obtain⟨⟨t,m,et⟩,u⟩:=a
  refine⟨⟨t,m,by show v (p:Int)*_=v t*_;rw[et]⟩,λt' m'=>?_⟩
  have k:=Rat.mul_le_mul_of_nonneg_right (u t' m') cn
  show yw who* (v t'*Dg.vl c)<=yw who* (v (p:Int)*Dg.vl c)
  grind
theorem FU {b:List Pl} {p:Nat} {v:Int->Rat} (ok:∀who to,b[p]?=some (.bJ who to)->who=1\/who=2) (gp:∀q,b[p]?=some q->0< (Wq.dj q).2) (h:il b p v):il (b.map rE) p (λi=>v i*-1):=by
 intro q' e'
 rw[aad] at e'
 obtain⟨q,e,rfl⟩:=Option.map_eq_some_iff.mp e'
 have a:=h q e
 have g0:=gp q e
 cases q with
 | fin g=>
  show v (p:Int)*-1=Dg.vl (Wq.tm g (-1,1))
  rw[Dg.kG (show 0<g.2 from g0) (by decide),rF,show v (p:Int)=_ from a]
 | cL g ws=>
  show v (p:Int)*-1=Dg.vl (Wq.tm g (-1,1))+Dg.cS (Dg.tt ws) (λi=>v i*-1) ws
  rw[Dg.kG (show 0<g.2 from g0) (by decide),rF,oj,show v (p:Int)=_ from a]
  grind
 | bJ who to=>
  obtain⟨⟨t,m,et⟩,u⟩:=a
  refine⟨⟨t,m,by show v (p:Int)*_=v t*_;rw[et]⟩,λt' m'=>?_⟩
  have k:=u t' m'
  show yw (3 - who)* (v t'*-1)<=yw (3 - who)* (v (p:Int)*-1)
  unfold yw at k ⊢
  rcases ok who to e with rfl | rfl
  ·rw[if_pos rfl] at k
   rw[if_neg (by decide)]
   grind
  ·rw[if_neg (by decide)] at k
   rw[if_pos (by decide)]
   grind
theorem idx_map {f:Wq.Sh->Wq.Sh} {l:List Wq.Sh} {x:Wq.Sh} (inj:∀a∈l,f a=f x->a=x):(l.map f).idxOf (f x)=l.idxOf x:=by
 induction l with
 | nil=>rfl
 | cons y l ih=>
  have i:=ih λa ha=>inj a (aaj _ ha)
  rw[aas,List.idxOf_cons,List.idxOf_cons,i]
  by_cases c:y=x
  ·rw[c];simp
  ·have c':f y≠f x:=λz=>c (inj y aai z)
   rw[show(f y==f x)=false by simpa using c',show(y==x)=false by simpa using c]
inductive oq:Pl->Pl->Prop
 | fin {g g':Wq.Sh}:oq (.fin g) (.fin g')
 | cL {g g':Wq.Sh} {ws:List (Int×Int)}:oq (.cL g ws) (.cL g' ws)
 | bJ {who CV:Int} {to:List Int}:oq (.bJ who to) (.bJ CV to)
theorem rG {b b':List Pl} {rk:Int->Nat} (B:gP b rk) (l8:b.length<=8) (len:b'.length=b.length) (sm:∀(p:Nat) q',b'[p]?=some q'->∃q,b[p]?=some q/\oq q q') (xa:∀q'∈b',vk b'.length q'):gP b' rk:=by
 have gC:CQ b' rk:=by
  refine⟨⟨λq' hq x hx=>?_,λq' hq w to e=>?_⟩,λi g ws e=>?_,λi w to e x hx=>?_⟩
  ·obtain⟨i,ei⟩:=aaw hq
   obtain⟨q,eq,s⟩:=sm i q' ei
   have:=B.gC.good.mG q (aaf eq)
   rw[len]
   cases s with
   | fin=>simp [Lv.fI] at hx
   | cL=>exact this x hx
   | bJ=>exact this x hx
  ·obtain⟨i,ei⟩:=aaw hq
   obtain⟨q,eq,s⟩:=sm i q' ei
   subst e
   cases s
   exact B.gC.good.bJ _ (aaf eq) _ to rfl
  ·obtain⟨q,eq,s⟩:=sm i _ e
   cases s
   exact B.gC.cL i _ ws eq
  ·obtain⟨q,eq,s⟩:=sm i _ e
   cases s
   exact B.gC.bJ i _ to eq x hx
 exact⟨by rw[len];exact B.pos,by rw[len];exact B.len,xa,gC,λp hp=>Ay gC xa (by omega) hp⟩
noncomputable def IE (g:Wq.Sh):Prop:= -50<=g.1/\g.1<=50/\g.2<=20/\Wq.Lw g
noncomputable def DW:Pl->Prop
 | .fin g=>IE g
 | .cL g _=>IE g
 | .bJ _ _=>True
theorem ia {a b:Int} (b0:0<b):(Wq.low a b).1.natAbs<=a.natAbs/\(Wq.low a b).2<=b/\Wq.Lw (Wq.low a b):=by
 have g0:0<Nm.g a b:=Nm.jl (by omega)
 have q1:=Nm.dO (a:=a) g0 (Nm.jm a b)
 have q2:=Nm.dO (a:=b) g0 (Nm.eN a b)
 have e1:(Wq.low a b).1=a / Nm.g a b:=(Nm.qz b0).1
 have e2:(Wq.low a b).2=b / Nm.g a b:=(Nm.qz b0).2
 have lw:=Wq.nK (a:=a) b0
 exact⟨by omega,by have:=lw.1;omega,lw⟩
theorem xg {g c:Wq.Sh} (hg:IE g) (c1:c.1.natAbs<=1000) (c2:c.2<=50) (c0:0<c.2):GS (Wq.tm g c):=by
 obtain⟨g1,g2,g3,lw⟩:=hg
 have b0:0<g.2*c.2:=Int.mul_pos lw.1 c0
 obtain⟨a1,a2,a3⟩:=ia (a:=g.1*c.1) b0
 have m1:(g.1*c.1).natAbs<=50*1000:=by rw[aaY];exact Nat.mul_le_mul (by omega) c1
 have m2:g.2*c.2<=20*50:=Int.mul_le_mul g3 c2 (by omega) (by decide)
 have a0:=a3.1
 exact⟨Bt.of 50000 (by have:(Wq.tm g c).1.natAbs<=50000:=aao a1 m1;omega) (by have:(Wq.tm g c).1.natAbs<=50000:=aao a1 m1;omega),Bt.of 1000 (by show -(1000:Int)<=(Wq.low (g.1*c.1) (g.2*c.2)).2;omega) (by show(Wq.low (g.1*c.1) (g.2*c.2)).2<=(1000:Int);omega),a3⟩
theorem AM {g:Wq.Sh} (h:IE g):GS g:=by
 obtain⟨g1,g2,g3,lw⟩:=h
 have:=lw.1
 exact⟨Bt.of 50 (by omega) (by omega),Bt.of 20 (by omega) (by omega),lw⟩
theorem IF {b:List Pl} {rk:Int->Nat} {c:Wq.Sh} (B:gP b rk) (l8:b.length<=8) (sm:∀q∈b,DW q) (c1:c.1.natAbs<=1000) (c2:c.2<=50) (c0:0<c.2):gP (b.map (uq c)) rk:=by
 have len:(b.map (uq c)).length=b.length:=aab ..
 refine rG B l8 len (λp q' e=>?_) λq' hq=>?_
 ·rw[aad] at e
  obtain⟨q,eq,rfl⟩:=Option.map_eq_some_iff.mp e
  refine⟨q,eq,?_⟩
  cases q with
  | fin g=>exact .fin
  | cL g ws=>exact .cL
  | bJ w to=>exact .bJ
 ·obtain⟨q,mq,rfl⟩:=List.mem_map.mp hq
  rw[len]
  have pq:=B.ok q mq
  have sq:=sm q mq
  cases q with
  | fin g=>exact xg sq c1 c2 c0
  | cL g ws=>exact⟨xg sq c1 c2 c0,pq.2⟩
  | bJ w to=>exact pq
theorem IG {b:List Pl} {rk:Int->Nat} (B:gP b rk) (l8:b.length<=8) (sm:∀q∈b,DW q):gP (b.map rE) rk:=by
 have len:(b.map rE).length=b.length:=aab ..
 refine rG B l8 len (λp q' e=>?_) λq' hq=>?_
 ·rw[aad] at e
  obtain⟨q,eq,rfl⟩:=Option.map_eq_some_iff.mp e
  refine⟨q,eq,?_⟩
  cases q with
  | fin g=>exact .fin
  | cL g ws=>exact .cL
  | bJ w to=>exact .bJ
 ·obtain⟨q,mq,rfl⟩:=List.mem_map.mp hq
  rw[len]
  have pq:=B.ok q mq
  have sq:=sm q mq
  cases q with
  | fin g=>exact xg sq (by decide) (by decide) (by decide)
  | cL g ws=>exact⟨xg sq (by decide) (by decide) (by decide),pq.2⟩
  | bJ w to=>exact⟨by rcases pq.1 with h | h <;>omega,pq.2⟩
noncomputable def AN:Sp:=λvs H Q _=>∃(a:Addr) (b:List Pl) (rk:Int->Nat),vs=[.ref a]/\Rep H (pJ b) (.ref a)/\gP b rk/\b.length<=8/\∀l b' H',az H H'->H l=none->Rep H' (pJ b') (.ref l)->b'.length=b.length->gP b' rk->(∀q∈b',DW q)->Q (.ref l) H'
noncomputable def xi:Sp:=λvs H Q _=>∃(a r:Addr) (b:List Pl) (c:Wq.Sh) (x:Bool),vs=[.ref a,.ref r,.bl x]/\Rep H (pJ b) (.ref a)/\b.length<=8/\H r=some (.tup (Pr c.1 c.2))/\(∀q∈b,vk b.length q/\DW q)/\Rm c/\(x=true->c=(-1,1))/\∀l H',az H H'->H l=none->Rep H' (pJ (b.map (if x=true then rE else uq c))) (.ref l)->Q (.ref l) H'
theorem AO {S S':Dg.Bk} {M M' n:Nat} {f:Wq.Sh->Wq.Sh} (z:Dg.Sz n M S) (z':Dg.Sz n M' S') (lw:∀x,Wq.Lw x->Wq.Lw (f x)) (e:∀p:Nat,p<n->Dg.vl (f (Wq.fJ (eA S) (p:Int)))=Dg.val S' (p:Int)):eA S'=(eA S).map f:=by
 have l:(eA S).length=n:=by unfold eA;rw[aab,z.len]
 have l':(eA S').length=n:=by unfold eA;rw[aab,z'.len]
 apply aaS
 intro i
 rw[aad]
 by_cases hi:i<n
 ·obtain⟨a1,a2,a3⟩:=rC z (q:=(i:Int)) (by omega) (by omega)
  obtain⟨b1,b2,b3⟩:=rC z' (q:=(i:Int)) (by omega) (by omega)
  rw[aah] at a1 b1
  rw[a1,b1]
  show some _=some _
  congr 1
  exact Dg.vg b2.1 (lw _ a2.1) (by rw[b3,e i hi])
 ·rw[aaq (by omega),aaq (by omega)]
  rfl
theorem DX {x c:Wq.Sh} (c0:0<c.2) (h:Wq.Lw x):Wq.Lw (Wq.tm x c):=Wq.nK (Int.mul_pos h.1 c0)
theorem AQ {b:List Pl} {rk:Int->Nat} {c:Wq.Sh} {S S':Dg.Bk} {M M':Nat} (B:gP b rk) (B':gP (b.map (uq c)) rk) (c0:0<c.2) (cn:0<=Dg.vl c) (z:Dg.Sz b.length M S) (z':Dg.Sz (b.map (uq c)).length M' S') (h:∀p:Nat,p<b.length->il b p (Dg.val S)) (h':∀p:Nat,p< (b.map (uq c)).length->il (b.map (uq c)) p (Dg.val S')):eA S'=(eA S).map λw=>Wq.tm w c:=by
 have len:(b.map (uq c)).length=b.length:=aab ..
 have hs:∀p:Nat,p< (b.map (uq c)).length->il (b.map (uq c)) p (λi=>Dg.val S i*Dg.vl c):=λp hp=>AL c0 cn (λq e=>(jC (B.ok _ (aaf e))).2.2.1) (h p (by omega))
 have My:=xf B' hs h'
 have Mz:=xf B' h' hs
 rw[len] at z'
 refine AO z z' (λx hx=>DX c0 hx) λp hp=>?_
 obtain⟨_,a2,a3⟩:=rC z (q:=(p:Int)) (by omega) (by omega)
 rw[Dg.kG a2.1.1 c0,a3]
 have:=My p (by omega)
 have:=Mz p (by omega)
 grind
theorem FV {b:List Pl} {rk:Int->Nat} {S S':Dg.Bk} {M M':Nat} (B:gP b rk) (B':gP (b.map rE) rk) (z:Dg.Sz b.length M S) (z':Dg.Sz (b.map rE).length M' S') (h:∀p:Nat,p<b.length->il b p (Dg.val S)) (h':∀p:Nat,p< (b.map rE).length->il (b.map rE) p (Dg.val S')):eA S'=(eA S).map λw=>Wq.tm w (-1,1):=by
 have len:(b.map rE).length=b.length:=aab ..
 have hs:∀p:Nat,p< (b.map rE).length->il (b.map rE) p (λi=>Dg.val S i*-1):=λp hp=>FU (λwho to e=>(B.ok _ (aaf e)).1) (λq e=>(jC (B.ok _ (aaf e))).2.2.1) (h p (by omega))
 have My:=xf B' hs h'
 have Mz:=xf B' h' hs
 rw[len] at z'
 refine AO z z' (λx hx=>DX (by decide) hx) λp hp=>?_
 obtain⟨_,a2,a3⟩:=rC z (q:=(p:Int)) (by omega) (by omega)
 rw[Dg.kG a2.1.1 (by decide),a3,rF]
 have:=My p (by omega)
 have:=Mz p (by omega)
 grind
theorem xk {f:Wq.Sh->Wq.Sh} {ss:List Wq.Sh} {t:Int} (t0:0<=t) (t1:t< (ss.length:Int)):Wq.fJ (ss.map f) t=f (Wq.fJ ss t):=by
 have a:=rj (ss:=ss) (q:=t) t0 (by omega)
 have b:=rj (ss:=ss.map f) (q:=t) t0 (by rw[aab];omega)
 rw[aad,a] at b
 exact(aax b).symm
theorem CW {f:Wq.Sh->Wq.Sh} {ss:List Wq.Sh} {p:Nat} {who CV:Int} {to:List Int} (inj:∀x∈ss,∀y∈ss,f x=f y->x=y) (hp:p<ss.length) (g:∀t∈to,0<=t/\t< (ss.length:Int)):Bq (ss.map f) p (.bJ CV to)=Bq ss p (.bJ who to):=by
 have mem:∀t:Int,0<=t->t< (ss.length:Int)->Wq.fJ ss t∈ss:=λt t0 t1=>aaf (rj t0 (by omega))
 show some ((((to.map (Wq.fJ (ss.map f))).idxOf (Wq.fJ (ss.map f) (p:Int)):Nat):Int))=some (((to.map (Wq.fJ ss)).idxOf (Wq.fJ ss (p:Int)):Nat):Int)
 have e:to.map (Wq.fJ (ss.map f))=(to.map (Wq.fJ ss)).map f:=by
  rw[aaM]
  exact abp λt ht=>xk (g t ht).1 (g t ht).2
 rw[e,xk (by omega) (by omega),idx_map λa ha e=>?_]
 obtain⟨t,ht,rfl⟩:=List.mem_map.mp ha
 exact inj _ (mem t (g t ht).1 (g t ht).2) _ (mem (p:Int) (by omega) (by omega)) e
theorem FW {x y c:Wq.Sh} (hx:Wq.Lw x) (hy:Wq.Lw y) (c0:0<c.2) (cn:Dg.vl c≠0) (e:Wq.tm x c=Wq.tm y c):x=y:=by
 refine Dg.vg hx hy ?_
 have h:Dg.vl (Wq.tm x c)=Dg.vl (Wq.tm y c):=by rw[e]
 rw[Dg.kG hx.1 c0,Dg.kG hy.1 c0] at h
 grind
theorem CY {b:List Pl} {rk:Int->Nat} {S S':Dg.Bk} {M:Nat} {ks dt:List (Option Int)} (B:gP b rk) (z:Dg.Sz b.length M S) (e:eA S'=(eA S).map λw=>Wq.tm w (-1,1)) (hk:∀p q,b[p]?=some q->ks[p]?=some (Bq (eA S) p q)) (Br:∀p q,(b.map rE)[p]?=some q->dt[p]?=some (Bq (eA S') p q)) (lk:ks.length=b.length) (KN:dt.length=(b.map rE).length):dt=ks:=by
 have l:(eA S).length=b.length:=by unfold eA;rw[aab,z.len]
 rw[aab] at KN
 apply aaS
 intro i
 by_cases hi:i<b.length
 ·have eb:b[i]?=some b[i]:=aac hi
  have pq:=B.ok _ (aan hi)
  rw[hk i _ eb,Br i (rE b[i]) (by rw[aad,eb];rfl)]
  cases c:b[i] with
  | fin g=>rfl
  | cL g ws=>rfl
  | bJ who to=>
   rw[c] at pq
   rw[e]
   show some (Bq _ i (.bJ (3 - who) to))=_
   rw[CW (who:=who) (λx hx y hy e=>FW (jE z x hx).1 (jE z y hy).1 (by decide) (by rw[rF];grind) e) (by omega) λt ht=>by rw[l];exact pq.2.2.2 t ht]
 ·rw[aaq (by omega),aaq (by omega)]
theorem IH {x:Wq.Sh} (a:0<=x.1) (b:0<x.2):0<=Dg.vl x:=by
 have h:=ID (x:=(0,1)) (y:=x) (by decide) b
 rw[show Dg.vl (0,1)=0 from Dg.Mr] at h
 refine Rat.not_lt.mp λz=>?_
 have:=h.mpr z
 simp at this
 omega
section
variable {P : Program} {w : World} {K : PySem.W.Frag} {mg : Str -> Option Value} {base : Heap}
variable {aA tc tp : Addr}
theorem AR {H:Hp} {ws:List (Int×Int)} {xs:List V} (rl:aY H (ws.map bB) xs) {i:Nat} {x:V} (ex:xs[i]?=some x):∃p t,ws[i]?=some p/\x=.ref t/\H t=some (.tup [.int p.1,.int p.2]):=by
 obtain⟨d,ed,rd⟩:=rl.get ex
 rw[aad] at ed
 obtain⟨p,ep,rfl⟩:=Option.map_eq_some_iff.mp ed
 obtain⟨t,rfl,ht⟩:=bV.mp rd
 exact⟨p,t,ep,rfl,ht⟩
theorem tZ:aN ["place"] ["place"] (ae (top 1)):=⟨rfl,rfl,rfl,by decide +kernel,rfl,by decide +kernel,by decide +kernel⟩
theorem AS (T:Txt K mg aA tc):bX P w K mg base (bQ P w) 1 "goals" ["place"] tG:=by
 refine T.Cr.eD (λ_ _ _ _ _ _=>ik λ_=>rfl) λf fd F=>F.eL tZ (λvs H Q E h=>?_) (λcK A outer s H vs Q E hr h=>?_)
 ·obtain⟨_,_,rfl,_⟩:=h;rfl
 ·refine(?_:let G_:Prop:=_;G_)
  intro G_
  obtain⟨v,q,rfl,rq,lq,kk⟩:=h
  dsimp only[G_]
  have nd:=tZ.nd
  refine⟨_,(ag (bW (aQ cV (aI aK (pv 0) ao (λ_ _=>rfl)) cJ (aV _)) (ax (aT (bT rfl (N:=["place"]) (so:=ae (top 1)) (N':=["weight","to"]) (k:=2) (fr:=[]) rfl rfl ⟨rfl,by decide +kernel,by decide +kernel,by decide +kernel,rfl,by decide +kernel,by decide +kernel⟩ (bj (K:=K) (aI aK (pv 0) ao (λ_ _=>rfl))) (λ_ _ _ _ _=>(b9 (K:=K) (n:=2) rfl (aS (aE (i:=0) (show(["weight","to"]:List Str).Nodup by decide +kernel) rfl (Or.inl rfl)) (aS (aE (i:=1) (show(["weight","to"]:List Str).Nodup by decide +kernel) rfl (Or.inl rfl)) b8)))) (λ_ _ _ _ _=>bI)
   (λ_ _ _ _ _=>(pv 1)))))
   bC)
  (ag (bW (aQ cV (aI aK (pv 0) ao (λ_ _=>rfl)) cJ (aV _)) (ax (aT (dE (cP (K:=K)) (by rfl) T.z_list rfl (aa (aI aK (pv 0) ao (λ_ _=>rfl)) af (se rfl)) (he:=se rfl) (hpl:=na rfl))))
   bC)
  (ax (aT (cQ af))))),?_⟩
  refine(?_:let cu:TS:=_;let cv:TS:=_;let cw:TS:=_;tSeq cu (tSeq cv cw) _ _ _)
  intro cu cv cw
  cases q with
  | fin w=>
   refine(?_:let G_:Prop:=_;G_)
   intro G_
   obtain⟨p,r,rfl,hp,_⟩:=cM.mp rq
   dsimp only[G_]
   simp_all only[hp]
   rw[if_neg (by decide +kernel),if_neg (by decide +kernel)]
   exact⟨aar _,λl nl=>kk _ _ (au nl) nl ar⟩
  | cL w ws=>
   refine(?_:let G_:Prop:=_;G_)
   intro G_
   obtain⟨p,r,l,xs,rfl,hp,_,hl,rl⟩:=cm.mp rq
   dsimp only[G_]
   simp_all only[hp]
   refine⟨⟨_,aZ.of hl⟩,?_⟩
   have lx:=rl.length
   rw[aab] at lx
   have S:Src (vN K l) (az H) ws.length (λi x H H3=>H3=H/\xs[i]?=some x):=by rw[lx];exact src_list (λH' s'=>aZ.of (s' _ _ hl))
   refine iR ws (λp=>some p.2) S (λ_ _ _ _ h=>h.1) (by rw[sizeLine_eq];have:ws.length<=100:=(by simpa [Lv.fI] using lq);omega) ?_ ?_
   ·rintro i p x ep ⟨_,ex⟩
    refine(?_:let G_:Prop:=_;G_)
    intro G_
    obtain⟨p',t,BA,rfl,ht⟩:=AR rl ex
    dsimp only[G_]
    rw[ep] at BA
    cases BA
    refine⟨t,_,_,rfl,d6.of ht,λY N y1 _=>?_⟩
    simp_all only[gK]
    exact y1 _ rfl
   ·intro D n1 n2
    rw[d8]
    exact kk _ _ (au n2) n2 ar
  | bJ w to=>
   refine(?_:let G_:Prop:=_;G_)
   intro G_
   obtain⟨p,l,rfl,hp,hl⟩:=cC.mp rq
   dsimp only[G_]
   simp_all only[hp]
   rw[if_neg (by decide +kernel)]
   exact⟨_,.inl (aZ.of hl),λm nm=>kk _ _ (au nm) nm ar⟩
theorem CZ {fs:Lv.Fs} {q:Pl}:Lv.DK fs q=match q with | .cL _ _=>(Lv.fI q).any (λg=>(Lv.lk fs g).isSome) | _=>(Lv.fI q).all λg=>(Lv.lk fs g).isSome:=by
 cases q <;>rfl
theorem kI:aN ["place","found","levelled"] ["place","found"] (ae (top 2)):=⟨rfl,rfl,rfl,by decide +kernel,rfl,by decide +kernel,by decide +kernel⟩
theorem FX (T:Txt K mg aA tc):bX P w K mg base (bQ P w) 2 "is_ready" ["place","found"] zM:=by
 have rH:bX P w K mg base (bQ P w) 1 "goals" ["place"] tG:=AS T
 refine T.u6.eD (λ_ _ _ _ _ _=>eZ λ_ _=>rfl) λf fd F=>F.eL kI (λvs H Q E h=>?_) (λcK A outer s H vs Q E hr h=>?_)
 ·obtain⟨_,_,_,_,rfl,_⟩:=h;rfl
 ·refine(?_:let G_:Prop:=_;G_)
  intro G_
  obtain⟨v,q,ff,fs,rfl,rq,hf,lq,gq,kk⟩:=h
  dsimp only[G_]
  have nd:=kI.nd
  refine⟨_,(ag (fR (i:=2) rfl nd rfl rfl (N:=["place","found","levelled"]) (so:=ae (top 2)) (N':=["to","found"]) (k:=1) (fr:=[1]) rfl rfl ⟨rfl,by decide +kernel,by decide +kernel,by decide +kernel,rfl,by decide +kernel,by decide +kernel⟩ (bj (K:=K) (aH rH (hr.mono (by decide)) rfl aB.pass (aa (pv 0) af (se rfl)) (he:=se rfl) (hpl:=na rfl))) (λ_ _ _ _ _=>(aE (i:=0) (show(["to","found"]:List Str).Nodup by decide +kernel) rfl (Or.inl rfl))) (λ_ _ _ _ _=>bI)
   (λ_ _ _ _ _=>(qk BG (aI aL (pv 1) (pv 0) (λ_ _=>rfl)) eV (aV _))))
  (ag (bW (aQ cV (aI aK (pv 0) ao (λ_ _=>rfl)) cJ (aV _)) (ax (aT (ba (sP (K:=K)) (by rfl) T.z_any rfl (aa (pv 2) af (se rfl)) (he:=se rfl) (hpl:=na rfl))))
   bC)
  (ax (aT (ba (sO (K:=K)) (by rfl) T.z_all rfl (aa (pv 2) af (se rfl)) (he:=se rfl) (hpl:=na rfl)))))),?_⟩
  refine(?_:let cu:TS:=_;let cv:TS:=_;let cw:TS:=_;tSeq cu (tSeq cv cw) _ _ _)
  intro cu cv cw
  refine(?_:let G_:Prop:=_;G_)
  intro G_
  obtain⟨p,k,r,rfl,hp⟩:=E2 rq
  dsimp only[G_]
  simp_all only[tG]
  refine⟨q,rq,lq,λl H1 s1 nl hl=>⟨⟨_,aZ.of hl⟩,?_⟩⟩
  have MA:=s1 _ _ hf
  have hp1:=s1 _ _ hp
  have S:Src (vN K l) (az H1) (Lv.fI q).length (λi x H H3=>H3=H/\(List.map V.int (Lv.fI q))[i]?=some x):=by
   have:=src_list (K:=K) (a:=l) (xs:=List.map V.int (Lv.fI q)) (Ok:=az H1) (λH' s'=>aZ.of (s' _ _ hl))
   rw[aab] at this
   exact this
  refine pI (Lv.fI q) (λg=>some (.bl (Lv.lk fs g).isSome)) S (λ_ _ _ _ h=>h.1) (by rw[sizeLine_eq];omega) ?_ ?_
  ·rintro i g x eg ⟨_,ex⟩ Y N y1 _
   rw[aad,eg] at ex
   cases ex
   have:=gq g (aaf eg)
   simp_all only[gK,MA,DO this.1 this.2]
   have:=y1 _ rfl
   rw[show(!decide (gv (Lv.lk fs g)=V.cB))=(Lv.lk fs g).isSome from by cases Lv.lk fs g <;>simp [gv]]
   exact this
  ·intro D n1 n2
   rw[d8]
   have WK:List.map (λg=>V.bl (Lv.lk fs g).isSome) (Lv.fI q)=List.map V.bl ((Lv.fI q).map λg=>(Lv.lk fs g).isSome):=by rw[aaM];rfl
   rw[WK]
   have sD:=au (o:=.lst (List.map V.bl ((Lv.fI q).map λg=>(Lv.lk fs g).isSome))) n2
   have fin:=kk _ (s1.trans sD)
   rw[CZ] at fin
   cases q with
   | fin w=>
    refine(?_:let G_:Prop:=_;G_)
    intro G_
    obtain⟨p',r',e,jc,_⟩:=cM.mp rq
    dsimp only[G_]
    cases e
    have rR:=sD _ _ (s1 _ _ jc)
    simp only[rR,at0]
    refine⟨_,rfl,_,rfl,rfl,?_⟩
    rw[if_neg (by decide +kernel)]
    refine⟨_,aZ.of ar,?_⟩
    rw[List.all_map]
    exact fin
   | cL w ws=>
    refine(?_:let G_:Prop:=_;G_)
    intro G_
    obtain⟨p',r',l',xs,e,jc,_⟩:=cm.mp rq
    dsimp only[G_]
    cases e
    have rR:=sD _ _ (s1 _ _ jc)
    simp only[rR,at0]
    refine⟨_,rfl,_,rfl,rfl,?_⟩
    rw[if_pos (by decide +kernel)]
    refine⟨_,aZ.of ar,?_⟩
    rw[List.any_map]
    exact fin
   | bJ w to=>
    refine(?_:let G_:Prop:=_;G_)
    intro G_
    obtain⟨p',l',e,jc,_⟩:=cC.mp rq
    dsimp only[G_]
    cases e
    have rR:=sD _ _ (s1 _ _ jc)
    simp only[rR,at0]
    refine⟨_,rfl,_,rfl,rfl,?_⟩
    rw[if_neg (by decide +kernel)]
    refine⟨_,aZ.of ar,?_⟩
    rw[List.all_map]
    exact fin
theorem gf:aN ["board","found"] ["board","found"] (ae (top 3)):=⟨rfl,rfl,rfl,by decide +kernel,rfl,by decide +kernel,by decide +kernel⟩
theorem FY (T:Txt K mg aA tc):bX P w K mg base (bQ P w) 3 "ready_places" ["board","found"] wt:=by
 have vC:bX P w K mg base (bQ P w) 2 "is_ready" ["place","found"] zM:=FX T
 refine T.nM.eD (λ_ _ _ _ _ _=>eZ λ_ _=>rfl) λf fd F=>F.eL gf (λvs H Q E h=>?_) (λcK A outer s H vs Q E hr h=>?_)
 ·obtain⟨_,_,_,_,rfl,_⟩:=h;rfl
 ·refine(?_:let G_:Prop:=_;G_)
  intro G_
  obtain⟨a,b,ff,fs,rfl,rb,hf,lf,lb,gl,gb,kk⟩:=h
  dsimp only[G_]
  have nd:=gf.nd
  refine⟨_,(ax (aT (bT rfl (N:=["board","found"]) (so:=ae (top 3)) (N':=["number","place","found"]) (k:=2) (fr:=[1]) rfl rfl ⟨rfl,by decide +kernel,by decide +kernel,by decide +kernel,rfl,by decide +kernel,by decide +kernel⟩ (cO (K:=K) rfl T.z_enumerate (aa (pv 0) af (se rfl))) (λ_ _ _ _ _=>(b9 (K:=K) (n:=2) rfl (aS (aE (i:=0) (show(["number","place","found"]:List Str).Nodup by decide +kernel) rfl (Or.inl rfl)) (aS (aE (i:=1) (show(["number","place","found"]:List Str).Nodup by decide +kernel) rfl (Or.inl rfl)) b8)))) (λ_ _ _ _ _=>(lY (PW.pt (pw_and (aQ uA (aI aL (pv 2) (pv 0) (λ_ _=>rfl)) eV (aV _)) (pw_and1 (yF (aH vC (hr.mono (by decide)) rfl aB.pass (aa (pv 1) (aa (pv 2) af (se rfl)) (se rfl)) (he:=se rfl) (hpl:=na rfl))))))))
   (λ_ _ _ _ _=>(pv 0))))),?_⟩
  refine(?_:let G_:Prop:=_;G_)
  intro G_
  obtain⟨_,xs,e,ha,rl⟩:=aO.mp rb
  dsimp only[G_]
  cases e
  have lx:=rl.length
  rw[aab] at lx
  simp_all only[]
  refine⟨⟨_,aZ.of ha⟩,?_⟩
  have S:Src (HU K a) (az H) (List.range b.length).length (λi v H H3=>∃p x,H p=none/\v=.ref p/\xs[i]?=some x/\H3=upd H p (.tup [.int i,x])):=by rw[aaz,lx];exact fk (λH' s'=>aZ.of (s' _ _ ha))
  refine pK (K:=K) (List.range b.length) (λi=>if Lv.fZ b fs i=true then some (eM i) else none) S (λi u v _=>u=.int i/\xs[i]?=some v) ?_ (by rw[aaz,sizeLine_eq];omega) ?_ ?_
  ·intro i x H1 H2 hi s1 dI
   refine(?_:let G_:Prop:=_;G_)
   intro G_
   obtain⟨p,v,np,rfl,ev,rfl⟩:=dI
   dsimp only[G_]
   exact⟨au np,p,_,_,rfl,d6.of ar,rfl,ev⟩
  ·rintro i j u v H3 ej s3 ⟨rfl,ev⟩ Y N y1 n1
   have:j=i:=by
    obtain⟨h1,h2⟩:=List.getElem?_eq_some_iff.mp ej
    rw[List.getElem_range] at h2
    exact h2.symm
   subst this
   refine(?_:let G_:Prop:=_;G_)
   intro G_
   obtain⟨q,eq,rq⟩:=cY rl ev
   dsimp only[G_]
   have hj:j<b.length:=(List.getElem?_eq_some_iff.mp eq).1
   have Bs:=s3 _ _ hf
   have hq:=aaf eq
   simp_all only[Bs,DO (show(0:Int)<=(j:Int) by omega) (show(j:Int)< (fs.length:Nat) by omega),zM]
   have er:Lv.fZ b fs j=((Lv.lk fs (j:Int)).isNone && Lv.DK fs q):=by
    unfold Lv.fZ Lv.lk
    rw[eq,aah]
   by_cases c:Lv.lk fs (j:Int)=none
   ·rw[if_pos (nQ.mpr c)]
    refine⟨q,rq.mono s3,fs,rfl,gl q hq,λg hg=>?_,λH4 s4=>?_⟩
    ·rw[lf];exact gb.mG q hq g hg
    ·by_cases c2:Lv.DK fs q=true
     ·rw[if_pos c2]
      exact y1 _ _ (by rw[if_pos (by rw[er,c,c2];rfl)];rfl) s4
     ·rw[if_neg c2]
      exact n1 _ (by rw[if_neg (by rw[er];simp [c2])]) s4
   ·rw[if_neg (λz=>c (nQ.mp z))]
    have nr:¬Lv.fZ b fs j=true:=by
     rw[er]
     cases h:Lv.lk fs (j:Int) with
     | none=>exact absurd h c
     | some u=>simp
    exact n1 _ (if_neg nr) (az.refl _)
  ·intro H2 s2 D n1 n2
   have e:List.filterMap (λi=>if Lv.fZ b fs i=true then some (eM i) else none) (List.range b.length)=List.map eM (Lv.fresh b fs):=dG eM (Lv.fZ b fs) _
   rw[e]
   exact kk _ _ (s2.trans (au n2)) (none_of s2 n2) ar
theorem qb:aN ["board","found","level","fresh","number"] ["board"] (ae (top 4)):=⟨rfl,rfl,rfl,by decide +kernel,rfl,by decide +kernel,by decide +kernel⟩
theorem FZ (T:Txt K mg aA tc):bX P w K mg base (bQ P w) 4 "levels" ["board"] zN:=by
 have gS:bX P w K mg base (bQ P w) 3 "ready_places" ["board","found"] wt:=FY T
 refine T.zK.eD (λ_ _ _ _ _ _=>ik λ_=>rfl) λf fd F=>F.eL qb (λvs H Q E h=>?_) (λcK A outer s H vs Q E hr h=>?_)
 ·obtain⟨_,_,rfl,_⟩:=h;rfl
 ·refine(?_:let G_:Prop:=_;G_)
  intro G_
  obtain⟨a,b,rfl,rb,lb,gl,gb,kk⟩:=h
  dsimp only[G_]
  have nd:=qb.nd
  refine⟨_,(ag (fR (i:=1) rfl nd rfl rfl (N:=["board","found","level","fresh","number"]) (so:=ae (top 4)) (N':=["place"]) (k:=1) (fr:=[]) rfl rfl ⟨rfl,by decide +kernel,by decide +kernel,by decide +kernel,rfl,by decide +kernel,by decide +kernel⟩ (bj (K:=K) (pv 0)) (λ_ _ _ _ _=>(aE (i:=0) (show(["place"]:List Str).Nodup by decide +kernel) rfl (Or.inl rfl))) (λ_ _ _ _ _=>bI)
   (λ_ _ _ _ _=>(gE (aQ cV (aI aK (pv 0) ao (λ_ _=>rfl)) cJ (aV _)) ao eV)))
  (ag (aF (i:=2) nd rfl (Or.inl rfl) ao)
  (ag (aF (i:=3) nd rfl (Or.inl rfl) (aH gS (hr.mono (by decide)) rfl aB.pass (aa (pv 0) (aa (pv 1) af (se rfl)) (se rfl)) (he:=se rfl) (hpl:=na rfl)))
  (ag (gF PassesOwn.never (aQ kh (ba bD (by rfl) T.z_len aaA (aa (pv 3) af (se rfl)) (he:=se rfl) (hpl:=na rfl)) ao (aV _)) (ag (cz PassesOwn.never rfl (bj (K:=K) (pv 3)) (aE (i:=4) nd rfl (Or.inl rfl)) (ax (eB (pv 2) (fM (pv 1) (pv 4) set_list))))
  (ag (aF (i:=2) nd rfl (Or.inl rfl) (aD br (pv 2) ao))
  (ax (aF (i:=3) nd rfl (Or.inl rfl) (aH gS (hr.mono (by decide)) rfl aB.pass (aa (pv 0) (aa (pv 1) af (se rfl)) (se rfl)) (he:=se rfl) (hpl:=na rfl)))))))
  (ax (aT (pv 1))))))),?_⟩
  refine(?_:let cu:TS:=_;let cv:TS:=_;let cw:TS:=_;let dQ:TS:=_;let jF:TS:=_;tSeq cu (tSeq cv (tSeq cw (tSeq dQ jF))) _ _ _)
  intro cu cv cw dQ jF
  refine(?_:let G_:Prop:=_;G_)
  intro G_
  obtain⟨_,xs,e,ha,rl⟩:=aO.mp rb
  dsimp only[G_]
  cases e
  have lx:=rl.length
  rw[aab] at lx
  simp_all only[wt]
  refine⟨⟨_,aZ.of ha⟩,?_⟩
  have S:Src (vN K a) (az H) b.length (λi x H H3=>H3=H/\xs[i]?=some x):=by rw[lx];exact src_list (λH' s'=>aZ.of (s' _ _ ha))
  refine pI b (λq=>some (gv (Lv.HZ q))) S (λ_ _ _ _ h=>h.1) (by rw[sizeLine_eq];omega) ?_ ?_
  ·rintro i q x eq ⟨_,ex⟩ Y N y1 _
   refine(?_:let G_:Prop:=_;G_)
   intro G_
   obtain⟨q',Ud,rq⟩:=cY rl ex
   dsimp only[G_]
   rw[eq] at Ud
   cases Ud
   have:=y1 _ rfl
   cases q with
   | fin w=>
    refine(?_:let G_:Prop:=_;G_)
    intro G_
    obtain⟨p,r,rfl,hp,_⟩:=cM.mp rq
    dsimp only[G_]
    simp_all only[gK,hp]
    exact this
   | cL w ws=>
    refine(?_:let G_:Prop:=_;G_)
    intro G_
    obtain⟨p,r,l',ys,rfl,hp,_⟩:=cm.mp rq
    dsimp only[G_]
    simp_all only[gK,hp]
    rw[if_neg (by decide +kernel)]
    exact this
   | bJ w to=>
    refine(?_:let G_:Prop:=_;G_)
    intro G_
    obtain⟨p,l',rfl,hp,_⟩:=cC.mp rq
    dsimp only[G_]
    simp_all only[gK,hp]
    rw[if_neg (by decide +kernel)]
    exact this
  ·intro ff n1 n2
   rw[d8,show List.map (λq=>gv (Lv.HZ q)) b=List.map gv (Lv.oG b) from by unfold Lv.oG;rw[aaM];rfl]
   have sD:=au (o:=.lst (List.map gv (Lv.oG b))) n2
   refine⟨b,rb.mono sD,Lv.oG b,ar,by simp [Lv.oG],lb,gl,gb,λfr H1 s1 nf HL=>?_⟩
   have WL:H1 ff=some (.lst (List.map gv (Lv.oG b))):=s1 _ _ ar
   have sH:=sD.trans s1
   refine sQ (Wz H b a ff) (m:=b.length) ⟨_,_,_,_,rfl,WL,HL,(λz=>by rw[z,ar] at nf;cases nf),sH,by simp [Lv.oG],by have:=Lv.nk (Lv.oG b);simpa [Lv.oG] using this,rfl⟩ ?_ ?_
   ·intro m σ H2 II
    refine(?_:let G_:Prop:=_;G_)
    intro G_
    obtain⟨fs,L,fr,z,rfl,hf,t6,ne,s2,lf,nm,er⟩:=II
    dsimp only[G_]
    simp_all only[]
    refine⟨_,t6,?_⟩
    by_cases c:Lv.fresh b fs=[]
    ·rw[c,if_neg (by simp)]
     have:Lv.run b m fs L=fs:=by
      cases m with
      | zero=>rfl
      | succ m=>
       show(if Lv.fresh b fs=[] then fs else _)=fs
       rw[if_pos c]
     rw[this] at er
     subst er
     exact kk _ _ s2 n2 hf
    ·have l0:(0:Int)< ((List.map eM (Lv.fresh b fs)).length:Nat):=by
      rw[aab]
      have:=List.length_pos_iff.mpr c
      omega
     rw[if_pos l0]
     have lfr:(Lv.fresh b fs).length<=1000:=by
      have:(Lv.fresh b fs).length<=b.length:=by
       have:=List.length_filter_le (Lv.fZ b fs) (List.range b.length)
       rwa [aaz] at this
      omega
     refine⟨⟨_,aZ.of t6⟩,bN (src_list (Ok:=λH'=>H' fr=some (.lst (List.map eM (Lv.fresh b fs)))) (λH' e=>aZ.of e))
      (λj σ H'=>H' fr=some (.lst (List.map eM (Lv.fresh b fs)))/\H' ff=some (.lst (List.map gv (Lv.cN fs ((Lv.fresh b fs).take j) L)))/\az H H'/\∃z,σ=[some (V.ref a),some (V.ref ff),some (V.int L),some (V.ref fr),z])
      ⟨t6,by rw[List.take_zero];exact hf,s2,_,rfl⟩ (λ_ _ _ _ h=>h.1) ?_ ?_⟩
     ·intro j x σ H3 H4 hj dI dR
      refine(?_:let G_:Prop:=_;G_)
      intro G_
      obtain⟨h3,f3,s3,z,rfl⟩:=dI
      obtain⟨rfl,hx⟩:=dR
      rw[aad] at hx
      obtain⟨i,ei,rfl⟩:=Option.map_eq_some_iff.mp hx
      dsimp only[G_]
      have hi:=(Lv.g7.mp (aaf ei)).1
      simp_all only[gSub,rSetL,eM]
      have ix:xN (List.map gv (Lv.cN fs ((Lv.fresh b fs).take j) L)).length (i:Int)=some i:=by
       unfold xN
       rw[if_pos (by omega),aab,Lv.md,if_pos (by omega)]
       congr 1
      refine⟨_,f3,i,ix,by rw[aG ne];exact h3,?_,aX s3 n2,_,rfl⟩
      rw[ar,aaC,ei]
      show some (HO.lst ((List.map gv _).set i (gv (some L))))=_
      rw[<-List.map_set]
      congr 3
      unfold Lv.cN
      rw[List.foldl_append]
      rfl
     ·intro σ H3 bK
      refine(?_:let G_:Prop:=_;G_)
      intro G_
      obtain⟨h3,f3,s3,z,rfl⟩:=bK
      dsimp only[G_]
      rw[aab,aaG (aag _)] at f3
      simp_all only[wt]
      refine⟨b,rb.mono s3,_,f3,by rw[Lv.md];exact lf,lb,gl,gb,λfr2 H4 s4 n4 h4=>?_⟩
      have lt:=Lv.jY lf c L
      cases m with
      | zero=>omega
      | succ m=>
       refine⟨m,aaJ _,_,_,_,_,rfl,s4 _ _ f3,h4,(λz=>by rw[z,f3] at n4;cases n4),s3.trans s4,by rw[Lv.md];exact lf,by omega,?_⟩
       rw[<-er]
       show _=(if Lv.fresh b fs=[] then fs else _)
       rw[if_neg c]
   ·intro σ H1 Q1 Q2 hq hc
    simp only[L2.start,Pr,tRev,tD1,tDPop1,tSl,tNoPart,tPart,rSlL,tDIn,tDNotIn,gSub,rSetL,tLst,tDNewK,tComp,L2.stC,tFor_eq,iList,iTup,iRng1,iRng2,iZip,iEnum,iDict,iStr,tChain,tSumV,tBM,rJoin,tJoined,jNil,jLit,jInt,jStr,tRaise,tDGet,tDGet2,tDGet1,sDPut,Option.join_some,List.getElem?_nil,tSeq,tRet,tRetN,tIfS,tTest,tB,tOp,tUn,tVar,tC,tCB,tCons,tNil,tCall,tTupS,tAsg,gName,gNil,gCons,tPar,tNext,tDrop,tAnd,tOr,tNot,tAndV,tOrV,tNotV,tIf,rI,rI0,rU,rIxTH,rIxLH,rEqT,rNeT,rInT,rEq,rNe,scal_ss,scal_ii,scal_bb,scal_si,scal_is,CPow,at0,at1,at2,aas,aaK,aap,aa9,Nat.reduceSub,Nat.reduceAdd,aaZ,abq,List.reduceReplicate,aa4,List.nil_append,abk,abl,abf,abc,abd,abm,exists_eq_left',exists_eq_left,V.ref.injEq,V.int.injEq,V.bl.injEq,V.str.injEq,V.ty.injEq,HO.tup.injEq,HO.lst.injEq,List.cons.injEq,and_true,true_and,and_assoc,exists_and_left,decide_eq_true_eq,Bool.not_eq_true',decide_eq_false_iff_not,ite_true,ite_false,if_true,if_false,Int.reduceToNat,eq_self_iff_true] at hc ⊢
    refine(?_:let G_:Prop:=_;G_)
    intro G_
    obtain⟨v,e1,ys,e2,xs,e3,q⟩:=hc
    dsimp only[G_]
    exact⟨v,e1,ys,e2,xs,e3,hq _ _ q⟩
theorem xl:aN ["board"] ["board"] (ae (top 5)):=⟨rfl,rfl,rfl,by decide +kernel,rfl,by decide +kernel,by decide +kernel⟩
theorem C0 (T:Txt K mg aA tc):bX P w K mg base (bQ P w) 5 "ring" ["board"] vb:=by
 have AU:bX P w K mg base (bQ P w) 4 "levels" ["board"] zN:=FZ T
 refine T.Fh.eD (λ_ _ _ _ _ _=>ik λ_=>rfl) λf fd F=>F.eL xl (λvs H Q E h=>?_) (λcK A outer s H vs Q E hr h=>?_)
 ·obtain⟨_,_,rfl,_⟩:=h;rfl
 ·refine(?_:let G_:Prop:=_;G_)
  intro G_
  obtain⟨a,b,rfl,rb,B,kk⟩:=h
  dsimp only[G_]
  have nd:=xl.nd
  refine⟨_,(ax (aT (bT rfl (N:=["board"]) (so:=ae (top 5)) (N':=["number","level"]) (k:=2) (fr:=[]) rfl rfl ⟨rfl,by decide +kernel,by decide +kernel,by decide +kernel,rfl,by decide +kernel,by decide +kernel⟩ (cO (K:=K) rfl T.z_enumerate (aa (aH AU (hr.mono (by decide)) rfl aB.pass (aa (pv 0) af (se rfl)) (he:=se rfl) (hpl:=na rfl)) af (se rfl))) (λ_ _ _ _ _=>(b9 (K:=K) (n:=2) rfl (aS (aE (i:=0) (show(["number","level"]:List Str).Nodup by decide +kernel) rfl (Or.inl rfl)) (aS (aE (i:=1) (show(["number","level"]:List Str).Nodup by decide +kernel) rfl (Or.inl rfl)) b8)))) (λ_ _ _ _ _=>(lY (aQ uA (pv 1) eV (aV _))))
   (λ_ _ _ _ _=>(pv 0))))),?_⟩
  simp_all only[zN]
  refine⟨b,rb,B.len,B.sI,B.good,λf1 H1 s1 nf hf=>⟨⟨_,aZ.of hf⟩,?_⟩⟩
  have ll:=Lv.Ci B.good
  have bl:=B.len
  have S:Src (HU K f1) (az H1) (List.range b.length).length (λi v H H3=>∃p x,H p=none/\v=.ref p/\(List.map gv (Lv.sS b))[i]?=some x/\H3=upd H p (.tup [.int i,x])):=by
   have:=fk (K:=K) (a:=f1) (xs:=List.map gv (Lv.sS b)) (Ok:=az H1) (λH' s'=>aZ.of (s' _ _ hf))
   rw[aab,ll] at this
   rw[aaz]
   exact this
  refine pK (K:=K) (List.range b.length) (λi=>if (Lv.lk (Lv.sS b) (i:Int)).isNone=true then some (eM i) else none) S (λi u v _=>u=.int i/\v=gv (Lv.lk (Lv.sS b) (i:Int))) ?_ (by rw[aaz,sizeLine_eq];omega) ?_ ?_
  ·intro i x H2 H3 hi s2 dI
   refine(?_:let G_:Prop:=_;G_)
   intro G_
   obtain⟨p,v,np,rfl,ev,rfl⟩:=dI
   dsimp only[G_]
   refine⟨au np,p,_,_,rfl,d6.of ar,rfl,?_⟩
   rw[aad] at ev
   refine(?_:let G_:Prop:=_;G_)
   intro G_
   obtain⟨o,eo,rfl⟩:=Option.map_eq_some_iff.mp ev
   dsimp only[G_]
   unfold Lv.lk
   rw[aah,aae,eo]
   rfl
  ·rintro i j u v H3 ej s3 ⟨rfl,rfl⟩ Y N y1 n1
   have:j=i:=by
    obtain⟨h1,h2⟩:=List.getElem?_eq_some_iff.mp ej
    rw[List.getElem_range] at h2
    exact h2.symm
   subst this
   simp_all only[]
   cases h:Lv.lk (Lv.sS b) (j:Int) with
   | none=>
    rw[if_pos (nQ.mpr rfl)]
    exact y1 _ _ (by rw[h];rfl) (az.refl _)
   | some x=>
    rw[if_neg (by simp [gv])]
    exact n1 _ (by rw[h];rfl) (az.refl _)
  ·intro H2 s2 D n1 n2
   have e:List.filterMap (fun(i:Nat)=>if (Lv.lk (Lv.sS b) (i:Int)).isNone=true then some (eM i) else none) (List.range b.length)=List.map eM (nR b):=dG eM (fun(i:Nat)=>(Lv.lk (Lv.sS b) (i:Int)).isNone) _
   rw[e]
   exact kk _ _ (s1.trans (s2.trans (au n2))) (none_of (s1.trans s2) n2) ar
theorem iA:aN ["board","start","steps","found","turn","here","way","to"] ["board","start"] (ae (top 22)):=⟨rfl,rfl,rfl,by decide +kernel,rfl,by decide +kernel,by decide +kernel⟩
theorem F0 (T:Txt K mg aA tc):bX P w K mg base (bQ P w) 2 "steps_from" ["board","start"] wu:=by
 have rH:bX P w K mg base (bQ P w) 1 "goals" ["place"] tG:=AS T
 refine T.qJ.eD (λ_ _ _ _ _ _=>eZ λ_ _=>rfl) λf fd F=>F.eL iA (λvs H Q E h=>?_) (λcK A outer s H vs Q E hr h=>?_)
 ·obtain⟨_,_,_,rfl,_⟩:=h;rfl
 ·refine(?_:let G_:Prop:=_;G_)
  intro G_
  obtain⟨a,b,st,rfl,rb,lb,sI,gb,h0,h1,kk⟩:=h
  dsimp only[G_]
  clear G_
  have nd:=iA.nd
  refine⟨_,(ag (aF (i:=2) nd rfl (Or.inl rfl) (Ia (pv 1) eV))
  (ag (aF (i:=3) nd rfl (Or.inl rfl) (cQ (aa (pv 1) af (se rfl))))
  (ag (aF (i:=4) nd rfl (Or.inl rfl) ao)
  (ag (gF PassesOwn.never (aQ o8 (pv 4) (ba bD (by rfl) T.z_len aaA (aa (pv 3) af (se rfl)) (he:=se rfl) (hpl:=na rfl)) (aV _)) (ag (aF (i:=5) nd rfl (Or.inl rfl) (aI aL (pv 3) (pv 4) (λ_ _=>rfl)))
  (ag (cz PassesOwn.never rfl (cO (K:=K) rfl T.z_enumerate (aa (aH rH (hr.mono (by decide)) rfl aB.pass (aa (aI aL (pv 0) (pv 5) (λ_ _=>rfl)) af (se rfl)) (he:=se rfl) (hpl:=na rfl)) af (se rfl))) (b9 (K:=K) (n:=2) rfl (aS (aE (i:=6) nd rfl (Or.inl rfl)) (aS (aE (i:=7) nd rfl (Or.inl rfl)) b8))) (ax (bW (uv (xQ (pF hr) (pv 7) (pv 2))) (ag (vW (pF hr) (pv 2) (pv 7) (bH (aa (pv 5) (aa (pv 6) af (se rfl)) (se rfl))) rfl)
  (ax (cF (dD aaE aaN aaO bS.r (pv 3) (aa (pv 7) af (se rfl))))))
   bC)))
  (ax (aF (i:=4) nd rfl (Or.inl rfl) (aD br (pv 4) ao))))))
  (ax (aT (pv 2))))))),?_⟩
  refine(?_:let cu:TS:=_;let cv:TS:=_;let cw:TS:=_;let dQ:TS:=_;let jF:TS:=_;tSeq cu (tSeq cv (tSeq cw (tSeq dQ jF))) _ _ _)
  intro cu cv cw dQ jF
  refine(?_:let G_:Prop:=_;G_)
  intro G_
  obtain⟨_,xs,e,ha,rl⟩:=aO.mp rb
  dsimp only[G_]
  clear G_
  cases e
  have lx:=rl.length
  rw[aab] at lx
  simp_all only[]
  intro d MB
  refine⟨Sum.inl st,rfl,ar,by decide,λf1 nf=>?_⟩
  have WM:upd (upd H d (.dK [])) d (.dK [(Sum.inl st,V.cB)])=upd H d (.dK [(Sum.inl st,V.cB)]):=Bw
  rw[WM] at nf ⊢
  have sd:=au (o:=.dK [(Sum.inl st,V.cB)]) MB
  have sf:=au (o:=.lst [V.int st]) nf
  have Ue:f1≠d:=λz=>by rw[z,ar] at nf;cases nf
  have WN:H f1=none:=none_of sd nf
  have D0:fv (upd (upd H d (.dK [(Sum.inl st,V.cB)])) f1 (.lst [V.int st])) d [(st,none,[])]:=by
   refine⟨_,sf _ _ ar,rfl,λi e he=>?_⟩
   match i,he with
   | 0,he=>cases he;exact⟨_,rfl,rfl⟩
  have MA:(upd (upd H d (.dK [(Sum.inl st,V.cB)])) f1 (.lst [V.int st])) f1=some (.lst [V.int st]):=ar
  have sH:=sd.trans sf
  generalize upd (upd H d (.dK [(Sum.inl st,V.cB)])) f1 (.lst [V.int st])=H1 at *
  refine sQ (WA H b a d f1 st) (m:=b.length+1) ⟨0,[(st,none,[])],_,_,_,rfl,D0,MA,sH,Bf.zj h0 h1,rfl,by omega⟩ ?_ ?_
  ·intro m σ H2 II
   refine(?_:let G_:Prop:=_;G_)
   intro G_
   obtain⟨t,es,z5,z6,z7,rfl,dr,hf,s2,I,eb,lt⟩:=II
   dsimp only[G_]
   clear G_
   have lk:(Bf.keys es).length=es.length:=by unfold Bf.keys;rw[aab]
   have fw:=I.toCore.sI
   simp_all only[]
   refine⟨_,hf,?_⟩
   rw[aab,lk]
   by_cases c:t<es.length
   ·rw[if_pos (by omega)]
    have et:es[t]?=some es[t]:=aac c
    generalize es[t]=e at et
    have rg:=I.mG e (aaf et)
    have ee:((e.1.toNat:Nat):Int)=e.1:=Int.toNat_of_nonneg rg.1
    have hb:e.1.toNat<b.length:=by omega
    have Ug:b[e.1.toNat]?=some b[e.1.toNat]:=aac hb
    refine(?_:let G_:Prop:=_;G_)
    intro G_
    obtain⟨v,ev,rv⟩:=ft rl Ug
    dsimp only[G_]
    clear G_
    have hq:=aan hb
    generalize b[e.1.toNat]=q at *
    have ga:Bf.fb b e.1=Lv.fI q:=by unfold Bf.fb;rw[Ug]
    have av:fH xs e.1=some v:=by rw[<-ee];exact bL ev
    have ak:fH (List.map V.int (Bf.keys es)) (t:Int)=some (V.int e.1):=ni (by unfold Bf.keys;rw[aad,et];rfl)
    simp only[hf,ak,s2 _ _ ha,av,abm,HO.lst.injEq,exists_eq_left',V.int.injEq,V.ref.injEq,tG]
    refine⟨v,q,rfl,rv.mono s2,sI q hq,λl H3 s3 nl hl=>⟨⟨_,aZ.of hl⟩,?_⟩⟩
    have WO:=dr.mono s3
    have Bs:=s3 _ _ hf
    have WQ:l≠d:=λz=>by
     refine(?_:let G_:Prop:=_;G_)
     intro G_
     obtain⟨kvs,hd,_⟩:=dr.ex
     dsimp only[G_]
     rw[z,hd] at nl;cases nl
    have IJ:l≠f1:=λz=>by rw[z,hf] at nl;cases nl
    refine bN (fk (Ok:=λH'=>H' l=some (.lst (List.map V.int (Lv.fI q)))) (λH' e=>aZ.of e)) (WB H a d f1 l st t e (Lv.fI q) es) ⟨⟨_,_,rfl⟩,WO,Bs,hl,s2.trans s3⟩ (λ_ _ _ _ h=>h.hl) ?_ ?_
    ·intro i x σ H4 H5 hi dI dR
     refine(?_:let G_:Prop:=_;G_)
     intro G_
     obtain⟨⟨z6,z7,rfl⟩,KO,C1,xm,s4⟩:=dI
     obtain⟨p,y,np,rfl,ey,rfl⟩:=dR
     rw[aab] at hi
     rw[aad] at ey
     obtain⟨g,eg,rfl⟩:=Option.map_eq_some_iff.mp ey
     dsimp only[G_]
     clear G_
     have s5:=au (o:=.tup [.int i,.int g]) np
     refine⟨p,_,rfl,d6.of ar,rfl,?_⟩
     have MC:=KO.mono s5
     have Uh:=s5 _ _ C1
     have IK:=s5 _ _ xm
     have F1:=s4.trans s5
     generalize upd H4 p (.tup [.int i,.int g])=H5 at *
     have M:=Bf.nv gb ((Lv.fI q).take i) 0 es (Bf.zm I et) λj x hx=>by
      rw[aaZ,ga]
      have hj:=(List.getElem?_eq_some_iff.mp hx).1
      rw[aaQ] at hj
      rwa [List.getElem?_take_of_lt (by omega)] at hx
     have tk:(Lv.fI q).take (i+1)=(Lv.fI q).take i++ [g]:=by rw[aaC,eg];rfl
     have WR:((Lv.fI q).take i).length=i:=by rw[aaQ];omega
     have nx:=pS (here:=e.1) (path:=e.2.2) ((Lv.fI q).take i) 0 es g
     rw[<-tk,WR,aaZ] at nx
     have WS:=M.toCore.sI
     generalize Bf.fS e.1 e.2.2 0 ((Lv.fI q).take i) es=ei at *
     refine(?_:let G_:Prop:=_;G_)
     intro G_
     obtain⟨o,go,ho⟩:=MC.has M.nd g
     dsimp only[G_]
     simp_all only[]
     refine⟨o,go,?_⟩
     rw[ho]
     by_cases cg:g∈Bf.keys ei
     ·rw[if_neg (by simpa using cg)]
      rw[if_pos cg] at nx
      exact⟨⟨_,_,rfl⟩,by rw[nx];exact MC,by rw[nx];exact Uh,IK,F1⟩
     ·rw[if_pos (by simpa using cg)]
      rw[if_neg cg] at nx
      refine⟨by decide,λp6 H6 s6 np6 e6=>?_⟩
      obtain⟨o7,pt,WU⟩:=(MC.mono s6).put (par:=some (e.1,i)) (path:=e.2.2++ [i]) cg ⟨p6,rfl,e6⟩ (by rw[sizeLine_eq];omega)
      have IL:=s6 _ _ Uh
      have C3:=s6 _ _ IK
      have MD:upd H6 d o7 f1=some (.lst (List.map V.int (Bf.keys ei))):=by rw[aG Ue];exact IL
      have lke:(Bf.keys ei).length=ei.length:=by unfold Bf.keys;rw[aab]
      refine⟨_,pt,.inl ⟨rfl,_,aZ.of MD⟩,f1,_,_,rfl,rfl,MD,by rw[aab,sizeLine_eq];omega,?_⟩
      have sF:az H (upd (upd H6 d o7) f1 (.lst (List.map V.int (Bf.keys ei)++ [V.int g]))):=aX (aX (F1.trans s6) MB) WN
      refine⟨⟨_,_,rfl⟩,?_,?_,?_,sF⟩
      ·rw[nx]
       refine(?_:let G_:Prop:=_;G_)
       intro G_
       obtain⟨kvs,k1,k2,k3⟩:=WU.ex
       dsimp only[G_]
       refine⟨kvs,by rw[aG (Ne.symm Ue)];exact k1,k2,λj x hx=>?_⟩
       refine(?_:let G_:Prop:=_;G_)
       intro G_
       obtain⟨v,v1,v2⟩:=k3 j x hx
       dsimp only[G_]
       exact⟨v,v1,v2.upd λys z=>by rw[MD] at z;cases z⟩
      ·rw[nx,ar]
       unfold Bf.keys
       rw[aau,aau]
       rfl
      ·rw[aG IJ,aG WQ]
       exact C3
    ·intro σ H4 bK
     refine(?_:let G_:Prop:=_;G_)
     intro G_
     obtain⟨⟨z6,z7,rfl⟩,KO,C1,xm,s4⟩:=bK
     dsimp only[G_]
     rw[aab,aaG (aag _),<-ga] at KO C1
     simp_all only[]
     cases m with
     | zero=>omega
     | succ m=>
      refine⟨m,aaJ _,⟨t+1,_,_,_,_,rfl,KO,C1,s4,Bf.turn gb I et,?_,by omega⟩⟩
      rw[<-eb]
      show _=(match es[t]? with | none=>es | some e=>Bf.Bl b m (t+1) (Bf.fS e.1 e.2.2 0 (Bf.fb b e.1) es))
      rw[et]
   ·rw[if_neg (by omega)]
    have:Bf.Bl b m t es=es:=by
     cases m with
     | zero=>rfl
     | succ m=>
      show(match es[t]? with | none=>es | some e=>Bf.Bl b m (t+1) (Bf.fS e.1 e.2.2 0 (Bf.fb b e.1) es))=es
      rw[aaq (by omega)]
    rw[this] at eb
    subst eb
    exact kk _ _ s2 MB dr
  ·intro σ H1 Q1 Q2 hq hc
   simp only[L2.start,Pr,tRev,tD1,tDPop1,tSl,tNoPart,tPart,rSlL,tDIn,tDNotIn,gSub,rSetL,tLst,tDNewK,tComp,L2.stC,tFor_eq,iList,iTup,iRng1,iRng2,iZip,iEnum,iDict,iStr,tChain,tSumV,tBM,rJoin,tJoined,jNil,jLit,jInt,jStr,tRaise,tDGet,tDGet2,tDGet1,sDPut,Option.join_some,List.getElem?_nil,tSeq,tRet,tRetN,tIfS,tTest,tB,tOp,tUn,tVar,tC,tCB,tCons,tNil,tCall,tTupS,tAsg,gName,gNil,gCons,tPar,tNext,tDrop,tAnd,tOr,tNot,tAndV,tOrV,tNotV,tIf,rI,rI0,rU,rIxTH,rIxLH,rEqT,rNeT,rInT,rEq,rNe,scal_ss,scal_ii,scal_bb,scal_si,scal_is,CPow,at0,at1,at2,aas,aaK,aap,aa9,Nat.reduceSub,Nat.reduceAdd,aaZ,abq,List.reduceReplicate,aa4,List.nil_append,abk,abl,abf,abc,abd,abm,exists_eq_left',exists_eq_left,V.ref.injEq,V.int.injEq,V.bl.injEq,V.str.injEq,V.ty.injEq,HO.tup.injEq,HO.lst.injEq,List.cons.injEq,and_true,true_and,and_assoc,exists_and_left,decide_eq_true_eq,Bool.not_eq_true',decide_eq_false_iff_not,ite_true,ite_false,if_true,if_false,Int.reduceToNat,eq_self_iff_true] at hc ⊢
   refine(?_:let G_:Prop:=_;G_)
   intro G_
   obtain⟨v,e1,v1,e2,p,e3,x,e4,i,e5,q⟩:=hc
   dsimp only[G_]
   exact⟨v,e1,v1,e2,p,e3,x,e4,i,e5,hq _ _ q⟩
theorem xn (p:Int->Bool):∀l:List Int,l.filterMap (λo=>if p o=true then some o else none)=l.filter p
 | []=>rfl
 | x::l=>by
  rw[List.filterMap_cons,List.filter_cons,xn p l]
  by_cases c:p x=true
  ·simp [c]
  ·simp [c]
noncomputable def ot (H:Hp) (x:Addr):Int:=match H x with
 | some (.lst (.int j::_))=>j
 | _=>0
noncomputable def AV (tp:Addr):Sp:=λvs H Q _=>∃a b,vs=[.ref a]/\Rep H (pJ b) (.ref a)/\b.length<=63/\(∀q∈b,(Lv.fI q).length<=100)/\Lv.Good b/\H tp=some (.rQ dsc)/\
 ∀l ps as H',Pr.Told b ps->az H H'->H l=none->H' l=some (.lst (List.map V.ref as))->Al (λp v=>∃x,v=.ref x/\H' x=some (.lst (List.map V.int (Pr.c6 b p)))/\H x=none) ps (as.map V.ref)->Q (.ref l) H'
theorem t7:aN ["board","reach","found","place","part"] ["board"] (ae (top 23)):=⟨rfl,rfl,rfl,by decide +kernel,rfl,by decide +kernel,by decide +kernel⟩
theorem F2 (T:Txt K mg aA tc) (LB:oP base mg tc tp):bX P w K mg base (bQ P w) 3 "parts" ["board"] (AV tp):=by
 have rJ:bX P w K mg base (bQ P w) 2 "steps_from" ["board","start"] wu:=F0 T
 refine T.Cu.Ml T.Cw (λ_ _ _ _ _ _=>ik λ_=>rfl) λf fd F hc=>F.Wu hc t7 (λvs H Q E h=>?_) (λA outer s H vs Q E hr h=>?_)
 ·obtain⟨_,_,rfl,_⟩:=h;rfl
 ·refine(?_:let G_:Prop:=_;G_)
  intro G_
  obtain⟨a,b,rfl,rb,lb,sI,gb,kX,kk⟩:=h
  dsimp only[G_]
  clear G_
  have nd:=t7.nd
  refine⟨_,(ag (aF (i:=1) nd rfl (Or.inr rfl) (bT rfl (N:=["board","reach","found","place","part"]) (so:=ae (top 23)) (N':=["start","board"]) (k:=1) (fr:=[0]) rfl rfl ⟨rfl,by decide +kernel,by decide +kernel,by decide +kernel,rfl,by decide +kernel,by decide +kernel⟩ (di rfl T.z_range (aa (ba bD (by rfl) T.z_len aaA (aa (pv 0) af (se rfl)) (he:=se rfl) (hpl:=na rfl)) af (se rfl))) (λ_ _ _ _ _=>(aE (i:=0) (show(["start","board"]:List Str).Nodup by decide +kernel) rfl (Or.inl rfl))) (λ_ _ _ _ _=>bI)
   (λ_ _ _ _ _=>(aH rJ (hr.mono (by decide)) rfl aB.pass (aa (pv 1) (aa (pv 0) af (se rfl)) (se rfl)) (he:=se rfl) (hpl:=na rfl)))))
  (ag (aF (i:=2) nd rfl (Or.inl rfl) (cQ af))
  (ag (cz PassesOwn.never rfl (di rfl T.z_range (aa (ba bD (by rfl) T.z_len aaA (aa (pv 0) af (se rfl)) (he:=se rfl) (hpl:=na rfl)) af (se rfl))) (aE (i:=3) nd rfl (Or.inr rfl)) (ag (fR (i:=4) rfl nd rfl rfl (N:=["board","reach","found","place","part"]) (so:=ae (top 23)) (N':=["other","reach","place"]) (k:=1) (fr:=[1,3]) rfl rfl ⟨rfl,by decide +kernel,by decide +kernel,by decide +kernel,rfl,by decide +kernel,by decide +kernel⟩ (bj (K:=K) (ba m8 (by rfl) T.z_sorted rfl (aa (aI aL (pv 1) (pv 3) (λ_ _=>rfl)) af (se rfl)) (he:=se rfl) (hpl:=na rfl))) (λ_ _ _ _ _=>(aE (i:=0) (show(["other","reach","place"]:List Str).Nodup by decide +kernel) rfl (Or.inl rfl))) (λ_ _ _ _ _=>(lY (uv (yV (pF hr) (pv 2) (aI aL (pv 1) (pv 0) (λ_ _=>rfl))))))
   (λ_ _ _ _ _=>(pv 0)))
  (ax (bW (aQ cV (aI aL (pv 4) ao (λ_ _=>rfl)) (pv 3) (aV _)) (ax (cF (dD aaE aaN aaO bS.r (pv 2) (aa (pv 4) af (se rfl)))))
   bC))))
  (ax (aT (zG (i:=1) (dsc:=dsc) (t0:=0) rfl T.z_sorted T.z_len LB rfl hr rfl (pv 2))))))),?_⟩
  refine(?_:let cu:TS:=_;let cv:TS:=_;let cw:TS:=_;let dQ:TS:=_;tSeq cu (tSeq cv (tSeq cw dQ)) _ _ _)
  intro cu cv cw dQ
  have sl:=sizeLine_eq
  refine(?_:let G_:Prop:=_;G_)
  intro G_
  obtain⟨_,xs,e,ha,rl⟩:=aO.mp rb
  dsimp only[G_]
  clear G_
  cases e
  have lx:=rl.length
  rw[aab] at lx
  change tSeq _ _ _ _ _
  refine aR (λσ' H1=>az H H1/\∃r ys,H1 r=some (.lst ys)/\ys.length=b.length/\(∀(i:Nat) y,ys[i]?=some y->∃d,y=.ref d/\fv H1 d (Bf.steps b (i:Int)))/\σ'=[some (.ref a),some (.ref r),none,none,none]) ?_ (λN hN=>?_)
  case refine_2=>
   simp_all only[wu]
   refine⟨_,ha,by omega,by omega,?_⟩
   refine comp_map src_range (λ_ _ _ _ h=>by rw[h.1];exact az.refl _) (by omega) (λi y H4=>∃d,y=.ref d/\fv H4 d (Bf.steps b (i:Int))) (λi y H4 H5 s5 ⟨d,e,h⟩=>⟨d,e,h.mono s5⟩) ?_ ?_
   ·rintro i x w0 H4 H5 Q2 hi s4 ⟨rfl,rfl⟩ kq
    simp_all only[wu,Int.zero_add]
    exact⟨b,rb.mono s4,by omega,sI,gb,by omega,by omega,λd H6 s6 n6 dr=>kq _ _ s6 ⟨d,rfl,dr⟩⟩
   ·intro ys H5 s5 ly hy D n1 n2
    refine hN _ _ ⟨s5.trans (au n2),D,ys,ar,by omega,λi y e=>?_,rfl⟩
    refine(?_:let G_:Prop:=_;G_)
    intro G_
    obtain⟨d,e1,h1⟩:=hy i y e
    dsimp only[G_]
    exact⟨d,e1,h1.mono (au n2)⟩
  intro _ H1 bK
  refine(?_:let G_:Prop:=_;G_)
  intro G_
  obtain⟨s1,r,ys,IM,ly,hy,rfl⟩:=bK
  dsimp only[G_]
  clear G_
  change tSeq _ _ _ _ _
  refine aR (λσ' H2=>∃fa,H1 fa=none/\az H1 H2/\H2 fa=some (.lst [])/\σ'=[some (.ref a),some (.ref r),some (.ref fa),none,none]) ?_ (λN hN=>?_)
  case refine_2=>
   simp_all only[]
   exact⟨aar _,λfa nf=>hN _ _ ⟨fa,nf,au nf,ar,rfl⟩⟩
  intro _ H2 bK
  refine(?_:let G_:Prop:=_;G_)
  intro G_
  obtain⟨fa,nf,s2,IP,rfl⟩:=bK
  dsimp only[G_]
  clear G_
  have F4:∀i:Nat,i<b.length->∃d kvs,ys[i]?=some (.ref d)/\fv H1 d (Bf.steps b (i:Int))/\H1 d=some (.dK kvs)/\gL kvs=Pr.kb b (i:Int)/\(∀p∈kvs,∃k,p.1=Sum.inl k)/\kvs.length=(Pr.kb b (i:Int)).length:=λi hi=>by
   refine(?_:let G_:Prop:=_;G_)
   intro G_
   obtain⟨d,e,dr⟩:=hy i _ (aac (by omega))
   obtain⟨kvs,hd,hk,_⟩:=dr.ex
   dsimp only[G_]
   refine⟨d,kvs,by rw[aac (by omega),e],dr,hd,?_,λp hp=>?_,?_⟩
   ·have:gL kvs=(kvs.map (·.1)).map (λk:Key=>match k with | .inl i=>i | .inr _=>(0:Int)):=by
     unfold gL
     rw[aaM]
     rfl
    rw[this,hk,aaM]
    unfold Pr.kb
    simp [Function.comp_def]
   ·have:p.1∈(Bf.keys (Bf.steps b (i:Int))).map Sum.inl:=by rw[<-hk];exact List.mem_map.mpr ⟨p,hp,rfl⟩
    refine(?_:let G_:Prop:=_;G_)
    intro G_
    obtain⟨k,_,e⟩:=List.mem_map.mp this
    dsimp only[G_]
    exact⟨k,e.symm⟩
   ·have:=congrArg List.length hk
    rw[aab,aab] at this
    exact this
  change tSeq _ _ _ _ _
  refine aR (λσ' H3=>az H1 H3/\∃as,H3 fa=some (.lst (List.map V.ref as))/\Al (λp v=>∃x,v=.ref x/\H3 x=some (.lst (List.map V.int (Pr.c6 b p)))/\H1 x=none) (Pr.jb b b.length) (as.map V.ref)/\∃z3 z4,σ'=[some (.ref a),some (.ref r),some (.ref fa),z3,z4]) ?_ (λN hN=>?_)
  case refine_2=>
   simp_all only[]
   refine⟨_,s2 _ _ (s1 _ _ ha),by omega,by omega,?_⟩
   refine bN (src_range (Ok:=λ_=>True)) (λi σ H3=>az H1 H3/\∃as,H3 fa=some (.lst (List.map V.ref as))/\Al (λp v=>∃x,v=.ref x/\H3 x=some (.lst (List.map V.int (Pr.c6 b p)))/\H1 x=none/\x≠fa) (Pr.jb b i) (as.map V.ref)/\∃z3 z4,σ=[some (.ref a),some (.ref r),some (.ref fa),z3,z4]) ⟨s2,[],IP,trivial,_,_,rfl⟩ (λ_ _ _ _ _=>trivial) ?_ ?_
   ·intro i x σ H3 H4 hi dI dR
    refine(?_:let G_:Prop:=_;G_)
    intro G_
    obtain⟨s3,as,Bs,al,z3,z4,rfl⟩:=dI
    obtain⟨rfl,rfl⟩:=dR
    dsimp only[G_]
    clear G_
    simp_all only[Int.zero_add]
    have Ui:i<b.length:=by omega
    have vD:Pr.In b (i:Int):=⟨by omega,by omega⟩
    refine(?_:let G_:Prop:=_;G_)
    intro G_
    obtain⟨d,kvs,ed,dr,hd,ek,ka,kl⟩:=F4 i Ui
    dsimp only[G_]
    clear G_
    have kbl:=Pr.zS gb vD
    refine⟨ys,s3 _ _ IM,.ref d,bL ed,d,rfl,kvs,.inl (s3 _ _ hd),ka,by omega,λl nl=>?_⟩
    rw[ek]
    have sL:=au (o:=.lst (List.map V.int (Nm.lZ (Pr.kb b (i:Int))))) nl
    have IK:(upd H4 l (.lst (List.map V.int (Nm.lZ (Pr.kb b (i:Int)))))) l=some (.lst (List.map V.int (Nm.lZ (Pr.kb b (i:Int))))):=ar
    generalize upd H4 l (.lst (List.map V.int (Nm.lZ (Pr.kb b (i:Int)))))=H5 at *
    refine⟨⟨_,aZ.of IK⟩,?_⟩
    have S:Src (vN K l) (az H5) (Nm.lZ (Pr.kb b (i:Int))).length (λj x H H3=>H3=H/\(List.map V.int (Nm.lZ (Pr.kb b (i:Int))))[j]?=some x):=by
     have:=src_list (K:=K) (a:=l) (xs:=List.map V.int (Nm.lZ (Pr.kb b (i:Int)))) (Ok:=az H5) (λH' s'=>aZ.of (s' _ _ IK))
     rw[aab] at this
     exact this
    refine dF (Nm.lZ (Pr.kb b (i:Int))) (λo=>if decide ((i:Int)∈Pr.kb b o)=true then some o else none) S (λ_ _ _ _ h=>h.1) (by rw[Nm.m7];omega) ?_ ?_
    ·rintro j o x eo ⟨_,ex⟩ Y N1 y1 n1
     rw[aad,eo] at ex
     cases ex
     have ho:=Nm.v8.mp (aaf eo)
     obtain⟨Uj,WV⟩:=Pr.nU gb vD ho
     obtain⟨o,rfl⟩:=aav Uj
     refine(?_:let G_:Prop:=_;G_)
     intro G_
     obtain⟨d2,WW,Mi,WX,hd2,ek2,ka2,kl2⟩:=F4 o (by omega)
     obtain⟨oo,g1,g2⟩:=(WX.mono (s3.trans sL)).has (Pr.nS gb ⟨Uj,WV⟩) (i:Int)
     dsimp only[G_]
     simp_all only[s3.trans sL _ _ IM,show fH ys (o:Int)=some (.ref d2) from bL Mi]
     refine⟨oo,g1,?_⟩
     rw[g2]
     exact gI (λc=>y1 _ (if_pos c)) (λc=>n1 (if_neg c))
    ·intro D n1 n2
     rw[xn]
     have ep:(Nm.lZ (Pr.kb b (i:Int))).filter (λo=>decide ((i:Int)∈Pr.kb b o))=Pr.c6 b (i:Int):=rfl
     rw[ep]
     have ne:=Pr.iU gb vD
     have sD:=au (o:=.lst (List.map V.int (Pr.c6 b (i:Int)))) n2
     have hD:(upd H5 D (.lst (List.map V.int (Pr.c6 b (i:Int))))) D=some (.lst (List.map V.int (Pr.c6 b (i:Int)))):=ar
     generalize upd H5 D (.lst (List.map V.int (Pr.c6 b (i:Int))))=H6 at *
     have Uk:az H1 H6:=s3.trans (sL.trans sD)
     have IL:H6 fa=some (.lst (List.map V.ref as)):=sD _ _ (sL _ _ Bs)
     have nD:H1 D=none:=none_of (s3.trans sL) n2
     have Df:D≠fa:=λz=>by rw[z,sL _ _ Bs] at n2;cases n2
     have Ul:Al (λp v=>∃x,v=V.ref x/\H6 x=some (.lst (List.map V.int (Pr.c6 b p)))/\H1 x=none/\x≠fa) (Pr.jb b i) (as.map V.ref):=al.imp λp v ⟨x,e,h1,h2,h3⟩=>⟨x,e,sD _ _ (sL _ _ h1),h2,h3⟩
     have vE:=al.length
     rw[aab] at vE
     have oH:=Pr.wB (b:=b) (n:=i)
     cases ec:Pr.c6 b (i:Int) with
     | nil=>exact absurd ec ne
     | cons x0 rest=>
      have IQ:Pr.rep b (i:Int)=x0:=by unfold Pr.rep;rw[ec];rfl
      refine⟨_,hD,.int x0,by rw[ec,aas];exact at0,rfl,?_⟩
      by_cases c:x0=(i:Int)
      ·rw[if_pos (by rw[c])]
       refine⟨.inl ⟨rfl,_,aZ.of IL⟩,fa,List.map V.ref as,.ref D,rfl,rfl,IL,by rw[aab];omega,aX Uk nf,as++ [D],by rw[ar,aau];rfl,?_,_,rfl⟩
       rw[Pr.tH,if_pos (by rw[IQ,c]),aau]
       exact(Ul.imp λp v ⟨x,e,h1,h2,h3⟩=>⟨x,e,by rw[aG h3];exact h1,h2,h3⟩).append (.one ⟨D,rfl,by rw[aG Df];exact hD,nD,Df⟩)
      ·rw[if_neg (by intro z;exact c (by injection z))]
       refine⟨Uk,as,IL,?_,_,rfl⟩
       rw[Pr.tH,if_neg (by rw[IQ];exact c)]
       exact Ul
   ·intro σ H3 bK
    refine(?_:let G_:Prop:=_;G_)
    intro G_
    obtain⟨s3,as,Bs,al,z3,z4,rfl⟩:=bK
    dsimp only[G_]
    rw[aah,<-lx] at al
    exact hN _ _ ⟨s3,as,Bs,al.imp λp v ⟨x,e,h1,h2,_⟩=>⟨x,e,h1,h2⟩,_,_,rfl⟩
  intro _ H3 bK
  refine(?_:let G_:Prop:=_;G_)
  intro G_
  obtain⟨s3,as,Bs,al,z3,z4,rfl⟩:=bK
  dsimp only[G_]
  simp_all only[zF]
  have each:∀x∈as,∃p,p∈Pr.jb b b.length/\H3 x=some (.lst (List.map V.int (Pr.c6 b p)))/\H1 x=none/\ot H3 x=p/\Pr.In b p:=λx hx=>by
   obtain⟨i,ei⟩:=aaw hx
   obtain⟨p,ep,x',e,h1,h2⟩:=al.get (show(as.map V.ref)[i]?=some (.ref x) by rw[aad,ei];rfl)
   cases e
   have mp:=aaf ep
   obtain⟨vD,er⟩:=Pr.hJ.mp mp
   refine⟨p,mp,h1,h2,?_,vD⟩
   unfold ot
   rw[h1]
   unfold Pr.rep at er
   cases ec:Pr.c6 b p with
   | nil=>exact absurd ec (Pr.iU gb vD)
   | cons x0 r0=>rw[ec] at er;exact er
  have emap:as.map (ot H3)=Pr.jb b b.length:=by
   apply aaS
   intro i
   rw[aad]
   cases ei:as[i]? with
   | none=>
    have l1:=al.length
    rw[aab] at l1
    have l2:=List.getElem?_eq_none_iff.mp ei
    rw[aaq (by omega)]
    rfl
   | some x=>
    obtain⟨p,ep,x',e,h1,h2⟩:=al.get (show(as.map V.ref)[i]?=some (.ref x) by rw[aad,ei];rfl)
    cases e
    obtain⟨vD,er⟩:=Pr.hJ.mp (aaf ep)
    rw[ep]
    show some (ot H3 x)=some p
    unfold ot
    rw[h1]
    unfold Pr.rep at er
    cases ec:Pr.c6 b p with
    | nil=>exact absurd ec (Pr.iU gb vD)
    | cons x0 r0=>rw[ec] at er;exact congrArg some er
  have vE:=al.length
  rw[aab] at vE
  have oH:=Pr.wB (b:=b) (n:=b.length)
  refine⟨as,Bs,by omega,λx=>((Pr.kb b (ot H3 x)).length:Int),ys,s3 _ _ IM,s3 _ _ (s1 _ _ kX),λx hx=>?_,λp cs H4 s4 np hp pm pw=>?_⟩
  ·refine(?_:let G_:Prop:=_;G_)
   intro G_
   obtain⟨p,mp,h1,h2,h3,vD⟩:=each x hx
   obtain⟨i,rfl⟩:=aav vD.1
   have i1:=vD.2
   obtain⟨d,kvs,ed,dr,hd,ek,ka,kl⟩:=F4 i (by omega)
   dsimp only[G_]
   show ∃j xs,H3 x=some (HO.lst (V.int j::xs))/\0<=j/\j<1000000/\∃x_1,ys[j.toNat]?=some (V.ref x_1)/\∃x_2,H3 x_1=some (HO.dK x_2)/\((Pr.kb b (ot H3 x)).length:Int)=((x_2.length:Nat):Int)
   rw[h3]
   have er:=(Pr.hJ.mp mp).2
   unfold Pr.rep at er
   cases ec:Pr.c6 b (i:Int) with
   | nil=>exact absurd ec (Pr.iU gb vD)
   | cons x0 r0=>
    rw[ec] at er h1
    have er:x0=(i:Int):=er
    subst er
    exact⟨(i:Int),_,h1,by omega,by omega,d,by rw[aah];exact ed,kvs,s3 _ _ hd,by rw[kl]⟩
  ·have ME:(cs.map (ot H3)).Perm (Pr.jb b b.length):=by rw[<-emap];exact pm.map _
   refine kk p (cs.map (ot H3)) cs H4 ⟨ME,?_⟩ ((s1.trans s3).trans s4) (none_of (s1.trans s3) np) hp ?_
   ·rw[List.pairwise_map]
    exact pw.imp λ{x y} (h:((Pr.kb b (ot H3 x)).length:Int)<=((Pr.kb b (ot H3 y)).length:Int))=>by omega
   ·refine Al.of (by rw[aab,aab]) λi v q e1 e2=>?_
    rw[aad] at e1 e2
    refine(?_:let G_:Prop:=_;G_)
    intro G_
    obtain⟨x,ex,rfl⟩:=Option.map_eq_some_iff.mp e1
    dsimp only[G_]
    rw[ex] at e2
    cases e2
    refine(?_:let G_:Prop:=_;G_)
    intro G_
    obtain⟨q,mq,h1,h2,h3,vD⟩:=each x (pm.mem_iff.mp (aaf ex))
    dsimp only[G_]
    rw[h3]
    exact⟨x,rfl,s4 _ _ h1,none_of s1 h2⟩
theorem fz:aN ["rows","start","spot"] ["rows","start"] (ae (top 16)):=⟨rfl,rfl,rfl,by decide +kernel,rfl,by decide +kernel,by decide +kernel⟩
theorem IS (T:Txt K mg aA tc):bX P w K mg base (bQ P w) 1 "row_with_head" ["rows","start"] Fu:=by
 refine T.kZ.eD (λ_ _ _ _ _ _=>eZ λ_ _=>rfl) λf fd F=>F.eL fz (λvs H Q E h=>?_) (λcK A outer s H vs Q E hr h=>?_)
 ·obtain⟨_,_,_,rfl,_⟩:=h;rfl
 ·refine(?_:let G_:Prop:=_;G_)
  intro G_
  obtain⟨a,L,k,rfl,⟨xs,ha,al⟩,kn,MF,ne,kS,kN⟩:=h
  dsimp only[G_]
  have nd:=fz.nd
  refine⟨_,(ag (cz PassesOwn.never rfl (xF rfl T.z_range (aa (pv 1) (aa (ba bD (by rfl) T.z_len aaA (aa (pv 0) af (se rfl)) (he:=se rfl) (hpl:=na rfl)) af (se rfl)) (se rfl))) (aE (i:=2) nd rfl (Or.inl rfl)) (ax (bW (aQ vR (aI aL (aI aL (pv 0) (pv 2) (λ_ _=>rfl)) ao (λ_ _=>rfl)) ao (aV _)) (ax (aT (pv 2)))
   bC)))
  (ax (aT eV))),?_⟩
  have lx:=al.length
  simp_all only[]
  refine⟨_,ha,by omega,by omega,by omega,by omega,bN (src_range (Ok:=λ_=>True)) (λi σ H'=>H=H'/\(∀j:Nat,k<=j->j<k+i->(L.getD j []).headD 0=0)/\∃z,σ=[some (.ref a),some (.int (k:Int)),z]) ⟨rfl,λj h1 h2=>by omega,_,rfl⟩ (λ_ _ _ _ _=>trivial) ?_ ?_⟩
  ·intro i x σ H' H'' hi dI dR
   refine(?_:let G_:Prop:=_;G_)
   intro G_
   obtain⟨rfl,hz,z,rfl⟩:=dI
   obtain⟨rfl,rfl⟩:=dR
   have CS:k+i<L.length:=by omega
   have er:L[k+i]?=some L[k+i]:=aac CS
   obtain⟨q,eq,hq⟩:=oa al er
   dsimp only[G_]
   have eh:=jy (ne L[k+i] (aan CS))
   have eg:L.getD (k+i) []=L[k+i]:=by rw[aae,er];rfl
   have ei:((k:Int)+ (i:Int))=((k+i:Nat):Int):=by omega
   rw[ei]
   simp_all only[ha,eq,hq,eh]
   refine gI (λc=>?_) (λc=>?_)
   ·exact kS (k+i) (by omega) CS (by rw[eg];exact c)
   ·refine⟨λj h1 h2=>?_,_,rfl⟩
    by_cases e:j=k+i
    ·rw[e,eg]
     exact Decidable.not_not.mp c
    ·exact hz j h1 (by omega)
  ·intro σ H' bK
   refine(?_:let G_:Prop:=_;G_)
   intro G_
   obtain⟨rfl,hz,z,rfl⟩:=bK
   dsimp only[G_]
   simp_all only[]
   exact kN λi h1 h2=>hz i h1 (by omega)
theorem ou:aN ["rows","one","other","turned"] ["rows","one","other"] (ae (top 17)):=⟨rfl,rfl,rfl,by decide +kernel,rfl,by decide +kernel,by decide +kernel⟩
theorem F5 (T:Txt K mg aA tc):bX P w K mg base (bQ P w) 1 "swapped" ["rows","one","other"] Ap:=by
 refine T.yc.eD (λ_ _ _ _ _ _=>qR λ_ _ _=>rfl) λf fd F=>F.eL ou (λvs H Q E h=>?_) (λcK A outer s H vs Q E hr h=>?_)
 ·obtain⟨_,_,_,_,rfl,_⟩:=h;rfl
 ·refine(?_:let G_:Prop:=_;G_)
  intro G_
  obtain⟨a,L,i,j,rfl,⟨xs,ha,al⟩,hi,hj,MF,kk⟩:=h
  dsimp only[G_]
  clear G_
  have nd:=ou.nd
  refine⟨_,(ag (aF (i:=3) nd rfl (Or.inl rfl) (dE (cP (K:=K)) (by rfl) T.z_list rfl (aa (pv 0) af (se rfl)) (he:=se rfl) (hpl:=na rfl)))
  (ag (eB (aI aL (pv 0) (pv 2) (λ_ _=>rfl)) (fM (pv 3) (pv 1) set_list))
  (ag (eB (aI aL (pv 0) (pv 1) (λ_ _=>rfl)) (fM (pv 3) (pv 2) set_list))
  (ax (aT (pv 3)))))),?_⟩
  refine(?_:let cu:TS:=_;let cv:TS:=_;let cw:TS:=_;let dQ:TS:=_;tSeq cu (tSeq cv (tSeq cw dQ)) _ _ _)
  intro cu cv cw dQ
  have lx:=al.length
  have ei:L[i]?=some (L.getD i []):=by rw[aae,aac hi];rfl
  have ej:L[j]?=some (L.getD j []):=by rw[aae,aac hj];rfl
  refine(?_:let G_:Prop:=_;G_)
  intro G_
  obtain⟨qi,ai,WY⟩:=oa al ei
  obtain⟨qj,aj,WZ⟩:=oa al ej
  dsimp only[G_]
  clear G_
  simp_all only[ha]
  refine⟨_,.inl (aZ.of ha),λm nm=>?_⟩
  have sm:=au (o:=.lst xs) nm
  have hm:upd H m (.lst xs) m=some (.lst xs):=ar
  generalize upd H m (.lst xs)=H1 at *
  simp_all only[sm _ _ ha,aj]
  have am:a≠m:=λe=>by rw[e,nm] at ha;cases ha
  refine⟨_,hm,i,hX (by omega),_,by rw[aG am];exact sm _ _ ha,_,ai,_,ar,j,hX (by rw[aaX];omega),?_⟩
  have s2:=aX (o:=.lst ((xs.set i (V.ref qj)).set j (V.ref qi))) (aX (o:=.lst (xs.set i (V.ref qj))) sm nm) nm
  exact kk _ _ s2 ⟨_,ar,((al.imp λ_ _ h=>h.mono s2).set ⟨qj,rfl,s2 _ _ WZ⟩).set ⟨qi,rfl,s2 _ _ WY⟩⟩
theorem dm:aN ["rows","spot","last","head","tail","left","number","row","first"] ["rows","spot","last"] (ae (top 18)):=⟨rfl,rfl,rfl,by decide +kernel,rfl,by decide +kernel,by decide +kernel⟩
theorem IT (T:Txt K mg aA tc):bX P w K mg base (bQ P w) 1 "without_first_column" ["rows","spot","last"] Fv:=by
 refine T.fV.eD (λ_ _ _ _ _ _=>qR λ_ _ _=>rfl) λf fd F=>F.eL dm (λvs H Q E h=>?_) (λcK A outer s H vs Q E hr h=>?_)
 ·obtain⟨_,_,_,_,_,rfl,_⟩:=h;rfl
 ·refine(?_:let G_:Prop:=_;G_)
  intro G_
  obtain⟨a,L,s',l,m,rfl,⟨xs,ha,al⟩,hs,MF,Mu,DY,l0,bl,bx,kk⟩:=h
  dsimp only[G_]
  clear G_
  have nd:=dm.nd
  refine⟨_,(ag (aF (i:=3) nd rfl (Or.inr rfl) (aI aL (aI aL (pv 0) (pv 1) (λ_ _=>rfl)) ao (λ_ _=>rfl)))
  (ag (aF (i:=4) nd rfl (Or.inl rfl) (mV (sN (K:=K)) (aI aL (pv 0) (pv 1) (λ_ _=>rfl)) (qp ao) qo))
  (ag (aF (i:=5) nd rfl (Or.inl rfl) (cQ af))
  (ag (cz PassesOwn.never rfl (cO (K:=K) rfl T.z_enumerate (aa (pv 0) af (se rfl))) (b9 (K:=K) (n:=2) rfl (aS (aE (i:=6) nd rfl (Or.inl rfl)) (aS (aE (i:=7) nd rfl (Or.inl rfl)) b8))) (ax (bW (aQ cV (pv 6) (pv 1) (aV _)) (ax (cF (dD aaE aaN aaO bS.r (pv 5) (aa (pv 4) af (se rfl)))))
   (ag (aF (i:=8) nd rfl (Or.inr rfl) (aI aL (pv 7) ao (λ_ _=>rfl)))
  (ax (cF (dD aaE aaN aaO bS.r (pv 5) (aa (bT rfl (N:=["rows","spot","last","head","tail","left","number","row","first"]) (so:=ae (top 18)) (N':=["one","other","last","head","first"]) (k:=2) (fr:=[2,3,8]) rfl rfl ⟨rfl,by decide +kernel,by decide +kernel,by decide +kernel,rfl,by decide +kernel,by decide +kernel⟩ (js (K:=K) rfl T.z_zip (aa (mV (sN (K:=K)) (pv 7) (qp ao) qo) (aa (pv 4) af (se rfl)) (se rfl))) (λ_ _ _ _ _=>(b9 (K:=K) (n:=2) rfl (aS (aE (i:=0) (show(["one","other","last","head","first"]:List Str).Nodup by decide +kernel) rfl (Or.inl rfl)) (aS (aE (i:=1) (show(["one","other","last","head","first"]:List Str).Nodup by decide +kernel) rfl (Or.inl rfl)) b8)))) (λ_ _ _ _ _=>bI)
   (λ_ _ _ _ _=>(aD yX (aD iK (aD bo (pv 3) (pv 0)) (aD bo (pv 4) (pv 1))) (pv 2)))) af (se rfl)))))))))
  (ax (aT (pv 5))))))),?_⟩
  refine(?_:let cu:TS:=_;let cv:TS:=_;let cw:TS:=_;let dQ:TS:=_;let jF:TS:=_;tSeq cu (tSeq cv (tSeq cw (tSeq dQ jF))) _ _ _)
  intro cu cv cw dQ jF
  have sl:=sizeLine_eq
  have lx:=al.length
  have es:L[s']?=some (L.getD s' []):=by rw[aae,aac hs];rfl
  refine(?_:let G_:Prop:=_;G_)
  intro G_
  obtain⟨qs,Um,KP⟩:=oa al es
  dsimp only[G_]
  clear G_
  have ls:=DY _ (aaf es)
  have bs:=bx _ (aaf es)
  have hh:=jy (r:=L.getD s' []) (by omega)
  have bh:Bt 4000 ((L.getD s' []).headD 0):=bs _ (by
   cases e:L.getD s' [] with
   | nil=>rw[e] at ls;cases ls
   | cons x r=>exact aai ..)
  have hw:∀i:Nat,aP.oV L s' l i=if i=s' then (L.getD i []).tail else List.zipWith (λone other=>((L.getD s' []).headD 0*one - (L.getD i []).headD 0*other).fdiv l) (L.getD i []).tail (L.getD s' []).tail:=λi=>rfl
  generalize (L.getD s' []).headD 0=hd at *
  generalize L.getD s' []=R at *
  change tSeq _ _ _ _ _
  refine aR (λσ' H1=>H=H1/\σ'=[some (.ref a),some (.int (s':Int)),some (.int l),some (.int hd),none,none,none,none,none]) ?_ (λN hN=>?_)
  case refine_2=>
   simp_all only[ha,Um,KP,hh]
   exact hN _ _ ⟨rfl,rfl⟩
  rintro _ _ ⟨rfl,rfl⟩
  change tSeq _ _ _ _ _
  refine aR (λσ' H1=>az H H1/\∃tl,H1 tl=some (.lst (List.map V.int R.tail))/\σ'=[some (.ref a),some (.int (s':Int)),some (.int l),some (.int hd),some (.ref tl),none,none,none,none]) ?_ (λN hN=>?_)
  case refine_2=>
   simp_all only[ha,Um]
   exact⟨_,aZ.of KP,λtl W3=>hN _ _ ⟨au W3,tl,by rw[ar,tN],rfl⟩⟩
  intro _ H1 bK
  refine(?_:let G_:Prop:=_;G_)
  intro G_
  obtain⟨vF,tl,MG,rfl⟩:=bK
  dsimp only[G_]
  clear G_
  change tSeq _ _ _ _ _
  refine aR (λσ' H2=>az H1 H2/\∃lf,H1 lf=none/\H2 lf=some (.lst [])/\σ'=[some (.ref a),some (.int (s':Int)),some (.int l),some (.int hd),some (.ref tl),some (.ref lf),none,none,none]) ?_ (λN hN=>?_)
  case refine_2=>
   simp_all only[]
   exact⟨aar _,λlf nl=>hN _ _ ⟨au nl,lf,nl,ar,rfl⟩⟩
  intro _ H2 bK
  refine(?_:let G_:Prop:=_;G_)
  intro G_
  obtain⟨KQ,lf,IJ,W4,rfl⟩:=bK
  dsimp only[G_]
  clear G_
  have W5:tl≠lf:=λe=>by rw[e,IJ] at MG;cases MG
  change tSeq _ _ _ _ _
  refine aR (λσ' H3=>az H1 H3/\q9 H3 lf (aP.KG L s' l)/\∃z1 z2 z3,σ'=[some (.ref a),some (.int (s':Int)),some (.int l),some (.int hd),some (.ref tl),some (.ref lf),z1,z2,z3]) ?_ (λN hN=>?_)
  case refine_2=>
   simp_all only[]
   refine⟨⟨_,aZ.of (KQ _ _ (vF _ _ ha))⟩,bN (fk (Ok:=az H1) (λH' s=>aZ.of (s _ _ (vF _ _ ha)))) (λi σ H3=>az H1 H3/\∃ys,H3 lf=some (.lst ys)/\Al (Rw (cE H3 lf)) ((List.range i).map (aP.oV L s' l)) ys/\∃z1 z2 z3,σ=[some (.ref a),some (.int (s':Int)),some (.int l),some (.int hd),some (.ref tl),some (.ref lf),z1,z2,z3]) ⟨KQ,[],W4,trivial,_,_,_,rfl⟩ (λ_ _ _ _ h=>h.1) ?_ ?_⟩
   ·intro i x σ H3 H4 hi dI dR
    refine(?_:let G_:Prop:=_;G_)
    intro G_
    obtain⟨F6,ys,MH,ay,z1,z2,z3,rfl⟩:=dI
    obtain⟨p,y,np,rfl,ey,rfl⟩:=dR
    obtain⟨r,er,q,rfl,hq⟩:=al.get ey
    dsimp only[G_]
    clear G_
    have ly:=ay.length
    rw[aab,aaz] at ly
    have W6:=DY _ (aaf er)
    have Uo:=bx _ (aaf er)
    have gr:L.getD i []=r:=by rw[aae,er];rfl
    refine⟨p,_,rfl,d6.of ar,rfl,?_⟩
    have s4:=au (o:=.tup [.int i,.ref q]) np
    generalize upd H3 p (.tup [.int i,.ref q])=H4 at *
    have KR:=F6.trans s4
    have xm:=s4 _ _ MH
    have Up:=KR _ _ (vF _ _ hq)
    have Uq:=KR _ _ MG
    have Ur:=ay.imp λ_ _ h=>h.mono (bF (p:=lf) s4)
    have eR:(List.range (i+1)).map (aP.oV L s' l)=(List.range i).map (aP.oV L s' l)++ [aP.oV L s' l i]:=by rw[List.range_succ,aau];rfl
    simp_all only[cG]
    by_cases c:i=s'
    ·rw[if_pos (by omega)]
     refine⟨.inl ⟨rfl,_,aZ.of xm⟩,_,xm,by omega,aX KR IJ,_,ar,?_,_,rfl⟩
     rw[rh,eR]
     refine Ur.append (.one ⟨tl,rfl,?_⟩)
     have W7:r=R:=by
      subst c
      rw[er] at es
      cases es
      rfl
     rw[bz W5,Uq,hw,if_pos c,gr,W7]
    ·rw[if_neg (by omega)]
     have W8:=jy (r:=r) (by omega)
     simp_all only[Up,W8,cG]
     refine⟨.inl ⟨rfl,_,aZ.of xm⟩,_,aZ.of Up,λp2 C4=>?_⟩
     have s5:=au (o:=.lst (iM (List.map V.int r) (some 1) none)) C4
     have rR:upd H4 p2 (.lst (iM (List.map V.int r) (some 1) none)) p2=some (.lst (List.map V.int r.tail)):=by rw[ar,tN]
     generalize upd H4 p2 (.lst (iM (List.map V.int r) (some 1) none))=H5 at *
     have W9:=KR.trans s5
     have Us:=s5 _ _ Uq
     have Xa:Bt 4000 (r.headD 0):=Uo _ (by
      cases r with
      | nil=>cases W6
      | cons x r=>exact aai ..)
     refine⟨⟨_,aZ.of rR⟩,⟨_,aZ.of Us⟩,?_⟩
     refine fj (K:=K) (jr (λH' s'=>aZ.of (s' _ _ rR)) (λH' s'=>aZ.of (s' _ _ Us))) (λj u v _=>∃o1 o2,r.tail[j]?=some o1/\R.tail[j]?=some o2/\u=.int o1/\v=.int o2) ?_ (by rw[aab,aab,List.length_tail,List.length_tail];omega) (λj y _=>∀o1 o2,r.tail[j]?=some o1->R.tail[j]?=some o2->y=.int ((hd*o1 - r.headD 0*o2).fdiv l)) (λ_ _ _ _ _ h=>h) ?_ ?_
     ·intro j v H6 H7 hj s6 dI
      refine(?_:let G_:Prop:=_;G_)
      intro G_
      obtain⟨t,x,y,nt,rfl,ex,HS,rfl⟩:=dI
      rw[aad] at ex HS
      obtain⟨o1,e1,rfl⟩:=Option.map_eq_some_iff.mp ex
      obtain⟨o2,e2,rfl⟩:=Option.map_eq_some_iff.mp HS
      dsimp only[G_]
      exact⟨au nt,t,_,_,rfl,d6.of ar,o1,o2,e1,e2,rfl,rfl⟩
     ·intro j u v H6 Q2 hj s6 dR kq
      refine(?_:let G_:Prop:=_;G_)
      intro G_
      obtain⟨o1,o2,e1,e2,rfl,rfl⟩:=dR
      dsimp only[G_]
      have b1:=Uo o1 (List.mem_of_mem_tail (aaf e1))
      have b2:=bs o2 (List.mem_of_mem_tail (aaf e2))
      simp_all only[]
      refine⟨bh.fh b1,Xa.fh b2,vX.of l0 bl,kq _ _ (az.refl _) λ_ _ f1 f2=>?_⟩
      rw[e1] at f1
      rw[e2] at f2
      cases f1
      cases f2
      rfl
     ·intro zs H6 s6 lz hz D n1 n2
      have ez:=Ao (f:=λo1 o2=>(hd*o1 - r.headD 0*o2).fdiv l) lz hz
      have C3:=s6 _ _ (s5 _ _ xm)
      refine⟨_,au n2 _ _ C3,by omega,aX ((W9.trans s6).trans (au n2)) IJ,_,ar,?_,_,rfl⟩
      rw[rh,eR]
      refine(Ur.imp λ_ _ h=>h.mono (bF ((s5.trans s6).trans (au n2)))).append (.one ⟨D,rfl,?_⟩)
      rw[bz (λe=>by rw[e,C3] at n2;cases n2),ar,hw,if_neg c,gr,ez]
   ·intro σ H3 bK
    refine(?_:let G_:Prop:=_;G_)
    intro G_
    obtain⟨F6,ys,MH,ay,z1,z2,z3,rfl⟩:=bK
    dsimp only[G_]
    rw[lx] at ay
    exact hN _ _ ⟨F6,⟨ys,MH,ay.imp λ_ _ h=>h.mono bO⟩,_,_,_,rfl⟩
  intro _ H3 bK
  refine(?_:let G_:Prop:=_;G_)
  intro G_
  obtain⟨F6,hm,z1,z2,z3,rfl⟩:=bK
  dsimp only[G_]
  simp_all only[]
  exact kk _ _ (vF.trans F6) hm
theorem t8:aN ["rows","columns","last","column","spot","head"] ["rows","columns"] (ae (top 19)):=⟨rfl,rfl,rfl,by decide +kernel,rfl,by decide +kernel,by decide +kernel⟩
theorem IU (T:Txt K mg aA tc):bX P w K mg base (bQ P w) 2 "swept" ["rows","columns"] Fw:=by
 have lE:bX P w K mg base (bQ P w) 1 "row_with_head" ["rows","start"] Fu:=IS T
 have yp:bX P w K mg base (bQ P w) 1 "swapped" ["rows","one","other"] Ap:=F5 T
 have fX:bX P w K mg base (bQ P w) 1 "without_first_column" ["rows","spot","last"] Fv:=IT T
 refine T.Ct.eD (λ_ _ _ _ _ _=>eZ λ_ _=>rfl) λf fd F=>F.eL t8 (λvs H Q E h=>?_) (λcK A outer s H vs Q E hr h=>?_)
 ·obtain⟨_,_,_,_,rfl,_⟩:=h;rfl
 ·refine(?_:let G_:Prop:=_;G_)
  intro G_
  obtain⟨a,L,n,m,rfl,hM,B,kk⟩:=h
  dsimp only[G_]
  have nd:=t8.nd
  refine⟨_,(ag (aF (i:=2) nd rfl (Or.inl rfl) ao)
  (ag (cz PassesOwn.never rfl (di rfl T.z_range (aa (pv 1) af (se rfl))) (aE (i:=3) nd rfl (Or.inl rfl)) (ag (aF (i:=4) nd rfl (Or.inl rfl) (aH lE (hr.mono (by decide)) rfl aB.pass (aa (pv 0) (aa (pv 3) af (se rfl)) (se rfl)) (he:=se rfl) (hpl:=na rfl)))
  (ag (bW (aQ uA (pv 4) eV (aV _)) (ax (aT (bH (aa (pv 0) (aa (pv 3) (aa (pv 2) af (se rfl)) (se rfl)) (se rfl)))))
   bC)
  (ag (aF (i:=0) nd rfl (Or.inl rfl) (aH yp (hr.mono (by decide)) rfl aB.pass (aa (pv 0) (aa (pv 3) (aa (pv 4) af (se rfl)) (se rfl)) (se rfl)) (he:=se rfl) (hpl:=na rfl)))
  (ag (aF (i:=5) nd rfl (Or.inl rfl) (aI aL (aI aL (pv 0) (pv 3) (λ_ _=>rfl)) ao (λ_ _=>rfl)))
  (ag (aF (i:=0) nd rfl (Or.inl rfl) (aH fX (hr.mono (by decide)) rfl aB.pass (aa (pv 0) (aa (pv 3) (aa (pv 2) af (se rfl)) (se rfl)) (se rfl)) (he:=se rfl) (hpl:=na rfl)))
  (ax (aF (i:=2) nd rfl (Or.inl rfl) (pv 5)))))))))
  (ax (aT (bH (aa (pv 0) (aa (pv 1) (aa (pv 2) af (se rfl)) (se rfl)) (se rfl))))))),?_⟩
  refine(?_:let cu:TS:=_;let cv:TS:=_;let cw:TS:=_;tSeq cu (tSeq cv cw) _ _ _)
  intro cu cv cw
  have sl:=sizeLine_eq
  have Bn:=B.nm
  have Bm:=B.Mu
  have hlen:(L.map aP.fo).length=n:=by rw[aab,B.len]
  change tSeq _ _ _ _ _
  refine aR (λσ' H1=>H=H1/\σ'=[some (.ref a),some (.int (n:Int)),some (.int 1),none,none,none]) ?_ (λN hN=>?_)
  case refine_2=>
   simp_all only[]
   exact hN _ _ ⟨rfl,rfl⟩
  rintro _ _ ⟨rfl,rfl⟩
  change tSeq _ _ _ _ _
  refine aR (λσ' H1=>az H H1/\∃p rs W,aP.iW (L.map aP.fo) n n rs W/\q9 H1 p (W.map λv=>aP.bP v rs n m)/\∃z1 z2 z3,σ'=[some (.ref p),some (.int (n:Int)),some (.int (aP.D rs (aP.dn n))),z1,z2,z3]) ?_ (λN hN=>?_)
  case refine_2=>
   simp_all only[]
   refine⟨by omega,by omega,bN (src_range (Ok:=λ_=>True)) (λi σ H1=>az H H1/\∃p rs W,aP.iW (L.map aP.fo) n i rs W/\q9 H1 p (W.map λv=>aP.bP v rs i m)/\∃z1 z2 z3,σ=[some (.ref p),some (.int (n:Int)),some (.int (aP.D rs (aP.dn i))),z1,z2,z3]) ?_ (λ_ _ _ _ _=>trivial) ?_ ?_⟩
   ·refine⟨az.refl _,a,[],L.map aP.fo,?_,?_,_,_,_,rfl⟩
    ·have:=aP.iW.start (U:=L.map aP.fo)
     rw[hlen] at this
     exact this
    ·rw[aP.vj B.row]
     exact hM
   ·intro k x σ H1 H2 hi dI dR
    refine(?_:let G_:Prop:=_;G_)
    intro G_
    obtain⟨vF,p,rs,W,S,hW,z1,z2,z3,rfl⟩:=dI
    obtain⟨rfl,rfl⟩:=dR
    dsimp only[G_]
    have lW:=S.len
    have hk:k<n:=by omega
    have MI:k<m:=by omega
    have rb:∀r∈W.map (λv=>aP.bP v rs k m),∀x∈r,Bt 4000 x:=λr hr x hx=>by
     refine(?_:let G_:Prop:=_;G_)
     intro G_
     obtain⟨v,hv,rfl⟩:=List.mem_map.mp hr
     dsimp only[G_]
     unfold aP.bP at hx
     refine(?_:let G_:Prop:=_;G_)
     intro G_
     obtain⟨t,_,rfl⟩:=List.mem_map.mp hx
     dsimp only[G_]
     exact(B.BV _ _ _ S).2 v hv _
    have db:=(B.BV _ _ _ S).1
    have Xb:(W.map λv=>aP.bP v rs k m).length=n:=by rw[aab,lW]
    have F7:∀r∈W.map (λv=>aP.bP v rs k m),r.length=(m - (k+1))+1:=λr hr=>by
     refine(?_:let G_:Prop:=_;G_)
     intro G_
     obtain⟨v,_,rfl⟩:=List.mem_map.mp hr
     dsimp only[G_]
     rw[aP.du]
     omega
    have Ut:∀(i:Nat) (v:aP.Fm),W[i]?=some v->((W.map λv=>aP.bP v rs k m).getD i []).headD 0=aP.D (v::rs) (k::aP.dn k):=λi v e=>by
     rw[aP.getD_map e,aP.df MI]
     rfl
    change tSeq _ _ _ _ _
    rw[Int.zero_add]
    refine aR (λσ' H3=>H2=H3/\((aP.pV k rs W/\σ'=[some (.ref p),some (.int (n:Int)),some (.int (aP.D rs (aP.dn k))),some (.int (k:Int)),some .cB,z3])\/∃i u,k<=i/\i<n/\W[i]?=some u/\aP.D (u::rs) (k::aP.dn k)≠0/\σ'=[some (.ref p),some (.int (n:Int)),some (.int (aP.D rs (aP.dn k))),some (.int (k:Int)),some (.int (Nat.cast i)),z3])) ?_ (λN DZ=>?_)
    case refine_2=>
     simp_all only[Fu]
     refine⟨_,k,rfl,hW,by omega,by omega,λr hr=>by rw[F7 r hr];omega,λi h1 h2 h3=>?_,λh=>?_⟩
     ·rw[Xb] at h2
      have ei:W[i]?=some W[i]:=aac (by omega)
      rw[Ut i _ ei] at h3
      exact DZ _ _ ⟨rfl,.inr ⟨i,_,h1,h2,ei,h3,rfl⟩⟩
     ·refine DZ _ _ ⟨rfl,.inl ⟨λu hu=>?_,rfl⟩⟩
      refine(?_:let G_:Prop:=_;G_)
      intro G_
      obtain⟨i,um,rfl⟩:=aa2 hu
      dsimp only[G_]
      rw[List.length_drop] at um
      have ei:W[k+i]?=some W[k+i]:=aac (by omega)
      have:=h (k+i) (by omega) (by omega)
      rw[Ut _ _ ei] at this
      rw[List.getElem_drop]
      exact this
    rintro _ _ ⟨rfl,⟨yB,rfl⟩ | ⟨i,u,h1,h2,ei,L3,rfl⟩⟩
    ·simp_all only[]
     exact⟨by decide,λt H3 s3 nt e3=>kk t p k rs W _ S (λ_=>yB) (vF.trans s3) e3 (hW.mono s3)⟩
    ·have ek:W[k]?=some W[k]:=aac (by omega)
     change tSeq _ _ _ _ _
     refine aR (λσ' H3=>H2=H3/\σ'=[some (.ref p),some (.int (n:Int)),some (.int (aP.D rs (aP.dn k))),some (.int (k:Int)),some (.int (Nat.cast i)),z3]) ?_ (λN DZ=>?_)
     case refine_2=>
      simp_all only[]
      rw[if_neg (by simp)]
      exact DZ _ _ ⟨rfl,rfl⟩
     rintro _ _ ⟨rfl,rfl⟩
     change tSeq _ _ _ _ _
     refine aR (λσ' H3=>az H2 H3/\∃p2,q9 H3 p2 ((aP.mz W k i u W[k]).map λv=>aP.bP v rs k m)/\σ'=[some (.ref p2),some (.int (n:Int)),some (.int (aP.D rs (aP.dn k))),some (.int (k:Int)),some (.int (Nat.cast i)),z3]) ?_ (λN DZ=>?_)
     case refine_2=>
      simp_all only[Ap]
      refine⟨_,k,rfl,i,rfl,hW,by omega,by omega,by omega,λp2 H3 s3 h3=>DZ _ _ ⟨s3,p2,?_,rfl⟩⟩
      rw[aP.CI ei ek] at h3
      exact h3
     intro _ H3 bK
     refine(?_:let G_:Prop:=_;G_)
     intro G_
     obtain⟨F6,p2,Uu,rfl⟩:=bK
     have LU:=aP.Ah ei ek
     have lsw:(aP.mz W k i u W[k]).length=n:=by unfold aP.mz;rw[aaX,aaX,lW]
     have Xc:∀v∈aP.mz W k i u W[k],v∈W:=λv hv=>by
      unfold aP.mz at hv
      rcases List.mem_or_eq_of_mem_set hv with h | h
      ·rcases List.mem_or_eq_of_mem_set h with h | h
       ·exact h
       ·rw[h];exact aaf ei
      ·rw[h];exact aan _
     have IV:∀r∈(aP.mz W k i u W[k]).map (λv=>aP.bP v rs k m),r.length=(m - (k+1))+1:=λr hr=>by
      obtain⟨v,_,rfl⟩:=List.mem_map.mp hr
      rw[aP.du]
      omega
     have KU:∀r∈(aP.mz W k i u W[k]).map (λv=>aP.bP v rs k m),∀x∈r,Bt 4000 x:=λr hr x hx=>by
      obtain⟨v,hv,rfl⟩:=List.mem_map.mp hr
      exact rb _ (List.mem_map.mpr ⟨v,Xc v hv,rfl⟩) x hx
     have S2:=S.step hk h1 ei ek L3
     have ew:=aP.Ai (n:=n) S.good MI ei ek
     have e1:((aP.mz W k i u W[k]).map λv=>aP.bP v rs k m)[k]?=some (aP.bP u rs k m):=by rw[aad,LU];rfl
     obtain⟨xs,Xd,al⟩:=id Uu
     obtain⟨q,aq,hq⟩:=oa al e1
     dsimp only[G_]
     have ah:=jy (r:=aP.bP u rs k m) (by rw[aP.du];omega)
     have eh:(aP.bP u rs k m).headD 0=aP.D (u::rs) (k::aP.dn k):=by rw[aP.df MI];rfl
     rw[eh] at ah
     change tSeq _ _ _ _ _
     refine aR (λσ' H4=>H3=H4/\σ'=[some (.ref p2),some (.int (n:Int)),some (.int (aP.D rs (aP.dn k))),some (.int (k:Int)),some (.int (Nat.cast i)),some (.int (aP.D (u::rs) (k::aP.dn k)))]) ?_ (λN DZ=>?_)
     case refine_2=>
      simp_all only[Xd,aq,hq,ah]
      exact DZ _ _ ⟨rfl,rfl⟩
     rintro _ _ ⟨rfl,rfl⟩
     simp_all only[Fv]
     refine⟨_,k,rfl,Uu,by rw[aab];omega,by rw[aab];omega,m - (k+1),by omega,IV,S.good.ne,db,KU,λp3 H4 s4 h4=>?_⟩
     rw[ew] at h4
     exact⟨vF.trans (F6.trans s4),_,_,_,S2,h4,rfl,rfl,_,rfl⟩
   ·intro σ H1 bK
    refine(?_:let G_:Prop:=_;G_)
    intro G_
    obtain⟨vF,p,rs,W,S,hW,z1,z2,z3,rfl⟩:=bK
    dsimp only[G_]
    exact hN _ _ ⟨vF,p,rs,W,S,hW,_,_,_,rfl⟩
  intro _ H1 bK
  refine(?_:let G_:Prop:=_;G_)
  intro G_
  obtain⟨vF,p,rs,W,S,hW,z1,z2,z3,rfl⟩:=bK
  dsimp only[G_]
  simp_all only[]
  exact⟨by decide,λt H2 s2 nt e2=>kk t p n rs W _ S (λh=>absurd h (aaF _)) (vF.trans s2) e2 (hW.mono s2)⟩
theorem fA:aN ["rows","right","done","sign"] ["rows","right"] (ae (top 20)):=⟨rfl,rfl,rfl,by decide +kernel,rfl,by decide +kernel,by decide +kernel⟩
theorem IW (T:Txt K mg aA tc):bX P w K mg base (bQ P w) 3 "whole_answers" ["rows","right"] Fy:=by
 have C5:bX P w K mg base (bQ P w) 2 "swept" ["rows","columns"] Fw:=IU T
 refine T.lh.eD (λ_ _ _ _ _ _=>eZ λ_ _=>rfl) λf fd F=>F.eL fA (λvs H Q E h=>?_) (λcK A outer s H vs Q E hr h=>?_)
 ·obtain⟨_,_,_,_,_,rfl,_⟩:=h;rfl
 ·refine(?_:let G_:Prop:=_;G_)
  intro G_
  obtain⟨a,c,L,S,n,rfl,hM,hc,lS,sq,B,kN,kS⟩:=h
  dsimp only[G_]
  have nd:=fA.nd
  refine⟨_,(ag (aF (i:=2) nd rfl (Or.inl rfl) (aH C5 (hr.mono (by decide)) rfl aB.pass (aa (bT rfl (N:=["rows","right","done","sign"]) (so:=ae (top 20)) (N':=["row","side"]) (k:=2) (fr:=[]) rfl rfl ⟨rfl,by decide +kernel,by decide +kernel,by decide +kernel,rfl,by decide +kernel,by decide +kernel⟩ (js (K:=K) rfl T.z_zip (aa (pv 0) (aa (pv 1) af (se rfl)) (se rfl))) (λ_ _ _ _ _=>(b9 (K:=K) (n:=2) rfl (aS (aE (i:=0) (show(["row","side"]:List Str).Nodup by decide +kernel) rfl (Or.inl rfl)) (aS (aE (i:=1) (show(["row","side"]:List Str).Nodup by decide +kernel) rfl (Or.inl rfl)) b8)))) (λ_ _ _ _ _=>bI)
   (λ_ _ _ _ _=>(aD EF (pv 0) (cQ (aa (pv 1) af (se rfl)))))) (aa (ba bD (by rfl) T.z_len aaA (aa (pv 0) af (se rfl)) (he:=se rfl) (hpl:=na rfl)) af (se rfl)) (se rfl)) (he:=se rfl) (hpl:=na rfl)))
  (ag (bW (aQ o8 (aI aK (pv 2) ao (λ_ _=>rfl)) (ba bD (by rfl) T.z_len aaA (aa (pv 0) af (se rfl)) (he:=se rfl) (hpl:=na rfl)) (aV _)) (ax (aT eV))
   bC)
  (ag (aF (i:=3) nd rfl (Or.inr rfl) (gE (aQ kh (aI aK (pv 2) ao (λ_ _=>rfl)) ao (aV _)) ao (sk mO ao)))
  (ax (aT (bH (aa (bT rfl (N:=["rows","right","done","sign"]) (so:=ae (top 20)) (N':=["row","sign"]) (k:=1) (fr:=[3]) rfl rfl ⟨rfl,by decide +kernel,by decide +kernel,by decide +kernel,rfl,by decide +kernel,by decide +kernel⟩ (bj (K:=K) (aI aK (pv 2) ao (λ_ _=>rfl))) (λ_ _ _ _ _=>(aE (i:=0) (show(["row","sign"]:List Str).Nodup by decide +kernel) rfl (Or.inl rfl))) (λ_ _ _ _ _=>bI)
   (λ_ _ _ _ _=>(aD bo (aI aL (pv 0) ao (λ_ _=>rfl)) (pv 1)))) (aa (aD bo (aI aK (pv 2) ao (λ_ _=>rfl)) (pv 3)) af (se rfl)) (se rfl)))))))),?_⟩
  refine(?_:let cu:TS:=_;let cv:TS:=_;let cw:TS:=_;let dQ:TS:=_;tSeq cu (tSeq cv (tSeq cw dQ)) _ _ _)
  intro cu cv cw dQ
  have sl:=sizeLine_eq
  refine(?_:let G_:Prop:=_;G_)
  intro G_
  obtain⟨xs,ha,al⟩:=id hM
  dsimp only[G_]
  have lx:=al.length
  have hl:=sq.len
  have MF:n+1<=64:=B.Mu
  change tSeq _ _ _ _ _
  refine aR (λσ' H1=>az H H1/\∃t p k rs W,aP.iW ((aP.aug L S).map aP.fo) n k rs W/\(k<n->aP.pV k rs W)/\H1 t=some (.tup [.ref p,.int (Nat.cast k),.int (aP.D rs (aP.dn k))])/\q9 H1 p (W.map λv=>aP.bP v rs k (n+1))/\σ'=[some (.ref a),some (.ref c),some (.ref t),none]) ?_ (λN hN=>?_)
  case refine_2=>
   simp_all only[Fw]
   refine⟨⟨_,aZ.of ha⟩,⟨_,aZ.of hc⟩,?_⟩
   refine fj (K:=K) (jr (λH' s'=>aZ.of (s' _ _ ha)) (λH' s'=>aZ.of (s' _ _ hc))) (λi u v _=>∃r x,L[i]?=some r/\S[i]?=some x/\Rw H r u/\v=.int x) ?_ (by rw[aab];omega) (λi y H'=>∀r x,L[i]?=some r->S[i]?=some x->Rw H' (r++ [x]) y) (λ_ _ _ _ s h r x e1 e2=>(h r x e1 e2).mono s) ?_ ?_
   ·intro i v H2 H3 hi s2 dI
    refine(?_:let G_:Prop:=_;G_)
    intro G_
    obtain⟨t,x,y,nt,rfl,ex,ey,rfl⟩:=dI
    rw[aad] at ey
    obtain⟨z,ez,rfl⟩:=Option.map_eq_some_iff.mp ey
    obtain⟨r,er,hr⟩:=al.get ex
    dsimp only[G_]
    exact⟨au nt,t,_,_,rfl,d6.of ar,r,z,er,ez,hr,rfl⟩
   ·intro i u v H2 Q2 hi s2 dR kq
    refine(?_:let G_:Prop:=_;G_)
    intro G_
    obtain⟨r,x,er,ex,⟨q,rfl,hq⟩,rfl⟩:=dR
    dsimp only[G_]
    have lr:=sq.row r (aaf er)
    simp_all only[HC]
    refine⟨by decide,λm nm=>⟨_,au nm _ _ (s2 _ _ hq),_,ar,by simp only[aab,aap,aa9];omega,λp np=>kq _ _ ((au nm).trans (au np)) λr' x' e1 e2=>?_⟩⟩
    rw[er] at e1
    rw[ex] at e2
    cases e1
    cases e2
    exact⟨p,rfl,by rw[ar,aau];rfl⟩
   ·intro ys H2 s2 ly hy D n1 n2
    have s3:=s2.trans (au (o:=.lst ys) n2)
    have hm:q9 (upd H2 D (.lst ys)) D (aP.aug L S):=by
     rw[aab] at ly
     refine⟨ys,ar,Al.of (by rw[aP.jx hl lS];omega) λi y r e1 e2=>?_⟩
     have hi:=(List.getElem?_eq_some_iff.mp e1).1
     have er:L[i]?=some L[i]:=aac (by omega)
     have ex:S[i]?=some (S.getD i 0):=by rw[aae,aac (by omega)];rfl
     rw[aP.jw lS (by omega) er] at e2
     cases e2
     exact(hy i y e1 _ _ er ex).mono (au n2)
    refine⟨_,s3 _ _ ha,aP.aug L S,n,by omega,hm,n+1,B,λt p k rs W H3 St yB s4 h4 h5=>hN _ _ ⟨s3.trans s4,t,p,k,rs,W,St,yB,h4,h5,rfl⟩⟩
  intro _ H1 bK
  refine(?_:let G_:Prop:=_;G_)
  intro G_
  obtain⟨vF,t,p,k,rs,W,St,yB,ht,hW,rfl⟩:=bK
  dsimp only[G_]
  have Xe:=vF _ _ ha
  have kn:=St.le
  change tSeq _ _ _ _ _
  refine aR (λσ' H2=>H1=H2/\k=n/\σ'=[some (.ref a),some (.ref c),some (.ref t),none]) ?_ (λN hN=>?_)
  case refine_2=>
   simp_all only[ht,Xe]
   exact gI (λh=>kN k rs W _ St (by omega) (yB (by omega)) vF) (λh=>hN _ _ ⟨rfl,by omega,rfl⟩)
  intro _ _ bK
  refine(?_:let G_:Prop:=_;G_)
  intro G_
  obtain⟨rfl,rfl,rfl⟩:=bK
  dsimp only[G_]
  have d0:=St.good.ne
  change tSeq _ _ _ _ _
  refine aR (λσ' H2=>H1=H2/\σ'=[some (.ref a),some (.ref c),some (.ref t),some (.int (rS (aP.D rs (aP.dn k))))]) ?_ (λN hN=>?_)
  case refine_2=>
   simp_all only[ht]
   exact gI (λh=>hN _ _ ⟨rfl,by rw[rS,if_pos h]⟩) (λh=>hN _ _ ⟨rfl,by rw[rS,if_neg h]⟩)
  rintro _ _ ⟨rfl,rfl⟩
  refine(?_:let G_:Prop:=_;G_)
  intro G_
  obtain⟨ws,hp,aw⟩:=id hW
  dsimp only[G_]
  have lw:=aw.length
  have lW:=St.len
  rw[aab] at lw
  simp_all only[ht,hp]
  refine⟨⟨_,aZ.of hp⟩,?_⟩
  have S':Src (vN K p) (az H1) W.length (λi x H H3=>H3=H/\ws[i]?=some x):=by
   have:=src_list (K:=K) (a:=p) (xs:=ws) (Ok:=az H1) (λH2 s2=>aZ.of (s2 _ _ hp))
   rwa [lw] at this
  refine dF W (λv=>some (aP.D (v::rs) (k::aP.dn k)*rS (aP.D rs (aP.dn k)))) S' (λ_ _ _ _ h=>h.1) (by omega) ?_ ?_
  ·rintro i v x ev ⟨_,ex⟩ Y N y1 _
   refine(?_:let G_:Prop:=_;G_)
   intro G_
   obtain⟨r',Uv,q,rfl,hq⟩:=aw.get ex
   dsimp only[G_]
   rw[aad,ev] at Uv
   cases Uv
   have hh:=jy (r:=aP.bP v rs k (k+1)) (by rw[aP.du];omega)
   rw[show(aP.bP v rs k (k+1)).headD 0=aP.D (v::rs) (k::aP.dn k) from by rw[aP.df (aaJ k)];rfl] at hh
   simp_all only[gK,hq,hh]
   exact⟨Ar,y1 _ rfl⟩
  ·intro D n1 n2
   refine⟨_,au n2 _ _ ht,_,at2,_,rfl,Ar,by decide,λq H2 s2 nq e2=>kS rs W q D _ St (vF.trans ((au n2).trans s2)) e2 ?_⟩
   rw[s2 _ _ ar,Fx St]
theorem dc {H:Hp} {ws:List (Int×Int)} {xs:List V} {i:Nat} {a:Int×Int} (r:aY H (ws.map bB) xs) (e:ws[i]?=some a):∃p,xs[i]?=some (.ref p)/\H p=some (.tup [.int a.1,.int a.2]):=by
 obtain⟨x,ex,rx⟩:=r.at (d:=bB a) (i:=i) (by rw[aad,e];rfl)
 obtain⟨p,rfl,hp⟩:=bV.mp rx
 exact⟨p,ex,hp⟩
theorem gg:aN ["ways"] ["ways"] (ae (top 31)):=⟨rfl,rfl,rfl,by decide +kernel,rfl,by decide +kernel,by decide +kernel⟩
theorem D1 (T:Txt K mg aA tc):bX P w K mg base (bQ P w) 1 "total_weight" ["ways"] tQ:=by
 refine T.nN.eD (λ_ _ _ _ _ _=>ik λ_=>rfl) λf fd F=>F.eL gg (λvs H Q E h=>?_) (λcK A outer s H vs Q E hr h=>?_)
 ·obtain⟨_,_,rfl,_⟩:=h;rfl
 ·refine(?_:let G_:Prop:=_;G_)
  intro G_
  obtain⟨a,ws,rfl,rf,l5,kk⟩:=h
  dsimp only[G_]
  have nd:=gg.nd
  refine⟨_,(ax (aT (gE (aQ kh (ba bD (by rfl) T.z_len aaA (aa (pv 0) af (se rfl)) (he:=se rfl) (hpl:=na rfl)) ao (aV _)) (ba (kC (K:=K)) (by rfl) T.z_sum rfl (aa (bT rfl (N:=["ways"]) (so:=ae (top 31)) (N':=["weight","to"]) (k:=2) (fr:=[]) rfl rfl ⟨rfl,by decide +kernel,by decide +kernel,by decide +kernel,rfl,by decide +kernel,by decide +kernel⟩ (bj (K:=K) (pv 0)) (λ_ _ _ _ _=>(b9 (K:=K) (n:=2) rfl (aS (aE (i:=0) (show(["weight","to"]:List Str).Nodup by decide +kernel) rfl (Or.inl rfl)) (aS (aE (i:=1) (show(["weight","to"]:List Str).Nodup by decide +kernel) rfl (Or.inl rfl)) b8)))) (λ_ _ _ _ _=>bI)
   (λ_ _ _ _ _=>(pv 0))) af (se rfl)) (he:=se rfl) (hpl:=na rfl)) ao))),?_⟩
  refine(?_:let G_:Prop:=_;G_)
  intro G_
  obtain⟨_,xs,e,ha,rl⟩:=aO.mp rf
  dsimp only[G_]
  cases e
  have lx:=rl.length
  rw[aab] at lx
  simp_all only[]
  refine⟨xs,ha,?_⟩
  by_cases c:ws=[]
  ·subst c
   have l0:xs.length=0:=lx.symm
   rw[if_neg (by omega)]
   exact kk _ (az.refl _)
  ·have l0:=List.length_pos_iff.mpr c
   rw[if_pos (by omega)]
   refine⟨⟨_,aZ.of ha⟩,?_⟩
   have S:Src (vN K a) (az H) ws.length (λi x H H3=>H3=H/\xs[i]?=some x):=by rw[lx];exact src_list (λH' s'=>aZ.of (s' _ _ ha))
   refine iR ws (λp=>some p.1) S (λ_ _ _ _ h=>h.1) (by rw[sizeLine_eq];omega) ?_ ?_
   ·rintro i p x ep ⟨_,ex⟩
    refine(?_:let G_:Prop:=_;G_)
    intro G_
    obtain⟨t,et,ht⟩:=dc rl ep
    dsimp only[G_]
    rw[ex] at et
    cases et
    refine⟨t,_,_,rfl,d6.of ht,λY N y1 _=>?_⟩
    simp_all only[gK]
    exact y1 _ rfl
   ·intro D n1 n2
    rw[d8]
    have:=kk _ (au (o:=.lst (List.map V.int (ws.map λp=>p.1))) n2)
    unfold Dg.tt at this
    rw[if_neg c] at this
    exact⟨_,aZ.of ar,this⟩
theorem qc (q:Int) (ws:Dg.Wy) (x:Int×Int):Dg.iV q (ws++ [x])=Dg.iV q ws+if x.2=q then x.1 else 0:=by
 unfold Dg.iV
 rw[aau,List.sum_append]
 simp
theorem jG:aN ["part","ways","spots","spot","place","rows","row","weight","to"] ["part","ways"] (ae (top 32)):=⟨rfl,rfl,rfl,by decide +kernel,rfl,by decide +kernel,by decide +kernel⟩
theorem F8 (T:Txt K mg aA tc):bX P w K mg base (bQ P w) 2 "part_rows" ["part","ways"] Au:=by
 have eI:bX P w K mg base (bQ P w) 1 "total_weight" ["ways"] tQ:=D1 T
 refine T.tw.eD (λ_ _ _ _ _ _=>eZ λ_ _=>rfl) λf fd F=>F.eL jG (λvs H Q E h=>?_) (λcK A outer s H vs Q E hr h=>?_)
 ·obtain⟨_,_,_,_,_,rfl,_⟩:=h;rfl
 ·refine(?_:let G_:Prop:=_;G_)
  intro G_
  obtain⟨x,wl,ps,xs,fK,rfl,hx,hw,rl,GX,l40,mG,w5,kk⟩:=h
  dsimp only[G_]
  clear G_
  have nd:=jG.nd
  refine⟨_,(ag (aF (i:=2) nd rfl (Or.inl rfl) yW)
  (ag (cz PassesOwn.never rfl (cO (K:=K) rfl T.z_enumerate (aa (pv 0) af (se rfl))) (b9 (K:=K) (n:=2) rfl (aS (aE (i:=3) nd rfl (Or.inl rfl)) (aS (aE (i:=4) nd rfl (Or.inl rfl)) b8))) (ax (vW (pF hr) (pv 2) (pv 4) (pv 3) rfl)))
  (ag (aF (i:=5) nd rfl (Or.inl rfl) (cQ af))
  (ag (cz PassesOwn.never rfl (cO (K:=K) rfl T.z_enumerate (aa (pv 0) af (se rfl))) (b9 (K:=K) (n:=2) rfl (aS (aE (i:=3) nd rfl (Or.inl rfl)) (aS (aE (i:=4) nd rfl (Or.inl rfl)) b8))) (ag (aF (i:=6) nd rfl (Or.inl rfl) (aD uN (cQ (aa ao af (se rfl))) (ba bD (by rfl) T.z_len aaA (aa (pv 0) af (se rfl)) (he:=se rfl) (hpl:=na rfl))))
  (ag (eB (aH eI (hr.mono (by decide)) rfl aB.pass (aa (aI aL (pv 1) (pv 4) (λ_ _=>rfl)) af (se rfl)) (he:=se rfl) (hpl:=na rfl)) (fM (pv 6) (pv 3) set_list))
  (ag (cz PassesOwn.never rfl (bj (K:=K) (aI aL (pv 1) (pv 4) (λ_ _=>rfl))) (b9 (K:=K) (n:=2) rfl (aS (aE (i:=7) nd rfl (Or.inl rfl)) (aS (aE (i:=8) nd rfl (Or.inl rfl)) b8))) (ax (bW (uv (yV (pF hr) (pv 8) (pv 2))) (ax (BE (pv 6) (BZ (pF hr) (pv 2) (pv 8) (λ_ _=>rfl)) zI (pv 7) Es set_list))
   bC)))
  (ax (cF (dD aaE aaN aaO bS.r (pv 5) (aa (pv 6) af (se rfl)))))))))
  (ax (aT (pv 5))))))),?_⟩
  refine(?_:let cu:TS:=_;let cv:TS:=_;let cw:TS:=_;let dQ:TS:=_;let jF:TS:=_;tSeq cu (tSeq cv (tSeq cw (tSeq dQ jF))) _ _ _)
  intro cu cv cw dQ jF
  have sl:=sizeLine_eq
  have lx:=rl.length
  rw[aab] at lx
  change tSeq _ _ _ _ _
  refine aR (λσ' H1=>∃d,az H H1/\H d=none/\H1 d=some (.dK [])/\σ'=[some (.ref x),some (.ref wl),some (.ref d),none,none,none,none,none,none]) ?_ (λN hN=>?_)
  case refine_2=>
   simp_all only[]
   exact λd n1=>hN _ _ ⟨d,au n1,n1,ar,rfl⟩
  intro _ H1 bK
  refine(?_:let G_:Prop:=_;G_)
  intro G_
  obtain⟨d,s1,n1,hd,rfl⟩:=bK
  dsimp only[G_]
  clear G_
  change tSeq _ _ _ _ _
  refine aR (λσ' H2=>az H H2/\H2 d=some (.dK (gO ps))/\∃z3 z4,σ'=[some (.ref x),some (.ref wl),some (.ref d),z3,z4,none,none,none,none]) ?_ (λN hN=>?_)
  case refine_2=>
   simp_all only[]
   refine⟨⟨_,aZ.of (s1 _ _ hx)⟩,bN (fk (K:=K) (a:=x) (xs:=ps.map V.int) (Ok:=az H) (λH' s=>aZ.of (s _ _ hx))) (λi σ H3=>az H H3/\H3 d=some (.dK (gO (ps.take i)))/\∃z3 z4,σ=[some (.ref x),some (.ref wl),some (.ref d),z3,z4,none,none,none,none]) ⟨s1,hd,_,_,rfl⟩ (λ_ _ _ _ h=>h.1) ?_ ?_⟩
   ·intro i y σ H3 H4 hi dI dR
    refine(?_:let G_:Prop:=_;G_)
    intro G_
    obtain⟨s3,KW,z3,z4,rfl⟩:=dI
    obtain⟨q,y,nq,rfl,ey,rfl⟩:=dR
    dsimp only[G_]
    clear G_
    rw[aab] at hi
    have ep:ps[i]?=some (ps.getD i 0):=by rw[aae,aac hi];rfl
    rw[aad,ep] at ey
    cases ey
    refine⟨q,_,rfl,d6.of ar,rfl,?_⟩
    have s4:=au (o:=.tup [.int (i:Int),.int (ps.getD i 0)]) nq
    generalize upd H3 q (.tup [.int (i:Int),.int (ps.getD i 0)])=H4 at *
    have Mt:ps.getD i 0∉ps.take i:=by
     intro z
     refine(?_:let G_:Prop:=_;G_)
     intro G_
     obtain⟨j,hj,ej⟩:=aa2 z
     dsimp only[G_]
     rw[aaQ] at hj
     rw[List.getElem_take] at ej
     have eg:ps.getD i 0=ps[i]:=by rw[aae,aac hi];rfl
     have:=(abe GX).mp (ej.trans eg)
     omega
    have pt:=uO.k (k:=Sum.inl (ps.getD i 0)) (v:=.int (i:Int)) (s4 _ _ KW) (by unfold gO;rw[aab,aaz,aaQ];omega)
    rw[sy _ (tR Mt),<-yj hi] at pt
    simp_all only[]
    exact⟨_,pt,aX (s3.trans s4) n1,ar,_,rfl⟩
   ·intro σ H3 bK
    refine(?_:let G_:Prop:=_;G_)
    intro G_
    obtain⟨s3,KW,z3,z4,rfl⟩:=bK
    dsimp only[G_]
    rw[aab,aaG (aag _)] at KW
    exact hN _ _ ⟨s3,KW,_,_,rfl⟩
  intro _ H2 bK
  refine(?_:let G_:Prop:=_;G_)
  intro G_
  obtain⟨s2,hd2,z3,z4,rfl⟩:=bK
  dsimp only[G_]
  clear G_
  change tSeq _ _ _ _ _
  refine aR (λσ' H3=>∃r,az H2 H3/\H2 r=none/\H3 r=some (.lst [])/\σ'=[some (.ref x),some (.ref wl),some (.ref d),z3,z4,some (.ref r),none,none,none]) ?_ (λN hN=>?_)
  case refine_2=>
   simp_all only[]
   exact⟨aar _,λr n3=>hN _ _ ⟨r,au n3,n3,ar,rfl⟩⟩
  intro _ H3 bK
  refine(?_:let G_:Prop:=_;G_)
  intro G_
  obtain⟨r,s3,nr,Xf,rfl⟩:=bK
  dsimp only[G_]
  clear G_
  change tSeq _ _ _ _ _
  refine aR (λσ' H4=>az H2 H4/\(∃L,q9 H4 r L/\Dg.oW ps (cq fK) L)/\∃z3 z4 z6 z7 z8,σ'=[some (.ref x),some (.ref wl),some (.ref d),z3,z4,some (.ref r),z6,z7,z8]) ?_ (λN hN=>?_)
  case refine_2=>
   simp_all only[]
   refine⟨⟨_,aZ.of (s3 _ _ (s2 _ _ hx))⟩,bN (fk (K:=K) (a:=x) (xs:=ps.map V.int) (Ok:=az H2) (λH' s=>aZ.of (s _ _ (s2 _ _ hx)))) (λi σ H4=>az H2 H4/\(∃(Ls:List (List Int)) (ys:List V),H4 r=some (.lst ys)/\Al (Rw (cE H4 r)) Ls ys/\Ls.length=i/\(∀row∈Ls,row.length=ps.length)/\∀a j,a<i->j<ps.length->(Ls.getD a []).getD j 0=(if a=j then Dg.tt (cq fK (ps.getD a 0)) else 0) - Dg.iV (ps.getD j 0) (cq fK (ps.getD a 0)))/\∃z3 z4 z6 z7 z8,σ=[some (.ref x),some (.ref wl),some (.ref d),z3,z4,some (.ref r),z6,z7,z8]) ⟨s3,⟨[],[],Xf,trivial,rfl,by simp,λa j h=>absurd h (aba _)⟩,_,_,_,_,_,rfl⟩ (λ_ _ _ _ h=>h.1) ?_ ?_⟩
   ·intro i y σ H4 H5 hi dI dR
    refine(?_:let G_:Prop:=_;G_)
    intro G_
    obtain⟨s4,⟨Ls,ys,KY,KZ,ll,F9,C6⟩,z3,z4,z6,z7,z8,rfl⟩:=dI
    obtain⟨q,y,nq,rfl,ey,rfl⟩:=dR
    dsimp only[G_]
    clear G_
    rw[aab] at hi
    have ep:ps[i]?=some (ps.getD i 0):=by rw[aae,aac hi];rfl
    rw[aad,ep] at ey
    cases ey
    have mp:ps.getD i 0∈ps:=aaf ep
    obtain⟨p0,p1⟩:=mG _ mp
    have ew:fK[(ps.getD i 0).toNat]?=some (cq fK (ps.getD i 0)):=by unfold cq;rw[aae (l:=fK),aac (show(ps.getD i 0).toNat<fK.length by omega)];rfl
    have Xg:=w5 _ (aaf ew)
    generalize hp:ps.getD i 0=p at *
    generalize IX:cq fK p=ws at *
    refine⟨q,_,rfl,d6.of ar,rfl,?_⟩
    have s5:=au (o:=.tup [.int (i:Int),.int p]) nq
    generalize upd H4 q (.tup [.int (i:Int),.int p])=H5 at *
    obtain⟨v,ev,rv⟩:=rl.at (d:=pW ws) (i:=p.toNat) (by rw[aad,ew];rfl)
    refine(?_:let G_:Prop:=_;G_)
    intro G_
    obtain⟨wv,us,rfl,C7,ru⟩:=aO.mp rv
    dsimp only[G_]
    clear G_
    have Ga:fH xs p=some (.ref wv):=by have:=bL ev;rwa [Int.toNat_of_nonneg p0] at this
    have lu:=ru.length
    rw[aab] at lu
    simp_all only[BU,tQ]
    have Uw:=s4.trans s5
    refine⟨by decide,λm1 k1=>?_⟩
    have s6:=au (o:=.lst [.int 0]) k1
    have h6:upd H5 m1 (.lst [.int 0]) m1=some (.lst [.int 0]):=ar
    generalize upd H5 m1 (.lst [.int 0])=H6 at *
    have Ux:(ps.map V.int).length=ps.length:=aab ..
    refine⟨_,s6 _ _ (Uw _ _ (s2 _ _ hx)),_,h6,by omega,by omega,by rw[Ux,aah];show 1*ps.length<=_;omega,λro k2=>?_⟩
    rw[Ux,aah,List.flatten_replicate_singleton]
    have s7:=au (o:=.lst (List.replicate ps.length (V.int 0))) k2
    have h7:upd H6 ro (.lst (List.replicate ps.length (V.int 0))) ro=some (.lst ((List.replicate ps.length 0).map V.int)):=by rw[ar,List.map_replicate]
    generalize upd H6 ro (.lst (List.replicate ps.length (V.int 0)))=H7 at *
    have GY:=Uw.trans s6
    have Uy:=GY.trans s7
    refine⟨_,Uy _ _ (s2 _ _ hw),_,Ga,wv,rfl,ws,rv.mono (s2.trans Uy),Xg,λH8 s8=>⟨_,s8 _ _ h7,i,hX (by rw[aab,aa8];exact hi),?_⟩⟩
    rw[<-List.map_set]
    have s9:az H6 (upd H8 ro (.lst (((List.replicate ps.length 0).set i (Dg.tt ws)).map V.int))):=aX (s7.trans s8) k2
    have h9:upd H8 ro (.lst (((List.replicate ps.length 0).set i (Dg.tt ws)).map V.int)) ro=some (.lst (((List.replicate ps.length 0).set i (Dg.tt ws)).map V.int)):=ar
    generalize upd H8 ro (.lst (((List.replicate ps.length 0).set i (Dg.tt ws)).map V.int))=H9 at *
    have Xh:=GY.trans s9
    have Uz:=s2.trans Xh
    refine⟨_,Uz _ _ hw,_,Ga,wv,rfl,⟨_,aZ.of (Uz _ _ C7)⟩,bN (src_list (K:=K) (a:=wv) (xs:=us) (Ok:=az H6) (λH' s'=>aZ.of ((s2.trans (GY.trans s')) _ _ C7))) (λt σ HA=>az H6 HA/\(∃iX:List Int,HA ro=some (.lst (iX.map V.int))/\iX.length=ps.length/\∀j,j<ps.length->iX.getD j 0=(if i=j then Dg.tt ws else 0) - Dg.iV (ps.getD j 0) (ws.take t))/\∃z7 z8,σ=[some (.ref x),some (.ref wl),some (.ref d),some (.int (i:Int)),some (.int p),some (.ref r),some (.ref ro),z7,z8]) ⟨s9,⟨_,h9,by rw[aaX,aa8],λj hj=>?_⟩,_,_,rfl⟩ (λ_ _ _ _ h=>h.1) ?_ ?_⟩
    ·show _=_ - 0
     by_cases c:i=j
     ·subst c
      rw[Dg.gN (by rw[aa8];exact hj),if_pos rfl]
      omega
     ·rw[Dg.eP c,if_neg c,aae,List.getElem?_replicate,if_pos hj]
      rfl
    ·intro t y σ HA HB ht dI dR
     refine(?_:let G_:Prop:=_;G_)
     intro G_
     obtain⟨sA,⟨iX,IY,K1,ent⟩,z7,z8,rfl⟩:=dI
     obtain⟨rfl,ey⟩:=dR
     have et:ws[t]?=some ws[t]:=aac (by omega)
     obtain⟨ta,eta,Xi⟩:=dc (ru.mono (s2.trans (GY.trans sA))) et
     dsimp only[G_]
     clear G_
     rw[ey] at eta
     cases eta
     refine⟨ta,_,rfl,d6.of Xi,rfl,?_⟩
     have tk:ws.take (t+1)=ws.take t++ [ws[t]]:=by rw[aaC,et];rfl
     generalize ws[t]=xw at *
     have UA:=(GY.trans sA) _ _ hd2
     simp_all only[Dt,Th]
     by_cases c:xw.2∈ps
     ·have lt:=aa1 c
      have MJ:ps.getD (ps.idxOf xw.2) 0=xw.2:=by rw[aae,aac lt,aa5 lt];rfl
      have sv:=Av GX lt
      rw[MJ] at sv
      have gt:jT HB d (.int xw.2) (some (.int (ps.idxOf xw.2:Nat))):=.inl ⟨_,Sum.inl xw.2,.inl UA,rfl,sv.symm⟩
      refine⟨some (.int (ps.idxOf xw.2:Nat)),gt,?_⟩
      rw[if_pos (by rfl)]
      generalize hk:ps.idxOf xw.2=k at *
      have Xj:fH (iX.map V.int) (k:Int)=some (.int (iX.getD k 0)):=by have:=dN (ns:=iX) (i:=(k:Int)) (by omega) (by omega);rwa [aah] at this
      refine⟨_,gt,_,_,rfl,IY,_,Xj,_,rfl,_,_,rfl,IY,k,hX (by rw[aab];omega),aX sA k2,⟨iX.set k (iX.getD k 0 - xw.1),by rw[ar,List.map_set],by rw[aaX];exact K1,λj hj=>?_⟩,_,rfl⟩
      rw[tk,qc]
      by_cases cj:k=j
      ·subst cj
       rw[Dg.gN (by omega),ent k hj,if_pos MJ.symm]
       omega
      ·rw[Dg.eP cj,ent j hj,if_neg (show ¬xw.2=ps.getD j 0 from λz=>cj ?_)]
       ·omega
       ·have ej:ps.getD j 0=ps[j]:=by rw[aae,aac hj];rfl
        have ek:ps.getD k 0=ps[k]:=by rw[aae,aac lt];rfl
        exact(abe GX).mp (by rw[<-ek,<-ej,MJ,z])
     ·refine⟨none,.inl ⟨_,Sum.inl xw.2,.inl UA,rfl,(tR c).symm⟩,?_⟩
      rw[if_neg (by simp)]
      refine⟨sA,⟨iX,IY,K1,λj hj=>?_⟩,_,rfl⟩
      have mj:ps.getD j 0∈ps:=by rw[aae,aac hj];exact aan hj
      rw[ent j hj,tk,qc,if_neg (show ¬xw.2=ps.getD j 0 from λz=>c (by rw[z];exact mj))]
      omega
    ·intro σ HA bK
     refine(?_:let G_:Prop:=_;G_)
     intro G_
     obtain⟨sA,⟨iX,IY,K1,ent⟩,z7,z8,rfl⟩:=bK
     dsimp only[G_]
     rw[aaG (by omega)] at ent
     simp_all only[cG]
     have UB:=s5.trans (s6.trans sA)
     have UC:=UB _ _ KY
     have Xk:ro≠r:=λz=>by rw[z,(s5.trans s6) _ _ KY] at k2;cases k2
     have ly:=KZ.length
     refine⟨.inl ⟨rfl,_,aZ.of UC⟩,ys,UC,by omega,aX (GY.trans sA) nr,⟨Ls++ [iX],ys++ [.ref ro],ar,Rw.push (KZ.imp λ_ _ k=>k.mono (bF UB)) IY Xk,by rw[aaD,ll];rfl,λrow F7=>?_,λa j ha hj=>?_⟩,_,rfl⟩
     ·rcases List.mem_append.mp F7 with h | h
      ·exact F9 row h
      ·rw[List.mem_singleton.mp h];exact K1
     ·by_cases c:a=i
      ·subst c
       rw[show(Ls++ [iX]).getD a []=iX from by rw[aae,aaV (by omega),ll,Nat.sub_self];rfl,hp,IX]
       exact ent j hj
      ·rw[show(Ls++ [iX]).getD a []=Ls.getD a [] from by rw[aae,aaW (by omega),<-aae]]
       exact C6 a j (by omega) hj
   ·intro σ H4 bK
    refine(?_:let G_:Prop:=_;G_)
    intro G_
    obtain⟨s4,⟨Ls,ys,KY,KZ,ll,F9,C6⟩,z3,z4,z6,z7,z8,rfl⟩:=bK
    dsimp only[G_]
    rw[aab] at ll C6
    exact hN _ _ ⟨s4,⟨Ls,⟨ys,KY,KZ.imp λ_ _ k=>k.mono bO⟩,ll,F9,C6⟩,_,_,_,_,_,rfl⟩
  intro _ H4 bK
  refine(?_:let G_:Prop:=_;G_)
  intro G_
  obtain⟨s4,⟨L,h1,h2⟩,z3,z4,z6,z7,z8,rfl⟩:=bK
  dsimp only[G_]
  simp_all only[]
  exact kk _ _ _ (s2.trans s4) h1 h2
theorem eQ:aN ["one","other","rest"] ["one","other"] (ae (top 12)):=⟨rfl,rfl,rfl,by decide +kernel,rfl,by decide +kernel,by decide +kernel⟩
theorem D2 (T:Txt K mg aA tc):bX P w K mg base (bQ P w) 1 "common_divisor" ["one","other"] yk:=by
 refine T.j4.eD (λ_ _ _ _ _ _=>eZ λ_ _=>rfl) λf fd F=>F.eL eQ (λvs H Q E h=>?_) (λcK A outer s H vs Q E hr h=>?_)
 ·obtain⟨_,_,rfl,_⟩:=h;rfl
 ·refine(?_:let G_:Prop:=_;G_)
  intro G_
  obtain⟨a,b,rfl,k⟩:=h
  dsimp only[G_]
  have nd:=eQ.nd
  refine⟨_,(ag (aF (i:=0) nd rfl (Or.inl rfl) (ba mQ (by rfl) T.z_abs rfl (aa (pv 0) af (se rfl)) (he:=se rfl) (hpl:=na rfl)))
  (ag (aF (i:=1) nd rfl (Or.inl rfl) (ba mQ (by rfl) T.z_abs rfl (aa (pv 1) af (se rfl)) (he:=se rfl) (hpl:=na rfl)))
  (ag (gF PassesOwn.never (aQ vR (pv 1) ao (aV _)) (ag (aF (i:=2) nd rfl (Or.inl rfl) (aD cH (pv 0) (pv 1)))
  (ag (aF (i:=0) nd rfl (Or.inl rfl) (pv 1))
  (ax (aF (i:=1) nd rfl (Or.inl rfl) (pv 2))))))
  (ax (aT (pv 0)))))),?_⟩
  refine(?_:let cu:TS:=_;let cv:TS:=_;let cw:TS:=_;let dQ:TS:=_;tSeq cu (tSeq cv (tSeq cw dQ)) _ _ _)
  intro cu cv cw dQ
  simp_all only[]
  refine sj (λσ H1=>H1=H/\∃(x y:Int) (z:Option V),σ=[some (.int x),some (.int y),z]/\0<=x/\0<=y/\Nm.g x y=Nm.g a b) (λσ _=>match σ with | [_,some (.int y),_]=>y.toNat | _=>0) ?_ ?_ ?_
  ·refine⟨rfl,_,_,_,rfl,?_,?_,?_⟩
   ·split <;>omega
   ·split <;>omega
   ·rw[show(if a<0 then -a else a)=(a.natAbs:Int) by split <;>omega,show(if b<0 then -b else b)=(b.natAbs:Int) by split <;>omega,Nm.yZ,Nm.vY]
  ·intro σ H1 bK
   refine(?_:let G_:Prop:=_;G_)
   intro G_
   obtain⟨rfl,x,y,z,rfl,x0,y0,e⟩:=bK
   dsimp only[G_]
   simp_all only[]
   refine gI (λc=>?_) (λc=>?_)
   ·refine⟨by omega,y0,aaI _ (by omega),by rw[Nm.y2 x0 (by omega),e],?_⟩
    have:=aaU x (show 0<y by omega)
    have:=aaI x (show y≠0 by omega)
    omega
   ·have z:y=0:=by omega
    subst z
    rw[Nm.y3 x0] at e
    rw[e]
    exact k
  ·intro σ H1 Q1 Q2 hq hc
   simp only[L2.start,Pr,tRev,tD1,tDPop1,tSl,tNoPart,tPart,rSlL,tDIn,tDNotIn,gSub,rSetL,tLst,tDNewK,tComp,L2.stC,tFor_eq,iList,iTup,iRng1,iRng2,iZip,iEnum,iDict,iStr,tChain,tSumV,tBM,rJoin,tJoined,jNil,jLit,jInt,jStr,tRaise,tDGet,tDGet2,tDGet1,sDPut,Option.join_some,List.getElem?_nil,tSeq,tRet,tRetN,tIfS,tTest,tB,tOp,tUn,tVar,tC,tCB,tCons,tNil,tCall,tTupS,tAsg,gName,gNil,gCons,tPar,tNext,tDrop,tAnd,tOr,tNot,tAndV,tOrV,tNotV,tIf,rI,rI0,rU,rIxTH,rIxLH,rEqT,rNeT,rInT,rEq,rNe,scal_ss,scal_ii,scal_bb,scal_si,scal_is,CPow,at0,at1,at2,aas,aaK,aap,aa9,Nat.reduceSub,Nat.reduceAdd,aaZ,abq,List.reduceReplicate,aa4,List.nil_append,abk,abl,abf,abc,abd,abm,exists_eq_left',exists_eq_left,V.ref.injEq,V.int.injEq,V.bl.injEq,V.str.injEq,V.ty.injEq,HO.tup.injEq,HO.lst.injEq,List.cons.injEq,and_true,true_and,and_assoc,exists_and_left,decide_eq_true_eq,Bool.not_eq_true',decide_eq_false_iff_not,ite_true,ite_false,if_true,if_false,Int.reduceToNat,eq_self_iff_true] at hc ⊢
   refine(?_:let G_:Prop:=_;G_)
   intro G_
   obtain⟨v,e1,e2,q⟩:=hc
   dsimp only[G_]
   exact⟨v,e1,e2,hq _ _ q⟩
theorem fB:aN ["several","common","one"] ["several"] (ae (top 14)):=⟨rfl,rfl,rfl,by decide +kernel,rfl,by decide +kernel,by decide +kernel⟩
theorem IZ (T:Txt K mg aA tc):bX P w K mg base (bQ P w) 2 "common_bottom" ["several"] FD:=by
 have dJ:bX P w K mg base (bQ P w) 1 "common_divisor" ["one","other"] yk:=D2 T
 refine T.kY.eD (λ_ _ _ _ _ _=>ik λ_=>rfl) λf fd F=>F.eL fB (λvs H Q E h=>?_) (λcK A outer s H vs Q E hr h=>?_)
 ·obtain⟨_,_,_,rfl,_⟩:=h;rfl
 ·refine(?_:let G_:Prop:=_;G_)
  intro G_
  obtain⟨a,ws,Z,rfl,rf,lw,dv,Z0,bZ,kk⟩:=h
  dsimp only[G_]
  have nd:=fB.nd
  refine⟨_,(ag (aF (i:=1) nd rfl (Or.inl rfl) ao)
  (ag (cz PassesOwn.never rfl (bj (K:=K) (pv 0)) (aE (i:=2) nd rfl (Or.inl rfl)) (ax (aF (i:=1) nd rfl (Or.inl rfl) (aD bo (aD dM (pv 1) (aH dJ (hr.mono (by decide)) rfl aB.pass (aa (pv 1) (aa (aI aK (pv 2) ao (λ_ _=>rfl)) af (se rfl)) (se rfl)) (he:=se rfl) (hpl:=na rfl))) (aI aK (pv 2) ao (λ_ _=>rfl))))))
  (ax (aT (pv 1))))),?_⟩
  refine(?_:let cu:TS:=_;let cv:TS:=_;let cw:TS:=_;tSeq cu (tSeq cv cw) _ _ _)
  intro cu cv cw
  refine(?_:let G_:Prop:=_;G_)
  intro G_
  obtain⟨_,xs,e,ha,rl⟩:=aO.mp rf
  dsimp only[G_]
  cases e
  have lx:=rl.length
  rw[aab] at lx
  simp_all only[yk]
  refine⟨⟨_,aZ.of ha⟩,bN (src_list (Ok:=λH'=>H'=H) (λH2 s2=>by rw[s2];exact aZ.of ha)) (λi σ H'=>H'=H/\∃z,σ=[some (V.ref a),some (V.int (Wq.eY 1 (ws.take i))),z]) ⟨rfl,_,rfl⟩ (λ_ _ _ _ h=>h.1) ?_ ?_⟩
  ·intro i v σ H1 H2 hi dI dR
   refine(?_:let G_:Prop:=_;G_)
   intro G_
   obtain⟨rfl,z,rfl⟩:=dI
   obtain⟨rfl,ex⟩:=dR
   have um:i<ws.length:=by omega
   have ew:ws[i]?=some ws[i]:=aac um
   obtain⟨p,ep,hp⟩:=dc rl ew
   dsimp only[G_]
   rw[ex] at ep
   cases ep
   have tk:ws.take (i+1)=ws.take i++ [ws[i]]:=by rw[aaC,ew];rfl
   refine(?_:let G_:Prop:=_;G_)
   intro G_
   obtain⟨l1,l2,l3,l4⟩:=Wq.mi (xs:=ws.take i) (c:=1) (by decide) λx hx=>(dv x (List.mem_of_mem_take hx)).1
   dsimp only[G_]
   have lz:=l4 (Z:=Z) ⟨Z,by omega⟩ λx hx=>(dv x (List.mem_of_mem_take hx)).2
   have dw:=dv _ (aan um)
   have b1:Bt 2000 (Wq.eY 1 (ws.take i)):=bZ.le (by have:=Int.le_of_dvd Z0 lz;omega)
   have b2:Bt 2000 (ws[i]).2:=bZ.le (by have:=Int.le_of_dvd Z0 dw.2;omega)
   have g0:0<Nm.g (Wq.eY 1 (ws.take i)) (ws[i]).2:=Nm.jl (by omega)
   have bg:Bt 2000 (Nm.g (Wq.eY 1 (ws.take i)) (ws[i]).2):=b2.le (by have:=Nm.EM (a:=Wq.eY 1 (ws.take i)) dw.1;omega)
   simp_all only[yk,hp]
   exact⟨fi.of g0 bg,Bt.fh (b1.le (Nm.dO g0 (Nm.jm _ _))) b2,by rw[tk,Wq.pR];rfl,_,rfl⟩
  ·intro σ H1 bK
   refine(?_:let G_:Prop:=_;G_)
   intro G_
   obtain⟨rfl,z,rfl⟩:=bK
   dsimp only[G_]
   simp_all only[]
   rw[aaG (by omega)]
   exact kk
theorem t9:aN ["top","bottom","divisor"] ["top","bottom"] (ae (top 13)):=⟨rfl,rfl,rfl,by decide +kernel,rfl,by decide +kernel,by decide +kernel⟩
theorem I0 (T:Txt K mg aA tc):bX P w K mg base (bQ P w) 2 "share" ["top","bottom"] FC:=by
 have dJ:bX P w K mg base (bQ P w) 1 "common_divisor" ["one","other"] yk:=D2 T
 refine T.Cs.eD (λ_ _ _ _ _ _=>eZ λ_ _=>rfl) λf fd F=>F.eL t9 (λvs H Q E h=>?_) (λcK A outer s H vs Q E hr h=>?_)
 ·obtain⟨_,_,rfl,_⟩:=h;rfl
 ·refine(?_:let G_:Prop:=_;G_)
  intro G_
  obtain⟨a,b,rfl,bt,b0,kq⟩:=h
  dsimp only[G_]
  have nd:=t9.nd
  refine⟨_,(ag (bW (aQ cV (pv 1) ao (aV _)) (ax mK)
   bC)
  (ag (aF (i:=2) nd rfl (Or.inl rfl) (aH dJ (hr.mono (by decide)) rfl aB.pass (aa (pv 0) (aa (pv 1) af (se rfl)) (se rfl)) (he:=se rfl) (hpl:=na rfl)))
  (ag (bW (aQ o8 (pv 1) ao (aV _)) (ax (aF (i:=2) nd rfl (Or.inl rfl) (sk mO (pv 2))))
   bC)
  (ax (aT (bH (aa (aD dM (pv 0) (pv 2)) (aa (aD dM (pv 1) (pv 2)) af (se rfl)) (se rfl)))))))),?_⟩
  refine(?_:let cu:TS:=_;let cv:TS:=_;let cw:TS:=_;let dQ:TS:=_;tSeq cu (tSeq cv (tSeq cw dQ)) _ _ _)
  intro cu cv cw dQ
  have g0:0<Nm.g a b:=Nm.jl (by omega)
  have gb:Bt 5000 (Nm.g a b):=bt.le (by have:=Nm.y4 (a:=a) (show b≠0 by omega);omega)
  unfold Nm.st Nm.sb at kq
  rw[if_neg (show ¬b<0 by omega),if_neg (show ¬b<0 by omega)] at kq
  simp_all only[yk]
  rw[if_neg (by omega),if_neg (by omega)]
  exact⟨fi.of g0 gb,fi.of g0 gb,by decide,λp H2 s1 n1 e=>kq p H2 s1 n1 e⟩
theorem oz:aN ["place"] ["place"] (ae (top 34)):=⟨rfl,rfl,rfl,by decide +kernel,rfl,by decide +kernel,by decide +kernel⟩
theorem Ja (T:Txt K mg aA tc):bX P w K mg base (bQ P w) 1 "gain_of" ["place"] FE:=by
 refine T.yd.eD (λ_ _ _ _ _ _=>ik λ_=>rfl) λf fd F=>F.eL oz (λvs H Q E h=>?_) (λcK A outer s H vs Q E hr h=>?_)
 ·obtain⟨_,_,rfl,_⟩:=h;rfl
 ·refine(?_:let G_:Prop:=_;G_)
  intro G_
  obtain⟨a,q,rfl,rq,kk⟩:=h
  dsimp only[G_]
  have nd:=oz.nd
  refine⟨_,(ax (aT (gE (aQ cV (aI aK (pv 0) ao (λ_ _=>rfl)) cJ (aV _)) (bH (aa ao (aa ao af (se rfl)) (se rfl))) (aI aK (pv 0) ao (λ_ _=>rfl))))),?_⟩
  cases q with
  | fin g=>
   refine(?_:let G_:Prop:=_;G_)
   intro G_
   obtain⟨t',r,e,iu,t6⟩:=cM.mp rq
   dsimp only[G_]
   cases e
   simp_all only[iu]
   rw[if_neg (by decide +kernel)]
   exact kk _ _ (az.refl _) t6
  | cL g ws=>
   refine(?_:let G_:Prop:=_;G_)
   intro G_
   obtain⟨t',r,l,zs,e,iu,t6,oH,rz⟩:=cm.mp rq
   dsimp only[G_]
   cases e
   simp_all only[iu]
   rw[if_neg (by decide +kernel)]
   exact kk _ _ (az.refl _) t6
  | bJ w to=>
   refine(?_:let G_:Prop:=_;G_)
   intro G_
   obtain⟨t',l,e,iu,oH⟩:=cC.mp rq
   dsimp only[G_]
   cases e
   simp_all only[iu]
   exact⟨by decide,λp H2 s2 _ e2=>kk _ _ s2 e2⟩
theorem fC:aN ["self","tops","bottom"] ["self","tops","bottom"] (ae (inClass (top 33) 0)):=⟨rfl,rfl,rfl,by decide +kernel,rfl,by decide +kernel,by decide +kernel⟩
theorem AW (T:Txt K mg aA tc):pO P w K mg base (bQ P w) 1 "Book" aA ["self","tops","bottom"] (CN aA):=by
 refine T.Cv.eD (λ_ _ _ _ _ _=>qR λ_ _ _=>rfl) λf fd F=>F.eL fC (λvs H Q E h=>?_) (λcK A outer s H vs Q E hr h=>?_)
 ·obtain⟨_,_,_,_,_,rfl,_⟩:=h;rfl
 ·refine(?_:let G_:Prop:=_;G_)
  intro G_
  obtain⟨x,dx,l,ts,b,rfl,hx,hl,kk⟩:=h
  dsimp only[G_]
  have nd:=fC.nd
  refine⟨_,(ag (yM (pv 0) (dE (cP (K:=K)) (by rfl) T.z_list rfl (aa (pv 1) af (se rfl)) (he:=se rfl) (hpl:=na rfl)) rfl)
  (ax (yM (pv 0) (pv 2) rfl))),?_⟩
  simp_all only[Hq]
  refine⟨_,.inl (aZ.of hl),λm nm=>?_⟩
  have mx:m≠x:=λz=>by rw[z,hx] at nm;cases nm
  have Xl:upd H m (.lst (ts.map V.int)) x=some (.ins aA dx []):=by rw[aG (Ne.symm mx)];exact hx
  refine⟨_,_,_,Xl,T.cD,T.na_Book_tops,by decide,_,_,_,ar,T.cD,T.na_Book_bottom,by show(1:Nat)<1000;decide,?_⟩
  refine kk m _ nm ?_ ?_ ?_
  ·rw[aG mx,aG mx,ar]
  ·rw[ar]
   show some (HO.ins aA dx (if Str.ofString "tops"=Str.ofString "bottom" then _ else _))=_
   rw[if_neg (by decide +kernel)]
   rfl
  ·intro y o ny hy
   have ym:y≠m:=λz=>by rw[z,nm] at hy;cases hy
   rw[aG ny,aG ny,aG ym]
   exact hy
theorem oA:aN ["several","bottom"] ["several"] (ae (top 35)):=⟨rfl,rfl,rfl,by decide +kernel,rfl,by decide +kernel,by decide +kernel⟩
theorem Jb (T:Txt K mg aA tc):bX P w K mg base (bQ P w) 3 "book_of" ["several"] (FF aA):=by
 have lF:bX P w K mg base (bQ P w) 2 "common_bottom" ["several"] FD:=IZ T
 have oB:pO P w K mg base (bQ P w) 1 "Book" aA ["self","tops","bottom"] (CN aA):=AW T
 refine T.ye.eD (λ_ _ _ _ _ _=>ik λ_=>rfl) λf fd F=>F.eL oA (λvs H Q E h=>?_) (λcK A outer s H vs Q E hr h=>?_)
 ·obtain⟨_,_,_,rfl,_⟩:=h;rfl
 ·refine(?_:let G_:Prop:=_;G_)
  intro G_
  obtain⟨a,ws,Z,rfl,rf,lw,dv,Z0,bZ,kk⟩:=h
  dsimp only[G_]
  clear G_
  have nd:=oA.nd
  refine⟨_,(ag (aF (i:=1) nd rfl (Or.inr rfl) (aH lF (hr.mono (by decide)) rfl aB.pass (aa (pv 0) af (se rfl)) (he:=se rfl) (hpl:=na rfl)))
  (ax (aT (zy oB (hr.mono (by decide)) rfl aB.pass (aa (bT rfl (N:=["several","bottom"]) (so:=ae (top 35)) (N':=["one","bottom"]) (k:=1) (fr:=[1]) rfl rfl ⟨rfl,by decide +kernel,by decide +kernel,by decide +kernel,rfl,by decide +kernel,by decide +kernel⟩ (bj (K:=K) (pv 0)) (λ_ _ _ _ _=>(aE (i:=0) (show(["one","bottom"]:List Str).Nodup by decide +kernel) rfl (Or.inl rfl))) (λ_ _ _ _ _=>bI)
   (λ_ _ _ _ _=>(aD bo (aI aK (pv 0) ao (λ_ _=>rfl)) (aD dM (pv 1) (aI aK (pv 0) ao (λ_ _=>rfl)))))) (aa (pv 1) af (se rfl)) (se rfl)) (he:=se rfl) (hpl:=na rfl))))),?_⟩
  simp_all only[FD,sr]
  refine⟨ws,rf,lw,Z,λx hx=>⟨(dv x hx).1,(dv x hx).2.1⟩,Z0,bZ,?_⟩
  refine(?_:let G_:Prop:=_;G_)
  intro G_
  obtain⟨_,xs,e,ha,rl⟩:=aO.mp rf
  dsimp only[G_]
  clear G_
  cases e
  have lx:=rl.length
  rw[aab] at lx
  refine⟨⟨_,aZ.of ha⟩,?_⟩
  refine(?_:let G_:Prop:=_;G_)
  intro G_
  obtain⟨l1,l2,l3,l4⟩:=Wq.mi (xs:=ws) (c:=1) (by decide) λx hx=>(dv x hx).1
  dsimp only[G_]
  clear G_
  have lz:=l4 (Z:=Z) ⟨Z,by omega⟩ λx hx=>(dv x hx).2.1
  have b1:Bt 2000 (Wq.eY 1 ws):=bZ.le (by have:=Int.le_of_dvd Z0 lz;omega)
  have S:Src (vN K a) (az H) ws.length (λi x H H3=>H3=H/\xs[i]?=some x):=by rw[lx];exact src_list (λH' s'=>aZ.of (s' _ _ ha))
  refine dF ws (λx=>some (Wq.sc (Wq.eY 1 ws) x)) S (λ_ _ _ _ h=>h.1) (by rw[sizeLine_eq];omega) ?_ ?_
  ·rintro i x v ep ⟨_,ex⟩ Y N y1 _
   refine(?_:let G_:Prop:=_;G_)
   intro G_
   obtain⟨t,et,ht⟩:=dc rl ep
   dsimp only[G_]
   rw[ex] at et
   cases et
   have dx:=dv x (aaf ep)
   have b2:Bt 2000 x.2:=bZ.le (by have:=Int.le_of_dvd Z0 dx.2.1;omega)
   simp_all only[gK,ht]
   exact⟨fi.of dx.1 b2,Bt.fh dx.2.2 (b1.le (Nm.dO dx.1 (l3 x (aaf ep)))),y1 _ rfl⟩
  ·intro D n1 n2 x dx nx MK ne
   rw[d8] at nx MK ⊢
   have s1:=au (H:=H) (o:=.lst (List.map V.int (ws.map (Wq.sc (Wq.eY 1 ws))))) n2
   have hD:upd H D (.lst (List.map V.int (ws.map (Wq.sc (Wq.eY 1 ws))))) D=some _:=ar
   have s2:=s1.trans (au (o:=.own x) MK)
   have Jc:=au (o:=.own x) MK _ _ hD
   generalize upd H D (.lst (List.map V.int (ws.map (Wq.sc (Wq.eY 1 ws)))))=H1 at *
   have xD:D≠x:=λz=>by rw[z,nx] at hD;cases hD
   refine⟨x,dx,D,_,_,rfl,ar,by rw[aG xD];exact Jc,λm H' nm hm o6 ky=>⟨rfl,kk x H' (λy o hy=>?_) ⟨dx,m,o6,hm⟩⟩⟩
   have yx:y≠x:=λz=>by have:=s1 _ _ hy;rw[z,nx] at this;cases this
   exact ky y o yx (by rw[aG yx];exact s2 _ _ hy)
theorem Jd {a b:V}:List.lookup (Str.ofString "scaled") [(("tops":Str),a),(("bottom":Str),b)]=none:=rfl
theorem kJ {a b:V}:List.lookup (Str.ofString "tops") [(("tops":Str),a),(("bottom":Str),b)]=some a:=rfl
theorem ua {a b:V}:List.lookup (Str.ofString "bottom") [(("tops":Str),a),(("bottom":Str),b)]=some b:=rfl
theorem gU:aN ["self","factor"] ["self","factor"] (ae (inClass (top 33) 1)):=⟨rfl,rfl,rfl,by decide +kernel,rfl,by decide +kernel,by decide +kernel⟩
theorem Gb (T:Txt K mg aA tc):nH P w K mg base (bQ P w) 3 aA "scaled" ["self","factor"] (DQ aA):=by
 have oB:pO P w K mg base (bQ P w) 1 "Book" aA ["self","tops","bottom"] (CN aA):=AW T
 refine T.nP.eD (λ_ _ _ _ _ _=>eZ λ_ _=>rfl) λf fd F=>F.eL gU (λvs H Q E h=>?_) (λcK A outer s H vs Q E hr h=>?_)
 ·obtain⟨_,_,_,rfl,_⟩:=h;rfl
 ·refine(?_:let G_:Prop:=_;G_)
  intro G_
  obtain⟨x,S,d,rfl,⟨dx,m,hx,hm⟩,bd,bb,bt,ln,kk⟩:=h
  dsimp only[G_]
  clear G_
  have nd:=gU.nd
  refine⟨_,(ax (aT (zy oB (hr.mono (by decide)) rfl aB.pass (aa (bT rfl (N:=["self","factor"]) (so:=ae (inClass (top 33) 1)) (N':=["top","factor"]) (k:=1) (fr:=[1]) rfl rfl ⟨rfl,by decide +kernel,by decide +kernel,by decide +kernel,rfl,by decide +kernel,by decide +kernel⟩ (bj (K:=K) (dU (pv 0) rfl)) (λ_ _ _ _ _=>(aE (i:=0) (show(["top","factor"]:List Str).Nodup by decide +kernel) rfl (Or.inl rfl))) (λ_ _ _ _ _=>bI)
   (λ_ _ _ _ _=>(aD bo (pv 0) (pv 1)))) (aa (aD bo (dU (pv 0) rfl) (pv 1)) af (se rfl)) (se rfl)) (he:=se rfl) (hpl:=na rfl)))),?_⟩
  simp_all only[kR,sr]
  refine⟨_,_,_,hx,T.cD,T.na_Book_tops,_,kJ,m,rfl,⟨_,aZ.of hm⟩,?_⟩
  have S':Src (vN K m) (az H) S.1.length (λi x H H3=>H3=H/\(S.1.map V.int)[i]?=some x):=by
   have:=src_list (K:=K) (a:=m) (xs:=S.1.map V.int) (Ok:=az H) (λH' s'=>aZ.of (s' _ _ hm))
   rwa [aab] at this
  refine dF S.1 (λt=>some (t*d)) S' (λ_ _ _ _ h=>h.1) (by rw[sizeLine_eq];omega) ?_ ?_
  ·rintro i t v et ⟨_,ex⟩ Y N y1 _
   rw[aad,et] at ex
   cases ex
   simp_all only[gK]
   exact⟨(bt t (aaf et)).fh bd,y1 _ rfl⟩
  ·intro D n1 n2
   rw[d8]
   have s1:=au (H:=H) (o:=.lst (List.map V.int (S.1.map (·*d)))) n2
   have hD:upd H D (.lst (List.map V.int (S.1.map (·*d)))) D=some (.lst (List.map V.int (S.1.map (·*d)))):=ar
   generalize upd H D (.lst (List.map V.int (S.1.map (·*d))))=H1 at *
   refine⟨_,_,_,s1 _ _ hx,T.cD,T.na_Book_bottom,_,ua,_,rfl,bb.fh bd,λy dy ny Je ne=>?_⟩
   have s2:=s1.trans (au (o:=.own y) Je)
   have Jc:=au (o:=.own y) Je _ _ hD
   have xD:D≠y:=λz=>by rw[z,ny] at hD;cases hD
   refine⟨y,dy,D,_,_,rfl,ar,by rw[aG xD];exact Jc,λm' H' nm Jf o6 ky=>⟨rfl,kk y dy m' H' (λz o hz=>?_) (none_of s1 ny) ?_ o6 Jf⟩⟩
   ·have yx:z≠y:=λe=>by have:=s1 _ _ hz;rw[e,ny] at this;cases this
    exact ky z o yx (by rw[aG yx];exact s2 _ _ hz)
   ·have my:m'≠y:=λe=>by rw[e,ar] at nm;cases nm
    rw[aG my] at nm
    exact none_of s2 nm
theorem eU:aN ["self"] ["self"] (ae (inClass (top 33) 2)):=⟨rfl,rfl,rfl,by decide +kernel,rfl,by decide +kernel,by decide +kernel⟩
theorem Jg (T:Txt K mg aA tc):nH P w K mg base (bQ P w) 3 aA "as_shares" ["self"] (Iv aA):=by
 have C8:bX P w K mg base (bQ P w) 2 "share" ["top","bottom"] FC:=I0 T
 refine T.ju.eD (λ_ _ _ _ _ _=>ik λ_=>rfl) λf fd F=>F.eL eU (λvs H Q E h=>?_) (λcK A outer s H vs Q E hr h=>?_)
 ·obtain⟨_,_,rfl,_⟩:=h;rfl
 ·refine(?_:let G_:Prop:=_;G_)
  intro G_
  obtain⟨x,S,rfl,⟨dx,m,hx,hm⟩,b0,bb,ln,kk⟩:=h
  dsimp only[G_]
  have nd:=eU.nd
  refine⟨_,(ax (aT (bT rfl (N:=["self"]) (so:=ae (inClass (top 33) 2)) (N':=["top","self"]) (k:=1) (fr:=[0]) rfl rfl ⟨rfl,by decide +kernel,by decide +kernel,by decide +kernel,rfl,by decide +kernel,by decide +kernel⟩ (bj (K:=K) (dU (pv 0) rfl)) (λ_ _ _ _ _=>(aE (i:=0) (show(["top","self"]:List Str).Nodup by decide +kernel) rfl (Or.inl rfl))) (λ_ _ _ _ _=>bI)
   (λ_ _ _ _ _=>(aH C8 (hr.mono (by decide)) rfl aB.pass (aa (pv 0) (aa (wo (K:=K) (pv 1) rfl) af (se rfl)) (se rfl)) (he:=se rfl) (hpl:=na rfl)))))),?_⟩
  simp_all only[kR]
  refine⟨_,_,_,hx,T.cD,T.na_Book_tops,_,kJ,m,rfl,⟨_,aZ.of hm⟩,?_⟩
  refine comp_map (src_list (K:=K) (a:=m) (xs:=S.1.map V.int) (Ok:=az H) (λH' s'=>aZ.of (s' _ _ hm))) (λ_ _ _ _ h=>by rw[h.1];exact az.refl _) (by rw[aab,sizeLine_eq];omega) (λi y H4=>∀t,S.1[i]?=some t->∃p,y=.ref p/\H4 p=some (.tup (Pr (Wq.low t S.2).1 (Wq.low t S.2).2))) (λi y H4 H5 s5 h t e=>by obtain⟨p,e1,h1⟩:=h t e;exact⟨p,e1,s5 _ _ h1⟩) ?_ ?_
  ·rintro i v w0 H4 H5 Q2 hi s4 ⟨rfl,ex⟩ kq
   rw[aad] at ex
   refine(?_:let G_:Prop:=_;G_)
   intro G_
   obtain⟨t,et,rfl⟩:=Option.map_eq_some_iff.mp ex
   dsimp only[G_]
   simp_all only[FC,kR]
   refine⟨_,_,_,s4 _ _ hx,T.cD,T.na_Book_bottom,_,ua,_,rfl,bb,b0,λp H6 s6 n6 h6=>kq _ _ s6 λt' e'=>?_⟩
   rw[et] at e'
   cases e'
   exact⟨p,rfl,h6⟩
  ·intro ys H5 s5 ly hy D n1 n2
   rw[aab] at ly
   refine kk D _ (s5.trans (au n2)) (none_of s5 n2) (aO.mpr ⟨D,ys,rfl,ar,cZ (by rw[aab];exact ly) λi y ey q eq=>?_⟩)
   rw[aad] at eq
   refine(?_:let G_:Prop:=_;G_)
   intro G_
   obtain⟨t,et,rfl⟩:=Option.map_eq_some_iff.mp eq
   obtain⟨p,e1,h1⟩:=hy i y ey t et
   dsimp only[G_]
   exact bV.mpr ⟨p,e1,au n2 _ _ h1⟩
theorem fE:aN ["board","part","product","place"] ["board","part"] (ae (top 27)):=⟨rfl,rfl,rfl,by decide +kernel,rfl,by decide +kernel,by decide +kernel⟩
theorem Gc (T:Txt K mg aA tc):bX P w K mg base (bQ P w) 1 "ways_of_picks" ["board","part"] vt:=by
 refine T.lA.eD (λ_ _ _ _ _ _=>eZ λ_ _=>rfl) λf fd F=>F.eL fE (λvs H Q E h=>?_) (λcK A outer s H vs Q E hr h=>?_)
 ·obtain⟨_,_,_,_,rfl,_⟩:=h;rfl
 ·refine(?_:let G_:Prop:=_;G_)
  intro G_
  obtain⟨a,x,b,ps,rfl,rb,hx,vD,ok,yv,kk⟩:=h
  dsimp only[G_]
  clear G_
  have nd:=fE.nd
  refine⟨_,(ag (aF (i:=2) nd rfl (Or.inl rfl) ao)
  (ag (cz PassesOwn.never rfl (bj (K:=K) (pv 1)) (aE (i:=3) nd rfl (Or.inl rfl)) (ax (bW (aQ cV (aI aK (aI aL (pv 0) (pv 3) (λ_ _=>rfl)) ao (λ_ _=>rfl)) cJ (aV _)) (ax (aF (i:=2) nd rfl (Or.inl rfl) (aD bo (pv 2) (ba bD (by rfl) T.z_len aaA (aa (aI aK (aI aL (pv 0) (pv 3) (λ_ _=>rfl)) ao (λ_ _=>rfl)) af (se rfl)) (he:=se rfl) (hpl:=na rfl)))))
   bC)))
  (ax (aT (pv 2))))),?_⟩
  refine(?_:let cu:TS:=_;let cv:TS:=_;let cw:TS:=_;tSeq cu (tSeq cv cw) _ _ _)
  intro cu cv cw
  refine(?_:let G_:Prop:=_;G_)
  intro G_
  obtain⟨_,xs,e,ha,rl⟩:=aO.mp rb
  dsimp only[G_]
  clear G_
  cases e
  simp_all only[]
  refine⟨⟨_,aZ.of hx⟩,bN (src_list (Ok:=λH'=>H'=H) (λH2 s2=>by rw[s2];exact aZ.of hx)) (λi σ H'=>H'=H/\∃(k:Nat) (z:Option V),j9 b k (ps.drop i)=j9 b 1 ps/\σ=[some (V.ref a),some (V.ref x),some (V.int (k:Int)),z]) ⟨rfl,1,_,rfl,rfl⟩ (λ_ _ _ _ h=>h.1) ?_ ?_⟩
  ·intro i y σ H1 H2 hi dI dR
   refine(?_:let G_:Prop:=_;G_)
   intro G_
   obtain⟨rfl,k,z,ki,rfl⟩:=dI
   obtain⟨rfl,ex⟩:=dR
   dsimp only[G_]
   clear G_
   rw[aab] at hi
   rw[aad,aac hi] at ex
   cases ex
   rw[List.drop_eq_getElem_cons hi] at ki
   have ip:=vD _ (aan hi)
   generalize ps[i]=p at *
   obtain⟨p,rfl⟩:=aav ip.1
   have hp:p<b.length:=by have:=ip.2;omega
   have eb:b[p]?=some b[p]:=aac hp
   refine(?_:let G_:Prop:=_;G_)
   intro G_
   obtain⟨v,ev,rv⟩:=ft rl eb
   dsimp only[G_]
   clear G_
   have ki:j9 b (k*wR b (p:Int)) (ps.drop (i+1))=j9 b 1 ps:=ki
   have ek:wR b (p:Int)=match b[p] with | .bJ _ to=>to.length | _=>1:=by
    unfold wR
    rw[aah,eb]
    cases b[p] <;>rfl
   have k1:k<=4096:=by
    have:=wV ok (ps.drop (i+1)) (k*wR b (p:Int))
    have:=Nat.le_mul_of_pos_right k (vo ok (p:Int)).1
    omega
   have pq:=ok _ (aan hp)
   rw[ek] at ki
   generalize b[p]=q at *
   cases q with
   | fin g=>
    refine(?_:let G_:Prop:=_;G_)
    intro G_
    obtain⟨t,r,rfl,ht,_⟩:=cM.mp rv
    dsimp only[G_]
    simp_all only[ha,show fH xs (p:Int)=some (.ref t) from bL ev,ht]
    rw[if_neg (by decide +kernel)]
    exact⟨k,by rw[<-ki,Nat.mul_one],rfl,_,rfl⟩
   | cL g ws=>
    refine(?_:let G_:Prop:=_;G_)
    intro G_
    obtain⟨t,r,l,zs,rfl,ht,_⟩:=cm.mp rv
    dsimp only[G_]
    simp_all only[ha,show fH xs (p:Int)=some (.ref t) from bL ev,ht]
    rw[if_neg (by decide +kernel)]
    exact⟨k,by rw[<-ki,Nat.mul_one],rfl,_,rfl⟩
   | bJ who to=>
    refine(?_:let G_:Prop:=_;G_)
    intro G_
    obtain⟨t,l,rfl,ht,hl⟩:=cC.mp rv
    dsimp only[G_]
    simp_all only[ha,show fH xs (p:Int)=some (.ref t) from bL ev,ht,hl]
    have lt:(List.map V.int to).length=to.length:=aab ..
    have l4:=pq.2.2.1
    rw[lt]
    exact⟨(Bt.of (n:=13) 4096 (by omega) (by omega)).fh (Bt.of (n:=3) 4 (by omega) (by omega)),k*to.length,ki,by rw[Int.natCast_mul],_,rfl⟩
  ·intro σ H1 bK
   refine(?_:let G_:Prop:=_;G_)
   intro G_
   obtain⟨rfl,k,z,ki,rfl⟩:=bK
   dsimp only[G_]
   rw[aab,List.drop_length] at ki
   have ki:k=j9 b 1 ps:=ki
   simp_all only[]
   rw[ki]
   exact kk
theorem fF:aN ["board","left","found","part"] ["board"] (ae (top 28)):=⟨rfl,rfl,rfl,by decide +kernel,rfl,by decide +kernel,by decide +kernel⟩
theorem Gd (T:Txt K mg aA tc) (LB:oP base mg tc tp):bX P w K mg base (bQ P w) 6 "checked_parts" ["board"] (vq tp):=by
 have Ge:bX P w K mg base (bQ P w) 5 "ring" ["board"] vb:=C0 T
 have C9:bX P w K mg base (bQ P w) 3 "parts" ["board"] (AV tp):=F2 T LB
 have lG:bX P w K mg base (bQ P w) 1 "ways_of_picks" ["board","part"] vt:=Gc T
 refine T.lB.eD (λ_ _ _ _ _ _=>ik λ_=>rfl) λf fd F=>F.eL fF (λvs H Q E h=>?_) (λcK A outer s H vs Q E hr h=>?_)
 ·obtain⟨_,_,_,rfl,_⟩:=h;rfl
 ·refine(?_:let G_:Prop:=_;G_)
  intro G_
  obtain⟨a,b,rk,rfl,rb,B,kX,kk⟩:=h
  dsimp only[G_]
  have nd:=fF.nd
  refine⟨_,(ag (aF (i:=1) nd rfl (Or.inl rfl) (aH Ge (hr.mono (by decide)) rfl aB.pass (aa (pv 0) af (se rfl)) (he:=se rfl) (hpl:=na rfl)))
  (ag (bW (aQ kh (ba bD (by rfl) T.z_len aaA (aa (pv 1) af (se rfl)) (he:=se rfl) (hpl:=na rfl)) ao (aV _)) (ax mK)
   bC)
  (ag (aF (i:=2) nd rfl (Or.inl rfl) (aH C9 (hr.mono (by decide)) rfl aB.pass (aa (pv 0) af (se rfl)) (he:=se rfl) (hpl:=na rfl)))
  (ag (cz PassesOwn.never rfl (bj (K:=K) (pv 2)) (aE (i:=3) nd rfl (Or.inl rfl)) (ax (bW (PW.pt (pw_or (aQ kh (ba bD (by rfl) T.z_len aaA (aa (pv 3) af (se rfl)) (he:=se rfl) (hpl:=na rfl)) (sW rfl T.c_MOST_PLACES) (aV _)) (pw_or1 (aQ kh (aH lG (hr.mono (by decide)) rfl aB.pass (aa (pv 0) (aa (pv 3) af (se rfl)) (se rfl)) (he:=se rfl) (hpl:=na rfl)) (sW rfl T.c_MOST_PICKS) (aV _))))) (ax mK)
   bC)))
  (ax (aT (pv 2))))))),?_⟩
  refine(?_:let cu:TS:=_;let cv:TS:=_;let cw:TS:=_;let dQ:TS:=_;let jF:TS:=_;tSeq cu (tSeq cv (tSeq cw (tSeq dQ jF))) _ _ _)
  intro cu cv cw dQ jF
  have bl:=B.len
  simp_all only[vb,AV]
  refine⟨b,rb,B.bd,λl H1 s1 n1 hl=>⟨_,hl,?_⟩⟩
  rw[B.gC.ring]
  rw[if_neg (by simp)]
  refine⟨b,rb.mono s1,by omega,B.sI,B.gC.good,s1 _ _ kX,λl2 ps as H2 td s2 n2 BR al=>?_⟩
  have UD:Al (λp v=>∃x,v=.ref x/\H2 x=some (.lst ((Pr.c6 b p).map V.int))) ps (as.map V.ref):=by
   refine Al.of al.length λi v p ev ep=>?_
   refine(?_:let G_:Prop:=_;G_)
   intro G_
   obtain⟨p',BA,x,rfl,hx,_⟩:=al.get ev
   dsimp only[G_]
   rw[ep] at BA
   cases BA
   exact⟨x,rfl,hx⟩
  have Jh:=s1.trans s2
  refine⟨⟨_,aZ.of BR⟩,bN (src_list (Ok:=λH'=>H'=H2) (λH3 s3=>by rw[s3];exact aZ.of BR)) (λi σ H'=>H'=H2/\∃z,σ=[some (V.ref a),some (V.ref l),some (V.ref l2),z]) ⟨rfl,_,rfl⟩ (λ_ _ _ _ h=>h.1) ?_ ?_⟩
  ·intro i y σ H3 H4 hi dI dR
   refine(?_:let G_:Prop:=_;G_)
   intro G_
   obtain⟨rfl,z,rfl⟩:=dI
   obtain⟨rfl,ex⟩:=dR
   obtain⟨p,ep,x,rfl,hx⟩:=UD.get ex
   dsimp only[G_]
   have ip:=td.Ip (aaf ep)
   have lp:(Pr.c6 b p).length<=b.length:=by
    have:=Pr.sub_len (l:=Pr.c6 b p) (m:=Pr.kb b p) ((Pr.j5 B.gC.good ip).imp λh z=>by omega) λx hx=>(Pr.c9.mp hx).1
    have:=Pr.zS B.gC.good ip
    omega
   simp_all only[vt,hx]
   rw[if_neg (by rw[aab];omega)]
   have cp:=B.yv p ip
   refine⟨b,rb.mono Jh,Pr.c6 b p,rfl,λq hq=>Pr.eG B.gC.good ip hq,B.ok,cp,?_⟩
   rw[if_neg (by omega)]
   exact⟨_,rfl⟩
  ·intro σ H3 bK
   refine(?_:let G_:Prop:=_;G_)
   intro G_
   obtain⟨rfl,z,rfl⟩:=bK
   dsimp only[G_]
   simp_all only[]
   exact kk l2 ps as _ td Jh (none_of s1 n2) BR UD
theorem fG:aN ["place","way"] ["place","way"] (ae (top 29)):=⟨rfl,rfl,rfl,by decide +kernel,rfl,by decide +kernel,by decide +kernel⟩
theorem AX (T:Txt K mg aA tc):bX P w K mg base (bQ P w) 1 "weighted_ways" ["place","way"] tT:=by
 refine T.lC.eD (λ_ _ _ _ _ _=>eZ λ_ _=>rfl) λf fd F=>F.eL fG (λvs H Q E h=>?_) (λcK A outer s H vs Q E hr h=>?_)
 ·obtain⟨_,_,_,rfl,_⟩:=h;rfl
 ·refine(?_:let G_:Prop:=_;G_)
  intro G_
  obtain⟨v,q,k,rfl,rv,pk,kk⟩:=h
  dsimp only[G_]
  have nd:=fG.nd
  refine⟨_,(ag (bW (aQ cV (aI aK (pv 0) ao (λ_ _=>rfl)) cJ (aV _)) (ax (aT (aI aK (pv 0) ao (λ_ _=>rfl))))
   bC)
  (ag (bW (aQ cV (aI aK (pv 0) ao (λ_ _=>rfl)) cJ (aV _)) (ax (aT (cQ (aa (bH (aa ao (aa (aI aL (aI aK (pv 0) ao (λ_ _=>rfl)) (pv 1) (λ_ _=>rfl)) af (se rfl)) (se rfl))) af (se rfl)))))
   bC)
  (ax (aT (cQ af))))),?_⟩
  refine(?_:let cu:TS:=_;let cv:TS:=_;let cw:TS:=_;tSeq cu (tSeq cv cw) _ _ _)
  intro cu cv cw
  cases q with
  | fin g=>
   refine(?_:let G_:Prop:=_;G_)
   intro G_
   obtain⟨t,r,rfl,ht,_⟩:=cM.mp rv
   dsimp only[G_]
   simp_all only[ht]
   rw[if_neg (by decide +kernel),if_neg (by decide +kernel)]
   exact⟨aar _,λl nl=>kk l _ (au nl) (aO.mpr ⟨l,[],rfl,ar,rfl⟩)⟩
  | cL g ws=>
   refine(?_:let G_:Prop:=_;G_)
   intro G_
   obtain⟨t,r,l,zs,rfl,ht,_,hl,rz⟩:=cm.mp rv
   dsimp only[G_]
   simp_all only[ht]
   exact kk l _ (az.refl _) (aO.mpr ⟨l,zs,rfl,hl,rz⟩)
  | bJ who to=>
   refine(?_:let G_:Prop:=_;G_)
   intro G_
   obtain⟨t,l,rfl,ht,hl⟩:=cC.mp rv
   dsimp only[G_]
   cases k with
   | none=>exact pk.elim
   | some k=>
    obtain⟨k0,k1⟩:=pk
    have at1:fH (to.map V.int) k=some (.int (to.getD k.toNat 0)):=dN k0 k1
    simp_all only[gv,ht,hl,at1]
    rw[if_neg (by decide +kernel)]
    exact⟨by decide,λp H2 s2 np hp=>⟨by decide,λl2 nl=>kk l2 _ (s2.trans (au nl)) (aO.mpr ⟨l2,[.ref p],rfl,ar,⟨_,_,rfl,bV.mpr ⟨p,rfl,au nl _ _ hp⟩,rfl⟩⟩)⟩⟩
theorem dS:aN ["board","picks"] ["board","picks"] (ae (top 30)):=⟨rfl,rfl,rfl,by decide +kernel,rfl,by decide +kernel,by decide +kernel⟩
theorem Ji (T:Txt K mg aA tc):bX P w K mg base (bQ P w) 2 "all_weighted_ways" ["board","picks"] IA:=by
 have dY:bX P w K mg base (bQ P w) 1 "weighted_ways" ["place","way"] tT:=AX T
 refine T.ij.eD (λ_ _ _ _ _ _=>eZ λ_ _=>rfl) λf fd F=>F.eL dS (λvs H Q E h=>?_) (λcK A outer s H vs Q E hr h=>?_)
 ·obtain⟨_,_,_,_,rfl,_⟩:=h;rfl
 ·refine(?_:let G_:Prop:=_;G_)
  intro G_
  obtain⟨a,c,b,ks,rfl,rb,lb,hc,⟨lk,pk⟩,kk⟩:=h
  dsimp only[G_]
  have nd:=dS.nd
  refine⟨_,(ax (aT (bT rfl (N:=["board","picks"]) (so:=ae (top 30)) (N':=["place","way"]) (k:=2) (fr:=[]) rfl rfl ⟨rfl,by decide +kernel,by decide +kernel,by decide +kernel,rfl,by decide +kernel,by decide +kernel⟩ (js (K:=K) rfl T.z_zip (aa (pv 0) (aa (pv 1) af (se rfl)) (se rfl))) (λ_ _ _ _ _=>(b9 (K:=K) (n:=2) rfl (aS (aE (i:=0) (show(["place","way"]:List Str).Nodup by decide +kernel) rfl (Or.inl rfl)) (aS (aE (i:=1) (show(["place","way"]:List Str).Nodup by decide +kernel) rfl (Or.inl rfl)) b8)))) (λ_ _ _ _ _=>bI)
   (λ_ _ _ _ _=>(aH dY (hr.mono (by decide)) rfl aB.pass (aa (pv 0) (aa (pv 1) af (se rfl)) (se rfl)) (he:=se rfl) (hpl:=na rfl)))))),?_⟩
  have sl:=sizeLine_eq
  refine(?_:let G_:Prop:=_;G_)
  intro G_
  obtain⟨_,xs,e,ha,rl⟩:=aO.mp rb
  dsimp only[G_]
  cases e
  have lx:=rl.length
  rw[aab] at lx
  simp_all only[tT]
  refine⟨⟨_,aZ.of ha⟩,⟨_,aZ.of hc⟩,?_⟩
  refine fj (K:=K) (jr (λH' s'=>aZ.of (s' _ _ ha)) (λH' s'=>aZ.of (s' _ _ hc))) (λi u v H'=>∃q k,b[i]?=some q/\ks[i]?=some k/\Rep H (iS q) u/\v=gv k) ?_ (by rw[aab];omega) (λi y H'=>∃l,y=.ref l/\∀q k,b[i]?=some q->ks[i]?=some k->Rep H' (pW (uo q k)) (.ref l)) (λ_ _ _ _ s ⟨l,e,h⟩=>⟨l,e,λq k e1 e2=>(h q k e1 e2).mono s⟩) ?_ ?_
  ·intro i v H2 H3 hi s2 dI
   refine(?_:let G_:Prop:=_;G_)
   intro G_
   obtain⟨t,x,y,nt,rfl,ex,ey,rfl⟩:=dI
   rw[aad] at ey
   obtain⟨k,ek,rfl⟩:=Option.map_eq_some_iff.mp ey
   obtain⟨q,eq,rq⟩:=cY rl ex
   dsimp only[G_]
   exact⟨au nt,t,_,_,rfl,d6.of ar,q,k,eq,ek,rq,rfl⟩
  ·intro i u v H2 Q2 hi s2 dR kq
   refine(?_:let G_:Prop:=_;G_)
   intro G_
   obtain⟨q,k,eq,ek,rq,rfl⟩:=dR
   dsimp only[G_]
   simp_all only[tT]
   refine⟨q,k,rfl,rq.mono s2,pk i q k eq ek,λl H3 s3 r3=>kq _ _ s3 ⟨l,rfl,λq' k' e1 e2=>?_⟩⟩
   rw[eq] at e1
   rw[ek] at e2
   cases e1
   cases e2
   exact r3
  ·intro ys H2 s2 ly hy D n1 n2
   rw[aab] at ly
   have lz:(cA b ks).length=b.length:=by unfold cA;rw[abn];omega
   refine kk D ys _ (s2.trans (au n2)) (none_of s2 n2) ar (cZ (by rw[lz];omega) λi y ey ws ew=>?_)
   have hi:i<b.length:=by have:=(List.getElem?_eq_some_iff.mp ew).1;omega
   refine(?_:let G_:Prop:=_;G_)
   intro G_
   obtain⟨l,rfl,hl⟩:=hy i y ey
   dsimp only[G_]
   have e1:b[i]?=some b[i]:=aac hi
   have e2:ks[i]?=some ks[i]:=aac (by omega)
   have e3:ws=uo b[i] ks[i]:=by
    unfold cA at ew
    rw[abt,e1,e2] at ew
    exact(aax ew).symm
   rw[e3]
   exact(hl _ _ e1 e2).mono (λa o h=>by
    have:a≠D:=λz=>by rw[z,n2] at h;cases h
    rw[bz this,aG this]
    exact h)
theorem kK:aN ["board"] ["board"] (ae (top 36)):=⟨rfl,rfl,rfl,by decide +kernel,rfl,by decide +kernel,by decide +kernel⟩
theorem Gf (T:Txt K mg aA tc):bX P w K mg base (bQ P w) 4 "gains_of" ["board"] (AB aA):=by
 have yq:bX P w K mg base (bQ P w) 1 "gain_of" ["place"] FE:=Ja T
 have yr:bX P w K mg base (bQ P w) 3 "book_of" ["several"] (FF aA):=Jb T
 refine T.u7.eD (λ_ _ _ _ _ _=>ik λ_=>rfl) λf fd F=>F.eL kK (λvs H Q E h=>?_) (λcK A outer s H vs Q E hr h=>?_)
 ·obtain⟨_,_,_,rfl,_⟩:=h;rfl
 ·refine(?_:let G_:Prop:=_;G_)
  intro G_
  obtain⟨a,b,rk,rfl,rb,B,kk⟩:=h
  dsimp only[G_]
  have nd:=kK.nd
  refine⟨_,(ax (aT (aH yr (hr.mono (by decide)) rfl aB.pass (aa (bT rfl (N:=["board"]) (so:=ae (top 36)) (N':=["place"]) (k:=1) (fr:=[]) rfl rfl ⟨rfl,by decide +kernel,by decide +kernel,by decide +kernel,rfl,by decide +kernel,by decide +kernel⟩ (bj (K:=K) (pv 0)) (λ_ _ _ _ _=>(aE (i:=0) (show(["place"]:List Str).Nodup by decide +kernel) rfl (Or.inl rfl))) (λ_ _ _ _ _=>bI)
   (λ_ _ _ _ _=>(aH yq (hr.mono (by decide)) rfl aB.pass (aa (pv 0) af (se rfl)) (he:=se rfl) (hpl:=na rfl)))) af (se rfl)) (he:=se rfl) (hpl:=na rfl)))),?_⟩
  simp_all only[FF]
  refine(?_:let G_:Prop:=_;G_)
  intro G_
  obtain⟨_,xs,e,ha,rl⟩:=aO.mp rb
  dsimp only[G_]
  cases e
  have lx:=rl.length
  rw[aab] at lx
  have bl:=B.len
  refine⟨⟨_,aZ.of ha⟩,?_⟩
  refine comp_map (src_list (K:=K) (a:=a) (xs:=xs) (Ok:=az H) (λH' s'=>aZ.of (s' _ _ ha))) (λ_ _ _ _ h=>by rw[h.1];exact az.refl _) (by rw[sizeLine_eq];omega) (λi y H4=>∀q,b[i]?=some q->∃p,y=.ref p/\H4 p=some (.tup (Pr (Wq.dj q).1 (Wq.dj q).2))) (λi y H4 H5 s5 h t e=>by obtain⟨p,e1,h1⟩:=h t e;exact⟨p,e1,s5 _ _ h1⟩) ?_ ?_
  ·rintro i v w0 H4 H5 Q2 hi s4 ⟨rfl,ex⟩ kq
   refine(?_:let G_:Prop:=_;G_)
   intro G_
   obtain⟨q,eq,rq⟩:=cY rl ex
   dsimp only[G_]
   simp_all only[FE]
   refine⟨q,rq.mono s4,λr H6 s6 Xm=>kq _ _ s6 λq' e'=>?_⟩
   rw[eq] at e'
   cases e'
   exact⟨r,rfl,Xm⟩
  ·intro ys H5 s5 ly hy D n1 n2
   refine(?_:let G_:Prop:=_;G_)
   intro G_
   obtain⟨p1,p2,p3⟩:=Az B.wW
   dsimp only[G_]
   rw[aab] at p2
   refine⟨b.map Wq.dj,aO.mpr ⟨D,ys,rfl,ar,cZ (by rw[aab];omega) λi y ey q eq=>?_⟩,by rw[aab];omega,pB (b.map Wq.dj),λx hx=>?_,p1,p2.mono (by omega),λx H6 s6 Xn=>kk x H6 (s5.trans ((au n2).trans s6)) Xn⟩
   ·rw[aad] at eq
    refine(?_:let G_:Prop:=_;G_)
    intro G_
    obtain⟨t,et,rfl⟩:=Option.map_eq_some_iff.mp eq
    obtain⟨p,e1,h1⟩:=hy i y ey t et
    dsimp only[G_]
    exact bV.mpr ⟨p,e1,au n2 _ _ h1⟩
   ·have g:=B.wW x hx
    exact⟨g.2.2.1,p3 x hx,g.1.mono (by decide)⟩
theorem gh:aN ["gains"] ["gains"] (ae (top 37)):=⟨rfl,rfl,rfl,by decide +kernel,rfl,by decide +kernel,by decide +kernel⟩
theorem Jj (T:Txt K mg aA tc):bX P w K mg base (bQ P w) 3 "blank_worths" ["gains"] (FG aA):=by
 have oB:pO P w K mg base (bQ P w) 1 "Book" aA ["self","tops","bottom"] (CN aA):=AW T
 refine T.nO.eD (λ_ _ _ _ _ _=>ik λ_=>rfl) λf fd F=>F.eL gh (λvs H Q E h=>?_) (λcK A outer s H vs Q E hr h=>?_)
 ·obtain⟨_,_,rfl,_⟩:=h;rfl
 ·refine(?_:let G_:Prop:=_;G_)
  intro G_
  obtain⟨x,S,rfl,⟨dx,m,hx,hm⟩,ln,kk⟩:=h
  dsimp only[G_]
  clear G_
  have nd:=gh.nd
  refine⟨_,(ax (aT (zy oB (hr.mono (by decide)) rfl aB.pass (aa (aD uN (cQ (aa ao af (se rfl))) (ba bD (by rfl) T.z_len aaA (aa (dU (pv 0) rfl) af (se rfl)) (he:=se rfl) (hpl:=na rfl))) (aa (dU (pv 0) rfl) af (se rfl)) (se rfl)) (he:=se rfl) (hpl:=na rfl)))),?_⟩
  simp_all only[kR,sr,BU]
  refine⟨by decide,λz nz=>?_⟩
  have s1:=au (o:=.lst [V.int 0]) nz
  have hz:upd H z (.lst [V.int 0]) z=some (.lst [V.int 0]):=ar
  generalize upd H z (.lst [V.int 0])=H1 at *
  have ls:(S.1.map V.int).length=S.1.length:=aab ..
  have sl:=sizeLine_eq
  refine⟨_,_,_,s1 _ _ hx,T.cD,T.na_Book_tops,_,kJ,_,rfl,_,s1 _ _ hm,_,hz,by omega,by omega,by rw[ls,aah];show 1*S.1.length<=_;omega,λD nD=>?_⟩
  rw[ls,aah,List.flatten_replicate_singleton] at *
  have s2:=s1.trans (au (o:=.lst (List.replicate S.1.length (V.int 0))) nD)
  have hD:upd H1 D (.lst (List.replicate S.1.length (V.int 0))) D=some (.lst ((List.replicate S.1.length 0).map V.int)):=by rw[ar,List.map_replicate]
  generalize upd H1 D (.lst (List.replicate S.1.length (V.int 0)))=H2 at *
  refine⟨_,_,_,s2 _ _ hx,T.cD,T.na_Book_bottom,_,ua,λy dy ny Je ne=>?_⟩
  have s3:=s2.trans (au (o:=.own y) Je)
  have Jc:=au (o:=.own y) Je _ _ hD
  have xD:D≠y:=λz=>by rw[z,ny] at hD;cases hD
  refine⟨y,dy,D,_,_,rfl,ar,by rw[aG xD];exact Jc,λm' H' nm Jf o6 ky=>⟨rfl,kk y H' (λz o hz=>?_) ⟨dy,m',o6,Jf⟩⟩⟩
  have yx:z≠y:=λe=>by have:=s2 _ _ hz;rw[e,ny] at this;cases this
  exact ky z o yx (by rw[aG yx];exact s3 _ _ hz)
theorem gW:aN ["book","gains","part","ways","scale","right","place","gain","answers","told","top"] ["book","gains","part","ways"] (ae (top 38)):=⟨rfl,rfl,rfl,by decide +kernel,rfl,by decide +kernel,by decide +kernel⟩
theorem Jk (T:Txt K mg aA tc):bX P w K mg base (bQ P w) 4 "with_worths" ["book","gains","part","ways"] (DT aA):=by
 have eI:bX P w K mg base (bQ P w) 1 "total_weight" ["ways"] tQ:=D1 T
 have lH:bX P w K mg base (bQ P w) 3 "whole_answers" ["rows","right"] Fy:=IW T
 have ub:bX P w K mg base (bQ P w) 2 "part_rows" ["part","ways"] Au:=F8 T
 have oX:nH P w K mg base (bQ P w) 3 aA "scaled" ["self","factor"] (DQ aA):=Gb T
 refine T.oQ.eD (λ_ _ _ _ _ _=>Fj λ_ _ _ _=>rfl) λf fd F=>F.eL gW (λvs H Q E h=>?_) (λcK A outer s H vs Q E hr h=>?_)
 ·obtain⟨_,_,_,_,_,_,_,_,_,_,_,_,_,rfl,_⟩:=h;rfl
 ·refine(?_:let G_:Prop:=_;G_)
  intro G_
  obtain⟨bk,gn,pt,wl,S,gt,G,ps,n,M,xs,fK,lv,rfl,hb,hg,hp,hw,rl,lw,n16,Gg,p0,Jl,D3,wk,dn,Z,M0,lg,G0,bG,dv,gb,zr,kk⟩:=h
  dsimp only[G_]
  clear G_
  have nd:=gW.nd
  refine⟨_,(ag (aF (i:=4) nd rfl (Or.inl rfl) (aD dM (dU (pv 0) rfl) (dU (pv 1) rfl)))
  (ag (aF (i:=5) nd rfl (Or.inl rfl) (cQ af))
  (ag (cz PassesOwn.never rfl (bj (K:=K) (pv 2)) (aE (i:=6) nd rfl (Or.inl rfl)) (ag (aF (i:=7) nd rfl (Or.inl rfl) (aD bo (aD bo (aH eI (hr.mono (by decide)) rfl aB.pass (aa (aI aL (pv 3) (pv 6) (λ_ _=>rfl)) af (se rfl)) (he:=se rfl) (hpl:=na rfl)) (aI aL (dU (pv 1) rfl) (pv 6) (λ_ _=>rfl))) (pv 4)))
  (ax (cF (dD aaE aaN aaO bS.r (pv 5) (aa (aD br (pv 7) (ba (kC (K:=K)) (by rfl) T.z_sum rfl (aa (bT rfl (N:=["book","gains","part","ways","scale","right","place","gain","answers","told","top"]) (so:=ae (top 38)) (N':=["weight","to","book"]) (k:=2) (fr:=[0]) rfl rfl ⟨rfl,by decide +kernel,by decide +kernel,by decide +kernel,rfl,by decide +kernel,by decide +kernel⟩ (bj (K:=K) (aI aL (pv 3) (pv 6) (λ_ _=>rfl))) (λ_ _ _ _ _=>(b9 (K:=K) (n:=2) rfl (aS (aE (i:=0) (show(["weight","to","book"]:List Str).Nodup by decide +kernel) rfl (Or.inl rfl)) (aS (aE (i:=1) (show(["weight","to","book"]:List Str).Nodup by decide +kernel) rfl (Or.inl rfl)) b8)))) (λ_ _ _ _ _=>bI)
   (λ_ _ _ _ _=>(aD bo (pv 0) (aI aL (wo (K:=K) (pv 2) rfl) (pv 1) (λ_ _=>rfl))))) af (se rfl)) (he:=se rfl) (hpl:=na rfl))) af (se rfl)))))))
  (ag (aF (i:=8) nd rfl (Or.inl rfl) (aH lH (hr.mono (by decide)) rfl aB.pass (aa (aH ub (hr.mono (by decide)) rfl aB.pass (aa (pv 2) (aa (pv 3) af (se rfl)) (se rfl)) (he:=se rfl) (hpl:=na rfl)) (aa (pv 5) af (se rfl)) (se rfl)) (he:=se rfl) (hpl:=na rfl)))
  (ag (aF (i:=9) nd rfl (Or.inl rfl) (Ih oX T.cD (pv 0) (hr.mono (by decide)) aB.pass (aa (aI aK (pv 8) ao (λ_ _=>rfl)) af (se rfl)) (hst:=se rfl) (hpl:=na rfl)))
  (ag (cz PassesOwn.never rfl (js (K:=K) rfl T.z_zip (aa (pv 2) (aa (aI aK (pv 8) ao (λ_ _=>rfl)) af (se rfl)) (se rfl))) (b9 (K:=K) (n:=2) rfl (aS (aE (i:=6) nd rfl (Or.inl rfl)) (aS (aE (i:=10) nd rfl (Or.inl rfl)) b8))) (ax (eB (pv 10) (fM (dU (pv 9) rfl) (pv 6) set_list))))
  (ax (aT (pv 9))))))))),?_⟩
  refine(?_:let cu:TS:=_;let cv:TS:=_;let cw:TS:=_;let dQ:TS:=_;let jF:TS:=_;let AY:TS:=_;let D4:TS:=_;tSeq cu (tSeq cv (tSeq cw (tSeq dQ (tSeq jF (tSeq AY D4))))) _ _ _)
  intro cu cv cw dQ jF AY D4
  have sl:=sizeLine_eq
  refine(?_:let G_:Prop:=_;G_)
  intro G_
  obtain⟨dx,m,K2,GQ⟩:=hb
  obtain⟨dg,mg',UE,Xo⟩:=hg
  dsimp only[G_]
  clear G_
  have B0:=Z.pos
  have lS:=Z.len
  have Xp:Bt M (S.2 / G):=Z.bb.le (Nm.dO G0 dv)
  have ML:∀t∈S.1,Bt 4000 t:=λt ht=>by
   refine(?_:let G_:Prop:=_;G_)
   intro G_
   obtain⟨j,hj,rfl⟩:=aa2 ht
   dsimp only[G_]
   have:=Z.bt j
   rw[aae,aac hj] at this
   exact Bt.mono this (by omega)
  have UG:∀p:Nat,(p:Int)∈ps->∃wv us,fH xs (p:Int)=some (.ref wv)/\Rep H (pW (cq fK (p:Int))) (.ref wv)/\H wv=some (.lst us)/\aY H ((cq fK (p:Int)).map bB) us/\us.length=(cq fK (p:Int)).length/\Dg.wK n (cq fK (p:Int)):=λp hp=>by
   have hl:p<fK.length:=by have:=(D3 _ hp).2;omega
   have ew:fK[p]?=some (cq fK (p:Int)):=by
    unfold cq
    rw[aah,aae,aac hl]
    rfl
   obtain⟨v,ev,rv⟩:=rl.at (d:=pW (cq fK (p:Int))) (i:=p) (by rw[aad,ew];rfl)
   refine(?_:let G_:Prop:=_;G_)
   intro G_
   obtain⟨wv,us,rfl,C7,ru⟩:=aO.mp rv
   dsimp only[G_]
   have lu:=ru.length
   rw[aab] at lu
   exact⟨wv,us,bL ev,rv,C7,ru,lu.symm,wk _ (aaf ew)⟩
  have K3:∀p∈ps,Dg.wK n (cq fK p):=λp hp=>by
   obtain⟨p,rfl⟩:=aav (D3 p hp).1
   refine(?_:let G_:Prop:=_;G_)
   intro G_
   obtain⟨_,_,_,_,_,_,_,h⟩:=UG p hp
   dsimp only[G_]
   exact h
  have rs:∀p∈ps,_:=λp hp=>Dg.Ax (g:=gt.getD p.toNat 0) Z (K3 p hp) G0 dv (gb _)
  generalize hR:(λp:Int=>Dg.tt (cq fK p)*gt.getD p.toNat 0* (S.2 / G)+Dg.gz S.1 (cq fK p))=R at *
  have Re:∀p,R p=Dg.tt (cq fK p)*gt.getD p.toNat 0* (S.2 / G)+Dg.gz S.1 (cq fK p):=λp=>by rw[<-hR]
  change tSeq _ _ _ _ _
  refine aR (λσ' H1=>H=H1/\σ'=[some (.ref bk),some (.ref gn),some (.ref pt),some (.ref wl),some (.int (S.2 / G)),none,none,none,none,none,none]) ?_ (λN hN=>?_)
  case refine_2=>
   simp_all only[kR]
   exact⟨_,_,_,K2,T.cD,T.na_Book_bottom,_,ua,_,_,_,UE,T.cD,T.na_Book_bottom,_,ua,_,rfl,_,rfl,fi.of G0 bG,hN _ _ ⟨rfl,rfl⟩⟩
  rintro _ _ ⟨rfl,rfl⟩
  change tSeq _ _ _ _ _
  refine aR (λσ' H1=>∃r,az H H1/\H r=none/\H1 r=some (.lst [])/\σ'=[some (.ref bk),some (.ref gn),some (.ref pt),some (.ref wl),some (.int (S.2 / G)),some (.ref r),none,none,none,none,none]) ?_ (λN hN=>?_)
  case refine_2=>
   simp_all only[]
   exact⟨aar _,λr n3=>hN _ _ ⟨r,au n3,n3,ar,rfl⟩⟩
  intro _ H1 bK
  refine(?_:let G_:Prop:=_;G_)
  intro G_
  obtain⟨r,s1,nr,IM,rfl⟩:=bK
  dsimp only[G_]
  clear G_
  change tSeq _ _ _ _ _
  refine aR (λσ' H2=>az H H2/\H2 r=some (.lst ((ps.map R).map V.int))/\∃z6 z7,σ'=[some (.ref bk),some (.ref gn),some (.ref pt),some (.ref wl),some (.int (S.2 / G)),some (.ref r),z6,z7,none,none,none]) ?_ (λN hN=>?_)
  case refine_2=>
   simp_all only[]
   refine⟨⟨_,aZ.of (s1 _ _ hp)⟩,bN (src_list (K:=K) (a:=pt) (xs:=ps.map V.int) (Ok:=az H) (λH' s=>aZ.of (s _ _ hp))) (λj σ H2=>az H H2/\H2 r=some (.lst (((ps.take j).map R).map V.int))/\∃z6 z7,σ=[some (.ref bk),some (.ref gn),some (.ref pt),some (.ref wl),some (.int (S.2 / G)),some (.ref r),z6,z7,none,none,none]) ⟨s1,IM,_,_,rfl⟩ (λ_ _ _ _ h=>h.1) ?_ ?_⟩
   ·intro j y σ H2 H3 hj dI dR
    refine(?_:let G_:Prop:=_;G_)
    intro G_
    obtain⟨s2,Bu,z6,z7,rfl⟩:=dI
    obtain⟨rfl,ey⟩:=dR
    dsimp only[G_]
    clear G_
    rw[aab] at hj
    rw[aad,aac hj] at ey
    cases ey
    have mp:=aan hj
    have tk:ps.take (j+1)=ps.take j++ [ps[j]]:=by rw[aaC,aac hj];rfl
    rw[tk]
    generalize ps[j]=p at *
    obtain⟨p,rfl⟩:=aav (D3 p mp).1
    refine(?_:let G_:Prop:=_;G_)
    intro G_
    obtain⟨wv,us,Ga,rv,C7,ru,lu,MM⟩:=UG p mp
    obtain⟨bR,_⟩:=rs _ mp
    dsimp only[G_]
    clear G_
    have Gh:fH (gt.map V.int) (p:Int)=some (.int (gt.getD p 0)):=by have:=dN (ns:=gt) (i:=(p:Int)) (by omega) (by have:=(D3 _ mp).2;omega);rwa [aah] at this
    have eR:=Re (p:Int)
    rw[aah] at bR eR
    generalize cq fK (p:Int)=ws at *
    obtain⟨d0,d1⟩:=MM.tt
    have bd:Bt 20 (Dg.tt ws):=Bt.of 1000000 (by omega) (by omega)
    have w5:=MM.1
    have bg:Bt 440 (gt.getD p 0):=by
     have h1:=gb p
     have h2:Bt 440 (2^40*G):=by
      have k:Bt 400 G:=bG
      unfold Bt at k ⊢
      rw[aaY,show((2:Int)^40).natAbs=2^40 by decide,show 440=40+400 by decide,Nat.pow_add]
      exact Nat.mul_lt_mul_of_pos_left k (by decide)
     refine h2.le ?_
     rw[aaY,show((2:Int)^40).natAbs=2^40 by decide,show G.natAbs=G.toNat by omega]
     exact h1
    simp_all only[tQ,kR,cG]
    refine⟨_,s2 _ _ hw,_,Ga,wv,rfl,ws,rv.mono s2,w5,λH4 s4=>?_⟩
    have lJ:=s2.trans s4
    refine⟨_,_,_,lJ _ _ UE,T.cD,T.na_Book_tops,_,kJ,_,rfl,_,lJ _ _ Xo,_,Gh,_,rfl,bd.fh bg,(bd.mul bg).fh Xp (by omega),?_⟩
    refine⟨.inl ⟨rfl,_,aZ.of (s4 _ _ Bu)⟩,_,lJ _ _ hw,_,Ga,wv,rfl,⟨_,aZ.of (lJ _ _ C7)⟩,?_⟩
    have S':Src (vN K wv) (az H4) ws.length (λi x H H3=>H3=H/\us[i]?=some x):=by rw[<-lu];exact src_list (λH' s'=>aZ.of (s' _ _ (lJ _ _ C7)))
    refine iR ws (λx=>some (x.1*S.1.getD x.2.toNat 0)) S' (λ_ _ _ _ h=>h.1) (by omega) ?_ ?_
    ·rintro j x v0 ex ⟨_,ey⟩
     refine(?_:let G_:Prop:=_;G_)
     intro G_
     obtain⟨t,et,ht⟩:=dc (ru.mono lJ) ex
     dsimp only[G_]
     rw[ey] at et
     cases et
     refine(?_:let G_:Prop:=_;G_)
     intro G_
     obtain⟨x1,x2,x3,x4⟩:=MM.2 x (aaf ex)
     dsimp only[G_]
     have Xq:fH (S.1.map V.int) x.2=some (.int (S.1.getD x.2.toNat 0)):=dN x3 (by omega)
     refine⟨t,_,_,rfl,d6.of ht,λY N y1 _=>?_⟩
     simp_all only[gK,kR]
     exact⟨_,_,_,lJ _ _ K2,T.cD,T.na_Book_tops,_,kJ,_,rfl,_,lJ _ _ GQ,_,Xq,_,rfl,(Bt.of (n:=18) 200000 (by omega) (by omega)).fh (Z.bt _) (by omega),y1 _ rfl⟩
    ·intro D n1 n2
     rw[d8]
     have eR:R (p:Int)=Dg.tt ws*gt.getD p 0* (S.2 / G)+ (ws.map λx=>x.1*S.1.getD x.2.toNat 0).sum:=eR
     refine⟨_,aZ.of ar,_,au n2 _ _ (s4 _ _ Bu),by rw[aab,aab,aaQ];omega,aX (lJ.trans (au n2)) nr,?_,_,rfl⟩
     rw[ar,<-eR,aau,aau]
     rfl
   ·intro σ H2 bK
    refine(?_:let G_:Prop:=_;G_)
    intro G_
    obtain⟨s2,Bu,z6,z7,rfl⟩:=bK
    dsimp only[G_]
    rw[aab,List.take_length] at Bu
    exact hN _ _ ⟨s2,Bu,_,_,rfl⟩
  intro _ H2 bK
  refine(?_:let G_:Prop:=_;G_)
  intro G_
  obtain⟨s2,Bu,z6,z7,rfl⟩:=bK
  dsimp only[G_]
  clear G_
  have lR:(ps.map R).length=ps.length:=aab ..
  have bR:∀x∈ps.map R,x.natAbs<=2^ (M+61):=λx hx=>by
   refine(?_:let G_:Prop:=_;G_)
   intro G_
   obtain⟨p,hp,rfl⟩:=List.mem_map.mp hx
   dsimp only[G_]
   rw[Re]
   exact(rs p hp).2
  have b1:(1:Nat)<=2^20:=by decide
  have bc:(2:Nat)^20<=2^ (M+61):=abh (by decide) (by omega)
  have top:=Dg.Aw ps.length M (by omega) p0
  have Xr:(ps.length+1)^ (ps.length+1)* (2^ (M+61)* (2^20)^ps.length)<2^4000:=aat top (abh (by decide) (by omega))
  change tSeq _ _ _ _ _
  refine aR (λσ' H3=>∃u q d x L,az H2 H3/\H3 u=some (.tup [.ref q,.int d])/\H3 q=some (.lst (x.map V.int))/\Dg.oW ps (cq fK) L/\Ub L (ps.map R) ps.length x d/\d.natAbs<=(ps.length+1)^ (ps.length+1)* (2^20)^ps.length/\(∀v∈x,v.natAbs<=(ps.length+1)^ (ps.length+1)* (2^ (M+61)* (2^20)^ps.length))/\σ'=[some (.ref bk),some (.ref gn),some (.ref pt),some (.ref wl),some (.int (S.2 / G)),some (.ref r),z6,z7,some (.ref u),none,none]) ?_ (λN hN=>?_)
  case refine_2=>
   simp_all only[Au,Fy]
   refine⟨ps,s2 _ _ hp,_,s2 _ _ hw,_,rl.mono s2,Gg,by omega,λp hp=>by have:=D3 p hp;omega,λws IX=>(wk ws IX).1,λr2 L H3 s3 mt rp=>?_⟩
   have sq:aP.Sq L ps.length:=⟨rp.1,rp.2.1⟩
   have hL:=rp.ent K3
   have sw:=CL sq lR (by omega) b1 bc hL bR Xr
   refine⟨L,mt,_,s3 _ _ Bu,?_⟩
   rw[lR]
   refine⟨sq,sw,λk rs W H4 St hk st s4=>?_,λrs W t p H4 St s4 ht Jm=>?_⟩
   ·exact absurd (aP.yi sq lR St hk st) (rp.Am Gg (λp hp x hx=>((K3 p hp).2 x hx).1) dn)
   ·obtain⟨z1,z2⟩:=FA sq lR b1 bc hL bR St
    exact hN _ _ ⟨t,p,_,_,L,s3.trans s4,ht,Jm,rp,Fz sq lR sw St,z1,z2,rfl⟩
  intro _ H3 bK
  refine(?_:let G_:Prop:=_;G_)
  intro G_
  obtain⟨u,q,d,x,L,s3,hu,hq,rp,so,zd,zx,rfl⟩:=bK
  dsimp only[G_]
  clear G_
  have GZ:=s2.trans s3
  have d0:=so.pos
  have lx:=so.len
  have KU:Bt (92*ps.length) d:=abb zd (Dg.CO _ (by omega) p0)
  change tSeq _ _ _ _ _
  refine aR (λσ' H4=>∃y dy m',az H3 H4/\H3 y=none/\H3 m'=none/\H4 y=some (.ins aA dy [("tops",.ref m'),("bottom",.int (S.2*d))])/\H4 m'=some (.lst ((S.1.map (·*d)).map V.int))/\σ'=[some (.ref bk),some (.ref gn),some (.ref pt),some (.ref wl),some (.int (S.2 / G)),some (.ref r),z6,z7,some (.ref u),some (.ref y),none]) ?_ (λN hN=>?_)
  case refine_2=>
   simp_all only[o9,hu]
   refine⟨_,_,GZ _ _ K2,Jd,bk,S,_,rfl,⟨_,_,GZ _ _ K2,GZ _ _ GQ⟩,so.bd,Z.bb.mono (by omega),ML,by omega,λy dy m' H4 s4 ny nm hy hm=>hN _ _ ⟨y,dy,m',s4,ny,nm,hy,hm,rfl⟩⟩
  intro _ H4 bK
  refine(?_:let G_:Prop:=_;G_)
  intro G_
  obtain⟨y,dy,m',s4,ny,Xs,hy,Jf,rfl⟩:=bK
  dsimp only[G_]
  clear G_
  change tSeq _ _ _ _ _
  refine aR (λσ' H5=>az H3 H5/\H5 y=some (.ins aA dy [("tops",.ref m'),("bottom",.int (S.2*d))])/\H5 m'=some (.lst ((Dg.putK ps x (S.1.map (·*d)) ps.length).map V.int))/\∃z6 uc,σ'=[some (.ref bk),some (.ref gn),some (.ref pt),some (.ref wl),some (.int (S.2 / G)),some (.ref r),z6,z7,some (.ref u),some (.ref y),uc]) ?_ (λN hN=>?_)
  case refine_2=>
   simp_all only[s4 _ _ hu]
   refine⟨⟨_,aZ.of (s4 _ _ (GZ _ _ hp))⟩,⟨_,aZ.of (s4 _ _ hq)⟩,bN (jr (K:=K) (Ok:=az H3) (λH' s=>aZ.of (s _ _ (GZ _ _ hp))) (λH' s=>aZ.of (s _ _ hq))) (λj σ H5=>az H3 H5/\H5 y=some (.ins aA dy [("tops",.ref m'),("bottom",.int (S.2*d))])/\H5 m'=some (.lst ((Dg.putK ps x (S.1.map (·*d)) j).map V.int))/\∃z6 uc,σ=[some (.ref bk),some (.ref gn),some (.ref pt),some (.ref wl),some (.int (S.2 / G)),some (.ref r),z6,z7,some (.ref u),some (.ref y),uc]) ⟨s4,hy,Jf,_,_,rfl⟩ (λ_ _ _ _ h=>h.1) ?_ ?_⟩
   ·intro j v0 σ H5 H6 hj dI dR
    refine(?_:let G_:Prop:=_;G_)
    intro G_
    obtain⟨s5,D5,Gi,z6,uc,rfl⟩:=dI
    obtain⟨t,x1,x2,nt,rfl,e1,e2,rfl⟩:=dR
    dsimp only[G_]
    clear G_
    have hj:j<ps.length:=by rw[aab,aab] at hj;omega
    have g1:ps.getD j 0=ps[j]:=by rw[aae,aac hj];rfl
    have g2:x.getD j 0=x[j]:=by rw[aae,aac (by omega)];rfl
    rw[aad,aac hj] at e1
    rw[aad,aac (show j<x.length by omega)] at e2
    cases e1
    cases e2
    have mp:=aan hj
    have pk:Dg.putK ps x (S.1.map (·*d)) (j+1)=(Dg.putK ps x (S.1.map (·*d)) j).set (ps[j]).toNat x[j]:=by
     rw[<-g1,<-g2]
     rfl
    have lk:(Dg.putK ps x (S.1.map (·*d)) j).length=n:=by rw[Dg.jA,aab,lS]
    rw[pk]
    generalize Dg.putK ps x (S.1.map (·*d)) j=ts at *
    generalize x[j]=xj at *
    generalize ps[j]=p at *
    have ip:=D3 p mp
    obtain⟨p,rfl⟩:=aav ip.1
    refine⟨t,_,rfl,d6.of ar,rfl,?_⟩
    have s6:=au (o:=.tup [.int (p:Int),.int xj]) nt
    generalize upd H5 t (.tup [.int (p:Int),.int xj])=H6 at *
    simp_all only[kR]
    have ym:y≠m':=λz=>by rw[z,Gi] at D5;cases D5
    have lm:p< (ts.map V.int).length:=by rw[aab];omega
    refine⟨_,_,_,s6 _ _ D5,T.cD,T.na_Book_tops,_,kJ,_,rfl,_,s6 _ _ Gi,p,hX lm,aX (s5.trans s6) Xs,by rw[aG ym];exact s6 _ _ D5,?_,_,rfl⟩
    rw[ar,aah,List.map_set]
   ·intro σ H5 bK
    refine(?_:let G_:Prop:=_;G_)
    intro G_
    obtain⟨s5,D5,Gi,z6,uc,rfl⟩:=bK
    dsimp only[G_]
    have lm:min (List.map V.int ps).length (List.map V.int x).length=ps.length:=by rw[aab,aab];omega
    rw[lm] at Gi
    exact hN _ _ ⟨s5,D5,Gi,_,_,rfl⟩
  intro _ H5 bK
  refine(?_:let G_:Prop:=_;G_)
  intro G_
  obtain⟨s5,D5,Gi,z6,uc,rfl⟩:=bK
  dsimp only[G_]
  simp_all only[]
  have lT:(Dg.putK ps x (S.1.map (·*d)) ps.length).length=n:=by rw[Dg.jA,aab,lS]
  have out:∀q,0<=q->q∉ps->(Dg.putK ps x (S.1.map (·*d)) ps.length).getD q.toNat 0=S.1.getD q.toNat 0*d:=λq q0 hq=>by
   rw[Dg.tS q0 (λp hp=>(D3 p hp).1) hq _ (aag _),Dg.qX]
  have ins:∀j,j<ps.length->(Dg.putK ps x (S.1.map (·*d)) ps.length).getD (ps.getD j 0).toNat 0=x.getD j 0:=λj hj=>Dg.wM Gg D3 (by rw[aab,lS]) _ (aag _) hj
  have bM:Bt (M+92*ps.length) (S.2*d):=Z.bb.mul KU
  refine kk y (Dg.putK ps x (S.1.map (·*d)) ps.length,S.2*d) H5 (GZ.trans s5) ⟨dy,m',D5,Gi⟩ ⟨d,d0,rfl,lT.trans lS.symm,out,λp hp=>?_⟩ ⟨lT,Int.mul_pos B0 d0,bM,λk=>?_⟩
  ·refine(?_:let G_:Prop:=_;G_)
   intro G_
   obtain⟨i,hi,rfl⟩:=aa2 hp
   dsimp only[G_]
   have g1:ps.getD i 0=ps[i]:=by rw[aae,aac hi];rfl
   have sl:=so.eq i hi
   rw[aae (l:=ps.map R),aad,aac hi] at sl
   have e:=Dg.CM (S:=S.1) (T:=Dg.putK ps x (S.1.map (·*d)) ps.length) (x:=x) (d:=d) (r:=R ps[i]) rp Gg hi sl zr ins (λy hy hn=>out y.2 (by have:=(K3 _ (by rw[g1];exact hp)).2 y hy;omega) hn)
   rw[g1] at e
   show Dg.tt _* (Dg.putK ps x (S.1.map (·*d)) ps.length).getD _ 0=_
   rw[e,Re,Int.add_mul]
   show _=_+Dg.gz (Dg.putK ps x (S.1.map (·*d)) ps.length) _
   omega
  ·show Bt _ ((Dg.putK ps x (S.1.map (·*d)) ps.length).getD k 0)
   by_cases c:(k:Int)∈ps
   ·refine(?_:let G_:Prop:=_;G_)
    intro G_
    obtain⟨j,hj,ej⟩:=aa2 c
    dsimp only[G_]
    have g1:ps.getD j 0=(k:Int):=by rw[aae,aac hj,ej];rfl
    have e:=ins j hj
    rw[g1,aah] at e
    rw[e,aae,aac (by omega)]
    exact abb (zx _ (aan _)) top
   ·have e:=out (k:Int) (by omega) c
    rw[aah] at e
    rw[e]
    exact(Z.bt k).mul KU
theorem dG (c:Int->Bool):∀l:List Int,l.filterMap (λx=>if c x=true then some x else none)=l.filter c
 | []=>rfl
 | x::l=>by
  rw[List.filterMap_cons,List.filter_cons,dG c l]
  cases c x <;>rfl
theorem iB:aN ["place","tops","sign","wanted"] ["place","tops"] (ae (top 40)):=⟨rfl,rfl,rfl,by decide +kernel,rfl,by decide +kernel,by decide +kernel⟩
theorem Gj (T:Txt K mg aA tc):bX P w K mg base (bQ P w) 1 "wanted_way" ["place","tops"] AJ:=by
 refine T.qK.eD (λ_ _ _ _ _ _=>eZ λ_ _=>rfl) λf fd F=>F.eL iB (λvs H Q E h=>?_) (λcK A outer s H vs Q E hr h=>?_)
 ·obtain⟨_,_,_,_,_,rfl,_⟩:=h;rfl
 ·refine(?_:let G_:Prop:=_;G_)
  intro G_
  obtain⟨v,m,who,to,ts,rfl,rv,hm,l0,l3,mG,bt,kk⟩:=h
  dsimp only[G_]
  clear G_
  have nd:=iB.nd
  refine⟨_,(ag (aF (i:=2) nd rfl (Or.inr rfl) (gE (aQ cV (aI aK (pv 0) ao (λ_ _=>rfl)) ao (aV _)) ao (sk mO ao)))
  (ag (fR (i:=3) rfl nd rfl rfl (N:=["place","tops","sign","wanted"]) (so:=ae (top 40)) (N':=["to","tops","sign"]) (k:=1) (fr:=[1,2]) rfl rfl ⟨rfl,by decide +kernel,by decide +kernel,by decide +kernel,rfl,by decide +kernel,by decide +kernel⟩ (bj (K:=K) (aI aK (pv 0) ao (λ_ _=>rfl))) (λ_ _ _ _ _=>(aE (i:=0) (show(["to","tops","sign"]:List Str).Nodup by decide +kernel) rfl (Or.inl rfl))) (λ_ _ _ _ _=>bI)
   (λ_ _ _ _ _=>(aD bo (pv 2) (aI aL (pv 1) (pv 0) (λ_ _=>rfl)))))
  (ax (aT (dD aaE PySem.F.slot_list_index PySem.F.type_list_index (u4 (K:=K)) (pv 3) (aa (ba (sR (K:=K)) (by rfl) T.z_max rfl (aa (pv 3) af (se rfl)) (he:=se rfl) (hpl:=na rfl)) af (se rfl))))))),?_⟩
  refine(?_:let cu:TS:=_;let cv:TS:=_;let cw:TS:=_;tSeq cu (tSeq cv cw) _ _ _)
  intro cu cv cw
  have sl:=sizeLine_eq
  refine(?_:let G_:Prop:=_;G_)
  intro G_
  obtain⟨t,l,rfl,ht,hl⟩:=cC.mp rv
  dsimp only[G_]
  clear G_
  change tSeq _ _ _ _ _
  refine aR (λσ' H1=>H=H1/\σ'=[some (.ref t),some (.ref m),some (.int (sgn who)),none]) ?_ (λN hN=>?_)
  case refine_2=>
   simp_all only[ht]
   refine gI (λc=>hN _ _ ⟨rfl,by unfold sgn;rw[if_pos c]⟩) (λc=>hN _ _ ⟨rfl,by unfold sgn;rw[if_neg c]⟩)
  rintro _ _ ⟨rfl,rfl⟩
  have sg:=FP who
  generalize hu:sgn who=u at *
  change tSeq _ _ _ _ _
  refine aR (λσ' H1=>∃d,az H H1/\H1 d=some (.lst (List.map V.int (to.map λg=>u*ts.getD g.toNat 0)))/\σ'=[some (.ref t),some (.ref m),some (.int u),some (.ref d)]) ?_ (λN hN=>?_)
  case refine_2=>
   simp_all only[ht]
   refine⟨⟨_,aZ.of hl⟩,?_⟩
   have S':Src (vN K l) (az H) to.length (λi x H H3=>H3=H/\(to.map V.int)[i]?=some x):=by
    have:=src_list (K:=K) (a:=l) (xs:=to.map V.int) (Ok:=az H) (λH' s'=>aZ.of (s' _ _ hl))
    rwa [aab] at this
   refine dF to (λg=>some (u*ts.getD g.toNat 0)) S' (λ_ _ _ _ h=>h.1) (by omega) ?_ ?_
   ·rintro i g x eg ⟨_,ex⟩ Y N y1 _
    rw[aad,eg] at ex
    cases ex
    obtain⟨g0,g1⟩:=mG g (aaf eg)
    have Gh:fH (ts.map V.int) g=some (.int (ts.getD g.toNat 0)):=dN g0 g1
    have hg:g.toNat<ts.length:=by omega
    have bg:Bt 4000 (ts.getD g.toNat 0):=bt _ (by rw[aae,aac hg];exact aan hg)
    simp_all only[gK,hm,Gh]
    exact⟨(Bt.of (n:=1) 1 (by omega) (by omega)).fh bg,y1 _ rfl⟩
   ·intro D n1 n2
    rw[d8]
    exact hN _ _ ⟨D,au n2,ar,rfl⟩
  intro _ H1 bK
  refine(?_:let G_:Prop:=_;G_)
  intro G_
  obtain⟨d,s1,hd,rfl⟩:=bK
  dsimp only[G_]
  clear G_
  simp_all only[Fb]
  refine⟨.inl ⟨rfl,_,aZ.of hd⟩,_,aZ.of hd,by rw[aab];exact l0,λM mM gM=>⟨_,aZ.of hd,mM,by rw[aab];omega,?_⟩⟩
  have lt:=aa1 mM
  have eg:=aa5 lt
  rw[aab] at lt
  generalize List.idxOf M (to.map λg=>u*ts.getD g.toNat 0)=w' at *
  rw[List.getElem_map] at eg
  refine kk w' _ s1 lt λg hg=>?_
  have e2:to.getD w' 0=to[w']:=by rw[aae,aac lt];rfl
  rw[e2,hu,eg]
  exact gM _ (List.mem_map.mpr ⟨g,hg,rfl⟩)
theorem gX:aN ["board","places","ways","tops","found","place","way","picked"] ["board","places","ways","tops"] (ae (top 41)):=⟨rfl,rfl,rfl,by decide +kernel,rfl,by decide +kernel,by decide +kernel⟩
theorem Jn (T:Txt K mg aA tc):bX P w K mg base (bQ P w) 2 "better_ways" ["board","places","ways","tops"] AK:=by
 have rK:bX P w K mg base (bQ P w) 1 "wanted_way" ["place","tops"] AJ:=Gj T
 refine T.oR.eD (λ_ _ _ _ _ _=>Fj λ_ _ _ _=>rfl) λf fd F=>F.eL gX (λvs H Q E h=>?_) (λcK A outer s H vs Q E hr h=>?_)
 ·obtain⟨_,_,_,_,_,_,_,_,_,_,rfl,_⟩:=h;rfl
 ·refine(?_:let G_:Prop:=_;G_)
  intro G_
  obtain⟨bl,ql,wl,m,b,ks,who,ts,qs,xs,rfl,rb,UH,hw,rl,hm,Xu,bt,ko,GV,KP,l16,kk⟩:=h
  dsimp only[G_]
  clear G_
  have nd:=gX.nd
  refine⟨_,(ag (aF (i:=4) nd rfl (Or.inl rfl) (cQ af))
  (ag (cz PassesOwn.never rfl (bj (K:=K) (pv 1)) (aE (i:=5) nd rfl (Or.inl rfl)) (ag (aF (i:=6) nd rfl (Or.inl rfl) (aH rK (hr.mono (by decide)) rfl aB.pass (aa (aI aL (pv 0) (pv 5) (λ_ _=>rfl)) (aa (pv 3) af (se rfl)) (se rfl)) (he:=se rfl) (hpl:=na rfl)))
  (ag (aF (i:=7) nd rfl (Or.inl rfl) (aI aK (aI aL (aI aL (pv 2) (pv 5) (λ_ _=>rfl)) ao (λ_ _=>rfl)) ao (λ_ _=>rfl)))
  (ax (bW (aQ vR (aI aL (pv 3) (aI aL (aI aK (aI aL (pv 0) (pv 5) (λ_ _=>rfl)) ao (λ_ _=>rfl)) (pv 6) (λ_ _=>rfl)) (λ_ _=>rfl)) (aI aL (pv 3) (pv 7) (λ_ _=>rfl)) (aV _)) (ax (cF (dD aaE aaN aaO bS.r (pv 4) (aa (bH (aa (pv 5) (aa (pv 6) af (se rfl)) (se rfl))) af (se rfl)))))
   bC)))))
  (ax (aT (pv 4))))),?_⟩
  refine(?_:let cu:TS:=_;let cv:TS:=_;let cw:TS:=_;tSeq cu (tSeq cv cw) _ _ _)
  intro cu cv cw
  have sl:=sizeLine_eq
  refine(?_:let G_:Prop:=_;G_)
  intro G_
  obtain⟨_,xb,e,G1,G3⟩:=aO.mp rb
  dsimp only[G_]
  clear G_
  cases e
  simp_all only[]
  refine⟨aar _,λfo nf=>?_⟩
  have s1:=au (o:=.lst []) nf
  have h1:upd H fo (.lst []) fo=some (.lst []):=ar
  generalize upd H fo (.lst [])=H1 at *
  refine⟨⟨_,aZ.of (s1 _ _ UH)⟩,bN (src_list (K:=K) (a:=ql) (xs:=qs.map V.int) (Ok:=az H) (λH2 s2=>aZ.of (s2 _ _ UH))) (λi σ H'=>az H H'/\∃(bs:List (Int×Int)) (ys:List V) (z5 z6 z7:Option V),H' fo=some (.lst ys)/\aY (cE H' fo) (bs.map bB) ys/\ir b ks who ts (qs.take i) bs/\σ=[some (.ref bl),some (.ref ql),some (.ref wl),some (.ref m),some (.ref fo),z5,z6,z7]) ⟨s1,[],[],_,_,_,h1,rfl,ir.start,rfl⟩ (λ_ _ _ _ h=>h.1) ?_ ?_⟩
  ·intro i y σ H2 H3 hi dI dR
   refine(?_:let G_:Prop:=_;G_)
   intro G_
   obtain⟨s2,bs,ys,z5,z6,z7,IP,ry,W,rfl⟩:=dI
   obtain⟨rfl,ey⟩:=dR
   dsimp only[G_]
   clear G_
   rw[aab] at hi
   rw[aad,aac hi] at ey
   cases ey
   have tk:qs.take (i+1)=qs.take i++ [qs[i]]:=by rw[aaC,aac hi];rfl
   refine(?_:let G_:Prop:=_;G_)
   intro G_
   obtain⟨p0,to,eb⟩:=KP _ (aan hi)
   dsimp only[G_]
   clear G_
   have ly:=ry.length
   have lb:=W.sub.length_le
   rw[aab,aaQ] at lb
   rw[aab] at ly
   rw[tk]
   generalize qs[i]=p at *
   obtain⟨p,rfl⟩:=aav p0
   rw[aah] at eb
   have hp:=(List.getElem?_eq_some_iff.mp eb).1
   have pq:=GV _ (aaf eb)
   refine(?_:let G_:Prop:=_;G_)
   intro G_
   obtain⟨k,ek,k0,k1,ew,et,mt⟩:=oi ko eb
   obtain⟨v,ev,rv⟩:=ft G3 eb
   have K4:p< (cA b ks).length:=by unfold cA;rw[abn,ko.len];omega
   have Xv:(cA b ks)[p]?=some [(1,to.getD k.toNat 0)]:=by
    rw[<-ew]
    unfold cq
    rw[aah,aae,aac K4]
    rfl
   obtain⟨Xw,tk1⟩:=pq.2.2.2 _ mt
   dsimp only[G_]
   clear G_
   generalize to.getD k.toNat 0=tg at *
   obtain⟨vw,Xx,Xy⟩:=rl.at (d:=pW [(1,tg)]) (i:=p) (by rw[aad,Xv];rfl)
   refine(?_:let G_:Prop:=_;G_)
   intro G_
   obtain⟨wv,us,rfl,C7,ru⟩:=aO.mp Xy
   obtain⟨t0,Jo,Gk⟩:=dc (i:=0) ru rfl
   obtain⟨t,l,rfl,ht,hl⟩:=cC.mp rv
   dsimp only[G_]
   simp_all only[AJ,s2 _ _ G1,show fH xb (p:Int)=some (.ref t) from bL ev]
   refine⟨who,to,rv.mono s2,ts,s2 _ _ hm,pq.2.1,pq.2.2.1,by rw[Xu];exact pq.2.2.2,bt,λw H4 s4 MN best=>?_⟩
   have lJ:=s2.trans s4
   have MO:fH us 0=some (.ref t0):=bL (j:=0) Jo
   simp only[lJ _ _ hw,show fH xs (p:Int)=some (.ref wv) from bL Xx,lJ _ _ C7,MO,lJ _ _ Gk,L2.start,Pr,tRev,tD1,tDPop1,tSl,tNoPart,tPart,rSlL,tDIn,tDNotIn,gSub,rSetL,tLst,tDNewK,tComp,L2.stC,tFor_eq,iList,iTup,iRng1,iRng2,iZip,iEnum,iDict,iStr,tChain,tSumV,tBM,rJoin,tJoined,jNil,jLit,jInt,jStr,tRaise,tDGet,tDGet2,tDGet1,sDPut,Option.join_some,List.getElem?_nil,tSeq,tRet,tRetN,tIfS,tTest,tB,tOp,tUn,tVar,tC,tCB,tCons,tNil,tCall,tTupS,tAsg,gName,gNil,gCons,tPar,tNext,tDrop,tAnd,tOr,tNot,tAndV,tOrV,tNotV,tIf,rI,rI0,rU,rIxTH,rIxLH,rEqT,rNeT,rInT,rEq,rNe,scal_ss,scal_ii,scal_bb,scal_si,scal_is,CPow,at0,at1,at2,aas,aaK,aap,aa9,Nat.reduceSub,Nat.reduceAdd,aaZ,abq,List.reduceReplicate,aa4,List.nil_append,abk,abl,abf,abc,abd,abm,exists_eq_left',exists_eq_left,V.ref.injEq,V.int.injEq,V.bl.injEq,V.str.injEq,V.ty.injEq,HO.tup.injEq,HO.lst.injEq,List.cons.injEq,and_true,true_and,and_assoc,exists_and_left,decide_eq_true_eq,Bool.not_eq_true',decide_eq_false_iff_not,ite_true,ite_false,if_true,if_false,Int.reduceToNat,eq_self_iff_true]
   have UI:to.getD w 0=to[w]:=by rw[aae,aac MN];rfl
   obtain⟨g0,g1⟩:=pq.2.2.2 _ (aan MN)
   have Ga:fH (to.map V.int) (w:Int)=some (.int to[w]):=ni (f:=V.int) (aac MN)
   have Gh:fH (ts.map V.int) to[w]=some (.int (ts.getD (to[w]).toNat 0)):=dN g0 (by omega)
   have Xz:fH (ts.map V.int) tg=some (.int (ts.getD tg.toNat 0)):=dN Xw (by omega)
   refine⟨_,lJ _ _ G1,_,bL ev,t,rfl,_,lJ _ _ ht,_,at2,l,rfl,_,lJ _ _ hl,_,Ga,_,_,rfl,lJ _ _ hm,_,Gh,_,lJ _ _ hm,_,Xz,rfl,?_⟩
   have C1:=s4 _ _ IP
   by_cases ce:ts.getD (to[w]).toNat 0=ts.getD tg.toNat 0
   ·rw[if_neg (by rw[ce];simp)]
    refine⟨lJ,bs,ys,C1,ry.mono (bF s4),⟨λx hx=>⟨abo _ (W.mem x hx).1,(W.mem x hx).2⟩,λp' jc nb MP Jp=>?_,List.Sublist.trans W.sub (List.sublist_append_left _ _)⟩,_,rfl⟩
    rcases List.mem_append.mp jc with jc | jc
    ·exact W.cB p' jc nb MP Jp
    ·rw[List.mem_singleton.mp jc,aah,eb] at Jp
     cases Jp
     rw[List.mem_singleton.mp jc,et,<-ce,<-UI]
     exact best
   ·rw[if_pos (λz=>ce (by injection z))]
    refine⟨.inl ⟨rfl,_,aZ.of C1⟩,by decide,λt5 H5 s5 n5 h5=>?_⟩
    simp only[cG,L2.start,Pr,tRev,tD1,tDPop1,tSl,tNoPart,tPart,rSlL,tDIn,tDNotIn,gSub,rSetL,tLst,tDNewK,tComp,L2.stC,tFor_eq,iList,iTup,iRng1,iRng2,iZip,iEnum,iDict,iStr,tChain,tSumV,tBM,rJoin,tJoined,jNil,jLit,jInt,jStr,tRaise,tDGet,tDGet2,tDGet1,sDPut,Option.join_some,List.getElem?_nil,tSeq,tRet,tRetN,tIfS,tTest,tB,tOp,tUn,tVar,tC,tCB,tCons,tNil,tCall,tTupS,tAsg,gName,gNil,gCons,tPar,tNext,tDrop,tAnd,tOr,tNot,tAndV,tOrV,tNotV,tIf,rI,rI0,rU,rIxTH,rIxLH,rEqT,rNeT,rInT,rEq,rNe,scal_ss,scal_ii,scal_bb,scal_si,scal_is,CPow,at0,at1,at2,aas,aaK,aap,aa9,Nat.reduceSub,Nat.reduceAdd,aaZ,abq,List.reduceReplicate,aa4,List.nil_append,abk,abl,abf,abc,abd,abm,exists_eq_left',exists_eq_left,V.ref.injEq,V.int.injEq,V.bl.injEq,V.str.injEq,V.ty.injEq,HO.tup.injEq,HO.lst.injEq,List.cons.injEq,and_true,true_and,and_assoc,exists_and_left,decide_eq_true_eq,Bool.not_eq_true',decide_eq_false_iff_not,ite_true,ite_false,if_true,if_false,Int.reduceToNat,eq_self_iff_true]
    have XA:t5≠fo:=λz=>by rw[z,C1] at n5;cases n5
    refine⟨_,s5 _ _ C1,by omega,aX (lJ.trans s5) nf,bs++ [((p:Int),(w:Int))],_,ar,?_,⟨λx hx=>?_,λp' jc nb MP Jp=>?_,?_⟩,_,rfl⟩
    ·rw[aau]
     exact jt (ry.mono (bF (s4.trans s5))) (bV.mpr ⟨t5,rfl,by rw[bz XA];exact h5⟩)
    ·rcases List.mem_append.mp hx with hx | hx
     ·exact⟨abo _ (W.mem x hx).1,(W.mem x hx).2⟩
     ·rw[List.mem_singleton.mp hx]
      refine⟨aaH _ (List.mem_singleton.mpr rfl),to,by rw[aah];exact eb,by show(0:Int)<=(w:Int);omega,by show(w:Int)<_;omega,by show AH who to ts (w:Int).toNat;rw[aah];exact best,?_⟩
      show ts.getD (to.getD (w:Int).toNat 0).toNat 0≠ts.getD (yn b ks (p:Int)).toNat 0
      rw[aah,et,UI]
      exact ce
    ·rw[aau,List.mem_append] at nb
     rcases List.mem_append.mp jc with jc | jc
     ·exact W.cB p' jc (λz=>nb (.inl z)) MP Jp
     ·exact absurd (.inr (by rw[List.mem_singleton.mp jc];exact List.mem_singleton.mpr rfl)) nb
    ·rw[aau]
     exact W.sub.append (List.Sublist.refl _)
  ·intro σ H2 bK
   refine(?_:let G_:Prop:=_;G_)
   intro G_
   obtain⟨s2,bs,ys,z5,z6,z7,IP,ry,W,rfl⟩:=bK
   dsimp only[G_]
   rw[aab,List.take_length] at W
   simp_all only[]
   exact kk fo bs _ s2 nf (aO.mpr ⟨fo,ys,rfl,IP,ry.mono bO⟩) W
theorem kL:aN ["board","part","who"] ["board","part","who"] (ae (top 42)):=⟨rfl,rfl,rfl,by decide +kernel,rfl,by decide +kernel,by decide +kernel⟩
theorem Jq (T:Txt K mg aA tc):bX P w K mg base (bQ P w) 1 "picks_of" ["board","part","who"] xc:=by
 refine T.u9.eD (λ_ _ _ _ _ _=>qR λ_ _ _=>rfl) λf fd F=>F.eL kL (λvs H Q E h=>?_) (λcK A outer s H vs Q E hr h=>?_)
 ·obtain⟨_,_,_,_,_,rfl,_⟩:=h;rfl
 ·refine(?_:let G_:Prop:=_;G_)
  intro G_
  obtain⟨bl,pt,who,b,ps,rfl,rb,Bj,fc,l16,kk⟩:=h
  dsimp only[G_]
  clear G_
  have nd:=kL.nd
  refine⟨_,(ax (aT (bT rfl (N:=["board","part","who"]) (so:=ae (top 42)) (N':=["place","board","who"]) (k:=1) (fr:=[0,2]) rfl rfl ⟨rfl,by decide +kernel,by decide +kernel,by decide +kernel,rfl,by decide +kernel,by decide +kernel⟩ (bj (K:=K) (pv 1)) (λ_ _ _ _ _=>(aE (i:=0) (show(["place","board","who"]:List Str).Nodup by decide +kernel) rfl (Or.inl rfl))) (λ_ _ _ _ _=>(lY (PW.pt (pw_and (aQ cV (aI aK (aI aL (pv 1) (pv 0) (λ_ _=>rfl)) ao (λ_ _=>rfl)) cJ (aV _)) (pw_and1 (aQ cV (aI aK (aI aL (pv 1) (pv 0) (λ_ _=>rfl)) ao (λ_ _=>rfl)) (pv 2) (aV _)))))))
   (λ_ _ _ _ _=>(pv 0))))),?_⟩
  have sl:=sizeLine_eq
  refine(?_:let G_:Prop:=_;G_)
  intro G_
  obtain⟨_,xb,e,G1,G3⟩:=aO.mp rb
  dsimp only[G_]
  clear G_
  cases e
  simp_all only[]
  refine⟨⟨_,aZ.of Bj⟩,?_⟩
  have S':Src (vN K pt) (az H) ps.length (λi x H H3=>H3=H/\(ps.map V.int)[i]?=some x):=by
   have:=src_list (K:=K) (a:=pt) (xs:=ps.map V.int) (Ok:=az H) (λH2 s2=>aZ.of (s2 _ _ Bj))
   rwa [aab] at this
  refine dF ps (λx=>if (match b[x.toNat]? with | some q=>KJ q who | none=>false)=true then some x else none) S' (λ_ _ _ _ h=>h.1) (by omega) ?_ ?_
  ·rintro i x v0 ex ⟨_,ey⟩ Y N y1 n1
   rw[aad,ex] at ey
   cases ey
   have ip:=fc x (aaf ex)
   obtain⟨p,rfl⟩:=aav ip.1
   have hp:p<b.length:=by have:=ip.2;omega
   have eb:b[p]?=some b[p]:=aac hp
   refine(?_:let G_:Prop:=_;G_)
   intro G_
   obtain⟨v,ev,rv⟩:=ft G3 eb
   dsimp only[G_]
   clear G_
   have MQ:fH xb (p:Int)=some v:=bL ev
   rw[aah,eb] at y1 n1
   generalize b[p]=q at *
   cases q with
   | fin g=>
    refine(?_:let G_:Prop:=_;G_)
    intro G_
    obtain⟨t,r,rfl,ht,_⟩:=cM.mp rv
    dsimp only[G_]
    simp_all only[G1,MQ,ht]
    rw[if_neg (by decide +kernel),if_neg (by decide)]
    exact n1 rfl
   | cL g ws=>
    refine(?_:let G_:Prop:=_;G_)
    intro G_
    obtain⟨t,r,l',zs,rfl,ht,_⟩:=cm.mp rv
    dsimp only[G_]
    simp_all only[G1,MQ,ht]
    rw[if_neg (by decide +kernel),if_neg (by decide)]
    exact n1 rfl
   | bJ w' to=>
    refine(?_:let G_:Prop:=_;G_)
    intro G_
    obtain⟨t,l',rfl,ht,oH⟩:=cC.mp rv
    dsimp only[G_]
    simp_all only[G1,MQ,ht]
    have ei:KJ (.bJ w' to) who=decide (w'=who):=rfl
    exact gI (λc=>y1 _ (if_pos (by dsimp only;rw[ei];exact decide_eq_true c))) (λc=>n1 (if_neg (by dsimp only;rw[ei,decide_eq_false c];decide)))
  ·intro D n1 n2
   refine kk D _ (au n2) n2 ?_
   rw[ar]
   rw[dG]
   rfl
theorem ue {H:Hp} {d:Dat} {v:V}:∀{ds:List Dat} {xs:List V} {i:Nat},aY H ds xs->Rep H d v->aY H (ds.set i d) (xs.set i v)
 | [],xs,i,r,_=>by
  have:xs=[]:=r
  subst this
  exact r
 | e::ds,xs,i,r,h=>by
  obtain⟨w,ws,rfl,r1,r2⟩:=r
  cases i with
  | zero=>exact⟨_,_,rfl,h,r2⟩
  | succ i=>exact⟨_,_,rfl,r1,ue r2 h⟩
theorem Dc {c:TT} {tb:TS} {D:Ends} {σ:L2.St} {H:Hp} (Pv:Nat->L2.St->Hp->Prop) {m:Nat} (h0:Pv m σ H)
  (hs:∀m σ H,Pv m σ H->∃b:Bool,(∀Q:Bool->Hp->Prop,Q b H->c σ H Q)/\if b=true then tb {D with nx:=λσ' H'=>∃m',m'<m/\Pv m' σ' H',ct:=λσ' H'=>∃m',m'<m/\Pv m' σ' H',bk:=D.nx} σ H else D.nx σ H):qh c tb D σ H:=by
 refine⟨Pv,⟨m,h0⟩,?_⟩
 intro m σ H p
 obtain⟨b,k,q⟩:=hs m σ H p
 refine k _ ?_
 cases b with
 | true=>exact⟨_,λσ' H' h=>h,q⟩
 | false=>exact q
theorem Dd {b:List Pl} {ks:List (Option Int)} {p:Nat} {q:Pl} {k:Option Int} (e:b[p]?=some q) (lk:ks.length=b.length):cA b (ks.set p k)=(cA b ks).set p (uo q k):=by
 have hp:=(List.getElem?_eq_some_iff.mp e).1
 apply aaS
 intro i
 unfold cA
 by_cases c:p=i
 ·subst c
  rw[abt,e,aa3 (by omega),aa3 (by rw[abn];omega)]
 ·rw[abt,aaP c,aaP c,abt]
theorem uf {H:Hp} {p:Addr} {o:HO}:cE (upd H p o) p=cE H p:=by
 funext a
 unfold cE
 by_cases h:a=p
 ·rw[if_pos h,if_pos h]
 ·rw[if_neg h,if_neg h,aG h]
theorem d5:aN ["book","gains","part","board","ways","first","second","told","better","place","way"] ["book","gains","part","board","ways"] (ae (top 43)):=⟨rfl,rfl,rfl,by decide +kernel,rfl,by decide +kernel,by decide +kernel⟩
theorem Jr (T:Txt K mg aA tc):bX P w K mg base (bQ P w) 5 "with_best_worths" ["book","gains","part","board","ways"] (DV aA):=by
 have oC:bX P w K mg base (bQ P w) 1 "picks_of" ["board","part","who"] xc:=Jq T
 have oY:bX P w K mg base (bQ P w) 4 "with_worths" ["book","gains","part","ways"] (DT aA):=Jk T
 have iC:bX P w K mg base (bQ P w) 2 "better_ways" ["board","places","ways","tops"] AK:=Jn T
 have dY:bX P w K mg base (bQ P w) 1 "weighted_ways" ["place","way"] tT:=AX T
 refine T.iT.eD (λ_ _ _ _ _ _=>Mp λ_ _ _ _ _=>rfl) λf fd F=>F.eL d5 (λvs H Q E h=>?_) (λcK A outer s H vs Q E hr h=>?_)
 ·obtain⟨_,_,_,_,_,_,_,_,_,_,_,_,rfl,_⟩:=h;rfl
 ·refine(?_:let G_:Prop:=_;G_)
  intro G_
  obtain⟨bk,gn,pt,bl,wl,S,b,rk,ks,ps,M,xs,rfl,hb,hg,Bj,rb,B,hw,rl,K0,Gg,p0,Jl,fc,Z,M0,dv,zr,kk⟩:=h
  dsimp only[G_]
  clear G_
  have nd:=d5.nd
  refine⟨_,(ag (aF (i:=5) nd rfl (Or.inl rfl) (aH oC (hr.mono (by decide)) rfl aB.pass (aa (pv 3) (aa (pv 2) (aa ao af (se rfl)) (se rfl)) (se rfl)) (he:=se rfl) (hpl:=na rfl)))
  (ag (aF (i:=6) nd rfl (Or.inl rfl) (aH oC (hr.mono (by decide)) rfl aB.pass (aa (pv 3) (aa (pv 2) (aa ao af (se rfl)) (se rfl)) (se rfl)) (he:=se rfl) (hpl:=na rfl)))
  (ax (gF PassesOwn.never (yF vL) (ag (aF (i:=7) nd rfl (Or.inl rfl) (aH oY (hr.mono (by decide)) rfl aB.pass (aa (pv 0) (aa (pv 1) (aa (pv 2) (aa (pv 4) af (se rfl)) (se rfl)) (se rfl)) (se rfl)) (he:=se rfl) (hpl:=na rfl)))
  (ag (aF (i:=8) nd rfl (Or.inl rfl) (aH iC (hr.mono (by decide)) rfl aB.pass (aa (pv 3) (aa (pv 6) (aa (pv 4) (aa (dU (pv 7) rfl) af (se rfl)) (se rfl)) (se rfl)) (se rfl)) (he:=se rfl) (hpl:=na rfl)))
  (ag (bW (aQ cV (ba bD (by rfl) T.z_len aaA (aa (pv 8) af (se rfl)) (he:=se rfl) (hpl:=na rfl)) ao (aV _)) (ax (aF (i:=8) nd rfl (Or.inl rfl) (aH iC (hr.mono (by decide)) rfl aB.pass (aa (pv 3) (aa (pv 5) (aa (pv 4) (aa (dU (pv 7) rfl) af (se rfl)) (se rfl)) (se rfl)) (se rfl)) (he:=se rfl) (hpl:=na rfl))))
   bC)
  (ag (bW (aQ cV (ba bD (by rfl) T.z_len aaA (aa (pv 8) af (se rfl)) (he:=se rfl) (hpl:=na rfl)) ao (aV _)) (ax (aT (pv 7)))
   bC)
  (ax (cz PassesOwn.never rfl (bj (K:=K) (pv 8)) (b9 (K:=K) (n:=2) rfl (aS (aE (i:=9) nd rfl (Or.inl rfl)) (aS (aE (i:=10) nd rfl (Or.inl rfl)) b8))) (ax (eB (aH dY (hr.mono (by decide)) rfl aB.pass (aa (aI aL (pv 3) (pv 9) (λ_ _=>rfl)) (aa (pv 10) af (se rfl)) (se rfl)) (he:=se rfl) (hpl:=na rfl)) (fM (pv 4) (pv 9) set_list))))))))))))),?_⟩
  refine(?_:let cu:TS:=_;let cv:TS:=_;let cw:TS:=_;tSeq cu (tSeq cv cw) _ _ _)
  intro cu cv cw
  have sl:=sizeLine_eq
  have XB:=B.len
  refine(?_:let G_:Prop:=_;G_)
  intro G_
  obtain⟨g0,g1,g2⟩:=B.bot
  dsimp only[G_]
  clear G_
  have MR:(gT b).length=b.length:=by unfold gT;rw[aab,aab]
  have MS:∀{ks:List (Option Int)},dX b ks->(cA b ks).length=b.length:=λ{ks} h=>by unfold cA;rw[abn,h.len];omega
  have s0:az (cE H wl) H:=bO
  have UJ:=rb.mono s0
  have XC:∀{ks:List (Option Int)},dX b ks->∀ws∈cA b ks,Dg.wK b.length ws:=λ{ks} h ws IX=>by
   refine(?_:let G_:Prop:=_;G_)
   intro G_
   obtain⟨j,hj,rfl⟩:=aa2 IX
   dsimp only[G_]
   have Iw:j<b.length:=by rw[MS h] at hj;exact hj
   have:=(B.wk h (p:=(j:Int)) ⟨by omega,by omega⟩).1
   unfold cq at this
   rw[aah,aae,aac hj] at this
   exact this
  change tSeq _ _ _ _ _
  refine aR (λσ' H1=>∃l1,az H H1/\H l1=none/\H1 l1=some (.lst ((gA b 1 ps).map V.int))/\σ'=[some (.ref bk),some (.ref gn),some (.ref pt),some (.ref bl),some (.ref wl),some (.ref l1),none,none,none,none,none]) ?_ (λN hN=>?_)
  case refine_2=>
   simp_all only[xc]
   exact⟨b,UJ,ps,s0 _ _ Bj,fc,Jl,λl1 H1 s1 n1 h1=>hN _ _ ⟨l1,s1,n1,h1,rfl⟩⟩
  intro _ H1 bK
  refine(?_:let G_:Prop:=_;G_)
  intro G_
  obtain⟨l1,s1,n1,h1,rfl⟩:=bK
  dsimp only[G_]
  clear G_
  change tSeq _ _ _ _ _
  refine aR (λσ' H2=>∃l2,az H1 H2/\H1 l2=none/\H2 l2=some (.lst ((gA b 2 ps).map V.int))/\σ'=[some (.ref bk),some (.ref gn),some (.ref pt),some (.ref bl),some (.ref wl),some (.ref l1),some (.ref l2),none,none,none,none]) ?_ (λN hN=>?_)
  case refine_2=>
   simp_all only[xc]
   exact⟨b,UJ.mono s1,ps,s1 _ _ (s0 _ _ Bj),fc,Jl,λl2 H2 s2 n2 h2=>hN _ _ ⟨l2,s2,n2,h2,rfl⟩⟩
  intro _ H2 bK
  refine(?_:let G_:Prop:=_;G_)
  intro G_
  obtain⟨l2,s2,n2,h2,rfl⟩:=bK
  dsimp only[G_]
  clear G_
  have Jh:=s1.trans s2
  have w1:l1≠wl:=λz=>by rw[z,hw] at n1;cases n1
  have w2:l2≠wl:=λz=>by rw[z,s1 _ _ hw] at n2;cases n2
  have Js:az (cE H wl) (cE H2 wl):=bF Jh
  simp_all only[]
  refine Dc (λmm σ HX=>∃(dt:List (Option Int)) (iy:List V) (dH:List (List (Option Int))) (fl:Option (Int->Rat)) (z7 z8 z9 uc:Option V),mm+dH.length=(yl b).length/\tV b ps (λp=>((gT b).getD p.toNat 0:Rat) / (gB b:Rat)) (Dg.val S) dt dH fl/\az (cE H wl) (cE HX wl)/\cE HX wl l1=some (.lst ((gA b 1 ps).map V.int))/\cE HX wl l2=some (.lst ((gA b 2 ps).map V.int))/\HX wl=some (.lst iy)/\aY (cE HX wl) ((cA b dt).map pW) iy/\σ=[some (.ref bk),some (.ref gn),some (.ref pt),some (.ref bl),some (.ref wl),some (.ref l1),some (.ref l2),z7,z8,z9,uc]) (m:=(yl b).length) ⟨ks,xs,[],none,_,_,_,_,rfl,tV.start K0,Js,by rw[bz w1];exact s2 _ _ h1,by rw[bz w2];exact h2,Jh _ _ hw,rl.mono Js,rfl⟩ ?_
  intro mm σ HX II
  refine(?_:let G_:Prop:=_;G_)
  intro G_
  obtain⟨dt,iy,dH,fl,z7,z8,z9,uc,em,hi,sX,D6,BR,Gm,Jt,rfl⟩:=II
  dsimp only[G_]
  clear G_
  refine⟨true,λQQ XD=>by simp_all only[];exact XD,?_⟩
  rw[if_pos rfl]
  have sh:az (cE HX wl) HX:=bO
  have K':=hi.ok
  have XF:=Jt.length
  rw[aab,MS K'.pk] at XF
  have XG:=B.pos
  have MT:∀y∈iy,∃a us,y=V.ref a/\cE HX wl a=some (.lst us):=λy hy=>by
   obtain⟨j,ej⟩:=aaw hy
   refine(?_:let G_:Prop:=_;G_)
   intro G_
   obtain⟨d,ed,rr⟩:=Jt.get ej
   rw[aad] at ed
   obtain⟨ws,_,rfl⟩:=Option.map_eq_some_iff.mp ed
   obtain⟨a,us,e,h,_⟩:=aO.mp rr
   dsimp only[G_]
   exact⟨a,us,e,h⟩
  change tSeq _ _ _ _ _
  refine aR (λσ' H3=>∃x T,az HX H3/\mB aA (cE H3 wl) x T/\Dg.CP ps (cq (cA b dt)) (gT b) (gB b) S T/\Dg.Sz b.length (M+92*ps.length) T/\σ'=[some (.ref bk),some (.ref gn),some (.ref pt),some (.ref bl),some (.ref wl),some (.ref l1),some (.ref l2),some (.ref x),z8,z9,uc]) ?_ (λN hN=>?_)
  case refine_2=>
   simp_all only[]
   refine⟨bk,gn,pt,wl,S,gT b,gB b,ps,b.length,M,iy,cA b dt,rk,rfl,(hb.mono sX).mono sh,(hg.mono sX).mono sh,sh _ _ (sX _ _ Bj),Gm,Jt.mono sh,MS K'.pk,XB,Gg,p0,Jl,fc,XC K'.pk,λp hp=>B.dn K'.pk (fc p hp),Z,M0,MR,g0,g1.mono (by decide),dv,B.top,zr,λx T2 H3 s3 h3 st sz=>hN _ _ ⟨x,T2,s3,?_,st,sz,rfl⟩⟩
   refine(?_:let G_:Prop:=_;G_)
   intro G_
   obtain⟨dx,XH,G4,Ju⟩:=h3
   dsimp only[G_]
   refine⟨dx,XH,by rw[bz (λz=>by rw[z,s3 _ _ Gm] at G4;cases G4)];exact G4,?_⟩
   rw[bz]
   ·exact Ju
   ·intro z
    rw[z,s3 _ _ Gm] at Ju
    have e:iy=T2.1.map V.int:=by injection Ju with h;injection h
    have fQ:0<iy.length:=by omega
    refine(?_:let G_:Prop:=_;G_)
    intro G_
    obtain⟨a,_,ea,_⟩:=MT iy[0] (aan fQ)
    have:iy[0]?=some iy[0]:=aac fQ
    rw[ea,e,aad] at this
    obtain⟨_,_,e2⟩:=Option.map_eq_some_iff.mp this
    dsimp only[G_]
    cases e2
  intro _ H3 bK
  refine(?_:let G_:Prop:=_;G_)
  intro G_
  obtain⟨x,T2,s3,G4,st,sz,rfl⟩:=bK
  obtain⟨dx,mt,UK,XI⟩:=id G4
  dsimp only[G_]
  clear G_
  have K6:az (cE H3 wl) H3:=bO
  have Jv:=bF (p:=wl) s3
  have ML:∀t∈T2.1,Bt 4000 t:=λt ht=>by
   refine(?_:let G_:Prop:=_;G_)
   intro G_
   obtain⟨j,hj,rfl⟩:=aa2 ht
   dsimp only[G_]
   have:=sz.bt j
   rw[aae,aac hj] at this
   exact Bt.mono this (by omega)
  have hv:=FQ B K'.pk fc Z.pos dv st
  have pin:∀who,∀p∈gA b who ps,0<=p/\∃to,b[p.toNat]?=some (.bJ who to):=λwho p hp=>⟨(fc p (dP.mp hp).1).1,(dP.mp hp).2⟩
  have MU:∀who,(gA b who ps).length<=16:=λwho=>aao (List.length_filter_le _ _) Jl
  have D7:∀(lp:Addr) (who:Int) (HH:Hp),az H3 HH->cE HX wl lp=some (.lst ((gA b who ps).map V.int))->∀QQ:VK,(∀l bs H',az HH H'->Rep (cE H' wl) (.lst (bs.map bB)) (.ref l)->ir b dt who T2.1 (gA b who ps) bs->QQ (.ref l) H')->AK [.ref bl,.ref lp,.ref wl,.ref mt] HH QQ E0:=λlp who HH Jw XJ QQ kq=>by
   have MV:=Jv.trans (K6.trans Jw)
   refine⟨bl,lp,wl,mt,b,dt,who,T2.1,gA b who ps,iy,rfl,(rb.mono sX).mono MV,MV _ _ XJ,Jw _ _ (s3 _ _ Gm),Jt.mono MV,(K6.trans Jw) _ _ XI,sz.len,ML,K'.pk,B.ok,pin who,MU who,λl bs H' s' nl r' W=>kq l bs H' s' ?_ W⟩
   have XM:l≠wl:=λz=>by rw[z,Jw _ _ (s3 _ _ Gm)] at nl;cases nl
   have MW:=s' _ _ (Jw _ _ (s3 _ _ Gm))
   exact pZ r' (λxs hx=>by rw[bz XM];exact hx) (λy vs hy=>by rw[bz (λz=>by rw[z,MW] at hy;cases hy)];exact hy)
  change tSeq _ _ _ _ _
  refine aR (λσ' H4=>∃lb bs,az H3 H4/\Rep (cE H4 wl) (.lst (bs.map bB)) (.ref lb)/\ir b dt 2 T2.1 (gA b 2 ps) bs/\σ'=[some (.ref bk),some (.ref gn),some (.ref pt),some (.ref bl),some (.ref wl),some (.ref l1),some (.ref l2),some (.ref x),some (.ref lb),z9,uc]) ?_ (λN hN=>?_)
  case refine_2=>
   simp_all only[kR]
   exact⟨_,_,_,K6 _ _ UK,T.cD,T.na_Book_tops,_,kJ,D7 l2 2 H3 (az.refl _) BR _ λl bs H' s' r' W=>hN _ _ ⟨l,bs,s',r',W,rfl⟩⟩
  intro _ H4 bK
  refine(?_:let G_:Prop:=_;G_)
  intro G_
  obtain⟨lb,bs,s4,UL,W2,rfl⟩:=bK
  dsimp only[G_]
  clear G_
  change tSeq _ _ _ _ _
  refine aR (λσ' H5=>∃(lb:Addr) (bs:List (Int×Int)) (who:Int),az H3 H5/\Rep (cE H5 wl) (.lst (bs.map bB)) (.ref lb)/\((who=2/\bs≠[]/\ir b dt 2 T2.1 (gA b 2 ps) bs)\/(who=1/\ir b dt 2 T2.1 (gA b 2 ps) []/\ir b dt 1 T2.1 (gA b 1 ps) bs))/\σ'=[some (.ref bk),some (.ref gn),some (.ref pt),some (.ref bl),some (.ref wl),some (.ref l1),some (.ref l2),some (.ref x),some (.ref lb),z9,uc]) ?_ (λN hN=>?_)
  case refine_2=>
   simp_all only[kR]
   refine(?_:let G_:Prop:=_;G_)
   intro G_
   obtain⟨_,ys,ey,Jx,K8⟩:=aO.mp UL
   dsimp only[G_]
   cases ey
   have ly:=K8.length
   rw[aab] at ly
   refine⟨ys,bO _ _ Jx,?_⟩
   by_cases c:bs=[]
   ·subst c
    rw[if_pos (by rw[<-ly];rfl)]
    exact⟨_,_,_,s4 _ _ (K6 _ _ UK),T.cD,T.na_Book_tops,_,kJ,D7 l1 1 H4 s4 D6 _ λl XN H' s' r' W1=>hN _ _ ⟨l,XN,1,s4.trans s',r',.inr ⟨rfl,W2,W1⟩,rfl⟩⟩
   ·rw[if_neg (by have:=List.length_pos_iff.mpr c;omega)]
    exact hN _ _ ⟨lb,bs,2,s4,UL,.inl ⟨rfl,c,W2⟩,rfl⟩
  intro _ H5 bK
  refine(?_:let G_:Prop:=_;G_)
  intro G_
  obtain⟨lb,bs,who,s5,MX,cs,rfl⟩:=bK
  obtain⟨_,ys,ey,Jx,K8⟩:=aO.mp MX
  dsimp only[G_]
  clear G_
  cases ey
  have ly:=K8.length
  rw[aab] at ly
  have MY:az (cE H wl) (cE H5 wl):=sX.trans (Jv.trans (bF s5))
  have UM:=s5 _ _ (s3 _ _ Gm)
  have Jy:=Jt.mono (Jv.trans (bF (p:=wl) s5))
  change tSeq _ _ _ _ _
  refine aR (λσ' H6=>H5=H6/\bs≠[]/\σ'=[some (.ref bk),some (.ref gn),some (.ref pt),some (.ref bl),some (.ref wl),some (.ref l1),some (.ref l2),some (.ref x),some (.ref lb),z9,uc]) ?_ (λN hN=>?_)
  case refine_2=>
   simp_all only[]
   refine⟨ys,bO _ _ Jx,?_⟩
   by_cases c:bs=[]
   ·subst c
    rw[if_pos (by rw[<-ly];rfl)]
    rcases cs with ⟨_,ne,_⟩ | ⟨_,V2,V1⟩
    ·exact absurd rfl ne
    refine kk x T2 dt iy H5 MY UM Jy K' st sz (G4.mono (bF s5)) λp hp CV to eb t ht=>?_
    rcases(B.ok _ (aaf eb)).1 with e1 | e1
    ·subst e1
     exact V1.cB _ (dP.mpr ⟨hp,to,by rw[aah];exact eb⟩) (by simp) to (by rw[aah];exact eb) t ht
    ·subst e1
     exact V2.cB _ (dP.mpr ⟨hp,to,by rw[aah];exact eb⟩) (by simp) to (by rw[aah];exact eb) t ht
   ·rw[if_neg (by have:=List.length_pos_iff.mpr c;omega)]
    exact hN _ _ ⟨rfl,c,rfl⟩
  intro _ _ bK
  refine(?_:let G_:Prop:=_;G_)
  intro G_
  obtain⟨rfl,UN,rfl⟩:=bK
  have GX:∀who,(gA b who ps).Nodup:=λwho=>Gg.filter _
  have Wa:ir b dt who T2.1 (gA b who ps) bs:=by
   rcases cs with ⟨rfl,_,V⟩ | ⟨rfl,_,V⟩
   ·exact V
   ·exact V
  have CS:∃GW,tV b ps (λp=>((gT b).getD p.toNat 0:Rat) / (gB b:Rat)) (Dg.val S) (d9 bs dt bs.length) (dt::dH) GW:=by
   rcases cs with ⟨_,_,V⟩ | ⟨_,V2,V1⟩
   ·exact⟨_,tW B fc sz.pos hi hv (λp hp=>(dP.mp hp).1) (GX 2) V UN⟩
   ·exact⟨_,vA B fc sz.pos hi hv (λp hp=>(dP.mp hp).1) (GX 1) V1 UN V2 λp hp to eb=>dP.mpr ⟨hp,to,by rw[aah];exact eb⟩⟩
  obtain⟨GW,CS⟩:=CS
  have left:=hi.left
  have XO:=rb.mono MY
  obtain⟨_,xb,XQ,MZ,M3⟩:=aO.mp XO
  dsimp only[G_]
  clear G_
  cases XQ
  simp_all only[]
  refine⟨⟨_,aZ.of (bO _ _ Jx)⟩,bN (src_list (K:=K) (a:=lb) (xs:=ys) (Ok:=λH'=>az (cE H5 wl) (cE H' wl)) (λH' s=>aZ.of (bO _ _ (s _ _ Jx)))) (λj σ H6=>az (cE H5 wl) (cE H6 wl)/\∃(De:List V) (z9 uc:Option V),H6 wl=some (.lst De)/\aY (cE H6 wl) ((cA b (d9 bs dt j)).map pW) De/\σ=[some (.ref bk),some (.ref gn),some (.ref pt),some (.ref bl),some (.ref wl),some (.ref l1),some (.ref l2),some (.ref x),some (.ref lb),z9,uc]) ⟨az.refl _,iy,_,_,UM,Jy,rfl⟩ (λ_ _ _ _ h=>h.1) ?_ ?_⟩
  ·intro j y σ H6 H7 hj dI dR
   refine(?_:let G_:Prop:=_;G_)
   intro G_
   obtain⟨s6,De,z9,uc,M4,G5,rfl⟩:=dI
   obtain⟨rfl,ey⟩:=dR
   have Iw:j<bs.length:=by omega
   have ej:bs[j]?=some bs[j]:=aac Iw
   obtain⟨t,et,ht⟩:=dc K8 ej
   dsimp only[G_]
   clear G_
   rw[ey] at et
   cases et
   have gj:bs.getD j (0,0)=bs[j]:=by rw[aae,ej];rfl
   have pj:d9 bs dt (j+1)=(d9 bs dt j).set (bs[j]).1.toNat (some (bs[j]).2):=by rw[<-gj];rfl
   refine(?_:let G_:Prop:=_;G_)
   intro G_
   obtain⟨mq,to,eb,w0,w1,_,_⟩:=Wa.mem _ (aan Iw)
   dsimp only[G_]
   clear G_
   have XR:=(fc _ (dP.mp mq).1).1
   have UO:(d9 bs dt j).length=b.length:=by rw[jD];exact K'.pk.len
   have XS:=G5.length
   have XT:(cA b (d9 bs dt j)).length=b.length:=by unfold cA;rw[abn,UO];omega
   rw[aab,XT] at XS
   refine⟨t,_,rfl,d6.of (bO _ _ (s6 _ _ ht)),rfl,?_⟩
   generalize bs[j]=bw at *
   obtain⟨p,UP⟩:=aav XR
   rw[UP,aah] at eb pj
   rw[UP] at ht ⊢
   have hp:=(List.getElem?_eq_some_iff.mp eb).1
   refine(?_:let G_:Prop:=_;G_)
   intro G_
   obtain⟨v,ev,rv⟩:=ft M3 eb
   dsimp only[G_]
   have XU:fH xb (p:Int)=some v:=bL ev
   have UQ:az (cE H7 wl) H7:=bO
   simp_all only[UQ _ _ (s6 _ _ MZ),XU]
   refine⟨v,.bJ who to,some bw.2,rfl,(rv.mono s6).mono UQ,⟨w0,w1⟩,λl' H8 s8 r8=>?_⟩
   have M5:=s8 _ _ M4
   have nl:l'≠wl:=λz=>by
    subst z
    refine(?_:let G_:Prop:=_;G_)
    intro G_
    obtain⟨_,us,e,UR,XW⟩:=aO.mp r8
    dsimp only[G_]
    cases e
    rw[M5] at UR
    have XX:De=us:=by injection UR with h;injection h
    refine(?_:let G_:Prop:=_;G_)
    intro G_
    obtain⟨t1,XY,US⟩:=dc (i:=0) XW rfl
    dsimp only[G_]
    have h0:0<De.length:=by omega
    refine(?_:let G_:Prop:=_;G_)
    intro G_
    obtain⟨d,ed,rr⟩:=G5.get (aac h0)
    rw[aad] at ed
    obtain⟨ws,_,rfl⟩:=Option.map_eq_some_iff.mp ed
    obtain⟨a',us',e',h',_⟩:=aO.mp rr
    dsimp only[G_]
    have:De[0]?=some (V.ref a'):=by rw[aac h0,e']
    rw[XX,XY] at this
    cases this
    rw[s8 _ _ (bO _ _ h')] at US
    cases US
   have XZ:Rep (cE H8 wl) (pW (uo (.bJ who to) (some bw.2))) (.ref l'):=pZ r8 (λxs hx=>by rw[bz nl];exact hx) (λy vs hy=>by rw[bz (λz=>by rw[z,M5] at hy;cases hy)];exact hy)
   refine⟨De,M5,p,hX (by omega),?_,_,ar,?_,_,rfl⟩
   ·rw[uf]
    exact s6.trans (bF s8)
   ·rw[uf,pj,Dd eb UO,List.map_set]
    exact ue (G5.mono (bF s8)) XZ
  ·intro σ H6 bK
   refine(?_:let G_:Prop:=_;G_)
   intro G_
   obtain⟨s6,De,z9,uc,M4,G5,rfl⟩:=bK
   dsimp only[G_]
   rw[<-ly] at G5
   exact⟨mm - 1,by omega,_,De,dt::dH,by rw[aap];omega,GW,CS,MY.trans s6,s6 _ _ (bF s5 _ _ (Jv _ _ D6)),s6 _ _ (bF s5 _ _ (Jv _ _ BR)),M4,G5,_,_,_,_,rfl⟩
theorem Jz {a b:V}:List.lookup (Str.ofString "as_shares") [(("tops":Str),a),(("bottom":Str),b)]=none:=rfl
theorem AZ (x:Int×Int):Ke (bB x):=⟨rfl,by show(toP (bB x)).depth<=8;simp [bB,toP,toPL,PyData.depth,PyData.depthAll]⟩
theorem jH:aN ["place","worth","worths"] ["place","worth","worths"] (ae (top 44)):=⟨rfl,rfl,rfl,by decide +kernel,rfl,by decide +kernel,by decide +kernel⟩
theorem JA (T:Txt K mg aA tc):bX P w K mg base (bQ P w) 1 "best_pick" ["place","worth","worths"] IC:=by
 refine T.tz.eD (λ_ _ _ _ _ _=>qR λ_ _ _=>rfl) λf fd F=>F.eL jH (λvs H Q E h=>?_) (λcK A outer s H vs Q E hr h=>?_)
 ·obtain⟨_,_,_,_,_,_,_,rfl,_⟩:=h;rfl
 ·refine(?_:let G_:Prop:=_;G_)
  intro G_
  obtain⟨v,x,wl,q,n,p,ss,rfl,rv,pq,ls,hp,hx,qg,mem,kk⟩:=h
  dsimp only[G_]
  clear G_
  have nd:=jH.nd
  refine⟨_,(ag (bW (aQ vR (aI aK (pv 0) ao (λ_ _=>rfl)) cJ (aV _)) (ax (aT eV))
   bC)
  (ax (aT (dD aaE PySem.F.slot_list_index PySem.F.type_list_index (yb hr.units) (bT rfl (N:=["place","worth","worths"]) (so:=ae (top 44)) (N':=["to","worths"]) (k:=1) (fr:=[2]) rfl rfl ⟨rfl,by decide +kernel,by decide +kernel,by decide +kernel,rfl,by decide +kernel,by decide +kernel⟩ (bj (K:=K) (aI aK (pv 0) ao (λ_ _=>rfl))) (λ_ _ _ _ _=>(aE (i:=0) (show(["to","worths"]:List Str).Nodup by decide +kernel) rfl (Or.inl rfl))) (λ_ _ _ _ _=>bI)
   (λ_ _ _ _ _=>(aI aL (pv 1) (pv 0) (λ_ _=>rfl)))) (aa (pv 1) af (se rfl)))))),?_⟩
  have sl:=sizeLine_eq
  cases q with
  | fin g=>
   refine(?_:let G_:Prop:=_;G_)
   intro G_
   obtain⟨t,r,rfl,ht,_⟩:=cM.mp rv
   dsimp only[G_]
   simp_all only[ht]
   rw[if_pos (by decide +kernel)]
   exact kk _ (az.refl _)
  | cL g ws=>
   refine(?_:let G_:Prop:=_;G_)
   intro G_
   obtain⟨t,r,l',zs,rfl,ht,_⟩:=cm.mp rv
   dsimp only[G_]
   simp_all only[ht]
   rw[if_pos (by decide +kernel)]
   exact kk _ (az.refl _)
  | bJ who to=>
   refine(?_:let G_:Prop:=_;G_)
   intro G_
   obtain⟨t,l',rfl,ht,oH⟩:=cC.mp rv
   dsimp only[G_]
   clear G_
   simp_all only[ht]
   rw[if_neg (by simp)]
   refine(?_:let G_:Prop:=_;G_)
   intro G_
   obtain⟨_,us,e,B3,ru⟩:=aO.mp qg
   dsimp only[G_]
   clear G_
   cases e
   have lu:=ru.length
   rw[aab] at lu
   have l3:=pq.2.2.1
   refine⟨⟨_,aZ.of oH⟩,?_⟩
   refine comp_map (src_list (K:=K) (a:=l') (xs:=to.map V.int) (Ok:=az H) (λH' s'=>aZ.of (s' _ _ oH))) (λ_ _ _ _ h=>by rw[h.1];exact az.refl _) (by rw[aab];omega) (λi y H4=>∀g,to[i]?=some g->Rep H4 (bB (Wq.fJ ss g)) y) (λi y H4 H5 s5 h g e=>(h g e).mono s5) ?_ ?_
   ·rintro i v0 w0 H4 H5 Q2 hi s4 ⟨rfl,ex⟩ kq
    rw[aad] at ex
    refine(?_:let G_:Prop:=_;G_)
    intro G_
    obtain⟨g,eg,rfl⟩:=Option.map_eq_some_iff.mp ex
    obtain⟨g0,g1⟩:=pq.2.2.2 g (aaf eg)
    have JB:ss[g.toNat]?=some (Wq.fJ ss g):=by
     unfold Wq.fJ
     rw[aae,aac (show g.toNat<ss.length by omega)]
     rfl
    obtain⟨pr,Gn,JC⟩:=dc ru JB
    dsimp only[G_]
    have Gh:fH us g=some (.ref pr):=by have:=bL Gn;rwa [Int.toNat_of_nonneg g0] at this
    simp_all only[s4 _ _ B3,Gh]
    refine kq _ _ (az.refl _) λg' e'=>?_
    rw[eg] at e'
    cases e'
    exact bV.mpr ⟨pr,rfl,s4 _ _ JC⟩
   ·intro ys H5 s5 ly hy D n1 n2
    rw[aab] at ly
    have sD:=au (o:=.lst ys) n2
    have hD:upd H5 D (.lst ys) D=some (.lst ys):=ar
    generalize upd H5 D (.lst ys)=H6 at *
    have rD:aY H6 ((to.map (Wq.fJ ss)).map bB) ys:=cZ (by rw[aab];exact ly) λi y ey x' Bx=>by
     rw[aad] at Bx
     refine(?_:let G_:Prop:=_;G_)
     intro G_
     obtain⟨g,eg,rfl⟩:=Option.map_eq_some_iff.mp Bx
     dsimp only[G_]
     exact(hy i y ey g eg).mono sD
    refine(?_:let G_:Prop:=_;G_)
    intro G_
    obtain⟨tm,mt,et⟩:=mem who to rfl
    dsimp only[G_]
    have mm:Wq.fJ ss (p:Int)∈to.map (Wq.fJ ss):=List.mem_map.mpr ⟨tm,mt,et.symm⟩
    have lt:=aa1 mm
    have eg:=aa5 lt
    have inj:∀u v:Wq.Sh,toP (bB u)=toP (bB v)->u=v:=λu v h=>by
     simp [bB,toP,toPL] at h
     exact Prod.ext h.1 h.2
    refine⟨.inl ⟨rfl,_,aZ.of hD⟩,D,ys,(to.map (Wq.fJ ss)).map bB,.ref x,bB (Wq.fJ ss (p:Int)),(to.map (Wq.fJ ss)).idxOf (Wq.fJ ss (p:Int)),rfl,rfl,hD,rD,λe he=>?_,bV.mpr ⟨x,rfl,(s5.trans sD) _ _ hx⟩,AZ _,?_,λj hj z=>?_,?_,kk _ (s5.trans sD)⟩
    ·refine(?_:let G_:Prop:=_;G_)
     intro G_
     obtain⟨u,_,rfl⟩:=List.mem_map.mp he
     dsimp only[G_]
     exact AZ u
    ·rw[aad,aad,aac lt,eg]
     rfl
    ·have:=List.not_of_lt_findIdx (xs:=to.map (Wq.fJ ss)) (p:=λy=>y==Wq.fJ ss (p:Int)) hj
     rw[aad,aad,aac (Nat.lt_trans hj lt)] at z
     have:=inj _ _ (aax z)
     simp_all
    ·rw[aab] at lt
     omega
theorem A0 {C:Addr} {H:Hp} {x wl:Addr} {S:Dg.Bk} {xs:List V} (h:mB C H x S) (hw:H wl=some (.lst xs)) (xr:∀y∈xs,∃a,y=V.ref a) (l0:0<xs.length):mB C (cE H wl) x S:=by
 obtain⟨dx,m,hx,hm⟩:=h
 refine⟨dx,m,by rw[bz (λz=>by rw[z,hw] at hx;cases hx)];exact hx,?_⟩
 rw[bz]
 ·exact hm
 ·intro z
  rw[z,hw] at hm
  have e:xs=S.1.map V.int:=by injection hm with h;injection h
  obtain⟨a,ea⟩:=xr xs[0] (aan l0)
  have:xs[0]?=some xs[0]:=aac l0
  rw[ea,e,aad] at this
  obtain⟨_,_,e2⟩:=Option.map_eq_some_iff.mp this
  cases e2
theorem xo {H:Hp} {fK:List Dg.Wy} {xs:List V} (r:aY H (fK.map pW) xs):∀y∈xs,∃a,y=V.ref a:=λy hy=>by
 obtain⟨j,ej⟩:=aaw hy
 obtain⟨ws',_,rr⟩:=zQ r ej
 obtain⟨a,_,e,_⟩:=aO.mp rr
 exact⟨a,e⟩
theorem A2 {H:Hp} {b:List Pl} {xs:List V} (r:aY H ((cA b (List.replicate b.length (some (0:Int)))).map pW) xs) (h:0<b.length):0<xs.length:=by
 have:=r.length
 unfold cA at this
 rw[aab,abn,aa8] at this
 omega
theorem xp:aN ["board","found","ways","gains","book","part","worths"] ["board"] (ae (top 45)):=⟨rfl,rfl,rfl,by decide +kernel,rfl,by decide +kernel,by decide +kernel⟩
theorem JD (T:Txt K mg aA tc) (LB:oP base mg tc tp):bX P w K mg base (bQ P w) 7 "best" ["board"] (tX tp):=by
 have lK:bX P w K mg base (bQ P w) 6 "checked_parts" ["board"] (vq tp):=Gd T LB
 have iw:bX P w K mg base (bQ P w) 2 "all_weighted_ways" ["board","picks"] IA:=Ji T
 have vG:bX P w K mg base (bQ P w) 4 "gains_of" ["board"] (AB aA):=Gf T
 have oE:bX P w K mg base (bQ P w) 3 "blank_worths" ["gains"] (FG aA):=Jj T
 have iY:bX P w K mg base (bQ P w) 5 "with_best_worths" ["book","gains","part","board","ways"] (DV aA):=Jr T
 have kf:nH P w K mg base (bQ P w) 3 aA "as_shares" ["self"] (Iv aA):=Jg T
 have ug:bX P w K mg base (bQ P w) 1 "best_pick" ["place","worth","worths"] IC:=JA T
 refine T.Fi.eD (λ_ _ _ _ _ _=>ik λ_=>rfl) λf fd F=>F.eL xp (λvs H Q E h=>?_) (λcK A outer s H vs Q E hr h=>?_)
 ·obtain⟨_,_,_,rfl,_⟩:=h;rfl
 ·refine(?_:let G_:Prop:=_;G_)
  intro G_
  obtain⟨a,b,rk,rfl,rb,B,kX,kk⟩:=h
  dsimp only[G_]
  clear G_
  have nd:=xp.nd
  refine⟨_,(ag (aF (i:=1) nd rfl (Or.inl rfl) (aH lK (hr.mono (by decide)) rfl aB.pass (aa (pv 0) af (se rfl)) (he:=se rfl) (hpl:=na rfl)))
  (ag (aF (i:=2) nd rfl (Or.inl rfl) (aH iw (hr.mono (by decide)) rfl aB.pass (aa (pv 0) (aa (aD uN (cQ (aa ao af (se rfl))) (ba bD (by rfl) T.z_len aaA (aa (pv 0) af (se rfl)) (he:=se rfl) (hpl:=na rfl))) af (se rfl)) (se rfl)) (he:=se rfl) (hpl:=na rfl)))
  (ag (aF (i:=3) nd rfl (Or.inl rfl) (aH vG (hr.mono (by decide)) rfl aB.pass (aa (pv 0) af (se rfl)) (he:=se rfl) (hpl:=na rfl)))
  (ag (aF (i:=4) nd rfl (Or.inl rfl) (aH oE (hr.mono (by decide)) rfl aB.pass (aa (pv 3) af (se rfl)) (he:=se rfl) (hpl:=na rfl)))
  (ag (cz PassesOwn.never rfl (bj (K:=K) (pv 1)) (aE (i:=5) nd rfl (Or.inl rfl)) (ax (aF (i:=4) nd rfl (Or.inl rfl) (aH iY (hr.mono (by decide)) rfl aB.pass (aa (pv 4) (aa (pv 3) (aa (pv 5) (aa (pv 0) (aa (pv 2) af (se rfl)) (se rfl)) (se rfl)) (se rfl)) (se rfl)) (he:=se rfl) (hpl:=na rfl)))))
  (ag (aF (i:=6) nd rfl (Or.inr rfl) (Fd kf T.cD (pv 4) (hr.mono (by decide)) aB.pass))
  (ax (aT (bH (aa (pv 6) (aa (bT rfl (N:=["board","found","ways","gains","book","part","worths"]) (so:=ae (top 45)) (N':=["place","worth","worths"]) (k:=2) (fr:=[6]) rfl rfl ⟨rfl,by decide +kernel,by decide +kernel,by decide +kernel,rfl,by decide +kernel,by decide +kernel⟩ (js (K:=K) rfl T.z_zip (aa (pv 0) (aa (pv 6) af (se rfl)) (se rfl))) (λ_ _ _ _ _=>(b9 (K:=K) (n:=2) rfl (aS (aE (i:=0) (show(["place","worth","worths"]:List Str).Nodup by decide +kernel) rfl (Or.inl rfl)) (aS (aE (i:=1) (show(["place","worth","worths"]:List Str).Nodup by decide +kernel) rfl (Or.inl rfl)) b8)))) (λ_ _ _ _ _=>bI)
   (λ_ _ _ _ _=>(aH ug (hr.mono (by decide)) rfl aB.pass (aa (pv 0) (aa (pv 1) (aa (pv 2) af (se rfl)) (se rfl)) (se rfl)) (he:=se rfl) (hpl:=na rfl)))) af (se rfl)) (se rfl))))))))))),?_⟩
  refine(?_:let cu:TS:=_;let cv:TS:=_;let cw:TS:=_;let dQ:TS:=_;let jF:TS:=_;let AY:TS:=_;let D4:TS:=_;tSeq cu (tSeq cv (tSeq cw (tSeq dQ (tSeq jF (tSeq AY D4))))) _ _ _)
  intro cu cv cw dQ jF AY D4
  have sl:=sizeLine_eq
  have bl:=B.len
  refine(?_:let G_:Prop:=_;G_)
  intro G_
  obtain⟨g0,g1,g2⟩:=B.bot
  have MR:(gT b).length=b.length:=by unfold gT;rw[aab,aab]
  obtain⟨_,xb,e,ha,G3⟩:=aO.mp rb
  dsimp only[G_]
  clear G_
  cases e
  have lx:=G3.length
  rw[aab] at lx
  change tSeq _ _ _ _ _
  refine aR (λσ' H1=>∃l ps as,Pr.Told b ps/\az H H1/\H1 l=some (.lst (List.map V.ref as))/\Al (λp v=>∃x,v=.ref x/\H1 x=some (.lst ((Pr.c6 b p).map V.int))) ps (as.map V.ref)/\σ'=[some (.ref a),some (.ref l),none,none,none,none,none]) ?_ (λN hN=>?_)
  case refine_2=>
   simp_all only[vq]
   exact⟨b,rb,rk,B,kX,λl ps as H1 td s1 nl hl al=>hN _ _ ⟨l,ps,as,td,s1,hl,al,rfl⟩⟩
  intro _ H1 bK
  refine(?_:let G_:Prop:=_;G_)
  intro G_
  obtain⟨l,ps,as,td,s1,hl,al,rfl⟩:=bK
  dsimp only[G_]
  clear G_
  have UT:∀(i:Nat) q k,b[i]?=some q->(List.replicate b.length (some (0:Int)))[i]?=some k->GU q k:=λi q k e ek=>by
   rw[List.eq_of_mem_replicate (aaf ek)]
   have:=B.ok q (aaf e)
   cases q with
   | fin g=>trivial
   | cL g ws=>trivial
   | bJ who to=>exact⟨Int.le_refl _,by have:=this.2.1;omega⟩
  change tSeq _ _ _ _ _
  refine aR (λσ' H2=>∃wl xs,az H1 H2/\H1 wl=none/\H2 wl=some (.lst xs)/\aY (cE H2 wl) ((cA b (List.replicate b.length (some (0:Int)))).map pW) xs/\σ'=[some (.ref a),some (.ref l),some (.ref wl),none,none,none,none]) ?_ (λN hN=>?_)
  case refine_2=>
   simp_all only[BU]
   refine⟨by decide,λz nz=>?_⟩
   have s3:=au (o:=.lst [V.int 0]) nz
   have hz:upd H1 z (.lst [V.int 0]) z=some (.lst [V.int 0]):=ar
   generalize upd H1 z (.lst [V.int 0])=H3 at *
   refine⟨_,(s1.trans s3) _ _ ha,_,hz,by omega,by omega,by rw[aah];show 1*xb.length<=_;omega,λD nD=>?_⟩
   rw[aah,List.flatten_replicate_singleton,<-lx] at *
   have s4:=s3.trans (au (o:=.lst (List.replicate b.length (V.int 0))) nD)
   have hD:upd H3 D (.lst (List.replicate b.length (V.int 0))) D=some (.lst ((List.replicate b.length (some (0:Int))).map gv)):=by rw[ar,List.map_replicate];rfl
   generalize upd H3 D (.lst (List.replicate b.length (V.int 0)))=H4 at *
   exact⟨a,D,b,_,rfl,rb.mono (s1.trans s4),by omega,hD,⟨aa8,UT⟩,λwl xs H5 s5 nw hw qg=>hN _ _ ⟨wl,xs,s4.trans s5,none_of s4 nw,hw,qg,rfl⟩⟩
  intro _ H2 bK
  refine(?_:let G_:Prop:=_;G_)
  intro G_
  obtain⟨wl,xs,s2,UU,B3,JE,rfl⟩:=bK
  dsimp only[G_]
  clear G_
  have X0:az H1 (cE H2 wl):=c7 s2 UU
  change tSeq _ _ _ _ _
  refine aR (λσ' H3=>∃gn,az H2 H3/\mB aA (cE H3 wl) gn (gT b,gB b)/\σ'=[some (.ref a),some (.ref l),some (.ref wl),some (.ref gn),none,none,none]) ?_ (λN hN=>?_)
  case refine_2=>
   simp_all only[AB]
   exact⟨b,(rb.mono (s1.trans X0)).mono bO,rk,B,λgn H3 s3 hg=>hN _ _ ⟨gn,s3,A0 hg (s3 _ _ B3) (xo JE) (A2 JE B.pos),rfl⟩⟩
  intro _ H3 bK
  refine(?_:let G_:Prop:=_;G_)
  intro G_
  obtain⟨gn,s3,hg,rfl⟩:=bK
  dsimp only[G_]
  clear G_
  change tSeq _ _ _ _ _
  refine aR (λσ' H4=>∃bk,az H3 H4/\mB aA (cE H4 wl) bk (List.replicate b.length 0,gB b)/\σ'=[some (.ref a),some (.ref l),some (.ref wl),some (.ref gn),some (.ref bk),none,none]) ?_ (λN hN=>?_)
  case refine_2=>
   simp_all only[FG]
   refine⟨_,hg.mono bO,by show(gT b).length<=60;omega,λbk H4 s4 hb=>hN _ _ ⟨bk,s4,?_,rfl⟩⟩
   have:mB aA H4 bk (List.replicate b.length 0,gB b):=by rw[<-MR];exact hb
   exact A0 this (s4 _ _ (s3 _ _ B3)) (xo JE) (A2 JE B.pos)
  intro _ H4 bK
  refine(?_:let G_:Prop:=_;G_)
  intro G_
  obtain⟨bk,s4,hb,rfl⟩:=bK
  dsimp only[G_]
  clear G_
  have lJ:=s3.trans s4
  have la:=al.length
  rw[aab] at la
  have K0:vv b (List.replicate b.length (some (0:Int))):=⟨⟨aa8,UT⟩,λi q k e ek _=>List.eq_of_mem_replicate (aaf ek)⟩
  have M6:az H1 (cE H4 wl):=c7 (s2.trans lJ) UU
  change tSeq _ _ _ _ _
  refine aR (λσ' H5=>az H1 H5/\∃(bk:Addr) (S:Dg.Bk) (z:Option V),mB aA H5 bk S/\tY b ps ps.length S/\σ'=[some (.ref a),some (.ref l),some (.ref wl),some (.ref gn),some (.ref bk),z,none]) ?_ (λN hN=>?_)
  case refine_2=>
   simp_all only[]
   refine⟨⟨_,aZ.of (lJ _ _ (s2 _ _ hl))⟩,bN (src_list (K:=K) (a:=l) (xs:=as.map V.ref) (Ok:=λH'=>az H1 (cE H' wl)) (λH' s=>aZ.of (bO _ _ (s _ _ hl)))) (λi σ H5=>az H1 (cE H5 wl)/\∃(bk:Addr) (S:Dg.Bk) (ks:List (Option Int)) (xs:List V) (z:Option V),mB aA (cE H5 wl) gn (gT b,gB b)/\mB aA (cE H5 wl) bk S/\H5 wl=some (.lst xs)/\aY (cE H5 wl) ((cA b ks).map pW) xs/\vv b ks/\tY b ps i S/\σ=[some (.ref a),some (.ref l),some (.ref wl),some (.ref gn),some (.ref bk),z,none]) ⟨M6,bk,_,_,xs,_,hg.mono (bF s4),hb,lJ _ _ B3,JE.mono (bF lJ),K0,tY.start B,rfl⟩ (λ_ _ _ _ h=>h.1) ?_ ?_⟩
   ·intro i y σ H5 H6 hi dI dR
    refine(?_:let G_:Prop:=_;G_)
    intro G_
    obtain⟨s5,bk,S,ks,xs,z,M7,G6,JF,Jy,K5,I,rfl⟩:=dI
    obtain⟨rfl,ex⟩:=dR
    rw[aab] at hi
    obtain⟨p,ep,x,rfl,hx⟩:=al.get ex
    dsimp only[G_]
    have ip:=td.Ip (aaf ep)
    have fc:∀q∈Pr.c6 b p,Pr.In b q:=λq hq=>Pr.eG B.gC.good ip hq
    have lp:0< (Pr.c6 b p).length:=List.length_pos_iff.mpr (Pr.iU B.gC.good ip)
    have o1:=AA B td (i:=i+1) (by omega)
    rw[Pr.nX ep] at o1
    simp_all only[]
    refine⟨bk,gn,x,a,wl,S,b,rk,ks,Pr.c6 b p,330+92*Pr.off b ps i,xs,rfl,G6,M7,s5 _ _ hx,rb.mono (s1.trans s5),B,JF,Jy,K5,(Pr.j5 B.gC.good ip).imp (λh z=>by omega),lp,by omega,fc,I.sz,by omega,I.dv,λq hq=>I.zr q (fc q hq) (by rw[vp B td ep hq];exact aag _),λx2 T2 X1 X2 H7 s7 h7 r7 K7 st sz X3 X4=>?_⟩
    exact⟨s5.trans s7,M7.mono s7,x2,T2,X3,X1,X2,h7,r7,K7,I.step B td K7.pk ep st sz X4,rfl,_,rfl⟩
   ·intro σ H5 bK
    refine(?_:let G_:Prop:=_;G_)
    intro G_
    obtain⟨s5,bk,S,ks,xs,z,M7,G6,JF,Jy,K5,I,rfl⟩:=bK
    dsimp only[G_]
    rw[aab,la] at I
    exact hN _ _ ⟨s5.trans bO,bk,S,z,G6.mono bO,I,rfl⟩
  intro _ H5 bK
  refine(?_:let G_:Prop:=_;G_)
  intro G_
  obtain⟨s5,bk,S,z,G6,I,rfl⟩:=bK
  dsimp only[G_]
  clear G_
  have W0:=I.sz.pos
  have o1:=AA B td (i:=ps.length) (aag _)
  have sz:=I.sz.up (M':=330+92*b.length) (by omega)
  have X5:=sz.len
  have lv:∀q:Int,0<=q->q< (b.length:Int)->Dg.vl (Wq.fJ (eA S) q)=Dg.val S q:=λq q0 q1=>wY W0 q (by omega)
  have bq:∀p:Nat,p<b.length->il b p (Dg.val S):=λp hp=>I.eq p hp (Iz B td ⟨by omega,by omega⟩)
  change tSeq _ _ _ _ _
  refine aR (λσ' H6=>∃l6,az H5 H6/\H5 l6=none/\Rep H6 (.lst ((eA S).map bB)) (.ref l6)/\σ'=[some (.ref a),some (.ref l),some (.ref wl),some (.ref gn),some (.ref bk),z,some (.ref l6)]) ?_ (λN hN=>?_)
  case refine_2=>
   simp_all only[o9]
   refine(?_:let G_:Prop:=_;G_)
   intro G_
   obtain⟨dx,m,hx,hm⟩:=id G6
   dsimp only[G_]
   exact⟨_,_,hx,Jz,bk,S,rfl,G6,W0,sz.bb.mono (by omega),by omega,λl6 H6 s6 n6 r6=>hN _ _ ⟨l6,s6,n6,r6,rfl⟩⟩
  intro _ H6 bK
  refine(?_:let G_:Prop:=_;G_)
  intro G_
  obtain⟨l6,s6,n6,r6,rfl⟩:=bK
  have X6:(eA S).length=b.length:=by unfold eA;rw[aab];exact X5
  have K4:=jE sz
  obtain⟨_,us,e,C3,ru⟩:=aO.mp r6
  dsimp only[G_]
  clear G_
  cases e
  have lu:=ru.length
  rw[aab] at lu
  have JG:=s1.trans (s5.trans s6)
  simp_all only[]
  refine⟨⟨_,aZ.of (JG _ _ ha)⟩,⟨_,aZ.of C3⟩,?_⟩
  have JB:∀{i:Nat},i<b.length->(eA S)[i]?=some (Wq.fJ (eA S) (i:Int)):=λ{i} hi=>by
   unfold Wq.fJ
   rw[aah,aae,aac (by omega)]
   rfl
  refine fj (K:=K) (jr (λH' s'=>aZ.of (s' _ _ (JG _ _ ha))) (λH' s'=>aZ.of (s' _ _ C3))) (λi u v _=>∃q x,b[i]?=some q/\Rep H (iS q) u/\v=.ref x/\H6 x=some (.tup (Pr (Wq.fJ (eA S) (i:Int)).1 (Wq.fJ (eA S) (i:Int)).2))) ?_ (by omega) (λi y H'=>∀q,b[i]?=some q->y=gv (Bq (eA S) i q)) (λ_ _ _ _ _ h=>h) ?_ ?_
  ·intro i v H7 H8 hi s7 dI
   refine(?_:let G_:Prop:=_;G_)
   intro G_
   obtain⟨t,x,y,nt,rfl,ex,ey,rfl⟩:=dI
   obtain⟨q,eq,rq⟩:=cY G3 ex
   have um:=(List.getElem?_eq_some_iff.mp eq).1
   obtain⟨px,UW,X7⟩:=dc ru (JB um)
   dsimp only[G_]
   rw[ey] at UW
   cases UW
   exact⟨au nt,t,_,_,rfl,d6.of ar,q,px,eq,rq,rfl,X7⟩
  ·intro i u v H7 Q2 hi s7 dR kq
   refine(?_:let G_:Prop:=_;G_)
   intro G_
   obtain⟨q,x,eq,rq,rfl,hx⟩:=dR
   dsimp only[G_]
   have um:=(List.getElem?_eq_some_iff.mp eq).1
   simp_all only[]
   refine⟨u,x,l6,q,b.length,i,eA S,rfl,rq.mono (JG.trans s7),B.ok _ (aaf eq),X6,um,s7 _ _ hx,r6.mono s7,λwho to e=>?_,λH8 s8=>kq _ _ s8 λq' e'=>?_⟩
   ·subst e
    refine(?_:let G_:Prop:=_;G_)
    intro G_
    obtain⟨⟨t,mt,et⟩,_⟩:=bq i um _ eq
    dsimp only[G_]
    have rg:=B.gC.good.mG _ (aaf eq) t mt
    refine⟨t,mt,Dg.vg (K4 _ (aaf (JB um))).1 (K4 _ ?_).1 (by rw[lv _ (by omega) (by omega),lv t rg.1 rg.2];exact et)⟩
    have:=JB (i:=t.toNat) (by omega)
    rw[Int.toNat_of_nonneg rg.1] at this
    exact aaf this
   ·rw[eq] at e'
    cases e'
    rfl
  ·intro ys H7 s7 ly hy D n1 n2
   have X8:ys=((List.range b.length).map λi=>Bq (eA S) i (b.getD i (.fin (0,1)))).map gv:=by
    apply aaS
    intro i
    by_cases hi:i<b.length
    ·have ey:ys[i]?=some ys[i]:=aac (by omega)
     rw[ey,hy i _ ey _ (aac hi),aad,aad,aa0 hi]
     simp [aae,aac hi]
    ·rw[aaq (by omega),aaq (by rw[aab,aab,aaz];omega)]
   have sD:=au (o:=.lst ys) n2
   have hD:upd H7 D (.lst ys) D=some (.lst ys):=ar
   generalize upd H7 D (.lst ys)=H8 at *
   refine⟨by decide,λt H9 s9 n9 h9=>kk t l6 D S _ H9 (JG.trans (s7.trans (sD.trans s9))) h9 (none_of (s1.trans s5) n6) (none_of (JG.trans s7) n2) (r6.mono (s7.trans (sD.trans s9))) (by rw[s9 _ _ hD,X8]) sz I.dv bq (λp q e=>?_) (by rw[aab,aaz])⟩
   have hp:=(List.getElem?_eq_some_iff.mp e).1
   rw[aad,aa0 hp]
   simp [aae,e]
theorem jI:aN ["_law_script","_law_k","_law_number"] ["_law_script","_law_k"] (ae (top 47)):=⟨rfl,rfl,rfl,by decide +kernel,rfl,by decide +kernel,by decide +kernel⟩
theorem xq (T:Txt K mg aA tc):bX P w K mg base (bQ P w) 1 "_law_cell" ["_law_script","_law_k"] (FK K):=by
 refine T.tD.eD (λ_ _ _ _ _ _=>eZ λ_ _=>rfl) λf fd F=>F.eL jI (λvs H Q E h=>?_) (λcK A outer s H vs Q E hr h=>?_)
 ·obtain⟨_,_,_,rfl,_⟩:=h;rfl
 ·refine(?_:let G_:Prop:=_;G_)
  intro G_
  obtain⟨a,ns,k,rfl,hS,k0,k1,kk⟩:=h
  dsimp only[G_]
  have nd:=jI.nd
  refine⟨_,(ag (bW (aQ o8 (pv 1) (ba (iP (K:=K)) (by rfl) T.z_len aaA (aa (pv 0) af (se rfl)) (he:=se rfl) (hpl:=na rfl)) (aV _)) (ax (aT (aI (pH (K:=K)) (pv 0) (pv 1) (λ_ _=>rfl))))
   bC)
  (ag (aF (i:=2) nd rfl (Or.inl rfl) (aD br (aD bo (pv 1) ao) ao))
  (ag (bW (aQ kh (ba (iP (K:=K)) (by rfl) T.z_len aaA (aa (pv 0) af (se rfl)) (he:=se rfl) (hpl:=na rfl)) ao (aV _)) (ax (aF (i:=2) nd rfl (Or.inl rfl) (aD br (aD bo (aD cH (aI (pH (K:=K)) (pv 0) (aD cH (aD bo (pv 1) ao) (ba (iP (K:=K)) (by rfl) T.z_len aaA (aa (pv 0) af (se rfl)) (he:=se rfl) (hpl:=na rfl))) (λ_ _=>rfl)) ao) ao) (aD bo (aD bo (pv 1) (pv 1)) ao))))
   bC)
  (ax (aT (aD cH (aD bo (pv 2) (pv 2)) ao)))))),?_⟩
  refine(?_:let cu:TS:=_;let cv:TS:=_;let cw:TS:=_;let dQ:TS:=_;tSeq cu (tSeq cv (tSeq cw dQ)) _ _ _)
  intro cu cv cw dQ
  simp_all only[EK]
  have j2:k*k<=1000000:=Int.le_trans (Int.mul_le_mul (show k<=1000 by omega) (show k<=1000 by omega) k0 (by decide)) (by decide)
  have j3:0<=k*k:=Int.mul_nonneg k0 k0
  refine⟨ns,hS,gI (λc=>⟨ns,hS,k0,c,kk _⟩) (λc=>⟨cR (by omega) (by omega),ns,hS,gI (λz=>?_) (λz=>?_)⟩)⟩
  ·have m1:=aaI (ns.getD (k*5 % (ns.length:Int)).toNat 0) (show(2147483647:Int)≠0 by decide)
   have m2:=aaU (ns.getD (k*5 % (ns.length:Int)).toNat 0) (show(0:Int)<2147483647 by decide)
   exact⟨cR (by omega) (by omega),ns,hS,z,ns,hS,aaI _ (by omega),aaU _ z,by decide,m4,cR (by omega) (by omega),cR (by omega) (by omega),cR (by omega) (by omega),by decide,kk _⟩
  ·exact⟨cR (by omega) (by omega),by decide,kk _⟩
theorem iD:aN ["_law_cell_here","_law_many"] ["_law_cell_here","_law_many"] (ae (top 48)):=⟨rfl,rfl,rfl,by decide +kernel,rfl,by decide +kernel,by decide +kernel⟩
theorem rL (T:Txt K mg aA tc):bX P w K mg base (bQ P w) 1 "_law_mixed" ["_law_cell_here","_law_many"] gc:=by
 refine T.qL.eD (λ_ _ _ _ _ _=>eZ λ_ _=>rfl) λf fd F=>F.eL iD (λvs H Q E h=>?_) (λcK A outer s H vs Q E hr h=>?_)
 ·obtain⟨_,_,rfl,_⟩:=h;rfl
 ·refine(?_:let G_:Prop:=_;G_)
  intro G_
  obtain⟨c,m,rfl,m0,kk⟩:=h
  dsimp only[G_]
  have nd:=iD.nd
  refine⟨_,(ax (aT (aD cH (aD dM (aD cH (aD bo (aD cH (pv 0) (aD iL ao ao)) ao) (aD iL ao ao)) (aD iL ao ao)) (pv 1)))),?_⟩
  simp_all only[]
  have h1:=aaI c (show((2:Int)^64)≠0 by decide)
  have h2:=aaU c (show(0:Int)<2^64 by decide)
  exact⟨by decide,by decide,by decide,by decide,cR (by omega) (by omega),by decide,by decide,by decide,by decide,by decide,by decide,by decide,fi.lit,m0,kk _ (aaI _ (by omega)) (aaU _ m0)⟩
theorem kM:aN ["_law_top","_law_bottom","_law_one","_law_other"] ["_law_top","_law_bottom"] (ae (top 49)):=⟨rfl,rfl,rfl,by decide +kernel,rfl,by decide +kernel,by decide +kernel⟩
theorem rM (T:Txt K mg aA tc):bX P w K mg base (bQ P w) 1 "_law_low" ["_law_top","_law_bottom"] iz:=by
 refine T.va.eD (λ_ _ _ _ _ _=>eZ λ_ _=>rfl) λf fd F=>F.eL kM (λvs H Q E h=>?_) (λcK A outer s H vs Q E hr h=>?_)
 ·obtain⟨_,_,rfl,_⟩:=h;rfl
 ·refine(?_:let G_:Prop:=_;G_)
  intro G_
  obtain⟨a,b,rfl,b0,bb,k⟩:=h
  dsimp only[G_]
  have nd:=kM.nd
  refine⟨_,(ag (aF (i:=2) nd rfl (Or.inl rfl) (ba mQ (by rfl) T.z_abs rfl (aa (pv 0) af (se rfl)) (he:=se rfl) (hpl:=na rfl)))
  (ag (aF (i:=3) nd rfl (Or.inl rfl) (pv 1))
  (ag (gF PassesOwn.never (aQ kh (pv 3) ao (aV _)) (ax (Er (i:=2) (j:=3) rfl nd rfl rfl (by decide) rfl rfl (aa (pv 3) (aa (aD cH (pv 2) (pv 3)) af (se rfl)) (se rfl)) rfl)))
  (ax (aT (bH (aa (aD dM (pv 0) (pv 2)) (aa (aD dM (pv 1) (pv 2)) af (se rfl)) (se rfl)))))))),?_⟩
  refine(?_:let cu:TS:=_;let cv:TS:=_;let cw:TS:=_;let dQ:TS:=_;tSeq cu (tSeq cv (tSeq cw dQ)) _ _ _)
  intro cu cv cw dQ
  simp_all only[]
  refine sj (λσ H1=>H1=H/\∃x y:Int,σ=[some (.int a),some (.int b),some (.int x),some (.int y)]/\0<=x/\0<=y/\Nm.g x y=Nm.g a b) (λσ _=>match σ with | [_,_,_,some (.int y)]=>y.toNat | _=>0) ?_ ?_ ?_
  ·refine⟨rfl,_,_,rfl,?_,by omega,?_⟩
   ·split <;>omega
   ·rw[show(if a<0 then -a else a)=(a.natAbs:Int) by split <;>omega,Nm.yZ]
  ·intro σ H1 bK
   refine(?_:let G_:Prop:=_;G_)
   intro G_
   obtain⟨rfl,x,y,rfl,x0,y0,e⟩:=bK
   dsimp only[G_]
   simp_all only[]
   refine gI (λc=>?_) (λc=>?_)
   ·refine⟨c,y0,aaI _ (by omega),by rw[Nm.y2 x0 c,e],?_⟩
    have:=aaU x c
    have:=aaI x (show y≠0 by omega)
    omega
   ·have z:y=0:=by omega
    subst z
    rw[Nm.y3 x0] at e
    rw[e]
    have g0:0<Nm.g a b:=Nm.jl (by omega)
    have gb:Bt 8900 (Nm.g a b):=bb.le (by have:=Nm.EM (a:=a) b0;omega)
    obtain⟨e1,e2⟩:=Nm.qz (a:=a) b0
    rw[e1,e2] at k
    exact⟨fi.of g0 gb,fi.of g0 gb,by decide,λp H2 s1 n1 e=>k p H2 s1 n1 e⟩
  ·intro σ H1 Q1 Q2 hq hc
   simp only[L2.start,Pr,tRev,tD1,tDPop1,tSl,tNoPart,tPart,rSlL,tDIn,tDNotIn,gSub,rSetL,tLst,tDNewK,tComp,L2.stC,tFor_eq,iList,iTup,iRng1,iRng2,iZip,iEnum,iDict,iStr,tChain,tSumV,tBM,rJoin,tJoined,jNil,jLit,jInt,jStr,tRaise,tDGet,tDGet2,tDGet1,sDPut,Option.join_some,List.getElem?_nil,tSeq,tRet,tRetN,tIfS,tTest,tB,tOp,tUn,tVar,tC,tCB,tCons,tNil,tCall,tTupS,tAsg,gName,gNil,gCons,tPar,tNext,tDrop,tAnd,tOr,tNot,tAndV,tOrV,tNotV,tIf,rI,rI0,rU,rIxTH,rIxLH,rEqT,rNeT,rInT,rEq,rNe,scal_ss,scal_ii,scal_bb,scal_si,scal_is,CPow,at0,at1,at2,aas,aaK,aap,aa9,Nat.reduceSub,Nat.reduceAdd,aaZ,abq,List.reduceReplicate,aa4,List.nil_append,abk,abl,abf,abc,abd,abm,exists_eq_left',exists_eq_left,V.ref.injEq,V.int.injEq,V.bl.injEq,V.str.injEq,V.ty.injEq,HO.tup.injEq,HO.lst.injEq,List.cons.injEq,and_true,true_and,and_assoc,exists_and_left,decide_eq_true_eq,Bool.not_eq_true',decide_eq_false_iff_not,ite_true,ite_false,if_true,if_false,Int.reduceToNat,eq_self_iff_true] at hc ⊢
   refine(?_:let G_:Prop:=_;G_)
   intro G_
   obtain⟨v,e1,i,e2,q⟩:=hc
   dsimp only[G_]
   exact⟨v,e1,i,e2,hq _ _ q⟩
theorem iE:aN ["_law_one","_law_other"] ["_law_one","_law_other"] (ae (top 51)):=⟨rfl,rfl,rfl,by decide +kernel,rfl,by decide +kernel,by decide +kernel⟩
theorem A3 (T:Txt K mg aA tc):bX P w K mg base (bQ P w) 2 "_law_times" ["_law_one","_law_other"] kH:=by
 have dh:bX P w K mg base (bQ P w) 1 "_law_low" ["_law_top","_law_bottom"] iz:=rM T
 refine T.qM.eD (λ_ _ _ _ _ _=>eZ λ_ _=>rfl) λf fd F=>F.eL iE (λvs H Q E h=>?_) (λcK A outer s H vs Q E hr h=>?_)
 ·obtain⟨_,_,_,_,rfl,_⟩:=h;rfl
 ·refine(?_:let G_:Prop:=_;G_)
  intro G_
  obtain⟨p,q,a,b,rfl,hp,hq,ga,gb,k⟩:=h
  dsimp only[G_]
  have nd:=iE.nd
  refine⟨_,(ax (aT (aH dh (hr.mono (by decide)) rfl aB.pass (aa (aD bo (aI aK (pv 0) ao (λ_ _=>rfl)) (aI aK (pv 1) ao (λ_ _=>rfl))) (aa (aD bo (aI aK (pv 0) ao (λ_ _=>rfl)) (aI aK (pv 1) ao (λ_ _=>rfl))) af (se rfl)) (se rfl)) (he:=se rfl) (hpl:=na rfl)))),?_⟩
  simp only[Pr] at hp hq
  simp_all only[iz,hp,hq]
  refine⟨ga.1.fh gb.1,ga.2.1.fh gb.2.1,?_⟩
  exact⟨Int.mul_pos ga.2.2 gb.2.2,(ga.2.1.mul gb.2.1).mono (by decide),λr H' s' n' e=>k r H' s' n' e⟩
theorem iF:aN ["_law_cell_here","_law_k","_law_way","_law_top","_law_bottom"] ["_law_cell_here","_law_k"] (ae (top 52)):=⟨rfl,rfl,rfl,by decide +kernel,rfl,by decide +kernel,by decide +kernel⟩
theorem Gp (T:Txt K mg aA tc):bX P w K mg base (bQ P w) 2 "_law_share" ["_law_cell_here","_law_k"] AF:=by
 have dh:bX P w K mg base (bQ P w) 1 "_law_low" ["_law_top","_law_bottom"] iz:=rM T
 have aW:bX P w K mg base (bQ P w) 1 "_law_mixed" ["_law_cell_here","_law_many"] gc:=rL T
 refine T.qN.eD (λ_ _ _ _ _ _=>eZ λ_ _=>rfl) λf fd F=>F.eL iF (λvs H Q E h=>?_) (λcK A outer s H vs Q E hr h=>?_)
 ·obtain⟨_,_,rfl,_⟩:=h;rfl
 ·refine(?_:let G_:Prop:=_;G_)
  intro G_
  obtain⟨c,k,rfl,k0,k1,kk⟩:=h
  dsimp only[G_]
  have nd:=iF.nd
  refine⟨_,(ag (aF (i:=2) nd rfl (Or.inl rfl) (aH aW (hr.mono (by decide)) rfl aB.pass (aa (aD br (pv 0) (aD bo ao (pv 1))) (aa ao af (se rfl)) (se rfl)) (he:=se rfl) (hpl:=na rfl)))
  (ag (aF (i:=3) nd rfl (Or.inl rfl) (aD iK (aH aW (hr.mono (by decide)) rfl aB.pass (aa (aD br (aD br (pv 0) (aD bo ao (pv 1))) ao) (aa ao af (se rfl)) (se rfl)) (he:=se rfl) (hpl:=na rfl)) ao))
  (ag (aF (i:=4) nd rfl (Or.inl rfl) ao)
  (ag (bW (aQ o8 (pv 2) ao (aV _)) (ax (aF (i:=4) nd rfl (Or.inl rfl) (aD br ao (aH aW (hr.mono (by decide)) rfl aB.pass (aa (aD br (aD br (pv 0) (aD bo ao (pv 1))) ao) (aa ao af (se rfl)) (se rfl)) (he:=se rfl) (hpl:=na rfl)))))
   bC)
  (ag (bW (aQ cV (pv 2) ao (aV _)) (ag (aF (i:=3) nd rfl (Or.inl rfl) (aD iK (aD cH (aD bo (aD br (pv 0) ao) (aD br (aD bo (pv 1) (pv 1)) ao)) (aD iK (aD bo ao (aD iL ao ao)) ao)) (aD iK (aD iL ao ao) ao)))
  (ax (aF (i:=4) nd rfl (Or.inl rfl) (aD br ao (aD cH (aD bo (aD br (pv 0) ao) (aD br (aD bo (pv 1) (pv 1)) ao)) (aD iL ao ao))))))
   bC)
  (ax (aT (aH dh (hr.mono (by decide)) rfl aB.pass (aa (pv 3) (aa (pv 4) af (se rfl)) (se rfl)) (he:=se rfl) (hpl:=na rfl))))))))),?_⟩
  refine(?_:let cu:TS:=_;let cv:TS:=_;let cw:TS:=_;let dQ:TS:=_;let jF:TS:=_;let AY:TS:=_;tSeq cu (tSeq cv (tSeq cw (tSeq dQ (tSeq jF AY)))) _ _ _)
  intro cu cv cw dQ jF AY
  have j2:k*k<=1000000:=Int.le_trans (Int.mul_le_mul (show k<=1000 by omega) (show k<=1000 by omega) k0 (by decide)) (by decide)
  have j3:0<=k*k:=Int.mul_nonneg k0 k0
  have fin:∀x y:Int,Bt 40 x->Bt 20 y->0<y->0<y/\Bt 8900 y/\∀p H',az H H'->H p=none->H' p=some (.tup [V.int (Nm.st x y),V.int (Nm.sb x y)])->Q (.ref p) H':=λx y bx Dh y0=>
   ⟨y0,Dh.mono (by decide),λp H' s' n' e=>kk p H' (Nm.st x y,Nm.sb x y) s' n' e ⟨bx.le (Nm.EN (by omega)),Dh.le (Nm.EO (by omega)),Nm.y7 (by omega),Nm.y8 (by omega)⟩⟩
  have BV:∀c1 c2:Int,Bt 40 (c1 % (2*10^12 - 1) - (10^12 - 1))/\Bt 20 (1+c2 % 10^6)/\0<1+c2 % 10^6:=λc1 c2=>by
   have h1:=aaI c1 (show(2*10^12 - 1:Int)≠0 by decide)
   have h2:=aaU c1 (show(0:Int)<2*10^12 - 1 by decide)
   have h3:=aaI c2 (show(10^6:Int)≠0 by decide)
   have h4:=aaU c2 (show(0:Int)<10^6 by decide)
   exact⟨Bt.of (10^12) (by omega) (by omega),Bt.of (10^6) (by omega) (by omega),by omega⟩
  simp_all only[iz,gc]
  have bs:∀{t r:Int},0<=t->t<19->0<=r->r<12->Bt 40 (t - 9)/\Bt 20 (1+r):=λa b c d=>⟨Bt.of 60 (by omega) (by omega),Bt.of 60 (by omega) (by omega)⟩
  refine⟨cR,by decide,λwy w0 w1=>⟨cR,by decide,λt t0 t1=>gI (λc1=>⟨cR,by decide,λr r0 r1=>gI (λc2=>?_) (λc2=>?_)⟩) (λc1=>gI (λc2=>?_) (λc2=>?_))⟩⟩
  ·exfalso
   omega
  ·exact fin (t - 9) (1+r) (bs t0 t1 r0 r1).1 (bs t0 t1 r0 r1).2 (by omega)
  ·have bg:=BV ((c+1)* (k*k+71)) ((c+3)* (k*k+5))
   exact⟨cR (by omega) (by omega),m4 (by omega) (by omega),by decide,by decide,by decide,cR,by decide,by decide,by decide,by decide,cR (by omega) (by omega),m4 (by omega) (by omega),by decide,by decide,by decide,by decide,fin _ _ bg.1 bg.2.1 bg.2.2⟩
  ·exact fin (t - 9) 1 (bs t0 t1 (Int.le_refl 0) (by decide)).1 (Bt.of 60 (by omega) (by omega)) (by decide)
theorem gY:aN ["_law_cell_here","_law_n","_law_first","_law_keyed"] ["_law_cell_here","_law_n"] (ae (top 53)):=⟨rfl,rfl,rfl,by decide +kernel,rfl,by decide +kernel,by decide +kernel⟩
theorem Gq (T:Txt K mg aA tc):bX P w K mg base (bQ P w) 2 "_law_turned" ["_law_cell_here","_law_n"] AD:=by
 have aW:bX P w K mg base (bQ P w) 1 "_law_mixed" ["_law_cell_here","_law_many"] gc:=rL T
 refine T.oS.eD (λ_ _ _ _ _ _=>eZ λ_ _=>rfl) λf fd F=>F.eL gY (λvs H Q E h=>?_) (λcK A outer s H vs Q E hr h=>?_)
 ·obtain⟨_,_,rfl,_⟩:=h;rfl
 ·refine(?_:let G_:Prop:=_;G_)
  intro G_
  obtain⟨c,n,rfl,n0,n1,kk⟩:=h
  dsimp only[G_]
  clear G_
  have nd:=gY.nd
  refine⟨_,(ag (aF (i:=2) nd rfl (Or.inr rfl) (aD cH (pv 0) ao))
  (ag (aF (i:=3) nd rfl (Or.inl rfl) (ba (nB (K:=K)) (by rfl) T.z_sorted rfl (aa (bT rfl (N:=["_law_cell_here","_law_n","_law_first","_law_keyed"]) (so:=ae (top 53)) (N':=["_law_k","_law_first"]) (k:=1) (fr:=[2]) rfl rfl ⟨rfl,by decide +kernel,by decide +kernel,by decide +kernel,rfl,by decide +kernel,by decide +kernel⟩ (di rfl T.z_range (aa (pv 1) af (se rfl))) (λ_ _ _ _ _=>(aE (i:=0) (show(["_law_k","_law_first"]:List Str).Nodup by decide +kernel) rfl (Or.inl rfl))) (λ_ _ _ _ _=>bI)
   (λ_ _ _ _ _=>(bH (aa (aH aW (hr.mono (by decide)) rfl aB.pass (aa (aD br (aD bo (pv 1) (aD br (aD bo (pv 0) (pv 0)) ao)) (pv 0)) (aa (aD iL ao ao) af (se rfl)) (se rfl)) (he:=se rfl) (hpl:=na rfl)) (aa (pv 0) af (se rfl)) (se rfl))))) af (se rfl)) (he:=se rfl) (hpl:=na rfl)))
  (ax (aT (bT rfl (N:=["_law_cell_here","_law_n","_law_first","_law_keyed"]) (so:=ae (top 53)) (N':=["_law_pair"]) (k:=1) (fr:=[]) rfl rfl ⟨rfl,by decide +kernel,by decide +kernel,by decide +kernel,rfl,by decide +kernel,by decide +kernel⟩ (bj (K:=K) (pv 3)) (λ_ _ _ _ _=>(aE (i:=0) (show(["_law_pair"]:List Str).Nodup by decide +kernel) rfl (Or.inl rfl))) (λ_ _ _ _ _=>bI)
   (λ_ _ _ _ _=>(aI aK (pv 0) ao (λ_ _=>rfl)))))))),?_⟩
  refine(?_:let cu:TS:=_;let cv:TS:=_;let cw:TS:=_;tSeq cu (tSeq cv cw) _ _ _)
  intro cu cv cw
  simp_all only[]
  obtain⟨N,rfl⟩:=aav (Int.le_of_lt n0)
  rw[aah] at kk
  refine⟨by decide,by omega,by omega,?_⟩
  refine comp_map src_range (λ_ _ _ _ h=>by rw[h.1];exact az.refl _) (by rw[sizeLine_eq];omega) (λi y H4=>∃tt a,y=.ref tt/\H4 tt=some (.tup [.int a,.int ((i:Nat):Int)])) (λi y H4 H5 s5 ⟨tt,a,e,h⟩=>⟨tt,a,e,s5 _ _ h⟩) ?_ ?_
  ·rintro i x w0 H9 Di Q2 hi s9 ⟨rfl,rfl⟩ kq
   simp_all only[gc]
   have ii:(0:Int)+ (i:Int)=(i:Int):=Int.zero_add _
   rw[ii]
   have j0:(0:Int)<=(i:Int):=by omega
   have jq:IntMulOk (i:Int) (i:Int):=cR (by omega) (by omega)
   have j2:(i:Int)* (i:Int)<=40000:=Int.le_trans (Int.mul_le_mul (show(i:Int)<=200 by omega) (show(i:Int)<=200 by omega) j0 (by decide)) (by decide)
   have j3:0<=(i:Int)* (i:Int):=Int.mul_nonneg j0 j0
   exact⟨jq,m4 (by omega) (by omega),by decide,by decide,by decide,by decide,λr r0 r1=>⟨by decide,λq5 X9 K9 JH e11=>kq _ _ K9 ⟨q5,r,rfl,e11⟩⟩⟩
  intro ys H9 s9 ly hy D9 La JH
  have Yb:=s9.trans (au (o:=.lst ys) JH)
  have Yc:(upd H9 D9 (.lst ys)) D9=some (.lst ys):=ar
  have M8:∀(i:Nat) y,ys[i]?=some y->∃tt a,y=.ref tt/\(upd H9 D9 (.lst ys)) tt=some (.tup [.int a,.int ((i:Nat):Int)]):=λi y e=>by
   refine(?_:let G_:Prop:=_;G_)
   intro G_
   obtain⟨tt,a,e1,e2⟩:=hy i y e
   dsimp only[G_]
   exact⟨tt,a,e1,au JH _ _ e2⟩
  generalize upd H9 D9 (.lst ys)=Di at *
  have each:∀y∈ys,∃tt a b',y=.ref tt/\Di tt=some (.tup [.int a,.int b']):=λy Yd=>by
   obtain⟨i,ei⟩:=aaw Yd
   refine(?_:let G_:Prop:=_;G_)
   intro G_
   obtain⟨tt,a,e1,e2⟩:=M8 i y ei
   dsimp only[G_]
   exact⟨tt,a,_,e1,e2⟩
  have ly:ys.length=N:=by simpa using ly
  refine⟨ys,aZ.of Yc,by omega,each,λl11 zs Ye pz=>?_⟩
  have hg:∃g:V->Nat,g=λv=>match v with | .ref tt=>(match Di tt with | some (.tup [_,.int i])=>i.toNat | _=>0) | _=>0:=⟨_,rfl⟩
  obtain⟨g,hg⟩:=hg
  have gy:∀(i:Nat) y,ys[i]?=some y->g y=i:=λi y e=>by
   refine(?_:let G_:Prop:=_;G_)
   intro G_
   obtain⟨tt,a,rfl,e2⟩:=M8 i y e
   dsimp only[G_]
   rw[hg]
   simp only[e2,aah]
  have mg:ys.map g=List.range N:=by
   apply aaS
   intro i
   rw[aad]
   by_cases hi:i<N
   ·rw[aa0 hi,aac (show i<ys.length by omega)]
    show some (g _)=_
    rw[gy i _ (aac (by omega))]
   ·rw[aaq (show(List.range N).length<=i by rw[aaz];omega),aaq (show ys.length<=i by omega)]
    rfl
  have pm:(zs.map g).Perm (List.range N):=by rw[<-mg];exact pz.map g
  have zl:zs.length=N:=by rw[pz.length_eq];omega
  have ez:∀z∈zs,∃tt a,z=.ref tt/\Di tt=some (.tup [.int a,.int ((g z:Nat):Int)]):=λz hz=>by
   obtain⟨i,ei⟩:=aaw (pz.mem_iff.mp hz)
   refine(?_:let G_:Prop:=_;G_)
   intro G_
   obtain⟨tt,a,e1,e2⟩:=M8 i z ei
   dsimp only[G_]
   exact⟨tt,a,e1,by rw[gy i z ei];exact e2⟩
  have K9:=au (o:=.lst zs) Ye
  have UX:(upd Di l11 (.lst zs)) l11=some (.lst zs):=ar
  generalize upd Di l11 (.lst zs)=X9 at *
  refine⟨⟨_,aZ.of UX⟩,?_⟩
  refine dF zs (λz=>some ((g z:Nat):Int)) (src_list (K:=K) (λH' s'=>aZ.of (s' _ _ UX))) (λ_ _ _ _ h=>h.1) (by rw[sizeLine_eq];omega) ?_ ?_
  ·rintro i1 z x eg ⟨_,ex⟩ Y N1 y1 n1
   rw[eg] at ex
   cases ex
   refine(?_:let G_:Prop:=_;G_)
   intro G_
   obtain⟨tt,a,rfl,e2⟩:=ez z (aaf eg)
   dsimp only[G_]
   simp_all only[gK,K9 _ _ e2]
   exact y1 _ rfl
  intro D12 n13 UY
  rw[d8]
  have e12:List.map V.int (zs.map λz=>((g z:Nat):Int))=List.map eM (zs.map g):=by rw[aaM,aaM];rfl
  rw[e12]
  have UZ:=Yb.trans K9
  exact kk _ _ _ (UZ.trans (au UY)) (none_of UZ UY) ar pm
theorem iG:aN ["_law_cell_here","_law_k","_law_n","_law_ways_here","_law_j","_law_weight","_law_sure"] ["_law_cell_here","_law_k","_law_n"] (ae (top 54)):=⟨rfl,rfl,rfl,by decide +kernel,rfl,by decide +kernel,by decide +kernel⟩
theorem Gr (T:Txt K mg aA tc):bX P w K mg base (bQ P w) 2 "_law_throw" ["_law_cell_here","_law_k","_law_n"] AG:=by
 have aW:bX P w K mg base (bQ P w) 1 "_law_mixed" ["_law_cell_here","_law_many"] gc:=rL T
 refine T.qO.eD (λ_ _ _ _ _ _=>qR λ_ _ _=>rfl) λf fd F=>F.eL iG (λvs H Q E h=>?_) (λcK A outer s H vs Q E hr h=>?_)
 ·obtain⟨_,_,_,rfl,_⟩:=h;rfl
 ·refine(?_:let G_:Prop:=_;G_)
  intro G_
  obtain⟨c,k,n,rfl,k0,kn,kk⟩:=h
  dsimp only[G_]
  have nd:=iG.nd
  refine⟨_,(ag (aF (i:=3) nd rfl (Or.inl rfl) (cQ af))
  (ag (cz PassesOwn.never rfl (di rfl T.z_range (aa (aH aW (hr.mono (by decide)) rfl aB.pass (aa (aD br (pv 0) ao) (aa ao af (se rfl)) (se rfl)) (he:=se rfl) (hpl:=na rfl)) af (se rfl))) (aE (i:=4) nd rfl (Or.inl rfl)) (ag (aF (i:=5) nd rfl (Or.inl rfl) (aD br ao (aH aW (hr.mono (by decide)) rfl aB.pass (aa (aD br (pv 0) (aD bo ao (pv 4))) (aa ao af (se rfl)) (se rfl)) (he:=se rfl) (hpl:=na rfl))))
  (ag (bW (aQ cV (aH aW (hr.mono (by decide)) rfl aB.pass (aa (aD br (pv 0) ao) (aa ao af (se rfl)) (se rfl)) (he:=se rfl) (hpl:=na rfl)) ao (aV _)) (ax (aF (i:=5) nd rfl (Or.inl rfl) (aD br ao (aH aW (hr.mono (by decide)) rfl aB.pass (aa (aD br (pv 0) (aD bo ao (pv 4))) (aa ao af (se rfl)) (se rfl)) (he:=se rfl) (hpl:=na rfl)))))
   bC)
  (ax (cF (dD aaE aaN aaO bS.r (pv 3) (aa (bH (aa (pv 5) (aa (aH aW (hr.mono (by decide)) rfl aB.pass (aa (aD br (aD br (pv 0) (aD bo ao (pv 4))) ao) (aa (pv 2) af (se rfl)) (se rfl)) (he:=se rfl) (hpl:=na rfl)) af (se rfl)) (se rfl))) af (se rfl))))))))
  (ag (aF (i:=6) nd rfl (Or.inl rfl) (bH (aa (aD br ao (aH aW (hr.mono (by decide)) rfl aB.pass (aa (aD br (pv 0) ao) (aa ao af (se rfl)) (se rfl)) (he:=se rfl) (hpl:=na rfl))) (aa (aH aW (hr.mono (by decide)) rfl aB.pass (aa (aD br (pv 0) ao) (aa (pv 1) af (se rfl)) (se rfl)) (he:=se rfl) (hpl:=na rfl)) af (se rfl)) (se rfl))))
  (ag (cF (dD aaE PySem.F.slot_list_insert PySem.F.type_list_insert xZ.r (pv 3) (aa (aH aW (hr.mono (by decide)) rfl aB.pass (aa (aD br (pv 0) ao) (aa (aD br (ba bD (by rfl) T.z_len aaA (aa (pv 3) af (se rfl)) (he:=se rfl) (hpl:=na rfl)) ao) af (se rfl)) (se rfl)) (he:=se rfl) (hpl:=na rfl)) (aa (pv 6) af (se rfl)) (se rfl))))
  (ax (aT (pv 3))))))),?_⟩
  refine(?_:let cu:TS:=_;let cv:TS:=_;let cw:TS:=_;let dQ:TS:=_;let jF:TS:=_;tSeq cu (tSeq cv (tSeq cw (tSeq dQ jF))) _ _ _)
  intro cu cv cw dQ jF
  simp_all only[gc]
  refine⟨aar _,λp np=>⟨by decide,λr r0 r1=>⟨by omega,by omega,?_⟩⟩⟩
  refine bN (src_range (Ok:=λ_=>True)) (λi σ H'=>az H H'/\∃xs z4 z5,H' p=some (.lst xs)/\xs.length=i/\(∀x∈xs,WT H' n x)/\σ=[some (.int c),some (.int k),some (.int n),some (V.ref p),z4,z5,none])
   ⟨au np,[],_,_,ar,rfl,by simp,rfl⟩ (λ_ _ _ _ _=>trivial) ?_ ?_
  ·intro i x σ H1 H2 hi dI dR
   refine(?_:let G_:Prop:=_;G_)
   intro G_
   obtain⟨sm,xs,z4,z5,hp,lx,wx,rfl⟩:=dI
   obtain⟨rfl,rfl⟩:=dR
   dsimp only[G_]
   simp_all only[gc]
   have sz:xs.length<sizeLine:=by rw[sizeLine_eq];omega
   have fin:∀w t p1 H3,az H2 H3->H2 p1=none->H3 p1=some (.tup [.int w,.int t])->(1<=w/\w<=200000)->0<=t->t<n->az H (upd H3 p (.lst (xs++ [V.ref p1])))/\∃iy,upd H3 p (.lst (xs++ [V.ref p1])) p=some (.lst iy)/\iy.length=i+1/\(∀x∈iy,WT (upd H3 p (.lst (xs++ [V.ref p1]))) n x):=λw t p1 H3 s3 n3 e3 w0 t0 t1=>by
    refine⟨aX (sm.trans s3) np,_,ar,by simp [lx],λx hx=>?_⟩
    have U0:=s3 _ _ hp
    rcases List.mem_append.mp hx with hx | hx
    ·exact((wx x hx).mono s3).put U0
    ·rw[List.mem_singleton.mp hx]
     exact WT.put U0 ⟨p1,w,t,rfl,e3,w0,t0,t1⟩
   have go:∀w:Int,(1<=w/\w<=200000)->LD K "list" (V.ref p) H2/\IntMulOk 29 (0+ (i:Int))/\0<n/\∀t,0<=t->t<n->2<=sizeLine/\∀p1 H3,az H2 H3->H2 p1=none->H3 p1=some (.tup [.int w,.int t])->cG (V.ref p) [V.ref p1] H3 λ_ H'=>az H H'/\∃iy,H' p=some (.lst iy)/\iy.length=i+1/\(∀x∈iy,WT H' n x)/\∃x,some (V.int w)=x:=λw w0=>
    ⟨.inl ⟨rfl,_,aZ.of hp⟩,cR,by omega,λt t0 t1=>⟨by decide,λp1 H3 s3 n3 e3=>⟨p,xs,_,rfl,rfl,s3 _ _ hp,sz,let ⟨a,iy,b,c,d⟩:=fin w t p1 H3 s3 n3 e3 w0 t0 t1;⟨a,iy,b,c,d,_,rfl⟩⟩⟩⟩
   refine⟨cR,by decide,λr r0 r1=>⟨by decide,λr2 _ _=>gI (λ_=>⟨cR,by decide,λr3 r30 r31=>?_⟩) (λ_=>?_)⟩⟩
   ·exact go _ ⟨by omega,by omega⟩
   ·exact go _ ⟨by omega,by omega⟩
  ·intro σ H1 bK
   refine(?_:let G_:Prop:=_;G_)
   intro G_
   obtain⟨sm,xs,z4,z5,hp,lx,wx,rfl⟩:=bK
   dsimp only[G_]
   simp_all only[gc,Ic,tBM]
   have sz:xs.length<sizeLine:=by rw[sizeLine_eq];omega
   refine⟨by decide,λw w0 w1=>⟨k0,λt t0 t1=>⟨by decide,λp1 H2 s2 n2 e2=>?_⟩⟩⟩
   have rR:=s2 _ _ hp
   refine⟨.inl ⟨rfl,_,aZ.of rR⟩,xs,rR,by omega,λr r0 r1=>⟨xs,rR,r0,by omega,sz,kk p _ _ (aX (sm.trans s2) np) ar (λx hx=>?_) ⟨_,aaH _ aai,WT.put rR ⟨p1,_,t,rfl,e2,⟨by omega,by omega⟩,t0,t1⟩⟩ (by rw[aaD,aap];omega) (by simp;omega)⟩⟩
   rcases List.mem_append.mp hx with hx | hx
   ·exact((wx x (List.mem_of_mem_take hx)).mono s2).put rR
   ·rcases List.mem_cons.mp hx with rfl | hx
    ·exact WT.put rR ⟨p1,_,t,rfl,e2,⟨by omega,by omega⟩,t0,by omega⟩
    ·exact((wx x (List.mem_of_mem_drop hx)).mono s2).put rR
theorem jJ:aN ["_law_board_here","_law_found","_law_what"] ["_law_board_here"] (ae (top 57)):=⟨rfl,rfl,rfl,by decide +kernel,rfl,by decide +kernel,by decide +kernel⟩
theorem Gs (T:Txt K mg aA tc):bX P w K mg base (bQ P w) 1 "_law_copy" ["_law_board_here"] vB:=by
 refine T.tE.eD (λ_ _ _ _ _ _=>ik λ_=>rfl) λf fd F=>F.eL jJ (λvs H Q E h=>?_) (λcK A outer s H vs Q E hr h=>?_)
 ·obtain⟨_,_,rfl,_⟩:=h;rfl
 ·refine(?_:let G_:Prop:=_;G_)
  intro G_
  obtain⟨a,b,rfl,rb,bl,kk⟩:=h
  dsimp only[G_]
  have nd:=jJ.nd
  refine⟨_,(ag (aF (i:=1) nd rfl (Or.inl rfl) (cQ af))
  (ag (cz PassesOwn.never rfl (bj (K:=K) (pv 0)) (aE (i:=2) nd rfl (Or.inl rfl)) (ax (bW (aQ cV (aI aK (pv 2) ao (λ_ _=>rfl)) cJ (aV _)) (ax (cF (dD aaE aaN aaO bS.r (pv 1) (aa (pv 2) af (se rfl)))))
   (ax (cF (dD aaE aaN aaO bS.r (pv 1) (aa (bH (aa (aI aK (pv 2) ao (λ_ _=>rfl)) (aa (aI aK (pv 2) ao (λ_ _=>rfl)) (aa (dE (cP (K:=K)) (by rfl) T.z_list rfl (aa (aI aK (pv 2) ao (λ_ _=>rfl)) af (se rfl)) (he:=se rfl) (hpl:=na rfl)) af (se rfl)) (se rfl)) (se rfl))) af (se rfl))))))))
  (ax (aT (pv 1))))),?_⟩
  refine(?_:let cu:TS:=_;let cv:TS:=_;let cw:TS:=_;tSeq cu (tSeq cv cw) _ _ _)
  intro cu cv cw
  refine(?_:let G_:Prop:=_;G_)
  intro G_
  obtain⟨_,xs,e,ha,rl⟩:=aO.mp rb
  dsimp only[G_]
  cases e
  have lx:=rl.length
  rw[aab] at lx
  simp_all only[]
  refine⟨aar _,λp np=>?_⟩
  have s0:=au (o:=.lst []) np
  refine⟨⟨_,aZ.of (s0 _ _ ha)⟩,bN (src_list (Ok:=az H) (λH2 s2=>aZ.of (s2 _ _ ha)))
   (λi σ H'=>az H H'/\∃ys z2,H' p=some (.lst ys)/\aY (cE H' p) ((b.take i).map iS) ys/\σ=[some (V.ref a),some (V.ref p),z2])
   ⟨s0,[],_,ar,by simp [aY],rfl⟩ (λ_ _ _ _ h=>h.1) ?_ ?_⟩
  ·intro i v σ H1 H2 hi dI dR
   refine(?_:let G_:Prop:=_;G_)
   intro G_
   obtain⟨sm,ys,z2,hp,ry,rfl⟩:=dI
   obtain⟨rfl,ex⟩:=dR
   obtain⟨q,eq,rq⟩:=cY rl ex
   dsimp only[G_]
   have ly:=ry.length
   rw[aab,aaQ] at ly
   have tk:b.take (i+1)=b.take i++ [q]:=by rw[aaC,eq];rfl
   have sz:ys.length<sizeLine:=by rw[sizeLine_eq];omega
   have fin:∀H3 v',az H2 H3->Rep (cE H3 p) (iS q) v'->az H (upd H3 p (.lst (ys++ [v'])))/\∃oM,upd H3 p (.lst (ys++ [v'])) p=some (.lst oM)/\aY (cE (upd H3 p (.lst (ys++ [v']))) p) ((b.take (i+1)).map iS) oM/\∃x,some v=x:=λH3 v' s3 r3=>by
    refine⟨aX (sm.trans s3) np,_,ar,?_,_,rfl⟩
    rw[tk,aau,aas,aaK]
    exact jt (ry.mono (bF s3)) r3
   have rx:=rq.mono sm
   cases q with
   | fin w=>
    refine(?_:let G_:Prop:=_;G_)
    intro G_
    obtain⟨t',r,rfl,iu,_⟩:=cM.mp rx
    dsimp only[G_]
    simp_all only[iu,cG,tBM]
    exact⟨.inl ⟨rfl,_,aZ.of hp⟩,_,hp,sz,fin H2 _ (az.refl _) (rq.mono (c7 sm np))⟩
   | cL w ws=>
    refine(?_:let G_:Prop:=_;G_)
    intro G_
    obtain⟨t',r,l,zs,rfl,Gk,t6,Ca,rz⟩:=cm.mp rq
    dsimp only[G_]
    have iu:=sm _ _ Gk
    have oH:=sm _ _ Ca
    simp_all only[iu]
    rw[if_neg (by decide +kernel)]
    simp_all only[cG,tBM,iu]
    refine⟨.inl ⟨rfl,_,aZ.of hp⟩,_,.inl (aZ.of oH),λm nm=>⟨by decide,λu H4 s4 nu eu=>?_⟩⟩
    have s3:=(au (o:=.lst zs) nm).trans s4
    have Gu:m≠p:=λz=>by rw[z,hp] at nm;cases nm
    have JI:u≠p:=λz=>by rw[z,au (o:=.lst zs) nm _ _ hp] at nu;cases nu
    have sh:=c7 (sm.trans s3) np
    exact⟨_,s3 _ _ hp,sz,fin H4 _ s3 (cm.mpr ⟨u,r,m,zs,rfl,by rw[bz JI];exact eu,sh _ _ t6,by rw[bz Gu];exact s4 _ _ ar,rz.mono sh⟩)⟩
   | bJ w to=>
    refine(?_:let G_:Prop:=_;G_)
    intro G_
    obtain⟨t',l,rfl,iu,oH⟩:=cC.mp rx
    dsimp only[G_]
    simp_all only[iu]
    rw[if_neg (by decide +kernel)]
    simp_all only[cG,tBM,iu]
    refine⟨.inl ⟨rfl,_,aZ.of hp⟩,_,.inl (aZ.of oH),λm nm=>⟨by decide,λu H4 s4 nu eu=>?_⟩⟩
    have s3:=(au (o:=.lst (List.map V.int to)) nm).trans s4
    have Gu:m≠p:=λz=>by rw[z,hp] at nm;cases nm
    have JI:u≠p:=λz=>by rw[z,au (o:=.lst (List.map V.int to)) nm _ _ hp] at nu;cases nu
    exact⟨_,s3 _ _ hp,sz,fin H4 _ s3 (cC.mpr ⟨u,m,rfl,by rw[bz JI];exact eu,by rw[bz Gu];exact s4 _ _ ar⟩)⟩
  ·intro σ H1 bK
   refine(?_:let G_:Prop:=_;G_)
   intro G_
   obtain⟨sm,ys,z2,hp,ry,rfl⟩:=bK
   dsimp only[G_]
   simp_all only[]
   rw[aaG (by omega)] at ry
   exact kk p ys H1 sm np hp ry
theorem iH:aN ["_law_script","_law_at","_law_n","_law_turned_here","_law_board_here","_law_k","_law_cell_here","_law_kind","_law_ways_here"] ["_law_script","_law_at","_law_n"] (ae (top 55)):=⟨rfl,rfl,rfl,by decide +kernel,rfl,by decide +kernel,by decide +kernel⟩
theorem Gv (T:Txt K mg aA tc):bX P w K mg base (bQ P w) 3 "_law_board" ["_law_script","_law_at","_law_n"] (DU K):=by
 have dq:bX P w K mg base (bQ P w) 1 "_law_cell" ["_law_script","_law_k"] (FK K):=xq T
 have aW:bX P w K mg base (bQ P w) 1 "_law_mixed" ["_law_cell_here","_law_many"] gc:=rL T
 have jK:bX P w K mg base (bQ P w) 2 "_law_share" ["_law_cell_here","_law_k"] AF:=Gp T
 have oZ:bX P w K mg base (bQ P w) 2 "_law_turned" ["_law_cell_here","_law_n"] AD:=Gq T
 have rN:bX P w K mg base (bQ P w) 2 "_law_throw" ["_law_cell_here","_law_k","_law_n"] AG:=Gr T
 refine T.qP.eD (λ_ _ _ _ _ _=>qR λ_ _ _=>rfl) λf fd F=>F.eL iH (λvs H Q E h=>?_) (λcK A outer s H vs Q E hr h=>?_)
 ·obtain⟨_,_,_,rfl,_⟩:=h;rfl
 ·refine(?_:let G_:Prop:=_;G_)
  intro G_
  obtain⟨a,ns,n,rfl,hS,n0,n8,kk⟩:=h
  dsimp only[G_]
  clear G_
  have nd:=iH.nd
  refine⟨_,(ag (aF (i:=3) nd rfl (Or.inr rfl) (aH oZ (hr.mono (by decide)) rfl aB.pass (aa (aH dq (hr.mono (by decide)) rfl aB.pass (aa (pv 0) (aa (pv 1) af (se rfl)) (se rfl)) (he:=se rfl) (hpl:=na rfl)) (aa (pv 2) af (se rfl)) (se rfl)) (he:=se rfl) (hpl:=na rfl)))
  (ag (fR (i:=4) rfl nd rfl rfl (N:=["_law_script","_law_at","_law_n","_law_turned_here","_law_board_here","_law_k","_law_cell_here","_law_kind","_law_ways_here"]) (so:=ae (top 55)) (N':=["_law_place"]) (k:=1) (fr:=[]) rfl rfl ⟨rfl,by decide +kernel,by decide +kernel,by decide +kernel,rfl,by decide +kernel,by decide +kernel⟩ (bj (K:=K) (pv 3)) (λ_ _ _ _ _=>(aE (i:=0) (show(["_law_place"]:List Str).Nodup by decide +kernel) rfl (Or.inl rfl))) (λ_ _ _ _ _=>bI)
   (λ_ _ _ _ _=>eV))
  (ag (cz PassesOwn.never rfl (di rfl T.z_range (aa (pv 2) af (se rfl))) (aE (i:=5) nd rfl (Or.inr rfl)) (ag (aF (i:=6) nd rfl (Or.inr rfl) (aH dq (hr.mono (by decide)) rfl aB.pass (aa (pv 0) (aa (aD br (aD br (pv 1) ao) (pv 5)) af (se rfl)) (se rfl)) (he:=se rfl) (hpl:=na rfl)))
  (ag (aF (i:=7) nd rfl (Or.inl rfl) (aH aW (hr.mono (by decide)) rfl aB.pass (aa (aD br (pv 6) ao) (aa ao af (se rfl)) (se rfl)) (he:=se rfl) (hpl:=na rfl)))
  (ax (bW (PW.pt (pw_or (aQ cV (pv 5) ao (aV _)) (pw_or1 (aQ cV (pv 7) ao (aV _))))) (ax (eB (bH (aa cJ (aa (aH jK (hr.mono (by decide)) rfl aB.pass (aa (pv 6) (aa (pv 5) af (se rfl)) (se rfl)) (he:=se rfl) (hpl:=na rfl)) af (se rfl)) (se rfl))) (fM (pv 4) (aI aL (pv 3) (pv 5) (λ_ _=>rfl)) set_list)))
   (ax (bW (aQ o8 (pv 7) ao (aV _)) (ag (fR (i:=8) rfl nd rfl rfl (N:=["_law_script","_law_at","_law_n","_law_turned_here","_law_board_here","_law_k","_law_cell_here","_law_kind","_law_ways_here"]) (so:=ae (top 55)) (N':=["_law_weight","_law_to","_law_turned_here"]) (k:=2) (fr:=[3]) rfl rfl ⟨rfl,by decide +kernel,by decide +kernel,by decide +kernel,rfl,by decide +kernel,by decide +kernel⟩ (bj (K:=K) (aH rN (hr.mono (by decide)) rfl aB.pass (aa (pv 6) (aa (pv 5) (aa (pv 2) af (se rfl)) (se rfl)) (se rfl)) (he:=se rfl) (hpl:=na rfl))) (λ_ _ _ _ _=>(b9 (K:=K) (n:=2) rfl (aS (aE (i:=0) (show(["_law_weight","_law_to","_law_turned_here"]:List Str).Nodup by decide +kernel) rfl (Or.inl rfl)) (aS (aE (i:=1) (show(["_law_weight","_law_to","_law_turned_here"]:List Str).Nodup by decide +kernel) rfl (Or.inl rfl)) b8)))) (λ_ _ _ _ _=>bI)
   (λ_ _ _ _ _=>(bH (aa (pv 0) (aa (aI aL (pv 2) (pv 1) (λ_ _=>rfl)) af (se rfl)) (se rfl)))))
  (ax (eB (bH (aa cJ (aa (aH jK (hr.mono (by decide)) rfl aB.pass (aa (pv 6) (aa (pv 5) af (se rfl)) (se rfl)) (he:=se rfl) (hpl:=na rfl)) (aa (pv 8) af (se rfl)) (se rfl)) (se rfl))) (fM (pv 4) (aI aL (pv 3) (pv 5) (λ_ _=>rfl)) set_list))))
   (ag (fR (i:=8) rfl nd rfl rfl (N:=["_law_script","_law_at","_law_n","_law_turned_here","_law_board_here","_law_k","_law_cell_here","_law_kind","_law_ways_here"]) (so:=ae (top 55)) (N':=["_law_j","_law_turned_here","_law_k","_law_cell_here"]) (k:=1) (fr:=[3,5,6]) rfl rfl ⟨rfl,by decide +kernel,by decide +kernel,by decide +kernel,rfl,by decide +kernel,by decide +kernel⟩ (di rfl T.z_range (aa (aD br ao (aH aW (hr.mono (by decide)) rfl aB.pass (aa (aD br (pv 6) ao) (aa ao af (se rfl)) (se rfl)) (he:=se rfl) (hpl:=na rfl))) af (se rfl))) (λ_ _ _ _ _=>(aE (i:=0) (show(["_law_j","_law_turned_here","_law_k","_law_cell_here"]:List Str).Nodup by decide +kernel) rfl (Or.inl rfl))) (λ_ _ _ _ _=>bI)
   (λ_ _ _ _ _=>(aI aL (pv 1) (aH aW (hr.mono (by decide)) rfl aB.pass (aa (aD br (pv 3) (aD bo ao (pv 0))) (aa (pv 2) af (se rfl)) (se rfl)) (he:=se rfl) (hpl:=na rfl)) (λ_ _=>rfl))))
  (ax (eB (bH (aa cJ (aa (aD br ao (aH aW (hr.mono (by decide)) rfl aB.pass (aa (aD br (pv 6) ao) (aa ao af (se rfl)) (se rfl)) (he:=se rfl) (hpl:=na rfl))) (aa (pv 8) af (se rfl)) (se rfl)) (se rfl))) (fM (pv 4) (aI aL (pv 3) (pv 5) (λ_ _=>rfl)) set_list)))))))))))
  (ax (aT (pv 4)))))),?_⟩
  refine(?_:let cu:TS:=_;let cv:TS:=_;let cw:TS:=_;let dQ:TS:=_;tSeq cu (tSeq cv (tSeq cw dQ)) _ _ _)
  intro cu cv cw dQ
  simp_all only[FK,AD]
  refine⟨ns,hS,by decide,by decide,λc=>⟨by omega,by omega,λl H1 sg s1 nl hl pm=>⟨⟨_,aZ.of hl⟩,?_⟩⟩⟩
  rw[aah] at pm
  have sl:sg.length=n:=by rw[pm.length_eq,aaz]
  subst sl
  refine comp_map (src_list (Ok:=az H1) (λH' s'=>aZ.of (s' _ _ hl))) (λ_ _ _ _ h=>by rw[h.1];exact az.refl _) (by rw[sizeLine_eq,aab];omega) (λi y H4=>y=.cB) (λi y H4 H5 s5 h=>h) ?_ ?_
  ·rintro i x w0 H4 H5 Q2 hi s4 ⟨rfl,ex⟩ kq
   simp_all only[]
   exact kq _ _ (az.refl _) rfl
  intro ys H2 s2 ly hy m n1 n2
  rw[aab] at ly
  have s3:az H1 (upd H2 m (.lst ys)):=s2.trans (au n2)
  have nm:H m=none:=none_of (s1.trans s2) n2
  have Ju:(upd H2 m (.lst ys)) m=some (.lst ys):=ar
  generalize upd H2 m (.lst ys)=H3 at *
  refine⟨by omega,by omega,bN (src_range (Ok:=λ_=>True)) (λi σ H'=>az H1 H'/\∃xs z5 z6 z7 z8,H' m=some (.lst xs)/\xs.length=sg.length/\(∃qs:Nat->Pl,∀j k,j<i->sg[j]?=some k->AE sg j (qs k)/\∃v,xs[k]?=some v/\Rep (cE H' m) (iS (qs k)) v)/\σ=[some (V.ref a),some (V.int 2),some (V.int (sg.length:Int)),some (V.ref l),some (V.ref m),z5,z6,z7,z8])
   ⟨s3,ys,_,_,_,_,Ju,by omega,⟨λ_=>.fin (0,1),λj k hj=>absurd hj (aba _)⟩,rfl⟩ (λ_ _ _ _ _=>trivial) ?_ ?_⟩
  ·intro i x σ H4 H5 hi dI dR
   refine(?_:let G_:Prop:=_;G_)
   intro G_
   obtain⟨s4,xs,z5,z6,z7,z8,hm,lx,⟨qs,gx⟩,rfl⟩:=dI
   obtain⟨rfl,rfl⟩:=dR
   dsimp only[G_]
   have hi:i<sg.length:=by have:i< ((sg.length:Nat):Int).toNat:=hi;omega
   obtain⟨k,hk⟩:∃k,sg[i]?=some k:=⟨_,aac hi⟩
   have kn:k<sg.length:=List.mem_range.mp (pm.mem_iff.mp (aaf hk))
   have at_:∀t:Int,0<=t->t< (sg.length:Int)->∃k':Nat,k'<sg.length/\sg[t.toNat]?=some k'/\fH (List.map eM sg) t=some (V.int (k':Int)):=λt t0 t1=>by
    obtain⟨j,rfl⟩:=aav t0
    obtain⟨k',Br⟩:∃k',sg[j]?=some k':=⟨_,aac (by omega)⟩
    exact⟨k',List.mem_range.mp (pm.mem_iff.mp (aaf Br)),by rw[aah];exact Br,ni (f:=eM) Br⟩
   have ak:fH (List.map eM sg) ((0:Int)+ (i:Int))=some (V.int (k:Int)):=by rw[Int.zero_add];exact ni (f:=eM) hk
   have kx:xN xs.length (k:Int)=some k:=by
    unfold xN
    rw[if_pos (by omega),if_pos (by omega)]
    simp
   have xm:=s4 _ _ hl
   have fin:∀H6 v q,az H5 H6->Rep (cE H6 m) (iS q) v->AE sg i q->az H1 (upd H6 m (.lst (xs.set k v)))/\∃iy,upd H6 m (.lst (xs.set k v)) m=some (.lst iy)/\iy.length=sg.length/\(∃qs:Nat->Pl,∀j k',j<i+1->sg[j]?=some k'->AE sg j (qs k')/\∃v',iy[k']?=some v'/\Rep (cE (upd H6 m (.lst (xs.set k v))) m) (iS (qs k')) v'):=λH6 v q s6 r6 g6=>by
    have sh:az (cE H6 m) (cE (upd H6 m (.lst (xs.set k v))) m):=c7 qD (if_pos rfl)
    refine⟨aX (s4.trans s6) (none_of s2 n2),_,ar,by rw[aaX];exact lx,λk'=>if k'=k then q else qs k',λj k' hj Br=>?_⟩
    by_cases ck:k'=k
    ·subst ck
     have ji:j=i:=Lv.zw pm Br hk
     subst ji
     dsimp only
     rw[if_pos rfl]
     exact⟨g6,v,by rw[aa3 (by omega)],r6.mono sh⟩
    ·have:j<i:=by
      by_cases cj:j=i
      ·subst cj
       rw[hk] at Br
       cases Br
       exact absurd rfl ck
      ·omega
     dsimp only
     rw[if_neg ck]
     refine(?_:let G_:Prop:=_;G_)
     intro G_
     obtain⟨g',v',e',r'⟩:=gx j k' this Br
     dsimp only[G_]
     exact⟨g',v',by rw[aaP (Ne.symm ck)];exact e',(r'.mono (bF s6)).mono sh⟩
   have Gw:∀{H6:Hp} {p:Addr},az H5 H6->H6 p=none->p≠m:=λs6 np z=>by rw[z,s6 _ _ hm] at np;cases np
   simp_all only[FK,gc,AF,AG]
   refine⟨ns,(s1.trans s4).seq hS,by omega,by omega,λcc=>⟨by decide,λkd kd0 kd1=>?_⟩⟩
   have um:(0:Int)+ (i:Int)< (sg.length:Int):=by omega
   have fe:∀(p:Addr) (H':Hp) (a:Int×Int),az H5 H'->H5 p=none->H' p=some (HO.tup [V.int a.fst,V.int a.snd])->GS a->∀(p1:Addr) (H6:Hp),az H' H6->H' p1=none->H6 p1=some (HO.tup [V.str (Str.ofString "end"),V.ref p])->Rep (cE H6 m) (iS (.fin a)) (.ref p1):=λp H' a s' n' e' _ p1 H6 s6 n6 e6=>by
    refine cM.mpr ⟨p1,p,rfl,?_,?_⟩
    ·rw[bz (Gw s' n6)];exact e6
    ·rw[bz (Gw (az.refl _) n')];exact s6 _ _ e'
   refine gI (λ_=>?_) (λc0=>gI (λ_=>?_) (λ_=>gI (λ_=>?_) (λ_=>?_)))
   ·refine⟨by omega,by omega,λp H6 w s6 n6 e6 g6=>⟨by decide,λp1 H7 s7 n7 e7=>?_⟩⟩
    refine(?_:let G_:Prop:=_;G_)
    intro G_
    obtain⟨x1,x2,x3,x4,x5⟩:=fin H7 (.ref p1) (.fin w) (s6.trans s7) (fe p H6 w s6 n6 e6 g6 p1 H7 s7 n7 e7) ⟨g6,trivial⟩
    dsimp only[G_]
    exact⟨_,(s6.trans s7) _ _ xm,_,ak,_,_,rfl,(s6.trans s7) _ _ hm,k,kx,x1,x2,x3,x4,x5,_,rfl⟩
   ·refine⟨by omega,by omega,λp H6 w s6 n6 e6 g6=>⟨by decide,λp1 H7 s7 n7 e7=>?_⟩⟩
    refine(?_:let G_:Prop:=_;G_)
    intro G_
    obtain⟨x1,x2,x3,x4,x5⟩:=fin H7 (.ref p1) (.fin w) (s6.trans s7) (fe p H6 w s6 n6 e6 g6 p1 H7 s7 n7 e7) ⟨g6,trivial⟩
    dsimp only[G_]
    exact⟨_,(s6.trans s7) _ _ xm,_,ak,_,_,rfl,(s6.trans s7) _ _ hm,k,kx,x1,x2,x3,x4,x5,_,rfl⟩
   ·refine⟨by omega,um,λt H6 ts s6 e6 w6 sure l0 l6=>⟨⟨_,aZ.of e6⟩,?_⟩⟩
    have C3:=s6 _ _ xm
    refine(?_:let G_:Prop:=_;G_)
    intro G_
    obtain⟨x0,Yg,Yh⟩:=sure
    dsimp only[G_]
    obtain⟨i0,U1⟩:=aaw Yg
    refine fj (K:=K) (src_list (Ok:=az H6) (λH' s'=>aZ.of (s' _ _ e6))) (λj a b H3=>∃w t,a=.int w/\b=.int t/\(1<=w/\w<=200000)/\0<=t/\t< (sg.length:Int)/\(j=i0->t< (i:Int))) (λj x H7 H8 hj s7 ⟨e,ex⟩=>?_) (by rw[sizeLine_eq];omega) (λj y H7=>∃q:Int×Int,Rep H7 (bB q) y/\(1<=q.1/\q.1<=200000/\0<=q.2/\q.2< (sg.length:Int))/\(j=i0->∃j',j'<i/\sg[j']?=some q.2.toNat)) (λj y H7 H8 s8 ⟨q,r,z⟩=>⟨q,r.mono s8,z⟩) ?_ ?_
    ·subst e
     refine(?_:let G_:Prop:=_;G_)
     intro G_
     obtain⟨q,w,t',rfl,hq,w0,t0,t1⟩:=w6 x (aaf ex)
     dsimp only[G_]
     refine⟨az.refl _,q,_,_,rfl,d6.of (s7 _ _ hq),w,t',rfl,rfl,w0,t0,t1,λz=>?_⟩
     subst z
     rw[U1] at ex
     cases ex
     refine(?_:let G_:Prop:=_;G_)
     intro G_
     obtain⟨q2,w2,t2,e2,zb,_,_,t12⟩:=Yh
     dsimp only[G_]
     cases e2
     rw[hq] at zb
     cases zb
     omega
    ·intro j a b H7 Q7 hj s7 dR kq
     refine(?_:let G_:Prop:=_;G_)
     intro G_
     obtain⟨w,t',rfl,rfl,w0,t0,t1,t2⟩:=dR
     obtain⟨k',k1',zu,M9⟩:=at_ t' t0 t1
     dsimp only[G_]
     simp_all only[s7 _ _ C3,M9]
     exact⟨by decide,λq H8 s8 n8 e8=>kq _ _ s8 ⟨(w,(k':Int)),bV.mpr ⟨q,rfl,e8⟩,⟨w0.1,w0.2,by show(0:Int)<=(k':Int);omega,by show(k':Int)< (sg.length:Int);omega⟩,λz=>⟨t'.toNat,by have:=t2 z;omega,zu⟩⟩⟩
    ·intro us H7 s7 lu hu D n8 n9
     refine(?_:let G_:Prop:=_;G_)
     intro G_
     obtain⟨ws,qg,lw,U2⟩:=CU (f:=bB) (P:=λj (q:Int×Int)=>(1<=q.1/\q.1<=200000/\0<=q.2/\q.2< (sg.length:Int))/\(j=i0->∃j',j'<i/\sg[j']?=some q.2.toNat)) (H:=H7) (xs:=us) λj x ex=>hu j x ex
     dsimp only[G_]
     refine⟨by omega,by omega,λp H9 w s9 La e9 g9=>⟨by decide,λp1 Di Lb JH e10=>?_⟩⟩
     have U3:=s6.trans (s7.trans ((au (o:=.lst us) n9).trans s9))
     have Gx:=U3.trans Lb
     have mD:D≠m:=Gw (s6.trans s7) n9
     have mp:p≠m:=Gw (s6.trans (s7.trans (au (o:=.lst us) n9))) La
     have Na:p1≠m:=Gw U3 JH
     have rm:aY (cE Di m) (ws.map bB) us:=by
      refine cZ lw.symm λj y ey q eq=>?_
      refine(?_:let G_:Prop:=_;G_)
      intro G_
      obtain⟨d,ed,rd⟩:=qg.get ey
      dsimp only[G_]
      rw[aad,eq] at ed
      cases ed
      refine(?_:let G_:Prop:=_;G_)
      intro G_
      obtain⟨tt,rfl,Nb⟩:=bV.mp rd
      dsimp only[G_]
      refine bV.mpr ⟨tt,rfl,?_⟩
      have h1:=(s6.trans s7) _ _ hm
      rw[bz (λz=>by rw[z,h1] at Nb;cases Nb)]
      exact Lb _ _ (s9 _ _ (au n9 _ _ Nb))
     have li:i0<ws.length:=by have:=(List.getElem?_eq_some_iff.mp U1).1;omega
     have ld:AE sg i (.cL w ws):=by
      refine⟨⟨g9,by omega,by omega,λx hx=>?_⟩,ws[i0],aan li,(U2 i0 _ (aac li)).2 rfl⟩
      obtain⟨j,ej⟩:=aaw hx
      exact(U2 j x ej).1
     obtain⟨x1,x2,x3,x4,x5⟩:=fin Di (.ref p1) (.cL w ws) Gx (cm.mpr ⟨p1,p,D,us,rfl,by rw[bz Na];exact e10,by rw[bz mp];exact Lb _ _ e9,by rw[bz mD];exact Lb _ _ (s9 _ _ ar),rm⟩) ld
     exact⟨_,Gx _ _ xm,_,ak,_,_,rfl,Gx _ _ hm,k,kx,x1,x2,x3,x4,x5,_,rfl⟩
   ·refine⟨by decide,λr r0 r1=>⟨by omega,by omega,?_⟩⟩
    refine comp_map src_range (λ_ _ _ _ h=>by rw[h.1];exact az.refl _) (by rw[sizeLine_eq];omega) (λj y H4=>∃t,y=.int t/\0<=t/\t< (sg.length:Int)/\∃j',j'<i/\sg[j']?=some t.toNat) (λi y H4 H5 s5 h=>h) ?_ ?_
    ·rintro j x w0 H6 H7 Q7 hj s6 ⟨rfl,rfl⟩ kq
     simp_all only[gc,s6 _ _ xm]
     refine⟨cR,by omega,λt t0 t1=>?_⟩
     refine(?_:let G_:Prop:=_;G_)
     intro G_
     obtain⟨k',k1,zu,M9⟩:=at_ t t0 (by omega)
     dsimp only[G_]
     exact⟨_,M9,kq _ _ (az.refl _) ⟨_,rfl,by omega,by omega,t.toNat,by omega,by rw[aah];exact zu⟩⟩
    ·intro us H6 s6 lu hu D n8 n9
     obtain⟨to,rfl⟩:∃to:List Int,us=to.map V.int:=by
      refine⟨us.map λv=>match v with | .int t=>t | _=>0,?_⟩
      rw[aaM]
      apply aaS
      intro j
      rw[aad]
      cases ej:us[j]? with
      | none=>rfl
      | some y=>
       refine(?_:let G_:Prop:=_;G_)
       intro G_
       obtain⟨t,rfl,_⟩:=hu j y ej
       dsimp only[G_]
       rfl
     refine⟨by decide,λr' r0' G7=>⟨by decide,λp1 H7 s7 La e7=>?_⟩⟩
     have Bv:=s6.trans ((au (o:=.lst (List.map V.int to)) n9).trans s7)
     have mD:D≠m:=Gw s6 n9
     have Na:p1≠m:=Gw (s6.trans (au (o:=.lst (List.map V.int to)) n9)) La
     rw[aab] at lu
     have gt:∀g∈to,0<=g/\g< (sg.length:Int)/\∃j',j'<i/\sg[j']?=some g.toNat:=λg hg=>by
      obtain⟨j,ej⟩:=aaw hg
      obtain⟨t,e,t0,t1,t2⟩:=hu j (.int g) (by rw[aad,ej];rfl)
      cases e
      exact⟨t0,t1,t2⟩
     obtain⟨x1,x2,x3,x4,x5⟩:=fin H7 (.ref p1) (.bJ (1+r') to) Bv (cC.mpr ⟨p1,D,rfl,by rw[bz Na];exact e7,by rw[bz mD];exact s7 _ _ ar⟩) ⟨⟨by omega,by omega,by omega,λg hg=>⟨(gt g hg).1,(gt g hg).2.1⟩⟩,λg hg=>(gt g hg).2.2⟩
     exact⟨_,Bv _ _ xm,_,ak,_,_,rfl,Bv _ _ hm,k,kx,x1,x2,x3,x4,x5,_,rfl⟩
  ·intro σ H4 bK
   refine(?_:let G_:Prop:=_;G_)
   intro G_
   obtain⟨s4,xs,z5,z6,z7,z8,hm,lx,⟨qs,gx⟩,rfl⟩:=bK
   dsimp only[G_]
   simp_all only[]
   have mG:∀x∈sg,x<sg.length:=λx hx=>List.mem_range.mp (pm.mem_iff.mp hx)
   have lq:((List.range sg.length).map qs).length=sg.length:=by rw[aab,aaz]
   refine kk m H4 ((List.range sg.length).map qs) _ (s1.trans s4) nm (aO.mpr ⟨m,xs,rfl,hm,cZ (by rw[lq];exact lx) λp y ey q eq=>?_⟩) lq (IB pm n0 n8 lq λk p q ek eq=>?_)
   ·have hp:p<sg.length:=by have:=(List.getElem?_eq_some_iff.mp ey).1;omega
    rw[aad,aa0 hp] at eq
    cases eq
    obtain⟨j,ej⟩:=aaw (pm.mem_iff.mpr (List.mem_range.mpr hp))
    obtain⟨_,v,ev,rv⟩:=gx j p (by have:=(List.getElem?_eq_some_iff.mp ej).1;simpa using this) ej
    rw[ey] at ev
    cases ev
    exact rv.mono bO
   ·have hp:=mG p (aaf ek)
    rw[aad,aa0 hp] at eq
    cases eq
    exact(gx k p (by have:=(List.getElem?_eq_some_iff.mp ek).1;simpa using this) ek).1
theorem iI:aN ["_law_board_here","_law_found","_law_what","_law_number"] ["_law_board_here"] (ae (top 61)):=⟨rfl,rfl,rfl,by decide +kernel,rfl,by decide +kernel,by decide +kernel⟩
theorem Gy (T:Txt K mg aA tc):bX P w K mg base (bQ P w) 2 "_law_small" ["_law_board_here"] AN:=by
 have dh:bX P w K mg base (bQ P w) 1 "_law_low" ["_law_top","_law_bottom"] iz:=rM T
 refine T.qQ.eD (λ_ _ _ _ _ _=>ik λ_=>rfl) λf fd F=>F.eL iI (λvs H Q E h=>?_) (λcK A outer s H vs Q E hr h=>?_)
 ·obtain⟨_,_,_,rfl,_⟩:=h;rfl
 ·refine(?_:let G_:Prop:=_;G_)
  intro G_
  obtain⟨a,b,rk,rfl,rb,B,l8,kk⟩:=h
  dsimp only[G_]
  have nd:=iI.nd
  refine⟨_,(ag (aF (i:=1) nd rfl (Or.inl rfl) (cQ af))
  (ag (cz PassesOwn.never rfl (bj (K:=K) (pv 0)) (aE (i:=2) nd rfl (Or.inl rfl)) (ax (bW (aQ cV (aI aK (pv 2) ao (λ_ _=>rfl)) cJ (aV _)) (ax (cF (dD aaE aaN aaO bS.r (pv 1) (aa (pv 2) af (se rfl)))))
   (ag (aF (i:=3) nd rfl (Or.inl rfl) (aH dh (hr.mono (by decide)) rfl aB.pass (aa (aD iK (aD cH (aI aK (aI aK (pv 2) ao (λ_ _=>rfl)) ao (λ_ _=>rfl)) ao) ao) (aa (aD br ao (aD cH (aI aK (aI aK (pv 2) ao (λ_ _=>rfl)) ao (λ_ _=>rfl)) ao)) af (se rfl)) (se rfl)) (he:=se rfl) (hpl:=na rfl)))
  (ax (cF (dD aaE aaN aaO bS.r (pv 1) (aa (aD (zi (K:=K)) (bH (aa (aI aK (pv 2) ao (λ_ _=>rfl)) (aa (pv 3) af (se rfl)) (se rfl))) (mV EA (pv 2) (qp ao) qo)) af (se rfl)))))))))
  (ax (aT (pv 1))))),?_⟩
  refine(?_:let cu:TS:=_;let cv:TS:=_;let cw:TS:=_;tSeq cu (tSeq cv cw) _ _ _)
  intro cu cv cw
  have sl:=sizeLine_eq
  refine(?_:let G_:Prop:=_;G_)
  intro G_
  obtain⟨_,xs,e,ha,rl⟩:=aO.mp rb
  dsimp only[G_]
  cases e
  have lx:=rl.length
  rw[aab] at lx
  simp_all only[]
  refine⟨aar _,λp np=>?_⟩
  have s0:=au (o:=.lst []) np
  refine⟨⟨_,aZ.of (s0 _ _ ha)⟩,bN (src_list (Ok:=az H) (λH2 s2=>aZ.of (s2 _ _ ha)))
   (λi σ H'=>az H H'/\∃(ys:List V) (b':List Pl) (z2 z3:Option V),H' p=some (.lst ys)/\aY (cE H' p) (b'.map iS) ys/\b'.length=i/\(∀(j:Nat) q',b'[j]?=some q'->DW q'/\∃q,b[j]?=some q/\oq q q'/\∀w to,q=.bJ w to->q'=q)/\σ=[some (V.ref a),some (V.ref p),z2,z3])
   ⟨s0,[],[],_,_,ar,by simp [aY],rfl,λj q' e=>by simp at e,rfl⟩ (λ_ _ _ _ h=>h.1) ?_ ?_⟩
  ·intro i v σ H1 H2 hi dI dR
   refine(?_:let G_:Prop:=_;G_)
   intro G_
   obtain⟨sm,ys,b',z2,z3,hp,ry,G8,xa,rfl⟩:=dI
   obtain⟨rfl,ex⟩:=dR
   obtain⟨q,eq,rq⟩:=cY rl ex
   dsimp only[G_]
   have ly:=ry.length
   rw[aab] at ly
   have Ui:=(List.getElem?_eq_some_iff.mp eq).1
   have sz:ys.length<sizeLine:=by omega
   have fin:∀H3 v' q',az H2 H3->Rep (cE H3 p) (iS q') v'->DW q'->oq q q'->(∀w to,q=.bJ w to->q'=q)->az H (upd H3 p (.lst (ys++ [v'])))/\∃oM,upd H3 p (.lst (ys++ [v'])) p=some (.lst oM)/\∃b2:List Pl,aY (cE (upd H3 p (.lst (ys++ [v']))) p) (b2.map iS) oM/\b2.length=i+1/\(∀(j:Nat) q',b2[j]?=some q'->DW q'/\∃q,b[j]?=some q/\oq q q'/\∀w to,q=.bJ w to->q'=q):=λH3 v' q' s3 r3 sq sw pk=>by
    refine⟨aX (sm.trans s3) np,_,ar,b'++ [q'],?_,by rw[aaD,G8];rfl,λj q2 e2=>?_⟩
    ·rw[aau,aas,aaK]
     exact jt (ry.mono (bF s3)) r3
    ·by_cases c:j<b'.length
     ·rw[aaW c] at e2
      exact xa j q2 e2
     ·rw[aaV (by omega)] at e2
      have:j - b'.length<1:=(List.getElem?_eq_some_iff.mp e2).1
      rw[show j - b'.length=0 by omega] at e2
      cases e2
      rw[show j=i by omega]
      exact⟨sq,q,eq,sw,pk⟩
   have rx:=rq.mono sm
   have pq:=B.ok _ (aaf eq)
   cases q with
   | fin w=>
    refine(?_:let G_:Prop:=_;G_)
    intro G_
    obtain⟨t',r,rfl,iu,t6⟩:=cM.mp rx
    dsimp only[G_]
    simp_all only[iu,t6,cG,tBM,iz]
    rw[if_neg (by decide +kernel)]
    have e1:=aaI w.2 (show(20:Int)≠0 by decide)
    have e2:=aaU w.2 (show(0:Int)<20 by decide)
    have e3:=aaI w.1 (show(100:Int)≠0 by decide)
    have e4:=aaU w.1 (show(0:Int)<100 by decide)
    refine(?_:let G_:Prop:=_;G_)
    intro G_
    obtain⟨a1,a2,a3⟩:=ia (a:=w.1 % 100 - 50) (b:=1+w.2 % 20) (by omega)
    dsimp only[G_]
    refine⟨by decide,by decide,by omega,Bt.mono (m:=5) (Bt.of 20 (by omega) (by omega)) (by decide),λp1 H3 s3 n3 h3=>⟨.inl ⟨rfl,_,aZ.of (s3 _ _ hp)⟩,_,s3 _ _ iu,_,rfl,by decide,λp2 H4 s4 n4 h4=>?_⟩⟩
    have Dj:=s3.trans s4
    refine⟨t',_,rfl,d6.of (Dj _ _ iu),by show ¬(HT.dB 2 0 (some 2)=0/\HT.dB 2 2 none=2);decide,λp3 n5=>⟨p2,p3,_,_,rfl,rfl,d6.of (au n5 _ _ h4),d6.of ar,by simp,by show 2+0<=sizeLine;decide,(λ_=>?_),λh=>absurd rfl h⟩⟩
    have s5:=au (o:=.tup (iM [V.str (Str.ofString "end"),V.ref r] (some 2) none)) n5
    have Jm:=s5 _ _ (Dj _ _ hp)
    have Gz:p1≠p:=λzz=>by rw[zz,hp] at n3;cases n3
    have C4:p2≠p:=λzz=>by rw[zz,s3 _ _ hp] at n4;cases n4
    obtain⟨x1,oM,x3,b2,x5,x6,x7⟩:=fin _ (.ref p2) (.fin (Wq.low (w.1 % 100 - 50) (1+w.2 % 20))) (Dj.trans s5) (cM.mpr ⟨p2,p1,rfl,by rw[bz C4];exact s5 _ _ h4,by rw[bz Gz];exact s5 _ _ (s4 _ _ h3)⟩) ⟨by omega,by omega,by omega,a3⟩ .fin (λ_ _ h=>by cases h)
    exact⟨_,Jm,sz,x1,oM,x3,b2,x5,x6,x7,_,rfl⟩
   | cL w ws=>
    refine(?_:let G_:Prop:=_;G_)
    intro G_
    obtain⟨t',r,l,zs,rfl,iu,t6,oH,rz⟩:=cm.mp rx
    dsimp only[G_]
    simp_all only[iu,t6,cG,tBM,iz]
    rw[if_neg (by decide +kernel)]
    have e1:=aaI w.2 (show(20:Int)≠0 by decide)
    have e2:=aaU w.2 (show(0:Int)<20 by decide)
    have e3:=aaI w.1 (show(100:Int)≠0 by decide)
    have e4:=aaU w.1 (show(0:Int)<100 by decide)
    refine(?_:let G_:Prop:=_;G_)
    intro G_
    obtain⟨a1,a2,a3⟩:=ia (a:=w.1 % 100 - 50) (b:=1+w.2 % 20) (by omega)
    obtain⟨t0,r0,l0,Nc,Jo,Gk,Nd,Ca,Nf⟩:=cm.mp rq
    dsimp only[G_]
    cases Jo
    have el:=(sm _ _ Gk).symm.trans iu
    simp at el
    obtain⟨rfl,rfl⟩:=el
    refine⟨by decide,by decide,by omega,Bt.mono (m:=5) (Bt.of 20 (by omega) (by omega)) (by decide),λp1 H3 s3 n3 h3=>⟨.inl ⟨rfl,_,aZ.of (s3 _ _ hp)⟩,_,s3 _ _ iu,_,rfl,by decide,λp2 H4 s4 n4 h4=>?_⟩⟩
    have Dj:=s3.trans s4
    refine⟨t',_,rfl,d6.of (Dj _ _ iu),by show ¬(HT.dB 3 0 (some 2)=0/\HT.dB 3 3 none=3);decide,λp3 n5=>⟨p2,p3,_,_,rfl,rfl,d6.of (au n5 _ _ h4),d6.of ar,by simp,by show 2+1<=sizeLine;decide,(λh=>by cases h),λ_ p4 n6=>?_⟩⟩
    have s5:=au (o:=.tup (iM [V.str (Str.ofString "throw"),V.ref r0,V.ref l0] (some 2) none)) n5
    have s6:=s5.trans (au (o:=.tup ([V.str (Str.ofString "throw"),V.ref p1]++iM [V.str (Str.ofString "throw"),V.ref r0,V.ref l0] (some 2) none)) n6)
    have Jm:=s6 _ _ (Dj _ _ hp)
    have Gz:p1≠p:=λzz=>by rw[zz,hp] at n3;cases n3
    have JI:p4≠p:=λzz=>by rw[zz,s5 _ _ (Dj _ _ hp)] at n6;cases n6
    have sh:=c7 (sm.trans (Dj.trans s6)) np
    obtain⟨x1,oM,x3,b2,x5,x6,x7⟩:=fin _ (.ref p4) (.cL (Wq.low (w.1 % 100 - 50) (1+w.2 % 20)) ws) (Dj.trans s6) (cm.mpr ⟨p4,p1,l0,Nc,rfl,by rw[bz JI,ar];rfl,by rw[bz Gz];exact s6 _ _ (s4 _ _ h3),sh _ _ Ca,Nf.mono sh⟩) ⟨by omega,by omega,by omega,a3⟩ .cL (λ_ _ h=>by cases h)
    exact⟨_,Jm,sz,x1,oM,x3,b2,x5,x6,x7,_,rfl⟩
   | bJ w to=>
    refine(?_:let G_:Prop:=_;G_)
    intro G_
    obtain⟨t',l,rfl,iu,oH⟩:=cC.mp rx
    dsimp only[G_]
    simp_all only[iu,cG,tBM]
    refine(?_:let G_:Prop:=_;G_)
    intro G_
    obtain⟨x1,oM,x3,b2,x5,x6,x7⟩:=fin H2 (.ref t') (.bJ w to) (az.refl _) (rq.mono (c7 sm np)) trivial .bJ (λ_ _ h=>rfl)
    dsimp only[G_]
    exact⟨.inl ⟨rfl,_,aZ.of hp⟩,_,hp,sz,x1,oM,x3,b2,x5,x6,x7,_,rfl⟩
  ·intro σ H1 bK
   refine(?_:let G_:Prop:=_;G_)
   intro G_
   obtain⟨sm,ys,b',z2,z3,hp,ry,G8,xa,rfl⟩:=bK
   dsimp only[G_]
   simp_all only[]
   rw[<-lx] at G8
   refine kk p b' H1 sm np (aO.mpr ⟨p,ys,rfl,hp,ry.mono bO⟩) G8 (rG B l8 G8 (λj q' e=>by obtain⟨_,q,e1,e2,_⟩:=xa j q' e;exact⟨q,e1,e2⟩) λq' hq=>?_) λq' hq=>?_
   ·obtain⟨j,ej⟩:=aaw hq
    refine(?_:let G_:Prop:=_;G_)
    intro G_
    obtain⟨sq,q,e1,e2,e3⟩:=xa j q' ej
    dsimp only[G_]
    have pq:=B.ok q (aaf e1)
    rw[G8]
    cases e2 with
    | fin=>exact AM sq
    | cL=>exact⟨AM sq,pq.2⟩
    | bJ=>rw[e3 _ _ rfl];exact pq
   ·obtain⟨j,ej⟩:=aaw hq
    exact(xa j q' ej).1
theorem jL:aN ["_law_board_here","_law_by","_law_exchanged","_law_found","_law_place","_law_what"] ["_law_board_here","_law_by","_law_exchanged"] (ae (top 60)):=⟨rfl,rfl,rfl,by decide +kernel,rfl,by decide +kernel,by decide +kernel⟩
theorem GA (T:Txt K mg aA tc):bX P w K mg base (bQ P w) 3 "_law_made" ["_law_board_here","_law_by","_law_exchanged"] xi:=by
 have dz:bX P w K mg base (bQ P w) 2 "_law_times" ["_law_one","_law_other"] kH:=A3 T
 refine T.tF.eD (λ_ _ _ _ _ _=>qR λ_ _ _=>rfl) λf fd F=>F.eL jL (λvs H Q E h=>?_) (λcK A outer s H vs Q E hr h=>?_)
 ·obtain⟨_,_,_,_,_,rfl,_⟩:=h;rfl
 ·refine(?_:let G_:Prop:=_;G_)
  intro G_
  obtain⟨a,r,b,c,x,rfl,rb,l8,Yi,ok,JJ,hx,kk⟩:=h
  dsimp only[G_]
  clear G_
  have nd:=jL.nd
  refine⟨_,(ag (aF (i:=3) nd rfl (Or.inl rfl) (cQ af))
  (ag (cz PassesOwn.never rfl (di rfl T.z_range (aa (ba bD (by rfl) T.z_len aaA (aa (pv 0) af (se rfl)) (he:=se rfl) (hpl:=na rfl)) af (se rfl))) (aE (i:=4) nd rfl (Or.inl rfl)) (ag (aF (i:=5) nd rfl (Or.inl rfl) (aI aL (pv 0) (pv 4) (λ_ _=>rfl)))
  (ax (bW (aQ cV (aI aK (pv 5) ao (λ_ _=>rfl)) cJ (aV _)) (ax (cF (dD aaE aaN aaO bS.r (pv 3) (aa (bH (aa cJ (aa (aI aL (cQ (aa (aI aK (pv 5) ao (λ_ _=>rfl)) (aa (aD iK ao (aI aK (pv 5) ao (λ_ _=>rfl))) af (se rfl)) (se rfl))) (dE uW (by rfl) T.z_int rfl (aa (pv 2) af (se rfl)) (he:=se rfl) (hpl:=na rfl)) (λ_ _=>rfl)) (aa (dE (cP (K:=K)) (by rfl) T.z_list rfl (aa (aI aK (pv 5) ao (λ_ _=>rfl)) af (se rfl)) (he:=se rfl) (hpl:=na rfl)) af (se rfl)) (se rfl)) (se rfl))) af (se rfl)))))
   (ax (bW (aQ cV (aI aK (pv 5) ao (λ_ _=>rfl)) cJ (aV _)) (ax (cF (dD aaE aaN aaO bS.r (pv 3) (aa (bH (aa cJ (aa (aH dz (hr.mono (by decide)) rfl aB.pass (aa (aI aK (pv 5) ao (λ_ _=>rfl)) (aa (pv 1) af (se rfl)) (se rfl)) (he:=se rfl) (hpl:=na rfl)) af (se rfl)) (se rfl))) af (se rfl)))))
   (ax (cF (dD aaE aaN aaO bS.r (pv 3) (aa (bH (aa cJ (aa (aH dz (hr.mono (by decide)) rfl aB.pass (aa (aI aK (pv 5) ao (λ_ _=>rfl)) (aa (pv 1) af (se rfl)) (se rfl)) (he:=se rfl) (hpl:=na rfl)) (aa (dE (cP (K:=K)) (by rfl) T.z_list rfl (aa (aI aK (pv 5) ao (λ_ _=>rfl)) af (se rfl)) (he:=se rfl) (hpl:=na rfl)) af (se rfl)) (se rfl)) (se rfl))) af (se rfl)))))))))))
  (ax (aT (pv 3))))),?_⟩
  refine(?_:let cu:TS:=_;let cv:TS:=_;let cw:TS:=_;tSeq cu (tSeq cv cw) _ _ _)
  intro cu cv cw
  have sl:=sizeLine_eq
  refine(?_:let G_:Prop:=_;G_)
  intro G_
  obtain⟨_,xs,e,ha,rl⟩:=aO.mp rb
  dsimp only[G_]
  clear G_
  cases e
  have lx:=rl.length
  rw[aab] at lx
  simp_all only[]
  refine⟨aar _,λp np=>?_⟩
  have s0:=au (o:=.lst []) np
  have f1:∀g,(if x=true then rE else uq c) (.fin g)=.fin (Wq.tm g c):=λg=>by
   cases x with
   | false=>rfl
   | true=>rw[hx rfl];rfl
  have f2:∀g ws,(if x=true then rE else uq c) (.cL g ws)=.cL (Wq.tm g c) ws:=λg ws=>by
   cases x with
   | false=>rfl
   | true=>rw[hx rfl];rfl
  have f3:∀w to,(if x=true then rE else uq c) (.bJ w to)=.bJ ([w,3 - w].getD (if x=true then 1 else 0) 0) to:=λw to=>by
   cases x <;>rfl
  generalize (if x=true then rE else uq c)=G at *
  refine⟨xs,s0 _ _ ha,by omega,by omega,bN (src_range (Ok:=λ_=>True))
   (λi σ H'=>az H H'/\∃ys z4 z5,H' p=some (.lst ys)/\aY (cE H' p) (((b.take i).map G).map iS) ys/\σ=[some (V.ref a),some (V.ref r),some (V.bl x),some (V.ref p),z4,z5])
   ⟨s0,[],_,_,ar,by simp [aY],rfl⟩ (λ_ _ _ _ _=>trivial) ?_ ?_⟩
  ·intro i v σ H1 H2 hi dI dR
   refine(?_:let G_:Prop:=_;G_)
   intro G_
   obtain⟨sm,ys,z4,z5,hp,ry,rfl⟩:=dI
   obtain⟨rfl,rfl⟩:=dR
   have hi:i<xs.length:=by simpa using hi
   have ex:xs[i]?=some xs[i]:=aac hi
   obtain⟨q,eq,rq⟩:=cY rl ex
   dsimp only[G_]
   clear G_
   have ly:=ry.length
   rw[aab,aab,aaQ] at ly
   have tk:b.take (i+1)=b.take i++ [q]:=by rw[aaC,eq];rfl
   have sz:ys.length<sizeLine:=by omega
   have Ng:=bL ex
   generalize xs[i]=v at *
   have fin:∀H3 v',az H2 H3->Rep (cE H3 p) (iS (G q)) v'->az H (upd H3 p (.lst (ys++ [v'])))/\∃oM,upd H3 p (.lst (ys++ [v'])) p=some (.lst oM)/\aY (cE (upd H3 p (.lst (ys++ [v']))) p) (((b.take (i+1)).map G).map iS) oM:=λH3 v' s3 r3=>by
    refine⟨aX (sm.trans s3) np,_,ar,?_⟩
    rw[tk,aau,aau,aas,aas,aaK,aaK]
    exact jt (ry.mono (bF s3)) r3
   have rx:=rq.mono sm
   have pq:=ok q (aaf eq)
   have z0:(0:Int)+ (i:Int)=(i:Int):=Int.zero_add _
   have U4:∀g,IE g->Rm g:=λg hg=>by
    have:=AM hg
    exact⟨this.1.mono (by decide),this.2.1.mono (by decide),this.2.2.1⟩
   have Bu:=sm _ _ Yi
   cases q with
   | fin g=>
    refine(?_:let G_:Prop:=_;G_)
    intro G_
    obtain⟨t',r',rfl,iu,t6⟩:=cM.mp rx
    dsimp only[G_]
    simp_all only[sm _ _ ha,z0,Ng,iu,cG,tBM,kH]
    rw[if_neg (by decide +kernel)]
    refine⟨.inl ⟨rfl,_,aZ.of hp⟩,g,t6,c,Bu,U4 g pq.2,JJ,λr2 H3 s3 n3 h3=>⟨by decide,λp1 H4 s4 n4 h4=>?_⟩⟩
    have Gz:r2≠p:=λz=>by rw[z,hp] at n3;cases n3
    have C4:p1≠p:=λz=>by rw[z,s3 _ _ hp] at n4;cases n4
    obtain⟨x1,oM,x2,x3⟩:=fin H4 (.ref p1) (s3.trans s4) (by rw[f1];exact cM.mpr ⟨p1,r2,rfl,by rw[bz C4];exact h4,by rw[bz Gz];exact s4 _ _ h3⟩)
    exact⟨_,(s3.trans s4) _ _ hp,sz,x1,oM,x2,x3,_,rfl⟩
   | cL g ws=>
    refine(?_:let G_:Prop:=_;G_)
    intro G_
    obtain⟨t',r',l',zs,rfl,iu,t6,oH,rz⟩:=cm.mp rx
    dsimp only[G_]
    simp_all only[sm _ _ ha,z0,Ng,iu,cG,tBM,kH]
    rw[if_neg (by decide +kernel)]
    rw[if_neg (by decide +kernel)]
    refine⟨.inl ⟨rfl,_,aZ.of hp⟩,g,t6,c,Bu,U4 g pq.2,JJ,λr2 H3 s3 n3 h3=>⟨_,s3 _ _ iu,_,rfl,l',rfl,zs,.inl (aZ.of (s3 _ _ oH)),λm nm=>⟨by decide,λp1 H4 s4 n4 h4=>?_⟩⟩⟩
    have s5:=s3.trans ((au (o:=.lst zs) nm).trans s4)
    have Gz:r2≠p:=λz=>by rw[z,hp] at n3;cases n3
    have C4:m≠p:=λz=>by rw[z,s3 _ _ hp] at nm;cases nm
    have Gu:p1≠p:=λz=>by rw[z,au (o:=.lst zs) nm _ _ (s3 _ _ hp)] at n4;cases n4
    refine(?_:let G_:Prop:=_;G_)
    intro G_
    obtain⟨t0,r0,l0,Nc,Jo,Gk,Nd,Ca,Nf⟩:=cm.mp rq
    dsimp only[G_]
    cases Jo
    have el:=(sm _ _ Gk).symm.trans iu
    simp at el
    obtain⟨rfl,rfl⟩:=el
    have el:=(sm _ _ Ca).symm.trans oH
    simp at el
    subst el
    have sh:=c7 (sm.trans s5) np
    obtain⟨x1,oM,x2,x3⟩:=fin H4 (.ref p1) s5 (by rw[f2];exact cm.mpr ⟨p1,r2,m,Nc,rfl,by rw[bz Gu];exact h4,by rw[bz Gz];exact s4 _ _ (au nm _ _ h3),by rw[bz C4];exact s4 _ _ ar,Nf.mono sh⟩)
    exact⟨_,s5 _ _ hp,sz,x1,oM,x2,x3,_,rfl⟩
   | bJ who to=>
    refine(?_:let G_:Prop:=_;G_)
    intro G_
    obtain⟨t',l',rfl,iu,oH⟩:=cC.mp rx
    dsimp only[G_]
    simp_all only[sm _ _ ha,z0,Ng,iu,cG,tBM,kH]
    refine⟨.inl ⟨rfl,_,aZ.of hp⟩,by decide,λp0 n0=>?_⟩
    have JK:=au (o:=.lst [V.int who,V.int (3 - who)]) n0
    refine⟨_,ar,V.int ([who,3 - who].getD (if x=true then 1 else 0) 0),by cases x <;>rfl,_,JK _ _ iu,_,rfl,l',rfl,_,.inl (aZ.of (JK _ _ oH)),λm nm=>⟨by decide,λp1 H4 s4 n4 h4=>?_⟩⟩
    have s5:=JK.trans ((au (o:=.lst (List.map V.int to)) nm).trans s4)
    have C4:m≠p:=λz=>by rw[z,JK _ _ hp] at nm;cases nm
    have Gu:p1≠p:=λz=>by rw[z,au (o:=.lst (List.map V.int to)) nm _ _ (JK _ _ hp)] at n4;cases n4
    obtain⟨x1,oM,x2,x3⟩:=fin H4 (.ref p1) s5 (by rw[f3];exact cC.mpr ⟨p1,m,rfl,by rw[bz Gu];exact h4,by rw[bz C4];exact s4 _ _ ar⟩)
    exact⟨_,s5 _ _ hp,sz,x1,oM,x2,x3,_,rfl⟩
  ·intro σ H1 bK
   refine(?_:let G_:Prop:=_;G_)
   intro G_
   obtain⟨sm,ys,z4,z5,hp,ry,rfl⟩:=bK
   dsimp only[G_]
   simp_all only[]
   rw[aah,aaG (by omega)] at ry
   exact kk p H1 sm np (aO.mpr ⟨p,ys,rfl,hp,ry.mono bO⟩)
theorem iQ (ws:List Wq.Sh):depth (.lst (ws.map bB))<=40:=by
 have h1:=nh (ds:=ws.map bB) (n:=1) λd hd=>by obtain⟨p,_,rfl⟩:=List.mem_map.mp hd;rw[uX];exact aag _
 show 1+depth.dL (ws.map bB)<=40
 omega
theorem A4:aN ["_law_script","_law_n","_law_board_here","_law_by","_law_worths","_law_picks_here","_law_turned_here","_law_again"] ["_law_script"] (ae (top 62)):=⟨rfl,rfl,rfl,by decide +kernel,rfl,by decide +kernel,by decide +kernel⟩
theorem GB (T:Txt K mg aA tc) (LB:oP base mg tc tp) {f:Addr} {fd:FuncData} (F:uP K "law" "law" (top 62) f fd):d7 P w K mg base (bQ P w) 8 f fd ["_law_script"] (wZ K tp):=by
 have dq:bX P w K mg base (bQ P w) 1 "_law_cell" ["_law_script","_law_k"] (FK K):=xq T
 have rO:bX P w K mg base (bQ P w) 3 "_law_board" ["_law_script","_law_at","_law_n"] (DU K):=Gv T
 have uh:bX P w K mg base (bQ P w) 1 "_law_copy" ["_law_board_here"] vB:=Gs T
 have rP:bX P w K mg base (bQ P w) 2 "_law_small" ["_law_board_here"] AN:=Gy T
 have kO:bX P w K mg base (bQ P w) 3 "_law_made" ["_law_board_here","_law_by","_law_exchanged"] xi:=GA T
 have dh:bX P w K mg base (bQ P w) 1 "_law_low" ["_law_top","_law_bottom"] iz:=rM T
 have dz:bX P w K mg base (bQ P w) 2 "_law_times" ["_law_one","_law_other"] kH:=A3 T
 have vH:bX P w K mg base (bQ P w) 7 "best" ["board"] (tX tp):=JD T LB
 refine F.eL A4 (λvs H Q E h=>?_) (λcK A outer s H vs Q E hr h=>?_)
 ·obtain⟨_,_,rfl,_⟩:=h;rfl
 ·refine(?_:let G_:Prop:=_;G_)
  intro G_
  obtain⟨sa,ns,rfl,kX,hS,hlen,kk⟩:=h
  dsimp only[G_]
  clear G_
  have nd:=A4.nd
  refine⟨_,(ag (aF (i:=1) nd rfl (Or.inl rfl) (aD br ao (aD cH (aH dq (hr.mono (by decide)) rfl aB.pass (aa (pv 0) (aa ao af (se rfl)) (se rfl)) (he:=se rfl) (hpl:=na rfl)) ao)))
  (ag (aF (i:=2) nd rfl (Or.inl rfl) (aH rP (hr.mono (by decide)) rfl aB.pass (aa (aH rO (hr.mono (by decide)) rfl aB.pass (aa (pv 0) (aa ao (aa (pv 1) af (se rfl)) (se rfl)) (se rfl)) (he:=se rfl) (hpl:=na rfl)) af (se rfl)) (he:=se rfl) (hpl:=na rfl)))
  (ag (aF (i:=3) nd rfl (Or.inr rfl) (aH dh (hr.mono (by decide)) rfl aB.pass (aa (aD cH (aH dq (hr.mono (by decide)) rfl aB.pass (aa (pv 0) (aa ao af (se rfl)) (se rfl)) (he:=se rfl) (hpl:=na rfl)) ao) (aa (aD br ao (aD cH (aH dq (hr.mono (by decide)) rfl aB.pass (aa (pv 0) (aa ao af (se rfl)) (se rfl)) (he:=se rfl) (hpl:=na rfl)) ao)) af (se rfl)) (se rfl)) (he:=se rfl) (hpl:=na rfl)))
  (ag (eB (aH vH (hr.mono (by decide)) rfl aB.pass (aa (aH uh (hr.mono (by decide)) rfl aB.pass (aa (pv 2) af (se rfl)) (he:=se rfl) (hpl:=na rfl)) af (se rfl)) (he:=se rfl) (hpl:=na rfl)) (b9 (K:=K) (n:=2) rfl (aS (aE (i:=4) nd rfl (Or.inl rfl)) (aS (aE (i:=5) nd rfl (Or.inl rfl)) b8))))
  (ag (bW (aQ (EZ hr.units) (aI aK (aH vH (hr.mono (by decide)) rfl aB.pass (aa (aH kO (hr.mono (by decide)) rfl aB.pass (aa (pv 2) (aa (pv 3) (aa vL af (se rfl)) (se rfl)) (se rfl)) (he:=se rfl) (hpl:=na rfl)) af (se rfl)) (he:=se rfl) (hpl:=na rfl)) ao (λ_ _=>rfl)) (bT rfl (N:=["_law_script","_law_n","_law_board_here","_law_by","_law_worths","_law_picks_here","_law_turned_here","_law_again"]) (so:=ae (top 62)) (N':=["_law_one","_law_by"]) (k:=1) (fr:=[3]) rfl rfl ⟨rfl,by decide +kernel,by decide +kernel,by decide +kernel,rfl,by decide +kernel,by decide +kernel⟩ (bj (K:=K) (pv 4)) (λ_ _ _ _ _=>(aE (i:=0) (show(["_law_one","_law_by"]:List Str).Nodup by decide +kernel) rfl (Or.inl rfl))) (λ_ _ _ _ _=>bI)
   (λ_ _ _ _ _=>(aH dz (hr.mono (by decide)) rfl aB.pass (aa (pv 0) (aa (pv 1) af (se rfl)) (se rfl)) (he:=se rfl) (hpl:=na rfl)))) (aV _)) (ax (aT vL))
   bC)
  (ag (eB (aH vH (hr.mono (by decide)) rfl aB.pass (aa (aH kO (hr.mono (by decide)) rfl aB.pass (aa (pv 2) (aa (bH (aa (sk mO ao) (aa ao af (se rfl)) (se rfl))) (aa vL af (se rfl)) (se rfl)) (se rfl)) (he:=se rfl) (hpl:=na rfl)) af (se rfl)) (he:=se rfl) (hpl:=na rfl)) (b9 (K:=K) (n:=2) rfl (aS (aE (i:=6) nd rfl (Or.inl rfl)) (aS (aE (i:=7) nd rfl (Or.inl rfl)) b8))))
  (ax (aT (El (qk (zh hr.units) (pv 6) (bT rfl (N:=["_law_script","_law_n","_law_board_here","_law_by","_law_worths","_law_picks_here","_law_turned_here","_law_again"]) (so:=ae (top 62)) (N':=["_law_one"]) (k:=1) (fr:=[]) rfl rfl ⟨rfl,by decide +kernel,by decide +kernel,by decide +kernel,rfl,by decide +kernel,by decide +kernel⟩ (bj (K:=K) (pv 4)) (λ_ _ _ _ _=>(aE (i:=0) (show(["_law_one"]:List Str).Nodup by decide +kernel) rfl (Or.inl rfl))) (λ_ _ _ _ _=>bI)
   (λ_ _ _ _ _=>(aH dz (hr.mono (by decide)) rfl aB.pass (aa (pv 0) (aa (bH (aa (sk mO ao) (aa ao af (se rfl)) (se rfl))) af (se rfl)) (se rfl)) (he:=se rfl) (hpl:=na rfl)))) (aV _)) (Ek (qk (zh hr.units) (pv 7) (pv 5) (aV _)))))))))))),?_⟩
  refine(?_:let cu:TS:=_;let cv:TS:=_;let cw:TS:=_;let dQ:TS:=_;let jF:TS:=_;let AY:TS:=_;let D4:TS:=_;tSeq cu (tSeq cv (tSeq cw (tSeq dQ (tSeq jF (tSeq AY D4))))) _ _ _)
  intro cu cv cw dQ jF AY D4
  have sl:=sizeLine_eq
  change tSeq _ _ _ _ _
  refine aR (λσ' H1=>H=H1/\∃n:Nat,0<n/\n<=8/\σ'=[some (.ref sa),some (.int (n:Int)),none,none,none,none,none,none]) ?_ (λN hN=>?_)
  case refine_2=>
   simp_all only[FK]
   exact⟨ns,hS,by decide,by decide,λc=>⟨by decide,hN _ _ ⟨rfl,(1+c % 8).toNat,by omega,by omega,by rw[Int.toNat_of_nonneg (by omega)]⟩⟩⟩
  intro _ _ bK
  refine(?_:let G_:Prop:=_;G_)
  intro G_
  obtain⟨rfl,n,n0,n8,rfl⟩:=bK
  dsimp only[G_]
  clear G_
  change tSeq _ _ _ _ _
  refine aR (λσ' H1=>∃bl b rk,az H H1/\Rep H1 (pJ b) (.ref bl)/\b.length=n/\gP b rk/\(∀q∈b,DW q)/\σ'=[some (.ref sa),some (.int (n:Int)),some (.ref bl),none,none,none,none,none]) ?_ (λN hN=>?_)
  case refine_2=>
   simp_all only[AN]
   exact⟨sa,ns,n,rfl,hS,n0,n8,λl H1 b rk s1 nl rb lb B=>⟨l,rfl,b,rb,rk,B,by omega,λl2 b2 H2 s2 n2 Yj lb2 B2 KQ=>hN _ _ ⟨l2,b2,rk,s1.trans s2,Yj,by omega,B2,KQ,rfl⟩⟩⟩
  intro _ H1 bK
  refine(?_:let G_:Prop:=_;G_)
  intro G_
  obtain⟨bl,b,rk,s1,rb,lb,B,sm,rfl⟩:=bK
  dsimp only[G_]
  clear G_
  change tSeq _ _ _ _ _
  refine aR (λσ' H2=>∃(Dh:Addr) (c:Wq.Sh),az H1 H2/\H2 Dh=some (.tup (Pr c.1 c.2))/\c.1.natAbs<=1000/\c.2<=50/\Wq.Lw c/\0<=c.1/\σ'=[some (.ref sa),some (.int (n:Int)),some (.ref bl),some (.ref Dh),none,none,none,none]) ?_ (λN hN=>?_)
  case refine_2=>
   simp_all only[FK,iz]
   refine⟨ns,s1.seq hS,by decide,by decide,λGC=>⟨by decide,ns,s1.seq hS,by decide,by decide,λG9=>?_⟩⟩
   have e1:=aaI G9 (show(50:Int)≠0 by decide)
   have e2:=aaU G9 (show(0:Int)<50 by decide)
   have e3:=aaI GC (show(1000:Int)≠0 by decide)
   have e4:=aaU GC (show(0:Int)<1000 by decide)
   refine(?_:let G_:Prop:=_;G_)
   intro G_
   obtain⟨a1,a2,a3⟩:=ia (a:=GC % 1000) (b:=1+G9 % 50) (by omega)
   dsimp only[G_]
   refine⟨by decide,by omega,Bt.mono (m:=6) (Bt.of 50 (by omega) (by omega)) (by decide),λq H2 s2 n2 h2=>hN _ _ ⟨q,Wq.low (GC % 1000) (1+G9 % 50),s2,h2,by omega,by omega,a3,?_,rfl⟩⟩
   rw[show(Wq.low (GC % 1000) (1+G9 % 50)).1=GC % 1000 / Nm.g (GC % 1000) (1+G9 % 50) from(Nm.qz (by omega)).1]
   exact Int.ediv_nonneg e3 (Int.le_of_lt (Nm.jl (by omega)))
  intro _ H2 bK
  refine(?_:let G_:Prop:=_;G_)
  intro G_
  obtain⟨Dh,c,s2,U5,c1,c2,lw,cn,rfl⟩:=bK
  dsimp only[G_]
  clear G_
  change tSeq _ _ _ _ _
  refine aR (λσ' H3=>∃(l1 l2:Addr) (S:Dg.Bk) (ks:List (Option Int)),az H2 H3/\Rep H3 (.lst ((eA S).map bB)) (.ref l1)/\H3 l2=some (.lst (ks.map gv))/\Dg.Sz b.length 1900 S/\(∀p:Nat,p<b.length->il b p (Dg.val S))/\(∀p q,b[p]?=some q->ks[p]?=some (Bq (eA S) p q))/\ks.length=b.length/\σ'=[some (.ref sa),some (.int (n:Int)),some (.ref bl),some (.ref Dh),some (.ref l1),some (.ref l2),none,none]) ?_ (λN hN=>?_)
  case refine_2=>
   simp_all only[vB,tX]
   refine⟨b,rb.mono s2,by omega,λl xh H3 s3 n3 h3 r3=>⟨b,aO.mpr ⟨l,xh,rfl,h3,r3.mono bO⟩,rk,B,(s1.trans (s2.trans s3)) _ _ kX,λt l1 l2 S ks H4 s4 ht n1 n2 r1 h2 z dv bq bp lk=>?_⟩⟩
   refine⟨t,_,rfl,d6.of ht,rfl,?_⟩
   simp_all only[]
   exact hN _ _ ⟨l1,l2,S,ks,s3.trans s4,r1,h2,z.up (by omega),bq,bp,lk,rfl⟩
  intro _ H3 bK
  refine(?_:let G_:Prop:=_;G_)
  intro G_
  obtain⟨l1,l2,S,ks,s3,r1,h2,z,bq,bp,lk,rfl⟩:=bK
  dsimp only[G_]
  clear G_
  have lS:(eA S).length=b.length:=by unfold eA;rw[aab,z.len]
  have U6:∀x∈eA S,Rm x:=λx hx=>(jE z x hx).rm z.pos (z.bb.mono (by decide)) (Int.pow_nonneg (by decide)) (by unfold Bt;decide +kernel)
  change tSeq _ _ _ _ _
  refine aR (λσ' H4=>az H3 H4/\σ'=[some (.ref sa),some (.int (n:Int)),some (.ref bl),some (.ref Dh),some (.ref l1),some (.ref l2),none,none]) ?_ (λN hN=>?_)
  case refine_2=>
   simp_all only[xi,tX]
   refine(?_:let G_:Prop:=_;G_)
   intro G_
   obtain⟨_,xw,e,D6,DY⟩:=aO.mp r1
   dsimp only[G_]
   clear G_
   cases e
   have Nh:=DY.length
   rw[aab,lS] at Nh
   have JJ:Rm c:=⟨Bt.of 1000 (by omega) (by omega) |>.mono (m:=10) (by decide),Bt.of 50 (by have:=lw.1;omega) (by omega) |>.mono (m:=6) (by decide),lw.1⟩
   refine⟨b,rb.mono (s2.trans s3),by omega,c,s3 _ _ U5,λq hq=>⟨B.ok q hq,sm q hq⟩,JJ,(λh=>by cases h),λl H4 s4 n4 r4=>?_⟩
   rw[if_neg aay] at r4
   have B':=IF B (by omega) sm c1 c2 lw.1
   refine⟨b.map (uq c),r4,rk,B',(s1.trans (s2.trans (s3.trans s4))) _ _ kX,λt m1 m2 S' dt H5 s5 ht n1 n2 G7 v3 z' Yk Ni U7 KN=>⟨_,ht,_,rfl,⟨_,aZ.of ((s4.trans s5) _ _ D6)⟩,?_⟩⟩
   have F1:=s4.trans s5
   have Nj:=F1 _ _ D6
   refine comp_map (src_list (K:=K) (a:=l1) (Ok:=az H5) (λH' s'=>aZ.of (s' _ _ Nj))) (λ_ _ _ _ h=>by rw[h.1];exact az.refl _) (by omega) (λi y H4=>∀x,(eA S)[i]?=some x->Rep H4 (bB (Wq.tm x c)) y) (λi y H4 H5 s5 h g e=>(h g e).mono s5) ?_ ?_
   ·rintro i v0 w0 H6 H7 Q2 hi s6 ⟨rfl,ex⟩ kq
    obtain⟨x,GD⟩:∃x,(eA S)[i]?=some x:=⟨_,aac (by omega)⟩
    refine(?_:let G_:Prop:=_;G_)
    intro G_
    obtain⟨pr,Gn,JC⟩:=dc DY GD
    dsimp only[G_]
    rw[ex] at Gn
    cases Gn
    simp_all only[kH]
    exact⟨x,(F1.trans s6) _ _ JC,c,(s3.trans (F1.trans s6)) _ _ U5,U6 x (aaf GD),JJ,λr H8 s8 n8 h8=>kq _ _ s8 λx' e'=>by rw[GD] at e';cases e';exact bV.mpr ⟨r,rfl,h8⟩⟩
   ·intro ys H6 s6 ly hy D n6 n7
    simp_all only[Ce]
    have sD:=au (o:=.lst ys) n7
    have hD:upd H6 D (.lst ys) D=some (.lst ys):=ar
    generalize upd H6 D (.lst ys)=H7 at *
    have Bv:=s6.trans sD
    have eS:=AQ B B' lw.1 (IH cn lw.1) z z' bq Ni
    rw[eS] at G7
    refine⟨_,G7.mono Bv,aO.mpr ⟨D,ys,rfl,hD,cZ (by rw[aab];omega) λi y ey a ea=>by
     rw[aad] at ea
     refine(?_:let G_:Prop:=_;G_)
     intro G_
     obtain⟨x,ex,rfl⟩:=Option.map_eq_some_iff.mp ea
     dsimp only[G_]
     exact(hy i y ey x ex).mono sD⟩,⟨_,rfl⟩,iQ _,?_⟩
    rw[if_neg aay]
    exact hN _ _ ⟨F1.trans Bv,rfl⟩
  rintro _ H4 ⟨s4,rfl⟩
  change tSeq _ _ _ _ _
  refine aR (λσ' H5=>∃(m1 m2:Addr),az H4 H5/\Rep H5 (.lst (((eA S).map λw=>Wq.tm w (-1,1)).map bB)) (.ref m1)/\H5 m2=some (.lst (ks.map gv))/\σ'=[some (.ref sa),some (.int (n:Int)),some (.ref bl),some (.ref Dh),some (.ref l1),some (.ref l2),some (.ref m1),some (.ref m2)]) ?_ (λN hN=>?_)
  case refine_2=>
   simp_all only[xi,tX]
   refine⟨by decide,λp H5 s5 n5 h5=>⟨b,rb.mono (s2.trans (s3.trans (s4.trans s5))),by omega,(-1,1),h5,λq hq=>⟨B.ok q hq,sm q hq⟩,⟨Bt.of 1 (by decide) (by decide) |>.mono (m:=1) (by decide),Bt.of 1 (by decide) (by decide) |>.mono (m:=1) (by decide),by decide⟩,λ_=>rfl,λl H6 s6 n6 r6=>?_⟩⟩
   have B':=IG B (by omega) sm
   refine⟨b.map rE,r6,rk,B',(s1.trans (s2.trans (s3.trans (s4.trans (s5.trans s6))))) _ _ kX,λt m1 m2 S' dt H7 s7 ht n1 n2 G7 v3 z' Yk Ni U7 KN=>?_⟩
   have eS:=FV B B' z z' bq Ni
   have eK:=CY B z eS bp U7 lk KN
   rw[eS] at G7
   subst eK
   refine⟨t,_,rfl,d6.of ht,rfl,?_⟩
   simp_all only[]
   exact hN _ _ ⟨m1,m2,s5.trans (s6.trans s7),G7,v3,rfl⟩
  intro _ H5 bK
  refine(?_:let G_:Prop:=_;G_)
  intro G_
  obtain⟨m1,m2,s5,Yl,Ym,rfl⟩:=bK
  dsimp only[G_]
  clear G_
  simp_all only[]
  refine(?_:let G_:Prop:=_;G_)
  intro G_
  obtain⟨_,xw,e,D6,DY⟩:=aO.mp (r1.mono (s4.trans s5))
  dsimp only[G_]
  clear G_
  cases e
  have Nh:=DY.length
  rw[aab,lS] at Nh
  refine⟨⟨_,aZ.of D6⟩,?_⟩
  refine comp_map (src_list (K:=K) (a:=l1) (Ok:=az H5) (λH' s'=>aZ.of (s' _ _ D6))) (λ_ _ _ _ h=>by rw[h.1];exact az.refl _) (by omega) (λi y H4=>∀x,(eA S)[i]?=some x->Rep H4 (bB (Wq.tm x (-1,1))) y) (λi y H4 H5 s5 h g e=>(h g e).mono s5) ?_ ?_
  ·rintro i v0 w0 H6 H7 Q2 hi s6 ⟨rfl,ex⟩ kq
   obtain⟨x,GD⟩:∃x,(eA S)[i]?=some x:=⟨_,aac (by omega)⟩
   refine(?_:let G_:Prop:=_;G_)
   intro G_
   obtain⟨pr,Gn,JC⟩:=dc DY GD
   dsimp only[G_]
   rw[ex] at Gn
   cases Gn
   simp_all only[kH]
   exact⟨by decide,λp H8 s8 n8 h8=>⟨x,(s6.trans s8) _ _ JC,(-1,1),h8,U6 x (aaf GD),⟨Bt.of 1 (by decide) (by decide) |>.mono (m:=1) (by decide),Bt.of 1 (by decide) (by decide) |>.mono (m:=1) (by decide),by decide⟩,λr H9 s9 n9 h9=>kq _ _ (s8.trans s9) λx' e'=>by rw[GD] at e';cases e';exact bV.mpr ⟨r,rfl,h9⟩⟩⟩
  ·intro ys H6 s6 ly hy D n6 n7
   simp_all only[Ce]
   have sD:=au (o:=.lst ys) n7
   have hD:upd H6 D (.lst ys) D=some (.lst ys):=ar
   generalize upd H6 D (.lst ys)=H7 at *
   have Bv:=s6.trans sD
   exact⟨_,Yl.mono Bv,aO.mpr ⟨D,ys,rfl,hD,cZ (by rw[aab];omega) λi y ey a ea=>by
    rw[aad] at ea
    refine(?_:let G_:Prop:=_;G_)
    intro G_
    obtain⟨x,ex,rfl⟩:=Option.map_eq_some_iff.mp ea
    dsimp only[G_]
    exact(hy i y ey x ex).mono sD⟩,⟨_,rfl⟩,iQ _,_,wq (Bv _ _ Ym),wq ((s4.trans (s5.trans Bv)) _ _ h2),⟨_,rfl⟩,yf _,kk _⟩
end
theorem all_mk {l:PySem.W.OpenLaw} {w:World} {K:PySem.W.Frag} {h:Heap} {mg:Str->Option Value} {fa:Addr} (X:K.In h) (G:h.Ns mainGlobals mg) (Yn:mg "law"=some (.ref fa))
  {f0:Addr} {Yo Yp:Option Addr} {Yq:Array (Option Value)} {Yr Ys Yt Yu U8 Yv:Value} {f1:Addr} {Yw Yx:Option Addr} {Yy:Array (Option Value)} {Yz YA YB YC U9 YD:Value} {f2:Addr} {YE YF:Option Addr} {Kr:Array (Option Value)} {YG YH YI ME Va YJ:Value} {f3:Addr} {YK YL:Option Addr} {YM:Array (Option Value)} {YN YO YQ YR Vc YS:Value} {f4:Addr} {YT YU:Option Addr} {YV:Array (Option Value)} {YW YX YY YZ Vd Y0:Value} {f5:Addr} {Y1 Y2:Option Addr} {Y3:Array (Option Value)} {Y4 Y5 Y6 Y7 Ve Y8:Value} {f6:Addr} {Y9 Za:Option Addr} {Zb:Array (Option Value)} {Zc Zd Ze Zf Vf Zg:Value} {f7:Addr} {Zh Zi:Option Addr} {Zj:Array (Option Value)} {Zk Zl Zm Zn Vg Zo:Value} {f8:Addr} {Zp Zq:Option Addr} {Zr:Array (Option Value)} {Zs Zt Zu Zv Vh Zw:Value} {f9:Addr} {Zx Zy:Option Addr} {Zz:Array (Option Value)} {ZA ZC ZD ZE Vi ZF:Value} {Nk:Addr} {Nl Nn:Option Addr} {Np:Array (Option Value)} {Nq Nr Nt Nu JL Nv:Value} {Nw:Addr} {Nx Ny:Option Addr} {Nz:Array (Option Value)} {NA NB NC ND JM NF:Value} {NG:Addr} {NH NI:Option Addr} {NJ:Array (Option Value)} {NK NL NM NN JN NO:Value} {NP:Addr} {NQ NR:Option Addr} {NS:Array (Option Value)} {NT NU NV NW JO NX:Value} {NY:Addr} {NZ N0:Option Addr} {N2:Array (Option Value)} {N4 N5 N6 N7 N8:Value} {N9:Addr} {Oa Ob:Option Addr} {Oc:Array (Option Value)} {Od Oe Of Og JP Oh:Value} {Oi:Addr} {Oj Ol:Option Addr} {Om:Array (Option Value)} {Oo Oq Ot Ou JQ Ov:Value} {Ow:Addr} {Ox Oy:Option Addr} {Oz:Array (Option Value)} {OA OB OC OD JR OE:Value} {OF:Addr} {OG OH:Option Addr} {OI:Array (Option Value)} {OJ OK OL OM JS ON:Value} {OO:Addr} {OP OQ:Option Addr} {OR:Array (Option Value)} {OS OT OU OV JT OW:Value} {OX:Addr} {OY OZ:Option Addr} {O0:Array (Option Value)} {O1 O2 O3 O4 JU O5:Value} {O6:Addr} {O7 O8:Option Addr} {O9:Array (Option Value)} {Pa Pb Pc Pd JV Pe:Value} {Pf:Addr} {Pg Ph:Option Addr} {Pj:Array (Option Value)} {Pk Pn Po Pp JW Pq:Value} {Pt:Addr} {Pu Pw:Option Addr} {Px:Array (Option Value)} {Py Pz PB PD JX PF:Value} {PJ:Addr} {PK PL:Option Addr} {PM:Array (Option Value)} {PN PQ PR PU JY PV:Value} {PX:Addr} {PY PZ:Option Addr} {P0:Array (Option Value)} {P1 P2 P4 P5 JZ P6:Value} {P7:Addr} {P8 P9:Option Addr} {Qa:Array (Option Value)} {Qb Qc Qd Qe J0 Qf:Value} {Qg:Addr} {Qh Qi:Option Addr} {Qj:Array (Option Value)} {Qk Ql Qm Qn J1 Qo:Value} {Qp:Addr} {Qq Qr:Option Addr} {Qs:Array (Option Value)} {Qt Qu Qv Qw J2 Qx:Value} {Qy:Addr} {Qz QA:Option Addr} {QB:Array (Option Value)} {QC QD QE QF J3 QG:Value} {QH:Addr} {QI QJ:Option Addr} {QK:Array (Option Value)} {QL QM QN QO J4 QP:Value} {QR:Addr} {QS QT:Option Addr} {QU:Array (Option Value)} {QV QW QX QY J5 QZ:Value} {Q0:Addr} {Q4 Q5:Option Addr} {Q6:Array (Option Value)} {Q8 Ra Rb Rc J6 Rf:Value} {Rg:Addr} {Rh Ri:Option Addr} {Rj:Array (Option Value)} {Rk Rl Rn Ro J7 Rp:Value} {Rq:Addr} {Rr Rt:Option Addr} {Ru:Array (Option Value)} {Rv Rx Ry Rz J8 RA:Value} {RB:Addr} {RC RD:Option Addr} {RE:Array (Option Value)} {RF RG RH RI J9 RJ:Value} {RK:Addr} {RL RM:Option Addr} {RN:Array (Option Value)} {RO RP RQ RS Ka RT:Value} {RU:Addr} {RV RW:Option Addr} {RX:Array (Option Value)} {RY RZ R1 R3 Kb R4:Value} {R5:Addr} {R6 R7:Option Addr} {R8:Array (Option Value)} {R9 Sa Sb Sd Kc Se:Value} {Sf:Addr} {Sg Si:Option Addr} {Sj:Array (Option Value)} {Sk Sl Sm Sn Kd So:Value} {Sr:Addr} {Ss Su:Option Addr} {Sv:Array (Option Value)} {Sw Sx Sy SA Kf SD:Value} {SE:Addr} {SF SG:Option Addr} {SH:Array (Option Value)} {SI SJ SK SM Kg SN:Value} {SO:Addr} {SQ SR:Option Addr} {SS:Array (Option Value)} {SU SV SW SX Kh SY:Value} {S1:Addr} {S3 S4:Option Addr} {S5:Array (Option Value)} {S6 S7 S8 S9 Ki Ta:Value} {oF:Tok} {o3:Tok} {aA tc tp:Addr} {mC:Addr} {A5 A6:Option Addr} {A7:Array (Option Value)} {A8 A9 Ba Bb uj Bc:Value} {cW:Addr} {iZ i3:Option Addr} {i4:Array (Option Value)} {i5 i7 i8 i9 eJ ja:Value} {dA:Addr} {lL lM:Option Addr} {lN:Array (Option Value)} {lO lP lQ lU gi lV:Value}
  (a0:PySem.W.nsIn K mainGlobals "goals"=some (some (.ref f0))) (l0:K.lookup f0=some ⟨Yr,Yo,.func (PySem.W.fnOf "goals" "goals" (aM (top 1)) (aJ (top 1)) (ae (top 1)) .none Ys Yt Yu Yp U8 Yv),Yq⟩) (e0:PySem.W.codeIn K U8 "goals"=true) (k0:PySem.W.keepIn K (.ref f0)=true)
  (a1:PySem.W.nsIn K mainGlobals "is_ready"=some (some (.ref f1))) (l1:K.lookup f1=some ⟨Yz,Yw,.func (PySem.W.fnOf "is_ready" "is_ready" (aM (top 2)) (aJ (top 2)) (ae (top 2)) .none YA YB YC Yx U9 YD),Yy⟩) (e1:PySem.W.codeIn K U9 "is_ready"=true) (k1:PySem.W.keepIn K (.ref f1)=true)
  (a2:PySem.W.nsIn K mainGlobals "ready_places"=some (some (.ref f2))) (l2:K.lookup f2=some ⟨YG,YE,.func (PySem.W.fnOf "ready_places" "ready_places" (aM (top 3)) (aJ (top 3)) (ae (top 3)) .none YH YI ME YF Va YJ),Kr⟩) (e2:PySem.W.codeIn K Va "ready_places"=true) (k2:PySem.W.keepIn K (.ref f2)=true)
  (a3:PySem.W.nsIn K mainGlobals "levels"=some (some (.ref f3))) (l3:K.lookup f3=some ⟨YN,YK,.func (PySem.W.fnOf "levels" "levels" (aM (top 4)) (aJ (top 4)) (ae (top 4)) .none YO YQ YR YL Vc YS),YM⟩) (e3:PySem.W.codeIn K Vc "levels"=true) (k3:PySem.W.keepIn K (.ref f3)=true)
  (a4:PySem.W.nsIn K mainGlobals "ring"=some (some (.ref f4))) (l4:K.lookup f4=some ⟨YW,YT,.func (PySem.W.fnOf "ring" "ring" (aM (top 5)) (aJ (top 5)) (ae (top 5)) .none YX YY YZ YU Vd Y0),YV⟩) (e4:PySem.W.codeIn K Vd "ring"=true) (k4:PySem.W.keepIn K (.ref f4)=true)
  (a5:PySem.W.nsIn K mainGlobals "common_divisor"=some (some (.ref f5))) (l5:K.lookup f5=some ⟨Y4,Y1,.func (PySem.W.fnOf "common_divisor" "common_divisor" (aM (top 12)) (aJ (top 12)) (ae (top 12)) .none Y5 Y6 Y7 Y2 Ve Y8),Y3⟩) (e5:PySem.W.codeIn K Ve "common_divisor"=true) (k5:PySem.W.keepIn K (.ref f5)=true)
  (a6:PySem.W.nsIn K mainGlobals "share"=some (some (.ref f6))) (l6:K.lookup f6=some ⟨Zc,Y9,.func (PySem.W.fnOf "share" "share" (aM (top 13)) (aJ (top 13)) (ae (top 13)) .none Zd Ze Zf Za Vf Zg),Zb⟩) (e6:PySem.W.codeIn K Vf "share"=true) (k6:PySem.W.keepIn K (.ref f6)=true)
  (a7:PySem.W.nsIn K mainGlobals "common_bottom"=some (some (.ref f7))) (l7:K.lookup f7=some ⟨Zk,Zh,.func (PySem.W.fnOf "common_bottom" "common_bottom" (aM (top 14)) (aJ (top 14)) (ae (top 14)) .none Zl Zm Zn Zi Vg Zo),Zj⟩) (e7:PySem.W.codeIn K Vg "common_bottom"=true) (k7:PySem.W.keepIn K (.ref f7)=true)
  (a8:PySem.W.nsIn K mainGlobals "row_with_head"=some (some (.ref f8))) (l8:K.lookup f8=some ⟨Zs,Zp,.func (PySem.W.fnOf "row_with_head" "row_with_head" (aM (top 16)) (aJ (top 16)) (ae (top 16)) .none Zt Zu Zv Zq Vh Zw),Zr⟩) (e8:PySem.W.codeIn K Vh "row_with_head"=true) (k8:PySem.W.keepIn K (.ref f8)=true)
  (a9:PySem.W.nsIn K mainGlobals "swapped"=some (some (.ref f9))) (l9:K.lookup f9=some ⟨ZA,Zx,.func (PySem.W.fnOf "swapped" "swapped" (aM (top 17)) (aJ (top 17)) (ae (top 17)) .none ZC ZD ZE Zy Vi ZF),Zz⟩) (e9:PySem.W.codeIn K Vi "swapped"=true) (k9:PySem.W.keepIn K (.ref f9)=true)
  (a10:PySem.W.nsIn K mainGlobals "without_first_column"=some (some (.ref Nk))) (l10:K.lookup Nk=some ⟨Nq,Nl,.func (PySem.W.fnOf "without_first_column" "without_first_column" (aM (top 18)) (aJ (top 18)) (ae (top 18)) .none Nr Nt Nu Nn JL Nv),Np⟩) (e10:PySem.W.codeIn K JL "without_first_column"=true) (k10:PySem.W.keepIn K (.ref Nk)=true)
  (a11:PySem.W.nsIn K mainGlobals "swept"=some (some (.ref Nw))) (l11:K.lookup Nw=some ⟨NA,Nx,.func (PySem.W.fnOf "swept" "swept" (aM (top 19)) (aJ (top 19)) (ae (top 19)) .none NB NC ND Ny JM NF),Nz⟩) (e11:PySem.W.codeIn K JM "swept"=true) (k11:PySem.W.keepIn K (.ref Nw)=true)
  (a12:PySem.W.nsIn K mainGlobals "whole_answers"=some (some (.ref NG))) (l12:K.lookup NG=some ⟨NK,NH,.func (PySem.W.fnOf "whole_answers" "whole_answers" (aM (top 20)) (aJ (top 20)) (ae (top 20)) .none NL NM NN NI JN NO),NJ⟩) (e12:PySem.W.codeIn K JN "whole_answers"=true) (k12:PySem.W.keepIn K (.ref NG)=true)
  (a13:PySem.W.nsIn K mainGlobals "steps_from"=some (some (.ref NP))) (l13:K.lookup NP=some ⟨NT,NQ,.func (PySem.W.fnOf "steps_from" "steps_from" (aM (top 22)) (aJ (top 22)) (ae (top 22)) .none NU NV NW NR JO NX),NS⟩) (e13:PySem.W.codeIn K JO "steps_from"=true) (k13:PySem.W.keepIn K (.ref NP)=true)
  (a14:PySem.W.nsIn K mainGlobals "parts"=some (some (.ref NY))) (l14:K.lookup NY=some ⟨N4,NZ,.func (PySem.W.fnOf "parts" "parts" (aM (top 23)) (aJ (top 23)) (ae (top 23)) .none N5 N6 N7 N0 (Value.ref tc) N8),N2⟩) (e14:PySem.W.codeIn K (Value.ref tc) "parts"=true) (k14:PySem.W.keepIn K (.ref NY)=true)
  (a15:PySem.W.nsIn K mainGlobals "ways_of_picks"=some (some (.ref N9))) (l15:K.lookup N9=some ⟨Od,Oa,.func (PySem.W.fnOf "ways_of_picks" "ways_of_picks" (aM (top 27)) (aJ (top 27)) (ae (top 27)) .none Oe Of Og Ob JP Oh),Oc⟩) (e15:PySem.W.codeIn K JP "ways_of_picks"=true) (k15:PySem.W.keepIn K (.ref N9)=true)
  (a16:PySem.W.nsIn K mainGlobals "checked_parts"=some (some (.ref Oi))) (l16:K.lookup Oi=some ⟨Oo,Oj,.func (PySem.W.fnOf "checked_parts" "checked_parts" (aM (top 28)) (aJ (top 28)) (ae (top 28)) .none Oq Ot Ou Ol JQ Ov),Om⟩) (e16:PySem.W.codeIn K JQ "checked_parts"=true) (k16:PySem.W.keepIn K (.ref Oi)=true)
  (a17:PySem.W.nsIn K mainGlobals "weighted_ways"=some (some (.ref Ow))) (l17:K.lookup Ow=some ⟨OA,Ox,.func (PySem.W.fnOf "weighted_ways" "weighted_ways" (aM (top 29)) (aJ (top 29)) (ae (top 29)) .none OB OC OD Oy JR OE),Oz⟩) (e17:PySem.W.codeIn K JR "weighted_ways"=true) (k17:PySem.W.keepIn K (.ref Ow)=true)
  (a18:PySem.W.nsIn K mainGlobals "all_weighted_ways"=some (some (.ref OF))) (l18:K.lookup OF=some ⟨OJ,OG,.func (PySem.W.fnOf "all_weighted_ways" "all_weighted_ways" (aM (top 30)) (aJ (top 30)) (ae (top 30)) .none OK OL OM OH JS ON),OI⟩) (e18:PySem.W.codeIn K JS "all_weighted_ways"=true) (k18:PySem.W.keepIn K (.ref OF)=true)
  (a19:PySem.W.nsIn K mainGlobals "total_weight"=some (some (.ref OO))) (l19:K.lookup OO=some ⟨OS,OP,.func (PySem.W.fnOf "total_weight" "total_weight" (aM (top 31)) (aJ (top 31)) (ae (top 31)) .none OT OU OV OQ JT OW),OR⟩) (e19:PySem.W.codeIn K JT "total_weight"=true) (k19:PySem.W.keepIn K (.ref OO)=true)
  (a20:PySem.W.nsIn K mainGlobals "part_rows"=some (some (.ref OX))) (l20:K.lookup OX=some ⟨O1,OY,.func (PySem.W.fnOf "part_rows" "part_rows" (aM (top 32)) (aJ (top 32)) (ae (top 32)) .none O2 O3 O4 OZ JU O5),O0⟩) (e20:PySem.W.codeIn K JU "part_rows"=true) (k20:PySem.W.keepIn K (.ref OX)=true)
  (a21:PySem.W.nsIn K mainGlobals "gain_of"=some (some (.ref O6))) (l21:K.lookup O6=some ⟨Pa,O7,.func (PySem.W.fnOf "gain_of" "gain_of" (aM (top 34)) (aJ (top 34)) (ae (top 34)) .none Pb Pc Pd O8 JV Pe),O9⟩) (e21:PySem.W.codeIn K JV "gain_of"=true) (k21:PySem.W.keepIn K (.ref O6)=true)
  (a22:PySem.W.nsIn K mainGlobals "book_of"=some (some (.ref Pf))) (l22:K.lookup Pf=some ⟨Pk,Pg,.func (PySem.W.fnOf "book_of" "book_of" (aM (top 35)) (aJ (top 35)) (ae (top 35)) .none Pn Po Pp Ph JW Pq),Pj⟩) (e22:PySem.W.codeIn K JW "book_of"=true) (k22:PySem.W.keepIn K (.ref Pf)=true)
  (a23:PySem.W.nsIn K mainGlobals "gains_of"=some (some (.ref Pt))) (l23:K.lookup Pt=some ⟨Py,Pu,.func (PySem.W.fnOf "gains_of" "gains_of" (aM (top 36)) (aJ (top 36)) (ae (top 36)) .none Pz PB PD Pw JX PF),Px⟩) (e23:PySem.W.codeIn K JX "gains_of"=true) (k23:PySem.W.keepIn K (.ref Pt)=true)
  (a24:PySem.W.nsIn K mainGlobals "blank_worths"=some (some (.ref PJ))) (l24:K.lookup PJ=some ⟨PN,PK,.func (PySem.W.fnOf "blank_worths" "blank_worths" (aM (top 37)) (aJ (top 37)) (ae (top 37)) .none PQ PR PU PL JY PV),PM⟩) (e24:PySem.W.codeIn K JY "blank_worths"=true) (k24:PySem.W.keepIn K (.ref PJ)=true)
  (a25:PySem.W.nsIn K mainGlobals "with_worths"=some (some (.ref PX))) (l25:K.lookup PX=some ⟨P1,PY,.func (PySem.W.fnOf "with_worths" "with_worths" (aM (top 38)) (aJ (top 38)) (ae (top 38)) .none P2 P4 P5 PZ JZ P6),P0⟩) (e25:PySem.W.codeIn K JZ "with_worths"=true) (k25:PySem.W.keepIn K (.ref PX)=true)
  (a26:PySem.W.nsIn K mainGlobals "wanted_way"=some (some (.ref P7))) (l26:K.lookup P7=some ⟨Qb,P8,.func (PySem.W.fnOf "wanted_way" "wanted_way" (aM (top 40)) (aJ (top 40)) (ae (top 40)) .none Qc Qd Qe P9 J0 Qf),Qa⟩) (e26:PySem.W.codeIn K J0 "wanted_way"=true) (k26:PySem.W.keepIn K (.ref P7)=true)
  (a27:PySem.W.nsIn K mainGlobals "better_ways"=some (some (.ref Qg))) (l27:K.lookup Qg=some ⟨Qk,Qh,.func (PySem.W.fnOf "better_ways" "better_ways" (aM (top 41)) (aJ (top 41)) (ae (top 41)) .none Ql Qm Qn Qi J1 Qo),Qj⟩) (e27:PySem.W.codeIn K J1 "better_ways"=true) (k27:PySem.W.keepIn K (.ref Qg)=true)
  (a28:PySem.W.nsIn K mainGlobals "picks_of"=some (some (.ref Qp))) (l28:K.lookup Qp=some ⟨Qt,Qq,.func (PySem.W.fnOf "picks_of" "picks_of" (aM (top 42)) (aJ (top 42)) (ae (top 42)) .none Qu Qv Qw Qr J2 Qx),Qs⟩) (e28:PySem.W.codeIn K J2 "picks_of"=true) (k28:PySem.W.keepIn K (.ref Qp)=true)
  (a29:PySem.W.nsIn K mainGlobals "with_best_worths"=some (some (.ref Qy))) (l29:K.lookup Qy=some ⟨QC,Qz,.func (PySem.W.fnOf "with_best_worths" "with_best_worths" (aM (top 43)) (aJ (top 43)) (ae (top 43)) .none QD QE QF QA J3 QG),QB⟩) (e29:PySem.W.codeIn K J3 "with_best_worths"=true) (k29:PySem.W.keepIn K (.ref Qy)=true)
  (a30:PySem.W.nsIn K mainGlobals "best_pick"=some (some (.ref QH))) (l30:K.lookup QH=some ⟨QL,QI,.func (PySem.W.fnOf "best_pick" "best_pick" (aM (top 44)) (aJ (top 44)) (ae (top 44)) .none QM QN QO QJ J4 QP),QK⟩) (e30:PySem.W.codeIn K J4 "best_pick"=true) (k30:PySem.W.keepIn K (.ref QH)=true)
  (a31:PySem.W.nsIn K mainGlobals "best"=some (some (.ref QR))) (l31:K.lookup QR=some ⟨QV,QS,.func (PySem.W.fnOf "best" "best" (aM (top 45)) (aJ (top 45)) (ae (top 45)) .none QW QX QY QT J5 QZ),QU⟩) (e31:PySem.W.codeIn K J5 "best"=true) (k31:PySem.W.keepIn K (.ref QR)=true)
  (a32:PySem.W.nsIn K mainGlobals "_law_cell"=some (some (.ref Q0))) (l32:K.lookup Q0=some ⟨Q8,Q4,.func (PySem.W.fnOf "_law_cell" "_law_cell" (aM (top 47)) (aJ (top 47)) (ae (top 47)) .none Ra Rb Rc Q5 J6 Rf),Q6⟩) (e32:PySem.W.codeIn K J6 "_law_cell"=true) (k32:PySem.W.keepIn K (.ref Q0)=true)
  (a33:PySem.W.nsIn K mainGlobals "_law_mixed"=some (some (.ref Rg))) (l33:K.lookup Rg=some ⟨Rk,Rh,.func (PySem.W.fnOf "_law_mixed" "_law_mixed" (aM (top 48)) (aJ (top 48)) (ae (top 48)) .none Rl Rn Ro Ri J7 Rp),Rj⟩) (e33:PySem.W.codeIn K J7 "_law_mixed"=true) (k33:PySem.W.keepIn K (.ref Rg)=true)
  (a34:PySem.W.nsIn K mainGlobals "_law_low"=some (some (.ref Rq))) (l34:K.lookup Rq=some ⟨Rv,Rr,.func (PySem.W.fnOf "_law_low" "_law_low" (aM (top 49)) (aJ (top 49)) (ae (top 49)) .none Rx Ry Rz Rt J8 RA),Ru⟩) (e34:PySem.W.codeIn K J8 "_law_low"=true) (k34:PySem.W.keepIn K (.ref Rq)=true)
  (a35:PySem.W.nsIn K mainGlobals "_law_times"=some (some (.ref RB))) (l35:K.lookup RB=some ⟨RF,RC,.func (PySem.W.fnOf "_law_times" "_law_times" (aM (top 51)) (aJ (top 51)) (ae (top 51)) .none RG RH RI RD J9 RJ),RE⟩) (e35:PySem.W.codeIn K J9 "_law_times"=true) (k35:PySem.W.keepIn K (.ref RB)=true)
  (a36:PySem.W.nsIn K mainGlobals "_law_share"=some (some (.ref RK))) (l36:K.lookup RK=some ⟨RO,RL,.func (PySem.W.fnOf "_law_share" "_law_share" (aM (top 52)) (aJ (top 52)) (ae (top 52)) .none RP RQ RS RM Ka RT),RN⟩) (e36:PySem.W.codeIn K Ka "_law_share"=true) (k36:PySem.W.keepIn K (.ref RK)=true)
  (a37:PySem.W.nsIn K mainGlobals "_law_turned"=some (some (.ref RU))) (l37:K.lookup RU=some ⟨RY,RV,.func (PySem.W.fnOf "_law_turned" "_law_turned" (aM (top 53)) (aJ (top 53)) (ae (top 53)) .none RZ R1 R3 RW Kb R4),RX⟩) (e37:PySem.W.codeIn K Kb "_law_turned"=true) (k37:PySem.W.keepIn K (.ref RU)=true)
  (a38:PySem.W.nsIn K mainGlobals "_law_throw"=some (some (.ref R5))) (l38:K.lookup R5=some ⟨R9,R6,.func (PySem.W.fnOf "_law_throw" "_law_throw" (aM (top 54)) (aJ (top 54)) (ae (top 54)) .none Sa Sb Sd R7 Kc Se),R8⟩) (e38:PySem.W.codeIn K Kc "_law_throw"=true) (k38:PySem.W.keepIn K (.ref R5)=true)
  (a39:PySem.W.nsIn K mainGlobals "_law_board"=some (some (.ref Sf))) (l39:K.lookup Sf=some ⟨Sk,Sg,.func (PySem.W.fnOf "_law_board" "_law_board" (aM (top 55)) (aJ (top 55)) (ae (top 55)) .none Sl Sm Sn Si Kd So),Sj⟩) (e39:PySem.W.codeIn K Kd "_law_board"=true) (k39:PySem.W.keepIn K (.ref Sf)=true)
  (a40:PySem.W.nsIn K mainGlobals "_law_copy"=some (some (.ref Sr))) (l40:K.lookup Sr=some ⟨Sw,Ss,.func (PySem.W.fnOf "_law_copy" "_law_copy" (aM (top 57)) (aJ (top 57)) (ae (top 57)) .none Sx Sy SA Su Kf SD),Sv⟩) (e40:PySem.W.codeIn K Kf "_law_copy"=true) (k40:PySem.W.keepIn K (.ref Sr)=true)
  (a41:PySem.W.nsIn K mainGlobals "_law_made"=some (some (.ref SE))) (l41:K.lookup SE=some ⟨SI,SF,.func (PySem.W.fnOf "_law_made" "_law_made" (aM (top 60)) (aJ (top 60)) (ae (top 60)) .none SJ SK SM SG Kg SN),SH⟩) (e41:PySem.W.codeIn K Kg "_law_made"=true) (k41:PySem.W.keepIn K (.ref SE)=true)
  (a42:PySem.W.nsIn K mainGlobals "_law_small"=some (some (.ref SO))) (l42:K.lookup SO=some ⟨SU,SQ,.func (PySem.W.fnOf "_law_small" "_law_small" (aM (top 61)) (aJ (top 61)) (ae (top 61)) .none SV SW SX SR Kh SY),SS⟩) (e42:PySem.W.codeIn K Kh "_law_small"=true) (k42:PySem.W.keepIn K (.ref SO)=true)
  (a43:PySem.W.nsIn K mainGlobals "law"=some (some (.ref S1))) (l43:K.lookup S1=some ⟨S6,S3,.func (PySem.W.fnOf "law" "law" (aM (top 62)) (aJ (top 62)) (ae (top 62)) .none S7 S8 S9 S4 Ki Ta),S5⟩) (e43:PySem.W.codeIn K Ki "law"=true) (k43:PySem.W.keepIn K (.ref S1)=true)
  (z_abs:PySem.W.nsIn K mainGlobals "abs"=some none)
  (z_all:PySem.W.nsIn K mainGlobals "all"=some none)
  (z_any:PySem.W.nsIn K mainGlobals "any"=some none)
  (z_enumerate:PySem.W.nsIn K mainGlobals "enumerate"=some none)
  (z_int:PySem.W.nsIn K mainGlobals "int"=some none)
  (z_len:PySem.W.nsIn K mainGlobals "len"=some none)
  (z_list:PySem.W.nsIn K mainGlobals "list"=some none)
  (z_max:PySem.W.nsIn K mainGlobals "max"=some none)
  (z_range:PySem.W.nsIn K mainGlobals "range"=some none)
  (z_sorted:PySem.W.nsIn K mainGlobals "sorted"=some none)
  (z_sum:PySem.W.nsIn K mainGlobals "sum"=some none)
  (z_zip:PySem.W.nsIn K mainGlobals "zip"=some none)
  (c_MOST_PLACES:PySem.W.nsIn K mainGlobals "MOST_PLACES"=some (some (.int 40 oF)))
  (c_MOST_PICKS:PySem.W.nsIn K mainGlobals "MOST_PICKS"=some (some (.int 4096 o3)))
  (k_Book:PySem.W.nsIn K mainGlobals "Book"=some (some (.ref aA)))
  (cl_Bookpg:PySem.W.plainGet K aA Str.empty=true)
  (cl_Bookhd:PySem.W.hasDictIn K aA=true)
  (cl_Bookpo:PySem.W.plainOver K aA=true)
  (cl_Booksa:PySem.W.findIn K (.ref aA) "__setattr__"=some (some (.builtin "object.__setattr__")))
  (na_Book_bottom:PySem.W.findIn K (.ref aA) "bottom"=some none)
  (na_Book_tops:PySem.W.findIn K (.ref aA) "tops"=some none)
  (dia_Book:PySem.W.findIn K (.ref aA) "__init__"=some (some (.ref mC)))
  (dii_Book:PySem.W.isFn K (.ref mC)=true)
  (dil_Book:K.lookup mC=some ⟨A8,A5,.func (PySem.W.fnOf "__init__" "Book.__init__" (aM (inClass (top 33) 0)) (aJ (inClass (top 33) 0)) (ae (inClass (top 33) 0)) .none A9 Ba Bb A6 uj Bc),A7⟩)
  (dic_Book:PySem.W.codeIn K uj "Book.__init__"=true)
  (dik_Book:PySem.W.keepIn K (.ref mC)=true)
  (dim_Book:PySem.W.makesIn K aA=true)
  (diq_Book:PySem.W.keepIn K (.ref aA)=true)
  (dma_Book_as_shares:PySem.W.findIn K (.ref aA) "as_shares"=some (some (.ref cW)))
  (dmi_Book_as_shares:PySem.W.isFn K (.ref cW)=true)
  (dml_Book_as_shares:K.lookup cW=some ⟨i5,iZ,.func (PySem.W.fnOf "as_shares" "Book.as_shares" (aM (inClass (top 33) 2)) (aJ (inClass (top 33) 2)) (ae (inClass (top 33) 2)) .none i7 i8 i9 i3 eJ ja),i4⟩)
  (dmc_Book_as_shares:PySem.W.codeIn K eJ "Book.as_shares"=true)
  (dmk_Book_as_shares:PySem.W.keepIn K (.ref cW)=true)
  (dma_Book_scaled:PySem.W.findIn K (.ref aA) "scaled"=some (some (.ref dA)))
  (dmi_Book_scaled:PySem.W.isFn K (.ref dA)=true)
  (dml_Book_scaled:K.lookup dA=some ⟨lO,lL,.func (PySem.W.fnOf "scaled" "Book.scaled" (aM (inClass (top 33) 1)) (aJ (inClass (top 33) 1)) (ae (inClass (top 33) 1)) .none lP lQ lU lM gi lV),lN⟩)
  (dmc_Book_scaled:PySem.W.codeIn K gi "Book.scaled"=true)
  (dmk_Book_scaled:PySem.W.keepIn K (.ref dA)=true)
  :∃fd:FuncData,(∀(s:Shared) (v:Value),BindsTo s fd ⟨[v],[]⟩ [("_law_script",v)])/\∀base:Heap,K.In base->base.Ns mainGlobals mg->oP base mg tc tp->d7 l.prog w K mg base (bQ l.prog w) 30 fa fd ["_law_script"] (wZ K tp):=by
 have e:=Yn.symm.trans (aal X G a43)
 cases e
 have T:Txt K mg aA tc:=⟨aa6 X G z_abs,aa6 X G z_all,aa6 X G z_any,aa6 X G z_enumerate,aa6 X G z_int,aa6 X G z_len,aa6 X G z_list,aa6 X G z_max,aa6 X G z_range,aa6 X G z_sorted,aa6 X G z_sum,aa6 X G z_zip,⟨_,_,bf l0 e0 k0,aal X G a0⟩,⟨_,_,bf l1 e1 k1,aal X G a1⟩,⟨_,_,bf l2 e2 k2,aal X G a2⟩,⟨_,_,bf l3 e3 k3,aal X G a3⟩,⟨_,_,bf l4 e4 k4,aal X G a4⟩,⟨_,_,bf l5 e5 k5,aal X G a5⟩,⟨_,_,bf l6 e6 k6,aal X G a6⟩,⟨_,_,bf l7 e7 k7,aal X G a7⟩,⟨_,_,bf l8 e8 k8,aal X G a8⟩,⟨_,_,bf l9 e9 k9,aal X G a9⟩,⟨_,_,bf l10 e10 k10,aal X G a10⟩,⟨_,_,bf l11 e11 k11,aal X G a11⟩,⟨_,_,bf l12 e12 k12,aal X G a12⟩,⟨_,_,bf l13 e13 k13,aal X G a13⟩,⟨_,_,bf l14 e14 k14,aal X G a14⟩,⟨_,_,bf l15 e15 k15,aal X G a15⟩,⟨_,_,bf l16 e16 k16,aal X G a16⟩,⟨_,_,bf l17 e17 k17,aal X G a17⟩,⟨_,_,bf l18 e18 k18,aal X G a18⟩,⟨_,_,bf l19 e19 k19,aal X G a19⟩,⟨_,_,bf l20 e20 k20,aal X G a20⟩,⟨_,_,bf l21 e21 k21,aal X G a21⟩,⟨_,_,bf l22 e22 k22,aal X G a22⟩,⟨_,_,bf l23 e23 k23,aal X G a23⟩,⟨_,_,bf l24 e24 k24,aal X G a24⟩,⟨_,_,bf l25 e25 k25,aal X G a25⟩,⟨_,_,bf l26 e26 k26,aal X G a26⟩,⟨_,_,bf l27 e27 k27,aal X G a27⟩,⟨_,_,bf l28 e28 k28,aal X G a28⟩,⟨_,_,bf l29 e29 k29,aal X G a29⟩,⟨_,_,bf l30 e30 k30,aal X G a30⟩,⟨_,_,bf l31 e31 k31,aal X G a31⟩,⟨_,_,bf l32 e32 k32,aal X G a32⟩,⟨_,_,bf l33 e33 k33,aal X G a33⟩,⟨_,_,bf l34 e34 k34,aal X G a34⟩,⟨_,_,bf l35 e35 k35,aal X G a35⟩,⟨_,_,bf l36 e36 k36,aal X G a36⟩,⟨_,_,bf l37 e37 k37,aal X G a37⟩,⟨_,_,bf l38 e38 k38,aal X G a38⟩,⟨_,_,bf l39 e39 k39,aal X G a39⟩,⟨_,_,bf l40 e40 k40,aal X G a40⟩,⟨_,_,bf l41 e41 k41,aal X G a41⟩,⟨_,_,bf l42 e42 k42,aal X G a42⟩,⟨_,aal X G c_MOST_PLACES⟩,⟨_,aal X G c_MOST_PICKS⟩,aal X G k_Book,⟨cl_Bookpg,cl_Bookhd,cl_Bookpo,cl_Booksa⟩,na_Book_bottom,na_Book_tops,⟨_,_,bf dil_Book dic_Book dik_Book,⟨dim_Book,dia_Book,dii_Book,diq_Book⟩,aal X G k_Book⟩,⟨_,_,bf dml_Book_as_shares dmc_Book_as_shares dmk_Book_as_shares,⟨dma_Book_as_shares,dmi_Book_as_shares,dmk_Book_as_shares⟩⟩,⟨_,_,bf dml_Book_scaled dmc_Book_scaled dmk_Book_scaled,⟨dma_Book_scaled,dmi_Book_scaled,dmk_Book_scaled⟩⟩,⟨_,_,_,_,_,aal X G a14,l14,rfl⟩⟩
 exact⟨_,λs v=>.of_eq rfl,λbase _ _ LB=>(GB T LB (bf l43 e43 k43)).mono (by decide)⟩
theorem walk {tc tp:Addr} {l:PySem.W.OpenLaw} {q:Program} {loose:List Str} {XP:(Str->Option Value)->Heap->Prop} {YP:World->Heap->Prop} {d:DefRec} {K:Params->PySem.W.Frag} (hn:l.most=some 63) (HI:d.params.defaults=[])
  (hY:∀(w:World) (h:Heap),YP w h->(K w.params).In h) (Mb:∀(w:World) (h:Heap),YP w h->h.get? tp=some (PySem.W.tabObj #[])/\PySem.W.CodeHd h tc tp/\(K w.params).lookup tp=none)
  (F:∀(w:World) (mg:Str->Option Value) (fa:Addr) (h:Heap),(K w.params).In h->h.Ns mainGlobals mg->mg d.name=some (.ref fa)->
   ∃fd:FuncData,(∀(s:Shared) (u:Value),BindsTo s fd ⟨[u],[]⟩ [("_law_script",u)])/\∀base:Heap,(K w.params).In base->base.Ns mainGlobals mg->oP base mg tc tp->d7 l.prog w (K w.params) mg base (bQ l.prog w) 30 fa fd ["_law_script"] (wZ (K w.params) tp)):
  PySem.W.WalkO q loose XP YP l.row.toRowW d [] (λf vs=>PySem.call f vs):=
 L2.zD (tc:=tc) (tp:=tp) (dsc:=dsc) (n:=63) (k:=30) (x:="_law_script") (CX:=λw=>bQ l.prog w) (sp:=λw=>wZ (K w.params) tp) hn (by decide) HI ⟨rfl,by decide,by decide⟩ hY Mb F (λ_ _ a ns hl hT hS=>⟨a,ns,rfl,hT,hS,hl,λ_=>rfl⟩) λ_ _ _ _ _ z=>(vZ _ _) _ _ _ _ _ z
end K46
open PySem PySem.W PyProof.Rows
set_option maxRecDepth 100000 in
set_option maxHeartbeats 0 in
theorem PySem.Challenge.cw_pressluck_k46_factors_and_signs_holds : PySem.Challenge.rw_pressluck_k46_factors_and_signs.Holds := by
  w_on; refine holds_law (by decide +kernel) fun ZG => ?_
  refine holds_open (q := K46.vw) (loose := []) (Xt := (fun s => xlAt K46.vw [] s && recOk (RowW.records (OpenRow.toRowW (PySem.W.OpenLaw.row PySem.Challenge.rw_pressluck_k46_factors_and_signs))) s)) (XP := XL K46.vw []) (Yf := Hook.obs (PySem.W.kmHook K46.pre.heap_1 K46.Dk K46.D8 [156])) (Ya := Hook.val (PySem.W.kmHook K46.pre.heap_1 K46.Dk K46.D8 [156])) (YP := Hook.says (PySem.W.kmHook K46.pre.heap_1 K46.Dk K46.D8 [156])) (N := 5412) (Hd.xu (by kernel_rfl) (by decide) (fun s => by kernel_rfl) K46.run) (Hook.of (PySem.W.kmHook K46.pre.heap_1 K46.Dk K46.D8 [156])) (Hook.keeps (PySem.W.kmHook K46.pre.heap_1 K46.Dk K46.D8 [156])) (fun s e => xl_of s (Bool.and_eq_true_iff.mp e).1) XL.keeps (by rfl) (by rfl) (by rfl) (fun s e => recFacts_of (Bool.and_eq_true_iff.mp e).2) (by rfl) (by first | assumption | decide +kernel) (by decide +kernel) ⟨rfl, rfl, rfl, rfl, rfl, by decide +kernel⟩ ?hw ?hc
  (case hw => w_witness2)
  k_fill
  refine K46.walk (tc := 158) (tp := 156) (l := PySem.Challenge.rw_pressluck_k46_factors_and_signs) rfl rfl (fun w h Y => PySem.W.km_in_of Y) (fun w h Y => ⟨PySem.W.km_tabs_of Y _ (.head _), PySem.W.codeHd_of_K (PySem.W.km_in_of Y) (by kernel_rfl), by kernel_rfl⟩) ?F
  case F =>
    intro w mg fa h KX G HJ
    refine' K46.all_mk (tc := 158) (tp := 156) KX G HJ ?a0 ?l0 ?e0 ?k0 ?a1 ?l1 ?e1 ?k1 ?a2 ?l2 ?e2 ?k2 ?a3 ?l3 ?e3 ?k3 ?a4 ?l4 ?e4 ?k4 ?a5 ?l5 ?e5 ?k5 ?a6 ?l6 ?e6 ?k6 ?a7 ?l7 ?e7 ?k7 ?a8 ?l8 ?e8 ?k8 ?a9 ?l9 ?e9 ?k9 ?a10 ?l10 ?e10 ?k10 ?a11 ?l11 ?e11 ?k11 ?a12 ?l12 ?e12 ?k12 ?a13 ?l13 ?e13 ?k13 ?a14 ?l14 ?e14 ?k14 ?a15 ?l15 ?e15 ?k15 ?a16 ?l16 ?e16 ?k16 ?a17 ?l17 ?e17 ?k17 ?a18 ?l18 ?e18 ?k18 ?a19 ?l19 ?e19 ?k19 ?a20 ?l20 ?e20 ?k20 ?a21 ?l21 ?e21 ?k21 ?a22 ?l22 ?e22 ?k22 ?a23 ?l23 ?e23 ?k23 ?a24 ?l24 ?e24 ?k24 ?a25 ?l25 ?e25 ?k25 ?a26 ?l26 ?e26 ?k26 ?a27 ?l27 ?e27 ?k27 ?a28 ?l28 ?e28 ?k28 ?a29 ?l29 ?e29 ?k29 ?a30 ?l30 ?e30 ?k30 ?a31 ?l31 ?e31 ?k31 ?a32 ?l32 ?e32 ?k32 ?a33 ?l33 ?e33 ?k33 ?a34 ?l34 ?e34 ?k34 ?a35 ?l35 ?e35 ?k35 ?a36 ?l36 ?e36 ?k36 ?a37 ?l37 ?e37 ?k37 ?a38 ?l38 ?e38 ?k38 ?a39 ?l39 ?e39 ?k39 ?a40 ?l40 ?e40 ?k40 ?a41 ?l41 ?e41 ?k41 ?a42 ?l42 ?e42 ?k42 ?a43 ?l43 ?e43 ?k43 ?z_abs ?z_all ?z_any ?z_enumerate ?z_int ?z_len ?z_list ?z_max ?z_range ?z_sorted ?z_sum ?z_zip ?c_MOST_PLACES ?c_MOST_PICKS ?k_Book ?cl_Bookpg ?cl_Bookhd ?cl_Bookpo ?cl_Booksa ?na_Book_bottom ?na_Book_tops ?dia_Book ?dii_Book ?dil_Book ?dic_Book ?dik_Book ?dim_Book ?diq_Book ?dma_Book_as_shares ?dmi_Book_as_shares ?dml_Book_as_shares ?dmc_Book_as_shares ?dmk_Book_as_shares ?dma_Book_scaled ?dmi_Book_scaled ?dml_Book_scaled ?dmc_Book_scaled ?dmk_Book_scaled
    (case a0 => k_is)
    (case l0 => k_is)
    (case e0 => k_is)
    (case k0 => k_is)
    (case a1 => k_is)
    (case l1 => k_is)
    (case e1 => k_is)
    (case k1 => k_is)
    (case a2 => k_is)
    (case l2 => k_is)
    (case e2 => k_is)
    (case k2 => k_is)
    (case a3 => k_is)
    (case l3 => k_is)
    (case e3 => k_is)
    (case k3 => k_is)
    (case a4 => k_is)
    (case l4 => k_is)
    (case e4 => k_is)
    (case k4 => k_is)
    (case a5 => k_is)
    (case l5 => k_is)
    (case e5 => k_is)
    (case k5 => k_is)
    (case a6 => k_is)
    (case l6 => k_is)
    (case e6 => k_is)
    (case k6 => k_is)
    (case a7 => k_is)
    (case l7 => k_is)
    (case e7 => k_is)
    (case k7 => k_is)
    (case a8 => k_is)
    (case l8 => k_is)
    (case e8 => k_is)
    (case k8 => k_is)
    (case a9 => k_is)
    (case l9 => k_is)
    (case e9 => k_is)
    (case k9 => k_is)
    (case a10 => k_is)
    (case l10 => k_is)
    (case e10 => k_is)
    (case k10 => k_is)
    (case a11 => k_is)
    (case l11 => k_is)
    (case e11 => k_is)
    (case k11 => k_is)
    (case a12 => k_is)
    (case l12 => k_is)
    (case e12 => k_is)
    (case k12 => k_is)
    (case a13 => k_is)
    (case l13 => k_is)
    (case e13 => k_is)
    (case k13 => k_is)
    (case a14 => k_is)
    (case l14 => k_is)
    (case e14 => k_is)
    (case k14 => k_is)
    (case a15 => k_is)
    (case l15 => k_is)
    (case e15 => k_is)
    (case k15 => k_is)
    (case a16 => k_is)
    (case l16 => k_is)
    (case e16 => k_is)
    (case k16 => k_is)
    (case a17 => k_is)
    (case l17 => k_is)
    (case e17 => k_is)
    (case k17 => k_is)
    (case a18 => k_is)
    (case l18 => k_is)
    (case e18 => k_is)
    (case k18 => k_is)
    (case a19 => k_is)
    (case l19 => k_is)
    (case e19 => k_is)
    (case k19 => k_is)
    (case a20 => k_is)
    (case l20 => k_is)
    (case e20 => k_is)
    (case k20 => k_is)
    (case a21 => k_is)
    (case l21 => k_is)
    (case e21 => k_is)
    (case k21 => k_is)
    (case a22 => k_is)
    (case l22 => k_is)
    (case e22 => k_is)
    (case k22 => k_is)
    (case a23 => k_is)
    (case l23 => k_is)
    (case e23 => k_is)
    (case k23 => k_is)
    (case a24 => k_is)
    (case l24 => k_is)
    (case e24 => k_is)
    (case k24 => k_is)
    (case a25 => k_is)
    (case l25 => k_is)
    (case e25 => k_is)
    (case k25 => k_is)
    (case a26 => k_is)
    (case l26 => k_is)
    (case e26 => k_is)
    (case k26 => k_is)
    (case a27 => k_is)
    (case l27 => k_is)
    (case e27 => k_is)
    (case k27 => k_is)
    (case a28 => k_is)
    (case l28 => k_is)
    (case e28 => k_is)
    (case k28 => k_is)
    (case a29 => k_is)
    (case l29 => k_is)
    (case e29 => k_is)
    (case k29 => k_is)
    (case a30 => k_is)
    (case l30 => k_is)
    (case e30 => k_is)
    (case k30 => k_is)
    (case a31 => k_is)
    (case l31 => k_is)
    (case e31 => k_is)
    (case k31 => k_is)
    (case a32 => k_is)
    (case l32 => k_is)
    (case e32 => k_is)
    (case k32 => k_is)
    (case a33 => k_is)
    (case l33 => k_is)
    (case e33 => k_is)
    (case k33 => k_is)
    (case a34 => k_is)
    (case l34 => k_is)
    (case e34 => k_is)
    (case k34 => k_is)
    (case a35 => k_is)
    (case l35 => k_is)
    (case e35 => k_is)
    (case k35 => k_is)
    (case a36 => k_is)
    (case l36 => k_is)
    (case e36 => k_is)
    (case k36 => k_is)
    (case a37 => k_is)
    (case l37 => k_is)
    (case e37 => k_is)
    (case k37 => k_is)
    (case a38 => k_is)
    (case l38 => k_is)
    (case e38 => k_is)
    (case k38 => k_is)
    (case a39 => k_is)
    (case l39 => k_is)
    (case e39 => k_is)
    (case k39 => k_is)
    (case a40 => k_is)
    (case l40 => k_is)
    (case e40 => k_is)
    (case k40 => k_is)
    (case a41 => k_is)
    (case l41 => k_is)
    (case e41 => k_is)
    (case k41 => k_is)
    (case a42 => k_is)
    (case l42 => k_is)
    (case e42 => k_is)
    (case k42 => k_is)
    (case a43 => k_is)
    (case l43 => k_is)
    (case e43 => k_is)
    (case k43 => k_is)
    (case z_abs => k_is)
    (case z_all => k_is)
    (case z_any => k_is)
    (case z_enumerate => k_is)
    (case z_int => k_is)
    (case z_len => k_is)
    (case z_list => k_is)
    (case z_max => k_is)
    (case z_range => k_is)
    (case z_sorted => k_is)
    (case z_sum => k_is)
    (case z_zip => k_is)
    (case c_MOST_PLACES => k_is)
    (case c_MOST_PICKS => k_is)
    (case k_Book => k_is)
    (case cl_Bookpg => k_is)
    (case cl_Bookhd => k_is)
    (case cl_Bookpo => k_is)
    (case cl_Booksa => k_is)
    (case na_Book_bottom => k_is)
    (case na_Book_tops => k_is)
    (case dia_Book => k_is)
    (case dii_Book => k_is)
    (case dil_Book => k_is)
    (case dic_Book => k_is)
    (case dik_Book => k_is)
    (case dim_Book => k_is)
    (case diq_Book => k_is)
    (case dma_Book_as_shares => k_is)
    (case dmi_Book_as_shares => k_is)
    (case dml_Book_as_shares => k_is)
    (case dmc_Book_as_shares => k_is)
    (case dmk_Book_as_shares => k_is)
    (case dma_Book_scaled => k_is)
    (case dmi_Book_scaled => k_is)
    (case dml_Book_scaled => k_is)
    (case dmc_Book_scaled => k_is)
    (case dmk_Book_scaled => k_is)
