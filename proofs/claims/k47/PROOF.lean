import PyProof.Rows.All
import Wide.All
import OpenK.AllK
import Wide.FinOn
import Lean
import PyProof.EqAt
import PyProof.EqKinds
import PyProof.TupleCall
import PyProof.NeKinds
import PySem.Challenge.RW_pressluck_k47_long_boards_played_best
set_option Elab.async false
set_option linter.all false
set_option maxRecDepth 100000
theorem aab : type_of% @List.length_map := @List.length_map
theorem aac : type_of% @List.getElem?_eq_getElem := @List.getElem?_eq_getElem
theorem aad : type_of% @List.mem_of_getElem? := @List.mem_of_getElem?
theorem aae : type_of% @Nat.le_refl := @Nat.le_refl
theorem aaf : type_of% @List.getElem?_map := @List.getElem?_map
theorem aag : type_of% @PySem.W.mg_of := @PySem.W.mg_of
theorem aah : type_of% @List.size_toArray := @List.size_toArray
theorem aai : type_of% @List.getD_eq_getElem?_getD := @List.getD_eq_getElem?_getD
theorem aaj : type_of% @Nat.ne_of_lt := @Nat.ne_of_lt
theorem aak : type_of% @List.mem_cons_of_mem := @List.mem_cons_of_mem
theorem aal : type_of% @List.mem_cons_self := @List.mem_cons_self
theorem aam : type_of% @List.getElem?_of_mem := @List.getElem?_of_mem
theorem aan : type_of% @Nat.lt_of_lt_of_le := @Nat.lt_of_lt_of_le
theorem aao : type_of% @List.map_cons := @List.map_cons
theorem aap : type_of% @Int.toNat_natCast := @Int.toNat_natCast
theorem aaq : type_of% @Bool.false_ne_true := @Bool.false_ne_true
theorem aar : type_of% @Nat.zero_le := @Nat.zero_le
theorem aas : type_of% @Nat.le_trans := @Nat.le_trans
theorem aat : type_of% @List.getElem?_eq_none := @List.getElem?_eq_none
theorem aau : type_of% @PySem.boot_len := @PySem.boot_len
theorem aav : type_of% @List.getElem_mem := @List.getElem_mem
theorem aaw : type_of% @List.length_cons := @List.length_cons
theorem aax : type_of% @Option.some.inj := @Option.some.inj
theorem aay : type_of% @List.getElem?_set_self := @List.getElem?_set_self
theorem aaz : type_of% @List.length_set := @List.length_set
theorem aaA : type_of% @List.getElem?_set_ne := @List.getElem?_set_ne
theorem aaB : type_of% @List.append_assoc := @List.append_assoc
theorem aaC : type_of% @Int.mul_pos := @Int.mul_pos
theorem aaD : type_of% @List.take_of_length_le := @List.take_of_length_le
theorem aaE : type_of% @List.length_range := @List.length_range
theorem aaF : type_of% @List.lookup_cons := @List.lookup_cons
theorem aaG : type_of% @Nat.zero_add := @Nat.zero_add
theorem aaH : type_of% @PySem.W.mg_none_of := @PySem.W.mg_none_of
theorem aaI : type_of% @List.take_add_one := @List.take_add_one
theorem aaJ : type_of% @Nat.lt_irrefl := @Nat.lt_irrefl
theorem aaK : type_of% @Nat.lt_succ_self := @Nat.lt_succ_self
theorem aaL : type_of% @List.append_nil := @List.append_nil
theorem aaM : type_of% @List.length_append := @List.length_append
theorem aaN : type_of% @Bool.and_eq_true := @Bool.and_eq_true
theorem aaO : type_of% @List.map_append := @List.map_append
theorem aaP : type_of% @Int.le_refl := @Int.le_refl
theorem aaQ : type_of% @List.mem_append_right := @List.mem_append_right
theorem aaR : type_of% @List.map_nil := @List.map_nil
theorem aaS : type_of% @Int.mul_comm := @Int.mul_comm
theorem aaT : type_of% @Bool.false_eq_true := @Bool.false_eq_true
theorem aaU : type_of% @Array.getElem?_toList := @Array.getElem?_toList
theorem aaV : type_of% @Int.mul_assoc := @Int.mul_assoc
theorem aaW : type_of% @PySem.W.kia_one := @PySem.W.kia_one
theorem aaX : type_of% @PySem.mem_of_lookup := @PySem.mem_of_lookup
theorem aaY : type_of% @List.take_append_drop := @List.take_append_drop
theorem aaZ : type_of% @List.length_replicate := @List.length_replicate
theorem aa0 : type_of% @Int.eq_ofNat_of_zero_le := @Int.eq_ofNat_of_zero_le
theorem aa1 : type_of% @Int.le_of_dvd := @Int.le_of_dvd
theorem aa2 : type_of% @List.getElem?_drop := @List.getElem?_drop
theorem aa3 : type_of% @List.ext_getElem? := @List.ext_getElem?
theorem aa4 : type_of% @List.pairwise_append := @List.pairwise_append
theorem aa5 : type_of% @List.length_take := @List.length_take
theorem aa6 : type_of% @List.getElem?_append_right := @List.getElem?_append_right
theorem aa7 : type_of% @List.nil_append := @List.nil_append
theorem aa8 : type_of% @Nat.not_lt_zero := @Nat.not_lt_zero
theorem aa9 : type_of% @Nat.lt_succ_of_lt := @Nat.lt_succ_of_lt
theorem aba : type_of% @List.set_cons_zero := @List.set_cons_zero
theorem abb : type_of% @List.set_cons_succ := @List.set_cons_succ
theorem abc : type_of% @List.getElem_idxOf := @List.getElem_idxOf
theorem abd : type_of% @List.idxOf_lt_length_of_mem := @List.idxOf_lt_length_of_mem
theorem abe : type_of% @PySem.F.plainAttrs_list := @PySem.F.plainAttrs_list
theorem abf : type_of% @List.getElem?_append_left := @List.getElem?_append_left
theorem abg : type_of% @List.filterMap_append := @List.filterMap_append
theorem abh : type_of% @List.getElem?_cons_succ := @List.getElem?_cons_succ
theorem abi : type_of% @List.getElem?_cons_zero := @List.getElem?_cons_zero
theorem abj : type_of% @Option.some.injEq := @Option.some.injEq
theorem abk : type_of% @Array.length_toList := @Array.length_toList
theorem abl : type_of% @List.getElem?_range := @List.getElem?_range
theorem abm : type_of% @List.replicate_zero := @List.replicate_zero
theorem abn : type_of% @PySem.F.slot_list_append := @PySem.F.slot_list_append
theorem abo : type_of% @PySem.F.type_list_append := @PySem.F.type_list_append
theorem abp : type_of% @Int.toNat_of_nonneg := @Int.toNat_of_nonneg
theorem abq : type_of% @Int.mul_le_mul_of_nonneg_right := @Int.mul_le_mul_of_nonneg_right
namespace Hd
open PySem PySem.W PyProof.Rows
noncomputable def vg (ok:Thread->Bool) (st:SharedT->Thread->Option (SharedT×Thread)) (n:Nat):SharedT->Thread->Option SharedT:=
 @Nat.rec (λ_=>SharedT->Thread->Option SharedT) (λ_ _=>none)
  (λ_ ih s t=>@Bool.rec (λ_=>Option SharedT) (@Bool.rec (λ_=>Option SharedT) none (@Option.rec (SharedT×Thread) (λ_=>Option SharedT) none (λr=>@Prod.rec _ _ (λ_=>Option SharedT) (λa b=>ih a b) r) (st s t)) (ok t)) (some s) (through t)) n
theorem mz {tb:String->Option Builtin} {p:Program} {w:World} {n₀:Nat} {ann:Option Value}:∀(n:Nat) (s:SharedT) (t:Thread) (s':SharedT),vg (stepOk n₀ ann) (stepT (denote tb) p w) n s t=some s'->topRun tb p w n₀ ann n s.abs t=some s'.abs
 | 0,_,_,_,h=>by cases h
 | n+1,s,t,s',h=>by
  unfold topRun
  replace h:@Bool.rec (λ_=>Option SharedT) (@Bool.rec (λ_=>Option SharedT) none (@Option.rec (SharedT×Thread) (λ_=>Option SharedT) none (λr=>@Prod.rec _ _ (λ_=>Option SharedT) (λa b=>vg (stepOk n₀ ann) (stepT (denote tb) p w) n a b) r) (stepT (denote tb) p w s t)) (stepOk n₀ ann t)) (some s) (through t)=some s':=h
  cases ht:through t with
  | true=>rw[ht] at h;cases h;rfl
  | false=>
   rw[ht] at h
   cases hk:stepOk n₀ ann t with
   | false=>rw[hk] at h;cases h
   | true=>
    rw[hk] at h
    cases hs:stepT (denote tb) p w s t with
    | none=>rw[hs] at h;cases h
    | some r=>obtain⟨s₂,t₂⟩:=r;rw[hs] at h;rw[stepT_spec hs];exact mz n s₂ t₂ s' h
noncomputable def bt (P:Params):BT:=((boot_heap P).objs.toList.foldl (fun(x:BT×Nat) o=>(x.1.ins x.2 o,x.2+1)) (.nil,0)).1
noncomputable def xS (w:World) (os:OsState):SharedT:=⟨bt w.params,11,{},Array.mk [],boot_drawn,boot_toks,os⟩
theorem wz (w:World) (os:OsState):(xS w os).abs=⟨boot_heap w.params,Array.mk [],boot_drawn,boot_toks,os⟩:=by kernel_rfl
theorem t8 (w:World):((boot_heap w.params).isNs mainGlobals && (Array.mk []:Array GenState).size==0,(boot_heap w.params).objs.size,(boot_heap w.params).nsMap mainGlobals "__annotations__")=(true,11,some (.ref 6)):=by kernel_rfl
theorem xT {p q:Program} {loose:List Str} {Xt:Shared->Bool} {α:Type} {Yf:Shared->α} {Ya:World->α} {N:Nat} {g0:Bool}
  (FW:∀w:World,(fencedOpening treeTable p w N).map (λs=>(s.heap,s.gens,s.drawn,s.toks))=some (boot_heap w.params,Array.mk [],boot_drawn,boot_toks))
  (run:∀(w:World) (os:OsState),(vg (stepOk 11 (some (.ref 6))) (stepT (denote treeTable) p w) N (xS w os) (topStub p)).map (λs=>((staticsOk (importedModules p.main.body) (boot_heap w.params) s.abs.heap && namesBound p s.abs.heap && gensDone s.abs && laidKept (boot_heap w.params) s.abs.heap),openSeen q loose (importedModules p.main.body) Xt g0 s.abs,Yf s.abs))=some (true,openGood q loose,Ya w)):
  LeftO p q loose Xt Yf Ya N g0:=λw=>by
 obtain⟨⟨h,gs,d,k,os⟩,e,e'⟩:=Option.map_eq_some_iff.mp (FW w)
 obtain⟨rfl,rfl,rfl,rfl⟩:h=boot_heap w.params/\gs=Array.mk []/\d=boot_drawn/\k=boot_toks:=by simpa using e'
 obtain⟨z1,z2,z3⟩:_/\_/\_:=by simpa only[Prod.mk.injEq] using t8 w
 obtain⟨s,r,l⟩:=Option.map_eq_some_iff.mp (run w os)
 obtain⟨l1,l2,l3⟩:_/\_/\_:=by simpa only[Prod.mk.injEq] using l
 have r:=mz _ _ _ _ r
 rw[wz] at r
 have t:topFrom treeTable p w N ⟨boot_heap w.params,Array.mk [],boot_drawn,boot_toks,os⟩=some s.abs:=by
  unfold topFrom
  dsimp only
  rw[z1,z2,z3,r]
  show(match staticsOk (importedModules p.main.body) (boot_heap w.params) s.abs.heap && namesBound p s.abs.heap && gensDone s.abs && laidKept (boot_heap w.params) s.abs.heap with | true=>_ | false=>_)=_
  rw[l1]
 unfold openEnds
 rw[e]
 show((topFrom treeTable p w N ⟨boot_heap w.params,Array.mk [],boot_drawn,boot_toks,os⟩)).map _=_
 rw[t]
 show some (_,_)=_
 rw[l2,l3]
noncomputable def Runs (p q:Program) (loose:List Str) (Xt:Shared->Bool) {α:Type} (Yf:Shared->α) (Ya:World->α) (N:Nat) (g0:Bool) (w:World):Prop:=
 ∀os:OsState,(vg (PySem.W.Fast.tw6613529449190102663 11 (some (.ref 6))) (PySem.W.Fast.tw10156331382660048174 (PySem.W.Fast.tw11892475500146522536 PySem.W.Fast.tw14364793385576792824) p w) N (xS w os) (topStub p)).map (λs=>((staticsOk (importedModules p.main.body) (boot_heap w.params) s.abs.heap && namesBound p s.abs.heap && gensDone s.abs && laidKept (boot_heap w.params) s.abs.heap),PySem.W.Fast.tw4187177175401517315 q loose (importedModules p.main.body) Xt g0 s.abs,Yf s.abs))=some (true,openGood q loose,Ya w)
theorem wA {p q:Program} {loose:List Str} {Xt:Shared->Bool} {α:Type} {Yf:Shared->α} {Ya:World->α} {N:Nat} {g0:Bool}
  (e:opening p=plainProg p.main.scope.names) (hN:Nat.ble 600 N=true) (f:∀s,fenceModules? p s=some s)
  (run:∀w:World,Runs p q loose Xt Yf Ya N g0 w):
  LeftO p q loose Xt Yf Ya N g0:=by
 refine xT (boot_open e hN f) ?_
 unfold Runs at run
 rw[PySem.W.Fast.te6613529449190102663,PySem.W.Fast.te10156331382660048174,PySem.W.Fast.te11892475500146522536,PySem.W.Fast.te14364793385576792824,PySem.W.Fast.te4187177175401517315]
 exact run
end Hd
namespace K47
open PySem PySem.Spec PyProof.Rows
noncomputable def top (i:Nat):Stmt:=PySem.Challenge.pw_pressluck_k47_long_boards_played_best.main.body.getD i (.Pass ⟨0,0,0,0⟩)
end K47
section Kh
open PySem PySem.W PyProof.Rows
local macro_rules | `(tactic| o_head $H) => `(tactic| (refine (fun (_ : PySem.W.Hook) => ?_) $H; assumption))
theorem K47.pre (h:PySem.W.OpenRow.Holds (PySem.W.OpenLaw.row PySem.Challenge.rw_pressluck_k47_long_boards_played_best)):PySem.W.OpenRow.Holds (PySem.W.OpenLaw.row PySem.Challenge.rw_pressluck_k47_long_boards_played_best):=by
 k_head
noncomputable def K47.Ci:List Addr:=[2,3,15,18,19,20,23,24,25,28,29,30,33,34,35,38,39,40,47,48,49,50,53,60,61,62,65,72,74,75,77,78,79,80,81,84,91,92,93,96,98,99,101,102,103,105,106,108,109,110,112,113,115,116,117,119,120,122,123,124,126,127,129,130,131,134,135,136,138,139,141,142,143,146,147,148,150,151,153,154,155,158,159,160,162,163,165,166,167,169,170,172,173,174,176,177,179,180,181,184,185,186,189,190,191,193,194,196,197,205,207,208,210,211,212,215,216,217,220,221,222,223,224,225,226,229,231,232,234,235,236,239,240,241,244,245,246,248,249,251,252,253,256,257,258,261,262,263,265,266,268,269,270,273,274,275,277,278,280,281,282,285,286,287,290,291,292,294,295,297,298,299,301,302,304,305,306,308,309,311,312,313,315,316,318,319,320,322,323,325,326,327,329,330,332,333,334,337,338,339,342,343,344,347,348,349,352,353,354,357,358,359,361,362,364,365,366,369,370]
theorem K47.CY (P:PySem.Params):K47.Ci=(K47.pre.heap_1 P).map (·.1):=by kernel_rfl
noncomputable def K47.vw:PySem.Program:={PySem.Challenge.pw_pressluck_k47_long_boards_played_best with main:={PySem.Challenge.pw_pressluck_k47_long_boards_played_best.main with body:=[K47.top 1,K47.top 2,K47.top 3,K47.top 4,K47.top 5,K47.top 7,K47.top 8,K47.top 9,K47.top 10,K47.top 12,K47.top 13,K47.top 14,K47.top 16,K47.top 17,K47.top 18,K47.top 19,K47.top 20,K47.top 22,K47.top 23,K47.top 25,K47.top 26,K47.top 27,K47.top 28,K47.top 29,K47.top 30,K47.top 31,K47.top 32,K47.top 33,K47.top 34,K47.top 35,K47.top 36,K47.top 37,K47.top 38,K47.top 40,K47.top 41,K47.top 42,K47.top 43,K47.top 44,K47.top 45,K47.top 47,K47.top 48,K47.top 49,K47.top 50,K47.top 51,K47.top 52,K47.top 53,K47.top 54,K47.top 55,K47.top 56,K47.top 57,K47.top 58,K47.top 59]}}
theorem K47.run (w:World):Hd.Runs (RowW.prog (OpenRow.toRowW (PySem.W.OpenLaw.row PySem.Challenge.rw_pressluck_k47_long_boards_played_best))) K47.vw [] (λs=>xlAt K47.vw [] s && recOk (RowW.records (OpenRow.toRowW (PySem.W.OpenLaw.row PySem.Challenge.rw_pressluck_k47_long_boards_played_best))) s) (Hook.obs (PySem.W.kmHook K47.pre.heap_1 K47.Ci K47.CY [156])) (Hook.val (PySem.W.kmHook K47.pre.heap_1 K47.Ci K47.CY [156])) 5184 true w:=λos=>by kernel_rfl
end Kh
set_option tactic.hygienic false
set_option compiler.extract_closed false
local macro_rules | `(tactic| omega) => `(tactic| lia)
namespace L2
open PySem PySem.Spec PyProof.Rows
abbrev Key:=Sum Int Str
noncomputable def mC:Key->Value->Bool
 | .inl k,v=>Value.isInt k v
 | .inr x,v=>Value.isStrOf x v
noncomputable def CZ (w:World):Key->Int
 | .inl k=>hashInt k
 | .inr x=>hashStr w x
theorem bV:∀{k:Key} {v:Value},mC k v=true->(∃i t,k=Sum.inl i/\v=Value.int i t)\/(∃x t,k=Sum.inr x/\v=Value.str x t)
 | .inl i,v,h=>by
  obtain⟨t,e⟩:=Value.isInt_shape (k:=i) (v:=v) h
  exact .inl ⟨i,t,rfl,e⟩
 | .inr x,v,h=>by
  obtain⟨t,e⟩:=Value.isStrOf_shape (x:=x) (v:=v) h
  exact .inr ⟨x,t,rfl,e⟩
theorem wB (i:Int) (t:Tok):mC (.inl i) (.int i t)=true:=by simp [mC,Value.isInt]
theorem wC (x:Str) (t:Tok):mC (.inr x) (.str x t)=true:=by simp [mC,Value.isStrOf]
theorem C0 (a b:Int):decide ((Sum.inl a:Key)=Sum.inl b)=(a==b):=by
 by_cases e:a=b
 ·subst e;simp
 ·have h:¬(Sum.inl a:Key)=Sum.inl b:=λq=>e (Sum.inl.inj q)
  rw[decide_eq_false h]
  exact(beq_eq_false_iff_ne.mpr e).symm
theorem C3 (a b:Str):decide ((Sum.inr a:Key)=Sum.inr b)=decide (a=b):=by
 by_cases e:a=b
 ·subst e;simp
 ·have h:¬(Sum.inr a:Key)=Sum.inr b:=λq=>e (Sum.inr.inj q)
  rw[decide_eq_false h,decide_eq_false e]
theorem C4 (a:Int) (b:Str):decide ((Sum.inl a:Key)=Sum.inr b)=false:=decide_eq_false (λq=>nomatch q)
theorem C5 (a:Str) (b:Int):decide ((Sum.inr a:Key)=Sum.inl b)=false:=decide_eq_false (λq=>nomatch q)
noncomputable def bQ (prog:Program) (w:World):PySem.KeyKind prog w Key where
 is:=mC
 hash:=CZ w
 inj:=λv a b ha hb=>by
  rcases bV ha with ⟨i,t,rfl,rfl⟩ | ⟨x,t,rfl,rfl⟩
  ·rcases bV hb with ⟨j,u,rfl,e⟩ | ⟨y,u,rfl,e⟩
   ·injection e with e1 _;rw[e1]
   ·exact nomatch e
  ·rcases bV hb with ⟨j,u,rfl,e⟩ | ⟨y,u,rfl,e⟩
   ·exact nomatch e
   ·injection e with e1 _;rw[e1]
 byValue:=λk v h=>by
  rcases bV h with ⟨i,t,rfl,rfl⟩ | ⟨x,t,rfl,rfl⟩ <;>rfl
 pyHash:=λhv h=>by
  rcases bV hv with ⟨i,t,rfl,rfl⟩ | ⟨x,t,rfl,rfl⟩
  ·exact wpAny_pyHash_int h
  ·exact wpAny_pyHash_str h
 eqBool:=λhu hv h=>by
  rcases bV hu with ⟨i,t,rfl,rfl⟩ | ⟨x,t,rfl,rfl⟩
  ·rcases bV hv with ⟨j,u,rfl,rfl⟩ | ⟨y,u,rfl,rfl⟩
   ·rw[C0] at h;exact wpAny_eqBool_int h
   ·rw[C4] at h;exact SeqAt.EqAt.int_str i t y u _ _ _ _ h
  ·rcases bV hv with ⟨j,u,rfl,rfl⟩ | ⟨y,u,rfl,rfl⟩
   ·rw[C5] at h;exact SeqAt.EqAt.str_int x t j u _ _ _ _ h
   ·rw[C3] at h;exact wpAny_eqBool_str h
 «strs»:=λk x t v h=>by
  rcases bV h with ⟨i,u,rfl,e⟩ | ⟨y,u,rfl,e⟩
  ·exact nomatch e
  ·injection e with e1 _
   subst e1
   cases v <;>rfl
theorem rn (prog:Program) (w:World) (i:Int) (t:Tok):(bQ prog w).is (.inl i) (.int i t)=true:=wB i t
theorem rp (prog:Program) (w:World) (x:Str) (t:Tok):(bQ prog w).is (.inr x) (.str x t)=true:=wC x t
end L2
namespace L2
open PySem PySem.Spec PyProof.Rows
inductive V where
 | cc | bl (b:Bool) | int (i:Int) | str (x:Str) | xJ (b:Array UInt8) | C6 (b:UInt64) | ref (a:Addr) | ty (n:String)
 deriving DecidableEq
noncomputable def RelV:V->Value->Prop
 | .cc,u=>u=Value.none
 | .bl b,u=>u=Value.bool b
 | .int i,u=>∃t,u=Value.int i t
 | .str x,u=>∃t,u=Value.str x t
 | .xJ b,u=>∃t,u=Value.bytes b t
 | .C6 b,u=>∃t,u=Value.float b t
 | .ref a,u=>u=Value.ref a
 | .ty n,u=>u=Value.type n
abbrev aY:List V->List Value->Prop:=Paired RelV
theorem aY.length {xs:List V} {us:List Value} (r:aY xs us):xs.length=us.length:=Paired.length r
theorem aY.get:∀{xs:List V} {us:List Value} {i:Nat} {x:V},aY xs us->xs[i]?=some x->∃u,us[i]?=some u/\RelV x u
 | _,_,_,_,.nil,e=>by simp at e
 | _,_,0,_,.cons r _,e=>by simp at e;subst e;exact⟨_,rfl,r⟩
 | _,_,i+1,x,.cons _ t,e=>by
  obtain⟨u,h1,h2⟩:=aY.get (i:=i) (x:=x) t (by simpa using e)
  exact⟨u,by simpa using h1,h2⟩
theorem aY.set {x:V} {u:Value} (r:RelV x u):∀{xs:List V} {us:List Value} (i:Nat),aY xs us->aY (xs.set i x) (us.set i u)
 | _,_,_,.nil=>.nil
 | _,_,0,.cons _ t=>.cons r t
 | _,_,i+1,.cons q t=>.cons q (aY.set r i t)
theorem aY.append:∀{xs ys:List V} {us ws:List Value},aY xs us->aY ys ws->aY (xs++ys) (us++ws)
 | _,_,_,_,.nil,s=>s
 | _,_,_,_,.cons r t,s=>.cons r (aY.append t s)
theorem aY.take:∀{xs:List V} {us:List Value} (n:Nat),aY xs us->aY (xs.take n) (us.take n)
 | _,_,0,_=>.nil
 | _,_,_+1,.nil=>.nil
 | _,_,n+1,.cons r t=>.cons r (aY.take n t)
theorem aY.drop:∀{xs:List V} {us:List Value} (n:Nat),aY xs us->aY (xs.drop n) (us.drop n)
 | _,_,0,r=>r
 | _,_,_+1,.nil=>.nil
 | _,_,n+1,.cons _ t=>aY.drop n t
noncomputable def hV:Option V->Option Value->Prop
 | some v,some u=>RelV v u
 | none,none=>True
 | _,_=>False
noncomputable def KV {κ:Type}:List (κ×V)->List (κ×Value)->Prop:=Paired fun(p:κ×V) (q:κ×Value)=>p.1=q.1/\RelV p.2 q.2
noncomputable def kV:Key->V
 | .inl i=>.int i
 | .inr x=>.str x
inductive HO where
 | lst (xs:List V)
 | tup (xs:List V)
 | dK (kvs:List (Key×V)) | dT (kvs:List (List Key×V))
 | set (S:Int->Bool) (n:Nat)
 | ins (C dx:Addr) (fs:List (Str×V))
 | own (x:Addr)
 | xd (fs:List (Str×V))
 | met (f x:Addr)
 | jH (lo hi:Int)
 | qX (o:Obj) (u:HO)
 | qY (ps:Array Value)
 | ext (φ:Heap->Prop)
abbrev Hp:=Addr->Option HO
noncomputable def upd (H:Hp) (a:Addr) (o:HO):Hp:=λb=>if b=a then some o else H b
theorem ah {H:Hp} {a:Addr} {o:HO}:upd H a o a=some o:=by unfold upd;rw[if_pos rfl]
theorem au {H:Hp} {a b:Addr} {o:HO} (h:b≠a):upd H a o b=H b:=by unfold upd;rw[if_neg h]
theorem AM {H:Hp} {a:Addr} {o u:HO}:upd (upd H a o) a u=upd H a u:=by
 funext b;unfold upd;split <;>rfl
theorem FX {H:Hp} {a b:Addr} {o u:HO} (h:H a=some o) (h':H b=some u) (d:o≠u):a≠b:=by
 intro e;subst e;rw[h] at h';exact d (aax h')
theorem bh {H:Hp} {a b:Addr} {o:HO} (h:H a=some o) (h':H b=none):a≠b:=by
 intro e;subst e;rw[h] at h';cases h'
noncomputable def TabAt (H:Hp) (h:Heap) (a:Addr) (ps:Array Value):Prop:=∃mo:Array Value,h.get? a=some {cls:=.none,data:=.fields mo}/\
 (mo=#[]\/∃(l c:Value) (c1:Addr) (q:Str) (t:Tok),ps=#[l,c,.str q t]/\mo=#[l,c,.ref c1]/\H c1=some (.own a)/\h.CodeRec (.ref c1) q)
section
variable (P : Program) (w : World)
noncomputable def bW (H:Hp) (h:Heap) (a:Addr):HO->Prop
 | .lst xs=>xs.length<=sizeLine/\∃(aP:List Value) (n:Nat),aY xs aP/\h.get? a=some {cls:=.type "list",data:=.seq aP.toArray n}
 | .tup xs=>xs.length<=sizeLine/\∃aP:List Value,aY xs aP/\IsTup h a aP.toArray
 | .dK kvs=>kvs.length<=sizeLine/\(a==sysModules)=false/\∃vs,KV kvs vs/\h.DictOf (bQ P w) a vs
 | .dT kvs=>kvs.length<=sizeLine/\(a==sysModules)=false/\∃xs:List (List Key×Addr×Value),
   Paired (fun(p:List Key×V) (q:List Key×Addr×Value)=>p.1=q.1/\H q.2.1=some (.tup (p.1.map kV))/\RelV p.2 q.2.2) kvs xs/\
   ∃o es ep,h.get? a=some o/\o.ExactDict/\o.data=.dict es ep/\es.toList=xs.map (entryOfKey (tupleKind (bQ P w)))/\(xs.map (·.1)).Nodup
 | .set S n=>h.SetOf (intKind P w) a S n
 | .ins C dx fs=>H dx=some (.own a)/\fs.length<=1000/\dx≠a/\h.get? a=some (PySem.W.instObj C dx)/\
   ∃mA,h.Ns1 dx mA/\(∀f,hV (fs.lookup f) (mA f))/\PySem.Within mA (fs.map (·.1))
 | .own _=>∃o,h.get? a=some o
 | .xd fs=>∃mA,h.Ns1 a mA/\∀f,hV (fs.lookup f) (mA f)
 | .jH lo hi=>∃t u v,h.get? a=some {cls:=.type "range",data:=.fields #[.int lo t,.int hi u,.int 1 v]}
 | .qX o u=>h.get? a=some o/\bW H h a u
 | .qY ps=>TabAt H h a ps
 | .met f x=>h.get? a=some (PySem.W.methodObj (.ref f) (.ref x))
 | .ext φ=>φ h/\(∃o,h.get? a=some o)/\∀h1 h2:Heap,φ h1->(∀o,h1.get? a=some o->h2.get? a=some o)->φ h2
noncomputable def gp (H:Hp) (h:Heap):Prop:=∀a o,H a=some o->bW P w H h a o
end
section
variable {P : Program} {w : World} {H H' : Hp} {h h' : Heap} {a : Addr} {o : HO}
theorem bW.lt (x:bW P w H h a o):a<h.objs.size:=by
 cases o with
 | lst xs=>obtain⟨_,_,_,_,e⟩:=x;exact Heap.lt_size e
 | tup xs=>obtain⟨_,_,_,p⟩:=x;exact p.lt
 | dK kvs=>obtain⟨_,_,_,_,o,_,_,e,_⟩:=x;exact Heap.lt_size e
 | dT kvs=>obtain⟨_,_,_,_,o,_,_,e,_⟩:=x;exact Heap.lt_size e
 | set S n=>obtain⟨o,_,_,_,e,_⟩:=x;exact Heap.lt_size e
 | ins C dx fs=>obtain⟨_,_,_,e,_⟩:=x;exact Heap.lt_size e
 | own y=>obtain⟨_,e⟩:=x;exact Heap.lt_size e
 | xd fs=>obtain⟨_,⟨_,_,_,e,_⟩,_⟩:=x;exact Heap.lt_size e
 | jH lo hi=>obtain⟨_,_,_,e⟩:=x;exact Heap.lt_size e
 | qX ob u=>obtain⟨e,_⟩:=x;exact Heap.lt_size e
 | qY ps=>obtain⟨_,e,_⟩:=x;exact Heap.lt_size e
 | met f y=>exact Heap.lt_size (show h.get? a=some _ from x)
 | ext φ=>obtain⟨_,⟨_,e⟩,_⟩:=x;exact Heap.lt_size e
theorem Paired.C7 {α β:Type} {F G:α->β->Prop}:∀{l₁:List α} {l₂:List β},Paired F l₁ l₂->(∀a b,F a b->G a b)->Paired G l₁ l₂
 | _,_,.nil,_=>.nil
 | _,_,.cons r t,f=>.cons (f _ _ r) (Paired.C7 t f)
theorem bW.oN (x:bW P w H h a o) (k:∀b u,(b=a\/H b=some (.own a))->h.get? b=some u->h'.get? b=some u)
  (ho:∀b,H b=some (.own a)->H' b=some (.own a)) (ht:∀b xs,H b=some (.tup xs)->H' b=some (.tup xs)):bW P w H' h' a o:=by
 induction o with
 | lst xs=>obtain⟨z,aP,n,r,e⟩:=x;exact⟨z,aP,n,r,k _ _ (.inl rfl) e⟩
 | tup xs=>obtain⟨z,aP,r,ob,e,c⟩:=x;exact⟨z,aP,r,ob,k _ _ (.inl rfl) e,c⟩
 | dK kvs=>obtain⟨z,y,vs,r,ob,es,ep,e,c⟩:=x;exact⟨z,y,vs,r,ob,es,ep,k _ _ (.inl rfl) e,c⟩
 | dT kvs=>
  obtain⟨z,y,xs,r,ob,es,ep,e,c⟩:=x
  exact⟨z,y,xs,Paired.C7 r λp q z=>⟨z.1,ht _ _ z.2.1,z.2.2⟩,ob,es,ep,k _ _ (.inl rfl) e,c⟩
 | set S n=>obtain⟨ob,es,ep,t,e,c⟩:=x;exact⟨ob,es,ep,t,k _ _ (.inl rfl) e,c⟩
 | ins C dx fs=>
  obtain⟨d,z,ne,e,mA,⟨od,es,ep,e2,c⟩,r⟩:=x
  exact⟨ho _ d,z,ne,k _ _ (.inl rfl) e,mA,⟨od,es,ep,k _ _ (.inr d) e2,c⟩,r⟩
 | own y=>obtain⟨ob,e⟩:=x;exact⟨ob,k _ _ (.inl rfl) e⟩
 | xd fs=>obtain⟨mA,⟨od,es,ep,e,c⟩,r⟩:=x;exact⟨mA,⟨od,es,ep,k _ _ (.inl rfl) e,c⟩,r⟩
 | jH lo hi=>obtain⟨t,u,v,e⟩:=x;exact⟨t,u,v,k _ _ (.inl rfl) e⟩
 | qX ob u ih=>obtain⟨e,q⟩:=x;exact⟨k _ _ (.inl rfl) e,ih q⟩
 | qY ps=>
  obtain⟨mo,e,q⟩:=x
  refine⟨mo,k _ _ (.inl rfl) e,?_⟩
  rcases q with q | ⟨l,c,c1,qn,t,e1,e2,e3,c2,o2,Kj,t2,f1,f2,f3,f4⟩
  ·exact .inl q
  ·cases f1
   exact .inr ⟨l,c,c1,qn,t,e1,e2,ho _ e3,c1,o2,Kj,t2,rfl,k _ _ (.inr e3) f2,f3,f4⟩
 | met f y=>
  have e:h.get? a=some (PySem.W.methodObj (.ref f) (.ref y)):=x
  show h'.get? a=some (PySem.W.methodObj (.ref f) (.ref y))
  exact k a _ (.inl rfl) e
 | ext φ=>obtain⟨p,⟨o,e⟩,st⟩:=x;exact⟨st _ _ p λo q=>k _ _ (.inl rfl) q,⟨o,k _ _ (.inl rfl) e⟩,st⟩
theorem gp.lt (x:gp P w H h) (e:H a=some o):a<h.objs.size:=(x a o e).lt
theorem gp.fresh (x:gp P w H h) (e:h.objs.size<=a):H a=none:=by
 cases q:H a with
 | none=>rfl
 | some u=>exact absurd (aan (x.lt q) e) (aaJ _)
theorem gp.kept (x:gp P w H h) (k:∀b u,h.get? b=some u->h'.get? b=some u):gp P w H h':=λa o e=>
 (x a o e).oN (λb u _ q=>k b u q) (λ_ q=>q) λ_ _ q=>q
theorem gp.laid (x:gp P w H h) (k:∀b u,h.get? b=some u->h'.get? b=some u) (hp:h.objs.size<=a) (new:bW P w (upd H a o) h' a o):gp P w (upd H a o) h':=λb u e=>by
 have hn:=x.fresh hp
 by_cases hb:b=a
 ·subst hb;rw[ah] at e;cases e;exact new
 ·rw[au hb] at e
  exact(x b u e).oN (λc v _ q=>k c v q) (λc q=>by rw[au (bh q hn)];exact q) λc xs q=>by rw[au (bh q hn)];exact q
end
noncomputable def Rd (H:Hp) (a:Addr) (u:HO):Prop:=H a=some u\/∃o,H a=some (.qX o u)
theorem Rd.ok {P:Program} {w:World} {H:Hp} {h:Heap} {a:Addr} {u:HO} (r:Rd H a u) (x:gp P w H h):bW P w H h a u:=by
 rcases r with r | ⟨o,r⟩
 ·exact x a u r
 ·obtain⟨_,q⟩:=x a _ r
  exact q
noncomputable def FY:Option HO->Prop
 | some (.lst _)=>True
 | some (.dK _)=>True
 | some (.dT _)=>True
 | some (.set _ _)=>True
 | some (.ins _ _ _)=>True
 | some (.ext _)=>True
 | _=>False
section
variable {P : Program} {w : World} {H : Hp} {h h' : Heap} {x e : Addr} {o' : HO}
theorem gp.write (ok:gp P w H h) (mu:FY (H x)) (he:e=x\/H e=some (.own x)) (k:∀b u,b≠e->h.get? b=some u->h'.get? b=some u) (Fv:∃u,h'.get? e=some u)
  (new:bW P w (upd H x o') h' x o'):gp P w (upd H x o') h':=λb u q=>by
 have FZ:∀c y,H c=some (.own y)->c≠x:=λc y r z=>by subst z;rw[r] at mu;exact mu
 have Kk:∀c xs,H c=some (.tup xs)->c≠x:=λc xs r z=>by subst z;rw[r] at mu;exact mu
 by_cases hb:b=x
 ·subst hb;rw[ah] at q;cases q;exact new
 ·rw[au hb] at q
  by_cases C8:b=e
  ·have q':H b=some (.own x):=by
    rcases he with z | z
    ·exact absurd (C8.trans z) hb
    ·rw[C8];exact z
   rw[q] at q';cases q'
   obtain⟨v,hv⟩:=Fv
   exact⟨v,by rw[C8];exact hv⟩
  ·refine(ok b u q).oN (λc v hc r=>k c v ?_ r) (λc r=>by rw[au (FZ c b r)];exact r) λc xs r=>by rw[au (Kk c xs r)];exact r
   rcases hc with rfl | hc
   ·exact C8
   ·rintro rfl
    rcases he with z | z
    ·exact FZ c b hc z
    ·rw[hc] at z;cases z;exact hb rfl
end
structure Un (fs ex:List Addr) (H H':Hp) (h h':Heap):Prop where
 keep:∀b o,h.get? b=some o->H b=none->b∉fs->b∉ex->h'.get? b=some o
 slot:∀b o,h.get? b=some o->H b=none->b∈fs->b∉ex->∃sl,h'.get? b=some {o with slots:=sl}
 free:∀b o,h.get? b=some o->H b=none->b∉ex->H' b=none
 there:∀b o,h.get? b=some o->b∉ex->∃o',h'.get? b=some o'
 kK:∀b xs,H b=some (.tup xs)->H' b=some (.tup xs)
 mD:∀b o u,H b=some (.qX o u)->H' b=some (.qX o u)
 mE:∀b ps,H b=some (.qY ps)->∃more,H' b=some (.qY (ps++more))
section
variable {fs UD ex oG : List Addr} {H H1 H2 : Hp} {h h1 h2 h' : Heap} {a x e : Addr} {o : HO}
theorem Un.any (u:Un fs ex H H1 h h1) {b:Addr} {ob:Obj} (q:h.get? b=some ob) (n:H b=none) (hx:b∉ex):∃sl,h1.get? b=some {ob with slots:=sl}:=by
 by_cases hb:b∈fs
 ·exact u.slot b ob q n hb hx
 ·exact⟨ob.slots,u.keep b ob q n hb hx⟩
theorem Un.kept (k:∀b u,h.get? b=some u->h'.get? b=some u):Un fs ex H H h h':=
 ⟨λb ob q _ _ _=>k b ob q,λb ob q _ _ _=>⟨ob.slots,k b ob q⟩,λ_ _ _ n _=>n,λb ob q _=>⟨ob,k b ob q⟩,λ_ _ q=>q,λ_ _ _ q=>q,λ_ ps q=>⟨#[],by rw[q];simp⟩⟩
theorem Un.refl:Un fs ex H H h h:=Un.kept λ_ _ q=>q
theorem Un.laid (k:∀b u,h.get? b=some u->h'.get? b=some u) (hp:h.objs.size<=a) (hn:H a=none):Un fs ex H (upd H a o) h h' where
 keep:=λb u q _ _ _=>k b u q
 slot:=λb u q _ _ _=>⟨u.slots,k b u q⟩
 free:=λb u q n _=>by rw[au (aaj (aan (Heap.lt_size q) hp))];exact n
 there:=λb u q _=>⟨u,k b u q⟩
 kK:=λb xs q=>by rw[au (bh q hn)];exact q
 mD:=λb u xs q=>by rw[au (bh q hn)];exact q
 mE:=λb ps q=>⟨#[],by rw[au (bh q hn),q];simp⟩
theorem Un.write (mu:FY (H x)) (he:e=x\/H e=some (.own x)) (k:∀b u,b≠e->h.get? b=some u->h'.get? b=some u) (Fv:∃u,h'.get? e=some u):Un fs ex H (upd H x o) h h':=by
 have hx:∀b,H b=none->b≠x:=λb n z=>by subst z;rw[n] at mu;exact mu
 have hb:∀b,H b=none->b≠e:=λb n z=>by
  subst z
  rcases he with r | r
  ·exact hx b n r
  ·rw[n] at r;cases r
 have hm:∀b u,H b=some u->¬FY (some u)->b≠x:=λb u q nm z=>by subst z;rw[q] at mu;exact nm mu
 refine⟨λb u q n _ _=>k b u (hb b n) q,λb u q n _ _=>⟨u.slots,k b u (hb b n) q⟩,λb u q n _=>by rw[au (hx b n)];exact n,λb u q _=>?_,
  λb xs q=>by rw[au (hm b _ q λz=>z)];exact q,λb u xs q=>by rw[au (hm b _ q λz=>z)];exact q,λb ps q=>⟨#[],by rw[au (hm b _ q λz=>z),q];simp⟩⟩
 by_cases C8:b=e
 ·subst C8;exact Fv
 ·exact⟨u,k b u C8 q⟩
end
noncomputable def Jr (h:Heap) (H:Hp):List Addr:=(List.range h.objs.size).filter λa=>(H a).isSome
noncomputable def mF (h:Heap) (H:Hp):Heap:=PySem.W.hideAll h (Jr h H)
theorem wD (h:Heap) (H:Hp):(mF h H).objs.size=h.objs.size:=PySem.W.hideAll_size _ _
theorem xU {h:Heap} {H:Hp} {b:Addr} {o:Obj} (e:h.get? b=some o) (n:H b=none):(mF h H).get? b=some o:=
 PySem.W.hideAll_get _ e λhm=>by
  have q:(H b).isSome=true:=(List.mem_filter.mp hm).2
  rw[n] at q;simp at q
theorem AN {h:Heap} {H:Hp} {b:Addr} {o:Obj} (e:(mF h H).get? b=some o):h.get? b=some o/\H b=none:=by
 have e':h.get? b=some o:=PySem.W.of_hideAll (Jr h H) e
 refine⟨e',?_⟩
 cases q:H b with
 | none=>rfl
 | some x=>
  have hm:b∈Jr h H:=List.mem_filter.mpr ⟨List.mem_range.mpr (Heap.lt_size e'),by simp [q]⟩
  have z:(mF h H).get? b=none:=PySem.W.hideAll_none (Jr h H) hm
  rw[z] at e;cases e
noncomputable def AO (g h:Heap) (L:Addr):List (Addr×Obj):=(List.range h.objs.size).filterMap λa=>if a=L\/(g.get? a).isSome=true then none else (h.get? a).map λo=>(a,o)
noncomputable def rest (g h:Heap) (L d:Addr):List (Addr×Obj):=(AO g h L).filter λp=>decide (p.1≠d)
end L2
namespace L2
open PySem PySem.Spec PyProof.Rows
structure Mod (K:PySem.W.Frag) (mg:Str->Option Value) (base:Heap):Prop where
 F0:K.In base
 glob:base.Ns mainGlobals mg
 blt:∃mb,base.Ns builtinsNs mb/\∀x:Str,x≠"__name__"->mb x=bootBuiltins x
 nolimit:base.NoLimit
structure Cx where
 prog:Program
 w:World
 K:PySem.W.Frag
 mg:Str->Option Value
 base:Heap
 A:Around
 N:List Str
 s₀:Shared
 H₀:Hp
 env:Env
 outer:List Env
 stack:List Env
 ex:List Addr
 fn:Str->Bool
 calm:Bool
 pn:List (Addr×Obj)
 xe:Value->Shared->Prop
def rC (l:List Env):List Addr:=l.filterMap (·.frame)
abbrev Cx.fs (X:Cx):List Addr:=rC X.outer
noncomputable def Kl (sc:Scope) (x:Str):Prop:=sc.names.lookup x=some .local\/sc.names.lookup x=some .cell\/sc.names.lookup x=some .free
noncomputable def Loc (sc:Scope) (x:Str):Prop:=sc.names.lookup x=some .local\/sc.names.lookup x=some .cell
noncomputable def Look (env:Env) (h:Heap) (m:Str->Option Value) (x:Str) (u:Value):Prop:=
 (env.kindOf x=some .local/\m x=some u)\/((env.kindOf x=some .cell\/env.kindOf x=some .free)/\∃c,env.cells.lookup x=some c/\h.IsCell c (some u))
structure Cx.Ok (X:Cx):Prop where
 mod:Mod X.K X.mg X.base
 kind:X.env.scope.kind=.function
 glob:X.env.globals=mainGlobals
 blt:X.env.builtins=builtinsNs
 above:X.s₀.heap.objs.size<=X.env.locals
 inj:∀x y c,X.env.cells.lookup x=some c->X.env.cells.lookup y=some c->x=y
 has:∀x,(X.env.kindOf x=some .cell\/X.env.kindOf x=some .free)->∃c,X.env.cells.lookup x=some c
 Fw:∀x c,X.fn x=true->X.env.cells.lookup x=some c->X.s₀.heap.objs.size<=c
 hd:X.calm=true->X.A.handled=none
 frames:X.A.frames=some X.stack
 F5:X.stack=X.outer\/(X.stack=X.env::X.outer/\X.env.frame=some X.env.locals)
 Km:∀b∈X.ex,b≠X.env.locals/\∀x c,X.env.cells.lookup x=some c->c≠b
 bs:∀b o,X.base.get? b=some o->X.s₀.heap.get? b=some o/\X.H₀ b=none
 xV:X.base.objs.size<=X.s₀.heap.objs.size
 wF:∀b o,X.base.get? b=some o->b∉X.ex
 xW:∀b∈X.ex,b∉X.fs
 jM:X.s₀.heap.FunFrames X.base X.outer
 Cj:∀b∈X.fs,X.H₀ b=none
structure Inv (X:Cx) (pins:List (Addr×Obj)) (σ:List (Option V)) (H:Hp) (s:Shared):Prop where
 ok:X.Ok
 os:s.os=X.s₀.os
 bare:AllBare s.gens
 base:Un X.fs X.ex X.H₀ H X.s₀.heap s.heap
 loc:∃m,s.heap.Ns X.env.locals m/\∀(i:Nat) (x:Str) (v:V),X.N[i]?=some x->σ[i]?=some (some v)->Kl X.env.scope x->∃u,RelV v u/\Look X.env s.heap m x u
 cell:∀x c,X.env.cells.lookup x=some c->∃v,s.heap.IsCell c v
 free:H X.env.locals=none
 gC:∀x c,X.env.cells.lookup x=some c->H c=none
 pin:∀p∈X.pn++pins,s.heap.get? p.1=some p.2/\H p.1=none/\p.1≠X.env.locals/\p.1∉X.fs/\∀v,p.2.data≠.cell v
 bI:gp X.prog X.w H s.heap
 len:σ.length=X.N.length
section
variable {X : Cx} {pins : List (Addr × Obj)} {σ : List (Option V)} {H H' : Hp} {s : Shared} {h' : Heap}
theorem Cx.Ok.Kn (ok:X.Ok) {b:Addr} {o:Obj} (e:X.base.get? b=some o):b∉X.fs:=λhb=>by
 have:=(ok.jM.mem hb).1
 rw[e] at this;cases this
theorem Inv.bs (I:Inv X pins σ H s):∀b o,X.base.get? b=some o->s.heap.get? b=some o/\H b=none:=λb o e=>
 ⟨I.base.keep b o (I.ok.bs b o e).1 (I.ok.bs b o e).2 (I.ok.Kn e) (I.ok.wF b o e),I.base.free b o (I.ok.bs b o e).1 (I.ok.bs b o e).2 (I.ok.wF b o e)⟩
theorem Inv.bk (I:Inv X pins σ H s):∀b o,X.base.get? b=some o->s.heap.get? b=some o:=λb o e=>(I.bs b o e).1
theorem Inv.mod (I:Inv X pins σ H s):Mod X.K X.mg X.base:=I.ok.mod
theorem Inv.kL (I:Inv X pins σ H s):X.K.In s.heap:=I.ok.mod.F0.keeps I.bk
theorem Inv.lt (I:Inv X pins σ H s):X.env.locals<s.heap.objs.size:=let ⟨_,hn,_⟩:=I.loc;hn.lt
theorem Inv.sz (I:Inv X pins σ H s):X.s₀.heap.objs.size<=s.heap.objs.size:=aas I.ok.above (Nat.le_of_lt I.lt)
theorem Inv.Kp (I:Inv X pins σ H s) {a:Addr} (h:s.heap.objs.size<=a):a∉X.fs:=λhb=>by
 obtain⟨_,o,ho,_⟩:=I.ok.jM.mem hb
 exact absurd (aan (Heap.lt_size ho) (aas I.sz h)) (aaJ _)
theorem Inv.C9 (I:Inv X pins σ H s):∀x c,X.env.cells.lookup x=some c->c≠X.env.locals:=λx c e z=>by
 obtain⟨v,o,ho,hd⟩:=I.cell x c e
 obtain⟨m,⟨o',es,ep,Dc,F6,_⟩,_⟩:=I.loc
 rw[z,Dc] at ho;cases ho;rw[F6] at hd;cases hd
theorem Inv.jM (I:Inv X pins σ H s):s.heap.FunFrames X.base X.outer:=by
 have all:∀(l:List Env),(∀b∈rC l,b∈X.fs)->X.s₀.heap.FunFrames X.base l->s.heap.FunFrames X.base l:=by
  intro l
  induction l with
  | nil=>intro _ _;trivial
  | cons env r ih=>
   intro hs hl
   obtain⟨hk,⟨L,o,hf,hn,ho,hd⟩,hr⟩:=hl
   have hL:L∈X.fs:=hs L (by unfold rC;rw[List.filterMap_cons,hf];exact aal)
   obtain⟨sl,e⟩:=I.base.slot L o ho (I.ok.Cj L hL) hL λz=>I.ok.xW L z hL
   exact⟨hk,⟨L,_,hf,hn,e,hd⟩,ih (λb hb=>hs b (by unfold rC;rw[List.filterMap_cons,hf];exact aak _ hb)) hr⟩
 exact all X.outer (λ_ hb=>hb) I.ok.jM
theorem Inv.stack (I:Inv X pins σ H s):s.heap.FunFrames X.base X.stack:=by
 rcases I.ok.F5 with e | ⟨e,hf⟩
 ·rw[e];exact I.jM
 ·rw[e]
  obtain⟨m,hn,_⟩:=I.loc
  refine .cons (by rw[I.ok.kind];decide) hf hn ?_ I.jM
  exact Heap.get?_none_of_le (aas I.ok.xV I.ok.above)
theorem Inv.qc (I:Inv X pins σ H s):∀b∈rC X.stack,b∈X.env.locals::X.fs:=λb hb=>by
 rcases I.ok.F5 with e | ⟨e,hf⟩
 ·rw[e] at hb;exact aak _ hb
 ·rw[e] at hb
  unfold rC at hb
  rw[List.filterMap_cons,hf] at hb
  exact hb
theorem Inv.vh (I:Inv X pins σ H s):∀b∈rC X.stack,H b=none:=λb hb=>by
 rcases List.mem_cons.mp (I.qc b hb) with e | hb
 ·rw[e];exact I.free
 ·obtain⟨_,o,ho,_⟩:=I.ok.jM.mem hb
  exact I.base.free b o ho (I.ok.Cj b hb) λz=>I.ok.xW b z hb
theorem Inv.step {g':Array GenState} {t':Nat} {d':Drawn} {ch:List Addr} (I:Inv X pins σ H s)
  (AD:∀b∈ch,(b∈X.ex\/X.s₀.heap.objs.size<=b)/\b≠X.env.locals/\(∀x c,X.env.cells.lookup x=some c->c≠b)/\∀p∈X.pn++pins,p.1≠b)
  (keep:∀b o,b≠X.env.locals->b∉X.fs->b∉ch->s.heap.get? b=some o->H b=none->h'.get? b=some o)
  (slot:∀b o,b≠X.env.locals->b∈X.fs->b∉ch->s.heap.get? b=some o->H b=none->∃sl,h'.get? b=some {o with slots:=sl}) (free:∀b o,b∉ch->s.heap.get? b=some o->H b=none->H' b=none)
  (there:∀b o,b∉ch->s.heap.get? b=some o->∃o',h'.get? b=some o')
  (kK:∀b xs,H b=some (.tup xs)->H' b=some (.tup xs)) (mD:∀b o u,H b=some (.qX o u)->H' b=some (.qX o u)) (mE:∀b ps,H b=some (.qY ps)->∃more,H' b=some (.qY (ps++more)))
  (ns:∀m,s.heap.Ns X.env.locals m->h'.Ns X.env.locals m) (bI:gp X.prog X.w H' h') (hg:AllBare g'):
  Inv X pins σ H' {s with heap:=h',gens:=g',drawn:=d',toks:=t'}:=by
 have Sr:∀b o,X.s₀.heap.get? b=some o->b≠X.env.locals:=λb o e=>aaj (aan (Heap.lt_size e) I.ok.above)
 have Js:∀b o,X.s₀.heap.get? b=some o->b∉X.ex->b∉ch:=λb o e hx hb=>by
  rcases(AD b hb).1 with z | z
  ·exact hx z
  ·exact absurd (aan (Heap.lt_size e) z) (aaJ _)
 have cellK:∀x c,X.env.cells.lookup x=some c->∀v,s.heap.IsCell c v->h'.IsCell c v:=λx c e v ⟨o,ho,hd⟩=>by
  have Ck:c∉ch:=λz=>(AD c z).2.2.1 x c e rfl
  by_cases hc:c∈X.fs
  ·obtain⟨sl,q⟩:=slot c o (I.C9 x c e) hc Ck ho (I.gC x c e)
   exact⟨_,q,hd⟩
  ·exact⟨o,keep c o (I.C9 x c e) hc Ck ho (I.gC x c e),hd⟩
 refine⟨I.ok,I.os,hg,⟨λb o e n hb hx=>?_,λb o e n hb hx=>?_,λb o e n hx=>?_,λb o e hx=>?_,λb xs e=>kK b xs (I.base.kK b xs e),λb o xs e=>mD b o xs (I.base.mD b o xs e),λb ps e=>?_⟩,?_,λx c e=>?_,?_,λx c e=>?_,λp hp=>?_,bI,I.len⟩
 ·exact keep b o (Sr b o e) hb (Js b o e hx) (I.base.keep b o e n hb hx) (I.base.free b o e n hx)
 ·obtain⟨sl,e1⟩:=I.base.slot b o e n hb hx
  obtain⟨UE,e2⟩:=slot b _ (Sr b o e) hb (Js b o e hx) e1 (I.base.free b o e n hx)
  exact⟨UE,e2⟩
 ·obtain⟨o',e1⟩:=I.base.there b o e hx
  exact free b o' (Js b o e hx) e1 (I.base.free b o e n hx)
 ·obtain⟨o',e1⟩:=I.base.there b o e hx
  exact there b o' (Js b o e hx) e1
 ·obtain⟨m1,e1⟩:=I.base.mE b ps e
  obtain⟨m2,e2⟩:=mE b _ e1
  exact⟨m1++m2,by rw[e2,Array.append_assoc]⟩
 ·obtain⟨m,hn,hl⟩:=I.loc
  refine⟨m,ns m hn,λi x v e1 e2 e3=>?_⟩
  obtain⟨u,r,l⟩:=hl i x v e1 e2 e3
  refine⟨u,r,?_⟩
  rcases l with l | ⟨k,c,e,z⟩
  ·exact .inl l
  ·exact .inr ⟨k,c,e,cellK x c e _ z⟩
 ·obtain⟨v,z⟩:=I.cell x c e
  exact⟨v,cellK x c e v z⟩
 ·obtain⟨m,⟨o,_,_,ho,_⟩,_⟩:=I.loc
  exact free _ o (λz=>(AD _ z).2.1 rfl) ho I.free
 ·obtain⟨v,o,ho,hd⟩:=I.cell x c e
  exact free c o (λz=>(AD c z).2.2.1 x c e rfl) ho (I.gC x c e)
 ·obtain⟨e,n,ne,nf,d⟩:=I.pin p hp
  have Ck:p.1∉ch:=λz=>(AD p.1 z).2.2.2 p hp rfl
  exact⟨keep p.1 p.2 ne nf Ck e n,free p.1 p.2 Ck e n,ne,nf,d⟩
theorem Inv.un {t':Nat} (I:Inv X pins σ H s) (u:Un X.fs [] H H' s.heap h') (bI:gp X.prog X.w H' h'):Inv X pins σ H' {s with heap:=h',toks:=t'}:=by
 obtain⟨m,⟨o,es,ep,ho,r⟩,_⟩:=id I.loc
 obtain⟨sl,hL⟩:=u.any ho I.free (by simp)
 exact I.step (g':=s.gens) (d':=s.drawn) (ch:=[]) (λ_ z=>nomatch z) (λb o _ hb _ e n=>u.keep b o e n hb (by simp)) (λb o _ hb _ e n=>u.slot b o e n hb (by simp)) (λb o _ e n=>u.free b o e n (by simp)) (λb o _ e=>u.there b o e (by simp)) u.kK u.mD u.mE (λm' hm=>by
  obtain⟨o',Kq,oO,Dc,r'⟩:=hm
  rw[ho] at Dc;cases Dc
  exact⟨_,Kq,oO,hL,r'⟩) bI I.bare
theorem Inv.call {g':Array GenState} {t':Nat} {d':Drawn} {ch:List Addr} (I:Inv X pins σ H s) (u:Un (rC X.stack) ch H H' s.heap h') (bI:gp X.prog X.w H' h') (hg:AllBare g')
  (AD:∀b∈ch,(b∈X.ex\/X.s₀.heap.objs.size<=b)/\b≠X.env.locals/\(∀x c,X.env.cells.lookup x=some c->c≠b)/\∀p∈X.pn++pins,p.1≠b):
  Inv X pins σ H' {s with heap:=h',gens:=g',drawn:=d',toks:=t'}:=by
 obtain⟨m,⟨o,es,ep,ho,r⟩,_⟩:=id I.loc
 obtain⟨sl,hL⟩:=u.any ho I.free λz=>(AD _ z).2.1 rfl
 exact I.step (ch:=ch) AD (λb o hL hb hc e n=>u.keep b o e n (λz=>(List.mem_cons.mp (I.qc b z)).elim hL hb) hc) (λb o _ _ hc e n=>u.any e n hc) (λb o hc e n=>u.free b o e n hc) (λb o hc e=>u.there b o e hc) u.kK u.mD u.mE (λm' hm=>by
  obtain⟨o',Kq,oO,Dc,r'⟩:=hm
  rw[ho] at Dc;cases Dc
  exact⟨_,Kq,oO,hL,r'⟩) bI hg
theorem Inv.turned {t':Nat} {it:Addr} (I:Inv X pins σ H s) (k:∀b o,b≠it->s.heap.get? b=some o->h'.get? b=some o) (hn:H it=none) (hL:it≠X.env.locals)
  (h1:it∈X.ex\/X.s₀.heap.objs.size<=it) (h2:∀x c,X.env.cells.lookup x=some c->c≠it) (h3:∀p∈X.pn++pins,p.1≠it):Inv X pins σ H {s with heap:=h',toks:=t'}:=by
 have Ss:∀b u,H b=some u->b≠it:=λb u e z=>by rw[z,hn] at e;cases e
 refine I.step (g':=s.gens) (d':=s.drawn) (ch:=[it]) (λb hb=>?_) (λb o _ _ hc e _=>k b o (λz=>hc (by simp [z])) e) (λb o _ _ hc e _=>⟨o.slots,k b o (λz=>hc (by simp [z])) e⟩) (λ_ _ _ _ n=>n)
  (λb o hc e=>⟨o,k b o (λz=>hc (by simp [z])) e⟩) (λ_ _ e=>e) (λ_ _ _ e=>e) (λb ps e=>⟨#[],by rw[e];simp⟩) (λm hm=>?_) (λb u e=>?_) I.bare
 ·have e:b=it:=by simpa using hb
  subst e
  exact⟨h1,hL,h2,h3⟩
 ·obtain⟨o,es,ep,ho,r⟩:=hm
  exact⟨o,es,ep,k _ o (Ne.symm hL) ho,r⟩
 ·refine(I.bI b u e).oN (λc v hc q=>k c v ?_ q) (λ_ q=>q) λ_ _ q=>q
  rcases hc with z | z
  ·rw[z];exact Ss b u e
  ·exact Ss c _ z
theorem Inv.tok (I:Inv X pins σ H s) (t:Nat):Inv X pins σ H {s with toks:=t}:=I.un (h':=s.heap) (t':=t) Un.refl I.bI
theorem Inv.kept {t':Nat} (I:Inv X pins σ H s) (k:∀b u,s.heap.get? b=some u->h'.get? b=some u):Inv X pins σ H {s with heap:=h',toks:=t'}:=I.un (Un.kept k) (I.bI.kept k)
theorem Inv.laid {a:Addr} {o:HO} {t':Nat} (I:Inv X pins σ H s) (k:∀b u,s.heap.get? b=some u->h'.get? b=some u) (hp:s.heap.objs.size<=a) (new:bW X.prog X.w (upd H a o) h' a o):
  Inv X pins σ (upd H a o) {s with heap:=h',toks:=t'}:=I.un (Un.laid k hp (I.bI.fresh hp)) (I.bI.laid k hp new)
theorem Inv.write {x e:Addr} {o:HO} {t':Nat} (I:Inv X pins σ H s) (mu:FY (H x)) (he:e=x\/H e=some (.own x)) (k:∀b u,b≠e->s.heap.get? b=some u->h'.get? b=some u) (Fv:∃u,h'.get? e=some u)
  (new:bW X.prog X.w (upd H x o) h' x o):Inv X pins σ (upd H x o) {s with heap:=h',toks:=t'}:=I.un (Un.write mu he k Fv) (I.bI.write mu he k Fv new)
theorem Inv.i9 {Cm:List (Addr×Obj)} (I:Inv X pins σ H s) (h:∀p∈Cm,s.heap.get? p.1=some p.2/\H p.1=none/\p.1≠X.env.locals/\p.1∉X.fs/\∀v,p.2.data≠.cell v):Inv X Cm σ H s:=
 ⟨I.ok,I.os,I.bare,I.base,I.loc,I.cell,I.free,I.gC,λp hp=>(List.mem_append.mp hp).elim (λz=>I.pin p (List.mem_append_left _ z)) (h p),I.bI,I.len⟩
theorem rE {N:List Str} (hN:N.Nodup) {i j:Nat} {x:Str} (a:N[i]?=some x) (b:N[j]?=some x):i=j:=by
 obtain⟨h1,e1⟩:=List.getElem?_eq_some_iff.mp a
 obtain⟨h2,e2⟩:=List.getElem?_eq_some_iff.mp b
 exact(List.getElem_inj hN).mp (e1.trans e2.symm)
theorem pe {M:Model} {A:Around} {E:Value->Shared->Prop} {i:Nat} {x:Str} {v:V} {u:Value} {Q:Unit->Shared->Prop} (I:Inv X pins σ H s) (hN:X.N.Nodup) (hi:X.N[i]?=some x) (hx:Loc X.env.scope x) (r:RelV v u)
  (h:∀s',Inv X pins (σ.set i (some v)) H s'->(∃a,Heap.SameBut a s.heap s'.heap/\(a=X.env.locals\/X.env.cells.lookup x=some a))->Q () s') (hf:X.fn x=true\/X.env.scope.names.lookup x=some .local:=by first | exact .inl rfl | exact .inr rfl | assumption):wpAny M A (storeName X.env x u) Q E s:=by
 obtain⟨m,hn,hl⟩:=id I.loc
 have Kr:(X.env.scope.kind==.class || (X.env.scope.kind==.module && X.env.locals !=X.env.globals))=false:=by rw[I.ok.kind];rfl
 have Su:i<σ.length:=by rw[I.len];exact(List.getElem?_eq_some_iff.mp hi).1
 have C9:=I.C9
 have tracked:∀{a:Addr} {h':Heap},(∃o,s.heap.get? a=some o/\H a=none)->Heap.SameBut a s.heap h'->gp X.prog X.w H h':=λ{a h'} ha hs b ob e=>by
  obtain⟨_,_,Cn⟩:=ha
  refine(I.bI b ob e).oN (λc w' hc q=>(hs.2 c ?_).trans q) (λ_ q=>q) λ_ _ q=>q
  rintro rfl
  rcases hc with rfl | hc
  ·rw[Cn] at e;cases e
  ·rw[Cn] at hc;cases hc
 rcases hx with hk | hk
 ·refine wpAny_storeName_local hk hn (λh' UG hs=>?_) Kr
  obtain⟨oL,_,_,Co,_⟩:=id hn
  refine h _ ⟨I.ok,I.os,I.bare,⟨λb o e n hb hx=>?_,λb o e n hb hx=>?_,I.base.free,λb o e hx=>?_,I.base.kK,I.base.mD,I.base.mE⟩,⟨_,UG,λj y v' e1 e2 e3=>?_⟩,λy c e=>?_,I.free,I.gC,λp hp=>?_,tracked ⟨oL,Co,I.free⟩ hs,by simpa using I.len⟩ ⟨_,hs,.inl rfl⟩
  ·exact(hs.2 b (aaj (aan (Heap.lt_size e) I.ok.above))).trans (I.base.keep b o e n hb hx)
  ·obtain⟨sl,e1⟩:=I.base.slot b o e n hb hx
   exact⟨sl,(hs.2 b (aaj (aan (Heap.lt_size e) I.ok.above))).trans e1⟩
  ·obtain⟨o',e1⟩:=I.base.there b o e hx
   exact⟨o',(hs.2 b (aaj (aan (Heap.lt_size e) I.ok.above))).trans e1⟩
  ·by_cases hj:j=i
   ·subst hj
    rw[hi] at e1;cases e1
    rw[aay Su] at e2
    cases e2
    exact⟨u,r,.inl ⟨hk,by simp⟩⟩
   ·rw[aaA (Ne.symm hj)] at e2
    obtain⟨u',r',q⟩:=hl j y v' e1 e2 e3
    refine⟨u',r',?_⟩
    rcases q with ⟨k,e⟩ | ⟨k,c,e,z⟩
    ·refine .inl ⟨k,?_⟩
     have:y≠x:=λe=>hj (rE hN e1 (e▸hi))
     simp [this,e]
    ·exact .inr ⟨k,c,e,z.sameBut hs (C9 y c e)⟩
  ·obtain⟨w',z⟩:=I.cell y c e
   exact⟨w',z.sameBut hs (C9 y c e)⟩
  ·obtain⟨e,n,ne,nf,d⟩:=I.pin p hp
   exact⟨(hs.2 p.1 ne).trans e,n,ne,nf,d⟩
 ·have Ks:X.fn x=true:=by
   rcases hf with z | z
   ·exact z
   ·rw[z] at hk;cases hk
  obtain⟨c,hc⟩:=I.ok.has x (.inl hk)
  obtain⟨w',z⟩:=I.cell x c hc
  refine wpAny_storeName_cell I.ok.kind hk hc z (λh' Sv hs=>?_)
  obtain⟨oc,Sw,Kt⟩:=id z
  refine h {s with heap:=h'} ⟨I.ok,I.os,I.bare,⟨λb o e n hb hx=>?_,λb o e n hb hx=>?_,I.base.free,λb o e hx=>?_,I.base.kK,I.base.mD,I.base.mE⟩,⟨m,hn.sameBut hs (Ne.symm (C9 x c hc)),λj y v' e1 e2 e3=>?_⟩,λy c' e=>?_,I.free,I.gC,λp hp=>?_,tracked ⟨oc,Sw,I.gC x c hc⟩ hs,by simpa using I.len⟩ ⟨c,hs,.inr hc⟩
  ·exact(hs.2 b (aaj (aan (Heap.lt_size e) (I.ok.Fw x c Ks hc)))).trans (I.base.keep b o e n hb hx)
  ·obtain⟨sl,e1⟩:=I.base.slot b o e n hb hx
   exact⟨sl,(hs.2 b (aaj (aan (Heap.lt_size e) (I.ok.Fw x c Ks hc)))).trans e1⟩
  ·obtain⟨o',e1⟩:=I.base.there b o e hx
   exact⟨o',(hs.2 b (aaj (aan (Heap.lt_size e) (I.ok.Fw x c Ks hc)))).trans e1⟩
  ·by_cases hj:j=i
   ·subst hj
    rw[hi] at e1;cases e1
    rw[aay Su] at e2
    cases e2
    exact⟨u,r,.inr ⟨.inl hk,c,hc,Sv⟩⟩
   ·rw[aaA (Ne.symm hj)] at e2
    obtain⟨u',r',q⟩:=hl j y v' e1 e2 e3
    refine⟨u',r',?_⟩
    rcases q with q | ⟨k,c',e,z'⟩
    ·exact .inl q
    ·refine .inr ⟨k,c',e,z'.sameBut hs ?_⟩
     rintro rfl
     exact hj (rE hN e1 (I.ok.inj _ _ _ e hc▸hi))
  ·by_cases Jt:c'=c
   ·subst Jt;exact⟨_,Sv⟩
   ·obtain⟨w2,z2⟩:=I.cell y c' e
    exact⟨w2,z2.sameBut hs Jt⟩
  ·obtain⟨e,n,ne,nf,d⟩:=I.pin p hp
   refine⟨(hs.2 p.1 ?_).trans e,n,ne,nf,d⟩
   intro q
   rw[q,Sw] at e
   have q':oc=p.2:=aax e
   exact d w' (by rw[<-q'];exact Kt)
theorem ja {M:Model} {A:Around} {E:Value->Shared->Prop} {i:Nat} {x:Str} {v:V} {u:Value} {Q:Unit->Shared->Prop} (I:Inv X pins σ H s) (hN:X.N.Nodup) (hi:X.N[i]?=some x) (hx:Loc X.env.scope x) (r:RelV v u)
  (h:∀s',Inv X pins (σ.set i (some v)) H s'->Q () s') (hf:X.fn x=true\/X.env.scope.names.lookup x=some .local:=by first | exact .inl rfl | exact .inr rfl | assumption):wpAny M A (storeName X.env x u) Q E s:=
 pe I hN hi hx r (λs' I' _=>h s' I') hf
theorem Inv.F7 {s':Shared} {ch:List Addr} (I:Inv X pins σ H s) (ho:s'.os=s.os) (u:Un (rC X.stack) ch H H' s.heap s'.heap) (bI:gp X.prog X.w H' s'.heap) (hg:AllBare s'.gens)
  (AD:∀b∈ch,(b∈X.ex\/X.s₀.heap.objs.size<=b)/\b≠X.env.locals/\(∀x c,X.env.cells.lookup x=some c->c≠b)/\∀p∈X.pn++pins,p.1≠b):Inv X pins σ H' s':=by
 obtain⟨h',g',d',t',o'⟩:=s'
 have e:o'=s.os:=ho
 subst e
 exact I.call (g':=g') (t':=t') (d':=d') u bI hg AD
end
abbrev XK:=Value->Option Addr->Hp->Prop
abbrev St:=List (Option V)
abbrev VK:=V->Hp->Prop
abbrev TE:=St->Hp->VK->Prop
abbrev TT:=St->Hp->(Bool->Hp->Prop)->Prop
abbrev TA:=St->Hp->(List V->Hp->Prop)->Prop
structure Ends where
 nx:St->Hp->Prop
 rt:VK
 bk:St->Hp->Prop:=λ_ _=>False
 ct:St->Hp->Prop:=λ_ _=>False
abbrev TS:=Ends->St->Hp->Prop
noncomputable def EP (X:Cx) (pins:List (Addr×Obj)) (σ:St) (Q:VK) (u:Value) (s':Shared):Prop:=∃v H',Inv X pins σ H' s'/\RelV v u/\Q v H'
noncomputable def TP (X:Cx) (pins:List (Addr×Obj)) (σ:St) (Q:Bool->Hp->Prop) (b:Bool) (s':Shared):Prop:=∃H',Inv X pins σ H' s'/\Q b H'
noncomputable def AP (X:Cx) (pins:List (Addr×Obj)) (σ:St) (Q:List V->Hp->Prop) (us:List Value) (s':Shared):Prop:=∃vs H',Inv X pins σ H' s'/\aY vs us/\Q vs H'
noncomputable def SP (X:Cx) (pins:List (Addr×Obj)) (D:Ends) (f:Flow) (s':Shared):Prop:=
 match f with
 | .next=>∃σ' H',Inv X pins σ' H' s'/\D.nx σ' H'
 | .brk=>∃σ' H',Inv X pins σ' H' s'/\D.bk σ' H'
 | .cont=>∃σ' H',Inv X pins σ' H' s'/\D.ct σ' H'
 | .ret u=>∃v σ' H',Inv X pins σ' H' s'/\RelV v u/\D.rt v H'
noncomputable def PE (X:Cx) (e:Expr) (t:TE):Prop:=
 ∀(pins:List (Addr×Obj)) (s:Shared) (σ:St) (H:Hp) (Q:VK),Inv X pins σ H s->t σ H Q->wpAny (model X.prog X.w) X.A (eval e X.env) (EP X pins σ Q) X.xe s
noncomputable def PT (X:Cx) (e:Expr) (t:TT):Prop:=
 ∀(pins:List (Addr×Obj)) (s:Shared) (σ:St) (H:Hp) (Q:Bool->Hp->Prop),Inv X pins σ H s->t σ H Q->wpAny (model X.prog X.w) X.A (isTrue e X.env (eval e X.env)) (TP X pins σ Q) X.xe s
noncomputable def PW (X:Cx) (e:Expr) (t:TT):Prop:=
 ∀(whole:Sem Value) (pins:List (Addr×Obj)) (s:Shared) (σ:St) (H:Hp) (Q:Bool->Hp->Prop),Inv X pins σ H s->t σ H Q->wpAny (model X.prog X.w) X.A (isTrue e X.env whole) (TP X pins σ Q) X.xe s
theorem PW.pt {X:Cx} {e:Expr} {t:TT} (h:PW X e t):PT X e t:=h _
noncomputable def PA (X:Cx) (es:List Expr) (t:TA):Prop:=
 ∀(pos:Pos) (pins:List (Addr×Obj)) (s:Shared) (σ:St) (H:Hp) (Q:List V->Hp->Prop),Inv X pins σ H s->t σ H Q->wpAny (model X.prog X.w) X.A (spliced (backTo pos (starEach es X.env))) (AP X pins σ Q) X.xe s
noncomputable def PS (X:Cx) (st:Stmt) (t:TS):Prop:=
 ∀(pins:List (Addr×Obj)) (s:Shared) (σ:St) (H:Hp) (D:Ends),Inv X pins σ H s->t D σ H->wpAny (model X.prog X.w) X.A (exec st X.env) (SP X pins D) X.xe s
noncomputable def ua (X:Cx) (st:List Stmt) (t:TS):Prop:=
 ∀(pins:List (Addr×Obj)) (s:Shared) (σ:St) (H:Hp) (D:Ends),Inv X pins σ H s->t D σ H->wpAny (model X.prog X.w) X.A (execs st X.env) (SP X pins D) X.xe s
theorem bY {α:Type} {t:Sem α} {Q Q':α->Shared->Prop} {M:Model} {A:Around} {E:Value->Shared->Prop} {s:Shared} (h:wpAny M A t Q E s) (hQ:∀a s,Q a s->Q' a s):wpAny M A t Q' E s:=wpAny_mono h hQ λ_ _ x=>x
end L2
namespace L2
open PySem PySem.Spec PyProof.Rows
section
variable {X : Cx}
theorem bin {a b:Expr} {ta tb:TE} (ha:PE X a ta) (hb:PE X b tb) {pins:List (Addr×Obj)} {s:Shared} {σ:St} {H:Hp} {R:V->V->Hp->Prop} (I:Inv X pins σ H s) (h:ta σ H λx H1=>tb σ H1 λy H2=>R x y H2)
  {α:Type} {Q:α->Shared->Prop} {f:Value->Value->Sem α}
  (hf:∀v u s2 x y H2,Inv X pins σ H2 s2->RelV x v->RelV y u->R x y H2->wpAny (model X.prog X.w) X.A (f v u) Q X.xe s2):
  wpAny (model X.prog X.w) X.A (eval a X.env) (λv s₁=>wpAny (model X.prog X.w) X.A (eval b X.env) (λu s₂=>wpAny (model X.prog X.w) X.A (f v u) Q X.xe s₂) X.xe s₁) X.xe s:=by
 refine bY (ha pins s σ H _ I h) λv s1 cD=>?_
 obtain⟨x,H1,I1,r1,q1⟩:=cD
 refine bY (hb pins s1 σ H1 _ I1 q1) λu s2 cD=>?_
 obtain⟨y,H2,I2,r2,q2⟩:=cD
 exact hf v u s2 x y H2 I2 r1 r2 q2
noncomputable def tVar (i:Nat):TE:=λσ H Q=>∃v,σ[i]?=some (some v)/\Q v H
noncomputable def tC (v:V):TE:=λ_ H Q=>Q v H
theorem Dd {i:Nat} {x:Str} {pos:Pos} (hN:X.N[i]?=some x) (hv:Kl X.env.scope x) (hd:(x==("__debug__":Str))=false:=by decide) (rG:(x==("__classdict__":Str))=false:=by decide):PE X (.Name x pos) (tVar i):=by
 intro pins s σ H Q I h
 obtain⟨v,e,h⟩:=h
 obtain⟨m,hn,hl⟩:=I.loc
 obtain⟨u,r,l⟩:=hl i x v hN e hv
 have fin:EP X pins σ Q u s:=⟨v,H,I,r,h⟩
 rcases l with ⟨hk,hm⟩ | ⟨hk,c,hc,pf⟩
 ·exact wpAny_Name (wpAny_loadName_local I.ok.kind hk hn hm fin) hd
 ·rcases hk with hk | hk
  ·exact wpAny_Name (wpAny_loadName_cell I.ok.kind hk hc pf fin) hd
  ·exact wpAny_Name (wpAny_loadName_free I.ok.kind hk hc pf fin rG) hd
theorem ag {i j pos}:PE X (.Constant (.int i) j pos) (tC (.int i)):=λ_ _ _ H _ I h=>wpAny_Constant_int ⟨.int i,H,I.tok _,⟨_,rfl⟩,h⟩
theorem rH {b j pos}:PE X (.Constant (.bool b) j pos) (tC (.bl b)):=λ_ _ _ H _ I h=>Constant_bool ⟨.bl b,H,I,rfl,h⟩
theorem dF {j pos}:PE X (.Constant .none j pos) (tC .cc):=λ_ _ _ H _ I h=>Constant_none ⟨.cc,H,I,rfl,h⟩
theorem cP {x j pos}:PE X (.Constant (.str x) j pos) (tC (.str x)):=λ_ _ _ H _ I h=>Calls.Constant_str ⟨.str x,H,I.tok _,⟨_,rfl⟩,h⟩
noncomputable def Gl (X:Cx) (x:Str):Prop:=X.env.kindOf x=some .globalImplicit
theorem qd {E:Value->Shared->Prop} {pins:List (Addr×Obj)} {s:Shared} {σ:St} {H:Hp} {x:Str} {u:Value} {pos:Pos} {Q:Value->Shared->Prop} (I:Inv X pins σ H s) (hg:Gl X x) (hm:X.mg x=some u) (h:Q u s)
  (hd:(x==("__debug__":Str))=false:=by decide):wpAny (model X.prog X.w) X.A (eval (.Name x pos) X.env) Q E s:=
 Calls.Name_function_global I.ok.kind hg (Calls.loadGlobal_global (by rw[I.ok.glob];exact I.mod.glob.keeps I.bk) hm h) hd
theorem gD {E:Value->Shared->Prop} {pins:List (Addr×Obj)} {s:Shared} {σ:St} {H:Hp} {x:Str} {u:Value} {pos:Pos} {Q:Value->Shared->Prop} (I:Inv X pins σ H s) (hg:Gl X x) (hm:X.mg x=none) (hv:bootBuiltins x=some u) (h:Q u s)
  (hn:x≠"__name__":=by decide) (hd:(x==("__debug__":Str))=false:=by decide):wpAny (model X.prog X.w) X.A (eval (.Name x pos) X.env) Q E s:=by
 obtain⟨mb,h1,h2⟩:=I.mod.blt
 exact Calls.Name_function_global I.ok.kind hg (Calls.loadGlobal_builtin (by rw[I.ok.glob];exact I.mod.glob.keeps I.bk) hm (by rw[I.ok.blt];exact h1.keeps I.bk) ((h2 x hn).trans hv) h) hd
theorem AQ {x:Str} {v:V} {u:Value} {pos:Pos} (hg:Gl X x) (hm:X.mg x=some u) (r:RelV v u) (hd:(x==("__debug__":Str))=false:=by decide):PE X (.Name x pos) (tC v):=
 λ_ _ _ H _ I h=>qd I hg hm ⟨v,H,I,r,h⟩ hd
theorem gX {x:Str} {v:V} {u:Value} {pos:Pos} (hg:Gl X x) (hm:X.mg x=none) (hv:bootBuiltins x=some u) (r:RelV v u) (hn:x≠"__name__":=by decide) (hd:(x==("__debug__":Str))=false:=by decide):PE X (.Name x pos) (tC v):=
 λ_ _ _ H _ I h=>gD I hg hm hv ⟨v,H,I,r,h⟩ hn hd
noncomputable def UH (ta tb:TE) (k:Int->Int->Hp->Prop):St->Hp->Prop:=λσ H=>ta σ H λx H1=>tb σ H1 λy H2=>∃i j,x=.int i/\y=.int j/\k i j H2
variable {a b : Expr} {ta tb : TE} {pos : Pos}
noncomputable def PC (X:Cx) (op:CmpOp) (a b:Expr) (t:TE):Prop:=
 ∀(pins:List (Addr×Obj)) (s:Shared) (σ:St) (H:Hp) (Q:VK),Inv X pins σ H s->t σ H Q->
  wpAny (model X.prog X.w) X.A (eval a X.env) (λv s₁=>wpAny (model X.prog X.w) X.A (eval b X.env) (λu s₂=>wpAny (model X.prog X.w) X.A (compareOp op v u) (EP X pins σ Q) X.xe s₂) X.xe s₁) X.xe s
theorem xX (b:Expr) {op:CmpOp} (h:op≠.In) (h2:op≠.NotIn):behindInMarks op b=false:=by
 have e1:(op==CmpOp.In)=false:=by cases op <;>first | rfl | exact absurd rfl h
 have e2:(op==CmpOp.NotIn)=false:=by cases op <;>first | rfl | exact absurd rfl h2
 cases b <;>simp [behindInMarks,e1,e2]
noncomputable def wG (p:Int->Int->Bool) (ta tb:TE):TE:=λσ H Q=>UH ta tb (λi j H2=>Q (.bl (p i j)) H2) σ H
abbrev ZA:TE->TE->TE:=wG λi j=>decide (i<j)
abbrev ZC:TE->TE->TE:=wG λi j=>decide (i<=j)
abbrev ZD:TE->TE->TE:=wG λi j=>decide (j<i)
abbrev ZE:TE->TE->TE:=wG λi j=>decide (j<=i)
abbrev UI:TE->TE->TE:=wG λi j=>decide (i=j)
abbrev UJ:TE->TE->TE:=wG λi j=>!decide (i=j)
noncomputable def tB (t:TE):TT:=λσ H Q=>t σ H λx H1=>∃c,x=.bl c/\Q c H1
theorem ub {op:CmpOp} {t:TE} (h:PC X op a b t) (h1:behindInMarks op b=false:=by first | exact xX _ (by decide) (by decide) | rfl):PT X (.Compare a [op] [b] pos) (tB t):=by
 intro pins s σ H Q I hw
 refine wpAny_isTrue_Compare1 (bY (h pins s σ H _ I hw) λv s1 h1=>bY h1 λu s2 h2=>bY h2 λc s3 cD=>?_) h1
 obtain⟨x,H1,I1,r1,q1⟩:=cD
 obtain⟨d,rfl,q⟩:=q1
 cases r1
 exact wpAny_truthy_bool ⟨H1,I1,q⟩
theorem fu {e:Expr} {t:TE} (h:PE X e t) (he:∀whole,isTrue e X.env whole=(do let v <-whole;standAt e.pos;holding [v] (truthy v)):=by intro _;rfl):PT X e (tB t):=by
 intro pins s σ H Q I hw
 refine isTrue_plain (bY (h pins s σ H _ I hw) λv s1 cD=>?_) (he _)
 obtain⟨x,H1,I1,r1,q1⟩:=cD
 obtain⟨d,rfl,q⟩:=q1
 cases r1
 exact wpAny_truthy_bool ⟨H1,I1,q⟩
variable {tA Ju : TT} {rest : List Expr}
noncomputable def tAnd (t u:TT):TT:=λσ H Q=>t σ H λc H1=>if c=true then u σ H1 Q else Q false H1
noncomputable def tOr (t u:TT):TT:=λσ H Q=>t σ H λc H1=>if c=true then Q true H1 else u σ H1 Q
noncomputable def tNot (t:TT):TT:=λσ H Q=>t σ H λc H1=>Q (!c) H1
theorem pw_and1 (ha:PT X a tA):PW X (.BoolOp .And [a] pos) tA:=by
 intro wh pins s σ H Q I h
 refine isTrue_and (bY (ha pins s σ H Q I h) λc s1 e=>?_)
 cases c with
 | true=>exact isTrue_and_nil e
 | false=>exact e
theorem pw_or1 (ha:PT X a tA):PW X (.BoolOp .Or [a] pos) tA:=by
 intro wh pins s σ H Q I h
 refine isTrue_or (bY (ha pins s σ H Q I h) λc s1 e=>?_)
 cases c with
 | false=>exact isTrue_or_nil e
 | true=>exact e
theorem pw_and (ha:PT X a tA) (hb:PW X (.BoolOp .And (b::rest) pos) Ju):PW X (.BoolOp .And (a::b::rest) pos) (tAnd tA Ju):=by
 intro wh pins s σ H Q I h
 refine isTrue_and (bY (ha pins s σ H _ I h) λc s1 ⟨H1,I1,q1⟩=>?_)
 cases c with
 | true=>exact hb wh pins s1 σ H1 Q I1 q1
 | false=>exact⟨H1,I1,q1⟩
theorem pw_or (ha:PT X a tA) (hb:PW X (.BoolOp .Or (b::rest) pos) Ju):PW X (.BoolOp .Or (a::b::rest) pos) (tOr tA Ju):=by
 intro wh pins s σ H Q I h
 refine isTrue_or (bY (ha pins s σ H _ I h) λc s1 ⟨H1,I1,q1⟩=>?_)
 cases c with
 | true=>exact⟨H1,I1,q1⟩
 | false=>exact hb wh pins s1 σ H1 Q I1 q1
theorem mG (ha:PT X a tA):PT X (.UnaryOp .Not a pos) (tNot tA):=by
 intro pins s σ H Q I h
 exact isTrue_not (ha pins s σ H (λc H1=>Q (!c) H1) I h)
noncomputable def tAndV (ta tb:TE):TE:=λσ H Q=>ta σ H λx H1=>∃c,x=.bl c/\if c=true then tb σ H1 Q else Q (.bl false) H1
noncomputable def tOrV (ta tb:TE):TE:=λσ H Q=>ta σ H λx H1=>∃c,x=.bl c/\if c=true then Q (.bl true) H1 else tb σ H1 Q
noncomputable def tNotV (ta:TE):TE:=λσ H Q=>ta σ H λx H1=>∃c,x=.bl c/\Q (.bl (!c)) H1
theorem uc {op} {t:TE} (h:PE X a t):PE X (.BoolOp op [a] pos) t:=λpins s σ H Q I hw=>BoolOp_one (h pins s σ H Q I hw)
theorem qe (ha:PE X a ta) (hb:PE X (.BoolOp .And (b::rest) pos) tb):PE X (.BoolOp .And (a::b::rest) pos) (tAndV ta tb):=by
 intro pins s σ H Q I h
 refine BoolOp_and (bY (ha pins s σ H _ I h) λv s1 cD=>?_)
 obtain⟨x,H1,I1,r1,q1⟩:=cD
 obtain⟨c,rfl,q1⟩:=q1
 cases r1
 refine wpAny_truthy_bool ?_
 cases c with
 | true=>exact hb pins s1 σ H1 Q I1 q1
 | false=>exact⟨.bl false,H1,I1,rfl,q1⟩
noncomputable def tIf (t:TT) (ta tb:TE):TE:=λσ H Q=>t σ H λc H1=>if c=true then ta σ H1 Q else tb σ H1 Q
theorem gE {c:Expr} (hc:PT X c tA) (ha:PE X a ta) (hb:PE X b tb):PE X (.IfExp c a b pos) (tIf tA ta tb):=by
 intro pins s σ H Q I h
 refine wpAny_IfExp (bY (hc pins s σ H _ I h) λd s1 ⟨H1,I1,q1⟩=>?_)
 cases d with
 | true=>exact ha pins s1 σ H1 Q I1 q1
 | false=>exact hb pins s1 σ H1 Q I1 q1
end
end L2
namespace L2
open PySem PySem.Spec PyProof.Rows
noncomputable def aV (K:PySem.W.Frag) (H:Hp) (a:Addr) (xs:List V):Prop:=
 Rd H a (.lst xs)\/
  ∃(o:Obj) (aP:Array Value) (n:Nat),K.lookup a=some o/\o.cls=.type "list"/\o.dict=none/\o.data=.seq aP n/\aP.size<=sizeLine/\aY xs aP.toList
noncomputable def dR (K:PySem.W.Frag) (H:Hp) (a:Addr) (xs:List V):Prop:=
 Rd H a (.tup xs)\/
  ∃(o:Obj) (aP:Array Value) (n:Nat),K.lookup a=some o/\o.cls=.type "tuple"/\o.data=.seq aP n/\aP.size<=sizeLine/\aY xs aP.toList
noncomputable def Ku:Value->Option V
 | .none=>some .cc
 | .bool b=>some (.bl b)
 | .int i _=>some (.int i)
 | .str x _=>some (.str x)
 | .bytes b _=>some (.xJ b)
 | .float b _=>some (.C6 b)
 | .ref a=>some (.ref a)
 | .type n=>some (.ty n)
 | _=>none
theorem RelV.abs {x:V} {u:Value} (r:RelV x u):Ku u=some x:=by
 cases x with
 | cc=>cases r;rfl
 | bl _=>cases r;rfl
 | int _=>obtain⟨t,rfl⟩:=r;rfl
 | str _=>obtain⟨t,rfl⟩:=r;rfl
 | xJ _=>obtain⟨t,rfl⟩:=r;rfl
 | C6 _=>obtain⟨t,rfl⟩:=r;rfl
 | ref _=>cases r;rfl
 | ty _=>cases r;rfl
theorem RelV.inj {x y:V} {u:Value} (r:RelV x u) (q:RelV y u):x=y:=aax (r.abs.symm.trans q.abs)
theorem aY.inj:∀{xs ys:List V} {us:List Value},aY xs us->aY ys us->xs=ys
 | _,_,_,.nil,.nil=>rfl
 | _,_,_,.cons r t,.cons r' t'=>by rw[r.inj r',aY.inj t t']
section
variable {X : Cx} {pins : List (Addr × Obj)} {σ : St} {H : Hp} {s : Shared} {a : Addr} {xs ys : List V}
theorem aV.of {K:PySem.W.Frag} (h:H a=some (.lst xs)):aV K H a xs:=.inl (.inl h)
theorem dR.of {K:PySem.W.Frag} (h:H a=some (.tup xs)):dR K H a xs:=.inl (.inl h)
theorem Inv.list (I:Inv X pins σ H s) (h:aV X.K H a xs):∃aP:List Value,aY xs aP/\PlainL s.heap a aP.toArray/\xs.length<=sizeLine:=by
 rcases h with h | ⟨o,aP,n,hk,hc,hd,hs,hz,r⟩
 ·obtain⟨z,aP,n,r,e⟩:=h.ok I.bI
  exact⟨aP,r,⟨_,n,e,rfl,rfl,rfl⟩,z⟩
 ·refine⟨aP.toList,r,⟨o,n,I.kL a o hk,hc,hd,by simpa using hs⟩,?_⟩
  have e:=r.length
  simp only[abk] at e
  omega
theorem Inv.tuple (I:Inv X pins σ H s) (h:dR X.K H a xs):∃aP:List Value,aY xs aP/\IsTup s.heap a aP.toArray/\xs.length<=sizeLine:=by
 rcases h with h | ⟨o,aP,n,hk,hc,hs,hz,r⟩
 ·obtain⟨z,aP,r,p⟩:=h.ok I.bI
  exact⟨aP,r,p,z⟩
 ·refine⟨aP.toList,r,⟨o,I.kL a o hk,hc,n,by simpa using hs⟩,?_⟩
  have e:=r.length
  simp only[abk] at e
  omega
theorem Inv.jb (I:Inv X pins σ H s) (h:aV X.K H a xs) (h':aV X.K H a ys):xs=ys:=by
 obtain⟨aP,r,⟨o,n,e,_,_,d⟩,_⟩:=I.list h
 obtain⟨its',r',⟨o',n',e',_,_,d'⟩,_⟩:=I.list h'
 rw[e] at e';cases e'
 rw[d] at d'
 injection d' with d1 _
 have:aP=its':=by simpa using congrArg Array.toList d1
 subst this
 exact r.inj r'
theorem Inv.wH (I:Inv X pins σ H s) (h:dR X.K H a xs) (h':dR X.K H a ys):xs=ys:=by
 obtain⟨aP,r,⟨o,e,_,n,d⟩,_⟩:=I.tuple h
 obtain⟨its',r',⟨o',e',_,n',d'⟩,_⟩:=I.tuple h'
 rw[e] at e';cases e'
 rw[d] at d'
 injection d' with d1 _
 have:aP=its':=by simpa using congrArg Array.toList d1
 subst this
 exact r.inj r'
end
abbrev Cx.jN (X:Cx) (E:Value->Shared->Prop):Cx:={X with xe:=E}
abbrev Cx.Fx (X:Cx):Cx:=X.jN λ_ _=>False
theorem Cx.Ok.jN {X:Cx} (ok:X.Ok) (E:Value->Shared->Prop):(X.jN E).Ok:=
 ⟨ok.mod,ok.kind,ok.glob,ok.blt,ok.above,ok.inj,ok.has,ok.Fw,ok.hd,ok.frames,ok.F5,ok.Km,ok.bs,ok.xV,ok.wF,ok.xW,ok.jM,ok.Cj⟩
theorem Cx.Ok.fv {X:Cx} {E:Value->Shared->Prop} (ok:(X.jN E).Ok):X.Ok:=
 ⟨ok.mod,ok.kind,ok.glob,ok.blt,ok.above,ok.inj,ok.has,ok.Fw,ok.hd,ok.frames,ok.F5,ok.Km,ok.bs,ok.xV,ok.wF,ok.xW,ok.jM,ok.Cj⟩
section
variable {X : Cx} {pins : List (Addr × Obj)} {σ : St} {H : Hp} {s : Shared} {E : Value -> Shared -> Prop}
theorem Inv.jN (I:Inv X pins σ H s) (E:Value->Shared->Prop):Inv (X.jN E) pins σ H s:=⟨I.ok.jN E,I.os,I.bare,I.base,I.loc,I.cell,I.free,I.gC,I.pin,I.bI,I.len⟩
theorem Inv.fv (I:Inv (X.jN E) pins σ H s):Inv X pins σ H s:=⟨I.ok.fv,I.os,I.bare,I.base,I.loc,I.cell,I.free,I.gC,I.pin,I.bI,I.len⟩
theorem SP.fv {D:Ends} {f:Flow} {s':Shared} (h:SP (X.jN E) pins D f s'):SP X pins D f s':=by
 cases f with
 | next=>obtain⟨σ',H',I,q⟩:=h;exact⟨σ',H',I.fv,q⟩
 | brk=>obtain⟨σ',H',I,q⟩:=h;exact⟨σ',H',I.fv,q⟩
 | cont=>obtain⟨σ',H',I,q⟩:=h;exact⟨σ',H',I.fv,q⟩
 | ret u=>obtain⟨v,σ',H',I,r,q⟩:=h;exact⟨v,σ',H',I.fv,r,q⟩
theorem ua.Fx {st:List Stmt} {t:TS} (h:ua X.Fx st t):ua X st t:=λpins s σ H D I hw=>
 wpAny_mono (h pins s σ H D (I.jN _) hw) (λ_ _ q=>q.fv) λ_ _ z=>False.elim z
end
section
variable {X : Cx} {st : Stmt} {rest : List Stmt} {t u : TS} {e : Expr} {te : TE} {pos : Pos}
noncomputable def tNext:TS:=λD σ H=>D.nx σ H
noncomputable def tSeq (t u:TS):TS:=λD σ H=>t {D with nx:=u D} σ H
theorem ba:ua X [] tNext:=λ_ _ σ H _ I h=>wpAny_execs_nil ⟨σ,H,I,h⟩
theorem ae (h1:PS X st t) (h2:ua X rest u):ua X (st::rest) (tSeq t u):=by
 intro pins s σ H D I h
 refine wpAny_execs_cons (bY (h1 pins s σ H {D with nx:=u D} I h) λf s1 q=>?_)
 cases f with
 | next=>
  obtain⟨σ',H',I',q⟩:=q
  exact h2 pins s1 σ' H' D I' q
 | ret v=>exact q
 | brk=>exact q
 | cont=>exact q
theorem aj (h1:PS X st t):ua X [st] t:=by
 intro pins s σ H D I h
 refine wpAny_execs_cons (bY (h1 pins s σ H D I h) λf s1 q=>?_)
 cases f with
 | next=>exact wpAny_execs_nil q
 | ret v=>exact q
 | brk=>exact q
 | cont=>exact q
theorem Inv.quiet {pins:List (Addr×Obj)} {σ:St} {H:Hp} {s:Shared} (I:Inv X pins σ H s):interactive X.env=false:=by simp [interactive,I.ok.kind]
noncomputable def tDrop (te:TE):TS:=λD σ H=>te σ H λ_ H1=>D.nx σ H1
theorem fz (he:PE X e te) (hs:swapsWith e none pos.line X.env=pure false:=by rfl):PS X (.Expr e pos) (tDrop te):=by
 intro pins s σ H D I h
 exact wpAny_Expr_any (bY (he pins s σ H _ I h) λv s1 ⟨x,H1,I1,r1,q1⟩=>⟨σ,H1,I1,q1⟩) I.quiet hs
noncomputable def tRet (te:TE):TS:=λD σ H=>te σ H D.rt
theorem aI (he:PE X e te):PS X (.Return (some e) pos) (tRet te):=by
 intro pins s σ H D I h
 exact wpAny_Return_some (bY (he pins s σ H _ I h) λv s1 ⟨x,H1,I1,r1,q1⟩=>⟨x,σ,H1,I1,r1,q1⟩)
noncomputable def tRetN:TS:=λD _ H=>D.rt .cc H
noncomputable def tIfS (c:TT) (t u:TS):TS:=λD σ H=>c σ H λb H1=>if b=true then t D σ H1 else u D σ H1
theorem bN {c:Expr} {a b:List Stmt} {tc:TT} (hc:PT X c tc) (ha:ua X a t) (hb:ua X b u):PS X (.If c a b pos) (tIfS tc t u):=by
 intro pins s σ H D I h
 refine wpAny_If (bY (hc pins s σ H _ I h) λd s1 ⟨H1,I1,q1⟩=>?_)
 cases d with
 | true=>exact ha pins s1 σ H1 D I1 q1
 | false=>exact hb pins s1 σ H1 D I1 q1
noncomputable def De:TS:=λ_ _ _=>False
theorem mH:PS X st De:=λ_ _ _ _ _ _ h=>h.elim
end
abbrev TG:=V->St->Hp->(St->Hp->Prop)->Prop
abbrev Cp:=List V->St->Hp->(St->Hp->Prop)->Prop
noncomputable def PG (X:Cx) (target:Expr) (t:TG):Prop:=
 ∀(pins:List (Addr×Obj)) (s:Shared) (σ:St) (H:Hp) (v:V) (u:Value) (Q:St->Hp->Prop),Inv X pins σ H s->RelV v u->t v σ H Q->
  wpAny (model X.prog X.w) X.A (assign target X.env u) (λ_ s'=>∃σ' H',Inv X pins σ' H' s'/\Q σ' H') X.xe s
noncomputable def Fy (X:Cx) (ts:List Expr) (t:Cp):Prop:=
 ∀(pins:List (Addr×Obj)) (s:Shared) (σ:St) (H:Hp) (vs:List V) (us:List Value) (Q:St->Hp->Prop),Inv X pins σ H s->aY vs us->t vs σ H Q->
  wpAny (model X.prog X.w) X.A (assignInOrder ((assignEach ts X.env).map (·.2)) us) (λ_ s'=>∃σ' H',Inv X pins σ' H' s'/\Q σ' H') X.xe s
abbrev xY:=V->V->V->Hp->(Hp->Prop)->Prop
noncomputable def Dh (X:Cx) (t:xY):Prop:=
 ∀(pins:List (Addr×Obj)) (s:Shared) (σ:St) (H:Hp) (o i v:V) (ov iv u:Value) (Q:Hp->Prop),Inv X pins σ H s->RelV o ov->RelV i iv->RelV v u->t o i v H Q->
  wpAny (model X.prog X.w) X.A (setItem ov iv u) (λ_ s'=>∃H',Inv X pins σ H' s'/\Q H') X.xe s
abbrev Jv:=V->V->Hp->VK->Prop
noncomputable def Sx (X:Cx) (op:Operator) (t:Jv):Prop:=
 ∀(pins:List (Addr×Obj)) (s:Shared) (σ:St) (H:Hp) (x y:V) (v u:Value) (Q:VK),Inv X pins σ H s->RelV x v->RelV y u->t x y H Q->
  wpAny (model X.prog X.w) X.A (inplaceOp op v u) (EP X pins σ Q) X.xe s
section
variable {X : Cx} {pos : Pos}
noncomputable def gName (i:Nat):TG:=λv σ H Q=>Q (σ.set i (some v)) H
theorem ax {i:Nat} {x:Str} (hN:X.N.Nodup) (hi:X.N[i]?=some x) (hx:Loc X.env.scope x) (hf:X.fn x=true\/X.env.scope.names.lookup x=some .local:=by first | exact .inl rfl | exact .inr rfl | assumption):PG X (.Name x pos) (gName i):=by
 intro pins s σ H v u Q I r h
 exact wpAny_assign_Name (ja I hN hi hx r (λs' I'=>⟨_,H,I',h⟩) hf)
noncomputable def gNil:Cp:=λvs σ H Q=>vs=[]/\Q σ H
noncomputable def gCons (t:TG) (u:Cp):Cp:=λvs σ H Q=>∃v r,vs=v::r/\t v σ H λσ' H'=>u r σ' H' Q
theorem bR:Fy X [] gNil:=by
 intro pins s σ H vs us Q I r h
 obtain⟨e,h⟩:=h
 subst e
 cases r
 exact assignInOrder_nil ⟨σ,H,I,h⟩
theorem aM {e:Expr} {es:List Expr} {t:TG} {u:Cp} (h1:PG X e t) (h2:Fy X es u)
  (hs:(assignEach (e::es) X.env).map (·.2)=assign e X.env::(assignEach es X.env).map (·.2):=by rfl):Fy X (e::es) (gCons t u):=by
 intro pins s σ H vs us Q I r h
 obtain⟨v,vr,e1,h⟩:=h
 subst e1
 cases r with
 | cons r rr=>
  rw[hs]
  refine assignInOrder_cons (bY (h1 pins s σ H _ _ _ I r h) λ_ s1 ⟨σ1,H1,I1,q1⟩=>?_)
  exact h2 pins s1 σ1 H1 _ _ Q I1 rr q1
noncomputable def xZ (K:PySem.W.Frag) (n:Nat) (t:Cp):TG:=λv σ H Q=>∃a xs,v=.ref a/\dR K H a xs/\xs.length=n/\t xs σ H Q
theorem Di {es:List Expr} {k:Nat} {t:Cp} {n:Nat} (hc:X.calm=true) (h:Fy X es t)
  (hn:(assignEach es X.env).length=n:=by rfl) (hst:(assignEach es X.env).findIdx? (·.1)=none:=by rfl):PG X (.Tuple es k pos) (xZ X.K n t):=by
 intro pins s σ H v u Q I r hw
 obtain⟨a,xs,e1,hq,hl,hw⟩:=hw
 subst e1
 cases r
 obtain⟨aP,rv,ht,hz⟩:=I.tuple hq
 refine assign_Tuple_tuple (I.ok.hd hc) ht (by simp [hn,<-hl,rv.length]) hst λh' hx=>?_
 have I1:Inv X pins σ H {s with heap:=h'}:=I.kept (t':=s.toks) λb o e=>hx b o (aaj (Heap.lt_size e)) e
 exact h pins _ σ H xs _ Q I1 (by simpa using rv) hw
noncomputable def gSub (to ti:TE) (t:xY):TG:=λv σ H Q=>to σ H λo H1=>ti σ H1 λi H2=>t o i v H2 λH3=>Q σ H3
theorem dG {o i:Expr} {to ti:TE} {t:xY} (ho:PE X o to) (hi:PE X i ti) (hs:Dh X t)
  (ha:∀v,assign (.Subscript o i pos) X.env v=(do
   let ov <-holding [v] (eval o X.env)
   let iv <-holding [v,ov] (eval i X.env)
   standAt pos
   holding [v,ov,iv] (setItem ov iv v)
   release [v,ov,iv] []):=by intro _;rfl):PG X (.Subscript o i pos) (gSub to ti t):=by
 intro pins s σ H v u Q I r h
 rw[ha]
 refine wpAny_bind (wpAny_holding (bY (ho pins s σ H _ I h) λov s1 cD=>?_))
 obtain⟨x,H1,I1,r1,q1⟩:=cD
 refine wpAny_bind (wpAny_holding (bY (hi pins s1 σ H1 _ I1 q1) λiv s2 cD=>?_))
 obtain⟨y,H2,I2,r2,q2⟩:=cD
 refine wpAny_bind (wpAny_standAt (wpAny_bind (wpAny_holding (bY (hs pins s2 σ H2 x y v ov iv u _ I2 r1 r2 r q2) λ_ s3 ⟨H3,I3,q3⟩=>?_))))
 exact wpAny_release ⟨σ,H3,I3,q3⟩
noncomputable def tAsg (te:TE) (g:TG):TS:=λD σ H=>te σ H λx H1=>g x σ H1 D.nx
theorem dH {tg e:Expr} {te:TE} {g:TG} (he:PE X e te) (hg:PG X tg g) (hs:swapsWithSole [tg] e pos.line X.env=pure false:=by rfl) (hw:swappedStores [tg] e X.env=pure none:=by rfl)
  (h1:(assignEach [tg] X.env).map (·.2)=[assign tg X.env]:=by rfl):PS X (.Assign [tg] e pos) (tAsg te g):=by
 intro pins s σ H D I h
 refine wpAny_Assign_stores (bY (he pins s σ H _ I h) λv s1 cD=>?_) hs hw
 obtain⟨x,H1,I1,r1,q1⟩:=cD
 rw[h1]
 exact bY (hg pins s1 σ H1 x v _ I1 r1 q1) λ_ s2 q=>q
theorem aD {i:Nat} {x:Str} {e:Expr} {te:TE} {pos':Pos} (hN:X.N.Nodup) (hi:X.N[i]?=some x) (hx:Loc X.env.scope x) (he:PE X e te) (hs:swapsWith e (some (.Name x pos')) pos.line X.env=pure false:=by rfl) (hf:X.fn x=true\/X.env.scope.names.lookup x=some .local:=by first | exact .inl rfl | exact .inr rfl | assumption):
  PS X (.Assign [.Name x pos'] e pos) (tAsg te (gName i)):=by
 intro pins s σ H D I h
 refine wpAny_Assign_Name (bY (he pins s σ H _ I h) λv s1 cD=>?_) hs
 obtain⟨y,H1,I1,r1,q1⟩:=cD
 exact ja I1 hN hi hx r1 (λs2 I2=>⟨_,H1,I2,q1⟩) hf
noncomputable def tPar (i j:Nat) (ta:TA):TS:=λD σ H=>ta σ H λvs H1=>∃v w,vs=[v,w]/\D.nx ((σ.set i (some v)).set j (some w)) H1
theorem Dj {i j:Nat} {x y:Str} {a b:Expr} {ta:TA} {px py pt:Pos} {kt k2 Kv} (hc:X.calm=true) (hN:X.N.Nodup) (hi:X.N[i]?=some x) (hj:X.N[j]?=some y) (qg:i≠j)
  (hx:X.env.scope.names.lookup x=some .local) (hy:X.env.scope.names.lookup y=some .local) (ha:PA X [a,b] ta)
  (hw:swappedStores [.Tuple [.Name x px,.Name y py] kt pt] (.Tuple [a,b] k2 Kv) X.env=pure (some [x,y]))
  (hs:swapsWithSole [.Tuple [.Name x px,.Name y py] kt pt] (.Tuple [a,b] k2 Kv) pos.line X.env=pure false:=by rfl):
  PS X (.Assign [.Tuple [.Name x px,.Name y py] kt pt] (.Tuple [a,b] k2 Kv) pos) (tPar i j ta):=by
 intro pins s σ H D I h
 rw[exec_Assign_arm]
 refine wpAny_bind (wpAny_standAt ?_)
 rw[hs]
 refine wpAny_bind (wpAny_pure ?_)
 rw[if_neg (by decide)]
 refine wpAny_bind (Tuple_ (bY (ha _ pins s σ H _ I h) λus s1 cD=>?_))
 obtain⟨vs,H1,I1,r1,q1⟩:=cD
 obtain⟨v,w,e1,q1⟩:=q1
 subst e1
 obtain⟨u1,u2,rfl,rv,qh⟩:∃u1 u2,us=[u1,u2]/\RelV v u1/\RelV w u2:=by
  cases r1 with
  | cons p q=>
   cases q with
   | cons p' q'=>
    cases q'
    exact⟨_,_,rfl,p,p'⟩
 refine wpAny_newObj_type ?_ (by show 2<=sizeLine;decide)
 have I2:Inv X pins σ H1 {s1 with heap:=s1.heap.push {cls:=.type "tuple",data:=.seq [u1,u2].toArray}}:=I1.kept (t':=s1.toks) λb o e=>Heap.get?_push_of_some _ e
 rw[hw]
 refine wpAny_bind (wpAny_pure ?_)
 show wpAny (model X.prog X.w) X.A (do rule "assign.swapped-stores";let items <-unpackItems (.ref s1.heap.objs.size) 2 none;assignInOrder [λv=>bindName X.env y v,λv=>bindName X.env x v] items.reverse;pure Flow.next) _ _ _
 refine wpAny_bind (wpAny_rule (wpAny_bind (unpackItems_tuple (items:=#[u1,u2]) (I.ok.hd hc) (IsTup.new s1.heap _) λh' oH=>?_)))
 have I3:=I2.kept (h':=h') (t':=s1.toks) λb o e=>oH b o (aaj (Heap.lt_size e)) e
 show wpAny _ _ (assignInOrder [λv=>bindName X.env y v,λv=>bindName X.env x v] [u2,u1] >>=λ_=>pure Flow.next) _ _ _
 refine wpAny_bind (assignInOrder_cons (wpAny_bindName (ja I3 hN hj (.inl hy) qh (λs2 I4=>?_) (.inr hy))))
 refine assignInOrder_cons (wpAny_bindName (ja I4 hN hi (.inl hx) rv (λs3 I5=>assignInOrder_nil (wpAny_pure ?_)) (.inr hx)))
 rw[List.set_comm _ _ (Ne.symm qg)] at I5
 exact⟨_,H1,I5,q1⟩
noncomputable def F8 (to ti te:TE) (AR:V->V->Hp->VK->Prop) (Jw:Jv) (AS:xY):TS:=λD σ H=>to σ H λo H1=>ti σ H1 λi H2=>AR o i H2 λx H3=>te σ H3 λy H4=>Jw x y H4 λz H5=>AS o i z H5 λH6=>D.nx σ H6
noncomputable def F9 (X:Cx) (t:V->V->Hp->VK->Prop):Prop:=
 ∀(pins:List (Addr×Obj)) (s:Shared) (σ:St) (H:Hp) (o i:V) (ov iv:Value) (Q:VK),Inv X pins σ H s->RelV o ov->RelV i iv->t o i H Q->
  wpAny (model X.prog X.w) X.A (getItem ov iv) (EP X pins σ Q) X.xe s
theorem AU {o i e:Expr} {to ti te:TE} {AR:V->V->Hp->VK->Prop} {Jw:Jv} {AS:xY} {op:Operator} {gu:Pos} (ho:PE X o to) (hi:PE X i ti) (hg:F9 X AR) (he:PE X e te) (hp:Sx X op Jw) (hs:Dh X AS)
  (ha:∀ov iv new,augStore i ov iv new=(do holding [new,ov,iv] (setItem ov iv new);release [new,ov,iv] [];pure .next):=by intros;rfl):PS X (.AugAssign (.Subscript o i gu) op e pos) (F8 to ti te AR Jw AS):=by
 intro pins s σ H D I h
 refine wpAny_AugAssign_SubscriptAny (bY (ho pins s σ H _ I h) λov s1 cD=>?_) ha
 obtain⟨x1,H1,I1,r1,q1⟩:=cD
 refine bY (hi pins s1 σ H1 _ I1 q1) λiv s2 cD=>?_
 obtain⟨x2,H2,I2,r2,q2⟩:=cD
 refine bY (hg pins s2 σ H2 x1 x2 ov iv _ I2 r1 r2 q2) λold s3 cD=>?_
 obtain⟨x3,H3,I3,r3,q3⟩:=cD
 refine bY (he pins s3 σ H3 _ I3 q3) λv s4 cD=>?_
 obtain⟨x4,H4,I4,r4,q4⟩:=cD
 refine bY (hp pins s4 σ H4 x3 x4 old v _ I4 r3 r4 q4) λnew s5 cD=>?_
 obtain⟨x5,H5,I5,r5,q5⟩:=cD
 exact bY (hs pins s5 σ H5 x1 x2 x5 ov iv new _ I5 r1 r2 r5 q5) λ_ s6 ⟨H6,I6,q6⟩=>⟨σ,H6,I6,q6⟩
noncomputable def UK (f:Int->Int->Int):Jv:=λx y H Q=>∃i j,x=.int i/\y=.int j/\Q (.int (f i j)) H
theorem Dk:Sx X .Sub (UK λi j=>i - j):=by
 intro pins s σ H x y v u Q I r1 r2 h
 obtain⟨i,j,e1,e2,q⟩:=h
 subst e1;subst e2
 obtain⟨t,rfl⟩:=r1
 obtain⟨t',rfl⟩:=r2
 exact isub_int ⟨.int _,H,I.tok _,⟨_,rfl⟩,q⟩
end
section
variable {X : Cx} {pos : Pos}
noncomputable def qi (c:TT) (tb:TS):TS:=λD σ H=>∃W:Nat->St->Hp->Prop,(∃m,W m σ H)/\∀m σ H,W m σ H->
 c σ H λb H1=>if b=true then ∃N:St->Hp->Prop,(∀σ' H',N σ' H'->∃m',m'<m/\W m' σ' H')/\tb {D with nx:=N,ct:=N,bk:=D.nx} σ H1 else D.nx σ H1
theorem gF {c:Expr} {body:List Stmt} {tc:TT} {tb:TS} (hp:PassesOwn (model X.prog X.w) X.A X.env X.xe) (hc:PT X c tc) (hb:ua X body tb):PS X (.While c body [] pos) (qi tc tb):=by
 intro pins s σ H D I h
 obtain⟨W,⟨m0,w0⟩,turn⟩:=h
 refine wpAny_While (codeAny_whileLoop (λn s'=>∃σ' H',Inv X pins σ' H' s'/\W n σ' H') ?_ m0 ⟨σ,H,I,w0⟩)
 rintro n s1 ⟨σ1,H1,I1,w1⟩
 refine wpAny_passesOwn hp (bY (hc pins s1 σ1 H1 _ I1 (turn n σ1 H1 w1)) λb s2 ⟨H2,I2,q2⟩=>?_)
 cases b with
 | true=>
  obtain⟨N,hN,q2⟩:=q2
  rw[if_pos rfl]
  refine wpAny_passesOwn hp (bY (hb pins s2 σ1 H2 _ I2 q2) λf s3 q3=>?_)
  cases f with
  | next=>
   obtain⟨σ3,H3,I3,n3⟩:=q3
   obtain⟨m',hm,w3⟩:=hN σ3 H3 n3
   exact⟨m',hm,σ3,H3,I3,w3⟩
  | cont=>
   obtain⟨σ3,H3,I3,n3⟩:=q3
   obtain⟨m',hm,w3⟩:=hN σ3 H3 n3
   exact⟨m',hm,σ3,H3,I3,w3⟩
  | brk=>exact q3
  | ret v=>exact q3
 | false=>
  rw[if_neg aaq]
  exact wpAny_execs_nil ⟨σ1,H2,I2,q2⟩
end
structure It where
 go:Nat->Hp->Prop
 ue:Nat->Hp->V->Hp->Prop
 stop:Nat->Hp->Prop
noncomputable def hW (X:Cx) (pins:List (Addr×Obj)) (H:Hp) (b:Addr):Prop:=
 H b=none/\b≠X.env.locals/\b∉X.fs/\(b∈X.ex\/X.s₀.heap.objs.size<=b)/\(∀x c,X.env.cells.lookup x=some c->c≠b)/\∀p∈X.pn++pins,p.1≠b
theorem Inv.uf {X:Cx} {pins:List (Addr×Obj)} {σ:St} {H H':Hp} {s:Shared} {b:Addr} (I:Inv X pins σ H s) (hb:s.heap.objs.size<=b) (hn:H' b=none):hW X pins H' b:=by
 refine⟨hn,Nat.ne_of_gt (aan I.lt hb),I.Kp hb,.inr (aas I.sz hb),λx c e z=>?_,λp hp z=>?_⟩
 ·obtain⟨v,q⟩:=I.cell x c e
  exact absurd (aan q.lt (by rw[z];exact hb)) (aaJ _)
 ·exact absurd (aan (Heap.lt_size (I.pin p hp).1) (by rw[z];exact hb)) (aaJ _)
structure Turn (P:Program) (w:World) (K:PySem.W.Frag) (tg:Expr) (J:It) (fp:List Addr) (it:Addr) (tn:Nat->Heap->Prop):Prop where
 mem:it∈fp
 obj:∀i h,tn i h->∀b∈fp,∃o,h.get? b=some o/\∀v,o.data≠.cell v
 keep:∀i h h',tn i h->(∀b∈fp,∀o,h.get? b=some o->h'.get? b=some o)->tn i h'
 item:∀(X:Cx),X.prog=P->X.w=w->X.K=K->X.calm=true->∀(i:Nat) (pins:List (Addr×Obj)) (s:Shared) (σ:St) (H:Hp) (E:Value->Shared->Prop),Inv X pins σ H s->(∀b∈fp,hW X pins H b)->tn i s.heap->J.go i H->
  wpAny (model P w) X.A (pyNext (.ref it)) (λr s1=>∃u,r=some u/\
   wpAny (model P w) X.A (letOwnedTupleGo tg (.ref it) u) (λ_ s2=>∃x H',Inv X pins σ H' s2/\RelV x u/\J.ue i H x H'/\tn (i+1) s2.heap/\∀b∈fp,H' b=none) E s1) E s
 done:∀(X:Cx),X.prog=P->X.w=w->X.K=K->X.calm=true->∀(i:Nat) (pins:List (Addr×Obj)) (s:Shared) (σ:St) (H:Hp) (E:Value->Shared->Prop),Inv X pins σ H s->(∀b∈fp,hW X pins H b)->tn i s.heap->J.stop i H->
  wpAny (model P w) X.A (pyNext (.ref it)) (λr s1=>r=none/\Inv X pins σ H s1) E s
 self:∀(A:Around) (i:Nat) (s:Shared) (Q:Value->Shared->Prop) (E:Value->Shared->Prop),tn i s.heap->Q (.ref it) s->wpAny (model P w) A (pyIter (.ref it)) Q E s
abbrev TI:=St->Hp->(It->Hp->Prop)->Prop
noncomputable def Sy (X:Cx) (pins:List (Addr×Obj)) (σ:St) (tg:Expr) (R:It->Hp->Prop) (Cq:Value) (s2:Shared):Prop:=
 ∃(it:Addr) (fp:List Addr) (tn:Nat->Heap->Prop) (J:It) (H':Hp),Cq=.ref it/\Inv X pins σ H' s2/\Turn X.prog X.w X.K tg J fp it tn/\tn 0 s2.heap/\(∀b∈fp,hW X pins H' b)/\R J H'
noncomputable def PI (X:Cx) (tg iter:Expr) (wi:TI):Prop:=
 ∀(pins:List (Addr×Obj)) (s:Shared) (σ:St) (H:Hp) (R:It->Hp->Prop),Inv X pins σ H s->wi σ H R->
  wpAny (model X.prog X.w) X.A (eval iter X.env) (λv s1=>wpAny (model X.prog X.w) X.A (pyIter v) (Sy X pins σ tg R) X.xe s1) X.xe s
theorem x6 {M:Model} {A:Around} {E:Value->Shared->Prop} {s:Shared} {tg:Expr} {it:Addr} {u:Value} {o:Obj} {n:String} {vs:Array Value} {Q:Unit->Shared->Prop} (ho:s.heap.get? it=some o) (hc:o.cls=.type n) (hd:o.data=.fields vs)
  (hn:["enumerate","zip","dict_itemiterator","dict_reverseitemiterator","odict_iterator","itertools.zip_longest","itertools.pairwise"].contains n=false) (hQ:Q () s):wpAny M A (letOwnedTupleGo tg (.ref it) u) Q E s:=by
 unfold letOwnedTupleGo
 cases tg <;>first
  | exact wpAny_pure hQ
  | (cases u <;>first
    | exact wpAny_pure hQ
    | (refine wpAny_bind (wpAny_load ho ?_)
       rw[hc,hd]
       show wpAny M A (if (["enumerate","zip","dict_itemiterator","dict_reverseitemiterator","odict_iterator","itertools.zip_longest","itertools.pairwise"].contains n && vs[0]?==some (rawInt _))=true then _ else _) Q E s
       rw[if_neg (by intro h;rw[hn,Bool.false_and] at h;cases h)]
       exact wpAny_pure hQ))
noncomputable def ug (K:PySem.W.Frag) (a:Addr):It:=
 ⟨λi H=>∃xs x,aV K H a xs/\xs[i]?=some x,λi H x H'=>H'=H/\∀xs,aV K H a xs->xs[i]?=some x,λi H=>∃xs,aV K H a xs/\xs.length<=i⟩
noncomputable def Ga (K:PySem.W.Frag) (a:Addr):It:=
 ⟨λi H=>∃xs x,dR K H a xs/\xs[i]?=some x,λi H x H'=>H'=H/\∀xs,dR K H a xs->xs[i]?=some x,λi H=>∃xs,dR K H a xs/\xs.length<=i⟩
noncomputable def Gb (lo:Int) (n:Nat):It:=⟨λi _=>i<n,λi H x H'=>H'=H/\x=.int (lo+i),λi _=>n<=i⟩
theorem wI {P:Program} {w:World} {K:PySem.W.Frag} {tg:Expr} (a it:Addr):Turn P w K tg (ug K a) [it] it (λi h=>h.IsListIter it a i) where
 mem:=by simp
 obj:=λi h st b hb=>by
  have e:b=it:=by simpa using hb
  subst e
  obtain⟨o,e,c,d⟩:=st
  exact⟨o,e,λv z=>by rw[d] at z;cases z⟩
 keep:=λi h h' st k=>st.at λo e=>k it (by simp) o e
 item:=by
  intro X hP hw hK hc i pins s σ H E I hf st hg
  subst hP hw hK
  obtain⟨xs,x,hq,hx⟩:=hg
  obtain⟨aP,rv,p,hz⟩:=I.list hq
  obtain⟨u,hu,ru⟩:=rv.get hx
  obtain⟨f0,f1,f2,f3,f4,f5⟩:=hf it (by simp)
  refine wpAny_pyNext_list_item st p.isList (x:=u) (by simpa using hu) λh' aN sb=>?_
  have I1:Inv X pins σ H {s with heap:=h'}:=I.turned (t':=s.toks) (λb o hb e=>(sb.2 b hb).trans e) f0 f1 f3 f4 f5
  obtain⟨o,e,c,d⟩:=id aN
  exact⟨u,rfl,x6 (s:={s with heap:=h'}) e c d (by decide) ⟨x,H,I1,ru,⟨rfl,λys hy=>by rw[I.jb hy hq];exact hx⟩,aN,λb hb=>(hf b hb).1⟩⟩
 done:=by
  intro X hP hw hK hc i pins s σ H E I hf st hg
  subst hP hw hK
  obtain⟨xs,hq,hx⟩:=hg
  obtain⟨aP,rv,p,hz⟩:=I.list hq
  obtain⟨f0,f1,f2,f3,f4,f5⟩:=hf it (by simp)
  have hl:=rv.length
  exact wpAny_pyNext_list_end (I.ok.hd hc) st p.isList (by simp;omega) λh' eb=>⟨rfl,I.turned (t':=s.toks) (λb o hb e=>eb b o hb e) f0 f1 f3 f4 f5⟩
 self:=λ_ _ _ _ _ st h=>wpAny_pyIter_listiter st h
theorem uh {P:Program} {w:World} {K:PySem.W.Frag} {tg:Expr} (a it:Addr):Turn P w K tg (Ga K a) [it] it (λi h=>h.IsTupleIter it a i) where
 mem:=by simp
 obj:=λi h st b hb=>by
  have e:b=it:=by simpa using hb
  subst e
  obtain⟨o,e,c,d⟩:=st
  exact⟨o,e,λv z=>by rw[d] at z;cases z⟩
 keep:=λi h h' st k=>st.at λo e=>k it (by simp) o e
 item:=by
  intro X hP hw hK hc i pins s σ H E I hf st hg
  subst hP hw hK
  obtain⟨xs,x,hq,hx⟩:=hg
  obtain⟨aP,rv,p,hz⟩:=I.tuple hq
  obtain⟨u,hu,ru⟩:=rv.get hx
  obtain⟨f0,f1,f2,f3,f4,f5⟩:=hf it (by simp)
  refine wpAny_pyNext_tuple_item st (show s.heap.IsTuple a aP.toArray from p) (x:=u) (by simpa using hu) λh' aN sb=>?_
  have I1:Inv X pins σ H {s with heap:=h'}:=I.turned (t':=s.toks) (λb o hb e=>(sb.2 b hb).trans e) f0 f1 f3 f4 f5
  obtain⟨o,e,c,d⟩:=id aN
  exact⟨u,rfl,x6 (s:={s with heap:=h'}) e c d (by decide) ⟨x,H,I1,ru,⟨rfl,λys hy=>by rw[I.wH hy hq];exact hx⟩,aN,λb hb=>(hf b hb).1⟩⟩
 done:=by
  intro X hP hw hK hc i pins s σ H E I hf st hg
  subst hP hw hK
  obtain⟨xs,hq,hx⟩:=hg
  obtain⟨aP,rv,p,hz⟩:=I.tuple hq
  obtain⟨f0,f1,f2,f3,f4,f5⟩:=hf it (by simp)
  have hl:=rv.length
  exact wpAny_pyNext_tuple_end (I.ok.hd hc) st (show s.heap.IsTuple a aP.toArray from p) (by simp;omega) λh' eb=>⟨rfl,I.turned (t':=s.toks) (λb o hb e=>eb b o hb e) f0 f1 f3 f4 f5⟩
 self:=λ_ _ _ _ _ st h=>wpAny_pyIter_tupleiter st h
theorem uj {P:Program} {w:World} {K:PySem.W.Frag} {tg:Expr} (it:Addr) (lo:Int) (n:Nat):Turn P w K tg (Gb lo n) [it] it (λi h=>IsRangeIter h it (lo+ (i:Nat)*1) ((n:Int) - (i:Nat)) 1) where
 mem:=by simp
 obj:=λi h st b hb=>by
  have e:b=it:=by simpa using hb
  subst e
  exact⟨_,st,λv z=>by
   have z':Data.fields _=Data.cell v:=z
   cases z'⟩
 keep:=λi h h' st k=>k it (by simp) _ st
 item:=by
  intro X hP hw hK hc i pins s σ H E I hf st hg
  subst hP hw hK
  obtain⟨f0,f1,f2,f3,f4,f5⟩:=hf it (by simp)
  have W:=Walks.range (prog:=X.prog) (w:=X.w) (I.ok.hd hc) it lo 1 n
  refine W.item i s _ _ hg st λv h' tk hv aN kk=>?_
  obtain⟨t,rfl⟩:=hv
  have I1:Inv X pins σ H {s with heap:=h',toks:=tk}:=I.turned (λb o hb e=>kk b o (by simpa using hb) e) f0 f1 f3 f4 f5
  refine⟨_,rfl,x6 (s:={s with heap:=h',toks:=tk}) (n:="range_iterator") aN rfl rfl (by decide) ⟨.int (lo+i),H,I1,⟨t,?_⟩,⟨rfl,rfl⟩,aN,λb hb=>(hf b hb).1⟩⟩
  rw[Int.mul_one]
 done:=by
  intro X hP hw hK hc i pins s σ H E I hf st hg
  subst hP hw hK
  obtain⟨f0,f1,f2,f3,f4,f5⟩:=hf it (by simp)
  exact wpAny_pyNext_range_end (I.ok.hd hc) st (by have:n<=i:=hg;omega) λh' eb=>⟨rfl,I.turned (t':=s.toks) (λb o hb e=>eb b o hb e) f0 f1 f3 f4 f5⟩
 self:=λ_ _ _ _ _ st h=>wpAny_pyIter_rangeiter st h
end L2
namespace L2
open PySem PySem.Spec PyProof.Rows
section
variable {X : Cx} {tg : Expr}
noncomputable def iList (K:PySem.W.Frag) (tl:TE):TI:=λσ H R=>tl σ H λx H1=>∃a,x=.ref a/\(∃xs,aV K H1 a xs)/\R (ug K a) H1
noncomputable def iTup (K:PySem.W.Frag) (tl:TE):TI:=λσ H R=>tl σ H λx H1=>∃a,x=.ref a/\(∃xs,dR K H1 a xs)/\R (Ga K a) H1
theorem AV {l:Expr} {tl:TE} (hl:PE X l tl):PI X tg l (iList X.K tl):=by
 intro pins s σ H R I h
 refine bY (hl pins s σ H _ I h) λv s1 cD=>?_
 obtain⟨x,H1,I1,r1,q1⟩:=cD
 obtain⟨a,e,⟨xs,hq⟩,q⟩:=q1
 subst e
 cases r1
 obtain⟨aP,rv,p,hz⟩:=I1.list hq
 refine wpAny_pyIter_list p.isList ?_
 refine⟨s1.heap.objs.size,[s1.heap.objs.size],_,_,H1,rfl,I1.kept (t':=s1.toks) λb o e=>Heap.get?_push_of_some _ e,wI a _,⟨_,Heap.get?_push_size _ rfl,rfl,rfl⟩,λb hb=>?_,q⟩
 have e:b=s1.heap.objs.size:=by simpa using hb
 subst e
 exact I1.uf (aae _) (I1.bI.fresh (aae _))
theorem Dl {l:Expr} {tl:TE} (hl:PE X l tl):PI X tg l (iTup X.K tl):=by
 intro pins s σ H R I h
 refine bY (hl pins s σ H _ I h) λv s1 cD=>?_
 obtain⟨x,H1,I1,r1,q1⟩:=cD
 obtain⟨a,e,⟨xs,hq⟩,q⟩:=q1
 subst e
 cases r1
 obtain⟨aP,rv,p,hz⟩:=I1.tuple hq
 refine wpAny_pyIter_tuple (show s1.heap.IsTuple a aP.toArray from p) ?_
 refine⟨s1.heap.objs.size,[s1.heap.objs.size],_,_,H1,rfl,I1.kept (t':=s1.toks) λb o e=>Heap.get?_push_of_some _ e,uh a _,⟨_,Heap.get?_push_size _ rfl,rfl,rfl⟩,λb hb=>?_,q⟩
 have e:b=s1.heap.objs.size:=by simpa using hb
 subst e
 exact I1.uf (aae _) (I1.bI.fresh (aae _))
theorem rJ {pins:List (Addr×Obj)} {σ:St} {H:Hp} {s:Shared} {R:It->Hp->Prop} {E:Value->Shared->Prop} {lo hi:Int} {t u v:Tok} {tk:Nat} (I:Inv X pins σ H s) (h1:-(2^62)<=lo) (h2:lo<2^62) (h3:-(2^62)<=hi) (h4:hi<2^62)
  (q:R (Gb lo (hi - lo).toNat) H):wpAny (model X.prog X.w) X.A (pyIter (.ref s.heap.objs.size)) (Sy X pins σ tg R) E {s with heap:=s.heap.push {cls:=.type "range",data:=.fields #[.int lo t,.int hi u,.int 1 v]},toks:=tk}:=by
 refine wpAny_pyIter_range (IsRange.new ..) (small_one h1 h2 h3 h4) ?_
 have I1:Inv X pins σ H {s with heap:=s.heap.push {cls:=.type "range",data:=.fields #[.int lo t,.int hi u,.int 1 v]},toks:=tk}:=I.kept λb o e=>Heap.get?_push_of_some _ e
 refine⟨(s.heap.push {cls:=.type "range",data:=.fields #[.int lo t,.int hi u,.int 1 v]}).objs.size,[(s.heap.push {cls:=.type "range",data:=.fields #[.int lo t,.int hi u,.int 1 v]}).objs.size],_,_,H,rfl,
  I1.kept (t':=tk) λb o e=>Heap.get?_push_of_some _ e,uj _ lo (hi - lo).toNat,?_,λb hb=>?_,q⟩
 ·have e1:lo+ ((0:Nat):Int)*1=lo:=by simp
  have e2:(((hi - lo).toNat:Nat):Int) - ((0:Nat):Int)=Builtin.Range.rangeSize lo hi 1:=by rw[rangeSize_one];split <;>omega
  show IsRangeIter _ _ (lo+ ((0:Nat):Int)*1) ((((hi - lo).toNat:Nat):Int) - ((0:Nat):Int)) 1
  rw[e1,e2]
  exact Heap.get?_push_size _ rfl
 ·have e:b=(s.heap.push {cls:=.type "range",data:=.fields #[.int lo t,.int hi u,.int 1 v]}).objs.size:=by simpa using hb
  subst e
  exact I1.uf (aae _) (I1.bI.fresh (aae _))
noncomputable def iRng1 (ta:TA):TI:=λσ H R=>ta σ H λvs H1=>∃j:Int,vs=[.int j]/\-(2^62)<=j/\j<2^62/\R (Gb 0 j.toNat) H1
noncomputable def iRng2 (ta:TA):TI:=λσ H R=>ta σ H λvs H1=>∃i j:Int,vs=[.int i,.int j]/\(-(2^62)<=i/\i<2^62/\-(2^62)<=j/\j<2^62)/\R (Gb i (j - i).toNat) H1
theorem c8 {a:Expr} {ta:TA} {p pos:Pos} (hg:Gl X "range") (hm:X.mg "range"=none) (ha:PA X [a] ta) (hs:starEach [a] X.env=[(false,eval a X.env)]:=by rfl):PI X tg (.Call (.Name "range" p) [a] [] pos) (iRng1 ta):=by
 intro pins s σ H R I h
 refine Call_ (gD I hg hm boot_range (PyProof.Rows.callWith_type1 (bY (ha pos pins s σ H _ I h) λus s1 cD=>?_) hs rfl))
 obtain⟨vs,H1,I1,r1,q1⟩:=cD
 obtain⟨j,e,q1,q2,q⟩:=q1
 subst e
 cases r1 with
 | cons r rr=>
  cases rr
  obtain⟨t,rfl⟩:=r
  exact call_range_1 (rJ I1 (by omega) (by omega) q1 q2 (by simpa using q))
theorem wJ {a b:Expr} {ta:TA} {p pos:Pos} (hg:Gl X "range") (hm:X.mg "range"=none) (ha:PA X [a,b] ta) (hs:starEach [a,b] X.env=[(false,eval a X.env),(false,eval b X.env)]:=by rfl) (Cr:starEach [b] X.env=[(false,eval b X.env)]:=by rfl):
  PI X tg (.Call (.Name "range" p) [a,b] [] pos) (iRng2 ta):=by
 intro pins s σ H R I h
 refine Call_ (gD I hg hm boot_range (PyProof.Rows.callWith_type1 (bY (ha pos pins s σ H _ I h) λus s1 cD=>?_) (by rw[hs,Cr]) (by rw[Cr];rfl)))
 obtain⟨vs,H1,I1,r1,q1⟩:=cD
 obtain⟨i,j,e,⟨q1,q2,q3,q4⟩,q⟩:=q1
 subst e
 cases r1 with
 | cons r rr=>
  cases rr with
  | cons r' rr=>
   cases rr
   obtain⟨t,rfl⟩:=r
   obtain⟨t',rfl⟩:=r'
   exact call_range_2 (rJ I1 q1 q2 q3 q4 q)
noncomputable def Gc (wi:TI) (g:TG) (tb:TS):TS:=λD σ H=>wi σ H λJ H1=>∃W:Nat->Nat->St->Hp->Prop,(∃m,W 0 m σ H1)/\∀i m σ H,W i m σ H->
 (J.stop i H/\D.nx σ H)\/(J.go i H/\∃N:St->Hp->Prop,(∀σ' H',N σ' H'->∃m',m'<m/\W (i+1) m' σ' H')/\∀x H',J.ue i H x H'->g x σ H' λσ2 H2=>tb {D with nx:=N,ct:=N,bk:=D.nx} σ2 H2)
noncomputable def mI (fp:List Addr) (h:Heap):List (Addr×Obj):=fp.filterMap λb=>(h.get? b).map λo=>(b,o)
theorem fA {fp:List Addr} {h:Heap} {b:Addr} {o:Obj} (hb:b∈fp) (e:h.get? b=some o):(b,o)∈mI fp h:=List.mem_filterMap.mpr ⟨b,hb,by rw[e];rfl⟩
theorem wK {fp:List Addr} {h:Heap} {p:Addr×Obj} (hp:p∈mI fp h):p.1∈fp/\h.get? p.1=some p.2:=by
 obtain⟨b,hb,e⟩:=List.mem_filterMap.mp hp
 cases q:h.get? b with
 | none=>rw[q] at e;cases e
 | some o=>
  rw[q] at e
  have e':(b,o)=p:=aax e
  subst e'
  exact⟨hb,q⟩
theorem Inv.pinned {pins:List (Addr×Obj)} {σ:St} {H:Hp} {s:Shared} {fp:List Addr} (I:Inv X pins σ H s) (hf:∀b∈fp,hW X pins H b) (ho:∀b∈fp,∃o,s.heap.get? b=some o/\∀v,o.data≠.cell v):Inv X (pins++mI fp s.heap) σ H s:=
 I.i9 λp hp=>(List.mem_append.mp hp).elim (λz=>I.pin p (aaQ _ z)) λz=>by
  obtain⟨hb,e⟩:=wK z
  obtain⟨f0,f1,f2,_⟩:=hf p.1 hb
  obtain⟨o,e',d⟩:=ho p.1 hb
  rw[e] at e';cases e'
  exact⟨e,f0,f1,f2,d⟩
theorem Inv.mJ {pins pl:List (Addr×Obj)} {σ:St} {H:Hp} {s:Shared} (I:Inv X (pins++pl) σ H s):Inv X pins σ H s:=I.i9 λp hp=>I.pin p (aaQ _ (List.mem_append_left _ hp))
theorem b9 {iter:Expr} {body:List Stmt} {wi:TI} {g:TG} {tb:TS} {pos:Pos} (hp:PassesOwn (model X.prog X.w) X.A X.env X.xe) (hc:X.calm=true) (hi:PI X tg iter wi) (hg:PG X tg g) (hb:ua X body tb)
  (hs:∀x,foldedSetIterable iter X.env x=pure x:=by intro _;rfl):PS X (.For tg iter body [] pos) (Gc wi g tb):=by
 intro pins s σ H D I h
 refine wpAny_For (bY (hi pins s σ H _ I h) λv s1 h1=>bY h1 λCq s2 h2=>?_) hs
 obtain⟨it,fp,tn,J,H2,e,I2,T,bL,f2,W,⟨m0,w0⟩,turn⟩:=h2
 subst e
 have uk:∀{H':Hp},(∀b∈fp,H' b=none)->∀b∈fp,hW X pins H' b:=λhn b hb=>⟨hn b hb,(f2 b hb).2⟩
 refine codeAny_forLoop_any (λn s'=>∃i σ' H',Inv X pins σ' H' s'/\tn i s'.heap/\(∀b∈fp,H' b=none)/\W i n σ' H') ?_ m0 ⟨0,σ,H2,I2,bL,λb hb=>(f2 b hb).1,w0⟩
 rintro n s3 ⟨i,σ3,H3,I3,oI,Dm,w3⟩
 rcases turn i n σ3 H3 w3 with ⟨stop,qn⟩ | ⟨go,N,hN,step⟩
 ·refine wpAny_passesOwn hp (bY (T.done X rfl rfl rfl hc i pins s3 σ3 H3 X.xe I3 (uk Dm) oI stop) λr s4 ⟨hr,I4⟩=>?_)
  subst hr
  exact wpAny_execs_nil ⟨σ3,H3,I4,qn⟩
 ·refine wpAny_passesOwn hp (bY (T.item X rfl rfl rfl hc i pins s3 σ3 H3 X.xe I3 (uk Dm) oI go) λr s4 ⟨u,hr,h4⟩=>?_)
  subst hr
  refine wpAny_passesOwn hp (bY h4 λ_ s5 cD=>?_)
  obtain⟨x,H5,I5,r5,y5,Gd,UM⟩:=cD
  have UN:=I5.pinned (uk UM) (T.obj _ _ Gd)
  refine wpAny_passesOwn hp (bY (hg _ s5 σ3 H5 x u _ UN r5 (step x H5 y5)) λ_ s6 ⟨σ6,H6,I6,q6⟩=>?_)
  refine wpAny_passesOwn hp (bY (hb _ s6 σ6 H6 _ I6 q6) λf s7 q7=>?_)
  have again:∀{σ7:St} {H7:Hp},Inv X (pins++mI fp s5.heap) σ7 H7 s7->N σ7 H7->∃m,m<n/\∃i σ' H',Inv X pins σ' H' s7/\tn i s7.heap/\(∀b∈fp,H' b=none)/\W i m σ' H':=λ{σ7 H7} I7 n7=>by
   obtain⟨m',hm,w7⟩:=hN σ7 H7 n7
   refine⟨m',hm,i+1,σ7,H7,I7.mJ,T.keep _ _ _ Gd λb hb o e=>(I7.pin (b,o) (aaQ _ (aaQ _ (fA hb e)))).1,λb hb=>?_,w7⟩
   obtain⟨o,e,d⟩:=T.obj _ _ Gd b hb
   exact(I7.pin (b,o) (aaQ _ (aaQ _ (fA hb e)))).2.1
  cases f with
  | next=>obtain⟨σ7,H7,I7,n7⟩:=q7;exact again I7 n7
  | cont=>obtain⟨σ7,H7,I7,n7⟩:=q7;exact again I7 n7
  | brk=>obtain⟨σ7,H7,I7,q7⟩:=q7;exact⟨σ7,H7,I7.mJ,q7⟩
  | ret v=>obtain⟨x7,σ7,H7,I7,r7,q7⟩:=q7;exact⟨x7,σ7,H7,I7.mJ,r7,q7⟩
end
theorem AW {K:PySem.W.Frag} {a:Addr} {xs:List V} {g:TG} {tb:TS} {D:Ends} {σ:St} {H:Hp} (Pv:Nat->St->Hp->Prop) (h0:Pv 0 σ H) (hl:∀i σ H,i<=xs.length->Pv i σ H->dR K H a xs)
  (hs:∀i x σ H,xs[i]?=some x->Pv i σ H->g x σ H λσ2 H2=>tb {D with nx:=Pv (i+1),ct:=Pv (i+1),bk:=D.nx} σ2 H2) (hd:∀σ H,Pv xs.length σ H->D.nx σ H):
  ∃W:Nat->Nat->St->Hp->Prop,(∃m,W 0 m σ H)/\∀i m σ H,W i m σ H->
   ((Ga K a).stop i H/\D.nx σ H)\/((Ga K a).go i H/\∃N:St->Hp->Prop,(∀σ' H',N σ' H'->∃m',m'<m/\W (i+1) m' σ' H')/\∀x H',(Ga K a).ue i H x H'->g x σ H' λσ2 H2=>tb {D with nx:=N,ct:=N,bk:=D.nx} σ2 H2):=by
 refine⟨λi m σ H=>m=xs.length - i/\i<=xs.length/\Pv i σ H,⟨xs.length,by simp,aar _,h0⟩,?_⟩
 rintro i m σ H ⟨rfl,hi,p⟩
 have q:=hl i σ H hi p
 by_cases en:i<xs.length
 ·refine .inr ⟨⟨xs,xs[i],q,by simp [en]⟩,Pv (i+1),λσ' H' p'=>⟨xs.length - (i+1),by omega,rfl,en,p'⟩,λx H' y=>?_⟩
  obtain⟨e,y⟩:=y
  subst e
  exact hs i x σ _ (y xs q) p
 ·have e:i=xs.length:=by omega
  subst e
  exact .inl ⟨⟨xs,q,aae _⟩,hd σ H p⟩
theorem rK {c:TT} {tb:TS} {D:Ends} {σ:St} {H:Hp} (Pv:St->Hp->Prop) (μ:St->Hp->Nat) (h0:Pv σ H)
  (hs:∀σ H,Pv σ H->c σ H λb H1=>if b=true then tb {D with nx:=λσ' H'=>Pv σ' H'/\μ σ' H'<μ σ H,ct:=λσ' H'=>Pv σ' H'/\μ σ' H'<μ σ H,bk:=D.nx} σ H1 else D.nx σ H1)
  (mono:∀σ H Q Q',(∀b H1,Q b H1->Q' b H1)->c σ H Q->c σ H Q'):qi c tb D σ H:=by
 refine⟨λm σ H=>m=μ σ H/\Pv σ H,⟨_,rfl,h0⟩,?_⟩
 rintro m σ H ⟨rfl,p⟩
 refine mono σ H _ _ (λb H1 q=>?_) (hs σ H p)
 cases b with
 | true=>exact⟨_,λσ' H' ⟨p',l⟩=>⟨_,l,rfl,p'⟩,q⟩
 | false=>exact q
end L2
namespace L2
open PySem PySem.Spec PyProof.Rows
abbrev R2:=V->V->Hp->VK->Prop
noncomputable def kc (X:Cx) (f:Value->Value->Sem Value) (r:R2):Prop:=
 ∀(pins:List (Addr×Obj)) (s:Shared) (σ:St) (H:Hp) (x y:V) (v u:Value) (Q:VK),Inv X pins σ H s->RelV x v->RelV y u->r x y H Q->
  wpAny (model X.prog X.w) X.A (f v u) (EP X pins σ Q) X.xe s
noncomputable def Jx (X:Cx) (f:Value->Sem Value) (r:V->Hp->VK->Prop):Prop:=
 ∀(pins:List (Addr×Obj)) (s:Shared) (σ:St) (H:Hp) (x:V) (v:Value) (Q:VK),Inv X pins σ H s->RelV x v->r x H Q->
  wpAny (model X.prog X.w) X.A (f v) (EP X pins σ Q) X.xe s
noncomputable def cv (X:Cx) (f:Value) (r:List V->Hp->VK->Prop):Prop:=
 ∀(pins:List (Addr×Obj)) (s:Shared) (σ:St) (H:Hp) (xs:List V) (us:List Value) (Q:VK),Inv X pins σ H s->aY xs us->r xs H Q->
  wpAny (model X.prog X.w) X.A (call f us) (EP X pins σ Q) X.xe s
noncomputable def tOp (r:R2) (ta tb:TE):TE:=λσ H Q=>ta σ H λx H1=>tb σ H1 λy H2=>r x y H2 Q
noncomputable def tUn (r:V->Hp->VK->Prop) (ta:TE):TE:=λσ H Q=>ta σ H λx H1=>r x H1 Q
noncomputable def rI (C:Int->Int->Prop) (g:Int->Int->V):R2:=λx y H Q=>∃i j,x=.int i/\y=.int j/\C i j/\Q (g i j) H
noncomputable def rI0 (g:Int->Int->V):R2:=λx y H Q=>∃i j,x=.int i/\y=.int j/\Q (g i j) H
noncomputable def rU (g:Int->V):V->Hp->VK->Prop:=λx H Q=>∃i,x=.int i/\Q (g i) H
section
variable {X : Cx} {a b c : Expr} {ta tb tc : TE} {pos : Pos}
theorem Dp (ha:PE X a ta) (hb:PE X b tb) {pins:List (Addr×Obj)} {s:Shared} {σ:St} {H:Hp} {R:V->V->Hp->Prop} (I:Inv X pins σ H s)
  (h:ta σ H λx H1=>tb σ H1 λy H2=>R x y H2) {Q:Value->Shared->Prop} {f:Value->Value->Sem Value}
  (hf:∀v u s2 x y H2,Inv X pins σ H2 s2->RelV x v->RelV y u->R x y H2->wpAny (model X.prog X.w) X.A (f v u) Q X.xe s2):
  wpAny (model X.prog X.w) X.A (eval a X.env) (λv s₁=>wpAny (model X.prog X.w) X.A (eval b X.env) (λu s₂=>wpAny (model X.prog X.w) X.A (f v u) Q X.xe s₂) X.xe s₁) X.xe s:=by
 refine bY (ha pins s σ H _ I h) λv s1 cD=>?_
 obtain⟨x,H1,I1,r1,q1⟩:=cD
 refine bY (hb pins s1 σ H1 _ I1 q1) λu s2 cD=>?_
 obtain⟨y,H2,I2,r2,q2⟩:=cD
 exact hf v u s2 x y H2 I2 r1 r2 q2
theorem aG {op:Operator} {r:R2} (ho:kc X (binaryOp op) r) (ha:PE X a ta) (hb:PE X b tb):PE X (.BinOp a op b pos) (tOp r ta tb):=by
 intro pins s σ H Q I h
 exact wpAny_BinOp (Dp ha hb I h λv u s2 x y H2 I2 rx ry q=>ho pins s2 σ H2 x y v u Q I2 rx ry q)
theorem x8 {op:UnaryOp} {r:V->Hp->VK->Prop} (ho:Jx X (unaryOp op) r) (ha:PE X a ta):PE X (.UnaryOp op a pos) (tUn r ta):=by
 intro pins s σ H Q I h
 exact UnaryOp_ (bY (ha pins s σ H _ I h) λv s1 ⟨x,H1,I1,r1,q1⟩=>ho pins s1 σ H1 x v Q I1 r1 q1)
theorem Ge {f:Value->Value->Sem Value} {C:Int->Int->Prop} {g:Int->Int->Int}
  (rule:∀(i j:Int) (t u:Tok) (s:Shared) (Q:Value->Shared->Prop) (E:Value->Shared->Prop),C i j->Q (.int (g i j) s.toks) {s with toks:=s.toks+1}->wpAny (model X.prog X.w) X.A (f (.int i t) (.int j u)) Q E s):
  kc X f (rI C λi j=>.int (g i j)):=by
 intro pins s σ H x y v u Q I rx ry h
 obtain⟨i,j,rfl,rfl,hc,q⟩:=h
 obtain⟨t,rfl⟩:=rx
 obtain⟨t',rfl⟩:=ry
 exact rule i j t t' s _ _ hc ⟨.int (g i j),H,I.tok _,⟨_,rfl⟩,q⟩
theorem Gf {f:Value->Value->Sem Value} {g:Int->Int->Int}
  (rule:∀(i j:Int) (t u:Tok) (s:Shared) (Q:Value->Shared->Prop) (E:Value->Shared->Prop),Q (.int (g i j) s.toks) {s with toks:=s.toks+1}->wpAny (model X.prog X.w) X.A (f (.int i t) (.int j u)) Q E s):
  kc X f (rI0 λi j=>.int (g i j)):=by
 intro pins s σ H x y v u Q I rx ry h
 obtain⟨i,j,rfl,rfl,q⟩:=h
 obtain⟨t,rfl⟩:=rx
 obtain⟨t',rfl⟩:=ry
 exact rule i j t t' s _ _ ⟨.int (g i j),H,I.tok _,⟨_,rfl⟩,q⟩
theorem Gg {f:Value->Value->Sem Value} {g:Int->Int->Bool}
  (rule:∀(i j:Int) (t u:Tok) (s:Shared) (Q:Value->Shared->Prop) (E:Value->Shared->Prop),Q (.bool (g i j)) s->wpAny (model X.prog X.w) X.A (f (.int i t) (.int j u)) Q E s):
  kc X f (rI0 λi j=>.bl (g i j)):=by
 intro pins s σ H x y v u Q I rx ry h
 obtain⟨i,j,rfl,rfl,q⟩:=h
 obtain⟨t,rfl⟩:=rx
 obtain⟨t',rfl⟩:=ry
 exact rule i j t t' s _ _ ⟨.bl (g i j),H,I,rfl,q⟩
noncomputable def CPow (i j:Int):Prop:=0<=j/\j<=1000000/\i.natAbs<2^64
theorem cb:kc X (binaryOp .Add) (rI0 λi j=>.int (i+j)):=Gf λ_ _ _ _ _ _ _ q=>add_int q
theorem qj:kc X (binaryOp .Sub) (rI0 λi j=>.int (i - j)):=Gf λ_ _ _ _ _ _ _ q=>sub_int q
theorem Dq:kc X (binaryOp .Mod) (rI (λ_ j=>0<j) λi j=>.int (i % j)):=Ge λi j _ _ _ _ _ hc q=>by
 have h1:(0:Int)<j:=hc
 exact mod_int' (by omega) (by rw[Int.fmod_eq_emod_of_nonneg i (by omega)];exact q)
theorem qk:kc X (binaryOp .Pow) (rI CPow λi j=>.int (i^j.toNat)):=Ge λ_ _ _ _ _ _ _ hc q=>pow_int_small hc.1 hc.2.1 hc.2.2 q
theorem UO {f:Value->Sem Value} {g:Int->Int}
  (rule:∀(i:Int) (t:Tok) (s:Shared) (Q:Value->Shared->Prop) (E:Value->Shared->Prop),Q (.int (g i) s.toks) {s with toks:=s.toks+1}->wpAny (model X.prog X.w) X.A (f (.int i t)) Q E s):
  Jx X f (rU λi=>.int (g i)):=by
 intro pins s σ H x v Q I rx h
 obtain⟨i,rfl,q⟩:=h
 obtain⟨t,rfl⟩:=rx
 exact rule i t s _ _ ⟨.int (g i),H,I.tok _,⟨_,rfl⟩,q⟩
theorem um:Jx X (unaryOp .USub) (rU λi=>.int (-i)):=UO λ_ _ _ _ _ q=>neg_int q
end
noncomputable def scal:V->V->Bool
 | .cc,.cc=>true | .cc,.int _=>true | .int _,.cc=>true | .cc,.bl _=>true | .bl _,.cc=>true | .cc,.str _=>true | .str _,.cc=>true
 | .int _,.int _=>true | .bl _,.bl _=>true | .str _,.str _=>true | .xJ _,.xJ _=>true
 | .int _,.str _=>true | .str _,.int _=>true | .bl _,.str _=>true | .str _,.bl _=>true
 | _,_=>false
noncomputable def rEq:R2:=λx y H Q=>scal x y=true/\Q (.bl (decide (x=y))) H
noncomputable def rNe:R2:=λx y H Q=>scal x y=true/\Q (.bl (!decide (x=y))) H
theorem vi {i j:Int}:decide (V.int i=V.int j)=(i==j):=by
 rw[Bool.eq_iff_iff]
 simp
theorem x9 {i j:Bool}:decide (V.bl i=V.bl j)=(i==j):=by
 rw[Bool.eq_iff_iff]
 simp
theorem vj {i j:Str}:decide (V.str i=V.str j)=(i==j):=by
 rw[Bool.eq_iff_iff]
 simp
theorem vk {i j:Array UInt8}:decide (V.xJ i=V.xJ j)=(i.toList==j.toList):=by
 rw[Bool.eq_iff_iff]
 cases i
 cases j
 simp
section
variable {X : Cx} {a b c : Expr} {ta tb tc : TE} {pos : Pos}
theorem bD {pins:List (Addr×Obj)} {σ:St} {H:Hp} {s:Shared} {Q:VK} {k k':Bool} (I:Inv X pins σ H s) (q:Q (.bl k) H) (e:k=k'):EP X pins σ Q (.bool k') s:=by
 subst e
 exact⟨.bl k,H,I,rfl,q⟩
theorem cJ:kc X (compareOp .Eq) rEq:=by
 intro pins s σ H x y v u Q I rx ry h
 obtain⟨hs,q⟩:=h
 cases x with
 | cc=>
  cases rx
  cases y with
  | cc=>cases ry;exact PySem.EqNone.eq_none_none (bD I q (by simp))
  | bl j=>cases ry;exact PySem.EqNone.eq_none_bool (bD I q (by simp))
  | int j=>obtain⟨t',rfl⟩:=ry;exact PySem.EqNone.eq_none_int (bD I q (by simp))
  | str j=>obtain⟨t',rfl⟩:=ry;exact PySem.EqNone.eq_none_str (bD I q (by simp))
  | _=>exact absurd (show false=true from hs) aaq
 | bl i=>
  cases rx
  cases y with
  | cc=>cases ry;exact PySem.EqNone.eq_bool_none (bD I q (by simp))
  | bl j=>cases ry;exact eq_bool (bD I q x9)
  | str j=>obtain⟨t',rfl⟩:=ry;exact PySem.EqMixed.eq_bool_str (bD I q (by simp))
  | _=>exact absurd (show false=true from hs) aaq
 | int i=>
  obtain⟨t,rfl⟩:=rx
  cases y with
  | cc=>cases ry;exact PySem.EqNone.eq_int_none (bD I q (by simp))
  | int j=>obtain⟨t',rfl⟩:=ry;exact eq_int (bD I q vi)
  | str j=>obtain⟨t',rfl⟩:=ry;exact PySem.EqMixed.eq_int_str (bD I q (by simp))
  | _=>exact absurd (show false=true from hs) aaq
 | str i=>
  obtain⟨t,rfl⟩:=rx
  cases y with
  | cc=>cases ry;exact PySem.EqNone.eq_str_none (bD I q (by simp))
  | bl j=>cases ry;exact PySem.EqMixed.eq_str_bool (bD I q (by simp))
  | int j=>obtain⟨t',rfl⟩:=ry;exact PySem.EqMixed.eq_str_int (bD I q (by simp))
  | str j=>obtain⟨t',rfl⟩:=ry;exact eq_str (bD I q vj)
  | _=>exact absurd (show false=true from hs) aaq
 | xJ i=>
  obtain⟨t,rfl⟩:=rx
  cases y with
  | xJ j=>obtain⟨t',rfl⟩:=ry;exact PySem.W.eq_bytes (bD I q vk)
  | _=>exact absurd (show false=true from hs) aaq
 | _=>cases y <;>exact absurd (show false=true from hs) aaq
theorem mK:kc X (compareOp .NotEq) rNe:=by
 intro pins s σ H x y v u Q I rx ry h
 obtain⟨hs,q⟩:=h
 cases x with
 | cc=>
  cases rx
  cases y with
  | cc=>cases ry;exact PySem.EqNone.ne_none_none (bD I q (by simp))
  | bl j=>cases ry;exact PySem.EqNone.ne_none_bool (bD I q (by simp))
  | int j=>obtain⟨t',rfl⟩:=ry;exact PySem.EqNone.ne_none_int (bD I q (by simp))
  | str j=>obtain⟨t',rfl⟩:=ry;exact PySem.EqNone.ne_none_str (bD I q (by simp))
  | _=>exact absurd (show false=true from hs) aaq
 | bl i=>
  cases rx
  cases y with
  | cc=>cases ry;exact PySem.EqNone.ne_bool_none (bD I q (by simp))
  | bl j=>cases ry;exact ne_bool (bD I q (congrArg not x9))
  | str j=>obtain⟨t',rfl⟩:=ry;exact PySem.EqMixed.ne_bool_str (bD I q (by simp))
  | _=>exact absurd (show false=true from hs) aaq
 | int i=>
  obtain⟨t,rfl⟩:=rx
  cases y with
  | cc=>cases ry;exact PySem.EqNone.ne_int_none (bD I q (by simp))
  | int j=>obtain⟨t',rfl⟩:=ry;exact ne_int (bD I q (congrArg not vi))
  | str j=>obtain⟨t',rfl⟩:=ry;exact PySem.EqMixed.ne_int_str (bD I q (by simp))
  | _=>exact absurd (show false=true from hs) aaq
 | str i=>
  obtain⟨t,rfl⟩:=rx
  cases y with
  | cc=>cases ry;exact PySem.EqNone.ne_str_none (bD I q (by simp))
  | bl j=>cases ry;exact PySem.EqMixed.ne_str_bool (bD I q (by simp))
  | int j=>obtain⟨t',rfl⟩:=ry;exact PySem.EqMixed.ne_str_int (bD I q (by simp))
  | str j=>obtain⟨t',rfl⟩:=ry;exact ne_str (bD I q (congrArg not vj))
  | _=>exact absurd (show false=true from hs) aaq
 | xJ i=>
  obtain⟨t,rfl⟩:=rx
  cases y with
  | xJ j=>obtain⟨t',rfl⟩:=ry;exact PySem.W.ne_bytes (bD I q (congrArg not vk))
  | _=>exact absurd (show false=true from hs) aaq
 | _=>cases y <;>exact absurd (show false=true from hs) aaq
theorem rM:kc X (compareOp .Lt) (rI0 λi j=>.bl (decide (i<j))):=Gg λ_ _ _ _ _ _ _ q=>lt_int q
theorem ik:kc X (compareOp .Gt) (rI0 λi j=>.bl (decide (j<i))):=Gg λ_ _ _ _ _ _ _ q=>gt_int q
theorem uo:kc X (compareOp .Is) (λx y H Q=>y=.cc/\Q (.bl (decide (x=.cc))) H):=by
 intro pins s σ H x y v u Q I rx ry h
 obtain⟨rfl,q⟩:=h
 cases ry
 refine is_none_gen (bD I q ?_)
 cases x <;>first
  | (cases rx;rfl)
  | (obtain⟨t,rfl⟩:=rx;rfl)
theorem AX:kc X (compareOp .IsNot) (λx y H Q=>y=.cc/\Q (.bl (!decide (x=.cc))) H):=by
 intro pins s σ H x y v u Q I rx ry h
 obtain⟨rfl,q⟩:=h
 cases ry
 refine isnot_none_gen (bD I q ?_)
 cases x <;>first
  | (cases rx;rfl)
  | (obtain⟨t,rfl⟩:=rx;rfl)
theorem aQ (b:Expr) {op:CmpOp} (h:op≠.In:=by decide) (h2:op≠.NotIn:=by decide):behindInMarks op b=false:=by
 have e1:(op==CmpOp.In)=false:=by cases op <;>first | rfl | exact absurd rfl h
 have e2:(op==CmpOp.NotIn)=false:=by cases op <;>first | rfl | exact absurd rfl h2
 cases b <;>simp [behindInMarks,e1,e2]
theorem dS {op:CmpOp} {r:R2} (ho:kc X (compareOp op) r) (ha:PE X a ta) (hb:PE X b tb) (hm:behindInMarks op b=false):PE X (.Compare a [op] [b] pos) (tOp r ta tb):=by
 intro pins s σ H Q I h
 exact wpAny_Compare1 (Dp ha hb I h λv u s2 x y H2 I2 rx ry q=>ho pins s2 σ H2 x y v u Q I2 rx ry q) hm
noncomputable def tTest (t:TE):TT:=λσ H Q=>t σ H λx H'=>∃k,x=.bl k/\Q k H'
theorem aO {op:CmpOp} {r:R2} (ho:kc X (compareOp op) r) (ha:PE X a ta) (hb:PE X b tb) (hm:behindInMarks op b=false):PT X (.Compare a [op] [b] pos) (tTest (tOp r ta tb)):=by
 intro pins s σ H Q I h
 refine wpAny_isTrue_Compare1 (bY (ha pins s σ H _ I h) λv s1 ⟨x,H1,I1,r1,q1⟩=>bY (hb pins s1 σ H1 _ I1 q1) λu s2 ⟨y,H2,I2,r2,q2⟩=>
  bY (ho pins s2 σ H2 x y v u _ I2 r1 r2 q2) λc s3 ⟨z,H3,I3,r3,k,e,q3⟩=>?_) hm
 subst e
 cases r3
 exact wpAny_truthy_bool ⟨H3,I3,q3⟩
noncomputable def tChain (r r':R2) (ta tb tc:TE):TE:=λσ H Q=>ta σ H λx H1=>tb σ H1 λy H2=>r x y H2 λz H3=>∃k,z=.bl k/\
 (if k=true then tc σ H3 λw' H4=>r' y w' H4 Q else Q (.bl false) H3)
theorem mL:(sizeLine:Nat)<2^63:=by rw[sizeLine_eq];decide
theorem vals1 {x:V} {us:List Value} (r:aY [x] us):∃u,us=[u]/\RelV x u:=by
 cases r with
 | cons r1 r2=>cases r2;exact⟨_,rfl,r1⟩
theorem vals2 {x y:V} {us:List Value} (r:aY [x,y] us):∃u w',us=[u,w']/\RelV x u/\RelV y w':=by
 cases r with
 | cons r1 r2=>
  cases r2 with
  | cons r3 r4=>cases r4;exact⟨_,_,rfl,r1,r3⟩
theorem mN:cv X (.builtin "abs") (λxs H Q=>∃i,xs=[.int i]/\Q (.int (if i<0 then -i else i)) H):=by
 intro pins s σ H xs us Q I r h
 obtain⟨i,rfl,q⟩:=h
 obtain⟨u,rfl,t,rfl⟩:=vals1 r
 exact call_abs_int λu tk=>⟨.int (if i<0 then -i else i),H,I.tok _,⟨_,rfl⟩,q⟩
theorem wL (hc:X.calm=true):cv X (.builtin "max") (λxs H Q=>∃i j,xs=[.int i,.int j]/\Q (.int (if j >i then j else i)) H):=by
 intro pins s σ H xs us Q I r h
 obtain⟨i,j,rfl,q⟩:=h
 obtain⟨u,w',rfl,⟨t,rfl⟩,⟨t',rfl⟩⟩:=vals2 r
 refine max_two_ints (I.ok.hd hc) λh' tk k=>⟨_,H,I.kept k,?_,q⟩
 by_cases hj:j >i
 ·rw[if_pos hj,if_pos hj];exact⟨_,rfl⟩
 ·rw[if_neg hj,if_neg hj];exact⟨_,rfl⟩
end
end L2
namespace L2
open PySem PySem.Spec PyProof.Rows
structure uq (h:Heap) (x dx C:Addr) (mA:Str->Option Value):Prop where
 obj:h.get? x=some (PySem.W.instObj C dx)
 ns:h.Ns1 dx mA
 ne:dx≠x
set_option tactic.hygienic true in
theorem wM {h:Heap} {dx:Addr} {mA:Str->Option Value} (n:h.Ns1 dx mA):∃od,h.get? dx=some od/\∀name,PySem.W.lookIn name od=some (mA name):=by
 obtain⟨o,es,ep,ho,hd,hk,_,hm⟩:=n
 refine⟨o,ho,λname=>?_⟩
 have e:=hm name
 unfold nsFind findBy at e
 rw[<-Array.find?_toList] at e
 unfold PySem.W.lookIn
 rw[hd]
 dsimp only
 split
 ·rename_i y q
  rw[q] at e
  exact congrArg some e
 ·rename_i q
  rw[q] at e
  have a:es.toList.any (·.refKey)=false:=by
   rw[List.any_eq_false]
   intro y hy
   obtain⟨z,t,Kw⟩:=hk y (Array.mem_toList_iff.mp hy)
   simp [DictEntry.refKey,Kw]
  have a':¬es.toList.any (·.refKey)=true:=by rw[a];exact aaq
  rw[if_neg a']
  exact congrArg some e
theorem uq.look {h:Heap} {x dx C:Addr} {mA:Str->Option Value} (I:uq h x dx C mA):∃od,PySem.W.InstAt h x (PySem.W.instObj C dx) C (some od)/\∀name,PySem.W.lookIn name od=some (mA name):=
 let ⟨od,ho,hl⟩:=wM I.ns
 ⟨od,⟨I.obj,rfl,rfl,ho⟩,hl⟩
section
variable {prog : Program} {w : World} {A : Around} {E : Value -> Shared -> Prop} {s : Shared} {K : PySem.W.Frag} {x dx C f : Addr} {mA : Str -> Option Value} {name : Str} {v : Value}
theorem get_map {expr:Bool} {Q:Value->Shared->Prop} (X:K.In s.heap) (I:uq s.heap x dx C mA) (hg:PySem.W.plainGet K C name=true) (hh:PySem.W.hasDictIn K C=true)
  (ha:PySem.W.findIn K (.ref C) name=some none) (hv:mA name=some v) (UP:PySem.W.handedIn v=true) (h:Q v {s with toks:=s.toks+1}):
  wpAny (model prog w) A (getAttr (.ref x) name expr) Q E s:=by
 obtain⟨od,J,hl⟩:=I.look
 exact PySem.W.get_value X J (PySem.W.plainGet_of hg).1 (PySem.W.findObj_own hh ha rfl (by rw[hl,hv])) UP h
theorem ya {pl:Sem Bool} {Q:Value×List Value->Shared->Prop} (X:K.In s.heap) (I:uq s.heap x dx C mA) (hg:PySem.W.plainGet K C name=true)
  (hf:PySem.W.findIn K (.ref C) name=some (some (.ref f))) (ht:PySem.W.isFn K (.ref f)=true) (hv:mA name=none) (h:Q (.ref f,[.ref x]) s):
  wpAny (model prog w) A (getMethod (.ref x) name pl) Q E s:=by
 obtain⟨od,J,hl⟩:=I.look
 exact PySem.W.method_fn X J (PySem.W.plainGet_of hg).1 (PySem.W.plainGet_of hg).2 hf (beq_iff_eq.mp ht) (by show(PySem.W.lookIn name od).map (·.isSome)=some false;rw[hl,hv];rfl) h
theorem AY {ns:List Str} {Q:Unit->Shared->Prop} (X:K.In s.heap) (I:uq s.heap x dx C mA)
  (hs:PySem.W.findIn K (.ref C) "__setattr__"=some (some (.builtin "object.__setattr__"))) (hp:PySem.W.plainOver K C=true) (ht:PySem.W.takerIn K C name=some none) (hh:PySem.W.hasDictIn K C=true)
  (hw:PySem.Within mA ns) (hsz:ns.length<=sizeLine)
  (h:∀h',uq h' x dx C (λy=>if y=name then some v else mA y)->Heap.SameBut dx s.heap h'->Q () {s with heap:=h',toks:=s.toks+2}):
  wpAny (model prog w) A (setAttr (.ref x) name v) Q E s:=by
 obtain⟨od,J,hl⟩:=I.look
 refine PySem.W.set_plain X J hs (PySem.W.osa_open (s:={s with toks:=s.toks+1}) (r:=none) X J hp ht λb=>?_)
 obtain⟨cd,hc,F6⟩:=PySem.W.any_some hh
 have hx:s.heap.get? x=some ⟨.ref C,some dx,.plain,#[]⟩:=I.obj
 refine wpAny_bind (wpAny_pure (wpAny_bind (wpAny_bind (wpAny_loadPart hx (wpAny_bind (PySem.W.Looks.here (s:={s with toks:=s.toks+1}) (PySem.W.looks_clsIn X hc) ?_))))))
 rw[F6]
 refine wpAny_pure (a:=some dx) (wpAny_bind (wpAny_pure (wpAny_bind ?_)))
 refine wpAny_nsSet1 (s:={s with toks:=s.toks+1}) I.ns λh' Jy Cr=>?_
 obtain⟨oD,ZF,ZG,UQ,UR,US⟩:=Jy.count (PySem.Within.cons name v hw)
 refine wpAny_bind (wpAny_lookBehind UQ (by rw[UR];exact pastItsLine_dict (aas US (by rw[aaw];omega))) ?_)
 exact wpAny_pure (h _ ⟨(Cr.2 _ (Ne.symm I.ne)).trans I.obj,Jy,I.ne⟩ Cr)
theorem yb {R:Result->Shared->Prop} {vs:List Value} {kw:List (Str×Value)} (X:K.In s.heap) (hm:PySem.W.makesIn K C=true)
  (hi:PySem.W.findIn K (.ref C) "__init__"=some (some (.ref f))) (hf:PySem.W.typeIn K (.ref f)=some (.type "function"))
  (h:codeAny (model prog w) (A.under (.builtin "type.__call__" ⟨.ref C::vs,kw⟩)) (.call (.ref f) ⟨.ref (s.heap.objs.size+1)::vs,kw⟩) (PySem.W.InitBack (s.heap.objs.size+1) R)
   {s with heap:=(s.heap.push PySem.W.emptyDict).push (PySem.W.instObj C s.heap.objs.size)}):
  codeAny (model prog w) A (.call (.ref C) ⟨vs,kw⟩) R s:=by
 obtain⟨hh,g,d,t,os⟩:=s
 exact PySem.W.make_core (PySem.W.makes_of X hm) (PySem.W.looks_findIn X hi) (λself=>PySem.W.bind_fn X self hf) (.inl rfl) h
end
noncomputable def hX (f:Str) (v:V):List (Str×V)->List (Str×V)
 | []=>[(f,v)]
 | (g,x)::r=>if g=f then (g,v)::r else (g,x)::hX f v r
theorem kf (f g:Str) (v:V):∀fs:List (Str×V),(hX f v fs).lookup g=if g=f then some v else fs.lookup g
 | []=>by
  show List.lookup g [(f,v)]=_
  by_cases h:g=f
  ·have hb:(g==f)=true:=beq_iff_eq.mpr h
   simp only[List.lookup,hb,if_pos h]
  ·have hb:(g==f)=false:=beq_eq_false_iff_ne.mpr h
   simp only[List.lookup,hb,if_neg h]
 | (k,x)::r=>by
  have ih:=kf f g v r
  rw[show hX f v ((k,x)::r)=(if k=f then (k,v)::r else (k,x)::hX f v r) from rfl]
  by_cases hk:k=f
  ·rw[if_pos hk]
   by_cases h:g=k
   ·have hb:(g==k)=true:=beq_iff_eq.mpr h
    simp only[List.lookup,hb,if_pos (h.trans hk)]
   ·have hb:(g==k)=false:=beq_eq_false_iff_ne.mpr h
    simp only[List.lookup,hb,if_neg (λe:g=f=>h (e.trans hk.symm))]
  ·rw[if_neg hk]
   by_cases h:g=k
   ·have hb:(g==k)=true:=beq_iff_eq.mpr h
    simp only[List.lookup,hb,if_neg (λe:g=f=>hk (h.symm.trans e))]
   ·have hb:(g==k)=false:=beq_eq_false_iff_ne.mpr h
    simp only[List.lookup,hb]
    exact ih
theorem jO (f:Str) (v:V):∀fs:List (Str×V),f∈(hX f v fs).map (·.1)/\∀g,g∈fs.map (·.1)->g∈(hX f v fs).map (·.1)
 | []=>⟨by simp [hX],λg h=>by simp at h⟩
 | (k,x)::r=>by
  obtain⟨i1,i2⟩:=jO f v r
  rw[show hX f v ((k,x)::r)=(if k=f then (k,v)::r else (k,x)::hX f v r) from rfl]
  by_cases hk:k=f
  ·rw[if_pos hk]
   subst hk
   exact⟨by simp,λg h=>by simpa using h⟩
  ·rw[if_neg hk]
   refine⟨?_,λg h=>?_⟩
   ·rw[aao]
    exact aak _ i1
   ·rw[aao] at h ⊢
    rcases List.mem_cons.mp h with e | e
    ·exact List.mem_cons.mpr (.inl e)
    ·exact aak _ (i2 g e)
theorem kg (f:Str) (v:V):∀fs:List (Str×V),(hX f v fs).length<=fs.length+1
 | []=>by simp [hX]
 | (k,x)::r=>by
  have ih:=kg f v r
  rw[show hX f v ((k,x)::r)=(if k=f then (k,v)::r else (k,x)::hX f v r) from rfl]
  by_cases hk:k=f
  ·rw[if_pos hk,aaw,aaw];omega
  ·rw[if_neg hk,aaw,aaw];omega
theorem hV.some_of {v:V} {o:Option Value} (r:hV (some v) o):∃u,o=some u/\RelV v u:=by
 cases o with
 | none=>exact(show False from r).elim
 | some u=>exact⟨u,rfl,r⟩
theorem hV.none_of {o:Option Value} (r:hV none o):o=none:=by
 cases o with
 | none=>rfl
 | some u=>exact(show False from r).elim
theorem wN {v:V} {u:Value} (r:RelV v u):PySem.W.handedIn u=true:=by
 cases v with
 | cc=>cases (show u=Value.none from r);rfl
 | bl b=>cases (show u=Value.bool b from r);rfl
 | int i=>obtain⟨t,e⟩:=(show ∃t,u=Value.int i t from r);cases e;rfl
 | str x=>obtain⟨t,e⟩:=(show ∃t,u=Value.str x t from r);cases e;rfl
 | xJ b=>obtain⟨t,e⟩:=(show ∃t,u=Value.bytes b t from r);cases e;rfl
 | C6 b=>obtain⟨t,e⟩:=(show ∃t,u=Value.float b t from r);cases e;rfl
 | ref a=>cases (show u=Value.ref a from r);rfl
 | ty n=>cases (show u=Value.type n from r);rfl
section
variable {P : Program} {w : World} {H H' : Hp} {h h' : Heap} {a C dx : Addr} {fs UD : List (Str × V)}
theorem lT (bI:gp P w H h) (e:H a=some (.ins C dx fs)):∃mA,uq h a dx C mA/\(∀f,hV (fs.lookup f) (mA f))/\PySem.Within mA (fs.map (·.1))/\fs.length<=1000/\H dx=some (.own a):=by
 obtain⟨d,z,ne,ob,mA,n,r,q⟩:=(show bW P w H h a (.ins C dx fs) from bI a _ e)
 exact⟨mA,⟨ob,n,ne⟩,r,q,z,d⟩
end
structure wO (K:PySem.W.Frag) (C:Addr):Prop where
 pg:PySem.W.plainGet K C Str.empty=true
 hd:PySem.W.hasDictIn K C=true
 po:PySem.W.plainOver K C=true
 sa:PySem.W.findIn K (.ref C) "__setattr__"=some (some (.builtin "object.__setattr__"))
theorem wO.get {K:PySem.W.Frag} {C:Addr} (c:wO K C) (f:Str):PySem.W.plainGet K C f=true:=c.pg
noncomputable def jP (K:PySem.W.Frag) (C:Addr) (f:Str):Prop:=PySem.W.findIn K (.ref C) f=some none
theorem jP.Gh {K:PySem.W.Frag} {C:Addr} {f:Str} (n:jP K C f):PySem.W.takerIn K C f=some none:=by
 unfold PySem.W.takerIn
 rw[show PySem.W.findIn K (.ref C) f=some none from n]
 rfl
structure ZH (K:PySem.W.Frag) (C:Addr) (f:Str) (v:V) (u:Value):Prop where
 at_:PySem.W.findIn K (.ref C) f=some (some u)
 rel:RelV v u
 get:PySem.W.specialIn K u "__get__"=some none
 cp:PySem.W.copiedNames.contains f=false
structure yc (K:PySem.W.Frag) (C:Addr) (m:Str) (f:Addr):Prop where
 at_:PySem.W.findIn K (.ref C) m=some (some (.ref f))
 fn:PySem.W.isFn K (.ref f)=true
 kp:PySem.W.keepIn K (.ref f)=true
section
variable {X : Cx} {pins : List (Addr × Obj)} {σ : St} {H : Hp} {s : Shared} {a C dx : Addr} {fs : List (Str × V)} {f : Str} {v : V} {A : Around} {E : Value -> Shared -> Prop}
theorem ur {b:Bool} {Q:Value->Shared->Prop} (I:Inv X pins σ H s) (e:H a=some (.ins C dx fs)) (c:wO X.K C) (n:jP X.K C f) (l:fs.lookup f=some v)
  (h:∀u s',Inv X pins σ H s'->RelV v u->Q u s'):wpAny (model X.prog X.w) A (getAttr (.ref a) f b) Q E s:=by
 obtain⟨mA,O,r,_,_,_⟩:=lT I.bI e
 obtain⟨u,hu,ru⟩:=hV.some_of (v:=v) (o:=mA f) (by rw[<-l];exact r f)
 exact get_map I.kL O (c.get f) c.hd n hu (wN ru) (h u _ (I.tok _) ru)
theorem mO {m:Str} {g:Addr} {pl:Sem Bool} {Q:Value×List Value->Shared->Prop} (I:Inv X pins σ H s) (e:H a=some (.ins C dx fs)) (c:wO X.K C) (k:yc X.K C m g) (l:fs.lookup m=none)
  (h:Q (.ref g,[.ref a]) s):wpAny (model X.prog X.w) A (getMethod (.ref a) m pl) Q E s:=by
 obtain⟨mA,O,r,_,_,_⟩:=lT I.bI e
 have hn:mA m=none:=hV.none_of (by rw[<-l];exact r m)
 exact ya I.kL O (c.get m) k.at_ k.fn hn h
theorem uu {y:V} {u:Value} {Q:Unit->Shared->Prop} (I:Inv X pins σ H s) (e:H a=some (.ins C dx fs)) (c:wO X.K C) (n:jP X.K C f) (hl:fs.length<1000) (ry:RelV y u)
  (h:∀s',Inv X pins σ (upd H a (.ins C dx (hX f y fs))) s'->Q () s'):wpAny (model X.prog X.w) A (setAttr (.ref a) f u) Q E s:=by
 obtain⟨mA,O,r,wi,_,ho⟩:=lT I.bI e
 have hz:(fs.map (·.1)).length<=sizeLine:=by rw[aab,sizeLine_eq];omega
 refine AY I.kL O c.sa c.po n.Gh c.hd wi hz λh' O' sb=>h _ ?_
 have hd:∃o,h'.get? dx=some o:=let ⟨o,_,_,e',_⟩:=O'.ns;⟨o,e'⟩
 refine I.write (x:=a) (e:=dx) (by rw[e];exact True.intro) (.inr ho) (λb q hb z=>(sb.2 b hb).trans z) hd ?_
 refine⟨by rw[au O.ne];exact ho,?_,O.ne,O'.obj,_,O'.ns,λg=>?_,λg hg=>?_⟩
 ·have:=kg f y fs;omega
 ·show hV ((hX f y fs).lookup g) (if g=f then some u else mA g)
  rw[kf]
  by_cases q:g=f
  ·rw[if_pos q,if_pos q];exact ry
  ·rw[if_neg q,if_neg q];exact r g
 ·by_cases q:g=f
  ·rw[q];exact(jO f y fs).1
  ·refine(jO f y fs).2 g (wi g λz=>hg ?_)
   show(if g=f then some u else mA g)=none
   rw[if_neg q];exact z
theorem Inv.made (I:Inv X pins σ H s):Inv X pins σ (upd (upd H s.heap.objs.size (.own (s.heap.objs.size+1))) (s.heap.objs.size+1) (.ins C s.heap.objs.size []))
  {s with heap:=(s.heap.push PySem.W.emptyDict).push (PySem.W.instObj C s.heap.objs.size)}:=by
 have e1:(s.heap.push PySem.W.emptyDict).get? s.heap.objs.size=some PySem.W.emptyDict:=Heap.get?_push_size s.heap rfl
 have e2:((s.heap.push PySem.W.emptyDict).push (PySem.W.instObj C s.heap.objs.size)).get? (s.heap.objs.size+1)=some (PySem.W.instObj C s.heap.objs.size):=by
  have:=Heap.get?_push_size (s.heap.push PySem.W.emptyDict) (o:=PySem.W.instObj C s.heap.objs.size) rfl
  rwa [Heap.size_push] at this
 have e3:(s.heap.push PySem.W.emptyDict).Ns s.heap.objs.size (λ_=>none):=⟨PySem.W.emptyDict,#[],_,e1,rfl,(λe he=>absurd he (by simp)),λ_=>rfl⟩
 have I1:=I.laid (a:=s.heap.objs.size) (o:=.own (s.heap.objs.size+1)) (h':=s.heap.push PySem.W.emptyDict) (t':=s.toks) (λb u q=>Heap.get?_push_of_some _ q) (aae _) ⟨_,e1⟩
 refine I1.laid (a:=s.heap.objs.size+1) (o:=.ins C s.heap.objs.size []) (t':=s.toks) (λb u q=>Heap.get?_push_of_some _ q) (Nat.le_of_eq (Heap.size_push _ _)) ?_
 have ne:s.heap.objs.size≠s.heap.objs.size+1:=aaj (aaK _)
 refine⟨by rw[au ne,ah],aar _,ne,e2,λ_=>none,(Heap.Ns1.of_empty e3).at λo q=>Heap.get?_push_of_some _ q,λ_=>True.intro,λy hy=>absurd rfl hy⟩
theorem AZ {prog:Program} {w:World} {env:Env} {e:Expr} {f:Str} {pos:Pos} {s:Shared} {Q:Value->Shared->Prop} (hb:attributeBase e f env (eval e env)=eval e env)
  (h:wpAny (model prog w) A (eval e env) (λo s₁=>wpAny (model prog w) A (getAttr o f true) Q E s₁) E s):wpAny (model prog w) A (eval (.Attribute e f pos) env) Q E s:=
 Attribute_any_ h (by rw[arm_eval_Attribute,hb])
end
noncomputable def jQ (K:PySem.W.Frag) (ta:TE) (f:Str):TE:=λσ H Q=>ta σ H λx H1=>∃a C dx fs v,x=.ref a/\H1 a=some (.ins C dx fs)/\wO K C/\jP K C f/\fs.lookup f=some v/\Q v H1
noncomputable def Gi (K:PySem.W.Frag) (ta tv:TE) (f:Str):TS:=λD σ H=>tv σ H λy H1=>ta σ H1 λx H2=>∃a C dx fs,x=.ref a/\H2 a=some (.ins C dx fs)/\wO K C/\jP K C f/\fs.length<1000/\
 D.nx σ (upd H2 a (.ins C dx (hX f y fs)))
section
variable {X : Cx} {o e value : Expr} {f : Str} {pos pos' gu : Pos} {ta tv : TE}
theorem dI (he:PE X e ta) (hb:attributeBase e f X.env (eval e X.env)=eval e X.env):PE X (.Attribute e f pos) (jQ X.K ta f):=by
 intro pins s σ H Q I h
 refine AZ hb (bY (he pins s σ H _ I h) λu s1 cD=>?_)
 obtain⟨x,H1,I1,rx,a,C,dx,fs,v,ex,ea,c,n,l,q⟩:=cD
 subst ex
 obtain rfl:u=Value.ref a:=rx
 exact ur I1 ea c n l λu' s2 I2 ru=>⟨v,H1,I2,ru,q⟩
theorem yd (ha:PE X o ta) (hv:PE X value tv) (hs:swapsWith value (some (.Attribute o f pos')) pos.line X.env=pure false):PS X (.Assign [.Attribute o f pos'] value pos) (Gi X.K ta tv f):=by
 intro pins s σ H D I h
 refine plainObj_wpAny_Assign_Attribute (bY (hv pins s σ H _ I h) λu s1 ⟨y,H1,I1,ry,q⟩=>bY (ha pins s1 σ H1 _ I1 q) λov s2 cD=>?_) hs
 obtain⟨x,H2,I2,rx,a,C,dx,fs,ex,ea,c,n,l,q2⟩:=cD
 subst ex
 obtain rfl:ov=Value.ref a:=rx
 exact uu I2 ea c n l ry λs3 I3=>⟨σ,_,I3,q2⟩
end
section
variable {X : Cx} {pins : List (Addr × Obj)} {σ : St} {H : Hp} {s : Shared} {A : Around} {E : Value -> Shared -> Prop} {Q : Value -> Shared -> Prop} {c : Value} {b : Bool}
inductive eP (K:PySem.W.Frag) (H:Hp):V->Value->Prop where
 | cc:eP K H .cc (.type "NoneType")
 | bl (x:Bool):eP K H (.bl x) (.type "bool")
 | int (i:Int):eP K H (.int i) (.type "int")
 | str (x:Str):eP K H (.str x) (.type "str")
 | C6 (x:UInt64):eP K H (.C6 x) (.type "float")
 | lst {a:Addr} {xs:List V} (e:H a=some (.lst xs)):eP K H (.ref a) (.type "list")
 | qX {a:Addr} {o:Obj} {xs:List V} (e:H a=some (.qX o (.lst xs))):eP K H (.ref a) (.type "list")
 | tup {a:Addr} {xs:List V} (e:H a=some (.tup xs)):eP K H (.ref a) (.type "tuple")
 | dK {a:Addr} {kvs:List (Key×V)} (e:H a=some (.dK kvs)):eP K H (.ref a) (.type "dict")
 | dT {a:Addr} {kvs:List (List Key×V)} (e:H a=some (.dT kvs)):eP K H (.ref a) (.type "dict")
 | ins {a C dx:Addr} {fs:List (Str×V)} (e:H a=some (.ins C dx fs)) (cl:wO K C) (ha:PySem.W.findIn K (.ref C) "__class__"=some (some (.builtin "object.__class__")))
   (hn:PySem.W.specialIn K (.builtin "object.__class__") "__get__"=some (some (.builtin "getset_descriptor.__get__"))) (SA:PySem.W.takesIn K (.builtin "object.__class__")=some true)
   (hm:PySem.W.mroIn K C (.type "object")=some true):eP K H (.ref a) (.ref C)
theorem wQ {x:V} {u t:Value} (I:Inv X pins σ H s) (rx:RelV x u) (ty:eP X.K H x t) (e:PySem.W.kitOne X.K t c=some b) (h:∀tk,Q (.bool b) {s with toks:=tk}):
  wpAny (model X.prog X.w) A (call (.builtin "isinstance") [u,c]) Q E s:=by
 cases ty with
 | cc=>cases (show u=Value.none from rx);exact aaW PySem.W.kitx_none I.kL True.intro e (λz=>nomatch z) h
 | bl y=>cases (show u=Value.bool y from rx);exact aaW PySem.W.kitx_bool I.kL True.intro e (λz=>nomatch z) h
 | int i=>obtain⟨t,q⟩:=(show ∃t,u=Value.int i t from rx);cases q;exact aaW PySem.W.kitx_int I.kL True.intro e (λz=>nomatch z) h
 | str y=>obtain⟨t,q⟩:=(show ∃t,u=Value.str y t from rx);cases q;exact aaW PySem.W.kitx_str I.kL True.intro e (λz=>nomatch z) h
 | C6 y=>obtain⟨t,q⟩:=(show ∃t,u=Value.float y t from rx);cases q;exact aaW PySem.W.kitx_float I.kL True.intro e (λz=>nomatch z) h
 | @lst a xs ea=>
  cases (show u=Value.ref a from rx)
  obtain⟨_,_,n,_,h1⟩:=(show bW X.prog X.w H s.heap a (.lst xs) from I.bI a _ ea)
  exact aaW PySem.W.kitx_list I.kL ⟨_,h1,rfl⟩ e (λz=>nomatch z) h
 | @qX a ob xs ea=>
  cases (show u=Value.ref a from rx)
  obtain⟨_,_,_,n,_,h1⟩:=(show bW X.prog X.w H s.heap a (.qX ob (.lst xs)) from I.bI a _ ea)
  exact aaW PySem.W.kitx_list I.kL ⟨_,h1,rfl⟩ e (λz=>nomatch z) h
 | @tup a xs ea=>
  cases (show u=Value.ref a from rx)
  obtain⟨_,_,_,p⟩:=(show bW X.prog X.w H s.heap a (.tup xs) from I.bI a _ ea)
  obtain⟨o,h1,h2,_⟩:=p
  exact aaW PySem.W.kitx_tuple I.kL ⟨o,h1,h2⟩ e (λz=>nomatch z) h
 | @dK a kvs ea=>
  cases (show u=Value.ref a from rx)
  obtain⟨_,_,vs,_,p⟩:=(show bW X.prog X.w H s.heap a (.dK kvs) from I.bI a _ ea)
  obtain⟨o,es,ep,h1,h2,_⟩:=p
  exact aaW PySem.W.kitx_dict I.kL ⟨o,h1,h2.1⟩ e (λz=>nomatch z) h
 | @dT a kvs ea=>
  cases (show u=Value.ref a from rx)
  obtain⟨_,_,xs,_,o,es,ep,h1,h2,_⟩:=(show bW X.prog X.w H s.heap a (.dT kvs) from I.bI a _ ea)
  exact aaW PySem.W.kitx_dict I.kL ⟨o,h1,h2.1⟩ e (λz=>nomatch z) h
 | @ins a C dx fs ea cl ha hn SA hm=>
  cases (show u=Value.ref a from rx)
  obtain⟨mA,O,_⟩:=lT I.bI ea
  obtain⟨od,J,_⟩:=O.look
  exact aaW (PySem.W.kitx_own (cl.get _) cl.hd ha hn SA hm) I.kL J e (λz=>nomatch z) h
end
end L2
namespace L2
open PySem PySem.Spec PyProof.Rows
structure cN (k:Nat) (A:Around):Prop where
 hd:A.handled=none
 dp:A.depth+3*k+5<recursionLimit
 un:A.units+16*k+200<cLine
theorem cN.mono {j k:Nat} {A:Around} (r:cN k A) (h:j<=k):cN j A:=⟨r.hd,by have:=r.dp;omega,by have:=r.un;omega⟩
theorem cN.deeper {k:Nat} {A:Around} (r:cN (k+1) A) (env:Env):cN k (A.deeper env):=
 ⟨r.hd,by have:=r.dp;show A.depth+1+3*k+5<_;omega,by have:=r.un;show A.units+3+16*k+200<_;omega⟩
theorem uv {A:Around} {C:Addr} {us:List Value} {kw:List (Str×Value)}:(A.under (.builtin "type.__call__" ⟨.ref C::us,kw⟩)).depth=A.depth+1:=by
 first | rfl | simp [Around.under,Code.weight,Code.isCreation,Code.isGuard,Code.isCaller,Code.frames,Code.isFrame,guardIds]
theorem uw {A:Around} {C:Addr} {us:List Value} {kw:List (Str×Value)}:(A.under (.builtin "type.__call__" ⟨.ref C::us,kw⟩)).units=A.units+1:=by
 first | rfl | simp [Around.under,Code.cUnits,Code.frames,Code.isFrame]
theorem cN.make {k:Nat} {A:Around} (r:cN (k+1) A) (C:Addr) (us:List Value) (kw:List (Str×Value)):cN k (A.under (.builtin "type.__call__" ⟨.ref C::us,kw⟩)):=
 ⟨r.hd,by have:=r.dp;rw[uv];omega,by have:=r.un;rw[uw];omega⟩
theorem cN.depth {k:Nat} {A:Around} (r:cN k A):A.depth<recursionLimit:=by have:=r.dp;omega
theorem cN.units {k:Nat} {A:Around} (r:cN k A):A.units+64<cLine:=by have:=r.un;omega
theorem cN.ye {k:Nat} {A:Around} (r:cN k A):A.units<cLine:=by have:=r.un;omega
noncomputable def tNil:TA:=λ_ H Q=>Q [] H
noncomputable def tCons (ta:TE) (tr:TA):TA:=λσ H Q=>ta σ H λx H1=>tr σ H1 λxs H2=>Q (x::xs) H2
section
variable {X : Cx} {e : Expr} {es : List Expr} {te : TE} {t : TA} {pos : Pos}
theorem af:PA X [] tNil:=λ_ _ _ _ H Q I h=>Calls.spliced_nil ⟨[],H,I,.nil,h⟩
theorem aa (ha:PE X e te) (hr:PA X es t) (hs:starEach (e::es) X.env=(false,eval e X.env)::starEach es X.env:=by rfl):PA X (e::es) (tCons te t):=by
 intro pos pins s σ H Q I h
 rw[hs]
 show wpAny _ _ (spliced ((false,eval e X.env)::backTo pos (starEach es X.env))) _ _ s
 refine Calls.spliced_cons (bY (ha pins s σ H _ I h) λu s1 cD=>?_)
 obtain⟨x,H1,I1,r1,q1⟩:=cD
 exact bY (hr pos pins s1 σ H1 _ I1 q1) λus s2 ⟨xs,H2,I2,r2,q2⟩=>⟨x::xs,H2,I2,.cons r1 r2,q2⟩
noncomputable def tLst (t:TA):TE:=λσ H Q=>t σ H λxs H1=>xs.length<=sizeLine/\∀p,H1 p=none->Q (.ref p) (upd H1 p (.lst xs))
theorem cS (h:PA X es t):PE X (.List es pos) (tLst t):=by
 intro pins s σ H Q I hq
 refine wpAny_List_spliced (bY (h pos pins s σ H _ I hq) λus s1 ⟨xs,H1,I1,r,z,q⟩=>⟨by rw[<-r.length];exact z,?_⟩)
 have hf:H1 s1.heap.objs.size=none:=I1.bI.fresh (aae _)
 refine⟨.ref s1.heap.objs.size,upd H1 s1.heap.objs.size (.lst xs),I1.laid (t':=s1.toks) (λb u e=>Heap.get?_push_of_some _ e) (aae _) ?_,rfl,q _ hf⟩
 exact⟨z,us,0,r,Heap.get?_push_size _ rfl⟩
end
abbrev Sp:=List V->Hp->VK->XK->Prop
abbrev iG:=List Env->Hp->Shared->XK->Value->Shared->Prop
structure rN (P:Program) (w:World) (K:PySem.W.Frag) (mg:Str->Option Value) (base:Heap) (A:Around) (outer:List Env) (s:Shared) (H:Hp):Prop where
 frames:A.frames=some outer
 mod:Mod K mg base
 bs:∀b o,base.get? b=some o->s.heap.get? b=some o/\H b=none
 xV:base.objs.size<=s.heap.objs.size
 jM:s.heap.FunFrames base outer
 Cj:∀b∈rC outer,H b=none
 bI:gp P w H s.heap
 bare:AllBare s.gens
noncomputable def CE (outer:List Env) (P:Program) (w:World) (H:Hp) (s:Shared) (Q:VK) (u:Value) (s':Shared):Prop:=
 ∃v H',s'.os=s.os/\AllBare s'.gens/\Un (rC outer) [] H H' s.heap s'.heap/\gp P w H' s'.heap/\RelV v u/\Q v H'
noncomputable def CR (CX:iG) (outer:List Env) (P:Program) (w:World) (H:Hp) (s:Shared) (Q:VK) (E:XK) (r:Result) (s':Shared):Prop:=
 match r with
 | .ok (.ret u)=>CE outer P w H s Q u s'
 | .ok _=>False
 | .error e=>CX outer H s E e s'
structure dU (P:Program) (w:World) (K:PySem.W.Frag) (mg:Str->Option Value) (base:Heap) (CX:iG) (k:Nat) (f:Addr) (fd:FuncData) (ps:List Str) (sp:Sp):Prop where
 len:∀vs H Q E,sp vs H Q E->vs.length=ps.length
 run:∀(A:Around) (outer:List Env) (s:Shared) (H:Hp) (args:Args) (us:List Value) (vs:List V) (Q:VK) (E:XK),cN k A->rN P w K mg base A outer s H->BindsTo s fd args (ps.zip us)->aY vs us->sp vs H Q E->
  codeAny (model P w) A (.call (.ref f) args) (CR CX outer P w H s Q E) s
theorem dU.mono {P:Program} {w:World} {K:PySem.W.Frag} {mg:Str->Option Value} {base:Heap} {CX:iG} {j k:Nat} {f:Addr} {fd:FuncData} {ps:List Str} {sp:Sp} (F:dU P w K mg base CX j f fd ps sp) (h:j<=k):
  dU P w K mg base CX k f fd ps sp:=⟨F.len,λA outer s H args us vs Q E hr=>F.run A outer s H args us vs Q E (hr.mono h)⟩
theorem rN.make {P:Program} {w:World} {K:PySem.W.Frag} {mg:Str->Option Value} {base:Heap} {A:Around} {outer:List Env} {s:Shared} {H:Hp} (e:rN P w K mg base A outer s H) (C:Addr) (us:List Value) (kw:List (Str×Value)):
  rN P w K mg base (A.under (.builtin "type.__call__" ⟨.ref C::us,kw⟩)) outer s H:=⟨by first | exact e.frames | (simpa [Around.under,Code.envs,Code.isFrame,pushEnvs] using e.frames),e.mod,e.bs,e.xV,e.jM,e.Cj,e.bI,e.bare⟩
section
variable {X : Cx} {pins : List (Addr × Obj)} {σ : St} {H : Hp} {s s' : Shared}
theorem Inv.Gj (I:Inv X pins σ H s):rN X.prog X.w X.K X.mg X.base X.A X.stack s H:=
 ⟨I.ok.frames,I.ok.mod,I.bs,aas I.ok.xV I.sz,I.stack,I.vh,I.bI,I.bare⟩
theorem Inv.after {Q:VK} {u:Value} (I:Inv X pins σ H s) (h:CE X.stack X.prog X.w H s Q u s'):EP X pins σ Q u s':=by
 obtain⟨v,H',os,bare,un,bI,r,q⟩:=h
 obtain⟨hh,g,d,t,UT⟩:=s'
 obtain rfl:UT=s.os:=os
 exact⟨v,H',I.call (h':=hh) (g':=g) (d':=d) (t':=t) (ch:=[]) un bI bare (λb z=>absurd z (by simp)),r,q⟩
end
noncomputable def tCall (sp:Sp) (oP:List V) (E:XK) (t:TA):TE:=λσ H Q=>t σ H λvs H1=>sp (vs++oP) H1 Q E
noncomputable def ph (C:Addr) (m:Str) (sp:Sp) (oP:List V) (E:XK) (ta:TE) (t:TA):TE:=λσ H Q=>ta σ H λx H1=>∃a dx fs,x=.ref a/\H1 a=some (.ins C dx fs)/\fs.lookup m=none/\
 t σ H1 λvs H2=>sp (x::(vs++oP)) H2 Q E
noncomputable def rO (C:Addr) (sp:Sp) (oP:List V) (E:XK) (t:TA):TE:=λσ H Q=>t σ H λvs H1=>∀x dx,H1 x=none->H1 dx=none->dx≠x->
 sp (.ref x::(vs++oP)) (upd (upd H1 dx (.own x)) x (.ins C dx [])) (λv H2=>v=.cc/\Q (.ref x) H2) E
noncomputable def Binds (K:PySem.W.Frag) (fd:FuncData) (ps:List Str) (ds:List Value):Prop:=
 ∀(s:Shared) (us:List Value),K.In s.heap->(us++ds).length=ps.length->BindsTo s fd ⟨us,[]⟩ (ps.zip (us++ds))
theorem Binds.all {K:PySem.W.Frag} {fd:FuncData} {ps:List Str} (h:∀us:List Value,us.length=ps.length->bindArgs fd ⟨us,[]⟩=pure (ps.zip us)):Binds K fd ps []:=λs us _ hl=>by
 rw[aaL] at hl ⊢
 exact .of_eq (h us hl)
noncomputable def d4 (CX:iG) (X:Cx) (E:XK):Prop:=∀(pins:List (Addr×Obj)) (σ:St) (H:Hp) (s:Shared) (e:Value) (s':Shared),Inv X pins σ H s->CX X.stack H s E e s'->X.xe e s'
section
variable {X : Cx} {CX : iG} {k : Nat} {f C : Addr} {fd : FuncData} {ps : List Str} {sp : Sp} {oP : List V} {ds : List Value} {E : XK} {x m : Str} {p pos apos : Pos} {e o : Expr} {es : List Expr} {ta : TE} {t : TA}
theorem ux {pins:List (Addr×Obj)} {σ:St} {H:Hp} {s:Shared} {Q:VK} {us:List Value} {vs:List V} (F:dU X.prog X.w X.K X.mg X.base CX k f fd ps sp) (hr:cN k X.A) (hb:Binds X.K fd ps ds) (hd:aY oP ds) (hx:d4 CX X E)
  (I:Inv X pins σ H s) (r:aY vs us) (h:sp (vs++oP) H Q E):wpAny (model X.prog X.w) X.A (call (.ref f) us) (EP X pins σ Q) X.xe s:=by
 have r2:aY (vs++oP) (us++ds):=r.append hd
 have hl:(us++ds).length=ps.length:=by rw[<-r2.length];exact F.len _ _ _ _ h
 refine wpAny_call (codeAny_mono (F.run X.A X.stack s H ⟨us,[]⟩ (us++ds) (vs++oP) Q E hr I.Gj (hb s us I.kL hl) r2 h) λr s' hq=>?_)
 cases r with
 | error e=>exact hx pins σ H s e s' I hq
 | ok fl=>
  cases fl with
  | ret u=>exact I.after hq
  | next=>exact False.elim hq
  | brk=>exact False.elim hq
  | cont=>exact False.elim hq
theorem A0 (F:dU X.prog X.w X.K X.mg X.base CX k f fd ps sp) (hr:cN k X.A) (hg:Gl X x) (hm:X.mg x=some (.ref f)) (hk:PySem.W.keepIn X.K (.ref f)=true) (hb:Binds X.K fd ps ds) (hd:aY oP ds) (hx:d4 CX X E)
  (ha:PA X (e::es) t) (yf:(x==("__debug__":Str))=false:=by decide) (he:starEach (e::es) X.env=(false,eval e X.env)::starEach es X.env:=by rfl) (hpl:(backTo pos (starEach es X.env)).any (·.1)=false:=by rfl):
  PE X (.Call (.Name x p) (e::es) [] pos) (tCall sp oP E t):=by
 intro pins s σ H Q I h
 refine wpAny_Call_Name_kw (qd I hg hm ?_ yf)
 refine PySem.W.callWith_K (h₀:=X.base) I.ok.mod.F0 hk (bY (ha pos pins s σ H _ I h) λus s1 ⟨vs,H1,I1,r,q⟩=>⟨I1.kL,?_⟩) he hpl
 exact ux F hr hb hd hx I1 r q
theorem A2 {pl:Sem Bool} (he:PE X o ta) (c:wO X.K C) (hm:yc X.K C m f) (F:dU X.prog X.w X.K X.mg X.base CX k f fd ps sp) (hr:cN k X.A) (hb:Binds X.K fd ps ds) (hd:aY oP ds) (hx:d4 CX X E) (ha:PA X (e::es) t)
  (hst:starEach (e::es) X.env=(false,eval e X.env)::starEach es X.env:=by rfl) (hpl:(backTo pos (starEach es X.env)).any (·.1)=false:=by rfl)
  (ht:eval (.Call (.Attribute o m apos) (e::es) [] pos) X.env=(do
   let ov <-eval o X.env
   standAt apos.atName
   let (f,first) <-holding [ov] (getMethod ov m pl)
   callWith pos f first (backTo pos (starEach (e::es) X.env)) (backToKw pos (keywordEach [] X.env))):=by rfl):
  PE X (.Call (.Attribute o m apos) (e::es) [] pos) (ph C m sp oP E ta t):=by
 intro pins s σ H Q I h
 refine PySem.W.methodCall_KW (pl:=pl) (bY (he pins s σ H _ I h) λu s1 cD=>?_) ht
 obtain⟨x,H1,I1,rx,a,dx,fs,ex,ea,l,q⟩:=cD
 subst ex
 obtain rfl:u=Value.ref a:=rx
 refine mO I1 ea c hm l ?_
 refine PySem.W.callWith_K (first:=[.ref a]) (h₀:=X.base) I.ok.mod.F0 hm.kp (bY (ha pos pins s1 σ H1 _ I1 q) λus s2 ⟨vs,H2,I2,r,q2⟩=>⟨I2.kL,?_⟩) hst hpl
 exact ux (us:=.ref a::us) (vs:=.ref a::vs) F hr hb hd hx I2 (.cons rfl r) q2
theorem yg {pl:Sem Bool} (he:PE X o ta) (c:wO X.K C) (hm:yc X.K C m f) (F:dU X.prog X.w X.K X.mg X.base CX k f fd ps sp) (hr:cN k X.A) (hb:Binds X.K fd ps ds) (hd:aY oP ds) (hx:d4 CX X E)
  (ht:eval (.Call (.Attribute o m apos) [] [] pos) X.env=(do
   let ov <-eval o X.env
   standAt apos.atName
   let (f,first) <-holding [ov] (getMethod ov m pl)
   callWith pos f first (backTo pos (starEach [] X.env)) (backToKw pos (keywordEach [] X.env))):=by rfl):
  PE X (.Call (.Attribute o m apos) [] [] pos) (ph C m sp oP E ta tNil):=by
 intro pins s σ H Q I h
 refine PySem.W.methodCall_KW (pl:=pl) (bY (he pins s σ H _ I h) λu s1 cD=>?_) ht
 obtain⟨x,H1,I1,rx,a,dx,fs,ex,ea,l,q⟩:=cD
 subst ex
 obtain rfl:u=Value.ref a:=rx
 refine mO I1 ea c hm l ?_
 exact PySem.W.callWith_K0 (first:=[.ref a]) I1.kL hm.kp (ux (us:=[.ref a]) (vs:=[.ref a]) F hr hb hd hx I1 (.cons rfl .nil) q)
structure Mk (K:PySem.W.Frag) (C f:Addr):Prop where
 makes:PySem.W.makesIn K C=true
 init:PySem.W.findIn K (.ref C) "__init__"=some (some (.ref f))
 fn:PySem.W.isFn K (.ref f)=true
 kp:PySem.W.keepIn K (.ref C)=true
theorem yh {pins:List (Addr×Obj)} {σ:St} {H:Hp} {s:Shared} {Q:VK} {us:List Value} {vs:List V} (M:Mk X.K C f) (F:dU X.prog X.w X.K X.mg X.base CX k f fd ps sp) (hr:cN (k+1) X.A) (hb:Binds X.K fd ps ds) (hd:aY oP ds)
  (hx:d4 CX X E) (I:Inv X pins σ H s) (r:aY vs us)
  (h:∀x dx,H x=none->H dx=none->dx≠x->sp (.ref x::(vs++oP)) (upd (upd H dx (.own x)) x (.ins C dx [])) (λv H2=>v=.cc/\Q (.ref x) H2) E):
  wpAny (model X.prog X.w) X.A (call (.ref C) us) (EP X pins σ Q) X.xe s:=by
 have hq:=h (s.heap.objs.size+1) s.heap.objs.size (I.bI.fresh (Nat.le_succ _)) (I.bI.fresh (aae _)) (aaj (aaK _))
 have I2:=Inv.made (C:=C) I
 have r2:aY (V.ref (s.heap.objs.size+1)::(vs++oP)) (Value.ref (s.heap.objs.size+1)::(us++ds)):=.cons rfl (r.append hd)
 have hl:(Value.ref (s.heap.objs.size+1)::us++ds).length=ps.length:=by
  have e:=r2.length
  rw[F.len _ _ _ _ hq] at e
  exact e.symm
 refine wpAny_call (yb (f:=f) I.kL M.makes M.init (beq_iff_eq.mp M.fn) (codeAny_mono (F.run _ X.stack _ _ ⟨Value.ref (s.heap.objs.size+1)::us,[]⟩ (Value.ref (s.heap.objs.size+1)::(us++ds)) _ _ E (hr.make C us [])
  (I2.Gj.make C us []) (hb _ (Value.ref (s.heap.objs.size+1)::us) I2.kL hl) r2 hq) λr s' Gk=>?_))
 cases r with
 | error e=>exact hx pins σ _ _ e s' I2 Gk
 | ok fl=>
  cases fl with
  | ret u=>
   obtain⟨v,H',I3,rv,ev,q3⟩:=I2.after Gk
   subst ev
   exact⟨rv,⟨V.ref (s.heap.objs.size+1),H',I3,rfl,q3⟩⟩
  | next=>exact False.elim Gk
  | brk=>exact False.elim Gk
  | cont=>exact False.elim Gk
theorem A3 (M:Mk X.K C f) (F:dU X.prog X.w X.K X.mg X.base CX k f fd ps sp) (hr:cN (k+1) X.A) (hg:Gl X x) (hm:X.mg x=some (.ref C)) (hb:Binds X.K fd ps ds) (hd:aY oP ds) (hx:d4 CX X E)
  (ha:PA X (e::es) t) (yf:(x==("__debug__":Str))=false:=by decide) (he:starEach (e::es) X.env=(false,eval e X.env)::starEach es X.env:=by rfl) (hpl:(backTo pos (starEach es X.env)).any (·.1)=false:=by rfl):
  PE X (.Call (.Name x p) (e::es) [] pos) (rO C sp oP E t):=by
 intro pins s σ H Q I h
 refine wpAny_Call_Name_kw (qd I hg hm ?_ yf)
 refine PySem.W.callWith_K (h₀:=X.base) I.ok.mod.F0 M.kp (bY (ha pos pins s σ H _ I h) λus s1 ⟨vs,H1,I1,r,q⟩=>⟨I1.kL,?_⟩) he hpl
 exact yh M F hr hb hd hx I1 r q
end
section
variable {X : Cx} {CX : iG} {k : Nat} {f C : Addr} {fd : FuncData} {ps ks : List Str} {sp : Sp} {E : XK} {x m : Str} {p pos apos UU : Pos} {e o : Expr} {es : List Expr} {ZI : List Keyword} {te ta : TE} {t tk : TA} {nm : Option Str}
structure Kx (K:PySem.W.Frag) (fd:FuncData) (ps ks:List Str) (g:List Value->List Value->List Value) (gV:List V->List V->List V):Prop where
 to:∀(s:Shared) (us ws:List Value),K.In s.heap->(g us ws).length=ps.length->BindsTo s fd ⟨us,ks.zip ws⟩ (ps.zip (g us ws))
 rel:∀{vs:List V} {us:List Value} {zs:List V} {ws:List Value},aY vs us->aY zs ws->aY (gV vs zs) (g us ws)
variable {g : List Value -> List Value -> List Value} {gV : List V -> List V -> List V}
end
structure aH (N P:List Str) (sc:Scope):Prop where
 kind:sc.kind=.function
 co:sc.isCoroutine=false
 gen:sc.isGenerator=false
 nd:N.Nodup
 pre:N.take P.length=P
 par:∀x∈P,sc.names.lookup x=some .local\/sc.names.lookup x=some .cell
 Dr:∀y∈sc.names,y.2≠.free
theorem pj {kindOf:Str->Option NameKind} {x:Str}:∀{binds:List (Str×Value)} {m:Str->Option Value},(∀v,(x,v)∉binds)->bindL kindOf binds m x=m x
 | [],_,_=>rfl
 | (n,v)::r,m,h=>by
  unfold bindL
  rw[pj λw hw=>h w (aak _ hw)]
  split
  ·have:x≠n:=by rintro rfl;exact h v aal
   simp [this]
  ·rfl
theorem pA {kindOf:Str->Option NameKind} {x:Str}:∀{binds:List (Str×Value)} {m:Str->Option Value},(∀v,(x,v)∉binds)->bindC kindOf binds m x=m x
 | [],_,_=>rfl
 | (n,v)::r,m,h=>by
  unfold bindC
  rw[pA λw hw=>h w (aak _ hw)]
  split
  ·rfl
  ·have:x≠n:=by rintro rfl;exact h v aal
   simp [this]
theorem pB {kindOf:Str->Option NameKind} {x:Str} {v:Value}:∀{P:List Str} {vs:List Value} {i:Nat} {m:Str->Option Value},P.Nodup->P[i]?=some x->vs[i]?=some v->kindOf x=some .local->
  bindL kindOf (P.zip vs) m x=some v
 | [],_,_,_,_,h,_,_=>by simp at h
 | _::_,[],_,_,_,_,h,_=>by simp at h
 | p::P,w::vs,0,m,nd,h1,h2,hk=>by
  simp at h1 h2;subst h1;subst h2
  show bindL kindOf ((p,w)::P.zip vs) m p=_
  unfold bindL
  rw[pj λv hv=>(List.nodup_cons.mp nd).1 (List.of_mem_zip hv).1,if_pos hk]
  simp
 | p::P,w::vs,i+1,m,nd,h1,h2,hk=>by
  show bindL kindOf ((p,w)::P.zip vs) m x=_
  unfold bindL
  exact pB (i:=i) (List.nodup_cons.mp nd).2 (by simpa using h1) (by simpa using h2) hk
theorem pC {kindOf:Str->Option NameKind} {x:Str} {v:Value}:∀{P:List Str} {vs:List Value} {i:Nat} {m:Str->Option Value},P.Nodup->P[i]?=some x->vs[i]?=some v->kindOf x≠some .local->
  bindC kindOf (P.zip vs) m x=some v
 | [],_,_,_,_,h,_,_=>by simp at h
 | _::_,[],_,_,_,_,h,_=>by simp at h
 | p::P,w::vs,0,m,nd,h1,h2,hk=>by
  simp at h1 h2;subst h1;subst h2
  show bindC kindOf ((p,w)::P.zip vs) m p=_
  unfold bindC
  rw[pA λv hv=>(List.nodup_cons.mp nd).1 (List.of_mem_zip hv).1,if_neg hk]
  simp
 | p::P,w::vs,i+1,m,nd,h1,h2,hk=>by
  show bindC kindOf ((p,w)::P.zip vs) m x=_
  unfold bindC
  exact pC (i:=i) (List.nodup_cons.mp nd).2 (by simpa using h1) (by simpa using h2) hk
noncomputable def start (N:List Str) (vs:List V):St:=vs.map some++List.replicate (N.length - vs.length) none
noncomputable def uy (CX:iG) (P:Program) (w:World) (K:PySem.W.Frag) (mg:Str->Option Value) (base:Heap) (N:List Str) (qual:Str) (scope:Scope) (f:Addr) (cd:Value) (A:Around) (outer:List Env) (s:Shared) (H:Hp) (E:XK):Cx where
 prog:=P
 w:=w
 K:=K
 mg:=mg
 base:=base
 A:=A.deeper (envOfC qual scope s.heap.objs.size f cd)
 N:=N
 s₀:=s
 H₀:=H
 env:=envOfC qual scope s.heap.objs.size f cd
 outer:=outer
 stack:=envOfC qual scope s.heap.objs.size f cd::outer
 ex:=[]
 calm:=true
 fn:=λ_=>true
 pn:=[]
 xe:=λe s'=>wpAny (model P w) (A.deeper (envOfC qual scope s.heap.objs.size f cd)) (leaving (envOfC qual scope s.heap.objs.size f cd) e) (λ_ Ds=>CX outer H s E e Ds) (λe' Ds=>CX outer H s E e' Ds) s'
theorem rP {sc:Scope} {n:Nat} {x:Str} (h:sc.names.lookup x=some .cell):∃c,(cellsFrom n sc.names []).lookup x=some c:=by
 have q:=PySem.W.cellsFrom_some sc.names n [] (.inl h)
 exact Option.isSome_iff_exists.mp q
theorem wR {CX:iG} {P:Program} {w:World} {K:PySem.W.Frag} {mg:Str->Option Value} {base:Heap} {N ps:List Str} {qual:Str} {scope:Scope} {f:Addr} {cd:Value} {A:Around} {outer:List Env} {s s1:Shared} {H:Hp} {E:XK} {us:List Value} {vs:List V}
  (S:aH N ps scope) (hd:A.handled=none) (e0:rN P w K mg base A outer s H) (hl:vs.length=ps.length) (r:aY vs us)
  (x:InCallC s s.heap.objs.size (bindL (envOfC qual scope s.heap.objs.size f cd).kindOf (ps.zip us) λ_=>none) (cellsFrom (s.heap.objs.size+1) scope.names []) (bindC (envOfC qual scope s.heap.objs.size f cd).kindOf (ps.zip us) λ_=>none) s1):
  Inv (uy CX P w K mg base N qual scope f cd A outer s H E) [] (start N vs) H s1:=by
 have hpl:ps.length<=N.length:=by have:=congrArg List.length S.pre;rw[aa5] at this;omega
 obtain⟨h1,tk,rfl,hk⟩:=x.done
 have Gm:∀b:Addr,b∉(uy CX P w K mg base N qual scope f cd A outer s H E).ex:=λb z=>absurd (show b∈([]:List Addr) from z) (by simp)
 refine⟨⟨e0.mod,S.kind,rfl,rfl,aae _,λy z c h1 h2=>?_,λy hy=>?_,λy c _ h=>?_,λ_=>hd,Around.frames_deeper e0.frames,.inr ⟨rfl,rfl⟩,λb z=>absurd z (Gm b),e0.bs,e0.xV,λb _ _=>Gm b,λb z=>absurd z (Gm b),e0.jM,e0.Cj⟩,
  rfl,e0.bare,Un.kept hk,⟨_,x.toInCall.ns,λi y v h1 h2 h3=>?_⟩,λy c h=>⟨_,x.cell y c h⟩,e0.bI.fresh (aae _),λy c h=>?_,λp hp=>absurd (show p∈([]:List (Addr×Obj)) from hp) (by simp),e0.bI.kept hk,?_⟩
 ·exact name_of_addr x.apart (aaX h1) (aaX h2)
 ·have hy:scope.names.lookup y=some .cell\/scope.names.lookup y=some .free:=hy
  rcases hy with hy | hy
  ·exact rP hy
  ·exact absurd rfl (S.Dr _ (aaX hy))
 ·exact Nat.le_of_lt (x.above y c (aaX h))
 ·have hi:i<vs.length:=by
   unfold start at h2
   by_cases hi:i<vs.length
   ·exact hi
   ·rw[aa6 (by simpa using hi)] at h2
    rw[List.getElem?_replicate] at h2
    split at h2 <;>cases h2
  have ha:vs[i]?=some v:=by
   unfold start at h2
   rw[abf (by simpa using hi),aaf] at h2
   cases e:vs[i]? with
   | none=>rw[e] at h2;cases h2
   | some a=>rw[e] at h2;cases h2;rfl
  obtain⟨u,hu,rv⟩:=r.get ha
  have hp:ps[i]?=some y:=by
   rw[<-S.pre,List.getElem?_take_of_lt (by omega)];exact h1
  have SD:ps.Nodup:=by rw[<-S.pre];exact S.nd.sublist (List.take_sublist _ _)
  refine⟨u,rv,?_⟩
  rcases S.par y (aad hp) with k | k
  ·exact .inl ⟨k,pB SD hp hu k⟩
  ·obtain⟨c,e⟩:=rP (n:=s.heap.objs.size+1) k
   refine .inr ⟨.inl k,c,e,?_⟩
   have q:=x.cell y c e
   rw[pC SD hp hu (by show scope.names.lookup y≠_;rw[k];decide)] at q
   exact q
 ·exact e0.bI.fresh (Nat.le_of_lt (x.above y c (aaX h)))
 ·unfold start
  show _=N.length
  rw[aaM,aab,aaZ]
  omega
theorem Cs {CX:iG} {P:Program} {w:World} {K:PySem.W.Frag} {mg:Str->Option Value} {base:Heap} {k:Nat} {f:Addr} {name qual:Str} {params:Arguments} {body:List Stmt} {scope:Scope} {dV kV doc pm cn ct oc:Value} {an od:Option Addr}
  {xK:Array (Option Value)} {N ps:List Str} {sp:Sp} (lk:K.lookup f=some ⟨oc,od,.func (PySem.W.fnOf name qual params body scope dV kV doc pm an cn ct),xK⟩) (rG:PySem.W.codeIn K cn qual=true) (S:aH N ps scope)
  (len:∀vs H Q E,sp vs H Q E->vs.length=ps.length)
  (rQ:∀(A:Around) (outer:List Env) (s:Shared) (H:Hp) (vs:List V) (Q:VK) (E:XK),cN k (A.deeper (envOfC qual scope s.heap.objs.size f cn))->sp vs H Q E->
   ∃t,ua (uy CX P w K mg base N qual scope f cn A outer s H E) body t/\t {nx:=λ_ H'=>Q .cc H',rt:=Q} (start N vs) H):
  dU P w K mg base CX (k+1) f (PySem.W.fnOf name qual params body scope dV kV doc pm an cn ct) ps sp:=by
 refine⟨len,λA outer s H args us vs Q E hr e0 hb r AE=>?_⟩
 have hl:=len _ _ _ _ AE
 have KX:K.In s.heap:=e0.mod.F0.keeps λb o e=>(e0.bs b o e).1
 have lim:s.heap.NoLimit:=e0.mod.nolimit.keeps λb o e=>(e0.bs b o e).1
 have mP:∀y∈ps.zip us,scope.names.lookup y.1=some .local\/(scope.names.lookup y.1=some .cell/\((cellsFrom (s.heap.objs.size+1) scope.names []).lookup y.1).isSome=true):=fun⟨n,v⟩ hy=>by
  rcases S.par n (List.of_mem_zip hy).1 with q | q
  ·exact .inl q
  ·exact .inr ⟨q,PySem.W.cellsFrom_some _ _ _ (.inl q)⟩
 refine codeAny_call_function hr.depth (KX _ _ lk) rfl S.co S.gen rfl (PySem.W.codeRec_of KX rG) (hb _ _ _ _ ?_)
 refine wpAny_newFunctionEnv_cells S.kind mP λenv he s1 x=>?_
 subst he
 refine⟨lim.keeps x.toInCall.keep,codeAny_func ?_⟩
 obtain⟨t,ht,hq⟩:=rQ A outer s H vs Q E (hr.deeper _) AE
 have I:Inv (uy CX P w K mg base N qual scope f cn A outer s H E) [] (start N vs) H s1:=wR S hr.hd e0 hl r x
 refine wpAny_mono (ht [] s1 (start N vs) H _ I hq) (λfl s' hs=>?_) λe s' hs=>hs
 have fin:∀{σ':St} {H':Hp} {v:V} {u:Value},Inv (uy CX P w K mg base N qual scope f cn A outer s H E) [] σ' H' s'->RelV v u->Q v H'->CE outer P w H s Q u s':=
  λ{σ' H' v u} J rv q=>⟨v,H',J.os,J.bare,J.base,J.bI,rv,q⟩
 cases fl with
 | ret u=>
  obtain⟨v,σ',H',J,rv,q⟩:=hs
  exact fin J rv q
 | next=>
  obtain⟨σ',H',J,q⟩:=hs
  exact fin (v:=V.cc) (u:=Value.none) J rfl q
 | brk=>
  obtain⟨_,_,_,q⟩:=hs
  exact False.elim q
 | cont=>
  obtain⟨_,_,_,q⟩:=hs
  exact False.elim q
end L2
namespace L2
open PySem PySem.Spec PyProof.Rows
section
variable {X : Cx} {x : Str} {p pos : Pos} {e : Expr} {es : List Expr} {t : TA} {id T : String} {r : List V -> Hp -> VK -> Prop}
noncomputable def tCB (r:List V->Hp->VK->Prop) (t:TA):TE:=λσ H Q=>t σ H λvs H1=>r vs H1 Q
theorem aK (hc:cv X (.builtin id) r) (hg:Gl X x) (hm:X.mg x=none) (hv:bootBuiltins x=some (.builtin id)) (ha:PA X (e::es) t) (hn:x≠"__name__":=by decide) (yf:(x==("__debug__":Str))=false:=by decide)
  (he:starEach (e::es) X.env=(false,eval e X.env)::starEach es X.env:=by rfl) (hpl:(backTo pos (starEach es X.env)).any (·.1)=false:=by rfl):PE X (.Call (.Name x p) (e::es) [] pos) (tCB r t):=by
 intro pins s σ H Q I h
 refine wpAny_Call_Name_kw (gD I hg hm hv ?_ hn yf)
 exact PyProof.Rows.callWith_builtin1 (bY (ha pos pins s σ H _ I h) λus s1 ⟨vs,H1,I1,r1,q1⟩=>hc pins s1 σ H1 vs us Q I1 r1 q1) he hpl
theorem gY (hc:cv X (.type T) r) (hg:Gl X x) (hm:X.mg x=none) (hv:bootBuiltins x=some (.type T)) (ha:PA X (e::es) t) (hn:x≠"__name__":=by decide) (yf:(x==("__debug__":Str))=false:=by decide)
  (he:starEach (e::es) X.env=(false,eval e X.env)::starEach es X.env:=by rfl) (hpl:(backTo pos (starEach es X.env)).any (·.1)=false:=by rfl):PE X (.Call (.Name x p) (e::es) [] pos) (tCB r t):=by
 intro pins s σ H Q I h
 refine wpAny_Call_Name_kw (gD I hg hm hv ?_ hn yf)
 exact PyProof.Rows.callWith_type1 (bY (ha pos pins s σ H _ I h) λus s1 ⟨vs,H1,I1,r1,q1⟩=>hc pins s1 σ H1 vs us Q I1 r1 q1) he hpl
end
end L2
namespace HT
open PySem PyProof.Rows
section
open PySem.SeqAt
open PySem.AutoSeq1 (wpAny_loadPart')
open PySem.MeetsSeq PySem.MeetsSeq2 PySem.MeetsSeq3
end
section
variable {prog : Program} {w : World} {A : Around} {E : Value -> Shared -> Prop} {s : Shared}
noncomputable def uz (n d:Nat):Option Int->Nat
 | none=>d
 | some v=>if v<0 then (v+ (n:Int)).toNat else min v.toNat n
end
end HT
namespace L2
open PySem PySem.Spec PyProof.Rows
abbrev TO:=St->Hp->(Option Int->Hp->Prop)->Prop
noncomputable def PO (X:Cx) (e:Option Expr) (t:TO):Prop:=
 ∀(pins:List (Addr×Obj)) (s:Shared) (σ:St) (H:Hp) (Q:Option Int->Hp->Prop),Inv X pins σ H s->t σ H Q->
  wpAny (model X.prog X.w) X.A (evalPart e X.env) (λu s'=>∃o H',Inv X pins σ H' s'/\IsPart u o/\Q o H') X.xe s
noncomputable def tNoPart:TO:=λ_ H Q=>Q none H
noncomputable def tPart (t:TE):TO:=λσ H Q=>t σ H λx H1=>∃i,x=.int i/\Q (some i) H1
theorem intsAre_of {ns:List Int}:∀{us:List Value},aY (ns.map V.int) us->IntsAre us ns:=by
 induction ns with
 | nil=>intro us r;rw[aaR] at r;cases r;exact .nil
 | cons n ns ih=>
  intro us r
  rw[aao] at r
  cases r with
  | cons r1 r2=>
   obtain⟨t,e⟩:=r1
   subst e
   exact .cons n t (ih r2)
section
variable {X : Cx} {e : Expr} {te : TE} {lo hi : Option Expr} {tl th : TO} {pos p2 : Pos}
theorem vm:PO X none tNoPart:=by
 intro pins s σ H Q I h
 rw[evalPart_none]
 exact wpAny_pure ⟨none,H,I,.none,h⟩
theorem vo (h:PE X e te):PO X (some e) (tPart te):=by
 intro pins s σ H Q I hw
 rw[evalPart_some]
 refine bY (h pins s σ H _ I hw) λu s1 cD=>?_
 obtain⟨x,H1,I1,r1,q1⟩:=cD
 obtain⟨i,rfl,q⟩:=q1
 obtain⟨t,rfl⟩:=r1
 exact⟨some i,H1,I1,.int i t,q⟩
noncomputable def Jz (X:Cx) (r:V->Option Int->Option Int->Hp->VK->Prop):Prop:=
 ∀(pins:List (Addr×Obj)) (s:Shared) (σ:St) (H:Hp) (x:V) (v vl vu:Value) (lo hi:Option Int) (sl:Addr) (Q:VK),Inv X pins σ H s->RelV x v->s.heap.IsSliceOf sl vl vu .none->IsPart vl lo->IsPart vu hi->r x lo hi H Q->
  ∃T id,typeLookup (.type T) "__getitem__"=pure (some (.builtin id))/\s.TypeIs v T/\wpAny (model X.prog X.w) X.A (getItem v (.ref sl)) (EP X pins σ Q) X.xe s
noncomputable def tSl (r:V->Option Int->Option Int->Hp->VK->Prop) (te:TE) (tl th:TO):TE:=λσ H Q=>te σ H λx H1=>tl σ H1 λl H2=>th σ H2 λu H3=>r x l u H3 Q
theorem rR {r:V->Option Int->Option Int->Hp->VK->Prop} (hr:Jz X r) (he:PE X e te) (hl:PO X lo tl) (hu:PO X hi th):PE X (.Subscript e (.Slice lo hi none p2) pos) (tSl r te tl th):=by
 intro pins s σ H Q I h
 refine Subscript_ (bY (he pins s σ H _ I h) λv s1 cD=>?_)
 obtain⟨x,H1,I1,r1,q1⟩:=cD
 refine wpAny_Slice (bY (hl pins s1 σ H1 _ I1 q1) λvl s2 ⟨l,H2,I2,pl,q2⟩=>bY (hu pins s2 σ H2 _ I2 q2) λvu s3 cD=>?_)
 obtain⟨u,H3,I3,pu,q3⟩:=cD
 rw[evalPart_none]
 refine wpAny_pure ?_
 have I4:Inv X pins σ H3 {s3 with heap:=s3.heap.push {cls:=.type "slice",data:=.fields #[vl,vu,.none]}}:=I3.kept (t':=s3.toks) λb ob q=>Heap.get?_push_of_some _ q
 obtain⟨T,id,hT,ht,hg⟩:=hr pins {s3 with heap:=s3.heap.push {cls:=.type "slice",data:=.fields #[vl,vu,.none]}} σ H3 x v vl vu l u s3.heap.objs.size Q I4 r1 (Heap.IsSliceOf.new ..) pl pu q3
 show wpAny (model X.prog X.w) X.A (subscriptTail e (.Slice lo hi none p2) v (.ref s3.heap.objs.size)) (EP X pins σ Q) X.xe {s3 with heap:=s3.heap.push {cls:=.type "slice",data:=.fields #[vl,vu,.none]}}
 exact tail_any (ops:=[.ref s3.heap.objs.size,v]) ht hT hg (by with_unfolding_all rfl)
noncomputable def uA (xs:List V) (lo hi:Option Int):List V:=(xs.drop (HT.uz xs.length 0 lo)).take (HT.uz xs.length xs.length hi - HT.uz xs.length 0 lo)
theorem rS (xs:List V) (lo hi:Option Int):(uA xs lo hi).length<=xs.length:=by
 unfold uA
 rw[aa5,List.length_drop]
 omega
end
end L2
namespace L2
open PySem PySem.Spec PyProof.Rows
noncomputable def yi (n:Nat) (i:Int):Option Nat:=if 0<=i then (if i<n then some i.toNat else none) else if -(n:Int)<=i then some (i+n).toNat else none
noncomputable def eA {α:Type} (xs:List α) (i:Int):Option α:=(yi xs.length i).bind λj=>xs[j]?
theorem vp {n:Nat} {i:Int} {j:Nat} (h:yi n i=some j):seqIndex? i n=some j/\j<n/\-(n:Int)<=i/\i<n:=by
 unfold yi at h
 by_cases h0:0<=i
 ·rw[if_pos h0] at h
  by_cases h1:i<n
  ·rw[if_pos h1] at h
   have e:i.toNat=j:=aax h
   exact⟨by rw[seqIndex_of h0 h1,e],by omega,by omega,h1⟩
  ·rw[if_neg h1] at h;cases h
 ·rw[if_neg h0] at h
  by_cases h1:-(n:Int)<=i
  ·rw[if_pos h1] at h
   have e:(i+n).toNat=j:=aax h
   exact⟨by rw[seqIndex_neg (by omega) h1,e],by omega,h1,by omega⟩
  ·rw[if_neg h1] at h;cases h
theorem ql {α:Type} {xs:List α} {i:Int} {v:α} (h:eA xs i=some v):∃j,seqIndex? i xs.length=some j/\xs[j]?=some v/\j<xs.length/\-(xs.length:Int)<=i/\i<xs.length:=by
 unfold eA at h
 cases e:yi xs.length i with
 | none=>rw[e] at h;cases h
 | some j=>
  rw[e] at h
  obtain⟨h1,h2,h3,h4⟩:=vp e
  exact⟨j,h1,h,h2,h3,h4⟩
theorem bA {α:Type} {xs:List α} {j:Nat} {v:α} (h:xs[j]?=some v):eA xs (j:Int)=some v:=by
 have hj:j<xs.length:=(List.getElem?_eq_some_iff.mp h).1
 have e:yi xs.length (j:Int)=some j:=by
  unfold yi
  rw[if_pos (by omega),if_pos (by omega)];simp
 unfold eA;rw[e];exact h
noncomputable def A4 (b:Expr):Prop:=∀o i,subscripted b false o i=operate [o,i] (getItem o i)
noncomputable def Ct (X:Cx) (r:R2):Prop:=
 ∀(value slice:Expr) (pins:List (Addr×Obj)) (s:Shared) (σ:St) (H:Hp) (x y:V) (v u:Value) (Q:VK),Inv X pins σ H s->RelV x v->RelV y u->r x y H Q->
  subscripted slice false v u=operate [v,u] (getItem v u)->wpAny (model X.prog X.w) X.A (subscriptTail value slice v u) (EP X pins σ Q) X.xe s
noncomputable def Fz (X:Cx) (id:String) (r:V->List V->Hp->VK->Prop):Prop:=
 ∀(pins:List (Addr×Obj)) (s:Shared) (σ:St) (H:Hp) (x:V) (xs:List V) (v:Value) (us:List Value) (Q:VK),Inv X pins σ H s->RelV x v->aY xs us->r x xs H Q->
  wpAny (model X.prog X.w) X.A (call (.builtin id) (v::us)) (EP X pins σ Q) X.xe s
section
variable {X : Cx} {a b : Expr} {ta tb : TE} {pos : Pos}
theorem aw {r:R2} (hr:Ct X r) (ha:PE X a ta) (hb:PE X b tb) (hs:A4 b):PE X (.Subscript a b pos) (tOp r ta tb):=by
 intro pins s σ H Q I h
 exact Subscript_ (Dp ha hb I h λv u s2 x y H2 I2 rx ry q=>hr a b pins s2 σ H2 x y v u Q I2 rx ry q (hs _ _))
noncomputable def Ky (K:PySem.W.Frag):R2:=λx y H Q=>∃p xs i v,x=.ref p/\y=.int i/\aV K H p xs/\eA xs i=some v/\Q v H
noncomputable def Kz (K:PySem.W.Frag):R2:=λx y H Q=>∃p xs i v,x=.ref p/\y=.int i/\dR K H p xs/\eA xs i=some v/\Q v H
theorem vq:Ct X (Ky X.K):=by
 intro value slice pins s σ H x y v u Q I rx ry h hs
 obtain⟨p,xs,i,z,rfl,rfl,hq,he,q⟩:=h
 cases rx
 obtain⟨t,rfl⟩:=ry
 obtain⟨aP,r,pl,hz⟩:=I.list hq
 obtain⟨j,h1,h2,h3,h4,h5⟩:=ql he
 obtain⟨w,ew,qh⟩:=r.get h2
 have hl:=r.length
 have hn:=mL
 have fin:EP X pins σ Q w s:=⟨z,H,I,qh,q⟩
 by_cases h0:0<=i
 ·have hj:i.toNat=j:=by
   rw[seqIndex_of h0 h5] at h1
   exact aax h1
  exact item_listR pl.isList h0 (by omega) (by rw[hj];simpa using ew) fin hs
 ·have hj:(i+ (aP.toArray.size:Int)).toNat=j:=by
   rw[seqIndex_neg (by omega) h4] at h1
   rw[aah,<-hl]
   exact aax h1
  exact subscriptTail_builtinR (x:=w) pl.isList.typeIs slot_list_getitem.lookup
   (wpAny_getItem_list_neg (Q:=λr s'=>r=w/\EP X pins σ Q r s') pl.isList (by omega) (by rw[aah] <;>omega) (by omega) (by rw[hj];simpa using ew) ⟨rfl,fin⟩) hs
theorem Dt:Ct X (Kz X.K):=by
 intro value slice pins s σ H x y v u Q I rx ry h hs
 obtain⟨p,xs,i,z,rfl,rfl,hq,he,q⟩:=h
 cases rx
 obtain⟨t,rfl⟩:=ry
 obtain⟨aP,r,pl,hz⟩:=I.tuple hq
 obtain⟨j,h1,h2,h3,h4,h5⟩:=ql he
 obtain⟨w,ew,qh⟩:=r.get h2
 have hl:=r.length
 have hn:=mL
 have fin:EP X pins σ Q w s:=⟨z,H,I,qh,q⟩
 exact subscriptTail_builtinR (x:=w) pl.typeIs slot_tuple_getitem.lookup
  (getItem_tuple (j:=j) (Q:=λr s'=>r=w/\EP X pins σ Q r s') pl (by omega) (by omega) (by rw[aah,<-hl];exact h1) (by simpa using ew) ⟨rfl,fin⟩) hs
theorem uB (aP:List Value) (n j:Nat) (u:Value):Obj.mapSeq (·.setIfInBounds j u) {cls:=.type "list",data:=.seq aP.toArray n}={cls:=.type "list",data:=.seq (aP.set j u).toArray n}:=by
 simp [Obj.mapSeq]
theorem Inv.lst {pins:List (Addr×Obj)} {σ:St} {H:Hp} {s:Shared} {p:Addr} {xs:List V} (I:Inv X pins σ H s) (h:H p=some (.lst xs)):
  ∃(aP:List Value) (n:Nat),aY xs aP/\s.heap.get? p=some {cls:=.type "list",data:=.seq aP.toArray n}/\xs.length<=sizeLine:=by
 obtain⟨z,aP,n,r,e⟩:=I.bI p _ h
 exact⟨aP,n,r,e,z⟩
theorem Inv.Du {pins:List (Addr×Obj)} {σ:St} {H:Hp} {s:Shared} {p:Addr} {xs ys:List V} {aP its':List Value} {n n':Nat} {f:Obj->Obj} (I:Inv X pins σ H s) (h:H p=some (.lst xs))
  (ho:s.heap.get? p=some {cls:=.type "list",data:=.seq aP.toArray n}) (hf:f {cls:=.type "list",data:=.seq aP.toArray n}={cls:=.type "list",data:=.seq its'.toArray n'}) (r:aY ys its') (hz:ys.length<=sizeLine) (t:Nat):
  Inv X pins σ (upd H p (.lst ys)) {s with heap:=s.heap.update p f,toks:=t}:=by
 have e:(s.heap.update p f).get? p=some {cls:=.type "list",data:=.seq its'.toArray n'}:=by
  rw[Heap.get?_update_self f ho (by rw[hf] <;>rfl),hf]
 refine I.write (x:=p) (e:=p) (by rw[h];trivial) (.inl rfl) (λb u hb q=>(Heap.get?_update_other _ _ (Ne.symm hb)).trans q) ⟨_,e⟩ ?_
 exact⟨hz,its',n',r,e⟩
noncomputable def rSetL:V->V->V->Hp->(Hp->Prop)->Prop:=λo i v H Q=>∃p xs k j,o=.ref p/\i=.int k/\H p=some (.lst xs)/\yi xs.length k=some j/\Q (upd H p (.lst (xs.set j v)))
theorem set_list:Dh X rSetL:=by
 intro pins s σ H o i v ov iv u Q I ro ri rv h
 obtain⟨p,xs,k,j,rfl,rfl,hp,hj,q⟩:=h
 cases ro
 obtain⟨t,rfl⟩:=ri
 obtain⟨aP,n,r,ho,hz⟩:=I.lst hp
 obtain⟨h1,h2,h3,h4⟩:=vp hj
 have hl:=r.length
 have hn:=mL
 have I':Inv X pins σ (upd H p (.lst (xs.set j v))) {s with heap:=s.heap.update p (Obj.mapSeq (·.setIfInBounds j u))}:=
  I.Du hp ho (uB aP n j u) (r.set rv j) (by rw[aaz];exact hz) s.toks
 by_cases h0:0<=k
 ·have hk:k.toNat=j:=by
   rw[seqIndex_of h0 h4] at h1
   exact aax h1
  exact PySem.W.ki_setAt ho h0 (by omega) (by rw[aah,<-hl];exact h4) (by rw[hk];exact⟨_,I',q⟩)
 ·have hk:(k+ (aP.toArray.size:Int)).toNat=j:=by
   rw[seqIndex_neg (by omega) h3] at h1
   rw[aah,<-hl]
   exact aax h1
  exact PySem.W.ki_setBack ho (by omega) (by rw[aah,<-hl];exact h3) (by omega) (by rw[hk];exact⟨_,I',q⟩)
theorem qm (lo hi:Option Int) (n:Nat):(sliceBounds lo hi none n).1=((HT.uz n 0 lo:Nat):Int)/\(sliceBounds lo hi none n).2.1=((HT.uz n n hi:Nat):Int)/\(sliceBounds lo hi none n).2.2=1:=by
 refine⟨?_,?_,rfl⟩
 ·cases lo with
  | none=>simp [sliceBounds,HT.uz]
  | some i=>
   simp only[sliceBounds,HT.uz,Option.getD_none,show(1:Int) >0 by decide,if_true]
   by_cases h:i<0
   ·simp only[h,if_true] <;>omega
   ·simp only[h,if_false] <;>omega
 ·cases hi with
  | none=>simp [sliceBounds,HT.uz]
  | some i=>
   simp only[sliceBounds,HT.uz,Option.getD_none,show(1:Int) >0 by decide,if_true]
   by_cases h:i<0
   ·simp only[h,if_true] <;>omega
   ·simp only[h,if_false] <;>omega
theorem oQ (aP:List Value) (lo hi:Option Int):slicePick aP.toArray lo hi none=((aP.drop (HT.uz aP.length 0 lo)).take (HT.uz aP.length aP.length hi - HT.uz aP.length 0 lo)).toArray:=by
 obtain⟨h1,h2,h3⟩:=qm lo hi aP.toArray.size
 unfold slicePick
 rw[h1,h2,h3]
 simp only[sliceRange_one,pick_run,aah] <;>rfl
noncomputable def rSlL (K:PySem.W.Frag):V->Option Int->Option Int->Hp->VK->Prop:=λx lo hi H Q=>∃a xs,x=.ref a/\aV K H a xs/\∀p,H p=none->Q (.ref p) (upd H p (.lst (uA xs lo hi)))
theorem A5:Jz X (rSlL X.K):=by
 intro pins s σ H x v vl vu lo hi sl Q I rx hs pl pu h
 obtain⟨a,xs,rfl,hx,q⟩:=h
 cases rx
 obtain⟨aP,r,ht,hz⟩:=I.list hx
 have hlen:=r.length
 refine⟨"list",_,slot_list_getitem.lookup,ht.isList.typeIs,?_⟩
 refine wpAny_getItem_list_slice ht.isList hs pl pu .none (by simp) ?_ (by rw[aah] <;>omega)
 rw[oQ,<-hlen]
 refine⟨.ref s.heap.objs.size,_,I.laid (t':=s.toks) (o:=.lst (uA xs lo hi)) (λb ob q=>Heap.get?_push_of_some _ q) (aae _) ?_,rfl,q _ (I.bI.fresh (aae _))⟩
 exact⟨aas (rS xs lo hi) hz,_,0,(r.drop (HT.uz xs.length 0 lo)).take (HT.uz xs.length xs.length hi - HT.uz xs.length 0 lo),Heap.get?_push_size _ rfl⟩
noncomputable def il:V->Bool
 | .cc=>true
 | .bl _=>true
 | .int _=>true
 | .str _=>true
 | _=>false
noncomputable def Dv:V->V->Bool
 | .cc,.cc=>true
 | .bl a,.bl b=>a==b
 | .bl a,.int b=>(if a then 1 else 0)==b
 | .int a,.bl b=>a==(if b then 1 else 0)
 | .int a,.int b=>a==b
 | .str a,.str b=>a==b
 | _,_=>false
theorem yj {A:Around} {s:Shared} {y x:V} {u v:Value} (ry:RelV y u) (rx:RelV x v) (fy:il y=true) (fx:il x=true):SeqAt.EqAt A s u v (Dv y x):=by
 cases y with
 | cc=>
  cases ry
  cases x with
  | cc=>cases rx;exact SeqAt.EqAt.same _
  | bl b=>cases rx;exact SeqAt.EqAt.none_bool b
  | int b=>obtain⟨t,rfl⟩:=rx;exact SeqAt.EqAt.none_int b t
  | str b=>obtain⟨t,rfl⟩:=rx;exact SeqAt.EqAt.none_str b t
  | _=>exact absurd (show false=true from fx) aaq
 | bl a=>
  cases ry
  cases x with
  | cc=>cases rx;exact SeqAt.EqAt.bool_none a
  | bl b=>cases rx;exact SeqAt.EqAt.bool_bool a b
  | int b=>obtain⟨t,rfl⟩:=rx;exact SeqAt.EqAt.bool_int a b t
  | str b=>obtain⟨t,rfl⟩:=rx;exact SeqAt.EqAt.bool_str a b t
  | _=>exact absurd (show false=true from fx) aaq
 | int a=>
  obtain⟨t',rfl⟩:=ry
  cases x with
  | cc=>cases rx;exact SeqAt.EqAt.int_none a t'
  | bl b=>cases rx;exact SeqAt.EqAt.int_bool a t' b
  | int b=>obtain⟨t,rfl⟩:=rx;exact SeqAt.EqAt.int_int a t' b t
  | str b=>obtain⟨t,rfl⟩:=rx;exact SeqAt.EqAt.int_str a t' b t
  | _=>exact absurd (show false=true from fx) aaq
 | str a=>
  obtain⟨t',rfl⟩:=ry
  cases x with
  | cc=>cases rx;exact SeqAt.EqAt.str_none a t'
  | bl b=>cases rx;exact SeqAt.EqAt.str_bool a t' b
  | int b=>obtain⟨t,rfl⟩:=rx;exact SeqAt.EqAt.str_int a t' b t
  | str b=>obtain⟨t,rfl⟩:=rx;exact SeqAt.EqAt.str_str a t' b t
  | _=>exact absurd (show false=true from fx) aaq
 | _=>exact absurd (show false=true from fy) aaq
noncomputable def UW (x:V) (xs:List V):Bool:=xs.any λy=>Dv y x
theorem fC:cv X (.builtin "len") (λxs H Q=>∃p ys,xs=[.ref p]/\(aV X.K H p ys\/dR X.K H p ys)/\Q (.int ys.length) H):=by
 intro pins s σ H xs us Q I r h
 obtain⟨p,ys,rfl,hq,q⟩:=h
 obtain⟨u,rfl,rx⟩:=vals1 r
 cases rx
 have hn:=mL
 rcases hq with hq | hq
 ·obtain⟨aP,r',pl,hz⟩:=I.list hq
  have hlen:=r'.length
  exact Calls.call_len_list pl.isList (by simp only[aah] <;>omega) ⟨.int ys.length,H,I.tok _,⟨s.toks+1,by rw[aah,hlen]⟩,q⟩
 ·obtain⟨aP,r',pl,hz⟩:=I.tuple hq
  have hlen:=r'.length
  exact len_tuple pl (by simp only[aah] <;>omega) ⟨.int ys.length,H,I.tok _,⟨s.toks+1,by rw[aah,hlen]⟩,q⟩
theorem qo:cv X (.type "list") (λxs H Q=>∃p ys,xs=[.ref p]/\(aV X.K H p ys\/dR X.K H p ys)/\∀l,H l=none->Q (.ref l) (upd H l (.lst ys))):=by
 intro pins s σ H xs us Q I r h
 obtain⟨p,ys,rfl,hq,q⟩:=h
 obtain⟨u,rfl,rx⟩:=vals1 r
 cases rx
 have fin:∀(aP:List Value),aY ys aP->ys.length<=sizeLine->∀(h':Heap) (c':Nat),(∀b o',s.heap.get? b=some o'->h'.get? b=some o')->
   h'.get? s.heap.objs.size=some {cls:=.type "list",dict:=none,data:=.seq aP.toArray c',slots:=#[]}->EP X pins σ Q (.ref s.heap.objs.size) {s with heap:=h'}:=λaP r' hz h' c' kp e=>
  ⟨.ref s.heap.objs.size,_,I.laid (t':=s.toks) kp (aae _) (show bW X.prog X.w _ h' _ (.lst ys) from⟨hz,aP,c',r',e⟩),rfl,q _ (I.bI.fresh (aae _))⟩
 rcases hq with hq | hq
 ·obtain⟨aP,r',pl,hz⟩:=I.list hq
  have hlen:=r'.length
  obtain⟨o,ho,hc,n,hd⟩:=pl.isList
  exact call_list_seq p (.inl rfl) ho hc hd (λh' c' kp e=>fin aP r' hz h' c' kp e) (by simp only[aah] <;>omega)
 ·obtain⟨aP,r',pl,hz⟩:=I.tuple hq
  have hlen:=r'.length
  obtain⟨o,ho,hc,n,hd⟩:=pl
  exact call_list_seq p (.inr rfl) ho hc hd (λh' c' kp e=>fin aP r' hz h' c' kp e) (by simp only[aah] <;>omega)
noncomputable def SE (K:PySem.W.Frag) (T:String) (x:V) (H:Hp):Prop:=match x with
 | .str _=>T="str"
 | .int _=>T="int"
 | .ref p=>(T="list"/\∃xs,aV K H p xs)\/(T="tuple"/\∃o,K.lookup p=some o/\o.cls=.type "tuple"/\o.dict=none)\/
   (T="dict"/\((∃kvs,H p=some (.dK kvs))\/∃kvs,H p=some (.dT kvs)))\/(T="set"/\∃S n,H p=some (.set S n))
 | _=>False
theorem Dw {pins:List (Addr×Obj)} {σ:St} {H:Hp} {s:Shared} {T:String} {x:V} {v:Value} (I:Inv X pins σ H s) (r:RelV x v) (ty:SE X.K T x H):
  s.TypeIs v T/\∀a,v=.ref a->∃ob,s.heap.get? a=some ob/\ob.dict=none:=by
 cases x with
 | str z=>
  obtain⟨t,rfl⟩:=r
  cases (show T="str" from ty)
  exact⟨typeIs_str s z t,λ_ e=>nomatch e⟩
 | int i=>
  obtain⟨t,rfl⟩:=r
  cases (show T="int" from ty)
  exact⟨typeIs_int s i t,λ_ e=>nomatch e⟩
 | ref p=>
  cases r
  rcases ty with ⟨rfl,xs,hq⟩ | ⟨rfl,o,hk,hc,hd⟩ | ⟨rfl,hk⟩ | ⟨rfl,S,n,hk⟩
  ·obtain⟨aP,_,pl,_⟩:=I.list hq
   refine⟨pl.isList.typeIs,λa e=>?_⟩
   cases e
   obtain⟨o,n,e,c,hd,_⟩:=pl
   exact⟨o,e,hd⟩
  ·refine⟨⟨o,I.kL p o hk,hc⟩,λa e=>?_⟩
   cases e
   exact⟨o,I.kL _ o hk,hd⟩
  ·have z:∃o,s.heap.get? p=some o/\o.ExactDict:=by
    rcases hk with ⟨kvs,hk⟩ | ⟨kvs,hk⟩
    ·obtain⟨_,_,_,_,o,_,_,e,ex,_⟩:=I.bI p _ hk
     exact⟨o,e,ex⟩
    ·obtain⟨_,_,_,_,o,_,_,e,ex,_⟩:=I.bI p _ hk
     exact⟨o,e,ex⟩
   obtain⟨o,e,ex⟩:=z
   refine⟨⟨o,e,ex.1⟩,λa e2=>?_⟩
   cases e2
   exact⟨o,e,ex.2.1⟩
  ·obtain⟨o,_,_,_,e,ex,_⟩:=I.bI p _ hk
   refine⟨⟨o,e,ex.1⟩,λa e2=>?_⟩
   cases e2
   exact⟨o,e,ex.2.1⟩
 | _=>exact False.elim ty
noncomputable def tBM (K:PySem.W.Frag) (T:String) (r:V->List V->Hp->VK->Prop) (to:TE) (t:TA):TE:=λσ H Q=>to σ H λx H1=>SE K T x H1/\t σ H1 λxs H2=>r x xs H2 Q
variable {o e : Expr} {es : List Expr} {to : TE} {t : TA} {name : Str} {apos gv : Pos} {T id : String} {r : V -> List V -> Hp -> VK -> Prop}
theorem jc (pa:PlainAttrs T) (slot:Slot T name id) (UX:typeOf (.builtin id)=pure (.type "method_descriptor")) (hm:Fz X id r) (ho:PE X o to) (ha:PA X (e::es) t)
  (Gn:attributeBase o name X.env (eval o X.env)=eval o X.env:=by rfl)
  (KA:((backTo gv (starEach (e::es) X.env)).all (λx=>!x.1) && (backToKw gv (keywordEach [] X.env)).all (λx=>x.1.isSome)
   && decide ((e::es).length+ ([]:List Keyword).length+ (if ([]:List Keyword).isEmpty then 0 else 1)<30))=true:=by rfl)
  (Gp:(apos.endLine==gv.line)=true:=by rfl) (hs:starEach (e::es) X.env=(false,eval e X.env)::starEach es X.env:=by rfl) (Dx:(backTo gv (starEach es X.env)).any (·.1)=false:=by rfl):
  PE X (.Call (.Attribute o name apos) (e::es) [] gv) (tBM X.K T r to t):=by
 intro pins s σ H Q I h
 refine wpAny_Call_method_late Gn KA Gp rfl (bY (ho pins s σ H _ I h) λv s1 cD=>?_)
 obtain⟨x,H1,I1,r1,ty,q1⟩:=cD
 obtain⟨h1,h2⟩:=Dw I1 r1 ty
 refine⟨T,id,pa,slot,UX,h1,h2,?_⟩
 have hA:=ha gv pins s1 σ H1 _ I1 q1
 rw[hs] at hA ⊢
 refine Calls.callWith_builtin (by show(false || (backTo gv (starEach es X.env)).any (·.1))=false;rw[Dx] <;>rfl) (Calls.evalArgs_plain ?_)
 exact bY hA λus s2 ⟨vs,H2,I2,r2,q2⟩=>hm pins s2 σ H2 x vs v us Q I2 r1 r2 q2
end
end L2
namespace L2
open PySem PySem.Spec PyProof.Rows
noncomputable def JA (X:Cx) (id:String) (r:V->List V->Hp->VK->Prop):Prop:=
 ∀(pins:List (Addr×Obj)) (s:Shared) (σ:St) (H:Hp) (x:V) (xs:List V) (v:Value) (us:List Value) (Q:VK),Inv X pins σ H s->RelV x v->aY xs us->r x xs H Q->
  wpAny (model X.prog X.w) X.A (call (.builtin id) (v::us)) (EP X pins σ Q) X.xe s
theorem aY.one:∀{x:V} {us:List Value},aY [x] us->∃u,us=[u]/\RelV x u
 | _,_,.cons r .nil=>⟨_,rfl,r⟩
theorem aY.rep {xs:List V} {us:List Value} (h:aY xs us):∀k:Nat,aY (List.replicate k xs).flatten (List.replicate k us).flatten
 | 0=>.nil
 | k+1=>by
  rw[List.replicate_succ,List.replicate_succ,List.flatten_cons,List.flatten_cons]
  exact aY.append h (aY.rep h k)
theorem foldl_rep (aP:List Value):∀(k:Nat) (acc:List Value),
  List.foldl (λx1 x2=>x1++x2) acc.toArray (List.replicate k aP.toArray)=(acc++ (List.replicate k aP).flatten).toArray
 | 0,acc=>by simp
 | k+1,acc=>by
  have e:acc.toArray++aP.toArray=(acc++aP).toArray:=by simp
  have e2:(acc++aP)++ (List.replicate k aP).flatten=acc++ (List.replicate (k+1) aP).flatten:=by
   rw[List.replicate_succ,List.flatten_cons,aaB]
  rw[<-e2,<-foldl_rep aP k (acc++aP),<-e,List.replicate_succ,List.foldl_cons]
section
variable {X : Cx} {pins : List (Addr × Obj)} {σ : St} {H : Hp} {s : Shared} {l b : Addr} {xs ys zs : List V}
theorem Inv.KC {aP its':List Value} {n:Nat} {f:Array Value->Array Value} {t':Nat} (I:Inv X pins σ H s) (hH:H l=some (.lst xs))
  (e:s.heap.get? l=some {cls:=.type "list",data:=.seq aP.toArray n}) (hf:f aP.toArray=its'.toArray) (hv:aY ys its') (hz:ys.length<=sizeLine):
  Inv X pins σ (upd H l (.lst ys)) {s with heap:=s.heap.update l (Obj.mapSeq f),toks:=t'}:=by
 have q:=PySem.IsL.update e f
 rw[hf] at q
 refine I.write (x:=l) (e:=l) (by rw[hH];exact trivial) (.inl rfl) (λb' u hb hu=>(Heap.get?_update_other s.heap (Obj.mapSeq f) (Ne.symm hb)).trans hu) ⟨_,q⟩ ?_
 exact⟨hz,its',_,hv,q⟩
theorem Inv.uC {aP:List Value} {t':Nat} (I:Inv X pins σ H s) (hv:aY ys aP) (hz:ys.length<=sizeLine):
  Inv X pins σ (upd H s.heap.objs.size (.lst ys)) {s with heap:=s.heap.push {cls:=.type "list",data:=.seq aP.toArray},toks:=t'}:=
 I.laid (λ_ _ q=>Heap.get?_push_of_some _ q) (aae _) ⟨hz,aP,0,hv,Heap.get?_push_size _ rfl⟩
theorem Inv.fresh (I:Inv X pins σ H s):H s.heap.objs.size=none:=I.bI.fresh (aae _)
theorem Inv.A6 (I:Inv X pins σ H s) (hH:H l=some (.lst xs)):xs.length<=sizeLine/\∃(aP:List Value) (n:Nat),aY xs aP/\xs.length=aP.length/\s.heap.get? l=some {cls:=.type "list",data:=.seq aP.toArray n}:=by
 obtain⟨z,aP,n,r,e⟩:=I.bI l _ hH
 exact⟨z,aP,n,r,r.length,e⟩
theorem yk {n:Nat} (h:n<=sizeLine):Builtin.List.listTooLong n=false:=by
 unfold Builtin.List.listTooLong
 exact decide_eq_false (by omega)
end
section
variable {X : Cx}
noncomputable def jd:V->List V->Hp->VK->Prop:=λx vs H Q=>∃l xs y,x=.ref l/\vs=[y]/\H l=some (.lst xs)/\xs.length<sizeLine/\Q .cc (upd H l (.lst (xs++ [y])))
theorem c9:JA X "list.append" jd:=by
 intro pins s σ H x vs v us Q I rx rv h
 obtain⟨l,xs,y,rfl,rfl,hH,hz,q⟩:=h
 cases rx
 obtain⟨u,rfl,ru⟩:=rv.one
 obtain⟨z,aP,n,r,hl,e⟩:=I.A6 hH
 refine call_meets F.slot_list_append ⟨_,e,rfl⟩ F.entry_list_append (F.args_list_append_2 _ _) (PySem.list_append l aP.toArray n u (by rw[aah];omega)) ⟨e,?_⟩
 refine⟨.cc,_,I.KC (its':=aP++ [u]) hH e (by simp) (r.append (.cons ru .nil)) ?_,rfl,q⟩
 rw[aaM,List.length_singleton]
 omega
noncomputable def Gq:R2:=λx y H Q=>∃l b xs zs,x=.ref l/\y=.ref b/\H l=some (.lst xs)/\H b=some (.lst zs)/\xs.length+zs.length<=sizeLine/\∀p,H p=none->Q (.ref p) (upd H p (.lst (xs++zs)))
theorem Dy:kc X (binaryOp .Add) Gq:=by
 intro pins s σ H x y v u Q I rx ry h
 obtain⟨l,b,xs,zs,rfl,rfl,hH,hB,hz,q⟩:=h
 cases rx
 cases ry
 obtain⟨z,aP,n,r,hl,e⟩:=I.A6 hH
 obtain⟨z2,kM,n2,r2,xM,e2⟩:=I.A6 hB
 refine PySem.P.add_list e e2 ?_ (by rw[aah,aah];omega)
 have ea:aP.toArray++kM.toArray=(aP++kM).toArray:=by simp
 rw[ea]
 exact⟨.ref _,_,I.uC (t':=s.toks) (r.append r2) (by rw[aaM];omega),rfl,q _ I.fresh⟩
noncomputable def A7:R2:=λx y H Q=>∃l k xs,x=.ref l/\y=.int k/\H l=some (.lst xs)/\-(2^63)<=k/\k<2^63/\xs.length*k.toNat<=sizeLine/\
 ∀p,H p=none->Q (.ref p) (upd H p (.lst (List.replicate k.toNat xs).flatten))
theorem len_rep {α:Type} (xs:List α) (k:Nat):(List.replicate k xs).flatten.length=k*xs.length:=by
 induction k with
 | zero=>simp
 | succ k ih=>rw[List.replicate_succ,List.flatten_cons,aaM,ih,Nat.succ_mul,Nat.add_comm]
theorem uD:kc X (binaryOp .Mult) A7:=by
 intro pins s σ H x y v u Q I rx ry h
 obtain⟨l,k,xs,rfl,rfl,hH,h1,h2,hz,q⟩:=h
 cases rx
 obtain⟨t,rfl⟩:=ry
 obtain⟨z,aP,n,r,hl,e⟩:=I.A6 hH
 have hlen:aP.toArray.size*k.toNat<=sizeLine:=by rw[aah,<-hl];exact hz
 have KD:¬aP.toArray.size*k.toNat >(2^63 - 1) / 8:=by
  have:(sizeLine:Nat)<=(2^63 - 1) / 8:=by decide
  omega
 have Dz:¬(!Builtin.List.listFitsIndex k)=true:=by
  rw[fitsIndex_both h1 h2]
  exact aaq
 have Gr:¬Builtin.List.listTooLong (aP.toArray.size*k.toNat)=true:=by
  rw[yk hlen]
  exact aaq
 have KE:List.foldl (λx1 x2=>x1++x2) #[] (List.replicate (if aP.toArray.isEmpty=true then 0 else k.toNat) aP.toArray)=(List.replicate k.toNat aP).flatten.toArray:=by
  have f0:∀m:Nat,List.foldl (λx1 x2=>x1++x2) #[] (List.replicate m aP.toArray)=(List.replicate m aP).flatten.toArray:=λm=>by
   have:=foldl_rep aP m []
   rw[aa7] at this
   exact this
  rw[f0]
  cases aP with
  | nil=>simp
  | cons a r'=>rw[if_neg (by simp)]
 refine wpAny_binaryOp_repeat_ref (T:="list") (U:="int") (by decide) ⟨_,e,rfl⟩ (λs'=>typeIs_int s' k t) noFill_list_mul F.fills_int_mul F.slot_int_rmul repeat_list F.slot_int_index.lookup
  (call_meets F.slot_int_rmul (typeIs_int s k t) F.entry_int_rmul (F.args_int_rmul_2 _ _) (int___rmul___int_list k t l aP.toArray n)
   ⟨e,rfl,⟨_,e,rfl⟩,call_meets F.slot_list_mul ⟨_,e,rfl⟩ F.entry_list_mul (F.args_list_mul_2 _ _) (AutoListH.list___mul___list_int_3 l aP.toArray n k t Dz KD Gr) ⟨e,?_⟩⟩)
 rw[KE]
 exact⟨.ref _,_,I.uC (t':=s.toks) (r.rep k.toNat) (by rw[len_rep,Nat.mul_comm];exact hz),rfl,q _ I.fresh⟩
end
section
variable {prog : Program} {w : World} {A : Around} {E : Value -> Shared -> Prop} {s : Shared}
end
section
variable {X : Cx}
end
end L2
namespace L2
open PySem PySem.Spec PyProof.Rows
section
variable {κ : Type} [DecidableEq κ]
noncomputable def iH (kvs:List (κ×V)) (k:κ):Option V:=(kvs.find? λkv=>decide (kv.1=k)).map (·.2)
noncomputable def putK (kvs:List (κ×V)) (k:κ) (v:V):List (κ×V):=
 if (kvs.any λkv=>decide (kv.1=k))=true then kvs.map (λkv=>if kv.1=k then (kv.1,v) else kv) else kvs++ [(k,v)]
noncomputable def Gu (kvs:List (κ×V)) (k:κ):List (κ×V):=kvs.filter λkv=>decide (kv.1≠k)
theorem je {p:κ×V} {r:List (κ×V)} {k:κ} (e:p.1=k):iH (p::r) k=some p.2:=by simp [iH,List.find?_cons,e]
theorem gG {p:κ×V} {r:List (κ×V)} {k:κ} (e:¬p.1=k):iH (p::r) k=iH r k:=by simp [iH,List.find?_cons,e]
theorem mQ (k:κ):∀kvs:List (κ×V),(kvs.any λkv=>decide (kv.1=k))=(iH kvs k).isSome
 | []=>rfl
 | p::r=>by
  rw[List.any_cons]
  by_cases e:p.1=k
  ·simp only[je e,decide_eq_true e,Bool.true_or,Option.isSome_some]
  ·rw[gG e,decide_eq_false e,Bool.false_or];exact mQ k r
theorem kh (kvs:List (κ×V)) (k:κ) (v:V):(putK kvs k v).length<=kvs.length+1:=by
 unfold putK
 split
 ·rw[aab];omega
 ·rw[aaM,aaw,List.length_nil];omega
theorem yl {kvs:List (κ×V)} {k:κ} (v:V) (h:iH kvs k=none):putK kvs k v=kvs++ [(k,v)]:=by
 unfold putK
 rw[mQ,h]
 exact if_neg (by decide)
theorem hV.eQ {o:Option V} {u:Option Value} (r:hV o u):o.isSome=u.isSome:=by
 cases o with
 | none=>cases u with
  | none=>rfl
  | some _=>exact(show False from r).elim
 | some _=>cases u with
  | none=>exact(show False from r).elim
  | some _=>rfl
theorem KV.val {kvs:List (κ×V)} {vs:List (κ×Value)} (r:KV kvs vs) (k:κ):hV (iH kvs k) (valueAt vs k):=by
 unfold KV at r
 induction r with
 | nil=>exact True.intro
 | @cons p q ps qs h t ih=>
  obtain⟨h1,h2⟩:=h
  by_cases e:p.1=k
  ·have e':q.1=k:=h1.symm.trans e
   have b:valueAt (q::qs) k=some q.2:=by simp [valueAt,List.find?_cons,e']
   rw[je e,b];exact h2
  ·have e':¬q.1=k:=λz=>e (h1.trans z)
   have b:valueAt (q::qs) k=valueAt qs k:=by simp [valueAt,List.find?_cons,e']
   rw[gG e,b];exact ih
theorem KV.any {kvs:List (κ×V)} {vs:List (κ×Value)} (r:KV kvs vs) (k:κ):(kvs.any λkv=>decide (kv.1=k))=vs.any λkv=>decide (kv.1=k):=by
 unfold KV at r
 induction r with
 | nil=>rfl
 | cons h t ih=>rw[List.any_cons,List.any_cons,ih,h.1]
theorem KV.DB {kvs:List (κ×V)} {vs:List (κ×Value)} (r:KV kvs vs) (k:κ) {y:V} {u:Value} (ry:RelV y u):
  KV (kvs.map λkv=>if kv.1=k then (kv.1,y) else kv) (vs.map λkv=>if kv.1=k then (kv.1,u) else kv):=by
 unfold KV at r ⊢
 induction r with
 | nil=>exact .nil
 | @cons p q ps qs h t ih=>
  rw[aao,aao]
  refine .cons ?_ ih
  obtain⟨h1,h2⟩:=h
  by_cases e:p.1=k
  ·rw[if_pos e,if_pos (h1.symm.trans e)];exact⟨h1,ry⟩
  ·rw[if_neg e,if_neg (λz=>e (h1.trans z))];exact⟨h1,h2⟩
theorem KV.put {kvs:List (κ×V)} {vs:List (κ×Value)} (r:KV kvs vs) (k:κ) {y:V} {u:Value} (ry:RelV y u):KV (putK kvs k y) (stored vs k u):=by
 unfold putK stored
 rw[r.any k]
 by_cases e:(vs.any λkv=>decide (kv.1=k))=true
 ·rw[if_pos e,if_pos e];exact r.DB k ry
 ·rw[if_neg e,if_neg e];exact Paired.snoc r ⟨rfl,ry⟩
theorem KV.length {kvs:List (κ×V)} {vs:List (κ×Value)} (r:KV kvs vs):kvs.length=vs.length:=Paired.length r
end
theorem kj {P:Program} {w:World} {k:Key} {u:Value} (r:RelV (kV k) u):(bQ P w).is k u=true:=by
 cases k with
 | inl i=>obtain⟨t,e⟩:=(show ∃t,u=Value.int i t from r);subst e;exact rn P w i t
 | inr x=>obtain⟨t,e⟩:=(show ∃t,u=Value.str x t from r);subst e;exact rp P w x t
theorem pE {P:Program} {w:World}:∀{ks:List Key} {us:List Value},aY (ks.map kV) us->ItemsAre (bQ P w) ks us
 | [],_,r=>by rw[aaR] at r;cases r;exact .nil
 | k::ks,_,r=>by
  rw[aao] at r
  cases r with
  | cons h t=>exact .cons (kj h) (pE t)
abbrev KT (H:Hp):List (List Key×V)->List (List Key×Addr×Value)->Prop:=Paired λp q=>p.1=q.1/\H q.2.1=some (.tup (p.1.map kV))/\RelV p.2 q.2.2
theorem KT.val {H:Hp} {kvs:List (List Key×V)} {xs:List (List Key×Addr×Value)} (r:KT H kvs xs) (k:List Key):hV (iH kvs k) ((atKey xs k).map (·.2)):=by
 induction r with
 | nil=>exact True.intro
 | @cons p q ps qs h t ih=>
  obtain⟨h1,_,h2⟩:=h
  by_cases e:p.1=k
  ·have e':q.1=k:=h1.symm.trans e
   have b:atKey (q::qs) k=some q.2:=by simp [atKey,List.find?_cons,e']
   rw[je e,b];exact h2
  ·have e':¬q.1=k:=λz=>e (h1.trans z)
   have b:atKey (q::qs) k=atKey qs k:=by simp [atKey,List.find?_cons,e']
   rw[gG e,b];exact ih
theorem KT.DB {H:Hp} {kvs:List (List Key×V)} {xs:List (List Key×Addr×Value)} (r:KT H kvs xs) (k:List Key) {y:V} {u:Value} (ry:RelV y u):
  KT H (kvs.map λkv=>if kv.1=k then (kv.1,y) else kv) (xs.map (putAt k u)):=by
 induction r with
 | nil=>exact .nil
 | @cons p q ps qs h t ih=>
  rw[aao,aao]
  refine .cons ?_ ih
  obtain⟨h1,h2,h3⟩:=h
  unfold putAt
  by_cases e:p.1=k
  ·rw[if_pos e,if_pos (h1.symm.trans e)];exact⟨h1,h2,ry⟩
  ·rw[if_neg e,if_neg (λz=>e (h1.trans z))];exact⟨h1,h2,h3⟩
theorem KT.put {H:Hp} {kvs:List (List Key×V)} {xs:List (List Key×Addr×Value)} (r:KT H kvs xs) (k:List Key) {b:Addr} {y:V} {u:Value} (hb:H b=some (.tup (k.map kV))) (ry:RelV y u):
  KT H (putK kvs k y) (storedH xs k b u):=by
 have e:(kvs.any λkv=>decide (kv.1=k))=(atKey xs k).isSome:=by
  rw[mQ,(r.val k).eQ,Option.isSome_map]
 unfold putK storedH
 rw[e]
 by_cases q:(atKey xs k).isSome=true
 ·rw[if_pos q,if_pos q];exact r.DB k ry
 ·rw[if_neg q,if_neg q];exact Paired.snoc r ⟨rfl,hb,ry⟩
theorem KT.keeps {H H':Hp} {kvs:List (List Key×V)} {xs:List (List Key×Addr×Value)} (r:KT H kvs xs) (ht:∀b ys,H b=some (.tup ys)->H' b=some (.tup ys)):KT H' kvs xs:=
 Paired.C7 r λ_ _ z=>⟨z.1,ht _ _ z.2.1,z.2.2⟩
section
variable {P : Program} {w : World} {H : Hp} {h : Heap} {a : Addr}
theorem Cu {u:HO} (ok:gp P w H h) (e:Rd H a u):bW P w H h a u:=e.ok ok
theorem pF {kvs:List (Key×V)} (ok:gp P w H h) (e:Rd H a (.dK kvs)):kvs.length<=sizeLine/\(a==sysModules)=false/\∃vs,KV kvs vs/\h.DictOf (bQ P w) a vs:=
 show bW P w H h a (.dK kvs) from Cu ok e
theorem Cv {kvs:List (Key×V)} (ok:gp P w H h) (e:H a=some (.dK kvs)):kvs.length<=sizeLine/\(a==sysModules)=false/\∃vs,KV kvs vs/\h.DictOf (bQ P w) a vs:=pF ok (.inl e)
theorem mR {ks:List Key} (ok:gp P w H h) (e:H a=some (.tup (ks.map kV))):(tupleKind (bQ P w)).is h ks a:=by
 obtain⟨_,aP,r,o,h1,h2,n,h3⟩:=(show bW P w H h a (.tup (ks.map kV)) from ok a _ e)
 exact⟨o,aP.toArray,n,h1,h2,h3,by simpa using pE r⟩
theorem rT {kvs:List (List Key×V)} (ok:gp P w H h) (e:Rd H a (.dT kvs)):kvs.length<=sizeLine/\(a==sysModules)=false/\
  ∃xs,KT H kvs xs/\h.DictOfH (tupleKind (bQ P w)) a xs:=by
 obtain⟨z,y,xs,r,o,es,ep,h1,h2,h3,h4,h5⟩:=(show bW P w H h a (.dT kvs) from Cu ok e)
 refine⟨z,y,xs,r,o,es,ep,h1,h2,h3,h4,λx hx=>?_,h5⟩
 have all:∀{l:List (List Key×V)} {m:List (List Key×Addr×Value)},KT H l m->∀x∈m,(tupleKind (bQ P w)).is h x.1 x.2.1:=by
  intro l m q
  induction q with
  | nil=>intro x hx;exact nomatch hx
  | @cons p q ps qs hq t ih=>
   intro x hx
   rcases List.mem_cons.mp hx with e | hx
   ·subst e
    exact mR ok (by rw[<-hq.1];exact hq.2.1)
   ·exact ih x hx
 exact all r x hx
theorem Gv {kvs:List (List Key×V)} (ok:gp P w H h) (e:H a=some (.dT kvs)):kvs.length<=sizeLine/\(a==sysModules)=false/\
  ∃xs,KT H kvs xs/\h.DictOfH (tupleKind (bQ P w)) a xs:=rT ok (.inl e)
end
noncomputable def kN (H:Hp) (a:Addr) (y:V) (r:Option V):Prop:=
 (∃kvs k,Rd H a (.dK kvs)/\y=kV k/\r=iH kvs k)\/∃kvs k b,Rd H a (.dT kvs)/\y=.ref b/\H b=some (.tup (k.map kV))/\r=iH kvs k
noncomputable def uE (H:Hp) (a:Addr) (y v:V) (H':Hp):Prop:=
 (∃kvs k,H a=some (.dK kvs)/\y=kV k/\kvs.length<sizeLine/\H'=upd H a (.dK (putK kvs k v)))\/
 ∃kvs k b,H a=some (.dT kvs)/\y=.ref b/\H b=some (.tup (k.map kV))/\kvs.length<sizeLine/\H'=upd H a (.dT (putK kvs k v))
theorem uE.k {H:Hp} {a:Addr} {kvs:List (Key×V)} {k:Key} {v:V} (e:H a=some (.dK kvs)) (hl:kvs.length<sizeLine):uE H a (kV k) v (upd H a (.dK (putK kvs k v))):=.inl ⟨kvs,k,e,rfl,hl,rfl⟩
section
variable {X : Cx} {pins : List (Addr × Obj)} {σ : St} {H : Hp} {s : Shared} {a : Addr} {y v : V} {u r : Value} {o : Option V} {A : Around} {E : Value -> Shared -> Prop}
theorem Inv.SF (I:Inv X pins σ H s):sysModules<s.heap.objs.size:=by
 have h:mainGlobals<s.heap.objs.size:=(I.mod.glob.keeps I.bk).lt
 exact Nat.lt_trans (by decide) h
theorem wU {Q:Value->Shared->Prop} (hu:A.units+1<cLine) (I:Inv X pins σ H s) (g:kN H a y (some v)) (ry:RelV y u) (h:∀w' s',Inv X pins σ H s'->RelV v w'->Q w' s'):
  wpAny (model X.prog X.w) A (getItem (.ref a) u) Q E s:=by
 rcases g with ⟨kvs,k,e,ey,l⟩ | ⟨kvs,k,b,e,ey,eb,l⟩
 ·subst ey
  obtain⟨z,hd,vs,rel,dd⟩:=pF I.bI e
  obtain⟨w',hw,qh⟩:=hV.some_of (v:=v) (o:=valueAt vs k) (by rw[l];exact rel.val k)
  exact wpAny_getItem_of (kj ry) dd.mapOf hw (h w' _ (I.tok _) qh)
 ·subst ey
  cases (show u=Value.ref b from ry)
  obtain⟨z,hd,xs,rel,dd⟩:=rT I.bI e
  obtain⟨w',hw,qh⟩:=hV.some_of (v:=v) (o:=(atKey xs k).map (·.2)) (by rw[l];exact rel.val k)
  obtain⟨p,hp,wV⟩:=Option.map_eq_some_iff.mp hw
  refine wpAny_getItem_heap (tupleKind_room_in1 hu) (mR I.bI eb) dd hp ?_
  rw[wV]
  exact h w' _ (I.tok _) qh
theorem KG {Q:Value->Shared->Prop} (hu:A.units+1<cLine) (I:Inv X pins σ H s) (g:kN H a y o) (ry:RelV y u) (h:∀s',Inv X pins σ H s'->Q (.bool o.isSome) s'):
  wpAny (model X.prog X.w) A (compareOp .In u (.ref a)) Q E s:=by
 rcases g with ⟨kvs,k,e,ey,l⟩ | ⟨kvs,k,b,e,ey,eb,l⟩
 ·subst ey
  obtain⟨z,hd,vs,rel,dd⟩:=pF I.bI e
  refine wpAny_in_of (kj ry) hd dd.mapOf ?_
  rw[<-(rel.val k).eQ,<-l]
  exact h _ (I.tok _)
 ·subst ey
  cases (show u=Value.ref b from ry)
  obtain⟨z,hd,xs,rel,dd⟩:=rT I.bI e
  refine wpAny_in_heap (tupleKind_room_in1 hu) (mR I.bI eb) hd dd ?_
  have q:=(rel.val k).eQ
  rw[Option.isSome_map] at q
  rw[<-q,<-l]
  exact h _ (I.tok _)
theorem A8 {Q:Value->Shared->Prop} (hu:A.units+1<cLine) (I:Inv X pins σ H s) (g:kN H a y o) (ry:RelV y u) (h:∀s',Inv X pins σ H s'->Q (.bool (!o.isSome)) s'):
  wpAny (model X.prog X.w) A (compareOp .NotIn u (.ref a)) Q E s:=by
 rcases g with ⟨kvs,k,e,ey,l⟩ | ⟨kvs,k,b,e,ey,eb,l⟩
 ·subst ey
  obtain⟨z,hd,vs,rel,dd⟩:=pF I.bI e
  refine wpAny_notIn_of (kj ry) hd dd.mapOf ?_
  rw[<-(rel.val k).eQ,<-l]
  exact h _ (I.tok _)
 ·subst ey
  cases (show u=Value.ref b from ry)
  obtain⟨z,hd,xs,rel,dd⟩:=rT I.bI e
  refine wpAny_notIn_heap (tupleKind_room_in1 hu) (mR I.bI eb) hd dd ?_
  have q:=(rel.val k).eQ
  rw[Option.isSome_map] at q
  rw[<-q,<-l]
  exact h _ (I.tok _)
theorem qp {h':Heap} {t':Nat} {ob:HO} (I:Inv X pins σ H s) (mu:FY (H a)) (hs:Heap.SameBut a s.heap h') (he:∃q,h'.get? a=some q) (new:bW X.prog X.w (upd H a ob) h' a ob):
  Inv X pins σ (upd H a ob) {s with heap:=h',toks:=t'}:=
 I.write (x:=a) (e:=a) mu (.inl rfl) (λb q hb z=>(hs.2 b hb).trans z) he new
theorem yn {P:Program} {w:World} {H':Hp} {h':Heap} {kvs:List (Key×V)} {vs:List (Key×Value)} (z:kvs.length<=sizeLine) (hd:(a==sysModules)=false) (rel:KV kvs vs) (dd:h'.DictOf (bQ P w) a vs):
  bW P w H' h' a (.dK kvs):=⟨z,hd,vs,rel,dd⟩
theorem wW {H':Hp} {Q:Unit->Shared->Prop} (hu:A.units+1<cLine) (I:Inv X pins σ H s) (g:uE H a y v H') (ry:RelV y u) (rv:RelV v r) (h:∀s',Inv X pins σ H' s'->Q () s'):
  wpAny (model X.prog X.w) A (setItem (.ref a) u r) Q E s:=by
 rcases g with ⟨kvs,k,e,ey,l,eH⟩ | ⟨kvs,k,b,e,ey,eb,l,eH⟩
 ·subst ey eH
  obtain⟨z,hd,vs,rel,dd⟩:=Cv I.bI e
  have hz:vs.length<=sizeLine:=by rw[<-rel.length];exact z
  have hl:(putK kvs k v).length<=sizeLine:=by have:=kh kvs k v;omega
  refine wpAny_setItem_pairs (hsz:=hz) (kj ry) dd λh' A9 hs=>h _ ?_
  have he:∃q,h'.get? a=some q:=let ⟨q,_,_,hq,_⟩:=A9;⟨q,hq⟩
  exact qp I (by rw[e];exact True.intro) hs he (yn hl hd (rel.put k rv) A9)
 ·subst ey eH
  cases (show u=Value.ref b from ry)
  obtain⟨z,hd,xs,rel,dd⟩:=Gv I.bI e
  have hz:xs.length<=sizeLine:=by rw[<-Paired.length rel];exact z
  have hl:(putK kvs k v).length<=sizeLine:=by have:=kh kvs k v;omega
  refine wpAny_setItem_heap (hsz:=hz) (tupleKind_room_in1 hu) (mR I.bI eb) dd λh' A9 hs=>h _ ?_
  obtain⟨q,es,ep,hq,h2,h3,h4,_,h5⟩:=A9
  refine qp I (by rw[e];exact True.intro) hs ⟨q,hq⟩ ⟨hl,hd,_,(rel.put k eb rv).keeps λc ys ec=>?_,q,es,ep,hq,h2,h3,h4,h5⟩
  rw[au (FX ec e (λz=>nomatch z))]
  exact ec
end
section
variable {X : Cx} {pins : List (Addr × Obj)} {σ : St} {H : Hp} {s : Shared} {a : Addr} {kvs : List (Key × V)} {k : Key} {u : Value} {A : Around} {E : Value -> Shared -> Prop}
end
noncomputable def Gw (i:Expr):Prop:=∀ov iv,subscripted i false ov iv=operate [ov,iv] (getItem ov iv)
theorem Ba {prog:Program} {w:World} {A:Around} {E:Value->Shared->Prop} {s:Shared} {env:Env} {value slice:Expr} {pos:Pos} {T id:String} {Q:Value->Shared->Prop}
  (hl:typeLookup (.type T) "__getitem__"=pure (some (.builtin id))) (hs:Gw slice)
  (h:wpAny (model prog w) A (eval value env) (λo s₁=>wpAny (model prog w) A (eval slice env) (λi s₂=>s₂.TypeIs o T/\wpAny (model prog w) A (getItem o i) Q E s₂) E s₁) E s):
  wpAny (model prog w) A (eval (.Subscript value slice pos) env) Q E s:=by
 refine Subscript_ (wpAny_mono h (λo s₁ h₁=>wpAny_mono h₁ (λi s₂ h₂=>?_) λ_ _ x=>x) λ_ _ x=>x)
 obtain⟨hT,h₂⟩:=h₂
 unfold subscriptTail
 refine wpAny_bind ?_
 rw[getitemInPython_of_ne hT.not_modules]
 refine wpAny_bind (wpAny_specialOf hT hl ?_)
 have fin:wpAny (model prog w) A (subscripted slice false o i) (λr s₃=>wpAny (model prog w) A (letTemporaryGo value o r >>=λ_=>pure r) Q E s₃) E s₂:=by
  rw[hs o i]
  exact wpAny_operating (wpAny_mono h₂ (λr s₃ h₃=>wpAny_bind (wpAny_letTemporaryGo (wpAny_pure h₃))) λ_ _ x=>x)
 first
  | exact wpAny_pure (wpAny_bind fin)
  | exact wpAny_bind (wpAny_pure (wpAny_bind fin))
  | exact wpAny_bind fin
theorem rV {X:Cx} {pins:List (Addr×Obj)} {σ:St} {H:Hp} {s:Shared} {a:Addr} {y:V} {o:Option V} (I:Inv X pins σ H s) (g:kN H a y o):s.TypeIs (.ref a) "dict":=by
 rcases g with ⟨kvs,k,e,_,_⟩ | ⟨kvs,k,b,e,_,_,_⟩
 ·obtain⟨_,_,vs,_,dd⟩:=pF I.bI e
  exact dd.typeIs
 ·obtain⟨_,_,xs,_,dd⟩:=rT I.bI e
  exact dd.typeIs
noncomputable def tDGet (td ty:TE):TE:=λσ H Q=>td σ H λx H1=>ty σ H1 λy H2=>∃a v,x=.ref a/\kN H2 a y (some v)/\Q v H2
noncomputable def tDIn (ty td:TE):TE:=λσ H Q=>ty σ H λy H1=>td σ H1 λx H2=>∃a o,x=.ref a/\kN H2 a y o/\Q (.bl o.isSome) H2
noncomputable def tDNotIn (ty td:TE):TE:=λσ H Q=>ty σ H λy H1=>td σ H1 λx H2=>∃a o,x=.ref a/\kN H2 a y o/\Q (.bl (!o.isSome)) H2
noncomputable def sDPut (td ty tv:TE):TS:=λD σ H=>tv σ H λv H1=>td σ H1 λx H2=>ty σ H2 λy H3=>∃a H4,x=.ref a/\uE H3 a y v H4/\D.nx σ H4
section
variable {X : Cx} {o i e value : Expr} {pos pos' gu : Pos} {td ty tv : TE}
theorem Bb (hu:X.A.units+1<cLine) (ho:PE X o td) (hi:PE X i ty) (hs:Gw i):PE X (.Subscript o i pos) (tDGet td ty):=by
 intro pins s σ H Q I h
 refine Ba PySem.F.slot_dict_getitem.lookup hs (bY (ho pins s σ H _ I h) λu s1 ⟨x,H1,I1,rx,q1⟩=>bY (hi pins s1 σ H1 _ I1 q1) λiv s2 cD=>?_)
 obtain⟨y,H2,I2,ry,a,v,ex,g,q2⟩:=cD
 subst ex
 obtain rfl:u=Value.ref a:=rx
 exact⟨rV I2 g,wU hu I2 g ry λw' s3 I3 qh=>⟨v,H2,I3,qh,q2⟩⟩
theorem yo (hu:X.A.units+1<cLine) (hi:PE X i ty) (ho:PE X o td):PC X .In i o (tDIn ty td):=by
 intro pins s σ H Q I h
 refine bY (hi pins s σ H _ I h) λiv s1 ⟨y,H1,I1,ry,q1⟩=>bY (ho pins s1 σ H1 _ I1 q1) λu s2 cD=>?_
 obtain⟨x,H2,I2,rx,a,ov,ex,g,q2⟩:=cD
 subst ex
 obtain rfl:u=Value.ref a:=rx
 exact KG hu I2 g ry λs3 I3=>⟨.bl ov.isSome,H2,I3,rfl,q2⟩
theorem wX (hu:X.A.units+1<cLine) (hi:PE X i ty) (ho:PE X o td):PC X .NotIn i o (tDNotIn ty td):=by
 intro pins s σ H Q I h
 refine bY (hi pins s σ H _ I h) λiv s1 ⟨y,H1,I1,ry,q1⟩=>bY (ho pins s1 σ H1 _ I1 q1) λu s2 cD=>?_
 obtain⟨x,H2,I2,rx,a,ov,ex,g,q2⟩:=cD
 subst ex
 obtain rfl:u=Value.ref a:=rx
 exact A8 hu I2 g ry λs3 I3=>⟨.bl (!ov.isSome),H2,I3,rfl,q2⟩
theorem vt (hu:X.A.units+1<cLine) (ho:PE X o td) (hi:PE X i ty) (hv:PE X value tv) (hs:swapsWith value (some (.Subscript o i pos')) pos.line X.env=pure false):
  PS X (.Assign [.Subscript o i pos'] value pos) (sDPut td ty tv):=by
 intro pins s σ H D I h
 refine wpAny_Assign_Subscript (bY (hv pins s σ H _ I h) λr s1 ⟨v,H1,I1,rv,q1⟩=>bY (ho pins s1 σ H1 _ I1 q1) λu s2 ⟨x,H2,I2,rx,q2⟩=>bY (hi pins s2 σ H2 _ I2 q2) λiv s3 cD=>?_) hs
 obtain⟨y,H3,I3,ry,a,H4,ex,g,q3⟩:=cD
 subst ex
 obtain rfl:u=Value.ref a:=rx
 exact wW hu I3 g ry rv λs4 I4=>⟨σ,H4,I4,q3⟩
end
theorem rW {P:Program} {w:World} {H:Hp} (h:Heap) (hb:sysModules<h.objs.size):bW P w H (h.push {cls:=.type "dict",data:=.dict #[]}) h.objs.size (.dK []):=
 ⟨aar _,beq_eq_false_iff_ne.mpr (Ne.symm (aaj hb)),[],.nil,Heap.DictOf.new h⟩
noncomputable def tDNewK:TE:=λ_ H Q=>∀p,H p=none->Q (.ref p) (upd H p (.dK []))
section
variable {X : Cx} {pos : Pos}
theorem yp:PE X (.Dict [] [] pos) tDNewK:=λpins s σ H Q I h=>
 wpAny_Dict_empty ⟨.ref s.heap.objs.size,_,I.laid (a:=s.heap.objs.size) (o:=.dK []) (t':=s.toks) (λ_ _ q=>Heap.get?_push_of_some _ q) (aae _) (rW s.heap I.SF),rfl,h _ (I.bI.fresh (aae _))⟩
end
abbrev VV:List (V×V)->List (Value×Value)->Prop:=Paired λp q=>RelV p.1 q.1/\RelV p.2 q.2
structure M1 (X:Cx) (o:Expr) (m:Str) (apos:Pos) (e:Expr) (gv:Pos):Prop where
 base:attributeBase o m X.env (eval o X.env)=eval o X.env
 pG:((backTo gv (starEach [e] X.env)).all (λx=>!x.1) && (backToKw gv (keywordEach [] X.env)).all (λx=>x.1.isSome)
  && decide (([e]:List Expr).length+ ([]:List Keyword).length+ (if ([]:List Keyword).isEmpty then 0 else 1)<30))=true
 line:(apos.endLine==gv.line)=true
 trees:backTo gv (starEach [e] X.env)=[(false,eval e X.env)]
structure M2 (X:Cx) (o:Expr) (m:Str) (apos:Pos) (e f:Expr) (gv:Pos):Prop where
 base:attributeBase o m X.env (eval o X.env)=eval o X.env
 pG:((backTo gv (starEach [e,f] X.env)).all (λx=>!x.1) && (backToKw gv (keywordEach [] X.env)).all (λx=>x.1.isSome)
  && decide (([e,f]:List Expr).length+ ([]:List Keyword).length+ (if ([]:List Keyword).isEmpty then 0 else 1)<30))=true
 line:(apos.endLine==gv.line)=true
 trees:backTo gv (starEach [e,f] X.env)=[(false,eval e X.env),(false,eval f X.env)]
noncomputable def KH (H:Hp) (a:Addr):Prop:=(∃kvs,Rd H a (.dK kvs))\/∃kvs,Rd H a (.dT kvs)
section
variable {X : Cx} {pins : List (Addr × Obj)} {σ : St} {H : Hp} {s : Shared} {a : Addr} {y d : V} {u r : Value} {o : Option V} {A : Around} {E : Value -> Shared -> Prop}
end
noncomputable def tDGet1 (td ty:TE):TE:=λσ H Q=>td σ H λx H1=>∃a,x=.ref a/\KH H1 a/\ty σ H1 λy H2=>∃o,kN H2 a y o/\Q (o.getD .cc) H2
noncomputable def tDGet2 (td ty tx:TE):TE:=λσ H Q=>td σ H λx H1=>∃a,x=.ref a/\KH H1 a/\ty σ H1 λy H2=>tx σ H2 λz H3=>∃o,kN H3 a y o/\Q (o.getD z) H3
noncomputable def tDPop1 (td ty:TE):TE:=λσ H Q=>td σ H λx H1=>∃a,x=.ref a/\KH H1 a/\ty σ H1 λy H2=>∃kvs k v,H2 a=some (.dK kvs)/\y=kV k/\iH kvs k=some v/\Q v (upd H2 a (.dK (Gu kvs k)))
section
variable {X : Cx} {o e f : Expr} {apos gv : Pos} {td ty tx : TE}
end
section
variable {X : Cx} {pins : List (Addr × Obj)} {σ : St} {H : Hp} {s : Shared} {a : Addr} {kvs : List (Key × V)} {A : Around} {E : Value -> Shared -> Prop}
end
section
variable {X : Cx} {pins : List (Addr × Obj)} {σ : St} {H : Hp} {s : Shared} {a : Addr} {y : V} {u : Value} {A : Around} {E : Value -> Shared -> Prop}
end
end L2
namespace AF
open PySem PySem.W PySem.Calls PyProof.Rows
theorem kO {P:Params} {h:Heap}:∀(ns:List Int) (vs:List Value),WellAll P h vs (ns.map WData.int)->IntsAre vs ns:=by
 intro ns
 induction ns with
 | nil=>
  intro vs w
  rw[aaR] at w
  cases w
  exact .nil
 | cons n ns ih=>
  intro vs w
  rw[aao] at w
  cases w with
  | cons a b=>
   cases a
   exact .cons _ _ (ih _ b)
theorem wY {l:OpenLaw} {n:Nat} (hn:l.most=some n) {P:Params} {h:Heap} {args:List WData} {vals:List Value}
  (Bc:l.row.toRowW.claim.pre args=true) (yq:WellAll P h vals args):
  ∃a vs ns,vals=[Value.ref a]/\args=[WData.list (ns.map WData.int)]/\h.get? a=some {cls:=.type "list",data:=.seq vs.toArray}/\IntsAre vs ns/\ns.length<=n:=by
 have fV:WShape.hasAll [] args [.list .int]=true:=(pre_splitW Bc).1
 have hc:l.pre.holds [] {args:=args}=true:=(pre_splitW Bc).2
 obtain⟨d,r,rfl,h1,h2⟩:=hasAllW_cons fV
 obtain rfl:=hasAllW_nil h2
 obtain⟨xs,rfl,h3⟩:=hasW_list h1
 obtain⟨ns,rfl⟩:=items_int h3
 have hlen:ns.length<=n:=by
  unfold OpenLaw.pre at hc
  have h4:(WTm.not (.lt (.lit (.int (n:Int))) (.len (.arg 0)))).holds [] {args:=[.list (ns.map .int)]}=true:=by
   have h4:=(holds_andW hc).1
   rw[hn] at h4
   exact h4
  have h5:=condW_of h4 (w_not (w_lt w_lit (w_len_list (w_arg rfl))))
  rw[aab] at h5
  refine Nat.le_of_not_lt λq=>?_
  have q':(n:Int)< ((ns.length:Nat):Int):=by omega
  first
   | (rw[decide_eq_true q'] at h5;exact absurd h5 (by decide))
   | (simp at h5;omega)
 cases yq with
 | cons w1 w2=>
  cases w2
  cases w1 with
  | list ho wZ=>exact⟨_,_,ns,rfl,rfl,ho,kO ns _ wZ,hlen⟩
theorem w5 (l:OpenLaw) (args:List WData):l.row.toRowW.claim.post args (.bool true) args=true:=
 postW_of (r:=l.row.toRowW) (X:=(true==true))
  (show WShape.has [] (.bool true) .bool=true by first | rfl | decide | simp [WShape.has,WShape.arms,WShape.armsAll])
  (show(WTm.eq .res (.lit (.bool true))).value [] {args:=args,res:=some (.bool true),after:=args}=some (.bool (true==true)) from w_eq_bool (w_res rfl) w_lit) rfl
theorem rX {l:OpenLaw} {n:Nat} {q:Program} {loose:List Str} {XP:(Str->Option Value)->Heap->Prop} {YP:World->Heap->Prop} {d:DefRec}
  (hn:l.most=some n) (Gx:d.params.defaults=[])
  (call:∀(w:World) (s₀ s₁:Shared) (mg mb:Str->Option Value) (fa:Addr) (o:Obj) (pm cd doc:Value) (a:Addr) (vs:List Value) (ns:List Int),
   Ground q loose [] XP w s₀ mg mb s₁.heap->YP w s₁.heap->
   s₁.heap.get? fa=some o->o.data=.func (docDef d.name d.params d.body d.scope pm cd doc)->s₁.heap.CodeRec cd d.name->mg d.name=some (.ref fa)->
   s₁.heap.get? a=some {cls:=.type "list",data:=.seq vs.toArray}->IntsAre vs ns->ns.length<=n->s₁.gens=#[]->
   codeAny (model l.prog w) callerA (.call (.ref fa) ⟨[.ref a],[]⟩) (λr s'=>r=.ok (.ret (.bool true))/\OldK s₁.heap s'.heap/\s'.os=s₁.os/\AllBare s'.gens) s₁):
  WalkO q loose XP YP l.row.toRowW d [] (λf vs=>PySem.call f vs):=by
 intro w s₀ s₁ mg mb G Y fa o pm cd doc dV kV ho hd rG hD Gy hg args vals as Bc UY ZJ yq DC
 obtain rfl:dV=.none:=Dflts.none hD Gx
 obtain rfl:kV=.none:=Dflts.noKw hD
 obtain⟨a,vs,ns,rfl,rfl,DD,hints,hlen⟩:=wY hn Bc yq
 refine enter_call (codeAny_mono (call w s₀ s₁ mg mb fa o pm cd doc a vs ns G Y ho (fd_plain hd) rG Gy DD hints hlen hg) λr s' hq=>?_)
 obtain⟨rfl,h2,h3,h4⟩:=hq
 exact⟨.inl ⟨.bool true,.bool true,[],rfl,λ_=>rfl,.bool true,w5 l _,λ_=>⟨List.Pairwise.nil,λ_ hm=>(nomatch hm)⟩⟩,h2,h3,h4⟩
section
variable {prog : Program} {w : World} {A : Around} {E : Value -> Shared -> Prop} {s : Shared} {K : Frag}
noncomputable def qq (h:Heap):Heap:={h with objs:=#[]}
theorem mS (h:Heap) (b:Addr):(qq h).get? b=none:=by
 cases e:(qq h).get? b with
 | none=>rfl
 | some o=>exact absurd (Heap.lt_size e) (aa8 _)
noncomputable def ledger (h:Heap) (L d:Addr):List (Addr×Obj):=(List.range h.objs.size).filterMap λa=>if a=L\/a=d then none else (h.get? a).map λo=>(a,o)
set_option tactic.hygienic true in
theorem fE {h:Heap} {L d a:Addr} {o:Obj}:(a,o)∈ledger h L d↔a≠L/\a≠d/\h.get? a=some o:=by
 unfold ledger
 rw[List.mem_filterMap]
 constructor
 ·rintro⟨b,_,e⟩
  split at e
  ·cases e
  ·rename_i hb
   obtain⟨o',ho,e'⟩:=Option.map_eq_some_iff.mp e
   cases e'
   exact⟨λq=>hb (.inl q),λq=>hb (.inr q),ho⟩
 ·rintro⟨n1,n2,ho⟩
  refine⟨a,List.mem_range.mpr (Heap.lt_size ho),?_⟩
  rw[if_neg (show ¬(a=L\/a=d) from λq=>q.elim n1 n2),ho] <;>rfl
theorem DE {h:Heap} {L:Addr} {m:Str->Option Value} (n:h.Ns L m):Fr (qq h) L h m:=
 ⟨n,λb o e=>(by rw[mS] at e;cases e),aar _⟩
end
end AF
namespace L2
open PySem PySem.Spec PyProof.Rows
theorem pH:∀{vs:List Value} {ns:List Int},IntsAre vs ns->aY (ns.map V.int) vs
 | _,_,.nil=>.nil
 | _,_,.cons n t h=>.cons ⟨t,rfl⟩ (pH h)
end L2
namespace L2
open PySem PySem.Spec PyProof.Rows
abbrev ZK {K:PySem.W.Frag} {h:Heap} (_:K.In h):PySem.W.Frag:=K
end L2
namespace L2
open PySem PySem.Spec PyProof.Rows
noncomputable def inClass (s:Stmt) (j:Nat):Stmt:=match s with
 | .ClassDef _ _ _ body _ _ _ _ _ _ _=>body.getD j (.Pass ⟨0,0,0,0⟩)
 | _=>.Pass ⟨0,0,0,0⟩
noncomputable def aF (s:Stmt):Arguments:=match s with
 | .FunctionDef _ a _ _ _ _ _ _ _ _=>a
 | _=>{posonlyargs:=[],args:=[],vararg:=none,kwonlyargs:=[],kw_defaults:=[],kwarg:=none,defaults:=[]}
noncomputable def aE (s:Stmt):List Stmt:=match s with
 | .FunctionDef _ _ b _ _ _ _ _ _ _=>b
 | _=>[]
noncomputable def ab (s:Stmt):Scope:=match s with
 | .FunctionDef _ _ _ _ _ _ sc _ _ _=>sc
 | _=>{kind:=.function,names:=[],isGenerator:=false,isCoroutine:=false}
abbrev ZL:iG:=λ_ _ _ _ _ _=>False
abbrev E0:XK:=λ_ _ _=>False
structure tY (K:PySem.W.Frag) (x qual:Str) (st:Stmt) (f:Addr) (fd:FuncData):Prop where
 ex:∃(oc:Value) (od:Option Addr) (kV doc pm:Value) (an:Option Addr) (cn ct:Value) (xK:Array (Option Value)),
  fd=PySem.W.fnOf x qual (aF st) (aE st) (ab st) .none kV doc pm an cn ct/\K.lookup f=some ⟨oc,od,.func fd,xK⟩/\PySem.W.codeIn K cn qual=true
 kp:PySem.W.keepIn K (.ref f)=true
section
variable {P : Program} {w : World} {K : PySem.W.Frag} {mg : Str -> Option Value} {base : Heap}
theorem tY.binds {x qual:Str} {st:Stmt} {f:Addr} {fd:FuncData} {ps:List Str} (F:tY K x qual st f fd)
  (h:∀(kV doc pm:Value) (an:Option Addr) (cn ct:Value) (us:List Value),us.length=ps.length->bindArgs (PySem.W.fnOf x qual (aF st) (aE st) (ab st) .none kV doc pm an cn ct) ⟨us,[]⟩=pure (ps.zip us)):Binds K fd ps []:=by
 obtain⟨oc,od,kV,doc,pm,an,cn,ct,xK,rfl,lk,rG⟩:=F.ex
 exact .all (h kV doc pm an cn ct)
theorem aT {x qual:Str} {st:Stmt} {f:Addr} {oc:Value} {od an:Option Addr} {xK:Array (Option Value)} {kV doc pm cn ct:Value} (l:K.lookup f=some ⟨oc,od,.func (PySem.W.fnOf x qual (aF st) (aE st) (ab st) .none kV doc pm an cn ct),xK⟩)
  (c:PySem.W.codeIn K cn qual=true) (k:PySem.W.keepIn K (.ref f)=true):tY K x qual st f (PySem.W.fnOf x qual (aF st) (aE st) (ab st) .none kV doc pm an cn ct):=⟨⟨oc,od,kV,doc,pm,an,cn,ct,xK,rfl,l,c⟩,k⟩
end
theorem pI {A:Around} {k:Nat} (hr:cN k A):A.units+1<cLine:=Nat.lt_of_le_of_lt (Nat.add_le_add_left (by decide:1<=64) _) hr.units
section
variable {X : Cx}
theorem pv (i:Nat) {x:Str} {pos:Pos} (hN:X.N[i]?=some x:=by rfl) (hv:Kl X.env.scope x:=by first | exact Or.inl rfl | exact Or.inr (Or.inl rfl) | exact Or.inr (Or.inr rfl)) (hd:(x==("__debug__":Str))=false:=by decide)
  (rG:(x==("__classdict__":Str))=false:=by decide):PE X (.Name x pos) (tVar i):=Dd hN hv hd rG
end
theorem Gz {A B:Prop} (h:A):if true=true then A else B:=by
 rw[if_pos rfl]
 exact h
theorem oR {c A B:Prop} [Decidable c] (h1:c->A) (h2:¬c->B):if c then A else B:=by
 by_cases h:c
 ·rw[if_pos h]
  exact h1 h
 ·rw[if_neg h]
  exact h2 h
noncomputable def aq (H H':Hp):Prop:=∀b o,H b=some o->H' b=some o
theorem aq.refl (H:Hp):aq H H:=λ_ _ h=>h
theorem aq.trans {H H1 H2:Hp} (a:aq H H1) (b:aq H1 H2):aq H H2:=λc o h=>b c o (a c o h)
theorem aq.seq {K:PySem.W.Frag} {H H':Hp} {a:Addr} {xs:List V} (e:aq H H') (h:aV K H a xs):aV K H' a xs:=by
 rcases h with (h | ⟨o,h⟩) | h
 ·exact .inl (.inl (e _ _ h))
 ·exact .inl (.inr ⟨o,e _ _ h⟩)
 ·exact .inr h
end L2
namespace L2
open PySem PySem.Spec PyProof.Rows
section
variable {X : Cx}
end
section
variable {κ : Type} [DecidableEq κ]
end
end L2
namespace L2
open PySem PySem.Spec PyProof.Rows
noncomputable def Bt (n:Nat) (i:Int):Prop:=i.natAbs<2^n
theorem Bt.mono {m n:Nat} {i:Int} (h:Bt m i) (q:m<=n):Bt n i:=aan h (Nat.pow_le_pow_right (by decide) q)
theorem Bt.bits {n:Nat} {i:Int} (h:Bt n i):Builtin.Int.intBits i<=n:=PyProof.Rows.intBits_le h
theorem Bt.mul {m n:Nat} {i j:Int} (h1:Bt m i) (h2:Bt n j):Bt (m+n) (i*j):=by
 unfold Bt at *
 rw[Int.natAbs_mul,Nat.pow_add]
 exact Nat.mul_lt_mul_of_lt_of_lt h1 h2
theorem Bt.add {n:Nat} {i j:Int} (h1:Bt n i) (h2:Bt n j):Bt (n+1) (i+j):=by
 unfold Bt at *
 rw[Nat.pow_succ]
 generalize 2^n=p at *
 omega
theorem Bt.le {n:Nat} {i j:Int} (h:Bt n j) (q:i.natAbs<=j.natAbs):Bt n i:=Nat.lt_of_le_of_lt q h
theorem Bt.of {n:Nat} {i:Int} (b:Nat) (h1:-(b:Int)<=i) (h2:i<=(b:Int)) (h:b<2^n:=by decide +kernel):Bt n i:=by
 unfold Bt
 exact Nat.lt_of_le_of_lt (by omega) h
theorem Bt.log {n:Nat} {i:Int} (h:Bt n i) (q:n<=9000:=by decide):i.natAbs.log2<9000:=by
 by_cases z:i.natAbs=0
 ·rw[z];decide
 ·exact aan ((Nat.log2_lt z).mpr h) q
theorem Bt.cV {m n:Nat} {i j:Int} (h1:Bt m i) (h2:Bt n j) (q:m+n<=134217728:=by decide):IntMulOk i j:=mulOk_of_bits h1.bits h2.bits q
theorem gH {i j:Int} (h1:-(2^64)<i:=by decide) (h2:i<2^64:=by decide):IntMulOk i j:=.of_left (intBits_le_64 h1 h2)
theorem qr {i j:Int} (h1:-(2^64)<j:=by decide) (h2:j<2^64:=by decide):IntMulOk i j:=.of_right (intBits_le_64 h1 h2)
section
variable {X : Cx}
theorem aX:kc X (binaryOp .Mult) (rI IntMulOk λi j=>.int (i*j)):=Ge λ_ _ _ _ _ _ _ hc q=>mul_int q hc
noncomputable def eU (_ j:Int):Prop:=0<j/\j.natAbs.log2<9000
theorem eU.of {i j:Int} {n:Nat} (h:0<j) (b:Bt n j) (q:n<=9000:=by decide):eU i j:=⟨h,b.log q⟩
theorem eU.lit {i j:Int} (h:0<j:=by decide) (q:j.natAbs.log2<9000:=by decide):eU i j:=⟨h,q⟩
theorem dt:kc X (binaryOp .FloorDiv) (rI eU λi j=>.int (i / j)):=Ge λi j _ _ _ _ _ hc q=>by
 have h1:(0:Int)<j:=hc.1
 exact floordiv_int (by omega) (by rw[Int.fdiv_eq_ediv_of_nonneg i (by omega)];exact q) (.inl (PyProof.noPylong_of_log2 hc.2))
noncomputable def GA (_ j:Int):Prop:=j≠0/\j.natAbs.log2<9000
theorem yr:kc X (binaryOp .FloorDiv) (rI GA λi j=>.int (i.fdiv j)):=Ge λ_ _ _ _ _ _ _ hc q=>floordiv_int hc.1 q (.inl (PyProof.noPylong_of_log2 hc.2))
theorem cO:kc X (binaryOp .Mod) (rI (λ_ j=>0<j) λi j=>.int (i % j)):=Dq
noncomputable def rIxTH:R2:=λx y H Q=>∃p xs i v,x=.ref p/\y=.int i/\H p=some (.tup xs)/\eA xs i=some v/\Q v H
theorem aA:Ct X rIxTH:=λvalue slice pins s σ H x y v u Q I rx ry ⟨p,xs,i,z,e1,e2,e3,e4,q⟩ hs=>
 Dt value slice pins s σ H x y v u Q I rx ry ⟨p,xs,i,z,e1,e2,dR.of e3,e4,q⟩ hs
noncomputable def rIxLH:R2:=λx y H Q=>∃p xs i v,x=.ref p/\y=.int i/\H p=some (.lst xs)/\eA xs i=some v/\Q v H
theorem aB:Ct X rIxLH:=λvalue slice pins s σ H x y v u Q I rx ry ⟨p,xs,i,z,e1,e2,e3,e4,q⟩ hs=>
 vq value slice pins s σ H x y v u Q I rx ry ⟨p,xs,i,z,e1,e2,aV.of e3,e4,q⟩ hs
noncomputable def tTupS (t:TA):TE:=λσ H Q=>t σ H λxs H1=>xs.length<=sizeLine/\∀p H2,aq H1 H2->H1 p=none->H2 p=some (.tup xs)->Q (.ref p) H2
theorem ao {H:Hp} {p:Addr} {o:HO} (h:H p=none):aq H (upd H p o):=λb u e=>by
 rw[au (bh e h)]
 exact e
theorem bT {es:List Expr} {t:TA} {x1} {pos:Pos} (h:PA X es t):PE X (.Tuple es x1 pos) (tTupS t):=λpins s σ H Q I hq=>
 bY (h:=wpAny_Tuple_spliced (bY (h pos pins s σ H _ I hq) λus s1 ⟨xs,H1,I1,r,z,q⟩=>⟨by rw[<-r.length];exact z,by
  have hf:H1 s1.heap.objs.size=none:=I1.bI.fresh (aae _)
  refine⟨.ref s1.heap.objs.size,upd H1 s1.heap.objs.size (.tup xs),I1.laid (t':=s1.toks) (λb u e=>Heap.get?_push_of_some _ e) (aae _) ?_,rfl,q _ _ (ao hf) hf ah⟩
  exact⟨z,us,r,⟨_,Heap.get?_push_size _ rfl,rfl,_,rfl⟩⟩⟩)) λ_ _ z=>z
theorem pJ:cv X (.builtin "len") (λxs H Q=>∃p ys,xs=[.ref p]/\H p=some (.tup ys)/\Q (.int ys.length) H):=λpins s σ H xs us Q I r ⟨p,ys,e,h,q⟩=>
 fC pins s σ H xs us Q I r ⟨p,ys,e,.inr (dR.of h),q⟩
theorem bC:cv X (.builtin "len") (λxs H Q=>∃p ys,xs=[.ref p]/\H p=some (.lst ys)/\Q (.int ys.length) H):=λpins s σ H xs us Q I r ⟨p,ys,e,h,q⟩=>
 fC pins s σ H xs us Q I r ⟨p,ys,e,.inl (aV.of h),q⟩
theorem w6:cv X (.builtin "len") (λxs H Q=>∃p ns,xs=[.ref p]/\aV X.K H p (List.map V.int ns)/\Q (.int (List.length ns:Nat)) H):=λpins s σ H xs us Q I r ⟨p,ns,e,h,q⟩=>
 fC pins s σ H xs us Q I r ⟨p,_,e,.inl h,by rw[aab];exact q⟩
noncomputable def DF (K:PySem.W.Frag):R2:=λx y H Q=>∃p ns i,x=.ref p/\y=.int i/\aV K H p (List.map V.int ns)/\0<=i/\i< (List.length ns:Nat)/\Q (.int (ns.getD i.toNat 0)) H
theorem du {ns:List Int} {i:Int} (h0:0<=i) (h1:i< (ns.length:Nat)):eA (ns.map V.int) i=some (.int (ns.getD i.toNat 0)):=by
 obtain⟨j,rfl⟩:=aa0 h0
 refine bA ?_
 have hj:j<ns.length:=by omega
 rw[aaf,aac hj]
 simp [aai,aac hj]
theorem yt:Ct X (DF X.K):=λvalue slice pins s σ H x y v u Q I rx ry ⟨p,ns,i,e1,e2,e3,h0,h1,q⟩ hs=>
 vq value slice pins s σ H x y v u Q I rx ry ⟨p,_,i,_,e1,e2,e3,du h0 h1,q⟩ hs
structure bO (P:Program) (w:World) (K:PySem.W.Frag) (mg:Str->Option Value) (base:Heap) (CX:iG) (k:Nat) (x:Str) (ps:List Str) (sp:Sp):Prop where
 ex:∃f fd,dU P w K mg base CX k f fd ps sp/\mg x=some (.ref f)/\PySem.W.keepIn K (.ref f)=true/\Binds K fd ps []
theorem aJ {CX:iG} {k:Nat} {x:Str} {ps:List Str} {sp:Sp} {E:XK} {e:Expr} {es:List Expr} {t:TA} {p pos:Pos} (C:bO X.prog X.w X.K X.mg X.base CX k x ps sp) (hr:cN k X.A) (hg:Gl X x) (hx:d4 CX X E) (ha:PA X (e::es) t)
  (yf:(x==("__debug__":Str))=false:=by decide) (he:starEach (e::es) X.env=(false,eval e X.env)::starEach es X.env:=by rfl) (hpl:(backTo pos (starEach es X.env)).any (·.1)=false:=by rfl):
  PE X (.Call (.Name x p) (e::es) [] pos) (tCall sp [] E t):=by
 obtain⟨f,fd,F,hm,hk,hb⟩:=C.ex
 exact A0 F hr hg hm hk hb .nil hx ha yf he hpl
end
noncomputable def qt (CX:iG):Prop:=∀outer H s e s',¬CX outer H s (λ_ _ _=>False) e s'
theorem qt.pass {CX:iG} (h:qt CX) {X:Cx}:d4 CX X E0:=λ_ _ H s e s' _ z=>(h _ H s e s' z).elim
section
variable {P : Program} {w : World} {K : PySem.W.Frag} {mg : Str -> Option Value} {base : Heap} {CX : iG}
theorem tY.d5 {x qual:Str} {st:Stmt} {f:Addr} {fd:FuncData} {N ps:List Str} {k:Nat} {sp:Sp} (F:tY K x qual st f fd) (S:aH N ps (ab st)) (len:∀vs H Q E,sp vs H Q E->vs.length=ps.length)
  (rQ:∀(cn:Value) (A:Around) (outer:List Env) (s:Shared) (H:Hp) (vs:List V) (Q:VK) (E:XK),cN k (A.deeper (envOfC qual (ab st) s.heap.objs.size f cn))->sp vs H Q E->
   ∃t,ua (uy CX P w K mg base N qual (ab st) f cn A outer s H E).Fx (aE st) t/\t {nx:=λ_ H'=>Q .cc H',rt:=Q} (start N vs) H):dU P w K mg base CX (k+1) f fd ps sp:=by
 obtain⟨oc,od,kV,doc,pm,an,cn,ct,xK,rfl,lk,rG⟩:=F.ex
 refine Cs lk rG S len λA outer s H vs Q E hr AE=>?_
 obtain⟨t,h,q⟩:=rQ cn A outer s H vs Q E hr AE
 exact⟨t,h.Fx,q⟩
structure Dn (K:PySem.W.Frag) (mg:Str->Option Value) (x:Str) (st:Stmt):Prop where
 ex:∃f fd,tY K x x st f fd/\mg x=some (.ref f)
theorem Dn.dX {x:Str} {st:Stmt} {ps:List Str} {k:Nat} {sp:Sp} (D:Dn K mg x st)
  (hb:∀(kV doc pm:Value) (an:Option Addr) (cn ct:Value) (us:List Value),us.length=ps.length->bindArgs (PySem.W.fnOf x x (aF st) (aE st) (ab st) .none kV doc pm an cn ct) ⟨us,[]⟩=pure (ps.zip us))
  (h:∀f fd,tY K x x st f fd->dU P w K mg base CX k f fd ps sp):bO P w K mg base CX k x ps sp:=by
 obtain⟨f,fd,F,hm⟩:=D.ex
 exact⟨f,fd,h f fd F,hm,F.kp,F.binds hb⟩
end
section
variable {X : Cx}
noncomputable def GB (xs ys:List V):Bool:=(List.range (min xs.length ys.length)).all (λj=>Dv (xs.getD j .cc) (ys.getD j .cc)) && xs.length==ys.length
theorem lU {xs:List V} (h:xs.all il=true) {j:Nat} (hj:j<xs.length):il (xs.getD j .cc)=true:=by
 rw[aai,aac hj]
 exact List.all_eq_true.mp h _ (aav hj)
theorem qu {xs:List V} {us:List Value} (r:aY xs us) {j:Nat} (hj:j<us.length):RelV (xs.getD j .cc) us[j]:=by
 have hl:=r.length
 have hx:j<xs.length:=by omega
 obtain⟨u,e1,e2⟩:=r.get (aac hx)
 rw[aac hj] at e1
 cases e1
 rw[aai,aac hx]
 exact e2
noncomputable def rEqT:R2:=λx y H Q=>∃p q xs ys,x=.ref p/\y=.ref q/\H p=some (.tup xs)/\H q=some (.tup ys)/\xs.all il=true/\ys.all il=true/\Q (.bl (GB xs ys)) H
theorem xc (hu:X.A.units<cLine):kc X (compareOp .Eq) rEqT:=by
 intro pins s σ H x y v u Q I rx ry h
 obtain⟨p,q,xs,ys,rfl,rfl,hp,hq,fx,fy,k⟩:=h
 cases rx
 cases ry
 obtain⟨aP,r,pl,hz⟩:=I.tuple (dR.of hp)
 obtain⟨kM,r2,JB,UZ⟩:=I.tuple (dR.of hq)
 have l1:=r.length
 have l2:=r2.length
 refine SeqAt.eq_tupleAt (e:=λj=>Dv (xs.getD j .cc) (ys.getD j .cc)) pl JB hu (λj h1 h2=>?_) ⟨.bl _,H,I,rfl,?_⟩
 ·rw[aah] at h1 h2
  exact yj (qu r h1) (qu r2 h2) (lU fx (by omega)) (lU fy (by omega))
 ·rw[aah,aah,<-l1,<-l2]
  exact k
noncomputable def rInT:R2:=λx y H Q=>∃p xs,y=.ref p/\H p=some (.tup xs)/\il x=true/\xs.all il=true/\Q (.bl (UW x xs)) H
theorem yu:cv X (.builtin "isinstance") (λxs H Q=>∃x c t b,xs=[x,.ty c]/\eP X.K H x t/\PySem.W.kitOne X.K t (.type c)=some b/\Q (.bl b) H):=by
 intro pins s σ H xs us Q I r h
 obtain⟨x,c,t,b,rfl,ty,e,q⟩:=h
 obtain⟨u,u',rfl,rx,rc⟩:=vals2 r
 cases rc
 exact wQ I rx ty e λtk=>⟨.bl b,H,I.tok tk,rfl,q⟩
end
theorem at0 {α:Type} {x:α} {l:List α}:eA (x::l) 0=some x:=bA (j:=0) rfl
theorem at1 {α:Type} {x y:α} {l:List α}:eA (x::y::l) 1=some y:=bA (j:=1) rfl
theorem at2 {α:Type} {x y z:α} {l:List α}:eA (x::y::z::l) 2=some z:=bA (j:=2) rfl
noncomputable def Pr (a b:Int):List V:=[.int a,.int b]
theorem DG {K:PySem.W.Frag}:PySem.W.kitOne K (.type "int") (.type "int")=some true:=by unfold PySem.W.kitOne;rw[if_pos (by decide +kernel)]
theorem yv {K:PySem.W.Frag}:PySem.W.kitOne K (.type "tuple") (.type "tuple")=some true:=by unfold PySem.W.kitOne;rw[if_pos (by decide +kernel)]
theorem yw {K:PySem.W.Frag}:PySem.W.kitOne K (.type "list") (.type "list")=some true:=by unfold PySem.W.kitOne;rw[if_pos (by decide +kernel)]
theorem Be {K:PySem.W.Frag} {t c:String} {b:Bool} (h1:(Value.type t==Value.type c)=false:=by decide +kernel) (h2:PySem.W.kitMeta c=true:=by decide +kernel) (h3:(PySem.fastBuiltinMro t).map (·.contains (Value.type c))=some b:=by decide +kernel):
  PySem.W.kitOne K (.type t) (.type c)=some b:=by
 unfold PySem.W.kitOne PySem.W.kitCls PySem.W.subIn
 rw[if_neg (by rw[h1];decide)]
 dsimp only
 rw[if_pos h2]
 exact h3
theorem DH {K:PySem.W.Frag}:PySem.W.kitOne K (.type "int") (.type "bool")=some false:=Be
theorem yy (a b c d:Int):GB [.int a,.int b] [.int c,.int d]=(a==c && b==d):=by
 show(([0,1]:List Nat).all (λj=>Dv (([.int a,.int b]:List V).getD j .cc) (([.int c,.int d]:List V).getD j .cc)) && true)=_
 simp [Dv]
theorem yz (a b:Int):GB [.int a,.int b] [.int a,.int b]=true:=by
 rw[yy]
 simp
end L2
namespace Nm
noncomputable def g (a b:Int):Int:=(Int.gcd a b:Nat)
theorem DI (a b:Int):0<=g a b:=Int.natCast_nonneg _
theorem mT {a b:Int} (h:b≠0):0<g a b:=by
 have:=Int.gcd_pos_of_ne_zero_right a h
 unfold g
 omega
theorem jf (a b:Int):g a b∣a:=Int.gcd_dvd_left ..
theorem eB (a b:Int):g a b∣b:=Int.gcd_dvd_right ..
theorem qv (a b:Int):g a b=g b a:=by unfold g;rw[Int.gcd_comm]
theorem DJ {a b:Int} (h:0<b):g a b<=b:=aa1 h (eB a b)
theorem yA (a b:Int):g (a.natAbs:Int) b=g a b:=by
 unfold g Int.gcd
 rw[Int.natAbs_natCast]
theorem vv (a b:Int):g a (b.natAbs:Int)=g a b:=by
 rw[qv,yA,qv]
theorem Cw (a b:Int):g (-a) b=g a b:=by
 unfold g Int.gcd
 rw[Int.natAbs_neg]
theorem yB {a b:Int} (ha:0<=a) (ZM:0<b):g b (a % b)=g a b:=by
 unfold g Int.gcd
 rw[Int.natAbs_emod_of_nonneg ha,Nat.gcd_comm b.natAbs,<-Nat.gcd_rec,Nat.gcd_comm]
theorem yC {a:Int} (ha:0<=a):g a 0=a:=by
 unfold g
 rw[Int.gcd_zero_right]
 omega
theorem yD {a b:Int} (h:b≠0):g a b<=(b.natAbs:Int):=by
 rw[<-vv]
 exact DJ (by omega)
theorem Bg {a b:Int} (h:b≠0):g (a / g a b) (b / g a b)=1:=by
 have p:0<Int.gcd a b:=Int.gcd_pos_of_ne_zero_right a h
 unfold g
 rw[Int.gcd_ediv_gcd_ediv_gcd p]
 rfl
theorem Bh {a b:Int} (h:0<b):0<b / g a b:=Int.ediv_pos_of_pos_of_dvd h (DI a b) (eB a b)
theorem xf (a b:Int):(a / g a b)*b=a* (b / g a b):=by
 rw[<-Int.mul_ediv_assoc _ (eB a b),aaS a b,Int.mul_ediv_assoc _ (jf a b),aaS]
theorem lV {q a b:Int} (h:q∣a*b) (c:Int.gcd a q=1):q∣b:=by
 have h1:=(Int.dvd_gcd_mul_iff_dvd_mul (k:=q) (n:=a) (m:=b)).mpr h
 rw[Int.gcd_comm,c] at h1
 simpa using h1
theorem Bi {p q p' q':Int} (h:0<q) (h':0<q') (e:g p q=1) (e':g p' q'=1) (c:p*q'=p'*q):p=p'/\q=q':=by
 have c1:Int.gcd p q=1:=by unfold g at e;omega
 have c2:Int.gcd p' q'=1:=by unfold g at e';omega
 have d1:q∣q':=by
  have:q∣p*q':=⟨p',by rw[c,aaS]⟩
  exact lV this c1
 have d2:q'∣q:=by
  have:q'∣p'*q:=⟨p,by rw[<-c,aaS]⟩
  exact lV this c2
 have eq:q=q':=by
  have:=aa1 h' d1
  have:=aa1 h d2
  omega
 subst eq
 exact⟨Int.eq_of_mul_eq_mul_right (by omega) c,rfl⟩
theorem dz {a g:Int} (_h:0<g) (d:g∣a):(a / g).natAbs<=a.natAbs:=by
 rw[Int.natAbs_ediv_of_dvd d]
 exact Nat.div_le_self _ _
theorem back {a b c d p q x y:Int} (hq:0<q) (hd:0<d) (e:p* (b*d)=(a*d - c*b)*q) (f:x* (q*d)=(p*d+c*q)*y):x*b=a*y:=by
 have h:(x*b)* (q*d)=(a*y)* (q*d):=by grind
 exact Int.eq_of_mul_eq_mul_right (by have:=aaC hq hd;omega) h
end Nm
namespace L2
open PySem PySem.Spec PyProof.Rows PySem.W
theorem bW.get {P:Program} {w:World} {H:Hp} {h:Heap} {a:Addr}:∀{o:HO},bW P w H h a o->∃ob,h.get? a=some ob
 | .lst _,x=>let ⟨_,_,_,_,e⟩:=x;⟨_,e⟩
 | .tup _,x=>let ⟨_,_,_,o,e,_⟩:=x;⟨o,e⟩
 | .dK _,x=>let ⟨_,_,_,_,o,_,_,e,_⟩:=x;⟨o,e⟩
 | .dT _,x=>let ⟨_,_,_,_,o,_,_,e,_⟩:=x;⟨o,e⟩
 | .set _ _,x=>by
  obtain⟨o,es,ep,t,e,_⟩:=x
  exact⟨o,e⟩
 | .ins _ _ _,x=>let ⟨_,_,_,e,_⟩:=x;⟨_,e⟩
 | .own _,x=>x
 | .xd _,x=>by
  obtain⟨mA,⟨o,es,ep,e,_⟩,_⟩:=x
  exact⟨o,e⟩
 | .jH _ _,x=>let ⟨_,_,_,e⟩:=x;⟨_,e⟩
 | .qX _ _,x=>⟨_,x.1⟩
 | .qY _,⟨_,x,_⟩=>⟨_,x⟩
 | .met _ _,x=>⟨_,x⟩
 | .ext _,x=>x.2.1
structure U0 (P:Program) (w:World) (l:List Env) (H:Hp) (s:Shared) (H':Hp) (ad:Addr) (cls:Value) (s':Shared):Prop where
 os:s'.os=s.os
 bare:AllBare s'.gens
 un:Un (rC l) [] H H' s.heap s'.heap
 bI:gp P w H' s'.heap
 fl:∃B a0,Heap.FlyingW B l ad cls a0 s'.heap/\(∀b o,s.heap.get? b=some o->H b=none->b∉rC l->B.get? b=some o)/\(∀b o,s.heap.get? b=some o->b∉rC l->∃o',B.get? b=some o')/\
  (∀b u o,H' b=some u->s'.heap.get? b=some o->B.get? b=some o)
noncomputable def bK (P:Program) (w:World):iG:=λl H s E e s'=>∃ad cls H',e=.ref ad/\U0 P w l H s H' ad cls s'/\E cls none H'
theorem vx (P:Program) (w:World):qt (bK P w):=λ_ _ _ _ _ ⟨_,_,_,_,_,h⟩=>h
section
variable {P : Program} {w : World} {K : PySem.W.Frag} {mg : Str -> Option Value} {base : Heap} {N : List Str} {qual : Str} {scope : Scope} {f : Addr} {cn : Value} {A : Around} {outer : List Env} {s0 : Shared} {H0 : Hp} {E : XK}
end
end L2
namespace L2
open PySem PySem.Spec PyProof.Rows PySem.W
abbrev U1:List Value:=[.type "ValueError",.type "Exception",.type "BaseException",.type "object"]
abbrev SH:String:="ValueError.__new__"
noncomputable def tRaise (C:Addr) (E:XK) (t:TA):TS:=λ_ σ H=>t σ H λvs H1=>vs.length<=sizeLine/\E (.ref C) none H1
section
variable {P : Program} {w : World} {K : PySem.W.Frag} {mg : Str -> Option Value} {base : Heap} {N : List Str} {qual : Str} {scope : Scope} {f : Addr} {cn : Value} {A : Around} {outer : List Env} {s0 : Shared} {H0 : Hp} {E : XK}
end
section
variable {X : Cx} {pins : List (Addr × Obj)} {σ : St} {H H' : Hp} {s s' : Shared}
abbrev Cx.mark (X:Cx) (ad:Addr):Cx:={X with A:=X.A.mark (some (.ref ad)),calm:=false,xe:=λ_ _=>False}
end
section
variable {X : Cx} {CX : iG} {k : Nat} {x : Str} {ps : List Str} {sp : Sp} {E : XK} {e : Expr} {es : List Expr} {t : TA} {p pos : Pos}
variable {cx n : Str} {np yE yF gu : Pos} {b₀ : Stmt} {rY : List Stmt} {i : Nat} {ts : TS} {C2 : Addr}
end
end L2
namespace Nm
noncomputable def st (a b:Int):Int:=if b<0 then -(a / g a b) else a / g a b
noncomputable def sb (a b:Int):Int:=if b<0 then -(b / g a b) else b / g a b
set_option tactic.hygienic true in
theorem DK {a b:Int} (h:b≠0):0<sb a b:=by
 have g0:=mT (a:=a) h
 unfold sb
 split
 ·rename_i hb
  have h1:0< (-b) / g a b:=Int.ediv_pos_of_pos_of_dvd (by omega) (DI a b) (Int.dvd_neg.mpr (eB a b))
  rw[Int.neg_ediv_of_dvd (eB a b)] at h1
  exact h1
 ·exact Bh (by omega)
theorem Bj (a b:Int):g a (-b)=g a b:=by rw[qv,Cw,qv]
theorem DL {a b:Int} (h:b≠0):g (st a b) (sb a b)=1:=by
 have e:=Bg (a:=a) h
 unfold st sb
 split
 ·rw[Cw,Bj];exact e
 ·exact e
theorem mU (a b:Int):st a b*b=a*sb a b:=by
 have e:=xf a b
 unfold st sb
 split
 ·rw[Int.neg_mul,e,Int.mul_neg]
 ·exact e
theorem iI {a b:Int} (h:0<b):st a b=a / g a b/\sb a b=b / g a b:=by
 unfold st sb
 rw[if_neg (by omega),if_neg (by omega)]
 exact⟨rfl,rfl⟩
end Nm
namespace L2
open PySem PySem.Spec PyProof.Rows
section
variable {P : Program} {w : World} {K : PySem.W.Frag} {mg : Str -> Option Value} {base : Heap} {CX : iG}
end
noncomputable def noStar:Expr->Bool
 | .Starred _ _=>false
 | _=>true
theorem se {e:Expr} {es:List Expr} {env:Env} (h:noStar e=true):starEach (e::es) env=(false,eval e env)::starEach es env:=by
 cases e <;>first | rfl | exact absurd h aaq
theorem na {env:Env} {pos:Pos}:∀{es:List Expr},es.all noStar=true->(backTo pos (starEach es env)).any (·.1)=false
 | [],_=>rfl
 | e::es,h=>by
  rw[List.all_cons,aaN] at h
  rw[se h.1]
  show(false || (backTo pos (starEach es env)).any (·.1))=false
  rw[na h.2]
  rfl
end L2
namespace L2
open PySem PySem.Spec PyProof.Rows PySem.W
structure KI (K:PySem.W.Frag) (C:Addr):Prop where
 cls:(clsIn K C).isSome=true
 ga:findIn K (.ref C) "__getattribute__"=some (some (.builtin "BaseException.__getattribute__"))
 gt:findIn K (.ref C) "__getattr__"=some none
 cl:findIn K (.ref C) "__class__"=some (some (.builtin "object.__class__"))
 be:mroIn K C (.type "BaseException")=some true
 ob:mroIn K C (.type "object")=some true
section
variable {prog : Program} {w : World} {A : Around} {E : Value -> Shared -> Prop} {K : PySem.W.Frag} {h : Heap} {g : Array GenState} {d : Drawn} {t : Nat} {os : OsState} {a C : Addr} {o : Obj}
end
section
variable {X : Cx}
end
end L2
namespace L2
open PySem PySem.Spec PyProof.Rows
theorem iJ {env:Env}:∀(names:List (Str×NameKind)) (cs:List (Str×Addr)),(∀n,(n,NameKind.free)∈names->∃c,env.cells.lookup n=some c)->(∀x c,cs.lookup x=some c->env.cells.lookup x=some c)->
  ∃cl,(forIn names cs fun(x:Str×NameKind) (r:List (Str×Addr))=>(if (x.2==NameKind.free)=true then do let c <-cellOf env x.1;pure (ForInStep.yield ((x.1,c)::r)) else pure (ForInStep.yield r):Sem (ForInStep (List (Str×Addr)))))=pure cl/\
   (∀x c,cl.lookup x=some c->env.cells.lookup x=some c)/\(∀n,((n,NameKind.free)∈names\/(cs.lookup n).isSome=true)->∃c,cl.lookup n=some c)/\(∀x c,(x,c)∈cl->(env.cells.lookup x=some c/\(x,NameKind.free)∈names)\/(x,c)∈cs)
 | [],cs,_,h=>⟨cs,rfl,h,(λn hn=>by
   rcases hn with hn | hn
   ·exact absurd hn (by simp)
   ·exact Option.isSome_iff_exists.mp hn),λx c m=>.inr m⟩
 | (n,k)::r,cs,hf,h=>by
  by_cases hk:k=.free
  ·subst hk
   obtain⟨c,hc⟩:=hf n aal
   obtain⟨cl,e,h1,h2,h3⟩:=iJ r ((n,c)::cs) (λm hm=>hf m (aak _ hm)) (λx c' hx=>by
    rw[aaF] at hx
    cases q:x==n with
    | true=>
     rw[q] at hx
     have e1:x=n:=by simpa using q
     cases hx
     rw[e1];exact hc
    | false=>rw[q] at hx;exact h x c' hx)
   refine⟨cl,?_,h1,λm hm=>h2 m ?_,λx c' m=>?_⟩
   rotate_left 2
   ·rcases h3 x c' m with ⟨q1,q2⟩ | m
    ·exact .inl ⟨q1,aak _ q2⟩
    ·rcases List.mem_cons.mp m with e | m
     ·cases e
      exact .inl ⟨hc,aal⟩
     ·exact .inr m
   ·rw[List.forIn_cons]
    have U2:cellOf env n=pure c:=by unfold cellOf;rw[hc]
    simp only[beq_self_eq_true,if_true,U2,pure_bind]
    exact e
   ·rcases hm with hm | hm
    ·rcases List.mem_cons.mp hm with z | z
     ·cases z
      right
      rw[aaF]
      simp
     ·exact .inl z
    ·right
     rw[aaF]
     cases q:m==n with
     | true=>rfl
     | false=>exact hm
  ·obtain⟨cl,e,h1,h2,h3⟩:=iJ r cs (λm hm=>hf m (aak _ hm)) h
   refine⟨cl,?_,h1,λm hm=>h2 m ?_,λx c' m=>(h3 x c' m).imp (λq=>⟨q.1,aak _ q.2⟩) id⟩
   ·rw[List.forIn_cons]
    have:(k==NameKind.free)=false:=by simpa using hk
    simp only[this,aaT,if_false,pure_bind]
    exact e
   ·rcases hm with hm | hm
    ·rcases List.mem_cons.mp hm with z | z
     ·cases z;exact absurd rfl hk
     ·exact .inl z
    ·exact .inr hm
theorem eK {env:Env} {scope:Scope} (hf:∀n,(n,NameKind.free)∈scope.names->∃c,env.cells.lookup n=some c):
  ∃cl,closureFor scope env=pure cl/\(∀x c,cl.lookup x=some c->env.cells.lookup x=some c)/\(∀n,(n,NameKind.free)∈scope.names->∃c,cl.lookup n=some c)/\(∀x c,(x,c)∈cl->env.cells.lookup x=some c/\(x,NameKind.free)∈scope.names):=by
 obtain⟨cl,e,h1,h2,h3⟩:=iJ (env:=env) scope.names [] hf (λx c h=>by simp at h)
 refine⟨cl,?_,h1,λn hn=>h2 n (.inl hn),λx c m=>(h3 x c m).elim id λz=>absurd z (by simp)⟩
 unfold closureFor
 simp only[bind_pure]
 exact e
structure dY (N:List Str) (so:Scope) (N':List Str) (scope:Scope) (k:Nat) (fr:List Nat):Prop where
 kind:scope.kind=.function
 DM:∀y∈scope.names,y.2=.cell->scope.names.lookup y.1=some .cell/\(y.1,NameKind.free)∉scope.names
 locs:∀y∈scope.names,y.2=.local->scope.names.lookup y.1=some .local
 outer:∀y∈scope.names,y.2=.free->(so.names.lookup y.1=some .cell\/so.names.lookup y.1=some .free)
 len:N'.length=k+fr.length
 at_:∀t,t<fr.length->(fr[t]?).bind (λj=>N[j]?)=N'[k+t]?
 KJ:∀x∈N'.drop k,scope.names.lookup x=some .free
noncomputable def stC (k:Nat) (fr:List Nat) (σ:St):St:=List.replicate k none++fr.map λj=>(σ[j]?).join
noncomputable def kP (X:Cx) (N:List Str) (scope:Scope) (cl:List (Str×Addr)) (C:Addr) (s:Shared) (H:Hp) (ex:List Addr):Cx where
 prog:=X.prog
 w:=X.w
 K:=X.K
 mg:=X.mg
 base:=X.base
 A:=X.A
 N:=N
 s₀:=s
 H₀:=H
 env:=compEnvC scope cl C X.env
 outer:=X.stack
 stack:=X.stack
 ex:=ex
 calm:=X.calm
 fn:=λx=>scope.names.lookup x==some .cell
 pn:=[]
 xe:=λ_ _=>False
theorem dN {env:Env}:∀{names:List (Str×NameKind)} {x:Str},names.lookup x=some .free->
  (names.map fun(n,k)=>if (k==NameKind.free && env.scope.kind==.function && env.kindOf n==some .cell) then (n,NameKind.cell) else (n,k)).lookup x=some .cell\/
  (names.map fun(n,k)=>if (k==NameKind.free && env.scope.kind==.function && env.kindOf n==some .cell) then (n,NameKind.cell) else (n,k)).lookup x=some .free
 | [],_,h=>by simp at h
 | (n,k)::r,x,h=>by
  have ih:=@dN env r x
  show List.lookup x ((if (k==NameKind.free && env.scope.kind==.function && env.kindOf n==some .cell)=true then (n,NameKind.cell) else (n,k))::_)=_\/List.lookup x ((if (k==NameKind.free && env.scope.kind==.function && env.kindOf n==some .cell)=true then (n,NameKind.cell) else (n,k))::_)=_
  cases hx:x==n with
  | true=>
   simp only[aaF,hx] at h
   cases h
   by_cases hc:(NameKind.free==NameKind.free && env.scope.kind==.function && env.kindOf n==some .cell)=true
   ·rw[if_pos hc];left;simp [aaF,hx]
   ·rw[if_neg hc];right;simp [aaF,hx]
  | false=>
   simp only[aaF,hx] at h
   by_cases hc:(k==NameKind.free && env.scope.kind==.function && env.kindOf n==some .cell)=true
   ·rw[if_pos hc];simp only[aaF,hx];exact ih h
   ·rw[if_neg hc];simp only[aaF,hx];exact ih h
theorem jg {env:Env}:∀{names:List (Str×NameKind)} {x:Str},
  ((names.map fun(n,k)=>if (k==NameKind.free && env.scope.kind==.function && env.kindOf n==some .cell) then (n,NameKind.cell) else (n,k)).lookup x=some .cell\/
  (names.map fun(n,k)=>if (k==NameKind.free && env.scope.kind==.function && env.kindOf n==some .cell) then (n,NameKind.cell) else (n,k)).lookup x=some .free)->(x,NameKind.free)∈names\/(x,NameKind.cell)∈names
 | [],_,h=>by simp at h
 | (n,k)::r,x,h=>by
  have ih:=@jg env r x
  have up:((x,NameKind.free)∈r\/(x,NameKind.cell)∈r)->((x,NameKind.free)∈(n,k)::r\/(x,NameKind.cell)∈(n,k)::r):=λz=>z.imp (aak _) (aak _)
  have h:List.lookup x ((if (k==NameKind.free && env.scope.kind==.function && env.kindOf n==some .cell)=true then (n,NameKind.cell) else (n,k))::_)=_\/List.lookup x ((if (k==NameKind.free && env.scope.kind==.function && env.kindOf n==some .cell)=true then (n,NameKind.cell) else (n,k))::_)=_:=h
  cases hx:x==n with
  | true=>
   have e1:x=n:=by simpa using hx
   subst e1
   by_cases hc:(k==NameKind.free && env.scope.kind==.function && env.kindOf x==some .cell)=true
   ·have:k=.free:=by
     simp only[aaN] at hc
     simpa using hc.1.1
    subst this
    exact .inl aal
   ·rw[if_neg hc] at h
    simp only[aaF,hx] at h
    rcases h with h | h
    ·cases h;exact .inr aal
    ·cases h;exact .inl aal
  | false=>
   by_cases hc:(k==NameKind.free && env.scope.kind==.function && env.kindOf n==some .cell)=true
   ·rw[if_pos hc] at h;simp only[aaF,hx] at h;exact up (ih h)
   ·rw[if_neg hc] at h;simp only[aaF,hx] at h;exact up (ih h)
theorem jR:∀(names:List (Str×NameKind)) (h:Heap) (acc:List (Str×Addr)) (x:Str) (c:Addr),(x,c)∈cellsFrom h.objs.size names acc->
  (x,c)∈acc\/(h.objs.size<=c/\(pushCells h names).IsCell c none/\(x,NameKind.cell)∈names)
 | [],h,acc,x,c,m=>.inl m
 | (n,k)::r,h,acc,x,c,m=>by
  unfold cellsFrom at m
  unfold pushCells
  by_cases hk:(k==NameKind.cell)=true
  ·rw[if_pos hk] at m ⊢
   have ih:=jR r (h.push {cls:=.type "cell",data:=.cell none}) ((n,h.objs.size)::acc) x c
   rw[Heap.size_push] at ih
   rcases ih m with m | ⟨q1,q2,q3⟩
   ·rcases List.mem_cons.mp m with e | m
    ·cases e
     have hk:k=.cell:=by simpa using hk
     subst hk
     refine .inr ⟨aae _,?_,aal⟩
     have q:(h.push {cls:=.type "cell",data:=.cell none}).IsCell h.objs.size none:=⟨_,Heap.get?_push_size _ rfl,rfl⟩
     exact q.keeps λb o e=>pushCells_keeps r _ b o e
    ·exact .inl m
   ·exact .inr ⟨by omega,q2,aak _ q3⟩
  ·rw[if_neg hk] at m ⊢
   rcases jR r h acc x c m with m | ⟨q1,q2,q3⟩
   ·exact .inl m
   ·exact .inr ⟨q1,q2,aak _ q3⟩
theorem jS:∀(names:List (Str×NameKind)) (n lo:Nat) (acc:List (Str×Addr)),(∀x c,(x,c)∈acc->c<n)->(∀x y c,lo<=c->(x,c)∈acc->(y,c)∈acc->x=y)->
  ∀x y c,lo<=c->(x,c)∈cellsFrom n names acc->(y,c)∈cellsFrom n names acc->x=y
 | [],n,lo,acc,h1,h2,x,y,c,hl,m1,m2=>h2 x y c hl m1 m2
 | (z,k)::r,n,lo,acc,h1,h2,x,y,c,hl,m1,m2=>by
  unfold cellsFrom at m1 m2
  by_cases hk:(k==NameKind.cell)=true
  ·rw[if_pos hk] at m1 m2
   refine jS r (n+1) lo _ (λx c m=>?_) (λx y c hl m1 m2=>?_) x y c hl m1 m2
   ·rcases List.mem_cons.mp m with e | m
    ·cases e;exact aaK _
    ·exact aa9 (h1 x c m)
   ·rcases List.mem_cons.mp m1 with e1 | m1 <;>rcases List.mem_cons.mp m2 with e2 | m2
    ·cases e1;cases e2;rfl
    ·cases e1;exact absurd (h1 _ _ m2) (aaJ _)
    ·cases e2;exact absurd (h1 _ _ m1) (aaJ _)
    ·exact h2 x y c hl m1 m2
  ·rw[if_neg hk] at m1 m2
   exact jS r n lo acc h1 h2 x y c hl m1 m2
theorem fF:∀(names:List (Str×NameKind)) (n:Nat) (acc:List (Str×Addr)) (x:Str),(x,NameKind.cell)∉names->(cellsFrom n names acc).lookup x=acc.lookup x
 | [],n,acc,x,_=>rfl
 | (z,k)::r,n,acc,x,h=>by
  have hr:(x,NameKind.cell)∉r:=λm=>h (aak _ m)
  unfold cellsFrom
  by_cases hk:(k==NameKind.cell)=true
  ·rw[if_pos hk,fF r _ _ x hr,aaF]
   have hk:k=.cell:=by simpa using hk
   subst hk
   have:(x==z)=false:=by
    cases q:x==z with
    | false=>rfl
    | true=>
     have e:x=z:=by simpa using q
     subst e
     exact absurd aal h
   rw[this]
  ·rw[if_neg hk]
   exact fF r n acc x hr
theorem jT:∀(names:List (Str×NameKind)) (n:Nat) (acc:List (Str×Addr)) (x:Str),((x,NameKind.cell)∈names\/(acc.lookup x).isSome=true)->((cellsFrom n names acc).lookup x).isSome=true
 | [],n,acc,x,h=>by
  rcases h with h | h
  ·simp at h
  ·exact h
 | (z,k)::r,n,acc,x,h=>by
  unfold cellsFrom
  by_cases hk:(k==NameKind.cell)=true
  ·rw[if_pos hk]
   refine jT r _ _ x ?_
   rcases h with h | h
   ·rcases List.mem_cons.mp h with e | h
    ·cases e
     right
     rw[aaF]
     simp
    ·exact .inl h
   ·right
    rw[aaF]
    cases q:x==z with
    | true=>rfl
    | false=>exact h
  ·rw[if_neg hk]
   refine jT r _ _ x ?_
   rcases h with h | h
   ·rcases List.mem_cons.mp h with e | h
    ·cases e;exact absurd rfl hk
    ·exact .inl h
   ·exact .inr h
section
variable {M : Model} {A : Around} {E : Value -> Shared -> Prop} {s : Shared}
theorem jh {scope:Scope} {globals:Addr} {closure:List (Str×Addr)} {qual:Str} {func:Option Addr} {code:Value} {outer:Env} {Q:Env->Shared->Prop}
  (hQ:Q (newEnv scope s.heap.objs.size globals (cellsFrom (s.heap.objs.size+1) scope.names closure) qual func code (some outer) builtinsNs)
   {s with heap:=pushCells (s.heap.push {cls:=.type "dict",data:=.dict #[]}) scope.names}):
  wpAny M A (newFunctionEnv scope globals closure [] qual func code (some outer)) Q E s:=by
 simp only[newFunctionEnv,Option.isSome_some,if_true]
 refine wpAny_bind (wpAny_alloc ?_)
 refine wpAny_bind (wpAny_layCells _ (λname kind cells=>by cases U3:kind==NameKind.cell <;>simp [U3]) _ _ _ _ ?_)
 rw[show({s with heap:=s.heap.push {cls:=.type "dict",data:=.dict #[]}}:Shared).heap.objs.size=s.heap.objs.size+1 from Heap.size_push ..]
 refine wpAny_bind ?_
 rw[List.forIn_nil]
 exact wpAny_pure (wpAny_pure hQ)
end
structure DN (X:Cx) (scope:Scope) (cl:List (Str×Addr)) (lo:Nat) (C:Addr) (h1:Heap):Prop where
 old:∀x c,cl.lookup x=some c->X.env.cells.lookup x=some c\/(lo<=c/\C<c/\h1.IsCell c none)
 inj:∀x y c,C<c->cl.lookup x=some c->cl.lookup y=some c->x=y
 has:∀n,(n,NameKind.free)∈scope.names\/(n,NameKind.cell)∈scope.names->∃c,cl.lookup n=some c
 KJ:∀n,scope.names.lookup n=some .free->∀c,cl.lookup n=some c->X.env.cells.lookup n=some c
 own:∀x c,scope.names.lookup x=some .cell->cl.lookup x=some c->lo<=c
section
variable {X : Cx} {pins : List (Addr × Obj)} {σ : St} {H : Hp} {s : Shared} {N' : List Str} {scope : Scope} {k : Nat} {fr : List Nat} {cl : List (Str × Addr)}
theorem DO {C:Addr} {fp:List Addr} {h1:Heap} (I:Inv X pins σ H s) (S:dY X.N X.env.scope N' scope k fr) (B:DN X scope cl s.heap.objs.size C h1)
  (hC:s.heap.objs.size<=C) (f2:∀b∈fp,hW X pins H b) (lt:∀b∈fp,b<s.heap.objs.size):(kP X N' scope cl C s H fp).Ok where
 mod:=I.ok.mod
 kind:=S.kind
 glob:=I.ok.glob
 blt:=I.ok.blt
 above:=hC
 inj:=λx y c h1 h2=>by
  rcases B.old _ _ h1 with o1 | o1 <;>rcases B.old _ _ h2 with o2 | o2
  ·exact I.ok.inj x y c o1 o2
  ·exact B.inj x y c o2.2.1 h1 h2
  ·exact B.inj x y c o1.2.1 h1 h2
  ·exact B.inj x y c o1.2.1 h1 h2
 has:=λx hx=>B.has x (jg hx)
 Fw:=λx c z e=>B.own x c (by
  have z:(scope.names.lookup x==some NameKind.cell)=true:=z
  simpa using z) e
 hd:=I.ok.hd
 frames:=I.ok.frames
 F5:=.inl rfl
 Km:=λb hb=>⟨aaj (aan (lt b hb) hC),λx c e=>(B.old _ _ e).elim (λo=>(f2 b hb).2.2.2.2.1 x c o) λo=>Nat.ne_of_gt (aan (lt b hb) o.1)⟩
 bs:=I.bs
 xV:=aas I.ok.xV I.sz
 wF:=λb o e hb=>by
  rcases(f2 b hb).2.2.2.1 with z | z
  ·exact I.ok.wF b o e z
  ·exact absurd (aan (Heap.lt_size e) (aas I.ok.xV z)) (aaJ _)
 xW:=λb hb z=>by
  rcases List.mem_cons.mp (I.qc b z) with q | q
  ·exact(f2 b hb).2.1 q
  ·exact(f2 b hb).2.2.1 q
 jM:=I.stack
 Cj:=I.vh
theorem Bl {C:Addr} {fp:List Addr} {h1:Heap} {tk:Nat} {m:Str->Option Value} (I:Inv X pins σ H s) (S:dY X.N X.env.scope N' scope k fr) (B:DN X scope cl s.heap.objs.size C h1)
  (hC:s.heap.objs.size<=C) (f2:∀b∈fp,hW X pins H b) (lt:∀b∈fp,b<s.heap.objs.size) (old:∀b o,s.heap.get? b=some o->h1.get? b=some o) (hn:h1.Ns C m):
  Inv (kP X N' scope cl C s H fp) [] (stC k fr σ) H {s with heap:=h1,toks:=tk}:=by
 refine⟨DO I S B hC f2 lt,rfl,I.bare,Un.kept old,⟨m,hn,λi x v e1 e2 e3=>?_⟩,λx c e=>?_,I.bI.fresh hC,λx c e=>(B.old _ _ e).elim (λo=>I.gC x c o) λo=>I.bI.fresh o.1,λp hp=>absurd (show p∈([]:List (Addr×Obj)) from hp) (by simp),I.bI.kept old,?_⟩
 ·have e1:N'[i]?=some x:=e1
  unfold stC at e2
  by_cases hi:i<k
  ·rw[abf (by simpa using hi),List.getElem?_replicate,if_pos hi] at e2
   cases e2
  ·rw[aa6 (by simpa using hi),aaZ,aaf] at e2
   cases q:fr[i - k]? with
   | none=>rw[q] at e2;cases e2
   | some j=>
    rw[q] at e2
    have e2:(σ[j]?).join=some v:=aax e2
    have ej:σ[j]?=some (some v):=by
     cases z:σ[j]? with
     | none=>rw[z] at e2;cases e2
     | some o=>rw[z] at e2;exact congrArg some e2
    have en:i - k<fr.length:=(List.getElem?_eq_some_iff.mp q).1
    have FA:=S.at_ (i - k) en
    rw[q,show k+ (i - k)=i by omega,e1] at FA
    have FA:X.N[j]?=some x:=FA
    have U4:x∈N'.drop k:=List.mem_iff_getElem?.mpr ⟨i - k,by rw[aa2,show k+ (i - k)=i by omega];exact e1⟩
    have GC:=S.KJ x U4
    have GD:(x,NameKind.free)∈scope.names:=aaX GC
    have Bm:=S.outer _ GD rfl
    obtain⟨m0,ZN,KL⟩:=I.loc
    obtain⟨u,r,l⟩:=KL j x v FA ej (.inr Bm)
    refine⟨u,r,.inr ⟨dN GC,?_⟩⟩
    rcases l with ⟨kk,_⟩ | ⟨_,c,e,z⟩
    ·have kk:X.env.scope.names.lookup x=some .local:=kk
     rcases Bm with q1 | q1
     ·rw[kk] at q1;cases q1
     ·rw[kk] at q1;cases q1
    ·obtain⟨c',e'⟩:=B.has x (.inl GD)
     have ec:=B.KJ x GC _ e'
     rw[e] at ec
     cases ec
     obtain⟨ob,ho,hd⟩:=z
     exact⟨c,e',ob,old _ _ ho,hd⟩
 ·rcases B.old _ _ e with o | o
  ·obtain⟨v,ob,ho,hd⟩:=I.cell x c o
   exact⟨v,ob,old _ _ ho,hd⟩
  ·exact⟨none,o.2.2⟩
 ·unfold stC
  rw[aaM,aaZ,aab]
  exact S.len.symm
end
section
variable {prog : Program} {w : World} {A : Around} {E : Value -> Shared -> Prop} {R : Result -> Shared -> Prop} {s : Shared}
theorem gI {elt target iter:Expr} {ifs:List Expr} {scope:Scope} {pos:Pos} {it acc:Value} {env:Env} (I:Nat->Shared->Prop)
  (turn:∀n s,I n s->wpAny (model prog w) A (pyNext it) (λr s₁=>match r with
   | none=>R (.ok .next) s₁
   | some v=>wpAny (model prog w) A (letOwnedTupleGo target it v) (λ_ SI=>wpAny (model prog w) A (assign target env v) (λ_ s₂=>
     wpAny (model prog w) A (forIn ifs true λc r=>if r=true then do let ok <-isTrue c env (eval c env);pure (ForInStep.yield ok) else pure (ForInStep.yield r)) (λok s₃=>
      if ok=true then wpAny (model prog w) A (eval elt env) (λx s₄=>
       wpAny (model prog w) A (call (.builtin "list.append") [acc,x]) (λ_ s₅=>∃m,m<n/\I m s₅) (λ_ _=>False) s₄) (notedBy (model prog w) A env λx s'=>R (.error x) s') s₃
      else ∃m,m<n/\I m s₃) (λ_ _=>False) s₂) (λ_ _=>False) SI) (λ_ _=>False) s₁) (λ_ _=>False) s)
  (n:Nat) (h:I n s):
  codeAny (model prog w) A (.compLoop (.ListComp elt [⟨target,iter,ifs,0⟩] scope pos) 0 it acc env) R s:=by
 refine codeAny_loop rfl I (λn s hI=>?_) n h
 show wpAny _ A ((compTurn (.ListComp elt [⟨target,iter,ifs,0⟩] scope pos) 0 it acc env).onRaise (λx=>do noteFrame x env;theTreesLotGoes x)) _ _ s
 refine wpAny_noted ?_
 rw[compTurn_list]
 refine wpAny_bind (wpAny_standAt (wpAny_bind (wpAny_mono (turn n s hI) (λr s₁ h₁=>?_) λ_ _ h'=>h'.elim)))
 cases r with
 | none=>exact wpAny_pure h₁
 | some v=>
  refine wpAny_bind (wpAny_mono h₁ (λ_ SI U5=>?_) λ_ _ h'=>h'.elim)
  refine wpAny_bind (wpAny_mono U5 (λ_ s₂ h₂=>wpAny_bind (wpAny_mono h₂ (λok s₃ h₃=>?_) λ_ _ h'=>h'.elim)) λ_ _ h'=>h'.elim)
  cases ok with
  | false=>exact wpAny_pure ⟨rfl,h₃⟩
  | true=>
   exact wpAny_bind (wpAny_bind (wpAny_mono h₃ (λx s₄ h₄=>wpAny_bind (wpAny_mono h₄ (λ_ s₅ h₅=>wpAny_pure (wpAny_pure ⟨rfl,h₅⟩)) λ_ _ h'=>h'.elim)) λ_ _ h'=>h'))
end
noncomputable def DP (X:Cx) (ifs:List Expr) (t:TT):Prop:=
 ∀(pins:List (Addr×Obj)) (s:Shared) (σ:St) (H:Hp) (Q:Bool->Hp->Prop),Inv X pins σ H s->t σ H Q->
  wpAny (model X.prog X.w) X.A (forIn ifs true λc r=>if r=true then do let ok <-isTrue c X.env (eval c X.env);pure (ForInStep.yield ok) else pure (ForInStep.yield r)) (TP X pins σ Q) X.xe s
noncomputable def gx:TT:=λ_ H Q=>Q true H
theorem bx {X:Cx}:DP X [] gx:=λ_ _ _ H _ I h=>wpAny_tests_nil ⟨H,I,h⟩
theorem lW {X:Cx} {c:Expr} {t:TT} (h:PT X c t):DP X [c] t:=λpins s σ H Q I hq=>wpAny_tests_one (h pins s σ H Q I hq)
section
variable {X : Cx}
noncomputable def eL (J:It) (g:TG) (tc:TT) (te:TE) (σ0:St) (H1:Hp) (fin:List V->Hp->Prop):Prop:=
 ∃W:Nat->Nat->List V->St->Hp->Prop,(∃m,W 0 m [] σ0 H1)/\∀i m ys σ2 H2,W i m ys σ2 H2->
  (J.stop i H2/\fin ys H2)\/
  (J.go i H2/\∀x H3,J.ue i H2 x H3->g x σ2 H3 λσ3 H4=>tc σ3 H4 λb H5=>if b=true then te σ3 H5 λy H6=>ys.length<sizeLine/\∃m',m'<m/\W (i+1) m' (ys++ [y]) σ3 H6 else ∃m',m'<m/\W (i+1) m' ys σ3 H5)
noncomputable def d6 (aP:List Value) (n:Nat):Obj:={cls:=.type "list",data:=.seq aP.toArray n}
theorem yG {elt target iter:Expr} {ifs:List Expr} {scope:Scope} {pos:Pos} {g:TG} {tc:TT} {te:TE} {k:Nat} {fr:List Nat} {N':List Str} {cl:List (Str×Addr)} {pins:List (Addr×Obj)} {σ:St} {H2:Hp} {s2:Shared}
  {it:Addr} {fp:List Addr} {tn:Nat->Heap->Prop} {J:It} {fin:List V->Hp->Prop} {R0:Result->Shared->Prop} {XE:List (Str×Addr)->Addr->Shared->Hp->List Addr->Value->Shared->Prop}
  (hc:X.calm=true) (S:dY X.N X.env.scope N' scope k fr) (c1:∀x c,cl.lookup x=some c->X.env.cells.lookup x=some c) (c2:∀n,(n,NameKind.free)∈scope.names->∃c,cl.lookup n=some c) (cin:∀x c,(x,c)∈cl->∃y,X.env.cells.lookup y=some c) (JC:∀x,(x,NameKind.cell)∈scope.names->∀c,(x,c)∉cl)
  (hg:∀cl C s H ex,PG (kP X N' scope cl C s H ex) target g) (ht:∀cl C s H ex,DP (kP X N' scope cl C s H ex) ifs tc) (he:∀cl C s H ex,PE ((kP X N' scope cl C s H ex).jN (XE cl C s H ex)) elt te)
  (I2:Inv X pins σ H2 s2) (T:Turn X.prog X.w X.K target J fp it tn) (bL:tn 0 s2.heap) (f2:∀b∈fp,hW X pins H2 b) (hb:eL J g tc te (stC k fr σ) H2 fin)
  (hR:∀(C:Addr),C=(s2.heap.push {cls:=.type "list",dict:=none,data:=.seq ([]:List Value).toArray}).objs.size->∀(s':Shared) (m:Str->Option Value) (ys:List V) (aP:List Value) (n:Nat) (H':Hp),s2.heap.objs.size<C->s'.heap.Ns C m->aY ys aP->ys.length<=sizeLine->s'.heap.get? s2.heap.objs.size=some (d6 aP n)->H' s2.heap.objs.size=none->H' C=none->fin ys H'->
   s'.os=s2.os->AllBare s'.gens->Un (rC X.stack) fp H2 H' s2.heap s'.heap->gp X.prog X.w H' s'.heap->R0 (.ok .next) s')
  (hE:∀cl C x s',C=(s2.heap.push {cls:=.type "list",dict:=none,data:=.seq ([]:List Value).toArray}).objs.size->s2.heap.objs.size<C->XE cl C s2 H2 fp x s'->notedBy (model X.prog X.w) X.A (compEnvC scope cl C X.env) (λy Ds=>R0 (.error y) Ds) x s'):
  codeAny (model X.prog X.w) X.A (.compStart (.ListComp elt [⟨target,iter,ifs,0⟩] scope pos) 0 (.ref it) (.ref s2.heap.objs.size) (compEnvC scope (cellsFrom ((s2.heap.push {cls:=.type "list",dict:=none,data:=.seq ([]:List Value).toArray}).objs.size+1) scope.names cl) (s2.heap.push {cls:=.type "list",dict:=none,data:=.seq ([]:List Value).toArray}).objs.size X.env)) R0 {s2 with heap:=pushCells ((s2.heap.push {cls:=.type "list",dict:=none,data:=.seq ([]:List Value).toArray}).push {cls:=.type "dict",data:=.dict #[]}) scope.names}:=by
 obtain⟨W,⟨m0,w0⟩,turn⟩:=hb
 have lt:∀b∈fp,b<s2.heap.objs.size:=λb hb=>by
  obtain⟨o,e,_⟩:=T.obj _ _ bL b hb
  exact Heap.lt_size e
 generalize KN:s2.heap.push {cls:=.type "list",dict:=none,data:=.seq ([]:List Value).toArray}=G2 at hR hE ⊢
 have FC:G2.objs.size=s2.heap.objs.size+1:=by rw[<-KN,Heap.size_push]
 have SJ:s2.heap.objs.size≠G2.objs.size:=by rw[FC];exact aaj (aaK _)
 have hC:s2.heap.objs.size<=G2.objs.size:=by rw[FC];exact Nat.le_succ _
 have old:∀b o,s2.heap.get? b=some o->(pushCells (G2.push {cls:=.type "dict",data:=.dict #[]}) scope.names).get? b=some o:=λb o e=>by
  refine pushCells_keeps _ _ b o (Heap.get?_push_of_some _ ?_)
  rw[<-KN]
  exact Heap.get?_push_of_some _ e
 have Bn:(pushCells (G2.push {cls:=.type "dict",data:=.dict #[]}) scope.names).get? s2.heap.objs.size=some (d6 [] 0):=by
  refine pushCells_keeps _ _ _ _ (Heap.get?_push_of_some _ ?_)
  rw[<-KN]
  exact Heap.get?_push_size _ rfl
 have KO:(pushCells (G2.push {cls:=.type "dict",data:=.dict #[]}) scope.names).Ns G2.objs.size λ_=>none:=(Heap.Ns.new G2 (.type "dict")).keeps (pushCells_keeps _ _)
 have SK:∀x c,(x,c)∈cl->c<G2.objs.size+1:=λx c m=>by
  obtain⟨y,hy⟩:=cin x c m
  obtain⟨v,q⟩:=I2.cell y c hy
  rw[FC]
  exact aa9 (aa9 q.lt)
 have B:DN X scope (cellsFrom (G2.objs.size+1) scope.names cl) s2.heap.objs.size G2.objs.size (pushCells (G2.push {cls:=.type "dict",data:=.dict #[]}) scope.names):=by
  have own:=jR scope.names (G2.push {cls:=.type "dict",data:=.dict #[]}) cl
  rw[Heap.size_push] at own
  refine⟨λx c e=>?_,λx y c hc h1 h2=>?_,λn hn=>?_,λn hn c e=>?_,λx c hx e=>?_⟩
  ·by_cases hx:(x,NameKind.cell)∈scope.names
   ·rcases own x c (aaX e) with m | ⟨q1,q2,_⟩
    ·
     exfalso
     exact JC x hx c m
    ·exact .inr ⟨aas hC (Nat.le_of_succ_le q1),q1,q2⟩
   ·rw[fF _ _ _ _ hx] at e
    exact .inl (c1 x c e)
  ·exact jS scope.names (G2.objs.size+1) (G2.objs.size+1) cl SK (λx y c hl m1 _=>absurd (SK x c m1) (Nat.not_lt.mpr hl)) x y c hc (aaX h1) (aaX h2)
  ·refine Option.isSome_iff_exists.mp (jT _ _ _ n ?_)
   rcases hn with hn | hn
   ·obtain⟨c,e⟩:=c2 n hn
    exact .inr (by rw[e];rfl)
   ·exact .inl hn
  ·have hx:(n,NameKind.cell)∉scope.names:=λm=>by
    have:=(S.DM _ m rfl).1
    rw[hn] at this
    cases this
   rw[fF _ _ _ _ hx] at e
   exact c1 n c e
  ·have hx:=aaX hx
   rcases own x c (aaX e) with m | ⟨q1,q2,_⟩
   ·exact absurd m (JC x hx c)
   ·exact aas hC (Nat.le_of_succ_le q1)
 generalize pushCells (G2.push {cls:=.type "dict",data:=.dict #[]}) scope.names=h₁ at *
 generalize cellsFrom (G2.objs.size+1) scope.names cl=uF at *
 generalize DQ:s2.heap.objs.size=D at *
 generalize ZO:G2.objs.size=C at *
 have fD:H2 D=none:=by rw[<-DQ];exact I2.bI.fresh (aae _)
 have cells:∀x c,uF.lookup x=some c->c≠D:=λx c e=>by
  rcases B.old _ _ e with o | o
  ·obtain⟨v,q⟩:=I2.cell x c o
   rw[<-DQ]
   exact aaj q.lt
  ·exact Nat.ne_of_gt (Nat.lt_trans (by rw[FC];exact aaK _) o.2.1)
 have loop:∀(Cq:Addr) (s3:Shared),Cq=it->(∃tk,s3={s2 with heap:=h₁,toks:=tk})->
   codeAny (model X.prog X.w) X.A (.compLoop (.ListComp elt [⟨target,iter,ifs,0⟩] scope pos) 0 (.ref Cq) (.ref D) (compEnvC scope uF C X.env)) R0 s3:=by
  rintro Cq s3 rfl ⟨tk,rfl⟩
  have I3:Inv (kP X N' scope uF C s2 H2 fp) [] (stC k fr σ) H2 {s2 with heap:=h₁,toks:=tk}:=Bl I2 S (by rw[DQ];exact B) (by rw[DQ];exact hC) f2 (by rw[DQ];exact lt) old KO
  have uk:∀{H':Hp} {o:Obj},(∀b∈fp,H' b=none)->∀b∈fp,hW (kP X N' scope uF C s2 H2 fp) [(D,o)] H' b:=λ{H' o} hn b hb=>
   ⟨hn b hb,aaj (aan (lt b hb) hC),λz=>by
    rcases List.mem_cons.mp (I2.qc b z) with q | q
    ·exact(f2 b hb).2.1 q
    ·exact(f2 b hb).2.2.1 q,.inl hb,λx c e=>(B.old _ _ e).elim (λo=>(f2 b hb).2.2.2.2.1 x c o) (λo=>Nat.ne_of_gt (aan (lt b hb) o.1)),λp hp=>by
    have e:p=(D,o):=by simpa [kP] using hp
    rw[e]
    exact Nat.ne_of_gt (lt b hb)⟩
  have KP:∀{σ':St} {H':Hp} {s':Shared} {o:Obj},Inv (kP X N' scope uF C s2 H2 fp) [] σ' H' s'->s'.heap.get? D=some o->H' D=none->(∀v,o.data≠.cell v)->Inv (kP X N' scope uF C s2 H2 fp) [(D,o)] σ' H' s':=λ{σ' H' s' o} I' e n hd=>
   I'.i9 λp hp=>by
    have q:p=(D,o):=by simpa using hp
    subst q
    refine⟨e,n,SJ,λz=>?_,hd⟩
    obtain⟨_,ob,ho,_⟩:=I2.stack.mem z
    exact absurd (Heap.lt_size ho) (by rw[DQ];exact aaJ _)
  have U6:∀{aP:List Value} {n:Nat} (v:Option Value),(d6 aP n).data≠.cell v:=λv z=>by
   have z:Data.seq _ _=Data.cell v:=z
   cases z
  refine gI (λn s'=>∃i ys σ' H' aP Bo,Inv (kP X N' scope uF C s2 H2 fp) [] σ' H' s'/\tn i s'.heap/\(∀b∈fp,H' b=none)/\s'.heap.get? D=some (d6 aP Bo)/\H' D=none/\aY ys aP/\ys.length<=sizeLine/\W i n ys σ' H') ?_ m0
   ⟨0,[],_,H2,[],0,I3,T.keep _ _ _ bL (λb _ o e=>old b o e),λb hb=>(f2 b hb).1,Bn,fD,.nil,aar _,w0⟩
  rintro n s4 ⟨i,ys,σ4,H4,aP,Bo,I4,fW,SM,U7,SN,JD,SO,w4⟩
  have SQ:=KP I4 U7 SN U6
  rcases turn i n ys σ4 H4 w4 with ⟨stop,qf⟩ | ⟨go,step⟩
  ·refine bY (T.done (kP X N' scope uF C s2 H2 fp) rfl rfl rfl hc i _ s4 σ4 H4 _ SQ (uk SM) fW stop) λr s5 ⟨hr,I5⟩=>?_
   subst hr
   obtain⟨m5,U8,_⟩:=I5.loc
   exact hR C rfl s5 m5 ys aP Bo H4 (by rw[FC];exact aaK _) U8 JD SO (I5.pin (D,d6 aP Bo) (aaQ _ aal)).1 SN I5.free qf I5.os I5.bare I5.base I5.bI
  ·refine bY (T.item (kP X N' scope uF C s2 H2 fp) rfl rfl rfl hc i _ s4 σ4 H4 _ SQ (uk SM) fW go) λr s5 ⟨u,hr,h5⟩=>?_
   subst hr
   refine bY h5 λ_ s6 cD=>?_
   obtain⟨x,H6,I6,r6,y6,KQ,U9⟩:=cD
   have Va:=I6.pinned (uk U9) (T.obj _ _ KQ)
   refine bY (hg uF C s2 H2 fp _ s6 σ4 H6 x u _ Va r6 (step x H6 y6)) λ_ s7 ⟨σ7,H7,I7,q7⟩=>?_
   refine bY (ht uF C s2 H2 fp _ s7 σ7 H7 _ I7 q7) λok s8 ⟨H8,I8,q8⟩=>?_
   have back:∀{σ':St} {H':Hp} {s':Shared},Inv (kP X N' scope uF C s2 H2 fp) ([(D,d6 aP Bo)]++mI fp s6.heap) σ' H' s'->tn (i+1) s'.heap/\(∀b∈fp,H' b=none)/\s'.heap.get? D=some (d6 aP Bo)/\H' D=none:=λ{σ' H' s'} I'=>by
    have pD:=I'.pin (D,d6 aP Bo) (aaQ _ (List.mem_append_left _ (by simp)))
    refine⟨T.keep _ _ _ KQ λb hb o e=>(I'.pin (b,o) (aaQ _ (aaQ _ (fA hb e)))).1,λb hb=>?_,pD.1,pD.2.1⟩
    obtain⟨o,e,d⟩:=T.obj _ _ KQ b hb
    exact(I'.pin (b,o) (aaQ _ (aaQ _ (fA hb e)))).2.1
   cases ok with
   | false=>
    rw[if_neg aaq]
    rw[if_neg aaq] at q8
    obtain⟨m',hm,w8⟩:=q8
    obtain⟨b1,b2,b3,b4⟩:=back I8
    exact⟨m',hm,i+1,ys,σ7,H8,aP,Bo,I8.i9 (λp hp=>absurd hp (by simp)),b1,b2,b3,b4,JD,SO,w8⟩
   | true=>
    rw[if_pos rfl]
    rw[if_pos rfl] at q8
    refine wpAny_mono (he uF C s2 H2 fp _ s8 σ7 H8 _ (I8.jN _) q8) (λy s9 ⟨z,H9,I9,r9,en,m',hm,w9⟩=>?_) λx s' hx=>hE uF C x s' rfl (by rw[FC];exact aaK _) hx
    have I9:=I9.fv
    obtain⟨b1,b2,b3,b4⟩:=back I9
    have hl:=JD.length
    refine call_meets F.slot_list_append ⟨_,b3,rfl⟩ F.entry_list_append (F.args_list_append_2 _ _) (PySem.list_append D aP.toArray Bo y (by rw[aah];omega)) ⟨b3,?_⟩
    obtain⟨c',q⟩:∃c',(s9.heap.update D (Obj.mapSeq λx=>x.push y)).get? D=some (d6 (aP++ [y]) c'):=by
     have q:=PySem.IsL.update b3 (λx=>x.push y)
     rw[show aP.toArray.push y=(aP++ [y]).toArray by simp] at q
     exact⟨_,q⟩
    have Vc:Inv (kP X N' scope uF C s2 H2 fp) [] σ7 H9 s9:=I9.i9 (λp hp=>absurd hp (by simp))
    have kp:∀b o,b≠D->s9.heap.get? b=some o->(s9.heap.update D (Obj.mapSeq λx=>x.push y)).get? b=some o:=λb o hb e=>(Heap.get?_update_other s9.heap (Obj.mapSeq λx=>x.push y) (Ne.symm hb)).trans e
    have Vd:=Vc.turned (t':=s9.toks) (it:=D) (h':=s9.heap.update D (Obj.mapSeq λx=>x.push y)) kp b4 SJ (.inr (by show s2.heap.objs.size<=D;rw[DQ];exact aae _)) (λx c e=>cells x c e) (λp hp=>absurd hp (by simp [kP]))
    refine⟨m',hm,i+1,ys++ [z],σ7,H9,aP++ [y],c',Vd,T.keep _ _ _ b1 (λb hb o e=>kp b o (aaj (lt b hb)) e),b2,q,b4,JD.append (.cons r9 .nil),?_,w9⟩
    ·rw[aaM,List.length_singleton]
     omega
 exact codeAny_compStart_list (loop it _ rfl ⟨_,rfl⟩) (T.self _ 0 _ _ _ (T.keep _ _ _ bL (λb _ o e=>old b o e)) (loop it _ rfl ⟨_,rfl⟩))
theorem pK {elt target iter:Expr} {ifs:List Expr} {scope:Scope} {pos:Pos} {g:TG} {tc:TT} {te:TE} {k:Nat} {fr:List Nat} {N':List Str} {cl:List (Str×Addr)} {pins:List (Addr×Obj)} {σ:St} {H2:Hp} {s2:Shared}
  {it:Addr} {fp:List Addr} {tn:Nat->Heap->Prop} {J:It} {E:Value->Shared->Prop} {fin:List V->Hp->Prop} {RR:Value->Addr->Result->Shared->Prop} {XE:List (Str×Addr)->Addr->Shared->Hp->List Addr->Value->Shared->Prop}
  (hc:X.calm=true) (S:dY X.N X.env.scope N' scope k fr) (c1:∀x c,cl.lookup x=some c->X.env.cells.lookup x=some c) (c2:∀n,(n,NameKind.free)∈scope.names->∃c,cl.lookup n=some c) (cin:∀x c,(x,c)∈cl->∃y,X.env.cells.lookup y=some c) (JC:∀x,(x,NameKind.cell)∈scope.names->∀c,(x,c)∉cl)
  (hg:∀cl C s H ex,PG (kP X N' scope cl C s H ex) target g) (ht:∀cl C s H ex,DP (kP X N' scope cl C s H ex) ifs tc) (he:∀cl C s H ex,PE ((kP X N' scope cl C s H ex).jN (XE cl C s H ex)) elt te)
  (I2:Inv X pins σ H2 s2) (T:Turn X.prog X.w X.K target J fp it tn) (bL:tn 0 s2.heap) (f2:∀b∈fp,hW X pins H2 b) (hb:eL J g tc te (stC k fr σ) H2 fin)
  (hR:∀(C:Addr) (s':Shared) (m:Str->Option Value) (ys:List V) (aP:List Value) (n:Nat) (H':Hp),s2.heap.objs.size<C->s'.heap.Ns C m->aY ys aP->ys.length<=sizeLine->s'.heap.get? s2.heap.objs.size=some (d6 aP n)->H' s2.heap.objs.size=none->H' C=none->fin ys H'->
   s'.os=s2.os->AllBare s'.gens->Un (rC X.stack) fp H2 H' s2.heap s'.heap->gp X.prog X.w H' s'.heap->RR (.ref s2.heap.objs.size) C (.ok .next) s')
  (hE:∀cl C x s',s2.heap.objs.size<C->XE cl C s2 H2 fp x s'->notedBy (model X.prog X.w) X.A (compEnvC scope cl C X.env) (λy Ds=>RR (.ref s2.heap.objs.size) C (.error y) Ds) x s'):
  wpAny (model X.prog X.w) X.A (newList []) (λacc s₃=>wpAny (model X.prog X.w) X.A (newFunctionEnv scope X.env.globals cl [] X.env.qual none .none (some X.env)) (λGF s₄=>
   codeAny (model X.prog X.w) X.A (.compStart (.ListComp elt [⟨target,iter,ifs,0⟩] scope pos) 0 (.ref it) acc {GF with scope:=relabel scope X.env}) (RR acc GF.locals) s₄) E s₃) E s2:=by
 refine wpAny_newObj_type (jh ?_)
 exact yG (R0:=RR _ _) hc S c1 c2 cin JC hg ht he I2 T bL f2 hb (λC e=>by subst e;exact hR _) (λcl C x s' e=>by subst e;exact hE cl _ x s')
theorem comp_back {fp:List Addr} {pins:List (Addr×Obj)} {σ:St} {H2 H':Hp} {s2 s':Shared} {C:Addr} {ys:List V} {aP:List Value} {n:Nat} {h':Heap} (I2:Inv X pins σ H2 s2) (f2:∀b∈fp,hW X pins H2 b) (hC:s2.heap.objs.size<C)
  (vl:aY ys aP) (sz:ys.length<=sizeLine) (hD:s'.heap.get? s2.heap.objs.size=some (d6 aP n)) (nD:H' s2.heap.objs.size=none) (nC:H' C=none)
  (os:s'.os=s2.os) (bare:AllBare s'.gens) (un:Un (rC X.stack) fp H2 H' s2.heap s'.heap) (bI:gp X.prog X.w H' s'.heap) (hs:Heap.SameBut C s'.heap h'):
  Inv X pins σ (upd H' s2.heap.objs.size (.lst ys)) {s' with heap:=h'}:=by
 have KR:∀b o,s2.heap.get? b=some o->b≠C:=λb o e=>aaj (Nat.lt_trans (Heap.lt_size e) hC)
 have Ve:∀b o,s2.heap.get? b=some o->b≠s2.heap.objs.size:=λb o e=>aaj (Heap.lt_size e)
 have tk:∀b u,H' b=some u->b≠s2.heap.objs.size:=λb u e z=>by rw[z,nD] at e;cases e
 have tC:∀b u,H' b=some u->b≠C:=λb u e z=>by rw[z,nC] at e;cases e
 have fD:H2 s2.heap.objs.size=none:=I2.bI.fresh (aae _)
 have t2:∀b u,H2 b=some u->b≠s2.heap.objs.size:=λb u e z=>by rw[z,fD] at e;cases e
 refine I2.F7 (s':={s' with heap:=h'}) (ch:=fp) os ⟨λb o e m hb hx=>?_,λb o e m hb hx=>?_,λb o e m hx=>?_,λb o e hx=>?_,λb xs e=>?_,λb o u e=>?_,λb ps e=>?_⟩ (λb u e=>?_) bare λb hb=>?_
 ·exact(hs.2 b (KR b o e)).trans (un.keep b o e m hb hx)
 ·obtain⟨sl,q⟩:=un.slot b o e m hb hx
  exact⟨sl,(hs.2 b (KR b o e)).trans q⟩
 ·rw[au (Ve b o e)]
  exact un.free b o e m hx
 ·obtain⟨o',q⟩:=un.there b o e hx
  exact⟨o',(hs.2 b (KR b o e)).trans q⟩
 ·rw[au (t2 b _ e)]
  exact un.kK b xs e
 ·rw[au (t2 b _ e)]
  exact un.mD b o u e
 ·obtain⟨mo,q⟩:=un.mE b ps e
  exact⟨mo,by rw[au (t2 b _ e)];exact q⟩
 ·by_cases hb:b=s2.heap.objs.size
  ·subst hb
   rw[ah] at e
   cases e
   exact⟨sz,aP,n,vl,(hs.2 _ (aaj hC)).trans hD⟩
  ·rw[au hb] at e
   exact(bI b u e).oN (λc v hc q=>(hs.2 c (by
    rcases hc with rfl | hc
    ·exact tC _ _ e
    ·exact tC _ _ hc)).trans q) (λc r=>by rw[au (tk _ _ r)];exact r) λc xs r=>by rw[au (tk _ _ r)];exact r
 ·exact⟨(f2 b hb).2.2.2.1,(f2 b hb).2.1,(f2 b hb).2.2.2.2.1,(f2 b hb).2.2.2.2.2⟩
noncomputable def tComp (wi:TI) (g:TG) (tc:TT) (te:TE) (k:Nat) (fr:List Nat):TE:=λσ H Q=>wi σ H λJ H1=>eL J g tc te (stC k fr σ) H1 λys H2=>∀D,H1 D=none->H2 D=none->Q (.ref D) (upd H2 D (.lst ys))
theorem bE {elt target iter:Expr} {ifs:List Expr} {scope so:Scope} {pos:Pos} {wi:TI} {g:TG} {tc:TT} {te:TE} {k:Nat} {fr:List Nat} {N N':List Str} (hc:X.calm=true) (hN:X.N=N) (KU:X.env.scope=so) (S:dY N so N' scope k fr)
  (hi:PI X target iter wi) (hg:∀cl C s H ex,PG (kP X N' scope cl C s H ex) target g) (ht:∀cl C s H ex,DP (kP X N' scope cl C s H ex) ifs tc) (he:∀cl C s H ex,PE (kP X N' scope cl C s H ex) elt te)
  (hs:∀x,foldedSetIterable iter X.env x=pure x:=by intro _;rfl):PE X (.ListComp elt [⟨target,iter,ifs,0⟩] scope pos) (tComp wi g tc te k fr):=by
 subst hN KU
 intro pins s σ H Q I h
 rw[eval_ListComp]
 obtain⟨cl,DR,c1,c2,c3⟩:=eK (env:=X.env) (scope:=scope) λn hn=>I.ok.has n (S.outer _ hn rfl)
 refine wpAny_comprehension_free (use:=none) (cl:=cl) rfl hs DR S.kind S.locs ?_
 refine bY (hi pins s σ H _ I h) λv s1 h1=>bY h1 λCq s2 h2=>?_
 obtain⟨it,fp,tn,J,H2,rfl,I2,T,bL,f2,hb⟩:=h2
 refine pK (RR:=λacc C=>compPost (model X.prog X.w) X.A X.xe none (EP X pins σ Q) acc C) hc S c1 c2 (λx c m=>⟨x,(c3 x c m).1⟩) (λx hx c m=>(S.DM _ hx rfl).2 (c3 x c m).2) (XE:=λ_ _ _ _ _ _ _=>False) hg ht he I2 T bL f2 hb ?_ (λ_ _ _ _ _ z=>False.elim z)
 intro C s' m ys aP n H' hC hn vl sz hD nD nC fin os bare un bI
 exact⟨m,hn,λh' jI=>⟨.ref _,_,comp_back I2 f2 hC vl sz hD nD nC os bare un bI jI,rfl,fin _ (I2.bI.fresh (aae _)) nD⟩⟩
theorem eC {elt target iter:Expr} {ifs:List Expr} {scope so:Scope} {pos GG py:Pos} {wi:TI} {g:TG} {tc:TT} {te:TE} {k:Nat} {fr:List Nat} {N N':List Str} {y:Str} {i:Nat} (hc:X.calm=true) (hN:X.N.Nodup) (hy:X.N[i]?=some y) (hl:X.env.scope.names.lookup y=some .local)
  (Vf:X.N=N) (KU:X.env.scope=so) (S:dY N so N' scope k fr)
  (hi:PI X target iter wi) (hg:∀cl C s H ex,PG (kP X N' scope cl C s H ex) target g) (ht:∀cl C s H ex,DP (kP X N' scope cl C s H ex) ifs tc) (he:∀cl C s H ex,PE (kP X N' scope cl C s H ex) elt te)
  (Vg:swapsWith (.ListComp elt [⟨target,iter,ifs,0⟩] scope pos) (some (.Name y py)) GG.line X.env=pure true:=by rfl)
  (hs:∀x,foldedSetIterable iter X.env x=pure x:=by intro _;rfl):PS X (.Assign [.Name y py] (.ListComp elt [⟨target,iter,ifs,0⟩] scope pos) GG) (tAsg (tComp wi g tc te k fr) (gName i)):=by
 subst Vf KU
 intro pins s σ H D I h
 rw[exec_Assign_Name_used _ _ _ _ Vg]
 obtain⟨cl,DR,c1,c2,c3⟩:=eK (env:=X.env) (scope:=scope) λn hn=>I.ok.has n (S.outer _ hn rfl)
 refine wpAny_bind (wpAny_standAt (wpAny_bind ?_))
 show wpAny _ X.A (do let _ <-comprehension (.ListComp elt [⟨target,iter,ifs,0⟩] scope pos) scope X.env _ (newList []) false (eval iter X.env) (some (assign (.Name y py) X.env))) _ _ s
 refine wpAny_bind (wpAny_mono (wpAny_comprehension_free (use:=some (assign (.Name y py) X.env)) (Q:=λ_ s'=>SP X pins D .next s') (cl:=cl) rfl hs DR S.kind S.locs ?_) (λ_ s' hq=>wpAny_pure (wpAny_pure hq)) λ_ _ e=>e)
 refine bY (hi pins s σ H _ I h) λv s1 h1=>bY h1 λCq s2 h2=>?_
 obtain⟨it,fp,tn,J,H2,rfl,I2,T,bL,f2,hb⟩:=h2
 refine pK (RR:=λacc C=>compPost (model X.prog X.w) X.A X.xe (some (assign (.Name y py) X.env)) (λ_ s'=>SP X pins D .next s') acc C) hc S c1 c2 (λx c m=>⟨x,(c3 x c m).1⟩) (λx hx c m=>(S.DM _ hx rfl).2 (c3 x c m).2) (XE:=λ_ _ _ _ _ _ _=>False) hg ht he I2 T bL f2 hb ?_ (λ_ _ _ _ _ z=>False.elim z)
 intro C s' m ys aP n H' hC hn vl sz hD nD nC fin os bare un bI
 have I3:Inv X pins σ (upd H' s2.heap.objs.size (.lst ys)) s':=comp_back (h':=s'.heap) I2 f2 hC vl sz hD nD nC os bare un bI (.refl ..)
 refine wpAny_assign_Name (pe (v:=.ref s2.heap.objs.size) I3 hN hy (.inl hl) rfl (λs4 I4 ch=>?_) (.inr hl))
 have SR:X.env.locals<s2.heap.objs.size:=I2.lt
 obtain⟨a,Vh,ha⟩:=ch
 have aC:a≠C:=by
  rcases ha with rfl | ha
  ·exact aaj (Nat.lt_trans SR hC)
  ·obtain⟨v,q⟩:=I2.cell _ _ ha
   exact aaj (Nat.lt_trans q.lt hC)
 refine⟨m,hn.sameBut Vh (Ne.symm aC),λh' jI=>⟨_,_,?_,fin _ (I2.bI.fresh (aae _)) nD⟩⟩
 have Vi:(upd H' s2.heap.objs.size (.lst ys)) C=none:=by rw[au (Nat.ne_of_gt hC)];exact nC
 exact I4.turned (t':=s4.toks) (it:=C) (h':=h') (λb o hb e=>(jI.2 b hb).trans e) Vi (Nat.ne_of_gt (Nat.lt_trans SR hC)) (.inr (aas I2.sz (Nat.le_of_lt hC))) (λx c e z=>by
  obtain⟨v,q⟩:=I2.cell x c e
  exact absurd (Nat.lt_trans q.lt hC) (by rw[z];exact aaJ _)) (λp hp z=>by
  have:=Heap.lt_size (I2.pin p hp).1
  rw[z] at this
  exact absurd (Nat.lt_trans this hC) (aaJ _))
end
structure Src (J:It) (Ok:Hp->Prop) (n:Nat) (Item:Nat->V->Hp->Hp->Prop):Prop where
 go:∀i H,i<n->Ok H->J.go i H
 ue:∀i H x H3,i<n->Ok H->J.ue i H x H3->Item i x H H3
 stop:∀H,Ok H->J.stop n H
theorem src_list {K:PySem.W.Frag} {a:Addr} {xs:List V} {Ok:Hp->Prop} (h:∀H,Ok H->aV K H a xs):Src (ug K a) Ok xs.length (λi x H H3=>H3=H/\xs[i]?=some x) where
 go:=λi H hi ok=>⟨xs,xs[i],h H ok,by simp [hi]⟩
 ue:=λi H x H3 hi ok ⟨e,y⟩=>⟨e,y xs (h H ok)⟩
 stop:=λH ok=>⟨xs,h H ok,aae _⟩
theorem src_range {lo:Int} {n:Nat} {Ok:Hp->Prop}:Src (Gb lo n) Ok n (λi x H H3=>H3=H/\x=.int (lo+i)) where
 go:=λ_ _ hi _=>hi
 ue:=λ_ _ _ _ _ _ y=>y
 stop:=λ_ _=>aae _
theorem gZ {J:It} {g:TG} {tc:TT} {te:TE} {σ0:St} {H1:Hp} {fin:List V->Hp->Prop} {n:Nat} {Item:Nat->V->Hp->Hp->Prop} (S:Src J (aq H1) n Item) (DS:St->Prop) (h0:DS σ0) (P:Nat->List V->Hp->Prop) (p0:P 0 [] H1) (hz:n<=sizeLine)
  (hs:∀i x σ H ys H3 (Q:St->V->Hp->Prop) (N:St->Hp->Prop),i<n->aq H1 H->P i ys H->ys.length<=i->DS σ->Item i x H H3->
   (∀σ3 y H6,DS σ3->aq H1 H6->P (i+1) (ys++ [y]) H6->Q σ3 y H6)->(∀σ3 H5,DS σ3->aq H1 H5->P (i+1) ys H5->N σ3 H5)->
   g x σ H3 λσ3 H4=>tc σ3 H4 λb H5=>if b=true then te σ3 H5 λy H6=>Q σ3 y H6 else N σ3 H5)
  (jU:∀ys H,aq H1 H->P n ys H->ys.length<=n->fin ys H):eL J g tc te σ0 H1 fin:=by
 refine⟨λi m ys σ H=>m=n - i/\i<=n/\ys.length<=i/\DS σ/\aq H1 H/\P i ys H,⟨n,by simp,aar _,aae _,h0,aq.refl _,p0⟩,?_⟩
 rintro i m ys σ H ⟨rfl,hi,hl,ow,sm,p⟩
 by_cases en:i<n
 ·refine .inr ⟨S.go i H en sm,λx H3 y=>hs i x σ H ys H3 (λσ3 y H6=>ys.length<sizeLine/\∃m',m'<n - i/\m'=n - (i+1)/\i+1<=n/\(ys++ [y]).length<=i+1/\DS σ3/\aq H1 H6/\P (i+1) (ys++ [y]) H6)
   (λσ3 H5=>∃m',m'<n - i/\m'=n - (i+1)/\i+1<=n/\ys.length<=i+1/\DS σ3/\aq H1 H5/\P (i+1) ys H5) en sm p hl ow (S.ue i H x H3 en sm y) (λσ3 y H6 o s6 q=>?_) (λσ3 H5 o s5 q=>?_)⟩
  ·exact⟨by omega,n - (i+1),by omega,rfl,en,by rw[aaM,List.length_singleton];omega,o,s6,q⟩
  ·exact⟨n - (i+1),by omega,rfl,en,by omega,o,s5,q⟩
 ·have e:i=n:=by omega
  subst e
  exact .inl ⟨S.stop H sm,jU ys H sm p hl⟩
theorem comp_map {J:It} {te:TE} {tl:St} {H1:Hp} {fin:List V->Hp->Prop} {n:Nat} {Item:Nat->V->Hp->Hp->Prop} (S:Src J (aq H1) n Item) (sub:∀i x H H3,Item i x H H3->aq H H3) (hz:n<=sizeLine)
  (R:Nat->V->Hp->Prop) (mono:∀i y H H',aq H H'->R i y H->R i y H')
  (hs:∀i x w H H3 (Q:VK),i<n->aq H1 H->Item i x H H3->(∀y H6,aq H3 H6->R i y H6->Q y H6)->te ((w::tl).set 0 (some x)) H3 Q)
  (jU:∀ys H,aq H1 H->ys.length=n->(∀i y,ys[i]?=some y->R i y H)->fin ys H):eL J (gName 0) gx te (none::tl) H1 fin:=by
 refine⟨λi m ys σ H=>m=n - i/\i<=n/\ys.length=i/\(∃w,σ=w::tl)/\aq H1 H/\∀j y,ys[j]?=some y->R j y H,⟨n,by simp,aar _,rfl,⟨_,rfl⟩,aq.refl _,λj y e=>by simp at e⟩,?_⟩
 rintro i m ys σ H ⟨rfl,hi,hl,⟨w,rfl⟩,sm,p⟩
 by_cases en:i<n
 ·refine .inr ⟨S.go i H en sm,λx H3 y=>?_⟩
  have it:=S.ue i H x H3 en sm y
  have s3:=sub i x H H3 it
  unfold gName gx
  refine Gz ?_
  refine hs i x w H H3 _ en sm it λy H6 s6 r=>⟨by omega,n - (i+1),by omega,rfl,en,by rw[aaM,List.length_singleton];omega,⟨_,rfl⟩,sm.trans (s3.trans s6),λj z e=>?_⟩
  by_cases hj:j<i
  ·rw[abf (by omega)] at e
   exact mono j z _ _ (s3.trans s6) (p j z e)
  ·rw[aa6 (by omega)] at e
   have e2:j - ys.length=0:=by
    by_cases q:j - ys.length=0
    ·exact q
    ·rw[aat (by simp;omega)] at e;cases e
   rw[e2] at e
   simp at e
   subst e
   have:j=i:=by omega
   subst this
   exact r
 ·have e:i=n:=by omega
  subst e
  exact .inl ⟨S.stop H sm,jU ys H sm hl p⟩
noncomputable def Cy (J:It) (g:TG) (tb:TS) (D:Ends) (σ:St) (H:Hp):Prop:=
 ∃W:Nat->Nat->St->Hp->Prop,(∃m,W 0 m σ H)/\∀i m σ H,W i m σ H->
  (J.stop i H/\D.nx σ H)\/(J.go i H/\∃N:St->Hp->Prop,(∀σ' H',N σ' H'->∃m',m'<m/\W (i+1) m' σ' H')/\∀x H',J.ue i H x H'->g x σ H' λσ2 H2=>tb {D with nx:=N,ct:=N,bk:=D.nx} σ2 H2)
theorem tFor_eq {wi:TI} {g:TG} {tb:TS} {D:Ends} {σ:St} {H:Hp}:Gc wi g tb D σ H=wi σ H λJ H1=>Cy J g tb D σ H1:=rfl
theorem bH {J:It} {g:TG} {tb:TS} {D:Ends} {σ:St} {H:Hp} {n:Nat} {Item:Nat->V->Hp->Hp->Prop} {Ok:Hp->Prop} (S:Src J Ok n Item) (Pv:Nat->St->Hp->Prop) (h0:Pv 0 σ H) (bI:∀i σ H,i<=n->Pv i σ H->Ok H)
  (hs:∀i x σ H H3,i<n->Pv i σ H->Item i x H H3->g x σ H3 λσ2 H2=>tb {D with nx:=Pv (i+1),ct:=Pv (i+1),bk:=D.nx} σ2 H2) (hd:∀σ H,Pv n σ H->D.nx σ H):Cy J g tb D σ H:=by
 refine⟨λi m σ H=>m=n - i/\i<=n/\Pv i σ H,⟨n,by simp,aar _,h0⟩,?_⟩
 rintro i m σ H ⟨rfl,hi,p⟩
 by_cases en:i<n
 ·exact .inr ⟨S.go i H en (bI i σ H hi p),Pv (i+1),λσ' H' p'=>⟨n - (i+1),by omega,rfl,en,p'⟩,λx H' y=>hs i x σ H H' en p (S.ue i H x H' en (bI i σ H hi p) y)⟩
 ·have e:i=n:=by omega
  subst e
  exact .inl ⟨S.stop H (bI i σ H hi p),hd σ H p⟩
theorem g5 {K:PySem.W.Frag} {J:It} {te:TE} {tl:St} {H1:Hp} {fin:List V->Hp->Prop} {n:Nat} {Item:Nat->V->Hp->Hp->Prop} (S:Src J (aq H1) n Item) (GH:Nat->V->V->Hp->Prop)
  (tp:∀i x H H3,i<n->aq H1 H->Item i x H H3->aq H H3/\∃p a b,x=.ref p/\dR K H3 p [a,b]/\GH i a b H3) (hz:n<=sizeLine)
  (R:Nat->V->Hp->Prop) (mono:∀i y H H',aq H H'->R i y H->R i y H')
  (hs:∀i a b H3 (Q:VK),i<n->aq H1 H3->GH i a b H3->(∀y H6,aq H3 H6->R i y H6->Q y H6)->te (some a::some b::tl) H3 Q)
  (jU:∀ys H,aq H1 H->ys.length=n->(∀(i:Nat) y,ys[i]?=some y->R i y H)->fin ys H):eL J (xZ K 2 (gCons (gName 0) (gCons (gName 1) gNil))) gx te (none::none::tl) H1 fin:=by
 refine⟨λi m ys σ H=>m=n - i/\i<=n/\ys.length=i/\(∃w w',σ=w::w'::tl)/\aq H1 H/\∀(j:Nat) y,ys[j]?=some y->R j y H,⟨n,by simp,aar _,rfl,⟨_,_,rfl⟩,aq.refl _,λj y e=>by simp at e⟩,?_⟩
 rintro i m ys σ H ⟨rfl,hi,hl,⟨w,w',rfl⟩,sm,p⟩
 by_cases en:i<n
 ·refine .inr ⟨S.go i H en sm,λx H3 y=>?_⟩
  obtain⟨s3,q,a,b,rfl,sq,it⟩:=tp i x H H3 en sm (S.ue i H x H3 en sm y)
  refine⟨q,_,rfl,sq,rfl,_,_,rfl,_,_,rfl,rfl,?_⟩
  unfold gx
  refine Gz ?_
  refine hs i a b H3 _ en (sm.trans s3) it λy H6 s6 r=>⟨by omega,n - (i+1),by omega,rfl,en,by rw[aaM,List.length_singleton];omega,⟨_,_,rfl⟩,sm.trans (s3.trans s6),λj z e=>?_⟩
  by_cases hj:j<i
  ·rw[abf (by omega)] at e
   exact mono j z _ _ (s3.trans s6) (p j z e)
  ·rw[aa6 (by omega)] at e
   have e2:j - ys.length=0:=by
    by_cases q:j - ys.length=0
    ·exact q
    ·rw[aat (by simp;omega)] at e;cases e
   rw[e2] at e
   simp at e
   subst e
   have:j=i:=by omega
   subst this
   exact r
 ·have e:i=n:=by omega
  subst e
  exact .inl ⟨S.stop H sm,jU ys H sm hl p⟩
end L2
namespace L2
open PySem PySem.Spec PyProof.Rows
section
variable {X : Cx} {pins : List (Addr × Obj)} {σ : St} {H : Hp} {s : Shared}
theorem Inv.moved {h':Heap} {t':Nat} {ch:List Addr} (I:Inv X pins σ H s) (f:∀b∈ch,hW X pins H b) (k:∀b o,b∉ch->s.heap.get? b=some o->h'.get? b=some o):Inv X pins σ H {s with heap:=h',toks:=t'}:=by
 have Ck:∀b u,H b=some u->b∉ch:=λb u e z=>by rw[(f b z).1] at e;cases e
 refine I.step (g':=s.gens) (d':=s.drawn) (ch:=ch) (λb hb=>⟨(f b hb).2.2.2.1,(f b hb).2.1,(f b hb).2.2.2.2.1,(f b hb).2.2.2.2.2⟩) (λb o _ _ hc e _=>k b o hc e) (λb o _ _ hc e _=>⟨o.slots,k b o hc e⟩) (λ_ _ _ _ n=>n)
  (λb o hc e=>⟨o,k b o hc e⟩) (λ_ _ e=>e) (λ_ _ _ e=>e) (λb ps e=>⟨#[],by rw[e];simp⟩) (λm hm=>?_) (λb u e=>?_) I.bare
 ·obtain⟨o,es,ep,ho,r⟩:=hm
  exact⟨o,es,ep,k _ o (λz=>(f _ z).2.1 rfl) ho,r⟩
 ·refine(I.bI b u e).oN (λc v hc q=>k c v ?_ q) (λ_ q=>q) λ_ _ q=>q
  rcases hc with z | z
  ·rw[z];exact Ck b u e
  ·exact Ck c _ z
theorem Inv.take {ad:Addr} {o:HO} (I:Inv X pins σ H s) (f:hW X pins H ad) (new:X.s₀.heap.objs.size<=ad) (ok:bW X.prog X.w (upd H ad o) s.heap ad o):Inv X pins σ (upd H ad o) s:=by
 obtain⟨hn,nL,nf,_,nc,np⟩:=f
 have tk:∀b u,H b=some u->b≠ad:=λb u e z=>by rw[z,hn] at e;cases e
 refine⟨I.ok,I.os,I.bare,⟨I.base.keep,I.base.slot,λb ob e m hx=>?_,I.base.there,λb xs e=>?_,λb ob u e=>?_,λb ps e=>?_⟩,I.loc,I.cell,?_,λx c e=>?_,λp hp=>?_,λb u e=>?_,I.len⟩
 ·rw[au (aaj (aan (Heap.lt_size e) new))]
  exact I.base.free b ob e m hx
 ·have q:=I.base.kK b xs e
  rw[au (tk b _ q)];exact q
 ·have q:=I.base.mD b ob u e
  rw[au (tk b _ q)];exact q
 ·obtain⟨mo,q⟩:=I.base.mE b ps e
  exact⟨mo,by rw[au (tk b _ q)];exact q⟩
 ·rw[au (Ne.symm nL)];exact I.free
 ·rw[au (nc x c e)];exact I.gC x c e
 ·obtain⟨a,b,c⟩:=I.pin p hp
  exact⟨a,by rw[au (np p hp)];exact b,c⟩
 ·by_cases hb:b=ad
  ·subst hb
   rw[ah] at e
   cases e
   exact ok
  ·rw[au hb] at e
   exact(I.bI b u e).oN (λ_ _ _ q=>q) (λc r=>by rw[au (tk _ _ r)];exact r) λc xs r=>by rw[au (tk _ _ r)];exact r
end
noncomputable def KW (K:PySem.W.Frag) (a b:Addr):It:=
 ⟨λi H=>∃xs ys x y,aV K H a xs/\aV K H b ys/\xs[i]?=some x/\ys[i]?=some y,
  λi H v H'=>∃p,H p=none/\v=.ref p/\∃x y,(∀xs,aV K H a xs->xs[i]?=some x)/\(∀ys,aV K H b ys->ys[i]?=some y)/\H'=upd H p (.tup [x,y]),
  λi H=>∃xs ys,aV K H a xs/\aV K H b ys/\(i=min xs.length ys.length)⟩
theorem yH {P:Program} {w:World} {K:PySem.W.Frag} {elts:List Expr} {k:Nat} {pos:Pos} (z TI TO i1 i2 a b:Addr) (D:ZipApart z TI TO i1 i2 a b):
  Turn P w K (.Tuple elts k pos) (KW K a b) [z,TI,TO,i1,i2] z (λi h=>IsZip h z TI TO .none/\IsPair h TI (.ref i1) (.ref i2)/\(∃x y,IsPair h TO x y)/\h.IsListIter i1 a i/\h.IsListIter i2 b i) where
 mem:=by simp
 obj:=λi h st c hc=>by
  obtain⟨hz,Cz,⟨x,y,CA⟩,⟨o1,e1,_,d1⟩,⟨o2,e2,_,d2⟩⟩:=st
  simp only[List.mem_cons,List.not_mem_nil,or_false] at hc
  rcases hc with rfl | rfl | rfl | rfl | rfl
  ·exact⟨_,hz,λv q=>by cases q⟩
  ·exact⟨_,Cz,λv q=>by cases q⟩
  ·exact⟨_,CA,λv q=>by cases q⟩
  ·exact⟨_,e1,λv q=>by rw[d1] at q;cases q⟩
  ·exact⟨_,e2,λv q=>by rw[d2] at q;cases q⟩
 keep:=λi h h' st kp=>by
  obtain⟨hz,Cz,⟨x,y,CA⟩,h1,h2⟩:=st
  exact⟨kp z (by simp) _ hz,kp TI (by simp) _ Cz,⟨x,y,kp TO (by simp) _ CA⟩,h1.at λo e=>kp i1 (by simp) o e,h2.at λo e=>kp i2 (by simp) o e⟩
 item:=by
  intro X hP hw hK hc i pins s σ H E I hf st hg
  subst hP hw hK
  obtain⟨xs,ys,x,y,Bp,JE,hx,hy⟩:=hg
  obtain⟨iK,r1,p1,z1⟩:=I.list Bp
  obtain⟨kM,r2,p2,z2⟩:=I.list JE
  obtain⟨u,eu,ru⟩:=r1.get hx
  obtain⟨v,ev,rv⟩:=r2.get hy
  obtain⟨hz,Cz,⟨x0,y0,CA⟩,h1,h2⟩:=st
  have W:=WalksT.zip2 (prog:=X.prog) (w:=X.w) (I.ok.hd hc) z TI TO i1 i2 a b D iK.toArray kM.toArray
  have li:i<min iK.toArray.size kM.toArray.size:=by
   have a1:=(List.getElem?_eq_some_iff.mp eu).1
   have a2:=(List.getElem?_eq_some_iff.mp ev).1
   simp only[aah]
   omega
  refine W.item i s _ _ li ⟨hz,Cz,⟨x0,y0,CA⟩,h1,h2,p1.isList,p2.isList⟩ λT vals h' tk xN hT hI hm kk=>?_
  have sub:∀c∈[z,TO,i1,i2],c∈[z,TI,TO,i1,i2]:=λc hc=>by simp at hc ⊢;rcases hc with rfl | rfl | rfl | rfl <;>simp
  have I1:Inv X pins σ H {s with heap:=h',toks:=tk}:=I.moved (ch:=[z,TO,i1,i2]) (λc hc=>hf c (sub c hc)) kk
  have fT:hW X pins H T:=I.uf hT (I.bI.fresh hT)
  refine⟨_,rfl,W.go elts k pos i T _ _ _ hm λyI bL GI=>?_⟩
  have I2:Inv X pins σ H {s with heap:=yI,toks:=tk}:=I1.moved (s:={s with heap:=h',toks:=tk}) (t':=tk) (ch:=[z,TO,i1,i2]) (λc hc=>hf c (sub c hc)) GI
  obtain⟨x',y',ex,ey,rfl⟩:=xN
  have oG:iK[i]?=some x':=by simpa using ex
  have JF:kM[i]?=some y':=by simpa using ey
  rw[eu] at oG;cases oG
  rw[ev] at JF;cases JF
  have KY:=W.apart _ _ _ hm
  obtain⟨oT,eT,cT,nT,dT⟩:=hI
  have KZ:IsTup yI T #[u,v]:=⟨oT,GI _ _ KY eT,cT,nT,dT⟩
  have I3:Inv X pins σ (upd H T (.tup [x,y])) {s with heap:=yI,toks:=tk}:=
   I2.take fT (aas I.sz hT) ⟨by show 2<=sizeLine;decide,[u,v],.cons ru (.cons rv .nil),KZ⟩
  obtain⟨b1,b2,b3,b4,b5,_,_⟩:=bL
  refine⟨.ref T,_,I3,rfl,⟨T,fT.1,rfl,x,y,λqw q=>?_,λZP q=>?_,rfl⟩,⟨b1,b2,b3,b4,b5⟩,λc hc=>?_⟩
  ·rw[I.jb q Bp];exact hx
  ·rw[I.jb q JE];exact hy
  ·rw[au (λq=>?_)]
   ·exact(hf c hc).1
   ·subst q
    obtain⟨o,e,_⟩:∃o,s.heap.get? c=some o/\True:=by
     simp only[List.mem_cons,List.not_mem_nil,or_false] at hc
     obtain⟨o1,e1,_⟩:=h1
     obtain⟨o2,e2,_⟩:=h2
     rcases hc with rfl | rfl | rfl | rfl | rfl
     ·exact⟨_,hz,trivial⟩
     ·exact⟨_,Cz,trivial⟩
     ·exact⟨_,CA,trivial⟩
     ·exact⟨_,e1,trivial⟩
     ·exact⟨_,e2,trivial⟩
    exact absurd (Heap.lt_size e) (Nat.not_lt.mpr hT)
 done:=by
  intro X hP hw hK hc i pins s σ H E I hf st hg
  subst hP hw hK
  obtain⟨xs,ys,Bp,JE,hi⟩:=hg
  obtain⟨iK,r1,p1,z1⟩:=I.list Bp
  obtain⟨kM,r2,p2,z2⟩:=I.list JE
  obtain⟨hz,Cz,CA,h1,h2⟩:=st
  have W:=WalksT.zip2 (prog:=X.prog) (w:=X.w) (I.ok.hd hc) z TI TO i1 i2 a b D iK.toArray kM.toArray
  have l1:=r1.length
  have l2:=r2.length
  have e:i=min iK.toArray.size kM.toArray.size:=by simp only[aah];omega
  subst e
  have sub:∀c∈[z,TO,i1,i2],c∈[z,TI,TO,i1,i2]:=λc hc=>by simp at hc ⊢;rcases hc with rfl | rfl | rfl | rfl <;>simp
  exact W.done s _ _ ⟨hz,Cz,CA,h1,h2,p1.isList,p2.isList⟩ λh' tk kk=>⟨rfl,I.moved (ch:=[z,TO,i1,i2]) (λc hc=>hf c (sub c hc)) kk⟩
 self:=λ_ _ _ _ _ st h=>wpAny_pyIter_zip st.1 h
noncomputable def GJ (K:PySem.W.Frag) (a:Addr):It:=
 ⟨λi H=>∃xs x,aV K H a xs/\xs[i]?=some x,
  λi H v H'=>∃p,H p=none/\v=.ref p/\∃x,(∀xs,aV K H a xs->xs[i]?=some x)/\H'=upd H p (.tup [.int i,x]),
  λi H=>∃xs,aV K H a xs/\xs.length=i⟩
theorem xg {P:Program} {w:World} {K:PySem.W.Frag} {elts:List Expr} {k:Nat} {pos:Pos} (e it a:Addr) (JG:e≠it) (hle:a≠e) (SS:a≠it):
  Turn P w K (.Tuple elts k pos) (GJ K a) [e,it] e (λi h=>(∃old,IsEnum h e it i old)/\h.IsListIter it a i) where
 mem:=by simp
 obj:=λi h st c hc=>by
  obtain⟨⟨old,he⟩,⟨o1,e1,_,d1⟩⟩:=st
  simp only[List.mem_cons,List.not_mem_nil,or_false] at hc
  rcases hc with rfl | rfl
  ·exact⟨_,he,λv q=>by cases q⟩
  ·exact⟨_,e1,λv q=>by rw[d1] at q;cases q⟩
 keep:=λi h h' st kp=>by
  obtain⟨⟨old,he⟩,h1⟩:=st
  exact⟨⟨old,kp e (by simp) _ he⟩,h1.at λo q=>kp it (by simp) o q⟩
 item:=by
  intro X hP hw hK hc i pins s σ H E I hf st hg
  subst hP hw hK
  obtain⟨xs,x,Bp,hx⟩:=hg
  obtain⟨iK,r1,p1,z1⟩:=I.list Bp
  obtain⟨u,eu,ru⟩:=r1.get hx
  obtain⟨he,h1⟩:=st
  have W:=WalksT.enumerate (prog:=X.prog) (w:=X.w) (I.ok.hd hc) e it a JG hle SS iK.toArray
  have li:i<iK.toArray.size:=by
   have a1:=(List.getElem?_eq_some_iff.mp eu).1
   simp only[aah]
   omega
  refine W.item i s _ _ li ⟨he,h1,p1.isList⟩ λT vals h' tk xN hT hI hm kk=>?_
  have I1:Inv X pins σ H {s with heap:=h',toks:=tk}:=I.moved (ch:=[e,it]) hf kk
  have fT:hW X pins H T:=I.uf hT (I.bI.fresh hT)
  refine⟨_,rfl,W.go elts k pos i T _ _ _ hm λyI bL GI=>?_⟩
  have I2:Inv X pins σ H {s with heap:=yI,toks:=tk}:=I1.moved (s:={s with heap:=h',toks:=tk}) (t':=tk) (ch:=[e,it]) hf GI
  obtain⟨t,x',ex,rfl⟩:=xN
  have oG:iK[i]?=some x':=by simpa using ex
  rw[eu] at oG;cases oG
  have KY:=W.apart _ _ _ hm
  obtain⟨oT,eT,cT,nT,dT⟩:=hI
  have KZ:IsTup yI T #[.int i t,u]:=⟨oT,GI _ _ KY eT,cT,nT,dT⟩
  have I3:Inv X pins σ (upd H T (.tup [.int i,x])) {s with heap:=yI,toks:=tk}:=
   I2.take fT (aas I.sz hT) ⟨by show 2<=sizeLine;decide,[.int i t,u],.cons ⟨t,rfl⟩ (.cons ru .nil),KZ⟩
  obtain⟨b1,b2,_⟩:=bL
  refine⟨.ref T,_,I3,rfl,⟨T,fT.1,rfl,x,λqw q=>?_,rfl⟩,⟨b1,b2⟩,λc hc=>?_⟩
  ·rw[I.jb q Bp];exact hx
  ·rw[au (λq=>?_)]
   ·exact(hf c hc).1
   ·subst q
    obtain⟨o,e,_⟩:∃o,s.heap.get? c=some o/\True:=by
     simp only[List.mem_cons,List.not_mem_nil,or_false] at hc
     obtain⟨old,he⟩:=he
     obtain⟨o1,e1,_⟩:=h1
     rcases hc with rfl | rfl
     ·exact⟨_,he,trivial⟩
     ·exact⟨_,e1,trivial⟩
    exact absurd (Heap.lt_size e) (Nat.not_lt.mpr hT)
 done:=by
  intro X hP hw hK hc i pins s σ H E I hf st hg
  subst hP hw hK
  obtain⟨xs,Bp,hi⟩:=hg
  obtain⟨iK,r1,p1,z1⟩:=I.list Bp
  obtain⟨he,h1⟩:=st
  have W:=WalksT.enumerate (prog:=X.prog) (w:=X.w) (I.ok.hd hc) e it a JG hle SS iK.toArray
  have l1:=r1.length
  have e:i=iK.toArray.size:=by simp only[aah];omega
  subst e
  exact W.done s _ _ ⟨he,h1,p1.isList⟩ λh' tk kk=>⟨rfl,I.moved (ch:=[_,it]) hf kk⟩
 self:=λ_ _ _ _ _ st h=>by
  obtain⟨⟨old,he⟩,_⟩:=st
  exact wpAny_pyIter_enum he h
section
variable {X : Cx} {elts : List Expr} {kk : Nat} {gu : Pos}
noncomputable def iZip (K:PySem.W.Frag) (ta:TA):TI:=λσ H R=>ta σ H λvs H1=>∃a b,vs=[.ref a,.ref b]/\(∃xs,aV K H1 a xs)/\(∃ys,aV K H1 b ys)/\R (KW K a b) H1
theorem DT {a b:Expr} {ta:TA} {p pos:Pos} (hg:Gl X "zip") (hm:X.mg "zip"=none) (ha:PA X [a,b] ta) (hs:starEach [a,b] X.env=[(false,eval a X.env),(false,eval b X.env)]:=by rfl) (Cr:starEach [b] X.env=[(false,eval b X.env)]:=by rfl):
  PI X (.Tuple elts kk gu) (.Call (.Name "zip" p) [a,b] [] pos) (iZip X.K ta):=by
 intro pins s σ H R I h
 refine Call_ (gD I hg hm rfl (PyProof.Rows.callWith_type1 (bY (ha pos pins s σ H _ I h) λus s1 cD=>?_) (by rw[hs,Cr]) (by rw[Cr];rfl)))
 obtain⟨vs,H1,I1,r1,q1⟩:=cD
 obtain⟨a,b,e,⟨xs,q1⟩,⟨ys,q2⟩,q⟩:=q1
 subst e
 obtain⟨u,u',rfl,ra,rb⟩:=vals2 r1
 cases ra
 cases rb
 obtain⟨iK,v1,p1,z1⟩:=I1.list q1
 obtain⟨kM,v2,p2,z2⟩:=I1.list q2
 refine call_zip_2 p1.isList p2.isList λh' b1 b2 b3 b4 b5 b6 kp=>?_
 refine wpAny_pyIter_zip b1 ?_
 have I2:Inv X pins σ H1 {s1 with heap:=h'}:=I1.kept (t':=s1.toks) kp
 have la:a<s1.heap.objs.size:=by obtain⟨o,e,_⟩:=p1.isList;exact Heap.lt_size e
 have lb:b<s1.heap.objs.size:=by obtain⟨o,e,_⟩:=p2.isList;exact Heap.lt_size e
 refine⟨s1.heap.objs.size+4,[s1.heap.objs.size+4,s1.heap.objs.size+2,s1.heap.objs.size+3,s1.heap.objs.size,s1.heap.objs.size+1],_,_,H1,rfl,I2,
  yH (s1.heap.objs.size+4) (s1.heap.objs.size+2) (s1.heap.objs.size+3) s1.heap.objs.size (s1.heap.objs.size+1) a b (by constructor <;>(first | exact aaj (by omega) | exact Nat.ne_of_gt (by omega) | exact aaj la | exact aaj lb | exact aaj (aan la (Nat.le_add_right _ _)) | exact aaj (aan lb (Nat.le_add_right _ _)))),⟨b1,b2,⟨_,_,b3⟩,b4,b5⟩,λc hc=>?_,q⟩
 have yJ:s1.heap.objs.size<=c:=by
  simp only[List.mem_cons,List.not_mem_nil,or_false] at hc
  rcases hc with rfl | rfl | rfl | rfl | rfl <;>omega
 exact I1.uf yJ (I1.bI.fresh yJ)
noncomputable def iEnum (K:PySem.W.Frag) (ta:TA):TI:=λσ H R=>ta σ H λvs H1=>∃a,vs=[.ref a]/\(∃xs,aV K H1 a xs)/\R (GJ K a) H1
theorem qx {a:Expr} {ta:TA} {p pos:Pos} (hg:Gl X "enumerate") (hm:X.mg "enumerate"=none) (ha:PA X [a] ta) (hs:starEach [a] X.env=[(false,eval a X.env)]:=by rfl):
  PI X (.Tuple elts kk gu) (.Call (.Name "enumerate" p) [a] [] pos) (iEnum X.K ta):=by
 intro pins s σ H R I h
 refine Call_ (gD I hg hm rfl (PyProof.Rows.callWith_type1 (bY (ha pos pins s σ H _ I h) λus s1 cD=>?_) hs rfl))
 obtain⟨vs,H1,I1,r1,q1⟩:=cD
 obtain⟨a,e,⟨xs,q1⟩,q⟩:=q1
 subst e
 obtain⟨u,rfl,ra⟩:=vals1 r1
 cases ra
 obtain⟨iK,v1,p1,z1⟩:=I1.list q1
 refine call_enumerate_list p1.isList λh' b1 b2 b3 kp=>?_
 refine wpAny_pyIter_enum b1 ?_
 have I2:Inv X pins σ H1 {s1 with heap:=h'}:=I1.kept (t':=s1.toks) kp
 have la:a<s1.heap.objs.size:=by obtain⟨o,e,_⟩:=p1.isList;exact Heap.lt_size e
 refine⟨s1.heap.objs.size+1,[s1.heap.objs.size+1,s1.heap.objs.size],_,_,H1,rfl,I2,
  xg (s1.heap.objs.size+1) s1.heap.objs.size a (Nat.ne_of_gt (aaK _)) (aaj (aa9 la)) (aaj la),⟨⟨_,b1⟩,b2⟩,λc hc=>?_,q⟩
 have yJ:s1.heap.objs.size<=c:=by
  simp only[List.mem_cons,List.not_mem_nil,or_false] at hc
  rcases hc with rfl | rfl <;>omega
 exact I1.uf yJ (I1.bI.fresh yJ)
end
theorem lZ {K:PySem.W.Frag} {a b:Addr} {xs ys:List V} {Ok:Hp->Prop} (h1:∀H,Ok H->aV K H a xs) (h2:∀H,Ok H->aV K H b ys):
  Src (KW K a b) Ok (min xs.length ys.length) (λi v H H3=>∃p x y,H p=none/\v=.ref p/\xs[i]?=some x/\ys[i]?=some y/\H3=upd H p (.tup [x,y])) where
 go:=λi H hi ok=>⟨xs,ys,xs[i]'(by omega),ys[i]'(by omega),h1 H ok,h2 H ok,by simp,by simp⟩
 ue:=λi H x H3 hi ok ⟨p,n,e,u,v,e1,e2,e3⟩=>⟨p,u,v,n,e,e1 xs (h1 H ok),e2 ys (h2 H ok),e3⟩
 stop:=λH ok=>⟨xs,ys,h1 H ok,h2 H ok,rfl⟩
theorem eV {K:PySem.W.Frag} {a:Addr} {xs:List V} {Ok:Hp->Prop} (h1:∀H,Ok H->aV K H a xs):
  Src (GJ K a) Ok xs.length (λi v H H3=>∃p x,H p=none/\v=.ref p/\xs[i]?=some x/\H3=upd H p (.tup [.int i,x])) where
 go:=λi H hi ok=>⟨xs,xs[i],h1 H ok,by simp [hi]⟩
 ue:=λi H x H3 hi ok ⟨p,n,e,u,e1,e3⟩=>⟨p,u,n,e,e1 xs (h1 H ok),e3⟩
 stop:=λH ok=>⟨xs,h1 H ok,rfl⟩
end L2
namespace L2
open PySem PySem.Spec PyProof.Rows
inductive Dat where
 | cc | bl (b:Bool) | int (i:Int) | str (x:Str) | tup (l:List Dat) | lst (l:List Dat)
mutual
noncomputable def Rep (H:Hp):Dat->V->Prop
 | .cc,v=>v=.cc
 | .bl b,v=>v=.bl b
 | .int i,v=>v=.int i
 | .str x,v=>v=.str x
 | .tup ds,v=>∃p vs,v=.ref p/\H p=some (.tup vs)/\bj H ds vs
 | .lst ds,v=>∃p vs,v=.ref p/\H p=some (.lst vs)/\bj H ds vs
noncomputable def bj (H:Hp):List Dat->List V->Prop
 | [],vs=>vs=[]
 | d::ds,vs=>∃v r,vs=v::r/\Rep H d v/\bj H ds r
end
mutual
theorem Rep.mono {H H':Hp} (s:aq H H'):∀{d:Dat} {v:V},Rep H d v->Rep H' d v
 | .cc,_,h=>by rw[Rep] at *;exact h
 | .bl _,_,h=>by rw[Rep] at *;exact h
 | .int _,_,h=>by rw[Rep] at *;exact h
 | .str _,_,h=>by rw[Rep] at *;exact h
 | .tup _,_,h=>by
  rw[Rep] at *
  obtain⟨p,vs,e,hp,r⟩:=h
  exact⟨p,vs,e,s _ _ hp,bj.mono s r⟩
 | .lst _,_,h=>by
  rw[Rep] at *
  obtain⟨p,vs,e,hp,r⟩:=h
  exact⟨p,vs,e,s _ _ hp,bj.mono s r⟩
theorem bj.mono {H H':Hp} (s:aq H H'):∀{ds:List Dat} {vs:List V},bj H ds vs->bj H' ds vs
 | [],_,h=>by rw[bj] at *;exact h
 | _::_,_,h=>by
  rw[bj] at *
  obtain⟨v,r,e,h1,h2⟩:=h
  exact⟨v,r,e,Rep.mono s h1,bj.mono s h2⟩
end
theorem bj.length {H:Hp}:∀{ds:List Dat} {vs:List V},bj H ds vs->ds.length=vs.length
 | [],_,h=>by rw[bj] at h;subst h;rfl
 | _::_,_,h=>by
  rw[bj] at h
  obtain⟨v,r,rfl,_,h2⟩:=h
  simp [h2.length]
theorem bj.get {H:Hp}:∀{ds:List Dat} {vs:List V} {i:Nat} {v:V},bj H ds vs->vs[i]?=some v->∃d,ds[i]?=some d/\Rep H d v
 | [],_,i,v,h,e=>by rw[bj] at h;subst h;simp at e
 | d::ds,_,i,v,h,e=>by
  rw[bj] at h
  obtain⟨v',r,rfl,h1,h2⟩:=h
  cases i with
  | zero=>simp at e;subst e;exact⟨d,rfl,h1⟩
  | succ i=>simp at e;obtain⟨d',e',r'⟩:=h2.get e;exact⟨d',by simpa using e',r'⟩
theorem bj.at {H:Hp}:∀{ds:List Dat} {vs:List V} {i:Nat} {d:Dat},bj H ds vs->ds[i]?=some d->∃v,vs[i]?=some v/\Rep H d v
 | [],_,i,v,h,e=>by simp at e
 | d::ds,_,i,d',h,e=>by
  rw[bj] at h
  obtain⟨v',r,rfl,h1,h2⟩:=h
  cases i with
  | zero=>simp at e;subst e;exact⟨v',rfl,h1⟩
  | succ i=>simp at e;obtain⟨v,e',r'⟩:=h2.at e;exact⟨v,by simpa using e',r'⟩
theorem bj.of {H:Hp}:∀{ds:List Dat} {vs:List V},ds.length=vs.length->(∀(i:Nat) d v,ds[i]?=some d->vs[i]?=some v->Rep H d v)->bj H ds vs
 | [],[],_,_=>by rw[bj]
 | [],_::_,h,_=>by simp at h
 | _::_,[],h,_=>by simp at h
 | d::ds,v::vs,h,k=>by
  rw[bj]
  exact⟨v,vs,rfl,k 0 d v rfl rfl,bj.of (by simpa using h) λi d' v' e1 e2=>k (i+1) d' v' (by simpa using e1) (by simpa using e2)⟩
noncomputable def depth:Dat->Nat
 | .tup l=>1+dL l
 | .lst l=>1+dL l
 | _=>0
where dL:List Dat->Nat
 | []=>0
 | d::ds=>max (depth d) (dL ds)
theorem eW {d:Dat}:∀{ds:List Dat},d∈ds->depth d<=depth.dL ds
 | e::ds,h=>by
  rw[depth.dL]
  rcases List.mem_cons.mp h with rfl | h
  ·exact Nat.le_max_left _ _
  ·exact aas (eW h) (Nat.le_max_right _ _)
section
variable {X : Cx} {pins : List (Addr × Obj)} {σ : St} {H : Hp} {s : Shared}
theorem all_true (n:Nat):((List.range n).all λ_=>true)=true:=by simp
theorem yK (I:Inv X pins σ H s):∀(n:Nat) (d:Dat),depth d<=n->∀(v v':V) (u u':Value) (A:Around),Rep H d v->Rep H d v'->RelV v u->RelV v' u'->A.units+n<cLine->SeqAt.EqAt A s u u' true:=by
 intro n
 induction n with
 | zero=>
  intro d hd v v' u u' A h h' r r' hu
  cases d with
  | cc=>rw[Rep] at h h';subst h h';cases r;cases r';exact SeqAt.EqAt.same _
  | bl b=>rw[Rep] at h h';subst h h';cases r;cases r';exact SeqAt.EqAt.same _
  | int i=>rw[Rep] at h h';subst h h';obtain⟨t,rfl⟩:=r;obtain⟨t',rfl⟩:=r';have:=SeqAt.EqAt.int_int (A:=A) (s:=s) i t i t';simpa using this
  | str x=>rw[Rep] at h h';subst h h';obtain⟨t,rfl⟩:=r;obtain⟨t',rfl⟩:=r';have:=SeqAt.EqAt.str_str (A:=A) (s:=s) x t x t';simpa using this
  | tup l=>rw[depth] at hd;omega
  | lst l=>rw[depth] at hd;omega
 | succ n ih=>
  intro d hd v v' u u' A h h' r r' hu
  cases d with
  | cc=>rw[Rep] at h h';subst h h';cases r;cases r';exact SeqAt.EqAt.same _
  | bl b=>rw[Rep] at h h';subst h h';cases r;cases r';exact SeqAt.EqAt.same _
  | int i=>rw[Rep] at h h';subst h h';obtain⟨t,rfl⟩:=r;obtain⟨t',rfl⟩:=r';have:=SeqAt.EqAt.int_int (A:=A) (s:=s) i t i t';simpa using this
  | str x=>rw[Rep] at h h';subst h h';obtain⟨t,rfl⟩:=r;obtain⟨t',rfl⟩:=r';have:=SeqAt.EqAt.str_str (A:=A) (s:=s) x t x t';simpa using this
  | tup l=>
   rw[Rep] at h h'
   obtain⟨p,vs,rfl,hp,rl⟩:=h
   obtain⟨p',GK,rfl,rZ,yL⟩:=h'
   cases r
   cases r'
   rw[depth] at hd
   by_cases uG:p=p'
   ·subst uG;exact SeqAt.EqAt.same _
   obtain⟨aP,rv,pl,hz⟩:=I.tuple (dR.of hp)
   obtain⟨its',yM,xO,GL⟩:=I.tuple (dR.of rZ)
   have e1:=rl.length
   have e2:=yL.length
   have l1:=rv.length
   have l2:=yM.length
   have R:=SeqAt.RcAt.tuples (A:=A) (e:=λ_=>true) pl xO (by omega) (λj h1 h2=>?_)
   ·simp only[aah,all_true,Bool.true_and] at R
    rw[show(aP.length==its'.length)=true by simp;omega] at R
    exact .of_refs uG R
   ·rw[aah] at h1 h2
    obtain⟨d,ed⟩:∃d,l[j]?=some d:=⟨l[j]'(by omega),by simp⟩
    obtain⟨v1,f1,q1⟩:=rl.at ed
    obtain⟨v2,f2,q2⟩:=yL.at ed
    obtain⟨u1,g1,w1⟩:=rv.get f1
    obtain⟨u2,g2,w2⟩:=yM.get f2
    have a1:aP.toArray[j]=u1:=by simpa [aac h1] using g1
    have a2:its'.toArray[j]=u2:=by simpa [aac h2] using g2
    rw[a1,a2]
    have:=eW (aad ed)
    exact ih d (by omega) v1 v2 u1 u2 A.in1 q1 q2 w1 w2 (by show A.units+1+n<cLine;omega)
  | lst l=>
   rw[Rep] at h h'
   obtain⟨p,vs,rfl,hp,rl⟩:=h
   obtain⟨p',GK,rfl,rZ,yL⟩:=h'
   cases r
   cases r'
   rw[depth] at hd
   by_cases uG:p=p'
   ·subst uG;exact SeqAt.EqAt.same _
   obtain⟨aP,rv,pl,hz⟩:=I.list (aV.of hp)
   obtain⟨its',yM,xO,GL⟩:=I.list (aV.of rZ)
   have e1:=rl.length
   have e2:=yL.length
   have l1:=rv.length
   have l2:=yM.length
   have R:=SeqAt.RcAt.lists (A:=A) (e:=λ_=>true) pl.isList xO.isList (by simp only[aah];omega) (by omega) (λj h1 h2=>?_)
   ·rw[all_true] at R
    exact .of_refs uG R
   ·rw[aah] at h1 h2
    obtain⟨d,ed⟩:∃d,l[j]?=some d:=⟨l[j]'(by omega),by simp⟩
    obtain⟨v1,f1,q1⟩:=rl.at ed
    obtain⟨v2,f2,q2⟩:=yL.at ed
    obtain⟨u1,g1,w1⟩:=rv.get f1
    obtain⟨u2,g2,w2⟩:=yM.get f2
    have a1:aP.toArray[j]=u1:=by simpa [aac h1] using g1
    have a2:its'.toArray[j]=u2:=by simpa [aac h2] using g2
    rw[a1,a2]
    have:=eW (aad ed)
    exact ih d (by omega) v1 v2 u1 u2 A.in1 q1 q2 w1 w2 (by show A.units+1+n<cLine;omega)
end
section
variable {X : Cx}
noncomputable def K0 (b:Bool):R2:=λx y H Q=>∃d,Rep H d x/\Rep H d y/\(∃p,x=.ref p)/\depth d<=40/\Q (.bl b) H
theorem DU {pins:List (Addr×Obj)} {σ:St} {H:Hp} {s:Shared} {d:Dat} {p p':Addr} (I:Inv X pins σ H s) (hu:X.A.units+64<cLine) (h:Rep H d (.ref p)) (h':Rep H d (.ref p')) (hd:depth d<=40):
  (∃aP its':List Value,IsTup s.heap p aP.toArray/\IsTup s.heap p' its'.toArray/\aP.length=its'.length/\∀j (h1:j<aP.toArray.size) (h2:j<its'.toArray.size),SeqAt.EqAt X.A.in1 s aP.toArray[j] its'.toArray[j] true)\/
  (∃aP its':List Value,s.heap.IsList p aP.toArray/\s.heap.IsList p' its'.toArray/\aP.length=its'.length/\∀j (h1:j<aP.toArray.size) (h2:j<its'.toArray.size),SeqAt.EqAt X.A.in1 s aP.toArray[j] its'.toArray[j] true):=by
 cases d with
 | cc=>rw[Rep] at h;cases h
 | bl b=>rw[Rep] at h;cases h
 | int i=>rw[Rep] at h;cases h
 | str x=>rw[Rep] at h;cases h
 | tup l=>
  left
  rw[Rep] at h h'
  obtain⟨_,vs,e,hp,rl⟩:=h
  cases e
  obtain⟨_,GK,e,rZ,yL⟩:=h'
  cases e
  rw[depth] at hd
  obtain⟨aP,rv,pl,hz⟩:=I.tuple (dR.of hp)
  obtain⟨its',yM,xO,GL⟩:=I.tuple (dR.of rZ)
  have e1:=rl.length
  have e2:=yL.length
  have l1:=rv.length
  have l2:=yM.length
  refine⟨aP,its',pl,xO,by omega,λj h1 h2=>?_⟩
  rw[aah] at h1 h2
  obtain⟨d,ed⟩:∃d,l[j]?=some d:=⟨l[j]'(by omega),by simp⟩
  obtain⟨v1,f1,q1⟩:=rl.at ed
  obtain⟨v2,f2,q2⟩:=yL.at ed
  obtain⟨u1,g1,w1⟩:=rv.get f1
  obtain⟨u2,g2,w2⟩:=yM.get f2
  have a1:aP.toArray[j]=u1:=by simpa [aac h1] using g1
  have a2:its'.toArray[j]=u2:=by simpa [aac h2] using g2
  rw[a1,a2]
  have:=eW (aad ed)
  exact yK I 40 d (by omega) v1 v2 u1 u2 X.A.in1 q1 q2 w1 w2 (by show X.A.units+1+40<cLine;omega)
 | lst l=>
  right
  rw[Rep] at h h'
  obtain⟨_,vs,e,hp,rl⟩:=h
  cases e
  obtain⟨_,GK,e,rZ,yL⟩:=h'
  cases e
  rw[depth] at hd
  obtain⟨aP,rv,pl,hz⟩:=I.list (aV.of hp)
  obtain⟨its',yM,xO,GL⟩:=I.list (aV.of rZ)
  have e1:=rl.length
  have e2:=yL.length
  have l1:=rv.length
  have l2:=yM.length
  refine⟨aP,its',pl.isList,xO.isList,by omega,λj h1 h2=>?_⟩
  rw[aah] at h1 h2
  obtain⟨d,ed⟩:∃d,l[j]?=some d:=⟨l[j]'(by omega),by simp⟩
  obtain⟨v1,f1,q1⟩:=rl.at ed
  obtain⟨v2,f2,q2⟩:=yL.at ed
  obtain⟨u1,g1,w1⟩:=rv.get f1
  obtain⟨u2,g2,w2⟩:=yM.get f2
  have a1:aP.toArray[j]=u1:=by simpa [aac h1] using g1
  have a2:its'.toArray[j]=u2:=by simpa [aac h2] using g2
  rw[a1,a2]
  have:=eW (aad ed)
  exact yK I 40 d (by omega) v1 v2 u1 u2 X.A.in1 q1 q2 w1 w2 (by show X.A.units+1+40<cLine;omega)
theorem yN (hu:X.A.units+64<cLine):kc X (compareOp .Eq) (K0 true):=by
 intro pins s σ H x y v u Q I rx ry h
 obtain⟨d,h1,h2,⟨p,rfl⟩,hd,q⟩:=h
 obtain⟨p',rfl⟩:∃p',y=.ref p':=by
  cases d with
  | cc=>rw[Rep] at h1;cases h1
  | bl b=>rw[Rep] at h1;cases h1
  | int i=>rw[Rep] at h1;cases h1
  | str x=>rw[Rep] at h1;cases h1
  | tup l=>rw[Rep] at h2;obtain⟨p',_,e,_⟩:=h2;exact⟨p',e⟩
  | lst l=>rw[Rep] at h2;obtain⟨p',_,e,_⟩:=h2;exact⟨p',e⟩
 cases rx
 cases ry
 rcases DU I hu h1 h2 hd with ⟨aP,its',a,b,e,k⟩ | ⟨aP,its',a,b,e,k⟩
 ·refine SeqAt.eq_tupleAt (e:=λ_=>true) a b (by omega) k ⟨.bl true,H,I,?_,q⟩
  show Value.bool _=Value.bool true
  rw[all_true,aah,aah,e]
  simp
 ·refine SeqAt.eq_listAt (e:=λ_=>true) a b (by simp only[aah];exact e) (by omega) k ⟨.bl true,H,I,?_,q⟩
  show Value.bool _=Value.bool true
  rw[all_true]
noncomputable def rNeT:R2:=λx y H Q=>∃p q xs ys,x=.ref p/\y=.ref q/\H p=some (.tup xs)/\H q=some (.tup ys)/\xs.all il=true/\ys.all il=true/\Q (.bl (!GB xs ys)) H
theorem xh (hu:X.A.units<cLine):kc X (compareOp .NotEq) rNeT:=by
 intro pins s σ H x y v u Q I rx ry h
 obtain⟨p,q,xs,ys,rfl,rfl,hp,hq,fx,fy,k⟩:=h
 cases rx
 cases ry
 obtain⟨aP,r,pl,hz⟩:=I.tuple (dR.of hp)
 obtain⟨kM,r2,JB,UZ⟩:=I.tuple (dR.of hq)
 have l1:=r.length
 have l2:=r2.length
 refine SeqAt.RcNeAt.tuples (A:=X.A) (e:=λj=>Dv (xs.getD j .cc) (ys.getD j .cc)) pl JB hu (λj h1 h2=>?_) X.prog X.w X.xe _ ⟨.bl _,H,I,rfl,?_⟩
 ·rw[aah] at h1 h2
  exact yj (qu r h1) (qu r2 h2) (lU fx (by omega)) (lU fy (by omega))
 ·rw[aah,aah,<-l1,<-l2]
  exact k
end
end L2
namespace Nm
noncomputable def ins (x:Int):List Int->List Int
 | []=>[x]
 | y::r=>if x<=y then x::y::r else y::ins x r
noncomputable def gA:List Int->List Int
 | []=>[]
 | x::r=>ins x (gA r)
theorem mV (x:Int):∀l,(ins x l).Perm (x::l)
 | []=>.refl _
 | y::r=>by
  unfold ins
  split
  ·exact .refl _
  ·exact((mV x r).cons y).trans (.swap ..)
theorem gJ:∀l,(gA l).Perm l
 | []=>.refl _
 | x::r=>(mV x _).trans ((gJ r).cons x)
set_option tactic.hygienic true in
theorem vy (x:Int):∀l:List Int,l.Pairwise (·<=·)->(ins x l).Pairwise (·<=·)
 | [],_=>by unfold ins;simp
 | y::r,h=>by
  unfold ins
  rw[List.pairwise_cons] at h
  split
  ·rename_i c
   rw[List.pairwise_cons,List.pairwise_cons]
   refine⟨λz hz=>?_,h.1,h.2⟩
   rcases List.mem_cons.mp hz with rfl | hz
   ·exact c
   ·have:=h.1 z hz;omega
  ·rename_i c
   rw[List.pairwise_cons]
   refine⟨λz hz=>?_,vy x r h.2⟩
   rcases List.mem_cons.mp ((mV x r).mem_iff.mp hz) with rfl | hz
   ·omega
   ·exact h.1 z hz
theorem qy:∀l:List Int,(gA l).Pairwise (·<=·)
 | []=>by unfold gA;simp
 | x::r=>vy x _ (qy r)
theorem mW (l:List Int):(gA l).length=l.length:=(gJ l).length_eq
theorem vA:∀{a b:List Int},a.Perm b->a.Pairwise (·<=·)->b.Pairwise (·<=·)->a=b
 | [],b,p,_,_=>by simpa using p.symm.eq_nil
 | x::a,[],p,_,_=>by simpa using p.eq_nil
 | x::a,y::b,p,ha,hb=>by
  rw[List.pairwise_cons] at ha hb
  have e:x=y:=by
   have h1:y∈x::a:=p.mem_iff.mpr aal
   have h2:x∈y::b:=p.mem_iff.mp aal
   rcases List.mem_cons.mp h1 with h1 | h1
   ·exact h1.symm
   ·rcases List.mem_cons.mp h2 with h2 | h2
    ·exact h2
    ·have:=ha.1 y h1
     have:=hb.1 x h2
     omega
  subst e
  rw[vA ((List.perm_cons x).mp p) ha.2 hb.2]
theorem qz {a b:List Int} (p:a.Perm b) (o:a.Pairwise (·<=·)):a=gA b:=vA (p.trans (gJ b).symm) o (qy b)
theorem uH {a:List Int} (o:a.Pairwise (·<=·)):gA a=a:=(qz (.refl _) o).symm
theorem vB {a:Int} {l:List Int}:a∈gA l↔a∈l:=(gJ l).mem_iff
theorem DV {l:List Int} (h:l.Nodup):(gA l).Pairwise (·<·):=by
 have n:(gA l).Nodup:=(gJ l).nodup_iff.mpr h
 have o:=qy l
 exact(List.pairwise_and_iff.mpr ⟨o,n⟩).imp λ{a b} ⟨x,y⟩=>by omega
end Nm
namespace L2
open PySem PySem.Spec PyProof.Rows PySem.W
section
variable {X : Cx}
theorem uI {us:List Value} {ns:List Int} (h:IntsAre us ns):∃xs,us.toArray=intItems xs/\preSum (numAt xs) xs.size=ns.sum:=by
 obtain⟨xs,hx⟩:=h.allInts.items
 refine⟨xs,hx,?_⟩
 have e1:ns=xs.toList.map (·.1):=by
  rw[<-nums_intItems,<-hx]
  exact h.numsOf.symm
 rw[preSum_eq,aaD (by simp),e1]
theorem uJ (hc:X.calm=true):cv X (.builtin "sum") (λxs H Q=>∃p ns,xs=[.ref p]/\aV X.K H p (List.map V.int ns)/\Q (.int ns.sum) H):=by
 intro pins s σ H xs us Q I r h
 obtain⟨p,ns,rfl,hq,q⟩:=h
 obtain⟨u,rfl,rx⟩:=vals1 r
 cases rx
 obtain⟨aP,rv,pl,hz⟩:=I.list hq
 obtain⟨ys,e1,e2⟩:=uI (intsAre_of rv)
 have hl:=pl.isList
 rw[e1] at hl
 refine sum_intListG (I.ok.hd hc) hl λh' tk t' hk=>⟨.int ns.sum,H,I.kept (t':=tk) hk,⟨t',?_⟩,q⟩
 rw[e2]
theorem qA {us:List Value} {ns:List Int} (h:IntsAre us ns):aY (ns.map V.int) us:=by
 induction h with
 | nil=>exact .nil
 | cons n t _ ih=>exact .cons ⟨t,rfl⟩ ih
noncomputable def eX (kvs:List (Key×V)):List Int:=kvs.map λp=>match p.1 with | .inl i=>i | .inr _=>0
noncomputable def allI (kvs:List (Key×V)):Prop:=∀p∈kvs,∃i,p.1=Sum.inl i
end
section
variable {X : Cx} {pins : List (Addr × Obj)} {σ : St} {H : Hp} {s : Shared}
end
noncomputable def Vj (d:Addr) (o:Obj) (kvs:List (Key×V)):It:=
 ⟨λi H=>H d=some (.qX o (.dK kvs))/\i<kvs.length,λi H x H'=>H'=H/\∃p,kvs[i]?=some p/\x=kV p.1,λi H=>H d=some (.qX o (.dK kvs))/\i=kvs.length⟩
section
variable {X : Cx} {x : Str} {K1 : Pos}
noncomputable def iDict (tl:TE):TI:=λσ H R=>tl σ H λv H1=>∃d kvs,v=.ref d/\H1 d=some (.dK kvs)/\∀o,R (Vj d o kvs) (upd H1 d (.qX o (.dK kvs)))
end
end L2
namespace L2
open PySem PySem.Spec PyProof.Rows PySem.W
section
variable {X : Cx} {K : PySem.W.Frag}
theorem aS {tg l:Expr} {tl:TE} (hl:PE X l tl) (hK:X.K=K:=by rfl):PI X tg l (iList K tl):=by subst hK;exact AV hl
theorem Bq {tg l:Expr} {tl:TE} (hl:PE X l tl) (hK:X.K=K:=by rfl):PI X tg l (iTup K tl):=by subst hK;exact Dl hl
theorem jj {elts:List Expr} {kk:Nat} {gu:Pos} {a b:Expr} {ta:TA} {p pos:Pos} (hg:Gl X "zip") (hm:X.mg "zip"=none) (ha:PA X [a,b] ta) (n1:noStar a=true:=by rfl) (n2:noStar b=true:=by rfl) (hK:X.K=K:=by rfl):
  PI X (.Tuple elts kk gu) (.Call (.Name "zip" p) [a,b] [] pos) (iZip K ta):=by subst hK;exact DT hg hm ha (by rw[se n1,se n2];rfl) (by rw[se n2];rfl)
theorem cE {elts:List Expr} {kk:Nat} {gu:Pos} {a:Expr} {ta:TA} {p pos:Pos} (hg:Gl X "enumerate") (hm:X.mg "enumerate"=none) (ha:PA X [a] ta) (n1:noStar a=true:=by rfl) (hK:X.K=K:=by rfl):
  PI X (.Tuple elts kk gu) (.Call (.Name "enumerate" p) [a] [] pos) (iEnum K ta):=by subst hK;exact qx hg hm ha (by rw[se n1];rfl)
theorem bU {es:List Expr} {k:Nat} {t:Cp} {n:Nat} {pos:Pos} (hc:X.calm=true) (h:Fy X es t) (hn:(assignEach es X.env).length=n:=by rfl) (hst:(assignEach es X.env).findIdx? (·.1)=none:=by rfl) (hK:X.K=K:=by rfl):PG X (.Tuple es k pos) (xZ K n t):=by
 subst hK;exact Di hc h hn hst
theorem pL (hK:X.K=K:=by rfl):Ct X (DF K):=by subst hK;exact yt
theorem iL (hK:X.K=K:=by rfl):cv X (.builtin "len") (λxs H Q=>∃p ns,xs=[.ref p]/\aV K H p (List.map V.int ns)/\Q (.int (List.length ns:Nat)) H):=by subst hK;exact w6
theorem dm (hK:X.K=K:=by rfl):cv X (.type "list") (λxs H Q=>∃p ys,xs=[.ref p]/\(aV K H p ys\/dR K H p ys)/\∀l,H l=none->Q (.ref l) (upd H l (.lst ys))):=by subst hK;exact qo
theorem dZ (hK:X.K=K:=by rfl):cv X (.builtin "isinstance") (λxs H Q=>∃x c t b,xs=[x,.ty c]/\eP K H x t/\PySem.W.kitOne K t (.type c)=some b/\Q (.bl b) H):=by subst hK;exact yu
theorem gK (hc:X.calm=true:=by rfl) (hK:X.K=K:=by rfl):cv X (.builtin "sum") (λxs H Q=>∃p ns,xs=[.ref p]/\aV K H p (List.map V.int ns)/\Q (.int ns.sum) H):=by subst hK;exact uJ hc
theorem si (hK:X.K=K:=by rfl):Jz X (rSlL K):=by subst hK;exact A5
theorem JA.r {id:String} {r:V->List V->Hp->VK->Prop} (h:JA X id r):Fz X id r:=h
end
end L2
namespace Nm
abbrev Ws:=List (Int×Int)
noncomputable def keys (ws:Ws):List Int:=ws.map (·.1)
noncomputable def look:Ws->Int->Int
 | [],_=>0
 | p::r,k=>if p.1=k then p.2 else look r k
noncomputable def put:Ws->Int->Int->Ws
 | [],k,v=>[(k,v)]
 | p::r,k,v=>if p.1=k then (k,v)::r else p::put r k v
noncomputable def Vk (ws:Ws):Int:=(ws.map (·.2)).sum
structure Over (as ws:Ws) (B T:Int):Prop where
 nd:(keys ws).Nodup
 perm:(keys as).Perm (keys ws)
 val:∀k∈keys ws,look as k*T=look ws k*B
theorem yO {ws:Ws} {p:Int×Int} (h:(keys ws).Nodup) (hp:p∈ws):look ws p.1=p.2:=by
 induction ws with
 | nil=>cases hp
 | cons q r ih=>
  have h':q.1∉keys r/\(keys r).Nodup:=by simpa [keys] using h
  unfold look
  rcases List.mem_cons.mp hp with rfl | hp
  ·rw[if_pos rfl]
  ·rw[if_neg (λz=>h'.1 (by rw[z];exact List.mem_map.mpr ⟨p,hp,rfl⟩))]
   exact ih h'.2 hp
theorem yP {c:Int}:∀{l:List Int},(∀x∈l,x<=c)->l.sum<=l.length*c
 | [],_=>by simp
 | x::r,h=>by
  have hx:=h x aal
  have:=yP λy hy=>h y (aak _ hy)
  rw[List.sum_cons,aaw,Int.natCast_succ,Int.add_mul]
  omega
theorem DW {ws:Ws} (nd:(keys ws).Nodup) {P:Int->Prop} (h:∀k∈keys ws,P (look ws k)):∀x∈ws.map (·.2),P x:=λx hx=>by
 obtain⟨p,hp,rfl⟩:=List.mem_map.mp hx
 have:=h p.1 (List.mem_map.mpr ⟨p,hp,rfl⟩)
 rwa [yO nd hp] at this
theorem qB {ws:Ws} {c:Int} (nd:(keys ws).Nodup) (w:∀k∈keys ws,look ws k<=c):Vk ws<=ws.length*c:=by
 have:=yP (DW nd w)
 rwa [aab] at this
end Nm
namespace L2
open PySem PySem.Spec PyProof.Rows
noncomputable def bf (p:Int×Int):Dat:=.tup [.int p.1,.int p.2]
theorem bJ {H:Hp} {r:Int×Int} {v:V}:Rep H (bf r) v↔∃p,v=.ref p/\H p=some (.tup [.int r.1,.int r.2]):=by
 unfold bf
 simp only[Rep,bj]
 constructor
 ·rintro⟨p,vs,rfl,hp,a,b,rfl,rfl,c,d,rfl,rfl,rfl⟩
  exact⟨p,rfl,hp⟩
 ·rintro⟨p,rfl,hp⟩
  exact⟨p,_,rfl,hp,_,_,rfl,rfl,_,_,rfl,rfl,rfl⟩
theorem aL {H:Hp} {ds:List Dat} {v:V}:Rep H (.lst ds) v↔∃p vs,v=.ref p/\H p=some (.lst vs)/\bj H ds vs:=by rw[Rep]
noncomputable def SU (H H':Hp):Prop:=∀p xs,(H p=some (.tup xs)->H' p=some (.tup xs))/\(H p=some (.lst xs)->H' p=some (.lst xs))
mutual
theorem Rep.GN {H H':Hp} (s:SU H H'):∀{d:Dat} {v:V},Rep H d v->Rep H' d v
 | .cc,_,h=>by rw[Rep] at *;exact h
 | .bl _,_,h=>by rw[Rep] at *;exact h
 | .int _,_,h=>by rw[Rep] at *;exact h
 | .str _,_,h=>by rw[Rep] at *;exact h
 | .tup _,_,h=>by
  rw[Rep] at *
  obtain⟨p,vs,e,hp,r⟩:=h
  exact⟨p,vs,e,(s _ _).1 hp,bj.GN s r⟩
 | .lst _,_,h=>by
  rw[Rep] at *
  obtain⟨p,vs,e,hp,r⟩:=h
  exact⟨p,vs,e,(s _ _).2 hp,bj.GN s r⟩
theorem bj.GN {H H':Hp} (s:SU H H'):∀{ds:List Dat} {vs:List V},bj H ds vs->bj H' ds vs
 | [],_,h=>by rw[bj] at *;exact h
 | _::_,_,h=>by
  rw[bj] at *
  obtain⟨v,r,e,h1,h2⟩:=h
  exact⟨v,r,e,Rep.GN s h1,bj.GN s h2⟩
end
theorem none_of {H H':Hp} (s:aq H H') {p:Addr} (h:H' p=none):H p=none:=by
 cases e:H p with
 | none=>rfl
 | some o=>rw[s p o e] at h;cases h
end L2
namespace Nm
end Nm
namespace L2
open PySem PySem.Spec PyProof.Rows
theorem dc {α:Type} {J:It} {tc:TT} {te:TE} {tl:St} {H1:Hp} {fin:List V->Hp->Prop} {Item:Nat->V->Hp->Hp->Prop} (as:List α) (f:α->Option Int) (S:Src J (aq H1) as.length Item) (sub:∀i x H H3,Item i x H H3->H3=H) (hz:as.length<=sizeLine)
  (hs:∀i a x,as[i]?=some a->Item i x H1 H1->∀(Y:VK) (N:Hp->Prop),(∀z,f a=some z->Y (.int z) H1)->(f a=none->N H1)->tc (some x::tl) H1 λb H5=>if b=true then te (some x::tl) H5 Y else N H5)
  (jU:fin (List.map V.int (as.filterMap f)) H1):eL J (gName 0) tc te (none::tl) H1 fin:=by
 refine gZ S (λσ=>∃w0,σ=w0::tl) ⟨_,rfl⟩ (λi ys H=>H=H1/\ys=List.map V.int ((as.take i).filterMap f)) ⟨rfl,by simp⟩ hz ?_ ?_
 ·rintro i x σ H ys H3 Q N hi sm ⟨rfl,rfl⟩ hl ⟨w0,rfl⟩ it kq kn
  obtain rfl:=sub _ _ _ _ it
  have ea:as[i]?=some as[i]:=aac hi
  refine hs i _ x ea it _ _ (λz e=>kq _ _ _ ⟨_,rfl⟩ sm ⟨rfl,?_⟩) (λe=>kn _ _ ⟨_,rfl⟩ sm ⟨rfl,?_⟩)
  ·rw[aaI,ea,abg,aaO]
   simp [e]
  ·rw[aaI,ea,abg,aaO]
   simp [e]
 ·rintro ys H sm ⟨rfl,rfl⟩ hl
  rw[aaD (aae _)]
  exact jU
theorem fG {K:PySem.W.Frag} {α:Type} {J:It} {tc:TT} {te:TE} {tl:St} {H1:Hp} {fin:List V->Hp->Prop} {Item:Nat->V->Hp->Hp->Prop} (as:List α) (f:α->Option Int) (S:Src J (aq H1) as.length Item) (sub:∀i x H H3,Item i x H H3->H3=H) (hz:as.length<=sizeLine)
  (hs:∀i a x,as[i]?=some a->Item i x H1 H1->∃p u v,x=.ref p/\dR K H1 p [u,v]/\∀(Y:VK) (N:Hp->Prop),(∀z,f a=some z->Y (.int z) H1)->(f a=none->N H1)->tc (some u::some v::tl) H1 λb H5=>if b=true then te (some u::some v::tl) H5 Y else N H5)
  (jU:fin (List.map V.int (as.filterMap f)) H1):eL J (xZ K 2 (gCons (gName 0) (gCons (gName 1) gNil))) tc te (none::none::tl) H1 fin:=by
 refine gZ S (λσ=>∃w0 w1,σ=w0::w1::tl) ⟨_,_,rfl⟩ (λi ys H=>H=H1/\ys=List.map V.int ((as.take i).filterMap f)) ⟨rfl,by simp⟩ hz ?_ ?_
 ·rintro i x σ H ys H3 Q N hi sm ⟨rfl,rfl⟩ hl ⟨w0,w1,rfl⟩ it kq kn
  obtain rfl:=sub _ _ _ _ it
  have ea:as[i]?=some as[i]:=aac hi
  obtain⟨p,u,v,rfl,sq,k⟩:=hs i _ x ea it
  refine⟨p,_,rfl,sq,rfl,_,_,rfl,_,_,rfl,rfl,?_⟩
  refine k _ _ (λz e=>kq _ _ _ ⟨_,_,rfl⟩ sm ⟨rfl,?_⟩) (λe=>kn _ _ ⟨_,_,rfl⟩ sm ⟨rfl,?_⟩)
  ·rw[aaI,ea,abg,aaO]
   simp [e]
  ·rw[aaI,ea,abg,aaO]
   simp [e]
 ·rintro ys H sm ⟨rfl,rfl⟩ hl
  rw[aaD (aae _)]
  exact jU
theorem dq {α β:Type} (f:α->β) (l:List α):l.filterMap (λa=>some (f a))=l.map f:=by
 rw[<-List.filterMap_eq_map];rfl
end L2
namespace L2
open PySem PySem.Spec PyProof.Rows PySem.W
section
variable {X : Cx} {K : PySem.W.Frag}
theorem mZ:∀{us:List Value} {bs:List Bool},aY (bs.map V.bl) us->LSm.BoolsAre us bs
 | _,[],.nil=>.nil
 | _,b::bs,.cons r t=>by
  have e:_=Value.bool b:=r
  subst e
  exact .cons b (mZ t)
theorem uK (hc:X.calm=true):cv X (.builtin "all") (λxs H Q=>∃p bs,xs=[.ref p]/\aV X.K H p (List.map V.bl bs)/\Q (.bl (bs.all id)) H):=by
 intro pins s σ H xs us Q I r h
 obtain⟨p,bs,rfl,hq,q⟩:=h
 obtain⟨u,rfl,rx⟩:=vals1 r
 cases rx
 obtain⟨aP,rv,pl,hz⟩:=I.list hq
 have hb:=mZ rv
 have hl:=pl.isList
 have en:p<s.heap.objs.size:=by obtain⟨_,e,_⟩:=hl;exact Heap.lt_size e
 refine call_all_walk (wpAny_pyIter_list hl ?_)
 refine⟨s.heap.objs.size,[s.heap.objs.size,p],[s.heap.objs.size],aP.toArray.size,_,_,λi=>(bs[i]?).getD true,rfl,Walks.list (A:=X.A.in1) (I.ok.hd hc) _ p (aaj en) aP.toArray,
  ⟨⟨_,Heap.get?_push_size _ rfl,rfl,rfl⟩,hl.push _⟩,λi v s' Q' E' hP hQ=>?_,λh' tk hk=>?_⟩
 ·obtain⟨b,e,rfl⟩:=hb.get i v (by simpa using hP)
  simp only[e,Option.getD_some] at hQ
  exact wpAny_truthy_bool hQ
 ·have e:((List.range aP.toArray.size).all λi=>(bs[i]?).getD true)=bs.all id:=by
   rw[aah,hb.length];exact LSm.range_all bs
  rw[e]
  exact⟨.bl _,H,I.kept (t':=tk) (LSm.kept_iter hk),rfl,q⟩
theorem uL (hc:X.calm=true):cv X (.builtin "any") (λxs H Q=>∃p bs,xs=[.ref p]/\aV X.K H p (List.map V.bl bs)/\Q (.bl (bs.any id)) H):=by
 intro pins s σ H xs us Q I r h
 obtain⟨p,bs,rfl,hq,q⟩:=h
 obtain⟨u,rfl,rx⟩:=vals1 r
 cases rx
 obtain⟨aP,rv,pl,hz⟩:=I.list hq
 have hb:=mZ rv
 have hl:=pl.isList
 have en:p<s.heap.objs.size:=by obtain⟨_,e,_⟩:=hl;exact Heap.lt_size e
 refine call_any_walk (wpAny_pyIter_list hl ?_)
 refine⟨s.heap.objs.size,[s.heap.objs.size,p],[s.heap.objs.size],aP.toArray.size,_,_,λi=>(bs[i]?).getD false,rfl,Walks.list (A:=X.A.in1) (I.ok.hd hc) _ p (aaj en) aP.toArray,
  ⟨⟨_,Heap.get?_push_size _ rfl,rfl,rfl⟩,hl.push _⟩,λi v s' Q' E' hP hQ=>?_,λh' tk hk=>?_⟩
 ·obtain⟨b,e,rfl⟩:=hb.get i v (by simpa using hP)
  simp only[e,Option.getD_some] at hQ
  exact wpAny_truthy_bool hQ
 ·have e:((List.range aP.toArray.size).any λi=>(bs[i]?).getD false)=bs.any id:=by
   rw[aah,hb.length];exact LSm.range_any bs
  rw[e]
  exact⟨.bl _,H,I.kept (t':=tk) (LSm.kept_iter hk),rfl,q⟩
theorem km (hc:X.calm=true:=by rfl) (hK:X.K=K:=by rfl):cv X (.builtin "all") (λxs H Q=>∃p bs,xs=[.ref p]/\aV K H p (List.map V.bl bs)/\Q (.bl (bs.all id)) H):=by subst hK;exact uK hc
theorem sj (hc:X.calm=true:=by rfl) (hK:X.K=K:=by rfl):cv X (.builtin "any") (λxs H Q=>∃p bs,xs=[.ref p]/\aV K H p (List.map V.bl bs)/\Q (.bl (bs.any id)) H):=by subst hK;exact uL hc
noncomputable def tSumV (to:TE):TE:=λσ H Q=>to σ H λv H1=>∃d kvs ns,v=.ref d/\H1 d=some (.dK kvs)/\kvs.map (·.2)=List.map V.int ns/\Q (.int ns.sum) H1
theorem pM {α:Type} {J:It} {tc:TT} {te:TE} {tl:St} {H1:Hp} {fin:List V->Hp->Prop} {Item:Nat->V->Hp->Hp->Prop} (as:List α) (f:α->Option V) (S:Src J (aq H1) as.length Item) (sub:∀i x H H3,Item i x H H3->H3=H) (hz:as.length<=sizeLine)
  (hs:∀i a x,as[i]?=some a->Item i x H1 H1->∀(Y:VK) (N:Hp->Prop),(∀z,f a=some z->Y z H1)->(f a=none->N H1)->tc (some x::tl) H1 λb H5=>if b=true then te (some x::tl) H5 Y else N H5)
  (jU:fin (as.filterMap f) H1):eL J (gName 0) tc te (none::tl) H1 fin:=by
 refine gZ S (λσ=>∃w0,σ=w0::tl) ⟨_,rfl⟩ (λi ys H=>H=H1/\ys=(as.take i).filterMap f) ⟨rfl,by simp⟩ hz ?_ ?_
 ·rintro i x σ H ys H3 Q N hi sm ⟨rfl,rfl⟩ hl ⟨w0,rfl⟩ it kq kn
  obtain rfl:=sub _ _ _ _ it
  have ea:as[i]?=some as[i]:=aac hi
  refine hs i _ x ea it _ _ (λz e=>kq _ _ _ ⟨_,rfl⟩ sm ⟨rfl,?_⟩) (λe=>kn _ _ ⟨_,rfl⟩ sm ⟨rfl,?_⟩)
  ·rw[aaI,ea,abg]
   simp [e]
  ·rw[aaI,ea,abg]
   simp [e]
 ·rintro ys H sm ⟨rfl,rfl⟩ hl
  rw[aaD (aae _)]
  exact jU
theorem aW {a b:TS} {D:Ends} {σ:St} {H:Hp} (C:St->Hp->Prop) (hb:∀σ' H',C σ' H'->b D σ' H') (ha:∀N:St->Hp->Prop,(∀σ' H',C σ' H'->N σ' H')->a {D with nx:=N} σ H):tSeq a b D σ H:=ha _ hb
end
end L2
namespace Nm
noncomputable def pos (ps:Ws):Ws:=ps.filter λp=>decide (0<p.2)
end Nm
namespace L2
open PySem PySem.Spec PyProof.Rows PySem.W
section
variable {X : Cx} {K : PySem.W.Frag}
noncomputable def rJoin (K:PySem.W.Frag):V->List V->Hp->VK->Prop:=λx xs H Q=>∃sep p ts,x=.str sep/\xs=[.ref p]/\aV K H p (List.map V.str ts)/\JoinOk sep ts=true/\Q (.str (Txt.join sep ts)) H
abbrev TJ:=Str->TE
noncomputable def jNil:TJ:=λacc _ H Q=>Q (.str acc) H
noncomputable def jLit (x:Str) (t:TJ):TJ:=λacc σ H Q=>(acc++x).length<=sizeLine/\t (acc++x) σ H Q
noncomputable def jInt (te:TE) (t:TJ):TJ:=λacc σ H Q=>te σ H λv H1=>∃i,v=.int i/\i.natAbs.log2<1920/\(acc++toString i).length<=sizeLine/\t (acc++toString i) σ H1 Q
noncomputable def jStr (te:TE) (t:TJ):TJ:=λacc σ H Q=>te σ H λv H1=>∃z,v=.str z/\z.length<=sizeLine/\(acc++z).length<=sizeLine/\t (acc++z) σ H1 Q
noncomputable def tJoined (t:TJ):TE:=λσ H Q=>t Str.empty σ H Q
end
end L2
namespace L2
open PySem PySem.Spec PyProof.Rows PySem.W
inductive Pl where
 | fin (w:Int×Int) | dO (w:Int×Int) (ws:List (Int×Int)) | cu (aR:Int) (to:List Int)
noncomputable def oJ:Pl->Dat
 | .fin w=>.tup [.str (Str.ofString "end"),bf w]
 | .dO w ws=>.tup [.str (Str.ofString "throw"),bf w,.lst (ws.map bf)]
 | .cu aR to=>.tup [.str (Str.ofString "pick"),.int aR,.lst (to.map .int)]
noncomputable def uM (b:List Pl):Dat:=.lst (b.map oJ)
theorem g6 {H:Hp}:∀{ns:List Int} {vs:List V},bj H (ns.map Dat.int) vs↔vs=ns.map V.int
 | [],vs=>by simp only[aaR,bj]
 | n::ns,vs=>by
  simp only[aao,bj,Rep]
  constructor
  ·rintro⟨v,r,rfl,rfl,h⟩
   rw[g6.mp h]
  ·rintro rfl
   exact⟨_,_,rfl,rfl,g6.mpr rfl⟩
theorem cG {H:Hp} {w:Int×Int} {v:V}:Rep H (oJ (.fin w)) v↔∃p q,v=.ref p/\H p=some (.tup [.str (Str.ofString "end"),.ref q])/\H q=some (.tup [.int w.1,.int w.2]):=by
 show Rep H (.tup [.str (Str.ofString "end"),bf w]) v↔_
 rw[Rep]
 simp only[bj,bJ]
 constructor
 ·rintro⟨p,vs,rfl,hp,_,_,rfl,e,_,_,rfl,⟨q,rfl,hq⟩,rfl⟩
  rw[Rep] at e
  subst e
  exact⟨p,q,rfl,hp,hq⟩
 ·rintro⟨p,q,rfl,hp,hq⟩
  exact⟨p,_,rfl,hp,_,_,rfl,by rw[Rep],_,_,rfl,⟨q,rfl,hq⟩,rfl⟩
theorem cH {H:Hp} {w:Int×Int} {ws:List (Int×Int)} {v:V}:Rep H (oJ (.dO w ws)) v↔∃p q l xs,v=.ref p/\H p=some (.tup [.str (Str.ofString "throw"),.ref q,.ref l])/\H q=some (.tup [.int w.1,.int w.2])/\H l=some (.lst xs)/\bj H (ws.map bf) xs:=by
 show Rep H (.tup [.str (Str.ofString "throw"),bf w,.lst (ws.map bf)]) v↔_
 rw[Rep]
 simp only[bj,bJ]
 constructor
 ·rintro⟨p,vs,rfl,hp,_,_,rfl,e,_,_,rfl,⟨q,rfl,hq⟩,_,_,rfl,k,rfl⟩
  rw[Rep] at e
  subst e
  obtain⟨l,xs,rfl,hl,r⟩:=aL.mp k
  exact⟨p,q,l,xs,rfl,hp,hq,hl,r⟩
 ·rintro⟨p,q,l,xs,rfl,hp,hq,hl,r⟩
  exact⟨p,_,rfl,hp,_,_,rfl,by rw[Rep],_,_,rfl,⟨q,rfl,hq⟩,_,_,rfl,aL.mpr ⟨l,xs,rfl,hl,r⟩,rfl⟩
theorem cq {H:Hp} {aR:Int} {to:List Int} {v:V}:Rep H (oJ (.cu aR to)) v↔∃p l,v=.ref p/\H p=some (.tup [.str (Str.ofString "pick"),.int aR,.ref l])/\H l=some (.lst (to.map V.int)):=by
 show Rep H (.tup [.str (Str.ofString "pick"),.int aR,.lst (to.map .int)]) v↔_
 rw[Rep]
 simp only[bj]
 constructor
 ·rintro⟨p,vs,rfl,hp,_,_,rfl,e,_,_,rfl,e2,_,_,rfl,k,rfl⟩
  rw[Rep] at e
  rw[Rep] at e2
  subst e e2
  obtain⟨l,xs,rfl,hl,r⟩:=aL.mp k
  rw[g6] at r
  subst r
  exact⟨p,l,rfl,hp,hl⟩
 ·rintro⟨p,l,rfl,hp,hl⟩
  exact⟨p,_,rfl,hp,_,_,rfl,by rw[Rep],_,_,rfl,by rw[Rep],_,_,rfl,aL.mpr ⟨l,_,rfl,hl,g6.mpr rfl⟩,rfl⟩
theorem DX {H:Hp} {q:Pl} {v:V} (h:Rep H (oJ q) v):∃p k r,v=.ref p/\H p=some (.tup (.str k::r)):=by
 cases q with
 | fin w=>obtain⟨p,q,rfl,hp,_⟩:=cG.mp h;exact⟨p,_,_,rfl,hp⟩
 | dO w ws=>obtain⟨p,q,l,xs,rfl,hp,_⟩:=cH.mp h;exact⟨p,_,_,rfl,hp⟩
 | cu aR to=>obtain⟨p,l,rfl,hp,_⟩:=cq.mp h;exact⟨p,_,_,rfl,hp⟩
theorem m6 {ds:List Dat} {n:Nat} (h:∀d∈ds,depth d<=n):depth.dL ds<=n:=by
 induction ds with
 | nil=>rw[depth.dL];omega
 | cons d ds ih=>
  rw[depth.dL]
  have:=h d aal
  have:=ih λe he=>h e (aak _ he)
  omega
theorem uN (p:Int×Int):depth (bf p)=1:=by simp [bf,depth,depth.dL]
theorem d7 {H:Hp} {b:List Pl} {xs:List V} {i:Nat} {x:V} (h:bj H (b.map oJ) xs) (e:xs[i]?=some x):∃q,b[i]?=some q/\Rep H (oJ q) x:=by
 obtain⟨d,ed,rd⟩:=h.get e
 rw[aaf] at ed
 obtain⟨q,eq,rfl⟩:=Option.map_eq_some_iff.mp ed
 exact⟨q,eq,rd⟩
theorem d3 {H:Hp} {b:List Pl} {xs:List V} {i:Nat} {q:Pl} (h:bj H (b.map oJ) xs) (e:b[i]?=some q):∃x,xs[i]?=some x/\Rep H (oJ q) x:=
 h.at (by rw[aaf,e];rfl)
theorem cK {α:Type} {H:Hp} {f:α->Dat} {as:List α} {ys:List V} (hl:ys.length=as.length) (h:∀(i:Nat) y,ys[i]?=some y->∀a,as[i]?=some a->Rep H (f a) y):bj H (as.map f) ys:=
 bj.of (by rw[aab,hl]) λi d v e1 e2=>by
  rw[aaf] at e1
  obtain⟨a,ea,rfl⟩:=Option.map_eq_some_iff.mp e1
  exact h i v e2 a ea
noncomputable def c7 (H:Hp) (p:Addr):Hp:=λa=>if a=p then none else H a
theorem cm {H:Hp} {p a:Addr} (h:a≠p):c7 H p a=H a:=if_neg h
theorem Br {H:Hp} {p:Addr} {o:HO}:aq (c7 H p) (upd H p o):=λa u e=>by
 unfold c7 at e
 by_cases h:a=p
 ·rw[if_pos h] at e;cases e
 ·rw[if_neg h] at e;rw[au h];exact e
theorem cX {H:Hp} {p:Addr}:aq (c7 H p) H:=λa u e=>by
 unfold c7 at e
 by_cases h:a=p
 ·rw[if_pos h] at e;cases e
 ·rw[if_neg h] at e;exact e
theorem sk {H0 H:Hp} {p:Addr} (s:aq H0 H) (n:H0 p=none):aq H0 (c7 H p):=λa u e=>by
 rw[cm (λz=>by rw[z,n] at e;cases e)]
 exact s _ _ e
theorem bP {H H':Hp} {p:Addr} (s:aq H H'):aq (c7 H p) (c7 H' p):=λa u e=>by
 unfold c7 at *
 by_cases h:a=p
 ·rw[if_pos h] at e;cases e
 ·rw[if_neg h] at e ⊢;exact s _ _ e
theorem aU {H0 H:Hp} {p:Addr} {o:HO} (s:aq H0 H) (n:H0 p=none):aq H0 (upd H p o):=(sk s n).trans Br
theorem eM {α β:Type} {f:α->β} {as:List α} {i:Nat} {a:α} (h:as[i]?=some a):eA (as.map f) (i:Int)=some (f a):=bA (by rw[aaf,h];rfl)
theorem su {c:TT} {tb:TS} {D:Ends} {σ:St} {H:Hp} (W:Nat->St->Hp->Prop) {m:Nat} (h0:W m σ H)
  (hs:∀m σ H,W m σ H->c σ H λb H1=>if b=true then tb {D with nx:=λσ' H'=>∃m',m'<m/\W m' σ' H',ct:=λσ' H'=>∃m',m'<m/\W m' σ' H',bk:=D.nx} σ H1 else D.nx σ H1)
  (mono:∀σ H Q Q',(∀b H1,Q b H1->Q' b H1)->c σ H Q->c σ H Q'):qi c tb D σ H:=by
 refine⟨W,⟨m,h0⟩,λm σ H w=>mono σ H _ _ (λb H1 q=>?_) (hs m σ H w)⟩
 cases b with
 | true=>exact⟨_,λ_ _ h=>h,q⟩
 | false=>exact q
theorem pN {K:PySem.W.Frag} {α:Type} {J:It} {tc:TT} {te:TE} {tl:St} {H1:Hp} {fin:List V->Hp->Prop} {Item:Nat->V->Hp->Hp->Prop} (as:List α) (f:α->Option V) (S:Src J (aq H1) as.length Item) (GH:Nat->V->V->Hp->Prop)
  (tp:∀i x H H3,i<as.length->aq H1 H->Item i x H H3->aq H H3/\∃p a b,x=.ref p/\dR K H3 p [a,b]/\GH i a b H3) (hz:as.length<=sizeLine)
  (hs:∀i a u v H3,as[i]?=some a->aq H1 H3->GH i u v H3->∀(Y:VK) (N:Hp->Prop),(∀z H6,f a=some z->aq H3 H6->Y z H6)->(∀H6,f a=none->aq H3 H6->N H6)->tc (some u::some v::tl) H3 λb H5=>if b=true then te (some u::some v::tl) H5 Y else N H5)
  (jU:∀H2,aq H1 H2->fin (as.filterMap f) H2):eL J (xZ K 2 (gCons (gName 0) (gCons (gName 1) gNil))) tc te (none::none::tl) H1 fin:=by
 refine gZ S (λσ=>∃w0 w1,σ=w0::w1::tl) ⟨_,_,rfl⟩ (λi ys _=>ys=(as.take i).filterMap f) (by simp) hz ?_ ?_
 ·rintro i x σ H ys H3 Q N hi sm rfl hl ⟨w0,w1,rfl⟩ it kq kn
  obtain⟨s3,p,u,v,rfl,sq,i2⟩:=tp i x H H3 hi sm it
  have ea:as[i]?=some as[i]:=aac hi
  refine⟨p,_,rfl,sq,rfl,_,_,rfl,_,_,rfl,rfl,?_⟩
  refine hs i _ u v H3 ea (sm.trans s3) i2 _ _ (λz H6 e s6=>kq _ _ _ ⟨_,_,rfl⟩ (sm.trans (s3.trans s6)) ?_) (λH6 e s6=>kn _ _ ⟨_,_,rfl⟩ (sm.trans (s3.trans s6)) ?_)
  ·rw[aaI,ea,abg]
   simp [e]
  ·rw[aaI,ea,abg]
   simp [e]
 ·rintro ys H sm rfl hl
  rw[aaD (aae _)]
  exact jU H sm
theorem g7 {α:Type} (f:α->V) (p:α->Bool):∀l:List α,l.filterMap (λi=>if p i=true then some (f i) else none)=(l.filter p).map f
 | []=>rfl
 | x::l=>by
  rw[List.filterMap_cons,List.filter_cons]
  by_cases c:p x=true
  ·simp only[c,if_true,aao,g7 f p l]
  ·simp only[c,if_false,g7 f p l]
   rfl
section
variable {X : Cx} {K : PySem.W.Frag}
theorem uO (hc:X.calm=true):cv X (.builtin "max") (λxs H Q=>∃p ns,xs=[.ref p]/\aV X.K H p (List.map V.int ns)/\0<ns.length/\∀M,M∈ns->(∀a∈ns,a<=M)->Q (.int M) H):=by
 intro pins s σ H xs us Q I r h
 obtain⟨p,ns,rfl,hq,Vl,q⟩:=h
 obtain⟨u,rfl,rx⟩:=vals1 r
 cases rx
 obtain⟨aP,rv,pl,hz⟩:=I.list hq
 have hi:=intsAre_of rv
 have hl:=pl.isList
 obtain⟨xs,e⟩:=hi.allInts.items
 have CB:ns=xs.toList.map (·.1):=by rw[<-hi.numsOf,<-nums_intItems,<-e]
 have hsz:0<xs.size:=by
  have h3:=Vl;rw[CB,aab,abk] at h3;exact h3
 rw[e] at hl
 refine max_intList (I.ok.hd hc) hl hsz λv h' tk hv hk=>?_
 obtain⟨t,rfl⟩:=intItems_at hv
 obtain⟨h1,h2⟩:=argBest_gt (numAt xs) (xs.size - 1)
 refine⟨.int _,H,I.kept (t':=tk) hk,⟨t,rfl⟩,q _ ?_ λa ha=>?_⟩
 ·rw[CB,numAt_eq];exact getD_mem (by rw[aab,abk];omega)
 ·rw[CB] at ha
  obtain⟨j,hj,rfl⟩:=mem_getD ha
  rw[aab,abk] at hj
  rw[<-numAt_eq];exact h2 j (by omega)
theorem sv (hc:X.calm=true:=by rfl) (hK:X.K=K:=by rfl):cv X (.builtin "max") (λxs H Q=>∃p ns,xs=[.ref p]/\aV K H p (List.map V.int ns)/\0<ns.length/\∀M,M∈ns->(∀a∈ns,a<=M)->Q (.int M) H):=by subst hK;exact uO hc
end
end L2
namespace Lv
open L2
abbrev Fs:=List (Option Int)
noncomputable def eO:Pl->List Int
 | .fin _=>[]
 | .dO _ ws=>ws.map (·.2)
 | .cu _ to=>to
noncomputable def lk (fs:Fs) (g:Int):Option Int:=fs.getD g.toNat none
noncomputable def CC (fs:Fs) (q:Pl):Bool:=
 match q with
 | .dO _ ws=>(ws.map (·.2)).any λg=>(lk fs g).isSome
 | .fin _=>true
 | .cu _ to=>to.all λg=>(lk fs g).isSome
noncomputable def fX (b:List Pl) (fs:Fs) (i:Nat):Bool:=(fs.getD i none).isNone && (match b[i]? with | some q=>CC fs q | none=>false)
noncomputable def fresh (b:List Pl) (fs:Fs):List Nat:=(List.range b.length).filter (fX b fs)
noncomputable def cB (fs:Fs) (is:List Nat) (L:Int):Fs:=is.foldl (λacc i=>acc.set i (some L)) fs
noncomputable def run (b:List Pl):Nat->Fs->Int->Fs
 | 0,fs,_=>fs
 | m+1,fs,L=>if fresh b fs=[] then fs else run b m (cB fs (fresh b fs) L) (L+1)
noncomputable def GO:Pl->Option Int
 | .fin _=>some 0
 | _=>none
noncomputable def oK (b:List Pl):Fs:=b.map GO
noncomputable def sx (b:List Pl):Fs:=run b b.length (oK b) 1
noncomputable def dP (fs:Fs):Nat:=fs.countP (·.isNone)
theorem ma (fs:Fs):∀(is:List Nat) (L:Int),(cB fs is L).length=fs.length
 | is,L=>by
  induction is generalizing fs with
  | nil=>rfl
  | cons i is ih=>
   show(cB (fs.set i (some L)) is L).length=_
   rw[ih,aaz]
theorem vC (L:Int):∀(is:List Nat) (fs:Fs) (k:Nat),(cB fs is L)[k]?=if k∈is/\k<fs.length then some (some L) else fs[k]?
 | [],fs,k=>by simp [cB]
 | i::is,fs,k=>by
  show(cB (fs.set i (some L)) is L)[k]?=_
  rw[vC L is,aaz]
  by_cases h:k<fs.length
  ·by_cases h1:k∈is
   ·rw[if_pos ⟨h1,h⟩,if_pos ⟨aak _ h1,h⟩]
   ·rw[if_neg (λz=>h1 z.1)]
    by_cases h2:k=i
    ·subst h2
     rw[if_pos ⟨aal,h⟩,aay h]
    ·rw[if_neg (λz=>(List.mem_cons.mp z.1).elim h2 h1),aaA (Ne.symm h2)]
  ·rw[if_neg (λz=>h z.2),if_neg (λz=>h z.2),aat (by rw[aaz];omega),aat (by omega)]
theorem cL (x:Option Int) (fs:Fs):dP (x::fs)=dP fs+if x.isNone then 1 else 0:=by
 unfold dP
 rw[List.countP_cons]
theorem pO (L:Int):∀(fs:Fs) (i:Nat),dP (fs.set i (some L))<=dP fs
 | [],i=>by simp
 | x::fs,0=>by
  rw[aba,cL,cL]
  simp
 | x::fs,i+1=>by
  rw[abb,cL,cL]
  have:=pO L fs i
  omega
theorem sy (L:Int):∀(fs:Fs) (i:Nat),fs[i]?=some none->dP (fs.set i (some L))<dP fs
 | [],i,h=>by simp at h
 | x::fs,0,h=>by
  simp at h
  subst h
  rw[aba,cL,cL]
  simp
 | x::fs,i+1,h=>by
  rw[abb,cL,cL]
  have:=sy L fs i (by simpa using h)
  omega
theorem pP (L:Int):∀(is:List Nat) (fs:Fs),dP (cB fs is L)<=dP fs
 | [],fs=>aae _
 | i::is,fs=>aas (pP L is (fs.set i (some L))) (pO L fs i)
theorem qC (L:Int) {is:List Nat} {fs:Fs} (h:is≠[]) (k:∀i∈is,fs[i]?=some none):dP (cB fs is L)<dP fs:=by
 cases is with
 | nil=>exact absurd rfl h
 | cons i is=>exact Nat.lt_of_le_of_lt (pP L is _) (sy L fs i (k i aal))
theorem g8 {b:List Pl} {fs:Fs} {i:Nat}:i∈fresh b fs↔i<b.length/\fX b fs i=true:=by
 unfold fresh
 rw[List.mem_filter,List.mem_range]
theorem m7 {b:List Pl} {fs:Fs} (hl:fs.length=b.length) {i:Nat} (h:i∈fresh b fs):fs[i]?=some none:=by
 obtain⟨h1,h2⟩:=g8.mp h
 unfold fX at h2
 rw[aaN] at h2
 have e:fs[i]?=some fs[i]:=aac (by omega)
 rw[aai,e] at h2
 rw[e]
 cases h:fs[i] with
 | none=>rfl
 | some v=>rw[h] at h2;simp at h2
noncomputable def At (fs:Fs) (L:Int) (i:Nat):Pl->Prop
 | .fin _=>fs[i]?=some (some 0)
 | .dO _ ws=>(fs[i]?=some none/\∀g∈ws.map (·.2),∀u,lk fs g=some u->u=L - 1)\/
   ∃v,fs[i]?=some (some v)/\1<=v/\(∃g∈ws.map (·.2),lk fs g=some (v - 1))/\∀g∈ws.map (·.2),∀u,lk fs g=some u->v - 1<=u
 | .cu _ to=>(fs[i]?=some none/\((∀g∈to,(lk fs g).isSome=true)->∃g∈to,lk fs g=some (L - 1)))\/
   ∃v,fs[i]?=some (some v)/\1<=v/\(∀g∈to,∃u,lk fs g=some u/\u<=v - 1)/\∃g∈to,lk fs g=some (v - 1)
structure Good (b:List Pl):Prop where
 jH:∀q∈b,∀g∈eO q,0<=g/\g<b.length
 cu:∀q∈b,∀w to,q=.cu w to->to≠[]
structure Inv (b:List Pl) (fs:Fs) (L:Int):Prop where
 len:fs.length=b.length
 lt:∀(i:Nat) (v:Int),fs[i]?=some (some v)->0<=v/\v<L
 at_:∀(i:Nat) q,b[i]?=some q->At fs L i q
theorem yQ {b:List Pl} (g:Good b):Inv b (oK b) 1:=by
 have h0:∀(i:Nat) (v:Int),(oK b)[i]?=some (some v)->v=0:=λi v e=>by
  unfold oK at e
  rw[aaf] at e
  obtain⟨q,_,e⟩:=Option.map_eq_some_iff.mp e
  cases q <;>simp [GO] at e
  exact e.symm
 have hk:∀(g u:Int),lk (oK b) g=some u->u=0:=λg u e=>by
  unfold lk at e
  rw[aai] at e
  cases h:(oK b)[g.toNat]? with
  | none=>rw[h] at e;simp at e
  | some o=>rw[h] at e;simp at e;subst e;exact h0 _ _ h
 refine⟨by simp [oK],λi v e=>by have:=h0 i v e;omega,λi q e=>?_⟩
 have e2:(oK b)[i]?=some (GO q):=by unfold oK;rw[aaf,e];rfl
 cases q with
 | fin w=>exact e2
 | dO w ws=>exact .inl ⟨e2,λg _ u h=>hk g u h⟩
 | cu w to=>
  refine .inl ⟨e2,λh=>?_⟩
  cases to with
  | nil=>exact absurd rfl (g.cu _ (aad e) _ _ rfl)
  | cons x r=>
   refine⟨x,aal,?_⟩
   have:=h x aal
   obtain⟨u,hu⟩:=Option.isSome_iff_exists.mp this
   have:=hk x u hu
   rw[hu,this]
   rfl
theorem pQ {fs:Fs} {g:Int} {u:Int}:lk fs g=some u↔fs[g.toNat]?=some (some u):=by
 unfold lk
 rw[aai]
 cases h:fs[g.toNat]? with
 | none=>simp
 | some o=>simp
theorem step {b:List Pl} (gb:Good b) {fs:Fs} {L:Int} (I:Inv b fs L) (L1:1<=L):Inv b (cB fs (fresh b fs) L) (L+1):=by
 have hl:=I.len
 have get:∀(k:Nat),(cB fs (fresh b fs) L)[k]?=if k∈fresh b fs/\k<fs.length then some (some L) else fs[k]?:=vC L _ _
 have old:∀(k:Nat) (v:Int),fs[k]?=some (some v)->(cB fs (fresh b fs) L)[k]?=some (some v):=λk v e=>by
  rw[get,if_neg,e]
  intro z
  rw[m7 hl z.1] at e
  cases e
 have xi:∀(g u:Int),lk fs g=some u->lk (cB fs (fresh b fs) L) g=some u:=λg u h=>pQ.mpr (old _ _ (pQ.mp h))
 have uC:∀(g u:Int),lk (cB fs (fresh b fs) L) g=some u->lk fs g=some u\/u=L:=λg u h=>by
  have h:=pQ.mp h
  rw[get] at h
  split at h
  ·right;simpa using h.symm
  ·exact .inl (pQ.mpr h)
 refine⟨by rw[ma];exact hl,λi v e=>?_,λi q e=>?_⟩
 ·rw[get] at e
  split at e
  ·simp at e;omega
  ·have:=I.lt i v e;omega
 ·have hi:i<b.length:=(List.getElem?_eq_some_iff.mp e).1
  have A:=I.at_ i q e
  have rd:∀(q:Pl),b[i]?=some q->fs[i]?=some none->(i∈fresh b fs↔CC fs q=true):=λq e e2=>by
   rw[g8]
   unfold fX
   rw[aai,e2,e]
   simp [hi]
  cases q with
  | fin w=>exact old _ _ A
  | dO w ws=>
   rcases A with ⟨a1,a2⟩ | ⟨v,a1,a2,⟨x,hx,a3⟩,a4⟩
   ·by_cases c:i∈fresh b fs
    ·right
     refine⟨L,by rw[get,if_pos ⟨c,by omega⟩],L1,?_,λg hg u h=>?_⟩
     ·have:=(rd _ e a1).mp c
      have:(ws.map (·.2)).any (λg=>(lk fs g).isSome)=true:=this
      obtain⟨x,hx,h⟩:=List.any_eq_true.mp this
      obtain⟨u,hu⟩:=Option.isSome_iff_exists.mp h
      have:=a2 x hx u hu
      subst this
      exact⟨x,hx,xi _ _ hu⟩
     ·rcases uC _ _ h with h | h
      ·have:=a2 g hg u h;omega
      ·omega
    ·left
     refine⟨by rw[get,if_neg (λz=>c z.1)];exact a1,λg hg u h=>?_⟩
     rcases uC _ _ h with h | h
     ·exfalso
      refine c ((rd _ e a1).mpr ?_)
      show(ws.map (·.2)).any (λg=>(lk fs g).isSome)=true
      exact List.any_eq_true.mpr ⟨g,hg,by rw[h];rfl⟩
     ·omega
   ·right
    refine⟨v,old _ _ a1,a2,⟨x,hx,xi _ _ a3⟩,λg hg u h=>?_⟩
    rcases uC _ _ h with h | h
    ·exact a4 g hg u h
    ·have:=I.lt i v a1;omega
  | cu w to=>
   rcases A with ⟨a1,a2⟩ | ⟨v,a1,a2,a3,x,hx,a4⟩
   ·by_cases c:i∈fresh b fs
    ·right
     have r:=(rd _ e a1).mp c
     have r:to.all (λg=>(lk fs g).isSome)=true:=r
     have r:=List.all_eq_true.mp r
     obtain⟨x,hx,h⟩:=a2 r
     refine⟨L,by rw[get,if_pos ⟨c,by omega⟩],L1,λg hg=>?_,x,hx,xi _ _ h⟩
     obtain⟨u,hu⟩:=Option.isSome_iff_exists.mp (r g hg)
     exact⟨u,xi _ _ hu,by have:=I.lt _ _ (pQ.mp hu);omega⟩
    ·left
     refine⟨by rw[get,if_neg (λz=>c z.1)];exact a1,λh=>?_⟩
     have:¬∀g∈to,(lk fs g).isSome=true:=λz=>c ((rd _ e a1).mpr (show to.all (λg=>(lk fs g).isSome)=true from List.all_eq_true.mpr z))
     have:∃g∈to,lk fs g=none:=by
      apply Classical.byContradiction
      intro n
      apply this
      intro g hg
      cases h:lk fs g with
      | none=>exact absurd ⟨g,hg,h⟩ n
      | some u=>rfl
     obtain⟨g,hg,hn⟩:=this
     obtain⟨u,hu⟩:=Option.isSome_iff_exists.mp (h g hg)
     refine⟨g,hg,?_⟩
     rcases uC _ _ hu with h | h
     ·rw[hn] at h;cases h
     ·rw[hu,h];congr 1;omega
   ·right
    refine⟨v,old _ _ a1,a2,λg hg=>?_,x,hx,xi _ _ a4⟩
    obtain⟨u,h1,h2⟩:=a3 g hg
    exact⟨u,xi _ _ h1,h2⟩
noncomputable def Ends (fs:Fs) (i:Nat):Pl->Prop
 | .fin _=>fs[i]?=some (some 0)
 | .dO _ ws=>(fs[i]?=some none/\∀g∈ws.map (·.2),lk fs g=none)\/
   ∃v,fs[i]?=some (some v)/\1<=v/\(∃g∈ws.map (·.2),lk fs g=some (v - 1))/\∀g∈ws.map (·.2),∀u,lk fs g=some u->v - 1<=u
 | .cu _ to=>(fs[i]?=some none/\∃g∈to,lk fs g=none)\/
   ∃v,fs[i]?=some (some v)/\1<=v/\(∀g∈to,∃u,lk fs g=some u/\u<=v - 1)/\∃g∈to,lk fs g=some (v - 1)
theorem Bs {b:List Pl} {fs:Fs} {L:Int} (I:Inv b fs L) (h:fresh b fs=[]) (i:Nat) (q:Pl) (e:b[i]?=some q):Ends fs i q:=by
 have hi:i<b.length:=(List.getElem?_eq_some_iff.mp e).1
 have nr:fs[i]?=some none->CC fs q=false:=λe2=>by
  have:i∉fresh b fs:=by rw[h];simp
  rw[g8] at this
  cases hr:CC fs q with
  | false=>rfl
  | true=>
   exfalso
   apply this
   refine⟨hi,?_⟩
   unfold fX
   rw[aai,e2,e]
   simp [hr]
 have A:=I.at_ i q e
 cases q with
 | fin w=>exact A
 | dO w ws=>
  rcases A with ⟨a1,a2⟩ | A
  ·refine .inl ⟨a1,λg hg=>?_⟩
   have:=nr a1
   have:(ws.map (·.2)).any (λg=>(lk fs g).isSome)=false:=this
   have:=List.any_eq_false.mp this g hg
   simpa using this
  ·exact .inr A
 | cu w to=>
  rcases A with ⟨a1,a2⟩ | A
  ·refine .inl ⟨a1,?_⟩
   have:=nr a1
   have:to.all (λg=>(lk fs g).isSome)=false:=this
   obtain⟨g,hg,n⟩:=List.all_eq_false.mp this
   exact⟨g,hg,by simpa using n⟩
  ·exact .inr A
theorem jV {b:List Pl} {fs:Fs} (hl:fs.length=b.length) (h:fresh b fs≠[]) (L:Int):dP (cB fs (fresh b fs) L)<dP fs:=qC L h λ_ hi=>m7 hl hi
theorem qD {b:List Pl} (gb:Good b):∀(m:Nat) (fs:Fs) (L:Int),Inv b fs L->1<=L->dP fs<=m->∃L',L'<=L+m/\Inv b (run b m fs L) L'/\fresh b (run b m fs L)=[]
 | 0,fs,L,I,L1,h=>by
  refine⟨L,by omega,I,?_⟩
  show fresh b fs=[]
  apply Classical.byContradiction
  intro n
  have:=jV I.len n L
  omega
 | m+1,fs,L,I,L1,h=>by
  show ∃L',L'<=L+ (m+1:Nat)/\Inv b (if fresh b fs=[] then fs else run b m (cB fs (fresh b fs) L) (L+1)) L'/\fresh b (if fresh b fs=[] then fs else run b m (cB fs (fresh b fs) L) (L+1))=[]
  by_cases c:fresh b fs=[]
  ·rw[if_pos c]
   exact⟨L,by omega,I,c⟩
  ·rw[if_neg c]
   have:=jV I.len c L
   obtain⟨L',h1,h2⟩:=qD gb m _ _ (step gb I L1) (by omega) (by omega)
   exact⟨L',by omega,h2⟩
theorem m8 (fs:Fs):dP fs<=fs.length:=List.countP_le_length
theorem Bu {b:List Pl} (gb:Good b):(sx b).length=b.length:=by
 obtain⟨L,_,I,_⟩:=qD gb b.length _ _ (yQ gb) (by decide) (by have:=m8 (oK b);simpa [oK] using this)
 exact I.len
theorem yR {b:List Pl} (gb:Good b) (i:Nat) (q:Pl) (e:b[i]?=some q):Ends (sx b) i q:=by
 obtain⟨L,_,I,f⟩:=qD gb b.length _ _ (yQ gb) (by decide) (by have:=m8 (oK b);simpa [oK] using this)
 exact Bs I f i q e
end Lv
namespace Bf
open L2 Lv
abbrev En:=Int×Option (Int×Nat)×List Nat
noncomputable def keys (es:List En):List Int:=es.map (·.1)
noncomputable def fH (b:List Pl) (k:Int):List Int:=match b[k.toNat]? with | some q=>eO q | none=>[]
noncomputable def fI (here:Int) (path:List Nat):Nat->List Int->List En->List En
 | _,[],es=>es
 | w,g::gs,es=>fI here path (w+1) gs (if g∈keys es then es else es++ [(g,some (here,w),path++ [w])])
noncomputable def AG (b:List Pl):Nat->Nat->List En->List En
 | 0,_,es=>es
 | m+1,t,es=>match es[t]? with | none=>es | some e=>AG b m (t+1) (fI e.1 e.2.2 0 (fH b e.1) es)
noncomputable def steps (b:List Pl) (start:Int):List En:=AG b (b.length+1) 0 [(start,none,[])]
structure Core (b:List Pl) (start:Int) (es:List En):Prop where
 nd:(keys es).Nodup
 jH:∀e∈es,0<=e.1/\e.1<b.length
 hd:es[0]?=some (start,none,[])
 par:∀(i:Nat) e,es[i]?=some e->0<i->∃(j:Nat) (ej:En) (w:Nat),j<i/\es[j]?=some ej/\e.2.1=some (ej.1,w)/\(fH b ej.1)[w]?=some e.1/\e.2.2=ej.2.2++ [w]
 mono:∀(i j:Nat) ei ej,i<=j->es[i]?=some ei->es[j]?=some ej->ei.2.2.length<=ej.2.2.length
structure FD (b:List Pl) (start:Int) (t:Nat) (e:En) (k:Nat) (es:List En):Prop extends Core b start es where
 at_:es[t]?=some e
 top:∀(i:Nat) ei,es[i]?=some ei->ei.2.2.length<=e.2.2.length+1
 old:∀(j:Nat) ej,j<t->es[j]?=some ej->∀g∈fH b ej.1,∃(i:Nat) (ei:En),es[i]?=some ei/\ei.1=g/\ei.2.2.length<=ej.2.2.length+1
 now:∀g∈(fH b e.1).take k,∃(i:Nat) (ei:En),es[i]?=some ei/\ei.1=g/\ei.2.2.length<=e.2.2.length+1
structure Inv (b:List Pl) (start:Int) (t:Nat) (es:List En):Prop extends Core b start es where
 top:∀(i:Nat) ei et,es[i]?=some ei->es[t]?=some et->ei.2.2.length<=et.2.2.length+1
 old:∀(j:Nat) ej,j<t->es[j]?=some ej->∀g∈fH b ej.1,∃(i:Nat) (ei:En),es[i]?=some ei/\ei.1=g/\ei.2.2.length<=ej.2.2.length+1
theorem d8 {α:Type} {l:List α} {x y:α} {i:Nat} (h:(l++ [x])[i]?=some y):l[i]?=some y\/(i=l.length/\y=x):=by
 by_cases c:i<l.length
 ·rw[abf c] at h
  exact .inl h
 ·rw[aa6 (by omega)] at h
  have:i - l.length=0:=by
   by_cases q:i - l.length=0
   ·exact q
   ·rw[aat (by simp;omega)] at h;cases h
  rw[this] at h
  simp at h
  exact .inr ⟨by omega,h.symm⟩
theorem up {α:Type} {l:List α} {x y:α} {i:Nat} (h:l[i]?=some y):(l++ [x])[i]?=some y:=by
 rw[abf (List.getElem?_eq_some_iff.mp h).1]
 exact h
theorem one {b:List Pl} (gb:Good b) {start:Int} {t:Nat} {e:En} {k:Nat} {es:List En} {g:Int} (M:FD b start t e k es) (hg:(fH b e.1)[k]?=some g):
  FD b start t e (k+1) (if g∈keys es then es else es++ [(g,some (e.1,k),e.2.2++ [k])]):=by
 have tk:(fH b e.1).take (k+1)=(fH b e.1).take k++ [g]:=by rw[aaI,hg];rfl
 by_cases c:g∈keys es
 ·rw[if_pos c]
  refine {M with now:=λx hx=>?_}
  rw[tk] at hx
  rcases List.mem_append.mp hx with hx | hx
  ·exact M.now x hx
  ·have:x=g:=by simpa using hx
   subst this
   obtain⟨ei,JG,rfl⟩:=List.mem_map.mp c
   obtain⟨i,hi⟩:=aam JG
   exact⟨i,ei,hi,rfl,M.top i ei hi⟩
 ·rw[if_neg c]
  have rg:0<=g/\g<b.length:=by
   unfold fH at hg
   cases hb:b[e.1.toNat]? with
   | none=>rw[hb] at hg;simp at hg
   | some q=>
    rw[hb] at hg
    exact gb.jH q (aad hb) g (aad hg)
  have tl:t<es.length:=(List.getElem?_eq_some_iff.mp M.at_).1
  refine⟨⟨?_,λx hx=>?_,up M.hd,λi x hx i0=>?_,λi j ei ej qg hi hj=>?_⟩,up M.at_,λi ei hi=>?_,λj ej hj DY x hx=>?_,λx hx=>?_⟩
  ·unfold keys at *
   rw[aaO]
   refine List.nodup_append.mpr ⟨M.nd,by simp,λa ha b' Vm=>?_⟩
   have:b'=g:=by simpa using Vm
   subst this
   intro z
   exact c (z▸ha)
  ·rcases List.mem_append.mp hx with hx | hx
   ·exact M.jH x hx
   ·have:x=(g,some (e.1,k),e.2.2++ [k]):=by simpa using hx
    subst this
    exact rg
  ·rcases d8 hx with hx | ⟨rfl,rfl⟩
   ·obtain⟨j,ej,w,a1,a2,a3⟩:=M.par i x hx i0
    exact⟨j,ej,w,a1,up a2,a3⟩
   ·exact⟨t,e,k,tl,up M.at_,rfl,hg,rfl⟩
  ·rcases d8 hi with hi | ⟨rfl,rfl⟩
   ·rcases d8 hj with hj | ⟨rfl,rfl⟩
    ·exact M.mono i j ei ej qg hi hj
    ·have:=M.top i ei hi
     simpa using this
   ·rcases d8 hj with hj | ⟨rfl,rfl⟩
    ·have:=(List.getElem?_eq_some_iff.mp hj).1
     omega
    ·exact aae _
  ·rcases d8 hi with hi | ⟨rfl,rfl⟩
   ·exact M.top i ei hi
   ·simp
  ·rcases d8 DY with DY | ⟨rfl,rfl⟩
   ·obtain⟨i,ei,a1,a2⟩:=M.old j ej hj DY x hx
    exact⟨i,ei,up a1,a2⟩
   ·omega
  ·rw[tk] at hx
   rcases List.mem_append.mp hx with hx | hx
   ·obtain⟨i,ei,a1,a2⟩:=M.now x hx
    exact⟨i,ei,up a1,a2⟩
   ·have:x=g:=by simpa using hx
    subst this
    exact⟨es.length,(x,some (e.1,k),e.2.2++ [k]),by rw[aa6 (aae _)];simp,rfl,by simp⟩
theorem m9 {b:List Pl} (gb:Good b) {start:Int} {t:Nat} {e:En}:∀(gs:List Int) (k:Nat) (es:List En),FD b start t e k es->(∀(i:Nat) g,gs[i]?=some g->(fH b e.1)[k+i]?=some g)->FD b start t e (k+gs.length) (fI e.1 e.2.2 k gs es)
 | [],k,es,M,_=>M
 | g::gs,k,es,M,h=>by
  have:=m9 gb gs (k+1) _ (one gb M (h 0 g rfl)) λi x hx=>by
   have:=h (i+1) x (by simpa using hx)
   rwa [show k+1+i=k+ (i+1) by omega]
  rw[aaw,show k+ (gs.length+1)=k+1+gs.length by omega]
  exact this
theorem yS {b:List Pl} {start:Int} {t:Nat} {e:En} {es:List En} (I:Inv b start t es) (h:es[t]?=some e):FD b start t e 0 es:=
 {I with at_:=h,top:=λi ei hi=>I.top i ei e hi h,now:=λg hg=>by simp at hg}
theorem DZ {b:List Pl} {start:Int} {t:Nat} {e:En} {es:List En} (M:FD b start t e (fH b e.1).length es):Inv b start (t+1) es:=by
 refine {M with top:=λi ei et hi ht=>?_,old:=λj ej hj DY g hg=>?_}
 ·have h1:=M.top i ei hi
  have h2:=M.mono t (t+1) e et (by omega) M.at_ ht
  omega
 ·by_cases c:j<t
  ·exact M.old j ej c DY g hg
  ·have:j=t:=by omega
   subst this
   rw[M.at_] at DY
   cases DY
   exact M.now g (by rw[aaD (aae _)];exact hg)
theorem turn {b:List Pl} (gb:Good b) {start:Int} {t:Nat} {e:En} {es:List En} (I:Inv b start t es) (h:es[t]?=some e):Inv b start (t+1) (fI e.1 e.2.2 0 (fH b e.1) es):=by
 have:=m9 gb (fH b e.1) 0 es (yS I h) λi g hg=>by rw[aaG];exact hg
 rw[aaG] at this
 exact DZ this
theorem yQ {b:List Pl} {start:Int} (h0:0<=start) (h1:start<b.length):Inv b start 0 [(start,none,[])]:=by
 refine⟨⟨by simp [keys],λe he=>?_,rfl,λi e he hi=>?_,λi j ei ej _ hi hj=>?_⟩,λi ei et hi ht=>?_,λj ej hj=>by omega⟩
 ·have:e=(start,none,[]):=by simpa using he
  subst this
  exact⟨h0,h1⟩
 ·rw[aat (by simp;omega)] at he
  cases he
 ·cases i with
  | zero=>simp at hi;subst hi;simp
  | succ i=>rw[aat (by simp)] at hi;cases hi
 ·cases i with
  | zero=>simp at hi;subst hi;simp
  | succ i=>rw[aat (by simp)] at hi;cases hi
theorem vD:∀(n:Nat) (l:List Nat),l.Nodup->(∀x∈l,x<n)->l.length<=n
 | 0,l,_,h=>by
  cases l with
  | nil=>exact aae _
  | cons x r=>have:=h x aal;omega
 | n+1,l,nd,h=>by
  have:=vD n (l.erase n) (nd.erase n) λx hx=>by
   have h1:=(nd.mem_erase_iff).mp hx
   have:=h x h1.2
   have:=h1.1
   omega
  have:=List.length_erase (a:=n) (l:=l)
  split at this <;>omega
theorem D1 {n:Nat} {l:List Int} (nd:l.Nodup) (h:∀x∈l,0<=x/\x< (n:Int)):l.length<=n:=by
 have:=vD n (l.map Int.toNat) (by
  unfold List.Nodup at *
  rw[List.pairwise_map]
  refine nd.imp_of_mem ?_
  intro a b ha hb SV z
  have:=h a ha
  have:=h b hb
  omega) λx hx=>by
   obtain⟨y,hy,rfl⟩:=List.mem_map.mp hx
   have:=h y hy
   omega
 rwa [aab] at this
theorem Core.pG {b:List Pl} {start:Int} {es:List En} (C:Core b start es):es.length<=b.length:=by
 have:=D1 (n:=b.length) C.nd λx hx=>by
  obtain⟨e,he,rfl⟩:=List.mem_map.mp hx
  exact C.jH e he
 unfold keys at this
 rwa [aab] at this
theorem vE {b:List Pl} (gb:Good b) {start:Int}:∀(m t:Nat) (es:List En),Inv b start t es->b.length<m+t->∃t',es.length<=(AG b m t es).length/\(AG b m t es).length<=t'/\Inv b start t' (AG b m t es)
 | 0,t,es,I,h=>⟨t,aae _,by have:=I.toCore.pG;show es.length<=t;omega,I⟩
 | m+1,t,es,I,h=>by
  unfold AG
  cases ht:es[t]? with
  | none=>exact⟨t,aae _,List.getElem?_eq_none_iff.mp ht,I⟩
  | some e=>
   obtain⟨t',a1,a2,a3⟩:=vE gb m (t+1) _ (turn gb I ht) (by omega)
   refine⟨t',aas ?_ a1,a2,a3⟩
   have:∀(gs:List Int) (k:Nat) (es:List En),es.length<=(fI e.1 e.2.2 k gs es).length:=by
    intro gs
    induction gs with
    | nil=>intro k es;exact aae _
    | cons g gs ih=>
     intro k es
     unfold fI
     refine aas ?_ (ih (k+1) _)
     split
     ·exact aae _
     ·simp
   exact this _ _ _
theorem eY {b:List Pl} (gb:Good b) {start:Int} (h0:0<=start) (h1:start<b.length):Core b start (steps b start)/\
  ∀(j:Nat) ej,(steps b start)[j]?=some ej->∀g∈fH b ej.1,∃(i:Nat) (ei:En),(steps b start)[i]?=some ei/\ei.1=g/\ei.2.2.length<=ej.2.2.length+1:=by
 obtain⟨t,_,a2,I⟩:=vE gb (b.length+1) 0 _ (yQ (b:=b) h0 h1) (by omega)
 refine⟨I.toCore,λj ej hj=>I.old j ej ?_ hj⟩
 have:=(List.getElem?_eq_some_iff.mp hj).1
 show j<t
 unfold steps at *
 omega
noncomputable def go (b:List Pl):Int->List Nat->Option Int
 | k,[]=>some k
 | k,w::ws=>match (fH b k)[w]? with | some g=>go b g ws | none=>none
theorem vF {b:List Pl}:∀{ws:List Nat} {k g:Int} {w:Nat},go b k (ws++ [w])=(match go b k ws with | some x=>(fH b x)[w]? | none=>none)
 | [],k,g,w=>by
  show(match (fH b k)[w]? with | some g=>go b g [] | none=>none)=(fH b k)[w]?
  cases (fH b k)[w]? <;>rfl
 | v::ws,k,g,w=>by
  show(match (fH b k)[v]? with | some g=>go b g (ws++ [w]) | none=>none)=(match (match (fH b k)[v]? with | some g=>go b g ws | none=>none) with | some x=>(fH b x)[w]? | none=>none)
  cases (fH b k)[v]? with
  | none=>rfl
  | some x=>exact vF (g:=g)
theorem Bv {b:List Pl} {start:Int} {es:List En} (C:Core b start es):∀(i:Nat) (e:En),es[i]?=some e->go b start e.2.2=some e.1:=by
 intro i
 induction i using Nat.strongRecOn with
 | ind i ih=>
  intro e he
  by_cases c:i=0
  ·subst c
   rw[C.hd] at he
   cases he
   rfl
  ·obtain⟨j,ej,w,a1,a2,a3,a4,a5⟩:=C.par i e he (by omega)
   rw[a5,vF (g:=e.1),ih j a1 ej a2]
   exact a4
end Bf
namespace PySem
section
variable {prog : Program} {w : World} {A : Around} {E : Value -> Shared -> Prop} {s : Shared}
end
end PySem
namespace L2
open PySem PySem.Spec PyProof.Rows PySem.W
section
variable {X : Cx} {K : PySem.W.Frag}
noncomputable def tRev (K:PySem.W.Frag) (te:TE):TE:=λσ H Q=>te σ H λv H1=>∃p xs,v=.ref p/\aV K H1 p xs/\∀l,H1 l=none->Q (.ref l) (upd H1 l (.lst xs.reverse))
noncomputable def tD1 (tk tv:TE):TE:=λσ H Q=>∀d,H d=none->tk σ (upd H d (.dK [])) λx H1=>tv σ H1 λv H2=>∃k,x=kV k/\H2 d=some (.dK [])/\Q (.ref d) (upd H2 d (.dK [(k,v)]))
theorem GP {ke ve:Expr} {tk tv:TE} {pos:Pos} (hk:PE X ke tk) (hv:PE X ve tv):PE X (.Dict [some ke] [ve] pos) (tD1 tk tv):=by
 intro pins s σ H Q I h
 refine wpAny_Dict_pairs (knd:=bQ X.prog X.w) (pairs:=[(eval ke X.env,do let x <-eval ve X.env;standAt pos;pure x)]) rfl (by simp) (by simp) ?_
 have fr:=I.bI.fresh (a:=s.heap.objs.size) (aae _)
 have I1:Inv X pins σ (upd H s.heap.objs.size (.dK [])) {s with heap:=s.heap.push {cls:=.type "dict",data:=.dict #[]}}:=I.laid (t':=s.toks) (λ_ _ q=>Heap.get?_push_of_some _ q) (aae _) (rW s.heap I.SF)
 unfold evalPairs
 refine wpAny_bind (bY (hk pins _ σ _ _ I1 (h _ fr)) λku s1 cD=>?_)
 obtain⟨x,H1,I2,rx,q1⟩:=cD
 refine wpAny_bind (wpAny_holding (wpAny_bind (bY (hv pins _ σ _ _ I2 q1) λvu s2 ⟨v,H2,I3,rv,k,ex,hd,q⟩=>wpAny_bind (wpAny_standAt (wpAny_pure ?_)))))
 subst ex
 obtain⟨z,lo,vs,kv,dd⟩:=Cv I3.bI hd
 cases kv
 unfold evalPairs
 refine wpAny_bind (wpAny_holding (wpAny_pure (wpAny_pure ⟨[(k,vu)],⟨kj rx,rfl,trivial⟩,dd,λh' A9 hs=>?_⟩)))
 have A9:h'.DictOf (bQ X.prog X.w) s.heap.objs.size [(k,vu)]:=A9
 have he:∃q,h'.get? s.heap.objs.size=some q:=let ⟨q,_,_,hq,_⟩:=A9;⟨q,hq⟩
 exact⟨.ref s.heap.objs.size,_,qp I3 (by rw[hd];exact True.intro) hs he (yn (kvs:=[(k,v)]) (by rw[sizeLine_eq];simp) lo (.cons ⟨rfl,rv⟩ .nil) A9),rfl,q⟩
end
end L2
namespace PySem
section
variable {prog : Program} {w : World} {A : Around} {E : Value -> Shared -> Prop} {s : Shared}
variable {κ : Type} [DecidableEq κ] {knd : KeyKind prog w κ}
end
end PySem
namespace L2
open PySem PySem.Spec PyProof.Rows PySem.W
section
variable {X : Cx}
end
end L2
namespace PySem
section
variable {prog : Program} {w : World} {A : Around} {R : Result -> Shared -> Prop} {I : Addr} {fp wr : List Addr} {n : Nat} {P : Nat -> Value -> Prop} {St : Nat -> Heap -> Prop} {kw : List (Str × Value)}
end
section
variable {prog : Program} {w : World} {A : Around} {E : Value -> Shared -> Prop} {s : Shared}
end
end PySem
namespace L2
open PySem PySem.Spec PyProof.Rows PySem.W
section
variable {X : Cx} {K : PySem.W.Frag}
noncomputable def tMaxD (K:PySem.W.Frag) (te td:TE):TE:=λσ H Q=>te σ H λv H1=>td σ H1 λdv H2=>∃p ns,v=.ref p/\aV K H2 p (List.map V.int ns)/\(ns=[]->Q dv H2)/\∀M,M∈ns->(∀a∈ns,a<=M)->Q (.int M) H2
noncomputable def tLR (te:TE):TE:=λσ H Q=>te σ H λv H1=>∃n:Nat,v=.int (n:Int)/\n<=1000000/\∀l,H1 l=none->Q (.ref l) (upd H1 l (.lst ((List.range n).map λi:Nat=>V.int (i:Int))))
end
end L2
namespace KS
open PySem PySem.W PyProof.Rows
noncomputable def Bd {α:Type} (lt:Nat->Nat->Bool) (n:Nat) (post:α->Prop):KasT α->Prop
 | .ret a=>post a
 | .ask i j k=>i<n/\j<n/\Bd lt n post (k (lt i j))
theorem Bd.bind {α β:Type} {lt:Nat->Nat->Bool} {n:Nat} {post:β->Prop} {f:α->KasT β}:∀{t:KasT α},Bd lt n (λa=>Bd lt n post (f a)) t->Bd lt n post (t.bind f)
 | .ret _,h=>h
 | .ask _ _ _,⟨h1,h2,h3⟩=>⟨h1,h2,Bd.bind h3⟩
theorem Bd.mono {α:Type} {lt:Nat->Nat->Bool} {n:Nat} {p q:α->Prop} (SW:∀a,p a->q a):∀{t:KasT α},Bd lt n p t->Bd lt n q t
 | .ret _,h=>SW _ h
 | .ask _ _ _,⟨h1,h2,h3⟩=>⟨h1,h2,Bd.mono SW h3⟩
theorem Bd.wp {α:Type} {lt:Nat->Nat->Bool} {n:Nat} {post:α->Prop} {cmp:Nat->Nat->(Bool->Shared->Prop)->Shared->Prop} {Q:α->Shared->Prop} {s:Shared}
  (hc:∀i j C,i<n->j<n->C (lt i j) s->cmp i j C s) (hq:∀a,post a->Q a s):∀{t:KasT α},Bd lt n post t->t.kasWp cmp Q s
 | .ret _,h=>hq _ h
 | .ask i j k,⟨h1,h2,h3⟩=>hc i j _ h1 h2 (Bd.wp hc hq h3)
noncomputable def Pm (n:Nat) (p:Array Nat):Prop:=p.Perm (List.range n).toArray
theorem Pm.lt {n:Nat} {p:Array Nat} (h:Pm n p) (hn:0<n) (i:Nat):p.getD i 0<n:=by
 by_cases hi:i<p.size
 ·have:p.getD i 0=p[i]:=by simp [Array.getD,hi]
  rw[this]
  have hm:p[i]∈p:=Array.getElem_mem hi
  have:=(Array.Perm.mem_iff h).mp hm
  simpa using this
 ·have:p.getD i 0=0:=by simp [Array.getD,hi]
  omega
theorem Pm.rev {n:Nat} {p:Array Nat} (h:Pm n p) (i j:Nat):Pm n (kas_rev p i j):=(mirror_perm _ _ _ _).trans h
theorem Pm.Vn {n:Nat} {p:Array Nat} (h:Pm n p) (i j:Nat):Pm n (bubble p i j):=(bubble_perm _ _ _).trans h
variable {lt : Nat -> Nat -> Bool} {n : Nat}
theorem uP {p:Array Nat} (h:Pm n p) (hn:0<n):∀f k,Bd lt n (λ_=>True) (kas_asc p f k)
 | 0,_=>trivial
 | f+1,k=>by
  refine⟨h.lt hn _,h.lt hn _,?_⟩
  dsimp only
  split
  ·trivial
  ·exact uP h hn f (k+1)
theorem md (hn:0<n):∀f (p:Array Nat) k q,Pm n p->Bd lt n (λr=>Pm n r.1) (kas_desc f p k q)
 | 0,p,k,q,h=>h
 | f+1,p,k,q,h=>by
  refine⟨h.lt hn _,h.lt hn _,?_⟩
  dsimp only
  split
  ·split
   ·exact md hn f _ _ _ (h.rev _ _)
   ·exact md hn f _ _ _ h
  ·refine⟨h.lt hn _,h.lt hn _,?_⟩
   dsimp only
   split
   ·exact h
   ·exact md hn f _ _ _ h
theorem sE (hn:0<n) {p:Array Nat} (h:Pm n p) (m r:Nat):Bd lt n (λr=>Pm n r.2) (kas_tail3 m r p):=
 Bd.bind ((uP (h.rev _ _) hn _ _).mono λ_ _=>h.rev _ _)
theorem kr (hn:0<n) {p:Array Nat} (h:Pm n p) (m r:Nat):Bd lt n (λr=>Pm n r.2) (kas_descPart m r p):=by
 refine Bd.bind ((md hn _ _ _ _ h).mono λx hx=>?_)
 split
 ·exact sE hn (hx.rev _ _) _ _
 ·exact sE hn hx _ _
theorem yT (hn:0<n) {p:Array Nat} (h:Pm n p) (r:Nat):Bd lt n (λr=>Pm n r.2) (kas_count r p):=by
 refine Bd.bind ((uP h hn _ _).mono λm _=>?_)
 split
 ·exact h
 ·split
  ·refine⟨h.lt hn _,h.lt hn _,?_⟩
   dsimp only
   split
   ·exact h
   ·exact kr hn (h.rev _ _) _ _
  ·exact kr hn h _ _
theorem ng (hn:0<n) {p:Array Nat} (h:Pm n p) (k:Nat):∀f l r,Bd lt n (λ_=>True) (kas_place p k f l r)
 | 0,_,_=>trivial
 | f+1,l,r=>by
  unfold kas_place
  split
  ·trivial
  ·refine⟨h.lt hn _,h.lt hn _,?_⟩
   dsimp only
   split
   ·exact ng hn h k f _ _
   ·exact ng hn h k f _ _
theorem yU (hn:0<n):∀f (p:Array Nat) k,Pm n p->Bd lt n (Pm n) (kas_bin f p k)
 | 0,p,k,h=>h
 | f+1,p,k,h=>Bd.bind ((ng hn h k _ _ _).mono λl _=>yU hn f _ _ (h.Vn _ _))
theorem Bw (hn:0<n):Bd lt n (Pm n) (kas_sort n):=by
 refine Bd.bind ((yT hn (Array.Perm.refl _) n).mono λr hr=>?_)
 split
 ·exact yU hn _ _ _ hr
 ·exact hr
section
variable {prog : Program} {w : World} {A : Around} {E : Value -> Shared -> Prop} {s : Shared} {vs : List Value} {κ : SortKind}
theorem kQ {R:List Nat->Prop} {a:Addr} {m:Nat} {P:PySem.Fin->Shared->Prop} (ho:s.heap.get? a=some (seqObj "list" vs.toArray m)) (D3:vs.length<64)
  (mP:2<=vs.length->∀h' Q',(∀b o,b≠a->s.heap.get? b=some o->h'.get? b=some o)->Q' κ {s with heap:=h'}->wpAny (model prog w) A (keyKind' vs.toArray) Q' (λ_ _=>False) {s with heap:=h'})
  (yV:∀i j h' C,i<vs.length->j<vs.length->(∀b o,b≠a->s.heap.get? b=some o->h'.get? b=some o)->C (lt i j) {s with heap:=h'}->kas_ask prog w A κ vs i j C {s with heap:=h'})
  (K2:2<=vs.length->Bd lt vs.length (λp=>Pm vs.length p/\R p.toList) (kas_sort vs.length)) (h0:vs.length<2->R (List.range vs.length))
  (h:∀p:List Nat,p.Perm (List.range vs.length)->R p->P (.done (.ret .none)) {s with heap:=sortedHeap s.heap a vs (p.map λi=>vs.getD i Value.none).toArray}):
  wpAny (model prog w) A (Builtin.«list.sort» ⟨[.ref a],[]⟩) P E s:=by
 rw[list_sort_plain]
 have ha:a<s.heap.objs.size:=Heap.lt_size ho
 refine wpAny_bind (listItems_at ho rfl ?_)
 refine wpAny_bind (listUpdate_at ho rfl ?_ (by rw[aah,sizeLine_eq];omega) (aar _))
 obtain⟨e1,GQ⟩:∃e1,(s.heap.update a (Obj.mapSeq λ_=>#[])).get? a=some (seqObj "list" #[] e1):=⟨_,get?_update_seq ho (λ_=>#[])⟩
 refine wpAny_bind (seqEpoch_at GQ rfl ?_)
 refine wpAny_bind (wpAny_newTuple ?_ (by show vs.length<=_;rw[sizeLine_eq];omega))
 refine wpAny_bind (wpAny_newList ?_ (aar _))
 refine wpAny_holding ?_
 have D4:(((s.heap.update a (Obj.mapSeq λ_=>#[])).push (seqObj "tuple" vs.toArray 0)).push (seqObj "list" #[] 0)).get? a=some (seqObj "list" #[] e1):=by
  rw[Heap.get?_push_ne _ _ _ (by rw[size_push',Heap.size_update];exact aaj (aa9 ha)),Heap.get?_push_ne _ _ _ (by rw[Heap.size_update];exact aaj ha)]
  exact GQ
 have keep:∀b o,b≠a->s.heap.get? b=some o->(((s.heap.update a (Obj.mapSeq λ_=>#[])).push (seqObj "tuple" vs.toArray 0)).push (seqObj "list" #[] 0)).get? b=some o:=λb o hb q=>
  Heap.get?_push_of_some _ (Heap.get?_push_of_some _ ((Heap.get?_update_other _ _ (Ne.symm hb)).trans q))
 show wpAny (model prog w) A _ P E {s with heap:=((s.heap.update a (Obj.mapSeq λ_=>#[])).push (seqObj "tuple" vs.toArray 0)).push (seqObj "list" #[] 0)}
 dsimp only
 have hsz:vs.toArray.size=vs.length:=by simp
 have gd:∀(l:List Value),(List.range l.length).map (λi=>l.getD i Value.none)=l:=λl=>by
  apply aa3
  intro i
  rw[aaf]
  by_cases hi:i<l.length
  ·rw[abl hi,aac hi]
   simp [hi]
  ·rw[aat (by rw[aaE];omega),aat (by omega)]
   rfl
 by_cases h2:vs.toArray.size<2
 ·rw[if_pos h2,if_pos h2]
  refine wpAny_bind (wpAny_pure ?_)
  rw[StateT.run_pure]
  refine wpAny_bind (wpAny_pure ?_)
  dsimp only
  refine wpAny_bind (seqEpoch_at D4 rfl ?_)
  refine wpAny_bind (listUpdate_at D4 rfl ?_ (hsz2:=by rw[Array.size_map];show(pairsOf vs).size<=_;rw[pairsOf_size,sizeLine_eq];omega))
  simp only[bne_self_eq_false,aaT,if_false]
  have e:(vs.toArray.zip vs.toArray).map (fun(x:Keyed)=>x.2)=((List.range vs.length).map λi=>vs.getD i Value.none).toArray:=by
   rw[gd]
   apply Array.toList_inj.mp
   rw[Array.toList_map]
   simp [List.map_snd_zip]
  refine wpAny_pure ?_
  have:=h (List.range vs.length) (List.Perm.refl _) (h0 (by omega))
  rw[<-e] at this
  exact this
 ·have yI:2<=vs.length:=by omega
  rw[if_neg h2,if_neg h2]
  refine wpAny_bind (wpAny_mono (mP yI _ (λκ' s'=>κ'=κ/\s'={s with heap:=((s.heap.update a (Obj.mapSeq λ_=>#[])).push (seqObj "tuple" vs.toArray 0)).push (seqObj "list" #[] 0)}) keep ⟨rfl,rfl⟩) ?_ λ_ _ x=>x.elim)
  rintro κ' s' ⟨rfl,rfl⟩
  refine wpAny_bind (wpAny_mono (kat_run (ks:=vs) (vs:=vs) (Q:=λaN s'=>s'={s with heap:=((s.heap.update a (Obj.mapSeq λ_=>#[])).push (seqObj "tuple" vs.toArray 0)).push (seqObj "list" #[] 0)}/\∃p:Array Nat,p.size=vs.length/\arrOf aN=p.map (kas_item (vs.toArray.zip vs.toArray))/\failedOf aN=none/\Pm vs.length p/\R p.toList)
   (G:=λp s'=>s'={s with heap:=((s.heap.update a (Obj.mapSeq λ_=>#[])).push (seqObj "tuple" vs.toArray 0)).push (seqObj "list" #[] 0)}/\Pm vs.length p/\R p.toList) rfl yI D3 (λp aN s' a1 a2 a3 a4=>⟨a4.1,p,a1,a2,a3,a4.2⟩) ?_) ?_ λ_ _ e=>e)
  ·exact Bd.wp (lt:=lt) (n:=vs.length) (λi j C hi hj hC=>yV i j _ C hi hj keep hC) (λp hp=>⟨rfl,hp⟩) (K2 yI)
  rintro⟨⟨⟩,aN⟩ s' ⟨rfl,p,hp,Vo,hf,pm,hR⟩
  dsimp only
  have Bm:=kat_snds (ks:=vs) (vs:=vs) rfl Vo
  rw[Bm]
  refine wpAny_bind (seqEpoch_at D4 rfl ?_)
  refine wpAny_bind (listUpdate_at D4 rfl ?_ (aar _) (by rw[aah,aab,abk,hp,sizeLine_eq];omega))
  rw[hf]
  simp only[bne_self_eq_false,aaT,if_false]
  exact wpAny_pure (h p.toList (by have:=pm.toList;simpa using this) hR)
theorem qE {R:List Nat->Prop} {l:Addr} {Q:Value->Shared->Prop} (hl:s.heap.IsList l vs.toArray) (D3:vs.length<64)
  (mP:2<=vs.length->∀h' Q',(∀b o,s.heap.get? b=some o->h'.get? b=some o)->Q' κ {s with heap:=h'}->wpAny (model prog w) A.in1.in1 (keyKind' vs.toArray) Q' (λ_ _=>False) {s with heap:=h'})
  (yV:∀i j h' C,i<vs.length->j<vs.length->(∀b o,s.heap.get? b=some o->h'.get? b=some o)->C (lt i j) {s with heap:=h'}->kas_ask prog w A.in1.in1 κ vs i j C {s with heap:=h'})
  (K2:2<=vs.length->Bd lt vs.length (λp=>Pm vs.length p/\R p.toList) (kas_sort vs.length)) (h0:vs.length<2->R (List.range vs.length))
  (h:∀p:List Nat,p.Perm (List.range vs.length)->R p->Q (.ref (s.heap.objs.size+1)) {s with heap:=sortedAll s.heap vs (p.map λi=>vs.getD i Value.none).toArray}):
  wpAny (model prog w) A (call (.builtin "sorted") [.ref l]) Q E s:=by
 refine Calls.call_function_entry kind_sorted plain_sorted entry_sorted (args_sorted1 _) ?_
 unfold Builtin.«sorted»
 refine wpAny_bind (m:=checkCount "sorted" 1 1 _) (wpAny_pure ?_)
 refine wpAny_bind (collect_list hl ?_ (by rw[sizeLine_eq];omega))
 refine wpAny_bind (wpAny_newList ?_ (by rw[sizeLine_eq];omega))
 have hsz:((s.heap.push (seqObj "list" #[] 0)).update s.heap.objs.size (Obj.mapSeq (·++vs.toArray))).objs.size=s.heap.objs.size+1:=by
  rw[Heap.size_update,size_push']
 have Co:(((s.heap.push (seqObj "list" #[] 0)).update s.heap.objs.size (Obj.mapSeq (·++vs.toArray))).push (seqObj "list" vs.toArray 0)).get? (s.heap.objs.size+1)=some (seqObj "list" vs.toArray 0):=by
  rw[<-hsz];exact Heap.get?_push_size _ rfl
 have keep:∀b o,s.heap.get? b=some o->b≠s.heap.objs.size+1/\(((s.heap.push (seqObj "list" #[] 0)).update s.heap.objs.size (Obj.mapSeq (·++vs.toArray))).push (seqObj "list" vs.toArray 0)).get? b=some o:=λb o q=>by
  have en:b<s.heap.objs.size:=Heap.lt_size q
  refine⟨aaj (aa9 en),?_⟩
  rw[Heap.get?_push_ne _ _ _ (by rw[hsz];exact aaj (aa9 en)),Heap.get?_update_ne _ _ _ _ (aaj en),Heap.get?_push_ne _ _ _ (aaj en)]
  exact q
 show wpAny _ _ _ _ _ {s with heap:=((s.heap.push (seqObj "list" #[] 0)).update s.heap.objs.size (Obj.mapSeq (·++vs.toArray))).push (seqObj "list" vs.toArray 0)}
 rw[hsz]
 refine wpAny_bind (wpAny_holding (wpAny_call_entry slot_list_sort ⟨_,Co,rfl⟩ entry_list_sort (kQ (lt:=lt) (κ:=κ) Co D3 (λh2 h' Q' hk hq=>mP h2 h' Q' (λb o q=>hk b o (keep b o q).1 (keep b o q).2) hq)
  (λi j h' C hi hj hk hC=>yV i j h' C hi hj (λb o q=>hk b o (keep b o q).1 (keep b o q).2) hC) K2 h0 λp hp hR=>⟨_,rfl,?_⟩) (args_list_sort _)))
 exact wpAny_pure ⟨_,rfl,h p hp hR⟩
theorem sG {l:Addr} {Q:Value->Shared->Prop} (hl:s.heap.IsList l vs.toArray) (D3:vs.length<64)
  (mP:2<=vs.length->∀h' Q',(∀b o,s.heap.get? b=some o->h'.get? b=some o)->Q' κ {s with heap:=h'}->wpAny (model prog w) A.in1.in1 (keyKind' vs.toArray) Q' (λ_ _=>False) {s with heap:=h'})
  (yV:∀i j h' C,i<vs.length->j<vs.length->(∀b o,s.heap.get? b=some o->h'.get? b=some o)->C (lt i j) {s with heap:=h'}->kas_ask prog w A.in1.in1 κ vs i j C {s with heap:=h'})
  (h:∀p:List Nat,p.Perm (List.range vs.length)->Q (.ref (s.heap.objs.size+1)) {s with heap:=sortedAll s.heap vs (p.map λi=>vs.getD i Value.none).toArray}):
  wpAny (model prog w) A (call (.builtin "sorted") [.ref l]) Q E s:=
 qE (R:=λ_=>True) hl D3 mP yV (λh2=>(Bw (by omega)).mono λ_ hp=>⟨hp,trivial⟩) (λ_=>trivial) λp hp _=>h p hp
noncomputable def K3 (x y:Int×Int):Bool:=if x.1=y.1 then decide (x.2<y.2) else decide (x.1<y.1)
theorem Bx {x y:Addr} {ox oy:Obj} {a b c d:Int} {t1 t2 t3 t4:Tok} {n k:Nat} {C:Bool->Shared->Prop} (hx:s.heap.get? x=some ox) (dx:ox.data=.seq #[.int a t1,.int b t2] n) (hy:s.heap.get? y=some oy) (dy:oy.data=.seq #[.int c t3,.int d t4] k)
  (h:C (K3 (a,b) (c,d)) s):wpAny (model prog w) A (keyLt' (tuples' true) (.ref x) (.ref y)) C E s:=by
 refine kat_lt hx dx hy dy (kat_cons (wpAny_eqBool_int ?_))
 unfold K3 at h
 dsimp only at h
 by_cases e:a=c
 ·rw[if_pos e] at h
  subst e
  rw[show(a==a)=true by simp]
  refine kat_yes (kat_cons (wpAny_eqBool_int ?_))
  by_cases e2:b=d
  ·subst e2
   rw[show(b==b)=true by simp]
   refine kat_yes (kat_nil ?_)
   simpa using h
  ·rw[show(b==d)=false by simpa using e2]
   refine kat_no (kat_one _ _ ?_)
   exact CmpOf.ints_lt (P:=λi v=>∃t,v=Value.int (if i=0 then b else d) t) (λi=>if i=0 then b else d) (λi v h=>h) 0 1 _ _ s _ _ ⟨t2,rfl⟩ ⟨t4,rfl⟩ h
 ·rw[if_neg e] at h
  rw[show(a==c)=false by simpa using e]
  exact kat_no (oneLt_int h)
end
end KS
namespace L2
open PySem PySem.Spec PyProof.Rows PySem.W
section
variable {X : Cx} {K : PySem.W.Frag}
theorem xj {xs:List V} {us:List Value} (r:aY xs us) (p:List Nat) (hp:p.Perm (List.range us.length)):∃ys,ys.Perm xs/\aY ys (p.map λi=>us.getD i Value.none):=by
 have hl:=r.length
 have get:∀i,i<us.length->∃x u,xs[i]?=some x/\us[i]?=some u/\RelV x u:=by
  clear hp hl
  induction r with
  | nil=>intro i hi;simp at hi
  | cons r1 r2 ih=>
   intro i hi
   cases i with
   | zero=>exact⟨_,_,rfl,rfl,r1⟩
   | succ i=>
    obtain⟨x,u,a1,a2,a3⟩:=ih i (by simpa using hi)
    exact⟨x,u,by simpa using a1,by simpa using a2,a3⟩
 refine⟨p.map λi=>xs.getD i .cc,?_,?_⟩
 ·refine(hp.map _).trans ?_
  rw[<-hl]
  have:(List.range xs.length).map (λi=>xs.getD i V.cc)=xs:=by
   apply aa3
   intro i
   rw[aaf]
   by_cases hi:i<xs.length
   ·rw[abl hi,aac hi]
    simp [hi]
   ·rw[aat (by rw[aaE];omega),aat (by omega)]
    rfl
  rw[this]
 ·have hb:∀i∈p,i<us.length:=λi hi=>List.mem_range.mp (hp.mem_iff.mp hi)
  clear hp
  induction p with
  | nil=>exact .nil
  | cons i p ih=>
   obtain⟨x,u,a1,a2,a3⟩:=get i (hb i aal)
   refine .cons ?_ (ih λj hj=>hb j (aak _ hj))
   show RelV (xs.getD i V.cc) (us.getD i Value.none)
   rw[aai,aai,a1,a2]
   exact a3
noncomputable def yW (H:Hp) (xs:List V):Prop:=∀x∈xs,∃t a b,x=.ref t/\H t=some (.tup [.int a,.int b])
theorem oS:cv X (.builtin "sorted") (λxs H Q=>∃p ys,xs=[.ref p]/\aV X.K H p ys/\ys.length<64/\yW H ys/\∀l zs,H l=none->zs.Perm ys->Q (.ref l) (upd H l (.lst zs))):=by
 intro pins s σ H xs us Q I r h
 obtain⟨p,ys,rfl,hq,hn,hP,q⟩:=h
 obtain⟨u,rfl,rx⟩:=vals1 r
 cases rx
 obtain⟨aP,rv,pl,hz⟩:=I.list hq
 have hl:=rv.length
 have each:∀v∈aP,∃t o a b t1 t2 n,v=.ref t/\s.heap.get? t=some o/\o.cls=.type "tuple"/\o.data=.seq #[.int a t1,.int b t2] n:=by
  clear hq hl q pl hz hn
  induction rv with
  | nil=>intro v hv;simp at hv
  | cons r1 r2 ih=>
   intro v hv
   rcases List.mem_cons.mp hv with rfl | hv
   ·obtain⟨t,a,b,rfl,ht⟩:=hP _ aal
    cases r1
    obtain⟨ZQ,v2,tp,_⟩:=I.tuple (dR.of ht)
    obtain⟨o,ho,hc,n,hd⟩:=tp
    cases v2 with
    | cons q1 q2=>
     cases q2 with
     | cons q3 q4=>
      cases q4
      obtain⟨t1,rfl⟩:=q1
      obtain⟨t2,rfl⟩:=q3
      exact⟨t,o,a,b,t1,t2,n,rfl,ho,hc,by simpa using hd⟩
   ·exact ih (λx hx=>hP x (aak _ hx)) v hv
 have GR:∀i:Nat,∃pr:Int×Int,∀v,aP[i]?=some v->∃t o t1 t2 n,v=.ref t/\s.heap.get? t=some o/\o.cls=.type "tuple"/\o.data=.seq #[.int pr.1 t1,.int pr.2 t2] n:=λi=>by
  cases hi:aP[i]? with
  | none=>exact⟨(0,0),λv hv=>by cases hv⟩
  | some v=>
   obtain⟨t,o,a,b,t1,t2,n,e1,e2,e3,e4⟩:=each v (aad hi)
   exact⟨(a,b),λv' hv=>by cases hv;exact⟨t,o,t1,t2,n,e1,e2,e3,e4⟩⟩
 obtain⟨f,hf⟩:=Classical.skolem.mp GR
 refine KS.sG (lt:=λi j=>KS.K3 (f i) (f j)) (κ:=tuples' true) pl.isList (by omega) (λh2 h' Q' hk hq=>?_) (λi j h' C hi hj hk hC=>?_) λp hp=>?_
 ·have kK:∀(l:List Value),(∀v∈l,v∈aP)->∃fs,KatTups h' l fs/\fs.length=l.length/\∀v∈fs,∃a t,v=Value.int a t:=by
   intro l
   induction l with
   | nil=>intro _;exact⟨[],trivial,rfl,λv hv=>by simp at hv⟩
   | cons v l ih=>
    intro hm
    obtain⟨fs,k1,k2,k3⟩:=ih λx hx=>hm x (aak _ hx)
    obtain⟨t,o,a,b,t1,t2,n,rfl,e2,e3,e4⟩:=each v (hm v aal)
    refine⟨.int a t1::fs,KatTups.cons (hk _ _ e2) e3 e4 rfl k1,by simp [k2],λx hx=>?_⟩
    rcases List.mem_cons.mp hx with rfl | hx
    ·exact⟨a,t1,rfl⟩
    ·exact k3 x hx
  obtain⟨fs,k1,k2,k3⟩:=kK aP λv hv=>hv
  exact kat_kind (T:=.type "int") (s:={s with heap:=h'}) k1 (by omega) (λv hv=>by obtain⟨a,t,rfl⟩:=k3 v hv;exact .now) (by decide) hq
 ·obtain⟨t,o,t1,t2,n,e1,e2,e3,e4⟩:=hf i _ (aac hi)
  obtain⟨t',o',t3,t4,n',Vp,Vq,ZR,Vr⟩:=hf j _ (aac hj)
  unfold kas_ask
  rw[aai,aai,aac hi,aac hj,e1,Vp]
  exact KS.Bx (s:={s with heap:=h'}) (hk _ _ e2) e4 (hk _ _ Vq) Vr hC
 ·obtain⟨zs,pz,vz⟩:=xj rv p hp
  obtain⟨e,he⟩:=sortedAll_at s.heap aP (p.map λi=>aP.getD i Value.none).toArray
  have fr:=I.bI.fresh (a:=s.heap.objs.size+1) (Nat.le_succ _)
  refine⟨.ref (s.heap.objs.size+1),_,I.laid (t':=s.toks) (λ_ _=>sortedAll_old) (Nat.le_succ _) (o:=.lst zs) ⟨?_,_,e,vz,?_⟩,rfl,q _ _ fr pz⟩
  ·rw[pz.length_eq,sizeLine_eq];omega
  ·exact he
theorem nh (hK:X.K=K:=by rfl):cv X (.builtin "sorted") (λxs H Q=>∃p ys,xs=[.ref p]/\aV K H p ys/\ys.length<64/\yW H ys/\∀l zs,H l=none->zs.Perm ys->Q (.ref l) (upd H l (.lst zs))):=by subst hK;exact oS
end
end L2
namespace Lv
open L2
theorem D5 {fs:Fs} {k:Nat} {u:Int}:lk fs (k:Int)=some u↔fs[k]?=some (some u):=by
 rw[pQ,aap]
noncomputable def nm (s:List Nat) (g:Int):Int:=((s.getD g.toNat 0:Nat):Int)
noncomputable def Vs (s:List Nat):Pl->Pl
 | .fin w=>.fin w
 | .dO w ws=>.dO w (ws.map λp=>(p.1,nm s p.2))
 | .cu w to=>.cu w (to.map (nm s))
noncomputable def turn (s:List Nat) (b:List Pl):List Pl:=(List.range b.length).map λj=>Vs s (b.getD (s.idxOf j) (.fin (0,1)))
section
variable {s : List Nat} {n : Nat} (p : s.Perm (List.range n))
include p
theorem yX:s.Nodup:=p.nodup_iff.mpr List.nodup_range
theorem jW {i i' j:Nat} (h:s[i]?=some j) (h':s[i']?=some j):i=i':=by
 have l1:=(List.getElem?_eq_some_iff.mp h).1
 exact(List.getElem?_inj l1 (yX p)).mp (h.trans h'.symm)
theorem yY {i j:Nat} (h:s[i]?=some j):s.idxOf j=i:=by
 have hm:j∈s:=aad h
 have hl:s.idxOf j<s.length:=List.idxOf_lt_length_iff.mpr hm
 have:s[s.idxOf j]?=some j:=by rw[aac hl,abc]
 exact jW p this h
end
end Lv
namespace PySem
open Builtin Builtin.Str
section
variable {prog : Program} {w : World} {A : Around} {E : Value -> Shared -> Prop} {s : Shared} {x y : Str} {t u : Tok} {Q : Value -> Shared -> Prop}
end
end PySem
namespace L2
open PySem PySem.Spec PyProof.Rows PySem.W
section
variable {X : Cx} {K : PySem.W.Frag}
noncomputable def Vt (z:Str):It:=⟨λi _=>i<z.cps.size,λi H x H'=>H'=H/\∃c,z.cps[i]?=some c/\x=.str ⟨#[c]⟩,λi _=>z.cps.size<=i⟩
noncomputable def iStr (tl:TE):TI:=λσ H R=>tl σ H λx H1=>∃z,x=.str z/\z.cps.all (·<128)=true/\R (Vt z) H1
theorem sI {x:Str} {i:Int} {pos:Pos} (hg:Gl X x) (h:∃t,X.mg x=some (.int i t)) (hd:(x==("__debug__":Str))=false:=by decide):PE X (.Name x pos) (tC (.int i)):=by
 obtain⟨t,h⟩:=h
 exact AQ hg h ⟨t,rfl⟩ hd
end
end L2
namespace PySem
end PySem
namespace PySem
open Builtin Builtin.Str StrLaws
abbrev Vu:Str:=⟨#[32,43,32]⟩
end PySem
namespace L2
open PySem PySem.Spec PyProof.Rows PySem.W
section
variable {X : Cx} {K : PySem.W.Frag}
end
end L2
namespace PySem
section
variable {M : Model} {A : Around} {E : Value -> Shared -> Prop} {s : Shared} {env : Env}
end
end PySem
namespace L2
open PySem PySem.Spec PyProof.Rows PySem.W
section
variable {M : Model} {A : Around} {E : Value -> Shared -> Prop} {s : Shared} {B : Heap} {l : List Env} {ad L : Addr} {cls a0 : Value}
end
section
variable {P : Program} {w : World} {K : PySem.W.Frag} {mg : Str -> Option Value} {base : Heap} {N : List Str} {qual : Str} {scope : Scope} {f : Addr} {cn : Value} {A : Around} {outer : List Env} {s0 : Shared} {H0 : Hp} {E : XK}
end
end L2
namespace L2
open PySem PySem.Spec PyProof.Rows PySem.W
section
variable {X : Cx}
end
end L2
namespace L2
open PySem PySem.Spec PyProof.Rows PySem.W
abbrev SX (h:Heap) (T:Addr) (a b c:Value):Prop:=h.get? T=some {cls:=.type "tuple",data:=.seq #[a,b,c]}
structure ZT (z TI TO i1 i2 i3 a b c:Addr):Prop where
 TIz:TI≠z
 TOz:TO≠z
 i1z:i1≠z
 i2z:i2≠z
 ZU:i3≠z
 TITO:TI≠TO
 ZV:TI≠i1
 ZW:TI≠i2
 ZX:TI≠i3
 ZY:TO≠i1
 ZZ:TO≠i2
 Z2:TO≠i3
 i12:i1≠i2
 Z3:i1≠i3
 Z4:i2≠i3
 az:a≠z
 bz:b≠z
 cz:c≠z
 Z5:b≠TO
 Z6:c≠TO
 b1:b≠i1
 c1:c≠i1
 c2:c≠i2
section
variable {prog : Program} {w : World} {A : Around} {E : Value -> Shared -> Prop} {s : Shared}
end
abbrev SY (h:Heap) (la:Addr):Heap:=h.push {cls:=.type "list_iterator",data:=.fields #[.ref la,.int 0 0]}
abbrev S0 (h:Heap) (la lb:Addr):Heap:=(SY h la).push {cls:=.type "list_iterator",data:=.fields #[.ref lb,.int 0 0]}
abbrev S2 (h:Heap) (la lb lc:Addr):Heap:=(S0 h la lb).push {cls:=.type "list_iterator",data:=.fields #[.ref lc,.int 0 0]}
abbrev S3 (h:Heap) (la lb lc:Addr):Heap:=(S2 h la lb lc).push {cls:=.type "tuple",data:=.seq #[.ref h.objs.size,.ref (SY h la).objs.size,.ref (S0 h la lb).objs.size]}
abbrev Vv (h:Heap) (la lb lc:Addr):Heap:=(S3 h la lb lc).push {cls:=.type "tuple",data:=.seq #[.none,.none,.none]}
abbrev Z7 (h:Heap) (la lb lc:Addr):Heap:=(Vv h la lb lc).push {cls:=.type "zip",data:=.fields #[.none,.bool false,.bool false,.ref (S2 h la lb lc).objs.size,.ref (S3 h la lb lc).objs.size]}
section
variable {prog : Program} {w : World} {A : Around} {E : Value -> Shared -> Prop} {s : Shared}
end
section
variable {X : Cx} {elts : List Expr} {kk : Nat} {gu : Pos} {K : PySem.W.Frag}
end
end L2
namespace L2
open PySem PySem.Spec PyProof.Rows PySem.W
structure GS (P:Program) (w:World) (K:PySem.W.Frag) (mg:Str->Option Value) (base:Heap) (CX:iG) (k:Nat) (f:Addr) (fd:FuncData) (ps:List Str) (sp:Sp):Prop where
 len:∀vs H Q E,sp vs H Q E->vs.length=ps.length
 run:∀(A:Around) (ad:Addr) (outer:List Env) (s:Shared) (H:Hp) (args:Args) (us:List Value) (vs:List V) (Q:VK) (E:XK),cN k A->rN P w K mg base A outer s H->BindsTo s fd args (ps.zip us)->aY vs us->sp vs H Q E->
  codeAny (model P w) (A.mark (some (.ref ad))) (.call (.ref f) args) (CR CX outer P w H s Q E) s
structure Vw (P:Program) (w:World) (K:PySem.W.Frag) (mg:Str->Option Value) (base:Heap) (CX:iG) (k:Nat) (x:Str) (ps:List Str) (sp:Sp):Prop where
 ex:∃f fd,GS P w K mg base CX k f fd ps sp/\mg x=some (.ref f)/\PySem.W.keepIn K (.ref f)=true/\Binds K fd ps []
section
variable {P : Program} {w : World} {K : PySem.W.Frag} {mg : Str -> Option Value} {base : Heap} {CX : iG}
end
section
variable {X : Cx} {K : PySem.W.Frag}
end
end L2
namespace PySem
open Builtin Builtin.Str StrLaws
end PySem
namespace L2
open PySem PySem.Spec PyProof.Rows PySem.W
section
variable {X : Cx} {K : PySem.W.Frag}
end
end L2
namespace L2
open PySem PySem.Spec PyProof.Rows PySem.W
section
variable {X : Cx} {K : PySem.W.Frag}
noncomputable def tSortR (K:PySem.W.Frag) (te:TE):TE:=λσ H Q=>te σ H λv H1=>∃p ns,v=.ref p/\aV K H1 p (List.map V.int ns)/\ns.length<64/\∀l,H1 l=none->Q (.ref l) (upd H1 l (.lst (List.map V.int (Nm.gA ns).reverse)))
end
end L2
namespace PySem.SeqAt
open AutoSeq1 (wpAny_loadPart')
open MeetsSeq MeetsSeq2 MeetsSeq3
end PySem.SeqAt
namespace L2
open PySem PySem.Spec PyProof.Rows PySem.W
section
variable {X : Cx} {K : PySem.W.Frag}
end
end L2
namespace PySem.UL
section
variable {prog : Program} {w : World} {A : Around} {E : Value -> Shared -> Prop} {s : Shared}
end
end PySem.UL
namespace L2
open PySem PySem.Spec PyProof.Rows PySem.W
section
variable {X : Cx} {K : PySem.W.Frag}
end
end L2
namespace PySem.Tim
open PySem PyProof.Rows
noncomputable def oM (x:Keyed):Prop:=∃n t,x.1=.int n t
abbrev kn (x:Keyed):Int:=numOf x.1
noncomputable def cR:Bool->Keyed->Array Keyed->Nat->Nat->Nat->StateT SortSt Sem (Option Nat):=sortPriv% PySem.Builtin.gallop
noncomputable def D6 (left:Bool) (key:Keyed) (arr:Array Keyed) (base i:Nat):StateT SortSt Sem (Option Bool):=do
 let x <-elem' arr (base+i)
 if left then lt' x key else return (<-lt' key x).map (!·)
noncomputable def By (left:Bool) (key:Keyed) (arr:Array Keyed) (base n Vx K4:Nat):StateT SortSt Sem (Option Nat):=do
 let mut lo:=Vx
 let mut hi:=K4
 for _ in [0:n] do
  if lo≥hi then break
  let m:=lo+ (hi - lo) / 2
  let some more <-D6 left key arr base m | return none
  if more then lo:=m+1 else hi:=m
 return some hi
theorem uQ (left:Bool) (key:Keyed) (arr:Array Keyed) (base n hint:Nat):cR left key arr base n hint=(do
 let some right <-D6 left key arr base hint | return none
 if right then
  let mut jl:=0
  let mut dA:=1
  for _ in [0:n] do
   if dA≥n - hint then break
   let some more <-D6 left key arr base (hint+dA) | return none
   if !more then break
   jl:=dA
   dA:=2*dA+1
  By left key arr base n (hint+jl+1) (hint+min dA (n - hint))
 else
  let mut jl:=0
  let mut dA:=1
  for _ in [0:n] do
   if dA≥hint+1 then break
   let some found <-D6 left key arr base (hint - dA) | return none
   if found then break
   jl:=dA
   dA:=2*dA+1
  By left key arr base n (hint+1 - min dA (hint+1)) (hint - jl)):=rfl
section
variable {prog : Program} {w : World} {A : Around} {E : Value -> Shared -> Prop} {s : Shared}
theorem nj {st:SortSt} {x y:Keyed} {Q:Option Bool->SortSt->Prop} (hk:kindOf st=oneType') (hx:oM x) (hy:oM y) (h:Q (some (decide (kn x<kn y))) st):wpS (model prog w) A E s (lt' x y) Q st:=by
 obtain⟨a,t,ea⟩:=hx
 obtain⟨b,u,eb⟩:=hy
 unfold kn at h
 rw[ea,eb] at h
 rw[lt'_eq]
 refine wpS_bind (wpS_get ?_)
 rw[hk,keyLt'_oneType,ea,eb]
 refine wpS_bind (wpS_lift (wpAny_attempt (oneLt_int ⟨rfl,?_⟩)))
 exact wpS_pure h
theorem bu {st:SortSt} {arr:Array Keyed} {i:Nat} {p:Keyed} {Q:Keyed->SortSt->Prop} (hp:arr[i]?=some p) (h:Q p st):wpS (model prog w) A E s (elem' arr i) Q st:=by
 rw[elem'_eq,hp]
 exact wpS_pure h
noncomputable def B (left:Bool) (key:Keyed) (arr:Array Keyed) (base i:Nat):Bool:=if left then decide (K arr (base+i)<kn key) else decide (K arr (base+i)<=kn key)
theorem Bz {st:SortSt} {left:Bool} {key:Keyed} {arr:Array Keyed} {base i:Nat} {p:Keyed} {Q:Option Bool->SortSt->Prop} (hk:kindOf st=oneType') (hy:oM key) (hp:arr[base+i]?=some p) (ip:oM p)
  (h:Q (some (B left key arr base i)) st):wpS (model prog w) A E s (D6 left key arr base i) Q st:=by
 have e:K arr (base+i)=kn p:=by unfold K;rw[hp]
 unfold D6
 refine wpS_bind (bu hp ?_)
 unfold B at h
 rw[e] at h
 cases left with
 | true=>exact nj hk ip hy h
 | false=>
  refine wpS_bind (nj hk hy ip (wpS_pure ?_))
  have e2:(Option.map (λx=>!x) (some (decide (kn key<kn p))))=some (decide (kn p<=kn key)):=by
   by_cases c:kn key<kn p
   ·simp [c]
   ·simp [c];omega
  rw[e2]
  exact h
theorem de {st:SortSt} {left:Bool} {key:Keyed} {arr:Array Keyed} {base n hint:Nat} {Q:Option Nat->SortSt->Prop} (hk:kindOf st=oneType') (hy:oM key) (hp:∀i,i<n->∃p,arr[base+i]?=some p/\oM p)
  (hh:hint<n) (mono:∀i j,i<=j->j<n->K arr (base+i)<=K arr (base+j))
  (h:∀k,k<=n->(∀i,i<k->B left key arr base i=true)->(∀i,k<=i->i<n->B left key arr base i=false)->Q (some k) st):wpS (model prog w) A E s (cR left key arr base n hint) Q st:=by
 have dn:∀{i j},i<=j->j<n->B left key arr base j=true->B left key arr base i=true:=λ{i j} qg hj hb=>by
  have:=mono i j qg hj
  unfold B at *
  cases left with
  | true=>simp at *;omega
  | false=>simp at *;omega
 have ask:∀{i:Nat} {Q':Option Bool->SortSt->Prop},i<n->Q' (some (B left key arr base i)) st->wpS (model prog w) A E s (D6 left key arr base i) Q' st:=λ{i Q'} hi hq=>by
  obtain⟨p,e,ip⟩:=hp i hi
  exact Bz hk hy e ip hq
 have bin:∀lo hi,lo<=hi->hi<=n->(∀i,i<lo->B left key arr base i=true)->(∀i,hi<=i->i<n->B left key arr base i=false)->wpS (model prog w) A E s (By left key arr base n lo hi) Q st:=by
  intro lo hi l1 l2 b1 b2
  unfold By
  refine wpS_bind (wpS_mono (wpS_forRange (I:=λx c aN=>aN=st/\∃lo hi,c=(none,lo,hi)/\lo<=hi/\hi<=n/\hi - lo<=n - x/\(∀i,i<lo->B left key arr base i=true)/\(∀i,hi<=i->i<n->B left key arr base i=false))
   (Q:=λc aN=>aN=st/\∃hi,c=(none,hi,hi)/\hi<=n/\(∀i,i<hi->B left key arr base i=true)/\(∀i,hi<=i->i<n->B left key arr base i=false)) ?step ?fin ⟨rfl,lo,hi,rfl,l1,l2,by omega,b1,b2⟩) ?post)
  case fin=>
   rintro c aN ⟨rfl,lo,hi,rfl,l1,l2,l3,b1,b2⟩
   have:lo=hi:=by omega
   subst this
   exact⟨rfl,lo,rfl,l2,b1,b2⟩
  case step=>
   rintro x c aN _ hx ⟨rfl,lo,hi,rfl,l1,l2,l3,b1,b2⟩
   dsimp only
   by_cases c:lo≥hi
   ·rw[if_pos c]
    have:lo=hi:=by omega
    subst this
    exact wpS_pure ⟨rfl,lo,rfl,l2,b1,b2⟩
   ·rw[if_neg c]
    have hm:lo+ (hi - lo) / 2<n:=by omega
    refine wpS_bind (ask hm ?_)
    cases hb:B left key arr base (lo+ (hi - lo) / 2) with
    | true=>
     dsimp only
     rw[if_pos rfl]
     refine wpS_pure ⟨rfl,_,_,rfl,by omega,l2,by omega,λi oU=>dn (show i<=lo+ (hi - lo) / 2 by omega) hm hb,b2⟩
    | false=>
     dsimp only
     rw[if_neg (by simp)]
     refine wpS_pure ⟨rfl,_,_,rfl,by omega,by omega,by omega,b1,λi h1 h2=>?_⟩
     cases hc:B left key arr base i with
     | false=>rfl
     | true=>rw[dn h1 h2 hc] at hb;cases hb
  case post=>
   rintro c aN ⟨rfl,hi,rfl,l2,b1,b2⟩
   exact wpS_pure (h hi l2 b1 b2)
 rw[uQ]
 refine wpS_bind (ask hh ?_)
 cases hr:B left key arr base hint with
 | true=>
  dsimp only
  rw[if_pos rfl]
  refine wpS_bind (wpS_mono (wpS_forRange (I:=λx c aN=>aN=st/\∃lst dA,c=(none,lst,dA)/\lst<dA/\x+1<=dA/\hint+lst<n/\B left key arr base (hint+lst)=true)
   (Q:=λc aN=>aN=st/\∃lst dA,c=(none,lst,dA)/\lst<dA/\hint+lst<n/\B left key arr base (hint+lst)=true/\(dA≥n - hint\/B left key arr base (hint+dA)=false)) ?step ?fin ⟨rfl,0,1,rfl,by omega,by omega,by omega,hr⟩) ?post)
  case fin=>
   rintro c aN ⟨rfl,lst,dA,rfl,l1,l2,l3,b1⟩
   exact⟨rfl,lst,dA,rfl,l1,l3,b1,.inl (by omega)⟩
  case step=>
   rintro x c aN _ hx ⟨rfl,lst,dA,rfl,l1,l2,l3,b1⟩
   dsimp only
   by_cases c:dA≥n - hint
   ·rw[if_pos c]
    exact wpS_pure ⟨rfl,lst,dA,rfl,l1,l3,b1,.inl c⟩
   ·rw[if_neg c]
    refine wpS_bind (ask (by omega) ?_)
    cases hb:B left key arr base (hint+dA) with
    | true=>
     dsimp only
     rw[if_neg (by simp)]
     exact wpS_pure ⟨rfl,dA,2*dA+1,rfl,by omega,by omega,by omega,hb⟩
    | false=>
     dsimp only
     rw[if_pos (by simp)]
     exact wpS_pure ⟨rfl,lst,dA,rfl,l1,l3,b1,.inr hb⟩
  case post=>
   rintro c aN ⟨rfl,lst,dA,rfl,l1,l3,b1,b2⟩
   dsimp only
   refine bin _ _ (by omega) (by omega) (λi hi=>dn (show i<=hint+lst by omega) l3 b1) λi h1 h2=>?_
   rcases b2 with c | c
   ·omega
   ·cases hc:B left key arr base i with
    | false=>rfl
    | true=>rw[dn (show hint+dA<=i by omega) h2 hc] at c;cases c
 | false=>
  dsimp only
  rw[if_neg (by simp)]
  refine wpS_bind (wpS_mono (wpS_forRange (I:=λx c aN=>aN=st/\∃lst dA,c=(none,lst,dA)/\lst<dA/\x+1<=dA/\lst<=hint/\B left key arr base (hint - lst)=false)
   (Q:=λc aN=>aN=st/\∃lst dA,c=(none,lst,dA)/\lst<dA/\lst<=hint/\B left key arr base (hint - lst)=false/\(dA≥hint+1\/B left key arr base (hint - dA)=true)) ?step2 ?fin2 ⟨rfl,0,1,rfl,by omega,by omega,by omega,hr⟩) ?post2)
  case fin2=>
   rintro c aN ⟨rfl,lst,dA,rfl,l1,l2,l3,b1⟩
   exact⟨rfl,lst,dA,rfl,l1,l3,b1,.inl (by omega)⟩
  case step2=>
   rintro x c aN _ hx ⟨rfl,lst,dA,rfl,l1,l2,l3,b1⟩
   dsimp only
   by_cases c:dA≥hint+1
   ·rw[if_pos c]
    exact wpS_pure ⟨rfl,lst,dA,rfl,l1,l3,b1,.inl c⟩
   ·rw[if_neg c]
    refine wpS_bind (ask (by omega) ?_)
    cases hb:B left key arr base (hint - dA) with
    | false=>
     dsimp only
     rw[if_neg (by simp)]
     exact wpS_pure ⟨rfl,dA,2*dA+1,rfl,by omega,by omega,by omega,hb⟩
    | true=>
     dsimp only
     rw[if_pos rfl]
     exact wpS_pure ⟨rfl,lst,dA,rfl,l1,l3,b1,.inr hb⟩
  case post2=>
   rintro c aN ⟨rfl,lst,dA,rfl,l1,l3,b1,b2⟩
   dsimp only
   refine bin _ _ (by omega) (by omega) (λi hi=>?_) λi h1 h2=>?_
   ·rcases b2 with c | c
    ·omega
    ·exact dn (show i<=hint - dA by omega) (by omega) c
   ·cases hc:B left key arr base i with
    | false=>rfl
    | true=>rw[dn h1 h2 hc] at b1;cases b1
noncomputable def kx (g:Nat):StateT SortSt Sem Unit:=(sortPriv% PySem.Builtin.setMinGallop) g
theorem yZ (g:Nat):kx g=modify λs=>SortSt.mk' (kindOf s) (arrOf s) (pendingOf s) g (failedOf s):=rfl
noncomputable def nk:Array Keyed->Array Keyed->StateT SortSt Sem (Array Keyed):=sortPriv% PySem.Builtin.mergeLo
noncomputable def dn (a b out:Array Keyed) (ia ib:Nat):Array Keyed:=out++a.extract ia a.size++b.extract ib b.size
noncomputable def lA (a b out:Array Keyed) (ia ib:Nat):Array Keyed:=out++b.extract ib b.size++a.extract ia a.size
theorem sJ (a b:Array Keyed):nk a b=(do
 rule "list.sort.merge-lo"
 let mut out:Array Keyed:=#[<-elem' b 0]
 let mut ia:=0
 let mut ib:=1
 if ib==b.size then return dn a b out ia ib
 if ia+1==a.size then return lA a b out ia ib
 let mut aZ:=gallopOf (<-get)
 for _ in [0:a.size+b.size] do
  let mut df:=0
  let mut di:=0
  for _ in [0:a.size+b.size] do
   let some GU <-lt' (<-elem' b ib) (<-elem' a ia) | return dn a b out ia ib
   if GU then
    out:=out.push (<-elem' b ib);ib:=ib+1;di:=di+1;df:=0
    if ib==b.size then return dn a b out ia ib
    if di≥aZ then break
   else
    out:=out.push (<-elem' a ia);ia:=ia+1;df:=df+1;di:=0
    if ia+1==a.size then return lA a b out ia ib
    if df≥aZ then break
  rule "list.sort.gallop"
  aZ:=aZ+1
  for _ in [0:a.size+b.size] do
   if aZ >1 then aZ:=aZ - 1
   kx aZ
   let some k <-cR false (<-elem' b ib) a ia (a.size - ia) 0 | return dn a b out ia ib
   df:=k
   if k >0 then
    out:=out++a.extract ia (ia+k);ia:=ia+k
    if ia+1==a.size then return lA a b out ia ib
    if ia==a.size then return dn a b out ia ib
   out:=out.push (<-elem' b ib);ib:=ib+1
   if ib==b.size then return dn a b out ia ib
   let some k <-cR true (<-elem' a ia) b ib (b.size - ib) 0 | return dn a b out ia ib
   di:=k
   if k >0 then
    out:=out++b.extract ib (ib+k);ib:=ib+k
    if ib==b.size then return dn a b out ia ib
   out:=out.push (<-elem' a ia);ia:=ia+1
   if ia+1==a.size then return lA a b out ia ib
   if df<7 && di<7 then break
  aZ:=aZ+1
  kx aZ
 unsupported "internal:list.sort.merge-bound"):=rfl
noncomputable def Le (x y:Keyed):Prop:=kn x<=kn y
structure MI (a b out:List Keyed) (ia ib:Nat):Prop where
 perm:out.Perm (a.take ia++b.take ib)
 gA:out.Pairwise Le
 le:∀x∈out,∀y,(y∈a.drop ia\/y∈b.drop ib)->kn x<=kn y
theorem take_one {l:List Keyed} {i:Nat} {x:Keyed} (e:l[i]?=some x):l.take (i+1)=l.take i++ [x]:=by rw[aaI,e];rfl
theorem drop_one {l:List Keyed} {i:Nat} {x:Keyed} (e:l[i]?=some x):l.drop i=x::l.drop (i+1):=by
 obtain⟨h,rfl⟩:=List.getElem?_eq_some_iff.mp e
 exact List.drop_eq_getElem_cons h
theorem dB {l:List Keyed} {i:Nat} {x:Keyed} (h:l.Pairwise Le) (e:l[i]?=some x):∀y∈l.drop i,kn x<=kn y:=by
 have:=List.Pairwise.drop (i:=i) h
 rw[drop_one e] at this ⊢
 intro y hy
 rcases List.mem_cons.mp hy with rfl | hy
 ·exact aaP _
 ·exact(List.pairwise_cons.mp this).1 y hy
theorem MI.kA {a b out:List Keyed} {ia ib:Nat} {x:Keyed} (m:MI a b out ia ib) (hb:b.Pairwise Le) (e:b[ib]?=some x) (h:∀y∈a.drop ia,kn x<=kn y):MI a b (out++ [x]) ia (ib+1):=by
 have xb:x∈b.drop ib:=by rw[drop_one e];simp
 have sub:∀y∈b.drop (ib+1),y∈b.drop ib:=λy hy=>by rw[drop_one e];exact aak _ hy
 refine⟨?_,?_,?_⟩
 ·rw[take_one e,<-aaB]
  exact m.perm.append_right _
 ·rw[aa4]
  exact⟨m.gA,by simp,λu hu v hv=>by rw[List.mem_singleton.mp hv];exact m.le u hu x (.inr xb)⟩
 ·intro u hu y hy
  rcases List.mem_append.mp hu with hu | hu
  ·rcases hy with hy | hy
   ·exact m.le u hu y (.inl hy)
   ·exact m.le u hu y (.inr (sub y hy))
  ·rw[List.mem_singleton.mp hu]
   rcases hy with hy | hy
   ·exact h y hy
   ·exact dB hb e y (sub y hy)
theorem MI.kB {a b out:List Keyed} {ia ib:Nat} {x:Keyed} (m:MI a b out ia ib) (ha:a.Pairwise Le) (e:a[ia]?=some x) (h:∀y∈b.drop ib,kn x<=kn y):MI a b (out++ [x]) (ia+1) ib:=by
 have xb:x∈a.drop ia:=by rw[drop_one e];simp
 have sub:∀y∈a.drop (ia+1),y∈a.drop ia:=λy hy=>by rw[drop_one e];exact aak _ hy
 refine⟨?_,?_,?_⟩
 ·rw[take_one e,aaB]
  refine(m.perm.append_right [x]).trans ?_
  rw[aaB]
  exact List.perm_append_comm.append_left _
 ·rw[aa4]
  exact⟨m.gA,by simp,λu hu v hv=>by rw[List.mem_singleton.mp hv];exact m.le u hu x (.inl xb)⟩
 ·intro u hu y hy
  rcases List.mem_append.mp hu with hu | hu
  ·rcases hy with hy | hy
   ·exact m.le u hu y (.inl (sub y hy))
   ·exact m.le u hu y (.inr hy)
  ·rw[List.mem_singleton.mp hu]
   rcases hy with hy | hy
   ·exact dB ha e y (sub y hy)
   ·exact h y hy
theorem MI.y2 {a b out:List Keyed} {ia ib:Nat} (m:MI a b out ia ib) (ha:a.Pairwise Le):∀k,ia+k<=a.length->(∀i x,i<k->a[ia+i]?=some x->∀y∈b.drop ib,kn x<=kn y)->MI a b (out++ (a.drop ia).take k) (ia+k) ib
 | 0,_,_=>by simpa using m
 | k+1,hk,h=>by
  have e:a[ia+k]?=some (a[ia+k]'(by omega)):=aac (by omega)
  have m1:=(m.y2 ha k (by omega) λi x hi=>h i x (by omega)).kB ha e (h k _ (by omega) e)
  have e2:(a.drop ia).take (k+1)=(a.drop ia).take k++ [a[ia+k]'(by omega)]:=take_one (by rw[aa2];exact e)
  rw[e2,<-aaB]
  exact m1
theorem MI.y3 {a b out:List Keyed} {ia ib:Nat} (m:MI a b out ia ib) (hb:b.Pairwise Le):∀k,ib+k<=b.length->(∀i x,i<k->b[ib+i]?=some x->∀y∈a.drop ia,kn x<=kn y)->MI a b (out++ (b.drop ib).take k) ia (ib+k)
 | 0,_,_=>by simpa using m
 | k+1,hk,h=>by
  have e:b[ib+k]?=some (b[ib+k]'(by omega)):=aac (by omega)
  have m1:=(m.y3 hb k (by omega) λi x hi=>h i x (by omega)).kA hb e (h k _ (by omega) e)
  have e2:(b.drop ib).take (k+1)=(b.drop ib).take k++ [b[ib+k]'(by omega)]:=take_one (by rw[aa2];exact e)
  rw[e2,<-aaB]
  exact m1
noncomputable def Res (a b r:List Keyed):Prop:=r.Perm (a++b)/\r.Pairwise Le
theorem MI.vG {a b out:List Keyed} {ia ib:Nat} (m:MI a b out ia ib) (ha:a.Pairwise Le) (h:b.length<=ib):Res a b (out++a.drop ia++b.drop ib):=by
 have e:b.drop ib=[]:=List.drop_of_length_le h
 have e2:b.take ib=b:=aaD h
 rw[e,aaL]
 refine⟨?_,?_⟩
 ·have:=m.perm.append_right (a.drop ia)
  rw[e2,aaB] at this
  refine this.trans ((List.perm_append_comm (l₁:=b) (l₂:=a.drop ia)).append_left (a.take ia) |>.trans ?_)
  rw[<-aaB,aaY]
 ·rw[aa4]
  exact⟨m.gA,ha.drop,λu hu v hv=>m.le u hu v (.inl hv)⟩
theorem MI.y4 {a b out:List Keyed} {ia ib:Nat} (m:MI a b out ia ib) (hb:b.Pairwise Le) (h:a.length<=ia):Res a b (out++a.drop ia++b.drop ib):=by
 have e:a.drop ia=[]:=List.drop_of_length_le h
 have e2:a.take ia=a:=aaD h
 rw[e,aaL]
 refine⟨?_,?_⟩
 ·have:=m.perm.append_right (b.drop ib)
  rw[e2,aaB,aaY] at this
  exact this
 ·rw[aa4]
  exact⟨m.gA,hb.drop,λu hu v hv=>m.le u hu v (.inr hv)⟩
theorem MI.CD {a b out:List Keyed} {ia ib:Nat} (m:MI a b out ia ib) (ha:a.Pairwise Le) (hb:b.Pairwise Le) (h:ia+1=a.length) (hl:∀x,a[ia]?=some x->∀y∈b,kn y<=kn x):Res a b (out++b.drop ib++a.drop ia):=by
 have e:a[ia]?=some (a[ia]'(by omega)):=aac (by omega)
 have e2:a.drop ia=[a[ia]'(by omega)]:=by rw[drop_one e,List.drop_of_length_le (by omega)]
 refine⟨?_,?_⟩
 ·have h1:=(m.perm.append_right (b.drop ib)).append_right (a.drop ia)
  rw[aaB (a.take ia),aaY] at h1
  refine h1.trans ?_
  rw[aaB]
  refine((List.perm_append_comm (l₁:=b) (l₂:=a.drop ia)).append_left (a.take ia)).trans ?_
  rw[<-aaB,aaY]
 ·rw[aa4,aa4]
  refine⟨⟨m.gA,hb.drop,λu hu v hv=>m.le u hu v (.inr hv)⟩,ha.drop,λu hu v hv=>?_⟩
  rcases List.mem_append.mp hu with hu | hu
  ·exact m.le u hu v (.inl hv)
  ·rw[e2] at hv
   rw[List.mem_singleton.mp hv]
   exact hl _ e u (List.mem_of_mem_drop hu)
theorem qF (a b out:Array Keyed) (ia ib:Nat):(dn a b out ia ib).toList=out.toList++a.toList.drop ia++b.toList.drop ib:=by
 unfold dn
 simp only[Array.toList_append,Array.toList_extract]
 simp
 rw[aaD (by simp),aaD (by simp)]
theorem vH (a b out:Array Keyed) (ia ib:Nat):(lA a b out ia ib).toList=out.toList++b.toList.drop ib++a.toList.drop ia:=by
 unfold lA
 simp only[Array.toList_append,Array.toList_extract]
 simp
 rw[aaD (by simp),aaD (by simp)]
noncomputable def SG (st aN:SortSt):Prop:=kindOf aN=kindOf st/\arrOf aN=arrOf st/\pendingOf aN=pendingOf st/\failedOf aN=failedOf st
theorem SG.refl (st:SortSt):SG st st:=⟨rfl,rfl,rfl,rfl⟩
theorem jm {st aN:SortSt} {g:Nat} {Q:Unit->SortSt->Prop} (hs:SG st aN) (h:∀iM,SG st iM->Q () iM):wpS (model prog w) A E s (kx g) Q aN:=by
 rw[yZ]
 exact wpS_modify (h _ ⟨hs.1,hs.2.1,hs.2.2.1,hs.2.2.2⟩)
theorem cw {a:Array Keyed} {i:Nat} {x:Keyed} (e:a.toList[i]?=some x):K a i=kn x:=by
 unfold K
 rw[<-aaU,e]
theorem fJ (a:Array Keyed) (i k:Nat):(a.extract i (i+k)).toList=(a.toList.drop i).take k:=by
 rw[Array.toList_extract]
 simp
theorem bF {a:Array Keyed} {i:Nat} (h:i<a.size):∃x,a.toList[i]?=some x/\a[i]?=some x:=⟨a[i],by rw[aac (by simpa using h)];rfl,by simp [h]⟩
abbrev JH:=Option (Array Keyed)×Array Keyed×Nat×Nat×Nat×Nat×Nat
noncomputable def JI (a b out:Array Keyed) (ia ib mg ac bc:Nat):StateT SortSt Sem (ForInStep JH):=do
 let v <-elem' a ia
 if ia+1+1==a.size then pure (.done (some (lA a b (out.push v) (ia+1) ib),out.push v,ia+1,ib,mg,ac,bc))
 else if ac<7 && bc<7 then pure (.done (none,out.push v,ia+1,ib,mg,ac,bc)) else pure (.yield (none,out.push v,ia+1,ib,mg,ac,bc))
noncomputable def JJ (a b out:Array Keyed) (ia ib mg ac bc:Nat):StateT SortSt Sem (ForInStep JH):=do
 let u <-elem' b ib
 if ib+1==b.size then pure (.done (some (dn a b (out.push u) ia (ib+1)),out.push u,ia,ib+1,mg,ac,bc))
 else
  let v <-elem' a ia
  let x <-cR true v b (ib+1) (b.size - (ib+1)) 0
  match x with
  | some k=>
   if k >0 then
    if ib+1+k==b.size then pure (.done (some (dn a b (out.push u++b.extract (ib+1) (ib+1+k)) ia (ib+1+k)),out.push u++b.extract (ib+1) (ib+1+k),ia,ib+1+k,mg,ac,k))
    else JI a b (out.push u++b.extract (ib+1) (ib+1+k)) ia (ib+1+k) mg ac k
   else JI a b (out.push u) ia (ib+1) mg ac k
  | _=>pure (.done (some (dn a b (out.push u) ia (ib+1)),out.push u,ia,ib+1,mg,ac,bc))
theorem nv {a:Array Keyed} (sA:a.toList.Pairwise Le) {i j:Nat} (h:i<=j) (hj:j<a.size):K a i<=K a j:=by
 obtain⟨x,ex,_⟩:=bF (a:=a) (i:=i) (by omega)
 obtain⟨y,ey,_⟩:=bF (a:=a) hj
 rw[cw ex,cw ey]
 refine dB sA ex y ?_
 have:(a.toList.drop i)[j - i]?=some y:=by rw[aa2,show i+ (j - i)=j by omega];exact ey
 exact aad this
structure MC (st:SortSt) (a b:Array Keyed):Prop where
 hk:kindOf st=oneType'
 iA:∀x∈a.toList,oM x
 iB:∀x∈b.toList,oM x
 sA:a.toList.Pairwise Le
 sB:b.toList.Pairwise Le
 hl:∀x,a.toList[a.size - 1]?=some x->∀y∈b.toList,kn y<=kn x
theorem MC.rB {st:SortSt} {a b out:Array Keyed} {ia ib:Nat} (c:MC st a b) (m:MI a.toList b.toList out.toList ia ib) (e:ib=b.size):Res a.toList b.toList (dn a b out ia ib).toList:=by rw[qF];exact m.vG c.sA (by simp;omega)
theorem MC.rL {st:SortSt} {a b out:Array Keyed} {ia ib:Nat} (c:MC st a b) (m:MI a.toList b.toList out.toList ia ib) (e:ia+1=a.size):Res a.toList b.toList (lA a b out ia ib).toList:=by
 rw[vH]
 exact m.CD c.sA c.sB (by simp;omega) λx hx=>c.hl x (by rw[show a.size - 1=ia by omega];exact hx)
theorem vI {st aN:SortSt} {a b out:Array Keyed} {ia ib mg ac bc:Nat} {v:Keyed} {P:ForInStep JH->SortSt->Prop} (c:MC st a b) (sg:SG st aN) (m:MI a.toList b.toList out.toList ia ib) (l1:ia+1<a.size) (l2:ib<b.size)
  (ev:a.toList[ia]?=some v) (hv:∀y∈b.toList.drop ib,kn v<=kn y) (hr:∀r z,Res a.toList b.toList r.toList->P (.done (some r,z)) aN)
  (hn:∀cF jJ jX y7 y8,MI a.toList b.toList cF.toList jJ jX->jJ+1<a.size->jX<b.size->ia+ib<=jJ+jX->P (.done (none,cF,jJ,jX,mg,y7,y8)) aN/\P (.yield (none,cF,jJ,jX,mg,y7,y8)) aN):
  wpS (model prog w) A E s (JI a b out ia ib mg ac bc) P aN:=by
 unfold JI
 have uR:a[ia]?=some v:=by rw[<-aaU];exact ev
 have m2:=m.kB c.sA ev hv
 rw[<-Array.toList_push] at m2
 refine wpS_bind (bu uR ?_)
 by_cases d:ia+1+1=a.size
 ·rw[if_pos (by simpa using d)]
  exact wpS_pure (hr _ _ (c.rL m2 d))
 ·rw[if_neg (by simpa using d)]
  obtain⟨h1,h2⟩:=hn _ _ _ ac bc m2 (by omega) l2 (by omega)
  split
  ·exact wpS_pure h1
  ·exact wpS_pure h2
theorem vJ {st aN:SortSt} {a b out:Array Keyed} {ia ib mg ac bc:Nat} {u:Keyed} {P:ForInStep JH->SortSt->Prop} (c:MC st a b) (sg:SG st aN) (m:MI a.toList b.toList out.toList ia ib) (l1:ia+1<a.size) (l2:ib<b.size)
  (eu:b.toList[ib]?=some u) (hu:∀y∈a.toList.drop ia,kn u<=kn y) (hr:∀r z,Res a.toList b.toList r.toList->P (.done (some r,z)) aN)
  (hn:∀cF jJ jX y7 y8,MI a.toList b.toList cF.toList jJ jX->jJ+1<a.size->jX<b.size->ia+ib<=jJ+jX->P (.done (none,cF,jJ,jX,mg,y7,y8)) aN/\P (.yield (none,cF,jJ,jX,mg,y7,y8)) aN):
  wpS (model prog w) A E s (JJ a b out ia ib mg ac bc) P aN:=by
 unfold JJ
 have uS:b[ib]?=some u:=by rw[<-aaU];exact eu
 have m2:=m.kA c.sB eu hu
 rw[<-Array.toList_push] at m2
 refine wpS_bind (bu uS ?_)
 by_cases d:ib+1=b.size
 ·rw[if_pos (by simpa using d)]
  exact wpS_pure (hr _ _ (c.rB m2 d))
 rw[if_neg (by simpa using d)]
 obtain⟨v,ev,uR⟩:=bF (a:=a) (i:=ia) (by omega)
 refine wpS_bind (bu uR (wpS_bind (de (sg.1.trans c.hk) (c.iA _ (aad ev)) (λi hi=>?_) (by omega) (λi j qg hj=>nv c.sB (by omega) (by omega)) λk hk b1 b2=>?_)))
 ·obtain⟨x,ex,oG⟩:=bF (a:=b) (i:=ib+1+i) (by omega)
  exact⟨x,oG,c.iB _ (aad ex)⟩
 ·dsimp only
  have lb:b.toList.length=b.size:=by simp
  have up:∀i x,i<k->b.toList[ib+1+i]?=some x->∀y∈a.toList.drop ia,kn x<=kn y:=λi x hi ex y hy=>by
   have h1:=b1 i hi
   unfold B at h1
   rw[cw ex] at h1
   have h2:=dB c.sA ev y hy
   simp at h1
   omega
  have xk:∀y∈b.toList.drop (ib+1+k),kn v<=kn y:=λy hy=>by
   obtain⟨i,ei⟩:=aam hy
   rw[aa2] at ei
   have en:ib+1+k+i<b.size:=by have:=(List.getElem?_eq_some_iff.mp ei).1;omega
   have h1:=b2 (k+i) (by omega) (by omega)
   unfold B at h1
   rw[cw (by rw[show ib+1+ (k+i)=ib+1+k+i by omega];exact ei)] at h1
   simp at h1
   exact h1
  have m3:=m2.y3 c.sB k (by omega) up
  rw[<-fJ,<-Array.toList_append] at m3
  by_cases k0:k >0
  ·rw[if_pos k0]
   by_cases d2:ib+1+k=b.size
   ·rw[if_pos (by simpa using d2)]
    exact wpS_pure (hr _ _ (c.rB m3 d2))
   ·rw[if_neg (by simpa using d2)]
    exact vI c sg m3 l1 (by omega) ev xk hr λo i j x y mm q1 q2 q3=>hn o i j x y mm q1 q2 (by omega)
  ·rw[if_neg k0]
   have K5:k=0:=by omega
   subst K5
   exact vI c sg m2 l1 (by omega) ev (by simpa using xk) hr λo i j x y mm q1 q2 q3=>hn o i j x y mm q1 q2 (by omega)
theorem sM {st:SortSt} {a b:Array Keyed} {Q:Array Keyed->SortSt->Prop} (hk:kindOf st=oneType') (iA:∀x∈a.toList,oM x) (iB:∀x∈b.toList,oM x) (sA:a.toList.Pairwise Le) (sB:b.toList.Pairwise Le) (a1:1<=a.size) (b1:1<=b.size)
  (hf:∀x y,b.toList[0]?=some x->a.toList[0]?=some y->kn x<=kn y) (hl:∀x,a.toList[a.size - 1]?=some x->∀y∈b.toList,kn y<=kn x)
  (h:∀r aN,SG st aN->Res a.toList b.toList r.toList->Q r aN):wpS (model prog w) A E s (nk a b) Q st:=by
 have la:a.toList.length=a.size:=by simp
 have lb:b.toList.length=b.size:=by simp
 have rB:∀{out:Array Keyed} {ia ib:Nat},MI a.toList b.toList out.toList ia ib->ib=b.size->Res a.toList b.toList (dn a b out ia ib).toList:=λm e=>by rw[qF];exact m.vG sA (by omega)
 have rA:∀{out:Array Keyed} {ia ib:Nat},MI a.toList b.toList out.toList ia ib->ia=a.size->Res a.toList b.toList (dn a b out ia ib).toList:=λm e=>by rw[qF];exact m.y4 sB (by omega)
 have rL:∀{out:Array Keyed} {ia ib:Nat},MI a.toList b.toList out.toList ia ib->ia+1=a.size->Res a.toList b.toList (lA a b out ia ib).toList:=λ{out ia ib} m e=>by
  rw[vH]
  exact m.CD sA sB (by omega) λx hx=>hl x (by rw[show a.size - 1=ia by omega];exact hx)
 have mA:∀{i:Nat} {x:Keyed},a.toList[i]?=some x->oM x:=λe=>iA _ (aad e)
 have mB:∀{i:Nat} {x:Keyed},b.toList[i]?=some x->oM x:=λe=>iB _ (aad e)
 rw[sJ]
 refine wpS_bind (wpS_lift (wpAny_rule ⟨rfl,?_⟩))
 obtain⟨x0,GV,D7⟩:=bF (a:=b) (i:=0) (by omega)
 refine wpS_bind (bu D7 ?_)
 obtain⟨y0,S4,Vy⟩:=bF (a:=a) (i:=0) (by omega)
 have m0:MI a.toList b.toList (#[x0]:Array Keyed).toList 0 1:=by
  have:MI a.toList b.toList [] 0 0:=⟨by simp,by simp,by simp⟩
  have:=this.kA sB GV λy hy=>by
   rw[List.drop_zero] at hy
   have h1:=hf _ _ GV S4
   have h2:=dB sA S4 y (by rw[List.drop_zero];exact hy)
   omega
  simpa using this
 dsimp only
 by_cases c1:1=b.size
 ·rw[if_pos (by simpa using c1)]
  exact wpS_pure (h _ _ (SG.refl _) (rB m0 c1))
 rw[if_neg (by simpa using c1)]
 by_cases c2:0+1=a.size
 ·rw[if_pos (by simpa using c2)]
  exact wpS_pure (h _ _ (SG.refl _) (rL m0 c2))
 rw[if_neg (by simpa using c2)]
 refine wpS_bind (wpS_get ?_)
 refine wpS_bind (wpS_mono (wpS_forRange
  (I:=λx c aN=>SG st aN/\∃out ia ib mg,c=(none,out,ia,ib,mg)/\MI a.toList b.toList out.toList ia ib/\ia+1<a.size/\ib<b.size/\x+1<=ia+ib)
  (Q:=λc aN=>SG st aN/\∃r z,c=(some r,z)/\Res a.toList b.toList r.toList) ?step ?fin ⟨SG.refl _,_,0,1,_,rfl,m0,by omega,by omega,by omega⟩) ?post)
 case fin=>
  rintro c aN ⟨sg,out,ia,ib,mg,rfl,m,l1,l2,l3⟩
  omega
 case post=>
  rintro c aN ⟨sg,r,z,rfl,rs⟩
  exact wpS_pure (h r aN sg rs)
 case step=>
  rintro x c tZ _ hx ⟨K6,out,ia,ib,mg,rfl,m,l1,l2,l3⟩
  dsimp only
  refine wpS_bind (wpS_mono (wpS_forRange
   (I:=λy c aN=>SG st aN/\∃cF jJ jX ac bc,c=(none,cF,jJ,jX,ac,bc)/\MI a.toList b.toList cF.toList jJ jX/\jJ+1<a.size/\jX<b.size/\ia+ib+y<=jJ+jX)
   (Q:=λc aN=>SG st aN/\((∃r z,c=(some r,z)/\Res a.toList b.toList r.toList)\/∃cF jJ jX ac bc,c=(none,cF,jJ,jX,ac,bc)/\MI a.toList b.toList cF.toList jJ jX/\jJ+1<a.size/\jX<b.size/\ia+ib+1<=jJ+jX)) ?step1 ?fin1 ⟨K6,out,ia,ib,0,0,rfl,m,l1,l2,by omega⟩) ?post1)
  case fin1=>
   rintro c aN ⟨sg,cF,jJ,jX,ac,bc,rfl,m',k1,k2,k3⟩
   exact⟨sg,.inr ⟨cF,jJ,jX,ac,bc,rfl,m',k1,k2,by omega⟩⟩
  case step1=>
   rintro y c bL _ hy ⟨sg,cF,jJ,jX,ac,bc,rfl,m',k1,k2,k3⟩
   dsimp only
   obtain⟨u,eu,uS⟩:=bF (a:=b) k2
   obtain⟨v,ev,uR⟩:=bF (a:=a) (i:=jJ) (by omega)
   refine wpS_bind (bu uS (wpS_bind (bu uR (wpS_bind (nj (sg.1.trans hk) (mB eu) (mA ev) ?_)))))
   by_cases c:kn u<kn v
   ·simp only[c,decide_true,if_true]
    have m2:=m'.kA sB eu λz hz=>by have:=dB sA ev z hz;omega
    rw[<-Array.toList_push] at m2
    refine wpS_bind (bu uS ?_)
    by_cases d:jX+1=b.size
    ·rw[if_pos (by simpa using d)]
     exact wpS_pure ⟨sg,.inl ⟨_,_,rfl,rB m2 d⟩⟩
    ·rw[if_neg (by simpa using d)]
     split
     ·exact wpS_pure ⟨sg,.inr ⟨_,_,_,_,_,rfl,m2,k1,by omega,by omega⟩⟩
     ·exact wpS_pure ⟨sg,_,_,_,_,_,rfl,m2,k1,by omega,by omega⟩
   ·simp only[c,decide_false,aaT,if_false]
    have m2:=m'.kB sA ev λz hz=>by have:=dB sB eu z hz;omega
    rw[<-Array.toList_push] at m2
    refine wpS_bind (bu uR ?_)
    by_cases d:jJ+1+1=a.size
    ·rw[if_pos (by simpa using d)]
     exact wpS_pure ⟨sg,.inl ⟨_,_,rfl,rL m2 d⟩⟩
    ·rw[if_neg (by simpa using d)]
     split
     ·exact wpS_pure ⟨sg,.inr ⟨_,_,_,_,_,rfl,m2,by omega,k2,by omega⟩⟩
     ·exact wpS_pure ⟨sg,_,_,_,_,_,rfl,m2,by omega,k2,by omega⟩
  case post1=>
   rintro c bL ⟨GW,hc⟩
   rcases hc with ⟨r,z,rfl,rs⟩ | ⟨cF,jJ,jX,ac,bc,rfl,m',k1,k2,k3⟩
   ·exact wpS_pure ⟨GW,_,_,rfl,rs⟩
   dsimp only
   refine wpS_bind (wpS_lift (wpAny_rule ⟨rfl,?_⟩))
   refine wpS_bind (wpS_mono (wpS_forRange
    (I:=λy c aN=>SG st aN/\∃cM fK fL mg ac bc,c=(none,cM,fK,fL,mg,ac,bc)/\MI a.toList b.toList cM.toList fK fL/\fK+1<a.size/\fL<b.size/\ia+ib+1<=fK+fL)
    (Q:=λc aN=>SG st aN/\((∃r z,c=(some r,z)/\Res a.toList b.toList r.toList)\/∃cM fK fL mg ac bc,c=(none,cM,fK,fL,mg,ac,bc)/\MI a.toList b.toList cM.toList fK fL/\fK+1<a.size/\fL<b.size/\ia+ib+1<=fK+fL)) ?step2 ?fin2 ⟨GW,cF,jJ,jX,_,ac,bc,rfl,m',k1,k2,by omega⟩) ?post2)
   case fin2=>
    rintro c aN ⟨sg,hc⟩
    exact⟨sg,.inr hc⟩
   case post2=>
    rintro c oI ⟨BA,hc⟩
    rcases hc with ⟨r,z,rfl,rs⟩ | ⟨o3,ir,xP,GX,GY,xQ,rfl,m3,q1,q2,q3⟩
    ·exact wpS_pure ⟨BA,_,_,rfl,rs⟩
    dsimp only
    refine wpS_bind (jm BA λfW fY=>wpS_pure ⟨fY,o3,ir,xP,_,rfl,m3,q1,q2,by omega⟩)
   case step2=>
    rintro y c oI _ hy ⟨BA,o3,ir,xP,GX,GY,xQ,rfl,m3,q1,q2,q3⟩
    dsimp only
    have C:MC st a b:=⟨hk,iA,iB,sA,sB,hl⟩
    obtain⟨u,eu,uS⟩:=bF (a:=b) q2
    have body:∀g:Nat,wpS (model prog w) A E s (do
      kx g
      let u <-elem' b xP
      let x <-cR false u a ir (a.size - ir) 0
      match x with
      | some k=>
       if k >0 then
        if ir+k+1==a.size then pure (ForInStep.done (some (lA a b (o3++a.extract ir (ir+k)) (ir+k) xP),o3++a.extract ir (ir+k),ir+k,xP,g,k,xQ))
        else if ir+k==a.size then pure (ForInStep.done (some (dn a b (o3++a.extract ir (ir+k)) (ir+k) xP),o3++a.extract ir (ir+k),ir+k,xP,g,k,xQ))
        else JJ a b (o3++a.extract ir (ir+k)) (ir+k) xP g k xQ
       else JJ a b o3 ir xP g k xQ
      | _=>pure (ForInStep.done (some (dn a b o3 ir xP),o3,ir,xP,g,GY,xQ)))
     (λr aN=>match r with
      | .done c'=>SG st aN/\((∃r z,c'=(some r,z)/\Res a.toList b.toList r.toList)\/∃cM fK fL mg ac bc,c'=(none,cM,fK,fL,mg,ac,bc)/\MI a.toList b.toList cM.toList fK fL/\fK+1<a.size/\fL<b.size/\ia+ib+1<=fK+fL)
      | .yield c'=>SG st aN/\∃cM fK fL mg ac bc,c'=(none,cM,fK,fL,mg,ac,bc)/\MI a.toList b.toList cM.toList fK fL/\fK+1<a.size/\fL<b.size/\ia+ib+1<=fK+fL) oI:=by
     intro g
     refine wpS_bind (jm BA λfW fY=>?_)
     refine wpS_bind (bu uS (wpS_bind (de (fY.1.trans hk) (mB eu) (λi hi=>?_) (by omega) (λi j qg hj=>nv sA (by omega) (by omega)) λk hk b1 b2=>?_)))
     ·obtain⟨x,ex,oG⟩:=bF (a:=a) (i:=ir+i) (by omega)
      exact⟨x,oG,mA ex⟩
     ·dsimp only
      have up:∀i x,i<k->a.toList[ir+i]?=some x->∀y∈b.toList.drop xP,kn x<=kn y:=λi x hi ex y hy=>by
       have h1:=b1 i hi
       unfold B at h1
       rw[cw ex] at h1
       have h2:=dB sB eu y hy
       simp at h1
       omega
      have xk:∀y∈a.toList.drop (ir+k),kn u<=kn y:=λy hy=>by
       obtain⟨i,ei⟩:=aam hy
       rw[aa2] at ei
       have en:ir+k+i<a.size:=by have:=(List.getElem?_eq_some_iff.mp ei).1;omega
       have h1:=b2 (k+i) (by omega) (by omega)
       unfold B at h1
       rw[cw (by rw[show ir+ (k+i)=ir+k+i by omega];exact ei)] at h1
       simp at h1
       omega
      have m4:=m3.y2 sA k (by omega) up
      rw[<-fJ,<-Array.toList_append] at m4
      by_cases k0:k >0
      ·rw[if_pos k0]
       by_cases d1:ir+k+1=a.size
       ·rw[if_pos (by simpa using d1)]
        exact wpS_pure ⟨fY,.inl ⟨_,_,rfl,rL m4 d1⟩⟩
       rw[if_neg (by simpa using d1)]
       by_cases d2:ir+k=a.size
       ·rw[if_pos (by simpa using d2)]
        exact wpS_pure ⟨fY,.inl ⟨_,_,rfl,rA m4 d2⟩⟩
       rw[if_neg (by simpa using d2)]
       exact vJ C fY m4 (by omega) q2 eu xk (λr z rs=>⟨fY,.inl ⟨_,_,rfl,rs⟩⟩) λo i j x y mm p1 p2 p3=>⟨⟨fY,.inr ⟨o,i,j,_,x,y,rfl,mm,p1,p2,by omega⟩⟩,⟨fY,o,i,j,_,x,y,rfl,mm,p1,p2,by omega⟩⟩
      ·rw[if_neg k0]
       have K5:k=0:=by omega
       subst K5
       exact vJ C fY m3 q1 q2 eu (by simpa using xk) (λr z rs=>⟨fY,.inl ⟨_,_,rfl,rs⟩⟩) λo i j x y mm p1 p2 p3=>⟨⟨fY,.inr ⟨o,i,j,_,x,y,rfl,mm,p1,p2,by omega⟩⟩,⟨fY,o,i,j,_,x,y,rfl,mm,p1,p2,by omega⟩⟩
    by_cases c:GX >1
    ·rw[if_pos c]
     exact wpS_mono (body _) λr aN hh=>by cases r <;>exact hh
    ·rw[if_neg c]
     exact wpS_mono (body _) λr aN hh=>by cases r <;>exact hh
structure HI (a b o:List Keyed) (na nb:Nat):Prop where
 perm:o.Perm (a.drop na++b.drop nb)
 gA:o.Pairwise Le
 le:∀x∈o,∀y,(y∈a.take na\/y∈b.take nb)->kn y<=kn x
theorem eZ {l:List Keyed} {i:Nat} {x:Keyed} (h:l.Pairwise Le) (e:l[i]?=some x):∀y∈l.take (i+1),kn y<=kn x:=by
 intro y hy
 have:=List.Pairwise.take (i:=i+1) h
 rw[take_one e] at this hy
 rcases List.mem_append.mp hy with hy | hy
 ·exact(List.pairwise_append.mp this).2.2 y hy x (by simp)
 ·rw[List.mem_singleton.mp hy];exact aaP _
theorem HI.kB {a b o:List Keyed} {na nb:Nat} {x:Keyed} (m:HI a b o (na+1) nb) (ha:a.Pairwise Le) (e:a[na]?=some x) (h:∀y∈b.take nb,kn y<=kn x):HI a b (x::o) na nb:=by
 have xa:x∈a.take (na+1):=by rw[take_one e];simp
 have sub:∀y∈a.take na,y∈a.take (na+1):=λy hy=>by rw[take_one e];exact List.mem_append_left _ hy
 refine⟨?_,?_,?_⟩
 ·rw[drop_one e]
  exact m.perm.cons x
 ·exact List.pairwise_cons.mpr ⟨λu hu=>m.le u hu x (.inl xa),m.gA⟩
 ·intro u hu y hy
  rcases List.mem_cons.mp hu with rfl | hu
  ·rcases hy with hy | hy
   ·exact eZ ha e y (sub y hy)
   ·exact h y hy
  ·rcases hy with hy | hy
   ·exact m.le u hu y (.inl (sub y hy))
   ·exact m.le u hu y (.inr hy)
theorem HI.kA {a b o:List Keyed} {na nb:Nat} {x:Keyed} (m:HI a b o na (nb+1)) (hb:b.Pairwise Le) (e:b[nb]?=some x) (h:∀y∈a.take na,kn y<=kn x):HI a b (x::o) na nb:=by
 have xb:x∈b.take (nb+1):=by rw[take_one e];simp
 have sub:∀y∈b.take nb,y∈b.take (nb+1):=λy hy=>by rw[take_one e];exact List.mem_append_left _ hy
 refine⟨?_,?_,?_⟩
 ·rw[drop_one e]
  exact(m.perm.cons x).trans List.perm_middle.symm
 ·exact List.pairwise_cons.mpr ⟨λu hu=>m.le u hu x (.inr xb),m.gA⟩
 ·intro u hu y hy
  rcases List.mem_cons.mp hu with rfl | hu
  ·rcases hy with hy | hy
   ·exact h y hy
   ·exact eZ hb e y (sub y hy)
  ·rcases hy with hy | hy
   ·exact m.le u hu y (.inl hy)
   ·exact m.le u hu y (.inr (sub y hy))
theorem HI.y2 {a b o:List Keyed} {na nb:Nat} (m:HI a b o na nb) (ha:a.Pairwise Le) (hn:na<=a.length):∀k,k<=na->(∀i x,na - k<=i->i<na->a[i]?=some x->∀y∈b.take nb,kn y<=kn x)->HI a b ((a.drop (na - k)).take k++o) (na - k) nb
 | 0,_,_=>by simpa using m
 | k+1,hk,h=>by
  have e:a[na - (k+1)]?=some (a[na - (k+1)]'(by omega)):=aac (by omega)
  have m0:=m.y2 ha hn k (by omega) λi x h1 h2=>h i x (by omega) h2
  rw[show na - k=na - (k+1)+1 by omega] at m0
  have m1:=m0.kB ha e (h _ _ (aae _) (by omega) e)
  rw[drop_one e,List.take_succ_cons]
  exact m1
theorem HI.y3 {a b o:List Keyed} {na nb:Nat} (m:HI a b o na nb) (hb:b.Pairwise Le) (hn:nb<=b.length):∀k,k<=nb->(∀i x,nb - k<=i->i<nb->b[i]?=some x->∀y∈a.take na,kn y<=kn x)->HI a b ((b.drop (nb - k)).take k++o) na (nb - k)
 | 0,_,_=>by simpa using m
 | k+1,hk,h=>by
  have e:b[nb - (k+1)]?=some (b[nb - (k+1)]'(by omega)):=aac (by omega)
  have m0:=m.y3 hb hn k (by omega) λi x h1 h2=>h i x (by omega) h2
  rw[show nb - k=nb - (k+1)+1 by omega] at m0
  have m1:=m0.kA hb e (h _ _ (aae _) (by omega) e)
  rw[drop_one e,List.take_succ_cons]
  exact m1
theorem HI.y4 {a b o:List Keyed} {nb:Nat} (m:HI a b o 0 nb) (hb:b.Pairwise Le):Res a b (a.take 0++b.take nb++o):=by
 rw[List.take_zero,aa7]
 refine⟨?_,?_⟩
 ·have:=m.perm.append_left (b.take nb)
  rw[List.drop_zero,<-aaB] at this
  refine this.trans ((List.perm_append_comm (l₁:=b.take nb) (l₂:=a)).append_right (b.drop nb) |>.trans ?_)
  rw[aaB,aaY]
 ·rw[aa4]
  exact⟨hb.take,m.gA,λu hu v hv=>m.le v hv u (.inr hu)⟩
theorem HI.vG {a b o:List Keyed} {na:Nat} (m:HI a b o na 0) (ha:a.Pairwise Le):Res a b (a.take na++b.take 0++o):=by
 rw[List.take_zero,aaL]
 refine⟨?_,?_⟩
 ·have:=m.perm.append_left (a.take na)
  rw[List.drop_zero,<-aaB,aaY] at this
  exact this
 ·rw[aa4]
  exact⟨ha.take,m.gA,λu hu v hv=>m.le v hv u (.inl hu)⟩
theorem HI.D8 {a b o:List Keyed} {na:Nat} (m:HI a b o na 1) (ha:a.Pairwise Le) (hb:b.Pairwise Le) (hf:∀x,b[0]?=some x->∀y∈a,kn x<=kn y):Res a b (b.take 1++a.take na++o):=by
 refine⟨?_,?_⟩
 ·have h1:=m.perm.append_left (b.take 1++a.take na)
  refine h1.trans ?_
  have h2:=((List.perm_append_comm (l₁:=b.take 1) (l₂:=a.take na)).append_right (a.drop na++b.drop 1))
  refine h2.trans ?_
  rw[aaB]
  refine(List.Perm.append_left (a.take na) (List.perm_append_comm_assoc (b.take 1) (a.drop na) (b.drop 1))).trans ?_
  rw[aaY,<-aaB,aaY]
 ·rw[aa4,aa4]
  refine⟨⟨hb.take,ha.take,λu hu v hv=>?_⟩,m.gA,λu hu v hv=>?_⟩
  ·cases b with
   | nil=>simp at hu
   | cons b0 br=>
    rw[List.take_succ_cons,List.take_zero,List.mem_singleton] at hu
    rw[hu]
    exact hf b0 rfl v (List.mem_of_mem_take hv)
  ·rcases List.mem_append.mp hu with hu | hu
   ·exact m.le v hv u (.inr hu)
   ·exact m.le v hv u (.inl hu)
noncomputable def nA:Array Keyed->Array Keyed->StateT SortSt Sem (Array Keyed):=sortPriv% PySem.Builtin.mergeHi
noncomputable def dh (a b out:Array Keyed) (na nb:Nat):Array Keyed:=a.extract 0 na++b.extract 0 nb++out.reverse
noncomputable def fB (a b out:Array Keyed) (na nb:Nat):Array Keyed:=b.extract 0 nb++a.extract 0 na++out.reverse
theorem vK (a b out:Array Keyed) (na nb:Nat):(dh a b out na nb).toList=a.toList.take na++b.toList.take nb++out.toList.reverse:=by
 unfold dh
 simp [Array.toList_extract]
theorem BB (a b out:Array Keyed) (na nb:Nat):(fB a b out na nb).toList=b.toList.take nb++a.toList.take na++out.toList.reverse:=by
 unfold fB
 simp [Array.toList_extract]
theorem sN (a out:Array Keyed) (i n:Nat):(out++ (a.extract i n).reverse).toList.reverse=(a.toList.drop i).take (n - i)++out.toList.reverse:=by
 simp [Array.toList_extract]
theorem sO (a b:Array Keyed):nA a b=(do
 rule "list.sort.merge-hi"
 let mut na:=a.size - 1
 let mut nb:=b.size
 let mut out:Array Keyed:=#[<-elem' a na]
 if na==0 then return dh a b out na nb
 if nb==1 then return fB a b out na nb
 let mut aZ:=gallopOf (<-get)
 for _ in [0:a.size+b.size] do
  let mut df:=0
  let mut di:=0
  for _ in [0:a.size+b.size] do
   let some GZ <-lt' (<-elem' b (nb - 1)) (<-elem' a (na - 1)) | return dh a b out na nb
   if GZ then
    na:=na - 1;out:=out.push (<-elem' a na);df:=df+1;di:=0
    if na==0 then return dh a b out na nb
    if df≥aZ then break
   else
    nb:=nb - 1;out:=out.push (<-elem' b nb);di:=di+1;df:=0
    if nb==1 then return fB a b out na nb
    if di≥aZ then break
  rule "list.sort.gallop"
  aZ:=aZ+1
  for _ in [0:a.size+b.size] do
   if aZ >1 then aZ:=aZ - 1
   kx aZ
   let some at_ <-cR false (<-elem' b (nb - 1)) a 0 na (na - 1) | return dh a b out na nb
   let k:=na - at_
   df:=k
   if k >0 then
    out:=out++ (a.extract at_ na).reverse;na:=at_
    if na==0 then return dh a b out na nb
   nb:=nb - 1;out:=out.push (<-elem' b nb)
   if nb==1 then return fB a b out na nb
   let some at_ <-cR true (<-elem' a (na - 1)) b 0 nb (nb - 1) | return dh a b out na nb
   let k:=nb - at_
   di:=k
   if k >0 then
    out:=out++ (b.extract at_ nb).reverse;nb:=at_
    if nb==1 then return fB a b out na nb
    if nb==0 then return dh a b out na nb
   na:=na - 1;out:=out.push (<-elem' a na)
   if na==0 then return dh a b out na nb
   if df<7 && di<7 then break
  aZ:=aZ+1
  kx aZ
 unsupported "internal:list.sort.merge-bound"):=rfl
theorem jo (out:Array Keyed) (x:Keyed):(out.push x).toList.reverse=x::out.toList.reverse:=by simp
abbrev JK:=Option (Array Keyed)×Nat×Nat×Array Keyed×Nat×Nat×Nat
noncomputable def JL (a b:Array Keyed) (na nb:Nat) (out:Array Keyed) (mg ac bc:Nat):StateT SortSt Sem (ForInStep JK):=do
 let v <-elem' a (na - 1)
 if na - 1==0 then pure (.done (some (dh a b (out.push v) (na - 1) nb),na - 1,nb,out.push v,mg,ac,bc))
 else if ac<7 && bc<7 then pure (.done (none,na - 1,nb,out.push v,mg,ac,bc)) else pure (.yield (none,na - 1,nb,out.push v,mg,ac,bc))
noncomputable def JM (a b:Array Keyed) (na nb:Nat) (out:Array Keyed) (mg ac bc:Nat):StateT SortSt Sem (ForInStep JK):=do
 let u <-elem' b (nb - 1)
 if nb - 1==1 then pure (.done (some (fB a b (out.push u) na (nb - 1)),na,nb - 1,out.push u,mg,ac,bc))
 else
  let v <-elem' a (na - 1)
  let x <-cR true v b 0 (nb - 1) (nb - 1 - 1)
  match x with
  | some at_=>
   if nb - 1 - at_ >0 then
    if at_==1 then pure (.done (some (fB a b (out.push u++ (b.extract at_ (nb - 1)).reverse) na at_),na,at_,out.push u++ (b.extract at_ (nb - 1)).reverse,mg,ac,nb - 1 - at_))
    else if at_==0 then pure (.done (some (dh a b (out.push u++ (b.extract at_ (nb - 1)).reverse) na at_),na,at_,out.push u++ (b.extract at_ (nb - 1)).reverse,mg,ac,nb - 1 - at_))
    else JL a b na at_ (out.push u++ (b.extract at_ (nb - 1)).reverse) mg ac (nb - 1 - at_)
   else JL a b na (nb - 1) (out.push u) mg ac (nb - 1 - at_)
  | _=>pure (.done (some (dh a b (out.push u) na (nb - 1)),na,nb - 1,out.push u,mg,ac,bc))
structure HC (st:SortSt) (a b:Array Keyed):Prop where
 hk:kindOf st=oneType'
 iA:∀x∈a.toList,oM x
 iB:∀x∈b.toList,oM x
 sA:a.toList.Pairwise Le
 sB:b.toList.Pairwise Le
 hf:∀x,b.toList[0]?=some x->∀y∈a.toList,kn x<=kn y
theorem HC.rA {st:SortSt} {a b out:Array Keyed} {na nb:Nat} (c:HC st a b) (m:HI a.toList b.toList out.toList.reverse na nb) (e:na=0):Res a.toList b.toList (dh a b out na nb).toList:=by subst e;rw[vK];exact m.y4 c.sB
theorem HC.rB {st:SortSt} {a b out:Array Keyed} {na nb:Nat} (c:HC st a b) (m:HI a.toList b.toList out.toList.reverse na nb) (e:nb=0):Res a.toList b.toList (dh a b out na nb).toList:=by subst e;rw[vK];exact m.vG c.sA
theorem HC.rF {st:SortSt} {a b out:Array Keyed} {na nb:Nat} (c:HC st a b) (m:HI a.toList b.toList out.toList.reverse na nb) (e:nb=1):Res a.toList b.toList (fB a b out na nb).toList:=by subst e;rw[BB];exact m.D8 c.sA c.sB c.hf
theorem vL {st aN:SortSt} {a b out:Array Keyed} {na nb mg ac bc:Nat} {v:Keyed} {P:ForInStep JK->SortSt->Prop} (c:HC st a b) (sg:SG st aN) (m:HI a.toList b.toList out.toList.reverse na nb) (l1:1<=na) (l2:2<=nb)
  (ev:a.toList[na - 1]?=some v) (hv:∀y∈b.toList.take nb,kn y<=kn v) (hr:∀r z,Res a.toList b.toList r.toList->P (.done (some r,z)) aN)
  (hn:∀fZ gc cF y7 y8,HI a.toList b.toList cF.toList.reverse fZ gc->1<=fZ->2<=gc->fZ<=na->gc<=nb->P (.done (none,fZ,gc,cF,mg,y7,y8)) aN/\P (.yield (none,fZ,gc,cF,mg,y7,y8)) aN):
  wpS (model prog w) A E s (JL a b na nb out mg ac bc) P aN:=by
 unfold JL
 have uR:a[na - 1]?=some v:=by rw[<-aaU];exact ev
 rw[show na=na - 1+1 by omega] at m
 have m2:=m.kB c.sA ev hv
 rw[<-jo] at m2
 refine wpS_bind (bu uR ?_)
 by_cases d:na - 1=0
 ·rw[if_pos (by simpa using d)]
  exact wpS_pure (hr _ _ (c.rA m2 d))
 ·rw[if_neg (by simpa using d)]
  obtain⟨h1,h2⟩:=hn _ _ _ ac bc m2 (by omega) l2 (by omega) (aae _)
  split
  ·exact wpS_pure h1
  ·exact wpS_pure h2
theorem vM {st aN:SortSt} {a b out:Array Keyed} {na nb mg ac bc:Nat} {u:Keyed} {P:ForInStep JK->SortSt->Prop} (c:HC st a b) (sg:SG st aN) (m:HI a.toList b.toList out.toList.reverse na nb) (l1:1<=na) (Z8:na<=a.size) (l2:2<=nb) (Z9:nb<=b.size)
  (eu:b.toList[nb - 1]?=some u) (hu:∀y∈a.toList.take na,kn y<=kn u) (hr:∀r z,Res a.toList b.toList r.toList->P (.done (some r,z)) aN)
  (hn:∀fZ gc cF y7 y8,HI a.toList b.toList cF.toList.reverse fZ gc->1<=fZ->2<=gc->fZ<=na->gc<=nb->P (.done (none,fZ,gc,cF,mg,y7,y8)) aN/\P (.yield (none,fZ,gc,cF,mg,y7,y8)) aN):
  wpS (model prog w) A E s (JM a b na nb out mg ac bc) P aN:=by
 unfold JM
 have la:a.toList.length=a.size:=by simp
 have lb:b.toList.length=b.size:=by simp
 have uS:b[nb - 1]?=some u:=by rw[<-aaU];exact eu
 rw[show nb=nb - 1+1 by omega] at m
 have m2:=m.kA c.sB eu hu
 rw[<-jo] at m2
 refine wpS_bind (bu uS ?_)
 by_cases d:nb - 1=1
 ·rw[if_pos (by simpa using d)]
  exact wpS_pure (hr _ _ (c.rF m2 d))
 rw[if_neg (by simpa using d)]
 obtain⟨v,ev,uR⟩:=bF (a:=a) (i:=na - 1) (by omega)
 refine wpS_bind (bu uR (wpS_bind (de (sg.1.trans c.hk) (c.iA _ (aad ev)) (λi hi=>?_) (by omega) (λi j qg hj=>nv c.sB (by omega) (by omega)) λk hk b1 b2=>?_)))
 ·obtain⟨x,ex,oG⟩:=bF (a:=b) (i:=0+i) (by omega)
  exact⟨x,oG,c.iB _ (aad ex)⟩
 ·dsimp only
  have up:∀i x,k<=i->i<nb - 1->b.toList[i]?=some x->∀y∈a.toList.take na,kn y<=kn x:=λi x h1 h2 ex y hy=>by
   have q:=b2 i h1 h2
   unfold B at q
   rw[aaG,cw ex] at q
   have q2:=eZ c.sA ev y (by rw[show na - 1+1=na by omega];exact hy)
   simp at q
   omega
  have xk:∀y∈b.toList.take k,kn y<=kn v:=λy hy=>by
   obtain⟨i,ei⟩:=aam hy
   have G1:i<k:=by have:=(List.getElem?_eq_some_iff.mp ei).1;rw[aa5] at this;omega
   rw[List.getElem?_take,if_pos G1] at ei
   have q:=b1 i G1
   unfold B at q
   rw[aaG,cw ei] at q
   simp at q
   omega
  by_cases k0:nb - 1 - k >0
  ·rw[if_pos k0]
   have m3:=m2.y3 c.sB (by omega) (nb - 1 - k) (by omega) λi x h1 h2=>up i x (by omega) h2
   rw[show nb - 1 - (nb - 1 - k)=k by omega,<-sN] at m3
   by_cases d1:k=1
   ·rw[if_pos (by simpa using d1)]
    exact wpS_pure (hr _ _ (c.rF m3 d1))
   rw[if_neg (by simpa using d1)]
   by_cases d2:k=0
   ·rw[if_pos (by simpa using d2)]
    exact wpS_pure (hr _ _ (c.rB m3 d2))
   rw[if_neg (by simpa using d2)]
   exact vL c sg m3 l1 (by omega) ev xk hr λx y o p q mm q1 q2 q3 q4=>hn x y o p q mm q1 q2 q3 (by omega)
  ·rw[if_neg k0]
   have kk:k=nb - 1:=by omega
   rw[kk] at xk
   exact vL c sg m2 l1 (by omega) ev xk hr λx y o p q mm q1 q2 q3 q4=>hn x y o p q mm q1 q2 q3 (by omega)
theorem sP {st:SortSt} {a b:Array Keyed} {Q:Array Keyed->SortSt->Prop} (hk:kindOf st=oneType') (iA:∀x∈a.toList,oM x) (iB:∀x∈b.toList,oM x) (sA:a.toList.Pairwise Le) (sB:b.toList.Pairwise Le) (a1:1<=a.size) (b1:1<=b.size)
  (hf:∀x,b.toList[0]?=some x->∀y∈a.toList,kn x<=kn y) (hl:∀x,a.toList[a.size - 1]?=some x->∀y∈b.toList,kn y<=kn x)
  (h:∀r aN,SG st aN->Res a.toList b.toList r.toList->Q r aN):wpS (model prog w) A E s (nA a b) Q st:=by
 have la:a.toList.length=a.size:=by simp
 have lb:b.toList.length=b.size:=by simp
 have C:HC st a b:=⟨hk,iA,iB,sA,sB,hf⟩
 have mA:∀{i:Nat} {x:Keyed},a.toList[i]?=some x->oM x:=λe=>iA _ (aad e)
 have mB:∀{i:Nat} {x:Keyed},b.toList[i]?=some x->oM x:=λe=>iB _ (aad e)
 rw[sO]
 refine wpS_bind (wpS_lift (wpAny_rule ⟨rfl,?_⟩))
 obtain⟨x0,GV,D7⟩:=bF (a:=a) (i:=a.size - 1) (by omega)
 refine wpS_bind (bu D7 ?_)
 have m0:HI a.toList b.toList (#[x0]:Array Keyed).toList.reverse (a.size - 1) b.size:=by
  have:HI a.toList b.toList [] (a.size - 1+1) b.size:=⟨by rw[List.drop_of_length_le (by omega),List.drop_of_length_le (by omega)];simp,by simp,by simp⟩
  have:=this.kB sA GV λy hy=>hl x0 GV y (List.mem_of_mem_take hy)
  simpa using this
 dsimp only
 by_cases c1:a.size - 1=0
 ·rw[if_pos (by simpa using c1)]
  exact wpS_pure (h _ _ (SG.refl _) (C.rA m0 c1))
 rw[if_neg (by simpa using c1)]
 by_cases c2:b.size=1
 ·rw[if_pos (by simpa using c2)]
  exact wpS_pure (h _ _ (SG.refl _) (C.rF m0 c2))
 rw[if_neg (by simpa using c2)]
 refine wpS_bind (wpS_get ?_)
 refine wpS_bind (wpS_mono (wpS_forRange
  (I:=λx c aN=>SG st aN/\∃na nb out mg,c=(none,na,nb,out,mg)/\HI a.toList b.toList out.toList.reverse na nb/\1<=na/\na<=a.size/\2<=nb/\nb<=b.size/\x+na+nb+1<=a.size+b.size)
  (Q:=λc aN=>SG st aN/\∃r z,c=(some r,z)/\Res a.toList b.toList r.toList) ?step ?fin ⟨SG.refl _,_,_,_,_,rfl,m0,by omega,by omega,by omega,by omega,by omega⟩) ?post)
 case fin=>
  rintro c aN ⟨sg,na,nb,out,mg,rfl,m,l1,l2,l3,l4,l5⟩
  omega
 case post=>
  rintro c aN ⟨sg,r,z,rfl,rs⟩
  exact wpS_pure (h r aN sg rs)
 case step=>
  rintro x c tZ _ hx ⟨K6,na,nb,out,mg,rfl,m,l1,l2,l3,l4,l5⟩
  dsimp only
  refine wpS_bind (wpS_mono (wpS_forRange
   (I:=λy c aN=>SG st aN/\∃fZ gc cF ac bc,c=(none,fZ,gc,cF,ac,bc)/\HI a.toList b.toList cF.toList.reverse fZ gc/\1<=fZ/\fZ<=a.size/\2<=gc/\gc<=b.size/\fZ+gc+y<=na+nb)
   (Q:=λc aN=>SG st aN/\((∃r z,c=(some r,z)/\Res a.toList b.toList r.toList)\/∃fZ gc cF ac bc,c=(none,fZ,gc,cF,ac,bc)/\HI a.toList b.toList cF.toList.reverse fZ gc/\1<=fZ/\fZ<=a.size/\2<=gc/\gc<=b.size/\fZ+gc+1<=na+nb)) ?step1 ?fin1 ⟨K6,na,nb,out,0,0,rfl,m,l1,l2,l3,l4,by omega⟩) ?post1)
  case fin1=>
   rintro c aN ⟨sg,fZ,gc,cF,ac,bc,rfl,m',k1,k2,k3,k4,k5⟩
   exact⟨sg,.inr ⟨fZ,gc,cF,ac,bc,rfl,m',k1,k2,k3,k4,by omega⟩⟩
  case step1=>
   rintro y c bL _ hy ⟨sg,fZ,gc,cF,ac,bc,rfl,m',k1,k2,k3,k4,k5⟩
   dsimp only
   obtain⟨u,eu,uS⟩:=bF (a:=b) (i:=gc - 1) (by omega)
   obtain⟨v,ev,uR⟩:=bF (a:=a) (i:=fZ - 1) (by omega)
   refine wpS_bind (bu uS (wpS_bind (bu uR (wpS_bind (nj (sg.1.trans hk) (mB eu) (mA ev) ?_)))))
   by_cases c:kn u<kn v
   ·simp only[c,decide_true,if_true]
    rw[show fZ=fZ - 1+1 by omega] at m'
    have m2:=m'.kB sA ev λz hz=>by have:=eZ sB eu z (by rw[show gc - 1+1=gc by omega];exact hz);omega
    rw[<-jo] at m2
    refine wpS_bind (bu uR ?_)
    by_cases d:fZ - 1=0
    ·rw[if_pos (by simpa using d)]
     exact wpS_pure ⟨sg,.inl ⟨_,_,rfl,C.rA m2 d⟩⟩
    ·rw[if_neg (by simpa using d)]
     split
     ·exact wpS_pure ⟨sg,.inr ⟨_,_,_,_,_,rfl,m2,by omega,by omega,k3,k4,by omega⟩⟩
     ·exact wpS_pure ⟨sg,_,_,_,_,_,rfl,m2,by omega,by omega,k3,k4,by omega⟩
   ·simp only[c,decide_false,aaT,if_false]
    rw[show gc=gc - 1+1 by omega] at m'
    have m2:=m'.kA sB eu λz hz=>by have:=eZ sA ev z (by rw[show fZ - 1+1=fZ by omega];exact hz);omega
    rw[<-jo] at m2
    refine wpS_bind (bu uS ?_)
    by_cases d:gc - 1=1
    ·rw[if_pos (by simpa using d)]
     exact wpS_pure ⟨sg,.inl ⟨_,_,rfl,C.rF m2 d⟩⟩
    ·rw[if_neg (by simpa using d)]
     split
     ·exact wpS_pure ⟨sg,.inr ⟨_,_,_,_,_,rfl,m2,k1,k2,by omega,by omega,by omega⟩⟩
     ·exact wpS_pure ⟨sg,_,_,_,_,_,rfl,m2,k1,k2,by omega,by omega,by omega⟩
  case post1=>
   rintro c bL ⟨GW,hc⟩
   rcases hc with ⟨r,z,rfl,rs⟩ | ⟨fZ,gc,cF,ac,bc,rfl,m',k1,k2,k3,k4,k5⟩
   ·exact wpS_pure ⟨GW,_,_,rfl,rs⟩
   dsimp only
   refine wpS_bind (wpS_lift (wpAny_rule ⟨rfl,?_⟩))
   refine wpS_bind (wpS_mono (wpS_forRange
    (I:=λy c aN=>SG st aN/\∃fM fN cM mg ac bc,c=(none,fM,fN,cM,mg,ac,bc)/\HI a.toList b.toList cM.toList.reverse fM fN/\1<=fM/\fM<=fZ/\2<=fN/\fN<=gc)
    (Q:=λc aN=>SG st aN/\((∃r z,c=(some r,z)/\Res a.toList b.toList r.toList)\/∃fM fN cM mg ac bc,c=(none,fM,fN,cM,mg,ac,bc)/\HI a.toList b.toList cM.toList.reverse fM fN/\1<=fM/\fM<=fZ/\2<=fN/\fN<=gc)) ?step2 ?fin2 ⟨GW,fZ,gc,cF,_,ac,bc,rfl,m',k1,aae _,k3,aae _⟩) ?post2)
   case fin2=>
    rintro c aN ⟨sg,hc⟩
    exact⟨sg,.inr hc⟩
   case post2=>
    rintro c oI ⟨BA,hc⟩
    rcases hc with ⟨r,z,rfl,rs⟩ | ⟨pR,xl,o3,GX,GY,xQ,rfl,m3,q1,q2,q3,q4⟩
    ·exact wpS_pure ⟨BA,_,_,rfl,rs⟩
    dsimp only
    refine wpS_bind (jm BA λfW fY=>wpS_pure ⟨fY,pR,xl,o3,_,rfl,m3,q1,by omega,q3,by omega,by omega⟩)
   case step2=>
    rintro y c oI _ hy ⟨BA,pR,xl,o3,GX,GY,xQ,rfl,m3,q1,q2,q3,q4⟩
    dsimp only
    obtain⟨u,eu,uS⟩:=bF (a:=b) (i:=xl - 1) (by omega)
    have body:∀g:Nat,wpS (model prog w) A E s (do
      kx g
      let u <-elem' b (xl - 1)
      let x <-cR false u a 0 pR (pR - 1)
      match x with
      | some at_=>
       if pR - at_ >0 then
        if at_==0 then pure (ForInStep.done (some (dh a b (o3++ (a.extract at_ pR).reverse) at_ xl),at_,xl,o3++ (a.extract at_ pR).reverse,g,pR - at_,xQ))
        else JM a b at_ xl (o3++ (a.extract at_ pR).reverse) g (pR - at_) xQ
       else JM a b pR xl o3 g (pR - at_) xQ
      | _=>pure (ForInStep.done (some (dh a b o3 pR xl),pR,xl,o3,g,GY,xQ)))
     (λr aN=>match r with
      | .done c'=>SG st aN/\((∃r z,c'=(some r,z)/\Res a.toList b.toList r.toList)\/∃fM fN cM mg ac bc,c'=(none,fM,fN,cM,mg,ac,bc)/\HI a.toList b.toList cM.toList.reverse fM fN/\1<=fM/\fM<=fZ/\2<=fN/\fN<=gc)
      | .yield c'=>SG st aN/\∃fM fN cM mg ac bc,c'=(none,fM,fN,cM,mg,ac,bc)/\HI a.toList b.toList cM.toList.reverse fM fN/\1<=fM/\fM<=fZ/\2<=fN/\fN<=gc) oI:=by
     intro g
     refine wpS_bind (jm BA λfW fY=>?_)
     refine wpS_bind (bu uS (wpS_bind (de (fY.1.trans hk) (mB eu) (λi hi=>?_) (by omega) (λi j qg hj=>nv sA (by omega) (by omega)) λk hk b1 b2=>?_)))
     ·obtain⟨x,ex,oG⟩:=bF (a:=a) (i:=0+i) (by omega)
      exact⟨x,oG,mA ex⟩
     ·dsimp only
      have up:∀i x,k<=i->i<pR->a.toList[i]?=some x->∀y∈b.toList.take xl,kn y<=kn x:=λi x h1 h2 ex y hy=>by
       have q:=b2 i h1 h2
       unfold B at q
       rw[aaG,cw ex] at q
       have q2:=eZ sB eu y (by rw[show xl - 1+1=xl by omega];exact hy)
       simp at q
       omega
      have xk:∀y∈a.toList.take k,kn y<=kn u:=λy hy=>by
       obtain⟨i,ei⟩:=aam hy
       have G1:i<k:=by have:=(List.getElem?_eq_some_iff.mp ei).1;rw[aa5] at this;omega
       rw[List.getElem?_take,if_pos G1] at ei
       have q:=b1 i G1
       unfold B at q
       rw[aaG,cw ei] at q
       simp at q
       omega
      by_cases k0:pR - k >0
      ·rw[if_pos k0]
       have m4:=m3.y2 sA (by omega) (pR - k) (by omega) λi x h1 h2=>up i x (by omega) h2
       rw[show pR - (pR - k)=k by omega,<-sN] at m4
       by_cases d1:k=0
       ·rw[if_pos (by simpa using d1)]
        exact wpS_pure ⟨fY,.inl ⟨_,_,rfl,C.rA m4 d1⟩⟩
       rw[if_neg (by simpa using d1)]
       exact vM C fY m4 (by omega) (by omega) q3 (by omega) eu xk (λr z rs=>⟨fY,.inl ⟨_,_,rfl,rs⟩⟩) λi j o x y mm p1 p2 p3 p4=>⟨⟨fY,.inr ⟨i,j,o,_,x,y,rfl,mm,p1,by omega,p2,by omega⟩⟩,⟨fY,i,j,o,_,x,y,rfl,mm,p1,by omega,p2,by omega⟩⟩
      ·rw[if_neg k0]
       have kk:k=pR:=by omega
       rw[kk] at xk
       exact vM C fY m3 q1 (by omega) q3 (by omega) eu xk (λr z rs=>⟨fY,.inl ⟨_,_,rfl,rs⟩⟩) λi j o x y mm p1 p2 p3 p4=>⟨⟨fY,.inr ⟨i,j,o,_,x,y,rfl,mm,p1,by omega,p2,by omega⟩⟩,⟨fY,i,j,o,_,x,y,rfl,mm,p1,by omega,p2,by omega⟩⟩
    by_cases c:GX >1
    ·rw[if_pos c]
     exact wpS_mono (body _) λr aN hh=>by cases r <;>exact hh
    ·rw[if_neg c]
     exact wpS_mono (body _) λr aN hh=>by cases r <;>exact hh
noncomputable def wr (sa:Nat) (arr:Array Keyed) (l:List (Keyed×Nat)):Array Keyed:=l.foldl (λa p=>a.setIfInBounds (sa+p.2) p.1) arr
theorem y9 (sa:Nat):∀(l:List Keyed) (s:Nat) (arr:Array Keyed) (t:Nat),sa+s+l.length<=arr.size->(wr sa arr (l.zipIdx s))[t]?=if sa+s<=t/\t<sa+s+l.length then l[t - (sa+s)]? else arr[t]?
 | [],s,arr,t,_=>by
  rw[if_neg (by simp)]
  rfl
 | x::l,s,arr,t,h=>by
  rw[aaw] at h
  rw[List.zipIdx_cons]
  show(wr sa (arr.setIfInBounds (sa+s) x) (l.zipIdx (s+1)))[t]?=_
  rw[y9 sa l (s+1) _ t (by rw[Array.size_setIfInBounds];omega),aaw]
  by_cases c:sa+ (s+1)<=t/\t<sa+ (s+1)+l.length
  ·rw[if_pos c,if_pos (by omega),show t - (sa+s)=t - (sa+ (s+1))+1 by omega,abh]
  ·rw[if_neg c]
   by_cases d:t=sa+s
   ·rw[if_pos (by omega),d,Nat.sub_self,abi,Array.getElem?_setIfInBounds_self_of_lt (by omega)]
   ·rw[if_neg (by omega),Array.getElem?_setIfInBounds_ne (by omega)]
theorem BC {st tZ:SortSt} {Q:PUnit->SortSt->Prop} (h:Q ⟨⟩ tZ):wpS (model prog w) A E s (set tZ:StateT SortSt Sem PUnit) Q st:=by
 unfold wpS;rw[StateT.run_set];exact wpAny_pure ⟨rfl,h⟩
noncomputable def dj (arr:Array Keyed) (lo n:Nat):Prop:=∀i j,lo<=i->i<=j->j<lo+n->K arr i<=K arr j
theorem sQ {arr:Array Keyed} {lo n:Nat} (h:dj arr lo n) (hn:lo+n<=arr.size):(arr.extract lo (lo+n)).toList.Pairwise Le:=by
 rw[fJ,List.pairwise_iff_getElem]
 intro i j hi hj qg
 have l:((arr.toList.drop lo).take n).length<=n:=by rw[aa5];omega
 have e:∀(k:Nat) (hk:k< ((arr.toList.drop lo).take n).length),K arr (lo+k)=kn (((arr.toList.drop lo).take n)[k]):=λk hk=>by
  refine cw ?_
  have:((arr.toList.drop lo).take n)[k]?=some (((arr.toList.drop lo).take n)[k]):=aac hk
  rw[List.getElem?_take,if_pos (by omega),aa2] at this
  exact this
 have:=h (lo+i) (lo+j) (by omega) (by omega) (by omega)
 rw[e i hi,e j hj] at this
 exact this
theorem za {arr:Array Keyed} {lo n:Nat} {x:Keyed} (h:x∈(arr.extract lo (lo+n)).toList):∃t,lo<=t/\t<lo+n/\arr.toList[t]?=some x:=by
 rw[fJ] at h
 obtain⟨i,ei⟩:=aam h
 have hi:i<n:=by have:=(List.getElem?_eq_some_iff.mp ei).1;rw[aa5] at this;omega
 rw[List.getElem?_take,if_pos hi,aa2] at ei
 exact⟨lo+i,by omega,by omega,ei⟩
theorem zb {arr:Array Keyed} {lo n i:Nat} (hi:i<n):(arr.extract lo (lo+n)).toList[i]?=arr.toList[lo+i]?:=by
 rw[fJ,List.getElem?_take,if_pos hi,aa2]
noncomputable def sR (arr:Array Keyed):Prop:=∀x∈arr.toList,oM x
theorem sS (i:Nat):mergeAt' i=(do
 let s <-get
 let (some (sa,na,power),some (sb,nb,_)):=((pendingOf s)[i]?,(pendingOf s)[i+1]?) | unsupported "internal:list.sort.pending"
 set (setPending s (((pendingOf s).setIfInBounds i (sa,na+nb,power)).eraseIdxIfInBounds (i+1)))
 let some k <-cR false (<-elem' (arrOf s) sb) (arrOf s) sa na 0 | return false
 let (sa,na):=(sa+k,na - k)
 if na==0 then return true
 let some nb <-cR true (<-elem' (arrOf s) (sa+na - 1)) (arrOf s) sb nb (nb - 1) | return false
 if nb==0 then return true
 let x:=(arrOf s).extract sa sb
 let y:=(arrOf s).extract sb (sb+nb)
 let merged <-if na<=nb then nk x y else nA x y
 modify λs=>setArr s (merged.toList.zipIdx.foldl (λa (p,j)=>a.setIfInBounds (sa+j) p) (arrOf s))
 return (failedOf (<-get)).isNone):=rfl
theorem sT {st:SortSt} {i sa na pw nb Ea:Nat} {Q:Bool->SortSt->Prop} (hk:kindOf st=oneType') (Vz:failedOf st=none) (ai:sR (arrOf st)) (p1:(pendingOf st)[i]?=some (sa,na,pw)) (p2:(pendingOf st)[i+1]?=some (sa+na,nb,Ea))
  (a1:1<=na) (b1:1<=nb) (hz:sa+na+nb<=(arrOf st).size) (s1:dj (arrOf st) sa na) (s2:dj (arrOf st) (sa+na) nb)
  (h:∀aN,kindOf aN=oneType'->failedOf aN=none->pendingOf aN=((pendingOf st).setIfInBounds i (sa,na+nb,pw)).eraseIdxIfInBounds (i+1)->(arrOf aN).Perm (arrOf st)->dj (arrOf aN) sa (na+nb)->
   (∀t,t<sa\/sa+na+nb<=t->(arrOf aN)[t]?=(arrOf st)[t]?)->Q true aN):wpS (model prog w) A E s (mergeAt' i) Q st:=by
 rw[sS]
 refine wpS_bind (wpS_get ?_)
 rw[p1,p2]
 dsimp only
 refine wpS_bind (BC ?_)
 generalize hst:setPending st (((pendingOf st).setIfInBounds i (sa,na+nb,pw)).eraseIdxIfInBounds (i+1))=tZ
 have k1:kindOf tZ=oneType':=by rw[<-hst];exact hk
 have f1:failedOf tZ=none:=by rw[<-hst];exact Vz
 have Eb:arrOf tZ=arrOf st:=by rw[<-hst]
 have K7:pendingOf tZ=((pendingOf st).setIfInBounds i (sa,na+nb,pw)).eraseIdxIfInBounds (i+1):=by rw[<-hst]
 generalize arrOf st=arr at *
 have gt:∀{t},t<arr.size->∃p,arr.toList[t]?=some p/\arr[t]?=some p/\oM p:=λht=>by
  obtain⟨p,e1,e2⟩:=bF ht
  exact⟨p,e1,e2,ai _ (aad e1)⟩
 obtain⟨u,eu,uS,iu⟩:=gt (t:=sa+na) (by omega)
 refine wpS_bind (bu uS (wpS_bind (de k1 iu (λj hj=>?_) (by omega) (λx y VA hy=>s1 _ _ (by omega) (by omega) (by omega)) λk VB VC VD=>?_)))
 ·obtain⟨p,e1,e2,e3⟩:=gt (t:=sa+j) (by omega)
  exact⟨p,e2,e3⟩
 dsimp only
 have F1:∀t,sa<=t->t<sa+k->K arr t<=K arr (sa+na):=λt h1 h2=>by
  have q:=VC (t - sa) (by omega)
  unfold B at q
  rw[show sa+ (t - sa)=t by omega] at q
  rw[cw eu]
  simpa using q
 have F2:∀t,sa+k<=t->t<sa+na->K arr (sa+na)<K arr t:=λt h1 h2=>by
  have q:=VD (t - sa) (by omega) (by omega)
  unfold B at q
  rw[show sa+ (t - sa)=t by omega] at q
  rw[cw eu]
  simp at q
  omega
 by_cases c1:na - k=0
 ·rw[if_pos (by simpa using c1)]
  refine wpS_pure (h tZ k1 f1 K7 (by rw[Eb]) ?_ λt _=>by rw[Eb])
  rw[Eb]
  intro x y h1 h2 h3
  by_cases cy:y<sa+na
  ·exact s1 _ _ h1 h2 cy
  ·by_cases cx:x<sa+na
   ·have q1:=F1 x h1 (by omega)
    have q2:=s2 (sa+na) y (aae _) (by omega) (by omega)
    omega
   ·exact s2 _ _ (by omega) h2 (by omega)
 rw[if_neg (by simpa using c1)]
 obtain⟨v,ev,uR,iv⟩:=gt (t:=sa+k+ (na - k) - 1) (by omega)
 refine wpS_bind (bu uR (wpS_bind (de k1 iv (λj hj=>?_) (by omega) (λx y VA hy=>s2 _ _ (by omega) (by omega) (by omega)) λm hmn d1 d2=>?_)))
 ·obtain⟨p,e1,e2,e3⟩:=gt (t:=sa+na+j) (by omega)
  exact⟨p,e2,e3⟩
 dsimp only
 rw[show sa+k+ (na - k) - 1=sa+na - 1 by omega] at ev
 have F3:∀t,sa+na<=t->t<sa+na+m->K arr t<K arr (sa+na - 1):=λt h1 h2=>by
  have q:=d1 (t - (sa+na)) (by omega)
  unfold B at q
  rw[show sa+na+ (t - (sa+na))=t by omega] at q
  rw[cw ev]
  simpa using q
 have F4:∀t,sa+na+m<=t->t<sa+na+nb->K arr (sa+na - 1)<=K arr t:=λt h1 h2=>by
  have q:=d2 (t - (sa+na)) (by omega) (by omega)
  unfold B at q
  rw[show sa+na+ (t - (sa+na))=t by omega] at q
  rw[cw ev]
  simp at q
  omega
 by_cases c2:m=0
 ·rw[if_pos (by simpa using c2)]
  refine wpS_pure (h tZ k1 f1 K7 (by rw[Eb]) ?_ λt _=>by rw[Eb])
  rw[Eb]
  intro x y h1 h2 h3
  by_cases cy:y<sa+na
  ·exact s1 _ _ h1 h2 cy
  ·by_cases cx:x<sa+na
   ·have q1:=s1 x (sa+na - 1) h1 (by omega) (by omega)
    have q2:=F4 y (by omega) (by omega)
    omega
   ·exact s2 _ _ (by omega) h2 (by omega)
 rw[if_neg (by simpa using c2)]
 have VE:arr.extract (sa+k) (sa+na)=arr.extract (sa+k) (sa+k+ (na - k)):=by congr 1;omega
 rw[VE]
 generalize hx:arr.extract (sa+k) (sa+k+ (na - k))=X
 generalize hy:arr.extract (sa+na) (sa+na+m)=Y
 have lX:X.size=na - k:=by rw[<-hx,Array.size_extract];omega
 have lY:Y.size=m:=by rw[<-hy,Array.size_extract];omega
 have mX:∀e∈X.toList,∃t,sa+k<=t/\t<sa+na/\arr.toList[t]?=some e:=λe he=>by
  rw[<-hx] at he
  obtain⟨t,h1,h2,h3⟩:=za he
  exact⟨t,h1,by omega,h3⟩
 have mY:∀e∈Y.toList,∃t,sa+na<=t/\t<sa+na+m/\arr.toList[t]?=some e:=λe he=>by
  rw[<-hy] at he
  exact za he
 have iX:∀e∈X.toList,oM e:=λe he=>by obtain⟨t,_,_,h3⟩:=mX e he;exact ai _ (aad h3)
 have iY:∀e∈Y.toList,oM e:=λe he=>by obtain⟨t,_,_,h3⟩:=mY e he;exact ai _ (aad h3)
 have sX:X.toList.Pairwise Le:=by rw[<-hx];exact sQ (λi j h1 h2 h3=>s1 i j (by omega) h2 (by omega)) (by omega)
 have sY:Y.toList.Pairwise Le:=by rw[<-hy];exact sQ (λi j h1 h2 h3=>s2 i j h1 h2 (by omega)) (by omega)
 have hf:∀x,Y.toList[0]?=some x->∀y∈X.toList,kn x<=kn y:=λx ex y Ec=>by
  rw[<-hy,zb (by omega),Nat.add_zero] at ex
  obtain⟨t,h1,h2,h3⟩:=mX y Ec
  have q:=F2 t h1 h2
  rw[cw ex,cw h3] at q
  omega
 have hl:∀x,X.toList[X.size - 1]?=some x->∀y∈Y.toList,kn y<=kn x:=λx ex y Ec=>by
  rw[lX,<-hx,zb (by omega),show sa+k+ (na - k - 1)=sa+na - 1 by omega] at ex
  obtain⟨t,h1,h2,h3⟩:=mY y Ec
  have q:=F3 t h1 h2
  rw[cw ex,cw h3] at q
  omega
 have fin:∀(r:Array Keyed) (bL:SortSt),SG tZ bL->Res X.toList Y.toList r.toList->wpS (model prog w) A E s (do
   modify λs=>setArr s (List.foldl (λa (x:Keyed×Nat)=>a.setIfInBounds (sa+k+x.snd) x.fst) (arrOf s) r.toList.zipIdx)
   let z <-get
   pure (failedOf z).isNone) Q bL:=by
  intro r bL sg rs
  refine wpS_bind (wpS_modify (wpS_bind (wpS_get ?_)))
  have lrs:r.toList.length=r.size:=by simp
  have lr:r.toList.length=na - k+m:=by rw[rs.1.length_eq,aaM];simp [lX,lY]
  have er:(failedOf (setArr bL (List.foldl (λa x=>a.setIfInBounds (sa+k+x.snd) x.fst) (arrOf bL) r.toList.zipIdx))).isNone=true:=by
   show(failedOf bL).isNone=true
   rw[sg.2.2.2,f1]
   rfl
  rw[er]
  have g:∀t,(wr (sa+k) arr (r.toList.zipIdx 0))[t]?=if sa+k<=t/\t<sa+na+m then r.toList[t - (sa+k)]? else arr[t]?:=λt=>by
   rw[y9 (sa+k) r.toList 0 arr t (by omega)]
   by_cases c:sa+k<=t/\t<sa+na+m
   ·rw[if_pos c,if_pos (by omega),Nat.add_zero]
   ·rw[if_neg c,if_neg (by omega)]
  have ea:arrOf (setArr bL (List.foldl (λa x=>a.setIfInBounds (sa+k+x.snd) x.fst) (arrOf bL) r.toList.zipIdx))=wr (sa+k) arr (r.toList.zipIdx 0):=by
   show List.foldl (λa x=>a.setIfInBounds (sa+k+x.snd) x.fst) (arrOf bL) r.toList.zipIdx=_
   rw[sg.2.1,Eb]
   rfl
  refine wpS_pure (h _ (sg.1.trans k1) (sg.2.2.2.trans f1) (sg.2.2.1.trans K7) ?_ ?_ ?_)
  ·rw[ea,Array.perm_iff_toList_perm]
   have e1:(wr (sa+k) arr (r.toList.zipIdx 0)).toList=arr.toList.take (sa+k)++ (r.toList++arr.toList.drop (sa+na+m)):=by
    apply aa3
    intro t
    rw[aaU,g]
    have lt:(arr.toList.take (sa+k)).length=sa+k:=by rw[aa5];simp;omega
    by_cases c:t<sa+k
    ·rw[if_neg (by omega),abf (by omega),List.getElem?_take,if_pos c,aaU]
    ·rw[aa6 (by omega),lt]
     by_cases c':t<sa+na+m
     ·rw[if_pos (by omega),abf (by omega)]
     ·rw[if_neg (by omega),aa6 (by omega),aa2,lr,show sa+na+m+ (t - (sa+k) - (na - k+m))=t by omega,aaU]
   have e2:arr.toList=arr.toList.take (sa+k)++ ((X.toList++Y.toList)++arr.toList.drop (sa+na+m)):=by
    rw[<-hx,<-hy,fJ,fJ,aaB]
    have a1:List.take m (List.drop (sa+na) arr.toList)++List.drop (sa+na+m) arr.toList=List.drop (sa+na) arr.toList:=by
     have q:=aaY m (List.drop (sa+na) arr.toList)
     rw[List.drop_drop] at q
     exact q
    have a2:List.take (na - k) (List.drop (sa+k) arr.toList)++List.drop (sa+na) arr.toList=List.drop (sa+k) arr.toList:=by
     have q:=aaY (na - k) (List.drop (sa+k) arr.toList)
     rw[List.drop_drop,show sa+k+ (na - k)=sa+na by omega] at q
     exact q
    rw[a1,a2,aaY]
   rw[e1]
   conv=>rhs;rw[e2]
   exact(rs.1.append_right _).append_left _
  ·rw[ea]
   have Ko:∀t,¬(sa+k<=t/\t<sa+na+m)->K (wr (sa+k) arr (r.toList.zipIdx 0)) t=K arr t:=λt ht=>K_congr (by rw[g,if_neg ht])
   have Ki:∀t,sa+k<=t->t<sa+na+m->K (wr (sa+k) arr (r.toList.zipIdx 0)) t=K r (t - (sa+k)):=λt h1 h2=>K_congr (by rw[g,if_pos ⟨h1,h2⟩,aaU])
   have Kb:∀t,sa+k<=t->t<sa+na+m->K arr (sa+na)<=K r (t - (sa+k))/\K r (t - (sa+k))<=K arr (sa+na - 1):=λt h1 h2=>by
    obtain⟨e,ee,_⟩:=bF (a:=r) (i:=t - (sa+k)) (by omega)
    rw[cw ee]
    have hm:=rs.1.mem_iff.mp (aad ee)
    rcases List.mem_append.mp hm with hm | hm
    ·obtain⟨t',q1,q2,q3⟩:=mX e hm
     have w1:=F2 t' q1 q2
     have w2:=s1 t' (sa+na - 1) (by omega) (by omega) (by omega)
     rw[cw q3] at w1 w2
     omega
    ·obtain⟨t',q1,q2,q3⟩:=mY e hm
     have w1:=F3 t' q1 q2
     have w2:=s2 (sa+na) t' (aae _) q1 (by omega)
     rw[cw q3] at w1 w2
     omega
   intro x y h1 h2 h3
   by_cases cx:x<sa+k
   ·rw[Ko x (by omega)]
    by_cases cy:y<sa+k
    ·rw[Ko y (by omega)]
     exact s1 _ _ h1 h2 (by omega)
    ·have w1:=F1 x h1 cx
     by_cases JN:y<sa+na+m
     ·rw[Ki y (by omega) JN]
      have:=(Kb y (by omega) JN).1
      omega
     ·rw[Ko y (by omega)]
      have:=s2 (sa+na) y (aae _) (by omega) (by omega)
      omega
   ·by_cases S5:x<sa+na+m
    ·rw[Ki x (by omega) S5]
     by_cases JN:y<sa+na+m
     ·rw[Ki y (by omega) JN]
      exact nv rs.2 (by omega) (by omega)
     ·rw[Ko y (by omega)]
      have w1:=(Kb x (by omega) S5).2
      have w2:=F4 y (by omega) (by omega)
      omega
    ·rw[Ko x (by omega),Ko y (by omega)]
     exact s2 _ _ (by omega) h2 (by omega)
  ·intro t ht
   rw[ea,g,if_neg (by omega)]
 by_cases c3:na - k<=m
 ·rw[if_pos c3]
  exact wpS_bind (sM k1 iX iY sX sY (by omega) (by omega) (λx y ex ey=>hf x ex y (aad ey)) hl fin)
 ·rw[if_neg c3]
  exact wpS_bind (sP k1 iX iY sX sY (by omega) (by omega) hf hl fin)
end
end PySem.Tim
namespace PySem.Tim
open PySem PyProof.Rows
section
variable {prog : Program} {w : World} {A : Around} {E : Value -> Shared -> Prop} {s : Shared}
structure TB (a₀:Array Keyed) (st:SortSt):Prop where
 perm:(arrOf st).Perm a₀
 kind:kindOf st=oneType'
 failed:failedOf st=none
theorem TB.size {a₀:Array Keyed} {st:SortSt} (h:TB a₀ st):(arrOf st).size=a₀.size:=h.perm.size_eq
theorem TB.all {a₀:Array Keyed} {st:SortSt} (h:TB a₀ st) (h0:sR a₀):sR (arrOf st):=λx hx=>h0 x ((Array.perm_iff_toList_perm.mp h.perm).mem_iff.mp hx)
noncomputable def G3 (a₀:Array Keyed):Prop:=(a₀.toList.map kn).Nodup
theorem TB.ne {a₀:Array Keyed} {st:SortSt} (h:TB a₀ st) (hd:G3 a₀) {i j:Nat} (qg:i<j) (hj:j<a₀.size):K (arrOf st) i≠K (arrOf st) j:=by
 have hz:=h.size
 obtain⟨x,ex,_⟩:=bF (a:=arrOf st) (i:=i) (by omega)
 obtain⟨y,ey,_⟩:=bF (a:=arrOf st) (i:=j) (by omega)
 have nd:((arrOf st).toList.map kn).Nodup:=(((Array.perm_iff_toList_perm.mp h.perm).map kn).nodup_iff).mpr hd
 rw[cw ex,cw ey]
 intro e
 rw[List.nodup_iff_pairwise_ne,List.pairwise_map] at nd
 obtain⟨hx,rfl⟩:=List.getElem?_eq_some_iff.mp ex
 obtain⟨hy,rfl⟩:=List.getElem?_eq_some_iff.mp ey
 exact List.pairwise_iff_getElem.mp nd i j hx hy qg e
theorem g9 {a₀:Array Keyed} {st:SortSt} {i j:Nat} {Q:Option Bool->SortSt->Prop} (hB:TB a₀ st) (h0:sR a₀) (hi:i<a₀.size) (hj:j<a₀.size) (h:Q (some (decide (K (arrOf st) i<K (arrOf st) j))) st):wpS (model prog w) A E s (ltAt' i j) Q st:=by
 have hz:=hB.size
 obtain⟨x,ex,oG⟩:=bF (a:=arrOf st) (i:=i) (by omega)
 obtain⟨y,ey,JF⟩:=bF (a:=arrOf st) (i:=j) (by omega)
 rw[cw ex,cw ey] at h
 rw[ltAt'_eq]
 refine wpS_bind (wpS_get ?_)
 exact wpS_bind (bu oG (wpS_bind (bu JF (nj hB.kind (hB.all h0 _ (aad ex)) (hB.all h0 _ (aad ey)) h))))
theorem BD (arr:Array Keyed) (lo:Nat):dj arr lo 1:=λi j h1 h2 h3=>by
 have:i=j:=by omega
 subst this
 exact aaP _
noncomputable def jr (lo:Nat) (st aN:SortSt):Prop:=pendingOf aN=pendingOf st/\∀t,t<lo->(arrOf aN)[t]?=(arrOf st)[t]?
theorem jr.refl (lo:Nat) (st:SortSt):jr lo st st:=⟨rfl,λ_ _=>rfl⟩
theorem jr.trans {lo:Nat} {a b c:SortSt} (h:jr lo a b) (k:jr lo b c):jr lo a c:=⟨k.1.trans h.1,λt ht=>(k.2 t ht).trans (h.2 t ht)⟩
theorem TB.setArr {a₀:Array Keyed} {st:SortSt} (h:TB a₀ st) {xs:Array Keyed} (hp:xs.Perm (arrOf st)):TB a₀ (setArr st xs):=⟨hp.trans h.perm,h.kind,h.failed⟩
theorem zc {a₀:Array Keyed} {st:SortSt} {lo n ok:Nat} {Q:Bool->SortSt->Prop} (h0:sR a₀) (hn:lo+n<=a₀.size) (bI:ok<=n) (hB:TB a₀ st) (hs:dj (arrOf st) lo ok)
  (h:∀aN,TB a₀ aN->jr lo st aN->dj (arrOf aN) lo n->Q true aN):wpS (model prog w) A E s (binarySort' lo n ok) Q st:=by
 rw[binarySort'_eq]
 refine wpS_bind (wpS_mono (wpS_forRange (I:=λk c aN=>c=(none,())/\TB a₀ aN/\jr lo st aN/\dj (arrOf aN) lo (min k n))
  (Q:=λc aN=>c=(none,())/\TB a₀ aN/\jr lo st aN/\dj (arrOf aN) lo n) ?step ?fin ?init) ?post)
 case post=>
  rintro c aN ⟨rfl,Ed,fr,jI⟩
  exact wpS_pure (h aN Ed fr jI)
 case init=>
  refine⟨rfl,hB,jr.refl _ _,λi j h1 qg hj=>?_⟩
  by_cases h1:ok=0
  ·have:i=j:=by omega
   subst this;exact aaP _
  ·exact hs i j (by omega) qg (by omega)
 case fin=>
  rintro c aN ⟨hc,Ed,fr,jI⟩
  refine⟨hc,Ed,fr,?_⟩
  rwa [show min (max (max ok 1) n) n=n by omega] at jI
 case step=>
  rintro k c aN hak VB ⟨rfl,Ed,fr,jI⟩
  rw[show min k n=k by omega] at jI
  have hk:lo+k<a₀.size:=by omega
  refine wpS_bind (wpS_mono (wpS_forRange (I:=λx c iM=>iM=aN/\∃l r,c=(none,l,r)/\l<=r/\r<=k/\r - l<=k - x/\
    (∀i,lo<=i->i<lo+l->K (arrOf aN) i<=K (arrOf aN) (lo+k))/\(∀i,lo+r<=i->i<lo+k->K (arrOf aN) (lo+k)<K (arrOf aN) i))
   (Q:=λc iM=>iM=aN/\∃l r,c=(none,l,r)/\l<=k/\
    (∀i,lo<=i->i<lo+l->K (arrOf aN) i<=K (arrOf aN) (lo+k))/\(∀i,lo+l<=i->i<lo+k->K (arrOf aN) (lo+k)<K (arrOf aN) i)) ?istep ?ifin ?iinit) ?ipost)
  case iinit=>exact⟨rfl,0,k,rfl,by omega,by omega,by omega,λi hi h2=>by omega,λi h1 h2=>by omega⟩
  case ifin=>
   rintro c iM ⟨rfl,l,r,rfl,VF,JO,hm,DC,FE⟩
   have:l=r:=by omega
   subst this
   exact⟨rfl,l,l,rfl,JO,DC,FE⟩
  case istep=>
   rintro x c iM _ hxk ⟨rfl,l,r,rfl,VF,JO,hm,DC,FE⟩
   dsimp only
   by_cases yJ:l≥r
   ·rw[if_pos yJ]
    have:l=r:=by omega
    subst this
    exact wpS_pure ⟨rfl,l,l,rfl,JO,DC,FE⟩
   ·rw[if_neg yJ]
    refine wpS_bind (g9 Ed h0 hk (by omega) ?_)
    by_cases dC:K (arrOf iM) (lo+k)<K (arrOf iM) (lo+ (l+r) / 2)
    ·simp only[dC,decide_true,if_true]
     refine wpS_pure ⟨rfl,l,(l+r) / 2,rfl,by omega,by omega,by omega,DC,λi h1 h2=>?_⟩
     exact Int.lt_of_lt_of_le dC (jI _ _ (by omega) h1 h2)
    ·simp only[dC,decide_false,aaT,if_false]
     refine wpS_pure ⟨rfl,(l+r) / 2+1,r,rfl,by omega,by omega,by omega,λi VG h1=>?_,FE⟩
     exact Int.le_trans (jI i (lo+ (l+r) / 2) VG (by omega) (by omega)) (Int.not_lt.mp dC)
  case ipost=>
   rintro c iM ⟨rfl,l,r,rfl,hlk,DC,FE⟩
   show wpS _ _ _ _ (do moveDown' (lo+k) (lo+l);pure (ForInStep.yield (none,()))) _ _
   rw[moveDown'_eq]
   have xm:lo+k< (arrOf iM).size:=by rw[Ed.size];exact hk
   refine wpS_bind (wpS_modify (wpS_pure ⟨rfl,Ed.setArr (bubble_perm _ _ _),fr.trans ⟨rfl,λt ht=>?_⟩,?_⟩))
   ·show(bubble (arrOf iM) (lo+k) (lo+k - (lo+l)))[t]?=_
    rw[getElem?_bubble xm _ (by omega),if_neg (by omega),if_neg (by omega)]
   rw[show min (k+1) n=k+1 by omega]
   intro i j h1 qg hj
   show K (bubble (arrOf iM) (lo+k) (lo+k - (lo+l))) i<=K (bubble (arrOf iM) (lo+k) (lo+k - (lo+l))) j
   rw[K_bubble xm (by omega),K_bubble xm (by omega),show lo+k - (lo+k - (lo+l))=lo+l by omega]
   repeat' split
   all_goals first
    | (exfalso;omega)
    | exact aaP _
    | exact DC _ (by omega) (by omega)
    | exact Int.le_of_lt (FE _ (by omega) (by omega))
    | exact jI _ _ (by omega) (by omega) (by omega)
theorem zd {a₀:Array Keyed} {st:SortSt} {lo gz:Nat} {Q:Option Nat->SortSt->Prop} (h0:sR a₀) (hd:G3 a₀) (hn:lo+gz<=a₀.size) (h1:1<=gz) (hB:TB a₀ st)
  (h:∀m aN,TB a₀ aN->jr lo st aN->1<=m->m<=gz->dj (arrOf aN) lo m->Q (some m) aN):wpS (model prog w) A E s (countRun' lo gz) Q st:=by
 rw[countRun'_eq]
 refine wpS_bind (wpS_mono (wpS_forRange (I:=λx c aN=>aN=st/\c=(none,x)/\dj (arrOf st) lo x)
  (Q:=λc aN=>aN=st/\∃n,c=(none,n)/\1<=n/\n<=gz/\dj (arrOf st) lo n/\(n=gz\/K (arrOf st) (lo+n)<K (arrOf st) (lo+n - 1))) ?step ?fin ⟨rfl,rfl,BD _ _⟩) ?post)
 case fin=>
  rintro c aN ⟨rfl,rfl,jI⟩
  rw[show max 1 gz=gz by omega] at jI ⊢
  exact⟨rfl,gz,rfl,h1,aae _,jI,.inl rfl⟩
 case step=>
  rintro x c aN K8 S6 ⟨rfl,rfl,jI⟩
  dsimp only
  refine wpS_bind (g9 hB h0 (by omega) (by omega) ?_)
  by_cases dC:K (arrOf aN) (lo+x)<K (arrOf aN) (lo+x - 1)
  ·simp only[dC,decide_true,if_true]
   exact wpS_pure ⟨rfl,x,rfl,K8,by omega,jI,.inr dC⟩
  ·simp only[dC,decide_false,aaT,if_false]
   refine wpS_pure ⟨rfl,rfl,λi j q1 qg hj=>?_⟩
   by_cases G4:j<lo+x
   ·exact jI i j q1 qg G4
   ·have CF:j=lo+x:=by omega
    subst CF
    by_cases oU:i=lo+x
    ·subst oU;exact aaP _
    ·exact Int.le_trans (jI i (lo+x - 1) q1 (by omega) (by omega)) (Int.not_lt.mp dC)
 case post=>
  rintro c aN ⟨rfl,n,rfl,n1,n2,hs,VH⟩
  dsimp only
  by_cases nn:n=gz
  ·rw[if_pos (by simpa using nn)]
   exact wpS_pure (h n aN hB (jr.refl _ _) n1 n2 hs)
  rw[if_neg (by simpa using nn)]
  have en:=VH.resolve_left nn
  by_cases g1:n >1
  ·rw[if_pos g1]
   refine wpS_bind (g9 hB h0 (by omega) (by omega) ?_)
   have q1:=hs lo (lo+n - 1) (aae _) (by omega) (by omega)
   have q2:=hB.ne hd (i:=lo) (j:=lo+n - 1) (by omega) (by omega)
   have q3:K (arrOf aN) lo<K (arrOf aN) (lo+n - 1):=by omega
   simp only[q3,decide_true,if_true]
   exact wpS_pure (h n aN hB (jr.refl _ _) n1 n2 hs)
  rw[if_neg g1]
  have e1:n=1:=by omega
  subst e1
  have ni:∀i j,lo<=i->i<=j->j<lo+ (1+1)->K (arrOf aN) j<=K (arrOf aN) i:=λi j q1 q2 q3=>by
   by_cases ij:i=j
   ·subst ij;exact aaP _
   ·have e1:i=lo:=by omega
    have e2:j=lo+1:=by omega
    rw[e1,e2]
    rw[show lo+1 - 1=lo by omega] at en
    omega
  refine wpS_bind (wpS_lift (wpAny_rule ⟨rfl,?_⟩))
  refine wpS_bind (wpS_mono (wpS_forRange (I:=λx c bL=>bL=aN/\c=(none,x,0)/\∀i j,lo<=i->i<=j->j<lo+x->K (arrOf aN) j<=K (arrOf aN) i)
   (Q:=λc bL=>bL=aN/\∃m,c=(none,m,0)/\2<=m/\m<=gz/\∀i j,lo<=i->i<=j->j<lo+m->K (arrOf aN) j<=K (arrOf aN) i) ?step2 ?fin2 ⟨rfl,rfl,ni⟩) ?post2)
  case fin2=>
   rintro c bL ⟨rfl,rfl,jI⟩
   rw[show max (1+1) gz=gz by omega] at jI ⊢
   exact⟨rfl,gz,rfl,by omega,aae _,jI⟩
  case step2=>
   rintro x c bL K8 S6 ⟨rfl,rfl,jI⟩
   dsimp only
   refine wpS_bind (g9 hB h0 (by omega) (by omega) ?_)
   by_cases dC:K (arrOf bL) (lo+x)<K (arrOf bL) (lo+x - 1)
   ·simp only[dC,decide_true,if_true]
    rw[if_neg (by omega)]
    refine wpS_pure ⟨rfl,rfl,λi j q1 q2 q3=>?_⟩
    by_cases G4:j<lo+x
    ·exact jI i j q1 q2 G4
    ·have CF:j=lo+x:=by omega
     subst CF
     by_cases oU:i=lo+x
     ·subst oU;exact aaP _
     ·exact Int.le_trans (Int.le_of_lt dC) (jI i (lo+x - 1) q1 (by omega) (by omega))
   ·simp only[dC,decide_false,aaT,if_false]
    refine wpS_bind (g9 hB h0 (by omega) (by omega) ?_)
    have q2:=hB.ne hd (i:=lo+x - 1) (j:=lo+x) (by omega) (by omega)
    have q3:K (arrOf bL) (lo+x - 1)<K (arrOf bL) (lo+x):=by omega
    simp only[q3,decide_true,if_true]
    exact wpS_pure ⟨rfl,x,rfl,by omega,by omega,jI⟩
  case post2=>
   rintro c bL ⟨rfl,m,rfl,m2,m3,jI⟩
   dsimp only
   rw[if_neg (by omega)]
   have hz:=hB.size
   refine wpS_bind (wpS_reverse ?_)
   have em:∀t,(mirror (arrOf bL) lo (lo+m) ((lo+m - lo) / 2))[t]?=if lo<=t/\t<lo+m then (arrOf bL)[lo+ (lo+m) - 1 - t]? else (arrOf bL)[t]?:=λt=>getElem?_mirror_all (by omega) t
   generalize hst:setArr bL (mirror (arrOf bL) lo (lo+m) ((lo+m - lo) / 2))=oI
   have B3:TB a₀ oI:=by rw[<-hst];exact hB.setArr (mirror_perm _ _ _ _)
   have Dm:jr lo bL oI:=by
    rw[<-hst]
    refine⟨rfl,λt ht=>?_⟩
    show(mirror (arrOf bL) lo (lo+m) ((lo+m - lo) / 2))[t]?=_
    rw[em,if_neg (by omega)]
   have s3:dj (arrOf oI) lo m:=by
    rw[<-hst]
    intro i j q1 q2 q3
    show K (mirror (arrOf bL) lo (lo+m) ((lo+m - lo) / 2)) i<=K (mirror (arrOf bL) lo (lo+m) ((lo+m - lo) / 2)) j
    have w1:K (mirror (arrOf bL) lo (lo+m) ((lo+m - lo) / 2)) i=K (arrOf bL) (lo+ (lo+m) - 1 - i):=K_congr (by rw[em,if_pos (by omega)])
    have w2:K (mirror (arrOf bL) lo (lo+m) ((lo+m - lo) / 2)) j=K (arrOf bL) (lo+ (lo+m) - 1 - j):=K_congr (by rw[em,if_pos (by omega)])
    rw[w1,w2]
    exact jI _ _ (by omega) (by omega) (by omega)
   clear hst em
   refine wpS_bind (wpS_mono (wpS_forRange (I:=λx c fW=>fW=oI/\c=(none,x)/\dj (arrOf oI) lo x)
    (Q:=λc fW=>fW=oI/\∃k,c=(none,k)/\1<=k/\k<=gz/\dj (arrOf oI) lo k) ?step3 ?fin3 ⟨rfl,rfl,s3⟩) ?post3)
   case fin3=>
    rintro c fW ⟨rfl,rfl,CG⟩
    rw[show max m gz=gz by omega] at CG ⊢
    exact⟨rfl,gz,rfl,h1,aae _,CG⟩
   case step3=>
    rintro x c fW K8 S6 ⟨rfl,rfl,CG⟩
    dsimp only
    refine wpS_bind (g9 B3 h0 (by omega) (by omega) ?_)
    by_cases dC:K (arrOf fW) (lo+x)<K (arrOf fW) (lo+x - 1)
    ·simp only[dC,decide_true,if_true]
     exact wpS_pure ⟨rfl,x,rfl,by omega,by omega,CG⟩
    ·simp only[dC,decide_false,aaT,if_false]
     refine wpS_pure ⟨rfl,rfl,λi j q1 qg hj=>?_⟩
     by_cases G4:j<lo+x
     ·exact CG i j q1 qg G4
     ·have CF:j=lo+x:=by omega
      subst CF
      by_cases oU:i=lo+x
      ·subst oU;exact aaP _
      ·exact Int.le_trans (CG i (lo+x - 1) q1 (by omega) (by omega)) (Int.not_lt.mp dC)
   case post3=>
    rintro c fW ⟨rfl,k,rfl,k1,k2,CG⟩
    exact wpS_pure (h k fW B3 Dm k1 k2 CG)
noncomputable def Runs (arr:Array Keyed):Nat->List (Nat×Nat×Nat)->Nat->Prop
 | s,[],e=>s=e
 | s,(a,n,_)::r,e=>a=s/\1<=n/\dj arr s n/\Runs arr (s+n) r e
theorem hG {arr kR:Array Keyed} {lo n:Nat} (h:∀t,lo<=t->t<lo+n->kR[t]?=arr[t]?) (k:dj arr lo n):dj kR lo n:=λi j h1 h2 h3=>by
 rw[K_congr (h i h1 (by omega)),K_congr (h j (by omega) h3)]
 exact k i j h1 h2 h3
theorem Runs.le {arr:Array Keyed}:∀{P:List (Nat×Nat×Nat)} {s e:Nat},Runs arr s P e->s+P.length<=e
 | [],s,e,h=>by have:s=e:=h;simp;omega
 | (a,n,p)::r,s,e,h=>by
  have:=Runs.le h.2.2.2
  have:=h.2.1
  simp
  omega
theorem Runs.congr {arr kR:Array Keyed}:∀{P:List (Nat×Nat×Nat)} {s e:Nat},(∀t,s<=t->t<e->kR[t]?=arr[t]?)->Runs arr s P e->Runs kR s P e
 | [],s,e,_,h=>h
 | (a,n,p)::r,s,e,k,h=>by
  have:=Runs.le h.2.2.2
  exact⟨h.1,h.2.1,hG (λt h1 h2=>k t h1 (by omega)) h.2.2.1,Runs.congr (λt h1 h2=>k t (by omega) h2) h.2.2.2⟩
theorem Runs.push {arr:Array Keyed} {n:Nat} (n1:1<=n):∀{P:List (Nat×Nat×Nat)} {s e:Nat},Runs arr s P e->dj arr e n->Runs arr s (P++ [(e,n,0)]) (e+n)
 | [],s,e,h,k=>by
  have:s=e:=h
  subst this
  exact⟨rfl,n1,k,rfl⟩
 | (a,m,p)::r,s,e,h,k=>⟨h.1,h.2.1,h.2.2.1,Runs.push n1 h.2.2.2 k⟩
theorem Runs.at {arr:Array Keyed}:∀{P:List (Nat×Nat×Nat)} {s e i sa na pw sb nb Ea:Nat},Runs arr s P e->P[i]?=some (sa,na,pw)->P[i+1]?=some (sb,nb,Ea)->
  s<=sa/\sb=sa+na/\1<=na/\1<=nb/\dj arr sa na/\dj arr sb nb/\sa+na+nb<=e/\
   ∀kR,(∀t,t<sa\/sa+na+nb<=t->kR[t]?=arr[t]?)->dj kR sa (na+nb)->Runs kR s ((P.set i (sa,na+nb,pw)).eraseIdx (i+1)) e
 | [],s,e,i,sa,na,pw,sb,nb,Ea,h,e1,e2=>by simp at e1
 | (a,n,p)::r,s,e,0,sa,na,pw,sb,nb,Ea,h,e1,e2=>by
  simp at e1
  obtain⟨rfl,rfl,rfl⟩:=e1
  cases r with
  | nil=>simp at e2
  | cons q r=>
   obtain⟨b,m,p'⟩:=q
   simp at e2
   obtain⟨rfl,rfl,rfl⟩:=e2
   obtain⟨rfl,n1,s1,rfl,m1,s2,rest⟩:=h
   have:=Runs.le rest
   refine⟨aae _,rfl,n1,m1,s1,s2,by omega,λkR k sg=>?_⟩
   exact⟨rfl,by omega,sg,by rw[<-Nat.add_assoc];exact Runs.congr (λt h1 h2=>k t (.inr (by omega))) rest⟩
 | (a,n,p)::r,s,e,i+1,sa,na,pw,sb,nb,Ea,h,e1,e2=>by
  simp at e1 e2
  obtain⟨rfl,n1,s1,rest⟩:=h
  obtain⟨q1,q2,q3,q4,q5,q6,q7,q8⟩:=Runs.at rest e1 e2
  refine⟨by omega,q2,q3,q4,q5,q6,q7,λkR k sg=>?_⟩
  exact⟨rfl,n1,hG (λt h1 h2=>k t (.inl (by omega))) s1,q8 kR k sg⟩
theorem Runs.power {arr:Array Keyed} {pw:Nat}:∀{P:List (Nat×Nat×Nat)} {s e:Nat},Runs arr s P e->∀i,Runs arr s (P.modify i λx=>(x.1,x.2.1,pw)) e
 | [],s,e,h,i=>by simpa using h
 | (a,n,p)::r,s,e,h,0=>by
  rw[List.modify_zero_cons]
  exact⟨h.1,h.2.1,h.2.2.1,h.2.2.2⟩
 | (a,n,p)::r,s,e,h,i+1=>by
  rw[List.modify_succ_cons]
  exact⟨h.1,h.2.1,h.2.2.1,Runs.power h.2.2.2 i⟩
theorem iN {a₀:Array Keyed} {st:SortSt} {i e:Nat} {Q:Bool->SortSt->Prop} (h0:sR a₀) (hB:TB a₀ st) (r:Runs (arrOf st) 0 (pendingOf st).toList e) (he:e<=a₀.size) (hi:i+1< (pendingOf st).size)
  (h:∀aN,TB a₀ aN->Runs (arrOf aN) 0 (pendingOf aN).toList e->(pendingOf aN).size+1=(pendingOf st).size->(∀t,e<=t->(arrOf aN)[t]?=(arrOf st)[t]?)->Q true aN):wpS (model prog w) A E s (mergeAt' i) Q st:=by
 have l:(pendingOf st).toList.length=(pendingOf st).size:=by simp
 obtain⟨⟨sa,na,pw⟩,e1⟩:∃x,(pendingOf st).toList[i]?=some x:=⟨_,aac (by omega)⟩
 obtain⟨⟨sb,nb,Ea⟩,e2⟩:∃x,(pendingOf st).toList[i+1]?=some x:=⟨_,aac (by omega)⟩
 obtain⟨q1,q2,q3,q4,q5,q6,q7,q8⟩:=r.at e1 e2
 subst q2
 refine sT hB.kind hB.failed (hB.all h0) (by rw[<-aaU];exact e1) (by rw[<-aaU];exact e2) q3 q4 (by rw[hB.size];omega) q5 q6 λaN k f pn pm sg out=>?_
 have tl:(pendingOf aN).toList=((pendingOf st).toList.set i (sa,na+nb,pw)).eraseIdx (i+1):=by rw[pn];simp
 refine h aN ⟨pm.trans hB.perm,k,f⟩ ?_ ?_ λt ht=>out t (.inr (by omega))
 ·rw[tl]
  exact q8 _ out sg
 ·have l':(pendingOf aN).toList.length=(pendingOf aN).size:=by simp
  rw[<-l',tl,List.length_eraseIdx,aaz]
  rw[if_pos (by omega)]
  omega
theorem xn {a₀:Array Keyed} {st:SortSt} {Q:Unit->SortSt->Prop} (h0:sR a₀) (hd:G3 a₀) (hB:TB a₀ st) (hp:pendingOf st=#[]) (h2:1<=a₀.size)
  (h:∀aN,(arrOf aN).Perm a₀->failedOf aN=none->SortedTo (arrOf aN) a₀.size->Q () aN):wpS (model prog w) A E s sortRuns' Q st:=by
 rw[sortRuns'_eq]
 refine wpS_bind (wpS_get ?_)
 dsimp only
 simp only[hB.size]
 generalize minRun' a₀.size a₀.size 0=mr
 refine wpS_bind (wpS_mono (wpS_forRange
  (I:=λx c aN=>∃lo,c=(none,lo)/\TB a₀ aN/\Runs (arrOf aN) 0 (pendingOf aN).toList lo/\lo<=a₀.size/\(x<=lo\/lo=a₀.size))
  (Q:=λc aN=>c=(none,a₀.size)/\TB a₀ aN/\Runs (arrOf aN) 0 (pendingOf aN).toList a₀.size) ?step ?fin ⟨0,rfl,hB,by rw[hp];rfl,by omega,.inl (aae _)⟩) ?post)
 case fin=>
  rintro c aN ⟨lo,rfl,B,r,l1,l2⟩
  have:lo=a₀.size:=by omega
  subst this
  exact⟨rfl,B,r⟩
 case step=>
  rintro x c tZ _ hx ⟨lo,rfl,B1,r1,l1,l2⟩
  dsimp only
  by_cases c:lo≥a₀.size
  ·rw[if_pos c]
   have:lo=a₀.size:=by omega
   subst this
   exact wpS_pure ⟨rfl,B1,r1⟩
  rw[if_neg c]
  refine wpS_bind (zd h0 hd (by omega) (by omega) B1 λm bL B2 K9 m1 m2 s2=>?_)
  dsimp only
  have r2:Runs (arrOf bL) 0 (pendingOf bL).toList lo:=by
   rw[K9.1]
   exact Runs.congr (λt _ ht=>K9.2 t ht) r1
  have last:∀(n:Nat) (bL:SortSt),1<=n->lo+n<=a₀.size->TB a₀ bL->Runs (arrOf bL) 0 (pendingOf bL).toList lo->dj (arrOf bL) lo n->wpS (model prog w) A E s (do
    modify λs=>setPending s ((pendingOf s).push (lo,n,0))
    pure (ForInStep.yield ((none,lo+n):Option Unit×Nat)))
    (λr aN=>match r with
     | .done c'=>c'=(none,a₀.size)/\TB a₀ aN/\Runs (arrOf aN) 0 (pendingOf aN).toList a₀.size
     | .yield c'=>∃lo,c'=(none,lo)/\TB a₀ aN/\Runs (arrOf aN) 0 (pendingOf aN).toList lo/\lo<=a₀.size/\(x+1<=lo\/lo=a₀.size)) bL:=λn bL n1 hn B2 r2 s2=>by
   refine wpS_bind (wpS_modify (wpS_pure ⟨lo+n,rfl,⟨B2.perm,B2.kind,B2.failed⟩,?_,hn,by omega⟩))
   show Runs (arrOf bL) 0 ((pendingOf bL).push (lo,n,0)).toList (lo+n)
   rw[Array.toList_push]
   exact r2.push n1 s2
  by_cases c3:m<mr
  ·rw[if_pos c3]
   refine wpS_bind (wpS_lift (wpAny_rule ⟨rfl,?_⟩))
   refine wpS_bind (zc h0 (by omega) (by omega) B2 s2 λoI B3 Dm s3=>?_)
   rw[if_neg (by simp)]
   have r3:Runs (arrOf oI) 0 (pendingOf oI).toList lo:=by
    rw[Dm.1]
    exact Runs.congr (λt _ ht=>Dm.2 t ht) r2
   refine wpS_bind (wpS_get ?_)
   cases hb:(pendingOf oI).back? with
   | none=>exact wpS_mono (last (min (a₀.size - lo) mr) oI (by omega) (by omega) B3 r3 s3) λr aN hh=>by cases r <;>exact hh
   | some y=>
    obtain⟨s1,k1,p1⟩:=y
    dsimp only
    refine wpS_bind (wpS_mono (wpS_forRange (I:=λx c bL=>c=(none,())/\TB a₀ bL/\Runs (arrOf bL) 0 (pendingOf bL).toList lo/\dj (arrOf bL) lo (min (a₀.size - lo) mr))
     (Q:=λc bL=>c=(none,())/\TB a₀ bL/\Runs (arrOf bL) 0 (pendingOf bL).toList lo/\dj (arrOf bL) lo (min (a₀.size - lo) mr)) ?stepA ?finA ⟨rfl,B3,r3,s3⟩) ?postA)
    case finA=>exact λ_ _ hh=>hh
    case stepA=>
     rintro x' c' fW _ oH ⟨rfl,B4,r4,fY⟩
     refine wpS_bind (wpS_get ?_)
     by_cases c1:(pendingOf fW).size >1
     ·rw[if_pos c1]
      obtain⟨⟨f1,f2,ze⟩,e1⟩:∃x,(pendingOf fW)[(pendingOf fW).size - 2]?=some x:=⟨_,getElem?_pos _ _ (by omega)⟩
      rw[e1]
      dsimp only
      by_cases c2:ze<=power' a₀.size (2*s1+k1) (2*s1+k1+k1+ (min (a₀.size - lo) mr)) a₀.size
      ·rw[if_pos c2]
       exact wpS_pure ⟨rfl,B4,r4,fY⟩
      ·rw[if_neg c2]
       refine wpS_bind (iN h0 B4 r4 (by omega) (by omega) λGd B5 r5 _ out=>?_)
       rw[if_neg (by simp)]
       exact wpS_pure ⟨rfl,B5,r5,hG (λt h1 _=>out t h1) fY⟩
     ·rw[if_neg c1]
      exact wpS_pure ⟨rfl,B4,r4,fY⟩
    case postA=>
     rintro c' fW ⟨rfl,B4,r4,fY⟩
     dsimp only
     refine wpS_bind (wpS_modify ?_)
     refine wpS_mono (last (min (a₀.size - lo) mr) (setPending fW ((pendingOf fW).modify ((pendingOf fW).size - 1) λx=>(x.fst,x.2.fst,power' a₀.size (2*s1+k1) (2*s1+k1+k1+ (min (a₀.size - lo) mr)) a₀.size))) (by omega) (by omega) ⟨B4.perm,B4.kind,B4.failed⟩ ?_ fY) λr aN hh=>by cases r <;>exact hh
     show Runs (arrOf fW) 0 ((pendingOf fW).modify ((pendingOf fW).size - 1) λx=>(x.fst,x.2.fst,power' a₀.size (2*s1+k1) (2*s1+k1+k1+ (min (a₀.size - lo) mr)) a₀.size)).toList lo
     rw[Array.toList_modify]
     exact r4.power _
  ·rw[if_neg c3]
   refine wpS_bind (wpS_get ?_)
   cases hb:(pendingOf bL).back? with
   | none=>exact wpS_mono (last m bL (by omega) (by omega) B2 r2 s2) λr aN hh=>by cases r <;>exact hh
   | some y=>
    obtain⟨s1,k1,p1⟩:=y
    dsimp only
    refine wpS_bind (wpS_mono (wpS_forRange (I:=λx c bL=>c=(none,())/\TB a₀ bL/\Runs (arrOf bL) 0 (pendingOf bL).toList lo/\dj (arrOf bL) lo m)
     (Q:=λc bL=>c=(none,())/\TB a₀ bL/\Runs (arrOf bL) 0 (pendingOf bL).toList lo/\dj (arrOf bL) lo m) ?stepB ?finB ⟨rfl,B2,r2,s2⟩) ?postB)
    case finB=>exact λ_ _ hh=>hh
    case stepB=>
     rintro x' c' fW _ oH ⟨rfl,B4,r4,fY⟩
     refine wpS_bind (wpS_get ?_)
     by_cases c1:(pendingOf fW).size >1
     ·rw[if_pos c1]
      obtain⟨⟨f1,f2,ze⟩,e1⟩:∃x,(pendingOf fW)[(pendingOf fW).size - 2]?=some x:=⟨_,getElem?_pos _ _ (by omega)⟩
      rw[e1]
      dsimp only
      by_cases c2:ze<=power' a₀.size (2*s1+k1) (2*s1+k1+k1+m) a₀.size
      ·rw[if_pos c2]
       exact wpS_pure ⟨rfl,B4,r4,fY⟩
      ·rw[if_neg c2]
       refine wpS_bind (iN h0 B4 r4 (by omega) (by omega) λGd B5 r5 _ out=>?_)
       rw[if_neg (by simp)]
       exact wpS_pure ⟨rfl,B5,r5,hG (λt h1 _=>out t h1) fY⟩
     ·rw[if_neg c1]
      exact wpS_pure ⟨rfl,B4,r4,fY⟩
    case postB=>
     rintro c' fW ⟨rfl,B4,r4,fY⟩
     dsimp only
     refine wpS_bind (wpS_modify ?_)
     refine wpS_mono (last m (setPending fW ((pendingOf fW).modify ((pendingOf fW).size - 1) λx=>(x.fst,x.2.fst,power' a₀.size (2*s1+k1) (2*s1+k1+k1+m) a₀.size))) (by omega) (by omega) ⟨B4.perm,B4.kind,B4.failed⟩ ?_ fY) λr aN hh=>by cases r <;>exact hh
     show Runs (arrOf fW) 0 ((pendingOf fW).modify ((pendingOf fW).size - 1) λx=>(x.fst,x.2.fst,power' a₀.size (2*s1+k1) (2*s1+k1+k1+m) a₀.size)).toList lo
     rw[Array.toList_modify]
     exact r4.power _
 case post=>
  rintro c tZ ⟨rfl,B1,r1⟩
  dsimp only
  have l1:(pendingOf tZ).toList.length=(pendingOf tZ).size:=by simp
  have ll:=r1.le
  refine wpS_bind (wpS_mono (wpS_forRange (I:=λx c bL=>c=(none,())/\TB a₀ bL/\Runs (arrOf bL) 0 (pendingOf bL).toList a₀.size/\(pendingOf bL).size+x<=a₀.size+1)
   (Q:=λc bL=>c=(none,())/\TB a₀ bL/\Runs (arrOf bL) 0 (pendingOf bL).toList a₀.size/\(pendingOf bL).size<=1) ?step4 ?fin4 ⟨rfl,B1,r1,by omega⟩) ?post4)
  case fin4=>
   rintro c bL ⟨rfl,B2,r2,l2⟩
   exact⟨rfl,B2,r2,by omega⟩
  case step4=>
   rintro x c bL _ hx ⟨rfl,B2,r2,l2⟩
   refine wpS_bind (wpS_get ?_)
   by_cases c1:(pendingOf bL).size<=1
   ·rw[if_pos c1]
    exact wpS_pure ⟨rfl,B2,r2,c1⟩
   rw[if_neg c1]
   refine wpS_bind (iN h0 B2 r2 (aae _) ?_ λoI B3 r3 l3 _=>?_)
   ·have key:∀b:Bool,(if b=true then (pendingOf bL).size - 2 - 1 else (pendingOf bL).size - 2)+1< (pendingOf bL).size:=λb=>by cases b <;>simp <;>omega
    exact key _
   ·rw[if_neg (by simp)]
    exact wpS_pure ⟨rfl,B3,r3,by omega⟩
  case post4=>
   rintro c bL ⟨rfl,B2,r2,l2⟩
   refine wpS_pure (h _ B2.perm B2.failed ?_)
   have l3:(pendingOf bL).toList.length=(pendingOf bL).size:=by simp
   generalize (pendingOf bL).toList=P at *
   cases P with
   | nil=>
    have:0=a₀.size:=r2
    omega
   | cons p P=>
    cases P with
    | nil=>
     obtain⟨a,n,pw⟩:=p
     obtain⟨_,_,sg,e⟩:=r2
     have e:0+n=a₀.size:=e
     exact λi j h1 h2=>sg i j (by omega) h1 (by omega)
    | cons q P=>simp at l3;omega
end
end PySem.Tim
namespace PySem.Tim
open PySem PyProof.Rows
section
variable {prog : Program} {w : World} {A : Around} {E : Value -> Shared -> Prop} {s : Shared}
theorem pS:∀{vs:List Value} {ns:List Int},IntsAre vs ns->vs.map numOf=ns
 | _,_,.nil=>rfl
 | _,_,.cons n t h=>by rw[aao,pS h];rfl
theorem zf (vs:List Value):(pairsOf vs).toList.map kn=vs.map numOf:=by
 rw[pairsOf_toList]
 induction vs with
 | nil=>rfl
 | cons v r ih=>rw[List.zip_cons_cons,aao,ih,aao]
theorem xo {a:Addr} {vs:List Value} {ns:List Int} {n:Nat} {P:PySem.Fin->Shared->Prop} (ho:s.heap.get? a=some (seqObj "list" vs.toArray n)) (hI:IntsAre vs ns) (nd:ns.Nodup) (h2:2<=vs.length) (hz:vs.length<=sizeLine)
  (h:∀(out:Array Value) (AH:List Int),IntsAre out.toList AH->AH.Perm ns->AH.Pairwise (·<=·)->P (.done (.ret .none)) {s with heap:=sortedHeap s.heap a vs out}):
  wpAny (model prog w) A (Builtin.«list.sort» ⟨[.ref a],[]⟩) P E s:=by
 rw[list_sort_plain]
 have ha:a<s.heap.objs.size:=Heap.lt_size ho
 have hv:vs.toArray.size=vs.length:=by simp
 refine wpAny_bind (listItems_at ho rfl (wpAny_bind (listUpdate_at ho rfl ?_ (hsz:=by rw[hv];exact hz) (hsz2:=aar _))))
 obtain⟨e1,GQ⟩:∃e1,(s.heap.update a (Obj.mapSeq λ_=>#[])).get? a=some (seqObj "list" #[] e1):=⟨_,get?_update_seq ho (λ_=>#[])⟩
 refine wpAny_bind (seqEpoch_at GQ rfl (wpAny_bind (wpAny_newTuple (wpAny_bind (wpAny_newList (wpAny_holding ?_))) (by rw[List.toList_toArray];exact hz))))
 show wpAny (model prog w) A _ P E {s with heap:=((s.heap.update a (Obj.mapSeq λ_=>#[])).push (seqObj "tuple" vs.toArray 0)).push (seqObj "list" #[] 0)}
 generalize hh:(((s.heap.update a (Obj.mapSeq λ_=>#[])).push (seqObj "tuple" vs.toArray 0)).push (seqObj "list" #[] 0))=h6
 have D4:h6.get? a=some (seqObj "list" #[] e1):=by
  rw[<-hh,Heap.get?_push_ne _ _ _ (by rw[size_push',Heap.size_update];exact aaj (aa9 ha)),Heap.get?_push_ne _ _ _ (by rw[Heap.size_update];exact aaj ha)]
  exact GQ
 dsimp only
 rw[if_neg (by omega),if_neg (by omega)]
 obtain⟨v₁,v₂,rest,rfl⟩:∃v₁ v₂ rest,vs=v₁::v₂::rest:=by
  match vs,h2 with
  | [],h2=>simp at h2
  | [_],h2=>simp at h2
  | v₁::v₂::rest,_=>exact⟨v₁,v₂,rest,rfl⟩
 rw[keyKind_ints hI]
 refine wpAny_bind (wpAny_pure ?_)
 have ds:G3 (pairsOf (v₁::v₂::rest)):=by unfold G3;rw[zf,pS hI];exact nd
 have sr:=xn (prog:=prog) (w:=w) (A:=A) (E:=E) (s:={s with heap:=h6}) (a₀:=pairsOf (v₁::v₂::rest)) (st:=SortSt.mk' oneType' ((v₁::v₂::rest).toArray.zip (v₁::v₂::rest).toArray) #[] 7 none)
  (Q:=λ_ aN=>(arrOf aN).Perm (pairsOf (v₁::v₂::rest))/\failedOf aN=none/\SortedTo (arrOf aN) (pairsOf (v₁::v₂::rest)).size)
  hI.intKeys ds ⟨Array.Perm.refl _,rfl,rfl⟩ rfl (by rw[pairsOf_size];simp) λaN a1 a2 a3=>⟨a1,a2,a3⟩
 refine wpAny_bind (wpAny_mono sr ?_ λ_ _ e=>e)
 rintro⟨⟨⟩,aN⟩ s' ⟨rfl,hp,hf,hs⟩
 dsimp only
 obtain⟨AH,q1,q2,q3⟩:=sorted_out hI hp hs
 refine wpAny_bind (seqEpoch_at D4 rfl (wpAny_bind (listUpdate_at D4 rfl ?_ (hsz:=aar _) (hsz2:=by
  refine aas (Nat.le_of_eq ((Array.size_map ..).trans (hp.size_eq.trans (pairsOf_size _)))) ?_
  omega))))
 rw[hf]
 simp only[bne_self_eq_false,aaT,if_false]
 have fin:=h ((arrOf aN).map (·.2)) AH q1 q2 q3
 unfold sortedHeap at fin
 rw[hh] at fin
 exact wpAny_pure fin
theorem sort_all {a:Addr} {vs:List Value} {ns:List Int} {n:Nat} {P:PySem.Fin->Shared->Prop} (ho:s.heap.get? a=some (seqObj "list" vs.toArray n)) (hI:IntsAre vs ns) (nd:ns.Nodup) (hz:vs.length<=sizeLine)
  (h:∀(out:Array Value) (AH:List Int),IntsAre out.toList AH->AH.Perm ns->AH.Pairwise (·<=·)->P (.done (.ret .none)) {s with heap:=sortedHeap s.heap a vs out}):
  wpAny (model prog w) A (Builtin.«list.sort» ⟨[.ref a],[]⟩) P E s:=by
 by_cases c:vs.length<64
 ·exact list_sort_tree ho hI c h
 ·exact xo ho hI nd (by omega) hz h
end
end PySem.Tim
namespace L2
open PySem PySem.Spec PyProof.Rows PySem.W
section
variable {X : Cx} {K : PySem.W.Frag}
theorem nB (hc:X.calm=true):cv X (.builtin "sorted") (λxs H Q=>∃d kvs,xs=[.ref d]/\Rd H d (.dK kvs)/\allI kvs/\(eX kvs).Nodup/\kvs.length<=10000/\∀l,H l=none->Q (.ref l) (upd H l (.lst (List.map V.int (Nm.gA (eX kvs)))))):=by
 intro pins s σ H xs us Q I r h
 obtain⟨d,kvs,rfl,hd,wZ,VI,hn,q⟩:=h
 obtain⟨u,rfl,rx⟩:=vals1 r
 cases rx
 obtain⟨hz,lo,vs,kv,dd⟩:=pF I.bI hd
 have hlen:kvs.length=vs.length:=Paired.length kv
 obtain⟨ep,FA⟩:=dd.dictAt
 refine Calls.call_function_entry kind_sorted plain_sorted entry_sorted (args_sorted1 _) ?_
 unfold Builtin.«sorted»
 refine wpAny_bind (m:=checkCount "sorted" 1 1 _) (wpAny_pure ?_)
 refine wpAny_bind (kdu_collect (A:=X.A.in1) (kdl_dict (kvs:=vs) (ep:=ep) lo) (I.ok.hd hc) FA (by rw[<-hlen,sizeLine_eq];omega) λh' tk acc hk Bn=>?_)
 have hl:acc.toList.length=vs.length:=by rw[abk];exact Bn.1
 have hI:IntsAre acc.toList (eX kvs):=by
  have all:∀(j:Nat) v,acc.toList[j]?=some v->∃i t,v=Value.int i t/\(eX kvs)[j]?=some i:=λj v e=>by
   obtain⟨k,x,hx,hk⟩:=Bn.2 j v (by rw[<-aaU];exact e)
   obtain⟨p,e1,e2⟩:∃p,kvs[j]?=some p/\p.1=k:=by
    have:∀{as:List (Key×V)} {bs:List (Key×Value)} (j:Nat) {b},KV as bs->bs[j]?=some b->∃a,as[j]?=some a/\a.1=b.1:=by
     intro as bs j b r
     induction r generalizing j with
     | nil=>intro e;simp at e
     | cons r1 r2 ih=>
      intro e
      cases j with
      | zero=>simp at e;subst e;exact⟨_,rfl,r1.1⟩
      | succ j=>simp at e;obtain⟨a,e1,e2⟩:=ih j e;exact⟨a,by simpa using e1,e2⟩
    obtain⟨a,e1,e2⟩:=this j kv hx
    exact⟨a,e1,e2⟩
   obtain⟨i,hi⟩:=wZ p (aad e1)
   rw[<-e2,hi] at hk
   have hk:mC (.inl i) v=true:=hk
   rcases bV hk with ⟨i',t,e3,e4⟩ | ⟨x',t,e3,_⟩
   ·cases e3
    refine⟨i,t,e4,?_⟩
    unfold eX
    rw[aaf,e1]
    simp [hi]
   ·cases e3
  have go:∀(us:List Value) (ns:List Int),us.length=ns.length->(∀(j:Nat) v,us[j]?=some v->∃i t,v=Value.int i t/\ns[j]?=some i)->IntsAre us ns:=by
   intro us
   induction us with
   | nil=>intro ns hl _;cases ns with | nil=>exact .nil | cons _ _=>simp at hl
   | cons u us ih=>
    intro ns hl k
    cases ns with
    | nil=>simp at hl
    | cons n ns=>
     obtain⟨i,t,rfl,e⟩:=k 0 u rfl
     simp at e
     subst e
     exact .cons n t (ih ns (by simpa using hl) λj v e=>by
      obtain⟨i,t,e1,e2⟩:=k (j+1) v (by simpa using e)
      exact⟨i,t,e1,by simpa using e2⟩)
  refine go _ _ ?_ all
  unfold eX
  rw[aab,hl,hlen]
 refine wpAny_bind (wpAny_newList ?_ (by rw[hl,<-hlen,sizeLine_eq];omega))
 have Co:(h'.push (seqObj "list" acc.toList.toArray 0)).get? h'.objs.size=some (seqObj "list" acc.toList.toArray 0):=Heap.get?_push_size _ rfl
 have I1:Inv X pins σ H {s with heap:=h',toks:=tk}:=I.kept (t':=tk) hk
 refine wpAny_bind (wpAny_holding (wpAny_call_entry slot_list_sort ⟨_,Co,rfl⟩ entry_list_sort (PySem.Tim.sort_all Co hI VI (by rw[hl,<-hlen,sizeLine_eq];omega) λout AH a1 a2 a3=>⟨_,rfl,?_⟩) (args_list_sort _)))
 obtain rfl:=Nm.qz a2 a3
 obtain⟨e,he⟩:=sortedHeap_at (out:=out) Co
 have fr:=I1.bI.fresh (a:=h'.objs.size) (aae _)
 refine wpAny_pure ⟨_,rfl,.ref h'.objs.size,_,I1.laid (t':=tk) (λb o eb=>?_) (aae _) (o:=.lst (List.map V.int (Nm.gA (eX kvs)))) ⟨?_,out.toList,e,qA a1,?_⟩,rfl,q _ fr⟩
 ·rw[sortedHeap_old (aaj (Heap.lt_size eb)) (by rw[Heap.size_push];exact aa9 (Heap.lt_size eb))]
  exact Heap.get?_push_of_some _ eb
 ·rw[aab,Nm.mW,sizeLine_eq]
  unfold eX
  rw[aab]
  omega
 ·exact he
theorem kS (hc:X.calm=true:=by rfl):cv X (.builtin "sorted") (λxs H Q=>∃d kvs,xs=[.ref d]/\Rd H d (.dK kvs)/\allI kvs/\(eX kvs).Nodup/\kvs.length<=10000/\∀l,H l=none->Q (.ref l) (upd H l (.lst (List.map V.int (Nm.gA (eX kvs)))))):=nB hc
end
end L2
namespace L2
open PySem PySem.Spec PyProof.Rows
section
variable {X : Cx} {k k2 : Nat} {x x2 : Str} {ps VJ : List Str} {sp VL : Sp} {e e2 : Expr} {es VM : List Expr} {t t2 : TA} {p pos p2 La : Pos} {cx n : Str} {np yE yF G5 gu Lb : Pos} {b₀ : Stmt} {rY : List Stmt} {i : Nat} {ts : TS} {C2 : Addr} {c : Expr} {tc : TT}
end
end L2
namespace L2
open PySem PySem.Spec PyProof.Rows
structure pT (P:Program) (w:World) (K:PySem.W.Frag) (mg:Str->Option Value) (base:Heap) (CX:iG) (k:Nat) (x:Str) (C:Addr) (ps:List Str) (sp:Sp):Prop where
 ex:∃f fd,Mk K C f/\dU P w K mg base CX k f fd ps sp/\mg x=some (.ref C)/\Binds K fd ps []
section
variable {X : Cx}
theorem zg {CX:iG} {k:Nat} {x:Str} {C:Addr} {ps:List Str} {sp:Sp} {E:XK} {e:Expr} {es:List Expr} {t:TA} {p pos:Pos} (M:pT X.prog X.w X.K X.mg X.base CX k x C ps sp) (hr:cN (k+1) X.A) (hg:Gl X x) (hx:d4 CX X E) (ha:PA X (e::es) t)
  (yf:(x==("__debug__":Str))=false:=by decide) (he:starEach (e::es) X.env=(false,eval e X.env)::starEach es X.env:=by rfl) (hpl:(backTo pos (starEach es X.env)).any (·.1)=false:=by rfl):
  PE X (.Call (.Name x p) (e::es) [] pos) (rO C sp [] E t):=by
 obtain⟨f,fd,m,F,hm,hb⟩:=M.ex
 exact A3 m F hr hg hm hb .nil hx ha yf he hpl
end
structure Lc (K:PySem.W.Frag) (mg:Str->Option Value) (x qual:Str) (st:Stmt) (C:Addr):Prop where
 ex:∃f fd,tY K "__init__" qual st f fd/\Mk K C f/\mg x=some (.ref C)
theorem Lc.dX {P:Program} {w:World} {K:PySem.W.Frag} {mg:Str->Option Value} {base:Heap} {CX:iG} {x qual:Str} {st:Stmt} {C:Addr} {ps:List Str} {k:Nat} {sp:Sp} (D:Lc K mg x qual st C)
  (hb:∀(kV doc pm:Value) (an:Option Addr) (cn ct:Value) (us:List Value),us.length=ps.length->bindArgs (PySem.W.fnOf "__init__" qual (aF st) (aE st) (ab st) .none kV doc pm an cn ct) ⟨us,[]⟩=pure (ps.zip us))
  (h:∀f fd,tY K "__init__" qual st f fd->dU P w K mg base CX k f fd ps sp):pT P w K mg base CX k x C ps sp:=by
 obtain⟨f,fd,F,m,hm⟩:=D.ex
 exact⟨f,fd,m,h f fd F,hm,F.binds hb⟩
end L2
namespace L2
open PySem PySem.Spec PyProof.Rows
noncomputable instance FF:DecidableEq PyData:=λ_ _=>Classical.propDecidable _
mutual
noncomputable def fV:PyData->Bool
 | .int _=>true
 | .str x=>PyData.canLay0 (.str x)
 | .tuple xs=>jY xs
 | _=>false
noncomputable def jY:List PyData->Bool
 | []=>true
 | x::xs=>fV x && jY xs
end
mutual
theorem BE:∀(d:PyData),fV d=true->d.canLay0=true
 | .none,h=>by simp [fV] at h
 | .bool _,h=>by simp [fV] at h
 | .int _,_=>by simp [PyData.canLay0]
 | .str x,h=>by rw[fV] at h;exact h
 | .list _,h=>by simp [fV] at h
 | .tuple xs,h=>by rw[fV] at h;rw[PyData.canLay0];exact sV xs h
 | .dict _,h=>by simp [fV] at h
theorem sV:∀(xs:List PyData),jY xs=true->PyData.canLayAll0 xs=true
 | [],_=>by simp [PyData.canLayAll0]
 | x::xs,h=>by
  rw[jY,aaN] at h
  rw[PyData.canLayAll0,aaN]
  exact⟨BE x h.1,sV xs h.2⟩
end
mutual
theorem Ee:∀(x y:PyData),fV x=true->fV y=true->PyData.eqv x y=decide (x=y)
 | .int i,y,_,hy=>by
  cases y with
  | int j=>
   rw[PyData.eqv]
   by_cases c:i=j
   ·subst c;simp
   ·rw[decide_eq_false (λe=>c (by injection e))]
    simp [c]
  | str _=>simp [PyData.eqv]
  | tuple _=>simp [PyData.eqv]
  | _=>simp [fV] at hy
 | .str a,y,_,hy=>by
  cases y with
  | str b=>
   rw[PyData.eqv]
   by_cases c:a=b
   ·subst c;simp
   ·rw[decide_eq_false (λe=>c (by injection e))]
    simp [c]
  | int _=>simp [PyData.eqv]
  | tuple _=>simp [PyData.eqv]
  | _=>simp [fV] at hy
 | .tuple xs,y,hx,hy=>by
  cases y with
  | tuple ys=>
   rw[fV] at hx hy
   rw[PyData.eqv,vN xs ys hx hy]
   by_cases c:xs=ys
   ·subst c;simp
   ·rw[decide_eq_false c,decide_eq_false (λe=>c (by injection e))]
  | int _=>simp [PyData.eqv]
  | str _=>simp [PyData.eqv]
  | _=>simp [fV] at hy
 | .none,_,h,_=>by simp [fV] at h
 | .bool _,_,h,_=>by simp [fV] at h
 | .list _,_,h,_=>by simp [fV] at h
 | .dict _,_,h,_=>by simp [fV] at h
theorem vN:∀(xs ys:List PyData),jY xs=true->jY ys=true->PyData.eqvAll xs ys=decide (xs=ys)
 | [],[],_,_=>by simp [PyData.eqvAll]
 | [],_::_,_,_=>by simp [PyData.eqvAll]
 | _::_,[],_,_=>by simp [PyData.eqvAll]
 | x::xs,y::ys,hx,hy=>by
  rw[jY,aaN] at hx hy
  rw[PyData.eqvAll,Ee x y hx.1 hy.1,vN xs ys hx.2 hy.2]
  by_cases c:x=y
  ·subst c
   by_cases d:xs=ys
   ·subst d;simp
   ·rw[decide_eq_false d,decide_eq_false (λe=>d (List.cons.inj e).2)];simp
  ·rw[decide_eq_false c,decide_eq_false (λe=>c (List.cons.inj e).1)];simp
end
mutual
theorem uT {h h':Heap} {d:Addr} {o:Obj} {es ep} (ho:h.get? d=some o) (hd:o.data=.dict es ep) (hs:Heap.SameBut d h h'):∀(x:PyData) (v:Value) (as:List Addr),fV x=true->Reads h v x as->Reads h' v x as
 | .int _,_,_,_,r=>by cases r;exact .int _ _
 | .str _,_,_,_,r=>by cases r;exact .str _ _
 | .tuple xs,_,_,hx,r=>by
  rw[fV] at hx
  cases r with
  | @tuple a o' vs n _ _ e c q t=>
   have ne:a≠d:=λz=>by
    subst z
    rw[ho] at e
    cases e
    rw[hd] at q
    cases q
   exact .tuple ((hs.2 a ne).trans e) c q (kC ho hd hs xs _ _ hx t)
 | .none,_,_,h,_=>by simp [fV] at h
 | .bool _,_,_,h,_=>by simp [fV] at h
 | .list _,_,_,h,_=>by simp [fV] at h
 | .dict _,_,_,h,_=>by simp [fV] at h
theorem kC {h h':Heap} {d:Addr} {o:Obj} {es ep} (ho:h.get? d=some o) (hd:o.data=.dict es ep) (hs:Heap.SameBut d h h'):∀(xs:List PyData) (vs:List Value) (as:List Addr),jY xs=true->ReadsAll h vs xs as->ReadsAll h' vs xs as
 | [],_,_,_,r=>by cases r;exact .nil
 | x::xs,_,_,hx,r=>by
  rw[jY,aaN] at hx
  cases r with
  | cons r1 r2=>exact .cons (uT ho hd hs x _ _ hx.1 r1) (kC ho hd hs xs _ _ hx.2 r2)
end
mutual
noncomputable def vO (w:World):PyData->Int
 | .int i=>CZ w (.inl i)
 | .str x=>CZ w (.inr x)
 | .tuple xs=>reduceHash (Builtin.Tuple.tupleHashOf (eD w xs))
 | _=>0
noncomputable def eD (w:World):List PyData->List Int
 | []=>[]
 | x::xs=>vO w x::eD w xs
end
mutual
noncomputable def JP:PyData->Nat
 | .tuple xs=>nE xs+1
 | _=>1
noncomputable def nE:List PyData->Nat
 | []=>0
 | x::xs=>JP x+nE xs
end
section
variable {prog : Program} {w : World}
noncomputable def PH (prog:Program) (w:World) (m:Nat) (h:Heap) (d:PyData) (v:Value):Prop:=∀(A:Around) (E:Value->Shared->Prop) (s:Shared) (Q:Int->Shared->Prop),s.heap=h->A.units+m<cLine->
 Q (vO w d) {s with toks:=s.toks+JP d}->wpAny (model prog w) A (pyHash v) Q E s
inductive CH (prog:Program) (w:World) (m:Nat) (h:Heap):List PyData->List Value->Prop
 | nil:CH prog w m h [] []
 | cons {d v ds vs}:PH prog w m h d v->CH prog w m h ds vs->CH prog w m h (d::ds) (v::vs)
theorem xp (xs ys:List PyData):eD w (xs++ys)=eD w xs++eD w ys:=by
 induction xs with
 | nil=>simp [eD]
 | cons x xs ih=>simp [eD,ih]
theorem zh (xs ys:List PyData):nE (xs++ys)=nE xs+nE ys:=by
 induction xs with
 | nil=>simp [nE]
 | cons x xs ih=>simp [nE,ih,Nat.add_assoc]
theorem zi {m:Nat} {h:Heap} {ds:List PyData} {a:Addr} {o:Obj} {items n} (ho:h.get? a=some o) (hc:o.cls=.type "tuple") (hd:o.data=.seq items n) (hi:CH prog w m h ds items.toList):PH prog w (m+1) h (.tuple ds) (.ref a):=by
 intro A E s Q hh hu hq
 subst hh
 have hT:s.TypeIs (.ref a) "tuple":=⟨o,ho,hc⟩
 have VN:A.units<cLine:=by omega
 unfold pyHash
 first | unfold pyHashByItsType | skip
 first | refine wpAny_bind (wpAny_cRoomFor_or (.inr VN) ?_) | skip
 refine wpAny_bind (wpAny_specialOf hT F.slot_tuple_hash.lookup ?_)
 show wpAny _ _ (if (some (Value.builtin "tuple.__hash__")==some Value.none)=true then _ else _) Q E s
 rw[if_neg (by rw[beq_builtin_none];exact aaq)]
 refine wpAny_bind (wpAny_specialOf hT F.slot_tuple_hash.lookup ?_)
 show wpAny _ _ (callSpecialIfBoundUnlessNone? (.ref a) "__hash__" _ >>=_) Q E s
 refine wpAny_bind (wpAny_callSpecialIfBoundUnlessNone?_slot hT F.slot_tuple_hash (wpAny_call_entry F.slot_tuple_hash hT F.entry_tuple_hash ?_ (F.args_tuple_hash_1 _)))
 show wpAny _ _ (Builtin.Tuple.tupleItemsOf (.ref a) >>=_) _ _ s
 refine wpAny_bind (wpAny_tupleItemsOf ho hd ?_)
 refine wpAny_bind ?_
 rw[<-Array.forIn_toList]
 refine wpAny_forIn_list _
  (λrest (b:Array Int) s'=>∃done left,ds=done++left/\CH prog w m s.heap left rest/\b.toList=eD w done/\s'={s with toks:=s.toks+nE done})
  _ ?_ ?_ _ _ ⟨[],ds,rfl,hi,rfl,rfl⟩
 ·rintro x rest b s' ⟨done,left,rfl,hl,hb,rfl⟩
  cases hl with
  | @cons k _ JQ _ h1 vP=>
   refine wpAny_bind (h1 _ _ _ _ rfl (by show A.units+1+m<cLine;omega) ?_)
   have e1:(b.push (vO w k)).toList=eD w (done++ [k]):=by rw[xp];simp [hb,eD]
   have e2:s.toks+nE done+JP k=s.toks+nE (done++ [k]):=by rw[zh];simp [nE,Nat.add_assoc]
   first
    | exact wpAny_pure ⟨done++ [k],JQ,by simp,vP,e1,by rw[<-e2]⟩
    | exact wpAny_bind (wpAny_pure (wpAny_pure ⟨done++ [k],JQ,by simp,vP,e1,by rw[<-e2]⟩))
 ·rintro b s' ⟨done,left,rfl,hl,hb,rfl⟩
  cases hl
  rw[aaL] at hq
  show wpAny _ _ (retInt (Builtin.Tuple.tupleHashOf b.toList)) _ _ _
  rw[hb]
  refine wpAny_ret_mkInt ?_
  show wpAny _ _ (if (decide (-(2:Int)^63<=Builtin.Tuple.tupleHashOf (eD w done)) && decide (Builtin.Tuple.tupleHashOf (eD w done)<2^63))=true then _ else _) Q E _
  rw[vO,JP] at hq
  unfold reduceHash at hq
  by_cases hr:(decide (-(2:Int)^63<=Builtin.Tuple.tupleHashOf (eD w done)) && decide (Builtin.Tuple.tupleHashOf (eD w done)<2^63))=true
  ·rw[if_pos hr]
   rw[if_pos hr] at hq
   exact wpAny_pure (by simpa [Nat.add_assoc] using hq)
  ·rw[if_neg hr]
   rw[if_neg hr] at hq
   exact wpAny_bind (wpAny_rule (wpAny_pure (by simpa [Nat.add_assoc] using hq)))
mutual
theorem Ef {h:Heap}:∀(d:PyData) (v:Value) (as:List Addr),fV d=true->Reads h v d as->PH prog w d.depth h d v
 | .int i,_,_,_,r=>by
  cases r with
  | int _ t=>
   intro A E s Q _ _ hq
   exact(bQ prog w).pyHash (k:=.inl i) (kj (k:=.inl i) ⟨t,rfl⟩) hq
 | .str x,_,_,_,r=>by
  cases r with
  | str _ t=>
   intro A E s Q _ _ hq
   exact(bQ prog w).pyHash (k:=.inr x) (kj (k:=.inr x) ⟨t,rfl⟩) hq
 | .tuple xs,_,_,hx,r=>by
  rw[fV] at hx
  cases r with
  | tuple e c q t=>exact zi e c q (vQ xs _ _ hx t)
 | .none,_,_,h,_=>by simp [fV] at h
 | .bool _,_,_,h,_=>by simp [fV] at h
 | .list _,_,_,h,_=>by simp [fV] at h
 | .dict _,_,_,h,_=>by simp [fV] at h
theorem vQ {h:Heap}:∀(ds:List PyData) (vs:List Value) (as:List Addr),jY ds=true->ReadsAll h vs ds as->CH prog w (PyData.depthAll ds) h ds vs
 | [],_,_,_,r=>by cases r;exact .nil
 | x::xs,_,_,hx,r=>by
  rw[jY,aaN] at hx
  cases r with
  | cons r1 r2=>
   have p1:=Ef x _ _ hx.1 r1
   have p2:=vQ xs _ _ hx.2 r2
   have up:∀{m m':Nat} {ds:List PyData} {vs:List Value},m<=m'->CH prog w m h ds vs->CH prog w m' h ds vs:=λl q=>by
    induction q with
    | nil=>exact .nil
    | cons p _ ih=>exact .cons (λA E s Q e u=>p A E s Q e (by omega)) ih
   refine .cons (λA E s Q e u=>p1 A E s Q e ?_) (up ?_ p2)
   ·rw[PyData.depthAll] at u
    omega
   ·rw[PyData.depthAll]
    omega
end
theorem sW {h:Heap} {k:Nat} {a:Addr} {o:Obj} {items n} (ho:h.get? a=some o) (hc:o.cls=.type "tuple") (hd:o.data=.seq items n) (hi:∀v∈items.toList,∀(A:Around) (E:Value->Shared->Prop) (s:Shared) (Q:Bool->Shared->Prop),s.heap=h->Q true s->wpAny (model prog w) A (eqIsQuiet k v) Q E s)
  (A:Around) (E:Value->Shared->Prop) (s:Shared) (Q:Bool->Shared->Prop) (hh:s.heap=h) (hq:Q true s):wpAny (model prog w) A (eqIsQuiet (k+1) (.ref a)) Q E s:=by
 subst hh
 have hT:s.TypeIs (.ref a) "tuple":=⟨o,ho,hc⟩
 unfold eqIsQuiet
 refine wpAny_bind (wpAny_specialOf hT F.slot_tuple_eq.lookup ?_)
 show wpAny _ _ (isInstance (.ref a) (.type "tuple") >>=_) _ _ s
 refine wpAny_bind (wpAny_isInstance hT isSubtype_tuple_tuple ?_)
 simp only[Bool.not_true,aaT,if_false]
 refine wpAny_bind (wpAny_seqItems ho hd ?_)
 refine wpAny_bind ?_
 show wpAny _ _ (forIn items _ _) _ _ s
 rw[<-Array.forIn_toList]
 refine wpAny_forIn_list _ (λrest r s'=>r.1=none/\s'=s/\∀v∈rest,v∈items.toList) _ ?_ ?_ _ _ ⟨rfl,rfl,λ_ h=>h⟩
 ·rintro v rest r s' ⟨hr,rfl,wZ⟩
  refine wpAny_bind (hi v (wZ v aal) _ _ _ _ rfl ?_)
  simp only[Bool.not_true,aaT,if_false]
  exact wpAny_pure ⟨rfl,rfl,λu VO=>wZ u (aak _ VO)⟩
 ·rintro⟨r1,r2⟩ s' ⟨hr,rfl,_⟩
  simp only at hr
  subst hr
  exact wpAny_pure hq
mutual
theorem xq {h:Heap}:∀(d:PyData) (v:Value) (as:List Addr) (k:Nat),fV d=true->d.depth<=k->Reads h v d as->∀(A:Around) (E:Value->Shared->Prop) (s:Shared) (Q:Bool->Shared->Prop),s.heap=h->Q true s->wpAny (model prog w) A (eqIsQuiet k v) Q E s
 | .int _,_,_,_,_,_,r=>by
  cases r
  intro A E s Q _ hq
  rw[eqIsQuiet_byValue _ rfl]
  exact wpAny_pure hq
 | .str _,_,_,_,_,_,r=>by
  cases r
  intro A E s Q _ hq
  rw[eqIsQuiet_byValue _ rfl]
  exact wpAny_pure hq
 | .tuple xs,_,_,k,hx,hk,r=>by
  rw[fV] at hx
  rw[PyData.depth] at hk
  cases k with
  | zero=>omega
  | succ k=>
   cases r with
   | tuple e c q t=>exact sW e c q (nF xs _ _ k hx (by omega) t)
 | .none,_,_,_,h,_,_=>by simp [fV] at h
 | .bool _,_,_,_,h,_,_=>by simp [fV] at h
 | .list _,_,_,_,h,_,_=>by simp [fV] at h
 | .dict _,_,_,_,h,_,_=>by simp [fV] at h
theorem nF {h:Heap}:∀(ds:List PyData) (vs:List Value) (as:List Addr) (k:Nat),jY ds=true->PyData.depthAll ds<=k->ReadsAll h vs ds as->∀v∈vs,∀(A:Around) (E:Value->Shared->Prop) (s:Shared) (Q:Bool->Shared->Prop),s.heap=h->Q true s->wpAny (model prog w) A (eqIsQuiet k v) Q E s
 | [],_,_,_,_,_,r=>by
  cases r
  intro v hv
  simp at hv
 | x::xs,_,_,k,hx,hk,r=>by
  rw[jY,aaN] at hx
  rw[PyData.depthAll] at hk
  cases r with
  | cons r1 r2=>
   intro v hv
   rcases List.mem_cons.mp hv with rfl | hv
   ·exact xq x _ _ k hx.1 (by omega) r1
   ·exact nF xs _ _ k hx.2 (by omega) r2 v hv
end
end
end L2
namespace PySem.Sts
open PySem PyProof.Rows
noncomputable def Ld (xs:Array Nat):Prop:=xs.toList.Pairwise (·<·)
noncomputable def TP (L:Bool) (t:SetTable):Prop:=Ld t.place/\t.led=L
end PySem.Sts
namespace PySem.Sts
open PySem PyProof.Rows
section
variable {prog : Program} {w : World} {K : Type} [DecidableEq K] {knd : KeyKind prog w K} {A : Around} {E : Value -> Shared -> Prop} {s : Shared} {L : Bool}
end
end PySem.Sts
namespace PySem.Sts
open PySem PyProof.Rows
section
variable {prog : Program} {w : World} {A : Around} {R : Result -> Shared -> Prop} {I : Addr} {fp wr : List Addr} {G : Array GenState -> Array GenState -> Prop} {n : Nat} {P : Nat -> Value -> Prop} {St : Nat -> Shared -> Prop} {L : Bool}
end
section
variable {prog : Program} {w : World} {A : Around} {E : Value -> Shared -> Prop} {s : Shared}
end
end PySem.Sts
namespace PySem.Sts
open PySem PyProof.Rows
section
variable {prog : Program} {w : World} {A : Around} {E : Value -> Shared -> Prop} {s : Shared}
end
end PySem.Sts
namespace PySem.Sts
open PySem PyProof.Rows
section
variable {prog : Program} {w : World} {A : Around} {E : Value -> Shared -> Prop} {s : Shared}
end
section
variable {prog : Program} {w : World} {A : Around} {E : Value -> Shared -> Prop} {s : Shared}
end
end PySem.Sts
namespace PySem.Sts
open PySem PyProof.Rows
section
variable {prog : Program} {w : World} {A : Around} {E : Value -> Shared -> Prop} {s : Shared}
end
end PySem.Sts
namespace PySem.Sts
open PySem PyProof.Rows
section
variable {prog : Program} {w : World} {A : Around} {E : Value -> Shared -> Prop} {s : Shared}
end
end PySem.Sts
namespace L2
open PySem PySem.Spec PyProof.Rows PySem.W PySem.Sts
section
variable {X : Cx} {P : Program} {w : World} {K : PySem.W.Frag}
end
end L2
namespace L2
open PySem PySem.Spec PyProof.Rows
mutual
noncomputable def toP:Dat->PyData
 | .cc=>.none
 | .bl b=>.bool b
 | .int i=>.int i
 | .str x=>.str x
 | .tup l=>.tuple (toPL l)
 | .lst l=>.list (toPL l)
noncomputable def toPL:List Dat->List PyData
 | []=>[]
 | d::ds=>toP d::toPL ds
end
section
variable {P : Program} {w : World} {H : Hp} {h : Heap}
mutual
theorem nG (ok:gp P w H h):∀(d:Dat) (v:V) (u:Value),Rep H d v->RelV v u->∃as,Reads h u (toP d) as
 | .cc,v,u,r,q=>by
  rw[Rep] at r
  subst r
  cases (show u=Value.none from q)
  exact⟨_,.none⟩
 | .bl b,v,u,r,q=>by
  rw[Rep] at r
  subst r
  cases (show u=Value.bool b from q)
  exact⟨_,.bool b⟩
 | .int i,v,u,r,q=>by
  rw[Rep] at r
  subst r
  obtain⟨t,rfl⟩:=(show ∃t,u=Value.int i t from q)
  exact⟨_,.int i t⟩
 | .str x,v,u,r,q=>by
  rw[Rep] at r
  subst r
  obtain⟨t,rfl⟩:=(show ∃t,u=Value.str x t from q)
  exact⟨_,.str x t⟩
 | .tup l,v,u,r,q=>by
  rw[Rep] at r
  obtain⟨p,vs,rfl,hp,rl⟩:=r
  cases (show u=Value.ref p from q)
  obtain⟨_,aP,rv,o,h1,h2,n,h3⟩:=(show bW P w H h p (.tup vs) from ok p _ hp)
  obtain⟨as,ra⟩:=jZ ok l vs aP rl rv
  exact⟨as,.tuple h1 h2 h3 (by simpa using ra)⟩
 | .lst l,v,u,r,q=>by
  rw[Rep] at r
  obtain⟨p,vs,rfl,hp,rl⟩:=r
  cases (show u=Value.ref p from q)
  obtain⟨_,aP,n,rv,h1⟩:=(show bW P w H h p (.lst vs) from ok p _ hp)
  obtain⟨as,ra⟩:=jZ ok l vs aP rl rv
  exact⟨p::as,.list h1 rfl rfl (by simpa using ra)⟩
theorem jZ (ok:gp P w H h):∀(ds:List Dat) (vs:List V) (us:List Value),bj H ds vs->aY vs us->∃as,ReadsAll h us (toPL ds) as
 | [],vs,us,r,q=>by
  rw[bj] at r
  subst r
  cases q
  exact⟨_,.nil⟩
 | d::ds,vs,us,r,q=>by
  rw[bj] at r
  obtain⟨v,rest,rfl,r1,r2⟩:=r
  cases q with
  | cons q1 q2=>
   obtain⟨a1,h1⟩:=nG ok d v _ r1 q1
   obtain⟨a2,h2⟩:=jZ ok ds rest _ r2 q2
   exact⟨_,.cons h1 h2⟩
end
end
abbrev Rows:=List (Dat×Addr×Int)
abbrev RwN:Rows->List (PyData×Addr×Value)->Prop:=Paired λp q=>toP p.1=q.1/\p.2.1=q.2.1/\∃t,q.2.2=Value.int p.2.2 t
section
variable {P : Program} {w : World} {H : Hp} {h : Heap} {a : Addr}
end
section
variable {X : Cx} {P : Program} {w : World} {o i e value : Expr} {pos pos' gu : Pos} {td ty tv : TE}
end
end L2
namespace L2
open PySem PySem.Spec PyProof.Rows PySem.W
section
variable {X : Cx} {x : Str} {K1 : Pos}
end
section
variable {prog : Program} {w : World} {A : Around} {E : Value -> Shared -> Prop} {s : Shared}
end
section
variable {X : Cx} {K : PySem.W.Frag}
end
end L2
namespace L2
open PySem PySem.Spec PyProof.Rows PySem.W
section
variable {X : Cx}
end
end L2
namespace KS
open PySem PySem.W PyProof.Rows
section
variable {prog : Program} {w : World} {A : Around} {E : Value -> Shared -> Prop} {s : Shared}
end
end KS
namespace L2
open PySem PySem.Spec PyProof.Rows PySem.W
section
variable {X : Cx} {K : PySem.W.Frag}
noncomputable def Eg (K:PySem.W.Frag):V->List V->Hp->VK->Prop:=λx vs H Q=>∃l ns k,x=.ref l/\vs=[.int k]/\aV K H l (List.map V.int ns)/\k∈ns/\ns.length<=1000/\Q (.int (ns.idxOf k:Nat)) H
theorem xt:Fz X "list.index" (Eg X.K):=by
 intro pins s σ H x vs v us Q I rx rv h
 obtain⟨l,ns,k,rfl,rfl,hq,hk,hn,q⟩:=h
 cases rx
 obtain⟨u,rfl,ru⟩:=vals1 rv
 obtain⟨t,rfl⟩:=ru
 obtain⟨aP,r,pl,hz⟩:=I.list hq
 have A1:=intsAre_of r
 have en:=abd hk
 have lI:=A1.length
 obtain⟨⟨c1,d1,d2,sl⟩,ho,e1,m,e2⟩:=pl.isList
 cases e1
 cases e2
 have hit:=isInt_at k A1 (ns.idxOf k) (by omega) en
 refine call_meets PySem.F.slot_list_index ⟨_,ho,rfl⟩ PySem.F.entry_list_index (PySem.F.args_list_index_2 _ _) (PySem.SeqAt.list_indexAt l aP.toArray m d1 sl (.int k t) (isInt k) (ns.idxOf k) (by rw[aah];omega) (by omega) (hit.trans (by simp)) (λj hj hl=>?_)) ⟨ho,λy hy=>?_,⟨.int _,H,I.tok _,⟨_,rfl⟩,q⟩⟩
 ·rw[aah] at hj
  exact(isInt_at k A1 j hj (by omega)).trans (ne_of_lt_idxOf hl _)
 ·exact(eq_isInt k t A1 y (List.mem_toArray.mp hy)).at _ _
theorem uU (hK:X.K=K:=by rfl):Fz X "list.index" (Eg K):=by subst hK;exact xt
end
end L2
namespace L2
open PySem PySem.Spec PyProof.Rows PySem.W
section
variable {X : Cx} {K : PySem.W.Frag}
end
end L2
namespace L2
open PySem PySem.Spec PyProof.Rows PySem.W
section
variable {X : Cx} {K : PySem.W.Frag}
theorem pU {P:Program} {w:World} {H:Hp} {h:Heap} (ok:gp P w H h) {ds:List Dat} {xs:List V} {us:List Value} (r:bj H ds xs) (v:aY xs us) {i:Nat} {u:Value} (e:us[i]?=some u):∃d as,ds[i]?=some d/\Reads h u (toP d) as:=by
 have l1:=r.length
 have l2:=v.length
 have hi:=(List.getElem?_eq_some_iff.mp e).1
 have ex:xs[i]?=some (xs[i]'(by omega)):=aac (by omega)
 obtain⟨u',e1,rv⟩:=v.get ex
 rw[e] at e1
 cases e1
 obtain⟨d,ed,rd⟩:=r.get ex
 obtain⟨as,ra⟩:=nG ok d _ _ rd rv
 exact⟨d,as,ed,ra⟩
end
end L2
namespace L2
open PySem PySem.Spec PyProof.Rows
structure oV (base:Heap) (mg:Str->Option Value) (tc tp:Addr):Prop where
 blt:base.BuiltinsAt mg tp
 code:PySem.W.CodeHd base tc tp
theorem law_callT {P:Program} {tp tc:Addr} {dsc:Array Value} {w:World} {K:PySem.W.Frag} {mg mb:Str->Option Value} {CX:iG} {k:Nat} {fa a:Addr} {fd:FuncData} {x:Str} {sp:Sp} {s₁:Shared} {vs:List Value} {ns:List Int}
  (KX:K.In s₁.heap) (CB:s₁.heap.Ns mainGlobals mg) (hb:s₁.heap.Ns builtinsNs mb) (Lf:∀x:Str,x≠"__name__"->mb x=bootBuiltins x) (Eh:s₁.heap.NoLimit) (hg:s₁.gens=#[])
  (ha:s₁.heap.get? a=some {cls:=.type "list",data:=.seq vs.toArray}) (hi:IntsAre vs ns) (hl:ns.length<=sizeLine) (hr:cN k callerA)
  (nH:s₁.heap.get? tp=some (PySem.W.tabObj #[])) (S7:PySem.W.CodeHd s₁.heap tc tp) (VP:K.lookup tp=none) (FG:s₁.heap.BuiltinsAt mg tp)
  (F:∀base:Heap,K.In base->base.Ns mainGlobals mg->oV base mg tc tp->dU P w K mg base CX k fa fd [x] sp) (zj:∀(s:Shared) (u:Value),BindsTo s fd ⟨[u],[]⟩ [(x,u)])
  (AE:∀H:Hp,H tp=some (.qY dsc)->aV K H a (ns.map V.int)->sp [.ref a] H (λv _=>v=.bl true) λ_ _ _=>False)
  (Lg:∀H e s',CX [] H s₁ (λ_ _ _=>False) e s'->False):
  codeAny (model P w) callerA (.call (.ref fa) ⟨[.ref a],[]⟩) (λr s'=>r=.ok (.ret (.bool true))/\OldK s₁.heap s'.heap/\s'.os=s₁.os/\AllBare s'.gens) s₁:=by
 have rv:=pH hi
 have Lh:=hi.length
 have S8:tp≠a:=λz=>by rw[z,ha] at nH;cases nH
 have core:∀H:Hp,(∀b,b≠tp->H b=none\/∃o xs,H b=some (.qX o (.lst xs)))->H tp=some (.qY dsc)->aV K H a (ns.map V.int)->gp P w H s₁.heap->(∀b,H b≠none->b=a\/b=tp)->(H a≠none->K.lookup a=none)->
   codeAny (model P w) callerA (.call (.ref fa) ⟨[.ref a],[]⟩) (λr s'=>r=.ok (.ret (.bool true))/\OldK s₁.heap s'.heap/\s'.os=s₁.os/\AllBare s'.gens) s₁:=by
  intro H hO hT hS bI hA hK
  have qG:∀{b:Addr} {o:Obj},s₁.heap.get? b=some o->H b=none->(mF s₁.heap H).get? b=some o:=λe n=>xU e n
  have Gm:∀{b:Addr} {o:Obj} {es:Array DictEntry} {ep:Nat},s₁.heap.get? b=some o->o.data=.dict es ep->H b=none:=λ{b o es ep} e d=>by
   cases q:H b with
   | none=>rfl
   | some u=>
    rcases hA b (by rw[q];simp) with e' | e'
    ·subst e'
     rw[ha] at e;cases e
     have d':Data.seq vs.toArray _=Data.dict es ep:=d
     cases d'
    ·subst e'
     rw[nH] at e;cases e
     cases d
  have JR:∀{b:Addr} {m:Str->Option Value},s₁.heap.Ns b m->(mF s₁.heap H).Ns b m:=λ{b m} ⟨o,es,ep,e,d,r⟩=>⟨o,es,ep,qG e (Gm e d),d,r⟩
  have S9:K.In (mF s₁.heap H):=λb o e=>qG (KX b o e) (by
   cases q:H b with
   | none=>rfl
   | some u=>
    rcases hA b (by rw[q];simp) with e' | e'
    ·subst e'
     rw[hK (by rw[q];simp)] at e;cases e
    ·subst e'
     rw[VP] at e;cases e)
  have hM:Mod K mg (mF s₁.heap H):=⟨S9,JR CB,⟨mb,JR hb,Lf⟩,let ⟨mc,h1,h2⟩:=Eh;⟨mc,JR h1,h2⟩⟩
  have e0:rN P w K mg (mF s₁.heap H) callerA [] s₁ H:=⟨rfl,hM,λb o e=>AN e,Nat.le_of_eq (wD _ _),trivial,λb hb=>absurd (show b∈([]:List Addr) from hb) (by simp),bI,.of_eq hg⟩
  have VQ:oV (mF s₁.heap H) mg tc tp:=by
   have look:∀{b:Addr} {o:Obj},s₁.heap.get? b=some o->b≠tp->o.cls≠.type "list"->(mF s₁.heap H).get? b=some o:=λ{b o} e n c=>qG e (by
    cases q:H b with
    | none=>rfl
    | some u=>
     rcases hA b (by rw[q];simp) with e' | e'
     ·subst e'
      rw[ha] at e;cases e
      exact absurd rfl c
     ·exact absurd e' n)
   obtain⟨bm,o,b1,b2,b3,b4,b5,b6,b7⟩:=FG
   obtain⟨o',GK,file,tf,flags,tg,VR,text,tt,c1,c2,c3⟩:=S7
   exact⟨⟨bm,o,b1,b2,b3,b4,look b5 b4 (λz=>by rw[b6] at z;injection z with z;exact absurd z (by decide)),b6,b7⟩,⟨o',GK,file,tf,flags,tg,VR,text,tt,look c1 c3.2.2.2.2.2.2.2 (λz=>by rw[c2] at z;injection z with z;exact absurd z (by decide)),c2,c3⟩⟩
  refine codeAny_mono ((F _ S9 (JR CB) VQ).run callerA [] s₁ H ⟨[.ref a],[]⟩ [.ref a] [.ref a] _ _ hr e0 (zj s₁ (.ref a)) (.cons rfl .nil) (AE H hT hS)) λr s' h=>?_
  cases r with
  | error e=>exact(Lg H e s' h).elim
  | ok fl=>
   cases fl with
   | next=>exact False.elim h
   | brk=>exact False.elim h
   | cont=>exact False.elim h
   | ret u=>
    obtain⟨v,H',os,bare,un,G6,r',q⟩:=h
    have q':v=.bl true:=q
    subst q'
    obtain rfl:u=Value.bool true:=r'
    have fin:∀b o,b≠tp->s₁.heap.get? b=some o->s'.heap.get? b=some o:=λb o hb e=>by
     cases q:H b with
     | none=>exact un.keep b o e q (by intro z;exact absurd (show b∈([]:List Addr) from z) (by simp)) (by simp)
     | some u=>
      rcases hO b hb with z | ⟨ob,xs,z⟩
      ·rw[q] at z;cases z
      ·have z2:=un.mD b ob _ z
       obtain⟨e1,_⟩:=bI b _ z
       obtain⟨e2,_⟩:=G6 b _ z2
       rw[e] at e1;cases e1
       exact e2
    obtain⟨more,hm⟩:=un.mE tp _ hT
    obtain⟨mo,e7,_⟩:=G6 tp _ hm
    have G7:s'.heap.get? tp=some {cls:=.none,data:=.fields (#[]++mo)}:=by rw[Array.empty_append];exact e7
    refine⟨rfl,⟨λb o e=>?_,λb o e=>?_⟩,os,bare⟩
    ·by_cases hb:b=tp
     ·subst hb
      rw[nH] at e
      cases e
      exact .inr (.inl ⟨(S7.tab nH).isCodeTable,rfl,_,mo,rfl,G7⟩)
     ·exact .inl (fin b o hb e)
    ·by_cases hb:b=tp
     ·subst hb
      exact⟨_,G7⟩
     ·exact⟨o,fin b o hb e⟩
 cases hk:K.lookup a with
 | some o=>
  have e:=KX a o hk
  rw[ha] at e
  cases e
  refine core (λb=>if b=tp then some (.qY dsc) else none) (λb hb=>.inl (if_neg hb)) (if_pos rfl) (.inr ⟨_,vs.toArray,_,hk,rfl,rfl,rfl,by rw[aah,Lh];exact hl,by simpa using rv⟩) (λb u z=>?_) (λb z=>?_) λz=>absurd (if_neg (Ne.symm S8)) z
  ·by_cases hb:b=tp
   ·have z':=(if_pos hb).symm.trans z
    cases z'
    subst hb
    exact⟨#[],nH,.inl rfl⟩
   ·have z':=(if_neg hb).symm.trans z
    cases z'
  ·by_cases hb:b=tp
   ·exact .inr hb
   ·exact absurd (if_neg hb) z
 | none=>
  refine core (λb=>if b=tp then some (.qY dsc) else if b=a then some (.qX {cls:=.type "list",data:=.seq vs.toArray} (.lst (ns.map V.int))) else none) (λb hb=>?_) (if_pos rfl) (.inl (.inr ⟨{cls:=.type "list",data:=.seq vs.toArray},(if_neg (Ne.symm S8)).trans (if_pos rfl)⟩)) (λb u z=>?_) (λb z=>?_) λ_=>hk
  ·by_cases BF:b=a
   ·exact .inr ⟨_,_,(if_neg hb).trans (if_pos BF)⟩
   ·exact .inl ((if_neg hb).trans (if_neg BF))
  ·by_cases hb:b=tp
   ·have z':=(if_pos hb).symm.trans z
    cases z'
    subst hb
    exact⟨#[],nH,.inl rfl⟩
   ·by_cases BF:b=a
    ·have z':=((if_neg hb).trans (if_pos BF)).symm.trans z
     cases z'
     subst BF
     exact⟨ha,by rw[aab];exact hl,vs,_,rv,ha⟩
    ·have z':=((if_neg hb).trans (if_neg BF)).symm.trans z
     cases z'
  ·by_cases hb:b=tp
   ·exact .inr hb
   ·by_cases BF:b=a
    ·exact .inl BF
    ·exact absurd ((if_neg hb).trans (if_neg BF)) z
theorem zk {tp tc:Addr} {dsc:Array Value} {l:PySem.W.OpenLaw} {n k:Nat} {q:Program} {loose:List Str} {XP:(Str->Option Value)->Heap->Prop} {YP:World->Heap->Prop} {d:DefRec} {K:Params->PySem.W.Frag} {CX:World->iG} {sp:World->Sp} {x:Str}
  (hn:l.most=some n) (Jy:n<=sizeLine) (Gx:d.params.defaults=[]) (hr:cN k callerA)
  (hY:∀(w:World) (h:Heap),YP w h->(K w.params).In h)
  (Li:∀(w:World) (h:Heap),YP w h->h.get? tp=some (PySem.W.tabObj #[])/\PySem.W.CodeHd h tc tp/\(K w.params).lookup tp=none)
  (F:∀(w:World) (mg:Str->Option Value) (fa:Addr) (h:Heap),(K w.params).In h->h.Ns mainGlobals mg->mg d.name=some (.ref fa)->
   ∃fd:FuncData,(∀(s:Shared) (u:Value),BindsTo s fd ⟨[u],[]⟩ [(x,u)])/\
    ∀base:Heap,(K w.params).In base->base.Ns mainGlobals mg->oV base mg tc tp->dU l.prog w (K w.params) mg base (CX w) k fa fd [x] (sp w))
  (AE:∀(w:World) (H:Hp) (a:Addr) (ns:List Int),ns.length<=n->H tp=some (.qY dsc)->aV (K w.params) H a (ns.map V.int)->sp w [.ref a] H (λv _=>v=.bl true) λ_ _ _=>False)
  (Lg:∀(w:World) (H:Hp) (s:Shared) (e:Value) (s':Shared),CX w [] H s (λ_ _ _=>False) e s'->False):
  PySem.W.WalkO q loose XP YP l.row.toRowW d [] (λf vs=>PySem.call f vs):=by
 refine AF.rX hn Gx λw s₀ s₁ mg mb fa o pm cd doc a vs ns G Y ho hd rG Gy DD hints hlen hg=>?_
 have KX:=hY w _ Y
 obtain⟨fd,hb,hF⟩:=F w mg fa _ KX G.T.g Gy
 obtain⟨t1,t2,t3⟩:=Li w _ Y
 have FG:s₁.heap.BuiltinsAt mg tp:=by
  obtain⟨bm,ob,b1,b2,b3,b4,b5,b6⟩:=G.T.bmain
  refine⟨bm,ob,b1,b2,λq=>?_,λq=>?_,b3,b4,b5,b6⟩
  ·obtain⟨o,es,ep,e,hd,_⟩:=G.T.g
   rw[q,e] at b3;cases b3;rw[hd] at b6;cases b6
  ·rw[q,t1] at b3;cases b3;cases b4
 exact law_callT KX G.T.g G.T.b G.T.builtins G.T.nolimit hg DD hints (aas hlen Jy) hr t1 t2 t3 FG hF hb (λH hO hS=>AE w H a ns hlen hO hS) λH e s'=>Lg w H s₁ e s'
end L2
namespace L2
open PySem PySem.Spec PyProof.Rows
structure nI (P:Program) (w:World) (K:PySem.W.Frag) (mg:Str->Option Value) (base:Heap) (CX:iG) (k:Nat) (C:Addr) (m:Str) (ps:List Str) (sp:Sp):Prop where
 ex:∃f fd,yc K C m f/\dU P w K mg base CX k f fd ps sp/\Binds K fd ps []
section
variable {X : Cx} {CX : iG} {k : Nat} {C : Addr} {m : Str} {ps : List Str} {sp : Sp} {E : XK} {e o : Expr} {es : List Expr} {ta : TE} {t : TA} {pos apos : Pos} {pl : Sem Bool}
theorem G8 (M:nI X.prog X.w X.K X.mg X.base CX k C m ps sp) (c:wO X.K C) (he:PE X o ta) (hr:cN k X.A) (hx:d4 CX X E) (ha:PA X (e::es) t)
  (hst:starEach (e::es) X.env=(false,eval e X.env)::starEach es X.env:=by rfl) (hpl:(backTo pos (starEach es X.env)).any (·.1)=false:=by rfl)
  (ht:eval (.Call (.Attribute o m apos) (e::es) [] pos) X.env=(do
   let ov <-eval o X.env
   standAt apos.atName
   let (f,first) <-holding [ov] (getMethod ov m pl)
   callWith pos f first (backTo pos (starEach (e::es) X.env)) (backToKw pos (keywordEach [] X.env))):=by rfl):
  PE X (.Call (.Attribute o m apos) (e::es) [] pos) (ph C m sp [] E ta t):=by
 obtain⟨f,fd,hm,F,hb⟩:=M.ex
 exact A2 he c hm F hr hb .nil hx ha hst hpl ht
theorem Ei (M:nI X.prog X.w X.K X.mg X.base CX k C m ps sp) (c:wO X.K C) (he:PE X o ta) (hr:cN k X.A) (hx:d4 CX X E)
  (ht:eval (.Call (.Attribute o m apos) [] [] pos) X.env=(do
   let ov <-eval o X.env
   standAt apos.atName
   let (f,first) <-holding [ov] (getMethod ov m pl)
   callWith pos f first (backTo pos (starEach [] X.env)) (backToKw pos (keywordEach [] X.env))):=by rfl):
  PE X (.Call (.Attribute o m apos) [] [] pos) (ph C m sp [] E ta tNil):=by
 obtain⟨f,fd,hm,F,hb⟩:=M.ex
 exact yg he c hm F hr hb .nil hx ht
end
structure JS (K:PySem.W.Frag) (C:Addr) (m qual:Str) (st:Stmt):Prop where
 ex:∃f fd,tY K m qual st f fd/\yc K C m f
theorem JS.dX {P:Program} {w:World} {K:PySem.W.Frag} {mg:Str->Option Value} {base:Heap} {CX:iG} {m qual:Str} {st:Stmt} {C:Addr} {ps:List Str} {k:Nat} {sp:Sp} (D:JS K C m qual st)
  (hb:∀(kV doc pm:Value) (an:Option Addr) (cn ct:Value) (us:List Value),us.length=ps.length->bindArgs (PySem.W.fnOf m qual (aF st) (aE st) (ab st) .none kV doc pm an cn ct) ⟨us,[]⟩=pure (ps.zip us))
  (h:∀f fd,tY K m qual st f fd->dU P w K mg base CX k f fd ps sp):nI P w K mg base CX k C m ps sp:=by
 obtain⟨f,fd,F,hm⟩:=D.ex
 exact⟨f,fd,hm,h f fd F,F.binds hb⟩
end L2
namespace L2
open PySem PySem.Spec PyProof.Rows PySem.W
abbrev hJ (mp:Pos):Arguments:={posonlyargs:=[],args:=[{arg:="members",annotation:=none,pos:=mp}],vararg:=none,kwonlyargs:=[],kw_defaults:=[],kwarg:=none,defaults:=[]}
abbrev fO (p2 p3 p4 p5 p6 p7 p8:Pos):Expr:=.Call (.Name "len" p2) [.Subscript (.Name "reach" p3) (.Subscript (.Name "members" p4) (.Constant (.int 0) 0 p5) p6) p7] [] p8
abbrev cQ:Scope:={kind:=.function,names:=[(Str.ofString "members",.local),(Str.ofString "reach",.free),(Str.ofString "len",.globalImplicit)],isGenerator:=false,isCoroutine:=false,more:=[]}
section
variable {prog : Program} {w : World} {A : Around} {s : Shared}
theorem zm {mg mb:Str->Option Value} {qual:Str} {mp p2 p3 p4 p5 p6 p7 p8:Pos} {BG:List (Str×Addr)} {pm CI:Value} {f c1 cell ra b d:Addr} {rs ms:Array Value} {i:Int} {t0:Tok} {kvs:List (Key×Value)} {Q:Value->Shared->Prop} {E:Value->Shared->Prop}
  (hf:s.heap.get? f=some (kla_obj "<lambda>" qual (hJ mp) (fO p2 p3 p4 p5 p6 p7 p8) cQ BG pm c1 CI)) (rG:s.heap.CodeRec (.ref c1) qual) (G9:A.depth<recursionLimit) (Eh:s.heap.NoLimit)
  (hg:s.heap.Ns mainGlobals mg) (hlen:mg "len"=none) (hb:s.heap.Ns builtinsNs mb) (Lf:∀x:Str,x≠"__name__"->mb x=bootBuiltins x)
  (DR:BG.lookup (Str.ofString "reach")=some cell) (pf:s.heap.IsCell cell (some (.ref ra))) (JT:s.heap.IsList ra rs) (VS:s.heap.IsList b ms) (h0:ms[0]?=some (.int i t0)) (K4:0<=i) (hi:i<2^63)
  (Lj:rs[i.toNat]?=some (.ref d)) (hd:(d==sysModules)=false) (dd:s.heap.DictOf (bQ prog w) d kvs) (Dz:(kvs.length:Int)<2^63)
  (h:∀h' tk t,(∀x o,s.heap.get? x=some o->h'.get? x=some o)->Q (.int kvs.length t) {s with heap:=h',toks:=tk}):
  wpAny (model prog w) A (call (.ref f) [.ref b]) Q E s:=by
 refine wpAny_call (kla_callFunE G9 hf rfl rfl rfl rfl rG ?_)
 have zj:bindArgs (kla_fn "<lambda>" qual (hJ mp) (fO p2 p3 p4 p5 p6 p7 p8) cQ BG pm (.ref c1) CI) ⟨[.ref b],[]⟩=pure [(Str.ofString "members",.ref b)]:=rfl
 rw[zj]
 have VT:∀x∈cQ.names,x.2≠NameKind.cell:=by decide +kernel
 have KL:∀x∈[(Str.ofString "members",Value.ref b)],cQ.names.lookup x.1=some NameKind.local:=λx hx=>by rw[List.mem_singleton.mp hx];rfl
 refine wpAny_pure (wpAny_newFunctionEnv VT KL (λh₁ CB Ta=>⟨Eh.fresh _ Ta,?_⟩) rfl)
 have hk:∀x o,s.heap.get? x=some o->h₁.get? x=some o:=λx o e=>Ta.extBut x o (aaj (Heap.lt_size e)) (Heap.get?_push_of_some _ e)
 show codeAny _ _ (.expr (fO p2 p3 p4 p5 p6 p7 p8) (envX qual cQ s.heap.objs.size f (.ref c1) BG)) _ _
 refine kla_codeExpr ?_
 refine wpAny_Call_Name_kw (Calls.Name_function_global rfl rfl (Calls.loadGlobal_builtin (hg.keeps hk) hlen (hb.keeps hk) ((Lf _ (by decide)).trans (show bootBuiltins "len"=some (.builtin "len") from rfl)) ?_) (by decide))
 refine PyProof.Rows.callWith_builtin1 ?_
 refine Calls.spliced_cons (Subscript_ (wpAny_Name (wpAny_loadName_free rfl rfl DR (pf.keeps hk) ?_)))
 refine Subscript_ (wpAny_Name (wpAny_loadName_local rfl rfl CB (v:=.ref b) rfl (wpAny_Constant_int ?_)))
 obtain⟨om,m1,m2,m3⟩:=VS
 obtain⟨orr,r1,r2,r3⟩:=JT
 refine item_listR (s:={s with heap:=h₁,toks:=_}) (l:=b) (items:=ms) ⟨om,hk _ _ m1,m2,m3⟩ (by decide) (by decide) (x:=.int i t0) h0 ?_
 refine item_listR (s:={s with heap:=h₁,toks:=_}) (l:=ra) (items:=rs) ⟨orr,hk _ _ r1,r2,r3⟩ K4 hi (x:=.ref d) Lj (Calls.spliced_nil ?_)
 obtain⟨o,es,ep,e1,e2⟩:=dd
 exact call_len_dict hd (show(Shared.mk _ _ _ _ _).heap.DictOf (bQ prog w) d kvs from⟨o,es,ep,hk _ _ e1,e2⟩) Dz (h _ _ _ hk)
end
noncomputable def zo (tp:Addr) (dsc:Array Value) (i:Nat) (te:TE):TE:=λσ H Q=>te σ H λv H1=>∃(a:Addr) (bs:List Addr) (key:Addr->Int) (ra:Addr) (rs:List V),v=.ref a/\H1 a=some (.lst (List.map V.ref bs))/\bs.length<64/\σ[i]?=some (some (.ref ra))/\H1 ra=some (.lst rs)/\H1 tp=some (.qY dsc)/\
 (∀b∈bs,∃j xs d kvs,H1 b=some (.lst (.int j::xs))/\0<=j/\j<1000000/\rs[j.toNat]?=some (.ref d)/\H1 d=some (.dK kvs)/\key b=(kvs.length:Int))/\
 ∀p cs H2,aq H1 H2->H1 p=none->H2 p=some (.lst (List.map V.ref cs))->cs.Perm bs->cs.Pairwise (λb c=>key b<=key c)->Q (.ref p) H2
noncomputable def AI:Value->Addr
 | .ref a=>a
 | _=>0
theorem pV:∀{bs:List Addr} {aP:List Value},aY (bs.map V.ref) aP->aP=bs.map Value.ref
 | [],_,.nil=>rfl
 | _::bs,_,.cons r t=>by rw[pV (bs:=bs) t,show _=Value.ref _ from r];rfl
section
variable {X : Cx}
theorem zq {i k:Nat} {tc tp:Addr} {dsc:Array Value} {t0:Tok} {e:Expr} {te:TE} {p1 pos kp lp mp p2 p3 p4 p5 p6 p7 p8:Pos} (hg:Gl X "sorted") (hm:X.mg "sorted"=none) (hl:X.mg "len"=none) (hB:oV X.base X.mg tc tp)
  (CJ:X.env.code=.ref tc) (hr:cN k X.A) (Ha:dsc=#[rawInt lp.line,rawInt lp.col,.str (X.env.qual++"<lambda>") t0]) (he:PE X e te) (hN:X.N[i]?=some "reach":=by rfl) (hv:X.env.kindOf "reach"=some .cell:=by rfl) (n1:noStar e=true:=by rfl):
  PE X (.Call (.Name "sorted" p1) [e] [⟨some "key",.Lambda (hJ mp) (fO p2 p3 p4 p5 p6 p7 p8) cQ lp,kp⟩] pos) (zo tp dsc i te):=by
 intro pins s σ H Q I h
 refine wpAny_Call_Name_kw (gD I hg hm (u:=.builtin "sorted") rfl ?_ (by decide) (by decide))
 refine PyProof.Rows.callWith_kw (e:=e) (rest:=[]) ?_ (by rw[se n1];rfl) (by rw[se n1];rfl) rfl rfl
 rw[se n1]
 show wpAny _ _ (spliced [(false,eval e X.env)]) _ _ s
 refine Calls.spliced_cons (bY (he pins s σ H _ I h) λu s1 ⟨x,H1,I1,r1,q1⟩=>Calls.spliced_nil ?_)
 obtain⟨a,bs,key,ra,rs,rfl,ha,D3,eσ,JT,nH,xm,q⟩:=q1
 cases r1
 obtain⟨cell,ec⟩:=I1.ok.has "reach" (.inl hv)
 obtain⟨cl,Tb,c1,c2,c3⟩:=eK (env:=X.env) (scope:=cQ) (λn hn=>by
  have:n="reach":=by
   simp only[List.mem_cons,Prod.mk.injEq,List.not_mem_nil,or_false] at hn
   rcases hn with ⟨_,z⟩ | ⟨z,_⟩ | ⟨_,z⟩
   ·cases z
   ·exact z
   ·cases z
  rw[this]
  exact⟨cell,ec⟩)
 have DR:cl.lookup (Str.ofString "reach")=some cell:=by
  obtain⟨c,ee⟩:=c2 "reach" (.tail _ (.head _))
  have:=c1 _ _ ee
  rw[ec] at this
  cases this
  exact ee
 have mk:∀R:Value->Shared->Prop,(∀f c1 pm CI H2 s2,Inv X pins σ H2 s2->aq H1 H2->s2.heap.get? f=some (kla_obj "<lambda>" (X.env.qual++"<lambda>") (hJ mp) (fO p2 p3 p4 p5 p6 p7 p8) cQ cl pm c1 CI)->s2.heap.CodeRec (.ref c1) (X.env.qual++"<lambda>")->R (.ref f) s2)->
   wpAny (model X.prog X.w) X.A (makeFunction "<lambda>" (X.env.qual++"<lambda>") (hJ mp) (.expr (fO p2 p3 p4 p5 p6 p7 p8)) cQ X.env [] [] [] lp lp.line) R X.xe s1:=by
  intro R hR
  obtain⟨mo,e1,e2⟩:=I1.bI tp _ nH
  have Lk:=I1.mod.glob.keeps I1.bk
  have hC:=hB.code.keeps I1.bk
  have Tc:=hB.blt.keeps I1.bk
  rcases e2 with rfl | ⟨l,c,c',qn,t,f1,rfl,f3,f4⟩
  ·refine kla_makeFunction (mg:=X.mg) (c:=tc) (P:=tp) Tb I1.ok.glob Lk CJ hC e1 trivial rfl (λz=>?_) Tc λc' CI h' tk hx yJ en Ll JU=>?_
   ·obtain⟨o,es,ep,ee,hd,_⟩:=Lk
    rw[z,e1] at ee;cases ee;cases hd
   have JU:h'.get? tp=some (tabObj #[rawInt lp.line,rawInt lp.col,.ref c']):=JU
   have nc:H1 c'=none:=I1.bI.fresh yJ
   have ntc:tp≠c':=λz=>by rw[z,nc] at nH;cases nH
   have kk:∀b o,b≠tp->s1.heap.get? b=some o->(h'.push (kla_obj "<lambda>" (X.env.qual++"<lambda>") (hJ mp) (fO p2 p3 p4 p5 p6 p7 p8) cQ cl ((X.mg "__name__").getD .none) c' CI)).get? b=some o:=λb o hb ee=>Heap.get?_push_of_some _ (hx b o hb ee)
   obtain⟨Td,oc,vs,t2,g1,g2,g3,g4⟩:=Ll
   cases g1
   refine hR _ c' _ _ (upd H1 c' (.own tp)) _ (I1.un (t':=tk) ⟨λb o ee n _ _=>kk b o (λz=>by rw[z,nH] at n;cases n) ee,λb o ee n _ _=>⟨o.slots,kk b o (λz=>by rw[z,nH] at n;cases n) ee⟩,λb o ee n _=>?_,λb o ee _=>?_,λb xs ee=>?_,λb o u ee=>?_,λb ps ee=>⟨#[],?_⟩⟩ λb o ee=>?_) (λb o ee=>?_) (Heap.get?_push_size _ rfl) ⟨c',oc,vs,t2,rfl,Heap.get?_push_of_some _ g2,g3,g4⟩
   ·rw[au (aaj (aan (Heap.lt_size ee) yJ))];exact n
   ·by_cases hb:b=tp
    ·subst hb;exact⟨_,Heap.get?_push_of_some _ JU⟩
    ·exact⟨o,kk b o hb ee⟩
   ·rw[au (bh ee nc)];exact ee
   ·rw[au (bh ee nc)];exact ee
   ·rw[au (bh ee nc),ee,Array.append_empty]
   ·by_cases hb:b=c'
    ·subst hb
     rw[ah] at ee
     cases ee
     exact⟨oc,Heap.get?_push_of_some _ g2⟩
    ·rw[au hb] at ee
     by_cases Te:b=tp
     ·subst Te
      rw[nH] at ee
      cases ee
      exact⟨_,Heap.get?_push_of_some _ JU,.inr ⟨_,_,c',_,_,Ha,rfl,ah,c',oc,vs,t2,rfl,Heap.get?_push_of_some _ g2,g3,g4⟩⟩
     ·refine(I1.bI b o ee).oN (λx u oH e3=>kk x u (λz=>?_) e3) (λx e3=>by rw[au (bh e3 nc)];exact e3) λx xs e3=>by rw[au (bh e3 nc)];exact e3
      rcases oH with oH | oH
      ·exact Te (oH.symm.trans z)
      ·rw[z,nH] at oH;cases oH
   ·rw[au (bh ee nc)];exact ee
  ·rw[Ha] at f1
   have f1:=congrArg Array.toList f1
   simp only[List.cons.injEq,and_true] at f1
   obtain⟨f1,f2,f5⟩:=f1
   injection f5 with f5 _
   subst f1 f2 f5
   have ht:TriplesOk [rawInt lp.line,rawInt lp.col,Value.ref c']:=by simp [TriplesOk,rawInt]
   have hf:codeAmong lp [rawInt lp.line,rawInt lp.col,Value.ref c']=some (.ref c'):=by simp [codeAmong,rawInt]
   refine kla_makeFunctionHit (mg:=X.mg) (c:=tc) (P:=tp) Tb I1.ok.glob Lk CJ hC e1 ht hf Tc λCI h' tk hk hsz=>?_
   obtain⟨Td,oc,vs,t2,g1,g2,g3,g4⟩:=f4
   cases g1
   exact hR _ c' _ _ H1 _ (I1.kept (t':=tk) λb o ee=>Heap.get?_push_of_some _ (hk b o ee)) (aq.refl _) (Heap.get?_push_size _ rfl) ⟨c',oc,vs,t2,rfl,Heap.get?_push_of_some _ (hk _ _ g2),g3,g4⟩
 refine PyProof.Rows.kws_cons (kla_eval rfl (mk _ λf c' pm CI H2 s2 I2 sm hf rG=>PyProof.Rows.kws_nil ?_))
 show wpAny _ _ (call (.builtin "sorted") [.ref a] [(Str.ofString "key",.ref f)]) _ _ _
 obtain⟨m2,Ej,xM⟩:=I2.loc
 obtain⟨aP,n,rv,eo,hz⟩:=I2.lst (sm _ _ ha)
 have Lm:=pV rv
 subst Lm
 have pf:s2.heap.IsCell cell (some (.ref ra)):=by
  obtain⟨u,ru,lu⟩:=xM i "reach" (.ref ra) hN eσ (.inr (.inl hv))
  cases ru
  rcases lu with ⟨hk,_⟩ | ⟨_,c,e1,e2⟩
  ·rw[hv] at hk;cases hk
  ·rw[ec] at e1;cases e1;exact e2
 have nL:∀{b:Addr} {u:HO},H2 b=some u->b≠X.env.locals:=λe z=>by rw[z,I2.free] at e;cases e
 have dL:∀{b:Addr} {o:Obj},s2.heap.get? b=some o->(∀es ep,o.data≠.dict es ep)->b≠X.env.locals:=λe hd z=>by
  obtain⟨o',es,ep,e',F6,_⟩:=Ej
  rw[z,e'] at e;cases e;exact hd es ep F6
 refine ksk_sorted (h₀:=AF.qq s2.heap) (L:=X.env.locals) (m:=m2) (news:=AF.ledger s2.heap X.env.locals X.env.locals) (kz:=bs.map key) (vs:=bs.map Value.ref) (f:=.ref f) (b:=false) (AF.DE Ej)
  (λp hp=>by obtain⟨x,o⟩:=p;obtain⟨n1,_,ee⟩:=AF.fE.mp hp;exact⟨ee,n1,AF.mS _ _⟩) ⟨_,eo,rfl,_,rfl⟩ (by rw[aab,aab]) (by rw[aab];exact D3) (ksk_s1 _ _) (λx=>ksk_l1 _ _) (λx=>ksk_t1 _ _) ?turn ?done
 case turn=>
  intro j v k0 ev ek h3 tk own F3 N3
  rw[aaf] at ev ek
  obtain⟨b,eb,rfl⟩:=Option.map_eq_some_iff.mp ev
  rw[eb] at ek
  cases ek
  have kp:∀x o,x≠X.env.locals->s2.heap.get? x=some o->h3.get? x=some o:=λx o hx ee=>(N3 (x,o) (List.mem_append_left _ (AF.fE.mpr ⟨hx,hx,ee⟩))).1
  have kb:∀x o,X.base.get? x=some o->h3.get? x=some o:=λx o ee=>kp x o (λz=>by
   have l1:x<X.base.objs.size:=Heap.lt_size ee
   have l2:=I2.ok.xV
   have l3:=I2.ok.above
   rw[z] at l1
   exact absurd (aan l1 (aas l2 l3)) (aaJ _)) (I2.bk x o ee)
  obtain⟨j0,xs,d,kvs,hb,g0,g1,gd,hd,Ln⟩:=xm b (aad eb)
  obtain⟨itb,nb,VU,VW,_⟩:=I2.lst (sm _ _ hb)
  obtain⟨itr,nr,VX,VY,_⟩:=I2.lst (sm _ _ JT)
  obtain⟨mb,VZ,Lo⟩:=I2.mod.blt
  obtain⟨ui,V0,t1,rfl⟩:=VU.get (i:=0) (x:=.int j0) rfl
  obtain⟨ud,V1,V2⟩:=VX.get gd
  obtain rfl:ud=Value.ref d:=V2
  obtain⟨z1,V3,vs,rel,o,es,ep,ed,Lp⟩:=I2.bI d _ (sm _ _ hd)
  obtain⟨Td,oc,Kj,t2,w1,w2,w3,w4⟩:=rG
  cases w1
  obtain⟨oe,Tf,Tg⟩:=pf
  have sl:=sizeLine_eq
  have rl:=rel.length
  refine zm (s:={s2 with heap:=h3,toks:=tk}) (kvs:=vs) (kp _ _ (dL hf λ_ _ z=>by cases z) hf) ⟨c',oc,Kj,t2,rfl,kp _ _ (dL w2 λ_ _ z=>by rw[w3] at z;cases z) w2,w3,w4⟩ hr.depth (I2.mod.nolimit.keeps kb) (I2.mod.glob.keeps kb) hl (VZ.keeps kb) Lo DR
   ⟨oe,kp _ _ (dL Tf λ_ _ z=>by rw[Tg] at z;cases z) Tf,Tg⟩ ⟨_,kp _ _ (nL (sm _ _ JT)) VY,rfl,_,rfl⟩ ⟨_,kp _ _ (nL (sm _ _ hb)) VW,rfl,_,rfl⟩ (by simpa using V0) g0 (by omega) (by simpa using V1) V3 ⟨o,es,ep,kp _ _ (nL (sm _ _ hd)) ed,Lp⟩ (by omega) λh4 V4 t4 k4=>?_
  rw[Ln,show((kvs.length:Nat):Int)=((vs.length:Nat):Int) by rw[rl]]
  exact⟨h4,V4,t4,rfl,rfl,F3.kept k4,N3.grown k4⟩
 case done=>
  intro D h3 tk out c F3 N3 lt ko
  obtain⟨ps,hp,ho,hs⟩:=ko
  have ez:(bs.map key).zip (bs.map Value.ref)=bs.map λb=>(key b,Value.ref b):=by
   rw[List.zip_map',]
  rw[ez] at hp
  have mem:∀p∈ps,p=(key (AI p.2),Value.ref (AI p.2)):=λp rZ=>by
   obtain⟨b,_,rfl⟩:=List.mem_map.mp (hp.mem_iff.mp rZ)
   rfl
  have nd:(D:Addr)≠X.env.locals:=(N3 _ (.head _)).2.1
  have dn:s2.heap.get? D=none:=by
   cases ee:s2.heap.get? D with
   | none=>rfl
   | some o=>exact absurd (lt (D,o) (AF.fE.mpr ⟨nd,nd,ee⟩)) (aaJ _)
  have hD:H2 D=none:=by
   cases ee:H2 D with
   | none=>rfl
   | some o=>
    obtain⟨ob,e'⟩:=bW.get (I2.bI D o ee)
    rw[dn] at e';cases e'
  have kp:∀x o,x≠X.env.locals->s2.heap.get? x=some o->h3.get? x=some o:=λx o hx ee=>(N3 (x,o) (aak _ (AF.fE.mpr ⟨hx,hx,ee⟩))).1
  have Lq:out=((ps.map λp=>AI p.2).map Value.ref).toArray:=by
   have:out.toList=(ps.map λp=>AI p.2).map Value.ref:=by
    rw[ho,List.map_map]
    exact List.map_congr_left λp rZ=>congrArg Prod.snd (mem p rZ)
   rw[<-this,Array.toArray_toList]
  have pm:(ps.map λp=>AI p.2).Perm bs:=by
   have:=hp.map λp=>AI p.2
   rw[List.map_map] at this
   exact this.trans (List.Perm.of_eq (by rw[show((λp:Int×Value=>AI p.2) ∘λb=>(key b,Value.ref b))=id from rfl,List.map_id]))
  have pl:=pm.length_eq
  have Th:=(N3 _ (.head _)).1
  have sl:=sizeLine_eq
  refine⟨.ref D,upd H2 D (.lst ((ps.map λp=>AI p.2).map V.ref)),I2.step (ch:=[]) (g':=s2.gens) (d':=s2.drawn) (t':=tk) (λ_ z=>nomatch z) (λb o h1 _ _ ee _=>kp b o h1 ee) (λb o h1 _ _ ee _=>⟨o.slots,kp b o h1 ee⟩) (λb o _ ee n=>?_) (λb o _ ee=>?_) (λb xs ee=>?_) (λb o u ee=>?_) (λb qs ee=>⟨#[],?_⟩) (λm hn=>?_) (λb o ee=>?_) I2.bare,rfl,?_⟩
  ·rw[au (λz=>by rw[z,dn] at ee;cases ee)];exact n
  ·by_cases hb:b=X.env.locals
   ·obtain⟨o',_,_,e',_⟩:=F3.ns
    exact⟨o',by rw[hb];exact e'⟩
   ·exact⟨o,kp b o hb ee⟩
  ·rw[au (bh ee hD)];exact ee
  ·rw[au (bh ee hD)];exact ee
  ·rw[au (bh ee hD),ee,Array.append_empty]
  ·have e1:=hn.eq_nsMap
   have e2:=Ej.eq_nsMap
   rw[e1,<-e2]
   exact F3.ns
  ·by_cases hb:b=D
   ·subst hb
    rw[ah] at ee
    cases ee
    refine⟨by rw[aab,pl];omega,(ps.map λp=>AI p.2).map Value.ref,c,?_,by rw[Lq] at Th;exact Th⟩
    generalize (ps.map λp=>AI p.2)=cs
    induction cs with
    | nil=>exact .nil
    | cons x cs ih=>exact .cons rfl ih
   ·rw[au hb] at ee
    refine(I2.bI b o ee).oN (λx u oH e3=>kp x u (λz=>?_) e3) (λx e3=>by rw[au (bh e3 hD)];exact e3) λx xs e3=>by rw[au (bh e3 hD)];exact e3
    rcases oH with oH | oH
    ·subst oH;exact nL ee z
    ·exact nL oH z
  ·refine q D _ _ (sm.trans λb o ee=>by rw[au (bh ee hD)];exact ee) ?_ ah pm ?_
   ·cases ee:H1 D with
    | none=>rfl
    | some o=>rw[sm _ _ ee] at hD;cases hD
   ·rw[List.pairwise_map]
    refine hs.imp_of_mem λ{x y} hx hy hle=>?_
    have hle:x.1<=y.1:=hle
    rw[mem x hx,mem y hy] at hle
    exact hle
end
noncomputable def Hb (K:PySem.W.Frag) (mg:Str->Option Value) (x:Str) (tc:Addr):Prop:=∃f oc od fd xK,mg x=some (.ref f)/\K.lookup f=some ⟨oc,od,.func fd,xK⟩/\fd.code=.ref tc
section
variable {P : Program} {w : World} {K : PySem.W.Frag} {mg : Str -> Option Value} {base : Heap} {CX : iG}
theorem tY.V5 {x qual:Str} {st:Stmt} {f tc:Addr} {fd:FuncData} {N ps:List Str} {k:Nat} {sp:Sp} (F:tY K x qual st f fd) (hc:fd.code=.ref tc) (S:aH N ps (ab st)) (len:∀vs H Q E,sp vs H Q E->vs.length=ps.length)
  (rQ:∀(A:Around) (outer:List Env) (s:Shared) (H:Hp) (vs:List V) (Q:VK) (E:XK),cN k (A.deeper (envOfC qual (ab st) s.heap.objs.size f (.ref tc)))->sp vs H Q E->
   ∃t,ua (uy CX P w K mg base N qual (ab st) f (.ref tc) A outer s H E).Fx (aE st) t/\t {nx:=λ_ H'=>Q .cc H',rt:=Q} (start N vs) H):dU P w K mg base CX (k+1) f fd ps sp:=by
 obtain⟨oc,od,kV,doc,pm,an,cn,ct,xK,rfl,lk,rG⟩:=F.ex
 have hc:cn=.ref tc:=hc
 subst hc
 refine Cs lk rG S len λA outer s H vs Q E hr AE=>?_
 obtain⟨t,h,q⟩:=rQ A outer s H vs Q E hr AE
 exact⟨t,h.Fx,q⟩
theorem Dn.Lr {x:Str} {st:Stmt} {ps:List Str} {k:Nat} {sp:Sp} {tc:Addr} (D:Dn K mg x st) (L:Hb K mg x tc)
  (hb:∀(kV doc pm:Value) (an:Option Addr) (cn ct:Value) (us:List Value),us.length=ps.length->bindArgs (PySem.W.fnOf x x (aF st) (aE st) (ab st) .none kV doc pm an cn ct) ⟨us,[]⟩=pure (ps.zip us))
  (h:∀f fd,tY K x x st f fd->fd.code=.ref tc->dU P w K mg base CX k f fd ps sp):bO P w K mg base CX k x ps sp:=by
 obtain⟨f,fd,F,hm⟩:=D.ex
 obtain⟨f',oc,od,fd',xK,h1,h2,h3⟩:=L
 rw[hm] at h1
 cases h1
 obtain⟨oc',od',_,_,_,_,_,_,V6,_,lk,_⟩:=F.ex
 rw[lk] at h2
 cases h2
 exact⟨f,fd,h f fd F h3,hm,F.kp,F.binds hb⟩
end
end L2
namespace KS
open PySem PySem.W PyProof.Rows
section
variable {f : Nat -> Int} {n : Nat}
end
end KS
namespace PySem.SeqAt
open AutoSeq1 (wpAny_loadPart')
open MeetsSeq MeetsSeq2 MeetsSeq3
end PySem.SeqAt
namespace L2
open PySem PySem.Spec PyProof.Rows PySem.W
section
variable {prog : Program} {w : World} {A : Around} {E : Value -> Shared -> Prop} {s : Shared}
end
section
variable {X : Cx} {K : PySem.W.Frag}
end
end L2
namespace L2
open PySem PySem.Spec PyProof.Rows PySem.W
mutual
noncomputable def sZ:PyData->Bool
 | .none=>true
 | .int _=>true
 | .str x=>PyData.canLay0 (.str x)
 | .tuple xs=>tj xs
 | .list xs=>tj xs
 | _=>false
noncomputable def tj:List PyData->Bool
 | []=>true
 | x::xs=>sZ x && tj xs
end
mutual
theorem me:∀(d:PyData),sZ d=true->d.canLay0=true
 | .none,_=>by simp [PyData.canLay0]
 | .bool _,h=>by simp [sZ] at h
 | .int _,_=>by simp [PyData.canLay0]
 | .str x,h=>by rw[sZ] at h;exact h
 | .list xs,h=>by rw[sZ] at h;rw[PyData.canLay0];exact nJ xs h
 | .tuple xs,h=>by rw[sZ] at h;rw[PyData.canLay0];exact nJ xs h
 | .dict _,h=>by simp [sZ] at h
theorem nJ:∀(xs:List PyData),tj xs=true->PyData.canLayAll0 xs=true
 | [],_=>by simp [PyData.canLayAll0]
 | x::xs,h=>by
  rw[tj,aaN] at h
  rw[PyData.canLayAll0,aaN]
  exact⟨me x h.1,nJ xs h.2⟩
end
mutual
theorem vR:∀(x y:PyData),sZ x=true->sZ y=true->PyData.eqv x y=decide (x=y)
 | .none,y,_,hy=>by cases y <;>simp [PyData.eqv]
 | .int i,y,_,hy=>by
  cases y with
  | int j=>
   rw[PyData.eqv]
   by_cases c:i=j
   ·subst c;simp
   ·rw[decide_eq_false (λe=>c (by injection e))]
    simp [c]
  | bool _=>simp [sZ] at hy
  | _=>simp [PyData.eqv]
 | .str a,y,_,hy=>by
  cases y with
  | str b=>
   rw[PyData.eqv]
   by_cases c:a=b
   ·subst c;simp
   ·rw[decide_eq_false (λe=>c (by injection e))]
    simp [c]
  | _=>simp [PyData.eqv]
 | .tuple xs,y,hx,hy=>by
  cases y with
  | tuple ys=>
   rw[sZ] at hx hy
   rw[PyData.eqv,nK xs ys hx hy]
   by_cases c:xs=ys
   ·subst c;simp
   ·rw[decide_eq_false c,decide_eq_false (λe=>c (by injection e))]
  | _=>simp [PyData.eqv]
 | .list xs,y,hx,hy=>by
  cases y with
  | list ys=>
   rw[sZ] at hx hy
   rw[PyData.eqv,nK xs ys hx hy]
   by_cases c:xs=ys
   ·subst c;simp
   ·rw[decide_eq_false c,decide_eq_false (λe=>c (by injection e))]
  | _=>simp [PyData.eqv]
 | .bool _,_,h,_=>by simp [sZ] at h
 | .dict _,_,h,_=>by simp [sZ] at h
theorem nK:∀(xs ys:List PyData),tj xs=true->tj ys=true->PyData.eqvAll xs ys=decide (xs=ys)
 | [],[],_,_=>by simp [PyData.eqvAll]
 | [],_::_,_,_=>by simp [PyData.eqvAll]
 | _::_,[],_,_=>by simp [PyData.eqvAll]
 | x::xs,y::ys,hx,hy=>by
  rw[tj,aaN] at hx hy
  rw[PyData.eqvAll,vR x y hx.1 hy.1,nK xs ys hx.2 hy.2]
  by_cases c:x=y
  ·subst c
   by_cases d:xs=ys
   ·subst d;simp
   ·rw[decide_eq_false d,decide_eq_false (λe=>d (List.cons.inj e).2)];simp
  ·rw[decide_eq_false c,decide_eq_false (λe=>c (List.cons.inj e).1)];simp
end
section
variable {X : Cx} {K : PySem.W.Frag}
noncomputable def Ke (d:Dat):Prop:=sZ (toP d)=true/\(toP d).depth<=8
theorem Ek {A:Around} {s:Shared} {a b:PyData} {u v:Value} {as bs:List Addr} (ra:Reads s.heap u a as) (rb:Reads s.heap v b bs) (ha:sZ a=true) (hb:sZ b=true) (da:a.depth<=8) (db:b.depth<=8) (hu:A.units+8<cLine):SeqAt.EqAt A s u v (decide (a=b)):=λprog w E Q h=>
 SeqAt.eqBoolOverData _ _ _ _ _ _ _ _ _ _ _ _ ra rb (me _ ha) (me _ hb) (by omega) (by rw[vR _ _ ha hb];exact h)
theorem zr {s:Shared} {ds:List Dat} {d:Dat} (j4:∀e∈ds,Ke e) {u:Value} {e:Dat} {bs:List Addr} [Decidable (∃cs,Reads s.heap u (toP d) cs)] (he:e∈ds) (re:Reads s.heap u (toP e) bs):decide (∃cs,Reads s.heap u (toP d) cs)=decide (toP e=toP d):=by
 by_cases c:toP e=toP d
 ·rw[decide_eq_true c,decide_eq_true ⟨bs,by rw[<-c];exact re⟩]
 ·rw[decide_eq_false c,decide_eq_false]
  rintro⟨cs,rc⟩
  exact c (SeqAt.Reads.unique _ _ _ _ _ (me _ (j4 e he).1) re rc)
noncomputable def Ls:V->List V->Hp->VK->Prop:=λx vs H Q=>∃l xs ds v d i,x=.ref l/\vs=[v]/\H l=some (.lst xs)/\bj H ds xs/\(∀e∈ds,Ke e)/\Rep H d v/\Ke d/\(ds.map toP)[i]?=some (toP d)/\(∀j,j<i->(ds.map toP)[j]?≠some (toP d))/\i<100000/\Q (.int (i:Nat)) H
theorem xu (hu:X.A.units+64<cLine):Fz X "list.index" Ls:=by
 classical
 intro pins s σ H x vs v us Q I rx rv h
 obtain⟨l,xs,ds,y,d,i,rfl,rfl,hp,rd,j4,V7,hd,hi,V8,i6,q⟩:=h
 cases rx
 obtain⟨u,rfl,ru⟩:=vals1 rv
 obtain⟨aP,r,pl,hz⟩:=I.list (aV.of hp)
 obtain⟨as,ra⟩:=nG I.bI d y u V7 ru
 have l1:=rd.length
 have l2:=r.length
 have at_:∀(j:Nat) (hj:j<aP.length),∃e bs,ds[j]?=some e/\e∈ds/\Reads s.heap aP[j] (toP e) bs:=λj hj=>by
  obtain⟨e,bs,ed,re⟩:=pU I.bI rd r (aac hj)
  exact⟨e,bs,ed,aad ed,re⟩
 have V9:i<aP.length:=by
  have:=(List.getElem?_eq_some_iff.mp hi).1
  rw[aab] at this
  omega
 obtain⟨⟨c1,d1,d2,sl⟩,ho,e1,m,e2⟩:=pl.isList
 cases e1
 cases e2
 have hit:decide (∃cs,Reads s.heap aP[i] (toP d) cs)=true:=by
  obtain⟨e,bs,ed,he,re⟩:=at_ i V9
  rw[zr j4 he re]
  rw[aaf,ed] at hi
  exact decide_eq_true (aax hi)
 refine call_meets PySem.F.slot_list_index ⟨_,ho,rfl⟩ PySem.F.entry_list_index (PySem.F.args_list_index_2 _ _) (PySem.SeqAt.list_indexAt l aP.toArray m d1 sl u (λu=>decide (∃cs,Reads s.heap u (toP d) cs)) i (by rw[aah];omega) (by omega) hit (λj hj hl=>?_)) ⟨ho,λy hy=>?_,⟨.int _,H,I.tok _,⟨_,rfl⟩,q⟩⟩
 ·rw[aah] at hj
  obtain⟨e,bs,ed,he,re⟩:=at_ j hj
  show decide (∃cs,Reads s.heap aP[j] (toP d) cs)=false
  rw[zr j4 he re]
  refine decide_eq_false λz=>V8 j hl ?_
  rw[aaf,ed]
  exact congrArg some z
 ·obtain⟨j,ej⟩:=aam (List.mem_toArray.mp hy)
  obtain⟨e,bs,ed,re⟩:=pU I.bI rd r ej
  have he:=aad ed
  show SeqAt.EqAt _ _ _ _ (decide _)
  rw[zr j4 he re]
  exact Ek re ra (j4 e he).1 hd.1 (j4 e he).2 hd.2 (by show X.A.units+1+8<cLine;omega)
end
end L2
namespace L2
open PySem PySem.Spec PyProof.Rows PySem.W
section
variable {X : Cx} {pins : List (Addr × Obj)} {σ : St} {H H' : Hp} {s s' : Shared}
end
section
variable {X : Cx} {k : Nat} {x : Str} {ps : List Str} {sp : Sp} {e : Expr} {es : List Expr} {t : TA} {p pos : Pos}
variable {cx : Str} {np yE yF gu : Pos} {b₀ : Stmt} {rY : List Stmt} {ts : TS} {C2 : Addr}
end
end L2
namespace L2
open PySem PySem.Spec PyProof.Rows PySem.W
section
variable {X : Cx} {CX : iG} {k : Nat} {C : Addr} {m : Str} {ps : List Str} {sp : Sp} {E : XK} {e o : Expr} {es : List Expr} {ta : TE} {t : TA} {pos apos : Pos} {pl : Sem Bool}
end
section
variable {X : Cx} {k k2 : Nat} {C C' : Addr} {m m2 : Str} {ps VJ : List Str} {sp VL : Sp} {e e2 o o2 : Expr} {es VM : List Expr} {ta ta2 : TE} {t t2 : TA} {pos apos La Ti : Pos} {pl JB : Sem Bool} {cx n : Str} {np yE yF G5 gu Lb : Pos} {b₀ : Stmt} {rY : List Stmt} {i : Nat} {ts : TS} {C2 : Addr} {c : Expr} {tc : TT}
end
end L2
namespace PySem.Dfl
open PySem PyProof.Rows
section
variable {prog : Program} {w : World} {A : Around} {E : Value -> Shared -> Prop} {s : Shared}
end
section
variable {prog : Program} {w : World} {K : Type} [DecidableEq K] {knd : KeyKind prog w K} {A : Around} {R : Result -> Shared -> Prop} {I : Addr} {fp wr : List Addr} {G : Array GenState -> Array GenState -> Prop} {n : Nat} {P : Nat -> Value -> Prop} {St : Nat -> Shared -> Prop}
end
end PySem.Dfl
namespace PySem.Dfl
open PySem PyProof.Rows
section
variable {prog : Program} {w : World} {K : Type} [DecidableEq K] {knd : KeyKind prog w K} {A : Around} {E : Value -> Shared -> Prop} {s : Shared}
end
end PySem.Dfl
namespace L2
open PySem PyProof.Rows
section
variable {X : Cx} {P : Program} {w : World} {K : PySem.W.Frag}
end
end L2
namespace L2
open PySem PyProof.Rows
section
variable {X : Cx}
end
end L2
namespace L2
open PySem PyProof.Rows
structure DnA (K:PySem.W.Frag) (mg:Str->Option Value) (g x:Str) (st:Stmt):Prop where
 ex:∃f fd,tY K x x st f fd/\mg g=some (.ref f)
end L2
namespace L2
open PySem PyProof.Rows
end L2
namespace L2
open PySem PySem.Spec PyProof.Rows PySem.W
section
variable {X : Cx}
end
end L2
namespace L2
open PySem PySem.Spec PyProof.Rows PySem.W
section
variable {X : Cx} {k : Nat} {x : Str} {ps : List Str} {sp : Sp} {e : Expr} {es : List Expr} {t : TA} {p pos : Pos}
variable {cx n : Str} {np yE yF gu : Pos} {b₀ : Stmt} {rY : List Stmt} {i : Nat} {ts : TS} {C2 : Addr}
end
end L2
namespace PySem.Dzp
open PySem PyProof.Rows
section
variable {prog : Program} {w : World} {A : Around} {E : Value -> Shared -> Prop} {s : Shared}
abbrev Lu (h:Heap) (z TI TO:Addr) (f0:Value) (f:Bool):Prop:=
 h.get? z=some {cls:=.type "zip",dict:=none,data:=.fields #[f0,.bool f,.bool false,.ref TI,.ref TO],slots:=#[]}
structure ZS (z TI TO i1 i2 l1 l2 D:Addr) (xs ys:Array Value) (i:Nat) (h:Heap):Prop where
 zp:IsZip h z TI TO .none\/∃(a:Addr) (oa:Obj) (f:Bool),Lu h z TI TO (rawInt a) f/\h.get? a=some oa/\a≠z/\a≠TO/\a≠i1/\a≠i2/\a≠D
 ti:IsPair h TI (.ref i1) (.ref i2)
 to:∃a b,IsPair h TO a b
 j1:h.IsListIter i1 l1 i
 j2:h.IsListIter i2 l2 i
 q1:h.IsList l1 xs
 q2:h.IsList l2 ys
end
section
variable {prog : Program} {w : World} {K : Type} [DecidableEq K] {knd : KeyKind prog w K} {A : Around} {E : Value -> Shared -> Prop} {R : Result -> Shared -> Prop}
end
end PySem.Dzp
namespace L2
open PySem PyProof.Rows
section
variable {X : Cx} {P : Program} {w : World} {K : PySem.W.Frag}
end
end L2
namespace L2
open PySem PySem.Spec PyProof.Rows PySem.W
section
variable {X : Cx} {pins : List (Addr × Obj)} {σ : St} {H H' : Hp} {s s' : Shared}
end
section
variable {X : Cx} {k : Nat} {x : Str} {ps : List Str} {sp : Sp} {e : Expr} {es : List Expr} {t : TA} {p pos : Pos}
variable {cx cy : Str} {np yE Wa Tj yF gu : Pos} {b₀ b₁ : Stmt} {rY Lx : List Stmt} {ts ts2 : TS} {C1 C2 : Addr}
end
end L2
namespace L2
open PySem PySem.Spec PyProof.Rows
section
variable {X : Cx}
theorem zt:F9 X rIxLH:=by
 intro pins s σ H x y v u Q I rx ry h
 obtain⟨p,xs,i,z,rfl,rfl,hq,he,q⟩:=h
 cases rx
 obtain⟨t,rfl⟩:=ry
 obtain⟨aP,r,pl,hz⟩:=I.list (aV.of hq)
 obtain⟨j,h1,h2,h3,h4,h5⟩:=ql he
 obtain⟨w,ew,qh⟩:=r.get h2
 have hl:=r.length
 have hn:=mL
 have fin:EP X pins σ Q w s:=⟨z,H,I,qh,q⟩
 by_cases h0:0<=i
 ·have hj:i.toNat=j:=by
   rw[seqIndex_of h0 h5] at h1
   exact aax h1
  exact wpAny_getItem_list pl.isList h0 (by omega) (by rw[hj];simpa using ew) fin
 ·have hj:(i+ (aP.toArray.size:Int)).toNat=j:=by
   rw[seqIndex_neg (by omega) h4] at h1
   rw[aah,<-hl]
   exact aax h1
  exact wpAny_getItem_list_neg pl.isList (by omega) (by rw[aah] <;>omega) (by omega) (by rw[hj];simpa using ew) fin
theorem vS {K:PySem.W.Frag} {e:Expr} {f:Str} {pos:Pos} {ta:TE} (he:PE X e ta) (hb:attributeBase e f X.env (eval e X.env)=eval e X.env) (hK:X.K=K:=by rfl):PE X (.Attribute e f pos) (jQ K ta f):=by subst hK;exact dI he hb
end
end L2
namespace Wq
abbrev Sh:=Int×Int
noncomputable def Lw (x:Sh):Prop:=0<x.2/\Nm.g x.1 x.2=1
noncomputable def sc (L:Int) (x:Sh):Int:=x.1* (L / x.2)
theorem j5 {L:Int} {x:Sh} (h:x.2∣L):sc L x*x.2=x.1*L:=by
 unfold sc
 rw[aaV,Int.ediv_mul_cancel h]
theorem zu {L s:Int} {x:Sh} (h:Lw x) (L0:0<L) (e:x.1*L=s*x.2):x.2∣L/\sc L x=s:=by
 have c:Int.gcd x.1 x.2=1:=by have:=h.2;unfold Nm.g at this;omega
 have d:x.2∣L:=Nm.lV (q:=x.2) (a:=x.1) ⟨s,by rw[e,aaS]⟩ c
 refine⟨d,?_⟩
 have:=j5 d
 rw[e] at this
 exact Int.eq_of_mul_eq_mul_right (by have:=h.1;omega) this
noncomputable def low (a b:Int):Sh:=(Nm.st a b,Nm.sb a b)
theorem dJ {a b:Int} (h:0<b):Lw (low a b):=⟨Nm.DK (by omega),Nm.DL (by omega)⟩
theorem uV {a b L s:Int} (h:0<b) (L0:0<L) (e:a*L=s*b):(low a b).2∣L/\sc L (low a b)=s:=by
 refine zu (dJ h) L0 ?_
 have c:=Nm.mU a b
 show Nm.st a b*L=s*Nm.sb a b
 refine Int.eq_of_mul_eq_mul_right (show b≠0 by omega) ?_
 calc Nm.st a b*L*b=(Nm.st a b*b)*L:=Int.mul_right_comm ..
  _=a*Nm.sb a b*L:=by rw[c]
  _=(a*L)*Nm.sb a b:=Int.mul_right_comm ..
  _=s*b*Nm.sb a b:=by rw[e]
  _=s*Nm.sb a b*b:=Int.mul_right_comm ..
noncomputable def pl (x y:Sh):Sh:=low (x.1*y.2+y.1*x.2) (x.2*y.2)
noncomputable def tm (x y:Sh):Sh:=low (x.1*y.1) (x.2*y.2)
theorem Hc {L:Int} {x y:Sh} (hx:0<x.2) (hy:0<y.2) (L0:0<L) (dx:x.2∣L) (dy:y.2∣L):Lw (pl x y)/\(pl x y).2∣L/\sc L (pl x y)=sc L x+sc L y:=by
 have e1:=j5 dx
 have e2:=j5 dy
 refine⟨dJ (aaC hx hy),uV (aaC hx hy) L0 ?_⟩
 calc (x.1*y.2+y.1*x.2)*L=(x.1*L)*y.2+ (y.1*L)*x.2:=by rw[Int.add_mul,Int.mul_right_comm,Int.mul_right_comm y.1]
  _=sc L x*x.2*y.2+sc L y*y.2*x.2:=by rw[e1,e2]
  _=(sc L x+sc L y)* (x.2*y.2):=by rw[Int.add_mul,aaV,aaV,aaS y.2 x.2]
theorem CK {L W w:Int} {y:Sh} (hy:0<y.2) (L0:0<L) (W0:0<W) (dy:y.2∣L):Lw (tm (low w W) y)/\(tm (low w W) y).2∣L*W/\sc (L*W) (tm (low w W) y)=w*sc L y:=by
 have lw:=dJ (a:=w) W0
 have e2:=j5 dy
 have c:Nm.st w W*W=w*Nm.sb w W:=Nm.mU w W
 refine⟨dJ (aaC lw.1 hy),uV (aaC lw.1 hy) (aaC L0 W0) ?_⟩
 show Nm.st w W*y.1* (L*W)=w*sc L y* (Nm.sb w W*y.2)
 have r:∀a b c d:Int,a*b* (c*d)=(a*d)* (b*c):=by
  intro a b c d
  rw[aaS c d,aaV a b,<-aaV b d,aaS b d,aaV d b,<-aaV a d]
 calc Nm.st w W*y.1* (L*W)=(Nm.st w W*W)* (y.1*L):=r ..
  _=(w*Nm.sb w W)* (sc L y*y.2):=by rw[c,e2]
  _=w*sc L y* (Nm.sb w W*y.2):=by rw[aaS (sc L y) y.2,r w (Nm.sb w W) y.2 (sc L y)]
noncomputable def kT (W:Int) (v:Int->Sh):Sh->List (Int×Int)->Sh
 | a,[]=>a
 | a,p::ws=>kT W v (pl a (tm (low p.1 W) (v p.2))) ws
end Wq
namespace Wq
open L2
noncomputable def bX (ws:List Sh) (i:Int):Sh:=ws.getD i.toNat (0,1)
noncomputable def iO (Ly:List (Int×Int)):Int:=(Ly.map (·.1)).sum
end Wq
namespace Wq
open L2
noncomputable def tq (c b:Int):Int:=c / Nm.g c b*b
noncomputable def eN:Int->List Sh->Int
 | c,[]=>c
 | c,x::xs=>eN (tq c x.2) xs
theorem BH {c b:Int} (hc:0<c) (hb:0<b):0<tq c b/\c∣tq c b/\b∣tq c b/\∀{Z:Int},c∣Z->b∣Z->tq c b∣Z:=by
 have g0:=Nm.mT (a:=c) (b:=b) (by omega)
 have gl:=Nm.jf c b
 have gr:=Nm.eB c b
 obtain⟨u,hu⟩:=gl
 obtain⟨v,hv⟩:=gr
 have e1:c / Nm.g c b=u:=by
  calc c / Nm.g c b=Nm.g c b*u / Nm.g c b:=by rw[<-hu]
   _=u:=Int.mul_ediv_cancel_left _ (by omega)
 have u0:0<u:=by rw[<-e1];exact Int.ediv_pos_of_pos_of_dvd hc (Nm.DI c b) ⟨u,hu⟩
 unfold tq
 rw[e1]
 refine⟨aaC u0 hb,⟨v,?_⟩,Int.dvd_mul_left ..,λ{Z} h1 h2=>?_⟩
 ·calc u*b=u* (Nm.g c b*v):=by rw[<-hv]
   _=(Nm.g c b*u)*v:=by rw[<-aaV,aaS u]
   _=c*v:=by rw[<-hu]
 ·obtain⟨z,hz⟩:=h2
  have cp:Int.gcd v u=1:=by
   have h:=Int.gcd_ediv_gcd_ediv_gcd (i:=c) (j:=b) (by unfold Nm.g at g0;omega)
   have e2:b / Nm.g c b=v:=by
    calc b / Nm.g c b=Nm.g c b*v / Nm.g c b:=by rw[<-hv]
     _=v:=Int.mul_ediv_cancel_left _ (by omega)
   have h':Int.gcd (c / Nm.g c b) (b / Nm.g c b)=1:=h
   rw[e1,e2,Int.gcd_comm] at h'
   exact h'
  obtain⟨k,hk⟩:=h1
  have m:u*k=v*z:=by
   refine Int.eq_of_mul_eq_mul_left (show Nm.g c b≠0 by omega) ?_
   calc Nm.g c b* (u*k)=(Nm.g c b*u)*k:=(aaV ..).symm
    _=c*k:=by rw[<-hu]
    _=Z:=hk.symm
    _=b*z:=hz
    _=(Nm.g c b*v)*z:=by rw[<-hv]
    _=_:=aaV ..
  obtain⟨j,hj⟩:=Nm.lV (q:=u) (a:=v) (b:=z) ⟨k,m.symm⟩ cp
  exact⟨j,by rw[hz,hj,<-aaV,aaS b u]⟩
theorem mf:∀{xs:List Sh} {c:Int},0<c->(∀x∈xs,0<x.2)->0<eN c xs/\c∣eN c xs/\(∀x∈xs,x.2∣eN c xs)/\∀{Z:Int},c∣Z->(∀x∈xs,x.2∣Z)->eN c xs∣Z
 | [],c,hc,_=>⟨hc,Int.dvd_refl c,by simp,λh _=>h⟩
 | x::xs,c,hc,h=>by
  obtain⟨a1,a2,a3,a4⟩:=BH hc (h x (aal ..))
  obtain⟨b1,b2,b3,b4⟩:=mf (xs:=xs) a1 λy hy=>h y (aak _ hy)
  refine⟨b1,Int.dvd_trans a2 b2,λy hy=>?_,λ{Z} h1 h2=>b4 (a4 h1 (h2 x (aal ..))) λy hy=>h2 y (aak _ hy)⟩
  rcases List.mem_cons.mp hy with rfl | hy
  ·exact Int.dvd_trans a3 b2
  ·exact b3 y hy
noncomputable def Vb (M:Int) (x:Sh):Prop:= -(M*x.2)<=x.1/\x.1<=M*x.2
theorem tu {L M:Int} {x:Sh} (hx:0<x.2) (L0:0<L) (d:x.2∣L):Vb M x↔-(M*L)<=sc L x/\sc L x<=M*L:=by
 have e:=j5 d
 have k:M*L*x.2=M*x.2*L:=Int.mul_right_comm ..
 have i1:∀p q:Int,p<=q↔p*L<=q*L:=λp q=>⟨λh=>abq h (by omega),λh=>Int.le_of_mul_le_mul_right h L0⟩
 have i2:∀p q:Int,p<=q↔p*x.2<=q*x.2:=λp q=>⟨λh=>abq h (by omega),λh=>Int.le_of_mul_le_mul_right h hx⟩
 unfold Vb
 rw[i1 (-(M*x.2)),i1 x.1,i2 (-(M*L)),i2 (sc L x),e,Int.neg_mul,Int.neg_mul,k]
end Wq
namespace Wq
theorem pW:∀{xs:List Sh} {c:Int} {x:Sh},eN c (xs++ [x])=tq (eN c xs) x.2
 | [],_,_=>rfl
 | y::xs,c,x=>pW (xs:=xs) (c:=tq c y.2) (x:=x)
noncomputable def cA:L2.Pl->Sh
 | .fin g=>g
 | .dO g _=>g
 | .cu _ _=>(0,1)
end Wq
namespace Wq
end Wq
namespace Wq
end Wq
namespace Wq
theorem pX {W:Int} {v:Int->Sh}:∀{ws:List (Int×Int)} {a:Sh} {p:Int×Int},kT W v a (ws++ [p])=pl (kT W v a ws) (tm (low p.1 W) (v p.2))
 | [],_,_=>rfl
 | q::ws,a,p=>pX (ws:=ws) (a:=pl a (tm (low q.1 W) (v q.2))) (p:=p)
end Wq
namespace Wq
end Wq
namespace K47
open PySem PySem.Spec PyProof.Rows L2
set_option maxHeartbeats 4000000
local macro_rules | `(tactic| simp_all only [$ls,*]) => `(tactic| simp only [L2.start, Pr, tRev, tLR, tMaxD, tSortR, tD1, tDPop1, tSl, tNoPart, tPart, rSlL, tDIn, tDNotIn, gSub, rSetL, tLst, tDNewK, tComp, L2.stC, tFor_eq, iList, iTup, iRng1, iRng2, iZip, iEnum, iDict, iStr, tChain, tSumV, tBM, rJoin, tJoined, jNil, jLit, jInt, jStr, tRaise, tDGet, tDGet2, tDGet1, sDPut, Option.join_some, List.getElem?_nil,  tSeq, tRet, tRetN, tIfS, tTest, tB, tOp, tUn, tVar, tC, tCB, tCons, tNil, tCall, tTupS, tAsg, gName, gNil, gCons, tPar, tNext, tDrop, tAnd, tOr, tNot, tAndV, tOrV, tNotV, tIf, rI, rI0, rU, rIxTH, rIxLH, rEqT, rNeT, rInT, rEq, rNe, scal, CPow, at0, at1, at2, List.map_cons, List.map_nil, List.length_cons, List.length_nil, Nat.reduceSub, Nat.reduceAdd, Nat.zero_add, List.replicate_zero, List.reduceReplicate, List.append_nil, List.nil_append, List.cons_append, List.getElem?_cons_zero, List.getElem?_cons_succ, List.set_cons_zero, List.set_cons_succ, Option.some.injEq, exists_eq_left', exists_eq_left, V.ref.injEq, V.int.injEq, V.bl.injEq, V.str.injEq, V.ty.injEq, HO.tup.injEq, HO.lst.injEq, List.cons.injEq, and_true, true_and, and_assoc, exists_and_left, decide_eq_true_eq, Bool.not_eq_true', decide_eq_false_iff_not, ite_true, ite_false, if_true, if_false, Int.reduceToNat, eq_self_iff_true, $ls,*])
seal L2.PE L2.PT L2.PW L2.PA L2.PS L2.ua L2.PG L2.Fy L2.PI L2.DP L2.PO L2.kc L2.Jx L2.cv L2.Ct L2.Jz L2.Fz L2.JA
theorem ay {P:Program} {w:World}:qt (bK P w):=vx P w
set_option genInjectivity false in
set_option genSizeOf false in
structure Txt (K:PySem.W.Frag) (mg:Str->Option Value) (ar tc:Addr):Prop where
 z_abs:mg "abs"=none
 z_all:mg "all"=none
 z_any:mg "any"=none
 z_bool:mg "bool"=none
 z_enumerate:mg "enumerate"=none
 z_int:mg "int"=none
 z_isinstance:mg "isinstance"=none
 z_len:mg "len"=none
 z_list:mg "list"=none
 z_max:mg "max"=none
 z_range:mg "range"=none
 z_sorted:mg "sorted"=none
 z_sum:mg "sum"=none
 z_tuple:mg "tuple"=none
 z_zip:mg "zip"=none
 BI:Dn K mg "goals" (top 1)
 uW:Dn K mg "is_ready" (top 2)
 nM:Dn K mg "ready_places" (top 3)
 zv:Dn K mg "levels" (top 4)
 El:Dn K mg "ring" (top 5)
 j6:Dn K mg "common_divisor" (top 12)
 BJ:Dn K mg "share" (top 13)
 kU:Dn K mg "common_bottom" (top 14)
 kW:Dn K mg "row_with_head" (top 16)
 xv:Dn K mg "swapped" (top 17)
 fP:Dn K mg "without_first_column" (top 18)
 BK:Dn K mg "swept" (top 19)
 kX:Dn K mg "whole_answers" (top 20)
 qH:Dn K mg "steps_from" (top 22)
 BL:Dn K mg "parts" (top 23)
 kY:Dn K mg "ways_of_picks" (top 27)
 kZ:Dn K mg "checked_parts" (top 28)
 lh:Dn K mg "weighted_ways" (top 29)
 ic:Dn K mg "all_weighted_ways" (top 30)
 nN:Dn K mg "total_weight" (top 31)
 tw:Dn K mg "part_rows" (top 32)
 xx:Dn K mg "gain_of" (top 34)
 xy:Dn K mg "book_of" (top 35)
 uX:Dn K mg "gains_of" (top 36)
 nO:Dn K mg "blank_worths" (top 37)
 oW:Dn K mg "with_worths" (top 38)
 qI:Dn K mg "wanted_way" (top 40)
 oX:Dn K mg "better_ways" (top 41)
 uY:Dn K mg "picks_of" (top 42)
 iP:Dn K mg "with_best_worths" (top 43)
 tz:Dn K mg "best_pick" (top 44)
 Em:Dn K mg "best" (top 45)
 tD:Dn K mg "_law_cell" (top 47)
 qJ:Dn K mg "_law_mixed" (top 48)
 uZ:Dn K mg "_law_low" (top 49)
 tE:Dn K mg "_law_plus" (top 50)
 qK:Dn K mg "_law_times" (top 51)
 lB:Dn K mg "_law_is_share" (top 52)
 js:Dn K mg "_law_are_shares" (top 53)
 oY:Dn K mg "_law_turned" (top 54)
 tF:Dn K mg "_law_what" (top 55)
 qL:Dn K mg "_law_board" (top 56)
 qM:Dn K mg "_law_parts" (top 57)
 oZ:Dn K mg "_law_better" (top 58)
 c_MOST_PLACES:∃t,mg "MOST_PLACES"=some (.int 40 t)
 c_MOST_PICKS:∃t,mg "MOST_PICKS"=some (.int 4096 t)
 k_Book:mg "Book"=some (.ref ar)
 b8:wO K ar
 na_Book_bottom:PySem.W.findIn K (.ref ar) "bottom"=some none
 na_Book_tops:PySem.W.findIn K (.ref ar) "tops"=some none
 BM:Lc K mg "Book" "Book.__init__" (inClass (top 33) 0) ar
 jt:JS K ar "as_shares" "Book.as_shares" (inClass (top 33) 2)
 nP:JS K ar "scaled" "Book.scaled" (inClass (top 33) 1)
 BN:Hb K mg "parts" tc
theorem Lz {C:List Value->Prop} (k:C []):∀us:List Value,us.length=0->C us:=λus h=>by
 cases us with
 | nil=>exact k
 | cons a us=>cases h
theorem zw {C:List Value->Prop} {n:Nat} (k:∀a (us:List Value),us.length=n->C (a::us)):∀us:List Value,us.length=n+1->C us:=λus h=>by
 cases us with
 | nil=>cases h
 | cons a us=>exact k a us (Nat.succ.inj h)
theorem iQ {C:List Value->Prop} (k:∀a,C [a]):∀us:List Value,us.length=1->C us:=zw λa=>Lz (C:=λus=>C (a::us)) (k a)
theorem d9 {C:List Value->Prop} (k:∀a b,C [a,b]):∀us:List Value,us.length=2->C us:=zw λa=>iQ (C:=λus=>C (a::us)) (k a)
theorem qN {C:List Value->Prop} (k:∀a b c,C [a,b,c]):∀us:List Value,us.length=3->C us:=zw λa=>d9 (C:=λus=>C (a::us)) (k a)
theorem Eo {C:List Value->Prop} (k:∀a b c d,C [a,b,c,d]):∀us:List Value,us.length=4->C us:=zw λa=>qN (C:=λus=>C (a::us)) (k a)
theorem LA {C:List Value->Prop} (k:∀a b c d e,C [a,b,c,d,e]):∀us:List Value,us.length=5->C us:=zw λa=>Eo (C:=λus=>C (a::us)) (k a)
abbrev dsc:Array Value:=#[rawInt 119,rawInt 29,.str ((Str.ofString "parts"++".<locals>.")++"<lambda>") 0]
noncomputable def c5:Option Int->V
 | none=>.cc
 | some i=>.int i
noncomputable def He:Option Int->Dat
 | none=>.cc
 | some i=>.int i
theorem vT {H:Hp} {ps:List (Option Int)} {l:Addr} (h:H l=some (.lst (List.map c5 ps))):Rep H (.lst (ps.map He)) (.ref l):=by
 refine aL.mpr ⟨l,_,rfl,h,cK (by rw[aab]) λi y ey o eo=>?_⟩
 rw[aaf,eo] at ey
 cases ey
 cases o <;>simp [He,c5,Rep]
theorem xA (ps:List (Option Int)):depth (.lst (ps.map He))<=40:=by
 have:=m6 (ds:=ps.map He) (n:=0) λd hd=>by obtain⟨o,_,rfl⟩:=List.mem_map.mp hd;cases o <;>simp [He,depth]
 rw[depth]
 omega
theorem CL {fs:Lv.Fs} {g:Int} (h0:0<=g) (h1:g< (fs.length:Nat)):eA (List.map c5 fs) g=some (c5 (Lv.lk fs g)):=by
 obtain⟨j,rfl⟩:=aa0 h0
 have hj:j<fs.length:=by omega
 have e:fs[j]?=some fs[j]:=aac hj
 rw[eM (f:=c5) e]
 congr 2
 unfold Lv.lk
 rw[aap,aai,e]
 rfl
theorem nQ {o:Option Int}:(c5 o=V.cc)↔o=none:=by cases o <;>simp [c5]
noncomputable def tG:Sp:=λvs H Q _=>∃v q,vs=[v]/\Rep H (oJ q) v/\(Lv.eO q).length<=100/\∀l H',aq H H'->H l=none->H' l=some (.lst (List.map V.int (Lv.eO q)))->Q (.ref l) H'
noncomputable def zx:Sp:=λvs H Q _=>∃v q f fs,vs=[v,.ref f]/\Rep H (oJ q) v/\H f=some (.lst (List.map c5 fs))/\(Lv.eO q).length<=100/\(∀g∈Lv.eO q,0<=g/\g< (fs.length:Nat))/\∀H',aq H H'->Q (.bl (Lv.CC fs q)) H'
noncomputable def cY (i:Nat):V:=.int i
noncomputable def vU:Sp:=λvs H Q _=>∃a b f fs,vs=[.ref a,.ref f]/\Rep H (uM b) (.ref a)/\H f=some (.lst (List.map c5 fs))/\fs.length=b.length/\b.length<=1000/\(∀q∈b,(Lv.eO q).length<=100)/\Lv.Good b/\∀l H',aq H H'->H l=none->H' l=some (.lst (List.map cY (Lv.fresh b fs)))->Q (.ref l) H'
noncomputable def zy:Sp:=λvs H Q _=>∃a b,vs=[.ref a]/\Rep H (uM b) (.ref a)/\b.length<=1000/\(∀q∈b,(Lv.eO q).length<=100)/\Lv.Good b/\∀l H',aq H H'->H l=none->H' l=some (.lst (List.map c5 (Lv.sx b)))->Q (.ref l) H'
structure Wb (H:Hp) (b:List Pl) (a ff:Addr) (m:Nat) (σ:L2.St) (H':Hp):Prop where
 ex:∃fs L fr z,σ=[some (V.ref a),some (V.ref ff),some (V.int L),some (V.ref fr),z]/\H' ff=some (.lst (List.map c5 fs))/\H' fr=some (.lst (List.map cY (Lv.fresh b fs)))/\fr≠ff/\aq H H'/\fs.length=b.length/\Lv.dP fs<=m/\Lv.run b m fs L=Lv.sx b
noncomputable def nR (b:List Pl):List Nat:=(List.range b.length).filter fun(i:Nat)=>(Lv.lk (Lv.sx b) (i:Int)).isNone
theorem zz {b:List Pl} {i:Nat}:i∈nR b↔i<b.length/\Lv.lk (Lv.sx b) (i:Int)=none:=by
 unfold nR
 rw[List.mem_filter,List.mem_range]
 simp
structure Bd (b:List Pl):Prop where
 len:b.length<=1000
 pG:∀q∈b,(Lv.eO q).length<=100
 good:Lv.Good b
noncomputable def u3:Sp:=λvs H Q _=>∃a b,vs=[.ref a]/\Rep H (uM b) (.ref a)/\Bd b/\∀l H',aq H H'->H l=none->H' l=some (.lst (List.map cY (nR b)))->Q (.ref l) H'
noncomputable def o4 (H:Hp):Option (Int×Nat)->V->Prop
 | none,v=>v=.cc
 | some (h,w),v=>∃p,v=.ref p/\H p=some (.tup [.int h,.int (w:Int)])
theorem o4.mono {H H':Hp} (s:aq H H') {o:Option (Int×Nat)} {v:V} (h:o4 H o v):o4 H' o v:=by
 cases o with
 | none=>exact h
 | some x=>obtain⟨p,e,hp⟩:=h;exact⟨p,e,s _ _ hp⟩
theorem o4.upd {H:Hp} {a:Addr} {o:HO} {par:Option (Int×Nat)} {v:V} (n:∀xs,H a≠some (.tup xs)) (h:o4 H par v):o4 (upd H a o) par v:=by
 cases par with
 | none=>exact h
 | some x=>obtain⟨p,e,hp⟩:=h;exact⟨p,e,by rw[au (λz=>n _ (z▸hp))];exact hp⟩
structure fb (H:Hp) (d:Addr) (es:List Bf.En):Prop where
 ex:∃kvs,H d=some (.dK kvs)/\kvs.map (·.1)=(Bf.keys es).map Sum.inl/\∀(i:Nat) e,es[i]?=some e->∃v,kvs[i]?=some (Sum.inl e.1,v)/\o4 H e.2.1 v
theorem fb.mono {H H':Hp} (s:aq H H') {d:Addr} {es:List Bf.En} (h:fb H d es):fb H' d es:=by
 obtain⟨kvs,hd,hk,hv⟩:=h
 exact⟨kvs,s _ _ hd,hk,λi e he=>by obtain⟨v,e1,e2⟩:=hv i e he;exact⟨v,e1,e2.mono s⟩⟩
theorem zA {κ:Type} [DecidableEq κ]:∀{kvs:List (κ×V)} {i:Nat} {k:κ} {v:V},(kvs.map (·.1)).Nodup->kvs[i]?=some (k,v)->iH kvs k=some v
 | [],i,k,v,_,h=>by simp at h
 | p::r,0,k,v,_,h=>by simp at h;subst h;exact je rfl
 | p::r,i+1,k,v,nd,h=>by
  simp at h
  rw[aao,List.nodup_cons] at nd
  rw[gG (λz=>nd.1 (by rw[z];exact List.mem_map.mpr ⟨(k,v),aad h,rfl⟩))]
  exact zA nd.2 h
theorem mh {κ:Type} [DecidableEq κ]:∀{kvs:List (κ×V)} {k:κ},k∉kvs.map (·.1)->iH kvs k=none
 | [],k,_=>rfl
 | p::r,k,h=>by
  rw[aao] at h
  rw[gG (λz=>h (by rw[z];exact aal))]
  exact mh λz=>h (aak _ z)
theorem Ep {l:List Int} (h:l.Nodup):(l.map (Sum.inl:Int->Key)).Nodup:=by
 unfold List.Nodup at *
 rw[List.pairwise_map]
 exact h.imp λ{a b} SV z=>SV (by cases z;rfl)
theorem vV {l:List Int} {k:Int}:(Sum.inl k:Key)∈l.map Sum.inl↔k∈l:=by
 rw[List.mem_map]
 constructor
 ·rintro⟨x,hx,e⟩;cases e;exact hx
 ·intro h;exact⟨k,h,rfl⟩
theorem fb.get {H:Hp} {d:Addr} {es:List Bf.En} (h:fb H d es) (nd:(Bf.keys es).Nodup) {i:Nat} {e:Bf.En} (he:es[i]?=some e):∃v,kN H d (.int e.1) (some v)/\o4 H e.2.1 v:=by
 obtain⟨kvs,hd,hk,hv⟩:=h
 obtain⟨v,e1,e2⟩:=hv i e he
 exact⟨v,.inl ⟨kvs,Sum.inl e.1,.inl hd,rfl,(zA (by rw[hk];exact Ep nd) e1).symm⟩,e2⟩
theorem fb.out {H:Hp} {d:Addr} {es:List Bf.En} (h:fb H d es) {k:Int} (hk:k∉Bf.keys es):kN H d (.int k) none:=by
 obtain⟨kvs,hd,Hf,_⟩:=h
 exact .inl ⟨kvs,Sum.inl k,.inl hd,rfl,(mh (by rw[Hf];exact λz=>hk (vV.mp z))).symm⟩
theorem fb.has {H:Hp} {d:Addr} {es:List Bf.En} (h:fb H d es) (nd:(Bf.keys es).Nodup) (k:Int):∃o,kN H d (.int k) o/\o.isSome=decide (k∈Bf.keys es):=by
 by_cases c:k∈Bf.keys es
 ·obtain⟨e,he,rfl⟩:=List.mem_map.mp c
  obtain⟨i,hi⟩:=aam he
  obtain⟨v,g,_⟩:=h.get nd hi
  exact⟨_,g,by simp [c]⟩
 ·exact⟨_,h.out c,by simp [c]⟩
theorem fb.put {H:Hp} {d:Addr} {es:List Bf.En} (h:fb H d es) {k:Int} {par:Option (Int×Nat)} {path:List Nat} {v:V} (hk:k∉Bf.keys es) (pv:o4 H par v) (hl:es.length<sizeLine):
  ∃o,uE H d (.int k) v (upd H d o)/\fb (upd H d o) d (es++ [(k,par,path)]):=by
 obtain⟨kvs,hd,Hf,hv⟩:=h
 have len:kvs.length=es.length:=by
  have:=congrArg List.length Hf
  unfold Bf.keys at this
  simpa using this
 have vn:iH kvs (Sum.inl k)=none:=mh (by rw[Hf];exact λz=>hk (vV.mp z))
 have nt:∀xs,H d≠some (.tup xs):=λxs z=>by rw[hd] at z;cases z
 refine⟨.dK (kvs++ [(Sum.inl k,v)]),?_,⟨kvs++ [(Sum.inl k,v)],ah,?_,λi e he=>?_⟩⟩
 ·have:=uE.k (k:=Sum.inl k) (v:=v) hd (by omega)
  rw[yl v vn] at this
  exact this
 ·unfold Bf.keys at *
  rw[aaO,aaO,aaO,Hf]
  rfl
 ·rcases Bf.d8 he with he | ⟨rfl,rfl⟩
  ·obtain⟨v',e1,e2⟩:=hv i e he
   exact⟨v',Bf.up e1,e2.upd nt⟩
  ·refine⟨v,?_,pv.upd nt⟩
   rw[aa6 (by omega),len,Nat.sub_self]
   rfl
theorem pY {here:Int} {path:List Nat}:∀(gs:List Int) (w:Nat) (es:List Bf.En) (g:Int),Bf.fI here path w (gs++ [g]) es=(if g∈Bf.keys (Bf.fI here path w gs es) then Bf.fI here path w gs es else Bf.fI here path w gs es++ [(g,some (here,w+gs.length),path++ [w+gs.length])])
 | [],w,es,g=>rfl
 | x::gs,w,es,g=>by
  show Bf.fI here path (w+1) (gs++ [g]) _=_
  rw[pY gs (w+1)]
  show(if g∈Bf.keys (Bf.fI here path (w+1) gs _) then Bf.fI here path (w+1) gs _ else Bf.fI here path (w+1) gs _++ [(g,some (here,w+1+gs.length),path++ [w+1+gs.length])])=_
  rw[aaw,show w+1+gs.length=w+ (gs.length+1) by omega]
  rfl
structure Wc (H:Hp) (b:List Pl) (a d f:Addr) (st:Int) (m:Nat) (σ:L2.St) (H':Hp):Prop where
 ex:∃(t:Nat) (es:List Bf.En),∃z5 z6 z7,σ=[some (V.ref a),some (V.int st),some (V.ref d),some (V.ref f),some (V.int (t:Int)),z5,z6,z7]/\fb H' d es/\H' f=some (.lst (List.map V.int (Bf.keys es)))/\aq H H'/\Bf.Inv b st t es/\Bf.AG b m t es=Bf.steps b st/\b.length<m+t
noncomputable def vW:Sp:=λvs H Q _=>∃a b st,vs=[.ref a,.int st]/\Rep H (uM b) (.ref a)/\b.length<=1000/\(∀q∈b,(Lv.eO q).length<=100)/\Lv.Good b/\0<=st/\st<b.length/\∀d H',aq H H'->H d=none->fb H' d (Bf.steps b st)->Q (.ref d) H'
structure BkW (H:Hp) (es:List Bf.En) (a d bk:Addr) (st g:Int) (path:List Nat) (m:Nat) (σ:L2.St) (H':Hp):Prop where
 ex:∃(e:Bf.En) (bs:List Nat) (v:V),es[m]?=some e/\o4 H' e.2.1 v/\H' bk=some (.lst (List.map cY bs))/\path=e.2.2++bs.reverse/\fb H' d es/\aq H H'/\σ=[some (V.ref a),some (V.int st),some (V.int g),some (V.ref d),some (V.ref bk),some v]
structure Wd (H:Hp) (a d f l:Addr) (st:Int) (t:Nat) (e:Bf.En) (gs:List Int) (es:List Bf.En) (k:Nat) (σ:L2.St) (H':Hp):Prop where
 ex:∃z6 z7,σ=[some (V.ref a),some (V.int st),some (V.ref d),some (V.ref f),some (V.int (t:Int)),some (V.int e.1),z6,z7]
 dr:fb H' d (Bf.fI e.1 e.2.2 0 (gs.take k) es)
 hf:H' f=some (.lst (List.map V.int (Bf.keys (Bf.fI e.1 e.2.2 0 (gs.take k) es))))
 hl:H' l=some (.lst (List.map V.int gs))
 sm:aq H H'
noncomputable def Al {α:Type} (R:α->V->Prop):List α->List V->Prop
 | [],[]=>True
 | a::as,v::vs=>R a v/\Al R as vs
 | _,_=>False
theorem Al.length {α:Type} {R:α->V->Prop}:∀{as:List α} {vs:List V},Al R as vs->vs.length=as.length
 | [],[],_=>rfl
 | a::as,v::vs,h=>by simp [Al.length h.2]
theorem Al.imp {α:Type} {R S:α->V->Prop} (f:∀a v,R a v->S a v):∀{as:List α} {vs:List V},Al R as vs->Al S as vs
 | [],[],_=>trivial
 | a::as,v::vs,h=>⟨f _ _ h.1,Al.imp f h.2⟩
theorem Al.append {α:Type} {R:α->V->Prop}:∀{as bs:List α} {us vs:List V},Al R as us->Al R bs vs->Al R (as++bs) (us++vs)
 | [],_,[],_,_,k=>k
 | a::as,_,v::vs,_,h,k=>⟨h.1,Al.append h.2 k⟩
theorem Al.one {α:Type} {R:α->V->Prop} {a:α} {v:V} (h:R a v):Al R [a] [v]:=⟨h,trivial⟩
theorem ju {α:Type} {H:Hp} {f:α->Dat} {as:List α} {vs:List V} {i:Nat} {v:V} (h:bj H (as.map f) vs) (e:vs[i]?=some v):∃a,as[i]?=some a/\Rep H (f a) v:=by
 obtain⟨d,ed,rd⟩:=h.get e
 rw[aaf] at ed
 obtain⟨a,ea,rfl⟩:=Option.map_eq_some_iff.mp ed
 exact⟨a,ea,rd⟩
theorem Al.get {α:Type} {R:α->V->Prop}:∀{as:List α} {vs:List V} {i:Nat} {v:V},Al R as vs->vs[i]?=some v->∃a,as[i]?=some a/\R a v:=by
 intro as
 induction as with
 | nil=>
  intro vs i v h e
  cases vs with
  | nil=>simp at e
  | cons u vs=>exact h.elim
 | cons a as ih=>
  intro vs i v h e
  cases vs with
  | nil=>exact h.elim
  | cons u vs=>
   cases i with
   | zero=>cases e;exact⟨a,rfl,h.1⟩
   | succ i=>exact ih (vs:=vs) (i:=i) h.2 e
theorem Al.of {α:Type} {R:α->V->Prop}:∀{as:List α} {vs:List V},vs.length=as.length->(∀(i:Nat) v a,vs[i]?=some v->as[i]?=some a->R a v)->Al R as vs
 | [],[],_,_=>trivial
 | [],_::_,l,_=>by simp at l
 | _::_,[],l,_=>by simp at l
 | a::as,u::vs,l,h=>⟨h 0 u a rfl rfl,Al.of (by simpa using l) λi v b e1 e2=>h (i+1) v b (by simpa using e1) (by simpa using e2)⟩
namespace Pr
open Bf Lv
noncomputable def kb (b:List Pl) (p:Int):List Int:=keys (steps b p)
noncomputable def In (b:List Pl) (p:Int):Prop:=0<=p/\p<b.length
section Q1
variable {b : List Pl} (gb : Good b)
include gb
theorem kD {p:Int} (h:In b p):(kb b p).Nodup:=(eY gb h.1 h.2).1.nd
theorem pZ {p q:Int} (h:In b p) (hq:q∈kb b p):In b q:=by
 obtain⟨e,he,rfl⟩:=List.mem_map.mp hq
 exact(eY gb h.1 h.2).1.jH e he
theorem jv {p:Int} (h:In b p):p∈kb b p:=List.mem_map.mpr ⟨_,aad (eY gb h.1 h.2).1.hd,rfl⟩
theorem vX {p q g:Int} (h:In b p) (hq:q∈kb b p) (hg:g∈fH b q):g∈kb b p:=by
 obtain⟨e,he,rfl⟩:=List.mem_map.mp hq
 obtain⟨j,hj⟩:=aam he
 obtain⟨i,ei,h1,h2,_⟩:=(eY gb h.1 h.2).2 j e hj g hg
 exact List.mem_map.mpr ⟨ei,aad h1,h2⟩
theorem zB {p:Int} (h:In b p):∀(ws:List Nat) (q r:Int),q∈kb b p->go b q ws=some r->r∈kb b p
 | [],q,r,hq,e=>by cases e;exact hq
 | w::ws,q,r,hq,e=>by
  have e:(match (fH b q)[w]? with | some g=>go b g ws | none=>none)=some r:=e
  cases c:(fH b q)[w]? with
  | none=>rw[c] at e;cases e
  | some g=>rw[c] at e;exact zB h ws g r (vX gb h hq (aad c)) e
theorem zC {p q:Int} (h:In b p):q∈kb b p↔∃ws,go b p ws=some q:=by
 constructor
 ·intro hq
  obtain⟨e,he,rfl⟩:=List.mem_map.mp hq
  obtain⟨j,hj⟩:=aam he
  exact⟨_,Bv (eY gb h.1 h.2).1 j e hj⟩
 ·rintro⟨ws,e⟩
  exact zB gb h ws p q (jv gb h) e
theorem gL {p q r:Int} (h:In b p) (hq:q∈kb b p) (hr:r∈kb b q):r∈kb b p:=by
 obtain⟨ws,e⟩:=(zC gb (pZ gb h hq)).mp hr
 exact zB gb h ws q r hq e
theorem Er {p:Int} (h:In b p):(kb b p).length<=b.length:=by
 have:=(eY gb h.1 h.2).1.pG
 unfold kb keys
 rw[aab]
 exact this
end Q1
theorem nS:∀{l m:List Int},l.Nodup->(∀x∈l,x∈m)->∃r,m.Perm (l++r)
 | [],m,_,_=>⟨m,.refl _⟩
 | x::l,m,nd,h=>by
  obtain⟨n1,n2⟩:=List.nodup_cons.mp nd
  obtain⟨r,p⟩:=nS (m:=m.erase x) n2 λy hy=>(List.mem_erase_of_ne (a:=y) (b:=x) λz=>n1 (by rw[<-z];exact hy)).mpr (h y (aak _ hy))
  exact⟨r,(List.perm_cons_erase (h x aal)).trans (p.cons x)⟩
theorem sub_len {l m:List Int} (hl:l.Nodup) (h:∀x∈l,x∈m):l.length<=m.length:=by
 obtain⟨r,p⟩:=nS hl h
 rw[p.length_eq,aaM]
 omega
theorem sub_eq {l m:List Int} (hl:l.Nodup) (hm:m.Nodup) (h:∀x∈l,x∈m) (e:m.length<=l.length):∀x∈m,x∈l:=λx hx=>by
 obtain⟨r,p⟩:=nS hl h
 have:=p.length_eq
 rw[aaM] at this
 have:r=[]:=List.length_eq_zero_iff.mp (by omega)
 subst this
 rw[aaL] at p
 exact p.mem_iff.mp hx
noncomputable def eE (b:List Pl) (p:Int):List Int:=(Nm.gA (kb b p)).filter λo=>decide (p∈kb b o)
noncomputable def rep (b:List Pl) (p:Int):Int:=(eE b p).headD (-1)
noncomputable def j4 (b:List Pl) (n:Nat):List Int:=((List.range n).map fun(i:Nat)=>(i:Int)).filter λp=>decide (rep b p=p)
section Q2
variable {b : List Pl} (gb : Good b)
include gb
omit gb in
theorem cZ {p o:Int}:o∈eE b p↔o∈kb b p/\p∈kb b o:=by
 unfold eE
 rw[List.mem_filter,Nm.vB,decide_eq_true_eq]
theorem u4 {p:Int} (h:In b p):(eE b p).Pairwise (·<·):=List.Pairwise.filter _ (Nm.DV (kD gb h))
theorem nU {p:Int} (h:In b p):p∈eE b p:=cZ.mpr ⟨jv gb h,jv gb h⟩
theorem nV {p o:Int} (h:In b p) (ho:o∈eE b p):In b o:=pZ gb h (cZ.mp ho).1
theorem nW {p:Int} (h:In b p):eE b p≠[]:=List.ne_nil_of_mem (nU gb h)
theorem vY {p o:Int} (ho:o∈eE b p):p∈eE b o:=cZ.mpr (cZ.mp ho).symm
theorem vZ {p o:Int} (h:In b p) (ho:o∈eE b p):∀x,x∈kb b p↔x∈kb b o:=λx=>by
 obtain⟨h1,h2⟩:=cZ.mp ho
 exact⟨λhx=>gL gb (pZ gb h h1) h2 hx,λhx=>gL gb h h1 hx⟩
theorem v3 {p o:Int} (h:In b p) (ho:o∈eE b p):(kb b p).length=(kb b o).length:=by
 have hi:=nV gb h ho
 exact Nat.le_antisymm (sub_len (kD gb h) λx hx=>(vZ gb h ho x).mp hx) (sub_len (kD gb hi) λx hx=>(vZ gb h ho x).mpr hx)
theorem j7 {p o r:Int} (h:In b p) (ho:o∈eE b p) (hr:r∈eE b o):r∈eE b p:=by
 have hi:=nV gb h ho
 have Lj:=nV gb hi hr
 obtain⟨h1,h2⟩:=cZ.mp ho
 obtain⟨h3,h4⟩:=cZ.mp hr
 exact cZ.mpr ⟨gL gb h h1 h3,gL gb Lj h4 h2⟩
omit gb in
theorem zD {l m:List Int} (hl:l.Pairwise (·<·)) (hm:m.Pairwise (·<·)) (h:∀x,x∈l↔x∈m):l=m:=by
 have p:l.Perm m:=(List.perm_ext_iff_of_nodup (hl.imp λh z=>by omega) (hm.imp λh z=>by omega)).mpr h
 have o1:l.Pairwise (·<=·):=hl.imp λh=>Int.le_of_lt h
 have o2:m.Pairwise (·<=·):=hm.imp λh=>Int.le_of_lt h
 rw[Nm.qz p o1,Nm.uH o2]
theorem zE {p o:Int} (h:In b p) (ho:o∈eE b p):eE b o=eE b p:=by
 have hi:=nV gb h ho
 refine zD (u4 gb hi) (u4 gb h) λx=>⟨λhx=>j7 gb h ho hx,λhx=>j7 gb hi (vY gb ho) hx⟩
theorem jw {p:Int} (h:In b p):rep b p∈eE b p:=by
 unfold rep
 cases e:eE b p with
 | nil=>exact absurd e (nW gb h)
 | cons x r=>exact aal
theorem Es {p:Int} (h:In b p):In b (rep b p):=nV gb h (jw gb h)
theorem v5 {p:Int} (h:In b p):eE b (rep b p)=eE b p:=zE gb h (jw gb h)
theorem BO {p:Int} (h:In b p):rep b (rep b p)=rep b p:=by
 show(eE b (rep b p)).headD (-1)=_
 rw[v5 gb h]
 rfl
theorem zF {p o:Int} (h:In b p) (ho:o∈eE b p):rep b o=rep b p:=by
 show(eE b o).headD (-1)=_
 rw[zE gb h ho]
 rfl
theorem BP {p o:Int} (h:In b p) (hi:In b o):rep b o=rep b p↔o∈eE b p:=by
 refine⟨λe=>?_,zF gb h⟩
 have h1:=jw gb hi
 rw[e] at h1
 exact vY gb (j7 gb hi h1 (by rw[v5 gb h];exact nU gb h))
omit gb in
theorem jx {n:Nat} {p:Int}:p∈j4 b n↔(0<=p/\p<n)/\rep b p=p:=by
 unfold j4
 rw[List.mem_filter,List.mem_map,decide_eq_true_eq]
 constructor
 ·rintro⟨⟨i,hi,rfl⟩,h⟩
  have:=List.mem_range.mp hi
  exact⟨⟨by omega,by omega⟩,h⟩
 ·rintro⟨⟨h1,h2⟩,h⟩
  exact⟨⟨p.toNat,List.mem_range.mpr (by omega),by omega⟩,h⟩
omit gb in
theorem Et {n:Nat}:(j4 b n).Nodup:=by
 refine List.Pairwise.filter _ ?_
 rw[List.pairwise_map]
 exact List.nodup_range.imp λh z=>h (by omega)
omit gb in
theorem v7 {n:Nat}:(j4 b n).length<=n:=by
 unfold j4
 refine aas (List.length_filter_le _ _) ?_
 rw[aab,aaE]
 exact aae _
omit gb in
theorem tH {n:Nat}:j4 b (n+1)=if rep b (n:Int)=(n:Int) then j4 b n++ [(n:Int)] else j4 b n:=by
 unfold j4
 rw[List.range_succ,aaO,List.filter_append]
 by_cases c:rep b (n:Int)=(n:Int)
 ·rw[if_pos c]
  simp [c]
 ·rw[if_neg c]
  simp [c]
theorem BQ {p:Int} (h:In b p):rep b p∈j4 b b.length:=jx.mpr ⟨Es gb h,BO gb h⟩
end Q2
structure Told (b:List Pl) (ps:List Int):Prop where
 pm:ps.Perm (j4 b b.length)
 od:ps.Pairwise λp q=>(kb b p).length<=(kb b q).length
section Q3
variable {b : List Pl} (gb : Good b) {ps : List Int} (T : Told b ps)
include gb T
omit gb in
theorem Told.nd:ps.Nodup:=T.pm.nodup_iff.mpr Et
omit gb in
theorem Told.LC {p:Int} (h:p∈ps):In b p:=(jx.mp (T.pm.mem_iff.mp h)).1
theorem Told.has {p:Int} (h:In b p):rep b p∈ps:=T.pm.mem_iff.mpr (BQ gb h)
theorem Told.Eu {p q:Int} (h:In b p) (hq:q∈kb b p):ps.idxOf (rep b q)<=ps.idxOf (rep b p):=by
 have hi:=pZ gb h hq
 have sub:∀x∈kb b q,x∈kb b p:=λx hx=>gL gb h hq hx
 have le:=sub_len (kD gb hi) sub
 by_cases c:(kb b p).length<=(kb b q).length
 ·have:p∈kb b q:=sub_eq (kD gb hi) (kD gb h) sub c p (jv gb h)
  rw[zF gb h (cZ.mpr ⟨hq,this⟩)]
  exact aae _
 ·have l1:=abd (T.has gb hi)
  have l2:=abd (T.has gb h)
  rcases Nat.lt_or_ge (ps.idxOf (rep b p)) (ps.idxOf (rep b q)) with g | g
  ·have od:=List.pairwise_iff_getElem.mp T.od _ _ l2 l1 g
   rw[abc l2,abc l1,<-v3 gb h (jw gb h),<-v3 gb hi (jw gb hi)] at od
   omega
  ·exact g
theorem Told.idx_eq {p q:Int} (h:In b p) (hi:In b q):ps.idxOf (rep b q)=ps.idxOf (rep b p)↔q∈kb b p/\p∈kb b q:=by
 rw[<-cZ,<-BP gb h hi]
 constructor
 ·intro e
  have l1:=abd (T.has gb hi)
  have l2:=abd (T.has gb h)
  have a1:=abc l1
  have a2:=abc l2
  rw[<-a1,<-a2]
  congr 1
 ·intro e;rw[e]
end Q3
noncomputable def Hg (b:List Pl):List Int->Nat->List (Int×Int)
 | [],_=>[]
 | p::ps,i=>(eE b p).map (λx=>(x,(i:Int)))++Hg b ps (i+1)
section Q9
variable {b : List Pl} (gb : Good b) {ps : List Int} (T : Told b ps)
include gb T
end Q9
noncomputable def off (b:List Pl) (ps:List Int) (i:Nat):Nat:=(Hg b (ps.take i) 0).length
end Pr
namespace Dg
open Lv Bf
structure Down (b:List Pl) (rk:Int->Nat):Prop where
 good:Good b
 dn:∀(i:Nat) q,b[i]?=some q->∀g∈eO q,rk g<rk (i:Int)
 dO:∀q∈b,∀g ws,q=.dO g ws->ws≠[]
section DA
variable {b : List Pl} {rk : Int -> Nat} (D : Down b rk)
include D
theorem Down.Tn {p g:Int} (hp:Pr.In b p) (h:g∈fH b p):rk g<rk p/\Pr.In b g:=by
 obtain⟨j,rfl⟩:=aa0 hp.1
 have hj:j<b.length:=by have:=hp.2;omega
 have e:b[j]?=some b[j]:=aac hj
 unfold fH at h
 rw[aap,e] at h
 exact⟨D.dn j _ e g h,D.good.jH _ (aad e) g h⟩
theorem Down.lv:∀(m i:Nat),rk (i:Int)<m->i<b.length->lk (sx b) (i:Int)≠none
 | 0,_,h,_=>absurd h (aa8 _)
 | m+1,i,h,hi=>by
  have e:b[i]?=some b[i]:=aac hi
  have ih:∀g∈eO b[i],lk (sx b) g≠none:=λg hg=>by
   obtain⟨h0,h1⟩:=D.good.jH _ (aad e) g hg
   obtain⟨j,rfl⟩:=aa0 h0
   exact Down.lv m j (by have:=D.dn i _ e _ hg;omega) (by omega)
  have E:=yR D.good i _ e
  have nn:∀v,(sx b)[i]?=some (some v)->lk (sx b) (i:Int)≠none:=λv hv z=>by
   rw[D5.mpr hv] at z
   cases z
  cases q:b[i] with
  | fin w=>rw[q] at E;exact nn _ E
  | dO w ws=>
   rw[q] at E ih
   rcases E with ⟨_,a2⟩ | ⟨v,hv,_⟩
   ·have ne:=D.dO _ (aad e) w ws q
    obtain⟨x,hx⟩:=List.exists_mem_of_ne_nil _ ne
    exact absurd (a2 x.2 (List.mem_map.mpr ⟨x,hx,rfl⟩)) (ih x.2 (List.mem_map.mpr ⟨x,hx,rfl⟩))
   ·exact nn v hv
  | cu w to=>
   rw[q] at E ih
   rcases E with ⟨_,g,hg,a2⟩ | ⟨v,hv,_⟩
   ·exact absurd a2 (ih g hg)
   ·exact nn v hv
theorem Down.ring:nR b=[]:=by
 refine List.eq_nil_iff_forall_not_mem.mpr λi hi=>?_
 obtain⟨h1,h2⟩:=zz.mp hi
 exact D.lv _ i (aaK _) h1 h2
theorem Down.go {p:Int} (hp:Pr.In b p):∀(ws:List Nat) (q r:Int),Pr.In b q->(q=p\/rk q<rk p)->Bf.go b q ws=some r->r=p\/rk r<rk p
 | [],q,r,_,hq,e=>by cases e;exact hq
 | w::ws,q,r,iq,hq,e=>by
  have e:(match (fH b q)[w]? with | some g=>Bf.go b g ws | none=>none)=some r:=e
  cases c:(fH b q)[w]? with
  | none=>rw[c] at e;cases e
  | some g=>
   rw[c] at e
   obtain⟨h1,h2⟩:=D.Tn iq (aad c)
   exact Down.go hp ws g r h2 (.inr (by rcases hq with rfl | hq <;>omega)) e
theorem Down.kb {p q:Int} (hp:Pr.In b p) (h:q∈Pr.kb b p):q=p\/rk q<rk p:=by
 obtain⟨ws,e⟩:=(Pr.zC D.good hp).mp h
 exact D.go hp ws p q hp (.inl rfl) e
theorem Down.eE {p:Int} (hp:Pr.In b p):Pr.eE b p=[p]:=by
 refine Pr.zD (Pr.u4 D.good hp) (List.pairwise_singleton _ _) λx=>?_
 rw[List.mem_singleton]
 constructor
 ·intro hx
  obtain⟨h1,h2⟩:=Pr.cZ.mp hx
  rcases D.kb hp h1 with h | h
  ·exact h
  ·rcases D.kb (Pr.pZ D.good hp h1) h2 with h' | h'
   ·exact h'.symm
   ·omega
 ·rintro rfl
  exact Pr.nU D.good hp
theorem Down.rep {p:Int} (hp:Pr.In b p):Pr.rep b p=p:=by
 unfold Pr.rep
 rw[D.eE hp]
 rfl
theorem Down.pm {ps:List Int} (T:Pr.Told b ps):ps.Perm ((List.range b.length).map fun(i:Nat)=>(i:Int)):=by
 have e:Pr.j4 b b.length=(List.range b.length).map fun(i:Nat)=>(i:Int):=by
  unfold Pr.j4
  refine List.filter_eq_self.mpr λp hp=>?_
  obtain⟨i,hi,rfl⟩:=List.mem_map.mp hp
  have:=List.mem_range.mp hi
  exact decide_eq_true (D.rep ⟨by omega,by omega⟩)
 rw[<-e]
 exact T.pm
theorem Down.ahead {ps:List Int} (T:Pr.Told b ps) {i:Nat} {p g:Int} (e:ps[i]?=some p) (hg:g∈fH b p):∃j,j<i/\ps[j]?=some g:=by
 have mp:=aad e
 have ip:=T.LC mp
 obtain⟨r,ig⟩:=D.Tn ip hg
 have gk:g∈Pr.kb b p:=Pr.vX D.good ip (Pr.jv D.good ip) hg
 have le:=T.Eu D.good ip gk
 have ne:ps.idxOf (Pr.rep b g)≠ps.idxOf (Pr.rep b p):=λz=>by
  obtain⟨_,h2⟩:=(T.idx_eq D.good ip ig).mp z
  rcases D.kb ig h2 with h | h
  ·rw[h] at r;omega
  ·omega
 rw[D.rep ip,D.rep ig] at le ne
 have ipx:ps.idxOf p=i:=by
  have l:=abd mp
  obtain⟨hi,We⟩:=List.getElem?_eq_some_iff.mp e
  exact(List.getElem_inj T.nd).mp ((abc l).trans We.symm)
 have mg:g∈ps:=by have:=T.has D.good ig;rwa [D.rep ig] at this
 have l:=abd mg
 exact⟨ps.idxOf g,by omega,by rw[aac l,abc l]⟩
end DA
end Dg
namespace Dg
abbrev Sh:=Wq.Sh
abbrev Wy:=List (Int×Int)
noncomputable def vl (x:Sh):Rat:=(x.1:Rat) / (x.2:Rat)
theorem u5 {a:Int} (h:0<a):(a:Rat)≠0:=λz=>by
 have:a=0:=Rat.intCast_inj.mp z
 omega
theorem tI {x:Sh} {a b:Int} (hx:0<x.2) (hb:0<b) (h:x.1*b=a*x.2):vl x=(a:Rat) / (b:Rat):=by
 have h1:=u5 hx
 have h2:=u5 hb
 have h3:(x.1:Rat)* (b:Rat)=(a:Rat)* (x.2:Rat):=by rw[<-Rat.intCast_mul,<-Rat.intCast_mul,h]
 unfold vl
 generalize (x.1:Rat)=u at *
 generalize (x.2:Rat)=v at *
 generalize (a:Rat)=s at *
 generalize (b:Rat)=t at *
 grind
theorem qO {a b:Int} (h:0<b):vl (Wq.low a b)=(a:Rat) / (b:Rat):=tI (Wq.dJ h).1 h (Nm.mU a b)
theorem Hh {x y:Sh} (hx:0<x.2) (hy:0<y.2):vl (Wq.pl x y)=vl x+vl y:=by
 unfold Wq.pl
 rw[qO (aaC hx hy)]
 have h1:=u5 hx
 have h2:=u5 hy
 rw[Rat.intCast_add,Rat.intCast_mul,Rat.intCast_mul,Rat.intCast_mul]
 unfold vl
 generalize (x.1:Rat)=u at *
 generalize (x.2:Rat)=v at *
 generalize (y.1:Rat)=s at *
 generalize (y.2:Rat)=t at *
 grind
theorem Hi {x y:Sh} (hx:0<x.2) (hy:0<y.2):vl (Wq.tm x y)=vl x*vl y:=by
 unfold Wq.tm
 rw[qO (aaC hx hy)]
 have h1:=u5 hx
 have h2:=u5 hy
 rw[Rat.intCast_mul,Rat.intCast_mul]
 unfold vl
 generalize (x.1:Rat)=u at *
 generalize (x.2:Rat)=v at *
 generalize (y.1:Rat)=s at *
 generalize (y.2:Rat)=t at *
 grind
theorem qP {x y:Sh} (hx:Wq.Lw x) (hy:Wq.Lw y) (h:vl x=vl y):x=y:=by
 have h1:=u5 hx.1
 have h2:=u5 hy.1
 have c:(x.1:Rat)* (y.2:Rat)=(y.1:Rat)* (x.2:Rat):=by
  unfold vl at h
  generalize (x.1:Rat)=u at *
  generalize (x.2:Rat)=v at *
  generalize (y.1:Rat)=s at *
  generalize (y.2:Rat)=t at *
  grind
 rw[<-Rat.intCast_mul,<-Rat.intCast_mul] at c
 obtain⟨a,b⟩:=Nm.Bi hx.1 hy.1 hx.2 hy.2 (Rat.intCast_inj.mp c)
 exact Prod.ext a b
noncomputable def tt (ws:Wy):Int:=if ws=[] then 1 else Wq.iO ws
noncomputable def FH (n:Nat) (ws:Wy):Prop:=ws.length<=3/\∀x∈ws,1<=x.1/\x.1<=3/\0<=x.2/\x.2< (n:Int)
theorem j8 (x:Int×Int) (ws:Wy):Wq.iO (x::ws)=x.1+Wq.iO ws:=rfl
theorem qB:∀{ws:Wy},(∀x∈ws,1<=x.1/\x.1<=3)->(ws.length:Int)<=Wq.iO ws/\Wq.iO ws<=3* (ws.length:Int)
 | [],_=>⟨aaP _,aaP _⟩
 | x::ws,h=>by
  have ih:=qB (ws:=ws) λy hy=>h y (aak _ hy)
  have:=h x aal
  rw[j8,aaw]
  omega
theorem FH.tt {n:Nat} {ws:Wy} (h:FH n ws):1<=tt ws/\tt ws<=9:=by
 have:=qB λx hx=>⟨(h.2 x hx).1,(h.2 x hx).2.1⟩
 have l:=h.1
 unfold Dg.tt
 cases ws with
 | nil=>decide
 | cons x ws=>
  rw[if_neg (by simp)]
  rw[aaw] at this l
  omega
noncomputable def iR (d:Int) (v:Int->Rat):Wy->Rat
 | []=>0
 | x::ws=>(x.1:Rat) / (d:Rat)*v x.2+iR d v ws
theorem cU {d:Int} {v v':Int->Rat}:∀{ws:Wy},(∀x∈ws,v x.2=v' x.2)->iR d v ws=iR d v' ws
 | [],_=>rfl
 | x::ws,h=>by
  unfold iR
  rw[h x aal,cU λy hy=>h y (aak _ hy)]
theorem v8 {d:Int} (d0:0<d) {v:Int->Sh}:∀{ws:Wy} {a:Sh},0<a.2->(∀x∈ws,0< (v x.2).2)->0< (Wq.kT d v a ws).2/\vl (Wq.kT d v a ws)=vl a+iR d (λi=>vl (v i)) ws
 | [],a,h,_=>⟨h,by show vl a=vl a+0;grind⟩
 | x::ws,a,h,hv=>by
  have hx:=hv x aal
  have lw:=Wq.dJ (a:=x.1) d0
  have t0:0< (Wq.tm (Wq.low x.1 d) (v x.2)).2:=(Wq.dJ (aaC lw.1 hx)).1
  have p0:0< (Wq.pl a (Wq.tm (Wq.low x.1 d) (v x.2))).2:=(Wq.dJ (aaC h t0)).1
  obtain⟨i1,i2⟩:=v8 d0 (v:=v) (ws:=ws) p0 λy hy=>hv y (aak _ hy)
  refine⟨i1,?_⟩
  show vl (Wq.kT d v (Wq.pl a (Wq.tm (Wq.low x.1 d) (v x.2))) ws)=vl a+ ((x.1:Rat) / (d:Rat)*vl (v x.2)+iR d (λi=>vl (v i)) ws)
  rw[i2,Hh h t0,Hi lw.1 hx,qO d0]
  grind
abbrev Bk:=List Int×Int
noncomputable def val (S:Bk) (q:Int):Rat:=(S.1.getD q.toNat 0:Rat) / (S.2:Rat)
noncomputable def qQ (ts:List Int) (ws:Wy):Int:=(ws.map λx=>x.1*ts.getD x.2.toNat 0).sum
noncomputable def eF (gt:List Int) (G:Int) (ws:Wy) (S:Bk) (p:Nat):Bk:=
 ((S.1.map (·*tt ws)).set p (tt ws*gt.getD p 0* (S.2 / G)+qQ S.1 ws),S.2*tt ws)
theorem fQ (ts:List Int) (d:Int) (q:Nat):(ts.map (·*d)).getD q 0=ts.getD q 0*d:=by
 rw[aai,aai,aaf]
 cases ts[q]? with
 | none=>show(0:Int)=0*d;omega
 | some x=>rfl
theorem gN {ts:List Int} {p q:Nat} {x:Int} (h:p≠q):(ts.set p x).getD q 0=ts.getD q 0:=by
 rw[aai,aai,aaA h]
theorem kE {ts:List Int} {p:Nat} {x:Int} (h:p<ts.length):(ts.set p x).getD p 0=x:=by
 rw[aai,aay h]
 rfl
theorem tJ {S:Bk} (B0:0<S.2) {d:Int} (d0:0<d):∀ws:Wy,(qQ S.1 ws:Rat) / ((S.2*d:Int):Rat)=iR d (val S) ws
 | []=>by show((0:Int):Rat) / _=0;grind
 | x::ws=>by
  have ih:=tJ B0 d0 ws
  have h1:=u5 B0
  have h2:=u5 d0
  show(((x.1*S.1.getD x.2.toNat 0+qQ S.1 ws:Int)):Rat) / ((S.2*d:Int):Rat)=(x.1:Rat) / (d:Rat)* ((S.1.getD x.2.toNat 0:Rat) / (S.2:Rat))+iR d (val S) ws
  rw[<-ih,Rat.intCast_add,Rat.intCast_mul,Rat.intCast_mul]
  generalize (x.1:Rat)=u at *
  generalize (S.2:Rat)=v at *
  generalize (d:Rat)=t at *
  generalize ((S.1.getD x.2.toNat 0:Int):Rat)=s at *
  generalize ((qQ S.1 ws:Int):Rat)=r at *
  grind
theorem jy {gt:List Int} {G:Int} {ws:Wy} {S:Bk} {p:Nat} {q:Int} (d0:0<tt ws) (B0:0<S.2) (h:p≠q.toNat):val (eF gt G ws S p) q=val S q:=by
 unfold val eF
 rw[gN h,fQ,Rat.intCast_mul,Rat.intCast_mul]
 have h1:=u5 B0
 have h2:=u5 d0
 generalize (S.2:Rat)=v at *
 generalize (tt ws:Rat)=t at *
 generalize ((S.1.getD q.toNat 0:Int):Rat)=s at *
 grind
theorem zG {gt:List Int} {G:Int} {ws:Wy} {S:Bk} {p:Nat} {g:Rat} (d0:0<tt ws) (G0:0<G) (B0:0<S.2) (dv:G∣S.2) (hp:p<S.1.length) (hg:(gt.getD p 0:Rat) / (G:Rat)=g):val (eF gt G ws S p) (p:Int)=g+iR (tt ws) (val S) ws:=by
 rw[<-tJ B0 d0 ws,<-hg]
 unfold val eF
 rw[aap,kE (by rw[aab];exact hp)]
 obtain⟨k,hk⟩:=dv
 have e:S.2 / G=k:=by rw[hk];exact Int.mul_ediv_cancel_left k (by omega)
 have k0:0<k:=by
  rw[hk] at B0
  exact Int.pos_of_mul_pos_right B0 G0
 rw[e,hk,Rat.intCast_add,Rat.intCast_mul,Rat.intCast_mul,Rat.intCast_mul,Rat.intCast_mul]
 have h1:=u5 G0
 have h2:=u5 d0
 have h3:=u5 k0
 generalize (k:Rat)=v at *
 generalize (G:Rat)=u at *
 generalize (tt ws:Rat)=t at *
 generalize ((gt.getD p 0:Int):Rat)=s at *
 generalize ((qQ S.1 ws:Int):Rat)=r at *
 grind
end Dg
namespace Dg
theorem Wf:((1:Int):Rat) / ((1:Int):Rat)=1:=by
 have:((1:Int):Rat)=1:=rfl
 grind
theorem Wg:((0:Int):Rat) / ((1:Int):Rat)=0:=by
 have:((0:Int):Rat)=0:=rfl
 grind
noncomputable def pr (d:Int) (q:Int):Wy->Rat
 | []=>0
 | x::ws=>(if x.2=q then (x.1:Rat) / (d:Rat) else 0)+pr d q ws
noncomputable def Runs (W:Int->Wy):List Int->(Int->Rat)->(Int->Rat)->Prop
 | [],f,g=>∀q,0<=q->g q=f q
 | p::os,f,g=>∃f1,(∀q,0<=q->f1 q=f q+f p*pr (tt (W p)) q (W p))/\Runs W os f1 g
theorem Runs.congr {W:Int->Wy}:∀{os:List Int} {f g g':Int->Rat},Runs W os f g->(∀q,0<=q->g' q=g q)->Runs W os f g'
 | [],_,_,_,r,h=>λq q0=>by rw[h q q0,r q q0]
 | _::_,_,_,_,⟨f1,h1,h2⟩,h=>⟨f1,h1,Runs.congr h2 h⟩
end Dg
namespace Dg
theorem v9 {B:Nat} (ts:List Int) (h:∀q,(ts.getD q 0).natAbs<=B):∀{ws:Wy},(∀x∈ws,1<=x.1/\x.1<=3)->(qQ ts ws).natAbs<=(Wq.iO ws).toNat *B
 | [],_=>by show(0:Int).natAbs<=_;simp
 | x::ws,hw=>by
  have ih:=v9 ts h (ws:=ws) λy hy=>hw y (aak _ hy)
  obtain⟨x0,x1⟩:=hw x aal
  have t0:=(qB (ws:=ws) λy hy=>hw y (aak _ hy)).1
  have e:(Wq.iO (x::ws)).toNat=x.1.toNat+ (Wq.iO ws).toNat:=by rw[j8];omega
  have m:(x.1*ts.getD x.2.toNat 0).natAbs<=x.1.toNat *B:=by
   rw[Int.natAbs_mul,show x.1.natAbs=x.1.toNat by omega]
   exact Nat.mul_le_mul_left _ (h _)
  rw[e,Nat.add_mul]
  show(x.1*ts.getD x.2.toNat 0+qQ ts ws).natAbs<=_
  omega
theorem Ew {ws:Wy} (h:∀x∈ws,1<=x.1/\x.1<=3):(Wq.iO ws).toNat<=(tt ws).toNat:=by
 unfold tt
 cases ws with
 | nil=>decide
 | cons x ws=>rw[if_neg (by simp)];exact aae _
structure wa (n:Nat) (G:Int) (i:Nat) (S:Bk):Prop where
 len:S.1.length=n
 pos:0<S.2
 dv:G∣S.2
 bb:Bt (4*i+4) S.2
 bt:∀q,(S.1.getD q 0).natAbs<=S.2.toNat * (6*i)
theorem wa.start {n:Nat} {G:Int} (h:0<G) (k:G<=12):wa n G 0 (List.replicate n 0,G):=by
 refine⟨aaZ,h,Int.dvd_refl _,Bt.of 12 (by omega) (by omega),λq=>?_⟩
 rw[aai,List.getElem?_replicate]
 split <;>simp
theorem Bt.Ex {m:Nat} {a d:Int} (h:Bt m a) (d0:1<=d) (d1:d<=9):Bt (m+4) (a*d):=h.mul (Bt.of 9 (by omega) (by omega))
theorem wa.step {n:Nat} {G:Int} {i p:Nat} {S:Bk} {ws:Wy} {gt:List Int} (W:wa n G i S) (w:FH n ws) (G0:0<G) (hg:(gt.getD p 0).natAbs<=6*G.toNat):wa n G (i+1) (eF gt G ws S p):=by
 obtain⟨d0,d1⟩:=w.tt
 have hw:∀x∈ws,1<=x.1/\x.1<=3:=λx hx=>⟨(w.2 x hx).1,(w.2 x hx).2.1⟩
 have W0:=W.pos
 have nn:(S.2*tt ws).toNat=S.2.toNat * (tt ws).toNat:=Int.toNat_mul (by omega) (by omega)
 have old:∀q,(S.1.getD q 0*tt ws).natAbs<=(S.2*tt ws).toNat * (6* (i+1)):=λq=>by
  rw[Int.natAbs_mul,nn,Nat.mul_right_comm,show(tt ws).natAbs=(tt ws).toNat by omega]
  exact Nat.mul_le_mul_right _ (aas (W.bt q) (Nat.mul_le_mul_left _ (by omega)))
 refine⟨by unfold eF;rw[aaz,aab,W.len],aaC W0 (by omega),Int.dvd_trans W.dv (Int.dvd_mul_right _ _),?_,λq=>?_⟩
 ·have:=Bt.Ex W.bb d0 d1
  rw[show 4* (i+1)+4=4*i+4+4 by omega]
  exact this
 ·show(((S.1.map (·*tt ws)).set p (tt ws*gt.getD p 0* (S.2 / G)+qQ S.1 ws)).getD q 0).natAbs<=(S.2*tt ws).toNat * (6* (i+1))
  by_cases e:p=q
  ·subst e
   by_cases l:p<S.1.length
   ·rw[kE (by rw[aab];exact l)]
    have s:=v9 S.1 W.bt hw
    have s2:=Nat.mul_le_mul_right (S.2.toNat * (6*i)) (Ew hw)
    obtain⟨k,hk⟩:=W.dv
    have ek:S.2 / G=k:=by rw[hk];exact Int.mul_ediv_cancel_left k (by omega)
    have k0:0<k:=by rw[hk] at W0;exact Int.pos_of_mul_pos_right W0 G0
    have eS:S.2.toNat=G.toNat *k.toNat:=by rw[hk];exact Int.toNat_mul (by omega) (by omega)
    have g:(tt ws*gt.getD p 0* (S.2 / G)).natAbs<=(tt ws).toNat *S.2.toNat *6:=by
     rw[ek,Int.natAbs_mul,Int.natAbs_mul,eS,show(tt ws).natAbs=(tt ws).toNat by omega,show k.natAbs=k.toNat by omega]
     calc (tt ws).toNat * (gt.getD p 0).natAbs*k.toNat<=(tt ws).toNat * (6*G.toNat)*k.toNat:=Nat.mul_le_mul_right _ (Nat.mul_le_mul_left _ hg)
      _=(tt ws).toNat * (G.toNat *k.toNat)*6:=by grind
    have e2:S.2.toNat * (tt ws).toNat * (6* (i+1))=(tt ws).toNat *S.2.toNat *6+ (tt ws).toNat * (S.2.toNat * (6*i)):=by grind
    rw[nn,e2]
    omega
   ·rw[aai,aat (by rw[aaz,aab];omega)]
    exact aar _
  ·rw[gN e,fQ]
   exact old q
theorem wa.Ey {n:Nat} {G:Int} {i:Nat} {S:Bk} (W:wa n G i S) (h:i<=60) (q:Nat):Bt (4*i+13) (S.1.getD q 0):=by
 have b1:=W.bb
 have:Bt 9 (360:Int):=Bt.of 360 (by decide) (by decide)
 have b2:=b1.mul this
 rw[show 4*i+13=4*i+4+9 by omega]
 refine b2.le (aas (W.bt q) ?_)
 rw[Int.natAbs_mul]
 have:=W.pos
 rw[show S.2.natAbs=S.2.toNat by omega]
 exact Nat.mul_le_mul_left _ (by show 6*i<=360;omega)
structure Vst (n:Nat) (i:Nat) (S:Bk):Prop where
 len:S.1.length=n
 pos:0<S.2
 bb:Bt (4*i+1) S.2
 bt:∀q,(S.1.getD q 0).natAbs<=32^i
end Dg
noncomputable def zH:Sp:=λvs H Q _=>∃(a q:Addr) (d:Int) (r:List V),vs=[.ref a,.int 0]/\H a=some (.lst [.ref q])/\H q=some (.lst (.int d::r))/\d≠0/\Q (.int 0) H
noncomputable def zI:Sp:=λvs H Q _=>∃(a q:Addr),vs=[.ref a,.int 0,.int 0]/\H a=some (.lst [.ref q])/\∀p H',aq H H'->H' p=some (.lst [.ref q])->Q (.ref p) H'
noncomputable def zJ:Sp:=λvs H Q _=>∃(a q:Addr) (d s l:Int),vs=[.ref a,.int 0,.int l]/\H a=some (.lst [.ref q])/\H q=some (.lst [.int d,.int s])/\∀p t H',aq H H'->H' p=some (.lst [.ref t])->H' t=some (.lst [.int s])->Q (.ref p) H'
noncomputable def zK:Sp:=λvs H Q _=>∃(a q:Addr) (d s:Int),vs=[.ref a,.int 1]/\H a=some (.lst [.ref q])/\H q=some (.lst [.int d,.int s])/\d≠0/\∀u p t H',aq H H'->H' u=some (.tup [.ref p,.int 1,.int d])->H' p=some (.lst [.ref t])->H' t=some (.lst [.int s])->Q (.ref u) H'
noncomputable def zL:Sp:=λvs H Q _=>∃(a c q:Addr) (d s:Int),vs=[.ref a,.ref c]/\H a=some (.lst [.ref q])/\H q=some (.lst [.int d])/\H c=some (.lst [.int s])/\0<d/\∀u p H',aq H H'->H' u=some (.tup [.ref p,.int d])->H' p=some (.lst [.int s])->Q (.ref u) H'
noncomputable def Gs (g:Wq.Sh):Prop:= -6<=g.1/\g.1<=6/\g.2<=4/\Wq.Lw g
noncomputable def AJ (n:Nat):Pl->Prop
 | .fin g=>Gs g
 | .dO g ws=>Gs g/\0<ws.length/\Dg.FH n ws
 | .cu aR to=>(aR=1\/aR=2)/\0<to.length/\to.length<=3/\∀g∈to,0<=g/\g< (n:Int)
structure tK (b:List Pl) (rk:Int->Nat):Prop where
 pos:0<b.length
 len:b.length<=60
 ok:∀q∈b,AJ b.length q
 dn:Dg.Down b rk
theorem AJ.pG {n:Nat} {q:Pl} (h:AJ n q):(Lv.eO q).length<=3:=by
 cases q with
 | fin g=>exact aar _
 | dO g ws=>simp only[Lv.eO,aab];exact h.2.2.1
 | cu w to=>exact h.2.2.1
theorem tK.pG {b:List Pl} {rk:Int->Nat} (B:tK b rk):∀q∈b,(Lv.eO q).length<=100:=λq hq=>by have:=(B.ok q hq).pG;omega
theorem tK.bd {b:List Pl} {rk:Int->Nat} (B:tK b rk):Bd b:=⟨by have:=B.len;omega,B.pG,B.dn.good⟩
noncomputable def fc:Pl->Option Int->Dg.Wy
 | .fin _,_=>[]
 | .dO _ ws,_=>ws
 | .cu _ to,k=>[(1,to.getD (k.getD 0).toNat 0)]
noncomputable def qZ:Pl->Option Int->Prop
 | .cu _ to,some k=>0<=k/\k< (to.length:Int)
 | .cu _ _,none=>False
 | _,_=>True
noncomputable def rh (ws:Dg.Wy):Dat:=.lst (ws.map bf)
theorem kF {n:Nat} {q:Pl} {k:Option Int} (h:AJ n q) (hk:qZ q k):Dg.FH n (fc q k)/\∀x∈fc q k,x.2∈Lv.eO q:=by
 cases q with
 | fin g=>exact⟨⟨aar _,by simp [fc]⟩,by simp [fc]⟩
 | dO g ws=>exact⟨h.2.2,λx hx=>List.mem_map.mpr ⟨x,hx,rfl⟩⟩
 | cu w to=>
  cases k with
  | none=>exact hk.elim
  | some k=>
   have hl:k.toNat<to.length:=by have:=hk.1;have:=hk.2;omega
   have m:to.getD k.toNat 0∈to:=by rw[aai,aac hl];exact aav hl
   have e:fc (.cu w to) (some k)=[(1,to.getD k.toNat 0)]:=rfl
   rw[e]
   refine⟨⟨by show 1<=3;omega,λx hx=>?_⟩,λx hx=>?_⟩
   ·rw[List.mem_singleton.mp hx]
    exact⟨by show(1:Int)<=1;omega,by show(1:Int)<=3;omega,h.2.2.2 _ m⟩
   ·rw[List.mem_singleton.mp hx]
    exact m
noncomputable def dW (b:List Pl) (ks:List (Option Int)):List Dg.Wy:=List.zipWith fc b ks
noncomputable def mi (C:Addr) (H:Hp) (x:Addr) (S:Dg.Bk):Prop:=∃dx m,H x=some (.ins C dx [("tops",.ref m),("bottom",.int S.2)])/\H m=some (.lst (S.1.map V.int))
theorem mi.mono {C:Addr} {H H':Hp} {x:Addr} {S:Dg.Bk} (s:aq H H') (h:mi C H x S):mi C H' x S:=by
 obtain⟨dx,m,h1,h2⟩:=h
 exact⟨dx,m,s _ _ h1,s _ _ h2⟩
noncomputable def xB:Sp:=λvs H Q _=>∃a b,vs=[.int a,.int b]/\Q (.int (Nm.g a b)) H
noncomputable def Ez:Sp:=λvs H Q _=>∃a b,vs=[.int a,.int b]/\Bt 5000 b/\0<b/\∀p H',aq H H'->H p=none->H' p=some (.tup (Pr (Nm.st a b) (Nm.sb a b)))->Q (.ref p) H'
noncomputable def EA:Sp:=λvs H Q _=>∃(a:Addr) (ws:List Wq.Sh) (Z:Int),vs=[.ref a]/\Rep H (.lst (ws.map bf)) (.ref a)/\ws.length<=60/\(∀x∈ws,0<x.2/\x.2∣Z)/\0<Z/\Bt 2000 Z/\Q (.int (Wq.eN 1 ws)) H
noncomputable def zM:Sp:=λvs H Q _=>∃(a x:Addr) (b:List Pl) (p:Nat),vs=[.ref a,.ref x]/\Rep H (uM b) (.ref a)/\H x=some (.lst [.int (p:Int)])/\p<b.length/\(∀q∈b,(Lv.eO q).length<=3)/\∀k,k<=4096->Q (.int k) H
noncomputable def zN (tp:Addr):Sp:=λvs H Q _=>∃(a:Addr) (b:List Pl) (rk:Int->Nat),vs=[.ref a]/\Rep H (uM b) (.ref a)/\tK b rk/\H tp=some (.qY dsc)/\
 ∀l ps as H',Pr.Told b ps->aq H H'->H l=none->H' l=some (.lst (List.map V.ref as))->Al (λp v=>∃x,v=.ref x/\H' x=some (.lst [.int p])) ps (as.map V.ref)->Q (.ref l) H'
noncomputable def tL:Sp:=λvs H Q _=>∃(v:V) (q:Pl) (k:Option Int),vs=[v,c5 k]/\Rep H (oJ q) v/\qZ q k/\∀l H',aq H H'->Rep H' (rh (fc q k)) (.ref l)->Q (.ref l) H'
noncomputable def Hj:Sp:=λvs H Q _=>∃(a c:Addr) (b:List Pl) (ks:List (Option Int)),vs=[.ref a,.ref c]/\Rep H (uM b) (.ref a)/\b.length<=60/\H c=some (.lst (ks.map c5))/\ks.length=b.length/\(∀(i:Nat) q k,b[i]?=some q->ks[i]?=some k->qZ q k)/\
 ∀l xs H',aq H H'->H l=none->H' l=some (.lst xs)->bj (c7 H' l) ((dW b ks).map rh) xs->Q (.ref l) H'
noncomputable def zO:Sp:=λvs H Q _=>∃(a:Addr) (ws:Dg.Wy),vs=[.ref a]/\Rep H (rh ws) (.ref a)/\ws.length<=3/\∀H',aq H H'->Q (.int (Dg.tt ws)) H'
noncomputable def zP:Sp:=λvs H Q _=>∃(x wl:Addr) (p:Nat) (xs:List V) (xC:List Dg.Wy) (ws:Dg.Wy),vs=[.ref x,.ref wl]/\H x=some (.lst [.int (p:Int)])/\H wl=some (.lst xs)/\bj H (xC.map rh) xs/\xC[p]?=some ws/\ws.length<=3/\(∀y∈ws,y.2≠(p:Int))/\
 ∀r t H',aq H H'->H' r=some (.lst [.ref t])->H' t=some (.lst [.int (Dg.tt ws)])->Q (.ref r) H'
noncomputable def BR (C:Addr):Sp:=λvs H Q _=>∃(x dx l:Addr) (ts:List Int) (b:Int),vs=[.ref x,.ref l,.int b]/\H x=some (.ins C dx [])/\H l=some (.lst (ts.map V.int))/\
 ∀m H',H m=none->H' m=some (.lst (ts.map V.int))->H' x=some (.ins C dx [("tops",.ref m),("bottom",.int b)])->(∀y o,y≠x->H y=some o->H' y=some o)->Q .cc H'
noncomputable def CM (C:Addr):Sp:=λvs H Q _=>∃(x:Addr) (S:Dg.Bk) (d:Int),vs=[.ref x,.int d]/\mi C H x S/\Bt 4000 d/\Bt 4000 S.2/\(∀t∈S.1,Bt 4000 t)/\S.1.length<=60/\
 ∀y dy m H',aq H H'->H y=none->H m=none->H' y=some (.ins C dy [("tops",.ref m),("bottom",.int (S.2*d))])->H' m=some (.lst ((S.1.map (·*d)).map V.int))->Q (.ref y) H'
noncomputable def Hk (C:Addr):Sp:=λvs H Q _=>∃(x:Addr) (S:Dg.Bk),vs=[.ref x]/\mi C H x S/\0<S.2/\Bt 5000 S.2/\S.1.length<=60/\∀l H',aq H H'->H l=none->Rep H' (.lst ((S.1.map λt=>Wq.low t S.2).map bf)) (.ref l)->Q (.ref l) H'
noncomputable def EB:Sp:=λvs H Q _=>∃(a:V) (q:Pl),vs=[a]/\Rep H (oJ q) a/\∀r H',aq H H'->H' r=some (.tup (Pr (Wq.cA q).1 (Wq.cA q).2))->Q (.ref r) H'
noncomputable def EC (C:Addr):Sp:=λvs H Q _=>∃(a:Addr) (ws:List Wq.Sh) (Z:Int),vs=[.ref a]/\Rep H (.lst (ws.map bf)) (.ref a)/\ws.length<=60/\(∀x∈ws,0<x.2/\x.2∣Z/\Bt 4000 x.1)/\0<Z/\Bt 2000 Z/\
 ∀x H',aq H H'->mi C H' x (ws.map (Wq.sc (Wq.eN 1 ws)),Wq.eN 1 ws)->Q (.ref x) H'
noncomputable def gB (b:List Pl):Int:=Wq.eN 1 (b.map Wq.cA)
noncomputable def gT (b:List Pl):List Int:=(b.map Wq.cA).map (Wq.sc (gB b))
noncomputable def zQ (C:Addr):Sp:=λvs H Q _=>∃(a:Addr) (b:List Pl) (rk:Int->Nat),vs=[.ref a]/\Rep H (uM b) (.ref a)/\tK b rk/\∀x H',aq H H'->mi C H' x (gT b,gB b)->Q (.ref x) H'
noncomputable def ED (C:Addr):Sp:=λvs H Q _=>∃(x:Addr) (S:Dg.Bk),vs=[.ref x]/\mi C H x S/\S.1.length<=60/\∀y H',aq H H'->mi C H' y (List.replicate S.1.length 0,S.2)->Q (.ref y) H'
noncomputable def Hl (C:Addr):Sp:=λvs H Q _=>∃(bk gn pt wl:Addr) (S:Dg.Bk) (gt:List Int) (G:Int) (p n i:Nat) (xs:List V) (xC:List Dg.Wy) (ws:Dg.Wy),vs=[.ref bk,.ref gn,.ref pt,.ref wl]/\mi C H bk S/\mi C H gn (gt,G)/\H pt=some (.lst [.int (p:Int)])/\H wl=some (.lst xs)/\bj H (xC.map rh) xs/\xC[p]?=some ws/\Dg.FH n ws/\(∀y∈ws,y.2≠(p:Int))/\
 Dg.wa n G i S/\i<=60/\n<=60/\p<n/\gt.length=n/\0<G/\G<=12/\(∀q,(gt.getD q 0).natAbs<=6*G.toNat)/\
 ∀x H',aq H H'->mi C H' x (Dg.eF gt G ws S p)->Q (.ref x) H'
noncomputable def EqAt (b:List Pl) (ks:List (Option Int)) (p:Nat) (v:Int->Rat):Prop:=∀q k,b[p]?=some q->ks[p]?=some k->v (p:Int)=Dg.vl (Wq.cA q)+Dg.iR (Dg.tt (fc q k)) v (fc q k)
theorem zR {x:Int} (h:0<x) (k:x<=4):x∣12:=by
 have:x=1\/x=2\/x=3\/x=4:=by omega
 rcases this with rfl | rfl | rfl | rfl <;>decide
theorem hU {n:Nat} {q:Pl} (h:AJ n q):Gs (Wq.cA q):=by
 cases q with
 | fin g=>exact h
 | dO g ws=>exact h.1
 | cu w to=>exact⟨by show(-6:Int)<=0;decide,by show(0:Int)<=6;decide,by show(1:Int)<=4;decide,by show(0:Int)<1;decide,by show Nm.g 0 1=1;decide⟩
section WE
variable {b : List Pl} {rk : Int -> Nat} (B : tK b rk)
include B
theorem tK.bot:0<gB b/\gB b<=12/\∀q∈b,(Wq.cA q).2∣gB b:=by
 have h0:∀x∈b.map Wq.cA,0<x.2/\x.2∣12:=λx hx=>by
  obtain⟨q,hq,rfl⟩:=List.mem_map.mp hx
  obtain⟨_,_,g3,g4⟩:=hU (B.ok q hq)
  exact⟨g4.1,zR g4.1 g3⟩
 obtain⟨l1,l2,l3,l4⟩:=Wq.mf (xs:=b.map Wq.cA) (c:=1) (by decide) λx hx=>(h0 x hx).1
 have d:=l4 (Z:=12) ⟨12,by decide⟩ λx hx=>(h0 x hx).2
 exact⟨l1,aa1 (by decide) d,λq hq=>l3 _ (List.mem_map.mpr ⟨q,hq,rfl⟩)⟩
theorem tK.top (p:Nat):((gT b).getD p 0).natAbs<=6* (gB b).toNat:=by
 obtain⟨g0,g1,g2⟩:=B.bot
 unfold gT
 rw[aai,aaf,aaf]
 cases e:b[p]? with
 | none=>exact aar _
 | some q=>
  have hq:=aad e
  obtain⟨h1,h2,h3,h4⟩:=hU (B.ok q hq)
  show(Wq.sc (gB b) (Wq.cA q)).natAbs<=_
  have:=Nm.dz (a:=gB b) h4.1 (g2 q hq)
  unfold Wq.sc
  rw[Int.natAbs_mul]
  exact Nat.mul_le_mul (by omega) (by omega)
theorem tK.gV {p:Nat} {q:Pl} (e:b[p]?=some q):((gT b).getD p 0:Rat) / (gB b:Rat)=Dg.vl (Wq.cA q):=by
 obtain⟨g0,g1,g2⟩:=B.bot
 have hq:=aad e
 obtain⟨h1,h2,h3,h4⟩:=hU (B.ok q hq)
 have ee:(gT b).getD p 0=Wq.sc (gB b) (Wq.cA q):=by
  unfold gT
  rw[aai,aaf,aaf,e]
  rfl
 rw[ee]
 exact(Dg.tI h4.1 g0 (Wq.j5 (g2 q hq)).symm).symm
theorem tK.off {p:Nat} {q:Pl} {k:Option Int} (e:b[p]?=some q) (pk:qZ q k):∀y∈fc q k,y.2≠(p:Int):=λy hy z=>by
 have h1:=(kF (B.ok q (aad e)) pk).2 y hy
 have h2:=B.dn.dn p q e _ h1
 rw[z] at h2
 omega
theorem BS {ks:List (Option Int)} {p i:Nat} {q:Pl} {k:Option Int} {S:Dg.Bk} (e:b[p]?=some q) (ek:ks[p]?=some k) (pk:qZ q k) (W:Dg.wa b.length (gB b) i S):EqAt b ks p (Dg.val (Dg.eF (gT b) (gB b) (fc q k) S p)):=by
 intro q' k' e' u6
 rw[e] at e'
 rw[ek] at u6
 cases e'
 cases u6
 obtain⟨g0,_,_⟩:=B.bot
 obtain⟨jK,_⟩:=kF (B.ok q (aad e)) pk
 have d0:0<Dg.tt (fc q k):=by have:=jK.tt;omega
 have hp:p<b.length:=(List.getElem?_eq_some_iff.mp e).1
 rw[Dg.zG d0 g0 W.pos W.dv (by rw[W.len];exact hp) (B.gV e)]
 congr 1
 refine Dg.cU λx hx=>?_
 refine(Dg.jy d0 W.pos λz=>?_).symm
 have:=B.off e pk x hx
 have:=(jK.2 x hx).2.2.1
 omega
theorem zS {ks:List (Option Int)} {p p' i:Nat} {q:Pl} {k:Option Int} {S:Dg.Bk} (e:b[p]?=some q) (pk:qZ q k) (W:Dg.wa b.length (gB b) i S) (ne:p≠p') (hh:EqAt b ks p' (Dg.val S)) (LD:∀q' k',b[p']?=some q'->ks[p']?=some k'->∀x∈fc q' k',0<=x.2/\x.2≠(p:Int)):EqAt b ks p' (Dg.val (Dg.eF (gT b) (gB b) (fc q k) S p)):=by
 intro q' k' e' u6
 obtain⟨jK,_⟩:=kF (B.ok q (aad e)) pk
 have d0:0<Dg.tt (fc q k):=by have:=jK.tt;omega
 rw[Dg.jy d0 W.pos (by omega),hh q' k' e' u6]
 congr 1
 refine Dg.cU λx hx=>?_
 refine(Dg.jy d0 W.pos λz=>?_).symm
 have:=LD q' k' e' u6 x hx
 omega
end WE
theorem EE {t B:Int} (h:0<B) (b:Bt 4000 B):Wq.Lw (Wq.low t B)/\Bt 5000 (Wq.low t B).2:=by
 refine⟨Wq.dJ h,Bt.mono (b.le ?_) (by decide)⟩
 obtain⟨d,_⟩:=Wq.uV (a:=t) (s:=t) h h rfl
 have:=aa1 h d
 have:=(Wq.dJ (a:=t) h).1
 omega
theorem BU {S:Dg.Bk} (h:0<S.2) (q:Int) (hq:q.toNat<S.1.length):Dg.vl (Wq.bX (S.1.map λt=>Wq.low t S.2) q)=Dg.val S q:=by
 unfold Wq.bX Dg.val
 rw[aai,aaf,aai,aac hq]
 exact Dg.qO h
theorem EF {b:List Pl} {ks:List (Option Int)} {p:Nat} {q:Pl} {k:Option Int} (e:b[p]?=some q) (ek:ks[p]?=some k):(dW b ks)[p]?=some (fc q k):=by
 unfold dW
 rw[List.getElem?_zipWith,e,ek]
section WT
variable {b : List Pl} {rk : Int -> Nat} (B : tK b rk) {ps : List Int} (td : Pr.Told b ps)
include B td
theorem BV {i:Nat} (h:i<b.length):∃p:Nat,ps[i]?=some (p:Int)/\p<b.length:=by
 have lp:=(B.dn.pm td).length_eq
 rw[aab,aaE] at lp
 have e:ps[i]?=some ps[i]:=aac (by omega)
 obtain⟨p,hp,ep⟩:=List.mem_map.mp ((B.dn.pm td).mem_iff.mp (aad e))
 exact⟨p,by rw[e,<-ep],List.mem_range.mp hp⟩
theorem zT:ps.length=b.length:=by
 have lp:=(B.dn.pm td).length_eq
 rwa [aab,aaE] at lp
theorem nX {i j:Nat} {p:Int} (h:ps[i]?=some p) (h':ps[j]?=some p):i=j:=by
 obtain⟨h1,h2⟩:=List.getElem?_eq_some_iff.mp h
 obtain⟨h3,h4⟩:=List.getElem?_eq_some_iff.mp h'
 exact(List.getElem_inj td.nd).mp (h2.trans h4.symm)
theorem zU {ks:List (Option Int)} (pk:∀(i:Nat) q k,b[i]?=some q->ks[i]?=some k->qZ q k) {i j p p':Nat} (h:ps[i]?=some (p:Int)) (h':ps[j]?=some (p':Int)) (le:j<=i) {q':Pl} {k':Option Int} (e:b[p']?=some q') (ek:ks[p']?=some k'):∀x∈fc q' k',0<=x.2/\x.2≠(p:Int):=λx hx=>by
 obtain⟨jK,wg⟩:=kF (B.ok _ (aad e)) (pk _ _ _ e ek)
 refine⟨(jK.2 x hx).2.2.1,λz=>?_⟩
 have hg:x.2∈Bf.fH b (p':Int):=by
  unfold Bf.fH
  rw[aap,e]
  exact wg x hx
 obtain⟨j',lt,e'⟩:=B.dn.ahead td h' hg
 rw[z] at e'
 have:=nX B td e' h
 omega
end WT
theorem set_same {α:Type} {ss:List α} {p:Nat} {x:α} (h:ss[p]?=some x):ss.set p x=ss:=by
 apply aa3
 intro i
 by_cases c:p=i
 ·subst c
  rw[aay (List.getElem?_eq_some_iff.mp h).1,h]
 ·rw[aaA c]
noncomputable def sgn (aR:Int):Int:=if aR=1 then 1 else -1
theorem u7 (aR:Int):sgn aR=1\/sgn aR= -1:=by
 unfold sgn
 split
 ·exact .inl rfl
 ·exact .inr rfl
noncomputable def gf (aR:Int) (to ts:List Int) (w:Nat):Prop:=∀t∈to,sgn aR*ts.getD t.toNat 0<=sgn aR*ts.getD (to.getD w 0).toNat 0
noncomputable def jz (aR:Int):Rat:=if aR=1 then 1 else -1
theorem tM {aR:Int} {x y:Rat} (h:jz aR*x<=jz aR*y) (k:jz aR*y<=jz aR*x):x=y:=by
 unfold jz at h k
 by_cases c:aR=1
 ·rw[if_pos c] at h k
  clear c
  grind
 ·rw[if_neg c] at h k
  clear c
  grind
noncomputable def o5 (b:List Pl) (p:Nat) (v:Int->Rat):Prop:=∀q,b[p]?=some q->match q with
 | .fin g=>v (p:Int)=Dg.vl g
 | .dO g ws=>v (p:Int)=Dg.vl g+Dg.iR (Dg.tt ws) v ws
 | .cu aR to=>(∃t∈to,v (p:Int)=v t)/\∀t∈to,jz aR*v t<=jz aR*v (p:Int)
theorem wb {b:List Pl} {rk:Int->Nat} {v v':Int->Rat} (B:tK b rk) (h:∀p,o5 b p v) (h':∀p,o5 b p v'):∀(m p:Nat),rk (p:Int)<m->p<b.length->v (p:Int)=v' (p:Int)
 | 0,_,z,_=>absurd z (aa8 _)
 | m+1,p,hm,hp=>by
  have e:b[p]?=some b[p]:=aac hp
  have ih:∀g∈Lv.eO b[p],v g=v' g:=λg hg=>by
   have r:=B.dn.dn p _ e g hg
   obtain⟨g0,g1⟩:=B.dn.good.jH _ (aad e) g hg
   obtain⟨j,rfl⟩:=aa0 g0
   exact wb B h h' m j (by omega) (by omega)
  have h1:=h p _ e
  have h2:=h' p _ e
  cases q:b[p] with
  | fin g=>rw[q] at h1 h2;exact h1.trans h2.symm
  | dO g ws=>
   rw[q] at h1 h2 ih
   refine h1.trans (Eq.trans ?_ h2.symm)
   congr 1
   exact Dg.cU λx hx=>ih _ (List.mem_map.mpr ⟨x,hx,rfl⟩)
  | cu aR to=>
   rw[q] at h1 h2 ih
   obtain⟨⟨t1,m1,e1⟩,g1⟩:=h1
   obtain⟨⟨t2,m2,e2⟩,g2⟩:=h2
   have a1:=g1 t2 m2
   have a2:=g2 t1 m1
   have i1:=ih t1 m1
   have i2:=ih t2 m2
   rw[i2,<-e2] at a1
   rw[<-i1,<-e1] at a2
   exact tM a2 a1
theorem EG {S:Dg.Bk} (h:0<S.2) {s a b:Int} (hs:s=1\/s= -1) (k:s*S.1.getD a.toNat 0<=s*S.1.getD b.toNat 0):(s:Rat)*Dg.val S a<=(s:Rat)*Dg.val S b:=by
 unfold Dg.val
 have h1:(0:Rat)< (S.2:Rat):=Rat.intCast_pos.mpr h
 have k2:(s:Rat)* (S.1.getD a.toNat 0:Rat)<=(s:Rat)* (S.1.getD b.toNat 0:Rat):=by rw[<-Rat.intCast_mul,<-Rat.intCast_mul];exact Rat.intCast_le_intCast.mpr k
 generalize (S.2:Rat)=B at *
 generalize ((S.1.getD a.toNat 0:Int):Rat)=x at *
 generalize ((S.1.getD b.toNat 0:Int):Rat)=y at *
 generalize (s:Rat)=u at *
 have e1:u* (x / B)=(u*x)*B⁻¹:=by rw[Rat.div_def];grind
 have e2:u* (y / B)=(u*y)*B⁻¹:=by rw[Rat.div_def];grind
 rw[e1,e2]
 exact Rat.mul_le_mul_of_nonneg_right k2 (Rat.le_of_lt (Rat.inv_pos.mpr h1))
theorem wc {x y:Wq.Sh} (hx:0<x.2) (hy:0<y.2):x.1*y.2 >y.1*x.2↔Dg.vl y<Dg.vl x:=by
 have h1:(0:Rat)< (x.2:Rat):=Rat.intCast_pos.mpr hx
 have h2:(0:Rat)< (y.2:Rat):=Rat.intCast_pos.mpr hy
 have h3:=Rat.mul_pos h1 h2
 have e1:((x.1*y.2:Int):Rat)=Dg.vl x* ((x.2:Rat)* (y.2:Rat)):=by
  rw[Rat.intCast_mul]
  unfold Dg.vl
  have:=Rat.ne_of_gt h1
  have:=Rat.ne_of_gt h2
  grind
 have e2:((y.1*x.2:Int):Rat)=Dg.vl y* ((x.2:Rat)* (y.2:Rat)):=by
  rw[Rat.intCast_mul]
  unfold Dg.vl
  have:=Rat.ne_of_gt h1
  have:=Rat.ne_of_gt h2
  grind
 show y.1*x.2<x.1*y.2↔_
 rw[<-Rat.intCast_lt_intCast,e1,e2]
 constructor
 ·intro h
  exact Rat.lt_of_mul_lt_mul_right h (Rat.le_of_lt h3)
 ·intro h
  exact Rat.mul_lt_mul_of_pos_right h h3
noncomputable def zV:Sp:=λvs H Q _=>∃(v:V) (m:Addr) (aR:Int) (to ts:List Int),vs=[v,.ref m]/\Rep H (oJ (.cu aR to)) v/\H m=some (.lst (ts.map V.int))/\0<to.length/\to.length<=3/\(∀g∈to,0<=g/\g< (ts.length:Int))/\(∀t∈ts,Bt 4000 t)/\
 ∀(w:Nat) H',aq H H'->w<to.length->gf aR to ts w->Q (.int (w:Int)) H'
noncomputable def p9:Pl->Int->Bool
 | .cu w _,aR=>decide (w=aR)
 | _,_=>false
noncomputable def BW:Sp:=λvs H Q _=>∃(bl pt:Addr) (aR:Int) (b:List Pl) (p:Nat) (q:Pl),vs=[.ref bl,.ref pt,.int aR]/\Rep H (uM b) (.ref bl)/\H pt=some (.lst [.int (p:Int)])/\b[p]?=some q/\
 ∀l H',aq H H'->H l=none->H' l=some (.lst (if p9 q aR=true then [.int (p:Int)] else []))->Q (.ref l) H'
noncomputable def Hm (H:Hp) (l:Addr) (p:Nat) (aR:Int) (to ts:List Int) (tk:Int):Prop:=∃w:Nat,w<to.length/\gf aR to ts w/\((ts.getD (to.getD w 0).toNat 0=ts.getD tk.toNat 0/\H l=some (.lst []))\/(ts.getD (to.getD w 0).toNat 0≠ts.getD tk.toNat 0/\∃t,H l=some (.lst [.ref t])/\H t=some (.tup [.int (p:Int),.int (w:Int)])))
noncomputable def EH:Sp:=λvs H Q _=>∃(bl pl wl m:Addr) (b:List Pl) (p:Nat) (c:Bool) (ts:List Int) (xs:List V) (xC:List Dg.Wy) (ws:Dg.Wy) (q:Pl),vs=[.ref bl,.ref pl,.ref wl,.ref m]/\Rep H (uM b) (.ref bl)/\H pl=some (.lst (if c=true then [.int (p:Int)] else []))/\H wl=some (.lst xs)/\bj H (xC.map rh) xs/\xC[p]?=some ws/\b[p]?=some q/\AJ ts.length q/\H m=some (.lst (ts.map V.int))/\(∀t∈ts,Bt 4000 t)/\
 (c=true->∃aR to tk,q=.cu aR to/\ws=[(1,tk)]/\0<=tk/\tk< (ts.length:Int))/\
 ∀l H',aq H H'->(c=false->H' l=some (.lst []))->(c=true->∀aR to tk,q=.cu aR to->ws=[(1,tk)]->Hm H' l p aR to ts tk)->Q (.ref l) H'
noncomputable def Hn (C:Addr):Sp:=λvs H Q _=>∃(bk gn pt bl wl:Addr) (S:Dg.Bk) (b:List Pl) (rk:Int->Nat) (ks:List (Option Int)) (p i:Nat) (xs:List V) (q:Pl) (k:Option Int),vs=[.ref bk,.ref gn,.ref pt,.ref bl,.ref wl]/\mi C (c7 H wl) bk S/\mi C (c7 H wl) gn (gT b,gB b)/\c7 H wl pt=some (.lst [.int (p:Int)])/\Rep (c7 H wl) (uM b) (.ref bl)/\tK b rk/\H wl=some (.lst xs)/\bj (c7 H wl) ((dW b ks).map rh) xs/\ks.length=b.length/\b[p]?=some q/\ks[p]?=some k/\qZ q k/\
 Dg.wa b.length (gB b) i S/\i<60/\
 ∀x k' qw H',aq (c7 H wl) (c7 H' wl)->H' wl=some (.lst qw)->bj (c7 H' wl) ((dW b (ks.set p k')).map rh) qw->qZ q k'->(∀aR to,q=.cu aR to->gf aR to S.1 (k'.getD 0).toNat)->mi C (c7 H' wl) x (Dg.eF (gT b) (gB b) (fc q k') S p)->Q (.ref x) H'
noncomputable def AK (ss:List Wq.Sh) (p:Nat):Pl->Option Int
 | .cu _ to=>some (((to.map (Wq.bX ss)).idxOf (Wq.bX ss (p:Int)):Nat):Int)
 | _=>none
noncomputable def Ho:Sp:=λvs H Q _=>∃(v:V) (x:Addr) (wl:Addr) (q:Pl) (n p:Nat) (ss:List Wq.Sh),vs=[v,.ref x,.ref wl]/\Rep H (oJ q) v/\AJ n q/\ss.length=n/\p<n/\H x=some (.tup (Pr (Wq.bX ss (p:Int)).1 (Wq.bX ss (p:Int)).2))/\Rep H (.lst (ss.map bf)) (.ref wl)/\(∀aR to,q=.cu aR to->∃t∈to,Wq.bX ss (p:Int)=Wq.bX ss t)/\∀H',aq H H'->Q (c5 (AK ss p q)) H'
noncomputable def Hq (tp:Addr):Sp:=λvs H Q _=>∃(a:Addr) (b:List Pl) (rk:Int->Nat),vs=[.ref a]/\Rep H (uM b) (.ref a)/\tK b rk/\H tp=some (.qY dsc)/\
 ∀t l1 l2 (ss:List Wq.Sh) (ks:List (Option Int)) H',aq H H'->H' t=some (.tup [.ref l1,.ref l2])->Rep H' (.lst (ss.map bf)) (.ref l1)->H' l2=some (.lst (ks.map c5))->ss.length=b.length->ks.length=b.length->(∀x∈ss,Wq.Lw x/\Bt 5000 x.2)->(∀p,o5 b p λi=>Dg.vl (Wq.bX ss i))->(∀p q,b[p]?=some q->ks[p]?=some (AK ss p q))->Q (.ref t) H'
noncomputable def FI (K:PySem.W.Frag):Sp:=λvs H Q _=>∃a ns k,vs=[.ref a,.int k]/\aV K H a (List.map V.int ns)/\0<=k/\k<1000/\∀n,Q (.int n) H
noncomputable def nY:Sp:=λvs H Q _=>∃c m,vs=[.int c,.int m]/\0<m/\∀r,0<=r->r<m->Q (.int r) H
noncomputable def gO:Sp:=λvs H Q _=>∃a b,vs=[.int a,.int b]/\0<b/\Bt 8900 b/\∀p H',aq H H'->H p=none->H' p=some (.tup (Pr (Nm.st a b) (Nm.sb a b)))->Q (.ref p) H'
noncomputable def Rm (a:Wq.Sh):Prop:=Bt 4000 a.1/\Bt 4000 a.2/\0<a.2
noncomputable def zW:Sp:=λvs H Q _=>∃p q a b,vs=[.ref p,.ref q]/\H p=some (.tup (Pr a.1 a.2))/\H q=some (.tup (Pr b.1 b.2))/\Rm a/\Rm b/\
 ∀r H',aq H H'->H r=none->H' r=some (.tup (Pr (Wq.pl a b).1 (Wq.pl a b).2))->Q (.ref r) H'
noncomputable def zX:Sp:=λvs H Q _=>∃p q a b,vs=[.ref p,.ref q]/\H p=some (.tup (Pr a.1 a.2))/\H q=some (.tup (Pr b.1 b.2))/\Rm a/\Rm b/\
 ∀r H',aq H H'->H r=none->H' r=some (.tup (Pr (Wq.tm a b).1 (Wq.tm a b).2))->Q (.ref r) H'
noncomputable def zY:Sp:=λvs H Q _=>∃c n,vs=[.int c,.int n]/\0<n/\n<=60/\∀l H' s,aq H H'->H l=none->H' l=some (.lst (List.map cY s))->s.Perm (List.range n.toNat)->Q (.ref l) H'
noncomputable def EI:Sp:=λvs H Q _=>∃p x y,vs=[.ref p]/\H p=some (.tup (Pr x y))/\0<y/\Bt 5000 y/\Nm.g x y=1/\∀H',aq H H'->Q (.bl true) H'
noncomputable def zZ:Sp:=λvs H Q _=>∃(a:Addr) (ws:List (Int×Int)),vs=[.ref a,.int (ws.length:Nat)]/\Rep H (.lst (ws.map bf)) (.ref a)/\ws.length<=60/\(∀p∈ws,0<p.2/\Bt 5000 p.2/\Nm.g p.1 p.2=1)/\∀H',aq H H'->Q (.bl true) H'
noncomputable def z0 (s:List Nat) (k:Nat) (q:Pl):Prop:=AJ s.length q/\∀g∈Lv.eO q,∃j,j<k/\s[j]?=some g.toNat/\0<=g
noncomputable def EJ:Sp:=λvs H Q _=>∃(c:Int) (k:Nat) (l:Addr) (s:List Nat),vs=[.int c,.int (k:Int),.ref l]/\H l=some (.lst (List.map cY s))/\k<s.length/\s.length<=60/\(∀x∈s,x<s.length)/\∀v H' q,aq H H'->Rep H' (oJ q) v->z0 s k q->Q v H'
noncomputable def CN (K:PySem.W.Frag):Sp:=λvs H Q _=>∃(a l:Addr) (ns:List Int) (s:List Nat),vs=[.ref a,.int (s.length:Nat),.ref l]/\aV K H a (List.map V.int ns)/\H l=some (.lst (List.map cY s))/\s.Perm (List.range s.length)/\0<s.length/\s.length<=60/\
 ∀l' H' (b:List Pl),aq H H'->H l'=none->Rep H' (uM b) (.ref l')->b.length=s.length->(∀(k:Nat) p q,s[k]?=some p->b[p]?=some q->z0 s k q)->Q (.ref l') H'
noncomputable def FJ (H:Hp) (W:Int) (p:Int×Int) (x:V):Prop:=∃t r,x=.ref t/\H t=some (.tup [.ref r,.int p.2])/\H r=some (.tup (Pr (Wq.low p.1 W).1 (Wq.low p.1 W).2))
theorem FJ.mono {H H':Hp} {W:Int} {p:Int×Int} {x:V} (h:FJ H W p x) (s:aq H H'):FJ H' W p x:=by
 obtain⟨t,r,e,h1,h2⟩:=h
 exact⟨t,r,e,s _ _ h1,s _ _ h2⟩
noncomputable def CO:Sp:=λvs H Q _=>∃(v:V) (q:Pl) (n:Nat) (k:Option Int),vs=[v,c5 k]/\Rep H (oJ q) v/\AJ n q/\qZ q k/\
 ∀l us H',aq H H'->H l=none->H' l=some (.lst us)->us.length=(fc q k).length->(∀(j:Nat) p x,(fc q k)[j]?=some p->us[j]?=some x->FJ H' (Dg.tt (fc q k)) p x)->Q (.ref l) H'
noncomputable def wd (K:PySem.W.Frag) (tp:Addr):Sp:=λvs H Q _=>∃(a:Addr) (ns:List Int),vs=[.ref a]/\H tp=some (.qY dsc)/\aV K H a (ns.map V.int)/\ns.length<=63/\∀H',Q (.bl true) H'
section
variable {P : Program} {w : World} {K : PySem.W.Frag} {mg : Str -> Option Value} {base : Heap}
variable {ar tc tp : Addr}
theorem nZ {H:Hp} {ws:List (Int×Int)} {xs:List V} (rl:bj H (ws.map bf) xs) {i:Nat} {x:V} (ex:xs[i]?=some x):∃p t,ws[i]?=some p/\x=.ref t/\H t=some (.tup [.int p.1,.int p.2]):=by
 obtain⟨d,ed,rd⟩:=rl.get ex
 rw[aaf] at ed
 obtain⟨p,ep,rfl⟩:=Option.map_eq_some_iff.mp ed
 obtain⟨t,rfl,ht⟩:=bJ.mp rd
 exact⟨p,t,ep,rfl,ht⟩
theorem tN:aH ["place"] ["place"] (ab (top 1)):=⟨rfl,rfl,rfl,by decide +kernel,rfl,by decide +kernel,by decide +kernel⟩
theorem Aa (T:Txt K mg ar tc):bO P w K mg base (bK P w) 1 "goals" ["place"] tG:=by
 refine T.BI.dX (λ_ _ _ _ _ _=>iQ λ_=>rfl) λf fd F=>F.d5 tN (λvs H Q E h=>?_) (λcn A outer s H vs Q E hr h=>?_)
 ·obtain⟨_,_,rfl,_⟩:=h;rfl
 ·obtain⟨v,q,rfl,rq,lq,kk⟩:=h
  have nd:=tN.nd
  refine⟨_,(ae (bN (aO cJ (aw aA (pv 0) ag (λ_ _=>rfl)) cP (aQ _)) (aj (aI (bE rfl (N:=["place"]) (so:=ab (top 1)) (N':=["weight","to"]) (k:=2) (fr:=[]) rfl rfl ⟨rfl,by decide +kernel,by decide +kernel,by decide +kernel,rfl,by decide +kernel,by decide +kernel⟩ (aS (K:=K) (aw aA (pv 0) ag (λ_ _=>rfl))) (λ_ _ _ _ _=>(bU (K:=K) (n:=2) rfl (aM (ax (i:=0) (show(["weight","to"]:List Str).Nodup by decide +kernel) rfl (Or.inl rfl)) (aM (ax (i:=1) (show(["weight","to"]:List Str).Nodup by decide +kernel) rfl (Or.inl rfl)) bR)))) (λ_ _ _ _ _=>bx)
   (λ_ _ _ _ _=>(pv 1)))))
   ba)
  (ae (bN (aO cJ (aw aA (pv 0) ag (λ_ _=>rfl)) cP (aQ _)) (aj (aI (gY (dm (K:=K)) (by rfl) T.z_list rfl (aa (aw aA (pv 0) ag (λ_ _=>rfl)) af (se rfl)) (he:=se rfl) (hpl:=na rfl))))
   ba)
  (aj (aI (cS af))))),?_⟩
  cases q with
  | fin w=>
   obtain⟨p,r,rfl,hp,_⟩:=cG.mp rq
   simp_all only[hp]
   rw[if_neg (by decide +kernel),if_neg (by decide +kernel)]
   exact⟨aar _,λl nl=>kk _ _ (ao nl) nl ah⟩
  | dO w ws=>
   obtain⟨p,r,l,xs,rfl,hp,_,hl,rl⟩:=cH.mp rq
   simp_all only[hp]
   refine⟨⟨_,aV.of hl⟩,?_⟩
   have lx:=rl.length
   rw[aab] at lx
   have S:Src (ug K l) (aq H) ws.length (λi x H H3=>H3=H/\xs[i]?=some x):=by rw[lx];exact src_list (λH' s'=>aV.of (s' _ _ hl))
   refine fG ws (λp=>some p.2) S (λ_ _ _ _ h=>h.1) (by rw[sizeLine_eq];have:ws.length<=100:=(by simpa [Lv.eO] using lq);omega) ?_ ?_
   ·rintro i p x ep ⟨_,ex⟩
    obtain⟨p',t,oO,rfl,ht⟩:=nZ rl ex
    rw[ep] at oO
    cases oO
    refine⟨t,_,_,rfl,dR.of ht,λY N y1 _=>?_⟩
    simp_all only[gx]
    exact y1 _ rfl
   ·intro D n1 n2
    rw[dq]
    exact kk _ _ (ao n2) n2 ah
  | cu w to=>
   obtain⟨p,l,rfl,hp,hl⟩:=cq.mp rq
   simp_all only[hp]
   rw[if_neg (by decide +kernel)]
   exact⟨_,.inl (aV.of hl),λm nm=>kk _ _ (ao nm) nm ah⟩
theorem BX {fs:Lv.Fs} {q:Pl}:Lv.CC fs q=match q with | .dO _ _=>(Lv.eO q).any (λg=>(Lv.lk fs g).isSome) | _=>(Lv.eO q).all λg=>(Lv.lk fs g).isSome:=by
 cases q <;>rfl
theorem kG:aH ["place","found","levelled"] ["place","found"] (ab (top 2)):=⟨rfl,rfl,rfl,by decide +kernel,rfl,by decide +kernel,by decide +kernel⟩
theorem EK (T:Txt K mg ar tc):bO P w K mg base (bK P w) 2 "is_ready" ["place","found"] zx:=by
 have qR:bO P w K mg base (bK P w) 1 "goals" ["place"] tG:=Aa T
 refine T.uW.dX (λ_ _ _ _ _ _=>d9 λ_ _=>rfl) λf fd F=>F.d5 kG (λvs H Q E h=>?_) (λcn A outer s H vs Q E hr h=>?_)
 ·obtain⟨_,_,_,_,rfl,_⟩:=h;rfl
 ·obtain⟨v,q,ff,fs,rfl,rq,hf,lq,gq,kk⟩:=h
  have nd:=kG.nd
  refine⟨_,(ae (eC (i:=2) rfl nd rfl rfl (N:=["place","found","levelled"]) (so:=ab (top 2)) (N':=["to","found"]) (k:=1) (fr:=[1]) rfl rfl ⟨rfl,by decide +kernel,by decide +kernel,by decide +kernel,rfl,by decide +kernel,by decide +kernel⟩ (aS (K:=K) (aJ qR (hr.mono (by decide)) rfl ay.pass (aa (pv 0) af (se rfl)) (he:=se rfl) (hpl:=na rfl))) (λ_ _ _ _ _=>(ax (i:=0) (show(["to","found"]:List Str).Nodup by decide +kernel) rfl (Or.inl rfl))) (λ_ _ _ _ _=>bx)
   (λ_ _ _ _ _=>(dS AX (aw aB (pv 1) (pv 0) (λ_ _=>rfl)) dF (aQ _))))
  (ae (bN (aO cJ (aw aA (pv 0) ag (λ_ _=>rfl)) cP (aQ _)) (aj (aI (aK (sj (K:=K)) (by rfl) T.z_any rfl (aa (pv 2) af (se rfl)) (he:=se rfl) (hpl:=na rfl))))
   ba)
  (aj (aI (aK (km (K:=K)) (by rfl) T.z_all rfl (aa (pv 2) af (se rfl)) (he:=se rfl) (hpl:=na rfl)))))),?_⟩
  obtain⟨p,k,r,rfl,hp⟩:=DX rq
  simp_all only[tG]
  refine⟨q,rq,lq,λl H1 s1 nl hl=>⟨⟨_,aV.of hl⟩,?_⟩⟩
  have LF:=s1 _ _ hf
  have To:=s1 _ _ hp
  have S:Src (ug K l) (aq H1) (Lv.eO q).length (λi x H H3=>H3=H/\(List.map V.int (Lv.eO q))[i]?=some x):=by
   have:=src_list (K:=K) (a:=l) (xs:=List.map V.int (Lv.eO q)) (Ok:=aq H1) (λH' s'=>aV.of (s' _ _ hl))
   rw[aab] at this
   exact this
  refine pM (Lv.eO q) (λg=>some (.bl (Lv.lk fs g).isSome)) S (λ_ _ _ _ h=>h.1) (by rw[sizeLine_eq];omega) ?_ ?_
  ·rintro i g x eg ⟨_,ex⟩ Y N y1 _
   rw[aaf,eg] at ex
   cases ex
   have:=gq g (aad eg)
   simp_all only[gx,LF,CL this.1 this.2]
   have:=y1 _ rfl
   rw[show(!decide (c5 (Lv.lk fs g)=V.cc))=(Lv.lk fs g).isSome from by cases Lv.lk fs g <;>simp [c5]]
   exact this
  ·intro D n1 n2
   rw[dq]
   have Wh:List.map (λg=>V.bl (Lv.lk fs g).isSome) (Lv.eO q)=List.map V.bl ((Lv.eO q).map λg=>(Lv.lk fs g).isSome):=by rw[List.map_map];rfl
   rw[Wh]
   have sD:=ao (o:=.lst (List.map V.bl ((Lv.eO q).map λg=>(Lv.lk fs g).isSome))) n2
   have fin:=kk _ (s1.trans sD)
   rw[BX] at fin
   cases q with
   | fin w=>
    obtain⟨p',r',e,rZ,_⟩:=cG.mp rq
    cases e
    have wV:=sD _ _ (s1 _ _ rZ)
    simp only[wV,at0]
    refine⟨_,rfl,_,rfl,rfl,?_⟩
    rw[if_neg (by decide +kernel)]
    refine⟨_,aV.of ah,?_⟩
    rw[List.all_map]
    exact fin
   | dO w ws=>
    obtain⟨p',r',l',xs,e,rZ,_⟩:=cH.mp rq
    cases e
    have wV:=sD _ _ (s1 _ _ rZ)
    simp only[wV,at0]
    refine⟨_,rfl,_,rfl,rfl,?_⟩
    rw[if_pos (by decide +kernel)]
    refine⟨_,aV.of ah,?_⟩
    rw[List.any_map]
    exact fin
   | cu w to=>
    obtain⟨p',l',e,rZ,_⟩:=cq.mp rq
    cases e
    have wV:=sD _ _ (s1 _ _ rZ)
    simp only[wV,at0]
    refine⟨_,rfl,_,rfl,rfl,?_⟩
    rw[if_neg (by decide +kernel)]
    refine⟨_,aV.of ah,?_⟩
    rw[List.all_map]
    exact fin
theorem gh:aH ["board","found"] ["board","found"] (ab (top 3)):=⟨rfl,rfl,rfl,by decide +kernel,rfl,by decide +kernel,by decide +kernel⟩
theorem EL (T:Txt K mg ar tc):bO P w K mg base (bK P w) 3 "ready_places" ["board","found"] vU:=by
 have u9:bO P w K mg base (bK P w) 2 "is_ready" ["place","found"] zx:=EK T
 refine T.nM.dX (λ_ _ _ _ _ _=>d9 λ_ _=>rfl) λf fd F=>F.d5 gh (λvs H Q E h=>?_) (λcn A outer s H vs Q E hr h=>?_)
 ·obtain⟨_,_,_,_,rfl,_⟩:=h;rfl
 ·obtain⟨a,b,ff,fs,rfl,rb,hf,lf,lb,gl,gb,kk⟩:=h
  have nd:=gh.nd
  refine⟨_,(aj (aI (bE rfl (N:=["board","found"]) (so:=ab (top 3)) (N':=["number","place","found"]) (k:=2) (fr:=[1]) rfl rfl ⟨rfl,by decide +kernel,by decide +kernel,by decide +kernel,rfl,by decide +kernel,by decide +kernel⟩ (cE (K:=K) rfl T.z_enumerate (aa (pv 0) af (se rfl))) (λ_ _ _ _ _=>(bU (K:=K) (n:=2) rfl (aM (ax (i:=0) (show(["number","place","found"]:List Str).Nodup by decide +kernel) rfl (Or.inl rfl)) (aM (ax (i:=1) (show(["number","place","found"]:List Str).Nodup by decide +kernel) rfl (Or.inl rfl)) bR)))) (λ_ _ _ _ _=>(lW (PW.pt (pw_and (aO uo (aw aB (pv 2) (pv 0) (λ_ _=>rfl)) dF (aQ _)) (pw_and1 (fu (aJ u9 (hr.mono (by decide)) rfl ay.pass (aa (pv 1) (aa (pv 2) af (se rfl)) (se rfl)) (he:=se rfl) (hpl:=na rfl))))))))
   (λ_ _ _ _ _=>(pv 0))))),?_⟩
  obtain⟨_,xs,e,ha,rl⟩:=aL.mp rb
  cases e
  have lx:=rl.length
  rw[aab] at lx
  simp_all only[]
  refine⟨⟨_,aV.of ha⟩,?_⟩
  have S:Src (GJ K a) (aq H) (List.range b.length).length (λi v H H3=>∃p x,H p=none/\v=.ref p/\xs[i]?=some x/\H3=upd H p (.tup [.int i,x])):=by rw[aaE,lx];exact eV (λH' s'=>aV.of (s' _ _ ha))
  refine pN (K:=K) (List.range b.length) (λi=>if Lv.fX b fs i=true then some (cY i) else none) S (λi u v _=>u=.int i/\xs[i]?=some v) ?_ (by rw[aaE,sizeLine_eq];omega) ?_ ?_
  ·rintro i x H1 H2 hi s1 ⟨p,v,np,rfl,ev,rfl⟩
   exact⟨ao np,p,_,_,rfl,dR.of ah,rfl,ev⟩
  ·rintro i j u v H3 ej s3 ⟨rfl,ev⟩ Y N y1 n1
   have:j=i:=by
    obtain⟨h1,h2⟩:=List.getElem?_eq_some_iff.mp ej
    rw[List.getElem_range] at h2
    exact h2.symm
   subst this
   obtain⟨q,eq,rq⟩:=d7 rl ev
   have hj:j<b.length:=(List.getElem?_eq_some_iff.mp eq).1
   have AL:=s3 _ _ hf
   have hq:=aad eq
   simp_all only[AL,CL (show(0:Int)<=(j:Int) by omega) (show(j:Int)< (fs.length:Nat) by omega),zx]
   have er:Lv.fX b fs j=((Lv.lk fs (j:Int)).isNone && Lv.CC fs q):=by
    unfold Lv.fX Lv.lk
    rw[eq,aap]
   by_cases c:Lv.lk fs (j:Int)=none
   ·rw[if_pos (nQ.mpr c)]
    refine⟨q,rq.mono s3,fs,rfl,gl q hq,λg hg=>?_,λH4 s4=>?_⟩
    ·rw[lf];exact gb.jH q hq g hg
    ·by_cases c2:Lv.CC fs q=true
     ·rw[if_pos c2]
      exact y1 _ _ (by rw[if_pos (by rw[er,c,c2];rfl)];rfl) s4
     ·rw[if_neg c2]
      exact n1 _ (by rw[if_neg (by rw[er];simp [c2])]) s4
   ·rw[if_neg (λz=>c (nQ.mp z))]
    have nr:¬Lv.fX b fs j=true:=by
     rw[er]
     cases h:Lv.lk fs (j:Int) with
     | none=>exact absurd h c
     | some u=>simp
    exact n1 _ (if_neg nr) (aq.refl _)
  ·intro H2 s2 D n1 n2
   have e:List.filterMap (λi=>if Lv.fX b fs i=true then some (cY i) else none) (List.range b.length)=List.map cY (Lv.fresh b fs):=g7 cY (Lv.fX b fs) _
   rw[e]
   exact kk _ _ (s2.trans (ao n2)) (none_of s2 n2) ah
theorem qa:aH ["board","found","level","fresh","number"] ["board"] (ab (top 4)):=⟨rfl,rfl,rfl,by decide +kernel,rfl,by decide +kernel,by decide +kernel⟩
theorem EM (T:Txt K mg ar tc):bO P w K mg base (bK P w) 4 "levels" ["board"] zy:=by
 have gP:bO P w K mg base (bK P w) 3 "ready_places" ["board","found"] vU:=EL T
 refine T.zv.dX (λ_ _ _ _ _ _=>iQ λ_=>rfl) λf fd F=>F.d5 qa (λvs H Q E h=>?_) (λcn A outer s H vs Q E hr h=>?_)
 ·obtain⟨_,_,rfl,_⟩:=h;rfl
 ·obtain⟨a,b,rfl,rb,lb,gl,gb,kk⟩:=h
  have nd:=qa.nd
  refine⟨_,(ae (eC (i:=1) rfl nd rfl rfl (N:=["board","found","level","fresh","number"]) (so:=ab (top 4)) (N':=["place"]) (k:=1) (fr:=[]) rfl rfl ⟨rfl,by decide +kernel,by decide +kernel,by decide +kernel,rfl,by decide +kernel,by decide +kernel⟩ (aS (K:=K) (pv 0)) (λ_ _ _ _ _=>(ax (i:=0) (show(["place"]:List Str).Nodup by decide +kernel) rfl (Or.inl rfl))) (λ_ _ _ _ _=>bx)
   (λ_ _ _ _ _=>(gE (aO cJ (aw aA (pv 0) ag (λ_ _=>rfl)) cP (aQ _)) ag dF)))
  (ae (aD (i:=2) nd rfl (Or.inl rfl) ag)
  (ae (aD (i:=3) nd rfl (Or.inl rfl) (aJ gP (hr.mono (by decide)) rfl ay.pass (aa (pv 0) (aa (pv 1) af (se rfl)) (se rfl)) (he:=se rfl) (hpl:=na rfl)))
  (ae (gF PassesOwn.never (aO ik (aK bC (by rfl) T.z_len aau (aa (pv 3) af (se rfl)) (he:=se rfl) (hpl:=na rfl)) ag (aQ _)) (ae (b9 PassesOwn.never rfl (aS (K:=K) (pv 3)) (ax (i:=4) nd rfl (Or.inl rfl)) (aj (dH (pv 2) (dG (pv 1) (pv 4) set_list))))
  (ae (aD (i:=2) nd rfl (Or.inl rfl) (aG cb (pv 2) ag))
  (aj (aD (i:=3) nd rfl (Or.inl rfl) (aJ gP (hr.mono (by decide)) rfl ay.pass (aa (pv 0) (aa (pv 1) af (se rfl)) (se rfl)) (he:=se rfl) (hpl:=na rfl)))))))
  (aj (aI (pv 1))))))),?_⟩
  obtain⟨_,xs,e,ha,rl⟩:=aL.mp rb
  cases e
  have lx:=rl.length
  rw[aab] at lx
  simp_all only[vU]
  refine⟨⟨_,aV.of ha⟩,?_⟩
  have S:Src (ug K a) (aq H) b.length (λi x H H3=>H3=H/\xs[i]?=some x):=by rw[lx];exact src_list (λH' s'=>aV.of (s' _ _ ha))
  refine pM b (λq=>some (c5 (Lv.GO q))) S (λ_ _ _ _ h=>h.1) (by rw[sizeLine_eq];omega) ?_ ?_
  ·rintro i q x eq ⟨_,ex⟩ Y N y1 _
   obtain⟨q',Tp,rq⟩:=d7 rl ex
   rw[eq] at Tp
   cases Tp
   have:=y1 _ rfl
   cases q with
   | fin w=>
    obtain⟨p,r,rfl,hp,_⟩:=cG.mp rq
    simp_all only[gx,hp]
    exact this
   | dO w ws=>
    obtain⟨p,r,l',ys,rfl,hp,_⟩:=cH.mp rq
    simp_all only[gx,hp]
    rw[if_neg (by decide +kernel)]
    exact this
   | cu w to=>
    obtain⟨p,l',rfl,hp,_⟩:=cq.mp rq
    simp_all only[gx,hp]
    rw[if_neg (by decide +kernel)]
    exact this
  ·intro ff n1 n2
   rw[dq,show List.map (λq=>c5 (Lv.GO q)) b=List.map c5 (Lv.oK b) from by unfold Lv.oK;rw[List.map_map];rfl]
   have sD:=ao (o:=.lst (List.map c5 (Lv.oK b))) n2
   refine⟨b,rb.mono sD,Lv.oK b,ah,by simp [Lv.oK],lb,gl,gb,λfr H1 s1 nf GC=>?_⟩
   have Wi:H1 ff=some (.lst (List.map c5 (Lv.oK b))):=s1 _ _ ah
   have sH:=sD.trans s1
   refine su (Wb H b a ff) (m:=b.length) ⟨_,_,_,_,rfl,Wi,GC,(λz=>by rw[z,ah] at nf;cases nf),sH,by simp [Lv.oK],by have:=Lv.m8 (Lv.oK b);simpa [Lv.oK] using this,rfl⟩ ?_ ?_
   ·rintro m σ H2 ⟨fs,L,fr,z,rfl,hf,va,ne,s2,lf,nm,er⟩
    simp_all only[]
    refine⟨_,va,?_⟩
    by_cases c:Lv.fresh b fs=[]
    ·rw[c,if_neg (by simp)]
     have:Lv.run b m fs L=fs:=by
      cases m with
      | zero=>rfl
      | succ m=>
       show(if Lv.fresh b fs=[] then fs else _)=fs
       rw[if_pos c]
     rw[this] at er
     subst er
     exact kk _ _ s2 n2 hf
    ·have l0:(0:Int)< ((List.map cY (Lv.fresh b fs)).length:Nat):=by
      rw[aab]
      have:=List.length_pos_iff.mpr c
      omega
     rw[if_pos l0]
     have lfr:(Lv.fresh b fs).length<=1000:=by
      have:(Lv.fresh b fs).length<=b.length:=by
       have:=List.length_filter_le (Lv.fX b fs) (List.range b.length)
       rwa [aaE] at this
      omega
     refine⟨⟨_,aV.of va⟩,bH (src_list (Ok:=λH'=>H' fr=some (.lst (List.map cY (Lv.fresh b fs)))) (λH' e=>aV.of e))
      (λj σ H'=>H' fr=some (.lst (List.map cY (Lv.fresh b fs)))/\H' ff=some (.lst (List.map c5 (Lv.cB fs ((Lv.fresh b fs).take j) L)))/\aq H H'/\∃z,σ=[some (V.ref a),some (V.ref ff),some (V.int L),some (V.ref fr),z])
      ⟨va,by rw[List.take_zero];exact hf,s2,_,rfl⟩ (λ_ _ _ _ h=>h.1) ?_ ?_⟩
     ·rintro j x σ H3 H4 hj ⟨h3,f3,s3,z,rfl⟩ ⟨rfl,hx⟩
      rw[aaf] at hx
      obtain⟨i,ei,rfl⟩:=Option.map_eq_some_iff.mp hx
      have hi:=(Lv.g8.mp (aad ei)).1
      simp_all only[gSub,rSetL,cY]
      have ix:yi (List.map c5 (Lv.cB fs ((Lv.fresh b fs).take j) L)).length (i:Int)=some i:=by
       unfold yi
       rw[if_pos (by omega),aab,Lv.ma,if_pos (by omega)]
       congr 1
      refine⟨_,f3,i,ix,by rw[au ne];exact h3,?_,aU s3 n2,_,rfl⟩
      rw[ah,aaI,ei]
      show some (HO.lst ((List.map c5 _).set i (c5 (some L))))=_
      rw[<-List.map_set]
      congr 3
      unfold Lv.cB
      rw[List.foldl_append]
      rfl
     ·rintro σ H3 ⟨h3,f3,s3,z,rfl⟩
      rw[aab,aaD (aae _)] at f3
      simp_all only[vU]
      refine⟨b,rb.mono s3,_,f3,by rw[Lv.ma];exact lf,lb,gl,gb,λK9 H4 s4 n4 h4=>?_⟩
      have lt:=Lv.jV lf c L
      cases m with
      | zero=>omega
      | succ m=>
       refine⟨m,aaK _,_,_,_,_,rfl,s4 _ _ f3,h4,(λz=>by rw[z,f3] at n4;cases n4),s3.trans s4,by rw[Lv.ma];exact lf,by omega,?_⟩
       rw[<-er]
       show _=(if Lv.fresh b fs=[] then fs else _)
       rw[if_neg c]
   ·intro σ H1 Q1 Q2 hq hc
    simp only[L2.start,Pr,tRev,tLR,tMaxD,tSortR,tD1,tDPop1,tSl,tNoPart,tPart,rSlL,tDIn,tDNotIn,gSub,rSetL,tLst,tDNewK,tComp,L2.stC,tFor_eq,iList,iTup,iRng1,iRng2,iZip,iEnum,iDict,iStr,tChain,tSumV,tBM,rJoin,tJoined,jNil,jLit,jInt,jStr,tRaise,tDGet,tDGet2,tDGet1,sDPut,Option.join_some,List.getElem?_nil,tSeq,tRet,tRetN,tIfS,tTest,tB,tOp,tUn,tVar,tC,tCB,tCons,tNil,tCall,tTupS,tAsg,gName,gNil,gCons,tPar,tNext,tDrop,tAnd,tOr,tNot,tAndV,tOrV,tNotV,tIf,rI,rI0,rU,rIxTH,rIxLH,rEqT,rNeT,rInT,rEq,rNe,scal,CPow,at0,at1,at2,aao,aaR,aaw,List.length_nil,Nat.reduceSub,Nat.reduceAdd,aaG,abm,List.reduceReplicate,aaL,aa7,List.cons_append,abi,abh,aba,abb,abj,exists_eq_left',exists_eq_left,V.ref.injEq,V.int.injEq,V.bl.injEq,V.str.injEq,V.ty.injEq,HO.tup.injEq,HO.lst.injEq,List.cons.injEq,and_true,true_and,and_assoc,exists_and_left,decide_eq_true_eq,Bool.not_eq_true',decide_eq_false_iff_not,ite_true,ite_false,if_true,if_false,Int.reduceToNat,eq_self_iff_true] at hc ⊢
    obtain⟨v,e1,ys,e2,xs,e3,q⟩:=hc
    exact⟨v,e1,ys,e2,xs,e3,hq _ _ q⟩
theorem we:aH ["board"] ["board"] (ab (top 5)):=⟨rfl,rfl,rfl,by decide +kernel,rfl,by decide +kernel,by decide +kernel⟩
theorem BY (T:Txt K mg ar tc):bO P w K mg base (bK P w) 5 "ring" ["board"] u3:=by
 have Ab:bO P w K mg base (bK P w) 4 "levels" ["board"] zy:=EM T
 refine T.El.dX (λ_ _ _ _ _ _=>iQ λ_=>rfl) λf fd F=>F.d5 we (λvs H Q E h=>?_) (λcn A outer s H vs Q E hr h=>?_)
 ·obtain⟨_,_,rfl,_⟩:=h;rfl
 ·obtain⟨a,b,rfl,rb,B,kk⟩:=h
  have nd:=we.nd
  refine⟨_,(aj (aI (bE rfl (N:=["board"]) (so:=ab (top 5)) (N':=["number","level"]) (k:=2) (fr:=[]) rfl rfl ⟨rfl,by decide +kernel,by decide +kernel,by decide +kernel,rfl,by decide +kernel,by decide +kernel⟩ (cE (K:=K) rfl T.z_enumerate (aa (aJ Ab (hr.mono (by decide)) rfl ay.pass (aa (pv 0) af (se rfl)) (he:=se rfl) (hpl:=na rfl)) af (se rfl))) (λ_ _ _ _ _=>(bU (K:=K) (n:=2) rfl (aM (ax (i:=0) (show(["number","level"]:List Str).Nodup by decide +kernel) rfl (Or.inl rfl)) (aM (ax (i:=1) (show(["number","level"]:List Str).Nodup by decide +kernel) rfl (Or.inl rfl)) bR)))) (λ_ _ _ _ _=>(lW (aO uo (pv 1) dF (aQ _))))
   (λ_ _ _ _ _=>(pv 0))))),?_⟩
  simp_all only[zy]
  refine⟨b,rb,B.len,B.pG,B.good,λf1 H1 s1 nf hf=>⟨⟨_,aV.of hf⟩,?_⟩⟩
  have ll:=Lv.Bu B.good
  have bl:=B.len
  have S:Src (GJ K f1) (aq H1) (List.range b.length).length (λi v H H3=>∃p x,H p=none/\v=.ref p/\(List.map c5 (Lv.sx b))[i]?=some x/\H3=upd H p (.tup [.int i,x])):=by
   have:=eV (K:=K) (a:=f1) (xs:=List.map c5 (Lv.sx b)) (Ok:=aq H1) (λH' s'=>aV.of (s' _ _ hf))
   rw[aab,ll] at this
   rw[aaE]
   exact this
  refine pN (K:=K) (List.range b.length) (λi=>if (Lv.lk (Lv.sx b) (i:Int)).isNone=true then some (cY i) else none) S (λi u v _=>u=.int i/\v=c5 (Lv.lk (Lv.sx b) (i:Int))) ?_ (by rw[aaE,sizeLine_eq];omega) ?_ ?_
  ·rintro i x H2 H3 hi s2 ⟨p,v,np,rfl,ev,rfl⟩
   refine⟨ao np,p,_,_,rfl,dR.of ah,rfl,?_⟩
   rw[aaf] at ev
   obtain⟨o,eo,rfl⟩:=Option.map_eq_some_iff.mp ev
   unfold Lv.lk
   rw[aap,aai,eo]
   rfl
  ·rintro i j u v H3 ej s3 ⟨rfl,rfl⟩ Y N y1 n1
   have:j=i:=by
    obtain⟨h1,h2⟩:=List.getElem?_eq_some_iff.mp ej
    rw[List.getElem_range] at h2
    exact h2.symm
   subst this
   simp_all only[]
   cases h:Lv.lk (Lv.sx b) (j:Int) with
   | none=>
    rw[if_pos (nQ.mpr rfl)]
    exact y1 _ _ (by rw[h];rfl) (aq.refl _)
   | some x=>
    rw[if_neg (by simp [c5])]
    exact n1 _ (by rw[h];rfl) (aq.refl _)
  ·intro H2 s2 D n1 n2
   have e:List.filterMap (fun(i:Nat)=>if (Lv.lk (Lv.sx b) (i:Int)).isNone=true then some (cY i) else none) (List.range b.length)=List.map cY (nR b):=g7 cY (fun(i:Nat)=>(Lv.lk (Lv.sx b) (i:Int)).isNone) _
   rw[e]
   exact kk _ _ (s1.trans (s2.trans (ao n2))) (none_of (s1.trans s2) n2) ah
theorem iw:aH ["board","start","steps","found","turn","here","way","to"] ["board","start"] (ab (top 22)):=⟨rfl,rfl,rfl,by decide +kernel,rfl,by decide +kernel,by decide +kernel⟩
theorem EN (T:Txt K mg ar tc):bO P w K mg base (bK P w) 2 "steps_from" ["board","start"] vW:=by
 have qR:bO P w K mg base (bK P w) 1 "goals" ["place"] tG:=Aa T
 refine T.qH.dX (λ_ _ _ _ _ _=>d9 λ_ _=>rfl) λf fd F=>F.d5 iw (λvs H Q E h=>?_) (λcn A outer s H vs Q E hr h=>?_)
 ·obtain⟨_,_,_,rfl,_⟩:=h;rfl
 ·obtain⟨a,b,st,rfl,rb,lb,pG,gb,h0,h1,kk⟩:=h
  have nd:=iw.nd
  refine⟨_,(ae (aD (i:=2) nd rfl (Or.inl rfl) (GP (pv 1) dF))
  (ae (aD (i:=3) nd rfl (Or.inl rfl) (cS (aa (pv 1) af (se rfl))))
  (ae (aD (i:=4) nd rfl (Or.inl rfl) ag)
  (ae (gF PassesOwn.never (aO rM (pv 4) (aK bC (by rfl) T.z_len aau (aa (pv 3) af (se rfl)) (he:=se rfl) (hpl:=na rfl)) (aQ _)) (ae (aD (i:=5) nd rfl (Or.inl rfl) (aw aB (pv 3) (pv 4) (λ_ _=>rfl)))
  (ae (b9 PassesOwn.never rfl (cE (K:=K) rfl T.z_enumerate (aa (aJ qR (hr.mono (by decide)) rfl ay.pass (aa (aw aB (pv 0) (pv 5) (λ_ _=>rfl)) af (se rfl)) (he:=se rfl) (hpl:=na rfl)) af (se rfl))) (bU (K:=K) (n:=2) rfl (aM (ax (i:=6) nd rfl (Or.inl rfl)) (aM (ax (i:=7) nd rfl (Or.inl rfl)) bR))) (aj (bN (ub (wX (pI hr) (pv 7) (pv 2))) (ae (vt (pI hr) (pv 2) (pv 7) (bT (aa (pv 5) (aa (pv 6) af (se rfl)) (se rfl))) rfl)
  (aj (fz (jc abe abn abo c9.r (pv 3) (aa (pv 7) af (se rfl))))))
   ba)))
  (aj (aD (i:=4) nd rfl (Or.inl rfl) (aG cb (pv 4) ag))))))
  (aj (aI (pv 2))))))),?_⟩
  obtain⟨_,xs,e,ha,rl⟩:=aL.mp rb
  cases e
  have lx:=rl.length
  rw[aab] at lx
  simp_all only[]
  intro d LG
  refine⟨Sum.inl st,rfl,ah,by decide,λf1 nf=>?_⟩
  have Wj:upd (upd H d (.dK [])) d (.dK [(Sum.inl st,V.cc)])=upd H d (.dK [(Sum.inl st,V.cc)]):=AM
  rw[Wj] at nf ⊢
  have sd:=ao (o:=.dK [(Sum.inl st,V.cc)]) LG
  have sf:=ao (o:=.lst [V.int st]) nf
  have Tq:f1≠d:=λz=>by rw[z,ah] at nf;cases nf
  have Wk:H f1=none:=none_of sd nf
  have D0:fb (upd (upd H d (.dK [(Sum.inl st,V.cc)])) f1 (.lst [V.int st])) d [(st,none,[])]:=by
   refine⟨_,sf _ _ ah,rfl,λi e he=>?_⟩
   match i,he with
   | 0,he=>cases he;exact⟨_,rfl,rfl⟩
  have LF:(upd (upd H d (.dK [(Sum.inl st,V.cc)])) f1 (.lst [V.int st])) f1=some (.lst [V.int st]):=ah
  have sH:=sd.trans sf
  generalize upd (upd H d (.dK [(Sum.inl st,V.cc)])) f1 (.lst [V.int st])=H1 at *
  refine su (Wc H b a d f1 st) (m:=b.length+1) ⟨0,[(st,none,[])],_,_,_,rfl,D0,LF,sH,Bf.yQ h0 h1,rfl,by omega⟩ ?_ ?_
  ·rintro m σ H2 ⟨t,es,z5,z6,z7,rfl,dr,hf,s2,I,eb,lt⟩
   have lk:(Bf.keys es).length=es.length:=by unfold Bf.keys;rw[aab]
   have fw:=I.toCore.pG
   simp_all only[]
   refine⟨_,hf,?_⟩
   rw[aab,lk]
   by_cases c:t<es.length
   ·rw[if_pos (by omega)]
    have et:es[t]?=some es[t]:=aac c
    generalize es[t]=e at et
    have rg:=I.jH e (aad et)
    have ee:((e.1.toNat:Nat):Int)=e.1:=abp rg.1
    have hb:e.1.toNat<b.length:=by omega
    have Tr:b[e.1.toNat]?=some b[e.1.toNat]:=aac hb
    obtain⟨v,ev,rv⟩:=d3 rl Tr
    have hq:=aav hb
    generalize b[e.1.toNat]=q at *
    have ga:Bf.fH b e.1=Lv.eO q:=by unfold Bf.fH;rw[Tr]
    have av:eA xs e.1=some v:=by rw[<-ee];exact bA ev
    have ak:eA (List.map V.int (Bf.keys es)) (t:Int)=some (V.int e.1):=eM (by unfold Bf.keys;rw[aaf,et];rfl)
    simp only[hf,ak,s2 _ _ ha,av,abj,HO.lst.injEq,exists_eq_left',V.int.injEq,V.ref.injEq,tG]
    refine⟨v,q,rfl,rv.mono s2,pG q hq,λl H3 s3 nl hl=>⟨⟨_,aV.of hl⟩,?_⟩⟩
    have Wl:=dr.mono s3
    have AL:=s3 _ _ hf
    have Wm:l≠d:=λz=>by
     obtain⟨kvs,hd,_⟩:=dr.ex
     rw[z,hd] at nl;cases nl
    have Hr:l≠f1:=λz=>by rw[z,hf] at nl;cases nl
    refine bH (eV (Ok:=λH'=>H' l=some (.lst (List.map V.int (Lv.eO q)))) (λH' e=>aV.of e)) (Wd H a d f1 l st t e (Lv.eO q) es) ⟨⟨_,_,rfl⟩,Wl,AL,hl,s2.trans s3⟩ (λ_ _ _ _ h=>h.hl) ?_ ?_
    ·rintro i x σ H4 H5 hi ⟨⟨z6,z7,rfl⟩,JV,BZ,Ts,s4⟩ ⟨p,y,np,rfl,ey,rfl⟩
     rw[aab] at hi
     rw[aaf] at ey
     obtain⟨g,eg,rfl⟩:=Option.map_eq_some_iff.mp ey
     have s5:=ao (o:=.tup [.int i,.int g]) np
     refine⟨p,_,rfl,dR.of ah,rfl,?_⟩
     have LH:=JV.mono s5
     have Tt:=s5 _ _ BZ
     have Hs:=s5 _ _ Ts
     have Tu:=s4.trans s5
     generalize upd H4 p (.tup [.int i,.int g])=H5 at *
     have M:=Bf.m9 gb ((Lv.eO q).take i) 0 es (Bf.yS I et) λj x hx=>by
      rw[aaG,ga]
      have hj:=(List.getElem?_eq_some_iff.mp hx).1
      rw[aa5] at hj
      rwa [List.getElem?_take_of_lt (by omega)] at hx
     have tk:(Lv.eO q).take (i+1)=(Lv.eO q).take i++ [g]:=by rw[aaI,eg];rfl
     have Wn:((Lv.eO q).take i).length=i:=by rw[aa5];omega
     have nx:=pY (here:=e.1) (path:=e.2.2) ((Lv.eO q).take i) 0 es g
     rw[<-tk,Wn,aaG] at nx
     have Wo:=M.toCore.pG
     generalize Bf.fI e.1 e.2.2 0 ((Lv.eO q).take i) es=ei at *
     obtain⟨o,go,ho⟩:=LH.has M.nd g
     simp_all only[]
     refine⟨o,go,?_⟩
     rw[ho]
     by_cases cg:g∈Bf.keys ei
     ·rw[if_neg (by simpa using cg)]
      rw[if_pos cg] at nx
      exact⟨⟨_,_,rfl⟩,by rw[nx];exact LH,by rw[nx];exact Tt,Hs,Tu⟩
     ·rw[if_pos (by simpa using cg)]
      rw[if_neg cg] at nx
      refine⟨by decide,λp6 H6 s6 np6 e6=>?_⟩
      obtain⟨o7,pt,Wp⟩:=(LH.mono s6).put (par:=some (e.1,i)) (path:=e.2.2++ [i]) cg ⟨p6,rfl,e6⟩ (by rw[sizeLine_eq];omega)
      have Ht:=s6 _ _ Tt
      have JW:=s6 _ _ Hs
      have LI:upd H6 d o7 f1=some (.lst (List.map V.int (Bf.keys ei))):=by rw[au Tq];exact Ht
      have lke:(Bf.keys ei).length=ei.length:=by unfold Bf.keys;rw[aab]
      refine⟨_,pt,.inl ⟨rfl,_,aV.of LI⟩,f1,_,_,rfl,rfl,LI,by rw[aab,sizeLine_eq];omega,?_⟩
      have sF:aq H (upd (upd H6 d o7) f1 (.lst (List.map V.int (Bf.keys ei)++ [V.int g]))):=aU (aU (Tu.trans s6) LG) Wk
      refine⟨⟨_,_,rfl⟩,?_,?_,?_,sF⟩
      ·rw[nx]
       obtain⟨kvs,k1,k2,k3⟩:=Wp.ex
       refine⟨kvs,by rw[au (Ne.symm Tq)];exact k1,k2,λj x hx=>?_⟩
       obtain⟨v,v1,v2⟩:=k3 j x hx
       exact⟨v,v1,v2.upd λys z=>by rw[LI] at z;cases z⟩
      ·rw[nx,ah]
       unfold Bf.keys
       rw[aaO,aaO]
       rfl
      ·rw[au Hr,au Wm]
       exact JW
    ·rintro σ H4 ⟨⟨z6,z7,rfl⟩,JV,BZ,Ts,s4⟩
     rw[aab,aaD (aae _),<-ga] at JV BZ
     simp_all only[]
     cases m with
     | zero=>omega
     | succ m=>
      refine⟨m,aaK _,⟨t+1,_,_,_,_,rfl,JV,BZ,s4,Bf.turn gb I et,?_,by omega⟩⟩
      rw[<-eb]
      show _=(match es[t]? with | none=>es | some e=>Bf.AG b m (t+1) (Bf.fI e.1 e.2.2 0 (Bf.fH b e.1) es))
      rw[et]
   ·rw[if_neg (by omega)]
    have:Bf.AG b m t es=es:=by
     cases m with
     | zero=>rfl
     | succ m=>
      show(match es[t]? with | none=>es | some e=>Bf.AG b m (t+1) (Bf.fI e.1 e.2.2 0 (Bf.fH b e.1) es))=es
      rw[aat (by omega)]
    rw[this] at eb
    subst eb
    exact kk _ _ s2 LG dr
  ·intro σ H1 Q1 Q2 hq hc
   simp only[L2.start,Pr,tRev,tLR,tMaxD,tSortR,tD1,tDPop1,tSl,tNoPart,tPart,rSlL,tDIn,tDNotIn,gSub,rSetL,tLst,tDNewK,tComp,L2.stC,tFor_eq,iList,iTup,iRng1,iRng2,iZip,iEnum,iDict,iStr,tChain,tSumV,tBM,rJoin,tJoined,jNil,jLit,jInt,jStr,tRaise,tDGet,tDGet2,tDGet1,sDPut,Option.join_some,List.getElem?_nil,tSeq,tRet,tRetN,tIfS,tTest,tB,tOp,tUn,tVar,tC,tCB,tCons,tNil,tCall,tTupS,tAsg,gName,gNil,gCons,tPar,tNext,tDrop,tAnd,tOr,tNot,tAndV,tOrV,tNotV,tIf,rI,rI0,rU,rIxTH,rIxLH,rEqT,rNeT,rInT,rEq,rNe,scal,CPow,at0,at1,at2,aao,aaR,aaw,List.length_nil,Nat.reduceSub,Nat.reduceAdd,aaG,abm,List.reduceReplicate,aaL,aa7,List.cons_append,abi,abh,aba,abb,abj,exists_eq_left',exists_eq_left,V.ref.injEq,V.int.injEq,V.bl.injEq,V.str.injEq,V.ty.injEq,HO.tup.injEq,HO.lst.injEq,List.cons.injEq,and_true,true_and,and_assoc,exists_and_left,decide_eq_true_eq,Bool.not_eq_true',decide_eq_false_iff_not,ite_true,ite_false,if_true,if_false,Int.reduceToNat,eq_self_iff_true] at hc ⊢
   obtain⟨v,e1,v1,e2,p,e3,x,e4,i,e5,q⟩:=hc
   exact⟨v,e1,v1,e2,p,e3,x,e4,i,e5,hq _ _ q⟩
theorem wj (p:Int->Bool):∀l:List Int,l.filterMap (λo=>if p o=true then some o else none)=l.filter p
 | []=>rfl
 | x::l=>by
  rw[List.filterMap_cons,List.filter_cons,wj p l]
  by_cases c:p x=true
  ·simp [c]
  ·simp [c]
noncomputable def og (H:Hp) (x:Addr):Int:=match H x with
 | some (.lst (.int j::_))=>j
 | _=>0
noncomputable def Ac (tp:Addr):Sp:=λvs H Q _=>∃a b,vs=[.ref a]/\Rep H (uM b) (.ref a)/\b.length<=63/\(∀q∈b,(Lv.eO q).length<=100)/\Lv.Good b/\H tp=some (.qY dsc)/\
 ∀l ps as H',Pr.Told b ps->aq H H'->H l=none->H' l=some (.lst (List.map V.ref as))->Al (λp v=>∃x,v=.ref x/\H' x=some (.lst (List.map V.int (Pr.eE b p)))/\H x=none) ps (as.map V.ref)->Q (.ref l) H'
theorem tO:aH ["board","reach","found","place","part"] ["board"] (ab (top 23)):=⟨rfl,rfl,rfl,by decide +kernel,rfl,by decide +kernel,by decide +kernel⟩
theorem EO (T:Txt K mg ar tc) (LB:oV base mg tc tp):bO P w K mg base (bK P w) 3 "parts" ["board"] (Ac tp):=by
 have qS:bO P w K mg base (bK P w) 2 "steps_from" ["board","start"] vW:=EN T
 refine T.BL.Lr T.BN (λ_ _ _ _ _ _=>iQ λ_=>rfl) λf fd F hc=>F.V5 hc tO (λvs H Q E h=>?_) (λA outer s H vs Q E hr h=>?_)
 ·obtain⟨_,_,rfl,_⟩:=h;rfl
 ·obtain⟨a,b,rfl,rb,lb,pG,gb,nH,kk⟩:=h
  have nd:=tO.nd
  refine⟨_,(ae (aD (i:=1) nd rfl (Or.inr rfl) (bE rfl (N:=["board","reach","found","place","part"]) (so:=ab (top 23)) (N':=["start","board"]) (k:=1) (fr:=[0]) rfl rfl ⟨rfl,by decide +kernel,by decide +kernel,by decide +kernel,rfl,by decide +kernel,by decide +kernel⟩ (c8 rfl T.z_range (aa (aK bC (by rfl) T.z_len aau (aa (pv 0) af (se rfl)) (he:=se rfl) (hpl:=na rfl)) af (se rfl))) (λ_ _ _ _ _=>(ax (i:=0) (show(["start","board"]:List Str).Nodup by decide +kernel) rfl (Or.inl rfl))) (λ_ _ _ _ _=>bx)
   (λ_ _ _ _ _=>(aJ qS (hr.mono (by decide)) rfl ay.pass (aa (pv 1) (aa (pv 0) af (se rfl)) (se rfl)) (he:=se rfl) (hpl:=na rfl)))))
  (ae (aD (i:=2) nd rfl (Or.inl rfl) (cS af))
  (ae (b9 PassesOwn.never rfl (c8 rfl T.z_range (aa (aK bC (by rfl) T.z_len aau (aa (pv 0) af (se rfl)) (he:=se rfl) (hpl:=na rfl)) af (se rfl))) (ax (i:=3) nd rfl (Or.inr rfl)) (ae (eC (i:=4) rfl nd rfl rfl (N:=["board","reach","found","place","part"]) (so:=ab (top 23)) (N':=["other","reach","place"]) (k:=1) (fr:=[1,3]) rfl rfl ⟨rfl,by decide +kernel,by decide +kernel,by decide +kernel,rfl,by decide +kernel,by decide +kernel⟩ (aS (K:=K) (aK kS (by rfl) T.z_sorted rfl (aa (aw aB (pv 1) (pv 3) (λ_ _=>rfl)) af (se rfl)) (he:=se rfl) (hpl:=na rfl))) (λ_ _ _ _ _=>(ax (i:=0) (show(["other","reach","place"]:List Str).Nodup by decide +kernel) rfl (Or.inl rfl))) (λ_ _ _ _ _=>(lW (ub (yo (pI hr) (pv 2) (aw aB (pv 1) (pv 0) (λ_ _=>rfl))))))
   (λ_ _ _ _ _=>(pv 0)))
  (aj (bN (aO cJ (aw aB (pv 4) ag (λ_ _=>rfl)) (pv 3) (aQ _)) (aj (fz (jc abe abn abo c9.r (pv 2) (aa (pv 4) af (se rfl)))))
   ba))))
  (aj (aI (zq (i:=1) (dsc:=dsc) (t0:=0) rfl T.z_sorted T.z_len LB rfl hr rfl (pv 2))))))),?_⟩
  have sl:=sizeLine_eq
  obtain⟨_,xs,e,ha,rl⟩:=aL.mp rb
  cases e
  have lx:=rl.length
  rw[aab] at lx
  change tSeq _ _ _ _ _
  refine aW (λσ' H1=>aq H H1/\∃r ys,H1 r=some (.lst ys)/\ys.length=b.length/\(∀(i:Nat) y,ys[i]?=some y->∃d,y=.ref d/\fb H1 d (Bf.steps b (i:Int)))/\σ'=[some (.ref a),some (.ref r),none,none,none]) ?_ (λN hN=>?_)
  case refine_2=>
   simp_all only[vW]
   refine⟨_,ha,by omega,by omega,?_⟩
   refine comp_map src_range (λ_ _ _ _ h=>by rw[h.1];exact aq.refl _) (by omega) (λi y H4=>∃d,y=.ref d/\fb H4 d (Bf.steps b (i:Int))) (λi y H4 H5 s5 ⟨d,e,h⟩=>⟨d,e,h.mono s5⟩) ?_ ?_
   ·rintro i x w0 H4 H5 Q2 hi s4 ⟨rfl,rfl⟩ kq
    simp_all only[vW,Int.zero_add]
    exact⟨b,rb.mono s4,by omega,pG,gb,by omega,by omega,λd H6 s6 n6 dr=>kq _ _ s6 ⟨d,rfl,dr⟩⟩
   ·intro ys H5 s5 ly hy D n1 n2
    refine hN _ _ ⟨s5.trans (ao n2),D,ys,ah,by omega,λi y e=>?_,rfl⟩
    obtain⟨d,e1,h1⟩:=hy i y e
    exact⟨d,e1,h1.mono (ao n2)⟩
  rintro _ H1 ⟨s1,r,ys,ER,ly,hy,rfl⟩
  change tSeq _ _ _ _ _
  refine aW (λσ' H2=>∃fa,H1 fa=none/\aq H1 H2/\H2 fa=some (.lst [])/\σ'=[some (.ref a),some (.ref r),some (.ref fa),none,none]) ?_ (λN hN=>?_)
  case refine_2=>
   simp_all only[]
   exact⟨aar _,λfa nf=>hN _ _ ⟨fa,nf,ao nf,ah,rfl⟩⟩
  rintro _ H2 ⟨fa,nf,s2,LJ,rfl⟩
  have ES:∀i:Nat,i<b.length->∃d kvs,ys[i]?=some (.ref d)/\fb H1 d (Bf.steps b (i:Int))/\H1 d=some (.dK kvs)/\eX kvs=Pr.kb b (i:Int)/\(∀p∈kvs,∃k,p.1=Sum.inl k)/\kvs.length=(Pr.kb b (i:Int)).length:=λi hi=>by
   obtain⟨d,e,dr⟩:=hy i _ (aac (by omega))
   obtain⟨kvs,hd,hk,_⟩:=dr.ex
   refine⟨d,kvs,by rw[aac (by omega),e],dr,hd,?_,λp hp=>?_,?_⟩
   ·have:eX kvs=(kvs.map (·.1)).map (λk:Key=>match k with | .inl i=>i | .inr _=>(0:Int)):=by
     unfold eX
     rw[List.map_map]
     rfl
    rw[this,hk,List.map_map]
    unfold Pr.kb
    simp [Function.comp_def]
   ·have:p.1∈(Bf.keys (Bf.steps b (i:Int))).map Sum.inl:=by rw[<-hk];exact List.mem_map.mpr ⟨p,hp,rfl⟩
    obtain⟨k,_,e⟩:=List.mem_map.mp this
    exact⟨k,e.symm⟩
   ·have:=congrArg List.length hk
    rw[aab,aab] at this
    exact this
  change tSeq _ _ _ _ _
  refine aW (λσ' H3=>aq H1 H3/\∃as,H3 fa=some (.lst (List.map V.ref as))/\Al (λp v=>∃x,v=.ref x/\H3 x=some (.lst (List.map V.int (Pr.eE b p)))/\H1 x=none) (Pr.j4 b b.length) (as.map V.ref)/\∃z3 z4,σ'=[some (.ref a),some (.ref r),some (.ref fa),z3,z4]) ?_ (λN hN=>?_)
  case refine_2=>
   simp_all only[]
   refine⟨_,s2 _ _ (s1 _ _ ha),by omega,by omega,?_⟩
   refine bH (src_range (Ok:=λ_=>True)) (λi σ H3=>aq H1 H3/\∃as,H3 fa=some (.lst (List.map V.ref as))/\Al (λp v=>∃x,v=.ref x/\H3 x=some (.lst (List.map V.int (Pr.eE b p)))/\H1 x=none/\x≠fa) (Pr.j4 b i) (as.map V.ref)/\∃z3 z4,σ=[some (.ref a),some (.ref r),some (.ref fa),z3,z4]) ⟨s2,[],LJ,trivial,_,_,rfl⟩ (λ_ _ _ _ _=>trivial) ?_ ?_
   ·rintro i x σ H3 H4 hi ⟨s3,as,AL,al,z3,z4,rfl⟩ ⟨rfl,rfl⟩
    simp_all only[Int.zero_add]
    have Wr:i<b.length:=by omega
    have wk:Pr.In b (i:Int):=⟨by omega,by omega⟩
    obtain⟨d,kvs,ed,dr,hd,ek,ka,kl⟩:=ES i Wr
    have kbl:=Pr.Er gb wk
    refine⟨ys,s3 _ _ ER,.ref d,bA ed,d,rfl,kvs,.inl (s3 _ _ hd),ka,by rw[ek];exact Pr.kD gb wk,by omega,λl nl=>?_⟩
    rw[ek]
    have sL:=ao (o:=.lst (List.map V.int (Nm.gA (Pr.kb b (i:Int))))) nl
    have Hs:(upd H4 l (.lst (List.map V.int (Nm.gA (Pr.kb b (i:Int)))))) l=some (.lst (List.map V.int (Nm.gA (Pr.kb b (i:Int))))):=ah
    generalize upd H4 l (.lst (List.map V.int (Nm.gA (Pr.kb b (i:Int)))))=H5 at *
    refine⟨⟨_,aV.of Hs⟩,?_⟩
    have S:Src (ug K l) (aq H5) (Nm.gA (Pr.kb b (i:Int))).length (λj x H H3=>H3=H/\(List.map V.int (Nm.gA (Pr.kb b (i:Int))))[j]?=some x):=by
     have:=src_list (K:=K) (a:=l) (xs:=List.map V.int (Nm.gA (Pr.kb b (i:Int)))) (Ok:=aq H5) (λH' s'=>aV.of (s' _ _ Hs))
     rw[aab] at this
     exact this
    refine dc (Nm.gA (Pr.kb b (i:Int))) (λo=>if decide ((i:Int)∈Pr.kb b o)=true then some o else none) S (λ_ _ _ _ h=>h.1) (by rw[Nm.mW];omega) ?_ ?_
    ·rintro j o x eo ⟨_,ex⟩ Y N1 y1 n1
     rw[aaf,eo] at ex
     cases ex
     have ho:=Nm.vB.mp (aad eo)
     obtain⟨Tv,Wt⟩:=Pr.pZ gb wk ho
     obtain⟨o,rfl⟩:=aa0 Tv
     obtain⟨d2,Wu,Lp,Wv,hd2,ek2,ka2,kl2⟩:=ES o (by omega)
     obtain⟨oo,g1,g2⟩:=(Wv.mono (s3.trans sL)).has (Pr.kD gb ⟨Tv,Wt⟩) (i:Int)
     simp_all only[s3.trans sL _ _ ER,show eA ys (o:Int)=some (.ref d2) from bA Lp]
     refine⟨oo,g1,?_⟩
     rw[g2]
     exact oR (λc=>y1 _ (if_pos c)) (λc=>n1 (if_neg c))
    ·intro D n1 n2
     rw[wj]
     have ep:(Nm.gA (Pr.kb b (i:Int))).filter (λo=>decide ((i:Int)∈Pr.kb b o))=Pr.eE b (i:Int):=rfl
     rw[ep]
     have ne:=Pr.nW gb wk
     have sD:=ao (o:=.lst (List.map V.int (Pr.eE b (i:Int)))) n2
     have hD:(upd H5 D (.lst (List.map V.int (Pr.eE b (i:Int))))) D=some (.lst (List.map V.int (Pr.eE b (i:Int)))):=ah
     generalize upd H5 D (.lst (List.map V.int (Pr.eE b (i:Int))))=H6 at *
     have Tw:aq H1 H6:=s3.trans (sL.trans sD)
     have Ht:H6 fa=some (.lst (List.map V.ref as)):=sD _ _ (sL _ _ AL)
     have nD:H1 D=none:=none_of (s3.trans sL) n2
     have Df:D≠fa:=λz=>by rw[z,sL _ _ AL] at n2;cases n2
     have Tx:Al (λp v=>∃x,v=V.ref x/\H6 x=some (.lst (List.map V.int (Pr.eE b p)))/\H1 x=none/\x≠fa) (Pr.j4 b i) (as.map V.ref):=al.imp λp v ⟨x,e,h1,h2,h3⟩=>⟨x,e,sD _ _ (sL _ _ h1),h2,h3⟩
     have vb:=al.length
     rw[aab] at vb
     have vP:=Pr.v7 (b:=b) (n:=i)
     cases ec:Pr.eE b (i:Int) with
     | nil=>exact absurd ec ne
     | cons x0 rest=>
      have Hu:Pr.rep b (i:Int)=x0:=by unfold Pr.rep;rw[ec];rfl
      refine⟨_,hD,.int x0,by rw[ec,aao];exact at0,rfl,?_⟩
      by_cases c:x0=(i:Int)
      ·rw[if_pos (by rw[c])]
       refine⟨.inl ⟨rfl,_,aV.of Ht⟩,fa,List.map V.ref as,.ref D,rfl,rfl,Ht,by rw[aab];omega,aU Tw nf,as++ [D],by rw[ah,aaO];rfl,?_,_,rfl⟩
       rw[Pr.tH,if_pos (by rw[Hu,c]),aaO]
       exact(Tx.imp λp v ⟨x,e,h1,h2,h3⟩=>⟨x,e,by rw[au h3];exact h1,h2,h3⟩).append (.one ⟨D,rfl,by rw[au Df];exact hD,nD,Df⟩)
      ·rw[if_neg (by intro z;exact c (by injection z))]
       refine⟨Tw,as,Ht,?_,_,rfl⟩
       rw[Pr.tH,if_neg (by rw[Hu];exact c)]
       exact Tx
   ·rintro σ H3 ⟨s3,as,AL,al,z3,z4,rfl⟩
    rw[aap,<-lx] at al
    exact hN _ _ ⟨s3,as,AL,al.imp λp v ⟨x,e,h1,h2,_⟩=>⟨x,e,h1,h2⟩,_,_,rfl⟩
  rintro _ H3 ⟨s3,as,AL,al,z3,z4,rfl⟩
  simp_all only[zo]
  have each:∀x∈as,∃p,p∈Pr.j4 b b.length/\H3 x=some (.lst (List.map V.int (Pr.eE b p)))/\H1 x=none/\og H3 x=p/\Pr.In b p:=λx hx=>by
   obtain⟨i,ei⟩:=aam hx
   obtain⟨p,ep,x',e,h1,h2⟩:=al.get (show(as.map V.ref)[i]?=some (.ref x) by rw[aaf,ei];rfl)
   cases e
   have mp:=aad ep
   obtain⟨wk,er⟩:=Pr.jx.mp mp
   refine⟨p,mp,h1,h2,?_,wk⟩
   unfold og
   rw[h1]
   unfold Pr.rep at er
   cases ec:Pr.eE b p with
   | nil=>exact absurd ec (Pr.nW gb wk)
   | cons x0 r0=>rw[ec] at er;exact er
  have emap:as.map (og H3)=Pr.j4 b b.length:=by
   apply aa3
   intro i
   rw[aaf]
   cases ei:as[i]? with
   | none=>
    have l1:=al.length
    rw[aab] at l1
    have l2:=List.getElem?_eq_none_iff.mp ei
    rw[aat (by omega)]
    rfl
   | some x=>
    obtain⟨p,ep,x',e,h1,h2⟩:=al.get (show(as.map V.ref)[i]?=some (.ref x) by rw[aaf,ei];rfl)
    cases e
    obtain⟨wk,er⟩:=Pr.jx.mp (aad ep)
    rw[ep]
    show some (og H3 x)=some p
    unfold og
    rw[h1]
    unfold Pr.rep at er
    cases ec:Pr.eE b p with
    | nil=>exact absurd ec (Pr.nW gb wk)
    | cons x0 r0=>rw[ec] at er;exact congrArg some er
  have vb:=al.length
  rw[aab] at vb
  have vP:=Pr.v7 (b:=b) (n:=b.length)
  refine⟨as,AL,by omega,λx=>((Pr.kb b (og H3 x)).length:Int),ys,s3 _ _ ER,s3 _ _ (s1 _ _ nH),λx hx=>?_,λp cs H4 s4 np hp pm pw=>?_⟩
  ·obtain⟨p,mp,h1,h2,h3,wk⟩:=each x hx
   obtain⟨i,rfl⟩:=aa0 wk.1
   have i1:=wk.2
   obtain⟨d,kvs,ed,dr,hd,ek,ka,kl⟩:=ES i (by omega)
   show ∃j xs,H3 x=some (HO.lst (V.int j::xs))/\0<=j/\j<1000000/\∃x_1,ys[j.toNat]?=some (V.ref x_1)/\∃x_2,H3 x_1=some (HO.dK x_2)/\((Pr.kb b (og H3 x)).length:Int)=((x_2.length:Nat):Int)
   rw[h3]
   have er:=(Pr.jx.mp mp).2
   unfold Pr.rep at er
   cases ec:Pr.eE b (i:Int) with
   | nil=>exact absurd ec (Pr.nW gb wk)
   | cons x0 r0=>
    rw[ec] at er h1
    have er:x0=(i:Int):=er
    subst er
    exact⟨(i:Int),_,h1,by omega,by omega,d,by rw[aap];exact ed,kvs,s3 _ _ hd,by rw[kl]⟩
  ·have LK:(cs.map (og H3)).Perm (Pr.j4 b b.length):=by rw[<-emap];exact pm.map _
   refine kk p (cs.map (og H3)) cs H4 ⟨LK,?_⟩ ((s1.trans s3).trans s4) (none_of (s1.trans s3) np) hp ?_
   ·rw[List.pairwise_map]
    exact pw.imp λ{x y} (h:((Pr.kb b (og H3 x)).length:Int)<=((Pr.kb b (og H3 y)).length:Int))=>by omega
   ·refine Al.of (by rw[aab,aab]) λi v q e1 e2=>?_
    rw[aaf] at e1 e2
    obtain⟨x,ex,rfl⟩:=Option.map_eq_some_iff.mp e1
    rw[ex] at e2
    cases e2
    obtain⟨q,mq,h1,h2,h3,wk⟩:=each x (pm.mem_iff.mp (aad ex))
    rw[h3]
    exact⟨x,rfl,s4 _ _ h1,none_of s1 h2⟩
theorem Tz:(0:Int)+ ((0:Nat):Int)=0:=rfl
theorem fe:aH ["rows","start","spot"] ["rows","start"] (ab (top 16)):=⟨rfl,rfl,rfl,by decide +kernel,rfl,by decide +kernel,by decide +kernel⟩
theorem Hv (T:Txt K mg ar tc):bO P w K mg base (bK P w) 1 "row_with_head" ["rows","start"] zH:=by
 refine T.kW.dX (λ_ _ _ _ _ _=>d9 λ_ _=>rfl) λf fd F=>F.d5 fe (λvs H Q E h=>?_) (λcn A outer s H vs Q E hr h=>?_)
 ·obtain⟨_,_,_,_,rfl,_⟩:=h;rfl
 ·obtain⟨a,q,d,r,rfl,ha,hq,d0,kk⟩:=h
  have nd:=fe.nd
  refine⟨_,(ae (b9 PassesOwn.never rfl (wJ rfl T.z_range (aa (pv 1) (aa (aK bC (by rfl) T.z_len aau (aa (pv 0) af (se rfl)) (he:=se rfl) (hpl:=na rfl)) af (se rfl)) (se rfl))) (ax (i:=2) nd rfl (Or.inl rfl)) (aj (bN (aO mK (aw aB (aw aB (pv 0) (pv 2) (λ_ _=>rfl)) ag (λ_ _=>rfl)) ag (aQ _)) (aj (aI (pv 2)))
   ba)))
  (aj (aI dF))),?_⟩
  simp_all only[]
  refine⟨_,ha,by decide,by decide,by simp,by simp,bH (src_range (Ok:=λ_=>True)) (λi σ H'=>H=H'/\i=0/\∃z,σ=[some (.ref a),some (.int 0),z]) ⟨rfl,rfl,_,rfl⟩ (λ_ _ _ _ _=>trivial) ?_ ?_⟩
  ·rintro i x σ H' H'' hi ⟨rfl,rfl,z,rfl⟩ ⟨rfl,rfl⟩
   simp_all only[ha,Tz,hq]
   rw[if_pos d0]
   exact kk
  ·rintro σ H' ⟨rfl,hz,z,rfl⟩
   cases hz
theorem oh:aH ["rows","one","other","turned"] ["rows","one","other"] (ab (top 17)):=⟨rfl,rfl,rfl,by decide +kernel,rfl,by decide +kernel,by decide +kernel⟩
theorem ET (T:Txt K mg ar tc):bO P w K mg base (bK P w) 1 "swapped" ["rows","one","other"] zI:=by
 refine T.xv.dX (λ_ _ _ _ _ _=>qN λ_ _ _=>rfl) λf fd F=>F.d5 oh (λvs H Q E h=>?_) (λcn A outer s H vs Q E hr h=>?_)
 ·obtain⟨_,_,rfl,_⟩:=h;rfl
 ·obtain⟨a,q,rfl,ha,kk⟩:=h
  have nd:=oh.nd
  refine⟨_,(ae (aD (i:=3) nd rfl (Or.inl rfl) (gY (dm (K:=K)) (by rfl) T.z_list rfl (aa (pv 0) af (se rfl)) (he:=se rfl) (hpl:=na rfl)))
  (ae (dH (aw aB (pv 0) (pv 2) (λ_ _=>rfl)) (dG (pv 3) (pv 1) set_list))
  (ae (dH (aw aB (pv 0) (pv 1) (λ_ _=>rfl)) (dG (pv 3) (pv 2) set_list))
  (aj (aI (pv 3)))))),?_⟩
  simp_all only[ha]
  refine⟨_,.inl (aV.of ha),λm nm=>?_⟩
  have am:a≠m:=λe=>by rw[e,nm] at ha;cases ha
  refine⟨_,by rw[au am];exact ha,_,at0,_,ah,0,rfl,_,by rw[au am,au am];exact ha,_,at0,_,ah,0,rfl,?_⟩
  exact kk _ _ (aU (aU (ao nm) nm) nm) ah
theorem cW:aH ["rows","spot","last","head","tail","left","number","row","first"] ["rows","spot","last"] (ab (top 18)):=⟨rfl,rfl,rfl,by decide +kernel,rfl,by decide +kernel,by decide +kernel⟩
theorem Hw (T:Txt K mg ar tc):bO P w K mg base (bK P w) 1 "without_first_column" ["rows","spot","last"] zJ:=by
 refine T.fP.dX (λ_ _ _ _ _ _=>qN λ_ _ _=>rfl) λf fd F=>F.d5 cW (λvs H Q E h=>?_) (λcn A outer s H vs Q E hr h=>?_)
 ·obtain⟨_,_,_,_,_,rfl,_⟩:=h;rfl
 ·obtain⟨a,q,d,s',l,rfl,ha,hq,kk⟩:=h
  have nd:=cW.nd
  refine⟨_,(ae (aD (i:=3) nd rfl (Or.inr rfl) (aw aB (aw aB (pv 0) (pv 1) (λ_ _=>rfl)) ag (λ_ _=>rfl)))
  (ae (aD (i:=4) nd rfl (Or.inl rfl) (rR (si (K:=K)) (aw aB (pv 0) (pv 1) (λ_ _=>rfl)) (vo ag) vm))
  (ae (aD (i:=5) nd rfl (Or.inl rfl) (cS af))
  (ae (b9 PassesOwn.never rfl (cE (K:=K) rfl T.z_enumerate (aa (pv 0) af (se rfl))) (bU (K:=K) (n:=2) rfl (aM (ax (i:=6) nd rfl (Or.inl rfl)) (aM (ax (i:=7) nd rfl (Or.inl rfl)) bR))) (aj (bN (aO cJ (pv 6) (pv 1) (aQ _)) (aj (fz (jc abe abn abo c9.r (pv 5) (aa (pv 4) af (se rfl)))))
   (ae (aD (i:=8) nd rfl (Or.inr rfl) (aw aB (pv 7) ag (λ_ _=>rfl)))
  (aj (fz (jc abe abn abo c9.r (pv 5) (aa (bE rfl (N:=["rows","spot","last","head","tail","left","number","row","first"]) (so:=ab (top 18)) (N':=["one","other","last","head","first"]) (k:=2) (fr:=[2,3,8]) rfl rfl ⟨rfl,by decide +kernel,by decide +kernel,by decide +kernel,rfl,by decide +kernel,by decide +kernel⟩ (jj (K:=K) rfl T.z_zip (aa (rR (si (K:=K)) (pv 7) (vo ag) vm) (aa (pv 4) af (se rfl)) (se rfl))) (λ_ _ _ _ _=>(bU (K:=K) (n:=2) rfl (aM (ax (i:=0) (show(["one","other","last","head","first"]:List Str).Nodup by decide +kernel) rfl (Or.inl rfl)) (aM (ax (i:=1) (show(["one","other","last","head","first"]:List Str).Nodup by decide +kernel) rfl (Or.inl rfl)) bR)))) (λ_ _ _ _ _=>bx)
   (λ_ _ _ _ _=>(aG yr (aG qj (aG aX (pv 3) (pv 0)) (aG aX (pv 4) (pv 1))) (pv 2)))) af (se rfl)))))))))
  (aj (aI (pv 5))))))),?_⟩
  simp_all only[ha,hq]
  refine⟨_,aV.of hq,λtl Ww=>⟨by decide,λlf Hr=>?_⟩⟩
  have s1:=ao (o:=.lst (uA [V.int d,V.int s'] (some 1) none)) Ww
  have h1:upd H tl (.lst (uA [V.int d,V.int s'] (some 1) none)) tl=some (.lst [.int s']):=ah
  generalize upd H tl (.lst (uA [V.int d,V.int s'] (some 1) none))=H1 at *
  have s2:=ao (o:=.lst []) Hr
  have h2:upd H1 lf (.lst []) lf=some (.lst []):=ah
  have Wx:=s2 _ _ h1
  have n1:H lf=none:=none_of s1 Hr
  generalize upd H1 lf (.lst [])=H2 at *
  have Wz:tl≠lf:=λe=>by rw[e,Hr] at h1;cases h1
  have Ad:=s1.trans s2
  refine⟨⟨_,aV.of (Ad _ _ ha)⟩,bH (eV (Ok:=aq H) (λH' s=>aV.of (s _ _ ha))) (λi σ H3=>aq H H3/\H3 tl=some (.lst [.int s'])/\H3 lf=some (.lst (List.replicate i (V.ref tl)))/\i<=1/\∃z1 z2 z3,σ=[some (.ref a),some (.int 0),some (.int l),some (.int d),some (.ref tl),some (.ref lf),z1,z2,z3]) ⟨Ad,Wx,h2,by decide,_,_,_,rfl⟩ (λ_ _ _ _ h=>h.1) ?_ ?_⟩
  ·rintro i x σ H3 H4 hi ⟨s3,LL,JX,i1,z1,z2,z3,rfl⟩ ⟨p,y,np,rfl,ey,rfl⟩
   have i0:i=0:=by have:i<1:=hi;omega
   subst i0
   cases ey
   refine⟨p,_,rfl,dR.of ah,rfl,?_⟩
   have s4:=ao (o:=.tup [.int ((0:Nat):Int),.ref q]) np
   generalize upd H3 p (.tup [.int ((0:Nat):Int),.ref q])=H4 at *
   simp_all only[jd]
   rw[if_pos (by rfl)]
   refine⟨.inl ⟨rfl,_,aV.of (s4 _ _ JX)⟩,_,s4 _ _ JX,by show 0<sizeLine;decide,aU (s3.trans s4) n1,by rw[au Wz];exact s4 _ _ LL,ah,aae _,_,rfl⟩
  ·rintro σ H3 ⟨s3,LL,JX,i1,z1,z2,z3,rfl⟩
   simp_all only[]
   exact kk _ _ _ s3 JX LL
theorem tP:aH ["rows","columns","last","column","spot","head"] ["rows","columns"] (ab (top 19)):=⟨rfl,rfl,rfl,by decide +kernel,rfl,by decide +kernel,by decide +kernel⟩
theorem Hx (T:Txt K mg ar tc):bO P w K mg base (bK P w) 2 "swept" ["rows","columns"] zK:=by
 have lC:bO P w K mg base (bK P w) 1 "row_with_head" ["rows","start"] zH:=Hv T
 have xE:bO P w K mg base (bK P w) 1 "swapped" ["rows","one","other"] zI:=ET T
 have fR:bO P w K mg base (bK P w) 1 "without_first_column" ["rows","spot","last"] zJ:=Hw T
 refine T.BK.dX (λ_ _ _ _ _ _=>d9 λ_ _=>rfl) λf fd F=>F.d5 tP (λvs H Q E h=>?_) (λcn A outer s H vs Q E hr h=>?_)
 ·obtain⟨_,_,_,_,rfl,_⟩:=h;rfl
 ·obtain⟨a,q,d,s',rfl,ha,hq,d0,kk⟩:=h
  have nd:=tP.nd
  refine⟨_,(ae (aD (i:=2) nd rfl (Or.inl rfl) ag)
  (ae (b9 PassesOwn.never rfl (c8 rfl T.z_range (aa (pv 1) af (se rfl))) (ax (i:=3) nd rfl (Or.inl rfl)) (ae (aD (i:=4) nd rfl (Or.inl rfl) (aJ lC (hr.mono (by decide)) rfl ay.pass (aa (pv 0) (aa (pv 3) af (se rfl)) (se rfl)) (he:=se rfl) (hpl:=na rfl)))
  (ae (bN (aO uo (pv 4) dF (aQ _)) (aj (aI (bT (aa (pv 0) (aa (pv 3) (aa (pv 2) af (se rfl)) (se rfl)) (se rfl)))))
   ba)
  (ae (aD (i:=0) nd rfl (Or.inl rfl) (aJ xE (hr.mono (by decide)) rfl ay.pass (aa (pv 0) (aa (pv 3) (aa (pv 4) af (se rfl)) (se rfl)) (se rfl)) (he:=se rfl) (hpl:=na rfl)))
  (ae (aD (i:=5) nd rfl (Or.inl rfl) (aw aB (aw aB (pv 0) (pv 3) (λ_ _=>rfl)) ag (λ_ _=>rfl)))
  (ae (aD (i:=0) nd rfl (Or.inl rfl) (aJ fR (hr.mono (by decide)) rfl ay.pass (aa (pv 0) (aa (pv 3) (aa (pv 2) af (se rfl)) (se rfl)) (se rfl)) (he:=se rfl) (hpl:=na rfl)))
  (aj (aD (i:=2) nd rfl (Or.inl rfl) (pv 5)))))))))
  (aj (aI (bT (aa (pv 0) (aa (pv 1) (aa (pv 2) af (se rfl)) (se rfl)) (se rfl))))))),?_⟩
  simp_all only[]
  refine⟨by decide,by decide,bH (src_range (Ok:=λ_=>True)) (λi σ H1=>aq H H1/\((i=0/\H1=H/\∃z1 z2 z3,σ=[some (.ref a),some (.int 1),some (.int 1),z1,z2,z3])\/(i=1/\∃p t z1 z2 z3,H1 p=some (.lst [.ref t])/\H1 t=some (.lst [.int s'])/\σ=[some (.ref p),some (.int 1),some (.int d),z1,z2,z3]))) ⟨aq.refl _,.inl ⟨rfl,rfl,_,_,_,rfl⟩⟩ (λ_ _ _ _ _=>trivial) ?_ ?_⟩
  ·rintro i x σ H1 H2 hi ⟨s1,iv⟩ ⟨rfl,rfl⟩
   have i0:i=0:=by have:i< (1:Int).toNat:=hi;omega
   subst i0
   rcases iv with ⟨_,rfl,z1,z2,z3,rfl⟩ | ⟨h,_⟩
   ·simp_all only[zH,zI,zJ,Tz]
    refine⟨_,ha,_,_,hq,d0,?_⟩
    rw[if_neg (by intro z;cases z)]
    refine⟨_,ha,λp H3 s3 hp=>?_⟩
    simp_all only[hp]
    refine⟨_,s3 _ _ hq,_,at0,_,_,s3 _ _ hq,λp4 t4 H4 s4 WA WB=>?_⟩
    exact⟨s3.trans s4,.inr ⟨_,_,WA,WB,rfl,rfl,_,rfl⟩⟩
   ·cases h
  ·rintro σ H1 ⟨s1,iv⟩
   rcases iv with ⟨h,_⟩ | ⟨_,p,t,z1,z2,z3,hp,ht,rfl⟩
   ·cases h
   ·simp_all only[]
    exact⟨by decide,λu H2 s2 nu e2=>kk u p t H2 (s1.trans s2) e2 (s2 _ _ hp) (s2 _ _ ht)⟩
theorem fg:aH ["rows","right","done","sign"] ["rows","right"] (ab (top 20)):=⟨rfl,rfl,rfl,by decide +kernel,rfl,by decide +kernel,by decide +kernel⟩
theorem Hy (T:Txt K mg ar tc):bO P w K mg base (bK P w) 3 "whole_answers" ["rows","right"] zL:=by
 have B6:bO P w K mg base (bK P w) 2 "swept" ["rows","columns"] zK:=Hx T
 refine T.kX.dX (λ_ _ _ _ _ _=>d9 λ_ _=>rfl) λf fd F=>F.d5 fg (λvs H Q E h=>?_) (λcn A outer s H vs Q E hr h=>?_)
 ·obtain⟨_,_,_,_,_,rfl,_⟩:=h;rfl
 ·obtain⟨a,c,q,d,s',rfl,ha,hq,hc,d0,kk⟩:=h
  have nd:=fg.nd
  refine⟨_,(ae (aD (i:=2) nd rfl (Or.inl rfl) (aJ B6 (hr.mono (by decide)) rfl ay.pass (aa (bE rfl (N:=["rows","right","done","sign"]) (so:=ab (top 20)) (N':=["row","side"]) (k:=2) (fr:=[]) rfl rfl ⟨rfl,by decide +kernel,by decide +kernel,by decide +kernel,rfl,by decide +kernel,by decide +kernel⟩ (jj (K:=K) rfl T.z_zip (aa (pv 0) (aa (pv 1) af (se rfl)) (se rfl))) (λ_ _ _ _ _=>(bU (K:=K) (n:=2) rfl (aM (ax (i:=0) (show(["row","side"]:List Str).Nodup by decide +kernel) rfl (Or.inl rfl)) (aM (ax (i:=1) (show(["row","side"]:List Str).Nodup by decide +kernel) rfl (Or.inl rfl)) bR)))) (λ_ _ _ _ _=>bx)
   (λ_ _ _ _ _=>(aG Dy (pv 0) (cS (aa (pv 1) af (se rfl)))))) (aa (aK bC (by rfl) T.z_len aau (aa (pv 0) af (se rfl)) (he:=se rfl) (hpl:=na rfl)) af (se rfl)) (se rfl)) (he:=se rfl) (hpl:=na rfl)))
  (ae (bN (aO rM (aw aA (pv 2) ag (λ_ _=>rfl)) (aK bC (by rfl) T.z_len aau (aa (pv 0) af (se rfl)) (he:=se rfl) (hpl:=na rfl)) (aQ _)) (aj (aI dF))
   ba)
  (ae (aD (i:=3) nd rfl (Or.inr rfl) (gE (aO ik (aw aA (pv 2) ag (λ_ _=>rfl)) ag (aQ _)) ag (x8 um ag)))
  (aj (aI (bT (aa (bE rfl (N:=["rows","right","done","sign"]) (so:=ab (top 20)) (N':=["row","sign"]) (k:=1) (fr:=[3]) rfl rfl ⟨rfl,by decide +kernel,by decide +kernel,by decide +kernel,rfl,by decide +kernel,by decide +kernel⟩ (aS (K:=K) (aw aA (pv 2) ag (λ_ _=>rfl))) (λ_ _ _ _ _=>(ax (i:=0) (show(["row","sign"]:List Str).Nodup by decide +kernel) rfl (Or.inl rfl))) (λ_ _ _ _ _=>bx)
   (λ_ _ _ _ _=>(aG aX (aw aB (pv 0) ag (λ_ _=>rfl)) (pv 1)))) (aa (aG aX (aw aA (pv 2) ag (λ_ _=>rfl)) (pv 3)) af (se rfl)) (se rfl)))))))),?_⟩
  simp_all only[zK]
  refine⟨⟨_,aV.of ha⟩,⟨_,aV.of hc⟩,?_⟩
  refine g5 (K:=K) (lZ (λH' s'=>aV.of (s' _ _ ha)) (λH' s'=>aV.of (s' _ _ hc))) (λi u v _=>u=.ref q/\v=.int s') ?_ (by show 1<=sizeLine;decide) (λi y H'=>∃r,y=.ref r/\H' r=some (.lst [.int d,.int s'])) (λ_ _ _ _ s ⟨r,e,h⟩=>⟨r,e,s _ _ h⟩) ?_ ?_
  ·rintro i v H2 H3 hi s2 ⟨t,x,y,nt,rfl,ex,ey,rfl⟩
   have i0:i=0:=by have:i<1:=hi;omega
   subst i0
   cases ex
   cases ey
   exact⟨ao nt,t,_,_,rfl,dR.of ah,rfl,rfl⟩
  ·rintro i u v H2 Q2 hi s2 ⟨rfl,rfl⟩ kq
   simp_all only[Gq]
   exact⟨by decide,λm nm=>⟨_,ao nm _ _ (s2 _ _ hq),_,ah,by show 2<=sizeLine;decide,λp np=>kq _ _ ((ao nm).trans (ao np)) ⟨p,rfl,ah⟩⟩⟩
  ·intro ys H2 s2 ly hy D n1 n2
   have ly:ys.length=1:=ly
   match ys,ly with
   | [y],_=>
    obtain⟨r,rfl,va⟩:=hy 0 y rfl
    have sD:=ao (o:=.lst [V.ref r]) n2
    have hD:upd H2 D (.lst [V.ref r]) D=some (.lst [V.ref r]):=ah
    generalize upd H2 D (.lst [V.ref r])=H3 at *
    have s3:=s2.trans sD
    refine⟨_,s3 _ _ ha,rfl,_,hD,_,_,sD _ _ va,by omega,λu p t H4 s4 hu hp ht=>?_⟩
    simp_all only[hu,(s3.trans s4) _ _ ha]
    rw[if_neg (by decide),if_pos d0]
    refine⟨⟨_,aV.of hp⟩,?_⟩
    have S':Src (ug K p) (aq H4) [s'].length (λi x H H3=>H3=H/\[V.ref t][i]?=some x):=src_list (K:=K) (a:=p) (xs:=[V.ref t]) (Ok:=aq H4) (λH2 s2=>aV.of (s2 _ _ hp))
    refine dc [s'] (λv=>some v) S' (λ_ _ _ _ h=>h.1) (by show 1<=sizeLine;decide) ?_ ?_
    ·rintro i v x ev ⟨_,ex⟩ Y N y1 _
     have i0:i=0:=by have:=(List.getElem?_eq_some_iff.mp ev).1;have:i<1:=this;omega
     subst i0
     cases ev
     cases ex
     simp_all only[gx,ht]
     rw[Int.mul_one]
     exact⟨qr,y1 _ rfl⟩
    ·intro D' m1 m2
     refine⟨_,ao m2 _ _ hu,_,at2,_,rfl,qr,by decide,λx5 H5 s5 n5 h5=>kk _ _ _ (s3.trans (s4.trans ((ao m2).trans s5))) (by rw[h5,Int.mul_one]) (s5 _ _ ah)⟩
theorem cf {H:Hp} {ws:List (Int×Int)} {xs:List V} {i:Nat} {a:Int×Int} (r:bj H (ws.map bf) xs) (e:ws[i]?=some a):∃p,xs[i]?=some (.ref p)/\H p=some (.tup [.int a.1,.int a.2]):=by
 obtain⟨x,ex,rx⟩:=r.at (d:=bf a) (i:=i) (by rw[aaf,e];rfl)
 obtain⟨p,rfl,hp⟩:=bJ.mp rx
 exact⟨p,ex,hp⟩
theorem eG:aH ["one","other","rest"] ["one","other"] (ab (top 12)):=⟨rfl,rfl,rfl,by decide +kernel,rfl,by decide +kernel,by decide +kernel⟩
theorem CP (T:Txt K mg ar tc):bO P w K mg base (bK P w) 1 "common_divisor" ["one","other"] xB:=by
 refine T.j6.dX (λ_ _ _ _ _ _=>d9 λ_ _=>rfl) λf fd F=>F.d5 eG (λvs H Q E h=>?_) (λcn A outer s H vs Q E hr h=>?_)
 ·obtain⟨_,_,rfl,_⟩:=h;rfl
 ·obtain⟨a,b,rfl,k⟩:=h
  have nd:=eG.nd
  refine⟨_,(ae (aD (i:=0) nd rfl (Or.inl rfl) (aK mN (by rfl) T.z_abs rfl (aa (pv 0) af (se rfl)) (he:=se rfl) (hpl:=na rfl)))
  (ae (aD (i:=1) nd rfl (Or.inl rfl) (aK mN (by rfl) T.z_abs rfl (aa (pv 1) af (se rfl)) (he:=se rfl) (hpl:=na rfl)))
  (ae (gF PassesOwn.never (aO mK (pv 1) ag (aQ _)) (ae (aD (i:=2) nd rfl (Or.inl rfl) (aG cO (pv 0) (pv 1)))
  (ae (aD (i:=0) nd rfl (Or.inl rfl) (pv 1))
  (aj (aD (i:=1) nd rfl (Or.inl rfl) (pv 2))))))
  (aj (aI (pv 0)))))),?_⟩
  simp_all only[]
  refine rK (λσ H1=>H1=H/\∃(x y:Int) (z:Option V),σ=[some (.int x),some (.int y),z]/\0<=x/\0<=y/\Nm.g x y=Nm.g a b) (λσ _=>match σ with | [_,some (.int y),_]=>y.toNat | _=>0) ?_ ?_ ?_
  ·refine⟨rfl,_,_,_,rfl,?_,?_,?_⟩
   ·split <;>omega
   ·split <;>omega
   ·rw[show(if a<0 then -a else a)=(a.natAbs:Int) by split <;>omega,show(if b<0 then -b else b)=(b.natAbs:Int) by split <;>omega,Nm.yA,Nm.vv]
  ·rintro σ H1 ⟨rfl,x,y,z,rfl,x0,y0,e⟩
   simp_all only[]
   refine oR (λc=>?_) (λc=>?_)
   ·refine⟨by omega,y0,Int.emod_nonneg _ (by omega),by rw[Nm.yB x0 (by omega),e],?_⟩
    have:=Int.emod_lt_of_pos x (show 0<y by omega)
    have:=Int.emod_nonneg x (show y≠0 by omega)
    omega
   ·have z:y=0:=by omega
    subst z
    rw[Nm.yC x0] at e
    rw[e]
    exact k
  ·intro σ H1 Q1 Q2 hq hc
   simp only[L2.start,Pr,tRev,tLR,tMaxD,tSortR,tD1,tDPop1,tSl,tNoPart,tPart,rSlL,tDIn,tDNotIn,gSub,rSetL,tLst,tDNewK,tComp,L2.stC,tFor_eq,iList,iTup,iRng1,iRng2,iZip,iEnum,iDict,iStr,tChain,tSumV,tBM,rJoin,tJoined,jNil,jLit,jInt,jStr,tRaise,tDGet,tDGet2,tDGet1,sDPut,Option.join_some,List.getElem?_nil,tSeq,tRet,tRetN,tIfS,tTest,tB,tOp,tUn,tVar,tC,tCB,tCons,tNil,tCall,tTupS,tAsg,gName,gNil,gCons,tPar,tNext,tDrop,tAnd,tOr,tNot,tAndV,tOrV,tNotV,tIf,rI,rI0,rU,rIxTH,rIxLH,rEqT,rNeT,rInT,rEq,rNe,scal,CPow,at0,at1,at2,aao,aaR,aaw,List.length_nil,Nat.reduceSub,Nat.reduceAdd,aaG,abm,List.reduceReplicate,aaL,aa7,List.cons_append,abi,abh,aba,abb,abj,exists_eq_left',exists_eq_left,V.ref.injEq,V.int.injEq,V.bl.injEq,V.str.injEq,V.ty.injEq,HO.tup.injEq,HO.lst.injEq,List.cons.injEq,and_true,true_and,and_assoc,exists_and_left,decide_eq_true_eq,Bool.not_eq_true',decide_eq_false_iff_not,ite_true,ite_false,if_true,if_false,Int.reduceToNat,eq_self_iff_true] at hc ⊢
   obtain⟨v,e1,e2,q⟩:=hc
   exact⟨v,e1,e2,hq _ _ q⟩
theorem fh:aH ["several","common","one"] ["several"] (ab (top 14)):=⟨rfl,rfl,rfl,by decide +kernel,rfl,by decide +kernel,by decide +kernel⟩
theorem Hz (T:Txt K mg ar tc):bO P w K mg base (bK P w) 2 "common_bottom" ["several"] EA:=by
 have dk:bO P w K mg base (bK P w) 1 "common_divisor" ["one","other"] xB:=CP T
 refine T.kU.dX (λ_ _ _ _ _ _=>iQ λ_=>rfl) λf fd F=>F.d5 fh (λvs H Q E h=>?_) (λcn A outer s H vs Q E hr h=>?_)
 ·obtain⟨_,_,_,rfl,_⟩:=h;rfl
 ·obtain⟨a,ws,Z,rfl,rf,lw,dv,Z0,bZ,kk⟩:=h
  have nd:=fh.nd
  refine⟨_,(ae (aD (i:=1) nd rfl (Or.inl rfl) ag)
  (ae (b9 PassesOwn.never rfl (aS (K:=K) (pv 0)) (ax (i:=2) nd rfl (Or.inl rfl)) (aj (aD (i:=1) nd rfl (Or.inl rfl) (aG aX (aG dt (pv 1) (aJ dk (hr.mono (by decide)) rfl ay.pass (aa (pv 1) (aa (aw aA (pv 2) ag (λ_ _=>rfl)) af (se rfl)) (se rfl)) (he:=se rfl) (hpl:=na rfl))) (aw aA (pv 2) ag (λ_ _=>rfl))))))
  (aj (aI (pv 1))))),?_⟩
  obtain⟨_,xs,e,ha,rl⟩:=aL.mp rf
  cases e
  have lx:=rl.length
  rw[aab] at lx
  simp_all only[xB]
  refine⟨⟨_,aV.of ha⟩,bH (src_list (Ok:=λH'=>H'=H) (λH2 s2=>by rw[s2];exact aV.of ha)) (λi σ H'=>H'=H/\∃z,σ=[some (V.ref a),some (V.int (Wq.eN 1 (ws.take i))),z]) ⟨rfl,_,rfl⟩ (λ_ _ _ _ h=>h.1) ?_ ?_⟩
  ·rintro i v σ H1 H2 hi ⟨rfl,z,rfl⟩ ⟨rfl,ex⟩
   have oU:i<ws.length:=by omega
   have ew:ws[i]?=some ws[i]:=aac oU
   obtain⟨p,ep,hp⟩:=cf rl ew
   rw[ex] at ep
   cases ep
   have tk:ws.take (i+1)=ws.take i++ [ws[i]]:=by rw[aaI,ew];rfl
   obtain⟨l1,l2,l3,l4⟩:=Wq.mf (xs:=ws.take i) (c:=1) (by decide) λx hx=>(dv x (List.mem_of_mem_take hx)).1
   have lz:=l4 (Z:=Z) ⟨Z,by omega⟩ λx hx=>(dv x (List.mem_of_mem_take hx)).2
   have dw:=dv _ (aav oU)
   have b1:Bt 2000 (Wq.eN 1 (ws.take i)):=bZ.le (by have:=aa1 Z0 lz;omega)
   have b2:Bt 2000 (ws[i]).2:=bZ.le (by have:=aa1 Z0 dw.2;omega)
   have g0:0<Nm.g (Wq.eN 1 (ws.take i)) (ws[i]).2:=Nm.mT (by omega)
   have bg:Bt 2000 (Nm.g (Wq.eN 1 (ws.take i)) (ws[i]).2):=b2.le (by have:=Nm.DJ (a:=Wq.eN 1 (ws.take i)) dw.1;omega)
   simp_all only[xB,hp]
   exact⟨eU.of g0 bg,Bt.cV (b1.le (Nm.dz g0 (Nm.jf _ _))) b2,by rw[tk,Wq.pW];rfl,_,rfl⟩
  ·rintro σ H1 ⟨rfl,z,rfl⟩
   simp_all only[]
   rw[aaD (by omega)]
   exact kk
theorem tQ:aH ["top","bottom","divisor"] ["top","bottom"] (ab (top 13)):=⟨rfl,rfl,rfl,by decide +kernel,rfl,by decide +kernel,by decide +kernel⟩
theorem HE (T:Txt K mg ar tc):bO P w K mg base (bK P w) 2 "share" ["top","bottom"] Ez:=by
 have dk:bO P w K mg base (bK P w) 1 "common_divisor" ["one","other"] xB:=CP T
 refine T.BJ.dX (λ_ _ _ _ _ _=>d9 λ_ _=>rfl) λf fd F=>F.d5 tQ (λvs H Q E h=>?_) (λcn A outer s H vs Q E hr h=>?_)
 ·obtain⟨_,_,rfl,_⟩:=h;rfl
 ·obtain⟨a,b,rfl,bt,b0,kq⟩:=h
  have nd:=tQ.nd
  refine⟨_,(ae (bN (aO cJ (pv 1) ag (aQ _)) (aj mH)
   ba)
  (ae (aD (i:=2) nd rfl (Or.inl rfl) (aJ dk (hr.mono (by decide)) rfl ay.pass (aa (pv 0) (aa (pv 1) af (se rfl)) (se rfl)) (he:=se rfl) (hpl:=na rfl)))
  (ae (bN (aO rM (pv 1) ag (aQ _)) (aj (aD (i:=2) nd rfl (Or.inl rfl) (x8 um (pv 2))))
   ba)
  (aj (aI (bT (aa (aG dt (pv 0) (pv 2)) (aa (aG dt (pv 1) (pv 2)) af (se rfl)) (se rfl)))))))),?_⟩
  have g0:0<Nm.g a b:=Nm.mT (by omega)
  have gb:Bt 5000 (Nm.g a b):=bt.le (by have:=Nm.yD (a:=a) (show b≠0 by omega);omega)
  unfold Nm.st Nm.sb at kq
  rw[if_neg (show ¬b<0 by omega),if_neg (show ¬b<0 by omega)] at kq
  simp_all only[xB]
  rw[if_neg (by omega),if_neg (by omega)]
  exact⟨eU.of g0 gb,eU.of g0 gb,by decide,λp H2 s1 n1 e=>kq p H2 s1 n1 e⟩
theorem fi:aH ["board","part","product","place"] ["board","part"] (ab (top 27)):=⟨rfl,rfl,rfl,by decide +kernel,rfl,by decide +kernel,by decide +kernel⟩
theorem EU (T:Txt K mg ar tc):bO P w K mg base (bK P w) 1 "ways_of_picks" ["board","part"] zM:=by
 refine T.kY.dX (λ_ _ _ _ _ _=>d9 λ_ _=>rfl) λf fd F=>F.d5 fi (λvs H Q E h=>?_) (λcn A outer s H vs Q E hr h=>?_)
 ·obtain⟨_,_,_,_,rfl,_⟩:=h;rfl
 ·obtain⟨a,x,b,p,rfl,rb,hx,hp,pG,kk⟩:=h
  have nd:=fi.nd
  refine⟨_,(ae (aD (i:=2) nd rfl (Or.inl rfl) ag)
  (ae (b9 PassesOwn.never rfl (aS (K:=K) (pv 1)) (ax (i:=3) nd rfl (Or.inl rfl)) (aj (bN (aO cJ (aw aA (aw aB (pv 0) (pv 3) (λ_ _=>rfl)) ag (λ_ _=>rfl)) cP (aQ _)) (aj (aD (i:=2) nd rfl (Or.inl rfl) (aG aX (pv 2) (aK bC (by rfl) T.z_len aau (aa (aw aA (aw aB (pv 0) (pv 3) (λ_ _=>rfl)) ag (λ_ _=>rfl)) af (se rfl)) (he:=se rfl) (hpl:=na rfl)))))
   ba)))
  (aj (aI (pv 2))))),?_⟩
  obtain⟨_,xs,e,ha,rl⟩:=aL.mp rb
  cases e
  have eb:b[p]?=some b[p]:=aac hp
  obtain⟨v,ev,rv⟩:=d3 rl eb
  have fq:=pG _ (aav hp)
  simp_all only[]
  refine⟨⟨_,aV.of hx⟩,bH (src_list (Ok:=λH'=>H'=H) (λH2 s2=>by rw[s2];exact aV.of hx)) (λi σ H'=>H'=H/\∃(k:Int) (z:Option V),0<=k/\k<=4096/\(i=0->k=1)/\σ=[some (V.ref a),some (V.ref x),some (V.int k),z]) ⟨rfl,1,_,by decide,by decide,λ_=>rfl,rfl⟩ (λ_ _ _ _ h=>h.1) ?_ ?_⟩
  ·rintro i y σ H1 H2 hi ⟨rfl,k,z,k0,k1,ki,rfl⟩ ⟨rfl,ex⟩
   have i0:i=0:=by have:i<1:=hi;omega
   subst i0
   cases ex
   rw[ki rfl]
   generalize b[p]=q at *
   cases q with
   | fin g=>
    obtain⟨t,r,rfl,ht,_⟩:=cG.mp rv
    simp_all only[ha,show eA xs (p:Int)=some (.ref t) from bA ev,ht]
    rw[if_neg (by decide +kernel)]
    exact⟨1,by decide,by decide,by simp,rfl,_,rfl⟩
   | dO g ws=>
    obtain⟨t,r,l,zs,rfl,ht,_⟩:=cH.mp rv
    simp_all only[ha,show eA xs (p:Int)=some (.ref t) from bA ev,ht]
    rw[if_neg (by decide +kernel)]
    exact⟨1,by decide,by decide,by simp,rfl,_,rfl⟩
   | cu aR to=>
    obtain⟨t,l,rfl,ht,hl⟩:=cq.mp rv
    simp_all only[ha,show eA xs (p:Int)=some (.ref t) from bA ev,ht,hl]
    have lt:(List.map V.int to).length<=3:=by rw[aab];exact fq
    exact⟨(Bt.of (n:=1) 1 (by decide) (by decide)).cV (Bt.of (n:=2) 3 (by omega) (by omega)),_,by omega,by omega,by simp,rfl,_,rfl⟩
  ·rintro σ H1 ⟨rfl,k,z,k0,k1,ki,rfl⟩
   simp_all only[]
   exact kk k k1
theorem fj:aH ["board","left","found","part"] ["board"] (ab (top 28)):=⟨rfl,rfl,rfl,by decide +kernel,rfl,by decide +kernel,by decide +kernel⟩
theorem EV (T:Txt K mg ar tc) (LB:oV base mg tc tp):bO P w K mg base (bK P w) 6 "checked_parts" ["board"] (zN tp):=by
 have EW:bO P w K mg base (bK P w) 5 "ring" ["board"] u3:=BY T
 have B7:bO P w K mg base (bK P w) 3 "parts" ["board"] (Ac tp):=EO T LB
 have lE:bO P w K mg base (bK P w) 1 "ways_of_picks" ["board","part"] zM:=EU T
 refine T.kZ.dX (λ_ _ _ _ _ _=>iQ λ_=>rfl) λf fd F=>F.d5 fj (λvs H Q E h=>?_) (λcn A outer s H vs Q E hr h=>?_)
 ·obtain⟨_,_,_,rfl,_⟩:=h;rfl
 ·obtain⟨a,b,rk,rfl,rb,B,nH,kk⟩:=h
  have nd:=fj.nd
  refine⟨_,(ae (aD (i:=1) nd rfl (Or.inl rfl) (aJ EW (hr.mono (by decide)) rfl ay.pass (aa (pv 0) af (se rfl)) (he:=se rfl) (hpl:=na rfl)))
  (ae (bN (aO ik (aK bC (by rfl) T.z_len aau (aa (pv 1) af (se rfl)) (he:=se rfl) (hpl:=na rfl)) ag (aQ _)) (aj mH)
   ba)
  (ae (aD (i:=2) nd rfl (Or.inl rfl) (aJ B7 (hr.mono (by decide)) rfl ay.pass (aa (pv 0) af (se rfl)) (he:=se rfl) (hpl:=na rfl)))
  (ae (b9 PassesOwn.never rfl (aS (K:=K) (pv 2)) (ax (i:=3) nd rfl (Or.inl rfl)) (aj (bN (PW.pt (pw_or (aO ik (aK bC (by rfl) T.z_len aau (aa (pv 3) af (se rfl)) (he:=se rfl) (hpl:=na rfl)) (sI rfl T.c_MOST_PLACES) (aQ _)) (pw_or1 (aO ik (aJ lE (hr.mono (by decide)) rfl ay.pass (aa (pv 0) (aa (pv 3) af (se rfl)) (se rfl)) (he:=se rfl) (hpl:=na rfl)) (sI rfl T.c_MOST_PICKS) (aQ _))))) (aj mH)
   ba)))
  (aj (aI (pv 2))))))),?_⟩
  have bl:=B.len
  simp_all only[u3,Ac]
  refine⟨b,rb,B.bd,λl H1 s1 n1 hl=>⟨_,hl,?_⟩⟩
  rw[B.dn.ring]
  rw[if_neg (by simp)]
  refine⟨b,rb.mono s1,by omega,B.pG,B.dn.good,s1 _ _ nH,λl2 ps as H2 td s2 n2 xM al=>?_⟩
  have TC:Al (λp v=>∃x,v=.ref x/\H2 x=some (.lst [.int p])) ps (as.map V.ref):=by
   refine Al.of al.length λi v p ev ep=>?_
   obtain⟨p',oO,x,rfl,hx,_⟩:=al.get ev
   rw[ep] at oO
   cases oO
   rw[B.dn.eE (td.LC (aad ep))] at hx
   exact⟨x,rfl,hx⟩
  have Ad:=s1.trans s2
  refine⟨⟨_,aV.of xM⟩,bH (src_list (Ok:=λH'=>H'=H2) (λH3 s3=>by rw[s3];exact aV.of xM)) (λi σ H'=>H'=H2/\∃z,σ=[some (V.ref a),some (V.ref l),some (V.ref l2),z]) ⟨rfl,_,rfl⟩ (λ_ _ _ _ h=>h.1) ?_ ?_⟩
  ·rintro i y σ H3 H4 hi ⟨rfl,z,rfl⟩ ⟨rfl,ex⟩
   obtain⟨p,ep,x,rfl,hx⟩:=TC.get ex
   have ip:=td.LC (aad ep)
   obtain⟨p,rfl⟩:=aa0 ip.1
   simp_all only[zM,hx]
   rw[if_neg (by decide)]
   refine⟨b,rb.mono Ad,p,rfl,by have:=ip.2;omega,λq hq=>(B.ok q hq).pG,λk hk=>?_⟩
   rw[if_neg (by omega)]
   exact⟨_,rfl⟩
  ·rintro σ H3 ⟨rfl,z,rfl⟩
   simp_all only[]
   exact kk l2 ps as _ td Ad (none_of s1 n2) xM TC
theorem fk:aH ["place","way"] ["place","way"] (ab (top 29)):=⟨rfl,rfl,rfl,by decide +kernel,rfl,by decide +kernel,by decide +kernel⟩
theorem Ae (T:Txt K mg ar tc):bO P w K mg base (bK P w) 1 "weighted_ways" ["place","way"] tL:=by
 refine T.lh.dX (λ_ _ _ _ _ _=>d9 λ_ _=>rfl) λf fd F=>F.d5 fk (λvs H Q E h=>?_) (λcn A outer s H vs Q E hr h=>?_)
 ·obtain⟨_,_,_,rfl,_⟩:=h;rfl
 ·obtain⟨v,q,k,rfl,rv,pk,kk⟩:=h
  have nd:=fk.nd
  refine⟨_,(ae (bN (aO cJ (aw aA (pv 0) ag (λ_ _=>rfl)) cP (aQ _)) (aj (aI (aw aA (pv 0) ag (λ_ _=>rfl))))
   ba)
  (ae (bN (aO cJ (aw aA (pv 0) ag (λ_ _=>rfl)) cP (aQ _)) (aj (aI (cS (aa (bT (aa ag (aa (aw aB (aw aA (pv 0) ag (λ_ _=>rfl)) (pv 1) (λ_ _=>rfl)) af (se rfl)) (se rfl))) af (se rfl)))))
   ba)
  (aj (aI (cS af))))),?_⟩
  cases q with
  | fin g=>
   obtain⟨t,r,rfl,ht,_⟩:=cG.mp rv
   simp_all only[ht]
   rw[if_neg (by decide +kernel),if_neg (by decide +kernel)]
   exact⟨aar _,λl nl=>kk l _ (ao nl) (aL.mpr ⟨l,[],rfl,ah,rfl⟩)⟩
  | dO g ws=>
   obtain⟨t,r,l,zs,rfl,ht,_,hl,rz⟩:=cH.mp rv
   simp_all only[ht]
   exact kk l _ (aq.refl _) (aL.mpr ⟨l,zs,rfl,hl,rz⟩)
  | cu aR to=>
   obtain⟨t,l,rfl,ht,hl⟩:=cq.mp rv
   cases k with
   | none=>exact pk.elim
   | some k=>
    obtain⟨k0,k1⟩:=pk
    have at1:eA (to.map V.int) k=some (.int (to.getD k.toNat 0)):=du k0 k1
    simp_all only[c5,ht,hl,at1]
    rw[if_neg (by decide +kernel)]
    exact⟨by decide,λp H2 s2 np hp=>⟨by decide,λl2 nl=>kk l2 _ (s2.trans (ao nl)) (aL.mpr ⟨l2,[.ref p],rfl,ah,⟨_,_,rfl,bJ.mpr ⟨p,rfl,ao nl _ _ hp⟩,rfl⟩⟩)⟩⟩
theorem dD:aH ["board","picks"] ["board","picks"] (ab (top 30)):=⟨rfl,rfl,rfl,by decide +kernel,rfl,by decide +kernel,by decide +kernel⟩
theorem HF (T:Txt K mg ar tc):bO P w K mg base (bK P w) 2 "all_weighted_ways" ["board","picks"] Hj:=by
 have dM:bO P w K mg base (bK P w) 1 "weighted_ways" ["place","way"] tL:=Ae T
 refine T.ic.dX (λ_ _ _ _ _ _=>d9 λ_ _=>rfl) λf fd F=>F.d5 dD (λvs H Q E h=>?_) (λcn A outer s H vs Q E hr h=>?_)
 ·obtain⟨_,_,_,_,rfl,_⟩:=h;rfl
 ·obtain⟨a,c,b,ks,rfl,rb,lb,hc,lk,pk,kk⟩:=h
  have nd:=dD.nd
  refine⟨_,(aj (aI (bE rfl (N:=["board","picks"]) (so:=ab (top 30)) (N':=["place","way"]) (k:=2) (fr:=[]) rfl rfl ⟨rfl,by decide +kernel,by decide +kernel,by decide +kernel,rfl,by decide +kernel,by decide +kernel⟩ (jj (K:=K) rfl T.z_zip (aa (pv 0) (aa (pv 1) af (se rfl)) (se rfl))) (λ_ _ _ _ _=>(bU (K:=K) (n:=2) rfl (aM (ax (i:=0) (show(["place","way"]:List Str).Nodup by decide +kernel) rfl (Or.inl rfl)) (aM (ax (i:=1) (show(["place","way"]:List Str).Nodup by decide +kernel) rfl (Or.inl rfl)) bR)))) (λ_ _ _ _ _=>bx)
   (λ_ _ _ _ _=>(aJ dM (hr.mono (by decide)) rfl ay.pass (aa (pv 0) (aa (pv 1) af (se rfl)) (se rfl)) (he:=se rfl) (hpl:=na rfl)))))),?_⟩
  have sl:=sizeLine_eq
  obtain⟨_,xs,e,ha,rl⟩:=aL.mp rb
  cases e
  have lx:=rl.length
  rw[aab] at lx
  simp_all only[tL]
  refine⟨⟨_,aV.of ha⟩,⟨_,aV.of hc⟩,?_⟩
  refine g5 (K:=K) (lZ (λH' s'=>aV.of (s' _ _ ha)) (λH' s'=>aV.of (s' _ _ hc))) (λi u v H'=>∃q k,b[i]?=some q/\ks[i]?=some k/\Rep H (oJ q) u/\v=c5 k) ?_ (by rw[aab];omega) (λi y H'=>∃l,y=.ref l/\∀q k,b[i]?=some q->ks[i]?=some k->Rep H' (rh (fc q k)) (.ref l)) (λ_ _ _ _ s ⟨l,e,h⟩=>⟨l,e,λq k e1 e2=>(h q k e1 e2).mono s⟩) ?_ ?_
  ·rintro i v H2 H3 hi s2 ⟨t,x,y,nt,rfl,ex,ey,rfl⟩
   rw[aaf] at ey
   obtain⟨k,ek,rfl⟩:=Option.map_eq_some_iff.mp ey
   obtain⟨q,eq,rq⟩:=d7 rl ex
   exact⟨ao nt,t,_,_,rfl,dR.of ah,q,k,eq,ek,rq,rfl⟩
  ·rintro i u v H2 Q2 hi s2 ⟨q,k,eq,ek,rq,rfl⟩ kq
   simp_all only[tL]
   refine⟨q,k,rfl,rq.mono s2,pk i q k eq ek,λl H3 s3 r3=>kq _ _ s3 ⟨l,rfl,λq' k' e1 e2=>?_⟩⟩
   rw[eq] at e1
   rw[ek] at e2
   cases e1
   cases e2
   exact r3
  ·intro ys H2 s2 ly hy D n1 n2
   rw[aab] at ly
   have lz:(dW b ks).length=b.length:=by unfold dW;rw[List.length_zipWith];omega
   refine kk D ys _ (s2.trans (ao n2)) (none_of s2 n2) ah (cK (by rw[lz];omega) λi y ey ws ew=>?_)
   have hi:i<b.length:=by have:=(List.getElem?_eq_some_iff.mp ew).1;omega
   obtain⟨l,rfl,hl⟩:=hy i y ey
   have e1:b[i]?=some b[i]:=aac hi
   have e2:ks[i]?=some ks[i]:=aac (by omega)
   have e3:ws=fc b[i] ks[i]:=by
    unfold dW at ew
    rw[List.getElem?_zipWith,e1,e2] at ew
    exact(aax ew).symm
   rw[e3]
   exact(hl _ _ e1 e2).mono (λa o h=>by
    have:a≠D:=λz=>by rw[z,n2] at h;cases h
    rw[cm this,au this]
    exact h)
theorem gi:aH ["ways"] ["ways"] (ab (top 31)):=⟨rfl,rfl,rfl,by decide +kernel,rfl,by decide +kernel,by decide +kernel⟩
theorem CQ (T:Txt K mg ar tc):bO P w K mg base (bK P w) 1 "total_weight" ["ways"] zO:=by
 refine T.nN.dX (λ_ _ _ _ _ _=>iQ λ_=>rfl) λf fd F=>F.d5 gi (λvs H Q E h=>?_) (λcn A outer s H vs Q E hr h=>?_)
 ·obtain⟨_,_,rfl,_⟩:=h;rfl
 ·obtain⟨a,ws,rfl,rf,l3,kk⟩:=h
  have nd:=gi.nd
  refine⟨_,(aj (aI (gE (aO ik (aK bC (by rfl) T.z_len aau (aa (pv 0) af (se rfl)) (he:=se rfl) (hpl:=na rfl)) ag (aQ _)) (aK (gK (K:=K)) (by rfl) T.z_sum rfl (aa (bE rfl (N:=["ways"]) (so:=ab (top 31)) (N':=["weight","to"]) (k:=2) (fr:=[]) rfl rfl ⟨rfl,by decide +kernel,by decide +kernel,by decide +kernel,rfl,by decide +kernel,by decide +kernel⟩ (aS (K:=K) (pv 0)) (λ_ _ _ _ _=>(bU (K:=K) (n:=2) rfl (aM (ax (i:=0) (show(["weight","to"]:List Str).Nodup by decide +kernel) rfl (Or.inl rfl)) (aM (ax (i:=1) (show(["weight","to"]:List Str).Nodup by decide +kernel) rfl (Or.inl rfl)) bR)))) (λ_ _ _ _ _=>bx)
   (λ_ _ _ _ _=>(pv 0))) af (se rfl)) (he:=se rfl) (hpl:=na rfl)) ag))),?_⟩
  obtain⟨_,xs,e,ha,rl⟩:=aL.mp rf
  cases e
  have lx:=rl.length
  rw[aab] at lx
  simp_all only[]
  refine⟨xs,ha,?_⟩
  by_cases c:ws=[]
  ·subst c
   have l0:xs.length=0:=lx.symm
   rw[if_neg (by omega)]
   exact kk _ (aq.refl _)
  ·have l0:=List.length_pos_iff.mpr c
   rw[if_pos (by omega)]
   refine⟨⟨_,aV.of ha⟩,?_⟩
   have S:Src (ug K a) (aq H) ws.length (λi x H H3=>H3=H/\xs[i]?=some x):=by rw[lx];exact src_list (λH' s'=>aV.of (s' _ _ ha))
   refine fG ws (λp=>some p.1) S (λ_ _ _ _ h=>h.1) (by rw[sizeLine_eq];omega) ?_ ?_
   ·rintro i p x ep ⟨_,ex⟩
    obtain⟨t,et,ht⟩:=cf rl ep
    rw[ex] at et
    cases et
    refine⟨t,_,_,rfl,dR.of ht,λY N y1 _=>?_⟩
    simp_all only[gx]
    exact y1 _ rfl
   ·intro D n1 n2
    rw[dq]
    have:=kk _ (ao (o:=.lst (List.map V.int (ws.map λp=>p.1))) n2)
    unfold Dg.tt at this
    rw[if_neg c] at this
    exact⟨_,aV.of ah,this⟩
theorem jA:aH ["part","ways","spots","spot","place","rows","row","weight","to"] ["part","ways"] (ab (top 32)):=⟨rfl,rfl,rfl,by decide +kernel,rfl,by decide +kernel,by decide +kernel⟩
theorem EX (T:Txt K mg ar tc):bO P w K mg base (bK P w) 2 "part_rows" ["part","ways"] zP:=by
 have ef:bO P w K mg base (bK P w) 1 "total_weight" ["ways"] zO:=CQ T
 refine T.tw.dX (λ_ _ _ _ _ _=>d9 λ_ _=>rfl) λf fd F=>F.d5 jA (λvs H Q E h=>?_) (λcn A outer s H vs Q E hr h=>?_)
 ·obtain⟨_,_,_,_,_,_,rfl,_⟩:=h;rfl
 ·obtain⟨x,wl,p,xs,xC,ws,rfl,hx,hw,rl,ew,l3,off,kk⟩:=h
  have nd:=jA.nd
  refine⟨_,(ae (aD (i:=2) nd rfl (Or.inl rfl) yp)
  (ae (b9 PassesOwn.never rfl (cE (K:=K) rfl T.z_enumerate (aa (pv 0) af (se rfl))) (bU (K:=K) (n:=2) rfl (aM (ax (i:=3) nd rfl (Or.inl rfl)) (aM (ax (i:=4) nd rfl (Or.inl rfl)) bR))) (aj (vt (pI hr) (pv 2) (pv 4) (pv 3) rfl)))
  (ae (aD (i:=5) nd rfl (Or.inl rfl) (cS af))
  (ae (b9 PassesOwn.never rfl (cE (K:=K) rfl T.z_enumerate (aa (pv 0) af (se rfl))) (bU (K:=K) (n:=2) rfl (aM (ax (i:=3) nd rfl (Or.inl rfl)) (aM (ax (i:=4) nd rfl (Or.inl rfl)) bR))) (ae (aD (i:=6) nd rfl (Or.inl rfl) (aG uD (cS (aa ag af (se rfl))) (aK bC (by rfl) T.z_len aau (aa (pv 0) af (se rfl)) (he:=se rfl) (hpl:=na rfl))))
  (ae (dH (aJ ef (hr.mono (by decide)) rfl ay.pass (aa (aw aB (pv 1) (pv 4) (λ_ _=>rfl)) af (se rfl)) (he:=se rfl) (hpl:=na rfl)) (dG (pv 6) (pv 3) set_list))
  (ae (b9 PassesOwn.never rfl (aS (K:=K) (aw aB (pv 1) (pv 4) (λ_ _=>rfl))) (bU (K:=K) (n:=2) rfl (aM (ax (i:=7) nd rfl (Or.inl rfl)) (aM (ax (i:=8) nd rfl (Or.inl rfl)) bR))) (aj (bN (ub (yo (pI hr) (pv 8) (pv 2))) (aj (AU (pv 6) (Bb (pI hr) (pv 2) (pv 8) (λ_ _=>rfl)) zt (pv 7) Dk set_list))
   ba)))
  (aj (fz (jc abe abn abo c9.r (pv 5) (aa (pv 6) af (se rfl)))))))))
  (aj (aI (pv 5))))))),?_⟩
  obtain⟨v,ev,rv⟩:=rl.at (d:=rh ws) (i:=p) (by rw[aaf,ew];rfl)
  obtain⟨wv,us,rfl,EY,ru⟩:=aL.mp rv
  have EZ:=bA ev
  change tSeq _ _ _ _ _
  refine aW (λσ' H1=>∃d,aq H H1/\H d=none/\H1 d=some (.dK [])/\σ'=[some (.ref x),some (.ref wl),some (.ref d),none,none,none,none,none,none]) ?_ (λN hN=>?_)
  case refine_2=>
   simp_all only[]
   exact λd n1=>hN _ _ ⟨d,ao n1,n1,ah,rfl⟩
  rintro _ H1 ⟨d,s1,n1,hd,rfl⟩
  change tSeq _ _ _ _ _
  refine aW (λσ' H2=>aq H H2/\H2 d=some (.dK [(Sum.inl (p:Int),.int 0)])/\∃z3 z4,σ'=[some (.ref x),some (.ref wl),some (.ref d),z3,z4,none,none,none,none]) ?_ (λN hN=>?_)
  case refine_2=>
   simp_all only[]
   refine⟨⟨_,aV.of (s1 _ _ hx)⟩,bH (eV (Ok:=aq H) (λH' s=>aV.of (s _ _ hx))) (λi σ H3=>aq H H3/\H3 d=some (.dK (if i=0 then [] else [(Sum.inl (p:Int),.int 0)]))/\∃z3 z4,σ=[some (.ref x),some (.ref wl),some (.ref d),z3,z4,none,none,none,none]) ⟨s1,hd,_,_,rfl⟩ (λ_ _ _ _ h=>h.1) ?_ ?_⟩
   ·rintro i y σ H3 H4 hi ⟨s3,LM,z3,z4,rfl⟩ ⟨q,y,nq,rfl,ey,rfl⟩
    have i0:i=0:=by have:i<1:=hi;omega
    subst i0
    cases ey
    refine⟨q,_,rfl,dR.of ah,rfl,?_⟩
    have s4:=ao (o:=.tup [.int ((0:Nat):Int),.int (p:Int)]) nq
    generalize upd H3 q (.tup [.int ((0:Nat):Int),.int (p:Int)])=H4 at *
    simp_all only[]
    exact⟨_,uE.k (k:=Sum.inl (p:Int)) (v:=.int 0) (s4 _ _ LM) (by show 0<sizeLine;decide),aU (s3.trans s4) n1,ah,_,rfl⟩
   ·rintro σ H3 ⟨s3,LM,z3,z4,rfl⟩
    exact hN _ _ ⟨s3,LM,_,_,rfl⟩
  rintro _ H2 ⟨s2,hd2,z3,z4,rfl⟩
  change tSeq _ _ _ _ _
  refine aW (λσ' H3=>∃r,aq H2 H3/\H2 r=none/\H3 r=some (.lst [])/\σ'=[some (.ref x),some (.ref wl),some (.ref d),z3,z4,some (.ref r),none,none,none]) ?_ (λN hN=>?_)
  case refine_2=>
   simp_all only[]
   exact⟨aar _,λr n3=>hN _ _ ⟨r,ao n3,n3,ah,rfl⟩⟩
  rintro _ H3 ⟨r,s3,nr,WC,rfl⟩
  have nrH:H r=none:=none_of s2 nr
  change tSeq _ _ _ _ _
  refine aW (λσ' H4=>aq H H4/\(∃t,H4 r=some (.lst [.ref t])/\H4 t=some (.lst [.int (Dg.tt ws)]))/\∃z3 z4 z6 z7 z8,σ'=[some (.ref x),some (.ref wl),some (.ref d),z3,z4,some (.ref r),z6,z7,z8]) ?_ (λN hN=>?_)
  case refine_2=>
   simp_all only[]
   refine⟨⟨_,aV.of (s3 _ _ (s2 _ _ hx))⟩,bH (eV (Ok:=aq H2) (λH' s=>aV.of (s _ _ (s2 _ _ hx)))) (λi σ H4=>aq H2 H4/\((i=0/\H4 r=some (.lst []))\/(i=1/\∃t,H4 r=some (.lst [.ref t])/\H4 t=some (.lst [.int (Dg.tt ws)])))/\∃z3 z4 z6 z7 z8,σ=[some (.ref x),some (.ref wl),some (.ref d),z3,z4,some (.ref r),z6,z7,z8]) ⟨s3,.inl ⟨rfl,WC⟩,_,_,_,_,_,rfl⟩ (λ_ _ _ _ h=>h.1) ?_ ?_⟩
   ·rintro i y σ H4 H5 hi ⟨s4,iv,z3,z4,z6,z7,z8,rfl⟩ ⟨q,y,nq,rfl,ey,rfl⟩
    have i0:i=0:=by have:i<1:=hi;omega
    subst i0
    cases ey
    refine⟨q,_,rfl,dR.of ah,rfl,?_⟩
    have s5:=ao (o:=.tup [.int ((0:Nat):Int),.int (p:Int)]) nq
    generalize upd H4 q (.tup [.int ((0:Nat):Int),.int (p:Int)])=H5 at *
    rcases iv with ⟨_,TF⟩ | ⟨h,_⟩
    ·simp_all only[A7,zO]
     have LN:=s4.trans s5
     refine⟨by decide,λm1 k1=>?_⟩
     have s6:=ao (o:=.lst [.int 0]) k1
     have h6:upd H5 m1 (.lst [.int 0]) m1=some (.lst [.int 0]):=ah
     generalize upd H5 m1 (.lst [.int 0])=H6 at *
     refine⟨_,s6 _ _ (LN _ _ (s2 _ _ hx)),_,h6,by show(-2^63:Int)<=1;decide,by show(1:Int)<2^63;decide,by show 1<=sizeLine;decide,λro k2=>?_⟩
     rw[show(List.replicate (([V.int (p:Int)].length:Nat):Int).toNat [V.int 0]).flatten=[V.int 0] from rfl]
     have s7:=ao (o:=.lst [.int 0]) k2
     have h7:upd H6 ro (.lst [.int 0]) ro=some (.lst [.int 0]):=ah
     generalize upd H6 ro (.lst [.int 0])=H7 at *
     have LO:=LN.trans (s6.trans s7)
     have WD:H2 ro=none:=none_of (LN.trans s6) k2
     have WG:=LO _ _ (s2 _ _ hw)
     refine⟨_,WG,_,EZ,wv,rfl,ws,rv.mono (s2.trans LO),l3,λH8 s8=>⟨_,s8 _ _ h7,0,rfl,?_⟩⟩
     rw[show[V.int 0].set 0 (V.int (Dg.tt ws))=[V.int (Dg.tt ws)] from rfl]
     have s9:aq H2 (upd H8 ro (.lst [.int (Dg.tt ws)])):=aU (LO.trans s8) WD
     have h9:upd H8 ro (.lst [.int (Dg.tt ws)]) ro=some (.lst [.int (Dg.tt ws)]):=ah
     have TH:r≠ro:=λz=>by rw[<-z,(s5.trans s6) _ _ TF] at k2;cases k2
     have TK:upd H8 ro (.lst [.int (Dg.tt ws)]) r=some (.lst []):=by rw[au TH];exact(s5.trans (s6.trans (s7.trans s8))) _ _ TF
     generalize upd H8 ro (.lst [.int (Dg.tt ws)])=H9 at *
     have WH:=ru.mono (s2.trans s9)
     refine⟨_,s9 _ _ (s2 _ _ hw),_,EZ,wv,rfl,⟨_,aV.of (s9 _ _ (s2 _ _ EY))⟩,bH (src_list (Ok:=λH'=>H'=H9) (λH2 WI=>by rw[WI];exact aV.of (s9 _ _ (s2 _ _ EY)))) (λi σ H'=>H'=H9/\∃z7 z8,σ=[some (.ref x),some (.ref wl),some (.ref d),some (.int 0),some (.int (p:Int)),some (.ref r),some (.ref ro),z7,z8]) ⟨rfl,_,_,rfl⟩ (λ_ _ _ _ h=>h.1) ?_ ?_⟩
     ·rintro j y σ HA HB hj ⟨rfl,z7,z8,rfl⟩ ⟨rfl,ey⟩
      have lu:=ru.length
      rw[aab] at lu
      have ej:ws[j]?=some ws[j]:=aac (by omega)
      obtain⟨t,et,ht⟩:=cf WH ej
      rw[ey] at et
      cases et
      refine⟨t,_,rfl,dR.of ht,rfl,?_⟩
      simp_all only[]
      refine⟨none,.inl ⟨_,Sum.inl (ws[j]).2,.inl (s9 _ _ hd2),rfl,?_⟩,?_⟩
      ·symm
       refine mh ?_
       have:=off _ (aav (show j<ws.length by omega))
       simp only[aao,aaR,List.mem_singleton]
       intro z
       exact this (by injection z)
      ·rw[if_neg (by simp)]
       exact⟨_,rfl⟩
     ·rintro σ HA ⟨rfl,z7,z8,rfl⟩
      simp_all only[jd]
      refine⟨.inl ⟨rfl,_,aV.of TK⟩,_,TK,by show 0<sizeLine;decide,aU s9 nr,?_⟩
      exact⟨.inr ⟨ro,ah,by rw[au (Ne.symm TH)];exact h9⟩,_,rfl⟩
    ·cases h
   ·rintro σ H4 ⟨s4,iv,z3,z4,z6,z7,z8,rfl⟩
    rcases iv with ⟨h,_⟩ | ⟨_,ht⟩
    ·cases h
    ·exact hN _ _ ⟨s2.trans s4,ht,_,_,_,_,_,rfl⟩
  rintro _ H4 ⟨s4,⟨t,h1,h2⟩,z3,z4,z6,z7,z8,rfl⟩
  simp_all only[]
  exact kk _ _ _ s4 h1 h2
theorem oi:aH ["place"] ["place"] (ab (top 34)):=⟨rfl,rfl,rfl,by decide +kernel,rfl,by decide +kernel,by decide +kernel⟩
theorem HG (T:Txt K mg ar tc):bO P w K mg base (bK P w) 1 "gain_of" ["place"] EB:=by
 refine T.xx.dX (λ_ _ _ _ _ _=>iQ λ_=>rfl) λf fd F=>F.d5 oi (λvs H Q E h=>?_) (λcn A outer s H vs Q E hr h=>?_)
 ·obtain⟨_,_,rfl,_⟩:=h;rfl
 ·obtain⟨a,q,rfl,rq,kk⟩:=h
  have nd:=oi.nd
  refine⟨_,(aj (aI (gE (aO cJ (aw aA (pv 0) ag (λ_ _=>rfl)) cP (aQ _)) (bT (aa ag (aa ag af (se rfl)) (se rfl))) (aw aA (pv 0) ag (λ_ _=>rfl))))),?_⟩
  cases q with
  | fin g=>
   obtain⟨t',r,e,E1,va⟩:=cG.mp rq
   cases e
   simp_all only[E1]
   rw[if_neg (by decide +kernel)]
   exact kk _ _ (aq.refl _) va
  | dO g ws=>
   obtain⟨t',r,l,zs,e,E1,va,vP,rz⟩:=cH.mp rq
   cases e
   simp_all only[E1]
   rw[if_neg (by decide +kernel)]
   exact kk _ _ (aq.refl _) va
  | cu w to=>
   obtain⟨t',l,e,E1,vP⟩:=cq.mp rq
   cases e
   simp_all only[E1]
   exact⟨by decide,λp H2 s2 _ e2=>kk _ _ s2 e2⟩
theorem fm:aH ["self","tops","bottom"] ["self","tops","bottom"] (ab (inClass (top 33) 0)):=⟨rfl,rfl,rfl,by decide +kernel,rfl,by decide +kernel,by decide +kernel⟩
theorem Af (T:Txt K mg ar tc):pT P w K mg base (bK P w) 1 "Book" ar ["self","tops","bottom"] (BR ar):=by
 refine T.BM.dX (λ_ _ _ _ _ _=>qN λ_ _ _=>rfl) λf fd F=>F.d5 fm (λvs H Q E h=>?_) (λcn A outer s H vs Q E hr h=>?_)
 ·obtain⟨_,_,_,_,_,rfl,_⟩:=h;rfl
 ·obtain⟨x,dx,l,ts,b,rfl,hx,hl,kk⟩:=h
  have nd:=fm.nd
  refine⟨_,(ae (yd (pv 0) (gY (dm (K:=K)) (by rfl) T.z_list rfl (aa (pv 1) af (se rfl)) (he:=se rfl) (hpl:=na rfl)) rfl)
  (aj (yd (pv 0) (pv 2) rfl))),?_⟩
  simp_all only[Gi]
  refine⟨_,.inl (aV.of hl),λm nm=>?_⟩
  have mx:m≠x:=λz=>by rw[z,hx] at nm;cases nm
  have WJ:upd H m (.lst (ts.map V.int)) x=some (.ins ar dx []):=by rw[au (Ne.symm mx)];exact hx
  refine⟨_,_,_,WJ,T.b8,T.na_Book_tops,by decide,_,_,_,ah,T.b8,T.na_Book_bottom,by show(1:Nat)<1000;decide,?_⟩
  refine kk m _ nm ?_ ?_ ?_
  ·rw[au mx,au mx,ah]
  ·rw[ah]
   show some (HO.ins ar dx (if Str.ofString "tops"=Str.ofString "bottom" then _ else _))=_
   rw[if_neg (by decide +kernel)]
   rfl
  ·intro y o ny hy
   have ym:y≠m:=λz=>by rw[z,nm] at hy;cases hy
   rw[au ny,au ny,au ym]
   exact hy
theorem oj:aH ["several","bottom"] ["several"] (ab (top 35)):=⟨rfl,rfl,rfl,by decide +kernel,rfl,by decide +kernel,by decide +kernel⟩
theorem HJ (T:Txt K mg ar tc):bO P w K mg base (bK P w) 3 "book_of" ["several"] (EC ar):=by
 have lF:bO P w K mg base (bK P w) 2 "common_bottom" ["several"] EA:=Hz T
 have oq:pT P w K mg base (bK P w) 1 "Book" ar ["self","tops","bottom"] (BR ar):=Af T
 refine T.xy.dX (λ_ _ _ _ _ _=>iQ λ_=>rfl) λf fd F=>F.d5 oj (λvs H Q E h=>?_) (λcn A outer s H vs Q E hr h=>?_)
 ·obtain⟨_,_,_,rfl,_⟩:=h;rfl
 ·obtain⟨a,ws,Z,rfl,rf,lw,dv,Z0,bZ,kk⟩:=h
  have nd:=oj.nd
  refine⟨_,(ae (aD (i:=1) nd rfl (Or.inr rfl) (aJ lF (hr.mono (by decide)) rfl ay.pass (aa (pv 0) af (se rfl)) (he:=se rfl) (hpl:=na rfl)))
  (aj (aI (zg oq (hr.mono (by decide)) rfl ay.pass (aa (bE rfl (N:=["several","bottom"]) (so:=ab (top 35)) (N':=["one","bottom"]) (k:=1) (fr:=[1]) rfl rfl ⟨rfl,by decide +kernel,by decide +kernel,by decide +kernel,rfl,by decide +kernel,by decide +kernel⟩ (aS (K:=K) (pv 0)) (λ_ _ _ _ _=>(ax (i:=0) (show(["one","bottom"]:List Str).Nodup by decide +kernel) rfl (Or.inl rfl))) (λ_ _ _ _ _=>bx)
   (λ_ _ _ _ _=>(aG aX (aw aA (pv 0) ag (λ_ _=>rfl)) (aG dt (pv 1) (aw aA (pv 0) ag (λ_ _=>rfl)))))) (aa (pv 1) af (se rfl)) (se rfl)) (he:=se rfl) (hpl:=na rfl))))),?_⟩
  simp_all only[EA,rO]
  refine⟨ws,rf,lw,Z,λx hx=>⟨(dv x hx).1,(dv x hx).2.1⟩,Z0,bZ,?_⟩
  obtain⟨_,xs,e,ha,rl⟩:=aL.mp rf
  cases e
  have lx:=rl.length
  rw[aab] at lx
  refine⟨⟨_,aV.of ha⟩,?_⟩
  obtain⟨l1,l2,l3,l4⟩:=Wq.mf (xs:=ws) (c:=1) (by decide) λx hx=>(dv x hx).1
  have lz:=l4 (Z:=Z) ⟨Z,by omega⟩ λx hx=>(dv x hx).2.1
  have b1:Bt 2000 (Wq.eN 1 ws):=bZ.le (by have:=aa1 Z0 lz;omega)
  have S:Src (ug K a) (aq H) ws.length (λi x H H3=>H3=H/\xs[i]?=some x):=by rw[lx];exact src_list (λH' s'=>aV.of (s' _ _ ha))
  refine dc ws (λx=>some (Wq.sc (Wq.eN 1 ws) x)) S (λ_ _ _ _ h=>h.1) (by rw[sizeLine_eq];omega) ?_ ?_
  ·rintro i x v ep ⟨_,ex⟩ Y N y1 _
   obtain⟨t,et,ht⟩:=cf rl ep
   rw[ex] at et
   cases et
   have dx:=dv x (aad ep)
   have b2:Bt 2000 x.2:=bZ.le (by have:=aa1 Z0 dx.2.1;omega)
   simp_all only[gx,ht]
   exact⟨eU.of dx.1 b2,Bt.cV dx.2.2 (b1.le (Nm.dz dx.1 (l3 x (aad ep)))),y1 _ rfl⟩
  ·intro D n1 n2 x dx nx LP ne
   rw[dq] at nx LP ⊢
   have s1:=ao (H:=H) (o:=.lst (List.map V.int (ws.map (Wq.sc (Wq.eN 1 ws))))) n2
   have hD:upd H D (.lst (List.map V.int (ws.map (Wq.sc (Wq.eN 1 ws))))) D=some _:=ah
   have s2:=s1.trans (ao (o:=.own x) LP)
   have HK:=ao (o:=.own x) LP _ _ hD
   generalize upd H D (.lst (List.map V.int (ws.map (Wq.sc (Wq.eN 1 ws)))))=H1 at *
   have xD:D≠x:=λz=>by rw[z,nx] at hD;cases hD
   refine⟨x,dx,D,_,_,rfl,ah,by rw[au xD];exact HK,λm H' nm hm oH ky=>⟨rfl,kk x H' (λy o hy=>?_) ⟨dx,m,oH,hm⟩⟩⟩
   have yx:y≠x:=λz=>by have:=s1 _ _ hy;rw[z,nx] at this;cases this
   exact ky y o yx (by rw[au yx];exact s2 _ _ hy)
theorem HL {a b:V}:List.lookup (Str.ofString "scaled") [(("tops":Str),a),(("bottom":Str),b)]=none:=rfl
theorem eI {n i:Nat} (h:i<n):yi n (i:Int)=some i:=by
 unfold yi
 rw[if_pos (by omega),if_pos (by omega)]
 rfl
theorem jB {a b:V}:List.lookup (Str.ofString "tops") [(("tops":Str),a),(("bottom":Str),b)]=some a:=rfl
theorem tR {a b:V}:List.lookup (Str.ofString "bottom") [(("tops":Str),a),(("bottom":Str),b)]=some b:=rfl
theorem gQ:aH ["self","factor"] ["self","factor"] (ab (inClass (top 33) 1)):=⟨rfl,rfl,rfl,by decide +kernel,rfl,by decide +kernel,by decide +kernel⟩
theorem E2 (T:Txt K mg ar tc):nI P w K mg base (bK P w) 3 ar "scaled" ["self","factor"] (CM ar):=by
 have oq:pT P w K mg base (bK P w) 1 "Book" ar ["self","tops","bottom"] (BR ar):=Af T
 refine T.nP.dX (λ_ _ _ _ _ _=>d9 λ_ _=>rfl) λf fd F=>F.d5 gQ (λvs H Q E h=>?_) (λcn A outer s H vs Q E hr h=>?_)
 ·obtain⟨_,_,_,rfl,_⟩:=h;rfl
 ·obtain⟨x,S,d,rfl,⟨dx,m,hx,hm⟩,bd,bb,bt,ln,kk⟩:=h
  have nd:=gQ.nd
  refine⟨_,(aj (aI (zg oq (hr.mono (by decide)) rfl ay.pass (aa (bE rfl (N:=["self","factor"]) (so:=ab (inClass (top 33) 1)) (N':=["top","factor"]) (k:=1) (fr:=[1]) rfl rfl ⟨rfl,by decide +kernel,by decide +kernel,by decide +kernel,rfl,by decide +kernel,by decide +kernel⟩ (aS (K:=K) (dI (pv 0) rfl)) (λ_ _ _ _ _=>(ax (i:=0) (show(["top","factor"]:List Str).Nodup by decide +kernel) rfl (Or.inl rfl))) (λ_ _ _ _ _=>bx)
   (λ_ _ _ _ _=>(aG aX (pv 0) (pv 1)))) (aa (aG aX (dI (pv 0) rfl) (pv 1)) af (se rfl)) (se rfl)) (he:=se rfl) (hpl:=na rfl)))),?_⟩
  simp_all only[jQ,rO]
  refine⟨_,_,_,hx,T.b8,T.na_Book_tops,_,jB,m,rfl,⟨_,aV.of hm⟩,?_⟩
  have S':Src (ug K m) (aq H) S.1.length (λi x H H3=>H3=H/\(S.1.map V.int)[i]?=some x):=by
   have:=src_list (K:=K) (a:=m) (xs:=S.1.map V.int) (Ok:=aq H) (λH' s'=>aV.of (s' _ _ hm))
   rwa [aab] at this
  refine dc S.1 (λt=>some (t*d)) S' (λ_ _ _ _ h=>h.1) (by rw[sizeLine_eq];omega) ?_ ?_
  ·rintro i t v et ⟨_,ex⟩ Y N y1 _
   rw[aaf,et] at ex
   cases ex
   simp_all only[gx]
   exact⟨(bt t (aad et)).cV bd,y1 _ rfl⟩
  ·intro D n1 n2
   rw[dq]
   have s1:=ao (H:=H) (o:=.lst (List.map V.int (S.1.map (·*d)))) n2
   have hD:upd H D (.lst (List.map V.int (S.1.map (·*d)))) D=some (.lst (List.map V.int (S.1.map (·*d)))):=ah
   generalize upd H D (.lst (List.map V.int (S.1.map (·*d))))=H1 at *
   refine⟨_,_,_,s1 _ _ hx,T.b8,T.na_Book_bottom,_,tR,_,rfl,bb.cV bd,λy dy ny HM ne=>?_⟩
   have s2:=s1.trans (ao (o:=.own y) HM)
   have HK:=ao (o:=.own y) HM _ _ hD
   have xD:D≠y:=λz=>by rw[z,ny] at hD;cases hD
   refine⟨y,dy,D,_,_,rfl,ah,by rw[au xD];exact HK,λm' H' nm HN oH ky=>⟨rfl,kk y dy m' H' (λz o hz=>?_) (none_of s1 ny) ?_ oH HN⟩⟩
   ·have yx:z≠y:=λe=>by have:=s1 _ _ hz;rw[e,ny] at this;cases this
    exact ky z o yx (by rw[au yx];exact s2 _ _ hz)
   ·have my:m'≠y:=λe=>by rw[e,ah] at nm;cases nm
    rw[au my] at nm
    exact none_of s2 nm
theorem eJ:aH ["self"] ["self"] (ab (inClass (top 33) 2)):=⟨rfl,rfl,rfl,by decide +kernel,rfl,by decide +kernel,by decide +kernel⟩
theorem HP (T:Txt K mg ar tc):nI P w K mg base (bK P w) 3 ar "as_shares" ["self"] (Hk ar):=by
 have B8:bO P w K mg base (bK P w) 2 "share" ["top","bottom"] Ez:=HE T
 refine T.jt.dX (λ_ _ _ _ _ _=>iQ λ_=>rfl) λf fd F=>F.d5 eJ (λvs H Q E h=>?_) (λcn A outer s H vs Q E hr h=>?_)
 ·obtain⟨_,_,rfl,_⟩:=h;rfl
 ·obtain⟨x,S,rfl,⟨dx,m,hx,hm⟩,b0,bb,ln,kk⟩:=h
  have nd:=eJ.nd
  refine⟨_,(aj (aI (bE rfl (N:=["self"]) (so:=ab (inClass (top 33) 2)) (N':=["top","self"]) (k:=1) (fr:=[0]) rfl rfl ⟨rfl,by decide +kernel,by decide +kernel,by decide +kernel,rfl,by decide +kernel,by decide +kernel⟩ (aS (K:=K) (dI (pv 0) rfl)) (λ_ _ _ _ _=>(ax (i:=0) (show(["top","self"]:List Str).Nodup by decide +kernel) rfl (Or.inl rfl))) (λ_ _ _ _ _=>bx)
   (λ_ _ _ _ _=>(aJ B8 (hr.mono (by decide)) rfl ay.pass (aa (pv 0) (aa (vS (K:=K) (pv 1) rfl) af (se rfl)) (se rfl)) (he:=se rfl) (hpl:=na rfl)))))),?_⟩
  simp_all only[jQ]
  refine⟨_,_,_,hx,T.b8,T.na_Book_tops,_,jB,m,rfl,⟨_,aV.of hm⟩,?_⟩
  refine comp_map (src_list (K:=K) (a:=m) (xs:=S.1.map V.int) (Ok:=aq H) (λH' s'=>aV.of (s' _ _ hm))) (λ_ _ _ _ h=>by rw[h.1];exact aq.refl _) (by rw[aab,sizeLine_eq];omega) (λi y H4=>∀t,S.1[i]?=some t->∃p,y=.ref p/\H4 p=some (.tup (Pr (Wq.low t S.2).1 (Wq.low t S.2).2))) (λi y H4 H5 s5 h t e=>by obtain⟨p,e1,h1⟩:=h t e;exact⟨p,e1,s5 _ _ h1⟩) ?_ ?_
  ·rintro i v w0 H4 H5 Q2 hi s4 ⟨rfl,ex⟩ kq
   rw[aaf] at ex
   obtain⟨t,et,rfl⟩:=Option.map_eq_some_iff.mp ex
   simp_all only[Ez,jQ]
   refine⟨_,_,_,s4 _ _ hx,T.b8,T.na_Book_bottom,_,tR,_,rfl,bb,b0,λp H6 s6 n6 h6=>kq _ _ s6 λt' e'=>?_⟩
   rw[et] at e'
   cases e'
   exact⟨p,rfl,h6⟩
  ·intro ys H5 s5 ly hy D n1 n2
   rw[aab] at ly
   refine kk D _ (s5.trans (ao n2)) (none_of s5 n2) (aL.mpr ⟨D,ys,rfl,ah,cK (by rw[aab];exact ly) λi y ey q eq=>?_⟩)
   rw[aaf] at eq
   obtain⟨t,et,rfl⟩:=Option.map_eq_some_iff.mp eq
   obtain⟨p,e1,h1⟩:=hy i y ey t et
   exact bJ.mpr ⟨p,e1,ao n2 _ _ h1⟩
theorem kH:aH ["board"] ["board"] (ab (top 36)):=⟨rfl,rfl,rfl,by decide +kernel,rfl,by decide +kernel,by decide +kernel⟩
theorem E3 (T:Txt K mg ar tc):bO P w K mg base (bK P w) 4 "gains_of" ["board"] (zQ ar):=by
 have xF:bO P w K mg base (bK P w) 1 "gain_of" ["place"] EB:=HG T
 have xG:bO P w K mg base (bK P w) 3 "book_of" ["several"] (EC ar):=HJ T
 refine T.uX.dX (λ_ _ _ _ _ _=>iQ λ_=>rfl) λf fd F=>F.d5 kH (λvs H Q E h=>?_) (λcn A outer s H vs Q E hr h=>?_)
 ·obtain⟨_,_,_,rfl,_⟩:=h;rfl
 ·obtain⟨a,b,rk,rfl,rb,B,kk⟩:=h
  have nd:=kH.nd
  refine⟨_,(aj (aI (aJ xG (hr.mono (by decide)) rfl ay.pass (aa (bE rfl (N:=["board"]) (so:=ab (top 36)) (N':=["place"]) (k:=1) (fr:=[]) rfl rfl ⟨rfl,by decide +kernel,by decide +kernel,by decide +kernel,rfl,by decide +kernel,by decide +kernel⟩ (aS (K:=K) (pv 0)) (λ_ _ _ _ _=>(ax (i:=0) (show(["place"]:List Str).Nodup by decide +kernel) rfl (Or.inl rfl))) (λ_ _ _ _ _=>bx)
   (λ_ _ _ _ _=>(aJ xF (hr.mono (by decide)) rfl ay.pass (aa (pv 0) af (se rfl)) (he:=se rfl) (hpl:=na rfl)))) af (se rfl)) (he:=se rfl) (hpl:=na rfl)))),?_⟩
  simp_all only[EC]
  obtain⟨_,xs,e,ha,rl⟩:=aL.mp rb
  cases e
  have lx:=rl.length
  rw[aab] at lx
  have bl:=B.len
  refine⟨⟨_,aV.of ha⟩,?_⟩
  refine comp_map (src_list (K:=K) (a:=a) (xs:=xs) (Ok:=aq H) (λH' s'=>aV.of (s' _ _ ha))) (λ_ _ _ _ h=>by rw[h.1];exact aq.refl _) (by rw[sizeLine_eq];omega) (λi y H4=>∀q,b[i]?=some q->∃p,y=.ref p/\H4 p=some (.tup (Pr (Wq.cA q).1 (Wq.cA q).2))) (λi y H4 H5 s5 h t e=>by obtain⟨p,e1,h1⟩:=h t e;exact⟨p,e1,s5 _ _ h1⟩) ?_ ?_
  ·rintro i v w0 H4 H5 Q2 hi s4 ⟨rfl,ex⟩ kq
   obtain⟨q,eq,rq⟩:=d7 rl ex
   simp_all only[EB]
   refine⟨q,rq.mono s4,λr H6 s6 WK=>kq _ _ s6 λq' e'=>?_⟩
   rw[eq] at e'
   cases e'
   exact⟨r,rfl,WK⟩
  ·intro ys H5 s5 ly hy D n1 n2
   refine⟨b.map Wq.cA,aL.mpr ⟨D,ys,rfl,ah,cK (by rw[aab];omega) λi y ey q eq=>?_⟩,by rw[aab];exact bl,12,λx hx=>?_,by decide,Bt.mono (m:=4) (Bt.of 12 (by decide) (by decide)) (by decide),λx H6 s6 LQ=>kk x H6 (s5.trans ((ao n2).trans s6)) LQ⟩
   ·rw[aaf] at eq
    obtain⟨t,et,rfl⟩:=Option.map_eq_some_iff.mp eq
    obtain⟨p,e1,h1⟩:=hy i y ey t et
    exact bJ.mpr ⟨p,e1,ao n2 _ _ h1⟩
   ·obtain⟨q,hq,rfl⟩:=List.mem_map.mp hx
    obtain⟨g1,g2,g3,g4⟩:=hU (B.ok q hq)
    exact⟨g4.1,zR g4.1 g3,Bt.mono (m:=3) (Bt.of 6 (by omega) (by omega)) (by decide)⟩
theorem gj:aH ["gains"] ["gains"] (ab (top 37)):=⟨rfl,rfl,rfl,by decide +kernel,rfl,by decide +kernel,by decide +kernel⟩
theorem HQ (T:Txt K mg ar tc):bO P w K mg base (bK P w) 3 "blank_worths" ["gains"] (ED ar):=by
 have oq:pT P w K mg base (bK P w) 1 "Book" ar ["self","tops","bottom"] (BR ar):=Af T
 refine T.nO.dX (λ_ _ _ _ _ _=>iQ λ_=>rfl) λf fd F=>F.d5 gj (λvs H Q E h=>?_) (λcn A outer s H vs Q E hr h=>?_)
 ·obtain⟨_,_,rfl,_⟩:=h;rfl
 ·obtain⟨x,S,rfl,⟨dx,m,hx,hm⟩,ln,kk⟩:=h
  have nd:=gj.nd
  refine⟨_,(aj (aI (zg oq (hr.mono (by decide)) rfl ay.pass (aa (aG uD (cS (aa ag af (se rfl))) (aK bC (by rfl) T.z_len aau (aa (dI (pv 0) rfl) af (se rfl)) (he:=se rfl) (hpl:=na rfl))) (aa (dI (pv 0) rfl) af (se rfl)) (se rfl)) (he:=se rfl) (hpl:=na rfl)))),?_⟩
  simp_all only[jQ,rO,A7]
  refine⟨by decide,λz nz=>?_⟩
  have s1:=ao (o:=.lst [V.int 0]) nz
  have hz:upd H z (.lst [V.int 0]) z=some (.lst [V.int 0]):=ah
  generalize upd H z (.lst [V.int 0])=H1 at *
  have ls:(S.1.map V.int).length=S.1.length:=aab ..
  have sl:=sizeLine_eq
  refine⟨_,_,_,s1 _ _ hx,T.b8,T.na_Book_tops,_,jB,_,rfl,_,s1 _ _ hm,_,hz,by omega,by omega,by rw[ls,aap];show 1*S.1.length<=_;omega,λD nD=>?_⟩
  rw[ls,aap,List.flatten_replicate_singleton] at *
  have s2:=s1.trans (ao (o:=.lst (List.replicate S.1.length (V.int 0))) nD)
  have hD:upd H1 D (.lst (List.replicate S.1.length (V.int 0))) D=some (.lst ((List.replicate S.1.length 0).map V.int)):=by rw[ah,List.map_replicate]
  generalize upd H1 D (.lst (List.replicate S.1.length (V.int 0)))=H2 at *
  refine⟨_,_,_,s2 _ _ hx,T.b8,T.na_Book_bottom,_,tR,λy dy ny HM ne=>?_⟩
  have s3:=s2.trans (ao (o:=.own y) HM)
  have HK:=ao (o:=.own y) HM _ _ hD
  have xD:D≠y:=λz=>by rw[z,ny] at hD;cases hD
  refine⟨y,dy,D,_,_,rfl,ah,by rw[au xD];exact HK,λm' H' nm HN oH ky=>⟨rfl,kk y H' (λz o hz=>?_) ⟨dy,m',oH,HN⟩⟩⟩
  have yx:z≠y:=λe=>by have:=s2 _ _ hz;rw[e,ny] at this;cases this
  exact ky z o yx (by rw[au yx];exact s3 _ _ hz)
theorem gR:aH ["book","gains","part","ways","scale","right","place","gain","answers","told","top"] ["book","gains","part","ways"] (ab (top 38)):=⟨rfl,rfl,rfl,by decide +kernel,rfl,by decide +kernel,by decide +kernel⟩
theorem HR (T:Txt K mg ar tc):bO P w K mg base (bK P w) 4 "with_worths" ["book","gains","part","ways"] (Hl ar):=by
 have ef:bO P w K mg base (bK P w) 1 "total_weight" ["ways"] zO:=CQ T
 have lG:bO P w K mg base (bK P w) 3 "whole_answers" ["rows","right"] zL:=Hy T
 have tS:bO P w K mg base (bK P w) 2 "part_rows" ["part","ways"] zP:=EX T
 have o6:nI P w K mg base (bK P w) 3 ar "scaled" ["self","factor"] (CM ar):=E2 T
 refine T.oW.dX (λ_ _ _ _ _ _=>Eo λ_ _ _ _=>rfl) λf fd F=>F.d5 gR (λvs H Q E h=>?_) (λcn A outer s H vs Q E hr h=>?_)
 ·obtain⟨_,_,_,_,_,_,_,_,_,_,_,_,_,rfl,_⟩:=h;rfl
 ·obtain⟨bk,gn,pt,wl,S,gt,G,p,n,i,xs,xC,ws,rfl,hb,hg,hp,hw,rl,ew,jK,off,W,LR,LS,pn,lg,G0,G12,gb,kk⟩:=h
  have nd:=gR.nd
  refine⟨_,(ae (aD (i:=4) nd rfl (Or.inl rfl) (aG dt (dI (pv 0) rfl) (dI (pv 1) rfl)))
  (ae (aD (i:=5) nd rfl (Or.inl rfl) (cS af))
  (ae (b9 PassesOwn.never rfl (aS (K:=K) (pv 2)) (ax (i:=6) nd rfl (Or.inl rfl)) (ae (aD (i:=7) nd rfl (Or.inl rfl) (aG aX (aG aX (aJ ef (hr.mono (by decide)) rfl ay.pass (aa (aw aB (pv 3) (pv 6) (λ_ _=>rfl)) af (se rfl)) (he:=se rfl) (hpl:=na rfl)) (aw aB (dI (pv 1) rfl) (pv 6) (λ_ _=>rfl))) (pv 4)))
  (aj (fz (jc abe abn abo c9.r (pv 5) (aa (aG cb (pv 7) (aK (gK (K:=K)) (by rfl) T.z_sum rfl (aa (bE rfl (N:=["book","gains","part","ways","scale","right","place","gain","answers","told","top"]) (so:=ab (top 38)) (N':=["weight","to","book"]) (k:=2) (fr:=[0]) rfl rfl ⟨rfl,by decide +kernel,by decide +kernel,by decide +kernel,rfl,by decide +kernel,by decide +kernel⟩ (aS (K:=K) (aw aB (pv 3) (pv 6) (λ_ _=>rfl))) (λ_ _ _ _ _=>(bU (K:=K) (n:=2) rfl (aM (ax (i:=0) (show(["weight","to","book"]:List Str).Nodup by decide +kernel) rfl (Or.inl rfl)) (aM (ax (i:=1) (show(["weight","to","book"]:List Str).Nodup by decide +kernel) rfl (Or.inl rfl)) bR)))) (λ_ _ _ _ _=>bx)
   (λ_ _ _ _ _=>(aG aX (pv 0) (aw aB (vS (K:=K) (pv 2) rfl) (pv 1) (λ_ _=>rfl))))) af (se rfl)) (he:=se rfl) (hpl:=na rfl))) af (se rfl)))))))
  (ae (aD (i:=8) nd rfl (Or.inl rfl) (aJ lG (hr.mono (by decide)) rfl ay.pass (aa (aJ tS (hr.mono (by decide)) rfl ay.pass (aa (pv 2) (aa (pv 3) af (se rfl)) (se rfl)) (he:=se rfl) (hpl:=na rfl)) (aa (pv 5) af (se rfl)) (se rfl)) (he:=se rfl) (hpl:=na rfl)))
  (ae (aD (i:=9) nd rfl (Or.inl rfl) (G8 o6 T.b8 (pv 0) (hr.mono (by decide)) ay.pass (aa (aw aA (pv 8) ag (λ_ _=>rfl)) af (se rfl)) (hst:=se rfl) (hpl:=na rfl)))
  (ae (b9 PassesOwn.never rfl (jj (K:=K) rfl T.z_zip (aa (pv 2) (aa (aw aA (pv 8) ag (λ_ _=>rfl)) af (se rfl)) (se rfl))) (bU (K:=K) (n:=2) rfl (aM (ax (i:=6) nd rfl (Or.inl rfl)) (aM (ax (i:=10) nd rfl (Or.inl rfl)) bR))) (aj (dH (pv 10) (dG (dI (pv 9) rfl) (pv 6) set_list))))
  (aj (aI (pv 9))))))))),?_⟩
  have sl:=sizeLine_eq
  obtain⟨dx,m,JY,FG⟩:=hb
  obtain⟨dg,LU,TL,WL⟩:=hg
  obtain⟨v,ev,rv⟩:=rl.at (d:=rh ws) (i:=p) (by rw[aaf,ew];rfl)
  obtain⟨wv,us,rfl,EY,ru⟩:=aL.mp rv
  have EZ:=bA ev
  have lu:=ru.length
  rw[aab] at lu
  have w3:=jK.1
  have B0:=W.pos
  have bG:Bt 4 G:=Bt.of 12 (by omega) (by omega)
  have E4:eA (gt.map V.int) (p:Int)=some (.int (gt.getD p 0)):=by have:=du (ns:=gt) (i:=(p:Int)) (by omega) (by omega);rwa [aap] at this
  obtain⟨d0,d1⟩:=jK.tt
  have bd:Bt 4 (Dg.tt ws):=Bt.of 9 (by omega) (by omega)
  have WM:Bt (4*i+4) (S.2 / G):=W.bb.le (Nm.dz G0 W.dv)
  have bg:Bt 7 (gt.getD p 0):=Bt.of 72 (by have:=gb p;omega) (by have:=gb p;omega)
  have WN:∀t∈S.1,Bt 4000 t:=λt ht=>by
   obtain⟨j,hj,rfl⟩:=List.getElem_of_mem ht
   have:=W.Ey LR j
   rw[aai,aac hj] at this
   exact Bt.mono this (by omega)
  have lS:=W.len
  generalize hR:Dg.tt ws*gt.getD p 0* (S.2 / G)+Dg.qQ S.1 ws=R at *
  change tSeq _ _ _ _ _
  refine aW (λσ' H1=>H=H1/\σ'=[some (.ref bk),some (.ref gn),some (.ref pt),some (.ref wl),some (.int (S.2 / G)),none,none,none,none,none,none]) ?_ (λN hN=>?_)
  case refine_2=>
   simp_all only[jQ]
   exact⟨_,_,_,JY,T.b8,T.na_Book_bottom,_,tR,_,_,_,TL,T.b8,T.na_Book_bottom,_,tR,_,rfl,_,rfl,eU.of G0 bG,hN _ _ ⟨rfl,rfl⟩⟩
  rintro _ _ ⟨rfl,rfl⟩
  change tSeq _ _ _ _ _
  refine aW (λσ' H1=>∃r,aq H H1/\H r=none/\H1 r=some (.lst [])/\σ'=[some (.ref bk),some (.ref gn),some (.ref pt),some (.ref wl),some (.int (S.2 / G)),some (.ref r),none,none,none,none,none]) ?_ (λN hN=>?_)
  case refine_2=>
   simp_all only[]
   exact⟨aar _,λr n3=>hN _ _ ⟨r,ao n3,n3,ah,rfl⟩⟩
  rintro _ H1 ⟨r,s1,nr,ER,rfl⟩
  change tSeq _ _ _ _ _
  refine aW (λσ' H2=>aq H H2/\H2 r=some (.lst [.int R])/\∃z6 z7,σ'=[some (.ref bk),some (.ref gn),some (.ref pt),some (.ref wl),some (.int (S.2 / G)),some (.ref r),z6,z7,none,none,none]) ?_ (λN hN=>?_)
  case refine_2=>
   simp_all only[]
   refine⟨⟨_,aV.of (s1 _ _ hp)⟩,bH (src_list (K:=K) (a:=pt) (xs:=[V.int (p:Int)]) (Ok:=aq H) (λH' s=>aV.of (s _ _ hp))) (λj σ H2=>aq H H2/\H2 r=some (.lst (if j=0 then [] else [.int R]))/\∃z6 z7,σ=[some (.ref bk),some (.ref gn),some (.ref pt),some (.ref wl),some (.int (S.2 / G)),some (.ref r),z6,z7,none,none,none]) ⟨s1,ER,_,_,rfl⟩ (λ_ _ _ _ h=>h.1) ?_ ?_⟩
   ·rintro j y σ H2 H3 hj ⟨s2,CS,z6,z7,rfl⟩ ⟨rfl,ey⟩
    have j0:j=0:=by have:j<1:=hj;omega
    subst j0
    cases ey
    simp_all only[zO,jQ,jd]
    refine⟨_,s2 _ _ hw,_,EZ,wv,rfl,ws,rv.mono s2,w3,λH4 s4=>?_⟩
    have jL:=s2.trans s4
    refine⟨_,_,_,jL _ _ TL,T.b8,T.na_Book_tops,_,jB,_,rfl,_,jL _ _ WL,_,E4,_,rfl,bd.cV bg,(bd.mul bg).cV WM (by omega),?_⟩
    refine⟨.inl ⟨rfl,_,aV.of (s4 _ _ CS)⟩,_,jL _ _ hw,_,EZ,wv,rfl,⟨_,aV.of (jL _ _ EY)⟩,?_⟩
    have S':Src (ug K wv) (aq H4) ws.length (λi x H H3=>H3=H/\us[i]?=some x):=by rw[lu];exact src_list (λH' s'=>aV.of (s' _ _ (jL _ _ EY)))
    refine fG ws (λx=>some (x.1*S.1.getD x.2.toNat 0)) S' (λ_ _ _ _ h=>h.1) (by omega) ?_ ?_
    ·rintro j x v0 ex ⟨_,ey⟩
     obtain⟨t,et,ht⟩:=cf (ru.mono jL) ex
     rw[ey] at et
     cases et
     obtain⟨x1,x2,x3,x4⟩:=jK.2 x (aad ex)
     have WO:eA (S.1.map V.int) x.2=some (.int (S.1.getD x.2.toNat 0)):=du x3 (by omega)
     refine⟨t,_,_,rfl,dR.of ht,λY N y1 _=>?_⟩
     simp_all only[gx,jQ]
     exact⟨_,_,_,jL _ _ JY,T.b8,T.na_Book_tops,_,jB,_,rfl,_,jL _ _ FG,_,WO,_,rfl,(Bt.of (n:=2) 3 (by omega) (by omega)).cV (W.Ey LR _) (by omega),y1 _ rfl⟩
    ·intro D n1 n2
     rw[dq]
     have eR:R=Dg.tt ws*gt.getD p 0* (S.2 / G)+ (ws.map λx=>x.1*S.1.getD x.2.toNat 0).sum:=hR.symm
     refine⟨_,aV.of ah,_,ao n2 _ _ (s4 _ _ CS),by show 0<sizeLine;decide,aU (jL.trans (ao n2)) nr,?_,_,rfl⟩
     rw[ah,<-eR]
     rfl
   ·rintro σ H2 ⟨s2,CS,z6,z7,rfl⟩
    exact hN _ _ ⟨s2,CS,_,_,rfl⟩
  rintro _ H2 ⟨s2,CS,z6,z7,rfl⟩
  change tSeq _ _ _ _ _
  refine aW (λσ' H3=>∃u q,aq H2 H3/\H3 u=some (.tup [.ref q,.int (Dg.tt ws)])/\H3 q=some (.lst [.int R])/\σ'=[some (.ref bk),some (.ref gn),some (.ref pt),some (.ref wl),some (.int (S.2 / G)),some (.ref r),z6,z7,some (.ref u),none,none]) ?_ (λN hN=>?_)
  case refine_2=>
   simp_all only[zP,zL]
   exact⟨p,s2 _ _ hp,_,s2 _ _ hw,_,rl.mono s2,ws,ew,w3,off,λr2 t2 H3 s3 h3 h4=>⟨_,h3,_,h4,_,s3 _ _ CS,by omega,λu q H4 s4 h5 h6=>hN _ _ ⟨u,q,s3.trans s4,h5,h6,rfl⟩⟩⟩
  rintro _ H3 ⟨u,q,s3,hu,hq,rfl⟩
  have FK:=s2.trans s3
  change tSeq _ _ _ _ _
  refine aW (λσ' H4=>∃y dy m',aq H3 H4/\H3 y=none/\H3 m'=none/\H4 y=some (.ins ar dy [("tops",.ref m'),("bottom",.int (S.2*Dg.tt ws))])/\H4 m'=some (.lst ((S.1.map (·*Dg.tt ws)).map V.int))/\σ'=[some (.ref bk),some (.ref gn),some (.ref pt),some (.ref wl),some (.int (S.2 / G)),some (.ref r),z6,z7,some (.ref u),some (.ref y),none]) ?_ (λN hN=>?_)
  case refine_2=>
   simp_all only[ph,hu]
   refine⟨_,_,FK _ _ JY,HL,bk,S,_,rfl,⟨_,_,FK _ _ JY,FK _ _ FG⟩,bd.mono (by decide),W.bb.mono (by omega),WN,by omega,λy dy m' H4 s4 ny nm hy hm=>hN _ _ ⟨y,dy,m',s4,ny,nm,hy,hm,rfl⟩⟩
  rintro _ H4 ⟨y,dy,m',s4,ny,WQ,hy,HN,rfl⟩
  change tSeq _ _ _ _ _
  refine aW (λσ' H5=>aq H3 H5/\H5 y=some (.ins ar dy [("tops",.ref m'),("bottom",.int (S.2*Dg.tt ws))])/\H5 m'=some (.lst (((S.1.map (·*Dg.tt ws)).set p R).map V.int))/\∃z6 fS,σ'=[some (.ref bk),some (.ref gn),some (.ref pt),some (.ref wl),some (.int (S.2 / G)),some (.ref r),z6,z7,some (.ref u),some (.ref y),fS]) ?_ (λN hN=>?_)
  case refine_2=>
   simp_all only[s4 _ _ hu]
   refine⟨⟨_,aV.of (s4 _ _ (FK _ _ hp))⟩,⟨_,aV.of (s4 _ _ hq)⟩,bH (lZ (K:=K) (Ok:=aq H3) (λH' s=>aV.of (s _ _ (FK _ _ hp))) (λH' s=>aV.of (s _ _ hq))) (λj σ H5=>aq H3 H5/\H5 y=some (.ins ar dy [("tops",.ref m'),("bottom",.int (S.2*Dg.tt ws))])/\H5 m'=some (.lst ((if j=0 then S.1.map (·*Dg.tt ws) else (S.1.map (·*Dg.tt ws)).set p R).map V.int))/\∃z6 fS,σ=[some (.ref bk),some (.ref gn),some (.ref pt),some (.ref wl),some (.int (S.2 / G)),some (.ref r),z6,z7,some (.ref u),some (.ref y),fS]) ⟨s4,hy,HN,_,_,rfl⟩ (λ_ _ _ _ h=>h.1) ?_ ?_⟩
   ·rintro j v0 σ H5 H6 hj ⟨s5,CT,E5,z6,fS,rfl⟩ ⟨t,x1,x2,nt,rfl,e1,e2,rfl⟩
    have j0:j=0:=by have:j<1:=hj;omega
    subst j0
    cases e1
    cases e2
    refine⟨t,_,rfl,dR.of ah,rfl,?_⟩
    have s6:=ao (o:=.tup [.int (p:Int),.int R]) nt
    generalize upd H5 t (.tup [.int (p:Int),.int R])=H6 at *
    simp_all only[jQ]
    have ym:y≠m':=λz=>by rw[z,E5] at CT;cases CT
    have lm:p< ((S.1.map (·*Dg.tt ws)).map V.int).length:=by rw[aab,aab];omega
    refine⟨_,_,_,s6 _ _ CT,T.b8,T.na_Book_tops,_,jB,_,rfl,_,s6 _ _ E5,p,eI lm,aU (s5.trans s6) WQ,by rw[au ym];exact s6 _ _ CT,?_,_,rfl⟩
    rw[ah,if_pos rfl,if_neg (by decide),List.map_set]
   ·rintro σ H5 ⟨s5,CT,E5,z6,fS,rfl⟩
    exact hN _ _ ⟨s5,CT,E5,_,_,rfl⟩
  rintro _ H5 ⟨s5,CT,E5,z6,fS,rfl⟩
  simp_all only[]
  exact kk y H5 (FK.trans s5) ⟨dy,m',CT,by rw[<-hR] at E5;exact E5⟩
theorem HS {a b:V}:List.lookup (Str.ofString "as_shares") [(("tops":Str),a),(("bottom":Str),b)]=none:=rfl
theorem iy:aH ["place","tops","sign","wanted"] ["place","tops"] (ab (top 40)):=⟨rfl,rfl,rfl,by decide +kernel,rfl,by decide +kernel,by decide +kernel⟩
theorem E6 (T:Txt K mg ar tc):bO P w K mg base (bK P w) 1 "wanted_way" ["place","tops"] zV:=by
 refine T.qI.dX (λ_ _ _ _ _ _=>d9 λ_ _=>rfl) λf fd F=>F.d5 iy (λvs H Q E h=>?_) (λcn A outer s H vs Q E hr h=>?_)
 ·obtain⟨_,_,_,_,_,rfl,_⟩:=h;rfl
 ·obtain⟨v,m,aR,to,ts,rfl,rv,hm,l0,l3,jH,bt,kk⟩:=h
  have nd:=iy.nd
  refine⟨_,(ae (aD (i:=2) nd rfl (Or.inr rfl) (gE (aO cJ (aw aA (pv 0) ag (λ_ _=>rfl)) ag (aQ _)) ag (x8 um ag)))
  (ae (eC (i:=3) rfl nd rfl rfl (N:=["place","tops","sign","wanted"]) (so:=ab (top 40)) (N':=["to","tops","sign"]) (k:=1) (fr:=[1,2]) rfl rfl ⟨rfl,by decide +kernel,by decide +kernel,by decide +kernel,rfl,by decide +kernel,by decide +kernel⟩ (aS (K:=K) (aw aA (pv 0) ag (λ_ _=>rfl))) (λ_ _ _ _ _=>(ax (i:=0) (show(["to","tops","sign"]:List Str).Nodup by decide +kernel) rfl (Or.inl rfl))) (λ_ _ _ _ _=>bx)
   (λ_ _ _ _ _=>(aG aX (pv 2) (aw aB (pv 1) (pv 0) (λ_ _=>rfl)))))
  (aj (aI (jc abe PySem.F.slot_list_index PySem.F.type_list_index (uU (K:=K)) (pv 3) (aa (aK (sv (K:=K)) (by rfl) T.z_max rfl (aa (pv 3) af (se rfl)) (he:=se rfl) (hpl:=na rfl)) af (se rfl))))))),?_⟩
  have sl:=sizeLine_eq
  obtain⟨t,l,rfl,ht,hl⟩:=cq.mp rv
  change tSeq _ _ _ _ _
  refine aW (λσ' H1=>H=H1/\σ'=[some (.ref t),some (.ref m),some (.int (sgn aR)),none]) ?_ (λN hN=>?_)
  case refine_2=>
   simp_all only[ht]
   refine oR (λc=>hN _ _ ⟨rfl,by unfold sgn;rw[if_pos c]⟩) (λc=>hN _ _ ⟨rfl,by unfold sgn;rw[if_neg c]⟩)
  rintro _ _ ⟨rfl,rfl⟩
  have sg:=u7 aR
  generalize hu:sgn aR=u at *
  change tSeq _ _ _ _ _
  refine aW (λσ' H1=>∃d,aq H H1/\H1 d=some (.lst (List.map V.int (to.map λg=>u*ts.getD g.toNat 0)))/\σ'=[some (.ref t),some (.ref m),some (.int u),some (.ref d)]) ?_ (λN hN=>?_)
  case refine_2=>
   simp_all only[ht]
   refine⟨⟨_,aV.of hl⟩,?_⟩
   have S':Src (ug K l) (aq H) to.length (λi x H H3=>H3=H/\(to.map V.int)[i]?=some x):=by
    have:=src_list (K:=K) (a:=l) (xs:=to.map V.int) (Ok:=aq H) (λH' s'=>aV.of (s' _ _ hl))
    rwa [aab] at this
   refine dc to (λg=>some (u*ts.getD g.toNat 0)) S' (λ_ _ _ _ h=>h.1) (by omega) ?_ ?_
   ·rintro i g x eg ⟨_,ex⟩ Y N y1 _
    rw[aaf,eg] at ex
    cases ex
    obtain⟨g0,g1⟩:=jH g (aad eg)
    have E4:eA (ts.map V.int) g=some (.int (ts.getD g.toNat 0)):=du g0 g1
    have hg:g.toNat<ts.length:=by omega
    have bg:Bt 4000 (ts.getD g.toNat 0):=bt _ (by rw[aai,aac hg];exact aav hg)
    simp_all only[gx,hm,E4]
    exact⟨(Bt.of (n:=1) 1 (by omega) (by omega)).cV bg,y1 _ rfl⟩
   ·intro D n1 n2
    rw[dq]
    exact hN _ _ ⟨D,ao n2,ah,rfl⟩
  rintro _ H1 ⟨d,s1,hd,rfl⟩
  simp_all only[Eg]
  refine⟨.inl ⟨rfl,_,aV.of hd⟩,_,aV.of hd,by rw[aab];exact l0,λM mM gM=>⟨_,aV.of hd,mM,by rw[aab];omega,?_⟩⟩
  have lt:=abd mM
  have eg:=abc lt
  rw[aab] at lt
  generalize List.idxOf M (to.map λg=>u*ts.getD g.toNat 0)=w' at *
  rw[List.getElem_map] at eg
  refine kk w' _ s1 lt λg hg=>?_
  have e2:to.getD w' 0=to[w']:=by rw[aai,aac lt];rfl
  rw[e2,hu,eg]
  exact gM _ (List.mem_map.mpr ⟨g,hg,rfl⟩)
theorem gS:aH ["board","places","ways","tops","found","place","way","picked"] ["board","places","ways","tops"] (ab (top 41)):=⟨rfl,rfl,rfl,by decide +kernel,rfl,by decide +kernel,by decide +kernel⟩
theorem HV (T:Txt K mg ar tc):bO P w K mg base (bK P w) 2 "better_ways" ["board","places","ways","tops"] EH:=by
 have qT:bO P w K mg base (bK P w) 1 "wanted_way" ["place","tops"] zV:=E6 T
 refine T.oX.dX (λ_ _ _ _ _ _=>Eo λ_ _ _ _=>rfl) λf fd F=>F.d5 gS (λvs H Q E h=>?_) (λcn A outer s H vs Q E hr h=>?_)
 ·obtain⟨_,_,_,_,_,_,_,_,_,_,_,_,rfl,_⟩:=h;rfl
 ·obtain⟨bl,pl,wl,m,b,p,c,ts,xs,xC,ws,q,rfl,rb,hpl,hw,rl,ew,eb,pq,hm,bt,hc,kk⟩:=h
  have nd:=gS.nd
  refine⟨_,(ae (aD (i:=4) nd rfl (Or.inl rfl) (cS af))
  (ae (b9 PassesOwn.never rfl (aS (K:=K) (pv 1)) (ax (i:=5) nd rfl (Or.inl rfl)) (ae (aD (i:=6) nd rfl (Or.inl rfl) (aJ qT (hr.mono (by decide)) rfl ay.pass (aa (aw aB (pv 0) (pv 5) (λ_ _=>rfl)) (aa (pv 3) af (se rfl)) (se rfl)) (he:=se rfl) (hpl:=na rfl)))
  (ae (aD (i:=7) nd rfl (Or.inl rfl) (aw aA (aw aB (aw aB (pv 2) (pv 5) (λ_ _=>rfl)) ag (λ_ _=>rfl)) ag (λ_ _=>rfl)))
  (aj (bN (aO mK (aw aB (pv 3) (aw aB (aw aA (aw aB (pv 0) (pv 5) (λ_ _=>rfl)) ag (λ_ _=>rfl)) (pv 6) (λ_ _=>rfl)) (λ_ _=>rfl)) (aw aB (pv 3) (pv 7) (λ_ _=>rfl)) (aQ _)) (aj (fz (jc abe abn abo c9.r (pv 4) (aa (bT (aa (pv 5) (aa (pv 6) af (se rfl)) (se rfl))) af (se rfl)))))
   ba)))))
  (aj (aI (pv 4))))),?_⟩
  obtain⟨_,xb,e,vc,xR⟩:=aL.mp rb
  cases e
  obtain⟨v,ev,rv⟩:=d3 xR eb
  simp_all only[]
  refine⟨aar _,λfo nf=>?_⟩
  have s1:=ao (o:=.lst []) nf
  have h1:upd H fo (.lst []) fo=some (.lst []):=ah
  generalize upd H fo (.lst [])=H1 at *
  cases c with
  | false=>
   rw[if_neg (by decide)] at hpl
   refine⟨⟨_,aV.of (s1 _ _ hpl)⟩,bH (src_list (K:=K) (a:=pl) (xs:=[]) (Ok:=λH'=>H'=H1) (λH2 s2=>by rw[s2];exact aV.of (s1 _ _ hpl))) (λi σ H'=>H'=H1/\∃z5 z6 z7,σ=[some (.ref bl),some (.ref pl),some (.ref wl),some (.ref m),some (.ref fo),z5,z6,z7]) ⟨rfl,_,_,_,rfl⟩ (λ_ _ _ _ h=>h.1) (λi x σ H2 H3 hi=>absurd hi (aa8 _)) ?_⟩
   rintro σ H2 ⟨rfl,z5,z6,z7,rfl⟩
   simp_all only[]
   exact kk fo _ s1 (λ_=>h1) (λh=>by cases h)
  | true=>
   rw[if_pos rfl] at hpl
   obtain⟨aR,to,tk,rfl,rfl,WR,WS⟩:=hc rfl
   obtain⟨vw,WU,WV⟩:=rl.at (d:=rh [(1,tk)]) (i:=p) (by rw[aaf,ew];rfl)
   obtain⟨wv,us,rfl,EY,ru⟩:=aL.mp WV
   obtain⟨t0,WW,WX⟩:=cf (i:=0) ru rfl
   obtain⟨t,l,rfl,ht,hl⟩:=cq.mp rv
   have lu:=ru.length
   refine⟨⟨_,aV.of (s1 _ _ hpl)⟩,bH (src_list (K:=K) (a:=pl) (xs:=[V.int (p:Int)]) (Ok:=aq H) (λH2 s2=>aV.of (s2 _ _ hpl))) (λi σ H'=>aq H H'/\((i=0/\H' fo=some (.lst []))\/(i=1/\Hm H' fo p aR to ts tk))/\∃z5 z6 z7,σ=[some (.ref bl),some (.ref pl),some (.ref wl),some (.ref m),some (.ref fo),z5,z6,z7]) ⟨s1,.inl ⟨rfl,h1⟩,_,_,_,rfl⟩ (λ_ _ _ _ h=>h.1) ?_ ?_⟩
   ·rintro i y σ H2 H3 hi ⟨s2,iv,z5,z6,z7,rfl⟩ ⟨rfl,ey⟩
    have i0:i=0:=by have:i<1:=hi;omega
    subst i0
    cases ey
    rcases iv with ⟨_,LJ⟩ | ⟨h,_⟩
    ·simp_all only[zV,s2 _ _ vc,show eA xb (p:Int)=some (.ref t) from bA ev]
     refine⟨aR,to,rv.mono s2,ts,s2 _ _ hm,pq.2.1,pq.2.2.1,pq.2.2.2,bt,λw H4 s4 rj best=>?_⟩
     have jL:=s2.trans s4
     have LV:eA us 0=some (.ref t0):=bA (j:=0) WW
     simp only[jL _ _ hw,show eA xs (p:Int)=some (.ref wv) from bA WU,jL _ _ EY,LV,jL _ _ WX,L2.start,Pr,tRev,tLR,tMaxD,tSortR,tD1,tDPop1,tSl,tNoPart,tPart,rSlL,tDIn,tDNotIn,gSub,rSetL,tLst,tDNewK,tComp,L2.stC,tFor_eq,iList,iTup,iRng1,iRng2,iZip,iEnum,iDict,iStr,tChain,tSumV,tBM,rJoin,tJoined,jNil,jLit,jInt,jStr,tRaise,tDGet,tDGet2,tDGet1,sDPut,Option.join_some,List.getElem?_nil,tSeq,tRet,tRetN,tIfS,tTest,tB,tOp,tUn,tVar,tC,tCB,tCons,tNil,tCall,tTupS,tAsg,gName,gNil,gCons,tPar,tNext,tDrop,tAnd,tOr,tNot,tAndV,tOrV,tNotV,tIf,rI,rI0,rU,rIxTH,rIxLH,rEqT,rNeT,rInT,rEq,rNe,scal,CPow,at0,at1,at2,aao,aaR,aaw,List.length_nil,Nat.reduceSub,Nat.reduceAdd,aaG,abm,List.reduceReplicate,aaL,aa7,List.cons_append,abi,abh,aba,abb,abj,exists_eq_left',exists_eq_left,V.ref.injEq,V.int.injEq,V.bl.injEq,V.str.injEq,V.ty.injEq,HO.tup.injEq,HO.lst.injEq,List.cons.injEq,and_true,true_and,and_assoc,exists_and_left,decide_eq_true_eq,Bool.not_eq_true',decide_eq_false_iff_not,ite_true,ite_false,if_true,if_false,Int.reduceToNat,eq_self_iff_true]
     have TM:to.getD w 0=to[w]:=by rw[aai,aac rj];rfl
     obtain⟨g0,g1⟩:=pq.2.2.2 _ (aav rj)
     have EZ:eA (to.map V.int) (w:Int)=some (.int to[w]):=eM (f:=V.int) (aac rj)
     have E4:eA (ts.map V.int) to[w]=some (.int (ts.getD (to[w]).toNat 0)):=du g0 g1
     have HW:eA (ts.map V.int) tk=some (.int (ts.getD tk.toNat 0)):=du WR WS
     refine⟨_,jL _ _ vc,_,bA ev,t,rfl,_,jL _ _ ht,_,at2,l,rfl,_,jL _ _ hl,_,EZ,_,_,rfl,jL _ _ hm,_,E4,_,jL _ _ hm,_,HW,rfl,?_⟩
     have BZ:=s4 _ _ LJ
     by_cases ce:ts.getD (to[w]).toNat 0=ts.getD tk.toNat 0
     ·rw[if_neg (by rw[ce];simp)]
      exact⟨jL,.inr ⟨w,rj,best,.inl ⟨by rw[TM];exact ce,BZ⟩⟩,_,rfl⟩
     ·rw[if_pos (λz=>ce (by injection z))]
      refine⟨.inl ⟨rfl,_,aV.of BZ⟩,by decide,λt5 H5 s5 n5 h5=>?_⟩
      simp only[jd,L2.start,Pr,tRev,tLR,tMaxD,tSortR,tD1,tDPop1,tSl,tNoPart,tPart,rSlL,tDIn,tDNotIn,gSub,rSetL,tLst,tDNewK,tComp,L2.stC,tFor_eq,iList,iTup,iRng1,iRng2,iZip,iEnum,iDict,iStr,tChain,tSumV,tBM,rJoin,tJoined,jNil,jLit,jInt,jStr,tRaise,tDGet,tDGet2,tDGet1,sDPut,Option.join_some,List.getElem?_nil,tSeq,tRet,tRetN,tIfS,tTest,tB,tOp,tUn,tVar,tC,tCB,tCons,tNil,tCall,tTupS,tAsg,gName,gNil,gCons,tPar,tNext,tDrop,tAnd,tOr,tNot,tAndV,tOrV,tNotV,tIf,rI,rI0,rU,rIxTH,rIxLH,rEqT,rNeT,rInT,rEq,rNe,scal,CPow,at0,at1,at2,aao,aaR,aaw,List.length_nil,Nat.reduceSub,Nat.reduceAdd,aaG,abm,List.reduceReplicate,aaL,aa7,List.cons_append,abi,abh,aba,abb,abj,exists_eq_left',exists_eq_left,V.ref.injEq,V.int.injEq,V.bl.injEq,V.str.injEq,V.ty.injEq,HO.tup.injEq,HO.lst.injEq,List.cons.injEq,and_true,true_and,and_assoc,exists_and_left,decide_eq_true_eq,Bool.not_eq_true',decide_eq_false_iff_not,ite_true,ite_false,if_true,if_false,Int.reduceToNat,eq_self_iff_true]
      refine⟨_,s5 _ _ BZ,by show 0<sizeLine;decide,aU (jL.trans s5) nf,.inr ⟨w,rj,best,.inr ⟨by rw[TM];exact ce,t5,ah,?_⟩⟩,_,rfl⟩
      rw[au (λz=>by rw[z,BZ] at n5;cases n5)]
      exact h5
    ·cases h
   ·rintro σ H2 ⟨s2,iv,z5,z6,z7,rfl⟩
    rcases iv with ⟨h,_⟩ | ⟨_,bw⟩
    ·cases h
    ·simp_all only[]
     refine kk fo _ s2 (λh=>by cases h) (λ_ B9 JZ TN e1 e2=>?_)
     cases e1
     cases e2
     exact bw
theorem kI:aH ["board","part","who"] ["board","part","who"] (ab (top 42)):=⟨rfl,rfl,rfl,by decide +kernel,rfl,by decide +kernel,by decide +kernel⟩
theorem HY (T:Txt K mg ar tc):bO P w K mg base (bK P w) 1 "picks_of" ["board","part","who"] BW:=by
 refine T.uY.dX (λ_ _ _ _ _ _=>qN λ_ _ _=>rfl) λf fd F=>F.d5 kI (λvs H Q E h=>?_) (λcn A outer s H vs Q E hr h=>?_)
 ·obtain⟨_,_,_,_,_,_,rfl,_⟩:=h;rfl
 ·obtain⟨bl,pt,aR,b,p,q,rfl,rb,xN,eb,kk⟩:=h
  have nd:=kI.nd
  refine⟨_,(aj (aI (bE rfl (N:=["board","part","who"]) (so:=ab (top 42)) (N':=["place","board","who"]) (k:=1) (fr:=[0,2]) rfl rfl ⟨rfl,by decide +kernel,by decide +kernel,by decide +kernel,rfl,by decide +kernel,by decide +kernel⟩ (aS (K:=K) (pv 1)) (λ_ _ _ _ _=>(ax (i:=0) (show(["place","board","who"]:List Str).Nodup by decide +kernel) rfl (Or.inl rfl))) (λ_ _ _ _ _=>(lW (PW.pt (pw_and (aO cJ (aw aA (aw aB (pv 1) (pv 0) (λ_ _=>rfl)) ag (λ_ _=>rfl)) cP (aQ _)) (pw_and1 (aO cJ (aw aA (aw aB (pv 1) (pv 0) (λ_ _=>rfl)) ag (λ_ _=>rfl)) (pv 2) (aQ _)))))))
   (λ_ _ _ _ _=>(pv 0))))),?_⟩
  obtain⟨_,xb,e,vc,xR⟩:=aL.mp rb
  cases e
  obtain⟨v,ev,rv⟩:=d3 xR eb
  have HZ:eA xb (p:Int)=some v:=bA ev
  simp_all only[]
  refine⟨⟨_,aV.of xN⟩,?_⟩
  have S':Src (ug K pt) (aq H) [(p:Int)].length (λi x H H3=>H3=H/\[V.int (p:Int)][i]?=some x):=src_list (K:=K) (a:=pt) (xs:=[V.int (p:Int)]) (Ok:=aq H) (λH2 s2=>aV.of (s2 _ _ xN))
  refine dc [(p:Int)] (λx=>if p9 q aR=true then some x else none) S' (λ_ _ _ _ h=>h.1) (by show 1<=sizeLine;decide) ?_ ?_
  ·rintro i x v0 ex ⟨_,ey⟩ Y N y1 n1
   have i0:i=0:=by have:=(List.getElem?_eq_some_iff.mp ex).1;have:i<1:=this;omega
   subst i0
   cases ex
   cases ey
   cases q with
   | fin g=>
    obtain⟨t,r,rfl,ht,_⟩:=cG.mp rv
    simp_all only[vc,HZ,ht]
    rw[if_neg (by decide +kernel),if_neg (by decide)]
    exact n1 rfl
   | dO g ws=>
    obtain⟨t,r,l',zs,rfl,ht,_⟩:=cH.mp rv
    simp_all only[vc,HZ,ht]
    rw[if_neg (by decide +kernel),if_neg (by decide)]
    exact n1 rfl
   | cu w' to=>
    obtain⟨t,l',rfl,ht,vP⟩:=cq.mp rv
    simp_all only[vc,HZ,ht]
    have ei:p9 (.cu w' to) aR=decide (w'=aR):=rfl
    exact oR (λc=>y1 _ (if_pos (by rw[ei];exact decide_eq_true c))) (λc=>n1 (if_neg (by rw[ei,decide_eq_false c];decide)))
  ·intro D n1 n2
   refine kk D _ (ao n2) n2 ?_
   rw[ah]
   cases p9 q aR <;>rfl
theorem Ca {c:TT} {tb:TS} {D:Ends} {σ:L2.St} {H:Hp} (Pv:Nat->L2.St->Hp->Prop) {m:Nat} (h0:Pv m σ H)
  (hs:∀m σ H,Pv m σ H->∃b:Bool,(∀Q:Bool->Hp->Prop,Q b H->c σ H Q)/\if b=true then tb {D with nx:=λσ' H'=>∃m',m'<m/\Pv m' σ' H',ct:=λσ' H'=>∃m',m'<m/\Pv m' σ' H',bk:=D.nx} σ H else D.nx σ H):qi c tb D σ H:=by
 refine⟨Pv,⟨m,h0⟩,?_⟩
 intro m σ H p
 obtain⟨b,k,q⟩:=hs m σ H p
 refine k _ ?_
 cases b with
 | true=>exact⟨_,λσ' H' h=>h,q⟩
 | false=>exact q
theorem Cb {b:List Pl} {ks:List (Option Int)} {p:Nat} {q:Pl} {k:Option Int} (e:b[p]?=some q) (lk:ks.length=b.length):dW b (ks.set p k)=(dW b ks).set p (fc q k):=by
 have hp:=(List.getElem?_eq_some_iff.mp e).1
 apply aa3
 intro i
 unfold dW
 by_cases c:p=i
 ·subst c
  rw[List.getElem?_zipWith,e,aay (by omega),aay (by rw[List.length_zipWith];omega)]
 ·rw[List.getElem?_zipWith,aaA c,aaA c,List.getElem?_zipWith]
theorem ot {H:Hp} {p:Addr} {o:HO}:c7 (upd H p o) p=c7 H p:=by
 funext a
 unfold c7
 by_cases h:a=p
 ·rw[if_pos h,if_pos h]
 ·rw[if_neg h,if_neg h,au h]
theorem dQ:aH ["book","gains","part","board","ways","first","second","told","better","place","way"] ["book","gains","part","board","ways"] (ab (top 43)):=⟨rfl,rfl,rfl,by decide +kernel,rfl,by decide +kernel,by decide +kernel⟩
theorem Ia (T:Txt K mg ar tc):bO P w K mg base (bK P w) 5 "with_best_worths" ["book","gains","part","board","ways"] (Hn ar):=by
 have ou:bO P w K mg base (bK P w) 1 "picks_of" ["board","part","who"] BW:=HY T
 have o8:bO P w K mg base (bK P w) 4 "with_worths" ["book","gains","part","ways"] (Hl ar):=HR T
 have iz:bO P w K mg base (bK P w) 2 "better_ways" ["board","places","ways","tops"] EH:=HV T
 have dM:bO P w K mg base (bK P w) 1 "weighted_ways" ["place","way"] tL:=Ae T
 refine T.iP.dX (λ_ _ _ _ _ _=>LA λ_ _ _ _ _=>rfl) λf fd F=>F.d5 dQ (λvs H Q E h=>?_) (λcn A outer s H vs Q E hr h=>?_)
 ·obtain⟨_,_,_,_,_,_,_,_,_,_,_,_,_,_,rfl,_⟩:=h;rfl
 ·obtain⟨bk,gn,pt,bl,wl,S,b,rk,ks,p,i,xs,q,k,rfl,hb,hg,xN,rb,B,hw,rl,lk,eb,ek,po,W,LR,kk⟩:=h
  have nd:=dQ.nd
  refine⟨_,(ae (aD (i:=5) nd rfl (Or.inl rfl) (aJ ou (hr.mono (by decide)) rfl ay.pass (aa (pv 3) (aa (pv 2) (aa ag af (se rfl)) (se rfl)) (se rfl)) (he:=se rfl) (hpl:=na rfl)))
  (ae (aD (i:=6) nd rfl (Or.inl rfl) (aJ ou (hr.mono (by decide)) rfl ay.pass (aa (pv 3) (aa (pv 2) (aa ag af (se rfl)) (se rfl)) (se rfl)) (he:=se rfl) (hpl:=na rfl)))
  (aj (gF PassesOwn.never (fu rH) (ae (aD (i:=7) nd rfl (Or.inl rfl) (aJ o8 (hr.mono (by decide)) rfl ay.pass (aa (pv 0) (aa (pv 1) (aa (pv 2) (aa (pv 4) af (se rfl)) (se rfl)) (se rfl)) (se rfl)) (he:=se rfl) (hpl:=na rfl)))
  (ae (aD (i:=8) nd rfl (Or.inl rfl) (aJ iz (hr.mono (by decide)) rfl ay.pass (aa (pv 3) (aa (pv 6) (aa (pv 4) (aa (dI (pv 7) rfl) af (se rfl)) (se rfl)) (se rfl)) (se rfl)) (he:=se rfl) (hpl:=na rfl)))
  (ae (bN (aO cJ (aK bC (by rfl) T.z_len aau (aa (pv 8) af (se rfl)) (he:=se rfl) (hpl:=na rfl)) ag (aQ _)) (aj (aD (i:=8) nd rfl (Or.inl rfl) (aJ iz (hr.mono (by decide)) rfl ay.pass (aa (pv 3) (aa (pv 5) (aa (pv 4) (aa (dI (pv 7) rfl) af (se rfl)) (se rfl)) (se rfl)) (se rfl)) (he:=se rfl) (hpl:=na rfl))))
   ba)
  (ae (bN (aO cJ (aK bC (by rfl) T.z_len aau (aa (pv 8) af (se rfl)) (he:=se rfl) (hpl:=na rfl)) ag (aQ _)) (aj (aI (pv 7)))
   ba)
  (aj (b9 PassesOwn.never rfl (aS (K:=K) (pv 8)) (bU (K:=K) (n:=2) rfl (aM (ax (i:=9) nd rfl (Or.inl rfl)) (aM (ax (i:=10) nd rfl (Or.inl rfl)) bR))) (aj (dH (aJ dM (hr.mono (by decide)) rfl ay.pass (aa (aw aB (pv 3) (pv 9) (λ_ _=>rfl)) (aa (pv 10) af (se rfl)) (se rfl)) (he:=se rfl) (hpl:=na rfl)) (dG (pv 4) (pv 9) set_list))))))))))))),?_⟩
  have hp:=(List.getElem?_eq_some_iff.mp eb).1
  have LW:=B.len
  obtain⟨g0,g1,g2⟩:=B.bot
  have pq:=B.ok _ (aad eb)
  have LX:(gT b).length=b.length:=by unfold gT;rw[aab,aab]
  have LY:∀ks:List (Option Int),ks.length=b.length->(dW b ks).length=b.length:=λks h=>by unfold dW;rw[List.length_zipWith];omega
  have s0:aq (c7 H wl) H:=cX
  have TQ:=rb.mono s0
  change tSeq _ _ _ _ _
  refine aW (λσ' H1=>∃l1,aq H H1/\H l1=none/\H1 l1=some (.lst (if p9 q 1=true then [.int (p:Int)] else []))/\σ'=[some (.ref bk),some (.ref gn),some (.ref pt),some (.ref bl),some (.ref wl),some (.ref l1),none,none,none,none,none]) ?_ (λN hN=>?_)
  case refine_2=>
   simp_all only[BW]
   exact⟨b,TQ,p,s0 _ _ xN,q,eb,λl1 H1 s1 n1 h1=>hN _ _ ⟨l1,s1,n1,h1,rfl⟩⟩
  rintro _ H1 ⟨l1,s1,n1,h1,rfl⟩
  change tSeq _ _ _ _ _
  refine aW (λσ' H2=>∃l2,aq H1 H2/\H1 l2=none/\H2 l2=some (.lst (if p9 q 2=true then [.int (p:Int)] else []))/\σ'=[some (.ref bk),some (.ref gn),some (.ref pt),some (.ref bl),some (.ref wl),some (.ref l1),some (.ref l2),none,none,none,none]) ?_ (λN hN=>?_)
  case refine_2=>
   simp_all only[BW]
   exact⟨b,TQ.mono s1,p,s1 _ _ (s0 _ _ xN),q,eb,λl2 H2 s2 n2 h2=>hN _ _ ⟨l2,s2,n2,h2,rfl⟩⟩
  rintro _ H2 ⟨l2,s2,n2,h2,rfl⟩
  have Ad:=s1.trans s2
  have w1:l1≠wl:=λz=>by rw[z,hw] at n1;cases n1
  have w2:l2≠wl:=λz=>by rw[z,s1 _ _ hw] at n2;cases n2
  simp_all only[]
  refine Ca (λm σ HX=>∃(k':Option Int) (qw:List V) (z7 z8 z9 fS:Option V),aq (c7 H wl) (c7 HX wl)/\c7 HX wl l1=some (.lst (if p9 q 1=true then [.int (p:Int)] else []))/\c7 HX wl l2=some (.lst (if p9 q 2=true then [.int (p:Int)] else []))/\HX wl=some (.lst qw)/\bj (c7 HX wl) ((dW b (ks.set p k')).map rh) qw/\qZ q k'/\(m=0->∀aR to,q=.cu aR to->gf aR to S.1 (k'.getD 0).toNat)/\σ=[some (.ref bk),some (.ref gn),some (.ref pt),some (.ref bl),some (.ref wl),some (.ref l1),some (.ref l2),z7,z8,z9,fS]) (m:=1) ⟨k,xs,_,_,_,_,bP Ad,by rw[cm w1];exact s2 _ _ h1,by rw[cm w2];exact h2,Ad _ _ hw,by rw[set_same ek];exact rl.mono (bP Ad),po,(λh=>by cases h),rfl⟩ ?_
  ·rintro m σ HX ⟨k',qw,z7,z8,z9,fS,sX,LZ,xM,FL,E7,t7,L3,rfl⟩
   refine⟨true,λQQ WY=>by simp_all only[];exact WY,?_⟩
   rw[if_pos rfl]
   have sh:aq (c7 HX wl) HX:=cX
   obtain⟨jK,wg⟩:=kF pq t7
   have off:=B.off eb t7
   have TR:(dW b (ks.set p k'))[p]?=some (fc q k'):=EF eb (aay (by omega))
   have Ib:(ks.set p k').length=b.length:=by rw[aaz];exact lk
   have W1:=W.step (gt:=gT b) (p:=p) jK g0 (B.top p)
   have WZ:=E7.length
   rw[aab,LY _ Ib] at WZ
   generalize E8:fc q k'=ws at *
   generalize L4:Dg.eF (gT b) (gB b) ws S p=S1 at *
   have L5:∀y∈qw,∃a,y=V.ref a:=λy hy=>by
    obtain⟨j,ej⟩:=aam hy
    obtain⟨J0,_,rr⟩:=ju E7 ej
    obtain⟨a,_,e,_⟩:=aL.mp rr
    exact⟨a,e⟩
   have W2:∀t∈S1.1,Bt 4000 t:=λt ht=>by
    obtain⟨j,hj,rfl⟩:=List.getElem_of_mem ht
    have:=W1.Ey (by omega) j
    rw[aai,aac hj] at this
    exact Bt.mono this (by omega)
   have TU:=W1.len
   change tSeq _ _ _ _ _
   refine aW (λσ' H3=>∃x,aq HX H3/\mi ar (c7 H3 wl) x S1/\σ'=[some (.ref bk),some (.ref gn),some (.ref pt),some (.ref bl),some (.ref wl),some (.ref l1),some (.ref l2),some (.ref x),z8,z9,fS]) ?_ (λN hN=>?_)
   case refine_2=>
    simp_all only[]
    refine⟨bk,gn,pt,wl,S,gT b,gB b,p,b.length,i,qw,dW b (ks.set p k'),ws,rfl,(hb.mono sX).mono sh,(hg.mono sX).mono sh,sh _ _ (sX _ _ xN),FL,E7.mono sh,TR,jK,off,W,by omega,LW,hp,LX,g0,g1,B.top,λx H3 s3 h3=>hN _ _ ⟨x,s3,?_,rfl⟩⟩
    obtain⟨dx,mm,E9,J1⟩:=h3
    rw[L4] at E9 J1
    refine⟨dx,mm,by rw[cm (λz=>by rw[z,s3 _ _ FL] at E9;cases E9)];exact E9,?_⟩
    rw[cm]
    ·exact J1
    ·intro z
     rw[z,s3 _ _ FL] at J1
     have e:qw=S1.1.map V.int:=by injection J1 with h;injection h
     have en:0<qw.length:=by have:=B.pos;omega
     obtain⟨a,ea⟩:=L5 qw[0] (aav en)
     have:qw[0]?=some qw[0]:=aac en
     rw[ea,e,aaf] at this
     obtain⟨_,_,e2⟩:=Option.map_eq_some_iff.mp this
     cases e2
   rintro _ H3 ⟨x,s3,E9,rfl⟩
   obtain⟨dx,mm,L6,W3⟩:=id E9
   have Ic:aq (c7 H3 wl) H3:=cX
   have FN:=bP (p:=wl) s3
   have Ag:∀(lp:Addr) (c:Bool) (HH:Hp),aq H3 HH->c7 HX wl lp=some (.lst (if c=true then [.int (p:Int)] else []))->(c=true->∃aR to,q=.cu aR to)->∀QQ:VK,(∀l H',aq HH H'->(c=false->H' l=some (.lst []))->(c=true->∀aR to tk,q=.cu aR to->ws=[(1,tk)]->Hm H' l p aR to S1.1 tk)->QQ (.ref l) H')->EH [.ref bl,.ref lp,.ref wl,.ref mm] HH QQ E0:=λlp c HH Ah W4 hc QQ kq=>by
    have L7:=FN.trans (Ic.trans Ah)
    refine⟨bl,lp,wl,mm,b,p,c,S1.1,qw,dW b (ks.set p k'),ws,q,rfl,(rb.mono sX).mono L7,L7 _ _ W4,Ah _ _ (s3 _ _ FL),E7.mono L7,TR,eb,by rw[TU];exact pq,Ah _ _ (Ic _ _ W3),W2,λJt=>?_,kq⟩
    obtain⟨aR,to,rfl⟩:=hc Jt
    cases k' with
    | none=>exact t7.elim
    | some i8=>
     have e:ws=[(1,to.getD i8.toNat 0)]:=E8.symm
     refine⟨aR,to,to.getD i8.toNat 0,rfl,e,?_⟩
     have:=(jK.2 (1,to.getD i8.toNat 0) (by rw[e];exact List.mem_singleton.mpr rfl)).2.2
     rw[TU]
     exact this
   have wm:∀aR to,q=.cu aR to->Dg.tt ws=1/\∀t∈to,S1.1.getD t.toNat 0=S.1.getD t.toNat 0:=λaR to e=>by
    subst e
    have e1:Dg.tt ws=1:=by rw[<-E8];rfl
    refine⟨e1,λt ht=>?_⟩
    rw[<-L4]
    show((S.1.map (·*Dg.tt ws)).set p _).getD t.toNat 0=_
    have tp:t≠(p:Int):=λz=>by
     have:=B.dn.dn p _ eb t ht
     rw[z] at this
     omega
    have t0:=(pq.2.2.2 t ht).1
    rw[Dg.gN (by omega),Dg.fQ,e1,Int.mul_one]
   have Fb:∀aR to w tk,q=.cu aR to->ws=[(1,tk)]->w<to.length->gf aR to S1.1 w->S1.1.getD (to.getD w 0).toNat 0=S1.1.getD tk.toNat 0->gf aR to S.1 (k'.getD 0).toNat:=λaR to w tk e L8 rj bw eq=>by
    subst e
    cases k' with
    | none=>exact t7.elim
    | some i8=>
     have e2:ws=[(1,to.getD i8.toNat 0)]:=E8.symm
     rw[L8] at e2
     have xH:tk=to.getD i8.toNat 0:=by injection e2 with h;injection h
     have wo:i8.toNat<to.length:=by have:=t7.1;have:=t7.2;omega
     have mk:to.getD i8.toNat 0∈to:=by rw[aai,aac wo];exact aav wo
     have mw:to.getD w 0∈to:=by rw[aai,aac rj];exact aav rj
     obtain⟨_,te⟩:=wm aR to rfl
     intro t ht
     show sgn aR*S.1.getD t.toNat 0<=sgn aR*S.1.getD (to.getD i8.toNat 0).toNat 0
     have:=bw t ht
     rw[eq,xH,te t ht,te _ mk] at this
     exact this
   have fin:∀HH:Hp,aq H3 HH->(∀aR to,q=.cu aR to->gf aR to S.1 (k'.getD 0).toNat)->Q (.ref x) HH:=λHH Ah bb=>kk x k' qw HH (sX.trans (FN.trans (bP Ah))) (Ah _ _ (s3 _ _ FL)) (E7.mono (FN.trans (bP Ah))) t7 bb (by rw[E8,L4];exact E9.mono (bP Ah))
   change tSeq _ _ _ _ _
   refine aW (λσ' H4=>∃l3,aq H3 H4/\(p9 q 2=false->H4 l3=some (.lst []))/\(p9 q 2=true->∀aR to tk,q=.cu aR to->ws=[(1,tk)]->Hm H4 l3 p aR to S1.1 tk)/\σ'=[some (.ref bk),some (.ref gn),some (.ref pt),some (.ref bl),some (.ref wl),some (.ref l1),some (.ref l2),some (.ref x),some (.ref l3),z9,fS]) ?_ (λN hN=>?_)
   case refine_2=>
    simp_all only[jQ]
    refine⟨_,_,_,Ic _ _ L6,T.b8,T.na_Book_tops,_,jB,Ag l2 (p9 q 2) H3 (aq.refl _) xM (λh=>?_) _ λl3 H4 s4 h4 W5=>hN _ _ ⟨l3,s4,h4,W5,rfl⟩⟩
    cases q with
    | fin g=>cases h
    | dO g ws=>cases h
    | cu aR to=>exact⟨aR,to,rfl⟩
   rintro _ H4 ⟨l3,s4,e4,b4,rfl⟩
   change tSeq _ _ _ _ _
   refine aW (λσ' H5=>∃l4,aq H3 H5/\((H5 l4=some (.lst [])/\∀aR to,q=.cu aR to->gf aR to S.1 (k'.getD 0).toNat)\/∃aR to w t,q=.cu aR to/\w<to.length/\gf aR to S.1 w/\(m=0->False)/\H5 l4=some (.lst [.ref t])/\H5 t=some (.tup [.int (p:Int),.int (w:Int)]))/\σ'=[some (.ref bk),some (.ref gn),some (.ref pt),some (.ref bl),some (.ref wl),some (.ref l1),some (.ref l2),some (.ref x),some (.ref l4),z9,fS]) ?_ (λN hN=>?_)
   case refine_2=>
    have right:∀aR to tk w,q=.cu aR to->ws=[(1,tk)]->w<to.length->gf aR to S1.1 w->S1.1.getD (to.getD w 0).toNat 0≠S1.1.getD tk.toNat 0->gf aR to S.1 w/\(m=0->False):=λaR to tk w e L8 rj bw ne=>by
     obtain⟨_,te⟩:=wm aR to e
     have mw:to.getD w 0∈to:=by rw[aai,aac rj];exact aav rj
     have bS:gf aR to S.1 w:=λt ht=>by
      have:=bw t ht
      rw[te t ht,te _ mw] at this
      exact this
     refine⟨bS,λh0=>ne ?_⟩
     have W6:=L3 h0 aR to e
     subst e
     cases k' with
     | none=>exact t7.elim
     | some i8=>
      have e2:ws=[(1,to.getD i8.toNat 0)]:=E8.symm
      rw[L8] at e2
      have xH:tk=to.getD i8.toNat 0:=by injection e2 with h;injection h
      have wo:i8.toNat<to.length:=by have:=t7.1;have:=t7.2;omega
      have mk:to.getD i8.toNat 0∈to:=by rw[aai,aac wo];exact aav wo
      rw[xH,te _ mw,te _ mk]
      have a1:=bS _ mk
      have a2:sgn aR*S.1.getD (to.getD w 0).toNat 0<=sgn aR*S.1.getD (to.getD i8.toNat 0).toNat 0:=W6 _ mw
      rcases u7 aR with h | h <;>rw[h] at a1 a2 <;>omega
    have TV:∀aR to,q=.cu aR to->∃tk,ws=[(1,tk)]:=λaR to e=>by
     subst e
     exact⟨_,E8.symm⟩
    have done:∀l4 H5,aq H3 H5->(∀aR to,q=.cu aR to->∀tk,ws=[(1,tk)]->Hm H5 l4 p aR to S1.1 tk)->((∀aR to,q≠.cu aR to)->H5 l4=some (.lst []))->N [some (.ref bk),some (.ref gn),some (.ref pt),some (.ref bl),some (.ref wl),some (.ref l1),some (.ref l2),some (.ref x),some (.ref l4),z9,fS] H5:=λl4 H5 s5 W7 TX=>by
     refine hN _ _ ⟨l4,s5,?_,rfl⟩
     cases q with
     | fin g=>exact .inl ⟨TX (λ_ _ z=>by cases z),λ_ _ z=>by cases z⟩
     | dO g J0=>exact .inl ⟨TX (λ_ _ z=>by cases z),λ_ _ z=>by cases z⟩
     | cu aR to=>
      obtain⟨tk,xH⟩:=TV aR to rfl
      obtain⟨w',rj,bw,⟨e1,e2⟩ | ⟨e1,t,e2,e3⟩⟩:=W7 aR to rfl tk xH
      ·exact .inl ⟨e2,λB9 JZ z=>by cases z;exact Fb aR to w' tk rfl xH rj bw e1⟩
      ·obtain⟨r1,r2⟩:=right aR to tk w' rfl xH rj bw e1
       exact .inr ⟨aR,to,w',t,rfl,rj,r1,r2,e2,e3⟩
    by_cases c2:p9 q 2=true
    ·obtain⟨to,rfl⟩:∃to,q=.cu 2 to:=by
      cases q with
      | fin g=>cases c2
      | dO g ws=>cases c2
      | cu aR to=>exact⟨to,by rw[show aR=2 from of_decide_eq_true c2]⟩
     obtain⟨tk,xH⟩:=TV 2 to rfl
     have TY:=b4 c2 2 to tk rfl xH
     obtain⟨w',rj,bw,⟨e1,e2⟩ | ⟨e1,t,e2,e3⟩⟩:=id TY
     ·simp_all only[e2,jQ]
      rw[if_pos (by rfl)]
      refine⟨_,_,_,s4 _ _ (Ic _ _ L6),T.b8,T.na_Book_tops,_,jB,Ag l1 false H4 s4 LZ (λh=>by cases h) _ λl4 H5 s5 h5 _=>done l4 H5 (s4.trans s5) (λB9 JZ z TN Ai=>?_) (λ_=>h5 rfl)⟩
      cases z
      rw[xH] at Ai
      cases Ai
      exact⟨w',rj,bw,.inl ⟨e1,h5 rfl⟩⟩
     ·simp_all only[e2]
      rw[if_neg (by simp)]
      refine done l3 H4 s4 (λB9 JZ z TN Ai=>?_) (λh=>absurd rfl (h 2 to))
      cases z
      rw[xH] at Ai
      cases Ai
      exact TY
    ·have c2:p9 q 2=false:=by simpa using c2
     simp_all only[e4 c2,jQ]
     rw[if_pos (by rfl)]
     refine⟨_,_,_,s4 _ _ (Ic _ _ L6),T.b8,T.na_Book_tops,_,jB,Ag l1 (p9 q 1) H4 s4 LZ (λh=>?_) _ λl4 H5 s5 h5 W8=>done l4 H5 (s4.trans s5) (λaR to z tk xH=>?_) (λhn=>h5 ?_)⟩
     ·cases q with
      | fin g=>cases h
      | dO g ws=>cases h
      | cu aR to=>exact⟨aR,to,rfl⟩
     ·subst z
      refine W8 (decide_eq_true ?_) aR to tk rfl xH
      have:¬aR=2:=of_decide_eq_false c2
      rcases pq.1 with h | h
      ·exact h
      ·exact absurd h this
     ·cases q with
      | fin g=>rfl
      | dO g ws=>rfl
      | cu aR to=>exact absurd rfl (hn aR to)
   rintro _ H5 ⟨l4,s5,res,rfl⟩
   change tSeq _ _ _ _ _
   rcases res with ⟨h5,bb⟩ | ⟨aR,to,w',t,rfl,rj,bw,m0,h5,J2⟩
   ·simp_all only[h5]
    rw[if_pos (by rfl)]
    exact fin H5 s5 bb
   ·simp_all only[h5]
    rw[if_neg (by simp)]
    have J3:=s5 _ _ (s3 _ _ FL)
    have L9:∀a,V.ref a∈qw->∃zs,H5 a=some (.lst zs):=λa ha=>by
     obtain⟨j,ej⟩:=aam ha
     obtain⟨J0,_,rr⟩:=ju E7 ej
     obtain⟨a',zs,e,hz,_⟩:=aL.mp rr
     cases e
     exact⟨zs,s5 _ _ (s3 _ _ (sh _ _ hz))⟩
    have CU:∀(a:Addr) (HH:Hp) (t':Addr) (us:List V),aq H5 HH->HH a=some (.lst [.ref t'])->HH t'=some (.tup us)->a≠wl:=λa HH t' us Ah ha ht z=>by
     rw[z,Ah _ _ J3] at ha
     have e:qw=[.ref t']:=by injection ha with h;injection h
     obtain⟨zs,hz⟩:=L9 t' (by rw[e];exact List.mem_singleton.mpr rfl)
     rw[Ah _ _ hz] at ht
     cases ht
    have W9:=CU l4 H5 t _ (aq.refl _) h5 J2
    have twl:t≠wl:=λz=>by rw[z,J3] at J2;cases J2
    obtain⟨_,xb,e,vc,xR⟩:=aL.mp rb
    cases e
    obtain⟨v,ev,rv⟩:=d3 xR eb
    have Ma:aq (c7 H wl) (c7 H5 wl):=sX.trans (FN.trans (bP s5))
    have TZ:aq (c7 H5 wl) H5:=cX
    refine⟨⟨_,aV.of h5⟩,bH (src_list (K:=K) (a:=l4) (xs:=[V.ref t]) (Ok:=λH'=>H' l4=some (.lst [.ref t])) (λH' h=>aV.of h)) (λj σ H6=>H6 l4=some (.lst [.ref t])/\((j=0/\H6=H5/\∃z9 fS,σ=[some (.ref bk),some (.ref gn),some (.ref pt),some (.ref bl),some (.ref wl),some (.ref l1),some (.ref l2),some (.ref x),some (.ref l4),z9,fS])\/(j=1/\aq (c7 H wl) (c7 H6 wl)/\aq (c7 HX wl) (c7 H6 wl)/\(∃Cc:List V,H6 wl=some (.lst Cc)/\bj (c7 H6 wl) ((dW b (ks.set p (some (w':Int)))).map rh) Cc)/\∃z9 fS,σ=[some (.ref bk),some (.ref gn),some (.ref pt),some (.ref bl),some (.ref wl),some (.ref l1),some (.ref l2),some (.ref x),some (.ref l4),z9,fS]))) ⟨h5,.inl ⟨rfl,rfl,_,_,rfl⟩⟩ (λ_ _ _ _ h=>h.1) ?_ ?_⟩
    ·rintro j y σ H6 H7 hj ⟨h6,iv⟩ ⟨rfl,ey⟩
     have j0:j=0:=by have:j<1:=hj;omega
     subst j0
     cases ey
     rcases iv with ⟨_,rfl,z9,fS,rfl⟩ | ⟨h,_⟩
     ·refine⟨t,_,rfl,dR.of J2,rfl,?_⟩
      have pow:qZ (.cu aR to) (some (w':Int)):=⟨by omega,by omega⟩
      simp_all only[(Ma.trans TZ) _ _ vc,show eA xb (p:Int)=some v from bA ev]
      refine⟨v,.cu aR to,some (w':Int),rfl,rv.mono (Ma.trans TZ),pow,λl6 H8 s8 r8=>?_⟩
      obtain⟨a6,T1,e6,T2,T3⟩:=aL.mp r8
      cases e6
      obtain⟨t6,Xa,J4⟩:=cf (i:=0) T3 rfl
      have Xb:=T3.length
      have eu:T1=[.ref t6]:=by
       match T1,Xb,Xa with
       | [y],_,e=>cases e;rfl
      subst eu
      have Xc:=CU l6 H8 t6 _ s8 T2 J4
      have Xd:t6≠wl:=λz=>by rw[z,s8 _ _ J3] at J4;cases J4
      have FO:=s8 _ _ J3
      refine⟨_,FO,p,eI (by omega),by rw[au W9];exact s8 _ _ h5,.inr ⟨?_,?_,⟨_,ah,?_⟩,_,rfl⟩⟩
      ·rw[ot];exact Ma.trans (bP s8)
      ·rw[ot];exact FN.trans ((bP s5).trans (bP s8))
      ·rw[ot]
       have Xe:=E7.mono (FN.trans ((bP s5).trans (bP s8)))
       have e1:dW b (ks.set p (some (w':Int)))=(dW b (ks.set p k')).set p (fc (.cu aR to) (some (w':Int))):=by
        have:=Cb (k:=some (w':Int)) eb Ib
        rw[List.set_set] at this
        exact this
       rw[e1]
       refine cK (by rw[aaz,aaz,LY _ Ib];omega) λj y ey J0 J5=>?_
       by_cases c:p=j
       ·subst c
        rw[aay (by omega)] at ey
        rw[aay (by rw[LY _ Ib];exact hp)] at J5
        cases ey
        cases J5
        exact aL.mpr ⟨l6,[.ref t6],rfl,by rw[cm Xc];exact T2,⟨_,_,rfl,bJ.mpr ⟨t6,rfl,by rw[cm Xd];exact J4⟩,rfl⟩⟩
       ·rw[aaA c] at ey J5
        obtain⟨ws2,T4,rr⟩:=ju Xe ey
        rw[J5] at T4
        cases T4
        exact rr
     ·cases h
    ·rintro σ H6 ⟨h6,iv⟩
     rcases iv with ⟨h,_⟩ | ⟨_,q1,q2,⟨Cc,q3,q4⟩,z9,fS,rfl⟩
     ·cases h
     ·refine⟨0,Nat.pos_of_ne_zero (λz=>m0 z),q1,q2 _ _ LZ,q2 _ _ xM,some (w':Int),Cc,q3,q4,⟨by omega,by omega⟩,λ_ B9 JZ z=>?_,_,_,_,_,rfl⟩
      cases z
      exact bw
theorem Aj {C:Addr} {H:Hp} {x wl:Addr} {S:Dg.Bk} {xs:List V} (h:mi C H x S) (hw:H wl=some (.lst xs)) (xr:∀y∈xs,∃a,y=V.ref a) (l0:0<xs.length):mi C (c7 H wl) x S:=by
 obtain⟨dx,m,hx,hm⟩:=h
 refine⟨dx,m,by rw[cm (λz=>by rw[z,hw] at hx;cases hx)];exact hx,?_⟩
 rw[cm]
 ·exact hm
 ·intro z
  rw[z,hw] at hm
  have e:xs=S.1.map V.int:=by injection hm with h;injection h
  obtain⟨a,ea⟩:=xr xs[0] (aav l0)
  have:xs[0]?=some xs[0]:=aac l0
  rw[ea,e,aaf] at this
  obtain⟨_,_,e2⟩:=Option.map_eq_some_iff.mp this
  cases e2
theorem wq {H:Hp} {xC:List Dg.Wy} {xs:List V} (r:bj H (xC.map rh) xs):∀y∈xs,∃a,y=V.ref a:=λy hy=>by
 obtain⟨j,ej⟩:=aam hy
 obtain⟨J0,_,rr⟩:=ju r ej
 obtain⟨a,_,e,_⟩:=aL.mp rr
 exact⟨a,e⟩
theorem Ak {H:Hp} {b:List Pl} {xs:List V} (r:bj H ((dW b (List.replicate b.length (some (0:Int)))).map rh) xs) (h:0<b.length):0<xs.length:=by
 have:=r.length
 unfold dW at this
 rw[aab,List.length_zipWith,aaZ] at this
 omega
theorem Am (aR:Int):((sgn aR:Int):Rat)=jz aR:=by
 unfold sgn jz
 split <;>rfl
theorem T5 (x:Rat):x+Dg.iR (Dg.tt []) (λ_=>0) []=x:=by
 show x+0=x
 grind
theorem Xf (v:Int->Rat) (t:Int):Dg.vl (0,1)+Dg.iR (Dg.tt [(1,t)]) v [(1,t)]=v t:=by
 show((0:Int):Rat) / ((1:Int):Rat)+ (((1:Int):Rat) / ((1:Int):Rat)*v t+0)=v t
 rw[Dg.Wg,Dg.Wf]
 grind
theorem An (x:Int×Int):Ke (bf x):=⟨rfl,by show(toP (bf x)).depth<=8;simp [bf,toP,toPL,PyData.depth,PyData.depthAll]⟩
theorem jC:aH ["place","worth","worths"] ["place","worth","worths"] (ab (top 44)):=⟨rfl,rfl,rfl,by decide +kernel,rfl,by decide +kernel,by decide +kernel⟩
theorem Ie (T:Txt K mg ar tc):bO P w K mg base (bK P w) 1 "best_pick" ["place","worth","worths"] Ho:=by
 refine T.tz.dX (λ_ _ _ _ _ _=>qN λ_ _ _=>rfl) λf fd F=>F.d5 jC (λvs H Q E h=>?_) (λcn A outer s H vs Q E hr h=>?_)
 ·obtain⟨_,_,_,_,_,_,_,rfl,_⟩:=h;rfl
 ·obtain⟨v,x,wl,q,n,p,ss,rfl,rv,pq,ls,hp,hx,qh,mem,kk⟩:=h
  have nd:=jC.nd
  refine⟨_,(ae (bN (aO mK (aw aA (pv 0) ag (λ_ _=>rfl)) cP (aQ _)) (aj (aI dF))
   ba)
  (aj (aI (jc abe PySem.F.slot_list_index PySem.F.type_list_index (xu hr.units) (bE rfl (N:=["place","worth","worths"]) (so:=ab (top 44)) (N':=["to","worths"]) (k:=1) (fr:=[2]) rfl rfl ⟨rfl,by decide +kernel,by decide +kernel,by decide +kernel,rfl,by decide +kernel,by decide +kernel⟩ (aS (K:=K) (aw aA (pv 0) ag (λ_ _=>rfl))) (λ_ _ _ _ _=>(ax (i:=0) (show(["to","worths"]:List Str).Nodup by decide +kernel) rfl (Or.inl rfl))) (λ_ _ _ _ _=>bx)
   (λ_ _ _ _ _=>(aw aB (pv 1) (pv 0) (λ_ _=>rfl)))) (aa (pv 1) af (se rfl)))))),?_⟩
  have sl:=sizeLine_eq
  cases q with
  | fin g=>
   obtain⟨t,r,rfl,ht,_⟩:=cG.mp rv
   simp_all only[ht]
   rw[if_pos (by decide +kernel)]
   exact kk _ (aq.refl _)
  | dO g ws=>
   obtain⟨t,r,l',zs,rfl,ht,_⟩:=cH.mp rv
   simp_all only[ht]
   rw[if_pos (by decide +kernel)]
   exact kk _ (aq.refl _)
  | cu aR to=>
   obtain⟨t,l',rfl,ht,vP⟩:=cq.mp rv
   simp_all only[ht]
   rw[if_neg (by simp)]
   obtain⟨_,us,e,yq,ru⟩:=aL.mp qh
   cases e
   have lu:=ru.length
   rw[aab] at lu
   have l3:=pq.2.2.1
   refine⟨⟨_,aV.of vP⟩,?_⟩
   refine comp_map (src_list (K:=K) (a:=l') (xs:=to.map V.int) (Ok:=aq H) (λH' s'=>aV.of (s' _ _ vP))) (λ_ _ _ _ h=>by rw[h.1];exact aq.refl _) (by rw[aab];omega) (λi y H4=>∀g,to[i]?=some g->Rep H4 (bf (Wq.bX ss g)) y) (λi y H4 H5 s5 h g e=>(h g e).mono s5) ?_ ?_
   ·rintro i v0 w0 H4 H5 Q2 hi s4 ⟨rfl,ex⟩ kq
    rw[aaf] at ex
    obtain⟨g,eg,rfl⟩:=Option.map_eq_some_iff.mp ex
    obtain⟨g0,g1⟩:=pq.2.2.2 g (aad eg)
    have Ig:ss[g.toNat]?=some (Wq.bX ss g):=by
     unfold Wq.bX
     rw[aai,aac (show g.toNat<ss.length by omega)]
     rfl
    obtain⟨pr,Xg,Xh⟩:=cf ru Ig
    have E4:eA us g=some (.ref pr):=by have:=bA Xg;rwa [abp g0] at this
    simp_all only[s4 _ _ yq,E4]
    refine kq _ _ (aq.refl _) λg' e'=>?_
    rw[eg] at e'
    cases e'
    exact bJ.mpr ⟨pr,rfl,s4 _ _ Xh⟩
   ·intro ys H5 s5 ly hy D n1 n2
    rw[aab] at ly
    have sD:=ao (o:=.lst ys) n2
    have hD:upd H5 D (.lst ys) D=some (.lst ys):=ah
    generalize upd H5 D (.lst ys)=H6 at *
    have rD:bj H6 ((to.map (Wq.bX ss)).map bf) ys:=cK (by rw[aab];exact ly) λi y ey x' oG=>by
     rw[aaf] at oG
     obtain⟨g,eg,rfl⟩:=Option.map_eq_some_iff.mp oG
     exact(hy i y ey g eg).mono sD
    obtain⟨tm,mt,et⟩:=mem aR to rfl
    have mm:Wq.bX ss (p:Int)∈to.map (Wq.bX ss):=List.mem_map.mpr ⟨tm,mt,et.symm⟩
    have lt:=abd mm
    have eg:=abc lt
    have inj:∀u v:Wq.Sh,toP (bf u)=toP (bf v)->u=v:=λu v h=>by
     simp [bf,toP,toPL] at h
     exact Prod.ext h.1 h.2
    refine⟨.inl ⟨rfl,_,aV.of hD⟩,D,ys,(to.map (Wq.bX ss)).map bf,.ref x,bf (Wq.bX ss (p:Int)),(to.map (Wq.bX ss)).idxOf (Wq.bX ss (p:Int)),rfl,rfl,hD,rD,λe he=>?_,bJ.mpr ⟨x,rfl,(s5.trans sD) _ _ hx⟩,An _,?_,λj hj z=>?_,?_,kk _ (s5.trans sD)⟩
    ·obtain⟨u,_,rfl⟩:=List.mem_map.mp he
     exact An u
    ·rw[aaf,aaf,aac lt,eg]
     rfl
    ·have:=List.not_of_lt_findIdx (xs:=to.map (Wq.bX ss)) (p:=λy=>y==Wq.bX ss (p:Int)) hj
     rw[aaf,aaf,aac (Nat.lt_trans hj lt)] at z
     have:=inj _ _ (aax z)
     simp_all
    ·rw[aab] at lt
     omega
theorem wu:aH ["board","found","ways","gains","book","part","worths"] ["board"] (ab (top 45)):=⟨rfl,rfl,rfl,by decide +kernel,rfl,by decide +kernel,by decide +kernel⟩
theorem Ih (T:Txt K mg ar tc) (LB:oV base mg tc tp):bO P w K mg base (bK P w) 7 "best" ["board"] (Hq tp):=by
 have lH:bO P w K mg base (bK P w) 6 "checked_parts" ["board"] (zN tp):=EV T LB
 have ie:bO P w K mg base (bK P w) 2 "all_weighted_ways" ["board","picks"] Hj:=HF T
 have vd:bO P w K mg base (bK P w) 4 "gains_of" ["board"] (zQ ar):=E3 T
 have oz:bO P w K mg base (bK P w) 3 "blank_worths" ["gains"] (ED ar):=HQ T
 have iS:bO P w K mg base (bK P w) 5 "with_best_worths" ["book","gains","part","board","ways"] (Hn ar):=Ia T
 have j9:nI P w K mg base (bK P w) 3 ar "as_shares" ["self"] (Hk ar):=HP T
 have tT:bO P w K mg base (bK P w) 1 "best_pick" ["place","worth","worths"] Ho:=Ie T
 refine T.Em.dX (λ_ _ _ _ _ _=>iQ λ_=>rfl) λf fd F=>F.d5 wu (λvs H Q E h=>?_) (λcn A outer s H vs Q E hr h=>?_)
 ·obtain⟨_,_,_,rfl,_⟩:=h;rfl
 ·obtain⟨a,b,rk,rfl,rb,B,nH,kk⟩:=h
  have nd:=wu.nd
  refine⟨_,(ae (aD (i:=1) nd rfl (Or.inl rfl) (aJ lH (hr.mono (by decide)) rfl ay.pass (aa (pv 0) af (se rfl)) (he:=se rfl) (hpl:=na rfl)))
  (ae (aD (i:=2) nd rfl (Or.inl rfl) (aJ ie (hr.mono (by decide)) rfl ay.pass (aa (pv 0) (aa (aG uD (cS (aa ag af (se rfl))) (aK bC (by rfl) T.z_len aau (aa (pv 0) af (se rfl)) (he:=se rfl) (hpl:=na rfl))) af (se rfl)) (se rfl)) (he:=se rfl) (hpl:=na rfl)))
  (ae (aD (i:=3) nd rfl (Or.inl rfl) (aJ vd (hr.mono (by decide)) rfl ay.pass (aa (pv 0) af (se rfl)) (he:=se rfl) (hpl:=na rfl)))
  (ae (aD (i:=4) nd rfl (Or.inl rfl) (aJ oz (hr.mono (by decide)) rfl ay.pass (aa (pv 3) af (se rfl)) (he:=se rfl) (hpl:=na rfl)))
  (ae (b9 PassesOwn.never rfl (aS (K:=K) (pv 1)) (ax (i:=5) nd rfl (Or.inl rfl)) (aj (aD (i:=4) nd rfl (Or.inl rfl) (aJ iS (hr.mono (by decide)) rfl ay.pass (aa (pv 4) (aa (pv 3) (aa (pv 5) (aa (pv 0) (aa (pv 2) af (se rfl)) (se rfl)) (se rfl)) (se rfl)) (se rfl)) (he:=se rfl) (hpl:=na rfl)))))
  (ae (aD (i:=6) nd rfl (Or.inr rfl) (Ei j9 T.b8 (pv 4) (hr.mono (by decide)) ay.pass))
  (aj (aI (bT (aa (pv 6) (aa (bE rfl (N:=["board","found","ways","gains","book","part","worths"]) (so:=ab (top 45)) (N':=["place","worth","worths"]) (k:=2) (fr:=[6]) rfl rfl ⟨rfl,by decide +kernel,by decide +kernel,by decide +kernel,rfl,by decide +kernel,by decide +kernel⟩ (jj (K:=K) rfl T.z_zip (aa (pv 0) (aa (pv 6) af (se rfl)) (se rfl))) (λ_ _ _ _ _=>(bU (K:=K) (n:=2) rfl (aM (ax (i:=0) (show(["place","worth","worths"]:List Str).Nodup by decide +kernel) rfl (Or.inl rfl)) (aM (ax (i:=1) (show(["place","worth","worths"]:List Str).Nodup by decide +kernel) rfl (Or.inl rfl)) bR)))) (λ_ _ _ _ _=>bx)
   (λ_ _ _ _ _=>(aJ tT (hr.mono (by decide)) rfl ay.pass (aa (pv 0) (aa (pv 1) (aa (pv 2) af (se rfl)) (se rfl)) (se rfl)) (he:=se rfl) (hpl:=na rfl)))) af (se rfl)) (se rfl))))))))))),?_⟩
  have sl:=sizeLine_eq
  have bl:=B.len
  obtain⟨g0,g1,g2⟩:=B.bot
  have LX:(gT b).length=b.length:=by unfold gT;rw[aab,aab]
  obtain⟨_,xb,e,ha,xR⟩:=aL.mp rb
  cases e
  have lx:=xR.length
  rw[aab] at lx
  change tSeq _ _ _ _ _
  refine aW (λσ' H1=>∃l ps as,Pr.Told b ps/\aq H H1/\H1 l=some (.lst (List.map V.ref as))/\Al (λp v=>∃x,v=.ref x/\H1 x=some (.lst [.int p])) ps (as.map V.ref)/\σ'=[some (.ref a),some (.ref l),none,none,none,none,none]) ?_ (λN hN=>?_)
  case refine_2=>
   simp_all only[zN]
   exact⟨b,rb,rk,B,nH,λl ps as H1 td s1 nl hl al=>hN _ _ ⟨l,ps,as,td,s1,hl,al,rfl⟩⟩
  rintro _ H1 ⟨l,ps,as,td,s1,hl,al,rfl⟩
  have T6:∀(i:Nat) q k,b[i]?=some q->(List.replicate b.length (some (0:Int)))[i]?=some k->qZ q k:=λi q k e ek=>by
   rw[List.eq_of_mem_replicate (aad ek)]
   have:=B.ok q (aad e)
   cases q with
   | fin g=>trivial
   | dO g ws=>trivial
   | cu aR to=>exact⟨aaP _,by have:=this.2.1;omega⟩
  change tSeq _ _ _ _ _
  refine aW (λσ' H2=>∃wl xs,aq H1 H2/\H1 wl=none/\H2 wl=some (.lst xs)/\bj (c7 H2 wl) ((dW b (List.replicate b.length (some (0:Int)))).map rh) xs/\σ'=[some (.ref a),some (.ref l),some (.ref wl),none,none,none,none]) ?_ (λN hN=>?_)
  case refine_2=>
   simp_all only[A7]
   refine⟨by decide,λz nz=>?_⟩
   have s3:=ao (o:=.lst [V.int 0]) nz
   have hz:upd H1 z (.lst [V.int 0]) z=some (.lst [V.int 0]):=ah
   generalize upd H1 z (.lst [V.int 0])=H3 at *
   refine⟨_,(s1.trans s3) _ _ ha,_,hz,by omega,by omega,by rw[aap];show 1*xb.length<=_;omega,λD nD=>?_⟩
   rw[aap,List.flatten_replicate_singleton,<-lx] at *
   have s4:=s3.trans (ao (o:=.lst (List.replicate b.length (V.int 0))) nD)
   have hD:upd H3 D (.lst (List.replicate b.length (V.int 0))) D=some (.lst ((List.replicate b.length (some (0:Int))).map c5)):=by rw[ah,List.map_replicate];rfl
   generalize upd H3 D (.lst (List.replicate b.length (V.int 0)))=H4 at *
   exact⟨a,D,b,_,rfl,rb.mono (s1.trans s4),bl,hD,aaZ,T6,λwl xs H5 s5 nw hw qh=>hN _ _ ⟨wl,xs,s4.trans s5,none_of s4 nw,hw,qh,rfl⟩⟩
  rintro _ H2 ⟨wl,xs,s2,Ii,yq,Ij,rfl⟩
  have T7:aq H1 (c7 H2 wl):=sk s2 Ii
  change tSeq _ _ _ _ _
  refine aW (λσ' H3=>∃gn,aq H2 H3/\mi ar (c7 H3 wl) gn (gT b,gB b)/\σ'=[some (.ref a),some (.ref l),some (.ref wl),some (.ref gn),none,none,none]) ?_ (λN hN=>?_)
  case refine_2=>
   simp_all only[zQ]
   exact⟨b,(rb.mono (s1.trans T7)).mono cX,rk,B,λgn H3 s3 hg=>hN _ _ ⟨gn,s3,Aj hg (s3 _ _ yq) (wq Ij) (Ak Ij B.pos),rfl⟩⟩
  rintro _ H3 ⟨gn,s3,hg,rfl⟩
  change tSeq _ _ _ _ _
  refine aW (λσ' H4=>∃bk,aq H3 H4/\mi ar (c7 H4 wl) bk (List.replicate b.length 0,gB b)/\σ'=[some (.ref a),some (.ref l),some (.ref wl),some (.ref gn),some (.ref bk),none,none]) ?_ (λN hN=>?_)
  case refine_2=>
   simp_all only[ED]
   refine⟨_,hg.mono cX,by show(gT b).length<=60;omega,λbk H4 s4 hb=>hN _ _ ⟨bk,s4,?_,rfl⟩⟩
   have:mi ar H4 bk (List.replicate b.length 0,gB b):=by rw[<-LX];exact hb
   exact Aj this (s4 _ _ (s3 _ _ yq)) (wq Ij) (Ak Ij B.pos)
  rintro _ H4 ⟨bk,s4,hb,rfl⟩
  have jL:=s3.trans s4
  have lp:=zT B td
  have la:=al.length
  rw[aab] at la
  change tSeq _ _ _ _ _
  refine aW (λσ' H5=>aq H1 H5/\∃(bk:Addr) (S:Dg.Bk) (ks:List (Option Int)) (z:Option V),mi ar H5 bk S/\Dg.wa b.length (gB b) b.length S/\ks.length=b.length/\(∀(i:Nat) q k,b[i]?=some q->ks[i]?=some k->qZ q k)/\(∀p:Nat,p<b.length->EqAt b ks p (Dg.val S)/\∀aR to k,b[p]?=some (.cu aR to)->ks[p]?=some k->∀t∈to,jz aR*Dg.val S t<=jz aR*Dg.val S (to.getD (k.getD 0).toNat 0))/\σ'=[some (.ref a),some (.ref l),some (.ref wl),some (.ref gn),some (.ref bk),z,none]) ?_ (λN hN=>?_)
  case refine_2=>
   simp_all only[]
   refine⟨⟨_,aV.of (jL _ _ (s2 _ _ hl))⟩,bH (src_list (K:=K) (a:=l) (xs:=as.map V.ref) (Ok:=λH'=>aq H1 (c7 H' wl)) (λH' s=>aV.of (cX _ _ (s _ _ hl)))) (λi σ H5=>aq H1 (c7 H5 wl)/\∃(bk:Addr) (S:Dg.Bk) (ks:List (Option Int)) (xs:List V) (z:Option V),mi ar (c7 H5 wl) gn (gT b,gB b)/\mi ar (c7 H5 wl) bk S/\H5 wl=some (.lst xs)/\bj (c7 H5 wl) ((dW b ks).map rh) xs/\Dg.wa b.length (gB b) i S/\ks.length=b.length/\(∀(i:Nat) q k,b[i]?=some q->ks[i]?=some k->qZ q k)/\(∀j p:Nat,j<i->ps[j]?=some (p:Int)->EqAt b ks p (Dg.val S)/\∀aR to k,b[p]?=some (.cu aR to)->ks[p]?=some k->∀t∈to,jz aR*Dg.val S t<=jz aR*Dg.val S (to.getD (k.getD 0).toNat 0))/\σ=[some (.ref a),some (.ref l),some (.ref wl),some (.ref gn),some (.ref bk),z,none]) ⟨T7.trans (bP jL),bk,_,_,xs,_,hg.mono (bP s4),hb,jL _ _ yq,Ij.mono (bP jL),Dg.wa.start g0 g1,aaZ,T6,λj p h=>absurd h (aa8 _),rfl⟩ (λ_ _ _ _ h=>h.1) ?_ ?_⟩
   ·rintro i y σ H5 H6 hi ⟨s5,bk,S,ks,xs,z,Mb,FP,Ik,T8,W,lk,pk,ok,rfl⟩ ⟨rfl,ex⟩
    rw[aab] at hi
    obtain⟨p',oO,x,rfl,hx⟩:=al.get ex
    obtain⟨p,ep,hp⟩:=BV B td (i:=i) (by omega)
    rw[ep] at oO
    cases oO
    have e:b[p]?=some b[p]:=aac hp
    have ek:ks[p]?=some ks[p]:=aac (by omega)
    have po:=pk _ _ _ e ek
    simp_all only[]
    refine⟨bk,gn,x,a,wl,S,b,rk,ks,p,i,xs,b[p],ks[p],rfl,FP,Mb,s5 _ _ hx,rb.mono (s1.trans s5),B,Ik,T8,lk,e,ek,po,W,by omega,λx2 k' Xi H7 s7 h7 r7 t7 L3 Xj=>?_⟩
    obtain⟨jK,wg⟩:=kF (B.ok _ (aav hp)) t7
    have d0:0<Dg.tt (fc b[p] k'):=by have:=jK.tt;omega
    have Mc:(ks.set p k')[p]?=some k':=aay (by omega)
    have J6:∀q:Int,0<=q->q≠(p:Int)->Dg.val (Dg.eF (gT b) (gB b) (fc b[p] k') S p) q=Dg.val S q:=λq q0 qn=>Dg.jy d0 W.pos (by omega)
    have T9:∀(i:Nat) q k,b[i]?=some q->(ks.set p k')[i]?=some k->qZ q k:=λj q k e1 e2=>by
     by_cases c:p=j
     ·subst c
      rw[e] at e1
      rw[Mc] at e2
      cases e1
      cases e2
      exact t7
     ·rw[aaA c] at e2
      exact pk j q k e1 e2
    refine⟨s5.trans s7,Mb.mono s7,x2,_,Xj,ks.set p k',Xi,h7,r7,W.step jK g0 (B.top p),by rw[aaz];exact lk,T9,λj p' hj ej=>?_,rfl,_,rfl⟩
    by_cases c:j=i
    ·subst c
     rw[ep] at ej
     cases ej
     refine⟨BS B e Mc t7 W,λaR to k CV u6 t ht=>?_⟩
     rw[Mc] at u6
     cases u6
     have Ua:=CV
     rw[e] at CV
     have Ub:b[p]=.cu aR to:=aax CV
     have bw:=L3 aR to Ub
     have CW:=t7
     rw[Ub] at CW
     cases k' with
     | none=>exact CW.elim
     | some i8=>
      have wo:i8.toNat<to.length:=by have:=CW.1;have:=CW.2;omega
      have mk:to.getD i8.toNat 0∈to:=by rw[aai,aac wo];exact aav wo
      have J7:∀t∈to,0<=t/\t≠(p:Int):=λt ht=>by
       have h1:=B.dn.dn p _ Ua t ht
       have h2:=B.dn.good.jH _ (aad Ua) t ht
       exact⟨h2.1,λz=>by rw[z] at h1;omega⟩
      rw[J6 t (J7 t ht).1 (J7 t ht).2]
      show _<=jz aR*Dg.val (Dg.eF (gT b) (gB b) (fc b[p] (some i8)) S p) (to.getD i8.toNat 0)
      rw[J6 _ (J7 _ mk).1 (J7 _ mk).2,<-Am]
      exact EG W.pos (u7 aR) (bw t ht)
    ·have Il:p≠p':=λz=>c (nX B td (z▸ej) ep)
     obtain⟨o1,o2⟩:=ok j p' (by omega) ej
     have Xk:EqAt b (ks.set p k') p' (Dg.val S):=λq k e1 e2=>by
      rw[aaA Il] at e2
      exact o1 q k e1 e2
     refine⟨zS B e t7 W Il Xk λq' k2 e1 e2=>zU B td T9 ep ej (by omega) e1 e2,λaR to k CV u6 t ht=>?_⟩
     rw[aaA Il] at u6
     have CW:=pk p' _ _ CV u6
     have off:∀t∈to,0<=t/\t≠(p:Int):=λt ht=>by
      have hg:t∈Bf.fH b (p':Int):=by
       unfold Bf.fH
       rw[aap,CV]
       exact ht
      obtain⟨j',lt,e'⟩:=B.dn.ahead td ej hg
      refine⟨(B.dn.good.jH _ (aad CV) t ht).1,λz=>?_⟩
      rw[z] at e'
      have:=nX B td e' ep
      omega
     cases k with
     | none=>exact CW.elim
     | some i8=>
      have wo:i8.toNat<to.length:=by have:=CW.1;have:=CW.2;omega
      have mk:to.getD i8.toNat 0∈to:=by rw[aai,aac wo];exact aav wo
      rw[J6 t (off t ht).1 (off t ht).2]
      show _<=jz aR*Dg.val (Dg.eF (gT b) (gB b) (fc b[p] k') S p) (to.getD i8.toNat 0)
      rw[J6 _ (off _ mk).1 (off _ mk).2]
      exact o2 aR to (some i8) CV u6 t ht
   ·rintro σ H5 ⟨s5,bk,S,ks,xs,z,Mb,FP,Ik,T8,W,lk,pk,ok,rfl⟩
    rw[aab,la,lp] at W ok
    refine hN _ _ ⟨s5.trans cX,bk,S,ks,z,FP.mono cX,W,lk,pk,λp hp=>?_,rfl⟩
    have mp:(p:Int)∈ps:=(B.dn.pm td).mem_iff.mpr (List.mem_map.mpr ⟨p,List.mem_range.mpr hp,rfl⟩)
    obtain⟨j,ej⟩:=aam mp
    exact ok j p (by have:=(List.getElem?_eq_some_iff.mp ej).1;omega) ej
  rintro _ H5 ⟨s5,bk,S,ks,z,FP,W,lk,pk,ok,rfl⟩
  have W0:=W.pos
  have bB:Bt 4000 S.2:=W.bb.mono (by omega)
  have Xl:=W.len
  have lv:∀q:Int,0<=q->q< (b.length:Int)->Dg.vl (Wq.bX (S.1.map λt=>Wq.low t S.2) q)=Dg.val S q:=λq q0 q1=>BU W0 q (by omega)
  have bq:∀p,o5 b p λi=>Dg.vl (Wq.bX (S.1.map λt=>Wq.low t S.2) i):=λp q e=>by
   have hp:=(List.getElem?_eq_some_iff.mp e).1
   have ek:ks[p]?=some ks[p]:=aac (by omega)
   obtain⟨o1,o2⟩:=ok p hp
   have e1:=o1 q _ e ek
   have po:=pk p q _ e ek
   have rg:=B.dn.good.jH _ (aad e)
   have pq:=B.ok _ (aad e)
   generalize ks[p]=k at *
   cases q with
   | fin g=>
    show Dg.vl (Wq.bX _ (p:Int))=Dg.vl g
    rw[lv _ (by omega) (by omega),e1]
    exact T5 _
   | dO g ws=>
    show Dg.vl (Wq.bX _ (p:Int))=Dg.vl g+Dg.iR (Dg.tt ws) _ ws
    rw[lv _ (by omega) (by omega),e1]
    show Dg.vl g+Dg.iR (Dg.tt ws) (Dg.val S) ws=_
    congr 1
    exact Dg.cU λx hx=>(lv _ (rg _ (List.mem_map.mpr ⟨x,hx,rfl⟩)).1 (rg _ (List.mem_map.mpr ⟨x,hx,rfl⟩)).2).symm
   | cu aR to=>
    cases k with
    | none=>exact po.elim
    | some i8=>
     have wo:i8.toNat<to.length:=by have:=po.1;have:=po.2;omega
     have mk:to.getD i8.toNat 0∈to:=by rw[aai,aac wo];exact aav wo
     have ev:Dg.val S (p:Int)=Dg.val S (to.getD i8.toNat 0):=e1.trans (Xf _ _)
     refine⟨⟨_,mk,?_⟩,λt ht=>?_⟩
     ·show Dg.vl (Wq.bX _ (p:Int))=Dg.vl (Wq.bX _ _)
      rw[lv (p:Int) (by omega) (by omega),lv _ (rg _ mk).1 (rg _ mk).2,ev]
     ·show jz aR*Dg.vl (Wq.bX _ t)<=jz aR*Dg.vl (Wq.bX _ (p:Int))
      rw[lv (p:Int) (by omega) (by omega),lv t (rg t ht).1 (rg t ht).2,ev]
      exact o2 aR to (some i8) e ek t ht
  change tSeq _ _ _ _ _
  refine aW (λσ' H6=>∃l6,aq H5 H6/\Rep H6 (.lst ((S.1.map λt=>Wq.low t S.2).map bf)) (.ref l6)/\σ'=[some (.ref a),some (.ref l),some (.ref wl),some (.ref gn),some (.ref bk),z,some (.ref l6)]) ?_ (λN hN=>?_)
  case refine_2=>
   simp_all only[ph]
   obtain⟨dx,m,hx,hm⟩:=id FP
   exact⟨_,_,hx,HS,bk,S,rfl,FP,W0,bB.mono (by decide),by omega,λl6 H6 s6 n6 r6=>hN _ _ ⟨l6,s6,r6,rfl⟩⟩
  rintro _ H6 ⟨l6,s6,r6,rfl⟩
  have Im:(S.1.map λt=>Wq.low t S.2).length=b.length:=by rw[aab];exact Xl
  have Fc:∀x∈S.1.map λt=>Wq.low t S.2,Wq.Lw x/\Bt 5000 x.2:=λx hx=>by
   obtain⟨t,_,rfl⟩:=List.mem_map.mp hx
   exact EE W0 bB
  generalize (S.1.map λt=>Wq.low t S.2)=ss at *
  obtain⟨_,us,e,JW,ru⟩:=aL.mp r6
  cases e
  have lu:=ru.length
  rw[aab] at lu
  have J8:=s1.trans (s5.trans s6)
  simp_all only[]
  refine⟨⟨_,aV.of (J8 _ _ ha)⟩,⟨_,aV.of JW⟩,?_⟩
  have Ig:∀{i:Nat},i<b.length->ss[i]?=some (Wq.bX ss (i:Int)):=λ{i} hi=>by
   unfold Wq.bX
   rw[aap,aai,aac (by omega)]
   rfl
  refine g5 (K:=K) (lZ (λH' s'=>aV.of (s' _ _ (J8 _ _ ha))) (λH' s'=>aV.of (s' _ _ JW))) (λi u v _=>∃q x,b[i]?=some q/\Rep H (oJ q) u/\v=.ref x/\H6 x=some (.tup (Pr (Wq.bX ss (i:Int)).1 (Wq.bX ss (i:Int)).2))) ?_ (by omega) (λi y H'=>∀q,b[i]?=some q->y=c5 (AK ss i q)) (λ_ _ _ _ _ h=>h) ?_ ?_
  ·rintro i v H7 H8 hi s7 ⟨t,x,y,nt,rfl,ex,ey,rfl⟩
   obtain⟨q,eq,rq⟩:=d7 xR ex
   have oU:=(List.getElem?_eq_some_iff.mp eq).1
   obtain⟨px,J9,Md⟩:=cf ru (Ig oU)
   rw[ey] at J9
   cases J9
   exact⟨ao nt,t,_,_,rfl,dR.of ah,q,px,eq,rq,rfl,Md⟩
  ·rintro i u v H7 Q2 hi s7 ⟨q,x,eq,rq,rfl,hx⟩ kq
   have oU:=(List.getElem?_eq_some_iff.mp eq).1
   simp_all only[]
   refine⟨u,x,l6,q,b.length,i,ss,rfl,rq.mono (J8.trans s7),B.ok _ (aad eq),Im,oU,s7 _ _ hx,r6.mono s7,λaR to e=>?_,λH8 s8=>kq _ _ s8 λq' e'=>?_⟩
   ·subst e
    obtain⟨⟨t,mt,et⟩,_⟩:=bq i _ eq
    have rg:=B.dn.good.jH _ (aad eq) t mt
    refine⟨t,mt,Dg.qP (Fc _ (aad (Ig oU))).1 (Fc _ ?_).1 et⟩
    have:=Ig (i:=t.toNat) (by omega)
    rw[abp rg.1] at this
    exact aad this
   ·rw[eq] at e'
    cases e'
    rfl
  ·intro ys H7 s7 ly hy D n1 n2
   have Xm:ys=((List.range b.length).map λi=>AK ss i (b.getD i (.fin (0,1)))).map c5:=by
    apply aa3
    intro i
    by_cases hi:i<b.length
    ·have ey:ys[i]?=some ys[i]:=aac (by omega)
     rw[ey,hy i _ ey _ (aac hi),aaf,aaf,abl hi]
     simp [aai,aac hi]
    ·rw[aat (by omega),aat (by rw[aab,aab,aaE];omega)]
   have sD:=ao (o:=.lst ys) n2
   have hD:upd H7 D (.lst ys) D=some (.lst ys):=ah
   generalize upd H7 D (.lst ys)=H8 at *
   refine⟨by decide,λt H9 s9 n9 h9=>kk t l6 D ss _ H9 (J8.trans (s7.trans (sD.trans s9))) h9 (r6.mono (s7.trans (sD.trans s9))) (by rw[s9 _ _ hD,Xm]) Im (by rw[aab,aaE]) Fc bq λp q e=>?_⟩
   have hp:=(List.getElem?_eq_some_iff.mp e).1
   rw[aaf,abl hp]
   simp [aai,e]
theorem Io {s:List Nat} {b:List Pl} (pm:s.Perm (List.range s.length)) (l0:0<s.length) (Me:s.length<=60) (lb:b.length=s.length) (ok:∀(k:Nat) p q,s[k]?=some p->b[p]?=some q->z0 s k q):tK b (λg=>s.idxOf g.toNat):=by
 have at_:∀{q:Pl},q∈b->∃k p,s[k]?=some p/\b[p]?=some q:=λhq=>by
  obtain⟨p,ep⟩:=aam hq
  have hp:=(List.getElem?_eq_some_iff.mp ep).1
  obtain⟨k,ek⟩:=aam (pm.mem_iff.mpr (List.mem_range.mpr (by omega:p<s.length)))
  exact⟨k,p,ek,ep⟩
 have Ka:∀q∈b,AJ b.length q:=λq hq=>by
  obtain⟨k,p,ek,ep⟩:=at_ hq
  rw[lb]
  exact(ok k p q ek ep).1
 refine⟨by omega,by omega,Ka,⟨⟨λq hq g hg=>?_,λq hq w to e=>?_⟩,λi q e g hg=>?_,λq hq g ws e=>?_⟩⟩
 ·have:=Ka q hq
  cases q with
  | fin w=>simp [Lv.eO] at hg
  | dO w ws=>
   obtain⟨x,hx,rfl⟩:=List.mem_map.mp hg
   exact(this.2.2.2 x hx).2.2
  | cu w to=>exact this.2.2.2 g hg
 ·subst e
  have:=(Ka _ hq).2.1
  exact λz=>by rw[z] at this;cases this
 ·have hi:=(List.getElem?_eq_some_iff.mp e).1
  obtain⟨k,ek⟩:=aam (pm.mem_iff.mpr (List.mem_range.mpr (by omega:i<s.length)))
  obtain⟨j,jk,ej,_⟩:=(ok k i q ek e).2 g hg
  show s.idxOf g.toNat<s.idxOf ((i:Int)).toNat
  rw[aap,Lv.yY pm ej,Lv.yY pm ek]
  exact jk
 ·subst e
  have:=(Ka _ hq).2.1
  exact λz=>by rw[z] at this;cases this
theorem Ip {L W M w:Int} {y:Wq.Sh} (hy:0<y.2) (L0:0<L) (W0:0<W) (dy:y.2∣L) (w0:0<=w) (w1:w<=W) (M0:0<=M) (v:Wq.Vb M y):Wq.Vb M (Wq.tm (Wq.low w W) y):=by
 obtain⟨t1,t2,t3⟩:=Wq.CK (w:=w) hy L0 W0 dy
 refine(Wq.tu t1.1 (aaC L0 W0) t2).mpr ?_
 obtain⟨c1,c2⟩:=(Wq.tu hy L0 dy).mp v
 have ml:0<=M*L:=Int.mul_nonneg M0 (by omega)
 have m1:=Int.mul_le_mul_of_nonneg_left c1 w0
 have m2:=Int.mul_le_mul_of_nonneg_left c2 w0
 have m3:=abq w1 ml
 rw[Int.mul_neg] at m1
 have e:M* (L*W)=W* (M*L):=by rw[<-aaV,aaS (M*L) W]
 rw[t3,e]
 omega
theorem Iq {M N:Int} {x:Wq.Sh} (h:Wq.Vb M x) (l:M<=N) (x0:0<x.2):Wq.Vb N x:=by
 have:=abq l (show 0<=x.2 by omega)
 unfold Wq.Vb at h ⊢
 omega
noncomputable def Sz (Z M:Int) (x:Wq.Sh):Prop:=Wq.Lw x/\x.2∣Z/\Wq.Vb M x
theorem Sz.rm {Z M:Int} {x:Wq.Sh} (h:Sz Z M x) (Z0:0<Z) (bZ:Bt 1900 Z) (M0:0<=M) (bM:Bt 1900 M):Rm x:=by
 obtain⟨lx,d,v⟩:=h
 have l0:=lx.1
 have b2:Bt 1900 x.2:=bZ.le (by have:=aa1 Z0 d;omega)
 have b1:Bt 3800 (M*x.2):=bM.mul b2
 exact⟨Bt.mono (b1.le (by obtain⟨v1,v2⟩:=v;omega)) (by decide),b2.mono (by decide),l0⟩
theorem Sz.up {Z Z' M M':Int} {x:Wq.Sh} (h:Sz Z M x) (hZ:Z∣Z') (hM:M<=M'):Sz Z' M' x:=⟨h.1,Int.dvd_trans h.2.1 hZ,Iq h.2.2 hM h.1.1⟩
theorem Sz.acc {Z M N d w:Int} {x y:Wq.Sh} (hx:Sz (Z*d) N x) (hy:Sz Z M y) (Z0:0<Z) (d0:0<d) (w0:0<=w) (w1:w<=d) (M0:0<=M):Sz (Z*d) M (Wq.tm (Wq.low w d) y)/\Sz (Z*d) (N+M) (Wq.pl x (Wq.tm (Wq.low w d) y)):=by
 have Zd:0<Z*d:=aaC Z0 d0
 obtain⟨t1,t2,t3⟩:=Wq.CK (w:=w) hy.1.1 Z0 d0 hy.2.1
 have tv:=Ip hy.1.1 Z0 d0 hy.2.1 w0 w1 M0 hy.2.2
 obtain⟨p1,p2,p3⟩:=Wq.Hc hx.1.1 t1.1 Zd hx.2.1 t2
 refine⟨⟨t1,t2,tv⟩,p1,p2,(Wq.tu p1.1 Zd p2).mpr ?_⟩
 have a1:=(Wq.tu hx.1.1 Zd hx.2.1).mp hx.2.2
 have a2:=(Wq.tu t1.1 Zd t2).mp tv
 rw[p3,Int.add_mul]
 omega
theorem Fd {w d:Int} (w0:0<=w) (w1:w<=9) (d0:0<d) (d1:d<=9):Rm (Wq.low w d):=by
 have g0:0<Nm.g w d:=Nm.mT (by omega)
 have q1:=Nm.dz (a:=w) g0 (Nm.jf w d)
 have q2:=Nm.dz (a:=d) g0 (Nm.eB w d)
 have e1:(Wq.low w d).1=w / Nm.g w d:=(Nm.iI d0).1
 have e2:(Wq.low w d).2=d / Nm.g w d:=(Nm.iI d0).2
 have lw:=Wq.dJ (a:=w) d0
 exact⟨Bt.mono (m:=4) (Bt.of 9 (by omega) (by omega)) (by decide),Bt.mono (m:=4) (Bt.of 9 (by omega) (by omega)) (by decide),lw.1⟩
noncomputable def Sb (n i:Nat) (ss:List Wq.Sh) (Z M:Int):Prop:=ss.length=n/\0<Z/\12∣Z/\Bt (4*i+4) Z/\6<=M/\Bt (2*i+3) M/\∀x∈ss,Sz Z M x
theorem Sb.next {n i:Nat} {ss Cd:List Wq.Sh} {Z M d:Int} (h:Sb n i ss Z M) (d0:1<=d) (d1:d<=9) (l:Cd.length=n) (hs:∀x∈Cd,Sz (Z*d) (4*M) x):Sb n (i+1) Cd (Z*d) (4*M):=by
 obtain⟨h1,h2,h3,h4,h5,h6,h7⟩:=h
 refine⟨l,aaC h2 (by omega),Int.dvd_trans h3 (Int.dvd_mul_right _ _),?_,by omega,?_,hs⟩
 ·have:=Dg.Bt.Ex h4 d0 d1
  rw[show 4* (i+1)+4=4*i+4+4 by omega]
  exact this
 ·unfold Bt at h6 ⊢
  have:2^ (2* (i+1)+3)=2^ (2*i+3)*4:=by rw[show 2* (i+1)+3=2*i+3+2 by omega,Nat.pow_add]
  omega
theorem oA {ss:List Wq.Sh} {p:Nat} {x:Wq.Sh} (h:p<ss.length):Wq.bX (ss.set p x) (p:Int)=x:=by
 unfold Wq.bX
 rw[aap,aai,aay h]
 rfl
theorem fU {ss:List Wq.Sh} {p:Nat} {q:Int} {x:Wq.Sh} (h:p≠q.toNat):Wq.bX (ss.set p x) q=Wq.bX ss q:=by
 unfold Wq.bX
 rw[aai,aai,aaA h]
theorem oB {ss:List Wq.Sh} {q:Int} (h0:0<=q) (h:q< (ss.length:Int)):ss[q.toNat]?=some (Wq.bX ss q):=by
 unfold Wq.bX
 rw[aai,aac (show q.toNat<ss.length by omega)]
 rfl
theorem Ce {ss:List Wq.Sh} (h:∀x∈ss,0<x.2) (q:Int):0< (Wq.bX ss q).2:=by
 unfold Wq.bX
 rw[aai]
 cases e:ss[q.toNat]? with
 | none=>exact Int.one_pos
 | some x=>exact h x (aad e)
theorem Ao {b:List Pl} {rk:Int->Nat} {ks:List (Option Int)} {ss:List Wq.Sh} {p:Nat} {q:Pl} {k:Option Int} (B:tK b rk) (e:b[p]?=some q) (ek:ks[p]?=some k) (po:qZ q k) (l:p<ss.length) (h:∀x∈ss,0<x.2):
  EqAt b ks p λi=>Dg.vl (Wq.bX (ss.set p (Wq.kT (Dg.tt (fc q k)) (Wq.bX ss) (Wq.cA q) (fc q k))) i):=by
 intro q' k' e' u6
 rw[e] at e'
 rw[ek] at u6
 cases e'
 cases u6
 obtain⟨jK,_⟩:=kF (B.ok _ (aad e)) po
 have d0:0<Dg.tt (fc q k):=by have:=jK.tt;omega
 show Dg.vl (Wq.bX (ss.set p (Wq.kT (Dg.tt (fc q k)) (Wq.bX ss) (Wq.cA q) (fc q k))) (p:Int))=_
 rw[oA l,(Dg.v8 d0 (hU (B.ok _ (aad e))).2.2.2.1 λx _=>Ce h _).2]
 congr 1
 refine Dg.cU λx hx=>?_
 have:=B.off e po x hx
 have:=(jK.2 x hx).2.2.1
 rw[fU (by omega)]
theorem jD:aH ["_law_script","_law_k","_law_number"] ["_law_script","_law_k"] (ab (top 47)):=⟨rfl,rfl,rfl,by decide +kernel,rfl,by decide +kernel,by decide +kernel⟩
theorem wx (T:Txt K mg ar tc):bO P w K mg base (bK P w) 1 "_law_cell" ["_law_script","_law_k"] (FI K):=by
 refine T.tD.dX (λ_ _ _ _ _ _=>d9 λ_ _=>rfl) λf fd F=>F.d5 jD (λvs H Q E h=>?_) (λcn A outer s H vs Q E hr h=>?_)
 ·obtain⟨_,_,_,rfl,_⟩:=h;rfl
 ·obtain⟨a,ns,k,rfl,hS,k0,k1,kk⟩:=h
  have nd:=jD.nd
  refine⟨_,(ae (bN (aO rM (pv 1) (aK (iL (K:=K)) (by rfl) T.z_len aau (aa (pv 0) af (se rfl)) (he:=se rfl) (hpl:=na rfl)) (aQ _)) (aj (aI (aw (pL (K:=K)) (pv 0) (pv 1) (λ_ _=>rfl))))
   ba)
  (ae (aD (i:=2) nd rfl (Or.inl rfl) (aG cb (aG aX (pv 1) ag) ag))
  (ae (bN (aO ik (aK (iL (K:=K)) (by rfl) T.z_len aau (aa (pv 0) af (se rfl)) (he:=se rfl) (hpl:=na rfl)) ag (aQ _)) (aj (aD (i:=2) nd rfl (Or.inl rfl) (aG cb (aG aX (aG cO (aw (pL (K:=K)) (pv 0) (aG cO (aG aX (pv 1) ag) (aK (iL (K:=K)) (by rfl) T.z_len aau (aa (pv 0) af (se rfl)) (he:=se rfl) (hpl:=na rfl))) (λ_ _=>rfl)) ag) ag) (aG aX (aG aX (pv 1) (pv 1)) ag))))
   ba)
  (aj (aI (aG cO (aG aX (pv 2) (pv 2)) ag)))))),?_⟩
  simp_all only[DF]
  have j2:k*k<=1000000:=Int.le_trans (Int.mul_le_mul (show k<=1000 by omega) (show k<=1000 by omega) k0 (by decide)) (by decide)
  have j3:0<=k*k:=Int.mul_nonneg k0 k0
  refine⟨ns,hS,oR (λc=>⟨ns,hS,k0,c,kk _⟩) (λc=>⟨gH (by omega) (by omega),ns,hS,oR (λz=>?_) (λz=>?_)⟩)⟩
  ·have m1:=Int.emod_nonneg (ns.getD (k*5 % (ns.length:Int)).toNat 0) (show(2147483647:Int)≠0 by decide)
   have m2:=Int.emod_lt_of_pos (ns.getD (k*5 % (ns.length:Int)).toNat 0) (show(0:Int)<2147483647 by decide)
   exact⟨gH (by omega) (by omega),ns,hS,z,ns,hS,Int.emod_nonneg _ (by omega),Int.emod_lt_of_pos _ z,by decide,qr,gH (by omega) (by omega),gH (by omega) (by omega),gH (by omega) (by omega),by decide,kk _⟩
  ·exact⟨gH (by omega) (by omega),by decide,kk _⟩
theorem iC:aH ["_law_cell_here","_law_many"] ["_law_cell_here","_law_many"] (ab (top 48)):=⟨rfl,rfl,rfl,by decide +kernel,rfl,by decide +kernel,by decide +kernel⟩
theorem Ap (T:Txt K mg ar tc):bO P w K mg base (bK P w) 1 "_law_mixed" ["_law_cell_here","_law_many"] nY:=by
 refine T.qJ.dX (λ_ _ _ _ _ _=>d9 λ_ _=>rfl) λf fd F=>F.d5 iC (λvs H Q E h=>?_) (λcn A outer s H vs Q E hr h=>?_)
 ·obtain⟨_,_,rfl,_⟩:=h;rfl
 ·obtain⟨c,m,rfl,m0,kk⟩:=h
  have nd:=iC.nd
  refine⟨_,(aj (aI (aG cO (aG dt (aG cO (aG aX (aG cO (pv 0) (aG qk ag ag)) ag) (aG qk ag ag)) (aG qk ag ag)) (pv 1)))),?_⟩
  simp_all only[]
  have h1:=Int.emod_nonneg c (show((2:Int)^64)≠0 by decide)
  have h2:=Int.emod_lt_of_pos c (show(0:Int)<2^64 by decide)
  exact⟨by decide,by decide,by decide,by decide,gH (by omega) (by omega),by decide,by decide,by decide,by decide,by decide,by decide,by decide,eU.lit,m0,kk _ (Int.emod_nonneg _ (by omega)) (Int.emod_lt_of_pos _ m0)⟩
theorem kJ:aH ["_law_top","_law_bottom","_law_one","_law_other"] ["_law_top","_law_bottom"] (ab (top 49)):=⟨rfl,rfl,rfl,by decide +kernel,rfl,by decide +kernel,by decide +kernel⟩
theorem oC (T:Txt K mg ar tc):bO P w K mg base (bK P w) 1 "_law_low" ["_law_top","_law_bottom"] gO:=by
 refine T.uZ.dX (λ_ _ _ _ _ _=>d9 λ_ _=>rfl) λf fd F=>F.d5 kJ (λvs H Q E h=>?_) (λcn A outer s H vs Q E hr h=>?_)
 ·obtain⟨_,_,rfl,_⟩:=h;rfl
 ·obtain⟨a,b,rfl,b0,bb,k⟩:=h
  have nd:=kJ.nd
  refine⟨_,(ae (aD (i:=2) nd rfl (Or.inl rfl) (aK mN (by rfl) T.z_abs rfl (aa (pv 0) af (se rfl)) (he:=se rfl) (hpl:=na rfl)))
  (ae (aD (i:=3) nd rfl (Or.inl rfl) (pv 1))
  (ae (gF PassesOwn.never (aO ik (pv 3) ag (aQ _)) (aj (Dj (i:=2) (j:=3) rfl nd rfl rfl (by decide) rfl rfl (aa (pv 3) (aa (aG cO (pv 2) (pv 3)) af (se rfl)) (se rfl)) rfl)))
  (aj (aI (bT (aa (aG dt (pv 0) (pv 2)) (aa (aG dt (pv 1) (pv 2)) af (se rfl)) (se rfl)))))))),?_⟩
  simp_all only[]
  refine rK (λσ H1=>H1=H/\∃x y:Int,σ=[some (.int a),some (.int b),some (.int x),some (.int y)]/\0<=x/\0<=y/\Nm.g x y=Nm.g a b) (λσ _=>match σ with | [_,_,_,some (.int y)]=>y.toNat | _=>0) ?_ ?_ ?_
  ·refine⟨rfl,_,_,rfl,?_,by omega,?_⟩
   ·split <;>omega
   ·rw[show(if a<0 then -a else a)=(a.natAbs:Int) by split <;>omega,Nm.yA]
  ·rintro σ H1 ⟨rfl,x,y,rfl,x0,y0,e⟩
   simp_all only[]
   refine oR (λc=>?_) (λc=>?_)
   ·refine⟨c,y0,Int.emod_nonneg _ (by omega),by rw[Nm.yB x0 c,e],?_⟩
    have:=Int.emod_lt_of_pos x c
    have:=Int.emod_nonneg x (show y≠0 by omega)
    omega
   ·have z:y=0:=by omega
    subst z
    rw[Nm.yC x0] at e
    rw[e]
    have g0:0<Nm.g a b:=Nm.mT (by omega)
    have gb:Bt 8900 (Nm.g a b):=bb.le (by have:=Nm.DJ (a:=a) b0;omega)
    obtain⟨e1,e2⟩:=Nm.iI (a:=a) b0
    rw[e1,e2] at k
    exact⟨eU.of g0 gb,eU.of g0 gb,by decide,λp H2 s1 n1 e=>k p H2 s1 n1 e⟩
  ·intro σ H1 Q1 Q2 hq hc
   simp only[L2.start,Pr,tRev,tLR,tMaxD,tSortR,tD1,tDPop1,tSl,tNoPart,tPart,rSlL,tDIn,tDNotIn,gSub,rSetL,tLst,tDNewK,tComp,L2.stC,tFor_eq,iList,iTup,iRng1,iRng2,iZip,iEnum,iDict,iStr,tChain,tSumV,tBM,rJoin,tJoined,jNil,jLit,jInt,jStr,tRaise,tDGet,tDGet2,tDGet1,sDPut,Option.join_some,List.getElem?_nil,tSeq,tRet,tRetN,tIfS,tTest,tB,tOp,tUn,tVar,tC,tCB,tCons,tNil,tCall,tTupS,tAsg,gName,gNil,gCons,tPar,tNext,tDrop,tAnd,tOr,tNot,tAndV,tOrV,tNotV,tIf,rI,rI0,rU,rIxTH,rIxLH,rEqT,rNeT,rInT,rEq,rNe,scal,CPow,at0,at1,at2,aao,aaR,aaw,List.length_nil,Nat.reduceSub,Nat.reduceAdd,aaG,abm,List.reduceReplicate,aaL,aa7,List.cons_append,abi,abh,aba,abb,abj,exists_eq_left',exists_eq_left,V.ref.injEq,V.int.injEq,V.bl.injEq,V.str.injEq,V.ty.injEq,HO.tup.injEq,HO.lst.injEq,List.cons.injEq,and_true,true_and,and_assoc,exists_and_left,decide_eq_true_eq,Bool.not_eq_true',decide_eq_false_iff_not,ite_true,ite_false,if_true,if_false,Int.reduceToNat,eq_self_iff_true] at hc ⊢
   obtain⟨v,e1,i,e2,q⟩:=hc
   exact⟨v,e1,i,e2,hq _ _ q⟩
theorem jE:aH ["_law_one","_law_other"] ["_law_one","_law_other"] (ab (top 50)):=⟨rfl,rfl,rfl,by decide +kernel,rfl,by decide +kernel,by decide +kernel⟩
theorem Fe (T:Txt K mg ar tc):bO P w K mg base (bK P w) 2 "_law_plus" ["_law_one","_law_other"] zW:=by
 have cC:bO P w K mg base (bK P w) 1 "_law_low" ["_law_top","_law_bottom"] gO:=oC T
 refine T.tE.dX (λ_ _ _ _ _ _=>d9 λ_ _=>rfl) λf fd F=>F.d5 jE (λvs H Q E h=>?_) (λcn A outer s H vs Q E hr h=>?_)
 ·obtain⟨_,_,_,_,rfl,_⟩:=h;rfl
 ·obtain⟨p,q,a,b,rfl,hp,hq,ga,gb,k⟩:=h
  have nd:=jE.nd
  refine⟨_,(aj (aI (aJ cC (hr.mono (by decide)) rfl ay.pass (aa (aG cb (aG aX (aw aA (pv 0) ag (λ_ _=>rfl)) (aw aA (pv 1) ag (λ_ _=>rfl))) (aG aX (aw aA (pv 1) ag (λ_ _=>rfl)) (aw aA (pv 0) ag (λ_ _=>rfl)))) (aa (aG aX (aw aA (pv 0) ag (λ_ _=>rfl)) (aw aA (pv 1) ag (λ_ _=>rfl))) af (se rfl)) (se rfl)) (he:=se rfl) (hpl:=na rfl)))),?_⟩
  simp only[Pr] at hp hq
  simp_all only[gO,hp,hq]
  refine⟨ga.1.cV gb.2.1,gb.1.cV ga.2.1,ga.2.1.cV gb.2.1,?_⟩
  exact⟨aaC ga.2.2 gb.2.2,(ga.2.1.mul gb.2.1).mono (by decide),λr H' s' n' e=>k r H' s' n' e⟩
theorem iD:aH ["_law_one","_law_other"] ["_law_one","_law_other"] (ab (top 51)):=⟨rfl,rfl,rfl,by decide +kernel,rfl,by decide +kernel,by decide +kernel⟩
theorem Ff (T:Txt K mg ar tc):bO P w K mg base (bK P w) 2 "_law_times" ["_law_one","_law_other"] zX:=by
 have cC:bO P w K mg base (bK P w) 1 "_law_low" ["_law_top","_law_bottom"] gO:=oC T
 refine T.qK.dX (λ_ _ _ _ _ _=>d9 λ_ _=>rfl) λf fd F=>F.d5 iD (λvs H Q E h=>?_) (λcn A outer s H vs Q E hr h=>?_)
 ·obtain⟨_,_,_,_,rfl,_⟩:=h;rfl
 ·obtain⟨p,q,a,b,rfl,hp,hq,ga,gb,k⟩:=h
  have nd:=iD.nd
  refine⟨_,(aj (aI (aJ cC (hr.mono (by decide)) rfl ay.pass (aa (aG aX (aw aA (pv 0) ag (λ_ _=>rfl)) (aw aA (pv 1) ag (λ_ _=>rfl))) (aa (aG aX (aw aA (pv 0) ag (λ_ _=>rfl)) (aw aA (pv 1) ag (λ_ _=>rfl))) af (se rfl)) (se rfl)) (he:=se rfl) (hpl:=na rfl)))),?_⟩
  simp only[Pr] at hp hq
  simp_all only[gO,hp,hq]
  refine⟨ga.1.cV gb.1,ga.2.1.cV gb.2.1,?_⟩
  exact⟨aaC ga.2.2 gb.2.2,(ga.2.1.mul gb.2.1).mono (by decide),λr H' s' n' e=>k r H' s' n' e⟩
theorem ft:aH ["_law_found","_law_number"] ["_law_found"] (ab (top 52)):=⟨rfl,rfl,rfl,by decide +kernel,rfl,by decide +kernel,by decide +kernel⟩
theorem Ir (T:Txt K mg ar tc):bO P w K mg base (bK P w) 2 "_law_is_share" ["_law_found"] EI:=by
 have cC:bO P w K mg base (bK P w) 1 "_law_low" ["_law_top","_law_bottom"] gO:=oC T
 refine T.lB.dX (λ_ _ _ _ _ _=>iQ λ_=>rfl) λf fd F=>F.d5 ft (λvs H Q E h=>?_) (λcn A outer s H vs Q E hr h=>?_)
 ·obtain⟨_,_,_,rfl,_⟩:=h;rfl
 ·obtain⟨p,x,y,rfl,hp,y0,Xn,g1,k⟩:=h
  have nd:=ft.nd
  refine⟨_,(ae (bN (PW.pt (pw_or (mG (fu (aK (dZ (K:=K)) (by rfl) T.z_isinstance rfl (aa (pv 0) (aa (gX (v:=V.ty "tuple") rfl T.z_tuple rfl rfl) af (se rfl)) (se rfl)) (he:=se rfl) (hpl:=na rfl)))) (pw_or1 (aO mK (aK pJ (by rfl) T.z_len aau (aa (pv 0) af (se rfl)) (he:=se rfl) (hpl:=na rfl)) ag (aQ _))))) (aj (aI rH))
   ba)
  (ae (b9 PassesOwn.never rfl (Bq (K:=K) (pv 0)) (ax (i:=1) nd rfl (Or.inl rfl)) (aj (bN (PW.pt (pw_or (mG (fu (aK (dZ (K:=K)) (by rfl) T.z_isinstance rfl (aa (pv 1) (aa (gX (v:=V.ty "int") rfl T.z_int rfl rfl) af (se rfl)) (se rfl)) (he:=se rfl) (hpl:=na rfl)))) (pw_or1 (fu (aK (dZ (K:=K)) (by rfl) T.z_isinstance rfl (aa (pv 1) (aa (gX (v:=V.ty "bool") rfl T.z_bool rfl rfl) af (se rfl)) (se rfl)) (he:=se rfl) (hpl:=na rfl)))))) (aj (aI rH))
   ba)))
  (aj (aI (qe (dS ik (aw aA (pv 0) ag (λ_ _=>rfl)) ag (aQ _)) (uc (dS (xc hr.ye) (aJ cC (hr.mono (by decide)) rfl ay.pass (aa (aw aA (pv 0) ag (λ_ _=>rfl)) (aa (aw aA (pv 0) ag (λ_ _=>rfl)) af (se rfl)) (se rfl)) (he:=se rfl) (hpl:=na rfl)) (pv 0) (aQ _)))))))),?_⟩
  simp only[Pr] at hp
  simp_all only[hp]
  refine⟨_,eP.tup hp,_,yv,?_⟩
  rw[if_neg (by decide)]
  refine⟨⟨_,dR.of hp⟩,AW (K:=K) (a:=p) (xs:=[V.int x,V.int y]) (λi σ H2=>H2=H/\∃v,σ=[some (.ref p),v]) ⟨rfl,_,rfl⟩ (λi σ H2 _ ⟨e,_⟩=>by rw[e];exact dR.of hp) ?_ ?_⟩
  ·rintro i z σ H2 hi ⟨rfl,v,rfl⟩
   obtain⟨j,rfl⟩:∃j,z=V.int j:=by
    match i,hi with
    | 0,hi=>exact⟨x,by simpa using hi.symm⟩
    | 1,hi=>exact⟨y,by simpa using hi.symm⟩
   simp_all only[]
   refine⟨_,eP.int j,_,DG,?_⟩
   rw[if_neg (by decide)]
   refine⟨_,eP.int j,_,DH,?_⟩
   rw[if_neg (by decide)]
   exact⟨_,rfl⟩
  ·rintro σ H2 ⟨rfl,v,rfl⟩
   simp_all only[hp,gO]
   have e1:Nm.st x y=x:=by rw[(Nm.iI y0).1,g1,Int.ediv_one]
   have e2:Nm.sb x y=y:=by rw[(Nm.iI y0).2,g1,Int.ediv_one]
   rw[e1,e2,if_pos y0]
   exact⟨y0,Xn.mono (by decide),λp1 H3 s3 n3 h3=>⟨_,h3,_,s3 _ _ hp,rfl,rfl,by rw[yz];exact k _ s3⟩⟩
theorem eh:aH ["_law_found","_law_many"] ["_law_found","_law_many"] (ab (top 53)):=⟨rfl,rfl,rfl,by decide +kernel,rfl,by decide +kernel,by decide +kernel⟩
theorem Fg (T:Txt K mg ar tc):bO P w K mg base (bK P w) 3 "_law_are_shares" ["_law_found","_law_many"] zZ:=by
 have lJ:bO P w K mg base (bK P w) 2 "_law_is_share" ["_law_found"] EI:=Ir T
 refine T.js.dX (λ_ _ _ _ _ _=>d9 λ_ _=>rfl) λf fd F=>F.d5 eh (λvs H Q E h=>?_) (λcn A outer s H vs Q E hr h=>?_)
 ·obtain⟨_,_,rfl,_⟩:=h;rfl
 ·obtain⟨a,ws,rfl,ra,lw,gw,kk⟩:=h
  have nd:=eh.nd
  refine⟨_,(ae (bN (PW.pt (pw_or (mG (fu (aK (dZ (K:=K)) (by rfl) T.z_isinstance rfl (aa (pv 0) (aa (gX (v:=V.ty "list") rfl T.z_list rfl rfl) af (se rfl)) (se rfl)) (he:=se rfl) (hpl:=na rfl)))) (pw_or1 (aO mK (aK bC (by rfl) T.z_len aau (aa (pv 0) af (se rfl)) (he:=se rfl) (hpl:=na rfl)) (pv 1) (aQ _))))) (aj (aI rH))
   ba)
  (aj (aI (aK (km (K:=K)) (by rfl) T.z_all rfl (aa (bE rfl (N:=["_law_found","_law_many"]) (so:=ab (top 53)) (N':=["_law_one"]) (k:=1) (fr:=[]) rfl rfl ⟨rfl,by decide +kernel,by decide +kernel,by decide +kernel,rfl,by decide +kernel,by decide +kernel⟩ (aS (K:=K) (pv 0)) (λ_ _ _ _ _=>(ax (i:=0) (show(["_law_one"]:List Str).Nodup by decide +kernel) rfl (Or.inl rfl))) (λ_ _ _ _ _=>bx)
   (λ_ _ _ _ _=>(aJ lJ (hr.mono (by decide)) rfl ay.pass (aa (pv 0) af (se rfl)) (he:=se rfl) (hpl:=na rfl)))) af (se rfl)) (he:=se rfl) (hpl:=na rfl))))),?_⟩
  obtain⟨_,xs,e,ha,rl⟩:=aL.mp ra
  cases e
  have lx:=rl.length
  rw[aab] at lx
  simp_all only[]
  refine⟨_,eP.lst ha,_,yw,?_⟩
  rw[if_neg (by decide)]
  refine⟨_,ha,?_⟩
  rw[if_neg (by omega)]
  refine⟨⟨_,aV.of ha⟩,?_⟩
  refine comp_map (src_list (Ok:=aq H) (λH' s'=>aV.of (s' _ _ ha))) (λ_ _ _ _ h=>by rw[h.1];exact aq.refl _) (by rw[sizeLine_eq];omega) (λi y H4=>y=.bl true) (λi y H4 H5 s5 h=>h) ?_ ?_
  ·rintro i x w0 H4 H5 Q2 hi s4 ⟨rfl,ex⟩ kq
   obtain⟨d,ed,rd⟩:=rl.get ex
   rw[aaf] at ed
   obtain⟨w1,ew,rfl⟩:=Option.map_eq_some_iff.mp ed
   obtain⟨p,rfl,hp⟩:=bJ.mp rd
   obtain⟨g1,g2,g3⟩:=gw w1 (aad ew)
   simp_all only[EI]
   exact⟨_,_,s4 _ _ hp,g1,g2,g3,λH6 s6=>kq _ _ s6 rfl⟩
  ·intro ys H4 s4 ly hy D n1 n2
   have ey:ys=List.map V.bl (List.replicate ys.length true):=by
    rw[List.map_replicate]
    exact List.eq_replicate_iff.mpr ⟨rfl,λb hb=>by
     obtain⟨i,ei⟩:=aam hb
     exact hy i b ei⟩
   refine⟨List.replicate ys.length true,aV.of (by rw[<-ey];exact ah),?_⟩
   rw[show(List.replicate ys.length true).all id=true by simp]
   exact kk _ (s4.trans (ao n2))
theorem gU:aH ["_law_cell_here","_law_n","_law_first","_law_keyed"] ["_law_cell_here","_law_n"] (ab (top 54)):=⟨rfl,rfl,rfl,by decide +kernel,rfl,by decide +kernel,by decide +kernel⟩
theorem Fh (T:Txt K mg ar tc):bO P w K mg base (bK P w) 2 "_law_turned" ["_law_cell_here","_law_n"] zY:=by
 have cj:bO P w K mg base (bK P w) 1 "_law_mixed" ["_law_cell_here","_law_many"] nY:=Ap T
 refine T.oY.dX (λ_ _ _ _ _ _=>d9 λ_ _=>rfl) λf fd F=>F.d5 gU (λvs H Q E h=>?_) (λcn A outer s H vs Q E hr h=>?_)
 ·obtain⟨_,_,rfl,_⟩:=h;rfl
 ·obtain⟨c,n,rfl,n0,n1,kk⟩:=h
  have nd:=gU.nd
  refine⟨_,(ae (aD (i:=2) nd rfl (Or.inr rfl) (aG cO (pv 0) ag))
  (ae (aD (i:=3) nd rfl (Or.inl rfl) (aK (nh (K:=K)) (by rfl) T.z_sorted rfl (aa (bE rfl (N:=["_law_cell_here","_law_n","_law_first","_law_keyed"]) (so:=ab (top 54)) (N':=["_law_k","_law_first"]) (k:=1) (fr:=[2]) rfl rfl ⟨rfl,by decide +kernel,by decide +kernel,by decide +kernel,rfl,by decide +kernel,by decide +kernel⟩ (c8 rfl T.z_range (aa (pv 1) af (se rfl))) (λ_ _ _ _ _=>(ax (i:=0) (show(["_law_k","_law_first"]:List Str).Nodup by decide +kernel) rfl (Or.inl rfl))) (λ_ _ _ _ _=>bx)
   (λ_ _ _ _ _=>(bT (aa (aJ cj (hr.mono (by decide)) rfl ay.pass (aa (aG cb (aG aX (pv 1) (aG cb (aG aX (pv 0) (pv 0)) ag)) (pv 0)) (aa (aG qk ag ag) af (se rfl)) (se rfl)) (he:=se rfl) (hpl:=na rfl)) (aa (pv 0) af (se rfl)) (se rfl))))) af (se rfl)) (he:=se rfl) (hpl:=na rfl)))
  (aj (aI (bE rfl (N:=["_law_cell_here","_law_n","_law_first","_law_keyed"]) (so:=ab (top 54)) (N':=["_law_pair"]) (k:=1) (fr:=[]) rfl rfl ⟨rfl,by decide +kernel,by decide +kernel,by decide +kernel,rfl,by decide +kernel,by decide +kernel⟩ (aS (K:=K) (pv 3)) (λ_ _ _ _ _=>(ax (i:=0) (show(["_law_pair"]:List Str).Nodup by decide +kernel) rfl (Or.inl rfl))) (λ_ _ _ _ _=>bx)
   (λ_ _ _ _ _=>(aw aA (pv 0) ag (λ_ _=>rfl)))))))),?_⟩
  simp_all only[]
  obtain⟨N,rfl⟩:=aa0 (Int.le_of_lt n0)
  rw[aap] at kk
  refine⟨by decide,by omega,by omega,?_⟩
  refine comp_map src_range (λ_ _ _ _ h=>by rw[h.1];exact aq.refl _) (by rw[sizeLine_eq];omega) (λi y H4=>∃tt a,y=.ref tt/\H4 tt=some (.tup [.int a,.int ((i:Nat):Int)])) (λi y H4 H5 s5 ⟨tt,a,e,h⟩=>⟨tt,a,e,s5 _ _ h⟩) ?_ ?_
  ·rintro i x w0 H9 FQ Q2 hi s9 ⟨rfl,rfl⟩ kq
   simp_all only[nY]
   have ii:(0:Int)+ (i:Int)=(i:Int):=Int.zero_add _
   rw[ii]
   have j0:(0:Int)<=(i:Int):=by omega
   have jq:IntMulOk (i:Int) (i:Int):=gH (by omega) (by omega)
   have j2:(i:Int)* (i:Int)<=40000:=Int.le_trans (Int.mul_le_mul (show(i:Int)<=200 by omega) (show(i:Int)<=200 by omega) j0 (by decide)) (by decide)
   have j3:0<=(i:Int)* (i:Int):=Int.mul_nonneg j0 j0
   exact⟨jq,qr (by omega) (by omega),by decide,by decide,by decide,by decide,λr r0 r1=>⟨by decide,λq5 Xo Kc Mf e11=>kq _ _ Kc ⟨q5,r,rfl,e11⟩⟩⟩
  intro ys H9 s9 ly hy D9 n10 Mf
  have Xp:=s9.trans (ao (o:=.lst ys) Mf)
  have Xq:(upd H9 D9 (.lst ys)) D9=some (.lst ys):=ah
  have Ec:∀(i:Nat) y,ys[i]?=some y->∃tt a,y=.ref tt/\(upd H9 D9 (.lst ys)) tt=some (.tup [.int a,.int ((i:Nat):Int)]):=λi y e=>by
   obtain⟨tt,a,e1,e2⟩:=hy i y e
   exact⟨tt,a,e1,ao Mf _ _ e2⟩
  generalize upd H9 D9 (.lst ys)=FQ at *
  have each:∀y∈ys,∃tt a b',y=.ref tt/\FQ tt=some (.tup [.int a,.int b']):=λy Xr=>by
   obtain⟨i,ei⟩:=aam Xr
   obtain⟨tt,a,e1,e2⟩:=Ec i y ei
   exact⟨tt,a,_,e1,e2⟩
  have ly:ys.length=N:=by simpa using ly
  refine⟨ys,aV.of Xq,by omega,each,λl11 zs Xs pz=>?_⟩
  have hg:∃g:V->Nat,g=λv=>match v with | .ref tt=>(match FQ tt with | some (.tup [_,.int i])=>i.toNat | _=>0) | _=>0:=⟨_,rfl⟩
  obtain⟨g,hg⟩:=hg
  have gy:∀(i:Nat) y,ys[i]?=some y->g y=i:=λi y e=>by
   obtain⟨tt,a,rfl,e2⟩:=Ec i y e
   rw[hg]
   simp only[e2,aap]
  have mg:ys.map g=List.range N:=by
   apply aa3
   intro i
   rw[aaf]
   by_cases hi:i<N
   ·rw[abl hi,aac (show i<ys.length by omega)]
    show some (g _)=_
    rw[gy i _ (aac (by omega))]
   ·rw[aat (show(List.range N).length<=i by rw[aaE];omega),aat (show ys.length<=i by omega)]
    rfl
  have pm:(zs.map g).Perm (List.range N):=by rw[<-mg];exact pz.map g
  have zl:zs.length=N:=by rw[pz.length_eq];omega
  have ez:∀z∈zs,∃tt a,z=.ref tt/\FQ tt=some (.tup [.int a,.int ((g z:Nat):Int)]):=λz hz=>by
   obtain⟨i,ei⟩:=aam (pz.mem_iff.mp hz)
   obtain⟨tt,a,e1,e2⟩:=Ec i z ei
   exact⟨tt,a,e1,by rw[gy i z ei];exact e2⟩
  have Kc:=ao (o:=.lst zs) Xs
  have Uc:(upd FQ l11 (.lst zs)) l11=some (.lst zs):=ah
  generalize upd FQ l11 (.lst zs)=Xo at *
  refine⟨⟨_,aV.of Uc⟩,?_⟩
  refine dc zs (λz=>some ((g z:Nat):Int)) (src_list (K:=K) (λH' s'=>aV.of (s' _ _ Uc))) (λ_ _ _ _ h=>h.1) (by rw[sizeLine_eq];omega) ?_ ?_
  ·rintro i1 z x eg ⟨_,ex⟩ Y N1 y1 n1
   rw[eg] at ex
   cases ex
   obtain⟨tt,a,rfl,e2⟩:=ez z (aad eg)
   simp_all only[gx,Kc _ _ e2]
   exact y1 _ rfl
  intro D12 n13 Ud
  rw[dq]
  have e12:List.map V.int (zs.map λz=>((g z:Nat):Int))=List.map cY (zs.map g):=by rw[List.map_map,List.map_map];rfl
  rw[e12]
  have Ue:=Xp.trans Kc
  exact kk _ _ _ (Ue.trans (ao Ud)) (none_of Ue Ud) ah pm
theorem Fi {H:Hp} {D:Addr} {xs:List V} {q:Pl} {v:V} (h:Rep H (oJ q) v) (hD:H D=some (.lst xs)) (hn:V.cc∈xs):Rep (c7 H D) (oJ q) v:=by
 have tn:∀{t:Addr} {zs:List V},H t=some (.tup zs)->t≠D:=λht z=>by rw[z,hD] at ht;cases ht
 cases q with
 | fin g=>
  obtain⟨p,r,rfl,hp,hr⟩:=cG.mp h
  exact cG.mpr ⟨p,r,rfl,by rw[cm (tn hp)];exact hp,by rw[cm (tn hr)];exact hr⟩
 | dO g ws=>
  obtain⟨p,r,l,zs,rfl,hp,hr,hl,rz⟩:=cH.mp h
  have lD:l≠D:=λz=>by
   rw[z,hD] at hl
   cases hl
   obtain⟨i,ei⟩:=aam hn
   obtain⟨x,t,_,e,_⟩:=nZ rz ei
   cases e
  have lz:=rz.length
  rw[aab] at lz
  refine cH.mpr ⟨p,r,l,zs,rfl,by rw[cm (tn hp)];exact hp,by rw[cm (tn hr)];exact hr,by rw[cm lD];exact hl,cK (by omega) λi y ey x ex=>?_⟩
  obtain⟨x',t,oG,rfl,ht⟩:=nZ rz ey
  rw[ex] at oG
  cases oG
  exact bJ.mpr ⟨t,rfl,by rw[cm (tn ht)];exact ht⟩
 | cu w to=>
  obtain⟨p,l,rfl,hp,hl⟩:=cq.mp h
  have lD:l≠D:=λz=>by
   rw[z,hD] at hl
   cases hl
   obtain⟨x,_,e⟩:=List.mem_map.mp hn
   cases e
  exact cq.mpr ⟨p,l,rfl,by rw[cm (tn hp)];exact hp,by rw[cm lD];exact hl⟩
theorem Iu:Wq.low 1 1=(1,1):=by decide
theorem Fj {t b:Int} (h1:-6<=t) (h2:t<=6) (h3:1<=b) (h4:b<=4):Gs (Wq.low t b):=by
 have b0:0<b:=by omega
 have lw:=Wq.dJ (a:=t) b0
 have g0:0<Nm.g t b:=Nm.mT (by omega)
 have q1:=Nm.dz (a:=t) g0 (Nm.jf t b)
 have q2:=Nm.dz (a:=b) g0 (Nm.eB t b)
 have e1:(Wq.low t b).1=t / Nm.g t b:=(Nm.iI b0).1
 have e2:(Wq.low t b).2=b / Nm.g t b:=(Nm.iI b0).2
 refine⟨by omega,by omega,by omega,lw⟩
theorem ints_of {P:Int->Prop}:∀{ys:List V},(∀(i:Nat) y,ys[i]?=some y->∃v,y=.int v/\P v)->∃r:List Int,ys=List.map V.int r/\∀x∈r,P x
 | [],_=>⟨[],rfl,by simp⟩
 | y::ys,h=>by
  obtain⟨v,rfl,pv⟩:=h 0 y rfl
  obtain⟨r,rfl,pr⟩:=ints_of (ys:=ys) λi y e=>h (i+1) y (by simpa using e)
  refine⟨v::r,rfl,λx hx=>?_⟩
  rcases List.mem_cons.mp hx with rfl | hx
  ·exact pv
  ·exact pr x hx
theorem wy {α:Type} {H:Hp} {f:α->Dat} {P:α->Prop}:∀{xs:List V},(∀x∈xs,∃a,Rep H (f a) x/\P a)->∃as:List α,bj H (as.map f) xs/\as.length=xs.length/\∀a∈as,P a
 | [],_=>⟨[],by simp [bj],rfl,by simp⟩
 | x::xs,h=>by
  obtain⟨a,ra,pa⟩:=h x aal
  obtain⟨as,r,l,p⟩:=wy (xs:=xs) λy hy=>h y (aak _ hy)
  refine⟨a::as,?_,by simp [l],λy hy=>?_⟩
  ·simp only[aao,bj]
   exact⟨_,_,rfl,ra,r⟩
  ·rcases List.mem_cons.mp hy with rfl | hy
   ·exact pa
   ·exact p y hy
theorem oE {H:Hp} {ws:List Wq.Sh} {xs:List V} {k:Nat} {q':Wq.Sh} {l r:Addr} (hl:H l=some (.lst xs)) (rl:bj H (ws.map bf) xs) (rv:H r=some (.tup (Pr q'.1 q'.2))):Rep (upd H l (.lst (xs.set k (.ref r)))) (.lst ((ws.set k q').map bf)) (.ref l):=by
 have lx:=rl.length
 rw[aab] at lx
 refine aL.mpr ⟨l,_,rfl,ah,cK (by rw[aaz,aaz,lx]) λi y ey q eq=>?_⟩
 by_cases c:i=k
 ·subst c
  have hi:i<xs.length:=by
   have:=(List.getElem?_eq_some_iff.mp ey).1
   rwa [aaz] at this
  rw[aay hi] at ey
  rw[aay (by omega)] at eq
  cases ey
  cases eq
  exact bJ.mpr ⟨r,rfl,by rw[au (λz=>by rw[z,hl] at rv;cases rv)];exact rv⟩
 ·rw[aaA (Ne.symm c)] at ey eq
  obtain⟨p,ep,hp⟩:=cf rl eq
  rw[ey] at ep
  cases ep
  exact bJ.mpr ⟨p,rfl,by rw[au (λz=>by rw[z,hl] at hp;cases hp)];exact hp⟩
theorem jF:aH ["_law_cell_here","_law_k","_law_turned_here","_law_number","_law_kind","_law_tos"] ["_law_cell_here","_law_k","_law_turned_here"] (ab (top 55)):=⟨rfl,rfl,rfl,by decide +kernel,rfl,by decide +kernel,by decide +kernel⟩
theorem Iv (T:Txt K mg ar tc):bO P w K mg base (bK P w) 2 "_law_what" ["_law_cell_here","_law_k","_law_turned_here"] EJ:=by
 have cj:bO P w K mg base (bK P w) 1 "_law_mixed" ["_law_cell_here","_law_many"] nY:=Ap T
 have cC:bO P w K mg base (bK P w) 1 "_law_low" ["_law_top","_law_bottom"] gO:=oC T
 refine T.tF.dX (λ_ _ _ _ _ _=>qN λ_ _ _=>rfl) λf fd F=>F.d5 jF (λvs H Q E h=>?_) (λcn A outer s H vs Q E hr h=>?_)
 ·obtain⟨_,_,_,_,rfl,_⟩:=h;rfl
 ·obtain⟨c,k,l,sg,rfl,hl,hk,Me,jH,kk⟩:=h
  have nd:=jF.nd
  refine⟨_,(ae (aD (i:=3) nd rfl (Or.inl rfl) (aJ cC (hr.mono (by decide)) rfl ay.pass (aa (aG qj (aJ cj (hr.mono (by decide)) rfl ay.pass (aa (pv 0) (aa ag af (se rfl)) (se rfl)) (he:=se rfl) (hpl:=na rfl)) ag) (aa (aG cb ag (aJ cj (hr.mono (by decide)) rfl ay.pass (aa (aG cb (pv 0) ag) (aa ag af (se rfl)) (se rfl)) (he:=se rfl) (hpl:=na rfl))) af (se rfl)) (se rfl)) (he:=se rfl) (hpl:=na rfl)))
  (ae (aD (i:=4) nd rfl (Or.inl rfl) (aJ cj (hr.mono (by decide)) rfl ay.pass (aa (aG cb (pv 0) ag) (aa ag af (se rfl)) (se rfl)) (he:=se rfl) (hpl:=na rfl)))
  (ae (bN (PW.pt (pw_or (aO cJ (pv 1) ag (aQ _)) (pw_or1 (aO cJ (pv 4) ag (aQ _))))) (aj (aI (bT (aa cP (aa (pv 3) af (se rfl)) (se rfl)))))
   ba)
  (ae (eC (i:=5) rfl nd rfl rfl (N:=["_law_cell_here","_law_k","_law_turned_here","_law_number","_law_kind","_law_tos"]) (so:=ab (top 55)) (N':=["_law_j","_law_cell_here","_law_k","_law_turned_here"]) (k:=1) (fr:=[0,1,2]) rfl rfl ⟨rfl,by decide +kernel,by decide +kernel,by decide +kernel,rfl,by decide +kernel,by decide +kernel⟩ (c8 rfl T.z_range (aa (aG cb ag (aJ cj (hr.mono (by decide)) rfl ay.pass (aa (aG cb (pv 0) ag) (aa ag af (se rfl)) (se rfl)) (he:=se rfl) (hpl:=na rfl))) af (se rfl))) (λ_ _ _ _ _=>(ax (i:=0) (show(["_law_j","_law_cell_here","_law_k","_law_turned_here"]:List Str).Nodup by decide +kernel) rfl (Or.inl rfl))) (λ_ _ _ _ _=>bx)
   (λ_ _ _ _ _=>(aw aB (pv 3) (aK (wL rfl) (by rfl) T.z_max rfl (aa ag (aa (aG qj (aG qj (pv 2) ag) (aJ cj (hr.mono (by decide)) rfl ay.pass (aa (aG cb (aG cb (pv 1) (aG aX ag (pv 0))) ag) (aa ag af (se rfl)) (se rfl)) (he:=se rfl) (hpl:=na rfl))) af (se rfl)) (se rfl)) (he:=se rfl) (hpl:=na rfl)) (λ_ _=>rfl))))
  (ae (bN (aO rM (pv 4) ag (aQ _)) (aj (aI (bT (aa cP (aa (pv 3) (aa (bE rfl (N:=["_law_cell_here","_law_k","_law_turned_here","_law_number","_law_kind","_law_tos"]) (so:=ab (top 55)) (N':=["_law_to","_law_cell_here"]) (k:=1) (fr:=[0]) rfl rfl ⟨rfl,by decide +kernel,by decide +kernel,by decide +kernel,rfl,by decide +kernel,by decide +kernel⟩ (aS (K:=K) (pv 5)) (λ_ _ _ _ _=>(ax (i:=0) (show(["_law_to","_law_cell_here"]:List Str).Nodup by decide +kernel) rfl (Or.inl rfl))) (λ_ _ _ _ _=>bx)
   (λ_ _ _ _ _=>(bT (aa (aG cb ag (aJ cj (hr.mono (by decide)) rfl ay.pass (aa (aG cb (pv 1) (aG aX ag (pv 0))) (aa ag af (se rfl)) (se rfl)) (he:=se rfl) (hpl:=na rfl))) (aa (pv 0) af (se rfl)) (se rfl))))) af (se rfl)) (se rfl)) (se rfl)))))
   ba)
  (aj (aI (bT (aa cP (aa (aG cb ag (aG cO (pv 4) ag)) (aa (pv 5) af (se rfl)) (se rfl)) (se rfl)))))))))),?_⟩
  have sl:=sizeLine_eq
  simp_all only[nY,gO]
  refine⟨by decide,λr r0 r1=>⟨by decide,λbo b0 b1=>⟨by omega,Bt.mono (m:=3) (Bt.of 4 (by omega) (by omega)) (by decide),λp H1 s1 np hp=>⟨by decide,λkd k0 k1=>?_⟩⟩⟩⟩
  have gs:Gs (Wq.low (r - 6) (1+bo)):=Fj (by omega) (by omega) (by omega) (by omega)
  have hp:H1 p=some (.tup (Pr (Wq.low (r - 6) (1+bo)).1 (Wq.low (r - 6) (1+bo)).2)):=hp
  generalize Wq.low (r - 6) (1+bo)=g at *
  have fin:∀p1 H2,aq H1 H2->H1 p1=none->H2 p1=some (.tup [.str (Str.ofString "end"),.ref p])->Q (.ref p1) H2:=λp1 H2 s2 n1 h1=>kk _ H2 (.fin g) (s1.trans s2) (cG.mpr ⟨p1,p,rfl,h1,s2 _ _ hp⟩) ⟨gs,by simp [Lv.eO]⟩
  refine oR (λ_=>⟨by decide,fin⟩) (λck=>oR (λ_=>⟨by decide,fin⟩) (λc0=>⟨by decide,λr2 r20 r21=>⟨by omega,by omega,?_⟩⟩))
  have kp:0<k:=by omega
  refine comp_map src_range (λ_ _ _ _ h=>by rw[h.1];exact aq.refl _) (by omega) (λi y H4=>∃g:Int,y=.int g/\∃j,j<k/\sg[j]?=some g.toNat/\0<=g) (λ_ _ _ _ _ h=>h) ?_ ?_
  ·rintro i x w0 H4 H5 Q2 hi s4 ⟨rfl,rfl⟩ kq
   simp_all only[nY]
   refine⟨(Bt.of (n:=2) 3 (by decide) (by decide)).cV (Bt.of (n:=2) 3 (by omega) (by omega)),by decide,λr3 Xu Xv=>?_⟩
   obtain⟨j,ej,jk⟩:∃j:Nat,(if (k:Int) - 1 - r3 >0 then (k:Int) - 1 - r3 else 0)=(j:Int)/\j<k:=by
    by_cases c:(k:Int) - 1 - r3 >0
    ·rw[if_pos c]
     exact⟨((k:Int) - 1 - r3).toNat,by omega,by omega⟩
    ·rw[if_neg c]
     exact⟨0,rfl,kp⟩
   rw[ej]
   have es:sg[j]?=some sg[j]:=aac (by omega)
   exact⟨_,(s1.trans s4) _ _ hl,_,eM (f:=cY) es,kq _ _ (aq.refl _) ⟨(sg[j]:Int),rfl,j,jk,by rw[aap];exact es,by omega⟩⟩
  ·intro ys H2 s2 ly hy D n1 n2
   obtain⟨Aq,rfl,Fk⟩:=ints_of hy
   rw[aab] at ly
   have Ug:Aq.length<=3:=by omega
   have Xw:0<Aq.length:=by omega
   have Fl:∀g∈Aq,0<=g/\g< (sg.length:Int):=λg hg=>by
    obtain⟨j,_,ej,g0⟩:=Fk g hg
    have:=jH _ (aad ej)
    omega
   have sD:=ao (o:=.lst (List.map V.int Aq)) n2
   have hD:upd H2 D (.lst (List.map V.int Aq)) D=some (.lst (List.map V.int Aq)):=ah
   generalize upd H2 D (.lst (List.map V.int Aq))=H3 at *
   have Mg:=s2.trans sD
   refine oR (λc6=>⟨⟨_,aV.of hD⟩,?_⟩) (λc6=>⟨by decide,by decide,λp1 H4 s4 n4 h4=>kk _ H4 (.cu (1+kd % 2) Aq) (s1.trans (Mg.trans s4)) (cq.mpr ⟨p1,D,rfl,h4,s4 _ _ hD⟩) ⟨⟨by omega,Xw,Ug,Fl⟩,Fk⟩⟩)
   refine comp_map (src_list (K:=K) (a:=D) (xs:=List.map V.int Aq) (Ok:=aq H3) (λH' s'=>aV.of (s' _ _ hD))) (λ_ _ _ _ h=>by rw[h.1];exact aq.refl _) (by rw[aab];omega) (λi y H4=>∃x:Int×Int,Rep H4 (bf x) y/\(1<=x.1/\x.1<=3)/\x.2∈Aq) (λi y H4 H5 s5 ⟨x,h1,h2⟩=>⟨x,h1.mono s5,h2⟩) ?_ ?_
   ·rintro i v w0 H4 H5 Q2 hi s4 ⟨rfl,ex⟩ kq
    rw[aaf] at ex
    obtain⟨g',eg,rfl⟩:=Option.map_eq_some_iff.mp ex
    simp_all only[nY,tTupS]
    have LU:=aad eg
    have pg:=Fl g' LU
    exact⟨(Bt.of (n:=3) 7 (by decide) (by decide)).cV (Bt.of (n:=6) 60 (by omega) (by omega)),by decide,λr3 Xu Xv=>⟨by decide,λp5 H6 s6 n6 h6=>kq _ _ s6 ⟨(1+r3,g'),bJ.mpr ⟨p5,rfl,h6⟩,by show 1<=1+r3/\1+r3<=3;omega,LU⟩⟩⟩
   ·intro zs H4 s4 lz hz D2 m1 m2
    have GL:∀y∈zs,∃x:Int×Int,Rep H4 (bf x) y/\((1<=x.1/\x.1<=3)/\x.2∈Aq):=λy hy=>by
     obtain⟨i,ei⟩:=aam hy
     exact hz i y ei
    obtain⟨ws,qh,lw,pw⟩:=wy GL
    rw[aab] at lz
    have m3:=ao (o:=.lst zs) m2
    have h3:upd H4 D2 (.lst zs) D2=some (.lst zs):=ah
    generalize upd H4 D2 (.lst zs)=H5 at *
    refine⟨by decide,λp1 H6 s6 n6 h6=>kk _ H6 (.dO g ws) (s1.trans (Mg.trans (s4.trans (m3.trans s6)))) (cH.mpr ⟨p1,p,D2,zs,rfl,h6,(Mg.trans (s4.trans (m3.trans s6))) _ _ hp,s6 _ _ h3,qh.mono (m3.trans s6)⟩) ⟨⟨gs,by omega,by omega,λx hx=>⟨(pw x hx).1.1,(pw x hx).1.2,Fl _ (pw x hx).2⟩⟩,λg hg=>?_⟩⟩
    obtain⟨x,hx,rfl⟩:=List.mem_map.mp hg
    exact Fk _ (pw x hx).2
theorem iE:aH ["_law_script","_law_n","_law_turned_here","_law_board_here","_law_k","_law_cell_here"] ["_law_script","_law_n","_law_turned_here"] (ab (top 56)):=⟨rfl,rfl,rfl,by decide +kernel,rfl,by decide +kernel,by decide +kernel⟩
theorem Fm (T:Txt K mg ar tc):bO P w K mg base (bK P w) 3 "_law_board" ["_law_script","_law_n","_law_turned_here"] (CN K):=by
 have dE:bO P w K mg base (bK P w) 1 "_law_cell" ["_law_script","_law_k"] (FI K):=wx T
 have tU:bO P w K mg base (bK P w) 2 "_law_what" ["_law_cell_here","_law_k","_law_turned_here"] EJ:=Iv T
 refine T.qL.dX (λ_ _ _ _ _ _=>qN λ_ _ _=>rfl) λf fd F=>F.d5 iE (λvs H Q E h=>?_) (λcn A outer s H vs Q E hr h=>?_)
 ·obtain⟨_,_,_,_,rfl,_⟩:=h;rfl
 ·obtain⟨a,l,ns,sg,rfl,hS,hl,pm,l0,Me,kk⟩:=h
  have nd:=iE.nd
  refine⟨_,(ae (eC (i:=3) rfl nd rfl rfl (N:=["_law_script","_law_n","_law_turned_here","_law_board_here","_law_k","_law_cell_here"]) (so:=ab (top 56)) (N':=["_law_place"]) (k:=1) (fr:=[]) rfl rfl ⟨rfl,by decide +kernel,by decide +kernel,by decide +kernel,rfl,by decide +kernel,by decide +kernel⟩ (aS (K:=K) (pv 2)) (λ_ _ _ _ _=>(ax (i:=0) (show(["_law_place"]:List Str).Nodup by decide +kernel) rfl (Or.inl rfl))) (λ_ _ _ _ _=>bx)
   (λ_ _ _ _ _=>dF))
  (ae (b9 PassesOwn.never rfl (c8 rfl T.z_range (aa (pv 1) af (se rfl))) (ax (i:=4) nd rfl (Or.inl rfl)) (ae (aD (i:=5) nd rfl (Or.inl rfl) (aG aX (aG cO (aJ dE (hr.mono (by decide)) rfl ay.pass (aa (pv 0) (aa ag af (se rfl)) (se rfl)) (he:=se rfl) (hpl:=na rfl)) ag) (aG cb (aG aX (pv 4) (pv 4)) ag)))
  (aj (dH (aJ tU (hr.mono (by decide)) rfl ay.pass (aa (aG cb (pv 5) (aJ dE (hr.mono (by decide)) rfl ay.pass (aa (pv 0) (aa (aG cb ag (aG cO (pv 4) ag)) af (se rfl)) (se rfl)) (he:=se rfl) (hpl:=na rfl))) (aa (pv 4) (aa (pv 2) af (se rfl)) (se rfl)) (se rfl)) (he:=se rfl) (hpl:=na rfl)) (dG (pv 3) (aw aB (pv 2) (pv 4) (λ_ _=>rfl)) set_list)))))
  (aj (aI (pv 3))))),?_⟩
  have sl:=sizeLine_eq
  have jH:∀x∈sg,x<sg.length:=λx hx=>List.mem_range.mp (pm.mem_iff.mp hx)
  have ndS:sg.Nodup:=pm.nodup_iff.mpr List.nodup_range
  simp_all only[]
  refine⟨⟨_,aV.of hl⟩,?_⟩
  refine comp_map (src_list (K:=K) (a:=l) (xs:=List.map cY sg) (Ok:=aq H) (λH' s'=>aV.of (s' _ _ hl))) (λ_ _ _ _ h=>by rw[h.1];exact aq.refl _) (by rw[aab];omega) (λi y H4=>y=.cc) (λ_ _ _ _ _ h=>h) ?_ ?_
  ·rintro i v w0 H4 H5 Q2 hi s4 ⟨rfl,ex⟩ kq
   simp_all only[]
   exact kq _ _ (aq.refl _) rfl
  ·intro ys H2 s2 ly hy D n1 n2
   rw[aab] at ly
   have s3:=s2.trans (ao (o:=.lst ys) n2)
   refine⟨by omega,by omega,bH (src_range (Ok:=λ_=>True)) (λi σ H5=>aq H H5/\(∃xs,H5 D=some (.lst xs)/\xs.length=sg.length/\(∀j p:Nat,i<=j->sg[j]?=some p->xs[p]?=some .cc)/\∃qs:Nat->Pl,∀j p:Nat,j<i->sg[j]?=some p->z0 sg j (qs p)/\∃v,xs[p]?=some v/\Rep (c7 H5 D) (oJ (qs p)) v)/\∃z4 z5,σ=[some (.ref a),some (.int (sg.length:Nat)),some (.ref l),some (.ref D),z4,z5]) ⟨s3,⟨ys,ah,ly,λj p _ ep=>?_,λ_=>.fin (0,1),λj p hj=>absurd hj (aa8 _)⟩,_,_,rfl⟩ (λ_ _ _ _ _=>trivial) ?_ ?_⟩
   ·have hp:=jH p (aad ep)
    have e:ys[p]?=some ys[p]:=aac (by omega)
    rw[e,hy p _ e]
   ·rintro i x σ H5 H6 hi ⟨s5,⟨xs,hD,lx,un,qs,dn⟩,z4,z5,rfl⟩ ⟨rfl,rfl⟩
    have oU:i<sg.length:=by have:i< ((sg.length:Nat):Int).toNat:=hi;omega
    have es:sg[i]?=some sg[i]:=aac oU
    have Xx:eA (List.map cY sg) (i:Int)=some (cY sg[i]):=eM (f:=cY) es
    have hp:=jH _ (aav oU)
    simp_all only[FI,EJ,Int.zero_add]
    have bi:Bt 6 (i:Int):=Bt.of 60 (by omega) (by omega)
    have Xy:Bt 13 ((i:Int)*i+7):=(bi.mul bi).add (Bt.mono (m:=3) (Bt.of 7 (by decide) (by decide)) (by decide))
    refine⟨ns,s5.seq hS,by decide,by decide,λc1=>⟨by decide,bi.cV bi,(Bt.of (n:=20) 1000003 (by omega) (by omega)).cV Xy,by decide,ns,s5.seq hS,by omega,by omega,λc2=>⟨i,rfl,sg,s5 _ _ hl,oU,Me,jH,λv H7 q s7 rv wt=>?_⟩⟩⟩
    have nD:H D=none:=none_of s2 n2
    have Uh:=s7 _ _ hD
    have mn:V.cc∈xs:=aad (un i _ (aae _) es)
    refine⟨_,(s5.trans s7) _ _ hl,_,Xx,_,_,rfl,Uh,sg[i],eI (by omega),aU (s5.trans s7) nD,⟨_,ah,by rw[aaz];exact lx,λj p hj ep=>?_,λp=>if p=sg[i] then q else qs p,λj p hj ep=>?_⟩,_,rfl⟩
    ·rw[aaA (λz=>?_)]
     ·exact un j p (by omega) ep
     ·have:=Lv.jW pm es (z▸ep)
      omega
    ·by_cases c:p=sg[i]
     ·have ji:j=i:=Lv.jW pm (c▸ep) es
      subst ji
      dsimp only
      rw[if_pos c]
      refine⟨wt,v,by rw[c];exact aay (by omega),?_⟩
      exact(Fi rv Uh mn).mono (λx o h=>by
       unfold c7 at h ⊢
       by_cases z:x=D
       ·rw[if_pos z] at h;cases h
       ·rw[if_neg z] at h ⊢;rw[au z];exact h)
     ·dsimp only
      rw[if_neg c]
      have jn:j<i:=by
       have:j≠i:=λz=>c (by subst z;rw[es] at ep;exact(aax ep).symm)
       omega
      obtain⟨w1,v1,e1,r1⟩:=dn j p jn ep
      refine⟨w1,v1,by rw[aaA (Ne.symm c)];exact e1,?_⟩
      exact(r1.mono (bP s7)).mono (λx o h=>by
       unfold c7 at h ⊢
       by_cases z:x=D
       ·rw[if_pos z] at h;cases h
       ·rw[if_neg z] at h ⊢;rw[au z];exact h)
   ·rintro σ H5 ⟨s5,⟨xs,hD,lx,un,qs,dn⟩,z4,z5,rfl⟩
    rw[aap] at dn
    simp_all only[]
    refine kk D H5 ((List.range sg.length).map qs) s5 (none_of s2 n2) (aL.mpr ⟨D,xs,rfl,hD,cK (by rw[aab,aaE];exact lx) λp y ey q eq=>?_⟩) (by rw[aab,aaE]) λk p q ek eq=>?_
    ·have hp:p<sg.length:=by have:=(List.getElem?_eq_some_iff.mp ey).1;omega
     rw[aaf,abl hp] at eq
     cases eq
     obtain⟨j,ej⟩:=aam (pm.mem_iff.mpr (List.mem_range.mpr hp))
     obtain⟨_,v,ev,rv⟩:=dn j p (List.getElem?_eq_some_iff.mp ej).1 ej
     rw[ey] at ev
     cases ev
     exact rv.mono cX
    ·have hp:=jH p (aad ek)
     rw[aaf,abl hp] at eq
     cases eq
     exact(dn k p (List.getElem?_eq_some_iff.mp ek).1 ek).1
theorem iF:aH ["_law_what_here","_law_pick","_law_total"] ["_law_what_here","_law_pick"] (ab (top 57)):=⟨rfl,rfl,rfl,by decide +kernel,rfl,by decide +kernel,by decide +kernel⟩
theorem Fn (T:Txt K mg ar tc):bO P w K mg base (bK P w) 2 "_law_parts" ["_law_what_here","_law_pick"] CO:=by
 have cC:bO P w K mg base (bK P w) 1 "_law_low" ["_law_top","_law_bottom"] gO:=oC T
 refine T.qM.dX (λ_ _ _ _ _ _=>d9 λ_ _=>rfl) λf fd F=>F.d5 iF (λvs H Q E h=>?_) (λcn A outer s H vs Q E hr h=>?_)
 ·obtain⟨_,_,_,_,rfl,_⟩:=h;rfl
 ·obtain⟨v,q,n,k,rfl,rq,pq,po,kk⟩:=h
  have nd:=iF.nd
  refine⟨_,(ae (bN (aO cJ (aw aA (pv 0) ag (λ_ _=>rfl)) cP (aQ _)) (ae (aD (i:=2) nd rfl (Or.inr rfl) (aK (gK (K:=K)) (by rfl) T.z_sum rfl (aa (bE rfl (N:=["_law_what_here","_law_pick","_law_total"]) (so:=ab (top 57)) (N':=["_law_weight","_law_to"]) (k:=2) (fr:=[]) rfl rfl ⟨rfl,by decide +kernel,by decide +kernel,by decide +kernel,rfl,by decide +kernel,by decide +kernel⟩ (aS (K:=K) (aw aA (pv 0) ag (λ_ _=>rfl))) (λ_ _ _ _ _=>(bU (K:=K) (n:=2) rfl (aM (ax (i:=0) (show(["_law_weight","_law_to"]:List Str).Nodup by decide +kernel) rfl (Or.inl rfl)) (aM (ax (i:=1) (show(["_law_weight","_law_to"]:List Str).Nodup by decide +kernel) rfl (Or.inl rfl)) bR)))) (λ_ _ _ _ _=>bx)
   (λ_ _ _ _ _=>(pv 0))) af (se rfl)) (he:=se rfl) (hpl:=na rfl)))
  (aj (aI (bE rfl (N:=["_law_what_here","_law_pick","_law_total"]) (so:=ab (top 57)) (N':=["_law_weight","_law_to","_law_total"]) (k:=2) (fr:=[2]) rfl rfl ⟨rfl,by decide +kernel,by decide +kernel,by decide +kernel,rfl,by decide +kernel,by decide +kernel⟩ (aS (K:=K) (aw aA (pv 0) ag (λ_ _=>rfl))) (λ_ _ _ _ _=>(bU (K:=K) (n:=2) rfl (aM (ax (i:=0) (show(["_law_weight","_law_to","_law_total"]:List Str).Nodup by decide +kernel) rfl (Or.inl rfl)) (aM (ax (i:=1) (show(["_law_weight","_law_to","_law_total"]:List Str).Nodup by decide +kernel) rfl (Or.inl rfl)) bR)))) (λ_ _ _ _ _=>bx)
   (λ_ _ _ _ _=>(bT (aa (aJ cC (hr.mono (by decide)) rfl ay.pass (aa (pv 0) (aa (pv 2) af (se rfl)) (se rfl)) (he:=se rfl) (hpl:=na rfl)) (aa (pv 1) af (se rfl)) (se rfl))))))))
   ba)
  (ae (bN (aO cJ (aw aA (pv 0) ag (λ_ _=>rfl)) cP (aQ _)) (aj (aI (cS (aa (bT (aa (bT (aa ag (aa ag af (se rfl)) (se rfl))) (aa (aw aB (aw aA (pv 0) ag (λ_ _=>rfl)) (pv 1) (λ_ _=>rfl)) af (se rfl)) (se rfl))) af (se rfl)))))
   ba)
  (aj (aI (cS af))))),?_⟩
  cases q with
  | fin g=>
   obtain⟨t,r,rfl,ht,_⟩:=cG.mp rq
   simp_all only[ht]
   rw[if_neg (by decide +kernel),if_neg (by decide +kernel)]
   exact⟨aar _,λl nl=>kk l [] _ (ao nl) nl ah rfl λj p x e=>by simp [fc] at e⟩
  | dO g ws=>
   obtain⟨t,r,l,zs,rfl,ht,_,hl,rz⟩:=cH.mp rq
   simp_all only[ht]
   obtain⟨gw,l0,jK⟩:=pq
   have w3:=jK.1
   obtain⟨t1,t9⟩:=jK.tt
   have Xz:Dg.tt ws=Wq.iO ws:=by unfold Dg.tt;rw[if_neg (λz=>by rw[z] at l0;cases l0)]
   have lx:=rz.length
   rw[aab] at lx
   refine⟨⟨_,aV.of hl⟩,?_⟩
   have S:Src (ug K l) (aq H) ws.length (λi x H H3=>H3=H/\zs[i]?=some x):=by rw[lx];exact src_list (λH' s'=>aV.of (s' _ _ hl))
   refine fG ws (λp=>some p.1) S (λ_ _ _ _ h=>h.1) (by rw[sizeLine_eq];omega) ?_ ?_
   ·rintro i p x ep ⟨_,ex⟩
    obtain⟨tt,et,Mh⟩:=cf rz ep
    rw[ex] at et
    cases et
    refine⟨tt,_,_,rfl,dR.of Mh,λY N y1 _=>?_⟩
    simp_all only[gx]
    exact y1 _ rfl
   intro D n1 n2
   rw[dq]
   refine⟨_,aV.of ah,_,ao n2 _ _ ht,_,rfl,_,rfl,⟨_,aV.of (ao n2 _ _ hl)⟩,?_⟩
   have s1:=ao (o:=.lst (List.map V.int (ws.map (·.1)))) n2
   have XA:=s1 _ _ hl
   generalize upd H D (.lst (List.map V.int (ws.map (·.1))))=H1 at *
   refine g5 (K:=K) (src_list (Ok:=aq H1) (λH' s'=>aV.of (s' _ _ XA))) (λi u v H3=>∃p:Int×Int,ws[i]?=some p/\u=.int p.1/\v=.int p.2) (λi x H7 H8 hi s7 ⟨e,ex⟩=>?_) (by rw[sizeLine_eq];omega) (λi y H7=>∃p,ws[i]?=some p/\FJ H7 (Wq.iO ws) p y) (λi y H7 H8 s8 ⟨p,e,r⟩=>⟨p,e,r.mono s8⟩) ?_ ?_
   ·subst e
    have oU:i<ws.length:=by have:=(List.getElem?_eq_some_iff.mp ex).1;omega
    obtain⟨tt,et,Mh⟩:=cf rz (aac oU)
    rw[ex] at et
    cases et
    exact⟨aq.refl _,tt,_,_,rfl,dR.of (s7 _ _ (s1 _ _ Mh)),_,aac oU,rfl,rfl⟩
   ·rintro j u v H7 Q7 hj s7 ⟨p,ep,rfl,rfl⟩ kq
    simp_all only[tTupS,gO]
    have W0:0< (List.map Prod.fst ws).sum:=by show 0<Wq.iO ws;omega
    have W1:(List.map Prod.fst ws).sum<=9:=by show Wq.iO ws<=9;omega
    exact⟨W0,Bt.mono (m:=4) (Bt.of 9 (by omega) (by omega)) (by decide),λp1 H8 s8 n8 e8=>⟨by decide,λp2 H9 s9 n9 e9=>kq _ _ (s8.trans s9) ⟨p,ep,p2,p1,rfl,e9,s9 _ _ e8⟩⟩⟩
   ·intro us H7 s7 lu hu D2 n3 n4
    refine kk D2 us _ (s1.trans (s7.trans (ao n4))) (none_of (s1.trans s7) n4) ah (by show us.length=ws.length;omega) λj p x ep ex=>?_
    obtain⟨p',e',r'⟩:=hu j x ex
    have ep:ws[j]?=some p:=ep
    rw[ep] at e'
    cases e'
    show FJ _ (Dg.tt ws) p x
    rw[Xz]
    exact r'.mono (ao n4)
  | cu aR to=>
   obtain⟨t,l,rfl,ht,hl⟩:=cq.mp rq
   cases k with
   | none=>exact po.elim
   | some k=>
    obtain⟨k0,k1⟩:=po
    have at1:eA (to.map V.int) k=some (.int (to.getD k.toNat 0)):=du k0 k1
    simp_all only[ht,c5]
    rw[if_neg (by decide +kernel)]
    refine⟨by decide,λp H2 s2 np hp=>⟨_,s2 _ _ ht,_,at2,l,rfl,_,s2 _ _ hl,_,at1,by decide,λp2 H3 s3 Wa wV=>⟨by decide,λl2 nl=>kk l2 _ _ (s2.trans (s3.trans (ao nl))) (none_of (s2.trans s3) nl) ah rfl λj x y ex ey=>?_⟩⟩⟩
    have j0:j=0:=by have:=(List.getElem?_eq_some_iff.mp ey).1;have:j<1:=this;omega
    subst j0
    cases ex
    cases ey
    exact⟨p2,p,rfl,ao nl _ _ wV,by rw[show Wq.low 1 (Dg.tt (fc (.cu aR to) (some k)))=(1,1) from Iu];exact ao nl _ _ (s3 _ _ hp)⟩
theorem Ar (ws:List (Int×Int)):depth (.lst (ws.map bf))<=40:=by
 have:=m6 (ds:=ws.map bf) (n:=1) λd hd=>by obtain⟨p,_,rfl⟩:=List.mem_map.mp hd;rw[uN];exact aae _
 rw[depth]
 omega
theorem Iw {ws:Dg.Wy} (h:∀y∈ws,1<=y.1) {x:Int×Int} (hx:x∈ws):x.1<=Dg.tt ws:=by
 have go:∀{ws:Dg.Wy},(∀y∈ws,1<=y.1)->0<=Wq.iO ws/\∀{x:Int×Int},x∈ws->x.1<=Wq.iO ws:=by
  intro ws
  induction ws with
  | nil=>exact λ_=>⟨aaP _,λhx=>by simp at hx⟩
  | cons y ws ih=>
   intro h
   obtain⟨i1,i2⟩:=ih λz hz=>h z (aak _ hz)
   have h1:=h y aal
   rw[Dg.j8]
   refine⟨by omega,λhx=>?_⟩
   rcases List.mem_cons.mp hx with rfl | hx
   ·omega
   ·have:=i2 hx
    omega
 unfold Dg.tt
 rw[if_neg (List.ne_nil_of_mem hx)]
 exact(go h).2 hx
theorem tV {H:Hp} {ws:List (Int×Int)} {l c:Addr} {zs:List V} {o:HO} (h:Rep H (.lst (ws.map bf)) (.ref l)) (hc:H c=some (.lst zs)) (ne:c≠l):Rep (upd H c o) (.lst (ws.map bf)) (.ref l):=by
 obtain⟨_,xs,e,hl,r⟩:=aL.mp h
 cases e
 have lx:=r.length
 rw[aab] at lx
 refine aL.mpr ⟨l,xs,rfl,by rw[au (Ne.symm ne)];exact hl,cK (by omega) λi y ey a ea=>?_⟩
 obtain⟨d,ed,rd⟩:=r.get ey
 rw[aaf,ea] at ed
 cases ed
 obtain⟨p,rfl,hp⟩:=bJ.mp rd
 exact bJ.mpr ⟨p,rfl,by rw[au (λz=>by rw[z,hc] at hp;cases hp)];exact hp⟩
theorem qb {α:Type} [BEq α] [LawfulBEq α] {x:α}:∀{l:List α} {n:Nat},l[n]?=some x->(∀m,m<n->l[m]?≠some x)->l.idxOf x=n
 | [],n,h,_=>by simp at h
 | y::l,0,h,_=>by
  simp at h
  rw[h,List.idxOf_cons]
  simp
 | y::l,n+1,h,k=>by
  have ne:y≠x:=λz=>k 0 (Nat.succ_pos _) (by rw[z];rfl)
  rw[List.idxOf_cons,beq_false_of_ne ne,cond_false,qb (l:=l) (n:=n) (by simpa using h) λm hm=>by have:=k (m+1) (by omega);simpa using this]
noncomputable def vf (aR:Int) (a b:Wq.Sh):Bool:=decide (a≠b) && (decide (a.1*b.2 >b.1*a.2)==decide (aR=1))
theorem Cf {aR:Int} {a b:Wq.Sh} (la:Wq.Lw a) (lb:Wq.Lw b) (h:vf aR a b=true):jz aR*Dg.vl b<=jz aR*Dg.vl a/\Dg.vl b≠Dg.vl a:=by
 unfold vf at h
 rw[aaN,decide_eq_true_eq,beq_iff_eq] at h
 obtain⟨h1,h2⟩:=h
 have ne:Dg.vl b≠Dg.vl a:=λz=>h1 (Dg.qP la lb z.symm)
 refine⟨?_,ne⟩
 unfold jz
 by_cases c:aR=1
 ·rw[if_pos c]
  rw[decide_eq_true c,decide_eq_true_eq,wc la.1 lb.1] at h2
  clear ne
  grind
 ·rw[if_neg c]
  rw[decide_eq_false c,decide_eq_false_iff_not,wc la.1 lb.1] at h2
  clear ne
  grind
theorem Fo {aR:Int} {a b:Wq.Sh} (la:Wq.Lw a) (lb:Wq.Lw b) (h:vf aR a b=false):jz aR*Dg.vl a<=jz aR*Dg.vl b:=by
 by_cases e:a=b
 ·subst e
  exact Rat.le_refl
 ·unfold vf at h
  rw[decide_eq_true e,Bool.true_and,beq_eq_false_iff_ne] at h
  have ne:Dg.vl a≠Dg.vl b:=λz=>e (Dg.qP la lb z)
  unfold jz
  by_cases c:aR=1
  ·rw[if_pos c]
   rw[decide_eq_true c] at h
   have h2:¬a.1*b.2 >b.1*a.2:=λz=>h (decide_eq_true z)
   rw[wc la.1 lb.1] at h2
   grind
  ·rw[if_neg c]
   rw[decide_eq_false c] at h
   have h2:a.1*b.2 >b.1*a.2:=Decidable.byContradiction λz=>h (decide_eq_false z)
   rw[wc la.1 lb.1] at h2
   grind
noncomputable def Fp:Sp:=λvs H Q _=>∃p q a b aR,vs=[.ref p,.ref q,.int aR]/\H p=some (.tup (Pr a.1 a.2))/\H q=some (.tup (Pr b.1 b.2))/\Rm a/\Rm b/\Q (.bl (vf aR a b)) H
theorem gW:aH ["_law_one","_law_other","_law_who"] ["_law_one","_law_other","_law_who"] (ab (top 58)):=⟨rfl,rfl,rfl,by decide +kernel,rfl,by decide +kernel,by decide +kernel⟩
theorem Iy (T:Txt K mg ar tc):bO P w K mg base (bK P w) 1 "_law_better" ["_law_one","_law_other","_law_who"] Fp:=by
 refine T.oZ.dX (λ_ _ _ _ _ _=>qN λ_ _ _=>rfl) λf fd F=>F.d5 gW (λvs H Q E h=>?_) (λcn A outer s H vs Q E hr h=>?_)
 ·obtain⟨_,_,_,_,_,rfl,_⟩:=h;rfl
 ·obtain⟨p,q,a,b,aR,rfl,hp,hq,ra,rb,kk⟩:=h
  have nd:=gW.nd
  refine⟨_,(aj (aI (qe (dS (xh hr.ye) (pv 0) (pv 1) (aQ _)) (uc (dS cJ (dS ik (aG aX (aw aA (pv 0) ag (λ_ _=>rfl)) (aw aA (pv 1) ag (λ_ _=>rfl))) (aG aX (aw aA (pv 1) ag (λ_ _=>rfl)) (aw aA (pv 0) ag (λ_ _=>rfl))) (aQ _)) (dS cJ (pv 2) ag (aQ _)) (aQ _)))))),?_⟩
  simp only[Pr] at hp hq
  simp_all only[hp,hq]
  refine⟨rfl,rfl,?_⟩
  have e1:GB [V.int a.1,V.int a.2] [V.int b.1,V.int b.2]=decide (a=b):=by
   rw[yy]
   by_cases c:a=b
   ·subst c
    simp
   ·rw[decide_eq_false c]
    cases h:(a.1==b.1 && a.2==b.2) with
    | false=>rfl
    | true=>
     simp at h
     exact absurd (Prod.ext h.1 h.2) c
  rw[e1]
  unfold vf at kk
  by_cases c:a=b
  ·rw[if_neg (by rw[decide_eq_true c];decide)]
   rw[decide_eq_false (show ¬a≠b from λz=>z c)] at kk
   exact kk
  ·rw[if_pos (decide_eq_false c)]
   rw[decide_eq_true (show a≠b from c),Bool.true_and] at kk
   refine⟨ra.1.cV rb.2.1,rb.1.cV ra.2.1,?_⟩
   rw[show decide (decide (b.1*a.2<a.1*b.2)=decide (aR=1))=(decide (a.1*b.2 >b.1*a.2)==decide (aR=1)) from by
    cases decide (b.1*a.2<a.1*b.2) <;>cases decide (aR=1) <;>rfl]
   exact kk
theorem As:aH ["_law_script","_law_n","_law_turned_here","_law_board_here","_law_worths","_law_picks","_law_place","_law_what_here","_law_k","_law_part","_law_to","_law_found"] ["_law_script"] (ab (top 59)):=⟨rfl,rfl,rfl,by decide +kernel,rfl,by decide +kernel,by decide +kernel⟩
theorem Fq (T:Txt K mg ar tc) (LB:oV base mg tc tp) {f:Addr} {fd:FuncData} (F:tY K "law" "law" (top 59) f fd):dU P w K mg base (bK P w) 8 f fd ["_law_script"] (wd K tp):=by
 have dE:bO P w K mg base (bK P w) 1 "_law_cell" ["_law_script","_law_k"] (FI K):=wx T
 have tW:bO P w K mg base (bK P w) 2 "_law_plus" ["_law_one","_law_other"] zW:=Fe T
 have qU:bO P w K mg base (bK P w) 2 "_law_times" ["_law_one","_law_other"] zX:=Ff T
 have jG:bO P w K mg base (bK P w) 3 "_law_are_shares" ["_law_found","_law_many"] zZ:=Fg T
 have o9:bO P w K mg base (bK P w) 2 "_law_turned" ["_law_cell_here","_law_n"] zY:=Fh T
 have qV:bO P w K mg base (bK P w) 3 "_law_board" ["_law_script","_law_n","_law_turned_here"] (CN K):=Fm T
 have qW:bO P w K mg base (bK P w) 2 "_law_parts" ["_law_what_here","_law_pick"] CO:=Fn T
 have pb:bO P w K mg base (bK P w) 1 "_law_better" ["_law_one","_law_other","_law_who"] Fp:=Iy T
 have Ft:bO P w K mg base (bK P w) 7 "best" ["board"] (Hq tp):=Ih T LB
 refine F.d5 As (λvs H Q E h=>?_) (λcn A outer s H vs Q E hr h=>?_)
 ·obtain⟨_,_,rfl,_⟩:=h;rfl
 ·obtain⟨sa,ns,rfl,nH,hS,hlen,kk⟩:=h
  have nd:=As.nd
  refine⟨_,(ae (aD (i:=1) nd rfl (Or.inl rfl) (aG cb ag (aG cO (aJ dE (hr.mono (by decide)) rfl ay.pass (aa (pv 0) (aa ag af (se rfl)) (se rfl)) (he:=se rfl) (hpl:=na rfl)) ag)))
  (ae (aD (i:=2) nd rfl (Or.inl rfl) (aJ o9 (hr.mono (by decide)) rfl ay.pass (aa (aJ dE (hr.mono (by decide)) rfl ay.pass (aa (pv 0) (aa ag af (se rfl)) (se rfl)) (he:=se rfl) (hpl:=na rfl)) (aa (pv 1) af (se rfl)) (se rfl)) (he:=se rfl) (hpl:=na rfl)))
  (ae (aD (i:=3) nd rfl (Or.inl rfl) (aJ qV (hr.mono (by decide)) rfl ay.pass (aa (pv 0) (aa (pv 1) (aa (pv 2) af (se rfl)) (se rfl)) (se rfl)) (he:=se rfl) (hpl:=na rfl)))
  (ae (eC (i:=4) rfl nd rfl rfl (N:=["_law_script","_law_n","_law_turned_here","_law_board_here","_law_worths","_law_picks","_law_place","_law_what_here","_law_k","_law_part","_law_to","_law_found"]) (so:=ab (top 59)) (N':=["_law_place"]) (k:=1) (fr:=[]) rfl rfl ⟨rfl,by decide +kernel,by decide +kernel,by decide +kernel,rfl,by decide +kernel,by decide +kernel⟩ (aS (K:=K) (pv 3)) (λ_ _ _ _ _=>(ax (i:=0) (show(["_law_place"]:List Str).Nodup by decide +kernel) rfl (Or.inl rfl))) (λ_ _ _ _ _=>bx)
   (λ_ _ _ _ _=>(bT (aa ag (aa ag af (se rfl)) (se rfl)))))
  (ae (eC (i:=5) rfl nd rfl rfl (N:=["_law_script","_law_n","_law_turned_here","_law_board_here","_law_worths","_law_picks","_law_place","_law_what_here","_law_k","_law_part","_law_to","_law_found"]) (so:=ab (top 59)) (N':=["_law_place"]) (k:=1) (fr:=[]) rfl rfl ⟨rfl,by decide +kernel,by decide +kernel,by decide +kernel,rfl,by decide +kernel,by decide +kernel⟩ (aS (K:=K) (pv 3)) (λ_ _ _ _ _=>(ax (i:=0) (show(["_law_place"]:List Str).Nodup by decide +kernel) rfl (Or.inl rfl))) (λ_ _ _ _ _=>bx)
   (λ_ _ _ _ _=>dF))
  (ae (b9 PassesOwn.never rfl (aS (K:=K) (pv 2)) (ax (i:=6) nd rfl (Or.inl rfl)) (ae (aD (i:=7) nd rfl (Or.inl rfl) (aw aB (pv 3) (pv 6) (λ_ _=>rfl)))
  (aj (bN (aO cJ (aw aA (pv 7) ag (λ_ _=>rfl)) cP (aQ _)) (ae (dH ag (dG (pv 5) (pv 6) set_list))
  (ae (b9 PassesOwn.never rfl (c8 rfl T.z_range (aa (aK bC (by rfl) T.z_len aau (aa (aw aA (pv 7) ag (λ_ _=>rfl)) af (se rfl)) (he:=se rfl) (hpl:=na rfl)) af (se rfl))) (ax (i:=8) nd rfl (Or.inl rfl)) (aj (bN (fu (aJ pb (hr.mono (by decide)) rfl ay.pass (aa (aw aB (pv 4) (aw aB (aw aA (pv 7) ag (λ_ _=>rfl)) (pv 8) (λ_ _=>rfl)) (λ_ _=>rfl)) (aa (aw aB (pv 4) (aw aB (aw aA (pv 7) ag (λ_ _=>rfl)) (aw aB (pv 5) (pv 6) (λ_ _=>rfl)) (λ_ _=>rfl)) (λ_ _=>rfl)) (aa (aw aA (pv 7) ag (λ_ _=>rfl)) af (se rfl)) (se rfl)) (se rfl)) (he:=se rfl) (hpl:=na rfl))) (aj (dH (pv 8) (dG (pv 5) (pv 6) set_list)))
   ba)))
  (aj (dH (aw aB (pv 4) (aw aB (aw aA (pv 7) ag (λ_ _=>rfl)) (aw aB (pv 5) (pv 6) (λ_ _=>rfl)) (λ_ _=>rfl)) (λ_ _=>rfl)) (dG (pv 4) (pv 6) set_list)))))
   (ae (dH (aw aA (pv 7) ag (λ_ _=>rfl)) (dG (pv 4) (pv 6) set_list))
  (aj (b9 PassesOwn.never rfl (aS (K:=K) (aJ qW (hr.mono (by decide)) rfl ay.pass (aa (pv 7) (aa dF af (se rfl)) (se rfl)) (he:=se rfl) (hpl:=na rfl))) (bU (K:=K) (n:=2) rfl (aM (ax (i:=9) nd rfl (Or.inl rfl)) (aM (ax (i:=10) nd rfl (Or.inl rfl)) bR))) (aj (dH (aJ tW (hr.mono (by decide)) rfl ay.pass (aa (aw aB (pv 4) (pv 6) (λ_ _=>rfl)) (aa (aJ qU (hr.mono (by decide)) rfl ay.pass (aa (pv 9) (aa (aw aB (pv 4) (pv 10) (λ_ _=>rfl)) af (se rfl)) (se rfl)) (he:=se rfl) (hpl:=na rfl)) af (se rfl)) (se rfl)) (he:=se rfl) (hpl:=na rfl)) (dG (pv 4) (pv 6) set_list))))))))))
  (ae (aD (i:=11) nd rfl (Or.inl rfl) (aJ Ft (hr.mono (by decide)) rfl ay.pass (aa (gY (dm (K:=K)) (by rfl) T.z_list rfl (aa (pv 3) af (se rfl)) (he:=se rfl) (hpl:=na rfl)) af (se rfl)) (he:=se rfl) (hpl:=na rfl)))
  (ae (bN (PW.pt (pw_or (mG (fu (aK (dZ (K:=K)) (by rfl) T.z_isinstance rfl (aa (pv 11) (aa (gX (v:=V.ty "tuple") rfl T.z_tuple rfl rfl) af (se rfl)) (se rfl)) (he:=se rfl) (hpl:=na rfl)))) (pw_or (aO mK (aK pJ (by rfl) T.z_len aau (aa (pv 11) af (se rfl)) (he:=se rfl) (hpl:=na rfl)) ag (aQ _)) (pw_or1 (mG (fu (aJ jG (hr.mono (by decide)) rfl ay.pass (aa (aw aA (pv 11) ag (λ_ _=>rfl)) (aa (pv 1) af (se rfl)) (se rfl)) (he:=se rfl) (hpl:=na rfl)))))))) (aj (aI rH))
   ba)
  (aj (aI (qe (dS (yN hr.units) (aw aA (pv 11) ag (λ_ _=>rfl)) (pv 4) (aQ _)) (qe (aK (dZ (K:=K)) (by rfl) T.z_isinstance rfl (aa (aw aA (pv 11) ag (λ_ _=>rfl)) (aa (gX (v:=V.ty "list") rfl T.z_list rfl rfl) af (se rfl)) (se rfl)) (he:=se rfl) (hpl:=na rfl)) (uc (dS (yN hr.units) (aw aA (pv 11) ag (λ_ _=>rfl)) (pv 5) (aQ _))))))))))))))),?_⟩
  have sl:=sizeLine_eq
  change tSeq _ _ _ _ _
  refine aW (λσ' H1=>H=H1/\∃n:Nat,0<n/\n<=60/\σ'=[some (.ref sa),some (.int (n:Int)),none,none,none,none,none,none,none,none,none,none]) ?_ (λN hN=>?_)
  case refine_2=>
   simp_all only[FI]
   exact⟨ns,hS,by decide,by decide,λc=>⟨by decide,hN _ _ ⟨rfl,(1+c % 60).toNat,by omega,by omega,by rw[abp (by omega)]⟩⟩⟩
  rintro _ _ ⟨rfl,n,n0,LS,rfl⟩
  change tSeq _ _ _ _ _
  refine aW (λσ' H1=>∃l s,aq H H1/\H1 l=some (.lst (List.map cY s))/\s.Perm (List.range s.length)/\s.length=n/\σ'=[some (.ref sa),some (.int (n:Int)),some (.ref l),none,none,none,none,none,none,none,none,none]) ?_ (λN hN=>?_)
  case refine_2=>
   simp_all only[FI,zY]
   refine⟨ns,hS,by decide,by decide,λc=>⟨by omega,by omega,λl H1 s s1 nl hl pm=>?_⟩⟩
   rw[aap] at pm
   have ln:=pm.length_eq
   rw[aaE] at ln
   exact hN _ _ ⟨l,s,s1,hl,by rw[ln];exact pm,ln,rfl⟩
  rintro _ H1 ⟨l,s',s1,hl,pm,rfl,rfl⟩
  change tSeq _ _ _ _ _
  refine aW (λσ' H2=>∃bl b,aq H1 H2/\H1 bl=none/\Rep H2 (uM b) (.ref bl)/\b.length=s'.length/\(∀(k:Nat) p q,s'[k]?=some p->b[p]?=some q->z0 s' k q)/\σ'=[some (.ref sa),some (.int (s'.length:Int)),some (.ref l),some (.ref bl),none,none,none,none,none,none,none,none]) ?_ (λN hN=>?_)
  case refine_2=>
   simp_all only[]
   exact⟨sa,l,ns,s',rfl,s1.seq hS,hl,pm,n0,LS,λl' H2 b s2 n2 rb lb ok=>hN _ _ ⟨l',b,s2,n2,rb,lb,ok,rfl⟩⟩
  rintro _ H2 ⟨bl,b,s2,nbl,rb,lb,ok,rfl⟩
  have B:=Io pm n0 LS lb ok
  have Ad:=s1.trans s2
  have xM:=s2 _ _ hl
  obtain⟨_,xb,e,vc,xR⟩:=aL.mp rb
  cases e
  have XB:=xR.length
  rw[aab] at XB
  generalize JO:(λg:Int=>s'.idxOf g.toNat)=rk at B
  change tSeq _ _ _ _ _
  refine aW (λσ' H3=>∃wl,aq H2 H3/\H2 wl=none/\Rep H3 (.lst ((List.replicate b.length ((0,1):Wq.Sh)).map bf)) (.ref wl)/\σ'=[some (.ref sa),some (.int (s'.length:Int)),some (.ref l),some (.ref bl),some (.ref wl),none,none,none,none,none,none,none]) ?_ (λN hN=>?_)
  case refine_2=>
   simp_all only[]
   refine⟨⟨_,aV.of vc⟩,?_⟩
   refine comp_map (src_list (K:=K) (a:=bl) (xs:=xb) (Ok:=aq H2) (λH' s'=>aV.of (s' _ _ vc))) (λ_ _ _ _ h=>by rw[h.1];exact aq.refl _) (by omega) (λi y H4=>Rep H4 (bf (0,1)) y) (λ_ _ _ _ s5 h=>h.mono s5) ?_ ?_
   ·rintro i v w0 H5 H6 Q2 hi s5 ⟨rfl,ex⟩ kq
    simp_all only[tTupS]
    exact⟨by decide,λp H7 s7 n7 h7=>kq _ _ s7 (bJ.mpr ⟨p,rfl,h7⟩)⟩
   ·intro ys H5 s5 ly hy D n1 n2
    refine hN _ _ ⟨D,s5.trans (ao n2),none_of s5 n2,aL.mpr ⟨D,ys,rfl,ah,cK (by rw[aaZ];omega) λi y ey x ex=>?_⟩,rfl⟩
    rw[List.eq_of_mem_replicate (aad ex)]
    exact(hy i y ey).mono (ao n2)
  rintro _ H3 ⟨wl,s3,Ii,Ui,rfl⟩
  obtain⟨_,xw,e,yq,_⟩:=aL.mp Ui
  cases e
  change tSeq _ _ _ _ _
  refine aW (λσ' H4=>∃pl,aq H3 H4/\H3 pl=none/\H4 pl=some (.lst ((List.replicate b.length none).map c5))/\σ'=[some (.ref sa),some (.int (s'.length:Int)),some (.ref l),some (.ref bl),some (.ref wl),some (.ref pl),none,none,none,none,none,none]) ?_ (λN hN=>?_)
  case refine_2=>
   simp_all only[]
   refine⟨⟨_,aV.of (s3 _ _ vc)⟩,?_⟩
   refine comp_map (src_list (K:=K) (a:=bl) (xs:=xb) (Ok:=aq H3) (λH' s'=>aV.of (s' _ _ (s3 _ _ vc)))) (λ_ _ _ _ h=>by rw[h.1];exact aq.refl _) (by omega) (λi y H4=>y=.cc) (λ_ _ _ _ _ h=>h) ?_ ?_
   ·rintro i v w0 H4 H5 Q2 hi s4 ⟨rfl,ex⟩ kq
    simp_all only[]
    exact kq _ _ (aq.refl _) rfl
   ·intro ys H4 s4 ly hy D n1 n2
    have ey:ys=(List.replicate b.length none).map c5:=by
     rw[List.map_replicate]
     exact List.eq_replicate_iff.mpr ⟨by omega,λx hx=>by obtain⟨i,ei⟩:=aam hx;exact hy i x ei⟩
    exact hN _ _ ⟨D,s4.trans (ao n2),none_of s4 n2,by rw[ah,ey],rfl⟩
  rintro _ H4 ⟨pl,s4,Mi,hpl,rfl⟩
  have Iz:H2 pl=none:=none_of s3 Mi
  have IA:pl≠wl:=λz=>by rw[z,yq] at Mi;cases Mi
  have jL:=s3.trans s4
  change tSeq _ _ _ _ _
  refine aW (λσ' H5=>aq H2 H5/\∃(ss:List Wq.Sh) (ks:List (Option Int)) (z6 z7 z8 z9 fS:Option V),Rep H5 (.lst (ss.map bf)) (.ref wl)/\H5 pl=some (.lst (ks.map c5))/\ss.length=b.length/\ks.length=b.length/\(∀x∈ss,Wq.Lw x)/\(∀p,o5 b p λi=>Dg.vl (Wq.bX ss i))/\(∀p q,b[p]?=some q->ks[p]?=some (AK ss p q))/\σ'=[some (.ref sa),some (.int (s'.length:Int)),some (.ref l),some (.ref bl),some (.ref wl),some (.ref pl),z6,z7,z8,z9,fS,none]) ?_ (λN hN=>?_)
  case refine_2=>
   simp_all only[]
   refine⟨⟨_,aV.of (jL _ _ xM)⟩,bH (src_list (K:=K) (a:=l) (xs:=List.map cY s') (Ok:=aq H2) (λH' s=>aV.of (s _ _ xM))) (λi σ H5=>aq H2 H5/\∃(ss:List Wq.Sh) (ks:List (Option Int)) (Z M:Int) (z6 z7 z8 z9 fS:Option V),Rep H5 (.lst (ss.map bf)) (.ref wl)/\H5 pl=some (.lst (ks.map c5))/\Sb b.length i ss Z M/\ks.length=b.length/\(∀j p:Nat,i<=j->s'[j]?=some p->ks[p]?=some none)/\(∀j p:Nat,j<i->s'[j]?=some p->(o5 b p λi=>Dg.vl (Wq.bX ss i))/\∀q,b[p]?=some q->ks[p]?=some (AK ss p q))/\σ=[some (.ref sa),some (.int (s'.length:Int)),some (.ref l),some (.ref bl),some (.ref wl),some (.ref pl),z6,z7,z8,z9,fS,none]) ⟨jL,_,_,12,6,_,_,_,_,_,Ui.mono s4,hpl,?_,by rw[aaZ],λj p _ ep=>?_,λj p h=>absurd h (aa8 _),rfl⟩ (λ_ _ _ _ h=>h.1) ?_ ?_⟩
   ·refine⟨aaZ,by decide,⟨1,by decide⟩,Bt.of 12 (by decide) (by decide),by decide,Bt.of 6 (by decide) (by decide),λx hx=>?_⟩
    rw[List.eq_of_mem_replicate hx]
    exact⟨⟨by decide,by decide⟩,⟨12,by decide⟩,by unfold Wq.Vb;decide⟩
   ·rw[List.getElem?_replicate,if_pos]
    have:=List.mem_range.mp (pm.mem_iff.mp (aad ep))
    omega
   ·rintro i x σ H5 H6 hi ⟨s5,ss,ks,Z,M,z6,z7,z8,z9,fS,FR,xm,sb,lk,un,dn,rfl⟩ ⟨rfl,ex⟩
    rw[aab] at hi
    have es:s'[i]?=some s'[i]:=aac hi
    rw[aaf,es] at ex
    cases ex
    have hp:s'[i]<b.length:=by have:=List.mem_range.mp (pm.mem_iff.mp (aav hi));omega
    generalize hpn:s'[i]=p at *
    have eb:b[p]?=some b[p]:=aac hp
    have pq:=B.ok _ (aav hp)
    generalize hq:b[p]=q at *
    obtain⟨v,ev,rv⟩:=d3 xR eb
    have HZ:eA xb (p:Int)=some v:=bA ev
    have LQ:=s5 _ _ vc
    obtain⟨Im,Z0,XC,bZ,M6,bM,Kd⟩:=id sb
    change tSeq _ _ _ _ _
    refine aW (λσ' H7=>H6=H7/\σ'=[some (.ref sa),some (.int (s'.length:Int)),some (.ref l),some (.ref bl),some (.ref wl),some (.ref pl),some (.int (p:Int)),some v,z8,z9,fS,none]) ?_ (λN2 XD=>?_)
    case refine_2=>
     simp_all only[cY,LQ,HZ]
     exact XD _ _ ⟨rfl,rfl⟩
    rintro _ _ ⟨rfl,rfl⟩
    have rest:∀(x:Wq.Sh) (k:Option Int) (d:Int) (H8:Hp) (z8 z9 fS:Option V),1<=d->d<=9->aq H2 H8->Rep H8 (.lst ((ss.set p x).map bf)) (.ref wl)->H8 pl=some (.lst ((ks.set p k).map c5))->Sz (Z*d) (4*M) x->(o5 b p λi=>Dg.vl (Wq.bX (ss.set p x) i))->(∀q',b[p]?=some q'->k=AK (ss.set p x) p q')->aq H2 H8/\∃(ss:List Wq.Sh),Rep H8 (.lst (ss.map bf)) (.ref wl)/\∃(ks:List (Option Int)),H8 pl=some (.lst (ks.map c5))/\∃(Z M:Int),Sb b.length (i+1) ss Z M/\ks.length=b.length/\(∀j p:Nat,i+1<=j->s'[j]?=some p->ks[p]?=some none)/\(∀j p:Nat,j<i+1->s'[j]?=some p->(o5 b p λi=>Dg.vl (Wq.bX ss i))/\∀q,b[p]?=some q->ks[p]?=some (AK ss p q))/\∃(XF XG XH XI Mj:Option V),[some (V.ref sa),some (V.int (s'.length:Int)),some (V.ref l),some (V.ref bl),some (V.ref wl),some (V.ref pl),some (V.int (p:Int)),some v,z8,z9,fS,none]=[some (V.ref sa),some (V.int (s'.length:Int)),some (V.ref l),some (V.ref bl),some (V.ref wl),some (V.ref pl),XF,XG,XH,XI,Mj,none]:=λx k d H8 z8 z9 fS d0 d1 s8 r8 h8 sz bq bp=>by
     refine⟨s8,ss.set p x,r8,ks.set p k,h8,Z*d,4*M,sb.next d0 d1 (by rw[aaz];exact Im) (λy hy=>?_),by rw[aaz];exact lk,λj p' hj oO=>?_,λj p' hj oO=>?_,_,_,_,_,_,rfl⟩
     ·rcases List.mem_or_eq_of_mem_set hy with hy | rfl
      ·exact(Kd y hy).up (Int.dvd_mul_right _ _) (by omega)
      ·exact sz
     ·rw[aaA (λz=>?_)]
      ·exact un j p' (by omega) oO
      ·have:=Lv.jW pm (z▸es) oO
       omega
     ·by_cases c:j=i
      ·subst c
       rw[es] at oO
       cases oO
       exact⟨bq,λq' e'=>by rw[aay (by omega),bp q' e']⟩
      ·have Il:p≠p':=λz=>c (Lv.jW pm oO (z▸es))
       obtain⟨o1,o2⟩:=dn j p' (by omega) oO
       have xI:∀q',b[p']?=some q'->∀g∈Lv.eO q',Wq.bX (ss.set p x) g=Wq.bX ss g:=λq' e' g hg=>by
        obtain⟨j',lt,ej,g0⟩:=(ok j p' q' oO e').2 g hg
        refine fU λz=>?_
        rw[<-z] at ej
        have:=Lv.jW pm ej es
        omega
       have uG:Wq.bX (ss.set p x) (p':Int)=Wq.bX ss (p':Int):=fU (by omega)
       refine⟨λq' e'=>?_,λq' e'=>?_⟩
       ·have o:=o1 q' e'
        have go:=xI q' e'
        cases q' with
        | fin g=>show Dg.vl (Wq.bX (ss.set p x) (p':Int))=_;rw[uG];exact o
        | dO g ws=>
         show Dg.vl (Wq.bX (ss.set p x) (p':Int))=_
         rw[uG]
         refine Eq.trans o ?_
         congr 1
         exact Dg.cU λy hy=>by rw[go _ (List.mem_map.mpr ⟨y,hy,rfl⟩)]
        | cu aR to=>
         obtain⟨⟨t,mt,et⟩,o3⟩:=o
         refine⟨⟨t,mt,?_⟩,λt' Uj=>?_⟩
         ·show Dg.vl (Wq.bX (ss.set p x) (p':Int))=Dg.vl (Wq.bX (ss.set p x) t)
          rw[uG,go t mt];exact et
         ·show jz aR*Dg.vl (Wq.bX (ss.set p x) t')<=jz aR*Dg.vl (Wq.bX (ss.set p x) (p':Int))
          rw[uG,go t' Uj];exact o3 t' Uj
       ·rw[aaA Il,o2 q' e']
        have go:=xI q' e'
        cases q' with
        | fin g=>rfl
        | dO g ws=>rfl
        | cu aR to=>
         show some (some _)=some (some _)
         rw[uG,show to.map (Wq.bX (ss.set p x))=to.map (Wq.bX ss) from List.map_congr_left λt mt=>go t mt]
    obtain⟨_,us,e,IB,ru⟩:=aL.mp FR
    cases e
    have lu:=ru.length
    rw[aab] at lu
    by_cases p9:∃aR to,q=.cu aR to
    ·obtain⟨aR,to,rfl⟩:=p9
     obtain⟨t,l',rfl,ht,vP⟩:=cq.mp rv
     simp_all only[s5 _ _ ht]
     have XJ:=pq.2.1
     have Ug:=pq.2.2.1
     have rg:=pq.2.2.2
     refine⟨_,xm,p,eI (by rw[aab];omega),?_⟩
     rw[show(ks.map c5).set p (V.int 0)=(ks.set p (some ((0:Nat):Int))).map c5 from by rw[List.map_set];rfl]
     have s7:aq H2 (upd H6 pl (.lst ((ks.set p (some ((0:Nat):Int))).map c5))):=aU s5 Iz
     have h7:upd H6 pl (.lst ((ks.set p (some ((0:Nat):Int))).map c5)) pl=some (.lst ((ks.set p (some ((0:Nat):Int))).map c5)):=ah
     have r7:Rep (upd H6 pl (.lst ((ks.set p (some ((0:Nat):Int))).map c5))) (.lst (ss.map bf)) (.ref wl):=tV FR xm IA
     generalize upd H6 pl (.lst ((ks.set p (some ((0:Nat):Int))).map c5))=H7 at *
     have FT:∀{j:Nat},j<to.length->to[j]?=some (to.getD j 0)/\to.getD j 0∈to:=λ{j} hj=>by
      have e:to[j]?=some (to.getD j 0):=by rw[aai,aac hj];rfl
      exact⟨e,aad e⟩
     have Cg:∀{g:Int},g∈to->ss[g.toNat]?=some (Wq.bX ss g)/\Sz Z M (Wq.bX ss g):=λ{g} hg=>by
      have e:=oB (ss:=ss) (rg g hg).1 (by have:=(rg g hg).2;omega)
      exact⟨e,Kd _ (aad e)⟩
     have Uk:∀{g:Int},g∈to->Rm (Wq.bX ss g):=λhg=>(Cg hg).2.rm Z0 (bZ.mono (by omega)) (by omega) (bM.mono (by omega))
     refine⟨_,s7 _ _ ht,_,at2,l',rfl,_,s7 _ _ vP,by rw[aab];omega,by rw[aab];omega,bH (src_range (Ok:=λ_=>True)) (λj σ H8=>aq H2 H8/\Rep H8 (.lst (ss.map bf)) (.ref wl)/\∃pk:Nat,H8 pl=some (.lst ((ks.set p (some (pk:Int))).map c5))/\pk<to.length/\(∀m,m<j->jz aR*Dg.vl (Wq.bX ss (to.getD m 0))<=jz aR*Dg.vl (Wq.bX ss (to.getD pk 0)))/\(∀m,m<pk->Dg.vl (Wq.bX ss (to.getD m 0))≠Dg.vl (Wq.bX ss (to.getD pk 0)))/\(pk=0\/pk<j)/\∃z8,σ=[some (.ref sa),some (.int (s'.length:Int)),some (.ref l),some (.ref bl),some (.ref wl),some (.ref pl),some (.int (p:Int)),some (.ref t),z8,z9,fS,none]) ⟨s7,r7,0,h7,XJ,λm h=>absurd h (aa8 _),λm h=>absurd h (aa8 _),.inl rfl,_,rfl⟩ (λ_ _ _ _ _=>trivial) ?_ ?_⟩
     ·rintro j x0 σ H8 H9 hj ⟨s8,r8,pk,h8,IC,FU,Ml,XM,z8,rfl⟩ ⟨rfl,rfl⟩
      have CF:j<to.length:=by have:j< (((to.map V.int).length:Nat):Int).toNat:=hj;rw[aab] at this;omega
      obtain⟨_,Kf,e,FO,FV⟩:=aL.mp r8
      cases e
      obtain⟨ej,mj⟩:=FT CF
      obtain⟨ek,mk⟩:=FT IC
      obtain⟨p1,XN,To⟩:=cf FV (Cg mj).1
      obtain⟨p2,Mm,wV⟩:=cf FV (Cg mk).1
      have XO:eA (to.map V.int) (j:Int)=some (.int (to.getD j 0)):=eM (f:=V.int) ej
      have HW:eA (to.map V.int) (pk:Int)=some (.int (to.getD pk 0)):=eM (f:=V.int) ek
      have Mn:eA ((ks.set p (some (pk:Int))).map c5) (p:Int)=some (.int (pk:Int)):=eM (f:=c5) (a:=some (pk:Int)) (aay (by omega))
      have Mo:eA Kf (to.getD j 0)=some (.ref p1):=by have:=bA XN;rwa [abp (rg _ mj).1] at this
      have Fu:eA Kf (to.getD pk 0)=some (.ref p2):=by have:=bA Mm;rwa [abp (rg _ mk).1] at this
      simp_all only[Int.zero_add,s8 _ _ ht,s8 _ _ vP,FO,h8,XO,Mn,HW,Mo,Fu,Fp]
      refine⟨_,To,_,wV,Uk mj,Uk mk,?_⟩
      by_cases c:vf aR (Wq.bX ss (to.getD j 0)) (Wq.bX ss (to.getD pk 0))=true
      ·rw[if_pos c]
       obtain⟨b1,b2⟩:=Cf (Cg mj).2.1 (Cg mk).2.1 c
       refine⟨p,eI (by rw[aab,aaz];omega),aU s8 Iz,tV r8 h8 IA,j,?_,CF,λm hm=>?_,λm hm=>?_,.inr (aaK _),_,rfl⟩
       ·rw[ah,<-List.set_set (a:=some (pk:Int)) (b:=some (j:Int)),List.map_set (a:=some (j:Int))]
        rfl
       ·by_cases e:m=j
        ·rw[e];exact Rat.le_refl
        ·exact Rat.le_trans (FU m (by omega)) b1
       ·intro z
        have:=FU m (by omega)
        rw[z] at this
        exact b2 (tM b1 this)
      ·rw[if_neg c]
       have b1:=Fo (Cg mj).2.1 (Cg mk).2.1 (by simpa using c)
       refine⟨s8,r8,pk,rfl,IC,λm hm=>?_,Ml,by omega,_,rfl⟩
       by_cases e:m=j
       ·rw[e];exact b1
       ·exact FU m (by omega)
     ·rintro σ H8 ⟨s8,r8,pk,h8,IC,FU,Ml,XM,z8,rfl⟩
      rw[aab,aap] at FU
      obtain⟨_,Kf,e,FO,FV⟩:=aL.mp r8
      cases e
      have XQ:=FV.length
      rw[aab] at XQ
      obtain⟨ek,mk⟩:=FT IC
      obtain⟨p2,Mm,wV⟩:=cf FV (Cg mk).1
      have HW:eA (to.map V.int) (pk:Int)=some (.int (to.getD pk 0)):=eM (f:=V.int) ek
      have Mn:eA ((ks.set p (some (pk:Int))).map c5) (p:Int)=some (.int (pk:Int)):=eM (f:=c5) (a:=some (pk:Int)) (aay (by omega))
      have Fu:eA Kf (to.getD pk 0)=some (.ref p2):=by have:=bA Mm;rwa [abp (rg _ mk).1] at this
      simp_all only[s8 _ _ ht,s8 _ _ vP,FO,h8,Mn,HW,Fu]
      refine⟨p,eI (by omega),?_⟩
      have xI:∀g∈to,Wq.bX (ss.set p (Wq.bX ss (to.getD pk 0))) g=Wq.bX ss g:=λg hg=>fU (by
       have h1:=B.dn.dn p _ eb g hg
       have:=(rg g hg).1
       intro z
       rw[show g=(p:Int) by omega] at h1
       omega)
      have uG:Wq.bX (ss.set p (Wq.bX ss (to.getD pk 0))) (p:Int)=Wq.bX ss (to.getD pk 0):=oA (by omega)
      have XR:o5 b p λi=>Dg.vl (Wq.bX (ss.set p (Wq.bX ss (to.getD pk 0))) i):=λq' e'=>by
       rw[eb] at e'
       cases e'
       refine⟨⟨_,mk,?_⟩,λg hg=>?_⟩
       ·show Dg.vl (Wq.bX _ (p:Int))=Dg.vl (Wq.bX _ (to.getD pk 0))
        rw[uG,xI _ mk]
       ·show jz aR*Dg.vl (Wq.bX _ g)<=jz aR*Dg.vl (Wq.bX _ (p:Int))
        rw[uG,xI g hg]
        obtain⟨m,hm⟩:=aam hg
        have ml:=(List.getElem?_eq_some_iff.mp hm).1
        have:=FU m ml
        rwa [show to.getD m 0=g from by rw[aai,hm];rfl] at this
      have XS:∀q',b[p]?=some q'->some (pk:Int)=AK (ss.set p (Wq.bX ss (to.getD pk 0))) p q':=λq' e'=>by
       rw[eb] at e'
       cases e'
       show some (pk:Int)=some _
       rw[uG,show to.map (Wq.bX (ss.set p (Wq.bX ss (to.getD pk 0))))=to.map (Wq.bX ss) from List.map_congr_left xI]
       congr 2
       refine(qb ?_ λm hm z=>?_).symm
       ·rw[aaf,ek]
        rfl
       ·rw[aaf,(FT (Nat.lt_trans hm IC)).1] at z
        have z:Wq.bX ss (to.getD m 0)=Wq.bX ss (to.getD pk 0):=aax z
        exact Ml m hm (by rw[z])
      obtain⟨q1,q2,q3,q4,q5,q6,q7,q8,q9,XT,XU,_⟩:=rest (Wq.bX ss (to.getD pk 0)) (some (pk:Int)) 1 _ z8 z9 fS (by decide) (by decide) (aU s8 Ii) (oE (k:=p) FO FV wV) (by rw[au IA];exact h8) ((Cg mk).2.up (Int.dvd_mul_right _ _) (by omega)) XR XS
      exact⟨q1,q2,q3,q4,q5,q6,q7,q8,q9,XT,XU,_,rfl⟩
    ·obtain⟨t,kd,r,rs,rfl,ht,XW,va⟩:∃t kd r rs,v=.ref t/\H2 t=some (.tup (.str kd::.ref r::rs))/\kd≠Str.ofString "pick"/\H2 r=some (.tup (Pr (Wq.cA q).1 (Wq.cA q).2)):=by
      cases q with
      | fin g=>
       obtain⟨t,r,e,ht,va⟩:=cG.mp rv
       exact⟨t,_,r,_,e,ht,by decide +kernel,va⟩
      | dO g ws=>
       obtain⟨t,r,l',zs,e,ht,va,_⟩:=cH.mp rv
       exact⟨t,_,r,_,e,ht,by decide +kernel,va⟩
      | cu aR to=>exact absurd ⟨aR,to,rfl⟩ p9
     have po:qZ q none:=by
      cases q with
      | fin g=>trivial
      | dO g ws=>trivial
      | cu aR to=>exact absurd ⟨aR,to,rfl⟩ p9
     simp_all only[s5 _ _ ht]
     rw[if_neg XW]
     refine⟨_,IB,p,eI (by omega),?_⟩
     have gg:=hU pq
     have XX:Sz Z M (Wq.cA q):=by
      obtain⟨g1,g2,g3,g4⟩:=gg
      refine⟨g4,Int.dvd_trans (zR g4.1 g3) XC,?_⟩
      have:=g4.1
      have m1:M*1<=M* (Wq.cA q).2:=Int.mul_le_mul_of_nonneg_left (by omega) (by omega)
      unfold Wq.Vb
      omega
     have s7:aq H2 (upd H6 wl (.lst (us.set p (.ref r)))):=aU s5 Ii
     have r7:Rep (upd H6 wl (.lst (us.set p (.ref r)))) (.lst ((ss.set p (Wq.cA q)).map bf)) (.ref wl):=oE IB ru (s5 _ _ va)
     have h7:upd H6 wl (.lst (us.set p (.ref r))) pl=some (.lst (ks.map c5)):=by rw[au IA];exact xm
     generalize upd H6 wl (.lst (us.set p (.ref r)))=H7 at *
     obtain⟨jK,wg⟩:=kF pq po
     have off:=B.off eb po
     refine⟨.ref t,q,b.length,none,rfl,rv.mono s7,pq,po,λxO Ul H9 s9 ID Um XY ptr=>⟨xO,rfl,⟨_,aV.of Um⟩,?_⟩⟩
     have Uo:(List.replicate b.length (none:Option Int))[p]?=some none:=by rw[List.getElem?_replicate,if_pos hp]
     have XZ:o5 b p λi=>Dg.vl (Wq.bX (ss.set p (Wq.kT (Dg.tt (fc q none)) (Wq.bX ss) (Wq.cA q) (fc q none))) i):=λq' e'=>by
      have ee:=Ao (ss:=ss) B eb Uo po (by omega) (λx hx=>(Kd x hx).1.1) q none eb Uo
      rw[eb] at e'
      cases e'
      cases q with
      | fin g=>exact ee.trans (T5 _)
      | dO g ws=>exact ee
      | cu aR to=>exact absurd ⟨aR,to,rfl⟩ p9
     have X0:∀(Cd:List Wq.Sh) q',b[p]?=some q'->none=AK Cd p q':=λCd q' e'=>by
      rw[eb] at e'
      cases e'
      cases q with
      | fin g=>rfl
      | dO g ws=>rfl
      | cu aR to=>exact absurd ⟨aR,to,rfl⟩ p9
     generalize E8:fc q none=ws at *
     obtain⟨d0,d1⟩:=jK.tt
     have w3:=jK.1
     have Z1:0<Z*Dg.tt ws:=aaC Z0 (by omega)
     have Up:Bt 1900 (Z*Dg.tt ws):=Bt.mono (Dg.Bt.Ex bZ d0 d1) (by omega)
     have Mp:∀c:Int,0<=c->c<=4->Bt 1900 (c*M):=λc c0 c1=>Bt.mono ((Bt.of (n:=3) 4 (by omega) (by omega)).mul bM) (by omega)
     obtain⟨_,xs8,e,IE,_⟩:=aL.mp r7
     cases e
     have pw:xO≠wl:=λz=>by rw[z,IE] at ID;cases ID
     have Mq:=s9 _ _ IE
     have tn:∀{t:Addr} {zs:List V},H9 t=some (.tup zs)->c7 H9 wl t=some (.tup zs):=λht=>by rw[cm (λz=>by rw[z,Mq] at ht;cases ht)];exact ht
     refine bH (src_list (K:=K) (a:=xO) (xs:=Ul) (Ok:=λH'=>H' xO=some (.lst Ul)) (λH' h=>aV.of h)) (λj σ HA=>aq H2 HA/\aq (c7 H9 wl) HA/\Rep HA (.lst ((ss.set p (Wq.kT (Dg.tt ws) (Wq.bX ss) (Wq.cA q) (ws.take j))).map bf)) (.ref wl)/\Sz (Z*Dg.tt ws) (((j:Int)+1)*M) (Wq.kT (Dg.tt ws) (Wq.bX ss) (Wq.cA q) (ws.take j))/\∃z9 fS,σ=[some (.ref sa),some (.int (s'.length:Int)),some (.ref l),some (.ref bl),some (.ref wl),some (.ref pl),some (.int (p:Int)),some (.ref t),z8,z9,fS,none]) ⟨s7.trans s9,cX,r7.mono s9,XX.up (Int.dvd_mul_right _ _) (by show M<=((0:Int)+1)*M;omega),_,_,rfl⟩ (λ_ _ _ _ h=>h.2.1 _ _ (by rw[cm pw];exact Um)) ?_ ?_
     ·rintro j y σ HA HB hj ⟨sA,sB,rA,IF,z9,fS,rfl⟩ ⟨rfl,ey⟩
      have ej:ws[j]?=some ws[j]:=aac (by omega)
      obtain⟨t1,r1,rfl,X1,ER⟩:=ptr j _ _ ej ey
      have E1:=sB _ _ (tn X1)
      have CS:=sB _ _ (tn ER)
      have mj:ws[j]∈ws:=aav (show j<ws.length by omega)
      obtain⟨x1,x2,x3,x4⟩:=jK.2 _ mj
      have of1:=off _ mj
      have tk:ws.take (j+1)=ws.take j++ [ws[j]]:=by rw[aaI,ej];rfl
      rw[tk,Wq.pX]
      generalize Wq.kT (Dg.tt ws) (Wq.bX ss) (Wq.cA q) (ws.take j)=X at *
      generalize hxe:ws[j]=x at *
      obtain⟨X2,Mr⟩:=aa0 x3
      refine⟨t1,_,rfl,dR.of E1,rfl,?_⟩
      obtain⟨_,zs,e,Ms,Kg⟩:=aL.mp rA
      cases e
      have lz:=Kg.length
      rw[aab,aaz] at lz
      obtain⟨px,J9,Md⟩:=cf (a:=X) Kg (aay (by omega))
      have FT:(ss.set p X)[X2]?=some (Wq.bX ss x.2):=by
       rw[aaA (by omega)]
       have:=oB (ss:=ss) x3 (by omega)
       rwa [Mr,aap,<-Mr] at this
      obtain⟨pt,X3,xN⟩:=cf Kg FT
      have Uq:Sz Z M (Wq.bX ss x.2):=Kd _ (aad (oB (ss:=ss) x3 (by omega)))
      have X4:x.1<=Dg.tt ws:=Iw (λy hy=>(jK.2 y hy).1) mj
      obtain⟨X5,Ur⟩:=IF.acc Uq Z0 (by omega) (by omega) X4 (by omega)
      simp_all only[zW,zX,Ms,show eA zs (p:Int)=some (.ref px) from bA J9,show eA zs x.2=some (.ref pt) from by rw[Mr];exact bA X3]
      have e1:((j:Int)+1)*M+M=(((j+1:Nat):Int)+1)*M:=by
       rw[show(((j+1:Nat):Int)+1)=((j:Int)+1)+1 by omega,Int.add_mul ((j:Int)+1),Int.one_mul]
      rw[e1] at Ur
      refine⟨Wq.low x.1 (Dg.tt ws),CS,Wq.bX ss x.2,xN,Fd (by omega) (by omega) (by omega) (by omega),Uq.rm Z0 (bZ.mono (by omega)) (by omega) (by have:=Mp 1 (by decide) (by decide);rwa [Int.one_mul] at this),λr3 HC sC nC hC=>⟨X,sC _ _ Md,_,hC,IF.rm Z1 Up (Int.mul_nonneg (by omega) (by omega)) (Mp _ (by omega) (by omega)),X5.rm Z1 Up (by omega) (by have:=Mp 1 (by decide) (by decide);rwa [Int.one_mul] at this),λr4 HD sD nD hD=>?_⟩⟩
      have IG:=sC.trans sD
      refine⟨_,IG _ _ Ms,p,eI (by omega),aU (sA.trans IG) Ii,?_,?_,Ur,_,rfl⟩
      ·exact aU (sB.trans IG) (if_pos rfl)
      ·have:=oE (k:=p) (IG _ _ Ms) (Kg.mono IG) hD
       rw[List.set_set] at this
       exact this
     ·rintro σ HA ⟨sA,sB,rA,IF,z9,fS,rfl⟩
      rw[aaD (by omega)] at rA IF
      have Mt:HA pl=some (.lst ((ks.set p none).map c5)):=by
       rw[set_same (un i p (aae _) es)]
       exact sB _ _ (by rw[cm IA];exact s9 _ _ h7)
      exact rest _ none (Dg.tt ws) HA z8 z9 fS d0 d1 sA rA Mt (IF.up (Int.dvd_refl _) (by rw[XY];exact abq (by omega) (by omega))) XZ (X0 _)
   ·rintro σ H5 ⟨s5,ss,ks,Z,M,z6,z7,z8,z9,fS,FR,xm,sb,lk,un,dn,rfl⟩
    have at_:∀p:Nat,p<b.length->∃j,j< (List.map cY s').length/\s'[j]?=some p:=λp hp=>by
     obtain⟨j,ej⟩:=aam (pm.mem_iff.mpr (List.mem_range.mpr (by omega:p<s'.length)))
     exact⟨j,by have:=(List.getElem?_eq_some_iff.mp ej).1;rw[aab];exact this,ej⟩
    refine hN _ _ ⟨s5,ss,ks,z6,z7,z8,z9,fS,FR,xm,sb.1,lk,λx hx=>(sb.2.2.2.2.2.2 x hx).1,λp q e=>?_,λp q e=>?_,rfl⟩
    ·obtain⟨j,lj,ej⟩:=at_ p (List.getElem?_eq_some_iff.mp e).1
     exact(dn j p lj ej).1 q e
    ·obtain⟨j,lj,ej⟩:=at_ p (List.getElem?_eq_some_iff.mp e).1
     exact(dn j p lj ej).2 q e
  rintro _ H5 ⟨s5,ss,ks,z6,z7,z8,z9,fS,FR,xm,Im,Ib,Fc,X6,X7,rfl⟩
  change tSeq _ _ _ _ _
  refine aW (λσ' H6=>∃t l1 l2,aq H5 H6/\H6 t=some (.tup [.ref l1,.ref l2])/\Rep H6 (.lst (ss.map bf)) (.ref l1)/\H6 l2=some (.lst (ks.map c5))/\(∀x∈ss,Bt 5000 x.2)/\σ'=[some (.ref sa),some (.int (s'.length:Int)),some (.ref l),some (.ref bl),some (.ref wl),some (.ref pl),z6,z7,z8,z9,fS,some (.ref t)]) ?_ (λN hN=>?_)
  case refine_2=>
   simp_all only[]
   refine⟨_,.inl (aV.of (s5 _ _ vc)),λl1 n1=>?_⟩
   have sU:=ao (o:=.lst xb) n1
   have h1:upd H5 l1 (.lst xb) l1=some (.lst xb):=ah
   generalize upd H5 l1 (.lst xb)=HU at *
   refine⟨l1,b,rk,rfl,aL.mpr ⟨l1,xb,rfl,h1,xR.mono (s5.trans sU)⟩,B,(Ad.trans (s5.trans sU)) _ _ nH,λt l2 l3 Cd JQ H6 s6 ht r6 h6 ls' lk' Us X8 X9=>?_⟩
   have Yb:Cd=ss:=by
    apply aa3
    intro p
    by_cases hp:p<b.length
    ·have a1:=oB (ss:=Cd) (q:=(p:Int)) (by omega) (by omega)
     have a2:=oB (ss:=ss) (q:=(p:Int)) (by omega) (by omega)
     rw[aap] at a1 a2
     rw[a1,a2]
     congr 1
     exact Dg.qP (Us _ (aad a1)).1 (Fc _ (aad a2)) (wb B X8 X6 _ p (aaK _) hp)
    ·rw[aat (by omega),aat (by omega)]
   subst Yb
   have Yc:JQ=ks:=by
    apply aa3
    intro p
    by_cases hp:p<b.length
    ·have e:b[p]?=some b[p]:=aac hp
     rw[X9 p _ e,X7 p _ e]
    ·rw[aat (by omega),aat (by omega)]
   subst Yc
   exact hN _ _ ⟨t,l2,l3,sU.trans s6,ht,r6,h6,λx hx=>(Us x hx).2,rfl⟩
  rintro _ H6 ⟨t,l1,l2,s6,ht,r6,h6,Yd,rfl⟩
  have b60:=B.len
  simp_all only[zZ,ht]
  refine⟨_,eP.tup ht,_,yv,?_⟩
  rw[if_neg (by decide),if_neg (by decide)]
  refine⟨ss,by omega,r6,by omega,λx hx=>⟨(Fc x hx).1,Yd x hx,(Fc x hx).2⟩,λH7 s7=>?_⟩
  rw[if_neg (by decide)]
  refine⟨_,s7 _ _ ht,_,at0,_,r6.mono s7,FR.mono (s6.trans s7),⟨_,rfl⟩,Ar _,_,rfl,?_⟩
  rw[if_pos rfl]
  refine⟨_,s7 _ _ ht,_,at1,_,eP.lst (s7 _ _ h6),_,yw,?_⟩
  rw[if_pos rfl]
  exact⟨_,s7 _ _ ht,_,at1,_,vT (s7 _ _ h6),vT ((s6.trans s7) _ _ xm),⟨_,rfl⟩,xA _,kk _⟩
end
theorem all_mk {l:PySem.W.OpenLaw} {w:World} {K:PySem.W.Frag} {h:Heap} {mg:Str->Option Value} {fa:Addr} (X:K.In h) (G:h.Ns mainGlobals mg) (Ye:mg "law"=some (.ref fa))
  {f0:Addr} {Yg Yh:Option Addr} {Yi:Array (Option Value)} {Yj Yk Yl Ym Ut Yn:Value} {f1:Addr} {Yo Yp:Option Addr} {Yq:Array (Option Value)} {Yr Ys Yt Yu Uu Yv:Value} {f2:Addr} {Yw Yx:Option Addr} {Yy:Array (Option Value)} {Yz YA YB LK Uv YC:Value} {f3:Addr} {YD YE:Option Addr} {YF:Array (Option Value)} {YG YH YI YJ Uw YK:Value} {f4:Addr} {YL YM:Option Addr} {YN:Array (Option Value)} {YO YQ YR YS Ux YT:Value} {f5:Addr} {YU YV:Option Addr} {YW:Array (Option Value)} {YX YY YZ Y0 Uy Y1:Value} {f6:Addr} {Y2 Y3:Option Addr} {Y4:Array (Option Value)} {Y5 Y6 Y7 Y8 Uz Y9:Value} {f7:Addr} {Za Zb:Option Addr} {Zc:Array (Option Value)} {Ze Zf Zg Zh UA Zi:Value} {f8:Addr} {Zj Zk:Option Addr} {Zl:Array (Option Value)} {Zm Zn Zo Zp UB Zq:Value} {f9:Addr} {Zr Zs:Option Addr} {Zt:Array (Option Value)} {Zu Zv Zw Zx UC Zy:Value} {Mu:Addr} {Mv Mw:Option Addr} {Mx:Array (Option Value)} {My Mz MA MB IH MD:Value} {ME:Addr} {MF MG:Option Addr} {MH:Array (Option Value)} {MJ MK ML MM II MN:Value} {MO:Addr} {MP MQ:Option Addr} {MR:Array (Option Value)} {MS MT MU MV IJ MW:Value} {MX:Addr} {MY MZ:Option Addr} {M3:Array (Option Value)} {M4 M5 M7 M8 IK M9:Value} {Na:Addr} {Nb Nc:Option Addr} {Nd:Array (Option Value)} {Nf Ng Nh Ni Nj:Value} {Nk:Addr} {Nl Nn:Option Addr} {Np:Array (Option Value)} {Nq Nr Nt Nu IL Nv:Value} {Nw:Addr} {Nx Ny:Option Addr} {Nz:Array (Option Value)} {NA NB NC ND IM NF:Value} {NG:Addr} {NH NI:Option Addr} {NJ:Array (Option Value)} {NK NL NM NN IP NO:Value} {NP:Addr} {NQ NR:Option Addr} {NS:Array (Option Value)} {NT NU NV NW IQ NX:Value} {NY:Addr} {NZ N0:Option Addr} {N4:Array (Option Value)} {N5 N6 N7 N8 IS N9:Value} {Oa:Addr} {Ob Oc:Option Addr} {Od:Array (Option Value)} {Oe Of Og Oh IT Oi:Value} {Oj:Addr} {Ol Om:Option Addr} {Oo:Array (Option Value)} {Oq Ot Ou Ov IU Ow:Value} {Ox:Addr} {Oy Oz:Option Addr} {OA:Array (Option Value)} {OB OC OD OE IV OF:Value} {OG:Addr} {OH OI:Option Addr} {OJ:Array (Option Value)} {OK OL OM ON IW OO:Value} {OP:Addr} {OQ OR:Option Addr} {OS:Array (Option Value)} {OT OU OV OW IX OX:Value} {OY:Addr} {OZ O0:Option Addr} {O1:Array (Option Value)} {O2 O3 O4 O5 IY O6:Value} {O7:Addr} {O8 O9:Option Addr} {Pa:Array (Option Value)} {Pb Pc Pd Pe IZ Pf:Value} {Pg:Addr} {Ph Pj:Option Addr} {Pk:Array (Option Value)} {Pn Po Pp Pq I0 Pt:Value} {Pu:Addr} {Pw Px:Option Addr} {Py:Array (Option Value)} {Pz PB PD PF Ja PJ:Value} {PK:Addr} {PL PM:Option Addr} {PN:Array (Option Value)} {PQ PR PU PV Jb PX:Value} {PY:Addr} {PZ P0:Option Addr} {P1:Array (Option Value)} {P2 P4 P5 P6 Jc P7:Value} {P8:Addr} {P9 Qa:Option Addr} {Qb:Array (Option Value)} {Qc Qd Qe Qf Jd Qg:Value} {Qh:Addr} {Qi Qj:Option Addr} {Qk:Array (Option Value)} {Ql Qm Qn Qo Je Qp:Value} {Qq:Addr} {Qr Qs:Option Addr} {Qt:Array (Option Value)} {Qu Qv Qw Qx Jf Qy:Value} {Qz:Addr} {QA QB:Option Addr} {QC:Array (Option Value)} {QD QE QF QG Jg QH:Value} {QI:Addr} {QJ QK:Option Addr} {QL:Array (Option Value)} {QM QN QO QP Jh QR:Value} {QS:Addr} {QT QU:Option Addr} {QV:Array (Option Value)} {QW QX QY QZ Ji Q0:Value} {Q4:Addr} {Q5 Q6:Option Addr} {Q8:Array (Option Value)} {Ra Rb Rc Rf Jj Rg:Value} {Rh:Addr} {Ri Rj:Option Addr} {Rk:Array (Option Value)} {Rl Rn Ro Rp Jk Rq:Value} {Rr:Addr} {Rt Ru:Option Addr} {Rv:Array (Option Value)} {Rw Rx Ry Rz Jl RA:Value} {RB:Addr} {RC RD:Option Addr} {RE:Array (Option Value)} {RF RG RH RI Jm RJ:Value} {RK:Addr} {RL RM:Option Addr} {RN:Array (Option Value)} {RO RP RQ RS Jn RT:Value} {RU:Addr} {RV RW:Option Addr} {RX:Array (Option Value)} {RY RZ R1 R3 Jo R4:Value} {R5:Addr} {R6 R7:Option Addr} {R8:Array (Option Value)} {R9 Sa Sd Se Jp Sf:Value} {Sg:Addr} {Si Sj:Option Addr} {Sk:Array (Option Value)} {Sl Sm Sn So Jq Sq:Value} {oF:Tok} {pd:Tok} {ar tc tp:Addr} {mv:Addr} {Au Av:Option Addr} {Aw:Array (Option Value)} {Ax Ay Az AA tX AB:Value} {cI:Addr} {iT iU:Option Addr} {iV:Array (Option Value)} {iW iZ i4 i5 el i7:Value} {c4:Addr} {lK lL:Option Addr} {lM:Array (Option Value)} {lN lO lP lQ gm lR:Value}
  (a0:PySem.W.nsIn K mainGlobals "goals"=some (some (.ref f0))) (l0:K.lookup f0=some ⟨Yj,Yg,.func (PySem.W.fnOf "goals" "goals" (aF (top 1)) (aE (top 1)) (ab (top 1)) .none Yk Yl Ym Yh Ut Yn),Yi⟩) (e0:PySem.W.codeIn K Ut "goals"=true) (k0:PySem.W.keepIn K (.ref f0)=true)
  (a1:PySem.W.nsIn K mainGlobals "is_ready"=some (some (.ref f1))) (l1:K.lookup f1=some ⟨Yr,Yo,.func (PySem.W.fnOf "is_ready" "is_ready" (aF (top 2)) (aE (top 2)) (ab (top 2)) .none Ys Yt Yu Yp Uu Yv),Yq⟩) (e1:PySem.W.codeIn K Uu "is_ready"=true) (k1:PySem.W.keepIn K (.ref f1)=true)
  (a2:PySem.W.nsIn K mainGlobals "ready_places"=some (some (.ref f2))) (l2:K.lookup f2=some ⟨Yz,Yw,.func (PySem.W.fnOf "ready_places" "ready_places" (aF (top 3)) (aE (top 3)) (ab (top 3)) .none YA YB LK Yx Uv YC),Yy⟩) (e2:PySem.W.codeIn K Uv "ready_places"=true) (k2:PySem.W.keepIn K (.ref f2)=true)
  (a3:PySem.W.nsIn K mainGlobals "levels"=some (some (.ref f3))) (l3:K.lookup f3=some ⟨YG,YD,.func (PySem.W.fnOf "levels" "levels" (aF (top 4)) (aE (top 4)) (ab (top 4)) .none YH YI YJ YE Uw YK),YF⟩) (e3:PySem.W.codeIn K Uw "levels"=true) (k3:PySem.W.keepIn K (.ref f3)=true)
  (a4:PySem.W.nsIn K mainGlobals "ring"=some (some (.ref f4))) (l4:K.lookup f4=some ⟨YO,YL,.func (PySem.W.fnOf "ring" "ring" (aF (top 5)) (aE (top 5)) (ab (top 5)) .none YQ YR YS YM Ux YT),YN⟩) (e4:PySem.W.codeIn K Ux "ring"=true) (k4:PySem.W.keepIn K (.ref f4)=true)
  (a5:PySem.W.nsIn K mainGlobals "common_divisor"=some (some (.ref f5))) (l5:K.lookup f5=some ⟨YX,YU,.func (PySem.W.fnOf "common_divisor" "common_divisor" (aF (top 12)) (aE (top 12)) (ab (top 12)) .none YY YZ Y0 YV Uy Y1),YW⟩) (e5:PySem.W.codeIn K Uy "common_divisor"=true) (k5:PySem.W.keepIn K (.ref f5)=true)
  (a6:PySem.W.nsIn K mainGlobals "share"=some (some (.ref f6))) (l6:K.lookup f6=some ⟨Y5,Y2,.func (PySem.W.fnOf "share" "share" (aF (top 13)) (aE (top 13)) (ab (top 13)) .none Y6 Y7 Y8 Y3 Uz Y9),Y4⟩) (e6:PySem.W.codeIn K Uz "share"=true) (k6:PySem.W.keepIn K (.ref f6)=true)
  (a7:PySem.W.nsIn K mainGlobals "common_bottom"=some (some (.ref f7))) (l7:K.lookup f7=some ⟨Ze,Za,.func (PySem.W.fnOf "common_bottom" "common_bottom" (aF (top 14)) (aE (top 14)) (ab (top 14)) .none Zf Zg Zh Zb UA Zi),Zc⟩) (e7:PySem.W.codeIn K UA "common_bottom"=true) (k7:PySem.W.keepIn K (.ref f7)=true)
  (a8:PySem.W.nsIn K mainGlobals "row_with_head"=some (some (.ref f8))) (l8:K.lookup f8=some ⟨Zm,Zj,.func (PySem.W.fnOf "row_with_head" "row_with_head" (aF (top 16)) (aE (top 16)) (ab (top 16)) .none Zn Zo Zp Zk UB Zq),Zl⟩) (e8:PySem.W.codeIn K UB "row_with_head"=true) (k8:PySem.W.keepIn K (.ref f8)=true)
  (a9:PySem.W.nsIn K mainGlobals "swapped"=some (some (.ref f9))) (l9:K.lookup f9=some ⟨Zu,Zr,.func (PySem.W.fnOf "swapped" "swapped" (aF (top 17)) (aE (top 17)) (ab (top 17)) .none Zv Zw Zx Zs UC Zy),Zt⟩) (e9:PySem.W.codeIn K UC "swapped"=true) (k9:PySem.W.keepIn K (.ref f9)=true)
  (a10:PySem.W.nsIn K mainGlobals "without_first_column"=some (some (.ref Mu))) (l10:K.lookup Mu=some ⟨My,Mv,.func (PySem.W.fnOf "without_first_column" "without_first_column" (aF (top 18)) (aE (top 18)) (ab (top 18)) .none Mz MA MB Mw IH MD),Mx⟩) (e10:PySem.W.codeIn K IH "without_first_column"=true) (k10:PySem.W.keepIn K (.ref Mu)=true)
  (a11:PySem.W.nsIn K mainGlobals "swept"=some (some (.ref ME))) (l11:K.lookup ME=some ⟨MJ,MF,.func (PySem.W.fnOf "swept" "swept" (aF (top 19)) (aE (top 19)) (ab (top 19)) .none MK ML MM MG II MN),MH⟩) (e11:PySem.W.codeIn K II "swept"=true) (k11:PySem.W.keepIn K (.ref ME)=true)
  (a12:PySem.W.nsIn K mainGlobals "whole_answers"=some (some (.ref MO))) (l12:K.lookup MO=some ⟨MS,MP,.func (PySem.W.fnOf "whole_answers" "whole_answers" (aF (top 20)) (aE (top 20)) (ab (top 20)) .none MT MU MV MQ IJ MW),MR⟩) (e12:PySem.W.codeIn K IJ "whole_answers"=true) (k12:PySem.W.keepIn K (.ref MO)=true)
  (a13:PySem.W.nsIn K mainGlobals "steps_from"=some (some (.ref MX))) (l13:K.lookup MX=some ⟨M4,MY,.func (PySem.W.fnOf "steps_from" "steps_from" (aF (top 22)) (aE (top 22)) (ab (top 22)) .none M5 M7 M8 MZ IK M9),M3⟩) (e13:PySem.W.codeIn K IK "steps_from"=true) (k13:PySem.W.keepIn K (.ref MX)=true)
  (a14:PySem.W.nsIn K mainGlobals "parts"=some (some (.ref Na))) (l14:K.lookup Na=some ⟨Nf,Nb,.func (PySem.W.fnOf "parts" "parts" (aF (top 23)) (aE (top 23)) (ab (top 23)) .none Ng Nh Ni Nc (Value.ref tc) Nj),Nd⟩) (e14:PySem.W.codeIn K (Value.ref tc) "parts"=true) (k14:PySem.W.keepIn K (.ref Na)=true)
  (a15:PySem.W.nsIn K mainGlobals "ways_of_picks"=some (some (.ref Nk))) (l15:K.lookup Nk=some ⟨Nq,Nl,.func (PySem.W.fnOf "ways_of_picks" "ways_of_picks" (aF (top 27)) (aE (top 27)) (ab (top 27)) .none Nr Nt Nu Nn IL Nv),Np⟩) (e15:PySem.W.codeIn K IL "ways_of_picks"=true) (k15:PySem.W.keepIn K (.ref Nk)=true)
  (a16:PySem.W.nsIn K mainGlobals "checked_parts"=some (some (.ref Nw))) (l16:K.lookup Nw=some ⟨NA,Nx,.func (PySem.W.fnOf "checked_parts" "checked_parts" (aF (top 28)) (aE (top 28)) (ab (top 28)) .none NB NC ND Ny IM NF),Nz⟩) (e16:PySem.W.codeIn K IM "checked_parts"=true) (k16:PySem.W.keepIn K (.ref Nw)=true)
  (a17:PySem.W.nsIn K mainGlobals "weighted_ways"=some (some (.ref NG))) (l17:K.lookup NG=some ⟨NK,NH,.func (PySem.W.fnOf "weighted_ways" "weighted_ways" (aF (top 29)) (aE (top 29)) (ab (top 29)) .none NL NM NN NI IP NO),NJ⟩) (e17:PySem.W.codeIn K IP "weighted_ways"=true) (k17:PySem.W.keepIn K (.ref NG)=true)
  (a18:PySem.W.nsIn K mainGlobals "all_weighted_ways"=some (some (.ref NP))) (l18:K.lookup NP=some ⟨NT,NQ,.func (PySem.W.fnOf "all_weighted_ways" "all_weighted_ways" (aF (top 30)) (aE (top 30)) (ab (top 30)) .none NU NV NW NR IQ NX),NS⟩) (e18:PySem.W.codeIn K IQ "all_weighted_ways"=true) (k18:PySem.W.keepIn K (.ref NP)=true)
  (a19:PySem.W.nsIn K mainGlobals "total_weight"=some (some (.ref NY))) (l19:K.lookup NY=some ⟨N5,NZ,.func (PySem.W.fnOf "total_weight" "total_weight" (aF (top 31)) (aE (top 31)) (ab (top 31)) .none N6 N7 N8 N0 IS N9),N4⟩) (e19:PySem.W.codeIn K IS "total_weight"=true) (k19:PySem.W.keepIn K (.ref NY)=true)
  (a20:PySem.W.nsIn K mainGlobals "part_rows"=some (some (.ref Oa))) (l20:K.lookup Oa=some ⟨Oe,Ob,.func (PySem.W.fnOf "part_rows" "part_rows" (aF (top 32)) (aE (top 32)) (ab (top 32)) .none Of Og Oh Oc IT Oi),Od⟩) (e20:PySem.W.codeIn K IT "part_rows"=true) (k20:PySem.W.keepIn K (.ref Oa)=true)
  (a21:PySem.W.nsIn K mainGlobals "gain_of"=some (some (.ref Oj))) (l21:K.lookup Oj=some ⟨Oq,Ol,.func (PySem.W.fnOf "gain_of" "gain_of" (aF (top 34)) (aE (top 34)) (ab (top 34)) .none Ot Ou Ov Om IU Ow),Oo⟩) (e21:PySem.W.codeIn K IU "gain_of"=true) (k21:PySem.W.keepIn K (.ref Oj)=true)
  (a22:PySem.W.nsIn K mainGlobals "book_of"=some (some (.ref Ox))) (l22:K.lookup Ox=some ⟨OB,Oy,.func (PySem.W.fnOf "book_of" "book_of" (aF (top 35)) (aE (top 35)) (ab (top 35)) .none OC OD OE Oz IV OF),OA⟩) (e22:PySem.W.codeIn K IV "book_of"=true) (k22:PySem.W.keepIn K (.ref Ox)=true)
  (a23:PySem.W.nsIn K mainGlobals "gains_of"=some (some (.ref OG))) (l23:K.lookup OG=some ⟨OK,OH,.func (PySem.W.fnOf "gains_of" "gains_of" (aF (top 36)) (aE (top 36)) (ab (top 36)) .none OL OM ON OI IW OO),OJ⟩) (e23:PySem.W.codeIn K IW "gains_of"=true) (k23:PySem.W.keepIn K (.ref OG)=true)
  (a24:PySem.W.nsIn K mainGlobals "blank_worths"=some (some (.ref OP))) (l24:K.lookup OP=some ⟨OT,OQ,.func (PySem.W.fnOf "blank_worths" "blank_worths" (aF (top 37)) (aE (top 37)) (ab (top 37)) .none OU OV OW OR IX OX),OS⟩) (e24:PySem.W.codeIn K IX "blank_worths"=true) (k24:PySem.W.keepIn K (.ref OP)=true)
  (a25:PySem.W.nsIn K mainGlobals "with_worths"=some (some (.ref OY))) (l25:K.lookup OY=some ⟨O2,OZ,.func (PySem.W.fnOf "with_worths" "with_worths" (aF (top 38)) (aE (top 38)) (ab (top 38)) .none O3 O4 O5 O0 IY O6),O1⟩) (e25:PySem.W.codeIn K IY "with_worths"=true) (k25:PySem.W.keepIn K (.ref OY)=true)
  (a26:PySem.W.nsIn K mainGlobals "wanted_way"=some (some (.ref O7))) (l26:K.lookup O7=some ⟨Pb,O8,.func (PySem.W.fnOf "wanted_way" "wanted_way" (aF (top 40)) (aE (top 40)) (ab (top 40)) .none Pc Pd Pe O9 IZ Pf),Pa⟩) (e26:PySem.W.codeIn K IZ "wanted_way"=true) (k26:PySem.W.keepIn K (.ref O7)=true)
  (a27:PySem.W.nsIn K mainGlobals "better_ways"=some (some (.ref Pg))) (l27:K.lookup Pg=some ⟨Pn,Ph,.func (PySem.W.fnOf "better_ways" "better_ways" (aF (top 41)) (aE (top 41)) (ab (top 41)) .none Po Pp Pq Pj I0 Pt),Pk⟩) (e27:PySem.W.codeIn K I0 "better_ways"=true) (k27:PySem.W.keepIn K (.ref Pg)=true)
  (a28:PySem.W.nsIn K mainGlobals "picks_of"=some (some (.ref Pu))) (l28:K.lookup Pu=some ⟨Pz,Pw,.func (PySem.W.fnOf "picks_of" "picks_of" (aF (top 42)) (aE (top 42)) (ab (top 42)) .none PB PD PF Px Ja PJ),Py⟩) (e28:PySem.W.codeIn K Ja "picks_of"=true) (k28:PySem.W.keepIn K (.ref Pu)=true)
  (a29:PySem.W.nsIn K mainGlobals "with_best_worths"=some (some (.ref PK))) (l29:K.lookup PK=some ⟨PQ,PL,.func (PySem.W.fnOf "with_best_worths" "with_best_worths" (aF (top 43)) (aE (top 43)) (ab (top 43)) .none PR PU PV PM Jb PX),PN⟩) (e29:PySem.W.codeIn K Jb "with_best_worths"=true) (k29:PySem.W.keepIn K (.ref PK)=true)
  (a30:PySem.W.nsIn K mainGlobals "best_pick"=some (some (.ref PY))) (l30:K.lookup PY=some ⟨P2,PZ,.func (PySem.W.fnOf "best_pick" "best_pick" (aF (top 44)) (aE (top 44)) (ab (top 44)) .none P4 P5 P6 P0 Jc P7),P1⟩) (e30:PySem.W.codeIn K Jc "best_pick"=true) (k30:PySem.W.keepIn K (.ref PY)=true)
  (a31:PySem.W.nsIn K mainGlobals "best"=some (some (.ref P8))) (l31:K.lookup P8=some ⟨Qc,P9,.func (PySem.W.fnOf "best" "best" (aF (top 45)) (aE (top 45)) (ab (top 45)) .none Qd Qe Qf Qa Jd Qg),Qb⟩) (e31:PySem.W.codeIn K Jd "best"=true) (k31:PySem.W.keepIn K (.ref P8)=true)
  (a32:PySem.W.nsIn K mainGlobals "_law_cell"=some (some (.ref Qh))) (l32:K.lookup Qh=some ⟨Ql,Qi,.func (PySem.W.fnOf "_law_cell" "_law_cell" (aF (top 47)) (aE (top 47)) (ab (top 47)) .none Qm Qn Qo Qj Je Qp),Qk⟩) (e32:PySem.W.codeIn K Je "_law_cell"=true) (k32:PySem.W.keepIn K (.ref Qh)=true)
  (a33:PySem.W.nsIn K mainGlobals "_law_mixed"=some (some (.ref Qq))) (l33:K.lookup Qq=some ⟨Qu,Qr,.func (PySem.W.fnOf "_law_mixed" "_law_mixed" (aF (top 48)) (aE (top 48)) (ab (top 48)) .none Qv Qw Qx Qs Jf Qy),Qt⟩) (e33:PySem.W.codeIn K Jf "_law_mixed"=true) (k33:PySem.W.keepIn K (.ref Qq)=true)
  (a34:PySem.W.nsIn K mainGlobals "_law_low"=some (some (.ref Qz))) (l34:K.lookup Qz=some ⟨QD,QA,.func (PySem.W.fnOf "_law_low" "_law_low" (aF (top 49)) (aE (top 49)) (ab (top 49)) .none QE QF QG QB Jg QH),QC⟩) (e34:PySem.W.codeIn K Jg "_law_low"=true) (k34:PySem.W.keepIn K (.ref Qz)=true)
  (a35:PySem.W.nsIn K mainGlobals "_law_plus"=some (some (.ref QI))) (l35:K.lookup QI=some ⟨QM,QJ,.func (PySem.W.fnOf "_law_plus" "_law_plus" (aF (top 50)) (aE (top 50)) (ab (top 50)) .none QN QO QP QK Jh QR),QL⟩) (e35:PySem.W.codeIn K Jh "_law_plus"=true) (k35:PySem.W.keepIn K (.ref QI)=true)
  (a36:PySem.W.nsIn K mainGlobals "_law_times"=some (some (.ref QS))) (l36:K.lookup QS=some ⟨QW,QT,.func (PySem.W.fnOf "_law_times" "_law_times" (aF (top 51)) (aE (top 51)) (ab (top 51)) .none QX QY QZ QU Ji Q0),QV⟩) (e36:PySem.W.codeIn K Ji "_law_times"=true) (k36:PySem.W.keepIn K (.ref QS)=true)
  (a37:PySem.W.nsIn K mainGlobals "_law_is_share"=some (some (.ref Q4))) (l37:K.lookup Q4=some ⟨Ra,Q5,.func (PySem.W.fnOf "_law_is_share" "_law_is_share" (aF (top 52)) (aE (top 52)) (ab (top 52)) .none Rb Rc Rf Q6 Jj Rg),Q8⟩) (e37:PySem.W.codeIn K Jj "_law_is_share"=true) (k37:PySem.W.keepIn K (.ref Q4)=true)
  (a38:PySem.W.nsIn K mainGlobals "_law_are_shares"=some (some (.ref Rh))) (l38:K.lookup Rh=some ⟨Rl,Ri,.func (PySem.W.fnOf "_law_are_shares" "_law_are_shares" (aF (top 53)) (aE (top 53)) (ab (top 53)) .none Rn Ro Rp Rj Jk Rq),Rk⟩) (e38:PySem.W.codeIn K Jk "_law_are_shares"=true) (k38:PySem.W.keepIn K (.ref Rh)=true)
  (a39:PySem.W.nsIn K mainGlobals "_law_turned"=some (some (.ref Rr))) (l39:K.lookup Rr=some ⟨Rw,Rt,.func (PySem.W.fnOf "_law_turned" "_law_turned" (aF (top 54)) (aE (top 54)) (ab (top 54)) .none Rx Ry Rz Ru Jl RA),Rv⟩) (e39:PySem.W.codeIn K Jl "_law_turned"=true) (k39:PySem.W.keepIn K (.ref Rr)=true)
  (a40:PySem.W.nsIn K mainGlobals "_law_what"=some (some (.ref RB))) (l40:K.lookup RB=some ⟨RF,RC,.func (PySem.W.fnOf "_law_what" "_law_what" (aF (top 55)) (aE (top 55)) (ab (top 55)) .none RG RH RI RD Jm RJ),RE⟩) (e40:PySem.W.codeIn K Jm "_law_what"=true) (k40:PySem.W.keepIn K (.ref RB)=true)
  (a41:PySem.W.nsIn K mainGlobals "_law_board"=some (some (.ref RK))) (l41:K.lookup RK=some ⟨RO,RL,.func (PySem.W.fnOf "_law_board" "_law_board" (aF (top 56)) (aE (top 56)) (ab (top 56)) .none RP RQ RS RM Jn RT),RN⟩) (e41:PySem.W.codeIn K Jn "_law_board"=true) (k41:PySem.W.keepIn K (.ref RK)=true)
  (a42:PySem.W.nsIn K mainGlobals "_law_parts"=some (some (.ref RU))) (l42:K.lookup RU=some ⟨RY,RV,.func (PySem.W.fnOf "_law_parts" "_law_parts" (aF (top 57)) (aE (top 57)) (ab (top 57)) .none RZ R1 R3 RW Jo R4),RX⟩) (e42:PySem.W.codeIn K Jo "_law_parts"=true) (k42:PySem.W.keepIn K (.ref RU)=true)
  (a43:PySem.W.nsIn K mainGlobals "_law_better"=some (some (.ref R5))) (l43:K.lookup R5=some ⟨R9,R6,.func (PySem.W.fnOf "_law_better" "_law_better" (aF (top 58)) (aE (top 58)) (ab (top 58)) .none Sa Sd Se R7 Jp Sf),R8⟩) (e43:PySem.W.codeIn K Jp "_law_better"=true) (k43:PySem.W.keepIn K (.ref R5)=true)
  (a44:PySem.W.nsIn K mainGlobals "law"=some (some (.ref Sg))) (l44:K.lookup Sg=some ⟨Sl,Si,.func (PySem.W.fnOf "law" "law" (aF (top 59)) (aE (top 59)) (ab (top 59)) .none Sm Sn So Sj Jq Sq),Sk⟩) (e44:PySem.W.codeIn K Jq "law"=true) (k44:PySem.W.keepIn K (.ref Sg)=true)
  (z_abs:PySem.W.nsIn K mainGlobals "abs"=some none)
  (z_all:PySem.W.nsIn K mainGlobals "all"=some none)
  (z_any:PySem.W.nsIn K mainGlobals "any"=some none)
  (z_bool:PySem.W.nsIn K mainGlobals "bool"=some none)
  (z_enumerate:PySem.W.nsIn K mainGlobals "enumerate"=some none)
  (z_int:PySem.W.nsIn K mainGlobals "int"=some none)
  (z_isinstance:PySem.W.nsIn K mainGlobals "isinstance"=some none)
  (z_len:PySem.W.nsIn K mainGlobals "len"=some none)
  (z_list:PySem.W.nsIn K mainGlobals "list"=some none)
  (z_max:PySem.W.nsIn K mainGlobals "max"=some none)
  (z_range:PySem.W.nsIn K mainGlobals "range"=some none)
  (z_sorted:PySem.W.nsIn K mainGlobals "sorted"=some none)
  (z_sum:PySem.W.nsIn K mainGlobals "sum"=some none)
  (z_tuple:PySem.W.nsIn K mainGlobals "tuple"=some none)
  (z_zip:PySem.W.nsIn K mainGlobals "zip"=some none)
  (c_MOST_PLACES:PySem.W.nsIn K mainGlobals "MOST_PLACES"=some (some (.int 40 oF)))
  (c_MOST_PICKS:PySem.W.nsIn K mainGlobals "MOST_PICKS"=some (some (.int 4096 pd)))
  (k_Book:PySem.W.nsIn K mainGlobals "Book"=some (some (.ref ar)))
  (cl_Bookpg:PySem.W.plainGet K ar Str.empty=true)
  (cl_Bookhd:PySem.W.hasDictIn K ar=true)
  (cl_Bookpo:PySem.W.plainOver K ar=true)
  (cl_Booksa:PySem.W.findIn K (.ref ar) "__setattr__"=some (some (.builtin "object.__setattr__")))
  (na_Book_bottom:PySem.W.findIn K (.ref ar) "bottom"=some none)
  (na_Book_tops:PySem.W.findIn K (.ref ar) "tops"=some none)
  (dia_Book:PySem.W.findIn K (.ref ar) "__init__"=some (some (.ref mv)))
  (dii_Book:PySem.W.isFn K (.ref mv)=true)
  (dil_Book:K.lookup mv=some ⟨Ax,Au,.func (PySem.W.fnOf "__init__" "Book.__init__" (aF (inClass (top 33) 0)) (aE (inClass (top 33) 0)) (ab (inClass (top 33) 0)) .none Ay Az AA Av tX AB),Aw⟩)
  (dic_Book:PySem.W.codeIn K tX "Book.__init__"=true)
  (dik_Book:PySem.W.keepIn K (.ref mv)=true)
  (dim_Book:PySem.W.makesIn K ar=true)
  (diq_Book:PySem.W.keepIn K (.ref ar)=true)
  (dma_Book_as_shares:PySem.W.findIn K (.ref ar) "as_shares"=some (some (.ref cI)))
  (dmi_Book_as_shares:PySem.W.isFn K (.ref cI)=true)
  (dml_Book_as_shares:K.lookup cI=some ⟨iW,iT,.func (PySem.W.fnOf "as_shares" "Book.as_shares" (aF (inClass (top 33) 2)) (aE (inClass (top 33) 2)) (ab (inClass (top 33) 2)) .none iZ i4 i5 iU el i7),iV⟩)
  (dmc_Book_as_shares:PySem.W.codeIn K el "Book.as_shares"=true)
  (dmk_Book_as_shares:PySem.W.keepIn K (.ref cI)=true)
  (dma_Book_scaled:PySem.W.findIn K (.ref ar) "scaled"=some (some (.ref c4)))
  (dmi_Book_scaled:PySem.W.isFn K (.ref c4)=true)
  (dml_Book_scaled:K.lookup c4=some ⟨lN,lK,.func (PySem.W.fnOf "scaled" "Book.scaled" (aF (inClass (top 33) 1)) (aE (inClass (top 33) 1)) (ab (inClass (top 33) 1)) .none lO lP lQ lL gm lR),lM⟩)
  (dmc_Book_scaled:PySem.W.codeIn K gm "Book.scaled"=true)
  (dmk_Book_scaled:PySem.W.keepIn K (.ref c4)=true)
  :∃fd:FuncData,(∀(s:Shared) (v:Value),BindsTo s fd ⟨[v],[]⟩ [("_law_script",v)])/\∀base:Heap,K.In base->base.Ns mainGlobals mg->oV base mg tc tp->dU l.prog w K mg base (bK l.prog w) 30 fa fd ["_law_script"] (wd K tp):=by
 have e:=Ye.symm.trans (aag X G a44)
 cases e
 have T:Txt K mg ar tc:=⟨aaH X G z_abs,aaH X G z_all,aaH X G z_any,aaH X G z_bool,aaH X G z_enumerate,aaH X G z_int,aaH X G z_isinstance,aaH X G z_len,aaH X G z_list,aaH X G z_max,aaH X G z_range,aaH X G z_sorted,aaH X G z_sum,aaH X G z_tuple,aaH X G z_zip,⟨_,_,aT l0 e0 k0,aag X G a0⟩,⟨_,_,aT l1 e1 k1,aag X G a1⟩,⟨_,_,aT l2 e2 k2,aag X G a2⟩,⟨_,_,aT l3 e3 k3,aag X G a3⟩,⟨_,_,aT l4 e4 k4,aag X G a4⟩,⟨_,_,aT l5 e5 k5,aag X G a5⟩,⟨_,_,aT l6 e6 k6,aag X G a6⟩,⟨_,_,aT l7 e7 k7,aag X G a7⟩,⟨_,_,aT l8 e8 k8,aag X G a8⟩,⟨_,_,aT l9 e9 k9,aag X G a9⟩,⟨_,_,aT l10 e10 k10,aag X G a10⟩,⟨_,_,aT l11 e11 k11,aag X G a11⟩,⟨_,_,aT l12 e12 k12,aag X G a12⟩,⟨_,_,aT l13 e13 k13,aag X G a13⟩,⟨_,_,aT l14 e14 k14,aag X G a14⟩,⟨_,_,aT l15 e15 k15,aag X G a15⟩,⟨_,_,aT l16 e16 k16,aag X G a16⟩,⟨_,_,aT l17 e17 k17,aag X G a17⟩,⟨_,_,aT l18 e18 k18,aag X G a18⟩,⟨_,_,aT l19 e19 k19,aag X G a19⟩,⟨_,_,aT l20 e20 k20,aag X G a20⟩,⟨_,_,aT l21 e21 k21,aag X G a21⟩,⟨_,_,aT l22 e22 k22,aag X G a22⟩,⟨_,_,aT l23 e23 k23,aag X G a23⟩,⟨_,_,aT l24 e24 k24,aag X G a24⟩,⟨_,_,aT l25 e25 k25,aag X G a25⟩,⟨_,_,aT l26 e26 k26,aag X G a26⟩,⟨_,_,aT l27 e27 k27,aag X G a27⟩,⟨_,_,aT l28 e28 k28,aag X G a28⟩,⟨_,_,aT l29 e29 k29,aag X G a29⟩,⟨_,_,aT l30 e30 k30,aag X G a30⟩,⟨_,_,aT l31 e31 k31,aag X G a31⟩,⟨_,_,aT l32 e32 k32,aag X G a32⟩,⟨_,_,aT l33 e33 k33,aag X G a33⟩,⟨_,_,aT l34 e34 k34,aag X G a34⟩,⟨_,_,aT l35 e35 k35,aag X G a35⟩,⟨_,_,aT l36 e36 k36,aag X G a36⟩,⟨_,_,aT l37 e37 k37,aag X G a37⟩,⟨_,_,aT l38 e38 k38,aag X G a38⟩,⟨_,_,aT l39 e39 k39,aag X G a39⟩,⟨_,_,aT l40 e40 k40,aag X G a40⟩,⟨_,_,aT l41 e41 k41,aag X G a41⟩,⟨_,_,aT l42 e42 k42,aag X G a42⟩,⟨_,_,aT l43 e43 k43,aag X G a43⟩,⟨_,aag X G c_MOST_PLACES⟩,⟨_,aag X G c_MOST_PICKS⟩,aag X G k_Book,⟨cl_Bookpg,cl_Bookhd,cl_Bookpo,cl_Booksa⟩,na_Book_bottom,na_Book_tops,⟨_,_,aT dil_Book dic_Book dik_Book,⟨dim_Book,dia_Book,dii_Book,diq_Book⟩,aag X G k_Book⟩,⟨_,_,aT dml_Book_as_shares dmc_Book_as_shares dmk_Book_as_shares,⟨dma_Book_as_shares,dmi_Book_as_shares,dmk_Book_as_shares⟩⟩,⟨_,_,aT dml_Book_scaled dmc_Book_scaled dmk_Book_scaled,⟨dma_Book_scaled,dmi_Book_scaled,dmk_Book_scaled⟩⟩,⟨_,_,_,_,_,aag X G a14,l14,rfl⟩⟩
 exact⟨_,λs v=>.of_eq rfl,λbase _ _ LB=>(Fq T LB (aT l44 e44 k44)).mono (by decide)⟩
theorem walk {tc tp:Addr} {l:PySem.W.OpenLaw} {q:Program} {loose:List Str} {XP:(Str->Option Value)->Heap->Prop} {YP:World->Heap->Prop} {d:DefRec} {K:Params->PySem.W.Frag} (hn:l.most=some 63) (Gx:d.params.defaults=[])
  (hY:∀(w:World) (h:Heap),YP w h->(K w.params).In h) (Li:∀(w:World) (h:Heap),YP w h->h.get? tp=some (PySem.W.tabObj #[])/\PySem.W.CodeHd h tc tp/\(K w.params).lookup tp=none)
  (F:∀(w:World) (mg:Str->Option Value) (fa:Addr) (h:Heap),(K w.params).In h->h.Ns mainGlobals mg->mg d.name=some (.ref fa)->
   ∃fd:FuncData,(∀(s:Shared) (u:Value),BindsTo s fd ⟨[u],[]⟩ [("_law_script",u)])/\∀base:Heap,(K w.params).In base->base.Ns mainGlobals mg->oV base mg tc tp->dU l.prog w (K w.params) mg base (bK l.prog w) 30 fa fd ["_law_script"] (wd (K w.params) tp)):
  PySem.W.WalkO q loose XP YP l.row.toRowW d [] (λf vs=>PySem.call f vs):=
 L2.zk (tc:=tc) (tp:=tp) (dsc:=dsc) (n:=63) (k:=30) (x:="_law_script") (CX:=λw=>bK l.prog w) (sp:=λw=>wd (K w.params) tp) hn (by decide) Gx ⟨rfl,by decide,by decide⟩ hY Li F (λ_ _ a ns hl hT hS=>⟨a,ns,rfl,hT,hS,hl,λ_=>rfl⟩) λ_ _ _ _ _ z=>(vx _ _) _ _ _ _ _ z
end K47
open PySem PySem.W PyProof.Rows
set_option maxRecDepth 100000 in
set_option maxHeartbeats 0 in
theorem PySem.Challenge.cw_pressluck_k47_long_boards_played_best_holds : PySem.Challenge.rw_pressluck_k47_long_boards_played_best.Holds := by
  w_on; refine holds_law (by decide +kernel) fun Zz => ?_
  refine holds_open (q := K47.vw) (loose := []) (Xt := (fun s => xlAt K47.vw [] s && recOk (RowW.records (OpenRow.toRowW (PySem.W.OpenLaw.row PySem.Challenge.rw_pressluck_k47_long_boards_played_best))) s)) (XP := XL K47.vw []) (Yf := Hook.obs (PySem.W.kmHook K47.pre.heap_1 K47.Ci K47.CY [156])) (Ya := Hook.val (PySem.W.kmHook K47.pre.heap_1 K47.Ci K47.CY [156])) (YP := Hook.says (PySem.W.kmHook K47.pre.heap_1 K47.Ci K47.CY [156])) (N := 5184) (Hd.wA (by kernel_rfl) (by decide) (fun s => by kernel_rfl) K47.run) (Hook.of (PySem.W.kmHook K47.pre.heap_1 K47.Ci K47.CY [156])) (Hook.keeps (PySem.W.kmHook K47.pre.heap_1 K47.Ci K47.CY [156])) (fun s e => xl_of s (Bool.and_eq_true_iff.mp e).1) XL.keeps (by rfl) (by rfl) (by rfl) (fun s e => recFacts_of (Bool.and_eq_true_iff.mp e).2) (by rfl) (by first | assumption | decide +kernel) (by decide +kernel) ⟨rfl, rfl, rfl, rfl, rfl, by decide +kernel⟩ ?hw ?hc
  (case hw => w_witness2)
  k_fill
  refine K47.walk (tc := 158) (tp := 156) (l := PySem.Challenge.rw_pressluck_k47_long_boards_played_best) rfl rfl (fun w h Y => PySem.W.km_in_of Y) (fun w h Y => ⟨PySem.W.km_tabs_of Y _ (.head _), PySem.W.codeHd_of_K (PySem.W.km_in_of Y) (by kernel_rfl), by kernel_rfl⟩) ?F
  case F =>
    intro w mg fa h KX G Gy
    refine' K47.all_mk (tc := 158) (tp := 156) KX G Gy ?a0 ?l0 ?e0 ?k0 ?a1 ?l1 ?e1 ?k1 ?a2 ?l2 ?e2 ?k2 ?a3 ?l3 ?e3 ?k3 ?a4 ?l4 ?e4 ?k4 ?a5 ?l5 ?e5 ?k5 ?a6 ?l6 ?e6 ?k6 ?a7 ?l7 ?e7 ?k7 ?a8 ?l8 ?e8 ?k8 ?a9 ?l9 ?e9 ?k9 ?a10 ?l10 ?e10 ?k10 ?a11 ?l11 ?e11 ?k11 ?a12 ?l12 ?e12 ?k12 ?a13 ?l13 ?e13 ?k13 ?a14 ?l14 ?e14 ?k14 ?a15 ?l15 ?e15 ?k15 ?a16 ?l16 ?e16 ?k16 ?a17 ?l17 ?e17 ?k17 ?a18 ?l18 ?e18 ?k18 ?a19 ?l19 ?e19 ?k19 ?a20 ?l20 ?e20 ?k20 ?a21 ?l21 ?e21 ?k21 ?a22 ?l22 ?e22 ?k22 ?a23 ?l23 ?e23 ?k23 ?a24 ?l24 ?e24 ?k24 ?a25 ?l25 ?e25 ?k25 ?a26 ?l26 ?e26 ?k26 ?a27 ?l27 ?e27 ?k27 ?a28 ?l28 ?e28 ?k28 ?a29 ?l29 ?e29 ?k29 ?a30 ?l30 ?e30 ?k30 ?a31 ?l31 ?e31 ?k31 ?a32 ?l32 ?e32 ?k32 ?a33 ?l33 ?e33 ?k33 ?a34 ?l34 ?e34 ?k34 ?a35 ?l35 ?e35 ?k35 ?a36 ?l36 ?e36 ?k36 ?a37 ?l37 ?e37 ?k37 ?a38 ?l38 ?e38 ?k38 ?a39 ?l39 ?e39 ?k39 ?a40 ?l40 ?e40 ?k40 ?a41 ?l41 ?e41 ?k41 ?a42 ?l42 ?e42 ?k42 ?a43 ?l43 ?e43 ?k43 ?a44 ?l44 ?e44 ?k44 ?z_abs ?z_all ?z_any ?z_bool ?z_enumerate ?z_int ?z_isinstance ?z_len ?z_list ?z_max ?z_range ?z_sorted ?z_sum ?z_tuple ?z_zip ?c_MOST_PLACES ?c_MOST_PICKS ?k_Book ?cl_Bookpg ?cl_Bookhd ?cl_Bookpo ?cl_Booksa ?na_Book_bottom ?na_Book_tops ?dia_Book ?dii_Book ?dil_Book ?dic_Book ?dik_Book ?dim_Book ?diq_Book ?dma_Book_as_shares ?dmi_Book_as_shares ?dml_Book_as_shares ?dmc_Book_as_shares ?dmk_Book_as_shares ?dma_Book_scaled ?dmi_Book_scaled ?dml_Book_scaled ?dmc_Book_scaled ?dmk_Book_scaled
    (case a0 => k_is)
    (case l0 => k_is)
    (case e0 => k_is)
    (case k0 => k_is)
    (case a1 => k_is)
    (case l1 => k_is)
    (case e1 => k_is)
    (case k1 => k_is)
    (case a2 => k_is)
    (case l2 => k_is)
    (case e2 => k_is)
    (case k2 => k_is)
    (case a3 => k_is)
    (case l3 => k_is)
    (case e3 => k_is)
    (case k3 => k_is)
    (case a4 => k_is)
    (case l4 => k_is)
    (case e4 => k_is)
    (case k4 => k_is)
    (case a5 => k_is)
    (case l5 => k_is)
    (case e5 => k_is)
    (case k5 => k_is)
    (case a6 => k_is)
    (case l6 => k_is)
    (case e6 => k_is)
    (case k6 => k_is)
    (case a7 => k_is)
    (case l7 => k_is)
    (case e7 => k_is)
    (case k7 => k_is)
    (case a8 => k_is)
    (case l8 => k_is)
    (case e8 => k_is)
    (case k8 => k_is)
    (case a9 => k_is)
    (case l9 => k_is)
    (case e9 => k_is)
    (case k9 => k_is)
    (case a10 => k_is)
    (case l10 => k_is)
    (case e10 => k_is)
    (case k10 => k_is)
    (case a11 => k_is)
    (case l11 => k_is)
    (case e11 => k_is)
    (case k11 => k_is)
    (case a12 => k_is)
    (case l12 => k_is)
    (case e12 => k_is)
    (case k12 => k_is)
    (case a13 => k_is)
    (case l13 => k_is)
    (case e13 => k_is)
    (case k13 => k_is)
    (case a14 => k_is)
    (case l14 => k_is)
    (case e14 => k_is)
    (case k14 => k_is)
    (case a15 => k_is)
    (case l15 => k_is)
    (case e15 => k_is)
    (case k15 => k_is)
    (case a16 => k_is)
    (case l16 => k_is)
    (case e16 => k_is)
    (case k16 => k_is)
    (case a17 => k_is)
    (case l17 => k_is)
    (case e17 => k_is)
    (case k17 => k_is)
    (case a18 => k_is)
    (case l18 => k_is)
    (case e18 => k_is)
    (case k18 => k_is)
    (case a19 => k_is)
    (case l19 => k_is)
    (case e19 => k_is)
    (case k19 => k_is)
    (case a20 => k_is)
    (case l20 => k_is)
    (case e20 => k_is)
    (case k20 => k_is)
    (case a21 => k_is)
    (case l21 => k_is)
    (case e21 => k_is)
    (case k21 => k_is)
    (case a22 => k_is)
    (case l22 => k_is)
    (case e22 => k_is)
    (case k22 => k_is)
    (case a23 => k_is)
    (case l23 => k_is)
    (case e23 => k_is)
    (case k23 => k_is)
    (case a24 => k_is)
    (case l24 => k_is)
    (case e24 => k_is)
    (case k24 => k_is)
    (case a25 => k_is)
    (case l25 => k_is)
    (case e25 => k_is)
    (case k25 => k_is)
    (case a26 => k_is)
    (case l26 => k_is)
    (case e26 => k_is)
    (case k26 => k_is)
    (case a27 => k_is)
    (case l27 => k_is)
    (case e27 => k_is)
    (case k27 => k_is)
    (case a28 => k_is)
    (case l28 => k_is)
    (case e28 => k_is)
    (case k28 => k_is)
    (case a29 => k_is)
    (case l29 => k_is)
    (case e29 => k_is)
    (case k29 => k_is)
    (case a30 => k_is)
    (case l30 => k_is)
    (case e30 => k_is)
    (case k30 => k_is)
    (case a31 => k_is)
    (case l31 => k_is)
    (case e31 => k_is)
    (case k31 => k_is)
    (case a32 => k_is)
    (case l32 => k_is)
    (case e32 => k_is)
    (case k32 => k_is)
    (case a33 => k_is)
    (case l33 => k_is)
    (case e33 => k_is)
    (case k33 => k_is)
    (case a34 => k_is)
    (case l34 => k_is)
    (case e34 => k_is)
    (case k34 => k_is)
    (case a35 => k_is)
    (case l35 => k_is)
    (case e35 => k_is)
    (case k35 => k_is)
    (case a36 => k_is)
    (case l36 => k_is)
    (case e36 => k_is)
    (case k36 => k_is)
    (case a37 => k_is)
    (case l37 => k_is)
    (case e37 => k_is)
    (case k37 => k_is)
    (case a38 => k_is)
    (case l38 => k_is)
    (case e38 => k_is)
    (case k38 => k_is)
    (case a39 => k_is)
    (case l39 => k_is)
    (case e39 => k_is)
    (case k39 => k_is)
    (case a40 => k_is)
    (case l40 => k_is)
    (case e40 => k_is)
    (case k40 => k_is)
    (case a41 => k_is)
    (case l41 => k_is)
    (case e41 => k_is)
    (case k41 => k_is)
    (case a42 => k_is)
    (case l42 => k_is)
    (case e42 => k_is)
    (case k42 => k_is)
    (case a43 => k_is)
    (case l43 => k_is)
    (case e43 => k_is)
    (case k43 => k_is)
    (case a44 => k_is)
    (case l44 => k_is)
    (case e44 => k_is)
    (case k44 => k_is)
    (case z_abs => k_is)
    (case z_all => k_is)
    (case z_any => k_is)
    (case z_bool => k_is)
    (case z_enumerate => k_is)
    (case z_int => k_is)
    (case z_isinstance => k_is)
    (case z_len => k_is)
    (case z_list => k_is)
    (case z_max => k_is)
    (case z_range => k_is)
    (case z_sorted => k_is)
    (case z_sum => k_is)
    (case z_tuple => k_is)
    (case z_zip => k_is)
    (case c_MOST_PLACES => k_is)
    (case c_MOST_PICKS => k_is)
    (case k_Book => k_is)
    (case cl_Bookpg => k_is)
    (case cl_Bookhd => k_is)
    (case cl_Bookpo => k_is)
    (case cl_Booksa => k_is)
    (case na_Book_bottom => k_is)
    (case na_Book_tops => k_is)
    (case dia_Book => k_is)
    (case dii_Book => k_is)
    (case dil_Book => k_is)
    (case dic_Book => k_is)
    (case dik_Book => k_is)
    (case dim_Book => k_is)
    (case diq_Book => k_is)
    (case dma_Book_as_shares => k_is)
    (case dmi_Book_as_shares => k_is)
    (case dml_Book_as_shares => k_is)
    (case dmc_Book_as_shares => k_is)
    (case dmk_Book_as_shares => k_is)
    (case dma_Book_scaled => k_is)
    (case dmi_Book_scaled => k_is)
    (case dml_Book_scaled => k_is)
    (case dmc_Book_scaled => k_is)
    (case dmk_Book_scaled => k_is)
