import PyProof.Rows.All
import Wide.All
import OpenK.AllK
import Wide.FinOn
import Lean
import PyProof.EqAt
import PyProof.EqKinds
import PyProof.TupleCall
import PyProof.NeKinds
import PySem.Challenge.RW_pressluck_k36_boards_that_go_on
set_option Elab.async false
set_option linter.all false
set_option maxRecDepth 100000
theorem YL : type_of% @List.length_map := @List.length_map
theorem YM : type_of% @List.getElem?_eq_getElem := @List.getElem?_eq_getElem
theorem YN : type_of% @List.mem_of_getElem? := @List.mem_of_getElem?
theorem YO : type_of% @Nat.le_refl := @Nat.le_refl
theorem YQ : type_of% @List.getElem?_map := @List.getElem?_map
theorem YR : type_of% @List.size_toArray := @List.size_toArray
theorem YS : type_of% @PySem.W.mg_of := @PySem.W.mg_of
theorem YT : type_of% @Nat.ne_of_lt := @Nat.ne_of_lt
theorem YU : type_of% @List.mem_cons_of_mem := @List.mem_cons_of_mem
theorem YV : type_of% @List.getD_eq_getElem?_getD := @List.getD_eq_getElem?_getD
theorem YW : type_of% @List.mem_cons_self := @List.mem_cons_self
theorem YX : type_of% @Int.toNat_natCast := @Int.toNat_natCast
theorem YY : type_of% @Nat.lt_of_lt_of_le := @Nat.lt_of_lt_of_le
theorem YZ : type_of% @Bool.false_ne_true := @Bool.false_ne_true
theorem Y0 : type_of% @Nat.zero_le := @Nat.zero_le
theorem Y1 : type_of% @List.getElem?_eq_none := @List.getElem?_eq_none
theorem Y2 : type_of% @Nat.le_trans := @Nat.le_trans
theorem Y3 : type_of% @List.map_cons := @List.map_cons
theorem Y4 : type_of% @List.getElem?_of_mem := @List.getElem?_of_mem
theorem Y5 : type_of% @List.length_set := @List.length_set
theorem Y6 : type_of% @List.take_of_length_le := @List.take_of_length_le
theorem Y7 : type_of% @PySem.boot_len := @PySem.boot_len
theorem Y8 : type_of% @List.length_cons := @List.length_cons
theorem Y9 : type_of% @Int.mul_pos := @Int.mul_pos
theorem Za : type_of% @List.take_add_one := @List.take_add_one
theorem Zb : type_of% @List.append_assoc := @List.append_assoc
theorem Zc : type_of% @List.getElem_mem := @List.getElem_mem
theorem Ze : type_of% @List.length_range := @List.length_range
theorem Zf : type_of% @PySem.W.mg_none_of := @PySem.W.mg_none_of
theorem Zg : type_of% @Option.some.inj := @Option.some.inj
theorem Zh : type_of% @List.lookup_cons := @List.lookup_cons
theorem Zi : type_of% @Bool.and_eq_true := @Bool.and_eq_true
theorem Zj : type_of% @List.map_append := @List.map_append
theorem Zk : type_of% @Int.le_refl := @Int.le_refl
theorem Zl : type_of% @Nat.lt_irrefl := @Nat.lt_irrefl
theorem Zm : type_of% @List.getElem?_set_ne := @List.getElem?_set_ne
theorem Zn : type_of% @List.length_append := @List.length_append
theorem Zo : type_of% @Nat.zero_add := @Nat.zero_add
theorem Zp : type_of% @List.mem_append_right := @List.mem_append_right
theorem Zq : type_of% @Nat.lt_succ_self := @Nat.lt_succ_self
theorem Zr : type_of% @Int.mul_comm := @Int.mul_comm
theorem Zs : type_of% @Bool.false_eq_true := @Bool.false_eq_true
theorem Zt : type_of% @Array.getElem?_toList := @Array.getElem?_toList
theorem Zu : type_of% @Int.mul_assoc := @Int.mul_assoc
theorem Zv : type_of% @List.getElem?_set_self := @List.getElem?_set_self
theorem Zw : type_of% @PySem.W.kia_one := @PySem.W.kia_one
theorem Zx : type_of% @List.append_nil := @List.append_nil
theorem Zy : type_of% @List.length_take := @List.length_take
theorem Zz : type_of% @PySem.mem_of_lookup := @PySem.mem_of_lookup
theorem ZA : type_of% @Int.eq_ofNat_of_zero_le := @Int.eq_ofNat_of_zero_le
theorem ZC : type_of% @List.take_append_drop := @List.take_append_drop
theorem ZD : type_of% @List.length_replicate := @List.length_replicate
theorem ZE : type_of% @Int.le_of_dvd := @Int.le_of_dvd
theorem ZF : type_of% @List.getElem?_drop := @List.getElem?_drop
theorem ZG : type_of% @List.pairwise_append := @List.pairwise_append
theorem ZH : type_of% @List.getElem?_append_right := @List.getElem?_append_right
theorem ZI : type_of% @Int.natAbs_mul := @Int.natAbs_mul
theorem ZJ : type_of% @Nat.lt_succ_of_lt := @Nat.lt_succ_of_lt
theorem ZK : type_of% @Int.emod_nonneg := @Int.emod_nonneg
theorem ZL : type_of% @List.filterMap_cons := @List.filterMap_cons
theorem ZM : type_of% @List.getElem?_append_left := @List.getElem?_append_left
theorem ZN : type_of% @List.filterMap_append := @List.filterMap_append
theorem ZO : type_of% @List.ext_getElem? := @List.ext_getElem?
theorem ZP : type_of% @List.length_reverse := @List.length_reverse
theorem ZQ : type_of% @List.set_cons_zero := @List.set_cons_zero
theorem ZR : type_of% @List.set_cons_succ := @List.set_cons_succ
theorem ZT : type_of% @List.getElem?_range := @List.getElem?_range
theorem ZU : type_of% @List.getElem_idxOf := @List.getElem_idxOf
theorem ZV : type_of% @List.getElem?_cons_zero := @List.getElem?_cons_zero
theorem ZW : type_of% @List.idxOf_lt_length_of_mem := @List.idxOf_lt_length_of_mem
theorem ZX : type_of% @Int.emod_lt_of_pos := @Int.emod_lt_of_pos
theorem ZY : type_of% @PyProof.Rows.callWith_type1 := @PyProof.Rows.callWith_type1
theorem ZZ : type_of% @List.getElem?_replicate := @List.getElem?_replicate
theorem Z2 : type_of% @List.getElem?_cons_succ := @List.getElem?_cons_succ
theorem Z3 : type_of% @Int.mul_le_mul_of_nonneg_right := @Int.mul_le_mul_of_nonneg_right
theorem Z4 : type_of% @PySem.F.plainAttrs_list := @PySem.F.plainAttrs_list
theorem Z5 : type_of% @PySem.F.slot_list_append := @PySem.F.slot_list_append
theorem Z6 : type_of% @PySem.F.type_list_append := @PySem.F.type_list_append
namespace Hd
open PySem PySem.W PyProof.Rows
noncomputable def uW (ok:Thread->Bool) (st:SharedT->Thread->Option (SharedT×Thread)) (n:Nat):SharedT->Thread->Option SharedT:=
 @Nat.rec (λ_=>SharedT->Thread->Option SharedT) (λ_ _=>none)
  (λ_ ih s t=>@Bool.rec (λ_=>Option SharedT) (@Bool.rec (λ_=>Option SharedT) none (@Option.rec (SharedT×Thread) (λ_=>Option SharedT) none (λr=>@Prod.rec _ _ (λ_=>Option SharedT) (λa b=>ih a b) r) (st s t)) (ok t)) (some s) (through t)) n
theorem lM {tb:String->Option Builtin} {p:Program} {w:World} {n₀:Nat} {ann:Option Value}:∀(n:Nat) (s:SharedT) (t:Thread) (s':SharedT),uW (stepOk n₀ ann) (stepT (denote tb) p w) n s t=some s'->topRun tb p w n₀ ann n s.abs t=some s'.abs
 | 0,_,_,_,h=>by cases h
 | n+1,s,t,s',h=>by
  unfold topRun
  replace h:@Bool.rec (λ_=>Option SharedT) (@Bool.rec (λ_=>Option SharedT) none (@Option.rec (SharedT×Thread) (λ_=>Option SharedT) none (λr=>@Prod.rec _ _ (λ_=>Option SharedT) (λa b=>uW (stepOk n₀ ann) (stepT (denote tb) p w) n a b) r) (stepT (denote tb) p w s t)) (stepOk n₀ ann t)) (some s) (through t)=some s':=h
  cases ht:through t with
  | true=>rw[ht] at h;cases h;rfl
  | false=>
   rw[ht] at h
   cases hk:stepOk n₀ ann t with
   | false=>rw[hk] at h;cases h
   | true=>
    rw[hk] at h
    cases hs:stepT (denote tb) p w s t with
    | none=>rw[hs] at h;cases h
    | some r=>obtain⟨s₂,t₂⟩:=r;rw[hs] at h;rw[stepT_spec hs];exact lM n s₂ t₂ s' h
noncomputable def bt (P:Params):BT:=((boot_heap P).objs.toList.foldl (fun(x:BT×Nat) o=>(x.1.ins x.2 o,x.2+1)) (.nil,0)).1
noncomputable def xJ (w:World) (os:OsState):SharedT:=⟨bt w.params,11,{},Array.mk [],boot_drawn,boot_toks,os⟩
theorem we (w:World) (os:OsState):(xJ w os).abs=⟨boot_heap w.params,Array.mk [],boot_drawn,boot_toks,os⟩:=by kernel_rfl
theorem tP (w:World):((boot_heap w.params).isNs mainGlobals && (Array.mk []:Array GenState).size==0,(boot_heap w.params).objs.size,(boot_heap w.params).nsMap mainGlobals "__annotations__")=(true,11,some (.ref 6)):=by kernel_rfl
theorem xK {p q:Program} {loose:List Str} {Xt:Shared->Bool} {α:Type} {Yf:Shared->α} {Ya:World->α} {N:Nat} {g0:Bool}
  (FH:∀w:World,(fencedOpening treeTable p w N).map (λs=>(s.heap,s.gens,s.drawn,s.toks))=some (boot_heap w.params,Array.mk [],boot_drawn,boot_toks))
  (run:∀(w:World) (os:OsState),(uW (stepOk 11 (some (.ref 6))) (stepT (denote treeTable) p w) N (xJ w os) (topStub p)).map (λs=>((staticsOk (importedModules p.main.body) (boot_heap w.params) s.abs.heap && namesBound p s.abs.heap && gensDone s.abs && laidKept (boot_heap w.params) s.abs.heap),openSeen q loose (importedModules p.main.body) Xt g0 s.abs,Yf s.abs))=some (true,openGood q loose,Ya w)):
  LeftO p q loose Xt Yf Ya N g0:=λw=>by
 obtain⟨⟨h,gs,d,k,os⟩,e,e'⟩:=Option.map_eq_some_iff.mp (FH w)
 obtain⟨rfl,rfl,rfl,rfl⟩:h=boot_heap w.params/\gs=Array.mk []/\d=boot_drawn/\k=boot_toks:=by simpa using e'
 obtain⟨z1,z2,z3⟩:_/\_/\_:=by simpa only[Prod.mk.injEq] using tP w
 obtain⟨s,r,l⟩:=Option.map_eq_some_iff.mp (run w os)
 obtain⟨l1,l2,l3⟩:_/\_/\_:=by simpa only[Prod.mk.injEq] using l
 have r:=lM _ _ _ _ r
 rw[we] at r
 have t:topFrom treeTable p w N ⟨boot_heap w.params,Array.mk [],boot_drawn,boot_toks,os⟩=some s.abs:=by
  unfold topFrom
  dsimp only
  rw[z1,z2,z3,r]
  show(match staticsOk (importedModules p.main.body) (boot_heap w.params) s.abs.heap && namesBound p s.abs.heap && gensDone s.abs && laidKept (boot_heap w.params) s.abs.heap with | true=>_ | false=>_)=_
  rw[l1]
 unfold openEnds
 rw[e]
 show((topFrom treeTable p w N ⟨boot_heap w.params,Array.mk [],boot_drawn,boot_toks,os⟩)).map _=_
 rw[t]
 show some (_,_)=_
 rw[l2,l3]
noncomputable def Runs (p q:Program) (loose:List Str) (Xt:Shared->Bool) {α:Type} (Yf:Shared->α) (Ya:World->α) (N:Nat) (g0:Bool) (w:World):Prop:=
 ∀os:OsState,(uW (PySem.W.Fast.tw6613529449190102663 11 (some (.ref 6))) (PySem.W.Fast.tw10156331382660048174 (PySem.W.Fast.tw11892475500146522536 PySem.W.Fast.tw14364793385576792824) p w) N (xJ w os) (topStub p)).map (λs=>((staticsOk (importedModules p.main.body) (boot_heap w.params) s.abs.heap && namesBound p s.abs.heap && gensDone s.abs && laidKept (boot_heap w.params) s.abs.heap),PySem.W.Fast.tw4187177175401517315 q loose (importedModules p.main.body) Xt g0 s.abs,Yf s.abs))=some (true,openGood q loose,Ya w)
theorem wj {p q:Program} {loose:List Str} {Xt:Shared->Bool} {α:Type} {Yf:Shared->α} {Ya:World->α} {N:Nat} {g0:Bool}
  (e:opening p=plainProg p.main.scope.names) (hN:Nat.ble 600 N=true) (f:∀s,fenceModules? p s=some s)
  (run:∀w:World,Runs p q loose Xt Yf Ya N g0 w):
  LeftO p q loose Xt Yf Ya N g0:=by
 refine xK (boot_open e hN f) ?_
 unfold Runs at run
 rw[PySem.W.Fast.te6613529449190102663,PySem.W.Fast.te10156331382660048174,PySem.W.Fast.te11892475500146522536,PySem.W.Fast.te14364793385576792824,PySem.W.Fast.te4187177175401517315]
 exact run
end Hd
namespace K36
open PySem PySem.Spec PyProof.Rows
noncomputable def top (i:Nat):Stmt:=PySem.Challenge.pw_pressluck_k36_boards_that_go_on.main.body.getD i (.Pass ⟨0,0,0,0⟩)
end K36
section Jx
open PySem PySem.W PyProof.Rows
local macro_rules | `(tactic| o_head $H) => `(tactic| (refine (fun (_ : PySem.W.Hook) => ?_) $H; assumption))
theorem K36.pre (h:PySem.W.OpenRow.Holds (PySem.W.OpenLaw.row PySem.Challenge.rw_pressluck_k36_boards_that_go_on)):PySem.W.OpenRow.Holds (PySem.W.OpenLaw.row PySem.Challenge.rw_pressluck_k36_boards_that_go_on):=by
 k_head
noncomputable def K36.Ca:List Addr:=[2,3,15,18,19,20,23,24,25,28,29,30,33,34,35,38,39,40,47,48,49,50,53,60,61,62,65,72,74,75,77,78,79,80,81,84,91,92,93,96,98,99,101,102,103,105,106,108,109,110,112,113,115,116,117,119,120,122,123,124,126,127,129,130,131,134,135,136,138,139,141,142,143,146,147,148,151,152,153,156,157,158,160,161,163,164,165,168,169,170,172,173,175,176,177,179,180,182,183,184,186,187,189,190,191,194,195,196,199,200,201,203,204,206,207,215,217,218,220,221,222,225,226,227,230,231,232,233,234,235,236,239,241,242,244,245,246,249,250,251,254,255,256,258,259,261,262,263,266,267,268,270,271,273,274,275,278,279,280,282,283,285,286,287,289,290,292,293,294,296,297,299,300,301,303,304,306,307,308,310,311,313,314,315,317,318,320,321,322,324,325,327,328,329,332,333,334,337,338,339,342,343,344,347,348,349,352,353,354,357,358]
theorem K36.CZ (P:PySem.Params):K36.Ca=(K36.pre.heap_1 P).map (·.1):=by kernel_rfl
noncomputable def K36.vw:PySem.Program:={PySem.Challenge.pw_pressluck_k36_boards_that_go_on with main:={PySem.Challenge.pw_pressluck_k36_boards_that_go_on.main with body:=[K36.top 1,K36.top 2,K36.top 3,K36.top 4,K36.top 5,K36.top 7,K36.top 8,K36.top 9,K36.top 10,K36.top 12,K36.top 13,K36.top 14,K36.top 16,K36.top 17,K36.top 18,K36.top 19,K36.top 20,K36.top 21,K36.top 22,K36.top 24,K36.top 25,K36.top 27,K36.top 28,K36.top 29,K36.top 30,K36.top 31,K36.top 32,K36.top 33,K36.top 34,K36.top 35,K36.top 36,K36.top 37,K36.top 38,K36.top 39,K36.top 40,K36.top 41,K36.top 42,K36.top 43,K36.top 45,K36.top 46,K36.top 47,K36.top 48,K36.top 49,K36.top 50,K36.top 51,K36.top 52,K36.top 53,K36.top 54,K36.top 55,K36.top 56]}}
theorem K36.run (w:World):Hd.Runs (RowW.prog (OpenRow.toRowW (PySem.W.OpenLaw.row PySem.Challenge.rw_pressluck_k36_boards_that_go_on))) K36.vw [] (λs=>xlAt K36.vw [] s && recOk (RowW.records (OpenRow.toRowW (PySem.W.OpenLaw.row PySem.Challenge.rw_pressluck_k36_boards_that_go_on))) s) (Hook.obs (PySem.W.kmHook K36.pre.heap_1 K36.Ca K36.CZ [166])) (Hook.val (PySem.W.kmHook K36.pre.heap_1 K36.Ca K36.CZ [166])) 5042 true w:=λos=>by kernel_rfl
end Jx
set_option tactic.hygienic false
set_option compiler.extract_closed false
local macro_rules | `(tactic| omega) => `(tactic| lia)
namespace L2
open PySem PySem.Spec PyProof.Rows
abbrev Key:=Sum Int Str
noncomputable def lN:Key->Value->Bool
 | .inl k,v=>Value.isInt k v
 | .inr x,v=>Value.isStrOf x v
noncomputable def C0 (w:World):Key->Int
 | .inl k=>hashInt k
 | .inr x=>hashStr w x
theorem bP:∀{k:Key} {v:Value},lN k v=true->(∃i t,k=Sum.inl i/\v=Value.int i t)\/(∃x t,k=Sum.inr x/\v=Value.str x t)
 | .inl i,v,h=>by
  obtain⟨t,e⟩:=Value.isInt_shape (k:=i) (v:=v) h
  exact .inl ⟨i,t,rfl,e⟩
 | .inr x,v,h=>by
  obtain⟨t,e⟩:=Value.isStrOf_shape (x:=x) (v:=v) h
  exact .inr ⟨x,t,rfl,e⟩
theorem wk (i:Int) (t:Tok):lN (.inl i) (.int i t)=true:=by simp [lN,Value.isInt]
theorem wm (x:Str) (t:Tok):lN (.inr x) (.str x t)=true:=by simp [lN,Value.isStrOf]
theorem C3 (a b:Int):decide ((Sum.inl a:Key)=Sum.inl b)=(a==b):=by
 by_cases e:a=b
 ·subst e;simp
 ·have h:¬(Sum.inl a:Key)=Sum.inl b:=λq=>e (Sum.inl.inj q)
  rw[decide_eq_false h]
  exact(beq_eq_false_iff_ne.mpr e).symm
theorem C4 (a b:Str):decide ((Sum.inr a:Key)=Sum.inr b)=decide (a=b):=by
 by_cases e:a=b
 ·subst e;simp
 ·have h:¬(Sum.inr a:Key)=Sum.inr b:=λq=>e (Sum.inr.inj q)
  rw[decide_eq_false h,decide_eq_false e]
theorem C5 (a:Int) (b:Str):decide ((Sum.inl a:Key)=Sum.inr b)=false:=decide_eq_false (λq=>nomatch q)
theorem C6 (a:Str) (b:Int):decide ((Sum.inr a:Key)=Sum.inl b)=false:=decide_eq_false (λq=>nomatch q)
noncomputable def bO (prog:Program) (w:World):PySem.KeyKind prog w Key where
 is:=lN
 hash:=C0 w
 inj:=λv a b ha hb=>by
  rcases bP ha with ⟨i,t,rfl,rfl⟩ | ⟨x,t,rfl,rfl⟩
  ·rcases bP hb with ⟨j,u,rfl,e⟩ | ⟨y,u,rfl,e⟩
   ·injection e with e1 _;rw[e1]
   ·exact nomatch e
  ·rcases bP hb with ⟨j,u,rfl,e⟩ | ⟨y,u,rfl,e⟩
   ·exact nomatch e
   ·injection e with e1 _;rw[e1]
 byValue:=λk v h=>by
  rcases bP h with ⟨i,t,rfl,rfl⟩ | ⟨x,t,rfl,rfl⟩ <;>rfl
 pyHash:=λhv h=>by
  rcases bP hv with ⟨i,t,rfl,rfl⟩ | ⟨x,t,rfl,rfl⟩
  ·exact wpAny_pyHash_int h
  ·exact wpAny_pyHash_str h
 eqBool:=λhu hv h=>by
  rcases bP hu with ⟨i,t,rfl,rfl⟩ | ⟨x,t,rfl,rfl⟩
  ·rcases bP hv with ⟨j,u,rfl,rfl⟩ | ⟨y,u,rfl,rfl⟩
   ·rw[C3] at h;exact wpAny_eqBool_int h
   ·rw[C5] at h;exact SeqAt.EqAt.int_str i t y u _ _ _ _ h
  ·rcases bP hv with ⟨j,u,rfl,rfl⟩ | ⟨y,u,rfl,rfl⟩
   ·rw[C6] at h;exact SeqAt.EqAt.str_int x t j u _ _ _ _ h
   ·rw[C4] at h;exact wpAny_eqBool_str h
 «strs»:=λk x t v h=>by
  rcases bP h with ⟨i,u,rfl,e⟩ | ⟨y,u,rfl,e⟩
  ·exact nomatch e
  ·injection e with e1 _
   subst e1
   cases v <;>rfl
theorem qH (prog:Program) (w:World) (i:Int) (t:Tok):(bO prog w).is (.inl i) (.int i t)=true:=wk i t
theorem qI (prog:Program) (w:World) (x:Str) (t:Tok):(bO prog w).is (.inr x) (.str x t)=true:=wm x t
end L2
namespace L2
open PySem PySem.Spec PyProof.Rows
inductive V where
 | bV | bl (b:Bool) | int (i:Int) | str (x:Str) | xB (b:Array UInt8) | C7 (b:UInt64) | ref (a:Addr) | ty (n:String)
 deriving DecidableEq
noncomputable def RelV:V->Value->Prop
 | .bV,u=>u=Value.none
 | .bl b,u=>u=Value.bool b
 | .int i,u=>∃t,u=Value.int i t
 | .str x,u=>∃t,u=Value.str x t
 | .xB b,u=>∃t,u=Value.bytes b t
 | .C7 b,u=>∃t,u=Value.float b t
 | .ref a,u=>u=Value.ref a
 | .ty n,u=>u=Value.type n
abbrev aV:List V->List Value->Prop:=Paired RelV
theorem aV.length {xs:List V} {us:List Value} (r:aV xs us):xs.length=us.length:=Paired.length r
theorem aV.get:∀{xs:List V} {us:List Value} {i:Nat} {x:V},aV xs us->xs[i]?=some x->∃u,us[i]?=some u/\RelV x u
 | _,_,_,_,.nil,e=>by simp at e
 | _,_,0,_,.cons r _,e=>by simp at e;subst e;exact⟨_,rfl,r⟩
 | _,_,i+1,x,.cons _ t,e=>by
  obtain⟨u,h1,h2⟩:=aV.get (i:=i) (x:=x) t (by simpa using e)
  exact⟨u,by simpa using h1,h2⟩
theorem aV.set {x:V} {u:Value} (r:RelV x u):∀{xs:List V} {us:List Value} (i:Nat),aV xs us->aV (xs.set i x) (us.set i u)
 | _,_,_,.nil=>.nil
 | _,_,0,.cons _ t=>.cons r t
 | _,_,i+1,.cons q t=>.cons q (aV.set r i t)
theorem aV.append:∀{xs ys:List V} {us ws:List Value},aV xs us->aV ys ws->aV (xs++ys) (us++ws)
 | _,_,_,_,.nil,s=>s
 | _,_,_,_,.cons r t,s=>.cons r (aV.append t s)
theorem aV.take:∀{xs:List V} {us:List Value} (n:Nat),aV xs us->aV (xs.take n) (us.take n)
 | _,_,0,_=>.nil
 | _,_,_+1,.nil=>.nil
 | _,_,n+1,.cons r t=>.cons r (aV.take n t)
theorem aV.drop:∀{xs:List V} {us:List Value} (n:Nat),aV xs us->aV (xs.drop n) (us.drop n)
 | _,_,0,r=>r
 | _,_,_+1,.nil=>.nil
 | _,_,n+1,.cons _ t=>aV.drop n t
noncomputable def gZ:Option V->Option Value->Prop
 | some v,some u=>RelV v u
 | none,none=>True
 | _,_=>False
noncomputable def KV {κ:Type}:List (κ×V)->List (κ×Value)->Prop:=Paired fun(p:κ×V) (q:κ×Value)=>p.1=q.1/\RelV p.2 q.2
noncomputable def kV:Key->V
 | .inl i=>.int i
 | .inr x=>.str x
inductive HO where
 | lst (xs:List V)
 | tup (xs:List V)
 | dK (kvs:List (Key×V)) | dT (kvs:List (List Key×V))
 | set (S:Int->Bool) (n:Nat)
 | ins (C dx:Addr) (fs:List (Str×V))
 | own (x:Addr)
 | xd (fs:List (Str×V))
 | met (f x:Addr)
 | nW (lo hi:Int)
 | qF (o:Obj) (u:HO)
 | pJ (ps:Array Value)
 | ext (φ:Heap->Prop)
abbrev Hp:=Addr->Option HO
noncomputable def upd (H:Hp) (a:Addr) (o:HO):Hp:=λb=>if b=a then some o else H b
theorem ag {H:Hp} {a:Addr} {o:HO}:upd H a o a=some o:=by unfold upd;rw[if_pos rfl]
theorem ax {H:Hp} {a b:Addr} {o:HO} (h:b≠a):upd H a o b=H b:=by unfold upd;rw[if_neg h]
theorem AH {H:Hp} {a:Addr} {o u:HO}:upd (upd H a o) a u=upd H a u:=by
 funext b;unfold upd;split <;>rfl
theorem FI {H:Hp} {a b:Addr} {o u:HO} (h:H a=some o) (h':H b=some u) (d:o≠u):a≠b:=by
 intro e;subst e;rw[h] at h';exact d (Zg h')
theorem ba {H:Hp} {a b:Addr} {o:HO} (h:H a=some o) (h':H b=none):a≠b:=by
 intro e;subst e;rw[h] at h';cases h'
noncomputable def TabAt (H:Hp) (h:Heap) (a:Addr) (ps:Array Value):Prop:=∃mo:Array Value,h.get? a=some {cls:=.none,data:=.fields mo}/\
 (mo=#[]\/∃(l c:Value) (c1:Addr) (q:Str) (t:Tok),ps=#[l,c,.str q t]/\mo=#[l,c,.ref c1]/\H c1=some (.own a)/\h.CodeRec (.ref c1) q)
section
variable (P : Program) (w : World)
noncomputable def bQ (H:Hp) (h:Heap) (a:Addr):HO->Prop
 | .lst xs=>xs.length<=sizeLine/\∃(aN:List Value) (n:Nat),aV xs aN/\h.get? a=some {cls:=.type "list",data:=.seq aN.toArray n}
 | .tup xs=>xs.length<=sizeLine/\∃aN:List Value,aV xs aN/\IsTup h a aN.toArray
 | .dK kvs=>kvs.length<=sizeLine/\(a==sysModules)=false/\∃vs,KV kvs vs/\h.DictOf (bO P w) a vs
 | .dT kvs=>kvs.length<=sizeLine/\(a==sysModules)=false/\∃xs:List (List Key×Addr×Value),
   Paired (fun(p:List Key×V) (q:List Key×Addr×Value)=>p.1=q.1/\H q.2.1=some (.tup (p.1.map kV))/\RelV p.2 q.2.2) kvs xs/\
   ∃o es ep,h.get? a=some o/\o.ExactDict/\o.data=.dict es ep/\es.toList=xs.map (entryOfKey (tupleKind (bO P w)))/\(xs.map (·.1)).Nodup
 | .set S n=>h.SetOf (intKind P w) a S n
 | .ins C dx fs=>H dx=some (.own a)/\fs.length<=1000/\dx≠a/\h.get? a=some (PySem.W.instObj C dx)/\
   ∃mA,h.Ns1 dx mA/\(∀f,gZ (fs.lookup f) (mA f))/\PySem.Within mA (fs.map (·.1))
 | .own _=>∃o,h.get? a=some o
 | .xd fs=>∃mA,h.Ns1 a mA/\∀f,gZ (fs.lookup f) (mA f)
 | .nW lo hi=>∃t u v,h.get? a=some {cls:=.type "range",data:=.fields #[.int lo t,.int hi u,.int 1 v]}
 | .qF o u=>h.get? a=some o/\bQ H h a u
 | .pJ ps=>TabAt H h a ps
 | .met f x=>h.get? a=some (PySem.W.methodObj (.ref f) (.ref x))
 | .ext φ=>φ h/\(∃o,h.get? a=some o)/\∀h1 h2:Heap,φ h1->(∀o,h1.get? a=some o->h2.get? a=some o)->φ h2
noncomputable def gf (H:Hp) (h:Heap):Prop:=∀a o,H a=some o->bQ P w H h a o
end
section
variable {P : Program} {w : World} {H H' : Hp} {h h' : Heap} {a : Addr} {o : HO}
theorem bQ.lt (x:bQ P w H h a o):a<h.objs.size:=by
 cases o with
 | lst xs=>obtain⟨_,_,_,_,e⟩:=x;exact Heap.lt_size e
 | tup xs=>obtain⟨_,_,_,p⟩:=x;exact p.lt
 | dK kvs=>obtain⟨_,_,_,_,o,_,_,e,_⟩:=x;exact Heap.lt_size e
 | dT kvs=>obtain⟨_,_,_,_,o,_,_,e,_⟩:=x;exact Heap.lt_size e
 | set S n=>obtain⟨o,_,_,_,e,_⟩:=x;exact Heap.lt_size e
 | ins C dx fs=>obtain⟨_,_,_,e,_⟩:=x;exact Heap.lt_size e
 | own y=>obtain⟨_,e⟩:=x;exact Heap.lt_size e
 | xd fs=>obtain⟨_,⟨_,_,_,e,_⟩,_⟩:=x;exact Heap.lt_size e
 | nW lo hi=>obtain⟨_,_,_,e⟩:=x;exact Heap.lt_size e
 | qF ob u=>obtain⟨e,_⟩:=x;exact Heap.lt_size e
 | pJ ps=>obtain⟨_,e,_⟩:=x;exact Heap.lt_size e
 | met f y=>exact Heap.lt_size (show h.get? a=some _ from x)
 | ext φ=>obtain⟨_,⟨_,e⟩,_⟩:=x;exact Heap.lt_size e
theorem Paired.C8 {α β:Type} {F G:α->β->Prop}:∀{l₁:List α} {l₂:List β},Paired F l₁ l₂->(∀a b,F a b->G a b)->Paired G l₁ l₂
 | _,_,.nil,_=>.nil
 | _,_,.cons r t,f=>.cons (f _ _ r) (Paired.C8 t f)
theorem bQ.nX (x:bQ P w H h a o) (k:∀b u,(b=a\/H b=some (.own a))->h.get? b=some u->h'.get? b=some u)
  (ho:∀b,H b=some (.own a)->H' b=some (.own a)) (ht:∀b xs,H b=some (.tup xs)->H' b=some (.tup xs)):bQ P w H' h' a o:=by
 induction o with
 | lst xs=>obtain⟨z,aN,n,r,e⟩:=x;exact⟨z,aN,n,r,k _ _ (.inl rfl) e⟩
 | tup xs=>obtain⟨z,aN,r,ob,e,c⟩:=x;exact⟨z,aN,r,ob,k _ _ (.inl rfl) e,c⟩
 | dK kvs=>obtain⟨z,y,vs,r,ob,es,ep,e,c⟩:=x;exact⟨z,y,vs,r,ob,es,ep,k _ _ (.inl rfl) e,c⟩
 | dT kvs=>
  obtain⟨z,y,xs,r,ob,es,ep,e,c⟩:=x
  exact⟨z,y,xs,Paired.C8 r λp q z=>⟨z.1,ht _ _ z.2.1,z.2.2⟩,ob,es,ep,k _ _ (.inl rfl) e,c⟩
 | set S n=>obtain⟨ob,es,ep,t,e,c⟩:=x;exact⟨ob,es,ep,t,k _ _ (.inl rfl) e,c⟩
 | ins C dx fs=>
  obtain⟨d,z,ne,e,mA,⟨od,es,ep,e2,c⟩,r⟩:=x
  exact⟨ho _ d,z,ne,k _ _ (.inl rfl) e,mA,⟨od,es,ep,k _ _ (.inr d) e2,c⟩,r⟩
 | own y=>obtain⟨ob,e⟩:=x;exact⟨ob,k _ _ (.inl rfl) e⟩
 | xd fs=>obtain⟨mA,⟨od,es,ep,e,c⟩,r⟩:=x;exact⟨mA,⟨od,es,ep,k _ _ (.inl rfl) e,c⟩,r⟩
 | nW lo hi=>obtain⟨t,u,v,e⟩:=x;exact⟨t,u,v,k _ _ (.inl rfl) e⟩
 | qF ob u ih=>obtain⟨e,q⟩:=x;exact⟨k _ _ (.inl rfl) e,ih q⟩
 | pJ ps=>
  obtain⟨mo,e,q⟩:=x
  refine⟨mo,k _ _ (.inl rfl) e,?_⟩
  rcases q with q | ⟨l,c,c1,qn,t,e1,e2,e3,c2,o2,Jy,t2,f1,f2,f3,f4⟩
  ·exact .inl q
  ·cases f1
   exact .inr ⟨l,c,c1,qn,t,e1,e2,ho _ e3,c1,o2,Jy,t2,rfl,k _ _ (.inr e3) f2,f3,f4⟩
 | met f y=>
  have e:h.get? a=some (PySem.W.methodObj (.ref f) (.ref y)):=x
  show h'.get? a=some (PySem.W.methodObj (.ref f) (.ref y))
  exact k a _ (.inl rfl) e
 | ext φ=>obtain⟨p,⟨o,e⟩,st⟩:=x;exact⟨st _ _ p λo q=>k _ _ (.inl rfl) q,⟨o,k _ _ (.inl rfl) e⟩,st⟩
theorem gf.lt (x:gf P w H h) (e:H a=some o):a<h.objs.size:=(x a o e).lt
theorem gf.fresh (x:gf P w H h) (e:h.objs.size<=a):H a=none:=by
 cases q:H a with
 | none=>rfl
 | some u=>exact absurd (YY (x.lt q) e) (Zl _)
theorem gf.kept (x:gf P w H h) (k:∀b u,h.get? b=some u->h'.get? b=some u):gf P w H h':=λa o e=>
 (x a o e).nX (λb u _ q=>k b u q) (λ_ q=>q) λ_ _ q=>q
theorem gf.laid (x:gf P w H h) (k:∀b u,h.get? b=some u->h'.get? b=some u) (hp:h.objs.size<=a) (new:bQ P w (upd H a o) h' a o):gf P w (upd H a o) h':=λb u e=>by
 have hn:=x.fresh hp
 by_cases hb:b=a
 ·subst hb;rw[ag] at e;cases e;exact new
 ·rw[ax hb] at e
  exact(x b u e).nX (λc v _ q=>k c v q) (λc q=>by rw[ax (ba q hn)];exact q) λc xs q=>by rw[ax (ba q hn)];exact q
end
noncomputable def Rd (H:Hp) (a:Addr) (u:HO):Prop:=H a=some u\/∃o,H a=some (.qF o u)
theorem Rd.ok {P:Program} {w:World} {H:Hp} {h:Heap} {a:Addr} {u:HO} (r:Rd H a u) (x:gf P w H h):bQ P w H h a u:=by
 rcases r with r | ⟨o,r⟩
 ·exact x a u r
 ·obtain⟨_,q⟩:=x a _ r
  exact q
noncomputable def FJ:Option HO->Prop
 | some (.lst _)=>True
 | some (.dK _)=>True
 | some (.dT _)=>True
 | some (.set _ _)=>True
 | some (.ins _ _ _)=>True
 | some (.ext _)=>True
 | _=>False
section
variable {P : Program} {w : World} {H : Hp} {h h' : Heap} {x e : Addr} {o' : HO}
theorem gf.write (ok:gf P w H h) (mu:FJ (H x)) (he:e=x\/H e=some (.own x)) (k:∀b u,b≠e->h.get? b=some u->h'.get? b=some u) (Fi:∃u,h'.get? e=some u)
  (new:bQ P w (upd H x o') h' x o'):gf P w (upd H x o') h':=λb u q=>by
 have FK:∀c y,H c=some (.own y)->c≠x:=λc y r z=>by subst z;rw[r] at mu;exact mu
 have Jz:∀c xs,H c=some (.tup xs)->c≠x:=λc xs r z=>by subst z;rw[r] at mu;exact mu
 by_cases hb:b=x
 ·subst hb;rw[ag] at q;cases q;exact new
 ·rw[ax hb] at q
  by_cases C9:b=e
  ·have q':H b=some (.own x):=by
    rcases he with z | z
    ·exact absurd (C9.trans z) hb
    ·rw[C9];exact z
   rw[q] at q';cases q'
   obtain⟨v,hv⟩:=Fi
   exact⟨v,by rw[C9];exact hv⟩
  ·refine(ok b u q).nX (λc v hc r=>k c v ?_ r) (λc r=>by rw[ax (FK c b r)];exact r) λc xs r=>by rw[ax (Jz c xs r)];exact r
   rcases hc with rfl | hc
   ·exact C9
   ·rintro rfl
    rcases he with z | z
    ·exact FK c b hc z
    ·rw[hc] at z;cases z;exact hb rfl
end
structure Un (fs ex:List Addr) (H H':Hp) (h h':Heap):Prop where
 keep:∀b o,h.get? b=some o->H b=none->b∉fs->b∉ex->h'.get? b=some o
 slot:∀b o,h.get? b=some o->H b=none->b∈fs->b∉ex->∃sl,h'.get? b=some {o with slots:=sl}
 free:∀b o,h.get? b=some o->H b=none->b∉ex->H' b=none
 there:∀b o,h.get? b=some o->b∉ex->∃o',h'.get? b=some o'
 kj:∀b xs,H b=some (.tup xs)->H' b=some (.tup xs)
 lO:∀b o u,H b=some (.qF o u)->H' b=some (.qF o u)
 lP:∀b ps,H b=some (.pJ ps)->∃more,H' b=some (.pJ (ps++more))
section
variable {fs SU ex pK : List Addr} {H H1 H2 : Hp} {h h1 h2 h' : Heap} {a x e : Addr} {o : HO}
theorem Un.any (u:Un fs ex H H1 h h1) {b:Addr} {ob:Obj} (q:h.get? b=some ob) (n:H b=none) (hx:b∉ex):∃sl,h1.get? b=some {ob with slots:=sl}:=by
 by_cases hb:b∈fs
 ·exact u.slot b ob q n hb hx
 ·exact⟨ob.slots,u.keep b ob q n hb hx⟩
theorem Un.kept (k:∀b u,h.get? b=some u->h'.get? b=some u):Un fs ex H H h h':=
 ⟨λb ob q _ _ _=>k b ob q,λb ob q _ _ _=>⟨ob.slots,k b ob q⟩,λ_ _ _ n _=>n,λb ob q _=>⟨ob,k b ob q⟩,λ_ _ q=>q,λ_ _ _ q=>q,λ_ ps q=>⟨#[],by rw[q];simp⟩⟩
theorem Un.refl:Un fs ex H H h h:=Un.kept λ_ _ q=>q
theorem Un.laid (k:∀b u,h.get? b=some u->h'.get? b=some u) (hp:h.objs.size<=a) (hn:H a=none):Un fs ex H (upd H a o) h h' where
 keep:=λb u q _ _ _=>k b u q
 slot:=λb u q _ _ _=>⟨u.slots,k b u q⟩
 free:=λb u q n _=>by rw[ax (YT (YY (Heap.lt_size q) hp))];exact n
 there:=λb u q _=>⟨u,k b u q⟩
 kj:=λb xs q=>by rw[ax (ba q hn)];exact q
 lO:=λb u xs q=>by rw[ax (ba q hn)];exact q
 lP:=λb ps q=>⟨#[],by rw[ax (ba q hn),q];simp⟩
theorem Un.write (mu:FJ (H x)) (he:e=x\/H e=some (.own x)) (k:∀b u,b≠e->h.get? b=some u->h'.get? b=some u) (Fi:∃u,h'.get? e=some u):Un fs ex H (upd H x o) h h':=by
 have hx:∀b,H b=none->b≠x:=λb n z=>by subst z;rw[n] at mu;exact mu
 have hb:∀b,H b=none->b≠e:=λb n z=>by
  subst z
  rcases he with r | r
  ·exact hx b n r
  ·rw[n] at r;cases r
 have hm:∀b u,H b=some u->¬FJ (some u)->b≠x:=λb u q nm z=>by subst z;rw[q] at mu;exact nm mu
 refine⟨λb u q n _ _=>k b u (hb b n) q,λb u q n _ _=>⟨u.slots,k b u (hb b n) q⟩,λb u q n _=>by rw[ax (hx b n)];exact n,λb u q _=>?_,
  λb xs q=>by rw[ax (hm b _ q λz=>z)];exact q,λb u xs q=>by rw[ax (hm b _ q λz=>z)];exact q,λb ps q=>⟨#[],by rw[ax (hm b _ q λz=>z),q];simp⟩⟩
 by_cases C9:b=e
 ·subst C9;exact Fi
 ·exact⟨u,k b u C9 q⟩
end
noncomputable def IF (h:Heap) (H:Hp):List Addr:=(List.range h.objs.size).filter λa=>(H a).isSome
noncomputable def lQ (h:Heap) (H:Hp):Heap:=PySem.W.hideAll h (IF h H)
theorem wo (h:Heap) (H:Hp):(lQ h H).objs.size=h.objs.size:=PySem.W.hideAll_size _ _
theorem xM {h:Heap} {H:Hp} {b:Addr} {o:Obj} (e:h.get? b=some o) (n:H b=none):(lQ h H).get? b=some o:=
 PySem.W.hideAll_get _ e λhm=>by
  have q:(H b).isSome=true:=(List.mem_filter.mp hm).2
  rw[n] at q;simp at q
theorem AI {h:Heap} {H:Hp} {b:Addr} {o:Obj} (e:(lQ h H).get? b=some o):h.get? b=some o/\H b=none:=by
 have e':h.get? b=some o:=PySem.W.of_hideAll (IF h H) e
 refine⟨e',?_⟩
 cases q:H b with
 | none=>rfl
 | some x=>
  have hm:b∈IF h H:=List.mem_filter.mpr ⟨List.mem_range.mpr (Heap.lt_size e'),by simp [q]⟩
  have z:(lQ h H).get? b=none:=PySem.W.hideAll_none (IF h H) hm
  rw[z] at e;cases e
noncomputable def AJ (g h:Heap) (L:Addr):List (Addr×Obj):=(List.range h.objs.size).filterMap λa=>if a=L\/(g.get? a).isSome=true then none else (h.get? a).map λo=>(a,o)
noncomputable def rest (g h:Heap) (L d:Addr):List (Addr×Obj):=(AJ g h L).filter λp=>decide (p.1≠d)
end L2
namespace L2
open PySem PySem.Spec PyProof.Rows
structure Mod (K:PySem.W.Frag) (mg:Str->Option Value) (base:Heap):Prop where
 FL:K.In base
 glob:base.Ns mainGlobals mg
 blt:∃mb,base.Ns builtinsNs mb/\∀x:Str,x≠"__name__"->mb x=bootBuiltins x
 nolimit:base.NoLimit
structure Cx where
 prog:Program
 w:World
 K:PySem.W.Frag
 mg:Str->Option Value
 base:Heap
 A:Around
 N:List Str
 s₀:Shared
 H₀:Hp
 env:Env
 outer:List Env
 stack:List Env
 ex:List Addr
 fn:Str->Bool
 calm:Bool
 pn:List (Addr×Obj)
 xe:Value->Shared->Prop
def qJ (l:List Env):List Addr:=l.filterMap (·.frame)
abbrev Cx.fs (X:Cx):List Addr:=qJ X.outer
noncomputable def JA (sc:Scope) (x:Str):Prop:=sc.names.lookup x=some .local\/sc.names.lookup x=some .cell\/sc.names.lookup x=some .free
noncomputable def Loc (sc:Scope) (x:Str):Prop:=sc.names.lookup x=some .local\/sc.names.lookup x=some .cell
noncomputable def Look (env:Env) (h:Heap) (m:Str->Option Value) (x:Str) (u:Value):Prop:=
 (env.kindOf x=some .local/\m x=some u)\/((env.kindOf x=some .cell\/env.kindOf x=some .free)/\∃c,env.cells.lookup x=some c/\h.IsCell c (some u))
structure Cx.Ok (X:Cx):Prop where
 mod:Mod X.K X.mg X.base
 kind:X.env.scope.kind=.function
 glob:X.env.globals=mainGlobals
 blt:X.env.builtins=builtinsNs
 above:X.s₀.heap.objs.size<=X.env.locals
 inj:∀x y c,X.env.cells.lookup x=some c->X.env.cells.lookup y=some c->x=y
 has:∀x,(X.env.kindOf x=some .cell\/X.env.kindOf x=some .free)->∃c,X.env.cells.lookup x=some c
 Fj:∀x c,X.fn x=true->X.env.cells.lookup x=some c->X.s₀.heap.objs.size<=c
 hd:X.calm=true->X.A.handled=none
 frames:X.A.frames=some X.stack
 FN:X.stack=X.outer\/(X.stack=X.env::X.outer/\X.env.frame=some X.env.locals)
 JB:∀b∈X.ex,b≠X.env.locals/\∀x c,X.env.cells.lookup x=some c->c≠b
 bs:∀b o,X.base.get? b=some o->X.s₀.heap.get? b=some o/\X.H₀ b=none
 xN:X.base.objs.size<=X.s₀.heap.objs.size
 wq:∀b o,X.base.get? b=some o->b∉X.ex
 xO:∀b∈X.ex,b∉X.fs
 jy:X.s₀.heap.FunFrames X.base X.outer
 Cb:∀b∈X.fs,X.H₀ b=none
structure Inv (X:Cx) (pins:List (Addr×Obj)) (σ:List (Option V)) (H:Hp) (s:Shared):Prop where
 ok:X.Ok
 os:s.os=X.s₀.os
 bare:AllBare s.gens
 base:Un X.fs X.ex X.H₀ H X.s₀.heap s.heap
 loc:∃m,s.heap.Ns X.env.locals m/\∀(i:Nat) (x:Str) (v:V),X.N[i]?=some x->σ[i]?=some (some v)->JA X.env.scope x->∃u,RelV v u/\Look X.env s.heap m x u
 cell:∀x c,X.env.cells.lookup x=some c->∃v,s.heap.IsCell c v
 free:H X.env.locals=none
 gi:∀x c,X.env.cells.lookup x=some c->H c=none
 pin:∀p∈X.pn++pins,s.heap.get? p.1=some p.2/\H p.1=none/\p.1≠X.env.locals/\p.1∉X.fs/\∀v,p.2.data≠.cell v
 bE:gf X.prog X.w H s.heap
 len:σ.length=X.N.length
section
variable {X : Cx} {pins : List (Addr × Obj)} {σ : List (Option V)} {H H' : Hp} {s : Shared} {h' : Heap}
theorem Cx.Ok.JC (ok:X.Ok) {b:Addr} {o:Obj} (e:X.base.get? b=some o):b∉X.fs:=λhb=>by
 have:=(ok.jy.mem hb).1
 rw[e] at this;cases this
theorem Inv.bs (I:Inv X pins σ H s):∀b o,X.base.get? b=some o->s.heap.get? b=some o/\H b=none:=λb o e=>
 ⟨I.base.keep b o (I.ok.bs b o e).1 (I.ok.bs b o e).2 (I.ok.JC e) (I.ok.wq b o e),I.base.free b o (I.ok.bs b o e).1 (I.ok.bs b o e).2 (I.ok.wq b o e)⟩
theorem Inv.bk (I:Inv X pins σ H s):∀b o,X.base.get? b=some o->s.heap.get? b=some o:=λb o e=>(I.bs b o e).1
theorem Inv.mod (I:Inv X pins σ H s):Mod X.K X.mg X.base:=I.ok.mod
theorem Inv.km (I:Inv X pins σ H s):X.K.In s.heap:=I.ok.mod.FL.keeps I.bk
theorem Inv.lt (I:Inv X pins σ H s):X.env.locals<s.heap.objs.size:=let ⟨_,hn,_⟩:=I.loc;hn.lt
theorem Inv.sz (I:Inv X pins σ H s):X.s₀.heap.objs.size<=s.heap.objs.size:=Y2 I.ok.above (Nat.le_of_lt I.lt)
theorem Inv.JD (I:Inv X pins σ H s) {a:Addr} (h:s.heap.objs.size<=a):a∉X.fs:=λhb=>by
 obtain⟨_,o,ho,_⟩:=I.ok.jy.mem hb
 exact absurd (YY (Heap.lt_size ho) (Y2 I.sz h)) (Zl _)
theorem Inv.Dc (I:Inv X pins σ H s):∀x c,X.env.cells.lookup x=some c->c≠X.env.locals:=λx c e z=>by
 obtain⟨v,o,ho,hd⟩:=I.cell x c e
 obtain⟨m,⟨o',es,ep,Dd,FO,_⟩,_⟩:=I.loc
 rw[z,Dd] at ho;cases ho;rw[FO] at hd;cases hd
theorem Inv.jy (I:Inv X pins σ H s):s.heap.FunFrames X.base X.outer:=by
 have all:∀(l:List Env),(∀b∈qJ l,b∈X.fs)->X.s₀.heap.FunFrames X.base l->s.heap.FunFrames X.base l:=by
  intro l
  induction l with
  | nil=>intro _ _;trivial
  | cons env r ih=>
   intro hs hl
   obtain⟨hk,⟨L,o,hf,hn,ho,hd⟩,hr⟩:=hl
   have hL:L∈X.fs:=hs L (by unfold qJ;rw[ZL,hf];exact YW)
   obtain⟨sl,e⟩:=I.base.slot L o ho (I.ok.Cb L hL) hL λz=>I.ok.xO L z hL
   exact⟨hk,⟨L,_,hf,hn,e,hd⟩,ih (λb hb=>hs b (by unfold qJ;rw[ZL,hf];exact YU _ hb)) hr⟩
 exact all X.outer (λ_ hb=>hb) I.ok.jy
theorem Inv.stack (I:Inv X pins σ H s):s.heap.FunFrames X.base X.stack:=by
 rcases I.ok.FN with e | ⟨e,hf⟩
 ·rw[e];exact I.jy
 ·rw[e]
  obtain⟨m,hn,_⟩:=I.loc
  refine .cons (by rw[I.ok.kind];decide) hf hn ?_ I.jy
  exact Heap.get?_none_of_le (Y2 I.ok.xN I.ok.above)
theorem Inv.pL (I:Inv X pins σ H s):∀b∈qJ X.stack,b∈X.env.locals::X.fs:=λb hb=>by
 rcases I.ok.FN with e | ⟨e,hf⟩
 ·rw[e] at hb;exact YU _ hb
 ·rw[e] at hb
  unfold qJ at hb
  rw[ZL,hf] at hb
  exact hb
theorem Inv.uX (I:Inv X pins σ H s):∀b∈qJ X.stack,H b=none:=λb hb=>by
 rcases List.mem_cons.mp (I.pL b hb) with e | hb
 ·rw[e];exact I.free
 ·obtain⟨_,o,ho,_⟩:=I.ok.jy.mem hb
  exact I.base.free b o ho (I.ok.Cb b hb) λz=>I.ok.xO b z hb
theorem Inv.step {g':Array GenState} {t':Nat} {d':Drawn} {ch:List Addr} (I:Inv X pins σ H s)
  (As:∀b∈ch,(b∈X.ex\/X.s₀.heap.objs.size<=b)/\b≠X.env.locals/\(∀x c,X.env.cells.lookup x=some c->c≠b)/\∀p∈X.pn++pins,p.1≠b)
  (keep:∀b o,b≠X.env.locals->b∉X.fs->b∉ch->s.heap.get? b=some o->H b=none->h'.get? b=some o)
  (slot:∀b o,b≠X.env.locals->b∈X.fs->b∉ch->s.heap.get? b=some o->H b=none->∃sl,h'.get? b=some {o with slots:=sl}) (free:∀b o,b∉ch->s.heap.get? b=some o->H b=none->H' b=none)
  (there:∀b o,b∉ch->s.heap.get? b=some o->∃o',h'.get? b=some o')
  (kj:∀b xs,H b=some (.tup xs)->H' b=some (.tup xs)) (lO:∀b o u,H b=some (.qF o u)->H' b=some (.qF o u)) (lP:∀b ps,H b=some (.pJ ps)->∃more,H' b=some (.pJ (ps++more)))
  (ns:∀m,s.heap.Ns X.env.locals m->h'.Ns X.env.locals m) (bE:gf X.prog X.w H' h') (hg:AllBare g'):
  Inv X pins σ H' {s with heap:=h',gens:=g',drawn:=d',toks:=t'}:=by
 have Q5:∀b o,X.s₀.heap.get? b=some o->b≠X.env.locals:=λb o e=>YT (YY (Heap.lt_size e) I.ok.above)
 have IG:∀b o,X.s₀.heap.get? b=some o->b∉X.ex->b∉ch:=λb o e hx hb=>by
  rcases(As b hb).1 with z | z
  ·exact hx z
  ·exact absurd (YY (Heap.lt_size e) z) (Zl _)
 have cellK:∀x c,X.env.cells.lookup x=some c->∀v,s.heap.IsCell c v->h'.IsCell c v:=λx c e v ⟨o,ho,hd⟩=>by
  have Cc:c∉ch:=λz=>(As c z).2.2.1 x c e rfl
  by_cases hc:c∈X.fs
  ·obtain⟨sl,q⟩:=slot c o (I.Dc x c e) hc Cc ho (I.gi x c e)
   exact⟨_,q,hd⟩
  ·exact⟨o,keep c o (I.Dc x c e) hc Cc ho (I.gi x c e),hd⟩
 refine⟨I.ok,I.os,hg,⟨λb o e n hb hx=>?_,λb o e n hb hx=>?_,λb o e n hx=>?_,λb o e hx=>?_,λb xs e=>kj b xs (I.base.kj b xs e),λb o xs e=>lO b o xs (I.base.lO b o xs e),λb ps e=>?_⟩,?_,λx c e=>?_,?_,λx c e=>?_,λp hp=>?_,bE,I.len⟩
 ·exact keep b o (Q5 b o e) hb (IG b o e hx) (I.base.keep b o e n hb hx) (I.base.free b o e n hx)
 ·obtain⟨sl,e1⟩:=I.base.slot b o e n hb hx
  obtain⟨SV,e2⟩:=slot b _ (Q5 b o e) hb (IG b o e hx) e1 (I.base.free b o e n hx)
  exact⟨SV,e2⟩
 ·obtain⟨o',e1⟩:=I.base.there b o e hx
  exact free b o' (IG b o e hx) e1 (I.base.free b o e n hx)
 ·obtain⟨o',e1⟩:=I.base.there b o e hx
  exact there b o' (IG b o e hx) e1
 ·obtain⟨m1,e1⟩:=I.base.lP b ps e
  obtain⟨m2,e2⟩:=lP b _ e1
  exact⟨m1++m2,by rw[e2,Array.append_assoc]⟩
 ·obtain⟨m,hn,hl⟩:=I.loc
  refine⟨m,ns m hn,λi x v e1 e2 e3=>?_⟩
  obtain⟨u,r,l⟩:=hl i x v e1 e2 e3
  refine⟨u,r,?_⟩
  rcases l with l | ⟨k,c,e,z⟩
  ·exact .inl l
  ·exact .inr ⟨k,c,e,cellK x c e _ z⟩
 ·obtain⟨v,z⟩:=I.cell x c e
  exact⟨v,cellK x c e v z⟩
 ·obtain⟨m,⟨o,_,_,ho,_⟩,_⟩:=I.loc
  exact free _ o (λz=>(As _ z).2.1 rfl) ho I.free
 ·obtain⟨v,o,ho,hd⟩:=I.cell x c e
  exact free c o (λz=>(As c z).2.2.1 x c e rfl) ho (I.gi x c e)
 ·obtain⟨e,n,ne,nf,d⟩:=I.pin p hp
  have Cc:p.1∉ch:=λz=>(As p.1 z).2.2.2 p hp rfl
  exact⟨keep p.1 p.2 ne nf Cc e n,free p.1 p.2 Cc e n,ne,nf,d⟩
theorem Inv.un {t':Nat} (I:Inv X pins σ H s) (u:Un X.fs [] H H' s.heap h') (bE:gf X.prog X.w H' h'):Inv X pins σ H' {s with heap:=h',toks:=t'}:=by
 obtain⟨m,⟨o,es,ep,ho,r⟩,_⟩:=id I.loc
 obtain⟨sl,hL⟩:=u.any ho I.free (by simp)
 exact I.step (g':=s.gens) (d':=s.drawn) (ch:=[]) (λ_ z=>nomatch z) (λb o _ hb _ e n=>u.keep b o e n hb (by simp)) (λb o _ hb _ e n=>u.slot b o e n hb (by simp)) (λb o _ e n=>u.free b o e n (by simp)) (λb o _ e=>u.there b o e (by simp)) u.kj u.lO u.lP (λm' hm=>by
  obtain⟨o',JE,ju,Dd,r'⟩:=hm
  rw[ho] at Dd;cases Dd
  exact⟨_,JE,ju,hL,r'⟩) bE I.bare
theorem Inv.call {g':Array GenState} {t':Nat} {d':Drawn} {ch:List Addr} (I:Inv X pins σ H s) (u:Un (qJ X.stack) ch H H' s.heap h') (bE:gf X.prog X.w H' h') (hg:AllBare g')
  (As:∀b∈ch,(b∈X.ex\/X.s₀.heap.objs.size<=b)/\b≠X.env.locals/\(∀x c,X.env.cells.lookup x=some c->c≠b)/\∀p∈X.pn++pins,p.1≠b):
  Inv X pins σ H' {s with heap:=h',gens:=g',drawn:=d',toks:=t'}:=by
 obtain⟨m,⟨o,es,ep,ho,r⟩,_⟩:=id I.loc
 obtain⟨sl,hL⟩:=u.any ho I.free λz=>(As _ z).2.1 rfl
 exact I.step (ch:=ch) As (λb o hL hb hc e n=>u.keep b o e n (λz=>(List.mem_cons.mp (I.pL b z)).elim hL hb) hc) (λb o _ _ hc e n=>u.any e n hc) (λb o hc e n=>u.free b o e n hc) (λb o hc e=>u.there b o e hc) u.kj u.lO u.lP (λm' hm=>by
  obtain⟨o',JE,ju,Dd,r'⟩:=hm
  rw[ho] at Dd;cases Dd
  exact⟨_,JE,ju,hL,r'⟩) bE hg
theorem Inv.turned {t':Nat} {it:Addr} (I:Inv X pins σ H s) (k:∀b o,b≠it->s.heap.get? b=some o->h'.get? b=some o) (hn:H it=none) (hL:it≠X.env.locals)
  (h1:it∈X.ex\/X.s₀.heap.objs.size<=it) (h2:∀x c,X.env.cells.lookup x=some c->c≠it) (h3:∀p∈X.pn++pins,p.1≠it):Inv X pins σ H {s with heap:=h',toks:=t'}:=by
 have Q6:∀b u,H b=some u->b≠it:=λb u e z=>by rw[z,hn] at e;cases e
 refine I.step (g':=s.gens) (d':=s.drawn) (ch:=[it]) (λb hb=>?_) (λb o _ _ hc e _=>k b o (λz=>hc (by simp [z])) e) (λb o _ _ hc e _=>⟨o.slots,k b o (λz=>hc (by simp [z])) e⟩) (λ_ _ _ _ n=>n)
  (λb o hc e=>⟨o,k b o (λz=>hc (by simp [z])) e⟩) (λ_ _ e=>e) (λ_ _ _ e=>e) (λb ps e=>⟨#[],by rw[e];simp⟩) (λm hm=>?_) (λb u e=>?_) I.bare
 ·have e:b=it:=by simpa using hb
  subst e
  exact⟨h1,hL,h2,h3⟩
 ·obtain⟨o,es,ep,ho,r⟩:=hm
  exact⟨o,es,ep,k _ o (Ne.symm hL) ho,r⟩
 ·refine(I.bE b u e).nX (λc v hc q=>k c v ?_ q) (λ_ q=>q) λ_ _ q=>q
  rcases hc with z | z
  ·rw[z];exact Q6 b u e
  ·exact Q6 c _ z
theorem Inv.tok (I:Inv X pins σ H s) (t:Nat):Inv X pins σ H {s with toks:=t}:=I.un (h':=s.heap) (t':=t) Un.refl I.bE
theorem Inv.kept {t':Nat} (I:Inv X pins σ H s) (k:∀b u,s.heap.get? b=some u->h'.get? b=some u):Inv X pins σ H {s with heap:=h',toks:=t'}:=I.un (Un.kept k) (I.bE.kept k)
theorem Inv.laid {a:Addr} {o:HO} {t':Nat} (I:Inv X pins σ H s) (k:∀b u,s.heap.get? b=some u->h'.get? b=some u) (hp:s.heap.objs.size<=a) (new:bQ X.prog X.w (upd H a o) h' a o):
  Inv X pins σ (upd H a o) {s with heap:=h',toks:=t'}:=I.un (Un.laid k hp (I.bE.fresh hp)) (I.bE.laid k hp new)
theorem Inv.write {x e:Addr} {o:HO} {t':Nat} (I:Inv X pins σ H s) (mu:FJ (H x)) (he:e=x\/H e=some (.own x)) (k:∀b u,b≠e->s.heap.get? b=some u->h'.get? b=some u) (Fi:∃u,h'.get? e=some u)
  (new:bQ X.prog X.w (upd H x o) h' x o):Inv X pins σ (upd H x o) {s with heap:=h',toks:=t'}:=I.un (Un.write mu he k Fi) (I.bE.write mu he k Fi new)
theorem Inv.iL {Cd:List (Addr×Obj)} (I:Inv X pins σ H s) (h:∀p∈Cd,s.heap.get? p.1=some p.2/\H p.1=none/\p.1≠X.env.locals/\p.1∉X.fs/\∀v,p.2.data≠.cell v):Inv X Cd σ H s:=
 ⟨I.ok,I.os,I.bare,I.base,I.loc,I.cell,I.free,I.gi,λp hp=>(List.mem_append.mp hp).elim (λz=>I.pin p (List.mem_append_left _ z)) (h p),I.bE,I.len⟩
theorem qK {N:List Str} (hN:N.Nodup) {i j:Nat} {x:Str} (a:N[i]?=some x) (b:N[j]?=some x):i=j:=by
 obtain⟨h1,e1⟩:=List.getElem?_eq_some_iff.mp a
 obtain⟨h2,e2⟩:=List.getElem?_eq_some_iff.mp b
 exact(List.getElem_inj hN).mp (e1.trans e2.symm)
theorem oK {M:Model} {A:Around} {E:Value->Shared->Prop} {i:Nat} {x:Str} {v:V} {u:Value} {Q:Unit->Shared->Prop} (I:Inv X pins σ H s) (hN:X.N.Nodup) (hi:X.N[i]?=some x) (hx:Loc X.env.scope x) (r:RelV v u)
  (h:∀s',Inv X pins (σ.set i (some v)) H s'->(∃a,Heap.SameBut a s.heap s'.heap/\(a=X.env.locals\/X.env.cells.lookup x=some a))->Q () s') (hf:X.fn x=true\/X.env.scope.names.lookup x=some .local:=by first | exact .inl rfl | exact .inr rfl | assumption):wpAny M A (storeName X.env x u) Q E s:=by
 obtain⟨m,hn,hl⟩:=id I.loc
 have JF:(X.env.scope.kind==.class || (X.env.scope.kind==.module && X.env.locals !=X.env.globals))=false:=by rw[I.ok.kind];rfl
 have Q8:i<σ.length:=by rw[I.len];exact(List.getElem?_eq_some_iff.mp hi).1
 have Dc:=I.Dc
 have tracked:∀{a:Addr} {h':Heap},(∃o,s.heap.get? a=some o/\H a=none)->Heap.SameBut a s.heap h'->gf X.prog X.w H h':=λ{a h'} ha hs b ob e=>by
  obtain⟨_,_,Ce⟩:=ha
  refine(I.bE b ob e).nX (λc w' hc q=>(hs.2 c ?_).trans q) (λ_ q=>q) λ_ _ q=>q
  rintro rfl
  rcases hc with rfl | hc
  ·rw[Ce] at e;cases e
  ·rw[Ce] at hc;cases hc
 rcases hx with hk | hk
 ·refine wpAny_storeName_local hk hn (λh' SW hs=>?_) JF
  obtain⟨oL,_,_,Cf,_⟩:=id hn
  refine h _ ⟨I.ok,I.os,I.bare,⟨λb o e n hb hx=>?_,λb o e n hb hx=>?_,I.base.free,λb o e hx=>?_,I.base.kj,I.base.lO,I.base.lP⟩,⟨_,SW,λj y v' e1 e2 e3=>?_⟩,λy c e=>?_,I.free,I.gi,λp hp=>?_,tracked ⟨oL,Cf,I.free⟩ hs,by simpa using I.len⟩ ⟨_,hs,.inl rfl⟩
  ·exact(hs.2 b (YT (YY (Heap.lt_size e) I.ok.above))).trans (I.base.keep b o e n hb hx)
  ·obtain⟨sl,e1⟩:=I.base.slot b o e n hb hx
   exact⟨sl,(hs.2 b (YT (YY (Heap.lt_size e) I.ok.above))).trans e1⟩
  ·obtain⟨o',e1⟩:=I.base.there b o e hx
   exact⟨o',(hs.2 b (YT (YY (Heap.lt_size e) I.ok.above))).trans e1⟩
  ·by_cases hj:j=i
   ·subst hj
    rw[hi] at e1;cases e1
    rw[Zv Q8] at e2
    cases e2
    exact⟨u,r,.inl ⟨hk,by simp⟩⟩
   ·rw[Zm (Ne.symm hj)] at e2
    obtain⟨u',r',q⟩:=hl j y v' e1 e2 e3
    refine⟨u',r',?_⟩
    rcases q with ⟨k,e⟩ | ⟨k,c,e,z⟩
    ·refine .inl ⟨k,?_⟩
     have:y≠x:=λe=>hj (qK hN e1 (e▸hi))
     simp [this,e]
    ·exact .inr ⟨k,c,e,z.sameBut hs (Dc y c e)⟩
  ·obtain⟨w',z⟩:=I.cell y c e
   exact⟨w',z.sameBut hs (Dc y c e)⟩
  ·obtain⟨e,n,ne,nf,d⟩:=I.pin p hp
   exact⟨(hs.2 p.1 ne).trans e,n,ne,nf,d⟩
 ·have JG:X.fn x=true:=by
   rcases hf with z | z
   ·exact z
   ·rw[z] at hk;cases hk
  obtain⟨c,hc⟩:=I.ok.has x (.inl hk)
  obtain⟨w',z⟩:=I.cell x c hc
  refine wpAny_storeName_cell I.ok.kind hk hc z (λh' Ra hs=>?_)
  obtain⟨oc,Rb,JH⟩:=id z
  refine h {s with heap:=h'} ⟨I.ok,I.os,I.bare,⟨λb o e n hb hx=>?_,λb o e n hb hx=>?_,I.base.free,λb o e hx=>?_,I.base.kj,I.base.lO,I.base.lP⟩,⟨m,hn.sameBut hs (Ne.symm (Dc x c hc)),λj y v' e1 e2 e3=>?_⟩,λy c' e=>?_,I.free,I.gi,λp hp=>?_,tracked ⟨oc,Rb,I.gi x c hc⟩ hs,by simpa using I.len⟩ ⟨c,hs,.inr hc⟩
  ·exact(hs.2 b (YT (YY (Heap.lt_size e) (I.ok.Fj x c JG hc)))).trans (I.base.keep b o e n hb hx)
  ·obtain⟨sl,e1⟩:=I.base.slot b o e n hb hx
   exact⟨sl,(hs.2 b (YT (YY (Heap.lt_size e) (I.ok.Fj x c JG hc)))).trans e1⟩
  ·obtain⟨o',e1⟩:=I.base.there b o e hx
   exact⟨o',(hs.2 b (YT (YY (Heap.lt_size e) (I.ok.Fj x c JG hc)))).trans e1⟩
  ·by_cases hj:j=i
   ·subst hj
    rw[hi] at e1;cases e1
    rw[Zv Q8] at e2
    cases e2
    exact⟨u,r,.inr ⟨.inl hk,c,hc,Ra⟩⟩
   ·rw[Zm (Ne.symm hj)] at e2
    obtain⟨u',r',q⟩:=hl j y v' e1 e2 e3
    refine⟨u',r',?_⟩
    rcases q with q | ⟨k,c',e,z'⟩
    ·exact .inl q
    ·refine .inr ⟨k,c',e,z'.sameBut hs ?_⟩
     rintro rfl
     exact hj (qK hN e1 (I.ok.inj _ _ _ e hc▸hi))
  ·by_cases Rc:c'=c
   ·subst Rc;exact⟨_,Ra⟩
   ·obtain⟨w2,z2⟩:=I.cell y c' e
    exact⟨w2,z2.sameBut hs Rc⟩
  ·obtain⟨e,n,ne,nf,d⟩:=I.pin p hp
   refine⟨(hs.2 p.1 ?_).trans e,n,ne,nf,d⟩
   intro q
   rw[q,Rb] at e
   have q':oc=p.2:=Zg e
   exact d w' (by rw[<-q'];exact JH)
theorem iM {M:Model} {A:Around} {E:Value->Shared->Prop} {i:Nat} {x:Str} {v:V} {u:Value} {Q:Unit->Shared->Prop} (I:Inv X pins σ H s) (hN:X.N.Nodup) (hi:X.N[i]?=some x) (hx:Loc X.env.scope x) (r:RelV v u)
  (h:∀s',Inv X pins (σ.set i (some v)) H s'->Q () s') (hf:X.fn x=true\/X.env.scope.names.lookup x=some .local:=by first | exact .inl rfl | exact .inr rfl | assumption):wpAny M A (storeName X.env x u) Q E s:=
 oK I hN hi hx r (λs' I' _=>h s' I') hf
theorem Inv.FP {s':Shared} {ch:List Addr} (I:Inv X pins σ H s) (ho:s'.os=s.os) (u:Un (qJ X.stack) ch H H' s.heap s'.heap) (bE:gf X.prog X.w H' s'.heap) (hg:AllBare s'.gens)
  (As:∀b∈ch,(b∈X.ex\/X.s₀.heap.objs.size<=b)/\b≠X.env.locals/\(∀x c,X.env.cells.lookup x=some c->c≠b)/\∀p∈X.pn++pins,p.1≠b):Inv X pins σ H' s':=by
 obtain⟨h',g',d',t',o'⟩:=s'
 have e:o'=s.os:=ho
 subst e
 exact I.call (g':=g') (t':=t') (d':=d') u bE hg As
end
abbrev XK:=Value->Option Addr->Hp->Prop
abbrev St:=List (Option V)
abbrev VK:=V->Hp->Prop
abbrev TE:=St->Hp->VK->Prop
abbrev TT:=St->Hp->(Bool->Hp->Prop)->Prop
abbrev TA:=St->Hp->(List V->Hp->Prop)->Prop
structure Ends where
 nx:St->Hp->Prop
 rt:VK
 bk:St->Hp->Prop:=λ_ _=>False
 ct:St->Hp->Prop:=λ_ _=>False
abbrev TS:=Ends->St->Hp->Prop
noncomputable def EP (X:Cx) (pins:List (Addr×Obj)) (σ:St) (Q:VK) (u:Value) (s':Shared):Prop:=∃v H',Inv X pins σ H' s'/\RelV v u/\Q v H'
noncomputable def TP (X:Cx) (pins:List (Addr×Obj)) (σ:St) (Q:Bool->Hp->Prop) (b:Bool) (s':Shared):Prop:=∃H',Inv X pins σ H' s'/\Q b H'
noncomputable def AP (X:Cx) (pins:List (Addr×Obj)) (σ:St) (Q:List V->Hp->Prop) (us:List Value) (s':Shared):Prop:=∃vs H',Inv X pins σ H' s'/\aV vs us/\Q vs H'
noncomputable def SP (X:Cx) (pins:List (Addr×Obj)) (D:Ends) (f:Flow) (s':Shared):Prop:=
 match f with
 | .next=>∃σ' H',Inv X pins σ' H' s'/\D.nx σ' H'
 | .brk=>∃σ' H',Inv X pins σ' H' s'/\D.bk σ' H'
 | .cont=>∃σ' H',Inv X pins σ' H' s'/\D.ct σ' H'
 | .ret u=>∃v σ' H',Inv X pins σ' H' s'/\RelV v u/\D.rt v H'
noncomputable def PE (X:Cx) (e:Expr) (t:TE):Prop:=
 ∀(pins:List (Addr×Obj)) (s:Shared) (σ:St) (H:Hp) (Q:VK),Inv X pins σ H s->t σ H Q->wpAny (model X.prog X.w) X.A (eval e X.env) (EP X pins σ Q) X.xe s
noncomputable def PT (X:Cx) (e:Expr) (t:TT):Prop:=
 ∀(pins:List (Addr×Obj)) (s:Shared) (σ:St) (H:Hp) (Q:Bool->Hp->Prop),Inv X pins σ H s->t σ H Q->wpAny (model X.prog X.w) X.A (isTrue e X.env (eval e X.env)) (TP X pins σ Q) X.xe s
noncomputable def PW (X:Cx) (e:Expr) (t:TT):Prop:=
 ∀(whole:Sem Value) (pins:List (Addr×Obj)) (s:Shared) (σ:St) (H:Hp) (Q:Bool->Hp->Prop),Inv X pins σ H s->t σ H Q->wpAny (model X.prog X.w) X.A (isTrue e X.env whole) (TP X pins σ Q) X.xe s
theorem PW.pt {X:Cx} {e:Expr} {t:TT} (h:PW X e t):PT X e t:=h _
noncomputable def PA (X:Cx) (es:List Expr) (t:TA):Prop:=
 ∀(pos:Pos) (pins:List (Addr×Obj)) (s:Shared) (σ:St) (H:Hp) (Q:List V->Hp->Prop),Inv X pins σ H s->t σ H Q->wpAny (model X.prog X.w) X.A (spliced (backTo pos (starEach es X.env))) (AP X pins σ Q) X.xe s
noncomputable def PS (X:Cx) (st:Stmt) (t:TS):Prop:=
 ∀(pins:List (Addr×Obj)) (s:Shared) (σ:St) (H:Hp) (D:Ends),Inv X pins σ H s->t D σ H->wpAny (model X.prog X.w) X.A (exec st X.env) (SP X pins D) X.xe s
noncomputable def tQ (X:Cx) (st:List Stmt) (t:TS):Prop:=
 ∀(pins:List (Addr×Obj)) (s:Shared) (σ:St) (H:Hp) (D:Ends),Inv X pins σ H s->t D σ H->wpAny (model X.prog X.w) X.A (execs st X.env) (SP X pins D) X.xe s
theorem bR {α:Type} {t:Sem α} {Q Q':α->Shared->Prop} {M:Model} {A:Around} {E:Value->Shared->Prop} {s:Shared} (h:wpAny M A t Q E s) (hQ:∀a s,Q a s->Q' a s):wpAny M A t Q' E s:=wpAny_mono h hQ λ_ _ x=>x
end L2
namespace L2
open PySem PySem.Spec PyProof.Rows
section
variable {X : Cx}
theorem bin {a b:Expr} {ta tb:TE} (ha:PE X a ta) (hb:PE X b tb) {pins:List (Addr×Obj)} {s:Shared} {σ:St} {H:Hp} {R:V->V->Hp->Prop} (I:Inv X pins σ H s) (h:ta σ H λx H1=>tb σ H1 λy H2=>R x y H2)
  {α:Type} {Q:α->Shared->Prop} {f:Value->Value->Sem α}
  (hf:∀v u s2 x y H2,Inv X pins σ H2 s2->RelV x v->RelV y u->R x y H2->wpAny (model X.prog X.w) X.A (f v u) Q X.xe s2):
  wpAny (model X.prog X.w) X.A (eval a X.env) (λv s₁=>wpAny (model X.prog X.w) X.A (eval b X.env) (λu s₂=>wpAny (model X.prog X.w) X.A (f v u) Q X.xe s₂) X.xe s₁) X.xe s:=by
 refine bR (ha pins s σ H _ I h) λv s1 b8=>?_
 obtain⟨x,H1,I1,r1,q1⟩:=b8
 refine bR (hb pins s1 σ H1 _ I1 q1) λu s2 b8=>?_
 obtain⟨y,H2,I2,r2,q2⟩:=b8
 exact hf v u s2 x y H2 I2 r1 r2 q2
noncomputable def tVar (i:Nat):TE:=λσ H Q=>∃v,σ[i]?=some (some v)/\Q v H
noncomputable def tC (v:V):TE:=λ_ H Q=>Q v H
theorem De {i:Nat} {x:Str} {pos:Pos} (hN:X.N[i]?=some x) (hv:JA X.env.scope x) (hd:(x==("__debug__":Str))=false:=by decide) (qL:(x==("__classdict__":Str))=false:=by decide):PE X (.Name x pos) (tVar i):=by
 intro pins s σ H Q I h
 obtain⟨v,e,h⟩:=h
 obtain⟨m,hn,hl⟩:=I.loc
 obtain⟨u,r,l⟩:=hl i x v hN e hv
 have fin:EP X pins σ Q u s:=⟨v,H,I,r,h⟩
 rcases l with ⟨hk,hm⟩ | ⟨hk,c,hc,oM⟩
 ·exact wpAny_Name (wpAny_loadName_local I.ok.kind hk hn hm fin) hd
 ·rcases hk with hk | hk
  ·exact wpAny_Name (wpAny_loadName_cell I.ok.kind hk hc oM fin) hd
  ·exact wpAny_Name (wpAny_loadName_free I.ok.kind hk hc oM fin qL) hd
theorem aj {i j pos}:PE X (.Constant (.int i) j pos) (tC (.int i)):=λ_ _ _ H _ I h=>wpAny_Constant_int ⟨.int i,H,I.tok _,⟨_,rfl⟩,h⟩
theorem uY {b j pos}:PE X (.Constant (.bool b) j pos) (tC (.bl b)):=λ_ _ _ H _ I h=>Constant_bool ⟨.bl b,H,I,rfl,h⟩
theorem el {j pos}:PE X (.Constant .none j pos) (tC .bV):=λ_ _ _ H _ I h=>Constant_none ⟨.bV,H,I,rfl,h⟩
theorem cN {x j pos}:PE X (.Constant (.str x) j pos) (tC (.str x)):=λ_ _ _ H _ I h=>Calls.Constant_str ⟨.str x,H,I.tok _,⟨_,rfl⟩,h⟩
noncomputable def Gl (X:Cx) (x:Str):Prop:=X.env.kindOf x=some .globalImplicit
theorem pM {E:Value->Shared->Prop} {pins:List (Addr×Obj)} {s:Shared} {σ:St} {H:Hp} {x:Str} {u:Value} {pos:Pos} {Q:Value->Shared->Prop} (I:Inv X pins σ H s) (hg:Gl X x) (hm:X.mg x=some u) (h:Q u s)
  (hd:(x==("__debug__":Str))=false:=by decide):wpAny (model X.prog X.w) X.A (eval (.Name x pos) X.env) Q E s:=
 Calls.Name_function_global I.ok.kind hg (Calls.loadGlobal_global (by rw[I.ok.glob];exact I.mod.glob.keeps I.bk) hm h) hd
theorem fc {E:Value->Shared->Prop} {pins:List (Addr×Obj)} {s:Shared} {σ:St} {H:Hp} {x:Str} {u:Value} {pos:Pos} {Q:Value->Shared->Prop} (I:Inv X pins σ H s) (hg:Gl X x) (hm:X.mg x=none) (hv:bootBuiltins x=some u) (h:Q u s)
  (hn:x≠"__name__":=by decide) (hd:(x==("__debug__":Str))=false:=by decide):wpAny (model X.prog X.w) X.A (eval (.Name x pos) X.env) Q E s:=by
 obtain⟨mb,h1,h2⟩:=I.mod.blt
 exact Calls.Name_function_global I.ok.kind hg (Calls.loadGlobal_builtin (by rw[I.ok.glob];exact I.mod.glob.keeps I.bk) hm (by rw[I.ok.blt];exact h1.keeps I.bk) ((h2 x hn).trans hv) h) hd
theorem AK {x:Str} {v:V} {u:Value} {pos:Pos} (hg:Gl X x) (hm:X.mg x=some u) (r:RelV v u) (hd:(x==("__debug__":Str))=false:=by decide):PE X (.Name x pos) (tC v):=
 λ_ _ _ H _ I h=>pM I hg hm ⟨v,H,I,r,h⟩ hd
theorem kZ {x:Str} {v:V} {u:Value} {pos:Pos} (hg:Gl X x) (hm:X.mg x=none) (hv:bootBuiltins x=some u) (r:RelV v u) (hn:x≠"__name__":=by decide) (hd:(x==("__debug__":Str))=false:=by decide):PE X (.Name x pos) (tC v):=
 λ_ _ _ H _ I h=>fc I hg hm hv ⟨v,H,I,r,h⟩ hn hd
noncomputable def SX (ta tb:TE) (k:Int->Int->Hp->Prop):St->Hp->Prop:=λσ H=>ta σ H λx H1=>tb σ H1 λy H2=>∃i j,x=.int i/\y=.int j/\k i j H2
variable {a b : Expr} {ta tb : TE} {pos : Pos}
noncomputable def PC (X:Cx) (op:CmpOp) (a b:Expr) (t:TE):Prop:=
 ∀(pins:List (Addr×Obj)) (s:Shared) (σ:St) (H:Hp) (Q:VK),Inv X pins σ H s->t σ H Q->
  wpAny (model X.prog X.w) X.A (eval a X.env) (λv s₁=>wpAny (model X.prog X.w) X.A (eval b X.env) (λu s₂=>wpAny (model X.prog X.w) X.A (compareOp op v u) (EP X pins σ Q) X.xe s₂) X.xe s₁) X.xe s
theorem xP (b:Expr) {op:CmpOp} (h:op≠.In) (h2:op≠.NotIn):behindInMarks op b=false:=by
 have e1:(op==CmpOp.In)=false:=by cases op <;>first | rfl | exact absurd rfl h
 have e2:(op==CmpOp.NotIn)=false:=by cases op <;>first | rfl | exact absurd rfl h2
 cases b <;>simp [behindInMarks,e1,e2]
noncomputable def wu (p:Int->Int->Bool) (ta tb:TE):TE:=λσ H Q=>SX ta tb (λi j H2=>Q (.bl (p i j)) H2) σ H
abbrev Xq:TE->TE->TE:=wu λi j=>decide (i<j)
abbrev Xr:TE->TE->TE:=wu λi j=>decide (i<=j)
abbrev Xs:TE->TE->TE:=wu λi j=>decide (j<i)
abbrev Xu:TE->TE->TE:=wu λi j=>decide (j<=i)
abbrev SY:TE->TE->TE:=wu λi j=>decide (i=j)
abbrev S0:TE->TE->TE:=wu λi j=>!decide (i=j)
noncomputable def tB (t:TE):TT:=λσ H Q=>t σ H λx H1=>∃c,x=.bl c/\Q c H1
theorem tR {op:CmpOp} {t:TE} (h:PC X op a b t) (h1:behindInMarks op b=false:=by first | exact xP _ (by decide) (by decide) | rfl):PT X (.Compare a [op] [b] pos) (tB t):=by
 intro pins s σ H Q I hw
 refine wpAny_isTrue_Compare1 (bR (h pins s σ H _ I hw) λv s1 h1=>bR h1 λu s2 h2=>bR h2 λc s3 b8=>?_) h1
 obtain⟨x,H1,I1,r1,q1⟩:=b8
 obtain⟨d,rfl,q⟩:=q1
 cases r1
 exact wpAny_truthy_bool ⟨H1,I1,q⟩
theorem hX {e:Expr} {t:TE} (h:PE X e t) (he:∀whole,isTrue e X.env whole=(do let v <-whole;standAt e.pos;holding [v] (truthy v)):=by intro _;rfl):PT X e (tB t):=by
 intro pins s σ H Q I hw
 refine isTrue_plain (bR (h pins s σ H _ I hw) λv s1 b8=>?_) (he _)
 obtain⟨x,H1,I1,r1,q1⟩:=b8
 obtain⟨d,rfl,q⟩:=q1
 cases r1
 exact wpAny_truthy_bool ⟨H1,I1,q⟩
variable {tA IH : TT} {rest : List Expr}
noncomputable def tAnd (t u:TT):TT:=λσ H Q=>t σ H λc H1=>if c=true then u σ H1 Q else Q false H1
noncomputable def tOr (t u:TT):TT:=λσ H Q=>t σ H λc H1=>if c=true then Q true H1 else u σ H1 Q
noncomputable def tNot (t:TT):TT:=λσ H Q=>t σ H λc H1=>Q (!c) H1
theorem pw_and1 (ha:PT X a tA):PW X (.BoolOp .And [a] pos) tA:=by
 intro wh pins s σ H Q I h
 refine isTrue_and (bR (ha pins s σ H Q I h) λc s1 e=>?_)
 cases c with
 | true=>exact isTrue_and_nil e
 | false=>exact e
theorem pw_or1 (ha:PT X a tA):PW X (.BoolOp .Or [a] pos) tA:=by
 intro wh pins s σ H Q I h
 refine isTrue_or (bR (ha pins s σ H Q I h) λc s1 e=>?_)
 cases c with
 | false=>exact isTrue_or_nil e
 | true=>exact e
theorem pw_and (ha:PT X a tA) (hb:PW X (.BoolOp .And (b::rest) pos) IH):PW X (.BoolOp .And (a::b::rest) pos) (tAnd tA IH):=by
 intro wh pins s σ H Q I h
 refine isTrue_and (bR (ha pins s σ H _ I h) λc s1 ⟨H1,I1,q1⟩=>?_)
 cases c with
 | true=>exact hb wh pins s1 σ H1 Q I1 q1
 | false=>exact⟨H1,I1,q1⟩
theorem pw_or (ha:PT X a tA) (hb:PW X (.BoolOp .Or (b::rest) pos) IH):PW X (.BoolOp .Or (a::b::rest) pos) (tOr tA IH):=by
 intro wh pins s σ H Q I h
 refine isTrue_or (bR (ha pins s σ H _ I h) λc s1 ⟨H1,I1,q1⟩=>?_)
 cases c with
 | true=>exact⟨H1,I1,q1⟩
 | false=>exact hb wh pins s1 σ H1 Q I1 q1
theorem lR (ha:PT X a tA):PT X (.UnaryOp .Not a pos) (tNot tA):=by
 intro pins s σ H Q I h
 exact isTrue_not (ha pins s σ H (λc H1=>Q (!c) H1) I h)
noncomputable def tAndV (ta tb:TE):TE:=λσ H Q=>ta σ H λx H1=>∃c,x=.bl c/\if c=true then tb σ H1 Q else Q (.bl false) H1
noncomputable def tOrV (ta tb:TE):TE:=λσ H Q=>ta σ H λx H1=>∃c,x=.bl c/\if c=true then Q (.bl true) H1 else tb σ H1 Q
noncomputable def tNotV (ta:TE):TE:=λσ H Q=>ta σ H λx H1=>∃c,x=.bl c/\Q (.bl (!c)) H1
theorem xQ {op} {t:TE} (h:PE X a t):PE X (.BoolOp op [a] pos) t:=λpins s σ H Q I hw=>BoolOp_one (h pins s σ H Q I hw)
theorem xR (ha:PE X a ta) (hb:PE X (.BoolOp .And (b::rest) pos) tb):PE X (.BoolOp .And (a::b::rest) pos) (tAndV ta tb):=by
 intro pins s σ H Q I h
 refine BoolOp_and (bR (ha pins s σ H _ I h) λv s1 b8=>?_)
 obtain⟨x,H1,I1,r1,q1⟩:=b8
 obtain⟨c,rfl,q1⟩:=q1
 cases r1
 refine wpAny_truthy_bool ?_
 cases c with
 | true=>exact hb pins s1 σ H1 Q I1 q1
 | false=>exact⟨.bl false,H1,I1,rfl,q1⟩
noncomputable def tIf (t:TT) (ta tb:TE):TE:=λσ H Q=>t σ H λc H1=>if c=true then ta σ H1 Q else tb σ H1 Q
theorem iN {c:Expr} (hc:PT X c tA) (ha:PE X a ta) (hb:PE X b tb):PE X (.IfExp c a b pos) (tIf tA ta tb):=by
 intro pins s σ H Q I h
 refine wpAny_IfExp (bR (hc pins s σ H _ I h) λd s1 ⟨H1,I1,q1⟩=>?_)
 cases d with
 | true=>exact ha pins s1 σ H1 Q I1 q1
 | false=>exact hb pins s1 σ H1 Q I1 q1
end
end L2
namespace L2
open PySem PySem.Spec PyProof.Rows
noncomputable def aR (K:PySem.W.Frag) (H:Hp) (a:Addr) (xs:List V):Prop:=
 Rd H a (.lst xs)\/
  ∃(o:Obj) (aN:Array Value) (n:Nat),K.lookup a=some o/\o.cls=.type "list"/\o.dict=none/\o.data=.seq aN n/\aN.size<=sizeLine/\aV xs aN.toList
noncomputable def dH (K:PySem.W.Frag) (H:Hp) (a:Addr) (xs:List V):Prop:=
 Rd H a (.tup xs)\/
  ∃(o:Obj) (aN:Array Value) (n:Nat),K.lookup a=some o/\o.cls=.type "tuple"/\o.data=.seq aN n/\aN.size<=sizeLine/\aV xs aN.toList
noncomputable def JI:Value->Option V
 | .none=>some .bV
 | .bool b=>some (.bl b)
 | .int i _=>some (.int i)
 | .str x _=>some (.str x)
 | .bytes b _=>some (.xB b)
 | .float b _=>some (.C7 b)
 | .ref a=>some (.ref a)
 | .type n=>some (.ty n)
 | _=>none
theorem RelV.abs {x:V} {u:Value} (r:RelV x u):JI u=some x:=by
 cases x with
 | bV=>cases r;rfl
 | bl _=>cases r;rfl
 | int _=>obtain⟨t,rfl⟩:=r;rfl
 | str _=>obtain⟨t,rfl⟩:=r;rfl
 | xB _=>obtain⟨t,rfl⟩:=r;rfl
 | C7 _=>obtain⟨t,rfl⟩:=r;rfl
 | ref _=>cases r;rfl
 | ty _=>cases r;rfl
theorem RelV.inj {x y:V} {u:Value} (r:RelV x u) (q:RelV y u):x=y:=Zg (r.abs.symm.trans q.abs)
theorem aV.inj:∀{xs ys:List V} {us:List Value},aV xs us->aV ys us->xs=ys
 | _,_,_,.nil,.nil=>rfl
 | _,_,_,.cons r t,.cons r' t'=>by rw[r.inj r',aV.inj t t']
section
variable {X : Cx} {pins : List (Addr × Obj)} {σ : St} {H : Hp} {s : Shared} {a : Addr} {xs ys : List V}
theorem aR.of {K:PySem.W.Frag} (h:H a=some (.lst xs)):aR K H a xs:=.inl (.inl h)
theorem dH.of {K:PySem.W.Frag} (h:H a=some (.tup xs)):dH K H a xs:=.inl (.inl h)
theorem Inv.list (I:Inv X pins σ H s) (h:aR X.K H a xs):∃aN:List Value,aV xs aN/\PlainL s.heap a aN.toArray/\xs.length<=sizeLine:=by
 rcases h with h | ⟨o,aN,n,hk,hc,hd,hs,hz,r⟩
 ·obtain⟨z,aN,n,r,e⟩:=h.ok I.bE
  exact⟨aN,r,⟨_,n,e,rfl,rfl,rfl⟩,z⟩
 ·refine⟨aN.toList,r,⟨o,n,I.km a o hk,hc,hd,by simpa using hs⟩,?_⟩
  have e:=r.length
  simp only[Array.length_toList] at e
  omega
theorem Inv.tuple (I:Inv X pins σ H s) (h:dH X.K H a xs):∃aN:List Value,aV xs aN/\IsTup s.heap a aN.toArray/\xs.length<=sizeLine:=by
 rcases h with h | ⟨o,aN,n,hk,hc,hs,hz,r⟩
 ·obtain⟨z,aN,r,p⟩:=h.ok I.bE
  exact⟨aN,r,p,z⟩
 ·refine⟨aN.toList,r,⟨o,I.km a o hk,hc,n,by simpa using hs⟩,?_⟩
  have e:=r.length
  simp only[Array.length_toList] at e
  omega
theorem Inv.gj (I:Inv X pins σ H s) (h:aR X.K H a xs) (h':aR X.K H a ys):xs=ys:=by
 obtain⟨aN,r,⟨o,n,e,_,_,d⟩,_⟩:=I.list h
 obtain⟨its',r',⟨o',n',e',_,_,d'⟩,_⟩:=I.list h'
 rw[e] at e';cases e'
 rw[d] at d'
 injection d' with d1 _
 have:aN=its':=by simpa using congrArg Array.toList d1
 subst this
 exact r.inj r'
theorem Inv.wx (I:Inv X pins σ H s) (h:dH X.K H a xs) (h':dH X.K H a ys):xs=ys:=by
 obtain⟨aN,r,⟨o,e,_,n,d⟩,_⟩:=I.tuple h
 obtain⟨its',r',⟨o',e',_,n',d'⟩,_⟩:=I.tuple h'
 rw[e] at e';cases e'
 rw[d] at d'
 injection d' with d1 _
 have:aN=its':=by simpa using congrArg Array.toList d1
 subst this
 exact r.inj r'
end
abbrev Cx.jz (X:Cx) (E:Value->Shared->Prop):Cx:={X with xe:=E}
abbrev Cx.Fk (X:Cx):Cx:=X.jz λ_ _=>False
theorem Cx.Ok.jz {X:Cx} (ok:X.Ok) (E:Value->Shared->Prop):(X.jz E).Ok:=
 ⟨ok.mod,ok.kind,ok.glob,ok.blt,ok.above,ok.inj,ok.has,ok.Fj,ok.hd,ok.frames,ok.FN,ok.JB,ok.bs,ok.xN,ok.wq,ok.xO,ok.jy,ok.Cb⟩
theorem Cx.Ok.fe {X:Cx} {E:Value->Shared->Prop} (ok:(X.jz E).Ok):X.Ok:=
 ⟨ok.mod,ok.kind,ok.glob,ok.blt,ok.above,ok.inj,ok.has,ok.Fj,ok.hd,ok.frames,ok.FN,ok.JB,ok.bs,ok.xN,ok.wq,ok.xO,ok.jy,ok.Cb⟩
section
variable {X : Cx} {pins : List (Addr × Obj)} {σ : St} {H : Hp} {s : Shared} {E : Value -> Shared -> Prop}
theorem Inv.jz (I:Inv X pins σ H s) (E:Value->Shared->Prop):Inv (X.jz E) pins σ H s:=⟨I.ok.jz E,I.os,I.bare,I.base,I.loc,I.cell,I.free,I.gi,I.pin,I.bE,I.len⟩
theorem Inv.fe (I:Inv (X.jz E) pins σ H s):Inv X pins σ H s:=⟨I.ok.fe,I.os,I.bare,I.base,I.loc,I.cell,I.free,I.gi,I.pin,I.bE,I.len⟩
theorem SP.fe {D:Ends} {f:Flow} {s':Shared} (h:SP (X.jz E) pins D f s'):SP X pins D f s':=by
 cases f with
 | next=>obtain⟨σ',H',I,q⟩:=h;exact⟨σ',H',I.fe,q⟩
 | brk=>obtain⟨σ',H',I,q⟩:=h;exact⟨σ',H',I.fe,q⟩
 | cont=>obtain⟨σ',H',I,q⟩:=h;exact⟨σ',H',I.fe,q⟩
 | ret u=>obtain⟨v,σ',H',I,r,q⟩:=h;exact⟨v,σ',H',I.fe,r,q⟩
theorem tQ.Fk {st:List Stmt} {t:TS} (h:tQ X.Fk st t):tQ X st t:=λpins s σ H D I hw=>
 wpAny_mono (h pins s σ H D (I.jz _) hw) (λ_ _ q=>q.fe) λ_ _ z=>False.elim z
end
section
variable {X : Cx} {st : Stmt} {rest : List Stmt} {t u : TS} {e : Expr} {te : TE} {pos : Pos}
noncomputable def tNext:TS:=λD σ H=>D.nx σ H
noncomputable def tSeq (t u:TS):TS:=λD σ H=>t {D with nx:=u D} σ H
theorem aZ:tQ X [] tNext:=λ_ _ σ H _ I h=>wpAny_execs_nil ⟨σ,H,I,h⟩
theorem ae (h1:PS X st t) (h2:tQ X rest u):tQ X (st::rest) (tSeq t u):=by
 intro pins s σ H D I h
 refine wpAny_execs_cons (bR (h1 pins s σ H {D with nx:=u D} I h) λf s1 q=>?_)
 cases f with
 | next=>
  obtain⟨σ',H',I',q⟩:=q
  exact h2 pins s1 σ' H' D I' q
 | ret v=>exact q
 | brk=>exact q
 | cont=>exact q
theorem ao (h1:PS X st t):tQ X [st] t:=by
 intro pins s σ H D I h
 refine wpAny_execs_cons (bR (h1 pins s σ H D I h) λf s1 q=>?_)
 cases f with
 | next=>exact wpAny_execs_nil q
 | ret v=>exact q
 | brk=>exact q
 | cont=>exact q
theorem Inv.quiet {pins:List (Addr×Obj)} {σ:St} {H:Hp} {s:Shared} (I:Inv X pins σ H s):interactive X.env=false:=by simp [interactive,I.ok.kind]
noncomputable def tDrop (te:TE):TS:=λD σ H=>te σ H λ_ H1=>D.nx σ H1
theorem gL (he:PE X e te) (hs:swapsWith e none pos.line X.env=pure false:=by rfl):PS X (.Expr e pos) (tDrop te):=by
 intro pins s σ H D I h
 exact wpAny_Expr_any (bR (he pins s σ H _ I h) λv s1 ⟨x,H1,I1,r1,q1⟩=>⟨σ,H1,I1,q1⟩) I.quiet hs
noncomputable def tRet (te:TE):TS:=λD σ H=>te σ H D.rt
theorem aH (he:PE X e te):PS X (.Return (some e) pos) (tRet te):=by
 intro pins s σ H D I h
 exact wpAny_Return_some (bR (he pins s σ H _ I h) λv s1 ⟨x,H1,I1,r1,q1⟩=>⟨x,σ,H1,I1,r1,q1⟩)
noncomputable def tRetN:TS:=λD _ H=>D.rt .bV H
noncomputable def tIfS (c:TT) (t u:TS):TS:=λD σ H=>c σ H λb H1=>if b=true then t D σ H1 else u D σ H1
theorem bS {c:Expr} {a b:List Stmt} {tc:TT} (hc:PT X c tc) (ha:tQ X a t) (hb:tQ X b u):PS X (.If c a b pos) (tIfS tc t u):=by
 intro pins s σ H D I h
 refine wpAny_If (bR (hc pins s σ H _ I h) λd s1 ⟨H1,I1,q1⟩=>?_)
 cases d with
 | true=>exact ha pins s1 σ H1 D I1 q1
 | false=>exact hb pins s1 σ H1 D I1 q1
noncomputable def Dh:TS:=λ_ _ _=>False
theorem lT:PS X st Dh:=λ_ _ _ _ _ _ h=>h.elim
end
abbrev TG:=V->St->Hp->(St->Hp->Prop)->Prop
abbrev Cg:=List V->St->Hp->(St->Hp->Prop)->Prop
noncomputable def PG (X:Cx) (target:Expr) (t:TG):Prop:=
 ∀(pins:List (Addr×Obj)) (s:Shared) (σ:St) (H:Hp) (v:V) (u:Value) (Q:St->Hp->Prop),Inv X pins σ H s->RelV v u->t v σ H Q->
  wpAny (model X.prog X.w) X.A (assign target X.env u) (λ_ s'=>∃σ' H',Inv X pins σ' H' s'/\Q σ' H') X.xe s
noncomputable def Fl (X:Cx) (ts:List Expr) (t:Cg):Prop:=
 ∀(pins:List (Addr×Obj)) (s:Shared) (σ:St) (H:Hp) (vs:List V) (us:List Value) (Q:St->Hp->Prop),Inv X pins σ H s->aV vs us->t vs σ H Q->
  wpAny (model X.prog X.w) X.A (assignInOrder ((assignEach ts X.env).map (·.2)) us) (λ_ s'=>∃σ' H',Inv X pins σ' H' s'/\Q σ' H') X.xe s
abbrev xS:=V->V->V->Hp->(Hp->Prop)->Prop
noncomputable def Di (X:Cx) (t:xS):Prop:=
 ∀(pins:List (Addr×Obj)) (s:Shared) (σ:St) (H:Hp) (o i v:V) (ov iv u:Value) (Q:Hp->Prop),Inv X pins σ H s->RelV o ov->RelV i iv->RelV v u->t o i v H Q->
  wpAny (model X.prog X.w) X.A (setItem ov iv u) (λ_ s'=>∃H',Inv X pins σ H' s'/\Q H') X.xe s
abbrev II:=V->V->Hp->VK->Prop
noncomputable def JJ (X:Cx) (op:Operator) (t:II):Prop:=
 ∀(pins:List (Addr×Obj)) (s:Shared) (σ:St) (H:Hp) (x y:V) (v u:Value) (Q:VK),Inv X pins σ H s->RelV x v->RelV y u->t x y H Q->
  wpAny (model X.prog X.w) X.A (inplaceOp op v u) (EP X pins σ Q) X.xe s
section
variable {X : Cx} {pos : Pos}
noncomputable def gName (i:Nat):TG:=λv σ H Q=>Q (σ.set i (some v)) H
theorem aw {i:Nat} {x:Str} (hN:X.N.Nodup) (hi:X.N[i]?=some x) (hx:Loc X.env.scope x) (hf:X.fn x=true\/X.env.scope.names.lookup x=some .local:=by first | exact .inl rfl | exact .inr rfl | assumption):PG X (.Name x pos) (gName i):=by
 intro pins s σ H v u Q I r h
 exact wpAny_assign_Name (iM I hN hi hx r (λs' I'=>⟨_,H,I',h⟩) hf)
noncomputable def gNil:Cg:=λvs σ H Q=>vs=[]/\Q σ H
noncomputable def gCons (t:TG) (u:Cg):Cg:=λvs σ H Q=>∃v r,vs=v::r/\t v σ H λσ' H'=>u r σ' H' Q
theorem bJ:Fl X [] gNil:=by
 intro pins s σ H vs us Q I r h
 obtain⟨e,h⟩:=h
 subst e
 cases r
 exact assignInOrder_nil ⟨σ,H,I,h⟩
theorem aK {e:Expr} {es:List Expr} {t:TG} {u:Cg} (h1:PG X e t) (h2:Fl X es u)
  (hs:(assignEach (e::es) X.env).map (·.2)=assign e X.env::(assignEach es X.env).map (·.2):=by rfl):Fl X (e::es) (gCons t u):=by
 intro pins s σ H vs us Q I r h
 obtain⟨v,vr,e1,h⟩:=h
 subst e1
 cases r with
 | cons r rr=>
  rw[hs]
  refine assignInOrder_cons (bR (h1 pins s σ H _ _ _ I r h) λ_ s1 ⟨σ1,H1,I1,q1⟩=>?_)
  exact h2 pins s1 σ1 H1 _ _ Q I1 rr q1
noncomputable def xT (K:PySem.W.Frag) (n:Nat) (t:Cg):TG:=λv σ H Q=>∃a xs,v=.ref a/\dH K H a xs/\xs.length=n/\t xs σ H Q
theorem Dj {es:List Expr} {k:Nat} {t:Cg} {n:Nat} (hc:X.calm=true) (h:Fl X es t)
  (hn:(assignEach es X.env).length=n:=by rfl) (hst:(assignEach es X.env).findIdx? (·.1)=none:=by rfl):PG X (.Tuple es k pos) (xT X.K n t):=by
 intro pins s σ H v u Q I r hw
 obtain⟨a,xs,e1,hq,hl,hw⟩:=hw
 subst e1
 cases r
 obtain⟨aN,rv,ht,hz⟩:=I.tuple hq
 refine assign_Tuple_tuple (I.ok.hd hc) ht (by simp [hn,<-hl,rv.length]) hst λh' hx=>?_
 have I1:Inv X pins σ H {s with heap:=h'}:=I.kept (t':=s.toks) λb o e=>hx b o (YT (Heap.lt_size e)) e
 exact h pins _ σ H xs _ Q I1 (by simpa using rv) hw
noncomputable def gSub (to ti:TE) (t:xS):TG:=λv σ H Q=>to σ H λo H1=>ti σ H1 λi H2=>t o i v H2 λH3=>Q σ H3
theorem dA {o i:Expr} {to ti:TE} {t:xS} (ho:PE X o to) (hi:PE X i ti) (hs:Di X t)
  (ha:∀v,assign (.Subscript o i pos) X.env v=(do
   let ov <-holding [v] (eval o X.env)
   let iv <-holding [v,ov] (eval i X.env)
   standAt pos
   holding [v,ov,iv] (setItem ov iv v)
   release [v,ov,iv] []):=by intro _;rfl):PG X (.Subscript o i pos) (gSub to ti t):=by
 intro pins s σ H v u Q I r h
 rw[ha]
 refine wpAny_bind (wpAny_holding (bR (ho pins s σ H _ I h) λov s1 b8=>?_))
 obtain⟨x,H1,I1,r1,q1⟩:=b8
 refine wpAny_bind (wpAny_holding (bR (hi pins s1 σ H1 _ I1 q1) λiv s2 b8=>?_))
 obtain⟨y,H2,I2,r2,q2⟩:=b8
 refine wpAny_bind (wpAny_standAt (wpAny_bind (wpAny_holding (bR (hs pins s2 σ H2 x y v ov iv u _ I2 r1 r2 r q2) λ_ s3 ⟨H3,I3,q3⟩=>?_))))
 exact wpAny_release ⟨σ,H3,I3,q3⟩
noncomputable def tAsg (te:TE) (g:TG):TS:=λD σ H=>te σ H λx H1=>g x σ H1 D.nx
theorem dB {tg e:Expr} {te:TE} {g:TG} (he:PE X e te) (hg:PG X tg g) (hs:swapsWithSole [tg] e pos.line X.env=pure false:=by rfl) (hw:swappedStores [tg] e X.env=pure none:=by rfl)
  (h1:(assignEach [tg] X.env).map (·.2)=[assign tg X.env]:=by rfl):PS X (.Assign [tg] e pos) (tAsg te g):=by
 intro pins s σ H D I h
 refine wpAny_Assign_stores (bR (he pins s σ H _ I h) λv s1 b8=>?_) hs hw
 obtain⟨x,H1,I1,r1,q1⟩:=b8
 rw[h1]
 exact bR (hg pins s1 σ H1 x v _ I1 r1 q1) λ_ s2 q=>q
theorem ay {i:Nat} {x:Str} {e:Expr} {te:TE} {pos':Pos} (hN:X.N.Nodup) (hi:X.N[i]?=some x) (hx:Loc X.env.scope x) (he:PE X e te) (hs:swapsWith e (some (.Name x pos')) pos.line X.env=pure false:=by rfl) (hf:X.fn x=true\/X.env.scope.names.lookup x=some .local:=by first | exact .inl rfl | exact .inr rfl | assumption):
  PS X (.Assign [.Name x pos'] e pos) (tAsg te (gName i)):=by
 intro pins s σ H D I h
 refine wpAny_Assign_Name (bR (he pins s σ H _ I h) λv s1 b8=>?_) hs
 obtain⟨y,H1,I1,r1,q1⟩:=b8
 exact iM I1 hN hi hx r1 (λs2 I2=>⟨_,H1,I2,q1⟩) hf
noncomputable def tPar (i j:Nat) (ta:TA):TS:=λD σ H=>ta σ H λvs H1=>∃v w,vs=[v,w]/\D.nx ((σ.set i (some v)).set j (some w)) H1
theorem Dk {i j:Nat} {x y:Str} {a b:Expr} {ta:TA} {px py pt:Pos} {kt k2 JK} (hc:X.calm=true) (hN:X.N.Nodup) (hi:X.N[i]?=some x) (hj:X.N[j]?=some y) (pN:i≠j)
  (hx:X.env.scope.names.lookup x=some .local) (hy:X.env.scope.names.lookup y=some .local) (ha:PA X [a,b] ta)
  (hw:swappedStores [.Tuple [.Name x px,.Name y py] kt pt] (.Tuple [a,b] k2 JK) X.env=pure (some [x,y]))
  (hs:swapsWithSole [.Tuple [.Name x px,.Name y py] kt pt] (.Tuple [a,b] k2 JK) pos.line X.env=pure false:=by rfl):
  PS X (.Assign [.Tuple [.Name x px,.Name y py] kt pt] (.Tuple [a,b] k2 JK) pos) (tPar i j ta):=by
 intro pins s σ H D I h
 rw[exec_Assign_arm]
 refine wpAny_bind (wpAny_standAt ?_)
 rw[hs]
 refine wpAny_bind (wpAny_pure ?_)
 rw[if_neg (by decide)]
 refine wpAny_bind (Tuple_ (bR (ha _ pins s σ H _ I h) λus s1 b8=>?_))
 obtain⟨vs,H1,I1,r1,q1⟩:=b8
 obtain⟨v,w,e1,q1⟩:=q1
 subst e1
 obtain⟨u1,u2,rfl,rv,nY⟩:∃u1 u2,us=[u1,u2]/\RelV v u1/\RelV w u2:=by
  cases r1 with
  | cons p q=>
   cases q with
   | cons p' q'=>
    cases q'
    exact⟨_,_,rfl,p,p'⟩
 refine wpAny_newObj_type ?_ (by show 2<=sizeLine;decide)
 have I2:Inv X pins σ H1 {s1 with heap:=s1.heap.push {cls:=.type "tuple",data:=.seq [u1,u2].toArray}}:=I1.kept (t':=s1.toks) λb o e=>Heap.get?_push_of_some _ e
 rw[hw]
 refine wpAny_bind (wpAny_pure ?_)
 show wpAny (model X.prog X.w) X.A (do rule "assign.swapped-stores";let items <-unpackItems (.ref s1.heap.objs.size) 2 none;assignInOrder [λv=>bindName X.env y v,λv=>bindName X.env x v] items.reverse;pure Flow.next) _ _ _
 refine wpAny_bind (wpAny_rule (wpAny_bind (unpackItems_tuple (items:=#[u1,u2]) (I.ok.hd hc) (IsTup.new s1.heap _) λh' jA=>?_)))
 have I3:=I2.kept (h':=h') (t':=s1.toks) λb o e=>jA b o (YT (Heap.lt_size e)) e
 show wpAny _ _ (assignInOrder [λv=>bindName X.env y v,λv=>bindName X.env x v] [u2,u1] >>=λ_=>pure Flow.next) _ _ _
 refine wpAny_bind (assignInOrder_cons (wpAny_bindName (iM I3 hN hj (.inl hy) nY (λs2 I4=>?_) (.inr hy))))
 refine assignInOrder_cons (wpAny_bindName (iM I4 hN hi (.inl hx) rv (λs3 I5=>assignInOrder_nil (wpAny_pure ?_)) (.inr hx)))
 rw[List.set_comm _ _ (Ne.symm pN)] at I5
 exact⟨_,H1,I5,q1⟩
noncomputable def Ci (to ti te:TE) (AL:V->V->Hp->VK->Prop) (IJ:II) (AM:xS):TS:=λD σ H=>to σ H λo H1=>ti σ H1 λi H2=>AL o i H2 λx H3=>te σ H3 λy H4=>IJ x y H4 λz H5=>AM o i z H5 λH6=>D.nx σ H6
noncomputable def FQ (X:Cx) (t:V->V->Hp->VK->Prop):Prop:=
 ∀(pins:List (Addr×Obj)) (s:Shared) (σ:St) (H:Hp) (o i:V) (ov iv:Value) (Q:VK),Inv X pins σ H s->RelV o ov->RelV i iv->t o i H Q->
  wpAny (model X.prog X.w) X.A (getItem ov iv) (EP X pins σ Q) X.xe s
theorem uZ {o i e:Expr} {to ti te:TE} {AL:V->V->Hp->VK->Prop} {IJ:II} {AM:xS} {op:Operator} {fW:Pos} (ho:PE X o to) (hi:PE X i ti) (hg:FQ X AL) (he:PE X e te) (hp:JJ X op IJ) (hs:Di X AM)
  (ha:∀ov iv new,augStore i ov iv new=(do holding [new,ov,iv] (setItem ov iv new);release [new,ov,iv] [];pure .next):=by intros;rfl):PS X (.AugAssign (.Subscript o i fW) op e pos) (Ci to ti te AL IJ AM):=by
 intro pins s σ H D I h
 refine wpAny_AugAssign_SubscriptAny (bR (ho pins s σ H _ I h) λov s1 b8=>?_) ha
 obtain⟨x1,H1,I1,r1,q1⟩:=b8
 refine bR (hi pins s1 σ H1 _ I1 q1) λiv s2 b8=>?_
 obtain⟨x2,H2,I2,r2,q2⟩:=b8
 refine bR (hg pins s2 σ H2 x1 x2 ov iv _ I2 r1 r2 q2) λold s3 b8=>?_
 obtain⟨x3,H3,I3,r3,q3⟩:=b8
 refine bR (he pins s3 σ H3 _ I3 q3) λv s4 b8=>?_
 obtain⟨x4,H4,I4,r4,q4⟩:=b8
 refine bR (hp pins s4 σ H4 x3 x4 old v _ I4 r3 r4 q4) λnew s5 b8=>?_
 obtain⟨x5,H5,I5,r5,q5⟩:=b8
 exact bR (hs pins s5 σ H5 x1 x2 x5 ov iv new _ I5 r1 r2 r5 q5) λ_ s6 ⟨H6,I6,q6⟩=>⟨σ,H6,I6,q6⟩
noncomputable def JL (f:Int->Int->Int):II:=λx y H Q=>∃i j,x=.int i/\y=.int j/\Q (.int (f i j)) H
theorem Dl:JJ X .Add (JL λi j=>i+j):=by
 intro pins s σ H x y v u Q I r1 r2 h
 obtain⟨i,j,e1,e2,q⟩:=h
 subst e1;subst e2
 obtain⟨t,rfl⟩:=r1
 obtain⟨t',rfl⟩:=r2
 exact iadd_int ⟨.int _,H,I.tok _,⟨_,rfl⟩,q⟩
theorem Dm:JJ X .Sub (JL λi j=>i - j):=by
 intro pins s σ H x y v u Q I r1 r2 h
 obtain⟨i,j,e1,e2,q⟩:=h
 subst e1;subst e2
 obtain⟨t,rfl⟩:=r1
 obtain⟨t',rfl⟩:=r2
 exact isub_int ⟨.int _,H,I.tok _,⟨_,rfl⟩,q⟩
end
section
variable {X : Cx} {pos : Pos}
noncomputable def tS (c:TT) (tb:TS):TS:=λD σ H=>∃W:Nat->St->Hp->Prop,(∃m,W m σ H)/\∀m σ H,W m σ H->
 c σ H λb H1=>if b=true then ∃N:St->Hp->Prop,(∀σ' H',N σ' H'->∃m',m'<m/\W m' σ' H')/\tb {D with nx:=N,ct:=N,bk:=D.nx} σ H1 else D.nx σ H1
theorem iO {c:Expr} {body:List Stmt} {tc:TT} {tb:TS} (hp:PassesOwn (model X.prog X.w) X.A X.env X.xe) (hc:PT X c tc) (hb:tQ X body tb):PS X (.While c body [] pos) (tS tc tb):=by
 intro pins s σ H D I h
 obtain⟨W,⟨m0,w0⟩,turn⟩:=h
 refine wpAny_While (codeAny_whileLoop (λn s'=>∃σ' H',Inv X pins σ' H' s'/\W n σ' H') ?_ m0 ⟨σ,H,I,w0⟩)
 rintro n s1 ⟨σ1,H1,I1,w1⟩
 refine wpAny_passesOwn hp (bR (hc pins s1 σ1 H1 _ I1 (turn n σ1 H1 w1)) λb s2 ⟨H2,I2,q2⟩=>?_)
 cases b with
 | true=>
  obtain⟨N,hN,q2⟩:=q2
  rw[if_pos rfl]
  refine wpAny_passesOwn hp (bR (hb pins s2 σ1 H2 _ I2 q2) λf s3 q3=>?_)
  cases f with
  | next=>
   obtain⟨σ3,H3,I3,n3⟩:=q3
   obtain⟨m',hm,w3⟩:=hN σ3 H3 n3
   exact⟨m',hm,σ3,H3,I3,w3⟩
  | cont=>
   obtain⟨σ3,H3,I3,n3⟩:=q3
   obtain⟨m',hm,w3⟩:=hN σ3 H3 n3
   exact⟨m',hm,σ3,H3,I3,w3⟩
  | brk=>exact q3
  | ret v=>exact q3
 | false=>
  rw[if_neg YZ]
  exact wpAny_execs_nil ⟨σ1,H2,I2,q2⟩
end
structure It where
 go:Nat->Hp->Prop
 tL:Nat->Hp->V->Hp->Prop
 stop:Nat->Hp->Prop
noncomputable def g5 (X:Cx) (pins:List (Addr×Obj)) (H:Hp) (b:Addr):Prop:=
 H b=none/\b≠X.env.locals/\b∉X.fs/\(b∈X.ex\/X.s₀.heap.objs.size<=b)/\(∀x c,X.env.cells.lookup x=some c->c≠b)/\∀p∈X.pn++pins,p.1≠b
theorem Inv.qM {X:Cx} {pins:List (Addr×Obj)} {σ:St} {H H':Hp} {s:Shared} {b:Addr} (I:Inv X pins σ H s) (hb:s.heap.objs.size<=b) (hn:H' b=none):g5 X pins H' b:=by
 refine⟨hn,Nat.ne_of_gt (YY I.lt hb),I.JD hb,.inr (Y2 I.sz hb),λx c e z=>?_,λp hp z=>?_⟩
 ·obtain⟨v,q⟩:=I.cell x c e
  exact absurd (YY q.lt (by rw[z];exact hb)) (Zl _)
 ·exact absurd (YY (Heap.lt_size (I.pin p hp).1) (by rw[z];exact hb)) (Zl _)
structure Turn (P:Program) (w:World) (K:PySem.W.Frag) (tg:Expr) (J:It) (fp:List Addr) (it:Addr) (tn:Nat->Heap->Prop):Prop where
 mem:it∈fp
 obj:∀i h,tn i h->∀b∈fp,∃o,h.get? b=some o/\∀v,o.data≠.cell v
 keep:∀i h h',tn i h->(∀b∈fp,∀o,h.get? b=some o->h'.get? b=some o)->tn i h'
 item:∀(X:Cx),X.prog=P->X.w=w->X.K=K->X.calm=true->∀(i:Nat) (pins:List (Addr×Obj)) (s:Shared) (σ:St) (H:Hp) (E:Value->Shared->Prop),Inv X pins σ H s->(∀b∈fp,g5 X pins H b)->tn i s.heap->J.go i H->
  wpAny (model P w) X.A (pyNext (.ref it)) (λr s1=>∃u,r=some u/\
   wpAny (model P w) X.A (letOwnedTupleGo tg (.ref it) u) (λ_ s2=>∃x H',Inv X pins σ H' s2/\RelV x u/\J.tL i H x H'/\tn (i+1) s2.heap/\∀b∈fp,H' b=none) E s1) E s
 done:∀(X:Cx),X.prog=P->X.w=w->X.K=K->X.calm=true->∀(i:Nat) (pins:List (Addr×Obj)) (s:Shared) (σ:St) (H:Hp) (E:Value->Shared->Prop),Inv X pins σ H s->(∀b∈fp,g5 X pins H b)->tn i s.heap->J.stop i H->
  wpAny (model P w) X.A (pyNext (.ref it)) (λr s1=>r=none/\Inv X pins σ H s1) E s
 self:∀(A:Around) (i:Nat) (s:Shared) (Q:Value->Shared->Prop) (E:Value->Shared->Prop),tn i s.heap->Q (.ref it) s->wpAny (model P w) A (pyIter (.ref it)) Q E s
abbrev TI:=St->Hp->(It->Hp->Prop)->Prop
noncomputable def Rf (X:Cx) (pins:List (Addr×Obj)) (σ:St) (tg:Expr) (R:It->Hp->Prop) (Cj:Value) (s2:Shared):Prop:=
 ∃(it:Addr) (fp:List Addr) (tn:Nat->Heap->Prop) (J:It) (H':Hp),Cj=.ref it/\Inv X pins σ H' s2/\Turn X.prog X.w X.K tg J fp it tn/\tn 0 s2.heap/\(∀b∈fp,g5 X pins H' b)/\R J H'
noncomputable def PI (X:Cx) (tg iter:Expr) (wi:TI):Prop:=
 ∀(pins:List (Addr×Obj)) (s:Shared) (σ:St) (H:Hp) (R:It->Hp->Prop),Inv X pins σ H s->wi σ H R->
  wpAny (model X.prog X.w) X.A (eval iter X.env) (λv s1=>wpAny (model X.prog X.w) X.A (pyIter v) (Rf X pins σ tg R) X.xe s1) X.xe s
theorem u3 {M:Model} {A:Around} {E:Value->Shared->Prop} {s:Shared} {tg:Expr} {it:Addr} {u:Value} {o:Obj} {n:String} {vs:Array Value} {Q:Unit->Shared->Prop} (ho:s.heap.get? it=some o) (hc:o.cls=.type n) (hd:o.data=.fields vs)
  (hn:["enumerate","zip","dict_itemiterator","dict_reverseitemiterator","odict_iterator","itertools.zip_longest","itertools.pairwise"].contains n=false) (hQ:Q () s):wpAny M A (letOwnedTupleGo tg (.ref it) u) Q E s:=by
 unfold letOwnedTupleGo
 cases tg <;>first
  | exact wpAny_pure hQ
  | (cases u <;>first
    | exact wpAny_pure hQ
    | (refine wpAny_bind (wpAny_load ho ?_)
       rw[hc,hd]
       show wpAny M A (if (["enumerate","zip","dict_itemiterator","dict_reverseitemiterator","odict_iterator","itertools.zip_longest","itertools.pairwise"].contains n && vs[0]?==some (rawInt _))=true then _ else _) Q E s
       rw[if_neg (by intro h;rw[hn,Bool.false_and] at h;cases h)]
       exact wpAny_pure hQ))
noncomputable def tT (K:PySem.W.Frag) (a:Addr):It:=
 ⟨λi H=>∃xs x,aR K H a xs/\xs[i]?=some x,λi H x H'=>H'=H/\∀xs,aR K H a xs->xs[i]?=some x,λi H=>∃xs,aR K H a xs/\xs.length<=i⟩
noncomputable def FR (K:PySem.W.Frag) (a:Addr):It:=
 ⟨λi H=>∃xs x,dH K H a xs/\xs[i]?=some x,λi H x H'=>H'=H/\∀xs,dH K H a xs->xs[i]?=some x,λi H=>∃xs,dH K H a xs/\xs.length<=i⟩
noncomputable def FT (lo:Int) (n:Nat):It:=⟨λi _=>i<n,λi H x H'=>H'=H/\x=.int (lo+i),λi _=>n<=i⟩
theorem wy {P:Program} {w:World} {K:PySem.W.Frag} {tg:Expr} (a it:Addr):Turn P w K tg (tT K a) [it] it (λi h=>h.IsListIter it a i) where
 mem:=by simp
 obj:=λi h st b hb=>by
  have e:b=it:=by simpa using hb
  subst e
  obtain⟨o,e,c,d⟩:=st
  exact⟨o,e,λv z=>by rw[d] at z;cases z⟩
 keep:=λi h h' st k=>st.at λo e=>k it (by simp) o e
 item:=by
  intro X hP hw hK hc i pins s σ H E I hf st hg
  subst hP hw hK
  obtain⟨xs,x,hq,hx⟩:=hg
  obtain⟨aN,rv,p,hz⟩:=I.list hq
  obtain⟨u,hu,ru⟩:=rv.get hx
  obtain⟨f0,f1,f2,f3,f4,f5⟩:=hf it (by simp)
  refine wpAny_pyNext_list_item st p.isList (x:=u) (by simpa using hu) λh' aM sb=>?_
  have I1:Inv X pins σ H {s with heap:=h'}:=I.turned (t':=s.toks) (λb o hb e=>(sb.2 b hb).trans e) f0 f1 f3 f4 f5
  obtain⟨o,e,c,d⟩:=id aM
  exact⟨u,rfl,u3 (s:={s with heap:=h'}) e c d (by decide) ⟨x,H,I1,ru,⟨rfl,λys hy=>by rw[I.gj hy hq];exact hx⟩,aM,λb hb=>(hf b hb).1⟩⟩
 done:=by
  intro X hP hw hK hc i pins s σ H E I hf st hg
  subst hP hw hK
  obtain⟨xs,hq,hx⟩:=hg
  obtain⟨aN,rv,p,hz⟩:=I.list hq
  obtain⟨f0,f1,f2,f3,f4,f5⟩:=hf it (by simp)
  have hl:=rv.length
  exact wpAny_pyNext_list_end (I.ok.hd hc) st p.isList (by simp;omega) λh' eb=>⟨rfl,I.turned (t':=s.toks) (λb o hb e=>eb b o hb e) f0 f1 f3 f4 f5⟩
 self:=λ_ _ _ _ _ st h=>wpAny_pyIter_listiter st h
theorem tU {P:Program} {w:World} {K:PySem.W.Frag} {tg:Expr} (a it:Addr):Turn P w K tg (FR K a) [it] it (λi h=>h.IsTupleIter it a i) where
 mem:=by simp
 obj:=λi h st b hb=>by
  have e:b=it:=by simpa using hb
  subst e
  obtain⟨o,e,c,d⟩:=st
  exact⟨o,e,λv z=>by rw[d] at z;cases z⟩
 keep:=λi h h' st k=>st.at λo e=>k it (by simp) o e
 item:=by
  intro X hP hw hK hc i pins s σ H E I hf st hg
  subst hP hw hK
  obtain⟨xs,x,hq,hx⟩:=hg
  obtain⟨aN,rv,p,hz⟩:=I.tuple hq
  obtain⟨u,hu,ru⟩:=rv.get hx
  obtain⟨f0,f1,f2,f3,f4,f5⟩:=hf it (by simp)
  refine wpAny_pyNext_tuple_item st (show s.heap.IsTuple a aN.toArray from p) (x:=u) (by simpa using hu) λh' aM sb=>?_
  have I1:Inv X pins σ H {s with heap:=h'}:=I.turned (t':=s.toks) (λb o hb e=>(sb.2 b hb).trans e) f0 f1 f3 f4 f5
  obtain⟨o,e,c,d⟩:=id aM
  exact⟨u,rfl,u3 (s:={s with heap:=h'}) e c d (by decide) ⟨x,H,I1,ru,⟨rfl,λys hy=>by rw[I.wx hy hq];exact hx⟩,aM,λb hb=>(hf b hb).1⟩⟩
 done:=by
  intro X hP hw hK hc i pins s σ H E I hf st hg
  subst hP hw hK
  obtain⟨xs,hq,hx⟩:=hg
  obtain⟨aN,rv,p,hz⟩:=I.tuple hq
  obtain⟨f0,f1,f2,f3,f4,f5⟩:=hf it (by simp)
  have hl:=rv.length
  exact wpAny_pyNext_tuple_end (I.ok.hd hc) st (show s.heap.IsTuple a aN.toArray from p) (by simp;omega) λh' eb=>⟨rfl,I.turned (t':=s.toks) (λb o hb e=>eb b o hb e) f0 f1 f3 f4 f5⟩
 self:=λ_ _ _ _ _ st h=>wpAny_pyIter_tupleiter st h
theorem tV {P:Program} {w:World} {K:PySem.W.Frag} {tg:Expr} (it:Addr) (lo:Int) (n:Nat):Turn P w K tg (FT lo n) [it] it (λi h=>IsRangeIter h it (lo+ (i:Nat)*1) ((n:Int) - (i:Nat)) 1) where
 mem:=by simp
 obj:=λi h st b hb=>by
  have e:b=it:=by simpa using hb
  subst e
  exact⟨_,st,λv z=>by
   have z':Data.fields _=Data.cell v:=z
   cases z'⟩
 keep:=λi h h' st k=>k it (by simp) _ st
 item:=by
  intro X hP hw hK hc i pins s σ H E I hf st hg
  subst hP hw hK
  obtain⟨f0,f1,f2,f3,f4,f5⟩:=hf it (by simp)
  have W:=Walks.range (prog:=X.prog) (w:=X.w) (I.ok.hd hc) it lo 1 n
  refine W.item i s _ _ hg st λv h' tk hv aM kk=>?_
  obtain⟨t,rfl⟩:=hv
  have I1:Inv X pins σ H {s with heap:=h',toks:=tk}:=I.turned (λb o hb e=>kk b o (by simpa using hb) e) f0 f1 f3 f4 f5
  refine⟨_,rfl,u3 (s:={s with heap:=h',toks:=tk}) (n:="range_iterator") aM rfl rfl (by decide) ⟨.int (lo+i),H,I1,⟨t,?_⟩,⟨rfl,rfl⟩,aM,λb hb=>(hf b hb).1⟩⟩
  rw[Int.mul_one]
 done:=by
  intro X hP hw hK hc i pins s σ H E I hf st hg
  subst hP hw hK
  obtain⟨f0,f1,f2,f3,f4,f5⟩:=hf it (by simp)
  exact wpAny_pyNext_range_end (I.ok.hd hc) st (by have:n<=i:=hg;omega) λh' eb=>⟨rfl,I.turned (t':=s.toks) (λb o hb e=>eb b o hb e) f0 f1 f3 f4 f5⟩
 self:=λ_ _ _ _ _ st h=>wpAny_pyIter_rangeiter st h
end L2
namespace L2
open PySem PySem.Spec PyProof.Rows
section
variable {X : Cx} {tg : Expr}
noncomputable def iList (K:PySem.W.Frag) (tl:TE):TI:=λσ H R=>tl σ H λx H1=>∃a,x=.ref a/\(∃xs,aR K H1 a xs)/\R (tT K a) H1
noncomputable def iTup (K:PySem.W.Frag) (tl:TE):TI:=λσ H R=>tl σ H λx H1=>∃a,x=.ref a/\(∃xs,dH K H1 a xs)/\R (FR K a) H1
theorem AN {l:Expr} {tl:TE} (hl:PE X l tl):PI X tg l (iList X.K tl):=by
 intro pins s σ H R I h
 refine bR (hl pins s σ H _ I h) λv s1 b8=>?_
 obtain⟨x,H1,I1,r1,q1⟩:=b8
 obtain⟨a,e,⟨xs,hq⟩,q⟩:=q1
 subst e
 cases r1
 obtain⟨aN,rv,p,hz⟩:=I1.list hq
 refine wpAny_pyIter_list p.isList ?_
 refine⟨s1.heap.objs.size,[s1.heap.objs.size],_,_,H1,rfl,I1.kept (t':=s1.toks) λb o e=>Heap.get?_push_of_some _ e,wy a _,⟨_,Heap.get?_push_size _ rfl,rfl,rfl⟩,λb hb=>?_,q⟩
 have e:b=s1.heap.objs.size:=by simpa using hb
 subst e
 exact I1.qM (YO _) (I1.bE.fresh (YO _))
theorem Dp {l:Expr} {tl:TE} (hl:PE X l tl):PI X tg l (iTup X.K tl):=by
 intro pins s σ H R I h
 refine bR (hl pins s σ H _ I h) λv s1 b8=>?_
 obtain⟨x,H1,I1,r1,q1⟩:=b8
 obtain⟨a,e,⟨xs,hq⟩,q⟩:=q1
 subst e
 cases r1
 obtain⟨aN,rv,p,hz⟩:=I1.tuple hq
 refine wpAny_pyIter_tuple (show s1.heap.IsTuple a aN.toArray from p) ?_
 refine⟨s1.heap.objs.size,[s1.heap.objs.size],_,_,H1,rfl,I1.kept (t':=s1.toks) λb o e=>Heap.get?_push_of_some _ e,tU a _,⟨_,Heap.get?_push_size _ rfl,rfl,rfl⟩,λb hb=>?_,q⟩
 have e:b=s1.heap.objs.size:=by simpa using hb
 subst e
 exact I1.qM (YO _) (I1.bE.fresh (YO _))
theorem qN {pins:List (Addr×Obj)} {σ:St} {H:Hp} {s:Shared} {R:It->Hp->Prop} {E:Value->Shared->Prop} {lo hi:Int} {t u v:Tok} {tk:Nat} (I:Inv X pins σ H s) (h1:-(2^62)<=lo) (h2:lo<2^62) (h3:-(2^62)<=hi) (h4:hi<2^62)
  (q:R (FT lo (hi - lo).toNat) H):wpAny (model X.prog X.w) X.A (pyIter (.ref s.heap.objs.size)) (Rf X pins σ tg R) E {s with heap:=s.heap.push {cls:=.type "range",data:=.fields #[.int lo t,.int hi u,.int 1 v]},toks:=tk}:=by
 refine wpAny_pyIter_range (IsRange.new ..) (small_one h1 h2 h3 h4) ?_
 have I1:Inv X pins σ H {s with heap:=s.heap.push {cls:=.type "range",data:=.fields #[.int lo t,.int hi u,.int 1 v]},toks:=tk}:=I.kept λb o e=>Heap.get?_push_of_some _ e
 refine⟨(s.heap.push {cls:=.type "range",data:=.fields #[.int lo t,.int hi u,.int 1 v]}).objs.size,[(s.heap.push {cls:=.type "range",data:=.fields #[.int lo t,.int hi u,.int 1 v]}).objs.size],_,_,H,rfl,
  I1.kept (t':=tk) λb o e=>Heap.get?_push_of_some _ e,tV _ lo (hi - lo).toNat,?_,λb hb=>?_,q⟩
 ·have e1:lo+ ((0:Nat):Int)*1=lo:=by simp
  have e2:(((hi - lo).toNat:Nat):Int) - ((0:Nat):Int)=Builtin.Range.rangeSize lo hi 1:=by rw[rangeSize_one];split <;>omega
  show IsRangeIter _ _ (lo+ ((0:Nat):Int)*1) ((((hi - lo).toNat:Nat):Int) - ((0:Nat):Int)) 1
  rw[e1,e2]
  exact Heap.get?_push_size _ rfl
 ·have e:b=(s.heap.push {cls:=.type "range",data:=.fields #[.int lo t,.int hi u,.int 1 v]}).objs.size:=by simpa using hb
  subst e
  exact I1.qM (YO _) (I1.bE.fresh (YO _))
noncomputable def iRng1 (ta:TA):TI:=λσ H R=>ta σ H λvs H1=>∃j:Int,vs=[.int j]/\-(2^62)<=j/\j<2^62/\R (FT 0 j.toNat) H1
noncomputable def iRng2 (ta:TA):TI:=λσ H R=>ta σ H λvs H1=>∃i j:Int,vs=[.int i,.int j]/\(-(2^62)<=i/\i<2^62/\-(2^62)<=j/\j<2^62)/\R (FT i (j - i).toNat) H1
theorem cE {a:Expr} {ta:TA} {p pos:Pos} (hg:Gl X "range") (hm:X.mg "range"=none) (ha:PA X [a] ta) (hs:starEach [a] X.env=[(false,eval a X.env)]:=by rfl):PI X tg (.Call (.Name "range" p) [a] [] pos) (iRng1 ta):=by
 intro pins s σ H R I h
 refine Call_ (fc I hg hm boot_range (ZY (bR (ha pos pins s σ H _ I h) λus s1 b8=>?_) hs rfl))
 obtain⟨vs,H1,I1,r1,q1⟩:=b8
 obtain⟨j,e,q1,q2,q⟩:=q1
 subst e
 cases r1 with
 | cons r rr=>
  cases rr
  obtain⟨t,rfl⟩:=r
  exact call_range_1 (qN I1 (by omega) (by omega) q1 q2 (by simpa using q))
theorem wz {a b:Expr} {ta:TA} {p pos:Pos} (hg:Gl X "range") (hm:X.mg "range"=none) (ha:PA X [a,b] ta) (hs:starEach [a,b] X.env=[(false,eval a X.env),(false,eval b X.env)]:=by rfl) (Ck:starEach [b] X.env=[(false,eval b X.env)]:=by rfl):
  PI X tg (.Call (.Name "range" p) [a,b] [] pos) (iRng2 ta):=by
 intro pins s σ H R I h
 refine Call_ (fc I hg hm boot_range (ZY (bR (ha pos pins s σ H _ I h) λus s1 b8=>?_) (by rw[hs,Ck]) (by rw[Ck];rfl)))
 obtain⟨vs,H1,I1,r1,q1⟩:=b8
 obtain⟨i,j,e,⟨q1,q2,q3,q4⟩,q⟩:=q1
 subst e
 cases r1 with
 | cons r rr=>
  cases rr with
  | cons r' rr=>
   cases rr
   obtain⟨t,rfl⟩:=r
   obtain⟨t',rfl⟩:=r'
   exact call_range_2 (qN I1 q1 q2 q3 q4 q)
noncomputable def FU (wi:TI) (g:TG) (tb:TS):TS:=λD σ H=>wi σ H λJ H1=>∃W:Nat->Nat->St->Hp->Prop,(∃m,W 0 m σ H1)/\∀i m σ H,W i m σ H->
 (J.stop i H/\D.nx σ H)\/(J.go i H/\∃N:St->Hp->Prop,(∀σ' H',N σ' H'->∃m',m'<m/\W (i+1) m' σ' H')/\∀x H',J.tL i H x H'->g x σ H' λσ2 H2=>tb {D with nx:=N,ct:=N,bk:=D.nx} σ2 H2)
noncomputable def lU (fp:List Addr) (h:Heap):List (Addr×Obj):=fp.filterMap λb=>(h.get? b).map λo=>(b,o)
theorem fg {fp:List Addr} {h:Heap} {b:Addr} {o:Obj} (hb:b∈fp) (e:h.get? b=some o):(b,o)∈lU fp h:=List.mem_filterMap.mpr ⟨b,hb,by rw[e];rfl⟩
theorem wA {fp:List Addr} {h:Heap} {p:Addr×Obj} (hp:p∈lU fp h):p.1∈fp/\h.get? p.1=some p.2:=by
 obtain⟨b,hb,e⟩:=List.mem_filterMap.mp hp
 cases q:h.get? b with
 | none=>rw[q] at e;cases e
 | some o=>
  rw[q] at e
  have e':(b,o)=p:=Zg e
  subst e'
  exact⟨hb,q⟩
theorem Inv.pinned {pins:List (Addr×Obj)} {σ:St} {H:Hp} {s:Shared} {fp:List Addr} (I:Inv X pins σ H s) (hf:∀b∈fp,g5 X pins H b) (ho:∀b∈fp,∃o,s.heap.get? b=some o/\∀v,o.data≠.cell v):Inv X (pins++lU fp s.heap) σ H s:=
 I.iL λp hp=>(List.mem_append.mp hp).elim (λz=>I.pin p (Zp _ z)) λz=>by
  obtain⟨hb,e⟩:=wA z
  obtain⟨f0,f1,f2,_⟩:=hf p.1 hb
  obtain⟨o,e',d⟩:=ho p.1 hb
  rw[e] at e';cases e'
  exact⟨e,f0,f1,f2,d⟩
theorem Inv.lV {pins pl:List (Addr×Obj)} {σ:St} {H:Hp} {s:Shared} (I:Inv X (pins++pl) σ H s):Inv X pins σ H s:=I.iL λp hp=>I.pin p (Zp _ (List.mem_append_left _ hp))
theorem bL {iter:Expr} {body:List Stmt} {wi:TI} {g:TG} {tb:TS} {pos:Pos} (hp:PassesOwn (model X.prog X.w) X.A X.env X.xe) (hc:X.calm=true) (hi:PI X tg iter wi) (hg:PG X tg g) (hb:tQ X body tb)
  (hs:∀x,foldedSetIterable iter X.env x=pure x:=by intro _;rfl):PS X (.For tg iter body [] pos) (FU wi g tb):=by
 intro pins s σ H D I h
 refine wpAny_For (bR (hi pins s σ H _ I h) λv s1 h1=>bR h1 λCj s2 h2=>?_) hs
 obtain⟨it,fp,tn,J,H2,e,I2,T,bI,f2,W,⟨m0,w0⟩,turn⟩:=h2
 subst e
 have tW:∀{H':Hp},(∀b∈fp,H' b=none)->∀b∈fp,g5 X pins H' b:=λhn b hb=>⟨hn b hb,(f2 b hb).2⟩
 refine codeAny_forLoop_any (λn s'=>∃i σ' H',Inv X pins σ' H' s'/\tn i s'.heap/\(∀b∈fp,H' b=none)/\W i n σ' H') ?_ m0 ⟨0,σ,H2,I2,bI,λb hb=>(f2 b hb).1,w0⟩
 rintro n s3 ⟨i,σ3,H3,I3,nS,Dq,w3⟩
 rcases turn i n σ3 H3 w3 with ⟨stop,qn⟩ | ⟨go,N,hN,step⟩
 ·refine wpAny_passesOwn hp (bR (T.done X rfl rfl rfl hc i pins s3 σ3 H3 X.xe I3 (tW Dq) nS stop) λr s4 ⟨hr,I4⟩=>?_)
  subst hr
  exact wpAny_execs_nil ⟨σ3,H3,I4,qn⟩
 ·refine wpAny_passesOwn hp (bR (T.item X rfl rfl rfl hc i pins s3 σ3 H3 X.xe I3 (tW Dq) nS go) λr s4 ⟨u,hr,h4⟩=>?_)
  subst hr
  refine wpAny_passesOwn hp (bR h4 λ_ s5 b8=>?_)
  obtain⟨x,H5,I5,r5,y5,FV,S1⟩:=b8
  have S2:=I5.pinned (tW S1) (T.obj _ _ FV)
  refine wpAny_passesOwn hp (bR (hg _ s5 σ3 H5 x u _ S2 r5 (step x H5 y5)) λ_ s6 ⟨σ6,H6,I6,q6⟩=>?_)
  refine wpAny_passesOwn hp (bR (hb _ s6 σ6 H6 _ I6 q6) λf s7 q7=>?_)
  have again:∀{σ7:St} {H7:Hp},Inv X (pins++lU fp s5.heap) σ7 H7 s7->N σ7 H7->∃m,m<n/\∃i σ' H',Inv X pins σ' H' s7/\tn i s7.heap/\(∀b∈fp,H' b=none)/\W i m σ' H':=λ{σ7 H7} I7 n7=>by
   obtain⟨m',hm,w7⟩:=hN σ7 H7 n7
   refine⟨m',hm,i+1,σ7,H7,I7.lV,T.keep _ _ _ FV λb hb o e=>(I7.pin (b,o) (Zp _ (Zp _ (fg hb e)))).1,λb hb=>?_,w7⟩
   obtain⟨o,e,d⟩:=T.obj _ _ FV b hb
   exact(I7.pin (b,o) (Zp _ (Zp _ (fg hb e)))).2.1
  cases f with
  | next=>obtain⟨σ7,H7,I7,n7⟩:=q7;exact again I7 n7
  | cont=>obtain⟨σ7,H7,I7,n7⟩:=q7;exact again I7 n7
  | brk=>obtain⟨σ7,H7,I7,q7⟩:=q7;exact⟨σ7,H7,I7.lV,q7⟩
  | ret v=>obtain⟨x7,σ7,H7,I7,r7,q7⟩:=q7;exact⟨x7,σ7,H7,I7.lV,r7,q7⟩
end
theorem AO {K:PySem.W.Frag} {a:Addr} {xs:List V} {g:TG} {tb:TS} {D:Ends} {σ:St} {H:Hp} (Pv:Nat->St->Hp->Prop) (h0:Pv 0 σ H) (hl:∀i σ H,i<=xs.length->Pv i σ H->dH K H a xs)
  (hs:∀i x σ H,xs[i]?=some x->Pv i σ H->g x σ H λσ2 H2=>tb {D with nx:=Pv (i+1),ct:=Pv (i+1),bk:=D.nx} σ2 H2) (hd:∀σ H,Pv xs.length σ H->D.nx σ H):
  ∃W:Nat->Nat->St->Hp->Prop,(∃m,W 0 m σ H)/\∀i m σ H,W i m σ H->
   ((FR K a).stop i H/\D.nx σ H)\/((FR K a).go i H/\∃N:St->Hp->Prop,(∀σ' H',N σ' H'->∃m',m'<m/\W (i+1) m' σ' H')/\∀x H',(FR K a).tL i H x H'->g x σ H' λσ2 H2=>tb {D with nx:=N,ct:=N,bk:=D.nx} σ2 H2):=by
 refine⟨λi m σ H=>m=xs.length - i/\i<=xs.length/\Pv i σ H,⟨xs.length,by simp,Y0 _,h0⟩,?_⟩
 rintro i m σ H ⟨rfl,hi,p⟩
 have q:=hl i σ H hi p
 by_cases en:i<xs.length
 ·refine .inr ⟨⟨xs,xs[i],q,by simp [en]⟩,Pv (i+1),λσ' H' p'=>⟨xs.length - (i+1),by omega,rfl,en,p'⟩,λx H' y=>?_⟩
  obtain⟨e,y⟩:=y
  subst e
  exact hs i x σ _ (y xs q) p
 ·have e:i=xs.length:=by omega
  subst e
  exact .inl ⟨⟨xs,q,YO _⟩,hd σ H p⟩
theorem qO {c:TT} {tb:TS} {D:Ends} {σ:St} {H:Hp} (Pv:St->Hp->Prop) (μ:St->Hp->Nat) (h0:Pv σ H)
  (hs:∀σ H,Pv σ H->c σ H λb H1=>if b=true then tb {D with nx:=λσ' H'=>Pv σ' H'/\μ σ' H'<μ σ H,ct:=λσ' H'=>Pv σ' H'/\μ σ' H'<μ σ H,bk:=D.nx} σ H1 else D.nx σ H1)
  (mono:∀σ H Q Q',(∀b H1,Q b H1->Q' b H1)->c σ H Q->c σ H Q'):tS c tb D σ H:=by
 refine⟨λm σ H=>m=μ σ H/\Pv σ H,⟨_,rfl,h0⟩,?_⟩
 rintro m σ H ⟨rfl,p⟩
 refine mono σ H _ _ (λb H1 q=>?_) (hs σ H p)
 cases b with
 | true=>exact⟨_,λσ' H' ⟨p',l⟩=>⟨_,l,rfl,p'⟩,q⟩
 | false=>exact q
end L2
namespace L2
open PySem PySem.Spec PyProof.Rows
abbrev R2:=V->V->Hp->VK->Prop
noncomputable def jv (X:Cx) (f:Value->Value->Sem Value) (r:R2):Prop:=
 ∀(pins:List (Addr×Obj)) (s:Shared) (σ:St) (H:Hp) (x y:V) (v u:Value) (Q:VK),Inv X pins σ H s->RelV x v->RelV y u->r x y H Q->
  wpAny (model X.prog X.w) X.A (f v u) (EP X pins σ Q) X.xe s
noncomputable def IK (X:Cx) (f:Value->Sem Value) (r:V->Hp->VK->Prop):Prop:=
 ∀(pins:List (Addr×Obj)) (s:Shared) (σ:St) (H:Hp) (x:V) (v:Value) (Q:VK),Inv X pins σ H s->RelV x v->r x H Q->
  wpAny (model X.prog X.w) X.A (f v) (EP X pins σ Q) X.xe s
noncomputable def bY (X:Cx) (f:Value) (r:List V->Hp->VK->Prop):Prop:=
 ∀(pins:List (Addr×Obj)) (s:Shared) (σ:St) (H:Hp) (xs:List V) (us:List Value) (Q:VK),Inv X pins σ H s->aV xs us->r xs H Q->
  wpAny (model X.prog X.w) X.A (call f us) (EP X pins σ Q) X.xe s
noncomputable def tOp (r:R2) (ta tb:TE):TE:=λσ H Q=>ta σ H λx H1=>tb σ H1 λy H2=>r x y H2 Q
noncomputable def tUn (r:V->Hp->VK->Prop) (ta:TE):TE:=λσ H Q=>ta σ H λx H1=>r x H1 Q
noncomputable def rI (C:Int->Int->Prop) (g:Int->Int->V):R2:=λx y H Q=>∃i j,x=.int i/\y=.int j/\C i j/\Q (g i j) H
noncomputable def rI0 (g:Int->Int->V):R2:=λx y H Q=>∃i j,x=.int i/\y=.int j/\Q (g i j) H
noncomputable def rU (g:Int->V):V->Hp->VK->Prop:=λx H Q=>∃i,x=.int i/\Q (g i) H
section
variable {X : Cx} {a b c : Expr} {ta tb tc : TE} {pos : Pos}
theorem Dr (ha:PE X a ta) (hb:PE X b tb) {pins:List (Addr×Obj)} {s:Shared} {σ:St} {H:Hp} {R:V->V->Hp->Prop} (I:Inv X pins σ H s)
  (h:ta σ H λx H1=>tb σ H1 λy H2=>R x y H2) {Q:Value->Shared->Prop} {f:Value->Value->Sem Value}
  (hf:∀v u s2 x y H2,Inv X pins σ H2 s2->RelV x v->RelV y u->R x y H2->wpAny (model X.prog X.w) X.A (f v u) Q X.xe s2):
  wpAny (model X.prog X.w) X.A (eval a X.env) (λv s₁=>wpAny (model X.prog X.w) X.A (eval b X.env) (λu s₂=>wpAny (model X.prog X.w) X.A (f v u) Q X.xe s₂) X.xe s₁) X.xe s:=by
 refine bR (ha pins s σ H _ I h) λv s1 b8=>?_
 obtain⟨x,H1,I1,r1,q1⟩:=b8
 refine bR (hb pins s1 σ H1 _ I1 q1) λu s2 b8=>?_
 obtain⟨y,H2,I2,r2,q2⟩:=b8
 exact hf v u s2 x y H2 I2 r1 r2 q2
theorem aG {op:Operator} {r:R2} (ho:jv X (binaryOp op) r) (ha:PE X a ta) (hb:PE X b tb):PE X (.BinOp a op b pos) (tOp r ta tb):=by
 intro pins s σ H Q I h
 exact wpAny_BinOp (Dr ha hb I h λv u s2 x y H2 I2 rx ry q=>ho pins s2 σ H2 x y v u Q I2 rx ry q)
theorem xU {op:UnaryOp} {r:V->Hp->VK->Prop} (ho:IK X (unaryOp op) r) (ha:PE X a ta):PE X (.UnaryOp op a pos) (tUn r ta):=by
 intro pins s σ H Q I h
 exact UnaryOp_ (bR (ha pins s σ H _ I h) λv s1 ⟨x,H1,I1,r1,q1⟩=>ho pins s1 σ H1 x v Q I1 r1 q1)
theorem FW {f:Value->Value->Sem Value} {C:Int->Int->Prop} {g:Int->Int->Int}
  (rule:∀(i j:Int) (t u:Tok) (s:Shared) (Q:Value->Shared->Prop) (E:Value->Shared->Prop),C i j->Q (.int (g i j) s.toks) {s with toks:=s.toks+1}->wpAny (model X.prog X.w) X.A (f (.int i t) (.int j u)) Q E s):
  jv X f (rI C λi j=>.int (g i j)):=by
 intro pins s σ H x y v u Q I rx ry h
 obtain⟨i,j,rfl,rfl,hc,q⟩:=h
 obtain⟨t,rfl⟩:=rx
 obtain⟨t',rfl⟩:=ry
 exact rule i j t t' s _ _ hc ⟨.int (g i j),H,I.tok _,⟨_,rfl⟩,q⟩
theorem FX {f:Value->Value->Sem Value} {g:Int->Int->Int}
  (rule:∀(i j:Int) (t u:Tok) (s:Shared) (Q:Value->Shared->Prop) (E:Value->Shared->Prop),Q (.int (g i j) s.toks) {s with toks:=s.toks+1}->wpAny (model X.prog X.w) X.A (f (.int i t) (.int j u)) Q E s):
  jv X f (rI0 λi j=>.int (g i j)):=by
 intro pins s σ H x y v u Q I rx ry h
 obtain⟨i,j,rfl,rfl,q⟩:=h
 obtain⟨t,rfl⟩:=rx
 obtain⟨t',rfl⟩:=ry
 exact rule i j t t' s _ _ ⟨.int (g i j),H,I.tok _,⟨_,rfl⟩,q⟩
theorem FY {f:Value->Value->Sem Value} {g:Int->Int->Bool}
  (rule:∀(i j:Int) (t u:Tok) (s:Shared) (Q:Value->Shared->Prop) (E:Value->Shared->Prop),Q (.bool (g i j)) s->wpAny (model X.prog X.w) X.A (f (.int i t) (.int j u)) Q E s):
  jv X f (rI0 λi j=>.bl (g i j)):=by
 intro pins s σ H x y v u Q I rx ry h
 obtain⟨i,j,rfl,rfl,q⟩:=h
 obtain⟨t,rfl⟩:=rx
 obtain⟨t',rfl⟩:=ry
 exact rule i j t t' s _ _ ⟨.bl (g i j),H,I,rfl,q⟩
noncomputable def CPow (i j:Int):Prop:=0<=j/\j<=1000000/\i.natAbs<2^64
theorem bT:jv X (binaryOp .Add) (rI0 λi j=>.int (i+j)):=FX λ_ _ _ _ _ _ _ q=>add_int q
theorem pO:jv X (binaryOp .Sub) (rI0 λi j=>.int (i - j)):=FX λ_ _ _ _ _ _ _ q=>sub_int q
theorem Ds:jv X (binaryOp .Mod) (rI (λ_ j=>0<j) λi j=>.int (i % j)):=FW λi j _ _ _ _ _ hc q=>by
 have h1:(0:Int)<j:=hc
 exact mod_int' (by omega) (by rw[Int.fmod_eq_emod_of_nonneg i (by omega)];exact q)
theorem pP:jv X (binaryOp .Pow) (rI CPow λi j=>.int (i^j.toNat)):=FW λ_ _ _ _ _ _ _ hc q=>pow_int_small hc.1 hc.2.1 hc.2.2 q
theorem S3 {f:Value->Sem Value} {g:Int->Int}
  (rule:∀(i:Int) (t:Tok) (s:Shared) (Q:Value->Shared->Prop) (E:Value->Shared->Prop),Q (.int (g i) s.toks) {s with toks:=s.toks+1}->wpAny (model X.prog X.w) X.A (f (.int i t)) Q E s):
  IK X f (rU λi=>.int (g i)):=by
 intro pins s σ H x v Q I rx h
 obtain⟨i,rfl,q⟩:=h
 obtain⟨t,rfl⟩:=rx
 exact rule i t s _ _ ⟨.int (g i),H,I.tok _,⟨_,rfl⟩,q⟩
theorem tX:IK X (unaryOp .USub) (rU λi=>.int (-i)):=S3 λ_ _ _ _ _ q=>neg_int q
end
noncomputable def scal:V->V->Bool
 | .bV,.bV=>true | .bV,.int _=>true | .int _,.bV=>true | .bV,.bl _=>true | .bl _,.bV=>true | .bV,.str _=>true | .str _,.bV=>true
 | .int _,.int _=>true | .bl _,.bl _=>true | .str _,.str _=>true | .xB _,.xB _=>true
 | .int _,.str _=>true | .str _,.int _=>true | .bl _,.str _=>true | .str _,.bl _=>true
 | _,_=>false
noncomputable def rEq:R2:=λx y H Q=>scal x y=true/\Q (.bl (decide (x=y))) H
noncomputable def rNe:R2:=λx y H Q=>scal x y=true/\Q (.bl (!decide (x=y))) H
theorem u4 {i j:Int}:decide (V.int i=V.int j)=(i==j):=by
 rw[Bool.eq_iff_iff]
 simp
theorem xV {i j:Bool}:decide (V.bl i=V.bl j)=(i==j):=by
 rw[Bool.eq_iff_iff]
 simp
theorem u5 {i j:Str}:decide (V.str i=V.str j)=(i==j):=by
 rw[Bool.eq_iff_iff]
 simp
theorem u6 {i j:Array UInt8}:decide (V.xB i=V.xB j)=(i.toList==j.toList):=by
 rw[Bool.eq_iff_iff]
 cases i
 cases j
 simp
section
variable {X : Cx} {a b c : Expr} {ta tb tc : TE} {pos : Pos}
theorem bj {pins:List (Addr×Obj)} {σ:St} {H:Hp} {s:Shared} {Q:VK} {k k':Bool} (I:Inv X pins σ H s) (q:Q (.bl k) H) (e:k=k'):EP X pins σ Q (.bool k') s:=by
 subst e
 exact⟨.bl k,H,I,rfl,q⟩
theorem df:jv X (compareOp .Eq) rEq:=by
 intro pins s σ H x y v u Q I rx ry h
 obtain⟨hs,q⟩:=h
 cases x with
 | bV=>
  cases rx
  cases y with
  | bV=>cases ry;exact PySem.EqNone.eq_none_none (bj I q (by simp))
  | bl j=>cases ry;exact PySem.EqNone.eq_none_bool (bj I q (by simp))
  | int j=>obtain⟨t',rfl⟩:=ry;exact PySem.EqNone.eq_none_int (bj I q (by simp))
  | str j=>obtain⟨t',rfl⟩:=ry;exact PySem.EqNone.eq_none_str (bj I q (by simp))
  | _=>exact absurd (show false=true from hs) YZ
 | bl i=>
  cases rx
  cases y with
  | bV=>cases ry;exact PySem.EqNone.eq_bool_none (bj I q (by simp))
  | bl j=>cases ry;exact eq_bool (bj I q xV)
  | str j=>obtain⟨t',rfl⟩:=ry;exact PySem.EqMixed.eq_bool_str (bj I q (by simp))
  | _=>exact absurd (show false=true from hs) YZ
 | int i=>
  obtain⟨t,rfl⟩:=rx
  cases y with
  | bV=>cases ry;exact PySem.EqNone.eq_int_none (bj I q (by simp))
  | int j=>obtain⟨t',rfl⟩:=ry;exact eq_int (bj I q u4)
  | str j=>obtain⟨t',rfl⟩:=ry;exact PySem.EqMixed.eq_int_str (bj I q (by simp))
  | _=>exact absurd (show false=true from hs) YZ
 | str i=>
  obtain⟨t,rfl⟩:=rx
  cases y with
  | bV=>cases ry;exact PySem.EqNone.eq_str_none (bj I q (by simp))
  | bl j=>cases ry;exact PySem.EqMixed.eq_str_bool (bj I q (by simp))
  | int j=>obtain⟨t',rfl⟩:=ry;exact PySem.EqMixed.eq_str_int (bj I q (by simp))
  | str j=>obtain⟨t',rfl⟩:=ry;exact eq_str (bj I q u5)
  | _=>exact absurd (show false=true from hs) YZ
 | xB i=>
  obtain⟨t,rfl⟩:=rx
  cases y with
  | xB j=>obtain⟨t',rfl⟩:=ry;exact PySem.W.eq_bytes (bj I q u6)
  | _=>exact absurd (show false=true from hs) YZ
 | _=>cases y <;>exact absurd (show false=true from hs) YZ
theorem qP:jv X (compareOp .NotEq) rNe:=by
 intro pins s σ H x y v u Q I rx ry h
 obtain⟨hs,q⟩:=h
 cases x with
 | bV=>
  cases rx
  cases y with
  | bV=>cases ry;exact PySem.EqNone.ne_none_none (bj I q (by simp))
  | bl j=>cases ry;exact PySem.EqNone.ne_none_bool (bj I q (by simp))
  | int j=>obtain⟨t',rfl⟩:=ry;exact PySem.EqNone.ne_none_int (bj I q (by simp))
  | str j=>obtain⟨t',rfl⟩:=ry;exact PySem.EqNone.ne_none_str (bj I q (by simp))
  | _=>exact absurd (show false=true from hs) YZ
 | bl i=>
  cases rx
  cases y with
  | bV=>cases ry;exact PySem.EqNone.ne_bool_none (bj I q (by simp))
  | bl j=>cases ry;exact ne_bool (bj I q (congrArg not xV))
  | str j=>obtain⟨t',rfl⟩:=ry;exact PySem.EqMixed.ne_bool_str (bj I q (by simp))
  | _=>exact absurd (show false=true from hs) YZ
 | int i=>
  obtain⟨t,rfl⟩:=rx
  cases y with
  | bV=>cases ry;exact PySem.EqNone.ne_int_none (bj I q (by simp))
  | int j=>obtain⟨t',rfl⟩:=ry;exact ne_int (bj I q (congrArg not u4))
  | str j=>obtain⟨t',rfl⟩:=ry;exact PySem.EqMixed.ne_int_str (bj I q (by simp))
  | _=>exact absurd (show false=true from hs) YZ
 | str i=>
  obtain⟨t,rfl⟩:=rx
  cases y with
  | bV=>cases ry;exact PySem.EqNone.ne_str_none (bj I q (by simp))
  | bl j=>cases ry;exact PySem.EqMixed.ne_str_bool (bj I q (by simp))
  | int j=>obtain⟨t',rfl⟩:=ry;exact PySem.EqMixed.ne_str_int (bj I q (by simp))
  | str j=>obtain⟨t',rfl⟩:=ry;exact ne_str (bj I q (congrArg not u5))
  | _=>exact absurd (show false=true from hs) YZ
 | xB i=>
  obtain⟨t,rfl⟩:=rx
  cases y with
  | xB j=>obtain⟨t',rfl⟩:=ry;exact PySem.W.ne_bytes (bj I q (congrArg not u6))
  | _=>exact absurd (show false=true from hs) YZ
 | _=>cases y <;>exact absurd (show false=true from hs) YZ
theorem qQ:jv X (compareOp .Lt) (rI0 λi j=>.bl (decide (i<j))):=FY λ_ _ _ _ _ _ _ q=>lt_int q
theorem iP:jv X (compareOp .Gt) (rI0 λi j=>.bl (decide (j<i))):=FY λ_ _ _ _ _ _ _ q=>gt_int q
theorem tY:jv X (compareOp .Is) (λx y H Q=>y=.bV/\Q (.bl (decide (x=.bV))) H):=by
 intro pins s σ H x y v u Q I rx ry h
 obtain⟨rfl,q⟩:=h
 cases ry
 refine is_none_gen (bj I q ?_)
 cases x <;>first
  | (cases rx;rfl)
  | (obtain⟨t,rfl⟩:=rx;rfl)
theorem AQ:jv X (compareOp .IsNot) (λx y H Q=>y=.bV/\Q (.bl (!decide (x=.bV))) H):=by
 intro pins s σ H x y v u Q I rx ry h
 obtain⟨rfl,q⟩:=h
 cases ry
 refine isnot_none_gen (bj I q ?_)
 cases x <;>first
  | (cases rx;rfl)
  | (obtain⟨t,rfl⟩:=rx;rfl)
theorem aW (b:Expr) {op:CmpOp} (h:op≠.In:=by decide) (h2:op≠.NotIn:=by decide):behindInMarks op b=false:=by
 have e1:(op==CmpOp.In)=false:=by cases op <;>first | rfl | exact absurd rfl h
 have e2:(op==CmpOp.NotIn)=false:=by cases op <;>first | rfl | exact absurd rfl h2
 cases b <;>simp [behindInMarks,e1,e2]
theorem iQ {op:CmpOp} {r:R2} (ho:jv X (compareOp op) r) (ha:PE X a ta) (hb:PE X b tb) (hm:behindInMarks op b=false):PE X (.Compare a [op] [b] pos) (tOp r ta tb):=by
 intro pins s σ H Q I h
 exact wpAny_Compare1 (Dr ha hb I h λv u s2 x y H2 I2 rx ry q=>ho pins s2 σ H2 x y v u Q I2 rx ry q) hm
noncomputable def tTest (t:TE):TT:=λσ H Q=>t σ H λx H'=>∃k,x=.bl k/\Q k H'
theorem aQ {op:CmpOp} {r:R2} (ho:jv X (compareOp op) r) (ha:PE X a ta) (hb:PE X b tb) (hm:behindInMarks op b=false):PT X (.Compare a [op] [b] pos) (tTest (tOp r ta tb)):=by
 intro pins s σ H Q I h
 refine wpAny_isTrue_Compare1 (bR (ha pins s σ H _ I h) λv s1 ⟨x,H1,I1,r1,q1⟩=>bR (hb pins s1 σ H1 _ I1 q1) λu s2 ⟨y,H2,I2,r2,q2⟩=>
  bR (ho pins s2 σ H2 x y v u _ I2 r1 r2 q2) λc s3 ⟨z,H3,I3,r3,k,e,q3⟩=>?_) hm
 subst e
 cases r3
 exact wpAny_truthy_bool ⟨H3,I3,q3⟩
noncomputable def tChain (r r':R2) (ta tb tc:TE):TE:=λσ H Q=>ta σ H λx H1=>tb σ H1 λy H2=>r x y H2 λz H3=>∃k,z=.bl k/\
 (if k=true then tc σ H3 λw' H4=>r' y w' H4 Q else Q (.bl false) H3)
theorem lW:(sizeLine:Nat)<2^63:=by rw[sizeLine_eq];decide
theorem vals1 {x:V} {us:List Value} (r:aV [x] us):∃u,us=[u]/\RelV x u:=by
 cases r with
 | cons r1 r2=>cases r2;exact⟨_,rfl,r1⟩
theorem vals2 {x y:V} {us:List Value} (r:aV [x,y] us):∃u w',us=[u,w']/\RelV x u/\RelV y w':=by
 cases r with
 | cons r1 r2=>
  cases r2 with
  | cons r3 r4=>cases r4;exact⟨_,_,rfl,r1,r3⟩
theorem lZ:bY X (.builtin "abs") (λxs H Q=>∃i,xs=[.int i]/\Q (.int (if i<0 then -i else i)) H):=by
 intro pins s σ H xs us Q I r h
 obtain⟨i,rfl,q⟩:=h
 obtain⟨u,rfl,t,rfl⟩:=vals1 r
 exact call_abs_int λu tk=>⟨.int (if i<0 then -i else i),H,I.tok _,⟨_,rfl⟩,q⟩
theorem wB (hc:X.calm=true):bY X (.builtin "max") (λxs H Q=>∃i j,xs=[.int i,.int j]/\Q (.int (if j >i then j else i)) H):=by
 intro pins s σ H xs us Q I r h
 obtain⟨i,j,rfl,q⟩:=h
 obtain⟨u,w',rfl,⟨t,rfl⟩,⟨t',rfl⟩⟩:=vals2 r
 refine max_two_ints (I.ok.hd hc) λh' tk k=>⟨_,H,I.kept k,?_,q⟩
 by_cases hj:j >i
 ·rw[if_pos hj,if_pos hj];exact⟨_,rfl⟩
 ·rw[if_neg hj,if_neg hj];exact⟨_,rfl⟩
theorem wC:bY X (.type "int") (λxs H Q=>(∃i,xs=[.int i]/\Q (.int i) H)\/∃k,xs=[.bl k]/\Q (.int (if k then 1 else 0)) H):=by
 intro pins s σ H xs us Q I r h
 rcases h with ⟨i,rfl,q⟩ | ⟨k,rfl,q⟩
 ·obtain⟨u,rfl,t,rfl⟩:=vals1 r
  exact call_int_int ⟨.int i,H,I,⟨_,rfl⟩,q⟩
 ·obtain⟨u,rfl,r1⟩:=vals1 r
  cases r1
  exact call_int_bool ⟨.int (if k then 1 else 0),H,I.tok _,⟨_,rfl⟩,q⟩
end
end L2
namespace L2
open PySem PySem.Spec PyProof.Rows
structure tZ (h:Heap) (x dx C:Addr) (mA:Str->Option Value):Prop where
 obj:h.get? x=some (PySem.W.instObj C dx)
 ns:h.Ns1 dx mA
 ne:dx≠x
set_option tactic.hygienic true in
theorem wD {h:Heap} {dx:Addr} {mA:Str->Option Value} (n:h.Ns1 dx mA):∃od,h.get? dx=some od/\∀name,PySem.W.lookIn name od=some (mA name):=by
 obtain⟨o,es,ep,ho,hd,hk,_,hm⟩:=n
 refine⟨o,ho,λname=>?_⟩
 have e:=hm name
 unfold nsFind findBy at e
 rw[<-Array.find?_toList] at e
 unfold PySem.W.lookIn
 rw[hd]
 dsimp only
 split
 ·rename_i y q
  rw[q] at e
  exact congrArg some e
 ·rename_i q
  rw[q] at e
  have a:es.toList.any (·.refKey)=false:=by
   rw[List.any_eq_false]
   intro y hy
   obtain⟨z,t,JM⟩:=hk y (Array.mem_toList_iff.mp hy)
   simp [DictEntry.refKey,JM]
  have a':¬es.toList.any (·.refKey)=true:=by rw[a];exact YZ
  rw[if_neg a']
  exact congrArg some e
theorem tZ.look {h:Heap} {x dx C:Addr} {mA:Str->Option Value} (I:tZ h x dx C mA):∃od,PySem.W.InstAt h x (PySem.W.instObj C dx) C (some od)/\∀name,PySem.W.lookIn name od=some (mA name):=
 let ⟨od,ho,hl⟩:=wD I.ns
 ⟨od,⟨I.obj,rfl,rfl,ho⟩,hl⟩
section
variable {prog : Program} {w : World} {A : Around} {E : Value -> Shared -> Prop} {s : Shared} {K : PySem.W.Frag} {x dx C f : Addr} {mA : Str -> Option Value} {name : Str} {v : Value}
theorem get_map {expr:Bool} {Q:Value->Shared->Prop} (X:K.In s.heap) (I:tZ s.heap x dx C mA) (hg:PySem.W.plainGet K C name=true) (hh:PySem.W.hasDictIn K C=true)
  (ha:PySem.W.findIn K (.ref C) name=some none) (hv:mA name=some v) (S4:PySem.W.handedIn v=true) (h:Q v {s with toks:=s.toks+1}):
  wpAny (model prog w) A (getAttr (.ref x) name expr) Q E s:=by
 obtain⟨od,J,hl⟩:=I.look
 exact PySem.W.get_value X J (PySem.W.plainGet_of hg).1 (PySem.W.findObj_own hh ha rfl (by rw[hl,hv])) S4 h
theorem xW {pl:Sem Bool} {Q:Value×List Value->Shared->Prop} (X:K.In s.heap) (I:tZ s.heap x dx C mA) (hg:PySem.W.plainGet K C name=true)
  (hf:PySem.W.findIn K (.ref C) name=some (some (.ref f))) (ht:PySem.W.isFn K (.ref f)=true) (hv:mA name=none) (h:Q (.ref f,[.ref x]) s):
  wpAny (model prog w) A (getMethod (.ref x) name pl) Q E s:=by
 obtain⟨od,J,hl⟩:=I.look
 exact PySem.W.method_fn X J (PySem.W.plainGet_of hg).1 (PySem.W.plainGet_of hg).2 hf (beq_iff_eq.mp ht) (by show(PySem.W.lookIn name od).map (·.isSome)=some false;rw[hl,hv];rfl) h
theorem AR {ns:List Str} {Q:Unit->Shared->Prop} (X:K.In s.heap) (I:tZ s.heap x dx C mA)
  (hs:PySem.W.findIn K (.ref C) "__setattr__"=some (some (.builtin "object.__setattr__"))) (hp:PySem.W.plainOver K C=true) (ht:PySem.W.takerIn K C name=some none) (hh:PySem.W.hasDictIn K C=true)
  (hw:PySem.Within mA ns) (hsz:ns.length<=sizeLine)
  (h:∀h',tZ h' x dx C (λy=>if y=name then some v else mA y)->Heap.SameBut dx s.heap h'->Q () {s with heap:=h',toks:=s.toks+2}):
  wpAny (model prog w) A (setAttr (.ref x) name v) Q E s:=by
 obtain⟨od,J,hl⟩:=I.look
 refine PySem.W.set_plain X J hs (PySem.W.osa_open (s:={s with toks:=s.toks+1}) (r:=none) X J hp ht λb=>?_)
 obtain⟨cd,hc,FO⟩:=PySem.W.any_some hh
 have hx:s.heap.get? x=some ⟨.ref C,some dx,.plain,#[]⟩:=I.obj
 refine wpAny_bind (wpAny_pure (wpAny_bind (wpAny_bind (wpAny_loadPart hx (wpAny_bind (PySem.W.Looks.here (s:={s with toks:=s.toks+1}) (PySem.W.looks_clsIn X hc) ?_))))))
 rw[FO]
 refine wpAny_pure (a:=some dx) (wpAny_bind (wpAny_pure (wpAny_bind ?_)))
 refine wpAny_nsSet1 (s:={s with toks:=s.toks+1}) I.ns λh' IL Ck=>?_
 obtain⟨oD,Xv,Xw,S5,S6,S7⟩:=IL.count (PySem.Within.cons name v hw)
 refine wpAny_bind (wpAny_lookBehind S5 (by rw[S6];exact pastItsLine_dict (Y2 S7 (by rw[Y8];omega))) ?_)
 exact wpAny_pure (h _ ⟨(Ck.2 _ (Ne.symm I.ne)).trans I.obj,IL,I.ne⟩ Ck)
theorem xX {R:Result->Shared->Prop} {vs:List Value} {kw:List (Str×Value)} (X:K.In s.heap) (hm:PySem.W.makesIn K C=true)
  (hi:PySem.W.findIn K (.ref C) "__init__"=some (some (.ref f))) (hf:PySem.W.typeIn K (.ref f)=some (.type "function"))
  (h:codeAny (model prog w) (A.under (.builtin "type.__call__" ⟨.ref C::vs,kw⟩)) (.call (.ref f) ⟨.ref (s.heap.objs.size+1)::vs,kw⟩) (PySem.W.InitBack (s.heap.objs.size+1) R)
   {s with heap:=(s.heap.push PySem.W.emptyDict).push (PySem.W.instObj C s.heap.objs.size)}):
  codeAny (model prog w) A (.call (.ref C) ⟨vs,kw⟩) R s:=by
 obtain⟨hh,g,d,t,os⟩:=s
 exact PySem.W.make_core (PySem.W.makes_of X hm) (PySem.W.looks_findIn X hi) (λself=>PySem.W.bind_fn X self hf) (.inl rfl) h
end
noncomputable def g6 (f:Str) (v:V):List (Str×V)->List (Str×V)
 | []=>[(f,v)]
 | (g,x)::r=>if g=f then (g,v)::r else (g,x)::g6 f v r
theorem jT (f g:Str) (v:V):∀fs:List (Str×V),(g6 f v fs).lookup g=if g=f then some v else fs.lookup g
 | []=>by
  show List.lookup g [(f,v)]=_
  by_cases h:g=f
  ·have hb:(g==f)=true:=beq_iff_eq.mpr h
   simp only[List.lookup,hb,if_pos h]
  ·have hb:(g==f)=false:=beq_eq_false_iff_ne.mpr h
   simp only[List.lookup,hb,if_neg h]
 | (k,x)::r=>by
  have ih:=jT f g v r
  rw[show g6 f v ((k,x)::r)=(if k=f then (k,v)::r else (k,x)::g6 f v r) from rfl]
  by_cases hk:k=f
  ·rw[if_pos hk]
   by_cases h:g=k
   ·have hb:(g==k)=true:=beq_iff_eq.mpr h
    simp only[List.lookup,hb,if_pos (h.trans hk)]
   ·have hb:(g==k)=false:=beq_eq_false_iff_ne.mpr h
    simp only[List.lookup,hb,if_neg (λe:g=f=>h (e.trans hk.symm))]
  ·rw[if_neg hk]
   by_cases h:g=k
   ·have hb:(g==k)=true:=beq_iff_eq.mpr h
    simp only[List.lookup,hb,if_neg (λe:g=f=>hk (h.symm.trans e))]
   ·have hb:(g==k)=false:=beq_eq_false_iff_ne.mpr h
    simp only[List.lookup,hb]
    exact ih
theorem jB (f:Str) (v:V):∀fs:List (Str×V),f∈(g6 f v fs).map (·.1)/\∀g,g∈fs.map (·.1)->g∈(g6 f v fs).map (·.1)
 | []=>⟨by simp [g6],λg h=>by simp at h⟩
 | (k,x)::r=>by
  obtain⟨i1,i2⟩:=jB f v r
  rw[show g6 f v ((k,x)::r)=(if k=f then (k,v)::r else (k,x)::g6 f v r) from rfl]
  by_cases hk:k=f
  ·rw[if_pos hk]
   subst hk
   exact⟨by simp,λg h=>by simpa using h⟩
  ·rw[if_neg hk]
   refine⟨?_,λg h=>?_⟩
   ·rw[Y3]
    exact YU _ i1
   ·rw[Y3] at h ⊢
    rcases List.mem_cons.mp h with e | e
    ·exact List.mem_cons.mpr (.inl e)
    ·exact YU _ (i2 g e)
theorem jU (f:Str) (v:V):∀fs:List (Str×V),(g6 f v fs).length<=fs.length+1
 | []=>by simp [g6]
 | (k,x)::r=>by
  have ih:=jU f v r
  rw[show g6 f v ((k,x)::r)=(if k=f then (k,v)::r else (k,x)::g6 f v r) from rfl]
  by_cases hk:k=f
  ·rw[if_pos hk,Y8,Y8];omega
  ·rw[if_neg hk,Y8,Y8];omega
theorem gZ.some_of {v:V} {o:Option Value} (r:gZ (some v) o):∃u,o=some u/\RelV v u:=by
 cases o with
 | none=>exact(show False from r).elim
 | some u=>exact⟨u,rfl,r⟩
theorem gZ.none_of {o:Option Value} (r:gZ none o):o=none:=by
 cases o with
 | none=>rfl
 | some u=>exact(show False from r).elim
theorem wG {v:V} {u:Value} (r:RelV v u):PySem.W.handedIn u=true:=by
 cases v with
 | bV=>cases (show u=Value.none from r);rfl
 | bl b=>cases (show u=Value.bool b from r);rfl
 | int i=>obtain⟨t,e⟩:=(show ∃t,u=Value.int i t from r);cases e;rfl
 | str x=>obtain⟨t,e⟩:=(show ∃t,u=Value.str x t from r);cases e;rfl
 | xB b=>obtain⟨t,e⟩:=(show ∃t,u=Value.bytes b t from r);cases e;rfl
 | C7 b=>obtain⟨t,e⟩:=(show ∃t,u=Value.float b t from r);cases e;rfl
 | ref a=>cases (show u=Value.ref a from r);rfl
 | ty n=>cases (show u=Value.type n from r);rfl
section
variable {P : Program} {w : World} {H H' : Hp} {h h' : Heap} {a C dx : Addr} {fs SU : List (Str × V)}
theorem lh (bE:gf P w H h) (e:H a=some (.ins C dx fs)):∃mA,tZ h a dx C mA/\(∀f,gZ (fs.lookup f) (mA f))/\PySem.Within mA (fs.map (·.1))/\fs.length<=1000/\H dx=some (.own a):=by
 obtain⟨d,z,ne,ob,mA,n,r,q⟩:=(show bQ P w H h a (.ins C dx fs) from bE a _ e)
 exact⟨mA,⟨ob,n,ne⟩,r,q,z,d⟩
end
structure wH (K:PySem.W.Frag) (C:Addr):Prop where
 pg:PySem.W.plainGet K C Str.empty=true
 hd:PySem.W.hasDictIn K C=true
 po:PySem.W.plainOver K C=true
 sa:PySem.W.findIn K (.ref C) "__setattr__"=some (some (.builtin "object.__setattr__"))
theorem wH.get {K:PySem.W.Frag} {C:Addr} (c:wH K C) (f:Str):PySem.W.plainGet K C f=true:=c.pg
noncomputable def jC (K:PySem.W.Frag) (C:Addr) (f:Str):Prop:=PySem.W.findIn K (.ref C) f=some none
theorem jC.FZ {K:PySem.W.Frag} {C:Addr} {f:Str} (n:jC K C f):PySem.W.takerIn K C f=some none:=by
 unfold PySem.W.takerIn
 rw[show PySem.W.findIn K (.ref C) f=some none from n]
 rfl
structure Xx (K:PySem.W.Frag) (C:Addr) (f:Str) (v:V) (u:Value):Prop where
 at_:PySem.W.findIn K (.ref C) f=some (some u)
 rel:RelV v u
 get:PySem.W.specialIn K u "__get__"=some none
 cp:PySem.W.copiedNames.contains f=false
structure xY (K:PySem.W.Frag) (C:Addr) (m:Str) (f:Addr):Prop where
 at_:PySem.W.findIn K (.ref C) m=some (some (.ref f))
 fn:PySem.W.isFn K (.ref f)=true
 kp:PySem.W.keepIn K (.ref f)=true
section
variable {X : Cx} {pins : List (Addr × Obj)} {σ : St} {H : Hp} {s : Shared} {a C dx : Addr} {fs : List (Str × V)} {f : Str} {v : V} {A : Around} {E : Value -> Shared -> Prop}
theorem t6 {b:Bool} {Q:Value->Shared->Prop} (I:Inv X pins σ H s) (e:H a=some (.ins C dx fs)) (c:wH X.K C) (n:jC X.K C f) (l:fs.lookup f=some v)
  (h:∀u s',Inv X pins σ H s'->RelV v u->Q u s'):wpAny (model X.prog X.w) A (getAttr (.ref a) f b) Q E s:=by
 obtain⟨mA,O,r,_,_,_⟩:=lh I.bE e
 obtain⟨u,hu,ru⟩:=gZ.some_of (v:=v) (o:=mA f) (by rw[<-l];exact r f)
 exact get_map I.km O (c.get f) c.hd n hu (wG ru) (h u _ (I.tok _) ru)
theorem ma {m:Str} {g:Addr} {pl:Sem Bool} {Q:Value×List Value->Shared->Prop} (I:Inv X pins σ H s) (e:H a=some (.ins C dx fs)) (c:wH X.K C) (k:xY X.K C m g) (l:fs.lookup m=none)
  (h:Q (.ref g,[.ref a]) s):wpAny (model X.prog X.w) A (getMethod (.ref a) m pl) Q E s:=by
 obtain⟨mA,O,r,_,_,_⟩:=lh I.bE e
 have hn:mA m=none:=gZ.none_of (by rw[<-l];exact r m)
 exact xW I.km O (c.get m) k.at_ k.fn hn h
theorem t7 {y:V} {u:Value} {Q:Unit->Shared->Prop} (I:Inv X pins σ H s) (e:H a=some (.ins C dx fs)) (c:wH X.K C) (n:jC X.K C f) (hl:fs.length<1000) (ry:RelV y u)
  (h:∀s',Inv X pins σ (upd H a (.ins C dx (g6 f y fs))) s'->Q () s'):wpAny (model X.prog X.w) A (setAttr (.ref a) f u) Q E s:=by
 obtain⟨mA,O,r,wi,_,ho⟩:=lh I.bE e
 have hz:(fs.map (·.1)).length<=sizeLine:=by rw[YL,sizeLine_eq];omega
 refine AR I.km O c.sa c.po n.FZ c.hd wi hz λh' O' sb=>h _ ?_
 have hd:∃o,h'.get? dx=some o:=let ⟨o,_,_,e',_⟩:=O'.ns;⟨o,e'⟩
 refine I.write (x:=a) (e:=dx) (by rw[e];exact True.intro) (.inr ho) (λb q hb z=>(sb.2 b hb).trans z) hd ?_
 refine⟨by rw[ax O.ne];exact ho,?_,O.ne,O'.obj,_,O'.ns,λg=>?_,λg hg=>?_⟩
 ·have:=jU f y fs;omega
 ·show gZ ((g6 f y fs).lookup g) (if g=f then some u else mA g)
  rw[jT]
  by_cases q:g=f
  ·rw[if_pos q,if_pos q];exact ry
  ·rw[if_neg q,if_neg q];exact r g
 ·by_cases q:g=f
  ·rw[q];exact(jB f y fs).1
  ·refine(jB f y fs).2 g (wi g λz=>hg ?_)
   show(if g=f then some u else mA g)=none
   rw[if_neg q];exact z
theorem Inv.made (I:Inv X pins σ H s):Inv X pins σ (upd (upd H s.heap.objs.size (.own (s.heap.objs.size+1))) (s.heap.objs.size+1) (.ins C s.heap.objs.size []))
  {s with heap:=(s.heap.push PySem.W.emptyDict).push (PySem.W.instObj C s.heap.objs.size)}:=by
 have e1:(s.heap.push PySem.W.emptyDict).get? s.heap.objs.size=some PySem.W.emptyDict:=Heap.get?_push_size s.heap rfl
 have e2:((s.heap.push PySem.W.emptyDict).push (PySem.W.instObj C s.heap.objs.size)).get? (s.heap.objs.size+1)=some (PySem.W.instObj C s.heap.objs.size):=by
  have:=Heap.get?_push_size (s.heap.push PySem.W.emptyDict) (o:=PySem.W.instObj C s.heap.objs.size) rfl
  rwa [Heap.size_push] at this
 have e3:(s.heap.push PySem.W.emptyDict).Ns s.heap.objs.size (λ_=>none):=⟨PySem.W.emptyDict,#[],_,e1,rfl,(λe he=>absurd he (by simp)),λ_=>rfl⟩
 have I1:=I.laid (a:=s.heap.objs.size) (o:=.own (s.heap.objs.size+1)) (h':=s.heap.push PySem.W.emptyDict) (t':=s.toks) (λb u q=>Heap.get?_push_of_some _ q) (YO _) ⟨_,e1⟩
 refine I1.laid (a:=s.heap.objs.size+1) (o:=.ins C s.heap.objs.size []) (t':=s.toks) (λb u q=>Heap.get?_push_of_some _ q) (Nat.le_of_eq (Heap.size_push _ _)) ?_
 have ne:s.heap.objs.size≠s.heap.objs.size+1:=YT (Zq _)
 refine⟨by rw[ax ne,ag],Y0 _,ne,e2,λ_=>none,(Heap.Ns1.of_empty e3).at λo q=>Heap.get?_push_of_some _ q,λ_=>True.intro,λy hy=>absurd rfl hy⟩
theorem AS {prog:Program} {w:World} {env:Env} {e:Expr} {f:Str} {pos:Pos} {s:Shared} {Q:Value->Shared->Prop} (hb:attributeBase e f env (eval e env)=eval e env)
  (h:wpAny (model prog w) A (eval e env) (λo s₁=>wpAny (model prog w) A (getAttr o f true) Q E s₁) E s):wpAny (model prog w) A (eval (.Attribute e f pos) env) Q E s:=
 Attribute_any_ h (by rw[arm_eval_Attribute,hb])
end
noncomputable def iR (K:PySem.W.Frag) (ta:TE) (f:Str):TE:=λσ H Q=>ta σ H λx H1=>∃a C dx fs v,x=.ref a/\H1 a=some (.ins C dx fs)/\wH K C/\jC K C f/\fs.lookup f=some v/\Q v H1
noncomputable def F0 (K:PySem.W.Frag) (ta tv:TE) (f:Str):TS:=λD σ H=>tv σ H λy H1=>ta σ H1 λx H2=>∃a C dx fs,x=.ref a/\H2 a=some (.ins C dx fs)/\wH K C/\jC K C f/\fs.length<1000/\
 D.nx σ (upd H2 a (.ins C dx (g6 f y fs)))
section
variable {X : Cx} {o e value : Expr} {f : Str} {pos pos' fW : Pos} {ta tv : TE}
theorem cY (he:PE X e ta) (hb:attributeBase e f X.env (eval e X.env)=eval e X.env):PE X (.Attribute e f pos) (iR X.K ta f):=by
 intro pins s σ H Q I h
 refine AS hb (bR (he pins s σ H _ I h) λu s1 b8=>?_)
 obtain⟨x,H1,I1,rx,a,C,dx,fs,v,ex,ea,c,n,l,q⟩:=b8
 subst ex
 obtain rfl:u=Value.ref a:=rx
 exact t6 I1 ea c n l λu' s2 I2 ru=>⟨v,H1,I2,ru,q⟩
theorem xZ (ha:PE X o ta) (hv:PE X value tv) (hs:swapsWith value (some (.Attribute o f pos')) pos.line X.env=pure false):PS X (.Assign [.Attribute o f pos'] value pos) (F0 X.K ta tv f):=by
 intro pins s σ H D I h
 refine plainObj_wpAny_Assign_Attribute (bR (hv pins s σ H _ I h) λu s1 ⟨y,H1,I1,ry,q⟩=>bR (ha pins s1 σ H1 _ I1 q) λov s2 b8=>?_) hs
 obtain⟨x,H2,I2,rx,a,C,dx,fs,ex,ea,c,n,l,q2⟩:=b8
 subst ex
 obtain rfl:ov=Value.ref a:=rx
 exact t7 I2 ea c n l ry λs3 I3=>⟨σ,_,I3,q2⟩
end
section
variable {X : Cx} {pins : List (Addr × Obj)} {σ : St} {H : Hp} {s : Shared} {A : Around} {E : Value -> Shared -> Prop} {Q : Value -> Shared -> Prop} {c : Value} {b : Bool}
inductive fX (K:PySem.W.Frag) (H:Hp):V->Value->Prop where
 | bV:fX K H .bV (.type "NoneType")
 | bl (x:Bool):fX K H (.bl x) (.type "bool")
 | int (i:Int):fX K H (.int i) (.type "int")
 | str (x:Str):fX K H (.str x) (.type "str")
 | C7 (x:UInt64):fX K H (.C7 x) (.type "float")
 | lst {a:Addr} {xs:List V} (e:H a=some (.lst xs)):fX K H (.ref a) (.type "list")
 | qF {a:Addr} {o:Obj} {xs:List V} (e:H a=some (.qF o (.lst xs))):fX K H (.ref a) (.type "list")
 | tup {a:Addr} {xs:List V} (e:H a=some (.tup xs)):fX K H (.ref a) (.type "tuple")
 | dK {a:Addr} {kvs:List (Key×V)} (e:H a=some (.dK kvs)):fX K H (.ref a) (.type "dict")
 | dT {a:Addr} {kvs:List (List Key×V)} (e:H a=some (.dT kvs)):fX K H (.ref a) (.type "dict")
 | ins {a C dx:Addr} {fs:List (Str×V)} (e:H a=some (.ins C dx fs)) (cl:wH K C) (ha:PySem.W.findIn K (.ref C) "__class__"=some (some (.builtin "object.__class__")))
   (hn:PySem.W.specialIn K (.builtin "object.__class__") "__get__"=some (some (.builtin "getset_descriptor.__get__"))) (Rg:PySem.W.takesIn K (.builtin "object.__class__")=some true)
   (hm:PySem.W.mroIn K C (.type "object")=some true):fX K H (.ref a) (.ref C)
theorem wI {x:V} {u t:Value} (I:Inv X pins σ H s) (rx:RelV x u) (ty:fX X.K H x t) (e:PySem.W.kitOne X.K t c=some b) (h:∀tk,Q (.bool b) {s with toks:=tk}):
  wpAny (model X.prog X.w) A (call (.builtin "isinstance") [u,c]) Q E s:=by
 cases ty with
 | bV=>cases (show u=Value.none from rx);exact Zw PySem.W.kitx_none I.km True.intro e (λz=>nomatch z) h
 | bl y=>cases (show u=Value.bool y from rx);exact Zw PySem.W.kitx_bool I.km True.intro e (λz=>nomatch z) h
 | int i=>obtain⟨t,q⟩:=(show ∃t,u=Value.int i t from rx);cases q;exact Zw PySem.W.kitx_int I.km True.intro e (λz=>nomatch z) h
 | str y=>obtain⟨t,q⟩:=(show ∃t,u=Value.str y t from rx);cases q;exact Zw PySem.W.kitx_str I.km True.intro e (λz=>nomatch z) h
 | C7 y=>obtain⟨t,q⟩:=(show ∃t,u=Value.float y t from rx);cases q;exact Zw PySem.W.kitx_float I.km True.intro e (λz=>nomatch z) h
 | @lst a xs ea=>
  cases (show u=Value.ref a from rx)
  obtain⟨_,_,n,_,h1⟩:=(show bQ X.prog X.w H s.heap a (.lst xs) from I.bE a _ ea)
  exact Zw PySem.W.kitx_list I.km ⟨_,h1,rfl⟩ e (λz=>nomatch z) h
 | @qF a ob xs ea=>
  cases (show u=Value.ref a from rx)
  obtain⟨_,_,_,n,_,h1⟩:=(show bQ X.prog X.w H s.heap a (.qF ob (.lst xs)) from I.bE a _ ea)
  exact Zw PySem.W.kitx_list I.km ⟨_,h1,rfl⟩ e (λz=>nomatch z) h
 | @tup a xs ea=>
  cases (show u=Value.ref a from rx)
  obtain⟨_,_,_,p⟩:=(show bQ X.prog X.w H s.heap a (.tup xs) from I.bE a _ ea)
  obtain⟨o,h1,h2,_⟩:=p
  exact Zw PySem.W.kitx_tuple I.km ⟨o,h1,h2⟩ e (λz=>nomatch z) h
 | @dK a kvs ea=>
  cases (show u=Value.ref a from rx)
  obtain⟨_,_,vs,_,p⟩:=(show bQ X.prog X.w H s.heap a (.dK kvs) from I.bE a _ ea)
  obtain⟨o,es,ep,h1,h2,_⟩:=p
  exact Zw PySem.W.kitx_dict I.km ⟨o,h1,h2.1⟩ e (λz=>nomatch z) h
 | @dT a kvs ea=>
  cases (show u=Value.ref a from rx)
  obtain⟨_,_,xs,_,o,es,ep,h1,h2,_⟩:=(show bQ X.prog X.w H s.heap a (.dT kvs) from I.bE a _ ea)
  exact Zw PySem.W.kitx_dict I.km ⟨o,h1,h2.1⟩ e (λz=>nomatch z) h
 | @ins a C dx fs ea cl ha hn Rg hm=>
  cases (show u=Value.ref a from rx)
  obtain⟨mA,O,_⟩:=lh I.bE ea
  obtain⟨od,J,_⟩:=O.look
  exact Zw (PySem.W.kitx_own (cl.get _) cl.hd ha hn Rg hm) I.km J e (λz=>nomatch z) h
end
end L2
namespace L2
open PySem PySem.Spec PyProof.Rows
structure cw (k:Nat) (A:Around):Prop where
 hd:A.handled=none
 dp:A.depth+3*k+5<recursionLimit
 un:A.units+16*k+200<cLine
theorem cw.mono {j k:Nat} {A:Around} (r:cw k A) (h:j<=k):cw j A:=⟨r.hd,by have:=r.dp;omega,by have:=r.un;omega⟩
theorem cw.deeper {k:Nat} {A:Around} (r:cw (k+1) A) (env:Env):cw k (A.deeper env):=
 ⟨r.hd,by have:=r.dp;show A.depth+1+3*k+5<_;omega,by have:=r.un;show A.units+3+16*k+200<_;omega⟩
theorem t8 {A:Around} {C:Addr} {us:List Value} {kw:List (Str×Value)}:(A.under (.builtin "type.__call__" ⟨.ref C::us,kw⟩)).depth=A.depth+1:=by
 first | rfl | simp [Around.under,Code.weight,Code.isCreation,Code.isGuard,Code.isCaller,Code.frames,Code.isFrame,guardIds]
theorem ua {A:Around} {C:Addr} {us:List Value} {kw:List (Str×Value)}:(A.under (.builtin "type.__call__" ⟨.ref C::us,kw⟩)).units=A.units+1:=by
 first | rfl | simp [Around.under,Code.cUnits,Code.frames,Code.isFrame]
theorem cw.make {k:Nat} {A:Around} (r:cw (k+1) A) (C:Addr) (us:List Value) (kw:List (Str×Value)):cw k (A.under (.builtin "type.__call__" ⟨.ref C::us,kw⟩)):=
 ⟨r.hd,by have:=r.dp;rw[t8];omega,by have:=r.un;rw[ua];omega⟩
theorem cw.depth {k:Nat} {A:Around} (r:cw k A):A.depth<recursionLimit:=by have:=r.dp;omega
theorem cw.units {k:Nat} {A:Around} (r:cw k A):A.units+64<cLine:=by have:=r.un;omega
theorem cw.Dt {k:Nat} {A:Around} (r:cw k A):A.units<cLine:=by have:=r.un;omega
noncomputable def tNil:TA:=λ_ H Q=>Q [] H
noncomputable def tCons (ta:TE) (tr:TA):TA:=λσ H Q=>ta σ H λx H1=>tr σ H1 λxs H2=>Q (x::xs) H2
section
variable {X : Cx} {e : Expr} {es : List Expr} {te : TE} {t : TA} {pos : Pos}
theorem af:PA X [] tNil:=λ_ _ _ _ H Q I h=>Calls.spliced_nil ⟨[],H,I,.nil,h⟩
theorem aa (ha:PE X e te) (hr:PA X es t) (hs:starEach (e::es) X.env=(false,eval e X.env)::starEach es X.env:=by rfl):PA X (e::es) (tCons te t):=by
 intro pos pins s σ H Q I h
 rw[hs]
 show wpAny _ _ (spliced ((false,eval e X.env)::backTo pos (starEach es X.env))) _ _ s
 refine Calls.spliced_cons (bR (ha pins s σ H _ I h) λu s1 b8=>?_)
 obtain⟨x,H1,I1,r1,q1⟩:=b8
 exact bR (hr pos pins s1 σ H1 _ I1 q1) λus s2 ⟨xs,H2,I2,r2,q2⟩=>⟨x::xs,H2,I2,.cons r1 r2,q2⟩
noncomputable def tLst (t:TA):TE:=λσ H Q=>t σ H λxs H1=>xs.length<=sizeLine/\∀p,H1 p=none->Q (.ref p) (upd H1 p (.lst xs))
theorem cU (h:PA X es t):PE X (.List es pos) (tLst t):=by
 intro pins s σ H Q I hq
 refine wpAny_List_spliced (bR (h pos pins s σ H _ I hq) λus s1 ⟨xs,H1,I1,r,z,q⟩=>⟨by rw[<-r.length];exact z,?_⟩)
 have hf:H1 s1.heap.objs.size=none:=I1.bE.fresh (YO _)
 refine⟨.ref s1.heap.objs.size,upd H1 s1.heap.objs.size (.lst xs),I1.laid (t':=s1.toks) (λb u e=>Heap.get?_push_of_some _ e) (YO _) ?_,rfl,q _ hf⟩
 exact⟨z,us,0,r,Heap.get?_push_size _ rfl⟩
end
abbrev Sp:=List V->Hp->VK->XK->Prop
abbrev h8:=List Env->Hp->Shared->XK->Value->Shared->Prop
structure qR (P:Program) (w:World) (K:PySem.W.Frag) (mg:Str->Option Value) (base:Heap) (A:Around) (outer:List Env) (s:Shared) (H:Hp):Prop where
 frames:A.frames=some outer
 mod:Mod K mg base
 bs:∀b o,base.get? b=some o->s.heap.get? b=some o/\H b=none
 xN:base.objs.size<=s.heap.objs.size
 jy:s.heap.FunFrames base outer
 Cb:∀b∈qJ outer,H b=none
 bE:gf P w H s.heap
 bare:AllBare s.gens
noncomputable def CE (outer:List Env) (P:Program) (w:World) (H:Hp) (s:Shared) (Q:VK) (u:Value) (s':Shared):Prop:=
 ∃v H',s'.os=s.os/\AllBare s'.gens/\Un (qJ outer) [] H H' s.heap s'.heap/\gf P w H' s'.heap/\RelV v u/\Q v H'
noncomputable def CR (CX:h8) (outer:List Env) (P:Program) (w:World) (H:Hp) (s:Shared) (Q:VK) (E:XK) (r:Result) (s':Shared):Prop:=
 match r with
 | .ok (.ret u)=>CE outer P w H s Q u s'
 | .ok _=>False
 | .error e=>CX outer H s E e s'
structure dI (P:Program) (w:World) (K:PySem.W.Frag) (mg:Str->Option Value) (base:Heap) (CX:h8) (k:Nat) (f:Addr) (fd:FuncData) (ps:List Str) (sp:Sp):Prop where
 len:∀vs H Q E,sp vs H Q E->vs.length=ps.length
 run:∀(A:Around) (outer:List Env) (s:Shared) (H:Hp) (args:Args) (us:List Value) (vs:List V) (Q:VK) (E:XK),cw k A->qR P w K mg base A outer s H->BindsTo s fd args (ps.zip us)->aV vs us->sp vs H Q E->
  codeAny (model P w) A (.call (.ref f) args) (CR CX outer P w H s Q E) s
theorem dI.mono {P:Program} {w:World} {K:PySem.W.Frag} {mg:Str->Option Value} {base:Heap} {CX:h8} {j k:Nat} {f:Addr} {fd:FuncData} {ps:List Str} {sp:Sp} (F:dI P w K mg base CX j f fd ps sp) (h:j<=k):
  dI P w K mg base CX k f fd ps sp:=⟨F.len,λA outer s H args us vs Q E hr=>F.run A outer s H args us vs Q E (hr.mono h)⟩
theorem qR.make {P:Program} {w:World} {K:PySem.W.Frag} {mg:Str->Option Value} {base:Heap} {A:Around} {outer:List Env} {s:Shared} {H:Hp} (e:qR P w K mg base A outer s H) (C:Addr) (us:List Value) (kw:List (Str×Value)):
  qR P w K mg base (A.under (.builtin "type.__call__" ⟨.ref C::us,kw⟩)) outer s H:=⟨by first | exact e.frames | (simpa [Around.under,Code.envs,Code.isFrame,pushEnvs] using e.frames),e.mod,e.bs,e.xN,e.jy,e.Cb,e.bE,e.bare⟩
section
variable {X : Cx} {pins : List (Addr × Obj)} {σ : St} {H : Hp} {s s' : Shared}
theorem Inv.F5 (I:Inv X pins σ H s):qR X.prog X.w X.K X.mg X.base X.A X.stack s H:=
 ⟨I.ok.frames,I.ok.mod,I.bs,Y2 I.ok.xN I.sz,I.stack,I.uX,I.bE,I.bare⟩
theorem Inv.after {Q:VK} {u:Value} (I:Inv X pins σ H s) (h:CE X.stack X.prog X.w H s Q u s'):EP X pins σ Q u s':=by
 obtain⟨v,H',os,bare,un,bE,r,q⟩:=h
 obtain⟨hh,g,d,t,Cm⟩:=s'
 obtain rfl:Cm=s.os:=os
 exact⟨v,H',I.call (h':=hh) (g':=g) (d':=d) (t':=t) (ch:=[]) un bE bare (λb z=>absurd z (by simp)),r,q⟩
end
noncomputable def tCall (sp:Sp) (nZ:List V) (E:XK) (t:TA):TE:=λσ H Q=>t σ H λvs H1=>sp (vs++nZ) H1 Q E
noncomputable def jV (C:Addr) (m:Str) (sp:Sp) (nZ:List V) (E:XK) (ta:TE) (t:TA):TE:=λσ H Q=>ta σ H λx H1=>∃a dx fs,x=.ref a/\H1 a=some (.ins C dx fs)/\fs.lookup m=none/\
 t σ H1 λvs H2=>sp (x::(vs++nZ)) H2 Q E
noncomputable def oN (C:Addr) (sp:Sp) (nZ:List V) (E:XK) (t:TA):TE:=λσ H Q=>t σ H λvs H1=>∀x dx,H1 x=none->H1 dx=none->dx≠x->
 sp (.ref x::(vs++nZ)) (upd (upd H1 dx (.own x)) x (.ins C dx [])) (λv H2=>v=.bV/\Q (.ref x) H2) E
noncomputable def Binds (K:PySem.W.Frag) (fd:FuncData) (ps:List Str) (ds:List Value):Prop:=
 ∀(s:Shared) (us:List Value),K.In s.heap->(us++ds).length=ps.length->BindsTo s fd ⟨us,[]⟩ (ps.zip (us++ds))
theorem Binds.all {K:PySem.W.Frag} {fd:FuncData} {ps:List Str} (h:∀us:List Value,us.length=ps.length->bindArgs fd ⟨us,[]⟩=pure (ps.zip us)):Binds K fd ps []:=λs us _ hl=>by
 rw[Zx] at hl ⊢
 exact .of_eq (h us hl)
noncomputable def dR (CX:h8) (X:Cx) (E:XK):Prop:=∀(pins:List (Addr×Obj)) (σ:St) (H:Hp) (s:Shared) (e:Value) (s':Shared),Inv X pins σ H s->CX X.stack H s E e s'->X.xe e s'
section
variable {X : Cx} {CX : h8} {k : Nat} {f C : Addr} {fd : FuncData} {ps : List Str} {sp : Sp} {nZ : List V} {ds : List Value} {E : XK} {x m : Str} {p pos apos : Pos} {e o : Expr} {es : List Expr} {ta : TE} {t : TA}
theorem ub {pins:List (Addr×Obj)} {σ:St} {H:Hp} {s:Shared} {Q:VK} {us:List Value} {vs:List V} (F:dI X.prog X.w X.K X.mg X.base CX k f fd ps sp) (hr:cw k X.A) (hb:Binds X.K fd ps ds) (hd:aV nZ ds) (hx:dR CX X E)
  (I:Inv X pins σ H s) (r:aV vs us) (h:sp (vs++nZ) H Q E):wpAny (model X.prog X.w) X.A (call (.ref f) us) (EP X pins σ Q) X.xe s:=by
 have r2:aV (vs++nZ) (us++ds):=r.append hd
 have hl:(us++ds).length=ps.length:=by rw[<-r2.length];exact F.len _ _ _ _ h
 refine wpAny_call (codeAny_mono (F.run X.A X.stack s H ⟨us,[]⟩ (us++ds) (vs++nZ) Q E hr I.F5 (hb s us I.km hl) r2 h) λr s' hq=>?_)
 cases r with
 | error e=>exact hx pins σ H s e s' I hq
 | ok fl=>
  cases fl with
  | ret u=>exact I.after hq
  | next=>exact False.elim hq
  | brk=>exact False.elim hq
  | cont=>exact False.elim hq
theorem AU (F:dI X.prog X.w X.K X.mg X.base CX k f fd ps sp) (hr:cw k X.A) (hg:Gl X x) (hm:X.mg x=some (.ref f)) (hk:PySem.W.keepIn X.K (.ref f)=true) (hb:Binds X.K fd ps ds) (hd:aV nZ ds) (hx:dR CX X E)
  (ha:PA X (e::es) t) (x6:(x==("__debug__":Str))=false:=by decide) (he:starEach (e::es) X.env=(false,eval e X.env)::starEach es X.env:=by rfl) (hpl:(backTo pos (starEach es X.env)).any (·.1)=false:=by rfl):
  PE X (.Call (.Name x p) (e::es) [] pos) (tCall sp nZ E t):=by
 intro pins s σ H Q I h
 refine wpAny_Call_Name_kw (pM I hg hm ?_ x6)
 refine PySem.W.callWith_K (h₀:=X.base) I.ok.mod.FL hk (bR (ha pos pins s σ H _ I h) λus s1 ⟨vs,H1,I1,r,q⟩=>⟨I1.km,?_⟩) he hpl
 exact ub F hr hb hd hx I1 r q
theorem AV {pl:Sem Bool} (he:PE X o ta) (c:wH X.K C) (hm:xY X.K C m f) (F:dI X.prog X.w X.K X.mg X.base CX k f fd ps sp) (hr:cw k X.A) (hb:Binds X.K fd ps ds) (hd:aV nZ ds) (hx:dR CX X E) (ha:PA X (e::es) t)
  (hst:starEach (e::es) X.env=(false,eval e X.env)::starEach es X.env:=by rfl) (hpl:(backTo pos (starEach es X.env)).any (·.1)=false:=by rfl)
  (ht:eval (.Call (.Attribute o m apos) (e::es) [] pos) X.env=(do
   let ov <-eval o X.env
   standAt apos.atName
   let (f,first) <-holding [ov] (getMethod ov m pl)
   callWith pos f first (backTo pos (starEach (e::es) X.env)) (backToKw pos (keywordEach [] X.env))):=by rfl):
  PE X (.Call (.Attribute o m apos) (e::es) [] pos) (jV C m sp nZ E ta t):=by
 intro pins s σ H Q I h
 refine PySem.W.methodCall_KW (pl:=pl) (bR (he pins s σ H _ I h) λu s1 b8=>?_) ht
 obtain⟨x,H1,I1,rx,a,dx,fs,ex,ea,l,q⟩:=b8
 subst ex
 obtain rfl:u=Value.ref a:=rx
 refine ma I1 ea c hm l ?_
 refine PySem.W.callWith_K (first:=[.ref a]) (h₀:=X.base) I.ok.mod.FL hm.kp (bR (ha pos pins s1 σ H1 _ I1 q) λus s2 ⟨vs,H2,I2,r,q2⟩=>⟨I2.km,?_⟩) hst hpl
 exact ub (us:=.ref a::us) (vs:=.ref a::vs) F hr hb hd hx I2 (.cons rfl r) q2
theorem x8 {pl:Sem Bool} (he:PE X o ta) (c:wH X.K C) (hm:xY X.K C m f) (F:dI X.prog X.w X.K X.mg X.base CX k f fd ps sp) (hr:cw k X.A) (hb:Binds X.K fd ps ds) (hd:aV nZ ds) (hx:dR CX X E)
  (ht:eval (.Call (.Attribute o m apos) [] [] pos) X.env=(do
   let ov <-eval o X.env
   standAt apos.atName
   let (f,first) <-holding [ov] (getMethod ov m pl)
   callWith pos f first (backTo pos (starEach [] X.env)) (backToKw pos (keywordEach [] X.env))):=by rfl):
  PE X (.Call (.Attribute o m apos) [] [] pos) (jV C m sp nZ E ta tNil):=by
 intro pins s σ H Q I h
 refine PySem.W.methodCall_KW (pl:=pl) (bR (he pins s σ H _ I h) λu s1 b8=>?_) ht
 obtain⟨x,H1,I1,rx,a,dx,fs,ex,ea,l,q⟩:=b8
 subst ex
 obtain rfl:u=Value.ref a:=rx
 refine ma I1 ea c hm l ?_
 exact PySem.W.callWith_K0 (first:=[.ref a]) I1.km hm.kp (ub (us:=[.ref a]) (vs:=[.ref a]) F hr hb hd hx I1 (.cons rfl .nil) q)
structure Mk (K:PySem.W.Frag) (C f:Addr):Prop where
 makes:PySem.W.makesIn K C=true
 init:PySem.W.findIn K (.ref C) "__init__"=some (some (.ref f))
 fn:PySem.W.isFn K (.ref f)=true
 kp:PySem.W.keepIn K (.ref C)=true
theorem x9 {pins:List (Addr×Obj)} {σ:St} {H:Hp} {s:Shared} {Q:VK} {us:List Value} {vs:List V} (M:Mk X.K C f) (F:dI X.prog X.w X.K X.mg X.base CX k f fd ps sp) (hr:cw (k+1) X.A) (hb:Binds X.K fd ps ds) (hd:aV nZ ds)
  (hx:dR CX X E) (I:Inv X pins σ H s) (r:aV vs us)
  (h:∀x dx,H x=none->H dx=none->dx≠x->sp (.ref x::(vs++nZ)) (upd (upd H dx (.own x)) x (.ins C dx [])) (λv H2=>v=.bV/\Q (.ref x) H2) E):
  wpAny (model X.prog X.w) X.A (call (.ref C) us) (EP X pins σ Q) X.xe s:=by
 have hq:=h (s.heap.objs.size+1) s.heap.objs.size (I.bE.fresh (Nat.le_succ _)) (I.bE.fresh (YO _)) (YT (Zq _))
 have I2:=Inv.made (C:=C) I
 have r2:aV (V.ref (s.heap.objs.size+1)::(vs++nZ)) (Value.ref (s.heap.objs.size+1)::(us++ds)):=.cons rfl (r.append hd)
 have hl:(Value.ref (s.heap.objs.size+1)::us++ds).length=ps.length:=by
  have e:=r2.length
  rw[F.len _ _ _ _ hq] at e
  exact e.symm
 refine wpAny_call (xX (f:=f) I.km M.makes M.init (beq_iff_eq.mp M.fn) (codeAny_mono (F.run _ X.stack _ _ ⟨Value.ref (s.heap.objs.size+1)::us,[]⟩ (Value.ref (s.heap.objs.size+1)::(us++ds)) _ _ E (hr.make C us [])
  (I2.F5.make C us []) (hb _ (Value.ref (s.heap.objs.size+1)::us) I2.km hl) r2 hq) λr s' F6=>?_))
 cases r with
 | error e=>exact hx pins σ _ _ e s' I2 F6
 | ok fl=>
  cases fl with
  | ret u=>
   obtain⟨v,H',I3,rv,ev,q3⟩:=I2.after F6
   subst ev
   exact⟨rv,⟨V.ref (s.heap.objs.size+1),H',I3,rfl,q3⟩⟩
  | next=>exact False.elim F6
  | brk=>exact False.elim F6
  | cont=>exact False.elim F6
theorem AW (M:Mk X.K C f) (F:dI X.prog X.w X.K X.mg X.base CX k f fd ps sp) (hr:cw (k+1) X.A) (hg:Gl X x) (hm:X.mg x=some (.ref C)) (hb:Binds X.K fd ps ds) (hd:aV nZ ds) (hx:dR CX X E)
  (ha:PA X (e::es) t) (x6:(x==("__debug__":Str))=false:=by decide) (he:starEach (e::es) X.env=(false,eval e X.env)::starEach es X.env:=by rfl) (hpl:(backTo pos (starEach es X.env)).any (·.1)=false:=by rfl):
  PE X (.Call (.Name x p) (e::es) [] pos) (oN C sp nZ E t):=by
 intro pins s σ H Q I h
 refine wpAny_Call_Name_kw (pM I hg hm ?_ x6)
 refine PySem.W.callWith_K (h₀:=X.base) I.ok.mod.FL M.kp (bR (ha pos pins s σ H _ I h) λus s1 ⟨vs,H1,I1,r,q⟩=>⟨I1.km,?_⟩) he hpl
 exact x9 M F hr hb hd hx I1 r q
end
section
variable {X : Cx} {CX : h8} {k : Nat} {f C : Addr} {fd : FuncData} {ps ks : List Str} {sp : Sp} {E : XK} {x m : Str} {p pos apos S8 : Pos} {e o : Expr} {es : List Expr} {Xy : List Keyword} {te ta : TE} {t tk : TA} {nm : Option Str}
structure JN (K:PySem.W.Frag) (fd:FuncData) (ps ks:List Str) (g:List Value->List Value->List Value) (gV:List V->List V->List V):Prop where
 to:∀(s:Shared) (us ws:List Value),K.In s.heap->(g us ws).length=ps.length->BindsTo s fd ⟨us,ks.zip ws⟩ (ps.zip (g us ws))
 rel:∀{vs:List V} {us:List Value} {zs:List V} {ws:List Value},aV vs us->aV zs ws->aV (gV vs zs) (g us ws)
variable {g : List Value -> List Value -> List Value} {gV : List V -> List V -> List V}
end
structure aI (N P:List Str) (sc:Scope):Prop where
 kind:sc.kind=.function
 co:sc.isCoroutine=false
 gen:sc.isGenerator=false
 nd:N.Nodup
 pre:N.take P.length=P
 par:∀x∈P,sc.names.lookup x=some .local\/sc.names.lookup x=some .cell
 Du:∀y∈sc.names,y.2≠.free
theorem oO {kindOf:Str->Option NameKind} {x:Str}:∀{binds:List (Str×Value)} {m:Str->Option Value},(∀v,(x,v)∉binds)->bindL kindOf binds m x=m x
 | [],_,_=>rfl
 | (n,v)::r,m,h=>by
  unfold bindL
  rw[oO λw hw=>h w (YU _ hw)]
  split
  ·have:x≠n:=by rintro rfl;exact h v YW
   simp [this]
  ·rfl
theorem oP {kindOf:Str->Option NameKind} {x:Str}:∀{binds:List (Str×Value)} {m:Str->Option Value},(∀v,(x,v)∉binds)->bindC kindOf binds m x=m x
 | [],_,_=>rfl
 | (n,v)::r,m,h=>by
  unfold bindC
  rw[oP λw hw=>h w (YU _ hw)]
  split
  ·rfl
  ·have:x≠n:=by rintro rfl;exact h v YW
   simp [this]
theorem oQ {kindOf:Str->Option NameKind} {x:Str} {v:Value}:∀{P:List Str} {vs:List Value} {i:Nat} {m:Str->Option Value},P.Nodup->P[i]?=some x->vs[i]?=some v->kindOf x=some .local->
  bindL kindOf (P.zip vs) m x=some v
 | [],_,_,_,_,h,_,_=>by simp at h
 | _::_,[],_,_,_,_,h,_=>by simp at h
 | p::P,w::vs,0,m,nd,h1,h2,hk=>by
  simp at h1 h2;subst h1;subst h2
  show bindL kindOf ((p,w)::P.zip vs) m p=_
  unfold bindL
  rw[oO λv hv=>(List.nodup_cons.mp nd).1 (List.of_mem_zip hv).1,if_pos hk]
  simp
 | p::P,w::vs,i+1,m,nd,h1,h2,hk=>by
  show bindL kindOf ((p,w)::P.zip vs) m x=_
  unfold bindL
  exact oQ (i:=i) (List.nodup_cons.mp nd).2 (by simpa using h1) (by simpa using h2) hk
theorem oR {kindOf:Str->Option NameKind} {x:Str} {v:Value}:∀{P:List Str} {vs:List Value} {i:Nat} {m:Str->Option Value},P.Nodup->P[i]?=some x->vs[i]?=some v->kindOf x≠some .local->
  bindC kindOf (P.zip vs) m x=some v
 | [],_,_,_,_,h,_,_=>by simp at h
 | _::_,[],_,_,_,_,h,_=>by simp at h
 | p::P,w::vs,0,m,nd,h1,h2,hk=>by
  simp at h1 h2;subst h1;subst h2
  show bindC kindOf ((p,w)::P.zip vs) m p=_
  unfold bindC
  rw[oP λv hv=>(List.nodup_cons.mp nd).1 (List.of_mem_zip hv).1,if_neg hk]
  simp
 | p::P,w::vs,i+1,m,nd,h1,h2,hk=>by
  show bindC kindOf ((p,w)::P.zip vs) m x=_
  unfold bindC
  exact oR (i:=i) (List.nodup_cons.mp nd).2 (by simpa using h1) (by simpa using h2) hk
noncomputable def start (N:List Str) (vs:List V):St:=vs.map some++List.replicate (N.length - vs.length) none
noncomputable def uc (CX:h8) (P:Program) (w:World) (K:PySem.W.Frag) (mg:Str->Option Value) (base:Heap) (N:List Str) (qual:Str) (scope:Scope) (f:Addr) (cd:Value) (A:Around) (outer:List Env) (s:Shared) (H:Hp) (E:XK):Cx where
 prog:=P
 w:=w
 K:=K
 mg:=mg
 base:=base
 A:=A.deeper (envOfC qual scope s.heap.objs.size f cd)
 N:=N
 s₀:=s
 H₀:=H
 env:=envOfC qual scope s.heap.objs.size f cd
 outer:=outer
 stack:=envOfC qual scope s.heap.objs.size f cd::outer
 ex:=[]
 calm:=true
 fn:=λ_=>true
 pn:=[]
 xe:=λe s'=>wpAny (model P w) (A.deeper (envOfC qual scope s.heap.objs.size f cd)) (leaving (envOfC qual scope s.heap.objs.size f cd) e) (λ_ Dv=>CX outer H s E e Dv) (λe' Dv=>CX outer H s E e' Dv) s'
theorem qS {sc:Scope} {n:Nat} {x:Str} (h:sc.names.lookup x=some .cell):∃c,(cellsFrom n sc.names []).lookup x=some c:=by
 have q:=PySem.W.cellsFrom_some sc.names n [] (.inl h)
 exact Option.isSome_iff_exists.mp q
theorem wJ {CX:h8} {P:Program} {w:World} {K:PySem.W.Frag} {mg:Str->Option Value} {base:Heap} {N ps:List Str} {qual:Str} {scope:Scope} {f:Addr} {cd:Value} {A:Around} {outer:List Env} {s s1:Shared} {H:Hp} {E:XK} {us:List Value} {vs:List V}
  (S:aI N ps scope) (hd:A.handled=none) (e0:qR P w K mg base A outer s H) (hl:vs.length=ps.length) (r:aV vs us)
  (x:InCallC s s.heap.objs.size (bindL (envOfC qual scope s.heap.objs.size f cd).kindOf (ps.zip us) λ_=>none) (cellsFrom (s.heap.objs.size+1) scope.names []) (bindC (envOfC qual scope s.heap.objs.size f cd).kindOf (ps.zip us) λ_=>none) s1):
  Inv (uc CX P w K mg base N qual scope f cd A outer s H E) [] (start N vs) H s1:=by
 have hpl:ps.length<=N.length:=by have:=congrArg List.length S.pre;rw[Zy] at this;omega
 obtain⟨h1,tk,rfl,hk⟩:=x.done
 have F7:∀b:Addr,b∉(uc CX P w K mg base N qual scope f cd A outer s H E).ex:=λb z=>absurd (show b∈([]:List Addr) from z) (by simp)
 refine⟨⟨e0.mod,S.kind,rfl,rfl,YO _,λy z c h1 h2=>?_,λy hy=>?_,λy c _ h=>?_,λ_=>hd,Around.frames_deeper e0.frames,.inr ⟨rfl,rfl⟩,λb z=>absurd z (F7 b),e0.bs,e0.xN,λb _ _=>F7 b,λb z=>absurd z (F7 b),e0.jy,e0.Cb⟩,
  rfl,e0.bare,Un.kept hk,⟨_,x.toInCall.ns,λi y v h1 h2 h3=>?_⟩,λy c h=>⟨_,x.cell y c h⟩,e0.bE.fresh (YO _),λy c h=>?_,λp hp=>absurd (show p∈([]:List (Addr×Obj)) from hp) (by simp),e0.bE.kept hk,?_⟩
 ·exact name_of_addr x.apart (Zz h1) (Zz h2)
 ·have hy:scope.names.lookup y=some .cell\/scope.names.lookup y=some .free:=hy
  rcases hy with hy | hy
  ·exact qS hy
  ·exact absurd rfl (S.Du _ (Zz hy))
 ·exact Nat.le_of_lt (x.above y c (Zz h))
 ·have hi:i<vs.length:=by
   unfold start at h2
   by_cases hi:i<vs.length
   ·exact hi
   ·rw[ZH (by simpa using hi)] at h2
    rw[ZZ] at h2
    split at h2 <;>cases h2
  have ha:vs[i]?=some v:=by
   unfold start at h2
   rw[ZM (by simpa using hi),YQ] at h2
   cases e:vs[i]? with
   | none=>rw[e] at h2;cases h2
   | some a=>rw[e] at h2;cases h2;rfl
  obtain⟨u,hu,rv⟩:=r.get ha
  have hp:ps[i]?=some y:=by
   rw[<-S.pre,List.getElem?_take_of_lt (by omega)];exact h1
  have Rh:ps.Nodup:=by rw[<-S.pre];exact S.nd.sublist (List.take_sublist _ _)
  refine⟨u,rv,?_⟩
  rcases S.par y (YN hp) with k | k
  ·exact .inl ⟨k,oQ Rh hp hu k⟩
  ·obtain⟨c,e⟩:=qS (n:=s.heap.objs.size+1) k
   refine .inr ⟨.inl k,c,e,?_⟩
   have q:=x.cell y c e
   rw[oR Rh hp hu (by show scope.names.lookup y≠_;rw[k];decide)] at q
   exact q
 ·exact e0.bE.fresh (Nat.le_of_lt (x.above y c (Zz h)))
 ·unfold start
  show _=N.length
  rw[Zn,YL,ZD]
  omega
theorem Cn {CX:h8} {P:Program} {w:World} {K:PySem.W.Frag} {mg:Str->Option Value} {base:Heap} {k:Nat} {f:Addr} {name qual:Str} {params:Arguments} {body:List Stmt} {scope:Scope} {dV kV doc pm b9 ct oc:Value} {an od:Option Addr}
  {xC:Array (Option Value)} {N ps:List Str} {sp:Sp} (lk:K.lookup f=some ⟨oc,od,.func (PySem.W.fnOf name qual params body scope dV kV doc pm an b9 ct),xC⟩) (qL:PySem.W.codeIn K b9 qual=true) (S:aI N ps scope)
  (len:∀vs H Q E,sp vs H Q E->vs.length=ps.length)
  (qT:∀(A:Around) (outer:List Env) (s:Shared) (H:Hp) (vs:List V) (Q:VK) (E:XK),cw k (A.deeper (envOfC qual scope s.heap.objs.size f b9))->sp vs H Q E->
   ∃t,tQ (uc CX P w K mg base N qual scope f b9 A outer s H E) body t/\t {nx:=λ_ H'=>Q .bV H',rt:=Q} (start N vs) H):
  dI P w K mg base CX (k+1) f (PySem.W.fnOf name qual params body scope dV kV doc pm an b9 ct) ps sp:=by
 refine⟨len,λA outer s H args us vs Q E hr e0 hb r Au=>?_⟩
 have hl:=len _ _ _ _ Au
 have KX:K.In s.heap:=e0.mod.FL.keeps λb o e=>(e0.bs b o e).1
 have lim:s.heap.NoLimit:=e0.mod.nolimit.keeps λb o e=>(e0.bs b o e).1
 have md:∀y∈ps.zip us,scope.names.lookup y.1=some .local\/(scope.names.lookup y.1=some .cell/\((cellsFrom (s.heap.objs.size+1) scope.names []).lookup y.1).isSome=true):=fun⟨n,v⟩ hy=>by
  rcases S.par n (List.of_mem_zip hy).1 with q | q
  ·exact .inl q
  ·exact .inr ⟨q,PySem.W.cellsFrom_some _ _ _ (.inl q)⟩
 refine codeAny_call_function hr.depth (KX _ _ lk) rfl S.co S.gen rfl (PySem.W.codeRec_of KX qL) (hb _ _ _ _ ?_)
 refine wpAny_newFunctionEnv_cells S.kind md λenv he s1 x=>?_
 subst he
 refine⟨lim.keeps x.toInCall.keep,codeAny_func ?_⟩
 obtain⟨t,ht,hq⟩:=qT A outer s H vs Q E (hr.deeper _) Au
 have I:Inv (uc CX P w K mg base N qual scope f b9 A outer s H E) [] (start N vs) H s1:=wJ S hr.hd e0 hl r x
 refine wpAny_mono (ht [] s1 (start N vs) H _ I hq) (λfl s' hs=>?_) λe s' hs=>hs
 have fin:∀{σ':St} {H':Hp} {v:V} {u:Value},Inv (uc CX P w K mg base N qual scope f b9 A outer s H E) [] σ' H' s'->RelV v u->Q v H'->CE outer P w H s Q u s':=
  λ{σ' H' v u} J rv q=>⟨v,H',J.os,J.bare,J.base,J.bE,rv,q⟩
 cases fl with
 | ret u=>
  obtain⟨v,σ',H',J,rv,q⟩:=hs
  exact fin J rv q
 | next=>
  obtain⟨σ',H',J,q⟩:=hs
  exact fin (v:=V.bV) (u:=Value.none) J rfl q
 | brk=>
  obtain⟨_,_,_,q⟩:=hs
  exact False.elim q
 | cont=>
  obtain⟨_,_,_,q⟩:=hs
  exact False.elim q
end L2
namespace L2
open PySem PySem.Spec PyProof.Rows
section
variable {X : Cx} {x : Str} {p pos : Pos} {e : Expr} {es : List Expr} {t : TA} {id T : String} {r : List V -> Hp -> VK -> Prop}
noncomputable def tCB (r:List V->Hp->VK->Prop) (t:TA):TE:=λσ H Q=>t σ H λvs H1=>r vs H1 Q
theorem aL (hc:bY X (.builtin id) r) (hg:Gl X x) (hm:X.mg x=none) (hv:bootBuiltins x=some (.builtin id)) (ha:PA X (e::es) t) (hn:x≠"__name__":=by decide) (x6:(x==("__debug__":Str))=false:=by decide)
  (he:starEach (e::es) X.env=(false,eval e X.env)::starEach es X.env:=by rfl) (hpl:(backTo pos (starEach es X.env)).any (·.1)=false:=by rfl):PE X (.Call (.Name x p) (e::es) [] pos) (tCB r t):=by
 intro pins s σ H Q I h
 refine wpAny_Call_Name_kw (fc I hg hm hv ?_ hn x6)
 exact PyProof.Rows.callWith_builtin1 (bR (ha pos pins s σ H _ I h) λus s1 ⟨vs,H1,I1,r1,q1⟩=>hc pins s1 σ H1 vs us Q I1 r1 q1) he hpl
theorem cP (hc:bY X (.type T) r) (hg:Gl X x) (hm:X.mg x=none) (hv:bootBuiltins x=some (.type T)) (ha:PA X (e::es) t) (hn:x≠"__name__":=by decide) (x6:(x==("__debug__":Str))=false:=by decide)
  (he:starEach (e::es) X.env=(false,eval e X.env)::starEach es X.env:=by rfl) (hpl:(backTo pos (starEach es X.env)).any (·.1)=false:=by rfl):PE X (.Call (.Name x p) (e::es) [] pos) (tCB r t):=by
 intro pins s σ H Q I h
 refine wpAny_Call_Name_kw (fc I hg hm hv ?_ hn x6)
 exact ZY (bR (ha pos pins s σ H _ I h) λus s1 ⟨vs,H1,I1,r1,q1⟩=>hc pins s1 σ H1 vs us Q I1 r1 q1) he hpl
end
end L2
namespace HT
open PySem PyProof.Rows
section
open PySem.SeqAt
open PySem.AutoSeq1 (wpAny_loadPart')
open PySem.MeetsSeq PySem.MeetsSeq2 PySem.MeetsSeq3
end
section
variable {prog : Program} {w : World} {A : Around} {E : Value -> Shared -> Prop} {s : Shared}
noncomputable def ue (n d:Nat):Option Int->Nat
 | none=>d
 | some v=>if v<0 then (v+ (n:Int)).toNat else min v.toNat n
end
end HT
namespace L2
open PySem PySem.Spec PyProof.Rows
abbrev TO:=St->Hp->(Option Int->Hp->Prop)->Prop
noncomputable def PO (X:Cx) (e:Option Expr) (t:TO):Prop:=
 ∀(pins:List (Addr×Obj)) (s:Shared) (σ:St) (H:Hp) (Q:Option Int->Hp->Prop),Inv X pins σ H s->t σ H Q->
  wpAny (model X.prog X.w) X.A (evalPart e X.env) (λu s'=>∃o H',Inv X pins σ H' s'/\IsPart u o/\Q o H') X.xe s
noncomputable def tNoPart:TO:=λ_ H Q=>Q none H
noncomputable def tPart (t:TE):TO:=λσ H Q=>t σ H λx H1=>∃i,x=.int i/\Q (some i) H1
theorem intsAre_of {ns:List Int}:∀{us:List Value},aV (ns.map V.int) us->IntsAre us ns:=by
 induction ns with
 | nil=>intro us r;rw[List.map_nil] at r;cases r;exact .nil
 | cons n ns ih=>
  intro us r
  rw[Y3] at r
  cases r with
  | cons r1 r2=>
   obtain⟨t,e⟩:=r1
   subst e
   exact .cons n t (ih r2)
section
variable {X : Cx} {e : Expr} {te : TE} {lo hi : Option Expr} {tl th : TO} {pos p2 : Pos}
theorem u7:PO X none tNoPart:=by
 intro pins s σ H Q I h
 rw[evalPart_none]
 exact wpAny_pure ⟨none,H,I,.none,h⟩
theorem u9 (h:PE X e te):PO X (some e) (tPart te):=by
 intro pins s σ H Q I hw
 rw[evalPart_some]
 refine bR (h pins s σ H _ I hw) λu s1 b8=>?_
 obtain⟨x,H1,I1,r1,q1⟩:=b8
 obtain⟨i,rfl,q⟩:=q1
 obtain⟨t,rfl⟩:=r1
 exact⟨some i,H1,I1,.int i t,q⟩
noncomputable def IM (X:Cx) (r:V->Option Int->Option Int->Hp->VK->Prop):Prop:=
 ∀(pins:List (Addr×Obj)) (s:Shared) (σ:St) (H:Hp) (x:V) (v vl vu:Value) (lo hi:Option Int) (sl:Addr) (Q:VK),Inv X pins σ H s->RelV x v->s.heap.IsSliceOf sl vl vu .none->IsPart vl lo->IsPart vu hi->r x lo hi H Q->
  ∃T id,typeLookup (.type T) "__getitem__"=pure (some (.builtin id))/\s.TypeIs v T/\wpAny (model X.prog X.w) X.A (getItem v (.ref sl)) (EP X pins σ Q) X.xe s
noncomputable def tSl (r:V->Option Int->Option Int->Hp->VK->Prop) (te:TE) (tl th:TO):TE:=λσ H Q=>te σ H λx H1=>tl σ H1 λl H2=>th σ H2 λu H3=>r x l u H3 Q
theorem qU {r:V->Option Int->Option Int->Hp->VK->Prop} (hr:IM X r) (he:PE X e te) (hl:PO X lo tl) (hu:PO X hi th):PE X (.Subscript e (.Slice lo hi none p2) pos) (tSl r te tl th):=by
 intro pins s σ H Q I h
 refine Subscript_ (bR (he pins s σ H _ I h) λv s1 b8=>?_)
 obtain⟨x,H1,I1,r1,q1⟩:=b8
 refine wpAny_Slice (bR (hl pins s1 σ H1 _ I1 q1) λvl s2 ⟨l,H2,I2,pl,q2⟩=>bR (hu pins s2 σ H2 _ I2 q2) λvu s3 b8=>?_)
 obtain⟨u,H3,I3,pu,q3⟩:=b8
 rw[evalPart_none]
 refine wpAny_pure ?_
 have I4:Inv X pins σ H3 {s3 with heap:=s3.heap.push {cls:=.type "slice",data:=.fields #[vl,vu,.none]}}:=I3.kept (t':=s3.toks) λb ob q=>Heap.get?_push_of_some _ q
 obtain⟨T,id,hT,ht,hg⟩:=hr pins {s3 with heap:=s3.heap.push {cls:=.type "slice",data:=.fields #[vl,vu,.none]}} σ H3 x v vl vu l u s3.heap.objs.size Q I4 r1 (Heap.IsSliceOf.new ..) pl pu q3
 show wpAny (model X.prog X.w) X.A (subscriptTail e (.Slice lo hi none p2) v (.ref s3.heap.objs.size)) (EP X pins σ Q) X.xe {s3 with heap:=s3.heap.push {cls:=.type "slice",data:=.fields #[vl,vu,.none]}}
 exact tail_any (ops:=[.ref s3.heap.objs.size,v]) ht hT hg (by with_unfolding_all rfl)
noncomputable def uf (xs:List V) (lo hi:Option Int):List V:=(xs.drop (HT.ue xs.length 0 lo)).take (HT.ue xs.length xs.length hi - HT.ue xs.length 0 lo)
theorem qV (xs:List V) (lo hi:Option Int):(uf xs lo hi).length<=xs.length:=by
 unfold uf
 rw[Zy,List.length_drop]
 omega
end
end L2
namespace L2
open PySem PySem.Spec PyProof.Rows
noncomputable def wK (n:Nat) (i:Int):Option Nat:=if 0<=i then (if i<n then some i.toNat else none) else if -(n:Int)<=i then some (i+n).toNat else none
noncomputable def fK {α:Type} (xs:List α) (i:Int):Option α:=(wK xs.length i).bind λj=>xs[j]?
theorem va {n:Nat} {i:Int} {j:Nat} (h:wK n i=some j):seqIndex? i n=some j/\j<n/\-(n:Int)<=i/\i<n:=by
 unfold wK at h
 by_cases h0:0<=i
 ·rw[if_pos h0] at h
  by_cases h1:i<n
  ·rw[if_pos h1] at h
   have e:i.toNat=j:=Zg h
   exact⟨by rw[seqIndex_of h0 h1,e],by omega,by omega,h1⟩
  ·rw[if_neg h1] at h;cases h
 ·rw[if_neg h0] at h
  by_cases h1:-(n:Int)<=i
  ·rw[if_pos h1] at h
   have e:(i+n).toNat=j:=Zg h
   exact⟨by rw[seqIndex_neg (by omega) h1,e],by omega,h1,by omega⟩
  ·rw[if_neg h1] at h;cases h
theorem pQ {α:Type} {xs:List α} {i:Int} {v:α} (h:fK xs i=some v):∃j,seqIndex? i xs.length=some j/\xs[j]?=some v/\j<xs.length/\-(xs.length:Int)<=i/\i<xs.length:=by
 unfold fK at h
 cases e:wK xs.length i with
 | none=>rw[e] at h;cases h
 | some j=>
  rw[e] at h
  obtain⟨h1,h2,h3,h4⟩:=va e
  exact⟨j,h1,h,h2,h3,h4⟩
theorem bx {α:Type} {xs:List α} {j:Nat} {v:α} (h:xs[j]?=some v):fK xs (j:Int)=some v:=by
 have hj:j<xs.length:=(List.getElem?_eq_some_iff.mp h).1
 have e:wK xs.length (j:Int)=some j:=by
  unfold wK
  rw[if_pos (by omega),if_pos (by omega)];simp
 unfold fK;rw[e];exact h
noncomputable def AX (b:Expr):Prop:=∀o i,subscripted b false o i=operate [o,i] (getItem o i)
noncomputable def Co (X:Cx) (r:R2):Prop:=
 ∀(value slice:Expr) (pins:List (Addr×Obj)) (s:Shared) (σ:St) (H:Hp) (x y:V) (v u:Value) (Q:VK),Inv X pins σ H s->RelV x v->RelV y u->r x y H Q->
  subscripted slice false v u=operate [v,u] (getItem v u)->wpAny (model X.prog X.w) X.A (subscriptTail value slice v u) (EP X pins σ Q) X.xe s
noncomputable def JO (X:Cx) (id:String) (r:V->List V->Hp->VK->Prop):Prop:=
 ∀(pins:List (Addr×Obj)) (s:Shared) (σ:St) (H:Hp) (x:V) (xs:List V) (v:Value) (us:List Value) (Q:VK),Inv X pins σ H s->RelV x v->aV xs us->r x xs H Q->
  wpAny (model X.prog X.w) X.A (call (.builtin id) (v::us)) (EP X pins σ Q) X.xe s
section
variable {X : Cx} {a b : Expr} {ta tb : TE} {pos : Pos}
theorem aA {r:R2} (hr:Co X r) (ha:PE X a ta) (hb:PE X b tb) (hs:AX b):PE X (.Subscript a b pos) (tOp r ta tb):=by
 intro pins s σ H Q I h
 exact Subscript_ (Dr ha hb I h λv u s2 x y H2 I2 rx ry q=>hr a b pins s2 σ H2 x y v u Q I2 rx ry q (hs _ _))
noncomputable def JP (K:PySem.W.Frag):R2:=λx y H Q=>∃p xs i v,x=.ref p/\y=.int i/\aR K H p xs/\fK xs i=some v/\Q v H
noncomputable def JQ (K:PySem.W.Frag):R2:=λx y H Q=>∃p xs i v,x=.ref p/\y=.int i/\dH K H p xs/\fK xs i=some v/\Q v H
theorem vb:Co X (JP X.K):=by
 intro value slice pins s σ H x y v u Q I rx ry h hs
 obtain⟨p,xs,i,z,rfl,rfl,hq,he,q⟩:=h
 cases rx
 obtain⟨t,rfl⟩:=ry
 obtain⟨aN,r,pl,hz⟩:=I.list hq
 obtain⟨j,h1,h2,h3,h4,h5⟩:=pQ he
 obtain⟨w,ew,nY⟩:=r.get h2
 have hl:=r.length
 have hn:=lW
 have fin:EP X pins σ Q w s:=⟨z,H,I,nY,q⟩
 by_cases h0:0<=i
 ·have hj:i.toNat=j:=by
   rw[seqIndex_of h0 h5] at h1
   exact Zg h1
  exact item_listR pl.isList h0 (by omega) (by rw[hj];simpa using ew) fin hs
 ·have hj:(i+ (aN.toArray.size:Int)).toNat=j:=by
   rw[seqIndex_neg (by omega) h4] at h1
   rw[YR,<-hl]
   exact Zg h1
  exact subscriptTail_builtinR (x:=w) pl.isList.typeIs slot_list_getitem.lookup
   (wpAny_getItem_list_neg (Q:=λr s'=>r=w/\EP X pins σ Q r s') pl.isList (by omega) (by rw[YR] <;>omega) (by omega) (by rw[hj];simpa using ew) ⟨rfl,fin⟩) hs
theorem Dw:Co X (JQ X.K):=by
 intro value slice pins s σ H x y v u Q I rx ry h hs
 obtain⟨p,xs,i,z,rfl,rfl,hq,he,q⟩:=h
 cases rx
 obtain⟨t,rfl⟩:=ry
 obtain⟨aN,r,pl,hz⟩:=I.tuple hq
 obtain⟨j,h1,h2,h3,h4,h5⟩:=pQ he
 obtain⟨w,ew,nY⟩:=r.get h2
 have hl:=r.length
 have hn:=lW
 have fin:EP X pins σ Q w s:=⟨z,H,I,nY,q⟩
 exact subscriptTail_builtinR (x:=w) pl.typeIs slot_tuple_getitem.lookup
  (getItem_tuple (j:=j) (Q:=λr s'=>r=w/\EP X pins σ Q r s') pl (by omega) (by omega) (by rw[YR,<-hl];exact h1) (by simpa using ew) ⟨rfl,fin⟩) hs
theorem ug (aN:List Value) (n j:Nat) (u:Value):Obj.mapSeq (·.setIfInBounds j u) {cls:=.type "list",data:=.seq aN.toArray n}={cls:=.type "list",data:=.seq (aN.set j u).toArray n}:=by
 simp [Obj.mapSeq]
theorem Inv.lst {pins:List (Addr×Obj)} {σ:St} {H:Hp} {s:Shared} {p:Addr} {xs:List V} (I:Inv X pins σ H s) (h:H p=some (.lst xs)):
  ∃(aN:List Value) (n:Nat),aV xs aN/\s.heap.get? p=some {cls:=.type "list",data:=.seq aN.toArray n}/\xs.length<=sizeLine:=by
 obtain⟨z,aN,n,r,e⟩:=I.bE p _ h
 exact⟨aN,n,r,e,z⟩
theorem Inv.Dx {pins:List (Addr×Obj)} {σ:St} {H:Hp} {s:Shared} {p:Addr} {xs ys:List V} {aN its':List Value} {n n':Nat} {f:Obj->Obj} (I:Inv X pins σ H s) (h:H p=some (.lst xs))
  (ho:s.heap.get? p=some {cls:=.type "list",data:=.seq aN.toArray n}) (hf:f {cls:=.type "list",data:=.seq aN.toArray n}={cls:=.type "list",data:=.seq its'.toArray n'}) (r:aV ys its') (hz:ys.length<=sizeLine) (t:Nat):
  Inv X pins σ (upd H p (.lst ys)) {s with heap:=s.heap.update p f,toks:=t}:=by
 have e:(s.heap.update p f).get? p=some {cls:=.type "list",data:=.seq its'.toArray n'}:=by
  rw[Heap.get?_update_self f ho (by rw[hf] <;>rfl),hf]
 refine I.write (x:=p) (e:=p) (by rw[h];trivial) (.inl rfl) (λb u hb q=>(Heap.get?_update_other _ _ (Ne.symm hb)).trans q) ⟨_,e⟩ ?_
 exact⟨hz,its',n',r,e⟩
noncomputable def rSetL:V->V->V->Hp->(Hp->Prop)->Prop:=λo i v H Q=>∃p xs k j,o=.ref p/\i=.int k/\H p=some (.lst xs)/\wK xs.length k=some j/\Q (upd H p (.lst (xs.set j v)))
theorem set_list:Di X rSetL:=by
 intro pins s σ H o i v ov iv u Q I ro ri rv h
 obtain⟨p,xs,k,j,rfl,rfl,hp,hj,q⟩:=h
 cases ro
 obtain⟨t,rfl⟩:=ri
 obtain⟨aN,n,r,ho,hz⟩:=I.lst hp
 obtain⟨h1,h2,h3,h4⟩:=va hj
 have hl:=r.length
 have hn:=lW
 have I':Inv X pins σ (upd H p (.lst (xs.set j v))) {s with heap:=s.heap.update p (Obj.mapSeq (·.setIfInBounds j u))}:=
  I.Dx hp ho (ug aN n j u) (r.set rv j) (by rw[Y5];exact hz) s.toks
 by_cases h0:0<=k
 ·have hk:k.toNat=j:=by
   rw[seqIndex_of h0 h4] at h1
   exact Zg h1
  exact PySem.W.ki_setAt ho h0 (by omega) (by rw[YR,<-hl];exact h4) (by rw[hk];exact⟨_,I',q⟩)
 ·have hk:(k+ (aN.toArray.size:Int)).toNat=j:=by
   rw[seqIndex_neg (by omega) h3] at h1
   rw[YR,<-hl]
   exact Zg h1
  exact PySem.W.ki_setBack ho (by omega) (by rw[YR,<-hl];exact h3) (by omega) (by rw[hk];exact⟨_,I',q⟩)
theorem pR (lo hi:Option Int) (n:Nat):(sliceBounds lo hi none n).1=((HT.ue n 0 lo:Nat):Int)/\(sliceBounds lo hi none n).2.1=((HT.ue n n hi:Nat):Int)/\(sliceBounds lo hi none n).2.2=1:=by
 refine⟨?_,?_,rfl⟩
 ·cases lo with
  | none=>simp [sliceBounds,HT.ue]
  | some i=>
   simp only[sliceBounds,HT.ue,Option.getD_none,show(1:Int) >0 by decide,if_true]
   by_cases h:i<0
   ·simp only[h,if_true] <;>omega
   ·simp only[h,if_false] <;>omega
 ·cases hi with
  | none=>simp [sliceBounds,HT.ue]
  | some i=>
   simp only[sliceBounds,HT.ue,Option.getD_none,show(1:Int) >0 by decide,if_true]
   by_cases h:i<0
   ·simp only[h,if_true] <;>omega
   ·simp only[h,if_false] <;>omega
theorem og (aN:List Value) (lo hi:Option Int):slicePick aN.toArray lo hi none=((aN.drop (HT.ue aN.length 0 lo)).take (HT.ue aN.length aN.length hi - HT.ue aN.length 0 lo)).toArray:=by
 obtain⟨h1,h2,h3⟩:=pR lo hi aN.toArray.size
 unfold slicePick
 rw[h1,h2,h3]
 simp only[sliceRange_one,pick_run,YR] <;>rfl
noncomputable def rSlL (K:PySem.W.Frag):V->Option Int->Option Int->Hp->VK->Prop:=λx lo hi H Q=>∃a xs,x=.ref a/\aR K H a xs/\∀p,H p=none->Q (.ref p) (upd H p (.lst (uf xs lo hi)))
theorem AY:IM X (rSlL X.K):=by
 intro pins s σ H x v vl vu lo hi sl Q I rx hs pl pu h
 obtain⟨a,xs,rfl,hx,q⟩:=h
 cases rx
 obtain⟨aN,r,ht,hz⟩:=I.list hx
 have hlen:=r.length
 refine⟨"list",_,slot_list_getitem.lookup,ht.isList.typeIs,?_⟩
 refine wpAny_getItem_list_slice ht.isList hs pl pu .none (by simp) ?_ (by rw[YR] <;>omega)
 rw[og,<-hlen]
 refine⟨.ref s.heap.objs.size,_,I.laid (t':=s.toks) (o:=.lst (uf xs lo hi)) (λb ob q=>Heap.get?_push_of_some _ q) (YO _) ?_,rfl,q _ (I.bE.fresh (YO _))⟩
 exact⟨Y2 (qV xs lo hi) hz,_,0,(r.drop (HT.ue xs.length 0 lo)).take (HT.ue xs.length xs.length hi - HT.ue xs.length 0 lo),Heap.get?_push_size _ rfl⟩
noncomputable def dE:V->Bool
 | .bV=>true
 | .bl _=>true
 | .int _=>true
 | .str _=>true
 | _=>false
noncomputable def wL:V->V->Bool
 | .bV,.bV=>true
 | .bl a,.bl b=>a==b
 | .bl a,.int b=>(if a then 1 else 0)==b
 | .int a,.bl b=>a==(if b then 1 else 0)
 | .int a,.int b=>a==b
 | .str a,.str b=>a==b
 | _,_=>false
theorem ya {A:Around} {s:Shared} {y x:V} {u v:Value} (ry:RelV y u) (rx:RelV x v) (fy:dE y=true) (fx:dE x=true):SeqAt.EqAt A s u v (wL y x):=by
 cases y with
 | bV=>
  cases ry
  cases x with
  | bV=>cases rx;exact SeqAt.EqAt.same _
  | bl b=>cases rx;exact SeqAt.EqAt.none_bool b
  | int b=>obtain⟨t,rfl⟩:=rx;exact SeqAt.EqAt.none_int b t
  | str b=>obtain⟨t,rfl⟩:=rx;exact SeqAt.EqAt.none_str b t
  | _=>exact absurd (show false=true from fx) YZ
 | bl a=>
  cases ry
  cases x with
  | bV=>cases rx;exact SeqAt.EqAt.bool_none a
  | bl b=>cases rx;exact SeqAt.EqAt.bool_bool a b
  | int b=>obtain⟨t,rfl⟩:=rx;exact SeqAt.EqAt.bool_int a b t
  | str b=>obtain⟨t,rfl⟩:=rx;exact SeqAt.EqAt.bool_str a b t
  | _=>exact absurd (show false=true from fx) YZ
 | int a=>
  obtain⟨t',rfl⟩:=ry
  cases x with
  | bV=>cases rx;exact SeqAt.EqAt.int_none a t'
  | bl b=>cases rx;exact SeqAt.EqAt.int_bool a t' b
  | int b=>obtain⟨t,rfl⟩:=rx;exact SeqAt.EqAt.int_int a t' b t
  | str b=>obtain⟨t,rfl⟩:=rx;exact SeqAt.EqAt.int_str a t' b t
  | _=>exact absurd (show false=true from fx) YZ
 | str a=>
  obtain⟨t',rfl⟩:=ry
  cases x with
  | bV=>cases rx;exact SeqAt.EqAt.str_none a t'
  | bl b=>cases rx;exact SeqAt.EqAt.str_bool a t' b
  | int b=>obtain⟨t,rfl⟩:=rx;exact SeqAt.EqAt.str_int a t' b t
  | str b=>obtain⟨t,rfl⟩:=rx;exact SeqAt.EqAt.str_str a t' b t
  | _=>exact absurd (show false=true from fx) YZ
 | _=>exact absurd (show false=true from fy) YZ
noncomputable def AZ (x:V) (u:Value):Bool:=match u with
 | .none=>wL .bV x
 | .bool b=>wL (.bl b) x
 | .int i _=>wL (.int i) x
 | .str z _=>wL (.str z) x
 | _=>false
theorem yb {x y:V} {u:Value} (r:RelV y u) (f:dE y=true):AZ x u=wL y x:=by
 cases y with
 | bV=>cases r;rfl
 | bl b=>cases r;rfl
 | int i=>obtain⟨t,rfl⟩:=r;rfl
 | str z=>obtain⟨t,rfl⟩:=r;rfl
 | _=>exact absurd (show false=true from f) YZ
theorem pS {x:V}:∀{xs:List V} {us:List Value},aV xs us->xs.all dE=true->us.any (AZ x)=xs.any λy=>wL y x
 | _,_,.nil,_=>rfl
 | y::xs,u::us,.cons r t,f=>by
  rw[List.all_cons,Zi] at f
  rw[List.any_cons,List.any_cons,yb r f.1,pS t f.2]
theorem me {A:Around} {s:Shared} {x:V} {v:Value} (rx:RelV x v) (fx:dE x=true):∀{xs:List V} {us:List Value},aV xs us->xs.all dE=true->∀u∈us,SeqAt.EqAt A s u v (AZ x u)
 | _,_,.nil,_=>λu hu=>by cases hu
 | y::xs,u::us,.cons r t,f=>λu' hu=>by
  rw[List.all_cons,Zi] at f
  rcases List.mem_cons.mp hu with rfl | hu
  ·rw[yb r f.1];exact ya r rx f.1 fx
  ·exact me rx fx t f.2 u' hu
noncomputable def F8 (x:V) (xs:List V):Bool:=xs.any λy=>wL y x
noncomputable def JR (K:PySem.W.Frag) (neg:Bool):R2:=λx y H Q=>∃p xs,y=.ref p/\(aR K H p xs\/dH K H p xs)/\dE x=true/\xs.all dE=true/\Q (.bl (if neg then !F8 x xs else F8 x xs)) H
theorem pT:jv X (compareOp .NotIn) (JR X.K true):=by
 intro pins s σ H x y v u Q I rx ry h
 obtain⟨p,xs,rfl,hq,fx,fs,q⟩:=h
 cases ry
 rcases hq with hq | hq
 ·obtain⟨aN,r,pl,hz⟩:=I.list hq
  refine SeqAt.notIn_listAt (AZ x) pl.isList (λw hw=>me rx fx r fs w (by simpa using hw)) ⟨.bl _,H,I,rfl,?_⟩
  rw[show aN.toArray.any (AZ x)=aN.any (AZ x) by simp,pS r fs]
  exact q
 ·obtain⟨aN,r,pl,hz⟩:=I.tuple hq
  refine SeqAt.notIn_tupleAt (AZ x) pl (λw hw=>me rx fx r fs w (by simpa using hw)) ⟨.bl _,H,I,rfl,?_⟩
  rw[show aN.toArray.any (AZ x)=aN.any (AZ x) by simp,pS r fs]
  exact q
theorem fh:bY X (.builtin "len") (λxs H Q=>∃p ys,xs=[.ref p]/\(aR X.K H p ys\/dH X.K H p ys)/\Q (.int ys.length) H):=by
 intro pins s σ H xs us Q I r h
 obtain⟨p,ys,rfl,hq,q⟩:=h
 obtain⟨u,rfl,rx⟩:=vals1 r
 cases rx
 have hn:=lW
 rcases hq with hq | hq
 ·obtain⟨aN,r',pl,hz⟩:=I.list hq
  have hlen:=r'.length
  exact Calls.call_len_list pl.isList (by simp only[YR] <;>omega) ⟨.int ys.length,H,I.tok _,⟨s.toks+1,by rw[YR,hlen]⟩,q⟩
 ·obtain⟨aN,r',pl,hz⟩:=I.tuple hq
  have hlen:=r'.length
  exact len_tuple pl (by simp only[YR] <;>omega) ⟨.int ys.length,H,I.tok _,⟨s.toks+1,by rw[YR,hlen]⟩,q⟩
theorem pU:bY X (.type "list") (λxs H Q=>∃p ys,xs=[.ref p]/\(aR X.K H p ys\/dH X.K H p ys)/\∀l,H l=none->Q (.ref l) (upd H l (.lst ys))):=by
 intro pins s σ H xs us Q I r h
 obtain⟨p,ys,rfl,hq,q⟩:=h
 obtain⟨u,rfl,rx⟩:=vals1 r
 cases rx
 have fin:∀(aN:List Value),aV ys aN->ys.length<=sizeLine->∀(h':Heap) (c':Nat),(∀b o',s.heap.get? b=some o'->h'.get? b=some o')->
   h'.get? s.heap.objs.size=some {cls:=.type "list",dict:=none,data:=.seq aN.toArray c',slots:=#[]}->EP X pins σ Q (.ref s.heap.objs.size) {s with heap:=h'}:=λaN r' hz h' c' kp e=>
  ⟨.ref s.heap.objs.size,_,I.laid (t':=s.toks) kp (YO _) (show bQ X.prog X.w _ h' _ (.lst ys) from⟨hz,aN,c',r',e⟩),rfl,q _ (I.bE.fresh (YO _))⟩
 rcases hq with hq | hq
 ·obtain⟨aN,r',pl,hz⟩:=I.list hq
  have hlen:=r'.length
  obtain⟨o,ho,hc,n,hd⟩:=pl.isList
  exact call_list_seq p (.inl rfl) ho hc hd (λh' c' kp e=>fin aN r' hz h' c' kp e) (by simp only[YR] <;>omega)
 ·obtain⟨aN,r',pl,hz⟩:=I.tuple hq
  have hlen:=r'.length
  obtain⟨o,ho,hc,n,hd⟩:=pl
  exact call_list_seq p (.inr rfl) ho hc hd (λh' c' kp e=>fin aN r' hz h' c' kp e) (by simp only[YR] <;>omega)
noncomputable def Ri (K:PySem.W.Frag) (T:String) (x:V) (H:Hp):Prop:=match x with
 | .str _=>T="str"
 | .int _=>T="int"
 | .ref p=>(T="list"/\∃xs,aR K H p xs)\/(T="tuple"/\∃o,K.lookup p=some o/\o.cls=.type "tuple"/\o.dict=none)\/
   (T="dict"/\((∃kvs,H p=some (.dK kvs))\/∃kvs,H p=some (.dT kvs)))\/(T="set"/\∃S n,H p=some (.set S n))
 | _=>False
theorem Dy {pins:List (Addr×Obj)} {σ:St} {H:Hp} {s:Shared} {T:String} {x:V} {v:Value} (I:Inv X pins σ H s) (r:RelV x v) (ty:Ri X.K T x H):
  s.TypeIs v T/\∀a,v=.ref a->∃ob,s.heap.get? a=some ob/\ob.dict=none:=by
 cases x with
 | str z=>
  obtain⟨t,rfl⟩:=r
  cases (show T="str" from ty)
  exact⟨typeIs_str s z t,λ_ e=>nomatch e⟩
 | int i=>
  obtain⟨t,rfl⟩:=r
  cases (show T="int" from ty)
  exact⟨typeIs_int s i t,λ_ e=>nomatch e⟩
 | ref p=>
  cases r
  rcases ty with ⟨rfl,xs,hq⟩ | ⟨rfl,o,hk,hc,hd⟩ | ⟨rfl,hk⟩ | ⟨rfl,S,n,hk⟩
  ·obtain⟨aN,_,pl,_⟩:=I.list hq
   refine⟨pl.isList.typeIs,λa e=>?_⟩
   cases e
   obtain⟨o,n,e,c,hd,_⟩:=pl
   exact⟨o,e,hd⟩
  ·refine⟨⟨o,I.km p o hk,hc⟩,λa e=>?_⟩
   cases e
   exact⟨o,I.km _ o hk,hd⟩
  ·have z:∃o,s.heap.get? p=some o/\o.ExactDict:=by
    rcases hk with ⟨kvs,hk⟩ | ⟨kvs,hk⟩
    ·obtain⟨_,_,_,_,o,_,_,e,ex,_⟩:=I.bE p _ hk
     exact⟨o,e,ex⟩
    ·obtain⟨_,_,_,_,o,_,_,e,ex,_⟩:=I.bE p _ hk
     exact⟨o,e,ex⟩
   obtain⟨o,e,ex⟩:=z
   refine⟨⟨o,e,ex.1⟩,λa e2=>?_⟩
   cases e2
   exact⟨o,e,ex.2.1⟩
  ·obtain⟨o,_,_,_,e,ex,_⟩:=I.bE p _ hk
   refine⟨⟨o,e,ex.1⟩,λa e2=>?_⟩
   cases e2
   exact⟨o,e,ex.2.1⟩
 | _=>exact False.elim ty
noncomputable def tBM (K:PySem.W.Frag) (T:String) (r:V->List V->Hp->VK->Prop) (to:TE) (t:TA):TE:=λσ H Q=>to σ H λx H1=>Ri K T x H1/\t σ H1 λxs H2=>r x xs H2 Q
variable {o e : Expr} {es : List Expr} {to : TE} {t : TA} {name : Str} {apos fY : Pos} {T id : String} {r : V -> List V -> Hp -> VK -> Prop}
theorem oS (pa:PlainAttrs T) (slot:Slot T name id) (S9:typeOf (.builtin id)=pure (.type "method_descriptor")) (hm:JO X id r) (ho:PE X o to) (ha:PA X (e::es) t)
  (F9:attributeBase o name X.env (eval o X.env)=eval o X.env:=by rfl)
  (JS:((backTo fY (starEach (e::es) X.env)).all (λx=>!x.1) && (backToKw fY (keywordEach [] X.env)).all (λx=>x.1.isSome)
   && decide ((e::es).length+ ([]:List Keyword).length+ (if ([]:List Keyword).isEmpty then 0 else 1)<30))=true:=by rfl)
  (Ga:(apos.endLine==fY.line)=true:=by rfl) (hs:starEach (e::es) X.env=(false,eval e X.env)::starEach es X.env:=by rfl) (Dz:(backTo fY (starEach es X.env)).any (·.1)=false:=by rfl):
  PE X (.Call (.Attribute o name apos) (e::es) [] fY) (tBM X.K T r to t):=by
 intro pins s σ H Q I h
 refine wpAny_Call_method_late F9 JS Ga rfl (bR (ho pins s σ H _ I h) λv s1 b8=>?_)
 obtain⟨x,H1,I1,r1,ty,q1⟩:=b8
 obtain⟨h1,h2⟩:=Dy I1 r1 ty
 refine⟨T,id,pa,slot,S9,h1,h2,?_⟩
 have hA:=ha fY pins s1 σ H1 _ I1 q1
 rw[hs] at hA ⊢
 refine Calls.callWith_builtin (by show(false || (backTo fY (starEach es X.env)).any (·.1))=false;rw[Dz] <;>rfl) (Calls.evalArgs_plain ?_)
 exact bR hA λus s2 ⟨vs,H2,I2,r2,q2⟩=>hm pins s2 σ H2 x vs v us Q I2 r1 r2 q2
end
end L2
namespace L2
open PySem PySem.Spec PyProof.Rows
noncomputable def IP (X:Cx) (id:String) (r:V->List V->Hp->VK->Prop):Prop:=
 ∀(pins:List (Addr×Obj)) (s:Shared) (σ:St) (H:Hp) (x:V) (xs:List V) (v:Value) (us:List Value) (Q:VK),Inv X pins σ H s->RelV x v->aV xs us->r x xs H Q->
  wpAny (model X.prog X.w) X.A (call (.builtin id) (v::us)) (EP X pins σ Q) X.xe s
theorem aV.one:∀{x:V} {us:List Value},aV [x] us->∃u,us=[u]/\RelV x u
 | _,_,.cons r .nil=>⟨_,rfl,r⟩
theorem aV.reverse {xs:List V} {us:List Value} (h:aV xs us):aV xs.reverse us.reverse:=by
 induction h with
 | nil=>exact .nil
 | cons r t ih=>rw[List.reverse_cons,List.reverse_cons];exact aV.append ih (.cons r .nil)
theorem aV.rep {xs:List V} {us:List Value} (h:aV xs us):∀k:Nat,aV (List.replicate k xs).flatten (List.replicate k us).flatten
 | 0=>.nil
 | k+1=>by
  rw[List.replicate_succ,List.replicate_succ,List.flatten_cons,List.flatten_cons]
  exact aV.append h (aV.rep h k)
theorem foldl_rep (aN:List Value):∀(k:Nat) (acc:List Value),
  List.foldl (λx1 x2=>x1++x2) acc.toArray (List.replicate k aN.toArray)=(acc++ (List.replicate k aN).flatten).toArray
 | 0,acc=>by simp
 | k+1,acc=>by
  have e:acc.toArray++aN.toArray=(acc++aN).toArray:=by simp
  have e2:(acc++aN)++ (List.replicate k aN).flatten=acc++ (List.replicate (k+1) aN).flatten:=by
   rw[List.replicate_succ,List.flatten_cons,Zb]
  rw[<-e2,<-foldl_rep aN k (acc++aN),<-e,List.replicate_succ,List.foldl_cons]
section
variable {X : Cx} {pins : List (Addr × Obj)} {σ : St} {H : Hp} {s : Shared} {l b : Addr} {xs ys zs : List V}
theorem Inv.JT {aN its':List Value} {n:Nat} {f:Array Value->Array Value} {t':Nat} (I:Inv X pins σ H s) (hH:H l=some (.lst xs))
  (e:s.heap.get? l=some {cls:=.type "list",data:=.seq aN.toArray n}) (hf:f aN.toArray=its'.toArray) (hv:aV ys its') (hz:ys.length<=sizeLine):
  Inv X pins σ (upd H l (.lst ys)) {s with heap:=s.heap.update l (Obj.mapSeq f),toks:=t'}:=by
 have q:=PySem.IsL.update e f
 rw[hf] at q
 refine I.write (x:=l) (e:=l) (by rw[hH];exact trivial) (.inl rfl) (λb' u hb hu=>(Heap.get?_update_other s.heap (Obj.mapSeq f) (Ne.symm hb)).trans hu) ⟨_,q⟩ ?_
 exact⟨hz,its',_,hv,q⟩
theorem Inv.uh {aN:List Value} {t':Nat} (I:Inv X pins σ H s) (hv:aV ys aN) (hz:ys.length<=sizeLine):
  Inv X pins σ (upd H s.heap.objs.size (.lst ys)) {s with heap:=s.heap.push {cls:=.type "list",data:=.seq aN.toArray},toks:=t'}:=
 I.laid (λ_ _ q=>Heap.get?_push_of_some _ q) (YO _) ⟨hz,aN,0,hv,Heap.get?_push_size _ rfl⟩
theorem Inv.fresh (I:Inv X pins σ H s):H s.heap.objs.size=none:=I.bE.fresh (YO _)
theorem Inv.A1 (I:Inv X pins σ H s) (hH:H l=some (.lst xs)):xs.length<=sizeLine/\∃(aN:List Value) (n:Nat),aV xs aN/\xs.length=aN.length/\s.heap.get? l=some {cls:=.type "list",data:=.seq aN.toArray n}:=by
 obtain⟨z,aN,n,r,e⟩:=I.bE l _ hH
 exact⟨z,aN,n,r,r.length,e⟩
theorem yc {n:Nat} (h:n<=sizeLine):Builtin.List.listTooLong n=false:=by
 unfold Builtin.List.listTooLong
 exact decide_eq_false (by omega)
end
section
variable {X : Cx}
noncomputable def lB:V->List V->Hp->VK->Prop:=λx vs H Q=>∃l xs y,x=.ref l/\vs=[y]/\H l=some (.lst xs)/\xs.length<sizeLine/\Q .bV (upd H l (.lst (xs++ [y])))
theorem dP:IP X "list.append" lB:=by
 intro pins s σ H x vs v us Q I rx rv h
 obtain⟨l,xs,y,rfl,rfl,hH,hz,q⟩:=h
 cases rx
 obtain⟨u,rfl,ru⟩:=rv.one
 obtain⟨z,aN,n,r,hl,e⟩:=I.A1 hH
 refine call_meets F.slot_list_append ⟨_,e,rfl⟩ F.entry_list_append (F.args_list_append_2 _ _) (PySem.list_append l aN.toArray n u (by rw[YR];omega)) ⟨e,?_⟩
 refine⟨.bV,_,I.JT (its':=aN++ [u]) hH e (by simp) (r.append (.cons ru .nil)) ?_,rfl,q⟩
 rw[Zn,List.length_singleton]
 omega
noncomputable def Gb:R2:=λx y H Q=>∃l b xs zs,x=.ref l/\y=.ref b/\H l=some (.lst xs)/\H b=some (.lst zs)/\xs.length+zs.length<=sizeLine/\∀p,H p=none->Q (.ref p) (upd H p (.lst (xs++zs)))
theorem DB:jv X (binaryOp .Add) Gb:=by
 intro pins s σ H x y v u Q I rx ry h
 obtain⟨l,b,xs,zs,rfl,rfl,hH,hB,hz,q⟩:=h
 cases rx
 cases ry
 obtain⟨z,aN,n,r,hl,e⟩:=I.A1 hH
 obtain⟨z2,mf,n2,r2,Av,e2⟩:=I.A1 hB
 refine PySem.P.add_list e e2 ?_ (by rw[YR,YR];omega)
 have ea:aN.toArray++mf.toArray=(aN++mf).toArray:=by simp
 rw[ea]
 exact⟨.ref _,_,I.uh (t':=s.toks) (r.append r2) (by rw[Zn];omega),rfl,q _ I.fresh⟩
noncomputable def A2:R2:=λx y H Q=>∃l k xs,x=.ref l/\y=.int k/\H l=some (.lst xs)/\-(2^63)<=k/\k<2^63/\xs.length*k.toNat<=sizeLine/\
 ∀p,H p=none->Q (.ref p) (upd H p (.lst (List.replicate k.toNat xs).flatten))
theorem len_rep {α:Type} (xs:List α) (k:Nat):(List.replicate k xs).flatten.length=k*xs.length:=by
 induction k with
 | zero=>simp
 | succ k ih=>rw[List.replicate_succ,List.flatten_cons,Zn,ih,Nat.succ_mul,Nat.add_comm]
theorem uj:jv X (binaryOp .Mult) A2:=by
 intro pins s σ H x y v u Q I rx ry h
 obtain⟨l,k,xs,rfl,rfl,hH,h1,h2,hz,q⟩:=h
 cases rx
 obtain⟨t,rfl⟩:=ry
 obtain⟨z,aN,n,r,hl,e⟩:=I.A1 hH
 have hlen:aN.toArray.size*k.toNat<=sizeLine:=by rw[YR,<-hl];exact hz
 have JU:¬aN.toArray.size*k.toNat >(2^63 - 1) / 8:=by
  have:(sizeLine:Nat)<=(2^63 - 1) / 8:=by decide
  omega
 have DC:¬(!Builtin.List.listFitsIndex k)=true:=by
  rw[fitsIndex_both h1 h2]
  exact YZ
 have Gc:¬Builtin.List.listTooLong (aN.toArray.size*k.toNat)=true:=by
  rw[yc hlen]
  exact YZ
 have JV:List.foldl (λx1 x2=>x1++x2) #[] (List.replicate (if aN.toArray.isEmpty=true then 0 else k.toNat) aN.toArray)=(List.replicate k.toNat aN).flatten.toArray:=by
  have f0:∀m:Nat,List.foldl (λx1 x2=>x1++x2) #[] (List.replicate m aN.toArray)=(List.replicate m aN).flatten.toArray:=λm=>by
   have:=foldl_rep aN m []
   rw[List.nil_append] at this
   exact this
  rw[f0]
  cases aN with
  | nil=>simp
  | cons a r'=>rw[if_neg (by simp)]
 refine wpAny_binaryOp_repeat_ref (T:="list") (U:="int") (by decide) ⟨_,e,rfl⟩ (λs'=>typeIs_int s' k t) noFill_list_mul F.fills_int_mul F.slot_int_rmul repeat_list F.slot_int_index.lookup
  (call_meets F.slot_int_rmul (typeIs_int s k t) F.entry_int_rmul (F.args_int_rmul_2 _ _) (int___rmul___int_list k t l aN.toArray n)
   ⟨e,rfl,⟨_,e,rfl⟩,call_meets F.slot_list_mul ⟨_,e,rfl⟩ F.entry_list_mul (F.args_list_mul_2 _ _) (AutoListH.list___mul___list_int_3 l aN.toArray n k t DC JU Gc) ⟨e,?_⟩⟩)
 rw[JV]
 exact⟨.ref _,_,I.uh (t':=s.toks) (r.rep k.toNat) (by rw[len_rep,Nat.mul_comm];exact hz),rfl,q _ I.fresh⟩
end
section
variable {prog : Program} {w : World} {A : Around} {E : Value -> Shared -> Prop} {s : Shared}
end
section
variable {X : Cx}
end
end L2
namespace L2
open PySem PySem.Spec PyProof.Rows
section
variable {κ : Type} [DecidableEq κ]
noncomputable def ic (kvs:List (κ×V)) (k:κ):Option V:=(kvs.find? λkv=>decide (kv.1=k)).map (·.2)
noncomputable def putK (kvs:List (κ×V)) (k:κ) (v:V):List (κ×V):=
 if (kvs.any λkv=>decide (kv.1=k))=true then kvs.map (λkv=>if kv.1=k then (kv.1,v) else kv) else kvs++ [(k,v)]
noncomputable def Gd (kvs:List (κ×V)) (k:κ):List (κ×V):=kvs.filter λkv=>decide (kv.1≠k)
theorem iS {p:κ×V} {r:List (κ×V)} {k:κ} (e:p.1=k):ic (p::r) k=some p.2:=by simp [ic,List.find?_cons,e]
theorem gm {p:κ×V} {r:List (κ×V)} {k:κ} (e:¬p.1=k):ic (p::r) k=ic r k:=by simp [ic,List.find?_cons,e]
theorem mh (k:κ):∀kvs:List (κ×V),(kvs.any λkv=>decide (kv.1=k))=(ic kvs k).isSome
 | []=>rfl
 | p::r=>by
  rw[List.any_cons]
  by_cases e:p.1=k
  ·simp only[iS e,decide_eq_true e,Bool.true_or,Option.isSome_some]
  ·rw[gm e,decide_eq_false e,Bool.false_or];exact mh k r
theorem jW (kvs:List (κ×V)) (k:κ) (v:V):(putK kvs k v).length<=kvs.length+1:=by
 unfold putK
 split
 ·rw[YL];omega
 ·rw[Zn,Y8,List.length_nil];omega
theorem yd {kvs:List (κ×V)} {k:κ} (v:V) (h:ic kvs k=none):putK kvs k v=kvs++ [(k,v)]:=by
 unfold putK
 rw[mh,h]
 exact if_neg (by decide)
theorem gZ.eE {o:Option V} {u:Option Value} (r:gZ o u):o.isSome=u.isSome:=by
 cases o with
 | none=>cases u with
  | none=>rfl
  | some _=>exact(show False from r).elim
 | some _=>cases u with
  | none=>exact(show False from r).elim
  | some _=>rfl
theorem KV.val {kvs:List (κ×V)} {vs:List (κ×Value)} (r:KV kvs vs) (k:κ):gZ (ic kvs k) (valueAt vs k):=by
 unfold KV at r
 induction r with
 | nil=>exact True.intro
 | @cons p q ps qs h t ih=>
  obtain⟨h1,h2⟩:=h
  by_cases e:p.1=k
  ·have e':q.1=k:=h1.symm.trans e
   have b:valueAt (q::qs) k=some q.2:=by simp [valueAt,List.find?_cons,e']
   rw[iS e,b];exact h2
  ·have e':¬q.1=k:=λz=>e (h1.trans z)
   have b:valueAt (q::qs) k=valueAt qs k:=by simp [valueAt,List.find?_cons,e']
   rw[gm e,b];exact ih
theorem KV.any {kvs:List (κ×V)} {vs:List (κ×Value)} (r:KV kvs vs) (k:κ):(kvs.any λkv=>decide (kv.1=k))=vs.any λkv=>decide (kv.1=k):=by
 unfold KV at r
 induction r with
 | nil=>rfl
 | cons h t ih=>rw[List.any_cons,List.any_cons,ih,h.1]
theorem KV.DD {kvs:List (κ×V)} {vs:List (κ×Value)} (r:KV kvs vs) (k:κ) {y:V} {u:Value} (ry:RelV y u):
  KV (kvs.map λkv=>if kv.1=k then (kv.1,y) else kv) (vs.map λkv=>if kv.1=k then (kv.1,u) else kv):=by
 unfold KV at r ⊢
 induction r with
 | nil=>exact .nil
 | @cons p q ps qs h t ih=>
  rw[Y3,Y3]
  refine .cons ?_ ih
  obtain⟨h1,h2⟩:=h
  by_cases e:p.1=k
  ·rw[if_pos e,if_pos (h1.symm.trans e)];exact⟨h1,ry⟩
  ·rw[if_neg e,if_neg (λz=>e (h1.trans z))];exact⟨h1,h2⟩
theorem KV.put {kvs:List (κ×V)} {vs:List (κ×Value)} (r:KV kvs vs) (k:κ) {y:V} {u:Value} (ry:RelV y u):KV (putK kvs k y) (stored vs k u):=by
 unfold putK stored
 rw[r.any k]
 by_cases e:(vs.any λkv=>decide (kv.1=k))=true
 ·rw[if_pos e,if_pos e];exact r.DD k ry
 ·rw[if_neg e,if_neg e];exact Paired.snoc r ⟨rfl,ry⟩
theorem KV.length {kvs:List (κ×V)} {vs:List (κ×Value)} (r:KV kvs vs):kvs.length=vs.length:=Paired.length r
end
theorem jX {P:Program} {w:World} {k:Key} {u:Value} (r:RelV (kV k) u):(bO P w).is k u=true:=by
 cases k with
 | inl i=>obtain⟨t,e⟩:=(show ∃t,u=Value.int i t from r);subst e;exact qH P w i t
 | inr x=>obtain⟨t,e⟩:=(show ∃t,u=Value.str x t from r);subst e;exact qI P w x t
theorem oU {P:Program} {w:World}:∀{ks:List Key} {us:List Value},aV (ks.map kV) us->ItemsAre (bO P w) ks us
 | [],_,r=>by rw[List.map_nil] at r;cases r;exact .nil
 | k::ks,_,r=>by
  rw[Y3] at r
  cases r with
  | cons h t=>exact .cons (jX h) (oU t)
abbrev KT (H:Hp):List (List Key×V)->List (List Key×Addr×Value)->Prop:=Paired λp q=>p.1=q.1/\H q.2.1=some (.tup (p.1.map kV))/\RelV p.2 q.2.2
theorem KT.val {H:Hp} {kvs:List (List Key×V)} {xs:List (List Key×Addr×Value)} (r:KT H kvs xs) (k:List Key):gZ (ic kvs k) ((atKey xs k).map (·.2)):=by
 induction r with
 | nil=>exact True.intro
 | @cons p q ps qs h t ih=>
  obtain⟨h1,_,h2⟩:=h
  by_cases e:p.1=k
  ·have e':q.1=k:=h1.symm.trans e
   have b:atKey (q::qs) k=some q.2:=by simp [atKey,List.find?_cons,e']
   rw[iS e,b];exact h2
  ·have e':¬q.1=k:=λz=>e (h1.trans z)
   have b:atKey (q::qs) k=atKey qs k:=by simp [atKey,List.find?_cons,e']
   rw[gm e,b];exact ih
theorem KT.DD {H:Hp} {kvs:List (List Key×V)} {xs:List (List Key×Addr×Value)} (r:KT H kvs xs) (k:List Key) {y:V} {u:Value} (ry:RelV y u):
  KT H (kvs.map λkv=>if kv.1=k then (kv.1,y) else kv) (xs.map (putAt k u)):=by
 induction r with
 | nil=>exact .nil
 | @cons p q ps qs h t ih=>
  rw[Y3,Y3]
  refine .cons ?_ ih
  obtain⟨h1,h2,h3⟩:=h
  unfold putAt
  by_cases e:p.1=k
  ·rw[if_pos e,if_pos (h1.symm.trans e)];exact⟨h1,h2,ry⟩
  ·rw[if_neg e,if_neg (λz=>e (h1.trans z))];exact⟨h1,h2,h3⟩
theorem KT.put {H:Hp} {kvs:List (List Key×V)} {xs:List (List Key×Addr×Value)} (r:KT H kvs xs) (k:List Key) {b:Addr} {y:V} {u:Value} (hb:H b=some (.tup (k.map kV))) (ry:RelV y u):
  KT H (putK kvs k y) (storedH xs k b u):=by
 have e:(kvs.any λkv=>decide (kv.1=k))=(atKey xs k).isSome:=by
  rw[mh,(r.val k).eE,Option.isSome_map]
 unfold putK storedH
 rw[e]
 by_cases q:(atKey xs k).isSome=true
 ·rw[if_pos q,if_pos q];exact r.DD k ry
 ·rw[if_neg q,if_neg q];exact Paired.snoc r ⟨rfl,hb,ry⟩
theorem KT.keeps {H H':Hp} {kvs:List (List Key×V)} {xs:List (List Key×Addr×Value)} (r:KT H kvs xs) (ht:∀b ys,H b=some (.tup ys)->H' b=some (.tup ys)):KT H' kvs xs:=
 Paired.C8 r λ_ _ z=>⟨z.1,ht _ _ z.2.1,z.2.2⟩
section
variable {P : Program} {w : World} {H : Hp} {h : Heap} {a : Addr}
theorem Cp {u:HO} (ok:gf P w H h) (e:Rd H a u):bQ P w H h a u:=e.ok ok
theorem oV {kvs:List (Key×V)} (ok:gf P w H h) (e:Rd H a (.dK kvs)):kvs.length<=sizeLine/\(a==sysModules)=false/\∃vs,KV kvs vs/\h.DictOf (bO P w) a vs:=
 show bQ P w H h a (.dK kvs) from Cp ok e
theorem Cq {kvs:List (Key×V)} (ok:gf P w H h) (e:H a=some (.dK kvs)):kvs.length<=sizeLine/\(a==sysModules)=false/\∃vs,KV kvs vs/\h.DictOf (bO P w) a vs:=oV ok (.inl e)
theorem mi {ks:List Key} (ok:gf P w H h) (e:H a=some (.tup (ks.map kV))):(tupleKind (bO P w)).is h ks a:=by
 obtain⟨_,aN,r,o,h1,h2,n,h3⟩:=(show bQ P w H h a (.tup (ks.map kV)) from ok a _ e)
 exact⟨o,aN.toArray,n,h1,h2,h3,by simpa using oU r⟩
theorem qW {kvs:List (List Key×V)} (ok:gf P w H h) (e:Rd H a (.dT kvs)):kvs.length<=sizeLine/\(a==sysModules)=false/\
  ∃xs,KT H kvs xs/\h.DictOfH (tupleKind (bO P w)) a xs:=by
 obtain⟨z,y,xs,r,o,es,ep,h1,h2,h3,h4,h5⟩:=(show bQ P w H h a (.dT kvs) from Cp ok e)
 refine⟨z,y,xs,r,o,es,ep,h1,h2,h3,h4,λx hx=>?_,h5⟩
 have all:∀{l:List (List Key×V)} {m:List (List Key×Addr×Value)},KT H l m->∀x∈m,(tupleKind (bO P w)).is h x.1 x.2.1:=by
  intro l m q
  induction q with
  | nil=>intro x hx;exact nomatch hx
  | @cons p q ps qs hq t ih=>
   intro x hx
   rcases List.mem_cons.mp hx with e | hx
   ·subst e
    exact mi ok (by rw[<-hq.1];exact hq.2.1)
   ·exact ih x hx
 exact all r x hx
theorem Ge {kvs:List (List Key×V)} (ok:gf P w H h) (e:H a=some (.dT kvs)):kvs.length<=sizeLine/\(a==sysModules)=false/\
  ∃xs,KT H kvs xs/\h.DictOfH (tupleKind (bO P w)) a xs:=qW ok (.inl e)
end
noncomputable def kr (H:Hp) (a:Addr) (y:V) (r:Option V):Prop:=
 (∃kvs k,Rd H a (.dK kvs)/\y=kV k/\r=ic kvs k)\/∃kvs k b,Rd H a (.dT kvs)/\y=.ref b/\H b=some (.tup (k.map kV))/\r=ic kvs k
noncomputable def uk (H:Hp) (a:Addr) (y v:V) (H':Hp):Prop:=
 (∃kvs k,H a=some (.dK kvs)/\y=kV k/\kvs.length<sizeLine/\H'=upd H a (.dK (putK kvs k v)))\/
 ∃kvs k b,H a=some (.dT kvs)/\y=.ref b/\H b=some (.tup (k.map kV))/\kvs.length<sizeLine/\H'=upd H a (.dT (putK kvs k v))
theorem uk.k {H:Hp} {a:Addr} {kvs:List (Key×V)} {k:Key} {v:V} (e:H a=some (.dK kvs)) (hl:kvs.length<sizeLine):uk H a (kV k) v (upd H a (.dK (putK kvs k v))):=.inl ⟨kvs,k,e,rfl,hl,rfl⟩
section
variable {X : Cx} {pins : List (Addr × Obj)} {σ : St} {H : Hp} {s : Shared} {a : Addr} {y v : V} {u r : Value} {o : Option V} {A : Around} {E : Value -> Shared -> Prop}
theorem Inv.Rj (I:Inv X pins σ H s):sysModules<s.heap.objs.size:=by
 have h:mainGlobals<s.heap.objs.size:=(I.mod.glob.keeps I.bk).lt
 exact Nat.lt_trans (by decide) h
theorem wM {Q:Value->Shared->Prop} (hu:A.units+1<cLine) (I:Inv X pins σ H s) (g:kr H a y (some v)) (ry:RelV y u) (h:∀w' s',Inv X pins σ H s'->RelV v w'->Q w' s'):
  wpAny (model X.prog X.w) A (getItem (.ref a) u) Q E s:=by
 rcases g with ⟨kvs,k,e,ey,l⟩ | ⟨kvs,k,b,e,ey,eb,l⟩
 ·subst ey
  obtain⟨z,hd,vs,rel,dd⟩:=oV I.bE e
  obtain⟨w',hw,nY⟩:=gZ.some_of (v:=v) (o:=valueAt vs k) (by rw[l];exact rel.val k)
  exact wpAny_getItem_of (jX ry) dd.mapOf hw (h w' _ (I.tok _) nY)
 ·subst ey
  cases (show u=Value.ref b from ry)
  obtain⟨z,hd,xs,rel,dd⟩:=qW I.bE e
  obtain⟨w',hw,nY⟩:=gZ.some_of (v:=v) (o:=(atKey xs k).map (·.2)) (by rw[l];exact rel.val k)
  obtain⟨p,hp,A3⟩:=Option.map_eq_some_iff.mp hw
  refine wpAny_getItem_heap (tupleKind_room_in1 hu) (mi I.bE eb) dd hp ?_
  rw[A3]
  exact h w' _ (I.tok _) nY
theorem JW {Q:Value->Shared->Prop} (hu:A.units+1<cLine) (I:Inv X pins σ H s) (g:kr H a y o) (ry:RelV y u) (h:∀s',Inv X pins σ H s'->Q (.bool o.isSome) s'):
  wpAny (model X.prog X.w) A (compareOp .In u (.ref a)) Q E s:=by
 rcases g with ⟨kvs,k,e,ey,l⟩ | ⟨kvs,k,b,e,ey,eb,l⟩
 ·subst ey
  obtain⟨z,hd,vs,rel,dd⟩:=oV I.bE e
  refine wpAny_in_of (jX ry) hd dd.mapOf ?_
  rw[<-(rel.val k).eE,<-l]
  exact h _ (I.tok _)
 ·subst ey
  cases (show u=Value.ref b from ry)
  obtain⟨z,hd,xs,rel,dd⟩:=qW I.bE e
  refine wpAny_in_heap (tupleKind_room_in1 hu) (mi I.bE eb) hd dd ?_
  have q:=(rel.val k).eE
  rw[Option.isSome_map] at q
  rw[<-q,<-l]
  exact h _ (I.tok _)
theorem A4 {Q:Value->Shared->Prop} (hu:A.units+1<cLine) (I:Inv X pins σ H s) (g:kr H a y o) (ry:RelV y u) (h:∀s',Inv X pins σ H s'->Q (.bool (!o.isSome)) s'):
  wpAny (model X.prog X.w) A (compareOp .NotIn u (.ref a)) Q E s:=by
 rcases g with ⟨kvs,k,e,ey,l⟩ | ⟨kvs,k,b,e,ey,eb,l⟩
 ·subst ey
  obtain⟨z,hd,vs,rel,dd⟩:=oV I.bE e
  refine wpAny_notIn_of (jX ry) hd dd.mapOf ?_
  rw[<-(rel.val k).eE,<-l]
  exact h _ (I.tok _)
 ·subst ey
  cases (show u=Value.ref b from ry)
  obtain⟨z,hd,xs,rel,dd⟩:=qW I.bE e
  refine wpAny_notIn_heap (tupleKind_room_in1 hu) (mi I.bE eb) hd dd ?_
  have q:=(rel.val k).eE
  rw[Option.isSome_map] at q
  rw[<-q,<-l]
  exact h _ (I.tok _)
theorem pV {h':Heap} {t':Nat} {ob:HO} (I:Inv X pins σ H s) (mu:FJ (H a)) (hs:Heap.SameBut a s.heap h') (he:∃q,h'.get? a=some q) (new:bQ X.prog X.w (upd H a ob) h' a ob):
  Inv X pins σ (upd H a ob) {s with heap:=h',toks:=t'}:=
 I.write (x:=a) (e:=a) mu (.inl rfl) (λb q hb z=>(hs.2 b hb).trans z) he new
theorem ye {P:Program} {w:World} {H':Hp} {h':Heap} {kvs:List (Key×V)} {vs:List (Key×Value)} (z:kvs.length<=sizeLine) (hd:(a==sysModules)=false) (rel:KV kvs vs) (dd:h'.DictOf (bO P w) a vs):
  bQ P w H' h' a (.dK kvs):=⟨z,hd,vs,rel,dd⟩
theorem wN {H':Hp} {Q:Unit->Shared->Prop} (hu:A.units+1<cLine) (I:Inv X pins σ H s) (g:uk H a y v H') (ry:RelV y u) (rv:RelV v r) (h:∀s',Inv X pins σ H' s'->Q () s'):
  wpAny (model X.prog X.w) A (setItem (.ref a) u r) Q E s:=by
 rcases g with ⟨kvs,k,e,ey,l,eH⟩ | ⟨kvs,k,b,e,ey,eb,l,eH⟩
 ·subst ey eH
  obtain⟨z,hd,vs,rel,dd⟩:=Cq I.bE e
  have hz:vs.length<=sizeLine:=by rw[<-rel.length];exact z
  have hl:(putK kvs k v).length<=sizeLine:=by have:=jW kvs k v;omega
  refine wpAny_setItem_pairs (hsz:=hz) (jX ry) dd λh' A5 hs=>h _ ?_
  have he:∃q,h'.get? a=some q:=let ⟨q,_,_,hq,_⟩:=A5;⟨q,hq⟩
  exact pV I (by rw[e];exact True.intro) hs he (ye hl hd (rel.put k rv) A5)
 ·subst ey eH
  cases (show u=Value.ref b from ry)
  obtain⟨z,hd,xs,rel,dd⟩:=Ge I.bE e
  have hz:xs.length<=sizeLine:=by rw[<-Paired.length rel];exact z
  have hl:(putK kvs k v).length<=sizeLine:=by have:=jW kvs k v;omega
  refine wpAny_setItem_heap (hsz:=hz) (tupleKind_room_in1 hu) (mi I.bE eb) dd λh' A5 hs=>h _ ?_
  obtain⟨q,es,ep,hq,h2,h3,h4,_,h5⟩:=A5
  refine pV I (by rw[e];exact True.intro) hs ⟨q,hq⟩ ⟨hl,hd,_,(rel.put k eb rv).keeps λc ys ec=>?_,q,es,ep,hq,h2,h3,h4,h5⟩
  rw[ax (FI ec e (λz=>nomatch z))]
  exact ec
end
section
variable {X : Cx} {pins : List (Addr × Obj)} {σ : St} {H : Hp} {s : Shared} {a : Addr} {kvs : List (Key × V)} {k : Key} {u : Value} {A : Around} {E : Value -> Shared -> Prop}
end
noncomputable def Gf (i:Expr):Prop:=∀ov iv,subscripted i false ov iv=operate [ov,iv] (getItem ov iv)
theorem A6 {prog:Program} {w:World} {A:Around} {E:Value->Shared->Prop} {s:Shared} {env:Env} {value slice:Expr} {pos:Pos} {T id:String} {Q:Value->Shared->Prop}
  (hl:typeLookup (.type T) "__getitem__"=pure (some (.builtin id))) (hs:Gf slice)
  (h:wpAny (model prog w) A (eval value env) (λo s₁=>wpAny (model prog w) A (eval slice env) (λi s₂=>s₂.TypeIs o T/\wpAny (model prog w) A (getItem o i) Q E s₂) E s₁) E s):
  wpAny (model prog w) A (eval (.Subscript value slice pos) env) Q E s:=by
 refine Subscript_ (wpAny_mono h (λo s₁ h₁=>wpAny_mono h₁ (λi s₂ h₂=>?_) λ_ _ x=>x) λ_ _ x=>x)
 obtain⟨hT,h₂⟩:=h₂
 unfold subscriptTail
 refine wpAny_bind ?_
 rw[getitemInPython_of_ne hT.not_modules]
 refine wpAny_bind (wpAny_specialOf hT hl ?_)
 have fin:wpAny (model prog w) A (subscripted slice false o i) (λr s₃=>wpAny (model prog w) A (letTemporaryGo value o r >>=λ_=>pure r) Q E s₃) E s₂:=by
  rw[hs o i]
  exact wpAny_operating (wpAny_mono h₂ (λr s₃ h₃=>wpAny_bind (wpAny_letTemporaryGo (wpAny_pure h₃))) λ_ _ x=>x)
 first
  | exact wpAny_pure (wpAny_bind fin)
  | exact wpAny_bind (wpAny_pure (wpAny_bind fin))
  | exact wpAny_bind fin
theorem qX {X:Cx} {pins:List (Addr×Obj)} {σ:St} {H:Hp} {s:Shared} {a:Addr} {y:V} {o:Option V} (I:Inv X pins σ H s) (g:kr H a y o):s.TypeIs (.ref a) "dict":=by
 rcases g with ⟨kvs,k,e,_,_⟩ | ⟨kvs,k,b,e,_,_,_⟩
 ·obtain⟨_,_,vs,_,dd⟩:=oV I.bE e
  exact dd.typeIs
 ·obtain⟨_,_,xs,_,dd⟩:=qW I.bE e
  exact dd.typeIs
noncomputable def tDGet (td ty:TE):TE:=λσ H Q=>td σ H λx H1=>ty σ H1 λy H2=>∃a v,x=.ref a/\kr H2 a y (some v)/\Q v H2
noncomputable def tDIn (ty td:TE):TE:=λσ H Q=>ty σ H λy H1=>td σ H1 λx H2=>∃a o,x=.ref a/\kr H2 a y o/\Q (.bl o.isSome) H2
noncomputable def tDNotIn (ty td:TE):TE:=λσ H Q=>ty σ H λy H1=>td σ H1 λx H2=>∃a o,x=.ref a/\kr H2 a y o/\Q (.bl (!o.isSome)) H2
noncomputable def sDPut (td ty tv:TE):TS:=λD σ H=>tv σ H λv H1=>td σ H1 λx H2=>ty σ H2 λy H3=>∃a H4,x=.ref a/\uk H3 a y v H4/\D.nx σ H4
section
variable {X : Cx} {o i e value : Expr} {pos pos' fW : Pos} {td ty tv : TE}
theorem A7 (hu:X.A.units+1<cLine) (ho:PE X o td) (hi:PE X i ty) (hs:Gf i):PE X (.Subscript o i pos) (tDGet td ty):=by
 intro pins s σ H Q I h
 refine A6 PySem.F.slot_dict_getitem.lookup hs (bR (ho pins s σ H _ I h) λu s1 ⟨x,H1,I1,rx,q1⟩=>bR (hi pins s1 σ H1 _ I1 q1) λiv s2 b8=>?_)
 obtain⟨y,H2,I2,ry,a,v,ex,g,q2⟩:=b8
 subst ex
 obtain rfl:u=Value.ref a:=rx
 exact⟨qX I2 g,wM hu I2 g ry λw' s3 I3 nY=>⟨v,H2,I3,nY,q2⟩⟩
theorem yf (hu:X.A.units+1<cLine) (hi:PE X i ty) (ho:PE X o td):PC X .In i o (tDIn ty td):=by
 intro pins s σ H Q I h
 refine bR (hi pins s σ H _ I h) λiv s1 ⟨y,H1,I1,ry,q1⟩=>bR (ho pins s1 σ H1 _ I1 q1) λu s2 b8=>?_
 obtain⟨x,H2,I2,rx,a,ov,ex,g,q2⟩:=b8
 subst ex
 obtain rfl:u=Value.ref a:=rx
 exact JW hu I2 g ry λs3 I3=>⟨.bl ov.isSome,H2,I3,rfl,q2⟩
theorem wO (hu:X.A.units+1<cLine) (hi:PE X i ty) (ho:PE X o td):PC X .NotIn i o (tDNotIn ty td):=by
 intro pins s σ H Q I h
 refine bR (hi pins s σ H _ I h) λiv s1 ⟨y,H1,I1,ry,q1⟩=>bR (ho pins s1 σ H1 _ I1 q1) λu s2 b8=>?_
 obtain⟨x,H2,I2,rx,a,ov,ex,g,q2⟩:=b8
 subst ex
 obtain rfl:u=Value.ref a:=rx
 exact A4 hu I2 g ry λs3 I3=>⟨.bl (!ov.isSome),H2,I3,rfl,q2⟩
theorem vc (hu:X.A.units+1<cLine) (ho:PE X o td) (hi:PE X i ty) (hv:PE X value tv) (hs:swapsWith value (some (.Subscript o i pos')) pos.line X.env=pure false):
  PS X (.Assign [.Subscript o i pos'] value pos) (sDPut td ty tv):=by
 intro pins s σ H D I h
 refine wpAny_Assign_Subscript (bR (hv pins s σ H _ I h) λr s1 ⟨v,H1,I1,rv,q1⟩=>bR (ho pins s1 σ H1 _ I1 q1) λu s2 ⟨x,H2,I2,rx,q2⟩=>bR (hi pins s2 σ H2 _ I2 q2) λiv s3 b8=>?_) hs
 obtain⟨y,H3,I3,ry,a,H4,ex,g,q3⟩:=b8
 subst ex
 obtain rfl:u=Value.ref a:=rx
 exact wN hu I3 g ry rv λs4 I4=>⟨σ,H4,I4,q3⟩
end
theorem qY {P:Program} {w:World} {H:Hp} (h:Heap) (hb:sysModules<h.objs.size):bQ P w H (h.push {cls:=.type "dict",data:=.dict #[]}) h.objs.size (.dK []):=
 ⟨Y0 _,beq_eq_false_iff_ne.mpr (Ne.symm (YT hb)),[],.nil,Heap.DictOf.new h⟩
noncomputable def tDNewK:TE:=λ_ H Q=>∀p,H p=none->Q (.ref p) (upd H p (.dK []))
section
variable {X : Cx} {pos : Pos}
theorem yg:PE X (.Dict [] [] pos) tDNewK:=λpins s σ H Q I h=>
 wpAny_Dict_empty ⟨.ref s.heap.objs.size,_,I.laid (a:=s.heap.objs.size) (o:=.dK []) (t':=s.toks) (λ_ _ q=>Heap.get?_push_of_some _ q) (YO _) (qY s.heap I.Rj),rfl,h _ (I.bE.fresh (YO _))⟩
end
abbrev VV:List (V×V)->List (Value×Value)->Prop:=Paired λp q=>RelV p.1 q.1/\RelV p.2 q.2
structure M1 (X:Cx) (o:Expr) (m:Str) (apos:Pos) (e:Expr) (fY:Pos):Prop where
 base:attributeBase o m X.env (eval o X.env)=eval o X.env
 oW:((backTo fY (starEach [e] X.env)).all (λx=>!x.1) && (backToKw fY (keywordEach [] X.env)).all (λx=>x.1.isSome)
  && decide (([e]:List Expr).length+ ([]:List Keyword).length+ (if ([]:List Keyword).isEmpty then 0 else 1)<30))=true
 line:(apos.endLine==fY.line)=true
 trees:backTo fY (starEach [e] X.env)=[(false,eval e X.env)]
structure M2 (X:Cx) (o:Expr) (m:Str) (apos:Pos) (e f:Expr) (fY:Pos):Prop where
 base:attributeBase o m X.env (eval o X.env)=eval o X.env
 oW:((backTo fY (starEach [e,f] X.env)).all (λx=>!x.1) && (backToKw fY (keywordEach [] X.env)).all (λx=>x.1.isSome)
  && decide (([e,f]:List Expr).length+ ([]:List Keyword).length+ (if ([]:List Keyword).isEmpty then 0 else 1)<30))=true
 line:(apos.endLine==fY.line)=true
 trees:backTo fY (starEach [e,f] X.env)=[(false,eval e X.env),(false,eval f X.env)]
noncomputable def JX (H:Hp) (a:Addr):Prop:=(∃kvs,Rd H a (.dK kvs))\/∃kvs,Rd H a (.dT kvs)
section
variable {X : Cx} {pins : List (Addr × Obj)} {σ : St} {H : Hp} {s : Shared} {a : Addr} {y d : V} {u r : Value} {o : Option V} {A : Around} {E : Value -> Shared -> Prop}
end
noncomputable def tDGet1 (td ty:TE):TE:=λσ H Q=>td σ H λx H1=>∃a,x=.ref a/\JX H1 a/\ty σ H1 λy H2=>∃o,kr H2 a y o/\Q (o.getD .bV) H2
noncomputable def tDGet2 (td ty tx:TE):TE:=λσ H Q=>td σ H λx H1=>∃a,x=.ref a/\JX H1 a/\ty σ H1 λy H2=>tx σ H2 λz H3=>∃o,kr H3 a y o/\Q (o.getD z) H3
noncomputable def tDPop1 (td ty:TE):TE:=λσ H Q=>td σ H λx H1=>∃a,x=.ref a/\JX H1 a/\ty σ H1 λy H2=>∃kvs k v,H2 a=some (.dK kvs)/\y=kV k/\ic kvs k=some v/\Q v (upd H2 a (.dK (Gd kvs k)))
section
variable {X : Cx} {o e f : Expr} {apos fY : Pos} {td ty tx : TE}
end
section
variable {X : Cx} {pins : List (Addr × Obj)} {σ : St} {H : Hp} {s : Shared} {a : Addr} {kvs : List (Key × V)} {A : Around} {E : Value -> Shared -> Prop}
end
section
variable {X : Cx} {pins : List (Addr × Obj)} {σ : St} {H : Hp} {s : Shared} {a : Addr} {y : V} {u : Value} {A : Around} {E : Value -> Shared -> Prop}
end
end L2
namespace Aw
open PySem PySem.W PySem.Calls PyProof.Rows
theorem kx {P:Params} {h:Heap}:∀(ns:List Int) (vs:List Value),WellAll P h vs (ns.map WData.int)->IntsAre vs ns:=by
 intro ns
 induction ns with
 | nil=>
  intro vs w
  rw[List.map_nil] at w
  cases w
  exact .nil
 | cons n ns ih=>
  intro vs w
  rw[Y3] at w
  cases w with
  | cons a b=>
   cases a
   exact .cons _ _ (ih _ b)
theorem wQ {l:OpenLaw} {n:Nat} (hn:l.most=some n) {P:Params} {h:Heap} {args:List WData} {vals:List Value}
  (A8:l.row.toRowW.claim.pre args=true) (Cr:WellAll P h vals args):
  ∃a vs ns,vals=[Value.ref a]/\args=[WData.list (ns.map WData.int)]/\h.get? a=some {cls:=.type "list",data:=.seq vs.toArray}/\IntsAre vs ns/\ns.length<=n:=by
 have fL:WShape.hasAll [] args [.list .int]=true:=(pre_splitW A8).1
 have hc:l.pre.holds [] {args:=args}=true:=(pre_splitW A8).2
 obtain⟨d,r,rfl,h1,h2⟩:=hasAllW_cons fL
 obtain rfl:=hasAllW_nil h2
 obtain⟨xs,rfl,h3⟩:=hasW_list h1
 obtain⟨ns,rfl⟩:=items_int h3
 have hlen:ns.length<=n:=by
  unfold OpenLaw.pre at hc
  have h4:(WTm.not (.lt (.lit (.int (n:Int))) (.len (.arg 0)))).holds [] {args:=[.list (ns.map .int)]}=true:=by
   have h4:=(holds_andW hc).1
   rw[hn] at h4
   exact h4
  have h5:=condW_of h4 (w_not (w_lt w_lit (w_len_list (w_arg rfl))))
  rw[YL] at h5
  refine Nat.le_of_not_lt λq=>?_
  have q':(n:Int)< ((ns.length:Nat):Int):=by omega
  first
   | (rw[decide_eq_true q'] at h5;exact absurd h5 (by decide))
   | (simp at h5;omega)
 cases Cr with
 | cons w1 w2=>
  cases w2
  cases w1 with
  | list ho wR=>exact⟨_,_,ns,rfl,rfl,ho,kx ns _ wR,hlen⟩
theorem wU (l:OpenLaw) (args:List WData):l.row.toRowW.claim.post args (.bool true) args=true:=
 postW_of (r:=l.row.toRowW) (X:=(true==true))
  (show WShape.has [] (.bool true) .bool=true by first | rfl | decide | simp [WShape.has,WShape.arms,WShape.armsAll])
  (show(WTm.eq .res (.lit (.bool true))).value [] {args:=args,res:=some (.bool true),after:=args}=some (.bool (true==true)) from w_eq_bool (w_res rfl) w_lit) rfl
theorem qZ {l:OpenLaw} {n:Nat} {q:Program} {loose:List Str} {XP:(Str->Option Value)->Heap->Prop} {YP:World->Heap->Prop} {d:DefRec}
  (hn:l.most=some n) (Gg:d.params.defaults=[])
  (call:∀(w:World) (s₀ s₁:Shared) (mg mb:Str->Option Value) (fa:Addr) (o:Obj) (pm cd doc:Value) (a:Addr) (vs:List Value) (ns:List Int),
   Ground q loose [] XP w s₀ mg mb s₁.heap->YP w s₁.heap->
   s₁.heap.get? fa=some o->o.data=.func (docDef d.name d.params d.body d.scope pm cd doc)->s₁.heap.CodeRec cd d.name->mg d.name=some (.ref fa)->
   s₁.heap.get? a=some {cls:=.type "list",data:=.seq vs.toArray}->IntsAre vs ns->ns.length<=n->s₁.gens=#[]->
   codeAny (model l.prog w) callerA (.call (.ref fa) ⟨[.ref a],[]⟩) (λr s'=>r=.ok (.ret (.bool true))/\OldK s₁.heap s'.heap/\s'.os=s₁.os/\AllBare s'.gens) s₁):
  WalkO q loose XP YP l.row.toRowW d [] (λf vs=>PySem.call f vs):=by
 intro w s₀ s₁ mg mb G Y fa o pm cd doc dV kV ho hd qL hD Gh hg args vals as A8 Ta Xz Cr DE
 obtain rfl:dV=.none:=Dflts.none hD Gg
 obtain rfl:kV=.none:=Dflts.noKw hD
 obtain⟨a,vs,ns,rfl,rfl,DF,hints,hlen⟩:=wQ hn A8 Cr
 refine enter_call (codeAny_mono (call w s₀ s₁ mg mb fa o pm cd doc a vs ns G Y ho (fd_plain hd) qL Gh DF hints hlen hg) λr s' hq=>?_)
 obtain⟨rfl,h2,h3,h4⟩:=hq
 exact⟨.inl ⟨.bool true,.bool true,[],rfl,λ_=>rfl,.bool true,wU l _,λ_=>⟨List.Pairwise.nil,λ_ hm=>(nomatch hm)⟩⟩,h2,h3,h4⟩
section
variable {prog : Program} {w : World} {A : Around} {E : Value -> Shared -> Prop} {s : Shared} {K : Frag}
noncomputable def pW (h:Heap):Heap:={h with objs:=#[]}
theorem mv (h:Heap) (b:Addr):(pW h).get? b=none:=by
 cases e:(pW h).get? b with
 | none=>rfl
 | some o=>exact absurd (Heap.lt_size e) (Nat.not_lt_zero _)
noncomputable def ledger (h:Heap) (L d:Addr):List (Addr×Obj):=(List.range h.objs.size).filterMap λa=>if a=L\/a=d then none else (h.get? a).map λo=>(a,o)
set_option tactic.hygienic true in
theorem fi {h:Heap} {L d a:Addr} {o:Obj}:(a,o)∈ledger h L d↔a≠L/\a≠d/\h.get? a=some o:=by
 unfold ledger
 rw[List.mem_filterMap]
 constructor
 ·rintro⟨b,_,e⟩
  split at e
  ·cases e
  ·rename_i hb
   obtain⟨o',ho,e'⟩:=Option.map_eq_some_iff.mp e
   cases e'
   exact⟨λq=>hb (.inl q),λq=>hb (.inr q),ho⟩
 ·rintro⟨n1,n2,ho⟩
  refine⟨a,List.mem_range.mpr (Heap.lt_size ho),?_⟩
  rw[if_neg (show ¬(a=L\/a=d) from λq=>q.elim n1 n2),ho] <;>rfl
theorem DG {h:Heap} {L:Addr} {m:Str->Option Value} (n:h.Ns L m):Fr (pW h) L h m:=
 ⟨n,λb o e=>(by rw[mv] at e;cases e),Y0 _⟩
end
end Aw
namespace L2
open PySem PySem.Spec PyProof.Rows
theorem oX:∀{vs:List Value} {ns:List Int},IntsAre vs ns->aV (ns.map V.int) vs
 | _,_,.nil=>.nil
 | _,_,.cons n t h=>.cons ⟨t,rfl⟩ (oX h)
end L2
namespace L2
open PySem PySem.Spec PyProof.Rows
abbrev XA {K:PySem.W.Frag} {h:Heap} (_:K.In h):PySem.W.Frag:=K
end L2
namespace L2
open PySem PySem.Spec PyProof.Rows
noncomputable def inClass (s:Stmt) (j:Nat):Stmt:=match s with
 | .ClassDef _ _ _ body _ _ _ _ _ _ _=>body.getD j (.Pass ⟨0,0,0,0⟩)
 | _=>.Pass ⟨0,0,0,0⟩
noncomputable def aF (s:Stmt):Arguments:=match s with
 | .FunctionDef _ a _ _ _ _ _ _ _ _=>a
 | _=>{posonlyargs:=[],args:=[],vararg:=none,kwonlyargs:=[],kw_defaults:=[],kwarg:=none,defaults:=[]}
noncomputable def aD (s:Stmt):List Stmt:=match s with
 | .FunctionDef _ _ b _ _ _ _ _ _ _=>b
 | _=>[]
noncomputable def ab (s:Stmt):Scope:=match s with
 | .FunctionDef _ _ _ _ _ _ sc _ _ _=>sc
 | _=>{kind:=.function,names:=[],isGenerator:=false,isCoroutine:=false}
abbrev XB:h8:=λ_ _ _ _ _ _=>False
abbrev E0:XK:=λ_ _ _=>False
structure tM (K:PySem.W.Frag) (x qual:Str) (st:Stmt) (f:Addr) (fd:FuncData):Prop where
 ex:∃(oc:Value) (od:Option Addr) (kV doc pm:Value) (an:Option Addr) (b9 ct:Value) (xC:Array (Option Value)),
  fd=PySem.W.fnOf x qual (aF st) (aD st) (ab st) .none kV doc pm an b9 ct/\K.lookup f=some ⟨oc,od,.func fd,xC⟩/\PySem.W.codeIn K b9 qual=true
 kp:PySem.W.keepIn K (.ref f)=true
section
variable {P : Program} {w : World} {K : PySem.W.Frag} {mg : Str -> Option Value} {base : Heap}
theorem tM.binds {x qual:Str} {st:Stmt} {f:Addr} {fd:FuncData} {ps:List Str} (F:tM K x qual st f fd)
  (h:∀(kV doc pm:Value) (an:Option Addr) (b9 ct:Value) (us:List Value),us.length=ps.length->bindArgs (PySem.W.fnOf x qual (aF st) (aD st) (ab st) .none kV doc pm an b9 ct) ⟨us,[]⟩=pure (ps.zip us)):Binds K fd ps []:=by
 obtain⟨oc,od,kV,doc,pm,an,b9,ct,xC,rfl,lk,qL⟩:=F.ex
 exact .all (h kV doc pm an b9 ct)
theorem aU {x qual:Str} {st:Stmt} {f:Addr} {oc:Value} {od an:Option Addr} {xC:Array (Option Value)} {kV doc pm b9 ct:Value} (l:K.lookup f=some ⟨oc,od,.func (PySem.W.fnOf x qual (aF st) (aD st) (ab st) .none kV doc pm an b9 ct),xC⟩)
  (c:PySem.W.codeIn K b9 qual=true) (k:PySem.W.keepIn K (.ref f)=true):tM K x qual st f (PySem.W.fnOf x qual (aF st) (aD st) (ab st) .none kV doc pm an b9 ct):=⟨⟨oc,od,kV,doc,pm,an,b9,ct,xC,rfl,l,c⟩,k⟩
end
theorem oY {A:Around} {k:Nat} (hr:cw k A):A.units+1<cLine:=Nat.lt_of_le_of_lt (Nat.add_le_add_left (by decide:1<=64) _) hr.units
section
variable {X : Cx}
theorem pv (i:Nat) {x:Str} {pos:Pos} (hN:X.N[i]?=some x:=by rfl) (hv:JA X.env.scope x:=by first | exact Or.inl rfl | exact Or.inr (Or.inl rfl) | exact Or.inr (Or.inr rfl)) (hd:(x==("__debug__":Str))=false:=by decide)
  (qL:(x==("__classdict__":Str))=false:=by decide):PE X (.Name x pos) (tVar i):=De hN hv hd qL
end
theorem Gi {A B:Prop} (h:A):if true=true then A else B:=by
 rw[if_pos rfl]
 exact h
theorem q9 {c A B:Prop} [Decidable c] (h1:c->A) (h2:¬c->B):if c then A else B:=by
 by_cases h:c
 ·rw[if_pos h]
  exact h1 h
 ·rw[if_neg h]
  exact h2 h
noncomputable def ar (H H':Hp):Prop:=∀b o,H b=some o->H' b=some o
theorem ar.refl (H:Hp):ar H H:=λ_ _ h=>h
theorem ar.trans {H H1 H2:Hp} (a:ar H H1) (b:ar H1 H2):ar H H2:=λc o h=>b c o (a c o h)
theorem ar.seq {K:PySem.W.Frag} {H H':Hp} {a:Addr} {xs:List V} (e:ar H H') (h:aR K H a xs):aR K H' a xs:=by
 rcases h with (h | ⟨o,h⟩) | h
 ·exact .inl (.inl (e _ _ h))
 ·exact .inl (.inr ⟨o,e _ _ h⟩)
 ·exact .inr h
end L2
namespace L2
open PySem PySem.Spec PyProof.Rows
section
variable {X : Cx}
end
section
variable {κ : Type} [DecidableEq κ]
end
end L2
namespace L2
open PySem PySem.Spec PyProof.Rows
noncomputable def Bt (n:Nat) (i:Int):Prop:=i.natAbs<2^n
theorem Bt.mono {m n:Nat} {i:Int} (h:Bt m i) (q:m<=n):Bt n i:=YY h (Nat.pow_le_pow_right (by decide) q)
theorem Bt.bits {n:Nat} {i:Int} (h:Bt n i):Builtin.Int.intBits i<=n:=PyProof.Rows.intBits_le h
theorem Bt.mul {m n:Nat} {i j:Int} (h1:Bt m i) (h2:Bt n j):Bt (m+n) (i*j):=by
 unfold Bt at *
 rw[ZI,Nat.pow_add]
 exact Nat.mul_lt_mul_of_lt_of_lt h1 h2
theorem Bt.add {n:Nat} {i j:Int} (h1:Bt n i) (h2:Bt n j):Bt (n+1) (i+j):=by
 unfold Bt at *
 rw[Nat.pow_succ]
 generalize 2^n=p at *
 omega
theorem Bt.le {n:Nat} {i j:Int} (h:Bt n j) (q:i.natAbs<=j.natAbs):Bt n i:=Nat.lt_of_le_of_lt q h
theorem Bt.of {n:Nat} {i:Int} (b:Nat) (h1:-(b:Int)<=i) (h2:i<=(b:Int)) (h:b<2^n:=by decide +kernel):Bt n i:=by
 unfold Bt
 exact Nat.lt_of_le_of_lt (by omega) h
theorem Bt.log {n:Nat} {i:Int} (h:Bt n i) (q:n<=9000:=by decide):i.natAbs.log2<9000:=by
 by_cases z:i.natAbs=0
 ·rw[z];decide
 ·exact YY ((Nat.log2_lt z).mpr h) q
theorem Bt.cV {m n:Nat} {i j:Int} (h1:Bt m i) (h2:Bt n j) (q:m+n<=134217728:=by decide):IntMulOk i j:=mulOk_of_bits h1.bits h2.bits q
theorem gp {i j:Int} (h1:-(2^64)<i:=by decide) (h2:i<2^64:=by decide):IntMulOk i j:=.of_left (intBits_le_64 h1 h2)
theorem pX {i j:Int} (h1:-(2^64)<j:=by decide) (h2:j<2^64:=by decide):IntMulOk i j:=.of_right (intBits_le_64 h1 h2)
section
variable {X : Cx}
theorem aY:jv X (binaryOp .Mult) (rI IntMulOk λi j=>.int (i*j)):=FW λ_ _ _ _ _ _ _ hc q=>mul_int q hc
noncomputable def eF (_ j:Int):Prop:=0<j/\j.natAbs.log2<9000
theorem eF.of {i j:Int} {n:Nat} (h:0<j) (b:Bt n j) (q:n<=9000:=by decide):eF i j:=⟨h,b.log q⟩
theorem eF.lit {i j:Int} (h:0<j:=by decide) (q:j.natAbs.log2<9000:=by decide):eF i j:=⟨h,q⟩
theorem di:jv X (binaryOp .FloorDiv) (rI eF λi j=>.int (i / j)):=FW λi j _ _ _ _ _ hc q=>by
 have h1:(0:Int)<j:=hc.1
 exact floordiv_int (by omega) (by rw[Int.fdiv_eq_ediv_of_nonneg i (by omega)];exact q) (.inl (PyProof.noPylong_of_log2 hc.2))
noncomputable def Gj (_ j:Int):Prop:=j≠0/\j.natAbs.log2<9000
theorem yh:jv X (binaryOp .FloorDiv) (rI Gj λi j=>.int (i.fdiv j)):=FW λ_ _ _ _ _ _ _ hc q=>floordiv_int hc.1 q (.inl (PyProof.noPylong_of_log2 hc.2))
theorem cq:jv X (binaryOp .Mod) (rI (λ_ j=>0<j) λi j=>.int (i % j)):=Ds
noncomputable def rIxTH:R2:=λx y H Q=>∃p xs i v,x=.ref p/\y=.int i/\H p=some (.tup xs)/\fK xs i=some v/\Q v H
theorem aJ:Co X rIxTH:=λvalue slice pins s σ H x y v u Q I rx ry ⟨p,xs,i,z,e1,e2,e3,e4,q⟩ hs=>
 Dw value slice pins s σ H x y v u Q I rx ry ⟨p,xs,i,z,e1,e2,dH.of e3,e4,q⟩ hs
noncomputable def rIxLH:R2:=λx y H Q=>∃p xs i v,x=.ref p/\y=.int i/\H p=some (.lst xs)/\fK xs i=some v/\Q v H
theorem aE:Co X rIxLH:=λvalue slice pins s σ H x y v u Q I rx ry ⟨p,xs,i,z,e1,e2,e3,e4,q⟩ hs=>
 vb value slice pins s σ H x y v u Q I rx ry ⟨p,xs,i,z,e1,e2,aR.of e3,e4,q⟩ hs
noncomputable def tTupS (t:TA):TE:=λσ H Q=>t σ H λxs H1=>xs.length<=sizeLine/\∀p H2,ar H1 H2->H1 p=none->H2 p=some (.tup xs)->Q (.ref p) H2
theorem ah {H:Hp} {p:Addr} {o:HO} (h:H p=none):ar H (upd H p o):=λb u e=>by
 rw[ax (ba e h)]
 exact e
theorem bU {es:List Expr} {t:TA} {x1} {pos:Pos} (h:PA X es t):PE X (.Tuple es x1 pos) (tTupS t):=λpins s σ H Q I hq=>
 bR (h:=wpAny_Tuple_spliced (bR (h pos pins s σ H _ I hq) λus s1 ⟨xs,H1,I1,r,z,q⟩=>⟨by rw[<-r.length];exact z,by
  have hf:H1 s1.heap.objs.size=none:=I1.bE.fresh (YO _)
  refine⟨.ref s1.heap.objs.size,upd H1 s1.heap.objs.size (.tup xs),I1.laid (t':=s1.toks) (λb u e=>Heap.get?_push_of_some _ e) (YO _) ?_,rfl,q _ _ (ah hf) hf ag⟩
  exact⟨z,us,r,⟨_,Heap.get?_push_size _ rfl,rfl,_,rfl⟩⟩⟩)) λ_ _ z=>z
theorem wV:bY X (.builtin "len") (λxs H Q=>∃p ys,xs=[.ref p]/\H p=some (.tup ys)/\Q (.int ys.length) H):=λpins s σ H xs us Q I r ⟨p,ys,e,h,q⟩=>
 fh pins s σ H xs us Q I r ⟨p,ys,e,.inr (dH.of h),q⟩
theorem bp:bY X (.builtin "len") (λxs H Q=>∃p ys,xs=[.ref p]/\H p=some (.lst ys)/\Q (.int ys.length) H):=λpins s σ H xs us Q I r ⟨p,ys,e,h,q⟩=>
 fh pins s σ H xs us Q I r ⟨p,ys,e,.inl (aR.of h),q⟩
theorem wW:bY X (.builtin "len") (λxs H Q=>∃p ns,xs=[.ref p]/\aR X.K H p (List.map V.int ns)/\Q (.int (List.length ns:Nat)) H):=λpins s σ H xs us Q I r ⟨p,ns,e,h,q⟩=>
 fh pins s σ H xs us Q I r ⟨p,_,e,.inl h,by rw[YL];exact q⟩
noncomputable def DH (K:PySem.W.Frag):R2:=λx y H Q=>∃p ns i,x=.ref p/\y=.int i/\aR K H p (List.map V.int ns)/\0<=i/\i< (List.length ns:Nat)/\Q (.int (ns.getD i.toNat 0)) H
theorem dS {ns:List Int} {i:Int} (h0:0<=i) (h1:i< (ns.length:Nat)):fK (ns.map V.int) i=some (.int (ns.getD i.toNat 0)):=by
 obtain⟨j,rfl⟩:=ZA h0
 refine bx ?_
 have hj:j<ns.length:=by omega
 rw[YQ,YM hj]
 simp [YV,YM hj]
theorem yi:Co X (DH X.K):=λvalue slice pins s σ H x y v u Q I rx ry ⟨p,ns,i,e1,e2,e3,h0,h1,q⟩ hs=>
 vb value slice pins s σ H x y v u Q I rx ry ⟨p,_,i,_,e1,e2,e3,dS h0 h1,q⟩ hs
structure bN (P:Program) (w:World) (K:PySem.W.Frag) (mg:Str->Option Value) (base:Heap) (CX:h8) (k:Nat) (x:Str) (ps:List Str) (sp:Sp):Prop where
 ex:∃f fd,dI P w K mg base CX k f fd ps sp/\mg x=some (.ref f)/\PySem.W.keepIn K (.ref f)=true/\Binds K fd ps []
theorem aB {CX:h8} {k:Nat} {x:Str} {ps:List Str} {sp:Sp} {E:XK} {e:Expr} {es:List Expr} {t:TA} {p pos:Pos} (C:bN X.prog X.w X.K X.mg X.base CX k x ps sp) (hr:cw k X.A) (hg:Gl X x) (hx:dR CX X E) (ha:PA X (e::es) t)
  (x6:(x==("__debug__":Str))=false:=by decide) (he:starEach (e::es) X.env=(false,eval e X.env)::starEach es X.env:=by rfl) (hpl:(backTo pos (starEach es X.env)).any (·.1)=false:=by rfl):
  PE X (.Call (.Name x p) (e::es) [] pos) (tCall sp [] E t):=by
 obtain⟨f,fd,F,hm,hk,hb⟩:=C.ex
 exact AU F hr hg hm hk hb .nil hx ha x6 he hpl
end
noncomputable def pY (CX:h8):Prop:=∀outer H s e s',¬CX outer H s (λ_ _ _=>False) e s'
theorem pY.pass {CX:h8} (h:pY CX) {X:Cx}:dR CX X E0:=λ_ _ H s e s' _ z=>(h _ H s e s' z).elim
section
variable {P : Program} {w : World} {K : PySem.W.Frag} {mg : Str -> Option Value} {base : Heap} {CX : h8}
theorem tM.d4 {x qual:Str} {st:Stmt} {f:Addr} {fd:FuncData} {N ps:List Str} {k:Nat} {sp:Sp} (F:tM K x qual st f fd) (S:aI N ps (ab st)) (len:∀vs H Q E,sp vs H Q E->vs.length=ps.length)
  (qT:∀(b9:Value) (A:Around) (outer:List Env) (s:Shared) (H:Hp) (vs:List V) (Q:VK) (E:XK),cw k (A.deeper (envOfC qual (ab st) s.heap.objs.size f b9))->sp vs H Q E->
   ∃t,tQ (uc CX P w K mg base N qual (ab st) f b9 A outer s H E).Fk (aD st) t/\t {nx:=λ_ H'=>Q .bV H',rt:=Q} (start N vs) H):dI P w K mg base CX (k+1) f fd ps sp:=by
 obtain⟨oc,od,kV,doc,pm,an,b9,ct,xC,rfl,lk,qL⟩:=F.ex
 refine Cn lk qL S len λA outer s H vs Q E hr Au=>?_
 obtain⟨t,h,q⟩:=qT b9 A outer s H vs Q E hr Au
 exact⟨t,h.Fk,q⟩
structure Dn (K:PySem.W.Frag) (mg:Str->Option Value) (x:Str) (st:Stmt):Prop where
 ex:∃f fd,tM K x x st f fd/\mg x=some (.ref f)
theorem Dn.dZ {x:Str} {st:Stmt} {ps:List Str} {k:Nat} {sp:Sp} (D:Dn K mg x st)
  (hb:∀(kV doc pm:Value) (an:Option Addr) (b9 ct:Value) (us:List Value),us.length=ps.length->bindArgs (PySem.W.fnOf x x (aF st) (aD st) (ab st) .none kV doc pm an b9 ct) ⟨us,[]⟩=pure (ps.zip us))
  (h:∀f fd,tM K x x st f fd->dI P w K mg base CX k f fd ps sp):bN P w K mg base CX k x ps sp:=by
 obtain⟨f,fd,F,hm⟩:=D.ex
 exact⟨f,fd,h f fd F,hm,F.kp,F.binds hb⟩
end
section
variable {X : Cx}
noncomputable def IQ (xs ys:List V):Bool:=(List.range (min xs.length ys.length)).all (λj=>wL (xs.getD j .bV) (ys.getD j .bV)) && xs.length==ys.length
theorem vd {xs:List V} (h:xs.all dE=true) {j:Nat} (hj:j<xs.length):dE (xs.getD j .bV)=true:=by
 rw[YV,YM hj]
 exact List.all_eq_true.mp h _ (Zc hj)
theorem yj {xs:List V} {us:List Value} (r:aV xs us) {j:Nat} (hj:j<us.length):RelV (xs.getD j .bV) us[j]:=by
 have hl:=r.length
 have hx:j<xs.length:=by omega
 obtain⟨u,e1,e2⟩:=r.get (YM hx)
 rw[YM hj] at e1
 cases e1
 rw[YV,YM hx]
 exact e2
noncomputable def rEqT:R2:=λx y H Q=>∃p q xs ys,x=.ref p/\y=.ref q/\H p=some (.tup xs)/\H q=some (.tup ys)/\xs.all dE=true/\ys.all dE=true/\Q (.bl (IQ xs ys)) H
theorem wX (hu:X.A.units<cLine):jv X (compareOp .Eq) rEqT:=by
 intro pins s σ H x y v u Q I rx ry h
 obtain⟨p,q,xs,ys,rfl,rfl,hp,hq,fx,fy,k⟩:=h
 cases rx
 cases ry
 obtain⟨aN,r,pl,hz⟩:=I.tuple (dH.of hp)
 obtain⟨mf,r2,Rk,XC⟩:=I.tuple (dH.of hq)
 have l1:=r.length
 have l2:=r2.length
 refine SeqAt.eq_tupleAt (e:=λj=>wL (xs.getD j .bV) (ys.getD j .bV)) pl Rk hu (λj h1 h2=>?_) ⟨.bl _,H,I,rfl,?_⟩
 ·rw[YR] at h1 h2
  exact ya (yj r h1) (yj r2 h2) (vd fx (by omega)) (vd fy (by omega))
 ·rw[YR,YR,<-l1,<-l2]
  exact k
noncomputable def rInT:R2:=λx y H Q=>∃p xs,y=.ref p/\H p=some (.tup xs)/\dE x=true/\xs.all dE=true/\Q (.bl (F8 x xs)) H
theorem yk:bY X (.builtin "isinstance") (λxs H Q=>∃x c t b,xs=[x,.ty c]/\fX X.K H x t/\PySem.W.kitOne X.K t (.type c)=some b/\Q (.bl b) H):=by
 intro pins s σ H xs us Q I r h
 obtain⟨x,c,t,b,rfl,ty,e,q⟩:=h
 obtain⟨u,u',rfl,rx,rc⟩:=vals2 r
 cases rc
 exact wI I rx ty e λtk=>⟨.bl b,H,I.tok tk,rfl,q⟩
end
theorem at0 {α:Type} {x:α} {l:List α}:fK (x::l) 0=some x:=bx (j:=0) rfl
theorem at1 {α:Type} {x y:α} {l:List α}:fK (x::y::l) 1=some y:=bx (j:=1) rfl
theorem at2 {α:Type} {x y z:α} {l:List α}:fK (x::y::z::l) 2=some z:=bx (j:=2) rfl
noncomputable def Pr (a b:Int):List V:=[.int a,.int b]
theorem DI {K:PySem.W.Frag}:PySem.W.kitOne K (.type "int") (.type "int")=some true:=by unfold PySem.W.kitOne;rw[if_pos (by decide +kernel)]
theorem DJ {K:PySem.W.Frag}:PySem.W.kitOne K (.type "tuple") (.type "tuple")=some true:=by unfold PySem.W.kitOne;rw[if_pos (by decide +kernel)]
theorem DK {K:PySem.W.Frag}:PySem.W.kitOne K (.type "list") (.type "list")=some true:=by unfold PySem.W.kitOne;rw[if_pos (by decide +kernel)]
theorem A9 {K:PySem.W.Frag} {t c:String} {b:Bool} (h1:(Value.type t==Value.type c)=false:=by decide +kernel) (h2:PySem.W.kitMeta c=true:=by decide +kernel) (h3:(PySem.fastBuiltinMro t).map (·.contains (Value.type c))=some b:=by decide +kernel):
  PySem.W.kitOne K (.type t) (.type c)=some b:=by
 unfold PySem.W.kitOne PySem.W.kitCls PySem.W.subIn
 rw[if_neg (by rw[h1];decide)]
 dsimp only
 rw[if_pos h2]
 exact h3
theorem DL {K:PySem.W.Frag}:PySem.W.kitOne K (.type "int") (.type "bool")=some false:=A9
theorem DM (a b c d:Int):IQ [.int a,.int b] [.int c,.int d]=(a==c && b==d):=by
 show(([0,1]:List Nat).all (λj=>wL (([.int a,.int b]:List V).getD j .bV) (([.int c,.int d]:List V).getD j .bV)) && true)=_
 simp [wL]
theorem yl (a b:Int):IQ [.int a,.int b] [.int a,.int b]=true:=by
 rw[DM]
 simp
end L2
namespace Nm
noncomputable def g (a b:Int):Int:=(Int.gcd a b:Nat)
theorem DN (a b:Int):0<=g a b:=Int.natCast_nonneg _
theorem mw {a b:Int} (h:b≠0):0<g a b:=by
 have:=Int.gcd_pos_of_ne_zero_right a h
 unfold g
 omega
theorem iT (a b:Int):g a b∣a:=Int.gcd_dvd_left ..
theorem d5 (a b:Int):g a b∣b:=Int.gcd_dvd_right ..
theorem pZ (a b:Int):g a b=g b a:=by unfold g;rw[Int.gcd_comm]
theorem DO {a b:Int} (h:0<b):g a b<=b:=ZE h (d5 a b)
theorem yn (a b:Int):g (a.natAbs:Int) b=g a b:=by
 unfold g Int.gcd
 rw[Int.natAbs_natCast]
theorem vf (a b:Int):g a (b.natAbs:Int)=g a b:=by
 rw[pZ,yn,pZ]
theorem Cs (a b:Int):g (-a) b=g a b:=by
 unfold g Int.gcd
 rw[Int.natAbs_neg]
theorem yo {a b:Int} (ha:0<=a) (XD:0<b):g b (a % b)=g a b:=by
 unfold g Int.gcd
 rw[Int.natAbs_emod_of_nonneg ha,Nat.gcd_comm b.natAbs,<-Nat.gcd_rec,Nat.gcd_comm]
theorem yp {a:Int} (ha:0<=a):g a 0=a:=by
 unfold g
 rw[Int.gcd_zero_right]
 omega
theorem yq {a b:Int} (h:b≠0):g a b<=(b.natAbs:Int):=by
 rw[<-vf]
 exact DO (by omega)
theorem Ba {a b:Int} (h:b≠0):g (a / g a b) (b / g a b)=1:=by
 have p:0<Int.gcd a b:=Int.gcd_pos_of_ne_zero_right a h
 unfold g
 rw[Int.gcd_ediv_gcd_ediv_gcd p]
 rfl
theorem Bb {a b:Int} (h:0<b):0<b / g a b:=Int.ediv_pos_of_pos_of_dvd h (DN a b) (d5 a b)
theorem wY (a b:Int):(a / g a b)*b=a* (b / g a b):=by
 rw[<-Int.mul_ediv_assoc _ (d5 a b),Zr a b,Int.mul_ediv_assoc _ (iT a b),Zr]
theorem lC {q a b:Int} (h:q∣a*b) (c:Int.gcd a q=1):q∣b:=by
 have h1:=(Int.dvd_gcd_mul_iff_dvd_mul (k:=q) (n:=a) (m:=b)).mpr h
 rw[Int.gcd_comm,c] at h1
 simpa using h1
theorem Bc {p q p' q':Int} (h:0<q) (h':0<q') (e:g p q=1) (e':g p' q'=1) (c:p*q'=p'*q):p=p'/\q=q':=by
 have c1:Int.gcd p q=1:=by unfold g at e;omega
 have c2:Int.gcd p' q'=1:=by unfold g at e';omega
 have d1:q∣q':=by
  have:q∣p*q':=⟨p',by rw[c,Zr]⟩
  exact lC this c1
 have d2:q'∣q:=by
  have:q'∣p'*q:=⟨p,by rw[<-c,Zr]⟩
  exact lC this c2
 have eq:q=q':=by
  have:=ZE h' d1
  have:=ZE h d2
  omega
 subst eq
 exact⟨Int.eq_of_mul_eq_mul_right (by omega) c,rfl⟩
theorem dj {a g:Int} (_h:0<g) (d:g∣a):(a / g).natAbs<=a.natAbs:=by
 rw[Int.natAbs_ediv_of_dvd d]
 exact Nat.div_le_self _ _
theorem back {a b c d p q x y:Int} (hq:0<q) (hd:0<d) (e:p* (b*d)=(a*d - c*b)*q) (f:x* (q*d)=(p*d+c*q)*y):x*b=a*y:=by
 have h:(x*b)* (q*d)=(a*y)* (q*d):=by grind
 exact Int.eq_of_mul_eq_mul_right (by have:=Y9 hq hd;omega) h
end Nm
namespace L2
open PySem PySem.Spec PyProof.Rows PySem.W
theorem bQ.get {P:Program} {w:World} {H:Hp} {h:Heap} {a:Addr}:∀{o:HO},bQ P w H h a o->∃ob,h.get? a=some ob
 | .lst _,x=>let ⟨_,_,_,_,e⟩:=x;⟨_,e⟩
 | .tup _,x=>let ⟨_,_,_,o,e,_⟩:=x;⟨o,e⟩
 | .dK _,x=>let ⟨_,_,_,_,o,_,_,e,_⟩:=x;⟨o,e⟩
 | .dT _,x=>let ⟨_,_,_,_,o,_,_,e,_⟩:=x;⟨o,e⟩
 | .set _ _,x=>by
  obtain⟨o,es,ep,t,e,_⟩:=x
  exact⟨o,e⟩
 | .ins _ _ _,x=>let ⟨_,_,_,e,_⟩:=x;⟨_,e⟩
 | .own _,x=>x
 | .xd _,x=>by
  obtain⟨mA,⟨o,es,ep,e,_⟩,_⟩:=x
  exact⟨o,e⟩
 | .nW _ _,x=>let ⟨_,_,_,e⟩:=x;⟨_,e⟩
 | .qF _ _,x=>⟨_,x.1⟩
 | .pJ _,⟨_,x,_⟩=>⟨_,x⟩
 | .met _ _,x=>⟨_,x⟩
 | .ext _,x=>x.2.1
structure Tb (P:Program) (w:World) (l:List Env) (H:Hp) (s:Shared) (H':Hp) (ad:Addr) (cls:Value) (s':Shared):Prop where
 os:s'.os=s.os
 bare:AllBare s'.gens
 un:Un (qJ l) [] H H' s.heap s'.heap
 bE:gf P w H' s'.heap
 fl:∃B a0,Heap.FlyingW B l ad cls a0 s'.heap/\(∀b o,s.heap.get? b=some o->H b=none->b∉qJ l->B.get? b=some o)/\(∀b o,s.heap.get? b=some o->b∉qJ l->∃o',B.get? b=some o')/\
  (∀b u o,H' b=some u->s'.heap.get? b=some o->B.get? b=some o)
noncomputable def bC (P:Program) (w:World):h8:=λl H s E e s'=>∃ad cls H',e=.ref ad/\Tb P w l H s H' ad cls s'/\E cls none H'
theorem vg (P:Program) (w:World):pY (bC P w):=λ_ _ _ _ _ ⟨_,_,_,_,_,h⟩=>h
section
variable {P : Program} {w : World} {K : PySem.W.Frag} {mg : Str -> Option Value} {base : Heap} {N : List Str} {qual : Str} {scope : Scope} {f : Addr} {b9 : Value} {A : Around} {outer : List Env} {s0 : Shared} {H0 : Hp} {E : XK}
end
end L2
namespace L2
open PySem PySem.Spec PyProof.Rows PySem.W
abbrev Tc:List Value:=[.type "ValueError",.type "Exception",.type "BaseException",.type "object"]
abbrev Rl:String:="ValueError.__new__"
noncomputable def tRaise (C:Addr) (E:XK) (t:TA):TS:=λ_ σ H=>t σ H λvs H1=>vs.length<=sizeLine/\E (.ref C) none H1
section
variable {P : Program} {w : World} {K : PySem.W.Frag} {mg : Str -> Option Value} {base : Heap} {N : List Str} {qual : Str} {scope : Scope} {f : Addr} {b9 : Value} {A : Around} {outer : List Env} {s0 : Shared} {H0 : Hp} {E : XK}
end
section
variable {X : Cx} {pins : List (Addr × Obj)} {σ : St} {H H' : Hp} {s s' : Shared}
abbrev Cx.mark (X:Cx) (ad:Addr):Cx:={X with A:=X.A.mark (some (.ref ad)),calm:=false,xe:=λ_ _=>False}
end
section
variable {X : Cx} {CX : h8} {k : Nat} {x : Str} {ps : List Str} {sp : Sp} {E : XK} {e : Expr} {es : List Expr} {t : TA} {p pos : Pos}
variable {cx n : Str} {np yr yt fW : Pos} {b₀ : Stmt} {rh : List Stmt} {i : Nat} {ts : TS} {C2 : Addr}
end
end L2
namespace Nm
noncomputable def st (a b:Int):Int:=if b<0 then -(a / g a b) else a / g a b
noncomputable def sb (a b:Int):Int:=if b<0 then -(b / g a b) else b / g a b
set_option tactic.hygienic true in
theorem DP {a b:Int} (h:b≠0):0<sb a b:=by
 have g0:=mw (a:=a) h
 unfold sb
 split
 ·rename_i hb
  have h1:0< (-b) / g a b:=Int.ediv_pos_of_pos_of_dvd (by omega) (DN a b) (Int.dvd_neg.mpr (d5 a b))
  rw[Int.neg_ediv_of_dvd (d5 a b)] at h1
  exact h1
 ·exact Bb (by omega)
theorem Be (a b:Int):g a (-b)=g a b:=by rw[pZ,Cs,pZ]
theorem DQ {a b:Int} (h:b≠0):g (st a b) (sb a b)=1:=by
 have e:=Ba (a:=a) h
 unfold st sb
 split
 ·rw[Cs,Be];exact e
 ·exact e
theorem mz (a b:Int):st a b*b=a*sb a b:=by
 have e:=wY a b
 unfold st sb
 split
 ·rw[Int.neg_mul,e,Int.mul_neg]
 ·exact e
theorem ie {a b:Int} (h:0<b):st a b=a / g a b/\sb a b=b / g a b:=by
 unfold st sb
 rw[if_neg (by omega),if_neg (by omega)]
 exact⟨rfl,rfl⟩
end Nm
namespace L2
open PySem PySem.Spec PyProof.Rows
section
variable {P : Program} {w : World} {K : PySem.W.Frag} {mg : Str -> Option Value} {base : Heap} {CX : h8}
end
noncomputable def noStar:Expr->Bool
 | .Starred _ _=>false
 | _=>true
theorem se {e:Expr} {es:List Expr} {env:Env} (h:noStar e=true):starEach (e::es) env=(false,eval e env)::starEach es env:=by
 cases e <;>first | rfl | exact absurd h YZ
theorem na {env:Env} {pos:Pos}:∀{es:List Expr},es.all noStar=true->(backTo pos (starEach es env)).any (·.1)=false
 | [],_=>rfl
 | e::es,h=>by
  rw[List.all_cons,Zi] at h
  rw[se h.1]
  show(false || (backTo pos (starEach es env)).any (·.1))=false
  rw[na h.2]
  rfl
end L2
namespace L2
open PySem PySem.Spec PyProof.Rows PySem.W
structure JY (K:PySem.W.Frag) (C:Addr):Prop where
 cls:(clsIn K C).isSome=true
 ga:findIn K (.ref C) "__getattribute__"=some (some (.builtin "BaseException.__getattribute__"))
 gt:findIn K (.ref C) "__getattr__"=some none
 cl:findIn K (.ref C) "__class__"=some (some (.builtin "object.__class__"))
 be:mroIn K C (.type "BaseException")=some true
 ob:mroIn K C (.type "object")=some true
section
variable {prog : Program} {w : World} {A : Around} {E : Value -> Shared -> Prop} {K : PySem.W.Frag} {h : Heap} {g : Array GenState} {d : Drawn} {t : Nat} {os : OsState} {a C : Addr} {o : Obj}
end
section
variable {X : Cx}
end
end L2
namespace L2
open PySem PySem.Spec PyProof.Rows
theorem ik {env:Env}:∀(names:List (Str×NameKind)) (cs:List (Str×Addr)),(∀n,(n,NameKind.free)∈names->∃c,env.cells.lookup n=some c)->(∀x c,cs.lookup x=some c->env.cells.lookup x=some c)->
  ∃cl,(forIn names cs fun(x:Str×NameKind) (r:List (Str×Addr))=>(if (x.2==NameKind.free)=true then do let c <-cellOf env x.1;pure (ForInStep.yield ((x.1,c)::r)) else pure (ForInStep.yield r):Sem (ForInStep (List (Str×Addr)))))=pure cl/\
   (∀x c,cl.lookup x=some c->env.cells.lookup x=some c)/\(∀n,((n,NameKind.free)∈names\/(cs.lookup n).isSome=true)->∃c,cl.lookup n=some c)/\(∀x c,(x,c)∈cl->(env.cells.lookup x=some c/\(x,NameKind.free)∈names)\/(x,c)∈cs)
 | [],cs,_,h=>⟨cs,rfl,h,(λn hn=>by
   rcases hn with hn | hn
   ·exact absurd hn (by simp)
   ·exact Option.isSome_iff_exists.mp hn),λx c m=>.inr m⟩
 | (n,k)::r,cs,hf,h=>by
  by_cases hk:k=.free
  ·subst hk
   obtain⟨c,hc⟩:=hf n YW
   obtain⟨cl,e,h1,h2,h3⟩:=ik r ((n,c)::cs) (λm hm=>hf m (YU _ hm)) (λx c' hx=>by
    rw[Zh] at hx
    cases q:x==n with
    | true=>
     rw[q] at hx
     have e1:x=n:=by simpa using q
     cases hx
     rw[e1];exact hc
    | false=>rw[q] at hx;exact h x c' hx)
   refine⟨cl,?_,h1,λm hm=>h2 m ?_,λx c' m=>?_⟩
   rotate_left 2
   ·rcases h3 x c' m with ⟨q1,q2⟩ | m
    ·exact .inl ⟨q1,YU _ q2⟩
    ·rcases List.mem_cons.mp m with e | m
     ·cases e
      exact .inl ⟨hc,YW⟩
     ·exact .inr m
   ·rw[List.forIn_cons]
    have IS:cellOf env n=pure c:=by unfold cellOf;rw[hc]
    simp only[beq_self_eq_true,if_true,IS,pure_bind]
    exact e
   ·rcases hm with hm | hm
    ·rcases List.mem_cons.mp hm with z | z
     ·cases z
      right
      rw[Zh]
      simp
     ·exact .inl z
    ·right
     rw[Zh]
     cases q:m==n with
     | true=>rfl
     | false=>exact hm
  ·obtain⟨cl,e,h1,h2,h3⟩:=ik r cs (λm hm=>hf m (YU _ hm)) h
   refine⟨cl,?_,h1,λm hm=>h2 m ?_,λx c' m=>(h3 x c' m).imp (λq=>⟨q.1,YU _ q.2⟩) id⟩
   ·rw[List.forIn_cons]
    have:(k==NameKind.free)=false:=by simpa using hk
    simp only[this,Zs,if_false,pure_bind]
    exact e
   ·rcases hm with hm | hm
    ·rcases List.mem_cons.mp hm with z | z
     ·cases z;exact absurd rfl hk
     ·exact .inl z
    ·exact .inr hm
theorem eA {env:Env} {scope:Scope} (hf:∀n,(n,NameKind.free)∈scope.names->∃c,env.cells.lookup n=some c):
  ∃cl,closureFor scope env=pure cl/\(∀x c,cl.lookup x=some c->env.cells.lookup x=some c)/\(∀n,(n,NameKind.free)∈scope.names->∃c,cl.lookup n=some c)/\(∀x c,(x,c)∈cl->env.cells.lookup x=some c/\(x,NameKind.free)∈scope.names):=by
 obtain⟨cl,e,h1,h2,h3⟩:=ik (env:=env) scope.names [] hf (λx c h=>by simp at h)
 refine⟨cl,?_,h1,λn hn=>h2 n (.inl hn),λx c m=>(h3 x c m).elim id λz=>absurd z (by simp)⟩
 unfold closureFor
 simp only[bind_pure]
 exact e
structure dQ (N:List Str) (so:Scope) (N':List Str) (scope:Scope) (k:Nat) (fr:List Nat):Prop where
 kind:scope.kind=.function
 DR:∀y∈scope.names,y.2=.cell->scope.names.lookup y.1=some .cell/\(y.1,NameKind.free)∉scope.names
 locs:∀y∈scope.names,y.2=.local->scope.names.lookup y.1=some .local
 outer:∀y∈scope.names,y.2=.free->(so.names.lookup y.1=some .cell\/so.names.lookup y.1=some .free)
 len:N'.length=k+fr.length
 at_:∀t,t<fr.length->(fr[t]?).bind (λj=>N[j]?)=N'[k+t]?
 JZ:∀x∈N'.drop k,scope.names.lookup x=some .free
noncomputable def stC (k:Nat) (fr:List Nat) (σ:St):St:=List.replicate k none++fr.map λj=>(σ[j]?).join
noncomputable def kA (X:Cx) (N:List Str) (scope:Scope) (cl:List (Str×Addr)) (C:Addr) (s:Shared) (H:Hp) (ex:List Addr):Cx where
 prog:=X.prog
 w:=X.w
 K:=X.K
 mg:=X.mg
 base:=X.base
 A:=X.A
 N:=N
 s₀:=s
 H₀:=H
 env:=compEnvC scope cl C X.env
 outer:=X.stack
 stack:=X.stack
 ex:=ex
 calm:=X.calm
 fn:=λx=>scope.names.lookup x==some .cell
 pn:=[]
 xe:=λ_ _=>False
theorem dF {env:Env}:∀{names:List (Str×NameKind)} {x:Str},names.lookup x=some .free->
  (names.map fun(n,k)=>if (k==NameKind.free && env.scope.kind==.function && env.kindOf n==some .cell) then (n,NameKind.cell) else (n,k)).lookup x=some .cell\/
  (names.map fun(n,k)=>if (k==NameKind.free && env.scope.kind==.function && env.kindOf n==some .cell) then (n,NameKind.cell) else (n,k)).lookup x=some .free
 | [],_,h=>by simp at h
 | (n,k)::r,x,h=>by
  have ih:=@dF env r x
  show List.lookup x ((if (k==NameKind.free && env.scope.kind==.function && env.kindOf n==some .cell)=true then (n,NameKind.cell) else (n,k))::_)=_\/List.lookup x ((if (k==NameKind.free && env.scope.kind==.function && env.kindOf n==some .cell)=true then (n,NameKind.cell) else (n,k))::_)=_
  cases hx:x==n with
  | true=>
   simp only[Zh,hx] at h
   cases h
   by_cases hc:(NameKind.free==NameKind.free && env.scope.kind==.function && env.kindOf n==some .cell)=true
   ·rw[if_pos hc];left;simp [Zh,hx]
   ·rw[if_neg hc];right;simp [Zh,hx]
  | false=>
   simp only[Zh,hx] at h
   by_cases hc:(k==NameKind.free && env.scope.kind==.function && env.kindOf n==some .cell)=true
   ·rw[if_pos hc];simp only[Zh,hx];exact ih h
   ·rw[if_neg hc];simp only[Zh,hx];exact ih h
theorem iU {env:Env}:∀{names:List (Str×NameKind)} {x:Str},
  ((names.map fun(n,k)=>if (k==NameKind.free && env.scope.kind==.function && env.kindOf n==some .cell) then (n,NameKind.cell) else (n,k)).lookup x=some .cell\/
  (names.map fun(n,k)=>if (k==NameKind.free && env.scope.kind==.function && env.kindOf n==some .cell) then (n,NameKind.cell) else (n,k)).lookup x=some .free)->(x,NameKind.free)∈names\/(x,NameKind.cell)∈names
 | [],_,h=>by simp at h
 | (n,k)::r,x,h=>by
  have ih:=@iU env r x
  have up:((x,NameKind.free)∈r\/(x,NameKind.cell)∈r)->((x,NameKind.free)∈(n,k)::r\/(x,NameKind.cell)∈(n,k)::r):=λz=>z.imp (YU _) (YU _)
  have h:List.lookup x ((if (k==NameKind.free && env.scope.kind==.function && env.kindOf n==some .cell)=true then (n,NameKind.cell) else (n,k))::_)=_\/List.lookup x ((if (k==NameKind.free && env.scope.kind==.function && env.kindOf n==some .cell)=true then (n,NameKind.cell) else (n,k))::_)=_:=h
  cases hx:x==n with
  | true=>
   have e1:x=n:=by simpa using hx
   subst e1
   by_cases hc:(k==NameKind.free && env.scope.kind==.function && env.kindOf x==some .cell)=true
   ·have:k=.free:=by
     simp only[Zi] at hc
     simpa using hc.1.1
    subst this
    exact .inl YW
   ·rw[if_neg hc] at h
    simp only[Zh,hx] at h
    rcases h with h | h
    ·cases h;exact .inr YW
    ·cases h;exact .inl YW
  | false=>
   by_cases hc:(k==NameKind.free && env.scope.kind==.function && env.kindOf n==some .cell)=true
   ·rw[if_pos hc] at h;simp only[Zh,hx] at h;exact up (ih h)
   ·rw[if_neg hc] at h;simp only[Zh,hx] at h;exact up (ih h)
theorem jD:∀(names:List (Str×NameKind)) (h:Heap) (acc:List (Str×Addr)) (x:Str) (c:Addr),(x,c)∈cellsFrom h.objs.size names acc->
  (x,c)∈acc\/(h.objs.size<=c/\(pushCells h names).IsCell c none/\(x,NameKind.cell)∈names)
 | [],h,acc,x,c,m=>.inl m
 | (n,k)::r,h,acc,x,c,m=>by
  unfold cellsFrom at m
  unfold pushCells
  by_cases hk:(k==NameKind.cell)=true
  ·rw[if_pos hk] at m ⊢
   have ih:=jD r (h.push {cls:=.type "cell",data:=.cell none}) ((n,h.objs.size)::acc) x c
   rw[Heap.size_push] at ih
   rcases ih m with m | ⟨q1,q2,q3⟩
   ·rcases List.mem_cons.mp m with e | m
    ·cases e
     have hk:k=.cell:=by simpa using hk
     subst hk
     refine .inr ⟨YO _,?_,YW⟩
     have q:(h.push {cls:=.type "cell",data:=.cell none}).IsCell h.objs.size none:=⟨_,Heap.get?_push_size _ rfl,rfl⟩
     exact q.keeps λb o e=>pushCells_keeps r _ b o e
    ·exact .inl m
   ·exact .inr ⟨by omega,q2,YU _ q3⟩
  ·rw[if_neg hk] at m ⊢
   rcases jD r h acc x c m with m | ⟨q1,q2,q3⟩
   ·exact .inl m
   ·exact .inr ⟨q1,q2,YU _ q3⟩
theorem jE:∀(names:List (Str×NameKind)) (n lo:Nat) (acc:List (Str×Addr)),(∀x c,(x,c)∈acc->c<n)->(∀x y c,lo<=c->(x,c)∈acc->(y,c)∈acc->x=y)->
  ∀x y c,lo<=c->(x,c)∈cellsFrom n names acc->(y,c)∈cellsFrom n names acc->x=y
 | [],n,lo,acc,h1,h2,x,y,c,hl,m1,m2=>h2 x y c hl m1 m2
 | (z,k)::r,n,lo,acc,h1,h2,x,y,c,hl,m1,m2=>by
  unfold cellsFrom at m1 m2
  by_cases hk:(k==NameKind.cell)=true
  ·rw[if_pos hk] at m1 m2
   refine jE r (n+1) lo _ (λx c m=>?_) (λx y c hl m1 m2=>?_) x y c hl m1 m2
   ·rcases List.mem_cons.mp m with e | m
    ·cases e;exact Zq _
    ·exact ZJ (h1 x c m)
   ·rcases List.mem_cons.mp m1 with e1 | m1 <;>rcases List.mem_cons.mp m2 with e2 | m2
    ·cases e1;cases e2;rfl
    ·cases e1;exact absurd (h1 _ _ m2) (Zl _)
    ·cases e2;exact absurd (h1 _ _ m1) (Zl _)
    ·exact h2 x y c hl m1 m2
  ·rw[if_neg hk] at m1 m2
   exact jE r n lo acc h1 h2 x y c hl m1 m2
theorem fj:∀(names:List (Str×NameKind)) (n:Nat) (acc:List (Str×Addr)) (x:Str),(x,NameKind.cell)∉names->(cellsFrom n names acc).lookup x=acc.lookup x
 | [],n,acc,x,_=>rfl
 | (z,k)::r,n,acc,x,h=>by
  have hr:(x,NameKind.cell)∉r:=λm=>h (YU _ m)
  unfold cellsFrom
  by_cases hk:(k==NameKind.cell)=true
  ·rw[if_pos hk,fj r _ _ x hr,Zh]
   have hk:k=.cell:=by simpa using hk
   subst hk
   have:(x==z)=false:=by
    cases q:x==z with
    | false=>rfl
    | true=>
     have e:x=z:=by simpa using q
     subst e
     exact absurd YW h
   rw[this]
  ·rw[if_neg hk]
   exact fj r n acc x hr
theorem jF:∀(names:List (Str×NameKind)) (n:Nat) (acc:List (Str×Addr)) (x:Str),((x,NameKind.cell)∈names\/(acc.lookup x).isSome=true)->((cellsFrom n names acc).lookup x).isSome=true
 | [],n,acc,x,h=>by
  rcases h with h | h
  ·simp at h
  ·exact h
 | (z,k)::r,n,acc,x,h=>by
  unfold cellsFrom
  by_cases hk:(k==NameKind.cell)=true
  ·rw[if_pos hk]
   refine jF r _ _ x ?_
   rcases h with h | h
   ·rcases List.mem_cons.mp h with e | h
    ·cases e
     right
     rw[Zh]
     simp
    ·exact .inl h
   ·right
    rw[Zh]
    cases q:x==z with
    | true=>rfl
    | false=>exact h
  ·rw[if_neg hk]
   refine jF r _ _ x ?_
   rcases h with h | h
   ·rcases List.mem_cons.mp h with e | h
    ·cases e;exact absurd rfl hk
    ·exact .inl h
   ·exact .inr h
section
variable {M : Model} {A : Around} {E : Value -> Shared -> Prop} {s : Shared}
theorem iV {scope:Scope} {globals:Addr} {closure:List (Str×Addr)} {qual:Str} {func:Option Addr} {code:Value} {outer:Env} {Q:Env->Shared->Prop}
  (hQ:Q (newEnv scope s.heap.objs.size globals (cellsFrom (s.heap.objs.size+1) scope.names closure) qual func code (some outer) builtinsNs)
   {s with heap:=pushCells (s.heap.push {cls:=.type "dict",data:=.dict #[]}) scope.names}):
  wpAny M A (newFunctionEnv scope globals closure [] qual func code (some outer)) Q E s:=by
 simp only[newFunctionEnv,Option.isSome_some,if_true]
 refine wpAny_bind (wpAny_alloc ?_)
 refine wpAny_bind (wpAny_layCells _ (λname kind cells=>by cases Td:kind==NameKind.cell <;>simp [Td]) _ _ _ _ ?_)
 rw[show({s with heap:=s.heap.push {cls:=.type "dict",data:=.dict #[]}}:Shared).heap.objs.size=s.heap.objs.size+1 from Heap.size_push ..]
 refine wpAny_bind ?_
 rw[List.forIn_nil]
 exact wpAny_pure (wpAny_pure hQ)
end
structure DS (X:Cx) (scope:Scope) (cl:List (Str×Addr)) (lo:Nat) (C:Addr) (h1:Heap):Prop where
 old:∀x c,cl.lookup x=some c->X.env.cells.lookup x=some c\/(lo<=c/\C<c/\h1.IsCell c none)
 inj:∀x y c,C<c->cl.lookup x=some c->cl.lookup y=some c->x=y
 has:∀n,(n,NameKind.free)∈scope.names\/(n,NameKind.cell)∈scope.names->∃c,cl.lookup n=some c
 JZ:∀n,scope.names.lookup n=some .free->∀c,cl.lookup n=some c->X.env.cells.lookup n=some c
 own:∀x c,scope.names.lookup x=some .cell->cl.lookup x=some c->lo<=c
section
variable {X : Cx} {pins : List (Addr × Obj)} {σ : St} {H : Hp} {s : Shared} {N' : List Str} {scope : Scope} {k : Nat} {fr : List Nat} {cl : List (Str × Addr)}
theorem DT {C:Addr} {fp:List Addr} {h1:Heap} (I:Inv X pins σ H s) (S:dQ X.N X.env.scope N' scope k fr) (B:DS X scope cl s.heap.objs.size C h1)
  (hC:s.heap.objs.size<=C) (f2:∀b∈fp,g5 X pins H b) (lt:∀b∈fp,b<s.heap.objs.size):(kA X N' scope cl C s H fp).Ok where
 mod:=I.ok.mod
 kind:=S.kind
 glob:=I.ok.glob
 blt:=I.ok.blt
 above:=hC
 inj:=λx y c h1 h2=>by
  rcases B.old _ _ h1 with o1 | o1 <;>rcases B.old _ _ h2 with o2 | o2
  ·exact I.ok.inj x y c o1 o2
  ·exact B.inj x y c o2.2.1 h1 h2
  ·exact B.inj x y c o1.2.1 h1 h2
  ·exact B.inj x y c o1.2.1 h1 h2
 has:=λx hx=>B.has x (iU hx)
 Fj:=λx c z e=>B.own x c (by
  have z:(scope.names.lookup x==some NameKind.cell)=true:=z
  simpa using z) e
 hd:=I.ok.hd
 frames:=I.ok.frames
 FN:=.inl rfl
 JB:=λb hb=>⟨YT (YY (lt b hb) hC),λx c e=>(B.old _ _ e).elim (λo=>(f2 b hb).2.2.2.2.1 x c o) λo=>Nat.ne_of_gt (YY (lt b hb) o.1)⟩
 bs:=I.bs
 xN:=Y2 I.ok.xN I.sz
 wq:=λb o e hb=>by
  rcases(f2 b hb).2.2.2.1 with z | z
  ·exact I.ok.wq b o e z
  ·exact absurd (YY (Heap.lt_size e) (Y2 I.ok.xN z)) (Zl _)
 xO:=λb hb z=>by
  rcases List.mem_cons.mp (I.pL b z) with q | q
  ·exact(f2 b hb).2.1 q
  ·exact(f2 b hb).2.2.1 q
 jy:=I.stack
 Cb:=I.uX
theorem Bg {C:Addr} {fp:List Addr} {h1:Heap} {tk:Nat} {m:Str->Option Value} (I:Inv X pins σ H s) (S:dQ X.N X.env.scope N' scope k fr) (B:DS X scope cl s.heap.objs.size C h1)
  (hC:s.heap.objs.size<=C) (f2:∀b∈fp,g5 X pins H b) (lt:∀b∈fp,b<s.heap.objs.size) (old:∀b o,s.heap.get? b=some o->h1.get? b=some o) (hn:h1.Ns C m):
  Inv (kA X N' scope cl C s H fp) [] (stC k fr σ) H {s with heap:=h1,toks:=tk}:=by
 refine⟨DT I S B hC f2 lt,rfl,I.bare,Un.kept old,⟨m,hn,λi x v e1 e2 e3=>?_⟩,λx c e=>?_,I.bE.fresh hC,λx c e=>(B.old _ _ e).elim (λo=>I.gi x c o) λo=>I.bE.fresh o.1,λp hp=>absurd (show p∈([]:List (Addr×Obj)) from hp) (by simp),I.bE.kept old,?_⟩
 ·have e1:N'[i]?=some x:=e1
  unfold stC at e2
  by_cases hi:i<k
  ·rw[ZM (by simpa using hi),ZZ,if_pos hi] at e2
   cases e2
  ·rw[ZH (by simpa using hi),ZD,YQ] at e2
   cases q:fr[i - k]? with
   | none=>rw[q] at e2;cases e2
   | some j=>
    rw[q] at e2
    have e2:(σ[j]?).join=some v:=Zg e2
    have ej:σ[j]?=some (some v):=by
     cases z:σ[j]? with
     | none=>rw[z] at e2;cases e2
     | some o=>rw[z] at e2;exact congrArg some e2
    have en:i - k<fr.length:=(List.getElem?_eq_some_iff.mp q).1
    have Fm:=S.at_ (i - k) en
    rw[q,show k+ (i - k)=i by omega,e1] at Fm
    have Fm:X.N[j]?=some x:=Fm
    have Te:x∈N'.drop k:=List.mem_iff_getElem?.mpr ⟨i - k,by rw[ZF,show k+ (i - k)=i by omega];exact e1⟩
    have Gk:=S.JZ x Te
    have Gm:(x,NameKind.free)∈scope.names:=Zz Gk
    have Bh:=S.outer _ Gm rfl
    obtain⟨m0,XF,J0⟩:=I.loc
    obtain⟨u,r,l⟩:=J0 j x v Fm ej (.inr Bh)
    refine⟨u,r,.inr ⟨dF Gk,?_⟩⟩
    rcases l with ⟨kk,_⟩ | ⟨_,c,e,z⟩
    ·have kk:X.env.scope.names.lookup x=some .local:=kk
     rcases Bh with q1 | q1
     ·rw[kk] at q1;cases q1
     ·rw[kk] at q1;cases q1
    ·obtain⟨c',e'⟩:=B.has x (.inl Gm)
     have ec:=B.JZ x Gk _ e'
     rw[e] at ec
     cases ec
     obtain⟨ob,ho,hd⟩:=z
     exact⟨c,e',ob,old _ _ ho,hd⟩
 ·rcases B.old _ _ e with o | o
  ·obtain⟨v,ob,ho,hd⟩:=I.cell x c o
   exact⟨v,ob,old _ _ ho,hd⟩
  ·exact⟨none,o.2.2⟩
 ·unfold stC
  rw[Zn,ZD,YL]
  exact S.len.symm
end
section
variable {prog : Program} {w : World} {A : Around} {E : Value -> Shared -> Prop} {R : Result -> Shared -> Prop} {s : Shared}
theorem gu {elt target iter:Expr} {ifs:List Expr} {scope:Scope} {pos:Pos} {it acc:Value} {env:Env} (I:Nat->Shared->Prop)
  (turn:∀n s,I n s->wpAny (model prog w) A (pyNext it) (λr s₁=>match r with
   | none=>R (.ok .next) s₁
   | some v=>wpAny (model prog w) A (letOwnedTupleGo target it v) (λ_ Rn=>wpAny (model prog w) A (assign target env v) (λ_ s₂=>
     wpAny (model prog w) A (forIn ifs true λc r=>if r=true then do let ok <-isTrue c env (eval c env);pure (ForInStep.yield ok) else pure (ForInStep.yield r)) (λok s₃=>
      if ok=true then wpAny (model prog w) A (eval elt env) (λx s₄=>
       wpAny (model prog w) A (call (.builtin "list.append") [acc,x]) (λ_ s₅=>∃m,m<n/\I m s₅) (λ_ _=>False) s₄) (notedBy (model prog w) A env λx s'=>R (.error x) s') s₃
      else ∃m,m<n/\I m s₃) (λ_ _=>False) s₂) (λ_ _=>False) Rn) (λ_ _=>False) s₁) (λ_ _=>False) s)
  (n:Nat) (h:I n s):
  codeAny (model prog w) A (.compLoop (.ListComp elt [⟨target,iter,ifs,0⟩] scope pos) 0 it acc env) R s:=by
 refine codeAny_loop rfl I (λn s hI=>?_) n h
 show wpAny _ A ((compTurn (.ListComp elt [⟨target,iter,ifs,0⟩] scope pos) 0 it acc env).onRaise (λx=>do noteFrame x env;theTreesLotGoes x)) _ _ s
 refine wpAny_noted ?_
 rw[compTurn_list]
 refine wpAny_bind (wpAny_standAt (wpAny_bind (wpAny_mono (turn n s hI) (λr s₁ h₁=>?_) λ_ _ h'=>h'.elim)))
 cases r with
 | none=>exact wpAny_pure h₁
 | some v=>
  refine wpAny_bind (wpAny_mono h₁ (λ_ Rn Tf=>?_) λ_ _ h'=>h'.elim)
  refine wpAny_bind (wpAny_mono Tf (λ_ s₂ h₂=>wpAny_bind (wpAny_mono h₂ (λok s₃ h₃=>?_) λ_ _ h'=>h'.elim)) λ_ _ h'=>h'.elim)
  cases ok with
  | false=>exact wpAny_pure ⟨rfl,h₃⟩
  | true=>
   exact wpAny_bind (wpAny_bind (wpAny_mono h₃ (λx s₄ h₄=>wpAny_bind (wpAny_mono h₄ (λ_ s₅ h₅=>wpAny_pure (wpAny_pure ⟨rfl,h₅⟩)) λ_ _ h'=>h'.elim)) λ_ _ h'=>h'))
end
noncomputable def DU (X:Cx) (ifs:List Expr) (t:TT):Prop:=
 ∀(pins:List (Addr×Obj)) (s:Shared) (σ:St) (H:Hp) (Q:Bool->Hp->Prop),Inv X pins σ H s->t σ H Q->
  wpAny (model X.prog X.w) X.A (forIn ifs true λc r=>if r=true then do let ok <-isTrue c X.env (eval c X.env);pure (ForInStep.yield ok) else pure (ForInStep.yield r)) (TP X pins σ Q) X.xe s
noncomputable def fk:TT:=λ_ H Q=>Q true H
theorem bf {X:Cx}:DU X [] fk:=λ_ _ _ H _ I h=>wpAny_tests_nil ⟨H,I,h⟩
theorem p9 {X:Cx} {c:Expr} {t:TT} (h:PT X c t):DU X [c] t:=λpins s σ H Q I hq=>wpAny_tests_one (h pins s σ H Q I hq)
section
variable {X : Cx}
noncomputable def eB (J:It) (g:TG) (tc:TT) (te:TE) (σ0:St) (H1:Hp) (fin:List V->Hp->Prop):Prop:=
 ∃W:Nat->Nat->List V->St->Hp->Prop,(∃m,W 0 m [] σ0 H1)/\∀i m ys σ2 H2,W i m ys σ2 H2->
  (J.stop i H2/\fin ys H2)\/
  (J.go i H2/\∀x H3,J.tL i H2 x H3->g x σ2 H3 λσ3 H4=>tc σ3 H4 λb H5=>if b=true then te σ3 H5 λy H6=>ys.length<sizeLine/\∃m',m'<m/\W (i+1) m' (ys++ [y]) σ3 H6 else ∃m',m'<m/\W (i+1) m' ys σ3 H5)
noncomputable def dU (aN:List Value) (n:Nat):Obj:={cls:=.type "list",data:=.seq aN.toArray n}
theorem yu {elt target iter:Expr} {ifs:List Expr} {scope:Scope} {pos:Pos} {g:TG} {tc:TT} {te:TE} {k:Nat} {fr:List Nat} {N':List Str} {cl:List (Str×Addr)} {pins:List (Addr×Obj)} {σ:St} {H2:Hp} {s2:Shared}
  {it:Addr} {fp:List Addr} {tn:Nat->Heap->Prop} {J:It} {fin:List V->Hp->Prop} {R0:Result->Shared->Prop} {XE:List (Str×Addr)->Addr->Shared->Hp->List Addr->Value->Shared->Prop}
  (hc:X.calm=true) (S:dQ X.N X.env.scope N' scope k fr) (c1:∀x c,cl.lookup x=some c->X.env.cells.lookup x=some c) (c2:∀n,(n,NameKind.free)∈scope.names->∃c,cl.lookup n=some c) (cin:∀x c,(x,c)∈cl->∃y,X.env.cells.lookup y=some c) (IT:∀x,(x,NameKind.cell)∈scope.names->∀c,(x,c)∉cl)
  (hg:∀cl C s H ex,PG (kA X N' scope cl C s H ex) target g) (ht:∀cl C s H ex,DU (kA X N' scope cl C s H ex) ifs tc) (he:∀cl C s H ex,PE ((kA X N' scope cl C s H ex).jz (XE cl C s H ex)) elt te)
  (I2:Inv X pins σ H2 s2) (T:Turn X.prog X.w X.K target J fp it tn) (bI:tn 0 s2.heap) (f2:∀b∈fp,g5 X pins H2 b) (hb:eB J g tc te (stC k fr σ) H2 fin)
  (hR:∀(C:Addr),C=(s2.heap.push {cls:=.type "list",dict:=none,data:=.seq ([]:List Value).toArray}).objs.size->∀(s':Shared) (m:Str->Option Value) (ys:List V) (aN:List Value) (n:Nat) (H':Hp),s2.heap.objs.size<C->s'.heap.Ns C m->aV ys aN->ys.length<=sizeLine->s'.heap.get? s2.heap.objs.size=some (dU aN n)->H' s2.heap.objs.size=none->H' C=none->fin ys H'->
   s'.os=s2.os->AllBare s'.gens->Un (qJ X.stack) fp H2 H' s2.heap s'.heap->gf X.prog X.w H' s'.heap->R0 (.ok .next) s')
  (hE:∀cl C x s',C=(s2.heap.push {cls:=.type "list",dict:=none,data:=.seq ([]:List Value).toArray}).objs.size->s2.heap.objs.size<C->XE cl C s2 H2 fp x s'->notedBy (model X.prog X.w) X.A (compEnvC scope cl C X.env) (λy Dv=>R0 (.error y) Dv) x s'):
  codeAny (model X.prog X.w) X.A (.compStart (.ListComp elt [⟨target,iter,ifs,0⟩] scope pos) 0 (.ref it) (.ref s2.heap.objs.size) (compEnvC scope (cellsFrom ((s2.heap.push {cls:=.type "list",dict:=none,data:=.seq ([]:List Value).toArray}).objs.size+1) scope.names cl) (s2.heap.push {cls:=.type "list",dict:=none,data:=.seq ([]:List Value).toArray}).objs.size X.env)) R0 {s2 with heap:=pushCells ((s2.heap.push {cls:=.type "list",dict:=none,data:=.seq ([]:List Value).toArray}).push {cls:=.type "dict",data:=.dict #[]}) scope.names}:=by
 obtain⟨W,⟨m0,w0⟩,turn⟩:=hb
 have lt:∀b∈fp,b<s2.heap.objs.size:=λb hb=>by
  obtain⟨o,e,_⟩:=T.obj _ _ bI b hb
  exact Heap.lt_size e
 generalize J1:s2.heap.push {cls:=.type "list",dict:=none,data:=.seq ([]:List Value).toArray}=G2 at hR hE ⊢
 have Fn:G2.objs.size=s2.heap.objs.size+1:=by rw[<-J1,Heap.size_push]
 have Ro:s2.heap.objs.size≠G2.objs.size:=by rw[Fn];exact YT (Zq _)
 have hC:s2.heap.objs.size<=G2.objs.size:=by rw[Fn];exact Nat.le_succ _
 have old:∀b o,s2.heap.get? b=some o->(pushCells (G2.push {cls:=.type "dict",data:=.dict #[]}) scope.names).get? b=some o:=λb o e=>by
  refine pushCells_keeps _ _ b o (Heap.get?_push_of_some _ ?_)
  rw[<-J1]
  exact Heap.get?_push_of_some _ e
 have Bi:(pushCells (G2.push {cls:=.type "dict",data:=.dict #[]}) scope.names).get? s2.heap.objs.size=some (dU [] 0):=by
  refine pushCells_keeps _ _ _ _ (Heap.get?_push_of_some _ ?_)
  rw[<-J1]
  exact Heap.get?_push_size _ rfl
 have J2:(pushCells (G2.push {cls:=.type "dict",data:=.dict #[]}) scope.names).Ns G2.objs.size λ_=>none:=(Heap.Ns.new G2 (.type "dict")).keeps (pushCells_keeps _ _)
 have Rp:∀x c,(x,c)∈cl->c<G2.objs.size+1:=λx c m=>by
  obtain⟨y,hy⟩:=cin x c m
  obtain⟨v,q⟩:=I2.cell y c hy
  rw[Fn]
  exact ZJ (ZJ q.lt)
 have B:DS X scope (cellsFrom (G2.objs.size+1) scope.names cl) s2.heap.objs.size G2.objs.size (pushCells (G2.push {cls:=.type "dict",data:=.dict #[]}) scope.names):=by
  have own:=jD scope.names (G2.push {cls:=.type "dict",data:=.dict #[]}) cl
  rw[Heap.size_push] at own
  refine⟨λx c e=>?_,λx y c hc h1 h2=>?_,λn hn=>?_,λn hn c e=>?_,λx c hx e=>?_⟩
  ·by_cases hx:(x,NameKind.cell)∈scope.names
   ·rcases own x c (Zz e) with m | ⟨q1,q2,_⟩
    ·
     exfalso
     exact IT x hx c m
    ·exact .inr ⟨Y2 hC (Nat.le_of_succ_le q1),q1,q2⟩
   ·rw[fj _ _ _ _ hx] at e
    exact .inl (c1 x c e)
  ·exact jE scope.names (G2.objs.size+1) (G2.objs.size+1) cl Rp (λx y c hl m1 _=>absurd (Rp x c m1) (Nat.not_lt.mpr hl)) x y c hc (Zz h1) (Zz h2)
  ·refine Option.isSome_iff_exists.mp (jF _ _ _ n ?_)
   rcases hn with hn | hn
   ·obtain⟨c,e⟩:=c2 n hn
    exact .inr (by rw[e];rfl)
   ·exact .inl hn
  ·have hx:(n,NameKind.cell)∉scope.names:=λm=>by
    have:=(S.DR _ m rfl).1
    rw[hn] at this
    cases this
   rw[fj _ _ _ _ hx] at e
   exact c1 n c e
  ·have hx:=Zz hx
   rcases own x c (Zz e) with m | ⟨q1,q2,_⟩
   ·exact absurd m (IT x hx c)
   ·exact Y2 hC (Nat.le_of_succ_le q1)
 generalize pushCells (G2.push {cls:=.type "dict",data:=.dict #[]}) scope.names=h₁ at *
 generalize cellsFrom (G2.objs.size+1) scope.names cl=um at *
 generalize DV:s2.heap.objs.size=D at *
 generalize XG:G2.objs.size=C at *
 have fD:H2 D=none:=by rw[<-DV];exact I2.bE.fresh (YO _)
 have cells:∀x c,um.lookup x=some c->c≠D:=λx c e=>by
  rcases B.old _ _ e with o | o
  ·obtain⟨v,q⟩:=I2.cell x c o
   rw[<-DV]
   exact YT q.lt
  ·exact Nat.ne_of_gt (Nat.lt_trans (by rw[Fn];exact Zq _) o.2.1)
 have loop:∀(Cj:Addr) (s3:Shared),Cj=it->(∃tk,s3={s2 with heap:=h₁,toks:=tk})->
   codeAny (model X.prog X.w) X.A (.compLoop (.ListComp elt [⟨target,iter,ifs,0⟩] scope pos) 0 (.ref Cj) (.ref D) (compEnvC scope um C X.env)) R0 s3:=by
  rintro Cj s3 rfl ⟨tk,rfl⟩
  have I3:Inv (kA X N' scope um C s2 H2 fp) [] (stC k fr σ) H2 {s2 with heap:=h₁,toks:=tk}:=Bg I2 S (by rw[DV];exact B) (by rw[DV];exact hC) f2 (by rw[DV];exact lt) old J2
  have tW:∀{H':Hp} {o:Obj},(∀b∈fp,H' b=none)->∀b∈fp,g5 (kA X N' scope um C s2 H2 fp) [(D,o)] H' b:=λ{H' o} hn b hb=>
   ⟨hn b hb,YT (YY (lt b hb) hC),λz=>by
    rcases List.mem_cons.mp (I2.pL b z) with q | q
    ·exact(f2 b hb).2.1 q
    ·exact(f2 b hb).2.2.1 q,.inl hb,λx c e=>(B.old _ _ e).elim (λo=>(f2 b hb).2.2.2.2.1 x c o) (λo=>Nat.ne_of_gt (YY (lt b hb) o.1)),λp hp=>by
    have e:p=(D,o):=by simpa [kA] using hp
    rw[e]
    exact Nat.ne_of_gt (lt b hb)⟩
  have J3:∀{σ':St} {H':Hp} {s':Shared} {o:Obj},Inv (kA X N' scope um C s2 H2 fp) [] σ' H' s'->s'.heap.get? D=some o->H' D=none->(∀v,o.data≠.cell v)->Inv (kA X N' scope um C s2 H2 fp) [(D,o)] σ' H' s':=λ{σ' H' s' o} I' e n hd=>
   I'.iL λp hp=>by
    have q:p=(D,o):=by simpa using hp
    subst q
    refine⟨e,n,Ro,λz=>?_,hd⟩
    obtain⟨_,ob,ho,_⟩:=I2.stack.mem z
    exact absurd (Heap.lt_size ho) (by rw[DV];exact Zl _)
  have Tg:∀{aN:List Value} {n:Nat} (v:Option Value),(dU aN n).data≠.cell v:=λv z=>by
   have z:Data.seq _ _=Data.cell v:=z
   cases z
  refine gu (λn s'=>∃i ys σ' H' aN Bj,Inv (kA X N' scope um C s2 H2 fp) [] σ' H' s'/\tn i s'.heap/\(∀b∈fp,H' b=none)/\s'.heap.get? D=some (dU aN Bj)/\H' D=none/\aV ys aN/\ys.length<=sizeLine/\W i n ys σ' H') ?_ m0
   ⟨0,[],_,H2,[],0,I3,T.keep _ _ _ bI (λb _ o e=>old b o e),λb hb=>(f2 b hb).1,Bi,fD,.nil,Y0 _,w0⟩
  rintro n s4 ⟨i,ys,σ4,H4,aN,Bj,I4,fM,Rq,Th,Rr,IU,Rt,w4⟩
  have Ru:=J3 I4 Th Rr Tg
  rcases turn i n ys σ4 H4 w4 with ⟨stop,qf⟩ | ⟨go,step⟩
  ·refine bR (T.done (kA X N' scope um C s2 H2 fp) rfl rfl rfl hc i _ s4 σ4 H4 _ Ru (tW Rq) fM stop) λr s5 ⟨hr,I5⟩=>?_
   subst hr
   obtain⟨m5,Ti,_⟩:=I5.loc
   exact hR C rfl s5 m5 ys aN Bj H4 (by rw[Fn];exact Zq _) Ti IU Rt (I5.pin (D,dU aN Bj) (Zp _ YW)).1 Rr I5.free qf I5.os I5.bare I5.base I5.bE
  ·refine bR (T.item (kA X N' scope um C s2 H2 fp) rfl rfl rfl hc i _ s4 σ4 H4 _ Ru (tW Rq) fM go) λr s5 ⟨u,hr,h5⟩=>?_
   subst hr
   refine bR h5 λ_ s6 b8=>?_
   obtain⟨x,H6,I6,r6,y6,J4,Tj⟩:=b8
   have Tn:=I6.pinned (tW Tj) (T.obj _ _ J4)
   refine bR (hg um C s2 H2 fp _ s6 σ4 H6 x u _ Tn r6 (step x H6 y6)) λ_ s7 ⟨σ7,H7,I7,q7⟩=>?_
   refine bR (ht um C s2 H2 fp _ s7 σ7 H7 _ I7 q7) λok s8 ⟨H8,I8,q8⟩=>?_
   have back:∀{σ':St} {H':Hp} {s':Shared},Inv (kA X N' scope um C s2 H2 fp) ([(D,dU aN Bj)]++lU fp s6.heap) σ' H' s'->tn (i+1) s'.heap/\(∀b∈fp,H' b=none)/\s'.heap.get? D=some (dU aN Bj)/\H' D=none:=λ{σ' H' s'} I'=>by
    have pD:=I'.pin (D,dU aN Bj) (Zp _ (List.mem_append_left _ (by simp)))
    refine⟨T.keep _ _ _ J4 λb hb o e=>(I'.pin (b,o) (Zp _ (Zp _ (fg hb e)))).1,λb hb=>?_,pD.1,pD.2.1⟩
    obtain⟨o,e,d⟩:=T.obj _ _ J4 b hb
    exact(I'.pin (b,o) (Zp _ (Zp _ (fg hb e)))).2.1
   cases ok with
   | false=>
    rw[if_neg YZ]
    rw[if_neg YZ] at q8
    obtain⟨m',hm,w8⟩:=q8
    obtain⟨b1,b2,b3,b4⟩:=back I8
    exact⟨m',hm,i+1,ys,σ7,H8,aN,Bj,I8.iL (λp hp=>absurd hp (by simp)),b1,b2,b3,b4,IU,Rt,w8⟩
   | true=>
    rw[if_pos rfl]
    rw[if_pos rfl] at q8
    refine wpAny_mono (he um C s2 H2 fp _ s8 σ7 H8 _ (I8.jz _) q8) (λy s9 ⟨z,H9,I9,r9,en,m',hm,w9⟩=>?_) λx s' hx=>hE um C x s' rfl (by rw[Fn];exact Zq _) hx
    have I9:=I9.fe
    obtain⟨b1,b2,b3,b4⟩:=back I9
    have hl:=IU.length
    refine call_meets F.slot_list_append ⟨_,b3,rfl⟩ F.entry_list_append (F.args_list_append_2 _ _) (PySem.list_append D aN.toArray Bj y (by rw[YR];omega)) ⟨b3,?_⟩
    obtain⟨c',q⟩:∃c',(s9.heap.update D (Obj.mapSeq λx=>x.push y)).get? D=some (dU (aN++ [y]) c'):=by
     have q:=PySem.IsL.update b3 (λx=>x.push y)
     rw[show aN.toArray.push y=(aN++ [y]).toArray by simp] at q
     exact⟨_,q⟩
    have To:Inv (kA X N' scope um C s2 H2 fp) [] σ7 H9 s9:=I9.iL (λp hp=>absurd hp (by simp))
    have kp:∀b o,b≠D->s9.heap.get? b=some o->(s9.heap.update D (Obj.mapSeq λx=>x.push y)).get? b=some o:=λb o hb e=>(Heap.get?_update_other s9.heap (Obj.mapSeq λx=>x.push y) (Ne.symm hb)).trans e
    have Tp:=To.turned (t':=s9.toks) (it:=D) (h':=s9.heap.update D (Obj.mapSeq λx=>x.push y)) kp b4 Ro (.inr (by show s2.heap.objs.size<=D;rw[DV];exact YO _)) (λx c e=>cells x c e) (λp hp=>absurd hp (by simp [kA]))
    refine⟨m',hm,i+1,ys++ [z],σ7,H9,aN++ [y],c',Tp,T.keep _ _ _ b1 (λb hb o e=>kp b o (YT (lt b hb)) e),b2,q,b4,IU.append (.cons r9 .nil),?_,w9⟩
    ·rw[Zn,List.length_singleton]
     omega
 exact codeAny_compStart_list (loop it _ rfl ⟨_,rfl⟩) (T.self _ 0 _ _ _ (T.keep _ _ _ bI (λb _ o e=>old b o e)) (loop it _ rfl ⟨_,rfl⟩))
theorem oZ {elt target iter:Expr} {ifs:List Expr} {scope:Scope} {pos:Pos} {g:TG} {tc:TT} {te:TE} {k:Nat} {fr:List Nat} {N':List Str} {cl:List (Str×Addr)} {pins:List (Addr×Obj)} {σ:St} {H2:Hp} {s2:Shared}
  {it:Addr} {fp:List Addr} {tn:Nat->Heap->Prop} {J:It} {E:Value->Shared->Prop} {fin:List V->Hp->Prop} {RR:Value->Addr->Result->Shared->Prop} {XE:List (Str×Addr)->Addr->Shared->Hp->List Addr->Value->Shared->Prop}
  (hc:X.calm=true) (S:dQ X.N X.env.scope N' scope k fr) (c1:∀x c,cl.lookup x=some c->X.env.cells.lookup x=some c) (c2:∀n,(n,NameKind.free)∈scope.names->∃c,cl.lookup n=some c) (cin:∀x c,(x,c)∈cl->∃y,X.env.cells.lookup y=some c) (IT:∀x,(x,NameKind.cell)∈scope.names->∀c,(x,c)∉cl)
  (hg:∀cl C s H ex,PG (kA X N' scope cl C s H ex) target g) (ht:∀cl C s H ex,DU (kA X N' scope cl C s H ex) ifs tc) (he:∀cl C s H ex,PE ((kA X N' scope cl C s H ex).jz (XE cl C s H ex)) elt te)
  (I2:Inv X pins σ H2 s2) (T:Turn X.prog X.w X.K target J fp it tn) (bI:tn 0 s2.heap) (f2:∀b∈fp,g5 X pins H2 b) (hb:eB J g tc te (stC k fr σ) H2 fin)
  (hR:∀(C:Addr) (s':Shared) (m:Str->Option Value) (ys:List V) (aN:List Value) (n:Nat) (H':Hp),s2.heap.objs.size<C->s'.heap.Ns C m->aV ys aN->ys.length<=sizeLine->s'.heap.get? s2.heap.objs.size=some (dU aN n)->H' s2.heap.objs.size=none->H' C=none->fin ys H'->
   s'.os=s2.os->AllBare s'.gens->Un (qJ X.stack) fp H2 H' s2.heap s'.heap->gf X.prog X.w H' s'.heap->RR (.ref s2.heap.objs.size) C (.ok .next) s')
  (hE:∀cl C x s',s2.heap.objs.size<C->XE cl C s2 H2 fp x s'->notedBy (model X.prog X.w) X.A (compEnvC scope cl C X.env) (λy Dv=>RR (.ref s2.heap.objs.size) C (.error y) Dv) x s'):
  wpAny (model X.prog X.w) X.A (newList []) (λacc s₃=>wpAny (model X.prog X.w) X.A (newFunctionEnv scope X.env.globals cl [] X.env.qual none .none (some X.env)) (λGn s₄=>
   codeAny (model X.prog X.w) X.A (.compStart (.ListComp elt [⟨target,iter,ifs,0⟩] scope pos) 0 (.ref it) acc {Gn with scope:=relabel scope X.env}) (RR acc Gn.locals) s₄) E s₃) E s2:=by
 refine wpAny_newObj_type (iV ?_)
 exact yu (R0:=RR _ _) hc S c1 c2 cin IT hg ht he I2 T bI f2 hb (λC e=>by subst e;exact hR _) (λcl C x s' e=>by subst e;exact hE cl _ x s')
theorem comp_back {fp:List Addr} {pins:List (Addr×Obj)} {σ:St} {H2 H':Hp} {s2 s':Shared} {C:Addr} {ys:List V} {aN:List Value} {n:Nat} {h':Heap} (I2:Inv X pins σ H2 s2) (f2:∀b∈fp,g5 X pins H2 b) (hC:s2.heap.objs.size<C)
  (vl:aV ys aN) (sz:ys.length<=sizeLine) (hD:s'.heap.get? s2.heap.objs.size=some (dU aN n)) (nD:H' s2.heap.objs.size=none) (nC:H' C=none)
  (os:s'.os=s2.os) (bare:AllBare s'.gens) (un:Un (qJ X.stack) fp H2 H' s2.heap s'.heap) (bE:gf X.prog X.w H' s'.heap) (hs:Heap.SameBut C s'.heap h'):
  Inv X pins σ (upd H' s2.heap.objs.size (.lst ys)) {s' with heap:=h'}:=by
 have J5:∀b o,s2.heap.get? b=some o->b≠C:=λb o e=>YT (Nat.lt_trans (Heap.lt_size e) hC)
 have Tq:∀b o,s2.heap.get? b=some o->b≠s2.heap.objs.size:=λb o e=>YT (Heap.lt_size e)
 have tk:∀b u,H' b=some u->b≠s2.heap.objs.size:=λb u e z=>by rw[z,nD] at e;cases e
 have tC:∀b u,H' b=some u->b≠C:=λb u e z=>by rw[z,nC] at e;cases e
 have fD:H2 s2.heap.objs.size=none:=I2.bE.fresh (YO _)
 have t2:∀b u,H2 b=some u->b≠s2.heap.objs.size:=λb u e z=>by rw[z,fD] at e;cases e
 refine I2.FP (s':={s' with heap:=h'}) (ch:=fp) os ⟨λb o e m hb hx=>?_,λb o e m hb hx=>?_,λb o e m hx=>?_,λb o e hx=>?_,λb xs e=>?_,λb o u e=>?_,λb ps e=>?_⟩ (λb u e=>?_) bare λb hb=>?_
 ·exact(hs.2 b (J5 b o e)).trans (un.keep b o e m hb hx)
 ·obtain⟨sl,q⟩:=un.slot b o e m hb hx
  exact⟨sl,(hs.2 b (J5 b o e)).trans q⟩
 ·rw[ax (Tq b o e)]
  exact un.free b o e m hx
 ·obtain⟨o',q⟩:=un.there b o e hx
  exact⟨o',(hs.2 b (J5 b o e)).trans q⟩
 ·rw[ax (t2 b _ e)]
  exact un.kj b xs e
 ·rw[ax (t2 b _ e)]
  exact un.lO b o u e
 ·obtain⟨mo,q⟩:=un.lP b ps e
  exact⟨mo,by rw[ax (t2 b _ e)];exact q⟩
 ·by_cases hb:b=s2.heap.objs.size
  ·subst hb
   rw[ag] at e
   cases e
   exact⟨sz,aN,n,vl,(hs.2 _ (YT hC)).trans hD⟩
  ·rw[ax hb] at e
   exact(bE b u e).nX (λc v hc q=>(hs.2 c (by
    rcases hc with rfl | hc
    ·exact tC _ _ e
    ·exact tC _ _ hc)).trans q) (λc r=>by rw[ax (tk _ _ r)];exact r) λc xs r=>by rw[ax (tk _ _ r)];exact r
 ·exact⟨(f2 b hb).2.2.2.1,(f2 b hb).2.1,(f2 b hb).2.2.2.2.1,(f2 b hb).2.2.2.2.2⟩
noncomputable def tComp (wi:TI) (g:TG) (tc:TT) (te:TE) (k:Nat) (fr:List Nat):TE:=λσ H Q=>wi σ H λJ H1=>eB J g tc te (stC k fr σ) H1 λys H2=>∀D,H1 D=none->H2 D=none->Q (.ref D) (upd H2 D (.lst ys))
theorem bD {elt target iter:Expr} {ifs:List Expr} {scope so:Scope} {pos:Pos} {wi:TI} {g:TG} {tc:TT} {te:TE} {k:Nat} {fr:List Nat} {N N':List Str} (hc:X.calm=true) (hN:X.N=N) (J6:X.env.scope=so) (S:dQ N so N' scope k fr)
  (hi:PI X target iter wi) (hg:∀cl C s H ex,PG (kA X N' scope cl C s H ex) target g) (ht:∀cl C s H ex,DU (kA X N' scope cl C s H ex) ifs tc) (he:∀cl C s H ex,PE (kA X N' scope cl C s H ex) elt te)
  (hs:∀x,foldedSetIterable iter X.env x=pure x:=by intro _;rfl):PE X (.ListComp elt [⟨target,iter,ifs,0⟩] scope pos) (tComp wi g tc te k fr):=by
 subst hN J6
 intro pins s σ H Q I h
 rw[eval_ListComp]
 obtain⟨cl,DW,c1,c2,c3⟩:=eA (env:=X.env) (scope:=scope) λn hn=>I.ok.has n (S.outer _ hn rfl)
 refine wpAny_comprehension_free (use:=none) (cl:=cl) rfl hs DW S.kind S.locs ?_
 refine bR (hi pins s σ H _ I h) λv s1 h1=>bR h1 λCj s2 h2=>?_
 obtain⟨it,fp,tn,J,H2,rfl,I2,T,bI,f2,hb⟩:=h2
 refine oZ (RR:=λacc C=>compPost (model X.prog X.w) X.A X.xe none (EP X pins σ Q) acc C) hc S c1 c2 (λx c m=>⟨x,(c3 x c m).1⟩) (λx hx c m=>(S.DR _ hx rfl).2 (c3 x c m).2) (XE:=λ_ _ _ _ _ _ _=>False) hg ht he I2 T bI f2 hb ?_ (λ_ _ _ _ _ z=>False.elim z)
 intro C s' m ys aN n H' hC hn vl sz hD nD nC fin os bare un bE
 exact⟨m,hn,λh' jw=>⟨.ref _,_,comp_back I2 f2 hC vl sz hD nD nC os bare un bE jw,rfl,fin _ (I2.bE.fresh (YO _)) nD⟩⟩
theorem dJ {elt target iter:Expr} {ifs:List Expr} {scope so:Scope} {pos Gp py:Pos} {wi:TI} {g:TG} {tc:TT} {te:TE} {k:Nat} {fr:List Nat} {N N':List Str} {y:Str} {i:Nat} (hc:X.calm=true) (hN:X.N.Nodup) (hy:X.N[i]?=some y) (hl:X.env.scope.names.lookup y=some .local)
  (Tr:X.N=N) (J6:X.env.scope=so) (S:dQ N so N' scope k fr)
  (hi:PI X target iter wi) (hg:∀cl C s H ex,PG (kA X N' scope cl C s H ex) target g) (ht:∀cl C s H ex,DU (kA X N' scope cl C s H ex) ifs tc) (he:∀cl C s H ex,PE (kA X N' scope cl C s H ex) elt te)
  (Ts:swapsWith (.ListComp elt [⟨target,iter,ifs,0⟩] scope pos) (some (.Name y py)) Gp.line X.env=pure true:=by rfl)
  (hs:∀x,foldedSetIterable iter X.env x=pure x:=by intro _;rfl):PS X (.Assign [.Name y py] (.ListComp elt [⟨target,iter,ifs,0⟩] scope pos) Gp) (tAsg (tComp wi g tc te k fr) (gName i)):=by
 subst Tr J6
 intro pins s σ H D I h
 rw[exec_Assign_Name_used _ _ _ _ Ts]
 obtain⟨cl,DW,c1,c2,c3⟩:=eA (env:=X.env) (scope:=scope) λn hn=>I.ok.has n (S.outer _ hn rfl)
 refine wpAny_bind (wpAny_standAt (wpAny_bind ?_))
 show wpAny _ X.A (do let _ <-comprehension (.ListComp elt [⟨target,iter,ifs,0⟩] scope pos) scope X.env _ (newList []) false (eval iter X.env) (some (assign (.Name y py) X.env))) _ _ s
 refine wpAny_bind (wpAny_mono (wpAny_comprehension_free (use:=some (assign (.Name y py) X.env)) (Q:=λ_ s'=>SP X pins D .next s') (cl:=cl) rfl hs DW S.kind S.locs ?_) (λ_ s' hq=>wpAny_pure (wpAny_pure hq)) λ_ _ e=>e)
 refine bR (hi pins s σ H _ I h) λv s1 h1=>bR h1 λCj s2 h2=>?_
 obtain⟨it,fp,tn,J,H2,rfl,I2,T,bI,f2,hb⟩:=h2
 refine oZ (RR:=λacc C=>compPost (model X.prog X.w) X.A X.xe (some (assign (.Name y py) X.env)) (λ_ s'=>SP X pins D .next s') acc C) hc S c1 c2 (λx c m=>⟨x,(c3 x c m).1⟩) (λx hx c m=>(S.DR _ hx rfl).2 (c3 x c m).2) (XE:=λ_ _ _ _ _ _ _=>False) hg ht he I2 T bI f2 hb ?_ (λ_ _ _ _ _ z=>False.elim z)
 intro C s' m ys aN n H' hC hn vl sz hD nD nC fin os bare un bE
 have I3:Inv X pins σ (upd H' s2.heap.objs.size (.lst ys)) s':=comp_back (h':=s'.heap) I2 f2 hC vl sz hD nD nC os bare un bE (.refl ..)
 refine wpAny_assign_Name (oK (v:=.ref s2.heap.objs.size) I3 hN hy (.inl hl) rfl (λs4 I4 ch=>?_) (.inr hl))
 have Rv:X.env.locals<s2.heap.objs.size:=I2.lt
 obtain⟨a,Tt,ha⟩:=ch
 have aC:a≠C:=by
  rcases ha with rfl | ha
  ·exact YT (Nat.lt_trans Rv hC)
  ·obtain⟨v,q⟩:=I2.cell _ _ ha
   exact YT (Nat.lt_trans q.lt hC)
 refine⟨m,hn.sameBut Tt (Ne.symm aC),λh' jw=>⟨_,_,?_,fin _ (I2.bE.fresh (YO _)) nD⟩⟩
 have Tu:(upd H' s2.heap.objs.size (.lst ys)) C=none:=by rw[ax (Nat.ne_of_gt hC)];exact nC
 exact I4.turned (t':=s4.toks) (it:=C) (h':=h') (λb o hb e=>(jw.2 b hb).trans e) Tu (Nat.ne_of_gt (Nat.lt_trans Rv hC)) (.inr (Y2 I2.sz (Nat.le_of_lt hC))) (λx c e z=>by
  obtain⟨v,q⟩:=I2.cell x c e
  exact absurd (Nat.lt_trans q.lt hC) (by rw[z];exact Zl _)) (λp hp z=>by
  have:=Heap.lt_size (I2.pin p hp).1
  rw[z] at this
  exact absurd (Nat.lt_trans this hC) (Zl _))
end
structure Src (J:It) (Ok:Hp->Prop) (n:Nat) (Item:Nat->V->Hp->Hp->Prop):Prop where
 go:∀i H,i<n->Ok H->J.go i H
 tL:∀i H x H3,i<n->Ok H->J.tL i H x H3->Item i x H H3
 stop:∀H,Ok H->J.stop n H
theorem src_list {K:PySem.W.Frag} {a:Addr} {xs:List V} {Ok:Hp->Prop} (h:∀H,Ok H->aR K H a xs):Src (tT K a) Ok xs.length (λi x H H3=>H3=H/\xs[i]?=some x) where
 go:=λi H hi ok=>⟨xs,xs[i],h H ok,by simp [hi]⟩
 tL:=λi H x H3 hi ok ⟨e,y⟩=>⟨e,y xs (h H ok)⟩
 stop:=λH ok=>⟨xs,h H ok,YO _⟩
theorem src_range {lo:Int} {n:Nat} {Ok:Hp->Prop}:Src (FT lo n) Ok n (λi x H H3=>H3=H/\x=.int (lo+i)) where
 go:=λ_ _ hi _=>hi
 tL:=λ_ _ _ _ _ _ y=>y
 stop:=λ_ _=>YO _
theorem gM {J:It} {g:TG} {tc:TT} {te:TE} {σ0:St} {H1:Hp} {fin:List V->Hp->Prop} {n:Nat} {Item:Nat->V->Hp->Hp->Prop} (S:Src J (ar H1) n Item) (DX:St->Prop) (h0:DX σ0) (P:Nat->List V->Hp->Prop) (p0:P 0 [] H1) (hz:n<=sizeLine)
  (hs:∀i x σ H ys H3 (Q:St->V->Hp->Prop) (N:St->Hp->Prop),i<n->ar H1 H->P i ys H->ys.length<=i->DX σ->Item i x H H3->
   (∀σ3 y H6,DX σ3->ar H1 H6->P (i+1) (ys++ [y]) H6->Q σ3 y H6)->(∀σ3 H5,DX σ3->ar H1 H5->P (i+1) ys H5->N σ3 H5)->
   g x σ H3 λσ3 H4=>tc σ3 H4 λb H5=>if b=true then te σ3 H5 λy H6=>Q σ3 y H6 else N σ3 H5)
  (jG:∀ys H,ar H1 H->P n ys H->ys.length<=n->fin ys H):eB J g tc te σ0 H1 fin:=by
 refine⟨λi m ys σ H=>m=n - i/\i<=n/\ys.length<=i/\DX σ/\ar H1 H/\P i ys H,⟨n,by simp,Y0 _,YO _,h0,ar.refl _,p0⟩,?_⟩
 rintro i m ys σ H ⟨rfl,hi,hl,ow,sm,p⟩
 by_cases en:i<n
 ·refine .inr ⟨S.go i H en sm,λx H3 y=>hs i x σ H ys H3 (λσ3 y H6=>ys.length<sizeLine/\∃m',m'<n - i/\m'=n - (i+1)/\i+1<=n/\(ys++ [y]).length<=i+1/\DX σ3/\ar H1 H6/\P (i+1) (ys++ [y]) H6)
   (λσ3 H5=>∃m',m'<n - i/\m'=n - (i+1)/\i+1<=n/\ys.length<=i+1/\DX σ3/\ar H1 H5/\P (i+1) ys H5) en sm p hl ow (S.tL i H x H3 en sm y) (λσ3 y H6 o s6 q=>?_) (λσ3 H5 o s5 q=>?_)⟩
  ·exact⟨by omega,n - (i+1),by omega,rfl,en,by rw[Zn,List.length_singleton];omega,o,s6,q⟩
  ·exact⟨n - (i+1),by omega,rfl,en,by omega,o,s5,q⟩
 ·have e:i=n:=by omega
  subst e
  exact .inl ⟨S.stop H sm,jG ys H sm p hl⟩
theorem comp_map {J:It} {te:TE} {tl:St} {H1:Hp} {fin:List V->Hp->Prop} {n:Nat} {Item:Nat->V->Hp->Hp->Prop} (S:Src J (ar H1) n Item) (sub:∀i x H H3,Item i x H H3->ar H H3) (hz:n<=sizeLine)
  (R:Nat->V->Hp->Prop) (mono:∀i y H H',ar H H'->R i y H->R i y H')
  (hs:∀i x w H H3 (Q:VK),i<n->ar H1 H->Item i x H H3->(∀y H6,ar H3 H6->R i y H6->Q y H6)->te ((w::tl).set 0 (some x)) H3 Q)
  (jG:∀ys H,ar H1 H->ys.length=n->(∀i y,ys[i]?=some y->R i y H)->fin ys H):eB J (gName 0) fk te (none::tl) H1 fin:=by
 refine⟨λi m ys σ H=>m=n - i/\i<=n/\ys.length=i/\(∃w,σ=w::tl)/\ar H1 H/\∀j y,ys[j]?=some y->R j y H,⟨n,by simp,Y0 _,rfl,⟨_,rfl⟩,ar.refl _,λj y e=>by simp at e⟩,?_⟩
 rintro i m ys σ H ⟨rfl,hi,hl,⟨w,rfl⟩,sm,p⟩
 by_cases en:i<n
 ·refine .inr ⟨S.go i H en sm,λx H3 y=>?_⟩
  have it:=S.tL i H x H3 en sm y
  have s3:=sub i x H H3 it
  unfold gName fk
  refine Gi ?_
  refine hs i x w H H3 _ en sm it λy H6 s6 r=>⟨by omega,n - (i+1),by omega,rfl,en,by rw[Zn,List.length_singleton];omega,⟨_,rfl⟩,sm.trans (s3.trans s6),λj z e=>?_⟩
  by_cases hj:j<i
  ·rw[ZM (by omega)] at e
   exact mono j z _ _ (s3.trans s6) (p j z e)
  ·rw[ZH (by omega)] at e
   have e2:j - ys.length=0:=by
    by_cases q:j - ys.length=0
    ·exact q
    ·rw[Y1 (by simp;omega)] at e;cases e
   rw[e2] at e
   simp at e
   subst e
   have:j=i:=by omega
   subst this
   exact r
 ·have e:i=n:=by omega
  subst e
  exact .inl ⟨S.stop H sm,jG ys H sm hl p⟩
noncomputable def Ct (J:It) (g:TG) (tb:TS) (D:Ends) (σ:St) (H:Hp):Prop:=
 ∃W:Nat->Nat->St->Hp->Prop,(∃m,W 0 m σ H)/\∀i m σ H,W i m σ H->
  (J.stop i H/\D.nx σ H)\/(J.go i H/\∃N:St->Hp->Prop,(∀σ' H',N σ' H'->∃m',m'<m/\W (i+1) m' σ' H')/\∀x H',J.tL i H x H'->g x σ H' λσ2 H2=>tb {D with nx:=N,ct:=N,bk:=D.nx} σ2 H2)
theorem tFor_eq {wi:TI} {g:TG} {tb:TS} {D:Ends} {σ:St} {H:Hp}:FU wi g tb D σ H=wi σ H λJ H1=>Ct J g tb D σ H1:=rfl
theorem bu {J:It} {g:TG} {tb:TS} {D:Ends} {σ:St} {H:Hp} {n:Nat} {Item:Nat->V->Hp->Hp->Prop} {Ok:Hp->Prop} (S:Src J Ok n Item) (Pv:Nat->St->Hp->Prop) (h0:Pv 0 σ H) (bE:∀i σ H,i<=n->Pv i σ H->Ok H)
  (hs:∀i x σ H H3,i<n->Pv i σ H->Item i x H H3->g x σ H3 λσ2 H2=>tb {D with nx:=Pv (i+1),ct:=Pv (i+1),bk:=D.nx} σ2 H2) (hd:∀σ H,Pv n σ H->D.nx σ H):Ct J g tb D σ H:=by
 refine⟨λi m σ H=>m=n - i/\i<=n/\Pv i σ H,⟨n,by simp,Y0 _,h0⟩,?_⟩
 rintro i m σ H ⟨rfl,hi,p⟩
 by_cases en:i<n
 ·exact .inr ⟨S.go i H en (bE i σ H hi p),Pv (i+1),λσ' H' p'=>⟨n - (i+1),by omega,rfl,en,p'⟩,λx H' y=>hs i x σ H H' en p (S.tL i H x H' en (bE i σ H hi p) y)⟩
 ·have e:i=n:=by omega
  subst e
  exact .inl ⟨S.stop H (bE i σ H hi p),hd σ H p⟩
theorem jH {K:PySem.W.Frag} {J:It} {te:TE} {tl:St} {H1:Hp} {fin:List V->Hp->Prop} {n:Nat} {Item:Nat->V->Hp->Hp->Prop} (S:Src J (ar H1) n Item) (Gq:Nat->V->V->Hp->Prop)
  (tp:∀i x H H3,i<n->ar H1 H->Item i x H H3->ar H H3/\∃p a b,x=.ref p/\dH K H3 p [a,b]/\Gq i a b H3) (hz:n<=sizeLine)
  (R:Nat->V->Hp->Prop) (mono:∀i y H H',ar H H'->R i y H->R i y H')
  (hs:∀i a b H3 (Q:VK),i<n->ar H1 H3->Gq i a b H3->(∀y H6,ar H3 H6->R i y H6->Q y H6)->te (some a::some b::tl) H3 Q)
  (jG:∀ys H,ar H1 H->ys.length=n->(∀(i:Nat) y,ys[i]?=some y->R i y H)->fin ys H):eB J (xT K 2 (gCons (gName 0) (gCons (gName 1) gNil))) fk te (none::none::tl) H1 fin:=by
 refine⟨λi m ys σ H=>m=n - i/\i<=n/\ys.length=i/\(∃w w',σ=w::w'::tl)/\ar H1 H/\∀(j:Nat) y,ys[j]?=some y->R j y H,⟨n,by simp,Y0 _,rfl,⟨_,_,rfl⟩,ar.refl _,λj y e=>by simp at e⟩,?_⟩
 rintro i m ys σ H ⟨rfl,hi,hl,⟨w,w',rfl⟩,sm,p⟩
 by_cases en:i<n
 ·refine .inr ⟨S.go i H en sm,λx H3 y=>?_⟩
  obtain⟨s3,q,a,b,rfl,sq,it⟩:=tp i x H H3 en sm (S.tL i H x H3 en sm y)
  refine⟨q,_,rfl,sq,rfl,_,_,rfl,_,_,rfl,rfl,?_⟩
  unfold fk
  refine Gi ?_
  refine hs i a b H3 _ en (sm.trans s3) it λy H6 s6 r=>⟨by omega,n - (i+1),by omega,rfl,en,by rw[Zn,List.length_singleton];omega,⟨_,_,rfl⟩,sm.trans (s3.trans s6),λj z e=>?_⟩
  by_cases hj:j<i
  ·rw[ZM (by omega)] at e
   exact mono j z _ _ (s3.trans s6) (p j z e)
  ·rw[ZH (by omega)] at e
   have e2:j - ys.length=0:=by
    by_cases q:j - ys.length=0
    ·exact q
    ·rw[Y1 (by simp;omega)] at e;cases e
   rw[e2] at e
   simp at e
   subst e
   have:j=i:=by omega
   subst this
   exact r
 ·have e:i=n:=by omega
  subst e
  exact .inl ⟨S.stop H sm,jG ys H sm hl p⟩
end L2
namespace L2
open PySem PySem.Spec PyProof.Rows
section
variable {X : Cx} {pins : List (Addr × Obj)} {σ : St} {H : Hp} {s : Shared}
theorem Inv.moved {h':Heap} {t':Nat} {ch:List Addr} (I:Inv X pins σ H s) (f:∀b∈ch,g5 X pins H b) (k:∀b o,b∉ch->s.heap.get? b=some o->h'.get? b=some o):Inv X pins σ H {s with heap:=h',toks:=t'}:=by
 have Cc:∀b u,H b=some u->b∉ch:=λb u e z=>by rw[(f b z).1] at e;cases e
 refine I.step (g':=s.gens) (d':=s.drawn) (ch:=ch) (λb hb=>⟨(f b hb).2.2.2.1,(f b hb).2.1,(f b hb).2.2.2.2.1,(f b hb).2.2.2.2.2⟩) (λb o _ _ hc e _=>k b o hc e) (λb o _ _ hc e _=>⟨o.slots,k b o hc e⟩) (λ_ _ _ _ n=>n)
  (λb o hc e=>⟨o,k b o hc e⟩) (λ_ _ e=>e) (λ_ _ _ e=>e) (λb ps e=>⟨#[],by rw[e];simp⟩) (λm hm=>?_) (λb u e=>?_) I.bare
 ·obtain⟨o,es,ep,ho,r⟩:=hm
  exact⟨o,es,ep,k _ o (λz=>(f _ z).2.1 rfl) ho,r⟩
 ·refine(I.bE b u e).nX (λc v hc q=>k c v ?_ q) (λ_ q=>q) λ_ _ q=>q
  rcases hc with z | z
  ·rw[z];exact Cc b u e
  ·exact Cc c _ z
theorem Inv.take {ad:Addr} {o:HO} (I:Inv X pins σ H s) (f:g5 X pins H ad) (new:X.s₀.heap.objs.size<=ad) (ok:bQ X.prog X.w (upd H ad o) s.heap ad o):Inv X pins σ (upd H ad o) s:=by
 obtain⟨hn,nL,nf,_,nc,np⟩:=f
 have tk:∀b u,H b=some u->b≠ad:=λb u e z=>by rw[z,hn] at e;cases e
 refine⟨I.ok,I.os,I.bare,⟨I.base.keep,I.base.slot,λb ob e m hx=>?_,I.base.there,λb xs e=>?_,λb ob u e=>?_,λb ps e=>?_⟩,I.loc,I.cell,?_,λx c e=>?_,λp hp=>?_,λb u e=>?_,I.len⟩
 ·rw[ax (YT (YY (Heap.lt_size e) new))]
  exact I.base.free b ob e m hx
 ·have q:=I.base.kj b xs e
  rw[ax (tk b _ q)];exact q
 ·have q:=I.base.lO b ob u e
  rw[ax (tk b _ q)];exact q
 ·obtain⟨mo,q⟩:=I.base.lP b ps e
  exact⟨mo,by rw[ax (tk b _ q)];exact q⟩
 ·rw[ax (Ne.symm nL)];exact I.free
 ·rw[ax (nc x c e)];exact I.gi x c e
 ·obtain⟨a,b,c⟩:=I.pin p hp
  exact⟨a,by rw[ax (np p hp)];exact b,c⟩
 ·by_cases hb:b=ad
  ·subst hb
   rw[ag] at e
   cases e
   exact ok
  ·rw[ax hb] at e
   exact(I.bE b u e).nX (λ_ _ _ q=>q) (λc r=>by rw[ax (tk _ _ r)];exact r) λc xs r=>by rw[ax (tk _ _ r)];exact r
end
noncomputable def J7 (K:PySem.W.Frag) (a b:Addr):It:=
 ⟨λi H=>∃xs ys x y,aR K H a xs/\aR K H b ys/\xs[i]?=some x/\ys[i]?=some y,
  λi H v H'=>∃p,H p=none/\v=.ref p/\∃x y,(∀xs,aR K H a xs->xs[i]?=some x)/\(∀ys,aR K H b ys->ys[i]?=some y)/\H'=upd H p (.tup [x,y]),
  λi H=>∃xs ys,aR K H a xs/\aR K H b ys/\(i=min xs.length ys.length)⟩
theorem yv {P:Program} {w:World} {K:PySem.W.Frag} {elts:List Expr} {k:Nat} {pos:Pos} (z TI TO i1 i2 a b:Addr) (D:ZipApart z TI TO i1 i2 a b):
  Turn P w K (.Tuple elts k pos) (J7 K a b) [z,TI,TO,i1,i2] z (λi h=>IsZip h z TI TO .none/\IsPair h TI (.ref i1) (.ref i2)/\(∃x y,IsPair h TO x y)/\h.IsListIter i1 a i/\h.IsListIter i2 b i) where
 mem:=by simp
 obj:=λi h st c hc=>by
  obtain⟨hz,Cu,⟨x,y,Cv⟩,⟨o1,e1,_,d1⟩,⟨o2,e2,_,d2⟩⟩:=st
  simp only[List.mem_cons,List.not_mem_nil,or_false] at hc
  rcases hc with rfl | rfl | rfl | rfl | rfl
  ·exact⟨_,hz,λv q=>by cases q⟩
  ·exact⟨_,Cu,λv q=>by cases q⟩
  ·exact⟨_,Cv,λv q=>by cases q⟩
  ·exact⟨_,e1,λv q=>by rw[d1] at q;cases q⟩
  ·exact⟨_,e2,λv q=>by rw[d2] at q;cases q⟩
 keep:=λi h h' st kp=>by
  obtain⟨hz,Cu,⟨x,y,Cv⟩,h1,h2⟩:=st
  exact⟨kp z (by simp) _ hz,kp TI (by simp) _ Cu,⟨x,y,kp TO (by simp) _ Cv⟩,h1.at λo e=>kp i1 (by simp) o e,h2.at λo e=>kp i2 (by simp) o e⟩
 item:=by
  intro X hP hw hK hc i pins s σ H E I hf st hg
  subst hP hw hK
  obtain⟨xs,ys,x,y,Bl,IV,hx,hy⟩:=hg
  obtain⟨fm,r1,p1,z1⟩:=I.list Bl
  obtain⟨mf,r2,p2,z2⟩:=I.list IV
  obtain⟨u,eu,ru⟩:=r1.get hx
  obtain⟨v,ev,rv⟩:=r2.get hy
  obtain⟨hz,Cu,⟨x0,y0,Cv⟩,h1,h2⟩:=st
  have W:=WalksT.zip2 (prog:=X.prog) (w:=X.w) (I.ok.hd hc) z TI TO i1 i2 a b D fm.toArray mf.toArray
  have li:i<min fm.toArray.size mf.toArray.size:=by
   have a1:=(List.getElem?_eq_some_iff.mp eu).1
   have a2:=(List.getElem?_eq_some_iff.mp ev).1
   simp only[YR]
   omega
  refine W.item i s _ _ li ⟨hz,Cu,⟨x0,y0,Cv⟩,h1,h2,p1.isList,p2.isList⟩ λT vals h' tk DY hT hI hm kk=>?_
  have sub:∀c∈[z,TO,i1,i2],c∈[z,TI,TO,i1,i2]:=λc hc=>by simp at hc ⊢;rcases hc with rfl | rfl | rfl | rfl <;>simp
  have I1:Inv X pins σ H {s with heap:=h',toks:=tk}:=I.moved (ch:=[z,TO,i1,i2]) (λc hc=>hf c (sub c hc)) kk
  have fT:g5 X pins H T:=I.qM hT (I.bE.fresh hT)
  refine⟨_,rfl,W.go elts k pos i T _ _ _ hm λyw bI Gr=>?_⟩
  have I2:Inv X pins σ H {s with heap:=yw,toks:=tk}:=I1.moved (s:={s with heap:=h',toks:=tk}) (t':=tk) (ch:=[z,TO,i1,i2]) (λc hc=>hf c (sub c hc)) Gr
  obtain⟨x',y',ex,ey,rfl⟩:=DY
  have pK:fm[i]?=some x':=by simpa using ex
  have IW:mf[i]?=some y':=by simpa using ey
  rw[eu] at pK;cases pK
  rw[ev] at IW;cases IW
  have J8:=W.apart _ _ _ hm
  obtain⟨oT,eT,cT,nT,dT⟩:=hI
  have J9:IsTup yw T #[u,v]:=⟨oT,Gr _ _ J8 eT,cT,nT,dT⟩
  have I3:Inv X pins σ (upd H T (.tup [x,y])) {s with heap:=yw,toks:=tk}:=
   I2.take fT (Y2 I.sz hT) ⟨by show 2<=sizeLine;decide,[u,v],.cons ru (.cons rv .nil),J9⟩
  obtain⟨b1,b2,b3,b4,b5,_,_⟩:=bI
  refine⟨.ref T,_,I3,rfl,⟨T,fT.1,rfl,x,y,λTv q=>?_,λXH q=>?_,rfl⟩,⟨b1,b2,b3,b4,b5⟩,λc hc=>?_⟩
  ·rw[I.gj q Bl];exact hx
  ·rw[I.gj q IV];exact hy
  ·rw[ax (λq=>?_)]
   ·exact(hf c hc).1
   ·subst q
    obtain⟨o,e,_⟩:∃o,s.heap.get? c=some o/\True:=by
     simp only[List.mem_cons,List.not_mem_nil,or_false] at hc
     obtain⟨o1,e1,_⟩:=h1
     obtain⟨o2,e2,_⟩:=h2
     rcases hc with rfl | rfl | rfl | rfl | rfl
     ·exact⟨_,hz,trivial⟩
     ·exact⟨_,Cu,trivial⟩
     ·exact⟨_,Cv,trivial⟩
     ·exact⟨_,e1,trivial⟩
     ·exact⟨_,e2,trivial⟩
    exact absurd (Heap.lt_size e) (Nat.not_lt.mpr hT)
 done:=by
  intro X hP hw hK hc i pins s σ H E I hf st hg
  subst hP hw hK
  obtain⟨xs,ys,Bl,IV,hi⟩:=hg
  obtain⟨fm,r1,p1,z1⟩:=I.list Bl
  obtain⟨mf,r2,p2,z2⟩:=I.list IV
  obtain⟨hz,Cu,Cv,h1,h2⟩:=st
  have W:=WalksT.zip2 (prog:=X.prog) (w:=X.w) (I.ok.hd hc) z TI TO i1 i2 a b D fm.toArray mf.toArray
  have l1:=r1.length
  have l2:=r2.length
  have e:i=min fm.toArray.size mf.toArray.size:=by simp only[YR];omega
  subst e
  have sub:∀c∈[z,TO,i1,i2],c∈[z,TI,TO,i1,i2]:=λc hc=>by simp at hc ⊢;rcases hc with rfl | rfl | rfl | rfl <;>simp
  exact W.done s _ _ ⟨hz,Cu,Cv,h1,h2,p1.isList,p2.isList⟩ λh' tk kk=>⟨rfl,I.moved (ch:=[z,TO,i1,i2]) (λc hc=>hf c (sub c hc)) kk⟩
 self:=λ_ _ _ _ _ st h=>wpAny_pyIter_zip st.1 h
noncomputable def Gu (K:PySem.W.Frag) (a:Addr):It:=
 ⟨λi H=>∃xs x,aR K H a xs/\xs[i]?=some x,
  λi H v H'=>∃p,H p=none/\v=.ref p/\∃x,(∀xs,aR K H a xs->xs[i]?=some x)/\H'=upd H p (.tup [.int i,x]),
  λi H=>∃xs,aR K H a xs/\xs.length=i⟩
theorem wZ {P:Program} {w:World} {K:PySem.W.Frag} {elts:List Expr} {k:Nat} {pos:Pos} (e it a:Addr) (IX:e≠it) (hle:a≠e) (Rw:a≠it):
  Turn P w K (.Tuple elts k pos) (Gu K a) [e,it] e (λi h=>(∃old,IsEnum h e it i old)/\h.IsListIter it a i) where
 mem:=by simp
 obj:=λi h st c hc=>by
  obtain⟨⟨old,he⟩,⟨o1,e1,_,d1⟩⟩:=st
  simp only[List.mem_cons,List.not_mem_nil,or_false] at hc
  rcases hc with rfl | rfl
  ·exact⟨_,he,λv q=>by cases q⟩
  ·exact⟨_,e1,λv q=>by rw[d1] at q;cases q⟩
 keep:=λi h h' st kp=>by
  obtain⟨⟨old,he⟩,h1⟩:=st
  exact⟨⟨old,kp e (by simp) _ he⟩,h1.at λo q=>kp it (by simp) o q⟩
 item:=by
  intro X hP hw hK hc i pins s σ H E I hf st hg
  subst hP hw hK
  obtain⟨xs,x,Bl,hx⟩:=hg
  obtain⟨fm,r1,p1,z1⟩:=I.list Bl
  obtain⟨u,eu,ru⟩:=r1.get hx
  obtain⟨he,h1⟩:=st
  have W:=WalksT.enumerate (prog:=X.prog) (w:=X.w) (I.ok.hd hc) e it a IX hle Rw fm.toArray
  have li:i<fm.toArray.size:=by
   have a1:=(List.getElem?_eq_some_iff.mp eu).1
   simp only[YR]
   omega
  refine W.item i s _ _ li ⟨he,h1,p1.isList⟩ λT vals h' tk DY hT hI hm kk=>?_
  have I1:Inv X pins σ H {s with heap:=h',toks:=tk}:=I.moved (ch:=[e,it]) hf kk
  have fT:g5 X pins H T:=I.qM hT (I.bE.fresh hT)
  refine⟨_,rfl,W.go elts k pos i T _ _ _ hm λyw bI Gr=>?_⟩
  have I2:Inv X pins σ H {s with heap:=yw,toks:=tk}:=I1.moved (s:={s with heap:=h',toks:=tk}) (t':=tk) (ch:=[e,it]) hf Gr
  obtain⟨t,x',ex,rfl⟩:=DY
  have pK:fm[i]?=some x':=by simpa using ex
  rw[eu] at pK;cases pK
  have J8:=W.apart _ _ _ hm
  obtain⟨oT,eT,cT,nT,dT⟩:=hI
  have J9:IsTup yw T #[.int i t,u]:=⟨oT,Gr _ _ J8 eT,cT,nT,dT⟩
  have I3:Inv X pins σ (upd H T (.tup [.int i,x])) {s with heap:=yw,toks:=tk}:=
   I2.take fT (Y2 I.sz hT) ⟨by show 2<=sizeLine;decide,[.int i t,u],.cons ⟨t,rfl⟩ (.cons ru .nil),J9⟩
  obtain⟨b1,b2,_⟩:=bI
  refine⟨.ref T,_,I3,rfl,⟨T,fT.1,rfl,x,λTv q=>?_,rfl⟩,⟨b1,b2⟩,λc hc=>?_⟩
  ·rw[I.gj q Bl];exact hx
  ·rw[ax (λq=>?_)]
   ·exact(hf c hc).1
   ·subst q
    obtain⟨o,e,_⟩:∃o,s.heap.get? c=some o/\True:=by
     simp only[List.mem_cons,List.not_mem_nil,or_false] at hc
     obtain⟨old,he⟩:=he
     obtain⟨o1,e1,_⟩:=h1
     rcases hc with rfl | rfl
     ·exact⟨_,he,trivial⟩
     ·exact⟨_,e1,trivial⟩
    exact absurd (Heap.lt_size e) (Nat.not_lt.mpr hT)
 done:=by
  intro X hP hw hK hc i pins s σ H E I hf st hg
  subst hP hw hK
  obtain⟨xs,Bl,hi⟩:=hg
  obtain⟨fm,r1,p1,z1⟩:=I.list Bl
  obtain⟨he,h1⟩:=st
  have W:=WalksT.enumerate (prog:=X.prog) (w:=X.w) (I.ok.hd hc) e it a IX hle Rw fm.toArray
  have l1:=r1.length
  have e:i=fm.toArray.size:=by simp only[YR];omega
  subst e
  exact W.done s _ _ ⟨he,h1,p1.isList⟩ λh' tk kk=>⟨rfl,I.moved (ch:=[_,it]) hf kk⟩
 self:=λ_ _ _ _ _ st h=>by
  obtain⟨⟨old,he⟩,_⟩:=st
  exact wpAny_pyIter_enum he h
section
variable {X : Cx} {elts : List Expr} {kk : Nat} {fW : Pos}
noncomputable def iZip (K:PySem.W.Frag) (ta:TA):TI:=λσ H R=>ta σ H λvs H1=>∃a b,vs=[.ref a,.ref b]/\(∃xs,aR K H1 a xs)/\(∃ys,aR K H1 b ys)/\R (J7 K a b) H1
theorem DZ {a b:Expr} {ta:TA} {p pos:Pos} (hg:Gl X "zip") (hm:X.mg "zip"=none) (ha:PA X [a,b] ta) (hs:starEach [a,b] X.env=[(false,eval a X.env),(false,eval b X.env)]:=by rfl) (Ck:starEach [b] X.env=[(false,eval b X.env)]:=by rfl):
  PI X (.Tuple elts kk fW) (.Call (.Name "zip" p) [a,b] [] pos) (iZip X.K ta):=by
 intro pins s σ H R I h
 refine Call_ (fc I hg hm rfl (ZY (bR (ha pos pins s σ H _ I h) λus s1 b8=>?_) (by rw[hs,Ck]) (by rw[Ck];rfl)))
 obtain⟨vs,H1,I1,r1,q1⟩:=b8
 obtain⟨a,b,e,⟨xs,q1⟩,⟨ys,q2⟩,q⟩:=q1
 subst e
 obtain⟨u,u',rfl,ra,rb⟩:=vals2 r1
 cases ra
 cases rb
 obtain⟨fm,v1,p1,z1⟩:=I1.list q1
 obtain⟨mf,v2,p2,z2⟩:=I1.list q2
 refine call_zip_2 p1.isList p2.isList λh' b1 b2 b3 b4 b5 b6 kp=>?_
 refine wpAny_pyIter_zip b1 ?_
 have I2:Inv X pins σ H1 {s1 with heap:=h'}:=I1.kept (t':=s1.toks) kp
 have la:a<s1.heap.objs.size:=by obtain⟨o,e,_⟩:=p1.isList;exact Heap.lt_size e
 have lb:b<s1.heap.objs.size:=by obtain⟨o,e,_⟩:=p2.isList;exact Heap.lt_size e
 refine⟨s1.heap.objs.size+4,[s1.heap.objs.size+4,s1.heap.objs.size+2,s1.heap.objs.size+3,s1.heap.objs.size,s1.heap.objs.size+1],_,_,H1,rfl,I2,
  yv (s1.heap.objs.size+4) (s1.heap.objs.size+2) (s1.heap.objs.size+3) s1.heap.objs.size (s1.heap.objs.size+1) a b (by constructor <;>(first | exact YT (by omega) | exact Nat.ne_of_gt (by omega) | exact YT la | exact YT lb | exact YT (YY la (Nat.le_add_right _ _)) | exact YT (YY lb (Nat.le_add_right _ _)))),⟨b1,b2,⟨_,_,b3⟩,b4,b5⟩,λc hc=>?_,q⟩
 have vh:s1.heap.objs.size<=c:=by
  simp only[List.mem_cons,List.not_mem_nil,or_false] at hc
  rcases hc with rfl | rfl | rfl | rfl | rfl <;>omega
 exact I1.qM vh (I1.bE.fresh vh)
noncomputable def iEnum (K:PySem.W.Frag) (ta:TA):TI:=λσ H R=>ta σ H λvs H1=>∃a,vs=[.ref a]/\(∃xs,aR K H1 a xs)/\R (Gu K a) H1
theorem qa {a:Expr} {ta:TA} {p pos:Pos} (hg:Gl X "enumerate") (hm:X.mg "enumerate"=none) (ha:PA X [a] ta) (hs:starEach [a] X.env=[(false,eval a X.env)]:=by rfl):
  PI X (.Tuple elts kk fW) (.Call (.Name "enumerate" p) [a] [] pos) (iEnum X.K ta):=by
 intro pins s σ H R I h
 refine Call_ (fc I hg hm rfl (ZY (bR (ha pos pins s σ H _ I h) λus s1 b8=>?_) hs rfl))
 obtain⟨vs,H1,I1,r1,q1⟩:=b8
 obtain⟨a,e,⟨xs,q1⟩,q⟩:=q1
 subst e
 obtain⟨u,rfl,ra⟩:=vals1 r1
 cases ra
 obtain⟨fm,v1,p1,z1⟩:=I1.list q1
 refine call_enumerate_list p1.isList λh' b1 b2 b3 kp=>?_
 refine wpAny_pyIter_enum b1 ?_
 have I2:Inv X pins σ H1 {s1 with heap:=h'}:=I1.kept (t':=s1.toks) kp
 have la:a<s1.heap.objs.size:=by obtain⟨o,e,_⟩:=p1.isList;exact Heap.lt_size e
 refine⟨s1.heap.objs.size+1,[s1.heap.objs.size+1,s1.heap.objs.size],_,_,H1,rfl,I2,
  wZ (s1.heap.objs.size+1) s1.heap.objs.size a (Nat.ne_of_gt (Zq _)) (YT (ZJ la)) (YT la),⟨⟨_,b1⟩,b2⟩,λc hc=>?_,q⟩
 have vh:s1.heap.objs.size<=c:=by
  simp only[List.mem_cons,List.not_mem_nil,or_false] at hc
  rcases hc with rfl | rfl <;>omega
 exact I1.qM vh (I1.bE.fresh vh)
end
theorem lE {K:PySem.W.Frag} {a b:Addr} {xs ys:List V} {Ok:Hp->Prop} (h1:∀H,Ok H->aR K H a xs) (h2:∀H,Ok H->aR K H b ys):
  Src (J7 K a b) Ok (min xs.length ys.length) (λi v H H3=>∃p x y,H p=none/\v=.ref p/\xs[i]?=some x/\ys[i]?=some y/\H3=upd H p (.tup [x,y])) where
 go:=λi H hi ok=>⟨xs,ys,xs[i]'(by omega),ys[i]'(by omega),h1 H ok,h2 H ok,by simp,by simp⟩
 tL:=λi H x H3 hi ok ⟨p,n,e,u,v,e1,e2,e3⟩=>⟨p,u,v,n,e,e1 xs (h1 H ok),e2 ys (h2 H ok),e3⟩
 stop:=λH ok=>⟨xs,ys,h1 H ok,h2 H ok,rfl⟩
theorem eG {K:PySem.W.Frag} {a:Addr} {xs:List V} {Ok:Hp->Prop} (h1:∀H,Ok H->aR K H a xs):
  Src (Gu K a) Ok xs.length (λi v H H3=>∃p x,H p=none/\v=.ref p/\xs[i]?=some x/\H3=upd H p (.tup [.int i,x])) where
 go:=λi H hi ok=>⟨xs,xs[i],h1 H ok,by simp [hi]⟩
 tL:=λi H x H3 hi ok ⟨p,n,e,u,e1,e3⟩=>⟨p,u,n,e,e1 xs (h1 H ok),e3⟩
 stop:=λH ok=>⟨xs,h1 H ok,rfl⟩
end L2
namespace L2
open PySem PySem.Spec PyProof.Rows
inductive Dat where
 | bV | bl (b:Bool) | int (i:Int) | str (x:Str) | tup (l:List Dat) | lst (l:List Dat)
mutual
noncomputable def Rep (H:Hp):Dat->V->Prop
 | .bV,v=>v=.bV
 | .bl b,v=>v=.bl b
 | .int i,v=>v=.int i
 | .str x,v=>v=.str x
 | .tup ds,v=>∃p vs,v=.ref p/\H p=some (.tup vs)/\bq H ds vs
 | .lst ds,v=>∃p vs,v=.ref p/\H p=some (.lst vs)/\bq H ds vs
noncomputable def bq (H:Hp):List Dat->List V->Prop
 | [],vs=>vs=[]
 | d::ds,vs=>∃v r,vs=v::r/\Rep H d v/\bq H ds r
end
mutual
theorem Rep.mono {H H':Hp} (s:ar H H'):∀{d:Dat} {v:V},Rep H d v->Rep H' d v
 | .bV,_,h=>by rw[Rep] at *;exact h
 | .bl _,_,h=>by rw[Rep] at *;exact h
 | .int _,_,h=>by rw[Rep] at *;exact h
 | .str _,_,h=>by rw[Rep] at *;exact h
 | .tup _,_,h=>by
  rw[Rep] at *
  obtain⟨p,vs,e,hp,r⟩:=h
  exact⟨p,vs,e,s _ _ hp,bq.mono s r⟩
 | .lst _,_,h=>by
  rw[Rep] at *
  obtain⟨p,vs,e,hp,r⟩:=h
  exact⟨p,vs,e,s _ _ hp,bq.mono s r⟩
theorem bq.mono {H H':Hp} (s:ar H H'):∀{ds:List Dat} {vs:List V},bq H ds vs->bq H' ds vs
 | [],_,h=>by rw[bq] at *;exact h
 | _::_,_,h=>by
  rw[bq] at *
  obtain⟨v,r,e,h1,h2⟩:=h
  exact⟨v,r,e,Rep.mono s h1,bq.mono s h2⟩
end
theorem bq.length {H:Hp}:∀{ds:List Dat} {vs:List V},bq H ds vs->ds.length=vs.length
 | [],_,h=>by rw[bq] at h;subst h;rfl
 | _::_,_,h=>by
  rw[bq] at h
  obtain⟨v,r,rfl,_,h2⟩:=h
  simp [h2.length]
theorem bq.get {H:Hp}:∀{ds:List Dat} {vs:List V} {i:Nat} {v:V},bq H ds vs->vs[i]?=some v->∃d,ds[i]?=some d/\Rep H d v
 | [],_,i,v,h,e=>by rw[bq] at h;subst h;simp at e
 | d::ds,_,i,v,h,e=>by
  rw[bq] at h
  obtain⟨v',r,rfl,h1,h2⟩:=h
  cases i with
  | zero=>simp at e;subst e;exact⟨d,rfl,h1⟩
  | succ i=>simp at e;obtain⟨d',e',r'⟩:=h2.get e;exact⟨d',by simpa using e',r'⟩
theorem bq.at {H:Hp}:∀{ds:List Dat} {vs:List V} {i:Nat} {d:Dat},bq H ds vs->ds[i]?=some d->∃v,vs[i]?=some v/\Rep H d v
 | [],_,i,v,h,e=>by simp at e
 | d::ds,_,i,d',h,e=>by
  rw[bq] at h
  obtain⟨v',r,rfl,h1,h2⟩:=h
  cases i with
  | zero=>simp at e;subst e;exact⟨v',rfl,h1⟩
  | succ i=>simp at e;obtain⟨v,e',r'⟩:=h2.at e;exact⟨v,by simpa using e',r'⟩
theorem bq.of {H:Hp}:∀{ds:List Dat} {vs:List V},ds.length=vs.length->(∀(i:Nat) d v,ds[i]?=some d->vs[i]?=some v->Rep H d v)->bq H ds vs
 | [],[],_,_=>by rw[bq]
 | [],_::_,h,_=>by simp at h
 | _::_,[],h,_=>by simp at h
 | d::ds,v::vs,h,k=>by
  rw[bq]
  exact⟨v,vs,rfl,k 0 d v rfl rfl,bq.of (by simpa using h) λi d' v' e1 e2=>k (i+1) d' v' (by simpa using e1) (by simpa using e2)⟩
noncomputable def depth:Dat->Nat
 | .tup l=>1+dL l
 | .lst l=>1+dL l
 | _=>0
where dL:List Dat->Nat
 | []=>0
 | d::ds=>max (depth d) (dL ds)
theorem eI {d:Dat}:∀{ds:List Dat},d∈ds->depth d<=depth.dL ds
 | e::ds,h=>by
  rw[depth.dL]
  rcases List.mem_cons.mp h with rfl | h
  ·exact Nat.le_max_left _ _
  ·exact Y2 (eI h) (Nat.le_max_right _ _)
section
variable {X : Cx} {pins : List (Addr × Obj)} {σ : St} {H : Hp} {s : Shared}
theorem all_true (n:Nat):((List.range n).all λ_=>true)=true:=by simp
theorem yy (I:Inv X pins σ H s):∀(n:Nat) (d:Dat),depth d<=n->∀(v v':V) (u u':Value) (A:Around),Rep H d v->Rep H d v'->RelV v u->RelV v' u'->A.units+n<cLine->SeqAt.EqAt A s u u' true:=by
 intro n
 induction n with
 | zero=>
  intro d hd v v' u u' A h h' r r' hu
  cases d with
  | bV=>rw[Rep] at h h';subst h h';cases r;cases r';exact SeqAt.EqAt.same _
  | bl b=>rw[Rep] at h h';subst h h';cases r;cases r';exact SeqAt.EqAt.same _
  | int i=>rw[Rep] at h h';subst h h';obtain⟨t,rfl⟩:=r;obtain⟨t',rfl⟩:=r';have:=SeqAt.EqAt.int_int (A:=A) (s:=s) i t i t';simpa using this
  | str x=>rw[Rep] at h h';subst h h';obtain⟨t,rfl⟩:=r;obtain⟨t',rfl⟩:=r';have:=SeqAt.EqAt.str_str (A:=A) (s:=s) x t x t';simpa using this
  | tup l=>rw[depth] at hd;omega
  | lst l=>rw[depth] at hd;omega
 | succ n ih=>
  intro d hd v v' u u' A h h' r r' hu
  cases d with
  | bV=>rw[Rep] at h h';subst h h';cases r;cases r';exact SeqAt.EqAt.same _
  | bl b=>rw[Rep] at h h';subst h h';cases r;cases r';exact SeqAt.EqAt.same _
  | int i=>rw[Rep] at h h';subst h h';obtain⟨t,rfl⟩:=r;obtain⟨t',rfl⟩:=r';have:=SeqAt.EqAt.int_int (A:=A) (s:=s) i t i t';simpa using this
  | str x=>rw[Rep] at h h';subst h h';obtain⟨t,rfl⟩:=r;obtain⟨t',rfl⟩:=r';have:=SeqAt.EqAt.str_str (A:=A) (s:=s) x t x t';simpa using this
  | tup l=>
   rw[Rep] at h h'
   obtain⟨p,vs,rfl,hp,rl⟩:=h
   obtain⟨p',Gv,rfl,jI,yz⟩:=h'
   cases r
   cases r'
   rw[depth] at hd
   by_cases Gw:p=p'
   ·subst Gw;exact SeqAt.EqAt.same _
   obtain⟨aN,rv,pl,hz⟩:=I.tuple (dH.of hp)
   obtain⟨its',yA,uo,Gx⟩:=I.tuple (dH.of jI)
   have e1:=rl.length
   have e2:=yz.length
   have l1:=rv.length
   have l2:=yA.length
   have R:=SeqAt.RcAt.tuples (A:=A) (e:=λ_=>true) pl uo (by omega) (λj h1 h2=>?_)
   ·simp only[YR,all_true,Bool.true_and] at R
    rw[show(aN.length==its'.length)=true by simp;omega] at R
    exact .of_refs Gw R
   ·rw[YR] at h1 h2
    obtain⟨d,ed⟩:∃d,l[j]?=some d:=⟨l[j]'(by omega),by simp⟩
    obtain⟨v1,f1,q1⟩:=rl.at ed
    obtain⟨v2,f2,q2⟩:=yz.at ed
    obtain⟨u1,g1,w1⟩:=rv.get f1
    obtain⟨u2,g2,w2⟩:=yA.get f2
    have a1:aN.toArray[j]=u1:=by simpa [YM h1] using g1
    have a2:its'.toArray[j]=u2:=by simpa [YM h2] using g2
    rw[a1,a2]
    have:=eI (YN ed)
    exact ih d (by omega) v1 v2 u1 u2 A.in1 q1 q2 w1 w2 (by show A.units+1+n<cLine;omega)
  | lst l=>
   rw[Rep] at h h'
   obtain⟨p,vs,rfl,hp,rl⟩:=h
   obtain⟨p',Gv,rfl,jI,yz⟩:=h'
   cases r
   cases r'
   rw[depth] at hd
   by_cases Gw:p=p'
   ·subst Gw;exact SeqAt.EqAt.same _
   obtain⟨aN,rv,pl,hz⟩:=I.list (aR.of hp)
   obtain⟨its',yA,uo,Gx⟩:=I.list (aR.of jI)
   have e1:=rl.length
   have e2:=yz.length
   have l1:=rv.length
   have l2:=yA.length
   have R:=SeqAt.RcAt.lists (A:=A) (e:=λ_=>true) pl.isList uo.isList (by simp only[YR];omega) (by omega) (λj h1 h2=>?_)
   ·rw[all_true] at R
    exact .of_refs Gw R
   ·rw[YR] at h1 h2
    obtain⟨d,ed⟩:∃d,l[j]?=some d:=⟨l[j]'(by omega),by simp⟩
    obtain⟨v1,f1,q1⟩:=rl.at ed
    obtain⟨v2,f2,q2⟩:=yz.at ed
    obtain⟨u1,g1,w1⟩:=rv.get f1
    obtain⟨u2,g2,w2⟩:=yA.get f2
    have a1:aN.toArray[j]=u1:=by simpa [YM h1] using g1
    have a2:its'.toArray[j]=u2:=by simpa [YM h2] using g2
    rw[a1,a2]
    have:=eI (YN ed)
    exact ih d (by omega) v1 v2 u1 u2 A.in1 q1 q2 w1 w2 (by show A.units+1+n<cLine;omega)
end
section
variable {X : Cx}
noncomputable def Gy (b:Bool):R2:=λx y H Q=>∃d,Rep H d x/\Rep H d y/\(∃p,x=.ref p)/\depth d<=40/\Q (.bl b) H
theorem yB {pins:List (Addr×Obj)} {σ:St} {H:Hp} {s:Shared} {d:Dat} {p p':Addr} (I:Inv X pins σ H s) (hu:X.A.units+64<cLine) (h:Rep H d (.ref p)) (h':Rep H d (.ref p')) (hd:depth d<=40):
  (∃aN its':List Value,IsTup s.heap p aN.toArray/\IsTup s.heap p' its'.toArray/\aN.length=its'.length/\∀j (h1:j<aN.toArray.size) (h2:j<its'.toArray.size),SeqAt.EqAt X.A.in1 s aN.toArray[j] its'.toArray[j] true)\/
  (∃aN its':List Value,s.heap.IsList p aN.toArray/\s.heap.IsList p' its'.toArray/\aN.length=its'.length/\∀j (h1:j<aN.toArray.size) (h2:j<its'.toArray.size),SeqAt.EqAt X.A.in1 s aN.toArray[j] its'.toArray[j] true):=by
 cases d with
 | bV=>rw[Rep] at h;cases h
 | bl b=>rw[Rep] at h;cases h
 | int i=>rw[Rep] at h;cases h
 | str x=>rw[Rep] at h;cases h
 | tup l=>
  left
  rw[Rep] at h h'
  obtain⟨_,vs,e,hp,rl⟩:=h
  cases e
  obtain⟨_,Gv,e,jI,yz⟩:=h'
  cases e
  rw[depth] at hd
  obtain⟨aN,rv,pl,hz⟩:=I.tuple (dH.of hp)
  obtain⟨its',yA,uo,Gx⟩:=I.tuple (dH.of jI)
  have e1:=rl.length
  have e2:=yz.length
  have l1:=rv.length
  have l2:=yA.length
  refine⟨aN,its',pl,uo,by omega,λj h1 h2=>?_⟩
  rw[YR] at h1 h2
  obtain⟨d,ed⟩:∃d,l[j]?=some d:=⟨l[j]'(by omega),by simp⟩
  obtain⟨v1,f1,q1⟩:=rl.at ed
  obtain⟨v2,f2,q2⟩:=yz.at ed
  obtain⟨u1,g1,w1⟩:=rv.get f1
  obtain⟨u2,g2,w2⟩:=yA.get f2
  have a1:aN.toArray[j]=u1:=by simpa [YM h1] using g1
  have a2:its'.toArray[j]=u2:=by simpa [YM h2] using g2
  rw[a1,a2]
  have:=eI (YN ed)
  exact yy I 40 d (by omega) v1 v2 u1 u2 X.A.in1 q1 q2 w1 w2 (by show X.A.units+1+40<cLine;omega)
 | lst l=>
  right
  rw[Rep] at h h'
  obtain⟨_,vs,e,hp,rl⟩:=h
  cases e
  obtain⟨_,Gv,e,jI,yz⟩:=h'
  cases e
  rw[depth] at hd
  obtain⟨aN,rv,pl,hz⟩:=I.list (aR.of hp)
  obtain⟨its',yA,uo,Gx⟩:=I.list (aR.of jI)
  have e1:=rl.length
  have e2:=yz.length
  have l1:=rv.length
  have l2:=yA.length
  refine⟨aN,its',pl.isList,uo.isList,by omega,λj h1 h2=>?_⟩
  rw[YR] at h1 h2
  obtain⟨d,ed⟩:∃d,l[j]?=some d:=⟨l[j]'(by omega),by simp⟩
  obtain⟨v1,f1,q1⟩:=rl.at ed
  obtain⟨v2,f2,q2⟩:=yz.at ed
  obtain⟨u1,g1,w1⟩:=rv.get f1
  obtain⟨u2,g2,w2⟩:=yA.get f2
  have a1:aN.toArray[j]=u1:=by simpa [YM h1] using g1
  have a2:its'.toArray[j]=u2:=by simpa [YM h2] using g2
  rw[a1,a2]
  have:=eI (YN ed)
  exact yy I 40 d (by omega) v1 v2 u1 u2 X.A.in1 q1 q2 w1 w2 (by show X.A.units+1+40<cLine;omega)
theorem D1 (hu:X.A.units+64<cLine):jv X (compareOp .Eq) (Gy true):=by
 intro pins s σ H x y v u Q I rx ry h
 obtain⟨d,h1,h2,⟨p,rfl⟩,hd,q⟩:=h
 obtain⟨p',rfl⟩:∃p',y=.ref p':=by
  cases d with
  | bV=>rw[Rep] at h1;cases h1
  | bl b=>rw[Rep] at h1;cases h1
  | int i=>rw[Rep] at h1;cases h1
  | str x=>rw[Rep] at h1;cases h1
  | tup l=>rw[Rep] at h2;obtain⟨p',_,e,_⟩:=h2;exact⟨p',e⟩
  | lst l=>rw[Rep] at h2;obtain⟨p',_,e,_⟩:=h2;exact⟨p',e⟩
 cases rx
 cases ry
 rcases yB I hu h1 h2 hd with ⟨aN,its',a,b,e,k⟩ | ⟨aN,its',a,b,e,k⟩
 ·refine SeqAt.eq_tupleAt (e:=λ_=>true) a b (by omega) k ⟨.bl true,H,I,?_,q⟩
  show Value.bool _=Value.bool true
  rw[all_true,YR,YR,e]
  simp
 ·refine SeqAt.eq_listAt (e:=λ_=>true) a b (by simp only[YR];exact e) (by omega) k ⟨.bl true,H,I,?_,q⟩
  show Value.bool _=Value.bool true
  rw[all_true]
theorem D3 (hu:X.A.units+64<cLine):jv X (compareOp .NotEq) (Gy false):=by
 intro pins s σ H x y v u Q I rx ry h
 obtain⟨d,h1,h2,⟨p,rfl⟩,hd,q⟩:=h
 obtain⟨p',rfl⟩:∃p',y=.ref p':=by
  cases d with
  | bV=>rw[Rep] at h1;cases h1
  | bl b=>rw[Rep] at h1;cases h1
  | int i=>rw[Rep] at h1;cases h1
  | str x=>rw[Rep] at h1;cases h1
  | tup l=>rw[Rep] at h2;obtain⟨p',_,e,_⟩:=h2;exact⟨p',e⟩
  | lst l=>rw[Rep] at h2;obtain⟨p',_,e,_⟩:=h2;exact⟨p',e⟩
 cases rx
 cases ry
 rcases yB I hu h1 h2 hd with ⟨aN,its',a,b,e,k⟩ | ⟨aN,its',a,b,e,k⟩
 ·refine SeqAt.RcNeAt.tuples (A:=X.A) (e:=λ_=>true) a b (by omega) k X.prog X.w X.xe _ ⟨.bl false,H,I,?_,q⟩
  show Value.bool _=Value.bool false
  rw[all_true,YR,YR,e]
  simp
 ·refine SeqAt.RcNeAt.lists (A:=X.A) (e:=λ_=>true) a b (by simp only[YR];exact e) (by omega) k X.prog X.w X.xe _ ⟨.bl false,H,I,?_,q⟩
  show Value.bool _=Value.bool false
  rw[all_true]
  rfl
noncomputable def rNeT:R2:=λx y H Q=>∃p q xs ys,x=.ref p/\y=.ref q/\H p=some (.tup xs)/\H q=some (.tup ys)/\xs.all dE=true/\ys.all dE=true/\Q (.bl (!IQ xs ys)) H
end
end L2
namespace Nm
noncomputable def ins (x:Int):List Int->List Int
 | []=>[x]
 | y::r=>if x<=y then x::y::r else y::ins x r
noncomputable def gh:List Int->List Int
 | []=>[]
 | x::r=>ins x (gh r)
theorem mC (x:Int):∀l,(ins x l).Perm (x::l)
 | []=>.refl _
 | y::r=>by
  unfold ins
  split
  ·exact .refl _
  ·exact((mC x r).cons y).trans (.swap ..)
theorem gv:∀l,(gh l).Perm l
 | []=>.refl _
 | x::r=>(mC x _).trans ((gv r).cons x)
set_option tactic.hygienic true in
theorem vi (x:Int):∀l:List Int,l.Pairwise (·<=·)->(ins x l).Pairwise (·<=·)
 | [],_=>by unfold ins;simp
 | y::r,h=>by
  unfold ins
  rw[List.pairwise_cons] at h
  split
  ·rename_i c
   rw[List.pairwise_cons,List.pairwise_cons]
   refine⟨λz hz=>?_,h.1,h.2⟩
   rcases List.mem_cons.mp hz with rfl | hz
   ·exact c
   ·have:=h.1 z hz;omega
  ·rename_i c
   rw[List.pairwise_cons]
   refine⟨λz hz=>?_,vi x r h.2⟩
   rcases List.mem_cons.mp ((mC x r).mem_iff.mp hz) with rfl | hz
   ·omega
   ·exact h.1 z hz
theorem qb:∀l:List Int,(gh l).Pairwise (·<=·)
 | []=>by unfold gh;simp
 | x::r=>vi x _ (qb r)
theorem mD (l:List Int):(gh l).length=l.length:=(gv l).length_eq
theorem vj:∀{a b:List Int},a.Perm b->a.Pairwise (·<=·)->b.Pairwise (·<=·)->a=b
 | [],b,p,_,_=>by simpa using p.symm.eq_nil
 | x::a,[],p,_,_=>by simpa using p.eq_nil
 | x::a,y::b,p,ha,hb=>by
  rw[List.pairwise_cons] at ha hb
  have e:x=y:=by
   have h1:y∈x::a:=p.mem_iff.mpr YW
   have h2:x∈y::b:=p.mem_iff.mp YW
   rcases List.mem_cons.mp h1 with h1 | h1
   ·exact h1.symm
   ·rcases List.mem_cons.mp h2 with h2 | h2
    ·exact h2
    ·have:=ha.1 y h1
     have:=hb.1 x h2
     omega
  subst e
  rw[vj ((List.perm_cons x).mp p) ha.2 hb.2]
theorem qc {a b:List Int} (p:a.Perm b) (o:a.Pairwise (·<=·)):a=gh b:=vj (p.trans (gv b).symm) o (qb b)
theorem uq {a:List Int} (o:a.Pairwise (·<=·)):gh a=a:=(qc (.refl _) o).symm
theorem vk {a:Int} {l:List Int}:a∈gh l↔a∈l:=(gv l).mem_iff
theorem D4 {l:List Int} (h:l.Nodup):(gh l).Pairwise (·<·):=by
 have n:(gh l).Nodup:=(gv l).nodup_iff.mpr h
 have o:=qb l
 exact(List.pairwise_and_iff.mpr ⟨o,n⟩).imp λ{a b} ⟨x,y⟩=>by omega
end Nm
namespace L2
open PySem PySem.Spec PyProof.Rows PySem.W
section
variable {X : Cx}
theorem ur {us:List Value} {ns:List Int} (h:IntsAre us ns):∃xs,us.toArray=intItems xs/\preSum (numAt xs) xs.size=ns.sum:=by
 obtain⟨xs,hx⟩:=h.allInts.items
 refine⟨xs,hx,?_⟩
 have e1:ns=xs.toList.map (·.1):=by
  rw[<-nums_intItems,<-hx]
  exact h.numsOf.symm
 rw[preSum_eq,Y6 (by simp),e1]
theorem uu (hc:X.calm=true):bY X (.builtin "sum") (λxs H Q=>∃p ns,xs=[.ref p]/\aR X.K H p (List.map V.int ns)/\Q (.int ns.sum) H):=by
 intro pins s σ H xs us Q I r h
 obtain⟨p,ns,rfl,hq,q⟩:=h
 obtain⟨u,rfl,rx⟩:=vals1 r
 cases rx
 obtain⟨aN,rv,pl,hz⟩:=I.list hq
 obtain⟨ys,e1,e2⟩:=ur (intsAre_of rv)
 have hl:=pl.isList
 rw[e1] at hl
 refine sum_intListG (I.ok.hd hc) hl λh' tk t' hk=>⟨.int ns.sum,H,I.kept (t':=tk) hk,⟨t',?_⟩,q⟩
 rw[e2]
theorem qd {us:List Value} {ns:List Int} (h:IntsAre us ns):aV (ns.map V.int) us:=by
 induction h with
 | nil=>exact .nil
 | cons n t _ ih=>exact .cons ⟨t,rfl⟩ ih
noncomputable def eJ (kvs:List (Key×V)):List Int:=kvs.map λp=>match p.1 with | .inl i=>i | .inr _=>0
noncomputable def allI (kvs:List (Key×V)):Prop:=∀p∈kvs,∃i,p.1=Sum.inl i
end
section
variable {X : Cx} {pins : List (Addr × Obj)} {σ : St} {H : Hp} {s : Shared}
end
noncomputable def Tw (d:Addr) (o:Obj) (kvs:List (Key×V)):It:=
 ⟨λi H=>H d=some (.qF o (.dK kvs))/\i<kvs.length,λi H x H'=>H'=H/\∃p,kvs[i]?=some p/\x=kV p.1,λi H=>H d=some (.qF o (.dK kvs))/\i=kvs.length⟩
section
variable {X : Cx} {x : Str} {Ka : Pos}
noncomputable def iDict (tl:TE):TI:=λσ H R=>tl σ H λv H1=>∃d kvs,v=.ref d/\H1 d=some (.dK kvs)/\∀o,R (Tw d o kvs) (upd H1 d (.qF o (.dK kvs)))
end
end L2
namespace L2
open PySem PySem.Spec PyProof.Rows PySem.W
section
variable {X : Cx} {K : PySem.W.Frag}
theorem aP {tg l:Expr} {tl:TE} (hl:PE X l tl) (hK:X.K=K:=by rfl):PI X tg l (iList K tl):=by subst hK;exact AN hl
theorem Bm {tg l:Expr} {tl:TE} (hl:PE X l tl) (hK:X.K=K:=by rfl):PI X tg l (iTup K tl):=by subst hK;exact Dp hl
theorem iW {elts:List Expr} {kk:Nat} {fW:Pos} {a b:Expr} {ta:TA} {p pos:Pos} (hg:Gl X "zip") (hm:X.mg "zip"=none) (ha:PA X [a,b] ta) (n1:noStar a=true:=by rfl) (n2:noStar b=true:=by rfl) (hK:X.K=K:=by rfl):
  PI X (.Tuple elts kk fW) (.Call (.Name "zip" p) [a,b] [] pos) (iZip K ta):=by subst hK;exact DZ hg hm ha (by rw[se n1,se n2];rfl) (by rw[se n2];rfl)
theorem cm {elts:List Expr} {kk:Nat} {fW:Pos} {a:Expr} {ta:TA} {p pos:Pos} (hg:Gl X "enumerate") (hm:X.mg "enumerate"=none) (ha:PA X [a] ta) (n1:noStar a=true:=by rfl) (hK:X.K=K:=by rfl):
  PI X (.Tuple elts kk fW) (.Call (.Name "enumerate" p) [a] [] pos) (iEnum K ta):=by subst hK;exact qa hg hm ha (by rw[se n1];rfl)
theorem bK {es:List Expr} {k:Nat} {t:Cg} {n:Nat} {pos:Pos} (hc:X.calm=true) (h:Fl X es t) (hn:(assignEach es X.env).length=n:=by rfl) (hst:(assignEach es X.env).findIdx? (·.1)=none:=by rfl) (hK:X.K=K:=by rfl):PG X (.Tuple es k pos) (xT K n t):=by
 subst hK;exact Dj hc h hn hst
theorem o4 (hK:X.K=K:=by rfl):Co X (DH K):=by subst hK;exact yi
theorem il (hK:X.K=K:=by rfl):bY X (.builtin "len") (λxs H Q=>∃p ns,xs=[.ref p]/\aR K H p (List.map V.int ns)/\Q (.int (List.length ns:Nat)) H):=by subst hK;exact wW
theorem oh (hK:X.K=K:=by rfl):jv X (compareOp .NotIn) (JR K true):=by subst hK;exact pT
theorem bX (hK:X.K=K:=by rfl):bY X (.type "list") (λxs H Q=>∃p ys,xs=[.ref p]/\(aR K H p ys\/dH K H p ys)/\∀l,H l=none->Q (.ref l) (upd H l (.lst ys))):=by subst hK;exact pU
theorem gN (hK:X.K=K:=by rfl):bY X (.builtin "isinstance") (λxs H Q=>∃x c t b,xs=[x,.ty c]/\fX K H x t/\PySem.W.kitOne K t (.type c)=some b/\Q (.bl b) H):=by subst hK;exact yk
theorem gx (hc:X.calm=true:=by rfl) (hK:X.K=K:=by rfl):bY X (.builtin "sum") (λxs H Q=>∃p ns,xs=[.ref p]/\aR K H p (List.map V.int ns)/\Q (.int ns.sum) H):=by subst hK;exact uu hc
theorem rj (hK:X.K=K:=by rfl):IM X (rSlL K):=by subst hK;exact AY
theorem IP.r {id:String} {r:V->List V->Hp->VK->Prop} (h:IP X id r):JO X id r:=h
end
end L2
namespace Nm
abbrev Ws:=List (Int×Int)
noncomputable def keys (ws:Ws):List Int:=ws.map (·.1)
noncomputable def look:Ws->Int->Int
 | [],_=>0
 | p::r,k=>if p.1=k then p.2 else look r k
noncomputable def put:Ws->Int->Int->Ws
 | [],k,v=>[(k,v)]
 | p::r,k,v=>if p.1=k then (k,v)::r else p::put r k v
noncomputable def Tx (ws:Ws):Int:=(ws.map (·.2)).sum
structure Over (as ws:Ws) (B T:Int):Prop where
 nd:(keys ws).Nodup
 perm:(keys as).Perm (keys ws)
 val:∀k∈keys ws,look as k*T=look ws k*B
theorem yC {ws:Ws} {p:Int×Int} (h:(keys ws).Nodup) (hp:p∈ws):look ws p.1=p.2:=by
 induction ws with
 | nil=>cases hp
 | cons q r ih=>
  have h':q.1∉keys r/\(keys r).Nodup:=by simpa [keys] using h
  unfold look
  rcases List.mem_cons.mp hp with rfl | hp
  ·rw[if_pos rfl]
  ·rw[if_neg (λz=>h'.1 (by rw[z];exact List.mem_map.mpr ⟨p,hp,rfl⟩))]
   exact ih h'.2 hp
theorem yD {c:Int}:∀{l:List Int},(∀x∈l,x<=c)->l.sum<=l.length*c
 | [],_=>by simp
 | x::r,h=>by
  have hx:=h x YW
  have:=yD λy hy=>h y (YU _ hy)
  rw[List.sum_cons,Y8,Int.natCast_succ,Int.add_mul]
  omega
theorem D5 {ws:Ws} (nd:(keys ws).Nodup) {P:Int->Prop} (h:∀k∈keys ws,P (look ws k)):∀x∈ws.map (·.2),P x:=λx hx=>by
 obtain⟨p,hp,rfl⟩:=List.mem_map.mp hx
 have:=h p.1 (List.mem_map.mpr ⟨p,hp,rfl⟩)
 rwa [yC nd hp] at this
theorem qe {ws:Ws} {c:Int} (nd:(keys ws).Nodup) (w:∀k∈keys ws,look ws k<=c):Tx ws<=ws.length*c:=by
 have:=yD (D5 nd w)
 rwa [YL] at this
end Nm
namespace L2
open PySem PySem.Spec PyProof.Rows
noncomputable def bw (p:Int×Int):Dat:=.tup [.int p.1,.int p.2]
theorem bW {H:Hp} {r:Int×Int} {v:V}:Rep H (bw r) v↔∃p,v=.ref p/\H p=some (.tup [.int r.1,.int r.2]):=by
 unfold bw
 simp only[Rep,bq]
 constructor
 ·rintro⟨p,vs,rfl,hp,a,b,rfl,rfl,c,d,rfl,rfl,rfl⟩
  exact⟨p,rfl,hp⟩
 ·rintro⟨p,rfl,hp⟩
  exact⟨p,_,rfl,hp,_,_,rfl,rfl,_,_,rfl,rfl,rfl⟩
theorem aS {H:Hp} {ds:List Dat} {v:V}:Rep H (.lst ds) v↔∃p vs,v=.ref p/\H p=some (.lst vs)/\bq H ds vs:=by rw[Rep]
noncomputable def Rx (H H':Hp):Prop:=∀p xs,(H p=some (.tup xs)->H' p=some (.tup xs))/\(H p=some (.lst xs)->H' p=some (.lst xs))
mutual
theorem Rep.Gz {H H':Hp} (s:Rx H H'):∀{d:Dat} {v:V},Rep H d v->Rep H' d v
 | .bV,_,h=>by rw[Rep] at *;exact h
 | .bl _,_,h=>by rw[Rep] at *;exact h
 | .int _,_,h=>by rw[Rep] at *;exact h
 | .str _,_,h=>by rw[Rep] at *;exact h
 | .tup _,_,h=>by
  rw[Rep] at *
  obtain⟨p,vs,e,hp,r⟩:=h
  exact⟨p,vs,e,(s _ _).1 hp,bq.Gz s r⟩
 | .lst _,_,h=>by
  rw[Rep] at *
  obtain⟨p,vs,e,hp,r⟩:=h
  exact⟨p,vs,e,(s _ _).2 hp,bq.Gz s r⟩
theorem bq.Gz {H H':Hp} (s:Rx H H'):∀{ds:List Dat} {vs:List V},bq H ds vs->bq H' ds vs
 | [],_,h=>by rw[bq] at *;exact h
 | _::_,_,h=>by
  rw[bq] at *
  obtain⟨v,r,e,h1,h2⟩:=h
  exact⟨v,r,e,Rep.Gz s h1,bq.Gz s h2⟩
end
theorem none_of {H H':Hp} (s:ar H H') {p:Addr} (h:H' p=none):H p=none:=by
 cases e:H p with
 | none=>rfl
 | some o=>rw[s p o e] at h;cases h
end L2
namespace Nm
end Nm
namespace L2
open PySem PySem.Spec PyProof.Rows
theorem cZ {α:Type} {J:It} {tc:TT} {te:TE} {tl:St} {H1:Hp} {fin:List V->Hp->Prop} {Item:Nat->V->Hp->Hp->Prop} (as:List α) (f:α->Option Int) (S:Src J (ar H1) as.length Item) (sub:∀i x H H3,Item i x H H3->H3=H) (hz:as.length<=sizeLine)
  (hs:∀i a x,as[i]?=some a->Item i x H1 H1->∀(Y:VK) (N:Hp->Prop),(∀z,f a=some z->Y (.int z) H1)->(f a=none->N H1)->tc (some x::tl) H1 λb H5=>if b=true then te (some x::tl) H5 Y else N H5)
  (jG:fin (List.map V.int (as.filterMap f)) H1):eB J (gName 0) tc te (none::tl) H1 fin:=by
 refine gM S (λσ=>∃w0,σ=w0::tl) ⟨_,rfl⟩ (λi ys H=>H=H1/\ys=List.map V.int ((as.take i).filterMap f)) ⟨rfl,by simp⟩ hz ?_ ?_
 ·rintro i x σ H ys H3 Q N hi sm ⟨rfl,rfl⟩ hl ⟨w0,rfl⟩ it kq kn
  obtain rfl:=sub _ _ _ _ it
  have ea:as[i]?=some as[i]:=YM hi
  refine hs i _ x ea it _ _ (λz e=>kq _ _ _ ⟨_,rfl⟩ sm ⟨rfl,?_⟩) (λe=>kn _ _ ⟨_,rfl⟩ sm ⟨rfl,?_⟩)
  ·rw[Za,ea,ZN,Zj]
   simp [e]
  ·rw[Za,ea,ZN,Zj]
   simp [e]
 ·rintro ys H sm ⟨rfl,rfl⟩ hl
  rw[Y6 (YO _)]
  exact jG
theorem fo {K:PySem.W.Frag} {α:Type} {J:It} {tc:TT} {te:TE} {tl:St} {H1:Hp} {fin:List V->Hp->Prop} {Item:Nat->V->Hp->Hp->Prop} (as:List α) (f:α->Option Int) (S:Src J (ar H1) as.length Item) (sub:∀i x H H3,Item i x H H3->H3=H) (hz:as.length<=sizeLine)
  (hs:∀i a x,as[i]?=some a->Item i x H1 H1->∃p u v,x=.ref p/\dH K H1 p [u,v]/\∀(Y:VK) (N:Hp->Prop),(∀z,f a=some z->Y (.int z) H1)->(f a=none->N H1)->tc (some u::some v::tl) H1 λb H5=>if b=true then te (some u::some v::tl) H5 Y else N H5)
  (jG:fin (List.map V.int (as.filterMap f)) H1):eB J (xT K 2 (gCons (gName 0) (gCons (gName 1) gNil))) tc te (none::none::tl) H1 fin:=by
 refine gM S (λσ=>∃w0 w1,σ=w0::w1::tl) ⟨_,_,rfl⟩ (λi ys H=>H=H1/\ys=List.map V.int ((as.take i).filterMap f)) ⟨rfl,by simp⟩ hz ?_ ?_
 ·rintro i x σ H ys H3 Q N hi sm ⟨rfl,rfl⟩ hl ⟨w0,w1,rfl⟩ it kq kn
  obtain rfl:=sub _ _ _ _ it
  have ea:as[i]?=some as[i]:=YM hi
  obtain⟨p,u,v,rfl,sq,k⟩:=hs i _ x ea it
  refine⟨p,_,rfl,sq,rfl,_,_,rfl,_,_,rfl,rfl,?_⟩
  refine k _ _ (λz e=>kq _ _ _ ⟨_,_,rfl⟩ sm ⟨rfl,?_⟩) (λe=>kn _ _ ⟨_,_,rfl⟩ sm ⟨rfl,?_⟩)
  ·rw[Za,ea,ZN,Zj]
   simp [e]
  ·rw[Za,ea,ZN,Zj]
   simp [e]
 ·rintro ys H sm ⟨rfl,rfl⟩ hl
  rw[Y6 (YO _)]
  exact jG
theorem dM {α β:Type} (f:α->β) (l:List α):l.filterMap (λa=>some (f a))=l.map f:=by
 rw[<-List.filterMap_eq_map];rfl
end L2
namespace L2
open PySem PySem.Spec PyProof.Rows PySem.W
section
variable {X : Cx} {K : PySem.W.Frag}
theorem mE:∀{us:List Value} {bs:List Bool},aV (bs.map V.bl) us->LSm.BoolsAre us bs
 | _,[],.nil=>.nil
 | _,b::bs,.cons r t=>by
  have e:_=Value.bool b:=r
  subst e
  exact .cons b (mE t)
theorem uv (hc:X.calm=true):bY X (.builtin "all") (λxs H Q=>∃p bs,xs=[.ref p]/\aR X.K H p (List.map V.bl bs)/\Q (.bl (bs.all id)) H):=by
 intro pins s σ H xs us Q I r h
 obtain⟨p,bs,rfl,hq,q⟩:=h
 obtain⟨u,rfl,rx⟩:=vals1 r
 cases rx
 obtain⟨aN,rv,pl,hz⟩:=I.list hq
 have hb:=mE rv
 have hl:=pl.isList
 have en:p<s.heap.objs.size:=by obtain⟨_,e,_⟩:=hl;exact Heap.lt_size e
 refine call_all_walk (wpAny_pyIter_list hl ?_)
 refine⟨s.heap.objs.size,[s.heap.objs.size,p],[s.heap.objs.size],aN.toArray.size,_,_,λi=>(bs[i]?).getD true,rfl,Walks.list (A:=X.A.in1) (I.ok.hd hc) _ p (YT en) aN.toArray,
  ⟨⟨_,Heap.get?_push_size _ rfl,rfl,rfl⟩,hl.push _⟩,λi v s' Q' E' hP hQ=>?_,λh' tk hk=>?_⟩
 ·obtain⟨b,e,rfl⟩:=hb.get i v (by simpa using hP)
  simp only[e,Option.getD_some] at hQ
  exact wpAny_truthy_bool hQ
 ·have e:((List.range aN.toArray.size).all λi=>(bs[i]?).getD true)=bs.all id:=by
   rw[YR,hb.length];exact LSm.range_all bs
  rw[e]
  exact⟨.bl _,H,I.kept (t':=tk) (LSm.kept_iter hk),rfl,q⟩
theorem uw (hc:X.calm=true):bY X (.builtin "any") (λxs H Q=>∃p bs,xs=[.ref p]/\aR X.K H p (List.map V.bl bs)/\Q (.bl (bs.any id)) H):=by
 intro pins s σ H xs us Q I r h
 obtain⟨p,bs,rfl,hq,q⟩:=h
 obtain⟨u,rfl,rx⟩:=vals1 r
 cases rx
 obtain⟨aN,rv,pl,hz⟩:=I.list hq
 have hb:=mE rv
 have hl:=pl.isList
 have en:p<s.heap.objs.size:=by obtain⟨_,e,_⟩:=hl;exact Heap.lt_size e
 refine call_any_walk (wpAny_pyIter_list hl ?_)
 refine⟨s.heap.objs.size,[s.heap.objs.size,p],[s.heap.objs.size],aN.toArray.size,_,_,λi=>(bs[i]?).getD false,rfl,Walks.list (A:=X.A.in1) (I.ok.hd hc) _ p (YT en) aN.toArray,
  ⟨⟨_,Heap.get?_push_size _ rfl,rfl,rfl⟩,hl.push _⟩,λi v s' Q' E' hP hQ=>?_,λh' tk hk=>?_⟩
 ·obtain⟨b,e,rfl⟩:=hb.get i v (by simpa using hP)
  simp only[e,Option.getD_some] at hQ
  exact wpAny_truthy_bool hQ
 ·have e:((List.range aN.toArray.size).any λi=>(bs[i]?).getD false)=bs.any id:=by
   rw[YR,hb.length];exact LSm.range_any bs
  rw[e]
  exact⟨.bl _,H,I.kept (t':=tk) (LSm.kept_iter hk),rfl,q⟩
theorem jY (hc:X.calm=true:=by rfl) (hK:X.K=K:=by rfl):bY X (.builtin "all") (λxs H Q=>∃p bs,xs=[.ref p]/\aR K H p (List.map V.bl bs)/\Q (.bl (bs.all id)) H):=by subst hK;exact uv hc
theorem rp (hc:X.calm=true:=by rfl) (hK:X.K=K:=by rfl):bY X (.builtin "any") (λxs H Q=>∃p bs,xs=[.ref p]/\aR K H p (List.map V.bl bs)/\Q (.bl (bs.any id)) H):=by subst hK;exact uw hc
noncomputable def tSumV (to:TE):TE:=λσ H Q=>to σ H λv H1=>∃d kvs ns,v=.ref d/\H1 d=some (.dK kvs)/\kvs.map (·.2)=List.map V.int ns/\Q (.int ns.sum) H1
theorem o5 {α:Type} {J:It} {tc:TT} {te:TE} {tl:St} {H1:Hp} {fin:List V->Hp->Prop} {Item:Nat->V->Hp->Hp->Prop} (as:List α) (f:α->Option V) (S:Src J (ar H1) as.length Item) (sub:∀i x H H3,Item i x H H3->H3=H) (hz:as.length<=sizeLine)
  (hs:∀i a x,as[i]?=some a->Item i x H1 H1->∀(Y:VK) (N:Hp->Prop),(∀z,f a=some z->Y z H1)->(f a=none->N H1)->tc (some x::tl) H1 λb H5=>if b=true then te (some x::tl) H5 Y else N H5)
  (jG:fin (as.filterMap f) H1):eB J (gName 0) tc te (none::tl) H1 fin:=by
 refine gM S (λσ=>∃w0,σ=w0::tl) ⟨_,rfl⟩ (λi ys H=>H=H1/\ys=(as.take i).filterMap f) ⟨rfl,by simp⟩ hz ?_ ?_
 ·rintro i x σ H ys H3 Q N hi sm ⟨rfl,rfl⟩ hl ⟨w0,rfl⟩ it kq kn
  obtain rfl:=sub _ _ _ _ it
  have ea:as[i]?=some as[i]:=YM hi
  refine hs i _ x ea it _ _ (λz e=>kq _ _ _ ⟨_,rfl⟩ sm ⟨rfl,?_⟩) (λe=>kn _ _ ⟨_,rfl⟩ sm ⟨rfl,?_⟩)
  ·rw[Za,ea,ZN]
   simp [e]
  ·rw[Za,ea,ZN]
   simp [e]
 ·rintro ys H sm ⟨rfl,rfl⟩ hl
  rw[Y6 (YO _)]
  exact jG
theorem aT {a b:TS} {D:Ends} {σ:St} {H:Hp} (C:St->Hp->Prop) (hb:∀σ' H',C σ' H'->b D σ' H') (ha:∀N:St->Hp->Prop,(∀σ' H',C σ' H'->N σ' H')->a {D with nx:=N} σ H):tSeq a b D σ H:=ha _ hb
end
end L2
namespace Nm
noncomputable def pos (ps:Ws):Ws:=ps.filter λp=>decide (0<p.2)
end Nm
namespace L2
open PySem PySem.Spec PyProof.Rows PySem.W
section
variable {X : Cx} {K : PySem.W.Frag}
noncomputable def rJoin (K:PySem.W.Frag):V->List V->Hp->VK->Prop:=λx xs H Q=>∃sep p ts,x=.str sep/\xs=[.ref p]/\aR K H p (List.map V.str ts)/\JoinOk sep ts=true/\Q (.str (Txt.join sep ts)) H
theorem ux:bY X (.type "int") (λxs H Q=>∃k,xs=[.bl k]/\Q (.int (if k then 1 else 0)) H):=by
 intro pins s σ H xs us Q I r h
 exact wC pins s σ H xs us Q I r (.inr h)
abbrev TJ:=Str->TE
noncomputable def jNil:TJ:=λacc _ H Q=>Q (.str acc) H
noncomputable def jLit (x:Str) (t:TJ):TJ:=λacc σ H Q=>(acc++x).length<=sizeLine/\t (acc++x) σ H Q
noncomputable def jInt (te:TE) (t:TJ):TJ:=λacc σ H Q=>te σ H λv H1=>∃i,v=.int i/\i.natAbs.log2<1920/\(acc++toString i).length<=sizeLine/\t (acc++toString i) σ H1 Q
noncomputable def jStr (te:TE) (t:TJ):TJ:=λacc σ H Q=>te σ H λv H1=>∃z,v=.str z/\z.length<=sizeLine/\(acc++z).length<=sizeLine/\t (acc++z) σ H1 Q
noncomputable def tJoined (t:TJ):TE:=λσ H Q=>t Str.empty σ H Q
end
end L2
namespace L2
open PySem PySem.Spec PyProof.Rows PySem.W
inductive Pl where
 | fin (w:Int×Int) | gz (w:Int×Int) (ws:List (Int×Int)) | ft (rC:Int) (to:List Int)
noncomputable def qg:Pl->Dat
 | .fin w=>.tup [.str (Str.ofString "end"),bw w]
 | .gz w ws=>.tup [.str (Str.ofString "throw"),bw w,.lst (ws.map bw)]
 | .ft rC to=>.tup [.str (Str.ofString "pick"),.int rC,.lst (to.map .int)]
noncomputable def w5 (b:List Pl):Dat:=.lst (b.map qg)
theorem gO {H:Hp}:∀{ns:List Int} {vs:List V},bq H (ns.map Dat.int) vs↔vs=ns.map V.int
 | [],vs=>by simp only[List.map_nil,bq]
 | n::ns,vs=>by
  simp only[Y3,bq,Rep]
  constructor
  ·rintro⟨v,r,rfl,rfl,h⟩
   rw[gO.mp h]
  ·rintro rfl
   exact⟨_,_,rfl,rfl,gO.mpr rfl⟩
theorem cF {H:Hp} {w:Int×Int} {v:V}:Rep H (qg (.fin w)) v↔∃p q,v=.ref p/\H p=some (.tup [.str (Str.ofString "end"),.ref q])/\H q=some (.tup [.int w.1,.int w.2]):=by
 show Rep H (.tup [.str (Str.ofString "end"),bw w]) v↔_
 rw[Rep]
 simp only[bq,bW]
 constructor
 ·rintro⟨p,vs,rfl,hp,_,_,rfl,e,_,_,rfl,⟨q,rfl,hq⟩,rfl⟩
  rw[Rep] at e
  subst e
  exact⟨p,q,rfl,hp,hq⟩
 ·rintro⟨p,q,rfl,hp,hq⟩
  exact⟨p,_,rfl,hp,_,_,rfl,by rw[Rep],_,_,rfl,⟨q,rfl,hq⟩,rfl⟩
theorem cG {H:Hp} {w:Int×Int} {ws:List (Int×Int)} {v:V}:Rep H (qg (.gz w ws)) v↔∃p q l xs,v=.ref p/\H p=some (.tup [.str (Str.ofString "throw"),.ref q,.ref l])/\H q=some (.tup [.int w.1,.int w.2])/\H l=some (.lst xs)/\bq H (ws.map bw) xs:=by
 show Rep H (.tup [.str (Str.ofString "throw"),bw w,.lst (ws.map bw)]) v↔_
 rw[Rep]
 simp only[bq,bW]
 constructor
 ·rintro⟨p,vs,rfl,hp,_,_,rfl,e,_,_,rfl,⟨q,rfl,hq⟩,_,_,rfl,k,rfl⟩
  rw[Rep] at e
  subst e
  obtain⟨l,xs,rfl,hl,r⟩:=aS.mp k
  exact⟨p,q,l,xs,rfl,hp,hq,hl,r⟩
 ·rintro⟨p,q,l,xs,rfl,hp,hq,hl,r⟩
  exact⟨p,_,rfl,hp,_,_,rfl,by rw[Rep],_,_,rfl,⟨q,rfl,hq⟩,_,_,rfl,aS.mpr ⟨l,xs,rfl,hl,r⟩,rfl⟩
theorem cH {H:Hp} {rC:Int} {to:List Int} {v:V}:Rep H (qg (.ft rC to)) v↔∃p l,v=.ref p/\H p=some (.tup [.str (Str.ofString "pick"),.int rC,.ref l])/\H l=some (.lst (to.map V.int)):=by
 show Rep H (.tup [.str (Str.ofString "pick"),.int rC,.lst (to.map .int)]) v↔_
 rw[Rep]
 simp only[bq]
 constructor
 ·rintro⟨p,vs,rfl,hp,_,_,rfl,e,_,_,rfl,e2,_,_,rfl,k,rfl⟩
  rw[Rep] at e
  rw[Rep] at e2
  subst e e2
  obtain⟨l,xs,rfl,hl,r⟩:=aS.mp k
  rw[gO] at r
  subst r
  exact⟨p,l,rfl,hp,hl⟩
 ·rintro⟨p,l,rfl,hp,hl⟩
  exact⟨p,_,rfl,hp,_,_,rfl,by rw[Rep],_,_,rfl,by rw[Rep],_,_,rfl,aS.mpr ⟨l,_,rfl,hl,gO.mpr rfl⟩,rfl⟩
theorem D6 {H:Hp} {q:Pl} {v:V} (h:Rep H (qg q) v):∃p k r,v=.ref p/\H p=some (.tup (.str k::r)):=by
 cases q with
 | fin w=>obtain⟨p,q,rfl,hp,_⟩:=cF.mp h;exact⟨p,_,_,rfl,hp⟩
 | gz w ws=>obtain⟨p,q,l,xs,rfl,hp,_⟩:=cG.mp h;exact⟨p,_,_,rfl,hp⟩
 | ft rC to=>obtain⟨p,l,rfl,hp,_⟩:=cH.mp h;exact⟨p,_,_,rfl,hp⟩
theorem uy {ds:List Dat} {n:Nat} (h:∀d∈ds,depth d<=n):depth.dL ds<=n:=by
 induction ds with
 | nil=>rw[depth.dL];omega
 | cons d ds ih=>
  rw[depth.dL]
  have:=h d YW
  have:=ih λe he=>h e (YU _ he)
  omega
theorem uz (p:Int×Int):depth (bw p)=1:=by simp [bw,depth,depth.dL]
theorem fu {H:Hp} {b:List Pl} {xs:List V} {i:Nat} {x:V} (h:bq H (b.map qg) xs) (e:xs[i]?=some x):∃q,b[i]?=some q/\Rep H (qg q) x:=by
 obtain⟨d,ed,rd⟩:=h.get e
 rw[YQ] at ed
 obtain⟨q,eq,rfl⟩:=Option.map_eq_some_iff.mp ed
 exact⟨q,eq,rd⟩
theorem eK {H:Hp} {b:List Pl} {xs:List V} {i:Nat} {q:Pl} (h:bq H (b.map qg) xs) (e:b[i]?=some q):∃x,xs[i]?=some x/\Rep H (qg q) x:=
 h.at (by rw[YQ,e];rfl)
theorem dk {α:Type} {H:Hp} {f:α->Dat} {as:List α} {ys:List V} (hl:ys.length=as.length) (h:∀(i:Nat) y,ys[i]?=some y->∀a,as[i]?=some a->Rep H (f a) y):bq H (as.map f) ys:=
 bq.of (by rw[YL,hl]) λi d v e1 e2=>by
  rw[YQ] at e1
  obtain⟨a,ea,rfl⟩:=Option.map_eq_some_iff.mp e1
  exact h i v e2 a ea
noncomputable def o6 (H:Hp) (p:Addr):Hp:=λa=>if a=p then none else H a
theorem cJ {H:Hp} {p a:Addr} (h:a≠p):o6 H p a=H a:=if_neg h
theorem Bn {H:Hp} {p:Addr} {o:HO}:ar (o6 H p) (upd H p o):=λa u e=>by
 unfold o6 at e
 by_cases h:a=p
 ·rw[if_pos h] at e;cases e
 ·rw[if_neg h] at e;rw[ax h];exact e
theorem gP {H:Hp} {p:Addr}:ar (o6 H p) H:=λa u e=>by
 unfold o6 at e
 by_cases h:a=p
 ·rw[if_pos h] at e;cases e
 ·rw[if_neg h] at e;exact e
theorem yE {H0 H:Hp} {p:Addr} (s:ar H0 H) (n:H0 p=none):ar H0 (o6 H p):=λa u e=>by
 rw[cJ (λz=>by rw[z,n] at e;cases e)]
 exact s _ _ e
theorem yF {H H':Hp} {p:Addr} (s:ar H H'):ar (o6 H p) (o6 H' p):=λa u e=>by
 unfold o6 at *
 by_cases h:a=p
 ·rw[if_pos h] at e;cases e
 ·rw[if_neg h] at e ⊢;exact s _ _ e
theorem aO {H0 H:Hp} {p:Addr} {o:HO} (s:ar H0 H) (n:H0 p=none):ar H0 (upd H p o):=(yE s n).trans Bn
theorem jJ {α β:Type} {f:α->β} {as:List α} {i:Nat} {a:α} (h:as[i]?=some a):fK (as.map f) (i:Int)=some (f a):=bx (by rw[YQ,h];rfl)
theorem rD {c:TT} {tb:TS} {D:Ends} {σ:St} {H:Hp} (W:Nat->St->Hp->Prop) {m:Nat} (h0:W m σ H)
  (hs:∀m σ H,W m σ H->c σ H λb H1=>if b=true then tb {D with nx:=λσ' H'=>∃m',m'<m/\W m' σ' H',ct:=λσ' H'=>∃m',m'<m/\W m' σ' H',bk:=D.nx} σ H1 else D.nx σ H1)
  (mono:∀σ H Q Q',(∀b H1,Q b H1->Q' b H1)->c σ H Q->c σ H Q'):tS c tb D σ H:=by
 refine⟨W,⟨m,h0⟩,λm σ H w=>mono σ H _ _ (λb H1 q=>?_) (hs m σ H w)⟩
 cases b with
 | true=>exact⟨_,λ_ _ h=>h,q⟩
 | false=>exact q
theorem o8 {K:PySem.W.Frag} {α:Type} {J:It} {tc:TT} {te:TE} {tl:St} {H1:Hp} {fin:List V->Hp->Prop} {Item:Nat->V->Hp->Hp->Prop} (as:List α) (f:α->Option V) (S:Src J (ar H1) as.length Item) (Gq:Nat->V->V->Hp->Prop)
  (tp:∀i x H H3,i<as.length->ar H1 H->Item i x H H3->ar H H3/\∃p a b,x=.ref p/\dH K H3 p [a,b]/\Gq i a b H3) (hz:as.length<=sizeLine)
  (hs:∀i a u v H3,as[i]?=some a->ar H1 H3->Gq i u v H3->∀(Y:VK) (N:Hp->Prop),(∀z H6,f a=some z->ar H3 H6->Y z H6)->(∀H6,f a=none->ar H3 H6->N H6)->tc (some u::some v::tl) H3 λb H5=>if b=true then te (some u::some v::tl) H5 Y else N H5)
  (jG:∀H2,ar H1 H2->fin (as.filterMap f) H2):eB J (xT K 2 (gCons (gName 0) (gCons (gName 1) gNil))) tc te (none::none::tl) H1 fin:=by
 refine gM S (λσ=>∃w0 w1,σ=w0::w1::tl) ⟨_,_,rfl⟩ (λi ys _=>ys=(as.take i).filterMap f) (by simp) hz ?_ ?_
 ·rintro i x σ H ys H3 Q N hi sm rfl hl ⟨w0,w1,rfl⟩ it kq kn
  obtain⟨s3,p,u,v,rfl,sq,i2⟩:=tp i x H H3 hi sm it
  have ea:as[i]?=some as[i]:=YM hi
  refine⟨p,_,rfl,sq,rfl,_,_,rfl,_,_,rfl,rfl,?_⟩
  refine hs i _ u v H3 ea (sm.trans s3) i2 _ _ (λz H6 e s6=>kq _ _ _ ⟨_,_,rfl⟩ (sm.trans (s3.trans s6)) ?_) (λH6 e s6=>kn _ _ ⟨_,_,rfl⟩ (sm.trans (s3.trans s6)) ?_)
  ·rw[Za,ea,ZN]
   simp [e]
  ·rw[Za,ea,ZN]
   simp [e]
 ·rintro ys H sm rfl hl
  rw[Y6 (YO _)]
  exact jG H sm
theorem gQ {α:Type} (f:α->V) (p:α->Bool):∀l:List α,l.filterMap (λi=>if p i=true then some (f i) else none)=(l.filter p).map f
 | []=>rfl
 | x::l=>by
  rw[ZL,List.filter_cons]
  by_cases c:p x=true
  ·simp only[c,if_true,Y3,gQ f p l]
  ·simp only[c,if_false,gQ f p l]
   rfl
section
variable {X : Cx} {K : PySem.W.Frag}
end
end L2
namespace Lv
open L2
abbrev Fs:=List (Option Int)
noncomputable def fb:Pl->List Int
 | .fin _=>[]
 | .gz _ ws=>ws.map (·.2)
 | .ft _ to=>to
noncomputable def lk (fs:Fs) (g:Int):Option Int:=fs.getD g.toNat none
noncomputable def Cw (fs:Fs) (q:Pl):Bool:=
 match q with
 | .gz _ ws=>(ws.map (·.2)).any λg=>(lk fs g).isSome
 | .fin _=>true
 | .ft _ to=>to.all λg=>(lk fs g).isSome
noncomputable def fN (b:List Pl) (fs:Fs) (i:Nat):Bool:=(fs.getD i none).isNone && (match b[i]? with | some q=>Cw fs q | none=>false)
noncomputable def fresh (b:List Pl) (fs:Fs):List Nat:=(List.range b.length).filter (fN b fs)
noncomputable def cc (fs:Fs) (is:List Nat) (L:Int):Fs:=is.foldl (λacc i=>acc.set i (some L)) fs
noncomputable def run (b:List Pl):Nat->Fs->Int->Fs
 | 0,fs,_=>fs
 | m+1,fs,L=>if fresh b fs=[] then fs else run b m (cc fs (fresh b fs) L) (L+1)
noncomputable def GA:Pl->Option Int
 | .fin _=>some 0
 | _=>none
noncomputable def nU (b:List Pl):Fs:=b.map GA
noncomputable def rE (b:List Pl):Fs:=run b b.length (nU b) 1
noncomputable def dG (fs:Fs):Nat:=fs.countP (·.isNone)
theorem lF (fs:Fs):∀(is:List Nat) (L:Int),(cc fs is L).length=fs.length
 | is,L=>by
  induction is generalizing fs with
  | nil=>rfl
  | cons i is ih=>
   show(cc (fs.set i (some L)) is L).length=_
   rw[ih,Y5]
theorem vm (L:Int):∀(is:List Nat) (fs:Fs) (k:Nat),(cc fs is L)[k]?=if k∈is/\k<fs.length then some (some L) else fs[k]?
 | [],fs,k=>by simp [cc]
 | i::is,fs,k=>by
  show(cc (fs.set i (some L)) is L)[k]?=_
  rw[vm L is,Y5]
  by_cases h:k<fs.length
  ·by_cases h1:k∈is
   ·rw[if_pos ⟨h1,h⟩,if_pos ⟨YU _ h1,h⟩]
   ·rw[if_neg (λz=>h1 z.1)]
    by_cases h2:k=i
    ·subst h2
     rw[if_pos ⟨YW,h⟩,Zv h]
    ·rw[if_neg (λz=>(List.mem_cons.mp z.1).elim h2 h1),Zm (Ne.symm h2)]
  ·rw[if_neg (λz=>h z.2),if_neg (λz=>h z.2),Y1 (by rw[Y5];omega),Y1 (by omega)]
theorem cA (x:Option Int) (fs:Fs):dG (x::fs)=dG fs+if x.isNone then 1 else 0:=by
 unfold dG
 rw[List.countP_cons]
theorem o9 (L:Int):∀(fs:Fs) (i:Nat),dG (fs.set i (some L))<=dG fs
 | [],i=>by simp
 | x::fs,0=>by
  rw[ZQ,cA,cA]
  simp
 | x::fs,i+1=>by
  rw[ZR,cA,cA]
  have:=o9 L fs i
  omega
theorem rG (L:Int):∀(fs:Fs) (i:Nat),fs[i]?=some none->dG (fs.set i (some L))<dG fs
 | [],i,h=>by simp at h
 | x::fs,0,h=>by
  simp at h
  subst h
  rw[ZQ,cA,cA]
  simp
 | x::fs,i+1,h=>by
  rw[ZR,cA,cA]
  have:=rG L fs i (by simpa using h)
  omega
theorem pb (L:Int):∀(is:List Nat) (fs:Fs),dG (cc fs is L)<=dG fs
 | [],fs=>YO _
 | i::is,fs=>Y2 (pb L is (fs.set i (some L))) (o9 L fs i)
theorem qh (L:Int) {is:List Nat} {fs:Fs} (h:is≠[]) (k:∀i∈is,fs[i]?=some none):dG (cc fs is L)<dG fs:=by
 cases is with
 | nil=>exact absurd rfl h
 | cons i is=>exact Nat.lt_of_le_of_lt (pb L is _) (rG L fs i (k i YW))
theorem gR {b:List Pl} {fs:Fs} {i:Nat}:i∈fresh b fs↔i<b.length/\fN b fs i=true:=by
 unfold fresh
 rw[List.mem_filter,List.mem_range]
theorem mF {b:List Pl} {fs:Fs} (hl:fs.length=b.length) {i:Nat} (h:i∈fresh b fs):fs[i]?=some none:=by
 obtain⟨h1,h2⟩:=gR.mp h
 unfold fN at h2
 rw[Zi] at h2
 have e:fs[i]?=some fs[i]:=YM (by omega)
 rw[YV,e] at h2
 rw[e]
 cases h:fs[i] with
 | none=>rfl
 | some v=>rw[h] at h2;simp at h2
noncomputable def At (fs:Fs) (L:Int) (i:Nat):Pl->Prop
 | .fin _=>fs[i]?=some (some 0)
 | .gz _ ws=>(fs[i]?=some none/\∀g∈ws.map (·.2),∀u,lk fs g=some u->u=L - 1)\/
   ∃v,fs[i]?=some (some v)/\1<=v/\(∃g∈ws.map (·.2),lk fs g=some (v - 1))/\∀g∈ws.map (·.2),∀u,lk fs g=some u->v - 1<=u
 | .ft _ to=>(fs[i]?=some none/\((∀g∈to,(lk fs g).isSome=true)->∃g∈to,lk fs g=some (L - 1)))\/
   ∃v,fs[i]?=some (some v)/\1<=v/\(∀g∈to,∃u,lk fs g=some u/\u<=v - 1)/\∃g∈to,lk fs g=some (v - 1)
structure Good (b:List Pl):Prop where
 nW:∀q∈b,∀g∈fb q,0<=g/\g<b.length
 ft:∀q∈b,∀w to,q=.ft w to->to≠[]
structure Inv (b:List Pl) (fs:Fs) (L:Int):Prop where
 len:fs.length=b.length
 lt:∀(i:Nat) (v:Int),fs[i]?=some (some v)->0<=v/\v<L
 at_:∀(i:Nat) q,b[i]?=some q->At fs L i q
theorem yG {b:List Pl} (g:Good b):Inv b (nU b) 1:=by
 have h0:∀(i:Nat) (v:Int),(nU b)[i]?=some (some v)->v=0:=λi v e=>by
  unfold nU at e
  rw[YQ] at e
  obtain⟨q,_,e⟩:=Option.map_eq_some_iff.mp e
  cases q <;>simp [GA] at e
  exact e.symm
 have hk:∀(g u:Int),lk (nU b) g=some u->u=0:=λg u e=>by
  unfold lk at e
  rw[YV] at e
  cases h:(nU b)[g.toNat]? with
  | none=>rw[h] at e;simp at e
  | some o=>rw[h] at e;simp at e;subst e;exact h0 _ _ h
 refine⟨by simp [nU],λi v e=>by have:=h0 i v e;omega,λi q e=>?_⟩
 have e2:(nU b)[i]?=some (GA q):=by unfold nU;rw[YQ,e];rfl
 cases q with
 | fin w=>exact e2
 | gz w ws=>exact .inl ⟨e2,λg _ u h=>hk g u h⟩
 | ft w to=>
  refine .inl ⟨e2,λh=>?_⟩
  cases to with
  | nil=>exact absurd rfl (g.ft _ (YN e) _ _ rfl)
  | cons x r=>
   refine⟨x,YW,?_⟩
   have:=h x YW
   obtain⟨u,hu⟩:=Option.isSome_iff_exists.mp this
   have:=hk x u hu
   rw[hu,this]
   rfl
theorem pd {fs:Fs} {g:Int} {u:Int}:lk fs g=some u↔fs[g.toNat]?=some (some u):=by
 unfold lk
 rw[YV]
 cases h:fs[g.toNat]? with
 | none=>simp
 | some o=>simp
theorem step {b:List Pl} (gb:Good b) {fs:Fs} {L:Int} (I:Inv b fs L) (L1:1<=L):Inv b (cc fs (fresh b fs) L) (L+1):=by
 have hl:=I.len
 have get:∀(k:Nat),(cc fs (fresh b fs) L)[k]?=if k∈fresh b fs/\k<fs.length then some (some L) else fs[k]?:=vm L _ _
 have old:∀(k:Nat) (v:Int),fs[k]?=some (some v)->(cc fs (fresh b fs) L)[k]?=some (some v):=λk v e=>by
  rw[get,if_neg,e]
  intro z
  rw[mF hl z.1] at e
  cases e
 have w6:∀(g u:Int),lk fs g=some u->lk (cc fs (fresh b fs) L) g=some u:=λg u h=>pd.mpr (old _ _ (pd.mp h))
 have uh:∀(g u:Int),lk (cc fs (fresh b fs) L) g=some u->lk fs g=some u\/u=L:=λg u h=>by
  have h:=pd.mp h
  rw[get] at h
  split at h
  ·right;simpa using h.symm
  ·exact .inl (pd.mpr h)
 refine⟨by rw[lF];exact hl,λi v e=>?_,λi q e=>?_⟩
 ·rw[get] at e
  split at e
  ·simp at e;omega
  ·have:=I.lt i v e;omega
 ·have hi:i<b.length:=(List.getElem?_eq_some_iff.mp e).1
  have A:=I.at_ i q e
  have rd:∀(q:Pl),b[i]?=some q->fs[i]?=some none->(i∈fresh b fs↔Cw fs q=true):=λq e e2=>by
   rw[gR]
   unfold fN
   rw[YV,e2,e]
   simp [hi]
  cases q with
  | fin w=>exact old _ _ A
  | gz w ws=>
   rcases A with ⟨a1,a2⟩ | ⟨v,a1,a2,⟨x,hx,a3⟩,a4⟩
   ·by_cases c:i∈fresh b fs
    ·right
     refine⟨L,by rw[get,if_pos ⟨c,by omega⟩],L1,?_,λg hg u h=>?_⟩
     ·have:=(rd _ e a1).mp c
      have:(ws.map (·.2)).any (λg=>(lk fs g).isSome)=true:=this
      obtain⟨x,hx,h⟩:=List.any_eq_true.mp this
      obtain⟨u,hu⟩:=Option.isSome_iff_exists.mp h
      have:=a2 x hx u hu
      subst this
      exact⟨x,hx,w6 _ _ hu⟩
     ·rcases uh _ _ h with h | h
      ·have:=a2 g hg u h;omega
      ·omega
    ·left
     refine⟨by rw[get,if_neg (λz=>c z.1)];exact a1,λg hg u h=>?_⟩
     rcases uh _ _ h with h | h
     ·exfalso
      refine c ((rd _ e a1).mpr ?_)
      show(ws.map (·.2)).any (λg=>(lk fs g).isSome)=true
      exact List.any_eq_true.mpr ⟨g,hg,by rw[h];rfl⟩
     ·omega
   ·right
    refine⟨v,old _ _ a1,a2,⟨x,hx,w6 _ _ a3⟩,λg hg u h=>?_⟩
    rcases uh _ _ h with h | h
    ·exact a4 g hg u h
    ·have:=I.lt i v a1;omega
  | ft w to=>
   rcases A with ⟨a1,a2⟩ | ⟨v,a1,a2,a3,x,hx,a4⟩
   ·by_cases c:i∈fresh b fs
    ·right
     have r:=(rd _ e a1).mp c
     have r:to.all (λg=>(lk fs g).isSome)=true:=r
     have r:=List.all_eq_true.mp r
     obtain⟨x,hx,h⟩:=a2 r
     refine⟨L,by rw[get,if_pos ⟨c,by omega⟩],L1,λg hg=>?_,x,hx,w6 _ _ h⟩
     obtain⟨u,hu⟩:=Option.isSome_iff_exists.mp (r g hg)
     exact⟨u,w6 _ _ hu,by have:=I.lt _ _ (pd.mp hu);omega⟩
    ·left
     refine⟨by rw[get,if_neg (λz=>c z.1)];exact a1,λh=>?_⟩
     have:¬∀g∈to,(lk fs g).isSome=true:=λz=>c ((rd _ e a1).mpr (show to.all (λg=>(lk fs g).isSome)=true from List.all_eq_true.mpr z))
     have:∃g∈to,lk fs g=none:=by
      apply Classical.byContradiction
      intro n
      apply this
      intro g hg
      cases h:lk fs g with
      | none=>exact absurd ⟨g,hg,h⟩ n
      | some u=>rfl
     obtain⟨g,hg,hn⟩:=this
     obtain⟨u,hu⟩:=Option.isSome_iff_exists.mp (h g hg)
     refine⟨g,hg,?_⟩
     rcases uh _ _ hu with h | h
     ·rw[hn] at h;cases h
     ·rw[hu,h];congr 1;omega
   ·right
    refine⟨v,old _ _ a1,a2,λg hg=>?_,x,hx,w6 _ _ a4⟩
    obtain⟨u,h1,h2⟩:=a3 g hg
    exact⟨u,w6 _ _ h1,h2⟩
noncomputable def Ends (fs:Fs) (i:Nat):Pl->Prop
 | .fin _=>fs[i]?=some (some 0)
 | .gz _ ws=>(fs[i]?=some none/\∀g∈ws.map (·.2),lk fs g=none)\/
   ∃v,fs[i]?=some (some v)/\1<=v/\(∃g∈ws.map (·.2),lk fs g=some (v - 1))/\∀g∈ws.map (·.2),∀u,lk fs g=some u->v - 1<=u
 | .ft _ to=>(fs[i]?=some none/\∃g∈to,lk fs g=none)\/
   ∃v,fs[i]?=some (some v)/\1<=v/\(∀g∈to,∃u,lk fs g=some u/\u<=v - 1)/\∃g∈to,lk fs g=some (v - 1)
theorem Bo {b:List Pl} {fs:Fs} {L:Int} (I:Inv b fs L) (h:fresh b fs=[]) (i:Nat) (q:Pl) (e:b[i]?=some q):Ends fs i q:=by
 have hi:i<b.length:=(List.getElem?_eq_some_iff.mp e).1
 have nr:fs[i]?=some none->Cw fs q=false:=λe2=>by
  have:i∉fresh b fs:=by rw[h];simp
  rw[gR] at this
  cases hr:Cw fs q with
  | false=>rfl
  | true=>
   exfalso
   apply this
   refine⟨hi,?_⟩
   unfold fN
   rw[YV,e2,e]
   simp [hr]
 have A:=I.at_ i q e
 cases q with
 | fin w=>exact A
 | gz w ws=>
  rcases A with ⟨a1,a2⟩ | A
  ·refine .inl ⟨a1,λg hg=>?_⟩
   have:=nr a1
   have:(ws.map (·.2)).any (λg=>(lk fs g).isSome)=false:=this
   have:=List.any_eq_false.mp this g hg
   simpa using this
  ·exact .inr A
 | ft w to=>
  rcases A with ⟨a1,a2⟩ | A
  ·refine .inl ⟨a1,?_⟩
   have:=nr a1
   have:to.all (λg=>(lk fs g).isSome)=false:=this
   obtain⟨g,hg,n⟩:=List.all_eq_false.mp this
   exact⟨g,hg,by simpa using n⟩
  ·exact .inr A
theorem jK {b:List Pl} {fs:Fs} (hl:fs.length=b.length) (h:fresh b fs≠[]) (L:Int):dG (cc fs (fresh b fs) L)<dG fs:=qh L h λ_ hi=>mF hl hi
theorem qi {b:List Pl} (gb:Good b):∀(m:Nat) (fs:Fs) (L:Int),Inv b fs L->1<=L->dG fs<=m->∃L',L'<=L+m/\Inv b (run b m fs L) L'/\fresh b (run b m fs L)=[]
 | 0,fs,L,I,L1,h=>by
  refine⟨L,by omega,I,?_⟩
  show fresh b fs=[]
  apply Classical.byContradiction
  intro n
  have:=jK I.len n L
  omega
 | m+1,fs,L,I,L1,h=>by
  show ∃L',L'<=L+ (m+1:Nat)/\Inv b (if fresh b fs=[] then fs else run b m (cc fs (fresh b fs) L) (L+1)) L'/\fresh b (if fresh b fs=[] then fs else run b m (cc fs (fresh b fs) L) (L+1))=[]
  by_cases c:fresh b fs=[]
  ·rw[if_pos c]
   exact⟨L,by omega,I,c⟩
  ·rw[if_neg c]
   have:=jK I.len c L
   obtain⟨L',h1,h2⟩:=qi gb m _ _ (step gb I L1) (by omega) (by omega)
   exact⟨L',by omega,h2⟩
theorem mG (fs:Fs):dG fs<=fs.length:=List.countP_le_length
theorem Bp {b:List Pl} (gb:Good b):(rE b).length=b.length:=by
 obtain⟨L,_,I,_⟩:=qi gb b.length _ _ (yG gb) (by decide) (by have:=mG (nU b);simpa [nU] using this)
 exact I.len
theorem yH {b:List Pl} (gb:Good b) (i:Nat) (q:Pl) (e:b[i]?=some q):Ends (rE b) i q:=by
 obtain⟨L,_,I,f⟩:=qi gb b.length _ _ (yG gb) (by decide) (by have:=mG (nU b);simpa [nU] using this)
 exact Bo I f i q e
end Lv
namespace Bf
open L2 Lv
abbrev En:=Int×Option (Int×Nat)×List Nat
noncomputable def keys (es:List En):List Int:=es.map (·.1)
noncomputable def fZ (b:List Pl) (k:Int):List Int:=match b[k.toNat]? with | some q=>fb q | none=>[]
noncomputable def fv (here:Int) (path:List Nat):Nat->List Int->List En->List En
 | _,[],es=>es
 | w,g::gs,es=>fv here path (w+1) gs (if g∈keys es then es else es++ [(g,some (here,w),path++ [w])])
noncomputable def Ax (b:List Pl):Nat->Nat->List En->List En
 | 0,_,es=>es
 | m+1,t,es=>match es[t]? with | none=>es | some e=>Ax b m (t+1) (fv e.1 e.2.2 0 (fZ b e.1) es)
noncomputable def steps (b:List Pl) (start:Int):List En:=Ax b (b.length+1) 0 [(start,none,[])]
structure Core (b:List Pl) (start:Int) (es:List En):Prop where
 nd:(keys es).Nodup
 nW:∀e∈es,0<=e.1/\e.1<b.length
 hd:es[0]?=some (start,none,[])
 par:∀(i:Nat) e,es[i]?=some e->0<i->∃(j:Nat) (ej:En) (w:Nat),j<i/\es[j]?=some ej/\e.2.1=some (ej.1,w)/\(fZ b ej.1)[w]?=some e.1/\e.2.2=ej.2.2++ [w]
 mono:∀(i j:Nat) ei ej,i<=j->es[i]?=some ei->es[j]?=some ej->ei.2.2.length<=ej.2.2.length
structure Fo (b:List Pl) (start:Int) (t:Nat) (e:En) (k:Nat) (es:List En):Prop extends Core b start es where
 at_:es[t]?=some e
 top:∀(i:Nat) ei,es[i]?=some ei->ei.2.2.length<=e.2.2.length+1
 old:∀(j:Nat) ej,j<t->es[j]?=some ej->∀g∈fZ b ej.1,∃(i:Nat) (ei:En),es[i]?=some ei/\ei.1=g/\ei.2.2.length<=ej.2.2.length+1
 now:∀g∈(fZ b e.1).take k,∃(i:Nat) (ei:En),es[i]?=some ei/\ei.1=g/\ei.2.2.length<=e.2.2.length+1
structure Inv (b:List Pl) (start:Int) (t:Nat) (es:List En):Prop extends Core b start es where
 top:∀(i:Nat) ei et,es[i]?=some ei->es[t]?=some et->ei.2.2.length<=et.2.2.length+1
 old:∀(j:Nat) ej,j<t->es[j]?=some ej->∀g∈fZ b ej.1,∃(i:Nat) (ei:En),es[i]?=some ei/\ei.1=g/\ei.2.2.length<=ej.2.2.length+1
theorem dW {α:Type} {l:List α} {x y:α} {i:Nat} (h:(l++ [x])[i]?=some y):l[i]?=some y\/(i=l.length/\y=x):=by
 by_cases c:i<l.length
 ·rw[ZM c] at h
  exact .inl h
 ·rw[ZH (by omega)] at h
  have:i - l.length=0:=by
   by_cases q:i - l.length=0
   ·exact q
   ·rw[Y1 (by simp;omega)] at h;cases h
  rw[this] at h
  simp at h
  exact .inr ⟨by omega,h.symm⟩
theorem up {α:Type} {l:List α} {x y:α} {i:Nat} (h:l[i]?=some y):(l++ [x])[i]?=some y:=by
 rw[ZM (List.getElem?_eq_some_iff.mp h).1]
 exact h
theorem one {b:List Pl} (gb:Good b) {start:Int} {t:Nat} {e:En} {k:Nat} {es:List En} {g:Int} (M:Fo b start t e k es) (hg:(fZ b e.1)[k]?=some g):
  Fo b start t e (k+1) (if g∈keys es then es else es++ [(g,some (e.1,k),e.2.2++ [k])]):=by
 have tk:(fZ b e.1).take (k+1)=(fZ b e.1).take k++ [g]:=by rw[Za,hg];rfl
 by_cases c:g∈keys es
 ·rw[if_pos c]
  refine {M with now:=λx hx=>?_}
  rw[tk] at hx
  rcases List.mem_append.mp hx with hx | hx
  ·exact M.now x hx
  ·have:x=g:=by simpa using hx
   subst this
   obtain⟨ei,IX,rfl⟩:=List.mem_map.mp c
   obtain⟨i,hi⟩:=Y4 IX
   exact⟨i,ei,hi,rfl,M.top i ei hi⟩
 ·rw[if_neg c]
  have rg:0<=g/\g<b.length:=by
   unfold fZ at hg
   cases hb:b[e.1.toNat]? with
   | none=>rw[hb] at hg;simp at hg
   | some q=>
    rw[hb] at hg
    exact gb.nW q (YN hb) g (YN hg)
  have tl:t<es.length:=(List.getElem?_eq_some_iff.mp M.at_).1
  refine⟨⟨?_,λx hx=>?_,up M.hd,λi x hx i0=>?_,λi j ei ej pN hi hj=>?_⟩,up M.at_,λi ei hi=>?_,λj ej hj D7 x hx=>?_,λx hx=>?_⟩
  ·unfold keys at *
   rw[Zj]
   refine List.nodup_append.mpr ⟨M.nd,by simp,λa ha b' Tz=>?_⟩
   have:b'=g:=by simpa using Tz
   subst this
   intro z
   exact c (z▸ha)
  ·rcases List.mem_append.mp hx with hx | hx
   ·exact M.nW x hx
   ·have:x=(g,some (e.1,k),e.2.2++ [k]):=by simpa using hx
    subst this
    exact rg
  ·rcases dW hx with hx | ⟨rfl,rfl⟩
   ·obtain⟨j,ej,w,a1,a2,a3⟩:=M.par i x hx i0
    exact⟨j,ej,w,a1,up a2,a3⟩
   ·exact⟨t,e,k,tl,up M.at_,rfl,hg,rfl⟩
  ·rcases dW hi with hi | ⟨rfl,rfl⟩
   ·rcases dW hj with hj | ⟨rfl,rfl⟩
    ·exact M.mono i j ei ej pN hi hj
    ·have:=M.top i ei hi
     simpa using this
   ·rcases dW hj with hj | ⟨rfl,rfl⟩
    ·have:=(List.getElem?_eq_some_iff.mp hj).1
     omega
    ·exact YO _
  ·rcases dW hi with hi | ⟨rfl,rfl⟩
   ·exact M.top i ei hi
   ·simp
  ·rcases dW D7 with D7 | ⟨rfl,rfl⟩
   ·obtain⟨i,ei,a1,a2⟩:=M.old j ej hj D7 x hx
    exact⟨i,ei,up a1,a2⟩
   ·omega
  ·rw[tk] at hx
   rcases List.mem_append.mp hx with hx | hx
   ·obtain⟨i,ei,a1,a2⟩:=M.now x hx
    exact⟨i,ei,up a1,a2⟩
   ·have:x=g:=by simpa using hx
    subst this
    exact⟨es.length,(x,some (e.1,k),e.2.2++ [k]),by rw[ZH (YO _)];simp,rfl,by simp⟩
theorem mH {b:List Pl} (gb:Good b) {start:Int} {t:Nat} {e:En}:∀(gs:List Int) (k:Nat) (es:List En),Fo b start t e k es->(∀(i:Nat) g,gs[i]?=some g->(fZ b e.1)[k+i]?=some g)->Fo b start t e (k+gs.length) (fv e.1 e.2.2 k gs es)
 | [],k,es,M,_=>M
 | g::gs,k,es,M,h=>by
  have:=mH gb gs (k+1) _ (one gb M (h 0 g rfl)) λi x hx=>by
   have:=h (i+1) x (by simpa using hx)
   rwa [show k+1+i=k+ (i+1) by omega]
  rw[Y8,show k+ (gs.length+1)=k+1+gs.length by omega]
  exact this
theorem yI {b:List Pl} {start:Int} {t:Nat} {e:En} {es:List En} (I:Inv b start t es) (h:es[t]?=some e):Fo b start t e 0 es:=
 {I with at_:=h,top:=λi ei hi=>I.top i ei e hi h,now:=λg hg=>by simp at hg}
theorem D8 {b:List Pl} {start:Int} {t:Nat} {e:En} {es:List En} (M:Fo b start t e (fZ b e.1).length es):Inv b start (t+1) es:=by
 refine {M with top:=λi ei et hi ht=>?_,old:=λj ej hj D7 g hg=>?_}
 ·have h1:=M.top i ei hi
  have h2:=M.mono t (t+1) e et (by omega) M.at_ ht
  omega
 ·by_cases c:j<t
  ·exact M.old j ej c D7 g hg
  ·have:j=t:=by omega
   subst this
   rw[M.at_] at D7
   cases D7
   exact M.now g (by rw[Y6 (YO _)];exact hg)
theorem turn {b:List Pl} (gb:Good b) {start:Int} {t:Nat} {e:En} {es:List En} (I:Inv b start t es) (h:es[t]?=some e):Inv b start (t+1) (fv e.1 e.2.2 0 (fZ b e.1) es):=by
 have:=mH gb (fZ b e.1) 0 es (yI I h) λi g hg=>by rw[Zo];exact hg
 rw[Zo] at this
 exact D8 this
theorem yG {b:List Pl} {start:Int} (h0:0<=start) (h1:start<b.length):Inv b start 0 [(start,none,[])]:=by
 refine⟨⟨by simp [keys],λe he=>?_,rfl,λi e he hi=>?_,λi j ei ej _ hi hj=>?_⟩,λi ei et hi ht=>?_,λj ej hj=>by omega⟩
 ·have:e=(start,none,[]):=by simpa using he
  subst this
  exact⟨h0,h1⟩
 ·rw[Y1 (by simp;omega)] at he
  cases he
 ·cases i with
  | zero=>simp at hi;subst hi;simp
  | succ i=>rw[Y1 (by simp)] at hi;cases hi
 ·cases i with
  | zero=>simp at hi;subst hi;simp
  | succ i=>rw[Y1 (by simp)] at hi;cases hi
theorem vo:∀(n:Nat) (l:List Nat),l.Nodup->(∀x∈l,x<n)->l.length<=n
 | 0,l,_,h=>by
  cases l with
  | nil=>exact YO _
  | cons x r=>have:=h x YW;omega
 | n+1,l,nd,h=>by
  have:=vo n (l.erase n) (nd.erase n) λx hx=>by
   have h1:=(nd.mem_erase_iff).mp hx
   have:=h x h1.2
   have:=h1.1
   omega
  have:=List.length_erase (a:=n) (l:=l)
  split at this <;>omega
theorem Ea {n:Nat} {l:List Int} (nd:l.Nodup) (h:∀x∈l,0<=x/\x< (n:Int)):l.length<=n:=by
 have:=vo n (l.map Int.toNat) (by
  unfold List.Nodup at *
  rw[List.pairwise_map]
  refine nd.imp_of_mem ?_
  intro a b ha hb Ry z
  have:=h a ha
  have:=h b hb
  omega) λx hx=>by
   obtain⟨y,hy,rfl⟩:=List.mem_map.mp hx
   have:=h y hy
   omega
 rwa [YL] at this
theorem Core.oW {b:List Pl} {start:Int} {es:List En} (C:Core b start es):es.length<=b.length:=by
 have:=Ea (n:=b.length) C.nd λx hx=>by
  obtain⟨e,he,rfl⟩:=List.mem_map.mp hx
  exact C.nW e he
 unfold keys at this
 rwa [YL] at this
theorem vp {b:List Pl} (gb:Good b) {start:Int}:∀(m t:Nat) (es:List En),Inv b start t es->b.length<m+t->∃t',es.length<=(Ax b m t es).length/\(Ax b m t es).length<=t'/\Inv b start t' (Ax b m t es)
 | 0,t,es,I,h=>⟨t,YO _,by have:=I.toCore.oW;show es.length<=t;omega,I⟩
 | m+1,t,es,I,h=>by
  unfold Ax
  cases ht:es[t]? with
  | none=>exact⟨t,YO _,List.getElem?_eq_none_iff.mp ht,I⟩
  | some e=>
   obtain⟨t',a1,a2,a3⟩:=vp gb m (t+1) _ (turn gb I ht) (by omega)
   refine⟨t',Y2 ?_ a1,a2,a3⟩
   have:∀(gs:List Int) (k:Nat) (es:List En),es.length<=(fv e.1 e.2.2 k gs es).length:=by
    intro gs
    induction gs with
    | nil=>intro k es;exact YO _
    | cons g gs ih=>
     intro k es
     unfold fv
     refine Y2 ?_ (ih (k+1) _)
     split
     ·exact YO _
     ·simp
   exact this _ _ _
theorem eL {b:List Pl} (gb:Good b) {start:Int} (h0:0<=start) (h1:start<b.length):Core b start (steps b start)/\
  ∀(j:Nat) ej,(steps b start)[j]?=some ej->∀g∈fZ b ej.1,∃(i:Nat) (ei:En),(steps b start)[i]?=some ei/\ei.1=g/\ei.2.2.length<=ej.2.2.length+1:=by
 obtain⟨t,_,a2,I⟩:=vp gb (b.length+1) 0 _ (yG (b:=b) h0 h1) (by omega)
 refine⟨I.toCore,λj ej hj=>I.old j ej ?_ hj⟩
 have:=(List.getElem?_eq_some_iff.mp hj).1
 show j<t
 unfold steps at *
 omega
noncomputable def go (b:List Pl):Int->List Nat->Option Int
 | k,[]=>some k
 | k,w::ws=>match (fZ b k)[w]? with | some g=>go b g ws | none=>none
theorem vq {b:List Pl}:∀{ws:List Nat} {k g:Int} {w:Nat},go b k (ws++ [w])=(match go b k ws with | some x=>(fZ b x)[w]? | none=>none)
 | [],k,g,w=>by
  show(match (fZ b k)[w]? with | some g=>go b g [] | none=>none)=(fZ b k)[w]?
  cases (fZ b k)[w]? <;>rfl
 | v::ws,k,g,w=>by
  show(match (fZ b k)[v]? with | some g=>go b g (ws++ [w]) | none=>none)=(match (match (fZ b k)[v]? with | some g=>go b g ws | none=>none) with | some x=>(fZ b x)[w]? | none=>none)
  cases (fZ b k)[v]? with
  | none=>rfl
  | some x=>exact vq (g:=g)
theorem Bq {b:List Pl} {start:Int} {es:List En} (C:Core b start es):∀(i:Nat) (e:En),es[i]?=some e->go b start e.2.2=some e.1:=by
 intro i
 induction i using Nat.strongRecOn with
 | ind i ih=>
  intro e he
  by_cases c:i=0
  ·subst c
   rw[C.hd] at he
   cases he
   rfl
  ·obtain⟨j,ej,w,a1,a2,a3,a4,a5⟩:=C.par i e he (by omega)
   rw[a5,vq (g:=e.1),ih j a1 ej a2]
   exact a4
end Bf
namespace PySem
section
variable {prog : Program} {w : World} {A : Around} {E : Value -> Shared -> Prop} {s : Shared}
end
end PySem
namespace L2
open PySem PySem.Spec PyProof.Rows PySem.W
section
variable {X : Cx} {K : PySem.W.Frag}
noncomputable def tRev (K:PySem.W.Frag) (te:TE):TE:=λσ H Q=>te σ H λv H1=>∃p xs,v=.ref p/\aR K H1 p xs/\∀l,H1 l=none->Q (.ref l) (upd H1 l (.lst xs.reverse))
noncomputable def tD1 (tk tv:TE):TE:=λσ H Q=>∀d,H d=none->tk σ (upd H d (.dK [])) λx H1=>tv σ H1 λv H2=>∃k,x=kV k/\H2 d=some (.dK [])/\Q (.ref d) (upd H2 d (.dK [(k,v)]))
theorem GB {ke ve:Expr} {tk tv:TE} {pos:Pos} (hk:PE X ke tk) (hv:PE X ve tv):PE X (.Dict [some ke] [ve] pos) (tD1 tk tv):=by
 intro pins s σ H Q I h
 refine wpAny_Dict_pairs (knd:=bO X.prog X.w) (pairs:=[(eval ke X.env,do let x <-eval ve X.env;standAt pos;pure x)]) rfl (by simp) (by simp) ?_
 have fr:=I.bE.fresh (a:=s.heap.objs.size) (YO _)
 have I1:Inv X pins σ (upd H s.heap.objs.size (.dK [])) {s with heap:=s.heap.push {cls:=.type "dict",data:=.dict #[]}}:=I.laid (t':=s.toks) (λ_ _ q=>Heap.get?_push_of_some _ q) (YO _) (qY s.heap I.Rj)
 unfold evalPairs
 refine wpAny_bind (bR (hk pins _ σ _ _ I1 (h _ fr)) λku s1 b8=>?_)
 obtain⟨x,H1,I2,rx,q1⟩:=b8
 refine wpAny_bind (wpAny_holding (wpAny_bind (bR (hv pins _ σ _ _ I2 q1) λvu s2 ⟨v,H2,I3,rv,k,ex,hd,q⟩=>wpAny_bind (wpAny_standAt (wpAny_pure ?_)))))
 subst ex
 obtain⟨z,lo,vs,kv,dd⟩:=Cq I3.bE hd
 cases kv
 unfold evalPairs
 refine wpAny_bind (wpAny_holding (wpAny_pure (wpAny_pure ⟨[(k,vu)],⟨jX rx,rfl,trivial⟩,dd,λh' A5 hs=>?_⟩)))
 have A5:h'.DictOf (bO X.prog X.w) s.heap.objs.size [(k,vu)]:=A5
 have he:∃q,h'.get? s.heap.objs.size=some q:=let ⟨q,_,_,hq,_⟩:=A5;⟨q,hq⟩
 exact⟨.ref s.heap.objs.size,_,pV I3 (by rw[hd];exact True.intro) hs he (ye (kvs:=[(k,v)]) (by rw[sizeLine_eq];simp) lo (.cons ⟨rfl,rv⟩ .nil) A5),rfl,q⟩
end
end L2
namespace PySem
section
variable {prog : Program} {w : World} {A : Around} {E : Value -> Shared -> Prop} {s : Shared}
variable {κ : Type} [DecidableEq κ] {knd : KeyKind prog w κ}
end
end PySem
namespace L2
open PySem PySem.Spec PyProof.Rows PySem.W
section
variable {X : Cx}
end
end L2
namespace PySem
section
variable {prog : Program} {w : World} {A : Around} {R : Result -> Shared -> Prop} {I : Addr} {fp wr : List Addr} {n : Nat} {P : Nat -> Value -> Prop} {St : Nat -> Heap -> Prop} {kw : List (Str × Value)}
end
section
variable {prog : Program} {w : World} {A : Around} {E : Value -> Shared -> Prop} {s : Shared}
end
end PySem
namespace L2
open PySem PySem.Spec PyProof.Rows PySem.W
section
variable {X : Cx} {K : PySem.W.Frag}
noncomputable def tMaxD (K:PySem.W.Frag) (te td:TE):TE:=λσ H Q=>te σ H λv H1=>td σ H1 λdv H2=>∃p ns,v=.ref p/\aR K H2 p (List.map V.int ns)/\(ns=[]->Q dv H2)/\∀M,M∈ns->(∀a∈ns,a<=M)->Q (.int M) H2
noncomputable def tLR (te:TE):TE:=λσ H Q=>te σ H λv H1=>∃n:Nat,v=.int (n:Int)/\n<=1000000/\∀l,H1 l=none->Q (.ref l) (upd H1 l (.lst ((List.range n).map λi:Nat=>V.int (i:Int))))
end
end L2
namespace KS
open PySem PySem.W PyProof.Rows
noncomputable def Bd {α:Type} (lt:Nat->Nat->Bool) (n:Nat) (post:α->Prop):KasT α->Prop
 | .ret a=>post a
 | .ask i j k=>i<n/\j<n/\Bd lt n post (k (lt i j))
theorem Bd.bind {α β:Type} {lt:Nat->Nat->Bool} {n:Nat} {post:β->Prop} {f:α->KasT β}:∀{t:KasT α},Bd lt n (λa=>Bd lt n post (f a)) t->Bd lt n post (t.bind f)
 | .ret _,h=>h
 | .ask _ _ _,⟨h1,h2,h3⟩=>⟨h1,h2,Bd.bind h3⟩
theorem Bd.mono {α:Type} {lt:Nat->Nat->Bool} {n:Nat} {p q:α->Prop} (Rz:∀a,p a->q a):∀{t:KasT α},Bd lt n p t->Bd lt n q t
 | .ret _,h=>Rz _ h
 | .ask _ _ _,⟨h1,h2,h3⟩=>⟨h1,h2,Bd.mono Rz h3⟩
theorem Bd.wp {α:Type} {lt:Nat->Nat->Bool} {n:Nat} {post:α->Prop} {cmp:Nat->Nat->(Bool->Shared->Prop)->Shared->Prop} {Q:α->Shared->Prop} {s:Shared}
  (hc:∀i j C,i<n->j<n->C (lt i j) s->cmp i j C s) (hq:∀a,post a->Q a s):∀{t:KasT α},Bd lt n post t->t.kasWp cmp Q s
 | .ret _,h=>hq _ h
 | .ask i j k,⟨h1,h2,h3⟩=>hc i j _ h1 h2 (Bd.wp hc hq h3)
noncomputable def Pm (n:Nat) (p:Array Nat):Prop:=p.Perm (List.range n).toArray
theorem Pm.lt {n:Nat} {p:Array Nat} (h:Pm n p) (hn:0<n) (i:Nat):p.getD i 0<n:=by
 by_cases hi:i<p.size
 ·have:p.getD i 0=p[i]:=by simp [Array.getD,hi]
  rw[this]
  have hm:p[i]∈p:=Array.getElem_mem hi
  have:=(Array.Perm.mem_iff h).mp hm
  simpa using this
 ·have:p.getD i 0=0:=by simp [Array.getD,hi]
  omega
theorem Pm.rev {n:Nat} {p:Array Nat} (h:Pm n p) (i j:Nat):Pm n (kas_rev p i j):=(mirror_perm _ _ _ _).trans h
theorem Pm.TC {n:Nat} {p:Array Nat} (h:Pm n p) (i j:Nat):Pm n (bubble p i j):=(bubble_perm _ _ _).trans h
variable {lt : Nat -> Nat -> Bool} {n : Nat}
theorem uA {p:Array Nat} (h:Pm n p) (hn:0<n):∀f k,Bd lt n (λ_=>True) (kas_asc p f k)
 | 0,_=>trivial
 | f+1,k=>by
  refine⟨h.lt hn _,h.lt hn _,?_⟩
  dsimp only
  split
  ·trivial
  ·exact uA h hn f (k+1)
theorem lG (hn:0<n):∀f (p:Array Nat) k q,Pm n p->Bd lt n (λr=>Pm n r.1) (kas_desc f p k q)
 | 0,p,k,q,h=>h
 | f+1,p,k,q,h=>by
  refine⟨h.lt hn _,h.lt hn _,?_⟩
  dsimp only
  split
  ·split
   ·exact lG hn f _ _ _ (h.rev _ _)
   ·exact lG hn f _ _ _ h
  ·refine⟨h.lt hn _,h.lt hn _,?_⟩
   dsimp only
   split
   ·exact h
   ·exact lG hn f _ _ _ h
theorem rH (hn:0<n) {p:Array Nat} (h:Pm n p) (m r:Nat):Bd lt n (λr=>Pm n r.2) (kas_tail3 m r p):=
 Bd.bind ((uA (h.rev _ _) hn _ _).mono λ_ _=>h.rev _ _)
theorem jZ (hn:0<n) {p:Array Nat} (h:Pm n p) (m r:Nat):Bd lt n (λr=>Pm n r.2) (kas_descPart m r p):=by
 refine Bd.bind ((lG hn _ _ _ _ h).mono λx hx=>?_)
 split
 ·exact rH hn (hx.rev _ _) _ _
 ·exact rH hn hx _ _
theorem yJ (hn:0<n) {p:Array Nat} (h:Pm n p) (r:Nat):Bd lt n (λr=>Pm n r.2) (kas_count r p):=by
 refine Bd.bind ((uA h hn _ _).mono λm _=>?_)
 split
 ·exact h
 ·split
  ·refine⟨h.lt hn _,h.lt hn _,?_⟩
   dsimp only
   split
   ·exact h
   ·exact jZ hn (h.rev _ _) _ _
  ·exact jZ hn h _ _
theorem mI (hn:0<n) {p:Array Nat} (h:Pm n p) (k:Nat):∀f l r,Bd lt n (λ_=>True) (kas_place p k f l r)
 | 0,_,_=>trivial
 | f+1,l,r=>by
  unfold kas_place
  split
  ·trivial
  ·refine⟨h.lt hn _,h.lt hn _,?_⟩
   dsimp only
   split
   ·exact mI hn h k f _ _
   ·exact mI hn h k f _ _
theorem yK (hn:0<n):∀f (p:Array Nat) k,Pm n p->Bd lt n (Pm n) (kas_bin f p k)
 | 0,p,k,h=>h
 | f+1,p,k,h=>Bd.bind ((mI hn h k _ _ _).mono λl _=>yK hn f _ _ (h.TC _ _))
theorem Br (hn:0<n):Bd lt n (Pm n) (kas_sort n):=by
 refine Bd.bind ((yJ hn (Array.Perm.refl _) n).mono λr hr=>?_)
 split
 ·exact yK hn _ _ _ hr
 ·exact hr
section
variable {prog : Program} {w : World} {A : Around} {E : Value -> Shared -> Prop} {s : Shared} {vs : List Value} {κ : SortKind}
theorem kB {R:List Nat->Prop} {a:Addr} {m:Nat} {P:PySem.Fin->Shared->Prop} (ho:s.heap.get? a=some (seqObj "list" vs.toArray m)) (Eb:vs.length<64)
  (md:2<=vs.length->∀h' Q',(∀b o,b≠a->s.heap.get? b=some o->h'.get? b=some o)->Q' κ {s with heap:=h'}->wpAny (model prog w) A (keyKind' vs.toArray) Q' (λ_ _=>False) {s with heap:=h'})
  (yL:∀i j h' C,i<vs.length->j<vs.length->(∀b o,b≠a->s.heap.get? b=some o->h'.get? b=some o)->C (lt i j) {s with heap:=h'}->kas_ask prog w A κ vs i j C {s with heap:=h'})
  (Kc:2<=vs.length->Bd lt vs.length (λp=>Pm vs.length p/\R p.toList) (kas_sort vs.length)) (h0:vs.length<2->R (List.range vs.length))
  (h:∀p:List Nat,p.Perm (List.range vs.length)->R p->P (.done (.ret .none)) {s with heap:=sortedHeap s.heap a vs (p.map λi=>vs.getD i Value.none).toArray}):
  wpAny (model prog w) A (Builtin.«list.sort» ⟨[.ref a],[]⟩) P E s:=by
 rw[list_sort_plain]
 have ha:a<s.heap.objs.size:=Heap.lt_size ho
 refine wpAny_bind (listItems_at ho rfl ?_)
 refine wpAny_bind (listUpdate_at ho rfl ?_ (by rw[YR,sizeLine_eq];omega) (Y0 _))
 obtain⟨e1,GC⟩:∃e1,(s.heap.update a (Obj.mapSeq λ_=>#[])).get? a=some (seqObj "list" #[] e1):=⟨_,get?_update_seq ho (λ_=>#[])⟩
 refine wpAny_bind (seqEpoch_at GC rfl ?_)
 refine wpAny_bind (wpAny_newTuple ?_ (by show vs.length<=_;rw[sizeLine_eq];omega))
 refine wpAny_bind (wpAny_newList ?_ (Y0 _))
 refine wpAny_holding ?_
 have Ec:(((s.heap.update a (Obj.mapSeq λ_=>#[])).push (seqObj "tuple" vs.toArray 0)).push (seqObj "list" #[] 0)).get? a=some (seqObj "list" #[] e1):=by
  rw[Heap.get?_push_ne _ _ _ (by rw[size_push',Heap.size_update];exact YT (ZJ ha)),Heap.get?_push_ne _ _ _ (by rw[Heap.size_update];exact YT ha)]
  exact GC
 have keep:∀b o,b≠a->s.heap.get? b=some o->(((s.heap.update a (Obj.mapSeq λ_=>#[])).push (seqObj "tuple" vs.toArray 0)).push (seqObj "list" #[] 0)).get? b=some o:=λb o hb q=>
  Heap.get?_push_of_some _ (Heap.get?_push_of_some _ ((Heap.get?_update_other _ _ (Ne.symm hb)).trans q))
 show wpAny (model prog w) A _ P E {s with heap:=((s.heap.update a (Obj.mapSeq λ_=>#[])).push (seqObj "tuple" vs.toArray 0)).push (seqObj "list" #[] 0)}
 dsimp only
 have hsz:vs.toArray.size=vs.length:=by simp
 have gd:∀(l:List Value),(List.range l.length).map (λi=>l.getD i Value.none)=l:=λl=>by
  apply ZO
  intro i
  rw[YQ]
  by_cases hi:i<l.length
  ·rw[ZT hi,YM hi]
   simp [hi]
  ·rw[Y1 (by rw[Ze];omega),Y1 (by omega)]
   rfl
 by_cases h2:vs.toArray.size<2
 ·rw[if_pos h2,if_pos h2]
  refine wpAny_bind (wpAny_pure ?_)
  rw[StateT.run_pure]
  refine wpAny_bind (wpAny_pure ?_)
  dsimp only
  refine wpAny_bind (seqEpoch_at Ec rfl ?_)
  refine wpAny_bind (listUpdate_at Ec rfl ?_ (hsz2:=by rw[Array.size_map];show(pairsOf vs).size<=_;rw[pairsOf_size,sizeLine_eq];omega))
  simp only[bne_self_eq_false,Zs,if_false]
  have e:(vs.toArray.zip vs.toArray).map (fun(x:Keyed)=>x.2)=((List.range vs.length).map λi=>vs.getD i Value.none).toArray:=by
   rw[gd]
   apply Array.toList_inj.mp
   rw[Array.toList_map]
   simp [List.map_snd_zip]
  refine wpAny_pure ?_
  have:=h (List.range vs.length) (List.Perm.refl _) (h0 (by omega))
  rw[<-e] at this
  exact this
 ·have yw:2<=vs.length:=by omega
  rw[if_neg h2,if_neg h2]
  refine wpAny_bind (wpAny_mono (md yw _ (λκ' s'=>κ'=κ/\s'={s with heap:=((s.heap.update a (Obj.mapSeq λ_=>#[])).push (seqObj "tuple" vs.toArray 0)).push (seqObj "list" #[] 0)}) keep ⟨rfl,rfl⟩) ?_ λ_ _ x=>x.elim)
  rintro κ' s' ⟨rfl,rfl⟩
  refine wpAny_bind (wpAny_mono (kat_run (ks:=vs) (vs:=vs) (Q:=λaM s'=>s'={s with heap:=((s.heap.update a (Obj.mapSeq λ_=>#[])).push (seqObj "tuple" vs.toArray 0)).push (seqObj "list" #[] 0)}/\∃p:Array Nat,p.size=vs.length/\arrOf aM=p.map (kas_item (vs.toArray.zip vs.toArray))/\failedOf aM=none/\Pm vs.length p/\R p.toList)
   (G:=λp s'=>s'={s with heap:=((s.heap.update a (Obj.mapSeq λ_=>#[])).push (seqObj "tuple" vs.toArray 0)).push (seqObj "list" #[] 0)}/\Pm vs.length p/\R p.toList) rfl yw Eb (λp aM s' a1 a2 a3 a4=>⟨a4.1,p,a1,a2,a3,a4.2⟩) ?_) ?_ λ_ _ e=>e)
  ·exact Bd.wp (lt:=lt) (n:=vs.length) (λi j C hi hj hC=>yL i j _ C hi hj keep hC) (λp hp=>⟨rfl,hp⟩) (Kc yw)
  rintro⟨⟨⟩,aM⟩ s' ⟨rfl,p,hp,TF,hf,pm,hR⟩
  dsimp only
  have Bh:=kat_snds (ks:=vs) (vs:=vs) rfl TF
  rw[Bh]
  refine wpAny_bind (seqEpoch_at Ec rfl ?_)
  refine wpAny_bind (listUpdate_at Ec rfl ?_ (Y0 _) (by rw[YR,YL,Array.length_toList,hp,sizeLine_eq];omega))
  rw[hf]
  simp only[bne_self_eq_false,Zs,if_false]
  exact wpAny_pure (h p.toList (by have:=pm.toList;simpa using this) hR)
theorem qj {R:List Nat->Prop} {l:Addr} {Q:Value->Shared->Prop} (hl:s.heap.IsList l vs.toArray) (Eb:vs.length<64)
  (md:2<=vs.length->∀h' Q',(∀b o,s.heap.get? b=some o->h'.get? b=some o)->Q' κ {s with heap:=h'}->wpAny (model prog w) A.in1.in1 (keyKind' vs.toArray) Q' (λ_ _=>False) {s with heap:=h'})
  (yL:∀i j h' C,i<vs.length->j<vs.length->(∀b o,s.heap.get? b=some o->h'.get? b=some o)->C (lt i j) {s with heap:=h'}->kas_ask prog w A.in1.in1 κ vs i j C {s with heap:=h'})
  (Kc:2<=vs.length->Bd lt vs.length (λp=>Pm vs.length p/\R p.toList) (kas_sort vs.length)) (h0:vs.length<2->R (List.range vs.length))
  (h:∀p:List Nat,p.Perm (List.range vs.length)->R p->Q (.ref (s.heap.objs.size+1)) {s with heap:=sortedAll s.heap vs (p.map λi=>vs.getD i Value.none).toArray}):
  wpAny (model prog w) A (call (.builtin "sorted") [.ref l]) Q E s:=by
 refine Calls.call_function_entry kind_sorted plain_sorted entry_sorted (args_sorted1 _) ?_
 unfold Builtin.«sorted»
 refine wpAny_bind (m:=checkCount "sorted" 1 1 _) (wpAny_pure ?_)
 refine wpAny_bind (collect_list hl ?_ (by rw[sizeLine_eq];omega))
 refine wpAny_bind (wpAny_newList ?_ (by rw[sizeLine_eq];omega))
 have hsz:((s.heap.push (seqObj "list" #[] 0)).update s.heap.objs.size (Obj.mapSeq (·++vs.toArray))).objs.size=s.heap.objs.size+1:=by
  rw[Heap.size_update,size_push']
 have Cf:(((s.heap.push (seqObj "list" #[] 0)).update s.heap.objs.size (Obj.mapSeq (·++vs.toArray))).push (seqObj "list" vs.toArray 0)).get? (s.heap.objs.size+1)=some (seqObj "list" vs.toArray 0):=by
  rw[<-hsz];exact Heap.get?_push_size _ rfl
 have keep:∀b o,s.heap.get? b=some o->b≠s.heap.objs.size+1/\(((s.heap.push (seqObj "list" #[] 0)).update s.heap.objs.size (Obj.mapSeq (·++vs.toArray))).push (seqObj "list" vs.toArray 0)).get? b=some o:=λb o q=>by
  have en:b<s.heap.objs.size:=Heap.lt_size q
  refine⟨YT (ZJ en),?_⟩
  rw[Heap.get?_push_ne _ _ _ (by rw[hsz];exact YT (ZJ en)),Heap.get?_update_ne _ _ _ _ (YT en),Heap.get?_push_ne _ _ _ (YT en)]
  exact q
 show wpAny _ _ _ _ _ {s with heap:=((s.heap.push (seqObj "list" #[] 0)).update s.heap.objs.size (Obj.mapSeq (·++vs.toArray))).push (seqObj "list" vs.toArray 0)}
 rw[hsz]
 refine wpAny_bind (wpAny_holding (wpAny_call_entry slot_list_sort ⟨_,Cf,rfl⟩ entry_list_sort (kB (lt:=lt) (κ:=κ) Cf Eb (λh2 h' Q' hk hq=>md h2 h' Q' (λb o q=>hk b o (keep b o q).1 (keep b o q).2) hq)
  (λi j h' C hi hj hk hC=>yL i j h' C hi hj (λb o q=>hk b o (keep b o q).1 (keep b o q).2) hC) Kc h0 λp hp hR=>⟨_,rfl,?_⟩) (args_list_sort _)))
 exact wpAny_pure ⟨_,rfl,h p hp hR⟩
theorem rJ {l:Addr} {Q:Value->Shared->Prop} (hl:s.heap.IsList l vs.toArray) (Eb:vs.length<64)
  (md:2<=vs.length->∀h' Q',(∀b o,s.heap.get? b=some o->h'.get? b=some o)->Q' κ {s with heap:=h'}->wpAny (model prog w) A.in1.in1 (keyKind' vs.toArray) Q' (λ_ _=>False) {s with heap:=h'})
  (yL:∀i j h' C,i<vs.length->j<vs.length->(∀b o,s.heap.get? b=some o->h'.get? b=some o)->C (lt i j) {s with heap:=h'}->kas_ask prog w A.in1.in1 κ vs i j C {s with heap:=h'})
  (h:∀p:List Nat,p.Perm (List.range vs.length)->Q (.ref (s.heap.objs.size+1)) {s with heap:=sortedAll s.heap vs (p.map λi=>vs.getD i Value.none).toArray}):
  wpAny (model prog w) A (call (.builtin "sorted") [.ref l]) Q E s:=
 qj (R:=λ_=>True) hl Eb md yL (λh2=>(Br (by omega)).mono λ_ hp=>⟨hp,trivial⟩) (λ_=>trivial) λp hp _=>h p hp
noncomputable def Kd (x y:Int×Int):Bool:=if x.1=y.1 then decide (x.2<y.2) else decide (x.1<y.1)
theorem Bs {x y:Addr} {ox oy:Obj} {a b c d:Int} {t1 t2 t3 t4:Tok} {n k:Nat} {C:Bool->Shared->Prop} (hx:s.heap.get? x=some ox) (dx:ox.data=.seq #[.int a t1,.int b t2] n) (hy:s.heap.get? y=some oy) (dy:oy.data=.seq #[.int c t3,.int d t4] k)
  (h:C (Kd (a,b) (c,d)) s):wpAny (model prog w) A (keyLt' (tuples' true) (.ref x) (.ref y)) C E s:=by
 refine kat_lt hx dx hy dy (kat_cons (wpAny_eqBool_int ?_))
 unfold Kd at h
 dsimp only at h
 by_cases e:a=c
 ·rw[if_pos e] at h
  subst e
  rw[show(a==a)=true by simp]
  refine kat_yes (kat_cons (wpAny_eqBool_int ?_))
  by_cases e2:b=d
  ·subst e2
   rw[show(b==b)=true by simp]
   refine kat_yes (kat_nil ?_)
   simpa using h
  ·rw[show(b==d)=false by simpa using e2]
   refine kat_no (kat_one _ _ ?_)
   exact CmpOf.ints_lt (P:=λi v=>∃t,v=Value.int (if i=0 then b else d) t) (λi=>if i=0 then b else d) (λi v h=>h) 0 1 _ _ s _ _ ⟨t2,rfl⟩ ⟨t4,rfl⟩ h
 ·rw[if_neg e] at h
  rw[show(a==c)=false by simpa using e]
  exact kat_no (oneLt_int h)
end
end KS
namespace L2
open PySem PySem.Spec PyProof.Rows PySem.W
section
variable {X : Cx} {K : PySem.W.Frag}
theorem xf {xs:List V} {us:List Value} (r:aV xs us) (p:List Nat) (hp:p.Perm (List.range us.length)):∃ys,ys.Perm xs/\aV ys (p.map λi=>us.getD i Value.none):=by
 have hl:=r.length
 have get:∀i,i<us.length->∃x u,xs[i]?=some x/\us[i]?=some u/\RelV x u:=by
  clear hp hl
  induction r with
  | nil=>intro i hi;simp at hi
  | cons r1 r2 ih=>
   intro i hi
   cases i with
   | zero=>exact⟨_,_,rfl,rfl,r1⟩
   | succ i=>
    obtain⟨x,u,a1,a2,a3⟩:=ih i (by simpa using hi)
    exact⟨x,u,by simpa using a1,by simpa using a2,a3⟩
 refine⟨p.map λi=>xs.getD i .bV,?_,?_⟩
 ·refine(hp.map _).trans ?_
  rw[<-hl]
  have:(List.range xs.length).map (λi=>xs.getD i V.bV)=xs:=by
   apply ZO
   intro i
   rw[YQ]
   by_cases hi:i<xs.length
   ·rw[ZT hi,YM hi]
    simp [hi]
   ·rw[Y1 (by rw[Ze];omega),Y1 (by omega)]
    rfl
  rw[this]
 ·have hb:∀i∈p,i<us.length:=λi hi=>List.mem_range.mp (hp.mem_iff.mp hi)
  clear hp
  induction p with
  | nil=>exact .nil
  | cons i p ih=>
   obtain⟨x,u,a1,a2,a3⟩:=get i (hb i YW)
   refine .cons ?_ (ih λj hj=>hb j (YU _ hj))
   show RelV (xs.getD i V.bV) (us.getD i Value.none)
   rw[YV,YV,a1,a2]
   exact a3
noncomputable def yM (H:Hp) (xs:List V):Prop:=∀x∈xs,∃t a b,x=.ref t/\H t=some (.tup [.int a,.int b])
theorem oi:bY X (.builtin "sorted") (λxs H Q=>∃p ys,xs=[.ref p]/\aR X.K H p ys/\ys.length<64/\yM H ys/\∀l zs,H l=none->zs.Perm ys->Q (.ref l) (upd H l (.lst zs))):=by
 intro pins s σ H xs us Q I r h
 obtain⟨p,ys,rfl,hq,hn,hP,q⟩:=h
 obtain⟨u,rfl,rx⟩:=vals1 r
 cases rx
 obtain⟨aN,rv,pl,hz⟩:=I.list hq
 have hl:=rv.length
 have each:∀v∈aN,∃t o a b t1 t2 n,v=.ref t/\s.heap.get? t=some o/\o.cls=.type "tuple"/\o.data=.seq #[.int a t1,.int b t2] n:=by
  clear hq hl q pl hz hn
  induction rv with
  | nil=>intro v hv;simp at hv
  | cons r1 r2 ih=>
   intro v hv
   rcases List.mem_cons.mp hv with rfl | hv
   ·obtain⟨t,a,b,rfl,ht⟩:=hP _ YW
    cases r1
    obtain⟨XI,v2,tp,_⟩:=I.tuple (dH.of ht)
    obtain⟨o,ho,hc,n,hd⟩:=tp
    cases v2 with
    | cons q1 q2=>
     cases q2 with
     | cons q3 q4=>
      cases q4
      obtain⟨t1,rfl⟩:=q1
      obtain⟨t2,rfl⟩:=q3
      exact⟨t,o,a,b,t1,t2,n,rfl,ho,hc,by simpa using hd⟩
   ·exact ih (λx hx=>hP x (YU _ hx)) v hv
 have GD:∀i:Nat,∃pr:Int×Int,∀v,aN[i]?=some v->∃t o t1 t2 n,v=.ref t/\s.heap.get? t=some o/\o.cls=.type "tuple"/\o.data=.seq #[.int pr.1 t1,.int pr.2 t2] n:=λi=>by
  cases hi:aN[i]? with
  | none=>exact⟨(0,0),λv hv=>by cases hv⟩
  | some v=>
   obtain⟨t,o,a,b,t1,t2,n,e1,e2,e3,e4⟩:=each v (YN hi)
   exact⟨(a,b),λv' hv=>by cases hv;exact⟨t,o,t1,t2,n,e1,e2,e3,e4⟩⟩
 obtain⟨f,hf⟩:=Classical.skolem.mp GD
 refine KS.rJ (lt:=λi j=>KS.Kd (f i) (f j)) (κ:=tuples' true) pl.isList (by omega) (λh2 h' Q' hk hq=>?_) (λi j h' C hi hj hk hC=>?_) λp hp=>?_
 ·have kj:∀(l:List Value),(∀v∈l,v∈aN)->∃fs,KatTups h' l fs/\fs.length=l.length/\∀v∈fs,∃a t,v=Value.int a t:=by
   intro l
   induction l with
   | nil=>intro _;exact⟨[],trivial,rfl,λv hv=>by simp at hv⟩
   | cons v l ih=>
    intro hm
    obtain⟨fs,k1,k2,k3⟩:=ih λx hx=>hm x (YU _ hx)
    obtain⟨t,o,a,b,t1,t2,n,rfl,e2,e3,e4⟩:=each v (hm v YW)
    refine⟨.int a t1::fs,KatTups.cons (hk _ _ e2) e3 e4 rfl k1,by simp [k2],λx hx=>?_⟩
    rcases List.mem_cons.mp hx with rfl | hx
    ·exact⟨a,t1,rfl⟩
    ·exact k3 x hx
  obtain⟨fs,k1,k2,k3⟩:=kj aN λv hv=>hv
  exact kat_kind (T:=.type "int") (s:={s with heap:=h'}) k1 (by omega) (λv hv=>by obtain⟨a,t,rfl⟩:=k3 v hv;exact .now) (by decide) hq
 ·obtain⟨t,o,t1,t2,n,e1,e2,e3,e4⟩:=hf i _ (YM hi)
  obtain⟨t',o',t3,t4,n',TH,TK,XJ,TL⟩:=hf j _ (YM hj)
  unfold kas_ask
  rw[YV,YV,YM hi,YM hj,e1,TH]
  exact KS.Bs (s:={s with heap:=h'}) (hk _ _ e2) e4 (hk _ _ TK) TL hC
 ·obtain⟨zs,pz,vz⟩:=xf rv p hp
  obtain⟨e,he⟩:=sortedAll_at s.heap aN (p.map λi=>aN.getD i Value.none).toArray
  have fr:=I.bE.fresh (a:=s.heap.objs.size+1) (Nat.le_succ _)
  refine⟨.ref (s.heap.objs.size+1),_,I.laid (t':=s.toks) (λ_ _=>sortedAll_old) (Nat.le_succ _) (o:=.lst zs) ⟨?_,_,e,vz,?_⟩,rfl,q _ _ fr pz⟩
  ·rw[pz.length_eq,sizeLine_eq];omega
  ·exact he
theorem mJ (hK:X.K=K:=by rfl):bY X (.builtin "sorted") (λxs H Q=>∃p ys,xs=[.ref p]/\aR K H p ys/\ys.length<64/\yM H ys/\∀l zs,H l=none->zs.Perm ys->Q (.ref l) (upd H l (.lst zs))):=by subst hK;exact oi
end
end L2
namespace Lv
open L2
theorem Ed {fs:Fs} {k:Nat} {u:Int}:lk fs (k:Int)=some u↔fs[k]?=some (some u):=by
 rw[pd,YX]
noncomputable def IY (b:List Pl) (fs:Fs):Prop:=fs.length=b.length/\∀(i:Nat) q,b[i]?=some q->Ends fs i q
noncomputable def nm (s:List Nat) (g:Int):Int:=((s.getD g.toNat 0:Nat):Int)
noncomputable def TM (s:List Nat):Pl->Pl
 | .fin w=>.fin w
 | .gz w ws=>.gz w (ws.map λp=>(p.1,nm s p.2))
 | .ft w to=>.ft w (to.map (nm s))
noncomputable def turn (s:List Nat) (b:List Pl):List Pl:=(List.range b.length).map λj=>TM s (b.getD (s.idxOf j) (.fin (0,1)))
section
variable {s : List Nat} {n : Nat} (p : s.Perm (List.range n))
include p
theorem yN:s.Nodup:=p.nodup_iff.mpr List.nodup_range
theorem jL {i i' j:Nat} (h:s[i]?=some j) (h':s[i']?=some j):i=i':=by
 have l1:=(List.getElem?_eq_some_iff.mp h).1
 exact(List.getElem?_inj l1 (yN p)).mp (h.trans h'.symm)
theorem yO {i j:Nat} (h:s[i]?=some j):s.idxOf j=i:=by
 have hm:j∈s:=YN h
 have hl:s.idxOf j<s.length:=List.idxOf_lt_length_iff.mpr hm
 have:s[s.idxOf j]?=some j:=by rw[YM hl,ZU]
 exact jL p this h
end
end Lv
namespace PySem
open Builtin Builtin.Str
section
variable {prog : Program} {w : World} {A : Around} {E : Value -> Shared -> Prop} {s : Shared} {x y : Str} {t u : Tok} {Q : Value -> Shared -> Prop}
end
end PySem
namespace L2
open PySem PySem.Spec PyProof.Rows PySem.W
section
variable {X : Cx} {K : PySem.W.Frag}
noncomputable def TN (z:Str):It:=⟨λi _=>i<z.cps.size,λi H x H'=>H'=H/\∃c,z.cps[i]?=some c/\x=.str ⟨#[c]⟩,λi _=>z.cps.size<=i⟩
noncomputable def iStr (tl:TE):TI:=λσ H R=>tl σ H λx H1=>∃z,x=.str z/\z.cps.all (·<128)=true/\R (TN z) H1
theorem rK {x:Str} {i:Int} {pos:Pos} (hg:Gl X x) (h:∃t,X.mg x=some (.int i t)) (hd:(x==("__debug__":Str))=false:=by decide):PE X (.Name x pos) (tC (.int i)):=by
 obtain⟨t,h⟩:=h
 exact AK hg h ⟨t,rfl⟩ hd
end
end L2
namespace PySem
end PySem
namespace PySem
open Builtin Builtin.Str StrLaws
abbrev TQ:Str:=⟨#[32,43,32]⟩
end PySem
namespace L2
open PySem PySem.Spec PyProof.Rows PySem.W
section
variable {X : Cx} {K : PySem.W.Frag}
end
end L2
namespace PySem
section
variable {M : Model} {A : Around} {E : Value -> Shared -> Prop} {s : Shared} {env : Env}
end
end PySem
namespace L2
open PySem PySem.Spec PyProof.Rows PySem.W
section
variable {M : Model} {A : Around} {E : Value -> Shared -> Prop} {s : Shared} {B : Heap} {l : List Env} {ad L : Addr} {cls a0 : Value}
end
section
variable {P : Program} {w : World} {K : PySem.W.Frag} {mg : Str -> Option Value} {base : Heap} {N : List Str} {qual : Str} {scope : Scope} {f : Addr} {b9 : Value} {A : Around} {outer : List Env} {s0 : Shared} {H0 : Hp} {E : XK}
end
end L2
namespace L2
open PySem PySem.Spec PyProof.Rows PySem.W
section
variable {X : Cx}
end
end L2
namespace L2
open PySem PySem.Spec PyProof.Rows PySem.W
abbrev RA (h:Heap) (T:Addr) (a b c:Value):Prop:=h.get? T=some {cls:=.type "tuple",data:=.seq #[a,b,c]}
structure XM (z TI TO i1 i2 i3 a b c:Addr):Prop where
 TIz:TI≠z
 TOz:TO≠z
 i1z:i1≠z
 i2z:i2≠z
 XN:i3≠z
 TITO:TI≠TO
 XO:TI≠i1
 XQ:TI≠i2
 XR:TI≠i3
 XS:TO≠i1
 XT:TO≠i2
 XU:TO≠i3
 i12:i1≠i2
 XW:i1≠i3
 XX:i2≠i3
 az:a≠z
 bz:b≠z
 cz:c≠z
 XY:b≠TO
 XZ:c≠TO
 b1:b≠i1
 c1:c≠i1
 c2:c≠i2
section
variable {prog : Program} {w : World} {A : Around} {E : Value -> Shared -> Prop} {s : Shared}
end
abbrev RB (h:Heap) (la:Addr):Heap:=h.push {cls:=.type "list_iterator",data:=.fields #[.ref la,.int 0 0]}
abbrev RC (h:Heap) (la lb:Addr):Heap:=(RB h la).push {cls:=.type "list_iterator",data:=.fields #[.ref lb,.int 0 0]}
abbrev RD (h:Heap) (la lb lc:Addr):Heap:=(RC h la lb).push {cls:=.type "list_iterator",data:=.fields #[.ref lc,.int 0 0]}
abbrev RE (h:Heap) (la lb lc:Addr):Heap:=(RD h la lb lc).push {cls:=.type "tuple",data:=.seq #[.ref h.objs.size,.ref (RB h la).objs.size,.ref (RC h la lb).objs.size]}
abbrev TR (h:Heap) (la lb lc:Addr):Heap:=(RE h la lb lc).push {cls:=.type "tuple",data:=.seq #[.none,.none,.none]}
abbrev X0 (h:Heap) (la lb lc:Addr):Heap:=(TR h la lb lc).push {cls:=.type "zip",data:=.fields #[.none,.bool false,.bool false,.ref (RD h la lb lc).objs.size,.ref (RE h la lb lc).objs.size]}
section
variable {prog : Program} {w : World} {A : Around} {E : Value -> Shared -> Prop} {s : Shared}
end
section
variable {X : Cx} {elts : List Expr} {kk : Nat} {fW : Pos} {K : PySem.W.Frag}
end
end L2
namespace L2
open PySem PySem.Spec PyProof.Rows PySem.W
structure GF (P:Program) (w:World) (K:PySem.W.Frag) (mg:Str->Option Value) (base:Heap) (CX:h8) (k:Nat) (f:Addr) (fd:FuncData) (ps:List Str) (sp:Sp):Prop where
 len:∀vs H Q E,sp vs H Q E->vs.length=ps.length
 run:∀(A:Around) (ad:Addr) (outer:List Env) (s:Shared) (H:Hp) (args:Args) (us:List Value) (vs:List V) (Q:VK) (E:XK),cw k A->qR P w K mg base A outer s H->BindsTo s fd args (ps.zip us)->aV vs us->sp vs H Q E->
  codeAny (model P w) (A.mark (some (.ref ad))) (.call (.ref f) args) (CR CX outer P w H s Q E) s
structure TU (P:Program) (w:World) (K:PySem.W.Frag) (mg:Str->Option Value) (base:Heap) (CX:h8) (k:Nat) (x:Str) (ps:List Str) (sp:Sp):Prop where
 ex:∃f fd,GF P w K mg base CX k f fd ps sp/\mg x=some (.ref f)/\PySem.W.keepIn K (.ref f)=true/\Binds K fd ps []
section
variable {P : Program} {w : World} {K : PySem.W.Frag} {mg : Str -> Option Value} {base : Heap} {CX : h8}
end
section
variable {X : Cx} {K : PySem.W.Frag}
end
end L2
namespace PySem
open Builtin Builtin.Str StrLaws
end PySem
namespace L2
open PySem PySem.Spec PyProof.Rows PySem.W
section
variable {X : Cx} {K : PySem.W.Frag}
end
end L2
namespace L2
open PySem PySem.Spec PyProof.Rows PySem.W
section
variable {X : Cx} {K : PySem.W.Frag}
noncomputable def tSortR (K:PySem.W.Frag) (te:TE):TE:=λσ H Q=>te σ H λv H1=>∃p ns,v=.ref p/\aR K H1 p (List.map V.int ns)/\ns.length<64/\∀l,H1 l=none->Q (.ref l) (upd H1 l (.lst (List.map V.int (Nm.gh ns).reverse)))
end
end L2
namespace PySem.SeqAt
open AutoSeq1 (wpAny_loadPart')
open MeetsSeq MeetsSeq2 MeetsSeq3
end PySem.SeqAt
namespace L2
open PySem PySem.Spec PyProof.Rows PySem.W
section
variable {X : Cx} {K : PySem.W.Frag}
end
end L2
namespace PySem.UL
section
variable {prog : Program} {w : World} {A : Around} {E : Value -> Shared -> Prop} {s : Shared}
end
theorem pe {α:Type}:∀l:List α,(List.range l.length).filterMap (λk=>l[k]?)=l
 | []=>rfl
 | a::r=>by
  rw[Y8,List.range_succ_eq_map,ZL]
  simp only[ZV]
  rw[List.filterMap_map]
  have:=pe r
  simpa [Function.comp_def] using this
open Builtin in
theorem pick_rev (items:List Value):slicePick items.toArray none none (some (-1))=items.reverse.toArray:=by
 unfold slicePick
 have e:sliceRange (sliceBounds none none (some (-1)) items.toArray.size).1 (sliceBounds none none (some (-1)) items.toArray.size).2.1 (sliceBounds none none (some (-1)) items.toArray.size).2.2=Builtin.Str.strSliceIndices none none (-1) items.length:=by
  rw[YR]
  rfl
 rw[e,PyProof.Rows.picked_rev]
 congr 1
 rw[List.filterMap_map]
 have h:∀l:List Nat,(∀k∈l,k<items.length)->l.filterMap ((λk=>items.toArray[k]?) ∘λk=>items.length - 1 - k)=l.filterMap λk=>items.reverse[k]?:=by
  intro l
  induction l with
  | nil=>intro _;rfl
  | cons k r ih=>
   intro hk
   have e:((λk=>items.toArray[k]?) ∘λk=>items.length - 1 - k) k=items.reverse[k]?:=by
    rw[List.getElem?_reverse (hk k (by simp))]
    simp
   rw[ZL,ZL,e,ih λx hx=>hk x (YU _ hx)]
 rw[h _ λk hk=>List.mem_range.mp hk]
 have:=pe items.reverse
 rwa [ZP] at this
end PySem.UL
namespace L2
open PySem PySem.Spec PyProof.Rows PySem.W
section
variable {X : Cx} {K : PySem.W.Frag}
noncomputable def Ee (K:PySem.W.Frag) (te ts:TE):TE:=λσ H Q=>te σ H λx H1=>ts σ H1 λy H2=>∃a xs,x=.ref a/\y=.int (-1)/\aR K H2 a xs/\∀p,H2 p=none->Q (.ref p) (upd H2 p (.lst xs.reverse))
theorem yP {e st:Expr} {te ts:TE} {p2 pos:Pos} (he:PE X e te) (hs:PE X st ts):PE X (.Subscript e (.Slice none none (some st) p2) pos) (Ee X.K te ts):=by
 intro pins s σ H Q I h
 refine Subscript_ (bR (he pins s σ H _ I h) λv s1 b8=>?_)
 obtain⟨x,H1,I1,r1,q1⟩:=b8
 refine wpAny_Slice ?_
 rw[evalPart_none]
 refine wpAny_pure ?_
 refine wpAny_pure ?_
 rw[evalPart_some]
 refine bR (hs pins s1 σ H1 _ I1 q1) λvs s2 b8=>?_
 obtain⟨y,H2,I2,r2,q2⟩:=b8
 obtain⟨a,xs,rfl,rfl,hx,q⟩:=q2
 obtain⟨t,rfl⟩:=r2
 cases r1
 have I4:Inv X pins σ H2 {s2 with heap:=s2.heap.push {cls:=.type "slice",data:=.fields #[.none,.none,.int (-1) t]}}:=I2.kept (t':=s2.toks) λb ob q=>Heap.get?_push_of_some _ q
 obtain⟨aN,r,ht,hz⟩:=I4.list hx
 have hlen:=r.length
 show wpAny (model X.prog X.w) X.A (subscriptTail e (.Slice none none (some st) p2) (.ref a) (.ref s2.heap.objs.size)) (EP X pins σ Q) X.xe {s2 with heap:=s2.heap.push {cls:=.type "slice",data:=.fields #[.none,.none,.int (-1) t]}}
 refine tail_any (ops:=[.ref a,.ref s2.heap.objs.size]) ht.isList.typeIs slot_list_getitem.lookup ?_ (by with_unfolding_all rfl)
 refine wpAny_getItem_list_slice ht.isList (Heap.IsSliceOf.new ..) .none .none (.int (-1) t) (by simp) ?_ (by rw[YR] <;>omega)
 rw[PySem.UL.pick_rev]
 refine⟨.ref _,_,I4.laid (t':=s2.toks) (o:=.lst xs.reverse) (λb ob q=>Heap.get?_push_of_some _ q) (YO _) ?_,rfl,q _ (I4.bE.fresh (YO _))⟩
 exact⟨by rw[ZP];exact hz,_,0,r.reverse,Heap.get?_push_size _ rfl⟩
theorem xg {e st:Expr} {te ts:TE} {p2 pos:Pos} (he:PE X e te) (hs:PE X st ts) (hK:X.K=K:=by rfl):PE X (.Subscript e (.Slice none none (some st) p2) pos) (Ee K te ts):=by subst hK;exact yP he hs
end
end L2
namespace PySem.Tim
open PySem PyProof.Rows
noncomputable def nV (x:Keyed):Prop:=∃n t,x.1=.int n t
abbrev kn (x:Keyed):Int:=numOf x.1
noncomputable def cM:Bool->Keyed->Array Keyed->Nat->Nat->Nat->StateT SortSt Sem (Option Nat):=sortPriv% PySem.Builtin.gallop
noncomputable def Ef (left:Bool) (key:Keyed) (arr:Array Keyed) (base i:Nat):StateT SortSt Sem (Option Bool):=do
 let x <-elem' arr (base+i)
 if left then lt' x key else return (<-lt' key x).map (!·)
noncomputable def Bu (left:Bool) (key:Keyed) (arr:Array Keyed) (base n TV Ke:Nat):StateT SortSt Sem (Option Nat):=do
 let mut lo:=TV
 let mut hi:=Ke
 for _ in [0:n] do
  if lo≥hi then break
  let m:=lo+ (hi - lo) / 2
  let some more <-Ef left key arr base m | return none
  if more then lo:=m+1 else hi:=m
 return some hi
theorem uB (left:Bool) (key:Keyed) (arr:Array Keyed) (base n hint:Nat):cM left key arr base n hint=(do
 let some right <-Ef left key arr base hint | return none
 if right then
  let mut iZ:=0
  let mut dm:=1
  for _ in [0:n] do
   if dm≥n - hint then break
   let some more <-Ef left key arr base (hint+dm) | return none
   if !more then break
   iZ:=dm
   dm:=2*dm+1
  Bu left key arr base n (hint+iZ+1) (hint+min dm (n - hint))
 else
  let mut iZ:=0
  let mut dm:=1
  for _ in [0:n] do
   if dm≥hint+1 then break
   let some found <-Ef left key arr base (hint - dm) | return none
   if found then break
   iZ:=dm
   dm:=2*dm+1
  Bu left key arr base n (hint+1 - min dm (hint+1)) (hint - iZ)):=rfl
section
variable {prog : Program} {w : World} {A : Around} {E : Value -> Shared -> Prop} {s : Shared}
theorem mK {st:SortSt} {x y:Keyed} {Q:Option Bool->SortSt->Prop} (hk:kindOf st=oneType') (hx:nV x) (hy:nV y) (h:Q (some (decide (kn x<kn y))) st):wpS (model prog w) A E s (lt' x y) Q st:=by
 obtain⟨a,t,ea⟩:=hx
 obtain⟨b,u,eb⟩:=hy
 unfold kn at h
 rw[ea,eb] at h
 rw[lt'_eq]
 refine wpS_bind (wpS_get ?_)
 rw[hk,keyLt'_oneType,ea,eb]
 refine wpS_bind (wpS_lift (wpAny_attempt (oneLt_int ⟨rfl,?_⟩)))
 exact wpS_pure h
theorem bh {st:SortSt} {arr:Array Keyed} {i:Nat} {p:Keyed} {Q:Keyed->SortSt->Prop} (hp:arr[i]?=some p) (h:Q p st):wpS (model prog w) A E s (elem' arr i) Q st:=by
 rw[elem'_eq,hp]
 exact wpS_pure h
noncomputable def B (left:Bool) (key:Keyed) (arr:Array Keyed) (base i:Nat):Bool:=if left then decide (K arr (base+i)<kn key) else decide (K arr (base+i)<=kn key)
theorem Bv {st:SortSt} {left:Bool} {key:Keyed} {arr:Array Keyed} {base i:Nat} {p:Keyed} {Q:Option Bool->SortSt->Prop} (hk:kindOf st=oneType') (hy:nV key) (hp:arr[base+i]?=some p) (ip:nV p)
  (h:Q (some (B left key arr base i)) st):wpS (model prog w) A E s (Ef left key arr base i) Q st:=by
 have e:K arr (base+i)=kn p:=by unfold K;rw[hp]
 unfold Ef
 refine wpS_bind (bh hp ?_)
 unfold B at h
 rw[e] at h
 cases left with
 | true=>exact mK hk ip hy h
 | false=>
  refine wpS_bind (mK hk hy ip (wpS_pure ?_))
  have e2:(Option.map (λx=>!x) (some (decide (kn key<kn p))))=some (decide (kn p<=kn key)):=by
   by_cases c:kn key<kn p
   ·simp [c]
   ·simp [c];omega
  rw[e2]
  exact h
theorem c4 {st:SortSt} {left:Bool} {key:Keyed} {arr:Array Keyed} {base n hint:Nat} {Q:Option Nat->SortSt->Prop} (hk:kindOf st=oneType') (hy:nV key) (hp:∀i,i<n->∃p,arr[base+i]?=some p/\nV p)
  (hh:hint<n) (mono:∀i j,i<=j->j<n->K arr (base+i)<=K arr (base+j))
  (h:∀k,k<=n->(∀i,i<k->B left key arr base i=true)->(∀i,k<=i->i<n->B left key arr base i=false)->Q (some k) st):wpS (model prog w) A E s (cM left key arr base n hint) Q st:=by
 have dn:∀{i j},i<=j->j<n->B left key arr base j=true->B left key arr base i=true:=λ{i j} pN hj hb=>by
  have:=mono i j pN hj
  unfold B at *
  cases left with
  | true=>simp at *;omega
  | false=>simp at *;omega
 have ask:∀{i:Nat} {Q':Option Bool->SortSt->Prop},i<n->Q' (some (B left key arr base i)) st->wpS (model prog w) A E s (Ef left key arr base i) Q' st:=λ{i Q'} hi hq=>by
  obtain⟨p,e,ip⟩:=hp i hi
  exact Bv hk hy e ip hq
 have bin:∀lo hi,lo<=hi->hi<=n->(∀i,i<lo->B left key arr base i=true)->(∀i,hi<=i->i<n->B left key arr base i=false)->wpS (model prog w) A E s (Bu left key arr base n lo hi) Q st:=by
  intro lo hi l1 l2 b1 b2
  unfold Bu
  refine wpS_bind (wpS_mono (wpS_forRange (I:=λx c aM=>aM=st/\∃lo hi,c=(none,lo,hi)/\lo<=hi/\hi<=n/\hi - lo<=n - x/\(∀i,i<lo->B left key arr base i=true)/\(∀i,hi<=i->i<n->B left key arr base i=false))
   (Q:=λc aM=>aM=st/\∃hi,c=(none,hi,hi)/\hi<=n/\(∀i,i<hi->B left key arr base i=true)/\(∀i,hi<=i->i<n->B left key arr base i=false)) ?step ?fin ⟨rfl,lo,hi,rfl,l1,l2,by omega,b1,b2⟩) ?post)
  case fin=>
   rintro c aM ⟨rfl,lo,hi,rfl,l1,l2,l3,b1,b2⟩
   have:lo=hi:=by omega
   subst this
   exact⟨rfl,lo,rfl,l2,b1,b2⟩
  case step=>
   rintro x c aM _ hx ⟨rfl,lo,hi,rfl,l1,l2,l3,b1,b2⟩
   dsimp only
   by_cases c:lo≥hi
   ·rw[if_pos c]
    have:lo=hi:=by omega
    subst this
    exact wpS_pure ⟨rfl,lo,rfl,l2,b1,b2⟩
   ·rw[if_neg c]
    have hm:lo+ (hi - lo) / 2<n:=by omega
    refine wpS_bind (ask hm ?_)
    cases hb:B left key arr base (lo+ (hi - lo) / 2) with
    | true=>
     dsimp only
     rw[if_pos rfl]
     refine wpS_pure ⟨rfl,_,_,rfl,by omega,l2,by omega,λi qk=>dn (show i<=lo+ (hi - lo) / 2 by omega) hm hb,b2⟩
    | false=>
     dsimp only
     rw[if_neg (by simp)]
     refine wpS_pure ⟨rfl,_,_,rfl,by omega,by omega,by omega,b1,λi h1 h2=>?_⟩
     cases hc:B left key arr base i with
     | false=>rfl
     | true=>rw[dn h1 h2 hc] at hb;cases hb
  case post=>
   rintro c aM ⟨rfl,hi,rfl,l2,b1,b2⟩
   exact wpS_pure (h hi l2 b1 b2)
 rw[uB]
 refine wpS_bind (ask hh ?_)
 cases hr:B left key arr base hint with
 | true=>
  dsimp only
  rw[if_pos rfl]
  refine wpS_bind (wpS_mono (wpS_forRange (I:=λx c aM=>aM=st/\∃lst dm,c=(none,lst,dm)/\lst<dm/\x+1<=dm/\hint+lst<n/\B left key arr base (hint+lst)=true)
   (Q:=λc aM=>aM=st/\∃lst dm,c=(none,lst,dm)/\lst<dm/\hint+lst<n/\B left key arr base (hint+lst)=true/\(dm≥n - hint\/B left key arr base (hint+dm)=false)) ?step ?fin ⟨rfl,0,1,rfl,by omega,by omega,by omega,hr⟩) ?post)
  case fin=>
   rintro c aM ⟨rfl,lst,dm,rfl,l1,l2,l3,b1⟩
   exact⟨rfl,lst,dm,rfl,l1,l3,b1,.inl (by omega)⟩
  case step=>
   rintro x c aM _ hx ⟨rfl,lst,dm,rfl,l1,l2,l3,b1⟩
   dsimp only
   by_cases c:dm≥n - hint
   ·rw[if_pos c]
    exact wpS_pure ⟨rfl,lst,dm,rfl,l1,l3,b1,.inl c⟩
   ·rw[if_neg c]
    refine wpS_bind (ask (by omega) ?_)
    cases hb:B left key arr base (hint+dm) with
    | true=>
     dsimp only
     rw[if_neg (by simp)]
     exact wpS_pure ⟨rfl,dm,2*dm+1,rfl,by omega,by omega,by omega,hb⟩
    | false=>
     dsimp only
     rw[if_pos (by simp)]
     exact wpS_pure ⟨rfl,lst,dm,rfl,l1,l3,b1,.inr hb⟩
  case post=>
   rintro c aM ⟨rfl,lst,dm,rfl,l1,l3,b1,b2⟩
   dsimp only
   refine bin _ _ (by omega) (by omega) (λi hi=>dn (show i<=hint+lst by omega) l3 b1) λi h1 h2=>?_
   rcases b2 with c | c
   ·omega
   ·cases hc:B left key arr base i with
    | false=>rfl
    | true=>rw[dn (show hint+dm<=i by omega) h2 hc] at c;cases c
 | false=>
  dsimp only
  rw[if_neg (by simp)]
  refine wpS_bind (wpS_mono (wpS_forRange (I:=λx c aM=>aM=st/\∃lst dm,c=(none,lst,dm)/\lst<dm/\x+1<=dm/\lst<=hint/\B left key arr base (hint - lst)=false)
   (Q:=λc aM=>aM=st/\∃lst dm,c=(none,lst,dm)/\lst<dm/\lst<=hint/\B left key arr base (hint - lst)=false/\(dm≥hint+1\/B left key arr base (hint - dm)=true)) ?step2 ?fin2 ⟨rfl,0,1,rfl,by omega,by omega,by omega,hr⟩) ?post2)
  case fin2=>
   rintro c aM ⟨rfl,lst,dm,rfl,l1,l2,l3,b1⟩
   exact⟨rfl,lst,dm,rfl,l1,l3,b1,.inl (by omega)⟩
  case step2=>
   rintro x c aM _ hx ⟨rfl,lst,dm,rfl,l1,l2,l3,b1⟩
   dsimp only
   by_cases c:dm≥hint+1
   ·rw[if_pos c]
    exact wpS_pure ⟨rfl,lst,dm,rfl,l1,l3,b1,.inl c⟩
   ·rw[if_neg c]
    refine wpS_bind (ask (by omega) ?_)
    cases hb:B left key arr base (hint - dm) with
    | false=>
     dsimp only
     rw[if_neg (by simp)]
     exact wpS_pure ⟨rfl,dm,2*dm+1,rfl,by omega,by omega,by omega,hb⟩
    | true=>
     dsimp only
     rw[if_pos rfl]
     exact wpS_pure ⟨rfl,lst,dm,rfl,l1,l3,b1,.inr hb⟩
  case post2=>
   rintro c aM ⟨rfl,lst,dm,rfl,l1,l3,b1,b2⟩
   dsimp only
   refine bin _ _ (by omega) (by omega) (λi hi=>?_) λi h1 h2=>?_
   ·rcases b2 with c | c
    ·omega
    ·exact dn (show i<=hint - dm by omega) (by omega) c
   ·cases hc:B left key arr base i with
    | false=>rfl
    | true=>rw[dn h1 h2 hc] at b1;cases b1
noncomputable def j4 (g:Nat):StateT SortSt Sem Unit:=(sortPriv% PySem.Builtin.setMinGallop) g
theorem yQ (g:Nat):j4 g=modify λs=>SortSt.mk' (kindOf s) (arrOf s) (pendingOf s) g (failedOf s):=rfl
noncomputable def mL:Array Keyed->Array Keyed->StateT SortSt Sem (Array Keyed):=sortPriv% PySem.Builtin.mergeLo
noncomputable def dn (a b out:Array Keyed) (ia ib:Nat):Array Keyed:=out++a.extract ia a.size++b.extract ib b.size
noncomputable def lA (a b out:Array Keyed) (ia ib:Nat):Array Keyed:=out++b.extract ib b.size++a.extract ia a.size
theorem rM (a b:Array Keyed):mL a b=(do
 rule "list.sort.merge-lo"
 let mut out:Array Keyed:=#[<-elem' b 0]
 let mut ia:=0
 let mut ib:=1
 if ib==b.size then return dn a b out ia ib
 if ia+1==a.size then return lA a b out ia ib
 let mut aX:=gallopOf (<-get)
 for _ in [0:a.size+b.size] do
  let mut c5:=0
  let mut c7:=0
  for _ in [0:a.size+b.size] do
   let some GG <-lt' (<-elem' b ib) (<-elem' a ia) | return dn a b out ia ib
   if GG then
    out:=out.push (<-elem' b ib);ib:=ib+1;c7:=c7+1;c5:=0
    if ib==b.size then return dn a b out ia ib
    if c7≥aX then break
   else
    out:=out.push (<-elem' a ia);ia:=ia+1;c5:=c5+1;c7:=0
    if ia+1==a.size then return lA a b out ia ib
    if c5≥aX then break
  rule "list.sort.gallop"
  aX:=aX+1
  for _ in [0:a.size+b.size] do
   if aX >1 then aX:=aX - 1
   j4 aX
   let some k <-cM false (<-elem' b ib) a ia (a.size - ia) 0 | return dn a b out ia ib
   c5:=k
   if k >0 then
    out:=out++a.extract ia (ia+k);ia:=ia+k
    if ia+1==a.size then return lA a b out ia ib
    if ia==a.size then return dn a b out ia ib
   out:=out.push (<-elem' b ib);ib:=ib+1
   if ib==b.size then return dn a b out ia ib
   let some k <-cM true (<-elem' a ia) b ib (b.size - ib) 0 | return dn a b out ia ib
   c7:=k
   if k >0 then
    out:=out++b.extract ib (ib+k);ib:=ib+k
    if ib==b.size then return dn a b out ia ib
   out:=out.push (<-elem' a ia);ia:=ia+1
   if ia+1==a.size then return lA a b out ia ib
   if c5<7 && c7<7 then break
  aX:=aX+1
  j4 aX
 unsupported "internal:list.sort.merge-bound"):=rfl
noncomputable def Le (x y:Keyed):Prop:=kn x<=kn y
structure MI (a b out:List Keyed) (ia ib:Nat):Prop where
 perm:out.Perm (a.take ia++b.take ib)
 gh:out.Pairwise Le
 le:∀x∈out,∀y,(y∈a.drop ia\/y∈b.drop ib)->kn x<=kn y
theorem take_one {l:List Keyed} {i:Nat} {x:Keyed} (e:l[i]?=some x):l.take (i+1)=l.take i++ [x]:=by rw[Za,e];rfl
theorem drop_one {l:List Keyed} {i:Nat} {x:Keyed} (e:l[i]?=some x):l.drop i=x::l.drop (i+1):=by
 obtain⟨h,rfl⟩:=List.getElem?_eq_some_iff.mp e
 exact List.drop_eq_getElem_cons h
theorem dq {l:List Keyed} {i:Nat} {x:Keyed} (h:l.Pairwise Le) (e:l[i]?=some x):∀y∈l.drop i,kn x<=kn y:=by
 have:=List.Pairwise.drop (i:=i) h
 rw[drop_one e] at this ⊢
 intro y hy
 rcases List.mem_cons.mp hy with rfl | hy
 ·exact Zk _
 ·exact(List.pairwise_cons.mp this).1 y hy
theorem MI.j5 {a b out:List Keyed} {ia ib:Nat} {x:Keyed} (m:MI a b out ia ib) (hb:b.Pairwise Le) (e:b[ib]?=some x) (h:∀y∈a.drop ia,kn x<=kn y):MI a b (out++ [x]) ia (ib+1):=by
 have xb:x∈b.drop ib:=by rw[drop_one e];simp
 have sub:∀y∈b.drop (ib+1),y∈b.drop ib:=λy hy=>by rw[drop_one e];exact YU _ hy
 refine⟨?_,?_,?_⟩
 ·rw[take_one e,<-Zb]
  exact m.perm.append_right _
 ·rw[ZG]
  exact⟨m.gh,by simp,λu hu v hv=>by rw[List.mem_singleton.mp hv];exact m.le u hu x (.inr xb)⟩
 ·intro u hu y hy
  rcases List.mem_append.mp hu with hu | hu
  ·rcases hy with hy | hy
   ·exact m.le u hu y (.inl hy)
   ·exact m.le u hu y (.inr (sub y hy))
  ·rw[List.mem_singleton.mp hu]
   rcases hy with hy | hy
   ·exact h y hy
   ·exact dq hb e y (sub y hy)
theorem MI.j6 {a b out:List Keyed} {ia ib:Nat} {x:Keyed} (m:MI a b out ia ib) (ha:a.Pairwise Le) (e:a[ia]?=some x) (h:∀y∈b.drop ib,kn x<=kn y):MI a b (out++ [x]) (ia+1) ib:=by
 have xb:x∈a.drop ia:=by rw[drop_one e];simp
 have sub:∀y∈a.drop (ia+1),y∈a.drop ia:=λy hy=>by rw[drop_one e];exact YU _ hy
 refine⟨?_,?_,?_⟩
 ·rw[take_one e,Zb]
  refine(m.perm.append_right [x]).trans ?_
  rw[Zb]
  exact List.perm_append_comm.append_left _
 ·rw[ZG]
  exact⟨m.gh,by simp,λu hu v hv=>by rw[List.mem_singleton.mp hv];exact m.le u hu x (.inl xb)⟩
 ·intro u hu y hy
  rcases List.mem_append.mp hu with hu | hu
  ·rcases hy with hy | hy
   ·exact m.le u hu y (.inl (sub y hy))
   ·exact m.le u hu y (.inr hy)
  ·rw[List.mem_singleton.mp hu]
   rcases hy with hy | hy
   ·exact dq ha e y (sub y hy)
   ·exact h y hy
theorem MI.yR {a b out:List Keyed} {ia ib:Nat} (m:MI a b out ia ib) (ha:a.Pairwise Le):∀k,ia+k<=a.length->(∀i x,i<k->a[ia+i]?=some x->∀y∈b.drop ib,kn x<=kn y)->MI a b (out++ (a.drop ia).take k) (ia+k) ib
 | 0,_,_=>by simpa using m
 | k+1,hk,h=>by
  have e:a[ia+k]?=some (a[ia+k]'(by omega)):=YM (by omega)
  have m1:=(m.yR ha k (by omega) λi x hi=>h i x (by omega)).j6 ha e (h k _ (by omega) e)
  have e2:(a.drop ia).take (k+1)=(a.drop ia).take k++ [a[ia+k]'(by omega)]:=take_one (by rw[ZF];exact e)
  rw[e2,<-Zb]
  exact m1
theorem MI.yS {a b out:List Keyed} {ia ib:Nat} (m:MI a b out ia ib) (hb:b.Pairwise Le):∀k,ib+k<=b.length->(∀i x,i<k->b[ib+i]?=some x->∀y∈a.drop ia,kn x<=kn y)->MI a b (out++ (b.drop ib).take k) ia (ib+k)
 | 0,_,_=>by simpa using m
 | k+1,hk,h=>by
  have e:b[ib+k]?=some (b[ib+k]'(by omega)):=YM (by omega)
  have m1:=(m.yS hb k (by omega) λi x hi=>h i x (by omega)).j5 hb e (h k _ (by omega) e)
  have e2:(b.drop ib).take (k+1)=(b.drop ib).take k++ [b[ib+k]'(by omega)]:=take_one (by rw[ZF];exact e)
  rw[e2,<-Zb]
  exact m1
noncomputable def Res (a b r:List Keyed):Prop:=r.Perm (a++b)/\r.Pairwise Le
theorem MI.vt {a b out:List Keyed} {ia ib:Nat} (m:MI a b out ia ib) (ha:a.Pairwise Le) (h:b.length<=ib):Res a b (out++a.drop ia++b.drop ib):=by
 have e:b.drop ib=[]:=List.drop_of_length_le h
 have e2:b.take ib=b:=Y6 h
 rw[e,Zx]
 refine⟨?_,?_⟩
 ·have:=m.perm.append_right (a.drop ia)
  rw[e2,Zb] at this
  refine this.trans ((List.perm_append_comm (l₁:=b) (l₂:=a.drop ia)).append_left (a.take ia) |>.trans ?_)
  rw[<-Zb,ZC]
 ·rw[ZG]
  exact⟨m.gh,ha.drop,λu hu v hv=>m.le u hu v (.inl hv)⟩
theorem MI.yT {a b out:List Keyed} {ia ib:Nat} (m:MI a b out ia ib) (hb:b.Pairwise Le) (h:a.length<=ia):Res a b (out++a.drop ia++b.drop ib):=by
 have e:a.drop ia=[]:=List.drop_of_length_le h
 have e2:a.take ia=a:=Y6 h
 rw[e,Zx]
 refine⟨?_,?_⟩
 ·have:=m.perm.append_right (b.drop ib)
  rw[e2,Zb,ZC] at this
  exact this
 ·rw[ZG]
  exact⟨m.gh,hb.drop,λu hu v hv=>m.le u hu v (.inr hv)⟩
theorem MI.Cy {a b out:List Keyed} {ia ib:Nat} (m:MI a b out ia ib) (ha:a.Pairwise Le) (hb:b.Pairwise Le) (h:ia+1=a.length) (hl:∀x,a[ia]?=some x->∀y∈b,kn y<=kn x):Res a b (out++b.drop ib++a.drop ia):=by
 have e:a[ia]?=some (a[ia]'(by omega)):=YM (by omega)
 have e2:a.drop ia=[a[ia]'(by omega)]:=by rw[drop_one e,List.drop_of_length_le (by omega)]
 refine⟨?_,?_⟩
 ·have h1:=(m.perm.append_right (b.drop ib)).append_right (a.drop ia)
  rw[Zb (a.take ia),ZC] at h1
  refine h1.trans ?_
  rw[Zb]
  refine((List.perm_append_comm (l₁:=b) (l₂:=a.drop ia)).append_left (a.take ia)).trans ?_
  rw[<-Zb,ZC]
 ·rw[ZG,ZG]
  refine⟨⟨m.gh,hb.drop,λu hu v hv=>m.le u hu v (.inr hv)⟩,ha.drop,λu hu v hv=>?_⟩
  rcases List.mem_append.mp hu with hu | hu
  ·exact m.le u hu v (.inl hv)
  ·rw[e2] at hv
   rw[List.mem_singleton.mp hv]
   exact hl _ e u (List.mem_of_mem_drop hu)
theorem ql (a b out:Array Keyed) (ia ib:Nat):(dn a b out ia ib).toList=out.toList++a.toList.drop ia++b.toList.drop ib:=by
 unfold dn
 simp only[Array.toList_append,Array.toList_extract]
 simp
 rw[Y6 (by simp),Y6 (by simp)]
theorem vv (a b out:Array Keyed) (ia ib:Nat):(lA a b out ia ib).toList=out.toList++b.toList.drop ib++a.toList.drop ia:=by
 unfold lA
 simp only[Array.toList_append,Array.toList_extract]
 simp
 rw[Y6 (by simp),Y6 (by simp)]
noncomputable def SG (st aM:SortSt):Prop:=kindOf aM=kindOf st/\arrOf aM=arrOf st/\pendingOf aM=pendingOf st/\failedOf aM=failedOf st
theorem SG.refl (st:SortSt):SG st st:=⟨rfl,rfl,rfl,rfl⟩
theorem i4 {st aM:SortSt} {g:Nat} {Q:Unit->SortSt->Prop} (hs:SG st aM) (h:∀ir,SG st ir->Q () ir):wpS (model prog w) A E s (j4 g) Q aM:=by
 rw[yQ]
 exact wpS_modify (h _ ⟨hs.1,hs.2.1,hs.2.2.1,hs.2.2.2⟩)
theorem cb {a:Array Keyed} {i:Nat} {x:Keyed} (e:a.toList[i]?=some x):K a i=kn x:=by
 unfold K
 rw[<-Zt,e]
theorem fz (a:Array Keyed) (i k:Nat):(a.extract i (i+k)).toList=(a.toList.drop i).take k:=by
 rw[Array.toList_extract]
 simp
theorem bA {a:Array Keyed} {i:Nat} (h:i<a.size):∃x,a.toList[i]?=some x/\a[i]?=some x:=⟨a[i],by rw[YM (by simpa using h)];rfl,by simp [h]⟩
abbrev IZ:=Option (Array Keyed)×Array Keyed×Nat×Nat×Nat×Nat×Nat
noncomputable def I0 (a b out:Array Keyed) (ia ib mg ac bc:Nat):StateT SortSt Sem (ForInStep IZ):=do
 let v <-elem' a ia
 if ia+1+1==a.size then pure (.done (some (lA a b (out.push v) (ia+1) ib),out.push v,ia+1,ib,mg,ac,bc))
 else if ac<7 && bc<7 then pure (.done (none,out.push v,ia+1,ib,mg,ac,bc)) else pure (.yield (none,out.push v,ia+1,ib,mg,ac,bc))
noncomputable def Ja (a b out:Array Keyed) (ia ib mg ac bc:Nat):StateT SortSt Sem (ForInStep IZ):=do
 let u <-elem' b ib
 if ib+1==b.size then pure (.done (some (dn a b (out.push u) ia (ib+1)),out.push u,ia,ib+1,mg,ac,bc))
 else
  let v <-elem' a ia
  let x <-cM true v b (ib+1) (b.size - (ib+1)) 0
  match x with
  | some k=>
   if k >0 then
    if ib+1+k==b.size then pure (.done (some (dn a b (out.push u++b.extract (ib+1) (ib+1+k)) ia (ib+1+k)),out.push u++b.extract (ib+1) (ib+1+k),ia,ib+1+k,mg,ac,k))
    else I0 a b (out.push u++b.extract (ib+1) (ib+1+k)) ia (ib+1+k) mg ac k
   else I0 a b (out.push u) ia (ib+1) mg ac k
  | _=>pure (.done (some (dn a b (out.push u) ia (ib+1)),out.push u,ia,ib+1,mg,ac,bc))
theorem mM {a:Array Keyed} (sA:a.toList.Pairwise Le) {i j:Nat} (h:i<=j) (hj:j<a.size):K a i<=K a j:=by
 obtain⟨x,ex,_⟩:=bA (a:=a) (i:=i) (by omega)
 obtain⟨y,ey,_⟩:=bA (a:=a) hj
 rw[cb ex,cb ey]
 refine dq sA ex y ?_
 have:(a.toList.drop i)[j - i]?=some y:=by rw[ZF,show i+ (j - i)=j by omega];exact ey
 exact YN this
structure MC (st:SortSt) (a b:Array Keyed):Prop where
 hk:kindOf st=oneType'
 iA:∀x∈a.toList,nV x
 iB:∀x∈b.toList,nV x
 sA:a.toList.Pairwise Le
 sB:b.toList.Pairwise Le
 hl:∀x,a.toList[a.size - 1]?=some x->∀y∈b.toList,kn y<=kn x
theorem MC.rB {st:SortSt} {a b out:Array Keyed} {ia ib:Nat} (c:MC st a b) (m:MI a.toList b.toList out.toList ia ib) (e:ib=b.size):Res a.toList b.toList (dn a b out ia ib).toList:=by rw[ql];exact m.vt c.sA (by simp;omega)
theorem MC.rL {st:SortSt} {a b out:Array Keyed} {ia ib:Nat} (c:MC st a b) (m:MI a.toList b.toList out.toList ia ib) (e:ia+1=a.size):Res a.toList b.toList (lA a b out ia ib).toList:=by
 rw[vv]
 exact m.Cy c.sA c.sB (by simp;omega) λx hx=>c.hl x (by rw[show a.size - 1=ia by omega];exact hx)
theorem vx {st aM:SortSt} {a b out:Array Keyed} {ia ib mg ac bc:Nat} {v:Keyed} {P:ForInStep IZ->SortSt->Prop} (c:MC st a b) (sg:SG st aM) (m:MI a.toList b.toList out.toList ia ib) (l1:ia+1<a.size) (l2:ib<b.size)
  (ev:a.toList[ia]?=some v) (hv:∀y∈b.toList.drop ib,kn v<=kn y) (hr:∀r z,Res a.toList b.toList r.toList->P (.done (some r,z)) aM)
  (hn:∀cn jx jM yU yV,MI a.toList b.toList cn.toList jx jM->jx+1<a.size->jM<b.size->ia+ib<=jx+jM->P (.done (none,cn,jx,jM,mg,yU,yV)) aM/\P (.yield (none,cn,jx,jM,mg,yU,yV)) aM):
  wpS (model prog w) A E s (I0 a b out ia ib mg ac bc) P aM:=by
 unfold I0
 have uC:a[ia]?=some v:=by rw[<-Zt];exact ev
 have m2:=m.j6 c.sA ev hv
 rw[<-Array.toList_push] at m2
 refine wpS_bind (bh uC ?_)
 by_cases d:ia+1+1=a.size
 ·rw[if_pos (by simpa using d)]
  exact wpS_pure (hr _ _ (c.rL m2 d))
 ·rw[if_neg (by simpa using d)]
  obtain⟨h1,h2⟩:=hn _ _ _ ac bc m2 (by omega) l2 (by omega)
  split
  ·exact wpS_pure h1
  ·exact wpS_pure h2
theorem vy {st aM:SortSt} {a b out:Array Keyed} {ia ib mg ac bc:Nat} {u:Keyed} {P:ForInStep IZ->SortSt->Prop} (c:MC st a b) (sg:SG st aM) (m:MI a.toList b.toList out.toList ia ib) (l1:ia+1<a.size) (l2:ib<b.size)
  (eu:b.toList[ib]?=some u) (hu:∀y∈a.toList.drop ia,kn u<=kn y) (hr:∀r z,Res a.toList b.toList r.toList->P (.done (some r,z)) aM)
  (hn:∀cn jx jM yU yV,MI a.toList b.toList cn.toList jx jM->jx+1<a.size->jM<b.size->ia+ib<=jx+jM->P (.done (none,cn,jx,jM,mg,yU,yV)) aM/\P (.yield (none,cn,jx,jM,mg,yU,yV)) aM):
  wpS (model prog w) A E s (Ja a b out ia ib mg ac bc) P aM:=by
 unfold Ja
 have uD:b[ib]?=some u:=by rw[<-Zt];exact eu
 have m2:=m.j5 c.sB eu hu
 rw[<-Array.toList_push] at m2
 refine wpS_bind (bh uD ?_)
 by_cases d:ib+1=b.size
 ·rw[if_pos (by simpa using d)]
  exact wpS_pure (hr _ _ (c.rB m2 d))
 rw[if_neg (by simpa using d)]
 obtain⟨v,ev,uC⟩:=bA (a:=a) (i:=ia) (by omega)
 refine wpS_bind (bh uC (wpS_bind (c4 (sg.1.trans c.hk) (c.iA _ (YN ev)) (λi hi=>?_) (by omega) (λi j pN hj=>mM c.sB (by omega) (by omega)) λk hk b1 b2=>?_)))
 ·obtain⟨x,ex,pK⟩:=bA (a:=b) (i:=ib+1+i) (by omega)
  exact⟨x,pK,c.iB _ (YN ex)⟩
 ·dsimp only
  have lb:b.toList.length=b.size:=by simp
  have up:∀i x,i<k->b.toList[ib+1+i]?=some x->∀y∈a.toList.drop ia,kn x<=kn y:=λi x hi ex y hy=>by
   have h1:=b1 i hi
   unfold B at h1
   rw[cb ex] at h1
   have h2:=dq c.sA ev y hy
   simp at h1
   omega
  have xh:∀y∈b.toList.drop (ib+1+k),kn v<=kn y:=λy hy=>by
   obtain⟨i,ei⟩:=Y4 hy
   rw[ZF] at ei
   have en:ib+1+k+i<b.size:=by have:=(List.getElem?_eq_some_iff.mp ei).1;omega
   have h1:=b2 (k+i) (by omega) (by omega)
   unfold B at h1
   rw[cb (by rw[show ib+1+ (k+i)=ib+1+k+i by omega];exact ei)] at h1
   simp at h1
   exact h1
  have m3:=m2.yS c.sB k (by omega) up
  rw[<-fz,<-Array.toList_append] at m3
  by_cases k0:k >0
  ·rw[if_pos k0]
   by_cases d2:ib+1+k=b.size
   ·rw[if_pos (by simpa using d2)]
    exact wpS_pure (hr _ _ (c.rB m3 d2))
   ·rw[if_neg (by simpa using d2)]
    exact vx c sg m3 l1 (by omega) ev xh hr λo i j x y mm q1 q2 q3=>hn o i j x y mm q1 q2 (by omega)
  ·rw[if_neg k0]
   have Kf:k=0:=by omega
   subst Kf
   exact vx c sg m2 l1 (by omega) ev (by simpa using xh) hr λo i j x y mm q1 q2 q3=>hn o i j x y mm q1 q2 (by omega)
theorem rN {st:SortSt} {a b:Array Keyed} {Q:Array Keyed->SortSt->Prop} (hk:kindOf st=oneType') (iA:∀x∈a.toList,nV x) (iB:∀x∈b.toList,nV x) (sA:a.toList.Pairwise Le) (sB:b.toList.Pairwise Le) (a1:1<=a.size) (b1:1<=b.size)
  (hf:∀x y,b.toList[0]?=some x->a.toList[0]?=some y->kn x<=kn y) (hl:∀x,a.toList[a.size - 1]?=some x->∀y∈b.toList,kn y<=kn x)
  (h:∀r aM,SG st aM->Res a.toList b.toList r.toList->Q r aM):wpS (model prog w) A E s (mL a b) Q st:=by
 have la:a.toList.length=a.size:=by simp
 have lb:b.toList.length=b.size:=by simp
 have rB:∀{out:Array Keyed} {ia ib:Nat},MI a.toList b.toList out.toList ia ib->ib=b.size->Res a.toList b.toList (dn a b out ia ib).toList:=λm e=>by rw[ql];exact m.vt sA (by omega)
 have rA:∀{out:Array Keyed} {ia ib:Nat},MI a.toList b.toList out.toList ia ib->ia=a.size->Res a.toList b.toList (dn a b out ia ib).toList:=λm e=>by rw[ql];exact m.yT sB (by omega)
 have rL:∀{out:Array Keyed} {ia ib:Nat},MI a.toList b.toList out.toList ia ib->ia+1=a.size->Res a.toList b.toList (lA a b out ia ib).toList:=λ{out ia ib} m e=>by
  rw[vv]
  exact m.Cy sA sB (by omega) λx hx=>hl x (by rw[show a.size - 1=ia by omega];exact hx)
 have mA:∀{i:Nat} {x:Keyed},a.toList[i]?=some x->nV x:=λe=>iA _ (YN e)
 have mB:∀{i:Nat} {x:Keyed},b.toList[i]?=some x->nV x:=λe=>iB _ (YN e)
 rw[rM]
 refine wpS_bind (wpS_lift (wpAny_rule ⟨rfl,?_⟩))
 obtain⟨x0,GH,Eg⟩:=bA (a:=b) (i:=0) (by omega)
 refine wpS_bind (bh Eg ?_)
 obtain⟨y0,RF,TX⟩:=bA (a:=a) (i:=0) (by omega)
 have m0:MI a.toList b.toList (#[x0]:Array Keyed).toList 0 1:=by
  have:MI a.toList b.toList [] 0 0:=⟨by simp,by simp,by simp⟩
  have:=this.j5 sB GH λy hy=>by
   rw[List.drop_zero] at hy
   have h1:=hf _ _ GH RF
   have h2:=dq sA RF y (by rw[List.drop_zero];exact hy)
   omega
  simpa using this
 dsimp only
 by_cases c1:1=b.size
 ·rw[if_pos (by simpa using c1)]
  exact wpS_pure (h _ _ (SG.refl _) (rB m0 c1))
 rw[if_neg (by simpa using c1)]
 by_cases c2:0+1=a.size
 ·rw[if_pos (by simpa using c2)]
  exact wpS_pure (h _ _ (SG.refl _) (rL m0 c2))
 rw[if_neg (by simpa using c2)]
 refine wpS_bind (wpS_get ?_)
 refine wpS_bind (wpS_mono (wpS_forRange
  (I:=λx c aM=>SG st aM/\∃out ia ib mg,c=(none,out,ia,ib,mg)/\MI a.toList b.toList out.toList ia ib/\ia+1<a.size/\ib<b.size/\x+1<=ia+ib)
  (Q:=λc aM=>SG st aM/\∃r z,c=(some r,z)/\Res a.toList b.toList r.toList) ?step ?fin ⟨SG.refl _,_,0,1,_,rfl,m0,by omega,by omega,by omega⟩) ?post)
 case fin=>
  rintro c aM ⟨sg,out,ia,ib,mg,rfl,m,l1,l2,l3⟩
  omega
 case post=>
  rintro c aM ⟨sg,r,z,rfl,rs⟩
  exact wpS_pure (h r aM sg rs)
 case step=>
  rintro x c tN _ hx ⟨Kg,out,ia,ib,mg,rfl,m,l1,l2,l3⟩
  dsimp only
  refine wpS_bind (wpS_mono (wpS_forRange
   (I:=λy c aM=>SG st aM/\∃cn jx jM ac bc,c=(none,cn,jx,jM,ac,bc)/\MI a.toList b.toList cn.toList jx jM/\jx+1<a.size/\jM<b.size/\ia+ib+y<=jx+jM)
   (Q:=λc aM=>SG st aM/\((∃r z,c=(some r,z)/\Res a.toList b.toList r.toList)\/∃cn jx jM ac bc,c=(none,cn,jx,jM,ac,bc)/\MI a.toList b.toList cn.toList jx jM/\jx+1<a.size/\jM<b.size/\ia+ib+1<=jx+jM)) ?step1 ?fin1 ⟨Kg,out,ia,ib,0,0,rfl,m,l1,l2,by omega⟩) ?post1)
  case fin1=>
   rintro c aM ⟨sg,cn,jx,jM,ac,bc,rfl,m',k1,k2,k3⟩
   exact⟨sg,.inr ⟨cn,jx,jM,ac,bc,rfl,m',k1,k2,by omega⟩⟩
  case step1=>
   rintro y c bI _ hy ⟨sg,cn,jx,jM,ac,bc,rfl,m',k1,k2,k3⟩
   dsimp only
   obtain⟨u,eu,uD⟩:=bA (a:=b) k2
   obtain⟨v,ev,uC⟩:=bA (a:=a) (i:=jx) (by omega)
   refine wpS_bind (bh uD (wpS_bind (bh uC (wpS_bind (mK (sg.1.trans hk) (mB eu) (mA ev) ?_)))))
   by_cases c:kn u<kn v
   ·simp only[c,decide_true,if_true]
    have m2:=m'.j5 sB eu λz hz=>by have:=dq sA ev z hz;omega
    rw[<-Array.toList_push] at m2
    refine wpS_bind (bh uD ?_)
    by_cases d:jM+1=b.size
    ·rw[if_pos (by simpa using d)]
     exact wpS_pure ⟨sg,.inl ⟨_,_,rfl,rB m2 d⟩⟩
    ·rw[if_neg (by simpa using d)]
     split
     ·exact wpS_pure ⟨sg,.inr ⟨_,_,_,_,_,rfl,m2,k1,by omega,by omega⟩⟩
     ·exact wpS_pure ⟨sg,_,_,_,_,_,rfl,m2,k1,by omega,by omega⟩
   ·simp only[c,decide_false,Zs,if_false]
    have m2:=m'.j6 sA ev λz hz=>by have:=dq sB eu z hz;omega
    rw[<-Array.toList_push] at m2
    refine wpS_bind (bh uC ?_)
    by_cases d:jx+1+1=a.size
    ·rw[if_pos (by simpa using d)]
     exact wpS_pure ⟨sg,.inl ⟨_,_,rfl,rL m2 d⟩⟩
    ·rw[if_neg (by simpa using d)]
     split
     ·exact wpS_pure ⟨sg,.inr ⟨_,_,_,_,_,rfl,m2,by omega,k2,by omega⟩⟩
     ·exact wpS_pure ⟨sg,_,_,_,_,_,rfl,m2,by omega,k2,by omega⟩
  case post1=>
   rintro c bI ⟨GI,hc⟩
   rcases hc with ⟨r,z,rfl,rs⟩ | ⟨cn,jx,jM,ac,bc,rfl,m',k1,k2,k3⟩
   ·exact wpS_pure ⟨GI,_,_,rfl,rs⟩
   dsimp only
   refine wpS_bind (wpS_lift (wpAny_rule ⟨rfl,?_⟩))
   refine wpS_bind (wpS_mono (wpS_forRange
    (I:=λy c aM=>SG st aM/\∃cB fA fC mg ac bc,c=(none,cB,fA,fC,mg,ac,bc)/\MI a.toList b.toList cB.toList fA fC/\fA+1<a.size/\fC<b.size/\ia+ib+1<=fA+fC)
    (Q:=λc aM=>SG st aM/\((∃r z,c=(some r,z)/\Res a.toList b.toList r.toList)\/∃cB fA fC mg ac bc,c=(none,cB,fA,fC,mg,ac,bc)/\MI a.toList b.toList cB.toList fA fC/\fA+1<a.size/\fC<b.size/\ia+ib+1<=fA+fC)) ?step2 ?fin2 ⟨GI,cn,jx,jM,_,ac,bc,rfl,m',k1,k2,by omega⟩) ?post2)
   case fin2=>
    rintro c aM ⟨sg,hc⟩
    exact⟨sg,.inr hc⟩
   case post2=>
    rintro c nS ⟨Bw,hc⟩
    rcases hc with ⟨r,z,rfl,rs⟩ | ⟨o3,g8,xE,GJ,GK,xF,rfl,m3,q1,q2,q3⟩
    ·exact wpS_pure ⟨Bw,_,_,rfl,rs⟩
    dsimp only
    refine wpS_bind (i4 Bw λfM fO=>wpS_pure ⟨fO,o3,g8,xE,_,rfl,m3,q1,q2,by omega⟩)
   case step2=>
    rintro y c nS _ hy ⟨Bw,o3,g8,xE,GJ,GK,xF,rfl,m3,q1,q2,q3⟩
    dsimp only
    have C:MC st a b:=⟨hk,iA,iB,sA,sB,hl⟩
    obtain⟨u,eu,uD⟩:=bA (a:=b) q2
    have body:∀g:Nat,wpS (model prog w) A E s (do
      j4 g
      let u <-elem' b xE
      let x <-cM false u a g8 (a.size - g8) 0
      match x with
      | some k=>
       if k >0 then
        if g8+k+1==a.size then pure (ForInStep.done (some (lA a b (o3++a.extract g8 (g8+k)) (g8+k) xE),o3++a.extract g8 (g8+k),g8+k,xE,g,k,xF))
        else if g8+k==a.size then pure (ForInStep.done (some (dn a b (o3++a.extract g8 (g8+k)) (g8+k) xE),o3++a.extract g8 (g8+k),g8+k,xE,g,k,xF))
        else Ja a b (o3++a.extract g8 (g8+k)) (g8+k) xE g k xF
       else Ja a b o3 g8 xE g k xF
      | _=>pure (ForInStep.done (some (dn a b o3 g8 xE),o3,g8,xE,g,GK,xF)))
     (λr aM=>match r with
      | .done c'=>SG st aM/\((∃r z,c'=(some r,z)/\Res a.toList b.toList r.toList)\/∃cB fA fC mg ac bc,c'=(none,cB,fA,fC,mg,ac,bc)/\MI a.toList b.toList cB.toList fA fC/\fA+1<a.size/\fC<b.size/\ia+ib+1<=fA+fC)
      | .yield c'=>SG st aM/\∃cB fA fC mg ac bc,c'=(none,cB,fA,fC,mg,ac,bc)/\MI a.toList b.toList cB.toList fA fC/\fA+1<a.size/\fC<b.size/\ia+ib+1<=fA+fC) nS:=by
     intro g
     refine wpS_bind (i4 Bw λfM fO=>?_)
     refine wpS_bind (bh uD (wpS_bind (c4 (fO.1.trans hk) (mB eu) (λi hi=>?_) (by omega) (λi j pN hj=>mM sA (by omega) (by omega)) λk hk b1 b2=>?_)))
     ·obtain⟨x,ex,pK⟩:=bA (a:=a) (i:=g8+i) (by omega)
      exact⟨x,pK,mA ex⟩
     ·dsimp only
      have up:∀i x,i<k->a.toList[g8+i]?=some x->∀y∈b.toList.drop xE,kn x<=kn y:=λi x hi ex y hy=>by
       have h1:=b1 i hi
       unfold B at h1
       rw[cb ex] at h1
       have h2:=dq sB eu y hy
       simp at h1
       omega
      have xh:∀y∈a.toList.drop (g8+k),kn u<=kn y:=λy hy=>by
       obtain⟨i,ei⟩:=Y4 hy
       rw[ZF] at ei
       have en:g8+k+i<a.size:=by have:=(List.getElem?_eq_some_iff.mp ei).1;omega
       have h1:=b2 (k+i) (by omega) (by omega)
       unfold B at h1
       rw[cb (by rw[show g8+ (k+i)=g8+k+i by omega];exact ei)] at h1
       simp at h1
       omega
      have m4:=m3.yR sA k (by omega) up
      rw[<-fz,<-Array.toList_append] at m4
      by_cases k0:k >0
      ·rw[if_pos k0]
       by_cases d1:g8+k+1=a.size
       ·rw[if_pos (by simpa using d1)]
        exact wpS_pure ⟨fO,.inl ⟨_,_,rfl,rL m4 d1⟩⟩
       rw[if_neg (by simpa using d1)]
       by_cases d2:g8+k=a.size
       ·rw[if_pos (by simpa using d2)]
        exact wpS_pure ⟨fO,.inl ⟨_,_,rfl,rA m4 d2⟩⟩
       rw[if_neg (by simpa using d2)]
       exact vy C fO m4 (by omega) q2 eu xh (λr z rs=>⟨fO,.inl ⟨_,_,rfl,rs⟩⟩) λo i j x y mm p1 p2 p3=>⟨⟨fO,.inr ⟨o,i,j,_,x,y,rfl,mm,p1,p2,by omega⟩⟩,⟨fO,o,i,j,_,x,y,rfl,mm,p1,p2,by omega⟩⟩
      ·rw[if_neg k0]
       have Kf:k=0:=by omega
       subst Kf
       exact vy C fO m3 q1 q2 eu (by simpa using xh) (λr z rs=>⟨fO,.inl ⟨_,_,rfl,rs⟩⟩) λo i j x y mm p1 p2 p3=>⟨⟨fO,.inr ⟨o,i,j,_,x,y,rfl,mm,p1,p2,by omega⟩⟩,⟨fO,o,i,j,_,x,y,rfl,mm,p1,p2,by omega⟩⟩
    by_cases c:GJ >1
    ·rw[if_pos c]
     exact wpS_mono (body _) λr aM hh=>by cases r <;>exact hh
    ·rw[if_neg c]
     exact wpS_mono (body _) λr aM hh=>by cases r <;>exact hh
structure HI (a b o:List Keyed) (na nb:Nat):Prop where
 perm:o.Perm (a.drop na++b.drop nb)
 gh:o.Pairwise Le
 le:∀x∈o,∀y,(y∈a.take na\/y∈b.take nb)->kn y<=kn x
theorem eM {l:List Keyed} {i:Nat} {x:Keyed} (h:l.Pairwise Le) (e:l[i]?=some x):∀y∈l.take (i+1),kn y<=kn x:=by
 intro y hy
 have:=List.Pairwise.take (i:=i+1) h
 rw[take_one e] at this hy
 rcases List.mem_append.mp hy with hy | hy
 ·exact(List.pairwise_append.mp this).2.2 y hy x (by simp)
 ·rw[List.mem_singleton.mp hy];exact Zk _
theorem HI.j6 {a b o:List Keyed} {na nb:Nat} {x:Keyed} (m:HI a b o (na+1) nb) (ha:a.Pairwise Le) (e:a[na]?=some x) (h:∀y∈b.take nb,kn y<=kn x):HI a b (x::o) na nb:=by
 have xa:x∈a.take (na+1):=by rw[take_one e];simp
 have sub:∀y∈a.take na,y∈a.take (na+1):=λy hy=>by rw[take_one e];exact List.mem_append_left _ hy
 refine⟨?_,?_,?_⟩
 ·rw[drop_one e]
  exact m.perm.cons x
 ·exact List.pairwise_cons.mpr ⟨λu hu=>m.le u hu x (.inl xa),m.gh⟩
 ·intro u hu y hy
  rcases List.mem_cons.mp hu with rfl | hu
  ·rcases hy with hy | hy
   ·exact eM ha e y (sub y hy)
   ·exact h y hy
  ·rcases hy with hy | hy
   ·exact m.le u hu y (.inl (sub y hy))
   ·exact m.le u hu y (.inr hy)
theorem HI.j5 {a b o:List Keyed} {na nb:Nat} {x:Keyed} (m:HI a b o na (nb+1)) (hb:b.Pairwise Le) (e:b[nb]?=some x) (h:∀y∈a.take na,kn y<=kn x):HI a b (x::o) na nb:=by
 have xb:x∈b.take (nb+1):=by rw[take_one e];simp
 have sub:∀y∈b.take nb,y∈b.take (nb+1):=λy hy=>by rw[take_one e];exact List.mem_append_left _ hy
 refine⟨?_,?_,?_⟩
 ·rw[drop_one e]
  exact(m.perm.cons x).trans List.perm_middle.symm
 ·exact List.pairwise_cons.mpr ⟨λu hu=>m.le u hu x (.inr xb),m.gh⟩
 ·intro u hu y hy
  rcases List.mem_cons.mp hu with rfl | hu
  ·rcases hy with hy | hy
   ·exact h y hy
   ·exact eM hb e y (sub y hy)
  ·rcases hy with hy | hy
   ·exact m.le u hu y (.inl hy)
   ·exact m.le u hu y (.inr (sub y hy))
theorem HI.yR {a b o:List Keyed} {na nb:Nat} (m:HI a b o na nb) (ha:a.Pairwise Le) (hn:na<=a.length):∀k,k<=na->(∀i x,na - k<=i->i<na->a[i]?=some x->∀y∈b.take nb,kn y<=kn x)->HI a b ((a.drop (na - k)).take k++o) (na - k) nb
 | 0,_,_=>by simpa using m
 | k+1,hk,h=>by
  have e:a[na - (k+1)]?=some (a[na - (k+1)]'(by omega)):=YM (by omega)
  have m0:=m.yR ha hn k (by omega) λi x h1 h2=>h i x (by omega) h2
  rw[show na - k=na - (k+1)+1 by omega] at m0
  have m1:=m0.j6 ha e (h _ _ (YO _) (by omega) e)
  rw[drop_one e,List.take_succ_cons]
  exact m1
theorem HI.yS {a b o:List Keyed} {na nb:Nat} (m:HI a b o na nb) (hb:b.Pairwise Le) (hn:nb<=b.length):∀k,k<=nb->(∀i x,nb - k<=i->i<nb->b[i]?=some x->∀y∈a.take na,kn y<=kn x)->HI a b ((b.drop (nb - k)).take k++o) na (nb - k)
 | 0,_,_=>by simpa using m
 | k+1,hk,h=>by
  have e:b[nb - (k+1)]?=some (b[nb - (k+1)]'(by omega)):=YM (by omega)
  have m0:=m.yS hb hn k (by omega) λi x h1 h2=>h i x (by omega) h2
  rw[show nb - k=nb - (k+1)+1 by omega] at m0
  have m1:=m0.j5 hb e (h _ _ (YO _) (by omega) e)
  rw[drop_one e,List.take_succ_cons]
  exact m1
theorem HI.yT {a b o:List Keyed} {nb:Nat} (m:HI a b o 0 nb) (hb:b.Pairwise Le):Res a b (a.take 0++b.take nb++o):=by
 rw[List.take_zero,List.nil_append]
 refine⟨?_,?_⟩
 ·have:=m.perm.append_left (b.take nb)
  rw[List.drop_zero,<-Zb] at this
  refine this.trans ((List.perm_append_comm (l₁:=b.take nb) (l₂:=a)).append_right (b.drop nb) |>.trans ?_)
  rw[Zb,ZC]
 ·rw[ZG]
  exact⟨hb.take,m.gh,λu hu v hv=>m.le v hv u (.inr hu)⟩
theorem HI.vt {a b o:List Keyed} {na:Nat} (m:HI a b o na 0) (ha:a.Pairwise Le):Res a b (a.take na++b.take 0++o):=by
 rw[List.take_zero,Zx]
 refine⟨?_,?_⟩
 ·have:=m.perm.append_left (a.take na)
  rw[List.drop_zero,<-Zb,ZC] at this
  exact this
 ·rw[ZG]
  exact⟨ha.take,m.gh,λu hu v hv=>m.le v hv u (.inl hu)⟩
theorem HI.Eh {a b o:List Keyed} {na:Nat} (m:HI a b o na 1) (ha:a.Pairwise Le) (hb:b.Pairwise Le) (hf:∀x,b[0]?=some x->∀y∈a,kn x<=kn y):Res a b (b.take 1++a.take na++o):=by
 refine⟨?_,?_⟩
 ·have h1:=m.perm.append_left (b.take 1++a.take na)
  refine h1.trans ?_
  have h2:=((List.perm_append_comm (l₁:=b.take 1) (l₂:=a.take na)).append_right (a.drop na++b.drop 1))
  refine h2.trans ?_
  rw[Zb]
  refine(List.Perm.append_left (a.take na) (List.perm_append_comm_assoc (b.take 1) (a.drop na) (b.drop 1))).trans ?_
  rw[ZC,<-Zb,ZC]
 ·rw[ZG,ZG]
  refine⟨⟨hb.take,ha.take,λu hu v hv=>?_⟩,m.gh,λu hu v hv=>?_⟩
  ·cases b with
   | nil=>simp at hu
   | cons b0 br=>
    rw[List.take_succ_cons,List.take_zero,List.mem_singleton] at hu
    rw[hu]
    exact hf b0 rfl v (List.mem_of_mem_take hv)
  ·rcases List.mem_append.mp hu with hu | hu
   ·exact m.le v hv u (.inr hu)
   ·exact m.le v hv u (.inl hu)
noncomputable def mN:Array Keyed->Array Keyed->StateT SortSt Sem (Array Keyed):=sortPriv% PySem.Builtin.mergeHi
noncomputable def dh (a b out:Array Keyed) (na nb:Nat):Array Keyed:=a.extract 0 na++b.extract 0 nb++out.reverse
noncomputable def fB (a b out:Array Keyed) (na nb:Nat):Array Keyed:=b.extract 0 nb++a.extract 0 na++out.reverse
theorem vA (a b out:Array Keyed) (na nb:Nat):(dh a b out na nb).toList=a.toList.take na++b.toList.take nb++out.toList.reverse:=by
 unfold dh
 simp [Array.toList_extract]
theorem Bx (a b out:Array Keyed) (na nb:Nat):(fB a b out na nb).toList=b.toList.take nb++a.toList.take na++out.toList.reverse:=by
 unfold fB
 simp [Array.toList_extract]
theorem rO (a out:Array Keyed) (i n:Nat):(out++ (a.extract i n).reverse).toList.reverse=(a.toList.drop i).take (n - i)++out.toList.reverse:=by
 simp [Array.toList_extract]
theorem rP (a b:Array Keyed):mN a b=(do
 rule "list.sort.merge-hi"
 let mut na:=a.size - 1
 let mut nb:=b.size
 let mut out:Array Keyed:=#[<-elem' a na]
 if na==0 then return dh a b out na nb
 if nb==1 then return fB a b out na nb
 let mut aX:=gallopOf (<-get)
 for _ in [0:a.size+b.size] do
  let mut c5:=0
  let mut c7:=0
  for _ in [0:a.size+b.size] do
   let some GL <-lt' (<-elem' b (nb - 1)) (<-elem' a (na - 1)) | return dh a b out na nb
   if GL then
    na:=na - 1;out:=out.push (<-elem' a na);c5:=c5+1;c7:=0
    if na==0 then return dh a b out na nb
    if c5≥aX then break
   else
    nb:=nb - 1;out:=out.push (<-elem' b nb);c7:=c7+1;c5:=0
    if nb==1 then return fB a b out na nb
    if c7≥aX then break
  rule "list.sort.gallop"
  aX:=aX+1
  for _ in [0:a.size+b.size] do
   if aX >1 then aX:=aX - 1
   j4 aX
   let some at_ <-cM false (<-elem' b (nb - 1)) a 0 na (na - 1) | return dh a b out na nb
   let k:=na - at_
   c5:=k
   if k >0 then
    out:=out++ (a.extract at_ na).reverse;na:=at_
    if na==0 then return dh a b out na nb
   nb:=nb - 1;out:=out.push (<-elem' b nb)
   if nb==1 then return fB a b out na nb
   let some at_ <-cM true (<-elem' a (na - 1)) b 0 nb (nb - 1) | return dh a b out na nb
   let k:=nb - at_
   c7:=k
   if k >0 then
    out:=out++ (b.extract at_ nb).reverse;nb:=at_
    if nb==1 then return fB a b out na nb
    if nb==0 then return dh a b out na nb
   na:=na - 1;out:=out.push (<-elem' a na)
   if na==0 then return dh a b out na nb
   if c5<7 && c7<7 then break
  aX:=aX+1
  j4 aX
 unsupported "internal:list.sort.merge-bound"):=rfl
theorem i5 (out:Array Keyed) (x:Keyed):(out.push x).toList.reverse=x::out.toList.reverse:=by simp
abbrev Jb:=Option (Array Keyed)×Nat×Nat×Array Keyed×Nat×Nat×Nat
noncomputable def Jc (a b:Array Keyed) (na nb:Nat) (out:Array Keyed) (mg ac bc:Nat):StateT SortSt Sem (ForInStep Jb):=do
 let v <-elem' a (na - 1)
 if na - 1==0 then pure (.done (some (dh a b (out.push v) (na - 1) nb),na - 1,nb,out.push v,mg,ac,bc))
 else if ac<7 && bc<7 then pure (.done (none,na - 1,nb,out.push v,mg,ac,bc)) else pure (.yield (none,na - 1,nb,out.push v,mg,ac,bc))
noncomputable def Jd (a b:Array Keyed) (na nb:Nat) (out:Array Keyed) (mg ac bc:Nat):StateT SortSt Sem (ForInStep Jb):=do
 let u <-elem' b (nb - 1)
 if nb - 1==1 then pure (.done (some (fB a b (out.push u) na (nb - 1)),na,nb - 1,out.push u,mg,ac,bc))
 else
  let v <-elem' a (na - 1)
  let x <-cM true v b 0 (nb - 1) (nb - 1 - 1)
  match x with
  | some at_=>
   if nb - 1 - at_ >0 then
    if at_==1 then pure (.done (some (fB a b (out.push u++ (b.extract at_ (nb - 1)).reverse) na at_),na,at_,out.push u++ (b.extract at_ (nb - 1)).reverse,mg,ac,nb - 1 - at_))
    else if at_==0 then pure (.done (some (dh a b (out.push u++ (b.extract at_ (nb - 1)).reverse) na at_),na,at_,out.push u++ (b.extract at_ (nb - 1)).reverse,mg,ac,nb - 1 - at_))
    else Jc a b na at_ (out.push u++ (b.extract at_ (nb - 1)).reverse) mg ac (nb - 1 - at_)
   else Jc a b na (nb - 1) (out.push u) mg ac (nb - 1 - at_)
  | _=>pure (.done (some (dh a b (out.push u) na (nb - 1)),na,nb - 1,out.push u,mg,ac,bc))
structure HC (st:SortSt) (a b:Array Keyed):Prop where
 hk:kindOf st=oneType'
 iA:∀x∈a.toList,nV x
 iB:∀x∈b.toList,nV x
 sA:a.toList.Pairwise Le
 sB:b.toList.Pairwise Le
 hf:∀x,b.toList[0]?=some x->∀y∈a.toList,kn x<=kn y
theorem HC.rA {st:SortSt} {a b out:Array Keyed} {na nb:Nat} (c:HC st a b) (m:HI a.toList b.toList out.toList.reverse na nb) (e:na=0):Res a.toList b.toList (dh a b out na nb).toList:=by subst e;rw[vA];exact m.yT c.sB
theorem HC.rB {st:SortSt} {a b out:Array Keyed} {na nb:Nat} (c:HC st a b) (m:HI a.toList b.toList out.toList.reverse na nb) (e:nb=0):Res a.toList b.toList (dh a b out na nb).toList:=by subst e;rw[vA];exact m.vt c.sA
theorem HC.rF {st:SortSt} {a b out:Array Keyed} {na nb:Nat} (c:HC st a b) (m:HI a.toList b.toList out.toList.reverse na nb) (e:nb=1):Res a.toList b.toList (fB a b out na nb).toList:=by subst e;rw[Bx];exact m.Eh c.sA c.sB c.hf
theorem vB {st aM:SortSt} {a b out:Array Keyed} {na nb mg ac bc:Nat} {v:Keyed} {P:ForInStep Jb->SortSt->Prop} (c:HC st a b) (sg:SG st aM) (m:HI a.toList b.toList out.toList.reverse na nb) (l1:1<=na) (l2:2<=nb)
  (ev:a.toList[na - 1]?=some v) (hv:∀y∈b.toList.take nb,kn y<=kn v) (hr:∀r z,Res a.toList b.toList r.toList->P (.done (some r,z)) aM)
  (hn:∀fP fQ cn yU yV,HI a.toList b.toList cn.toList.reverse fP fQ->1<=fP->2<=fQ->fP<=na->fQ<=nb->P (.done (none,fP,fQ,cn,mg,yU,yV)) aM/\P (.yield (none,fP,fQ,cn,mg,yU,yV)) aM):
  wpS (model prog w) A E s (Jc a b na nb out mg ac bc) P aM:=by
 unfold Jc
 have uC:a[na - 1]?=some v:=by rw[<-Zt];exact ev
 rw[show na=na - 1+1 by omega] at m
 have m2:=m.j6 c.sA ev hv
 rw[<-i5] at m2
 refine wpS_bind (bh uC ?_)
 by_cases d:na - 1=0
 ·rw[if_pos (by simpa using d)]
  exact wpS_pure (hr _ _ (c.rA m2 d))
 ·rw[if_neg (by simpa using d)]
  obtain⟨h1,h2⟩:=hn _ _ _ ac bc m2 (by omega) l2 (by omega) (YO _)
  split
  ·exact wpS_pure h1
  ·exact wpS_pure h2
theorem vC {st aM:SortSt} {a b out:Array Keyed} {na nb mg ac bc:Nat} {u:Keyed} {P:ForInStep Jb->SortSt->Prop} (c:HC st a b) (sg:SG st aM) (m:HI a.toList b.toList out.toList.reverse na nb) (l1:1<=na) (X1:na<=a.size) (l2:2<=nb) (X2:nb<=b.size)
  (eu:b.toList[nb - 1]?=some u) (hu:∀y∈a.toList.take na,kn y<=kn u) (hr:∀r z,Res a.toList b.toList r.toList->P (.done (some r,z)) aM)
  (hn:∀fP fQ cn yU yV,HI a.toList b.toList cn.toList.reverse fP fQ->1<=fP->2<=fQ->fP<=na->fQ<=nb->P (.done (none,fP,fQ,cn,mg,yU,yV)) aM/\P (.yield (none,fP,fQ,cn,mg,yU,yV)) aM):
  wpS (model prog w) A E s (Jd a b na nb out mg ac bc) P aM:=by
 unfold Jd
 have la:a.toList.length=a.size:=by simp
 have lb:b.toList.length=b.size:=by simp
 have uD:b[nb - 1]?=some u:=by rw[<-Zt];exact eu
 rw[show nb=nb - 1+1 by omega] at m
 have m2:=m.j5 c.sB eu hu
 rw[<-i5] at m2
 refine wpS_bind (bh uD ?_)
 by_cases d:nb - 1=1
 ·rw[if_pos (by simpa using d)]
  exact wpS_pure (hr _ _ (c.rF m2 d))
 rw[if_neg (by simpa using d)]
 obtain⟨v,ev,uC⟩:=bA (a:=a) (i:=na - 1) (by omega)
 refine wpS_bind (bh uC (wpS_bind (c4 (sg.1.trans c.hk) (c.iA _ (YN ev)) (λi hi=>?_) (by omega) (λi j pN hj=>mM c.sB (by omega) (by omega)) λk hk b1 b2=>?_)))
 ·obtain⟨x,ex,pK⟩:=bA (a:=b) (i:=0+i) (by omega)
  exact⟨x,pK,c.iB _ (YN ex)⟩
 ·dsimp only
  have up:∀i x,k<=i->i<nb - 1->b.toList[i]?=some x->∀y∈a.toList.take na,kn y<=kn x:=λi x h1 h2 ex y hy=>by
   have q:=b2 i h1 h2
   unfold B at q
   rw[Zo,cb ex] at q
   have q2:=eM c.sA ev y (by rw[show na - 1+1=na by omega];exact hy)
   simp at q
   omega
  have xh:∀y∈b.toList.take k,kn y<=kn v:=λy hy=>by
   obtain⟨i,ei⟩:=Y4 hy
   have GN:i<k:=by have:=(List.getElem?_eq_some_iff.mp ei).1;rw[Zy] at this;omega
   rw[List.getElem?_take,if_pos GN] at ei
   have q:=b1 i GN
   unfold B at q
   rw[Zo,cb ei] at q
   simp at q
   omega
  by_cases k0:nb - 1 - k >0
  ·rw[if_pos k0]
   have m3:=m2.yS c.sB (by omega) (nb - 1 - k) (by omega) λi x h1 h2=>up i x (by omega) h2
   rw[show nb - 1 - (nb - 1 - k)=k by omega,<-rO] at m3
   by_cases d1:k=1
   ·rw[if_pos (by simpa using d1)]
    exact wpS_pure (hr _ _ (c.rF m3 d1))
   rw[if_neg (by simpa using d1)]
   by_cases d2:k=0
   ·rw[if_pos (by simpa using d2)]
    exact wpS_pure (hr _ _ (c.rB m3 d2))
   rw[if_neg (by simpa using d2)]
   exact vB c sg m3 l1 (by omega) ev xh hr λx y o p q mm q1 q2 q3 q4=>hn x y o p q mm q1 q2 q3 (by omega)
  ·rw[if_neg k0]
   have kk:k=nb - 1:=by omega
   rw[kk] at xh
   exact vB c sg m2 l1 (by omega) ev xh hr λx y o p q mm q1 q2 q3 q4=>hn x y o p q mm q1 q2 q3 (by omega)
theorem rQ {st:SortSt} {a b:Array Keyed} {Q:Array Keyed->SortSt->Prop} (hk:kindOf st=oneType') (iA:∀x∈a.toList,nV x) (iB:∀x∈b.toList,nV x) (sA:a.toList.Pairwise Le) (sB:b.toList.Pairwise Le) (a1:1<=a.size) (b1:1<=b.size)
  (hf:∀x,b.toList[0]?=some x->∀y∈a.toList,kn x<=kn y) (hl:∀x,a.toList[a.size - 1]?=some x->∀y∈b.toList,kn y<=kn x)
  (h:∀r aM,SG st aM->Res a.toList b.toList r.toList->Q r aM):wpS (model prog w) A E s (mN a b) Q st:=by
 have la:a.toList.length=a.size:=by simp
 have lb:b.toList.length=b.size:=by simp
 have C:HC st a b:=⟨hk,iA,iB,sA,sB,hf⟩
 have mA:∀{i:Nat} {x:Keyed},a.toList[i]?=some x->nV x:=λe=>iA _ (YN e)
 have mB:∀{i:Nat} {x:Keyed},b.toList[i]?=some x->nV x:=λe=>iB _ (YN e)
 rw[rP]
 refine wpS_bind (wpS_lift (wpAny_rule ⟨rfl,?_⟩))
 obtain⟨x0,GH,Eg⟩:=bA (a:=a) (i:=a.size - 1) (by omega)
 refine wpS_bind (bh Eg ?_)
 have m0:HI a.toList b.toList (#[x0]:Array Keyed).toList.reverse (a.size - 1) b.size:=by
  have:HI a.toList b.toList [] (a.size - 1+1) b.size:=⟨by rw[List.drop_of_length_le (by omega),List.drop_of_length_le (by omega)];simp,by simp,by simp⟩
  have:=this.j6 sA GH λy hy=>hl x0 GH y (List.mem_of_mem_take hy)
  simpa using this
 dsimp only
 by_cases c1:a.size - 1=0
 ·rw[if_pos (by simpa using c1)]
  exact wpS_pure (h _ _ (SG.refl _) (C.rA m0 c1))
 rw[if_neg (by simpa using c1)]
 by_cases c2:b.size=1
 ·rw[if_pos (by simpa using c2)]
  exact wpS_pure (h _ _ (SG.refl _) (C.rF m0 c2))
 rw[if_neg (by simpa using c2)]
 refine wpS_bind (wpS_get ?_)
 refine wpS_bind (wpS_mono (wpS_forRange
  (I:=λx c aM=>SG st aM/\∃na nb out mg,c=(none,na,nb,out,mg)/\HI a.toList b.toList out.toList.reverse na nb/\1<=na/\na<=a.size/\2<=nb/\nb<=b.size/\x+na+nb+1<=a.size+b.size)
  (Q:=λc aM=>SG st aM/\∃r z,c=(some r,z)/\Res a.toList b.toList r.toList) ?step ?fin ⟨SG.refl _,_,_,_,_,rfl,m0,by omega,by omega,by omega,by omega,by omega⟩) ?post)
 case fin=>
  rintro c aM ⟨sg,na,nb,out,mg,rfl,m,l1,l2,l3,l4,l5⟩
  omega
 case post=>
  rintro c aM ⟨sg,r,z,rfl,rs⟩
  exact wpS_pure (h r aM sg rs)
 case step=>
  rintro x c tN _ hx ⟨Kg,na,nb,out,mg,rfl,m,l1,l2,l3,l4,l5⟩
  dsimp only
  refine wpS_bind (wpS_mono (wpS_forRange
   (I:=λy c aM=>SG st aM/\∃fP fQ cn ac bc,c=(none,fP,fQ,cn,ac,bc)/\HI a.toList b.toList cn.toList.reverse fP fQ/\1<=fP/\fP<=a.size/\2<=fQ/\fQ<=b.size/\fP+fQ+y<=na+nb)
   (Q:=λc aM=>SG st aM/\((∃r z,c=(some r,z)/\Res a.toList b.toList r.toList)\/∃fP fQ cn ac bc,c=(none,fP,fQ,cn,ac,bc)/\HI a.toList b.toList cn.toList.reverse fP fQ/\1<=fP/\fP<=a.size/\2<=fQ/\fQ<=b.size/\fP+fQ+1<=na+nb)) ?step1 ?fin1 ⟨Kg,na,nb,out,0,0,rfl,m,l1,l2,l3,l4,by omega⟩) ?post1)
  case fin1=>
   rintro c aM ⟨sg,fP,fQ,cn,ac,bc,rfl,m',k1,k2,k3,k4,k5⟩
   exact⟨sg,.inr ⟨fP,fQ,cn,ac,bc,rfl,m',k1,k2,k3,k4,by omega⟩⟩
  case step1=>
   rintro y c bI _ hy ⟨sg,fP,fQ,cn,ac,bc,rfl,m',k1,k2,k3,k4,k5⟩
   dsimp only
   obtain⟨u,eu,uD⟩:=bA (a:=b) (i:=fQ - 1) (by omega)
   obtain⟨v,ev,uC⟩:=bA (a:=a) (i:=fP - 1) (by omega)
   refine wpS_bind (bh uD (wpS_bind (bh uC (wpS_bind (mK (sg.1.trans hk) (mB eu) (mA ev) ?_)))))
   by_cases c:kn u<kn v
   ·simp only[c,decide_true,if_true]
    rw[show fP=fP - 1+1 by omega] at m'
    have m2:=m'.j6 sA ev λz hz=>by have:=eM sB eu z (by rw[show fQ - 1+1=fQ by omega];exact hz);omega
    rw[<-i5] at m2
    refine wpS_bind (bh uC ?_)
    by_cases d:fP - 1=0
    ·rw[if_pos (by simpa using d)]
     exact wpS_pure ⟨sg,.inl ⟨_,_,rfl,C.rA m2 d⟩⟩
    ·rw[if_neg (by simpa using d)]
     split
     ·exact wpS_pure ⟨sg,.inr ⟨_,_,_,_,_,rfl,m2,by omega,by omega,k3,k4,by omega⟩⟩
     ·exact wpS_pure ⟨sg,_,_,_,_,_,rfl,m2,by omega,by omega,k3,k4,by omega⟩
   ·simp only[c,decide_false,Zs,if_false]
    rw[show fQ=fQ - 1+1 by omega] at m'
    have m2:=m'.j5 sB eu λz hz=>by have:=eM sA ev z (by rw[show fP - 1+1=fP by omega];exact hz);omega
    rw[<-i5] at m2
    refine wpS_bind (bh uD ?_)
    by_cases d:fQ - 1=1
    ·rw[if_pos (by simpa using d)]
     exact wpS_pure ⟨sg,.inl ⟨_,_,rfl,C.rF m2 d⟩⟩
    ·rw[if_neg (by simpa using d)]
     split
     ·exact wpS_pure ⟨sg,.inr ⟨_,_,_,_,_,rfl,m2,k1,k2,by omega,by omega,by omega⟩⟩
     ·exact wpS_pure ⟨sg,_,_,_,_,_,rfl,m2,k1,k2,by omega,by omega,by omega⟩
  case post1=>
   rintro c bI ⟨GI,hc⟩
   rcases hc with ⟨r,z,rfl,rs⟩ | ⟨fP,fQ,cn,ac,bc,rfl,m',k1,k2,k3,k4,k5⟩
   ·exact wpS_pure ⟨GI,_,_,rfl,rs⟩
   dsimp only
   refine wpS_bind (wpS_lift (wpAny_rule ⟨rfl,?_⟩))
   refine wpS_bind (wpS_mono (wpS_forRange
    (I:=λy c aM=>SG st aM/\∃fE fF cB mg ac bc,c=(none,fE,fF,cB,mg,ac,bc)/\HI a.toList b.toList cB.toList.reverse fE fF/\1<=fE/\fE<=fP/\2<=fF/\fF<=fQ)
    (Q:=λc aM=>SG st aM/\((∃r z,c=(some r,z)/\Res a.toList b.toList r.toList)\/∃fE fF cB mg ac bc,c=(none,fE,fF,cB,mg,ac,bc)/\HI a.toList b.toList cB.toList.reverse fE fF/\1<=fE/\fE<=fP/\2<=fF/\fF<=fQ)) ?step2 ?fin2 ⟨GI,fP,fQ,cn,_,ac,bc,rfl,m',k1,YO _,k3,YO _⟩) ?post2)
   case fin2=>
    rintro c aM ⟨sg,hc⟩
    exact⟨sg,.inr hc⟩
   case post2=>
    rintro c nS ⟨Bw,hc⟩
    rcases hc with ⟨r,z,rfl,rs⟩ | ⟨pf,xi,o3,GJ,GK,xF,rfl,m3,q1,q2,q3,q4⟩
    ·exact wpS_pure ⟨Bw,_,_,rfl,rs⟩
    dsimp only
    refine wpS_bind (i4 Bw λfM fO=>wpS_pure ⟨fO,pf,xi,o3,_,rfl,m3,q1,by omega,q3,by omega,by omega⟩)
   case step2=>
    rintro y c nS _ hy ⟨Bw,pf,xi,o3,GJ,GK,xF,rfl,m3,q1,q2,q3,q4⟩
    dsimp only
    obtain⟨u,eu,uD⟩:=bA (a:=b) (i:=xi - 1) (by omega)
    have body:∀g:Nat,wpS (model prog w) A E s (do
      j4 g
      let u <-elem' b (xi - 1)
      let x <-cM false u a 0 pf (pf - 1)
      match x with
      | some at_=>
       if pf - at_ >0 then
        if at_==0 then pure (ForInStep.done (some (dh a b (o3++ (a.extract at_ pf).reverse) at_ xi),at_,xi,o3++ (a.extract at_ pf).reverse,g,pf - at_,xF))
        else Jd a b at_ xi (o3++ (a.extract at_ pf).reverse) g (pf - at_) xF
       else Jd a b pf xi o3 g (pf - at_) xF
      | _=>pure (ForInStep.done (some (dh a b o3 pf xi),pf,xi,o3,g,GK,xF)))
     (λr aM=>match r with
      | .done c'=>SG st aM/\((∃r z,c'=(some r,z)/\Res a.toList b.toList r.toList)\/∃fE fF cB mg ac bc,c'=(none,fE,fF,cB,mg,ac,bc)/\HI a.toList b.toList cB.toList.reverse fE fF/\1<=fE/\fE<=fP/\2<=fF/\fF<=fQ)
      | .yield c'=>SG st aM/\∃fE fF cB mg ac bc,c'=(none,fE,fF,cB,mg,ac,bc)/\HI a.toList b.toList cB.toList.reverse fE fF/\1<=fE/\fE<=fP/\2<=fF/\fF<=fQ) nS:=by
     intro g
     refine wpS_bind (i4 Bw λfM fO=>?_)
     refine wpS_bind (bh uD (wpS_bind (c4 (fO.1.trans hk) (mB eu) (λi hi=>?_) (by omega) (λi j pN hj=>mM sA (by omega) (by omega)) λk hk b1 b2=>?_)))
     ·obtain⟨x,ex,pK⟩:=bA (a:=a) (i:=0+i) (by omega)
      exact⟨x,pK,mA ex⟩
     ·dsimp only
      have up:∀i x,k<=i->i<pf->a.toList[i]?=some x->∀y∈b.toList.take xi,kn y<=kn x:=λi x h1 h2 ex y hy=>by
       have q:=b2 i h1 h2
       unfold B at q
       rw[Zo,cb ex] at q
       have q2:=eM sB eu y (by rw[show xi - 1+1=xi by omega];exact hy)
       simp at q
       omega
      have xh:∀y∈a.toList.take k,kn y<=kn u:=λy hy=>by
       obtain⟨i,ei⟩:=Y4 hy
       have GN:i<k:=by have:=(List.getElem?_eq_some_iff.mp ei).1;rw[Zy] at this;omega
       rw[List.getElem?_take,if_pos GN] at ei
       have q:=b1 i GN
       unfold B at q
       rw[Zo,cb ei] at q
       simp at q
       omega
      by_cases k0:pf - k >0
      ·rw[if_pos k0]
       have m4:=m3.yR sA (by omega) (pf - k) (by omega) λi x h1 h2=>up i x (by omega) h2
       rw[show pf - (pf - k)=k by omega,<-rO] at m4
       by_cases d1:k=0
       ·rw[if_pos (by simpa using d1)]
        exact wpS_pure ⟨fO,.inl ⟨_,_,rfl,C.rA m4 d1⟩⟩
       rw[if_neg (by simpa using d1)]
       exact vC C fO m4 (by omega) (by omega) q3 (by omega) eu xh (λr z rs=>⟨fO,.inl ⟨_,_,rfl,rs⟩⟩) λi j o x y mm p1 p2 p3 p4=>⟨⟨fO,.inr ⟨i,j,o,_,x,y,rfl,mm,p1,by omega,p2,by omega⟩⟩,⟨fO,i,j,o,_,x,y,rfl,mm,p1,by omega,p2,by omega⟩⟩
      ·rw[if_neg k0]
       have kk:k=pf:=by omega
       rw[kk] at xh
       exact vC C fO m3 q1 (by omega) q3 (by omega) eu xh (λr z rs=>⟨fO,.inl ⟨_,_,rfl,rs⟩⟩) λi j o x y mm p1 p2 p3 p4=>⟨⟨fO,.inr ⟨i,j,o,_,x,y,rfl,mm,p1,by omega,p2,by omega⟩⟩,⟨fO,i,j,o,_,x,y,rfl,mm,p1,by omega,p2,by omega⟩⟩
    by_cases c:GJ >1
    ·rw[if_pos c]
     exact wpS_mono (body _) λr aM hh=>by cases r <;>exact hh
    ·rw[if_neg c]
     exact wpS_mono (body _) λr aM hh=>by cases r <;>exact hh
noncomputable def wr (sa:Nat) (arr:Array Keyed) (l:List (Keyed×Nat)):Array Keyed:=l.foldl (λa p=>a.setIfInBounds (sa+p.2) p.1) arr
theorem yW (sa:Nat):∀(l:List Keyed) (s:Nat) (arr:Array Keyed) (t:Nat),sa+s+l.length<=arr.size->(wr sa arr (l.zipIdx s))[t]?=if sa+s<=t/\t<sa+s+l.length then l[t - (sa+s)]? else arr[t]?
 | [],s,arr,t,_=>by
  rw[if_neg (by simp)]
  rfl
 | x::l,s,arr,t,h=>by
  rw[Y8] at h
  rw[List.zipIdx_cons]
  show(wr sa (arr.setIfInBounds (sa+s) x) (l.zipIdx (s+1)))[t]?=_
  rw[yW sa l (s+1) _ t (by rw[Array.size_setIfInBounds];omega),Y8]
  by_cases c:sa+ (s+1)<=t/\t<sa+ (s+1)+l.length
  ·rw[if_pos c,if_pos (by omega),show t - (sa+s)=t - (sa+ (s+1))+1 by omega,Z2]
  ·rw[if_neg c]
   by_cases d:t=sa+s
   ·rw[if_pos (by omega),d,Nat.sub_self,ZV,Array.getElem?_setIfInBounds_self_of_lt (by omega)]
   ·rw[if_neg (by omega),Array.getElem?_setIfInBounds_ne (by omega)]
theorem By {st tN:SortSt} {Q:PUnit->SortSt->Prop} (h:Q ⟨⟩ tN):wpS (model prog w) A E s (set tN:StateT SortSt Sem PUnit) Q st:=by
 unfold wpS;rw[StateT.run_set];exact wpAny_pure ⟨rfl,h⟩
noncomputable def c8 (arr:Array Keyed) (lo n:Nat):Prop:=∀i j,lo<=i->i<=j->j<lo+n->K arr i<=K arr j
theorem rR {arr:Array Keyed} {lo n:Nat} (h:c8 arr lo n) (hn:lo+n<=arr.size):(arr.extract lo (lo+n)).toList.Pairwise Le:=by
 rw[fz,List.pairwise_iff_getElem]
 intro i j hi hj pN
 have l:((arr.toList.drop lo).take n).length<=n:=by rw[Zy];omega
 have e:∀(k:Nat) (hk:k< ((arr.toList.drop lo).take n).length),K arr (lo+k)=kn (((arr.toList.drop lo).take n)[k]):=λk hk=>by
  refine cb ?_
  have:((arr.toList.drop lo).take n)[k]?=some (((arr.toList.drop lo).take n)[k]):=YM hk
  rw[List.getElem?_take,if_pos (by omega),ZF] at this
  exact this
 have:=h (lo+i) (lo+j) (by omega) (by omega) (by omega)
 rw[e i hi,e j hj] at this
 exact this
theorem yX {arr:Array Keyed} {lo n:Nat} {x:Keyed} (h:x∈(arr.extract lo (lo+n)).toList):∃t,lo<=t/\t<lo+n/\arr.toList[t]?=some x:=by
 rw[fz] at h
 obtain⟨i,ei⟩:=Y4 h
 have hi:i<n:=by have:=(List.getElem?_eq_some_iff.mp ei).1;rw[Zy] at this;omega
 rw[List.getElem?_take,if_pos hi,ZF] at ei
 exact⟨lo+i,by omega,by omega,ei⟩
theorem yY {arr:Array Keyed} {lo n i:Nat} (hi:i<n):(arr.extract lo (lo+n)).toList[i]?=arr.toList[lo+i]?:=by
 rw[fz,List.getElem?_take,if_pos hi,ZF]
noncomputable def rS (arr:Array Keyed):Prop:=∀x∈arr.toList,nV x
theorem rT (i:Nat):mergeAt' i=(do
 let s <-get
 let (some (sa,na,power),some (sb,nb,_)):=((pendingOf s)[i]?,(pendingOf s)[i+1]?) | unsupported "internal:list.sort.pending"
 set (setPending s (((pendingOf s).setIfInBounds i (sa,na+nb,power)).eraseIdxIfInBounds (i+1)))
 let some k <-cM false (<-elem' (arrOf s) sb) (arrOf s) sa na 0 | return false
 let (sa,na):=(sa+k,na - k)
 if na==0 then return true
 let some nb <-cM true (<-elem' (arrOf s) (sa+na - 1)) (arrOf s) sb nb (nb - 1) | return false
 if nb==0 then return true
 let x:=(arrOf s).extract sa sb
 let y:=(arrOf s).extract sb (sb+nb)
 let merged <-if na<=nb then mL x y else mN x y
 modify λs=>setArr s (merged.toList.zipIdx.foldl (λa (p,j)=>a.setIfInBounds (sa+j) p) (arrOf s))
 return (failedOf (<-get)).isNone):=rfl
theorem rV {st:SortSt} {i sa na pw nb Ei:Nat} {Q:Bool->SortSt->Prop} (hk:kindOf st=oneType') (TY:failedOf st=none) (ai:rS (arrOf st)) (p1:(pendingOf st)[i]?=some (sa,na,pw)) (p2:(pendingOf st)[i+1]?=some (sa+na,nb,Ei))
  (a1:1<=na) (b1:1<=nb) (hz:sa+na+nb<=(arrOf st).size) (s1:c8 (arrOf st) sa na) (s2:c8 (arrOf st) (sa+na) nb)
  (h:∀aM,kindOf aM=oneType'->failedOf aM=none->pendingOf aM=((pendingOf st).setIfInBounds i (sa,na+nb,pw)).eraseIdxIfInBounds (i+1)->(arrOf aM).Perm (arrOf st)->c8 (arrOf aM) sa (na+nb)->
   (∀t,t<sa\/sa+na+nb<=t->(arrOf aM)[t]?=(arrOf st)[t]?)->Q true aM):wpS (model prog w) A E s (mergeAt' i) Q st:=by
 rw[rT]
 refine wpS_bind (wpS_get ?_)
 rw[p1,p2]
 dsimp only
 refine wpS_bind (By ?_)
 generalize hst:setPending st (((pendingOf st).setIfInBounds i (sa,na+nb,pw)).eraseIdxIfInBounds (i+1))=tN
 have k1:kindOf tN=oneType':=by rw[<-hst];exact hk
 have f1:failedOf tN=none:=by rw[<-hst];exact TY
 have Ej:arrOf tN=arrOf st:=by rw[<-hst]
 have Kh:pendingOf tN=((pendingOf st).setIfInBounds i (sa,na+nb,pw)).eraseIdxIfInBounds (i+1):=by rw[<-hst]
 generalize arrOf st=arr at *
 have gt:∀{t},t<arr.size->∃p,arr.toList[t]?=some p/\arr[t]?=some p/\nV p:=λht=>by
  obtain⟨p,e1,e2⟩:=bA ht
  exact⟨p,e1,e2,ai _ (YN e1)⟩
 obtain⟨u,eu,uD,iu⟩:=gt (t:=sa+na) (by omega)
 refine wpS_bind (bh uD (wpS_bind (c4 k1 iu (λj hj=>?_) (by omega) (λx y TZ hy=>s1 _ _ (by omega) (by omega) (by omega)) λk T1 T2 T3=>?_)))
 ·obtain⟨p,e1,e2,e3⟩:=gt (t:=sa+j) (by omega)
  exact⟨p,e2,e3⟩
 dsimp only
 have F1:∀t,sa<=t->t<sa+k->K arr t<=K arr (sa+na):=λt h1 h2=>by
  have q:=T2 (t - sa) (by omega)
  unfold B at q
  rw[show sa+ (t - sa)=t by omega] at q
  rw[cb eu]
  simpa using q
 have F2:∀t,sa+k<=t->t<sa+na->K arr (sa+na)<K arr t:=λt h1 h2=>by
  have q:=T3 (t - sa) (by omega) (by omega)
  unfold B at q
  rw[show sa+ (t - sa)=t by omega] at q
  rw[cb eu]
  simp at q
  omega
 by_cases c1:na - k=0
 ·rw[if_pos (by simpa using c1)]
  refine wpS_pure (h tN k1 f1 Kh (by rw[Ej]) ?_ λt _=>by rw[Ej])
  rw[Ej]
  intro x y h1 h2 h3
  by_cases cy:y<sa+na
  ·exact s1 _ _ h1 h2 cy
  ·by_cases cx:x<sa+na
   ·have q1:=F1 x h1 (by omega)
    have q2:=s2 (sa+na) y (YO _) (by omega) (by omega)
    omega
   ·exact s2 _ _ (by omega) h2 (by omega)
 rw[if_neg (by simpa using c1)]
 obtain⟨v,ev,uC,iv⟩:=gt (t:=sa+k+ (na - k) - 1) (by omega)
 refine wpS_bind (bh uC (wpS_bind (c4 k1 iv (λj hj=>?_) (by omega) (λx y TZ hy=>s2 _ _ (by omega) (by omega) (by omega)) λm X3 d1 d2=>?_)))
 ·obtain⟨p,e1,e2,e3⟩:=gt (t:=sa+na+j) (by omega)
  exact⟨p,e2,e3⟩
 dsimp only
 rw[show sa+k+ (na - k) - 1=sa+na - 1 by omega] at ev
 have F3:∀t,sa+na<=t->t<sa+na+m->K arr t<K arr (sa+na - 1):=λt h1 h2=>by
  have q:=d1 (t - (sa+na)) (by omega)
  unfold B at q
  rw[show sa+na+ (t - (sa+na))=t by omega] at q
  rw[cb ev]
  simpa using q
 have F4:∀t,sa+na+m<=t->t<sa+na+nb->K arr (sa+na - 1)<=K arr t:=λt h1 h2=>by
  have q:=d2 (t - (sa+na)) (by omega) (by omega)
  unfold B at q
  rw[show sa+na+ (t - (sa+na))=t by omega] at q
  rw[cb ev]
  simp at q
  omega
 by_cases c2:m=0
 ·rw[if_pos (by simpa using c2)]
  refine wpS_pure (h tN k1 f1 Kh (by rw[Ej]) ?_ λt _=>by rw[Ej])
  rw[Ej]
  intro x y h1 h2 h3
  by_cases cy:y<sa+na
  ·exact s1 _ _ h1 h2 cy
  ·by_cases cx:x<sa+na
   ·have q1:=s1 x (sa+na - 1) h1 (by omega) (by omega)
    have q2:=F4 y (by omega) (by omega)
    omega
   ·exact s2 _ _ (by omega) h2 (by omega)
 rw[if_neg (by simpa using c2)]
 have T4:arr.extract (sa+k) (sa+na)=arr.extract (sa+k) (sa+k+ (na - k)):=by congr 1;omega
 rw[T4]
 generalize hx:arr.extract (sa+k) (sa+k+ (na - k))=X
 generalize hy:arr.extract (sa+na) (sa+na+m)=Y
 have lX:X.size=na - k:=by rw[<-hx,Array.size_extract];omega
 have lY:Y.size=m:=by rw[<-hy,Array.size_extract];omega
 have mX:∀e∈X.toList,∃t,sa+k<=t/\t<sa+na/\arr.toList[t]?=some e:=λe he=>by
  rw[<-hx] at he
  obtain⟨t,h1,h2,h3⟩:=yX he
  exact⟨t,h1,by omega,h3⟩
 have mY:∀e∈Y.toList,∃t,sa+na<=t/\t<sa+na+m/\arr.toList[t]?=some e:=λe he=>by
  rw[<-hy] at he
  exact yX he
 have iX:∀e∈X.toList,nV e:=λe he=>by obtain⟨t,_,_,h3⟩:=mX e he;exact ai _ (YN h3)
 have iY:∀e∈Y.toList,nV e:=λe he=>by obtain⟨t,_,_,h3⟩:=mY e he;exact ai _ (YN h3)
 have sX:X.toList.Pairwise Le:=by rw[<-hx];exact rR (λi j h1 h2 h3=>s1 i j (by omega) h2 (by omega)) (by omega)
 have sY:Y.toList.Pairwise Le:=by rw[<-hy];exact rR (λi j h1 h2 h3=>s2 i j h1 h2 (by omega)) (by omega)
 have hf:∀x,Y.toList[0]?=some x->∀y∈X.toList,kn x<=kn y:=λx ex y Ek=>by
  rw[<-hy,yY (by omega),Nat.add_zero] at ex
  obtain⟨t,h1,h2,h3⟩:=mX y Ek
  have q:=F2 t h1 h2
  rw[cb ex,cb h3] at q
  omega
 have hl:∀x,X.toList[X.size - 1]?=some x->∀y∈Y.toList,kn y<=kn x:=λx ex y Ek=>by
  rw[lX,<-hx,yY (by omega),show sa+k+ (na - k - 1)=sa+na - 1 by omega] at ex
  obtain⟨t,h1,h2,h3⟩:=mY y Ek
  have q:=F3 t h1 h2
  rw[cb ex,cb h3] at q
  omega
 have fin:∀(r:Array Keyed) (bI:SortSt),SG tN bI->Res X.toList Y.toList r.toList->wpS (model prog w) A E s (do
   modify λs=>setArr s (List.foldl (λa (x:Keyed×Nat)=>a.setIfInBounds (sa+k+x.snd) x.fst) (arrOf s) r.toList.zipIdx)
   let z <-get
   pure (failedOf z).isNone) Q bI:=by
  intro r bI sg rs
  refine wpS_bind (wpS_modify (wpS_bind (wpS_get ?_)))
  have X4:r.toList.length=r.size:=by simp
  have lr:r.toList.length=na - k+m:=by rw[rs.1.length_eq,Zn];simp [lX,lY]
  have er:(failedOf (setArr bI (List.foldl (λa x=>a.setIfInBounds (sa+k+x.snd) x.fst) (arrOf bI) r.toList.zipIdx))).isNone=true:=by
   show(failedOf bI).isNone=true
   rw[sg.2.2.2,f1]
   rfl
  rw[er]
  have g:∀t,(wr (sa+k) arr (r.toList.zipIdx 0))[t]?=if sa+k<=t/\t<sa+na+m then r.toList[t - (sa+k)]? else arr[t]?:=λt=>by
   rw[yW (sa+k) r.toList 0 arr t (by omega)]
   by_cases c:sa+k<=t/\t<sa+na+m
   ·rw[if_pos c,if_pos (by omega),Nat.add_zero]
   ·rw[if_neg c,if_neg (by omega)]
  have ea:arrOf (setArr bI (List.foldl (λa x=>a.setIfInBounds (sa+k+x.snd) x.fst) (arrOf bI) r.toList.zipIdx))=wr (sa+k) arr (r.toList.zipIdx 0):=by
   show List.foldl (λa x=>a.setIfInBounds (sa+k+x.snd) x.fst) (arrOf bI) r.toList.zipIdx=_
   rw[sg.2.1,Ej]
   rfl
  refine wpS_pure (h _ (sg.1.trans k1) (sg.2.2.2.trans f1) (sg.2.2.1.trans Kh) ?_ ?_ ?_)
  ·rw[ea,Array.perm_iff_toList_perm]
   have e1:(wr (sa+k) arr (r.toList.zipIdx 0)).toList=arr.toList.take (sa+k)++ (r.toList++arr.toList.drop (sa+na+m)):=by
    apply ZO
    intro t
    rw[Zt,g]
    have lt:(arr.toList.take (sa+k)).length=sa+k:=by rw[Zy];simp;omega
    by_cases c:t<sa+k
    ·rw[if_neg (by omega),ZM (by omega),List.getElem?_take,if_pos c,Zt]
    ·rw[ZH (by omega),lt]
     by_cases c':t<sa+na+m
     ·rw[if_pos (by omega),ZM (by omega)]
     ·rw[if_neg (by omega),ZH (by omega),ZF,lr,show sa+na+m+ (t - (sa+k) - (na - k+m))=t by omega,Zt]
   have e2:arr.toList=arr.toList.take (sa+k)++ ((X.toList++Y.toList)++arr.toList.drop (sa+na+m)):=by
    rw[<-hx,<-hy,fz,fz,Zb]
    have a1:List.take m (List.drop (sa+na) arr.toList)++List.drop (sa+na+m) arr.toList=List.drop (sa+na) arr.toList:=by
     have q:=ZC m (List.drop (sa+na) arr.toList)
     rw[List.drop_drop] at q
     exact q
    have a2:List.take (na - k) (List.drop (sa+k) arr.toList)++List.drop (sa+na) arr.toList=List.drop (sa+k) arr.toList:=by
     have q:=ZC (na - k) (List.drop (sa+k) arr.toList)
     rw[List.drop_drop,show sa+k+ (na - k)=sa+na by omega] at q
     exact q
    rw[a1,a2,ZC]
   rw[e1]
   conv=>rhs;rw[e2]
   exact(rs.1.append_right _).append_left _
  ·rw[ea]
   have Ko:∀t,¬(sa+k<=t/\t<sa+na+m)->K (wr (sa+k) arr (r.toList.zipIdx 0)) t=K arr t:=λt ht=>K_congr (by rw[g,if_neg ht])
   have Ki:∀t,sa+k<=t->t<sa+na+m->K (wr (sa+k) arr (r.toList.zipIdx 0)) t=K r (t - (sa+k)):=λt h1 h2=>K_congr (by rw[g,if_pos ⟨h1,h2⟩,Zt])
   have Kb:∀t,sa+k<=t->t<sa+na+m->K arr (sa+na)<=K r (t - (sa+k))/\K r (t - (sa+k))<=K arr (sa+na - 1):=λt h1 h2=>by
    obtain⟨e,ee,_⟩:=bA (a:=r) (i:=t - (sa+k)) (by omega)
    rw[cb ee]
    have hm:=rs.1.mem_iff.mp (YN ee)
    rcases List.mem_append.mp hm with hm | hm
    ·obtain⟨t',q1,q2,q3⟩:=mX e hm
     have w1:=F2 t' q1 q2
     have w2:=s1 t' (sa+na - 1) (by omega) (by omega) (by omega)
     rw[cb q3] at w1 w2
     omega
    ·obtain⟨t',q1,q2,q3⟩:=mY e hm
     have w1:=F3 t' q1 q2
     have w2:=s2 (sa+na) t' (YO _) q1 (by omega)
     rw[cb q3] at w1 w2
     omega
   intro x y h1 h2 h3
   by_cases cx:x<sa+k
   ·rw[Ko x (by omega)]
    by_cases cy:y<sa+k
    ·rw[Ko y (by omega)]
     exact s1 _ _ h1 h2 (by omega)
    ·have w1:=F1 x h1 cx
     by_cases Je:y<sa+na+m
     ·rw[Ki y (by omega) Je]
      have:=(Kb y (by omega) Je).1
      omega
     ·rw[Ko y (by omega)]
      have:=s2 (sa+na) y (YO _) (by omega) (by omega)
      omega
   ·by_cases RG:x<sa+na+m
    ·rw[Ki x (by omega) RG]
     by_cases Je:y<sa+na+m
     ·rw[Ki y (by omega) Je]
      exact mM rs.2 (by omega) (by omega)
     ·rw[Ko y (by omega)]
      have w1:=(Kb x (by omega) RG).2
      have w2:=F4 y (by omega) (by omega)
      omega
    ·rw[Ko x (by omega),Ko y (by omega)]
     exact s2 _ _ (by omega) h2 (by omega)
  ·intro t ht
   rw[ea,g,if_neg (by omega)]
 by_cases c3:na - k<=m
 ·rw[if_pos c3]
  exact wpS_bind (rN k1 iX iY sX sY (by omega) (by omega) (λx y ex ey=>hf x ex y (YN ey)) hl fin)
 ·rw[if_neg c3]
  exact wpS_bind (rQ k1 iX iY sX sY (by omega) (by omega) hf hl fin)
end
end PySem.Tim
namespace PySem.Tim
open PySem PyProof.Rows
section
variable {prog : Program} {w : World} {A : Around} {E : Value -> Shared -> Prop} {s : Shared}
structure TB (a₀:Array Keyed) (st:SortSt):Prop where
 perm:(arrOf st).Perm a₀
 kind:kindOf st=oneType'
 failed:failedOf st=none
theorem TB.size {a₀:Array Keyed} {st:SortSt} (h:TB a₀ st):(arrOf st).size=a₀.size:=h.perm.size_eq
theorem TB.all {a₀:Array Keyed} {st:SortSt} (h:TB a₀ st) (h0:rS a₀):rS (arrOf st):=λx hx=>h0 x ((Array.perm_iff_toList_perm.mp h.perm).mem_iff.mp hx)
noncomputable def GO (a₀:Array Keyed):Prop:=(a₀.toList.map kn).Nodup
theorem TB.ne {a₀:Array Keyed} {st:SortSt} (h:TB a₀ st) (hd:GO a₀) {i j:Nat} (pN:i<j) (hj:j<a₀.size):K (arrOf st) i≠K (arrOf st) j:=by
 have hz:=h.size
 obtain⟨x,ex,_⟩:=bA (a:=arrOf st) (i:=i) (by omega)
 obtain⟨y,ey,_⟩:=bA (a:=arrOf st) (i:=j) (by omega)
 have nd:((arrOf st).toList.map kn).Nodup:=(((Array.perm_iff_toList_perm.mp h.perm).map kn).nodup_iff).mpr hd
 rw[cb ex,cb ey]
 intro e
 rw[List.nodup_iff_pairwise_ne,List.pairwise_map] at nd
 obtain⟨hx,rfl⟩:=List.getElem?_eq_some_iff.mp ex
 obtain⟨hy,rfl⟩:=List.getElem?_eq_some_iff.mp ey
 exact List.pairwise_iff_getElem.mp nd i j hx hy pN e
theorem gS {a₀:Array Keyed} {st:SortSt} {i j:Nat} {Q:Option Bool->SortSt->Prop} (hB:TB a₀ st) (h0:rS a₀) (hi:i<a₀.size) (hj:j<a₀.size) (h:Q (some (decide (K (arrOf st) i<K (arrOf st) j))) st):wpS (model prog w) A E s (ltAt' i j) Q st:=by
 have hz:=hB.size
 obtain⟨x,ex,pK⟩:=bA (a:=arrOf st) (i:=i) (by omega)
 obtain⟨y,ey,IW⟩:=bA (a:=arrOf st) (i:=j) (by omega)
 rw[cb ex,cb ey] at h
 rw[ltAt'_eq]
 refine wpS_bind (wpS_get ?_)
 exact wpS_bind (bh pK (wpS_bind (bh IW (mK hB.kind (hB.all h0 _ (YN ex)) (hB.all h0 _ (YN ey)) h))))
theorem Bz (arr:Array Keyed) (lo:Nat):c8 arr lo 1:=λi j h1 h2 h3=>by
 have:i=j:=by omega
 subst this
 exact Zk _
noncomputable def i6 (lo:Nat) (st aM:SortSt):Prop:=pendingOf aM=pendingOf st/\∀t,t<lo->(arrOf aM)[t]?=(arrOf st)[t]?
theorem i6.refl (lo:Nat) (st:SortSt):i6 lo st st:=⟨rfl,λ_ _=>rfl⟩
theorem i6.trans {lo:Nat} {a b c:SortSt} (h:i6 lo a b) (k:i6 lo b c):i6 lo a c:=⟨k.1.trans h.1,λt ht=>(k.2 t ht).trans (h.2 t ht)⟩
theorem TB.setArr {a₀:Array Keyed} {st:SortSt} (h:TB a₀ st) {xs:Array Keyed} (hp:xs.Perm (arrOf st)):TB a₀ (setArr st xs):=⟨hp.trans h.perm,h.kind,h.failed⟩
theorem yZ {a₀:Array Keyed} {st:SortSt} {lo n ok:Nat} {Q:Bool->SortSt->Prop} (h0:rS a₀) (hn:lo+n<=a₀.size) (bE:ok<=n) (hB:TB a₀ st) (hs:c8 (arrOf st) lo ok)
  (h:∀aM,TB a₀ aM->i6 lo st aM->c8 (arrOf aM) lo n->Q true aM):wpS (model prog w) A E s (binarySort' lo n ok) Q st:=by
 rw[binarySort'_eq]
 refine wpS_bind (wpS_mono (wpS_forRange (I:=λk c aM=>c=(none,())/\TB a₀ aM/\i6 lo st aM/\c8 (arrOf aM) lo (min k n))
  (Q:=λc aM=>c=(none,())/\TB a₀ aM/\i6 lo st aM/\c8 (arrOf aM) lo n) ?step ?fin ?init) ?post)
 case post=>
  rintro c aM ⟨rfl,El,fr,jw⟩
  exact wpS_pure (h aM El fr jw)
 case init=>
  refine⟨rfl,hB,i6.refl _ _,λi j h1 pN hj=>?_⟩
  by_cases h1:ok=0
  ·have:i=j:=by omega
   subst this;exact Zk _
  ·exact hs i j (by omega) pN (by omega)
 case fin=>
  rintro c aM ⟨hc,El,fr,jw⟩
  refine⟨hc,El,fr,?_⟩
  rwa [show min (max (max ok 1) n) n=n by omega] at jw
 case step=>
  rintro k c aM X5 T1 ⟨rfl,El,fr,jw⟩
  rw[show min k n=k by omega] at jw
  have hk:lo+k<a₀.size:=by omega
  refine wpS_bind (wpS_mono (wpS_forRange (I:=λx c ir=>ir=aM/\∃l r,c=(none,l,r)/\l<=r/\r<=k/\r - l<=k - x/\
    (∀i,lo<=i->i<lo+l->K (arrOf aM) i<=K (arrOf aM) (lo+k))/\(∀i,lo+r<=i->i<lo+k->K (arrOf aM) (lo+k)<K (arrOf aM) i))
   (Q:=λc ir=>ir=aM/\∃l r,c=(none,l,r)/\l<=k/\
    (∀i,lo<=i->i<lo+l->K (arrOf aM) i<=K (arrOf aM) (lo+k))/\(∀i,lo+l<=i->i<lo+k->K (arrOf aM) (lo+k)<K (arrOf aM) i)) ?istep ?ifin ?iinit) ?ipost)
  case iinit=>exact⟨rfl,0,k,rfl,by omega,by omega,by omega,λi hi h2=>by omega,λi h1 h2=>by omega⟩
  case ifin=>
   rintro c ir ⟨rfl,l,r,rfl,T5,GP,hm,DE,Fp⟩
   have:l=r:=by omega
   subst this
   exact⟨rfl,l,l,rfl,GP,DE,Fp⟩
  case istep=>
   rintro x c ir _ X6 ⟨rfl,l,r,rfl,T5,GP,hm,DE,Fp⟩
   dsimp only
   by_cases vh:l≥r
   ·rw[if_pos vh]
    have:l=r:=by omega
    subst this
    exact wpS_pure ⟨rfl,l,l,rfl,GP,DE,Fp⟩
   ·rw[if_neg vh]
    refine wpS_bind (gS El h0 hk (by omega) ?_)
    by_cases dt:K (arrOf ir) (lo+k)<K (arrOf ir) (lo+ (l+r) / 2)
    ·simp only[dt,decide_true,if_true]
     refine wpS_pure ⟨rfl,l,(l+r) / 2,rfl,by omega,by omega,by omega,DE,λi h1 h2=>?_⟩
     exact Int.lt_of_lt_of_le dt (jw _ _ (by omega) h1 h2)
    ·simp only[dt,decide_false,Zs,if_false]
     refine wpS_pure ⟨rfl,(l+r) / 2+1,r,rfl,by omega,by omega,by omega,λi T6 h1=>?_,Fp⟩
     exact Int.le_trans (jw i (lo+ (l+r) / 2) T6 (by omega) (by omega)) (Int.not_lt.mp dt)
  case ipost=>
   rintro c ir ⟨rfl,l,r,rfl,X7,DE,Fp⟩
   show wpS _ _ _ _ (do moveDown' (lo+k) (lo+l);pure (ForInStep.yield (none,()))) _ _
   rw[moveDown'_eq]
   have GQ:lo+k< (arrOf ir).size:=by rw[El.size];exact hk
   refine wpS_bind (wpS_modify (wpS_pure ⟨rfl,El.setArr (bubble_perm _ _ _),fr.trans ⟨rfl,λt ht=>?_⟩,?_⟩))
   ·show(bubble (arrOf ir) (lo+k) (lo+k - (lo+l)))[t]?=_
    rw[getElem?_bubble GQ _ (by omega),if_neg (by omega),if_neg (by omega)]
   rw[show min (k+1) n=k+1 by omega]
   intro i j h1 pN hj
   show K (bubble (arrOf ir) (lo+k) (lo+k - (lo+l))) i<=K (bubble (arrOf ir) (lo+k) (lo+k - (lo+l))) j
   rw[K_bubble GQ (by omega),K_bubble GQ (by omega),show lo+k - (lo+k - (lo+l))=lo+l by omega]
   repeat' split
   all_goals first
    | (exfalso;omega)
    | exact Zk _
    | exact DE _ (by omega) (by omega)
    | exact Int.le_of_lt (Fp _ (by omega) (by omega))
    | exact jw _ _ (by omega) (by omega) (by omega)
theorem y2 {a₀:Array Keyed} {st:SortSt} {lo gc:Nat} {Q:Option Nat->SortSt->Prop} (h0:rS a₀) (hd:GO a₀) (hn:lo+gc<=a₀.size) (h1:1<=gc) (hB:TB a₀ st)
  (h:∀m aM,TB a₀ aM->i6 lo st aM->1<=m->m<=gc->c8 (arrOf aM) lo m->Q (some m) aM):wpS (model prog w) A E s (countRun' lo gc) Q st:=by
 rw[countRun'_eq]
 refine wpS_bind (wpS_mono (wpS_forRange (I:=λx c aM=>aM=st/\c=(none,x)/\c8 (arrOf st) lo x)
  (Q:=λc aM=>aM=st/\∃n,c=(none,n)/\1<=n/\n<=gc/\c8 (arrOf st) lo n/\(n=gc\/K (arrOf st) (lo+n)<K (arrOf st) (lo+n - 1))) ?step ?fin ⟨rfl,rfl,Bz _ _⟩) ?post)
 case fin=>
  rintro c aM ⟨rfl,rfl,jw⟩
  rw[show max 1 gc=gc by omega] at jw ⊢
  exact⟨rfl,gc,rfl,h1,YO _,jw,.inl rfl⟩
 case step=>
  rintro x c aM Kj RH ⟨rfl,rfl,jw⟩
  dsimp only
  refine wpS_bind (gS hB h0 (by omega) (by omega) ?_)
  by_cases dt:K (arrOf aM) (lo+x)<K (arrOf aM) (lo+x - 1)
  ·simp only[dt,decide_true,if_true]
   exact wpS_pure ⟨rfl,x,rfl,Kj,by omega,jw,.inr dt⟩
  ·simp only[dt,decide_false,Zs,if_false]
   refine wpS_pure ⟨rfl,rfl,λi j q1 pN hj=>?_⟩
   by_cases GR:j<lo+x
   ·exact jw i j q1 pN GR
   ·have GS:j=lo+x:=by omega
    subst GS
    by_cases qk:i=lo+x
    ·subst qk;exact Zk _
    ·exact Int.le_trans (jw i (lo+x - 1) q1 (by omega) (by omega)) (Int.not_lt.mp dt)
 case post=>
  rintro c aM ⟨rfl,n,rfl,n1,n2,hs,T7⟩
  dsimp only
  by_cases nn:n=gc
  ·rw[if_pos (by simpa using nn)]
   exact wpS_pure (h n aM hB (i6.refl _ _) n1 n2 hs)
  rw[if_neg (by simpa using nn)]
  have en:=T7.resolve_left nn
  by_cases g1:n >1
  ·rw[if_pos g1]
   refine wpS_bind (gS hB h0 (by omega) (by omega) ?_)
   have q1:=hs lo (lo+n - 1) (YO _) (by omega) (by omega)
   have q2:=hB.ne hd (i:=lo) (j:=lo+n - 1) (by omega) (by omega)
   have q3:K (arrOf aM) lo<K (arrOf aM) (lo+n - 1):=by omega
   simp only[q3,decide_true,if_true]
   exact wpS_pure (h n aM hB (i6.refl _ _) n1 n2 hs)
  rw[if_neg g1]
  have e1:n=1:=by omega
  subst e1
  have ni:∀i j,lo<=i->i<=j->j<lo+ (1+1)->K (arrOf aM) j<=K (arrOf aM) i:=λi j q1 q2 q3=>by
   by_cases ij:i=j
   ·subst ij;exact Zk _
   ·have e1:i=lo:=by omega
    have e2:j=lo+1:=by omega
    rw[e1,e2]
    rw[show lo+1 - 1=lo by omega] at en
    omega
  refine wpS_bind (wpS_lift (wpAny_rule ⟨rfl,?_⟩))
  refine wpS_bind (wpS_mono (wpS_forRange (I:=λx c bI=>bI=aM/\c=(none,x,0)/\∀i j,lo<=i->i<=j->j<lo+x->K (arrOf aM) j<=K (arrOf aM) i)
   (Q:=λc bI=>bI=aM/\∃m,c=(none,m,0)/\2<=m/\m<=gc/\∀i j,lo<=i->i<=j->j<lo+m->K (arrOf aM) j<=K (arrOf aM) i) ?step2 ?fin2 ⟨rfl,rfl,ni⟩) ?post2)
  case fin2=>
   rintro c bI ⟨rfl,rfl,jw⟩
   rw[show max (1+1) gc=gc by omega] at jw ⊢
   exact⟨rfl,gc,rfl,by omega,YO _,jw⟩
  case step2=>
   rintro x c bI Kj RH ⟨rfl,rfl,jw⟩
   dsimp only
   refine wpS_bind (gS hB h0 (by omega) (by omega) ?_)
   by_cases dt:K (arrOf bI) (lo+x)<K (arrOf bI) (lo+x - 1)
   ·simp only[dt,decide_true,if_true]
    rw[if_neg (by omega)]
    refine wpS_pure ⟨rfl,rfl,λi j q1 q2 q3=>?_⟩
    by_cases GR:j<lo+x
    ·exact jw i j q1 q2 GR
    ·have GS:j=lo+x:=by omega
     subst GS
     by_cases qk:i=lo+x
     ·subst qk;exact Zk _
     ·exact Int.le_trans (Int.le_of_lt dt) (jw i (lo+x - 1) q1 (by omega) (by omega))
   ·simp only[dt,decide_false,Zs,if_false]
    refine wpS_bind (gS hB h0 (by omega) (by omega) ?_)
    have q2:=hB.ne hd (i:=lo+x - 1) (j:=lo+x) (by omega) (by omega)
    have q3:K (arrOf bI) (lo+x - 1)<K (arrOf bI) (lo+x):=by omega
    simp only[q3,decide_true,if_true]
    exact wpS_pure ⟨rfl,x,rfl,by omega,by omega,jw⟩
  case post2=>
   rintro c bI ⟨rfl,m,rfl,m2,m3,jw⟩
   dsimp only
   rw[if_neg (by omega)]
   have hz:=hB.size
   refine wpS_bind (wpS_reverse ?_)
   have em:∀t,(mirror (arrOf bI) lo (lo+m) ((lo+m - lo) / 2))[t]?=if lo<=t/\t<lo+m then (arrOf bI)[lo+ (lo+m) - 1 - t]? else (arrOf bI)[t]?:=λt=>getElem?_mirror_all (by omega) t
   generalize hst:setArr bI (mirror (arrOf bI) lo (lo+m) ((lo+m - lo) / 2))=nS
   have B3:TB a₀ nS:=by rw[<-hst];exact hB.setArr (mirror_perm _ _ _ _)
   have Dq:i6 lo bI nS:=by
    rw[<-hst]
    refine⟨rfl,λt ht=>?_⟩
    show(mirror (arrOf bI) lo (lo+m) ((lo+m - lo) / 2))[t]?=_
    rw[em,if_neg (by omega)]
   have s3:c8 (arrOf nS) lo m:=by
    rw[<-hst]
    intro i j q1 q2 q3
    show K (mirror (arrOf bI) lo (lo+m) ((lo+m - lo) / 2)) i<=K (mirror (arrOf bI) lo (lo+m) ((lo+m - lo) / 2)) j
    have w1:K (mirror (arrOf bI) lo (lo+m) ((lo+m - lo) / 2)) i=K (arrOf bI) (lo+ (lo+m) - 1 - i):=K_congr (by rw[em,if_pos (by omega)])
    have w2:K (mirror (arrOf bI) lo (lo+m) ((lo+m - lo) / 2)) j=K (arrOf bI) (lo+ (lo+m) - 1 - j):=K_congr (by rw[em,if_pos (by omega)])
    rw[w1,w2]
    exact jw _ _ (by omega) (by omega) (by omega)
   clear hst em
   refine wpS_bind (wpS_mono (wpS_forRange (I:=λx c fM=>fM=nS/\c=(none,x)/\c8 (arrOf nS) lo x)
    (Q:=λc fM=>fM=nS/\∃k,c=(none,k)/\1<=k/\k<=gc/\c8 (arrOf nS) lo k) ?step3 ?fin3 ⟨rfl,rfl,s3⟩) ?post3)
   case fin3=>
    rintro c fM ⟨rfl,rfl,Cz⟩
    rw[show max m gc=gc by omega] at Cz ⊢
    exact⟨rfl,gc,rfl,h1,YO _,Cz⟩
   case step3=>
    rintro x c fM Kj RH ⟨rfl,rfl,Cz⟩
    dsimp only
    refine wpS_bind (gS B3 h0 (by omega) (by omega) ?_)
    by_cases dt:K (arrOf fM) (lo+x)<K (arrOf fM) (lo+x - 1)
    ·simp only[dt,decide_true,if_true]
     exact wpS_pure ⟨rfl,x,rfl,by omega,by omega,Cz⟩
    ·simp only[dt,decide_false,Zs,if_false]
     refine wpS_pure ⟨rfl,rfl,λi j q1 pN hj=>?_⟩
     by_cases GR:j<lo+x
     ·exact Cz i j q1 pN GR
     ·have GS:j=lo+x:=by omega
      subst GS
      by_cases qk:i=lo+x
      ·subst qk;exact Zk _
      ·exact Int.le_trans (Cz i (lo+x - 1) q1 (by omega) (by omega)) (Int.not_lt.mp dt)
   case post3=>
    rintro c fM ⟨rfl,k,rfl,k1,k2,Cz⟩
    exact wpS_pure (h k fM B3 Dq k1 k2 Cz)
noncomputable def Runs (arr:Array Keyed):Nat->List (Nat×Nat×Nat)->Nat->Prop
 | s,[],e=>s=e
 | s,(a,n,_)::r,e=>a=s/\1<=n/\c8 arr s n/\Runs arr (s+n) r e
theorem gU {arr kC:Array Keyed} {lo n:Nat} (h:∀t,lo<=t->t<lo+n->kC[t]?=arr[t]?) (k:c8 arr lo n):c8 kC lo n:=λi j h1 h2 h3=>by
 rw[K_congr (h i h1 (by omega)),K_congr (h j (by omega) h3)]
 exact k i j h1 h2 h3
theorem Runs.le {arr:Array Keyed}:∀{P:List (Nat×Nat×Nat)} {s e:Nat},Runs arr s P e->s+P.length<=e
 | [],s,e,h=>by have:s=e:=h;simp;omega
 | (a,n,p)::r,s,e,h=>by
  have:=Runs.le h.2.2.2
  have:=h.2.1
  simp
  omega
theorem Runs.congr {arr kC:Array Keyed}:∀{P:List (Nat×Nat×Nat)} {s e:Nat},(∀t,s<=t->t<e->kC[t]?=arr[t]?)->Runs arr s P e->Runs kC s P e
 | [],s,e,_,h=>h
 | (a,n,p)::r,s,e,k,h=>by
  have:=Runs.le h.2.2.2
  exact⟨h.1,h.2.1,gU (λt h1 h2=>k t h1 (by omega)) h.2.2.1,Runs.congr (λt h1 h2=>k t (by omega) h2) h.2.2.2⟩
theorem Runs.push {arr:Array Keyed} {n:Nat} (n1:1<=n):∀{P:List (Nat×Nat×Nat)} {s e:Nat},Runs arr s P e->c8 arr e n->Runs arr s (P++ [(e,n,0)]) (e+n)
 | [],s,e,h,k=>by
  have:s=e:=h
  subst this
  exact⟨rfl,n1,k,rfl⟩
 | (a,m,p)::r,s,e,h,k=>⟨h.1,h.2.1,h.2.2.1,Runs.push n1 h.2.2.2 k⟩
theorem Runs.at {arr:Array Keyed}:∀{P:List (Nat×Nat×Nat)} {s e i sa na pw sb nb Ei:Nat},Runs arr s P e->P[i]?=some (sa,na,pw)->P[i+1]?=some (sb,nb,Ei)->
  s<=sa/\sb=sa+na/\1<=na/\1<=nb/\c8 arr sa na/\c8 arr sb nb/\sa+na+nb<=e/\
   ∀kC,(∀t,t<sa\/sa+na+nb<=t->kC[t]?=arr[t]?)->c8 kC sa (na+nb)->Runs kC s ((P.set i (sa,na+nb,pw)).eraseIdx (i+1)) e
 | [],s,e,i,sa,na,pw,sb,nb,Ei,h,e1,e2=>by simp at e1
 | (a,n,p)::r,s,e,0,sa,na,pw,sb,nb,Ei,h,e1,e2=>by
  simp at e1
  obtain⟨rfl,rfl,rfl⟩:=e1
  cases r with
  | nil=>simp at e2
  | cons q r=>
   obtain⟨b,m,p'⟩:=q
   simp at e2
   obtain⟨rfl,rfl,rfl⟩:=e2
   obtain⟨rfl,n1,s1,rfl,m1,s2,rest⟩:=h
   have:=Runs.le rest
   refine⟨YO _,rfl,n1,m1,s1,s2,by omega,λkC k sg=>?_⟩
   exact⟨rfl,by omega,sg,by rw[<-Nat.add_assoc];exact Runs.congr (λt h1 h2=>k t (.inr (by omega))) rest⟩
 | (a,n,p)::r,s,e,i+1,sa,na,pw,sb,nb,Ei,h,e1,e2=>by
  simp at e1 e2
  obtain⟨rfl,n1,s1,rest⟩:=h
  obtain⟨q1,q2,q3,q4,q5,q6,q7,q8⟩:=Runs.at rest e1 e2
  refine⟨by omega,q2,q3,q4,q5,q6,q7,λkC k sg=>?_⟩
  exact⟨rfl,n1,gU (λt h1 h2=>k t (.inl (by omega))) s1,q8 kC k sg⟩
theorem Runs.power {arr:Array Keyed} {pw:Nat}:∀{P:List (Nat×Nat×Nat)} {s e:Nat},Runs arr s P e->∀i,Runs arr s (P.modify i λx=>(x.1,x.2.1,pw)) e
 | [],s,e,h,i=>by simpa using h
 | (a,n,p)::r,s,e,h,0=>by
  rw[List.modify_zero_cons]
  exact⟨h.1,h.2.1,h.2.2.1,h.2.2.2⟩
 | (a,n,p)::r,s,e,h,i+1=>by
  rw[List.modify_succ_cons]
  exact⟨h.1,h.2.1,h.2.2.1,Runs.power h.2.2.2 i⟩
theorem iw {a₀:Array Keyed} {st:SortSt} {i e:Nat} {Q:Bool->SortSt->Prop} (h0:rS a₀) (hB:TB a₀ st) (r:Runs (arrOf st) 0 (pendingOf st).toList e) (he:e<=a₀.size) (hi:i+1< (pendingOf st).size)
  (h:∀aM,TB a₀ aM->Runs (arrOf aM) 0 (pendingOf aM).toList e->(pendingOf aM).size+1=(pendingOf st).size->(∀t,e<=t->(arrOf aM)[t]?=(arrOf st)[t]?)->Q true aM):wpS (model prog w) A E s (mergeAt' i) Q st:=by
 have l:(pendingOf st).toList.length=(pendingOf st).size:=by simp
 obtain⟨⟨sa,na,pw⟩,e1⟩:∃x,(pendingOf st).toList[i]?=some x:=⟨_,YM (by omega)⟩
 obtain⟨⟨sb,nb,Ei⟩,e2⟩:∃x,(pendingOf st).toList[i+1]?=some x:=⟨_,YM (by omega)⟩
 obtain⟨q1,q2,q3,q4,q5,q6,q7,q8⟩:=r.at e1 e2
 subst q2
 refine rV hB.kind hB.failed (hB.all h0) (by rw[<-Zt];exact e1) (by rw[<-Zt];exact e2) q3 q4 (by rw[hB.size];omega) q5 q6 λaM k f pn pm sg out=>?_
 have tl:(pendingOf aM).toList=((pendingOf st).toList.set i (sa,na+nb,pw)).eraseIdx (i+1):=by rw[pn];simp
 refine h aM ⟨pm.trans hB.perm,k,f⟩ ?_ ?_ λt ht=>out t (.inr (by omega))
 ·rw[tl]
  exact q8 _ out sg
 ·have l':(pendingOf aM).toList.length=(pendingOf aM).size:=by simp
  rw[<-l',tl,List.length_eraseIdx,Y5]
  rw[if_pos (by omega)]
  omega
theorem xj {a₀:Array Keyed} {st:SortSt} {Q:Unit->SortSt->Prop} (h0:rS a₀) (hd:GO a₀) (hB:TB a₀ st) (hp:pendingOf st=#[]) (h2:1<=a₀.size)
  (h:∀aM,(arrOf aM).Perm a₀->failedOf aM=none->SortedTo (arrOf aM) a₀.size->Q () aM):wpS (model prog w) A E s sortRuns' Q st:=by
 rw[sortRuns'_eq]
 refine wpS_bind (wpS_get ?_)
 dsimp only
 simp only[hB.size]
 generalize minRun' a₀.size a₀.size 0=mr
 refine wpS_bind (wpS_mono (wpS_forRange
  (I:=λx c aM=>∃lo,c=(none,lo)/\TB a₀ aM/\Runs (arrOf aM) 0 (pendingOf aM).toList lo/\lo<=a₀.size/\(x<=lo\/lo=a₀.size))
  (Q:=λc aM=>c=(none,a₀.size)/\TB a₀ aM/\Runs (arrOf aM) 0 (pendingOf aM).toList a₀.size) ?step ?fin ⟨0,rfl,hB,by rw[hp];rfl,by omega,.inl (YO _)⟩) ?post)
 case fin=>
  rintro c aM ⟨lo,rfl,B,r,l1,l2⟩
  have:lo=a₀.size:=by omega
  subst this
  exact⟨rfl,B,r⟩
 case step=>
  rintro x c tN _ hx ⟨lo,rfl,B1,r1,l1,l2⟩
  dsimp only
  by_cases c:lo≥a₀.size
  ·rw[if_pos c]
   have:lo=a₀.size:=by omega
   subst this
   exact wpS_pure ⟨rfl,B1,r1⟩
  rw[if_neg c]
  refine wpS_bind (y2 h0 hd (by omega) (by omega) B1 λm bI B2 Kk m1 m2 s2=>?_)
  dsimp only
  have r2:Runs (arrOf bI) 0 (pendingOf bI).toList lo:=by
   rw[Kk.1]
   exact Runs.congr (λt _ ht=>Kk.2 t ht) r1
  have last:∀(n:Nat) (bI:SortSt),1<=n->lo+n<=a₀.size->TB a₀ bI->Runs (arrOf bI) 0 (pendingOf bI).toList lo->c8 (arrOf bI) lo n->wpS (model prog w) A E s (do
    modify λs=>setPending s ((pendingOf s).push (lo,n,0))
    pure (ForInStep.yield ((none,lo+n):Option Unit×Nat)))
    (λr aM=>match r with
     | .done c'=>c'=(none,a₀.size)/\TB a₀ aM/\Runs (arrOf aM) 0 (pendingOf aM).toList a₀.size
     | .yield c'=>∃lo,c'=(none,lo)/\TB a₀ aM/\Runs (arrOf aM) 0 (pendingOf aM).toList lo/\lo<=a₀.size/\(x+1<=lo\/lo=a₀.size)) bI:=λn bI n1 hn B2 r2 s2=>by
   refine wpS_bind (wpS_modify (wpS_pure ⟨lo+n,rfl,⟨B2.perm,B2.kind,B2.failed⟩,?_,hn,by omega⟩))
   show Runs (arrOf bI) 0 ((pendingOf bI).push (lo,n,0)).toList (lo+n)
   rw[Array.toList_push]
   exact r2.push n1 s2
  by_cases c3:m<mr
  ·rw[if_pos c3]
   refine wpS_bind (wpS_lift (wpAny_rule ⟨rfl,?_⟩))
   refine wpS_bind (yZ h0 (by omega) (by omega) B2 s2 λnS B3 Dq s3=>?_)
   rw[if_neg (by simp)]
   have r3:Runs (arrOf nS) 0 (pendingOf nS).toList lo:=by
    rw[Dq.1]
    exact Runs.congr (λt _ ht=>Dq.2 t ht) r2
   refine wpS_bind (wpS_get ?_)
   cases hb:(pendingOf nS).back? with
   | none=>exact wpS_mono (last (min (a₀.size - lo) mr) nS (by omega) (by omega) B3 r3 s3) λr aM hh=>by cases r <;>exact hh
   | some y=>
    obtain⟨s1,k1,p1⟩:=y
    dsimp only
    refine wpS_bind (wpS_mono (wpS_forRange (I:=λx c bI=>c=(none,())/\TB a₀ bI/\Runs (arrOf bI) 0 (pendingOf bI).toList lo/\c8 (arrOf bI) lo (min (a₀.size - lo) mr))
     (Q:=λc bI=>c=(none,())/\TB a₀ bI/\Runs (arrOf bI) 0 (pendingOf bI).toList lo/\c8 (arrOf bI) lo (min (a₀.size - lo) mr)) ?stepA ?finA ⟨rfl,B3,r3,s3⟩) ?postA)
    case finA=>exact λ_ _ hh=>hh
    case stepA=>
     rintro x' c' fM _ jA ⟨rfl,B4,r4,fO⟩
     refine wpS_bind (wpS_get ?_)
     by_cases c1:(pendingOf fM).size >1
     ·rw[if_pos c1]
      obtain⟨⟨f1,f2,y3⟩,e1⟩:∃x,(pendingOf fM)[(pendingOf fM).size - 2]?=some x:=⟨_,getElem?_pos _ _ (by omega)⟩
      rw[e1]
      dsimp only
      by_cases c2:y3<=power' a₀.size (2*s1+k1) (2*s1+k1+k1+ (min (a₀.size - lo) mr)) a₀.size
      ·rw[if_pos c2]
       exact wpS_pure ⟨rfl,B4,r4,fO⟩
      ·rw[if_neg c2]
       refine wpS_bind (iw h0 B4 r4 (by omega) (by omega) λFV B5 r5 _ out=>?_)
       rw[if_neg (by simp)]
       exact wpS_pure ⟨rfl,B5,r5,gU (λt h1 _=>out t h1) fO⟩
     ·rw[if_neg c1]
      exact wpS_pure ⟨rfl,B4,r4,fO⟩
    case postA=>
     rintro c' fM ⟨rfl,B4,r4,fO⟩
     dsimp only
     refine wpS_bind (wpS_modify ?_)
     refine wpS_mono (last (min (a₀.size - lo) mr) (setPending fM ((pendingOf fM).modify ((pendingOf fM).size - 1) λx=>(x.fst,x.2.fst,power' a₀.size (2*s1+k1) (2*s1+k1+k1+ (min (a₀.size - lo) mr)) a₀.size))) (by omega) (by omega) ⟨B4.perm,B4.kind,B4.failed⟩ ?_ fO) λr aM hh=>by cases r <;>exact hh
     show Runs (arrOf fM) 0 ((pendingOf fM).modify ((pendingOf fM).size - 1) λx=>(x.fst,x.2.fst,power' a₀.size (2*s1+k1) (2*s1+k1+k1+ (min (a₀.size - lo) mr)) a₀.size)).toList lo
     rw[Array.toList_modify]
     exact r4.power _
  ·rw[if_neg c3]
   refine wpS_bind (wpS_get ?_)
   cases hb:(pendingOf bI).back? with
   | none=>exact wpS_mono (last m bI (by omega) (by omega) B2 r2 s2) λr aM hh=>by cases r <;>exact hh
   | some y=>
    obtain⟨s1,k1,p1⟩:=y
    dsimp only
    refine wpS_bind (wpS_mono (wpS_forRange (I:=λx c bI=>c=(none,())/\TB a₀ bI/\Runs (arrOf bI) 0 (pendingOf bI).toList lo/\c8 (arrOf bI) lo m)
     (Q:=λc bI=>c=(none,())/\TB a₀ bI/\Runs (arrOf bI) 0 (pendingOf bI).toList lo/\c8 (arrOf bI) lo m) ?stepB ?finB ⟨rfl,B2,r2,s2⟩) ?postB)
    case finB=>exact λ_ _ hh=>hh
    case stepB=>
     rintro x' c' fM _ jA ⟨rfl,B4,r4,fO⟩
     refine wpS_bind (wpS_get ?_)
     by_cases c1:(pendingOf fM).size >1
     ·rw[if_pos c1]
      obtain⟨⟨f1,f2,y3⟩,e1⟩:∃x,(pendingOf fM)[(pendingOf fM).size - 2]?=some x:=⟨_,getElem?_pos _ _ (by omega)⟩
      rw[e1]
      dsimp only
      by_cases c2:y3<=power' a₀.size (2*s1+k1) (2*s1+k1+k1+m) a₀.size
      ·rw[if_pos c2]
       exact wpS_pure ⟨rfl,B4,r4,fO⟩
      ·rw[if_neg c2]
       refine wpS_bind (iw h0 B4 r4 (by omega) (by omega) λFV B5 r5 _ out=>?_)
       rw[if_neg (by simp)]
       exact wpS_pure ⟨rfl,B5,r5,gU (λt h1 _=>out t h1) fO⟩
     ·rw[if_neg c1]
      exact wpS_pure ⟨rfl,B4,r4,fO⟩
    case postB=>
     rintro c' fM ⟨rfl,B4,r4,fO⟩
     dsimp only
     refine wpS_bind (wpS_modify ?_)
     refine wpS_mono (last m (setPending fM ((pendingOf fM).modify ((pendingOf fM).size - 1) λx=>(x.fst,x.2.fst,power' a₀.size (2*s1+k1) (2*s1+k1+k1+m) a₀.size))) (by omega) (by omega) ⟨B4.perm,B4.kind,B4.failed⟩ ?_ fO) λr aM hh=>by cases r <;>exact hh
     show Runs (arrOf fM) 0 ((pendingOf fM).modify ((pendingOf fM).size - 1) λx=>(x.fst,x.2.fst,power' a₀.size (2*s1+k1) (2*s1+k1+k1+m) a₀.size)).toList lo
     rw[Array.toList_modify]
     exact r4.power _
 case post=>
  rintro c tN ⟨rfl,B1,r1⟩
  dsimp only
  have l1:(pendingOf tN).toList.length=(pendingOf tN).size:=by simp
  have ll:=r1.le
  refine wpS_bind (wpS_mono (wpS_forRange (I:=λx c bI=>c=(none,())/\TB a₀ bI/\Runs (arrOf bI) 0 (pendingOf bI).toList a₀.size/\(pendingOf bI).size+x<=a₀.size+1)
   (Q:=λc bI=>c=(none,())/\TB a₀ bI/\Runs (arrOf bI) 0 (pendingOf bI).toList a₀.size/\(pendingOf bI).size<=1) ?step4 ?fin4 ⟨rfl,B1,r1,by omega⟩) ?post4)
  case fin4=>
   rintro c bI ⟨rfl,B2,r2,l2⟩
   exact⟨rfl,B2,r2,by omega⟩
  case step4=>
   rintro x c bI _ hx ⟨rfl,B2,r2,l2⟩
   refine wpS_bind (wpS_get ?_)
   by_cases c1:(pendingOf bI).size<=1
   ·rw[if_pos c1]
    exact wpS_pure ⟨rfl,B2,r2,c1⟩
   rw[if_neg c1]
   refine wpS_bind (iw h0 B2 r2 (YO _) ?_ λnS B3 r3 l3 _=>?_)
   ·have key:∀b:Bool,(if b=true then (pendingOf bI).size - 2 - 1 else (pendingOf bI).size - 2)+1< (pendingOf bI).size:=λb=>by cases b <;>simp <;>omega
    exact key _
   ·rw[if_neg (by simp)]
    exact wpS_pure ⟨rfl,B3,r3,by omega⟩
  case post4=>
   rintro c bI ⟨rfl,B2,r2,l2⟩
   refine wpS_pure (h _ B2.perm B2.failed ?_)
   have l3:(pendingOf bI).toList.length=(pendingOf bI).size:=by simp
   generalize (pendingOf bI).toList=P at *
   cases P with
   | nil=>
    have:0=a₀.size:=r2
    omega
   | cons p P=>
    cases P with
    | nil=>
     obtain⟨a,n,pw⟩:=p
     obtain⟨_,_,sg,e⟩:=r2
     have e:0+n=a₀.size:=e
     exact λi j h1 h2=>sg i j (by omega) h1 (by omega)
    | cons q P=>simp at l3;omega
end
end PySem.Tim
namespace PySem.Tim
open PySem PyProof.Rows
section
variable {prog : Program} {w : World} {A : Around} {E : Value -> Shared -> Prop} {s : Shared}
theorem ph:∀{vs:List Value} {ns:List Int},IntsAre vs ns->vs.map numOf=ns
 | _,_,.nil=>rfl
 | _,_,.cons n t h=>by rw[Y3,ph h];rfl
theorem y4 (vs:List Value):(pairsOf vs).toList.map kn=vs.map numOf:=by
 rw[pairsOf_toList]
 induction vs with
 | nil=>rfl
 | cons v r ih=>rw[List.zip_cons_cons,Y3,ih,Y3]
theorem xk {a:Addr} {vs:List Value} {ns:List Int} {n:Nat} {P:PySem.Fin->Shared->Prop} (ho:s.heap.get? a=some (seqObj "list" vs.toArray n)) (hI:IntsAre vs ns) (nd:ns.Nodup) (h2:2<=vs.length) (hz:vs.length<=sizeLine)
  (h:∀(out:Array Value) (Ay:List Int),IntsAre out.toList Ay->Ay.Perm ns->Ay.Pairwise (·<=·)->P (.done (.ret .none)) {s with heap:=sortedHeap s.heap a vs out}):
  wpAny (model prog w) A (Builtin.«list.sort» ⟨[.ref a],[]⟩) P E s:=by
 rw[list_sort_plain]
 have ha:a<s.heap.objs.size:=Heap.lt_size ho
 have hv:vs.toArray.size=vs.length:=by simp
 refine wpAny_bind (listItems_at ho rfl (wpAny_bind (listUpdate_at ho rfl ?_ (hsz:=by rw[hv];exact hz) (hsz2:=Y0 _))))
 obtain⟨e1,GC⟩:∃e1,(s.heap.update a (Obj.mapSeq λ_=>#[])).get? a=some (seqObj "list" #[] e1):=⟨_,get?_update_seq ho (λ_=>#[])⟩
 refine wpAny_bind (seqEpoch_at GC rfl (wpAny_bind (wpAny_newTuple (wpAny_bind (wpAny_newList (wpAny_holding ?_))) (by rw[List.toList_toArray];exact hz))))
 show wpAny (model prog w) A _ P E {s with heap:=((s.heap.update a (Obj.mapSeq λ_=>#[])).push (seqObj "tuple" vs.toArray 0)).push (seqObj "list" #[] 0)}
 generalize hh:(((s.heap.update a (Obj.mapSeq λ_=>#[])).push (seqObj "tuple" vs.toArray 0)).push (seqObj "list" #[] 0))=h6
 have Ec:h6.get? a=some (seqObj "list" #[] e1):=by
  rw[<-hh,Heap.get?_push_ne _ _ _ (by rw[size_push',Heap.size_update];exact YT (ZJ ha)),Heap.get?_push_ne _ _ _ (by rw[Heap.size_update];exact YT ha)]
  exact GC
 dsimp only
 rw[if_neg (by omega),if_neg (by omega)]
 obtain⟨v₁,v₂,rest,rfl⟩:∃v₁ v₂ rest,vs=v₁::v₂::rest:=by
  match vs,h2 with
  | [],h2=>simp at h2
  | [_],h2=>simp at h2
  | v₁::v₂::rest,_=>exact⟨v₁,v₂,rest,rfl⟩
 rw[keyKind_ints hI]
 refine wpAny_bind (wpAny_pure ?_)
 have ds:GO (pairsOf (v₁::v₂::rest)):=by unfold GO;rw[y4,ph hI];exact nd
 have sr:=xj (prog:=prog) (w:=w) (A:=A) (E:=E) (s:={s with heap:=h6}) (a₀:=pairsOf (v₁::v₂::rest)) (st:=SortSt.mk' oneType' ((v₁::v₂::rest).toArray.zip (v₁::v₂::rest).toArray) #[] 7 none)
  (Q:=λ_ aM=>(arrOf aM).Perm (pairsOf (v₁::v₂::rest))/\failedOf aM=none/\SortedTo (arrOf aM) (pairsOf (v₁::v₂::rest)).size)
  hI.intKeys ds ⟨Array.Perm.refl _,rfl,rfl⟩ rfl (by rw[pairsOf_size];simp) λaM a1 a2 a3=>⟨a1,a2,a3⟩
 refine wpAny_bind (wpAny_mono sr ?_ λ_ _ e=>e)
 rintro⟨⟨⟩,aM⟩ s' ⟨rfl,hp,hf,hs⟩
 dsimp only
 obtain⟨Ay,q1,q2,q3⟩:=sorted_out hI hp hs
 refine wpAny_bind (seqEpoch_at Ec rfl (wpAny_bind (listUpdate_at Ec rfl ?_ (hsz:=Y0 _) (hsz2:=by
  refine Y2 (Nat.le_of_eq ((Array.size_map ..).trans (hp.size_eq.trans (pairsOf_size _)))) ?_
  omega))))
 rw[hf]
 simp only[bne_self_eq_false,Zs,if_false]
 have fin:=h ((arrOf aM).map (·.2)) Ay q1 q2 q3
 unfold sortedHeap at fin
 rw[hh] at fin
 exact wpAny_pure fin
theorem sort_all {a:Addr} {vs:List Value} {ns:List Int} {n:Nat} {P:PySem.Fin->Shared->Prop} (ho:s.heap.get? a=some (seqObj "list" vs.toArray n)) (hI:IntsAre vs ns) (nd:ns.Nodup) (hz:vs.length<=sizeLine)
  (h:∀(out:Array Value) (Ay:List Int),IntsAre out.toList Ay->Ay.Perm ns->Ay.Pairwise (·<=·)->P (.done (.ret .none)) {s with heap:=sortedHeap s.heap a vs out}):
  wpAny (model prog w) A (Builtin.«list.sort» ⟨[.ref a],[]⟩) P E s:=by
 by_cases c:vs.length<64
 ·exact list_sort_tree ho hI c h
 ·exact xk ho hI nd (by omega) hz h
end
end PySem.Tim
namespace L2
open PySem PySem.Spec PyProof.Rows PySem.W
section
variable {X : Cx} {K : PySem.W.Frag}
theorem mO (hc:X.calm=true):bY X (.builtin "sorted") (λxs H Q=>∃d kvs,xs=[.ref d]/\Rd H d (.dK kvs)/\allI kvs/\(eJ kvs).Nodup/\kvs.length<=10000/\∀l,H l=none->Q (.ref l) (upd H l (.lst (List.map V.int (Nm.gh (eJ kvs)))))):=by
 intro pins s σ H xs us Q I r h
 obtain⟨d,kvs,rfl,hd,wR,T8,hn,q⟩:=h
 obtain⟨u,rfl,rx⟩:=vals1 r
 cases rx
 obtain⟨hz,lo,vs,kv,dd⟩:=oV I.bE hd
 have hlen:kvs.length=vs.length:=Paired.length kv
 obtain⟨ep,Fm⟩:=dd.dictAt
 refine Calls.call_function_entry kind_sorted plain_sorted entry_sorted (args_sorted1 _) ?_
 unfold Builtin.«sorted»
 refine wpAny_bind (m:=checkCount "sorted" 1 1 _) (wpAny_pure ?_)
 refine wpAny_bind (kdu_collect (A:=X.A.in1) (kdl_dict (kvs:=vs) (ep:=ep) lo) (I.ok.hd hc) Fm (by rw[<-hlen,sizeLine_eq];omega) λh' tk acc hk Bi=>?_)
 have hl:acc.toList.length=vs.length:=by rw[Array.length_toList];exact Bi.1
 have hI:IntsAre acc.toList (eJ kvs):=by
  have all:∀(j:Nat) v,acc.toList[j]?=some v->∃i t,v=Value.int i t/\(eJ kvs)[j]?=some i:=λj v e=>by
   obtain⟨k,x,hx,hk⟩:=Bi.2 j v (by rw[<-Zt];exact e)
   obtain⟨p,e1,e2⟩:∃p,kvs[j]?=some p/\p.1=k:=by
    have:∀{as:List (Key×V)} {bs:List (Key×Value)} (j:Nat) {b},KV as bs->bs[j]?=some b->∃a,as[j]?=some a/\a.1=b.1:=by
     intro as bs j b r
     induction r generalizing j with
     | nil=>intro e;simp at e
     | cons r1 r2 ih=>
      intro e
      cases j with
      | zero=>simp at e;subst e;exact⟨_,rfl,r1.1⟩
      | succ j=>simp at e;obtain⟨a,e1,e2⟩:=ih j e;exact⟨a,by simpa using e1,e2⟩
    obtain⟨a,e1,e2⟩:=this j kv hx
    exact⟨a,e1,e2⟩
   obtain⟨i,hi⟩:=wR p (YN e1)
   rw[<-e2,hi] at hk
   have hk:lN (.inl i) v=true:=hk
   rcases bP hk with ⟨i',t,e3,e4⟩ | ⟨x',t,e3,_⟩
   ·cases e3
    refine⟨i,t,e4,?_⟩
    unfold eJ
    rw[YQ,e1]
    simp [hi]
   ·cases e3
  have go:∀(us:List Value) (ns:List Int),us.length=ns.length->(∀(j:Nat) v,us[j]?=some v->∃i t,v=Value.int i t/\ns[j]?=some i)->IntsAre us ns:=by
   intro us
   induction us with
   | nil=>intro ns hl _;cases ns with | nil=>exact .nil | cons _ _=>simp at hl
   | cons u us ih=>
    intro ns hl k
    cases ns with
    | nil=>simp at hl
    | cons n ns=>
     obtain⟨i,t,rfl,e⟩:=k 0 u rfl
     simp at e
     subst e
     exact .cons n t (ih ns (by simpa using hl) λj v e=>by
      obtain⟨i,t,e1,e2⟩:=k (j+1) v (by simpa using e)
      exact⟨i,t,e1,by simpa using e2⟩)
  refine go _ _ ?_ all
  unfold eJ
  rw[YL,hl,hlen]
 refine wpAny_bind (wpAny_newList ?_ (by rw[hl,<-hlen,sizeLine_eq];omega))
 have Cf:(h'.push (seqObj "list" acc.toList.toArray 0)).get? h'.objs.size=some (seqObj "list" acc.toList.toArray 0):=Heap.get?_push_size _ rfl
 have I1:Inv X pins σ H {s with heap:=h',toks:=tk}:=I.kept (t':=tk) hk
 refine wpAny_bind (wpAny_holding (wpAny_call_entry slot_list_sort ⟨_,Cf,rfl⟩ entry_list_sort (PySem.Tim.sort_all Cf hI T8 (by rw[hl,<-hlen,sizeLine_eq];omega) λout Ay a1 a2 a3=>⟨_,rfl,?_⟩) (args_list_sort _)))
 obtain rfl:=Nm.qc a2 a3
 obtain⟨e,he⟩:=sortedHeap_at (out:=out) Cf
 have fr:=I1.bE.fresh (a:=h'.objs.size) (YO _)
 refine wpAny_pure ⟨_,rfl,.ref h'.objs.size,_,I1.laid (t':=tk) (λb o eb=>?_) (YO _) (o:=.lst (List.map V.int (Nm.gh (eJ kvs)))) ⟨?_,out.toList,e,qd a1,?_⟩,rfl,q _ fr⟩
 ·rw[sortedHeap_old (YT (Heap.lt_size eb)) (by rw[Heap.size_push];exact ZJ (Heap.lt_size eb))]
  exact Heap.get?_push_of_some _ eb
 ·rw[YL,Nm.mD,sizeLine_eq]
  unfold eJ
  rw[YL]
  omega
 ·exact he
theorem kD (hc:X.calm=true:=by rfl):bY X (.builtin "sorted") (λxs H Q=>∃d kvs,xs=[.ref d]/\Rd H d (.dK kvs)/\allI kvs/\(eJ kvs).Nodup/\kvs.length<=10000/\∀l,H l=none->Q (.ref l) (upd H l (.lst (List.map V.int (Nm.gh (eJ kvs)))))):=mO hc
end
end L2
namespace L2
open PySem PySem.Spec PyProof.Rows
section
variable {X : Cx} {k k2 : Nat} {x x2 : Str} {ps T9 : List Str} {sp Ua : Sp} {e e2 : Expr} {es Ub : List Expr} {t t2 : TA} {p pos p2 Kl : Pos} {cx n : Str} {np yr yt GU fW Km : Pos} {b₀ : Stmt} {rh : List Stmt} {i : Nat} {ts : TS} {C2 : Addr} {c : Expr} {tc : TT}
end
end L2
namespace L2
open PySem PySem.Spec PyProof.Rows
structure mP (P:Program) (w:World) (K:PySem.W.Frag) (mg:Str->Option Value) (base:Heap) (CX:h8) (k:Nat) (x:Str) (C:Addr) (ps:List Str) (sp:Sp):Prop where
 ex:∃f fd,Mk K C f/\dI P w K mg base CX k f fd ps sp/\mg x=some (.ref C)/\Binds K fd ps []
section
variable {X : Cx}
theorem vD {CX:h8} {k:Nat} {x:Str} {C:Addr} {ps:List Str} {sp:Sp} {E:XK} {e:Expr} {es:List Expr} {t:TA} {p pos:Pos} (M:mP X.prog X.w X.K X.mg X.base CX k x C ps sp) (hr:cw (k+1) X.A) (hg:Gl X x) (hx:dR CX X E) (ha:PA X (e::es) t)
  (x6:(x==("__debug__":Str))=false:=by decide) (he:starEach (e::es) X.env=(false,eval e X.env)::starEach es X.env:=by rfl) (hpl:(backTo pos (starEach es X.env)).any (·.1)=false:=by rfl):
  PE X (.Call (.Name x p) (e::es) [] pos) (oN C sp [] E t):=by
 obtain⟨f,fd,m,F,hm,hb⟩:=M.ex
 exact AW m F hr hg hm hb .nil hx ha x6 he hpl
end
structure Kn (K:PySem.W.Frag) (mg:Str->Option Value) (x qual:Str) (st:Stmt) (C:Addr):Prop where
 ex:∃f fd,tM K "__init__" qual st f fd/\Mk K C f/\mg x=some (.ref C)
theorem Kn.dZ {P:Program} {w:World} {K:PySem.W.Frag} {mg:Str->Option Value} {base:Heap} {CX:h8} {x qual:Str} {st:Stmt} {C:Addr} {ps:List Str} {k:Nat} {sp:Sp} (D:Kn K mg x qual st C)
  (hb:∀(kV doc pm:Value) (an:Option Addr) (b9 ct:Value) (us:List Value),us.length=ps.length->bindArgs (PySem.W.fnOf "__init__" qual (aF st) (aD st) (ab st) .none kV doc pm an b9 ct) ⟨us,[]⟩=pure (ps.zip us))
  (h:∀f fd,tM K "__init__" qual st f fd->dI P w K mg base CX k f fd ps sp):mP P w K mg base CX k x C ps sp:=by
 obtain⟨f,fd,F,m,hm⟩:=D.ex
 exact⟨f,fd,m,h f fd F,hm,F.binds hb⟩
end L2
namespace L2
open PySem PySem.Spec PyProof.Rows
noncomputable instance Fq:DecidableEq PyData:=λ_ _=>Classical.propDecidable _
mutual
noncomputable def fL:PyData->Bool
 | .int _=>true
 | .str x=>PyData.canLay0 (.str x)
 | .tuple xs=>jN xs
 | _=>false
noncomputable def jN:List PyData->Bool
 | []=>true
 | x::xs=>fL x && jN xs
end
mutual
theorem BA:∀(d:PyData),fL d=true->d.canLay0=true
 | .none,h=>by simp [fL] at h
 | .bool _,h=>by simp [fL] at h
 | .int _,_=>by simp [PyData.canLay0]
 | .str x,h=>by rw[fL] at h;exact h
 | .list _,h=>by simp [fL] at h
 | .tuple xs,h=>by rw[fL] at h;rw[PyData.canLay0];exact rW xs h
 | .dict _,h=>by simp [fL] at h
theorem rW:∀(xs:List PyData),jN xs=true->PyData.canLayAll0 xs=true
 | [],_=>by simp [PyData.canLayAll0]
 | x::xs,h=>by
  rw[jN,Zi] at h
  rw[PyData.canLayAll0,Zi]
  exact⟨BA x h.1,rW xs h.2⟩
end
mutual
theorem Em:∀(x y:PyData),fL x=true->fL y=true->PyData.eqv x y=decide (x=y)
 | .int i,y,_,hy=>by
  cases y with
  | int j=>
   rw[PyData.eqv]
   by_cases c:i=j
   ·subst c;simp
   ·rw[decide_eq_false (λe=>c (by injection e))]
    simp [c]
  | str _=>simp [PyData.eqv]
  | tuple _=>simp [PyData.eqv]
  | _=>simp [fL] at hy
 | .str a,y,_,hy=>by
  cases y with
  | str b=>
   rw[PyData.eqv]
   by_cases c:a=b
   ·subst c;simp
   ·rw[decide_eq_false (λe=>c (by injection e))]
    simp [c]
  | int _=>simp [PyData.eqv]
  | tuple _=>simp [PyData.eqv]
  | _=>simp [fL] at hy
 | .tuple xs,y,hx,hy=>by
  cases y with
  | tuple ys=>
   rw[fL] at hx hy
   rw[PyData.eqv,vE xs ys hx hy]
   by_cases c:xs=ys
   ·subst c;simp
   ·rw[decide_eq_false c,decide_eq_false (λe=>c (by injection e))]
  | int _=>simp [PyData.eqv]
  | str _=>simp [PyData.eqv]
  | _=>simp [fL] at hy
 | .none,_,h,_=>by simp [fL] at h
 | .bool _,_,h,_=>by simp [fL] at h
 | .list _,_,h,_=>by simp [fL] at h
 | .dict _,_,h,_=>by simp [fL] at h
theorem vE:∀(xs ys:List PyData),jN xs=true->jN ys=true->PyData.eqvAll xs ys=decide (xs=ys)
 | [],[],_,_=>by simp [PyData.eqvAll]
 | [],_::_,_,_=>by simp [PyData.eqvAll]
 | _::_,[],_,_=>by simp [PyData.eqvAll]
 | x::xs,y::ys,hx,hy=>by
  rw[jN,Zi] at hx hy
  rw[PyData.eqvAll,Em x y hx.1 hy.1,vE xs ys hx.2 hy.2]
  by_cases c:x=y
  ·subst c
   by_cases d:xs=ys
   ·subst d;simp
   ·rw[decide_eq_false d,decide_eq_false (λe=>d (List.cons.inj e).2)];simp
  ·rw[decide_eq_false c,decide_eq_false (λe=>c (List.cons.inj e).1)];simp
end
mutual
theorem uE {h h':Heap} {d:Addr} {o:Obj} {es ep} (ho:h.get? d=some o) (hd:o.data=.dict es ep) (hs:Heap.SameBut d h h'):∀(x:PyData) (v:Value) (as:List Addr),fL x=true->Reads h v x as->Reads h' v x as
 | .int _,_,_,_,r=>by cases r;exact .int _ _
 | .str _,_,_,_,r=>by cases r;exact .str _ _
 | .tuple xs,_,_,hx,r=>by
  rw[fL] at hx
  cases r with
  | @tuple a o' vs n _ _ e c q t=>
   have ne:a≠d:=λz=>by
    subst z
    rw[ho] at e
    cases e
    rw[hd] at q
    cases q
   exact .tuple ((hs.2 a ne).trans e) c q (j7 ho hd hs xs _ _ hx t)
 | .none,_,_,h,_=>by simp [fL] at h
 | .bool _,_,_,h,_=>by simp [fL] at h
 | .list _,_,_,h,_=>by simp [fL] at h
 | .dict _,_,_,h,_=>by simp [fL] at h
theorem j7 {h h':Heap} {d:Addr} {o:Obj} {es ep} (ho:h.get? d=some o) (hd:o.data=.dict es ep) (hs:Heap.SameBut d h h'):∀(xs:List PyData) (vs:List Value) (as:List Addr),jN xs=true->ReadsAll h vs xs as->ReadsAll h' vs xs as
 | [],_,_,_,r=>by cases r;exact .nil
 | x::xs,_,_,hx,r=>by
  rw[jN,Zi] at hx
  cases r with
  | cons r1 r2=>exact .cons (uE ho hd hs x _ _ hx.1 r1) (j7 ho hd hs xs _ _ hx.2 r2)
end
mutual
noncomputable def vF (w:World):PyData->Int
 | .int i=>C0 w (.inl i)
 | .str x=>C0 w (.inr x)
 | .tuple xs=>reduceHash (Builtin.Tuple.tupleHashOf (d6 w xs))
 | _=>0
noncomputable def d6 (w:World):List PyData->List Int
 | []=>[]
 | x::xs=>vF w x::d6 w xs
end
mutual
noncomputable def Jf:PyData->Nat
 | .tuple xs=>mQ xs+1
 | _=>1
noncomputable def mQ:List PyData->Nat
 | []=>0
 | x::xs=>Jf x+mQ xs
end
section
variable {prog : Program} {w : World}
noncomputable def PH (prog:Program) (w:World) (m:Nat) (h:Heap) (d:PyData) (v:Value):Prop:=∀(A:Around) (E:Value->Shared->Prop) (s:Shared) (Q:Int->Shared->Prop),s.heap=h->A.units+m<cLine->
 Q (vF w d) {s with toks:=s.toks+Jf d}->wpAny (model prog w) A (pyHash v) Q E s
inductive CA (prog:Program) (w:World) (m:Nat) (h:Heap):List PyData->List Value->Prop
 | nil:CA prog w m h [] []
 | cons {d v ds vs}:PH prog w m h d v->CA prog w m h ds vs->CA prog w m h (d::ds) (v::vs)
theorem xl (xs ys:List PyData):d6 w (xs++ys)=d6 w xs++d6 w ys:=by
 induction xs with
 | nil=>simp [d6]
 | cons x xs ih=>simp [d6,ih]
theorem y7 (xs ys:List PyData):mQ (xs++ys)=mQ xs+mQ ys:=by
 induction xs with
 | nil=>simp [mQ]
 | cons x xs ih=>simp [mQ,ih,Nat.add_assoc]
theorem y8 {m:Nat} {h:Heap} {ds:List PyData} {a:Addr} {o:Obj} {items n} (ho:h.get? a=some o) (hc:o.cls=.type "tuple") (hd:o.data=.seq items n) (hi:CA prog w m h ds items.toList):PH prog w (m+1) h (.tuple ds) (.ref a):=by
 intro A E s Q hh hu hq
 subst hh
 have hT:s.TypeIs (.ref a) "tuple":=⟨o,ho,hc⟩
 have Uc:A.units<cLine:=by omega
 unfold pyHash
 first | unfold pyHashByItsType | skip
 first | refine wpAny_bind (wpAny_cRoomFor_or (.inr Uc) ?_) | skip
 refine wpAny_bind (wpAny_specialOf hT F.slot_tuple_hash.lookup ?_)
 show wpAny _ _ (if (some (Value.builtin "tuple.__hash__")==some Value.none)=true then _ else _) Q E s
 rw[if_neg (by rw[beq_builtin_none];exact YZ)]
 refine wpAny_bind (wpAny_specialOf hT F.slot_tuple_hash.lookup ?_)
 show wpAny _ _ (callSpecialIfBoundUnlessNone? (.ref a) "__hash__" _ >>=_) Q E s
 refine wpAny_bind (wpAny_callSpecialIfBoundUnlessNone?_slot hT F.slot_tuple_hash (wpAny_call_entry F.slot_tuple_hash hT F.entry_tuple_hash ?_ (F.args_tuple_hash_1 _)))
 show wpAny _ _ (Builtin.Tuple.tupleItemsOf (.ref a) >>=_) _ _ s
 refine wpAny_bind (wpAny_tupleItemsOf ho hd ?_)
 refine wpAny_bind ?_
 rw[<-Array.forIn_toList]
 refine wpAny_forIn_list _
  (λrest (b:Array Int) s'=>∃done left,ds=done++left/\CA prog w m s.heap left rest/\b.toList=d6 w done/\s'={s with toks:=s.toks+mQ done})
  _ ?_ ?_ _ _ ⟨[],ds,rfl,hi,rfl,rfl⟩
 ·rintro x rest b s' ⟨done,left,rfl,hl,hb,rfl⟩
  cases hl with
  | @cons k _ RI _ h1 BB=>
   refine wpAny_bind (h1 _ _ _ _ rfl (by show A.units+1+m<cLine;omega) ?_)
   have e1:(b.push (vF w k)).toList=d6 w (done++ [k]):=by rw[xl];simp [hb,d6]
   have e2:s.toks+mQ done+Jf k=s.toks+mQ (done++ [k]):=by rw[y7];simp [mQ,Nat.add_assoc]
   first
    | exact wpAny_pure ⟨done++ [k],RI,by simp,BB,e1,by rw[<-e2]⟩
    | exact wpAny_bind (wpAny_pure (wpAny_pure ⟨done++ [k],RI,by simp,BB,e1,by rw[<-e2]⟩))
 ·rintro b s' ⟨done,left,rfl,hl,hb,rfl⟩
  cases hl
  rw[Zx] at hq
  show wpAny _ _ (retInt (Builtin.Tuple.tupleHashOf b.toList)) _ _ _
  rw[hb]
  refine wpAny_ret_mkInt ?_
  show wpAny _ _ (if (decide (-(2:Int)^63<=Builtin.Tuple.tupleHashOf (d6 w done)) && decide (Builtin.Tuple.tupleHashOf (d6 w done)<2^63))=true then _ else _) Q E _
  rw[vF,Jf] at hq
  unfold reduceHash at hq
  by_cases hr:(decide (-(2:Int)^63<=Builtin.Tuple.tupleHashOf (d6 w done)) && decide (Builtin.Tuple.tupleHashOf (d6 w done)<2^63))=true
  ·rw[if_pos hr]
   rw[if_pos hr] at hq
   exact wpAny_pure (by simpa [Nat.add_assoc] using hq)
  ·rw[if_neg hr]
   rw[if_neg hr] at hq
   exact wpAny_bind (wpAny_rule (wpAny_pure (by simpa [Nat.add_assoc] using hq)))
mutual
theorem Eo {h:Heap}:∀(d:PyData) (v:Value) (as:List Addr),fL d=true->Reads h v d as->PH prog w d.depth h d v
 | .int i,_,_,_,r=>by
  cases r with
  | int _ t=>
   intro A E s Q _ _ hq
   exact(bO prog w).pyHash (k:=.inl i) (jX (k:=.inl i) ⟨t,rfl⟩) hq
 | .str x,_,_,_,r=>by
  cases r with
  | str _ t=>
   intro A E s Q _ _ hq
   exact(bO prog w).pyHash (k:=.inr x) (jX (k:=.inr x) ⟨t,rfl⟩) hq
 | .tuple xs,_,_,hx,r=>by
  rw[fL] at hx
  cases r with
  | tuple e c q t=>exact y8 e c q (vG xs _ _ hx t)
 | .none,_,_,h,_=>by simp [fL] at h
 | .bool _,_,_,h,_=>by simp [fL] at h
 | .list _,_,_,h,_=>by simp [fL] at h
 | .dict _,_,_,h,_=>by simp [fL] at h
theorem vG {h:Heap}:∀(ds:List PyData) (vs:List Value) (as:List Addr),jN ds=true->ReadsAll h vs ds as->CA prog w (PyData.depthAll ds) h ds vs
 | [],_,_,_,r=>by cases r;exact .nil
 | x::xs,_,_,hx,r=>by
  rw[jN,Zi] at hx
  cases r with
  | cons r1 r2=>
   have p1:=Eo x _ _ hx.1 r1
   have p2:=vG xs _ _ hx.2 r2
   have up:∀{m m':Nat} {ds:List PyData} {vs:List Value},m<=m'->CA prog w m h ds vs->CA prog w m' h ds vs:=λl q=>by
    induction q with
    | nil=>exact .nil
    | cons p _ ih=>exact .cons (λA E s Q e u=>p A E s Q e (by omega)) ih
   refine .cons (λA E s Q e u=>p1 A E s Q e ?_) (up ?_ p2)
   ·rw[PyData.depthAll] at u
    omega
   ·rw[PyData.depthAll]
    omega
end
theorem rX {h:Heap} {k:Nat} {a:Addr} {o:Obj} {items n} (ho:h.get? a=some o) (hc:o.cls=.type "tuple") (hd:o.data=.seq items n) (hi:∀v∈items.toList,∀(A:Around) (E:Value->Shared->Prop) (s:Shared) (Q:Bool->Shared->Prop),s.heap=h->Q true s->wpAny (model prog w) A (eqIsQuiet k v) Q E s)
  (A:Around) (E:Value->Shared->Prop) (s:Shared) (Q:Bool->Shared->Prop) (hh:s.heap=h) (hq:Q true s):wpAny (model prog w) A (eqIsQuiet (k+1) (.ref a)) Q E s:=by
 subst hh
 have hT:s.TypeIs (.ref a) "tuple":=⟨o,ho,hc⟩
 unfold eqIsQuiet
 refine wpAny_bind (wpAny_specialOf hT F.slot_tuple_eq.lookup ?_)
 show wpAny _ _ (isInstance (.ref a) (.type "tuple") >>=_) _ _ s
 refine wpAny_bind (wpAny_isInstance hT isSubtype_tuple_tuple ?_)
 simp only[Bool.not_true,Zs,if_false]
 refine wpAny_bind (wpAny_seqItems ho hd ?_)
 refine wpAny_bind ?_
 show wpAny _ _ (forIn items _ _) _ _ s
 rw[<-Array.forIn_toList]
 refine wpAny_forIn_list _ (λrest r s'=>r.1=none/\s'=s/\∀v∈rest,v∈items.toList) _ ?_ ?_ _ _ ⟨rfl,rfl,λ_ h=>h⟩
 ·rintro v rest r s' ⟨hr,rfl,wR⟩
  refine wpAny_bind (hi v (wR v YW) _ _ _ _ rfl ?_)
  simp only[Bool.not_true,Zs,if_false]
  exact wpAny_pure ⟨rfl,rfl,λu Ud=>wR u (YU _ Ud)⟩
 ·rintro⟨r1,r2⟩ s' ⟨hr,rfl,_⟩
  simp only at hr
  subst hr
  exact wpAny_pure hq
mutual
theorem xm {h:Heap}:∀(d:PyData) (v:Value) (as:List Addr) (k:Nat),fL d=true->d.depth<=k->Reads h v d as->∀(A:Around) (E:Value->Shared->Prop) (s:Shared) (Q:Bool->Shared->Prop),s.heap=h->Q true s->wpAny (model prog w) A (eqIsQuiet k v) Q E s
 | .int _,_,_,_,_,_,r=>by
  cases r
  intro A E s Q _ hq
  rw[eqIsQuiet_byValue _ rfl]
  exact wpAny_pure hq
 | .str _,_,_,_,_,_,r=>by
  cases r
  intro A E s Q _ hq
  rw[eqIsQuiet_byValue _ rfl]
  exact wpAny_pure hq
 | .tuple xs,_,_,k,hx,hk,r=>by
  rw[fL] at hx
  rw[PyData.depth] at hk
  cases k with
  | zero=>omega
  | succ k=>
   cases r with
   | tuple e c q t=>exact rX e c q (mR xs _ _ k hx (by omega) t)
 | .none,_,_,_,h,_,_=>by simp [fL] at h
 | .bool _,_,_,_,h,_,_=>by simp [fL] at h
 | .list _,_,_,_,h,_,_=>by simp [fL] at h
 | .dict _,_,_,_,h,_,_=>by simp [fL] at h
theorem mR {h:Heap}:∀(ds:List PyData) (vs:List Value) (as:List Addr) (k:Nat),jN ds=true->PyData.depthAll ds<=k->ReadsAll h vs ds as->∀v∈vs,∀(A:Around) (E:Value->Shared->Prop) (s:Shared) (Q:Bool->Shared->Prop),s.heap=h->Q true s->wpAny (model prog w) A (eqIsQuiet k v) Q E s
 | [],_,_,_,_,_,r=>by
  cases r
  intro v hv
  simp at hv
 | x::xs,_,_,k,hx,hk,r=>by
  rw[jN,Zi] at hx
  rw[PyData.depthAll] at hk
  cases r with
  | cons r1 r2=>
   intro v hv
   rcases List.mem_cons.mp hv with rfl | hv
   ·exact xm x _ _ k hx.1 (by omega) r1
   ·exact mR xs _ _ k hx.2 (by omega) r2 v hv
end
end
end L2
namespace PySem.Sts
open PySem PyProof.Rows
noncomputable def Kp (xs:Array Nat):Prop:=xs.toList.Pairwise (·<·)
noncomputable def TP (L:Bool) (t:SetTable):Prop:=Kp t.place/\t.led=L
end PySem.Sts
namespace PySem.Sts
open PySem PyProof.Rows
section
variable {prog : Program} {w : World} {K : Type} [DecidableEq K] {knd : KeyKind prog w K} {A : Around} {E : Value -> Shared -> Prop} {s : Shared} {L : Bool}
end
end PySem.Sts
namespace PySem.Sts
open PySem PyProof.Rows
section
variable {prog : Program} {w : World} {A : Around} {R : Result -> Shared -> Prop} {I : Addr} {fp wr : List Addr} {G : Array GenState -> Array GenState -> Prop} {n : Nat} {P : Nat -> Value -> Prop} {St : Nat -> Shared -> Prop} {L : Bool}
end
section
variable {prog : Program} {w : World} {A : Around} {E : Value -> Shared -> Prop} {s : Shared}
end
end PySem.Sts
namespace PySem.Sts
open PySem PyProof.Rows
section
variable {prog : Program} {w : World} {A : Around} {E : Value -> Shared -> Prop} {s : Shared}
end
end PySem.Sts
namespace PySem.Sts
open PySem PyProof.Rows
section
variable {prog : Program} {w : World} {A : Around} {E : Value -> Shared -> Prop} {s : Shared}
end
section
variable {prog : Program} {w : World} {A : Around} {E : Value -> Shared -> Prop} {s : Shared}
end
end PySem.Sts
namespace PySem.Sts
open PySem PyProof.Rows
section
variable {prog : Program} {w : World} {A : Around} {E : Value -> Shared -> Prop} {s : Shared}
end
end PySem.Sts
namespace PySem.Sts
open PySem PyProof.Rows
section
variable {prog : Program} {w : World} {A : Around} {E : Value -> Shared -> Prop} {s : Shared}
end
end PySem.Sts
namespace L2
open PySem PySem.Spec PyProof.Rows PySem.W PySem.Sts
section
variable {X : Cx} {P : Program} {w : World} {K : PySem.W.Frag}
end
end L2
namespace L2
open PySem PySem.Spec PyProof.Rows
mutual
noncomputable def toP:Dat->PyData
 | .bV=>.none
 | .bl b=>.bool b
 | .int i=>.int i
 | .str x=>.str x
 | .tup l=>.tuple (toPL l)
 | .lst l=>.list (toPL l)
noncomputable def toPL:List Dat->List PyData
 | []=>[]
 | d::ds=>toP d::toPL ds
end
section
variable {P : Program} {w : World} {H : Hp} {h : Heap}
mutual
theorem y9 (ok:gf P w H h):∀(d:Dat) (v:V) (u:Value),Rep H d v->RelV v u->∃as,Reads h u (toP d) as
 | .bV,v,u,r,q=>by
  rw[Rep] at r
  subst r
  cases (show u=Value.none from q)
  exact⟨_,.none⟩
 | .bl b,v,u,r,q=>by
  rw[Rep] at r
  subst r
  cases (show u=Value.bool b from q)
  exact⟨_,.bool b⟩
 | .int i,v,u,r,q=>by
  rw[Rep] at r
  subst r
  obtain⟨t,rfl⟩:=(show ∃t,u=Value.int i t from q)
  exact⟨_,.int i t⟩
 | .str x,v,u,r,q=>by
  rw[Rep] at r
  subst r
  obtain⟨t,rfl⟩:=(show ∃t,u=Value.str x t from q)
  exact⟨_,.str x t⟩
 | .tup l,v,u,r,q=>by
  rw[Rep] at r
  obtain⟨p,vs,rfl,hp,rl⟩:=r
  cases (show u=Value.ref p from q)
  obtain⟨_,aN,rv,o,h1,h2,n,h3⟩:=(show bQ P w H h p (.tup vs) from ok p _ hp)
  obtain⟨as,ra⟩:=jO ok l vs aN rl rv
  exact⟨as,.tuple h1 h2 h3 (by simpa using ra)⟩
 | .lst l,v,u,r,q=>by
  rw[Rep] at r
  obtain⟨p,vs,rfl,hp,rl⟩:=r
  cases (show u=Value.ref p from q)
  obtain⟨_,aN,n,rv,h1⟩:=(show bQ P w H h p (.lst vs) from ok p _ hp)
  obtain⟨as,ra⟩:=jO ok l vs aN rl rv
  exact⟨p::as,.list h1 rfl rfl (by simpa using ra)⟩
theorem jO (ok:gf P w H h):∀(ds:List Dat) (vs:List V) (us:List Value),bq H ds vs->aV vs us->∃as,ReadsAll h us (toPL ds) as
 | [],vs,us,r,q=>by
  rw[bq] at r
  subst r
  cases q
  exact⟨_,.nil⟩
 | d::ds,vs,us,r,q=>by
  rw[bq] at r
  obtain⟨v,rest,rfl,r1,r2⟩:=r
  cases q with
  | cons q1 q2=>
   obtain⟨a1,h1⟩:=y9 ok d v _ r1 q1
   obtain⟨a2,h2⟩:=jO ok ds rest _ r2 q2
   exact⟨_,.cons h1 h2⟩
end
end
abbrev Rows:=List (Dat×Addr×Int)
abbrev X8:Rows->List (PyData×Addr×Value)->Prop:=Paired λp q=>toP p.1=q.1/\p.2.1=q.2.1/\∃t,q.2.2=Value.int p.2.2 t
section
variable {P : Program} {w : World} {H : Hp} {h : Heap} {a : Addr}
end
section
variable {X : Cx} {P : Program} {w : World} {o i e value : Expr} {pos pos' fW : Pos} {td ty tv : TE}
end
end L2
namespace L2
open PySem PySem.Spec PyProof.Rows PySem.W
section
variable {X : Cx} {x : Str} {Ka : Pos}
end
section
variable {prog : Program} {w : World} {A : Around} {E : Value -> Shared -> Prop} {s : Shared}
end
section
variable {X : Cx} {K : PySem.W.Frag}
end
end L2
namespace L2
open PySem PySem.Spec PyProof.Rows PySem.W
noncomputable def Ep (K:PySem.W.Frag) (a:Addr) (n:Nat):It:=
 ⟨λi H=>∃xs x,aR K H a xs/\xs.length=n/\xs.reverse[i]?=some x,λi H x H'=>H'=H/\∀xs,aR K H a xs->xs.reverse[i]?=some x,λi _=>i=n⟩
theorem za {P:Program} {w:World} {K:PySem.W.Frag} {tg:Expr} (a it:Addr) (n:Nat):Turn P w K tg (Ep K a n) [it] it (λi h=>h.IsRevIter it a ((n:Int) - 1 - (i:Int))) where
 mem:=by simp
 obj:=λi h st b hb=>by
  have e:b=it:=by simpa using hb
  subst e
  obtain⟨o,e,c,d⟩:=st
  exact⟨o,e,λv z=>by rw[d] at z;cases z⟩
 keep:=λi h h' st k=>st.at λo e=>k it (by simp) o e
 item:=by
  intro X hP hw hK hc i pins s σ H E I hf st hg
  subst hP hw hK
  obtain⟨xs,x,hq,hn,hx⟩:=hg
  subst hn
  obtain⟨aN,rv,p,hz⟩:=I.list hq
  have hi:i<xs.length:=by
   have:=(List.getElem?_eq_some_iff.mp hx).1
   rwa [ZP] at this
  have jA:=hx
  rw[List.getElem?_reverse hi] at jA
  obtain⟨u,hu,ru⟩:=rv.get jA
  obtain⟨f0,f1,f2,f3,f4,f5⟩:=hf it (by simp)
  have e:(xs.length:Int) - 1 - (i:Int)=((xs.length - 1 - i:Nat):Int):=by omega
  have X9:=st
  rw[e] at st
  refine wpAny_pyNext_rev_item st p.isList (x:=u) (by simpa using hu) λh' aM sb=>?_
  have I1:Inv X pins σ H {s with heap:=h'}:=I.turned (t':=s.toks) (λb o hb e=>(sb.2 b hb).trans e) f0 f1 f3 f4 f5
  obtain⟨o,e1,c,d⟩:=id aM
  have e2:((xs.length - 1 - i:Nat):Int) - 1=(xs.length:Int) - 1 - ((i+1:Nat):Int):=by omega
  rw[e2] at aM
  exact⟨u,rfl,u3 (s:={s with heap:=h'}) e1 c d (by decide) ⟨x,H,I1,ru,⟨rfl,λys hy=>by rw[I.gj hy hq];exact hx⟩,aM,λb hb=>(hf b hb).1⟩⟩
 done:=by
  intro X hP hw hK hc i pins s σ H E I hf st hg
  subst hP hw hK
  have hg:i=n:=hg
  subst hg
  obtain⟨f0,f1,f2,f3,f4,f5⟩:=hf it (by simp)
  have e:(i:Int) - 1 - (i:Int)= -1:=by omega
  rw[e] at st
  exact wpAny_pyNext_rev_end (I.ok.hd hc) st λh' eb=>⟨rfl,I.turned (t':=s.toks) (λb o hb e=>eb b o hb e) f0 f1 f3 f4 f5⟩
 self:=λ_ _ _ _ _ st h=>wpAny_pyIter_revIter st h
section
variable {X : Cx}
noncomputable def zb (K:PySem.W.Frag) (ta:TA):TI:=λσ H R=>ta σ H λvs H1=>∃a xs,vs=[.ref a]/\aR K H1 a xs/\R (Ep K a xs.length) H1
theorem rY {tg a:Expr} {ta:TA} {p pos:Pos} (hg:Gl X "reversed") (hm:X.mg "reversed"=none) (ha:PA X [a] ta) (hs:starEach [a] X.env=[(false,eval a X.env)]:=by rfl):
  PI X tg (.Call (.Name "reversed" p) [a] [] pos) (zb X.K ta):=by
 intro pins s σ H R I h
 refine Call_ (fc I hg hm rfl (ZY (bR (ha pos pins s σ H _ I h) λus s1 b8=>?_) hs rfl))
 obtain⟨vs,H1,I1,r1,q1⟩:=b8
 obtain⟨a,xs,e,q1,q⟩:=q1
 subst e
 obtain⟨u,rfl,ra⟩:=vals1 r1
 cases ra
 obtain⟨fm,v1,p1,z1⟩:=I1.list q1
 have lv:=v1.length
 refine call_reversed_list p1.isList ?_
 have I2:Inv X pins σ H1 {s1 with heap:=s1.heap.push (revObj a ((fm.toArray.size:Int) - 1))}:=I1.kept (t':=s1.toks) λb o e=>Heap.get?_push_of_some _ e
 have RJ:(s1.heap.push (revObj a ((fm.toArray.size:Int) - 1))).IsRevIter s1.heap.objs.size a ((xs.length:Int) - 1 - ((0:Nat):Int)):=⟨_,Heap.get?_push_size _ rfl,rfl,by
  have e:(fm.toArray.size:Int) - 1=(xs.length:Int) - 1 - ((0:Nat):Int):=by rw[YR];omega
  rw[e]
  rfl⟩
 refine wpAny_pyIter_revIter RJ ?_
 refine⟨s1.heap.objs.size,[s1.heap.objs.size],_,_,H1,rfl,I2,za a s1.heap.objs.size xs.length,RJ,λc hc=>?_,q⟩
 have vh:s1.heap.objs.size<=c:=Nat.le_of_eq (List.mem_singleton.mp hc).symm
 exact I1.qM vh (I1.bE.fresh vh)
theorem qm {K:PySem.W.Frag} {tg a:Expr} {ta:TA} {p pos:Pos} (hg:Gl X "reversed") (hm:X.mg "reversed"=none) (ha:PA X [a] ta) (n1:noStar a=true:=by rfl) (hK:X.K=K:=by rfl):
  PI X tg (.Call (.Name "reversed" p) [a] [] pos) (zb K ta):=by subst hK;exact rY hg hm ha (by rw[se n1];rfl)
end
theorem BC {K:PySem.W.Frag} {a:Addr} {xs:List V} {Ok:Hp->Prop} (h:∀H,Ok H->aR K H a xs):Src (Ep K a xs.length) Ok xs.length (λi x H H3=>H3=H/\xs.reverse[i]?=some x) where
 go:=λi H hi ok=>⟨xs,xs.reverse[i]'(by rw[ZP];exact hi),h H ok,rfl,YM _⟩
 tL:=λi H x H3 hi ok ⟨e,e1⟩=>⟨e,e1 xs (h H ok)⟩
 stop:=λH ok=>rfl
end L2
namespace KS
open PySem PySem.W PyProof.Rows
section
variable {prog : Program} {w : World} {A : Around} {E : Value -> Shared -> Prop} {s : Shared}
end
end KS
namespace L2
open PySem PySem.Spec PyProof.Rows PySem.W
section
variable {X : Cx} {K : PySem.W.Frag}
end
end L2
namespace L2
open PySem PySem.Spec PyProof.Rows PySem.W
section
variable {X : Cx} {K : PySem.W.Frag}
end
end L2
namespace L2
open PySem PySem.Spec PyProof.Rows PySem.W
section
variable {X : Cx} {K : PySem.W.Frag}
end
end L2
namespace L2
open PySem PySem.Spec PyProof.Rows
structure mS (base:Heap) (mg:Str->Option Value) (tc tp:Addr):Prop where
 blt:base.BuiltinsAt mg tp
 code:PySem.W.CodeHd base tc tp
theorem law_callT {P:Program} {tp tc:Addr} {dsc:Array Value} {w:World} {K:PySem.W.Frag} {mg mb:Str->Option Value} {CX:h8} {k:Nat} {fa a:Addr} {fd:FuncData} {x:Str} {sp:Sp} {s₁:Shared} {vs:List Value} {ns:List Int}
  (KX:K.In s₁.heap) (Jg:s₁.heap.Ns mainGlobals mg) (hb:s₁.heap.Ns builtinsNs mb) (Kq:∀x:Str,x≠"__name__"->mb x=bootBuiltins x) (Er:s₁.heap.NoLimit) (hg:s₁.gens=#[])
  (ha:s₁.heap.get? a=some {cls:=.type "list",data:=.seq vs.toArray}) (hi:IntsAre vs ns) (hl:ns.length<=sizeLine) (hr:cw k callerA)
  (j8:s₁.heap.get? tp=some (PySem.W.tabObj #[])) (RK:PySem.W.CodeHd s₁.heap tc tp) (Ue:K.lookup tp=none) (BD:s₁.heap.BuiltinsAt mg tp)
  (F:∀base:Heap,K.In base->base.Ns mainGlobals mg->mS base mg tc tp->dI P w K mg base CX k fa fd [x] sp) (zc:∀(s:Shared) (u:Value),BindsTo s fd ⟨[u],[]⟩ [(x,u)])
  (Au:∀H:Hp,H tp=some (.pJ dsc)->aR K H a (ns.map V.int)->sp [.ref a] H (λv _=>v=.bl true) λ_ _ _=>False)
  (Kr:∀H e s',CX [] H s₁ (λ_ _ _=>False) e s'->False):
  codeAny (model P w) callerA (.call (.ref fa) ⟨[.ref a],[]⟩) (λr s'=>r=.ok (.ret (.bool true))/\OldK s₁.heap s'.heap/\s'.os=s₁.os/\AllBare s'.gens) s₁:=by
 have rv:=oX hi
 have Ks:=hi.length
 have RL:tp≠a:=λz=>by rw[z,ha] at j8;cases j8
 have core:∀H:Hp,(∀b,b≠tp->H b=none\/∃o xs,H b=some (.qF o (.lst xs)))->H tp=some (.pJ dsc)->aR K H a (ns.map V.int)->gf P w H s₁.heap->(∀b,H b≠none->b=a\/b=tp)->(H a≠none->K.lookup a=none)->
   codeAny (model P w) callerA (.call (.ref fa) ⟨[.ref a],[]⟩) (λr s'=>r=.ok (.ret (.bool true))/\OldK s₁.heap s'.heap/\s'.os=s₁.os/\AllBare s'.gens) s₁:=by
  intro H hO hT hS bE hA hK
  have qo:∀{b:Addr} {o:Obj},s₁.heap.get? b=some o->H b=none->(lQ s₁.heap H).get? b=some o:=λe n=>xM e n
  have F7:∀{b:Addr} {o:Obj} {es:Array DictEntry} {ep:Nat},s₁.heap.get? b=some o->o.data=.dict es ep->H b=none:=λ{b o es ep} e d=>by
   cases q:H b with
   | none=>rfl
   | some u=>
    rcases hA b (by rw[q];simp) with e' | e'
    ·subst e'
     rw[ha] at e;cases e
     have d':Data.seq vs.toArray _=Data.dict es ep:=d
     cases d'
    ·subst e'
     rw[j8] at e;cases e
     cases d
  have Jh:∀{b:Addr} {m:Str->Option Value},s₁.heap.Ns b m->(lQ s₁.heap H).Ns b m:=λ{b m} ⟨o,es,ep,e,d,r⟩=>⟨o,es,ep,qo e (F7 e d),d,r⟩
  have RM:K.In (lQ s₁.heap H):=λb o e=>qo (KX b o e) (by
   cases q:H b with
   | none=>rfl
   | some u=>
    rcases hA b (by rw[q];simp) with e' | e'
    ·subst e'
     rw[hK (by rw[q];simp)] at e;cases e
    ·subst e'
     rw[Ue] at e;cases e)
  have hM:Mod K mg (lQ s₁.heap H):=⟨RM,Jh Jg,⟨mb,Jh hb,Kq⟩,let ⟨mc,h1,h2⟩:=Er;⟨mc,Jh h1,h2⟩⟩
  have e0:qR P w K mg (lQ s₁.heap H) callerA [] s₁ H:=⟨rfl,hM,λb o e=>AI e,Nat.le_of_eq (wo _ _),trivial,λb hb=>absurd (show b∈([]:List Addr) from hb) (by simp),bE,.of_eq hg⟩
  have Ug:mS (lQ s₁.heap H) mg tc tp:=by
   have look:∀{b:Addr} {o:Obj},s₁.heap.get? b=some o->b≠tp->o.cls≠.type "list"->(lQ s₁.heap H).get? b=some o:=λ{b o} e n c=>qo e (by
    cases q:H b with
    | none=>rfl
    | some u=>
     rcases hA b (by rw[q];simp) with e' | e'
     ·subst e'
      rw[ha] at e;cases e
      exact absurd rfl c
     ·exact absurd e' n)
   obtain⟨bm,o,b1,b2,b3,b4,b5,b6,b7⟩:=BD
   obtain⟨o',Gv,file,tf,flags,tg,Uh,text,tt,c1,c2,c3⟩:=RK
   exact⟨⟨bm,o,b1,b2,b3,b4,look b5 b4 (λz=>by rw[b6] at z;injection z with z;exact absurd z (by decide)),b6,b7⟩,⟨o',Gv,file,tf,flags,tg,Uh,text,tt,look c1 c3.2.2.2.2.2.2.2 (λz=>by rw[c2] at z;injection z with z;exact absurd z (by decide)),c2,c3⟩⟩
  refine codeAny_mono ((F _ RM (Jh Jg) Ug).run callerA [] s₁ H ⟨[.ref a],[]⟩ [.ref a] [.ref a] _ _ hr e0 (zc s₁ (.ref a)) (.cons rfl .nil) (Au H hT hS)) λr s' h=>?_
  cases r with
  | error e=>exact(Kr H e s' h).elim
  | ok fl=>
   cases fl with
   | next=>exact False.elim h
   | brk=>exact False.elim h
   | cont=>exact False.elim h
   | ret u=>
    obtain⟨v,H',os,bare,un,GV,r',q⟩:=h
    have q':v=.bl true:=q
    subst q'
    obtain rfl:u=Value.bool true:=r'
    have fin:∀b o,b≠tp->s₁.heap.get? b=some o->s'.heap.get? b=some o:=λb o hb e=>by
     cases q:H b with
     | none=>exact un.keep b o e q (by intro z;exact absurd (show b∈([]:List Addr) from z) (by simp)) (by simp)
     | some u=>
      rcases hO b hb with z | ⟨ob,xs,z⟩
      ·rw[q] at z;cases z
      ·have z2:=un.lO b ob _ z
       obtain⟨e1,_⟩:=bE b _ z
       obtain⟨e2,_⟩:=GV b _ z2
       rw[e] at e1;cases e1
       exact e2
    obtain⟨more,hm⟩:=un.lP tp _ hT
    obtain⟨mo,e7,_⟩:=GV tp _ hm
    have GW:s'.heap.get? tp=some {cls:=.none,data:=.fields (#[]++mo)}:=by rw[Array.empty_append];exact e7
    refine⟨rfl,⟨λb o e=>?_,λb o e=>?_⟩,os,bare⟩
    ·by_cases hb:b=tp
     ·subst hb
      rw[j8] at e
      cases e
      exact .inr (.inl ⟨(RK.tab j8).isCodeTable,rfl,_,mo,rfl,GW⟩)
     ·exact .inl (fin b o hb e)
    ·by_cases hb:b=tp
     ·subst hb
      exact⟨_,GW⟩
     ·exact⟨o,fin b o hb e⟩
 cases hk:K.lookup a with
 | some o=>
  have e:=KX a o hk
  rw[ha] at e
  cases e
  refine core (λb=>if b=tp then some (.pJ dsc) else none) (λb hb=>.inl (if_neg hb)) (if_pos rfl) (.inr ⟨_,vs.toArray,_,hk,rfl,rfl,rfl,by rw[YR,Ks];exact hl,by simpa using rv⟩) (λb u z=>?_) (λb z=>?_) λz=>absurd (if_neg (Ne.symm RL)) z
  ·by_cases hb:b=tp
   ·have z':=(if_pos hb).symm.trans z
    cases z'
    subst hb
    exact⟨#[],j8,.inl rfl⟩
   ·have z':=(if_neg hb).symm.trans z
    cases z'
  ·by_cases hb:b=tp
   ·exact .inr hb
   ·exact absurd (if_neg hb) z
 | none=>
  refine core (λb=>if b=tp then some (.pJ dsc) else if b=a then some (.qF {cls:=.type "list",data:=.seq vs.toArray} (.lst (ns.map V.int))) else none) (λb hb=>?_) (if_pos rfl) (.inl (.inr ⟨{cls:=.type "list",data:=.seq vs.toArray},(if_neg (Ne.symm RL)).trans (if_pos rfl)⟩)) (λb u z=>?_) (λb z=>?_) λ_=>hk
  ·by_cases BE:b=a
   ·exact .inr ⟨_,_,(if_neg hb).trans (if_pos BE)⟩
   ·exact .inl ((if_neg hb).trans (if_neg BE))
  ·by_cases hb:b=tp
   ·have z':=(if_pos hb).symm.trans z
    cases z'
    subst hb
    exact⟨#[],j8,.inl rfl⟩
   ·by_cases BE:b=a
    ·have z':=((if_neg hb).trans (if_pos BE)).symm.trans z
     cases z'
     subst BE
     exact⟨ha,by rw[YL];exact hl,vs,_,rv,ha⟩
    ·have z':=((if_neg hb).trans (if_neg BE)).symm.trans z
     cases z'
  ·by_cases hb:b=tp
   ·exact .inr hb
   ·by_cases BE:b=a
    ·exact .inl BE
    ·exact absurd ((if_neg hb).trans (if_neg BE)) z
theorem zd {tp tc:Addr} {dsc:Array Value} {l:PySem.W.OpenLaw} {n k:Nat} {q:Program} {loose:List Str} {XP:(Str->Option Value)->Heap->Prop} {YP:World->Heap->Prop} {d:DefRec} {K:Params->PySem.W.Frag} {CX:World->h8} {sp:World->Sp} {x:Str}
  (hn:l.most=some n) (IL:n<=sizeLine) (Gg:d.params.defaults=[]) (hr:cw k callerA)
  (hY:∀(w:World) (h:Heap),YP w h->(K w.params).In h)
  (Kt:∀(w:World) (h:Heap),YP w h->h.get? tp=some (PySem.W.tabObj #[])/\PySem.W.CodeHd h tc tp/\(K w.params).lookup tp=none)
  (F:∀(w:World) (mg:Str->Option Value) (fa:Addr) (h:Heap),(K w.params).In h->h.Ns mainGlobals mg->mg d.name=some (.ref fa)->
   ∃fd:FuncData,(∀(s:Shared) (u:Value),BindsTo s fd ⟨[u],[]⟩ [(x,u)])/\
    ∀base:Heap,(K w.params).In base->base.Ns mainGlobals mg->mS base mg tc tp->dI l.prog w (K w.params) mg base (CX w) k fa fd [x] (sp w))
  (Au:∀(w:World) (H:Hp) (a:Addr) (ns:List Int),ns.length<=n->H tp=some (.pJ dsc)->aR (K w.params) H a (ns.map V.int)->sp w [.ref a] H (λv _=>v=.bl true) λ_ _ _=>False)
  (Kr:∀(w:World) (H:Hp) (s:Shared) (e:Value) (s':Shared),CX w [] H s (λ_ _ _=>False) e s'->False):
  PySem.W.WalkO q loose XP YP l.row.toRowW d [] (λf vs=>PySem.call f vs):=by
 refine Aw.qZ hn Gg λw s₀ s₁ mg mb fa o pm cd doc a vs ns G Y ho hd qL Gh DF hints hlen hg=>?_
 have KX:=hY w _ Y
 obtain⟨fd,hb,hF⟩:=F w mg fa _ KX G.T.g Gh
 obtain⟨t1,t2,t3⟩:=Kt w _ Y
 have BD:s₁.heap.BuiltinsAt mg tp:=by
  obtain⟨bm,ob,b1,b2,b3,b4,b5,b6⟩:=G.T.bmain
  refine⟨bm,ob,b1,b2,λq=>?_,λq=>?_,b3,b4,b5,b6⟩
  ·obtain⟨o,es,ep,e,hd,_⟩:=G.T.g
   rw[q,e] at b3;cases b3;rw[hd] at b6;cases b6
  ·rw[q,t1] at b3;cases b3;cases b4
 exact law_callT KX G.T.g G.T.b G.T.builtins G.T.nolimit hg DF hints (Y2 hlen IL) hr t1 t2 t3 BD hF hb (λH hO hS=>Au w H a ns hlen hO hS) λH e s'=>Kr w H s₁ e s'
end L2
namespace L2
open PySem PySem.Spec PyProof.Rows
structure i7 (P:Program) (w:World) (K:PySem.W.Frag) (mg:Str->Option Value) (base:Heap) (CX:h8) (k:Nat) (C:Addr) (m:Str) (ps:List Str) (sp:Sp):Prop where
 ex:∃f fd,xY K C m f/\dI P w K mg base CX k f fd ps sp/\Binds K fd ps []
section
variable {X : Cx} {CX : h8} {k : Nat} {C : Addr} {m : Str} {ps : List Str} {sp : Sp} {E : XK} {e o : Expr} {es : List Expr} {ta : TE} {t : TA} {pos apos : Pos} {pl : Sem Bool}
theorem CB (M:i7 X.prog X.w X.K X.mg X.base CX k C m ps sp) (c:wH X.K C) (he:PE X o ta) (hr:cw k X.A) (hx:dR CX X E) (ha:PA X (e::es) t)
  (hst:starEach (e::es) X.env=(false,eval e X.env)::starEach es X.env:=by rfl) (hpl:(backTo pos (starEach es X.env)).any (·.1)=false:=by rfl)
  (ht:eval (.Call (.Attribute o m apos) (e::es) [] pos) X.env=(do
   let ov <-eval o X.env
   standAt apos.atName
   let (f,first) <-holding [ov] (getMethod ov m pl)
   callWith pos f first (backTo pos (starEach (e::es) X.env)) (backToKw pos (keywordEach [] X.env))):=by rfl):
  PE X (.Call (.Attribute o m apos) (e::es) [] pos) (jV C m sp [] E ta t):=by
 obtain⟨f,fd,hm,F,hb⟩:=M.ex
 exact AV he c hm F hr hb .nil hx ha hst hpl ht
theorem ze (M:i7 X.prog X.w X.K X.mg X.base CX k C m ps sp) (c:wH X.K C) (he:PE X o ta) (hr:cw k X.A) (hx:dR CX X E)
  (ht:eval (.Call (.Attribute o m apos) [] [] pos) X.env=(do
   let ov <-eval o X.env
   standAt apos.atName
   let (f,first) <-holding [ov] (getMethod ov m pl)
   callWith pos f first (backTo pos (starEach [] X.env)) (backToKw pos (keywordEach [] X.env))):=by rfl):
  PE X (.Call (.Attribute o m apos) [] [] pos) (jV C m sp [] E ta tNil):=by
 obtain⟨f,fd,hm,F,hb⟩:=M.ex
 exact x8 he c hm F hr hb .nil hx ht
end
structure Ji (K:PySem.W.Frag) (C:Addr) (m qual:Str) (st:Stmt):Prop where
 ex:∃f fd,tM K m qual st f fd/\xY K C m f
theorem Ji.dZ {P:Program} {w:World} {K:PySem.W.Frag} {mg:Str->Option Value} {base:Heap} {CX:h8} {m qual:Str} {st:Stmt} {C:Addr} {ps:List Str} {k:Nat} {sp:Sp} (D:Ji K C m qual st)
  (hb:∀(kV doc pm:Value) (an:Option Addr) (b9 ct:Value) (us:List Value),us.length=ps.length->bindArgs (PySem.W.fnOf m qual (aF st) (aD st) (ab st) .none kV doc pm an b9 ct) ⟨us,[]⟩=pure (ps.zip us))
  (h:∀f fd,tM K m qual st f fd->dI P w K mg base CX k f fd ps sp):i7 P w K mg base CX k C m ps sp:=by
 obtain⟨f,fd,F,hm⟩:=D.ex
 exact⟨f,fd,hm,h f fd F,F.binds hb⟩
end L2
namespace L2
open PySem PySem.Spec PyProof.Rows PySem.W
abbrev gW (mp:Pos):Arguments:={posonlyargs:=[],args:=[{arg:="members",annotation:=none,pos:=mp}],vararg:=none,kwonlyargs:=[],kw_defaults:=[],kwarg:=none,defaults:=[]}
abbrev fG (p2 p3 p4 p5 p6 p7 p8:Pos):Expr:=.Call (.Name "len" p2) [.Subscript (.Name "reach" p3) (.Subscript (.Name "members" p4) (.Constant (.int 0) 0 p5) p6) p7] [] p8
abbrev cL:Scope:={kind:=.function,names:=[(Str.ofString "members",.local),(Str.ofString "reach",.free),(Str.ofString "len",.globalImplicit)],isGenerator:=false,isCoroutine:=false,more:=[]}
section
variable {prog : Program} {w : World} {A : Around} {s : Shared}
theorem zf {mg mb:Str->Option Value} {qual:Str} {mp p2 p3 p4 p5 p6 p7 p8:Pos} {BF:List (Str×Addr)} {pm CC:Value} {f c1 cell ra b d:Addr} {rs ms:Array Value} {i:Int} {t0:Tok} {kvs:List (Key×Value)} {Q:Value->Shared->Prop} {E:Value->Shared->Prop}
  (hf:s.heap.get? f=some (kla_obj "<lambda>" qual (gW mp) (fG p2 p3 p4 p5 p6 p7 p8) cL BF pm c1 CC)) (qL:s.heap.CodeRec (.ref c1) qual) (GX:A.depth<recursionLimit) (Er:s.heap.NoLimit)
  (hg:s.heap.Ns mainGlobals mg) (hlen:mg "len"=none) (hb:s.heap.Ns builtinsNs mb) (Kq:∀x:Str,x≠"__name__"->mb x=bootBuiltins x)
  (DW:BF.lookup (Str.ofString "reach")=some cell) (oM:s.heap.IsCell cell (some (.ref ra))) (Jj:s.heap.IsList ra rs) (Ui:s.heap.IsList b ms) (h0:ms[0]?=some (.int i t0)) (Ke:0<=i) (hi:i<2^63)
  (Ku:rs[i.toNat]?=some (.ref d)) (hd:(d==sysModules)=false) (dd:s.heap.DictOf (bO prog w) d kvs) (DC:(kvs.length:Int)<2^63)
  (h:∀h' tk t,(∀x o,s.heap.get? x=some o->h'.get? x=some o)->Q (.int kvs.length t) {s with heap:=h',toks:=tk}):
  wpAny (model prog w) A (call (.ref f) [.ref b]) Q E s:=by
 refine wpAny_call (kla_callFunE GX hf rfl rfl rfl rfl qL ?_)
 have zc:bindArgs (kla_fn "<lambda>" qual (gW mp) (fG p2 p3 p4 p5 p6 p7 p8) cL BF pm (.ref c1) CC) ⟨[.ref b],[]⟩=pure [(Str.ofString "members",.ref b)]:=rfl
 rw[zc]
 have Uj:∀x∈cL.names,x.2≠NameKind.cell:=by decide +kernel
 have J0:∀x∈[(Str.ofString "members",Value.ref b)],cL.names.lookup x.1=some NameKind.local:=λx hx=>by rw[List.mem_singleton.mp hx];rfl
 refine wpAny_pure (wpAny_newFunctionEnv Uj J0 (λh₁ Jg RN=>⟨Er.fresh _ RN,?_⟩) rfl)
 have hk:∀x o,s.heap.get? x=some o->h₁.get? x=some o:=λx o e=>RN.extBut x o (YT (Heap.lt_size e)) (Heap.get?_push_of_some _ e)
 show codeAny _ _ (.expr (fG p2 p3 p4 p5 p6 p7 p8) (envX qual cL s.heap.objs.size f (.ref c1) BF)) _ _
 refine kla_codeExpr ?_
 refine wpAny_Call_Name_kw (Calls.Name_function_global rfl rfl (Calls.loadGlobal_builtin (hg.keeps hk) hlen (hb.keeps hk) ((Kq _ (by decide)).trans (show bootBuiltins "len"=some (.builtin "len") from rfl)) ?_) (by decide))
 refine PyProof.Rows.callWith_builtin1 ?_
 refine Calls.spliced_cons (Subscript_ (wpAny_Name (wpAny_loadName_free rfl rfl DW (oM.keeps hk) ?_)))
 refine Subscript_ (wpAny_Name (wpAny_loadName_local rfl rfl Jg (v:=.ref b) rfl (wpAny_Constant_int ?_)))
 obtain⟨om,m1,m2,m3⟩:=Ui
 obtain⟨orr,r1,r2,r3⟩:=Jj
 refine item_listR (s:={s with heap:=h₁,toks:=_}) (l:=b) (items:=ms) ⟨om,hk _ _ m1,m2,m3⟩ (by decide) (by decide) (x:=.int i t0) h0 ?_
 refine item_listR (s:={s with heap:=h₁,toks:=_}) (l:=ra) (items:=rs) ⟨orr,hk _ _ r1,r2,r3⟩ Ke hi (x:=.ref d) Ku (Calls.spliced_nil ?_)
 obtain⟨o,es,ep,e1,e2⟩:=dd
 exact call_len_dict hd (show(Shared.mk _ _ _ _ _).heap.DictOf (bO prog w) d kvs from⟨o,es,ep,hk _ _ e1,e2⟩) DC (h _ _ _ hk)
end
noncomputable def zg (tp:Addr) (dsc:Array Value) (i:Nat) (te:TE):TE:=λσ H Q=>te σ H λv H1=>∃(a:Addr) (bs:List Addr) (key:Addr->Int) (ra:Addr) (rs:List V),v=.ref a/\H1 a=some (.lst (List.map V.ref bs))/\bs.length<64/\σ[i]?=some (some (.ref ra))/\H1 ra=some (.lst rs)/\H1 tp=some (.pJ dsc)/\
 (∀b∈bs,∃j xs d kvs,H1 b=some (.lst (.int j::xs))/\0<=j/\j<1000000/\rs[j.toNat]?=some (.ref d)/\H1 d=some (.dK kvs)/\key b=(kvs.length:Int))/\
 ∀p cs H2,ar H1 H2->H1 p=none->H2 p=some (.lst (List.map V.ref cs))->cs.Perm bs->cs.Pairwise (λb c=>key b<=key c)->Q (.ref p) H2
noncomputable def Az:Value->Addr
 | .ref a=>a
 | _=>0
theorem pj:∀{bs:List Addr} {aN:List Value},aV (bs.map V.ref) aN->aN=bs.map Value.ref
 | [],_,.nil=>rfl
 | _::bs,_,.cons r t=>by rw[pj (bs:=bs) t,show _=Value.ref _ from r];rfl
section
variable {X : Cx}
theorem zh {i k:Nat} {tc tp:Addr} {dsc:Array Value} {t0:Tok} {e:Expr} {te:TE} {p1 pos kp lp mp p2 p3 p4 p5 p6 p7 p8:Pos} (hg:Gl X "sorted") (hm:X.mg "sorted"=none) (hl:X.mg "len"=none) (hB:mS X.base X.mg tc tp)
  (CD:X.env.code=.ref tc) (hr:cw k X.A) (GY:dsc=#[rawInt lp.line,rawInt lp.col,.str (X.env.qual++"<lambda>") t0]) (he:PE X e te) (hN:X.N[i]?=some "reach":=by rfl) (hv:X.env.kindOf "reach"=some .cell:=by rfl) (n1:noStar e=true:=by rfl):
  PE X (.Call (.Name "sorted" p1) [e] [⟨some "key",.Lambda (gW mp) (fG p2 p3 p4 p5 p6 p7 p8) cL lp,kp⟩] pos) (zg tp dsc i te):=by
 intro pins s σ H Q I h
 refine wpAny_Call_Name_kw (fc I hg hm (u:=.builtin "sorted") rfl ?_ (by decide) (by decide))
 refine PyProof.Rows.callWith_kw (e:=e) (rest:=[]) ?_ (by rw[se n1];rfl) (by rw[se n1];rfl) rfl rfl
 rw[se n1]
 show wpAny _ _ (spliced [(false,eval e X.env)]) _ _ s
 refine Calls.spliced_cons (bR (he pins s σ H _ I h) λu s1 ⟨x,H1,I1,r1,q1⟩=>Calls.spliced_nil ?_)
 obtain⟨a,bs,key,ra,rs,rfl,ha,Eb,eσ,Jj,j8,GQ,q⟩:=q1
 cases r1
 obtain⟨cell,ec⟩:=I1.ok.has "reach" (.inl hv)
 obtain⟨cl,RO,c1,c2,c3⟩:=eA (env:=X.env) (scope:=cL) (λn hn=>by
  have:n="reach":=by
   simp only[List.mem_cons,Prod.mk.injEq,List.not_mem_nil,or_false] at hn
   rcases hn with ⟨_,z⟩ | ⟨z,_⟩ | ⟨_,z⟩
   ·cases z
   ·exact z
   ·cases z
  rw[this]
  exact⟨cell,ec⟩)
 have DW:cl.lookup (Str.ofString "reach")=some cell:=by
  obtain⟨c,ee⟩:=c2 "reach" (.tail _ (.head _))
  have:=c1 _ _ ee
  rw[ec] at this
  cases this
  exact ee
 have mk:∀R:Value->Shared->Prop,(∀f c1 pm CC H2 s2,Inv X pins σ H2 s2->ar H1 H2->s2.heap.get? f=some (kla_obj "<lambda>" (X.env.qual++"<lambda>") (gW mp) (fG p2 p3 p4 p5 p6 p7 p8) cL cl pm c1 CC)->s2.heap.CodeRec (.ref c1) (X.env.qual++"<lambda>")->R (.ref f) s2)->
   wpAny (model X.prog X.w) X.A (makeFunction "<lambda>" (X.env.qual++"<lambda>") (gW mp) (.expr (fG p2 p3 p4 p5 p6 p7 p8)) cL X.env [] [] [] lp lp.line) R X.xe s1:=by
  intro R hR
  obtain⟨mo,e1,e2⟩:=I1.bE tp _ j8
  have Kv:=I1.mod.glob.keeps I1.bk
  have hC:=hB.code.keeps I1.bk
  have RP:=hB.blt.keeps I1.bk
  rcases e2 with rfl | ⟨l,c,c',qn,t,f1,rfl,f3,f4⟩
  ·refine kla_makeFunction (mg:=X.mg) (c:=tc) (P:=tp) RO I1.ok.glob Kv CD hC e1 trivial rfl (λz=>?_) RP λc' CC h' tk hx vh en Kw Jk=>?_
   ·obtain⟨o,es,ep,ee,hd,_⟩:=Kv
    rw[z,e1] at ee;cases ee;cases hd
   have Jk:h'.get? tp=some (tabObj #[rawInt lp.line,rawInt lp.col,.ref c']):=Jk
   have nc:H1 c'=none:=I1.bE.fresh vh
   have Yb:tp≠c':=λz=>by rw[z,nc] at j8;cases j8
   have kk:∀b o,b≠tp->s1.heap.get? b=some o->(h'.push (kla_obj "<lambda>" (X.env.qual++"<lambda>") (gW mp) (fG p2 p3 p4 p5 p6 p7 p8) cL cl ((X.mg "__name__").getD .none) c' CC)).get? b=some o:=λb o hb ee=>Heap.get?_push_of_some _ (hx b o hb ee)
   obtain⟨RQ,oc,vs,t2,g1,g2,g3,g4⟩:=Kw
   cases g1
   refine hR _ c' _ _ (upd H1 c' (.own tp)) _ (I1.un (t':=tk) ⟨λb o ee n _ _=>kk b o (λz=>by rw[z,j8] at n;cases n) ee,λb o ee n _ _=>⟨o.slots,kk b o (λz=>by rw[z,j8] at n;cases n) ee⟩,λb o ee n _=>?_,λb o ee _=>?_,λb xs ee=>?_,λb o u ee=>?_,λb ps ee=>⟨#[],?_⟩⟩ λb o ee=>?_) (λb o ee=>?_) (Heap.get?_push_size _ rfl) ⟨c',oc,vs,t2,rfl,Heap.get?_push_of_some _ g2,g3,g4⟩
   ·rw[ax (YT (YY (Heap.lt_size ee) vh))];exact n
   ·by_cases hb:b=tp
    ·subst hb;exact⟨_,Heap.get?_push_of_some _ Jk⟩
    ·exact⟨o,kk b o hb ee⟩
   ·rw[ax (ba ee nc)];exact ee
   ·rw[ax (ba ee nc)];exact ee
   ·rw[ax (ba ee nc),ee,Array.append_empty]
   ·by_cases hb:b=c'
    ·subst hb
     rw[ag] at ee
     cases ee
     exact⟨oc,Heap.get?_push_of_some _ g2⟩
    ·rw[ax hb] at ee
     by_cases RS:b=tp
     ·subst RS
      rw[j8] at ee
      cases ee
      exact⟨_,Heap.get?_push_of_some _ Jk,.inr ⟨_,_,c',_,_,GY,rfl,ag,c',oc,vs,t2,rfl,Heap.get?_push_of_some _ g2,g3,g4⟩⟩
     ·refine(I1.bE b o ee).nX (λx u jA e3=>kk x u (λz=>?_) e3) (λx e3=>by rw[ax (ba e3 nc)];exact e3) λx xs e3=>by rw[ax (ba e3 nc)];exact e3
      rcases jA with jA | jA
      ·exact RS (jA.symm.trans z)
      ·rw[z,j8] at jA;cases jA
   ·rw[ax (ba ee nc)];exact ee
  ·rw[GY] at f1
   have f1:=congrArg Array.toList f1
   simp only[List.cons.injEq,and_true] at f1
   obtain⟨f1,f2,f5⟩:=f1
   injection f5 with f5 _
   subst f1 f2 f5
   have ht:TriplesOk [rawInt lp.line,rawInt lp.col,Value.ref c']:=by simp [TriplesOk,rawInt]
   have hf:codeAmong lp [rawInt lp.line,rawInt lp.col,Value.ref c']=some (.ref c'):=by simp [codeAmong,rawInt]
   refine kla_makeFunctionHit (mg:=X.mg) (c:=tc) (P:=tp) RO I1.ok.glob Kv CD hC e1 ht hf RP λCC h' tk hk hsz=>?_
   obtain⟨RQ,oc,vs,t2,g1,g2,g3,g4⟩:=f4
   cases g1
   exact hR _ c' _ _ H1 _ (I1.kept (t':=tk) λb o ee=>Heap.get?_push_of_some _ (hk b o ee)) (ar.refl _) (Heap.get?_push_size _ rfl) ⟨c',oc,vs,t2,rfl,Heap.get?_push_of_some _ (hk _ _ g2),g3,g4⟩
 refine PyProof.Rows.kws_cons (kla_eval rfl (mk _ λf c' pm CC H2 s2 I2 sm hf qL=>PyProof.Rows.kws_nil ?_))
 show wpAny _ _ (call (.builtin "sorted") [.ref a] [(Str.ofString "key",.ref f)]) _ _ _
 obtain⟨m2,Es,Av⟩:=I2.loc
 obtain⟨aN,n,rv,eo,hz⟩:=I2.lst (sm _ _ ha)
 have Kx:=pj rv
 subst Kx
 have oM:s2.heap.IsCell cell (some (.ref ra)):=by
  obtain⟨u,ru,lu⟩:=Av i "reach" (.ref ra) hN eσ (.inr (.inl hv))
  cases ru
  rcases lu with ⟨hk,_⟩ | ⟨_,c,e1,e2⟩
  ·rw[hv] at hk;cases hk
  ·rw[ec] at e1;cases e1;exact e2
 have nL:∀{b:Addr} {u:HO},H2 b=some u->b≠X.env.locals:=λe z=>by rw[z,I2.free] at e;cases e
 have dL:∀{b:Addr} {o:Obj},s2.heap.get? b=some o->(∀es ep,o.data≠.dict es ep)->b≠X.env.locals:=λe hd z=>by
  obtain⟨o',es,ep,e',FO,_⟩:=Es
  rw[z,e'] at e;cases e;exact hd es ep FO
 refine ksk_sorted (h₀:=Aw.pW s2.heap) (L:=X.env.locals) (m:=m2) (news:=Aw.ledger s2.heap X.env.locals X.env.locals) (kz:=bs.map key) (vs:=bs.map Value.ref) (f:=.ref f) (b:=false) (Aw.DG Es)
  (λp hp=>by obtain⟨x,o⟩:=p;obtain⟨n1,_,ee⟩:=Aw.fi.mp hp;exact⟨ee,n1,Aw.mv _ _⟩) ⟨_,eo,rfl,_,rfl⟩ (by rw[YL,YL]) (by rw[YL];exact Eb) (ksk_s1 _ _) (λx=>ksk_l1 _ _) (λx=>ksk_t1 _ _) ?turn ?done
 case turn=>
  intro j v k0 ev ek h3 tk own F3 N3
  rw[YQ] at ev ek
  obtain⟨b,eb,rfl⟩:=Option.map_eq_some_iff.mp ev
  rw[eb] at ek
  cases ek
  have kp:∀x o,x≠X.env.locals->s2.heap.get? x=some o->h3.get? x=some o:=λx o hx ee=>(N3 (x,o) (List.mem_append_left _ (Aw.fi.mpr ⟨hx,hx,ee⟩))).1
  have kb:∀x o,X.base.get? x=some o->h3.get? x=some o:=λx o ee=>kp x o (λz=>by
   have l1:x<X.base.objs.size:=Heap.lt_size ee
   have l2:=I2.ok.xN
   have l3:=I2.ok.above
   rw[z] at l1
   exact absurd (YY l1 (Y2 l2 l3)) (Zl _)) (I2.bk x o ee)
  obtain⟨j0,xs,d,kvs,hb,g0,g1,gd,hd,Ky⟩:=GQ b (YN eb)
  obtain⟨Yc,nb,Uk,Ul,_⟩:=I2.lst (sm _ _ hb)
  obtain⟨Yd,nr,Um,Uo,_⟩:=I2.lst (sm _ _ Jj)
  obtain⟨mb,Up,Kz⟩:=I2.mod.blt
  obtain⟨ui,Uq,t1,rfl⟩:=Uk.get (i:=0) (x:=.int j0) rfl
  obtain⟨ud,Ur,Us⟩:=Um.get gd
  obtain rfl:ud=Value.ref d:=Us
  obtain⟨z1,Ut,vs,rel,o,es,ep,ed,KA⟩:=I2.bE d _ (sm _ _ hd)
  obtain⟨RQ,oc,Jy,t2,w1,w2,w3,w4⟩:=qL
  cases w1
  obtain⟨oe,RT,RU⟩:=oM
  have sl:=sizeLine_eq
  have rl:=rel.length
  refine zf (s:={s2 with heap:=h3,toks:=tk}) (kvs:=vs) (kp _ _ (dL hf λ_ _ z=>by cases z) hf) ⟨c',oc,Jy,t2,rfl,kp _ _ (dL w2 λ_ _ z=>by rw[w3] at z;cases z) w2,w3,w4⟩ hr.depth (I2.mod.nolimit.keeps kb) (I2.mod.glob.keeps kb) hl (Up.keeps kb) Kz DW
   ⟨oe,kp _ _ (dL RT λ_ _ z=>by rw[RU] at z;cases z) RT,RU⟩ ⟨_,kp _ _ (nL (sm _ _ Jj)) Uo,rfl,_,rfl⟩ ⟨_,kp _ _ (nL (sm _ _ hb)) Ul,rfl,_,rfl⟩ (by simpa using Uq) g0 (by omega) (by simpa using Ur) Ut ⟨o,es,ep,kp _ _ (nL (sm _ _ hd)) ed,KA⟩ (by omega) λh4 Uu t4 k4=>?_
  rw[Ky,show((kvs.length:Nat):Int)=((vs.length:Nat):Int) by rw[rl]]
  exact⟨h4,Uu,t4,rfl,rfl,F3.kept k4,N3.grown k4⟩
 case done=>
  intro D h3 tk out c F3 N3 lt ko
  obtain⟨ps,hp,ho,hs⟩:=ko
  have ez:(bs.map key).zip (bs.map Value.ref)=bs.map λb=>(key b,Value.ref b):=by
   rw[List.zip_map',]
  rw[ez] at hp
  have mem:∀p∈ps,p=(key (Az p.2),Value.ref (Az p.2)):=λp jI=>by
   obtain⟨b,_,rfl⟩:=List.mem_map.mp (hp.mem_iff.mp jI)
   rfl
  have nd:(D:Addr)≠X.env.locals:=(N3 _ (.head _)).2.1
  have dn:s2.heap.get? D=none:=by
   cases ee:s2.heap.get? D with
   | none=>rfl
   | some o=>exact absurd (lt (D,o) (Aw.fi.mpr ⟨nd,nd,ee⟩)) (Zl _)
  have hD:H2 D=none:=by
   cases ee:H2 D with
   | none=>rfl
   | some o=>
    obtain⟨ob,e'⟩:=bQ.get (I2.bE D o ee)
    rw[dn] at e';cases e'
  have kp:∀x o,x≠X.env.locals->s2.heap.get? x=some o->h3.get? x=some o:=λx o hx ee=>(N3 (x,o) (YU _ (Aw.fi.mpr ⟨hx,hx,ee⟩))).1
  have KC:out=((ps.map λp=>Az p.2).map Value.ref).toArray:=by
   have:out.toList=(ps.map λp=>Az p.2).map Value.ref:=by
    rw[ho,List.map_map]
    exact List.map_congr_left λp jI=>congrArg Prod.snd (mem p jI)
   rw[<-this,Array.toArray_toList]
  have pm:(ps.map λp=>Az p.2).Perm bs:=by
   have:=hp.map λp=>Az p.2
   rw[List.map_map] at this
   exact this.trans (List.Perm.of_eq (by rw[show((λp:Int×Value=>Az p.2) ∘λb=>(key b,Value.ref b))=id from rfl,List.map_id]))
  have pl:=pm.length_eq
  have RV:=(N3 _ (.head _)).1
  have sl:=sizeLine_eq
  refine⟨.ref D,upd H2 D (.lst ((ps.map λp=>Az p.2).map V.ref)),I2.step (ch:=[]) (g':=s2.gens) (d':=s2.drawn) (t':=tk) (λ_ z=>nomatch z) (λb o h1 _ _ ee _=>kp b o h1 ee) (λb o h1 _ _ ee _=>⟨o.slots,kp b o h1 ee⟩) (λb o _ ee n=>?_) (λb o _ ee=>?_) (λb xs ee=>?_) (λb o u ee=>?_) (λb qs ee=>⟨#[],?_⟩) (λm hn=>?_) (λb o ee=>?_) I2.bare,rfl,?_⟩
  ·rw[ax (λz=>by rw[z,dn] at ee;cases ee)];exact n
  ·by_cases hb:b=X.env.locals
   ·obtain⟨o',_,_,e',_⟩:=F3.ns
    exact⟨o',by rw[hb];exact e'⟩
   ·exact⟨o,kp b o hb ee⟩
  ·rw[ax (ba ee hD)];exact ee
  ·rw[ax (ba ee hD)];exact ee
  ·rw[ax (ba ee hD),ee,Array.append_empty]
  ·have e1:=hn.eq_nsMap
   have e2:=Es.eq_nsMap
   rw[e1,<-e2]
   exact F3.ns
  ·by_cases hb:b=D
   ·subst hb
    rw[ag] at ee
    cases ee
    refine⟨by rw[YL,pl];omega,(ps.map λp=>Az p.2).map Value.ref,c,?_,by rw[KC] at RV;exact RV⟩
    generalize (ps.map λp=>Az p.2)=cs
    induction cs with
    | nil=>exact .nil
    | cons x cs ih=>exact .cons rfl ih
   ·rw[ax hb] at ee
    refine(I2.bE b o ee).nX (λx u jA e3=>kp x u (λz=>?_) e3) (λx e3=>by rw[ax (ba e3 hD)];exact e3) λx xs e3=>by rw[ax (ba e3 hD)];exact e3
    rcases jA with jA | jA
    ·subst jA;exact nL ee z
    ·exact nL jA z
  ·refine q D _ _ (sm.trans λb o ee=>by rw[ax (ba ee hD)];exact ee) ?_ ag pm ?_
   ·cases ee:H1 D with
    | none=>rfl
    | some o=>rw[sm _ _ ee] at hD;cases hD
   ·rw[List.pairwise_map]
    refine hs.imp_of_mem λ{x y} hx hy hle=>?_
    have hle:x.1<=y.1:=hle
    rw[mem x hx,mem y hy] at hle
    exact hle
end
noncomputable def GZ (K:PySem.W.Frag) (mg:Str->Option Value) (x:Str) (tc:Addr):Prop:=∃f oc od fd xC,mg x=some (.ref f)/\K.lookup f=some ⟨oc,od,.func fd,xC⟩/\fd.code=.ref tc
section
variable {P : Program} {w : World} {K : PySem.W.Frag} {mg : Str -> Option Value} {base : Heap} {CX : h8}
theorem tM.Uv {x qual:Str} {st:Stmt} {f tc:Addr} {fd:FuncData} {N ps:List Str} {k:Nat} {sp:Sp} (F:tM K x qual st f fd) (hc:fd.code=.ref tc) (S:aI N ps (ab st)) (len:∀vs H Q E,sp vs H Q E->vs.length=ps.length)
  (qT:∀(A:Around) (outer:List Env) (s:Shared) (H:Hp) (vs:List V) (Q:VK) (E:XK),cw k (A.deeper (envOfC qual (ab st) s.heap.objs.size f (.ref tc)))->sp vs H Q E->
   ∃t,tQ (uc CX P w K mg base N qual (ab st) f (.ref tc) A outer s H E).Fk (aD st) t/\t {nx:=λ_ H'=>Q .bV H',rt:=Q} (start N vs) H):dI P w K mg base CX (k+1) f fd ps sp:=by
 obtain⟨oc,od,kV,doc,pm,an,b9,ct,xC,rfl,lk,qL⟩:=F.ex
 have hc:b9=.ref tc:=hc
 subst hc
 refine Cn lk qL S len λA outer s H vs Q E hr Au=>?_
 obtain⟨t,h,q⟩:=qT A outer s H vs Q E hr Au
 exact⟨t,h.Fk,q⟩
theorem Dn.KD {x:Str} {st:Stmt} {ps:List Str} {k:Nat} {sp:Sp} {tc:Addr} (D:Dn K mg x st) (L:GZ K mg x tc)
  (hb:∀(kV doc pm:Value) (an:Option Addr) (b9 ct:Value) (us:List Value),us.length=ps.length->bindArgs (PySem.W.fnOf x x (aF st) (aD st) (ab st) .none kV doc pm an b9 ct) ⟨us,[]⟩=pure (ps.zip us))
  (h:∀f fd,tM K x x st f fd->fd.code=.ref tc->dI P w K mg base CX k f fd ps sp):bN P w K mg base CX k x ps sp:=by
 obtain⟨f,fd,F,hm⟩:=D.ex
 obtain⟨f',oc,od,Ye,xC,h1,h2,h3⟩:=L
 rw[hm] at h1
 cases h1
 obtain⟨Yg,Yh,_,_,_,_,_,_,Uw,_,lk,_⟩:=F.ex
 rw[lk] at h2
 cases h2
 exact⟨f,fd,h f fd F h3,hm,F.kp,F.binds hb⟩
end
end L2
namespace KS
open PySem PySem.W PyProof.Rows
section
variable {f : Nat -> Int} {n : Nat}
end
end KS
namespace PySem.SeqAt
open AutoSeq1 (wpAny_loadPart')
open MeetsSeq MeetsSeq2 MeetsSeq3
end PySem.SeqAt
namespace L2
open PySem PySem.Spec PyProof.Rows PySem.W
section
variable {prog : Program} {w : World} {A : Around} {E : Value -> Shared -> Prop} {s : Shared}
end
theorem Yi {A:Around} {k:Nat} (hr:cw k A):A.units+2<cLine:=Nat.lt_of_le_of_lt (Nat.add_le_add_left (by decide:2<=64) _) hr.units
section
variable {X : Cx} {K : PySem.W.Frag}
end
end L2
namespace L2
open PySem PySem.Spec PyProof.Rows PySem.W
mutual
noncomputable def vH:PyData->Bool
 | .none=>true
 | .int _=>true
 | .str x=>PyData.canLay0 (.str x)
 | .tuple xs=>rZ xs
 | .list xs=>rZ xs
 | _=>false
noncomputable def rZ:List PyData->Bool
 | []=>true
 | x::xs=>vH x && rZ xs
end
mutual
theorem BG:∀(d:PyData),vH d=true->d.canLay0=true
 | .none,_=>by simp [PyData.canLay0]
 | .bool _,h=>by simp [vH] at h
 | .int _,_=>by simp [PyData.canLay0]
 | .str x,h=>by rw[vH] at h;exact h
 | .list xs,h=>by rw[vH] at h;rw[PyData.canLay0];exact mT xs h
 | .tuple xs,h=>by rw[vH] at h;rw[PyData.canLay0];exact mT xs h
 | .dict _,h=>by simp [vH] at h
theorem mT:∀(xs:List PyData),rZ xs=true->PyData.canLayAll0 xs=true
 | [],_=>by simp [PyData.canLayAll0]
 | x::xs,h=>by
  rw[rZ,Zi] at h
  rw[PyData.canLayAll0,Zi]
  exact⟨BG x h.1,mT xs h.2⟩
end
mutual
theorem BH:∀(x y:PyData),vH x=true->vH y=true->PyData.eqv x y=decide (x=y)
 | .none,y,_,hy=>by cases y <;>simp [PyData.eqv]
 | .int i,y,_,hy=>by
  cases y with
  | int j=>
   rw[PyData.eqv]
   by_cases c:i=j
   ·subst c;simp
   ·rw[decide_eq_false (λe=>c (by injection e))]
    simp [c]
  | bool _=>simp [vH] at hy
  | _=>simp [PyData.eqv]
 | .str a,y,_,hy=>by
  cases y with
  | str b=>
   rw[PyData.eqv]
   by_cases c:a=b
   ·subst c;simp
   ·rw[decide_eq_false (λe=>c (by injection e))]
    simp [c]
  | _=>simp [PyData.eqv]
 | .tuple xs,y,hx,hy=>by
  cases y with
  | tuple ys=>
   rw[vH] at hx hy
   rw[PyData.eqv,mU xs ys hx hy]
   by_cases c:xs=ys
   ·subst c;simp
   ·rw[decide_eq_false c,decide_eq_false (λe=>c (by injection e))]
  | _=>simp [PyData.eqv]
 | .list xs,y,hx,hy=>by
  cases y with
  | list ys=>
   rw[vH] at hx hy
   rw[PyData.eqv,mU xs ys hx hy]
   by_cases c:xs=ys
   ·subst c;simp
   ·rw[decide_eq_false c,decide_eq_false (λe=>c (by injection e))]
  | _=>simp [PyData.eqv]
 | .bool _,_,h,_=>by simp [vH] at h
 | .dict _,_,h,_=>by simp [vH] at h
theorem mU:∀(xs ys:List PyData),rZ xs=true->rZ ys=true->PyData.eqvAll xs ys=decide (xs=ys)
 | [],[],_,_=>by simp [PyData.eqvAll]
 | [],_::_,_,_=>by simp [PyData.eqvAll]
 | _::_,[],_,_=>by simp [PyData.eqvAll]
 | x::xs,y::ys,hx,hy=>by
  rw[rZ,Zi] at hx hy
  rw[PyData.eqvAll,BH x y hx.1 hy.1,mU xs ys hx.2 hy.2]
  by_cases c:x=y
  ·subst c
   by_cases d:xs=ys
   ·subst d;simp
   ·rw[decide_eq_false d,decide_eq_false (λe=>d (List.cons.inj e).2)];simp
  ·rw[decide_eq_false c,decide_eq_false (λe=>c (List.cons.inj e).1)];simp
end
section
variable {X : Cx} {K : PySem.W.Frag}
end
end L2
namespace L2
open PySem PySem.Spec PyProof.Rows PySem.W
section
variable {X : Cx} {pins : List (Addr × Obj)} {σ : St} {H H' : Hp} {s s' : Shared}
end
section
variable {X : Cx} {k : Nat} {x : Str} {ps : List Str} {sp : Sp} {e : Expr} {es : List Expr} {t : TA} {p pos : Pos}
variable {cx : Str} {np yr yt fW : Pos} {b₀ : Stmt} {rh : List Stmt} {ts : TS} {C2 : Addr}
end
end L2
namespace L2
open PySem PySem.Spec PyProof.Rows PySem.W
section
variable {X : Cx} {CX : h8} {k : Nat} {C : Addr} {m : Str} {ps : List Str} {sp : Sp} {E : XK} {e o : Expr} {es : List Expr} {ta : TE} {t : TA} {pos apos : Pos} {pl : Sem Bool}
end
section
variable {X : Cx} {k k2 : Nat} {C C' : Addr} {m m2 : Str} {ps T9 : List Str} {sp Ua : Sp} {e e2 o o2 : Expr} {es Ub : List Expr} {ta Yj : TE} {t t2 : TA} {pos apos Kl RW : Pos} {pl Rk : Sem Bool} {cx n : Str} {np yr yt GU fW Km : Pos} {b₀ : Stmt} {rh : List Stmt} {i : Nat} {ts : TS} {C2 : Addr} {c : Expr} {tc : TT}
end
end L2
namespace PySem.Dfl
open PySem PyProof.Rows
section
variable {prog : Program} {w : World} {A : Around} {E : Value -> Shared -> Prop} {s : Shared}
end
section
variable {prog : Program} {w : World} {K : Type} [DecidableEq K] {knd : KeyKind prog w K} {A : Around} {R : Result -> Shared -> Prop} {I : Addr} {fp wr : List Addr} {G : Array GenState -> Array GenState -> Prop} {n : Nat} {P : Nat -> Value -> Prop} {St : Nat -> Shared -> Prop}
end
end PySem.Dfl
namespace PySem.Dfl
open PySem PyProof.Rows
section
variable {prog : Program} {w : World} {K : Type} [DecidableEq K] {knd : KeyKind prog w K} {A : Around} {E : Value -> Shared -> Prop} {s : Shared}
end
end PySem.Dfl
namespace L2
open PySem PyProof.Rows
section
variable {X : Cx} {P : Program} {w : World} {K : PySem.W.Frag}
end
end L2
namespace L2
open PySem PyProof.Rows
section
variable {X : Cx}
end
end L2
namespace L2
open PySem PyProof.Rows
structure Yk (K:PySem.W.Frag) (mg:Str->Option Value) (g x:Str) (st:Stmt):Prop where
 ex:∃f fd,tM K x x st f fd/\mg g=some (.ref f)
end L2
namespace L2
open PySem PyProof.Rows
end L2
namespace L2
open PySem PySem.Spec PyProof.Rows PySem.W
section
variable {X : Cx}
end
end L2
namespace L2
open PySem PySem.Spec PyProof.Rows PySem.W
section
variable {X : Cx} {k : Nat} {x : Str} {ps : List Str} {sp : Sp} {e : Expr} {es : List Expr} {t : TA} {p pos : Pos}
variable {cx n : Str} {np yr yt fW : Pos} {b₀ : Stmt} {rh : List Stmt} {i : Nat} {ts : TS} {C2 : Addr}
end
end L2
namespace PySem.Dzp
open PySem PyProof.Rows
section
variable {prog : Program} {w : World} {A : Around} {E : Value -> Shared -> Prop} {s : Shared}
abbrev KE (h:Heap) (z TI TO:Addr) (f0:Value) (f:Bool):Prop:=
 h.get? z=some {cls:=.type "zip",dict:=none,data:=.fields #[f0,.bool f,.bool false,.ref TI,.ref TO],slots:=#[]}
structure ZS (z TI TO i1 i2 l1 l2 D:Addr) (xs ys:Array Value) (i:Nat) (h:Heap):Prop where
 zp:IsZip h z TI TO .none\/∃(a:Addr) (oa:Obj) (f:Bool),KE h z TI TO (rawInt a) f/\h.get? a=some oa/\a≠z/\a≠TO/\a≠i1/\a≠i2/\a≠D
 ti:IsPair h TI (.ref i1) (.ref i2)
 to:∃a b,IsPair h TO a b
 j1:h.IsListIter i1 l1 i
 j2:h.IsListIter i2 l2 i
 q1:h.IsList l1 xs
 q2:h.IsList l2 ys
end
section
variable {prog : Program} {w : World} {K : Type} [DecidableEq K] {knd : KeyKind prog w K} {A : Around} {E : Value -> Shared -> Prop} {R : Result -> Shared -> Prop}
end
end PySem.Dzp
namespace L2
open PySem PyProof.Rows
section
variable {X : Cx} {P : Program} {w : World} {K : PySem.W.Frag}
end
end L2
namespace L2
open PySem PySem.Spec PyProof.Rows PySem.W
section
variable {X : Cx} {pins : List (Addr × Obj)} {σ : St} {H H' : Hp} {s s' : Shared}
end
section
variable {X : Cx} {k : Nat} {x : Str} {ps : List Str} {sp : Sp} {e : Expr} {es : List Expr} {t : TA} {p pos : Pos}
variable {cx cy : Str} {np yr Ux RX yt fW : Pos} {b₀ b₁ : Stmt} {rh KG : List Stmt} {ts Yl : TS} {C1 C2 : Addr}
end
end L2
namespace L2
open PySem PySem.Spec PyProof.Rows
section
variable {X : Cx}
theorem r8:FQ X rIxLH:=by
 intro pins s σ H x y v u Q I rx ry h
 obtain⟨p,xs,i,z,rfl,rfl,hq,he,q⟩:=h
 cases rx
 obtain⟨t,rfl⟩:=ry
 obtain⟨aN,r,pl,hz⟩:=I.list (aR.of hq)
 obtain⟨j,h1,h2,h3,h4,h5⟩:=pQ he
 obtain⟨w,ew,nY⟩:=r.get h2
 have hl:=r.length
 have hn:=lW
 have fin:EP X pins σ Q w s:=⟨z,H,I,nY,q⟩
 by_cases h0:0<=i
 ·have hj:i.toNat=j:=by
   rw[seqIndex_of h0 h5] at h1
   exact Zg h1
  exact wpAny_getItem_list pl.isList h0 (by omega) (by rw[hj];simpa using ew) fin
 ·have hj:(i+ (aN.toArray.size:Int)).toNat=j:=by
   rw[seqIndex_neg (by omega) h4] at h1
   rw[YR,<-hl]
   exact Zg h1
  exact wpAny_getItem_list_neg pl.isList (by omega) (by rw[YR] <;>omega) (by omega) (by rw[hj];simpa using ew) fin
theorem qp {K:PySem.W.Frag} {e:Expr} {f:Str} {pos:Pos} {ta:TE} (he:PE X e ta) (hb:attributeBase e f X.env (eval e X.env)=eval e X.env) (hK:X.K=K:=by rfl):PE X (.Attribute e f pos) (iR K ta f):=by subst hK;exact cY he hb
theorem uF (hc:X.calm=true):bY X (.builtin "any") (λxs H Q=>∃p ns,xs=[.ref p]/\aR X.K H p (List.map V.int ns)/\Q (.bl (ns.any λn=>n !=0)) H):=by
 intro pins s σ H xs us Q I r h
 obtain⟨p,ns,rfl,hq,q⟩:=h
 obtain⟨u,rfl,rx⟩:=vals1 r
 cases rx
 obtain⟨aN,rv,pl,hz⟩:=I.list hq
 have hl:=pl.isList
 have ln:=rv.length
 rw[YL] at ln
 have en:p<s.heap.objs.size:=by obtain⟨_,e,_⟩:=hl;exact Heap.lt_size e
 refine call_any_walk (wpAny_pyIter_list hl ?_)
 refine⟨s.heap.objs.size,[s.heap.objs.size,p],[s.heap.objs.size],aN.toArray.size,_,_,λi=>((ns.map λn=>n !=0)[i]?).getD false,rfl,Walks.list (A:=X.A.in1) (I.ok.hd hc) _ p (YT en) aN.toArray,
  ⟨⟨_,Heap.get?_push_size _ rfl,rfl,rfl⟩,hl.push _⟩,λi v s' Q' E' hP hQ=>?_,λh' tk hk=>?_⟩
 ·have hP:aN[i]?=some v:=by simpa using hP
  have hi:i<ns.length:=by have:=(List.getElem?_eq_some_iff.mp hP).1;omega
  obtain⟨w,ew,nY⟩:=rv.get (show(List.map V.int ns)[i]?=some (V.int ns[i]) by rw[YQ,YM hi];rfl)
  rw[hP] at ew
  cases ew
  obtain⟨t,rfl⟩:=nY
  have hQ:Q' (((ns.map λn=>n !=0)[i]?).getD false) s':=hQ
  rw[YQ,YM hi] at hQ
  exact truthy_int hQ
 ·have e:((List.range aN.toArray.size).any λi=>((ns.map λn=>n !=0)[i]?).getD false)=ns.any λn=>n !=0:=by
   have:=LSm.range_any (ns.map λn=>n !=0)
   rw[YL,List.any_map] at this
   rw[YR,<-ln,this]
   rfl
  rw[e]
  exact⟨.bl _,H,I.kept (t':=tk) (LSm.kept_iter hk),rfl,q⟩
theorem sh {K:PySem.W.Frag} (hc:X.calm=true:=by rfl) (hK:X.K=K:=by rfl):bY X (.builtin "any") (λxs H Q=>∃p ns,xs=[.ref p]/\aR K H p (List.map V.int ns)/\Q (.bl (ns.any λn=>n !=0)) H):=by subst hK;exact uF hc
end
end L2
namespace Wq
abbrev Sh:=Int×Int
noncomputable def Lw (x:Sh):Prop:=0<x.2/\Nm.g x.1 x.2=1
noncomputable def sc (L:Int) (x:Sh):Int:=x.1* (L / x.2)
theorem jP {L:Int} {x:Sh} (h:x.2∣L):sc L x*x.2=x.1*L:=by
 unfold sc
 rw[Zu,Int.ediv_mul_cancel h]
theorem zi {L s:Int} {x:Sh} (h:Lw x) (L0:0<L) (e:x.1*L=s*x.2):x.2∣L/\sc L x=s:=by
 have c:Int.gcd x.1 x.2=1:=by have:=h.2;unfold Nm.g at this;omega
 have d:x.2∣L:=Nm.lC (q:=x.2) (a:=x.1) ⟨s,by rw[e,Zr]⟩ c
 refine⟨d,?_⟩
 have:=jP d
 rw[e] at this
 exact Int.eq_of_mul_eq_mul_right (by have:=h.1;omega) this
noncomputable def low (a b:Int):Sh:=(Nm.st a b,Nm.sb a b)
theorem c9 {a b:Int} (h:0<b):Lw (low a b):=⟨Nm.DP (by omega),Nm.DQ (by omega)⟩
theorem uG {a b L s:Int} (h:0<b) (L0:0<L) (e:a*L=s*b):(low a b).2∣L/\sc L (low a b)=s:=by
 refine zi (c9 h) L0 ?_
 have c:=Nm.mz a b
 show Nm.st a b*L=s*Nm.sb a b
 refine Int.eq_of_mul_eq_mul_right (show b≠0 by omega) ?_
 calc Nm.st a b*L*b=(Nm.st a b*b)*L:=Int.mul_right_comm ..
  _=a*Nm.sb a b*L:=by rw[c]
  _=(a*L)*Nm.sb a b:=Int.mul_right_comm ..
  _=s*b*Nm.sb a b:=by rw[e]
  _=s*Nm.sb a b*b:=Int.mul_right_comm ..
noncomputable def pl (x y:Sh):Sh:=low (x.1*y.2+y.1*x.2) (x.2*y.2)
noncomputable def tm (x y:Sh):Sh:=low (x.1*y.1) (x.2*y.2)
theorem G1 {L:Int} {x y:Sh} (hx:0<x.2) (hy:0<y.2) (L0:0<L) (dx:x.2∣L) (dy:y.2∣L):Lw (pl x y)/\(pl x y).2∣L/\sc L (pl x y)=sc L x+sc L y:=by
 have e1:=jP dx
 have e2:=jP dy
 refine⟨c9 (Y9 hx hy),uG (Y9 hx hy) L0 ?_⟩
 calc (x.1*y.2+y.1*x.2)*L=(x.1*L)*y.2+ (y.1*L)*x.2:=by rw[Int.add_mul,Int.mul_right_comm,Int.mul_right_comm y.1]
  _=sc L x*x.2*y.2+sc L y*y.2*x.2:=by rw[e1,e2]
  _=(sc L x+sc L y)* (x.2*y.2):=by rw[Int.add_mul,Zu,Zu,Zr y.2 x.2]
theorem CF {L W w:Int} {y:Sh} (hy:0<y.2) (L0:0<L) (W0:0<W) (dy:y.2∣L):Lw (tm (low w W) y)/\(tm (low w W) y).2∣L*W/\sc (L*W) (tm (low w W) y)=w*sc L y:=by
 have lw:=c9 (a:=w) W0
 have e2:=jP dy
 have c:Nm.st w W*W=w*Nm.sb w W:=Nm.mz w W
 refine⟨c9 (Y9 lw.1 hy),uG (Y9 lw.1 hy) (Y9 L0 W0) ?_⟩
 show Nm.st w W*y.1* (L*W)=w*sc L y* (Nm.sb w W*y.2)
 have r:∀a b c d:Int,a*b* (c*d)=(a*d)* (b*c):=by
  intro a b c d
  rw[Zr c d,Zu a b,<-Zu b d,Zr b d,Zu d b,<-Zu a d]
 calc Nm.st w W*y.1* (L*W)=(Nm.st w W*W)* (y.1*L):=r ..
  _=(w*Nm.sb w W)* (sc L y*y.2):=by rw[c,e2]
  _=w*sc L y* (Nm.sb w W*y.2):=by rw[Zr (sc L y) y.2,r w (Nm.sb w W) y.2 (sc L y)]
noncomputable def mV (W:Int) (v:Int->Sh):Sh->List (Int×Int)->Sh
 | a,[]=>a
 | a,p::ws=>mV W v (pl a (tm (low p.1 W) (v p.2))) ws
end Wq
namespace Wq
open L2
noncomputable def d3 (ws:List Sh) (i:Int):Sh:=ws.getD i.toNat (0,1)
noncomputable def iy (KH:List (Int×Int)):Int:=(KH.map (·.1)).sum
end Wq
namespace Wq
open L2
noncomputable def si (c b:Int):Int:=c / Nm.g c b*b
noncomputable def eC:Int->List Sh->Int
 | c,[]=>c
 | c,x::xs=>eC (si c x.2) xs
theorem BI {c b:Int} (hc:0<c) (hb:0<b):0<si c b/\c∣si c b/\b∣si c b/\∀{Z:Int},c∣Z->b∣Z->si c b∣Z:=by
 have g0:=Nm.mw (a:=c) (b:=b) (by omega)
 have gl:=Nm.iT c b
 have gr:=Nm.d5 c b
 obtain⟨u,hu⟩:=gl
 obtain⟨v,hv⟩:=gr
 have e1:c / Nm.g c b=u:=by
  calc c / Nm.g c b=Nm.g c b*u / Nm.g c b:=by rw[<-hu]
   _=u:=Int.mul_ediv_cancel_left _ (by omega)
 have u0:0<u:=by rw[<-e1];exact Int.ediv_pos_of_pos_of_dvd hc (Nm.DN c b) ⟨u,hu⟩
 unfold si
 rw[e1]
 refine⟨Y9 u0 hb,⟨v,?_⟩,Int.dvd_mul_left ..,λ{Z} h1 h2=>?_⟩
 ·calc u*b=u* (Nm.g c b*v):=by rw[<-hv]
   _=(Nm.g c b*u)*v:=by rw[<-Zu,Zr u]
   _=c*v:=by rw[<-hu]
 ·obtain⟨z,hz⟩:=h2
  have cp:Int.gcd v u=1:=by
   have h:=Int.gcd_ediv_gcd_ediv_gcd (i:=c) (j:=b) (by unfold Nm.g at g0;omega)
   have e2:b / Nm.g c b=v:=by
    calc b / Nm.g c b=Nm.g c b*v / Nm.g c b:=by rw[<-hv]
     _=v:=Int.mul_ediv_cancel_left _ (by omega)
   have h':Int.gcd (c / Nm.g c b) (b / Nm.g c b)=1:=h
   rw[e1,e2,Int.gcd_comm] at h'
   exact h'
  obtain⟨k,hk⟩:=h1
  have m:u*k=v*z:=by
   refine Int.eq_of_mul_eq_mul_left (show Nm.g c b≠0 by omega) ?_
   calc Nm.g c b* (u*k)=(Nm.g c b*u)*k:=(Zu ..).symm
    _=c*k:=by rw[<-hu]
    _=Z:=hk.symm
    _=b*z:=hz
    _=(Nm.g c b*v)*z:=by rw[<-hv]
    _=_:=Zu ..
  obtain⟨j,hj⟩:=Nm.lC (q:=u) (a:=v) (b:=z) ⟨k,m.symm⟩ cp
  exact⟨j,by rw[hz,hj,<-Zu,Zr b u]⟩
theorem lH:∀{xs:List Sh} {c:Int},0<c->(∀x∈xs,0<x.2)->0<eC c xs/\c∣eC c xs/\(∀x∈xs,x.2∣eC c xs)/\∀{Z:Int},c∣Z->(∀x∈xs,x.2∣Z)->eC c xs∣Z
 | [],c,hc,_=>⟨hc,Int.dvd_refl c,by simp,λh _=>h⟩
 | x::xs,c,hc,h=>by
  obtain⟨a1,a2,a3,a4⟩:=BI hc (h x (YW ..))
  obtain⟨b1,b2,b3,b4⟩:=lH (xs:=xs) a1 λy hy=>h y (YU _ hy)
  refine⟨b1,Int.dvd_trans a2 b2,λy hy=>?_,λ{Z} h1 h2=>b4 (a4 h1 (h2 x (YW ..))) λy hy=>h2 y (YU _ hy)⟩
  rcases List.mem_cons.mp hy with rfl | hy
  ·exact Int.dvd_trans a3 b2
  ·exact b3 y hy
noncomputable def Vb (M:Int) (x:Sh):Prop:= -(M*x.2)<=x.1/\x.1<=M*x.2
theorem sj {L M:Int} {x:Sh} (hx:0<x.2) (L0:0<L) (d:x.2∣L):Vb M x↔-(M*L)<=sc L x/\sc L x<=M*L:=by
 have e:=jP d
 have k:M*L*x.2=M*x.2*L:=Int.mul_right_comm ..
 have i1:∀p q:Int,p<=q↔p*L<=q*L:=λp q=>⟨λh=>Z3 h (by omega),λh=>Int.le_of_mul_le_mul_right h L0⟩
 have i2:∀p q:Int,p<=q↔p*x.2<=q*x.2:=λp q=>⟨λh=>Z3 h (by omega),λh=>Int.le_of_mul_le_mul_right h hx⟩
 unfold Vb
 rw[i1 (-(M*x.2)),i1 x.1,i2 (-(M*L)),i2 (sc L x),e,Int.neg_mul,Int.neg_mul,k]
end Wq
namespace Wq
theorem pA:∀{xs:List Sh} {c:Int} {x:Sh},eC c (xs++ [x])=si (eC c xs) x.2
 | [],_,_=>rfl
 | y::xs,c,x=>pA (xs:=xs) (c:=si c y.2) (x:=x)
noncomputable def cu:L2.Pl->Sh
 | .fin g=>g
 | .gz g _=>g
 | .ft _ _=>(0,1)
end Wq
namespace Wq
end Wq
namespace Wq
end Wq
namespace Wq
theorem pB {W:Int} {v:Int->Sh}:∀{ws:List (Int×Int)} {a:Sh} {p:Int×Int},mV W v a (ws++ [p])=pl (mV W v a ws) (tm (low p.1 W) (v p.2))
 | [],_,_=>rfl
 | q::ws,a,p=>pB (ws:=ws) (a:=pl a (tm (low q.1 W) (v q.2))) (p:=p)
end Wq
namespace Wq
end Wq
namespace K36
open PySem PySem.Spec PyProof.Rows L2
set_option maxHeartbeats 4000000
local macro_rules | `(tactic| simp_all only [$ls,*]) => `(tactic| simp only [L2.start, Pr, tRev, tLR, tMaxD, tSortR, tD1, tDPop1, tSl, tNoPart, tPart, rSlL, tDIn, tDNotIn, gSub, rSetL, tLst, tDNewK, tComp, L2.stC, tFor_eq, iList, iTup, iRng1, iRng2, iZip, iEnum, iDict, iStr, tChain, tSumV, tBM, rJoin, tJoined, jNil, jLit, jInt, jStr, tRaise, tDGet, tDGet2, tDGet1, sDPut, Option.join_some, List.getElem?_nil,  tSeq, tRet, tRetN, tIfS, tTest, tB, tOp, tUn, tVar, tC, tCB, tCons, tNil, tCall, tTupS, tAsg, gName, gNil, gCons, tPar, tNext, tDrop, tAnd, tOr, tNot, tAndV, tOrV, tNotV, tIf, rI, rI0, rU, rIxTH, rIxLH, rEqT, rNeT, rInT, rEq, rNe, scal, CPow, at0, at1, at2, List.map_cons, List.map_nil, List.length_cons, List.length_nil, Nat.reduceSub, Nat.reduceAdd, Nat.zero_add, List.replicate_zero, List.reduceReplicate, List.append_nil, List.nil_append, List.cons_append, List.getElem?_cons_zero, List.getElem?_cons_succ, List.set_cons_zero, List.set_cons_succ, Option.some.injEq, exists_eq_left', exists_eq_left, V.ref.injEq, V.int.injEq, V.bl.injEq, V.str.injEq, V.ty.injEq, HO.tup.injEq, HO.lst.injEq, List.cons.injEq, and_true, true_and, and_assoc, exists_and_left, decide_eq_true_eq, Bool.not_eq_true', decide_eq_false_iff_not, ite_true, ite_false, if_true, if_false, Int.reduceToNat, eq_self_iff_true, $ls,*])
seal L2.PE L2.PT L2.PW L2.PA L2.PS L2.tQ L2.PG L2.Fl L2.PI L2.DU L2.PO L2.jv L2.IK L2.bY L2.Co L2.IM L2.JO L2.IP
theorem au {P:Program} {w:World}:pY (bC P w):=vg P w
set_option genInjectivity false in
set_option genSizeOf false in
structure Txt (K:PySem.W.Frag) (mg:Str->Option Value) (aq tc:Addr):Prop where
 z_abs:mg "abs"=none
 z_all:mg "all"=none
 z_any:mg "any"=none
 z_bool:mg "bool"=none
 z_enumerate:mg "enumerate"=none
 z_int:mg "int"=none
 z_isinstance:mg "isinstance"=none
 z_len:mg "len"=none
 z_list:mg "list"=none
 z_max:mg "max"=none
 z_range:mg "range"=none
 z_reversed:mg "reversed"=none
 z_sorted:mg "sorted"=none
 z_sum:mg "sum"=none
 z_tuple:mg "tuple"=none
 z_zip:mg "zip"=none
 BJ:Dn K mg "goals" (top 1)
 uH:Dn K mg "is_ready" (top 2)
 mW:Dn K mg "ready_places" (top 3)
 zj:Dn K mg "levels" (top 4)
 Et:Dn K mg "ring" (top 5)
 jQ:Dn K mg "common_divisor" (top 12)
 BK:Dn K mg "share" (top 13)
 kE:Dn K mg "common_bottom" (top 14)
 kF:Dn K mg "row_with_head" (top 16)
 xn:Dn K mg "swapped" (top 17)
 fH:Dn K mg "without_first_column" (top 18)
 BL:Dn K mg "swept" (top 19)
 kG:Dn K mg "whole_answers" (top 20)
 sk:Dn K mg "column_of" (top 21)
 oj:Dn K mg "turned_rows" (top 22)
 qq:Dn K mg "steps_from" (top 24)
 BM:Dn K mg "parts" (top 25)
 kH:Dn K mg "ways_of_picks" (top 29)
 kI:Dn K mg "checked_parts" (top 30)
 kJ:Dn K mg "weighted_ways" (top 31)
 g7:Dn K mg "all_weighted_ways" (top 32)
 mZ:Dn K mg "total_weight" (top 33)
 su:Dn K mg "part_rows" (top 34)
 xo:Dn K mg "gain_of" (top 36)
 xp:Dn K mg "book_of" (top 37)
 uI:Dn K mg "gains_of" (top 38)
 m6:Dn K mg "blank_worths" (top 39)
 oq:Dn K mg "with_worths" (top 40)
 sv:Dn K mg "worths_of" (top 41)
 ot:Dn K mg "with_visits" (top 42)
 zk:Dn K mg "visits" (top 43)
 sx:Dn K mg "_law_cell" (top 45)
 qr:Dn K mg "_law_mixed" (top 46)
 uJ:Dn K mg "_law_low" (top 47)
 sy:Dn K mg "_law_plus" (top 48)
 qt:Dn K mg "_law_times" (top 49)
 kK:Dn K mg "_law_is_share" (top 50)
 i8:Dn K mg "_law_are_shares" (top 51)
 ou:Dn K mg "_law_turned" (top 52)
 sE:Dn K mg "_law_what" (top 53)
 qu:Dn K mg "_law_board" (top 54)
 qv:Dn K mg "_law_parts" (top 55)
 c_MOST_PLACES:∃t,mg "MOST_PLACES"=some (.int 40 t)
 c_MOST_PICKS:∃t,mg "MOST_PICKS"=some (.int 4096 t)
 k_Book:mg "Book"=some (.ref aq)
 bF:wH K aq
 na_Book_bottom:PySem.W.findIn K (.ref aq) "bottom"=some none
 na_Book_tops:PySem.W.findIn K (.ref aq) "tops"=some none
 BN:Kn K mg "Book" "Book.__init__" (inClass (top 35) 0) aq
 i9:Ji K aq "as_shares" "Book.as_shares" (inClass (top 35) 2)
 m7:Ji K aq "scaled" "Book.scaled" (inClass (top 35) 1)
 BO:GZ K mg "parts" tc
theorem KI {C:List Value->Prop} (k:C []):∀us:List Value,us.length=0->C us:=λus h=>by
 cases us with
 | nil=>exact k
 | cons a us=>cases h
theorem BP {C:List Value->Prop} {n:Nat} (k:∀a (us:List Value),us.length=n->C (a::us)):∀us:List Value,us.length=n+1->C us:=λus h=>by
 cases us with
 | nil=>cases h
 | cons a us=>exact k a us (Nat.succ.inj h)
theorem iz {C:List Value->Prop} (k:∀a,C [a]):∀us:List Value,us.length=1->C us:=BP λa=>KI (C:=λus=>C (a::us)) (k a)
theorem dN {C:List Value->Prop} (k:∀a b,C [a,b]):∀us:List Value,us.length=2->C us:=BP λa=>iz (C:=λus=>C (a::us)) (k a)
theorem sG {C:List Value->Prop} (k:∀a b c,C [a,b,c]):∀us:List Value,us.length=3->C us:=BP λa=>dN (C:=λus=>C (a::us)) (k a)
theorem KJ {C:List Value->Prop} (k:∀a b c d,C [a,b,c,d]):∀us:List Value,us.length=4->C us:=BP λa=>sG (C:=λus=>C (a::us)) (k a)
abbrev dsc:Array Value:=#[rawInt 123,rawInt 29,.str ((Str.ofString "parts"++".<locals>.")++"<lambda>") 0]
noncomputable def du:Option Int->V
 | none=>.bV
 | some i=>.int i
theorem CG {fs:Lv.Fs} {g:Int} (h0:0<=g) (h1:g< (fs.length:Nat)):fK (List.map du fs) g=some (du (Lv.lk fs g)):=by
 obtain⟨j,rfl⟩:=ZA h0
 have hj:j<fs.length:=by omega
 have e:fs[j]?=some fs[j]:=YM hj
 rw[jJ (f:=du) e]
 congr 2
 unfold Lv.lk
 rw[YX,YV,e]
 rfl
theorem m8 {o:Option Int}:(du o=V.bV)↔o=none:=by cases o <;>simp [du]
noncomputable def sI:Sp:=λvs H Q _=>∃v q,vs=[v]/\Rep H (qg q) v/\(Lv.fb q).length<=100/\∀l H',ar H H'->H l=none->H' l=some (.lst (List.map V.int (Lv.fb q)))->Q (.ref l) H'
noncomputable def zm:Sp:=λvs H Q _=>∃v q f fs,vs=[v,.ref f]/\Rep H (qg q) v/\H f=some (.lst (List.map du fs))/\(Lv.fb q).length<=100/\(∀g∈Lv.fb q,0<=g/\g< (fs.length:Nat))/\∀H',ar H H'->Q (.bl (Lv.Cw fs q)) H'
noncomputable def cf (i:Nat):V:=.int i
noncomputable def vI:Sp:=λvs H Q _=>∃a b f fs,vs=[.ref a,.ref f]/\Rep H (w5 b) (.ref a)/\H f=some (.lst (List.map du fs))/\fs.length=b.length/\b.length<=1000/\(∀q∈b,(Lv.fb q).length<=100)/\Lv.Good b/\∀l H',ar H H'->H l=none->H' l=some (.lst (List.map cf (Lv.fresh b fs)))->Q (.ref l) H'
noncomputable def zo:Sp:=λvs H Q _=>∃a b,vs=[.ref a]/\Rep H (w5 b) (.ref a)/\b.length<=1000/\(∀q∈b,(Lv.fb q).length<=100)/\Lv.Good b/\∀l H',ar H H'->H l=none->H' l=some (.lst (List.map du (Lv.rE b)))->Q (.ref l) H'
structure Uy (H:Hp) (b:List Pl) (a ff:Addr) (m:Nat) (σ:L2.St) (H':Hp):Prop where
 ex:∃fs L fr z,σ=[some (V.ref a),some (V.ref ff),some (V.int L),some (V.ref fr),z]/\H' ff=some (.lst (List.map du fs))/\H' fr=some (.lst (List.map cf (Lv.fresh b fs)))/\fr≠ff/\ar H H'/\fs.length=b.length/\Lv.dG fs<=m/\Lv.run b m fs L=Lv.rE b
noncomputable def m9 (b:List Pl):List Nat:=(List.range b.length).filter fun(i:Nat)=>(Lv.lk (Lv.rE b) (i:Int)).isNone
theorem zq {b:List Pl} {i:Nat}:i∈m9 b↔i<b.length/\Lv.lk (Lv.rE b) (i:Int)=none:=by
 unfold m9
 rw[List.mem_filter,List.mem_range]
 simp
structure Bd (b:List Pl):Prop where
 len:b.length<=1000
 oW:∀q∈b,(Lv.fb q).length<=100
 good:Lv.Good b
noncomputable def uK:Sp:=λvs H Q _=>∃a b,vs=[.ref a]/\Rep H (w5 b) (.ref a)/\Bd b/\∀l H',ar H H'->H l=none->H' l=some (.lst (List.map cf (m9 b)))->Q (.ref l) H'
noncomputable def oz (H:Hp):Option (Int×Nat)->V->Prop
 | none,v=>v=.bV
 | some (h,w),v=>∃p,v=.ref p/\H p=some (.tup [.int h,.int (w:Int)])
theorem oz.mono {H H':Hp} (s:ar H H') {o:Option (Int×Nat)} {v:V} (h:oz H o v):oz H' o v:=by
 cases o with
 | none=>exact h
 | some x=>obtain⟨p,e,hp⟩:=h;exact⟨p,e,s _ _ hp⟩
theorem oz.upd {H:Hp} {a:Addr} {o:HO} {par:Option (Int×Nat)} {v:V} (n:∀xs,H a≠some (.tup xs)) (h:oz H par v):oz (upd H a o) par v:=by
 cases par with
 | none=>exact h
 | some x=>obtain⟨p,e,hp⟩:=h;exact⟨p,e,by rw[ax (λz=>n _ (z▸hp))];exact hp⟩
structure eN (H:Hp) (d:Addr) (es:List Bf.En):Prop where
 ex:∃kvs,H d=some (.dK kvs)/\kvs.map (·.1)=(Bf.keys es).map Sum.inl/\∀(i:Nat) e,es[i]?=some e->∃v,kvs[i]?=some (Sum.inl e.1,v)/\oz H e.2.1 v
theorem eN.mono {H H':Hp} (s:ar H H') {d:Addr} {es:List Bf.En} (h:eN H d es):eN H' d es:=by
 obtain⟨kvs,hd,hk,hv⟩:=h
 exact⟨kvs,s _ _ hd,hk,λi e he=>by obtain⟨v,e1,e2⟩:=hv i e he;exact⟨v,e1,e2.mono s⟩⟩
theorem zr {κ:Type} [DecidableEq κ]:∀{kvs:List (κ×V)} {i:Nat} {k:κ} {v:V},(kvs.map (·.1)).Nodup->kvs[i]?=some (k,v)->ic kvs k=some v
 | [],i,k,v,_,h=>by simp at h
 | p::r,0,k,v,_,h=>by simp at h;subst h;exact iS rfl
 | p::r,i+1,k,v,nd,h=>by
  simp at h
  rw[Y3,List.nodup_cons] at nd
  rw[gm (λz=>nd.1 (by rw[z];exact List.mem_map.mpr ⟨(k,v),YN h,rfl⟩))]
  exact zr nd.2 h
theorem lI {κ:Type} [DecidableEq κ]:∀{kvs:List (κ×V)} {k:κ},k∉kvs.map (·.1)->ic kvs k=none
 | [],k,_=>rfl
 | p::r,k,h=>by
  rw[Y3] at h
  rw[gm (λz=>h (by rw[z];exact YW))]
  exact lI λz=>h (YU _ z)
theorem Eu {l:List Int} (h:l.Nodup):(l.map (Sum.inl:Int->Key)).Nodup:=by
 unfold List.Nodup at *
 rw[List.pairwise_map]
 exact h.imp λ{a b} Ry z=>Ry (by cases z;rfl)
theorem vJ {l:List Int} {k:Int}:(Sum.inl k:Key)∈l.map Sum.inl↔k∈l:=by
 rw[List.mem_map]
 constructor
 ·rintro⟨x,hx,e⟩;cases e;exact hx
 ·intro h;exact⟨k,h,rfl⟩
theorem eN.get {H:Hp} {d:Addr} {es:List Bf.En} (h:eN H d es) (nd:(Bf.keys es).Nodup) {i:Nat} {e:Bf.En} (he:es[i]?=some e):∃v,kr H d (.int e.1) (some v)/\oz H e.2.1 v:=by
 obtain⟨kvs,hd,hk,hv⟩:=h
 obtain⟨v,e1,e2⟩:=hv i e he
 exact⟨v,.inl ⟨kvs,Sum.inl e.1,.inl hd,rfl,(zr (by rw[hk];exact Eu nd) e1).symm⟩,e2⟩
theorem eN.out {H:Hp} {d:Addr} {es:List Bf.En} (h:eN H d es) {k:Int} (hk:k∉Bf.keys es):kr H d (.int k) none:=by
 obtain⟨kvs,hd,G3,_⟩:=h
 exact .inl ⟨kvs,Sum.inl k,.inl hd,rfl,(lI (by rw[G3];exact λz=>hk (vJ.mp z))).symm⟩
theorem eN.has {H:Hp} {d:Addr} {es:List Bf.En} (h:eN H d es) (nd:(Bf.keys es).Nodup) (k:Int):∃o,kr H d (.int k) o/\o.isSome=decide (k∈Bf.keys es):=by
 by_cases c:k∈Bf.keys es
 ·obtain⟨e,he,rfl⟩:=List.mem_map.mp c
  obtain⟨i,hi⟩:=Y4 he
  obtain⟨v,g,_⟩:=h.get nd hi
  exact⟨_,g,by simp [c]⟩
 ·exact⟨_,h.out c,by simp [c]⟩
theorem eN.put {H:Hp} {d:Addr} {es:List Bf.En} (h:eN H d es) {k:Int} {par:Option (Int×Nat)} {path:List Nat} {v:V} (hk:k∉Bf.keys es) (pv:oz H par v) (hl:es.length<sizeLine):
  ∃o,uk H d (.int k) v (upd H d o)/\eN (upd H d o) d (es++ [(k,par,path)]):=by
 obtain⟨kvs,hd,G3,hv⟩:=h
 have len:kvs.length=es.length:=by
  have:=congrArg List.length G3
  unfold Bf.keys at this
  simpa using this
 have vn:ic kvs (Sum.inl k)=none:=lI (by rw[G3];exact λz=>hk (vJ.mp z))
 have nt:∀xs,H d≠some (.tup xs):=λxs z=>by rw[hd] at z;cases z
 refine⟨.dK (kvs++ [(Sum.inl k,v)]),?_,⟨kvs++ [(Sum.inl k,v)],ag,?_,λi e he=>?_⟩⟩
 ·have:=uk.k (k:=Sum.inl k) (v:=v) hd (by omega)
  rw[yd v vn] at this
  exact this
 ·unfold Bf.keys at *
  rw[Zj,Zj,Zj,G3]
  rfl
 ·rcases Bf.dW he with he | ⟨rfl,rfl⟩
  ·obtain⟨v',e1,e2⟩:=hv i e he
   exact⟨v',Bf.up e1,e2.upd nt⟩
  ·refine⟨v,?_,pv.upd nt⟩
   rw[ZH (by omega),len,Nat.sub_self]
   rfl
theorem pC {here:Int} {path:List Nat}:∀(gs:List Int) (w:Nat) (es:List Bf.En) (g:Int),Bf.fv here path w (gs++ [g]) es=(if g∈Bf.keys (Bf.fv here path w gs es) then Bf.fv here path w gs es else Bf.fv here path w gs es++ [(g,some (here,w+gs.length),path++ [w+gs.length])])
 | [],w,es,g=>rfl
 | x::gs,w,es,g=>by
  show Bf.fv here path (w+1) (gs++ [g]) _=_
  rw[pC gs (w+1)]
  show(if g∈Bf.keys (Bf.fv here path (w+1) gs _) then Bf.fv here path (w+1) gs _ else Bf.fv here path (w+1) gs _++ [(g,some (here,w+1+gs.length),path++ [w+1+gs.length])])=_
  rw[Y8,show w+1+gs.length=w+ (gs.length+1) by omega]
  rfl
structure Uz (H:Hp) (b:List Pl) (a d f:Addr) (st:Int) (m:Nat) (σ:L2.St) (H':Hp):Prop where
 ex:∃(t:Nat) (es:List Bf.En),∃z5 z6 z7,σ=[some (V.ref a),some (V.int st),some (V.ref d),some (V.ref f),some (V.int (t:Int)),z5,z6,z7]/\eN H' d es/\H' f=some (.lst (List.map V.int (Bf.keys es)))/\ar H H'/\Bf.Inv b st t es/\Bf.Ax b m t es=Bf.steps b st/\b.length<m+t
noncomputable def vK:Sp:=λvs H Q _=>∃a b st,vs=[.ref a,.int st]/\Rep H (w5 b) (.ref a)/\b.length<=1000/\(∀q∈b,(Lv.fb q).length<=100)/\Lv.Good b/\0<=st/\st<b.length/\∀d H',ar H H'->H d=none->eN H' d (Bf.steps b st)->Q (.ref d) H'
structure Ym (H:Hp) (es:List Bf.En) (a d bk:Addr) (st g:Int) (path:List Nat) (m:Nat) (σ:L2.St) (H':Hp):Prop where
 ex:∃(e:Bf.En) (bs:List Nat) (v:V),es[m]?=some e/\oz H' e.2.1 v/\H' bk=some (.lst (List.map cf bs))/\path=e.2.2++bs.reverse/\eN H' d es/\ar H H'/\σ=[some (V.ref a),some (V.int st),some (V.int g),some (V.ref d),some (V.ref bk),some v]
structure UA (H:Hp) (a d f l:Addr) (st:Int) (t:Nat) (e:Bf.En) (gs:List Int) (es:List Bf.En) (k:Nat) (σ:L2.St) (H':Hp):Prop where
 ex:∃z6 z7,σ=[some (V.ref a),some (V.int st),some (V.ref d),some (V.ref f),some (V.int (t:Int)),some (V.int e.1),z6,z7]
 dr:eN H' d (Bf.fv e.1 e.2.2 0 (gs.take k) es)
 hf:H' f=some (.lst (List.map V.int (Bf.keys (Bf.fv e.1 e.2.2 0 (gs.take k) es))))
 hl:H' l=some (.lst (List.map V.int gs))
 sm:ar H H'
noncomputable def Al {α:Type} (R:α->V->Prop):List α->List V->Prop
 | [],[]=>True
 | a::as,v::vs=>R a v/\Al R as vs
 | _,_=>False
theorem Al.length {α:Type} {R:α->V->Prop}:∀{as:List α} {vs:List V},Al R as vs->vs.length=as.length
 | [],[],_=>rfl
 | a::as,v::vs,h=>by simp [Al.length h.2]
theorem Al.imp {α:Type} {R S:α->V->Prop} (f:∀a v,R a v->S a v):∀{as:List α} {vs:List V},Al R as vs->Al S as vs
 | [],[],_=>trivial
 | a::as,v::vs,h=>⟨f _ _ h.1,Al.imp f h.2⟩
theorem Al.append {α:Type} {R:α->V->Prop}:∀{as bs:List α} {us vs:List V},Al R as us->Al R bs vs->Al R (as++bs) (us++vs)
 | [],_,[],_,_,k=>k
 | a::as,_,v::vs,_,h,k=>⟨h.1,Al.append h.2 k⟩
theorem Al.one {α:Type} {R:α->V->Prop} {a:α} {v:V} (h:R a v):Al R [a] [v]:=⟨h,trivial⟩
theorem Al.reverse {α:Type} {R:α->V->Prop}:∀{as:List α} {vs:List V},Al R as vs->Al R as.reverse vs.reverse
 | [],[],_=>trivial
 | a::as,v::vs,h=>by
  rw[List.reverse_cons,List.reverse_cons]
  exact(Al.reverse h.2).append (.one h.1)
theorem Al.get {α:Type} {R:α->V->Prop}:∀{as:List α} {vs:List V} {i:Nat} {v:V},Al R as vs->vs[i]?=some v->∃a,as[i]?=some a/\R a v:=by
 intro as
 induction as with
 | nil=>
  intro vs i v h e
  cases vs with
  | nil=>simp at e
  | cons u vs=>exact h.elim
 | cons a as ih=>
  intro vs i v h e
  cases vs with
  | nil=>exact h.elim
  | cons u vs=>
   cases i with
   | zero=>cases e;exact⟨a,rfl,h.1⟩
   | succ i=>exact ih (vs:=vs) (i:=i) h.2 e
theorem Al.of {α:Type} {R:α->V->Prop}:∀{as:List α} {vs:List V},vs.length=as.length->(∀(i:Nat) v a,vs[i]?=some v->as[i]?=some a->R a v)->Al R as vs
 | [],[],_,_=>trivial
 | [],_::_,l,_=>by simp at l
 | _::_,[],l,_=>by simp at l
 | a::as,u::vs,l,h=>⟨h 0 u a rfl rfl,Al.of (by simpa using l) λi v b e1 e2=>h (i+1) v b (by simpa using e1) (by simpa using e2)⟩
namespace Pr
open Bf Lv
noncomputable def kb (b:List Pl) (p:Int):List Int:=keys (steps b p)
noncomputable def In (b:List Pl) (p:Int):Prop:=0<=p/\p<b.length
section Q1
variable {b : List Pl} (gb : Good b)
include gb
theorem j9 {p:Int} (h:In b p):(kb b p).Nodup:=(eL gb h.1 h.2).1.nd
theorem pE {p q:Int} (h:In b p) (hq:q∈kb b p):In b q:=by
 obtain⟨e,he,rfl⟩:=List.mem_map.mp hq
 exact(eL gb h.1 h.2).1.nW e he
theorem ja {p:Int} (h:In b p):p∈kb b p:=List.mem_map.mpr ⟨_,YN (eL gb h.1 h.2).1.hd,rfl⟩
theorem vL {p q g:Int} (h:In b p) (hq:q∈kb b p) (hg:g∈fZ b q):g∈kb b p:=by
 obtain⟨e,he,rfl⟩:=List.mem_map.mp hq
 obtain⟨j,hj⟩:=Y4 he
 obtain⟨i,ei,h1,h2,_⟩:=(eL gb h.1 h.2).2 j e hj g hg
 exact List.mem_map.mpr ⟨ei,YN h1,h2⟩
theorem zt {p:Int} (h:In b p):∀(ws:List Nat) (q r:Int),q∈kb b p->go b q ws=some r->r∈kb b p
 | [],q,r,hq,e=>by cases e;exact hq
 | w::ws,q,r,hq,e=>by
  have e:(match (fZ b q)[w]? with | some g=>go b g ws | none=>none)=some r:=e
  cases c:(fZ b q)[w]? with
  | none=>rw[c] at e;cases e
  | some g=>rw[c] at e;exact zt h ws g r (vL gb h hq (YN c)) e
theorem zu {p q:Int} (h:In b p):q∈kb b p↔∃ws,go b p ws=some q:=by
 constructor
 ·intro hq
  obtain⟨e,he,rfl⟩:=List.mem_map.mp hq
  obtain⟨j,hj⟩:=Y4 he
  exact⟨_,Bq (eL gb h.1 h.2).1 j e hj⟩
 ·rintro⟨ws,e⟩
  exact zt gb h ws p q (ja gb h) e
theorem gA {p q r:Int} (h:In b p) (hq:q∈kb b p) (hr:r∈kb b q):r∈kb b p:=by
 obtain⟨ws,e⟩:=(zu gb (pE gb h hq)).mp hr
 exact zt gb h ws q r hq e
theorem Ew {p:Int} (h:In b p):(kb b p).length<=b.length:=by
 have:=(eL gb h.1 h.2).1.oW
 unfold kb keys
 rw[YL]
 exact this
end Q1
theorem ng:∀{l m:List Int},l.Nodup->(∀x∈l,x∈m)->∃r,m.Perm (l++r)
 | [],m,_,_=>⟨m,.refl _⟩
 | x::l,m,nd,h=>by
  obtain⟨n1,n2⟩:=List.nodup_cons.mp nd
  obtain⟨r,p⟩:=ng (m:=m.erase x) n2 λy hy=>(List.mem_erase_of_ne (a:=y) (b:=x) λz=>n1 (by rw[<-z];exact hy)).mpr (h y (YU _ hy))
  exact⟨r,(List.perm_cons_erase (h x YW)).trans (p.cons x)⟩
theorem sub_len {l m:List Int} (hl:l.Nodup) (h:∀x∈l,x∈m):l.length<=m.length:=by
 obtain⟨r,p⟩:=ng hl h
 rw[p.length_eq,Zn]
 omega
theorem sub_eq {l m:List Int} (hl:l.Nodup) (hm:m.Nodup) (h:∀x∈l,x∈m) (e:m.length<=l.length):∀x∈m,x∈l:=λx hx=>by
 obtain⟨r,p⟩:=ng hl h
 have:=p.length_eq
 rw[Zn] at this
 have:r=[]:=List.length_eq_zero_iff.mp (by omega)
 subst this
 rw[Zx] at p
 exact p.mem_iff.mp hx
noncomputable def d7 (b:List Pl) (p:Int):List Int:=(Nm.gh (kb b p)).filter λo=>decide (p∈kb b o)
noncomputable def rep (b:List Pl) (p:Int):Int:=(d7 b p).headD (-1)
noncomputable def qw (b:List Pl) (n:Nat):List Int:=((List.range n).map fun(i:Nat)=>(i:Int)).filter λp=>decide (rep b p=p)
section Q2
variable {b : List Pl} (gb : Good b)
include gb
omit gb in
theorem cW {p o:Int}:o∈d7 b p↔o∈kb b p/\p∈kb b o:=by
 unfold d7
 rw[List.mem_filter,Nm.vk,decide_eq_true_eq]
theorem uL {p:Int} (h:In b p):(d7 b p).Pairwise (·<·):=List.Pairwise.filter _ (Nm.D4 (j9 gb h))
theorem nh {p:Int} (h:In b p):p∈d7 b p:=cW.mpr ⟨ja gb h,ja gb h⟩
theorem nj {p o:Int} (h:In b p) (ho:o∈d7 b p):In b o:=pE gb h (cW.mp ho).1
theorem nk {p:Int} (h:In b p):d7 b p≠[]:=List.ne_nil_of_mem (nh gb h)
theorem vM {p o:Int} (ho:o∈d7 b p):p∈d7 b o:=cW.mpr (cW.mp ho).symm
theorem vN {p o:Int} (h:In b p) (ho:o∈d7 b p):∀x,x∈kb b p↔x∈kb b o:=λx=>by
 obtain⟨h1,h2⟩:=cW.mp ho
 exact⟨λhx=>gA gb (pE gb h h1) h2 hx,λhx=>gA gb h h1 hx⟩
theorem vO {p o:Int} (h:In b p) (ho:o∈d7 b p):(kb b p).length=(kb b o).length:=by
 have hi:=nj gb h ho
 exact Nat.le_antisymm (sub_len (j9 gb h) λx hx=>(vN gb h ho x).mp hx) (sub_len (j9 gb hi) λx hx=>(vN gb h ho x).mpr hx)
theorem jR {p o r:Int} (h:In b p) (ho:o∈d7 b p) (hr:r∈d7 b o):r∈d7 b p:=by
 have hi:=nj gb h ho
 have Ku:=nj gb hi hr
 obtain⟨h1,h2⟩:=cW.mp ho
 obtain⟨h3,h4⟩:=cW.mp hr
 exact cW.mpr ⟨gA gb h h1 h3,gA gb Ku h4 h2⟩
omit gb in
theorem zv {l m:List Int} (hl:l.Pairwise (·<·)) (hm:m.Pairwise (·<·)) (h:∀x,x∈l↔x∈m):l=m:=by
 have p:l.Perm m:=(List.perm_ext_iff_of_nodup (hl.imp λh z=>by omega) (hm.imp λh z=>by omega)).mpr h
 have o1:l.Pairwise (·<=·):=hl.imp λh=>Int.le_of_lt h
 have o2:m.Pairwise (·<=·):=hm.imp λh=>Int.le_of_lt h
 rw[Nm.qc p o1,Nm.uq o2]
theorem zw {p o:Int} (h:In b p) (ho:o∈d7 b p):d7 b o=d7 b p:=by
 have hi:=nj gb h ho
 refine zv (uL gb hi) (uL gb h) λx=>⟨λhx=>jR gb h ho hx,λhx=>jR gb hi (vM gb ho) hx⟩
theorem jb {p:Int} (h:In b p):rep b p∈d7 b p:=by
 unfold rep
 cases e:d7 b p with
 | nil=>exact absurd e (nk gb h)
 | cons x r=>exact YW
theorem Ex {p:Int} (h:In b p):In b (rep b p):=nj gb h (jb gb h)
theorem vP {p:Int} (h:In b p):d7 b (rep b p)=d7 b p:=zw gb h (jb gb h)
theorem BQ {p:Int} (h:In b p):rep b (rep b p)=rep b p:=by
 show(d7 b (rep b p)).headD (-1)=_
 rw[vP gb h]
 rfl
theorem zx {p o:Int} (h:In b p) (ho:o∈d7 b p):rep b o=rep b p:=by
 show(d7 b o).headD (-1)=_
 rw[zw gb h ho]
 rfl
theorem BR {p o:Int} (h:In b p) (hi:In b o):rep b o=rep b p↔o∈d7 b p:=by
 refine⟨λe=>?_,zx gb h⟩
 have h1:=jb gb hi
 rw[e] at h1
 exact vM gb (jR gb hi h1 (by rw[vP gb h];exact nh gb h))
omit gb in
theorem jc {n:Nat} {p:Int}:p∈qw b n↔(0<=p/\p<n)/\rep b p=p:=by
 unfold qw
 rw[List.mem_filter,List.mem_map,decide_eq_true_eq]
 constructor
 ·rintro⟨⟨i,hi,rfl⟩,h⟩
  have:=List.mem_range.mp hi
  exact⟨⟨by omega,by omega⟩,h⟩
 ·rintro⟨⟨h1,h2⟩,h⟩
  exact⟨⟨p.toNat,List.mem_range.mpr (by omega),by omega⟩,h⟩
omit gb in
theorem Ey {n:Nat}:(qw b n).Nodup:=by
 refine List.Pairwise.filter _ ?_
 rw[List.pairwise_map]
 exact List.nodup_range.imp λh z=>h (by omega)
omit gb in
theorem vQ {n:Nat}:(qw b n).length<=n:=by
 unfold qw
 refine Y2 (List.length_filter_le _ _) ?_
 rw[YL,Ze]
 exact YO _
omit gb in
theorem sJ {n:Nat}:qw b (n+1)=if rep b (n:Int)=(n:Int) then qw b n++ [(n:Int)] else qw b n:=by
 unfold qw
 rw[List.range_succ,Zj,List.filter_append]
 by_cases c:rep b (n:Int)=(n:Int)
 ·rw[if_pos c]
  simp [c]
 ·rw[if_neg c]
  simp [c]
theorem BS {p:Int} (h:In b p):rep b p∈qw b b.length:=jc.mpr ⟨Ex gb h,BQ gb h⟩
end Q2
structure Told (b:List Pl) (ps:List Int):Prop where
 pm:ps.Perm (qw b b.length)
 od:ps.Pairwise λp q=>(kb b p).length<=(kb b q).length
section Q3
variable {b : List Pl} (gb : Good b) {ps : List Int} (T : Told b ps)
include gb T
omit gb in
theorem Told.nd:ps.Nodup:=T.pm.nodup_iff.mpr Ey
omit gb in
theorem Told.KL {p:Int} (h:p∈ps):In b p:=(jc.mp (T.pm.mem_iff.mp h)).1
theorem Told.has {p:Int} (h:In b p):rep b p∈ps:=T.pm.mem_iff.mpr (BS gb h)
theorem Told.Ez {p q:Int} (h:In b p) (hq:q∈kb b p):ps.idxOf (rep b q)<=ps.idxOf (rep b p):=by
 have hi:=pE gb h hq
 have sub:∀x∈kb b q,x∈kb b p:=λx hx=>gA gb h hq hx
 have le:=sub_len (j9 gb hi) sub
 by_cases c:(kb b p).length<=(kb b q).length
 ·have:p∈kb b q:=sub_eq (j9 gb hi) (j9 gb h) sub c p (ja gb h)
  rw[zx gb h (cW.mpr ⟨hq,this⟩)]
  exact YO _
 ·have l1:=ZW (T.has gb hi)
  have l2:=ZW (T.has gb h)
  rcases Nat.lt_or_ge (ps.idxOf (rep b p)) (ps.idxOf (rep b q)) with g | g
  ·have od:=List.pairwise_iff_getElem.mp T.od _ _ l2 l1 g
   rw[ZU l2,ZU l1,<-vO gb h (jb gb h),<-vO gb hi (jb gb hi)] at od
   omega
  ·exact g
theorem Told.idx_eq {p q:Int} (h:In b p) (hi:In b q):ps.idxOf (rep b q)=ps.idxOf (rep b p)↔q∈kb b p/\p∈kb b q:=by
 rw[<-cW,<-BR gb h hi]
 constructor
 ·intro e
  have l1:=ZW (T.has gb hi)
  have l2:=ZW (T.has gb h)
  have a1:=ZU l1
  have a2:=ZU l2
  rw[<-a1,<-a2]
  congr 1
 ·intro e;rw[e]
end Q3
noncomputable def G4 (b:List Pl):List Int->Nat->List (Int×Int)
 | [],_=>[]
 | p::ps,i=>(d7 b p).map (λx=>(x,(i:Int)))++G4 b ps (i+1)
section Q9
variable {b : List Pl} (gb : Good b) {ps : List Int} (T : Told b ps)
include gb T
end Q9
noncomputable def off (b:List Pl) (ps:List Int) (i:Nat):Nat:=(G4 b (ps.take i) 0).length
end Pr
namespace Dg
open Lv Bf
structure Down (b:List Pl) (rk:Int->Nat):Prop where
 good:Good b
 dn:∀(i:Nat) q,b[i]?=some q->∀g∈fb q,rk g<rk (i:Int)
 gz:∀q∈b,∀g ws,q=.gz g ws->ws≠[]
section DA
variable {b : List Pl} {rk : Int -> Nat} (D : Down b rk)
include D
theorem Down.RY {p g:Int} (hp:Pr.In b p) (h:g∈fZ b p):rk g<rk p/\Pr.In b g:=by
 obtain⟨j,rfl⟩:=ZA hp.1
 have hj:j<b.length:=by have:=hp.2;omega
 have e:b[j]?=some b[j]:=YM hj
 unfold fZ at h
 rw[YX,e] at h
 exact⟨D.dn j _ e g h,D.good.nW _ (YN e) g h⟩
theorem Down.lv:∀(m i:Nat),rk (i:Int)<m->i<b.length->lk (rE b) (i:Int)≠none
 | 0,_,h,_=>absurd h (Nat.not_lt_zero _)
 | m+1,i,h,hi=>by
  have e:b[i]?=some b[i]:=YM hi
  have ih:∀g∈fb b[i],lk (rE b) g≠none:=λg hg=>by
   obtain⟨h0,h1⟩:=D.good.nW _ (YN e) g hg
   obtain⟨j,rfl⟩:=ZA h0
   exact Down.lv m j (by have:=D.dn i _ e _ hg;omega) (by omega)
  have E:=yH D.good i _ e
  have nn:∀v,(rE b)[i]?=some (some v)->lk (rE b) (i:Int)≠none:=λv hv z=>by
   rw[Ed.mpr hv] at z
   cases z
  cases q:b[i] with
  | fin w=>rw[q] at E;exact nn _ E
  | gz w ws=>
   rw[q] at E ih
   rcases E with ⟨_,a2⟩ | ⟨v,hv,_⟩
   ·have ne:=D.gz _ (YN e) w ws q
    obtain⟨x,hx⟩:=List.exists_mem_of_ne_nil _ ne
    exact absurd (a2 x.2 (List.mem_map.mpr ⟨x,hx,rfl⟩)) (ih x.2 (List.mem_map.mpr ⟨x,hx,rfl⟩))
   ·exact nn v hv
  | ft w to=>
   rw[q] at E ih
   rcases E with ⟨_,g,hg,a2⟩ | ⟨v,hv,_⟩
   ·exact absurd a2 (ih g hg)
   ·exact nn v hv
theorem Down.ring:m9 b=[]:=by
 refine List.eq_nil_iff_forall_not_mem.mpr λi hi=>?_
 obtain⟨h1,h2⟩:=zq.mp hi
 exact D.lv _ i (Zq _) h1 h2
theorem Down.go {p:Int} (hp:Pr.In b p):∀(ws:List Nat) (q r:Int),Pr.In b q->(q=p\/rk q<rk p)->Bf.go b q ws=some r->r=p\/rk r<rk p
 | [],q,r,_,hq,e=>by cases e;exact hq
 | w::ws,q,r,iq,hq,e=>by
  have e:(match (fZ b q)[w]? with | some g=>Bf.go b g ws | none=>none)=some r:=e
  cases c:(fZ b q)[w]? with
  | none=>rw[c] at e;cases e
  | some g=>
   rw[c] at e
   obtain⟨h1,h2⟩:=D.RY iq (YN c)
   exact Down.go hp ws g r h2 (.inr (by rcases hq with rfl | hq <;>omega)) e
theorem Down.kb {p q:Int} (hp:Pr.In b p) (h:q∈Pr.kb b p):q=p\/rk q<rk p:=by
 obtain⟨ws,e⟩:=(Pr.zu D.good hp).mp h
 exact D.go hp ws p q hp (.inl rfl) e
theorem Down.d7 {p:Int} (hp:Pr.In b p):Pr.d7 b p=[p]:=by
 refine Pr.zv (Pr.uL D.good hp) (List.pairwise_singleton _ _) λx=>?_
 rw[List.mem_singleton]
 constructor
 ·intro hx
  obtain⟨h1,h2⟩:=Pr.cW.mp hx
  rcases D.kb hp h1 with h | h
  ·exact h
  ·rcases D.kb (Pr.pE D.good hp h1) h2 with h' | h'
   ·exact h'.symm
   ·omega
 ·rintro rfl
  exact Pr.nh D.good hp
theorem Down.rep {p:Int} (hp:Pr.In b p):Pr.rep b p=p:=by
 unfold Pr.rep
 rw[D.d7 hp]
 rfl
theorem Down.pm {ps:List Int} (T:Pr.Told b ps):ps.Perm ((List.range b.length).map fun(i:Nat)=>(i:Int)):=by
 have e:Pr.qw b b.length=(List.range b.length).map fun(i:Nat)=>(i:Int):=by
  unfold Pr.qw
  refine List.filter_eq_self.mpr λp hp=>?_
  obtain⟨i,hi,rfl⟩:=List.mem_map.mp hp
  have:=List.mem_range.mp hi
  exact decide_eq_true (D.rep ⟨by omega,by omega⟩)
 rw[<-e]
 exact T.pm
theorem Down.ahead {ps:List Int} (T:Pr.Told b ps) {i:Nat} {p g:Int} (e:ps[i]?=some p) (hg:g∈fZ b p):∃j,j<i/\ps[j]?=some g:=by
 have mp:=YN e
 have ip:=T.KL mp
 obtain⟨r,ig⟩:=D.RY ip hg
 have gk:g∈Pr.kb b p:=Pr.vL D.good ip (Pr.ja D.good ip) hg
 have le:=T.Ez D.good ip gk
 have ne:ps.idxOf (Pr.rep b g)≠ps.idxOf (Pr.rep b p):=λz=>by
  obtain⟨_,h2⟩:=(T.idx_eq D.good ip ig).mp z
  rcases D.kb ig h2 with h | h
  ·rw[h] at r;omega
  ·omega
 rw[D.rep ip,D.rep ig] at le ne
 have Yn:ps.idxOf p=i:=by
  have l:=ZW mp
  obtain⟨hi,Jl⟩:=List.getElem?_eq_some_iff.mp e
  exact(List.getElem_inj T.nd).mp ((ZU l).trans Jl.symm)
 have mg:g∈ps:=by have:=T.has D.good ig;rwa [D.rep ig] at this
 have l:=ZW mg
 exact⟨ps.idxOf g,by omega,by rw[YM l,ZU l]⟩
end DA
end Dg
namespace Dg
abbrev Sh:=Wq.Sh
abbrev Wy:=List (Int×Int)
noncomputable def vl (x:Sh):Rat:=(x.1:Rat) / (x.2:Rat)
theorem qG {a:Int} (h:0<a):(a:Rat)≠0:=λz=>by
 have:a=0:=Rat.intCast_inj.mp z
 omega
theorem sM {x:Sh} {a b:Int} (hx:0<x.2) (hb:0<b) (h:x.1*b=a*x.2):vl x=(a:Rat) / (b:Rat):=by
 have h1:=qG hx
 have h2:=qG hb
 have h3:(x.1:Rat)* (b:Rat)=(a:Rat)* (x.2:Rat):=by rw[<-Rat.intCast_mul,<-Rat.intCast_mul,h]
 unfold vl
 generalize (x.1:Rat)=u at *
 generalize (x.2:Rat)=v at *
 generalize (a:Rat)=s at *
 generalize (b:Rat)=t at *
 grind
theorem nv {a b:Int} (h:0<b):vl (Wq.low a b)=(a:Rat) / (b:Rat):=sM (Wq.c9 h).1 h (Nm.mz a b)
theorem CH {x y:Sh} (hx:0<x.2) (hy:0<y.2):vl (Wq.pl x y)=vl x+vl y:=by
 unfold Wq.pl
 rw[nv (Y9 hx hy)]
 have h1:=qG hx
 have h2:=qG hy
 rw[Rat.intCast_add,Rat.intCast_mul,Rat.intCast_mul,Rat.intCast_mul]
 unfold vl
 generalize (x.1:Rat)=u at *
 generalize (x.2:Rat)=v at *
 generalize (y.1:Rat)=s at *
 generalize (y.2:Rat)=t at *
 grind
theorem CI {x y:Sh} (hx:0<x.2) (hy:0<y.2):vl (Wq.tm x y)=vl x*vl y:=by
 unfold Wq.tm
 rw[nv (Y9 hx hy)]
 have h1:=qG hx
 have h2:=qG hy
 rw[Rat.intCast_mul,Rat.intCast_mul]
 unfold vl
 generalize (x.1:Rat)=u at *
 generalize (x.2:Rat)=v at *
 generalize (y.1:Rat)=s at *
 generalize (y.2:Rat)=t at *
 grind
theorem zy {x y:Sh} (hx:Wq.Lw x) (hy:Wq.Lw y) (h:vl x=vl y):x=y:=by
 have h1:=qG hx.1
 have h2:=qG hy.1
 have c:(x.1:Rat)* (y.2:Rat)=(y.1:Rat)* (x.2:Rat):=by
  unfold vl at h
  generalize (x.1:Rat)=u at *
  generalize (x.2:Rat)=v at *
  generalize (y.1:Rat)=s at *
  generalize (y.2:Rat)=t at *
  grind
 rw[<-Rat.intCast_mul,<-Rat.intCast_mul] at c
 obtain⟨a,b⟩:=Nm.Bc hx.1 hy.1 hx.2 hy.2 (Rat.intCast_inj.mp c)
 exact Prod.ext a b
noncomputable def tt (ws:Wy):Int:=if ws=[] then 1 else Wq.iy ws
noncomputable def BU (n:Nat) (ws:Wy):Prop:=ws.length<=3/\∀x∈ws,1<=x.1/\x.1<=3/\0<=x.2/\x.2< (n:Int)
theorem jS (x:Int×Int) (ws:Wy):Wq.iy (x::ws)=x.1+Wq.iy ws:=rfl
theorem qe:∀{ws:Wy},(∀x∈ws,1<=x.1/\x.1<=3)->(ws.length:Int)<=Wq.iy ws/\Wq.iy ws<=3* (ws.length:Int)
 | [],_=>⟨Zk _,Zk _⟩
 | x::ws,h=>by
  have ih:=qe (ws:=ws) λy hy=>h y (YU _ hy)
  have:=h x YW
  rw[jS,Y8]
  omega
theorem BU.tt {n:Nat} {ws:Wy} (h:BU n ws):1<=tt ws/\tt ws<=9:=by
 have:=qe λx hx=>⟨(h.2 x hx).1,(h.2 x hx).2.1⟩
 have l:=h.1
 unfold Dg.tt
 cases ws with
 | nil=>decide
 | cons x ws=>
  rw[if_neg (by simp)]
  rw[Y8] at this l
  omega
noncomputable def oA (d:Int) (v:Int->Rat):Wy->Rat
 | []=>0
 | x::ws=>(x.1:Rat) / (d:Rat)*v x.2+oA d v ws
theorem cO {d:Int} {v v':Int->Rat}:∀{ws:Wy},(∀x∈ws,v x.2=v' x.2)->oA d v ws=oA d v' ws
 | [],_=>rfl
 | x::ws,h=>by
  unfold oA
  rw[h x YW,cO λy hy=>h y (YU _ hy)]
theorem vR {d:Int} (d0:0<d) {v:Int->Sh}:∀{ws:Wy} {a:Sh},0<a.2->(∀x∈ws,0< (v x.2).2)->0< (Wq.mV d v a ws).2/\vl (Wq.mV d v a ws)=vl a+oA d (λi=>vl (v i)) ws
 | [],a,h,_=>⟨h,by show vl a=vl a+0;grind⟩
 | x::ws,a,h,hv=>by
  have hx:=hv x YW
  have lw:=Wq.c9 (a:=x.1) d0
  have t0:0< (Wq.tm (Wq.low x.1 d) (v x.2)).2:=(Wq.c9 (Y9 lw.1 hx)).1
  have p0:0< (Wq.pl a (Wq.tm (Wq.low x.1 d) (v x.2))).2:=(Wq.c9 (Y9 h t0)).1
  obtain⟨i1,i2⟩:=vR d0 (v:=v) (ws:=ws) p0 λy hy=>hv y (YU _ hy)
  refine⟨i1,?_⟩
  show vl (Wq.mV d v (Wq.pl a (Wq.tm (Wq.low x.1 d) (v x.2))) ws)=vl a+ ((x.1:Rat) / (d:Rat)*vl (v x.2)+oA d (λi=>vl (v i)) ws)
  rw[i2,CH h t0,CI lw.1 hx,nv d0]
  grind
abbrev Bk:=List Int×Int
noncomputable def val (S:Bk) (q:Int):Rat:=(S.1.getD q.toNat 0:Rat) / (S.2:Rat)
noncomputable def qx (ts:List Int) (ws:Wy):Int:=(ws.map λx=>x.1*ts.getD x.2.toNat 0).sum
noncomputable def jd (gt:List Int) (G:Int) (ws:Wy) (S:Bk) (p:Nat):Bk:=
 ((S.1.map (·*tt ws)).set p (tt ws*gt.getD p 0* (S.2 / G)+qx S.1 ws),S.2*tt ws)
theorem dO (ts:List Int) (d:Int) (q:Nat):(ts.map (·*d)).getD q 0=ts.getD q 0*d:=by
 rw[YV,YV,YQ]
 cases ts[q]? with
 | none=>show(0:Int)=0*d;omega
 | some x=>rfl
theorem cQ {ts:List Int} {p q:Nat} {x:Int} (h:p≠q):(ts.set p x).getD q 0=ts.getD q 0:=by
 rw[YV,YV,Zm h]
theorem cR {ts:List Int} {p:Nat} {x:Int} (h:p<ts.length):(ts.set p x).getD p 0=x:=by
 rw[YV,Zv h]
 rfl
theorem sN {S:Bk} (B0:0<S.2) {d:Int} (d0:0<d):∀ws:Wy,(qx S.1 ws:Rat) / ((S.2*d:Int):Rat)=oA d (val S) ws
 | []=>by show((0:Int):Rat) / _=0;grind
 | x::ws=>by
  have ih:=sN B0 d0 ws
  have h1:=qG B0
  have h2:=qG d0
  show(((x.1*S.1.getD x.2.toNat 0+qx S.1 ws:Int)):Rat) / ((S.2*d:Int):Rat)=(x.1:Rat) / (d:Rat)* ((S.1.getD x.2.toNat 0:Rat) / (S.2:Rat))+oA d (val S) ws
  rw[<-ih,Rat.intCast_add,Rat.intCast_mul,Rat.intCast_mul]
  generalize (x.1:Rat)=u at *
  generalize (S.2:Rat)=v at *
  generalize (d:Rat)=t at *
  generalize ((S.1.getD x.2.toNat 0:Int):Rat)=s at *
  generalize ((qx S.1 ws:Int):Rat)=r at *
  grind
theorem nA {gt:List Int} {G:Int} {ws:Wy} {S:Bk} {p:Nat} {q:Int} (d0:0<tt ws) (B0:0<S.2) (h:p≠q.toNat):val (jd gt G ws S p) q=val S q:=by
 unfold val jd
 rw[cQ h,dO,Rat.intCast_mul,Rat.intCast_mul]
 have h1:=qG B0
 have h2:=qG d0
 generalize (S.2:Rat)=v at *
 generalize (tt ws:Rat)=t at *
 generalize ((S.1.getD q.toNat 0:Int):Rat)=s at *
 grind
theorem zz {gt:List Int} {G:Int} {ws:Wy} {S:Bk} {p:Nat} {g:Rat} (d0:0<tt ws) (G0:0<G) (B0:0<S.2) (dv:G∣S.2) (hp:p<S.1.length) (hg:(gt.getD p 0:Rat) / (G:Rat)=g):val (jd gt G ws S p) (p:Int)=g+oA (tt ws) (val S) ws:=by
 rw[<-sN B0 d0 ws,<-hg]
 unfold val jd
 rw[YX,cR (by rw[YL];exact hp)]
 obtain⟨k,hk⟩:=dv
 have e:S.2 / G=k:=by rw[hk];exact Int.mul_ediv_cancel_left k (by omega)
 have k0:0<k:=by
  rw[hk] at B0
  exact Int.pos_of_mul_pos_right B0 G0
 rw[e,hk,Rat.intCast_add,Rat.intCast_mul,Rat.intCast_mul,Rat.intCast_mul,Rat.intCast_mul]
 have h1:=qG G0
 have h2:=qG d0
 have h3:=qG k0
 generalize (k:Rat)=v at *
 generalize (G:Rat)=u at *
 generalize (tt ws:Rat)=t at *
 generalize ((gt.getD p 0:Int):Rat)=s at *
 generalize ((qx S.1 ws:Int):Rat)=r at *
 grind
end Dg
namespace Dg
theorem RZ:((1:Int):Rat) / ((1:Int):Rat)=1:=by
 have:((1:Int):Rat)=1:=rfl
 grind
theorem KN:((0:Int):Rat) / ((1:Int):Rat)=0:=by
 have:((0:Int):Rat)=0:=rfl
 grind
noncomputable def pr (d:Int) (q:Int):Wy->Rat
 | []=>0
 | x::ws=>(if x.2=q then (x.1:Rat) / (d:Rat) else 0)+pr d q ws
theorem lJ {d q:Int}:∀{ws:Wy},(∀x∈ws,x.2≠q)->pr d q ws=0
 | [],_=>rfl
 | x::ws,h=>by
  unfold pr
  rw[if_neg (h x YW),lJ λy hy=>h y (YU _ hy)]
  grind
theorem vS {d q:Int} {x:Int×Int}:∀{ws:Wy},pr d q (ws++ [x])=pr d q ws+if x.2=q then (x.1:Rat) / (d:Rat) else 0
 | []=>by show(if x.2=q then (x.1:Rat) / (d:Rat) else 0)+0=0+_;grind
 | y::ws=>by
  have:=vS (d:=d) (q:=q) (x:=x) (ws:=ws)
  show(if y.2=q then (y.1:Rat) / (d:Rat) else 0)+pr d q (ws++ [x])=(if y.2=q then (y.1:Rat) / (d:Rat) else 0)+pr d q ws+_
  rw[this]
  grind
noncomputable def Runs (W:Int->Wy):List Int->(Int->Rat)->(Int->Rat)->Prop
 | [],f,g=>∀q,0<=q->g q=f q
 | p::os,f,g=>∃f1,(∀q,0<=q->f1 q=f q+f p*pr (tt (W p)) q (W p))/\Runs W os f1 g
theorem Runs.snoc {W:Int->Wy} {p:Int} (p0:0<=p):∀{os:List Int} {f g h:Int->Rat},Runs W os f g->(∀q,0<=q->h q=g q+g p*pr (tt (W p)) q (W p))->Runs W (os++ [p]) f h
 | [],f,g,h,r,k=>⟨h,λq q0=>by rw[k q q0,r q q0,r p p0],λ_ _=>rfl⟩
 | _::_,_,_,_,⟨f1,h1,h2⟩,k=>⟨f1,h1,Runs.snoc p0 h2 k⟩
theorem Runs.congr {W:Int->Wy}:∀{os:List Int} {f g g':Int->Rat},Runs W os f g->(∀q,0<=q->g' q=g q)->Runs W os f g'
 | [],_,_,_,r,h=>λq q0=>by rw[h q q0,r q q0]
 | _::_,_,_,_,⟨f1,h1,h2⟩,h=>⟨f1,h1,Runs.congr h2 h⟩
noncomputable def uM (W:Int->Wy):List Int->Prop
 | []=>True
 | p::os=>0<=p/\(∀r∈p::os,∀x∈W r,x.2≠p)/\uM W os
theorem Runs.off {W:Int->Wy} {q:Int} (q0:0<=q):∀{os:List Int} {f g:Int->Rat},Runs W os f g->(∀r∈os,∀x∈W r,x.2≠q)->g q=f q
 | [],_,_,r,_=>r q q0
 | p::os,f,g,⟨f1,h1,h2⟩,k=>by
  rw[Runs.off q0 h2 λr hr=>k r (YU _ hr),h1 q q0,lJ (k p YW)]
  grind
noncomputable def nB (W:Int->Wy) (g:Int->Rat) (q:Int):List Int->Rat
 | []=>0
 | p::os=>g p*pr (tt (W p)) q (W p)+nB W g q os
theorem xq {W:Int->Wy} {g:Int->Rat} {q:Int} {os Cm:List Int} (h:os.Perm Cm):nB W g q os=nB W g q Cm:=by
 induction h with
 | nil=>rfl
 | cons x _ ih=>unfold nB;rw[ih]
 | swap x y l=>unfold nB;unfold nB;grind
 | trans _ _ i1 i2=>rw[i1,i2]
theorem nE {W:Int->Wy} {g g':Int->Rat} {q:Int}:∀{os:List Int},(∀p∈os,(∃x∈W p,x.2=q)->g p=g' p)->nB W g q os=nB W g' q os
 | [],_=>rfl
 | p::os,h=>by
  unfold nB
  rw[nE λr hr=>h r (YU _ hr)]
  by_cases c:∃x∈W p,x.2=q
  ·rw[h p YW c]
  ·rw[lJ λx hx z=>c ⟨x,hx,z⟩]
   grind
theorem Runs.sum {W:Int->Wy}:∀{os:List Int} {f g:Int->Rat},Runs W os f g->uM W os->∀q,0<=q->g q=f q+nB W g q os
 | [],f,g,r,_,q,q0=>by
  show g q=f q+0
  rw[r q q0]
  grind
 | p::os,f,g,⟨f1,h1,h2⟩,⟨p0,t1,t2⟩,q,q0=>by
  have ih:=Runs.sum h2 t2 q q0
  have e:g p=f p:=by
   rw[Runs.off p0 h2 λr hr=>t1 r (YU _ hr),h1 p p0,lJ (t1 p YW)]
   grind
  show g q=f q+ (g p*pr (tt (W p)) q (W p)+nB W g q os)
  rw[e]
  rw[h1 q q0] at ih
  grind
theorem Runs.uniq {W:Int->Wy} {os Cm:List Int} {f f' g g':Int->Rat} (r:Runs W os f g) (r':Runs W Cm f' g') (t:uM W os) (t':uM W Cm) (pm:os.Perm Cm) (hf:∀q,0<=q->f q=f' q) (rk:Int->Nat) (n:Nat)
  (hn:∀p∈os,rk p<n/\0<=p) (dn:∀p∈os,∀x∈W p,rk x.2<rk p):∀(m:Nat) (q:Int),0<=q->n<=rk q+m->g q=g' q
 | m,q,q0,hm=>by
  rw[Runs.sum r t q q0,Runs.sum r' t' q q0,hf q q0,<-xq pm]
  congr 1
  refine nE λp hp ⟨x,hx,e⟩=>?_
  have h1:=dn p hp x hx
  have h2:=hn p hp
  rw[e] at h1
  cases m with
  | zero=>omega
  | succ m=>exact Runs.uniq r r' t t' pm hf rk n hn dn m p h2.2 (by omega)
noncomputable def addW (c:Int):Wy->List Int->List Int
 | [],ts=>ts
 | x::ws,ts=>addW c ws (ts.set x.2.toNat (ts.getD x.2.toNat 0+c*x.1))
theorem nF (c:Int):∀(ws:Wy) (ts:List Int),(addW c ws ts).length=ts.length
 | [],_=>rfl
 | x::ws,ts=>by
  unfold addW
  rw[nF c ws,Y5]
theorem pF (c:Int) (x:Int×Int):∀(ws:Wy) (ts:List Int),addW c (ws++ [x]) ts=(addW c ws ts).set x.2.toNat ((addW c ws ts).getD x.2.toNat 0+c*x.1)
 | [],_=>rfl
 | y::ws,ts=>pF c x ws _
noncomputable def oB (q:Int) (ws:Wy):Int:=(ws.map λx=>if x.2=q then x.1 else 0).sum
theorem nG {c q:Int} (q0:0<=q):∀{ws:Wy} {ts:List Int},(∀x∈ws,0<=x.2/\x.2< (ts.length:Int))->(addW c ws ts).getD q.toNat 0=ts.getD q.toNat 0+c*oB q ws
 | [],ts,_=>by show _=_+c*0;rw[Int.mul_zero,Int.add_zero];rfl
 | x::ws,ts,h=>by
  obtain⟨x0,x1⟩:=h x YW
  have ih:=nG (c:=c) q0 (ws:=ws) (ts:=ts.set x.2.toNat (ts.getD x.2.toNat 0+c*x.1)) λy hy=>by rw[Y5];exact h y (YU _ hy)
  show(addW c ws _).getD q.toNat 0=ts.getD q.toNat 0+c* ((if x.2=q then x.1 else 0)+oB q ws)
  rw[ih,Int.mul_add]
  by_cases e:x.2=q
  ·subst e
   rw[cR (by omega),if_pos rfl]
   omega
  ·rw[cQ (by omega),if_neg e]
   omega
theorem vT {d q:Int} (d0:0<d):∀ws:Wy,(oB q ws:Rat) / (d:Rat)=pr d q ws
 | []=>by show((0:Int):Rat) / _=0;grind
 | x::ws=>by
  have ih:=vT (q:=q) d0 ws
  have h1:=qG d0
  show(((if x.2=q then x.1 else 0)+oB q ws:Int):Rat) / (d:Rat)=(if x.2=q then (x.1:Rat) / (d:Rat) else 0)+pr d q ws
  rw[<-ih,Rat.intCast_add]
  split
  ·grind
  ·have:((0:Int):Rat)=0:=rfl
   grind
noncomputable def nH (ws:Wy) (S:Bk) (p:Nat):Bk:=if S.1.getD p 0=0 then S else (addW (S.1.getD p 0) ws ((S.1.map (·*tt ws)).set p (S.1.getD p 0*tt ws)),S.2*tt ws)
theorem xr {ws:Wy} {S:Bk} {p:Nat} {n:Nat} (B0:0<S.2) (hl:S.1.length=n) (hp:p<n) (w:BU n ws) {q:Int} (q0:0<=q):val (nH ws S p) q=val S q+val S (p:Int)*pr (tt ws) q ws:=by
 have d0:0<tt ws:=by have:=w.tt;omega
 have h1:=qG B0
 have h2:=qG d0
 unfold nH val
 rw[YX]
 by_cases c:S.1.getD p 0=0
 ·rw[if_pos c,c]
  have:((0:Int):Rat)=0:=rfl
  grind
 ·rw[if_neg c,nG q0 λx hx=>by rw[Y5,YL,hl];exact⟨(w.2 x hx).2.2.1,(w.2 x hx).2.2.2⟩,<-vT d0]
  have e:((S.1.map (·*tt ws)).set p (S.1.getD p 0*tt ws)).getD q.toNat 0=S.1.getD q.toNat 0*tt ws:=by
   by_cases e:p=q.toNat
   ·subst e
    rw[cR (by rw[YL];omega)]
   ·rw[cQ e,dO]
  rw[e,Rat.intCast_add,Rat.intCast_mul,Rat.intCast_mul,Rat.intCast_mul]
  generalize (S.2:Rat)=v at *
  generalize (tt ws:Rat)=t at *
  generalize ((S.1.getD p 0:Int):Rat)=s at *
  generalize ((S.1.getD q.toNat 0:Int):Rat)=r at *
  generalize (oB q ws:Rat)=u at *
  grind
end Dg
namespace Dg
theorem vU {B:Nat} (ts:List Int) (h:∀q,(ts.getD q 0).natAbs<=B):∀{ws:Wy},(∀x∈ws,1<=x.1/\x.1<=3)->(qx ts ws).natAbs<=(Wq.iy ws).toNat *B
 | [],_=>by show(0:Int).natAbs<=_;simp
 | x::ws,hw=>by
  have ih:=vU ts h (ws:=ws) λy hy=>hw y (YU _ hy)
  obtain⟨x0,x1⟩:=hw x YW
  have t0:=(qe (ws:=ws) λy hy=>hw y (YU _ hy)).1
  have e:(Wq.iy (x::ws)).toNat=x.1.toNat+ (Wq.iy ws).toNat:=by rw[jS];omega
  have m:(x.1*ts.getD x.2.toNat 0).natAbs<=x.1.toNat *B:=by
   rw[ZI,show x.1.natAbs=x.1.toNat by omega]
   exact Nat.mul_le_mul_left _ (h _)
  rw[e,Nat.add_mul]
  show(x.1*ts.getD x.2.toNat 0+qx ts ws).natAbs<=_
  omega
theorem EA {ws:Wy} (h:∀x∈ws,1<=x.1/\x.1<=3):(Wq.iy ws).toNat<=(tt ws).toNat:=by
 unfold tt
 cases ws with
 | nil=>decide
 | cons x ws=>rw[if_neg (by simp)];exact YO _
structure xG (n:Nat) (G:Int) (i:Nat) (S:Bk):Prop where
 len:S.1.length=n
 pos:0<S.2
 dv:G∣S.2
 bb:Bt (4*i+4) S.2
 bt:∀q,(S.1.getD q 0).natAbs<=S.2.toNat * (6*i)
theorem xG.start {n:Nat} {G:Int} (h:0<G) (k:G<=12):xG n G 0 (List.replicate n 0,G):=by
 refine⟨ZD,h,Int.dvd_refl _,Bt.of 12 (by omega) (by omega),λq=>?_⟩
 rw[YV,ZZ]
 split <;>simp
theorem Bt.zA {m:Nat} {a d:Int} (h:Bt m a) (d0:1<=d) (d1:d<=9):Bt (m+4) (a*d):=h.mul (Bt.of 9 (by omega) (by omega))
theorem xG.step {n:Nat} {G:Int} {i p:Nat} {S:Bk} {ws:Wy} {gt:List Int} (W:xG n G i S) (w:BU n ws) (G0:0<G) (hg:(gt.getD p 0).natAbs<=6*G.toNat):xG n G (i+1) (jd gt G ws S p):=by
 obtain⟨d0,d1⟩:=w.tt
 have hw:∀x∈ws,1<=x.1/\x.1<=3:=λx hx=>⟨(w.2 x hx).1,(w.2 x hx).2.1⟩
 have W0:=W.pos
 have nn:(S.2*tt ws).toNat=S.2.toNat * (tt ws).toNat:=Int.toNat_mul (by omega) (by omega)
 have old:∀q,(S.1.getD q 0*tt ws).natAbs<=(S.2*tt ws).toNat * (6* (i+1)):=λq=>by
  rw[ZI,nn,Nat.mul_right_comm,show(tt ws).natAbs=(tt ws).toNat by omega]
  exact Nat.mul_le_mul_right _ (Y2 (W.bt q) (Nat.mul_le_mul_left _ (by omega)))
 refine⟨by unfold jd;rw[Y5,YL,W.len],Y9 W0 (by omega),Int.dvd_trans W.dv (Int.dvd_mul_right _ _),?_,λq=>?_⟩
 ·have:=Bt.zA W.bb d0 d1
  rw[show 4* (i+1)+4=4*i+4+4 by omega]
  exact this
 ·show(((S.1.map (·*tt ws)).set p (tt ws*gt.getD p 0* (S.2 / G)+qx S.1 ws)).getD q 0).natAbs<=(S.2*tt ws).toNat * (6* (i+1))
  by_cases e:p=q
  ·subst e
   by_cases l:p<S.1.length
   ·rw[cR (by rw[YL];exact l)]
    have s:=vU S.1 W.bt hw
    have s2:=Nat.mul_le_mul_right (S.2.toNat * (6*i)) (EA hw)
    obtain⟨k,hk⟩:=W.dv
    have ek:S.2 / G=k:=by rw[hk];exact Int.mul_ediv_cancel_left k (by omega)
    have k0:0<k:=by rw[hk] at W0;exact Int.pos_of_mul_pos_right W0 G0
    have eS:S.2.toNat=G.toNat *k.toNat:=by rw[hk];exact Int.toNat_mul (by omega) (by omega)
    have g:(tt ws*gt.getD p 0* (S.2 / G)).natAbs<=(tt ws).toNat *S.2.toNat *6:=by
     rw[ek,ZI,ZI,eS,show(tt ws).natAbs=(tt ws).toNat by omega,show k.natAbs=k.toNat by omega]
     calc (tt ws).toNat * (gt.getD p 0).natAbs*k.toNat<=(tt ws).toNat * (6*G.toNat)*k.toNat:=Nat.mul_le_mul_right _ (Nat.mul_le_mul_left _ hg)
      _=(tt ws).toNat * (G.toNat *k.toNat)*6:=by grind
    have e2:S.2.toNat * (tt ws).toNat * (6* (i+1))=(tt ws).toNat *S.2.toNat *6+ (tt ws).toNat * (S.2.toNat * (6*i)):=by grind
    rw[nn,e2]
    omega
   ·rw[YV,Y1 (by rw[Y5,YL];omega)]
    exact Y0 _
  ·rw[cQ e,dO]
   exact old q
theorem xG.zB {n:Nat} {G:Int} {i:Nat} {S:Bk} (W:xG n G i S) (h:i<=60) (q:Nat):Bt (4*i+13) (S.1.getD q 0):=by
 have b1:=W.bb
 have:Bt 9 (360:Int):=Bt.of 360 (by decide) (by decide)
 have b2:=b1.mul this
 rw[show 4*i+13=4*i+4+9 by omega]
 refine b2.le (Y2 (W.bt q) ?_)
 rw[ZI]
 have:=W.pos
 rw[show S.2.natAbs=S.2.toNat by omega]
 exact Nat.mul_le_mul_left _ (by show 6*i<=360;omega)
structure zC (n:Nat) (i:Nat) (S:Bk):Prop where
 len:S.1.length=n
 pos:0<S.2
 bb:Bt (4*i+1) S.2
 bt:∀q,(S.1.getD q 0).natAbs<=32^i
theorem zC.start {n p:Nat}:zC n 0 ((List.replicate n (0:Int)).set p 1,1):=by
 refine⟨by rw[Y5,ZD],by show(0:Int)<1;decide,show Bt 1 (1:Int) from Bt.of 1 (by decide) (by decide),λq=>?_⟩
 show(((List.replicate n (0:Int)).set p 1).getD q 0).natAbs<=1
 rw[YV,List.getElem?_set,ZZ]
 split
 ·split
  ·decide
  ·decide
 ·split
  ·decide
  ·decide
theorem vV {q:Int}:∀{ws:Wy},(∀x∈ws,1<=x.1/\x.1<=3)->0<=oB q ws/\oB q ws<=3* (ws.length:Int)
 | [],_=>⟨Zk _,Zk _⟩
 | x::ws,h=>by
  have ih:=vV (q:=q) (ws:=ws) λy hy=>h y (YU _ hy)
  have:=h x YW
  show 0<=(if x.2=q then x.1 else 0)+oB q ws/\(if x.2=q then x.1 else 0)+oB q ws<=_
  rw[Y8]
  split <;>omega
theorem zC.step {n i p:Nat} {S:Bk} {ws:Wy} (V:zC n i S) (w:BU n ws):zC n (i+1) (nH ws S p):=by
 obtain⟨d0,d1⟩:=w.tt
 have V0:=V.pos
 have pw:32^ (i+1)=32^i*32:=Nat.pow_succ ..
 unfold nH
 by_cases c:S.1.getD p 0=0
 ·rw[if_pos c]
  exact⟨V.len,V0,V.bb.mono (by omega),λq=>by have:=V.bt q;omega⟩
 ·rw[if_neg c]
  refine⟨by rw[nF,Y5,YL,V.len],Y9 V0 (by omega),?_,λq=>?_⟩
  ·have:=Bt.zA V.bb d0 d1
   rw[show 4* (i+1)+1=4*i+1+4 by omega]
   exact this
  ·have g:=nG (c:=S.1.getD p 0) (q:=(q:Int)) (by omega) (ws:=ws) (ts:=(S.1.map (·*tt ws)).set p (S.1.getD p 0*tt ws)) λx hx=>by rw[Y5,YL,V.len];exact⟨(w.2 x hx).2.2.1,(w.2 x hx).2.2.2⟩
   rw[YX] at g
   show((addW (S.1.getD p 0) ws ((S.1.map (·*tt ws)).set p (S.1.getD p 0*tt ws))).getD q 0).natAbs<=_
   rw[g]
   have m:∀x,(S.1.getD x 0*tt ws).natAbs<=32^i*9:=λx=>by
    rw[ZI]
    exact Nat.mul_le_mul (V.bt x) (by omega)
   have h1:(((S.1.map (·*tt ws)).set p (S.1.getD p 0*tt ws)).getD q 0).natAbs<=32^i*9:=by
    by_cases e:p=q
    ·subst e
     by_cases l:p<S.1.length
     ·rw[cR (by rw[YL];exact l)]
      exact m p
     ·rw[YV,Y1 (by rw[Y5,YL];omega)]
      exact Y0 _
    ·rw[cQ e,dO]
     exact m q
   have h2:(S.1.getD p 0*oB (q:Int) ws).natAbs<=32^i*9:=by
    rw[ZI]
    have:=vV (q:=(q:Int)) λx hx=>⟨(w.2 x hx).1,(w.2 x hx).2.1⟩
    have:=w.1
    exact Nat.mul_le_mul (V.bt p) (by omega)
   omega
theorem zC.zB {n i:Nat} {S:Bk} (V:zC n i S) (q:Nat):Bt (5*i+1) (S.1.getD q 0):=by
 have:=V.bt q
 unfold Bt
 have e:2^ (5*i+1)=32^i*2:=by rw[Nat.pow_succ,Nat.pow_mul]
 have:0<32^i:=Nat.pow_pos (by decide)
 omega
end Dg
noncomputable def zD:Sp:=λvs H Q _=>∃(a q:Addr) (d:Int) (r:List V),vs=[.ref a,.int 0]/\H a=some (.lst [.ref q])/\H q=some (.lst (.int d::r))/\d≠0/\Q (.int 0) H
noncomputable def zE:Sp:=λvs H Q _=>∃(a q:Addr),vs=[.ref a,.int 0,.int 0]/\H a=some (.lst [.ref q])/\∀p H',ar H H'->H' p=some (.lst [.ref q])->Q (.ref p) H'
noncomputable def zF:Sp:=λvs H Q _=>∃(a q:Addr) (d s l:Int),vs=[.ref a,.int 0,.int l]/\H a=some (.lst [.ref q])/\H q=some (.lst [.int d,.int s])/\∀p t H',ar H H'->H' p=some (.lst [.ref t])->H' t=some (.lst [.int s])->Q (.ref p) H'
noncomputable def zG:Sp:=λvs H Q _=>∃(a q:Addr) (d s:Int),vs=[.ref a,.int 1]/\H a=some (.lst [.ref q])/\H q=some (.lst [.int d,.int s])/\d≠0/\∀u p t H',ar H H'->H' u=some (.tup [.ref p,.int 1,.int d])->H' p=some (.lst [.ref t])->H' t=some (.lst [.int s])->Q (.ref u) H'
noncomputable def sO:Sp:=λvs H Q _=>∃(a c q:Addr) (d s:Int),vs=[.ref a,.ref c]/\H a=some (.lst [.ref q])/\H q=some (.lst [.int d])/\H c=some (.lst [.int s])/\0<d/\∀u p H',ar H H'->H' u=some (.tup [.ref p,.int d])->H' p=some (.lst [.int s])->Q (.ref u) H'
noncomputable def Gs (g:Wq.Sh):Prop:= -6<=g.1/\g.1<=6/\g.2<=4/\Wq.Lw g
noncomputable def CJ (n:Nat):Pl->Prop
 | .fin g=>Gs g
 | .gz g ws=>Gs g/\0<ws.length/\Dg.BU n ws
 | .ft rC to=>(rC=1\/rC=2)/\0<to.length/\to.length<=3/\∀g∈to,0<=g/\g< (n:Int)
structure tO (b:List Pl) (rk:Int->Nat):Prop where
 pos:0<b.length
 len:b.length<=60
 ok:∀q∈b,CJ b.length q
 dn:Dg.Down b rk
theorem CJ.oW {n:Nat} {q:Pl} (h:CJ n q):(Lv.fb q).length<=3:=by
 cases q with
 | fin g=>exact Y0 _
 | gz g ws=>simp only[Lv.fb,YL];exact h.2.2.1
 | ft w to=>exact h.2.2.1
theorem tO.oW {b:List Pl} {rk:Int->Nat} (B:tO b rk):∀q∈b,(Lv.fb q).length<=100:=λq hq=>by have:=(B.ok q hq).oW;omega
theorem tO.bd {b:List Pl} {rk:Int->Nat} (B:tO b rk):Bd b:=⟨by have:=B.len;omega,B.oW,B.dn.good⟩
noncomputable def gX:Pl->Option Int->Dg.Wy
 | .fin _,_=>[]
 | .gz _ ws,_=>ws
 | .ft _ to,k=>[(1,to.getD (k.getD 0).toNat 0)]
noncomputable def qy:Pl->Option Int->Prop
 | .ft _ to,some k=>0<=k/\k< (to.length:Int)
 | .ft _ _,none=>False
 | _,_=>True
noncomputable def zH (ws:Dg.Wy):Dat:=.lst (ws.map bw)
theorem d8 {n:Nat} {q:Pl} {k:Option Int} (h:CJ n q) (hk:qy q k):Dg.BU n (gX q k)/\∀x∈gX q k,x.2∈Lv.fb q:=by
 cases q with
 | fin g=>exact⟨⟨Y0 _,by simp [gX]⟩,by simp [gX]⟩
 | gz g ws=>exact⟨h.2.2,λx hx=>List.mem_map.mpr ⟨x,hx,rfl⟩⟩
 | ft w to=>
  cases k with
  | none=>exact hk.elim
  | some k=>
   have hl:k.toNat<to.length:=by have:=hk.1;have:=hk.2;omega
   have m:to.getD k.toNat 0∈to:=by rw[YV,YM hl];exact Zc hl
   have e:gX (.ft w to) (some k)=[(1,to.getD k.toNat 0)]:=rfl
   rw[e]
   refine⟨⟨by show 1<=3;omega,λx hx=>?_⟩,λx hx=>?_⟩
   ·rw[List.mem_singleton.mp hx]
    exact⟨by show(1:Int)<=1;omega,by show(1:Int)<=3;omega,h.2.2.2 _ m⟩
   ·rw[List.mem_singleton.mp hx]
    exact m
noncomputable def oC (b:List Pl) (ks:List (Option Int)):List Dg.Wy:=List.zipWith gX b ks
noncomputable def qz (C:Addr) (H:Hp) (x:Addr) (S:Dg.Bk):Prop:=∃dx m,H x=some (.ins C dx [("tops",.ref m),("bottom",.int S.2)])/\H m=some (.lst (S.1.map V.int))
theorem qz.mono {C:Addr} {H H':Hp} {x:Addr} {S:Dg.Bk} (s:ar H H') (h:qz C H x S):qz C H' x S:=by
 obtain⟨dx,m,h1,h2⟩:=h
 exact⟨dx,m,s _ _ h1,s _ _ h2⟩
noncomputable def xt:Sp:=λvs H Q _=>∃a b,vs=[.int a,.int b]/\Q (.int (Nm.g a b)) H
noncomputable def EB:Sp:=λvs H Q _=>∃a b,vs=[.int a,.int b]/\Bt 5000 b/\0<b/\∀p H',ar H H'->H p=none->H' p=some (.tup (Pr (Nm.st a b) (Nm.sb a b)))->Q (.ref p) H'
noncomputable def EC:Sp:=λvs H Q _=>∃(a:Addr) (ws:List Wq.Sh) (Z:Int),vs=[.ref a]/\Rep H (.lst (ws.map bw)) (.ref a)/\ws.length<=60/\(∀x∈ws,0<x.2/\x.2∣Z)/\0<Z/\Bt 2000 Z/\Q (.int (Wq.eC 1 ws)) H
noncomputable def zI:Sp:=λvs H Q _=>∃(a x:Addr) (b:List Pl) (p:Nat),vs=[.ref a,.ref x]/\Rep H (w5 b) (.ref a)/\H x=some (.lst [.int (p:Int)])/\p<b.length/\(∀q∈b,(Lv.fb q).length<=3)/\∀k,k<=4096->Q (.int k) H
noncomputable def sP (tp:Addr):Sp:=λvs H Q _=>∃(a:Addr) (b:List Pl) (rk:Int->Nat),vs=[.ref a]/\Rep H (w5 b) (.ref a)/\tO b rk/\H tp=some (.pJ dsc)/\
 ∀l ps as H',Pr.Told b ps->ar H H'->H l=none->H' l=some (.lst (List.map V.ref as))->Al (λp v=>∃x,v=.ref x/\H' x=some (.lst [.int p])) ps (as.map V.ref)->Q (.ref l) H'
noncomputable def vW:Sp:=λvs H Q _=>∃(v:V) (q:Pl) (k:Option Int),vs=[v,du k]/\Rep H (qg q) v/\qy q k/\∀l H',ar H H'->Rep H' (zH (gX q k)) (.ref l)->Q (.ref l) H'
noncomputable def zJ:Sp:=λvs H Q _=>∃(a c:Addr) (b:List Pl) (ks:List (Option Int)),vs=[.ref a,.ref c]/\Rep H (w5 b) (.ref a)/\b.length<=60/\H c=some (.lst (ks.map du))/\ks.length=b.length/\(∀(i:Nat) q k,b[i]?=some q->ks[i]?=some k->qy q k)/\
 ∀l xs H',ar H H'->H l=none->H' l=some (.lst xs)->bq (o6 H' l) ((oC b ks).map zH) xs->Q (.ref l) H'
noncomputable def uN:Sp:=λvs H Q _=>∃(a:Addr) (ws:Dg.Wy),vs=[.ref a]/\Rep H (zH ws) (.ref a)/\ws.length<=3/\∀H',ar H H'->Q (.int (Dg.tt ws)) H'
noncomputable def sQ:Sp:=λvs H Q _=>∃(x wl:Addr) (p:Nat) (xs:List V) (zK:List Dg.Wy) (ws:Dg.Wy),vs=[.ref x,.ref wl]/\H x=some (.lst [.int (p:Int)])/\H wl=some (.lst xs)/\bq H (zK.map zH) xs/\zK[p]?=some ws/\ws.length<=3/\(∀y∈ws,y.2≠(p:Int))/\
 ∀r t H',ar H H'->H' r=some (.lst [.ref t])->H' t=some (.lst [.int (Dg.tt ws)])->Q (.ref r) H'
noncomputable def zL (C:Addr):Sp:=λvs H Q _=>∃(x dx l:Addr) (ts:List Int) (b:Int),vs=[.ref x,.ref l,.int b]/\H x=some (.ins C dx [])/\H l=some (.lst (ts.map V.int))/\
 ∀m H',H m=none->H' m=some (.lst (ts.map V.int))->H' x=some (.ins C dx [("tops",.ref m),("bottom",.int b)])->(∀y o,y≠x->H y=some o->H' y=some o)->Q .bV H'
noncomputable def zM (C:Addr):Sp:=λvs H Q _=>∃(x:Addr) (S:Dg.Bk) (d:Int),vs=[.ref x,.int d]/\qz C H x S/\Bt 4000 d/\Bt 4000 S.2/\(∀t∈S.1,Bt 4000 t)/\S.1.length<=60/\
 ∀y dy m H',ar H H'->H y=none->H m=none->H' y=some (.ins C dy [("tops",.ref m),("bottom",.int (S.2*d))])->H' m=some (.lst ((S.1.map (·*d)).map V.int))->Q (.ref y) H'
noncomputable def ED (C:Addr):Sp:=λvs H Q _=>∃(x:Addr) (S:Dg.Bk),vs=[.ref x]/\qz C H x S/\0<S.2/\Bt 5000 S.2/\S.1.length<=60/\∀l H',ar H H'->H l=none->Rep H' (.lst ((S.1.map λt=>Wq.low t S.2).map bw)) (.ref l)->Q (.ref l) H'
noncomputable def EE:Sp:=λvs H Q _=>∃(a:V) (q:Pl),vs=[a]/\Rep H (qg q) a/\∀r H',ar H H'->H' r=some (.tup (Pr (Wq.cu q).1 (Wq.cu q).2))->Q (.ref r) H'
noncomputable def EF (C:Addr):Sp:=λvs H Q _=>∃(a:Addr) (ws:List Wq.Sh) (Z:Int),vs=[.ref a]/\Rep H (.lst (ws.map bw)) (.ref a)/\ws.length<=60/\(∀x∈ws,0<x.2/\x.2∣Z/\Bt 4000 x.1)/\0<Z/\Bt 2000 Z/\
 ∀x H',ar H H'->qz C H' x (ws.map (Wq.sc (Wq.eC 1 ws)),Wq.eC 1 ws)->Q (.ref x) H'
noncomputable def gB (b:List Pl):Int:=Wq.eC 1 (b.map Wq.cu)
noncomputable def gT (b:List Pl):List Int:=(b.map Wq.cu).map (Wq.sc (gB b))
noncomputable def zN (C:Addr):Sp:=λvs H Q _=>∃(a:Addr) (b:List Pl) (rk:Int->Nat),vs=[.ref a]/\Rep H (w5 b) (.ref a)/\tO b rk/\∀x H',ar H H'->qz C H' x (gT b,gB b)->Q (.ref x) H'
noncomputable def EG (C:Addr):Sp:=λvs H Q _=>∃(x:Addr) (S:Dg.Bk),vs=[.ref x]/\qz C H x S/\S.1.length<=60/\∀y H',ar H H'->qz C H' y (List.replicate S.1.length 0,S.2)->Q (.ref y) H'
noncomputable def EH (C:Addr):Sp:=λvs H Q _=>∃(bk gn pt wl:Addr) (S:Dg.Bk) (gt:List Int) (G:Int) (p n i:Nat) (xs:List V) (zK:List Dg.Wy) (ws:Dg.Wy),vs=[.ref bk,.ref gn,.ref pt,.ref wl]/\qz C H bk S/\qz C H gn (gt,G)/\H pt=some (.lst [.int (p:Int)])/\H wl=some (.lst xs)/\bq H (zK.map zH) xs/\zK[p]?=some ws/\Dg.BU n ws/\(∀y∈ws,y.2≠(p:Int))/\
 Dg.xG n G i S/\i<=60/\n<=60/\p<n/\gt.length=n/\0<G/\G<=12/\(∀q,(gt.getD q 0).natAbs<=6*G.toNat)/\
 ∀x H',ar H H'->qz C H' x (Dg.jd gt G ws S p)->Q (.ref x) H'
noncomputable def EqAt (b:List Pl) (ks:List (Option Int)) (p:Nat) (v:Int->Rat):Prop:=∀q k,b[p]?=some q->ks[p]?=some k->v (p:Int)=Dg.vl (Wq.cu q)+Dg.oA (Dg.tt (gX q k)) v (gX q k)
theorem zO {x:Int} (h:0<x) (k:x<=4):x∣12:=by
 have:x=1\/x=2\/x=3\/x=4:=by omega
 rcases this with rfl | rfl | rfl | rfl <;>decide
theorem gY {n:Nat} {q:Pl} (h:CJ n q):Gs (Wq.cu q):=by
 cases q with
 | fin g=>exact h
 | gz g ws=>exact h.1
 | ft w to=>exact⟨by show(-6:Int)<=0;decide,by show(0:Int)<=6;decide,by show(1:Int)<=4;decide,by show(0:Int)<1;decide,by show Nm.g 0 1=1;decide⟩
section WE
variable {b : List Pl} {rk : Int -> Nat} (B : tO b rk)
include B
theorem tO.bot:0<gB b/\gB b<=12/\∀q∈b,(Wq.cu q).2∣gB b:=by
 have h0:∀x∈b.map Wq.cu,0<x.2/\x.2∣12:=λx hx=>by
  obtain⟨q,hq,rfl⟩:=List.mem_map.mp hx
  obtain⟨_,_,g3,g4⟩:=gY (B.ok q hq)
  exact⟨g4.1,zO g4.1 g3⟩
 obtain⟨l1,l2,l3,l4⟩:=Wq.lH (xs:=b.map Wq.cu) (c:=1) (by decide) λx hx=>(h0 x hx).1
 have d:=l4 (Z:=12) ⟨12,by decide⟩ λx hx=>(h0 x hx).2
 exact⟨l1,ZE (by decide) d,λq hq=>l3 _ (List.mem_map.mpr ⟨q,hq,rfl⟩)⟩
theorem tO.top (p:Nat):((gT b).getD p 0).natAbs<=6* (gB b).toNat:=by
 obtain⟨g0,g1,g2⟩:=B.bot
 unfold gT
 rw[YV,YQ,YQ]
 cases e:b[p]? with
 | none=>exact Y0 _
 | some q=>
  have hq:=YN e
  obtain⟨h1,h2,h3,h4⟩:=gY (B.ok q hq)
  show(Wq.sc (gB b) (Wq.cu q)).natAbs<=_
  have:=Nm.dj (a:=gB b) h4.1 (g2 q hq)
  unfold Wq.sc
  rw[ZI]
  exact Nat.mul_le_mul (by omega) (by omega)
theorem tO.gV {p:Nat} {q:Pl} (e:b[p]?=some q):((gT b).getD p 0:Rat) / (gB b:Rat)=Dg.vl (Wq.cu q):=by
 obtain⟨g0,g1,g2⟩:=B.bot
 have hq:=YN e
 obtain⟨h1,h2,h3,h4⟩:=gY (B.ok q hq)
 have ee:(gT b).getD p 0=Wq.sc (gB b) (Wq.cu q):=by
  unfold gT
  rw[YV,YQ,YQ,e]
  rfl
 rw[ee]
 exact(Dg.sM h4.1 g0 (Wq.jP (g2 q hq)).symm).symm
theorem tO.off {p:Nat} {q:Pl} {k:Option Int} (e:b[p]?=some q) (pk:qy q k):∀y∈gX q k,y.2≠(p:Int):=λy hy z=>by
 have h1:=(d8 (B.ok q (YN e)) pk).2 y hy
 have h2:=B.dn.dn p q e _ h1
 rw[z] at h2
 omega
theorem BV {ks:List (Option Int)} {p i:Nat} {q:Pl} {k:Option Int} {S:Dg.Bk} (e:b[p]?=some q) (ek:ks[p]?=some k) (pk:qy q k) (W:Dg.xG b.length (gB b) i S):EqAt b ks p (Dg.val (Dg.jd (gT b) (gB b) (gX q k) S p)):=by
 intro q' k' e' AA
 rw[e] at e'
 rw[ek] at AA
 cases e'
 cases AA
 obtain⟨g0,_,_⟩:=B.bot
 obtain⟨eO,_⟩:=d8 (B.ok q (YN e)) pk
 have d0:0<Dg.tt (gX q k):=by have:=eO.tt;omega
 have hp:p<b.length:=(List.getElem?_eq_some_iff.mp e).1
 rw[Dg.zz d0 g0 W.pos W.dv (by rw[W.len];exact hp) (B.gV e)]
 congr 1
 refine Dg.cO λx hx=>?_
 refine(Dg.nA d0 W.pos λz=>?_).symm
 have:=B.off e pk x hx
 have:=(eO.2 x hx).2.2.1
 omega
theorem zP {ks:List (Option Int)} {p p' i:Nat} {q:Pl} {k:Option Int} {S:Dg.Bk} (e:b[p]?=some q) (pk:qy q k) (W:Dg.xG b.length (gB b) i S) (ne:p≠p') (hh:EqAt b ks p' (Dg.val S)) (KO:∀q' k',b[p']?=some q'->ks[p']?=some k'->∀x∈gX q' k',0<=x.2/\x.2≠(p:Int)):EqAt b ks p' (Dg.val (Dg.jd (gT b) (gB b) (gX q k) S p)):=by
 intro q' k' e' AA
 obtain⟨eO,_⟩:=d8 (B.ok q (YN e)) pk
 have d0:0<Dg.tt (gX q k):=by have:=eO.tt;omega
 rw[Dg.nA d0 W.pos (by omega),hh q' k' e' AA]
 congr 1
 refine Dg.cO λx hx=>?_
 refine(Dg.nA d0 W.pos λz=>?_).symm
 have:=KO q' k' e' AA x hx
 omega
theorem vX {ks:List (Option Int)} {v v':Int->Rat} (hk:ks.length=b.length) (pk:∀(i:Nat) q k,b[i]?=some q->ks[i]?=some k->qy q k) (h:∀p,EqAt b ks p v) (h':∀p,EqAt b ks p v'):∀(m p:Nat),rk (p:Int)<m->p<b.length->v (p:Int)=v' (p:Int)
 | 0,_,z,_=>absurd z (Nat.not_lt_zero _)
 | m+1,p,hm,hp=>by
  have e:b[p]?=some b[p]:=YM hp
  have ek:ks[p]?=some ks[p]:=YM (by omega)
  rw[h p _ _ e ek,h' p _ _ e ek]
  congr 1
  refine Dg.cO λx hx=>?_
  obtain⟨eO,wg⟩:=d8 (B.ok _ (YN e)) (pk p _ _ e ek)
  obtain⟨_,_,x3,x4⟩:=eO.2 x hx
  have r:=B.dn.dn p _ e _ (wg x hx)
  obtain⟨j,ej⟩:=ZA x3
  rw[ej] at r x4 ⊢
  exact vX hk pk h h' m j (by omega) (by omega)
end WE
noncomputable def G5 (tp:Addr):Sp:=λvs H Q _=>∃(a c:Addr) (b:List Pl) (rk:Int->Nat) (ks:List (Option Int)),vs=[.ref a,.ref c]/\Rep H (w5 b) (.ref a)/\tO b rk/\H c=some (.lst (ks.map du))/\ks.length=b.length/\(∀(i:Nat) q k,b[i]?=some q->ks[i]?=some k->qy q k)/\H tp=some (.pJ dsc)/\
 ∀l (ss:List Wq.Sh) H',ar H H'->H l=none->Rep H' (.lst (ss.map bw)) (.ref l)->ss.length=b.length->(∀x∈ss,Wq.Lw x/\Bt 5000 x.2)->(∀p,EqAt b ks p λi=>Dg.vl (Wq.d3 ss i))->Q (.ref l) H'
noncomputable def oE (b:List Pl) (ks:List (Option Int)) (p:Int):Dg.Wy:=(oC b ks).getD p.toNat []
noncomputable def EI (C:Addr):Sp:=λvs H Q _=>∃(bk pt wl:Addr) (S:Dg.Bk) (p n i:Nat) (xs:List V) (zK:List Dg.Wy) (ws:Dg.Wy),vs=[.ref bk,.ref pt,.ref wl]/\qz C H bk S/\H pt=some (.lst [.int (p:Int)])/\H wl=some (.lst xs)/\bq H (zK.map zH) xs/\zK[p]?=some ws/\Dg.BU n ws/\(∀y∈ws,y.2≠(p:Int))/\Dg.zC n i S/\i<=60/\n<=60/\p<n/\
 ∀x H',ar H H'->qz C H' x (Dg.nH ws S p)->Q (.ref x) H'
noncomputable def G6 (tp:Addr):Sp:=λvs H Q _=>∃(a c:Addr) (st:Nat) (b:List Pl) (rk:Int->Nat) (ks:List (Option Int)),vs=[.ref a,.ref c,.int (st:Int)]/\Rep H (w5 b) (.ref a)/\tO b rk/\H c=some (.lst (ks.map du))/\ks.length=b.length/\(∀(i:Nat) q k,b[i]?=some q->ks[i]?=some k->qy q k)/\H tp=some (.pJ dsc)/\st<b.length/\
 ∀l (ss:List Wq.Sh) (os:List Int) H',ar H H'->H l=none->Rep H' (.lst (ss.map bw)) (.ref l)->ss.length=b.length->(∀x∈ss,Wq.Lw x/\Bt 5000 x.2)->os.Perm ((List.range b.length).map fun(i:Nat)=>(i:Int))->Dg.uM (oE b ks) os->Dg.Runs (oE b ks) os (λq=>if q=(st:Int) then 1 else 0) (λq=>Dg.vl (Wq.d3 ss q))->Q (.ref l) H'
theorem zQ {t B:Int} (h:0<B) (b:Bt 4000 B):Wq.Lw (Wq.low t B)/\Bt 5000 (Wq.low t B).2:=by
 refine⟨Wq.c9 h,Bt.mono (b.le ?_) (by decide)⟩
 obtain⟨d,_⟩:=Wq.uG (a:=t) (s:=t) h h rfl
 have:=ZE h d
 have:=(Wq.c9 (a:=t) h).1
 omega
theorem qA {S:Dg.Bk} (h:0<S.2) (q:Int) (hq:q.toNat<S.1.length):Dg.vl (Wq.d3 (S.1.map λt=>Wq.low t S.2) q)=Dg.val S q:=by
 unfold Wq.d3 Dg.val
 rw[YV,YQ,YV,YM hq]
 exact Dg.nv h
theorem uO {b:List Pl} {ks:List (Option Int)} {p:Nat} {q:Pl} {k:Option Int} (e:b[p]?=some q) (ek:ks[p]?=some k):(oC b ks)[p]?=some (gX q k):=by
 unfold oC
 rw[List.getElem?_zipWith,e,ek]
theorem je {b:List Pl} {ks:List (Option Int)} {p:Nat} {q:Pl} {k:Option Int} (e:b[p]?=some q) (ek:ks[p]?=some k):oE b ks (p:Int)=gX q k:=by
 unfold oE
 rw[YX,YV,uO e ek]
 rfl
section WT
variable {b : List Pl} {rk : Int -> Nat} (B : tO b rk) {ps : List Int} (td : Pr.Told b ps)
include B td
theorem lK {i:Nat} (h:i<b.length):∃p:Nat,ps[i]?=some (p:Int)/\p<b.length:=by
 have lp:=(B.dn.pm td).length_eq
 rw[YL,Ze] at lp
 have e:ps[i]?=some ps[i]:=YM (by omega)
 obtain⟨p,hp,ep⟩:=List.mem_map.mp ((B.dn.pm td).mem_iff.mp (YN e))
 exact⟨p,by rw[e,<-ep],List.mem_range.mp hp⟩
theorem sS:ps.length=b.length:=by
 have lp:=(B.dn.pm td).length_eq
 rwa [YL,Ze] at lp
theorem sT {i j:Nat} {p:Int} (h:ps[i]?=some p) (h':ps[j]?=some p):i=j:=by
 obtain⟨h1,h2⟩:=List.getElem?_eq_some_iff.mp h
 obtain⟨h3,h4⟩:=List.getElem?_eq_some_iff.mp h'
 exact(List.getElem_inj td.nd).mp (h2.trans h4.symm)
theorem sV {ks:List (Option Int)} (pk:∀(i:Nat) q k,b[i]?=some q->ks[i]?=some k->qy q k) {i j p p':Nat} (h:ps[i]?=some (p:Int)) (h':ps[j]?=some (p':Int)) (le:j<=i) {q':Pl} {k':Option Int} (e:b[p']?=some q') (ek:ks[p']?=some k'):∀x∈gX q' k',0<=x.2/\x.2≠(p:Int):=λx hx=>by
 obtain⟨eO,wg⟩:=d8 (B.ok _ (YN e)) (pk _ _ _ e ek)
 refine⟨(eO.2 x hx).2.2.1,λz=>?_⟩
 have hg:x.2∈Bf.fZ b (p':Int):=by
  unfold Bf.fZ
  rw[YX,e]
  exact wg x hx
 obtain⟨j',lt,e'⟩:=B.dn.ahead td h' hg
 rw[z] at e'
 have:=sT B td e' h
 omega
theorem pG {ks:List (Option Int)} (hk:ks.length=b.length) (pk:∀(i:Nat) q k,b[i]?=some q->ks[i]?=some k->qy q k):∀n,n<=b.length->Dg.uM (oE b ks) (ps.take n).reverse
 | 0,_=>trivial
 | n+1,h=>by
  obtain⟨p,ep,hp⟩:=lK B td (i:=n) (by omega)
  rw[Za,ep,List.reverse_append]
  refine⟨by omega,λr hr x hx=>?_,pG hk pk n (by omega)⟩
  have:∃j,j<=n/\ps[j]?=some r:=by
   rcases List.mem_cons.mp hr with rfl | hr
   ·exact⟨n,YO _,ep⟩
   ·obtain⟨j,hj⟩:=Y4 (List.mem_reverse.mp hr)
    have l:=(List.getElem?_eq_some_iff.mp hj).1
    rw[Zy] at l
    rw[List.getElem?_take_of_lt (by omega)] at hj
    exact⟨j,by omega,hj⟩
  obtain⟨j,lj,ej⟩:=this
  obtain⟨p',ju,jI⟩:=lK B td (i:=j) (by omega)
  rw[ej] at ju
  cases ju
  have e:b[p']?=some b[p']:=YM jI
  have ek:ks[p']?=some ks[p']:=YM (by omega)
  rw[je e ek] at hx
  exact(sV B td pk ep ej lj e ek x hx).2
end WT
noncomputable def CK (K:PySem.W.Frag):Sp:=λvs H Q _=>∃a ns k,vs=[.ref a,.int k]/\aR K H a (List.map V.int ns)/\0<=k/\k<1000/\∀n,Q (.int n) H
noncomputable def jf:Sp:=λvs H Q _=>∃c m,vs=[.int c,.int m]/\0<m/\∀r,0<=r->r<m->Q (.int r) H
noncomputable def gC:Sp:=λvs H Q _=>∃a b,vs=[.int a,.int b]/\0<b/\Bt 8900 b/\∀p H',ar H H'->H p=none->H' p=some (.tup (Pr (Nm.st a b) (Nm.sb a b)))->Q (.ref p) H'
noncomputable def Rm (a:Wq.Sh):Prop:=Bt 4000 a.1/\Bt 4000 a.2/\0<a.2
noncomputable def vY:Sp:=λvs H Q _=>∃p q a b,vs=[.ref p,.ref q]/\H p=some (.tup (Pr a.1 a.2))/\H q=some (.tup (Pr b.1 b.2))/\Rm a/\Rm b/\
 ∀r H',ar H H'->H r=none->H' r=some (.tup (Pr (Wq.pl a b).1 (Wq.pl a b).2))->Q (.ref r) H'
noncomputable def vZ:Sp:=λvs H Q _=>∃p q a b,vs=[.ref p,.ref q]/\H p=some (.tup (Pr a.1 a.2))/\H q=some (.tup (Pr b.1 b.2))/\Rm a/\Rm b/\
 ∀r H',ar H H'->H r=none->H' r=some (.tup (Pr (Wq.tm a b).1 (Wq.tm a b).2))->Q (.ref r) H'
noncomputable def zR:Sp:=λvs H Q _=>∃c n,vs=[.int c,.int n]/\0<n/\n<=60/\∀l H' s,ar H H'->H l=none->H' l=some (.lst (List.map cf s))->s.Perm (List.range n.toNat)->Q (.ref l) H'
noncomputable def EJ:Sp:=λvs H Q _=>∃p x y,vs=[.ref p]/\H p=some (.tup (Pr x y))/\0<y/\Bt 5000 y/\Nm.g x y=1/\∀H',ar H H'->Q (.bl true) H'
noncomputable def v3:Sp:=λvs H Q _=>∃(a:Addr) (ws:List (Int×Int)),vs=[.ref a,.int (ws.length:Nat)]/\Rep H (.lst (ws.map bw)) (.ref a)/\ws.length<=60/\(∀p∈ws,0<p.2/\Bt 5000 p.2/\Nm.g p.1 p.2=1)/\∀H',ar H H'->Q (.bl true) H'
noncomputable def uP (s:List Nat) (k:Nat) (q:Pl):Prop:=CJ s.length q/\∀g∈Lv.fb q,∃j,j<k/\s[j]?=some g.toNat/\0<=g
noncomputable def EK:Sp:=λvs H Q _=>∃(c:Int) (k:Nat) (l:Addr) (s:List Nat),vs=[.int c,.int (k:Int),.ref l]/\H l=some (.lst (List.map cf s))/\k<s.length/\s.length<=60/\(∀x∈s,x<s.length)/\∀v H' q,ar H H'->Rep H' (qg q) v->uP s k q->Q v H'
noncomputable def CL (K:PySem.W.Frag):Sp:=λvs H Q _=>∃(a l:Addr) (ns:List Int) (s:List Nat),vs=[.ref a,.int (s.length:Nat),.ref l]/\aR K H a (List.map V.int ns)/\H l=some (.lst (List.map cf s))/\s.Perm (List.range s.length)/\0<s.length/\s.length<=60/\
 ∀l' H' (b:List Pl),ar H H'->H l'=none->Rep H' (w5 b) (.ref l')->b.length=s.length->(∀(k:Nat) p q,s[k]?=some p->b[p]?=some q->uP s k q)->Q (.ref l') H'
noncomputable def Ft (H:Hp) (W:Int) (p:Int×Int) (x:V):Prop:=∃t r,x=.ref t/\H t=some (.tup [.ref r,.int p.2])/\H r=some (.tup (Pr (Wq.low p.1 W).1 (Wq.low p.1 W).2))
theorem Ft.mono {H H':Hp} {W:Int} {p:Int×Int} {x:V} (h:Ft H W p x) (s:ar H H'):Ft H' W p x:=by
 obtain⟨t,r,e,h1,h2⟩:=h
 exact⟨t,r,e,s _ _ h1,s _ _ h2⟩
noncomputable def v5:Sp:=λvs H Q _=>∃(v:V) (q:Pl) (n:Nat) (k:Option Int),vs=[v,du k]/\Rep H (qg q) v/\CJ n q/\qy q k/\
 ∀l us H',ar H H'->H l=none->H' l=some (.lst us)->us.length=(gX q k).length->(∀(j:Nat) p x,(gX q k)[j]?=some p->us[j]?=some x->Ft H' (Dg.tt (gX q k)) p x)->Q (.ref l) H'
noncomputable def v7 (K:PySem.W.Frag) (tp:Addr):Sp:=λvs H Q _=>∃(a:Addr) (ns:List Int),vs=[.ref a]/\H tp=some (.pJ dsc)/\aR K H a (ns.map V.int)/\ns.length<=63/\∀H',Q (.bl true) H'
section
variable {P : Program} {w : World} {K : PySem.W.Frag} {mg : Str -> Option Value} {base : Heap}
variable {aq tc tp : Addr}
theorem nI {H:Hp} {ws:List (Int×Int)} {xs:List V} (rl:bq H (ws.map bw) xs) {i:Nat} {x:V} (ex:xs[i]?=some x):∃p t,ws[i]?=some p/\x=.ref t/\H t=some (.tup [.int p.1,.int p.2]):=by
 obtain⟨d,ed,rd⟩:=rl.get ex
 rw[YQ] at ed
 obtain⟨p,ep,rfl⟩:=Option.map_eq_some_iff.mp ed
 obtain⟨t,rfl,ht⟩:=bW.mp rd
 exact⟨p,t,ep,rfl,ht⟩
theorem sW:aI ["place"] ["place"] (ab (top 1)):=⟨rfl,rfl,rfl,by decide +kernel,rfl,by decide +kernel,by decide +kernel⟩
theorem zS (T:Txt K mg aq tc):bN P w K mg base (bC P w) 1 "goals" ["place"] sI:=by
 refine T.BJ.dZ (λ_ _ _ _ _ _=>iz λ_=>rfl) λf fd F=>F.d4 sW (λvs H Q E h=>?_) (λb9 A outer s H vs Q E hr h=>?_)
 ·obtain⟨_,_,rfl,_⟩:=h;rfl
 ·obtain⟨v,q,rfl,rq,lq,kk⟩:=h
  have nd:=sW.nd
  refine⟨_,(ae (bS (aQ df (aA aJ (pv 0) aj (λ_ _=>rfl)) cN (aW _)) (ao (aH (bD rfl (N:=["place"]) (so:=ab (top 1)) (N':=["weight","to"]) (k:=2) (fr:=[]) rfl rfl ⟨rfl,by decide +kernel,by decide +kernel,by decide +kernel,rfl,by decide +kernel,by decide +kernel⟩ (aP (K:=K) (aA aJ (pv 0) aj (λ_ _=>rfl))) (λ_ _ _ _ _=>(bK (K:=K) (n:=2) rfl (aK (aw (i:=0) (show(["weight","to"]:List Str).Nodup by decide +kernel) rfl (Or.inl rfl)) (aK (aw (i:=1) (show(["weight","to"]:List Str).Nodup by decide +kernel) rfl (Or.inl rfl)) bJ)))) (λ_ _ _ _ _=>bf)
   (λ_ _ _ _ _=>(pv 1)))))
   aZ)
  (ae (bS (aQ df (aA aJ (pv 0) aj (λ_ _=>rfl)) cN (aW _)) (ao (aH (cP (bX (K:=K)) (by rfl) T.z_list rfl (aa (aA aJ (pv 0) aj (λ_ _=>rfl)) af (se rfl)) (he:=se rfl) (hpl:=na rfl))))
   aZ)
  (ao (aH (cU af))))),?_⟩
  cases q with
  | fin w=>
   obtain⟨p,r,rfl,hp,_⟩:=cF.mp rq
   simp_all only[hp]
   rw[if_neg (by decide +kernel),if_neg (by decide +kernel)]
   exact⟨Y0 _,λl nl=>kk _ _ (ah nl) nl ag⟩
  | gz w ws=>
   obtain⟨p,r,l,xs,rfl,hp,_,hl,rl⟩:=cG.mp rq
   simp_all only[hp]
   refine⟨⟨_,aR.of hl⟩,?_⟩
   have lx:=rl.length
   rw[YL] at lx
   have S:Src (tT K l) (ar H) ws.length (λi x H H3=>H3=H/\xs[i]?=some x):=by rw[lx];exact src_list (λH' s'=>aR.of (s' _ _ hl))
   refine fo ws (λp=>some p.2) S (λ_ _ _ _ h=>h.1) (by rw[sizeLine_eq];have:ws.length<=100:=(by simpa [Lv.fb] using lq);omega) ?_ ?_
   ·rintro i p x ep ⟨_,ex⟩
    obtain⟨p',t,ju,rfl,ht⟩:=nI rl ex
    rw[ep] at ju
    cases ju
    refine⟨t,_,_,rfl,dH.of ht,λY N y1 _=>?_⟩
    simp_all only[fk]
    exact y1 _ rfl
   ·intro D n1 n2
    rw[dM]
    exact kk _ _ (ah n2) n2 ag
  | ft w to=>
   obtain⟨p,l,rfl,hp,hl⟩:=cH.mp rq
   simp_all only[hp]
   rw[if_neg (by decide +kernel)]
   exact⟨_,.inl (aR.of hl),λm nm=>kk _ _ (ah nm) nm ag⟩
theorem BW {fs:Lv.Fs} {q:Pl}:Lv.Cw fs q=match q with | .gz _ _=>(Lv.fb q).any (λg=>(Lv.lk fs g).isSome) | _=>(Lv.fb q).all λg=>(Lv.lk fs g).isSome:=by
 cases q <;>rfl
theorem kc:aI ["place","found","levelled"] ["place","found"] (ab (top 2)):=⟨rfl,rfl,rfl,by decide +kernel,rfl,by decide +kernel,by decide +kernel⟩
theorem EL (T:Txt K mg aq tc):bN P w K mg base (bC P w) 2 "is_ready" ["place","found"] zm:=by
 have qB:bN P w K mg base (bC P w) 1 "goals" ["place"] sI:=zS T
 refine T.uH.dZ (λ_ _ _ _ _ _=>dN λ_ _=>rfl) λf fd F=>F.d4 kc (λvs H Q E h=>?_) (λb9 A outer s H vs Q E hr h=>?_)
 ·obtain⟨_,_,_,_,rfl,_⟩:=h;rfl
 ·obtain⟨v,q,ff,fs,rfl,rq,hf,lq,gq,kk⟩:=h
  have nd:=kc.nd
  refine⟨_,(ae (dJ (i:=2) rfl nd rfl rfl (N:=["place","found","levelled"]) (so:=ab (top 2)) (N':=["to","found"]) (k:=1) (fr:=[1]) rfl rfl ⟨rfl,by decide +kernel,by decide +kernel,by decide +kernel,rfl,by decide +kernel,by decide +kernel⟩ (aP (K:=K) (aB qB (hr.mono (by decide)) rfl au.pass (aa (pv 0) af (se rfl)) (he:=se rfl) (hpl:=na rfl))) (λ_ _ _ _ _=>(aw (i:=0) (show(["to","found"]:List Str).Nodup by decide +kernel) rfl (Or.inl rfl))) (λ_ _ _ _ _=>bf)
   (λ_ _ _ _ _=>(iQ AQ (aA aE (pv 1) (pv 0) (λ_ _=>rfl)) el (aW _))))
  (ae (bS (aQ df (aA aJ (pv 0) aj (λ_ _=>rfl)) cN (aW _)) (ao (aH (aL (rp (K:=K)) (by rfl) T.z_any rfl (aa (pv 2) af (se rfl)) (he:=se rfl) (hpl:=na rfl))))
   aZ)
  (ao (aH (aL (jY (K:=K)) (by rfl) T.z_all rfl (aa (pv 2) af (se rfl)) (he:=se rfl) (hpl:=na rfl)))))),?_⟩
  obtain⟨p,k,r,rfl,hp⟩:=D6 rq
  simp_all only[sI]
  refine⟨q,rq,lq,λl H1 s1 nl hl=>⟨⟨_,aR.of hl⟩,?_⟩⟩
  have KP:=s1 _ _ hf
  have Yo:=s1 _ _ hp
  have S:Src (tT K l) (ar H1) (Lv.fb q).length (λi x H H3=>H3=H/\(List.map V.int (Lv.fb q))[i]?=some x):=by
   have:=src_list (K:=K) (a:=l) (xs:=List.map V.int (Lv.fb q)) (Ok:=ar H1) (λH' s'=>aR.of (s' _ _ hl))
   rw[YL] at this
   exact this
  refine o5 (Lv.fb q) (λg=>some (.bl (Lv.lk fs g).isSome)) S (λ_ _ _ _ h=>h.1) (by rw[sizeLine_eq];omega) ?_ ?_
  ·rintro i g x eg ⟨_,ex⟩ Y N y1 _
   rw[YQ,eg] at ex
   cases ex
   have:=gq g (YN eg)
   simp_all only[fk,KP,CG this.1 this.2]
   have:=y1 _ rfl
   rw[show(!decide (du (Lv.lk fs g)=V.bV))=(Lv.lk fs g).isSome from by cases Lv.lk fs g <;>simp [du]]
   exact this
  ·intro D n1 n2
   rw[dM]
   have UB:List.map (λg=>V.bl (Lv.lk fs g).isSome) (Lv.fb q)=List.map V.bl ((Lv.fb q).map λg=>(Lv.lk fs g).isSome):=by rw[List.map_map];rfl
   rw[UB]
   have sD:=ah (o:=.lst (List.map V.bl ((Lv.fb q).map λg=>(Lv.lk fs g).isSome))) n2
   have fin:=kk _ (s1.trans sD)
   rw[BW] at fin
   cases q with
   | fin w=>
    obtain⟨p',r',e,jI,_⟩:=cF.mp rq
    cases e
    have A3:=sD _ _ (s1 _ _ jI)
    simp only[A3,at0]
    refine⟨_,rfl,_,rfl,rfl,?_⟩
    rw[if_neg (by decide +kernel)]
    refine⟨_,aR.of ag,?_⟩
    rw[List.all_map]
    exact fin
   | gz w ws=>
    obtain⟨p',r',l',xs,e,jI,_⟩:=cG.mp rq
    cases e
    have A3:=sD _ _ (s1 _ _ jI)
    simp only[A3,at0]
    refine⟨_,rfl,_,rfl,rfl,?_⟩
    rw[if_pos (by decide +kernel)]
    refine⟨_,aR.of ag,?_⟩
    rw[List.any_map]
    exact fin
   | ft w to=>
    obtain⟨p',l',e,jI,_⟩:=cH.mp rq
    cases e
    have A3:=sD _ _ (s1 _ _ jI)
    simp only[A3,at0]
    refine⟨_,rfl,_,rfl,rfl,?_⟩
    rw[if_neg (by decide +kernel)]
    refine⟨_,aR.of ag,?_⟩
    rw[List.all_map]
    exact fin
theorem fR:aI ["board","found"] ["board","found"] (ab (top 3)):=⟨rfl,rfl,rfl,by decide +kernel,rfl,by decide +kernel,by decide +kernel⟩
theorem EM (T:Txt K mg aq tc):bN P w K mg base (bC P w) 3 "ready_places" ["board","found"] vI:=by
 have uQ:bN P w K mg base (bC P w) 2 "is_ready" ["place","found"] zm:=EL T
 refine T.mW.dZ (λ_ _ _ _ _ _=>dN λ_ _=>rfl) λf fd F=>F.d4 fR (λvs H Q E h=>?_) (λb9 A outer s H vs Q E hr h=>?_)
 ·obtain⟨_,_,_,_,rfl,_⟩:=h;rfl
 ·obtain⟨a,b,ff,fs,rfl,rb,hf,lf,lb,gl,gb,kk⟩:=h
  have nd:=fR.nd
  refine⟨_,(ao (aH (bD rfl (N:=["board","found"]) (so:=ab (top 3)) (N':=["number","place","found"]) (k:=2) (fr:=[1]) rfl rfl ⟨rfl,by decide +kernel,by decide +kernel,by decide +kernel,rfl,by decide +kernel,by decide +kernel⟩ (cm (K:=K) rfl T.z_enumerate (aa (pv 0) af (se rfl))) (λ_ _ _ _ _=>(bK (K:=K) (n:=2) rfl (aK (aw (i:=0) (show(["number","place","found"]:List Str).Nodup by decide +kernel) rfl (Or.inl rfl)) (aK (aw (i:=1) (show(["number","place","found"]:List Str).Nodup by decide +kernel) rfl (Or.inl rfl)) bJ)))) (λ_ _ _ _ _=>(p9 (PW.pt (pw_and (aQ tY (aA aE (pv 2) (pv 0) (λ_ _=>rfl)) el (aW _)) (pw_and1 (hX (aB uQ (hr.mono (by decide)) rfl au.pass (aa (pv 1) (aa (pv 2) af (se rfl)) (se rfl)) (he:=se rfl) (hpl:=na rfl))))))))
   (λ_ _ _ _ _=>(pv 0))))),?_⟩
  obtain⟨_,xs,e,ha,rl⟩:=aS.mp rb
  cases e
  have lx:=rl.length
  rw[YL] at lx
  simp_all only[]
  refine⟨⟨_,aR.of ha⟩,?_⟩
  have S:Src (Gu K a) (ar H) (List.range b.length).length (λi v H H3=>∃p x,H p=none/\v=.ref p/\xs[i]?=some x/\H3=upd H p (.tup [.int i,x])):=by rw[Ze,lx];exact eG (λH' s'=>aR.of (s' _ _ ha))
  refine o8 (K:=K) (List.range b.length) (λi=>if Lv.fN b fs i=true then some (cf i) else none) S (λi u v _=>u=.int i/\xs[i]?=some v) ?_ (by rw[Ze,sizeLine_eq];omega) ?_ ?_
  ·rintro i x H1 H2 hi s1 ⟨p,v,np,rfl,ev,rfl⟩
   exact⟨ah np,p,_,_,rfl,dH.of ag,rfl,ev⟩
  ·rintro i j u v H3 ej s3 ⟨rfl,ev⟩ Y N y1 n1
   have:j=i:=by
    obtain⟨h1,h2⟩:=List.getElem?_eq_some_iff.mp ej
    rw[List.getElem_range] at h2
    exact h2.symm
   subst this
   obtain⟨q,eq,rq⟩:=fu rl ev
   have hj:j<b.length:=(List.getElem?_eq_some_iff.mp eq).1
   have AB:=s3 _ _ hf
   have hq:=YN eq
   simp_all only[AB,CG (show(0:Int)<=(j:Int) by omega) (show(j:Int)< (fs.length:Nat) by omega),zm]
   have er:Lv.fN b fs j=((Lv.lk fs (j:Int)).isNone && Lv.Cw fs q):=by
    unfold Lv.fN Lv.lk
    rw[eq,YX]
   by_cases c:Lv.lk fs (j:Int)=none
   ·rw[if_pos (m8.mpr c)]
    refine⟨q,rq.mono s3,fs,rfl,gl q hq,λg hg=>?_,λH4 s4=>?_⟩
    ·rw[lf];exact gb.nW q hq g hg
    ·by_cases c2:Lv.Cw fs q=true
     ·rw[if_pos c2]
      exact y1 _ _ (by rw[if_pos (by rw[er,c,c2];rfl)];rfl) s4
     ·rw[if_neg c2]
      exact n1 _ (by rw[if_neg (by rw[er];simp [c2])]) s4
   ·rw[if_neg (λz=>c (m8.mp z))]
    have nr:¬Lv.fN b fs j=true:=by
     rw[er]
     cases h:Lv.lk fs (j:Int) with
     | none=>exact absurd h c
     | some u=>simp
    exact n1 _ (if_neg nr) (ar.refl _)
  ·intro H2 s2 D n1 n2
   have e:List.filterMap (λi=>if Lv.fN b fs i=true then some (cf i) else none) (List.range b.length)=List.map cf (Lv.fresh b fs):=gQ cf (Lv.fN b fs) _
   rw[e]
   exact kk _ _ (s2.trans (ah n2)) (none_of s2 n2) ag
theorem pH:aI ["board","found","level","fresh","number"] ["board"] (ab (top 4)):=⟨rfl,rfl,rfl,by decide +kernel,rfl,by decide +kernel,by decide +kernel⟩
theorem EN (T:Txt K mg aq tc):bN P w K mg base (bC P w) 4 "levels" ["board"] zo:=by
 have gD:bN P w K mg base (bC P w) 3 "ready_places" ["board","found"] vI:=EM T
 refine T.zj.dZ (λ_ _ _ _ _ _=>iz λ_=>rfl) λf fd F=>F.d4 pH (λvs H Q E h=>?_) (λb9 A outer s H vs Q E hr h=>?_)
 ·obtain⟨_,_,rfl,_⟩:=h;rfl
 ·obtain⟨a,b,rfl,rb,lb,gl,gb,kk⟩:=h
  have nd:=pH.nd
  refine⟨_,(ae (dJ (i:=1) rfl nd rfl rfl (N:=["board","found","level","fresh","number"]) (so:=ab (top 4)) (N':=["place"]) (k:=1) (fr:=[]) rfl rfl ⟨rfl,by decide +kernel,by decide +kernel,by decide +kernel,rfl,by decide +kernel,by decide +kernel⟩ (aP (K:=K) (pv 0)) (λ_ _ _ _ _=>(aw (i:=0) (show(["place"]:List Str).Nodup by decide +kernel) rfl (Or.inl rfl))) (λ_ _ _ _ _=>bf)
   (λ_ _ _ _ _=>(iN (aQ df (aA aJ (pv 0) aj (λ_ _=>rfl)) cN (aW _)) aj el)))
  (ae (ay (i:=2) nd rfl (Or.inl rfl) aj)
  (ae (ay (i:=3) nd rfl (Or.inl rfl) (aB gD (hr.mono (by decide)) rfl au.pass (aa (pv 0) (aa (pv 1) af (se rfl)) (se rfl)) (he:=se rfl) (hpl:=na rfl)))
  (ae (iO PassesOwn.never (aQ iP (aL bp (by rfl) T.z_len Y7 (aa (pv 3) af (se rfl)) (he:=se rfl) (hpl:=na rfl)) aj (aW _)) (ae (bL PassesOwn.never rfl (aP (K:=K) (pv 3)) (aw (i:=4) nd rfl (Or.inl rfl)) (ao (dB (pv 2) (dA (pv 1) (pv 4) set_list))))
  (ae (ay (i:=2) nd rfl (Or.inl rfl) (aG bT (pv 2) aj))
  (ao (ay (i:=3) nd rfl (Or.inl rfl) (aB gD (hr.mono (by decide)) rfl au.pass (aa (pv 0) (aa (pv 1) af (se rfl)) (se rfl)) (he:=se rfl) (hpl:=na rfl)))))))
  (ao (aH (pv 1))))))),?_⟩
  obtain⟨_,xs,e,ha,rl⟩:=aS.mp rb
  cases e
  have lx:=rl.length
  rw[YL] at lx
  simp_all only[vI]
  refine⟨⟨_,aR.of ha⟩,?_⟩
  have S:Src (tT K a) (ar H) b.length (λi x H H3=>H3=H/\xs[i]?=some x):=by rw[lx];exact src_list (λH' s'=>aR.of (s' _ _ ha))
  refine o5 b (λq=>some (du (Lv.GA q))) S (λ_ _ _ _ h=>h.1) (by rw[sizeLine_eq];omega) ?_ ?_
  ·rintro i q x eq ⟨_,ex⟩ Y N y1 _
   obtain⟨q',Jm,rq⟩:=fu rl ex
   rw[eq] at Jm
   cases Jm
   have:=y1 _ rfl
   cases q with
   | fin w=>
    obtain⟨p,r,rfl,hp,_⟩:=cF.mp rq
    simp_all only[fk,hp]
    exact this
   | gz w ws=>
    obtain⟨p,r,l',ys,rfl,hp,_⟩:=cG.mp rq
    simp_all only[fk,hp]
    rw[if_neg (by decide +kernel)]
    exact this
   | ft w to=>
    obtain⟨p,l',rfl,hp,_⟩:=cH.mp rq
    simp_all only[fk,hp]
    rw[if_neg (by decide +kernel)]
    exact this
  ·intro ff n1 n2
   rw[dM,show List.map (λq=>du (Lv.GA q)) b=List.map du (Lv.nU b) from by unfold Lv.nU;rw[List.map_map];rfl]
   have sD:=ah (o:=.lst (List.map du (Lv.nU b))) n2
   refine⟨b,rb.mono sD,Lv.nU b,ag,by simp [Lv.nU],lb,gl,gb,λfr H1 s1 nf Gk=>?_⟩
   have UC:H1 ff=some (.lst (List.map du (Lv.nU b))):=s1 _ _ ag
   have sH:=sD.trans s1
   refine rD (Uy H b a ff) (m:=b.length) ⟨_,_,_,_,rfl,UC,Gk,(λz=>by rw[z,ag] at nf;cases nf),sH,by simp [Lv.nU],by have:=Lv.mG (Lv.nU b);simpa [Lv.nU] using this,rfl⟩ ?_ ?_
   ·rintro m σ H2 ⟨fs,L,fr,z,rfl,hf,sZ,ne,s2,lf,nm,er⟩
    simp_all only[]
    refine⟨_,sZ,?_⟩
    by_cases c:Lv.fresh b fs=[]
    ·rw[c,if_neg (by simp)]
     have:Lv.run b m fs L=fs:=by
      cases m with
      | zero=>rfl
      | succ m=>
       show(if Lv.fresh b fs=[] then fs else _)=fs
       rw[if_pos c]
     rw[this] at er
     subst er
     exact kk _ _ s2 n2 hf
    ·have l0:(0:Int)< ((List.map cf (Lv.fresh b fs)).length:Nat):=by
      rw[YL]
      have:=List.length_pos_iff.mpr c
      omega
     rw[if_pos l0]
     have Yp:(Lv.fresh b fs).length<=1000:=by
      have:(Lv.fresh b fs).length<=b.length:=by
       have:=List.length_filter_le (Lv.fN b fs) (List.range b.length)
       rwa [Ze] at this
      omega
     refine⟨⟨_,aR.of sZ⟩,bu (src_list (Ok:=λH'=>H' fr=some (.lst (List.map cf (Lv.fresh b fs)))) (λH' e=>aR.of e))
      (λj σ H'=>H' fr=some (.lst (List.map cf (Lv.fresh b fs)))/\H' ff=some (.lst (List.map du (Lv.cc fs ((Lv.fresh b fs).take j) L)))/\ar H H'/\∃z,σ=[some (V.ref a),some (V.ref ff),some (V.int L),some (V.ref fr),z])
      ⟨sZ,by rw[List.take_zero];exact hf,s2,_,rfl⟩ (λ_ _ _ _ h=>h.1) ?_ ?_⟩
     ·rintro j x σ H3 H4 hj ⟨h3,f3,s3,z,rfl⟩ ⟨rfl,hx⟩
      rw[YQ] at hx
      obtain⟨i,ei,rfl⟩:=Option.map_eq_some_iff.mp hx
      have hi:=(Lv.gR.mp (YN ei)).1
      simp_all only[gSub,rSetL,cf]
      have ix:wK (List.map du (Lv.cc fs ((Lv.fresh b fs).take j) L)).length (i:Int)=some i:=by
       unfold wK
       rw[if_pos (by omega),YL,Lv.lF,if_pos (by omega)]
       congr 1
      refine⟨_,f3,i,ix,by rw[ax ne];exact h3,?_,aO s3 n2,_,rfl⟩
      rw[ag,Za,ei]
      show some (HO.lst ((List.map du _).set i (du (some L))))=_
      rw[<-List.map_set]
      congr 3
      unfold Lv.cc
      rw[List.foldl_append]
      rfl
     ·rintro σ H3 ⟨h3,f3,s3,z,rfl⟩
      rw[YL,Y6 (YO _)] at f3
      simp_all only[vI]
      refine⟨b,rb.mono s3,_,f3,by rw[Lv.lF];exact lf,lb,gl,gb,λKk H4 s4 n4 h4=>?_⟩
      have lt:=Lv.jK lf c L
      cases m with
      | zero=>omega
      | succ m=>
       refine⟨m,Zq _,_,_,_,_,rfl,s4 _ _ f3,h4,(λz=>by rw[z,f3] at n4;cases n4),s3.trans s4,by rw[Lv.lF];exact lf,by omega,?_⟩
       rw[<-er]
       show _=(if Lv.fresh b fs=[] then fs else _)
       rw[if_neg c]
   ·intro σ H1 Q1 Q2 hq hc
    simp only[L2.start,Pr,tRev,tLR,tMaxD,tSortR,tD1,tDPop1,tSl,tNoPart,tPart,rSlL,tDIn,tDNotIn,gSub,rSetL,tLst,tDNewK,tComp,L2.stC,tFor_eq,iList,iTup,iRng1,iRng2,iZip,iEnum,iDict,iStr,tChain,tSumV,tBM,rJoin,tJoined,jNil,jLit,jInt,jStr,tRaise,tDGet,tDGet2,tDGet1,sDPut,Option.join_some,List.getElem?_nil,tSeq,tRet,tRetN,tIfS,tTest,tB,tOp,tUn,tVar,tC,tCB,tCons,tNil,tCall,tTupS,tAsg,gName,gNil,gCons,tPar,tNext,tDrop,tAnd,tOr,tNot,tAndV,tOrV,tNotV,tIf,rI,rI0,rU,rIxTH,rIxLH,rEqT,rNeT,rInT,rEq,rNe,scal,CPow,at0,at1,at2,Y3,List.map_nil,Y8,List.length_nil,Nat.reduceSub,Nat.reduceAdd,Zo,List.replicate_zero,List.reduceReplicate,Zx,List.nil_append,List.cons_append,ZV,Z2,ZQ,ZR,Option.some.injEq,exists_eq_left',exists_eq_left,V.ref.injEq,V.int.injEq,V.bl.injEq,V.str.injEq,V.ty.injEq,HO.tup.injEq,HO.lst.injEq,List.cons.injEq,and_true,true_and,and_assoc,exists_and_left,decide_eq_true_eq,Bool.not_eq_true',decide_eq_false_iff_not,ite_true,ite_false,if_true,if_false,Int.reduceToNat,eq_self_iff_true] at hc ⊢
    obtain⟨v,e1,ys,e2,xs,e3,q⟩:=hc
    exact⟨v,e1,ys,e2,xs,e3,hq _ _ q⟩
theorem v8:aI ["board"] ["board"] (ab (top 5)):=⟨rfl,rfl,rfl,by decide +kernel,rfl,by decide +kernel,by decide +kernel⟩
theorem BX (T:Txt K mg aq tc):bN P w K mg base (bC P w) 5 "ring" ["board"] uK:=by
 have zT:bN P w K mg base (bC P w) 4 "levels" ["board"] zo:=EN T
 refine T.Et.dZ (λ_ _ _ _ _ _=>iz λ_=>rfl) λf fd F=>F.d4 v8 (λvs H Q E h=>?_) (λb9 A outer s H vs Q E hr h=>?_)
 ·obtain⟨_,_,rfl,_⟩:=h;rfl
 ·obtain⟨a,b,rfl,rb,B,kk⟩:=h
  have nd:=v8.nd
  refine⟨_,(ao (aH (bD rfl (N:=["board"]) (so:=ab (top 5)) (N':=["number","level"]) (k:=2) (fr:=[]) rfl rfl ⟨rfl,by decide +kernel,by decide +kernel,by decide +kernel,rfl,by decide +kernel,by decide +kernel⟩ (cm (K:=K) rfl T.z_enumerate (aa (aB zT (hr.mono (by decide)) rfl au.pass (aa (pv 0) af (se rfl)) (he:=se rfl) (hpl:=na rfl)) af (se rfl))) (λ_ _ _ _ _=>(bK (K:=K) (n:=2) rfl (aK (aw (i:=0) (show(["number","level"]:List Str).Nodup by decide +kernel) rfl (Or.inl rfl)) (aK (aw (i:=1) (show(["number","level"]:List Str).Nodup by decide +kernel) rfl (Or.inl rfl)) bJ)))) (λ_ _ _ _ _=>(p9 (aQ tY (pv 1) el (aW _))))
   (λ_ _ _ _ _=>(pv 0))))),?_⟩
  simp_all only[zo]
  refine⟨b,rb,B.len,B.oW,B.good,λf1 H1 s1 nf hf=>⟨⟨_,aR.of hf⟩,?_⟩⟩
  have ll:=Lv.Bp B.good
  have bl:=B.len
  have S:Src (Gu K f1) (ar H1) (List.range b.length).length (λi v H H3=>∃p x,H p=none/\v=.ref p/\(List.map du (Lv.rE b))[i]?=some x/\H3=upd H p (.tup [.int i,x])):=by
   have:=eG (K:=K) (a:=f1) (xs:=List.map du (Lv.rE b)) (Ok:=ar H1) (λH' s'=>aR.of (s' _ _ hf))
   rw[YL,ll] at this
   rw[Ze]
   exact this
  refine o8 (K:=K) (List.range b.length) (λi=>if (Lv.lk (Lv.rE b) (i:Int)).isNone=true then some (cf i) else none) S (λi u v _=>u=.int i/\v=du (Lv.lk (Lv.rE b) (i:Int))) ?_ (by rw[Ze,sizeLine_eq];omega) ?_ ?_
  ·rintro i x H2 H3 hi s2 ⟨p,v,np,rfl,ev,rfl⟩
   refine⟨ah np,p,_,_,rfl,dH.of ag,rfl,?_⟩
   rw[YQ] at ev
   obtain⟨o,eo,rfl⟩:=Option.map_eq_some_iff.mp ev
   unfold Lv.lk
   rw[YX,YV,eo]
   rfl
  ·rintro i j u v H3 ej s3 ⟨rfl,rfl⟩ Y N y1 n1
   have:j=i:=by
    obtain⟨h1,h2⟩:=List.getElem?_eq_some_iff.mp ej
    rw[List.getElem_range] at h2
    exact h2.symm
   subst this
   simp_all only[]
   cases h:Lv.lk (Lv.rE b) (j:Int) with
   | none=>
    rw[if_pos (m8.mpr rfl)]
    exact y1 _ _ (by rw[h];rfl) (ar.refl _)
   | some x=>
    rw[if_neg (by simp [du])]
    exact n1 _ (by rw[h];rfl) (ar.refl _)
  ·intro H2 s2 D n1 n2
   have e:List.filterMap (fun(i:Nat)=>if (Lv.lk (Lv.rE b) (i:Int)).isNone=true then some (cf i) else none) (List.range b.length)=List.map cf (m9 b):=gQ cf (fun(i:Nat)=>(Lv.lk (Lv.rE b) (i:Int)).isNone) _
   rw[e]
   exact kk _ _ (s1.trans (s2.trans (ah n2))) (none_of (s1.trans s2) n2) ag
theorem g9:aI ["board","start","steps","found","turn","here","way","to"] ["board","start"] (ab (top 24)):=⟨rfl,rfl,rfl,by decide +kernel,rfl,by decide +kernel,by decide +kernel⟩
theorem EO (T:Txt K mg aq tc):bN P w K mg base (bC P w) 2 "steps_from" ["board","start"] vK:=by
 have qB:bN P w K mg base (bC P w) 1 "goals" ["place"] sI:=zS T
 refine T.qq.dZ (λ_ _ _ _ _ _=>dN λ_ _=>rfl) λf fd F=>F.d4 g9 (λvs H Q E h=>?_) (λb9 A outer s H vs Q E hr h=>?_)
 ·obtain⟨_,_,_,rfl,_⟩:=h;rfl
 ·obtain⟨a,b,st,rfl,rb,lb,oW,gb,h0,h1,kk⟩:=h
  have nd:=g9.nd
  refine⟨_,(ae (ay (i:=2) nd rfl (Or.inl rfl) (GB (pv 1) el))
  (ae (ay (i:=3) nd rfl (Or.inl rfl) (cU (aa (pv 1) af (se rfl))))
  (ae (ay (i:=4) nd rfl (Or.inl rfl) aj)
  (ae (iO PassesOwn.never (aQ qQ (pv 4) (aL bp (by rfl) T.z_len Y7 (aa (pv 3) af (se rfl)) (he:=se rfl) (hpl:=na rfl)) (aW _)) (ae (ay (i:=5) nd rfl (Or.inl rfl) (aA aE (pv 3) (pv 4) (λ_ _=>rfl)))
  (ae (bL PassesOwn.never rfl (cm (K:=K) rfl T.z_enumerate (aa (aB qB (hr.mono (by decide)) rfl au.pass (aa (aA aE (pv 0) (pv 5) (λ_ _=>rfl)) af (se rfl)) (he:=se rfl) (hpl:=na rfl)) af (se rfl))) (bK (K:=K) (n:=2) rfl (aK (aw (i:=6) nd rfl (Or.inl rfl)) (aK (aw (i:=7) nd rfl (Or.inl rfl)) bJ))) (ao (bS (tR (wO (oY hr) (pv 7) (pv 2))) (ae (vc (oY hr) (pv 2) (pv 7) (bU (aa (pv 5) (aa (pv 6) af (se rfl)) (se rfl))) rfl)
  (ao (gL (oS Z4 Z5 Z6 dP.r (pv 3) (aa (pv 7) af (se rfl))))))
   aZ)))
  (ao (ay (i:=4) nd rfl (Or.inl rfl) (aG bT (pv 4) aj))))))
  (ao (aH (pv 2))))))),?_⟩
  obtain⟨_,xs,e,ha,rl⟩:=aS.mp rb
  cases e
  have lx:=rl.length
  rw[YL] at lx
  simp_all only[]
  intro d KQ
  refine⟨Sum.inl st,rfl,ag,by decide,λf1 nf=>?_⟩
  have UD:upd (upd H d (.dK [])) d (.dK [(Sum.inl st,V.bV)])=upd H d (.dK [(Sum.inl st,V.bV)]):=AH
  rw[UD] at nf ⊢
  have sd:=ah (o:=.dK [(Sum.inl st,V.bV)]) KQ
  have sf:=ah (o:=.lst [V.int st]) nf
  have R1:f1≠d:=λz=>by rw[z,ag] at nf;cases nf
  have UE:H f1=none:=none_of sd nf
  have D0:eN (upd (upd H d (.dK [(Sum.inl st,V.bV)])) f1 (.lst [V.int st])) d [(st,none,[])]:=by
   refine⟨_,sf _ _ ag,rfl,λi e he=>?_⟩
   match i,he with
   | 0,he=>cases he;exact⟨_,rfl,rfl⟩
  have KP:(upd (upd H d (.dK [(Sum.inl st,V.bV)])) f1 (.lst [V.int st])) f1=some (.lst [V.int st]):=ag
  have sH:=sd.trans sf
  generalize upd (upd H d (.dK [(Sum.inl st,V.bV)])) f1 (.lst [V.int st])=H1 at *
  refine rD (Uz H b a d f1 st) (m:=b.length+1) ⟨0,[(st,none,[])],_,_,_,rfl,D0,KP,sH,Bf.yG h0 h1,rfl,by omega⟩ ?_ ?_
  ·rintro m σ H2 ⟨t,es,z5,z6,z7,rfl,dr,hf,s2,I,eb,lt⟩
   have lk:(Bf.keys es).length=es.length:=by unfold Bf.keys;rw[YL]
   have fw:=I.toCore.oW
   simp_all only[]
   refine⟨_,hf,?_⟩
   rw[YL,lk]
   by_cases c:t<es.length
   ·rw[if_pos (by omega)]
    have et:es[t]?=some es[t]:=YM c
    generalize es[t]=e at et
    have rg:=I.nW e (YN et)
    have ee:((e.1.toNat:Nat):Int)=e.1:=Int.toNat_of_nonneg rg.1
    have hb:e.1.toNat<b.length:=by omega
    have R3:b[e.1.toNat]?=some b[e.1.toNat]:=YM hb
    obtain⟨v,ev,rv⟩:=eK rl R3
    have hq:=Zc hb
    generalize b[e.1.toNat]=q at *
    have ga:Bf.fZ b e.1=Lv.fb q:=by unfold Bf.fZ;rw[R3]
    have av:fK xs e.1=some v:=by rw[<-ee];exact bx ev
    have ak:fK (List.map V.int (Bf.keys es)) (t:Int)=some (V.int e.1):=jJ (by unfold Bf.keys;rw[YQ,et];rfl)
    simp only[hf,ak,s2 _ _ ha,av,Option.some.injEq,HO.lst.injEq,exists_eq_left',V.int.injEq,V.ref.injEq,sI]
    refine⟨v,q,rfl,rv.mono s2,oW q hq,λl H3 s3 nl hl=>⟨⟨_,aR.of hl⟩,?_⟩⟩
    have UG:=dr.mono s3
    have AB:=s3 _ _ hf
    have UH:l≠d:=λz=>by
     obtain⟨kvs,hd,_⟩:=dr.ex
     rw[z,hd] at nl;cases nl
    have G7:l≠f1:=λz=>by rw[z,hf] at nl;cases nl
    refine bu (eG (Ok:=λH'=>H' l=some (.lst (List.map V.int (Lv.fb q)))) (λH' e=>aR.of e)) (UA H a d f1 l st t e (Lv.fb q) es) ⟨⟨_,_,rfl⟩,UG,AB,hl,s2.trans s3⟩ (λ_ _ _ _ h=>h.hl) ?_ ?_
    ·rintro i x σ H4 H5 hi ⟨⟨z6,z7,rfl⟩,Jn,Jo,R4,s4⟩ ⟨p,y,np,rfl,ey,rfl⟩
     rw[YL] at hi
     rw[YQ] at ey
     obtain⟨g,eg,rfl⟩:=Option.map_eq_some_iff.mp ey
     have s5:=ah (o:=.tup [.int i,.int g]) np
     refine⟨p,_,rfl,dH.of ag,rfl,?_⟩
     have KR:=Jn.mono s5
     have R5:=s5 _ _ Jo
     have G8:=s5 _ _ R4
     have R6:=s4.trans s5
     generalize upd H4 p (.tup [.int i,.int g])=H5 at *
     have M:=Bf.mH gb ((Lv.fb q).take i) 0 es (Bf.yI I et) λj x hx=>by
      rw[Zo,ga]
      have hj:=(List.getElem?_eq_some_iff.mp hx).1
      rw[Zy] at hj
      rwa [List.getElem?_take_of_lt (by omega)] at hx
     have tk:(Lv.fb q).take (i+1)=(Lv.fb q).take i++ [g]:=by rw[Za,eg];rfl
     have UI:((Lv.fb q).take i).length=i:=by rw[Zy];omega
     have nx:=pC (here:=e.1) (path:=e.2.2) ((Lv.fb q).take i) 0 es g
     rw[<-tk,UI,Zo] at nx
     have UJ:=M.toCore.oW
     generalize Bf.fv e.1 e.2.2 0 ((Lv.fb q).take i) es=ei at *
     obtain⟨o,go,ho⟩:=KR.has M.nd g
     simp_all only[]
     refine⟨o,go,?_⟩
     rw[ho]
     by_cases cg:g∈Bf.keys ei
     ·rw[if_neg (by simpa using cg)]
      rw[if_pos cg] at nx
      exact⟨⟨_,_,rfl⟩,by rw[nx];exact KR,by rw[nx];exact R5,G8,R6⟩
     ·rw[if_pos (by simpa using cg)]
      rw[if_neg cg] at nx
      refine⟨by decide,λp6 H6 s6 Yq e6=>?_⟩
      obtain⟨o7,pt,UK⟩:=(KR.mono s6).put (par:=some (e.1,i)) (path:=e.2.2++ [i]) cg ⟨p6,rfl,e6⟩ (by rw[sizeLine_eq];omega)
      have G9:=s6 _ _ R5
      have UM:=s6 _ _ G8
      have KU:upd H6 d o7 f1=some (.lst (List.map V.int (Bf.keys ei))):=by rw[ax R1];exact G9
      have Yr:(Bf.keys ei).length=ei.length:=by unfold Bf.keys;rw[YL]
      refine⟨_,pt,.inl ⟨rfl,_,aR.of KU⟩,f1,_,_,rfl,rfl,KU,by rw[YL,sizeLine_eq];omega,?_⟩
      have sF:ar H (upd (upd H6 d o7) f1 (.lst (List.map V.int (Bf.keys ei)++ [V.int g]))):=aO (aO (R6.trans s6) KQ) UE
      refine⟨⟨_,_,rfl⟩,?_,?_,?_,sF⟩
      ·rw[nx]
       obtain⟨kvs,k1,k2,k3⟩:=UK.ex
       refine⟨kvs,by rw[ax (Ne.symm R1)];exact k1,k2,λj x hx=>?_⟩
       obtain⟨v,v1,v2⟩:=k3 j x hx
       exact⟨v,v1,v2.upd λys z=>by rw[KU] at z;cases z⟩
      ·rw[nx,ag]
       unfold Bf.keys
       rw[Zj,Zj]
       rfl
      ·rw[ax G7,ax UH]
       exact UM
    ·rintro σ H4 ⟨⟨z6,z7,rfl⟩,Jn,Jo,R4,s4⟩
     rw[YL,Y6 (YO _),<-ga] at Jn Jo
     simp_all only[]
     cases m with
     | zero=>omega
     | succ m=>
      refine⟨m,Zq _,⟨t+1,_,_,_,_,rfl,Jn,Jo,s4,Bf.turn gb I et,?_,by omega⟩⟩
      rw[<-eb]
      show _=(match es[t]? with | none=>es | some e=>Bf.Ax b m (t+1) (Bf.fv e.1 e.2.2 0 (Bf.fZ b e.1) es))
      rw[et]
   ·rw[if_neg (by omega)]
    have:Bf.Ax b m t es=es:=by
     cases m with
     | zero=>rfl
     | succ m=>
      show(match es[t]? with | none=>es | some e=>Bf.Ax b m (t+1) (Bf.fv e.1 e.2.2 0 (Bf.fZ b e.1) es))=es
      rw[Y1 (by omega)]
    rw[this] at eb
    subst eb
    exact kk _ _ s2 KQ dr
  ·intro σ H1 Q1 Q2 hq hc
   simp only[L2.start,Pr,tRev,tLR,tMaxD,tSortR,tD1,tDPop1,tSl,tNoPart,tPart,rSlL,tDIn,tDNotIn,gSub,rSetL,tLst,tDNewK,tComp,L2.stC,tFor_eq,iList,iTup,iRng1,iRng2,iZip,iEnum,iDict,iStr,tChain,tSumV,tBM,rJoin,tJoined,jNil,jLit,jInt,jStr,tRaise,tDGet,tDGet2,tDGet1,sDPut,Option.join_some,List.getElem?_nil,tSeq,tRet,tRetN,tIfS,tTest,tB,tOp,tUn,tVar,tC,tCB,tCons,tNil,tCall,tTupS,tAsg,gName,gNil,gCons,tPar,tNext,tDrop,tAnd,tOr,tNot,tAndV,tOrV,tNotV,tIf,rI,rI0,rU,rIxTH,rIxLH,rEqT,rNeT,rInT,rEq,rNe,scal,CPow,at0,at1,at2,Y3,List.map_nil,Y8,List.length_nil,Nat.reduceSub,Nat.reduceAdd,Zo,List.replicate_zero,List.reduceReplicate,Zx,List.nil_append,List.cons_append,ZV,Z2,ZQ,ZR,Option.some.injEq,exists_eq_left',exists_eq_left,V.ref.injEq,V.int.injEq,V.bl.injEq,V.str.injEq,V.ty.injEq,HO.tup.injEq,HO.lst.injEq,List.cons.injEq,and_true,true_and,and_assoc,exists_and_left,decide_eq_true_eq,Bool.not_eq_true',decide_eq_false_iff_not,ite_true,ite_false,if_true,if_false,Int.reduceToNat,eq_self_iff_true] at hc ⊢
   obtain⟨v,e1,v1,e2,p,e3,x,e4,i,e5,q⟩:=hc
   exact⟨v,e1,v1,e2,p,e3,x,e4,i,e5,hq _ _ q⟩
theorem v9 (p:Int->Bool):∀l:List Int,l.filterMap (λo=>if p o=true then some o else none)=l.filter p
 | []=>rfl
 | x::l=>by
  rw[ZL,List.filter_cons,v9 p l]
  by_cases c:p x=true
  ·simp [c]
  ·simp [c]
noncomputable def nJ (H:Hp) (x:Addr):Int:=match H x with
 | some (.lst (.int j::_))=>j
 | _=>0
noncomputable def zU (tp:Addr):Sp:=λvs H Q _=>∃a b,vs=[.ref a]/\Rep H (w5 b) (.ref a)/\b.length<=63/\(∀q∈b,(Lv.fb q).length<=100)/\Lv.Good b/\H tp=some (.pJ dsc)/\
 ∀l ps as H',Pr.Told b ps->ar H H'->H l=none->H' l=some (.lst (List.map V.ref as))->Al (λp v=>∃x,v=.ref x/\H' x=some (.lst (List.map V.int (Pr.d7 b p)))/\H x=none) ps (as.map V.ref)->Q (.ref l) H'
theorem tj:aI ["board","reach","found","place","part"] ["board"] (ab (top 25)):=⟨rfl,rfl,rfl,by decide +kernel,rfl,by decide +kernel,by decide +kernel⟩
theorem ER (T:Txt K mg aq tc) (LB:mS base mg tc tp):bN P w K mg base (bC P w) 3 "parts" ["board"] (zU tp):=by
 have qC:bN P w K mg base (bC P w) 2 "steps_from" ["board","start"] vK:=EO T
 refine T.BM.KD T.BO (λ_ _ _ _ _ _=>iz λ_=>rfl) λf fd F hc=>F.Uv hc tj (λvs H Q E h=>?_) (λA outer s H vs Q E hr h=>?_)
 ·obtain⟨_,_,rfl,_⟩:=h;rfl
 ·obtain⟨a,b,rfl,rb,lb,oW,gb,j8,kk⟩:=h
  have nd:=tj.nd
  refine⟨_,(ae (ay (i:=1) nd rfl (Or.inr rfl) (bD rfl (N:=["board","reach","found","place","part"]) (so:=ab (top 25)) (N':=["start","board"]) (k:=1) (fr:=[0]) rfl rfl ⟨rfl,by decide +kernel,by decide +kernel,by decide +kernel,rfl,by decide +kernel,by decide +kernel⟩ (cE rfl T.z_range (aa (aL bp (by rfl) T.z_len Y7 (aa (pv 0) af (se rfl)) (he:=se rfl) (hpl:=na rfl)) af (se rfl))) (λ_ _ _ _ _=>(aw (i:=0) (show(["start","board"]:List Str).Nodup by decide +kernel) rfl (Or.inl rfl))) (λ_ _ _ _ _=>bf)
   (λ_ _ _ _ _=>(aB qC (hr.mono (by decide)) rfl au.pass (aa (pv 1) (aa (pv 0) af (se rfl)) (se rfl)) (he:=se rfl) (hpl:=na rfl)))))
  (ae (ay (i:=2) nd rfl (Or.inl rfl) (cU af))
  (ae (bL PassesOwn.never rfl (cE rfl T.z_range (aa (aL bp (by rfl) T.z_len Y7 (aa (pv 0) af (se rfl)) (he:=se rfl) (hpl:=na rfl)) af (se rfl))) (aw (i:=3) nd rfl (Or.inr rfl)) (ae (dJ (i:=4) rfl nd rfl rfl (N:=["board","reach","found","place","part"]) (so:=ab (top 25)) (N':=["other","reach","place"]) (k:=1) (fr:=[1,3]) rfl rfl ⟨rfl,by decide +kernel,by decide +kernel,by decide +kernel,rfl,by decide +kernel,by decide +kernel⟩ (aP (K:=K) (aL kD (by rfl) T.z_sorted rfl (aa (aA aE (pv 1) (pv 3) (λ_ _=>rfl)) af (se rfl)) (he:=se rfl) (hpl:=na rfl))) (λ_ _ _ _ _=>(aw (i:=0) (show(["other","reach","place"]:List Str).Nodup by decide +kernel) rfl (Or.inl rfl))) (λ_ _ _ _ _=>(p9 (tR (yf (oY hr) (pv 2) (aA aE (pv 1) (pv 0) (λ_ _=>rfl))))))
   (λ_ _ _ _ _=>(pv 0)))
  (ao (bS (aQ df (aA aE (pv 4) aj (λ_ _=>rfl)) (pv 3) (aW _)) (ao (gL (oS Z4 Z5 Z6 dP.r (pv 2) (aa (pv 4) af (se rfl)))))
   aZ))))
  (ao (aH (zh (i:=1) (dsc:=dsc) (t0:=0) rfl T.z_sorted T.z_len LB rfl hr rfl (pv 2))))))),?_⟩
  have sl:=sizeLine_eq
  obtain⟨_,xs,e,ha,rl⟩:=aS.mp rb
  cases e
  have lx:=rl.length
  rw[YL] at lx
  change tSeq _ _ _ _ _
  refine aT (λσ' H1=>ar H H1/\∃r ys,H1 r=some (.lst ys)/\ys.length=b.length/\(∀(i:Nat) y,ys[i]?=some y->∃d,y=.ref d/\eN H1 d (Bf.steps b (i:Int)))/\σ'=[some (.ref a),some (.ref r),none,none,none]) ?_ (λN hN=>?_)
  case refine_2=>
   simp_all only[vK]
   refine⟨_,ha,by omega,by omega,?_⟩
   refine comp_map src_range (λ_ _ _ _ h=>by rw[h.1];exact ar.refl _) (by omega) (λi y H4=>∃d,y=.ref d/\eN H4 d (Bf.steps b (i:Int))) (λi y H4 H5 s5 ⟨d,e,h⟩=>⟨d,e,h.mono s5⟩) ?_ ?_
   ·rintro i x w0 H4 H5 Q2 hi s4 ⟨rfl,rfl⟩ kq
    simp_all only[vK,Int.zero_add]
    exact⟨b,rb.mono s4,by omega,oW,gb,by omega,by omega,λd H6 s6 n6 dr=>kq _ _ s6 ⟨d,rfl,dr⟩⟩
   ·intro ys H5 s5 ly hy D n1 n2
    refine hN _ _ ⟨s5.trans (ah n2),D,ys,ag,by omega,λi y e=>?_,rfl⟩
    obtain⟨d,e1,h1⟩:=hy i y e
    exact⟨d,e1,h1.mono (ah n2)⟩
  rintro _ H1 ⟨s1,r,ys,Ha,ly,hy,rfl⟩
  change tSeq _ _ _ _ _
  refine aT (λσ' H2=>∃fa,H1 fa=none/\ar H1 H2/\H2 fa=some (.lst [])/\σ'=[some (.ref a),some (.ref r),some (.ref fa),none,none]) ?_ (λN hN=>?_)
  case refine_2=>
   simp_all only[]
   exact⟨Y0 _,λfa nf=>hN _ _ ⟨fa,nf,ah nf,ag,rfl⟩⟩
  rintro _ H2 ⟨fa,nf,s2,UN,rfl⟩
  have ES:∀i:Nat,i<b.length->∃d kvs,ys[i]?=some (.ref d)/\eN H1 d (Bf.steps b (i:Int))/\H1 d=some (.dK kvs)/\eJ kvs=Pr.kb b (i:Int)/\(∀p∈kvs,∃k,p.1=Sum.inl k)/\kvs.length=(Pr.kb b (i:Int)).length:=λi hi=>by
   obtain⟨d,e,dr⟩:=hy i _ (YM (by omega))
   obtain⟨kvs,hd,hk,_⟩:=dr.ex
   refine⟨d,kvs,by rw[YM (by omega),e],dr,hd,?_,λp hp=>?_,?_⟩
   ·have:eJ kvs=(kvs.map (·.1)).map (λk:Key=>match k with | .inl i=>i | .inr _=>(0:Int)):=by
     unfold eJ
     rw[List.map_map]
     rfl
    rw[this,hk,List.map_map]
    unfold Pr.kb
    simp [Function.comp_def]
   ·have:p.1∈(Bf.keys (Bf.steps b (i:Int))).map Sum.inl:=by rw[<-hk];exact List.mem_map.mpr ⟨p,hp,rfl⟩
    obtain⟨k,_,e⟩:=List.mem_map.mp this
    exact⟨k,e.symm⟩
   ·have:=congrArg List.length hk
    rw[YL,YL] at this
    exact this
  change tSeq _ _ _ _ _
  refine aT (λσ' H3=>ar H1 H3/\∃as,H3 fa=some (.lst (List.map V.ref as))/\Al (λp v=>∃x,v=.ref x/\H3 x=some (.lst (List.map V.int (Pr.d7 b p)))/\H1 x=none) (Pr.qw b b.length) (as.map V.ref)/\∃z3 z4,σ'=[some (.ref a),some (.ref r),some (.ref fa),z3,z4]) ?_ (λN hN=>?_)
  case refine_2=>
   simp_all only[]
   refine⟨_,s2 _ _ (s1 _ _ ha),by omega,by omega,?_⟩
   refine bu (src_range (Ok:=λ_=>True)) (λi σ H3=>ar H1 H3/\∃as,H3 fa=some (.lst (List.map V.ref as))/\Al (λp v=>∃x,v=.ref x/\H3 x=some (.lst (List.map V.int (Pr.d7 b p)))/\H1 x=none/\x≠fa) (Pr.qw b i) (as.map V.ref)/\∃z3 z4,σ=[some (.ref a),some (.ref r),some (.ref fa),z3,z4]) ⟨s2,[],UN,trivial,_,_,rfl⟩ (λ_ _ _ _ _=>trivial) ?_ ?_
   ·rintro i x σ H3 H4 hi ⟨s3,as,AB,al,z3,z4,rfl⟩ ⟨rfl,rfl⟩
    simp_all only[Int.zero_add]
    have UO:i<b.length:=by omega
    have tq:Pr.In b (i:Int):=⟨by omega,by omega⟩
    obtain⟨d,kvs,ed,dr,hd,ek,ka,kl⟩:=ES i UO
    have Ys:=Pr.Ew gb tq
    refine⟨ys,s3 _ _ Ha,.ref d,bx ed,d,rfl,kvs,.inl (s3 _ _ hd),ka,by rw[ek];exact Pr.j9 gb tq,by omega,λl nl=>?_⟩
    rw[ek]
    have sL:=ah (o:=.lst (List.map V.int (Nm.gh (Pr.kb b (i:Int))))) nl
    have G8:(upd H4 l (.lst (List.map V.int (Nm.gh (Pr.kb b (i:Int)))))) l=some (.lst (List.map V.int (Nm.gh (Pr.kb b (i:Int))))):=ag
    generalize upd H4 l (.lst (List.map V.int (Nm.gh (Pr.kb b (i:Int)))))=H5 at *
    refine⟨⟨_,aR.of G8⟩,?_⟩
    have S:Src (tT K l) (ar H5) (Nm.gh (Pr.kb b (i:Int))).length (λj x H H3=>H3=H/\(List.map V.int (Nm.gh (Pr.kb b (i:Int))))[j]?=some x):=by
     have:=src_list (K:=K) (a:=l) (xs:=List.map V.int (Nm.gh (Pr.kb b (i:Int)))) (Ok:=ar H5) (λH' s'=>aR.of (s' _ _ G8))
     rw[YL] at this
     exact this
    refine cZ (Nm.gh (Pr.kb b (i:Int))) (λo=>if decide ((i:Int)∈Pr.kb b o)=true then some o else none) S (λ_ _ _ _ h=>h.1) (by rw[Nm.mD];omega) ?_ ?_
    ·rintro j o x eo ⟨_,ex⟩ Y N1 y1 n1
     rw[YQ,eo] at ex
     cases ex
     have ho:=Nm.vk.mp (YN eo)
     obtain⟨R7,UP⟩:=Pr.pE gb tq ho
     obtain⟨o,rfl⟩:=ZA R7
     obtain⟨d2,UQ,KA,UR,hd2,Yt,Yu,Yv⟩:=ES o (by omega)
     obtain⟨oo,g1,g2⟩:=(UR.mono (s3.trans sL)).has (Pr.j9 gb ⟨R7,UP⟩) (i:Int)
     simp_all only[s3.trans sL _ _ Ha,show fK ys (o:Int)=some (.ref d2) from bx KA]
     refine⟨oo,g1,?_⟩
     rw[g2]
     exact q9 (λc=>y1 _ (if_pos c)) (λc=>n1 (if_neg c))
    ·intro D n1 n2
     rw[v9]
     have ep:(Nm.gh (Pr.kb b (i:Int))).filter (λo=>decide ((i:Int)∈Pr.kb b o))=Pr.d7 b (i:Int):=rfl
     rw[ep]
     have ne:=Pr.nk gb tq
     have sD:=ah (o:=.lst (List.map V.int (Pr.d7 b (i:Int)))) n2
     have hD:(upd H5 D (.lst (List.map V.int (Pr.d7 b (i:Int))))) D=some (.lst (List.map V.int (Pr.d7 b (i:Int)))):=ag
     generalize upd H5 D (.lst (List.map V.int (Pr.d7 b (i:Int))))=H6 at *
     have Hb:ar H1 H6:=s3.trans (sL.trans sD)
     have G9:H6 fa=some (.lst (List.map V.ref as)):=sD _ _ (sL _ _ AB)
     have nD:H1 D=none:=none_of (s3.trans sL) n2
     have Df:D≠fa:=λz=>by rw[z,sL _ _ AB] at n2;cases n2
     have R8:Al (λp v=>∃x,v=V.ref x/\H6 x=some (.lst (List.map V.int (Pr.d7 b p)))/\H1 x=none/\x≠fa) (Pr.qw b i) (as.map V.ref):=al.imp λp v ⟨x,e,h1,h2,h3⟩=>⟨x,e,sD _ _ (sL _ _ h1),h2,h3⟩
     have uR:=al.length
     rw[YL] at uR
     have BB:=Pr.vQ (b:=b) (n:=i)
     cases ec:Pr.d7 b (i:Int) with
     | nil=>exact absurd ec ne
     | cons x0 rest=>
      have Hc:Pr.rep b (i:Int)=x0:=by unfold Pr.rep;rw[ec];rfl
      refine⟨_,hD,.int x0,by rw[ec,Y3];exact at0,rfl,?_⟩
      by_cases c:x0=(i:Int)
      ·rw[if_pos (by rw[c])]
       refine⟨.inl ⟨rfl,_,aR.of G9⟩,fa,List.map V.ref as,.ref D,rfl,rfl,G9,by rw[YL];omega,aO Hb nf,as++ [D],by rw[ag,Zj];rfl,?_,_,rfl⟩
       rw[Pr.sJ,if_pos (by rw[Hc,c]),Zj]
       exact(R8.imp λp v ⟨x,e,h1,h2,h3⟩=>⟨x,e,by rw[ax h3];exact h1,h2,h3⟩).append (.one ⟨D,rfl,by rw[ax Df];exact hD,nD,Df⟩)
      ·rw[if_neg (by intro z;exact c (by injection z))]
       refine⟨Hb,as,G9,?_,_,rfl⟩
       rw[Pr.sJ,if_neg (by rw[Hc];exact c)]
       exact R8
   ·rintro σ H3 ⟨s3,as,AB,al,z3,z4,rfl⟩
    rw[YX,<-lx] at al
    exact hN _ _ ⟨s3,as,AB,al.imp λp v ⟨x,e,h1,h2,_⟩=>⟨x,e,h1,h2⟩,_,_,rfl⟩
  rintro _ H3 ⟨s3,as,AB,al,z3,z4,rfl⟩
  simp_all only[zg]
  have each:∀x∈as,∃p,p∈Pr.qw b b.length/\H3 x=some (.lst (List.map V.int (Pr.d7 b p)))/\H1 x=none/\nJ H3 x=p/\Pr.In b p:=λx hx=>by
   obtain⟨i,ei⟩:=Y4 hx
   obtain⟨p,ep,x',e,h1,h2⟩:=al.get (show(as.map V.ref)[i]?=some (.ref x) by rw[YQ,ei];rfl)
   cases e
   have mp:=YN ep
   obtain⟨tq,er⟩:=Pr.jc.mp mp
   refine⟨p,mp,h1,h2,?_,tq⟩
   unfold nJ
   rw[h1]
   unfold Pr.rep at er
   cases ec:Pr.d7 b p with
   | nil=>exact absurd ec (Pr.nk gb tq)
   | cons x0 r0=>rw[ec] at er;exact er
  have emap:as.map (nJ H3)=Pr.qw b b.length:=by
   apply ZO
   intro i
   rw[YQ]
   cases ei:as[i]? with
   | none=>
    have l1:=al.length
    rw[YL] at l1
    have l2:=List.getElem?_eq_none_iff.mp ei
    rw[Y1 (by omega)]
    rfl
   | some x=>
    obtain⟨p,ep,x',e,h1,h2⟩:=al.get (show(as.map V.ref)[i]?=some (.ref x) by rw[YQ,ei];rfl)
    cases e
    obtain⟨tq,er⟩:=Pr.jc.mp (YN ep)
    rw[ep]
    show some (nJ H3 x)=some p
    unfold nJ
    rw[h1]
    unfold Pr.rep at er
    cases ec:Pr.d7 b p with
    | nil=>exact absurd ec (Pr.nk gb tq)
    | cons x0 r0=>rw[ec] at er;exact congrArg some er
  have uR:=al.length
  rw[YL] at uR
  have BB:=Pr.vQ (b:=b) (n:=b.length)
  refine⟨as,AB,by omega,λx=>((Pr.kb b (nJ H3 x)).length:Int),ys,s3 _ _ Ha,s3 _ _ (s1 _ _ j8),λx hx=>?_,λp cs H4 s4 np hp pm pw=>?_⟩
  ·obtain⟨p,mp,h1,h2,h3,tq⟩:=each x hx
   obtain⟨i,rfl⟩:=ZA tq.1
   have i1:=tq.2
   obtain⟨d,kvs,ed,dr,hd,ek,ka,kl⟩:=ES i (by omega)
   show ∃j xs,H3 x=some (HO.lst (V.int j::xs))/\0<=j/\j<1000000/\∃x_1,ys[j.toNat]?=some (V.ref x_1)/\∃x_2,H3 x_1=some (HO.dK x_2)/\((Pr.kb b (nJ H3 x)).length:Int)=((x_2.length:Nat):Int)
   rw[h3]
   have er:=(Pr.jc.mp mp).2
   unfold Pr.rep at er
   cases ec:Pr.d7 b (i:Int) with
   | nil=>exact absurd ec (Pr.nk gb tq)
   | cons x0 r0=>
    rw[ec] at er h1
    have er:x0=(i:Int):=er
    subst er
    exact⟨(i:Int),_,h1,by omega,by omega,d,by rw[YX];exact ed,kvs,s3 _ _ hd,by rw[kl]⟩
  ·have KW:(cs.map (nJ H3)).Perm (Pr.qw b b.length):=by rw[<-emap];exact pm.map _
   refine kk p (cs.map (nJ H3)) cs H4 ⟨KW,?_⟩ ((s1.trans s3).trans s4) (none_of (s1.trans s3) np) hp ?_
   ·rw[List.pairwise_map]
    exact pw.imp λ{x y} (h:((Pr.kb b (nJ H3 x)).length:Int)<=((Pr.kb b (nJ H3 y)).length:Int))=>by omega
   ·refine Al.of (by rw[YL,YL]) λi v q e1 e2=>?_
    rw[YQ] at e1 e2
    obtain⟨x,ex,rfl⟩:=Option.map_eq_some_iff.mp e1
    rw[ex] at e2
    cases e2
    obtain⟨q,mq,h1,h2,h3,tq⟩:=each x (pm.mem_iff.mp (YN ex))
    rw[h3]
    exact⟨x,rfl,s4 _ _ h1,none_of s1 h2⟩
theorem KY:(0:Int)+ ((0:Nat):Int)=0:=rfl
theorem eP:aI ["rows","start","spot"] ["rows","start"] (ab (top 16)):=⟨rfl,rfl,rfl,by decide +kernel,rfl,by decide +kernel,by decide +kernel⟩
theorem He (T:Txt K mg aq tc):bN P w K mg base (bC P w) 1 "row_with_head" ["rows","start"] zD:=by
 refine T.kF.dZ (λ_ _ _ _ _ _=>dN λ_ _=>rfl) λf fd F=>F.d4 eP (λvs H Q E h=>?_) (λb9 A outer s H vs Q E hr h=>?_)
 ·obtain⟨_,_,_,_,rfl,_⟩:=h;rfl
 ·obtain⟨a,q,d,r,rfl,ha,hq,d0,kk⟩:=h
  have nd:=eP.nd
  refine⟨_,(ae (bL PassesOwn.never rfl (wz rfl T.z_range (aa (pv 1) (aa (aL bp (by rfl) T.z_len Y7 (aa (pv 0) af (se rfl)) (he:=se rfl) (hpl:=na rfl)) af (se rfl)) (se rfl))) (aw (i:=2) nd rfl (Or.inl rfl)) (ao (bS (aQ qP (aA aE (aA aE (pv 0) (pv 2) (λ_ _=>rfl)) aj (λ_ _=>rfl)) aj (aW _)) (ao (aH (pv 2)))
   aZ)))
  (ao (aH el))),?_⟩
  simp_all only[]
  refine⟨_,ha,by decide,by decide,by simp,by simp,bu (src_range (Ok:=λ_=>True)) (λi σ H'=>H=H'/\i=0/\∃z,σ=[some (.ref a),some (.int 0),z]) ⟨rfl,rfl,_,rfl⟩ (λ_ _ _ _ _=>trivial) ?_ ?_⟩
  ·rintro i x σ H' Yw hi ⟨rfl,rfl,z,rfl⟩ ⟨rfl,rfl⟩
   simp_all only[ha,KY,hq]
   rw[if_pos d0]
   exact kk
  ·rintro σ H' ⟨rfl,hz,z,rfl⟩
   cases hz
theorem nK:aI ["rows","one","other","turned"] ["rows","one","other"] (ab (top 17)):=⟨rfl,rfl,rfl,by decide +kernel,rfl,by decide +kernel,by decide +kernel⟩
theorem ET (T:Txt K mg aq tc):bN P w K mg base (bC P w) 1 "swapped" ["rows","one","other"] zE:=by
 refine T.xn.dZ (λ_ _ _ _ _ _=>sG λ_ _ _=>rfl) λf fd F=>F.d4 nK (λvs H Q E h=>?_) (λb9 A outer s H vs Q E hr h=>?_)
 ·obtain⟨_,_,rfl,_⟩:=h;rfl
 ·obtain⟨a,q,rfl,ha,kk⟩:=h
  have nd:=nK.nd
  refine⟨_,(ae (ay (i:=3) nd rfl (Or.inl rfl) (cP (bX (K:=K)) (by rfl) T.z_list rfl (aa (pv 0) af (se rfl)) (he:=se rfl) (hpl:=na rfl)))
  (ae (dB (aA aE (pv 0) (pv 2) (λ_ _=>rfl)) (dA (pv 3) (pv 1) set_list))
  (ae (dB (aA aE (pv 0) (pv 1) (λ_ _=>rfl)) (dA (pv 3) (pv 2) set_list))
  (ao (aH (pv 3)))))),?_⟩
  simp_all only[ha]
  refine⟨_,.inl (aR.of ha),λm nm=>?_⟩
  have am:a≠m:=λe=>by rw[e,nm] at ha;cases ha
  refine⟨_,by rw[ax am];exact ha,_,at0,_,ag,0,rfl,_,by rw[ax am,ax am];exact ha,_,at0,_,ag,0,rfl,?_⟩
  exact kk _ _ (aO (aO (ah nm) nm) nm) ag
theorem cS:aI ["rows","spot","last","head","tail","left","number","row","first"] ["rows","spot","last"] (ab (top 18)):=⟨rfl,rfl,rfl,by decide +kernel,rfl,by decide +kernel,by decide +kernel⟩
theorem Hf (T:Txt K mg aq tc):bN P w K mg base (bC P w) 1 "without_first_column" ["rows","spot","last"] zF:=by
 refine T.fH.dZ (λ_ _ _ _ _ _=>sG λ_ _ _=>rfl) λf fd F=>F.d4 cS (λvs H Q E h=>?_) (λb9 A outer s H vs Q E hr h=>?_)
 ·obtain⟨_,_,_,_,_,rfl,_⟩:=h;rfl
 ·obtain⟨a,q,d,s',l,rfl,ha,hq,kk⟩:=h
  have nd:=cS.nd
  refine⟨_,(ae (ay (i:=3) nd rfl (Or.inr rfl) (aA aE (aA aE (pv 0) (pv 1) (λ_ _=>rfl)) aj (λ_ _=>rfl)))
  (ae (ay (i:=4) nd rfl (Or.inl rfl) (qU (rj (K:=K)) (aA aE (pv 0) (pv 1) (λ_ _=>rfl)) (u9 aj) u7))
  (ae (ay (i:=5) nd rfl (Or.inl rfl) (cU af))
  (ae (bL PassesOwn.never rfl (cm (K:=K) rfl T.z_enumerate (aa (pv 0) af (se rfl))) (bK (K:=K) (n:=2) rfl (aK (aw (i:=6) nd rfl (Or.inl rfl)) (aK (aw (i:=7) nd rfl (Or.inl rfl)) bJ))) (ao (bS (aQ df (pv 6) (pv 1) (aW _)) (ao (gL (oS Z4 Z5 Z6 dP.r (pv 5) (aa (pv 4) af (se rfl)))))
   (ae (ay (i:=8) nd rfl (Or.inr rfl) (aA aE (pv 7) aj (λ_ _=>rfl)))
  (ao (gL (oS Z4 Z5 Z6 dP.r (pv 5) (aa (bD rfl (N:=["rows","spot","last","head","tail","left","number","row","first"]) (so:=ab (top 18)) (N':=["one","other","last","head","first"]) (k:=2) (fr:=[2,3,8]) rfl rfl ⟨rfl,by decide +kernel,by decide +kernel,by decide +kernel,rfl,by decide +kernel,by decide +kernel⟩ (iW (K:=K) rfl T.z_zip (aa (qU (rj (K:=K)) (pv 7) (u9 aj) u7) (aa (pv 4) af (se rfl)) (se rfl))) (λ_ _ _ _ _=>(bK (K:=K) (n:=2) rfl (aK (aw (i:=0) (show(["one","other","last","head","first"]:List Str).Nodup by decide +kernel) rfl (Or.inl rfl)) (aK (aw (i:=1) (show(["one","other","last","head","first"]:List Str).Nodup by decide +kernel) rfl (Or.inl rfl)) bJ)))) (λ_ _ _ _ _=>bf)
   (λ_ _ _ _ _=>(aG yh (aG pO (aG aY (pv 3) (pv 0)) (aG aY (pv 4) (pv 1))) (pv 2)))) af (se rfl)))))))))
  (ao (aH (pv 5))))))),?_⟩
  simp_all only[ha,hq]
  refine⟨_,aR.of hq,λtl US=>⟨by decide,λlf G7=>?_⟩⟩
  have s1:=ah (o:=.lst (uf [V.int d,V.int s'] (some 1) none)) US
  have h1:upd H tl (.lst (uf [V.int d,V.int s'] (some 1) none)) tl=some (.lst [.int s']):=ag
  generalize upd H tl (.lst (uf [V.int d,V.int s'] (some 1) none))=H1 at *
  have s2:=ah (o:=.lst []) G7
  have h2:upd H1 lf (.lst []) lf=some (.lst []):=ag
  have UT:=s2 _ _ h1
  have n1:H lf=none:=none_of s1 G7
  generalize upd H1 lf (.lst [])=H2 at *
  have UU:tl≠lf:=λe=>by rw[e,G7] at h1;cases h1
  have xu:=s1.trans s2
  refine⟨⟨_,aR.of (xu _ _ ha)⟩,bu (eG (Ok:=ar H) (λH' s=>aR.of (s _ _ ha))) (λi σ H3=>ar H H3/\H3 tl=some (.lst [.int s'])/\H3 lf=some (.lst (List.replicate i (V.ref tl)))/\i<=1/\∃z1 z2 z3,σ=[some (.ref a),some (.int 0),some (.int l),some (.int d),some (.ref tl),some (.ref lf),z1,z2,z3]) ⟨xu,UT,h2,by decide,_,_,_,rfl⟩ (λ_ _ _ _ h=>h.1) ?_ ?_⟩
  ·rintro i x σ H3 H4 hi ⟨s3,KZ,Jp,i1,z1,z2,z3,rfl⟩ ⟨p,y,np,rfl,ey,rfl⟩
   have i0:i=0:=by have:i<1:=hi;omega
   subst i0
   cases ey
   refine⟨p,_,rfl,dH.of ag,rfl,?_⟩
   have s4:=ah (o:=.tup [.int ((0:Nat):Int),.ref q]) np
   generalize upd H3 p (.tup [.int ((0:Nat):Int),.ref q])=H4 at *
   simp_all only[lB]
   rw[if_pos (by rfl)]
   refine⟨.inl ⟨rfl,_,aR.of (s4 _ _ Jp)⟩,_,s4 _ _ Jp,by show 0<sizeLine;decide,aO (s3.trans s4) n1,by rw[ax UU];exact s4 _ _ KZ,ag,YO _,_,rfl⟩
  ·rintro σ H3 ⟨s3,KZ,Jp,i1,z1,z2,z3,rfl⟩
   simp_all only[]
   exact kk _ _ _ s3 Jp KZ
theorem tu:aI ["rows","columns","last","column","spot","head"] ["rows","columns"] (ab (top 19)):=⟨rfl,rfl,rfl,by decide +kernel,rfl,by decide +kernel,by decide +kernel⟩
theorem Hg (T:Txt K mg aq tc):bN P w K mg base (bC P w) 2 "swept" ["rows","columns"] zG:=by
 have kL:bN P w K mg base (bC P w) 1 "row_with_head" ["rows","start"] zD:=He T
 have xv:bN P w K mg base (bC P w) 1 "swapped" ["rows","one","other"] zE:=ET T
 have fI:bN P w K mg base (bC P w) 1 "without_first_column" ["rows","spot","last"] zF:=Hf T
 refine T.BL.dZ (λ_ _ _ _ _ _=>dN λ_ _=>rfl) λf fd F=>F.d4 tu (λvs H Q E h=>?_) (λb9 A outer s H vs Q E hr h=>?_)
 ·obtain⟨_,_,_,_,rfl,_⟩:=h;rfl
 ·obtain⟨a,q,d,s',rfl,ha,hq,d0,kk⟩:=h
  have nd:=tu.nd
  refine⟨_,(ae (ay (i:=2) nd rfl (Or.inl rfl) aj)
  (ae (bL PassesOwn.never rfl (cE rfl T.z_range (aa (pv 1) af (se rfl))) (aw (i:=3) nd rfl (Or.inl rfl)) (ae (ay (i:=4) nd rfl (Or.inl rfl) (aB kL (hr.mono (by decide)) rfl au.pass (aa (pv 0) (aa (pv 3) af (se rfl)) (se rfl)) (he:=se rfl) (hpl:=na rfl)))
  (ae (bS (aQ tY (pv 4) el (aW _)) (ao (aH (bU (aa (pv 0) (aa (pv 3) (aa (pv 2) af (se rfl)) (se rfl)) (se rfl)))))
   aZ)
  (ae (ay (i:=0) nd rfl (Or.inl rfl) (aB xv (hr.mono (by decide)) rfl au.pass (aa (pv 0) (aa (pv 3) (aa (pv 4) af (se rfl)) (se rfl)) (se rfl)) (he:=se rfl) (hpl:=na rfl)))
  (ae (ay (i:=5) nd rfl (Or.inl rfl) (aA aE (aA aE (pv 0) (pv 3) (λ_ _=>rfl)) aj (λ_ _=>rfl)))
  (ae (ay (i:=0) nd rfl (Or.inl rfl) (aB fI (hr.mono (by decide)) rfl au.pass (aa (pv 0) (aa (pv 3) (aa (pv 2) af (se rfl)) (se rfl)) (se rfl)) (he:=se rfl) (hpl:=na rfl)))
  (ao (ay (i:=2) nd rfl (Or.inl rfl) (pv 5)))))))))
  (ao (aH (bU (aa (pv 0) (aa (pv 1) (aa (pv 2) af (se rfl)) (se rfl)) (se rfl))))))),?_⟩
  simp_all only[]
  refine⟨by decide,by decide,bu (src_range (Ok:=λ_=>True)) (λi σ H1=>ar H H1/\((i=0/\H1=H/\∃z1 z2 z3,σ=[some (.ref a),some (.int 1),some (.int 1),z1,z2,z3])\/(i=1/\∃p t z1 z2 z3,H1 p=some (.lst [.ref t])/\H1 t=some (.lst [.int s'])/\σ=[some (.ref p),some (.int 1),some (.int d),z1,z2,z3]))) ⟨ar.refl _,.inl ⟨rfl,rfl,_,_,_,rfl⟩⟩ (λ_ _ _ _ _=>trivial) ?_ ?_⟩
  ·rintro i x σ H1 H2 hi ⟨s1,iv⟩ ⟨rfl,rfl⟩
   have i0:i=0:=by have:i< (1:Int).toNat:=hi;omega
   subst i0
   rcases iv with ⟨_,rfl,z1,z2,z3,rfl⟩ | ⟨h,_⟩
   ·simp_all only[zD,zE,zF,KY]
    refine⟨_,ha,_,_,hq,d0,?_⟩
    rw[if_neg (by intro z;cases z)]
    refine⟨_,ha,λp H3 s3 hp=>?_⟩
    simp_all only[hp]
    refine⟨_,s3 _ _ hq,_,at0,_,_,s3 _ _ hq,λp4 t4 H4 s4 UW UX=>?_⟩
    exact⟨s3.trans s4,.inr ⟨_,_,UW,UX,rfl,rfl,_,rfl⟩⟩
   ·cases h
  ·rintro σ H1 ⟨s1,iv⟩
   rcases iv with ⟨h,_⟩ | ⟨_,p,t,z1,z2,z3,hp,ht,rfl⟩
   ·cases h
   ·simp_all only[]
    exact⟨by decide,λu H2 s2 nu e2=>kk u p t H2 (s1.trans s2) e2 (s2 _ _ hp) (s2 _ _ ht)⟩
theorem eQ:aI ["rows","right","done","sign"] ["rows","right"] (ab (top 20)):=⟨rfl,rfl,rfl,by decide +kernel,rfl,by decide +kernel,by decide +kernel⟩
theorem CM (T:Txt K mg aq tc):bN P w K mg base (bC P w) 3 "whole_answers" ["rows","right"] sO:=by
 have BY:bN P w K mg base (bC P w) 2 "swept" ["rows","columns"] zG:=Hg T
 refine T.kG.dZ (λ_ _ _ _ _ _=>dN λ_ _=>rfl) λf fd F=>F.d4 eQ (λvs H Q E h=>?_) (λb9 A outer s H vs Q E hr h=>?_)
 ·obtain⟨_,_,_,_,_,rfl,_⟩:=h;rfl
 ·obtain⟨a,c,q,d,s',rfl,ha,hq,hc,d0,kk⟩:=h
  have nd:=eQ.nd
  refine⟨_,(ae (ay (i:=2) nd rfl (Or.inl rfl) (aB BY (hr.mono (by decide)) rfl au.pass (aa (bD rfl (N:=["rows","right","done","sign"]) (so:=ab (top 20)) (N':=["row","side"]) (k:=2) (fr:=[]) rfl rfl ⟨rfl,by decide +kernel,by decide +kernel,by decide +kernel,rfl,by decide +kernel,by decide +kernel⟩ (iW (K:=K) rfl T.z_zip (aa (pv 0) (aa (pv 1) af (se rfl)) (se rfl))) (λ_ _ _ _ _=>(bK (K:=K) (n:=2) rfl (aK (aw (i:=0) (show(["row","side"]:List Str).Nodup by decide +kernel) rfl (Or.inl rfl)) (aK (aw (i:=1) (show(["row","side"]:List Str).Nodup by decide +kernel) rfl (Or.inl rfl)) bJ)))) (λ_ _ _ _ _=>bf)
   (λ_ _ _ _ _=>(aG DB (pv 0) (cU (aa (pv 1) af (se rfl)))))) (aa (aL bp (by rfl) T.z_len Y7 (aa (pv 0) af (se rfl)) (he:=se rfl) (hpl:=na rfl)) af (se rfl)) (se rfl)) (he:=se rfl) (hpl:=na rfl)))
  (ae (bS (aQ qQ (aA aJ (pv 2) aj (λ_ _=>rfl)) (aL bp (by rfl) T.z_len Y7 (aa (pv 0) af (se rfl)) (he:=se rfl) (hpl:=na rfl)) (aW _)) (ao (aH el))
   aZ)
  (ae (ay (i:=3) nd rfl (Or.inr rfl) (iN (aQ iP (aA aJ (pv 2) aj (λ_ _=>rfl)) aj (aW _)) aj (xU tX aj)))
  (ao (aH (bU (aa (bD rfl (N:=["rows","right","done","sign"]) (so:=ab (top 20)) (N':=["row","sign"]) (k:=1) (fr:=[3]) rfl rfl ⟨rfl,by decide +kernel,by decide +kernel,by decide +kernel,rfl,by decide +kernel,by decide +kernel⟩ (aP (K:=K) (aA aJ (pv 2) aj (λ_ _=>rfl))) (λ_ _ _ _ _=>(aw (i:=0) (show(["row","sign"]:List Str).Nodup by decide +kernel) rfl (Or.inl rfl))) (λ_ _ _ _ _=>bf)
   (λ_ _ _ _ _=>(aG aY (aA aE (pv 0) aj (λ_ _=>rfl)) (pv 1)))) (aa (aG aY (aA aJ (pv 2) aj (λ_ _=>rfl)) (pv 3)) af (se rfl)) (se rfl)))))))),?_⟩
  simp_all only[zG]
  refine⟨⟨_,aR.of ha⟩,⟨_,aR.of hc⟩,?_⟩
  refine jH (K:=K) (lE (λH' s'=>aR.of (s' _ _ ha)) (λH' s'=>aR.of (s' _ _ hc))) (λi u v _=>u=.ref q/\v=.int s') ?_ (by show 1<=sizeLine;decide) (λi y H'=>∃r,y=.ref r/\H' r=some (.lst [.int d,.int s'])) (λ_ _ _ _ s ⟨r,e,h⟩=>⟨r,e,s _ _ h⟩) ?_ ?_
  ·rintro i v H2 H3 hi s2 ⟨t,x,y,nt,rfl,ex,ey,rfl⟩
   have i0:i=0:=by have:i<1:=hi;omega
   subst i0
   cases ex
   cases ey
   exact⟨ah nt,t,_,_,rfl,dH.of ag,rfl,rfl⟩
  ·rintro i u v H2 Q2 hi s2 ⟨rfl,rfl⟩ kq
   simp_all only[Gb]
   exact⟨by decide,λm nm=>⟨_,ah nm _ _ (s2 _ _ hq),_,ag,by show 2<=sizeLine;decide,λp np=>kq _ _ ((ah nm).trans (ah np)) ⟨p,rfl,ag⟩⟩⟩
  ·intro ys H2 s2 ly hy D n1 n2
   have ly:ys.length=1:=ly
   match ys,ly with
   | [y],_=>
    obtain⟨r,rfl,sZ⟩:=hy 0 y rfl
    have sD:=ah (o:=.lst [V.ref r]) n2
    have hD:upd H2 D (.lst [V.ref r]) D=some (.lst [V.ref r]):=ag
    generalize upd H2 D (.lst [V.ref r])=H3 at *
    have s3:=s2.trans sD
    refine⟨_,s3 _ _ ha,rfl,_,hD,_,_,sD _ _ sZ,by omega,λu p t H4 s4 hu hp ht=>?_⟩
    simp_all only[hu,(s3.trans s4) _ _ ha]
    rw[if_neg (by decide),if_pos d0]
    refine⟨⟨_,aR.of hp⟩,?_⟩
    have S':Src (tT K p) (ar H4) [s'].length (λi x H H3=>H3=H/\[V.ref t][i]?=some x):=src_list (K:=K) (a:=p) (xs:=[V.ref t]) (Ok:=ar H4) (λH2 s2=>aR.of (s2 _ _ hp))
    refine cZ [s'] (λv=>some v) S' (λ_ _ _ _ h=>h.1) (by show 1<=sizeLine;decide) ?_ ?_
    ·rintro i v x ev ⟨_,ex⟩ Y N y1 _
     have i0:i=0:=by have:=(List.getElem?_eq_some_iff.mp ev).1;have:i<1:=this;omega
     subst i0
     cases ev
     cases ex
     simp_all only[fk,ht]
     rw[Int.mul_one]
     exact⟨pX,y1 _ rfl⟩
    ·intro D' m1 m2
     refine⟨_,ah m2 _ _ hu,_,at2,_,rfl,pX,by decide,λx5 H5 s5 n5 h5=>kk _ _ _ (s3.trans (s4.trans ((ah m2).trans s5))) (by rw[h5,Int.mul_one]) (s5 _ _ ag)⟩
theorem cI {H:Hp} {ws:List (Int×Int)} {xs:List V} {i:Nat} {a:Int×Int} (r:bq H (ws.map bw) xs) (e:ws[i]?=some a):∃p,xs[i]?=some (.ref p)/\H p=some (.tup [.int a.1,.int a.2]):=by
 obtain⟨x,ex,rx⟩:=r.at (d:=bw a) (i:=i) (by rw[YQ,e];rfl)
 obtain⟨p,rfl,hp⟩:=bW.mp rx
 exact⟨p,ex,hp⟩
theorem d9:aI ["one","other","rest"] ["one","other"] (ab (top 12)):=⟨rfl,rfl,rfl,by decide +kernel,rfl,by decide +kernel,by decide +kernel⟩
theorem CN (T:Txt K mg aq tc):bN P w K mg base (bC P w) 1 "common_divisor" ["one","other"] xt:=by
 refine T.jQ.dZ (λ_ _ _ _ _ _=>dN λ_ _=>rfl) λf fd F=>F.d4 d9 (λvs H Q E h=>?_) (λb9 A outer s H vs Q E hr h=>?_)
 ·obtain⟨_,_,rfl,_⟩:=h;rfl
 ·obtain⟨a,b,rfl,k⟩:=h
  have nd:=d9.nd
  refine⟨_,(ae (ay (i:=0) nd rfl (Or.inl rfl) (aL lZ (by rfl) T.z_abs rfl (aa (pv 0) af (se rfl)) (he:=se rfl) (hpl:=na rfl)))
  (ae (ay (i:=1) nd rfl (Or.inl rfl) (aL lZ (by rfl) T.z_abs rfl (aa (pv 1) af (se rfl)) (he:=se rfl) (hpl:=na rfl)))
  (ae (iO PassesOwn.never (aQ qP (pv 1) aj (aW _)) (ae (ay (i:=2) nd rfl (Or.inl rfl) (aG cq (pv 0) (pv 1)))
  (ae (ay (i:=0) nd rfl (Or.inl rfl) (pv 1))
  (ao (ay (i:=1) nd rfl (Or.inl rfl) (pv 2))))))
  (ao (aH (pv 0)))))),?_⟩
  simp_all only[]
  refine qO (λσ H1=>H1=H/\∃(x y:Int) (z:Option V),σ=[some (.int x),some (.int y),z]/\0<=x/\0<=y/\Nm.g x y=Nm.g a b) (λσ _=>match σ with | [_,some (.int y),_]=>y.toNat | _=>0) ?_ ?_ ?_
  ·refine⟨rfl,_,_,_,rfl,?_,?_,?_⟩
   ·split <;>omega
   ·split <;>omega
   ·rw[show(if a<0 then -a else a)=(a.natAbs:Int) by split <;>omega,show(if b<0 then -b else b)=(b.natAbs:Int) by split <;>omega,Nm.yn,Nm.vf]
  ·rintro σ H1 ⟨rfl,x,y,z,rfl,x0,y0,e⟩
   simp_all only[]
   refine q9 (λc=>?_) (λc=>?_)
   ·refine⟨by omega,y0,ZK _ (by omega),by rw[Nm.yo x0 (by omega),e],?_⟩
    have:=ZX x (show 0<y by omega)
    have:=ZK x (show y≠0 by omega)
    omega
   ·have z:y=0:=by omega
    subst z
    rw[Nm.yp x0] at e
    rw[e]
    exact k
  ·intro σ H1 Q1 Q2 hq hc
   simp only[L2.start,Pr,tRev,tLR,tMaxD,tSortR,tD1,tDPop1,tSl,tNoPart,tPart,rSlL,tDIn,tDNotIn,gSub,rSetL,tLst,tDNewK,tComp,L2.stC,tFor_eq,iList,iTup,iRng1,iRng2,iZip,iEnum,iDict,iStr,tChain,tSumV,tBM,rJoin,tJoined,jNil,jLit,jInt,jStr,tRaise,tDGet,tDGet2,tDGet1,sDPut,Option.join_some,List.getElem?_nil,tSeq,tRet,tRetN,tIfS,tTest,tB,tOp,tUn,tVar,tC,tCB,tCons,tNil,tCall,tTupS,tAsg,gName,gNil,gCons,tPar,tNext,tDrop,tAnd,tOr,tNot,tAndV,tOrV,tNotV,tIf,rI,rI0,rU,rIxTH,rIxLH,rEqT,rNeT,rInT,rEq,rNe,scal,CPow,at0,at1,at2,Y3,List.map_nil,Y8,List.length_nil,Nat.reduceSub,Nat.reduceAdd,Zo,List.replicate_zero,List.reduceReplicate,Zx,List.nil_append,List.cons_append,ZV,Z2,ZQ,ZR,Option.some.injEq,exists_eq_left',exists_eq_left,V.ref.injEq,V.int.injEq,V.bl.injEq,V.str.injEq,V.ty.injEq,HO.tup.injEq,HO.lst.injEq,List.cons.injEq,and_true,true_and,and_assoc,exists_and_left,decide_eq_true_eq,Bool.not_eq_true',decide_eq_false_iff_not,ite_true,ite_false,if_true,if_false,Int.reduceToNat,eq_self_iff_true] at hc ⊢
   obtain⟨v,e1,e2,q⟩:=hc
   exact⟨v,e1,e2,hq _ _ q⟩
theorem eU:aI ["several","common","one"] ["several"] (ab (top 14)):=⟨rfl,rfl,rfl,by decide +kernel,rfl,by decide +kernel,by decide +kernel⟩
theorem Hh (T:Txt K mg aq tc):bN P w K mg base (bC P w) 2 "common_bottom" ["several"] EC:=by
 have da:bN P w K mg base (bC P w) 1 "common_divisor" ["one","other"] xt:=CN T
 refine T.kE.dZ (λ_ _ _ _ _ _=>iz λ_=>rfl) λf fd F=>F.d4 eU (λvs H Q E h=>?_) (λb9 A outer s H vs Q E hr h=>?_)
 ·obtain⟨_,_,_,rfl,_⟩:=h;rfl
 ·obtain⟨a,ws,Z,rfl,rf,lw,dv,Z0,bZ,kk⟩:=h
  have nd:=eU.nd
  refine⟨_,(ae (ay (i:=1) nd rfl (Or.inl rfl) aj)
  (ae (bL PassesOwn.never rfl (aP (K:=K) (pv 0)) (aw (i:=2) nd rfl (Or.inl rfl)) (ao (ay (i:=1) nd rfl (Or.inl rfl) (aG aY (aG di (pv 1) (aB da (hr.mono (by decide)) rfl au.pass (aa (pv 1) (aa (aA aJ (pv 2) aj (λ_ _=>rfl)) af (se rfl)) (se rfl)) (he:=se rfl) (hpl:=na rfl))) (aA aJ (pv 2) aj (λ_ _=>rfl))))))
  (ao (aH (pv 1))))),?_⟩
  obtain⟨_,xs,e,ha,rl⟩:=aS.mp rf
  cases e
  have lx:=rl.length
  rw[YL] at lx
  simp_all only[xt]
  refine⟨⟨_,aR.of ha⟩,bu (src_list (Ok:=λH'=>H'=H) (λH2 s2=>by rw[s2];exact aR.of ha)) (λi σ H'=>H'=H/\∃z,σ=[some (V.ref a),some (V.int (Wq.eC 1 (ws.take i))),z]) ⟨rfl,_,rfl⟩ (λ_ _ _ _ h=>h.1) ?_ ?_⟩
  ·rintro i v σ H1 H2 hi ⟨rfl,z,rfl⟩ ⟨rfl,ex⟩
   have qk:i<ws.length:=by omega
   have ew:ws[i]?=some ws[i]:=YM qk
   obtain⟨p,ep,hp⟩:=cI rl ew
   rw[ex] at ep
   cases ep
   have tk:ws.take (i+1)=ws.take i++ [ws[i]]:=by rw[Za,ew];rfl
   obtain⟨l1,l2,l3,l4⟩:=Wq.lH (xs:=ws.take i) (c:=1) (by decide) λx hx=>(dv x (List.mem_of_mem_take hx)).1
   have lz:=l4 (Z:=Z) ⟨Z,by omega⟩ λx hx=>(dv x (List.mem_of_mem_take hx)).2
   have dw:=dv _ (Zc qk)
   have b1:Bt 2000 (Wq.eC 1 (ws.take i)):=bZ.le (by have:=ZE Z0 lz;omega)
   have b2:Bt 2000 (ws[i]).2:=bZ.le (by have:=ZE Z0 dw.2;omega)
   have g0:0<Nm.g (Wq.eC 1 (ws.take i)) (ws[i]).2:=Nm.mw (by omega)
   have bg:Bt 2000 (Nm.g (Wq.eC 1 (ws.take i)) (ws[i]).2):=b2.le (by have:=Nm.DO (a:=Wq.eC 1 (ws.take i)) dw.1;omega)
   simp_all only[xt,hp]
   exact⟨eF.of g0 bg,Bt.cV (b1.le (Nm.dj g0 (Nm.iT _ _))) b2,by rw[tk,Wq.pA];rfl,_,rfl⟩
  ·rintro σ H1 ⟨rfl,z,rfl⟩
   simp_all only[]
   rw[Y6 (by omega)]
   exact kk
theorem tw:aI ["top","bottom","divisor"] ["top","bottom"] (ab (top 13)):=⟨rfl,rfl,rfl,by decide +kernel,rfl,by decide +kernel,by decide +kernel⟩
theorem Hi (T:Txt K mg aq tc):bN P w K mg base (bC P w) 2 "share" ["top","bottom"] EB:=by
 have da:bN P w K mg base (bC P w) 1 "common_divisor" ["one","other"] xt:=CN T
 refine T.BK.dZ (λ_ _ _ _ _ _=>dN λ_ _=>rfl) λf fd F=>F.d4 tw (λvs H Q E h=>?_) (λb9 A outer s H vs Q E hr h=>?_)
 ·obtain⟨_,_,rfl,_⟩:=h;rfl
 ·obtain⟨a,b,rfl,bt,b0,kq⟩:=h
  have nd:=tw.nd
  refine⟨_,(ae (bS (aQ df (pv 1) aj (aW _)) (ao lT)
   aZ)
  (ae (ay (i:=2) nd rfl (Or.inl rfl) (aB da (hr.mono (by decide)) rfl au.pass (aa (pv 0) (aa (pv 1) af (se rfl)) (se rfl)) (he:=se rfl) (hpl:=na rfl)))
  (ae (bS (aQ qQ (pv 1) aj (aW _)) (ao (ay (i:=2) nd rfl (Or.inl rfl) (xU tX (pv 2))))
   aZ)
  (ao (aH (bU (aa (aG di (pv 0) (pv 2)) (aa (aG di (pv 1) (pv 2)) af (se rfl)) (se rfl)))))))),?_⟩
  have g0:0<Nm.g a b:=Nm.mw (by omega)
  have gb:Bt 5000 (Nm.g a b):=bt.le (by have:=Nm.yq (a:=a) (show b≠0 by omega);omega)
  unfold Nm.st Nm.sb at kq
  rw[if_neg (show ¬b<0 by omega),if_neg (show ¬b<0 by omega)] at kq
  simp_all only[xt]
  rw[if_neg (by omega),if_neg (by omega)]
  exact⟨eF.of g0 gb,eF.of g0 gb,by decide,λp H2 s1 n1 e=>kq p H2 s1 n1 e⟩
theorem eV:aI ["board","part","product","place"] ["board","part"] (ab (top 29)):=⟨rfl,rfl,rfl,by decide +kernel,rfl,by decide +kernel,by decide +kernel⟩
theorem EU (T:Txt K mg aq tc):bN P w K mg base (bC P w) 1 "ways_of_picks" ["board","part"] zI:=by
 refine T.kH.dZ (λ_ _ _ _ _ _=>dN λ_ _=>rfl) λf fd F=>F.d4 eV (λvs H Q E h=>?_) (λb9 A outer s H vs Q E hr h=>?_)
 ·obtain⟨_,_,_,_,rfl,_⟩:=h;rfl
 ·obtain⟨a,x,b,p,rfl,rb,hx,hp,oW,kk⟩:=h
  have nd:=eV.nd
  refine⟨_,(ae (ay (i:=2) nd rfl (Or.inl rfl) aj)
  (ae (bL PassesOwn.never rfl (aP (K:=K) (pv 1)) (aw (i:=3) nd rfl (Or.inl rfl)) (ao (bS (aQ df (aA aJ (aA aE (pv 0) (pv 3) (λ_ _=>rfl)) aj (λ_ _=>rfl)) cN (aW _)) (ao (ay (i:=2) nd rfl (Or.inl rfl) (aG aY (pv 2) (aL bp (by rfl) T.z_len Y7 (aa (aA aJ (aA aE (pv 0) (pv 3) (λ_ _=>rfl)) aj (λ_ _=>rfl)) af (se rfl)) (he:=se rfl) (hpl:=na rfl)))))
   aZ)))
  (ao (aH (pv 2))))),?_⟩
  obtain⟨_,xs,e,ha,rl⟩:=aS.mp rb
  cases e
  have eb:b[p]?=some b[p]:=YM hp
  obtain⟨v,ev,rv⟩:=eK rl eb
  have fq:=oW _ (Zc hp)
  simp_all only[]
  refine⟨⟨_,aR.of hx⟩,bu (src_list (Ok:=λH'=>H'=H) (λH2 s2=>by rw[s2];exact aR.of hx)) (λi σ H'=>H'=H/\∃(k:Int) (z:Option V),0<=k/\k<=4096/\(i=0->k=1)/\σ=[some (V.ref a),some (V.ref x),some (V.int k),z]) ⟨rfl,1,_,by decide,by decide,λ_=>rfl,rfl⟩ (λ_ _ _ _ h=>h.1) ?_ ?_⟩
  ·rintro i y σ H1 H2 hi ⟨rfl,k,z,k0,k1,ki,rfl⟩ ⟨rfl,ex⟩
   have i0:i=0:=by have:i<1:=hi;omega
   subst i0
   cases ex
   rw[ki rfl]
   generalize b[p]=q at *
   cases q with
   | fin g=>
    obtain⟨t,r,rfl,ht,_⟩:=cF.mp rv
    simp_all only[ha,show fK xs (p:Int)=some (.ref t) from bx ev,ht]
    rw[if_neg (by decide +kernel)]
    exact⟨1,by decide,by decide,by simp,rfl,_,rfl⟩
   | gz g ws=>
    obtain⟨t,r,l,zs,rfl,ht,_⟩:=cG.mp rv
    simp_all only[ha,show fK xs (p:Int)=some (.ref t) from bx ev,ht]
    rw[if_neg (by decide +kernel)]
    exact⟨1,by decide,by decide,by simp,rfl,_,rfl⟩
   | ft rC to=>
    obtain⟨t,l,rfl,ht,hl⟩:=cH.mp rv
    simp_all only[ha,show fK xs (p:Int)=some (.ref t) from bx ev,ht,hl]
    have lt:(List.map V.int to).length<=3:=by rw[YL];exact fq
    exact⟨(Bt.of (n:=1) 1 (by decide) (by decide)).cV (Bt.of (n:=2) 3 (by omega) (by omega)),_,by omega,by omega,by simp,rfl,_,rfl⟩
  ·rintro σ H1 ⟨rfl,k,z,k0,k1,ki,rfl⟩
   simp_all only[]
   exact kk k k1
theorem eW:aI ["board","left","found","part"] ["board"] (ab (top 30)):=⟨rfl,rfl,rfl,by decide +kernel,rfl,by decide +kernel,by decide +kernel⟩
theorem zV (T:Txt K mg aq tc) (LB:mS base mg tc tp):bN P w K mg base (bC P w) 6 "checked_parts" ["board"] (sP tp):=by
 have EV:bN P w K mg base (bC P w) 5 "ring" ["board"] uK:=BX T
 have BZ:bN P w K mg base (bC P w) 3 "parts" ["board"] (zU tp):=ER T LB
 have kM:bN P w K mg base (bC P w) 1 "ways_of_picks" ["board","part"] zI:=EU T
 refine T.kI.dZ (λ_ _ _ _ _ _=>iz λ_=>rfl) λf fd F=>F.d4 eW (λvs H Q E h=>?_) (λb9 A outer s H vs Q E hr h=>?_)
 ·obtain⟨_,_,_,rfl,_⟩:=h;rfl
 ·obtain⟨a,b,rk,rfl,rb,B,j8,kk⟩:=h
  have nd:=eW.nd
  refine⟨_,(ae (ay (i:=1) nd rfl (Or.inl rfl) (aB EV (hr.mono (by decide)) rfl au.pass (aa (pv 0) af (se rfl)) (he:=se rfl) (hpl:=na rfl)))
  (ae (bS (aQ iP (aL bp (by rfl) T.z_len Y7 (aa (pv 1) af (se rfl)) (he:=se rfl) (hpl:=na rfl)) aj (aW _)) (ao lT)
   aZ)
  (ae (ay (i:=2) nd rfl (Or.inl rfl) (aB BZ (hr.mono (by decide)) rfl au.pass (aa (pv 0) af (se rfl)) (he:=se rfl) (hpl:=na rfl)))
  (ae (bL PassesOwn.never rfl (aP (K:=K) (pv 2)) (aw (i:=3) nd rfl (Or.inl rfl)) (ao (bS (PW.pt (pw_or (aQ iP (aL bp (by rfl) T.z_len Y7 (aa (pv 3) af (se rfl)) (he:=se rfl) (hpl:=na rfl)) (rK rfl T.c_MOST_PLACES) (aW _)) (pw_or1 (aQ iP (aB kM (hr.mono (by decide)) rfl au.pass (aa (pv 0) (aa (pv 3) af (se rfl)) (se rfl)) (he:=se rfl) (hpl:=na rfl)) (rK rfl T.c_MOST_PICKS) (aW _))))) (ao lT)
   aZ)))
  (ao (aH (pv 2))))))),?_⟩
  have bl:=B.len
  simp_all only[uK,zU]
  refine⟨b,rb,B.bd,λl H1 s1 n1 hl=>⟨_,hl,?_⟩⟩
  rw[B.dn.ring]
  rw[if_neg (by simp)]
  refine⟨b,rb.mono s1,by omega,B.oW,B.dn.good,s1 _ _ j8,λl2 ps as H2 td s2 n2 Av al=>?_⟩
  have R9:Al (λp v=>∃x,v=.ref x/\H2 x=some (.lst [.int p])) ps (as.map V.ref):=by
   refine Al.of al.length λi v p ev ep=>?_
   obtain⟨p',ju,x,rfl,hx,_⟩:=al.get ev
   rw[ep] at ju
   cases ju
   rw[B.dn.d7 (td.KL (YN ep))] at hx
   exact⟨x,rfl,hx⟩
  have xu:=s1.trans s2
  refine⟨⟨_,aR.of Av⟩,bu (src_list (Ok:=λH'=>H'=H2) (λH3 s3=>by rw[s3];exact aR.of Av)) (λi σ H'=>H'=H2/\∃z,σ=[some (V.ref a),some (V.ref l),some (V.ref l2),z]) ⟨rfl,_,rfl⟩ (λ_ _ _ _ h=>h.1) ?_ ?_⟩
  ·rintro i y σ H3 H4 hi ⟨rfl,z,rfl⟩ ⟨rfl,ex⟩
   obtain⟨p,ep,x,rfl,hx⟩:=R9.get ex
   have ip:=td.KL (YN ep)
   obtain⟨p,rfl⟩:=ZA ip.1
   simp_all only[zI,hx]
   rw[if_neg (by decide)]
   refine⟨b,rb.mono xu,p,rfl,by have:=ip.2;omega,λq hq=>(B.ok q hq).oW,λk hk=>?_⟩
   rw[if_neg (by omega)]
   exact⟨_,rfl⟩
  ·rintro σ H3 ⟨rfl,z,rfl⟩
   simp_all only[]
   exact kk l2 ps as _ td xu (none_of s1 n2) Av R9
theorem eX:aI ["place","way"] ["place","way"] (ab (top 31)):=⟨rfl,rfl,rfl,by decide +kernel,rfl,by decide +kernel,by decide +kernel⟩
theorem EW (T:Txt K mg aq tc):bN P w K mg base (bC P w) 1 "weighted_ways" ["place","way"] vW:=by
 refine T.kJ.dZ (λ_ _ _ _ _ _=>dN λ_ _=>rfl) λf fd F=>F.d4 eX (λvs H Q E h=>?_) (λb9 A outer s H vs Q E hr h=>?_)
 ·obtain⟨_,_,_,rfl,_⟩:=h;rfl
 ·obtain⟨v,q,k,rfl,rv,pk,kk⟩:=h
  have nd:=eX.nd
  refine⟨_,(ae (bS (aQ df (aA aJ (pv 0) aj (λ_ _=>rfl)) cN (aW _)) (ao (aH (aA aJ (pv 0) aj (λ_ _=>rfl))))
   aZ)
  (ae (bS (aQ df (aA aJ (pv 0) aj (λ_ _=>rfl)) cN (aW _)) (ao (aH (cU (aa (bU (aa aj (aa (aA aE (aA aJ (pv 0) aj (λ_ _=>rfl)) (pv 1) (λ_ _=>rfl)) af (se rfl)) (se rfl))) af (se rfl)))))
   aZ)
  (ao (aH (cU af))))),?_⟩
  cases q with
  | fin g=>
   obtain⟨t,r,rfl,ht,_⟩:=cF.mp rv
   simp_all only[ht]
   rw[if_neg (by decide +kernel),if_neg (by decide +kernel)]
   exact⟨Y0 _,λl nl=>kk l _ (ah nl) (aS.mpr ⟨l,[],rfl,ag,rfl⟩)⟩
  | gz g ws=>
   obtain⟨t,r,l,zs,rfl,ht,_,hl,rz⟩:=cG.mp rv
   simp_all only[ht]
   exact kk l _ (ar.refl _) (aS.mpr ⟨l,zs,rfl,hl,rz⟩)
  | ft rC to=>
   obtain⟨t,l,rfl,ht,hl⟩:=cH.mp rv
   cases k with
   | none=>exact pk.elim
   | some k=>
    obtain⟨k0,k1⟩:=pk
    have at1:fK (to.map V.int) k=some (.int (to.getD k.toNat 0)):=dS k0 k1
    simp_all only[du,ht,hl,at1]
    rw[if_neg (by decide +kernel)]
    exact⟨by decide,λp H2 s2 np hp=>⟨by decide,λl2 nl=>kk l2 _ (s2.trans (ah nl)) (aS.mpr ⟨l2,[.ref p],rfl,ag,⟨_,_,rfl,bW.mpr ⟨p,rfl,ah nl _ _ hp⟩,rfl⟩⟩)⟩⟩
theorem dz:aI ["board","picks"] ["board","picks"] (ab (top 32)):=⟨rfl,rfl,rfl,by decide +kernel,rfl,by decide +kernel,by decide +kernel⟩
theorem CO (T:Txt K mg aq tc):bN P w K mg base (bC P w) 2 "all_weighted_ways" ["board","picks"] zJ:=by
 have kN:bN P w K mg base (bC P w) 1 "weighted_ways" ["place","way"] vW:=EW T
 refine T.g7.dZ (λ_ _ _ _ _ _=>dN λ_ _=>rfl) λf fd F=>F.d4 dz (λvs H Q E h=>?_) (λb9 A outer s H vs Q E hr h=>?_)
 ·obtain⟨_,_,_,_,rfl,_⟩:=h;rfl
 ·obtain⟨a,c,b,ks,rfl,rb,lb,hc,lk,pk,kk⟩:=h
  have nd:=dz.nd
  refine⟨_,(ao (aH (bD rfl (N:=["board","picks"]) (so:=ab (top 32)) (N':=["place","way"]) (k:=2) (fr:=[]) rfl rfl ⟨rfl,by decide +kernel,by decide +kernel,by decide +kernel,rfl,by decide +kernel,by decide +kernel⟩ (iW (K:=K) rfl T.z_zip (aa (pv 0) (aa (pv 1) af (se rfl)) (se rfl))) (λ_ _ _ _ _=>(bK (K:=K) (n:=2) rfl (aK (aw (i:=0) (show(["place","way"]:List Str).Nodup by decide +kernel) rfl (Or.inl rfl)) (aK (aw (i:=1) (show(["place","way"]:List Str).Nodup by decide +kernel) rfl (Or.inl rfl)) bJ)))) (λ_ _ _ _ _=>bf)
   (λ_ _ _ _ _=>(aB kN (hr.mono (by decide)) rfl au.pass (aa (pv 0) (aa (pv 1) af (se rfl)) (se rfl)) (he:=se rfl) (hpl:=na rfl)))))),?_⟩
  have sl:=sizeLine_eq
  obtain⟨_,xs,e,ha,rl⟩:=aS.mp rb
  cases e
  have lx:=rl.length
  rw[YL] at lx
  simp_all only[vW]
  refine⟨⟨_,aR.of ha⟩,⟨_,aR.of hc⟩,?_⟩
  refine jH (K:=K) (lE (λH' s'=>aR.of (s' _ _ ha)) (λH' s'=>aR.of (s' _ _ hc))) (λi u v H'=>∃q k,b[i]?=some q/\ks[i]?=some k/\Rep H (qg q) u/\v=du k) ?_ (by rw[YL];omega) (λi y H'=>∃l,y=.ref l/\∀q k,b[i]?=some q->ks[i]?=some k->Rep H' (zH (gX q k)) (.ref l)) (λ_ _ _ _ s ⟨l,e,h⟩=>⟨l,e,λq k e1 e2=>(h q k e1 e2).mono s⟩) ?_ ?_
  ·rintro i v H2 H3 hi s2 ⟨t,x,y,nt,rfl,ex,ey,rfl⟩
   rw[YQ] at ey
   obtain⟨k,ek,rfl⟩:=Option.map_eq_some_iff.mp ey
   obtain⟨q,eq,rq⟩:=fu rl ex
   exact⟨ah nt,t,_,_,rfl,dH.of ag,q,k,eq,ek,rq,rfl⟩
  ·rintro i u v H2 Q2 hi s2 ⟨q,k,eq,ek,rq,rfl⟩ kq
   simp_all only[vW]
   refine⟨q,k,rfl,rq.mono s2,pk i q k eq ek,λl H3 s3 r3=>kq _ _ s3 ⟨l,rfl,λq' k' e1 e2=>?_⟩⟩
   rw[eq] at e1
   rw[ek] at e2
   cases e1
   cases e2
   exact r3
  ·intro ys H2 s2 ly hy D n1 n2
   rw[YL] at ly
   have lz:(oC b ks).length=b.length:=by unfold oC;rw[List.length_zipWith];omega
   refine kk D ys _ (s2.trans (ah n2)) (none_of s2 n2) ag (dk (by rw[lz];omega) λi y ey ws ew=>?_)
   have hi:i<b.length:=by have:=(List.getElem?_eq_some_iff.mp ew).1;omega
   obtain⟨l,rfl,hl⟩:=hy i y ey
   have e1:b[i]?=some b[i]:=YM hi
   have e2:ks[i]?=some ks[i]:=YM (by omega)
   have e3:ws=gX b[i] ks[i]:=by
    unfold oC at ew
    rw[List.getElem?_zipWith,e1,e2] at ew
    exact(Zg ew).symm
   rw[e3]
   exact(hl _ _ e1 e2).mono (λa o h=>by
    have:a≠D:=λz=>by rw[z,n2] at h;cases h
    rw[cJ this,ax this]
    exact h)
theorem fS:aI ["ways"] ["ways"] (ab (top 33)):=⟨rfl,rfl,rfl,by decide +kernel,rfl,by decide +kernel,by decide +kernel⟩
theorem zW (T:Txt K mg aq tc):bN P w K mg base (bC P w) 1 "total_weight" ["ways"] uN:=by
 refine T.mZ.dZ (λ_ _ _ _ _ _=>iz λ_=>rfl) λf fd F=>F.d4 fS (λvs H Q E h=>?_) (λb9 A outer s H vs Q E hr h=>?_)
 ·obtain⟨_,_,rfl,_⟩:=h;rfl
 ·obtain⟨a,ws,rfl,rf,l3,kk⟩:=h
  have nd:=fS.nd
  refine⟨_,(ao (aH (iN (aQ iP (aL bp (by rfl) T.z_len Y7 (aa (pv 0) af (se rfl)) (he:=se rfl) (hpl:=na rfl)) aj (aW _)) (aL (gx (K:=K)) (by rfl) T.z_sum rfl (aa (bD rfl (N:=["ways"]) (so:=ab (top 33)) (N':=["weight","to"]) (k:=2) (fr:=[]) rfl rfl ⟨rfl,by decide +kernel,by decide +kernel,by decide +kernel,rfl,by decide +kernel,by decide +kernel⟩ (aP (K:=K) (pv 0)) (λ_ _ _ _ _=>(bK (K:=K) (n:=2) rfl (aK (aw (i:=0) (show(["weight","to"]:List Str).Nodup by decide +kernel) rfl (Or.inl rfl)) (aK (aw (i:=1) (show(["weight","to"]:List Str).Nodup by decide +kernel) rfl (Or.inl rfl)) bJ)))) (λ_ _ _ _ _=>bf)
   (λ_ _ _ _ _=>(pv 0))) af (se rfl)) (he:=se rfl) (hpl:=na rfl)) aj))),?_⟩
  obtain⟨_,xs,e,ha,rl⟩:=aS.mp rf
  cases e
  have lx:=rl.length
  rw[YL] at lx
  simp_all only[]
  refine⟨xs,ha,?_⟩
  by_cases c:ws=[]
  ·subst c
   have l0:xs.length=0:=lx.symm
   rw[if_neg (by omega)]
   exact kk _ (ar.refl _)
  ·have l0:=List.length_pos_iff.mpr c
   rw[if_pos (by omega)]
   refine⟨⟨_,aR.of ha⟩,?_⟩
   have S:Src (tT K a) (ar H) ws.length (λi x H H3=>H3=H/\xs[i]?=some x):=by rw[lx];exact src_list (λH' s'=>aR.of (s' _ _ ha))
   refine fo ws (λp=>some p.1) S (λ_ _ _ _ h=>h.1) (by rw[sizeLine_eq];omega) ?_ ?_
   ·rintro i p x ep ⟨_,ex⟩
    obtain⟨t,et,ht⟩:=cI rl ep
    rw[ex] at et
    cases et
    refine⟨t,_,_,rfl,dH.of ht,λY N y1 _=>?_⟩
    simp_all only[fk]
    exact y1 _ rfl
   ·intro D n1 n2
    rw[dM]
    have:=kk _ (ah (o:=.lst (List.map V.int (ws.map λp=>p.1))) n2)
    unfold Dg.tt at this
    rw[if_neg c] at this
    exact⟨_,aR.of ag,this⟩
theorem jg:aI ["part","ways","spots","spot","place","rows","row","weight","to"] ["part","ways"] (ab (top 34)):=⟨rfl,rfl,rfl,by decide +kernel,rfl,by decide +kernel,by decide +kernel⟩
theorem zX (T:Txt K mg aq tc):bN P w K mg base (bC P w) 2 "part_rows" ["part","ways"] sQ:=by
 have cC:bN P w K mg base (bC P w) 1 "total_weight" ["ways"] uN:=zW T
 refine T.su.dZ (λ_ _ _ _ _ _=>dN λ_ _=>rfl) λf fd F=>F.d4 jg (λvs H Q E h=>?_) (λb9 A outer s H vs Q E hr h=>?_)
 ·obtain⟨_,_,_,_,_,_,rfl,_⟩:=h;rfl
 ·obtain⟨x,wl,p,xs,zK,ws,rfl,hx,hw,rl,ew,l3,off,kk⟩:=h
  have nd:=jg.nd
  refine⟨_,(ae (ay (i:=2) nd rfl (Or.inl rfl) yg)
  (ae (bL PassesOwn.never rfl (cm (K:=K) rfl T.z_enumerate (aa (pv 0) af (se rfl))) (bK (K:=K) (n:=2) rfl (aK (aw (i:=3) nd rfl (Or.inl rfl)) (aK (aw (i:=4) nd rfl (Or.inl rfl)) bJ))) (ao (vc (oY hr) (pv 2) (pv 4) (pv 3) rfl)))
  (ae (ay (i:=5) nd rfl (Or.inl rfl) (cU af))
  (ae (bL PassesOwn.never rfl (cm (K:=K) rfl T.z_enumerate (aa (pv 0) af (se rfl))) (bK (K:=K) (n:=2) rfl (aK (aw (i:=3) nd rfl (Or.inl rfl)) (aK (aw (i:=4) nd rfl (Or.inl rfl)) bJ))) (ae (ay (i:=6) nd rfl (Or.inl rfl) (aG uj (cU (aa aj af (se rfl))) (aL bp (by rfl) T.z_len Y7 (aa (pv 0) af (se rfl)) (he:=se rfl) (hpl:=na rfl))))
  (ae (dB (aB cC (hr.mono (by decide)) rfl au.pass (aa (aA aE (pv 1) (pv 4) (λ_ _=>rfl)) af (se rfl)) (he:=se rfl) (hpl:=na rfl)) (dA (pv 6) (pv 3) set_list))
  (ae (bL PassesOwn.never rfl (aP (K:=K) (aA aE (pv 1) (pv 4) (λ_ _=>rfl))) (bK (K:=K) (n:=2) rfl (aK (aw (i:=7) nd rfl (Or.inl rfl)) (aK (aw (i:=8) nd rfl (Or.inl rfl)) bJ))) (ao (bS (tR (yf (oY hr) (pv 8) (pv 2))) (ao (uZ (pv 6) (A7 (oY hr) (pv 2) (pv 8) (λ_ _=>rfl)) r8 (pv 7) Dm set_list))
   aZ)))
  (ao (gL (oS Z4 Z5 Z6 dP.r (pv 5) (aa (pv 6) af (se rfl)))))))))
  (ao (aH (pv 5))))))),?_⟩
  obtain⟨v,ev,rv⟩:=rl.at (d:=zH ws) (i:=p) (by rw[YQ,ew];rfl)
  obtain⟨wv,us,rfl,EX,ru⟩:=aS.mp rv
  have CP:=bx ev
  change tSeq _ _ _ _ _
  refine aT (λσ' H1=>∃d,ar H H1/\H d=none/\H1 d=some (.dK [])/\σ'=[some (.ref x),some (.ref wl),some (.ref d),none,none,none,none,none,none]) ?_ (λN hN=>?_)
  case refine_2=>
   simp_all only[]
   exact λd n1=>hN _ _ ⟨d,ah n1,n1,ag,rfl⟩
  rintro _ H1 ⟨d,s1,n1,hd,rfl⟩
  change tSeq _ _ _ _ _
  refine aT (λσ' H2=>ar H H2/\H2 d=some (.dK [(Sum.inl (p:Int),.int 0)])/\∃z3 z4,σ'=[some (.ref x),some (.ref wl),some (.ref d),z3,z4,none,none,none,none]) ?_ (λN hN=>?_)
  case refine_2=>
   simp_all only[]
   refine⟨⟨_,aR.of (s1 _ _ hx)⟩,bu (eG (Ok:=ar H) (λH' s=>aR.of (s _ _ hx))) (λi σ H3=>ar H H3/\H3 d=some (.dK (if i=0 then [] else [(Sum.inl (p:Int),.int 0)]))/\∃z3 z4,σ=[some (.ref x),some (.ref wl),some (.ref d),z3,z4,none,none,none,none]) ⟨s1,hd,_,_,rfl⟩ (λ_ _ _ _ h=>h.1) ?_ ?_⟩
   ·rintro i y σ H3 H4 hi ⟨s3,K0,z3,z4,rfl⟩ ⟨q,y,nq,rfl,ey,rfl⟩
    have i0:i=0:=by have:i<1:=hi;omega
    subst i0
    cases ey
    refine⟨q,_,rfl,dH.of ag,rfl,?_⟩
    have s4:=ah (o:=.tup [.int ((0:Nat):Int),.int (p:Int)]) nq
    generalize upd H3 q (.tup [.int ((0:Nat):Int),.int (p:Int)])=H4 at *
    simp_all only[]
    exact⟨_,uk.k (k:=Sum.inl (p:Int)) (v:=.int 0) (s4 _ _ K0) (by show 0<sizeLine;decide),aO (s3.trans s4) n1,ag,_,rfl⟩
   ·rintro σ H3 ⟨s3,K0,z3,z4,rfl⟩
    exact hN _ _ ⟨s3,K0,_,_,rfl⟩
  rintro _ H2 ⟨s2,hd2,z3,z4,rfl⟩
  change tSeq _ _ _ _ _
  refine aT (λσ' H3=>∃r,ar H2 H3/\H2 r=none/\H3 r=some (.lst [])/\σ'=[some (.ref x),some (.ref wl),some (.ref d),z3,z4,some (.ref r),none,none,none]) ?_ (λN hN=>?_)
  case refine_2=>
   simp_all only[]
   exact⟨Y0 _,λr n3=>hN _ _ ⟨r,ah n3,n3,ag,rfl⟩⟩
  rintro _ H3 ⟨r,s3,nr,UY,rfl⟩
  have Yx:H r=none:=none_of s2 nr
  change tSeq _ _ _ _ _
  refine aT (λσ' H4=>ar H H4/\(∃t,H4 r=some (.lst [.ref t])/\H4 t=some (.lst [.int (Dg.tt ws)]))/\∃z3 z4 z6 z7 z8,σ'=[some (.ref x),some (.ref wl),some (.ref d),z3,z4,some (.ref r),z6,z7,z8]) ?_ (λN hN=>?_)
  case refine_2=>
   simp_all only[]
   refine⟨⟨_,aR.of (s3 _ _ (s2 _ _ hx))⟩,bu (eG (Ok:=ar H2) (λH' s=>aR.of (s _ _ (s2 _ _ hx)))) (λi σ H4=>ar H2 H4/\((i=0/\H4 r=some (.lst []))\/(i=1/\∃t,H4 r=some (.lst [.ref t])/\H4 t=some (.lst [.int (Dg.tt ws)])))/\∃z3 z4 z6 z7 z8,σ=[some (.ref x),some (.ref wl),some (.ref d),z3,z4,some (.ref r),z6,z7,z8]) ⟨s3,.inl ⟨rfl,UY⟩,_,_,_,_,_,rfl⟩ (λ_ _ _ _ h=>h.1) ?_ ?_⟩
   ·rintro i y σ H4 H5 hi ⟨s4,iv,z3,z4,z6,z7,z8,rfl⟩ ⟨q,y,nq,rfl,ey,rfl⟩
    have i0:i=0:=by have:i<1:=hi;omega
    subst i0
    cases ey
    refine⟨q,_,rfl,dH.of ag,rfl,?_⟩
    have s5:=ah (o:=.tup [.int ((0:Nat):Int),.int (p:Int)]) nq
    generalize upd H4 q (.tup [.int ((0:Nat):Int),.int (p:Int)])=H5 at *
    rcases iv with ⟨_,Sa⟩ | ⟨h,_⟩
    ·simp_all only[A2,uN]
     have K1:=s4.trans s5
     refine⟨by decide,λm1 k1=>?_⟩
     have s6:=ah (o:=.lst [.int 0]) k1
     have h6:upd H5 m1 (.lst [.int 0]) m1=some (.lst [.int 0]):=ag
     generalize upd H5 m1 (.lst [.int 0])=H6 at *
     refine⟨_,s6 _ _ (K1 _ _ (s2 _ _ hx)),_,h6,by show(-2^63:Int)<=1;decide,by show(1:Int)<2^63;decide,by show 1<=sizeLine;decide,λro k2=>?_⟩
     rw[show(List.replicate (([V.int (p:Int)].length:Nat):Int).toNat [V.int 0]).flatten=[V.int 0] from rfl]
     have s7:=ah (o:=.lst [.int 0]) k2
     have h7:upd H6 ro (.lst [.int 0]) ro=some (.lst [.int 0]):=ag
     generalize upd H6 ro (.lst [.int 0])=H7 at *
     have K2:=K1.trans (s6.trans s7)
     have UZ:H2 ro=none:=none_of (K1.trans s6) k2
     have U0:=K2 _ _ (s2 _ _ hw)
     refine⟨_,U0,_,CP,wv,rfl,ws,rv.mono (s2.trans K2),l3,λH8 s8=>⟨_,s8 _ _ h7,0,rfl,?_⟩⟩
     rw[show[V.int 0].set 0 (V.int (Dg.tt ws))=[V.int (Dg.tt ws)] from rfl]
     have s9:ar H2 (upd H8 ro (.lst [.int (Dg.tt ws)])):=aO (K2.trans s8) UZ
     have h9:upd H8 ro (.lst [.int (Dg.tt ws)]) ro=some (.lst [.int (Dg.tt ws)]):=ag
     have Sd:r≠ro:=λz=>by rw[<-z,(s5.trans s6) _ _ Sa] at k2;cases k2
     have Se:upd H8 ro (.lst [.int (Dg.tt ws)]) r=some (.lst []):=by rw[ax Sd];exact(s5.trans (s6.trans (s7.trans s8))) _ _ Sa
     generalize upd H8 ro (.lst [.int (Dg.tt ws)])=H9 at *
     have U1:=ru.mono (s2.trans s9)
     refine⟨_,s9 _ _ (s2 _ _ hw),_,CP,wv,rfl,⟨_,aR.of (s9 _ _ (s2 _ _ EX))⟩,bu (src_list (Ok:=λH'=>H'=H9) (λH2 K3=>by rw[K3];exact aR.of (s9 _ _ (s2 _ _ EX)))) (λi σ H'=>H'=H9/\∃z7 z8,σ=[some (.ref x),some (.ref wl),some (.ref d),some (.int 0),some (.int (p:Int)),some (.ref r),some (.ref ro),z7,z8]) ⟨rfl,_,_,rfl⟩ (λ_ _ _ _ h=>h.1) ?_ ?_⟩
     ·rintro j y σ HA HB hj ⟨rfl,z7,z8,rfl⟩ ⟨rfl,ey⟩
      have lu:=ru.length
      rw[YL] at lu
      have ej:ws[j]?=some ws[j]:=YM (by omega)
      obtain⟨t,et,ht⟩:=cI U1 ej
      rw[ey] at et
      cases et
      refine⟨t,_,rfl,dH.of ht,rfl,?_⟩
      simp_all only[]
      refine⟨none,.inl ⟨_,Sum.inl (ws[j]).2,.inl (s9 _ _ hd2),rfl,?_⟩,?_⟩
      ·symm
       refine lI ?_
       have:=off _ (Zc (show j<ws.length by omega))
       simp only[Y3,List.map_nil,List.mem_singleton]
       intro z
       exact this (by injection z)
      ·rw[if_neg (by simp)]
       exact⟨_,rfl⟩
     ·rintro σ HA ⟨rfl,z7,z8,rfl⟩
      simp_all only[lB]
      refine⟨.inl ⟨rfl,_,aR.of Se⟩,_,Se,by show 0<sizeLine;decide,aO s9 nr,?_⟩
      exact⟨.inr ⟨ro,ag,by rw[ax (Ne.symm Sd)];exact h9⟩,_,rfl⟩
    ·cases h
   ·rintro σ H4 ⟨s4,iv,z3,z4,z6,z7,z8,rfl⟩
    rcases iv with ⟨h,_⟩ | ⟨_,ht⟩
    ·cases h
    ·exact hN _ _ ⟨s2.trans s4,ht,_,_,_,_,_,rfl⟩
  rintro _ H4 ⟨s4,⟨t,h1,h2⟩,z3,z4,z6,z7,z8,rfl⟩
  simp_all only[]
  exact kk _ _ _ s4 h1 h2
theorem nM:aI ["place"] ["place"] (ab (top 36)):=⟨rfl,rfl,rfl,by decide +kernel,rfl,by decide +kernel,by decide +kernel⟩
theorem Hj (T:Txt K mg aq tc):bN P w K mg base (bC P w) 1 "gain_of" ["place"] EE:=by
 refine T.xo.dZ (λ_ _ _ _ _ _=>iz λ_=>rfl) λf fd F=>F.d4 nM (λvs H Q E h=>?_) (λb9 A outer s H vs Q E hr h=>?_)
 ·obtain⟨_,_,rfl,_⟩:=h;rfl
 ·obtain⟨a,q,rfl,rq,kk⟩:=h
  have nd:=nM.nd
  refine⟨_,(ao (aH (iN (aQ df (aA aJ (pv 0) aj (λ_ _=>rfl)) cN (aW _)) (bU (aa aj (aa aj af (se rfl)) (se rfl))) (aA aJ (pv 0) aj (λ_ _=>rfl))))),?_⟩
  cases q with
  | fin g=>
   obtain⟨t',r,e,B6,sZ⟩:=cF.mp rq
   cases e
   simp_all only[B6]
   rw[if_neg (by decide +kernel)]
   exact kk _ _ (ar.refl _) sZ
  | gz g ws=>
   obtain⟨t',r,l,zs,e,B6,sZ,BB,rz⟩:=cG.mp rq
   cases e
   simp_all only[B6]
   rw[if_neg (by decide +kernel)]
   exact kk _ _ (ar.refl _) sZ
  | ft w to=>
   obtain⟨t',l,e,B6,BB⟩:=cH.mp rq
   cases e
   simp_all only[B6]
   exact⟨by decide,λp H2 s2 _ e2=>kk _ _ s2 e2⟩
theorem eY:aI ["self","tops","bottom"] ["self","tops","bottom"] (ab (inClass (top 35) 0)):=⟨rfl,rfl,rfl,by decide +kernel,rfl,by decide +kernel,by decide +kernel⟩
theorem wa (T:Txt K mg aq tc):mP P w K mg base (bC P w) 1 "Book" aq ["self","tops","bottom"] (zL aq):=by
 refine T.BN.dZ (λ_ _ _ _ _ _=>sG λ_ _ _=>rfl) λf fd F=>F.d4 eY (λvs H Q E h=>?_) (λb9 A outer s H vs Q E hr h=>?_)
 ·obtain⟨_,_,_,_,_,rfl,_⟩:=h;rfl
 ·obtain⟨x,dx,l,ts,b,rfl,hx,hl,kk⟩:=h
  have nd:=eY.nd
  refine⟨_,(ae (xZ (pv 0) (cP (bX (K:=K)) (by rfl) T.z_list rfl (aa (pv 1) af (se rfl)) (he:=se rfl) (hpl:=na rfl)) rfl)
  (ao (xZ (pv 0) (pv 2) rfl))),?_⟩
  simp_all only[F0]
  refine⟨_,.inl (aR.of hl),λm nm=>?_⟩
  have mx:m≠x:=λz=>by rw[z,hx] at nm;cases nm
  have U2:upd H m (.lst (ts.map V.int)) x=some (.ins aq dx []):=by rw[ax (Ne.symm mx)];exact hx
  refine⟨_,_,_,U2,T.bF,T.na_Book_tops,by decide,_,_,_,ag,T.bF,T.na_Book_bottom,by show(1:Nat)<1000;decide,?_⟩
  refine kk m _ nm ?_ ?_ ?_
  ·rw[ax mx,ax mx,ag]
  ·rw[ag]
   show some (HO.ins aq dx (if Str.ofString "tops"=Str.ofString "bottom" then _ else _))=_
   rw[if_neg (by decide +kernel)]
   rfl
  ·intro y o ny hy
   have ym:y≠m:=λz=>by rw[z,nm] at hy;cases hy
   rw[ax ny,ax ny,ax ym]
   exact hy
theorem nN:aI ["several","bottom"] ["several"] (ab (top 37)):=⟨rfl,rfl,rfl,by decide +kernel,rfl,by decide +kernel,by decide +kernel⟩
theorem Hk (T:Txt K mg aq tc):bN P w K mg base (bC P w) 3 "book_of" ["several"] (EF aq):=by
 have kO:bN P w K mg base (bC P w) 2 "common_bottom" ["several"] EC:=Hh T
 have iC:mP P w K mg base (bC P w) 1 "Book" aq ["self","tops","bottom"] (zL aq):=wa T
 refine T.xp.dZ (λ_ _ _ _ _ _=>iz λ_=>rfl) λf fd F=>F.d4 nN (λvs H Q E h=>?_) (λb9 A outer s H vs Q E hr h=>?_)
 ·obtain⟨_,_,_,rfl,_⟩:=h;rfl
 ·obtain⟨a,ws,Z,rfl,rf,lw,dv,Z0,bZ,kk⟩:=h
  have nd:=nN.nd
  refine⟨_,(ae (ay (i:=1) nd rfl (Or.inr rfl) (aB kO (hr.mono (by decide)) rfl au.pass (aa (pv 0) af (se rfl)) (he:=se rfl) (hpl:=na rfl)))
  (ao (aH (vD iC (hr.mono (by decide)) rfl au.pass (aa (bD rfl (N:=["several","bottom"]) (so:=ab (top 37)) (N':=["one","bottom"]) (k:=1) (fr:=[1]) rfl rfl ⟨rfl,by decide +kernel,by decide +kernel,by decide +kernel,rfl,by decide +kernel,by decide +kernel⟩ (aP (K:=K) (pv 0)) (λ_ _ _ _ _=>(aw (i:=0) (show(["one","bottom"]:List Str).Nodup by decide +kernel) rfl (Or.inl rfl))) (λ_ _ _ _ _=>bf)
   (λ_ _ _ _ _=>(aG aY (aA aJ (pv 0) aj (λ_ _=>rfl)) (aG di (pv 1) (aA aJ (pv 0) aj (λ_ _=>rfl)))))) (aa (pv 1) af (se rfl)) (se rfl)) (he:=se rfl) (hpl:=na rfl))))),?_⟩
  simp_all only[EC,oN]
  refine⟨ws,rf,lw,Z,λx hx=>⟨(dv x hx).1,(dv x hx).2.1⟩,Z0,bZ,?_⟩
  obtain⟨_,xs,e,ha,rl⟩:=aS.mp rf
  cases e
  have lx:=rl.length
  rw[YL] at lx
  refine⟨⟨_,aR.of ha⟩,?_⟩
  obtain⟨l1,l2,l3,l4⟩:=Wq.lH (xs:=ws) (c:=1) (by decide) λx hx=>(dv x hx).1
  have lz:=l4 (Z:=Z) ⟨Z,by omega⟩ λx hx=>(dv x hx).2.1
  have b1:Bt 2000 (Wq.eC 1 ws):=bZ.le (by have:=ZE Z0 lz;omega)
  have S:Src (tT K a) (ar H) ws.length (λi x H H3=>H3=H/\xs[i]?=some x):=by rw[lx];exact src_list (λH' s'=>aR.of (s' _ _ ha))
  refine cZ ws (λx=>some (Wq.sc (Wq.eC 1 ws) x)) S (λ_ _ _ _ h=>h.1) (by rw[sizeLine_eq];omega) ?_ ?_
  ·rintro i x v ep ⟨_,ex⟩ Y N y1 _
   obtain⟨t,et,ht⟩:=cI rl ep
   rw[ex] at et
   cases et
   have dx:=dv x (YN ep)
   have b2:Bt 2000 x.2:=bZ.le (by have:=ZE Z0 dx.2.1;omega)
   simp_all only[fk,ht]
   exact⟨eF.of dx.1 b2,Bt.cV dx.2.2 (b1.le (Nm.dj dx.1 (l3 x (YN ep)))),y1 _ rfl⟩
  ·intro D n1 n2 x dx nx K4 ne
   rw[dM] at nx K4 ⊢
   have s1:=ah (H:=H) (o:=.lst (List.map V.int (ws.map (Wq.sc (Wq.eC 1 ws))))) n2
   have hD:upd H D (.lst (List.map V.int (ws.map (Wq.sc (Wq.eC 1 ws))))) D=some _:=ag
   have s2:=s1.trans (ah (o:=.own x) K4)
   have EY:=ah (o:=.own x) K4 _ _ hD
   generalize upd H D (.lst (List.map V.int (ws.map (Wq.sc (Wq.eC 1 ws)))))=H1 at *
   have xD:D≠x:=λz=>by rw[z,nx] at hD;cases hD
   refine⟨x,dx,D,_,_,rfl,ag,by rw[ax xD];exact EY,λm H' nm hm jA ky=>⟨rfl,kk x H' (λy o hy=>?_) ⟨dx,m,jA,hm⟩⟩⟩
   have yx:y≠x:=λz=>by have:=s1 _ _ hy;rw[z,nx] at this;cases this
   exact ky y o yx (by rw[ax yx];exact s2 _ _ hy)
theorem CQ {a b:V}:List.lookup (Str.ofString "scaled") [(("tops":Str),a),(("bottom":Str),b)]=none:=rfl
theorem de {n i:Nat} (h:i<n):wK n (i:Int)=some i:=by
 unfold wK
 rw[if_pos (by omega),if_pos (by omega)]
 rfl
theorem hG {a b:V}:List.lookup (Str.ofString "tops") [(("tops":Str),a),(("bottom":Str),b)]=some a:=rfl
theorem tz {a b:V}:List.lookup (Str.ofString "bottom") [(("tops":Str),a),(("bottom":Str),b)]=some b:=rfl
theorem gE:aI ["self","factor"] ["self","factor"] (ab (inClass (top 35) 1)):=⟨rfl,rfl,rfl,by decide +kernel,rfl,by decide +kernel,by decide +kernel⟩
theorem zY (T:Txt K mg aq tc):i7 P w K mg base (bC P w) 3 aq "scaled" ["self","factor"] (zM aq):=by
 have iC:mP P w K mg base (bC P w) 1 "Book" aq ["self","tops","bottom"] (zL aq):=wa T
 refine T.m7.dZ (λ_ _ _ _ _ _=>dN λ_ _=>rfl) λf fd F=>F.d4 gE (λvs H Q E h=>?_) (λb9 A outer s H vs Q E hr h=>?_)
 ·obtain⟨_,_,_,rfl,_⟩:=h;rfl
 ·obtain⟨x,S,d,rfl,⟨dx,m,hx,hm⟩,bd,bb,bt,ln,kk⟩:=h
  have nd:=gE.nd
  refine⟨_,(ao (aH (vD iC (hr.mono (by decide)) rfl au.pass (aa (bD rfl (N:=["self","factor"]) (so:=ab (inClass (top 35) 1)) (N':=["top","factor"]) (k:=1) (fr:=[1]) rfl rfl ⟨rfl,by decide +kernel,by decide +kernel,by decide +kernel,rfl,by decide +kernel,by decide +kernel⟩ (aP (K:=K) (cY (pv 0) rfl)) (λ_ _ _ _ _=>(aw (i:=0) (show(["top","factor"]:List Str).Nodup by decide +kernel) rfl (Or.inl rfl))) (λ_ _ _ _ _=>bf)
   (λ_ _ _ _ _=>(aG aY (pv 0) (pv 1)))) (aa (aG aY (cY (pv 0) rfl) (pv 1)) af (se rfl)) (se rfl)) (he:=se rfl) (hpl:=na rfl)))),?_⟩
  simp_all only[iR,oN]
  refine⟨_,_,_,hx,T.bF,T.na_Book_tops,_,hG,m,rfl,⟨_,aR.of hm⟩,?_⟩
  have S':Src (tT K m) (ar H) S.1.length (λi x H H3=>H3=H/\(S.1.map V.int)[i]?=some x):=by
   have:=src_list (K:=K) (a:=m) (xs:=S.1.map V.int) (Ok:=ar H) (λH' s'=>aR.of (s' _ _ hm))
   rwa [YL] at this
  refine cZ S.1 (λt=>some (t*d)) S' (λ_ _ _ _ h=>h.1) (by rw[sizeLine_eq];omega) ?_ ?_
  ·rintro i t v et ⟨_,ex⟩ Y N y1 _
   rw[YQ,et] at ex
   cases ex
   simp_all only[fk]
   exact⟨(bt t (YN et)).cV bd,y1 _ rfl⟩
  ·intro D n1 n2
   rw[dM]
   have s1:=ah (H:=H) (o:=.lst (List.map V.int (S.1.map (·*d)))) n2
   have hD:upd H D (.lst (List.map V.int (S.1.map (·*d)))) D=some (.lst (List.map V.int (S.1.map (·*d)))):=ag
   generalize upd H D (.lst (List.map V.int (S.1.map (·*d))))=H1 at *
   refine⟨_,_,_,s1 _ _ hx,T.bF,T.na_Book_bottom,_,tz,_,rfl,bb.cV bd,λy dy ny CS ne=>?_⟩
   have s2:=s1.trans (ah (o:=.own y) CS)
   have EY:=ah (o:=.own y) CS _ _ hD
   have xD:D≠y:=λz=>by rw[z,ny] at hD;cases hD
   refine⟨y,dy,D,_,_,rfl,ag,by rw[ax xD];exact EY,λm' H' nm AD jA ky=>⟨rfl,kk y dy m' H' (λz o hz=>?_) (none_of s1 ny) ?_ jA AD⟩⟩
   ·have yx:z≠y:=λe=>by have:=s1 _ _ hz;rw[e,ny] at this;cases this
    exact ky z o yx (by rw[ax yx];exact s2 _ _ hz)
   ·have my:m'≠y:=λe=>by rw[e,ag] at nm;cases nm
    rw[ax my] at nm
    exact none_of s2 nm
theorem ef:aI ["self"] ["self"] (ab (inClass (top 35) 2)):=⟨rfl,rfl,rfl,by decide +kernel,rfl,by decide +kernel,by decide +kernel⟩
theorem CT (T:Txt K mg aq tc):i7 P w K mg base (bC P w) 3 aq "as_shares" ["self"] (ED aq):=by
 have B7:bN P w K mg base (bC P w) 2 "share" ["top","bottom"] EB:=Hi T
 refine T.i9.dZ (λ_ _ _ _ _ _=>iz λ_=>rfl) λf fd F=>F.d4 ef (λvs H Q E h=>?_) (λb9 A outer s H vs Q E hr h=>?_)
 ·obtain⟨_,_,rfl,_⟩:=h;rfl
 ·obtain⟨x,S,rfl,⟨dx,m,hx,hm⟩,b0,bb,ln,kk⟩:=h
  have nd:=ef.nd
  refine⟨_,(ao (aH (bD rfl (N:=["self"]) (so:=ab (inClass (top 35) 2)) (N':=["top","self"]) (k:=1) (fr:=[0]) rfl rfl ⟨rfl,by decide +kernel,by decide +kernel,by decide +kernel,rfl,by decide +kernel,by decide +kernel⟩ (aP (K:=K) (cY (pv 0) rfl)) (λ_ _ _ _ _=>(aw (i:=0) (show(["top","self"]:List Str).Nodup by decide +kernel) rfl (Or.inl rfl))) (λ_ _ _ _ _=>bf)
   (λ_ _ _ _ _=>(aB B7 (hr.mono (by decide)) rfl au.pass (aa (pv 0) (aa (qp (K:=K) (pv 1) rfl) af (se rfl)) (se rfl)) (he:=se rfl) (hpl:=na rfl)))))),?_⟩
  simp_all only[iR]
  refine⟨_,_,_,hx,T.bF,T.na_Book_tops,_,hG,m,rfl,⟨_,aR.of hm⟩,?_⟩
  refine comp_map (src_list (K:=K) (a:=m) (xs:=S.1.map V.int) (Ok:=ar H) (λH' s'=>aR.of (s' _ _ hm))) (λ_ _ _ _ h=>by rw[h.1];exact ar.refl _) (by rw[YL,sizeLine_eq];omega) (λi y H4=>∀t,S.1[i]?=some t->∃p,y=.ref p/\H4 p=some (.tup (Pr (Wq.low t S.2).1 (Wq.low t S.2).2))) (λi y H4 H5 s5 h t e=>by obtain⟨p,e1,h1⟩:=h t e;exact⟨p,e1,s5 _ _ h1⟩) ?_ ?_
  ·rintro i v w0 H4 H5 Q2 hi s4 ⟨rfl,ex⟩ kq
   rw[YQ] at ex
   obtain⟨t,et,rfl⟩:=Option.map_eq_some_iff.mp ex
   simp_all only[EB,iR]
   refine⟨_,_,_,s4 _ _ hx,T.bF,T.na_Book_bottom,_,tz,_,rfl,bb,b0,λp H6 s6 n6 h6=>kq _ _ s6 λt' e'=>?_⟩
   rw[et] at e'
   cases e'
   exact⟨p,rfl,h6⟩
  ·intro ys H5 s5 ly hy D n1 n2
   rw[YL] at ly
   refine kk D _ (s5.trans (ah n2)) (none_of s5 n2) (aS.mpr ⟨D,ys,rfl,ag,dk (by rw[YL];exact ly) λi y ey q eq=>?_⟩)
   rw[YQ] at eq
   obtain⟨t,et,rfl⟩:=Option.map_eq_some_iff.mp eq
   obtain⟨p,e1,h1⟩:=hy i y ey t et
   exact bW.mpr ⟨p,e1,ah n2 _ _ h1⟩
theorem kf:aI ["board"] ["board"] (ab (top 38)):=⟨rfl,rfl,rfl,by decide +kernel,rfl,by decide +kernel,by decide +kernel⟩
theorem EZ (T:Txt K mg aq tc):bN P w K mg base (bC P w) 4 "gains_of" ["board"] (zN aq):=by
 have xw:bN P w K mg base (bC P w) 1 "gain_of" ["place"] EE:=Hj T
 have xx:bN P w K mg base (bC P w) 3 "book_of" ["several"] (EF aq):=Hk T
 refine T.uI.dZ (λ_ _ _ _ _ _=>iz λ_=>rfl) λf fd F=>F.d4 kf (λvs H Q E h=>?_) (λb9 A outer s H vs Q E hr h=>?_)
 ·obtain⟨_,_,_,rfl,_⟩:=h;rfl
 ·obtain⟨a,b,rk,rfl,rb,B,kk⟩:=h
  have nd:=kf.nd
  refine⟨_,(ao (aH (aB xx (hr.mono (by decide)) rfl au.pass (aa (bD rfl (N:=["board"]) (so:=ab (top 38)) (N':=["place"]) (k:=1) (fr:=[]) rfl rfl ⟨rfl,by decide +kernel,by decide +kernel,by decide +kernel,rfl,by decide +kernel,by decide +kernel⟩ (aP (K:=K) (pv 0)) (λ_ _ _ _ _=>(aw (i:=0) (show(["place"]:List Str).Nodup by decide +kernel) rfl (Or.inl rfl))) (λ_ _ _ _ _=>bf)
   (λ_ _ _ _ _=>(aB xw (hr.mono (by decide)) rfl au.pass (aa (pv 0) af (se rfl)) (he:=se rfl) (hpl:=na rfl)))) af (se rfl)) (he:=se rfl) (hpl:=na rfl)))),?_⟩
  simp_all only[EF]
  obtain⟨_,xs,e,ha,rl⟩:=aS.mp rb
  cases e
  have lx:=rl.length
  rw[YL] at lx
  have bl:=B.len
  refine⟨⟨_,aR.of ha⟩,?_⟩
  refine comp_map (src_list (K:=K) (a:=a) (xs:=xs) (Ok:=ar H) (λH' s'=>aR.of (s' _ _ ha))) (λ_ _ _ _ h=>by rw[h.1];exact ar.refl _) (by rw[sizeLine_eq];omega) (λi y H4=>∀q,b[i]?=some q->∃p,y=.ref p/\H4 p=some (.tup (Pr (Wq.cu q).1 (Wq.cu q).2))) (λi y H4 H5 s5 h t e=>by obtain⟨p,e1,h1⟩:=h t e;exact⟨p,e1,s5 _ _ h1⟩) ?_ ?_
  ·rintro i v w0 H4 H5 Q2 hi s4 ⟨rfl,ex⟩ kq
   obtain⟨q,eq,rq⟩:=fu rl ex
   simp_all only[EE]
   refine⟨q,rq.mono s4,λr H6 s6 U3=>kq _ _ s6 λq' e'=>?_⟩
   rw[eq] at e'
   cases e'
   exact⟨r,rfl,U3⟩
  ·intro ys H5 s5 ly hy D n1 n2
   refine⟨b.map Wq.cu,aS.mpr ⟨D,ys,rfl,ag,dk (by rw[YL];omega) λi y ey q eq=>?_⟩,by rw[YL];exact bl,12,λx hx=>?_,by decide,Bt.mono (m:=4) (Bt.of 12 (by decide) (by decide)) (by decide),λx H6 s6 Hl=>kk x H6 (s5.trans ((ah n2).trans s6)) Hl⟩
   ·rw[YQ] at eq
    obtain⟨t,et,rfl⟩:=Option.map_eq_some_iff.mp eq
    obtain⟨p,e1,h1⟩:=hy i y ey t et
    exact bW.mpr ⟨p,e1,ah n2 _ _ h1⟩
   ·obtain⟨q,hq,rfl⟩:=List.mem_map.mp hx
    obtain⟨g1,g2,g3,g4⟩:=gY (B.ok q hq)
    exact⟨g4.1,zO g4.1 g3,Bt.mono (m:=3) (Bt.of 6 (by omega) (by omega)) (by decide)⟩
theorem fU:aI ["gains"] ["gains"] (ab (top 39)):=⟨rfl,rfl,rfl,by decide +kernel,rfl,by decide +kernel,by decide +kernel⟩
theorem Hm (T:Txt K mg aq tc):bN P w K mg base (bC P w) 3 "blank_worths" ["gains"] (EG aq):=by
 have iC:mP P w K mg base (bC P w) 1 "Book" aq ["self","tops","bottom"] (zL aq):=wa T
 refine T.m6.dZ (λ_ _ _ _ _ _=>iz λ_=>rfl) λf fd F=>F.d4 fU (λvs H Q E h=>?_) (λb9 A outer s H vs Q E hr h=>?_)
 ·obtain⟨_,_,rfl,_⟩:=h;rfl
 ·obtain⟨x,S,rfl,⟨dx,m,hx,hm⟩,ln,kk⟩:=h
  have nd:=fU.nd
  refine⟨_,(ao (aH (vD iC (hr.mono (by decide)) rfl au.pass (aa (aG uj (cU (aa aj af (se rfl))) (aL bp (by rfl) T.z_len Y7 (aa (cY (pv 0) rfl) af (se rfl)) (he:=se rfl) (hpl:=na rfl))) (aa (cY (pv 0) rfl) af (se rfl)) (se rfl)) (he:=se rfl) (hpl:=na rfl)))),?_⟩
  simp_all only[iR,oN,A2]
  refine⟨by decide,λz nz=>?_⟩
  have s1:=ah (o:=.lst [V.int 0]) nz
  have hz:upd H z (.lst [V.int 0]) z=some (.lst [V.int 0]):=ag
  generalize upd H z (.lst [V.int 0])=H1 at *
  have ls:(S.1.map V.int).length=S.1.length:=YL ..
  have sl:=sizeLine_eq
  refine⟨_,_,_,s1 _ _ hx,T.bF,T.na_Book_tops,_,hG,_,rfl,_,s1 _ _ hm,_,hz,by omega,by omega,by rw[ls,YX];show 1*S.1.length<=_;omega,λD nD=>?_⟩
  rw[ls,YX,List.flatten_replicate_singleton] at *
  have s2:=s1.trans (ah (o:=.lst (List.replicate S.1.length (V.int 0))) nD)
  have hD:upd H1 D (.lst (List.replicate S.1.length (V.int 0))) D=some (.lst ((List.replicate S.1.length 0).map V.int)):=by rw[ag,List.map_replicate]
  generalize upd H1 D (.lst (List.replicate S.1.length (V.int 0)))=H2 at *
  refine⟨_,_,_,s2 _ _ hx,T.bF,T.na_Book_bottom,_,tz,λy dy ny CS ne=>?_⟩
  have s3:=s2.trans (ah (o:=.own y) CS)
  have EY:=ah (o:=.own y) CS _ _ hD
  have xD:D≠y:=λz=>by rw[z,ny] at hD;cases hD
  refine⟨y,dy,D,_,_,rfl,ag,by rw[ax xD];exact EY,λm' H' nm AD jA ky=>⟨rfl,kk y H' (λz o hz=>?_) ⟨dy,m',jA,AD⟩⟩⟩
  have yx:z≠y:=λe=>by have:=s2 _ _ hz;rw[e,ny] at this;cases this
  exact ky z o yx (by rw[ax yx];exact s3 _ _ hz)
theorem gF:aI ["book","gains","part","ways","scale","right","place","gain","answers","told","top"] ["book","gains","part","ways"] (ab (top 40)):=⟨rfl,rfl,rfl,by decide +kernel,rfl,by decide +kernel,by decide +kernel⟩
theorem Hn (T:Txt K mg aq tc):bN P w K mg base (bC P w) 4 "with_worths" ["book","gains","part","ways"] (EH aq):=by
 have cC:bN P w K mg base (bC P w) 1 "total_weight" ["ways"] uN:=zW T
 have dC:bN P w K mg base (bC P w) 3 "whole_answers" ["rows","right"] sO:=CM T
 have gG:bN P w K mg base (bC P w) 2 "part_rows" ["part","ways"] sQ:=zX T
 have eD:i7 P w K mg base (bC P w) 3 aq "scaled" ["self","factor"] (zM aq):=zY T
 refine T.oq.dZ (λ_ _ _ _ _ _=>KJ λ_ _ _ _=>rfl) λf fd F=>F.d4 gF (λvs H Q E h=>?_) (λb9 A outer s H vs Q E hr h=>?_)
 ·obtain⟨_,_,_,_,_,_,_,_,_,_,_,_,_,rfl,_⟩:=h;rfl
 ·obtain⟨bk,gn,pt,wl,S,gt,G,p,n,i,xs,zK,ws,rfl,hb,hg,hp,hw,rl,ew,eO,off,W,K5,Jq,pn,lg,G0,Yy,gb,kk⟩:=h
  have nd:=gF.nd
  refine⟨_,(ae (ay (i:=4) nd rfl (Or.inl rfl) (aG di (cY (pv 0) rfl) (cY (pv 1) rfl)))
  (ae (ay (i:=5) nd rfl (Or.inl rfl) (cU af))
  (ae (bL PassesOwn.never rfl (aP (K:=K) (pv 2)) (aw (i:=6) nd rfl (Or.inl rfl)) (ae (ay (i:=7) nd rfl (Or.inl rfl) (aG aY (aG aY (aB cC (hr.mono (by decide)) rfl au.pass (aa (aA aE (pv 3) (pv 6) (λ_ _=>rfl)) af (se rfl)) (he:=se rfl) (hpl:=na rfl)) (aA aE (cY (pv 1) rfl) (pv 6) (λ_ _=>rfl))) (pv 4)))
  (ao (gL (oS Z4 Z5 Z6 dP.r (pv 5) (aa (aG bT (pv 7) (aL (gx (K:=K)) (by rfl) T.z_sum rfl (aa (bD rfl (N:=["book","gains","part","ways","scale","right","place","gain","answers","told","top"]) (so:=ab (top 40)) (N':=["weight","to","book"]) (k:=2) (fr:=[0]) rfl rfl ⟨rfl,by decide +kernel,by decide +kernel,by decide +kernel,rfl,by decide +kernel,by decide +kernel⟩ (aP (K:=K) (aA aE (pv 3) (pv 6) (λ_ _=>rfl))) (λ_ _ _ _ _=>(bK (K:=K) (n:=2) rfl (aK (aw (i:=0) (show(["weight","to","book"]:List Str).Nodup by decide +kernel) rfl (Or.inl rfl)) (aK (aw (i:=1) (show(["weight","to","book"]:List Str).Nodup by decide +kernel) rfl (Or.inl rfl)) bJ)))) (λ_ _ _ _ _=>bf)
   (λ_ _ _ _ _=>(aG aY (pv 0) (aA aE (qp (K:=K) (pv 2) rfl) (pv 1) (λ_ _=>rfl))))) af (se rfl)) (he:=se rfl) (hpl:=na rfl))) af (se rfl)))))))
  (ae (ay (i:=8) nd rfl (Or.inl rfl) (aB dC (hr.mono (by decide)) rfl au.pass (aa (aB gG (hr.mono (by decide)) rfl au.pass (aa (pv 2) (aa (pv 3) af (se rfl)) (se rfl)) (he:=se rfl) (hpl:=na rfl)) (aa (pv 5) af (se rfl)) (se rfl)) (he:=se rfl) (hpl:=na rfl)))
  (ae (ay (i:=9) nd rfl (Or.inl rfl) (CB eD T.bF (pv 0) (hr.mono (by decide)) au.pass (aa (aA aJ (pv 8) aj (λ_ _=>rfl)) af (se rfl)) (hst:=se rfl) (hpl:=na rfl)))
  (ae (bL PassesOwn.never rfl (iW (K:=K) rfl T.z_zip (aa (pv 2) (aa (aA aJ (pv 8) aj (λ_ _=>rfl)) af (se rfl)) (se rfl))) (bK (K:=K) (n:=2) rfl (aK (aw (i:=6) nd rfl (Or.inl rfl)) (aK (aw (i:=10) nd rfl (Or.inl rfl)) bJ))) (ao (dB (pv 10) (dA (cY (pv 9) rfl) (pv 6) set_list))))
  (ao (aH (pv 9))))))))),?_⟩
  have sl:=sizeLine_eq
  obtain⟨dx,m,CU,BD⟩:=hb
  obtain⟨dg,K6,Sf,U4⟩:=hg
  obtain⟨v,ev,rv⟩:=rl.at (d:=zH ws) (i:=p) (by rw[YQ,ew];rfl)
  obtain⟨wv,us,rfl,EX,ru⟩:=aS.mp rv
  have CP:=bx ev
  have lu:=ru.length
  rw[YL] at lu
  have w3:=eO.1
  have B0:=W.pos
  have bG:Bt 4 G:=Bt.of 12 (by omega) (by omega)
  have U5:fK (gt.map V.int) (p:Int)=some (.int (gt.getD p 0)):=by have:=dS (ns:=gt) (i:=(p:Int)) (by omega) (by omega);rwa [YX] at this
  obtain⟨d0,d1⟩:=eO.tt
  have bd:Bt 4 (Dg.tt ws):=Bt.of 9 (by omega) (by omega)
  have U6:Bt (4*i+4) (S.2 / G):=W.bb.le (Nm.dj G0 W.dv)
  have bg:Bt 7 (gt.getD p 0):=Bt.of 72 (by have:=gb p;omega) (by have:=gb p;omega)
  have K7:∀t∈S.1,Bt 4000 t:=λt ht=>by
   obtain⟨j,hj,rfl⟩:=List.getElem_of_mem ht
   have:=W.zB K5 j
   rw[YV,YM hj] at this
   exact Bt.mono this (by omega)
  have lS:=W.len
  generalize hR:Dg.tt ws*gt.getD p 0* (S.2 / G)+Dg.qx S.1 ws=R at *
  change tSeq _ _ _ _ _
  refine aT (λσ' H1=>H=H1/\σ'=[some (.ref bk),some (.ref gn),some (.ref pt),some (.ref wl),some (.int (S.2 / G)),none,none,none,none,none,none]) ?_ (λN hN=>?_)
  case refine_2=>
   simp_all only[iR]
   exact⟨_,_,_,CU,T.bF,T.na_Book_bottom,_,tz,_,_,_,Sf,T.bF,T.na_Book_bottom,_,tz,_,rfl,_,rfl,eF.of G0 bG,hN _ _ ⟨rfl,rfl⟩⟩
  rintro _ _ ⟨rfl,rfl⟩
  change tSeq _ _ _ _ _
  refine aT (λσ' H1=>∃r,ar H H1/\H r=none/\H1 r=some (.lst [])/\σ'=[some (.ref bk),some (.ref gn),some (.ref pt),some (.ref wl),some (.int (S.2 / G)),some (.ref r),none,none,none,none,none]) ?_ (λN hN=>?_)
  case refine_2=>
   simp_all only[]
   exact⟨Y0 _,λr n3=>hN _ _ ⟨r,ah n3,n3,ag,rfl⟩⟩
  rintro _ H1 ⟨r,s1,nr,Ha,rfl⟩
  change tSeq _ _ _ _ _
  refine aT (λσ' H2=>ar H H2/\H2 r=some (.lst [.int R])/\∃z6 z7,σ'=[some (.ref bk),some (.ref gn),some (.ref pt),some (.ref wl),some (.int (S.2 / G)),some (.ref r),z6,z7,none,none,none]) ?_ (λN hN=>?_)
  case refine_2=>
   simp_all only[]
   refine⟨⟨_,aR.of (s1 _ _ hp)⟩,bu (src_list (K:=K) (a:=pt) (xs:=[V.int (p:Int)]) (Ok:=ar H) (λH' s=>aR.of (s _ _ hp))) (λj σ H2=>ar H H2/\H2 r=some (.lst (if j=0 then [] else [.int R]))/\∃z6 z7,σ=[some (.ref bk),some (.ref gn),some (.ref pt),some (.ref wl),some (.int (S.2 / G)),some (.ref r),z6,z7,none,none,none]) ⟨s1,Ha,_,_,rfl⟩ (λ_ _ _ _ h=>h.1) ?_ ?_⟩
   ·rintro j y σ H2 H3 hj ⟨s2,AE,z6,z7,rfl⟩ ⟨rfl,ey⟩
    have j0:j=0:=by have:j<1:=hj;omega
    subst j0
    cases ey
    simp_all only[uN,iR,lB]
    refine⟨_,s2 _ _ hw,_,CP,wv,rfl,ws,rv.mono s2,w3,λH4 s4=>?_⟩
    have xH:=s2.trans s4
    refine⟨_,_,_,xH _ _ Sf,T.bF,T.na_Book_tops,_,hG,_,rfl,_,xH _ _ U4,_,U5,_,rfl,bd.cV bg,(bd.mul bg).cV U6 (by omega),?_⟩
    refine⟨.inl ⟨rfl,_,aR.of (s4 _ _ AE)⟩,_,xH _ _ hw,_,CP,wv,rfl,⟨_,aR.of (xH _ _ EX)⟩,?_⟩
    have S':Src (tT K wv) (ar H4) ws.length (λi x H H3=>H3=H/\us[i]?=some x):=by rw[lu];exact src_list (λH' s'=>aR.of (s' _ _ (xH _ _ EX)))
    refine fo ws (λx=>some (x.1*S.1.getD x.2.toNat 0)) S' (λ_ _ _ _ h=>h.1) (by omega) ?_ ?_
    ·rintro j x v0 ex ⟨_,ey⟩
     obtain⟨t,et,ht⟩:=cI (ru.mono xH) ex
     rw[ey] at et
     cases et
     obtain⟨x1,x2,x3,x4⟩:=eO.2 x (YN ex)
     have U7:fK (S.1.map V.int) x.2=some (.int (S.1.getD x.2.toNat 0)):=dS x3 (by omega)
     refine⟨t,_,_,rfl,dH.of ht,λY N y1 _=>?_⟩
     simp_all only[fk,iR]
     exact⟨_,_,_,xH _ _ CU,T.bF,T.na_Book_tops,_,hG,_,rfl,_,xH _ _ BD,_,U7,_,rfl,(Bt.of (n:=2) 3 (by omega) (by omega)).cV (W.zB K5 _) (by omega),y1 _ rfl⟩
    ·intro D n1 n2
     rw[dM]
     have eR:R=Dg.tt ws*gt.getD p 0* (S.2 / G)+ (ws.map λx=>x.1*S.1.getD x.2.toNat 0).sum:=hR.symm
     refine⟨_,aR.of ag,_,ah n2 _ _ (s4 _ _ AE),by show 0<sizeLine;decide,aO (xH.trans (ah n2)) nr,?_,_,rfl⟩
     rw[ag,<-eR]
     rfl
   ·rintro σ H2 ⟨s2,AE,z6,z7,rfl⟩
    exact hN _ _ ⟨s2,AE,_,_,rfl⟩
  rintro _ H2 ⟨s2,AE,z6,z7,rfl⟩
  change tSeq _ _ _ _ _
  refine aT (λσ' H3=>∃u q,ar H2 H3/\H3 u=some (.tup [.ref q,.int (Dg.tt ws)])/\H3 q=some (.lst [.int R])/\σ'=[some (.ref bk),some (.ref gn),some (.ref pt),some (.ref wl),some (.int (S.2 / G)),some (.ref r),z6,z7,some (.ref u),none,none]) ?_ (λN hN=>?_)
  case refine_2=>
   simp_all only[sQ,sO]
   exact⟨p,s2 _ _ hp,_,s2 _ _ hw,_,rl.mono s2,ws,ew,w3,off,λr2 t2 H3 s3 h3 h4=>⟨_,h3,_,h4,_,s3 _ _ AE,by omega,λu q H4 s4 h5 h6=>hN _ _ ⟨u,q,s3.trans s4,h5,h6,rfl⟩⟩⟩
  rintro _ H3 ⟨u,q,s3,hu,hq,rfl⟩
  have Fu:=s2.trans s3
  change tSeq _ _ _ _ _
  refine aT (λσ' H4=>∃y dy m',ar H3 H4/\H3 y=none/\H3 m'=none/\H4 y=some (.ins aq dy [("tops",.ref m'),("bottom",.int (S.2*Dg.tt ws))])/\H4 m'=some (.lst ((S.1.map (·*Dg.tt ws)).map V.int))/\σ'=[some (.ref bk),some (.ref gn),some (.ref pt),some (.ref wl),some (.int (S.2 / G)),some (.ref r),z6,z7,some (.ref u),some (.ref y),none]) ?_ (λN hN=>?_)
  case refine_2=>
   simp_all only[jV,hu]
   refine⟨_,_,Fu _ _ CU,CQ,bk,S,_,rfl,⟨_,_,Fu _ _ CU,Fu _ _ BD⟩,bd.mono (by decide),W.bb.mono (by omega),K7,by omega,λy dy m' H4 s4 ny nm hy hm=>hN _ _ ⟨y,dy,m',s4,ny,nm,hy,hm,rfl⟩⟩
  rintro _ H4 ⟨y,dy,m',s4,ny,Jr,hy,AD,rfl⟩
  change tSeq _ _ _ _ _
  refine aT (λσ' H5=>ar H3 H5/\H5 y=some (.ins aq dy [("tops",.ref m'),("bottom",.int (S.2*Dg.tt ws))])/\H5 m'=some (.lst (((S.1.map (·*Dg.tt ws)).set p R).map V.int))/\∃z6 Fv,σ'=[some (.ref bk),some (.ref gn),some (.ref pt),some (.ref wl),some (.int (S.2 / G)),some (.ref r),z6,z7,some (.ref u),some (.ref y),Fv]) ?_ (λN hN=>?_)
  case refine_2=>
   simp_all only[s4 _ _ hu]
   refine⟨⟨_,aR.of (s4 _ _ (Fu _ _ hp))⟩,⟨_,aR.of (s4 _ _ hq)⟩,bu (lE (K:=K) (Ok:=ar H3) (λH' s=>aR.of (s _ _ (Fu _ _ hp))) (λH' s=>aR.of (s _ _ hq))) (λj σ H5=>ar H3 H5/\H5 y=some (.ins aq dy [("tops",.ref m'),("bottom",.int (S.2*Dg.tt ws))])/\H5 m'=some (.lst ((if j=0 then S.1.map (·*Dg.tt ws) else (S.1.map (·*Dg.tt ws)).set p R).map V.int))/\∃z6 Fv,σ=[some (.ref bk),some (.ref gn),some (.ref pt),some (.ref wl),some (.int (S.2 / G)),some (.ref r),z6,z7,some (.ref u),some (.ref y),Fv]) ⟨s4,hy,AD,_,_,rfl⟩ (λ_ _ _ _ h=>h.1) ?_ ?_⟩
   ·rintro j v0 σ H5 H6 hj ⟨s5,tD,uS,z6,Fv,rfl⟩ ⟨t,x1,x2,nt,rfl,e1,e2,rfl⟩
    have j0:j=0:=by have:j<1:=hj;omega
    subst j0
    cases e1
    cases e2
    refine⟨t,_,rfl,dH.of ag,rfl,?_⟩
    have s6:=ah (o:=.tup [.int (p:Int),.int R]) nt
    generalize upd H5 t (.tup [.int (p:Int),.int R])=H6 at *
    simp_all only[iR]
    have ym:y≠m':=λz=>by rw[z,uS] at tD;cases tD
    have lm:p< ((S.1.map (·*Dg.tt ws)).map V.int).length:=by rw[YL,YL];omega
    refine⟨_,_,_,s6 _ _ tD,T.bF,T.na_Book_tops,_,hG,_,rfl,_,s6 _ _ uS,p,de lm,aO (s5.trans s6) Jr,by rw[ax ym];exact s6 _ _ tD,?_,_,rfl⟩
    rw[ag,if_pos rfl,if_neg (by decide),List.map_set]
   ·rintro σ H5 ⟨s5,tD,uS,z6,Fv,rfl⟩
    exact hN _ _ ⟨s5,tD,uS,_,_,rfl⟩
  rintro _ H5 ⟨s5,tD,uS,z6,Fv,rfl⟩
  simp_all only[]
  exact kk y H5 (Fu.trans s5) ⟨dy,m',tD,by rw[<-hR] at uS;exact uS⟩
noncomputable def zZ:Sp:=λvs H Q _=>∃(a q:Addr) (d:Int),vs=[.ref a,.int 0]/\H a=some (.lst [.ref q])/\H q=some (.lst [.int d])/\∀p H',ar H H'->H' p=some (.lst [.int d])->Q (.ref p) H'
noncomputable def z0:Sp:=λvs H Q _=>∃(a q:Addr) (d:Int),vs=[.ref a]/\H a=some (.lst [.ref q])/\H q=some (.lst [.int d])/\∀p t H',ar H H'->H' p=some (.lst [.ref t])->H' t=some (.lst [.int d])->Q (.ref p) H'
theorem jh:aI ["rows","column"] ["rows","column"] (ab (top 21)):=⟨rfl,rfl,rfl,by decide +kernel,rfl,by decide +kernel,by decide +kernel⟩
theorem E1 (T:Txt K mg aq tc):bN P w K mg base (bC P w) 1 "column_of" ["rows","column"] zZ:=by
 refine T.sk.dZ (λ_ _ _ _ _ _=>dN λ_ _=>rfl) λf fd F=>F.d4 jh (λvs H Q E h=>?_) (λb9 A outer s H vs Q E hr h=>?_)
 ·obtain⟨_,_,_,rfl,_⟩:=h;rfl
 ·obtain⟨a,q,d,rfl,ha,hq,kk⟩:=h
  have nd:=jh.nd
  refine⟨_,(ao (aH (bD rfl (N:=["rows","column"]) (so:=ab (top 21)) (N':=["row","column"]) (k:=1) (fr:=[1]) rfl rfl ⟨rfl,by decide +kernel,by decide +kernel,by decide +kernel,rfl,by decide +kernel,by decide +kernel⟩ (aP (K:=K) (pv 0)) (λ_ _ _ _ _=>(aw (i:=0) (show(["row","column"]:List Str).Nodup by decide +kernel) rfl (Or.inl rfl))) (λ_ _ _ _ _=>bf)
   (λ_ _ _ _ _=>(aA aE (pv 0) (pv 1) (λ_ _=>rfl)))))),?_⟩
  simp_all only[]
  refine⟨⟨_,aR.of ha⟩,?_⟩
  have S':Src (tT K a) (ar H) [d].length (λi x H H3=>H3=H/\[V.ref q][i]?=some x):=src_list (K:=K) (a:=a) (xs:=[V.ref q]) (Ok:=ar H) (λH2 s2=>aR.of (s2 _ _ ha))
  refine cZ [d] (λv=>some v) S' (λ_ _ _ _ h=>h.1) (by show 1<=sizeLine;decide) ?_ ?_
  ·rintro i v x ev ⟨_,ex⟩ Y N y1 _
   have i0:i=0:=by have:=(List.getElem?_eq_some_iff.mp ev).1;have:i<1:=this;omega
   subst i0
   cases ev
   cases ex
   simp_all only[fk,hq]
   exact y1 _ rfl
  ·intro D n1 n2
   exact kk _ _ (ah n2) ag
theorem gH:aI ["rows"] ["rows"] (ab (top 22)):=⟨rfl,rfl,rfl,by decide +kernel,rfl,by decide +kernel,by decide +kernel⟩
theorem Ho (T:Txt K mg aq tc):bN P w K mg base (bC P w) 2 "turned_rows" ["rows"] z0:=by
 have tE:bN P w K mg base (bC P w) 1 "column_of" ["rows","column"] zZ:=E1 T
 refine T.oj.dZ (λ_ _ _ _ _ _=>iz λ_=>rfl) λf fd F=>F.d4 gH (λvs H Q E h=>?_) (λb9 A outer s H vs Q E hr h=>?_)
 ·obtain⟨_,_,_,rfl,_⟩:=h;rfl
 ·obtain⟨a,q,d,rfl,ha,hq,kk⟩:=h
  have nd:=gH.nd
  refine⟨_,(ao (aH (bD rfl (N:=["rows"]) (so:=ab (top 22)) (N':=["column","rows"]) (k:=1) (fr:=[0]) rfl rfl ⟨rfl,by decide +kernel,by decide +kernel,by decide +kernel,rfl,by decide +kernel,by decide +kernel⟩ (cE rfl T.z_range (aa (aL bp (by rfl) T.z_len Y7 (aa (pv 0) af (se rfl)) (he:=se rfl) (hpl:=na rfl)) af (se rfl))) (λ_ _ _ _ _=>(aw (i:=0) (show(["column","rows"]:List Str).Nodup by decide +kernel) rfl (Or.inl rfl))) (λ_ _ _ _ _=>bf)
   (λ_ _ _ _ _=>(aB tE (hr.mono (by decide)) rfl au.pass (aa (pv 1) (aa (pv 0) af (se rfl)) (se rfl)) (he:=se rfl) (hpl:=na rfl)))))),?_⟩
  simp_all only[ha]
  refine⟨by simp,by simp,?_⟩
  refine comp_map src_range (λ_ _ _ _ h=>by rw[h.1];exact ar.refl _) (by show 1<=sizeLine;decide) (λi y H2=>∃t,y=.ref t/\H2 t=some (.lst [.int d])) (λi y H2 H3 s3 ⟨t,e,h⟩=>⟨t,e,s3 _ _ h⟩) ?_ ?_
  ·rintro i x w0 H2 H3 Q2 hi s2 ⟨rfl,rfl⟩ kq
   have i0:i=0:=by have:i< (([V.ref q].length:Nat):Int).toNat:=hi;simp at this;omega
   subst i0
   simp_all only[zZ,KY]
   exact⟨_,s2 _ _ ha,_,s2 _ _ hq,λp H4 s4 h4=>kq _ _ s4 ⟨p,rfl,h4⟩⟩
  ·intro ys H2 s2 ly hy D n1 n2
   have ly:ys.length=1:=ly
   match ys,ly with
   | [y],_=>
    obtain⟨t,rfl,ht⟩:=hy 0 y rfl
    exact kk _ _ _ (s2.trans (ah n2)) ag (ah n2 _ _ ht)
theorem CV {a b:V}:List.lookup (Str.ofString "as_shares") [(("tops":Str),a),(("bottom":Str),b)]=none:=rfl
theorem jj:aI ["board","picks","found","ways","gains","book","part"] ["board","picks"] (ab (top 41)):=⟨rfl,rfl,rfl,by decide +kernel,rfl,by decide +kernel,by decide +kernel⟩
theorem Hq (T:Txt K mg aq tc) (LB:mS base mg tc tp):bN P w K mg base (bC P w) 7 "worths_of" ["board","picks"] (G5 tp):=by
 have dD:bN P w K mg base (bC P w) 6 "checked_parts" ["board"] (sP tp):=zV T LB
 have cK:bN P w K mg base (bC P w) 2 "all_weighted_ways" ["board","picks"] zJ:=CO T
 have uT:bN P w K mg base (bC P w) 4 "gains_of" ["board"] (zN aq):=EZ T
 have nO:bN P w K mg base (bC P w) 3 "blank_worths" ["gains"] (EG aq):=Hm T
 have oF:bN P w K mg base (bC P w) 4 "with_worths" ["book","gains","part","ways"] (EH aq):=Hn T
 have dc:i7 P w K mg base (bC P w) 3 aq "as_shares" ["self"] (ED aq):=CT T
 refine T.sv.dZ (λ_ _ _ _ _ _=>dN λ_ _=>rfl) λf fd F=>F.d4 jj (λvs H Q E h=>?_) (λb9 A outer s H vs Q E hr h=>?_)
 ·obtain⟨_,_,_,_,_,rfl,_⟩:=h;rfl
 ·obtain⟨a,c,b,rk,ks,rfl,rb,B,hc,lk,pk,j8,kk⟩:=h
  have nd:=jj.nd
  refine⟨_,(ae (ay (i:=2) nd rfl (Or.inl rfl) (aB dD (hr.mono (by decide)) rfl au.pass (aa (pv 0) af (se rfl)) (he:=se rfl) (hpl:=na rfl)))
  (ae (ay (i:=3) nd rfl (Or.inl rfl) (aB cK (hr.mono (by decide)) rfl au.pass (aa (pv 0) (aa (pv 1) af (se rfl)) (se rfl)) (he:=se rfl) (hpl:=na rfl)))
  (ae (ay (i:=4) nd rfl (Or.inl rfl) (aB uT (hr.mono (by decide)) rfl au.pass (aa (pv 0) af (se rfl)) (he:=se rfl) (hpl:=na rfl)))
  (ae (ay (i:=5) nd rfl (Or.inl rfl) (aB nO (hr.mono (by decide)) rfl au.pass (aa (pv 4) af (se rfl)) (he:=se rfl) (hpl:=na rfl)))
  (ae (bL PassesOwn.never rfl (aP (K:=K) (pv 2)) (aw (i:=6) nd rfl (Or.inl rfl)) (ao (ay (i:=5) nd rfl (Or.inl rfl) (aB oF (hr.mono (by decide)) rfl au.pass (aa (pv 5) (aa (pv 4) (aa (pv 6) (aa (pv 3) af (se rfl)) (se rfl)) (se rfl)) (se rfl)) (he:=se rfl) (hpl:=na rfl)))))
  (ao (aH (ze dc T.bF (pv 5) (hr.mono (by decide)) au.pass)))))))),?_⟩
  have bl:=B.len
  obtain⟨g0,g1,g2⟩:=B.bot
  have Sg:(gT b).length=b.length:=by unfold gT;rw[YL,YL]
  simp_all only[sP,zJ,zN,EG]
  refine⟨b,rb,rk,B,j8,λl ps as H1 td s1 nl hl al=>⟨b,rb.mono s1,bl,ks,s1 _ _ hc,lk,pk,λwl xs H2 s2 nw hw nY=>⟨b,rb.mono (s1.trans s2),rk,B,λgn H3 s3 hg=>⟨_,hg,by show(gT b).length<=60;omega,λbk H4 s4 hb=>?_⟩⟩⟩⟩
  have U8:=s2.trans (s3.trans s4)
  have xH:=s3.trans s4
  have U9:=nY.mono gP
  have lp:=sS B td
  have la:=al.length
  rw[YL] at la
  refine⟨⟨_,aR.of (U8 _ _ hl)⟩,bu (src_list (K:=K) (a:=l) (xs:=as.map V.ref) (Ok:=ar H3) (λH' s=>aR.of ((s3.trans s) _ _ (s2 _ _ hl)))) (λi σ H5=>ar H3 H5/\∃bk S z,qz aq H5 bk S/\Dg.xG b.length (gB b) i S/\(∀j p:Nat,j<i->ps[j]?=some (p:Int)->EqAt b ks p (Dg.val S))/\σ=[some (.ref a),some (.ref c),some (.ref l),some (.ref wl),some (.ref gn),some (.ref bk),z]) ⟨s4,bk,_,_,hb,by rw[Sg];exact Dg.xG.start g0 g1,λj p h=>absurd h (Nat.not_lt_zero _),rfl⟩ (λ_ _ _ _ h=>h.1) ?_ ?_⟩
  ·rintro i y σ H5 H6 hi ⟨s5,bk,S,z,Aa,W,ok,rfl⟩ ⟨rfl,ex⟩
   rw[YL] at hi
   obtain⟨p',ju,x,rfl,hx⟩:=al.get ex
   obtain⟨p,ep,hp⟩:=lK B td (i:=i) (by omega)
   rw[ep] at ju
   cases ju
   have e:b[p]?=some b[p]:=YM hp
   have ek:ks[p]?=some ks[p]:=YM (by omega)
   have po:=pk _ _ _ e ek
   obtain⟨eO,_⟩:=d8 (B.ok _ (Zc hp)) po
   have Va:=s2.trans (s3.trans s5)
   simp_all only[EH]
   refine⟨S,Aa,gT b,gB b,hg.mono s5,p,Va _ _ hx,b.length,i,xs,(s3.trans s5) _ _ hw,oC b ks,U9.mono (s3.trans s5),_,uO e ek,eO,B.off e po,W,by omega,bl,hp,Sg,g0,g1,B.top,λx2 H7 s7 h7=>⟨s5.trans s7,x2,_,h7,W.step eO g0 (B.top p),λj p' hj ej=>?_,rfl,_,rfl⟩⟩
   by_cases c:j=i
   ·subst c
    rw[ep] at ej
    cases ej
    exact BV B e ek po W
   ·exact zP B e po W (λz=>c (sT B td (z▸ej) ep)) (ok j p' (by omega) ej) λq' k' e' AA=>sV B td pk ep ej (by omega) e' AA
  ·rintro σ H5 ⟨s5,bk,S,z,Aa,W,ok,rfl⟩
   rw[YL,la,lp] at W ok
   simp_all only[jV]
   obtain⟨dx,m,hx,hm⟩:=id Aa
   have W0:=W.pos
   have bB:Bt 4000 S.2:=W.bb.mono (by omega)
   refine⟨_,_,hx,CV,bk,S,rfl,Aa,W0,bB.mono (by decide),by rw[W.len];exact bl,λl6 H6 s6 n6 r6=>kk l6 _ H6 (s1.trans (s2.trans (s3.trans (s5.trans s6)))) (none_of (s1.trans (s2.trans (s3.trans s5))) n6) r6 (by rw[YL];exact W.len) (λx hx=>?_) λp q k e ek=>?_⟩
   ·obtain⟨t,_,rfl⟩:=List.mem_map.mp hx
    exact zQ W0 bB
   ·have hp:p<b.length:=(List.getElem?_eq_some_iff.mp e).1
    have mp:(p:Int)∈ps:=(B.dn.pm td).mem_iff.mpr (List.mem_map.mpr ⟨p,List.mem_range.mpr hp,rfl⟩)
    obtain⟨j,ej⟩:=Y4 mp
    have hj:=(List.getElem?_eq_some_iff.mp ej).1
    have:=ok j p (by omega) ej q k e ek
    obtain⟨eO,_⟩:=d8 (B.ok _ (YN e)) (pk _ _ _ e ek)
    have wl:=W.len
    show Dg.vl (Wq.d3 _ (p:Int))=_
    rw[qA W0 (p:Int) (by rw[YX];omega),this]
    congr 1
    exact Dg.cO λx hx=>(qA W0 _ (by have:=eO.2 x hx;omega)).symm
theorem gI:aI ["book","part","ways","coming","answers","told","place","top","weight","to"] ["book","part","ways"] (ab (top 42)):=⟨rfl,rfl,rfl,by decide +kernel,rfl,by decide +kernel,by decide +kernel⟩
theorem Hr (T:Txt K mg aq tc):bN P w K mg base (bC P w) 4 "with_visits" ["book","part","ways"] (EI aq):=by
 have cC:bN P w K mg base (bC P w) 1 "total_weight" ["ways"] uN:=zW T
 have dC:bN P w K mg base (bC P w) 3 "whole_answers" ["rows","right"] sO:=CM T
 have oG:bN P w K mg base (bC P w) 2 "turned_rows" ["rows"] z0:=Ho T
 have gG:bN P w K mg base (bC P w) 2 "part_rows" ["part","ways"] sQ:=zX T
 have eD:i7 P w K mg base (bC P w) 3 aq "scaled" ["self","factor"] (zM aq):=zY T
 refine T.ot.dZ (λ_ _ _ _ _ _=>sG λ_ _ _=>rfl) λf fd F=>F.d4 gI (λvs H Q E h=>?_) (λb9 A outer s H vs Q E hr h=>?_)
 ·obtain⟨_,_,_,_,_,_,_,_,_,_,rfl,_⟩:=h;rfl
 ·obtain⟨bk,pt,wl,S,p,n,i,xs,zK,ws,rfl,hb,hp,hw,rl,ew,eO,off,Vt,K5,Jq,pn,kk⟩:=h
  have nd:=gI.nd
  refine⟨_,(ae (dJ (i:=3) rfl nd rfl rfl (N:=["book","part","ways","coming","answers","told","place","top","weight","to"]) (so:=ab (top 42)) (N':=["place","book"]) (k:=1) (fr:=[0]) rfl rfl ⟨rfl,by decide +kernel,by decide +kernel,by decide +kernel,rfl,by decide +kernel,by decide +kernel⟩ (aP (K:=K) (pv 1)) (λ_ _ _ _ _=>(aw (i:=0) (show(["place","book"]:List Str).Nodup by decide +kernel) rfl (Or.inl rfl))) (λ_ _ _ _ _=>bf)
   (λ_ _ _ _ _=>(aA aE (qp (K:=K) (pv 1) rfl) (pv 0) (λ_ _=>rfl))))
  (ae (bS (lR (hX (aL (sh (K:=K)) (by rfl) T.z_any rfl (aa (pv 3) af (se rfl)) (he:=se rfl) (hpl:=na rfl)))) (ao (aH (pv 0)))
   aZ)
  (ae (ay (i:=4) nd rfl (Or.inl rfl) (aB dC (hr.mono (by decide)) rfl au.pass (aa (aB oG (hr.mono (by decide)) rfl au.pass (aa (aB gG (hr.mono (by decide)) rfl au.pass (aa (pv 1) (aa (pv 2) af (se rfl)) (se rfl)) (he:=se rfl) (hpl:=na rfl)) af (se rfl)) (he:=se rfl) (hpl:=na rfl)) (aa (pv 3) af (se rfl)) (se rfl)) (he:=se rfl) (hpl:=na rfl)))
  (ae (ay (i:=5) nd rfl (Or.inl rfl) (CB eD T.bF (pv 0) (hr.mono (by decide)) au.pass (aa (aA aJ (pv 4) aj (λ_ _=>rfl)) af (se rfl)) (hst:=se rfl) (hpl:=na rfl)))
  (ae (bL PassesOwn.never rfl (iW (K:=K) rfl T.z_zip (aa (pv 1) (aa (aA aJ (pv 4) aj (λ_ _=>rfl)) af (se rfl)) (se rfl))) (bK (K:=K) (n:=2) rfl (aK (aw (i:=6) nd rfl (Or.inl rfl)) (aK (aw (i:=7) nd rfl (Or.inl rfl)) bJ))) (ae (dB (aG aY (pv 7) (aB cC (hr.mono (by decide)) rfl au.pass (aa (aA aE (pv 2) (pv 6) (λ_ _=>rfl)) af (se rfl)) (he:=se rfl) (hpl:=na rfl))) (dA (cY (pv 5) rfl) (pv 6) set_list))
  (ao (bL PassesOwn.never rfl (aP (K:=K) (aA aE (pv 2) (pv 6) (λ_ _=>rfl))) (bK (K:=K) (n:=2) rfl (aK (aw (i:=8) nd rfl (Or.inl rfl)) (aK (aw (i:=9) nd rfl (Or.inl rfl)) bJ))) (ao (bS (aQ (oh (K:=K)) (pv 9) (pv 1) rfl) (ao (uZ (cY (pv 5) rfl) (pv 9) r8 (aG aY (pv 7) (pv 8)) Dl set_list))
   aZ))))))
  (ao (aH (pv 5)))))))),?_⟩
  have sl:=sizeLine_eq
  obtain⟨dx,m,CU,BD⟩:=id hb
  obtain⟨v,ev,rv⟩:=rl.at (d:=zH ws) (i:=p) (by rw[YQ,ew];rfl)
  obtain⟨wv,us,rfl,EX,ru⟩:=aS.mp rv
  have CP:=bx ev
  have lu:=ru.length
  rw[YL] at lu
  have w3:=eO.1
  have lS:=Vt.len
  obtain⟨d0,d1⟩:=eO.tt
  have bd:Bt 4 (Dg.tt ws):=Bt.of 9 (by omega) (by omega)
  have Vc:fK (S.1.map V.int) (p:Int)=some (.int (S.1.getD p 0)):=by have:=dS (ns:=S.1) (i:=(p:Int)) (by omega) (by omega);rwa [YX] at this
  have Si:Bt (5*i+1) (S.1.getD p 0):=Vt.zB p
  have K7:∀t∈S.1,Bt 4000 t:=λt ht=>by
   obtain⟨j,hj,rfl⟩:=List.getElem_of_mem ht
   have:=Vt.zB j
   rw[YV,YM hj] at this
   exact Bt.mono this (by omega)
  generalize hC:S.1.getD p 0=C at *
  change tSeq _ _ _ _ _
  refine aT (λσ' H1=>∃co,ar H H1/\H1 co=some (.lst [.int C])/\σ'=[some (.ref bk),some (.ref pt),some (.ref wl),some (.ref co),none,none,none,none,none,none]) ?_ (λN hN=>?_)
  case refine_2=>
   simp_all only[]
   refine⟨⟨_,aR.of hp⟩,?_⟩
   have S':Src (tT K pt) (ar H) [C].length (λi x H H3=>H3=H/\[V.int (p:Int)][i]?=some x):=src_list (K:=K) (a:=pt) (xs:=[V.int (p:Int)]) (Ok:=ar H) (λH2 s2=>aR.of (s2 _ _ hp))
   refine cZ [C] (λv=>some v) S' (λ_ _ _ _ h=>h.1) (by show 1<=sizeLine;decide) ?_ ?_
   ·rintro i v x ev ⟨_,ex⟩ Y N y1 _
    have i0:i=0:=by have:=(List.getElem?_eq_some_iff.mp ev).1;have:i<1:=this;omega
    subst i0
    cases ev
    cases ex
    simp_all only[fk,iR]
    exact⟨_,_,_,CU,T.bF,T.na_Book_tops,_,hG,_,rfl,_,BD,_,Vc,y1 _ rfl⟩
   ·intro D n1 n2
    exact hN _ _ ⟨D,ah n2,ag,rfl⟩
  rintro _ H1 ⟨co,s1,IS,rfl⟩
  change tSeq _ _ _ _ _
  refine aT (λσ' H2=>H1=H2/\C≠0/\σ'=[some (.ref bk),some (.ref pt),some (.ref wl),some (.ref co),none,none,none,none,none,none]) ?_ (λN hN=>?_)
  case refine_2=>
   simp_all only[]
   refine⟨[C],aR.of IS,?_⟩
   by_cases c0:C=0
   ·rw[if_pos (by rw[c0];rfl)]
    exact kk bk H1 s1 (by unfold Dg.nH;rw[hC,if_pos c0];exact hb.mono s1)
   ·rw[if_neg (by simp [c0])]
    exact hN _ _ ⟨rfl,c0,rfl⟩
  rintro _ _ ⟨rfl,c0,rfl⟩
  have kk:∀x H',ar H H'->qz aq H' x (Dg.addW C ws ((S.1.map (·*Dg.tt ws)).set p (C*Dg.tt ws)),S.2*Dg.tt ws)->Q (.ref x) H':=λx H' s' h'=>kk x H' s' (by unfold Dg.nH;rw[hC,if_neg c0];exact h')
  change tSeq _ _ _ _ _
  refine aT (λσ' H3=>∃u q,ar H1 H3/\H3 u=some (.tup [.ref q,.int (Dg.tt ws)])/\H3 q=some (.lst [.int C])/\σ'=[some (.ref bk),some (.ref pt),some (.ref wl),some (.ref co),some (.ref u),none,none,none,none,none]) ?_ (λN hN=>?_)
  case refine_2=>
   simp_all only[sQ,sO,z0]
   exact⟨p,s1 _ _ hp,_,s1 _ _ hw,_,rl.mono s1,ws,ew,w3,off,λr2 t2 H3 s3 h3 h4=>⟨_,h3,_,h4,λr5 t5 H5 s5 h5 Vd=>⟨_,h5,_,Vd,_,(s3.trans s5) _ _ IS,by omega,λu q H4 s4 h5 h6=>hN _ _ ⟨u,q,s3.trans (s5.trans s4),h5,h6,rfl⟩⟩⟩⟩
  rintro _ H3 ⟨u,q,s3,hu,hq,rfl⟩
  have uU:=s1.trans s3
  change tSeq _ _ _ _ _
  refine aT (λσ' H4=>∃y dy m',ar H3 H4/\H3 y=none/\H3 m'=none/\H4 y=some (.ins aq dy [("tops",.ref m'),("bottom",.int (S.2*Dg.tt ws))])/\H4 m'=some (.lst ((S.1.map (·*Dg.tt ws)).map V.int))/\σ'=[some (.ref bk),some (.ref pt),some (.ref wl),some (.ref co),some (.ref u),some (.ref y),none,none,none,none]) ?_ (λN hN=>?_)
  case refine_2=>
   simp_all only[jV,hu]
   refine⟨_,_,uU _ _ CU,CQ,bk,S,_,rfl,⟨_,_,uU _ _ CU,uU _ _ BD⟩,bd.mono (by decide),Vt.bb.mono (by omega),K7,by omega,λy dy m' H4 s4 ny nm hy hm=>hN _ _ ⟨y,dy,m',s4,ny,nm,hy,hm,rfl⟩⟩
  rintro _ H4 ⟨y,dy,m',s4,ny,Jr,hy,AD,rfl⟩
  have lm:((S.1.map (·*Dg.tt ws)).set p (C*Dg.tt ws)).length=n:=by rw[Y5,YL];exact lS
  change tSeq _ _ _ _ _
  refine aT (λσ' H5=>ar H3 H5/\H5 y=some (.ins aq dy [("tops",.ref m'),("bottom",.int (S.2*Dg.tt ws))])/\H5 m'=some (.lst ((Dg.addW C ws ((S.1.map (·*Dg.tt ws)).set p (C*Dg.tt ws))).map V.int))/\∃z6 z7 z8 z9,σ'=[some (.ref bk),some (.ref pt),some (.ref wl),some (.ref co),some (.ref u),some (.ref y),z6,z7,z8,z9]) ?_ (λN hN=>?_)
  case refine_2=>
   simp_all only[s4 _ _ hu]
   refine⟨⟨_,aR.of (s4 _ _ (uU _ _ hp))⟩,⟨_,aR.of (s4 _ _ hq)⟩,bu (lE (K:=K) (Ok:=ar H3) (λH' s=>aR.of (s _ _ (uU _ _ hp))) (λH' s=>aR.of (s _ _ hq))) (λj σ H5=>ar H3 H5/\H5 y=some (.ins aq dy [("tops",.ref m'),("bottom",.int (S.2*Dg.tt ws))])/\H5 m'=some (.lst ((if j=0 then S.1.map (·*Dg.tt ws) else Dg.addW C ws ((S.1.map (·*Dg.tt ws)).set p (C*Dg.tt ws))).map V.int))/\∃z6 z7 z8 z9,σ=[some (.ref bk),some (.ref pt),some (.ref wl),some (.ref co),some (.ref u),some (.ref y),z6,z7,z8,z9]) ⟨s4,hy,AD,_,_,_,_,rfl⟩ (λ_ _ _ _ h=>h.1) ?_ ?_⟩
   ·rintro j v0 σ H5 H6 hj ⟨s5,tD,uS,z6,z7,z8,z9,rfl⟩ ⟨t,x1,x2,nt,rfl,e1,e2,rfl⟩
    have j0:j=0:=by have:j<1:=hj;omega
    subst j0
    cases e1
    cases e2
    refine⟨t,_,rfl,dH.of ag,rfl,?_⟩
    have s6:=ah (o:=.tup [.int (p:Int),.int C]) nt
    generalize upd H5 t (.tup [.int (p:Int),.int C])=H6 at *
    rw[if_pos rfl] at uS
    have ym:y≠m':=λz=>by rw[z,uS] at tD;cases tD
    have Hb:=s5.trans s6
    have Sj:=uU.trans Hb
    simp_all only[iR,uN]
    refine⟨_,Sj _ _ hw,_,CP,wv,rfl,ws,rv.mono Sj,w3,λH7 s7=>⟨Si.cV bd (by omega),?_⟩⟩
    have Ve:=Hb.trans s7
    have Vf:p< ((S.1.map (·*Dg.tt ws)).map V.int).length:=by rw[YL,YL];omega
    refine⟨_,_,_,(s6.trans s7) _ _ tD,T.bF,T.na_Book_tops,_,hG,_,rfl,_,(s6.trans s7) _ _ uS,p,de Vf,?_⟩
    rw[<-List.map_set]
    have s8:ar H3 (upd H7 m' (.lst (((S.1.map (·*Dg.tt ws)).set p (C*Dg.tt ws)).map V.int))):=aO Ve Jr
    have Vg:upd H7 m' (.lst (((S.1.map (·*Dg.tt ws)).set p (C*Dg.tt ws)).map V.int)) m'=some (.lst (((S.1.map (·*Dg.tt ws)).set p (C*Dg.tt ws)).map V.int)):=ag
    have Vh:upd H7 m' (.lst (((S.1.map (·*Dg.tt ws)).set p (C*Dg.tt ws)).map V.int)) y=some (.ins aq dy [("tops",.ref m'),("bottom",.int (S.2*Dg.tt ws))]):=by rw[ax ym];exact(s6.trans s7) _ _ tD
    generalize upd H7 m' (.lst (((S.1.map (·*Dg.tt ws)).set p (C*Dg.tt ws)).map V.int))=H8 at *
    have Hs:=uU _ _ EX
    refine⟨_,(uU.trans s8) _ _ hw,_,CP,wv,rfl,⟨_,aR.of (s8 _ _ Hs)⟩,bu (src_list (K:=K) (a:=wv) (xs:=us) (Ok:=ar H3) (λH2 K3=>aR.of (K3 _ _ Hs))) (λj σ H9=>ar H3 H9/\H9 y=some (.ins aq dy [("tops",.ref m'),("bottom",.int (S.2*Dg.tt ws))])/\H9 m'=some (.lst ((Dg.addW C (ws.take j) ((S.1.map (·*Dg.tt ws)).set p (C*Dg.tt ws))).map V.int))/\∃z8 z9,σ=[some (.ref bk),some (.ref pt),some (.ref wl),some (.ref co),some (.ref u),some (.ref y),some (.int (p:Int)),some (.int C),z8,z9]) ⟨s8,Vh,Vg,_,_,rfl⟩ (λ_ _ _ _ h=>h.1) ?_ ?_⟩
    ·rintro j y0 σ HA HB hj ⟨sA,Fw,Fx,z8,z9,rfl⟩ ⟨rfl,ey⟩
     have ej:ws[j]?=some ws[j]:=YM (by omega)
     obtain⟨t,et,ht⟩:=cI (ru.mono (uU.trans sA)) ej
     rw[ey] at et
     cases et
     refine⟨t,_,rfl,dH.of ht,rfl,?_⟩
     have mj:ws[j]∈ws:=Zc (show j<ws.length by omega)
     obtain⟨x1,x2,x3,x4⟩:=eO.2 _ mj
     have K8:=off _ mj
     have la:(Dg.addW C (ws.take j) ((S.1.map (·*Dg.tt ws)).set p (C*Dg.tt ws))).length=n:=by rw[Dg.nF];exact lm
     have sn:Dg.addW C (ws.take (j+1)) ((S.1.map (·*Dg.tt ws)).set p (C*Dg.tt ws))=(Dg.addW C (ws.take j) ((S.1.map (·*Dg.tt ws)).set p (C*Dg.tt ws))).set (ws[j]).2.toNat ((Dg.addW C (ws.take j) ((S.1.map (·*Dg.tt ws)).set p (C*Dg.tt ws))).getD (ws[j]).2.toNat 0+C* (ws[j]).1):=by
      rw[Za,ej]
      exact Dg.pF C ws[j] (ws.take j) _
     rw[sn]
     generalize Dg.addW C (ws.take j) ((S.1.map (·*Dg.tt ws)).set p (C*Dg.tt ws))=A0 at *
     have Vi:fK (A0.map V.int) (ws[j]).2=some (.int (A0.getD (ws[j]).2.toNat 0)):=dS x3 (by omega)
     simp_all only[iR,Ci,JL,JR]
     have ni:F8 (V.int (ws[j]).2) [V.int (p:Int)]=false:=by
      unfold F8
      simp only[List.any_cons,List.any_nil,Bool.or_false,wL,beq_eq_false_iff_ne]
      exact Ne.symm K8
     have ym:y≠m':=λz=>by rw[z,Fx] at Fw;cases Fw
     have ix:wK (A0.map V.int).length (ws[j]).2=some (ws[j]).2.toNat:=by
      have:=de (n:=(A0.map V.int).length) (i:=(ws[j]).2.toNat) (by rw[YL];omega)
      rwa [Int.toNat_of_nonneg x3] at this
     refine⟨_,.inl (aR.of ((uU.trans sA) _ _ hp)),rfl,rfl,?_⟩
     rw[ni,if_pos (by rfl)]
     refine⟨_,_,_,Fw,T.bF,T.na_Book_tops,_,hG,_,rfl,_,Fx,_,Vi,Si.cV (Bt.of (n:=2) 3 (by omega) (by omega)) (by omega),_,rfl,_,rfl,_,Fx,_,ix,aO sA Jr,by rw[ax ym];exact Fw,?_,_,rfl⟩
     rw[ag,List.map_set]
    ·rintro σ HA ⟨sA,Fw,Fx,z8,z9,rfl⟩
     rw[Y6 (by omega)] at Fx
     exact⟨sA,Fw,Fx,_,_,_,_,rfl⟩
   ·rintro σ H5 ⟨s5,tD,uS,z6,z7,z8,z9,rfl⟩
    exact hN _ _ ⟨s5,tD,uS,_,_,_,_,rfl⟩
  rintro _ H5 ⟨s5,tD,uS,z6,z7,z8,z9,rfl⟩
  simp_all only[]
  exact kk y H5 (uU.trans s5) ⟨dy,m',tD,uS⟩
theorem pI:aI ["board","picks","start","found","ways","book","part"] ["board","picks","start"] (ab (top 43)):=⟨rfl,rfl,rfl,by decide +kernel,rfl,by decide +kernel,by decide +kernel⟩
theorem Ht (T:Txt K mg aq tc) (LB:mS base mg tc tp):bN P w K mg base (bC P w) 7 "visits" ["board","picks","start"] (G6 tp):=by
 have dD:bN P w K mg base (bC P w) 6 "checked_parts" ["board"] (sP tp):=zV T LB
 have cK:bN P w K mg base (bC P w) 2 "all_weighted_ways" ["board","picks"] zJ:=CO T
 have oH:bN P w K mg base (bC P w) 4 "with_visits" ["book","part","ways"] (EI aq):=Hr T
 have iC:mP P w K mg base (bC P w) 1 "Book" aq ["self","tops","bottom"] (zL aq):=wa T
 have dc:i7 P w K mg base (bC P w) 3 aq "as_shares" ["self"] (ED aq):=CT T
 refine T.zk.dZ (λ_ _ _ _ _ _=>sG λ_ _ _=>rfl) λf fd F=>F.d4 pI (λvs H Q E h=>?_) (λb9 A outer s H vs Q E hr h=>?_)
 ·obtain⟨_,_,_,_,_,_,rfl,_⟩:=h;rfl
 ·obtain⟨a,c,st,b,rk,ks,rfl,rb,B,hc,lk,pk,j8,hst,kk⟩:=h
  have nd:=pI.nd
  refine⟨_,(ae (ay (i:=3) nd rfl (Or.inl rfl) (aB dD (hr.mono (by decide)) rfl au.pass (aa (pv 0) af (se rfl)) (he:=se rfl) (hpl:=na rfl)))
  (ae (ay (i:=4) nd rfl (Or.inl rfl) (aB cK (hr.mono (by decide)) rfl au.pass (aa (pv 0) (aa (pv 1) af (se rfl)) (se rfl)) (he:=se rfl) (hpl:=na rfl)))
  (ae (ay (i:=5) nd rfl (Or.inl rfl) (vD iC (hr.mono (by decide)) rfl au.pass (aa (aG uj (cU (aa aj af (se rfl))) (aL bp (by rfl) T.z_len Y7 (aa (pv 0) af (se rfl)) (he:=se rfl) (hpl:=na rfl))) (aa aj af (se rfl)) (se rfl)) (he:=se rfl) (hpl:=na rfl)))
  (ae (dB aj (dA (cY (pv 5) rfl) (pv 2) set_list))
  (ae (bL PassesOwn.never rfl (qm (K:=K) rfl T.z_reversed (aa (pv 3) af (se rfl))) (aw (i:=6) nd rfl (Or.inl rfl)) (ao (ay (i:=5) nd rfl (Or.inl rfl) (aB oH (hr.mono (by decide)) rfl au.pass (aa (pv 5) (aa (pv 6) (aa (pv 4) af (se rfl)) (se rfl)) (se rfl)) (he:=se rfl) (hpl:=na rfl)))))
  (ao (aH (ze dc T.bF (pv 5) (hr.mono (by decide)) au.pass)))))))),?_⟩
  have bl:=B.len
  have sl:=sizeLine_eq
  obtain⟨_,xb,e,ha,CW⟩:=aS.mp rb
  cases e
  have lx:=CW.length
  rw[YL] at lx
  change tSeq _ _ _ _ _
  refine aT (λσ' H1=>∃l ps as,Pr.Told b ps/\ar H H1/\H1 l=some (.lst (List.map V.ref as))/\Al (λp v=>∃x,v=.ref x/\H1 x=some (.lst [.int p])) ps (as.map V.ref)/\σ'=[some (.ref a),some (.ref c),some (.int (st:Int)),some (.ref l),none,none,none]) ?_ (λN hN=>?_)
  case refine_2=>
   simp_all only[sP]
   exact⟨b,rb,rk,B,j8,λl ps as H1 td s1 nl hl al=>hN _ _ ⟨l,ps,as,td,s1,hl,al,rfl⟩⟩
  rintro _ H1 ⟨l,ps,as,td,s1,hl,al,rfl⟩
  change tSeq _ _ _ _ _
  refine aT (λσ' H2=>∃wl xs,ar H1 H2/\H2 wl=some (.lst xs)/\bq H2 ((oC b ks).map zH) xs/\σ'=[some (.ref a),some (.ref c),some (.int (st:Int)),some (.ref l),some (.ref wl),none,none]) ?_ (λN hN=>?_)
  case refine_2=>
   simp_all only[zJ]
   exact⟨b,rb.mono s1,bl,ks,s1 _ _ hc,lk,pk,λwl xs H2 s2 nw hw nY=>hN _ _ ⟨wl,xs,s2,hw,nY.mono gP,rfl⟩⟩
  rintro _ H2 ⟨wl,xs,s2,hw,rl,rfl⟩
  have xu:=s1.trans s2
  change tSeq _ _ _ _ _
  refine aT (λσ' H3=>∃y dy m,ar H2 H3/\H2 m=none/\H3 y=some (.ins aq dy [("tops",.ref m),("bottom",.int 1)])/\H3 m=some (.lst ((List.replicate b.length 0).map V.int))/\σ'=[some (.ref a),some (.ref c),some (.int (st:Int)),some (.ref l),some (.ref wl),some (.ref y),none]) ?_ (λN hN=>?_)
  case refine_2=>
   simp_all only[oN,A2]
   refine⟨by decide,λz nz=>?_⟩
   have s3:=ah (o:=.lst [V.int 0]) nz
   have hz:upd H2 z (.lst [V.int 0]) z=some (.lst [V.int 0]):=ag
   generalize upd H2 z (.lst [V.int 0])=H3 at *
   refine⟨_,(xu.trans s3) _ _ ha,_,hz,by omega,by omega,by rw[YX];show 1*xb.length<=_;omega,λD nD=>?_⟩
   rw[YX,List.flatten_replicate_singleton,<-lx] at *
   have s4:=s3.trans (ah (o:=.lst (List.replicate b.length (V.int 0))) nD)
   have hD:upd H3 D (.lst (List.replicate b.length (V.int 0))) D=some (.lst ((List.replicate b.length 0).map V.int)):=by rw[ag,List.map_replicate]
   generalize upd H3 D (.lst (List.replicate b.length (V.int 0)))=H4 at *
   intro y dy ny CS ne
   have s5:=s4.trans (ah (o:=.own y) CS)
   have EY:=ah (o:=.own y) CS _ _ hD
   have xD:D≠y:=λz=>by rw[z,ny] at hD;cases hD
   refine⟨y,dy,D,_,_,rfl,ag,by rw[ax xD];exact EY,λm' H' nm AD jA ky=>⟨rfl,hN _ _ ⟨y,dy,m',λz o hz=>?_,?_,jA,AD,rfl⟩⟩⟩
   ·have yx:z≠y:=λe=>by have:=s4 _ _ hz;rw[e,ny] at this;cases this
    exact ky z o yx (by rw[ax yx];exact s5 _ _ hz)
   ·have my:m'≠y:=λe=>by rw[e,ag] at nm;cases nm
    rw[ax my] at nm
    exact none_of s5 nm
  rintro _ H3 ⟨y,dy,m,s3,nm,hy,hm,rfl⟩
  have ym:y≠m:=λz=>by rw[z,hm] at hy;cases hy
  change tSeq _ _ _ _ _
  refine aT (λσ' H4=>ar H2 H4/\qz aq H4 y ((List.replicate b.length (0:Int)).set st 1,1)/\σ'=[some (.ref a),some (.ref c),some (.int (st:Int)),some (.ref l),some (.ref wl),some (.ref y),none]) ?_ (λN hN=>?_)
  case refine_2=>
   simp_all only[iR]
   refine⟨_,_,_,hy,T.bF,T.na_Book_tops,_,hG,_,rfl,_,hm,st,de (by rw[YL,ZD];exact hst),hN _ _ ⟨aO s3 nm,⟨dy,m,by rw[ax ym];exact hy,?_⟩,rfl⟩⟩
   rw[ag,List.map_set]
  rintro _ H4 ⟨s4,hb,rfl⟩
  have lp:=sS B td
  have la:=al.length
  rw[YL] at la
  have f0:∀q:Int,0<=q->Dg.val ((List.replicate b.length (0:Int)).set st 1,1) q=if q=(st:Int) then 1 else 0:=λq q0=>by
   show(((List.replicate b.length (0:Int)).set st 1).getD q.toNat 0:Rat) / ((1:Int):Rat)=_
   by_cases e:q=(st:Int)
   ·rw[if_pos e,e,YX,Dg.cR (by rw[ZD];exact hst)]
    exact Dg.RZ
   ·rw[if_neg e,Dg.cQ (by omega),YV,ZZ]
    split <;>exact Dg.KN
  change tSeq _ _ _ _ _
  refine aT (λσ' H5=>ar H2 H5/\∃bk S z,qz aq H5 bk S/\Dg.zC b.length b.length S/\Dg.Runs (oE b ks) ps.reverse (λq=>if q=(st:Int) then 1 else 0) (Dg.val S)/\σ'=[some (.ref a),some (.ref c),some (.int (st:Int)),some (.ref l),some (.ref wl),some (.ref bk),z]) ?_ (λN hN=>?_)
  case refine_2=>
   simp_all only[zb]
   have xH:=s2.trans s4
   refine⟨_,aR.of (xH _ _ hl),bu (BC (K:=K) (a:=l) (xs:=as.map V.ref) (Ok:=ar H2) (λH' s=>aR.of ((s2.trans s) _ _ hl))) (λi σ H5=>ar H2 H5/\∃bk S z,qz aq H5 bk S/\Dg.zC b.length i S/\Dg.Runs (oE b ks) (ps.reverse.take i) (λq=>if q=(st:Int) then 1 else 0) (Dg.val S)/\σ=[some (.ref a),some (.ref c),some (.int (st:Int)),some (.ref l),some (.ref wl),some (.ref bk),z]) ⟨s4,y,_,_,hb,Dg.zC.start,f0,rfl⟩ (λ_ _ _ _ h=>h.1) ?_ ?_⟩
   ·rintro i v σ H5 H6 hi ⟨s5,bk,S,z,Aa,Vt,rn,rfl⟩ ⟨rfl,ex⟩
    rw[YL] at hi
    obtain⟨p',ju,x,rfl,hx⟩:=al.reverse.get ex
    have Jl:i<ps.length:=by omega
    rw[List.getElem?_reverse Jl] at ju
    obtain⟨p,ep,hp⟩:=lK B td (i:=ps.length - 1 - i) (by omega)
    rw[ep] at ju
    cases ju
    have e:b[p]?=some b[p]:=YM hp
    have ek:ks[p]?=some ks[p]:=YM (by omega)
    have po:=pk _ _ _ e ek
    obtain⟨eO,_⟩:=d8 (B.ok _ (Zc hp)) po
    simp_all only[EI]
    refine⟨S,Aa,p,(s2.trans s5) _ _ hx,b.length,i,xs,s5 _ _ hw,oC b ks,rl.mono s5,_,uO e ek,eO,B.off e po,Vt,by omega,bl,hp,λx2 H7 s7 h7=>⟨s5.trans s7,x2,_,h7,Vt.step eO,?_,rfl,_,rfl⟩⟩
    rw[Za,List.getElem?_reverse Jl,ep]
    refine rn.snoc (by omega) λq q0=>?_
    rw[je e ek]
    exact Dg.xr Vt.pos Vt.len hp eO q0
   ·rintro σ H5 ⟨s5,bk,S,z,Aa,Vt,rn,rfl⟩
    rw[YL,la,lp] at Vt rn
    rw[Y6 (by rw[ZP];omega)] at rn
    exact hN _ _ ⟨s5,bk,S,z,Aa,Vt,rn,rfl⟩
  rintro _ H5 ⟨s5,bk,S,z,Aa,Vt,rn,rfl⟩
  simp_all only[jV]
  obtain⟨dx,m',hx,AD⟩:=id Aa
  have V0:=Vt.pos
  have bB:Bt 4000 S.2:=Vt.bb.mono (by omega)
  have pm:=(B.dn.pm td)
  have Sk:=pG B td lk pk b.length (YO _)
  rw[Y6 (by omega)] at Sk
  refine⟨_,_,hx,CV,bk,S,rfl,Aa,V0,bB.mono (by decide),by rw[Vt.len];exact bl,λl6 H6 s6 n6 r6=>kk l6 _ ps.reverse H6 (xu.trans (s5.trans s6)) (none_of (xu.trans s5) n6) r6 (by rw[YL];exact Vt.len) (λx hx=>?_) ((List.reverse_perm ps).trans pm) Sk (rn.congr λq q0=>?_)⟩
  ·obtain⟨t,_,rfl⟩:=List.mem_map.mp hx
   exact zQ V0 bB
  ·by_cases c:q.toNat<S.1.length
   ·exact qA V0 q c
   ·unfold Wq.d3 Dg.val
    rw[YV,YV,Y1 (by rw[YL];omega),Y1 (by omega)]
    show((0:Int):Rat) / ((1:Int):Rat)=((0:Int):Rat) / _
    grind
theorem Hu {s:List Nat} {b:List Pl} (pm:s.Perm (List.range s.length)) (l0:0<s.length) (K9:s.length<=60) (lb:b.length=s.length) (ok:∀(k:Nat) p q,s[k]?=some p->b[p]?=some q->uP s k q):tO b (λg=>s.idxOf g.toNat):=by
 have at_:∀{q:Pl},q∈b->∃k p,s[k]?=some p/\b[p]?=some q:=λhq=>by
  obtain⟨p,ep⟩:=Y4 hq
  have hp:=(List.getElem?_eq_some_iff.mp ep).1
  obtain⟨k,ek⟩:=Y4 (pm.mem_iff.mpr (List.mem_range.mpr (by omega:p<s.length)))
  exact⟨k,p,ek,ep⟩
 have Js:∀q∈b,CJ b.length q:=λq hq=>by
  obtain⟨k,p,ek,ep⟩:=at_ hq
  rw[lb]
  exact(ok k p q ek ep).1
 refine⟨by omega,by omega,Js,⟨⟨λq hq g hg=>?_,λq hq w to e=>?_⟩,λi q e g hg=>?_,λq hq g ws e=>?_⟩⟩
 ·have:=Js q hq
  cases q with
  | fin w=>simp [Lv.fb] at hg
  | gz w ws=>
   obtain⟨x,hx,rfl⟩:=List.mem_map.mp hg
   exact(this.2.2.2 x hx).2.2
  | ft w to=>exact this.2.2.2 g hg
 ·subst e
  have:=(Js _ hq).2.1
  exact λz=>by rw[z] at this;cases this
 ·have hi:=(List.getElem?_eq_some_iff.mp e).1
  obtain⟨k,ek⟩:=Y4 (pm.mem_iff.mpr (List.mem_range.mpr (by omega:i<s.length)))
  obtain⟨j,jk,ej,_⟩:=(ok k i q ek e).2 g hg
  show s.idxOf g.toNat<s.idxOf ((i:Int)).toNat
  rw[YX,Lv.yO pm ej,Lv.yO pm ek]
  exact jk
 ·subst e
  have:=(Js _ hq).2.1
  exact λz=>by rw[z] at this;cases this
theorem wb {s:List Nat} {b:List Pl} {ks:List (Option Int)} (pm:s.Perm (List.range s.length)) (ok:∀(k:Nat) p q,s[k]?=some p->b[p]?=some q->uP s k q) (pk:∀(i:Nat) q k,b[i]?=some q->ks[i]?=some k->qy q k) {i j p p':Nat} (h:s[i]?=some p) (h':s[j]?=some p') (le:j<=i) {q':Pl} {k':Option Int} (e:b[p']?=some q') (ek:ks[p']?=some k'):∀x∈gX q' k',x.2≠(p:Int):=λx hx z=>by
 obtain⟨w1,w2⟩:=ok j p' q' h' e
 obtain⟨j',lt,ej,_⟩:=w2 _ ((d8 w1 (pk _ _ _ e ek)).2 x hx)
 rw[z,YX] at ej
 have:=Lv.jL pm ej h
 omega
theorem Hv {L W M w:Int} {y:Wq.Sh} (hy:0<y.2) (L0:0<L) (W0:0<W) (dy:y.2∣L) (w0:0<=w) (w1:w<=W) (M0:0<=M) (v:Wq.Vb M y):Wq.Vb M (Wq.tm (Wq.low w W) y):=by
 obtain⟨t1,t2,t3⟩:=Wq.CF (w:=w) hy L0 W0 dy
 refine(Wq.sj t1.1 (Y9 L0 W0) t2).mpr ?_
 obtain⟨c1,c2⟩:=(Wq.sj hy L0 dy).mp v
 have ml:0<=M*L:=Int.mul_nonneg M0 (by omega)
 have m1:=Int.mul_le_mul_of_nonneg_left c1 w0
 have m2:=Int.mul_le_mul_of_nonneg_left c2 w0
 have m3:=Z3 w1 ml
 rw[Int.mul_neg] at m1
 have e:M* (L*W)=W* (M*L):=by rw[<-Zu,Zr (M*L) W]
 rw[t3,e]
 omega
theorem Hw {M N:Int} {x:Wq.Sh} (h:Wq.Vb M x) (l:M<=N) (x0:0<x.2):Wq.Vb N x:=by
 have:=Z3 l (show 0<=x.2 by omega)
 unfold Wq.Vb at h ⊢
 omega
noncomputable def Sz (Z M:Int) (x:Wq.Sh):Prop:=Wq.Lw x/\x.2∣Z/\Wq.Vb M x
theorem Sz.rm {Z M:Int} {x:Wq.Sh} (h:Sz Z M x) (Z0:0<Z) (bZ:Bt 1900 Z) (M0:0<=M) (bM:Bt 1900 M):Rm x:=by
 obtain⟨lx,d,v⟩:=h
 have l0:=lx.1
 have b2:Bt 1900 x.2:=bZ.le (by have:=ZE Z0 d;omega)
 have b1:Bt 3800 (M*x.2):=bM.mul b2
 exact⟨Bt.mono (b1.le (by obtain⟨v1,v2⟩:=v;omega)) (by decide),b2.mono (by decide),l0⟩
theorem Sz.up {Z Z' M M':Int} {x:Wq.Sh} (h:Sz Z M x) (hZ:Z∣Z') (hM:M<=M'):Sz Z' M' x:=⟨h.1,Int.dvd_trans h.2.1 hZ,Hw h.2.2 hM h.1.1⟩
theorem Sz.acc {Z M N d w:Int} {x y:Wq.Sh} (hx:Sz (Z*d) N x) (hy:Sz Z M y) (Z0:0<Z) (d0:0<d) (w0:0<=w) (w1:w<=d) (M0:0<=M):Sz (Z*d) M (Wq.tm (Wq.low w d) y)/\Sz (Z*d) (N+M) (Wq.pl x (Wq.tm (Wq.low w d) y)):=by
 have Zd:0<Z*d:=Y9 Z0 d0
 obtain⟨t1,t2,t3⟩:=Wq.CF (w:=w) hy.1.1 Z0 d0 hy.2.1
 have tv:=Hv hy.1.1 Z0 d0 hy.2.1 w0 w1 M0 hy.2.2
 obtain⟨p1,p2,p3⟩:=Wq.G1 hx.1.1 t1.1 Zd hx.2.1 t2
 refine⟨⟨t1,t2,tv⟩,p1,p2,(Wq.sj p1.1 Zd p2).mpr ?_⟩
 have a1:=(Wq.sj hx.1.1 Zd hx.2.1).mp hx.2.2
 have a2:=(Wq.sj t1.1 Zd t2).mp tv
 rw[p3,Int.add_mul]
 omega
theorem Ab {w d:Int} (w0:0<=w) (w1:w<=9) (d0:0<d) (d1:d<=9):Rm (Wq.low w d):=by
 have g0:0<Nm.g w d:=Nm.mw (by omega)
 have q1:=Nm.dj (a:=w) g0 (Nm.iT w d)
 have q2:=Nm.dj (a:=d) g0 (Nm.d5 w d)
 have e1:(Wq.low w d).1=w / Nm.g w d:=(Nm.ie d0).1
 have e2:(Wq.low w d).2=d / Nm.g w d:=(Nm.ie d0).2
 have lw:=Wq.c9 (a:=w) d0
 exact⟨Bt.mono (m:=4) (Bt.of 9 (by omega) (by omega)) (by decide),Bt.mono (m:=4) (Bt.of 9 (by omega) (by omega)) (by decide),lw.1⟩
noncomputable def Sb (n i:Nat) (ss:List Wq.Sh) (Z M:Int):Prop:=ss.length=n/\0<Z/\12∣Z/\Bt (4*i+4) Z/\6<=M/\Bt (2*i+3) M/\∀x∈ss,Sz Z M x
theorem Sb.next {n i:Nat} {ss Fy:List Wq.Sh} {Z M d:Int} (h:Sb n i ss Z M) (d0:1<=d) (d1:d<=9) (l:Fy.length=n) (hs:∀x∈Fy,Sz (Z*d) (4*M) x):Sb n (i+1) Fy (Z*d) (4*M):=by
 obtain⟨h1,h2,h3,h4,h5,h6,h7⟩:=h
 refine⟨l,Y9 h2 (by omega),Int.dvd_trans h3 (Int.dvd_mul_right _ _),?_,by omega,?_,hs⟩
 ·have:=Dg.Bt.zA h4 d0 d1
  rw[show 4* (i+1)+4=4*i+4+4 by omega]
  exact this
 ·unfold Bt at h6 ⊢
  have:2^ (2* (i+1)+3)=2^ (2*i+3)*4:=by rw[show 2* (i+1)+3=2*i+3+2 by omega,Nat.pow_add]
  omega
theorem nP {ss:List Wq.Sh} {p:Nat} {x:Wq.Sh} (h:p<ss.length):Wq.d3 (ss.set p x) (p:Int)=x:=by
 unfold Wq.d3
 rw[YX,YV,Zv h]
 rfl
theorem fJ {ss:List Wq.Sh} {p:Nat} {q:Int} {x:Wq.Sh} (h:p≠q.toNat):Wq.d3 (ss.set p x) q=Wq.d3 ss q:=by
 unfold Wq.d3
 rw[YV,YV,Zm h]
theorem gJ {ss:List Wq.Sh} {q:Int} (h0:0<=q) (h:q< (ss.length:Int)):ss[q.toNat]?=some (Wq.d3 ss q):=by
 unfold Wq.d3
 rw[YV,YM (show q.toNat<ss.length by omega)]
 rfl
theorem set_same {α:Type} {ss:List α} {p:Nat} {x:α} (h:ss[p]?=some x):ss.set p x=ss:=by
 apply ZO
 intro i
 by_cases c:p=i
 ·subst c
  rw[Zv (List.getElem?_eq_some_iff.mp h).1,h]
 ·rw[Zm c]
theorem B8 {ss:List Wq.Sh} (h:∀x∈ss,0<x.2) (q:Int):0< (Wq.d3 ss q).2:=by
 unfold Wq.d3
 rw[YV]
 cases e:ss[q.toNat]? with
 | none=>exact Int.one_pos
 | some x=>exact h x (YN e)
theorem Ac {b:List Pl} {rk:Int->Nat} {ks:List (Option Int)} {ss:List Wq.Sh} {p:Nat} {q:Pl} {k:Option Int} (B:tO b rk) (e:b[p]?=some q) (ek:ks[p]?=some k) (po:qy q k) (l:p<ss.length) (h:∀x∈ss,0<x.2):
  EqAt b ks p λi=>Dg.vl (Wq.d3 (ss.set p (Wq.mV (Dg.tt (gX q k)) (Wq.d3 ss) (Wq.cu q) (gX q k))) i):=by
 intro q' k' e' AA
 rw[e] at e'
 rw[ek] at AA
 cases e'
 cases AA
 obtain⟨eO,_⟩:=d8 (B.ok _ (YN e)) po
 have d0:0<Dg.tt (gX q k):=by have:=eO.tt;omega
 show Dg.vl (Wq.d3 (ss.set p (Wq.mV (Dg.tt (gX q k)) (Wq.d3 ss) (Wq.cu q) (gX q k))) (p:Int))=_
 rw[nP l,(Dg.vR d0 (gY (B.ok _ (YN e))).2.2.2.1 λx _=>B8 h _).2]
 congr 1
 refine Dg.cO λx hx=>?_
 have:=B.off e po x hx
 have:=(eO.2 x hx).2.2.1
 rw[fJ (by omega)]
theorem xy {b:List Pl} {ks:List (Option Int)} {ss:List Wq.Sh} {p p':Nat} {x:Wq.Sh} (ne:p≠p') (h:EqAt b ks p' λi=>Dg.vl (Wq.d3 ss i)) (off:∀q k,b[p']?=some q->ks[p']?=some k->∀y∈gX q k,0<=y.2/\y.2≠(p:Int)):EqAt b ks p' λi=>Dg.vl (Wq.d3 (ss.set p x) i):=by
 intro q k e ek
 show Dg.vl (Wq.d3 (ss.set p x) (p':Int))=_
 rw[fJ (by omega)]
 rw[show Dg.vl (Wq.d3 ss (p':Int))=_ from h q k e ek]
 congr 1
 refine Dg.cO λy hy=>?_
 have:=off q k e ek y hy
 rw[fJ (by omega)]
theorem jl:aI ["_law_script","_law_k","_law_number"] ["_law_script","_law_k"] (ab (top 45)):=⟨rfl,rfl,rfl,by decide +kernel,rfl,by decide +kernel,by decide +kernel⟩
theorem wc (T:Txt K mg aq tc):bN P w K mg base (bC P w) 1 "_law_cell" ["_law_script","_law_k"] (CK K):=by
 refine T.sx.dZ (λ_ _ _ _ _ _=>dN λ_ _=>rfl) λf fd F=>F.d4 jl (λvs H Q E h=>?_) (λb9 A outer s H vs Q E hr h=>?_)
 ·obtain⟨_,_,_,rfl,_⟩:=h;rfl
 ·obtain⟨a,ns,k,rfl,hS,k0,k1,kk⟩:=h
  have nd:=jl.nd
  refine⟨_,(ae (bS (aQ qQ (pv 1) (aL (il (K:=K)) (by rfl) T.z_len Y7 (aa (pv 0) af (se rfl)) (he:=se rfl) (hpl:=na rfl)) (aW _)) (ao (aH (aA (o4 (K:=K)) (pv 0) (pv 1) (λ_ _=>rfl))))
   aZ)
  (ae (ay (i:=2) nd rfl (Or.inl rfl) (aG bT (aG aY (pv 1) aj) aj))
  (ae (bS (aQ iP (aL (il (K:=K)) (by rfl) T.z_len Y7 (aa (pv 0) af (se rfl)) (he:=se rfl) (hpl:=na rfl)) aj (aW _)) (ao (ay (i:=2) nd rfl (Or.inl rfl) (aG bT (aG aY (aG cq (aA (o4 (K:=K)) (pv 0) (aG cq (aG aY (pv 1) aj) (aL (il (K:=K)) (by rfl) T.z_len Y7 (aa (pv 0) af (se rfl)) (he:=se rfl) (hpl:=na rfl))) (λ_ _=>rfl)) aj) aj) (aG aY (aG aY (pv 1) (pv 1)) aj))))
   aZ)
  (ao (aH (aG cq (aG aY (pv 2) (pv 2)) aj)))))),?_⟩
  simp_all only[DH]
  have j2:k*k<=1000000:=Int.le_trans (Int.mul_le_mul (show k<=1000 by omega) (show k<=1000 by omega) k0 (by decide)) (by decide)
  have j3:0<=k*k:=Int.mul_nonneg k0 k0
  refine⟨ns,hS,q9 (λc=>⟨ns,hS,k0,c,kk _⟩) (λc=>⟨gp (by omega) (by omega),ns,hS,q9 (λz=>?_) (λz=>?_)⟩)⟩
  ·have m1:=ZK (ns.getD (k*5 % (ns.length:Int)).toNat 0) (show(2147483647:Int)≠0 by decide)
   have m2:=ZX (ns.getD (k*5 % (ns.length:Int)).toNat 0) (show(0:Int)<2147483647 by decide)
   exact⟨gp (by omega) (by omega),ns,hS,z,ns,hS,ZK _ (by omega),ZX _ z,by decide,pX,gp (by omega) (by omega),gp (by omega) (by omega),gp (by omega) (by omega),by decide,kk _⟩
  ·exact⟨gp (by omega) (by omega),by decide,kk _⟩
theorem hJ:aI ["_law_cell_here","_law_many"] ["_law_cell_here","_law_many"] (ab (top 46)):=⟨rfl,rfl,rfl,by decide +kernel,rfl,by decide +kernel,by decide +kernel⟩
theorem uV (T:Txt K mg aq tc):bN P w K mg base (bC P w) 1 "_law_mixed" ["_law_cell_here","_law_many"] jf:=by
 refine T.qr.dZ (λ_ _ _ _ _ _=>dN λ_ _=>rfl) λf fd F=>F.d4 hJ (λvs H Q E h=>?_) (λb9 A outer s H vs Q E hr h=>?_)
 ·obtain⟨_,_,rfl,_⟩:=h;rfl
 ·obtain⟨c,m,rfl,m0,kk⟩:=h
  have nd:=hJ.nd
  refine⟨_,(ao (aH (aG cq (aG di (aG cq (aG aY (aG cq (pv 0) (aG pP aj aj)) aj) (aG pP aj aj)) (aG pP aj aj)) (pv 1)))),?_⟩
  simp_all only[]
  have h1:=ZK c (show((2:Int)^64)≠0 by decide)
  have h2:=ZX c (show(0:Int)<2^64 by decide)
  exact⟨by decide,by decide,by decide,by decide,gp (by omega) (by omega),by decide,by decide,by decide,by decide,by decide,by decide,by decide,eF.lit,m0,kk _ (ZK _ (by omega)) (ZX _ m0)⟩
theorem kg:aI ["_law_top","_law_bottom","_law_one","_law_other"] ["_law_top","_law_bottom"] (ab (top 47)):=⟨rfl,rfl,rfl,by decide +kernel,rfl,by decide +kernel,by decide +kernel⟩
theorem nQ (T:Txt K mg aq tc):bN P w K mg base (bC P w) 1 "_law_low" ["_law_top","_law_bottom"] gC:=by
 refine T.uJ.dZ (λ_ _ _ _ _ _=>dN λ_ _=>rfl) λf fd F=>F.d4 kg (λvs H Q E h=>?_) (λb9 A outer s H vs Q E hr h=>?_)
 ·obtain⟨_,_,rfl,_⟩:=h;rfl
 ·obtain⟨a,b,rfl,b0,bb,k⟩:=h
  have nd:=kg.nd
  refine⟨_,(ae (ay (i:=2) nd rfl (Or.inl rfl) (aL lZ (by rfl) T.z_abs rfl (aa (pv 0) af (se rfl)) (he:=se rfl) (hpl:=na rfl)))
  (ae (ay (i:=3) nd rfl (Or.inl rfl) (pv 1))
  (ae (iO PassesOwn.never (aQ iP (pv 3) aj (aW _)) (ao (Dk (i:=2) (j:=3) rfl nd rfl rfl (by decide) rfl rfl (aa (pv 3) (aa (aG cq (pv 2) (pv 3)) af (se rfl)) (se rfl)) rfl)))
  (ao (aH (bU (aa (aG di (pv 0) (pv 2)) (aa (aG di (pv 1) (pv 2)) af (se rfl)) (se rfl)))))))),?_⟩
  simp_all only[]
  refine qO (λσ H1=>H1=H/\∃x y:Int,σ=[some (.int a),some (.int b),some (.int x),some (.int y)]/\0<=x/\0<=y/\Nm.g x y=Nm.g a b) (λσ _=>match σ with | [_,_,_,some (.int y)]=>y.toNat | _=>0) ?_ ?_ ?_
  ·refine⟨rfl,_,_,rfl,?_,by omega,?_⟩
   ·split <;>omega
   ·rw[show(if a<0 then -a else a)=(a.natAbs:Int) by split <;>omega,Nm.yn]
  ·rintro σ H1 ⟨rfl,x,y,rfl,x0,y0,e⟩
   simp_all only[]
   refine q9 (λc=>?_) (λc=>?_)
   ·refine⟨c,y0,ZK _ (by omega),by rw[Nm.yo x0 c,e],?_⟩
    have:=ZX x c
    have:=ZK x (show y≠0 by omega)
    omega
   ·have z:y=0:=by omega
    subst z
    rw[Nm.yp x0] at e
    rw[e]
    have g0:0<Nm.g a b:=Nm.mw (by omega)
    have gb:Bt 8900 (Nm.g a b):=bb.le (by have:=Nm.DO (a:=a) b0;omega)
    obtain⟨e1,e2⟩:=Nm.ie (a:=a) b0
    rw[e1,e2] at k
    exact⟨eF.of g0 gb,eF.of g0 gb,by decide,λp H2 s1 n1 e=>k p H2 s1 n1 e⟩
  ·intro σ H1 Q1 Q2 hq hc
   simp only[L2.start,Pr,tRev,tLR,tMaxD,tSortR,tD1,tDPop1,tSl,tNoPart,tPart,rSlL,tDIn,tDNotIn,gSub,rSetL,tLst,tDNewK,tComp,L2.stC,tFor_eq,iList,iTup,iRng1,iRng2,iZip,iEnum,iDict,iStr,tChain,tSumV,tBM,rJoin,tJoined,jNil,jLit,jInt,jStr,tRaise,tDGet,tDGet2,tDGet1,sDPut,Option.join_some,List.getElem?_nil,tSeq,tRet,tRetN,tIfS,tTest,tB,tOp,tUn,tVar,tC,tCB,tCons,tNil,tCall,tTupS,tAsg,gName,gNil,gCons,tPar,tNext,tDrop,tAnd,tOr,tNot,tAndV,tOrV,tNotV,tIf,rI,rI0,rU,rIxTH,rIxLH,rEqT,rNeT,rInT,rEq,rNe,scal,CPow,at0,at1,at2,Y3,List.map_nil,Y8,List.length_nil,Nat.reduceSub,Nat.reduceAdd,Zo,List.replicate_zero,List.reduceReplicate,Zx,List.nil_append,List.cons_append,ZV,Z2,ZQ,ZR,Option.some.injEq,exists_eq_left',exists_eq_left,V.ref.injEq,V.int.injEq,V.bl.injEq,V.str.injEq,V.ty.injEq,HO.tup.injEq,HO.lst.injEq,List.cons.injEq,and_true,true_and,and_assoc,exists_and_left,decide_eq_true_eq,Bool.not_eq_true',decide_eq_false_iff_not,ite_true,ite_false,if_true,if_false,Int.reduceToNat,eq_self_iff_true] at hc ⊢
   obtain⟨v,e1,i,e2,q⟩:=hc
   exact⟨v,e1,i,e2,hq _ _ q⟩
theorem jm:aI ["_law_one","_law_other"] ["_law_one","_law_other"] (ab (top 48)):=⟨rfl,rfl,rfl,by decide +kernel,rfl,by decide +kernel,by decide +kernel⟩
theorem E2 (T:Txt K mg aq tc):bN P w K mg base (bC P w) 2 "_law_plus" ["_law_one","_law_other"] vY:=by
 have cj:bN P w K mg base (bC P w) 1 "_law_low" ["_law_top","_law_bottom"] gC:=nQ T
 refine T.sy.dZ (λ_ _ _ _ _ _=>dN λ_ _=>rfl) λf fd F=>F.d4 jm (λvs H Q E h=>?_) (λb9 A outer s H vs Q E hr h=>?_)
 ·obtain⟨_,_,_,_,rfl,_⟩:=h;rfl
 ·obtain⟨p,q,a,b,rfl,hp,hq,ga,gb,k⟩:=h
  have nd:=jm.nd
  refine⟨_,(ao (aH (aB cj (hr.mono (by decide)) rfl au.pass (aa (aG bT (aG aY (aA aJ (pv 0) aj (λ_ _=>rfl)) (aA aJ (pv 1) aj (λ_ _=>rfl))) (aG aY (aA aJ (pv 1) aj (λ_ _=>rfl)) (aA aJ (pv 0) aj (λ_ _=>rfl)))) (aa (aG aY (aA aJ (pv 0) aj (λ_ _=>rfl)) (aA aJ (pv 1) aj (λ_ _=>rfl))) af (se rfl)) (se rfl)) (he:=se rfl) (hpl:=na rfl)))),?_⟩
  simp only[Pr] at hp hq
  simp_all only[gC,hp,hq]
  refine⟨ga.1.cV gb.2.1,gb.1.cV ga.2.1,ga.2.1.cV gb.2.1,?_⟩
  exact⟨Y9 ga.2.2 gb.2.2,(ga.2.1.mul gb.2.1).mono (by decide),λr H' s' n' e=>k r H' s' n' e⟩
theorem hU:aI ["_law_one","_law_other"] ["_law_one","_law_other"] (ab (top 49)):=⟨rfl,rfl,rfl,by decide +kernel,rfl,by decide +kernel,by decide +kernel⟩
theorem E3 (T:Txt K mg aq tc):bN P w K mg base (bC P w) 2 "_law_times" ["_law_one","_law_other"] vZ:=by
 have cj:bN P w K mg base (bC P w) 1 "_law_low" ["_law_top","_law_bottom"] gC:=nQ T
 refine T.qt.dZ (λ_ _ _ _ _ _=>dN λ_ _=>rfl) λf fd F=>F.d4 hU (λvs H Q E h=>?_) (λb9 A outer s H vs Q E hr h=>?_)
 ·obtain⟨_,_,_,_,rfl,_⟩:=h;rfl
 ·obtain⟨p,q,a,b,rfl,hp,hq,ga,gb,k⟩:=h
  have nd:=hU.nd
  refine⟨_,(ao (aH (aB cj (hr.mono (by decide)) rfl au.pass (aa (aG aY (aA aJ (pv 0) aj (λ_ _=>rfl)) (aA aJ (pv 1) aj (λ_ _=>rfl))) (aa (aG aY (aA aJ (pv 0) aj (λ_ _=>rfl)) (aA aJ (pv 1) aj (λ_ _=>rfl))) af (se rfl)) (se rfl)) (he:=se rfl) (hpl:=na rfl)))),?_⟩
  simp only[Pr] at hp hq
  simp_all only[gC,hp,hq]
  refine⟨ga.1.cV gb.1,ga.2.1.cV gb.2.1,?_⟩
  exact⟨Y9 ga.2.2 gb.2.2,(ga.2.1.mul gb.2.1).mono (by decide),λr H' s' n' e=>k r H' s' n' e⟩
theorem eZ:aI ["_law_found","_law_number"] ["_law_found"] (ab (top 50)):=⟨rfl,rfl,rfl,by decide +kernel,rfl,by decide +kernel,by decide +kernel⟩
theorem Hx (T:Txt K mg aq tc):bN P w K mg base (bC P w) 2 "_law_is_share" ["_law_found"] EJ:=by
 have cj:bN P w K mg base (bC P w) 1 "_law_low" ["_law_top","_law_bottom"] gC:=nQ T
 refine T.kK.dZ (λ_ _ _ _ _ _=>iz λ_=>rfl) λf fd F=>F.d4 eZ (λvs H Q E h=>?_) (λb9 A outer s H vs Q E hr h=>?_)
 ·obtain⟨_,_,_,rfl,_⟩:=h;rfl
 ·obtain⟨p,x,y,rfl,hp,y0,Vj,g1,k⟩:=h
  have nd:=eZ.nd
  refine⟨_,(ae (bS (PW.pt (pw_or (lR (hX (aL (gN (K:=K)) (by rfl) T.z_isinstance rfl (aa (pv 0) (aa (kZ (v:=V.ty "tuple") rfl T.z_tuple rfl rfl) af (se rfl)) (se rfl)) (he:=se rfl) (hpl:=na rfl)))) (pw_or1 (aQ qP (aL wV (by rfl) T.z_len Y7 (aa (pv 0) af (se rfl)) (he:=se rfl) (hpl:=na rfl)) aj (aW _))))) (ao (aH uY))
   aZ)
  (ae (bL PassesOwn.never rfl (Bm (K:=K) (pv 0)) (aw (i:=1) nd rfl (Or.inl rfl)) (ao (bS (PW.pt (pw_or (lR (hX (aL (gN (K:=K)) (by rfl) T.z_isinstance rfl (aa (pv 1) (aa (kZ (v:=V.ty "int") rfl T.z_int rfl rfl) af (se rfl)) (se rfl)) (he:=se rfl) (hpl:=na rfl)))) (pw_or1 (hX (aL (gN (K:=K)) (by rfl) T.z_isinstance rfl (aa (pv 1) (aa (kZ (v:=V.ty "bool") rfl T.z_bool rfl rfl) af (se rfl)) (se rfl)) (he:=se rfl) (hpl:=na rfl)))))) (ao (aH uY))
   aZ)))
  (ao (aH (xR (iQ iP (aA aJ (pv 0) aj (λ_ _=>rfl)) aj (aW _)) (xQ (iQ (wX hr.Dt) (aB cj (hr.mono (by decide)) rfl au.pass (aa (aA aJ (pv 0) aj (λ_ _=>rfl)) (aa (aA aJ (pv 0) aj (λ_ _=>rfl)) af (se rfl)) (se rfl)) (he:=se rfl) (hpl:=na rfl)) (pv 0) (aW _)))))))),?_⟩
  simp only[Pr] at hp
  simp_all only[hp]
  refine⟨_,fX.tup hp,_,DJ,?_⟩
  rw[if_neg (by decide)]
  refine⟨⟨_,dH.of hp⟩,AO (K:=K) (a:=p) (xs:=[V.int x,V.int y]) (λi σ H2=>H2=H/\∃v,σ=[some (.ref p),v]) ⟨rfl,_,rfl⟩ (λi σ H2 _ ⟨e,_⟩=>by rw[e];exact dH.of hp) ?_ ?_⟩
  ·rintro i z σ H2 hi ⟨rfl,v,rfl⟩
   obtain⟨j,rfl⟩:∃j,z=V.int j:=by
    match i,hi with
    | 0,hi=>exact⟨x,by simpa using hi.symm⟩
    | 1,hi=>exact⟨y,by simpa using hi.symm⟩
   simp_all only[]
   refine⟨_,fX.int j,_,DI,?_⟩
   rw[if_neg (by decide)]
   refine⟨_,fX.int j,_,DL,?_⟩
   rw[if_neg (by decide)]
   exact⟨_,rfl⟩
  ·rintro σ H2 ⟨rfl,v,rfl⟩
   simp_all only[hp,gC]
   have e1:Nm.st x y=x:=by rw[(Nm.ie y0).1,g1,Int.ediv_one]
   have e2:Nm.sb x y=y:=by rw[(Nm.ie y0).2,g1,Int.ediv_one]
   rw[e1,e2,if_pos y0]
   exact⟨y0,Vj.mono (by decide),λp1 H3 s3 n3 h3=>⟨_,h3,_,s3 _ _ hp,rfl,rfl,by rw[yl];exact k _ s3⟩⟩
theorem dX:aI ["_law_found","_law_many"] ["_law_found","_law_many"] (ab (top 51)):=⟨rfl,rfl,rfl,by decide +kernel,rfl,by decide +kernel,by decide +kernel⟩
theorem E4 (T:Txt K mg aq tc):bN P w K mg base (bC P w) 3 "_law_are_shares" ["_law_found","_law_many"] v3:=by
 have kP:bN P w K mg base (bC P w) 2 "_law_is_share" ["_law_found"] EJ:=Hx T
 refine T.i8.dZ (λ_ _ _ _ _ _=>dN λ_ _=>rfl) λf fd F=>F.d4 dX (λvs H Q E h=>?_) (λb9 A outer s H vs Q E hr h=>?_)
 ·obtain⟨_,_,rfl,_⟩:=h;rfl
 ·obtain⟨a,ws,rfl,ra,lw,gw,kk⟩:=h
  have nd:=dX.nd
  refine⟨_,(ae (bS (PW.pt (pw_or (lR (hX (aL (gN (K:=K)) (by rfl) T.z_isinstance rfl (aa (pv 0) (aa (kZ (v:=V.ty "list") rfl T.z_list rfl rfl) af (se rfl)) (se rfl)) (he:=se rfl) (hpl:=na rfl)))) (pw_or1 (aQ qP (aL bp (by rfl) T.z_len Y7 (aa (pv 0) af (se rfl)) (he:=se rfl) (hpl:=na rfl)) (pv 1) (aW _))))) (ao (aH uY))
   aZ)
  (ao (aH (aL (jY (K:=K)) (by rfl) T.z_all rfl (aa (bD rfl (N:=["_law_found","_law_many"]) (so:=ab (top 51)) (N':=["_law_one"]) (k:=1) (fr:=[]) rfl rfl ⟨rfl,by decide +kernel,by decide +kernel,by decide +kernel,rfl,by decide +kernel,by decide +kernel⟩ (aP (K:=K) (pv 0)) (λ_ _ _ _ _=>(aw (i:=0) (show(["_law_one"]:List Str).Nodup by decide +kernel) rfl (Or.inl rfl))) (λ_ _ _ _ _=>bf)
   (λ_ _ _ _ _=>(aB kP (hr.mono (by decide)) rfl au.pass (aa (pv 0) af (se rfl)) (he:=se rfl) (hpl:=na rfl)))) af (se rfl)) (he:=se rfl) (hpl:=na rfl))))),?_⟩
  obtain⟨_,xs,e,ha,rl⟩:=aS.mp ra
  cases e
  have lx:=rl.length
  rw[YL] at lx
  simp_all only[]
  refine⟨_,fX.lst ha,_,DK,?_⟩
  rw[if_neg (by decide)]
  refine⟨_,ha,?_⟩
  rw[if_neg (by omega)]
  refine⟨⟨_,aR.of ha⟩,?_⟩
  refine comp_map (src_list (Ok:=ar H) (λH' s'=>aR.of (s' _ _ ha))) (λ_ _ _ _ h=>by rw[h.1];exact ar.refl _) (by rw[sizeLine_eq];omega) (λi y H4=>y=.bl true) (λi y H4 H5 s5 h=>h) ?_ ?_
  ·rintro i x w0 H4 H5 Q2 hi s4 ⟨rfl,ex⟩ kq
   obtain⟨d,ed,rd⟩:=rl.get ex
   rw[YQ] at ed
   obtain⟨w1,ew,rfl⟩:=Option.map_eq_some_iff.mp ed
   obtain⟨p,rfl,hp⟩:=bW.mp rd
   obtain⟨g1,g2,g3⟩:=gw w1 (YN ew)
   simp_all only[EJ]
   exact⟨_,_,s4 _ _ hp,g1,g2,g3,λH6 s6=>kq _ _ s6 rfl⟩
  ·intro ys H4 s4 ly hy D n1 n2
   have ey:ys=List.map V.bl (List.replicate ys.length true):=by
    rw[List.map_replicate]
    exact List.eq_replicate_iff.mpr ⟨rfl,λb hb=>by
     obtain⟨i,ei⟩:=Y4 hb
     exact hy i b ei⟩
   refine⟨List.replicate ys.length true,aR.of (by rw[<-ey];exact ag),?_⟩
   rw[show(List.replicate ys.length true).all id=true by simp]
   exact kk _ (s4.trans (ah n2))
theorem gK:aI ["_law_cell_here","_law_n","_law_first","_law_keyed"] ["_law_cell_here","_law_n"] (ab (top 52)):=⟨rfl,rfl,rfl,by decide +kernel,rfl,by decide +kernel,by decide +kernel⟩
theorem E5 (T:Txt K mg aq tc):bN P w K mg base (bC P w) 2 "_law_turned" ["_law_cell_here","_law_n"] zR:=by
 have bH:bN P w K mg base (bC P w) 1 "_law_mixed" ["_law_cell_here","_law_many"] jf:=uV T
 refine T.ou.dZ (λ_ _ _ _ _ _=>dN λ_ _=>rfl) λf fd F=>F.d4 gK (λvs H Q E h=>?_) (λb9 A outer s H vs Q E hr h=>?_)
 ·obtain⟨_,_,rfl,_⟩:=h;rfl
 ·obtain⟨c,n,rfl,n0,n1,kk⟩:=h
  have nd:=gK.nd
  refine⟨_,(ae (ay (i:=2) nd rfl (Or.inr rfl) (aG cq (pv 0) aj))
  (ae (ay (i:=3) nd rfl (Or.inl rfl) (aL (mJ (K:=K)) (by rfl) T.z_sorted rfl (aa (bD rfl (N:=["_law_cell_here","_law_n","_law_first","_law_keyed"]) (so:=ab (top 52)) (N':=["_law_k","_law_first"]) (k:=1) (fr:=[2]) rfl rfl ⟨rfl,by decide +kernel,by decide +kernel,by decide +kernel,rfl,by decide +kernel,by decide +kernel⟩ (cE rfl T.z_range (aa (pv 1) af (se rfl))) (λ_ _ _ _ _=>(aw (i:=0) (show(["_law_k","_law_first"]:List Str).Nodup by decide +kernel) rfl (Or.inl rfl))) (λ_ _ _ _ _=>bf)
   (λ_ _ _ _ _=>(bU (aa (aB bH (hr.mono (by decide)) rfl au.pass (aa (aG bT (aG aY (pv 1) (aG bT (aG aY (pv 0) (pv 0)) aj)) (pv 0)) (aa (aG pP aj aj) af (se rfl)) (se rfl)) (he:=se rfl) (hpl:=na rfl)) (aa (pv 0) af (se rfl)) (se rfl))))) af (se rfl)) (he:=se rfl) (hpl:=na rfl)))
  (ao (aH (bD rfl (N:=["_law_cell_here","_law_n","_law_first","_law_keyed"]) (so:=ab (top 52)) (N':=["_law_pair"]) (k:=1) (fr:=[]) rfl rfl ⟨rfl,by decide +kernel,by decide +kernel,by decide +kernel,rfl,by decide +kernel,by decide +kernel⟩ (aP (K:=K) (pv 3)) (λ_ _ _ _ _=>(aw (i:=0) (show(["_law_pair"]:List Str).Nodup by decide +kernel) rfl (Or.inl rfl))) (λ_ _ _ _ _=>bf)
   (λ_ _ _ _ _=>(aA aJ (pv 0) aj (λ_ _=>rfl)))))))),?_⟩
  simp_all only[]
  obtain⟨N,rfl⟩:=ZA (Int.le_of_lt n0)
  rw[YX] at kk
  refine⟨by decide,by omega,by omega,?_⟩
  refine comp_map src_range (λ_ _ _ _ h=>by rw[h.1];exact ar.refl _) (by rw[sizeLine_eq];omega) (λi y H4=>∃tt a,y=.ref tt/\H4 tt=some (.tup [.int a,.int ((i:Nat):Int)])) (λi y H4 H5 s5 ⟨tt,a,e,h⟩=>⟨tt,a,e,s5 _ _ h⟩) ?_ ?_
  ·rintro i x w0 H9 Fz Q2 hi s9 ⟨rfl,rfl⟩ kq
   simp_all only[jf]
   have ii:(0:Int)+ (i:Int)=(i:Int):=Int.zero_add _
   rw[ii]
   have j0:(0:Int)<=(i:Int):=by omega
   have jq:IntMulOk (i:Int) (i:Int):=gp (by omega) (by omega)
   have j2:(i:Int)* (i:Int)<=40000:=Int.le_trans (Int.mul_le_mul (show(i:Int)<=200 by omega) (show(i:Int)<=200 by omega) j0 (by decide)) (by decide)
   have j3:0<=(i:Int)* (i:Int):=Int.mul_nonneg j0 j0
   exact⟨jq,pX (by omega) (by omega),by decide,by decide,by decide,by decide,λr r0 r1=>⟨by decide,λq5 Vk Jt La e11=>kq _ _ Jt ⟨q5,r,rfl,e11⟩⟩⟩
  intro ys H9 s9 ly hy D9 Yz La
  have Vl:=s9.trans (ah (o:=.lst ys) La)
  have Vm:(upd H9 D9 (.lst ys)) D9=some (.lst ys):=ag
  have Ek:∀(i:Nat) y,ys[i]?=some y->∃tt a,y=.ref tt/\(upd H9 D9 (.lst ys)) tt=some (.tup [.int a,.int ((i:Nat):Int)]):=λi y e=>by
   obtain⟨tt,a,e1,e2⟩:=hy i y e
   exact⟨tt,a,e1,ah La _ _ e2⟩
  generalize upd H9 D9 (.lst ys)=Fz at *
  have each:∀y∈ys,∃tt a b',y=.ref tt/\Fz tt=some (.tup [.int a,.int b']):=λy Vn=>by
   obtain⟨i,ei⟩:=Y4 Vn
   obtain⟨tt,a,e1,e2⟩:=Ek i y ei
   exact⟨tt,a,_,e1,e2⟩
  have ly:ys.length=N:=by simpa using ly
  refine⟨ys,aR.of Vm,by omega,each,λl11 zs Vo pz=>?_⟩
  have hg:∃g:V->Nat,g=λv=>match v with | .ref tt=>(match Fz tt with | some (.tup [_,.int i])=>i.toNat | _=>0) | _=>0:=⟨_,rfl⟩
  obtain⟨g,hg⟩:=hg
  have gy:∀(i:Nat) y,ys[i]?=some y->g y=i:=λi y e=>by
   obtain⟨tt,a,rfl,e2⟩:=Ek i y e
   rw[hg]
   simp only[e2,YX]
  have mg:ys.map g=List.range N:=by
   apply ZO
   intro i
   rw[YQ]
   by_cases hi:i<N
   ·rw[ZT hi,YM (show i<ys.length by omega)]
    show some (g _)=_
    rw[gy i _ (YM (by omega))]
   ·rw[Y1 (show(List.range N).length<=i by rw[Ze];omega),Y1 (show ys.length<=i by omega)]
    rfl
  have pm:(zs.map g).Perm (List.range N):=by rw[<-mg];exact pz.map g
  have zl:zs.length=N:=by rw[pz.length_eq];omega
  have ez:∀z∈zs,∃tt a,z=.ref tt/\Fz tt=some (.tup [.int a,.int ((g z:Nat):Int)]):=λz hz=>by
   obtain⟨i,ei⟩:=Y4 (pz.mem_iff.mp hz)
   obtain⟨tt,a,e1,e2⟩:=Ek i z ei
   exact⟨tt,a,e1,by rw[gy i z ei];exact e2⟩
  have Jt:=ah (o:=.lst zs) Vo
  have Sl:(upd Fz l11 (.lst zs)) l11=some (.lst zs):=ag
  generalize upd Fz l11 (.lst zs)=Vk at *
  refine⟨⟨_,aR.of Sl⟩,?_⟩
  refine cZ zs (λz=>some ((g z:Nat):Int)) (src_list (K:=K) (λH' s'=>aR.of (s' _ _ Sl))) (λ_ _ _ _ h=>h.1) (by rw[sizeLine_eq];omega) ?_ ?_
  ·rintro i1 z x eg ⟨_,ex⟩ Y N1 y1 n1
   rw[eg] at ex
   cases ex
   obtain⟨tt,a,rfl,e2⟩:=ez z (YN eg)
   simp_all only[fk,Jt _ _ e2]
   exact y1 _ rfl
  intro YA YB Sm
  rw[dM]
  have e12:List.map V.int (zs.map λz=>((g z:Nat):Int))=List.map cf (zs.map g):=by rw[List.map_map,List.map_map];rfl
  rw[e12]
  have Sn:=Vl.trans Jt
  exact kk _ _ _ (Sn.trans (ah Sm)) (none_of Sn Sm) ag pm
theorem E6 {H:Hp} {D:Addr} {xs:List V} {q:Pl} {v:V} (h:Rep H (qg q) v) (hD:H D=some (.lst xs)) (hn:V.bV∈xs):Rep (o6 H D) (qg q) v:=by
 have tn:∀{t:Addr} {zs:List V},H t=some (.tup zs)->t≠D:=λht z=>by rw[z,hD] at ht;cases ht
 cases q with
 | fin g=>
  obtain⟨p,r,rfl,hp,hr⟩:=cF.mp h
  exact cF.mpr ⟨p,r,rfl,by rw[cJ (tn hp)];exact hp,by rw[cJ (tn hr)];exact hr⟩
 | gz g ws=>
  obtain⟨p,r,l,zs,rfl,hp,hr,hl,rz⟩:=cG.mp h
  have lD:l≠D:=λz=>by
   rw[z,hD] at hl
   cases hl
   obtain⟨i,ei⟩:=Y4 hn
   obtain⟨x,t,_,e,_⟩:=nI rz ei
   cases e
  have lz:=rz.length
  rw[YL] at lz
  refine cG.mpr ⟨p,r,l,zs,rfl,by rw[cJ (tn hp)];exact hp,by rw[cJ (tn hr)];exact hr,by rw[cJ lD];exact hl,dk (by omega) λi y ey x ex=>?_⟩
  obtain⟨x',t,pK,rfl,ht⟩:=nI rz ey
  rw[ex] at pK
  cases pK
  exact bW.mpr ⟨t,rfl,by rw[cJ (tn ht)];exact ht⟩
 | ft w to=>
  obtain⟨p,l,rfl,hp,hl⟩:=cH.mp h
  have lD:l≠D:=λz=>by
   rw[z,hD] at hl
   cases hl
   obtain⟨x,_,e⟩:=List.mem_map.mp hn
   cases e
  exact cH.mpr ⟨p,l,rfl,by rw[cJ (tn hp)];exact hp,by rw[cJ lD];exact hl⟩
theorem Hy:Wq.low 1 1=(1,1):=by decide
theorem E7 {t b:Int} (h1:-6<=t) (h2:t<=6) (h3:1<=b) (h4:b<=4):Gs (Wq.low t b):=by
 have b0:0<b:=by omega
 have lw:=Wq.c9 (a:=t) b0
 have g0:0<Nm.g t b:=Nm.mw (by omega)
 have q1:=Nm.dj (a:=t) g0 (Nm.iT t b)
 have q2:=Nm.dj (a:=b) g0 (Nm.d5 t b)
 have e1:(Wq.low t b).1=t / Nm.g t b:=(Nm.ie b0).1
 have e2:(Wq.low t b).2=b / Nm.g t b:=(Nm.ie b0).2
 refine⟨by omega,by omega,by omega,lw⟩
theorem ints_of {P:Int->Prop}:∀{ys:List V},(∀(i:Nat) y,ys[i]?=some y->∃v,y=.int v/\P v)->∃r:List Int,ys=List.map V.int r/\∀x∈r,P x
 | [],_=>⟨[],rfl,by simp⟩
 | y::ys,h=>by
  obtain⟨v,rfl,pv⟩:=h 0 y rfl
  obtain⟨r,rfl,pr⟩:=ints_of (ys:=ys) λi y e=>h (i+1) y (by simpa using e)
  refine⟨v::r,rfl,λx hx=>?_⟩
  rcases List.mem_cons.mp hx with rfl | hx
  ·exact pv
  ·exact pr x hx
theorem wd {α:Type} {H:Hp} {f:α->Dat} {P:α->Prop}:∀{xs:List V},(∀x∈xs,∃a,Rep H (f a) x/\P a)->∃as:List α,bq H (as.map f) xs/\as.length=xs.length/\∀a∈as,P a
 | [],_=>⟨[],by simp [bq],rfl,by simp⟩
 | x::xs,h=>by
  obtain⟨a,ra,pa⟩:=h x YW
  obtain⟨as,r,l,p⟩:=wd (xs:=xs) λy hy=>h y (YU _ hy)
  refine⟨a::as,?_,by simp [l],λy hy=>?_⟩
  ·simp only[Y3,bq]
   exact⟨_,_,rfl,ra,r⟩
  ·rcases List.mem_cons.mp hy with rfl | hy
   ·exact pa
   ·exact p y hy
theorem jo {H:Hp} {ws:List Wq.Sh} {xs:List V} {k:Nat} {q':Wq.Sh} {l r:Addr} (hl:H l=some (.lst xs)) (rl:bq H (ws.map bw) xs) (rv:H r=some (.tup (Pr q'.1 q'.2))):Rep (upd H l (.lst (xs.set k (.ref r)))) (.lst ((ws.set k q').map bw)) (.ref l):=by
 have lx:=rl.length
 rw[YL] at lx
 refine aS.mpr ⟨l,_,rfl,ag,dk (by rw[Y5,Y5,lx]) λi y ey q eq=>?_⟩
 by_cases c:i=k
 ·subst c
  have hi:i<xs.length:=by
   have:=(List.getElem?_eq_some_iff.mp ey).1
   rwa [Y5] at this
  rw[Zv hi] at ey
  rw[Zv (by omega)] at eq
  cases ey
  cases eq
  exact bW.mpr ⟨r,rfl,by rw[ax (λz=>by rw[z,hl] at rv;cases rv)];exact rv⟩
 ·rw[Zm (Ne.symm c)] at ey eq
  obtain⟨p,ep,hp⟩:=cI rl eq
  rw[ey] at ep
  cases ep
  exact bW.mpr ⟨p,rfl,by rw[ax (λz=>by rw[z,hl] at hp;cases hp)];exact hp⟩
theorem jr:aI ["_law_cell_here","_law_k","_law_turned_here","_law_number","_law_kind","_law_tos"] ["_law_cell_here","_law_k","_law_turned_here"] (ab (top 53)):=⟨rfl,rfl,rfl,by decide +kernel,rfl,by decide +kernel,by decide +kernel⟩
theorem Hz (T:Txt K mg aq tc):bN P w K mg base (bC P w) 2 "_law_what" ["_law_cell_here","_law_k","_law_turned_here"] EK:=by
 have bH:bN P w K mg base (bC P w) 1 "_law_mixed" ["_law_cell_here","_law_many"] jf:=uV T
 have cj:bN P w K mg base (bC P w) 1 "_law_low" ["_law_top","_law_bottom"] gC:=nQ T
 refine T.sE.dZ (λ_ _ _ _ _ _=>sG λ_ _ _=>rfl) λf fd F=>F.d4 jr (λvs H Q E h=>?_) (λb9 A outer s H vs Q E hr h=>?_)
 ·obtain⟨_,_,_,_,rfl,_⟩:=h;rfl
 ·obtain⟨c,k,l,sg,rfl,hl,hk,K9,nW,kk⟩:=h
  have nd:=jr.nd
  refine⟨_,(ae (ay (i:=3) nd rfl (Or.inl rfl) (aB cj (hr.mono (by decide)) rfl au.pass (aa (aG pO (aB bH (hr.mono (by decide)) rfl au.pass (aa (pv 0) (aa aj af (se rfl)) (se rfl)) (he:=se rfl) (hpl:=na rfl)) aj) (aa (aG bT aj (aB bH (hr.mono (by decide)) rfl au.pass (aa (aG bT (pv 0) aj) (aa aj af (se rfl)) (se rfl)) (he:=se rfl) (hpl:=na rfl))) af (se rfl)) (se rfl)) (he:=se rfl) (hpl:=na rfl)))
  (ae (ay (i:=4) nd rfl (Or.inl rfl) (aB bH (hr.mono (by decide)) rfl au.pass (aa (aG bT (pv 0) aj) (aa aj af (se rfl)) (se rfl)) (he:=se rfl) (hpl:=na rfl)))
  (ae (bS (PW.pt (pw_or (aQ df (pv 1) aj (aW _)) (pw_or1 (aQ df (pv 4) aj (aW _))))) (ao (aH (bU (aa cN (aa (pv 3) af (se rfl)) (se rfl)))))
   aZ)
  (ae (dJ (i:=5) rfl nd rfl rfl (N:=["_law_cell_here","_law_k","_law_turned_here","_law_number","_law_kind","_law_tos"]) (so:=ab (top 53)) (N':=["_law_j","_law_cell_here","_law_k","_law_turned_here"]) (k:=1) (fr:=[0,1,2]) rfl rfl ⟨rfl,by decide +kernel,by decide +kernel,by decide +kernel,rfl,by decide +kernel,by decide +kernel⟩ (cE rfl T.z_range (aa (aG bT aj (aB bH (hr.mono (by decide)) rfl au.pass (aa (aG bT (pv 0) aj) (aa aj af (se rfl)) (se rfl)) (he:=se rfl) (hpl:=na rfl))) af (se rfl))) (λ_ _ _ _ _=>(aw (i:=0) (show(["_law_j","_law_cell_here","_law_k","_law_turned_here"]:List Str).Nodup by decide +kernel) rfl (Or.inl rfl))) (λ_ _ _ _ _=>bf)
   (λ_ _ _ _ _=>(aA aE (pv 3) (aL (wB rfl) (by rfl) T.z_max rfl (aa aj (aa (aG pO (aG pO (pv 2) aj) (aB bH (hr.mono (by decide)) rfl au.pass (aa (aG bT (aG bT (pv 1) (aG aY aj (pv 0))) aj) (aa aj af (se rfl)) (se rfl)) (he:=se rfl) (hpl:=na rfl))) af (se rfl)) (se rfl)) (he:=se rfl) (hpl:=na rfl)) (λ_ _=>rfl))))
  (ae (bS (aQ qQ (pv 4) aj (aW _)) (ao (aH (bU (aa cN (aa (pv 3) (aa (bD rfl (N:=["_law_cell_here","_law_k","_law_turned_here","_law_number","_law_kind","_law_tos"]) (so:=ab (top 53)) (N':=["_law_to","_law_cell_here"]) (k:=1) (fr:=[0]) rfl rfl ⟨rfl,by decide +kernel,by decide +kernel,by decide +kernel,rfl,by decide +kernel,by decide +kernel⟩ (aP (K:=K) (pv 5)) (λ_ _ _ _ _=>(aw (i:=0) (show(["_law_to","_law_cell_here"]:List Str).Nodup by decide +kernel) rfl (Or.inl rfl))) (λ_ _ _ _ _=>bf)
   (λ_ _ _ _ _=>(bU (aa (aG bT aj (aB bH (hr.mono (by decide)) rfl au.pass (aa (aG bT (pv 1) (aG aY aj (pv 0))) (aa aj af (se rfl)) (se rfl)) (he:=se rfl) (hpl:=na rfl))) (aa (pv 0) af (se rfl)) (se rfl))))) af (se rfl)) (se rfl)) (se rfl)))))
   aZ)
  (ao (aH (bU (aa cN (aa (aG bT aj (aG cq (pv 4) aj)) (aa (pv 5) af (se rfl)) (se rfl)) (se rfl)))))))))),?_⟩
  have sl:=sizeLine_eq
  simp_all only[jf,gC]
  refine⟨by decide,λr r0 r1=>⟨by decide,λbo b0 b1=>⟨by omega,Bt.mono (m:=3) (Bt.of 4 (by omega) (by omega)) (by decide),λp H1 s1 np hp=>⟨by decide,λkd k0 k1=>?_⟩⟩⟩⟩
  have gs:Gs (Wq.low (r - 6) (1+bo)):=E7 (by omega) (by omega) (by omega) (by omega)
  have hp:H1 p=some (.tup (Pr (Wq.low (r - 6) (1+bo)).1 (Wq.low (r - 6) (1+bo)).2)):=hp
  generalize Wq.low (r - 6) (1+bo)=g at *
  have fin:∀p1 H2,ar H1 H2->H1 p1=none->H2 p1=some (.tup [.str (Str.ofString "end"),.ref p])->Q (.ref p1) H2:=λp1 H2 s2 n1 h1=>kk _ H2 (.fin g) (s1.trans s2) (cF.mpr ⟨p1,p,rfl,h1,s2 _ _ hp⟩) ⟨gs,by simp [Lv.fb]⟩
  refine q9 (λ_=>⟨by decide,fin⟩) (λck=>q9 (λ_=>⟨by decide,fin⟩) (λc0=>⟨by decide,λr2 YC YD=>⟨by omega,by omega,?_⟩⟩))
  have kp:0<k:=by omega
  refine comp_map src_range (λ_ _ _ _ h=>by rw[h.1];exact ar.refl _) (by omega) (λi y H4=>∃g:Int,y=.int g/\∃j,j<k/\sg[j]?=some g.toNat/\0<=g) (λ_ _ _ _ _ h=>h) ?_ ?_
  ·rintro i x w0 H4 H5 Q2 hi s4 ⟨rfl,rfl⟩ kq
   simp_all only[jf]
   refine⟨(Bt.of (n:=2) 3 (by decide) (by decide)).cV (Bt.of (n:=2) 3 (by omega) (by omega)),by decide,λr3 Vp Vq=>?_⟩
   obtain⟨j,ej,jk⟩:∃j:Nat,(if (k:Int) - 1 - r3 >0 then (k:Int) - 1 - r3 else 0)=(j:Int)/\j<k:=by
    by_cases c:(k:Int) - 1 - r3 >0
    ·rw[if_pos c]
     exact⟨((k:Int) - 1 - r3).toNat,by omega,by omega⟩
    ·rw[if_neg c]
     exact⟨0,rfl,kp⟩
   rw[ej]
   have es:sg[j]?=some sg[j]:=YM (by omega)
   exact⟨_,(s1.trans s4) _ _ hl,_,jJ (f:=cf) es,kq _ _ (ar.refl _) ⟨(sg[j]:Int),rfl,j,jk,by rw[YX];exact es,by omega⟩⟩
  ·intro ys H2 s2 ly hy D n1 n2
   obtain⟨Ad,rfl,E8⟩:=ints_of hy
   rw[YL] at ly
   have Vr:Ad.length<=3:=by omega
   have Vs:0<Ad.length:=by omega
   have E9:∀g∈Ad,0<=g/\g< (sg.length:Int):=λg hg=>by
    obtain⟨j,_,ej,g0⟩:=E8 g hg
    have:=nW _ (YN ej)
    omega
   have sD:=ah (o:=.lst (List.map V.int Ad)) n2
   have hD:upd H2 D (.lst (List.map V.int Ad)) D=some (.lst (List.map V.int Ad)):=ag
   generalize upd H2 D (.lst (List.map V.int Ad))=H3 at *
   have uU:=s2.trans sD
   refine q9 (λc6=>⟨⟨_,aR.of hD⟩,?_⟩) (λc6=>⟨by decide,by decide,λp1 H4 s4 n4 h4=>kk _ H4 (.ft (1+kd % 2) Ad) (s1.trans (uU.trans s4)) (cH.mpr ⟨p1,D,rfl,h4,s4 _ _ hD⟩) ⟨⟨by omega,Vs,Vr,E9⟩,E8⟩⟩)
   refine comp_map (src_list (K:=K) (a:=D) (xs:=List.map V.int Ad) (Ok:=ar H3) (λH' s'=>aR.of (s' _ _ hD))) (λ_ _ _ _ h=>by rw[h.1];exact ar.refl _) (by rw[YL];omega) (λi y H4=>∃x:Int×Int,Rep H4 (bw x) y/\(1<=x.1/\x.1<=3)/\x.2∈Ad) (λi y H4 H5 s5 ⟨x,h1,h2⟩=>⟨x,h1.mono s5,h2⟩) ?_ ?_
   ·rintro i v w0 H4 H5 Q2 hi s4 ⟨rfl,ex⟩ kq
    rw[YQ] at ex
    obtain⟨g',eg,rfl⟩:=Option.map_eq_some_iff.mp ex
    simp_all only[jf,tTupS]
    have K6:=YN eg
    have pg:=E9 g' K6
    exact⟨(Bt.of (n:=3) 7 (by decide) (by decide)).cV (Bt.of (n:=6) 60 (by omega) (by omega)),by decide,λr3 Vp Vq=>⟨by decide,λp5 H6 s6 n6 h6=>kq _ _ s6 ⟨(1+r3,g'),bW.mpr ⟨p5,rfl,h6⟩,by show 1<=1+r3/\1+r3<=3;omega,K6⟩⟩⟩
   ·intro zs H4 s4 lz hz D2 m1 m2
    have Gx:∀y∈zs,∃x:Int×Int,Rep H4 (bw x) y/\((1<=x.1/\x.1<=3)/\x.2∈Ad):=λy hy=>by
     obtain⟨i,ei⟩:=Y4 hy
     exact hz i y ei
    obtain⟨ws,nY,lw,pw⟩:=wd Gx
    rw[YL] at lz
    have m3:=ah (o:=.lst zs) m2
    have h3:upd H4 D2 (.lst zs) D2=some (.lst zs):=ag
    generalize upd H4 D2 (.lst zs)=H5 at *
    refine⟨by decide,λp1 H6 s6 n6 h6=>kk _ H6 (.gz g ws) (s1.trans (uU.trans (s4.trans (m3.trans s6)))) (cG.mpr ⟨p1,p,D2,zs,rfl,h6,(uU.trans (s4.trans (m3.trans s6))) _ _ hp,s6 _ _ h3,nY.mono (m3.trans s6)⟩) ⟨⟨gs,by omega,by omega,λx hx=>⟨(pw x hx).1.1,(pw x hx).1.2,E9 _ (pw x hx).2⟩⟩,λg hg=>?_⟩⟩
    obtain⟨x,hx,rfl⟩:=List.mem_map.mp hg
    exact E8 _ (pw x hx).2
theorem hV:aI ["_law_script","_law_n","_law_turned_here","_law_board_here","_law_k","_law_cell_here"] ["_law_script","_law_n","_law_turned_here"] (ab (top 54)):=⟨rfl,rfl,rfl,by decide +kernel,rfl,by decide +kernel,by decide +kernel⟩
theorem Fb (T:Txt K mg aq tc):bN P w K mg base (bC P w) 3 "_law_board" ["_law_script","_law_n","_law_turned_here"] (CL K):=by
 have cD:bN P w K mg base (bC P w) 1 "_law_cell" ["_law_script","_law_k"] (CK K):=wc T
 have tF:bN P w K mg base (bC P w) 2 "_law_what" ["_law_cell_here","_law_k","_law_turned_here"] EK:=Hz T
 refine T.qu.dZ (λ_ _ _ _ _ _=>sG λ_ _ _=>rfl) λf fd F=>F.d4 hV (λvs H Q E h=>?_) (λb9 A outer s H vs Q E hr h=>?_)
 ·obtain⟨_,_,_,_,rfl,_⟩:=h;rfl
 ·obtain⟨a,l,ns,sg,rfl,hS,hl,pm,l0,K9,kk⟩:=h
  have nd:=hV.nd
  refine⟨_,(ae (dJ (i:=3) rfl nd rfl rfl (N:=["_law_script","_law_n","_law_turned_here","_law_board_here","_law_k","_law_cell_here"]) (so:=ab (top 54)) (N':=["_law_place"]) (k:=1) (fr:=[]) rfl rfl ⟨rfl,by decide +kernel,by decide +kernel,by decide +kernel,rfl,by decide +kernel,by decide +kernel⟩ (aP (K:=K) (pv 2)) (λ_ _ _ _ _=>(aw (i:=0) (show(["_law_place"]:List Str).Nodup by decide +kernel) rfl (Or.inl rfl))) (λ_ _ _ _ _=>bf)
   (λ_ _ _ _ _=>el))
  (ae (bL PassesOwn.never rfl (cE rfl T.z_range (aa (pv 1) af (se rfl))) (aw (i:=4) nd rfl (Or.inl rfl)) (ae (ay (i:=5) nd rfl (Or.inl rfl) (aG aY (aG cq (aB cD (hr.mono (by decide)) rfl au.pass (aa (pv 0) (aa aj af (se rfl)) (se rfl)) (he:=se rfl) (hpl:=na rfl)) aj) (aG bT (aG aY (pv 4) (pv 4)) aj)))
  (ao (dB (aB tF (hr.mono (by decide)) rfl au.pass (aa (aG bT (pv 5) (aB cD (hr.mono (by decide)) rfl au.pass (aa (pv 0) (aa (aG bT aj (aG cq (pv 4) aj)) af (se rfl)) (se rfl)) (he:=se rfl) (hpl:=na rfl))) (aa (pv 4) (aa (pv 2) af (se rfl)) (se rfl)) (se rfl)) (he:=se rfl) (hpl:=na rfl)) (dA (pv 3) (aA aE (pv 2) (pv 4) (λ_ _=>rfl)) set_list)))))
  (ao (aH (pv 3))))),?_⟩
  have sl:=sizeLine_eq
  have nW:∀x∈sg,x<sg.length:=λx hx=>List.mem_range.mp (pm.mem_iff.mp hx)
  have YE:sg.Nodup:=pm.nodup_iff.mpr List.nodup_range
  simp_all only[]
  refine⟨⟨_,aR.of hl⟩,?_⟩
  refine comp_map (src_list (K:=K) (a:=l) (xs:=List.map cf sg) (Ok:=ar H) (λH' s'=>aR.of (s' _ _ hl))) (λ_ _ _ _ h=>by rw[h.1];exact ar.refl _) (by rw[YL];omega) (λi y H4=>y=.bV) (λ_ _ _ _ _ h=>h) ?_ ?_
  ·rintro i v w0 H4 H5 Q2 hi s4 ⟨rfl,ex⟩ kq
   simp_all only[]
   exact kq _ _ (ar.refl _) rfl
  ·intro ys H2 s2 ly hy D n1 n2
   rw[YL] at ly
   have s3:=s2.trans (ah (o:=.lst ys) n2)
   refine⟨by omega,by omega,bu (src_range (Ok:=λ_=>True)) (λi σ H5=>ar H H5/\(∃xs,H5 D=some (.lst xs)/\xs.length=sg.length/\(∀j p:Nat,i<=j->sg[j]?=some p->xs[p]?=some .bV)/\∃qs:Nat->Pl,∀j p:Nat,j<i->sg[j]?=some p->uP sg j (qs p)/\∃v,xs[p]?=some v/\Rep (o6 H5 D) (qg (qs p)) v)/\∃z4 z5,σ=[some (.ref a),some (.int (sg.length:Nat)),some (.ref l),some (.ref D),z4,z5]) ⟨s3,⟨ys,ag,ly,λj p _ ep=>?_,λ_=>.fin (0,1),λj p hj=>absurd hj (Nat.not_lt_zero _)⟩,_,_,rfl⟩ (λ_ _ _ _ _=>trivial) ?_ ?_⟩
   ·have hp:=nW p (YN ep)
    have e:ys[p]?=some ys[p]:=YM (by omega)
    rw[e,hy p _ e]
   ·rintro i x σ H5 H6 hi ⟨s5,⟨xs,hD,lx,un,qs,dn⟩,z4,z5,rfl⟩ ⟨rfl,rfl⟩
    have qk:i<sg.length:=by have:i< ((sg.length:Nat):Int).toNat:=hi;omega
    have es:sg[i]?=some sg[i]:=YM qk
    have Vu:fK (List.map cf sg) (i:Int)=some (cf sg[i]):=jJ (f:=cf) es
    have hp:=nW _ (Zc qk)
    simp_all only[CK,EK,Int.zero_add]
    have bi:Bt 6 (i:Int):=Bt.of 60 (by omega) (by omega)
    have Vv:Bt 13 ((i:Int)*i+7):=(bi.mul bi).add (Bt.mono (m:=3) (Bt.of 7 (by decide) (by decide)) (by decide))
    refine⟨ns,s5.seq hS,by decide,by decide,λc1=>⟨by decide,bi.cV bi,(Bt.of (n:=20) 1000003 (by omega) (by omega)).cV Vv,by decide,ns,s5.seq hS,by omega,by omega,λc2=>⟨i,rfl,sg,s5 _ _ hl,qk,K9,nW,λv H7 q s7 rv wt=>?_⟩⟩⟩
    have nD:H D=none:=none_of s2 n2
    have So:=s7 _ _ hD
    have mn:V.bV∈xs:=YN (un i _ (YO _) es)
    refine⟨_,(s5.trans s7) _ _ hl,_,Vu,_,_,rfl,So,sg[i],de (by omega),aO (s5.trans s7) nD,⟨_,ag,by rw[Y5];exact lx,λj p hj ep=>?_,λp=>if p=sg[i] then q else qs p,λj p hj ep=>?_⟩,_,rfl⟩
    ·rw[Zm (λz=>?_)]
     ·exact un j p (by omega) ep
     ·have:=Lv.jL pm es (z▸ep)
      omega
    ·by_cases c:p=sg[i]
     ·have ji:j=i:=Lv.jL pm (c▸ep) es
      subst ji
      dsimp only
      rw[if_pos c]
      refine⟨wt,v,by rw[c];exact Zv (by omega),?_⟩
      exact(E6 rv So mn).mono (λx o h=>by
       unfold o6 at h ⊢
       by_cases z:x=D
       ·rw[if_pos z] at h;cases h
       ·rw[if_neg z] at h ⊢;rw[ax z];exact h)
     ·dsimp only
      rw[if_neg c]
      have jn:j<i:=by
       have:j≠i:=λz=>c (by subst z;rw[es] at ep;exact(Zg ep).symm)
       omega
      obtain⟨w1,v1,e1,r1⟩:=dn j p jn ep
      refine⟨w1,v1,by rw[Zm (Ne.symm c)];exact e1,?_⟩
      exact(r1.mono (yF s7)).mono (λx o h=>by
       unfold o6 at h ⊢
       by_cases z:x=D
       ·rw[if_pos z] at h;cases h
       ·rw[if_neg z] at h ⊢;rw[ax z];exact h)
   ·rintro σ H5 ⟨s5,⟨xs,hD,lx,un,qs,dn⟩,z4,z5,rfl⟩
    rw[YX] at dn
    simp_all only[]
    refine kk D H5 ((List.range sg.length).map qs) s5 (none_of s2 n2) (aS.mpr ⟨D,xs,rfl,hD,dk (by rw[YL,Ze];exact lx) λp y ey q eq=>?_⟩) (by rw[YL,Ze]) λk p q ek eq=>?_
    ·have hp:p<sg.length:=by have:=(List.getElem?_eq_some_iff.mp ey).1;omega
     rw[YQ,ZT hp] at eq
     cases eq
     obtain⟨j,ej⟩:=Y4 (pm.mem_iff.mpr (List.mem_range.mpr hp))
     obtain⟨_,v,ev,rv⟩:=dn j p (List.getElem?_eq_some_iff.mp ej).1 ej
     rw[ey] at ev
     cases ev
     exact rv.mono gP
    ·have hp:=nW p (YN ek)
     rw[YQ,ZT hp] at eq
     cases eq
     exact(dn k p (List.getElem?_eq_some_iff.mp ek).1 ek).1
theorem hW:aI ["_law_what_here","_law_pick","_law_total"] ["_law_what_here","_law_pick"] (ab (top 55)):=⟨rfl,rfl,rfl,by decide +kernel,rfl,by decide +kernel,by decide +kernel⟩
theorem Fc (T:Txt K mg aq tc):bN P w K mg base (bC P w) 2 "_law_parts" ["_law_what_here","_law_pick"] v5:=by
 have cj:bN P w K mg base (bC P w) 1 "_law_low" ["_law_top","_law_bottom"] gC:=nQ T
 refine T.qv.dZ (λ_ _ _ _ _ _=>dN λ_ _=>rfl) λf fd F=>F.d4 hW (λvs H Q E h=>?_) (λb9 A outer s H vs Q E hr h=>?_)
 ·obtain⟨_,_,_,_,rfl,_⟩:=h;rfl
 ·obtain⟨v,q,n,k,rfl,rq,pq,po,kk⟩:=h
  have nd:=hW.nd
  refine⟨_,(ae (bS (aQ df (aA aJ (pv 0) aj (λ_ _=>rfl)) cN (aW _)) (ae (ay (i:=2) nd rfl (Or.inr rfl) (aL (gx (K:=K)) (by rfl) T.z_sum rfl (aa (bD rfl (N:=["_law_what_here","_law_pick","_law_total"]) (so:=ab (top 55)) (N':=["_law_weight","_law_to"]) (k:=2) (fr:=[]) rfl rfl ⟨rfl,by decide +kernel,by decide +kernel,by decide +kernel,rfl,by decide +kernel,by decide +kernel⟩ (aP (K:=K) (aA aJ (pv 0) aj (λ_ _=>rfl))) (λ_ _ _ _ _=>(bK (K:=K) (n:=2) rfl (aK (aw (i:=0) (show(["_law_weight","_law_to"]:List Str).Nodup by decide +kernel) rfl (Or.inl rfl)) (aK (aw (i:=1) (show(["_law_weight","_law_to"]:List Str).Nodup by decide +kernel) rfl (Or.inl rfl)) bJ)))) (λ_ _ _ _ _=>bf)
   (λ_ _ _ _ _=>(pv 0))) af (se rfl)) (he:=se rfl) (hpl:=na rfl)))
  (ao (aH (bD rfl (N:=["_law_what_here","_law_pick","_law_total"]) (so:=ab (top 55)) (N':=["_law_weight","_law_to","_law_total"]) (k:=2) (fr:=[2]) rfl rfl ⟨rfl,by decide +kernel,by decide +kernel,by decide +kernel,rfl,by decide +kernel,by decide +kernel⟩ (aP (K:=K) (aA aJ (pv 0) aj (λ_ _=>rfl))) (λ_ _ _ _ _=>(bK (K:=K) (n:=2) rfl (aK (aw (i:=0) (show(["_law_weight","_law_to","_law_total"]:List Str).Nodup by decide +kernel) rfl (Or.inl rfl)) (aK (aw (i:=1) (show(["_law_weight","_law_to","_law_total"]:List Str).Nodup by decide +kernel) rfl (Or.inl rfl)) bJ)))) (λ_ _ _ _ _=>bf)
   (λ_ _ _ _ _=>(bU (aa (aB cj (hr.mono (by decide)) rfl au.pass (aa (pv 0) (aa (pv 2) af (se rfl)) (se rfl)) (he:=se rfl) (hpl:=na rfl)) (aa (pv 1) af (se rfl)) (se rfl))))))))
   aZ)
  (ae (bS (aQ df (aA aJ (pv 0) aj (λ_ _=>rfl)) cN (aW _)) (ao (aH (cU (aa (bU (aa (bU (aa aj (aa aj af (se rfl)) (se rfl))) (aa (aA aE (aA aJ (pv 0) aj (λ_ _=>rfl)) (pv 1) (λ_ _=>rfl)) af (se rfl)) (se rfl))) af (se rfl)))))
   aZ)
  (ao (aH (cU af))))),?_⟩
  cases q with
  | fin g=>
   obtain⟨t,r,rfl,ht,_⟩:=cF.mp rq
   simp_all only[ht]
   rw[if_neg (by decide +kernel),if_neg (by decide +kernel)]
   exact⟨Y0 _,λl nl=>kk l [] _ (ah nl) nl ag rfl λj p x e=>by simp [gX] at e⟩
  | gz g ws=>
   obtain⟨t,r,l,zs,rfl,ht,_,hl,rz⟩:=cG.mp rq
   simp_all only[ht]
   obtain⟨gw,l0,eO⟩:=pq
   have w3:=eO.1
   obtain⟨t1,t9⟩:=eO.tt
   have Vw:Dg.tt ws=Wq.iy ws:=by unfold Dg.tt;rw[if_neg (λz=>by rw[z] at l0;cases l0)]
   have lx:=rz.length
   rw[YL] at lx
   refine⟨⟨_,aR.of hl⟩,?_⟩
   have S:Src (tT K l) (ar H) ws.length (λi x H H3=>H3=H/\zs[i]?=some x):=by rw[lx];exact src_list (λH' s'=>aR.of (s' _ _ hl))
   refine fo ws (λp=>some p.1) S (λ_ _ _ _ h=>h.1) (by rw[sizeLine_eq];omega) ?_ ?_
   ·rintro i p x ep ⟨_,ex⟩
    obtain⟨tt,et,Lb⟩:=cI rz ep
    rw[ex] at et
    cases et
    refine⟨tt,_,_,rfl,dH.of Lb,λY N y1 _=>?_⟩
    simp_all only[fk]
    exact y1 _ rfl
   intro D n1 n2
   rw[dM]
   refine⟨_,aR.of ag,_,ah n2 _ _ ht,_,rfl,_,rfl,⟨_,aR.of (ah n2 _ _ hl)⟩,?_⟩
   have s1:=ah (o:=.lst (List.map V.int (ws.map (·.1)))) n2
   have Vx:=s1 _ _ hl
   generalize upd H D (.lst (List.map V.int (ws.map (·.1))))=H1 at *
   refine jH (K:=K) (src_list (Ok:=ar H1) (λH' s'=>aR.of (s' _ _ Vx))) (λi u v H3=>∃p:Int×Int,ws[i]?=some p/\u=.int p.1/\v=.int p.2) (λi x H7 H8 hi s7 ⟨e,ex⟩=>?_) (by rw[sizeLine_eq];omega) (λi y H7=>∃p,ws[i]?=some p/\Ft H7 (Wq.iy ws) p y) (λi y H7 H8 s8 ⟨p,e,r⟩=>⟨p,e,r.mono s8⟩) ?_ ?_
   ·subst e
    have qk:i<ws.length:=by have:=(List.getElem?_eq_some_iff.mp ex).1;omega
    obtain⟨tt,et,Lb⟩:=cI rz (YM qk)
    rw[ex] at et
    cases et
    exact⟨ar.refl _,tt,_,_,rfl,dH.of (s7 _ _ (s1 _ _ Lb)),_,YM qk,rfl,rfl⟩
   ·rintro j u v H7 Q7 hj s7 ⟨p,ep,rfl,rfl⟩ kq
    simp_all only[tTupS,gC]
    have W0:0< (List.map Prod.fst ws).sum:=by show 0<Wq.iy ws;omega
    have W1:(List.map Prod.fst ws).sum<=9:=by show Wq.iy ws<=9;omega
    exact⟨W0,Bt.mono (m:=4) (Bt.of 9 (by omega) (by omega)) (by decide),λp1 H8 s8 n8 e8=>⟨by decide,λp2 H9 s9 n9 e9=>kq _ _ (s8.trans s9) ⟨p,ep,p2,p1,rfl,e9,s9 _ _ e8⟩⟩⟩
   ·intro us H7 s7 lu hu D2 n3 n4
    refine kk D2 us _ (s1.trans (s7.trans (ah n4))) (none_of (s1.trans s7) n4) ag (by show us.length=ws.length;omega) λj p x ep ex=>?_
    obtain⟨p',e',r'⟩:=hu j x ex
    have ep:ws[j]?=some p:=ep
    rw[ep] at e'
    cases e'
    show Ft _ (Dg.tt ws) p x
    rw[Vw]
    exact r'.mono (ah n4)
  | ft rC to=>
   obtain⟨t,l,rfl,ht,hl⟩:=cH.mp rq
   cases k with
   | none=>exact po.elim
   | some k=>
    obtain⟨k0,k1⟩:=po
    have at1:fK (to.map V.int) k=some (.int (to.getD k.toNat 0)):=dS k0 k1
    simp_all only[ht,du]
    rw[if_neg (by decide +kernel)]
    refine⟨by decide,λp H2 s2 np hp=>⟨_,s2 _ _ ht,_,at2,l,rfl,_,s2 _ _ hl,_,at1,by decide,λp2 H3 s3 Ux A3=>⟨by decide,λl2 nl=>kk l2 _ _ (s2.trans (s3.trans (ah nl))) (none_of (s2.trans s3) nl) ag rfl λj x y ex ey=>?_⟩⟩⟩
    have j0:j=0:=by have:=(List.getElem?_eq_some_iff.mp ey).1;have:j<1:=this;omega
    subst j0
    cases ex
    cases ey
    exact⟨p2,p,rfl,ah nl _ _ A3,by rw[show Wq.low 1 (Dg.tt (gX (.ft rC to) (some k)))=(1,1) from Hy];exact ah nl _ _ (s3 _ _ hp)⟩
theorem tG (ws:List (Int×Int)):depth (.lst (ws.map bw))<=40:=by
 have:=uy (ds:=ws.map bw) (n:=1) λd hd=>by obtain⟨p,_,rfl⟩:=List.mem_map.mp hd;rw[uz];exact YO _
 rw[depth]
 omega
theorem tH {s:List Nat} {b:List Pl} {ks:List (Option Int)} (pm:s.Perm (List.range s.length)) (lb:b.length=s.length) (ok:∀(k:Nat) p q,s[k]?=some p->b[p]?=some q->uP s k q) (lk:ks.length=b.length) (pk:∀(i:Nat) q k,b[i]?=some q->ks[i]?=some k->qy q k):∀n,n<=s.length->Dg.uM (oE b ks) (((s.take n).map fun(i:Nat)=>(i:Int)).reverse)
 | 0,_=>trivial
 | n+1,h=>by
  have ep:s[n]?=some s[n]:=YM (by omega)
  rw[Za,ep,Zj,List.reverse_append]
  refine⟨Int.natCast_nonneg _,λr hr x hx=>?_,tH pm lb ok lk pk n (by omega)⟩
  have:∃j p',j<=n/\s[j]?=some p'/\r=(p':Int):=by
   rcases List.mem_cons.mp hr with rfl | hr
   ·exact⟨n,_,YO _,ep,rfl⟩
   ·obtain⟨p',jI,rfl⟩:=List.mem_map.mp (List.mem_reverse.mp hr)
    obtain⟨j,hj⟩:=Y4 jI
    have l:=(List.getElem?_eq_some_iff.mp hj).1
    rw[Zy] at l
    rw[List.getElem?_take_of_lt (by omega)] at hj
    exact⟨j,p',by omega,hj,rfl⟩
  obtain⟨j,p',lj,ej,rfl⟩:=this
  have jI:p'<b.length:=by have:=List.mem_range.mp (pm.mem_iff.mp (YN ej));omega
  have e:b[p']?=some b[p']:=YM jI
  have ek:ks[p']?=some ks[p']:=YM (by omega)
  rw[je e ek] at hx
  exact wb pm ok pk ep ej lj e ek x hx
theorem CY {ws:Dg.Wy} (h:∀y∈ws,1<=y.1) {x:Int×Int} (hx:x∈ws):x.1<=Dg.tt ws:=by
 have go:∀{ws:Dg.Wy},(∀y∈ws,1<=y.1)->0<=Wq.iy ws/\∀{x:Int×Int},x∈ws->x.1<=Wq.iy ws:=by
  intro ws
  induction ws with
  | nil=>exact λ_=>⟨Zk _,λhx=>by simp at hx⟩
  | cons y ws ih=>
   intro h
   obtain⟨i1,i2⟩:=ih λz hz=>h z (YU _ hz)
   have h1:=h y YW
   rw[Dg.jS]
   refine⟨by omega,λhx=>?_⟩
   rcases List.mem_cons.mp hx with rfl | hx
   ·omega
   ·have:=i2 hx
    omega
 unfold Dg.tt
 rw[if_neg (List.ne_nil_of_mem hx)]
 exact(go h).2 hx
theorem Ae:aI ["_law_script","_law_n","_law_turned_here","_law_board_here","_law_picks","_law_place","_law_worths","_law_part","_law_to","_law_start","_law_come","_law_found"] ["_law_script"] (ab (top 56)):=⟨rfl,rfl,rfl,by decide +kernel,rfl,by decide +kernel,by decide +kernel⟩
theorem Fd (T:Txt K mg aq tc) (LB:mS base mg tc tp) {f:Addr} {fd:FuncData} (F:tM K "law" "law" (top 56) f fd):dI P w K mg base (bC P w) 8 f fd ["_law_script"] (v7 K tp):=by
 have cD:bN P w K mg base (bC P w) 1 "_law_cell" ["_law_script","_law_k"] (CK K):=wc T
 have bH:bN P w K mg base (bC P w) 1 "_law_mixed" ["_law_cell_here","_law_many"] jf:=uV T
 have kh:bN P w K mg base (bC P w) 2 "_law_plus" ["_law_one","_law_other"] vY:=E2 T
 have js:bN P w K mg base (bC P w) 2 "_law_times" ["_law_one","_law_other"] vZ:=E3 T
 have eh:bN P w K mg base (bC P w) 3 "_law_are_shares" ["_law_found","_law_many"] v3:=E4 T
 have oI:bN P w K mg base (bC P w) 2 "_law_turned" ["_law_cell_here","_law_n"] zR:=E5 T
 have qD:bN P w K mg base (bC P w) 3 "_law_board" ["_law_script","_law_n","_law_turned_here"] (CL K):=Fb T
 have jt:bN P w K mg base (bC P w) 2 "_law_parts" ["_law_what_here","_law_pick"] v5:=Fc T
 have tI:bN P w K mg base (bC P w) 7 "worths_of" ["board","picks"] (G5 tp):=Hq T LB
 have Af:bN P w K mg base (bC P w) 7 "visits" ["board","picks","start"] (G6 tp):=Ht T LB
 refine F.d4 Ae (λvs H Q E h=>?_) (λb9 A outer s H vs Q E hr h=>?_)
 ·obtain⟨_,_,rfl,_⟩:=h;rfl
 ·obtain⟨sa,ns,rfl,j8,hS,hlen,kk⟩:=h
  have nd:=Ae.nd
  refine⟨_,(ae (ay (i:=1) nd rfl (Or.inl rfl) (aG bT aj (aG cq (aB cD (hr.mono (by decide)) rfl au.pass (aa (pv 0) (aa aj af (se rfl)) (se rfl)) (he:=se rfl) (hpl:=na rfl)) aj)))
  (ae (ay (i:=2) nd rfl (Or.inl rfl) (aB oI (hr.mono (by decide)) rfl au.pass (aa (aB cD (hr.mono (by decide)) rfl au.pass (aa (pv 0) (aa aj af (se rfl)) (se rfl)) (he:=se rfl) (hpl:=na rfl)) (aa (pv 1) af (se rfl)) (se rfl)) (he:=se rfl) (hpl:=na rfl)))
  (ae (ay (i:=3) nd rfl (Or.inl rfl) (aB qD (hr.mono (by decide)) rfl au.pass (aa (pv 0) (aa (pv 1) (aa (pv 2) af (se rfl)) (se rfl)) (se rfl)) (he:=se rfl) (hpl:=na rfl)))
  (ae (dJ (i:=4) rfl nd rfl rfl (N:=["_law_script","_law_n","_law_turned_here","_law_board_here","_law_picks","_law_place","_law_worths","_law_part","_law_to","_law_start","_law_come","_law_found"]) (so:=ab (top 56)) (N':=["_law_place"]) (k:=1) (fr:=[]) rfl rfl ⟨rfl,by decide +kernel,by decide +kernel,by decide +kernel,rfl,by decide +kernel,by decide +kernel⟩ (aP (K:=K) (pv 3)) (λ_ _ _ _ _=>(aw (i:=0) (show(["_law_place"]:List Str).Nodup by decide +kernel) rfl (Or.inl rfl))) (λ_ _ _ _ _=>bf)
   (λ_ _ _ _ _=>el))
  (ae (bL PassesOwn.never rfl (cE rfl T.z_range (aa (pv 1) af (se rfl))) (aw (i:=5) nd rfl (Or.inl rfl)) (ao (bS (aQ df (aA aJ (aA aE (pv 3) (pv 5) (λ_ _=>rfl)) aj (λ_ _=>rfl)) cN (aW _)) (ao (dB (aB bH (hr.mono (by decide)) rfl au.pass (aa (aG bT (aB cD (hr.mono (by decide)) rfl au.pass (aa (pv 0) (aa aj af (se rfl)) (se rfl)) (he:=se rfl) (hpl:=na rfl)) (pv 5)) (aa (aL bp (by rfl) T.z_len Y7 (aa (aA aJ (aA aE (pv 3) (pv 5) (λ_ _=>rfl)) aj (λ_ _=>rfl)) af (se rfl)) (he:=se rfl) (hpl:=na rfl)) af (se rfl)) (se rfl)) (he:=se rfl) (hpl:=na rfl)) (dA (pv 4) (pv 5) set_list)))
   aZ)))
  (ae (dJ (i:=6) rfl nd rfl rfl (N:=["_law_script","_law_n","_law_turned_here","_law_board_here","_law_picks","_law_place","_law_worths","_law_part","_law_to","_law_start","_law_come","_law_found"]) (so:=ab (top 56)) (N':=["_law_place"]) (k:=1) (fr:=[]) rfl rfl ⟨rfl,by decide +kernel,by decide +kernel,by decide +kernel,rfl,by decide +kernel,by decide +kernel⟩ (aP (K:=K) (pv 3)) (λ_ _ _ _ _=>(aw (i:=0) (show(["_law_place"]:List Str).Nodup by decide +kernel) rfl (Or.inl rfl))) (λ_ _ _ _ _=>bf)
   (λ_ _ _ _ _=>(bU (aa aj (aa aj af (se rfl)) (se rfl)))))
  (ae (bL PassesOwn.never rfl (aP (K:=K) (pv 2)) (aw (i:=5) nd rfl (Or.inl rfl)) (ae (bS (aQ qP (aA aJ (aA aE (pv 3) (pv 5) (λ_ _=>rfl)) aj (λ_ _=>rfl)) cN (aW _)) (ao (dB (aA aJ (aA aE (pv 3) (pv 5) (λ_ _=>rfl)) aj (λ_ _=>rfl)) (dA (pv 6) (pv 5) set_list)))
   aZ)
  (ao (bL PassesOwn.never rfl (aP (K:=K) (aB jt (hr.mono (by decide)) rfl au.pass (aa (aA aE (pv 3) (pv 5) (λ_ _=>rfl)) (aa (aA aE (pv 4) (pv 5) (λ_ _=>rfl)) af (se rfl)) (se rfl)) (he:=se rfl) (hpl:=na rfl))) (bK (K:=K) (n:=2) rfl (aK (aw (i:=7) nd rfl (Or.inl rfl)) (aK (aw (i:=8) nd rfl (Or.inl rfl)) bJ))) (ao (dB (aB kh (hr.mono (by decide)) rfl au.pass (aa (aA aE (pv 6) (pv 5) (λ_ _=>rfl)) (aa (aB js (hr.mono (by decide)) rfl au.pass (aa (pv 7) (aa (aA aE (pv 6) (pv 8) (λ_ _=>rfl)) af (se rfl)) (se rfl)) (he:=se rfl) (hpl:=na rfl)) af (se rfl)) (se rfl)) (he:=se rfl) (hpl:=na rfl)) (dA (pv 6) (pv 5) set_list)))))))
  (ae (ay (i:=9) nd rfl (Or.inr rfl) (aG cq (aB cD (hr.mono (by decide)) rfl au.pass (aa (pv 0) (aa aj af (se rfl)) (se rfl)) (he:=se rfl) (hpl:=na rfl)) (pv 1)))
  (ae (dJ (i:=10) rfl nd rfl rfl (N:=["_law_script","_law_n","_law_turned_here","_law_board_here","_law_picks","_law_place","_law_worths","_law_part","_law_to","_law_start","_law_come","_law_found"]) (so:=ab (top 56)) (N':=["_law_place","_law_start"]) (k:=1) (fr:=[9]) rfl rfl ⟨rfl,by decide +kernel,by decide +kernel,by decide +kernel,rfl,by decide +kernel,by decide +kernel⟩ (cE rfl T.z_range (aa (pv 1) af (se rfl))) (λ_ _ _ _ _=>(aw (i:=0) (show(["_law_place","_law_start"]:List Str).Nodup by decide +kernel) rfl (Or.inl rfl))) (λ_ _ _ _ _=>bf)
   (λ_ _ _ _ _=>(bU (aa (cP ux (by rfl) T.z_int rfl (aa (iQ df (pv 0) (pv 1) (aW _)) af (se rfl)) (he:=se rfl) (hpl:=na rfl)) (aa aj af (se rfl)) (se rfl)))))
  (ae (bL PassesOwn.never rfl (aP (K:=K) (xg (K:=K) (pv 2) (xU tX aj))) (aw (i:=5) nd rfl (Or.inl rfl)) (ao (bL PassesOwn.never rfl (aP (K:=K) (aB jt (hr.mono (by decide)) rfl au.pass (aa (aA aE (pv 3) (pv 5) (λ_ _=>rfl)) (aa (aA aE (pv 4) (pv 5) (λ_ _=>rfl)) af (se rfl)) (se rfl)) (he:=se rfl) (hpl:=na rfl))) (bK (K:=K) (n:=2) rfl (aK (aw (i:=7) nd rfl (Or.inl rfl)) (aK (aw (i:=8) nd rfl (Or.inl rfl)) bJ))) (ao (dB (aB kh (hr.mono (by decide)) rfl au.pass (aa (aA aE (pv 10) (pv 8) (λ_ _=>rfl)) (aa (aB js (hr.mono (by decide)) rfl au.pass (aa (pv 7) (aa (aA aE (pv 10) (pv 5) (λ_ _=>rfl)) af (se rfl)) (se rfl)) (he:=se rfl) (hpl:=na rfl)) af (se rfl)) (se rfl)) (he:=se rfl) (hpl:=na rfl)) (dA (pv 10) (pv 8) set_list))))))
  (ae (ay (i:=11) nd rfl (Or.inl rfl) (aB tI (hr.mono (by decide)) rfl au.pass (aa (cP (bX (K:=K)) (by rfl) T.z_list rfl (aa (pv 3) af (se rfl)) (he:=se rfl) (hpl:=na rfl)) (aa (cP (bX (K:=K)) (by rfl) T.z_list rfl (aa (pv 4) af (se rfl)) (he:=se rfl) (hpl:=na rfl)) af (se rfl)) (se rfl)) (he:=se rfl) (hpl:=na rfl)))
  (ae (bS (PW.pt (pw_or (lR (hX (aB eh (hr.mono (by decide)) rfl au.pass (aa (pv 11) (aa (pv 1) af (se rfl)) (se rfl)) (he:=se rfl) (hpl:=na rfl)))) (pw_or1 (aQ (D3 hr.units) (pv 11) (pv 6) (aW _))))) (ao (aH uY))
   aZ)
  (ae (ay (i:=11) nd rfl (Or.inl rfl) (aB Af (hr.mono (by decide)) rfl au.pass (aa (cP (bX (K:=K)) (by rfl) T.z_list rfl (aa (pv 3) af (se rfl)) (he:=se rfl) (hpl:=na rfl)) (aa (cP (bX (K:=K)) (by rfl) T.z_list rfl (aa (pv 4) af (se rfl)) (he:=se rfl) (hpl:=na rfl)) (aa (pv 9) af (se rfl)) (se rfl)) (se rfl)) (he:=se rfl) (hpl:=na rfl)))
  (ao (aH (xR (aB eh (hr.mono (by decide)) rfl au.pass (aa (pv 11) (aa (pv 1) af (se rfl)) (se rfl)) (he:=se rfl) (hpl:=na rfl)) (xQ (iQ (D1 hr.units) (pv 11) (pv 10) (aW _))))))))))))))))))),?_⟩
  have sl:=sizeLine_eq
  change tSeq _ _ _ _ _
  refine aT (λσ' H1=>H=H1/\∃n:Nat,0<n/\n<=60/\σ'=[some (.ref sa),some (.int (n:Int)),none,none,none,none,none,none,none,none,none,none]) ?_ (λN hN=>?_)
  case refine_2=>
   simp_all only[CK]
   exact⟨ns,hS,by decide,by decide,λc=>⟨by decide,hN _ _ ⟨rfl,(1+c % 60).toNat,by omega,by omega,by rw[Int.toNat_of_nonneg (by omega)]⟩⟩⟩
  rintro _ _ ⟨rfl,n,n0,Jq,rfl⟩
  change tSeq _ _ _ _ _
  refine aT (λσ' H1=>∃l s,ar H H1/\H1 l=some (.lst (List.map cf s))/\s.Perm (List.range s.length)/\s.length=n/\σ'=[some (.ref sa),some (.int (n:Int)),some (.ref l),none,none,none,none,none,none,none,none,none]) ?_ (λN hN=>?_)
  case refine_2=>
   simp_all only[CK,zR]
   refine⟨ns,hS,by decide,by decide,λc=>⟨by omega,by omega,λl H1 s s1 nl hl pm=>?_⟩⟩
   rw[YX] at pm
   have ln:=pm.length_eq
   rw[Ze] at ln
   exact hN _ _ ⟨l,s,s1,hl,by rw[ln];exact pm,ln,rfl⟩
  rintro _ H1 ⟨l,s',s1,hl,pm,rfl,rfl⟩
  change tSeq _ _ _ _ _
  refine aT (λσ' H2=>∃bl b,ar H1 H2/\H1 bl=none/\Rep H2 (w5 b) (.ref bl)/\b.length=s'.length/\(∀(k:Nat) p q,s'[k]?=some p->b[p]?=some q->uP s' k q)/\σ'=[some (.ref sa),some (.int (s'.length:Int)),some (.ref l),some (.ref bl),none,none,none,none,none,none,none,none]) ?_ (λN hN=>?_)
  case refine_2=>
   simp_all only[]
   exact⟨sa,l,ns,s',rfl,s1.seq hS,hl,pm,n0,Jq,λl' H2 b s2 n2 rb lb ok=>hN _ _ ⟨l',b,s2,n2,rb,lb,ok,rfl⟩⟩
  rintro _ H2 ⟨bl,b,s2,YF,rb,lb,ok,rfl⟩
  have B:=Hu pm n0 Jq lb ok
  have xu:=s1.trans s2
  have Av:=s2 _ _ hl
  obtain⟨_,xb,e,xI,CW⟩:=aS.mp rb
  cases e
  have Vy:=CW.length
  rw[YL] at Vy
  generalize GP:(λg:Int=>s'.idxOf g.toNat)=rk at B
  change tSeq _ _ _ _ _
  refine aT (λσ' H3=>∃pl,ar H2 H3/\H2 pl=none/\H3 pl=some (.lst ((List.replicate b.length none).map du))/\σ'=[some (.ref sa),some (.int (s'.length:Int)),some (.ref l),some (.ref bl),some (.ref pl),none,none,none,none,none,none,none]) ?_ (λN hN=>?_)
  case refine_2=>
   simp_all only[]
   refine⟨⟨_,aR.of xI⟩,?_⟩
   refine comp_map (src_list (K:=K) (a:=bl) (xs:=xb) (Ok:=ar H2) (λH' s'=>aR.of (s' _ _ xI))) (λ_ _ _ _ h=>by rw[h.1];exact ar.refl _) (by omega) (λi y H4=>y=.bV) (λ_ _ _ _ _ h=>h) ?_ ?_
   ·rintro i v w0 H4 H5 Q2 hi s4 ⟨rfl,ex⟩ kq
    simp_all only[]
    exact kq _ _ (ar.refl _) rfl
   ·intro ys H3 s3 ly hy D n1 n2
    have ey:ys=(List.replicate b.length none).map du:=by
     rw[List.map_replicate]
     exact List.eq_replicate_iff.mpr ⟨by omega,λx hx=>by obtain⟨i,ei⟩:=Y4 hx;exact hy i x ei⟩
    exact hN _ _ ⟨D,s3.trans (ah n2),none_of s3 n2,by rw[ag,ey],rfl⟩
  rintro _ H3 ⟨pl,s3,Vz,hpl,rfl⟩
  change tSeq _ _ _ _ _
  refine aT (λσ' H4=>ar H2 H4/\∃(ks:List (Option Int)) (z:Option V),H4 pl=some (.lst (ks.map du))/\ks.length=b.length/\(∀(i:Nat) q k,b[i]?=some q->ks[i]?=some k->qy q k)/\σ'=[some (.ref sa),some (.int (s'.length:Int)),some (.ref l),some (.ref bl),some (.ref pl),z,none,none,none,none,none,none]) ?_ (λN hN=>?_)
  case refine_2=>
   simp_all only[]
   refine⟨by omega,by omega,bu (src_range (Ok:=λ_=>True)) (λi σ H4=>ar H2 H4/\∃(ks:List (Option Int)) (z:Option V),H4 pl=some (.lst (ks.map du))/\ks.length=b.length/\(∀(j:Nat) q k,j<i->b[j]?=some q->ks[j]?=some k->qy q k)/\σ=[some (.ref sa),some (.int (s'.length:Int)),some (.ref l),some (.ref bl),some (.ref pl),z,none,none,none,none,none,none]) ⟨s3,_,_,hpl,by rw[ZD],λj q k h=>absurd h (Nat.not_lt_zero _),rfl⟩ (λ_ _ _ _ _=>trivial) ?_ ?_⟩
   ·rintro i x σ H4 H5 hi ⟨s4,ks,z,qE,lk,Ju,rfl⟩ ⟨rfl,rfl⟩
    have qk:i<b.length:=by have:i< ((s'.length:Nat):Int).toNat:=hi;omega
    have eb:b[i]?=some b[i]:=YM qk
    obtain⟨v,ev,rv⟩:=eK CW eb
    have pq:=B.ok _ (Zc qk)
    have rest:qy b[i] (ks.getD i none)->ar H2 H5/\∃(ks:List (Option Int)) (z':Option V),H5 pl=some (.lst (ks.map du))/\ks.length=b.length/\(∀(j:Nat) q k,j<i+1->b[j]?=some q->ks[j]?=some k->qy q k)/\z'=some (V.int (i:Int)):=λpo=>⟨s4,ks,_,qE,lk,λj q k hj e1 e2=>by
     by_cases c:j=i
     ·subst c
      rw[eb] at e1
      cases e1
      rw[YV,e2] at po
      exact po
     ·exact Ju j q k (by omega) e1 e2,rfl⟩
    generalize hq:b[i]=q at *
    cases q with
    | fin g=>
     obtain⟨t,r,rfl,ht,_⟩:=cF.mp rv
     simp_all only[Int.zero_add,s4 _ _ xI,show fK xb (i:Int)=some (.ref t) from bx ev,s4 _ _ ht]
     rw[if_neg (by decide +kernel)]
     obtain⟨q1,q2,q3,q4,q5,q6,q7⟩:=rest trivial
     exact⟨q1,q2,q4,q5,q6,_,rfl⟩
    | gz g ws=>
     obtain⟨t,r,l',zs,rfl,ht,_⟩:=cG.mp rv
     simp_all only[Int.zero_add,s4 _ _ xI,show fK xb (i:Int)=some (.ref t) from bx ev,s4 _ _ ht]
     rw[if_neg (by decide +kernel)]
     obtain⟨q1,q2,q3,q4,q5,q6,q7⟩:=rest trivial
     exact⟨q1,q2,q4,q5,q6,_,rfl⟩
    | ft rC to=>
     obtain⟨t,l',rfl,ht,BB⟩:=cH.mp rv
     simp_all only[Int.zero_add,s4 _ _ xI,show fK xb (i:Int)=some (.ref t) from bx ev,s4 _ _ ht,CK,jf]
     have lt:=pq.2.1
     refine⟨ns,(xu.trans s4).seq hS,by decide,by decide,λc=>⟨_,s4 _ _ BB,by rw[YL];omega,λr r0 r1=>⟨_,qE,i,de (by rw[YL];omega),aO s4 Vz,ks.set i (some r),by rw[ag,List.map_set];rfl,by rw[Y5];exact lk,λj q k hj e1 e2=>?_,_,rfl⟩⟩⟩
     by_cases c:j=i
     ·subst c
      rw[eb] at e1
      cases e1
      rw[Zv (by omega)] at e2
      cases e2
      rw[YL] at r1
      exact⟨r0,r1⟩
     ·rw[Zm (Ne.symm c)] at e2
      exact Ju j q k (by omega) e1 e2
   ·rintro σ H4 ⟨s4,ks,z,qE,lk,Ju,rfl⟩
    exact hN _ _ ⟨s4,ks,_,qE,lk,λi q k e1 e2=>Ju i q k (by have:=(List.getElem?_eq_some_iff.mp e1).1;omega) e1 e2,rfl⟩
  rintro _ H4 ⟨s4,ks,z5,qE,lk,pk,rfl⟩
  change tSeq _ _ _ _ _
  refine aT (λσ' H5=>∃wl,ar H4 H5/\H4 wl=none/\Rep H5 (.lst ((List.replicate b.length ((0,1):Wq.Sh)).map bw)) (.ref wl)/\σ'=[some (.ref sa),some (.int (s'.length:Int)),some (.ref l),some (.ref bl),some (.ref pl),z5,some (.ref wl),none,none,none,none,none]) ?_ (λN hN=>?_)
  case refine_2=>
   simp_all only[]
   refine⟨⟨_,aR.of (s4 _ _ xI)⟩,?_⟩
   refine comp_map (src_list (K:=K) (a:=bl) (xs:=xb) (Ok:=ar H4) (λH' s'=>aR.of (s' _ _ (s4 _ _ xI)))) (λ_ _ _ _ h=>by rw[h.1];exact ar.refl _) (by omega) (λi y H4=>Rep H4 (bw (0,1)) y) (λ_ _ _ _ s5 h=>h.mono s5) ?_ ?_
   ·rintro i v w0 H5 H6 Q2 hi s5 ⟨rfl,ex⟩ kq
    simp_all only[tTupS]
    exact⟨by decide,λp H7 s7 n7 h7=>kq _ _ s7 (bW.mpr ⟨p,rfl,h7⟩)⟩
   ·intro ys H5 s5 ly hy D n1 n2
    refine hN _ _ ⟨D,s5.trans (ah n2),none_of s5 n2,aS.mpr ⟨D,ys,rfl,ag,dk (by rw[ZD];omega) λi y ey x ex=>?_⟩,rfl⟩
    rw[List.eq_of_mem_replicate (YN ex)]
    exact(hy i y ey).mono (ah n2)
  rintro _ H5 ⟨wl,s5,Lc,VA,rfl⟩
  change tSeq _ _ _ _ _
  refine aT (λσ' H6=>ar H4 H6/\∃(ss:List Wq.Sh) (z5 z7 z8:Option V),Rep H6 (.lst (ss.map bw)) (.ref wl)/\ss.length=b.length/\(∀x∈ss,Wq.Lw x)/\(∀p,EqAt b ks p λi=>Dg.vl (Wq.d3 ss i))/\σ'=[some (.ref sa),some (.int (s'.length:Int)),some (.ref l),some (.ref bl),some (.ref pl),z5,some (.ref wl),z7,z8,none,none,none]) ?_ (λN hN=>?_)
  case refine_2=>
   simp_all only[]
   refine⟨⟨_,aR.of (s5 _ _ (s4 _ _ Av))⟩,bu (src_list (K:=K) (a:=l) (xs:=List.map cf s') (Ok:=ar H4) (λH' s=>aR.of (s _ _ (s4 _ _ Av)))) (λi σ H6=>ar H4 H6/\∃(ss:List Wq.Sh) (Z M:Int) (z5 z7 z8:Option V),Rep H6 (.lst (ss.map bw)) (.ref wl)/\Sb b.length i ss Z M/\(∀j p:Nat,i<=j->s'[j]?=some p->ss[p]?=some (0,1))/\(∀j p:Nat,j<i->s'[j]?=some p->EqAt b ks p λi=>Dg.vl (Wq.d3 ss i))/\σ=[some (.ref sa),some (.int (s'.length:Int)),some (.ref l),some (.ref bl),some (.ref pl),z5,some (.ref wl),z7,z8,none,none,none]) ⟨s5,_,12,6,_,_,_,VA,?_,λj p _ ep=>?_,λj p h=>absurd h (Nat.not_lt_zero _),rfl⟩ (λ_ _ _ _ h=>h.1) ?_ ?_⟩
   ·refine⟨ZD,by decide,⟨1,by decide⟩,Bt.of 12 (by decide) (by decide),by decide,Bt.of 6 (by decide) (by decide),λx hx=>?_⟩
    rw[List.eq_of_mem_replicate hx]
    exact⟨⟨by decide,by decide⟩,⟨12,by decide⟩,by unfold Wq.Vb;decide⟩
   ·rw[ZZ,if_pos]
    have:=List.mem_range.mp (pm.mem_iff.mp (YN ep))
    omega
   ·rintro i x σ H6 H7 hi ⟨s6,ss,Z,M,z5,z7,z8,FA,sb,un,dn,rfl⟩ ⟨rfl,ex⟩
    rw[YL] at hi
    have es:s'[i]?=some s'[i]:=YM hi
    rw[YQ,es] at ex
    cases ex
    have hp:s'[i]<b.length:=by have:=List.mem_range.mp (pm.mem_iff.mp (Zc hi));omega
    generalize YG:s'[i]=p at *
    have eb:b[p]?=some b[p]:=YM hp
    have ek:ks[p]?=some ks[p]:=YM (by omega)
    have pq:=B.ok _ (Zc hp)
    have po:=pk _ _ _ eb ek
    generalize hq:b[p]=q at *
    generalize hk:ks[p]=k at *
    obtain⟨eO,wg⟩:=d8 pq po
    have off:=B.off eb po
    obtain⟨v,ev,rv⟩:=eK CW eb
    have FC:fK xb (p:Int)=some v:=bx ev
    have Ld:fK (ks.map du) (p:Int)=some (du k):=jJ (f:=du) ek
    have FD:=s4.trans s6
    have Hl:=FD _ _ xI
    obtain⟨Sq,Z0,Sr,bZ,M6,bM,FE⟩:=id sb
    have gg:=gY pq
    have VB:Sz Z M (Wq.cu q):=by
     obtain⟨g1,g2,g3,g4⟩:=gg
     refine⟨g4,Int.dvd_trans (zO g4.1 g3) Sr,?_⟩
     have:=g4.1
     have m1:M*1<=M* (Wq.cu q).2:=Int.mul_le_mul_of_nonneg_left (by omega) (by omega)
     unfold Wq.Vb
     omega
    change tSeq _ _ _ _ _
    refine aT (λσ' H8=>ar H4 H8/\Rep H8 (.lst ((ss.set p (Wq.cu q)).map bw)) (.ref wl)/\σ'=[some (.ref sa),some (.int (s'.length:Int)),some (.ref l),some (.ref bl),some (.ref pl),some (cf p),some (.ref wl),z7,z8,none,none,none]) ?_ (λN2 Lf=>?_)
    case refine_2=>
     obtain⟨_,us,e,Cr,ru⟩:=aS.mp FA
     cases e
     have lu:=ru.length
     rw[YL] at lu
     cases q with
     | fin g=>
      obtain⟨t,r,rfl,ht,sZ⟩:=cF.mp rv
      simp_all only[cf,Hl,FC,FD _ _ ht]
      rw[if_pos (by decide +kernel)]
      exact⟨_,Cr,p,de (by omega),Lf _ _ ⟨aO s6 Lc,jo (q':=g) Cr ru (FD _ _ sZ),rfl⟩⟩
     | gz g ws=>
      obtain⟨t,r,l',zs,rfl,ht,sZ,_⟩:=cG.mp rv
      simp_all only[cf,Hl,FC,FD _ _ ht]
      rw[if_pos (by decide +kernel)]
      exact⟨_,Cr,p,de (by omega),Lf _ _ ⟨aO s6 Lc,jo (q':=g) Cr ru (FD _ _ sZ),rfl⟩⟩
     | ft rC to=>
      obtain⟨t,l',rfl,ht,BB⟩:=cH.mp rv
      simp_all only[cf,Hl,FC,FD _ _ ht]
      rw[if_neg (by simp)]
      exact Lf _ _ ⟨s6,by rw[show Wq.cu (.ft rC to)=(0,1) from rfl,set_same (un i p (YO _) es)];exact FA,rfl⟩
    rintro _ H8 ⟨s8,Ss,rfl⟩
    have B9:=s4.trans s8
    simp_all only[cf,B9 _ _ xI,FC,s8 _ _ qE,Ld,v5]
    refine⟨q,b.length,k,rfl,rv.mono B9,pq,po,λuo us H9 s9 Ag HE Lg ptr=>⟨⟨_,aR.of HE⟩,?_⟩⟩
    generalize Su:gX q k=ws at *
    obtain⟨d0,d1⟩:=eO.tt
    have w3:=eO.1
    have Z1:0<Z*Dg.tt ws:=Y9 Z0 (by omega)
    have HF:Bt 1900 (Z*Dg.tt ws):=Bt.mono (Dg.Bt.zA bZ d0 d1) (by omega)
    have Fe:∀c:Int,0<=c->c<=4->Bt 1900 (c*M):=λc c0 c1=>Bt.mono ((Bt.of (n:=3) 4 (by omega) (by omega)).mul bM) (by omega)
    obtain⟨_,VC,e,HG,_⟩:=aS.mp Ss
    cases e
    have pw:uo≠wl:=λz=>by rw[z,HG] at Ag;cases Ag
    have Lh:=s9 _ _ HG
    have tn:∀{t:Addr} {zs:List V},H9 t=some (.tup zs)->o6 H9 wl t=some (.tup zs):=λht=>by rw[cJ (λz=>by rw[z,Lh] at ht;cases ht)];exact ht
    refine bu (src_list (K:=K) (a:=uo) (xs:=us) (Ok:=λH'=>H' uo=some (.lst us)) (λH' h=>aR.of h)) (λj σ HA=>ar H4 HA/\ar (o6 H9 wl) HA/\Rep HA (.lst ((ss.set p (Wq.mV (Dg.tt ws) (Wq.d3 ss) (Wq.cu q) (ws.take j))).map bw)) (.ref wl)/\Sz (Z*Dg.tt ws) (((j:Int)+1)*M) (Wq.mV (Dg.tt ws) (Wq.d3 ss) (Wq.cu q) (ws.take j))/\∃z7 z8,σ=[some (.ref sa),some (.int (s'.length:Int)),some (.ref l),some (.ref bl),some (.ref pl),some (.int (p:Int)),some (.ref wl),z7,z8,none,none,none]) ⟨s8.trans s9,gP,Ss.mono s9,VB.up (Int.dvd_mul_right _ _) (by show M<=((0:Int)+1)*M;omega),_,_,rfl⟩ (λ_ _ _ _ h=>h.2.1 _ _ (by rw[cJ pw];exact HE)) ?_ ?_
    ·rintro j y σ HA HB hj ⟨sA,sB,rA,AF,z7,z8,rfl⟩ ⟨rfl,ey⟩
     have ej:ws[j]?=some ws[j]:=YM (by omega)
     obtain⟨t,r,rfl,ht,sZ⟩:=ptr j _ _ ej ey
     have B6:=sB _ _ (tn ht)
     have AE:=sB _ _ (tn sZ)
     have mj:ws[j]∈ws:=Zc (show j<ws.length by omega)
     obtain⟨x1,x2,x3,x4⟩:=eO.2 _ mj
     have K8:=off _ mj
     have tk:ws.take (j+1)=ws.take j++ [ws[j]]:=by rw[Za,ej];rfl
     rw[tk,Wq.pB]
     generalize Wq.mV (Dg.tt ws) (Wq.d3 ss) (Wq.cu q) (ws.take j)=X at *
     generalize VD:ws[j]=x at *
     obtain⟨Ff,AG⟩:=ZA x3
     refine⟨t,_,rfl,dH.of B6,rfl,?_⟩
     obtain⟨_,zs,e,Fg,ru⟩:=aS.mp rA
     cases e
     have lz:=ru.length
     rw[YL,Y5] at lz
     obtain⟨px,Li,Lj⟩:=cI (a:=X) ru (Zv (by omega))
     have Jv:(ss.set p X)[Ff]?=some (Wq.d3 ss x.2):=by
      rw[Zm (by omega)]
      have:=gJ (ss:=ss) x3 (by omega)
      rwa [AG,YX,<-AG] at this
     obtain⟨pt,Lk,DY⟩:=cI ru Jv
     have FF:Sz Z M (Wq.d3 ss x.2):=FE _ (YN (gJ (ss:=ss) x3 (by omega)))
     have Ll:x.1<=Dg.tt ws:=by
      exact CY (λy hy=>(eO.2 y hy).1) mj
     obtain⟨Jw,HH⟩:=AF.acc FF Z0 (by omega) (by omega) Ll (by omega)
     simp_all only[vY,vZ,Fg,show fK zs (p:Int)=some (.ref px) from bx Li,show fK zs x.2=some (.ref pt) from by rw[AG];exact bx Lk]
     have e1:((j:Int)+1)*M+M=(((j+1:Nat):Int)+1)*M:=by
      rw[show(((j+1:Nat):Int)+1)=((j:Int)+1)+1 by omega,Int.add_mul ((j:Int)+1),Int.one_mul]
     rw[e1] at HH
     refine⟨Wq.low x.1 (Dg.tt ws),AE,Wq.d3 ss x.2,DY,Ab (by omega) (by omega) (by omega) (by omega),FF.rm Z0 (bZ.mono (by omega)) (by omega) (by have:=Fe 1 (by decide) (by decide);rwa [Int.one_mul] at this),λr3 HC sC nC hC=>⟨X,sC _ _ Lj,_,hC,AF.rm Z1 HF (Int.mul_nonneg (by omega) (by omega)) (Fe _ (by omega) (by omega)),Jw.rm Z1 HF (by omega) (by have:=Fe 1 (by decide) (by decide);rwa [Int.one_mul] at this),λr4 HD sD nD hD=>?_⟩⟩
     have Ah:=sC.trans sD
     refine⟨_,Ah _ _ Fg,p,de (by omega),aO (sA.trans Ah) Lc,?_,?_,HH,_,rfl⟩
     ·exact aO (sB.trans Ah) (if_pos rfl)
     ·have:=jo (k:=p) (Ah _ _ Fg) (ru.mono Ah) hD
      rw[List.set_set] at this
      exact this
    ·rintro σ HA ⟨sA,sB,rA,AF,z7,z8,rfl⟩
     rw[Y6 (by omega)] at rA AF
     refine⟨sA,_,rA,Z*Dg.tt ws,4*M,sb.next d0 d1 (by rw[Y5];exact Sq) (λx hx=>?_),λj p' hj ju=>?_,λj p' hj ju=>?_,_,_,_,rfl⟩
     ·rcases List.mem_or_eq_of_mem_set hx with hx | rfl
      ·exact(FE x hx).up (Int.dvd_mul_right _ _) (by omega)
      ·refine AF.up (Int.dvd_refl _) ?_
       rw[Lg]
       exact Z3 (by omega) (by omega)
     ·rw[Zm (λz=>?_)]
      ·exact un j p' (by omega) ju
      ·have:=Lv.jL pm (z▸es) ju
       omega
     ·by_cases c:j=i
      ·subst c
       rw[es] at ju
       cases ju
       have:=Ac (ss:=ss) B eb ek po (by omega) λx hx=>(FE x hx).1.1
       rw[Su] at this
       exact this
      ·refine xy (λz=>c (Lv.jL pm ju (z▸es))) (dn j p' (by omega) ju) λq' k' e1 e2 y hy=>⟨?_,wb pm ok pk es ju (by omega) e1 e2 y hy⟩
       exact((d8 (B.ok _ (YN e1)) (pk _ _ _ e1 e2)).1.2 y hy).2.2.1
   ·rintro σ H6 ⟨s6,ss,Z,M,z5,z7,z8,FA,sb,un,dn,rfl⟩
    refine hN _ _ ⟨s6,ss,z5,z7,z8,FA,sb.1,λx hx=>(sb.2.2.2.2.2.2 x hx).1,λp q k e ek=>?_,rfl⟩
    have hp:=(List.getElem?_eq_some_iff.mp e).1
    obtain⟨j,ej⟩:=Y4 (pm.mem_iff.mpr (List.mem_range.mpr (by omega:p<s'.length)))
    exact dn j p (by have:=(List.getElem?_eq_some_iff.mp ej).1;rw[YL];exact this) ej q k e ek
  rintro _ H6 ⟨s6,ss,z5,z7,z8,FA,Sq,Lm,VE,rfl⟩
  change tSeq _ _ _ _ _
  refine aT (λσ' H7=>H6=H7/\∃st:Nat,st<b.length/\σ'=[some (.ref sa),some (.int (s'.length:Int)),some (.ref l),some (.ref bl),some (.ref pl),z5,some (.ref wl),z7,z8,some (.int (st:Int)),none,none]) ?_ (λN hN=>?_)
  case refine_2=>
   simp_all only[CK]
   refine⟨ns,(xu.trans (s4.trans s6)).seq hS,by decide,by decide,λc=>⟨by omega,hN _ _ ⟨rfl,(c % (s'.length:Int)).toNat,?_,?_⟩⟩⟩
   ·have:=ZX c (show(0:Int)<s'.length by omega)
    omega
   ·rw[Int.toNat_of_nonneg (ZK _ (by omega))]
  rintro _ _ ⟨rfl,st,hst,rfl⟩
  change tSeq _ _ _ _ _
  refine aT (λσ' H7=>∃cl,ar H6 H7/\H6 cl=none/\Rep H7 (.lst (((List.range b.length).map fun(i:Nat)=>((if i=st then 1 else 0,1):Wq.Sh)).map bw)) (.ref cl)/\σ'=[some (.ref sa),some (.int (s'.length:Int)),some (.ref l),some (.ref bl),some (.ref pl),z5,some (.ref wl),z7,z8,some (.int (st:Int)),some (.ref cl),none]) ?_ (λN hN=>?_)
  case refine_2=>
   simp_all only[]
   refine⟨by omega,by omega,?_⟩
   refine comp_map src_range (λ_ _ _ _ h=>by rw[h.1];exact ar.refl _) (by omega) (λi y H7=>Rep H7 (bw (if i=st then 1 else 0,1)) y) (λ_ _ _ _ s5 h=>h.mono s5) ?_ ?_
   ·rintro i x w0 H7 H8 Q2 hi s7 ⟨rfl,rfl⟩ kq
    simp_all only[tTupS,Int.zero_add]
    refine⟨by decide,λp H9 s9 n9 h9=>kq _ _ s9 (bW.mpr ⟨p,rfl,?_⟩)⟩
    rw[h9]
    by_cases c:i=st
    ·rw[if_pos c,if_pos (by rw[c])]
    ·rw[if_neg c,if_neg (by omega)]
   ·intro ys H7 s7 ly hy D n1 n2
    refine hN _ _ ⟨D,s7.trans (ah n2),none_of s7 n2,aS.mpr ⟨D,ys,rfl,ag,dk (by rw[YL,Ze];omega) λi y ey x ex=>?_⟩,rfl⟩
    have hi:i<b.length:=by have:=(List.getElem?_eq_some_iff.mp ey).1;omega
    rw[YQ,ZT hi] at ex
    cases ex
    exact(hy i y ey).mono (ah n2)
  rintro _ H7 ⟨cl,s7,VF,Sv,rfl⟩
  change tSeq _ _ _ _ _
  refine aT (λσ' H8=>ar H6 H8/\∃(cs:List Wq.Sh) (z5 z7 z8:Option V),Rep H8 (.lst (cs.map bw)) (.ref cl)/\cs.length=b.length/\(∀x∈cs,Wq.Lw x)/\Dg.Runs (oE b ks) ((s'.map fun(i:Nat)=>(i:Int)).reverse) (λq=>if q=(st:Int) then 1 else 0) (λq=>Dg.vl (Wq.d3 cs q))/\σ'=[some (.ref sa),some (.int (s'.length:Int)),some (.ref l),some (.ref bl),some (.ref pl),z5,some (.ref wl),z7,z8,some (.int (st:Int)),some (.ref cl),none]) ?_ (λN hN=>?_)
  case refine_2=>
   simp_all only[Ee]
   have VG:=s7 _ _ (s6 _ _ (s4 _ _ Av))
   refine⟨_,aR.of VG,λrl Ln=>?_⟩
   have sR:=ah (o:=.lst (List.map cf s').reverse) Ln
   have hR:upd H7 rl (.lst (List.map cf s').reverse) rl=some (.lst (List.map cf s').reverse):=ag
   generalize upd H7 rl (.lst (List.map cf s').reverse)=HR at *
   have VH:=s7.trans sR
   have VI:=Sv.mono sR
   obtain⟨_,xc,e,HJ,_⟩:=aS.mp Sv
   cases e
   have Lo:rl≠cl:=λz=>by rw[z,HJ] at Ln;cases Ln
   have VJ:=sR _ _ HJ
   generalize Sw:(s'.map fun(i:Nat)=>(i:Int)).reverse=os at *
   have YH:os.length=s'.length:=by rw[<-Sw,ZP,YL]
   have Lp:∀{i p:Nat},i<s'.length->s'[s'.length - 1 - i]?=some p->os[i]?=some (p:Int):=λ{i p} hi e=>by
    rw[<-Sw,List.getElem?_reverse (by rw[YL];exact hi),YL,YQ,e]
    rfl
   refine⟨⟨_,aR.of hR⟩,bu (src_list (K:=K) (a:=rl) (xs:=(List.map cf s').reverse) (Ok:=λH'=>H' rl=some (.lst (List.map cf s').reverse)) (λH' h=>aR.of h)) (λi σ H8=>ar H6 H8/\ar (o6 HR cl) H8/\∃(cs:List Wq.Sh) (Z M:Int) (z5 z7 z8:Option V),Rep H8 (.lst (cs.map bw)) (.ref cl)/\Sb b.length i cs Z M/\Dg.Runs (oE b ks) (os.take i) (λq=>if q=(st:Int) then 1 else 0) (λq=>Dg.vl (Wq.d3 cs q))/\σ=[some (.ref sa),some (.int (s'.length:Int)),some (.ref l),some (.ref bl),some (.ref pl),z5,some (.ref wl),z7,z8,some (.int (st:Int)),some (.ref cl),none]) ⟨VH,gP,_,12,6,_,_,_,VI,?_,λq q0=>?_,rfl⟩ (λ_ _ _ _ h=>h.2.1 _ _ (by rw[cJ Lo];exact hR)) ?_ ?_⟩
   ·refine⟨by rw[YL,Ze],by decide,⟨1,by decide⟩,Bt.of 12 (by decide) (by decide),by decide,Bt.of 6 (by decide) (by decide),λx hx=>?_⟩
    obtain⟨m,_,rfl⟩:=List.mem_map.mp hx
    by_cases c:m=st
    ·rw[if_pos c]
     exact⟨⟨by decide,by decide⟩,⟨12,by decide⟩,by unfold Wq.Vb;decide⟩
    ·rw[if_neg c]
     exact⟨⟨by decide,by decide⟩,⟨12,by decide⟩,by unfold Wq.Vb;decide⟩
   ·dsimp only
    by_cases c:q.toNat<b.length
    ·have e:Wq.d3 ((List.range b.length).map fun(i:Nat)=>((if i=st then 1 else 0,1):Wq.Sh)) q=(if q.toNat=st then 1 else 0,1):=by
      unfold Wq.d3
      rw[YV,YQ,ZT c]
      rfl
     rw[e]
     by_cases c2:q=(st:Int)
     ·rw[if_pos c2,if_pos (by omega)]
      exact Dg.RZ
     ·rw[if_neg c2,if_neg (by omega)]
      exact Dg.KN
    ·rw[if_neg (by omega)]
     unfold Wq.d3
     rw[YV,Y1 (by rw[YL,Ze];omega)]
     exact Dg.KN
   ·rintro i x σ H8 H9 hi ⟨s8,Sx,cs,Z,M,z5,z7,z8,FG,sb,rn,rfl⟩ ⟨rfl,ex⟩
    rw[ZP,YL] at hi
    obtain⟨p,es⟩:∃p,s'[s'.length - 1 - i]?=some p:=⟨_,YM (by omega)⟩
    rw[List.getElem?_reverse (by rw[YL];exact hi),YL,YQ,es] at ex
    cases ex
    have hp:p<b.length:=by have:=List.mem_range.mp (pm.mem_iff.mp (YN es));omega
    have eb:b[p]?=some b[p]:=YM hp
    have ek:ks[p]?=some ks[p]:=YM (by omega)
    have pq:=B.ok _ (Zc hp)
    have po:=pk _ _ _ eb ek
    generalize hq:b[p]=q at *
    generalize hk:ks[p]=k at *
    obtain⟨eO,wg⟩:=d8 pq po
    have off:=B.off eb po
    have wF:=je eb ek
    obtain⟨v,ev,rv⟩:=eK CW eb
    have FC:fK xb (p:Int)=some v:=bx ev
    have Ld:fK (ks.map du) (p:Int)=some (du k):=jJ (f:=du) ek
    have B9:=s4.trans (s6.trans s8)
    obtain⟨lcs,Z0,Sr,bZ,M6,bM,FE⟩:=id sb
    simp_all only[cf,B9 _ _ xI,FC,(s6.trans s8) _ _ qE,Ld,v5]
    refine⟨q,b.length,k,rfl,rv.mono B9,pq,po,λuo us HX sX Ag HE Lg ptr=>⟨⟨_,aR.of HE⟩,?_⟩⟩
    generalize Su:gX q k=ws at *
    obtain⟨d0,d1⟩:=eO.tt
    have w3:=eO.1
    have Z1:0<Z*Dg.tt ws:=Y9 Z0 (by omega)
    have HF:Bt 1900 (Z*Dg.tt ws):=Bt.mono (Dg.Bt.zA bZ d0 d1) (by omega)
    have Fe:∀c:Int,0<=c->c<=4->Bt 1900 (c*M):=λc c0 c1=>Bt.mono ((Bt.of (n:=3) 4 (by omega) (by omega)).mul bM) (by omega)
    obtain⟨_,VC,e,HK,_⟩:=aS.mp FG
    cases e
    have pw:uo≠cl:=λz=>by rw[z,HK] at Ag;cases Ag
    have Lq:=sX _ _ HK
    have tn:∀{t:Addr} {zs:List V},HX t=some (.tup zs)->o6 HX cl t=some (.tup zs):=λht=>by rw[cJ (λz=>by rw[z,Lq] at ht;cases ht)];exact ht
    have Sy:cs[p]?=some (Wq.d3 cs (p:Int)):=by have:=gJ (ss:=cs) (q:=(p:Int)) (by omega) (by omega);rwa [YX] at this
    have FF:Sz Z M (Wq.d3 cs (p:Int)):=FE _ (YN Sy)
    refine bu (src_list (K:=K) (a:=uo) (xs:=us) (Ok:=λH'=>H' uo=some (.lst us)) (λH' h=>aR.of h)) (λj σ HA=>ar H6 HA/\ar (o6 HX cl) HA/\∃tJ:List Wq.Sh,Rep HA (.lst (tJ.map bw)) (.ref cl)/\tJ.length=b.length/\(∀x∈tJ,Sz (Z*Dg.tt ws) (((j:Int)+1)*M) x)/\tJ[p]?=cs[p]?/\(∀q,0<=q->Dg.vl (Wq.d3 tJ q)=Dg.vl (Wq.d3 cs q)+Dg.vl (Wq.d3 cs (p:Int))*Dg.pr (Dg.tt ws) q (ws.take j))/\∃z7 z8,σ=[some (.ref sa),some (.int (s'.length:Int)),some (.ref l),some (.ref bl),some (.ref pl),some (.int (p:Int)),some (.ref wl),z7,z8,some (.int (st:Int)),some (.ref cl),none]) ⟨s8.trans sX,gP,cs,FG.mono sX,lcs,λx hx=>(FE x hx).up (Int.dvd_mul_right _ _) (by show M<=((0:Int)+1)*M;omega),rfl,λq q0=>by show _=_+_*0;grind,_,_,rfl⟩ (λ_ _ _ _ h=>h.2.1 _ _ (by rw[cJ pw];exact HE)) ?_ ?_
    ·rintro j y σ HA HB hj ⟨sA,sB,tJ,rA,Fh,AF,Ai,HL,z7,z8,rfl⟩ ⟨rfl,ey⟩
     have ej:ws[j]?=some ws[j]:=YM (by omega)
     obtain⟨t,r,rfl,ht,sZ⟩:=ptr j _ _ ej ey
     have B6:=sB _ _ (tn ht)
     have AE:=sB _ _ (tn sZ)
     have mj:ws[j]∈ws:=Zc (show j<ws.length by omega)
     obtain⟨x1,x2,x3,x4⟩:=eO.2 _ mj
     have K8:=off _ mj
     have tk:ws.take (j+1)=ws.take j++ [ws[j]]:=by rw[Za,ej];rfl
     generalize VD:ws[j]=x at *
     obtain⟨Ff,AG⟩:=ZA x3
     refine⟨t,_,rfl,dH.of B6,rfl,?_⟩
     obtain⟨_,zs,e,Fg,ru⟩:=aS.mp rA
     cases e
     have lz:=ru.length
     rw[YL] at lz
     obtain⟨px,Li,Lj⟩:=cI ru (Ai.trans Sy)
     have Jv:tJ[Ff]?=some (Wq.d3 tJ x.2):=by
      have:=gJ (ss:=tJ) x3 (by omega)
      rwa [AG,YX,<-AG] at this
     obtain⟨pt,Lk,DY⟩:=cI ru Jv
     have Lr:=AF _ (YN Jv)
     have Ll:x.1<=Dg.tt ws:=CY (λy hy=>(eO.2 y hy).1) mj
     obtain⟨Jw,HH⟩:=Lr.acc FF Z0 (by omega) (by omega) Ll (by omega)
     have e1:((j:Int)+1)*M+M=(((j+1:Nat):Int)+1)*M:=by
      rw[show(((j+1:Nat):Int)+1)=((j:Int)+1)+1 by omega,Int.add_mul ((j:Int)+1),Int.one_mul]
     rw[e1] at HH
     simp_all only[vY,vZ,Fg,show fK zs (p:Int)=some (.ref px) from bx Li,show fK zs x.2=some (.ref pt) from by rw[AG];exact bx Lk]
     refine⟨Wq.low x.1 (Dg.tt ws),AE,Wq.d3 cs (p:Int),Lj,Ab (by omega) (by omega) (by omega) (by omega),FF.rm Z0 (bZ.mono (by omega)) (by omega) (by have:=Fe 1 (by decide) (by decide);rwa [Int.one_mul] at this),λr3 HC sC nC hC=>⟨Wq.d3 tJ x.2,sC _ _ DY,_,hC,Lr.rm Z1 HF (Int.mul_nonneg (by omega) (by omega)) (Fe _ (by omega) (by omega)),Jw.rm Z1 HF (by omega) (by have:=Fe 1 (by decide) (by decide);rwa [Int.one_mul] at this),λr4 HD sD nD hD=>?_⟩⟩
     have Ah:=sC.trans sD
     have ix:wK zs.length x.2=some Ff:=by rw[AG];exact de (by omega)
     refine⟨_,Ah _ _ Fg,Ff,ix,aO (sA.trans Ah) VF,aO (sB.trans Ah) (if_pos rfl),tJ.set Ff (Wq.pl (Wq.d3 tJ x.2) (Wq.tm (Wq.low x.1 (Dg.tt ws)) (Wq.d3 cs (p:Int)))),jo (k:=Ff) (Ah _ _ Fg) (ru.mono Ah) hD,by rw[Y5];exact Fh,λy hy=>?_,?_,λq' q0=>?_,_,rfl⟩
     ·rcases List.mem_or_eq_of_mem_set hy with hy | rfl
      ·exact(AF y hy).up (Int.dvd_refl _) (by rw[<-e1];omega)
      ·exact HH
     ·rw[Zm (by omega)]
      exact Ai
     ·rw[tk,Dg.vS]
      have dd:0<Dg.tt ws:=by omega
      by_cases c:x.2=q'
      ·rw[if_pos c,<-c,AG,nP (by omega),<-AG,Dg.CH Lr.1.1 Jw.1.1,Dg.CI (Wq.c9 (a:=x.1) dd).1 FF.1.1,Dg.nv dd,HL x.2 x3]
       grind
      ·rw[if_neg c,fJ (by omega),HL q' q0]
       grind
    ·rintro σ HA ⟨sA,sB,tJ,rA,Fh,AF,Ai,HL,z7,z8,rfl⟩
     rw[Y6 (by omega)] at HL
     refine⟨sA,?_,tJ,rA,Z*Dg.tt ws,4*M,sb.next d0 d1 Fh (λx hx=>?_),?_,_,_,_,rfl⟩
     ·exact λa o h=>by
       have ac:a≠cl:=λz=>by rw[z,show o6 HR cl cl=none from if_pos rfl] at h;cases h
       exact sB _ _ (by rw[cJ ac];exact sX _ _ (Sx _ _ h))
     ·refine(AF x hx).up (Int.dvd_refl _) ?_
      rw[Lg]
      exact Z3 (by omega) (by omega)
     ·rw[Za,Lp hi es]
      refine rn.snoc (by omega) λq' q0=>?_
      rw[wF]
      exact HL q' q0
   ·rintro σ H8 ⟨s8,Sx,cs,Z,M,z5,z7,z8,FG,sb,rn,rfl⟩
    rw[ZP,YL,Y6 (by omega)] at rn
    exact hN _ _ ⟨s8,cs,z5,z7,z8,FG,sb.1,λx hx=>(sb.2.2.2.2.2.2 x hx).1,rn,rfl⟩
  clear z5 z7 z8
  rintro _ H8 ⟨s8,cs,z5,z7,z8,FG,lcs,Ls,VL,rfl⟩
  have SA:=xu.trans (s4.trans (s6.trans s8))
  have B9:=s4.trans (s6.trans s8)
  change tSeq _ _ _ _ _
  refine aT (λσ' H9=>∃fl,ar H8 H9/\Rep H9 (.lst (ss.map bw)) (.ref fl)/\(∀x∈ss,Bt 5000 x.2)/\σ'=[some (.ref sa),some (.int (s'.length:Int)),some (.ref l),some (.ref bl),some (.ref pl),z5,some (.ref wl),z7,z8,some (.int (st:Int)),some (.ref cl),some (.ref fl)]) ?_ (λN hN=>?_)
  case refine_2=>
   simp_all only[]
   refine⟨_,.inl (aR.of (B9 _ _ xI)),λl1 n1=>⟨_,.inl (aR.of (ah n1 _ _ ((s6.trans s8) _ _ qE))),λl2 n2=>?_⟩⟩
   have sU:=(ah (o:=.lst xb) n1).trans (ah (o:=.lst (ks.map du)) n2)
   have h1:upd (upd H8 l1 (.lst xb)) l2 (.lst (ks.map du)) l1=some (.lst xb):=ah n2 _ _ ag
   have h2:upd (upd H8 l1 (.lst xb)) l2 (.lst (ks.map du)) l2=some (.lst (ks.map du)):=ag
   generalize upd (upd H8 l1 (.lst xb)) l2 (.lst (ks.map du))=HU at *
   refine⟨l1,l2,b,rk,ks,rfl,aS.mpr ⟨l1,xb,rfl,h1,CW.mono (B9.trans sU)⟩,B,h2,lk,pk,(SA.trans sU) _ _ j8,λfl Fy H9 s9 VM xA VN HM Jm=>?_⟩
   have VO:Fy=ss:=by
    apply ZO
    intro p
    by_cases hp:p<b.length
    ·have a1:=gJ (ss:=Fy) (q:=(p:Int)) (by omega) (by omega)
     have a2:=gJ (ss:=ss) (q:=(p:Int)) (by omega) (by omega)
     rw[YX] at a1 a2
     rw[a1,a2]
     congr 1
     exact Dg.zy (HM _ (YN a1)).1 (Lm _ (YN a2)) (vX B lk pk Jm VE _ p (Zq _) hp)
    ·rw[Y1 (by omega),Y1 (by omega)]
   subst VO
   exact hN _ _ ⟨fl,sU.trans s9,xA,λx hx=>(HM x hx).2,rfl⟩
  rintro _ H9 ⟨fl,s9,xA,VP,rfl⟩
  have Lu:=FA.mono (s8.trans s9)
  have YI:=B.len
  change tSeq _ _ _ _ _
  refine aT (λσ' HA=>ar H9 HA/\σ'=[some (.ref sa),some (.int (s'.length:Int)),some (.ref l),some (.ref bl),some (.ref pl),z5,some (.ref wl),z7,z8,some (.int (st:Int)),some (.ref cl),some (.ref fl)]) ?_ (λN hN=>?_)
  case refine_2=>
   simp_all only[v3]
   refine⟨ss,by omega,xA,by omega,λx hx=>⟨(Lm x hx).1,VP x hx,(Lm x hx).2⟩,λHA sA=>?_⟩
   rw[if_neg (by decide)]
   refine⟨_,xA.mono sA,Lu.mono sA,⟨_,rfl⟩,tG _,_,rfl,?_⟩
   rw[if_neg (by decide)]
   exact hN _ _ ⟨sA,rfl⟩
  rintro _ HA ⟨sA,rfl⟩
  have VQ:=SA.trans (s9.trans sA)
  have SD:=B9.trans (s9.trans sA)
  change tSeq _ _ _ _ _
  refine aT (λσ' HB=>∃fl,ar HA HB/\Rep HB (.lst (cs.map bw)) (.ref fl)/\(∀x∈cs,Bt 5000 x.2)/\σ'=[some (.ref sa),some (.int (s'.length:Int)),some (.ref l),some (.ref bl),some (.ref pl),z5,some (.ref wl),z7,z8,some (.int (st:Int)),some (.ref cl),some (.ref fl)]) ?_ (λN hN=>?_)
  case refine_2=>
   simp_all only[]
   refine⟨_,.inl (aR.of (SD _ _ xI)),λl1 n1=>⟨_,.inl (aR.of (ah n1 _ _ ((s6.trans (s8.trans (s9.trans sA))) _ _ qE))),λl2 n2=>?_⟩⟩
   have sU:=(ah (o:=.lst xb) n1).trans (ah (o:=.lst (ks.map du)) n2)
   have h1:upd (upd HA l1 (.lst xb)) l2 (.lst (ks.map du)) l1=some (.lst xb):=ah n2 _ _ ag
   have h2:upd (upd HA l1 (.lst xb)) l2 (.lst (ks.map du)) l2=some (.lst (ks.map du)):=ag
   generalize upd (upd HA l1 (.lst xb)) l2 (.lst (ks.map du))=HU at *
   refine⟨l1,l2,st,b,rk,ks,rfl,aS.mpr ⟨l1,xb,rfl,h1,CW.mono (SD.trans sU)⟩,B,h2,lk,pk,(VQ.trans sU) _ _ j8,hst,λfl tJ os HB sB VM xA VN HM SE VR VS=>?_⟩
   have VT:tJ=cs:=by
    have SF:=tH pm lb ok lk pk s'.length (YO _)
    rw[Y6 (YO _)] at SF
    have VU:((s'.map fun(i:Nat)=>(i:Int)).reverse).Perm ((List.range b.length).map fun(i:Nat)=>(i:Int)):=by
     rw[lb]
     exact(List.reverse_perm _).trans (pm.map _)
    have tq:∀r∈os,∃p:Nat,p<b.length/\r=(p:Int):=λr hr=>by
     obtain⟨p,hp,e⟩:=List.mem_map.mp (SE.mem_iff.mp hr)
     exact⟨p,List.mem_range.mp hp,e.symm⟩
    apply ZO
    intro p
    by_cases hp:p<b.length
    ·have a1:=gJ (ss:=tJ) (q:=(p:Int)) (by omega) (by omega)
     have a2:=gJ (ss:=cs) (q:=(p:Int)) (by omega) (by omega)
     rw[YX] at a1 a2
     rw[a1,a2]
     congr 1
     refine Dg.zy (HM _ (YN a1)).1 (Ls _ (YN a2)) (Dg.Runs.uniq VS VL VR SF (SE.trans VU.symm) (λ_ _=>rfl) rk s'.length (λr hr=>?_) (λr hr x hx=>?_) s'.length (p:Int) (by omega) (by omega))
     ·obtain⟨p',jI,rfl⟩:=tq r hr
      refine⟨?_,by omega⟩
      rw[<-GP]
      show s'.idxOf ((p':Int)).toNat<_
      rw[YX]
      exact ZW (pm.mem_iff.mpr (List.mem_range.mpr (by omega)))
     ·obtain⟨p',jI,rfl⟩:=tq r hr
      have e:b[p']?=some b[p']:=YM jI
      have ek:ks[p']?=some ks[p']:=YM (by omega)
      rw[je e ek] at hx
      exact B.dn.dn p' _ e _ ((d8 (B.ok _ (Zc jI)) (pk _ _ _ e ek)).2 x hx)
    ·rw[Y1 (by omega),Y1 (by omega)]
   subst VT
   exact hN _ _ ⟨fl,sU.trans sB,xA,λx hx=>(HM x hx).2,rfl⟩
  rintro _ HB ⟨YJ,sB,HN,VW,rfl⟩
  simp_all only[v3]
  refine⟨cs,by omega,HN,by omega,λx hx=>⟨(Ls x hx).1,VW x hx,(Ls x hx).2⟩,λHC sC=>⟨_,HN.mono sC,FG.mono (s9.trans (sA.trans (sB.trans sC))),⟨_,rfl⟩,tG _,kk _⟩⟩
end
theorem all_mk {l:PySem.W.OpenLaw} {w:World} {K:PySem.W.Frag} {h:Heap} {mg:Str->Option Value} {fa:Addr} (X:K.In h) (G:h.Ns mainGlobals mg) (VX:mg "law"=some (.ref fa))
  {f0:Addr} {VY VZ:Option Addr} {V1:Array (Option Value)} {V2 V3 V4 V5 SH V6:Value} {f1:Addr} {V7 V8:Option Addr} {V9:Array (Option Value)} {Wa Wb Wc Wd SI We:Value} {f2:Addr} {Wf Wg:Option Addr} {Wh:Array (Option Value)} {Wi Wj Wk KW SJ Wl:Value} {f3:Addr} {Wm Wn:Option Addr} {Wo:Array (Option Value)} {Wp Wr Wt Wu SK Wv:Value} {f4:Addr} {Ww Wx:Option Addr} {Wz:Array (Option Value)} {WA WB WC WD SM WG:Value} {f5:Addr} {WH WI:Option Addr} {WJ:Array (Option Value)} {WK WL WM WN SN WO:Value} {f6:Addr} {WQ WR:Option Addr} {WS:Array (Option Value)} {WU WV WW WX SO WY:Value} {f7:Addr} {WZ W2:Option Addr} {W3:Array (Option Value)} {W4 W5 W6 W7 SQ W8:Value} {f8:Addr} {W9 Xa:Option Addr} {Xb:Array (Option Value)} {Xc Xd Xe Xf SR Xg:Value} {f9:Addr} {Xh Xi:Option Addr} {Xj:Array (Option Value)} {Xk Xl Xm Xn SS Xo:Value} {Lx:Addr} {Ly Lz:Option Addr} {LA:Array (Option Value)} {LC LD LF LG HP LH:Value} {LI:Addr} {LJ LK:Option Addr} {LL:Array (Option Value)} {LM LN LO LP HQ LQ:Value} {LR:Addr} {LS LU:Option Addr} {LV:Array (Option Value)} {LW LX LY LZ HS L3:Value} {L4:Addr} {L5 L6:Option Addr} {L7:Array (Option Value)} {L8 L9 Ma Mb HV Mc:Value} {Md:Addr} {Me Mf:Option Addr} {Mg:Array (Option Value)} {Mh Mi Mj Ml HW Mm:Value} {Mn:Addr} {Mo Mp:Option Addr} {Mq:Array (Option Value)} {Mr Ms Mt Mu HY Mv:Value} {Mw:Addr} {Mx My:Option Addr} {Mz:Array (Option Value)} {MA MB MD ME MF:Value} {MG:Addr} {MH MJ:Option Addr} {MK:Array (Option Value)} {ML MM MN MO HZ MP:Value} {MQ:Addr} {MR MS:Option Addr} {MT:Array (Option Value)} {MU MV MW MX Ia MY:Value} {MZ:Addr} {M3 M4:Option Addr} {M5:Array (Option Value)} {M7 M8 M9 Na Ib Nb:Value} {Nc:Addr} {Nd Nf:Option Addr} {Ng:Array (Option Value)} {Nh Ni Nj Nk Ic Nl:Value} {Nn:Addr} {Np Nq:Option Addr} {Nr:Array (Option Value)} {Nt Nu Nv Nw Ie Nx:Value} {Ny:Addr} {Nz NA:Option Addr} {NB:Array (Option Value)} {NC ND NF NG Ig NH:Value} {NI:Addr} {NJ NK:Option Addr} {NL:Array (Option Value)} {NM NN NO NP Ih NQ:Value} {NR:Addr} {NS NT:Option Addr} {NU:Array (Option Value)} {NV NW NX NY Ii NZ:Value} {N0:Addr} {N4 N5:Option Addr} {N6:Array (Option Value)} {N7 N8 N9 Oa Ij Ob:Value} {Oc:Addr} {Od Oe:Option Addr} {Of:Array (Option Value)} {Og Oh Oi Oj Ik Ol:Value} {Om:Addr} {Oo Oq:Option Addr} {Ot:Array (Option Value)} {Ou Ov Ow Ox Il Oy:Value} {Oz:Addr} {OA OB:Option Addr} {OC:Array (Option Value)} {OD OE OF OG Im OH:Value} {OI:Addr} {OJ OK:Option Addr} {OL:Array (Option Value)} {OM ON OO OP Io OQ:Value} {OR:Addr} {OS OT:Option Addr} {OU:Array (Option Value)} {OV OW OX OY Ip OZ:Value} {O0:Addr} {O1 O2:Option Addr} {O3:Array (Option Value)} {O4 O5 O6 O7 Iq O8:Value} {O9:Addr} {Pa Pb:Option Addr} {Pc:Array (Option Value)} {Pd Pe Pf Pg Ir Ph:Value} {Pj:Addr} {Pk Pn:Option Addr} {Po:Array (Option Value)} {Pp Pq Pt Pu Iu Pw:Value} {Px:Addr} {Py Pz:Option Addr} {PB:Array (Option Value)} {PD PF PJ PK Iv PL:Value} {PM:Addr} {PN PQ:Option Addr} {PR:Array (Option Value)} {PU PV PX PY Iw PZ:Value} {P0:Addr} {P1 P2:Option Addr} {P4:Array (Option Value)} {P5 P6 P7 P8 Iy P9:Value} {Qa:Addr} {Qb Qc:Option Addr} {Qd:Array (Option Value)} {Qe Qf Qg Qh Iz Qi:Value} {Qj:Addr} {Qk Ql:Option Addr} {Qm:Array (Option Value)} {Qn Qo Qp Qq IA Qr:Value} {Qs:Addr} {Qt Qu:Option Addr} {Qv:Array (Option Value)} {Qw Qx Qy Qz IB QA:Value} {QB:Addr} {QC QD:Option Addr} {QE:Array (Option Value)} {QF QG QH QI IC QJ:Value} {QK:Addr} {QL QM:Option Addr} {QN:Array (Option Value)} {QO QP QQ QR ID QS:Value} {QT:Addr} {QU QV:Option Addr} {QW:Array (Option Value)} {QX QY QZ Q0 IE Q4:Value} {nR:Tok} {oJ:Tok} {aq tc tp:Addr} {lL:Addr} {Aj Ak:Option Addr} {Am:Array (Option Value)} {An Ao Ap Aq tK Ar:Value} {cv:Addr} {iD iE:Option Addr} {iF:Array (Option Value)} {iG iH iI iJ dY iK:Value} {cX:Addr} {kQ kR:Option Addr} {kS:Array (Option Value)} {kT kU kW kX fV kY:Value}
  (a0:PySem.W.nsIn K mainGlobals "goals"=some (some (.ref f0))) (l0:K.lookup f0=some ⟨V2,VY,.func (PySem.W.fnOf "goals" "goals" (aF (top 1)) (aD (top 1)) (ab (top 1)) .none V3 V4 V5 VZ SH V6),V1⟩) (e0:PySem.W.codeIn K SH "goals"=true) (k0:PySem.W.keepIn K (.ref f0)=true)
  (a1:PySem.W.nsIn K mainGlobals "is_ready"=some (some (.ref f1))) (l1:K.lookup f1=some ⟨Wa,V7,.func (PySem.W.fnOf "is_ready" "is_ready" (aF (top 2)) (aD (top 2)) (ab (top 2)) .none Wb Wc Wd V8 SI We),V9⟩) (e1:PySem.W.codeIn K SI "is_ready"=true) (k1:PySem.W.keepIn K (.ref f1)=true)
  (a2:PySem.W.nsIn K mainGlobals "ready_places"=some (some (.ref f2))) (l2:K.lookup f2=some ⟨Wi,Wf,.func (PySem.W.fnOf "ready_places" "ready_places" (aF (top 3)) (aD (top 3)) (ab (top 3)) .none Wj Wk KW Wg SJ Wl),Wh⟩) (e2:PySem.W.codeIn K SJ "ready_places"=true) (k2:PySem.W.keepIn K (.ref f2)=true)
  (a3:PySem.W.nsIn K mainGlobals "levels"=some (some (.ref f3))) (l3:K.lookup f3=some ⟨Wp,Wm,.func (PySem.W.fnOf "levels" "levels" (aF (top 4)) (aD (top 4)) (ab (top 4)) .none Wr Wt Wu Wn SK Wv),Wo⟩) (e3:PySem.W.codeIn K SK "levels"=true) (k3:PySem.W.keepIn K (.ref f3)=true)
  (a4:PySem.W.nsIn K mainGlobals "ring"=some (some (.ref f4))) (l4:K.lookup f4=some ⟨WA,Ww,.func (PySem.W.fnOf "ring" "ring" (aF (top 5)) (aD (top 5)) (ab (top 5)) .none WB WC WD Wx SM WG),Wz⟩) (e4:PySem.W.codeIn K SM "ring"=true) (k4:PySem.W.keepIn K (.ref f4)=true)
  (a5:PySem.W.nsIn K mainGlobals "common_divisor"=some (some (.ref f5))) (l5:K.lookup f5=some ⟨WK,WH,.func (PySem.W.fnOf "common_divisor" "common_divisor" (aF (top 12)) (aD (top 12)) (ab (top 12)) .none WL WM WN WI SN WO),WJ⟩) (e5:PySem.W.codeIn K SN "common_divisor"=true) (k5:PySem.W.keepIn K (.ref f5)=true)
  (a6:PySem.W.nsIn K mainGlobals "share"=some (some (.ref f6))) (l6:K.lookup f6=some ⟨WU,WQ,.func (PySem.W.fnOf "share" "share" (aF (top 13)) (aD (top 13)) (ab (top 13)) .none WV WW WX WR SO WY),WS⟩) (e6:PySem.W.codeIn K SO "share"=true) (k6:PySem.W.keepIn K (.ref f6)=true)
  (a7:PySem.W.nsIn K mainGlobals "common_bottom"=some (some (.ref f7))) (l7:K.lookup f7=some ⟨W4,WZ,.func (PySem.W.fnOf "common_bottom" "common_bottom" (aF (top 14)) (aD (top 14)) (ab (top 14)) .none W5 W6 W7 W2 SQ W8),W3⟩) (e7:PySem.W.codeIn K SQ "common_bottom"=true) (k7:PySem.W.keepIn K (.ref f7)=true)
  (a8:PySem.W.nsIn K mainGlobals "row_with_head"=some (some (.ref f8))) (l8:K.lookup f8=some ⟨Xc,W9,.func (PySem.W.fnOf "row_with_head" "row_with_head" (aF (top 16)) (aD (top 16)) (ab (top 16)) .none Xd Xe Xf Xa SR Xg),Xb⟩) (e8:PySem.W.codeIn K SR "row_with_head"=true) (k8:PySem.W.keepIn K (.ref f8)=true)
  (a9:PySem.W.nsIn K mainGlobals "swapped"=some (some (.ref f9))) (l9:K.lookup f9=some ⟨Xk,Xh,.func (PySem.W.fnOf "swapped" "swapped" (aF (top 17)) (aD (top 17)) (ab (top 17)) .none Xl Xm Xn Xi SS Xo),Xj⟩) (e9:PySem.W.codeIn K SS "swapped"=true) (k9:PySem.W.keepIn K (.ref f9)=true)
  (a10:PySem.W.nsIn K mainGlobals "without_first_column"=some (some (.ref Lx))) (l10:K.lookup Lx=some ⟨LC,Ly,.func (PySem.W.fnOf "without_first_column" "without_first_column" (aF (top 18)) (aD (top 18)) (ab (top 18)) .none LD LF LG Lz HP LH),LA⟩) (e10:PySem.W.codeIn K HP "without_first_column"=true) (k10:PySem.W.keepIn K (.ref Lx)=true)
  (a11:PySem.W.nsIn K mainGlobals "swept"=some (some (.ref LI))) (l11:K.lookup LI=some ⟨LM,LJ,.func (PySem.W.fnOf "swept" "swept" (aF (top 19)) (aD (top 19)) (ab (top 19)) .none LN LO LP LK HQ LQ),LL⟩) (e11:PySem.W.codeIn K HQ "swept"=true) (k11:PySem.W.keepIn K (.ref LI)=true)
  (a12:PySem.W.nsIn K mainGlobals "whole_answers"=some (some (.ref LR))) (l12:K.lookup LR=some ⟨LW,LS,.func (PySem.W.fnOf "whole_answers" "whole_answers" (aF (top 20)) (aD (top 20)) (ab (top 20)) .none LX LY LZ LU HS L3),LV⟩) (e12:PySem.W.codeIn K HS "whole_answers"=true) (k12:PySem.W.keepIn K (.ref LR)=true)
  (a13:PySem.W.nsIn K mainGlobals "column_of"=some (some (.ref L4))) (l13:K.lookup L4=some ⟨L8,L5,.func (PySem.W.fnOf "column_of" "column_of" (aF (top 21)) (aD (top 21)) (ab (top 21)) .none L9 Ma Mb L6 HV Mc),L7⟩) (e13:PySem.W.codeIn K HV "column_of"=true) (k13:PySem.W.keepIn K (.ref L4)=true)
  (a14:PySem.W.nsIn K mainGlobals "turned_rows"=some (some (.ref Md))) (l14:K.lookup Md=some ⟨Mh,Me,.func (PySem.W.fnOf "turned_rows" "turned_rows" (aF (top 22)) (aD (top 22)) (ab (top 22)) .none Mi Mj Ml Mf HW Mm),Mg⟩) (e14:PySem.W.codeIn K HW "turned_rows"=true) (k14:PySem.W.keepIn K (.ref Md)=true)
  (a15:PySem.W.nsIn K mainGlobals "steps_from"=some (some (.ref Mn))) (l15:K.lookup Mn=some ⟨Mr,Mo,.func (PySem.W.fnOf "steps_from" "steps_from" (aF (top 24)) (aD (top 24)) (ab (top 24)) .none Ms Mt Mu Mp HY Mv),Mq⟩) (e15:PySem.W.codeIn K HY "steps_from"=true) (k15:PySem.W.keepIn K (.ref Mn)=true)
  (a16:PySem.W.nsIn K mainGlobals "parts"=some (some (.ref Mw))) (l16:K.lookup Mw=some ⟨MA,Mx,.func (PySem.W.fnOf "parts" "parts" (aF (top 25)) (aD (top 25)) (ab (top 25)) .none MB MD ME My (Value.ref tc) MF),Mz⟩) (e16:PySem.W.codeIn K (Value.ref tc) "parts"=true) (k16:PySem.W.keepIn K (.ref Mw)=true)
  (a17:PySem.W.nsIn K mainGlobals "ways_of_picks"=some (some (.ref MG))) (l17:K.lookup MG=some ⟨ML,MH,.func (PySem.W.fnOf "ways_of_picks" "ways_of_picks" (aF (top 29)) (aD (top 29)) (ab (top 29)) .none MM MN MO MJ HZ MP),MK⟩) (e17:PySem.W.codeIn K HZ "ways_of_picks"=true) (k17:PySem.W.keepIn K (.ref MG)=true)
  (a18:PySem.W.nsIn K mainGlobals "checked_parts"=some (some (.ref MQ))) (l18:K.lookup MQ=some ⟨MU,MR,.func (PySem.W.fnOf "checked_parts" "checked_parts" (aF (top 30)) (aD (top 30)) (ab (top 30)) .none MV MW MX MS Ia MY),MT⟩) (e18:PySem.W.codeIn K Ia "checked_parts"=true) (k18:PySem.W.keepIn K (.ref MQ)=true)
  (a19:PySem.W.nsIn K mainGlobals "weighted_ways"=some (some (.ref MZ))) (l19:K.lookup MZ=some ⟨M7,M3,.func (PySem.W.fnOf "weighted_ways" "weighted_ways" (aF (top 31)) (aD (top 31)) (ab (top 31)) .none M8 M9 Na M4 Ib Nb),M5⟩) (e19:PySem.W.codeIn K Ib "weighted_ways"=true) (k19:PySem.W.keepIn K (.ref MZ)=true)
  (a20:PySem.W.nsIn K mainGlobals "all_weighted_ways"=some (some (.ref Nc))) (l20:K.lookup Nc=some ⟨Nh,Nd,.func (PySem.W.fnOf "all_weighted_ways" "all_weighted_ways" (aF (top 32)) (aD (top 32)) (ab (top 32)) .none Ni Nj Nk Nf Ic Nl),Ng⟩) (e20:PySem.W.codeIn K Ic "all_weighted_ways"=true) (k20:PySem.W.keepIn K (.ref Nc)=true)
  (a21:PySem.W.nsIn K mainGlobals "total_weight"=some (some (.ref Nn))) (l21:K.lookup Nn=some ⟨Nt,Np,.func (PySem.W.fnOf "total_weight" "total_weight" (aF (top 33)) (aD (top 33)) (ab (top 33)) .none Nu Nv Nw Nq Ie Nx),Nr⟩) (e21:PySem.W.codeIn K Ie "total_weight"=true) (k21:PySem.W.keepIn K (.ref Nn)=true)
  (a22:PySem.W.nsIn K mainGlobals "part_rows"=some (some (.ref Ny))) (l22:K.lookup Ny=some ⟨NC,Nz,.func (PySem.W.fnOf "part_rows" "part_rows" (aF (top 34)) (aD (top 34)) (ab (top 34)) .none ND NF NG NA Ig NH),NB⟩) (e22:PySem.W.codeIn K Ig "part_rows"=true) (k22:PySem.W.keepIn K (.ref Ny)=true)
  (a23:PySem.W.nsIn K mainGlobals "gain_of"=some (some (.ref NI))) (l23:K.lookup NI=some ⟨NM,NJ,.func (PySem.W.fnOf "gain_of" "gain_of" (aF (top 36)) (aD (top 36)) (ab (top 36)) .none NN NO NP NK Ih NQ),NL⟩) (e23:PySem.W.codeIn K Ih "gain_of"=true) (k23:PySem.W.keepIn K (.ref NI)=true)
  (a24:PySem.W.nsIn K mainGlobals "book_of"=some (some (.ref NR))) (l24:K.lookup NR=some ⟨NV,NS,.func (PySem.W.fnOf "book_of" "book_of" (aF (top 37)) (aD (top 37)) (ab (top 37)) .none NW NX NY NT Ii NZ),NU⟩) (e24:PySem.W.codeIn K Ii "book_of"=true) (k24:PySem.W.keepIn K (.ref NR)=true)
  (a25:PySem.W.nsIn K mainGlobals "gains_of"=some (some (.ref N0))) (l25:K.lookup N0=some ⟨N7,N4,.func (PySem.W.fnOf "gains_of" "gains_of" (aF (top 38)) (aD (top 38)) (ab (top 38)) .none N8 N9 Oa N5 Ij Ob),N6⟩) (e25:PySem.W.codeIn K Ij "gains_of"=true) (k25:PySem.W.keepIn K (.ref N0)=true)
  (a26:PySem.W.nsIn K mainGlobals "blank_worths"=some (some (.ref Oc))) (l26:K.lookup Oc=some ⟨Og,Od,.func (PySem.W.fnOf "blank_worths" "blank_worths" (aF (top 39)) (aD (top 39)) (ab (top 39)) .none Oh Oi Oj Oe Ik Ol),Of⟩) (e26:PySem.W.codeIn K Ik "blank_worths"=true) (k26:PySem.W.keepIn K (.ref Oc)=true)
  (a27:PySem.W.nsIn K mainGlobals "with_worths"=some (some (.ref Om))) (l27:K.lookup Om=some ⟨Ou,Oo,.func (PySem.W.fnOf "with_worths" "with_worths" (aF (top 40)) (aD (top 40)) (ab (top 40)) .none Ov Ow Ox Oq Il Oy),Ot⟩) (e27:PySem.W.codeIn K Il "with_worths"=true) (k27:PySem.W.keepIn K (.ref Om)=true)
  (a28:PySem.W.nsIn K mainGlobals "worths_of"=some (some (.ref Oz))) (l28:K.lookup Oz=some ⟨OD,OA,.func (PySem.W.fnOf "worths_of" "worths_of" (aF (top 41)) (aD (top 41)) (ab (top 41)) .none OE OF OG OB Im OH),OC⟩) (e28:PySem.W.codeIn K Im "worths_of"=true) (k28:PySem.W.keepIn K (.ref Oz)=true)
  (a29:PySem.W.nsIn K mainGlobals "with_visits"=some (some (.ref OI))) (l29:K.lookup OI=some ⟨OM,OJ,.func (PySem.W.fnOf "with_visits" "with_visits" (aF (top 42)) (aD (top 42)) (ab (top 42)) .none ON OO OP OK Io OQ),OL⟩) (e29:PySem.W.codeIn K Io "with_visits"=true) (k29:PySem.W.keepIn K (.ref OI)=true)
  (a30:PySem.W.nsIn K mainGlobals "visits"=some (some (.ref OR))) (l30:K.lookup OR=some ⟨OV,OS,.func (PySem.W.fnOf "visits" "visits" (aF (top 43)) (aD (top 43)) (ab (top 43)) .none OW OX OY OT Ip OZ),OU⟩) (e30:PySem.W.codeIn K Ip "visits"=true) (k30:PySem.W.keepIn K (.ref OR)=true)
  (a31:PySem.W.nsIn K mainGlobals "_law_cell"=some (some (.ref O0))) (l31:K.lookup O0=some ⟨O4,O1,.func (PySem.W.fnOf "_law_cell" "_law_cell" (aF (top 45)) (aD (top 45)) (ab (top 45)) .none O5 O6 O7 O2 Iq O8),O3⟩) (e31:PySem.W.codeIn K Iq "_law_cell"=true) (k31:PySem.W.keepIn K (.ref O0)=true)
  (a32:PySem.W.nsIn K mainGlobals "_law_mixed"=some (some (.ref O9))) (l32:K.lookup O9=some ⟨Pd,Pa,.func (PySem.W.fnOf "_law_mixed" "_law_mixed" (aF (top 46)) (aD (top 46)) (ab (top 46)) .none Pe Pf Pg Pb Ir Ph),Pc⟩) (e32:PySem.W.codeIn K Ir "_law_mixed"=true) (k32:PySem.W.keepIn K (.ref O9)=true)
  (a33:PySem.W.nsIn K mainGlobals "_law_low"=some (some (.ref Pj))) (l33:K.lookup Pj=some ⟨Pp,Pk,.func (PySem.W.fnOf "_law_low" "_law_low" (aF (top 47)) (aD (top 47)) (ab (top 47)) .none Pq Pt Pu Pn Iu Pw),Po⟩) (e33:PySem.W.codeIn K Iu "_law_low"=true) (k33:PySem.W.keepIn K (.ref Pj)=true)
  (a34:PySem.W.nsIn K mainGlobals "_law_plus"=some (some (.ref Px))) (l34:K.lookup Px=some ⟨PD,Py,.func (PySem.W.fnOf "_law_plus" "_law_plus" (aF (top 48)) (aD (top 48)) (ab (top 48)) .none PF PJ PK Pz Iv PL),PB⟩) (e34:PySem.W.codeIn K Iv "_law_plus"=true) (k34:PySem.W.keepIn K (.ref Px)=true)
  (a35:PySem.W.nsIn K mainGlobals "_law_times"=some (some (.ref PM))) (l35:K.lookup PM=some ⟨PU,PN,.func (PySem.W.fnOf "_law_times" "_law_times" (aF (top 49)) (aD (top 49)) (ab (top 49)) .none PV PX PY PQ Iw PZ),PR⟩) (e35:PySem.W.codeIn K Iw "_law_times"=true) (k35:PySem.W.keepIn K (.ref PM)=true)
  (a36:PySem.W.nsIn K mainGlobals "_law_is_share"=some (some (.ref P0))) (l36:K.lookup P0=some ⟨P5,P1,.func (PySem.W.fnOf "_law_is_share" "_law_is_share" (aF (top 50)) (aD (top 50)) (ab (top 50)) .none P6 P7 P8 P2 Iy P9),P4⟩) (e36:PySem.W.codeIn K Iy "_law_is_share"=true) (k36:PySem.W.keepIn K (.ref P0)=true)
  (a37:PySem.W.nsIn K mainGlobals "_law_are_shares"=some (some (.ref Qa))) (l37:K.lookup Qa=some ⟨Qe,Qb,.func (PySem.W.fnOf "_law_are_shares" "_law_are_shares" (aF (top 51)) (aD (top 51)) (ab (top 51)) .none Qf Qg Qh Qc Iz Qi),Qd⟩) (e37:PySem.W.codeIn K Iz "_law_are_shares"=true) (k37:PySem.W.keepIn K (.ref Qa)=true)
  (a38:PySem.W.nsIn K mainGlobals "_law_turned"=some (some (.ref Qj))) (l38:K.lookup Qj=some ⟨Qn,Qk,.func (PySem.W.fnOf "_law_turned" "_law_turned" (aF (top 52)) (aD (top 52)) (ab (top 52)) .none Qo Qp Qq Ql IA Qr),Qm⟩) (e38:PySem.W.codeIn K IA "_law_turned"=true) (k38:PySem.W.keepIn K (.ref Qj)=true)
  (a39:PySem.W.nsIn K mainGlobals "_law_what"=some (some (.ref Qs))) (l39:K.lookup Qs=some ⟨Qw,Qt,.func (PySem.W.fnOf "_law_what" "_law_what" (aF (top 53)) (aD (top 53)) (ab (top 53)) .none Qx Qy Qz Qu IB QA),Qv⟩) (e39:PySem.W.codeIn K IB "_law_what"=true) (k39:PySem.W.keepIn K (.ref Qs)=true)
  (a40:PySem.W.nsIn K mainGlobals "_law_board"=some (some (.ref QB))) (l40:K.lookup QB=some ⟨QF,QC,.func (PySem.W.fnOf "_law_board" "_law_board" (aF (top 54)) (aD (top 54)) (ab (top 54)) .none QG QH QI QD IC QJ),QE⟩) (e40:PySem.W.codeIn K IC "_law_board"=true) (k40:PySem.W.keepIn K (.ref QB)=true)
  (a41:PySem.W.nsIn K mainGlobals "_law_parts"=some (some (.ref QK))) (l41:K.lookup QK=some ⟨QO,QL,.func (PySem.W.fnOf "_law_parts" "_law_parts" (aF (top 55)) (aD (top 55)) (ab (top 55)) .none QP QQ QR QM ID QS),QN⟩) (e41:PySem.W.codeIn K ID "_law_parts"=true) (k41:PySem.W.keepIn K (.ref QK)=true)
  (a42:PySem.W.nsIn K mainGlobals "law"=some (some (.ref QT))) (l42:K.lookup QT=some ⟨QX,QU,.func (PySem.W.fnOf "law" "law" (aF (top 56)) (aD (top 56)) (ab (top 56)) .none QY QZ Q0 QV IE Q4),QW⟩) (e42:PySem.W.codeIn K IE "law"=true) (k42:PySem.W.keepIn K (.ref QT)=true)
  (z_abs:PySem.W.nsIn K mainGlobals "abs"=some none)
  (z_all:PySem.W.nsIn K mainGlobals "all"=some none)
  (z_any:PySem.W.nsIn K mainGlobals "any"=some none)
  (z_bool:PySem.W.nsIn K mainGlobals "bool"=some none)
  (z_enumerate:PySem.W.nsIn K mainGlobals "enumerate"=some none)
  (z_int:PySem.W.nsIn K mainGlobals "int"=some none)
  (z_isinstance:PySem.W.nsIn K mainGlobals "isinstance"=some none)
  (z_len:PySem.W.nsIn K mainGlobals "len"=some none)
  (z_list:PySem.W.nsIn K mainGlobals "list"=some none)
  (z_max:PySem.W.nsIn K mainGlobals "max"=some none)
  (z_range:PySem.W.nsIn K mainGlobals "range"=some none)
  (z_reversed:PySem.W.nsIn K mainGlobals "reversed"=some none)
  (z_sorted:PySem.W.nsIn K mainGlobals "sorted"=some none)
  (z_sum:PySem.W.nsIn K mainGlobals "sum"=some none)
  (z_tuple:PySem.W.nsIn K mainGlobals "tuple"=some none)
  (z_zip:PySem.W.nsIn K mainGlobals "zip"=some none)
  (c_MOST_PLACES:PySem.W.nsIn K mainGlobals "MOST_PLACES"=some (some (.int 40 nR)))
  (c_MOST_PICKS:PySem.W.nsIn K mainGlobals "MOST_PICKS"=some (some (.int 4096 oJ)))
  (k_Book:PySem.W.nsIn K mainGlobals "Book"=some (some (.ref aq)))
  (cl_Bookpg:PySem.W.plainGet K aq Str.empty=true)
  (cl_Bookhd:PySem.W.hasDictIn K aq=true)
  (cl_Bookpo:PySem.W.plainOver K aq=true)
  (cl_Booksa:PySem.W.findIn K (.ref aq) "__setattr__"=some (some (.builtin "object.__setattr__")))
  (na_Book_bottom:PySem.W.findIn K (.ref aq) "bottom"=some none)
  (na_Book_tops:PySem.W.findIn K (.ref aq) "tops"=some none)
  (dia_Book:PySem.W.findIn K (.ref aq) "__init__"=some (some (.ref lL)))
  (dii_Book:PySem.W.isFn K (.ref lL)=true)
  (dil_Book:K.lookup lL=some ⟨An,Aj,.func (PySem.W.fnOf "__init__" "Book.__init__" (aF (inClass (top 35) 0)) (aD (inClass (top 35) 0)) (ab (inClass (top 35) 0)) .none Ao Ap Aq Ak tK Ar),Am⟩)
  (dic_Book:PySem.W.codeIn K tK "Book.__init__"=true)
  (dik_Book:PySem.W.keepIn K (.ref lL)=true)
  (dim_Book:PySem.W.makesIn K aq=true)
  (diq_Book:PySem.W.keepIn K (.ref aq)=true)
  (dma_Book_as_shares:PySem.W.findIn K (.ref aq) "as_shares"=some (some (.ref cv)))
  (dmi_Book_as_shares:PySem.W.isFn K (.ref cv)=true)
  (dml_Book_as_shares:K.lookup cv=some ⟨iG,iD,.func (PySem.W.fnOf "as_shares" "Book.as_shares" (aF (inClass (top 35) 2)) (aD (inClass (top 35) 2)) (ab (inClass (top 35) 2)) .none iH iI iJ iE dY iK),iF⟩)
  (dmc_Book_as_shares:PySem.W.codeIn K dY "Book.as_shares"=true)
  (dmk_Book_as_shares:PySem.W.keepIn K (.ref cv)=true)
  (dma_Book_scaled:PySem.W.findIn K (.ref aq) "scaled"=some (some (.ref cX)))
  (dmi_Book_scaled:PySem.W.isFn K (.ref cX)=true)
  (dml_Book_scaled:K.lookup cX=some ⟨kT,kQ,.func (PySem.W.fnOf "scaled" "Book.scaled" (aF (inClass (top 35) 1)) (aD (inClass (top 35) 1)) (ab (inClass (top 35) 1)) .none kU kW kX kR fV kY),kS⟩)
  (dmc_Book_scaled:PySem.W.codeIn K fV "Book.scaled"=true)
  (dmk_Book_scaled:PySem.W.keepIn K (.ref cX)=true)
  :∃fd:FuncData,(∀(s:Shared) (v:Value),BindsTo s fd ⟨[v],[]⟩ [("_law_script",v)])/\∀base:Heap,K.In base->base.Ns mainGlobals mg->mS base mg tc tp->dI l.prog w K mg base (bC l.prog w) 30 fa fd ["_law_script"] (v7 K tp):=by
 have e:=VX.symm.trans (YS X G a42)
 cases e
 have T:Txt K mg aq tc:=⟨Zf X G z_abs,Zf X G z_all,Zf X G z_any,Zf X G z_bool,Zf X G z_enumerate,Zf X G z_int,Zf X G z_isinstance,Zf X G z_len,Zf X G z_list,Zf X G z_max,Zf X G z_range,Zf X G z_reversed,Zf X G z_sorted,Zf X G z_sum,Zf X G z_tuple,Zf X G z_zip,⟨_,_,aU l0 e0 k0,YS X G a0⟩,⟨_,_,aU l1 e1 k1,YS X G a1⟩,⟨_,_,aU l2 e2 k2,YS X G a2⟩,⟨_,_,aU l3 e3 k3,YS X G a3⟩,⟨_,_,aU l4 e4 k4,YS X G a4⟩,⟨_,_,aU l5 e5 k5,YS X G a5⟩,⟨_,_,aU l6 e6 k6,YS X G a6⟩,⟨_,_,aU l7 e7 k7,YS X G a7⟩,⟨_,_,aU l8 e8 k8,YS X G a8⟩,⟨_,_,aU l9 e9 k9,YS X G a9⟩,⟨_,_,aU l10 e10 k10,YS X G a10⟩,⟨_,_,aU l11 e11 k11,YS X G a11⟩,⟨_,_,aU l12 e12 k12,YS X G a12⟩,⟨_,_,aU l13 e13 k13,YS X G a13⟩,⟨_,_,aU l14 e14 k14,YS X G a14⟩,⟨_,_,aU l15 e15 k15,YS X G a15⟩,⟨_,_,aU l16 e16 k16,YS X G a16⟩,⟨_,_,aU l17 e17 k17,YS X G a17⟩,⟨_,_,aU l18 e18 k18,YS X G a18⟩,⟨_,_,aU l19 e19 k19,YS X G a19⟩,⟨_,_,aU l20 e20 k20,YS X G a20⟩,⟨_,_,aU l21 e21 k21,YS X G a21⟩,⟨_,_,aU l22 e22 k22,YS X G a22⟩,⟨_,_,aU l23 e23 k23,YS X G a23⟩,⟨_,_,aU l24 e24 k24,YS X G a24⟩,⟨_,_,aU l25 e25 k25,YS X G a25⟩,⟨_,_,aU l26 e26 k26,YS X G a26⟩,⟨_,_,aU l27 e27 k27,YS X G a27⟩,⟨_,_,aU l28 e28 k28,YS X G a28⟩,⟨_,_,aU l29 e29 k29,YS X G a29⟩,⟨_,_,aU l30 e30 k30,YS X G a30⟩,⟨_,_,aU l31 e31 k31,YS X G a31⟩,⟨_,_,aU l32 e32 k32,YS X G a32⟩,⟨_,_,aU l33 e33 k33,YS X G a33⟩,⟨_,_,aU l34 e34 k34,YS X G a34⟩,⟨_,_,aU l35 e35 k35,YS X G a35⟩,⟨_,_,aU l36 e36 k36,YS X G a36⟩,⟨_,_,aU l37 e37 k37,YS X G a37⟩,⟨_,_,aU l38 e38 k38,YS X G a38⟩,⟨_,_,aU l39 e39 k39,YS X G a39⟩,⟨_,_,aU l40 e40 k40,YS X G a40⟩,⟨_,_,aU l41 e41 k41,YS X G a41⟩,⟨_,YS X G c_MOST_PLACES⟩,⟨_,YS X G c_MOST_PICKS⟩,YS X G k_Book,⟨cl_Bookpg,cl_Bookhd,cl_Bookpo,cl_Booksa⟩,na_Book_bottom,na_Book_tops,⟨_,_,aU dil_Book dic_Book dik_Book,⟨dim_Book,dia_Book,dii_Book,diq_Book⟩,YS X G k_Book⟩,⟨_,_,aU dml_Book_as_shares dmc_Book_as_shares dmk_Book_as_shares,⟨dma_Book_as_shares,dmi_Book_as_shares,dmk_Book_as_shares⟩⟩,⟨_,_,aU dml_Book_scaled dmc_Book_scaled dmk_Book_scaled,⟨dma_Book_scaled,dmi_Book_scaled,dmk_Book_scaled⟩⟩,⟨_,_,_,_,_,YS X G a16,l16,rfl⟩⟩
 exact⟨_,λs v=>.of_eq rfl,λbase _ _ LB=>(Fd T LB (aU l42 e42 k42)).mono (by decide)⟩
theorem walk {tc tp:Addr} {l:PySem.W.OpenLaw} {q:Program} {loose:List Str} {XP:(Str->Option Value)->Heap->Prop} {YP:World->Heap->Prop} {d:DefRec} {K:Params->PySem.W.Frag} (hn:l.most=some 63) (Gg:d.params.defaults=[])
  (hY:∀(w:World) (h:Heap),YP w h->(K w.params).In h) (Kt:∀(w:World) (h:Heap),YP w h->h.get? tp=some (PySem.W.tabObj #[])/\PySem.W.CodeHd h tc tp/\(K w.params).lookup tp=none)
  (F:∀(w:World) (mg:Str->Option Value) (fa:Addr) (h:Heap),(K w.params).In h->h.Ns mainGlobals mg->mg d.name=some (.ref fa)->
   ∃fd:FuncData,(∀(s:Shared) (u:Value),BindsTo s fd ⟨[u],[]⟩ [("_law_script",u)])/\∀base:Heap,(K w.params).In base->base.Ns mainGlobals mg->mS base mg tc tp->dI l.prog w (K w.params) mg base (bC l.prog w) 30 fa fd ["_law_script"] (v7 (K w.params) tp)):
  PySem.W.WalkO q loose XP YP l.row.toRowW d [] (λf vs=>PySem.call f vs):=
 L2.zd (tc:=tc) (tp:=tp) (dsc:=dsc) (n:=63) (k:=30) (x:="_law_script") (CX:=λw=>bC l.prog w) (sp:=λw=>v7 (K w.params) tp) hn (by decide) Gg ⟨rfl,by decide,by decide⟩ hY Kt F (λ_ _ a ns hl hT hS=>⟨a,ns,rfl,hT,hS,hl,λ_=>rfl⟩) λ_ _ _ _ _ z=>(vg _ _) _ _ _ _ _ z
end K36
open PySem PySem.W PyProof.Rows
set_option maxRecDepth 100000 in
set_option maxHeartbeats 0 in
theorem PySem.Challenge.cw_pressluck_k36_boards_that_go_on_holds : PySem.Challenge.rw_pressluck_k36_boards_that_go_on.Holds := by
  w_on; refine holds_law (by decide +kernel) fun Xp => ?_
  refine holds_open (q := K36.vw) (loose := []) (Xt := (fun s => xlAt K36.vw [] s && recOk (RowW.records (OpenRow.toRowW (PySem.W.OpenLaw.row PySem.Challenge.rw_pressluck_k36_boards_that_go_on))) s)) (XP := XL K36.vw []) (Yf := Hook.obs (PySem.W.kmHook K36.pre.heap_1 K36.Ca K36.CZ [166])) (Ya := Hook.val (PySem.W.kmHook K36.pre.heap_1 K36.Ca K36.CZ [166])) (YP := Hook.says (PySem.W.kmHook K36.pre.heap_1 K36.Ca K36.CZ [166])) (N := 5042) (Hd.wj (by kernel_rfl) (by decide) (fun s => by kernel_rfl) K36.run) (Hook.of (PySem.W.kmHook K36.pre.heap_1 K36.Ca K36.CZ [166])) (Hook.keeps (PySem.W.kmHook K36.pre.heap_1 K36.Ca K36.CZ [166])) (fun s e => xl_of s (Bool.and_eq_true_iff.mp e).1) XL.keeps (by rfl) (by rfl) (by rfl) (fun s e => recFacts_of (Bool.and_eq_true_iff.mp e).2) (by rfl) (by first | assumption | decide +kernel) (by decide +kernel) ⟨rfl, rfl, rfl, rfl, rfl, by decide +kernel⟩ ?hw ?hc
  (case hw => w_witness2)
  k_fill
  refine K36.walk (tc := 168) (tp := 166) (l := PySem.Challenge.rw_pressluck_k36_boards_that_go_on) rfl rfl (fun w h Y => PySem.W.km_in_of Y) (fun w h Y => ⟨PySem.W.km_tabs_of Y _ (.head _), PySem.W.codeHd_of_K (PySem.W.km_in_of Y) (by kernel_rfl), by kernel_rfl⟩) ?F
  case F =>
    intro w mg fa h KX G Gh
    refine' K36.all_mk (tc := 168) (tp := 166) KX G Gh ?a0 ?l0 ?e0 ?k0 ?a1 ?l1 ?e1 ?k1 ?a2 ?l2 ?e2 ?k2 ?a3 ?l3 ?e3 ?k3 ?a4 ?l4 ?e4 ?k4 ?a5 ?l5 ?e5 ?k5 ?a6 ?l6 ?e6 ?k6 ?a7 ?l7 ?e7 ?k7 ?a8 ?l8 ?e8 ?k8 ?a9 ?l9 ?e9 ?k9 ?a10 ?l10 ?e10 ?k10 ?a11 ?l11 ?e11 ?k11 ?a12 ?l12 ?e12 ?k12 ?a13 ?l13 ?e13 ?k13 ?a14 ?l14 ?e14 ?k14 ?a15 ?l15 ?e15 ?k15 ?a16 ?l16 ?e16 ?k16 ?a17 ?l17 ?e17 ?k17 ?a18 ?l18 ?e18 ?k18 ?a19 ?l19 ?e19 ?k19 ?a20 ?l20 ?e20 ?k20 ?a21 ?l21 ?e21 ?k21 ?a22 ?l22 ?e22 ?k22 ?a23 ?l23 ?e23 ?k23 ?a24 ?l24 ?e24 ?k24 ?a25 ?l25 ?e25 ?k25 ?a26 ?l26 ?e26 ?k26 ?a27 ?l27 ?e27 ?k27 ?a28 ?l28 ?e28 ?k28 ?a29 ?l29 ?e29 ?k29 ?a30 ?l30 ?e30 ?k30 ?a31 ?l31 ?e31 ?k31 ?a32 ?l32 ?e32 ?k32 ?a33 ?l33 ?e33 ?k33 ?a34 ?l34 ?e34 ?k34 ?a35 ?l35 ?e35 ?k35 ?a36 ?l36 ?e36 ?k36 ?a37 ?l37 ?e37 ?k37 ?a38 ?l38 ?e38 ?k38 ?a39 ?l39 ?e39 ?k39 ?a40 ?l40 ?e40 ?k40 ?a41 ?l41 ?e41 ?k41 ?a42 ?l42 ?e42 ?k42 ?z_abs ?z_all ?z_any ?z_bool ?z_enumerate ?z_int ?z_isinstance ?z_len ?z_list ?z_max ?z_range ?z_reversed ?z_sorted ?z_sum ?z_tuple ?z_zip ?c_MOST_PLACES ?c_MOST_PICKS ?k_Book ?cl_Bookpg ?cl_Bookhd ?cl_Bookpo ?cl_Booksa ?na_Book_bottom ?na_Book_tops ?dia_Book ?dii_Book ?dil_Book ?dic_Book ?dik_Book ?dim_Book ?diq_Book ?dma_Book_as_shares ?dmi_Book_as_shares ?dml_Book_as_shares ?dmc_Book_as_shares ?dmk_Book_as_shares ?dma_Book_scaled ?dmi_Book_scaled ?dml_Book_scaled ?dmc_Book_scaled ?dmk_Book_scaled
    (case a0 => k_is)
    (case l0 => k_is)
    (case e0 => k_is)
    (case k0 => k_is)
    (case a1 => k_is)
    (case l1 => k_is)
    (case e1 => k_is)
    (case k1 => k_is)
    (case a2 => k_is)
    (case l2 => k_is)
    (case e2 => k_is)
    (case k2 => k_is)
    (case a3 => k_is)
    (case l3 => k_is)
    (case e3 => k_is)
    (case k3 => k_is)
    (case a4 => k_is)
    (case l4 => k_is)
    (case e4 => k_is)
    (case k4 => k_is)
    (case a5 => k_is)
    (case l5 => k_is)
    (case e5 => k_is)
    (case k5 => k_is)
    (case a6 => k_is)
    (case l6 => k_is)
    (case e6 => k_is)
    (case k6 => k_is)
    (case a7 => k_is)
    (case l7 => k_is)
    (case e7 => k_is)
    (case k7 => k_is)
    (case a8 => k_is)
    (case l8 => k_is)
    (case e8 => k_is)
    (case k8 => k_is)
    (case a9 => k_is)
    (case l9 => k_is)
    (case e9 => k_is)
    (case k9 => k_is)
    (case a10 => k_is)
    (case l10 => k_is)
    (case e10 => k_is)
    (case k10 => k_is)
    (case a11 => k_is)
    (case l11 => k_is)
    (case e11 => k_is)
    (case k11 => k_is)
    (case a12 => k_is)
    (case l12 => k_is)
    (case e12 => k_is)
    (case k12 => k_is)
    (case a13 => k_is)
    (case l13 => k_is)
    (case e13 => k_is)
    (case k13 => k_is)
    (case a14 => k_is)
    (case l14 => k_is)
    (case e14 => k_is)
    (case k14 => k_is)
    (case a15 => k_is)
    (case l15 => k_is)
    (case e15 => k_is)
    (case k15 => k_is)
    (case a16 => k_is)
    (case l16 => k_is)
    (case e16 => k_is)
    (case k16 => k_is)
    (case a17 => k_is)
    (case l17 => k_is)
    (case e17 => k_is)
    (case k17 => k_is)
    (case a18 => k_is)
    (case l18 => k_is)
    (case e18 => k_is)
    (case k18 => k_is)
    (case a19 => k_is)
    (case l19 => k_is)
    (case e19 => k_is)
    (case k19 => k_is)
    (case a20 => k_is)
    (case l20 => k_is)
    (case e20 => k_is)
    (case k20 => k_is)
    (case a21 => k_is)
    (case l21 => k_is)
    (case e21 => k_is)
    (case k21 => k_is)
    (case a22 => k_is)
    (case l22 => k_is)
    (case e22 => k_is)
    (case k22 => k_is)
    (case a23 => k_is)
    (case l23 => k_is)
    (case e23 => k_is)
    (case k23 => k_is)
    (case a24 => k_is)
    (case l24 => k_is)
    (case e24 => k_is)
    (case k24 => k_is)
    (case a25 => k_is)
    (case l25 => k_is)
    (case e25 => k_is)
    (case k25 => k_is)
    (case a26 => k_is)
    (case l26 => k_is)
    (case e26 => k_is)
    (case k26 => k_is)
    (case a27 => k_is)
    (case l27 => k_is)
    (case e27 => k_is)
    (case k27 => k_is)
    (case a28 => k_is)
    (case l28 => k_is)
    (case e28 => k_is)
    (case k28 => k_is)
    (case a29 => k_is)
    (case l29 => k_is)
    (case e29 => k_is)
    (case k29 => k_is)
    (case a30 => k_is)
    (case l30 => k_is)
    (case e30 => k_is)
    (case k30 => k_is)
    (case a31 => k_is)
    (case l31 => k_is)
    (case e31 => k_is)
    (case k31 => k_is)
    (case a32 => k_is)
    (case l32 => k_is)
    (case e32 => k_is)
    (case k32 => k_is)
    (case a33 => k_is)
    (case l33 => k_is)
    (case e33 => k_is)
    (case k33 => k_is)
    (case a34 => k_is)
    (case l34 => k_is)
    (case e34 => k_is)
    (case k34 => k_is)
    (case a35 => k_is)
    (case l35 => k_is)
    (case e35 => k_is)
    (case k35 => k_is)
    (case a36 => k_is)
    (case l36 => k_is)
    (case e36 => k_is)
    (case k36 => k_is)
    (case a37 => k_is)
    (case l37 => k_is)
    (case e37 => k_is)
    (case k37 => k_is)
    (case a38 => k_is)
    (case l38 => k_is)
    (case e38 => k_is)
    (case k38 => k_is)
    (case a39 => k_is)
    (case l39 => k_is)
    (case e39 => k_is)
    (case k39 => k_is)
    (case a40 => k_is)
    (case l40 => k_is)
    (case e40 => k_is)
    (case k40 => k_is)
    (case a41 => k_is)
    (case l41 => k_is)
    (case e41 => k_is)
    (case k41 => k_is)
    (case a42 => k_is)
    (case l42 => k_is)
    (case e42 => k_is)
    (case k42 => k_is)
    (case z_abs => k_is)
    (case z_all => k_is)
    (case z_any => k_is)
    (case z_bool => k_is)
    (case z_enumerate => k_is)
    (case z_int => k_is)
    (case z_isinstance => k_is)
    (case z_len => k_is)
    (case z_list => k_is)
    (case z_max => k_is)
    (case z_range => k_is)
    (case z_reversed => k_is)
    (case z_sorted => k_is)
    (case z_sum => k_is)
    (case z_tuple => k_is)
    (case z_zip => k_is)
    (case c_MOST_PLACES => k_is)
    (case c_MOST_PICKS => k_is)
    (case k_Book => k_is)
    (case cl_Bookpg => k_is)
    (case cl_Bookhd => k_is)
    (case cl_Bookpo => k_is)
    (case cl_Booksa => k_is)
    (case na_Book_bottom => k_is)
    (case na_Book_tops => k_is)
    (case dia_Book => k_is)
    (case dii_Book => k_is)
    (case dil_Book => k_is)
    (case dic_Book => k_is)
    (case dik_Book => k_is)
    (case dim_Book => k_is)
    (case diq_Book => k_is)
    (case dma_Book_as_shares => k_is)
    (case dmi_Book_as_shares => k_is)
    (case dml_Book_as_shares => k_is)
    (case dmc_Book_as_shares => k_is)
    (case dmk_Book_as_shares => k_is)
    (case dma_Book_scaled => k_is)
    (case dmi_Book_scaled => k_is)
    (case dml_Book_scaled => k_is)
    (case dmc_Book_scaled => k_is)
    (case dmk_Book_scaled => k_is)
