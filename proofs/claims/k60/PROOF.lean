import PyProof.Rows.All
import Wide.All
import OpenK.AllK
import Wide.FinOn
import Lean
import PyProof.EqAt
import PyProof.EqKinds
import PyProof.TupleCall
import PyProof.NeKinds
import PySem.Challenge.RW_pressluck_k60_whole_names_and_order
set_option Elab.async false
set_option linter.all false
set_option maxRecDepth 100000
theorem aad : type_of% @List.length_map := @List.length_map
theorem aae : type_of% @List.getElem?_map := @List.getElem?_map
theorem aaf : type_of% @Nat.le_refl := @Nat.le_refl
theorem aag : type_of% @List.map_cons := @List.map_cons
theorem aah : type_of% @List.length_append := @List.length_append
theorem aai : type_of% @PySem.W.mg_of := @PySem.W.mg_of
theorem aaj : type_of% @List.mem_of_getElem? := @List.mem_of_getElem?
theorem aak : type_of% @Nat.zero_le := @Nat.zero_le
theorem aal : type_of% @List.mem_cons_of_mem := @List.mem_cons_of_mem
theorem aam : type_of% @Nat.ne_of_lt := @Nat.ne_of_lt
theorem aan : type_of% @List.map_append := @List.map_append
theorem aao : type_of% @List.mem_cons_self := @List.mem_cons_self
theorem aap : type_of% @List.length_cons := @List.length_cons
theorem aaq : type_of% @List.size_toArray := @List.size_toArray
theorem aar : type_of% @Nat.le_trans := @Nat.le_trans
theorem aas : type_of% @List.map_map := @List.map_map
theorem aat : type_of% @Nat.lt_of_lt_of_le := @Nat.lt_of_lt_of_le
theorem aau : type_of% @List.take_of_length_le := @List.take_of_length_le
theorem aav : type_of% @PySem.boot_len := @PySem.boot_len
theorem aaw : type_of% @Bool.false_ne_true := @Bool.false_ne_true
theorem aax : type_of% @List.getElem?_eq_getElem := @List.getElem?_eq_getElem
theorem aay : type_of% @List.lookup_cons := @List.lookup_cons
theorem aaz : type_of% @PySem.F.plainAttrs_list := @PySem.F.plainAttrs_list
theorem aaA : type_of% @Nat.lt_irrefl := @Nat.lt_irrefl
theorem aaB : type_of% @List.mem_cons := @List.mem_cons
theorem aaC : type_of% @List.take_add_one := @List.take_add_one
theorem aaD : type_of% @PySem.F.slot_list_append := @PySem.F.slot_list_append
theorem aaE : type_of% @PySem.F.type_list_append := @PySem.F.type_list_append
theorem aaF : type_of% @Option.some.inj := @Option.some.inj
theorem aaG : type_of% @List.length_take := @List.length_take
theorem aaH : type_of% @PySem.W.mg_none_of := @PySem.W.mg_none_of
theorem aaI : type_of% @Bool.and_eq_true := @Bool.and_eq_true
theorem aaJ : type_of% @List.length_reverse := @List.length_reverse
theorem aaK : type_of% @Nat.ne_of_gt := @Nat.ne_of_gt
theorem aaL : type_of% @List.map_nil := @List.map_nil
theorem aaM : type_of% @List.length_singleton := @List.length_singleton
theorem aaN : type_of% @Nat.lt_trans := @Nat.lt_trans
theorem aaO : type_of% @List.getD_eq_getElem?_getD := @List.getD_eq_getElem?_getD
theorem aaP : type_of% @List.mem_append_right := @List.mem_append_right
theorem aaQ : type_of% @Int.toNat_natCast := @Int.toNat_natCast
theorem aaR : type_of% @List.length_nil := @List.length_nil
theorem aaS : type_of% @PySem.W.kia_one := @PySem.W.kia_one
theorem aaT : type_of% @List.append_nil := @List.append_nil
theorem aaU : type_of% @PySem.mem_of_lookup := @PySem.mem_of_lookup
theorem aaV : type_of% @List.find?_cons := @List.find?_cons
theorem aaW : type_of% @List.not_mem_nil := @List.not_mem_nil
theorem aaX : type_of% @List.filterMap_cons := @List.filterMap_cons
theorem aaY : type_of% @Nat.lt_succ_self := @Nat.lt_succ_self
theorem aaZ : type_of% @List.getElem?_append_left := @List.getElem?_append_left
theorem aa0 : type_of% @List.length_drop := @List.length_drop
theorem aa1 : type_of% @List.getElem?_eq_none := @List.getElem?_eq_none
theorem aa2 : type_of% @List.lookup_cons_self := @List.lookup_cons_self
theorem aa3 : type_of% @List.foldl_append := @List.foldl_append
theorem aa4 : type_of% @List.getElem?_take := @List.getElem?_take
theorem aa5 : type_of% @List.append_assoc := @List.append_assoc
theorem aa6 : type_of% @Nat.le_add_right := @Nat.le_add_right
theorem aa7 : type_of% @List.set_cons_zero := @List.set_cons_zero
theorem aa8 : type_of% @List.set_cons_succ := @List.set_cons_succ
theorem aa9 : type_of% @List.getElem?_append_right := @List.getElem?_append_right
theorem aba : type_of% @List.replicate_succ := @List.replicate_succ
theorem abb : type_of% @Bool.false_eq_true := @Bool.false_eq_true
theorem abc : type_of% @List.getElem?_reverse := @List.getElem?_reverse
theorem abd : type_of% @List.idxOf_lt_length_of_mem := @List.idxOf_lt_length_of_mem
theorem abe : type_of% @PyProof.Rows.callWith_type1 := @PyProof.Rows.callWith_type1
namespace Hd
open PySem PySem.W PyProof.Rows
noncomputable def zi (ok:Thread->Bool) (st:SharedT->Thread->Option (SharedT×Thread)) (n:Nat):SharedT->Thread->Option SharedT:=
 @Nat.rec (λ_=>SharedT->Thread->Option SharedT) (λ_ _=>none)
  (λ_ ih s t=>@Bool.rec (λ_=>Option SharedT) (@Bool.rec (λ_=>Option SharedT) none (@Option.rec (SharedT×Thread) (λ_=>Option SharedT) none (λr=>@Prod.rec _ _ (λ_=>Option SharedT) (λa b=>ih a b) r) (st s t)) (ok t)) (some s) (through t)) n
theorem qj {tb:String->Option Builtin} {p:Program} {w:World} {n₀:Nat} {ann:Option Value}:∀(n:Nat) (s:SharedT) (t:Thread) (s':SharedT),zi (stepOk n₀ ann) (stepT (denote tb) p w) n s t=some s'->topRun tb p w n₀ ann n s.abs t=some s'.abs
 | 0,_,_,_,h=>by cases h
 | n+1,s,t,s',h=>by
  unfold topRun
  replace h:@Bool.rec (λ_=>Option SharedT) (@Bool.rec (λ_=>Option SharedT) none (@Option.rec (SharedT×Thread) (λ_=>Option SharedT) none (λr=>@Prod.rec _ _ (λ_=>Option SharedT) (λa b=>zi (stepOk n₀ ann) (stepT (denote tb) p w) n a b) r) (stepT (denote tb) p w s t)) (stepOk n₀ ann t)) (some s) (through t)=some s':=h
  cases ht:through t with
  | true=>rw[ht] at h;cases h;rfl
  | false=>
   rw[ht] at h
   cases hk:stepOk n₀ ann t with
   | false=>rw[hk] at h;cases h
   | true=>
    rw[hk] at h
    cases hs:stepT (denote tb) p w s t with
    | none=>rw[hs] at h;cases h
    | some r=>obtain⟨s₂,t₂⟩:=r;rw[hs] at h;rw[stepT_spec hs];exact qj n s₂ t₂ s' h
noncomputable def bt (P:Params):BT:=((boot_heap P).objs.toList.foldl (fun(x:BT×Nat) o=>(x.1.ins x.2 o,x.2+1)) (.nil,0)).1
noncomputable def BL (w:World) (os:OsState):SharedT:=⟨bt w.params,11,{},Array.mk [],boot_drawn,boot_toks,os⟩
theorem Ax (w:World) (os:OsState):(BL w os).abs=⟨boot_heap w.params,Array.mk [],boot_drawn,boot_toks,os⟩:=by kernel_rfl
theorem xH (w:World):((boot_heap w.params).isNs mainGlobals && (Array.mk []:Array GenState).size==0,(boot_heap w.params).objs.size,(boot_heap w.params).nsMap mainGlobals "__annotations__")=(true,11,some (.ref 6)):=by kernel_rfl
theorem BM {p q:Program} {loose:List Str} {Xt:Shared->Bool} {α:Type} {Yf:Shared->α} {Ya:World->α} {N:Nat} {g0:Bool}
  (JW:∀w:World,(fencedOpening treeTable p w N).map (λs=>(s.heap,s.gens,s.drawn,s.toks))=some (boot_heap w.params,Array.mk [],boot_drawn,boot_toks))
  (run:∀(w:World) (os:OsState),(zi (stepOk 11 (some (.ref 6))) (stepT (denote treeTable) p w) N (BL w os) (topStub p)).map (λs=>((staticsOk (importedModules p.main.body) (boot_heap w.params) s.abs.heap && namesBound p s.abs.heap && gensDone s.abs && laidKept (boot_heap w.params) s.abs.heap),openSeen q loose (importedModules p.main.body) Xt g0 s.abs,Yf s.abs))=some (true,openGood q loose,Ya w)):
  LeftO p q loose Xt Yf Ya N g0:=λw=>by
 obtain⟨⟨h,gs,d,k,os⟩,e,e'⟩:=Option.map_eq_some_iff.mp (JW w)
 obtain⟨rfl,rfl,rfl,rfl⟩:h=boot_heap w.params/\gs=Array.mk []/\d=boot_drawn/\k=boot_toks:=by simpa using e'
 obtain⟨z1,z2,z3⟩:_/\_/\_:=by simpa only[Prod.mk.injEq] using xH w
 obtain⟨s,r,l⟩:=Option.map_eq_some_iff.mp (run w os)
 obtain⟨l1,l2,l3⟩:_/\_/\_:=by simpa only[Prod.mk.injEq] using l
 have r:=qj _ _ _ _ r
 rw[Ax] at r
 have t:topFrom treeTable p w N ⟨boot_heap w.params,Array.mk [],boot_drawn,boot_toks,os⟩=some s.abs:=by
  unfold topFrom
  dsimp only
  rw[z1,z2,z3,r]
  show(match staticsOk (importedModules p.main.body) (boot_heap w.params) s.abs.heap && namesBound p s.abs.heap && gensDone s.abs && laidKept (boot_heap w.params) s.abs.heap with | true=>_ | false=>_)=_
  rw[l1]
 unfold openEnds
 rw[e]
 show((topFrom treeTable p w N ⟨boot_heap w.params,Array.mk [],boot_drawn,boot_toks,os⟩)).map _=_
 rw[t]
 show some (_,_)=_
 rw[l2,l3]
noncomputable def Runs (p q:Program) (loose:List Str) (Xt:Shared->Bool) {α:Type} (Yf:Shared->α) (Ya:World->α) (N:Nat) (g0:Bool) (w:World):Prop:=
 ∀os:OsState,(zi (PySem.W.Fast.tw6613529449190102663 11 (some (.ref 6))) (PySem.W.Fast.tw10156331382660048174 (PySem.W.Fast.tw11892475500146522536 PySem.W.Fast.tw14364793385576792824) p w) N (BL w os) (topStub p)).map (λs=>((staticsOk (importedModules p.main.body) (boot_heap w.params) s.abs.heap && namesBound p s.abs.heap && gensDone s.abs && laidKept (boot_heap w.params) s.abs.heap),PySem.W.Fast.tw4187177175401517315 q loose (importedModules p.main.body) Xt g0 s.abs,Yf s.abs))=some (true,openGood q loose,Ya w)
theorem Ay {p q:Program} {loose:List Str} {Xt:Shared->Bool} {α:Type} {Yf:Shared->α} {Ya:World->α} {N:Nat} {g0:Bool}
  (e:opening p=plainProg p.main.scope.names) (hN:Nat.ble 600 N=true) (f:∀s,fenceModules? p s=some s)
  (run:∀w:World,Runs p q loose Xt Yf Ya N g0 w):
  LeftO p q loose Xt Yf Ya N g0:=by
 refine BM (boot_open e hN f) ?_
 unfold Runs at run
 rw[PySem.W.Fast.te6613529449190102663,PySem.W.Fast.te10156331382660048174,PySem.W.Fast.te11892475500146522536,PySem.W.Fast.te14364793385576792824,PySem.W.Fast.te4187177175401517315]
 exact run
end Hd
namespace K60
open PySem PySem.Spec PyProof.Rows
noncomputable def top (i:Nat):Stmt:=PySem.Challenge.pw_pressluck_k60_whole_names_and_order.main.body.getD i (.Pass ⟨0,0,0,0⟩)
end K60
section NU
open PySem PySem.W PyProof.Rows
local macro_rules | `(tactic| o_head $H) => `(tactic| (refine (fun (_ : PySem.W.Hook) => ?_) $H; assumption))
theorem K60.pre (h:PySem.W.OpenRow.Holds (PySem.W.OpenLaw.row PySem.Challenge.rw_pressluck_k60_whole_names_and_order)):PySem.W.OpenRow.Holds (PySem.W.OpenLaw.row PySem.Challenge.rw_pressluck_k60_whole_names_and_order):=by
 k_head
noncomputable def K60.Gh:List Addr:=[2,3,15,22,23,24,25,28,35,36,37,40,47,48,49,52,59,60,61,64,71,72,73,76,78,79,81,82,83,85,86,88,89,90,92,93,95,96,97,100,101,102,104,105,107,108,109,112,113,114,117,118,119,121,122,124,125,126,128,129,131,132,133,135,136,138,139,140,142,143,145,146,147,149,150,152,153,154,157,158,159,162,163,164,167,168,169,171,172,174,175,176,179,180,181,183,184,186,187,188,191,192,193,196,197,198,201,202,203,206,207,208,210,211,213,214,222,224,225,227,228,229,231,232,234,235,236,238,239,241,242,243,245,246,248,249,250,252,253,255,256,257,259,260,262,263,264,266,267,269,270,271,274,275,276,278,279,281,282,283,285,286,288,289,290,293,294,295,298,299,300,302,303,305,306,307,308,309,310,311,321,323,324,326,327,328,330,331,333,334,335,336,337,338,339,342,344,345,347,348,349,352,353,354,356,357,359,360,361,364,365,366,368,369,371,372,373,375,376,378,379,380,383,384,385,388,389,390,392,393,395,396,397,399,400,402,403,404,407,408,409,411,412,414,415,416,418,419,421,422,423,426,427]
theorem K60.G8 (P:PySem.Params):K60.Gh=(K60.pre.heap_1 P).map (·.1):=by kernel_rfl
noncomputable def K60.vw:PySem.Program:={PySem.Challenge.pw_pressluck_k60_whole_names_and_order with main:={PySem.Challenge.pw_pressluck_k60_whole_names_and_order.main with body:=[K60.top 1,K60.top 2,K60.top 3,K60.top 4,K60.top 5,K60.top 7,K60.top 8,K60.top 9,K60.top 11,K60.top 12,K60.top 13,K60.top 14,K60.top 16,K60.top 17,K60.top 18,K60.top 19,K60.top 20,K60.top 21,K60.top 22,K60.top 23,K60.top 24,K60.top 25,K60.top 26,K60.top 27,K60.top 28,K60.top 29,K60.top 30,K60.top 31,K60.top 33,K60.top 34,K60.top 35,K60.top 36,K60.top 37,K60.top 38,K60.top 39,K60.top 40,K60.top 41,K60.top 43,K60.top 44,K60.top 45,K60.top 46,K60.top 47,K60.top 48,K60.top 49,K60.top 50,K60.top 51,K60.top 52]}}
theorem K60.run (w:World):Hd.Runs (RowW.prog (OpenRow.toRowW (PySem.W.OpenLaw.row PySem.Challenge.rw_pressluck_k60_whole_names_and_order))) K60.vw [] (λs=>xlAt K60.vw [] s && recOk (RowW.records (OpenRow.toRowW (PySem.W.OpenLaw.row PySem.Challenge.rw_pressluck_k60_whole_names_and_order))) s) (Hook.obs (kHook K60.pre.heap_1 K60.Gh K60.G8)) (Hook.val (kHook K60.pre.heap_1 K60.Gh K60.G8)) 6246 true w:=λos=>by kernel_rfl
end NU
set_option tactic.hygienic false
set_option compiler.extract_closed false
set_option hygiene false in
local macro_rules | `(tactic| symm) => `(tactic| (refine (?_ : let G_ : Prop := _; G_); intro G_))
set_option hygiene false in
local macro_rules | `(tactic| nofun) => `(tactic| dsimp only [G_])
local macro_rules | `(tactic| ac_rfl) => `(tactic| decide +kernel)
local macro_rules | `(tactic| omega) => `(tactic| lia)
namespace L2
open PySem PySem.Spec PyProof.Rows
abbrev Key:=Sum Int Str
noncomputable def qk:Key->Value->Bool
 | .inl k,v=>Value.isInt k v
 | .inr x,v=>Value.isStrOf x v
noncomputable def G9 (w:World):Key->Int
 | .inl k=>hashInt k
 | .inr x=>hashStr w x
theorem cP:∀{k:Key} {v:Value},qk k v=true->(∃i t,k=Sum.inl i/\v=Value.int i t)\/(∃x t,k=Sum.inr x/\v=Value.str x t)
 | .inl i,v,h=>by
  obtain⟨t,e⟩:=Value.isInt_shape (k:=i) (v:=v) h
  exact .inl ⟨i,t,rfl,e⟩
 | .inr x,v,h=>by
  obtain⟨t,e⟩:=Value.isStrOf_shape (x:=x) (v:=v) h
  exact .inr ⟨x,t,rfl,e⟩
theorem Az (i:Int) (t:Tok):qk (.inl i) (.int i t)=true:=by simp [qk,Value.isInt]
theorem AA (x:Str) (t:Tok):qk (.inr x) (.str x t)=true:=by simp [qk,Value.isStrOf]
theorem Ha (a b:Int):decide ((Sum.inl a:Key)=Sum.inl b)=(a==b):=by
 by_cases e:a=b
 ·subst e;simp
 ·have h:¬(Sum.inl a:Key)=Sum.inl b:=λq=>e (Sum.inl.inj q)
  rw[decide_eq_false h]
  exact(beq_eq_false_iff_ne.mpr e).symm
theorem Hb (a b:Str):decide ((Sum.inr a:Key)=Sum.inr b)=decide (a=b):=by
 by_cases e:a=b
 ·subst e;simp
 ·have h:¬(Sum.inr a:Key)=Sum.inr b:=λq=>e (Sum.inr.inj q)
  rw[decide_eq_false h,decide_eq_false e]
theorem Hc (a:Int) (b:Str):decide ((Sum.inl a:Key)=Sum.inr b)=false:=decide_eq_false (λq=>nomatch q)
theorem He (a:Str) (b:Int):decide ((Sum.inr a:Key)=Sum.inl b)=false:=decide_eq_false (λq=>nomatch q)
noncomputable def cC (prog:Program) (w:World):PySem.KeyKind prog w Key where
 is:=qk
 hash:=G9 w
 inj:=λv a b ha hb=>by
  rcases cP ha with ⟨i,t,rfl,rfl⟩ | ⟨x,t,rfl,rfl⟩
  ·rcases cP hb with ⟨j,u,rfl,e⟩ | ⟨y,u,rfl,e⟩
   ·injection e with e1 _;rw[e1]
   ·exact nomatch e
  ·rcases cP hb with ⟨j,u,rfl,e⟩ | ⟨y,u,rfl,e⟩
   ·exact nomatch e
   ·injection e with e1 _;rw[e1]
 byValue:=λk v h=>by
  rcases cP h with ⟨i,t,rfl,rfl⟩ | ⟨x,t,rfl,rfl⟩ <;>rfl
 pyHash:=λhv h=>by
  rcases cP hv with ⟨i,t,rfl,rfl⟩ | ⟨x,t,rfl,rfl⟩
  ·exact wpAny_pyHash_int h
  ·exact wpAny_pyHash_str h
 eqBool:=λhu hv h=>by
  rcases cP hu with ⟨i,t,rfl,rfl⟩ | ⟨x,t,rfl,rfl⟩
  ·rcases cP hv with ⟨j,u,rfl,rfl⟩ | ⟨y,u,rfl,rfl⟩
   ·rw[Ha] at h;exact wpAny_eqBool_int h
   ·rw[Hc] at h;exact SeqAt.EqAt.int_str i t y u _ _ _ _ h
  ·rcases cP hv with ⟨j,u,rfl,rfl⟩ | ⟨y,u,rfl,rfl⟩
   ·rw[He] at h;exact SeqAt.EqAt.str_int x t j u _ _ _ _ h
   ·rw[Hb] at h;exact wpAny_eqBool_str h
 «strs»:=λk x t v h=>by
  rcases cP h with ⟨i,u,rfl,e⟩ | ⟨y,u,rfl,e⟩
  ·exact nomatch e
  ·injection e with e1 _
   subst e1
   cases v <;>rfl
theorem vL (prog:Program) (w:World) (i:Int) (t:Tok):(cC prog w).is (.inl i) (.int i t)=true:=Az i t
theorem vM (prog:Program) (w:World) (x:Str) (t:Tok):(cC prog w).is (.inr x) (.str x t)=true:=AA x t
end L2
namespace L2
open PySem PySem.Spec PyProof.Rows
inductive V where
 | dG | bl (b:Bool) | int (i:Int) | str (x:Str) | BC (b:Array UInt8) | Hf (b:UInt64) | ref (a:Addr) | ty (n:String)
 deriving DecidableEq
noncomputable def RelV:V->Value->Prop
 | .dG,u=>u=Value.none
 | .bl b,u=>u=Value.bool b
 | .int i,u=>∃t,u=Value.int i t
 | .str x,u=>∃t,u=Value.str x t
 | .BC b,u=>∃t,u=Value.bytes b t
 | .Hf b,u=>∃t,u=Value.float b t
 | .ref a,u=>u=Value.ref a
 | .ty n,u=>u=Value.type n
abbrev bC:List V->List Value->Prop:=Paired RelV
theorem bC.length {xs:List V} {us:List Value} (r:bC xs us):xs.length=us.length:=Paired.length r
theorem bC.get:∀{xs:List V} {us:List Value} {i:Nat} {x:V},bC xs us->xs[i]?=some x->∃u,us[i]?=some u/\RelV x u
 | _,_,_,_,.nil,e=>by simp at e
 | _,_,0,_,.cons r _,e=>by simp at e;subst e;exact⟨_,rfl,r⟩
 | _,_,i+1,x,.cons _ t,e=>by
  obtain⟨u,h1,h2⟩:=bC.get (i:=i) (x:=x) t (by simpa using e)
  exact⟨u,by simpa using h1,h2⟩
theorem bC.set {x:V} {u:Value} (r:RelV x u):∀{xs:List V} {us:List Value} (i:Nat),bC xs us->bC (xs.set i x) (us.set i u)
 | _,_,_,.nil=>.nil
 | _,_,0,.cons _ t=>.cons r t
 | _,_,i+1,.cons q t=>.cons q (bC.set r i t)
theorem bC.append:∀{xs ys:List V} {us ws:List Value},bC xs us->bC ys ws->bC (xs++ys) (us++ws)
 | _,_,_,_,.nil,s=>s
 | _,_,_,_,.cons r t,s=>.cons r (bC.append t s)
theorem bC.take:∀{xs:List V} {us:List Value} (n:Nat),bC xs us->bC (xs.take n) (us.take n)
 | _,_,0,_=>.nil
 | _,_,_+1,.nil=>.nil
 | _,_,n+1,.cons r t=>.cons r (bC.take n t)
theorem bC.drop:∀{xs:List V} {us:List Value} (n:Nat),bC xs us->bC (xs.drop n) (us.drop n)
 | _,_,0,r=>r
 | _,_,_+1,.nil=>.nil
 | _,_,n+1,.cons _ t=>bC.drop n t
noncomputable def iY:Option V->Option Value->Prop
 | some v,some u=>RelV v u
 | none,none=>True
 | _,_=>False
noncomputable def KV {κ:Type}:List (κ×V)->List (κ×Value)->Prop:=Paired fun(p:κ×V) (q:κ×Value)=>p.1=q.1/\RelV p.2 q.2
noncomputable def kV:Key->V
 | .inl i=>.int i
 | .inr x=>.str x
inductive HO where
 | lst (xs:List V)
 | tup (xs:List V)
 | dK (kvs:List (Key×V)) | dT (kvs:List (List Key×V))
 | set (S:Int->Bool) (n:Nat)
 | ins (C dx:Addr) (fs:List (Str×V))
 | own (x:Addr)
 | xd (fs:List (Str×V))
 | met (f x:Addr)
 | MV (lo hi:Int)
 | vG (o:Obj) (u:HO)
 | zj (ps:Array Value)
 | ext (φ:Heap->Prop)
abbrev Hp:=Addr->Option HO
noncomputable def upd (H:Hp) (a:Addr) (o:HO):Hp:=λb=>if b=a then some o else H b
theorem aj {H:Hp} {a:Addr} {o:HO}:upd H a o a=some o:=by unfold upd;rw[if_pos rfl]
theorem aB {H:Hp} {a b:Addr} {o:HO} (h:b≠a):upd H a o b=H b:=by unfold upd;rw[if_neg h]
theorem zk {H:Hp} {a:Addr} {o u:HO}:upd (upd H a o) a u=upd H a u:=by
 funext b;unfold upd;split <;>rfl
theorem JX {H:Hp} {a b:Addr} {o u:HO} (h:H a=some o) (h':H b=some u) (d:o≠u):a≠b:=by
 intro e;subst e;rw[h] at h';exact d (aaF h')
theorem fm {H:Hp} {a b:Addr} {o:HO} (h:H a=some o) (h':H b=none):a≠b:=by
 intro e;subst e;rw[h] at h';cases h'
noncomputable def TabAt (H:Hp) (h:Heap) (a:Addr) (ps:Array Value):Prop:=∃mo:Array Value,h.get? a=some {cls:=.none,data:=.fields mo}/\
 (mo=#[]\/∃(l c:Value) (c1:Addr) (q:Str) (t:Tok),ps=#[l,c,.str q t]/\mo=#[l,c,.ref c1]/\H c1=some (.own a)/\h.CodeRec (.ref c1) q)
section
variable (P : Program) (w : World)
noncomputable def cG (H:Hp) (h:Heap) (a:Addr):HO->Prop
 | .lst xs=>xs.length<=sizeLine/\∃(bA:List Value) (n:Nat),bC xs bA/\h.get? a=some {cls:=.type "list",data:=.seq bA.toArray n}
 | .tup xs=>xs.length<=sizeLine/\∃bA:List Value,bC xs bA/\IsTup h a bA.toArray
 | .dK kvs=>kvs.length<=sizeLine/\(a==sysModules)=false/\∃vs,KV kvs vs/\h.DictOf (cC P w) a vs
 | .dT kvs=>kvs.length<=sizeLine/\(a==sysModules)=false/\∃xs:List (List Key×Addr×Value),
   Paired (fun(p:List Key×V) (q:List Key×Addr×Value)=>p.1=q.1/\H q.2.1=some (.tup (p.1.map kV))/\RelV p.2 q.2.2) kvs xs/\
   ∃o es ep,h.get? a=some o/\o.ExactDict/\o.data=.dict es ep/\es.toList=xs.map (entryOfKey (tupleKind (cC P w)))/\(xs.map (·.1)).Nodup
 | .set S n=>h.SetOf (intKind P w) a S n
 | .ins C dx fs=>H dx=some (.own a)/\fs.length<=1000/\dx≠a/\h.get? a=some (PySem.W.instObj C dx)/\
   ∃mA,h.Ns1 dx mA/\(∀f,iY (fs.lookup f) (mA f))/\PySem.Within mA (fs.map (·.1))
 | .own _=>∃o,h.get? a=some o
 | .xd fs=>∃mA,h.Ns1 a mA/\∀f,iY (fs.lookup f) (mA f)
 | .MV lo hi=>∃t u v,h.get? a=some {cls:=.type "range",data:=.fields #[.int lo t,.int hi u,.int 1 v]}
 | .vG o u=>h.get? a=some o/\cG H h a u
 | .zj ps=>TabAt H h a ps
 | .met f x=>h.get? a=some (PySem.W.methodObj (.ref f) (.ref x))
 | .ext φ=>φ h/\(∃o,h.get? a=some o)/\∀h1 h2:Heap,φ h1->(∀o,h1.get? a=some o->h2.get? a=some o)->φ h2
noncomputable def hJ (H:Hp) (h:Heap):Prop:=∀a o,H a=some o->cG P w H h a o
end
section
variable {P : Program} {w : World} {H H' : Hp} {h h' : Heap} {a : Addr} {o : HO}
theorem cG.lt (x:cG P w H h a o):a<h.objs.size:=by
 cases o with
 | lst xs=>obtain⟨_,_,_,_,e⟩:=x;exact Heap.lt_size e
 | tup xs=>obtain⟨_,_,_,p⟩:=x;exact p.lt
 | dK kvs=>obtain⟨_,_,_,_,o,_,_,e,_⟩:=x;exact Heap.lt_size e
 | dT kvs=>obtain⟨_,_,_,_,o,_,_,e,_⟩:=x;exact Heap.lt_size e
 | set S n=>obtain⟨o,_,_,_,e,_⟩:=x;exact Heap.lt_size e
 | ins C dx fs=>obtain⟨_,_,_,e,_⟩:=x;exact Heap.lt_size e
 | own y=>obtain⟨_,e⟩:=x;exact Heap.lt_size e
 | xd fs=>obtain⟨_,⟨_,_,_,e,_⟩,_⟩:=x;exact Heap.lt_size e
 | MV lo hi=>obtain⟨_,_,_,e⟩:=x;exact Heap.lt_size e
 | vG ob u=>obtain⟨e,_⟩:=x;exact Heap.lt_size e
 | zj ps=>obtain⟨_,e,_⟩:=x;exact Heap.lt_size e
 | met f y=>exact Heap.lt_size (show h.get? a=some _ from x)
 | ext φ=>obtain⟨_,⟨_,e⟩,_⟩:=x;exact Heap.lt_size e
theorem Paired.Hg {α β:Type} {F G:α->β->Prop}:∀{l₁:List α} {l₂:List β},Paired F l₁ l₂->(∀a b,F a b->G a b)->Paired G l₁ l₂
 | _,_,.nil,_=>.nil
 | _,_,.cons r t,f=>.cons (f _ _ r) (Paired.Hg t f)
theorem cG.sj (x:cG P w H h a o) (k:∀b u,(b=a\/H b=some (.own a))->h.get? b=some u->h'.get? b=some u)
  (ho:∀b,H b=some (.own a)->H' b=some (.own a)) (ht:∀b xs,H b=some (.tup xs)->H' b=some (.tup xs)):cG P w H' h' a o:=by
 induction o with
 | lst xs=>obtain⟨z,bA,n,r,e⟩:=x;exact⟨z,bA,n,r,k _ _ (.inl rfl) e⟩
 | tup xs=>obtain⟨z,bA,r,ob,e,c⟩:=x;exact⟨z,bA,r,ob,k _ _ (.inl rfl) e,c⟩
 | dK kvs=>obtain⟨z,y,vs,r,ob,es,ep,e,c⟩:=x;exact⟨z,y,vs,r,ob,es,ep,k _ _ (.inl rfl) e,c⟩
 | dT kvs=>
  obtain⟨z,y,xs,r,ob,es,ep,e,c⟩:=x
  exact⟨z,y,xs,Paired.Hg r λp q z=>⟨z.1,ht _ _ z.2.1,z.2.2⟩,ob,es,ep,k _ _ (.inl rfl) e,c⟩
 | set S n=>obtain⟨ob,es,ep,t,e,c⟩:=x;exact⟨ob,es,ep,t,k _ _ (.inl rfl) e,c⟩
 | ins C dx fs=>
  obtain⟨d,z,ne,e,mA,⟨od,es,ep,e2,c⟩,r⟩:=x
  exact⟨ho _ d,z,ne,k _ _ (.inl rfl) e,mA,⟨od,es,ep,k _ _ (.inr d) e2,c⟩,r⟩
 | own y=>obtain⟨ob,e⟩:=x;exact⟨ob,k _ _ (.inl rfl) e⟩
 | xd fs=>obtain⟨mA,⟨od,es,ep,e,c⟩,r⟩:=x;exact⟨mA,⟨od,es,ep,k _ _ (.inl rfl) e,c⟩,r⟩
 | MV lo hi=>obtain⟨t,u,v,e⟩:=x;exact⟨t,u,v,k _ _ (.inl rfl) e⟩
 | vG ob u ih=>obtain⟨e,q⟩:=x;exact⟨k _ _ (.inl rfl) e,ih q⟩
 | zj ps=>
  obtain⟨mo,e,q⟩:=x
  refine⟨mo,k _ _ (.inl rfl) e,?_⟩
  rcases q with q | ⟨l,c,c1,qn,t,e1,e2,e3,c2,o2,U7,t2,f1,f2,f3,f4⟩
  ·exact .inl q
  ·cases f1
   exact .inr ⟨l,c,c1,qn,t,e1,e2,ho _ e3,c1,o2,U7,t2,rfl,k _ _ (.inr e3) f2,f3,f4⟩
 | met f y=>
  have e:h.get? a=some (PySem.W.methodObj (.ref f) (.ref y)):=x
  show h'.get? a=some (PySem.W.methodObj (.ref f) (.ref y))
  exact k a _ (.inl rfl) e
 | ext φ=>obtain⟨p,⟨o,e⟩,st⟩:=x;exact⟨st _ _ p λo q=>k _ _ (.inl rfl) q,⟨o,k _ _ (.inl rfl) e⟩,st⟩
theorem hJ.lt (x:hJ P w H h) (e:H a=some o):a<h.objs.size:=(x a o e).lt
theorem hJ.fresh (x:hJ P w H h) (e:h.objs.size<=a):H a=none:=by
 cases q:H a with
 | none=>rfl
 | some u=>exact absurd (aat (x.lt q) e) (aaA _)
theorem hJ.kept (x:hJ P w H h) (k:∀b u,h.get? b=some u->h'.get? b=some u):hJ P w H h':=λa o e=>
 (x a o e).sj (λb u _ q=>k b u q) (λ_ q=>q) λ_ _ q=>q
theorem hJ.laid (x:hJ P w H h) (k:∀b u,h.get? b=some u->h'.get? b=some u) (hp:h.objs.size<=a) (new:cG P w (upd H a o) h' a o):hJ P w (upd H a o) h':=λb u e=>by
 have hn:=x.fresh hp
 by_cases hb:b=a
 ·subst hb;rw[aj] at e;cases e;exact new
 ·rw[aB hb] at e
  exact(x b u e).sj (λc v _ q=>k c v q) (λc q=>by rw[aB (fm q hn)];exact q) λc xs q=>by rw[aB (fm q hn)];exact q
end
noncomputable def Rd (H:Hp) (a:Addr) (u:HO):Prop:=H a=some u\/∃o,H a=some (.vG o u)
theorem Rd.ok {P:Program} {w:World} {H:Hp} {h:Heap} {a:Addr} {u:HO} (r:Rd H a u) (x:hJ P w H h):cG P w H h a u:=by
 rcases r with r | ⟨o,r⟩
 ·exact x a u r
 ·obtain⟨_,q⟩:=x a _ r
  exact q
noncomputable def JY:Option HO->Prop
 | some (.lst _)=>True
 | some (.dK _)=>True
 | some (.dT _)=>True
 | some (.set _ _)=>True
 | some (.ins _ _ _)=>True
 | some (.ext _)=>True
 | _=>False
section
variable {P : Program} {w : World} {H : Hp} {h h' : Heap} {x e : Addr} {o' : HO}
theorem hJ.write (ok:hJ P w H h) (mu:JY (H x)) (he:e=x\/H e=some (.own x)) (k:∀b u,b≠e->h.get? b=some u->h'.get? b=some u) (Js:∃u,h'.get? e=some u)
  (new:cG P w (upd H x o') h' x o'):hJ P w (upd H x o') h':=λb u q=>by
 have JZ:∀c y,H c=some (.own y)->c≠x:=λc y r z=>by subst z;rw[r] at mu;exact mu
 have NV:∀c xs,H c=some (.tup xs)->c≠x:=λc xs r z=>by subst z;rw[r] at mu;exact mu
 by_cases hb:b=x
 ·subst hb;rw[aj] at q;cases q;exact new
 ·rw[aB hb] at q
  by_cases Hh:b=e
  ·have q':H b=some (.own x):=by
    rcases he with z | z
    ·exact absurd (Hh.trans z) hb
    ·rw[Hh];exact z
   rw[q] at q';cases q'
   obtain⟨v,hv⟩:=Js
   exact⟨v,by rw[Hh];exact hv⟩
  ·refine(ok b u q).sj (λc v hc r=>k c v ?_ r) (λc r=>by rw[aB (JZ c b r)];exact r) λc xs r=>by rw[aB (NV c xs r)];exact r
   rcases hc with rfl | hc
   ·exact Hh
   ·rintro rfl
    rcases he with z | z
    ·exact JZ c b hc z
    ·rw[hc] at z;cases z;exact hb rfl
end
structure Un (fs ex:List Addr) (H H':Hp) (h h':Heap):Prop where
 keep:∀b o,h.get? b=some o->H b=none->b∉fs->b∉ex->h'.get? b=some o
 slot:∀b o,h.get? b=some o->H b=none->b∈fs->b∉ex->∃sl,h'.get? b=some {o with slots:=sl}
 free:∀b o,h.get? b=some o->H b=none->b∉ex->H' b=none
 there:∀b o,h.get? b=some o->b∉ex->∃o',h'.get? b=some o'
 iF:∀b xs,H b=some (.tup xs)->H' b=some (.tup xs)
 hU:∀b o u,H b=some (.vG o u)->H' b=some (.vG o u)
 iZ:∀b ps,H b=some (.zj ps)->∃more,H' b=some (.zj (ps++more))
section
variable {fs Xl ex J0 : List Addr} {H H1 H2 : Hp} {h h1 h2 h' : Heap} {a x e : Addr} {o : HO}
theorem Un.any (u:Un fs ex H H1 h h1) {b:Addr} {ob:Obj} (q:h.get? b=some ob) (n:H b=none) (hx:b∉ex):∃sl,h1.get? b=some {ob with slots:=sl}:=by
 by_cases hb:b∈fs
 ·exact u.slot b ob q n hb hx
 ·exact⟨ob.slots,u.keep b ob q n hb hx⟩
theorem Un.kept (k:∀b u,h.get? b=some u->h'.get? b=some u):Un fs ex H H h h':=
 ⟨λb ob q _ _ _=>k b ob q,λb ob q _ _ _=>⟨ob.slots,k b ob q⟩,λ_ _ _ n _=>n,λb ob q _=>⟨ob,k b ob q⟩,λ_ _ q=>q,λ_ _ _ q=>q,λ_ ps q=>⟨#[],by rw[q];simp⟩⟩
theorem Un.refl:Un fs ex H H h h:=Un.kept λ_ _ q=>q
theorem Un.laid (k:∀b u,h.get? b=some u->h'.get? b=some u) (hp:h.objs.size<=a) (hn:H a=none):Un fs ex H (upd H a o) h h' where
 keep:=λb u q _ _ _=>k b u q
 slot:=λb u q _ _ _=>⟨u.slots,k b u q⟩
 free:=λb u q n _=>by rw[aB (aam (aat (Heap.lt_size q) hp))];exact n
 there:=λb u q _=>⟨u,k b u q⟩
 iF:=λb xs q=>by rw[aB (fm q hn)];exact q
 hU:=λb u xs q=>by rw[aB (fm q hn)];exact q
 iZ:=λb ps q=>⟨#[],by rw[aB (fm q hn),q];simp⟩
theorem Un.write (mu:JY (H x)) (he:e=x\/H e=some (.own x)) (k:∀b u,b≠e->h.get? b=some u->h'.get? b=some u) (Js:∃u,h'.get? e=some u):Un fs ex H (upd H x o) h h':=by
 have hx:∀b,H b=none->b≠x:=λb n z=>by subst z;rw[n] at mu;exact mu
 have hb:∀b,H b=none->b≠e:=λb n z=>by
  subst z
  rcases he with r | r
  ·exact hx b n r
  ·rw[n] at r;cases r
 have hm:∀b u,H b=some u->¬JY (some u)->b≠x:=λb u q nm z=>by subst z;rw[q] at mu;exact nm mu
 refine⟨λb u q n _ _=>k b u (hb b n) q,λb u q n _ _=>⟨u.slots,k b u (hb b n) q⟩,λb u q n _=>by rw[aB (hx b n)];exact n,λb u q _=>?_,
  λb xs q=>by rw[aB (hm b _ q λz=>z)];exact q,λb u xs q=>by rw[aB (hm b _ q λz=>z)];exact q,λb ps q=>⟨#[],by rw[aB (hm b _ q λz=>z),q];simp⟩⟩
 by_cases Hh:b=e
 ·subst Hh;exact Js
 ·exact⟨u,k b u Hh q⟩
end
noncomputable def MW (h:Heap) (H:Hp):List Addr:=(List.range h.objs.size).filter λa=>(H a).isSome
noncomputable def ur (h:Heap) (H:Hp):Heap:=PySem.W.hideAll h (MW h H)
theorem AB (h:Heap) (H:Hp):(ur h H).objs.size=h.objs.size:=PySem.W.hideAll_size _ _
theorem BN {h:Heap} {H:Hp} {b:Addr} {o:Obj} (e:h.get? b=some o) (n:H b=none):(ur h H).get? b=some o:=
 PySem.W.hideAll_get _ e λhm=>by
  have q:(H b).isSome=true:=(List.mem_filter.mp hm).2
  rw[n] at q;simp at q
theorem Em {h:Heap} {H:Hp} {b:Addr} {o:Obj} (e:(ur h H).get? b=some o):h.get? b=some o/\H b=none:=by
 have e':h.get? b=some o:=PySem.W.of_hideAll (MW h H) e
 refine⟨e',?_⟩
 cases q:H b with
 | none=>rfl
 | some x=>
  have hm:b∈MW h H:=List.mem_filter.mpr ⟨List.mem_range.mpr (Heap.lt_size e'),by simp [q]⟩
  have z:(ur h H).get? b=none:=PySem.W.hideAll_none (MW h H) hm
  rw[z] at e;cases e
noncomputable def En (g h:Heap) (L:Addr):List (Addr×Obj):=(List.range h.objs.size).filterMap λa=>if a=L\/(g.get? a).isSome=true then none else (h.get? a).map λo=>(a,o)
noncomputable def rest (g h:Heap) (L d:Addr):List (Addr×Obj):=(En g h L).filter λp=>decide (p.1≠d)
end L2
namespace L2
open PySem PySem.Spec PyProof.Rows
structure Mod (K:PySem.W.Frag) (mg:Str->Option Value) (base:Heap):Prop where
 Hi:K.In base
 glob:base.Ns mainGlobals mg
 blt:∃mb,base.Ns builtinsNs mb/\∀x:Str,x≠"__name__"->mb x=bootBuiltins x
 nolimit:base.NoLimit
structure Cx where
 prog:Program
 w:World
 K:PySem.W.Frag
 mg:Str->Option Value
 base:Heap
 A:Around
 N:List Str
 s₀:Shared
 H₀:Hp
 env:Env
 outer:List Env
 stack:List Env
 ex:List Addr
 fn:Str->Bool
 calm:Bool
 pn:List (Addr×Obj)
 xe:Value->Shared->Prop
def dY (l:List Env):List Addr:=l.filterMap (·.frame)
abbrev Cx.fs (X:Cx):List Addr:=dY X.outer
noncomputable def NW (sc:Scope) (x:Str):Prop:=sc.names.lookup x=some .local\/sc.names.lookup x=some .cell\/sc.names.lookup x=some .free
noncomputable def Loc (sc:Scope) (x:Str):Prop:=sc.names.lookup x=some .local\/sc.names.lookup x=some .cell
noncomputable def Look (env:Env) (h:Heap) (m:Str->Option Value) (x:Str) (u:Value):Prop:=
 (env.kindOf x=some .local/\m x=some u)\/((env.kindOf x=some .cell\/env.kindOf x=some .free)/\∃c,env.cells.lookup x=some c/\h.IsCell c (some u))
structure Cx.Ok (X:Cx):Prop where
 mod:Mod X.K X.mg X.base
 kind:X.env.scope.kind=.function
 glob:X.env.globals=mainGlobals
 blt:X.env.builtins=builtinsNs
 above:X.s₀.heap.objs.size<=X.env.locals
 inj:∀x y c,X.env.cells.lookup x=some c->X.env.cells.lookup y=some c->x=y
 has:∀x,(X.env.kindOf x=some .cell\/X.env.kindOf x=some .free)->∃c,X.env.cells.lookup x=some c
 Hj:∀x c,X.fn x=true->X.env.cells.lookup x=some c->X.s₀.heap.objs.size<=c
 hd:X.calm=true->X.A.handled=none
 frames:X.A.frames=some X.stack
 Jt:X.stack=X.outer\/(X.stack=X.env::X.outer/\X.env.frame=some X.env.locals)
 MX:∀b∈X.ex,b≠X.env.locals/\∀x c,X.env.cells.lookup x=some c->c≠b
 bs:∀b o,X.base.get? b=some o->X.s₀.heap.get? b=some o/\X.H₀ b=none
 BO:X.base.objs.size<=X.s₀.heap.objs.size
 xI:∀b o,X.base.get? b=some o->b∉X.ex
 AD:∀b∈X.ex,b∉X.fs
 mr:X.s₀.heap.FunFrames X.base X.outer
 Eo:∀b∈X.fs,X.H₀ b=none
structure Inv (X:Cx) (pins:List (Addr×Obj)) (σ:List (Option V)) (H:Hp) (s:Shared):Prop where
 ok:X.Ok
 os:s.os=X.s₀.os
 bare:AllBare s.gens
 base:Un X.fs X.ex X.H₀ H X.s₀.heap s.heap
 loc:∃m,s.heap.Ns X.env.locals m/\∀(i:Nat) (x:Str) (v:V),X.N[i]?=some x->σ[i]?=some (some v)->NW X.env.scope x->∃u,RelV v u/\Look X.env s.heap m x u
 cell:∀x c,X.env.cells.lookup x=some c->∃v,s.heap.IsCell c v
 free:H X.env.locals=none
 gH:∀x c,X.env.cells.lookup x=some c->H c=none
 pin:∀p∈X.pn++pins,s.heap.get? p.1=some p.2/\H p.1=none/\p.1≠X.env.locals/\p.1∉X.fs/\∀v,p.2.data≠.cell v
 bN:hJ X.prog X.w H s.heap
 len:σ.length=X.N.length
section
variable {X : Cx} {pins : List (Addr × Obj)} {σ : List (Option V)} {H H' : Hp} {s : Shared} {h' : Heap}
theorem Cx.Ok.NX (ok:X.Ok) {b:Addr} {o:Obj} (e:X.base.get? b=some o):b∉X.fs:=λhb=>by
 have:=(ok.mr.mem hb).1
 rw[e] at this;cases this
theorem Inv.bs (I:Inv X pins σ H s):∀b o,X.base.get? b=some o->s.heap.get? b=some o/\H b=none:=λb o e=>
 ⟨I.base.keep b o (I.ok.bs b o e).1 (I.ok.bs b o e).2 (I.ok.NX e) (I.ok.xI b o e),I.base.free b o (I.ok.bs b o e).1 (I.ok.bs b o e).2 (I.ok.xI b o e)⟩
theorem Inv.bk (I:Inv X pins σ H s):∀b o,X.base.get? b=some o->s.heap.get? b=some o:=λb o e=>(I.bs b o e).1
theorem Inv.mod (I:Inv X pins σ H s):Mod X.K X.mg X.base:=I.ok.mod
theorem Inv.lC (I:Inv X pins σ H s):X.K.In s.heap:=I.ok.mod.Hi.keeps I.bk
theorem Inv.lt (I:Inv X pins σ H s):X.env.locals<s.heap.objs.size:=let ⟨_,hn,_⟩:=I.loc;hn.lt
theorem Inv.sz (I:Inv X pins σ H s):X.s₀.heap.objs.size<=s.heap.objs.size:=aar I.ok.above (Nat.le_of_lt I.lt)
theorem Inv.NY (I:Inv X pins σ H s) {a:Addr} (h:s.heap.objs.size<=a):a∉X.fs:=λhb=>by
 obtain⟨_,o,ho,_⟩:=I.ok.mr.mem hb
 exact absurd (aat (Heap.lt_size ho) (aar I.sz h)) (aaA _)
theorem Inv.Hk (I:Inv X pins σ H s):∀x c,X.env.cells.lookup x=some c->c≠X.env.locals:=λx c e z=>by
 obtain⟨v,o,ho,hd⟩:=I.cell x c e
 obtain⟨m,⟨o',es,ep,Ep,Hl,_⟩,_⟩:=I.loc
 rw[z,Ep] at ho;cases ho;rw[Hl] at hd;cases hd
theorem Inv.mr (I:Inv X pins σ H s):s.heap.FunFrames X.base X.outer:=by
 have all:∀(l:List Env),(∀b∈dY l,b∈X.fs)->X.s₀.heap.FunFrames X.base l->s.heap.FunFrames X.base l:=by
  intro l
  induction l with
  | nil=>intro _ _;trivial
  | cons env r ih=>
   intro hs hl
   obtain⟨hk,⟨L,o,hf,hn,ho,hd⟩,hr⟩:=hl
   have hL:L∈X.fs:=hs L (by unfold dY;rw[aaX,hf];exact aao)
   obtain⟨sl,e⟩:=I.base.slot L o ho (I.ok.Eo L hL) hL λz=>I.ok.AD L z hL
   exact⟨hk,⟨L,_,hf,hn,e,hd⟩,ih (λb hb=>hs b (by unfold dY;rw[aaX,hf];exact aal _ hb)) hr⟩
 exact all X.outer (λ_ hb=>hb) I.ok.mr
theorem Inv.stack (I:Inv X pins σ H s):s.heap.FunFrames X.base X.stack:=by
 rcases I.ok.Jt with e | ⟨e,hf⟩
 ·rw[e];exact I.mr
 ·rw[e]
  obtain⟨m,hn,_⟩:=I.loc
  refine .cons (by rw[I.ok.kind];decide) hf hn ?_ I.mr
  exact Heap.get?_none_of_le (aar I.ok.BO I.ok.above)
theorem Inv.uu (I:Inv X pins σ H s):∀b∈dY X.stack,b∈X.env.locals::X.fs:=λb hb=>by
 rcases I.ok.Jt with e | ⟨e,hf⟩
 ·rw[e] at hb;exact aal _ hb
 ·rw[e] at hb
  unfold dY at hb
  rw[aaX,hf] at hb
  exact hb
theorem Inv.pY (I:Inv X pins σ H s):∀b∈dY X.stack,H b=none:=λb hb=>by
 rcases List.mem_cons.mp (I.uu b hb) with e | hb
 ·rw[e];exact I.free
 ·obtain⟨_,o,ho,_⟩:=I.ok.mr.mem hb
  exact I.base.free b o ho (I.ok.Eo b hb) λz=>I.ok.AD b z hb
theorem Inv.step {g':Array GenState} {t':Nat} {d':Drawn} {ch:List Addr} (I:Inv X pins σ H s)
  (DY:∀b∈ch,(b∈X.ex\/X.s₀.heap.objs.size<=b)/\b≠X.env.locals/\(∀x c,X.env.cells.lookup x=some c->c≠b)/\∀p∈X.pn++pins,p.1≠b)
  (keep:∀b o,b≠X.env.locals->b∉X.fs->b∉ch->s.heap.get? b=some o->H b=none->h'.get? b=some o)
  (slot:∀b o,b≠X.env.locals->b∈X.fs->b∉ch->s.heap.get? b=some o->H b=none->∃sl,h'.get? b=some {o with slots:=sl}) (free:∀b o,b∉ch->s.heap.get? b=some o->H b=none->H' b=none)
  (there:∀b o,b∉ch->s.heap.get? b=some o->∃o',h'.get? b=some o')
  (iF:∀b xs,H b=some (.tup xs)->H' b=some (.tup xs)) (hU:∀b o u,H b=some (.vG o u)->H' b=some (.vG o u)) (iZ:∀b ps,H b=some (.zj ps)->∃more,H' b=some (.zj (ps++more)))
  (ns:∀m,s.heap.Ns X.env.locals m->h'.Ns X.env.locals m) (bN:hJ X.prog X.w H' h') (hg:AllBare g'):
  Inv X pins σ H' {s with heap:=h',gens:=g',drawn:=d',toks:=t'}:=by
 have U8:∀b o,X.s₀.heap.get? b=some o->b≠X.env.locals:=λb o e=>aam (aat (Heap.lt_size e) I.ok.above)
 have MY:∀b o,X.s₀.heap.get? b=some o->b∉X.ex->b∉ch:=λb o e hx hb=>by
  rcases(DY b hb).1 with z | z
  ·exact hx z
  ·exact absurd (aat (Heap.lt_size e) z) (aaA _)
 have cellK:∀x c,X.env.cells.lookup x=some c->∀v,s.heap.IsCell c v->h'.IsCell c v:=λx c e v ⟨o,ho,hd⟩=>by
  have Gi:c∉ch:=λz=>(DY c z).2.2.1 x c e rfl
  by_cases hc:c∈X.fs
  ·obtain⟨sl,q⟩:=slot c o (I.Hk x c e) hc Gi ho (I.gH x c e)
   exact⟨_,q,hd⟩
  ·exact⟨o,keep c o (I.Hk x c e) hc Gi ho (I.gH x c e),hd⟩
 refine⟨I.ok,I.os,hg,⟨λb o e n hb hx=>?_,λb o e n hb hx=>?_,λb o e n hx=>?_,λb o e hx=>?_,λb xs e=>iF b xs (I.base.iF b xs e),λb o xs e=>hU b o xs (I.base.hU b o xs e),λb ps e=>?_⟩,?_,λx c e=>?_,?_,λx c e=>?_,λp hp=>?_,bN,I.len⟩
 ·exact keep b o (U8 b o e) hb (MY b o e hx) (I.base.keep b o e n hb hx) (I.base.free b o e n hx)
 ·obtain⟨sl,e1⟩:=I.base.slot b o e n hb hx
  obtain⟨J1,e2⟩:=slot b _ (U8 b o e) hb (MY b o e hx) e1 (I.base.free b o e n hx)
  exact⟨J1,e2⟩
 ·obtain⟨o',e1⟩:=I.base.there b o e hx
  exact free b o' (MY b o e hx) e1 (I.base.free b o e n hx)
 ·obtain⟨o',e1⟩:=I.base.there b o e hx
  exact there b o' (MY b o e hx) e1
 ·obtain⟨m1,e1⟩:=I.base.iZ b ps e
  obtain⟨m2,e2⟩:=iZ b _ e1
  exact⟨m1++m2,by rw[e2,Array.append_assoc]⟩
 ·obtain⟨m,hn,hl⟩:=I.loc
  refine⟨m,ns m hn,λi x v e1 e2 e3=>?_⟩
  obtain⟨u,r,l⟩:=hl i x v e1 e2 e3
  refine⟨u,r,?_⟩
  rcases l with l | ⟨k,c,e,z⟩
  ·exact .inl l
  ·exact .inr ⟨k,c,e,cellK x c e _ z⟩
 ·obtain⟨v,z⟩:=I.cell x c e
  exact⟨v,cellK x c e v z⟩
 ·obtain⟨m,⟨o,_,_,ho,_⟩,_⟩:=I.loc
  exact free _ o (λz=>(DY _ z).2.1 rfl) ho I.free
 ·obtain⟨v,o,ho,hd⟩:=I.cell x c e
  exact free c o (λz=>(DY c z).2.2.1 x c e rfl) ho (I.gH x c e)
 ·obtain⟨e,n,ne,nf,d⟩:=I.pin p hp
  have Gi:p.1∉ch:=λz=>(DY p.1 z).2.2.2 p hp rfl
  exact⟨keep p.1 p.2 ne nf Gi e n,free p.1 p.2 Gi e n,ne,nf,d⟩
theorem Inv.un {t':Nat} (I:Inv X pins σ H s) (u:Un X.fs [] H H' s.heap h') (bN:hJ X.prog X.w H' h'):Inv X pins σ H' {s with heap:=h',toks:=t'}:=by
 obtain⟨m,⟨o,es,ep,ho,r⟩,_⟩:=id I.loc
 obtain⟨sl,hL⟩:=u.any ho I.free (by simp)
 exact I.step (g':=s.gens) (d':=s.drawn) (ch:=[]) (λ_ z=>nomatch z) (λb o _ hb _ e n=>u.keep b o e n hb (by simp)) (λb o _ hb _ e n=>u.slot b o e n hb (by simp)) (λb o _ e n=>u.free b o e n (by simp)) (λb o _ e=>u.there b o e (by simp)) u.iF u.hU u.iZ (λm' hm=>by
  obtain⟨o',vH,AE,Ep,r'⟩:=hm
  rw[ho] at Ep;cases Ep
  exact⟨_,vH,AE,hL,r'⟩) bN I.bare
theorem Inv.call {g':Array GenState} {t':Nat} {d':Drawn} {ch:List Addr} (I:Inv X pins σ H s) (u:Un (dY X.stack) ch H H' s.heap h') (bN:hJ X.prog X.w H' h') (hg:AllBare g')
  (DY:∀b∈ch,(b∈X.ex\/X.s₀.heap.objs.size<=b)/\b≠X.env.locals/\(∀x c,X.env.cells.lookup x=some c->c≠b)/\∀p∈X.pn++pins,p.1≠b):
  Inv X pins σ H' {s with heap:=h',gens:=g',drawn:=d',toks:=t'}:=by
 obtain⟨m,⟨o,es,ep,ho,r⟩,_⟩:=id I.loc
 obtain⟨sl,hL⟩:=u.any ho I.free λz=>(DY _ z).2.1 rfl
 exact I.step (ch:=ch) DY (λb o hL hb hc e n=>u.keep b o e n (λz=>(List.mem_cons.mp (I.uu b z)).elim hL hb) hc) (λb o _ _ hc e n=>u.any e n hc) (λb o hc e n=>u.free b o e n hc) (λb o hc e=>u.there b o e hc) u.iF u.hU u.iZ (λm' hm=>by
  obtain⟨o',vH,AE,Ep,r'⟩:=hm
  rw[ho] at Ep;cases Ep
  exact⟨_,vH,AE,hL,r'⟩) bN hg
theorem Inv.turned {t':Nat} {it:Addr} (I:Inv X pins σ H s) (k:∀b o,b≠it->s.heap.get? b=some o->h'.get? b=some o) (hn:H it=none) (hL:it≠X.env.locals)
  (h1:it∈X.ex\/X.s₀.heap.objs.size<=it) (h2:∀x c,X.env.cells.lookup x=some c->c≠it) (h3:∀p∈X.pn++pins,p.1≠it):Inv X pins σ H {s with heap:=h',toks:=t'}:=by
 have U9:∀b u,H b=some u->b≠it:=λb u e z=>by rw[z,hn] at e;cases e
 refine I.step (g':=s.gens) (d':=s.drawn) (ch:=[it]) (λb hb=>?_) (λb o _ _ hc e _=>k b o (λz=>hc (by simp [z])) e) (λb o _ _ hc e _=>⟨o.slots,k b o (λz=>hc (by simp [z])) e⟩) (λ_ _ _ _ n=>n)
  (λb o hc e=>⟨o,k b o (λz=>hc (by simp [z])) e⟩) (λ_ _ e=>e) (λ_ _ _ e=>e) (λb ps e=>⟨#[],by rw[e];simp⟩) (λm hm=>?_) (λb u e=>?_) I.bare
 ·have e:b=it:=by simpa using hb
  subst e
  exact⟨h1,hL,h2,h3⟩
 ·obtain⟨o,es,ep,ho,r⟩:=hm
  exact⟨o,es,ep,k _ o (Ne.symm hL) ho,r⟩
 ·refine(I.bN b u e).sj (λc v hc q=>k c v ?_ q) (λ_ q=>q) λ_ _ q=>q
  rcases hc with z | z
  ·rw[z];exact U9 b u e
  ·exact U9 c _ z
theorem Inv.tok (I:Inv X pins σ H s) (t:Nat):Inv X pins σ H {s with toks:=t}:=I.un (h':=s.heap) (t':=t) Un.refl I.bN
theorem Inv.kept {t':Nat} (I:Inv X pins σ H s) (k:∀b u,s.heap.get? b=some u->h'.get? b=some u):Inv X pins σ H {s with heap:=h',toks:=t'}:=I.un (Un.kept k) (I.bN.kept k)
theorem Inv.laid {a:Addr} {o:HO} {t':Nat} (I:Inv X pins σ H s) (k:∀b u,s.heap.get? b=some u->h'.get? b=some u) (hp:s.heap.objs.size<=a) (new:cG X.prog X.w (upd H a o) h' a o):
  Inv X pins σ (upd H a o) {s with heap:=h',toks:=t'}:=I.un (Un.laid k hp (I.bN.fresh hp)) (I.bN.laid k hp new)
theorem Inv.write {x e:Addr} {o:HO} {t':Nat} (I:Inv X pins σ H s) (mu:JY (H x)) (he:e=x\/H e=some (.own x)) (k:∀b u,b≠e->s.heap.get? b=some u->h'.get? b=some u) (Js:∃u,h'.get? e=some u)
  (new:cG X.prog X.w (upd H x o) h' x o):Inv X pins σ (upd H x o) {s with heap:=h',toks:=t'}:=I.un (Un.write mu he k Js) (I.bN.write mu he k Js new)
theorem Inv.mv {Gj:List (Addr×Obj)} (I:Inv X pins σ H s) (h:∀p∈Gj,s.heap.get? p.1=some p.2/\H p.1=none/\p.1≠X.env.locals/\p.1∉X.fs/\∀v,p.2.data≠.cell v):Inv X Gj σ H s:=
 ⟨I.ok,I.os,I.bare,I.base,I.loc,I.cell,I.free,I.gH,λp hp=>(List.mem_append.mp hp).elim (λz=>I.pin p (List.mem_append_left _ z)) (h p),I.bN,I.len⟩
theorem vN {N:List Str} (hN:N.Nodup) {i j:Nat} {x:Str} (a:N[i]?=some x) (b:N[j]?=some x):i=j:=by
 obtain⟨h1,e1⟩:=List.getElem?_eq_some_iff.mp a
 obtain⟨h2,e2⟩:=List.getElem?_eq_some_iff.mp b
 exact(List.getElem_inj hN).mp (e1.trans e2.symm)
theorem tF {M:Model} {A:Around} {E:Value->Shared->Prop} {i:Nat} {x:Str} {v:V} {u:Value} {Q:Unit->Shared->Prop} (I:Inv X pins σ H s) (hN:X.N.Nodup) (hi:X.N[i]?=some x) (hx:Loc X.env.scope x) (r:RelV v u)
  (h:∀s',Inv X pins (σ.set i (some v)) H s'->(∃a,Heap.SameBut a s.heap s'.heap/\(a=X.env.locals\/X.env.cells.lookup x=some a))->Q () s') (hf:X.fn x=true\/X.env.scope.names.lookup x=some .local:=by first | exact .inl rfl | exact .inr rfl | assumption):wpAny M A (storeName X.env x u) Q E s:=by
 obtain⟨m,hn,hl⟩:=id I.loc
 have NZ:(X.env.scope.kind==.class || (X.env.scope.kind==.module && X.env.locals !=X.env.globals))=false:=by rw[I.ok.kind];rfl
 have Va:i<σ.length:=by rw[I.len];exact(List.getElem?_eq_some_iff.mp hi).1
 have Hk:=I.Hk
 have tracked:∀{a:Addr} {h':Heap},(∃o,s.heap.get? a=some o/\H a=none)->Heap.SameBut a s.heap h'->hJ X.prog X.w H h':=λ{a h'} ha hs b ob e=>by
  obtain⟨_,_,Gk⟩:=ha
  refine(I.bN b ob e).sj (λc w' hc q=>(hs.2 c ?_).trans q) (λ_ q=>q) λ_ _ q=>q
  rintro rfl
  rcases hc with rfl | hc
  ·rw[Gk] at e;cases e
  ·rw[Gk] at hc;cases hc
 rcases hx with hk | hk
 ·refine wpAny_storeName_local hk hn (λh' Xm hs=>?_) NZ
  obtain⟨oL,_,_,J2,_⟩:=id hn
  refine h _ ⟨I.ok,I.os,I.bare,⟨λb o e n hb hx=>?_,λb o e n hb hx=>?_,I.base.free,λb o e hx=>?_,I.base.iF,I.base.hU,I.base.iZ⟩,⟨_,Xm,λj y v' e1 e2 e3=>?_⟩,λy c e=>?_,I.free,I.gH,λp hp=>?_,tracked ⟨oL,J2,I.free⟩ hs,by simpa using I.len⟩ ⟨_,hs,.inl rfl⟩
  ·exact(hs.2 b (aam (aat (Heap.lt_size e) I.ok.above))).trans (I.base.keep b o e n hb hx)
  ·obtain⟨sl,e1⟩:=I.base.slot b o e n hb hx
   exact⟨sl,(hs.2 b (aam (aat (Heap.lt_size e) I.ok.above))).trans e1⟩
  ·obtain⟨o',e1⟩:=I.base.there b o e hx
   exact⟨o',(hs.2 b (aam (aat (Heap.lt_size e) I.ok.above))).trans e1⟩
  ·by_cases hj:j=i
   ·subst hj
    rw[hi] at e1;cases e1
    rw[List.getElem?_set_self Va] at e2
    cases e2
    exact⟨u,r,.inl ⟨hk,by simp⟩⟩
   ·rw[List.getElem?_set_ne (Ne.symm hj)] at e2
    obtain⟨u',r',q⟩:=hl j y v' e1 e2 e3
    refine⟨u',r',?_⟩
    rcases q with ⟨k,e⟩ | ⟨k,c,e,z⟩
    ·refine .inl ⟨k,?_⟩
     have:y≠x:=λe=>hj (vN hN e1 (e▸hi))
     simp [this,e]
    ·exact .inr ⟨k,c,e,z.sameBut hs (Hk y c e)⟩
  ·obtain⟨w',z⟩:=I.cell y c e
   exact⟨w',z.sameBut hs (Hk y c e)⟩
  ·obtain⟨e,n,ne,nf,d⟩:=I.pin p hp
   exact⟨(hs.2 p.1 ne).trans e,n,ne,nf,d⟩
 ·have N0:X.fn x=true:=by
   rcases hf with z | z
   ·exact z
   ·rw[z] at hk;cases hk
  obtain⟨c,hc⟩:=I.ok.has x (.inl hk)
  obtain⟨w',z⟩:=I.cell x c hc
  refine wpAny_storeName_cell I.ok.kind hk hc z (λh' MZ hs=>?_)
  obtain⟨oc,Vb,N4⟩:=id z
  refine h {s with heap:=h'} ⟨I.ok,I.os,I.bare,⟨λb o e n hb hx=>?_,λb o e n hb hx=>?_,I.base.free,λb o e hx=>?_,I.base.iF,I.base.hU,I.base.iZ⟩,⟨m,hn.sameBut hs (Ne.symm (Hk x c hc)),λj y v' e1 e2 e3=>?_⟩,λy c' e=>?_,I.free,I.gH,λp hp=>?_,tracked ⟨oc,Vb,I.gH x c hc⟩ hs,by simpa using I.len⟩ ⟨c,hs,.inr hc⟩
  ·exact(hs.2 b (aam (aat (Heap.lt_size e) (I.ok.Hj x c N0 hc)))).trans (I.base.keep b o e n hb hx)
  ·obtain⟨sl,e1⟩:=I.base.slot b o e n hb hx
   exact⟨sl,(hs.2 b (aam (aat (Heap.lt_size e) (I.ok.Hj x c N0 hc)))).trans e1⟩
  ·obtain⟨o',e1⟩:=I.base.there b o e hx
   exact⟨o',(hs.2 b (aam (aat (Heap.lt_size e) (I.ok.Hj x c N0 hc)))).trans e1⟩
  ·by_cases hj:j=i
   ·subst hj
    rw[hi] at e1;cases e1
    rw[List.getElem?_set_self Va] at e2
    cases e2
    exact⟨u,r,.inr ⟨.inl hk,c,hc,MZ⟩⟩
   ·rw[List.getElem?_set_ne (Ne.symm hj)] at e2
    obtain⟨u',r',q⟩:=hl j y v' e1 e2 e3
    refine⟨u',r',?_⟩
    rcases q with q | ⟨k,c',e,z'⟩
    ·exact .inl q
    ·refine .inr ⟨k,c',e,z'.sameBut hs ?_⟩
     rintro rfl
     exact hj (vN hN e1 (I.ok.inj _ _ _ e hc▸hi))
  ·by_cases J3:c'=c
   ·subst J3;exact⟨_,MZ⟩
   ·obtain⟨w2,z2⟩:=I.cell y c' e
    exact⟨w2,z2.sameBut hs J3⟩
  ·obtain⟨e,n,ne,nf,d⟩:=I.pin p hp
   refine⟨(hs.2 p.1 ?_).trans e,n,ne,nf,d⟩
   intro q
   rw[q,Vb] at e
   have q':oc=p.2:=aaF e
   exact d w' (by rw[<-q'];exact N4)
theorem vO {M:Model} {A:Around} {E:Value->Shared->Prop} {i:Nat} {x:Str} {v:V} {u:Value} {Q:Unit->Shared->Prop} (I:Inv X pins σ H s) (hN:X.N.Nodup) (hi:X.N[i]?=some x) (hx:Loc X.env.scope x) (r:RelV v u)
  (h:∀s',Inv X pins (σ.set i (some v)) H s'->Q () s') (hf:X.fn x=true\/X.env.scope.names.lookup x=some .local:=by first | exact .inl rfl | exact .inr rfl | assumption):wpAny M A (storeName X.env x u) Q E s:=
 tF I hN hi hx r (λs' I' _=>h s' I') hf
theorem Inv.Gn {s':Shared} {ch:List Addr} (I:Inv X pins σ H s) (ho:s'.os=s.os) (u:Un (dY X.stack) ch H H' s.heap s'.heap) (bN:hJ X.prog X.w H' s'.heap) (hg:AllBare s'.gens)
  (DY:∀b∈ch,(b∈X.ex\/X.s₀.heap.objs.size<=b)/\b≠X.env.locals/\(∀x c,X.env.cells.lookup x=some c->c≠b)/\∀p∈X.pn++pins,p.1≠b):Inv X pins σ H' s':=by
 obtain⟨h',g',d',t',o'⟩:=s'
 have e:o'=s.os:=ho
 subst e
 exact I.call (g':=g') (t':=t') (d':=d') u bN hg DY
end
abbrev XK:=Value->Option Addr->Hp->Prop
abbrev St:=List (Option V)
abbrev VK:=V->Hp->Prop
abbrev TE:=St->Hp->VK->Prop
abbrev TT:=St->Hp->(Bool->Hp->Prop)->Prop
abbrev TA:=St->Hp->(List V->Hp->Prop)->Prop
structure Ends where
 nx:St->Hp->Prop
 rt:VK
 bk:St->Hp->Prop:=λ_ _=>False
 ct:St->Hp->Prop:=λ_ _=>False
abbrev TS:=Ends->St->Hp->Prop
noncomputable def EP (X:Cx) (pins:List (Addr×Obj)) (σ:St) (Q:VK) (u:Value) (s':Shared):Prop:=∃v H',Inv X pins σ H' s'/\RelV v u/\Q v H'
noncomputable def TP (X:Cx) (pins:List (Addr×Obj)) (σ:St) (Q:Bool->Hp->Prop) (b:Bool) (s':Shared):Prop:=∃H',Inv X pins σ H' s'/\Q b H'
noncomputable def AP (X:Cx) (pins:List (Addr×Obj)) (σ:St) (Q:List V->Hp->Prop) (us:List Value) (s':Shared):Prop:=∃vs H',Inv X pins σ H' s'/\bC vs us/\Q vs H'
noncomputable def SP (X:Cx) (pins:List (Addr×Obj)) (D:Ends) (f:Flow) (s':Shared):Prop:=
 match f with
 | .next=>∃σ' H',Inv X pins σ' H' s'/\D.nx σ' H'
 | .brk=>∃σ' H',Inv X pins σ' H' s'/\D.bk σ' H'
 | .cont=>∃σ' H',Inv X pins σ' H' s'/\D.ct σ' H'
 | .ret u=>∃v σ' H',Inv X pins σ' H' s'/\RelV v u/\D.rt v H'
noncomputable def PE (X:Cx) (e:Expr) (t:TE):Prop:=
 ∀(pins:List (Addr×Obj)) (s:Shared) (σ:St) (H:Hp) (Q:VK),Inv X pins σ H s->t σ H Q->wpAny (model X.prog X.w) X.A (eval e X.env) (EP X pins σ Q) X.xe s
noncomputable def PT (X:Cx) (e:Expr) (t:TT):Prop:=
 ∀(pins:List (Addr×Obj)) (s:Shared) (σ:St) (H:Hp) (Q:Bool->Hp->Prop),Inv X pins σ H s->t σ H Q->wpAny (model X.prog X.w) X.A (isTrue e X.env (eval e X.env)) (TP X pins σ Q) X.xe s
noncomputable def PW (X:Cx) (e:Expr) (t:TT):Prop:=
 ∀(whole:Sem Value) (pins:List (Addr×Obj)) (s:Shared) (σ:St) (H:Hp) (Q:Bool->Hp->Prop),Inv X pins σ H s->t σ H Q->wpAny (model X.prog X.w) X.A (isTrue e X.env whole) (TP X pins σ Q) X.xe s
theorem PW.pt {X:Cx} {e:Expr} {t:TT} (h:PW X e t):PT X e t:=h _
noncomputable def PA (X:Cx) (es:List Expr) (t:TA):Prop:=
 ∀(pos:Pos) (pins:List (Addr×Obj)) (s:Shared) (σ:St) (H:Hp) (Q:List V->Hp->Prop),Inv X pins σ H s->t σ H Q->wpAny (model X.prog X.w) X.A (spliced (backTo pos (starEach es X.env))) (AP X pins σ Q) X.xe s
noncomputable def PS (X:Cx) (st:Stmt) (t:TS):Prop:=
 ∀(pins:List (Addr×Obj)) (s:Shared) (σ:St) (H:Hp) (D:Ends),Inv X pins σ H s->t D σ H->wpAny (model X.prog X.w) X.A (exec st X.env) (SP X pins D) X.xe s
noncomputable def tG (X:Cx) (st:List Stmt) (t:TS):Prop:=
 ∀(pins:List (Addr×Obj)) (s:Shared) (σ:St) (H:Hp) (D:Ends),Inv X pins σ H s->t D σ H->wpAny (model X.prog X.w) X.A (execs st X.env) (SP X pins D) X.xe s
theorem cL {α:Type} {t:Sem α} {Q Q':α->Shared->Prop} {M:Model} {A:Around} {E:Value->Shared->Prop} {s:Shared} (h:wpAny M A t Q E s) (hQ:∀a s,Q a s->Q' a s):wpAny M A t Q' E s:=wpAny_mono h hQ λ_ _ x=>x
end L2
namespace L2
open PySem PySem.Spec PyProof.Rows
section
variable {X : Cx}
noncomputable def tVar (i:Nat):TE:=λσ H Q=>∃v,σ[i]?=some (some v)/\Q v H
noncomputable def tC (v:V):TE:=λ_ H Q=>Q v H
theorem Hm {i:Nat} {x:Str} {pos:Pos} (hN:X.N[i]?=some x) (hv:NW X.env.scope x) (hd:(x==("__debug__":Str))=false:=by decide) (AF:(x==("__classdict__":Str))=false:=by decide):PE X (.Name x pos) (tVar i):=by
 intro pins s σ H Q I h
 obtain⟨v,e,h⟩:=h
 obtain⟨m,hn,hl⟩:=I.loc
 obtain⟨u,r,l⟩:=hl i x v hN e hv
 have fin:EP X pins σ Q u s:=⟨v,H,I,r,h⟩
 rcases l with ⟨hk,hm⟩ | ⟨hk,c,hc,Gp⟩
 ·exact wpAny_Name (wpAny_loadName_local I.ok.kind hk hn hm fin) hd
 ·rcases hk with hk | hk
  ·exact wpAny_Name (wpAny_loadName_cell I.ok.kind hk hc Gp fin) hd
  ·exact wpAny_Name (wpAny_loadName_free I.ok.kind hk hc Gp fin AF) hd
theorem ag {i j pos}:PE X (.Constant (.int i) j pos) (tC (.int i)):=λ_ _ _ H _ I h=>wpAny_Constant_int ⟨.int i,H,I.tok _,⟨_,rfl⟩,h⟩
theorem tH {b j pos}:PE X (.Constant (.bool b) j pos) (tC (.bl b)):=λ_ _ _ H _ I h=>Constant_bool ⟨.bl b,H,I,rfl,h⟩
theorem xJ {j pos}:PE X (.Constant .none j pos) (tC .dG):=λ_ _ _ H _ I h=>Constant_none ⟨.dG,H,I,rfl,h⟩
theorem aG {x j pos}:PE X (.Constant (.str x) j pos) (tC (.str x)):=λ_ _ _ H _ I h=>Calls.Constant_str ⟨.str x,H,I.tok _,⟨_,rfl⟩,h⟩
noncomputable def Gl (X:Cx) (x:Str):Prop:=X.env.kindOf x=some .globalImplicit
theorem gI {E:Value->Shared->Prop} {pins:List (Addr×Obj)} {s:Shared} {σ:St} {H:Hp} {x:Str} {u:Value} {pos:Pos} {Q:Value->Shared->Prop} (I:Inv X pins σ H s) (hg:Gl X x) (hm:X.mg x=some u) (h:Q u s)
  (hd:(x==("__debug__":Str))=false:=by decide):wpAny (model X.prog X.w) X.A (eval (.Name x pos) X.env) Q E s:=
 Calls.Name_function_global I.ok.kind hg (Calls.loadGlobal_global (by rw[I.ok.glob];exact I.mod.glob.keeps I.bk) hm h) hd
theorem gS {E:Value->Shared->Prop} {pins:List (Addr×Obj)} {s:Shared} {σ:St} {H:Hp} {x:Str} {u:Value} {pos:Pos} {Q:Value->Shared->Prop} (I:Inv X pins σ H s) (hg:Gl X x) (hm:X.mg x=none) (hv:bootBuiltins x=some u) (h:Q u s)
  (hn:x≠"__name__":=by decide) (hd:(x==("__debug__":Str))=false:=by decide):wpAny (model X.prog X.w) X.A (eval (.Name x pos) X.env) Q E s:=by
 obtain⟨mb,h1,h2⟩:=I.mod.blt
 exact Calls.Name_function_global I.ok.kind hg (Calls.loadGlobal_builtin (by rw[I.ok.glob];exact I.mod.glob.keeps I.bk) hm (by rw[I.ok.blt];exact h1.keeps I.bk) ((h2 x hn).trans hv) h) hd
theorem Er {x:Str} {v:V} {u:Value} {pos:Pos} (hg:Gl X x) (hm:X.mg x=some u) (r:RelV v u) (hd:(x==("__debug__":Str))=false:=by decide):PE X (.Name x pos) (tC v):=
 λ_ _ _ H _ I h=>gI I hg hm ⟨v,H,I,r,h⟩ hd
theorem uw {x:Str} {v:V} {u:Value} {pos:Pos} (hg:Gl X x) (hm:X.mg x=none) (hv:bootBuiltins x=some u) (r:RelV v u) (hn:x≠"__name__":=by decide) (hd:(x==("__debug__":Str))=false:=by decide):PE X (.Name x pos) (tC v):=
 λ_ _ _ H _ I h=>gS I hg hm hv ⟨v,H,I,r,h⟩ hn hd
noncomputable def Xn (ta tb:TE) (k:Int->Int->Hp->Prop):St->Hp->Prop:=λσ H=>ta σ H λx H1=>tb σ H1 λy H2=>∃i j,x=.int i/\y=.int j/\k i j H2
variable {a b : Expr} {ta tb : TE} {pos : Pos}
noncomputable def PC (X:Cx) (op:CmpOp) (a b:Expr) (t:TE):Prop:=
 ∀(pins:List (Addr×Obj)) (s:Shared) (σ:St) (H:Hp) (Q:VK),Inv X pins σ H s->t σ H Q->
  wpAny (model X.prog X.w) X.A (eval a X.env) (λv s₁=>wpAny (model X.prog X.w) X.A (eval b X.env) (λu s₂=>wpAny (model X.prog X.w) X.A (compareOp op v u) (EP X pins σ Q) X.xe s₂) X.xe s₁) X.xe s
theorem BP (b:Expr) {op:CmpOp} (h:op≠.In) (h2:op≠.NotIn):behindInMarks op b=false:=by
 have e1:(op==CmpOp.In)=false:=by cases op <;>first | rfl | exact absurd rfl h
 have e2:(op==CmpOp.NotIn)=false:=by cases op <;>first | rfl | exact absurd rfl h2
 cases b <;>simp [behindInMarks,e1,e2]
noncomputable def AG (p:Int->Int->Bool) (ta tb:TE):TE:=λσ H Q=>Xn ta tb (λi j H2=>Q (.bl (p i j)) H2) σ H
abbrev tLt:TE->TE->TE:=AG λi j=>decide (i<j)
abbrev tLe:TE->TE->TE:=AG λi j=>decide (i<=j)
abbrev tGt:TE->TE->TE:=AG λi j=>decide (j<i)
abbrev tGe:TE->TE->TE:=AG λi j=>decide (j<=i)
abbrev Xo:TE->TE->TE:=AG λi j=>decide (i=j)
abbrev Xp:TE->TE->TE:=AG λi j=>!decide (i=j)
noncomputable def tB (t:TE):TT:=λσ H Q=>t σ H λx H1=>∃c,x=.bl c/\Q c H1
theorem xK {op:CmpOp} {t:TE} (h:PC X op a b t) (h1:behindInMarks op b=false:=by first | exact BP _ (by decide) (by decide) | rfl):PT X (.Compare a [op] [b] pos) (tB t):=by
 intro pins s σ H Q I hw
 refine wpAny_isTrue_Compare1 (cL (h pins s σ H _ I hw) λv s1 h1=>cL h1 λu s2 h2=>cL h2 λc s3 dH=>?_) h1
 obtain⟨x,H1,I1,r1,q1⟩:=dH
 obtain⟨d,rfl,q⟩:=q1
 cases r1
 exact wpAny_truthy_bool ⟨H1,I1,q⟩
theorem ux {e:Expr} {t:TE} (h:PE X e t) (he:∀whole,isTrue e X.env whole=(do let v <-whole;standAt e.pos;holding [v] (truthy v)):=by intro _;rfl):PT X e (tB t):=by
 intro pins s σ H Q I hw
 refine isTrue_plain (cL (h pins s σ H _ I hw) λv s1 dH=>?_) (he _)
 obtain⟨x,H1,I1,r1,q1⟩:=dH
 obtain⟨d,rfl,q⟩:=q1
 cases r1
 exact wpAny_truthy_bool ⟨H1,I1,q⟩
variable {tA M0 : TT} {rest : List Expr}
noncomputable def tAnd (t u:TT):TT:=λσ H Q=>t σ H λc H1=>if c=true then u σ H1 Q else Q false H1
noncomputable def tOr (t u:TT):TT:=λσ H Q=>t σ H λc H1=>if c=true then Q true H1 else u σ H1 Q
noncomputable def tNot (t:TT):TT:=λσ H Q=>t σ H λc H1=>Q (!c) H1
theorem pw_and1 (ha:PT X a tA):PW X (.BoolOp .And [a] pos) tA:=by
 intro wh pins s σ H Q I h
 refine isTrue_and (cL (ha pins s σ H Q I h) λc s1 e=>?_)
 cases c with
 | true=>exact isTrue_and_nil e
 | false=>exact e
theorem pw_or1 (ha:PT X a tA):PW X (.BoolOp .Or [a] pos) tA:=by
 intro wh pins s σ H Q I h
 refine isTrue_or (cL (ha pins s σ H Q I h) λc s1 e=>?_)
 cases c with
 | false=>exact isTrue_or_nil e
 | true=>exact e
theorem pw_and (ha:PT X a tA) (hb:PW X (.BoolOp .And (b::rest) pos) M0):PW X (.BoolOp .And (a::b::rest) pos) (tAnd tA M0):=by
 intro wh pins s σ H Q I h
 refine isTrue_and (cL (ha pins s σ H _ I h) λc s1 ⟨H1,I1,q1⟩=>?_)
 cases c with
 | true=>exact hb wh pins s1 σ H1 Q I1 q1
 | false=>exact⟨H1,I1,q1⟩
theorem pw_or (ha:PT X a tA) (hb:PW X (.BoolOp .Or (b::rest) pos) M0):PW X (.BoolOp .Or (a::b::rest) pos) (tOr tA M0):=by
 intro wh pins s σ H Q I h
 refine isTrue_or (cL (ha pins s σ H _ I h) λc s1 ⟨H1,I1,q1⟩=>?_)
 cases c with
 | true=>exact⟨H1,I1,q1⟩
 | false=>exact hb wh pins s1 σ H1 Q I1 q1
noncomputable def tAndV (ta tb:TE):TE:=λσ H Q=>ta σ H λx H1=>∃c,x=.bl c/\if c=true then tb σ H1 Q else Q (.bl false) H1
noncomputable def tOrV (ta tb:TE):TE:=λσ H Q=>ta σ H λx H1=>∃c,x=.bl c/\if c=true then Q (.bl true) H1 else tb σ H1 Q
noncomputable def tNotV (ta:TE):TE:=λσ H Q=>ta σ H λx H1=>∃c,x=.bl c/\Q (.bl (!c)) H1
theorem Hn {op} {t:TE} (h:PE X a t):PE X (.BoolOp op [a] pos) t:=λpins s σ H Q I hw=>BoolOp_one (h pins s σ H Q I hw)
theorem Ho (ha:PE X a ta) (hb:PE X (.BoolOp .And (b::rest) pos) tb):PE X (.BoolOp .And (a::b::rest) pos) (tAndV ta tb):=by
 intro pins s σ H Q I h
 refine BoolOp_and (cL (ha pins s σ H _ I h) λv s1 dH=>?_)
 obtain⟨x,H1,I1,r1,q1⟩:=dH
 obtain⟨c,rfl,q1⟩:=q1
 cases r1
 refine wpAny_truthy_bool ?_
 cases c with
 | true=>exact hb pins s1 σ H1 Q I1 q1
 | false=>exact⟨.bl false,H1,I1,rfl,q1⟩
noncomputable def tIf (t:TT) (ta tb:TE):TE:=λσ H Q=>t σ H λc H1=>if c=true then ta σ H1 Q else tb σ H1 Q
theorem mw {c:Expr} (hc:PT X c tA) (ha:PE X a ta) (hb:PE X b tb):PE X (.IfExp c a b pos) (tIf tA ta tb):=by
 intro pins s σ H Q I h
 refine wpAny_IfExp (cL (hc pins s σ H _ I h) λd s1 ⟨H1,I1,q1⟩=>?_)
 cases d with
 | true=>exact ha pins s1 σ H1 Q I1 q1
 | false=>exact hb pins s1 σ H1 Q I1 q1
end
end L2
namespace L2
open PySem PySem.Spec PyProof.Rows
noncomputable def bD (K:PySem.W.Frag) (H:Hp) (a:Addr) (xs:List V):Prop:=
 Rd H a (.lst xs)\/
  ∃(o:Obj) (bA:Array Value) (n:Nat),K.lookup a=some o/\o.cls=.type "list"/\o.dict=none/\o.data=.seq bA n/\bA.size<=sizeLine/\bC xs bA.toList
noncomputable def gh (K:PySem.W.Frag) (H:Hp) (a:Addr) (xs:List V):Prop:=
 Rd H a (.tup xs)\/
  ∃(o:Obj) (bA:Array Value) (n:Nat),K.lookup a=some o/\o.cls=.type "tuple"/\o.data=.seq bA n/\bA.size<=sizeLine/\bC xs bA.toList
noncomputable def N5:Value->Option V
 | .none=>some .dG
 | .bool b=>some (.bl b)
 | .int i _=>some (.int i)
 | .str x _=>some (.str x)
 | .bytes b _=>some (.BC b)
 | .float b _=>some (.Hf b)
 | .ref a=>some (.ref a)
 | .type n=>some (.ty n)
 | _=>none
theorem RelV.abs {x:V} {u:Value} (r:RelV x u):N5 u=some x:=by
 cases x with
 | dG=>cases r;rfl
 | bl _=>cases r;rfl
 | int _=>obtain⟨t,rfl⟩:=r;rfl
 | str _=>obtain⟨t,rfl⟩:=r;rfl
 | BC _=>obtain⟨t,rfl⟩:=r;rfl
 | Hf _=>obtain⟨t,rfl⟩:=r;rfl
 | ref _=>cases r;rfl
 | ty _=>cases r;rfl
theorem RelV.inj {x y:V} {u:Value} (r:RelV x u) (q:RelV y u):x=y:=aaF (r.abs.symm.trans q.abs)
theorem bC.inj:∀{xs ys:List V} {us:List Value},bC xs us->bC ys us->xs=ys
 | _,_,_,.nil,.nil=>rfl
 | _,_,_,.cons r t,.cons r' t'=>by rw[r.inj r',bC.inj t t']
section
variable {X : Cx} {pins : List (Addr × Obj)} {σ : St} {H : Hp} {s : Shared} {a : Addr} {xs ys : List V}
theorem bD.of {K:PySem.W.Frag} (h:H a=some (.lst xs)):bD K H a xs:=.inl (.inl h)
theorem gh.of {K:PySem.W.Frag} (h:H a=some (.tup xs)):gh K H a xs:=.inl (.inl h)
theorem Inv.list (I:Inv X pins σ H s) (h:bD X.K H a xs):∃bA:List Value,bC xs bA/\PlainL s.heap a bA.toArray/\xs.length<=sizeLine:=by
 rcases h with h | ⟨o,bA,n,hk,hc,hd,hs,hz,r⟩
 ·obtain⟨z,bA,n,r,e⟩:=h.ok I.bN
  exact⟨bA,r,⟨_,n,e,rfl,rfl,rfl⟩,z⟩
 ·refine⟨bA.toList,r,⟨o,n,I.lC a o hk,hc,hd,by simpa using hs⟩,?_⟩
  have e:=r.length
  simp only[Array.length_toList] at e
  omega
theorem Inv.tuple (I:Inv X pins σ H s) (h:gh X.K H a xs):∃bA:List Value,bC xs bA/\IsTup s.heap a bA.toArray/\xs.length<=sizeLine:=by
 rcases h with h | ⟨o,bA,n,hk,hc,hs,hz,r⟩
 ·obtain⟨z,bA,r,p⟩:=h.ok I.bN
  exact⟨bA,r,p,z⟩
 ·refine⟨bA.toList,r,⟨o,I.lC a o hk,hc,n,by simpa using hs⟩,?_⟩
  have e:=r.length
  simp only[Array.length_toList] at e
  omega
theorem Inv.vP (I:Inv X pins σ H s) (h:bD X.K H a xs) (h':bD X.K H a ys):xs=ys:=by
 obtain⟨bA,r,⟨o,n,e,_,_,d⟩,_⟩:=I.list h
 obtain⟨its',r',⟨o',n',e',_,_,d'⟩,_⟩:=I.list h'
 rw[e] at e';cases e'
 rw[d] at d'
 injection d' with d1 _
 have:bA=its':=by simpa using congrArg Array.toList d1
 subst this
 exact r.inj r'
end
abbrev Cx.jT (X:Cx) (E:Value->Shared->Prop):Cx:={X with xe:=E}
abbrev Cx.Ju (X:Cx):Cx:=X.jT λ_ _=>False
theorem Cx.Ok.jT {X:Cx} (ok:X.Ok) (E:Value->Shared->Prop):(X.jT E).Ok:=
 ⟨ok.mod,ok.kind,ok.glob,ok.blt,ok.above,ok.inj,ok.has,ok.Hj,ok.hd,ok.frames,ok.Jt,ok.MX,ok.bs,ok.BO,ok.xI,ok.AD,ok.mr,ok.Eo⟩
theorem Cx.Ok.fI {X:Cx} {E:Value->Shared->Prop} (ok:(X.jT E).Ok):X.Ok:=
 ⟨ok.mod,ok.kind,ok.glob,ok.blt,ok.above,ok.inj,ok.has,ok.Hj,ok.hd,ok.frames,ok.Jt,ok.MX,ok.bs,ok.BO,ok.xI,ok.AD,ok.mr,ok.Eo⟩
section
variable {X : Cx} {pins : List (Addr × Obj)} {σ : St} {H : Hp} {s : Shared} {E : Value -> Shared -> Prop}
theorem Inv.jT (I:Inv X pins σ H s) (E:Value->Shared->Prop):Inv (X.jT E) pins σ H s:=⟨I.ok.jT E,I.os,I.bare,I.base,I.loc,I.cell,I.free,I.gH,I.pin,I.bN,I.len⟩
theorem Inv.fI (I:Inv (X.jT E) pins σ H s):Inv X pins σ H s:=⟨I.ok.fI,I.os,I.bare,I.base,I.loc,I.cell,I.free,I.gH,I.pin,I.bN,I.len⟩
theorem SP.fI {D:Ends} {f:Flow} {s':Shared} (h:SP (X.jT E) pins D f s'):SP X pins D f s':=by
 cases f with
 | next=>obtain⟨σ',H',I,q⟩:=h;exact⟨σ',H',I.fI,q⟩
 | brk=>obtain⟨σ',H',I,q⟩:=h;exact⟨σ',H',I.fI,q⟩
 | cont=>obtain⟨σ',H',I,q⟩:=h;exact⟨σ',H',I.fI,q⟩
 | ret u=>obtain⟨v,σ',H',I,r,q⟩:=h;exact⟨v,σ',H',I.fI,r,q⟩
theorem tG.Ju {st:List Stmt} {t:TS} (h:tG X.Ju st t):tG X st t:=λpins s σ H D I hw=>
 wpAny_mono (h pins s σ H D (I.jT _) hw) (λ_ _ q=>q.fI) λ_ _ z=>False.elim z
end
section
variable {X : Cx} {st : Stmt} {rest : List Stmt} {t u : TS} {e : Expr} {te : TE} {pos : Pos}
noncomputable def tNext:TS:=λD σ H=>D.nx σ H
noncomputable def tSeq (t u:TS):TS:=λD σ H=>t {D with nx:=u D} σ H
theorem bj:tG X [] tNext:=λ_ _ σ H _ I h=>wpAny_execs_nil ⟨σ,H,I,h⟩
theorem ao (h1:PS X st t) (h2:tG X rest u):tG X (st::rest) (tSeq t u):=by
 intro pins s σ H D I h
 refine wpAny_execs_cons (cL (h1 pins s σ H {D with nx:=u D} I h) λf s1 q=>?_)
 cases f with
 | next=>
  obtain⟨σ',H',I',q⟩:=q
  exact h2 pins s1 σ' H' D I' q
 | ret v=>exact q
 | brk=>exact q
 | cont=>exact q
theorem ar (h1:PS X st t):tG X [st] t:=by
 intro pins s σ H D I h
 refine wpAny_execs_cons (cL (h1 pins s σ H D I h) λf s1 q=>?_)
 cases f with
 | next=>exact wpAny_execs_nil q
 | ret v=>exact q
 | brk=>exact q
 | cont=>exact q
noncomputable def Hq:TS:=λD σ H=>D.bk σ H
theorem BQ:PS X (.Break pos) Hq:=λ_ _ σ H _ I h=>wpAny_Break ⟨σ,H,I,h⟩
theorem Inv.quiet {pins:List (Addr×Obj)} {σ:St} {H:Hp} {s:Shared} (I:Inv X pins σ H s):interactive X.env=false:=by simp [interactive,I.ok.kind]
noncomputable def tDrop (te:TE):TS:=λD σ H=>te σ H λ_ H1=>D.nx σ H1
theorem bR (he:PE X e te) (hs:swapsWith e none pos.line X.env=pure false:=by rfl):PS X (.Expr e pos) (tDrop te):=by
 intro pins s σ H D I h
 exact wpAny_Expr_any (cL (he pins s σ H _ I h) λv s1 ⟨x,H1,I1,r1,q1⟩=>⟨σ,H1,I1,q1⟩) I.quiet hs
noncomputable def tRet (te:TE):TS:=λD σ H=>te σ H D.rt
theorem aT (he:PE X e te):PS X (.Return (some e) pos) (tRet te):=by
 intro pins s σ H D I h
 exact wpAny_Return_some (cL (he pins s σ H _ I h) λv s1 ⟨x,H1,I1,r1,q1⟩=>⟨x,σ,H1,I1,r1,q1⟩)
noncomputable def tRetN:TS:=λD _ H=>D.rt .dG H
noncomputable def tIfS (c:TT) (t u:TS):TS:=λD σ H=>c σ H λb H1=>if b=true then t D σ H1 else u D σ H1
theorem bK {c:Expr} {a b:List Stmt} {tc:TT} (hc:PT X c tc) (ha:tG X a t) (hb:tG X b u):PS X (.If c a b pos) (tIfS tc t u):=by
 intro pins s σ H D I h
 refine wpAny_If (cL (hc pins s σ H _ I h) λd s1 ⟨H1,I1,q1⟩=>?_)
 cases d with
 | true=>exact ha pins s1 σ H1 D I1 q1
 | false=>exact hb pins s1 σ H1 D I1 q1
end
abbrev TG:=V->St->Hp->(St->Hp->Prop)->Prop
abbrev Gq:=List V->St->Hp->(St->Hp->Prop)->Prop
noncomputable def PG (X:Cx) (target:Expr) (t:TG):Prop:=
 ∀(pins:List (Addr×Obj)) (s:Shared) (σ:St) (H:Hp) (v:V) (u:Value) (Q:St->Hp->Prop),Inv X pins σ H s->RelV v u->t v σ H Q->
  wpAny (model X.prog X.w) X.A (assign target X.env u) (λ_ s'=>∃σ' H',Inv X pins σ' H' s'/\Q σ' H') X.xe s
noncomputable def Jv (X:Cx) (ts:List Expr) (t:Gq):Prop:=
 ∀(pins:List (Addr×Obj)) (s:Shared) (σ:St) (H:Hp) (vs:List V) (us:List Value) (Q:St->Hp->Prop),Inv X pins σ H s->bC vs us->t vs σ H Q->
  wpAny (model X.prog X.w) X.A (assignInOrder ((assignEach ts X.env).map (·.2)) us) (λ_ s'=>∃σ' H',Inv X pins σ' H' s'/\Q σ' H') X.xe s
abbrev Hr:=V->V->V->Hp->(Hp->Prop)->Prop
noncomputable def J4 (X:Cx) (t:Hr):Prop:=
 ∀(pins:List (Addr×Obj)) (s:Shared) (σ:St) (H:Hp) (o i v:V) (ov iv u:Value) (Q:Hp->Prop),Inv X pins σ H s->RelV o ov->RelV i iv->RelV v u->t o i v H Q->
  wpAny (model X.prog X.w) X.A (setItem ov iv u) (λ_ s'=>∃H',Inv X pins σ H' s'/\Q H') X.xe s
abbrev TIp:=V->V->Hp->VK->Prop
section
variable {X : Cx} {pos : Pos}
noncomputable def gName (i:Nat):TG:=λv σ H Q=>Q (σ.set i (some v)) H
theorem aP {i:Nat} {x:Str} (hN:X.N.Nodup) (hi:X.N[i]?=some x) (hx:Loc X.env.scope x) (hf:X.fn x=true\/X.env.scope.names.lookup x=some .local:=by first | exact .inl rfl | exact .inr rfl | assumption):PG X (.Name x pos) (gName i):=by
 intro pins s σ H v u Q I r h
 exact wpAny_assign_Name (vO I hN hi hx r (λs' I'=>⟨_,H,I',h⟩) hf)
noncomputable def gNil:Gq:=λvs σ H Q=>vs=[]/\Q σ H
noncomputable def gCons (t:TG) (u:Gq):Gq:=λvs σ H Q=>∃v r,vs=v::r/\t v σ H λσ' H'=>u r σ' H' Q
theorem c8:Jv X [] gNil:=by
 intro pins s σ H vs us Q I r h
 obtain⟨e,h⟩:=h
 subst e
 cases r
 exact assignInOrder_nil ⟨σ,H,I,h⟩
theorem bf {e:Expr} {es:List Expr} {t:TG} {u:Gq} (h1:PG X e t) (h2:Jv X es u)
  (hs:(assignEach (e::es) X.env).map (·.2)=assign e X.env::(assignEach es X.env).map (·.2):=by rfl):Jv X (e::es) (gCons t u):=by
 intro pins s σ H vs us Q I r h
 obtain⟨v,vr,e1,h⟩:=h
 subst e1
 cases r with
 | cons r rr=>
  rw[hs]
  refine assignInOrder_cons (cL (h1 pins s σ H _ _ _ I r h) λ_ s1 ⟨σ1,H1,I1,q1⟩=>?_)
  exact h2 pins s1 σ1 H1 _ _ Q I1 rr q1
noncomputable def Es (K:PySem.W.Frag) (n:Nat) (t:Gq):TG:=λv σ H Q=>∃a xs,v=.ref a/\gh K H a xs/\xs.length=n/\t xs σ H Q
theorem Hs {es:List Expr} {k:Nat} {t:Gq} {n:Nat} (hc:X.calm=true) (h:Jv X es t)
  (hn:(assignEach es X.env).length=n:=by rfl) (hst:(assignEach es X.env).findIdx? (·.1)=none:=by rfl):PG X (.Tuple es k pos) (Es X.K n t):=by
 intro pins s σ H v u Q I r hw
 obtain⟨a,xs,e1,hq,hl,hw⟩:=hw
 subst e1
 cases r
 obtain⟨bA,rv,ht,hz⟩:=I.tuple hq
 refine assign_Tuple_tuple (I.ok.hd hc) ht (by simp [hn,<-hl,rv.length]) hst λh' hx=>?_
 have I1:Inv X pins σ H {s with heap:=h'}:=I.kept (t':=s.toks) λb o e=>hx b o (aam (Heap.lt_size e)) e
 exact h pins _ σ H xs _ Q I1 (by simpa using rv) hw
noncomputable def gSub (to ti:TE) (t:Hr):TG:=λv σ H Q=>to σ H λo H1=>ti σ H1 λi H2=>t o i v H2 λH3=>Q σ H3
theorem BR {o i:Expr} {to ti:TE} {t:Hr} (ho:PE X o to) (hi:PE X i ti) (hs:J4 X t)
  (ha:∀v,assign (.Subscript o i pos) X.env v=(do
   let ov <-holding [v] (eval o X.env)
   let iv <-holding [v,ov] (eval i X.env)
   standAt pos
   holding [v,ov,iv] (setItem ov iv v)
   release [v,ov,iv] []):=by intro _;rfl):PG X (.Subscript o i pos) (gSub to ti t):=by
 intro pins s σ H v u Q I r h
 rw[ha]
 refine wpAny_bind (wpAny_holding (cL (ho pins s σ H _ I h) λov s1 dH=>?_))
 obtain⟨x,H1,I1,r1,q1⟩:=dH
 refine wpAny_bind (wpAny_holding (cL (hi pins s1 σ H1 _ I1 q1) λiv s2 dH=>?_))
 obtain⟨y,H2,I2,r2,q2⟩:=dH
 refine wpAny_bind (wpAny_standAt (wpAny_bind (wpAny_holding (cL (hs pins s2 σ H2 x y v ov iv u _ I2 r1 r2 r q2) λ_ s3 ⟨H3,I3,q3⟩=>?_))))
 exact wpAny_release ⟨σ,H3,I3,q3⟩
noncomputable def tAsg (te:TE) (g:TG):TS:=λD σ H=>te σ H λx H1=>g x σ H1 D.nx
theorem xM {tg e:Expr} {te:TE} {g:TG} (he:PE X e te) (hg:PG X tg g) (hs:swapsWithSole [tg] e pos.line X.env=pure false:=by rfl) (hw:swappedStores [tg] e X.env=pure none:=by rfl)
  (h1:(assignEach [tg] X.env).map (·.2)=[assign tg X.env]:=by rfl):PS X (.Assign [tg] e pos) (tAsg te g):=by
 intro pins s σ H D I h
 refine wpAny_Assign_stores (cL (he pins s σ H _ I h) λv s1 dH=>?_) hs hw
 obtain⟨x,H1,I1,r1,q1⟩:=dH
 rw[h1]
 exact cL (hg pins s1 σ H1 x v _ I1 r1 q1) λ_ s2 q=>q
theorem aR {i:Nat} {x:Str} {e:Expr} {te:TE} {pos':Pos} (hN:X.N.Nodup) (hi:X.N[i]?=some x) (hx:Loc X.env.scope x) (he:PE X e te) (hs:swapsWith e (some (.Name x pos')) pos.line X.env=pure false:=by rfl) (hf:X.fn x=true\/X.env.scope.names.lookup x=some .local:=by first | exact .inl rfl | exact .inr rfl | assumption):
  PS X (.Assign [.Name x pos'] e pos) (tAsg te (gName i)):=by
 intro pins s σ H D I h
 refine wpAny_Assign_Name (cL (he pins s σ H _ I h) λv s1 dH=>?_) hs
 obtain⟨y,H1,I1,r1,q1⟩:=dH
 exact vO I1 hN hi hx r1 (λs2 I2=>⟨_,H1,I2,q1⟩) hf
noncomputable def tPar (i j:Nat) (ta:TA):TS:=λD σ H=>ta σ H λvs H1=>∃v w,vs=[v,w]/\D.nx ((σ.set i (some v)).set j (some w)) H1
end
section
variable {X : Cx} {pos : Pos}
noncomputable def xN (c:TT) (tb:TS):TS:=λD σ H=>∃W:Nat->St->Hp->Prop,(∃m,W m σ H)/\∀m σ H,W m σ H->
 c σ H λb H1=>if b=true then ∃N:St->Hp->Prop,(∀σ' H',N σ' H'->∃m',m'<m/\W m' σ' H')/\tb {D with nx:=N,ct:=N,bk:=D.nx} σ H1 else D.nx σ H1
theorem ql {c:Expr} {body:List Stmt} {tc:TT} {tb:TS} (hp:PassesOwn (model X.prog X.w) X.A X.env X.xe) (hc:PT X c tc) (hb:tG X body tb):PS X (.While c body [] pos) (xN tc tb):=by
 intro pins s σ H D I h
 obtain⟨W,⟨m0,w0⟩,turn⟩:=h
 refine wpAny_While (codeAny_whileLoop (λn s'=>∃σ' H',Inv X pins σ' H' s'/\W n σ' H') ?_ m0 ⟨σ,H,I,w0⟩)
 rintro n s1 ⟨σ1,H1,I1,w1⟩
 refine wpAny_passesOwn hp (cL (hc pins s1 σ1 H1 _ I1 (turn n σ1 H1 w1)) λb s2 ⟨H2,I2,q2⟩=>?_)
 cases b with
 | true=>
  obtain⟨N,hN,q2⟩:=q2
  rw[if_pos rfl]
  refine wpAny_passesOwn hp (cL (hb pins s2 σ1 H2 _ I2 q2) λf s3 q3=>?_)
  cases f with
  | next=>
   obtain⟨σ3,H3,I3,n3⟩:=q3
   obtain⟨m',hm,w3⟩:=hN σ3 H3 n3
   exact⟨m',hm,σ3,H3,I3,w3⟩
  | cont=>
   obtain⟨σ3,H3,I3,n3⟩:=q3
   obtain⟨m',hm,w3⟩:=hN σ3 H3 n3
   exact⟨m',hm,σ3,H3,I3,w3⟩
  | brk=>exact q3
  | ret v=>exact q3
 | false=>
  rw[if_neg aaw]
  exact wpAny_execs_nil ⟨σ1,H2,I2,q2⟩
end
structure It where
 go:Nat->Hp->Prop
 xO:Nat->Hp->V->Hp->Prop
 stop:Nat->Hp->Prop
noncomputable def jU (X:Cx) (pins:List (Addr×Obj)) (H:Hp) (b:Addr):Prop:=
 H b=none/\b≠X.env.locals/\b∉X.fs/\(b∈X.ex\/X.s₀.heap.objs.size<=b)/\(∀x c,X.env.cells.lookup x=some c->c≠b)/\∀p∈X.pn++pins,p.1≠b
theorem Inv.Et {X:Cx} {pins:List (Addr×Obj)} {σ:St} {H H':Hp} {s:Shared} {b:Addr} (I:Inv X pins σ H s) (hb:s.heap.objs.size<=b) (hn:H' b=none):jU X pins H' b:=by
 refine⟨hn,aaK (aat I.lt hb),I.NY hb,.inr (aar I.sz hb),λx c e z=>?_,λp hp z=>?_⟩
 ·obtain⟨v,q⟩:=I.cell x c e
  exact absurd (aat q.lt (by rw[z];exact hb)) (aaA _)
 ·exact absurd (aat (Heap.lt_size (I.pin p hp).1) (by rw[z];exact hb)) (aaA _)
structure Turn (P:Program) (w:World) (K:PySem.W.Frag) (tg:Expr) (J:It) (fp:List Addr) (it:Addr) (tn:Nat->Heap->Prop):Prop where
 mem:it∈fp
 obj:∀i h,tn i h->∀b∈fp,∃o,h.get? b=some o/\∀v,o.data≠.cell v
 keep:∀i h h',tn i h->(∀b∈fp,∀o,h.get? b=some o->h'.get? b=some o)->tn i h'
 item:∀(X:Cx),X.prog=P->X.w=w->X.K=K->X.calm=true->∀(i:Nat) (pins:List (Addr×Obj)) (s:Shared) (σ:St) (H:Hp) (E:Value->Shared->Prop),Inv X pins σ H s->(∀b∈fp,jU X pins H b)->tn i s.heap->J.go i H->
  wpAny (model P w) X.A (pyNext (.ref it)) (λr s1=>∃u,r=some u/\
   wpAny (model P w) X.A (letOwnedTupleGo tg (.ref it) u) (λ_ s2=>∃x H',Inv X pins σ H' s2/\RelV x u/\J.xO i H x H'/\tn (i+1) s2.heap/\∀b∈fp,H' b=none) E s1) E s
 done:∀(X:Cx),X.prog=P->X.w=w->X.K=K->X.calm=true->∀(i:Nat) (pins:List (Addr×Obj)) (s:Shared) (σ:St) (H:Hp) (E:Value->Shared->Prop),Inv X pins σ H s->(∀b∈fp,jU X pins H b)->tn i s.heap->J.stop i H->
  wpAny (model P w) X.A (pyNext (.ref it)) (λr s1=>r=none/\Inv X pins σ H s1) E s
 self:∀(A:Around) (i:Nat) (s:Shared) (Q:Value->Shared->Prop) (E:Value->Shared->Prop),tn i s.heap->Q (.ref it) s->wpAny (model P w) A (pyIter (.ref it)) Q E s
abbrev TI:=St->Hp->(It->Hp->Prop)->Prop
noncomputable def Vc (X:Cx) (pins:List (Addr×Obj)) (σ:St) (tg:Expr) (R:It->Hp->Prop) (Eu:Value) (s2:Shared):Prop:=
 ∃(it:Addr) (fp:List Addr) (tn:Nat->Heap->Prop) (J:It) (H':Hp),Eu=.ref it/\Inv X pins σ H' s2/\Turn X.prog X.w X.K tg J fp it tn/\tn 0 s2.heap/\(∀b∈fp,jU X pins H' b)/\R J H'
noncomputable def PI (X:Cx) (tg iter:Expr) (wi:TI):Prop:=
 ∀(pins:List (Addr×Obj)) (s:Shared) (σ:St) (H:Hp) (R:It->Hp->Prop),Inv X pins σ H s->wi σ H R->
  wpAny (model X.prog X.w) X.A (eval iter X.env) (λv s1=>wpAny (model X.prog X.w) X.A (pyIter v) (Vc X pins σ tg R) X.xe s1) X.xe s
theorem Gr {M:Model} {A:Around} {E:Value->Shared->Prop} {s:Shared} {tg:Expr} {it:Addr} {u:Value} {o:Obj} {n:String} {vs:Array Value} {Q:Unit->Shared->Prop} (ho:s.heap.get? it=some o) (hc:o.cls=.type n) (hd:o.data=.fields vs)
  (hn:["enumerate","zip","dict_itemiterator","dict_reverseitemiterator","odict_iterator","itertools.zip_longest","itertools.pairwise"].contains n=false) (hQ:Q () s):wpAny M A (letOwnedTupleGo tg (.ref it) u) Q E s:=by
 unfold letOwnedTupleGo
 cases tg <;>first
  | exact wpAny_pure hQ
  | (cases u <;>first
    | exact wpAny_pure hQ
    | (refine wpAny_bind (wpAny_load ho ?_)
       rw[hc,hd]
       show wpAny M A (if (["enumerate","zip","dict_itemiterator","dict_reverseitemiterator","odict_iterator","itertools.zip_longest","itertools.pairwise"].contains n && vs[0]?==some (rawInt _))=true then _ else _) Q E s
       rw[if_neg (by intro h;rw[hn,Bool.false_and] at h;cases h)]
       exact wpAny_pure hQ))
noncomputable def Jw (K:PySem.W.Frag) (a:Addr):It:=
 ⟨λi H=>∃xs x,bD K H a xs/\xs[i]?=some x,λi H x H'=>H'=H/\∀xs,bD K H a xs->xs[i]?=some x,λi H=>∃xs,bD K H a xs/\xs.length<=i⟩
noncomputable def Xq (K:PySem.W.Frag) (a:Addr):It:=
 ⟨λi H=>∃xs x,gh K H a xs/\xs[i]?=some x,λi H x H'=>H'=H/\∀xs,gh K H a xs->xs[i]?=some x,λi H=>∃xs,gh K H a xs/\xs.length<=i⟩
noncomputable def J5 (lo:Int) (n:Nat):It:=⟨λi _=>i<n,λi H x H'=>H'=H/\x=.int (lo+i),λi _=>n<=i⟩
theorem AH {P:Program} {w:World} {K:PySem.W.Frag} {tg:Expr} (a it:Addr):Turn P w K tg (Jw K a) [it] it (λi h=>h.IsListIter it a i) where
 mem:=by simp
 obj:=λi h st b hb=>by
  have e:b=it:=by simpa using hb
  subst e
  obtain⟨o,e,c,d⟩:=st
  exact⟨o,e,λv z=>by rw[d] at z;cases z⟩
 keep:=λi h h' st k=>st.at λo e=>k it (by simp) o e
 item:=by
  intro X hP hw hK hc i pins s σ H E I hf st hg
  subst hP hw hK
  obtain⟨xs,x,hq,hx⟩:=hg
  obtain⟨bA,rv,p,hz⟩:=I.list hq
  obtain⟨u,hu,ru⟩:=rv.get hx
  obtain⟨f0,f1,f2,f3,f4,f5⟩:=hf it (by simp)
  refine wpAny_pyNext_list_item st p.isList (x:=u) (by simpa using hu) λh' xP sb=>?_
  have I1:Inv X pins σ H {s with heap:=h'}:=I.turned (t':=s.toks) (λb o hb e=>(sb.2 b hb).trans e) f0 f1 f3 f4 f5
  obtain⟨o,e,c,d⟩:=id xP
  exact⟨u,rfl,Gr (s:={s with heap:=h'}) e c d (by decide) ⟨x,H,I1,ru,⟨rfl,λys hy=>by rw[I.vP hy hq];exact hx⟩,xP,λb hb=>(hf b hb).1⟩⟩
 done:=by
  intro X hP hw hK hc i pins s σ H E I hf st hg
  subst hP hw hK
  obtain⟨xs,hq,hx⟩:=hg
  obtain⟨bA,rv,p,hz⟩:=I.list hq
  obtain⟨f0,f1,f2,f3,f4,f5⟩:=hf it (by simp)
  have hl:=rv.length
  exact wpAny_pyNext_list_end (I.ok.hd hc) st p.isList (by simp;omega) λh' eb=>⟨rfl,I.turned (t':=s.toks) (λb o hb e=>eb b o hb e) f0 f1 f3 f4 f5⟩
 self:=λ_ _ _ _ _ st h=>wpAny_pyIter_listiter st h
theorem xQ {P:Program} {w:World} {K:PySem.W.Frag} {tg:Expr} (it:Addr) (lo:Int) (n:Nat):Turn P w K tg (J5 lo n) [it] it (λi h=>IsRangeIter h it (lo+ (i:Nat)*1) ((n:Int) - (i:Nat)) 1) where
 mem:=by simp
 obj:=λi h st b hb=>by
  have e:b=it:=by simpa using hb
  subst e
  exact⟨_,st,λv z=>by
   have z':Data.fields _=Data.cell v:=z
   cases z'⟩
 keep:=λi h h' st k=>k it (by simp) _ st
 item:=by
  intro X hP hw hK hc i pins s σ H E I hf st hg
  subst hP hw hK
  obtain⟨f0,f1,f2,f3,f4,f5⟩:=hf it (by simp)
  have W:=Walks.range (prog:=X.prog) (w:=X.w) (I.ok.hd hc) it lo 1 n
  refine W.item i s _ _ hg st λv h' tk hv xP kk=>?_
  obtain⟨t,rfl⟩:=hv
  have I1:Inv X pins σ H {s with heap:=h',toks:=tk}:=I.turned (λb o hb e=>kk b o (by simpa using hb) e) f0 f1 f3 f4 f5
  refine⟨_,rfl,Gr (s:={s with heap:=h',toks:=tk}) (n:="range_iterator") xP rfl rfl (by decide) ⟨.int (lo+i),H,I1,⟨t,?_⟩,⟨rfl,rfl⟩,xP,λb hb=>(hf b hb).1⟩⟩
  rw[Int.mul_one]
 done:=by
  intro X hP hw hK hc i pins s σ H E I hf st hg
  subst hP hw hK
  obtain⟨f0,f1,f2,f3,f4,f5⟩:=hf it (by simp)
  exact wpAny_pyNext_range_end (I.ok.hd hc) st (by have:n<=i:=hg;omega) λh' eb=>⟨rfl,I.turned (t':=s.toks) (λb o hb e=>eb b o hb e) f0 f1 f3 f4 f5⟩
 self:=λ_ _ _ _ _ st h=>wpAny_pyIter_rangeiter st h
end L2
namespace L2
open PySem PySem.Spec PyProof.Rows
section
variable {X : Cx} {tg : Expr}
noncomputable def iList (K:PySem.W.Frag) (tl:TE):TI:=λσ H R=>tl σ H λx H1=>∃a,x=.ref a/\(∃xs,bD K H1 a xs)/\R (Jw K a) H1
noncomputable def iTup (K:PySem.W.Frag) (tl:TE):TI:=λσ H R=>tl σ H λx H1=>∃a,x=.ref a/\(∃xs,gh K H1 a xs)/\R (Xq K a) H1
theorem Ew {l:Expr} {tl:TE} (hl:PE X l tl):PI X tg l (iList X.K tl):=by
 intro pins s σ H R I h
 refine cL (hl pins s σ H _ I h) λv s1 dH=>?_
 obtain⟨x,H1,I1,r1,q1⟩:=dH
 obtain⟨a,e,⟨xs,hq⟩,q⟩:=q1
 subst e
 cases r1
 obtain⟨bA,rv,p,hz⟩:=I1.list hq
 refine wpAny_pyIter_list p.isList ?_
 refine⟨s1.heap.objs.size,[s1.heap.objs.size],_,_,H1,rfl,I1.kept (t':=s1.toks) λb o e=>Heap.get?_push_of_some _ e,AH a _,⟨_,Heap.get?_push_size _ rfl,rfl,rfl⟩,λb hb=>?_,q⟩
 have e:b=s1.heap.objs.size:=by simpa using hb
 subst e
 exact I1.Et (aaf _) (I1.bN.fresh (aaf _))
theorem vQ {pins:List (Addr×Obj)} {σ:St} {H:Hp} {s:Shared} {R:It->Hp->Prop} {E:Value->Shared->Prop} {lo hi:Int} {t u v:Tok} {tk:Nat} (I:Inv X pins σ H s) (h1:-(2^62)<=lo) (h2:lo<2^62) (h3:-(2^62)<=hi) (h4:hi<2^62)
  (q:R (J5 lo (hi - lo).toNat) H):wpAny (model X.prog X.w) X.A (pyIter (.ref s.heap.objs.size)) (Vc X pins σ tg R) E {s with heap:=s.heap.push {cls:=.type "range",data:=.fields #[.int lo t,.int hi u,.int 1 v]},toks:=tk}:=by
 refine wpAny_pyIter_range (IsRange.new ..) (small_one h1 h2 h3 h4) ?_
 have I1:Inv X pins σ H {s with heap:=s.heap.push {cls:=.type "range",data:=.fields #[.int lo t,.int hi u,.int 1 v]},toks:=tk}:=I.kept λb o e=>Heap.get?_push_of_some _ e
 refine⟨(s.heap.push {cls:=.type "range",data:=.fields #[.int lo t,.int hi u,.int 1 v]}).objs.size,[(s.heap.push {cls:=.type "range",data:=.fields #[.int lo t,.int hi u,.int 1 v]}).objs.size],_,_,H,rfl,
  I1.kept (t':=tk) λb o e=>Heap.get?_push_of_some _ e,xQ _ lo (hi - lo).toNat,?_,λb hb=>?_,q⟩
 ·have e1:lo+ ((0:Nat):Int)*1=lo:=by simp
  have e2:(((hi - lo).toNat:Nat):Int) - ((0:Nat):Int)=Builtin.Range.rangeSize lo hi 1:=by rw[rangeSize_one];split <;>omega
  show IsRangeIter _ _ (lo+ ((0:Nat):Int)*1) ((((hi - lo).toNat:Nat):Int) - ((0:Nat):Int)) 1
  rw[e1,e2]
  exact Heap.get?_push_size _ rfl
 ·have e:b=(s.heap.push {cls:=.type "range",data:=.fields #[.int lo t,.int hi u,.int 1 v]}).objs.size:=by simpa using hb
  subst e
  exact I1.Et (aaf _) (I1.bN.fresh (aaf _))
noncomputable def iRng1 (ta:TA):TI:=λσ H R=>ta σ H λvs H1=>∃j:Int,vs=[.int j]/\-(2^62)<=j/\j<2^62/\R (J5 0 j.toNat) H1
noncomputable def iRng2 (ta:TA):TI:=λσ H R=>ta σ H λvs H1=>∃i j:Int,vs=[.int i,.int j]/\(-(2^62)<=i/\i<2^62/\-(2^62)<=j/\j<2^62)/\R (J5 i (j - i).toNat) H1
theorem eR {a:Expr} {ta:TA} {p pos:Pos} (hg:Gl X "range") (hm:X.mg "range"=none) (ha:PA X [a] ta) (hs:starEach [a] X.env=[(false,eval a X.env)]:=by rfl):PI X tg (.Call (.Name "range" p) [a] [] pos) (iRng1 ta):=by
 intro pins s σ H R I h
 refine Call_ (gS I hg hm boot_range (abe (cL (ha pos pins s σ H _ I h) λus s1 dH=>?_) hs rfl))
 obtain⟨vs,H1,I1,r1,q1⟩:=dH
 obtain⟨j,e,q1,q2,q⟩:=q1
 subst e
 cases r1 with
 | cons r rr=>
  cases rr
  obtain⟨t,rfl⟩:=r
  exact call_range_1 (vQ I1 (by omega) (by omega) q1 q2 (by simpa using q))
theorem tI {a b:Expr} {ta:TA} {p pos:Pos} (hg:Gl X "range") (hm:X.mg "range"=none) (ha:PA X [a,b] ta) (hs:starEach [a,b] X.env=[(false,eval a X.env),(false,eval b X.env)]:=by rfl) (BD:starEach [b] X.env=[(false,eval b X.env)]:=by rfl):
  PI X tg (.Call (.Name "range" p) [a,b] [] pos) (iRng2 ta):=by
 intro pins s σ H R I h
 refine Call_ (gS I hg hm boot_range (abe (cL (ha pos pins s σ H _ I h) λus s1 dH=>?_) (by rw[hs,BD]) (by rw[BD];rfl)))
 obtain⟨vs,H1,I1,r1,q1⟩:=dH
 obtain⟨i,j,e,⟨q1,q2,q3,q4⟩,q⟩:=q1
 subst e
 cases r1 with
 | cons r rr=>
  cases rr with
  | cons r' rr=>
   cases rr
   obtain⟨t,rfl⟩:=r
   obtain⟨t',rfl⟩:=r'
   exact call_range_2 (vQ I1 q1 q2 q3 q4 q)
noncomputable def J6 (wi:TI) (g:TG) (tb:TS):TS:=λD σ H=>wi σ H λJ H1=>∃W:Nat->Nat->St->Hp->Prop,(∃m,W 0 m σ H1)/\∀i m σ H,W i m σ H->
 (J.stop i H/\D.nx σ H)\/(J.go i H/\∃N:St->Hp->Prop,(∀σ' H',N σ' H'->∃m',m'<m/\W (i+1) m' σ' H')/\∀x H',J.xO i H x H'->g x σ H' λσ2 H2=>tb {D with nx:=N,ct:=N,bk:=D.nx} σ2 H2)
noncomputable def qo (fp:List Addr) (h:Heap):List (Addr×Obj):=fp.filterMap λb=>(h.get? b).map λo=>(b,o)
theorem iG {fp:List Addr} {h:Heap} {b:Addr} {o:Obj} (hb:b∈fp) (e:h.get? b=some o):(b,o)∈qo fp h:=List.mem_filterMap.mpr ⟨b,hb,by rw[e];rfl⟩
theorem AI {fp:List Addr} {h:Heap} {p:Addr×Obj} (hp:p∈qo fp h):p.1∈fp/\h.get? p.1=some p.2:=by
 obtain⟨b,hb,e⟩:=List.mem_filterMap.mp hp
 cases q:h.get? b with
 | none=>rw[q] at e;cases e
 | some o=>
  rw[q] at e
  have e':(b,o)=p:=aaF e
  subst e'
  exact⟨hb,q⟩
theorem Inv.pinned {pins:List (Addr×Obj)} {σ:St} {H:Hp} {s:Shared} {fp:List Addr} (I:Inv X pins σ H s) (hf:∀b∈fp,jU X pins H b) (ho:∀b∈fp,∃o,s.heap.get? b=some o/\∀v,o.data≠.cell v):Inv X (pins++qo fp s.heap) σ H s:=
 I.mv λp hp=>(List.mem_append.mp hp).elim (λz=>I.pin p (aaP _ z)) λz=>by
  obtain⟨hb,e⟩:=AI z
  obtain⟨f0,f1,f2,_⟩:=hf p.1 hb
  obtain⟨o,e',d⟩:=ho p.1 hb
  rw[e] at e';cases e'
  exact⟨e,f0,f1,f2,d⟩
theorem Inv.qp {pins pl:List (Addr×Obj)} {σ:St} {H:Hp} {s:Shared} (I:Inv X (pins++pl) σ H s):Inv X pins σ H s:=I.mv λp hp=>I.pin p (aaP _ (List.mem_append_left _ hp))
theorem cY {iter:Expr} {body:List Stmt} {wi:TI} {g:TG} {tb:TS} {pos:Pos} (hp:PassesOwn (model X.prog X.w) X.A X.env X.xe) (hc:X.calm=true) (hi:PI X tg iter wi) (hg:PG X tg g) (hb:tG X body tb)
  (hs:∀x,foldedSetIterable iter X.env x=pure x:=by intro _;rfl):PS X (.For tg iter body [] pos) (J6 wi g tb):=by
 intro pins s σ H D I h
 refine wpAny_For (cL (hi pins s σ H _ I h) λv s1 h1=>cL h1 λEu s2 h2=>?_) hs
 obtain⟨it,fp,tn,J,H2,e,I2,T,xR,f2,W,⟨m0,w0⟩,turn⟩:=h2
 subst e
 have xS:∀{H':Hp},(∀b∈fp,H' b=none)->∀b∈fp,jU X pins H' b:=λhn b hb=>⟨hn b hb,(f2 b hb).2⟩
 refine codeAny_forLoop_any (λn s'=>∃i σ' H',Inv X pins σ' H' s'/\tn i s'.heap/\(∀b∈fp,H' b=none)/\W i n σ' H') ?_ m0 ⟨0,σ,H2,I2,xR,λb hb=>(f2 b hb).1,w0⟩
 rintro n s3 ⟨i,σ3,H3,I3,Vd,Ve,w3⟩
 rcases turn i n σ3 H3 w3 with ⟨stop,qn⟩ | ⟨go,N,hN,step⟩
 ·refine wpAny_passesOwn hp (cL (T.done X rfl rfl rfl hc i pins s3 σ3 H3 X.xe I3 (xS Ve) Vd stop) λr s4 ⟨hr,I4⟩=>?_)
  subst hr
  exact wpAny_execs_nil ⟨σ3,H3,I4,qn⟩
 ·refine wpAny_passesOwn hp (cL (T.item X rfl rfl rfl hc i pins s3 σ3 H3 X.xe I3 (xS Ve) Vd go) λr s4 ⟨u,hr,h4⟩=>?_)
  subst hr
  refine wpAny_passesOwn hp (cL h4 λ_ s5 dH=>?_)
  obtain⟨x,H5,I5,r5,y5,N6,Xr⟩:=dH
  have Xs:=I5.pinned (xS Xr) (T.obj _ _ N6)
  refine wpAny_passesOwn hp (cL (hg _ s5 σ3 H5 x u _ Xs r5 (step x H5 y5)) λ_ s6 ⟨σ6,H6,I6,q6⟩=>?_)
  refine wpAny_passesOwn hp (cL (hb _ s6 σ6 H6 _ I6 q6) λf s7 q7=>?_)
  have again:∀{σ7:St} {H7:Hp},Inv X (pins++qo fp s5.heap) σ7 H7 s7->N σ7 H7->∃m,m<n/\∃i σ' H',Inv X pins σ' H' s7/\tn i s7.heap/\(∀b∈fp,H' b=none)/\W i m σ' H':=λ{σ7 H7} I7 n7=>by
   obtain⟨m',hm,w7⟩:=hN σ7 H7 n7
   refine⟨m',hm,i+1,σ7,H7,I7.qp,T.keep _ _ _ N6 λb hb o e=>(I7.pin (b,o) (aaP _ (aaP _ (iG hb e)))).1,λb hb=>?_,w7⟩
   obtain⟨o,e,d⟩:=T.obj _ _ N6 b hb
   exact(I7.pin (b,o) (aaP _ (aaP _ (iG hb e)))).2.1
  cases f with
  | next=>obtain⟨σ7,H7,I7,n7⟩:=q7;exact again I7 n7
  | cont=>obtain⟨σ7,H7,I7,n7⟩:=q7;exact again I7 n7
  | brk=>obtain⟨σ7,H7,I7,q7⟩:=q7;exact⟨σ7,H7,I7.qp,q7⟩
  | ret v=>obtain⟨x7,σ7,H7,I7,r7,q7⟩:=q7;exact⟨x7,σ7,H7,I7.qp,r7,q7⟩
end
theorem BU {c:TT} {tb:TS} {D:Ends} {σ:St} {H:Hp} (Pv:St->Hp->Prop) (μ:St->Hp->Nat) (h0:Pv σ H)
  (hs:∀σ H,Pv σ H->c σ H λb H1=>if b=true then tb {D with nx:=λσ' H'=>Pv σ' H'/\μ σ' H'<μ σ H,ct:=λσ' H'=>Pv σ' H'/\μ σ' H'<μ σ H,bk:=D.nx} σ H1 else D.nx σ H1)
  (mono:∀σ H Q Q',(∀b H1,Q b H1->Q' b H1)->c σ H Q->c σ H Q'):xN c tb D σ H:=by
 refine⟨λm σ H=>m=μ σ H/\Pv σ H,⟨_,rfl,h0⟩,?_⟩
 rintro m σ H ⟨rfl,p⟩
 refine mono σ H _ _ (λb H1 q=>?_) (hs σ H p)
 cases b with
 | true=>exact⟨_,λσ' H' ⟨p',l⟩=>⟨_,l,rfl,p'⟩,q⟩
 | false=>exact q
end L2
namespace L2
open PySem PySem.Spec PyProof.Rows
abbrev R2:=V->V->Hp->VK->Prop
noncomputable def my (X:Cx) (f:Value->Value->Sem Value) (r:R2):Prop:=
 ∀(pins:List (Addr×Obj)) (s:Shared) (σ:St) (H:Hp) (x y:V) (v u:Value) (Q:VK),Inv X pins σ H s->RelV x v->RelV y u->r x y H Q->
  wpAny (model X.prog X.w) X.A (f v u) (EP X pins σ Q) X.xe s
noncomputable def M3 (X:Cx) (f:Value->Sem Value) (r:V->Hp->VK->Prop):Prop:=
 ∀(pins:List (Addr×Obj)) (s:Shared) (σ:St) (H:Hp) (x:V) (v:Value) (Q:VK),Inv X pins σ H s->RelV x v->r x H Q->
  wpAny (model X.prog X.w) X.A (f v) (EP X pins σ Q) X.xe s
noncomputable def dz (X:Cx) (f:Value) (r:List V->Hp->VK->Prop):Prop:=
 ∀(pins:List (Addr×Obj)) (s:Shared) (σ:St) (H:Hp) (xs:List V) (us:List Value) (Q:VK),Inv X pins σ H s->bC xs us->r xs H Q->
  wpAny (model X.prog X.w) X.A (call f us) (EP X pins σ Q) X.xe s
noncomputable def tOp (r:R2) (ta tb:TE):TE:=λσ H Q=>ta σ H λx H1=>tb σ H1 λy H2=>r x y H2 Q
noncomputable def tUn (r:V->Hp->VK->Prop) (ta:TE):TE:=λσ H Q=>ta σ H λx H1=>r x H1 Q
noncomputable def rI (C:Int->Int->Prop) (g:Int->Int->V):R2:=λx y H Q=>∃i j,x=.int i/\y=.int j/\C i j/\Q (g i j) H
noncomputable def rI0 (g:Int->Int->V):R2:=λx y H Q=>∃i j,x=.int i/\y=.int j/\Q (g i j) H
noncomputable def rU (g:Int->V):V->Hp->VK->Prop:=λx H Q=>∃i,x=.int i/\Q (g i) H
section
variable {X : Cx} {a b c : Expr} {ta tb tc : TE} {pos : Pos}
theorem Ht (ha:PE X a ta) (hb:PE X b tb) {pins:List (Addr×Obj)} {s:Shared} {σ:St} {H:Hp} {R:V->V->Hp->Prop} (I:Inv X pins σ H s)
  (h:ta σ H λx H1=>tb σ H1 λy H2=>R x y H2) {Q:Value->Shared->Prop} {f:Value->Value->Sem Value}
  (hf:∀v u s2 x y H2,Inv X pins σ H2 s2->RelV x v->RelV y u->R x y H2->wpAny (model X.prog X.w) X.A (f v u) Q X.xe s2):
  wpAny (model X.prog X.w) X.A (eval a X.env) (λv s₁=>wpAny (model X.prog X.w) X.A (eval b X.env) (λu s₂=>wpAny (model X.prog X.w) X.A (f v u) Q X.xe s₂) X.xe s₁) X.xe s:=by
 refine cL (ha pins s σ H _ I h) λv s1 dH=>?_
 obtain⟨x,H1,I1,r1,q1⟩:=dH
 refine cL (hb pins s1 σ H1 _ I1 q1) λu s2 dH=>?_
 obtain⟨y,H2,I2,r2,q2⟩:=dH
 exact hf v u s2 x y H2 I2 r1 r2 q2
theorem aL {op:Operator} {r:R2} (ho:my X (binaryOp op) r) (ha:PE X a ta) (hb:PE X b tb):PE X (.BinOp a op b pos) (tOp r ta tb):=by
 intro pins s σ H Q I h
 exact wpAny_BinOp (Ht ha hb I h λv u s2 x y H2 I2 rx ry q=>ho pins s2 σ H2 x y v u Q I2 rx ry q)
theorem kG {op:UnaryOp} {r:V->Hp->VK->Prop} (ho:M3 X (unaryOp op) r) (ha:PE X a ta):PE X (.UnaryOp op a pos) (tUn r ta):=by
 intro pins s σ H Q I h
 exact UnaryOp_ (cL (ha pins s σ H _ I h) λv s1 ⟨x,H1,I1,r1,q1⟩=>ho pins s1 σ H1 x v Q I1 r1 q1)
theorem M4 {f:Value->Value->Sem Value} {C:Int->Int->Prop} {g:Int->Int->Int}
  (rule:∀(i j:Int) (t u:Tok) (s:Shared) (Q:Value->Shared->Prop) (E:Value->Shared->Prop),C i j->Q (.int (g i j) s.toks) {s with toks:=s.toks+1}->wpAny (model X.prog X.w) X.A (f (.int i t) (.int j u)) Q E s):
  my X f (rI C λi j=>.int (g i j)):=by
 intro pins s σ H x y v u Q I rx ry h
 obtain⟨i,j,rfl,rfl,hc,q⟩:=h
 obtain⟨t,rfl⟩:=rx
 obtain⟨t',rfl⟩:=ry
 exact rule i j t t' s _ _ hc ⟨.int (g i j),H,I.tok _,⟨_,rfl⟩,q⟩
theorem J7 {f:Value->Value->Sem Value} {g:Int->Int->Int}
  (rule:∀(i j:Int) (t u:Tok) (s:Shared) (Q:Value->Shared->Prop) (E:Value->Shared->Prop),Q (.int (g i j) s.toks) {s with toks:=s.toks+1}->wpAny (model X.prog X.w) X.A (f (.int i t) (.int j u)) Q E s):
  my X f (rI0 λi j=>.int (g i j)):=by
 intro pins s σ H x y v u Q I rx ry h
 obtain⟨i,j,rfl,rfl,q⟩:=h
 obtain⟨t,rfl⟩:=rx
 obtain⟨t',rfl⟩:=ry
 exact rule i j t t' s _ _ ⟨.int (g i j),H,I.tok _,⟨_,rfl⟩,q⟩
theorem Ey {f:Value->Value->Sem Value} {g:Int->Int->Bool}
  (rule:∀(i j:Int) (t u:Tok) (s:Shared) (Q:Value->Shared->Prop) (E:Value->Shared->Prop),Q (.bool (g i j)) s->wpAny (model X.prog X.w) X.A (f (.int i t) (.int j u)) Q E s):
  my X f (rI0 λi j=>.bl (g i j)):=by
 intro pins s σ H x y v u Q I rx ry h
 obtain⟨i,j,rfl,rfl,q⟩:=h
 obtain⟨t,rfl⟩:=rx
 obtain⟨t',rfl⟩:=ry
 exact rule i j t t' s _ _ ⟨.bl (g i j),H,I,rfl,q⟩
noncomputable def CPow (i j:Int):Prop:=0<=j/\j<=1000000/\i.natAbs<2^64
theorem bQ:my X (binaryOp .Add) (rI0 λi j=>.int (i+j)):=J7 λ_ _ _ _ _ _ _ q=>add_int q
theorem nK:my X (binaryOp .Sub) (rI0 λi j=>.int (i - j)):=J7 λ_ _ _ _ _ _ _ q=>sub_int q
theorem Hu:my X (binaryOp .Mod) (rI (λ_ j=>0<j) λi j=>.int (i % j)):=M4 λi j _ _ _ _ _ hc q=>by
 have h1:(0:Int)<j:=hc
 exact mod_int' (by omega) (by rw[Int.fmod_eq_emod_of_nonneg i (by omega)];exact q)
theorem Xu {f:Value->Sem Value} {g:Int->Int}
  (rule:∀(i:Int) (t:Tok) (s:Shared) (Q:Value->Shared->Prop) (E:Value->Shared->Prop),Q (.int (g i) s.toks) {s with toks:=s.toks+1}->wpAny (model X.prog X.w) X.A (f (.int i t)) Q E s):
  M3 X f (rU λi=>.int (g i)):=by
 intro pins s σ H x v Q I rx h
 obtain⟨i,rfl,q⟩:=h
 obtain⟨t,rfl⟩:=rx
 exact rule i t s _ _ ⟨.int (g i),H,I.tok _,⟨_,rfl⟩,q⟩
theorem gT:M3 X (unaryOp .USub) (rU λi=>.int (-i)):=Xu λ_ _ _ _ _ q=>neg_int q
end
noncomputable def scal:V->V->Bool
 | .dG,.dG=>true | .dG,.int _=>true | .int _,.dG=>true | .dG,.bl _=>true | .bl _,.dG=>true | .dG,.str _=>true | .str _,.dG=>true
 | .int _,.int _=>true | .bl _,.bl _=>true | .str _,.str _=>true | .BC _,.BC _=>true
 | .int _,.str _=>true | .str _,.int _=>true | .bl _,.str _=>true | .str _,.bl _=>true
 | _,_=>false
noncomputable def rEq:R2:=λx y H Q=>scal x y=true/\Q (.bl (decide (x=y))) H
noncomputable def rNe:R2:=λx y H Q=>scal x y=true/\Q (.bl (!decide (x=y))) H
theorem zm {i j:Int}:decide (V.int i=V.int j)=(i==j):=by
 rw[Bool.eq_iff_iff]
 simp
theorem BV {i j:Bool}:decide (V.bl i=V.bl j)=(i==j):=by
 rw[Bool.eq_iff_iff]
 simp
theorem zo {i j:Str}:decide (V.str i=V.str j)=(i==j):=by
 rw[Bool.eq_iff_iff]
 simp
theorem zq {i j:Array UInt8}:decide (V.BC i=V.BC j)=(i.toList==j.toList):=by
 rw[Bool.eq_iff_iff]
 cases i
 cases j
 simp
section
variable {X : Cx} {a b c : Expr} {ta tb tc : TE} {pos : Pos}
theorem bU {pins:List (Addr×Obj)} {σ:St} {H:Hp} {s:Shared} {Q:VK} {k k':Bool} (I:Inv X pins σ H s) (q:Q (.bl k) H) (e:k=k'):EP X pins σ Q (.bool k') s:=by
 subst e
 exact⟨.bl k,H,I,rfl,q⟩
theorem cA:my X (compareOp .Eq) rEq:=by
 intro pins s σ H x y v u Q I rx ry h
 obtain⟨hs,q⟩:=h
 cases x with
 | dG=>
  cases rx
  cases y with
  | dG=>cases ry;exact PySem.EqNone.eq_none_none (bU I q (by simp))
  | bl j=>cases ry;exact PySem.EqNone.eq_none_bool (bU I q (by simp))
  | int j=>obtain⟨t',rfl⟩:=ry;exact PySem.EqNone.eq_none_int (bU I q (by simp))
  | str j=>obtain⟨t',rfl⟩:=ry;exact PySem.EqNone.eq_none_str (bU I q (by simp))
  | _=>exact absurd (show false=true from hs) aaw
 | bl i=>
  cases rx
  cases y with
  | dG=>cases ry;exact PySem.EqNone.eq_bool_none (bU I q (by simp))
  | bl j=>cases ry;exact eq_bool (bU I q BV)
  | str j=>obtain⟨t',rfl⟩:=ry;exact PySem.EqMixed.eq_bool_str (bU I q (by simp))
  | _=>exact absurd (show false=true from hs) aaw
 | int i=>
  obtain⟨t,rfl⟩:=rx
  cases y with
  | dG=>cases ry;exact PySem.EqNone.eq_int_none (bU I q (by simp))
  | int j=>obtain⟨t',rfl⟩:=ry;exact eq_int (bU I q zm)
  | str j=>obtain⟨t',rfl⟩:=ry;exact PySem.EqMixed.eq_int_str (bU I q (by simp))
  | _=>exact absurd (show false=true from hs) aaw
 | str i=>
  obtain⟨t,rfl⟩:=rx
  cases y with
  | dG=>cases ry;exact PySem.EqNone.eq_str_none (bU I q (by simp))
  | bl j=>cases ry;exact PySem.EqMixed.eq_str_bool (bU I q (by simp))
  | int j=>obtain⟨t',rfl⟩:=ry;exact PySem.EqMixed.eq_str_int (bU I q (by simp))
  | str j=>obtain⟨t',rfl⟩:=ry;exact eq_str (bU I q zo)
  | _=>exact absurd (show false=true from hs) aaw
 | BC i=>
  obtain⟨t,rfl⟩:=rx
  cases y with
  | BC j=>obtain⟨t',rfl⟩:=ry;exact PySem.W.eq_bytes (bU I q zq)
  | _=>exact absurd (show false=true from hs) aaw
 | _=>cases y <;>exact absurd (show false=true from hs) aaw
theorem BW:my X (compareOp .NotEq) rNe:=by
 intro pins s σ H x y v u Q I rx ry h
 obtain⟨hs,q⟩:=h
 cases x with
 | dG=>
  cases rx
  cases y with
  | dG=>cases ry;exact PySem.EqNone.ne_none_none (bU I q (by simp))
  | bl j=>cases ry;exact PySem.EqNone.ne_none_bool (bU I q (by simp))
  | int j=>obtain⟨t',rfl⟩:=ry;exact PySem.EqNone.ne_none_int (bU I q (by simp))
  | str j=>obtain⟨t',rfl⟩:=ry;exact PySem.EqNone.ne_none_str (bU I q (by simp))
  | _=>exact absurd (show false=true from hs) aaw
 | bl i=>
  cases rx
  cases y with
  | dG=>cases ry;exact PySem.EqNone.ne_bool_none (bU I q (by simp))
  | bl j=>cases ry;exact ne_bool (bU I q (congrArg not BV))
  | str j=>obtain⟨t',rfl⟩:=ry;exact PySem.EqMixed.ne_bool_str (bU I q (by simp))
  | _=>exact absurd (show false=true from hs) aaw
 | int i=>
  obtain⟨t,rfl⟩:=rx
  cases y with
  | dG=>cases ry;exact PySem.EqNone.ne_int_none (bU I q (by simp))
  | int j=>obtain⟨t',rfl⟩:=ry;exact ne_int (bU I q (congrArg not zm))
  | str j=>obtain⟨t',rfl⟩:=ry;exact PySem.EqMixed.ne_int_str (bU I q (by simp))
  | _=>exact absurd (show false=true from hs) aaw
 | str i=>
  obtain⟨t,rfl⟩:=rx
  cases y with
  | dG=>cases ry;exact PySem.EqNone.ne_str_none (bU I q (by simp))
  | bl j=>cases ry;exact PySem.EqMixed.ne_str_bool (bU I q (by simp))
  | int j=>obtain⟨t',rfl⟩:=ry;exact PySem.EqMixed.ne_str_int (bU I q (by simp))
  | str j=>obtain⟨t',rfl⟩:=ry;exact ne_str (bU I q (congrArg not zo))
  | _=>exact absurd (show false=true from hs) aaw
 | BC i=>
  obtain⟨t,rfl⟩:=rx
  cases y with
  | BC j=>obtain⟨t',rfl⟩:=ry;exact PySem.W.ne_bytes (bU I q (congrArg not zq))
  | _=>exact absurd (show false=true from hs) aaw
 | _=>cases y <;>exact absurd (show false=true from hs) aaw
theorem o7:my X (compareOp .Lt) (rI0 λi j=>.bl (decide (i<j))):=Ey λ_ _ _ _ _ _ _ q=>lt_int q
theorem Gs:my X (compareOp .LtE) (rI0 λi j=>.bl (decide (i<=j))):=Ey λ_ _ _ _ _ _ _ q=>le_int q
theorem jd:my X (compareOp .Gt) (rI0 λi j=>.bl (decide (j<i))):=Ey λ_ _ _ _ _ _ _ q=>gt_int q
theorem BX:my X (compareOp .GtE) (rI0 λi j=>.bl (decide (j<=i))):=Ey λ_ _ _ _ _ _ _ q=>ge_int q
theorem Hv:my X (compareOp .Is) (λx y H Q=>y=.dG/\Q (.bl (decide (x=.dG))) H):=by
 intro pins s σ H x y v u Q I rx ry h
 obtain⟨rfl,q⟩:=h
 cases ry
 refine is_none_gen (bU I q ?_)
 cases x <;>first
  | (cases rx;rfl)
  | (obtain⟨t,rfl⟩:=rx;rfl)
theorem Ez:my X (compareOp .IsNot) (λx y H Q=>y=.dG/\Q (.bl (!decide (x=.dG))) H):=by
 intro pins s σ H x y v u Q I rx ry h
 obtain⟨rfl,q⟩:=h
 cases ry
 refine isnot_none_gen (bU I q ?_)
 cases x <;>first
  | (cases rx;rfl)
  | (obtain⟨t,rfl⟩:=rx;rfl)
theorem bb (b:Expr) {op:CmpOp} (h:op≠.In:=by decide) (h2:op≠.NotIn:=by decide):behindInMarks op b=false:=by
 have e1:(op==CmpOp.In)=false:=by cases op <;>first | rfl | exact absurd rfl h
 have e2:(op==CmpOp.NotIn)=false:=by cases op <;>first | rfl | exact absurd rfl h2
 cases b <;>simp [behindInMarks,e1,e2]
theorem mz {op:CmpOp} {r:R2} (ho:my X (compareOp op) r) (ha:PE X a ta) (hb:PE X b tb) (hm:behindInMarks op b=false):PE X (.Compare a [op] [b] pos) (tOp r ta tb):=by
 intro pins s σ H Q I h
 exact wpAny_Compare1 (Ht ha hb I h λv u s2 x y H2 I2 rx ry q=>ho pins s2 σ H2 x y v u Q I2 rx ry q) hm
noncomputable def tTest (t:TE):TT:=λσ H Q=>t σ H λx H'=>∃k,x=.bl k/\Q k H'
theorem aU {op:CmpOp} {r:R2} (ho:my X (compareOp op) r) (ha:PE X a ta) (hb:PE X b tb) (hm:behindInMarks op b=false):PT X (.Compare a [op] [b] pos) (tTest (tOp r ta tb)):=by
 intro pins s σ H Q I h
 refine wpAny_isTrue_Compare1 (cL (ha pins s σ H _ I h) λv s1 ⟨x,H1,I1,r1,q1⟩=>cL (hb pins s1 σ H1 _ I1 q1) λu s2 ⟨y,H2,I2,r2,q2⟩=>
  cL (ho pins s2 σ H2 x y v u _ I2 r1 r2 q2) λc s3 ⟨z,H3,I3,r3,k,e,q3⟩=>?_) hm
 subst e
 cases r3
 exact wpAny_truthy_bool ⟨H3,I3,q3⟩
noncomputable def tChain (r r':R2) (ta tb tc:TE):TE:=λσ H Q=>ta σ H λx H1=>tb σ H1 λy H2=>r x y H2 λz H3=>∃k,z=.bl k/\
 (if k=true then tc σ H3 λw' H4=>r' y w' H4 Q else Q (.bl false) H3)
theorem BY {op N7:CmpOp} {r r':R2} (ho:my X (compareOp op) r) (Ep:my X (compareOp N7) r') (ha:PE X a ta) (hb:PE X b tb) (hc:PE X c tc)
  (hm:lastMarks [op,N7] [b,c]=false:=by with_unfolding_all rfl):PT X (.Compare a [op,N7] [b,c] pos) (tTest (tChain r r' ta tb tc)):=by
 intro pins s σ H Q I h
 refine isTrue_chain (cL (ha pins s σ H _ I h) λv s1 ⟨x,H1,I1,r1,q1⟩=>test_link (cL (hb pins s1 σ H1 _ I1 q1) λu s2 ⟨y,H2,I2,r2,q2⟩=>
  cL (ho pins s2 σ H2 x y v u _ I2 r1 r2 q2) λd s3 ⟨z,H3,I3,r3,k,e,q3⟩=>?_)) hm
 subst e
 cases r3
 refine wpAny_truthy_bool ?_
 cases k with
 | false=>
  obtain⟨k',e',q'⟩:=q3
  cases e'
  exact ite_ff ⟨H3,I3,q'⟩
 | true=>
  refine ite_tt (test_last (cL (hc pins s3 σ H3 _ I3 q3) λw' s4 ⟨z',H4,I4,r4,q4⟩=>cL (Ep pins s4 σ H4 y z' u w' _ I4 r2 r4 q4) λd' s5 dH=>?_))
  obtain⟨z2,H5,I5,r5,k2,e2,q5⟩:=dH
  subst e2
  cases r5
  exact wpAny_truthy_bool ⟨H5,I5,q5⟩
theorem uy:(sizeLine:Nat)<2^63:=by rw[sizeLine_eq];decide
theorem vals1 {x:V} {us:List Value} (r:bC [x] us):∃u,us=[u]/\RelV x u:=by
 cases r with
 | cons r1 r2=>cases r2;exact⟨_,rfl,r1⟩
theorem vals2 {x y:V} {us:List Value} (r:bC [x,y] us):∃u w',us=[u,w']/\RelV x u/\RelV y w':=by
 cases r with
 | cons r1 r2=>
  cases r2 with
  | cons r3 r4=>cases r4;exact⟨_,_,rfl,r1,r3⟩
theorem vR:dz X (.builtin "abs") (λxs H Q=>∃i,xs=[.int i]/\Q (.int (if i<0 then -i else i)) H):=by
 intro pins s σ H xs us Q I r h
 obtain⟨i,rfl,q⟩:=h
 obtain⟨u,rfl,t,rfl⟩:=vals1 r
 exact call_abs_int λu tk=>⟨.int (if i<0 then -i else i),H,I.tok _,⟨_,rfl⟩,q⟩
theorem nM (hc:X.calm=true):dz X (.builtin "max") (λxs H Q=>∃i j,xs=[.int i,.int j]/\Q (.int (if j >i then j else i)) H):=by
 intro pins s σ H xs us Q I r h
 obtain⟨i,j,rfl,q⟩:=h
 obtain⟨u,w',rfl,⟨t,rfl⟩,⟨t',rfl⟩⟩:=vals2 r
 refine max_two_ints (I.ok.hd hc) λh' tk k=>⟨_,H,I.kept k,?_,q⟩
 by_cases hj:j >i
 ·rw[if_pos hj,if_pos hj];exact⟨_,rfl⟩
 ·rw[if_neg hj,if_neg hj];exact⟨_,rfl⟩
theorem tJ (hc:X.calm=true):dz X (.builtin "min") (λxs H Q=>∃i j,xs=[.int i,.int j]/\Q (.int (if j<i then j else i)) H):=by
 intro pins s σ H xs us Q I r h
 obtain⟨i,j,rfl,q⟩:=h
 obtain⟨u,w',rfl,⟨t,rfl⟩,⟨t',rfl⟩⟩:=vals2 r
 refine min_two_ints (I.ok.hd hc) λh' tk k=>⟨_,H,I.kept k,?_,q⟩
 by_cases hj:j<i
 ·rw[if_pos hj,if_pos hj];exact⟨_,rfl⟩
 ·rw[if_neg hj,if_neg hj];exact⟨_,rfl⟩
theorem AJ:dz X (.type "int") (λxs H Q=>(∃i,xs=[.int i]/\Q (.int i) H)\/∃k,xs=[.bl k]/\Q (.int (if k then 1 else 0)) H):=by
 intro pins s σ H xs us Q I r h
 rcases h with ⟨i,rfl,q⟩ | ⟨k,rfl,q⟩
 ·obtain⟨u,rfl,t,rfl⟩:=vals1 r
  exact call_int_int ⟨.int i,H,I,⟨_,rfl⟩,q⟩
 ·obtain⟨u,rfl,r1⟩:=vals1 r
  cases r1
  exact call_int_bool ⟨.int (if k then 1 else 0),H,I.tok _,⟨_,rfl⟩,q⟩
end
end L2
namespace L2
open PySem PySem.Spec PyProof.Rows
structure xT (h:Heap) (x dx C:Addr) (mA:Str->Option Value):Prop where
 obj:h.get? x=some (PySem.W.instObj C dx)
 ns:h.Ns1 dx mA
 ne:dx≠x
set_option tactic.hygienic true in
theorem AK {h:Heap} {dx:Addr} {mA:Str->Option Value} (n:h.Ns1 dx mA):∃od,h.get? dx=some od/\∀name,PySem.W.lookIn name od=some (mA name):=by
 obtain⟨o,es,ep,ho,hd,hk,_,hm⟩:=n
 refine⟨o,ho,λname=>?_⟩
 have e:=hm name
 unfold nsFind findBy at e
 rw[<-Array.find?_toList] at e
 unfold PySem.W.lookIn
 rw[hd]
 dsimp only
 split
 ·rename_i y q
  rw[q] at e
  exact congrArg some e
 ·rename_i q
  rw[q] at e
  have a:es.toList.any (·.refKey)=false:=by
   rw[List.any_eq_false]
   intro y hy
   obtain⟨z,t,uz⟩:=hk y (Array.mem_toList_iff.mp hy)
   simp [DictEntry.refKey,uz]
  have a':¬es.toList.any (·.refKey)=true:=by rw[a];exact aaw
  rw[if_neg a']
  exact congrArg some e
theorem xT.look {h:Heap} {x dx C:Addr} {mA:Str->Option Value} (I:xT h x dx C mA):∃od,PySem.W.InstAt h x (PySem.W.instObj C dx) C (some od)/\∀name,PySem.W.lookIn name od=some (mA name):=
 let ⟨od,ho,hl⟩:=AK I.ns
 ⟨od,⟨I.obj,rfl,rfl,ho⟩,hl⟩
section
variable {prog : Program} {w : World} {A : Around} {E : Value -> Shared -> Prop} {s : Shared} {K : PySem.W.Frag} {x dx C f : Addr} {mA : Str -> Option Value} {name : Str} {v : Value}
theorem get_map {expr:Bool} {Q:Value->Shared->Prop} (X:K.In s.heap) (I:xT s.heap x dx C mA) (hg:PySem.W.plainGet K C name=true) (hh:PySem.W.hasDictIn K C=true)
  (ha:PySem.W.findIn K (.ref C) name=some none) (hv:mA name=some v) (Xv:PySem.W.handedIn v=true) (h:Q v {s with toks:=s.toks+1}):
  wpAny (model prog w) A (getAttr (.ref x) name expr) Q E s:=by
 obtain⟨od,J,hl⟩:=I.look
 exact PySem.W.get_value X J (PySem.W.plainGet_of hg).1 (PySem.W.findObj_own hh ha rfl (by rw[hl,hv])) Xv h
theorem BZ {pl:Sem Bool} {Q:Value×List Value->Shared->Prop} (X:K.In s.heap) (I:xT s.heap x dx C mA) (hg:PySem.W.plainGet K C name=true)
  (hf:PySem.W.findIn K (.ref C) name=some (some (.ref f))) (ht:PySem.W.isFn K (.ref f)=true) (hv:mA name=none) (h:Q (.ref f,[.ref x]) s):
  wpAny (model prog w) A (getMethod (.ref x) name pl) Q E s:=by
 obtain⟨od,J,hl⟩:=I.look
 exact PySem.W.method_fn X J (PySem.W.plainGet_of hg).1 (PySem.W.plainGet_of hg).2 hf (beq_iff_eq.mp ht) (by show(PySem.W.lookIn name od).map (·.isSome)=some false;rw[hl,hv];rfl) h
theorem EA {ns:List Str} {Q:Unit->Shared->Prop} (X:K.In s.heap) (I:xT s.heap x dx C mA)
  (hs:PySem.W.findIn K (.ref C) "__setattr__"=some (some (.builtin "object.__setattr__"))) (hp:PySem.W.plainOver K C=true) (ht:PySem.W.takerIn K C name=some none) (hh:PySem.W.hasDictIn K C=true)
  (hw:PySem.Within mA ns) (hsz:ns.length<=sizeLine)
  (h:∀h',xT h' x dx C (λy=>if y=name then some v else mA y)->Heap.SameBut dx s.heap h'->Q () {s with heap:=h',toks:=s.toks+2}):
  wpAny (model prog w) A (setAttr (.ref x) name v) Q E s:=by
 obtain⟨od,J,hl⟩:=I.look
 refine PySem.W.set_plain X J hs (PySem.W.osa_open (s:={s with toks:=s.toks+1}) (r:=none) X J hp ht λb=>?_)
 obtain⟨cd,hc,Hl⟩:=PySem.W.any_some hh
 have hx:s.heap.get? x=some ⟨.ref C,some dx,.plain,#[]⟩:=I.obj
 refine wpAny_bind (wpAny_pure (wpAny_bind (wpAny_bind (wpAny_loadPart hx (wpAny_bind (PySem.W.Looks.here (s:={s with toks:=s.toks+1}) (PySem.W.looks_clsIn X hc) ?_))))))
 rw[Hl]
 refine wpAny_pure (a:=some dx) (wpAny_bind (wpAny_pure (wpAny_bind ?_)))
 refine wpAny_nsSet1 (s:={s with toks:=s.toks+1}) I.ns λh' M5 BD=>?_
 obtain⟨oD,esD,epD,Xw,Xx,Xy⟩:=M5.count (PySem.Within.cons name v hw)
 refine wpAny_bind (wpAny_lookBehind Xw (by rw[Xx];exact pastItsLine_dict (aar Xy (by rw[aap];omega))) ?_)
 exact wpAny_pure (h _ ⟨(BD.2 _ (Ne.symm I.ne)).trans I.obj,M5,I.ne⟩ BD)
theorem B1 {R:Result->Shared->Prop} {vs:List Value} {kw:List (Str×Value)} (X:K.In s.heap) (hm:PySem.W.makesIn K C=true)
  (hi:PySem.W.findIn K (.ref C) "__init__"=some (some (.ref f))) (hf:PySem.W.typeIn K (.ref f)=some (.type "function"))
  (h:codeAny (model prog w) (A.under (.builtin "type.__call__" ⟨.ref C::vs,kw⟩)) (.call (.ref f) ⟨.ref (s.heap.objs.size+1)::vs,kw⟩) (PySem.W.InitBack (s.heap.objs.size+1) R)
   {s with heap:=(s.heap.push PySem.W.emptyDict).push (PySem.W.instObj C s.heap.objs.size)}):
  codeAny (model prog w) A (.call (.ref C) ⟨vs,kw⟩) R s:=by
 obtain⟨hh,g,d,t,os⟩:=s
 exact PySem.W.make_core (PySem.W.makes_of X hm) (PySem.W.looks_findIn X hi) (λself=>PySem.W.bind_fn X self hf) (.inl rfl) h
end
noncomputable def i4 (f:Str) (v:V):List (Str×V)->List (Str×V)
 | []=>[(f,v)]
 | (g,x)::r=>if g=f then (g,v)::r else (g,x)::i4 f v r
theorem o8 (f g:Str) (v:V):∀fs:List (Str×V),(i4 f v fs).lookup g=if g=f then some v else fs.lookup g
 | []=>by
  show List.lookup g [(f,v)]=_
  by_cases h:g=f
  ·have hb:(g==f)=true:=beq_iff_eq.mpr h
   simp only[List.lookup,hb,if_pos h]
  ·have hb:(g==f)=false:=beq_eq_false_iff_ne.mpr h
   simp only[List.lookup,hb,if_neg h]
 | (k,x)::r=>by
  have ih:=o8 f g v r
  rw[show i4 f v ((k,x)::r)=(if k=f then (k,v)::r else (k,x)::i4 f v r) from rfl]
  by_cases hk:k=f
  ·rw[if_pos hk]
   by_cases h:g=k
   ·have hb:(g==k)=true:=beq_iff_eq.mpr h
    simp only[List.lookup,hb,if_pos (h.trans hk)]
   ·have hb:(g==k)=false:=beq_eq_false_iff_ne.mpr h
    simp only[List.lookup,hb,if_neg (λe:g=f=>h (e.trans hk.symm))]
  ·rw[if_neg hk]
   by_cases h:g=k
   ·have hb:(g==k)=true:=beq_iff_eq.mpr h
    simp only[List.lookup,hb,if_neg (λe:g=f=>hk (h.symm.trans e))]
   ·have hb:(g==k)=false:=beq_eq_false_iff_ne.mpr h
    simp only[List.lookup,hb]
    exact ih
theorem nN (f:Str) (v:V):∀fs:List (Str×V),f∈(i4 f v fs).map (·.1)/\∀g,g∈fs.map (·.1)->g∈(i4 f v fs).map (·.1)
 | []=>⟨by simp [i4],λg h=>by simp at h⟩
 | (k,x)::r=>by
  obtain⟨i1,i2⟩:=nN f v r
  rw[show i4 f v ((k,x)::r)=(if k=f then (k,v)::r else (k,x)::i4 f v r) from rfl]
  by_cases hk:k=f
  ·rw[if_pos hk]
   subst hk
   exact⟨by simp,λg h=>by simpa using h⟩
  ·rw[if_neg hk]
   refine⟨?_,λg h=>?_⟩
   ·rw[aag]
    exact aal _ i1
   ·rw[aag] at h ⊢
    rcases List.mem_cons.mp h with e | e
    ·exact List.mem_cons.mpr (.inl e)
    ·exact aal _ (i2 g e)
theorem o9 (f:Str) (v:V):∀fs:List (Str×V),(i4 f v fs).length<=fs.length+1
 | []=>by simp [i4]
 | (k,x)::r=>by
  have ih:=o9 f v r
  rw[show i4 f v ((k,x)::r)=(if k=f then (k,v)::r else (k,x)::i4 f v r) from rfl]
  by_cases hk:k=f
  ·rw[if_pos hk,aap,aap];omega
  ·rw[if_neg hk,aap,aap];omega
theorem iY.some_of {v:V} {o:Option Value} (r:iY (some v) o):∃u,o=some u/\RelV v u:=by
 cases o with
 | none=>exact(show False from r).elim
 | some u=>exact⟨u,rfl,r⟩
theorem iY.none_of {o:Option Value} (r:iY none o):o=none:=by
 cases o with
 | none=>rfl
 | some u=>exact(show False from r).elim
theorem AL {v:V} {u:Value} (r:RelV v u):PySem.W.handedIn u=true:=by
 cases v with
 | dG=>cases (show u=Value.none from r);rfl
 | bl b=>cases (show u=Value.bool b from r);rfl
 | int i=>obtain⟨t,e⟩:=(show ∃t,u=Value.int i t from r);cases e;rfl
 | str x=>obtain⟨t,e⟩:=(show ∃t,u=Value.str x t from r);cases e;rfl
 | BC b=>obtain⟨t,e⟩:=(show ∃t,u=Value.bytes b t from r);cases e;rfl
 | Hf b=>obtain⟨t,e⟩:=(show ∃t,u=Value.float b t from r);cases e;rfl
 | ref a=>cases (show u=Value.ref a from r);rfl
 | ty n=>cases (show u=Value.type n from r);rfl
section
variable {P : Program} {w : World} {H H' : Hp} {h h' : Heap} {a C dx : Addr} {fs Xl : List (Str × V)}
theorem pZ (bN:hJ P w H h) (e:H a=some (.ins C dx fs)):∃mA,xT h a dx C mA/\(∀f,iY (fs.lookup f) (mA f))/\PySem.Within mA (fs.map (·.1))/\fs.length<=1000/\H dx=some (.own a):=by
 obtain⟨d,z,ne,ob,mA,n,r,q⟩:=(show cG P w H h a (.ins C dx fs) from bN a _ e)
 exact⟨mA,⟨ob,n,ne⟩,r,q,z,d⟩
end
structure zr (K:PySem.W.Frag) (C:Addr):Prop where
 pg:PySem.W.plainGet K C Str.empty=true
 hd:PySem.W.hasDictIn K C=true
 po:PySem.W.plainOver K C=true
 sa:PySem.W.findIn K (.ref C) "__setattr__"=some (some (.builtin "object.__setattr__"))
theorem zr.get {K:PySem.W.Frag} {C:Addr} (c:zr K C) (f:Str):PySem.W.plainGet K C f=true:=c.pg
noncomputable def nO (K:PySem.W.Frag) (C:Addr) (f:Str):Prop:=PySem.W.findIn K (.ref C) f=some none
theorem nO.J8 {K:PySem.W.Frag} {C:Addr} {f:Str} (n:nO K C f):PySem.W.takerIn K C f=some none:=by
 unfold PySem.W.takerIn
 rw[show PySem.W.findIn K (.ref C) f=some none from n]
 rfl
structure Con (K:PySem.W.Frag) (C:Addr) (f:Str) (v:V) (u:Value):Prop where
 at_:PySem.W.findIn K (.ref C) f=some (some u)
 rel:RelV v u
 get:PySem.W.specialIn K u "__get__"=some none
 cp:PySem.W.copiedNames.contains f=false
structure B2 (K:PySem.W.Frag) (C:Addr) (m:Str) (f:Addr):Prop where
 at_:PySem.W.findIn K (.ref C) m=some (some (.ref f))
 fn:PySem.W.isFn K (.ref f)=true
 kp:PySem.W.keepIn K (.ref f)=true
section
variable {X : Cx} {pins : List (Addr × Obj)} {σ : St} {H : Hp} {s : Shared} {a C dx : Addr} {fs : List (Str × V)} {f : Str} {v : V} {A : Around} {E : Value -> Shared -> Prop}
theorem xU {b:Bool} {Q:Value->Shared->Prop} (I:Inv X pins σ H s) (e:H a=some (.ins C dx fs)) (c:zr X.K C) (n:nO X.K C f) (l:fs.lookup f=some v)
  (h:∀u s',Inv X pins σ H s'->RelV v u->Q u s'):wpAny (model X.prog X.w) A (getAttr (.ref a) f b) Q E s:=by
 obtain⟨mA,O,r,_,_,_⟩:=pZ I.bN e
 obtain⟨u,hu,ru⟩:=iY.some_of (v:=v) (o:=mA f) (by rw[<-l];exact r f)
 exact get_map I.lC O (c.get f) c.hd n hu (AL ru) (h u _ (I.tok _) ru)
theorem qq {m:Str} {g:Addr} {pl:Sem Bool} {Q:Value×List Value->Shared->Prop} (I:Inv X pins σ H s) (e:H a=some (.ins C dx fs)) (c:zr X.K C) (k:B2 X.K C m g) (l:fs.lookup m=none)
  (h:Q (.ref g,[.ref a]) s):wpAny (model X.prog X.w) A (getMethod (.ref a) m pl) Q E s:=by
 obtain⟨mA,O,r,_,_,_⟩:=pZ I.bN e
 have hn:mA m=none:=iY.none_of (by rw[<-l];exact r m)
 exact BZ I.lC O (c.get m) k.at_ k.fn hn h
theorem xV {y:V} {u:Value} {Q:Unit->Shared->Prop} (I:Inv X pins σ H s) (e:H a=some (.ins C dx fs)) (c:zr X.K C) (n:nO X.K C f) (hl:fs.length<1000) (ry:RelV y u)
  (h:∀s',Inv X pins σ (upd H a (.ins C dx (i4 f y fs))) s'->Q () s'):wpAny (model X.prog X.w) A (setAttr (.ref a) f u) Q E s:=by
 obtain⟨mA,O,r,wi,_,ho⟩:=pZ I.bN e
 have hz:(fs.map (·.1)).length<=sizeLine:=by rw[aad,sizeLine_eq];omega
 refine EA I.lC O c.sa c.po n.J8 c.hd wi hz λh' O' sb=>h _ ?_
 have hd:∃o,h'.get? dx=some o:=let ⟨o,_,_,e',_⟩:=O'.ns;⟨o,e'⟩
 refine I.write (x:=a) (e:=dx) (by rw[e];exact True.intro) (.inr ho) (λb q hb z=>(sb.2 b hb).trans z) hd ?_
 refine⟨by rw[aB O.ne];exact ho,?_,O.ne,O'.obj,_,O'.ns,λg=>?_,λg hg=>?_⟩
 ·have:=o9 f y fs;omega
 ·show iY ((i4 f y fs).lookup g) (if g=f then some u else mA g)
  rw[o8]
  by_cases q:g=f
  ·rw[if_pos q,if_pos q];exact ry
  ·rw[if_neg q,if_neg q];exact r g
 ·by_cases q:g=f
  ·rw[q];exact(nN f y fs).1
  ·refine(nN f y fs).2 g (wi g λz=>hg ?_)
   show(if g=f then some u else mA g)=none
   rw[if_neg q];exact z
theorem Inv.made (I:Inv X pins σ H s):Inv X pins σ (upd (upd H s.heap.objs.size (.own (s.heap.objs.size+1))) (s.heap.objs.size+1) (.ins C s.heap.objs.size []))
  {s with heap:=(s.heap.push PySem.W.emptyDict).push (PySem.W.instObj C s.heap.objs.size)}:=by
 have e1:(s.heap.push PySem.W.emptyDict).get? s.heap.objs.size=some PySem.W.emptyDict:=Heap.get?_push_size s.heap rfl
 have e2:((s.heap.push PySem.W.emptyDict).push (PySem.W.instObj C s.heap.objs.size)).get? (s.heap.objs.size+1)=some (PySem.W.instObj C s.heap.objs.size):=by
  have:=Heap.get?_push_size (s.heap.push PySem.W.emptyDict) (o:=PySem.W.instObj C s.heap.objs.size) rfl
  rwa [Heap.size_push] at this
 have e3:(s.heap.push PySem.W.emptyDict).Ns s.heap.objs.size (λ_=>none):=⟨PySem.W.emptyDict,#[],_,e1,rfl,(λe he=>absurd he (by simp)),λ_=>rfl⟩
 have I1:=I.laid (a:=s.heap.objs.size) (o:=.own (s.heap.objs.size+1)) (h':=s.heap.push PySem.W.emptyDict) (t':=s.toks) (λb u q=>Heap.get?_push_of_some _ q) (aaf _) ⟨_,e1⟩
 refine I1.laid (a:=s.heap.objs.size+1) (o:=.ins C s.heap.objs.size []) (t':=s.toks) (λb u q=>Heap.get?_push_of_some _ q) (Nat.le_of_eq (Heap.size_push _ _)) ?_
 have ne:s.heap.objs.size≠s.heap.objs.size+1:=aam (aaY _)
 refine⟨by rw[aB ne,aj],aak _,ne,e2,λ_=>none,(Heap.Ns1.of_empty e3).at λo q=>Heap.get?_push_of_some _ q,λ_=>True.intro,λy hy=>absurd rfl hy⟩
theorem EB {prog:Program} {w:World} {env:Env} {e:Expr} {f:Str} {pos:Pos} {s:Shared} {Q:Value->Shared->Prop} (hb:attributeBase e f env (eval e env)=eval e env)
  (h:wpAny (model prog w) A (eval e env) (λo s₁=>wpAny (model prog w) A (getAttr o f true) Q E s₁) E s):wpAny (model prog w) A (eval (.Attribute e f pos) env) Q E s:=
 Attribute_any_ h (by rw[arm_eval_Attribute,hb])
end
noncomputable def eY (K:PySem.W.Frag) (ta:TE) (f:Str):TE:=λσ H Q=>ta σ H λx H1=>∃a C dx fs v,x=.ref a/\H1 a=some (.ins C dx fs)/\zr K C/\nO K C f/\fs.lookup f=some v/\Q v H1
noncomputable def xW (K:PySem.W.Frag) (ta tv:TE) (f:Str):TS:=λD σ H=>tv σ H λy H1=>ta σ H1 λx H2=>∃a C dx fs,x=.ref a/\H2 a=some (.ins C dx fs)/\zr K C/\nO K C f/\fs.length<1000/\
 D.nx σ (upd H2 a (.ins C dx (i4 f y fs)))
section
variable {X : Cx} {o e value : Expr} {f : Str} {pos pos' sx : Pos} {ta tv : TE}
theorem cj (he:PE X e ta) (hb:attributeBase e f X.env (eval e X.env)=eval e X.env):PE X (.Attribute e f pos) (eY X.K ta f):=by
 intro pins s σ H Q I h
 refine EB hb (cL (he pins s σ H _ I h) λu s1 dH=>?_)
 obtain⟨x,H1,I1,rx,a,C,dx,fs,v,ex,ea,c,n,l,q⟩:=dH
 subst ex
 obtain rfl:u=Value.ref a:=rx
 exact xU I1 ea c n l λu' s2 I2 ru=>⟨v,H1,I2,ru,q⟩
theorem lD (ha:PE X o ta) (hv:PE X value tv) (hs:swapsWith value (some (.Attribute o f pos')) pos.line X.env=pure false):PS X (.Assign [.Attribute o f pos'] value pos) (xW X.K ta tv f):=by
 intro pins s σ H D I h
 refine plainObj_wpAny_Assign_Attribute (cL (hv pins s σ H _ I h) λu s1 ⟨y,H1,I1,ry,q⟩=>cL (ha pins s1 σ H1 _ I1 q) λov s2 dH=>?_) hs
 obtain⟨x,H2,I2,rx,a,C,dx,fs,ex,ea,c,n,l,q2⟩:=dH
 subst ex
 obtain rfl:ov=Value.ref a:=rx
 exact xV I2 ea c n l ry λs3 I3=>⟨σ,_,I3,q2⟩
end
section
variable {X : Cx} {pins : List (Addr × Obj)} {σ : St} {H : Hp} {s : Shared} {A : Around} {E : Value -> Shared -> Prop} {Q : Value -> Shared -> Prop} {c : Value} {b : Bool}
inductive i5 (K:PySem.W.Frag) (H:Hp):V->Value->Prop where
 | dG:i5 K H .dG (.type "NoneType")
 | bl (x:Bool):i5 K H (.bl x) (.type "bool")
 | int (i:Int):i5 K H (.int i) (.type "int")
 | str (x:Str):i5 K H (.str x) (.type "str")
 | Hf (x:UInt64):i5 K H (.Hf x) (.type "float")
 | lst {a:Addr} {xs:List V} (e:H a=some (.lst xs)):i5 K H (.ref a) (.type "list")
 | vG {a:Addr} {o:Obj} {xs:List V} (e:H a=some (.vG o (.lst xs))):i5 K H (.ref a) (.type "list")
 | tup {a:Addr} {xs:List V} (e:H a=some (.tup xs)):i5 K H (.ref a) (.type "tuple")
 | dK {a:Addr} {kvs:List (Key×V)} (e:H a=some (.dK kvs)):i5 K H (.ref a) (.type "dict")
 | dT {a:Addr} {kvs:List (List Key×V)} (e:H a=some (.dT kvs)):i5 K H (.ref a) (.type "dict")
 | ins {a C dx:Addr} {fs:List (Str×V)} (e:H a=some (.ins C dx fs)) (cl:zr K C) (ha:PySem.W.findIn K (.ref C) "__class__"=some (some (.builtin "object.__class__")))
   (hn:PySem.W.specialIn K (.builtin "object.__class__") "__get__"=some (some (.builtin "getset_descriptor.__get__"))) (Vf:PySem.W.takesIn K (.builtin "object.__class__")=some true)
   (hm:PySem.W.mroIn K C (.type "object")=some true):i5 K H (.ref a) (.ref C)
theorem AM {x:V} {u t:Value} (I:Inv X pins σ H s) (rx:RelV x u) (ty:i5 X.K H x t) (e:PySem.W.kitOne X.K t c=some b) (h:∀tk,Q (.bool b) {s with toks:=tk}):
  wpAny (model X.prog X.w) A (call (.builtin "isinstance") [u,c]) Q E s:=by
 cases ty with
 | dG=>cases (show u=Value.none from rx);exact aaS PySem.W.kitx_none I.lC True.intro e (λz=>nomatch z) h
 | bl y=>cases (show u=Value.bool y from rx);exact aaS PySem.W.kitx_bool I.lC True.intro e (λz=>nomatch z) h
 | int i=>obtain⟨t,q⟩:=(show ∃t,u=Value.int i t from rx);cases q;exact aaS PySem.W.kitx_int I.lC True.intro e (λz=>nomatch z) h
 | str y=>obtain⟨t,q⟩:=(show ∃t,u=Value.str y t from rx);cases q;exact aaS PySem.W.kitx_str I.lC True.intro e (λz=>nomatch z) h
 | Hf y=>obtain⟨t,q⟩:=(show ∃t,u=Value.float y t from rx);cases q;exact aaS PySem.W.kitx_float I.lC True.intro e (λz=>nomatch z) h
 | @lst a xs ea=>
  cases (show u=Value.ref a from rx)
  obtain⟨_,_,n,_,h1⟩:=(show cG X.prog X.w H s.heap a (.lst xs) from I.bN a _ ea)
  exact aaS PySem.W.kitx_list I.lC ⟨_,h1,rfl⟩ e (λz=>nomatch z) h
 | @vG a ob xs ea=>
  cases (show u=Value.ref a from rx)
  obtain⟨_,_,_,n,_,h1⟩:=(show cG X.prog X.w H s.heap a (.vG ob (.lst xs)) from I.bN a _ ea)
  exact aaS PySem.W.kitx_list I.lC ⟨_,h1,rfl⟩ e (λz=>nomatch z) h
 | @tup a xs ea=>
  cases (show u=Value.ref a from rx)
  obtain⟨_,_,_,p⟩:=(show cG X.prog X.w H s.heap a (.tup xs) from I.bN a _ ea)
  obtain⟨o,h1,h2,_⟩:=p
  exact aaS PySem.W.kitx_tuple I.lC ⟨o,h1,h2⟩ e (λz=>nomatch z) h
 | @dK a kvs ea=>
  cases (show u=Value.ref a from rx)
  obtain⟨_,_,vs,_,p⟩:=(show cG X.prog X.w H s.heap a (.dK kvs) from I.bN a _ ea)
  obtain⟨o,es,ep,h1,h2,_⟩:=p
  exact aaS PySem.W.kitx_dict I.lC ⟨o,h1,h2.1⟩ e (λz=>nomatch z) h
 | @dT a kvs ea=>
  cases (show u=Value.ref a from rx)
  obtain⟨_,_,xs,_,o,es,ep,h1,h2,_⟩:=(show cG X.prog X.w H s.heap a (.dT kvs) from I.bN a _ ea)
  exact aaS PySem.W.kitx_dict I.lC ⟨o,h1,h2.1⟩ e (λz=>nomatch z) h
 | @ins a C dx fs ea cl ha hn Vf hm=>
  cases (show u=Value.ref a from rx)
  obtain⟨mA,O,_⟩:=pZ I.bN ea
  obtain⟨od,J,_⟩:=O.look
  exact aaS (PySem.W.kitx_own (cl.get _) cl.hd ha hn Vf hm) I.lC J e (λz=>nomatch z) h
end
end L2
namespace L2
open PySem PySem.Spec PyProof.Rows
structure dM (k:Nat) (A:Around):Prop where
 hd:A.handled=none
 dp:A.depth+3*k+5<recursionLimit
 un:A.units+16*k+200<cLine
theorem dM.mono {j k:Nat} {A:Around} (r:dM k A) (h:j<=k):dM j A:=⟨r.hd,by have:=r.dp;omega,by have:=r.un;omega⟩
theorem dM.deeper {k:Nat} {A:Around} (r:dM (k+1) A) (env:Env):dM k (A.deeper env):=
 ⟨r.hd,by have:=r.dp;show A.depth+1+3*k+5<_;omega,by have:=r.un;show A.units+3+16*k+200<_;omega⟩
theorem xX {A:Around} {C:Addr} {us:List Value} {kw:List (Str×Value)}:(A.under (.builtin "type.__call__" ⟨.ref C::us,kw⟩)).depth=A.depth+1:=by
 first | rfl | simp [Around.under,Code.weight,Code.isCreation,Code.isGuard,Code.isCaller,Code.frames,Code.isFrame,guardIds]
theorem xY {A:Around} {C:Addr} {us:List Value} {kw:List (Str×Value)}:(A.under (.builtin "type.__call__" ⟨.ref C::us,kw⟩)).units=A.units+1:=by
 first | rfl | simp [Around.under,Code.cUnits,Code.frames,Code.isFrame]
theorem dM.make {k:Nat} {A:Around} (r:dM (k+1) A) (C:Addr) (us:List Value) (kw:List (Str×Value)):dM k (A.under (.builtin "type.__call__" ⟨.ref C::us,kw⟩)):=
 ⟨r.hd,by have:=r.dp;rw[xX];omega,by have:=r.un;rw[xY];omega⟩
theorem dM.depth {k:Nat} {A:Around} (r:dM k A):A.depth<recursionLimit:=by have:=r.dp;omega
theorem dM.units {k:Nat} {A:Around} (r:dM k A):A.units+64<cLine:=by have:=r.un;omega
noncomputable def tNil:TA:=λ_ H Q=>Q [] H
noncomputable def tCons (ta:TE) (tr:TA):TA:=λσ H Q=>ta σ H λx H1=>tr σ H1 λxs H2=>Q (x::xs) H2
section
variable {X : Cx} {e : Expr} {es : List Expr} {te : TE} {t : TA} {pos : Pos}
theorem ai:PA X [] tNil:=λ_ _ _ _ H Q I h=>Calls.spliced_nil ⟨[],H,I,.nil,h⟩
theorem aa (ha:PE X e te) (hr:PA X es t) (hs:starEach (e::es) X.env=(false,eval e X.env)::starEach es X.env:=by rfl):PA X (e::es) (tCons te t):=by
 intro pos pins s σ H Q I h
 rw[hs]
 show wpAny _ _ (spliced ((false,eval e X.env)::backTo pos (starEach es X.env))) _ _ s
 refine Calls.spliced_cons (cL (ha pins s σ H _ I h) λu s1 dH=>?_)
 obtain⟨x,H1,I1,r1,q1⟩:=dH
 exact cL (hr pos pins s1 σ H1 _ I1 q1) λus s2 ⟨xs,H2,I2,r2,q2⟩=>⟨x::xs,H2,I2,.cons r1 r2,q2⟩
noncomputable def tLst (t:TA):TE:=λσ H Q=>t σ H λxs H1=>xs.length<=sizeLine/\∀p,H1 p=none->Q (.ref p) (upd H1 p (.lst xs))
theorem bI (h:PA X es t):PE X (.List es pos) (tLst t):=by
 intro pins s σ H Q I hq
 refine wpAny_List_spliced (cL (h pos pins s σ H _ I hq) λus s1 ⟨xs,H1,I1,r,z,q⟩=>⟨by rw[<-r.length];exact z,?_⟩)
 have hf:H1 s1.heap.objs.size=none:=I1.bN.fresh (aaf _)
 refine⟨.ref s1.heap.objs.size,upd H1 s1.heap.objs.size (.lst xs),I1.laid (t':=s1.toks) (λb u e=>Heap.get?_push_of_some _ e) (aaf _) ?_,rfl,q _ hf⟩
 exact⟨z,us,0,r,Heap.get?_push_size _ rfl⟩
end
abbrev Sp:=List V->Hp->VK->XK->Prop
abbrev pd:=List Env->Hp->Shared->XK->Value->Shared->Prop
structure xZ (P:Program) (w:World) (K:PySem.W.Frag) (mg:Str->Option Value) (base:Heap) (A:Around) (outer:List Env) (s:Shared) (H:Hp):Prop where
 frames:A.frames=some outer
 mod:Mod K mg base
 bs:∀b o,base.get? b=some o->s.heap.get? b=some o/\H b=none
 BO:base.objs.size<=s.heap.objs.size
 mr:s.heap.FunFrames base outer
 Eo:∀b∈dY outer,H b=none
 bN:hJ P w H s.heap
 bare:AllBare s.gens
noncomputable def CE (outer:List Env) (P:Program) (w:World) (H:Hp) (s:Shared) (Q:VK) (u:Value) (s':Shared):Prop:=
 ∃v H',s'.os=s.os/\AllBare s'.gens/\Un (dY outer) [] H H' s.heap s'.heap/\hJ P w H' s'.heap/\RelV v u/\Q v H'
noncomputable def CR (CX:pd) (outer:List Env) (P:Program) (w:World) (H:Hp) (s:Shared) (Q:VK) (E:XK) (r:Result) (s':Shared):Prop:=
 match r with
 | .ok (.ret u)=>CE outer P w H s Q u s'
 | .ok _=>False
 | .error e=>CX outer H s E e s'
structure fX (P:Program) (w:World) (K:PySem.W.Frag) (mg:Str->Option Value) (base:Heap) (CX:pd) (k:Nat) (f:Addr) (fd:FuncData) (ps:List Str) (sp:Sp):Prop where
 len:∀vs H Q E,sp vs H Q E->vs.length=ps.length
 run:∀(A:Around) (outer:List Env) (s:Shared) (H:Hp) (args:Args) (us:List Value) (vs:List V) (Q:VK) (E:XK),dM k A->xZ P w K mg base A outer s H->BindsTo s fd args (ps.zip us)->bC vs us->sp vs H Q E->
  codeAny (model P w) A (.call (.ref f) args) (CR CX outer P w H s Q E) s
theorem fX.mono {P:Program} {w:World} {K:PySem.W.Frag} {mg:Str->Option Value} {base:Heap} {CX:pd} {j k:Nat} {f:Addr} {fd:FuncData} {ps:List Str} {sp:Sp} (F:fX P w K mg base CX j f fd ps sp) (h:j<=k):
  fX P w K mg base CX k f fd ps sp:=⟨F.len,λA outer s H args us vs Q E hr=>F.run A outer s H args us vs Q E (hr.mono h)⟩
theorem xZ.make {P:Program} {w:World} {K:PySem.W.Frag} {mg:Str->Option Value} {base:Heap} {A:Around} {outer:List Env} {s:Shared} {H:Hp} (e:xZ P w K mg base A outer s H) (C:Addr) (us:List Value) (kw:List (Str×Value)):
  xZ P w K mg base (A.under (.builtin "type.__call__" ⟨.ref C::us,kw⟩)) outer s H:=⟨by first | exact e.frames | (simpa [Around.under,Code.envs,Code.isFrame,pushEnvs] using e.frames),e.mod,e.bs,e.BO,e.mr,e.Eo,e.bN,e.bare⟩
section
variable {X : Cx} {pins : List (Addr × Obj)} {σ : St} {H : Hp} {s s' : Shared}
theorem Inv.B3 (I:Inv X pins σ H s):xZ X.prog X.w X.K X.mg X.base X.A X.stack s H:=
 ⟨I.ok.frames,I.ok.mod,I.bs,aar I.ok.BO I.sz,I.stack,I.pY,I.bN,I.bare⟩
theorem Inv.after {Q:VK} {u:Value} (I:Inv X pins σ H s) (h:CE X.stack X.prog X.w H s Q u s'):EP X pins σ Q u s':=by
 obtain⟨v,H',os,bare,un,bN,r,q⟩:=h
 obtain⟨hh,g,d,t,N8⟩:=s'
 obtain rfl:N8=s.os:=os
 exact⟨v,H',I.call (h':=hh) (g':=g) (d':=d) (t':=t) (ch:=[]) un bN bare (λb z=>absurd z (by simp)),r,q⟩
end
noncomputable def tCall (sp:Sp) (pf:List V) (E:XK) (t:TA):TE:=λσ H Q=>t σ H λvs H1=>sp (vs++pf) H1 Q E
noncomputable def cZ (C:Addr) (m:Str) (sp:Sp) (pf:List V) (E:XK) (ta:TE) (t:TA):TE:=λσ H Q=>ta σ H λx H1=>∃a dx fs,x=.ref a/\H1 a=some (.ins C dx fs)/\fs.lookup m=none/\
 t σ H1 λvs H2=>sp (x::(vs++pf)) H2 Q E
noncomputable def tK (C:Addr) (sp:Sp) (pf:List V) (E:XK) (t:TA):TE:=λσ H Q=>t σ H λvs H1=>∀x dx,H1 x=none->H1 dx=none->dx≠x->
 sp (.ref x::(vs++pf)) (upd (upd H1 dx (.own x)) x (.ins C dx [])) (λv H2=>v=.dG/\Q (.ref x) H2) E
noncomputable def Binds (K:PySem.W.Frag) (fd:FuncData) (ps:List Str) (ds:List Value):Prop:=
 ∀(s:Shared) (us:List Value),K.In s.heap->(us++ds).length=ps.length->BindsTo s fd ⟨us,[]⟩ (ps.zip (us++ds))
theorem Binds.all {K:PySem.W.Frag} {fd:FuncData} {ps:List Str} (h:∀us:List Value,us.length=ps.length->bindArgs fd ⟨us,[]⟩=pure (ps.zip us)):Binds K fd ps []:=λs us _ hl=>by
 rw[aaT] at hl ⊢
 exact .of_eq (h us hl)
noncomputable def eL (CX:pd) (X:Cx) (E:XK):Prop:=∀(pins:List (Addr×Obj)) (σ:St) (H:Hp) (s:Shared) (e:Value) (s':Shared),Inv X pins σ H s->CX X.stack H s E e s'->X.xe e s'
section
variable {X : Cx} {CX : pd} {k : Nat} {f C : Addr} {fd : FuncData} {ps : List Str} {sp : Sp} {pf : List V} {ds : List Value} {E : XK} {x m : Str} {p pos apos : Pos} {e o : Expr} {es : List Expr} {ta : TE} {t : TA}
theorem x6 {pins:List (Addr×Obj)} {σ:St} {H:Hp} {s:Shared} {Q:VK} {us:List Value} {vs:List V} (F:fX X.prog X.w X.K X.mg X.base CX k f fd ps sp) (hr:dM k X.A) (hb:Binds X.K fd ps ds) (hd:bC pf ds) (hx:eL CX X E)
  (I:Inv X pins σ H s) (r:bC vs us) (h:sp (vs++pf) H Q E):wpAny (model X.prog X.w) X.A (call (.ref f) us) (EP X pins σ Q) X.xe s:=by
 have r2:bC (vs++pf) (us++ds):=r.append hd
 have hl:(us++ds).length=ps.length:=by rw[<-r2.length];exact F.len _ _ _ _ h
 refine wpAny_call (codeAny_mono (F.run X.A X.stack s H ⟨us,[]⟩ (us++ds) (vs++pf) Q E hr I.B3 (hb s us I.lC hl) r2 h) λr s' hq=>?_)
 cases r with
 | error e=>exact hx pins σ H s e s' I hq
 | ok fl=>
  cases fl with
  | ret u=>exact I.after hq
  | next=>exact False.elim hq
  | brk=>exact False.elim hq
  | cont=>exact False.elim hq
theorem EC (F:fX X.prog X.w X.K X.mg X.base CX k f fd ps sp) (hr:dM k X.A) (hg:Gl X x) (hm:X.mg x=some (.ref f)) (hk:PySem.W.keepIn X.K (.ref f)=true) (hb:Binds X.K fd ps ds) (hd:bC pf ds) (hx:eL CX X E)
  (ha:PA X (e::es) t) (qr:(x==("__debug__":Str))=false:=by decide) (he:starEach (e::es) X.env=(false,eval e X.env)::starEach es X.env:=by rfl) (hpl:(backTo pos (starEach es X.env)).any (·.1)=false:=by rfl):
  PE X (.Call (.Name x p) (e::es) [] pos) (tCall sp pf E t):=by
 intro pins s σ H Q I h
 refine wpAny_Call_Name_kw (gI I hg hm ?_ qr)
 refine PySem.W.callWith_K (h₀:=X.base) I.ok.mod.Hi hk (cL (ha pos pins s σ H _ I h) λus s1 ⟨vs,H1,I1,r,q⟩=>⟨I1.lC,?_⟩) he hpl
 exact x6 F hr hb hd hx I1 r q
theorem ED {pl:Sem Bool} (he:PE X o ta) (c:zr X.K C) (hm:B2 X.K C m f) (F:fX X.prog X.w X.K X.mg X.base CX k f fd ps sp) (hr:dM k X.A) (hb:Binds X.K fd ps ds) (hd:bC pf ds) (hx:eL CX X E) (ha:PA X (e::es) t)
  (hst:starEach (e::es) X.env=(false,eval e X.env)::starEach es X.env:=by rfl) (hpl:(backTo pos (starEach es X.env)).any (·.1)=false:=by rfl)
  (ht:eval (.Call (.Attribute o m apos) (e::es) [] pos) X.env=(do
   let ov <-eval o X.env
   standAt apos.atName
   let (f,first) <-holding [ov] (getMethod ov m pl)
   callWith pos f first (backTo pos (starEach (e::es) X.env)) (backToKw pos (keywordEach [] X.env))):=by rfl):
  PE X (.Call (.Attribute o m apos) (e::es) [] pos) (cZ C m sp pf E ta t):=by
 intro pins s σ H Q I h
 refine PySem.W.methodCall_KW (pl:=pl) (cL (he pins s σ H _ I h) λu s1 dH=>?_) ht
 obtain⟨x,H1,I1,rx,a,dx,fs,ex,ea,l,q⟩:=dH
 subst ex
 obtain rfl:u=Value.ref a:=rx
 refine qq I1 ea c hm l ?_
 refine PySem.W.callWith_K (first:=[.ref a]) (h₀:=X.base) I.ok.mod.Hi hm.kp (cL (ha pos pins s1 σ H1 _ I1 q) λus s2 ⟨vs,H2,I2,r,q2⟩=>⟨I2.lC,?_⟩) hst hpl
 exact x6 (us:=.ref a::us) (vs:=.ref a::vs) F hr hb hd hx I2 (.cons rfl r) q2
theorem B4 {pl:Sem Bool} (he:PE X o ta) (c:zr X.K C) (hm:B2 X.K C m f) (F:fX X.prog X.w X.K X.mg X.base CX k f fd ps sp) (hr:dM k X.A) (hb:Binds X.K fd ps ds) (hd:bC pf ds) (hx:eL CX X E)
  (ht:eval (.Call (.Attribute o m apos) [] [] pos) X.env=(do
   let ov <-eval o X.env
   standAt apos.atName
   let (f,first) <-holding [ov] (getMethod ov m pl)
   callWith pos f first (backTo pos (starEach [] X.env)) (backToKw pos (keywordEach [] X.env))):=by rfl):
  PE X (.Call (.Attribute o m apos) [] [] pos) (cZ C m sp pf E ta tNil):=by
 intro pins s σ H Q I h
 refine PySem.W.methodCall_KW (pl:=pl) (cL (he pins s σ H _ I h) λu s1 dH=>?_) ht
 obtain⟨x,H1,I1,rx,a,dx,fs,ex,ea,l,q⟩:=dH
 subst ex
 obtain rfl:u=Value.ref a:=rx
 refine qq I1 ea c hm l ?_
 exact PySem.W.callWith_K0 (first:=[.ref a]) I1.lC hm.kp (x6 (us:=[.ref a]) (vs:=[.ref a]) F hr hb hd hx I1 (.cons rfl .nil) q)
structure Mk (K:PySem.W.Frag) (C f:Addr):Prop where
 makes:PySem.W.makesIn K C=true
 init:PySem.W.findIn K (.ref C) "__init__"=some (some (.ref f))
 fn:PySem.W.isFn K (.ref f)=true
 kp:PySem.W.keepIn K (.ref C)=true
theorem vS {pins:List (Addr×Obj)} {σ:St} {H:Hp} {s:Shared} {Q:VK} {us:List Value} {vs:List V} (M:Mk X.K C f) (F:fX X.prog X.w X.K X.mg X.base CX k f fd ps sp) (hr:dM (k+1) X.A) (hb:Binds X.K fd ps ds) (hd:bC pf ds)
  (hx:eL CX X E) (I:Inv X pins σ H s) (r:bC vs us)
  (h:∀x dx,H x=none->H dx=none->dx≠x->sp (.ref x::(vs++pf)) (upd (upd H dx (.own x)) x (.ins C dx [])) (λv H2=>v=.dG/\Q (.ref x) H2) E):
  wpAny (model X.prog X.w) X.A (call (.ref C) us) (EP X pins σ Q) X.xe s:=by
 have hq:=h (s.heap.objs.size+1) s.heap.objs.size (I.bN.fresh (Nat.le_succ _)) (I.bN.fresh (aaf _)) (aam (aaY _))
 have I2:=Inv.made (C:=C) I
 have r2:bC (V.ref (s.heap.objs.size+1)::(vs++pf)) (Value.ref (s.heap.objs.size+1)::(us++ds)):=.cons rfl (r.append hd)
 have hl:(Value.ref (s.heap.objs.size+1)::us++ds).length=ps.length:=by
  have e:=r2.length
  rw[F.len _ _ _ _ hq] at e
  exact e.symm
 refine wpAny_call (B1 (f:=f) I.lC M.makes M.init (beq_iff_eq.mp M.fn) (codeAny_mono (F.run _ X.stack _ _ ⟨Value.ref (s.heap.objs.size+1)::us,[]⟩ (Value.ref (s.heap.objs.size+1)::(us++ds)) _ _ E (hr.make C us [])
  (I2.B3.make C us []) (hb _ (Value.ref (s.heap.objs.size+1)::us) I2.lC hl) r2 hq) λr s' tL=>?_))
 cases r with
 | error e=>exact hx pins σ _ _ e s' I2 tL
 | ok fl=>
  cases fl with
  | ret u=>
   obtain⟨v,H',I3,rv,ev,q3⟩:=I2.after tL
   subst ev
   exact⟨rv,⟨V.ref (s.heap.objs.size+1),H',I3,rfl,q3⟩⟩
  | next=>exact False.elim tL
  | brk=>exact False.elim tL
  | cont=>exact False.elim tL
theorem EE (M:Mk X.K C f) (F:fX X.prog X.w X.K X.mg X.base CX k f fd ps sp) (hr:dM (k+1) X.A) (hg:Gl X x) (hm:X.mg x=some (.ref C)) (hb:Binds X.K fd ps ds) (hd:bC pf ds) (hx:eL CX X E)
  (ha:PA X (e::es) t) (qr:(x==("__debug__":Str))=false:=by decide) (he:starEach (e::es) X.env=(false,eval e X.env)::starEach es X.env:=by rfl) (hpl:(backTo pos (starEach es X.env)).any (·.1)=false:=by rfl):
  PE X (.Call (.Name x p) (e::es) [] pos) (tK C sp pf E t):=by
 intro pins s σ H Q I h
 refine wpAny_Call_Name_kw (gI I hg hm ?_ qr)
 refine PySem.W.callWith_K (h₀:=X.base) I.ok.mod.Hi M.kp (cL (ha pos pins s σ H _ I h) λus s1 ⟨vs,H1,I1,r,q⟩=>⟨I1.lC,?_⟩) he hpl
 exact vS M F hr hb hd hx I1 r q
theorem B5 (M:Mk X.K C f) (F:fX X.prog X.w X.K X.mg X.base CX k f fd ps sp) (hr:dM (k+1) X.A) (hg:Gl X x) (hm:X.mg x=some (.ref C)) (hb:Binds X.K fd ps ds) (hd:bC pf ds) (hx:eL CX X E)
  (qr:(x==("__debug__":Str))=false:=by decide):PE X (.Call (.Name x p) [] [] pos) (tK C sp pf E tNil):=by
 intro pins s σ H Q I h
 refine wpAny_Call_Name_kw (gI I hg hm ?_ qr)
 exact PySem.W.callWith_K0 I.lC M.kp (vS (us:=[]) M F hr hb hd hx I .nil h)
end
section
variable {X : Cx} {CX : pd} {k : Nat} {f C : Addr} {fd : FuncData} {ps ks : List Str} {sp : Sp} {E : XK} {x m : Str} {p pos apos Xz : Pos} {e o : Expr} {es : List Expr} {kws : List Keyword} {te ta : TE} {t tk : TA} {nm : Option Str}
structure N9 (K:PySem.W.Frag) (fd:FuncData) (ps ks:List Str) (g:List Value->List Value->List Value) (gV:List V->List V->List V):Prop where
 to:∀(s:Shared) (us ws:List Value),K.In s.heap->(g us ws).length=ps.length->BindsTo s fd ⟨us,ks.zip ws⟩ (ps.zip (g us ws))
 rel:∀{vs:List V} {us:List Value} {zs:List V} {ws:List Value},bC vs us->bC zs ws->bC (gV vs zs) (g us ws)
variable {g : List Value -> List Value -> List Value} {gV : List V -> List V -> List V}
end
structure aY (N P:List Str) (sc:Scope):Prop where
 kind:sc.kind=.function
 co:sc.isCoroutine=false
 gen:sc.isGenerator=false
 nd:N.Nodup
 pre:N.take P.length=P
 par:∀x∈P,sc.names.lookup x=some .local\/sc.names.lookup x=some .cell
 Hw:∀y∈sc.names,y.2≠.free
theorem tM {kindOf:Str->Option NameKind} {x:Str}:∀{binds:List (Str×Value)} {m:Str->Option Value},(∀v,(x,v)∉binds)->bindL kindOf binds m x=m x
 | [],_,_=>rfl
 | (n,v)::r,m,h=>by
  unfold bindL
  rw[tM λw hw=>h w (aal _ hw)]
  split
  ·have:x≠n:=by rintro rfl;exact h v aao
   simp [this]
  ·rfl
theorem tN {kindOf:Str->Option NameKind} {x:Str}:∀{binds:List (Str×Value)} {m:Str->Option Value},(∀v,(x,v)∉binds)->bindC kindOf binds m x=m x
 | [],_,_=>rfl
 | (n,v)::r,m,h=>by
  unfold bindC
  rw[tN λw hw=>h w (aal _ hw)]
  split
  ·rfl
  ·have:x≠n:=by rintro rfl;exact h v aao
   simp [this]
theorem tO {kindOf:Str->Option NameKind} {x:Str} {v:Value}:∀{P:List Str} {vs:List Value} {i:Nat} {m:Str->Option Value},P.Nodup->P[i]?=some x->vs[i]?=some v->kindOf x=some .local->
  bindL kindOf (P.zip vs) m x=some v
 | [],_,_,_,_,h,_,_=>by simp at h
 | _::_,[],_,_,_,_,h,_=>by simp at h
 | p::P,w::vs,0,m,nd,h1,h2,hk=>by
  simp at h1 h2;subst h1;subst h2
  show bindL kindOf ((p,w)::P.zip vs) m p=_
  unfold bindL
  rw[tM λv hv=>(List.nodup_cons.mp nd).1 (List.of_mem_zip hv).1,if_pos hk]
  simp
 | p::P,w::vs,i+1,m,nd,h1,h2,hk=>by
  show bindL kindOf ((p,w)::P.zip vs) m x=_
  unfold bindL
  exact tO (i:=i) (List.nodup_cons.mp nd).2 (by simpa using h1) (by simpa using h2) hk
theorem tP {kindOf:Str->Option NameKind} {x:Str} {v:Value}:∀{P:List Str} {vs:List Value} {i:Nat} {m:Str->Option Value},P.Nodup->P[i]?=some x->vs[i]?=some v->kindOf x≠some .local->
  bindC kindOf (P.zip vs) m x=some v
 | [],_,_,_,_,h,_,_=>by simp at h
 | _::_,[],_,_,_,_,h,_=>by simp at h
 | p::P,w::vs,0,m,nd,h1,h2,hk=>by
  simp at h1 h2;subst h1;subst h2
  show bindC kindOf ((p,w)::P.zip vs) m p=_
  unfold bindC
  rw[tN λv hv=>(List.nodup_cons.mp nd).1 (List.of_mem_zip hv).1,if_neg hk]
  simp
 | p::P,w::vs,i+1,m,nd,h1,h2,hk=>by
  show bindC kindOf ((p,w)::P.zip vs) m x=_
  unfold bindC
  exact tP (i:=i) (List.nodup_cons.mp nd).2 (by simpa using h1) (by simpa using h2) hk
noncomputable def start (N:List Str) (vs:List V):St:=vs.map some++List.replicate (N.length - vs.length) none
noncomputable def dN (CX:pd) (P:Program) (w:World) (K:PySem.W.Frag) (mg:Str->Option Value) (base:Heap) (N:List Str) (qual:Str) (scope:Scope) (f:Addr) (cd:Value) (A:Around) (outer:List Env) (s:Shared) (H:Hp) (E:XK):Cx where
 prog:=P
 w:=w
 K:=K
 mg:=mg
 base:=base
 A:=A.deeper (envOfC qual scope s.heap.objs.size f cd)
 N:=N
 s₀:=s
 H₀:=H
 env:=envOfC qual scope s.heap.objs.size f cd
 outer:=outer
 stack:=envOfC qual scope s.heap.objs.size f cd::outer
 ex:=[]
 calm:=true
 fn:=λ_=>true
 pn:=[]
 xe:=λe s'=>wpAny (model P w) (A.deeper (envOfC qual scope s.heap.objs.size f cd)) (leaving (envOfC qual scope s.heap.objs.size f cd) e) (λ_ sy=>CX outer H s E e sy) (λe' sy=>CX outer H s E e' sy) s'
theorem vT {sc:Scope} {n:Nat} {x:Str} (h:sc.names.lookup x=some .cell):∃c,(cellsFrom n sc.names []).lookup x=some c:=by
 have q:=PySem.W.cellsFrom_some sc.names n [] (.inl h)
 exact Option.isSome_iff_exists.mp q
theorem AN {CX:pd} {P:Program} {w:World} {K:PySem.W.Frag} {mg:Str->Option Value} {base:Heap} {N ps:List Str} {qual:Str} {scope:Scope} {f:Addr} {cd:Value} {A:Around} {outer:List Env} {s s1:Shared} {H:Hp} {E:XK} {us:List Value} {vs:List V}
  (S:aY N ps scope) (hd:A.handled=none) (e0:xZ P w K mg base A outer s H) (hl:vs.length=ps.length) (r:bC vs us)
  (x:InCallC s s.heap.objs.size (bindL (envOfC qual scope s.heap.objs.size f cd).kindOf (ps.zip us) λ_=>none) (cellsFrom (s.heap.objs.size+1) scope.names []) (bindC (envOfC qual scope s.heap.objs.size f cd).kindOf (ps.zip us) λ_=>none) s1):
  Inv (dN CX P w K mg base N qual scope f cd A outer s H E) [] (start N vs) H s1:=by
 have hpl:ps.length<=N.length:=by have:=congrArg List.length S.pre;rw[aaG] at this;omega
 obtain⟨h1,tk,rfl,hk⟩:=x.done
 have J9:∀b:Addr,b∉(dN CX P w K mg base N qual scope f cd A outer s H E).ex:=λb z=>absurd (show b∈([]:List Addr) from z) (by simp)
 refine⟨⟨e0.mod,S.kind,rfl,rfl,aaf _,λy z c h1 h2=>?_,λy hy=>?_,λy c _ h=>?_,λ_=>hd,Around.frames_deeper e0.frames,.inr ⟨rfl,rfl⟩,λb z=>absurd z (J9 b),e0.bs,e0.BO,λb _ _=>J9 b,λb z=>absurd z (J9 b),e0.mr,e0.Eo⟩,
  rfl,e0.bare,Un.kept hk,⟨_,x.toInCall.ns,λi y v h1 h2 h3=>?_⟩,λy c h=>⟨_,x.cell y c h⟩,e0.bN.fresh (aaf _),λy c h=>?_,λp hp=>absurd (show p∈([]:List (Addr×Obj)) from hp) (by simp),e0.bN.kept hk,?_⟩
 ·exact name_of_addr x.apart (aaU h1) (aaU h2)
 ·have hy:scope.names.lookup y=some .cell\/scope.names.lookup y=some .free:=hy
  rcases hy with hy | hy
  ·exact vT hy
  ·exact absurd rfl (S.Hw _ (aaU hy))
 ·exact Nat.le_of_lt (x.above y c (aaU h))
 ·have hi:i<vs.length:=by
   unfold start at h2
   by_cases hi:i<vs.length
   ·exact hi
   ·rw[aa9 (by simpa using hi)] at h2
    rw[List.getElem?_replicate] at h2
    split at h2 <;>cases h2
  have ha:vs[i]?=some v:=by
   unfold start at h2
   rw[aaZ (by simpa using hi),aae] at h2
   cases e:vs[i]? with
   | none=>rw[e] at h2;cases h2
   | some a=>rw[e] at h2;cases h2;rfl
  obtain⟨u,hu,rv⟩:=r.get ha
  have hp:ps[i]?=some y:=by
   rw[<-S.pre,List.getElem?_take_of_lt (by omega)];exact h1
  have Vg:ps.Nodup:=by rw[<-S.pre];exact S.nd.sublist (List.take_sublist _ _)
  refine⟨u,rv,?_⟩
  rcases S.par y (aaj hp) with k | k
  ·exact .inl ⟨k,tO Vg hp hu k⟩
  ·obtain⟨c,e⟩:=vT (n:=s.heap.objs.size+1) k
   refine .inr ⟨.inl k,c,e,?_⟩
   have q:=x.cell y c e
   rw[tP Vg hp hu (by show scope.names.lookup y≠_;rw[k];decide)] at q
   exact q
 ·exact e0.bN.fresh (Nat.le_of_lt (x.above y c (aaU h)))
 ·unfold start
  show _=N.length
  rw[aah,aad,List.length_replicate]
  omega
theorem Gu {CX:pd} {P:Program} {w:World} {K:PySem.W.Frag} {mg:Str->Option Value} {base:Heap} {k:Nat} {f:Addr} {name qual:Str} {params:Arguments} {body:List Stmt} {scope:Scope} {dV kV doc pm bZ ct oc:Value} {an od:Option Addr}
  {EF:Array (Option Value)} {N ps:List Str} {sp:Sp} (lk:K.lookup f=some ⟨oc,od,.func (PySem.W.fnOf name qual params body scope dV kV doc pm an bZ ct),EF⟩) (AF:PySem.W.codeIn K bZ qual=true) (S:aY N ps scope)
  (len:∀vs H Q E,sp vs H Q E->vs.length=ps.length)
  (vU:∀(A:Around) (outer:List Env) (s:Shared) (H:Hp) (vs:List V) (Q:VK) (E:XK),dM k (A.deeper (envOfC qual scope s.heap.objs.size f bZ))->sp vs H Q E->
   ∃t,tG (dN CX P w K mg base N qual scope f bZ A outer s H E) body t/\t {nx:=λ_ H'=>Q .dG H',rt:=Q} (start N vs) H):
  fX P w K mg base CX (k+1) f (PySem.W.fnOf name qual params body scope dV kV doc pm an bZ ct) ps sp:=by
 refine⟨len,λA outer s H args us vs Q E hr e0 hb r DZ=>?_⟩
 have hl:=len _ _ _ _ DZ
 have KX:K.In s.heap:=e0.mod.Hi.keeps λb o e=>(e0.bs b o e).1
 have lim:s.heap.NoLimit:=e0.mod.nolimit.keeps λb o e=>(e0.bs b o e).1
 have Ka:∀y∈ps.zip us,scope.names.lookup y.1=some .local\/(scope.names.lookup y.1=some .cell/\((cellsFrom (s.heap.objs.size+1) scope.names []).lookup y.1).isSome=true):=fun⟨n,v⟩ hy=>by
  rcases S.par n (List.of_mem_zip hy).1 with q | q
  ·exact .inl q
  ·exact .inr ⟨q,PySem.W.cellsFrom_some _ _ _ (.inl q)⟩
 refine codeAny_call_function hr.depth (KX _ _ lk) rfl S.co S.gen rfl (PySem.W.codeRec_of KX AF) (hb _ _ _ _ ?_)
 refine wpAny_newFunctionEnv_cells S.kind Ka λenv he s1 x=>?_
 subst he
 refine⟨lim.keeps x.toInCall.keep,codeAny_func ?_⟩
 obtain⟨t,ht,hq⟩:=vU A outer s H vs Q E (hr.deeper _) DZ
 have I:Inv (dN CX P w K mg base N qual scope f bZ A outer s H E) [] (start N vs) H s1:=AN S hr.hd e0 hl r x
 refine wpAny_mono (ht [] s1 (start N vs) H _ I hq) (λfl s' hs=>?_) λe s' hs=>hs
 have fin:∀{σ':St} {H':Hp} {v:V} {u:Value},Inv (dN CX P w K mg base N qual scope f bZ A outer s H E) [] σ' H' s'->RelV v u->Q v H'->CE outer P w H s Q u s':=
  λ{σ' H' v u} J rv q=>⟨v,H',J.os,J.bare,J.base,J.bN,rv,q⟩
 cases fl with
 | ret u=>
  obtain⟨v,σ',H',J,rv,q⟩:=hs
  exact fin J rv q
 | next=>
  obtain⟨σ',H',J,q⟩:=hs
  exact fin (v:=V.dG) (u:=Value.none) J rfl q
 | brk=>
  obtain⟨_,_,_,q⟩:=hs
  exact False.elim q
 | cont=>
  obtain⟨_,_,_,q⟩:=hs
  exact False.elim q
end L2
namespace L2
open PySem PySem.Spec PyProof.Rows
section
variable {X : Cx} {x : Str} {p pos : Pos} {e : Expr} {es : List Expr} {t : TA} {id T : String} {r : List V -> Hp -> VK -> Prop}
noncomputable def tCB (r:List V->Hp->VK->Prop) (t:TA):TE:=λσ H Q=>t σ H λvs H1=>r vs H1 Q
theorem bc (hc:dz X (.builtin id) r) (hg:Gl X x) (hm:X.mg x=none) (hv:bootBuiltins x=some (.builtin id)) (ha:PA X (e::es) t) (hn:x≠"__name__":=by decide) (qr:(x==("__debug__":Str))=false:=by decide)
  (he:starEach (e::es) X.env=(false,eval e X.env)::starEach es X.env:=by rfl) (hpl:(backTo pos (starEach es X.env)).any (·.1)=false:=by rfl):PE X (.Call (.Name x p) (e::es) [] pos) (tCB r t):=by
 intro pins s σ H Q I h
 refine wpAny_Call_Name_kw (gS I hg hm hv ?_ hn qr)
 exact PyProof.Rows.callWith_builtin1 (cL (ha pos pins s σ H _ I h) λus s1 ⟨vs,H1,I1,r1,q1⟩=>hc pins s1 σ H1 vs us Q I1 r1 q1) he hpl
theorem hV (hc:dz X (.type T) r) (hg:Gl X x) (hm:X.mg x=none) (hv:bootBuiltins x=some (.type T)) (ha:PA X (e::es) t) (hn:x≠"__name__":=by decide) (qr:(x==("__debug__":Str))=false:=by decide)
  (he:starEach (e::es) X.env=(false,eval e X.env)::starEach es X.env:=by rfl) (hpl:(backTo pos (starEach es X.env)).any (·.1)=false:=by rfl):PE X (.Call (.Name x p) (e::es) [] pos) (tCB r t):=by
 intro pins s σ H Q I h
 refine wpAny_Call_Name_kw (gS I hg hm hv ?_ hn qr)
 exact abe (cL (ha pos pins s σ H _ I h) λus s1 ⟨vs,H1,I1,r1,q1⟩=>hc pins s1 σ H1 vs us Q I1 r1 q1) he hpl
end
end L2
namespace HT
open PySem PyProof.Rows
section
open PySem.SeqAt
open PySem.AutoSeq1 (wpAny_loadPart')
open PySem.MeetsSeq PySem.MeetsSeq2 PySem.MeetsSeq3
end
section
variable {prog : Program} {w : World} {A : Around} {E : Value -> Shared -> Prop} {s : Shared}
theorem EG {t b:Addr} {vs ws:List Value} {Q:Value->Shared->Prop} (ht:IsTup s.heap t vs.toArray) (hb:IsTup s.heap b ws.toArray) (hv:vs≠[])
  (h1:ws=[]->Q (.ref t) s) (h2:ws≠[]->Q (.ref s.heap.objs.size) {s with heap:=s.heap.push {cls:=.type "tuple",data:=.seq (vs++ws).toArray}})
  (hsz:vs.length+ws.length<=sizeLine):wpAny (model prog w) A (binaryOp .Add (.ref t) (.ref b)) Q E s:=by
 obtain⟨⟨cls,dd,data,sl⟩,ho,hc,n,hd⟩:=id ht
 obtain⟨⟨XA,Vh,data2,x8⟩,M6,M7,n2,hd2⟩:=id hb
 simp only at hc hd M7 hd2
 subst hc hd M7 hd2
 have e:vs.toArray++ws.toArray=(vs++ws).toArray:=by simp
 by_cases hw:ws=[]
 ·exact concat_meets ⟨_,ho,rfl⟩ ⟨_,M6,rfl⟩ noFill_tuple_add seq_tuple_add PySem.F.slot_tuple_add PySem.F.entry_tuple_add (PySem.F.args_tuple_add_2 _ _)
   (tuple_addW1 t b vs.toArray ws.toArray n n2 dd Vh sl x8 (by simpa using hv) (by simp [hw])) ⟨ho,M6,h1 hw⟩
 ·refine concat_meets ⟨_,ho,rfl⟩ ⟨_,M6,rfl⟩ noFill_tuple_add seq_tuple_add PySem.F.slot_tuple_add PySem.F.entry_tuple_add (PySem.F.args_tuple_add_2 _ _)
   (tuple_addW2 t b vs.toArray ws.toArray n n2 dd Vh sl x8 (by simpa using hv) (by simpa using hw) (by rw[aaq,aaq];exact hsz)) ⟨ho,M6,?_⟩
  rw[e]
  exact h2 hw
noncomputable def fh (n d:Nat):Option Int->Nat
 | none=>d
 | some v=>if v<0 then (v+ (n:Int)).toNat else min v.toNat n
theorem vV (n d:Nat):fh n d none=d:=rfl
theorem zt (n d k:Nat):fh n d (some (k:Int))=min k n:=by
 show(if (k:Int)<0 then ((k:Int)+ (n:Int)).toNat else min (k:Int).toNat n)=min k n
 rw[if_neg (by omega),aaQ]
theorem Hx (n d:Nat) (hd:d<=n) (o:Option Int):fh n d o<=n:=by
 cases o with
 | none=>exact hd
 | some v=>
  show(if v<0 then (v+ (n:Int)).toNat else min v.toNat n)<=n
  by_cases hv:v<0
  ·rw[if_pos hv];omega
  ·rw[if_neg hv];exact Nat.min_le_right _ _
theorem zu (v:Int) (n d:Nat):(if v<0 then max (v+ (n:Int)) 0 else min v (n:Int))=((fh n d (some v):Nat):Int):=by
 show(if v<0 then max (v+ (n:Int)) 0 else min v (n:Int))=(((if v<0 then (v+ (n:Int)).toNat else min v.toNat n):Nat):Int)
 by_cases hv:v<0
 ·simp only[if_pos hv];omega
 ·simp only[if_neg hv];omega
theorem x9 (lo hi:Option Int) (n:Nat):Builtin.Slice.sliceAdjust lo hi 1 (n:Int)=(((fh n 0 lo:Nat):Int),((fh n n hi:Nat):Int)):=by
 have h1:¬((1:Int)<0):=by omega
 unfold Builtin.Slice.sliceAdjust
 simp only[h1,if_false]
 refine Prod.ext ?_ ?_
 ·cases lo with
  | none=>rfl
  | some v=>exact zu v n 0
 ·cases hi with
  | none=>rfl
  | some v=>exact zu v n n
theorem ya (i j:Nat):Builtin.Slice.slicePlaces (i:Int) (j:Int) 1=j - i:=by
 unfold Builtin.Slice.slicePlaces
 have h1:(1:Int) >0:=by omega
 simp only[h1,if_true,Int.ediv_one]
 split <;>omega
theorem qu {v:Value} {o:Option Int} {Q:Option Int->Shared->Prop} (p:IsPart v o) (h:Q o s):wpAny (model prog w) A (Builtin.Slice.slicePartIndex v) Q E s:=by
 cases p with
 | none=>exact slicePart_none h
 | int i t=>exact slicePart_int h
theorem nP {sl:Addr} {vl vu:Value} {lo hi:Option Int} {n:Nat} {Q:Int×Int×Nat->Shared->Prop} (hs:s.heap.IsSliceOf sl vl vu .none) (pl:IsPart vl lo) (pu:IsPart vu hi)
  (h:Q (((fh n 0 lo:Nat):Int),1,fh n n hi - fh n 0 lo) s):wpAny (model prog w) A (Builtin.Slice.sliceApplied (.ref sl) (pure (n:Int))) Q E s:=by
 obtain⟨os,Kb,Vi,M8⟩:=id hs
 unfold Builtin.Slice.sliceApplied Builtin.Slice.sliceFields
 refine wpAny_bind (wpAny_bind (wpAny_field Kb M8 (x:=vl) rfl (wpAny_bind (wpAny_field Kb M8 (x:=vu) rfl (wpAny_bind (wpAny_field Kb M8 (x:=.none) rfl (wpAny_pure ?_)))))))
 refine wpAny_bind (slicePart_none ?_)
 show wpAny _ _ (if ((1:Int)==0)=true then _ else _) _ _ s
 rw[if_neg (by decide)]
 refine wpAny_bind (qu pl (wpAny_bind (qu pu (wpAny_bind (wpAny_pure ?_)))))
 show wpAny _ _ (match Builtin.Slice.sliceAdjust lo hi 1 (n:Int) with | (lo,hi)=>pure (lo,(1:Int),Builtin.Slice.slicePlaces lo hi 1)) _ _ s
 rw[x9 lo hi n]
 show wpAny _ _ (pure (((fh n 0 lo:Nat):Int),(1:Int),Builtin.Slice.slicePlaces ((fh n 0 lo:Nat):Int) ((fh n n hi:Nat):Int) 1)) _ _ s
 rw[ya]
 exact wpAny_pure h
theorem B6 (xs:Array Value) (i k:Nat):((List.range k).filterMap fun(m:Nat)=>xs[((i:Int)+ (m:Int)*1).toNat]?).toArray=((xs.toList.drop i).take k).toArray:=by
 have e:(fun(m:Nat)=>xs[((i:Int)+ (m:Int)*1).toNat]?)=λm=>xs[i+m]?:=by
  funext m
  have:((i:Int)+ (m:Int)*1).toNat=i+m:=by omega
  rw[this]
 rw[e]
 have:=pick_run xs i k
 rw[List.filterMap_map] at this
 have e2:((λx=>xs[x]?) ∘λx=>i+x)=λm=>xs[i+m]?:=rfl
 rw[e2] at this
 rw[this]
theorem mB {t sl:Addr} {items:Array Value} {vl vu:Value} {lo hi:Option Int} {Q:Value->Shared->Prop} (ht:IsTup s.heap t items) (hs:s.heap.IsSliceOf sl vl vu .none) (pl:IsPart vl lo) (pu:IsPart vu hi)
  (hw:¬(fh items.size 0 lo=0/\fh items.size items.size hi=items.size))
  (h:Q (.ref s.heap.objs.size) {s with heap:=s.heap.push {cls:=.type "tuple",data:=.seq ((items.toList.drop (fh items.size 0 lo)).take (fh items.size items.size hi - fh items.size 0 lo)).toArray}})
  (hsz:items.size<=sizeLine):wpAny (model prog w) A (getItem (.ref t) (.ref sl)) Q E s:=by
 have zv:sizeOk (.seq ((items.toList.drop (fh items.size 0 lo)).take (fh items.size items.size hi - fh items.size 0 lo)).toArray):=by
  show((items.toList.drop (fh items.size 0 lo)).take (fh items.size items.size hi - fh items.size 0 lo)).toArray.size<=sizeLine
  rw[aaq,aaG,aa0,Array.length_toList]
  omega
 have hj:fh items.size items.size hi<=items.size:=Hx _ _ (aaf _) hi
 obtain⟨os,Kb,Vi,M8⟩:=id hs
 have XB:s.TypeIs (.ref sl) "slice":=⟨os,Kb,Vi⟩
 unfold getItem
 try with_reducible refine wpAny_holding ?_
 first | refine wpAny_bind (wpAny_pure ?_) | skip
 refine wpAny_bind (wpAny_sequenceKey ht.typeIs (by decide) ?_)
 refine wpAny_bind (wpAny_callSpecial?_slot (name:=Str.ofString "__getitem__") ht.typeIs PyProof.Rows.slot_tuple_getitem
  (wpAny_call_entry PyProof.Rows.slot_tuple_getitem ht.typeIs entry_tuple_getitem ?_ (args_tuple_getitem _ _)))
 show wpAny _ _ (Builtin.Tuple.tupleItemsOf (.ref t) >>=_) _ _ s
 refine wpAny_bind (tupleItemsOf_ ht ?_)
 refine wpAny_bind (wpAny_typeOf XB ?_)
 rw[if_pos (by decide)]
 refine wpAny_bind (nP hs pl pu ?_)
 have XC:¬((((fh items.size 0 lo:Nat):Int)==0 && (1:Int)==1 && (fh items.size items.size hi - fh items.size 0 lo)==items.size)=true):=by
  intro q
  rw[aaI,aaI] at q
  have q1:((fh items.size 0 lo:Nat):Int)=0:=eq_of_beq q.1.1
  have q2:fh items.size items.size hi - fh items.size 0 lo=items.size:=eq_of_beq q.2
  exact hw ⟨by omega,by omega⟩
 show wpAny _ _ (if (((fh items.size 0 lo:Nat):Int)==0 && (1:Int)==1 && (fh items.size items.size hi - fh items.size 0 lo)==items.size)=true then _ else _) _ _ s
 rw[if_neg XC,B6]
 first
  | exact wpAny_bind (m:=Builtin.Tuple.tupleExact _) (wpAny_newObj_type (wpAny_pure ⟨_,rfl,wpAny_pure h⟩) zv)
  | exact wpAny_bind (m:=Builtin.Tuple.tupleExact _) (wpAny_newObj_type (wpAny_bind (wpAny_pure (wpAny_pure ⟨_,rfl,wpAny_pure h⟩))) zv)
  | exact wpAny_bind (wpAny_bind (m:=Builtin.Tuple.tupleExact _) (wpAny_newObj_type (wpAny_pure (wpAny_pure ⟨_,rfl,wpAny_pure h⟩)) zv))
  | exact wpAny_bind (wpAny_bind (m:=Builtin.Tuple.tupleExact _) (wpAny_newObj_type (wpAny_pure ⟨_,rfl,wpAny_pure h⟩) zv))
end
end HT
namespace L2
open PySem PySem.Spec PyProof.Rows
abbrev TO:=St->Hp->(Option Int->Hp->Prop)->Prop
noncomputable def PO (X:Cx) (e:Option Expr) (t:TO):Prop:=
 ∀(pins:List (Addr×Obj)) (s:Shared) (σ:St) (H:Hp) (Q:Option Int->Hp->Prop),Inv X pins σ H s->t σ H Q->
  wpAny (model X.prog X.w) X.A (evalPart e X.env) (λu s'=>∃o H',Inv X pins σ H' s'/\IsPart u o/\Q o H') X.xe s
noncomputable def tNoPart:TO:=λ_ H Q=>Q none H
noncomputable def tPart (t:TE):TO:=λσ H Q=>t σ H λx H1=>∃i,x=.int i/\Q (some i) H1
theorem intsAre_of {ns:List Int}:∀{us:List Value},bC (ns.map V.int) us->IntsAre us ns:=by
 induction ns with
 | nil=>intro us r;rw[aaL] at r;cases r;exact .nil
 | cons n ns ih=>
  intro us r
  rw[aag] at r
  cases r with
  | cons r1 r2=>
   obtain⟨t,e⟩:=r1
   subst e
   exact .cons n t (ih r2)
section
variable {X : Cx} {e : Expr} {te : TE} {lo hi : Option Expr} {tl th : TO} {pos p2 : Pos}
theorem eE:PO X none tNoPart:=by
 intro pins s σ H Q I h
 rw[evalPart_none]
 exact wpAny_pure ⟨none,H,I,.none,h⟩
theorem eF (h:PE X e te):PO X (some e) (tPart te):=by
 intro pins s σ H Q I hw
 rw[evalPart_some]
 refine cL (h pins s σ H _ I hw) λu s1 dH=>?_
 obtain⟨x,H1,I1,r1,q1⟩:=dH
 obtain⟨i,rfl,q⟩:=q1
 obtain⟨t,rfl⟩:=r1
 exact⟨some i,H1,I1,.int i t,q⟩
noncomputable def Kc (X:Cx) (r:V->Option Int->Option Int->Hp->VK->Prop):Prop:=
 ∀(pins:List (Addr×Obj)) (s:Shared) (σ:St) (H:Hp) (x:V) (v vl vu:Value) (lo hi:Option Int) (sl:Addr) (Q:VK),Inv X pins σ H s->RelV x v->s.heap.IsSliceOf sl vl vu .none->IsPart vl lo->IsPart vu hi->r x lo hi H Q->
  ∃T id,typeLookup (.type T) "__getitem__"=pure (some (.builtin id))/\s.TypeIs v T/\wpAny (model X.prog X.w) X.A (getItem v (.ref sl)) (EP X pins σ Q) X.xe s
noncomputable def tSl (r:V->Option Int->Option Int->Hp->VK->Prop) (te:TE) (tl th:TO):TE:=λσ H Q=>te σ H λx H1=>tl σ H1 λl H2=>th σ H2 λu H3=>r x l u H3 Q
theorem dA {r:V->Option Int->Option Int->Hp->VK->Prop} (hr:Kc X r) (he:PE X e te) (hl:PO X lo tl) (hu:PO X hi th):PE X (.Subscript e (.Slice lo hi none p2) pos) (tSl r te tl th):=by
 intro pins s σ H Q I h
 refine Subscript_ (cL (he pins s σ H _ I h) λv s1 dH=>?_)
 obtain⟨x,H1,I1,r1,q1⟩:=dH
 refine wpAny_Slice (cL (hl pins s1 σ H1 _ I1 q1) λvl s2 ⟨l,H2,I2,pl,q2⟩=>cL (hu pins s2 σ H2 _ I2 q2) λvu s3 dH=>?_)
 obtain⟨u,H3,I3,pu,q3⟩:=dH
 rw[evalPart_none]
 refine wpAny_pure ?_
 have I4:Inv X pins σ H3 {s3 with heap:=s3.heap.push {cls:=.type "slice",data:=.fields #[vl,vu,.none]}}:=I3.kept (t':=s3.toks) λb ob q=>Heap.get?_push_of_some _ q
 obtain⟨T,id,hT,ht,hg⟩:=hr pins {s3 with heap:=s3.heap.push {cls:=.type "slice",data:=.fields #[vl,vu,.none]}} σ H3 x v vl vu l u s3.heap.objs.size Q I4 r1 (Heap.IsSliceOf.new ..) pl pu q3
 show wpAny (model X.prog X.w) X.A (subscriptTail e (.Slice lo hi none p2) v (.ref s3.heap.objs.size)) (EP X pins σ Q) X.xe {s3 with heap:=s3.heap.push {cls:=.type "slice",data:=.fields #[vl,vu,.none]}}
 exact tail_any (ops:=[.ref s3.heap.objs.size,v]) ht hT hg (by with_unfolding_all rfl)
noncomputable def je (xs:List V) (lo hi:Option Int):List V:=(xs.drop (HT.fh xs.length 0 lo)).take (HT.fh xs.length xs.length hi - HT.fh xs.length 0 lo)
theorem dI (xs:List V) (lo hi:Option Int):(je xs lo hi).length<=xs.length:=by
 unfold je
 rw[aaG,aa0]
 omega
noncomputable def Oa (K:PySem.W.Frag):V->Option Int->Option Int->Hp->VK->Prop:=λx lo hi H Q=>∃a xs,x=.ref a/\gh K H a xs/\
 ¬(HT.fh xs.length 0 lo=0/\HT.fh xs.length xs.length hi=xs.length)/\∀p,H p=none->Q (.ref p) (upd H p (.tup (je xs lo hi)))
theorem B7:Kc X (Oa X.K):=by
 intro pins s σ H x v vl vu lo hi sl Q I rx hs pl pu h
 obtain⟨a,xs,rfl,hx,hw,q⟩:=h
 cases rx
 obtain⟨bA,r,ht,hz⟩:=I.tuple hx
 have hlen:bA.toArray.size=xs.length:=by rw[aaq];exact r.length.symm
 refine⟨"tuple",_,PyProof.Rows.slot_tuple_getitem.lookup,ht.typeIs,?_⟩
 refine HT.mB ht hs pl pu (by rw[hlen];exact hw) ?_ (by rw[hlen];exact hz)
 rw[hlen]
 refine⟨.ref s.heap.objs.size,_,I.laid (t':=s.toks) (o:=.tup (je xs lo hi)) (λb ob q=>Heap.get?_push_of_some _ q) (aaf _) ?_,rfl,q _ (I.bN.fresh (aaf _))⟩
 exact⟨aar (dI xs lo hi) hz,_,(r.drop (HT.fh xs.length 0 lo)).take (HT.fh xs.length xs.length hi - HT.fh xs.length 0 lo),IsTup.new _ _⟩
noncomputable def vW (K:PySem.W.Frag):R2:=λx y H Q=>∃a b xs ys,x=.ref a/\y=.ref b/\gh K H a xs/\gh K H b ys/\xs≠[]/\xs.length+ys.length<=sizeLine/\
 (ys=[]->Q (.ref a) H)/\(ys≠[]->∀p,H p=none->Q (.ref p) (upd H p (.tup (xs++ys))))
theorem bC.uA {xs:List V} {us:List Value} (r:bC xs us):us=[]↔xs=[]:=by
 cases r with
 | nil=>simp
 | cons _ _=>simp
theorem EH:my X (binaryOp .Add) (vW X.K):=by
 intro pins s σ H x y v u Q I rx ry h
 obtain⟨a,b,xs,ys,rfl,rfl,ha,hb,hx,hz,q1,q2⟩:=h
 cases rx
 cases ry
 obtain⟨bA,r1,p1,_⟩:=I.tuple ha
 obtain⟨i6,r2,p2,_⟩:=I.tuple hb
 refine HT.EG p1 p2 (λz=>hx (r1.uA.mp z)) (λz=>⟨.ref a,H,I,rfl,q1 (r2.uA.mp z)⟩) (λz=>?_) (by rw[<-r1.length,<-r2.length];exact hz)
 refine⟨.ref s.heap.objs.size,_,I.laid (t':=s.toks) (o:=.tup (xs++ys)) (λb ob q=>Heap.get?_push_of_some _ q) (aaf _) ?_,rfl,q2 (λw=>z (r2.uA.mpr w)) _ (I.bN.fresh (aaf _))⟩
 exact⟨by rw[aah];exact hz,_,r1.append r2,IsTup.new _ _⟩
end
end L2
namespace L2
open PySem PySem.Spec PyProof.Rows
noncomputable def EI (n:Nat) (i:Int):Option Nat:=if 0<=i then (if i<n then some i.toNat else none) else if -(n:Int)<=i then some (i+n).toNat else none
noncomputable def jV {α:Type} (xs:List α) (i:Int):Option α:=(EI xs.length i).bind λj=>xs[j]?
theorem zw {n:Nat} {i:Int} {j:Nat} (h:EI n i=some j):seqIndex? i n=some j/\j<n/\-(n:Int)<=i/\i<n:=by
 unfold EI at h
 by_cases h0:0<=i
 ·rw[if_pos h0] at h
  by_cases h1:i<n
  ·rw[if_pos h1] at h
   have e:i.toNat=j:=aaF h
   exact⟨by rw[seqIndex_of h0 h1,e],by omega,by omega,h1⟩
  ·rw[if_neg h1] at h;cases h
 ·rw[if_neg h0] at h
  by_cases h1:-(n:Int)<=i
  ·rw[if_pos h1] at h
   have e:(i+n).toNat=j:=aaF h
   exact⟨by rw[seqIndex_neg (by omega) h1,e],by omega,h1,by omega⟩
  ·rw[if_neg h1] at h;cases h
theorem zx {α:Type} {xs:List α} {i:Int} {v:α} (h:jV xs i=some v):∃j,seqIndex? i xs.length=some j/\xs[j]?=some v/\j<xs.length/\-(xs.length:Int)<=i/\i<xs.length:=by
 unfold jV at h
 cases e:EI xs.length i with
 | none=>rw[e] at h;cases h
 | some j=>
  rw[e] at h
  obtain⟨h1,h2,h3,h4⟩:=zw e
  exact⟨j,h1,h,h2,h3,h4⟩
theorem dj {α:Type} {xs:List α} {j:Nat} {v:α} (h:xs[j]?=some v):jV xs (j:Int)=some v:=by
 have hj:j<xs.length:=(List.getElem?_eq_some_iff.mp h).1
 have e:EI xs.length (j:Int)=some j:=by
  unfold EI
  rw[if_pos (by omega),if_pos (by omega)];simp
 unfold jV;rw[e];exact h
noncomputable def EJ (b:Expr):Prop:=∀o i,subscripted b false o i=operate [o,i] (getItem o i)
noncomputable def Gv (X:Cx) (r:R2):Prop:=
 ∀(value slice:Expr) (pins:List (Addr×Obj)) (s:Shared) (σ:St) (H:Hp) (x y:V) (v u:Value) (Q:VK),Inv X pins σ H s->RelV x v->RelV y u->r x y H Q->
  subscripted slice false v u=operate [v,u] (getItem v u)->wpAny (model X.prog X.w) X.A (subscriptTail value slice v u) (EP X pins σ Q) X.xe s
noncomputable def Ob (X:Cx) (id:String) (r:V->List V->Hp->VK->Prop):Prop:=
 ∀(pins:List (Addr×Obj)) (s:Shared) (σ:St) (H:Hp) (x:V) (xs:List V) (v:Value) (us:List Value) (Q:VK),Inv X pins σ H s->RelV x v->bC xs us->r x xs H Q->
  wpAny (model X.prog X.w) X.A (call (.builtin id) (v::us)) (EP X pins σ Q) X.xe s
section
variable {X : Cx} {a b : Expr} {ta tb : TE} {pos : Pos}
theorem aF {r:R2} (hr:Gv X r) (ha:PE X a ta) (hb:PE X b tb) (hs:EJ b):PE X (.Subscript a b pos) (tOp r ta tb):=by
 intro pins s σ H Q I h
 exact Subscript_ (Ht ha hb I h λv u s2 x y H2 I2 rx ry q=>hr a b pins s2 σ H2 x y v u Q I2 rx ry q (hs _ _))
noncomputable def Oc (K:PySem.W.Frag):R2:=λx y H Q=>∃p xs i v,x=.ref p/\y=.int i/\bD K H p xs/\jV xs i=some v/\Q v H
noncomputable def Od (K:PySem.W.Frag):R2:=λx y H Q=>∃p xs i v,x=.ref p/\y=.int i/\gh K H p xs/\jV xs i=some v/\Q v H
theorem zy:Gv X (Oc X.K):=by
 intro value slice pins s σ H x y v u Q I rx ry h hs
 obtain⟨p,xs,i,z,rfl,rfl,hq,he,q⟩:=h
 cases rx
 obtain⟨t,rfl⟩:=ry
 obtain⟨bA,r,pl,hz⟩:=I.list hq
 obtain⟨j,h1,h2,h3,h4,h5⟩:=zx he
 obtain⟨w,ew,AO⟩:=r.get h2
 have hl:=r.length
 have hn:=uy
 have fin:EP X pins σ Q w s:=⟨z,H,I,AO,q⟩
 by_cases h0:0<=i
 ·have hj:i.toNat=j:=by
   rw[seqIndex_of h0 h5] at h1
   exact aaF h1
  exact item_listR pl.isList h0 (by omega) (by rw[hj];simpa using ew) fin hs
 ·have hj:(i+ (bA.toArray.size:Int)).toNat=j:=by
   rw[seqIndex_neg (by omega) h4] at h1
   rw[aaq,<-hl]
   exact aaF h1
  exact subscriptTail_builtinR (x:=w) pl.isList.typeIs slot_list_getitem.lookup
   (wpAny_getItem_list_neg (Q:=λr s'=>r=w/\EP X pins σ Q r s') pl.isList (by omega) (by rw[aaq] <;>omega) (by omega) (by rw[hj];simpa using ew) ⟨rfl,fin⟩) hs
theorem Hy:Gv X (Od X.K):=by
 intro value slice pins s σ H x y v u Q I rx ry h hs
 obtain⟨p,xs,i,z,rfl,rfl,hq,he,q⟩:=h
 cases rx
 obtain⟨t,rfl⟩:=ry
 obtain⟨bA,r,pl,hz⟩:=I.tuple hq
 obtain⟨j,h1,h2,h3,h4,h5⟩:=zx he
 obtain⟨w,ew,AO⟩:=r.get h2
 have hl:=r.length
 have hn:=uy
 have fin:EP X pins σ Q w s:=⟨z,H,I,AO,q⟩
 exact subscriptTail_builtinR (x:=w) pl.typeIs slot_tuple_getitem.lookup
  (getItem_tuple (j:=j) (Q:=λr s'=>r=w/\EP X pins σ Q r s') pl (by omega) (by omega) (by rw[aaq,<-hl];exact h1) (by simpa using ew) ⟨rfl,fin⟩) hs
theorem yb (bA:List Value) (n j:Nat) (u:Value):Obj.mapSeq (·.setIfInBounds j u) {cls:=.type "list",data:=.seq bA.toArray n}={cls:=.type "list",data:=.seq (bA.set j u).toArray n}:=by
 simp [Obj.mapSeq]
theorem Inv.lst {pins:List (Addr×Obj)} {σ:St} {H:Hp} {s:Shared} {p:Addr} {xs:List V} (I:Inv X pins σ H s) (h:H p=some (.lst xs)):
  ∃(bA:List Value) (n:Nat),bC xs bA/\s.heap.get? p=some {cls:=.type "list",data:=.seq bA.toArray n}/\xs.length<=sizeLine:=by
 obtain⟨z,bA,n,r,e⟩:=I.bN p _ h
 exact⟨bA,n,r,e,z⟩
theorem Inv.Hz {pins:List (Addr×Obj)} {σ:St} {H:Hp} {s:Shared} {p:Addr} {xs ys:List V} {bA its':List Value} {n n':Nat} {f:Obj->Obj} (I:Inv X pins σ H s) (h:H p=some (.lst xs))
  (ho:s.heap.get? p=some {cls:=.type "list",data:=.seq bA.toArray n}) (hf:f {cls:=.type "list",data:=.seq bA.toArray n}={cls:=.type "list",data:=.seq its'.toArray n'}) (r:bC ys its') (hz:ys.length<=sizeLine) (t:Nat):
  Inv X pins σ (upd H p (.lst ys)) {s with heap:=s.heap.update p f,toks:=t}:=by
 have e:(s.heap.update p f).get? p=some {cls:=.type "list",data:=.seq its'.toArray n'}:=by
  rw[Heap.get?_update_self f ho (by rw[hf] <;>rfl),hf]
 refine I.write (x:=p) (e:=p) (by rw[h];trivial) (.inl rfl) (λb u hb q=>(Heap.get?_update_other _ _ (Ne.symm hb)).trans q) ⟨_,e⟩ ?_
 exact⟨hz,its',n',r,e⟩
noncomputable def rSetL:V->V->V->Hp->(Hp->Prop)->Prop:=λo i v H Q=>∃p xs k j,o=.ref p/\i=.int k/\H p=some (.lst xs)/\EI xs.length k=some j/\Q (upd H p (.lst (xs.set j v)))
theorem set_list:J4 X rSetL:=by
 intro pins s σ H o i v ov iv u Q I ro ri rv h
 obtain⟨p,xs,k,j,rfl,rfl,hp,hj,q⟩:=h
 cases ro
 obtain⟨t,rfl⟩:=ri
 obtain⟨bA,n,r,ho,hz⟩:=I.lst hp
 obtain⟨h1,h2,h3,h4⟩:=zw hj
 have hl:=r.length
 have hn:=uy
 have I':Inv X pins σ (upd H p (.lst (xs.set j v))) {s with heap:=s.heap.update p (Obj.mapSeq (·.setIfInBounds j u))}:=
  I.Hz hp ho (yb bA n j u) (r.set rv j) (by rw[List.length_set];exact hz) s.toks
 by_cases h0:0<=k
 ·have hk:k.toNat=j:=by
   rw[seqIndex_of h0 h4] at h1
   exact aaF h1
  exact PySem.W.ki_setAt ho h0 (by omega) (by rw[aaq,<-hl];exact h4) (by rw[hk];exact⟨_,I',q⟩)
 ·have hk:(k+ (bA.toArray.size:Int)).toNat=j:=by
   rw[seqIndex_neg (by omega) h3] at h1
   rw[aaq,<-hl]
   exact aaF h1
  exact PySem.W.ki_setBack ho (by omega) (by rw[aaq,<-hl];exact h3) (by omega) (by rw[hk];exact⟨_,I',q⟩)
theorem uB (lo hi:Option Int) (n:Nat):(sliceBounds lo hi none n).1=((HT.fh n 0 lo:Nat):Int)/\(sliceBounds lo hi none n).2.1=((HT.fh n n hi:Nat):Int)/\(sliceBounds lo hi none n).2.2=1:=by
 refine⟨?_,?_,rfl⟩
 ·cases lo with
  | none=>simp [sliceBounds,HT.fh]
  | some i=>
   simp only[sliceBounds,HT.fh,Option.getD_none,show(1:Int) >0 by decide,if_true]
   by_cases h:i<0
   ·simp only[h,if_true] <;>omega
   ·simp only[h,if_false] <;>omega
 ·cases hi with
  | none=>simp [sliceBounds,HT.fh]
  | some i=>
   simp only[sliceBounds,HT.fh,Option.getD_none,show(1:Int) >0 by decide,if_true]
   by_cases h:i<0
   ·simp only[h,if_true] <;>omega
   ·simp only[h,if_false] <;>omega
theorem sC (bA:List Value) (lo hi:Option Int):slicePick bA.toArray lo hi none=((bA.drop (HT.fh bA.length 0 lo)).take (HT.fh bA.length bA.length hi - HT.fh bA.length 0 lo)).toArray:=by
 obtain⟨h1,h2,h3⟩:=uB lo hi bA.toArray.size
 unfold slicePick
 rw[h1,h2,h3]
 simp only[sliceRange_one,pick_run,aaq] <;>rfl
noncomputable def rSlL (K:PySem.W.Frag):V->Option Int->Option Int->Hp->VK->Prop:=λx lo hi H Q=>∃a xs,x=.ref a/\bD K H a xs/\∀p,H p=none->Q (.ref p) (upd H p (.lst (je xs lo hi)))
theorem EK:Kc X (rSlL X.K):=by
 intro pins s σ H x v vl vu lo hi sl Q I rx hs pl pu h
 obtain⟨a,xs,rfl,hx,q⟩:=h
 cases rx
 obtain⟨bA,r,ht,hz⟩:=I.list hx
 have hlen:=r.length
 refine⟨"list",_,slot_list_getitem.lookup,ht.isList.typeIs,?_⟩
 refine wpAny_getItem_list_slice ht.isList hs pl pu .none (by simp) ?_ (by rw[aaq] <;>omega)
 rw[sC,<-hlen]
 refine⟨.ref s.heap.objs.size,_,I.laid (t':=s.toks) (o:=.lst (je xs lo hi)) (λb ob q=>Heap.get?_push_of_some _ q) (aaf _) ?_,rfl,q _ (I.bN.fresh (aaf _))⟩
 exact⟨aar (dI xs lo hi) hz,_,0,(r.drop (HT.fh xs.length 0 lo)).take (HT.fh xs.length xs.length hi - HT.fh xs.length 0 lo),Heap.get?_push_size _ rfl⟩
noncomputable def tQ:V->Bool
 | .dG=>true
 | .bl _=>true
 | .int _=>true
 | .str _=>true
 | _=>false
noncomputable def Vj:V->V->Bool
 | .dG,.dG=>true
 | .bl a,.bl b=>a==b
 | .bl a,.int b=>(if a then 1 else 0)==b
 | .int a,.bl b=>a==(if b then 1 else 0)
 | .int a,.int b=>a==b
 | .str a,.str b=>a==b
 | _,_=>false
noncomputable def XD (x:V) (xs:List V):Bool:=xs.any λy=>Vj y x
theorem mC:dz X (.builtin "len") (λxs H Q=>∃p ys,xs=[.ref p]/\(bD X.K H p ys\/gh X.K H p ys)/\Q (.int ys.length) H):=by
 intro pins s σ H xs us Q I r h
 obtain⟨p,ys,rfl,hq,q⟩:=h
 obtain⟨u,rfl,rx⟩:=vals1 r
 cases rx
 have hn:=uy
 rcases hq with hq | hq
 ·obtain⟨bA,r',pl,hz⟩:=I.list hq
  have hlen:=r'.length
  exact Calls.call_len_list pl.isList (by simp only[aaq] <;>omega) ⟨.int ys.length,H,I.tok _,⟨s.toks+1,by rw[aaq,hlen]⟩,q⟩
 ·obtain⟨bA,r',pl,hz⟩:=I.tuple hq
  have hlen:=r'.length
  exact len_tuple pl (by simp only[aaq] <;>omega) ⟨.int ys.length,H,I.tok _,⟨s.toks+1,by rw[aaq,hlen]⟩,q⟩
theorem uC:dz X (.type "list") (λxs H Q=>∃p ys,xs=[.ref p]/\(bD X.K H p ys\/gh X.K H p ys)/\∀l,H l=none->Q (.ref l) (upd H l (.lst ys))):=by
 intro pins s σ H xs us Q I r h
 obtain⟨p,ys,rfl,hq,q⟩:=h
 obtain⟨u,rfl,rx⟩:=vals1 r
 cases rx
 have fin:∀(bA:List Value),bC ys bA->ys.length<=sizeLine->∀(h':Heap) (c':Nat),(∀b o',s.heap.get? b=some o'->h'.get? b=some o')->
   h'.get? s.heap.objs.size=some {cls:=.type "list",dict:=none,data:=.seq bA.toArray c',slots:=#[]}->EP X pins σ Q (.ref s.heap.objs.size) {s with heap:=h'}:=λbA r' hz h' c' kp e=>
  ⟨.ref s.heap.objs.size,_,I.laid (t':=s.toks) kp (aaf _) (show cG X.prog X.w _ h' _ (.lst ys) from⟨hz,bA,c',r',e⟩),rfl,q _ (I.bN.fresh (aaf _))⟩
 rcases hq with hq | hq
 ·obtain⟨bA,r',pl,hz⟩:=I.list hq
  have hlen:=r'.length
  obtain⟨o,ho,hc,n,hd⟩:=pl.isList
  exact call_list_seq p (.inl rfl) ho hc hd (λh' c' kp e=>fin bA r' hz h' c' kp e) (by simp only[aaq] <;>omega)
 ·obtain⟨bA,r',pl,hz⟩:=I.tuple hq
  have hlen:=r'.length
  obtain⟨o,ho,hc,n,hd⟩:=pl
  exact call_list_seq p (.inr rfl) ho hc hd (λh' c' kp e=>fin bA r' hz h' c' kp e) (by simp only[aaq] <;>omega)
theorem sE:dz X (.type "tuple") (λxs H Q=>∃p ys,xs=[.ref p]/\((bD X.K H p ys/\∀l,H l=none->Q (.ref l) (upd H l (.tup ys)))\/(gh X.K H p ys/\Q (.ref p) H))):=by
 intro pins s σ H xs us Q I r h
 obtain⟨p,ys,rfl,h⟩:=h
 obtain⟨u,rfl,rx⟩:=vals1 r
 cases rx
 rcases h with ⟨hq,q⟩ | ⟨hq,q⟩
 ·obtain⟨bA,r',pl,hz⟩:=I.list hq
  have hlen:=r'.length
  refine call_tuple_list pl.isList (λh' kp=>?_) (by simp only[aaq] <;>omega)
  have I1:Inv X pins σ H {s with heap:=h'}:=I.kept (t':=s.toks) kp
  have I2:Inv X pins σ (upd H h'.objs.size (.tup ys)) {s with heap:=h'.push {cls:=.type "tuple",data:=.seq bA.toArray}}:=
   I1.laid (t':=s.toks) (λb o e=>Heap.get?_push_of_some _ e) (aaf _) (show cG X.prog X.w _ _ _ (.tup ys) from⟨hz,bA,r',IsTup.new _ _⟩)
  exact⟨.ref h'.objs.size,_,I2,rfl,q _ (I1.bN.fresh (aaf _))⟩
 ·obtain⟨bA,r',pl,hz⟩:=I.tuple hq
  exact call_tuple_same pl ⟨.ref p,H,I,rfl,q⟩
noncomputable def EL (K:PySem.W.Frag) (T:String) (x:V) (H:Hp):Prop:=match x with
 | .str _=>T="str"
 | .int _=>T="int"
 | .ref p=>(T="list"/\∃xs,bD K H p xs)\/(T="tuple"/\∃o,K.lookup p=some o/\o.cls=.type "tuple"/\o.dict=none)\/
   (T="dict"/\((∃kvs,H p=some (.dK kvs))\/∃kvs,H p=some (.dT kvs)))\/(T="set"/\∃S n,H p=some (.set S n))
 | _=>False
theorem B8 {pins:List (Addr×Obj)} {σ:St} {H:Hp} {s:Shared} {T:String} {x:V} {v:Value} (I:Inv X pins σ H s) (r:RelV x v) (ty:EL X.K T x H):
  s.TypeIs v T/\∀a,v=.ref a->∃ob,s.heap.get? a=some ob/\ob.dict=none:=by
 cases x with
 | str z=>
  obtain⟨t,rfl⟩:=r
  cases (show T="str" from ty)
  exact⟨typeIs_str s z t,λ_ e=>nomatch e⟩
 | int i=>
  obtain⟨t,rfl⟩:=r
  cases (show T="int" from ty)
  exact⟨typeIs_int s i t,λ_ e=>nomatch e⟩
 | ref p=>
  cases r
  rcases ty with ⟨rfl,xs,hq⟩ | ⟨rfl,o,hk,hc,hd⟩ | ⟨rfl,hk⟩ | ⟨rfl,S,n,hk⟩
  ·obtain⟨bA,_,pl,_⟩:=I.list hq
   refine⟨pl.isList.typeIs,λa e=>?_⟩
   cases e
   obtain⟨o,n,e,c,hd,_⟩:=pl
   exact⟨o,e,hd⟩
  ·refine⟨⟨o,I.lC p o hk,hc⟩,λa e=>?_⟩
   cases e
   exact⟨o,I.lC _ o hk,hd⟩
  ·have z:∃o,s.heap.get? p=some o/\o.ExactDict:=by
    rcases hk with ⟨kvs,hk⟩ | ⟨kvs,hk⟩
    ·obtain⟨_,_,_,_,o,_,_,e,ex,_⟩:=I.bN p _ hk
     exact⟨o,e,ex⟩
    ·obtain⟨_,_,_,_,o,_,_,e,ex,_⟩:=I.bN p _ hk
     exact⟨o,e,ex⟩
   obtain⟨o,e,ex⟩:=z
   refine⟨⟨o,e,ex.1⟩,λa e2=>?_⟩
   cases e2
   exact⟨o,e,ex.2.1⟩
  ·obtain⟨o,_,_,_,e,ex,_⟩:=I.bN p _ hk
   refine⟨⟨o,e,ex.1⟩,λa e2=>?_⟩
   cases e2
   exact⟨o,e,ex.2.1⟩
 | _=>exact False.elim ty
noncomputable def tBM (K:PySem.W.Frag) (T:String) (r:V->List V->Hp->VK->Prop) (to:TE) (t:TA):TE:=λσ H Q=>to σ H λx H1=>EL K T x H1/\t σ H1 λxs H2=>r x xs H2 Q
variable {o e : Expr} {es : List Expr} {to : TE} {t : TA} {name : Str} {apos eW : Pos} {T id : String} {r : V -> List V -> Hp -> VK -> Prop}
theorem eZ (pa:PlainAttrs T) (slot:Slot T name id) (XF:typeOf (.builtin id)=pure (.type "method_descriptor")) (hm:Ob X id r) (ho:PE X o to) (ha:PA X (e::es) t)
  (B9:attributeBase o name X.env (eval o X.env)=eval o X.env:=by rfl)
  (Oe:((backTo eW (starEach (e::es) X.env)).all (λx=>!x.1) && (backToKw eW (keywordEach [] X.env)).all (λx=>x.1.isSome)
   && decide ((e::es).length+ ([]:List Keyword).length+ (if ([]:List Keyword).isEmpty then 0 else 1)<30))=true:=by rfl)
  (Ca:(apos.endLine==eW.line)=true:=by rfl) (hs:starEach (e::es) X.env=(false,eval e X.env)::starEach es X.env:=by rfl) (HA:(backTo eW (starEach es X.env)).any (·.1)=false:=by rfl):
  PE X (.Call (.Attribute o name apos) (e::es) [] eW) (tBM X.K T r to t):=by
 intro pins s σ H Q I h
 refine wpAny_Call_method_late B9 Oe Ca rfl (cL (ho pins s σ H _ I h) λv s1 dH=>?_)
 obtain⟨x,H1,I1,r1,ty,q1⟩:=dH
 obtain⟨h1,h2⟩:=B8 I1 r1 ty
 refine⟨T,id,pa,slot,XF,h1,h2,?_⟩
 have hA:=ha eW pins s1 σ H1 _ I1 q1
 rw[hs] at hA ⊢
 refine Calls.callWith_builtin (by show(false || (backTo eW (starEach es X.env)).any (·.1))=false;rw[HA] <;>rfl) (Calls.evalArgs_plain ?_)
 exact cL hA λus s2 ⟨vs,H2,I2,r2,q2⟩=>hm pins s2 σ H2 x vs v us Q I2 r1 r2 q2
end
end L2
namespace L2
open PySem PySem.Spec PyProof.Rows
noncomputable def Kd (X:Cx) (id:String) (r:V->List V->Hp->VK->Prop):Prop:=
 ∀(pins:List (Addr×Obj)) (s:Shared) (σ:St) (H:Hp) (x:V) (xs:List V) (v:Value) (us:List Value) (Q:VK),Inv X pins σ H s->RelV x v->bC xs us->r x xs H Q->
  wpAny (model X.prog X.w) X.A (call (.builtin id) (v::us)) (EP X pins σ Q) X.xe s
theorem bC.one:∀{x:V} {us:List Value},bC [x] us->∃u,us=[u]/\RelV x u
 | _,_,.cons r .nil=>⟨_,rfl,r⟩
theorem bC.reverse {xs:List V} {us:List Value} (h:bC xs us):bC xs.reverse us.reverse:=by
 induction h with
 | nil=>exact .nil
 | cons r t ih=>rw[List.reverse_cons,List.reverse_cons];exact bC.append ih (.cons r .nil)
theorem bC.rep {xs:List V} {us:List Value} (h:bC xs us):∀k:Nat,bC (List.replicate k xs).flatten (List.replicate k us).flatten
 | 0=>.nil
 | k+1=>by
  rw[aba,aba,List.flatten_cons,List.flatten_cons]
  exact bC.append h (bC.rep h k)
theorem foldl_rep (bA:List Value):∀(k:Nat) (acc:List Value),
  List.foldl (λx1 x2=>x1++x2) acc.toArray (List.replicate k bA.toArray)=(acc++ (List.replicate k bA).flatten).toArray
 | 0,acc=>by simp
 | k+1,acc=>by
  have e:acc.toArray++bA.toArray=(acc++bA).toArray:=by simp
  have e2:(acc++bA)++ (List.replicate k bA).flatten=acc++ (List.replicate (k+1) bA).flatten:=by
   rw[aba,List.flatten_cons,aa5]
  rw[<-e2,<-foldl_rep bA k (acc++bA),<-e,aba,List.foldl_cons]
section
variable {X : Cx} {pins : List (Addr × Obj)} {σ : St} {H : Hp} {s : Shared} {l b : Addr} {xs ys zs : List V}
theorem Inv.Kf {bA its':List Value} {n:Nat} {f:Array Value->Array Value} {t':Nat} (I:Inv X pins σ H s) (hH:H l=some (.lst xs))
  (e:s.heap.get? l=some {cls:=.type "list",data:=.seq bA.toArray n}) (hf:f bA.toArray=its'.toArray) (hv:bC ys its') (hz:ys.length<=sizeLine):
  Inv X pins σ (upd H l (.lst ys)) {s with heap:=s.heap.update l (Obj.mapSeq f),toks:=t'}:=by
 have q:=PySem.IsL.update e f
 rw[hf] at q
 refine I.write (x:=l) (e:=l) (by rw[hH];exact trivial) (.inl rfl) (λb' u hb hu=>(Heap.get?_update_other s.heap (Obj.mapSeq f) (Ne.symm hb)).trans hu) ⟨_,q⟩ ?_
 exact⟨hz,its',_,hv,q⟩
theorem Inv.Kg {bA:List Value} {t':Nat} (I:Inv X pins σ H s) (hv:bC ys bA) (hz:ys.length<=sizeLine):
  Inv X pins σ (upd H s.heap.objs.size (.lst ys)) {s with heap:=s.heap.push {cls:=.type "list",data:=.seq bA.toArray},toks:=t'}:=
 I.laid (λ_ _ q=>Heap.get?_push_of_some _ q) (aaf _) ⟨hz,bA,0,hv,Heap.get?_push_size _ rfl⟩
theorem Inv.fresh (I:Inv X pins σ H s):H s.heap.objs.size=none:=I.bN.fresh (aaf _)
theorem Inv.AQ (I:Inv X pins σ H s) (hH:H l=some (.lst xs)):xs.length<=sizeLine/\∃(bA:List Value) (n:Nat),bC xs bA/\xs.length=bA.length/\s.heap.get? l=some {cls:=.type "list",data:=.seq bA.toArray n}:=by
 obtain⟨z,bA,n,r,e⟩:=I.bN l _ hH
 exact⟨z,bA,n,r,r.length,e⟩
theorem vX {n:Nat} (h:n<=sizeLine):Builtin.List.listTooLong n=false:=by
 unfold Builtin.List.listTooLong
 exact decide_eq_false (by omega)
end
section
variable {X : Cx}
noncomputable def cH:V->List V->Hp->VK->Prop:=λx vs H Q=>∃l xs y,x=.ref l/\vs=[y]/\H l=some (.lst xs)/\xs.length<sizeLine/\Q .dG (upd H l (.lst (xs++ [y])))
theorem b9:Kd X "list.append" cH:=by
 intro pins s σ H x vs v us Q I rx rv h
 obtain⟨l,xs,y,rfl,rfl,hH,hz,q⟩:=h
 cases rx
 obtain⟨u,rfl,ru⟩:=rv.one
 obtain⟨z,bA,n,r,hl,e⟩:=I.AQ hH
 refine call_meets F.slot_list_append ⟨_,e,rfl⟩ F.entry_list_append (F.args_list_append_2 _ _) (PySem.list_append l bA.toArray n u (by rw[aaq];omega)) ⟨e,?_⟩
 refine⟨.dG,_,I.Kf (its':=bA++ [u]) hH e (by simp) (r.append (.cons ru .nil)) ?_,rfl,q⟩
 rw[aah,aaM]
 omega
noncomputable def p6:V->List V->Hp->VK->Prop:=λx vs H Q=>∃l b xs zs,x=.ref l/\vs=[.ref b]/\H l=some (.lst xs)/\H b=some (.lst zs)/\xs.length+zs.length<=sizeLine/\Q .dG (upd H l (.lst (xs++zs)))
theorem nQ:Kd X "list.extend" p6:=by
 intro pins s σ H x vs v us Q I rx rv h
 obtain⟨l,b,xs,zs,rfl,rfl,hH,hB,hz,q⟩:=h
 cases rx
 obtain⟨u,rfl,ru⟩:=rv.one
 cases ru
 obtain⟨z,bA,n,r,hl,e⟩:=I.AQ hH
 obtain⟨z2,i6,n2,r2,D1,e2⟩:=I.AQ hB
 have hsz:bA.toArray.size+i6.toArray.size<=sizeLine:=by rw[aaq,aaq];omega
 have Cb:¬(!bA.toArray.isEmpty && Builtin.List.listTooLong (bA.toArray.size+i6.toArray.size))=true:=by
  rw[vX hsz,Bool.and_false]
  exact aaw
 refine call_meets F.slot_list_extend ⟨_,e,rfl⟩ F.entry_list_extend (F.args_list_extend_2 _ _)
  (AutoSeq1.list_extend_list_list_0 l bA.toArray n b i6.toArray n2 Cb (by rw[aaq];omega) (by omega)) ⟨e,e2,?_⟩
 refine⟨.dG,_,I.Kf (its':=bA++i6) hH e (by simp) (r.append r2) ?_,rfl,q⟩
 rw[aah]
 omega
noncomputable def vY:R2:=λx y H Q=>∃l b xs zs,x=.ref l/\y=.ref b/\H l=some (.lst xs)/\H b=some (.lst zs)/\xs.length+zs.length<=sizeLine/\∀p,H p=none->Q (.ref p) (upd H p (.lst (xs++zs)))
theorem iH:my X (binaryOp .Add) vY:=by
 intro pins s σ H x y v u Q I rx ry h
 obtain⟨l,b,xs,zs,rfl,rfl,hH,hB,hz,q⟩:=h
 cases rx
 cases ry
 obtain⟨z,bA,n,r,hl,e⟩:=I.AQ hH
 obtain⟨z2,i6,n2,r2,D1,e2⟩:=I.AQ hB
 refine PySem.P.add_list e e2 ?_ (by rw[aaq,aaq];omega)
 have ea:bA.toArray++i6.toArray=(bA++i6).toArray:=by simp
 rw[ea]
 exact⟨.ref _,_,I.Kg (t':=s.toks) (r.append r2) (by rw[aah];omega),rfl,q _ I.fresh⟩
noncomputable def EM:R2:=λx y H Q=>∃l k xs,x=.ref l/\y=.int k/\H l=some (.lst xs)/\-(2^63)<=k/\k<2^63/\xs.length*k.toNat<=sizeLine/\
 ∀p,H p=none->Q (.ref p) (upd H p (.lst (List.replicate k.toNat xs).flatten))
theorem len_rep {α:Type} (xs:List α) (k:Nat):(List.replicate k xs).flatten.length=k*xs.length:=by
 induction k with
 | zero=>simp
 | succ k ih=>rw[aba,List.flatten_cons,aah,ih,Nat.succ_mul,Nat.add_comm]
theorem yc:my X (binaryOp .Mult) EM:=by
 intro pins s σ H x y v u Q I rx ry h
 obtain⟨l,k,xs,rfl,rfl,hH,h1,h2,hz,q⟩:=h
 cases rx
 obtain⟨t,rfl⟩:=ry
 obtain⟨z,bA,n,r,hl,e⟩:=I.AQ hH
 have hlen:bA.toArray.size*k.toNat<=sizeLine:=by rw[aaq,<-hl];exact hz
 have Of:¬bA.toArray.size*k.toNat >(2^63 - 1) / 8:=by
  have:(sizeLine:Nat)<=(2^63 - 1) / 8:=by decide
  omega
 have Og:¬(!Builtin.List.listFitsIndex k)=true:=by
  rw[fitsIndex_both h1 h2]
  exact aaw
 have Cb:¬Builtin.List.listTooLong (bA.toArray.size*k.toNat)=true:=by
  rw[vX hlen]
  exact aaw
 have uD:List.foldl (λx1 x2=>x1++x2) #[] (List.replicate (if bA.toArray.isEmpty=true then 0 else k.toNat) bA.toArray)=(List.replicate k.toNat bA).flatten.toArray:=by
  have f0:∀m:Nat,List.foldl (λx1 x2=>x1++x2) #[] (List.replicate m bA.toArray)=(List.replicate m bA).flatten.toArray:=λm=>by
   have:=foldl_rep bA m []
   rw[List.nil_append] at this
   exact this
  rw[f0]
  cases bA with
  | nil=>simp
  | cons a r'=>rw[if_neg (by simp)]
 refine wpAny_binaryOp_repeat_ref (T:="list") (U:="int") (by decide) ⟨_,e,rfl⟩ (λs'=>typeIs_int s' k t) noFill_list_mul F.fills_int_mul F.slot_int_rmul repeat_list F.slot_int_index.lookup
  (call_meets F.slot_int_rmul (typeIs_int s k t) F.entry_int_rmul (F.args_int_rmul_2 _ _) (int___rmul___int_list k t l bA.toArray n)
   ⟨e,rfl,⟨_,e,rfl⟩,call_meets F.slot_list_mul ⟨_,e,rfl⟩ F.entry_list_mul (F.args_list_mul_2 _ _) (AutoListH.list___mul___list_int_3 l bA.toArray n k t Og Of Cb) ⟨e,?_⟩⟩)
 rw[uD]
 exact⟨.ref _,_,I.Kg (t':=s.toks) (r.rep k.toNat) (by rw[len_rep,Nat.mul_comm];exact hz),rfl,q _ I.fresh⟩
end
section
variable {prog : Program} {w : World} {A : Around} {E : Value -> Shared -> Prop} {s : Shared}
end
section
variable {X : Cx}
end
end L2
namespace L2
open PySem PySem.Spec PyProof.Rows
section
variable {κ : Type} [DecidableEq κ]
noncomputable def eM (kvs:List (κ×V)) (k:κ):Option V:=(kvs.find? λkv=>decide (kv.1=k)).map (·.2)
noncomputable def putK (kvs:List (κ×V)) (k:κ) (v:V):List (κ×V):=
 if (kvs.any λkv=>decide (kv.1=k))=true then kvs.map (λkv=>if kv.1=k then (kv.1,v) else kv) else kvs++ [(k,v)]
noncomputable def Kh (kvs:List (κ×V)) (k:κ):List (κ×V):=kvs.filter λkv=>decide (kv.1≠k)
theorem hX {p:κ×V} {r:List (κ×V)} {k:κ} (e:p.1=k):eM (p::r) k=some p.2:=by simp [eM,aaV,e]
theorem fB {p:κ×V} {r:List (κ×V)} {k:κ} (e:¬p.1=k):eM (p::r) k=eM r k:=by simp [eM,aaV,e]
theorem vZ (k:κ):∀kvs:List (κ×V),(kvs.any λkv=>decide (kv.1=k))=(eM kvs k).isSome
 | []=>rfl
 | p::r=>by
  rw[List.any_cons]
  by_cases e:p.1=k
  ·simp only[hX e,decide_eq_true e,Bool.true_or,Option.isSome_some]
  ·rw[fB e,decide_eq_false e,Bool.false_or];exact vZ k r
theorem ph (kvs:List (κ×V)) (k:κ) (v:V):(putK kvs k v).length<=kvs.length+1:=by
 unfold putK
 split
 ·rw[aad];omega
 ·rw[aah,aap,aaR];omega
theorem iY.nR {o:Option V} {u:Option Value} (r:iY o u):o.isSome=u.isSome:=by
 cases o with
 | none=>cases u with
  | none=>rfl
  | some _=>exact(show False from r).elim
 | some _=>cases u with
  | none=>exact(show False from r).elim
  | some _=>rfl
theorem iY.getD {o:Option V} {u:Option Value} {d:V} {d':Value} (r:iY o u) (rd:RelV d d'):RelV (o.getD d) (u.getD d'):=by
 cases o with
 | none=>cases u with
  | none=>exact rd
  | some _=>exact(show False from r).elim
 | some _=>cases u with
  | none=>exact(show False from r).elim
  | some _=>exact r
theorem KV.val {kvs:List (κ×V)} {vs:List (κ×Value)} (r:KV kvs vs) (k:κ):iY (eM kvs k) (valueAt vs k):=by
 unfold KV at r
 induction r with
 | nil=>exact True.intro
 | @cons p q ps qs h t ih=>
  obtain⟨h1,h2⟩:=h
  by_cases e:p.1=k
  ·have e':q.1=k:=h1.symm.trans e
   have b:valueAt (q::qs) k=some q.2:=by simp [valueAt,aaV,e']
   rw[hX e,b];exact h2
  ·have e':¬q.1=k:=λz=>e (h1.trans z)
   have b:valueAt (q::qs) k=valueAt qs k:=by simp [valueAt,aaV,e']
   rw[fB e,b];exact ih
theorem KV.any {kvs:List (κ×V)} {vs:List (κ×Value)} (r:KV kvs vs) (k:κ):(kvs.any λkv=>decide (kv.1=k))=vs.any λkv=>decide (kv.1=k):=by
 unfold KV at r
 induction r with
 | nil=>rfl
 | cons h t ih=>rw[List.any_cons,List.any_cons,ih,h.1]
theorem KV.HB {kvs:List (κ×V)} {vs:List (κ×Value)} (r:KV kvs vs) (k:κ) {y:V} {u:Value} (ry:RelV y u):
  KV (kvs.map λkv=>if kv.1=k then (kv.1,y) else kv) (vs.map λkv=>if kv.1=k then (kv.1,u) else kv):=by
 unfold KV at r ⊢
 induction r with
 | nil=>exact .nil
 | @cons p q ps qs h t ih=>
  rw[aag,aag]
  refine .cons ?_ ih
  obtain⟨h1,h2⟩:=h
  by_cases e:p.1=k
  ·rw[if_pos e,if_pos (h1.symm.trans e)];exact⟨h1,ry⟩
  ·rw[if_neg e,if_neg (λz=>e (h1.trans z))];exact⟨h1,h2⟩
theorem KV.put {kvs:List (κ×V)} {vs:List (κ×Value)} (r:KV kvs vs) (k:κ) {y:V} {u:Value} (ry:RelV y u):KV (putK kvs k y) (stored vs k u):=by
 unfold putK stored
 rw[r.any k]
 by_cases e:(vs.any λkv=>decide (kv.1=k))=true
 ·rw[if_pos e,if_pos e];exact r.HB k ry
 ·rw[if_neg e,if_neg e];exact Paired.snoc r ⟨rfl,ry⟩
theorem KV.length {kvs:List (κ×V)} {vs:List (κ×Value)} (r:KV kvs vs):kvs.length=vs.length:=Paired.length r
end
theorem pj {P:Program} {w:World} {k:Key} {u:Value} (r:RelV (kV k) u):(cC P w).is k u=true:=by
 cases k with
 | inl i=>obtain⟨t,e⟩:=(show ∃t,u=Value.int i t from r);subst e;exact vL P w i t
 | inr x=>obtain⟨t,e⟩:=(show ∃t,u=Value.str x t from r);subst e;exact vM P w x t
theorem tR {P:Program} {w:World}:∀{ks:List Key} {us:List Value},bC (ks.map kV) us->ItemsAre (cC P w) ks us
 | [],_,r=>by rw[aaL] at r;cases r;exact .nil
 | k::ks,_,r=>by
  rw[aag] at r
  cases r with
  | cons h t=>exact .cons (pj h) (tR t)
abbrev KT (H:Hp):List (List Key×V)->List (List Key×Addr×Value)->Prop:=Paired λp q=>p.1=q.1/\H q.2.1=some (.tup (p.1.map kV))/\RelV p.2 q.2.2
theorem KT.val {H:Hp} {kvs:List (List Key×V)} {xs:List (List Key×Addr×Value)} (r:KT H kvs xs) (k:List Key):iY (eM kvs k) ((atKey xs k).map (·.2)):=by
 induction r with
 | nil=>exact True.intro
 | @cons p q ps qs h t ih=>
  obtain⟨h1,_,h2⟩:=h
  by_cases e:p.1=k
  ·have e':q.1=k:=h1.symm.trans e
   have b:atKey (q::qs) k=some q.2:=by simp [atKey,aaV,e']
   rw[hX e,b];exact h2
  ·have e':¬q.1=k:=λz=>e (h1.trans z)
   have b:atKey (q::qs) k=atKey qs k:=by simp [atKey,aaV,e']
   rw[fB e,b];exact ih
theorem KT.HB {H:Hp} {kvs:List (List Key×V)} {xs:List (List Key×Addr×Value)} (r:KT H kvs xs) (k:List Key) {y:V} {u:Value} (ry:RelV y u):
  KT H (kvs.map λkv=>if kv.1=k then (kv.1,y) else kv) (xs.map (putAt k u)):=by
 induction r with
 | nil=>exact .nil
 | @cons p q ps qs h t ih=>
  rw[aag,aag]
  refine .cons ?_ ih
  obtain⟨h1,h2,h3⟩:=h
  unfold putAt
  by_cases e:p.1=k
  ·rw[if_pos e,if_pos (h1.symm.trans e)];exact⟨h1,h2,ry⟩
  ·rw[if_neg e,if_neg (λz=>e (h1.trans z))];exact⟨h1,h2,h3⟩
theorem KT.put {H:Hp} {kvs:List (List Key×V)} {xs:List (List Key×Addr×Value)} (r:KT H kvs xs) (k:List Key) {b:Addr} {y:V} {u:Value} (hb:H b=some (.tup (k.map kV))) (ry:RelV y u):
  KT H (putK kvs k y) (storedH xs k b u):=by
 have e:(kvs.any λkv=>decide (kv.1=k))=(atKey xs k).isSome:=by
  rw[vZ,(r.val k).nR,Option.isSome_map]
 unfold putK storedH
 rw[e]
 by_cases q:(atKey xs k).isSome=true
 ·rw[if_pos q,if_pos q];exact r.HB k ry
 ·rw[if_neg q,if_neg q];exact Paired.snoc r ⟨rfl,hb,ry⟩
theorem KT.keeps {H H':Hp} {kvs:List (List Key×V)} {xs:List (List Key×Addr×Value)} (r:KT H kvs xs) (ht:∀b ys,H b=some (.tup ys)->H' b=some (.tup ys)):KT H' kvs xs:=
 Paired.Hg r λ_ _ z=>⟨z.1,ht _ _ z.2.1,z.2.2⟩
section
variable {P : Program} {w : World} {H : Hp} {h : Heap} {a : Addr}
theorem Gw {u:HO} (ok:hJ P w H h) (e:Rd H a u):cG P w H h a u:=e.ok ok
theorem pq {kvs:List (Key×V)} (ok:hJ P w H h) (e:Rd H a (.dK kvs)):kvs.length<=sizeLine/\(a==sysModules)=false/\∃vs,KV kvs vs/\h.DictOf (cC P w) a vs:=
 show cG P w H h a (.dK kvs) from Gw ok e
theorem Cc {kvs:List (Key×V)} (ok:hJ P w H h) (e:H a=some (.dK kvs)):kvs.length<=sizeLine/\(a==sysModules)=false/\∃vs,KV kvs vs/\h.DictOf (cC P w) a vs:=pq ok (.inl e)
theorem qw {ks:List Key} (ok:hJ P w H h) (e:H a=some (.tup (ks.map kV))):(tupleKind (cC P w)).is h ks a:=by
 obtain⟨_,bA,r,o,h1,h2,n,h3⟩:=(show cG P w H h a (.tup (ks.map kV)) from ok a _ e)
 exact⟨o,bA.toArray,n,h1,h2,h3,by simpa using tR r⟩
theorem tS {kvs:List (List Key×V)} (ok:hJ P w H h) (e:Rd H a (.dT kvs)):kvs.length<=sizeLine/\(a==sysModules)=false/\
  ∃xs,KT H kvs xs/\h.DictOfH (tupleKind (cC P w)) a xs:=by
 obtain⟨z,y,xs,r,o,es,ep,h1,h2,h3,h4,h5⟩:=(show cG P w H h a (.dT kvs) from Gw ok e)
 refine⟨z,y,xs,r,o,es,ep,h1,h2,h3,h4,λx hx=>?_,h5⟩
 have all:∀{l:List (List Key×V)} {m:List (List Key×Addr×Value)},KT H l m->∀x∈m,(tupleKind (cC P w)).is h x.1 x.2.1:=by
  intro l m q
  induction q with
  | nil=>intro x hx;exact nomatch hx
  | @cons p q ps qs hq t ih=>
   intro x hx
   rcases List.mem_cons.mp hx with e | hx
   ·subst e
    exact qw ok (by rw[<-hq.1];exact hq.2.1)
   ·exact ih x hx
 exact all r x hx
theorem Ki {kvs:List (List Key×V)} (ok:hJ P w H h) (e:H a=some (.dT kvs)):kvs.length<=sizeLine/\(a==sysModules)=false/\
  ∃xs,KT H kvs xs/\h.DictOfH (tupleKind (cC P w)) a xs:=tS ok (.inl e)
end
noncomputable def lE (H:Hp) (a:Addr) (y:V) (r:Option V):Prop:=
 (∃kvs k,Rd H a (.dK kvs)/\y=kV k/\r=eM kvs k)\/∃kvs k b,Rd H a (.dT kvs)/\y=.ref b/\H b=some (.tup (k.map kV))/\r=eM kvs k
noncomputable def AR (H:Hp) (a:Addr) (y v:V) (H':Hp):Prop:=
 (∃kvs k,H a=some (.dK kvs)/\y=kV k/\kvs.length<sizeLine/\H'=upd H a (.dK (putK kvs k v)))\/
 ∃kvs k b,H a=some (.dT kvs)/\y=.ref b/\H b=some (.tup (k.map kV))/\kvs.length<sizeLine/\H'=upd H a (.dT (putK kvs k v))
theorem AR.k {H:Hp} {a:Addr} {kvs:List (Key×V)} {k:Key} {v:V} (e:H a=some (.dK kvs)) (hl:kvs.length<sizeLine):AR H a (kV k) v (upd H a (.dK (putK kvs k v))):=.inl ⟨kvs,k,e,rfl,hl,rfl⟩
section
variable {X : Cx} {pins : List (Addr × Obj)} {σ : St} {H : Hp} {s : Shared} {a : Addr} {y v : V} {u r : Value} {o : Option V} {A : Around} {E : Value -> Shared -> Prop}
theorem Inv.M9 (I:Inv X pins σ H s):sysModules<s.heap.objs.size:=by
 have h:mainGlobals<s.heap.objs.size:=(I.mod.glob.keeps I.bk).lt
 exact aaN (by decide) h
theorem AS {Q:Value->Shared->Prop} (hu:A.units+1<cLine) (I:Inv X pins σ H s) (g:lE H a y (some v)) (ry:RelV y u) (h:∀w' s',Inv X pins σ H s'->RelV v w'->Q w' s'):
  wpAny (model X.prog X.w) A (getItem (.ref a) u) Q E s:=by
 rcases g with ⟨kvs,k,e,ey,l⟩ | ⟨kvs,k,b,e,ey,eb,l⟩
 ·subst ey
  obtain⟨z,hd,vs,rel,dd⟩:=pq I.bN e
  obtain⟨w',hw,AO⟩:=iY.some_of (v:=v) (o:=valueAt vs k) (by rw[l];exact rel.val k)
  exact wpAny_getItem_of (pj ry) dd.mapOf hw (h w' _ (I.tok _) AO)
 ·subst ey
  cases (show u=Value.ref b from ry)
  obtain⟨z,hd,xs,rel,dd⟩:=tS I.bN e
  obtain⟨w',hw,AO⟩:=iY.some_of (v:=v) (o:=(atKey xs k).map (·.2)) (by rw[l];exact rel.val k)
  obtain⟨p,hp,Na⟩:=Option.map_eq_some_iff.mp hw
  refine wpAny_getItem_heap (tupleKind_room_in1 hu) (qw I.bN eb) dd hp ?_
  rw[Na]
  exact h w' _ (I.tok _) AO
theorem EN {Q:Value->Shared->Prop} (hu:A.units+1<cLine) (I:Inv X pins σ H s) (g:lE H a y o) (ry:RelV y u) (h:∀s',Inv X pins σ H s'->Q (.bool (!o.isSome)) s'):
  wpAny (model X.prog X.w) A (compareOp .NotIn u (.ref a)) Q E s:=by
 rcases g with ⟨kvs,k,e,ey,l⟩ | ⟨kvs,k,b,e,ey,eb,l⟩
 ·subst ey
  obtain⟨z,hd,vs,rel,dd⟩:=pq I.bN e
  refine wpAny_notIn_of (pj ry) hd dd.mapOf ?_
  rw[<-(rel.val k).nR,<-l]
  exact h _ (I.tok _)
 ·subst ey
  cases (show u=Value.ref b from ry)
  obtain⟨z,hd,xs,rel,dd⟩:=tS I.bN e
  refine wpAny_notIn_heap (tupleKind_room_in1 hu) (qw I.bN eb) hd dd ?_
  have q:=(rel.val k).nR
  rw[Option.isSome_map] at q
  rw[<-q,<-l]
  exact h _ (I.tok _)
theorem uE {h':Heap} {t':Nat} {ob:HO} (I:Inv X pins σ H s) (mu:JY (H a)) (hs:Heap.SameBut a s.heap h') (he:∃q,h'.get? a=some q) (new:cG X.prog X.w (upd H a ob) h' a ob):
  Inv X pins σ (upd H a ob) {s with heap:=h',toks:=t'}:=
 I.write (x:=a) (e:=a) mu (.inl rfl) (λb q hb z=>(hs.2 b hb).trans z) he new
theorem Cd {P:Program} {w:World} {H':Hp} {h':Heap} {kvs:List (Key×V)} {vs:List (Key×Value)} (z:kvs.length<=sizeLine) (hd:(a==sysModules)=false) (rel:KV kvs vs) (dd:h'.DictOf (cC P w) a vs):
  cG P w H' h' a (.dK kvs):=⟨z,hd,vs,rel,dd⟩
theorem AU {H':Hp} {Q:Unit->Shared->Prop} (hu:A.units+1<cLine) (I:Inv X pins σ H s) (g:AR H a y v H') (ry:RelV y u) (rv:RelV v r) (h:∀s',Inv X pins σ H' s'->Q () s'):
  wpAny (model X.prog X.w) A (setItem (.ref a) u r) Q E s:=by
 rcases g with ⟨kvs,k,e,ey,l,eH⟩ | ⟨kvs,k,b,e,ey,eb,l,eH⟩
 ·subst ey eH
  obtain⟨z,hd,vs,rel,dd⟩:=Cc I.bN e
  have hz:vs.length<=sizeLine:=by rw[<-rel.length];exact z
  have hl:(putK kvs k v).length<=sizeLine:=by have:=ph kvs k v;omega
  refine wpAny_setItem_pairs (hsz:=hz) (pj ry) dd λh' HC hs=>h _ ?_
  have he:∃q,h'.get? a=some q:=let ⟨q,_,_,hq,_⟩:=HC;⟨q,hq⟩
  exact uE I (by rw[e];exact True.intro) hs he (Cd hl hd (rel.put k rv) HC)
 ·subst ey eH
  cases (show u=Value.ref b from ry)
  obtain⟨z,hd,xs,rel,dd⟩:=Ki I.bN e
  have hz:xs.length<=sizeLine:=by rw[<-Paired.length rel];exact z
  have hl:(putK kvs k v).length<=sizeLine:=by have:=ph kvs k v;omega
  refine wpAny_setItem_heap (hsz:=hz) (tupleKind_room_in1 hu) (qw I.bN eb) dd λh' HC hs=>h _ ?_
  obtain⟨q,es,ep,hq,h2,h3,h4,_,h5⟩:=HC
  refine uE I (by rw[e];exact True.intro) hs ⟨q,hq⟩ ⟨hl,hd,_,(rel.put k eb rv).keeps λc ys ec=>?_,q,es,ep,hq,h2,h3,h4,h5⟩
  rw[aB (JX ec e (λz=>nomatch z))]
  exact ec
end
section
variable {X : Cx} {pins : List (Addr × Obj)} {σ : St} {H : Hp} {s : Shared} {a : Addr} {kvs : List (Key × V)} {k : Key} {u : Value} {A : Around} {E : Value -> Shared -> Prop}
theorem Kj {Q:Value->Shared->Prop} (I:Inv X pins σ H s) (e:Rd H a (.dK kvs)) (h:∀t s',Inv X pins σ H s'->Q (.int kvs.length t) s'):wpAny (model X.prog X.w) A (call (.builtin "len") [.ref a]) Q E s:=by
 obtain⟨z,hd,vs,rel,dd⟩:=pq I.bN e
 refine call_len_dict hd dd (by rw[<-rel.length];rw[sizeLine_eq] at z;omega) ?_
 rw[<-rel.length]
 exact h _ _ (I.tok _)
end
noncomputable def HD (i:Expr):Prop:=∀ov iv,subscripted i false ov iv=operate [ov,iv] (getItem ov iv)
theorem zz {prog:Program} {w:World} {A:Around} {E:Value->Shared->Prop} {s:Shared} {env:Env} {value slice:Expr} {pos:Pos} {T id:String} {Q:Value->Shared->Prop}
  (hl:typeLookup (.type T) "__getitem__"=pure (some (.builtin id))) (hs:HD slice)
  (h:wpAny (model prog w) A (eval value env) (λo s₁=>wpAny (model prog w) A (eval slice env) (λi s₂=>s₂.TypeIs o T/\wpAny (model prog w) A (getItem o i) Q E s₂) E s₁) E s):
  wpAny (model prog w) A (eval (.Subscript value slice pos) env) Q E s:=by
 refine Subscript_ (wpAny_mono h (λo s₁ h₁=>wpAny_mono h₁ (λi s₂ h₂=>?_) λ_ _ x=>x) λ_ _ x=>x)
 obtain⟨hT,h₂⟩:=h₂
 unfold subscriptTail
 refine wpAny_bind ?_
 rw[getitemInPython_of_ne hT.not_modules]
 refine wpAny_bind (wpAny_specialOf hT hl ?_)
 have fin:wpAny (model prog w) A (subscripted slice false o i) (λr s₃=>wpAny (model prog w) A (letTemporaryGo value o r >>=λ_=>pure r) Q E s₃) E s₂:=by
  rw[hs o i]
  exact wpAny_operating (wpAny_mono h₂ (λr s₃ h₃=>wpAny_bind (wpAny_letTemporaryGo (wpAny_pure h₃))) λ_ _ x=>x)
 first
  | exact wpAny_pure (wpAny_bind fin)
  | exact wpAny_bind (wpAny_pure (wpAny_bind fin))
  | exact wpAny_bind fin
theorem wa {X:Cx} {pins:List (Addr×Obj)} {σ:St} {H:Hp} {s:Shared} {a:Addr} {y:V} {o:Option V} (I:Inv X pins σ H s) (g:lE H a y o):s.TypeIs (.ref a) "dict":=by
 rcases g with ⟨kvs,k,e,_,_⟩ | ⟨kvs,k,b,e,_,_,_⟩
 ·obtain⟨_,_,vs,_,dd⟩:=pq I.bN e
  exact dd.typeIs
 ·obtain⟨_,_,xs,_,dd⟩:=tS I.bN e
  exact dd.typeIs
noncomputable def tDGet (td ty:TE):TE:=λσ H Q=>td σ H λx H1=>ty σ H1 λy H2=>∃a v,x=.ref a/\lE H2 a y (some v)/\Q v H2
noncomputable def tDIn (ty td:TE):TE:=λσ H Q=>ty σ H λy H1=>td σ H1 λx H2=>∃a o,x=.ref a/\lE H2 a y o/\Q (.bl o.isSome) H2
noncomputable def tDNotIn (ty td:TE):TE:=λσ H Q=>ty σ H λy H1=>td σ H1 λx H2=>∃a o,x=.ref a/\lE H2 a y o/\Q (.bl (!o.isSome)) H2
noncomputable def sDPut (td ty tv:TE):TS:=λD σ H=>tv σ H λv H1=>td σ H1 λx H2=>ty σ H2 λy H3=>∃a H4,x=.ref a/\AR H3 a y v H4/\D.nx σ H4
section
variable {X : Cx} {o i e value : Expr} {pos pos' sx : Pos} {td ty tv : TE}
theorem bY (hu:X.A.units+1<cLine) (ho:PE X o td) (hi:PE X i ty) (hs:HD i):PE X (.Subscript o i pos) (tDGet td ty):=by
 intro pins s σ H Q I h
 refine zz PySem.F.slot_dict_getitem.lookup hs (cL (ho pins s σ H _ I h) λu s1 ⟨x,H1,I1,rx,q1⟩=>cL (hi pins s1 σ H1 _ I1 q1) λiv s2 dH=>?_)
 obtain⟨y,H2,I2,ry,a,v,ex,g,q2⟩:=dH
 subst ex
 obtain rfl:u=Value.ref a:=rx
 exact⟨wa I2 g,AS hu I2 g ry λw' s3 I3 AO=>⟨v,H2,I3,AO,q2⟩⟩
theorem tT (hu:X.A.units+1<cLine) (hi:PE X i ty) (ho:PE X o td):PC X .NotIn i o (tDNotIn ty td):=by
 intro pins s σ H Q I h
 refine cL (hi pins s σ H _ I h) λiv s1 ⟨y,H1,I1,ry,q1⟩=>cL (ho pins s1 σ H1 _ I1 q1) λu s2 dH=>?_
 obtain⟨x,H2,I2,rx,a,ov,ex,g,q2⟩:=dH
 subst ex
 obtain rfl:u=Value.ref a:=rx
 exact EN hu I2 g ry λs3 I3=>⟨.bl (!ov.isSome),H2,I3,rfl,q2⟩
theorem p7 (hu:X.A.units+1<cLine) (ho:PE X o td) (hi:PE X i ty) (hv:PE X value tv) (hs:swapsWith value (some (.Subscript o i pos')) pos.line X.env=pure false):
  PS X (.Assign [.Subscript o i pos'] value pos) (sDPut td ty tv):=by
 intro pins s σ H D I h
 refine wpAny_Assign_Subscript (cL (hv pins s σ H _ I h) λr s1 ⟨v,H1,I1,rv,q1⟩=>cL (ho pins s1 σ H1 _ I1 q1) λu s2 ⟨x,H2,I2,rx,q2⟩=>cL (hi pins s2 σ H2 _ I2 q2) λiv s3 dH=>?_) hs
 obtain⟨y,H3,I3,ry,a,H4,ex,g,q3⟩:=dH
 subst ex
 obtain rfl:u=Value.ref a:=rx
 exact AU hu I3 g ry rv λs4 I4=>⟨σ,H4,I4,q3⟩
end
theorem Ce {P:Program} {w:World} {H:Hp} (h:Heap) (hb:sysModules<h.objs.size):cG P w H (h.push {cls:=.type "dict",data:=.dict #[]}) h.objs.size (.dK []):=
 ⟨aak _,beq_eq_false_iff_ne.mpr (Ne.symm (aam hb)),[],.nil,Heap.DictOf.new h⟩
noncomputable def tDNewK:TE:=λ_ H Q=>∀p,H p=none->Q (.ref p) (upd H p (.dK []))
section
variable {X : Cx} {pos : Pos}
theorem mD:PE X (.Dict [] [] pos) tDNewK:=λpins s σ H Q I h=>
 wpAny_Dict_empty ⟨.ref s.heap.objs.size,_,I.laid (a:=s.heap.objs.size) (o:=.dK []) (t':=s.toks) (λ_ _ q=>Heap.get?_push_of_some _ q) (aaf _) (Ce s.heap I.M9),rfl,h _ (I.bN.fresh (aaf _))⟩
end
abbrev VV:List (V×V)->List (Value×Value)->Prop:=Paired λp q=>RelV p.1 q.1/\RelV p.2 q.2
structure M1 (X:Cx) (o:Expr) (m:Str) (apos:Pos) (e:Expr) (eW:Pos):Prop where
 base:attributeBase o m X.env (eval o X.env)=eval o X.env
 Nb:((backTo eW (starEach [e] X.env)).all (λx=>!x.1) && (backToKw eW (keywordEach [] X.env)).all (λx=>x.1.isSome)
  && decide (([e]:List Expr).length+ ([]:List Keyword).length+ (if ([]:List Keyword).isEmpty then 0 else 1)<30))=true
 line:(apos.endLine==eW.line)=true
 trees:backTo eW (starEach [e] X.env)=[(false,eval e X.env)]
structure M2 (X:Cx) (o:Expr) (m:Str) (apos:Pos) (e f:Expr) (eW:Pos):Prop where
 base:attributeBase o m X.env (eval o X.env)=eval o X.env
 Nb:((backTo eW (starEach [e,f] X.env)).all (λx=>!x.1) && (backToKw eW (keywordEach [] X.env)).all (λx=>x.1.isSome)
  && decide (([e,f]:List Expr).length+ ([]:List Keyword).length+ (if ([]:List Keyword).isEmpty then 0 else 1)<30))=true
 line:(apos.endLine==eW.line)=true
 trees:backTo eW (starEach [e,f] X.env)=[(false,eval e X.env),(false,eval f X.env)]
noncomputable def Nc (H:Hp) (a:Addr):Prop:=(∃kvs,Rd H a (.dK kvs))\/∃kvs,Rd H a (.dT kvs)
theorem HE {X:Cx} {pins:List (Addr×Obj)} {σ:St} {H:Hp} {s:Shared} {a:Addr} (I:Inv X pins σ H s) (d:Nc H a):
  s.TypeIs (.ref a) "dict"/\(∀b,Value.ref a=.ref b->∃ob,s.heap.get? b=some ob/\ob.dict=none)/\(a==sysModules)=false:=by
 rcases d with ⟨kvs,e⟩ | ⟨kvs,e⟩
 ·obtain⟨_,hd,vs,_,dd⟩:=pq I.bN e
  refine⟨dd.typeIs,λb q=>?_,hd⟩
  cases q
  obtain⟨ob,_,_,h1,h2,_⟩:=dd
  exact⟨ob,h1,h2.2.1⟩
 ·obtain⟨_,hd,xs,_,dd⟩:=tS I.bN e
  refine⟨dd.typeIs,λb q=>?_,hd⟩
  cases q
  obtain⟨ob,_,_,h1,h2,_⟩:=dd
  exact⟨ob,h1,h2.2.1⟩
section
variable {X : Cx} {pins : List (Addr × Obj)} {σ : St} {H : Hp} {s : Shared} {a : Addr} {y d : V} {u r : Value} {o : Option V} {A : Around} {E : Value -> Shared -> Prop}
theorem HF {Q:Value->Shared->Prop} (hu:A.units+1<cLine) (I:Inv X pins σ H s) (g:lE H a y o) (ry:RelV y u) (rd:RelV d r) (h:∀w' s',Inv X pins σ H s'->RelV (o.getD d) w'->Q w' s'):
  wpAny (model X.prog X.w) A (call (.builtin "dict.get") [.ref a,u,r]) Q E s:=by
 rcases g with ⟨kvs,k,e,ey,l⟩ | ⟨kvs,k,b,e,ey,eb,l⟩
 ·subst ey
  obtain⟨z,hd,vs,rel,dd⟩:=pq I.bN e
  refine call_meetsIn PySem.F.slot_dict_get dd.typeIs PySem.F.entry_dict_get (PySem.F.args_dict_get_3 _ _ _) (meets_dict_get_default (cC X.prog X.w) a (pj ry) hd r) ⟨_,dd.mapOf,h _ _ (I.tok _) ?_⟩
  rw[l]
  exact(rel.val k).getD rd
 ·subst ey
  cases (show u=Value.ref b from ry)
  obtain⟨z,hd,xs,rel,dd⟩:=tS I.bN e
  refine call_meetsIn PySem.F.slot_dict_get dd.typeIs PySem.F.entry_dict_get (PySem.F.args_dict_get_3 _ _ _) (meetsH_dict_get_default (tupleKind (cC X.prog X.w)) a b hd r) ⟨tupleKind_room_in1 hu,k,xs,qw I.bN eb,dd,h _ _ (I.tok _) ?_⟩
  rw[l]
  exact(rel.val k).getD rd
end
noncomputable def tDGet1 (td ty:TE):TE:=λσ H Q=>td σ H λx H1=>∃a,x=.ref a/\Nc H1 a/\ty σ H1 λy H2=>∃o,lE H2 a y o/\Q (o.getD .dG) H2
noncomputable def tDGet2 (td ty tx:TE):TE:=λσ H Q=>td σ H λx H1=>∃a,x=.ref a/\Nc H1 a/\ty σ H1 λy H2=>tx σ H2 λz H3=>∃o,lE H3 a y o/\Q (o.getD z) H3
noncomputable def tDPop1 (td ty:TE):TE:=λσ H Q=>td σ H λx H1=>∃a,x=.ref a/\Nc H1 a/\ty σ H1 λy H2=>∃kvs k v,H2 a=some (.dK kvs)/\y=kV k/\eM kvs k=some v/\Q v (upd H2 a (.dK (Kh kvs k)))
section
variable {X : Cx} {o e f : Expr} {apos eW : Pos} {td ty tx : TE}
theorem Cf (hu:X.A.units+1<cLine) (ho:PE X o td) (he:PE X e ty) (hf:PE X f tx) (m:M2 X o "get" apos e f eW):PE X (.Call (.Attribute o "get" apos) [e,f] [] eW) (tDGet2 td ty tx):=by
 intro pins s σ H Q I h
 refine wpAny_Call_method m.base m.Nb m.line PySem.F.plainAttrs_dict PySem.F.slot_dict_get PySem.F.type_dict_get (cL (ho pins s σ H _ I h) λu s1 dH=>?_)
 obtain⟨x,H1,I1,rx,a,ex,d,q1⟩:=dH
 subst ex
 obtain rfl:u=Value.ref a:=rx
 obtain⟨t1,t2,_⟩:=HE I1 d
 refine⟨t1,t2,?_⟩
 rw[m.trees]
 refine Calls.callWith_builtin rfl (Calls.evalArgs_plain (Calls.spliced_cons (cL (he pins s1 σ H1 _ I1 q1) λiv s2 ⟨y,H2,I2,ry,q2⟩=>
  Calls.spliced_cons (cL (hf pins s2 σ H2 _ I2 q2) λfv s3 ⟨z,H3,I3,rz,ov,g,q3⟩=>Calls.spliced_nil ?_))))
 exact HF hu I3 g ry rz λw' s4 I4 AO=>⟨_,H3,I4,AO,q3⟩
end
section
variable {X : Cx} {pins : List (Addr × Obj)} {σ : St} {H : Hp} {s : Shared} {a : Addr} {kvs : List (Key × V)} {A : Around} {E : Value -> Shared -> Prop}
end
section
variable {X : Cx} {pins : List (Addr × Obj)} {σ : St} {H : Hp} {s : Shared} {a : Addr} {y : V} {u : Value} {A : Around} {E : Value -> Shared -> Prop}
end
end L2
namespace Vk
open PySem PySem.W PySem.Calls PyProof.Rows
theorem pK {P:Params} {h:Heap}:∀(ns:List Int) (vs:List Value),WellAll P h vs (ns.map WData.int)->IntsAre vs ns:=by
 intro ns
 induction ns with
 | nil=>
  intro vs w
  rw[aaL] at w
  cases w
  exact .nil
 | cons n ns ih=>
  intro vs w
  rw[aag] at w
  cases w with
  | cons a b=>
   cases a
   exact .cons _ _ (ih _ b)
theorem AV {l:OpenLaw} {n:Nat} (hn:l.most=some n) {P:Params} {h:Heap} {args:List WData} {vals:List Value}
  (EO:l.row.toRowW.claim.pre args=true) (D3:WellAll P h vals args):
  ∃a vs ns,vals=[Value.ref a]/\args=[WData.list (ns.map WData.int)]/\h.get? a=some {cls:=.type "list",data:=.seq vs.toArray}/\IntsAre vs ns/\ns.length<=n:=by
 have dO:WShape.hasAll [] args [.list .int]=true:=(pre_splitW EO).1
 have hc:l.pre.holds [] {args:=args}=true:=(pre_splitW EO).2
 obtain⟨d,r,rfl,h1,h2⟩:=hasAllW_cons dO
 obtain rfl:=hasAllW_nil h2
 obtain⟨xs,rfl,h3⟩:=hasW_list h1
 obtain⟨ns,rfl⟩:=items_int h3
 have hlen:ns.length<=n:=by
  unfold OpenLaw.pre at hc
  have h4:(WTm.not (.lt (.lit (.int (n:Int))) (.len (.arg 0)))).holds [] {args:=[.list (ns.map .int)]}=true:=by
   have h4:=(holds_andW hc).1
   rw[hn] at h4
   exact h4
  have h5:=condW_of h4 (w_not (w_lt w_lit (w_len_list (w_arg rfl))))
  rw[aad] at h5
  refine Nat.le_of_not_lt λq=>?_
  have q':(n:Int)< ((ns.length:Nat):Int):=by omega
  first
   | (rw[decide_eq_true q'] at h5;exact absurd h5 (by decide))
   | (simp at h5;omega)
 cases D3 with
 | cons w1 w2=>
  cases w2
  cases w1 with
  | list ho AW=>exact⟨_,_,ns,rfl,rfl,ho,pK ns _ AW,hlen⟩
theorem AX (l:OpenLaw) (args:List WData):l.row.toRowW.claim.post args (.bool true) args=true:=
 postW_of (r:=l.row.toRowW) (X:=(true==true))
  (show WShape.has [] (.bool true) .bool=true by first | rfl | decide | simp [WShape.has,WShape.arms,WShape.armsAll])
  (show(WTm.eq .res (.lit (.bool true))).value [] {args:=args,res:=some (.bool true),after:=args}=some (.bool (true==true)) from w_eq_bool (w_res rfl) w_lit) rfl
theorem wb {l:OpenLaw} {n:Nat} {q:Program} {loose:List Str} {XP:(Str->Option Value)->Heap->Prop} {YP:World->Heap->Prop} {d:DefRec}
  (hn:l.most=some n) (Kk:d.params.defaults=[])
  (call:∀(w:World) (s₀ s₁:Shared) (mg mb:Str->Option Value) (fa:Addr) (o:Obj) (pm cd doc:Value) (a:Addr) (vs:List Value) (ns:List Int),
   Ground q loose [] XP w s₀ mg mb s₁.heap->YP w s₁.heap->
   s₁.heap.get? fa=some o->o.data=.func (docDef d.name d.params d.body d.scope pm cd doc)->s₁.heap.CodeRec cd d.name->mg d.name=some (.ref fa)->
   s₁.heap.get? a=some {cls:=.type "list",data:=.seq vs.toArray}->IntsAre vs ns->ns.length<=n->s₁.gens=#[]->
   codeAny (model l.prog w) callerA (.call (.ref fa) ⟨[.ref a],[]⟩) (λr s'=>r=.ok (.ret (.bool true))/\OldK s₁.heap s'.heap/\s'.os=s₁.os/\AllBare s'.gens) s₁):
  WalkO q loose XP YP l.row.toRowW d [] (λf vs=>PySem.call f vs):=by
 intro w s₀ s₁ mg mb G Y fa o pm cd doc dV kV ho hd AF hD Kl hg args vals as EO XG hrd D3 hlo
 obtain rfl:dV=.none:=Dflts.none hD Kk
 obtain rfl:kV=.none:=Dflts.noKw hD
 obtain⟨a,vs,ns,rfl,rfl,HG,hints,hlen⟩:=AV hn EO D3
 refine enter_call (codeAny_mono (call w s₀ s₁ mg mb fa o pm cd doc a vs ns G Y ho (fd_plain hd) AF Kl HG hints hlen hg) λr s' hq=>?_)
 obtain⟨rfl,h2,h3,h4⟩:=hq
 exact⟨.inl ⟨.bool true,.bool true,[],rfl,λ_=>rfl,.bool true,AX l _,λ_=>⟨List.Pairwise.nil,λ_ hm=>(nomatch hm)⟩⟩,h2,h3,h4⟩
section
variable {prog : Program} {w : World} {A : Around} {E : Value -> Shared -> Prop} {s : Shared} {K : Frag}
end
end Vk
namespace L2
open PySem PySem.Spec PyProof.Rows
theorem tU:∀{vs:List Value} {ns:List Int},IntsAre vs ns->bC (ns.map V.int) vs
 | _,_,.nil=>.nil
 | _,_,.cons n t h=>.cons ⟨t,rfl⟩ (tU h)
noncomputable def HH (H:Hp):Prop:=∀b,H b=none\/∃o xs,H b=some (.vG o (.lst xs))
theorem law_call {P:Program} {w:World} {K:PySem.W.Frag} {mg mb:Str->Option Value} {CX:pd} {k:Nat} {fa a:Addr} {fd:FuncData} {x:Str} {sp:Sp} {s₁:Shared} {vs:List Value} {ns:List Int}
  (KX:K.In s₁.heap) (Vl:s₁.heap.Ns mainGlobals mg) (hb:s₁.heap.Ns builtinsNs mb) (XH:∀x:Str,x≠"__name__"->mb x=bootBuiltins x) (Oh:s₁.heap.NoLimit) (hg:s₁.gens=#[])
  (ha:s₁.heap.get? a=some {cls:=.type "list",data:=.seq vs.toArray}) (hi:IntsAre vs ns) (hl:ns.length<=sizeLine) (hr:dM k callerA)
  (F:∀base:Heap,K.In base->base.Ns mainGlobals mg->fX P w K mg base CX k fa fd [x] sp) (Km:∀(s:Shared) (u:Value),BindsTo s fd ⟨[u],[]⟩ [(x,u)])
  (DZ:∀H:Hp,HH H->bD K H a (ns.map V.int)->sp [.ref a] H (λv _=>v=.bl true) λ_ _ _=>False)
  (Oi:∀H e s',CX [] H s₁ (λ_ _ _=>False) e s'->False):
  codeAny (model P w) callerA (.call (.ref fa) ⟨[.ref a],[]⟩) (λr s'=>r=.ok (.ret (.bool true))/\OldK s₁.heap s'.heap/\s'.os=s₁.os/\AllBare s'.gens) s₁:=by
 have rv:=tU hi
 have Oj:=hi.length
 have core:∀H:Hp,HH H->bD K H a (ns.map V.int)->hJ P w H s₁.heap->(∀b,H b≠none->b=a)->(H a≠none->K.lookup a=none)->
   codeAny (model P w) callerA (.call (.ref fa) ⟨[.ref a],[]⟩) (λr s'=>r=.ok (.ret (.bool true))/\OldK s₁.heap s'.heap/\s'.os=s₁.os/\AllBare s'.gens) s₁:=by
  intro H hO hS bN hA hK
  have zA:∀{b:Addr} {o:Obj},s₁.heap.get? b=some o->H b=none->(ur s₁.heap H).get? b=some o:=λe n=>BN e n
  have J9:∀{b:Addr} {o:Obj} {es:Array DictEntry} {ep:Nat},s₁.heap.get? b=some o->o.data=.dict es ep->H b=none:=λ{b o es ep} e d=>by
   cases q:H b with
   | none=>rfl
   | some u=>
    have e':b=a:=hA b (by rw[q];simp)
    subst e'
    rw[ha] at e;cases e
    have d':Data.seq vs.toArray _=Data.dict es ep:=d
    cases d'
  have Nd:∀{b:Addr} {m:Str->Option Value},s₁.heap.Ns b m->(ur s₁.heap H).Ns b m:=λ{b m} ⟨o,es,ep,e,d,r⟩=>⟨o,es,ep,zA e (J9 e d),d,r⟩
  have Vm:K.In (ur s₁.heap H):=λb o e=>zA (KX b o e) (by
   cases q:H b with
   | none=>rfl
   | some u=>
    have e':b=a:=hA b (by rw[q];simp)
    subst e'
    rw[hK (by rw[q];simp)] at e;cases e)
  have hM:Mod K mg (ur s₁.heap H):=⟨Vm,Nd Vl,⟨mb,Nd hb,XH⟩,let ⟨mc,h1,h2⟩:=Oh;⟨mc,Nd h1,h2⟩⟩
  have e0:xZ P w K mg (ur s₁.heap H) callerA [] s₁ H:=⟨rfl,hM,λb o e=>Em e,Nat.le_of_eq (AB _ _),trivial,λb hb=>absurd (show b∈([]:List Addr) from hb) (by simp),bN,.of_eq hg⟩
  refine codeAny_mono ((F _ Vm (Nd Vl)).run callerA [] s₁ H ⟨[.ref a],[]⟩ [.ref a] [.ref a] _ _ hr e0 (Km s₁ (.ref a)) (.cons rfl .nil) (DZ H hO hS)) λr s' h=>?_
  cases r with
  | error e=>exact(Oi H e s' h).elim
  | ok fl=>
   cases fl with
   | next=>exact False.elim h
   | brk=>exact False.elim h
   | cont=>exact False.elim h
   | ret u=>
    obtain⟨v,H',os,bare,un,Ol,r',q⟩:=h
    have q':v=.bl true:=q
    subst q'
    obtain rfl:u=Value.bool true:=r'
    refine⟨rfl,OldK.of_keep λb o e=>?_,os,bare⟩
    cases q:H b with
    | none=>exact un.keep b o e q (by intro z;exact absurd (show b∈([]:List Addr) from z) (by simp)) (by simp)
    | some u=>
     rcases hO b with z | ⟨ob,xs,z⟩
     ·rw[q] at z;cases z
     ·have z2:=un.hU b ob _ z
      obtain⟨e1,_⟩:=bN b _ z
      obtain⟨e2,_⟩:=Ol b _ z2
      rw[e] at e1;cases e1
      exact e2
 cases hk:K.lookup a with
 | some o=>
  have e:=KX a o hk
  rw[ha] at e
  cases e
  refine core (λ_=>none) (λ_=>.inl rfl) (.inr ⟨_,vs.toArray,_,hk,rfl,rfl,rfl,by rw[aaq,Oj];exact hl,by simpa using rv⟩) (λb u z=>by have z':(none:Option HO)=some u:=z;cases z') (λb z=>absurd rfl z) λz=>absurd rfl z
 | none=>
  refine core (λb=>if b=a then some (.vG {cls:=.type "list",data:=.seq vs.toArray} (.lst (ns.map V.int))) else none) (λb=>?_) (.inl (.inr ⟨{cls:=.type "list",data:=.seq vs.toArray},if_pos rfl⟩)) (λb u z=>?_) (λb z=>?_) λ_=>hk
  ·by_cases hb:b=a
   ·exact .inr ⟨_,_,if_pos hb⟩
   ·exact .inl (if_neg hb)
  ·by_cases hb:b=a
   ·have z':=(if_pos hb).symm.trans z
    cases z'
    subst hb
    exact⟨ha,by rw[aad];exact hl,vs,_,rv,ha⟩
   ·have z':=(if_neg hb).symm.trans z
    cases z'
  ·by_cases hb:b=a
   ·exact hb
   ·exact absurd (if_neg hb) z
end L2
namespace L2
open PySem PySem.Spec PyProof.Rows
abbrev KOf {K:PySem.W.Frag} {h:Heap} (_:K.In h):PySem.W.Frag:=K
theorem ER {l:PySem.W.OpenLaw} {n k:Nat} {q:Program} {loose:List Str} {XP:(Str->Option Value)->Heap->Prop} {YP:World->Heap->Prop} {d:DefRec} {K:Params->PySem.W.Frag} {CX:World->pd} {sp:World->Sp} {x:Str}
  (hn:l.most=some n) (M5:n<=sizeLine) (Kk:d.params.defaults=[]) (hr:dM k callerA)
  (hY:∀(w:World) (h:Heap),YP w h->(K w.params).In h)
  (F:∀(w:World) (mg:Str->Option Value) (fa:Addr) (h:Heap),(K w.params).In h->h.Ns mainGlobals mg->mg d.name=some (.ref fa)->
   ∃fd:FuncData,(∀(s:Shared) (u:Value),BindsTo s fd ⟨[u],[]⟩ [(x,u)])/\
    ∀base:Heap,(K w.params).In base->base.Ns mainGlobals mg->fX l.prog w (K w.params) mg base (CX w) k fa fd [x] (sp w))
  (DZ:∀(w:World) (H:Hp) (a:Addr) (ns:List Int),ns.length<=n->HH H->bD (K w.params) H a (ns.map V.int)->sp w [.ref a] H (λv _=>v=.bl true) λ_ _ _=>False)
  (Oi:∀(w:World) (H:Hp) (s:Shared) (e:Value) (s':Shared),CX w [] H s (λ_ _ _=>False) e s'->False):
  PySem.W.WalkO q loose XP YP l.row.toRowW d [] (λf vs=>PySem.call f vs):=by
 refine Vk.wb hn Kk λw s₀ s₁ mg mb fa o pm cd doc a vs ns G Y ho hd AF Kl HG hints hlen hg=>?_
 have KX:=hY w _ Y
 obtain⟨fd,hb,hF⟩:=F w mg fa _ KX G.T.g Kl
 exact law_call KX G.T.g G.T.b G.T.builtins G.T.nolimit hg HG hints (aar hlen M5) hr hF hb (λH hO hS=>DZ w H a ns hlen hO hS) λH e s'=>Oi w H s₁ e s'
end L2
namespace L2
open PySem PySem.Spec PyProof.Rows
noncomputable def inClass (s:Stmt) (j:Nat):Stmt:=match s with
 | .ClassDef _ _ _ body _ _ _ _ _ _ _=>body.getD j (.Pass ⟨0,0,0,0⟩)
 | _=>.Pass ⟨0,0,0,0⟩
noncomputable def aW (s:Stmt):Arguments:=match s with
 | .FunctionDef _ a _ _ _ _ _ _ _ _=>a
 | _=>{posonlyargs:=[],args:=[],vararg:=none,kwonlyargs:=[],kw_defaults:=[],kwarg:=none,defaults:=[]}
noncomputable def aV (s:Stmt):List Stmt:=match s with
 | .FunctionDef _ _ b _ _ _ _ _ _ _=>b
 | _=>[]
noncomputable def aq (s:Stmt):Scope:=match s with
 | .FunctionDef _ _ _ _ _ _ sc _ _ _=>sc
 | _=>{kind:=.function,names:=[],isGenerator:=false,isCoroutine:=false}
abbrev CX0:pd:=λ_ _ _ _ _ _=>False
abbrev E0:XK:=λ_ _ _=>False
structure zB (K:PySem.W.Frag) (x qual:Str) (st:Stmt) (f:Addr) (fd:FuncData):Prop where
 ex:∃(oc:Value) (od:Option Addr) (kV doc pm:Value) (an:Option Addr) (bZ ct:Value) (EF:Array (Option Value)),
  fd=PySem.W.fnOf x qual (aW st) (aV st) (aq st) .none kV doc pm an bZ ct/\K.lookup f=some ⟨oc,od,.func fd,EF⟩/\PySem.W.codeIn K bZ qual=true
 kp:PySem.W.keepIn K (.ref f)=true
section
variable {P : Program} {w : World} {K : PySem.W.Frag} {mg : Str -> Option Value} {base : Heap}
theorem zB.binds {x qual:Str} {st:Stmt} {f:Addr} {fd:FuncData} {ps:List Str} (F:zB K x qual st f fd)
  (h:∀(kV doc pm:Value) (an:Option Addr) (bZ ct:Value) (us:List Value),us.length=ps.length->bindArgs (PySem.W.fnOf x qual (aW st) (aV st) (aq st) .none kV doc pm an bZ ct) ⟨us,[]⟩=pure (ps.zip us)):Binds K fd ps []:=by
 obtain⟨oc,od,kV,doc,pm,an,bZ,ct,EF,rfl,lk,AF⟩:=F.ex
 exact .all (h kV doc pm an bZ ct)
theorem br {x qual:Str} {st:Stmt} {f:Addr} {oc:Value} {od an:Option Addr} {EF:Array (Option Value)} {kV doc pm bZ ct:Value} (l:K.lookup f=some ⟨oc,od,.func (PySem.W.fnOf x qual (aW st) (aV st) (aq st) .none kV doc pm an bZ ct),EF⟩)
  (c:PySem.W.codeIn K bZ qual=true) (k:PySem.W.keepIn K (.ref f)=true):zB K x qual st f (PySem.W.fnOf x qual (aW st) (aV st) (aq st) .none kV doc pm an bZ ct):=⟨⟨oc,od,kV,doc,pm,an,bZ,ct,EF,rfl,l,c⟩,k⟩
end
theorem cQ {A:Around} {k:Nat} (hr:dM k A):A.units+1<cLine:=Nat.lt_of_le_of_lt (Nat.add_le_add_left (by decide:1<=64) _) hr.units
section
variable {X : Cx}
theorem pv (i:Nat) {x:Str} {pos:Pos} (hN:X.N[i]?=some x:=by rfl) (hv:NW X.env.scope x:=by first | exact Or.inl rfl | exact Or.inr (Or.inl rfl) | exact Or.inr (Or.inr rfl)) (hd:(x==("__debug__":Str))=false:=by decide)
  (AF:(x==("__classdict__":Str))=false:=by decide):PE X (.Name x pos) (tVar i):=Hm hN hv hd AF
end
theorem HI {A B:Prop} (h:A):if true=true then A else B:=by
 rw[if_pos rfl]
 exact h
theorem pL {c A B:Prop} [Decidable c] (h1:c->A) (h2:¬c->B):if c then A else B:=by
 by_cases h:c
 ·rw[if_pos h]
  exact h1 h
 ·rw[if_neg h]
  exact h2 h
noncomputable def aA (H H':Hp):Prop:=∀b o,H b=some o->H' b=some o
theorem aA.refl (H:Hp):aA H H:=λ_ _ h=>h
theorem aA.trans {H H1 H2:Hp} (a:aA H H1) (b:aA H1 H2):aA H H2:=λc o h=>b c o (a c o h)
theorem aA.seq {K:PySem.W.Frag} {H H':Hp} {a:Addr} {xs:List V} (e:aA H H') (h:bD K H a xs):bD K H' a xs:=by
 rcases h with (h | ⟨o,h⟩) | h
 ·exact .inl (.inl (e _ _ h))
 ·exact .inl (.inr ⟨o,e _ _ h⟩)
 ·exact .inr h
end L2
namespace L2
open PySem PySem.Spec PyProof.Rows
section
variable {X : Cx}
theorem AY:dz X (.builtin "len") (λxs H Q=>∃a kvs,xs=[V.ref a]/\H a=some (.dK kvs)/\Q (.int kvs.length) H):=by
 intro pins s σ H xs us Q I r h
 obtain⟨a,kvs,rfl,ha,q⟩:=h
 obtain⟨u,rfl,ru⟩:=vals1 r
 cases ru
 exact Kj I (.inl ha) λt s' I'=>⟨.int kvs.length,H,I',⟨t,rfl⟩,q⟩
end
section
variable {κ : Type} [DecidableEq κ]
end
end L2
namespace L2
open PySem PySem.Spec PyProof.Rows
noncomputable def Bt (n:Nat) (i:Int):Prop:=i.natAbs<2^n
theorem Bt.neg {n:Nat} {i:Int} (h1:Bt n i):Bt n (-i):=by
 unfold Bt at *
 omega
theorem Bt.le {n:Nat} {i j:Int} (h:Bt n j) (q:i.natAbs<=j.natAbs):Bt n i:=Nat.lt_of_le_of_lt q h
theorem Bt.of {n:Nat} {i:Int} (b:Nat) (h1:-(b:Int)<=i) (h2:i<=(b:Int)) (h:b<2^n:=by ac_rfl):Bt n i:=by
 unfold Bt
 exact Nat.lt_of_le_of_lt (by omega) h
theorem Bt.log {n:Nat} {i:Int} (h:Bt n i) (q:n<=9000:=by decide):i.natAbs.log2<9000:=by
 by_cases z:i.natAbs=0
 ·rw[z];decide
 ·exact aat ((Nat.log2_lt z).mpr h) q
theorem eN {i j:Int} (h1:-(2^64)<i:=by decide) (h2:i<2^64:=by decide):IntMulOk i j:=.of_left (intBits_le_64 h1 h2)
theorem nS {i j:Int} (h1:-(2^64)<j:=by decide) (h2:j<2^64:=by decide):IntMulOk i j:=.of_right (intBits_le_64 h1 h2)
section
variable {X : Cx}
theorem cU:my X (binaryOp .Mult) (rI IntMulOk λi j=>.int (i*j)):=M4 λ_ _ _ _ _ _ _ hc q=>mul_int q hc
noncomputable def dB (_ j:Int):Prop:=0<j/\j.natAbs.log2<9000
theorem dB.of {i j:Int} {n:Nat} (h:0<j) (b:Bt n j) (q:n<=9000:=by decide):dB i j:=⟨h,b.log q⟩
theorem dB.lit {i j:Int} (h:0<j:=by decide) (q:j.natAbs.log2<9000:=by decide):dB i j:=⟨h,q⟩
theorem b7:my X (binaryOp .FloorDiv) (rI dB λi j=>.int (i / j)):=M4 λi j _ _ _ _ _ hc q=>by
 have h1:(0:Int)<j:=hc.1
 exact floordiv_int (by omega) (by rw[Int.fdiv_eq_ediv_of_nonneg i (by omega)];exact q) (.inl (PyProof.noPylong_of_log2 hc.2))
noncomputable def qx (_ j:Int):Prop:=j≠0/\j.natAbs.log2<9000
theorem qx.of {i j:Int} {n:Nat} (h:j≠0) (b:Bt n j) (q:n<=9000:=by decide):qx i j:=⟨h,b.log q⟩
theorem wd:my X (binaryOp .FloorDiv) (rI qx λi j=>.int (i.fdiv j)):=M4 λ_ _ _ _ _ _ _ hc q=>floordiv_int hc.1 q (.inl (PyProof.noPylong_of_log2 hc.2))
theorem bE:my X (binaryOp .Mod) (rI (λ_ j=>0<j) λi j=>.int (i % j)):=Hu
noncomputable def rIxTH:R2:=λx y H Q=>∃p xs i v,x=.ref p/\y=.int i/\H p=some (.tup xs)/\jV xs i=some v/\Q v H
theorem au:Gv X rIxTH:=λvalue slice pins s σ H x y v u Q I rx ry ⟨p,xs,i,z,e1,e2,e3,e4,q⟩ hs=>
 Hy value slice pins s σ H x y v u Q I rx ry ⟨p,xs,i,z,e1,e2,gh.of e3,e4,q⟩ hs
noncomputable def rIxLH:R2:=λx y H Q=>∃p xs i v,x=.ref p/\y=.int i/\H p=some (.lst xs)/\jV xs i=some v/\Q v H
theorem bw:Gv X rIxLH:=λvalue slice pins s σ H x y v u Q I rx ry ⟨p,xs,i,z,e1,e2,e3,e4,q⟩ hs=>
 zy value slice pins s σ H x y v u Q I rx ry ⟨p,xs,i,z,e1,e2,bD.of e3,e4,q⟩ hs
noncomputable def tTupS (t:TA):TE:=λσ H Q=>t σ H λxs H1=>xs.length<=sizeLine/\∀p H2,aA H1 H2->H1 p=none->H2 p=some (.tup xs)->Q (.ref p) H2
theorem ae {H:Hp} {p:Addr} {o:HO} (h:H p=none):aA H (upd H p o):=λb u e=>by
 rw[aB (fm e h)]
 exact e
theorem aX {es:List Expr} {t:TA} {x1} {pos:Pos} (h:PA X es t):PE X (.Tuple es x1 pos) (tTupS t):=λpins s σ H Q I hq=>
 cL (h:=wpAny_Tuple_spliced (cL (h pos pins s σ H _ I hq) λus s1 ⟨xs,H1,I1,r,z,q⟩=>⟨by rw[<-r.length];exact z,by
  have hf:H1 s1.heap.objs.size=none:=I1.bN.fresh (aaf _)
  refine⟨.ref s1.heap.objs.size,upd H1 s1.heap.objs.size (.tup xs),I1.laid (t':=s1.toks) (λb u e=>Heap.get?_push_of_some _ e) (aaf _) ?_,rfl,q _ _ (ae hf) hf aj⟩
  exact⟨z,us,r,⟨_,Heap.get?_push_size _ rfl,rfl,_,rfl⟩⟩⟩)) λ_ _ z=>z
theorem bL:dz X (.builtin "len") (λxs H Q=>∃p ys,xs=[.ref p]/\H p=some (.lst ys)/\Q (.int ys.length) H):=λpins s σ H xs us Q I r ⟨p,ys,e,h,q⟩=>
 mC pins s σ H xs us Q I r ⟨p,ys,e,.inl (bD.of h),q⟩
theorem AZ:dz X (.builtin "len") (λxs H Q=>∃p ns,xs=[.ref p]/\bD X.K H p (List.map V.int ns)/\Q (.int (List.length ns:Nat)) H):=λpins s σ H xs us Q I r ⟨p,ns,e,h,q⟩=>
 mC pins s σ H xs us Q I r ⟨p,_,e,.inl h,by rw[aad];exact q⟩
noncomputable def HJ (K:PySem.W.Frag):R2:=λx y H Q=>∃p ns i,x=.ref p/\y=.int i/\bD K H p (List.map V.int ns)/\0<=i/\i< (List.length ns:Nat)/\Q (.int (ns.getD i.toNat 0)) H
theorem we {ns:List Int} {i:Int} (h0:0<=i) (h1:i< (ns.length:Nat)):jV (ns.map V.int) i=some (.int (ns.getD i.toNat 0)):=by
 obtain⟨j,rfl⟩:=Int.eq_ofNat_of_zero_le h0
 refine dj ?_
 have hj:j<ns.length:=by omega
 rw[aae,aax hj]
 simp [aaO,aax hj]
theorem Cg:Gv X (HJ X.K):=λvalue slice pins s σ H x y v u Q I rx ry ⟨p,ns,i,e1,e2,e3,h0,h1,q⟩ hs=>
 zy value slice pins s σ H x y v u Q I rx ry ⟨p,_,i,_,e1,e2,e3,we h0 h1,q⟩ hs
structure c6 (P:Program) (w:World) (K:PySem.W.Frag) (mg:Str->Option Value) (base:Heap) (CX:pd) (k:Nat) (x:Str) (ps:List Str) (sp:Sp):Prop where
 ex:∃f fd,fX P w K mg base CX k f fd ps sp/\mg x=some (.ref f)/\PySem.W.keepIn K (.ref f)=true/\Binds K fd ps []
theorem bg {CX:pd} {k:Nat} {x:Str} {ps:List Str} {sp:Sp} {E:XK} {e:Expr} {es:List Expr} {t:TA} {p pos:Pos} (C:c6 X.prog X.w X.K X.mg X.base CX k x ps sp) (hr:dM k X.A) (hg:Gl X x) (hx:eL CX X E) (ha:PA X (e::es) t)
  (qr:(x==("__debug__":Str))=false:=by decide) (he:starEach (e::es) X.env=(false,eval e X.env)::starEach es X.env:=by rfl) (hpl:(backTo pos (starEach es X.env)).any (·.1)=false:=by rfl):
  PE X (.Call (.Name x p) (e::es) [] pos) (tCall sp [] E t):=by
 obtain⟨f,fd,F,hm,hk,hb⟩:=C.ex
 exact EC F hr hg hm hk hb .nil hx ha qr he hpl
end
noncomputable def uF (CX:pd):Prop:=∀outer H s e s',¬CX outer H s (λ_ _ _=>False) e s'
theorem uF.pass {CX:pd} (h:uF CX) {X:Cx}:eL CX X E0:=λ_ _ H s e s' _ z=>(h _ H s e s' z).elim
section
variable {P : Program} {w : World} {K : PySem.W.Frag} {mg : Str -> Option Value} {base : Heap} {CX : pd}
theorem zB.gJ {x qual:Str} {st:Stmt} {f:Addr} {fd:FuncData} {N ps:List Str} {k:Nat} {sp:Sp} (F:zB K x qual st f fd) (S:aY N ps (aq st)) (len:∀vs H Q E,sp vs H Q E->vs.length=ps.length)
  (vU:∀(bZ:Value) (A:Around) (outer:List Env) (s:Shared) (H:Hp) (vs:List V) (Q:VK) (E:XK),dM k (A.deeper (envOfC qual (aq st) s.heap.objs.size f bZ))->sp vs H Q E->
   ∃t,tG (dN CX P w K mg base N qual (aq st) f bZ A outer s H E).Ju (aV st) t/\t {nx:=λ_ H'=>Q .dG H',rt:=Q} (start N vs) H):fX P w K mg base CX (k+1) f fd ps sp:=by
 obtain⟨oc,od,kV,doc,pm,an,bZ,ct,EF,rfl,lk,AF⟩:=F.ex
 refine Gu lk AF S len λA outer s H vs Q E hr DZ=>?_
 obtain⟨t,h,q⟩:=vU bZ A outer s H vs Q E hr DZ
 exact⟨t,h.Ju,q⟩
structure Dn (K:PySem.W.Frag) (mg:Str->Option Value) (x:Str) (st:Stmt):Prop where
 ex:∃f fd,zB K x x st f fd/\mg x=some (.ref f)
theorem Dn.fC {x:Str} {st:Stmt} {ps:List Str} {k:Nat} {sp:Sp} (D:Dn K mg x st)
  (hb:∀(kV doc pm:Value) (an:Option Addr) (bZ ct:Value) (us:List Value),us.length=ps.length->bindArgs (PySem.W.fnOf x x (aW st) (aV st) (aq st) .none kV doc pm an bZ ct) ⟨us,[]⟩=pure (ps.zip us))
  (h:∀f fd,zB K x x st f fd->fX P w K mg base CX k f fd ps sp):c6 P w K mg base CX k x ps sp:=by
 obtain⟨f,fd,F,hm⟩:=D.ex
 exact⟨f,fd,h f fd F,hm,F.kp,F.binds hb⟩
end
section
variable {X : Cx}
noncomputable def Vn (xs ys:List V):Bool:=(List.range (min xs.length ys.length)).all (λj=>Vj (xs.getD j .dG) (ys.getD j .dG)) && xs.length==ys.length
noncomputable def rEqT:R2:=λx y H Q=>∃p q xs ys,x=.ref p/\y=.ref q/\H p=some (.tup xs)/\H q=some (.tup ys)/\xs.all tQ=true/\ys.all tQ=true/\Q (.bl (Vn xs ys)) H
noncomputable def rInT:R2:=λx y H Q=>∃p xs,y=.ref p/\H p=some (.tup xs)/\tQ x=true/\xs.all tQ=true/\Q (.bl (XD x xs)) H
theorem Ci:dz X (.builtin "isinstance") (λxs H Q=>∃x c t b,xs=[x,.ty c]/\i5 X.K H x t/\PySem.W.kitOne X.K t (.type c)=some b/\Q (.bl b) H):=by
 intro pins s σ H xs us Q I r h
 obtain⟨x,c,t,b,rfl,ty,e,q⟩:=h
 obtain⟨u,u',rfl,rx,rc⟩:=vals2 r
 cases rc
 exact AM I rx ty e λtk=>⟨.bl b,H,I.tok tk,rfl,q⟩
end
theorem at0 {α:Type} {x:α} {l:List α}:jV (x::l) 0=some x:=dj (j:=0) rfl
theorem at1 {α:Type} {x y:α} {l:List α}:jV (x::y::l) 1=some y:=dj (j:=1) rfl
theorem at2 {α:Type} {x y z:α} {l:List α}:jV (x::y::z::l) 2=some z:=dj (j:=2) rfl
noncomputable def Pr (a b:Int):List V:=[.int a,.int b]
theorem HK {K:PySem.W.Frag}:PySem.W.kitOne K (.type "tuple") (.type "tuple")=some true:=by unfold PySem.W.kitOne;rw[if_pos (by ac_rfl)]
theorem HL {K:PySem.W.Frag}:PySem.W.kitOne K (.type "str") (.type "str")=some true:=by unfold PySem.W.kitOne;rw[if_pos (by ac_rfl)]
theorem zC {K:PySem.W.Frag} {t c:String} {b:Bool} (h1:(Value.type t==Value.type c)=false:=by ac_rfl) (h2:PySem.W.kitMeta c=true:=by ac_rfl) (h3:(PySem.fastBuiltinMro t).map (·.contains (Value.type c))=some b:=by ac_rfl):
  PySem.W.kitOne K (.type t) (.type c)=some b:=by
 unfold PySem.W.kitOne PySem.W.kitCls PySem.W.subIn
 rw[if_neg (by rw[h1];decide)]
 dsimp only
 rw[if_pos h2]
 exact h3
end L2
namespace Nm
noncomputable def g (a b:Int):Int:=(Int.gcd a b:Nat)
theorem Om (a b:Int):0<=g a b:=Int.natCast_nonneg _
theorem Gx {a b:Int} (h:b≠0):0<g a b:=by
 have:=Int.gcd_pos_of_ne_zero_right a h
 unfold g
 omega
theorem uG (a b:Int):g a b∣a:=Int.gcd_dvd_left ..
theorem p9 (a b:Int):g a b∣b:=Int.gcd_dvd_right ..
theorem Cj (a b:Int):g a b=g b a:=by unfold g;rw[Int.gcd_comm]
theorem Kn {a b:Int} (h:0<b):g a b<=b:=Int.le_of_dvd h (p9 a b)
theorem Gy (a b:Int):g (a.natAbs:Int) b=g a b:=by
 unfold g Int.gcd
 rw[Int.natAbs_natCast]
theorem zD (a b:Int):g a (b.natAbs:Int)=g a b:=by
 rw[Cj,Gy,Cj]
theorem HM {a b:Int} (ha:0<=a) (_hb:0<b):g b (a % b)=g a b:=by
 unfold g Int.gcd
 rw[Int.natAbs_emod_of_nonneg ha,Nat.gcd_comm b.natAbs,<-Nat.gcd_rec,Nat.gcd_comm]
theorem HN {a:Int} (ha:0<=a):g a 0=a:=by
 unfold g
 rw[Int.gcd_zero_right]
 omega
theorem Ck {a b:Int} (h:b≠0):g a b<=(b.natAbs:Int):=by
 rw[<-zD]
 exact Kn (by omega)
theorem tV (a b:Int):(a / g a b)*b=a* (b / g a b):=by
 rw[<-Int.mul_ediv_assoc _ (p9 a b),Int.mul_comm a b,Int.mul_ediv_assoc _ (uG a b),Int.mul_comm]
theorem back {a b c d p q x y:Int} (hq:0<q) (hd:0<d) (e:p* (b*d)=(a*d - c*b)*q) (f:x* (q*d)=(p*d+c*q)*y):x*b=a*y:=by
 have h:(x*b)* (q*d)=(a*y)* (q*d):=by grind
 exact Int.eq_of_mul_eq_mul_right (by have:=Int.mul_pos hq hd;omega) h
end Nm
namespace L2
open PySem PySem.Spec PyProof.Rows PySem.W
theorem cG.get {P:Program} {w:World} {H:Hp} {h:Heap} {a:Addr}:∀{o:HO},cG P w H h a o->∃ob,h.get? a=some ob
 | .lst _,x=>let ⟨_,_,_,_,e⟩:=x;⟨_,e⟩
 | .tup _,x=>let ⟨_,_,_,o,e,_⟩:=x;⟨o,e⟩
 | .dK _,x=>let ⟨_,_,_,_,o,_,_,e,_⟩:=x;⟨o,e⟩
 | .dT _,x=>let ⟨_,_,_,_,o,_,_,e,_⟩:=x;⟨o,e⟩
 | .set _ _,x=>by
  obtain⟨o,es,ep,t,e,_⟩:=x
  exact⟨o,e⟩
 | .ins _ _ _,x=>let ⟨_,_,_,e,_⟩:=x;⟨_,e⟩
 | .own _,x=>x
 | .xd _,x=>by
  obtain⟨mA,⟨o,es,ep,e,_⟩,_⟩:=x
  exact⟨o,e⟩
 | .MV _ _,x=>let ⟨_,_,_,e⟩:=x;⟨_,e⟩
 | .vG _ _,x=>⟨_,x.1⟩
 | .zj _,⟨_,x,_⟩=>⟨_,x⟩
 | .met _ _,x=>⟨_,x⟩
 | .ext _,x=>x.2.1
theorem hJ.HP {P:Program} {w:World} {H:Hp} {h h' B:Heap} (ok:hJ P w H h) (hB:∀b u o,H b=some u->h.get? b=some o->B.get? b=some o) (st:B.StaysIn h'):hJ P w H h':=λa o e=>
 (ok a o e).sj (λb u hb q=>st b u (by
  rcases hb with rfl | hb
  ·exact hB _ _ _ e q
  ·exact hB _ _ _ hb q)) (λ_ r=>r) λ_ _ r=>r
structure ES (P:Program) (w:World) (l:List Env) (H:Hp) (s:Shared) (H':Hp) (ad:Addr) (cls:Value) (s':Shared):Prop where
 os:s'.os=s.os
 bare:AllBare s'.gens
 un:Un (dY l) [] H H' s.heap s'.heap
 bN:hJ P w H' s'.heap
 fl:∃B a0,Heap.FlyingW B l ad cls a0 s'.heap/\(∀b o,s.heap.get? b=some o->H b=none->b∉dY l->B.get? b=some o)/\(∀b o,s.heap.get? b=some o->b∉dY l->∃o',B.get? b=some o')/\
  (∀b u o,H' b=some u->s'.heap.get? b=some o->B.get? b=some o)
noncomputable def bG (P:Program) (w:World):pd:=λl H s E e s'=>∃ad cls H',e=.ref ad/\ES P w l H s H' ad cls s'/\E cls none H'
theorem zE (P:Program) (w:World):uF (bG P w):=λ_ _ _ _ _ ⟨_,_,_,_,_,h⟩=>h
section
variable {P : Program} {w : World} {K : PySem.W.Frag} {mg : Str -> Option Value} {base : Heap} {N : List Str} {qual : Str} {scope : Scope} {f : Addr} {bZ : Value} {A : Around} {outer : List Env} {s0 : Shared} {H0 : Hp} {E : XK}
theorem Cm {pins:List (Addr×Obj)} {σ:St} {H:Hp} {s:Shared} {h':Heap} {ad:Addr} {cls:Value} {vs:List Value}
  (I:Inv (dN (bG P w) P w K mg base N qual scope f bZ A outer s0 H0 E) pins σ H s) (mx:Heap.MadeExcOf s.heap h' ad cls vs) (e:E cls none H):
  (dN (bG P w) P w K mg base N qual scope f bZ A outer s0 H0 E).xe (.ref ad) {s with heap:=h'}:=by
 let env:Env:=envOfC qual scope s0.heap.objs.size f bZ
 have yd:∀b o,s0.heap.get? b=some o->b∉dY outer->b∉dY (env::outer):=λb o q hb z=>by
  rcases List.mem_cons.mp (show b∈s0.heap.objs.size::dY outer from z) with z | z
  ·rw[z] at q
   exact absurd (Heap.lt_size q) (aaA _)
  ·exact hb z
 have Nf:∀b,b∈dY outer->b∈dY (env::outer):=λb hb=>List.mem_cons.mpr (.inr hb)
 have ST:s.heap.FunFrames base (env::outer):=I.stack
 have SF:∀b∈dY (env::outer),H b=none:=I.pY
 have BS:Un (dY outer) [] H0 H s0.heap s.heap:=I.base
 show wpAny (model P w) (A.deeper env) (leaving env (.ref ad)) (λ_ sy=>bG P w outer H0 s0 E (.ref ad) sy) (λe' sy=>bG P w outer H0 s0 E e' sy) {s with heap:=h'}
 refine wpAny_leaves_madeW (base:=hideAll s.heap (dY (env::outer))) (h:=s.heap) (L:=s0.heap.objs.size) I.ok.frames rfl (λb o q=>of_hideAll _ q)
  (funFrames_hide ST λen he a ha=>List.mem_filterMap.mpr ⟨en,he,ha⟩) mx λh2 t x1 _ _ x4=>?_
 have x4:Heap.UpToSlots h' h2:=x4
 have fr:∀b∈dY (env::outer),∀o,s.heap.get? b=some o->∃sl,h2.get? b=some {o with slots:=sl}:=λb hb o q=>by
  obtain⟨_,o1,q1,nf⟩:=ST.mem hb
  rw[q] at q1
  cases q1
  exact x4 b o (mx.keeps b o q) nf
 refine⟨ad,cls,H,rfl,⟨I.os,I.bare,⟨λb o q n hb hx=>?_,λb o q n hb hx=>?_,BS.free,λb o q hx=>?_,BS.iF,BS.hU,BS.iZ⟩,?_,⟨_,_,x1,λb o q n hb=>?_,λb o q hb=>?_,λb u o e1 q=>?_⟩⟩,e⟩
 ·exact x1.1 b o (hideAll_get _ (BS.keep b o q n hb hx) (yd b o q hb))
 ·obtain⟨sl,q1⟩:=BS.slot b o q n hb hx
  obtain⟨x8,q2⟩:=fr b (Nf b hb) _ q1
  exact⟨x8,q2⟩
 ·obtain⟨o1,q1⟩:=BS.there b o q hx
  by_cases hb:b∈dY (env::outer)
  ·obtain⟨x8,q2⟩:=fr b hb _ q1
   exact⟨_,q2⟩
  ·exact⟨o1,x1.1 b o1 (hideAll_get _ q1 hb)⟩
 ·exact hJ.HP I.bN (λb u o e1 q=>hideAll_get _ q λz=>by
   have:=SF b z
   rw[e1] at this
   cases this) x1.1
 ·exact hideAll_get _ (BS.keep b o q n hb (by simp)) (yd b o q hb)
 ·obtain⟨o1,q1⟩:=BS.there b o q (by simp)
  exact⟨o1,hideAll_get _ q1 (yd b o q hb)⟩
 ·obtain⟨o1,q1⟩:=(I.bN b u e1).get
  have q2:=hideAll_get (dY (env::outer)) q1 λz=>by
   have:=SF b z
   rw[e1] at this
   cases this
  have q3:=x1.1 b o1 q2
  rw[q] at q3
  cases q3
  exact q2
theorem mE:eL (bG P w) (dN (bG P w) P w K mg base N qual scope f bZ A outer s0 H0 E) E:=by
 intro pins σ H s e s' I c
 let env:Env:=envOfC qual scope s0.heap.objs.size f bZ
 obtain⟨ad,cls,H',rfl,F,he⟩:=c
 have yd:∀b o,s0.heap.get? b=some o->b∉dY outer->b∉dY (env::outer):=λb o q hb z=>by
  rcases List.mem_cons.mp (show b∈s0.heap.objs.size::dY outer from z) with z | z
  ·rw[z] at q
   exact absurd (Heap.lt_size q) (aaA _)
  ·exact hb z
 have Nf:∀b,b∈dY outer->b∈dY (env::outer):=λb hb=>List.mem_cons.mpr (.inr hb)
 have ST:s.heap.FunFrames base (env::outer):=I.stack
 have BS:Un (dY outer) [] H0 H s0.heap s.heap:=I.base
 have FU:Un (dY (env::outer)) [] H H' s.heap s'.heap:=F.un
 obtain⟨B,a0,fl,c0,c2,c1⟩:=F.fl
 have fl:Heap.FlyingW B (env::outer) ad cls a0 s'.heap:=fl
 have c0:∀b o,s.heap.get? b=some o->H b=none->b∉dY (env::outer)->B.get? b=some o:=c0
 have c2:∀b o,s.heap.get? b=some o->b∉dY (env::outer)->∃o',B.get? b=some o':=c2
 show wpAny (model P w) (A.deeper env) (leaving env (.ref ad)) (λ_ sy=>bG P w outer H0 s0 E (.ref ad) sy) (λe' sy=>bG P w outer H0 s0 E e' sy) s'
 refine wpAny_leaves_onW (L:=s0.heap.objs.size) I.ok.frames rfl fl λh2 x1 x2=>?_
 have fr:∀b∈dY (env::outer),∀o,s'.heap.get? b=some o->∃sl,h2.get? b=some {o with slots:=sl}:=λb hb o q=>by
  obtain⟨_,o1,q1,nf⟩:=fl.2.2.1.mem hb
  rw[q] at q1
  cases q1
  exact x2 b o q nf
 refine⟨ad,cls,H',rfl,⟨F.os.trans I.os,F.bare,⟨λb o q n hb hx=>?_,λb o q n hb hx=>?_,λb o q n hx=>?_,λb o q hx=>?_,λb xs q=>FU.iF b xs (BS.iF b xs q),λb o u q=>FU.hU b o u (BS.hU b o u q),λb ps q=>?_⟩,F.bN.HP c1 x1.1,
  ⟨B,a0,x1,λb o q n hb=>?_,λb o q hb=>?_,λb u o e1 q=>?_⟩⟩,he⟩
 ·exact x1.1 b o (c0 b o (BS.keep b o q n hb hx) (BS.free b o q n hx) (yd b o q hb))
 ·obtain⟨sl,q1⟩:=BS.slot b o q n hb hx
  obtain⟨Vo,q2⟩:=FU.slot b _ q1 (BS.free b o q n hx) (Nf b hb) hx
  obtain⟨x8,q3⟩:=fr b (Nf b hb) _ q2
  exact⟨x8,q3⟩
 ·obtain⟨o1,q1⟩:=BS.there b o q hx
  exact FU.free b o1 q1 (BS.free b o q n hx) hx
 ·obtain⟨o1,q1⟩:=BS.there b o q hx
  by_cases hb:b∈dY (env::outer)
  ·obtain⟨o2,q2⟩:=FU.there b o1 q1 hx
   obtain⟨x8,q3⟩:=fr b hb _ q2
   exact⟨_,q3⟩
  ·obtain⟨o2,q2⟩:=c2 b o1 q1 hb
   exact⟨o2,x1.1 b o2 q2⟩
 ·obtain⟨m1,e1⟩:=BS.iZ b ps q
  obtain⟨m2,e2⟩:=FU.iZ b _ e1
  exact⟨m1++m2,by rw[e2,Array.append_assoc]⟩
 ·exact c0 b o (BS.keep b o q n hb (by simp)) (BS.free b o q n (by simp)) (yd b o q hb)
 ·obtain⟨o1,q1⟩:=BS.there b o q (by simp)
  exact c2 b o1 q1 (yd b o q hb)
 ·obtain⟨o1,q1⟩:=(F.bN b u e1).get
  have q2:=c1 b u o1 e1 q1
  have q3:=x1.1 b o1 q2
  rw[q] at q3
  cases q3
  exact q2
end
end L2
namespace L2
open PySem PySem.Spec PyProof.Rows PySem.W
set_option tactic.hygienic true in
theorem ET {K:Frag} {h:Heap} {C:Addr} {Vp:List Value} {newId:String} (X:K.In h) (q:excIn K C Vp newId=true):
  ∃tl N nm qn bs hdct sn sub ab col dd k0 k1 k2 k3 k5 mN,h.get? C=some (excClassObj nm qn C N bs tl hdct sn sub ab col dd k0 k1 k2 k3 k5 newId)/\h.Ns N mN/\mN "__init__"=none/\OwnTail h Vp tl:=by
 unfold excIn at q
 split at q
 ·rename_i dd cd sl ho
  split at q
  ·rename_i C' bm k0 k1 k2 k3 n k5 hm hs
   simp only[aaI,beq_iff_eq,Bool.not_eq_true'] at q
   obtain⟨⟨⟨⟨⟨rfl,rfl⟩,Ko⟩,ht⟩,bN⟩,Ng⟩:=q
   obtain⟨nm,bs,mro,ns,qn,hd,sn,sub,ab,col,del⟩:=cd
   dsimp only at hm Ko bN Ng
   subst hm Ko
   have XI:sl=#[k0,k1,k2,k3,some (.builtin n),k5]:=by
    obtain⟨l⟩:=sl
    simp only at hs
    rw[hs]
   subst XI
   exact⟨bm,ns,nm,qn,bs,hd,sn,sub,ab,col,dd,k0,k1,k2,k3,k5,_,X _ _ ho,.of_isNs (isNs_of_in X bN),nsMap_none_of_in X bN Ng,tail_of_in X ht⟩
  ·cases q
 ·cases q
abbrev uH:List Value:=[.type "ValueError",.type "Exception",.type "BaseException",.type "object"]
abbrev mF:String:="ValueError.__new__"
noncomputable def tRaise (C:Addr) (E:XK) (t:TA):TS:=λ_ σ H=>t σ H λvs H1=>vs.length<=sizeLine/\E (.ref C) none H1
section
variable {P : Program} {w : World} {K : PySem.W.Frag} {mg : Str -> Option Value} {base : Heap} {N : List Str} {qual : Str} {scope : Scope} {f : Addr} {bZ : Value} {A : Around} {outer : List Env} {s0 : Shared} {H0 : Hp} {E : XK}
theorem hZ {x:Str} {C:Addr} {np eW pos:Pos} {e:Expr} {es:List Expr} {t:TA} (hg:Gl (dN (bG P w) P w K mg base N qual scope f bZ A outer s0 H0 E) x) (hm:mg x=some (.ref C)) (q:excIn K C uH mF=true)
  (hh:A.handled=none) (ha:PA (dN (bG P w) P w K mg base N qual scope f bZ A outer s0 H0 E) (e::es) t) (qr:(x==("__debug__":Str))=false:=by decide)
  (he:starEach (e::es) (dN (bG P w) P w K mg base N qual scope f bZ A outer s0 H0 E).env=(false,eval e (dN (bG P w) P w K mg base N qual scope f bZ A outer s0 H0 E).env)::starEach es (dN (bG P w) P w K mg base N qual scope f bZ A outer s0 H0 E).env:=by rfl)
  (hpl:(backTo eW (starEach es (dN (bG P w) P w K mg base N qual scope f bZ A outer s0 H0 E).env)).any (·.1)=false:=by rfl):
  PS (dN (bG P w) P w K mg base N qual scope f bZ A outer s0 H0 E) (.Raise (some (.Call (.Name x np) (e::es) [] eW)) none pos) (tRaise C E t):=by
 intro pins s σ H D I h
 have FB:=PySem.F.excBase_ValueError
 obtain⟨tl,Nn,nm,qn,bs,hdct,sn,sub,ab,col,dd,k0,k1,k2,k3,k5,mN,hC,hN,Ng,T⟩:=ET I.ok.mod.Hi q
 refine wpAny_Raise_call_subT (C:=C) (nm:=nm) (q:=qn) (N:=Nn) (bs:=bs) (bm:=tl) (hdct:=hdct) (sn:=sn) (sub:=sub) (ab:=ab) (col:=col) (dd:=dd) (k0:=k0) (k1:=k1) (k2:=k2) (k3:=k3) (k5:=k5)
  FB (mN:=mN) (T.hasType FB.hasBase) hh (by rw[he];show(false || (backTo eW (starEach es _)).any (·.1))=false;rw[hpl];rfl) Ng (gI I hg hm ⟨rfl,?_⟩ qr)
 rw[he]
 have Vq:=ha eW pins s σ H _ I h
 rw[he] at Vq
 refine Calls.evalArgs_plain (cL Vq λus s1 ⟨vs,H1,I1,r,z,k⟩=>⟨rfl,by rw[<-r.length];exact z,I1.bk _ _ hC,hN.keeps I1.bk,T.keeps I1.bk,λh' ad mx=>?_⟩)
 exact Cm I1 mx k
end
section
variable {X : Cx} {pins : List (Addr × Obj)} {σ : St} {H H' : Hp} {s s' : Shared}
abbrev Cx.mark (X:Cx) (ad:Addr):Cx:={X with A:=X.A.mark (some (.ref ad)),calm:=false,xe:=λ_ _=>False}
theorem Inv.mark (I:Inv X pins σ H s) (ad:Addr):Inv (X.mark ad) pins σ H s:=
 ⟨⟨I.ok.mod,I.ok.kind,I.ok.glob,I.ok.blt,I.ok.above,I.ok.inj,I.ok.has,I.ok.Hj,λz=>(aaw z).elim,I.ok.frames,I.ok.Jt,I.ok.MX,I.ok.bs,I.ok.BO,I.ok.xI,I.ok.AD,I.ok.mr,I.ok.Eo⟩,
  I.os,I.bare,I.base,I.loc,I.cell,I.free,I.gH,I.pin,I.bN,I.len⟩
theorem Inv.unmark {ad:Addr} (ok:X.Ok) (I:Inv (X.mark ad) pins σ H s):Inv X pins σ H s:=⟨ok,I.os,I.bare,I.base,I.loc,I.cell,I.free,I.gH,I.pin,I.bN,I.len⟩
noncomputable def Jx (ad:Addr) (cls:Value):HO:=.ext λh=>∃o vs,h.get? ad=some o/\o.cls=cls/\o.data=.fields vs
theorem ES.new {P:Program} {w:World} {l:List Env} {ad:Addr} {cls:Value} (F:ES P w l H s H' ad cls s'):s.heap.get? ad=none:=by
 obtain⟨B,a0,fl,c0,c2,c1⟩:=F.fl
 cases q:s.heap.get? ad with
 | none=>rfl
 | some o=>
  by_cases hb:ad∈dY l
  ·obtain⟨_,o1,q1,nf⟩:=fl.2.2.1.mem hb
   obtain⟨oe,vs,he,_,hd,_⟩:=fl.first
   rw[q1] at he
   cases he
   exact absurd hd (nf _)
  ·obtain⟨o',q'⟩:=c2 ad o q hb
   rw[fl.2.1] at q'
   cases q'
theorem ES.tracked {P:Program} {w:World} {l:List Env} {ad:Addr} {cls:Value} (F:ES P w l H s H' ad cls s'):H' ad=none:=by
 obtain⟨B,a0,fl,c0,c2,c1⟩:=F.fl
 cases q:H' ad with
 | none=>rfl
 | some u=>
  obtain⟨o,e⟩:=(F.bN ad u q).get
  have:=c1 ad u o q e
  rw[fl.2.1] at this
  cases this
theorem ES.inv {ad:Addr} {cls:Value} (F:ES X.prog X.w X.stack H s H' ad cls s') (I:Inv X pins σ H s) {B h6:Heap} {a0:Value} (fl:Heap.FlyingW B X.stack ad cls a0 s'.heap)
  (c0:∀b o,s.heap.get? b=some o->H b=none->b∉dY X.stack->B.get? b=some o) (c2:∀b o,s.heap.get? b=some o->b∉dY X.stack->∃o',B.get? b=some o')
  (c1:∀b u o,H' b=some u->s'.heap.get? b=some o->B.get? b=some o) (st:B.StaysIn h6) (up:s'.heap.UpToSlots h6):Inv X pins σ H' {s' with heap:=h6}:=by
 have fr:∀b∈dY X.stack,∀o,s'.heap.get? b=some o->∃sl,h6.get? b=some {o with slots:=sl}:=λb hb o q=>by
  obtain⟨_,o1,q1,nf⟩:=fl.2.2.1.mem hb
  rw[q] at q1
  cases q1
  exact up b o q nf
 refine I.Gn (s':={s' with heap:=h6}) (ch:=[]) F.os ⟨λb o q n hb _=>st b o (c0 b o q n hb),λb o q n hb hx=>?_,F.un.free,λb o q hx=>?_,F.un.iF,F.un.hU,F.un.iZ⟩ (F.bN.HP c1 st) F.bare (λb hb=>absurd hb (by simp))
 ·obtain⟨sl,q1⟩:=F.un.slot b o q n hb hx
  obtain⟨x8,q2⟩:=fr b hb _ q1
  exact⟨x8,q2⟩
 ·by_cases hb:b∈dY X.stack
  ·obtain⟨o2,q2⟩:=F.un.there b o q hx
   obtain⟨x8,q3⟩:=fr b hb _ q2
   exact⟨_,q3⟩
  ·obtain⟨o2,q2⟩:=c2 b o q hb
   exact⟨o2,st b o2 q2⟩
theorem Inv.adopt {ad:Addr} {φ:Heap->Prop} (I:Inv X pins σ H' s') (I0:Inv X pins σ H s) (new:s.heap.get? ad=none) (hn:H' ad=none) (ho:∃o,s'.heap.get? ad=some o) (p:φ s'.heap)
  (hst:∀h1 h2:Heap,φ h1->(∀o,h1.get? ad=some o->h2.get? ad=some o)->φ h2):Inv X pins σ (upd H' ad (.ext φ)) s':=by
 have ne:∀b o,s.heap.get? b=some o->b≠ad:=λb o e z=>by rw[z,new] at e;cases e
 have tk:∀b u,H' b=some u->b≠ad:=λb u e z=>by rw[z,hn] at e;cases e
 have Vr:∀b o,b∉X.ex->X.s₀.heap.get? b=some o->b≠ad:=λb o hx e=>by
  obtain⟨o',e'⟩:=I0.base.there b o e hx
  exact ne b o' e'
 refine⟨I.ok,I.os,I.bare,⟨I.base.keep,I.base.slot,λb o e n hx=>?_,I.base.there,λb xs e=>?_,λb o u e=>?_,λb ps e=>?_⟩,I.loc,I.cell,?_,λy c e=>?_,λq hq=>?_,λb u e=>?_,I.len⟩
 ·rw[aB (Vr b o hx e)]
  exact I.base.free b o e n hx
 ·rw[aB (tk _ _ (I.base.iF b xs e))]
  exact I.base.iF b xs e
 ·rw[aB (tk _ _ (I.base.hU b o u e))]
  exact I.base.hU b o u e
 ·obtain⟨m,e1⟩:=I.base.iZ b ps e
  exact⟨m,by rw[aB (tk _ _ e1)];exact e1⟩
 ·obtain⟨m,⟨o,es,ep,hl,_⟩,_⟩:=I0.loc
  rw[aB (ne _ _ hl)]
  exact I.free
 ·obtain⟨v,o,hc,_⟩:=I0.cell y c e
  rw[aB (ne _ _ hc)]
  exact I.gH y c e
 ·obtain⟨e,n,r⟩:=I.pin q hq
  refine⟨e,?_,r⟩
  rw[aB (ne _ _ (I0.pin q hq).1)]
  exact n
 ·by_cases hb:b=ad
  ·subst hb
   rw[aj] at e
   cases e
   exact⟨p,ho,hst⟩
  ·rw[aB hb] at e
   exact(I.bN b u e).sj (λ_ _ _ q=>q) (λc r=>by rw[aB (tk _ _ r)];exact r) λc xs r=>by rw[aB (tk _ _ r)];exact r
end
section
variable {X : Cx} {CX : pd} {k : Nat} {x : Str} {ps : List Str} {sp : Sp} {E : XK} {e : Expr} {es : List Expr} {t : TA} {p pos : Pos}
theorem EU {pins:List (Addr×Obj)} {σ:St} {H:Hp} {s:Shared} {Q:VK} {Ex:Value->Shared->Prop} (C:c6 X.prog X.w X.K X.mg X.base CX k x ps sp) (hr:dM k X.A) (hg:Gl X x) (ha:PA X.Ju (e::es) t) (I:Inv X pins σ H s)
  (h:t σ H λvs H1=>sp vs H1 Q E) (hx:∀H1 s1 e s',Inv X pins σ H1 s1->CX X.stack H1 s1 E e s'->Ex e s')
  (qr:(x==("__debug__":Str))=false:=by decide) (he:starEach (e::es) X.env=(false,eval e X.env)::starEach es X.env:=by rfl) (hpl:(backTo pos (starEach es X.env)).any (·.1)=false:=by rfl):
  wpAny (model X.prog X.w) X.A (eval (.Call (.Name x p) (e::es) [] pos) X.env) (EP X pins σ Q) Ex s:=by
 obtain⟨f,fd,F,hm,hk,hb⟩:=C.ex
 refine wpAny_Call_Name_kw (gI I hg hm ?_ qr)
 refine PySem.W.callWith_K (h₀:=X.base) I.ok.mod.Hi hk (wpAny_mono (ha pos pins s σ H _ (I.jT _) h) (λus s1 ⟨vs,H1,I1,r,q⟩=>⟨I1.fI.lC,?_⟩) λ_ _ z=>z.elim) he hpl
 have I1:=I1.fI
 have hl:us.length=ps.length:=by rw[<-r.length];exact F.len _ _ _ _ q
 have Vs:=hb s1 us I1.lC (by rw[aaT];exact hl)
 rw[aaT] at Vs
 refine wpAny_call (codeAny_mono (F.run X.A X.stack s1 H1 ⟨us,[]⟩ us vs Q E hr I1.B3 Vs r q) λr s' hq=>?_)
 cases r with
 | error e=>exact hx H1 s1 e s' I1 hq
 | ok fl=>
  cases fl with
  | ret u=>exact I1.after hq
  | next=>exact False.elim hq
  | brk=>exact False.elim hq
  | cont=>exact False.elim hq
variable {cx n : Str} {np EV Kq sx : Pos} {b₀ : Stmt} {tW : List Stmt} {i : Nat} {ts : TS} {C2 : Addr}
end
end L2
namespace Nm
noncomputable def st (a b:Int):Int:=if b<0 then -(a / g a b) else a / g a b
noncomputable def sb (a b:Int):Int:=if b<0 then -(b / g a b) else b / g a b
theorem Cn {a d:Int} (h:0<d):a.fdiv d=a / d:=Int.fdiv_eq_ediv_of_nonneg a (by omega)
theorem Co {a d:Int} (h:0<d) (dv:d∣a):a.fdiv (-d)= -(a / d):=by
 obtain⟨k,rfl⟩:=dv
 rw[Int.mul_ediv_cancel_left _ (by omega),show d*k=(-d)* (-k) by rw[Int.neg_mul_neg]]
 exact Int.mul_fdiv_cancel_left _ (by omega)
end Nm
namespace L2
open PySem PySem.Spec PyProof.Rows
section
variable {P : Program} {w : World} {K : PySem.W.Frag} {mg : Str -> Option Value} {base : Heap} {CX : pd}
theorem zB.Gz {x qual:Str} {st:Stmt} {f:Addr} {fd:FuncData} {N ps:List Str} {k:Nat} {sp:Sp} (F:zB K x qual st f fd) (S:aY N ps (aq st)) (len:∀vs H Q E,sp vs H Q E->vs.length=ps.length)
  (vU:∀(bZ:Value) (A:Around) (outer:List Env) (s:Shared) (H:Hp) (vs:List V) (Q:VK) (E:XK),dM k (A.deeper (envOfC qual (aq st) s.heap.objs.size f bZ))->sp vs H Q E->
   ∃t,tG (dN CX P w K mg base N qual (aq st) f bZ A outer s H E) (aV st) t/\t {nx:=λ_ H'=>Q .dG H',rt:=Q} (start N vs) H):fX P w K mg base CX (k+1) f fd ps sp:=by
 obtain⟨oc,od,kV,doc,pm,an,bZ,ct,EF,rfl,lk,AF⟩:=F.ex
 exact Gu lk AF S len λA outer s H vs Q E hr DZ=>vU bZ A outer s H vs Q E hr DZ
end
noncomputable def noStar:Expr->Bool
 | .Starred _ _=>false
 | _=>true
theorem se {e:Expr} {es:List Expr} {env:Env} (h:noStar e=true):starEach (e::es) env=(false,eval e env)::starEach es env:=by
 cases e <;>first | rfl | exact absurd h aaw
theorem na {env:Env} {pos:Pos}:∀{es:List Expr},es.all noStar=true->(backTo pos (starEach es env)).any (·.1)=false
 | [],_=>rfl
 | e::es,h=>by
  rw[List.all_cons,aaI] at h
  rw[se h.1]
  show(false || (backTo pos (starEach es env)).any (·.1))=false
  rw[na h.2]
  rfl
end L2
namespace L2
open PySem PySem.Spec PyProof.Rows PySem.W
structure Oo (K:PySem.W.Frag) (C:Addr):Prop where
 cls:(clsIn K C).isSome=true
 ga:findIn K (.ref C) "__getattribute__"=some (some (.builtin "BaseException.__getattribute__"))
 gt:findIn K (.ref C) "__getattr__"=some none
 cl:findIn K (.ref C) "__class__"=some (some (.builtin "object.__class__"))
 be:mroIn K C (.type "BaseException")=some true
 ob:mroIn K C (.type "object")=some true
section
variable {prog : Program} {w : World} {A : Around} {E : Value -> Shared -> Prop} {K : PySem.W.Frag} {h : Heap} {g : Array GenState} {d : Drawn} {t : Nat} {os : OsState} {a C : Addr} {o : Obj}
end
section
variable {X : Cx}
end
end L2
namespace L2
open PySem PySem.Spec PyProof.Rows
theorem lF {env:Env}:∀(names:List (Str×NameKind)) (cs:List (Str×Addr)),(∀n,(n,NameKind.free)∈names->∃c,env.cells.lookup n=some c)->(∀x c,cs.lookup x=some c->env.cells.lookup x=some c)->
  ∃cl,(forIn names cs fun(x:Str×NameKind) (r:List (Str×Addr))=>(if (x.2==NameKind.free)=true then do let c <-cellOf env x.1;pure (ForInStep.yield ((x.1,c)::r)) else pure (ForInStep.yield r):Sem (ForInStep (List (Str×Addr)))))=pure cl/\
   (∀x c,cl.lookup x=some c->env.cells.lookup x=some c)/\(∀n,((n,NameKind.free)∈names\/(cs.lookup n).isSome=true)->∃c,cl.lookup n=some c)/\(∀x c,(x,c)∈cl->(env.cells.lookup x=some c/\(x,NameKind.free)∈names)\/(x,c)∈cs)
 | [],cs,_,h=>⟨cs,rfl,h,(λn hn=>by
   rcases hn with hn | hn
   ·exact absurd hn (by simp)
   ·exact Option.isSome_iff_exists.mp hn),λx c m=>.inr m⟩
 | (n,k)::r,cs,hf,h=>by
  by_cases hk:k=.free
  ·subst hk
   obtain⟨c,hc⟩:=hf n aao
   obtain⟨cl,e,h1,h2,h3⟩:=lF r ((n,c)::cs) (λm hm=>hf m (aal _ hm)) (λx c' hx=>by
    rw[aay] at hx
    cases q:x==n with
    | true=>
     rw[q] at hx
     have e1:x=n:=by simpa using q
     cases hx
     rw[e1];exact hc
    | false=>rw[q] at hx;exact h x c' hx)
   refine⟨cl,?_,h1,λm hm=>h2 m ?_,λx c' m=>?_⟩
   rotate_left 2
   ·rcases h3 x c' m with ⟨q1,q2⟩ | m
    ·exact .inl ⟨q1,aal _ q2⟩
    ·rcases List.mem_cons.mp m with e | m
     ·cases e
      exact .inl ⟨hc,aao⟩
     ·exact .inr m
   ·rw[List.forIn_cons]
    have XJ:cellOf env n=pure c:=by unfold cellOf;rw[hc]
    simp only[beq_self_eq_true,if_true,XJ,pure_bind]
    exact e
   ·rcases hm with hm | hm
    ·rcases List.mem_cons.mp hm with z | z
     ·cases z
      right
      rw[aay]
      simp
     ·exact .inl z
    ·right
     rw[aay]
     cases q:m==n with
     | true=>rfl
     | false=>exact hm
  ·obtain⟨cl,e,h1,h2,h3⟩:=lF r cs (λm hm=>hf m (aal _ hm)) h
   refine⟨cl,?_,h1,λm hm=>h2 m ?_,λx c' m=>(h3 x c' m).imp (λq=>⟨q.1,aal _ q.2⟩) id⟩
   ·rw[List.forIn_cons]
    have:(k==NameKind.free)=false:=by simpa using hk
    simp only[this,abb,if_false,pure_bind]
    exact e
   ·rcases hm with hm | hm
    ·rcases List.mem_cons.mp hm with z | z
     ·cases z;exact absurd rfl hk
     ·exact .inl z
    ·exact .inr hm
theorem gU {env:Env} {scope:Scope} (hf:∀n,(n,NameKind.free)∈scope.names->∃c,env.cells.lookup n=some c):
  ∃cl,closureFor scope env=pure cl/\(∀x c,cl.lookup x=some c->env.cells.lookup x=some c)/\(∀n,(n,NameKind.free)∈scope.names->∃c,cl.lookup n=some c)/\(∀x c,(x,c)∈cl->env.cells.lookup x=some c/\(x,NameKind.free)∈scope.names):=by
 obtain⟨cl,e,h1,h2,h3⟩:=lF (env:=env) scope.names [] hf (λx c h=>by simp at h)
 refine⟨cl,?_,h1,λn hn=>h2 n (.inl hn),λx c m=>(h3 x c m).elim id λz=>absurd z (by simp)⟩
 unfold closureFor
 simp only[bind_pure]
 exact e
structure dh (N:List Str) (so:Scope) (N':List Str) (scope:Scope) (k:Nat) (fr:List Nat):Prop where
 kind:scope.kind=.function
 Cp:∀y∈scope.names,y.2=.cell->scope.names.lookup y.1=some .cell/\(y.1,NameKind.free)∉scope.names
 locs:∀y∈scope.names,y.2=.local->scope.names.lookup y.1=some .local
 outer:∀y∈scope.names,y.2=.free->(so.names.lookup y.1=some .cell\/so.names.lookup y.1=some .free)
 len:N'.length=k+fr.length
 at_:∀t,t<fr.length->(fr[t]?).bind (λj=>N[j]?)=N'[k+t]?
 EW:∀x∈N'.drop k,scope.names.lookup x=some .free
noncomputable def stC (k:Nat) (fr:List Nat) (σ:St):St:=List.replicate k none++fr.map λj=>(σ[j]?).join
noncomputable def jP (X:Cx) (N:List Str) (scope:Scope) (cl:List (Str×Addr)) (C:Addr) (s:Shared) (H:Hp) (ex:List Addr):Cx where
 prog:=X.prog
 w:=X.w
 K:=X.K
 mg:=X.mg
 base:=X.base
 A:=X.A
 N:=N
 s₀:=s
 H₀:=H
 env:=compEnvC scope cl C X.env
 outer:=X.stack
 stack:=X.stack
 ex:=ex
 calm:=X.calm
 fn:=λx=>scope.names.lookup x==some .cell
 pn:=[]
 xe:=λ_ _=>False
theorem dW {env:Env}:∀{names:List (Str×NameKind)} {x:Str},names.lookup x=some .free->
  (names.map fun(n,k)=>if (k==NameKind.free && env.scope.kind==.function && env.kindOf n==some .cell) then (n,NameKind.cell) else (n,k)).lookup x=some .cell\/
  (names.map fun(n,k)=>if (k==NameKind.free && env.scope.kind==.function && env.kindOf n==some .cell) then (n,NameKind.cell) else (n,k)).lookup x=some .free
 | [],_,h=>by simp at h
 | (n,k)::r,x,h=>by
  have ih:=@dW env r x
  show List.lookup x ((if (k==NameKind.free && env.scope.kind==.function && env.kindOf n==some .cell)=true then (n,NameKind.cell) else (n,k))::_)=_\/List.lookup x ((if (k==NameKind.free && env.scope.kind==.function && env.kindOf n==some .cell)=true then (n,NameKind.cell) else (n,k))::_)=_
  cases hx:x==n with
  | true=>
   simp only[aay,hx] at h
   cases h
   by_cases hc:(NameKind.free==NameKind.free && env.scope.kind==.function && env.kindOf n==some .cell)=true
   ·rw[if_pos hc];left;simp [aay,hx]
   ·rw[if_neg hc];right;simp [aay,hx]
  | false=>
   simp only[aay,hx] at h
   by_cases hc:(k==NameKind.free && env.scope.kind==.function && env.kindOf n==some .cell)=true
   ·rw[if_pos hc];simp only[aay,hx];exact ih h
   ·rw[if_neg hc];simp only[aay,hx];exact ih h
theorem mG {env:Env}:∀{names:List (Str×NameKind)} {x:Str},
  ((names.map fun(n,k)=>if (k==NameKind.free && env.scope.kind==.function && env.kindOf n==some .cell) then (n,NameKind.cell) else (n,k)).lookup x=some .cell\/
  (names.map fun(n,k)=>if (k==NameKind.free && env.scope.kind==.function && env.kindOf n==some .cell) then (n,NameKind.cell) else (n,k)).lookup x=some .free)->(x,NameKind.free)∈names\/(x,NameKind.cell)∈names
 | [],_,h=>by simp at h
 | (n,k)::r,x,h=>by
  have ih:=@mG env r x
  have up:((x,NameKind.free)∈r\/(x,NameKind.cell)∈r)->((x,NameKind.free)∈(n,k)::r\/(x,NameKind.cell)∈(n,k)::r):=λz=>z.imp (aal _) (aal _)
  have h:List.lookup x ((if (k==NameKind.free && env.scope.kind==.function && env.kindOf n==some .cell)=true then (n,NameKind.cell) else (n,k))::_)=_\/List.lookup x ((if (k==NameKind.free && env.scope.kind==.function && env.kindOf n==some .cell)=true then (n,NameKind.cell) else (n,k))::_)=_:=h
  cases hx:x==n with
  | true=>
   have e1:x=n:=by simpa using hx
   subst e1
   by_cases hc:(k==NameKind.free && env.scope.kind==.function && env.kindOf x==some .cell)=true
   ·have:k=.free:=by
     simp only[aaI] at hc
     simpa using hc.1.1
    subst this
    exact .inl aao
   ·rw[if_neg hc] at h
    simp only[aay,hx] at h
    rcases h with h | h
    ·cases h;exact .inr aao
    ·cases h;exact .inl aao
  | false=>
   by_cases hc:(k==NameKind.free && env.scope.kind==.function && env.kindOf n==some .cell)=true
   ·rw[if_pos hc] at h;simp only[aay,hx] at h;exact up (ih h)
   ·rw[if_neg hc] at h;simp only[aay,hx] at h;exact up (ih h)
theorem nU:∀(names:List (Str×NameKind)) (h:Heap) (acc:List (Str×Addr)) (x:Str) (c:Addr),(x,c)∈cellsFrom h.objs.size names acc->
  (x,c)∈acc\/(h.objs.size<=c/\(pushCells h names).IsCell c none/\(x,NameKind.cell)∈names)
 | [],h,acc,x,c,m=>.inl m
 | (n,k)::r,h,acc,x,c,m=>by
  unfold cellsFrom at m
  unfold pushCells
  by_cases hk:(k==NameKind.cell)=true
  ·rw[if_pos hk] at m ⊢
   have ih:=nU r (h.push {cls:=.type "cell",data:=.cell none}) ((n,h.objs.size)::acc) x c
   rw[Heap.size_push] at ih
   rcases ih m with m | ⟨q1,q2,q3⟩
   ·rcases List.mem_cons.mp m with e | m
    ·cases e
     have hk:k=.cell:=by simpa using hk
     subst hk
     refine .inr ⟨aaf _,?_,aao⟩
     have q:(h.push {cls:=.type "cell",data:=.cell none}).IsCell h.objs.size none:=⟨_,Heap.get?_push_size _ rfl,rfl⟩
     exact q.keeps λb o e=>pushCells_keeps r _ b o e
    ·exact .inl m
   ·exact .inr ⟨by omega,q2,aal _ q3⟩
  ·rw[if_neg hk] at m ⊢
   rcases nU r h acc x c m with m | ⟨q1,q2,q3⟩
   ·exact .inl m
   ·exact .inr ⟨q1,q2,aal _ q3⟩
theorem nV:∀(names:List (Str×NameKind)) (n lo:Nat) (acc:List (Str×Addr)),(∀x c,(x,c)∈acc->c<n)->(∀x y c,lo<=c->(x,c)∈acc->(y,c)∈acc->x=y)->
  ∀x y c,lo<=c->(x,c)∈cellsFrom n names acc->(y,c)∈cellsFrom n names acc->x=y
 | [],n,lo,acc,h1,h2,x,y,c,hl,m1,m2=>h2 x y c hl m1 m2
 | (z,k)::r,n,lo,acc,h1,h2,x,y,c,hl,m1,m2=>by
  unfold cellsFrom at m1 m2
  by_cases hk:(k==NameKind.cell)=true
  ·rw[if_pos hk] at m1 m2
   refine nV r (n+1) lo _ (λx c m=>?_) (λx y c hl m1 m2=>?_) x y c hl m1 m2
   ·rcases List.mem_cons.mp m with e | m
    ·cases e;exact aaY _
    ·exact Nat.lt_succ_of_lt (h1 x c m)
   ·rcases List.mem_cons.mp m1 with e1 | m1 <;>rcases List.mem_cons.mp m2 with e2 | m2
    ·cases e1;cases e2;rfl
    ·cases e1;exact absurd (h1 _ _ m2) (aaA _)
    ·cases e2;exact absurd (h1 _ _ m1) (aaA _)
    ·exact h2 x y c hl m1 m2
  ·rw[if_neg hk] at m1 m2
   exact nV r n lo acc h1 h2 x y c hl m1 m2
theorem iI:∀(names:List (Str×NameKind)) (n:Nat) (acc:List (Str×Addr)) (x:Str),(x,NameKind.cell)∉names->(cellsFrom n names acc).lookup x=acc.lookup x
 | [],n,acc,x,_=>rfl
 | (z,k)::r,n,acc,x,h=>by
  have hr:(x,NameKind.cell)∉r:=λm=>h (aal _ m)
  unfold cellsFrom
  by_cases hk:(k==NameKind.cell)=true
  ·rw[if_pos hk,iI r _ _ x hr,aay]
   have hk:k=.cell:=by simpa using hk
   subst hk
   have:(x==z)=false:=by
    cases q:x==z with
    | false=>rfl
    | true=>
     have e:x=z:=by simpa using q
     subst e
     exact absurd aao h
   rw[this]
  ·rw[if_neg hk]
   exact iI r n acc x hr
theorem nW:∀(names:List (Str×NameKind)) (n:Nat) (acc:List (Str×Addr)) (x:Str),((x,NameKind.cell)∈names\/(acc.lookup x).isSome=true)->((cellsFrom n names acc).lookup x).isSome=true
 | [],n,acc,x,h=>by
  rcases h with h | h
  ·simp at h
  ·exact h
 | (z,k)::r,n,acc,x,h=>by
  unfold cellsFrom
  by_cases hk:(k==NameKind.cell)=true
  ·rw[if_pos hk]
   refine nW r _ _ x ?_
   rcases h with h | h
   ·rcases List.mem_cons.mp h with e | h
    ·cases e
     right
     rw[aay]
     simp
    ·exact .inl h
   ·right
    rw[aay]
    cases q:x==z with
    | true=>rfl
    | false=>exact h
  ·rw[if_neg hk]
   refine nW r _ _ x ?_
   rcases h with h | h
   ·rcases List.mem_cons.mp h with e | h
    ·cases e;exact absurd rfl hk
    ·exact .inl h
   ·exact .inr h
section
variable {M : Model} {A : Around} {E : Value -> Shared -> Prop} {s : Shared}
theorem gK {scope:Scope} {globals:Addr} {closure:List (Str×Addr)} {qual:Str} {func:Option Addr} {code:Value} {outer:Env} {Q:Env->Shared->Prop}
  (hQ:Q (newEnv scope s.heap.objs.size globals (cellsFrom (s.heap.objs.size+1) scope.names closure) qual func code (some outer) builtinsNs)
   {s with heap:=pushCells (s.heap.push {cls:=.type "dict",data:=.dict #[]}) scope.names}):
  wpAny M A (newFunctionEnv scope globals closure [] qual func code (some outer)) Q E s:=by
 simp only[newFunctionEnv,Option.isSome_some,if_true]
 refine wpAny_bind (wpAny_alloc ?_)
 refine wpAny_bind (wpAny_layCells _ (λname kind cells=>by cases XM:kind==NameKind.cell <;>simp [XM]) _ _ _ _ ?_)
 rw[show({s with heap:=s.heap.push {cls:=.type "dict",data:=.dict #[]}}:Shared).heap.objs.size=s.heap.objs.size+1 from Heap.size_push ..]
 refine wpAny_bind ?_
 rw[List.forIn_nil]
 exact wpAny_pure (wpAny_pure hQ)
end
structure HQ (X:Cx) (scope:Scope) (cl:List (Str×Addr)) (lo:Nat) (C:Addr) (h1:Heap):Prop where
 old:∀x c,cl.lookup x=some c->X.env.cells.lookup x=some c\/(lo<=c/\C<c/\h1.IsCell c none)
 inj:∀x y c,C<c->cl.lookup x=some c->cl.lookup y=some c->x=y
 has:∀n,(n,NameKind.free)∈scope.names\/(n,NameKind.cell)∈scope.names->∃c,cl.lookup n=some c
 EW:∀n,scope.names.lookup n=some .free->∀c,cl.lookup n=some c->X.env.cells.lookup n=some c
 own:∀x c,scope.names.lookup x=some .cell->cl.lookup x=some c->lo<=c
section
variable {X : Cx} {pins : List (Addr × Obj)} {σ : St} {H : Hp} {s : Shared} {N' : List Str} {scope : Scope} {k : Nat} {fr : List Nat} {cl : List (Str × Addr)}
theorem HR {C:Addr} {fp:List Addr} {h1:Heap} (I:Inv X pins σ H s) (S:dh X.N X.env.scope N' scope k fr) (B:HQ X scope cl s.heap.objs.size C h1)
  (hC:s.heap.objs.size<=C) (f2:∀b∈fp,jU X pins H b) (lt:∀b∈fp,b<s.heap.objs.size):(jP X N' scope cl C s H fp).Ok where
 mod:=I.ok.mod
 kind:=S.kind
 glob:=I.ok.glob
 blt:=I.ok.blt
 above:=hC
 inj:=λx y c h1 h2=>by
  rcases B.old _ _ h1 with o1 | o1 <;>rcases B.old _ _ h2 with o2 | o2
  ·exact I.ok.inj x y c o1 o2
  ·exact B.inj x y c o2.2.1 h1 h2
  ·exact B.inj x y c o1.2.1 h1 h2
  ·exact B.inj x y c o1.2.1 h1 h2
 has:=λx hx=>B.has x (mG hx)
 Hj:=λx c z e=>B.own x c (by
  have z:(scope.names.lookup x==some NameKind.cell)=true:=z
  simpa using z) e
 hd:=I.ok.hd
 frames:=I.ok.frames
 Jt:=.inl rfl
 MX:=λb hb=>⟨aam (aat (lt b hb) hC),λx c e=>(B.old _ _ e).elim (λo=>(f2 b hb).2.2.2.2.1 x c o) λo=>aaK (aat (lt b hb) o.1)⟩
 bs:=I.bs
 BO:=aar I.ok.BO I.sz
 xI:=λb o e hb=>by
  rcases(f2 b hb).2.2.2.1 with z | z
  ·exact I.ok.xI b o e z
  ·exact absurd (aat (Heap.lt_size e) (aar I.ok.BO z)) (aaA _)
 AD:=λb hb z=>by
  rcases List.mem_cons.mp (I.uu b z) with q | q
  ·exact(f2 b hb).2.1 q
  ·exact(f2 b hb).2.2.1 q
 mr:=I.stack
 Eo:=I.pY
theorem EX {C:Addr} {fp:List Addr} {h1:Heap} {tk:Nat} {m:Str->Option Value} (I:Inv X pins σ H s) (S:dh X.N X.env.scope N' scope k fr) (B:HQ X scope cl s.heap.objs.size C h1)
  (hC:s.heap.objs.size<=C) (f2:∀b∈fp,jU X pins H b) (lt:∀b∈fp,b<s.heap.objs.size) (old:∀b o,s.heap.get? b=some o->h1.get? b=some o) (hn:h1.Ns C m):
  Inv (jP X N' scope cl C s H fp) [] (stC k fr σ) H {s with heap:=h1,toks:=tk}:=by
 refine⟨HR I S B hC f2 lt,rfl,I.bare,Un.kept old,⟨m,hn,λi x v e1 e2 e3=>?_⟩,λx c e=>?_,I.bN.fresh hC,λx c e=>(B.old _ _ e).elim (λo=>I.gH x c o) λo=>I.bN.fresh o.1,λp hp=>absurd (show p∈([]:List (Addr×Obj)) from hp) (by simp),I.bN.kept old,?_⟩
 ·have e1:N'[i]?=some x:=e1
  unfold stC at e2
  by_cases hi:i<k
  ·rw[aaZ (by simpa using hi),List.getElem?_replicate,if_pos hi] at e2
   cases e2
  ·rw[aa9 (by simpa using hi),List.length_replicate,aae] at e2
   cases q:fr[i - k]? with
   | none=>rw[q] at e2;cases e2
   | some j=>
    rw[q] at e2
    have e2:(σ[j]?).join=some v:=aaF e2
    have ej:σ[j]?=some (some v):=by
     cases z:σ[j]? with
     | none=>rw[z] at e2;cases e2
     | some o=>rw[z] at e2;exact congrArg some e2
    have fY:i - k<fr.length:=(List.getElem?_eq_some_iff.mp q).1
    have qa:=S.at_ (i - k) fY
    rw[q,show k+ (i - k)=i by omega,e1] at qa
    have qa:X.N[j]?=some x:=qa
    have XN:x∈N'.drop k:=List.mem_iff_getElem?.mpr ⟨i - k,by rw[List.getElem?_drop,show k+ (i - k)=i by omega];exact e1⟩
    have Nh:=S.EW x XN
    have Kr:(x,NameKind.free)∈scope.names:=aaU Nh
    have Kt:=S.outer _ Kr rfl
    obtain⟨m0,hn0,XO⟩:=I.loc
    obtain⟨u,r,l⟩:=XO j x v qa ej (.inr Kt)
    refine⟨u,r,.inr ⟨dW Nh,?_⟩⟩
    rcases l with ⟨kk,_⟩ | ⟨_,c,e,z⟩
    ·have kk:X.env.scope.names.lookup x=some .local:=kk
     rcases Kt with q1 | q1
     ·rw[kk] at q1;cases q1
     ·rw[kk] at q1;cases q1
    ·obtain⟨c',e'⟩:=B.has x (.inl Kr)
     have ec:=B.EW x Nh _ e'
     rw[e] at ec
     cases ec
     obtain⟨ob,ho,hd⟩:=z
     exact⟨c,e',ob,old _ _ ho,hd⟩
 ·rcases B.old _ _ e with o | o
  ·obtain⟨v,ob,ho,hd⟩:=I.cell x c o
   exact⟨v,ob,old _ _ ho,hd⟩
  ·exact⟨none,o.2.2⟩
 ·unfold stC
  rw[aah,List.length_replicate,aad]
  exact S.len.symm
end
section
variable {prog : Program} {w : World} {A : Around} {E : Value -> Shared -> Prop} {R : Result -> Shared -> Prop} {s : Shared}
theorem jf {elt target iter:Expr} {ifs:List Expr} {scope:Scope} {pos:Pos} {it acc:Value} {env:Env} (I:Nat->Shared->Prop)
  (turn:∀n s,I n s->wpAny (model prog w) A (pyNext it) (λr s₁=>match r with
   | none=>R (.ok .next) s₁
   | some v=>wpAny (model prog w) A (letOwnedTupleGo target it v) (λ_ Vt=>wpAny (model prog w) A (assign target env v) (λ_ s₂=>
     wpAny (model prog w) A (forIn ifs true λc r=>if r=true then do let ok <-isTrue c env (eval c env);pure (ForInStep.yield ok) else pure (ForInStep.yield r)) (λok s₃=>
      if ok=true then wpAny (model prog w) A (eval elt env) (λx s₄=>
       wpAny (model prog w) A (call (.builtin "list.append") [acc,x]) (λ_ s₅=>∃m,m<n/\I m s₅) (λ_ _=>False) s₄) (notedBy (model prog w) A env λx s'=>R (.error x) s') s₃
      else ∃m,m<n/\I m s₃) (λ_ _=>False) s₂) (λ_ _=>False) Vt) (λ_ _=>False) s₁) (λ_ _=>False) s)
  (n:Nat) (h:I n s):
  codeAny (model prog w) A (.compLoop (.ListComp elt [⟨target,iter,ifs,0⟩] scope pos) 0 it acc env) R s:=by
 refine codeAny_loop rfl I (λn s hI=>?_) n h
 show wpAny _ A ((compTurn (.ListComp elt [⟨target,iter,ifs,0⟩] scope pos) 0 it acc env).onRaise (λx=>do noteFrame x env;theTreesLotGoes x)) _ _ s
 refine wpAny_noted ?_
 rw[compTurn_list]
 refine wpAny_bind (wpAny_standAt (wpAny_bind (wpAny_mono (turn n s hI) (λr s₁ h₁=>?_) λ_ _ h'=>h'.elim)))
 cases r with
 | none=>exact wpAny_pure h₁
 | some v=>
  refine wpAny_bind (wpAny_mono h₁ (λ_ Vt XQ=>?_) λ_ _ h'=>h'.elim)
  refine wpAny_bind (wpAny_mono XQ (λ_ s₂ h₂=>wpAny_bind (wpAny_mono h₂ (λok s₃ h₃=>?_) λ_ _ h'=>h'.elim)) λ_ _ h'=>h'.elim)
  cases ok with
  | false=>exact wpAny_pure ⟨rfl,h₃⟩
  | true=>
   exact wpAny_bind (wpAny_bind (wpAny_mono h₃ (λx s₄ h₄=>wpAny_bind (wpAny_mono h₄ (λ_ s₅ h₅=>wpAny_pure (wpAny_pure ⟨rfl,h₅⟩)) λ_ _ h'=>h'.elim)) λ_ _ h'=>h'))
end
noncomputable def EY (X:Cx) (ifs:List Expr) (t:TT):Prop:=
 ∀(pins:List (Addr×Obj)) (s:Shared) (σ:St) (H:Hp) (Q:Bool->Hp->Prop),Inv X pins σ H s->t σ H Q->
  wpAny (model X.prog X.w) X.A (forIn ifs true λc r=>if r=true then do let ok <-isTrue c X.env (eval c X.env);pure (ForInStep.yield ok) else pure (ForInStep.yield r)) (TP X pins σ Q) X.xe s
noncomputable def sG:TT:=λ_ H Q=>Q true H
theorem cm {X:Cx}:EY X [] sG:=λ_ _ _ H _ I h=>wpAny_tests_nil ⟨H,I,h⟩
theorem uI {X:Cx} {c:Expr} {t:TT} (h:PT X c t):EY X [c] t:=λpins s σ H Q I hq=>wpAny_tests_one (h pins s σ H Q I hq)
section
variable {X : Cx}
noncomputable def iJ (J:It) (g:TG) (tc:TT) (te:TE) (σ0:St) (H1:Hp) (fin:List V->Hp->Prop):Prop:=
 ∃W:Nat->Nat->List V->St->Hp->Prop,(∃m,W 0 m [] σ0 H1)/\∀i m ys σ2 H2,W i m ys σ2 H2->
  (J.stop i H2/\fin ys H2)\/
  (J.go i H2/\∀x H3,J.xO i H2 x H3->g x σ2 H3 λσ3 H4=>tc σ3 H4 λb H5=>if b=true then te σ3 H5 λy H6=>ys.length<sizeLine/\∃m',m'<m/\W (i+1) m' (ys++ [y]) σ3 H6 else ∃m',m'<m/\W (i+1) m' ys σ3 H5)
noncomputable def gj (bA:List Value) (n:Nat):Obj:={cls:=.type "list",data:=.seq bA.toArray n}
theorem wg {elt target iter:Expr} {ifs:List Expr} {scope:Scope} {pos:Pos} {g:TG} {tc:TT} {te:TE} {k:Nat} {fr:List Nat} {N':List Str} {cl:List (Str×Addr)} {pins:List (Addr×Obj)} {σ:St} {H2:Hp} {s2:Shared}
  {it:Addr} {fp:List Addr} {tn:Nat->Heap->Prop} {J:It} {fin:List V->Hp->Prop} {R0:Result->Shared->Prop} {XE:List (Str×Addr)->Addr->Shared->Hp->List Addr->Value->Shared->Prop}
  (hc:X.calm=true) (S:dh X.N X.env.scope N' scope k fr) (c1:∀x c,cl.lookup x=some c->X.env.cells.lookup x=some c) (c2:∀n,(n,NameKind.free)∈scope.names->∃c,cl.lookup n=some c) (cin:∀x c,(x,c)∈cl->∃y,X.env.cells.lookup y=some c) (Ni:∀x,(x,NameKind.cell)∈scope.names->∀c,(x,c)∉cl)
  (hg:∀cl C s H ex,PG (jP X N' scope cl C s H ex) target g) (ht:∀cl C s H ex,EY (jP X N' scope cl C s H ex) ifs tc) (he:∀cl C s H ex,PE ((jP X N' scope cl C s H ex).jT (XE cl C s H ex)) elt te)
  (I2:Inv X pins σ H2 s2) (T:Turn X.prog X.w X.K target J fp it tn) (xR:tn 0 s2.heap) (f2:∀b∈fp,jU X pins H2 b) (hb:iJ J g tc te (stC k fr σ) H2 fin)
  (hR:∀(C:Addr),C=(s2.heap.push {cls:=.type "list",dict:=none,data:=.seq ([]:List Value).toArray}).objs.size->∀(s':Shared) (m:Str->Option Value) (ys:List V) (bA:List Value) (n:Nat) (H':Hp),s2.heap.objs.size<C->s'.heap.Ns C m->bC ys bA->ys.length<=sizeLine->s'.heap.get? s2.heap.objs.size=some (gj bA n)->H' s2.heap.objs.size=none->H' C=none->fin ys H'->
   s'.os=s2.os->AllBare s'.gens->Un (dY X.stack) fp H2 H' s2.heap s'.heap->hJ X.prog X.w H' s'.heap->R0 (.ok .next) s')
  (hE:∀cl C x s',C=(s2.heap.push {cls:=.type "list",dict:=none,data:=.seq ([]:List Value).toArray}).objs.size->s2.heap.objs.size<C->XE cl C s2 H2 fp x s'->notedBy (model X.prog X.w) X.A (compEnvC scope cl C X.env) (λy sy=>R0 (.error y) sy) x s'):
  codeAny (model X.prog X.w) X.A (.compStart (.ListComp elt [⟨target,iter,ifs,0⟩] scope pos) 0 (.ref it) (.ref s2.heap.objs.size) (compEnvC scope (cellsFrom ((s2.heap.push {cls:=.type "list",dict:=none,data:=.seq ([]:List Value).toArray}).objs.size+1) scope.names cl) (s2.heap.push {cls:=.type "list",dict:=none,data:=.seq ([]:List Value).toArray}).objs.size X.env)) R0 {s2 with heap:=pushCells ((s2.heap.push {cls:=.type "list",dict:=none,data:=.seq ([]:List Value).toArray}).push {cls:=.type "dict",data:=.dict #[]}) scope.names}:=by
 obtain⟨W,⟨m0,w0⟩,turn⟩:=hb
 have lt:∀b∈fp,b<s2.heap.objs.size:=λb hb=>by
  obtain⟨o,e,_⟩:=T.obj _ _ xR b hb
  exact Heap.lt_size e
 generalize Oq:s2.heap.push {cls:=.type "list",dict:=none,data:=.seq ([]:List Value).toArray}=G2 at hR hE ⊢
 have Jy:G2.objs.size=s2.heap.objs.size+1:=by rw[<-Oq,Heap.size_push]
 have Vu:s2.heap.objs.size≠G2.objs.size:=by rw[Jy];exact aam (aaY _)
 have hC:s2.heap.objs.size<=G2.objs.size:=by rw[Jy];exact Nat.le_succ _
 have old:∀b o,s2.heap.get? b=some o->(pushCells (G2.push {cls:=.type "dict",data:=.dict #[]}) scope.names).get? b=some o:=λb o e=>by
  refine pushCells_keeps _ _ b o (Heap.get?_push_of_some _ ?_)
  rw[<-Oq]
  exact Heap.get?_push_of_some _ e
 have EZ:(pushCells (G2.push {cls:=.type "dict",data:=.dict #[]}) scope.names).get? s2.heap.objs.size=some (gj [] 0):=by
  refine pushCells_keeps _ _ _ _ (Heap.get?_push_of_some _ ?_)
  rw[<-Oq]
  exact Heap.get?_push_size _ rfl
 have Ot:(pushCells (G2.push {cls:=.type "dict",data:=.dict #[]}) scope.names).Ns G2.objs.size λ_=>none:=(Heap.Ns.new G2 (.type "dict")).keeps (pushCells_keeps _ _)
 have Vv:∀x c,(x,c)∈cl->c<G2.objs.size+1:=λx c m=>by
  obtain⟨y,hy⟩:=cin x c m
  obtain⟨v,q⟩:=I2.cell y c hy
  rw[Jy]
  exact Nat.lt_succ_of_lt (Nat.lt_succ_of_lt q.lt)
 have B:HQ X scope (cellsFrom (G2.objs.size+1) scope.names cl) s2.heap.objs.size G2.objs.size (pushCells (G2.push {cls:=.type "dict",data:=.dict #[]}) scope.names):=by
  have own:=nU scope.names (G2.push {cls:=.type "dict",data:=.dict #[]}) cl
  rw[Heap.size_push] at own
  refine⟨λx c e=>?_,λx y c hc h1 h2=>?_,λn hn=>?_,λn hn c e=>?_,λx c hx e=>?_⟩
  ·by_cases hx:(x,NameKind.cell)∈scope.names
   ·rcases own x c (aaU e) with m | ⟨q1,q2,_⟩
    ·
     exfalso
     exact Ni x hx c m
    ·exact .inr ⟨aar hC (Nat.le_of_succ_le q1),q1,q2⟩
   ·rw[iI _ _ _ _ hx] at e
    exact .inl (c1 x c e)
  ·exact nV scope.names (G2.objs.size+1) (G2.objs.size+1) cl Vv (λx y c hl m1 _=>absurd (Vv x c m1) (Nat.not_lt.mpr hl)) x y c hc (aaU h1) (aaU h2)
  ·refine Option.isSome_iff_exists.mp (nW _ _ _ n ?_)
   rcases hn with hn | hn
   ·obtain⟨c,e⟩:=c2 n hn
    exact .inr (by rw[e];rfl)
   ·exact .inl hn
  ·have hx:(n,NameKind.cell)∉scope.names:=λm=>by
    have:=(S.Cp _ m rfl).1
    rw[hn] at this
    cases this
   rw[iI _ _ _ _ hx] at e
   exact c1 n c e
  ·have hx:=aaU hx
   rcases own x c (aaU e) with m | ⟨q1,q2,_⟩
   ·exact absurd m (Ni x hx c)
   ·exact aar hC (Nat.le_of_succ_le q1)
 generalize pushCells (G2.push {cls:=.type "dict",data:=.dict #[]}) scope.names=h₁ at *
 generalize cellsFrom (G2.objs.size+1) scope.names cl=ye at *
 generalize HS:s2.heap.objs.size=D at *
 generalize hCc:G2.objs.size=C at *
 have fD:H2 D=none:=by rw[<-HS];exact I2.bN.fresh (aaf _)
 have cells:∀x c,ye.lookup x=some c->c≠D:=λx c e=>by
  rcases B.old _ _ e with o | o
  ·obtain⟨v,q⟩:=I2.cell x c o
   rw[<-HS]
   exact aam q.lt
  ·exact aaK (aaN (by rw[Jy];exact aaY _) o.2.1)
 have loop:∀(Eu:Addr) (s3:Shared),Eu=it->(∃tk,s3={s2 with heap:=h₁,toks:=tk})->
   codeAny (model X.prog X.w) X.A (.compLoop (.ListComp elt [⟨target,iter,ifs,0⟩] scope pos) 0 (.ref Eu) (.ref D) (compEnvC scope ye C X.env)) R0 s3:=by
  rintro Eu s3 rfl ⟨tk,rfl⟩
  have I3:Inv (jP X N' scope ye C s2 H2 fp) [] (stC k fr σ) H2 {s2 with heap:=h₁,toks:=tk}:=EX I2 S (by rw[HS];exact B) (by rw[HS];exact hC) f2 (by rw[HS];exact lt) old Ot
  have xS:∀{H':Hp} {o:Obj},(∀b∈fp,H' b=none)->∀b∈fp,jU (jP X N' scope ye C s2 H2 fp) [(D,o)] H' b:=λ{H' o} hn b hb=>
   ⟨hn b hb,aam (aat (lt b hb) hC),λz=>by
    rcases List.mem_cons.mp (I2.uu b z) with q | q
    ·exact(f2 b hb).2.1 q
    ·exact(f2 b hb).2.2.1 q,.inl hb,λx c e=>(B.old _ _ e).elim (λo=>(f2 b hb).2.2.2.2.1 x c o) (λo=>aaK (aat (lt b hb) o.1)),λp hp=>by
    have e:p=(D,o):=by simpa [jP] using hp
    rw[e]
    exact aaK (lt b hb)⟩
  have Ou:∀{σ':St} {H':Hp} {s':Shared} {o:Obj},Inv (jP X N' scope ye C s2 H2 fp) [] σ' H' s'->s'.heap.get? D=some o->H' D=none->(∀v,o.data≠.cell v)->Inv (jP X N' scope ye C s2 H2 fp) [(D,o)] σ' H' s':=λ{σ' H' s' o} I' e n hd=>
   I'.mv λp hp=>by
    have q:p=(D,o):=by simpa using hp
    subst q
    refine⟨e,n,Vu,λz=>?_,hd⟩
    obtain⟨_,ob,ho,_⟩:=I2.stack.mem z
    exact absurd (Heap.lt_size ho) (by rw[HS];exact aaA _)
  have XR:∀{bA:List Value} {n:Nat} (v:Option Value),(gj bA n).data≠.cell v:=λv z=>by
   have z:Data.seq _ _=Data.cell v:=z
   cases z
  refine jf (λn s'=>∃i ys σ' H' bA E1,Inv (jP X N' scope ye C s2 H2 fp) [] σ' H' s'/\tn i s'.heap/\(∀b∈fp,H' b=none)/\s'.heap.get? D=some (gj bA E1)/\H' D=none/\bC ys bA/\ys.length<=sizeLine/\W i n ys σ' H') ?_ m0
   ⟨0,[],_,H2,[],0,I3,T.keep _ _ _ xR (λb _ o e=>old b o e),λb hb=>(f2 b hb).1,EZ,fD,.nil,aak _,w0⟩
  rintro n s4 ⟨i,ys,σ4,H4,bA,E1,I4,Vw,Ku,XS,Vx,Nj,Vy,w4⟩
  have Vz:=Ou I4 XS Vx XR
  rcases turn i n ys σ4 H4 w4 with ⟨stop,qf⟩ | ⟨go,step⟩
  ·refine cL (T.done (jP X N' scope ye C s2 H2 fp) rfl rfl rfl hc i _ s4 σ4 H4 _ Vz (xS Ku) Vw stop) λr s5 ⟨hr,I5⟩=>?_
   subst hr
   obtain⟨m5,XT,_⟩:=I5.loc
   exact hR C rfl s5 m5 ys bA E1 H4 (by rw[Jy];exact aaY _) XT Nj Vy (I5.pin (D,gj bA E1) (aaP _ aao)).1 Vx I5.free qf I5.os I5.bare I5.base I5.bN
  ·refine cL (T.item (jP X N' scope ye C s2 H2 fp) rfl rfl rfl hc i _ s4 σ4 H4 _ Vz (xS Ku) Vw go) λr s5 ⟨u,hr,h5⟩=>?_
   subst hr
   refine cL h5 λ_ s6 dH=>?_
   obtain⟨x,H6,I6,r6,y6,Ov,XU⟩:=dH
   have XW:=I6.pinned (xS XU) (T.obj _ _ Ov)
   refine cL (hg ye C s2 H2 fp _ s6 σ4 H6 x u _ XW r6 (step x H6 y6)) λ_ s7 ⟨σ7,H7,I7,q7⟩=>?_
   refine cL (ht ye C s2 H2 fp _ s7 σ7 H7 _ I7 q7) λok s8 ⟨H8,I8,q8⟩=>?_
   have back:∀{σ':St} {H':Hp} {s':Shared},Inv (jP X N' scope ye C s2 H2 fp) ([(D,gj bA E1)]++qo fp s6.heap) σ' H' s'->tn (i+1) s'.heap/\(∀b∈fp,H' b=none)/\s'.heap.get? D=some (gj bA E1)/\H' D=none:=λ{σ' H' s'} I'=>by
    have pD:=I'.pin (D,gj bA E1) (aaP _ (List.mem_append_left _ (by simp)))
    refine⟨T.keep _ _ _ Ov λb hb o e=>(I'.pin (b,o) (aaP _ (aaP _ (iG hb e)))).1,λb hb=>?_,pD.1,pD.2.1⟩
    obtain⟨o,e,d⟩:=T.obj _ _ Ov b hb
    exact(I'.pin (b,o) (aaP _ (aaP _ (iG hb e)))).2.1
   cases ok with
   | false=>
    rw[if_neg aaw]
    rw[if_neg aaw] at q8
    obtain⟨m',hm,w8⟩:=q8
    obtain⟨b1,b2,b3,b4⟩:=back I8
    exact⟨m',hm,i+1,ys,σ7,H8,bA,E1,I8.mv (λp hp=>absurd hp (by simp)),b1,b2,b3,b4,Nj,Vy,w8⟩
   | true=>
    rw[if_pos rfl]
    rw[if_pos rfl] at q8
    refine wpAny_mono (he ye C s2 H2 fp _ s8 σ7 H8 _ (I8.jT _) q8) (λy s9 ⟨z,H9,I9,r9,fY,m',hm,w9⟩=>?_) λx s' hx=>hE ye C x s' rfl (by rw[Jy];exact aaY _) hx
    have I9:=I9.fI
    obtain⟨b1,b2,b3,b4⟩:=back I9
    have hl:=Nj.length
    refine call_meets F.slot_list_append ⟨_,b3,rfl⟩ F.entry_list_append (F.args_list_append_2 _ _) (PySem.list_append D bA.toArray E1 y (by rw[aaq];omega)) ⟨b3,?_⟩
    obtain⟨c',q⟩:∃c',(s9.heap.update D (Obj.mapSeq λx=>x.push y)).get? D=some (gj (bA++ [y]) c'):=by
     have q:=PySem.IsL.update b3 (λx=>x.push y)
     rw[show bA.toArray.push y=(bA++ [y]).toArray by simp] at q
     exact⟨_,q⟩
    have XX:Inv (jP X N' scope ye C s2 H2 fp) [] σ7 H9 s9:=I9.mv (λp hp=>absurd hp (by simp))
    have kp:∀b o,b≠D->s9.heap.get? b=some o->(s9.heap.update D (Obj.mapSeq λx=>x.push y)).get? b=some o:=λb o hb e=>(Heap.get?_update_other s9.heap (Obj.mapSeq λx=>x.push y) (Ne.symm hb)).trans e
    have XY:=XX.turned (t':=s9.toks) (it:=D) (h':=s9.heap.update D (Obj.mapSeq λx=>x.push y)) kp b4 Vu (.inr (by show s2.heap.objs.size<=D;rw[HS];exact aaf _)) (λx c e=>cells x c e) (λp hp=>absurd hp (by simp [jP]))
    refine⟨m',hm,i+1,ys++ [z],σ7,H9,bA++ [y],c',XY,T.keep _ _ _ b1 (λb hb o e=>kp b o (aam (lt b hb)) e),b2,q,b4,Nj.append (.cons r9 .nil),?_,w9⟩
    ·rw[aah,aaM]
     omega
 exact codeAny_compStart_list (loop it _ rfl ⟨_,rfl⟩) (T.self _ 0 _ _ _ (T.keep _ _ _ xR (λb _ o e=>old b o e)) (loop it _ rfl ⟨_,rfl⟩))
theorem tX {elt target iter:Expr} {ifs:List Expr} {scope:Scope} {pos:Pos} {g:TG} {tc:TT} {te:TE} {k:Nat} {fr:List Nat} {N':List Str} {cl:List (Str×Addr)} {pins:List (Addr×Obj)} {σ:St} {H2:Hp} {s2:Shared}
  {it:Addr} {fp:List Addr} {tn:Nat->Heap->Prop} {J:It} {E:Value->Shared->Prop} {fin:List V->Hp->Prop} {RR:Value->Addr->Result->Shared->Prop} {XE:List (Str×Addr)->Addr->Shared->Hp->List Addr->Value->Shared->Prop}
  (hc:X.calm=true) (S:dh X.N X.env.scope N' scope k fr) (c1:∀x c,cl.lookup x=some c->X.env.cells.lookup x=some c) (c2:∀n,(n,NameKind.free)∈scope.names->∃c,cl.lookup n=some c) (cin:∀x c,(x,c)∈cl->∃y,X.env.cells.lookup y=some c) (Ni:∀x,(x,NameKind.cell)∈scope.names->∀c,(x,c)∉cl)
  (hg:∀cl C s H ex,PG (jP X N' scope cl C s H ex) target g) (ht:∀cl C s H ex,EY (jP X N' scope cl C s H ex) ifs tc) (he:∀cl C s H ex,PE ((jP X N' scope cl C s H ex).jT (XE cl C s H ex)) elt te)
  (I2:Inv X pins σ H2 s2) (T:Turn X.prog X.w X.K target J fp it tn) (xR:tn 0 s2.heap) (f2:∀b∈fp,jU X pins H2 b) (hb:iJ J g tc te (stC k fr σ) H2 fin)
  (hR:∀(C:Addr) (s':Shared) (m:Str->Option Value) (ys:List V) (bA:List Value) (n:Nat) (H':Hp),s2.heap.objs.size<C->s'.heap.Ns C m->bC ys bA->ys.length<=sizeLine->s'.heap.get? s2.heap.objs.size=some (gj bA n)->H' s2.heap.objs.size=none->H' C=none->fin ys H'->
   s'.os=s2.os->AllBare s'.gens->Un (dY X.stack) fp H2 H' s2.heap s'.heap->hJ X.prog X.w H' s'.heap->RR (.ref s2.heap.objs.size) C (.ok .next) s')
  (hE:∀cl C x s',s2.heap.objs.size<C->XE cl C s2 H2 fp x s'->notedBy (model X.prog X.w) X.A (compEnvC scope cl C X.env) (λy sy=>RR (.ref s2.heap.objs.size) C (.error y) sy) x s'):
  wpAny (model X.prog X.w) X.A (newList []) (λacc s₃=>wpAny (model X.prog X.w) X.A (newFunctionEnv scope X.env.globals cl [] X.env.qual none .none (some X.env)) (λcenv s₄=>
   codeAny (model X.prog X.w) X.A (.compStart (.ListComp elt [⟨target,iter,ifs,0⟩] scope pos) 0 (.ref it) acc {cenv with scope:=relabel scope X.env}) (RR acc cenv.locals) s₄) E s₃) E s2:=by
 refine wpAny_newObj_type (gK ?_)
 exact wg (R0:=RR _ _) hc S c1 c2 cin Ni hg ht he I2 T xR f2 hb (λC e=>by subst e;exact hR _) (λcl C x s' e=>by subst e;exact hE cl _ x s')
theorem comp_back {fp:List Addr} {pins:List (Addr×Obj)} {σ:St} {H2 H':Hp} {s2 s':Shared} {C:Addr} {ys:List V} {bA:List Value} {n:Nat} {h':Heap} (I2:Inv X pins σ H2 s2) (f2:∀b∈fp,jU X pins H2 b) (hC:s2.heap.objs.size<C)
  (vl:bC ys bA) (sz:ys.length<=sizeLine) (hD:s'.heap.get? s2.heap.objs.size=some (gj bA n)) (nD:H' s2.heap.objs.size=none) (nC:H' C=none)
  (os:s'.os=s2.os) (bare:AllBare s'.gens) (un:Un (dY X.stack) fp H2 H' s2.heap s'.heap) (bN:hJ X.prog X.w H' s'.heap) (hs:Heap.SameBut C s'.heap h'):
  Inv X pins σ (upd H' s2.heap.objs.size (.lst ys)) {s' with heap:=h'}:=by
 have Ow:∀b o,s2.heap.get? b=some o->b≠C:=λb o e=>aam (aaN (Heap.lt_size e) hC)
 have XZ:∀b o,s2.heap.get? b=some o->b≠s2.heap.objs.size:=λb o e=>aam (Heap.lt_size e)
 have tk:∀b u,H' b=some u->b≠s2.heap.objs.size:=λb u e z=>by rw[z,nD] at e;cases e
 have tC:∀b u,H' b=some u->b≠C:=λb u e z=>by rw[z,nC] at e;cases e
 have fD:H2 s2.heap.objs.size=none:=I2.bN.fresh (aaf _)
 have t2:∀b u,H2 b=some u->b≠s2.heap.objs.size:=λb u e z=>by rw[z,fD] at e;cases e
 refine I2.Gn (s':={s' with heap:=h'}) (ch:=fp) os ⟨λb o e m hb hx=>?_,λb o e m hb hx=>?_,λb o e m hx=>?_,λb o e hx=>?_,λb xs e=>?_,λb o u e=>?_,λb ps e=>?_⟩ (λb u e=>?_) bare λb hb=>?_
 ·exact(hs.2 b (Ow b o e)).trans (un.keep b o e m hb hx)
 ·obtain⟨sl,q⟩:=un.slot b o e m hb hx
  exact⟨sl,(hs.2 b (Ow b o e)).trans q⟩
 ·rw[aB (XZ b o e)]
  exact un.free b o e m hx
 ·obtain⟨o',q⟩:=un.there b o e hx
  exact⟨o',(hs.2 b (Ow b o e)).trans q⟩
 ·rw[aB (t2 b _ e)]
  exact un.iF b xs e
 ·rw[aB (t2 b _ e)]
  exact un.hU b o u e
 ·obtain⟨mo,q⟩:=un.iZ b ps e
  exact⟨mo,by rw[aB (t2 b _ e)];exact q⟩
 ·by_cases hb:b=s2.heap.objs.size
  ·subst hb
   rw[aj] at e
   cases e
   exact⟨sz,bA,n,vl,(hs.2 _ (aam hC)).trans hD⟩
  ·rw[aB hb] at e
   exact(bN b u e).sj (λc v hc q=>(hs.2 c (by
    rcases hc with rfl | hc
    ·exact tC _ _ e
    ·exact tC _ _ hc)).trans q) (λc r=>by rw[aB (tk _ _ r)];exact r) λc xs r=>by rw[aB (tk _ _ r)];exact r
 ·exact⟨(f2 b hb).2.2.2.1,(f2 b hb).2.1,(f2 b hb).2.2.2.2.1,(f2 b hb).2.2.2.2.2⟩
noncomputable def tComp (wi:TI) (g:TG) (tc:TT) (te:TE) (k:Nat) (fr:List Nat):TE:=λσ H Q=>wi σ H λJ H1=>iJ J g tc te (stC k fr σ) H1 λys H2=>∀D,H1 D=none->H2 D=none->Q (.ref D) (upd H2 D (.lst ys))
theorem cX {elt target iter:Expr} {ifs:List Expr} {scope so:Scope} {pos:Pos} {wi:TI} {g:TG} {tc:TT} {te:TE} {k:Nat} {fr:List Nat} {N N':List Str} (hc:X.calm=true) (hN:X.N=N) (HU:X.env.scope=so) (S:dh N so N' scope k fr)
  (hi:PI X target iter wi) (hg:∀cl C s H ex,PG (jP X N' scope cl C s H ex) target g) (ht:∀cl C s H ex,EY (jP X N' scope cl C s H ex) ifs tc) (he:∀cl C s H ex,PE (jP X N' scope cl C s H ex) elt te)
  (hs:∀x,foldedSetIterable iter X.env x=pure x:=by intro _;rfl):PE X (.ListComp elt [⟨target,iter,ifs,0⟩] scope pos) (tComp wi g tc te k fr):=by
 subst hN HU
 intro pins s σ H Q I h
 rw[eval_ListComp]
 obtain⟨cl,jg,c1,c2,c3⟩:=gU (env:=X.env) (scope:=scope) λn hn=>I.ok.has n (S.outer _ hn rfl)
 refine wpAny_comprehension_free (use:=none) (cl:=cl) rfl hs jg S.kind S.locs ?_
 refine cL (hi pins s σ H _ I h) λv s1 h1=>cL h1 λEu s2 h2=>?_
 obtain⟨it,fp,tn,J,H2,rfl,I2,T,xR,f2,hb⟩:=h2
 refine tX (RR:=λacc C=>compPost (model X.prog X.w) X.A X.xe none (EP X pins σ Q) acc C) hc S c1 c2 (λx c m=>⟨x,(c3 x c m).1⟩) (λx hx c m=>(S.Cp _ hx rfl).2 (c3 x c m).2) (XE:=λ_ _ _ _ _ _ _=>False) hg ht he I2 T xR f2 hb ?_ (λ_ _ _ _ _ z=>False.elim z)
 intro C s' m ys bA n H' hC hn vl sz hD nD nC fin os bare un bN
 exact⟨m,hn,λh' E2=>⟨.ref _,_,comp_back I2 f2 hC vl sz hD nD nC os bare un bN E2,rfl,fin _ (I2.bN.fresh (aaf _)) nD⟩⟩
theorem qy {env:Env}:∀{names:List (Str×NameKind)} {x:Str},names.lookup x=some .cell->
  (names.map fun(n,k)=>if (k==NameKind.free && env.scope.kind==.function && env.kindOf n==some .cell) then (n,NameKind.cell) else (n,k)).lookup x=some .cell
 | [],_,h=>by simp at h
 | (n,k)::r,x,h=>by
  have ih:=@qy env r x
  show List.lookup x ((if (k==NameKind.free && env.scope.kind==.function && env.kindOf n==some .cell)=true then (n,NameKind.cell) else (n,k))::_)=_
  cases hx:x==n with
  | true=>
   simp only[aay,hx] at h
   cases h
   rw[if_neg (by simp)]
   simp [aay,hx]
  | false=>
   simp only[aay,hx] at h
   by_cases hc:(k==NameKind.free && env.scope.kind==.function && env.kindOf n==some .cell)=true
   ·rw[if_pos hc];simp only[aay,hx];exact ih h
   ·rw[if_neg hc];simp only[aay,hx];exact ih h
theorem dh.Kv {N N':List Str} {so scope:Scope} {k:Nat} {fr:List Nat} {env:Env} (S:dh N so N' scope k fr):dh N (relabel so env) N' scope k fr:=
 ⟨S.kind,S.Cp,S.locs,λy hy e=>(S.outer y hy e).elim (λh=>.inl (qy h)) (λh=>dW h),S.len,S.at_,S.EW⟩
theorem Cq {elt target iter:Expr} {ifs:List Expr} {scope so:Scope} {B3:Env} {pos:Pos} {wi:TI} {g:TG} {tc:TT} {te:TE} {k:Nat} {fr:List Nat} {N N':List Str} (hc:X.calm=true) (hN:X.N=N) (HU:X.env.scope=relabel so B3) (S:dh N so N' scope k fr)
  (hi:PI X target iter wi) (hg:∀cl C s H ex,PG (jP X N' scope cl C s H ex) target g) (ht:∀cl C s H ex,EY (jP X N' scope cl C s H ex) ifs tc) (he:∀cl C s H ex,PE (jP X N' scope cl C s H ex) elt te)
  (hs:∀x,foldedSetIterable iter X.env x=pure x:=by intro _;rfl):PE X (.ListComp elt [⟨target,iter,ifs,0⟩] scope pos) (tComp wi g tc te k fr):=cX hc hN HU S.Kv hi hg ht he hs
theorem iK {elt target iter:Expr} {ifs:List Expr} {scope so:Scope} {pos Kw py:Pos} {wi:TI} {g:TG} {tc:TT} {te:TE} {k:Nat} {fr:List Nat} {N N':List Str} {y:Str} {i:Nat} (hc:X.calm=true) (hN:X.N.Nodup) (hy:X.N[i]?=some y) (hl:X.env.scope.names.lookup y=some .local)
  (X0:X.N=N) (HU:X.env.scope=so) (S:dh N so N' scope k fr)
  (hi:PI X target iter wi) (hg:∀cl C s H ex,PG (jP X N' scope cl C s H ex) target g) (ht:∀cl C s H ex,EY (jP X N' scope cl C s H ex) ifs tc) (he:∀cl C s H ex,PE (jP X N' scope cl C s H ex) elt te)
  (X1:swapsWith (.ListComp elt [⟨target,iter,ifs,0⟩] scope pos) (some (.Name y py)) Kw.line X.env=pure true:=by rfl)
  (hs:∀x,foldedSetIterable iter X.env x=pure x:=by intro _;rfl):PS X (.Assign [.Name y py] (.ListComp elt [⟨target,iter,ifs,0⟩] scope pos) Kw) (tAsg (tComp wi g tc te k fr) (gName i)):=by
 subst X0 HU
 intro pins s σ H D I h
 rw[exec_Assign_Name_used _ _ _ _ X1]
 obtain⟨cl,jg,c1,c2,c3⟩:=gU (env:=X.env) (scope:=scope) λn hn=>I.ok.has n (S.outer _ hn rfl)
 refine wpAny_bind (wpAny_standAt (wpAny_bind ?_))
 show wpAny _ X.A (do let _ <-comprehension (.ListComp elt [⟨target,iter,ifs,0⟩] scope pos) scope X.env _ (newList []) false (eval iter X.env) (some (assign (.Name y py) X.env))) _ _ s
 refine wpAny_bind (wpAny_mono (wpAny_comprehension_free (use:=some (assign (.Name y py) X.env)) (Q:=λ_ s'=>SP X pins D .next s') (cl:=cl) rfl hs jg S.kind S.locs ?_) (λ_ s' hq=>wpAny_pure (wpAny_pure hq)) λ_ _ e=>e)
 refine cL (hi pins s σ H _ I h) λv s1 h1=>cL h1 λEu s2 h2=>?_
 obtain⟨it,fp,tn,J,H2,rfl,I2,T,xR,f2,hb⟩:=h2
 refine tX (RR:=λacc C=>compPost (model X.prog X.w) X.A X.xe (some (assign (.Name y py) X.env)) (λ_ s'=>SP X pins D .next s') acc C) hc S c1 c2 (λx c m=>⟨x,(c3 x c m).1⟩) (λx hx c m=>(S.Cp _ hx rfl).2 (c3 x c m).2) (XE:=λ_ _ _ _ _ _ _=>False) hg ht he I2 T xR f2 hb ?_ (λ_ _ _ _ _ z=>False.elim z)
 intro C s' m ys bA n H' hC hn vl sz hD nD nC fin os bare un bN
 have I3:Inv X pins σ (upd H' s2.heap.objs.size (.lst ys)) s':=comp_back (h':=s'.heap) I2 f2 hC vl sz hD nD nC os bare un bN (.refl ..)
 refine wpAny_assign_Name (tF (v:=.ref s2.heap.objs.size) I3 hN hy (.inl hl) rfl (λs4 I4 ch=>?_) (.inr hl))
 have VA:X.env.locals<s2.heap.objs.size:=I2.lt
 obtain⟨a,tY,ha⟩:=ch
 have aC:a≠C:=by
  rcases ha with rfl | ha
  ·exact aam (aaN VA hC)
  ·obtain⟨v,q⟩:=I2.cell _ _ ha
   exact aam (aaN q.lt hC)
 refine⟨m,hn.sameBut tY (Ne.symm aC),λh' E2=>⟨_,_,?_,fin _ (I2.bN.fresh (aaf _)) nD⟩⟩
 have Nk:(upd H' s2.heap.objs.size (.lst ys)) C=none:=by rw[aB (aaK hC)];exact nC
 exact I4.turned (t':=s4.toks) (it:=C) (h':=h') (λb o hb e=>(E2.2 b hb).trans e) Nk (aaK (aaN VA hC)) (.inr (aar I2.sz (Nat.le_of_lt hC))) (λx c e z=>by
  obtain⟨v,q⟩:=I2.cell x c e
  exact absurd (aaN q.lt hC) (by rw[z];exact aaA _)) (λp hp z=>by
  have:=Heap.lt_size (I2.pin p hp).1
  rw[z] at this
  exact absurd (aaN this hC) (aaA _))
end
structure Src (J:It) (Ok:Hp->Prop) (n:Nat) (Item:Nat->V->Hp->Hp->Prop):Prop where
 go:∀i H,i<n->Ok H->J.go i H
 xO:∀i H x H3,i<n->Ok H->J.xO i H x H3->Item i x H H3
 stop:∀H,Ok H->J.stop n H
theorem src_list {K:PySem.W.Frag} {a:Addr} {xs:List V} {Ok:Hp->Prop} (h:∀H,Ok H->bD K H a xs):Src (Jw K a) Ok xs.length (λi x H H3=>H3=H/\xs[i]?=some x) where
 go:=λi H hi ok=>⟨xs,xs[i],h H ok,by simp [hi]⟩
 xO:=λi H x H3 hi ok ⟨e,y⟩=>⟨e,y xs (h H ok)⟩
 stop:=λH ok=>⟨xs,h H ok,aaf _⟩
theorem src_range {lo:Int} {n:Nat} {Ok:Hp->Prop}:Src (J5 lo n) Ok n (λi x H H3=>H3=H/\x=.int (lo+i)) where
 go:=λ_ _ hi _=>hi
 xO:=λ_ _ _ _ _ _ y=>y
 stop:=λ_ _=>aaf _
theorem tZ {J:It} {g:TG} {tc:TT} {te:TE} {σ0:St} {H1:Hp} {fin:List V->Hp->Prop} {n:Nat} {Item:Nat->V->Hp->Hp->Prop} (S:Src J (aA H1) n Item) (HV:St->Prop) (h0:HV σ0) (P:Nat->List V->Hp->Prop) (p0:P 0 [] H1) (hz:n<=sizeLine)
  (hs:∀i x σ H ys H3 (Q:St->V->Hp->Prop) (N:St->Hp->Prop),i<n->aA H1 H->P i ys H->ys.length<=i->HV σ->Item i x H H3->
   (∀σ3 y H6,HV σ3->aA H1 H6->P (i+1) (ys++ [y]) H6->Q σ3 y H6)->(∀σ3 H5,HV σ3->aA H1 H5->P (i+1) ys H5->N σ3 H5)->
   g x σ H3 λσ3 H4=>tc σ3 H4 λb H5=>if b=true then te σ3 H5 λy H6=>Q σ3 y H6 else N σ3 H5)
  (qz:∀ys H,aA H1 H->P n ys H->ys.length<=n->fin ys H):iJ J g tc te σ0 H1 fin:=by
 refine⟨λi m ys σ H=>m=n - i/\i<=n/\ys.length<=i/\HV σ/\aA H1 H/\P i ys H,⟨n,by simp,aak _,aaf _,h0,aA.refl _,p0⟩,?_⟩
 rintro i m ys σ H ⟨rfl,hi,hl,ow,sm,p⟩
 by_cases fY:i<n
 ·refine .inr ⟨S.go i H fY sm,λx H3 y=>hs i x σ H ys H3 (λσ3 y H6=>ys.length<sizeLine/\∃m',m'<n - i/\m'=n - (i+1)/\i+1<=n/\(ys++ [y]).length<=i+1/\HV σ3/\aA H1 H6/\P (i+1) (ys++ [y]) H6)
   (λσ3 H5=>∃m',m'<n - i/\m'=n - (i+1)/\i+1<=n/\ys.length<=i+1/\HV σ3/\aA H1 H5/\P (i+1) ys H5) fY sm p hl ow (S.xO i H x H3 fY sm y) (λσ3 y H6 o s6 q=>?_) (λσ3 H5 o s5 q=>?_)⟩
  ·exact⟨by omega,n - (i+1),by omega,rfl,fY,by rw[aah,aaM];omega,o,s6,q⟩
  ·exact⟨n - (i+1),by omega,rfl,fY,by omega,o,s5,q⟩
 ·have e:i=n:=by omega
  subst e
  exact .inl ⟨S.stop H sm,qz ys H sm p hl⟩
theorem comp_map {J:It} {te:TE} {tl:St} {H1:Hp} {fin:List V->Hp->Prop} {n:Nat} {Item:Nat->V->Hp->Hp->Prop} (S:Src J (aA H1) n Item) (sub:∀i x H H3,Item i x H H3->aA H H3) (hz:n<=sizeLine)
  (R:Nat->V->Hp->Prop) (mono:∀i y H H',aA H H'->R i y H->R i y H')
  (hs:∀i x w H H3 (Q:VK),i<n->aA H1 H->Item i x H H3->(∀y H6,aA H3 H6->R i y H6->Q y H6)->te ((w::tl).set 0 (some x)) H3 Q)
  (qz:∀ys H,aA H1 H->ys.length=n->(∀i y,ys[i]?=some y->R i y H)->fin ys H):iJ J (gName 0) sG te (none::tl) H1 fin:=by
 refine⟨λi m ys σ H=>m=n - i/\i<=n/\ys.length=i/\(∃w,σ=w::tl)/\aA H1 H/\∀j y,ys[j]?=some y->R j y H,⟨n,by simp,aak _,rfl,⟨_,rfl⟩,aA.refl _,λj y e=>by simp at e⟩,?_⟩
 rintro i m ys σ H ⟨rfl,hi,hl,⟨w,rfl⟩,sm,p⟩
 by_cases fY:i<n
 ·refine .inr ⟨S.go i H fY sm,λx H3 y=>?_⟩
  have it:=S.xO i H x H3 fY sm y
  have s3:=sub i x H H3 it
  unfold gName sG
  refine HI ?_
  refine hs i x w H H3 _ fY sm it λy H6 s6 r=>⟨by omega,n - (i+1),by omega,rfl,fY,by rw[aah,aaM];omega,⟨_,rfl⟩,sm.trans (s3.trans s6),λj z e=>?_⟩
  by_cases hj:j<i
  ·rw[aaZ (by omega)] at e
   exact mono j z _ _ (s3.trans s6) (p j z e)
  ·rw[aa9 (by omega)] at e
   have e2:j - ys.length=0:=by
    by_cases q:j - ys.length=0
    ·exact q
    ·rw[aa1 (by simp;omega)] at e;cases e
   rw[e2] at e
   simp at e
   subst e
   have:j=i:=by omega
   subst this
   exact r
 ·have e:i=n:=by omega
  subst e
  exact .inl ⟨S.stop H sm,qz ys H sm hl p⟩
noncomputable def GA (J:It) (g:TG) (tb:TS) (D:Ends) (σ:St) (H:Hp):Prop:=
 ∃W:Nat->Nat->St->Hp->Prop,(∃m,W 0 m σ H)/\∀i m σ H,W i m σ H->
  (J.stop i H/\D.nx σ H)\/(J.go i H/\∃N:St->Hp->Prop,(∀σ' H',N σ' H'->∃m',m'<m/\W (i+1) m' σ' H')/\∀x H',J.xO i H x H'->g x σ H' λσ2 H2=>tb {D with nx:=N,ct:=N,bk:=D.nx} σ2 H2)
theorem tFor_eq {wi:TI} {g:TG} {tb:TS} {D:Ends} {σ:St} {H:Hp}:J6 wi g tb D σ H=wi σ H λJ H1=>GA J g tb D σ H1:=rfl
theorem cD {J:It} {g:TG} {tb:TS} {D:Ends} {σ:St} {H:Hp} {n:Nat} {Item:Nat->V->Hp->Hp->Prop} {Ok:Hp->Prop} (S:Src J Ok n Item) (Pv:Nat->St->Hp->Prop) (h0:Pv 0 σ H) (bN:∀i σ H,i<=n->Pv i σ H->Ok H)
  (hs:∀i x σ H H3,i<n->Pv i σ H->Item i x H H3->g x σ H3 λσ2 H2=>tb {D with nx:=Pv (i+1),ct:=Pv (i+1),bk:=D.nx} σ2 H2) (hd:∀σ H,Pv n σ H->D.nx σ H):GA J g tb D σ H:=by
 refine⟨λi m σ H=>m=n - i/\i<=n/\Pv i σ H,⟨n,by simp,aak _,h0⟩,?_⟩
 rintro i m σ H ⟨rfl,hi,p⟩
 by_cases fY:i<n
 ·exact .inr ⟨S.go i H fY (bN i σ H hi p),Pv (i+1),λσ' H' p'=>⟨n - (i+1),by omega,rfl,fY,p'⟩,λx H' y=>hs i x σ H H' fY p (S.xO i H x H' fY (bN i σ H hi p) y)⟩
 ·have e:i=n:=by omega
  subst e
  exact .inl ⟨S.stop H (bN i σ H hi p),hd σ H p⟩
theorem fo {K:PySem.W.Frag} {J:It} {te:TE} {tl:St} {H1:Hp} {fin:List V->Hp->Prop} {n:Nat} {Item:Nat->V->Hp->Hp->Prop} (S:Src J (aA H1) n Item) (Ky:Nat->V->V->Hp->Prop)
  (tp:∀i x H H3,i<n->aA H1 H->Item i x H H3->aA H H3/\∃p a b,x=.ref p/\gh K H3 p [a,b]/\Ky i a b H3) (hz:n<=sizeLine)
  (R:Nat->V->Hp->Prop) (mono:∀i y H H',aA H H'->R i y H->R i y H')
  (hs:∀i a b H3 (Q:VK),i<n->aA H1 H3->Ky i a b H3->(∀y H6,aA H3 H6->R i y H6->Q y H6)->te (some a::some b::tl) H3 Q)
  (qz:∀ys H,aA H1 H->ys.length=n->(∀(i:Nat) y,ys[i]?=some y->R i y H)->fin ys H):iJ J (Es K 2 (gCons (gName 0) (gCons (gName 1) gNil))) sG te (none::none::tl) H1 fin:=by
 refine⟨λi m ys σ H=>m=n - i/\i<=n/\ys.length=i/\(∃w w',σ=w::w'::tl)/\aA H1 H/\∀(j:Nat) y,ys[j]?=some y->R j y H,⟨n,by simp,aak _,rfl,⟨_,_,rfl⟩,aA.refl _,λj y e=>by simp at e⟩,?_⟩
 rintro i m ys σ H ⟨rfl,hi,hl,⟨w,w',rfl⟩,sm,p⟩
 by_cases fY:i<n
 ·refine .inr ⟨S.go i H fY sm,λx H3 y=>?_⟩
  obtain⟨s3,q,a,b,rfl,sq,it⟩:=tp i x H H3 fY sm (S.xO i H x H3 fY sm y)
  refine⟨q,_,rfl,sq,rfl,_,_,rfl,_,_,rfl,rfl,?_⟩
  unfold sG
  refine HI ?_
  refine hs i a b H3 _ fY (sm.trans s3) it λy H6 s6 r=>⟨by omega,n - (i+1),by omega,rfl,fY,by rw[aah,aaM];omega,⟨_,_,rfl⟩,sm.trans (s3.trans s6),λj z e=>?_⟩
  by_cases hj:j<i
  ·rw[aaZ (by omega)] at e
   exact mono j z _ _ (s3.trans s6) (p j z e)
  ·rw[aa9 (by omega)] at e
   have e2:j - ys.length=0:=by
    by_cases q:j - ys.length=0
    ·exact q
    ·rw[aa1 (by simp;omega)] at e;cases e
   rw[e2] at e
   simp at e
   subst e
   have:j=i:=by omega
   subst this
   exact r
 ·have e:i=n:=by omega
  subst e
  exact .inl ⟨S.stop H sm,qz ys H sm hl p⟩
end L2
namespace L2
open PySem PySem.Spec PyProof.Rows
section
variable {X : Cx} {pins : List (Addr × Obj)} {σ : St} {H : Hp} {s : Shared}
theorem Inv.moved {h':Heap} {t':Nat} {ch:List Addr} (I:Inv X pins σ H s) (f:∀b∈ch,jU X pins H b) (k:∀b o,b∉ch->s.heap.get? b=some o->h'.get? b=some o):Inv X pins σ H {s with heap:=h',toks:=t'}:=by
 have Gi:∀b u,H b=some u->b∉ch:=λb u e z=>by rw[(f b z).1] at e;cases e
 refine I.step (g':=s.gens) (d':=s.drawn) (ch:=ch) (λb hb=>⟨(f b hb).2.2.2.1,(f b hb).2.1,(f b hb).2.2.2.2.1,(f b hb).2.2.2.2.2⟩) (λb o _ _ hc e _=>k b o hc e) (λb o _ _ hc e _=>⟨o.slots,k b o hc e⟩) (λ_ _ _ _ n=>n)
  (λb o hc e=>⟨o,k b o hc e⟩) (λ_ _ e=>e) (λ_ _ _ e=>e) (λb ps e=>⟨#[],by rw[e];simp⟩) (λm hm=>?_) (λb u e=>?_) I.bare
 ·obtain⟨o,es,ep,ho,r⟩:=hm
  exact⟨o,es,ep,k _ o (λz=>(f _ z).2.1 rfl) ho,r⟩
 ·refine(I.bN b u e).sj (λc v hc q=>k c v ?_ q) (λ_ q=>q) λ_ _ q=>q
  rcases hc with z | z
  ·rw[z];exact Gi b u e
  ·exact Gi c _ z
theorem Inv.take {ad:Addr} {o:HO} (I:Inv X pins σ H s) (f:jU X pins H ad) (new:X.s₀.heap.objs.size<=ad) (ok:cG X.prog X.w (upd H ad o) s.heap ad o):Inv X pins σ (upd H ad o) s:=by
 obtain⟨hn,nL,nf,_,nc,np⟩:=f
 have tk:∀b u,H b=some u->b≠ad:=λb u e z=>by rw[z,hn] at e;cases e
 refine⟨I.ok,I.os,I.bare,⟨I.base.keep,I.base.slot,λb ob e m hx=>?_,I.base.there,λb xs e=>?_,λb ob u e=>?_,λb ps e=>?_⟩,I.loc,I.cell,?_,λx c e=>?_,λp hp=>?_,λb u e=>?_,I.len⟩
 ·rw[aB (aam (aat (Heap.lt_size e) new))]
  exact I.base.free b ob e m hx
 ·have q:=I.base.iF b xs e
  rw[aB (tk b _ q)];exact q
 ·have q:=I.base.hU b ob u e
  rw[aB (tk b _ q)];exact q
 ·obtain⟨mo,q⟩:=I.base.iZ b ps e
  exact⟨mo,by rw[aB (tk b _ q)];exact q⟩
 ·rw[aB (Ne.symm nL)];exact I.free
 ·rw[aB (nc x c e)];exact I.gH x c e
 ·obtain⟨a,b,c⟩:=I.pin p hp
  exact⟨a,by rw[aB (np p hp)];exact b,c⟩
 ·by_cases hb:b=ad
  ·subst hb
   rw[aj] at e
   cases e
   exact ok
  ·rw[aB hb] at e
   exact(I.bN b u e).sj (λ_ _ _ q=>q) (λc r=>by rw[aB (tk _ _ r)];exact r) λc xs r=>by rw[aB (tk _ _ r)];exact r
end
noncomputable def X2 (K:PySem.W.Frag) (a b:Addr):It:=
 ⟨λi H=>∃xs ys x y,bD K H a xs/\bD K H b ys/\xs[i]?=some x/\ys[i]?=some y,
  λi H v H'=>∃p,H p=none/\v=.ref p/\∃x y,(∀xs,bD K H a xs->xs[i]?=some x)/\(∀ys,bD K H b ys->ys[i]?=some y)/\H'=upd H p (.tup [x,y]),
  λi H=>∃xs ys,bD K H a xs/\bD K H b ys/\(i=min xs.length ys.length)⟩
noncomputable def Ox (K:PySem.W.Frag) (a:Addr):It:=
 ⟨λi H=>∃xs x,bD K H a xs/\xs[i]?=some x,
  λi H v H'=>∃p,H p=none/\v=.ref p/\∃x,(∀xs,bD K H a xs->xs[i]?=some x)/\H'=upd H p (.tup [.int i,x]),
  λi H=>∃xs,bD K H a xs/\xs.length=i⟩
theorem A0 {P:Program} {w:World} {K:PySem.W.Frag} {elts:List Expr} {k:Nat} {pos:Pos} (e it a:Addr) (VB:e≠it) (hle:a≠e) (VC:a≠it):
  Turn P w K (.Tuple elts k pos) (Ox K a) [e,it] e (λi h=>(∃old,IsEnum h e it i old)/\h.IsListIter it a i) where
 mem:=by simp
 obj:=λi h st c hc=>by
  obtain⟨⟨old,he⟩,⟨o1,e1,_,d1⟩⟩:=st
  simp only[aaB,aaW,or_false] at hc
  rcases hc with rfl | rfl
  ·exact⟨_,he,λv q=>by cases q⟩
  ·exact⟨_,e1,λv q=>by rw[d1] at q;cases q⟩
 keep:=λi h h' st kp=>by
  obtain⟨⟨old,he⟩,h1⟩:=st
  exact⟨⟨old,kp e (by simp) _ he⟩,h1.at λo q=>kp it (by simp) o q⟩
 item:=by
  intro X hP hw hK hc i pins s σ H E I hf st hg
  subst hP hw hK
  obtain⟨xs,x,Nl,hx⟩:=hg
  obtain⟨pM,r1,p1,z1⟩:=I.list Nl
  obtain⟨u,eu,ru⟩:=r1.get hx
  obtain⟨he,h1⟩:=st
  have W:=WalksT.enumerate (prog:=X.prog) (w:=X.w) (I.ok.hd hc) e it a VB hle VC pM.toArray
  have li:i<pM.toArray.size:=by
   have a1:=(List.getElem?_eq_some_iff.mp eu).1
   simp only[aaq]
   omega
  refine W.item i s _ _ li ⟨he,h1,p1.isList⟩ λT vals h' tk X3 hT hI hm kk=>?_
  have I1:Inv X pins σ H {s with heap:=h',toks:=tk}:=I.moved (ch:=[e,it]) hf kk
  have fT:jU X pins H T:=I.Et hT (I.bN.fresh hT)
  refine⟨_,rfl,W.go elts k pos i T _ _ _ hm λOy xR VD=>?_⟩
  have I2:Inv X pins σ H {s with heap:=Oy,toks:=tk}:=I1.moved (s:={s with heap:=h',toks:=tk}) (t':=tk) (ch:=[e,it]) hf VD
  obtain⟨t,x',ex,rfl⟩:=X3
  have J0:pM[i]?=some x':=by simpa using ex
  rw[eu] at J0;cases J0
  have X4:=W.apart _ _ _ hm
  obtain⟨oT,eT,cT,nT,dT⟩:=hI
  have X5:IsTup Oy T #[.int i t,u]:=⟨oT,VD _ _ X4 eT,cT,nT,dT⟩
  have I3:Inv X pins σ (upd H T (.tup [.int i,x])) {s with heap:=Oy,toks:=tk}:=
   I2.take fT (aar I.sz hT) ⟨by show 2<=sizeLine;decide,[.int i t,u],.cons ⟨t,rfl⟩ (.cons ru .nil),X5⟩
  obtain⟨b1,b2,_⟩:=xR
  refine⟨.ref T,_,I3,rfl,⟨T,fT.1,rfl,x,λE3 q=>?_,rfl⟩,⟨b1,b2⟩,λc hc=>?_⟩
  ·rw[I.vP q Nl];exact hx
  ·rw[aB (λq=>?_)]
   ·exact(hf c hc).1
   ·subst q
    obtain⟨o,e,_⟩:∃o,s.heap.get? c=some o/\True:=by
     simp only[aaB,aaW,or_false] at hc
     obtain⟨old,he⟩:=he
     obtain⟨o1,e1,_⟩:=h1
     rcases hc with rfl | rfl
     ·exact⟨_,he,trivial⟩
     ·exact⟨_,e1,trivial⟩
    exact absurd (Heap.lt_size e) (Nat.not_lt.mpr hT)
 done:=by
  intro X hP hw hK hc i pins s σ H E I hf st hg
  subst hP hw hK
  obtain⟨xs,Nl,hi⟩:=hg
  obtain⟨pM,r1,p1,z1⟩:=I.list Nl
  obtain⟨he,h1⟩:=st
  have W:=WalksT.enumerate (prog:=X.prog) (w:=X.w) (I.ok.hd hc) e it a VB hle VC pM.toArray
  have l1:=r1.length
  have e:i=pM.toArray.size:=by simp only[aaq];omega
  subst e
  exact W.done s _ _ ⟨he,h1,p1.isList⟩ λh' tk kk=>⟨rfl,I.moved (ch:=[_,it]) hf kk⟩
 self:=λ_ _ _ _ _ st h=>by
  obtain⟨⟨old,he⟩,_⟩:=st
  exact wpAny_pyIter_enum he h
section
variable {X : Cx} {elts : List Expr} {kk : Nat} {sx : Pos}
noncomputable def iZip (K:PySem.W.Frag) (ta:TA):TI:=λσ H R=>ta σ H λvs H1=>∃a b,vs=[.ref a,.ref b]/\(∃xs,bD K H1 a xs)/\(∃ys,bD K H1 b ys)/\R (X2 K a b) H1
noncomputable def iEnum (K:PySem.W.Frag) (ta:TA):TI:=λσ H R=>ta σ H λvs H1=>∃a,vs=[.ref a]/\(∃xs,bD K H1 a xs)/\R (Ox K a) H1
theorem uJ {a:Expr} {ta:TA} {p pos:Pos} (hg:Gl X "enumerate") (hm:X.mg "enumerate"=none) (ha:PA X [a] ta) (hs:starEach [a] X.env=[(false,eval a X.env)]:=by rfl):
  PI X (.Tuple elts kk sx) (.Call (.Name "enumerate" p) [a] [] pos) (iEnum X.K ta):=by
 intro pins s σ H R I h
 refine Call_ (gS I hg hm rfl (abe (cL (ha pos pins s σ H _ I h) λus s1 dH=>?_) hs rfl))
 obtain⟨vs,H1,I1,r1,q1⟩:=dH
 obtain⟨a,e,⟨xs,q1⟩,q⟩:=q1
 subst e
 obtain⟨u,rfl,ra⟩:=vals1 r1
 cases ra
 obtain⟨pM,v1,p1,z1⟩:=I1.list q1
 refine call_enumerate_list p1.isList λh' b1 b2 b3 kp=>?_
 refine wpAny_pyIter_enum b1 ?_
 have I2:Inv X pins σ H1 {s1 with heap:=h'}:=I1.kept (t':=s1.toks) kp
 have la:a<s1.heap.objs.size:=by obtain⟨o,e,_⟩:=p1.isList;exact Heap.lt_size e
 refine⟨s1.heap.objs.size+1,[s1.heap.objs.size+1,s1.heap.objs.size],_,_,H1,rfl,I2,
  A0 (s1.heap.objs.size+1) s1.heap.objs.size a (aaK (aaY _)) (aam (Nat.lt_succ_of_lt la)) (aam la),⟨⟨_,b1⟩,b2⟩,λc hc=>?_,q⟩
 have VE:s1.heap.objs.size<=c:=by
  simp only[aaB,aaW,or_false] at hc
  rcases hc with rfl | rfl <;>omega
 exact I1.Et VE (I1.bN.fresh VE)
end
theorem Cr {K:PySem.W.Frag} {a:Addr} {xs:List V} {Ok:Hp->Prop} (h1:∀H,Ok H->bD K H a xs):
  Src (Ox K a) Ok xs.length (λi v H H3=>∃p x,H p=none/\v=.ref p/\xs[i]?=some x/\H3=upd H p (.tup [.int i,x])) where
 go:=λi H hi ok=>⟨xs,xs[i],h1 H ok,by simp [hi]⟩
 xO:=λi H x H3 hi ok ⟨p,n,e,u,e1,e3⟩=>⟨p,u,n,e,e1 xs (h1 H ok),e3⟩
 stop:=λH ok=>⟨xs,h1 H ok,rfl⟩
end L2
namespace L2
open PySem PySem.Spec PyProof.Rows
inductive Dat where
 | dG | bl (b:Bool) | int (i:Int) | str (x:Str) | tup (l:List Dat) | lst (l:List Dat)
mutual
noncomputable def Rep (H:Hp):Dat->V->Prop
 | .dG,v=>v=.dG
 | .bl b,v=>v=.bl b
 | .int i,v=>v=.int i
 | .str x,v=>v=.str x
 | .tup ds,v=>∃p vs,v=.ref p/\H p=some (.tup vs)/\aZ H ds vs
 | .lst ds,v=>∃p vs,v=.ref p/\H p=some (.lst vs)/\aZ H ds vs
noncomputable def aZ (H:Hp):List Dat->List V->Prop
 | [],vs=>vs=[]
 | d::ds,vs=>∃v r,vs=v::r/\Rep H d v/\aZ H ds r
end
mutual
theorem Rep.mono {H H':Hp} (s:aA H H'):∀{d:Dat} {v:V},Rep H d v->Rep H' d v
 | .dG,_,h=>by rw[Rep] at *;exact h
 | .bl _,_,h=>by rw[Rep] at *;exact h
 | .int _,_,h=>by rw[Rep] at *;exact h
 | .str _,_,h=>by rw[Rep] at *;exact h
 | .tup _,_,h=>by
  rw[Rep] at *
  obtain⟨p,vs,e,hp,r⟩:=h
  exact⟨p,vs,e,s _ _ hp,aZ.mono s r⟩
 | .lst _,_,h=>by
  rw[Rep] at *
  obtain⟨p,vs,e,hp,r⟩:=h
  exact⟨p,vs,e,s _ _ hp,aZ.mono s r⟩
theorem aZ.mono {H H':Hp} (s:aA H H'):∀{ds:List Dat} {vs:List V},aZ H ds vs->aZ H' ds vs
 | [],_,h=>by rw[aZ] at *;exact h
 | _::_,_,h=>by
  rw[aZ] at *
  obtain⟨v,r,e,h1,h2⟩:=h
  exact⟨v,r,e,Rep.mono s h1,aZ.mono s h2⟩
end
theorem aZ.length {H:Hp}:∀{ds:List Dat} {vs:List V},aZ H ds vs->ds.length=vs.length
 | [],_,h=>by rw[aZ] at h;subst h;rfl
 | _::_,_,h=>by
  rw[aZ] at h
  obtain⟨v,r,rfl,_,h2⟩:=h
  simp [h2.length]
theorem aZ.get {H:Hp}:∀{ds:List Dat} {vs:List V} {i:Nat} {v:V},aZ H ds vs->vs[i]?=some v->∃d,ds[i]?=some d/\Rep H d v
 | [],_,i,v,h,e=>by rw[aZ] at h;subst h;simp at e
 | d::ds,_,i,v,h,e=>by
  rw[aZ] at h
  obtain⟨v',r,rfl,h1,h2⟩:=h
  cases i with
  | zero=>simp at e;subst e;exact⟨d,rfl,h1⟩
  | succ i=>simp at e;obtain⟨d',e',r'⟩:=h2.get e;exact⟨d',by simpa using e',r'⟩
theorem aZ.at {H:Hp}:∀{ds:List Dat} {vs:List V} {i:Nat} {d:Dat},aZ H ds vs->ds[i]?=some d->∃v,vs[i]?=some v/\Rep H d v
 | [],_,i,v,h,e=>by simp at e
 | d::ds,_,i,d',h,e=>by
  rw[aZ] at h
  obtain⟨v',r,rfl,h1,h2⟩:=h
  cases i with
  | zero=>simp at e;subst e;exact⟨v',rfl,h1⟩
  | succ i=>simp at e;obtain⟨v,e',r'⟩:=h2.at e;exact⟨v,by simpa using e',r'⟩
theorem aZ.of {H:Hp}:∀{ds:List Dat} {vs:List V},ds.length=vs.length->(∀(i:Nat) d v,ds[i]?=some d->vs[i]?=some v->Rep H d v)->aZ H ds vs
 | [],[],_,_=>by rw[aZ]
 | [],_::_,h,_=>by simp at h
 | _::_,[],h,_=>by simp at h
 | d::ds,v::vs,h,k=>by
  rw[aZ]
  exact⟨v,vs,rfl,k 0 d v rfl rfl,aZ.of (by simpa using h) λi d' v' e1 e2=>k (i+1) d' v' (by simpa using e1) (by simpa using e2)⟩
theorem aZ.append {H:Hp}:∀{as bs:List Dat} {us vs:List V},aZ H as us->aZ H bs vs->aZ H (as++bs) (us++vs)
 | [],_,_,_,h,k=>by rw[aZ] at h;subst h;exact k
 | _::_,_,_,_,h,k=>by
  rw[aZ] at h
  obtain⟨v,r,rfl,h1,h2⟩:=h
  show aZ H (_::(_++_)) (_::(_++_))
  rw[aZ]
  exact⟨_,_,rfl,h1,h2.append k⟩
theorem aZ.ints {H:Hp}:∀(ns:List Int),aZ H (ns.map Dat.int) (ns.map V.int)
 | []=>by simp only[aaL];rw[aZ]
 | n::ns=>by
  simp only[aag]
  rw[aZ]
  exact⟨_,_,rfl,by rw[Rep],aZ.ints ns⟩
noncomputable def depth:Dat->Nat
 | .tup l=>1+dL l
 | .lst l=>1+dL l
 | _=>0
where dL:List Dat->Nat
 | []=>0
 | d::ds=>max (depth d) (dL ds)
section
variable {X : Cx} {pins : List (Addr × Obj)} {σ : St} {H : Hp} {s : Shared}
end
section
variable {X : Cx}
noncomputable def rNeT:R2:=λx y H Q=>∃p q xs ys,x=.ref p/\y=.ref q/\H p=some (.tup xs)/\H q=some (.tup ys)/\xs.all tQ=true/\ys.all tQ=true/\Q (.bl (!Vn xs ys)) H
end
end L2
namespace Nm
noncomputable def ins (x:Int):List Int->List Int
 | []=>[x]
 | y::r=>if x<=y then x::y::r else y::ins x r
noncomputable def sH:List Int->List Int
 | []=>[]
 | x::r=>ins x (sH r)
theorem qA (x:Int):∀l,(ins x l).Perm (x::l)
 | []=>.refl _
 | y::r=>by
  unfold ins
  split
  ·exact .refl _
  ·exact((qA x r).cons y).trans (.swap ..)
theorem mH:∀l,(sH l).Perm l
 | []=>.refl _
 | x::r=>(qA x _).trans ((mH r).cons x)
set_option tactic.hygienic true in
theorem zF (x:Int):∀l:List Int,l.Pairwise (·<=·)->(ins x l).Pairwise (·<=·)
 | [],_=>by unfold ins;simp
 | y::r,h=>by
  unfold ins
  rw[List.pairwise_cons] at h
  split
  ·rename_i c
   rw[List.pairwise_cons,List.pairwise_cons]
   refine⟨λz hz=>?_,h.1,h.2⟩
   rcases List.mem_cons.mp hz with rfl | hz
   ·exact c
   ·have:=h.1 z hz;omega
  ·rename_i c
   rw[List.pairwise_cons]
   refine⟨λz hz=>?_,zF x r h.2⟩
   rcases List.mem_cons.mp ((qA x r).mem_iff.mp hz) with rfl | hz
   ·omega
   ·exact h.1 z hz
theorem zG:∀l:List Int,(sH l).Pairwise (·<=·)
 | []=>by unfold sH;simp
 | x::r=>zF x _ (zG r)
theorem iL (l:List Int):(sH l).length=l.length:=(mH l).length_eq
theorem zH:∀{a b:List Int},a.Perm b->a.Pairwise (·<=·)->b.Pairwise (·<=·)->a=b
 | [],b,p,_,_=>by simpa using p.symm.eq_nil
 | x::a,[],p,_,_=>by simpa using p.eq_nil
 | x::a,y::b,p,ha,hb=>by
  rw[List.pairwise_cons] at ha hb
  have e:x=y:=by
   have h1:y∈x::a:=p.mem_iff.mpr aao
   have h2:x∈y::b:=p.mem_iff.mp aao
   rcases List.mem_cons.mp h1 with h1 | h1
   ·exact h1.symm
   ·rcases List.mem_cons.mp h2 with h2 | h2
    ·exact h2
    ·have:=ha.1 y h1
     have:=hb.1 x h2
     omega
  subst e
  rw[zH ((List.perm_cons x).mp p) ha.2 hb.2]
theorem uK {a b:List Int} (p:a.Perm b) (o:a.Pairwise (·<=·)):a=sH b:=zH (p.trans (mH b).symm) o (zG b)
theorem E4 {a:Int} {l:List Int}:a∈sH l↔a∈l:=(mH l).mem_iff
end Nm
namespace L2
open PySem PySem.Spec PyProof.Rows PySem.W
section
variable {X : Cx}
theorem yf {us:List Value} {ns:List Int} (h:IntsAre us ns):∃xs,us.toArray=intItems xs/\preSum (numAt xs) xs.size=ns.sum:=by
 obtain⟨xs,hx⟩:=h.allInts.items
 refine⟨xs,hx,?_⟩
 have e1:ns=xs.toList.map (·.1):=by
  rw[<-nums_intItems,<-hx]
  exact h.numsOf.symm
 rw[preSum_eq,aau (by simp),e1]
theorem yg (hc:X.calm=true):dz X (.builtin "sum") (λxs H Q=>∃p ns,xs=[.ref p]/\bD X.K H p (List.map V.int ns)/\Q (.int ns.sum) H):=by
 intro pins s σ H xs us Q I r h
 obtain⟨p,ns,rfl,hq,q⟩:=h
 obtain⟨u,rfl,rx⟩:=vals1 r
 cases rx
 obtain⟨bA,rv,pl,hz⟩:=I.list hq
 obtain⟨ys,e1,e2⟩:=yf (intsAre_of rv)
 have hl:=pl.isList
 rw[e1] at hl
 refine sum_intListG (I.ok.hd hc) hl λh' tk t' hk=>⟨.int ns.sum,H,I.kept (t':=tk) hk,⟨t',?_⟩,q⟩
 rw[e2]
theorem iM {us:List Value} {ns:List Int} (h:IntsAre us ns):bC (ns.map V.int) us:=by
 induction h with
 | nil=>exact .nil
 | cons n t _ ih=>exact .cons ⟨t,rfl⟩ ih
theorem sI:dz X (.builtin "sorted") (λxs H Q=>∃p ns,xs=[.ref p]/\bD X.K H p (List.map V.int ns)/\ns.length<64/\∀l,H l=none->Q (.ref l) (upd H l (.lst (List.map V.int (Nm.sH ns))))):=by
 intro pins s σ H xs us Q I r h
 obtain⟨p,ns,rfl,hq,hn,q⟩:=h
 obtain⟨u,rfl,rx⟩:=vals1 r
 cases rx
 obtain⟨bA,rv,pl,hz⟩:=I.list hq
 have hl:=rv.length
 rw[aad] at hl
 refine sorted_ints pl.isList (intsAre_of rv) (by omega) λout Kz a1 a2 a3=>?_
 obtain rfl:=Nm.uK a2 a3
 obtain⟨e,he⟩:=sortedAll_at s.heap bA out
 have fr:=I.bN.fresh (a:=s.heap.objs.size+1) (Nat.le_succ _)
 refine⟨.ref (s.heap.objs.size+1),_,I.laid (t':=s.toks) (λ_ _=>sortedAll_old) (Nat.le_succ _) (o:=.lst (List.map V.int (Nm.sH ns))) ⟨?_,out.toList,e,iM a1,?_⟩,rfl,q _ fr⟩
 ·rw[aad,Nm.iL,sizeLine_eq];omega
 ·exact he
noncomputable def kH (kvs:List (Key×V)):List Int:=kvs.map λp=>match p.1 with | .inl i=>i | .inr _=>0
noncomputable def allI (kvs:List (Key×V)):Prop:=∀p∈kvs,∃i,p.1=Sum.inl i
theorem sJ (hc:X.calm=true):dz X (.builtin "sorted") (λxs H Q=>∃d kvs,xs=[.ref d]/\Rd H d (.dK kvs)/\allI kvs/\kvs.length<64/\∀l,H l=none->Q (.ref l) (upd H l (.lst (List.map V.int (Nm.sH (kH kvs)))))):=by
 intro pins s σ H xs us Q I r h
 obtain⟨d,kvs,rfl,hd,AW,hn,q⟩:=h
 obtain⟨u,rfl,rx⟩:=vals1 r
 cases rx
 obtain⟨hz,lo,vs,kv,dd⟩:=pq I.bN hd
 have hlen:kvs.length=vs.length:=Paired.length kv
 obtain⟨ep,qa⟩:=dd.dictAt
 refine Calls.call_function_entry kind_sorted plain_sorted entry_sorted (args_sorted1 _) ?_
 unfold Builtin.«sorted»
 refine wpAny_bind (m:=checkCount "sorted" 1 1 _) (wpAny_pure ?_)
 refine wpAny_bind (kdu_collect (A:=X.A.in1) (kdl_dict (kvs:=vs) (ep:=ep) lo) (I.ok.hd hc) qa (by rw[<-hlen,sizeLine_eq];omega) λh' tk acc hk EZ=>?_)
 have hl:acc.toList.length=vs.length:=by rw[Array.length_toList];exact EZ.1
 have hI:IntsAre acc.toList (kH kvs):=by
  have all:∀(j:Nat) v,acc.toList[j]?=some v->∃i t,v=Value.int i t/\(kH kvs)[j]?=some i:=λj v e=>by
   obtain⟨k,x,hx,hk⟩:=EZ.2 j v (by rw[<-Array.getElem?_toList];exact e)
   obtain⟨p,e1,e2⟩:∃p,kvs[j]?=some p/\p.1=k:=by
    have:∀{as:List (Key×V)} {bs:List (Key×Value)} (j:Nat) {b},KV as bs->bs[j]?=some b->∃a,as[j]?=some a/\a.1=b.1:=by
     intro as bs j b r
     induction r generalizing j with
     | nil=>intro e;simp at e
     | cons r1 r2 ih=>
      intro e
      cases j with
      | zero=>simp at e;subst e;exact⟨_,rfl,r1.1⟩
      | succ j=>simp at e;obtain⟨a,e1,e2⟩:=ih j e;exact⟨a,by simpa using e1,e2⟩
    obtain⟨a,e1,e2⟩:=this j kv hx
    exact⟨a,e1,e2⟩
   obtain⟨i,hi⟩:=AW p (aaj e1)
   rw[<-e2,hi] at hk
   have hk:qk (.inl i) v=true:=hk
   rcases cP hk with ⟨i',t,e3,e4⟩ | ⟨x',t,e3,_⟩
   ·cases e3
    refine⟨i,t,e4,?_⟩
    unfold kH
    rw[aae,e1]
    simp [hi]
   ·cases e3
  have go:∀(us:List Value) (ns:List Int),us.length=ns.length->(∀(j:Nat) v,us[j]?=some v->∃i t,v=Value.int i t/\ns[j]?=some i)->IntsAre us ns:=by
   intro us
   induction us with
   | nil=>intro ns hl _;cases ns with | nil=>exact .nil | cons _ _=>simp at hl
   | cons u us ih=>
    intro ns hl k
    cases ns with
    | nil=>simp at hl
    | cons n ns=>
     obtain⟨i,t,rfl,e⟩:=k 0 u rfl
     simp at e
     subst e
     exact .cons n t (ih ns (by simpa using hl) λj v e=>by
      obtain⟨i,t,e1,e2⟩:=k (j+1) v (by simpa using e)
      exact⟨i,t,e1,by simpa using e2⟩)
  refine go _ _ ?_ all
  unfold kH
  rw[aad,hl,hlen]
 refine wpAny_bind (wpAny_newList ?_ (by rw[hl,<-hlen,sizeLine_eq];omega))
 have J2:(h'.push (seqObj "list" acc.toList.toArray 0)).get? h'.objs.size=some (seqObj "list" acc.toList.toArray 0):=Heap.get?_push_size _ rfl
 have I1:Inv X pins σ H {s with heap:=h',toks:=tk}:=I.kept (t':=tk) hk
 refine wpAny_bind (wpAny_holding (wpAny_call_entry slot_list_sort ⟨_,J2,rfl⟩ entry_list_sort (list_sort_tree J2 hI (by omega) λout Kz a1 a2 a3=>⟨_,rfl,?_⟩) (args_list_sort _)))
 obtain rfl:=Nm.uK a2 a3
 obtain⟨e,he⟩:=sortedHeap_at (out:=out) J2
 have fr:=I1.bN.fresh (a:=h'.objs.size) (aaf _)
 refine wpAny_pure ⟨_,rfl,.ref h'.objs.size,_,I1.laid (t':=tk) (λb o eb=>?_) (aaf _) (o:=.lst (List.map V.int (Nm.sH (kH kvs)))) ⟨?_,out.toList,e,iM a1,?_⟩,rfl,q _ fr⟩
 ·rw[sortedHeap_old (aam (Heap.lt_size eb)) (by rw[Heap.size_push];exact Nat.lt_succ_of_lt (Heap.lt_size eb))]
  exact Heap.get?_push_of_some _ eb
 ·rw[aad,Nm.iL,sizeLine_eq]
  unfold kH
  rw[aad]
  omega
 ·exact he
end
section
variable {X : Cx} {pins : List (Addr × Obj)} {σ : St} {H : Hp} {s : Shared}
end
noncomputable def X6 (d:Addr) (o:Obj) (kvs:List (Key×V)):It:=
 ⟨λi H=>H d=some (.vG o (.dK kvs))/\i<kvs.length,λi H x H'=>H'=H/\∃p,kvs[i]?=some p/\x=kV p.1,λi H=>H d=some (.vG o (.dK kvs))/\i=kvs.length⟩
section
variable {X : Cx} {x : Str} {X7 : Pos}
noncomputable def iDict (tl:TE):TI:=λσ H R=>tl σ H λv H1=>∃d kvs,v=.ref d/\H1 d=some (.dK kvs)/\∀o,R (X6 d o kvs) (upd H1 d (.vG o (.dK kvs)))
end
end L2
namespace L2
open PySem PySem.Spec PyProof.Rows PySem.W
section
variable {X : Cx} {K : PySem.W.Frag}
theorem bo {tg l:Expr} {tl:TE} (hl:PE X l tl) (hK:X.K=K:=by rfl):PI X tg l (iList K tl):=by subst hK;exact Ew hl
theorem sL {elts:List Expr} {kk:Nat} {sx:Pos} {a:Expr} {ta:TA} {p pos:Pos} (hg:Gl X "enumerate") (hm:X.mg "enumerate"=none) (ha:PA X [a] ta) (n1:noStar a=true:=by rfl) (hK:X.K=K:=by rfl):
  PI X (.Tuple elts kk sx) (.Call (.Name "enumerate" p) [a] [] pos) (iEnum K ta):=by subst hK;exact uJ hg hm ha (by rw[se n1];rfl)
theorem c9 {es:List Expr} {k:Nat} {t:Gq} {n:Nat} {pos:Pos} (hc:X.calm=true) (h:Jv X es t) (hn:(assignEach es X.env).length=n:=by rfl) (hst:(assignEach es X.env).findIdx? (·.1)=none:=by rfl) (hK:X.K=K:=by rfl):PG X (.Tuple es k pos) (Es K n t):=by
 subst hK;exact Hs hc h hn hst
theorem t5 (hK:X.K=K:=by rfl):Gv X (HJ K):=by subst hK;exact Cg
theorem lG (hK:X.K=K:=by rfl):dz X (.builtin "len") (λxs H Q=>∃p ns,xs=[.ref p]/\bD K H p (List.map V.int ns)/\Q (.int (List.length ns:Nat)) H):=by subst hK;exact AZ
theorem gW (hK:X.K=K:=by rfl):dz X (.type "list") (λxs H Q=>∃p ys,xs=[.ref p]/\(bD K H p ys\/gh K H p ys)/\∀l,H l=none->Q (.ref l) (upd H l (.lst ys))):=by subst hK;exact uC
theorem qB (hK:X.K=K:=by rfl):dz X (.type "tuple") (λxs H Q=>∃p ys,xs=[.ref p]/\((bD K H p ys/\∀l,H l=none->Q (.ref l) (upd H l (.tup ys)))\/(gh K H p ys/\Q (.ref p) H))):=by subst hK;exact sE
theorem nX (hK:X.K=K:=by rfl):dz X (.builtin "isinstance") (λxs H Q=>∃x c t b,xs=[x,.ty c]/\i5 K H x t/\PySem.W.kitOne K t (.type c)=some b/\Q (.bl b) H):=by subst hK;exact Ci
theorem jh (hc:X.calm=true:=by rfl) (hK:X.K=K:=by rfl):dz X (.builtin "sum") (λxs H Q=>∃p ns,xs=[.ref p]/\bD K H p (List.map V.int ns)/\Q (.int ns.sum) H):=by subst hK;exact yg hc
theorem qC (hK:X.K=K:=by rfl):dz X (.builtin "sorted") (λxs H Q=>∃p ns,xs=[.ref p]/\bD K H p (List.map V.int ns)/\ns.length<64/\∀l,H l=none->Q (.ref l) (upd H l (.lst (List.map V.int (Nm.sH ns))))):=by subst hK;exact sI
theorem qD (hc:X.calm=true:=by rfl):dz X (.builtin "sorted") (λxs H Q=>∃d kvs,xs=[.ref d]/\Rd H d (.dK kvs)/\allI kvs/\kvs.length<64/\∀l,H l=none->Q (.ref l) (upd H l (.lst (List.map V.int (Nm.sH (kH kvs)))))):=sJ hc
theorem dZ (hK:X.K=K:=by rfl):Kc X (rSlL K):=by subst hK;exact EK
theorem Kd.r {id:String} {r:V->List V->Hp->VK->Prop} (h:Kd X id r):Ob X id r:=h
end
end L2
namespace Nm
abbrev Ws:=List (Int×Int)
noncomputable def keys (ws:Ws):List Int:=ws.map (·.1)
noncomputable def look:Ws->Int->Int
 | [],_=>0
 | p::r,k=>if p.1=k then p.2 else look r k
noncomputable def put:Ws->Int->Int->Ws
 | [],k,v=>[(k,v)]
 | p::r,k,v=>if p.1=k then (k,v)::r else p::put r k v
noncomputable def qE (ws:Ws):Int:=(ws.map (·.2)).sum
noncomputable def jW (ws:Ws) (k x:Int):Ws:=put ws k (look ws k+x)
noncomputable def aQ (ws ps:Ws):Ws:=ps.foldl (λacc p=>jW acc p.1 p.2) ws
noncomputable def cnt (ps:Ws) (s:Int):Int:=(ps.map λp=>if p.1=s then p.2 else 0).sum
set_option tactic.hygienic true in
theorem wj:∀(ws:Ws) (k v j:Int),look (put ws k v) j=if k=j then v else look ws j
 | [],k,v,j=>by simp [put,look]
 | p::r,k,v,j=>by
  unfold put
  split
  ·rename_i c
   simp only[look]
   by_cases e:k=j
   ·simp [e]
   ·rw[if_neg e,if_neg e,if_neg (by omega)]
  ·rename_i c
   simp only[look]
   by_cases e:p.1=j
   ·rw[if_pos e,if_neg (by omega),if_pos e]
   ·rw[if_neg e,if_neg e]
    exact wj r k v j
set_option tactic.hygienic true in
theorem zI {ws:Ws} {k v j:Int}:j∈keys (put ws k v)↔j=k\/j∈keys ws:=by
 induction ws with
 | nil=>simp [put,keys]
 | cons p r ih=>
  unfold put
  split
  ·rename_i c
   simp only[keys,aag,aaB]
   rw[c]
   constructor
   ·intro h;exact .inr h
   ·rintro(h | h)
    ·exact .inl h
    ·exact h
  ·simp only[keys,aag,aaB] at ih ⊢
   rw[ih]
   constructor
   ·rintro(h | h | h)
    ·exact .inr (.inl h)
    ·exact .inl h
    ·exact .inr (.inr h)
   ·rintro(h | h | h)
    ·exact .inr (.inl h)
    ·exact .inl h
    ·exact .inr (.inr h)
set_option tactic.hygienic true in
theorem A1 {ws:Ws} (k v:Int) (h:(keys ws).Nodup):(keys (put ws k v)).Nodup:=by
 induction ws with
 | nil=>simp [put,keys]
 | cons p r ih=>
  have h':p.1∉keys r/\(keys r).Nodup:=by simpa [keys] using h
  unfold put
  split
  ·rename_i c
   have:k∉keys r/\(keys r).Nodup:=by rw[<-c];exact h'
   simpa [keys] using this
  ·rename_i c
   have i:=ih h'.2
   have n:p.1∉keys (put r k v):=λz=>by
    rcases zI.mp z with z | z
    ·exact c z
    ·exact h'.1 z
   have:p.1∉keys (put r k v)/\(keys (put r k v)).Nodup:=⟨n,i⟩
   simpa [keys] using this
theorem wm:∀(ws:Ws) (k x:Int),qE (jW ws k x)=qE ws+x
 | [],k,x=>by simp [jW,put,look,qE]
 | p::r,k,x=>by
  have ih:=wm r k x
  unfold jW qE at *
  unfold put look
  by_cases c:p.1=k
  ·rw[if_pos c,if_pos c]
   simp only[aag,List.sum_cons]
   omega
  ·rw[if_neg c,if_neg c]
   simp only[aag,List.sum_cons]
   omega
theorem E5 (ws:Ws) (k v:Int):(put ws k v).length<=ws.length+1:=by
 induction ws with
 | nil=>simp [put]
 | cons p r ih=>
  unfold put
  split
  ·simp
  ·simp only[aap];omega
theorem pw:∀(ps ws:Ws) (s:Int),look (aQ ws ps) s=look ws s+cnt ps s
 | [],ws,s=>by simp [aQ,cnt]
 | p::r,ws,s=>by
  have ih:=pw r (jW ws p.1 p.2) s
  show look (aQ (jW ws p.1 p.2) r) s=_
  rw[ih]
  unfold jW cnt
  rw[wj]
  simp only[aag,List.sum_cons]
  by_cases c:p.1=s
  ·rw[if_pos c,if_pos c,c];omega
  ·rw[if_neg c,if_neg c];omega
theorem lH {s:Int}:∀{ps ws:Ws},s∈keys (aQ ws ps)↔s∈keys ws\/s∈keys ps
 | [],ws=>by simp [aQ,keys]
 | p::r,ws=>by
  show s∈keys (aQ (jW ws p.1 p.2) r)↔_
  rw[lH]
  unfold jW
  rw[zI]
  simp only[keys,aag,aaB]
  constructor
  ·rintro((h | h) | h)
   ·exact .inr (.inl h)
   ·exact .inl h
   ·exact .inr (.inr h)
  ·rintro(h | h | h)
   ·exact .inl (.inr h)
   ·exact .inl (.inl h)
   ·exact .inr h
theorem mI:∀{ps ws:Ws},(keys ws).Nodup->(keys (aQ ws ps)).Nodup
 | [],_,h=>h
 | p::r,ws,h=>by
  show(keys (aQ (jW ws p.1 p.2) r)).Nodup
  exact mI (A1 _ _ h)
theorem qF:∀(ps ws:Ws),qE (aQ ws ps)=qE ws+qE ps
 | [],ws=>by simp [aQ,qE]
 | p::r,ws=>by
  show qE (aQ (jW ws p.1 p.2) r)=_
  rw[qF,wm]
  unfold qE
  simp only[aag,List.sum_cons]
  omega
theorem qG:∀(ps ws:Ws),(aQ ws ps).length<=ws.length+ps.length
 | [],ws=>by simp [aQ]
 | p::r,ws=>by
  have h:=qG r (jW ws p.1 p.2)
  have h2:=E5 ws p.1 (look ws p.1+p.2)
  show(aQ (jW ws p.1 p.2) r).length<=_
  unfold jW at *
  simp only[aap]
  omega
structure Over (as ws:Ws) (B T:Int):Prop where
 nd:(keys ws).Nodup
 perm:(keys as).Perm (keys ws)
 val:∀k∈keys ws,look as k*T=look ws k*B
theorem fc {ws:Ws} {p:Int×Int} (h:(keys ws).Nodup) (hp:p∈ws):look ws p.1=p.2:=by
 induction ws with
 | nil=>cases hp
 | cons q r ih=>
  have h':q.1∉keys r/\(keys r).Nodup:=by simpa [keys] using h
  unfold look
  rcases List.mem_cons.mp hp with rfl | hp
  ·rw[if_pos rfl]
  ·rw[if_neg (λz=>h'.1 (by rw[z];exact List.mem_map.mpr ⟨p,hp,rfl⟩))]
   exact ih h'.2 hp
noncomputable def rowsOf (ws:Ws) (B:Int):List (Int×Int×Int):=(sH (keys ws)).map λv=>(v,st (look ws v) B,sb (look ws v) B)
noncomputable def weigh (rows:List (Int×Int×Int)) (B:Int):Ws:=rows.map λr=>(r.1,r.2.1* (B / r.2.2))
theorem sM (ws p q:Ws):aQ ws (p++q)=aQ (aQ ws p) q:=by
 unfold aQ
 rw[aa3]
theorem wu (ws p:Ws) (k x:Int):aQ ws (p++ [(k,x)])=jW (aQ ws p) k x:=by
 rw[sM]
 rfl
theorem zJ:∀{l:List Int},0<l.length->(∀x∈l,0<x)->0<l.sum
 | [],h,_=>by simp at h
 | x::r,_,h=>by
  have hx:=h x aao
  rw[List.sum_cons]
  by_cases c:0<r.length
  ·have:=zJ c λy hy=>h y (aal _ hy)
   omega
  ·have:r=[]:=List.eq_nil_of_length_eq_zero (by omega)
   subst this
   simpa using hx
theorem HW {ws:Ws} (nd:(keys ws).Nodup) {P:Int->Prop} (h:∀k∈keys ws,P (look ws k)):∀x∈ws.map (·.2),P x:=λx hx=>by
 obtain⟨p,hp,rfl⟩:=List.mem_map.mp hx
 have:=h p.1 (List.mem_map.mpr ⟨p,hp,rfl⟩)
 rwa [fc nd hp] at this
theorem E6 {ws:Ws} (h:0<ws.length) (nd:(keys ws).Nodup) (w:∀k∈keys ws,0<look ws k):0<qE ws:=
 zJ (by rw[aad];exact h) (HW nd w)
theorem HX {ps:Ws} (h:∀p∈ps,0<p.2) (s:Int):0<=cnt ps s:=by
 induction ps with
 | nil=>simp [cnt]
 | cons p r ih=>
  have i:=ih λq hq=>h q (aal _ hq)
  have hp:=h p aao
  unfold cnt at *
  rw[aag,List.sum_cons]
  split <;>omega
theorem qb {ps:Ws} (h:∀p∈ps,0<p.2) {s:Int} (hs:s∈keys ps):0<cnt ps s:=by
 induction ps with
 | nil=>simp [keys] at hs
 | cons p r ih=>
  have h':∀q∈r,0<q.2:=λq hq=>h q (aal _ hq)
  have hp:=h p aao
  have n:=HX h' s
  have e:cnt (p::r) s=(if p.1=s then p.2 else 0)+cnt r s:=by unfold cnt;rw[aag,List.sum_cons]
  rw[e]
  by_cases c:p.1=s
  ·rw[if_pos c];omega
  ·rw[if_neg c]
   have E2:s∈keys r:=by
    unfold keys at hs ⊢
    rw[aag] at hs
    rcases List.mem_cons.mp hs with z | z
    ·exact absurd z.symm c
    ·exact z
   have:=ih h' E2
   omega
end Nm
namespace L2
open PySem PySem.Spec PyProof.Rows
noncomputable def enc (ws:Nm.Ws):List (Key×V):=ws.map λp=>(Sum.inl p.1,V.int p.2)
theorem uL (ws:Nm.Ws):(enc ws).length=ws.length:=by unfold enc;rw[aad]
theorem A2 (ws:Nm.Ws):kH (enc ws)=Nm.keys ws:=by
 unfold kH enc Nm.keys
 rw[aas]
 rfl
theorem Cs (ws:Nm.Ws):allI (enc ws):=λp hp=>by
 unfold enc at hp
 obtain⟨q,_,rfl⟩:=List.mem_map.mp hp
 exact⟨q.1,rfl⟩
theorem zK (ws:Nm.Ws) (k:Int):eM (enc ws) (Sum.inl k)=if k∈Nm.keys ws then some (.int (Nm.look ws k)) else none:=by
 induction ws with
 | nil=>simp [enc,eM,Nm.keys]
 | cons p r ih=>
  unfold eM at *
  unfold enc at *
  rw[aag,aaV]
  unfold Nm.look
  by_cases c:p.1=k
  ·rw[show decide ((Sum.inl p.1:Key)=Sum.inl k)=true by rw[c];simp]
   simp [Nm.keys,c]
  ·rw[show decide ((Sum.inl p.1:Key)=Sum.inl k)=false by simpa using c]
   simp only[ih]
   have e:(k∈Nm.keys (p::r))=(k∈Nm.keys r):=by
    unfold Nm.keys
    rw[aag,aaB]
    apply propext
    constructor
    ·rintro(h | h)
     ·exact absurd h.symm c
     ·exact h
    ·exact .inr
   simp only[e,if_neg c]
theorem E7 {ws:Nm.Ws} (nd:(Nm.keys ws).Nodup) (k v:Int):putK (enc ws) (Sum.inl k) (.int v)=enc (Nm.put ws k v):=by
 have key:∀{ws:Nm.Ws},k∉Nm.keys ws->(enc ws).map (λkv=>if kv.1=(Sum.inl k:Key) then (kv.1,V.int v) else kv)=enc ws:=by
  intro ws h
  unfold enc
  rw[aas]
  apply List.map_congr_left
  intro p hp
  have:p.1≠k:=λz=>h (by rw[<-z];exact List.mem_map.mpr ⟨p,hp,rfl⟩)
  simp [this]
 have any:∀ws:Nm.Ws,((enc ws).any λkv=>decide (kv.1=(Sum.inl k:Key)))=decide (k∈Nm.keys ws):=by
  intro ws
  induction ws with
  | nil=>simp [enc,Nm.keys]
  | cons p r ih=>
   unfold enc at *
   rw[aag,List.any_cons,ih]
   unfold Nm.keys
   rw[aag]
   by_cases c:p.1=k
   ·simp [c]
   ·have c2:¬k=p.1:=λz=>c z.symm
    simp [c,c2]
 unfold putK
 rw[any]
 clear any
 by_cases c:k∈Nm.keys ws
 ·rw[if_pos (by simpa using c)]
  induction ws with
  | nil=>simp [Nm.keys] at c
  | cons p r ih=>
   have h':p.1∉Nm.keys r/\(Nm.keys r).Nodup:=by simpa [Nm.keys] using nd
   unfold Nm.put
   by_cases e:p.1=k
   ·rw[if_pos e]
    have:=key (ws:=r) (by rw[<-e];exact h'.1)
    unfold enc at *
    rw[aag,aag,this,aag]
    simp [e]
   ·rw[if_neg e]
    have c':k∈Nm.keys r:=by
     unfold Nm.keys at c ⊢
     rw[aag] at c
     rcases List.mem_cons.mp c with z | z
     ·exact absurd z.symm e
     ·exact z
    have:=ih h'.2 c'
    unfold enc at *
    rw[aag,aag,this,aag]
    simp [e]
 ·rw[if_neg (by simpa using c)]
  induction ws with
  | nil=>simp [enc,Nm.put]
  | cons p r ih=>
   have h':p.1∉Nm.keys r/\(Nm.keys r).Nodup:=by simpa [Nm.keys] using nd
   have e:¬p.1=k:=λz=>c (by unfold Nm.keys;rw[aag,z];exact aao)
   have c':k∉Nm.keys r:=λz=>c (by unfold Nm.keys at *;rw[aag];exact aal _ z)
   unfold Nm.put
   rw[if_neg e]
   have:=ih h'.2 c'
   unfold enc at *
   rw[aag,List.cons_append,this,aag]
theorem E8 {H:Hp} {d:Addr} {ws:Nm.Ws} {v:Int} (h:Rd H d (.dK (enc ws))) (hv:v∈Nm.keys ws):lE H d (.int v) (some (.int (Nm.look ws v))):=
 .inl ⟨_,Sum.inl v,h,rfl,by rw[zK,if_pos hv]⟩
theorem Ct {H:Hp} {d:Addr} {ws:Nm.Ws} {v:Int} (h:H d=some (.dK (enc ws))) (hv:v∈Nm.keys ws):lE H d (.int v) (some (.int (Nm.look ws v))):=E8 (.inl h) hv
theorem Cu {ws:Nm.Ws} {v:Int} (h:v∉Nm.keys ws):Nm.look ws v=0:=by
 induction ws with
 | nil=>rfl
 | cons p r ih=>
  unfold Nm.keys at h
  rw[aag] at h
  unfold Nm.look
  rw[if_neg (λz=>h (by rw[z];exact aao))]
  exact ih λz=>h (aal _ z)
theorem A3 {H:Hp} {d:Addr} {ws:Nm.Ws} (v:Int) (h:Rd H d (.dK (enc ws))):∃o,lE H d (.int v) o/\o.getD (.int 0)=.int (Nm.look ws v):=by
 refine⟨_,.inl ⟨_,Sum.inl v,h,rfl,rfl⟩,?_⟩
 rw[zK]
 by_cases c:v∈Nm.keys ws
 ·rw[if_pos c];rfl
 ·rw[if_neg c,Cu c];rfl
theorem Cv {H:Hp} {d:Addr} {ws:Nm.Ws} (v x:Int) (h:H d=some (.dK (enc ws))) (nd:(Nm.keys ws).Nodup) (hl:ws.length<sizeLine):AR H d (.int v) (.int x) (upd H d (.dK (enc (Nm.put ws v x)))):=by
 have:=AR.k (k:=Sum.inl v) (v:=.int x) h (by rw[uL];exact hl)
 rw[E7 nd] at this
 exact this
noncomputable def E9 (r:Int×Int×Int):Dat:=.tup [.int r.1,.tup [.int r.2.1,.int r.2.2]]
noncomputable def kI (rows:List (Int×Int×Int)):Dat:=.lst (rows.map E9)
noncomputable def px (p:Int×Int):Dat:=.tup [.int p.1,.int p.2]
noncomputable def ji (ws:Nm.Ws):Dat:=.lst (ws.map px)
theorem mJ {H:Hp} {r:Int×Int×Int} {v:V}:Rep H (E9 r) v↔∃p q,v=.ref p/\H p=some (.tup [.int r.1,.ref q])/\H q=some (.tup [.int r.2.1,.int r.2.2]):=by
 unfold E9
 simp only[Rep,aZ]
 constructor
 ·rintro⟨p,vs,rfl,hp,a,b,rfl,rfl,c,d,rfl,⟨q,us,rfl,hq,e,f,rfl,rfl,g,h,rfl,rfl,rfl⟩,rfl⟩
  exact⟨p,q,rfl,hp,hq⟩
 ·rintro⟨p,q,rfl,hp,hq⟩
  exact⟨p,_,rfl,hp,_,_,rfl,rfl,_,_,rfl,⟨q,_,rfl,hq,_,_,rfl,rfl,_,_,rfl,rfl,rfl⟩,rfl⟩
theorem d8 {H:Hp} {r:Int×Int} {v:V}:Rep H (px r) v↔∃p,v=.ref p/\H p=some (.tup [.int r.1,.int r.2]):=by
 unfold px
 simp only[Rep,aZ]
 constructor
 ·rintro⟨p,vs,rfl,hp,a,b,rfl,rfl,c,d,rfl,rfl,rfl⟩
  exact⟨p,rfl,hp⟩
 ·rintro⟨p,rfl,hp⟩
  exact⟨p,_,rfl,hp,_,_,rfl,rfl,_,_,rfl,rfl,rfl⟩
theorem aS {H:Hp} {ds:List Dat} {v:V}:Rep H (.lst ds) v↔∃p vs,v=.ref p/\H p=some (.lst vs)/\aZ H ds vs:=by rw[Rep]
noncomputable def VF (H H':Hp):Prop:=∀p xs,(H p=some (.tup xs)->H' p=some (.tup xs))/\(H p=some (.lst xs)->H' p=some (.lst xs))
mutual
theorem Rep.KA {H H':Hp} (s:VF H H'):∀{d:Dat} {v:V},Rep H d v->Rep H' d v
 | .dG,_,h=>by rw[Rep] at *;exact h
 | .bl _,_,h=>by rw[Rep] at *;exact h
 | .int _,_,h=>by rw[Rep] at *;exact h
 | .str _,_,h=>by rw[Rep] at *;exact h
 | .tup _,_,h=>by
  rw[Rep] at *
  obtain⟨p,vs,e,hp,r⟩:=h
  exact⟨p,vs,e,(s _ _).1 hp,aZ.KA s r⟩
 | .lst _,_,h=>by
  rw[Rep] at *
  obtain⟨p,vs,e,hp,r⟩:=h
  exact⟨p,vs,e,(s _ _).2 hp,aZ.KA s r⟩
theorem aZ.KA {H H':Hp} (s:VF H H'):∀{ds:List Dat} {vs:List V},aZ H ds vs->aZ H' ds vs
 | [],_,h=>by rw[aZ] at *;exact h
 | _::_,_,h=>by
  rw[aZ] at *
  obtain⟨v,r,e,h1,h2⟩:=h
  exact⟨v,r,e,Rep.KA s h1,aZ.KA s h2⟩
end
theorem none_of {H H':Hp} (s:aA H H') {p:Addr} (h:H' p=none):H p=none:=by
 cases e:H p with
 | none=>rfl
 | some o=>rw[s p o e] at h;cases h
end L2
namespace Nm
end Nm
namespace L2
open PySem PySem.Spec PyProof.Rows
theorem Fb {α β:Type} (f:α->β) (l:List α):l.filterMap (λa=>some (f a))=l.map f:=by
 rw[<-List.filterMap_eq_map];rfl
end L2
namespace L2
open PySem PySem.Spec PyProof.Rows PySem.W
section
variable {X : Cx} {K : PySem.W.Frag}
theorem HY {as:List (Key×V)} {bs:List (Key×Value)} (r:KV as bs):∀(j:Nat) {b},bs[j]?=some b->∃a,as[j]?=some a/\RelV a.2 b.2:=by
 induction r with
 | nil=>intro j b e;simp at e
 | cons r1 r2 ih=>
  intro j b e
  cases j with
  | zero=>simp at e;subst e;exact⟨_,rfl,r1.2⟩
  | succ j=>simp at e;obtain⟨a,e1,e2⟩:=ih j e;exact⟨a,by simpa using e1,e2⟩
theorem wx (ns:List Int):preSum (λi=>ns.getD i 0) ns.length=ns.sum:=by
 have e:=preSum_eq (ns.map λn=>(n,(0:Nat))).toArray ns.length
 have f:(λi=>ns.getD i 0)=numAt (ns.map λn=>(n,(0:Nat))).toArray:=by
  funext i
  unfold numAt
  simp only[List.getElem?_toArray,aae,aaO]
  cases ns[i]? <;>rfl
 rw[f]
 refine e.trans ?_
 rw[aau (by simp)]
 congr 1
 simp [Function.comp_def]
noncomputable def tSumV (to:TE):TE:=λσ H Q=>to σ H λv H1=>∃d kvs ns,v=.ref d/\H1 d=some (.dK kvs)/\kvs.map (·.2)=List.map V.int ns/\Q (.int ns.sum) H1
theorem yh {o:Expr} {to:TE} {p apos eW pos:Pos} (hc:X.calm=true) (hg:Gl X "sum") (hm:X.mg "sum"=none) (ho:PE X o to)
  (B9:attributeBase o "values" X.env (eval o X.env)=eval o X.env:=by rfl) (Ca:(apos.endLine==eW.line)=true:=by rfl)
  (he:starEach [Expr.Call (.Attribute o "values" apos) [] [] eW] X.env=[(false,eval (.Call (.Attribute o "values" apos) [] [] eW) X.env)]:=by rfl):
  PE X (.Call (.Name "sum" p) [.Call (.Attribute o "values" apos) [] [] eW] [] pos) (tSumV to):=by
 intro pins s σ H Q I h
 refine wpAny_Call_Name_kw (gS I hg hm (u:=.builtin "sum") rfl ?_ (by decide) (by decide))
 rw[he]
 refine PySem.callWith_builtin1 ?_
 refine wpAny_Call_method0_late B9 Ca (cL (ho pins s σ H _ I h) λv s1 dH=>?_)
 obtain⟨x,H1,I1,r1,q1⟩:=dH
 obtain⟨d,kvs,ns,rfl,hd,hv,q⟩:=q1
 obtain⟨h1,h2⟩:=B8 (T:="dict") I1 r1 (.inr (.inr (.inl ⟨rfl,.inl ⟨_,hd⟩⟩)))
 cases r1
 obtain⟨hz,lo,vs,kv,dd⟩:=Cc I1.bN hd
 have hlen:kvs.length=vs.length:=Paired.length kv
 refine⟨"dict","dict.values",PySem.F.plainAttrs_dict,PySem.F.slot_dict_values,PySem.F.type_dict_values,h1,h2,Calls.callWith_builtin rfl (PySem.evalArgs_none ?_)⟩
 refine call_meetsIn PySem.F.slot_dict_values dd.typeIs PySem.F.entry_dict_values (PySem.F.args_dict_values_1 _) (meets_dict_values _ d lo) ⟨⟨vs,dd⟩,?_⟩
 have I2:Inv X pins σ H1 {s1 with heap:=s1.heap.push {cls:=.type "dict_values",data:=.fields #[.ref d]}}:=I1.kept (t':=s1.toks) λb o e=>Heap.get?_push_of_some _ e
 obtain⟨hz,lo,vs,kv,dd⟩:=Cc I2.bN hd
 have hlen:kvs.length=vs.length:=Paired.length kv
 obtain⟨ep,qa⟩:=dd.dictAt
 have hn:ns.length=vs.length:=by
  have:=congrArg List.length hv
  rw[aad,aad] at this
  omega
 have Ks:=kdl_values (prog:=X.prog) (w:=X.w) (r:=s1.heap.objs.size) (d:=d) (knd:=cC X.prog X.w) (kvs:=vs) (ep:=ep)
 have bN:({s1 with heap:=s1.heap.push {cls:=.type "dict_values",data:=.fields #[.ref d]}}:Shared).heap.IsValuesView s1.heap.objs.size d/\({s1 with heap:=s1.heap.push {cls:=.type "dict_values",data:=.fields #[.ref d]}}:Shared).heap.DictAt (cC X.prog X.w) d vs ep:=⟨⟨_,Heap.get?_push_size _ rfl,rfl,rfl⟩,qa⟩
 refine call_sum_walkAnyS ?_
 obtain⟨oI,St,hit,W,st⟩:=Ks.iter X.A.in1 _ (I.ok.hd hc) bN
 refine hit _ _ ⟨_,_,_,_,vs.length,_,_,λi=>ns.getD i 0,rfl,W.toS,st,λb hb=>?_,λi v hP=>?_,λs' t' VG=>?_⟩
 ·show b< (Heap.push _ oI).objs.size
  rw[size_push']
  rcases List.mem_cons.mp hb with e | hb
  ·rw[e];exact aaY _
  ·rw[List.mem_singleton.mp hb];exact Nat.lt_succ_of_lt (Ks.there _ bN).2
 ·obtain⟨k,e⟩:=hP
  obtain⟨a,e1,e2⟩:=HY kv i e
  have e3:(kvs.map (·.2))[i]?=some a.2:=by rw[aae,e1];rfl
  rw[hv,aae] at e3
  obtain⟨n,en,ea⟩:=Option.map_eq_some_iff.mp e3
  rw[<-ea] at e2
  obtain⟨t,e2⟩:=e2
  refine⟨t,?_⟩
  show v=Value.int (ns.getD i 0) t
  rw[aaO,en]
  exact e2
 ·have hk:∀b o,(s1.heap.push {cls:=.type "dict_values",data:=.fields #[.ref d]}).get? b=some o->s'.heap.get? b=some o:=λb o e=>
   VG.heap b o (λhI=>absurd (Heap.lt_size e) (by rw[List.mem_singleton.mp hI];exact aaA _)) (Heap.get?_push_of_some _ e)
  rw[Moved.eq_with VG,<-hn,wx]
  exact⟨.int ns.sum,H1,I2.kept (t':=s'.toks) hk,⟨t',rfl⟩,q⟩
theorem nY {α:Type} {J:It} {tc:TT} {te:TE} {tl:St} {H1:Hp} {fin:List V->Hp->Prop} {Item:Nat->V->Hp->Hp->Prop} (as:List α) (f:α->Option V) (S:Src J (aA H1) as.length Item) (sub:∀i x H H3,Item i x H H3->H3=H) (hz:as.length<=sizeLine)
  (hs:∀i a x,as[i]?=some a->Item i x H1 H1->∀(Y:VK) (N:Hp->Prop),(∀z,f a=some z->Y z H1)->(f a=none->N H1)->tc (some x::tl) H1 λb H5=>if b=true then te (some x::tl) H5 Y else N H5)
  (qz:fin (as.filterMap f) H1):iJ J (gName 0) tc te (none::tl) H1 fin:=by
 refine tZ S (λσ=>∃w0,σ=w0::tl) ⟨_,rfl⟩ (λi ys H=>H=H1/\ys=(as.take i).filterMap f) ⟨rfl,by simp⟩ hz ?_ ?_
 ·rintro i x σ H ys H3 Q N hi sm ⟨rfl,rfl⟩ hl ⟨w0,rfl⟩ it kq kn
  obtain rfl:=sub _ _ _ _ it
  have ea:as[i]?=some as[i]:=aax hi
  refine hs i _ x ea it _ _ (λz e=>kq _ _ _ ⟨_,rfl⟩ sm ⟨rfl,?_⟩) (λe=>kn _ _ ⟨_,rfl⟩ sm ⟨rfl,?_⟩)
  ·rw[aaC,ea,List.filterMap_append]
   simp [e]
  ·rw[aaC,ea,List.filterMap_append]
   simp [e]
 ·rintro ys H sm ⟨rfl,rfl⟩ hl
  rw[aau (aaf _)]
  exact qz
theorem cV {a b:TS} {D:Ends} {σ:St} {H:Hp} (C:St->Hp->Prop) (hb:∀σ' H',C σ' H'->b D σ' H') (ha:∀N:St->Hp->Prop,(∀σ' H',C σ' H'->N σ' H')->a {D with nx:=N} σ H):tSeq a b D σ H:=ha _ hb
theorem uM {tc:TT} {a b:TS} {D:Ends} {σ:St} {H:Hp} (C1 C2:Hp->Prop) (h1:∀H',C1 H'->a D σ H') (h2:∀H',C2 H'->b D σ H')
  (ht:∀Y N:Hp->Prop,(∀H',C1 H'->Y H')->(∀H',C2 H'->N H')->tc σ H λv H'=>if v=true then Y H' else N H'):tIfS tc a b D σ H:=ht _ _ h1 h2
end
end L2
namespace Nm
noncomputable def pos (ps:Ws):Ws:=ps.filter λp=>decide (0<p.2)
noncomputable def lI (ps:Ws):Ws:=aQ [] (pos ps)
noncomputable def bad (ps:Ws):Prop:=(∃p∈ps,p.2<0)\/pos ps=[]
theorem Cw (ps:Ws) (p:Int×Int):pos (ps++ [p])=if 0<p.2 then pos ps++ [p] else pos ps:=by
 unfold pos
 rw[List.filter_append]
 by_cases c:0<p.2
 ·rw[if_pos c];simp [c]
 ·rw[if_neg c];simp [c]
theorem Cy (ps:Ws) (p:Int×Int):lI (ps++ [p])=if 0<p.2 then jW (lI ps) p.1 p.2 else lI ps:=by
 unfold lI
 rw[Cw]
 split
 ·rw[wu]
 ·rfl
theorem nZ (ps:Ws):(keys (lI ps)).Nodup:=mI (by simp [keys])
theorem zL (ps:Ws):(lI ps).length<=ps.length:=by
 have:=qG (pos ps) []
 have h2:(pos ps).length<=ps.length:=List.length_filter_le _ _
 unfold lI
 simp only[aaR] at this
 omega
theorem zM {ps:Ws}:lI ps=[]↔pos ps=[]:=by
 constructor
 ·intro h
  cases e:pos ps with
  | nil=>rfl
  | cons p r=>
   have m:p.1∈keys (lI ps):=by
    unfold lI
    rw[e]
    exact lH.mpr (.inr (by simp [keys]))
   rw[h] at m
   simp [keys] at m
 ·intro h
  unfold lI
  rw[h]
  rfl
theorem Fc (ps:Ws):∀p∈pos ps,0<p.2:=λp hp=>by
 unfold pos at hp
 simpa using (List.mem_filter.mp hp).2
theorem Fd (ps:Ws):∀k∈keys (lI ps),0<look (lI ps) k:=λk hk=>by
 unfold lI at *
 rw[pw]
 have h:k∈keys (pos ps):=by
  rcases lH.mp hk with z | z
  ·simp [keys] at z
  ·exact z
 have:=qb (Fc ps) h
 simp only[look]
 omega
theorem Fe (ps:Ws):qE (lI ps)=qE (pos ps):=by
 unfold lI
 rw[qF]
 simp [qE]
theorem qH {c:Int} (c0:0<=c):∀{ps:Ws},(∀p∈ps,p.2<=c)->qE (pos ps)<=ps.length*c
 | [],_=>by simp [pos,qE]
 | p::r,h=>by
  have ih:=qH c0 λq hq=>h q (aal _ hq)
  have hp:=h p aao
  rw[aap,Int.natCast_succ,Int.add_mul]
  unfold pos at *
  rw[List.filter_cons]
  split
  ·rw[show qE (p::List.filter (λp=>decide (0<p.2)) r)=p.2+qE (List.filter (λp=>decide (0<p.2)) r) from by unfold qE;rw[aag,List.sum_cons]]
   omega
  ·omega
end Nm
namespace L2
open PySem PySem.Spec PyProof.Rows PySem.W
section
variable {X : Cx} {K : PySem.W.Frag}
noncomputable def rJoin (K:PySem.W.Frag):V->List V->Hp->VK->Prop:=λx xs H Q=>∃sep p ts,x=.str sep/\xs=[.ref p]/\bD K H p (List.map V.str ts)/\JoinOk sep ts=true/\Q (.str (Txt.join sep ts)) H
theorem yi:dz X (.type "int") (λxs H Q=>∃k,xs=[.bl k]/\Q (.int (if k then 1 else 0)) H):=by
 intro pins s σ H xs us Q I r h
 exact AJ pins s σ H xs us Q I r (.inr h)
abbrev TJ:=Str->TE
noncomputable def jNil:TJ:=λacc _ H Q=>Q (.str acc) H
noncomputable def jLit (x:Str) (t:TJ):TJ:=λacc σ H Q=>(acc++x).length<=sizeLine/\t (acc++x) σ H Q
noncomputable def jInt (te:TE) (t:TJ):TJ:=λacc σ H Q=>te σ H λv H1=>∃i,v=.int i/\i.natAbs.log2<1920/\(acc++toString i).length<=sizeLine/\t (acc++toString i) σ H1 Q
noncomputable def jStr (te:TE) (t:TJ):TJ:=λacc σ H Q=>te σ H λv H1=>∃z,v=.str z/\z.length<=sizeLine/\(acc++z).length<=sizeLine/\t (acc++z) σ H1 Q
noncomputable def tJoined (t:TJ):TE:=λσ H Q=>t Str.empty σ H Q
end
end L2
namespace L2
open PySem PySem.Spec PyProof.Rows PySem.W
inductive Pl where
 | fin (w:Int×Int) | fx (w:Int×Int) (ws:List (Int×Int)) | pck (Ff:Int) (to:List Int)
noncomputable def di (H:Hp) (p:Addr):Hp:=λa=>if a=p then none else H a
theorem bM {H:Hp} {p a:Addr} (h:a≠p):di H p a=H a:=if_neg h
theorem zN {H:Hp} {p:Addr} {o:HO}:aA (di H p) (upd H p o):=λa u e=>by
 unfold di at e
 by_cases h:a=p
 ·rw[if_pos h] at e;cases e
 ·rw[if_neg h] at e;rw[aB h];exact e
theorem bJ {H:Hp} {p:Addr}:aA (di H p) H:=λa u e=>by
 unfold di at e
 by_cases h:a=p
 ·rw[if_pos h] at e;cases e
 ·rw[if_neg h] at e;exact e
theorem Cz {H0 H:Hp} {p:Addr} (s:aA H0 H) (n:H0 p=none):aA H0 (di H p):=λa u e=>by
 rw[bM (λz=>by rw[z,n] at e;cases e)]
 exact s _ _ e
theorem bH {H H':Hp} {p:Addr} (s:aA H H'):aA (di H p) (di H' p):=λa u e=>by
 unfold di at *
 by_cases h:a=p
 ·rw[if_pos h] at e;cases e
 ·rw[if_neg h] at e ⊢;exact s _ _ e
theorem cb {H0 H:Hp} {p:Addr} {o:HO} (s:aA H0 H) (n:H0 p=none):aA H0 (upd H p o):=(Cz s n).trans zN
theorem ie {xs:List V} {k:Int} (h:0<=k):je xs none (some k)=xs.take k.toNat:=by
 unfold je
 obtain⟨n,rfl⟩:=Int.eq_ofNat_of_zero_le h
 rw[HT.vV,show((n:Nat):Int)=Int.ofNat n from rfl]
 rw[show HT.fh xs.length xs.length (some (Int.ofNat n))=min n xs.length from HT.zt _ _ n]
 rw[List.drop_zero,Nat.sub_zero]
 show xs.take (min n xs.length)=xs.take n
 by_cases h:n<=xs.length
 ·rw[Nat.min_eq_left h]
 ·rw[Nat.min_eq_right (by omega),aau (aaf _),aau (by omega)]
section
variable {X : Cx} {K : PySem.W.Frag}
theorem wy (hK:X.K=K:=by rfl):my X (binaryOp .Add) (vW K):=by subst hK;exact EH
end
end L2
namespace PySem
section
variable {prog : Program} {w : World} {A : Around} {E : Value -> Shared -> Prop} {s : Shared}
end
end PySem
namespace L2
open PySem PySem.Spec PyProof.Rows PySem.W
section
variable {X : Cx} {K : PySem.W.Frag}
noncomputable def tRev (K:PySem.W.Frag) (te:TE):TE:=λσ H Q=>te σ H λv H1=>∃p xs,v=.ref p/\bD K H1 p xs/\∀l,H1 l=none->Q (.ref l) (upd H1 l (.lst xs.reverse))
noncomputable def tD1 (tk tv:TE):TE:=λσ H Q=>∀d,H d=none->tk σ (upd H d (.dK [])) λx H1=>tv σ H1 λv H2=>∃k,x=kV k/\H2 d=some (.dK [])/\Q (.ref d) (upd H2 d (.dK [(k,v)]))
end
end L2
namespace PySem
open Builtin Builtin.Str
section
variable {prog : Program} {w : World} {A : Around} {E : Value -> Shared -> Prop} {s : Shared} {x y : Str} {t u : Tok} {Q : Value -> Shared -> Prop}
end
end PySem
namespace L2
open PySem PySem.Spec PyProof.Rows PySem.W
section
variable {X : Cx} {K : PySem.W.Frag}
noncomputable def X8 (z:Str):It:=⟨λi _=>i<z.cps.size,λi H x H'=>H'=H/\∃c,z.cps[i]?=some c/\x=.str ⟨#[c]⟩,λi _=>z.cps.size<=i⟩
noncomputable def iStr (tl:TE):TI:=λσ H R=>tl σ H λx H1=>∃z,x=.str z/\z.cps.all (·<128)=true/\R (X8 z) H1
theorem A4 {K:PySem.W.Frag} {J:It} {te:TE} {tl:St} {H1:Hp} {fin:List V->Hp->Prop} {n:Nat} {Item:Nat->V->Hp->Hp->Prop} (S:Src J (aA H1) n Item) (Ky:Nat->V->V->V->Hp->Prop)
  (tp:∀i x H H3,i<n->aA H1 H->Item i x H H3->aA H H3/\∃p a b c,x=.ref p/\gh K H3 p [a,b,c]/\Ky i a b c H3) (hz:n<=sizeLine)
  (R:Nat->V->Hp->Prop) (mono:∀i y H H',aA H H'->R i y H->R i y H')
  (hs:∀i a b c H3 (Q:VK),i<n->aA H1 H3->Ky i a b c H3->(∀y H6,aA H3 H6->R i y H6->Q y H6)->te (some a::some b::some c::tl) H3 Q)
  (qz:∀ys H,aA H1 H->ys.length=n->(∀(i:Nat) y,ys[i]?=some y->R i y H)->fin ys H):iJ J (Es K 3 (gCons (gName 0) (gCons (gName 1) (gCons (gName 2) gNil)))) sG te (none::none::none::tl) H1 fin:=by
 refine⟨λi m ys σ H=>m=n - i/\i<=n/\ys.length=i/\(∃w w' VH,σ=w::w'::VH::tl)/\aA H1 H/\∀(j:Nat) y,ys[j]?=some y->R j y H,⟨n,by simp,aak _,rfl,⟨_,_,_,rfl⟩,aA.refl _,λj y e=>by simp at e⟩,?_⟩
 rintro i m ys σ H ⟨rfl,hi,hl,⟨w,w',VH,rfl⟩,sm,p⟩
 by_cases fY:i<n
 ·refine .inr ⟨S.go i H fY sm,λx H3 y=>?_⟩
  obtain⟨s3,q,a,b,c,rfl,sq,it⟩:=tp i x H H3 fY sm (S.xO i H x H3 fY sm y)
  refine⟨q,_,rfl,sq,rfl,_,_,rfl,_,_,rfl,_,_,rfl,rfl,?_⟩
  unfold sG
  refine HI ?_
  refine hs i a b c H3 _ fY (sm.trans s3) it λy H6 s6 r=>⟨by omega,n - (i+1),by omega,rfl,fY,by rw[aah,aaM];omega,⟨_,_,_,rfl⟩,sm.trans (s3.trans s6),λj z e=>?_⟩
  by_cases hj:j<i
  ·rw[aaZ (by omega)] at e
   exact mono j z _ _ (s3.trans s6) (p j z e)
  ·rw[aa9 (by omega)] at e
   have e2:j - ys.length=0:=by
    by_cases q:j - ys.length=0
    ·exact q
    ·rw[aa1 (by simp;omega)] at e;cases e
   rw[e2] at e
   simp at e
   subst e
   have:j=i:=by omega
   subst this
   exact r
 ·have e:i=n:=by omega
  subst e
  exact .inl ⟨S.stop H sm,qz ys H sm hl p⟩
theorem mK {x:Str} {i:Int} {pos:Pos} (hg:Gl X x) (h:∃t,X.mg x=some (.int i t)) (hd:(x==("__debug__":Str))=false:=by decide):PE X (.Name x pos) (tC (.int i)):=by
 obtain⟨t,h⟩:=h
 exact Er hg h ⟨t,rfl⟩ hd
end
end L2
namespace PySem
end PySem
namespace PySem
section
variable {M : Model} {A : Around} {E : Value -> Shared -> Prop} {s : Shared} {env : Env}
theorem A5 {e:Expr} {scope:Scope} {pos:Pos} {CA first:Sem Value} {g:Comprehension} {gs:List Comprehension} {cl:List (Str×Addr)} {Q:Value->Shared->Prop}
  (h1:clausesOf e=g::gs) (h2:∀x,foldedSetIterable g.iter env x=pure x) (h3:closureFor scope env=pure cl) (h4:scope.kind=.function) (h5:∀x∈scope.names,x.2=.local->scope.names.lookup x.1=some .local)
  (h:wpAny M A first (λx t1=>wpAny M A (pyIter x) (λit t2=>wpAny M A CA (λacc t3=>wpAny M A (newFunctionEnv scope env.globals cl [] env.qual none .none (some env)) (λce t4=>
    codeAny M A (.compStart e 0 it acc {ce with scope:=relabel scope env}) (λr t=>∃m,t.heap.Ns ce.locals m/\∀h',Heap.SameBut ce.locals t.heap h'->match r with
     | .ok _=>Q acc {t with heap:=h'}
     | .error x=>wpAny M A (passOn "comprehension.variables-let-go" x {ce with scope:=relabel scope env}:Sem Value) (λ_ _=>False) E {t with heap:=h'}) t4) E t3) E t2) E t1) E s):
  wpAny M A (comprehension e scope env pos CA false first none) Q E s:=by
 unfold comprehension
 rw[h3,h1]
 refine wpAny_bind (wpAny_mono h (λx t1 a1=>?_) λ_ _ y=>y)
 refine wpAny_bind (wpAny_standAt ?_)
 refine wpAny_bind (wpAny_of_eq (h2 x) ?_)
 refine wpAny_bind (wpAny_holding (wpAny_mono a1 (λit t2 a2=>?_) λ_ _ y=>y))
 refine wpAny_standIf (wpAny_bind (wpAny_mono a2 (λacc t3 a3=>?_) λ_ _ y=>y))
 refine wpAny_bind (wpAny_pure (wpAny_bind (wpAny_mono a3 (λce t4 a4=>?_) λ_ _ y=>y)))
 dsimp only
 have own:∀x∈(scope.names.filter λy=>(y.2==.local || y.2==.cell) && y.1 !=(".0":Str)).reverse,x.2=.local->Env.kindOf {ce with scope:=relabel scope env} x.1=some .local:=by
  intro x hx hl
  have hm:=(List.mem_filter.mp (List.mem_reverse.mp hx)).1
  exact lookup_relabel_local (h5 x hm hl)
 refine wpAny_holding (wpAny_bind (wpAny_attempt (wpAny_holding (wpAny_run (codeAny_mono a4 λr t hr=>?_)))))
 obtain⟨m,hn,hq⟩:=hr
 cases r with
 | ok fl=>
  refine wpAny_bind (wpAny_holding (wpAny_comp_letGo (cenv:={ce with scope:=relabel scope env}) h4 _ t m own hn λh' m' _ sb=>?_))
  exact wpAny_pure (hq h' sb)
 | error x=>
  refine wpAny_bind (wpAny_holding (wpAny_comp_letGo (cenv:={ce with scope:=relabel scope env}) h4 _ t m own hn λh' m' _ sb=>?_))
  exact wpAny_mono (hq h' sb) (λ_ _ z=>False.elim z) λ_ _ y=>y
end
end PySem
namespace L2
open PySem PySem.Spec PyProof.Rows PySem.W
theorem A6 {x:Value} {e1 e2:Env} (h:e1.frame=e2.frame):noteFrame x e1=noteFrame x e2:=by
 unfold noteFrame PySem.frameOf
 simp only[h]
theorem qI {C:Addr} {h h' base:Heap} (sb:Heap.SameBut C h h'):∀{l:List Env},h.FunFrames base l->C∉dY l->h'.FunFrames base l
 | [],_,_=>trivial
 | en::r,⟨a1,⟨L,o,b1,b2,b3,b4⟩,a3⟩,n=>by
  have e:dY (en::r)=L::dY r:=by unfold dY;rw[aaX,b1]
  rw[e] at n
  refine⟨a1,⟨L,o,b1,b2,(sb.2 L λz=>n (by rw[z];exact aao)).trans b3,b4⟩,?_⟩
  exact qI sb a3 λz=>n (aal _ z)
section
variable {M : Model} {A : Around} {E : Value -> Shared -> Prop} {s : Shared} {B : Heap} {l : List Env} {ad L : Addr} {cls a0 : Value}
theorem A7 {Oz:String} {ce:Env} {Q:Value->Shared->Prop} (hh:Heap.HeldW B l ad cls a0 L s.heap) (hf:ce.frame=some L)
  (k:∀h',Heap.HeldW B l ad cls a0 L h'->s.heap.UpToSlots h'->E (.ref ad) {s with heap:=h'}):wpAny M A (PySem.passOn Oz (.ref ad) ce:Sem Value) Q E s:=by
 obtain⟨st,na,ff,oe,vs,T,oT,ts,g1,g2,g3,g4,g5,g6,g7,g8,g9⟩:=id hh
 have sz:3<ts.size:=(Array.getElem?_eq_some_iff.mp g9).1
 unfold PySem.passOn
 refine wpAny_bind (wpAny_field g1 g3 g4 ?_)
 have nz:¬(Value.ref T==Value.none)=true:=by simp
 rw[if_neg nz,hf]
 have ot:∀{f:Obj->Obj} b,b≠T->(s.heap.update T f).get? b=s.heap.get? b:=λb hb=>Heap.get?_update_other _ _ (Ne.symm hb)
 have nr:∀b o,s.heap.get? b=some o->(∀us,o.data≠.fields us)->b≠T:=λb o e nf z=>by
  rw[z,g7] at e
  cases e
  exact nf ts g8
 have fin:wpAny M A (setFlight (.ref ad) (some L)) (λ_ s1=>wpAny M A (throw (.ref ad):Sem Value) Q E s1) E s:=by
  unfold setFlight
  refine wpAny_bind (wpAny_field g1 g3 g4 ?_)
  have yz:(Value.ref T !=Value.none)=true:=by simp
  rw[if_pos yz]
  refine wpAny_setField g7 g8 sz (wpAny_throw (k _ ⟨λb o e=>?_,na,?_,?_⟩ λb o e nf=>?_))
  ·refine(ot b λz=>?_).trans (st b o e)
   rw[z,g5] at e
   cases e
  ·exact Heap.FunFrames.of_keeps (λb o e nf=>⟨o,(ot b (nr b o e nf)).trans e,rfl⟩) ff
  ·exact⟨oe,vs,T,_,_,(ot ad (Ne.symm g6)).trans g1,g2,g3,g4,g5,g6,Heap.get?_update_self _ g7 (Obj.isFreed_of_fields (Obj.data_mapFields g8 _)),Obj.data_mapFields g8 _,by simp [sz]⟩
  ·exact⟨o.slots,(ot b (nr b o e nf)).trans e⟩
 first
  | exact wpAny_bind (wpAny_pure (wpAny_bind fin))
  | exact wpAny_bind fin
theorem leave_held {en:Env} {r:List Env} {Q:Unit->Shared->Prop} (hf:en.frame=some L) (hh:Heap.HeldW B (en::r) ad cls a0 L s.heap)
  (k:∀h',Heap.FlyingW B r ad cls a0 h'->s.heap.UpToSlots h'->Q () {s with heap:=h'}):wpAny M A (leaving en (.ref ad)) Q E s:=by
 have lands:wpAny M A (setFlight (.ref ad) none) Q E s:=wpAny_landsW hh λh' fl up=>by
  obtain⟨p1,p2,p3,p4⟩:=fl
  exact k h' ⟨p1,p2,p3.2.2,p4⟩ up
 unfold leaving
 exact wpAny_bind (wpAny_noteFrame_againW hf hh.2.2.2 lands)
end
section
variable {P : Program} {w : World} {K : PySem.W.Frag} {mg : Str -> Option Value} {base : Heap} {N : List Str} {qual : Str} {scope : Scope} {f : Addr} {bZ : Value} {A : Around} {outer : List Env} {s0 : Shared} {H0 : Hp} {E : XK}
theorem CB {N':List Str} {wz:Scope} {cl:List (Str×Addr)} {C:Addr} {fp:List Addr} {GB GC:List (Addr×Obj)} {σD σ4:St} {H2 H4 H':Hp} {s2 s4 s':Shared} {ad:Addr} {cls:Value} {QE:Value->Shared->Prop} {ce:Env}
  (I2:Inv (dN (bG P w) P w K mg base N qual scope f bZ A outer s0 H0 E) GB σD H2 s2) (hC:s2.heap.objs.size<C) (f2:∀b∈fp,jU (dN (bG P w) P w K mg base N qual scope f bZ A outer s0 H0 E) GB H2 b)
  (I4:Inv (jP (dN (bG P w) P w K mg base N qual scope f bZ A outer s0 H0 E) N' wz cl C s2 H2 fp) GC σ4 H4 s4) (F:ES P w (envOfC qual scope s0.heap.objs.size f bZ::outer) H4 s4 H' ad cls s') (he:E cls none H')
  (X9:ce.frame=some s0.heap.objs.size):
  wpAny (model P w) (A.deeper (envOfC qual scope s0.heap.objs.size f bZ)) (noteFrame (.ref ad) (compEnvC wz cl C (envOfC qual scope s0.heap.objs.size f bZ)))
   (λ_ s5=>∃m,s5.heap.Ns C m/\∀h',Heap.SameBut C s5.heap h'->wpAny (model P w) (A.deeper (envOfC qual scope s0.heap.objs.size f bZ)) (PySem.passOn "comprehension.variables-let-go" (.ref ad) ce:Sem Value) (λ_ _=>False)
    (dN (bG P w) P w K mg base N qual scope f bZ A outer s0 H0 E).xe {s5 with heap:=h'}) QE s':=by
 generalize Jz:envOfC qual scope s0.heap.objs.size f bZ=en at *
 have OA:en.frame=some s0.heap.objs.size:=by rw[<-Jz];rfl
 have EW:dY (en::outer)=s0.heap.objs.size::dY outer:=by unfold dY;rw[aaX,OA]
 have D0:Un (dY outer) [] H0 H2 s0.heap s2.heap:=I2.base
 have D2:Un (dY (en::outer)) fp H2 H4 s2.heap s4.heap:=by rw[<-Jz];exact I4.base
 have D4:Un (dY (en::outer)) [] H4 H' s4.heap s'.heap:=F.un
 have ST:s2.heap.FunFrames base (en::outer):=by rw[<-Jz];exact I2.stack
 have yd:∀b o,s0.heap.get? b=some o->b∉dY outer->b∉dY (en::outer):=λb o q hb z=>by
  rw[EW] at z
  rcases List.mem_cons.mp z with z | z
  ·rw[z] at q
   exact absurd (Heap.lt_size q) (aaA _)
  ·exact hb z
 have KC:∀b o,s0.heap.get? b=some o->b∉fp:=λb o q z=>by
  rcases(f2 b z).2.2.2.1 with m | m
  ·exact absurd (show b∈([]:List Addr) from m) (by simp)
  ·exact absurd (Heap.lt_size q) (Nat.not_lt.mpr m)
 have VI:∀b∈dY (en::outer),b∉fp:=λb hb z=>by
  have q:=(f2 b z)
  rw[EW] at hb
  rcases List.mem_cons.mp hb with e | e
  ·exact q.2.1 (by rw[e];rfl)
  ·exact q.2.2.1 e
 have VJ:∀b∈dY (en::outer),∃o,s2.heap.get? b=some o/\(∀us,o.data≠.fields us):=λb hb=>by
  obtain⟨_,o,q,nf⟩:=ST.mem hb
  exact⟨o,q,nf⟩
 have OB:C∉dY (en::outer):=λz=>by
  obtain⟨o,q,_⟩:=VJ C z
  exact absurd (aaN (Heap.lt_size q) hC) (aaA _)
 have Ku:∀b∈dY (en::outer),H2 b=none:=λb hb=>I2.pY b (by show b∈dY (envOfC qual scope s0.heap.objs.size f bZ::outer);rw[Jz];exact hb)
 obtain⟨B,a0,fl,c0,c2,c1⟩:=F.fl
 obtain⟨m4,Yb,_⟩:=I4.loc
 obtain⟨oC,es,ep,Np,dC,rC⟩:=Yb
 have Np:s4.heap.get? C=some oC:=Np
 have Nk:H4 C=none:=I4.free
 have Yc:s'.heap.get? C=some oC:=D4.keep C oC Np Nk OB (by simp)
 have Yd:H' C=none:=D4.free C oC Np Nk (by simp)
 have HP:∀b o,(hideAll B [C]).get? b=some o->B.get? b=some o/\b≠C:=λb o q=>⟨of_hideAll _ q,λz=>by
  rw[z,hideAll_none [C] aao] at q
  cases q⟩
 have OC:∀b o,B.get? b=some o->b≠C->(hideAll B [C]).get? b=some o:=λb o q n=>hideAll_get _ q (by simpa using n)
 have fl:Heap.FlyingW (hideAll B [C]) (en::outer) ad cls a0 s'.heap:=flyingW_base (λb o q=>(HP b o q).1) fl
 rw[A6 (e2:=en) (show(compEnvC wz cl C en).frame=en.frame from rfl)]
 refine wpAny_looks_onW (L:=s0.heap.objs.size) (by rw[<-Jz];exact I2.ok.frames) OA fl λh5 KD Nq=>?_
 have VL:h5.Ns C m4:=Nq.ns ⟨oC,es,ep,Yc,dC,rC⟩
 refine⟨m4,VL,λh6 KE=>?_⟩
 have KG:Heap.HeldW (hideAll B [C]) (en::outer) ad cls a0 s0.heap.objs.size h6:=by
  obtain⟨q1,q2,q3,oe,vs,T,oT,ts,g1,g2,g3,g4,g5,g6,g7,g8,g9⟩:=KD
  obtain⟨o5,es5,ep5,e5,d5,_⟩:=VL
  have KH:ad≠C:=λz=>by
   rw[z,e5] at g1
   cases g1
   rw[d5] at g3
   cases g3
  have nT:T≠C:=λz=>by
   rw[z,e5] at g7
   cases g7
   rw[d5] at g8
   cases g8
  exact⟨λb o q=>(KE.2 b (HP b o q).2).trans (q1 b o q),q2,qI KE q3 OB,oe,vs,T,oT,ts,(KE.2 ad KH).trans g1,g2,g3,g4,g5,g6,(KE.2 T nT).trans g7,g8,g9⟩
 refine A7 KG X9 λh7 KI Ye=>?_
 show wpAny (model P w) (A.deeper (envOfC qual scope s0.heap.objs.size f bZ)) (leaving (envOfC qual scope s0.heap.objs.size f bZ) (.ref ad)) (λ_ sy=>bG P w outer H0 s0 E (.ref ad) sy) (λe' sy=>bG P w outer H0 s0 E e' sy) _
 rw[Jz]
 refine leave_held OA KI λh8 KJ Yg=>?_
 have Yh:∀b∈dY (en::outer),∀o,s'.heap.get? b=some o->(∀us,o.data≠.fields us)->∃sl,h8.get? b=some {o with slots:=sl}:=λb hb o q nf=>by
  have nb:b≠C:=λz=>OB (by rw[<-z];exact hb)
  obtain⟨x1,q1⟩:=Nq b o q nf
  have q2:=(KE.2 b nb).trans q1
  obtain⟨x3,q3⟩:=Ye b _ q2 nf
  obtain⟨x4,q4⟩:=Yg b _ q3 nf
  exact⟨x4,q4⟩
 have slot:∀b o,s2.heap.get? b=some o->b∈dY (en::outer)->∃sl,h8.get? b=some {o with slots:=sl}:=λb o q hb=>by
  obtain⟨o',q',nf⟩:=VJ b hb
  rw[q] at q'
  cases q'
  obtain⟨x1,q1⟩:=D2.slot b o q (Ku b hb) hb (VI b hb)
  obtain⟨x2,q2⟩:=D4.slot b _ q1 (D2.free b o q (Ku b hb) (VI b hb)) hb (by simp)
  obtain⟨x3,q3⟩:=Yh b hb _ q2 nf
  exact⟨x3,q3⟩
 have low:∀b o,s2.heap.get? b=some o->b≠C:=λb o q=>aam (aaN (Heap.lt_size q) hC)
 have GD:∀b o,s0.heap.get? b=some o->H0 b=none->b∉dY outer->(hideAll B [C]).get? b=some o:=λb o q n hb=>by
  have q1:=D0.keep b o q n hb (by simp)
  have n1:=D0.free b o q n (by simp)
  have q2:=D2.keep b o q1 n1 (yd b o q hb) (KC b o q)
  exact OC b o (c0 b o q2 (D2.free b o q1 n1 (KC b o q)) (yd b o q hb)) (low b o q1)
 have CC:∀b o,s0.heap.get? b=some o->b∉dY outer->∃o',(hideAll B [C]).get? b=some o':=λb o q hb=>by
  obtain⟨o1,q1⟩:=D0.there b o q (by simp)
  obtain⟨o2,q2⟩:=D2.there b o1 q1 (KC b o q)
  obtain⟨o3,q3⟩:=c2 b o2 q2 (yd b o q hb)
  exact⟨o3,OC b o3 q3 (low b o1 q1)⟩
 have VM:∀b u o,H' b=some u->s'.heap.get? b=some o->(hideAll B [C]).get? b=some o:=λb u o e q=>OC b o (c1 b u o e q) λz=>by
  rw[z,Yd] at e
  cases e
 refine⟨ad,cls,H',rfl,⟨(F.os.trans I4.os).trans I2.os,F.bare,⟨λb o q n hb hx=>KJ.1 b o (GD b o q n hb),λb o q n hb hx=>?_,λb o q n hx=>?_,λb o q hx=>?_,λb xs q=>D4.iF b xs (D2.iF b xs (D0.iF b xs q)),λb o u q=>D4.hU b o u (D2.hU b o u (D0.hU b o u q)),λb ps q=>?_⟩,F.bN.HP VM KJ.1,
  ⟨hideAll B [C],a0,KJ,GD,CC,λb u o e q=>?_⟩⟩,he⟩
 ·obtain⟨x1,q1⟩:=D0.slot b o q n hb hx
  obtain⟨x2,q2⟩:=slot b _ q1 (by rw[EW];exact aal _ hb)
  exact⟨x2,q2⟩
 ·have q1:=(D0.there b o q hx).choose_spec
  have n1:=D0.free b o q n hx
  obtain⟨o2,q2⟩:=D2.there b _ q1 (KC b o q)
  exact D4.free b o2 q2 (D2.free b _ q1 n1 (KC b o q)) hx
 ·by_cases hb:b∈dY outer
  ·obtain⟨o1,q1⟩:=D0.there b o q hx
   obtain⟨x2,q2⟩:=slot b o1 q1 (by rw[EW];exact aal _ hb)
   exact⟨_,q2⟩
  ·obtain⟨o1,q1⟩:=CC b o q hb
   exact⟨o1,KJ.1 b o1 q1⟩
 ·obtain⟨m1,e1⟩:=D0.iZ b ps q
  obtain⟨m2,e2⟩:=D2.iZ b _ e1
  obtain⟨m3,e3⟩:=D4.iZ b _ e2
  exact⟨m1++m2++m3,by rw[e3,Array.append_assoc,Array.append_assoc,Array.append_assoc]⟩
 ·obtain⟨o1,q1⟩:=(F.bN b u e).get
  have q2:=VM b u o1 e q1
  have q3:=KJ.1 b o1 q2
  rw[q] at q3
  cases q3
  exact q2
noncomputable def OD (X:Cx) (N':List Str) (wz:Scope) (E:XK):List (Str×Addr)->Addr->Shared->Hp->List Addr->Value->Shared->Prop:=λcl C s H ex e s'=>
 ∃pins σ H4 s4,Inv (jP X N' wz cl C s H ex) pins σ H4 s4/\bG X.prog X.w X.stack H4 s4 E e s'
theorem CD {N':List Str} {wz:Scope} {cl:List (Str×Addr)} {C:Addr} {s:Shared} {H:Hp} {ex:List Addr}:
  eL (bG P w) ((jP (dN (bG P w) P w K mg base N qual scope f bZ A outer s0 H0 E) N' wz cl C s H ex).jT (OD (dN (bG P w) P w K mg base N qual scope f bZ A outer s0 H0 E) N' wz E cl C s H ex)) E:=
 λpins σ H4 s4 _ _ I c=>⟨pins,σ,H4,s4,I.fI,c⟩
theorem CF {elt target iter:Expr} {ifs:List Expr} {wz so:Scope} {pos:Pos} {wi:TI} {g:TG} {tc:TT} {te:TE} {k:Nat} {fr:List Nat} {N1 N':List Str} (hc:(dN (bG P w) P w K mg base N qual scope f bZ A outer s0 H0 E).calm=true) (hN:N=N1)
  (HU:(dN (bG P w) P w K mg base N qual scope f bZ A outer s0 H0 E).env.scope=so) (S:dh N1 so N' wz k fr) (hi:PI (dN (bG P w) P w K mg base N qual scope f bZ A outer s0 H0 E) target iter wi)
  (hg:∀cl C s H ex,PG (jP (dN (bG P w) P w K mg base N qual scope f bZ A outer s0 H0 E) N' wz cl C s H ex) target g) (ht:∀cl C s H ex,EY (jP (dN (bG P w) P w K mg base N qual scope f bZ A outer s0 H0 E) N' wz cl C s H ex) ifs tc)
  (he:∀cl C s H ex,PE ((jP (dN (bG P w) P w K mg base N qual scope f bZ A outer s0 H0 E) N' wz cl C s H ex).jT (OD (dN (bG P w) P w K mg base N qual scope f bZ A outer s0 H0 E) N' wz E cl C s H ex)) elt te)
  (hs:∀x,foldedSetIterable iter (dN (bG P w) P w K mg base N qual scope f bZ A outer s0 H0 E).env x=pure x:=by intro _;rfl):
  PE (dN (bG P w) P w K mg base N qual scope f bZ A outer s0 H0 E) (.ListComp elt [⟨target,iter,ifs,0⟩] wz pos) (tComp wi g tc te k fr):=by
 subst hN HU
 intro pins s σ H Q I h
 rw[eval_ListComp]
 obtain⟨cl,jg,c1,c2,c3⟩:=gU (env:=(dN (bG P w) P w K mg base N qual scope f bZ A outer s0 H0 E).env) (scope:=wz) λn hn=>I.ok.has n (S.outer _ hn rfl)
 refine A5 (cl:=cl) rfl hs jg S.kind S.locs ?_
 refine cL (hi pins s σ H _ I h) λv s1 h1=>cL h1 λEu s2 h2=>?_
 obtain⟨it,fp,tn,J,H2,rfl,I2,T,xR,f2,hb⟩:=h2
 refine wpAny_newObj_type (gK ?_)
 refine wg (XE:=OD (dN (bG P w) P w K mg base N qual scope f bZ A outer s0 H0 E) N' wz E) hc S c1 c2 (λx c m=>⟨x,(c3 x c m).1⟩) (λx hx c m=>(S.Cp _ hx rfl).2 (c3 x c m).2) hg ht he I2 T xR f2 hb ?_ ?_
 ·intro C e s' m ys bA n H' hC hn vl sz hD nD nC fin os bare un bN
  subst e
  exact⟨m,hn,λh' E2=>⟨.ref _,_,comp_back I2 f2 hC vl sz hD nD nC os bare un bN E2,rfl,fin _ (I2.bN.fresh (aaf _)) nD⟩⟩
 ·rintro cl' C x s' e hC ⟨GC,σ4,H4,s4,I4,ad,cls,H',rfl,F,Yi⟩
  subst e
  exact CB I2 hC f2 I4 F Yi rfl
end
end L2
namespace L2
open PySem PySem.Spec PyProof.Rows PySem.W
section
variable {X : Cx}
end
end L2
namespace L2
open PySem PySem.Spec PyProof.Rows PySem.W
abbrev VN (h:Heap) (T:Addr) (a b c:Value):Prop:=h.get? T=some {cls:=.type "tuple",data:=.seq #[a,b,c]}
structure Ap3 (z TI TO i1 i2 i3 a b c:Addr):Prop where
 TIz:TI≠z
 TOz:TO≠z
 i1z:i1≠z
 i2z:i2≠z
 i3z:i3≠z
 TITO:TI≠TO
 TI1:TI≠i1
 TI2:TI≠i2
 TI3:TI≠i3
 TO1:TO≠i1
 TO2:TO≠i2
 TO3:TO≠i3
 i12:i1≠i2
 i13:i1≠i3
 i23:i2≠i3
 az:a≠z
 bz:b≠z
 cz:c≠z
 bTO:b≠TO
 cTO:c≠TO
 b1:b≠i1
 c1:c≠i1
 c2:c≠i2
section
variable {prog : Program} {w : World} {A : Around} {E : Value -> Shared -> Prop} {s : Shared}
end
abbrev VO (h:Heap) (la:Addr):Heap:=h.push {cls:=.type "list_iterator",data:=.fields #[.ref la,.int 0 0]}
abbrev VP (h:Heap) (la lb:Addr):Heap:=(VO h la).push {cls:=.type "list_iterator",data:=.fields #[.ref lb,.int 0 0]}
abbrev VQ (h:Heap) (la lb lc:Addr):Heap:=(VP h la lb).push {cls:=.type "list_iterator",data:=.fields #[.ref lc,.int 0 0]}
abbrev VR (h:Heap) (la lb lc:Addr):Heap:=(VQ h la lb lc).push {cls:=.type "tuple",data:=.seq #[.ref h.objs.size,.ref (VO h la).objs.size,.ref (VP h la lb).objs.size]}
abbrev Yj (h:Heap) (la lb lc:Addr):Heap:=(VR h la lb lc).push {cls:=.type "tuple",data:=.seq #[.none,.none,.none]}
abbrev z3f (h:Heap) (la lb lc:Addr):Heap:=(Yj h la lb lc).push {cls:=.type "zip",data:=.fields #[.none,.bool false,.bool false,.ref (VQ h la lb lc).objs.size,.ref (VR h la lb lc).objs.size]}
section
variable {prog : Program} {w : World} {A : Around} {E : Value -> Shared -> Prop} {s : Shared}
end
section
variable {X : Cx} {elts : List Expr} {kk : Nat} {sx : Pos} {K : PySem.W.Frag}
end
end L2
namespace L2
open PySem PySem.Spec PyProof.Rows PySem.W
section
variable {X : Cx} {K : PySem.W.Frag}
noncomputable def tSortR (K:PySem.W.Frag) (te:TE):TE:=λσ H Q=>te σ H λv H1=>∃p ns,v=.ref p/\bD K H1 p (List.map V.int ns)/\ns.length<64/\∀l,H1 l=none->Q (.ref l) (upd H1 l (.lst (List.map V.int (Nm.sH ns).reverse)))
theorem CG {e d:Expr} {te:TE} {p1 pos kp:Pos} (hg:Gl X "sorted") (hm:X.mg "sorted"=none) (he:PE X e te) (hd:PE X d (tC (.bl true))) (n1:noStar e=true:=by rfl):
  PE X (.Call (.Name "sorted" p1) [e] [⟨some "reverse",d,kp⟩] pos) (tSortR X.K te):=by
 intro pins s σ H Q I h
 refine wpAny_Call_Name_kw (gS I hg hm (u:=.builtin "sorted") rfl ?_ (by decide) (by decide))
 refine PyProof.Rows.callWith_kw (e:=e) (rest:=[]) ?_ (by rw[se n1];rfl) (by rw[se n1];rfl) rfl rfl
 rw[se n1]
 show wpAny _ _ (spliced [(false,eval e X.env)]) _ _ s
 refine Calls.spliced_cons (cL (he pins s σ H _ I h) λu s1 ⟨x,H1,I1,r1,q1⟩=>Calls.spliced_nil ?_)
 refine PyProof.Rows.kws_cons (cL (hd pins s1 σ H1 (λv H2=>v=.bl true/\H2=H1) I1 ⟨rfl,rfl⟩) λdv s2 ⟨y,H2,I2,r2,ey,eh⟩=>PyProof.Rows.kws_nil ?_)
 subst ey
 subst eh
 have r2:dv=.bool true:=r2
 subst r2
 obtain⟨p,ns,rfl,hq,hn,q⟩:=q1
 cases r1
 obtain⟨bA,rv,pl,hz⟩:=I2.list hq
 have hl:=rv.length
 rw[aad] at hl
 show wpAny _ _ (call (.builtin "sorted") [.ref p] [(Str.ofString "reverse",.bool true)]) _ _ _
 refine sorted_ints_rev pl.isList (intsAre_of rv) (by omega) λout Kz a1 a2 a3=>?_
 have a3:Kz.Pairwise (·≥·):=a3
 have e3:Kz=(Nm.sH ns).reverse:=by
  have:=Nm.uK ((List.reverse_perm Kz).trans a2) (List.pairwise_reverse.mpr a3)
  rw[<-this,List.reverse_reverse]
 subst e3
 obtain⟨e,he⟩:=sortedAll_at s2.heap bA out
 have fr:=I2.bN.fresh (a:=s2.heap.objs.size+1) (Nat.le_succ _)
 refine⟨.ref (s2.heap.objs.size+1),_,I2.laid (t':=s2.toks) (λ_ _=>sortedAll_old) (Nat.le_succ _) (o:=.lst (List.map V.int (Nm.sH ns).reverse)) ⟨?_,out.toList,e,iM a1,?_⟩,rfl,q _ fr⟩
 ·rw[aad,aaJ,Nm.iL,sizeLine_eq];omega
 ·exact he
theorem A8 {e d:Expr} {te:TE} {p1 pos kp:Pos} (hg:Gl X "sorted") (hm:X.mg "sorted"=none) (he:PE X e te) (hd:PE X d (tC (.bl true))) (n1:noStar e=true:=by rfl) (hK:X.K=K:=by rfl):
  PE X (.Call (.Name "sorted" p1) [e] [⟨some "reverse",d,kp⟩] pos) (tSortR K te):=by subst hK;exact CG hg hm he hd n1
end
end L2
namespace PySem.SeqAt
open AutoSeq1 (wpAny_loadPart')
open MeetsSeq MeetsSeq2 MeetsSeq3
end PySem.SeqAt
namespace L2
open PySem PySem.Spec PyProof.Rows PySem.W
noncomputable def GF:List Int->List Int->Bool
 | [],[]=>true
 | [],_::_=>false
 | _::_,[]=>true
 | a::r,b::q=>if a=b then GF r q else decide (b<=a)
section
variable {X : Cx} {K : PySem.W.Frag}
end
end L2
namespace PySem.UL
section
variable {prog : Program} {w : World} {A : Around} {E : Value -> Shared -> Prop} {s : Shared}
end
theorem t6 {α:Type}:∀l:List α,(List.range l.length).filterMap (λk=>l[k]?)=l
 | []=>rfl
 | a::r=>by
  rw[aap,List.range_succ_eq_map,aaX]
  simp only[List.getElem?_cons_zero]
  rw[List.filterMap_map]
  have:=t6 r
  simpa [Function.comp_def] using this
open Builtin in
theorem pick_rev (items:List Value):slicePick items.toArray none none (some (-1))=items.reverse.toArray:=by
 unfold slicePick
 have e:sliceRange (sliceBounds none none (some (-1)) items.toArray.size).1 (sliceBounds none none (some (-1)) items.toArray.size).2.1 (sliceBounds none none (some (-1)) items.toArray.size).2.2=Builtin.Str.strSliceIndices none none (-1) items.length:=by
  rw[aaq]
  rfl
 rw[e,PyProof.Rows.picked_rev]
 congr 1
 rw[List.filterMap_map]
 have h:∀l:List Nat,(∀k∈l,k<items.length)->l.filterMap ((λk=>items.toArray[k]?) ∘λk=>items.length - 1 - k)=l.filterMap λk=>items.reverse[k]?:=by
  intro l
  induction l with
  | nil=>intro _;rfl
  | cons k r ih=>
   intro hk
   have e:((λk=>items.toArray[k]?) ∘λk=>items.length - 1 - k) k=items.reverse[k]?:=by
    rw[abc (hk k (by simp))]
    simp
   rw[aaX,aaX,e,ih λx hx=>hk x (aal _ hx)]
 rw[h _ λk hk=>List.mem_range.mp hk]
 have:=t6 items.reverse
 rwa [aaJ] at this
end PySem.UL
namespace L2
open PySem PySem.Spec PyProof.Rows PySem.W
section
variable {X : Cx} {K : PySem.W.Frag}
noncomputable def Fg (K:PySem.W.Frag) (te ts:TE):TE:=λσ H Q=>te σ H λx H1=>ts σ H1 λy H2=>∃a xs,x=.ref a/\y=.int (-1)/\bD K H2 a xs/\∀p,H2 p=none->Q (.ref p) (upd H2 p (.lst xs.reverse))
theorem CH {e st:Expr} {te ts:TE} {p2 pos:Pos} (he:PE X e te) (hs:PE X st ts):PE X (.Subscript e (.Slice none none (some st) p2) pos) (Fg X.K te ts):=by
 intro pins s σ H Q I h
 refine Subscript_ (cL (he pins s σ H _ I h) λv s1 dH=>?_)
 obtain⟨x,H1,I1,r1,q1⟩:=dH
 refine wpAny_Slice ?_
 rw[evalPart_none]
 refine wpAny_pure ?_
 refine wpAny_pure ?_
 rw[evalPart_some]
 refine cL (hs pins s1 σ H1 _ I1 q1) λvs s2 dH=>?_
 obtain⟨y,H2,I2,r2,q2⟩:=dH
 obtain⟨a,xs,rfl,rfl,hx,q⟩:=q2
 obtain⟨t,rfl⟩:=r2
 cases r1
 have I4:Inv X pins σ H2 {s2 with heap:=s2.heap.push {cls:=.type "slice",data:=.fields #[.none,.none,.int (-1) t]}}:=I2.kept (t':=s2.toks) λb ob q=>Heap.get?_push_of_some _ q
 obtain⟨bA,r,ht,hz⟩:=I4.list hx
 have hlen:=r.length
 show wpAny (model X.prog X.w) X.A (subscriptTail e (.Slice none none (some st) p2) (.ref a) (.ref s2.heap.objs.size)) (EP X pins σ Q) X.xe {s2 with heap:=s2.heap.push {cls:=.type "slice",data:=.fields #[.none,.none,.int (-1) t]}}
 refine tail_any (ops:=[.ref a,.ref s2.heap.objs.size]) ht.isList.typeIs slot_list_getitem.lookup ?_ (by with_unfolding_all rfl)
 refine wpAny_getItem_list_slice ht.isList (Heap.IsSliceOf.new ..) .none .none (.int (-1) t) (by simp) ?_ (by rw[aaq] <;>omega)
 rw[PySem.UL.pick_rev]
 refine⟨.ref _,_,I4.laid (t':=s2.toks) (o:=.lst xs.reverse) (λb ob q=>Heap.get?_push_of_some _ q) (aaf _) ?_,rfl,q _ (I4.bN.fresh (aaf _))⟩
 exact⟨by rw[aaJ];exact hz,_,0,r.reverse,Heap.get?_push_size _ rfl⟩
theorem t7 {e st:Expr} {te ts:TE} {p2 pos:Pos} (he:PE X e te) (hs:PE X st ts) (hK:X.K=K:=by rfl):PE X (.Subscript e (.Slice none none (some st) p2) pos) (Fg K te ts):=by subst hK;exact CH he hs
end
end L2
namespace L2
open PySem PySem.Spec PyProof.Rows
structure qJ (P:Program) (w:World) (K:PySem.W.Frag) (mg:Str->Option Value) (base:Heap) (CX:pd) (k:Nat) (x:Str) (C:Addr) (ps:List Str) (sp:Sp):Prop where
 ex:∃f fd,Mk K C f/\fX P w K mg base CX k f fd ps sp/\mg x=some (.ref C)/\Binds K fd ps []
section
variable {X : Cx}
theorem KL {CX:pd} {k:Nat} {x:Str} {C:Addr} {ps:List Str} {sp:Sp} {E:XK} {e:Expr} {es:List Expr} {t:TA} {p pos:Pos} (M:qJ X.prog X.w X.K X.mg X.base CX k x C ps sp) (hr:dM (k+1) X.A) (hg:Gl X x) (hx:eL CX X E) (ha:PA X (e::es) t)
  (qr:(x==("__debug__":Str))=false:=by decide) (he:starEach (e::es) X.env=(false,eval e X.env)::starEach es X.env:=by rfl) (hpl:(backTo pos (starEach es X.env)).any (·.1)=false:=by rfl):
  PE X (.Call (.Name x p) (e::es) [] pos) (tK C sp [] E t):=by
 obtain⟨f,fd,m,F,hm,hb⟩:=M.ex
 exact EE m F hr hg hm hb .nil hx ha qr he hpl
end
structure Nr (K:PySem.W.Frag) (mg:Str->Option Value) (x qual:Str) (st:Stmt) (C:Addr):Prop where
 ex:∃f fd,zB K "__init__" qual st f fd/\Mk K C f/\mg x=some (.ref C)
theorem Nr.fC {P:Program} {w:World} {K:PySem.W.Frag} {mg:Str->Option Value} {base:Heap} {CX:pd} {x qual:Str} {st:Stmt} {C:Addr} {ps:List Str} {k:Nat} {sp:Sp} (D:Nr K mg x qual st C)
  (hb:∀(kV doc pm:Value) (an:Option Addr) (bZ ct:Value) (us:List Value),us.length=ps.length->bindArgs (PySem.W.fnOf "__init__" qual (aW st) (aV st) (aq st) .none kV doc pm an bZ ct) ⟨us,[]⟩=pure (ps.zip us))
  (h:∀f fd,zB K "__init__" qual st f fd->fX P w K mg base CX k f fd ps sp):qJ P w K mg base CX k x C ps sp:=by
 obtain⟨f,fd,F,m,hm⟩:=D.ex
 exact⟨f,fd,m,h f fd F,hm,F.binds hb⟩
end L2
namespace L2
open PySem PySem.Spec PyProof.Rows
noncomputable instance JA:DecidableEq PyData:=λ_ _=>Classical.propDecidable _
mutual
noncomputable def dO:PyData->Bool
 | .int _=>true
 | .str x=>PyData.canLay0 (.str x)
 | .tuple xs=>jj xs
 | _=>false
noncomputable def jj:List PyData->Bool
 | []=>true
 | x::xs=>dO x && jj xs
end
mutual
theorem qd:∀(d:PyData),dO d=true->d.canLay0=true
 | .none,h=>by simp [dO] at h
 | .bool _,h=>by simp [dO] at h
 | .int _,_=>by simp [PyData.canLay0]
 | .str x,h=>by rw[dO] at h;exact h
 | .list _,h=>by simp [dO] at h
 | .tuple xs,h=>by rw[dO] at h;rw[PyData.canLay0];exact wC xs h
 | .dict _,h=>by simp [dO] at h
theorem wC:∀(xs:List PyData),jj xs=true->PyData.canLayAll0 xs=true
 | [],_=>by simp [PyData.canLayAll0]
 | x::xs,h=>by
  rw[jj,aaI] at h
  rw[PyData.canLayAll0,aaI]
  exact⟨qd x h.1,wC xs h.2⟩
end
mutual
theorem CI:∀(x y:PyData),dO x=true->dO y=true->PyData.eqv x y=decide (x=y)
 | .int i,y,_,hy=>by
  cases y with
  | int j=>
   rw[PyData.eqv]
   by_cases c:i=j
   ·subst c;simp
   ·rw[decide_eq_false (λe=>c (by injection e))]
    simp [c]
  | str _=>simp [PyData.eqv]
  | tuple _=>simp [PyData.eqv]
  | _=>simp [dO] at hy
 | .str a,y,_,hy=>by
  cases y with
  | str b=>
   rw[PyData.eqv]
   by_cases c:a=b
   ·subst c;simp
   ·rw[decide_eq_false (λe=>c (by injection e))]
    simp [c]
  | int _=>simp [PyData.eqv]
  | tuple _=>simp [PyData.eqv]
  | _=>simp [dO] at hy
 | .tuple xs,y,hx,hy=>by
  cases y with
  | tuple ys=>
   rw[dO] at hx hy
   rw[PyData.eqv,zO xs ys hx hy]
   by_cases c:xs=ys
   ·subst c;simp
   ·rw[decide_eq_false c,decide_eq_false (λe=>c (by injection e))]
  | int _=>simp [PyData.eqv]
  | str _=>simp [PyData.eqv]
  | _=>simp [dO] at hy
 | .none,_,h,_=>by simp [dO] at h
 | .bool _,_,h,_=>by simp [dO] at h
 | .list _,_,h,_=>by simp [dO] at h
 | .dict _,_,h,_=>by simp [dO] at h
theorem zO:∀(xs ys:List PyData),jj xs=true->jj ys=true->PyData.eqvAll xs ys=decide (xs=ys)
 | [],[],_,_=>by simp [PyData.eqvAll]
 | [],_::_,_,_=>by simp [PyData.eqvAll]
 | _::_,[],_,_=>by simp [PyData.eqvAll]
 | x::xs,y::ys,hx,hy=>by
  rw[jj,aaI] at hx hy
  rw[PyData.eqvAll,CI x y hx.1 hy.1,zO xs ys hx.2 hy.2]
  by_cases c:x=y
  ·subst c
   by_cases d:xs=ys
   ·subst d;simp
   ·rw[decide_eq_false d,decide_eq_false (λe=>d (List.cons.inj e).2)];simp
  ·rw[decide_eq_false c,decide_eq_false (λe=>c (List.cons.inj e).1)];simp
end
mutual
theorem qK {h h':Heap} {d:Addr} {o:Obj} {es ep} (ho:h.get? d=some o) (hd:o.data=.dict es ep) (hs:Heap.SameBut d h h'):∀(x:PyData) (v:Value) (as:List Addr),dO x=true->Reads h v x as->Reads h' v x as
 | .int _,_,_,_,r=>by cases r;exact .int _ _
 | .str _,_,_,_,r=>by cases r;exact .str _ _
 | .tuple xs,_,_,hx,r=>by
  rw[dO] at hx
  cases r with
  | @tuple a o' vs n _ _ e c q t=>
   have ne:a≠d:=λz=>by
    subst z
    rw[ho] at e
    cases e
    rw[hd] at q
    cases q
   exact .tuple ((hs.2 a ne).trans e) c q (pA ho hd hs xs _ _ hx t)
 | .none,_,_,h,_=>by simp [dO] at h
 | .bool _,_,_,h,_=>by simp [dO] at h
 | .list _,_,_,h,_=>by simp [dO] at h
 | .dict _,_,_,h,_=>by simp [dO] at h
theorem pA {h h':Heap} {d:Addr} {o:Obj} {es ep} (ho:h.get? d=some o) (hd:o.data=.dict es ep) (hs:Heap.SameBut d h h'):∀(xs:List PyData) (vs:List Value) (as:List Addr),jj xs=true->ReadsAll h vs xs as->ReadsAll h' vs xs as
 | [],_,_,_,r=>by cases r;exact .nil
 | x::xs,_,_,hx,r=>by
  rw[jj,aaI] at hx
  cases r with
  | cons r1 r2=>exact .cons (qK ho hd hs x _ _ hx.1 r1) (pA ho hd hs xs _ _ hx.2 r2)
end
mutual
noncomputable def wD (w:World):PyData->Int
 | .int i=>G9 w (.inl i)
 | .str x=>G9 w (.inr x)
 | .tuple xs=>reduceHash (Builtin.Tuple.tupleHashOf (gL w xs))
 | _=>0
noncomputable def gL (w:World):List PyData->List Int
 | []=>[]
 | x::xs=>wD w x::gL w xs
end
mutual
noncomputable def KN:PyData->Nat
 | .tuple xs=>qL xs+1
 | _=>1
noncomputable def qL:List PyData->Nat
 | []=>0
 | x::xs=>KN x+qL xs
end
section
variable {prog : Program} {w : World}
noncomputable def PH (prog:Program) (w:World) (m:Nat) (h:Heap) (d:PyData) (v:Value):Prop:=∀(A:Around) (E:Value->Shared->Prop) (s:Shared) (Q:Int->Shared->Prop),s.heap=h->A.units+m<cLine->
 Q (wD w d) {s with toks:=s.toks+KN d}->wpAny (model prog w) A (pyHash v) Q E s
inductive GG (prog:Program) (w:World) (m:Nat) (h:Heap):List PyData->List Value->Prop
 | nil:GG prog w m h [] []
 | cons {d v ds vs}:PH prog w m h d v->GG prog w m h ds vs->GG prog w m h (d::ds) (v::vs)
theorem A9 (xs ys:List PyData):gL w (xs++ys)=gL w xs++gL w ys:=by
 induction xs with
 | nil=>simp [gL]
 | cons x xs ih=>simp [gL,ih]
theorem CJ (xs ys:List PyData):qL (xs++ys)=qL xs+qL ys:=by
 induction xs with
 | nil=>simp [qL]
 | cons x xs ih=>simp [qL,ih,Nat.add_assoc]
theorem CK {m:Nat} {h:Heap} {ds:List PyData} {a:Addr} {o:Obj} {items n} (ho:h.get? a=some o) (hc:o.cls=.type "tuple") (hd:o.data=.seq items n) (hi:GG prog w m h ds items.toList):PH prog w (m+1) h (.tuple ds) (.ref a):=by
 intro A E s Q hh hu hq
 subst hh
 have hT:s.TypeIs (.ref a) "tuple":=⟨o,ho,hc⟩
 have Yk:A.units<cLine:=by omega
 unfold pyHash
 first | unfold pyHashByItsType | skip
 first | refine wpAny_bind (wpAny_cRoomFor_or (.inr Yk) ?_) | skip
 refine wpAny_bind (wpAny_specialOf hT F.slot_tuple_hash.lookup ?_)
 show wpAny _ _ (if (some (Value.builtin "tuple.__hash__")==some Value.none)=true then _ else _) Q E s
 rw[if_neg (by rw[beq_builtin_none];exact aaw)]
 refine wpAny_bind (wpAny_specialOf hT F.slot_tuple_hash.lookup ?_)
 show wpAny _ _ (callSpecialIfBoundUnlessNone? (.ref a) "__hash__" _ >>=_) Q E s
 refine wpAny_bind (wpAny_callSpecialIfBoundUnlessNone?_slot hT F.slot_tuple_hash (wpAny_call_entry F.slot_tuple_hash hT F.entry_tuple_hash ?_ (F.args_tuple_hash_1 _)))
 show wpAny _ _ (Builtin.Tuple.tupleItemsOf (.ref a) >>=_) _ _ s
 refine wpAny_bind (wpAny_tupleItemsOf ho hd ?_)
 refine wpAny_bind ?_
 rw[<-Array.forIn_toList]
 refine wpAny_forIn_list _
  (λrest (b:Array Int) s'=>∃done left,ds=done++left/\GG prog w m s.heap left rest/\b.toList=gL w done/\s'={s with toks:=s.toks+qL done})
  _ ?_ ?_ _ _ ⟨[],ds,rfl,hi,rfl,rfl⟩
 ·rintro x rest b s' ⟨done,left,rfl,hl,hb,rfl⟩
  cases hl with
  | @cons k _ VS _ h1 GH=>
   refine wpAny_bind (h1 _ _ _ _ rfl (by show A.units+1+m<cLine;omega) ?_)
   have e1:(b.push (wD w k)).toList=gL w (done++ [k]):=by rw[A9];simp [hb,gL]
   have e2:s.toks+qL done+KN k=s.toks+qL (done++ [k]):=by rw[CJ];simp [qL,Nat.add_assoc]
   first
    | exact wpAny_pure ⟨done++ [k],VS,by simp,GH,e1,by rw[<-e2]⟩
    | exact wpAny_bind (wpAny_pure (wpAny_pure ⟨done++ [k],VS,by simp,GH,e1,by rw[<-e2]⟩))
 ·rintro b s' ⟨done,left,rfl,hl,hb,rfl⟩
  cases hl
  rw[aaT] at hq
  show wpAny _ _ (retInt (Builtin.Tuple.tupleHashOf b.toList)) _ _ _
  rw[hb]
  refine wpAny_ret_mkInt ?_
  show wpAny _ _ (if (decide (-(2:Int)^63<=Builtin.Tuple.tupleHashOf (gL w done)) && decide (Builtin.Tuple.tupleHashOf (gL w done)<2^63))=true then _ else _) Q E _
  rw[wD,KN] at hq
  unfold reduceHash at hq
  by_cases hr:(decide (-(2:Int)^63<=Builtin.Tuple.tupleHashOf (gL w done)) && decide (Builtin.Tuple.tupleHashOf (gL w done)<2^63))=true
  ·rw[if_pos hr]
   rw[if_pos hr] at hq
   exact wpAny_pure (by simpa [Nat.add_assoc] using hq)
  ·rw[if_neg hr]
   rw[if_neg hr] at hq
   exact wpAny_bind (wpAny_rule (wpAny_pure (by simpa [Nat.add_assoc] using hq)))
mutual
theorem CL {h:Heap}:∀(d:PyData) (v:Value) (as:List Addr),dO d=true->Reads h v d as->PH prog w d.depth h d v
 | .int i,_,_,_,r=>by
  cases r with
  | int _ t=>
   intro A E s Q _ _ hq
   exact(cC prog w).pyHash (k:=.inl i) (pj (k:=.inl i) ⟨t,rfl⟩) hq
 | .str x,_,_,_,r=>by
  cases r with
  | str _ t=>
   intro A E s Q _ _ hq
   exact(cC prog w).pyHash (k:=.inr x) (pj (k:=.inr x) ⟨t,rfl⟩) hq
 | .tuple xs,_,_,hx,r=>by
  rw[dO] at hx
  cases r with
  | tuple e c q t=>exact CK e c q (zP xs _ _ hx t)
 | .none,_,_,h,_=>by simp [dO] at h
 | .bool _,_,_,h,_=>by simp [dO] at h
 | .list _,_,_,h,_=>by simp [dO] at h
 | .dict _,_,_,h,_=>by simp [dO] at h
theorem zP {h:Heap}:∀(ds:List PyData) (vs:List Value) (as:List Addr),jj ds=true->ReadsAll h vs ds as->GG prog w (PyData.depthAll ds) h ds vs
 | [],_,_,_,r=>by cases r;exact .nil
 | x::xs,_,_,hx,r=>by
  rw[jj,aaI] at hx
  cases r with
  | cons r1 r2=>
   have p1:=CL x _ _ hx.1 r1
   have p2:=zP xs _ _ hx.2 r2
   have up:∀{m m':Nat} {ds:List PyData} {vs:List Value},m<=m'->GG prog w m h ds vs->GG prog w m' h ds vs:=λl q=>by
    induction q with
    | nil=>exact .nil
    | cons p _ ih=>exact .cons (λA E s Q e u=>p A E s Q e (by omega)) ih
   refine .cons (λA E s Q e u=>p1 A E s Q e ?_) (up ?_ p2)
   ·rw[PyData.depthAll] at u
    omega
   ·rw[PyData.depthAll]
    omega
end
theorem wF {h:Heap} {k:Nat} {a:Addr} {o:Obj} {items n} (ho:h.get? a=some o) (hc:o.cls=.type "tuple") (hd:o.data=.seq items n) (hi:∀v∈items.toList,∀(A:Around) (E:Value->Shared->Prop) (s:Shared) (Q:Bool->Shared->Prop),s.heap=h->Q true s->wpAny (model prog w) A (eqIsQuiet k v) Q E s)
  (A:Around) (E:Value->Shared->Prop) (s:Shared) (Q:Bool->Shared->Prop) (hh:s.heap=h) (hq:Q true s):wpAny (model prog w) A (eqIsQuiet (k+1) (.ref a)) Q E s:=by
 subst hh
 have hT:s.TypeIs (.ref a) "tuple":=⟨o,ho,hc⟩
 unfold eqIsQuiet
 refine wpAny_bind (wpAny_specialOf hT F.slot_tuple_eq.lookup ?_)
 show wpAny _ _ (isInstance (.ref a) (.type "tuple") >>=_) _ _ s
 refine wpAny_bind (wpAny_isInstance hT isSubtype_tuple_tuple ?_)
 simp only[Bool.not_true,abb,if_false]
 refine wpAny_bind (wpAny_seqItems ho hd ?_)
 refine wpAny_bind ?_
 show wpAny _ _ (forIn items _ _) _ _ s
 rw[<-Array.forIn_toList]
 refine wpAny_forIn_list _ (λrest r s'=>r.1=none/\s'=s/\∀v∈rest,v∈items.toList) _ ?_ ?_ _ _ ⟨rfl,rfl,λ_ h=>h⟩
 ·rintro v rest r s' ⟨hr,rfl,AW⟩
  refine wpAny_bind (hi v (AW v aao) _ _ _ _ rfl ?_)
  simp only[Bool.not_true,abb,if_false]
  exact wpAny_pure ⟨rfl,rfl,λu Yl=>AW u (aal _ Yl)⟩
 ·rintro⟨r1,r2⟩ s' ⟨hr,rfl,_⟩
  simp only at hr
  subst hr
  exact wpAny_pure hq
mutual
theorem t8 {h:Heap}:∀(d:PyData) (v:Value) (as:List Addr) (k:Nat),dO d=true->d.depth<=k->Reads h v d as->∀(A:Around) (E:Value->Shared->Prop) (s:Shared) (Q:Bool->Shared->Prop),s.heap=h->Q true s->wpAny (model prog w) A (eqIsQuiet k v) Q E s
 | .int _,_,_,_,_,_,r=>by
  cases r
  intro A E s Q _ hq
  rw[eqIsQuiet_byValue _ rfl]
  exact wpAny_pure hq
 | .str _,_,_,_,_,_,r=>by
  cases r
  intro A E s Q _ hq
  rw[eqIsQuiet_byValue _ rfl]
  exact wpAny_pure hq
 | .tuple xs,_,_,k,hx,hk,r=>by
  rw[dO] at hx
  rw[PyData.depth] at hk
  cases k with
  | zero=>omega
  | succ k=>
   cases r with
   | tuple e c q t=>exact wF e c q (qM xs _ _ k hx (by omega) t)
 | .none,_,_,_,h,_,_=>by simp [dO] at h
 | .bool _,_,_,_,h,_,_=>by simp [dO] at h
 | .list _,_,_,_,h,_,_=>by simp [dO] at h
 | .dict _,_,_,_,h,_,_=>by simp [dO] at h
theorem qM {h:Heap}:∀(ds:List PyData) (vs:List Value) (as:List Addr) (k:Nat),jj ds=true->PyData.depthAll ds<=k->ReadsAll h vs ds as->∀v∈vs,∀(A:Around) (E:Value->Shared->Prop) (s:Shared) (Q:Bool->Shared->Prop),s.heap=h->Q true s->wpAny (model prog w) A (eqIsQuiet k v) Q E s
 | [],_,_,_,_,_,r=>by
  cases r
  intro v hv
  simp at hv
 | x::xs,_,_,k,hx,hk,r=>by
  rw[jj,aaI] at hx
  rw[PyData.depthAll] at hk
  cases r with
  | cons r1 r2=>
   intro v hv
   rcases List.mem_cons.mp hv with rfl | hv
   ·exact t8 x _ _ k hx.1 (by omega) r1
   ·exact qM xs _ _ k hx.2 (by omega) r2 v hv
end
noncomputable def Ym (h:Heap) (k:PyData) (a:Addr):Prop:=dO k=true/\k.depth<=8/\∃as,Reads h (.ref a) k as
noncomputable def ig (prog:Program) (w:World):HeapKind prog w PyData where
 is:=Ym
 hash:=wD w
 draws:=KN
 room:=λA=>A.units+8<cLine
 inj:=fun⟨hx,_,_,rx⟩ ⟨_,_,_,ry⟩=>SeqAt.Reads.unique _ _ _ _ _ (qd _ hx) rx ry
 keeps:=fun⟨hx,hd,as,r⟩ ho Yn hs=>⟨hx,hd,as,qK ho Yn hs _ _ _ hx r⟩
 pyHash:=λhu ⟨hx,hd,_,r⟩ h=>CL _ _ _ hx r _ _ _ _ rfl (by omega) h
 eqBool:=λ{A E s x y a b Q} hu ⟨hx,dx,_,rx⟩ ⟨hy,dy,_,ry⟩ h=>SeqAt.eqBoolOverData _ _ _ _ _ _ _ _ _ _ _ _ rx ry (qd _ hx) (qd _ hy) (by omega) (by rw[CI _ _ hx hy];exact h)
 quiet:=fun⟨hx,hd,_,r⟩ h=>t8 _ _ _ 8 hx hd r _ _ _ _ rfl h
end
end L2
namespace L2
open PySem PySem.Spec PyProof.Rows
mutual
noncomputable def i7:Dat->PyData
 | .dG=>.none
 | .bl b=>.bool b
 | .int i=>.int i
 | .str x=>.str x
 | .tup l=>.tuple (mL l)
 | .lst l=>.list (mL l)
noncomputable def mL:List Dat->List PyData
 | []=>[]
 | d::ds=>i7 d::mL ds
end
section
variable {P : Program} {w : World} {H : Hp} {h : Heap}
mutual
theorem mM (ok:hJ P w H h):∀(d:Dat) (v:V) (u:Value),Rep H d v->RelV v u->∃as,Reads h u (i7 d) as
 | .dG,v,u,r,q=>by
  rw[Rep] at r
  subst r
  cases (show u=Value.none from q)
  exact⟨_,.none⟩
 | .bl b,v,u,r,q=>by
  rw[Rep] at r
  subst r
  cases (show u=Value.bool b from q)
  exact⟨_,.bool b⟩
 | .int i,v,u,r,q=>by
  rw[Rep] at r
  subst r
  obtain⟨t,rfl⟩:=(show ∃t,u=Value.int i t from q)
  exact⟨_,.int i t⟩
 | .str x,v,u,r,q=>by
  rw[Rep] at r
  subst r
  obtain⟨t,rfl⟩:=(show ∃t,u=Value.str x t from q)
  exact⟨_,.str x t⟩
 | .tup l,v,u,r,q=>by
  rw[Rep] at r
  obtain⟨p,vs,rfl,hp,rl⟩:=r
  cases (show u=Value.ref p from q)
  obtain⟨_,bA,rv,o,h1,h2,n,h3⟩:=(show cG P w H h p (.tup vs) from ok p _ hp)
  obtain⟨as,ra⟩:=n9 ok l vs bA rl rv
  exact⟨as,.tuple h1 h2 h3 (by simpa using ra)⟩
 | .lst l,v,u,r,q=>by
  rw[Rep] at r
  obtain⟨p,vs,rfl,hp,rl⟩:=r
  cases (show u=Value.ref p from q)
  obtain⟨_,bA,n,rv,h1⟩:=(show cG P w H h p (.lst vs) from ok p _ hp)
  obtain⟨as,ra⟩:=n9 ok l vs bA rl rv
  exact⟨p::as,.list h1 rfl rfl (by simpa using ra)⟩
theorem n9 (ok:hJ P w H h):∀(ds:List Dat) (vs:List V) (us:List Value),aZ H ds vs->bC vs us->∃as,ReadsAll h us (mL ds) as
 | [],vs,us,r,q=>by
  rw[aZ] at r
  subst r
  cases q
  exact⟨_,.nil⟩
 | d::ds,vs,us,r,q=>by
  rw[aZ] at r
  obtain⟨v,rest,rfl,r1,r2⟩:=r
  cases q with
  | cons q1 q2=>
   obtain⟨a1,h1⟩:=mM ok d v _ r1 q1
   obtain⟨a2,h2⟩:=n9 ok ds rest _ r2 q2
   exact⟨_,.cons h1 h2⟩
end
end
noncomputable def jX (H:Hp) (d:Dat) (b:Addr):Prop:=dO (i7 d)=true/\(i7 d).depth<=8/\Rep H d (.ref b)
theorem jX.mono {H H':Hp} {d:Dat} {b:Addr} (s:aA H H') (k:jX H d b):jX H' d b:=⟨k.1,k.2.1,k.2.2.mono s⟩
theorem jX.is {P:Program} {w:World} {H:Hp} {h:Heap} {d:Dat} {b:Addr} (ok:hJ P w H h) (k:jX H d b):(ig P w).is h (i7 d) b:=⟨k.1,k.2.1,mM ok d _ _ k.2.2 rfl⟩
abbrev Rows:=List (Dat×Addr×Int)
noncomputable def wG (H:Hp) (ks:Rows):Prop:=∀p∈ks,jX H p.1 p.2.1
theorem wG.mono {H H':Hp} {ks:Rows} (s:aA H H') (k:wG H ks):wG H' ks:=λp hp=>(k p hp).mono s
noncomputable def iS (ks:Rows) (k:PyData):Option Int:=(ks.find? λp=>decide (i7 p.1=k)).map (·.2.2)
abbrev JB:Rows->List (PyData×Addr×Value)->Prop:=Paired λp q=>i7 p.1=q.1/\p.2.1=q.2.1/\∃t,q.2.2=Value.int p.2.2 t
noncomputable def D5 (P:Program) (w:World) (a:Addr) (ks:Rows):HO:=.ext λh=>∃o es ep xs,h.get? a=some o/\o.ExactDict/\o.data=.dict es ep/\es.toList=xs.map (entryOfKey (ig P w))/\(xs.map (·.1)).Nodup/\JB ks xs/\ks.length<=sizeLine/\(a==sysModules)=false
section
variable {P : Program} {w : World} {H : Hp} {h : Heap} {a : Addr}
theorem CM {ks:Rows} {xs:List (PyData×Addr×Value)} {o es ep} (h1:h.get? a=some o) (h2:o.ExactDict) (h3:o.data=.dict es ep) (h4:es.toList=xs.map (entryOfKey (ig P w))) (h5:(xs.map (·.1)).Nodup) (h6:JB ks xs) (h7:ks.length<=sizeLine) (h8:(a==sysModules)=false):cG P w H h a (D5 P w a ks):=
 ⟨⟨o,es,ep,xs,h1,h2,h3,h4,h5,h6,h7,h8⟩,⟨o,h1⟩,λ_ _ ⟨o,es,ep,xs,g1,g⟩ k=>⟨o,es,ep,xs,k _ g1,g⟩⟩
theorem CN {ks:Rows} (ok:hJ P w H h) (e:H a=some (D5 P w a ks)) (al:wG H ks):ks.length<=sizeLine/\(a==sysModules)=false/\∃xs,JB ks xs/\h.DictOfH (ig P w) a xs:=by
 obtain⟨⟨o,es,ep,xs,g1,g2,g3,g4,g5,g6,g7,g8⟩,_⟩:=(show cG P w H h a (D5 P w a ks) from ok a _ e)
 refine⟨g7,g8,xs,g6,o,es,ep,g1,g2,g3,g4,λx hx=>?_,g5⟩
 have all:∀{l:Rows} {m:List (PyData×Addr×Value)},JB l m->wG H l->∀x∈m,(ig P w).is h x.1 x.2.1:=by
  intro l m q
  induction q with
  | nil=>intro _ x hx;exact nomatch hx
  | @cons p q ps qs hq t ih=>
   intro al x hx
   rcases List.mem_cons.mp hx with e | hx
   ·subst e
    rw[<-hq.1,<-hq.2.1]
    exact(al p aao).is ok
   ·exact ih (λp hp=>al p (aal _ hp)) x hx
 exact all g6 al x hx
theorem JB.val {ks:Rows} {xs:List (PyData×Addr×Value)} (r:JB ks xs) (k:PyData):(iS ks k=none/\atKey xs k=none)\/∃i t b,iS ks k=some i/\atKey xs k=some (b,Value.int i t):=by
 induction r with
 | nil=>exact .inl ⟨rfl,rfl⟩
 | @cons p q ps qs h t ih=>
  obtain⟨h1,h2,tk,h3⟩:=h
  by_cases e:i7 p.1=k
  ·have e':q.1=k:=h1.symm.trans e
   refine .inr ⟨p.2.2,tk,q.2.1,?_,?_⟩
   ·unfold iS
    rw[aaV,decide_eq_true e]
    rfl
   ·unfold atKey
    rw[aaV,decide_eq_true e',<-h3]
    rfl
  ·have e':¬q.1=k:=λz=>e (h1.trans z)
   have a1:iS (p::ps) k=iS ps k:=by
    unfold iS
    rw[aaV,decide_eq_false e]
   have a2:atKey (q::qs) k=atKey qs k:=by
    unfold atKey
    rw[aaV,decide_eq_false e']
   rw[a1,a2]
   exact ih
end
noncomputable def CO (P:Program) (w:World):TE:=λ_ H Q=>∀p,H p=none->Q (.ref p) (upd H p (D5 P w p []))
noncomputable def KO (P:Program) (w:World) (H:Hp) (x y:V) (o:Option Int):Prop:=∃a b d ks,x=.ref a/\y=.ref b/\H a=some (D5 P w a ks)/\wG H ks/\jX H d b/\o=iS ks (i7 d)
noncomputable def GI (P:Program) (w:World) (td ty:TE):TE:=λσ H Q=>td σ H λx H1=>ty σ H1 λy H2=>∃i,KO P w H2 x y (some i)/\Q (.int i) H2
noncomputable def zQ (P:Program) (w:World) (ty td:TE):TE:=λσ H Q=>ty σ H λy H1=>td σ H1 λx H2=>∃o,KO P w H2 x y o/\Q (.bl (!o.isSome)) H2
noncomputable def GJ (P:Program) (w:World) (td ty tv:TE):TS:=λD σ H=>tv σ H λv H1=>td σ H1 λx H2=>ty σ H2 λy H3=>∃a b d ks i,x=.ref a/\y=.ref b/\v=.int i/\H3 a=some (D5 P w a ks)/\wG H3 ks/\jX H3 d b/\iS ks (i7 d)=none/\ks.length<sizeLine/\D.nx σ (upd H3 a (D5 P w a (ks++ [(d,b,i)])))
section
variable {X : Cx} {P : Program} {w : World} {o i e value : Expr} {pos pos' sx : Pos} {td ty tv : TE}
theorem CP (hP:X.prog=P:=by rfl) (hw:X.w=w:=by rfl):PE X (.Dict [] [] pos) (CO P w):=λpins s σ H Q I h=>by
 subst hP hw
 exact wpAny_Dict_empty ⟨.ref s.heap.objs.size,_,I.laid (a:=s.heap.objs.size) (o:=D5 X.prog X.w s.heap.objs.size []) (t':=s.toks) (λ_ _ q=>Heap.get?_push_of_some _ q) (aaf _) (CM (xs:=[]) (Heap.get?_push_size _ rfl) ⟨rfl,rfl,rfl⟩ rfl rfl List.nodup_nil .nil (aak _) (beq_eq_false_iff_ne.mpr (Ne.symm (aam I.M9)))),rfl,h _ (I.bN.fresh (aaf _))⟩
theorem CQ {A:Around} (hu:A.units+64<cLine):(ig P w).room A.in1:=(by show A.units+1+8<cLine;omega)
theorem Fh (hu:X.A.units+64<cLine) (ho:PE X o td) (hi:PE X i ty) (hs:HD i) (hP:X.prog=P:=by rfl) (hw:X.w=w:=by rfl):PE X (.Subscript o i pos) (GI P w td ty):=by
 subst hP hw
 intro pins s σ H Q I h
 refine zz PySem.F.slot_dict_getitem.lookup hs (cL (ho pins s σ H _ I h) λu s1 ⟨x,H1,I1,rx,q1⟩=>cL (hi pins s1 σ H1 _ I1 q1) λiv s2 dH=>?_)
 obtain⟨y,H2,I2,ry,j,⟨a,b,d,ks,ex,ey,ea,al,kn,lo⟩,q2⟩:=dH
 subst ex ey
 obtain rfl:u=Value.ref a:=rx
 obtain rfl:iv=Value.ref b:=ry
 obtain⟨z,hd,xs,rel,dd⟩:=CN I2.bN ea al
 refine⟨dd.typeIs,?_⟩
 rcases rel.val (i7 d) with ⟨l1,_⟩ | ⟨j',t,b',l1,l2⟩
 ·rw[l1] at lo
  cases lo
 ·rw[l1] at lo
  cases lo
  exact wpAny_getItem_heap (CQ hu) (kn.is I2.bN) dd l2 ⟨.int j,H2,I2.tok _,⟨t,rfl⟩,q2⟩
theorem Ba (hu:X.A.units+64<cLine) (hi:PE X i ty) (ho:PE X o td) (hP:X.prog=P:=by rfl) (hw:X.w=w:=by rfl):PC X .NotIn i o (zQ P w ty td):=by
 subst hP hw
 intro pins s σ H Q I h
 refine cL (hi pins s σ H _ I h) λiv s1 ⟨y,H1,I1,ry,q1⟩=>cL (ho pins s1 σ H1 _ I1 q1) λu s2 dH=>?_
 obtain⟨x,H2,I2,rx,ov,⟨a,b,d,ks,ex,ey,ea,al,kn,lo⟩,q2⟩:=dH
 subst ex ey
 obtain rfl:u=Value.ref a:=rx
 obtain rfl:iv=Value.ref b:=ry
 obtain⟨z,hd,xs,rel,dd⟩:=CN I2.bN ea al
 refine wpAny_notIn_heap (CQ hu) (kn.is I2.bN) hd dd ?_
 have:(atKey xs (i7 d)).isSome=ov.isSome:=by
  rcases rel.val (i7 d) with ⟨l1,l2⟩ | ⟨j',t,b',l1,l2⟩
  ·rw[lo,l1,l2]
   rfl
  ·rw[lo,l1,l2]
   rfl
 rw[this]
 exact⟨.bl (!ov.isSome),H2,I2.tok _,rfl,q2⟩
theorem Fi (hu:X.A.units+64<cLine) (ho:PE X o td) (hi:PE X i ty) (hv:PE X value tv) (hs:swapsWith value (some (.Subscript o i pos')) pos.line X.env=pure false) (hP:X.prog=P:=by rfl) (hw:X.w=w:=by rfl):
  PS X (.Assign [.Subscript o i pos'] value pos) (GJ P w td ty tv):=by
 subst hP hw
 intro pins s σ H D I h
 refine wpAny_Assign_Subscript (cL (hv pins s σ H _ I h) λr s1 ⟨v,H1,I1,rv,q1⟩=>cL (ho pins s1 σ H1 _ I1 q1) λu s2 ⟨x,H2,I2,rx,q2⟩=>cL (hi pins s2 σ H2 _ I2 q2) λiv s3 dH=>?_) hs
 obtain⟨y,H3,I3,ry,a,b,d,ks,j,ex,ey,ev,ea,al,kn,lo,ln,q3⟩:=dH
 subst ex ey ev
 obtain rfl:u=Value.ref a:=rx
 obtain rfl:iv=Value.ref b:=ry
 obtain⟨t,rfl⟩:=(show ∃t,r=Value.int j t from rv)
 obtain⟨z,hd,xs,rel,dd⟩:=CN I3.bN ea al
 have hz:xs.length<=sizeLine:=by rw[<-Paired.length rel];exact z
 have la:atKey xs (i7 d)=none:=by
  rcases rel.val (i7 d) with ⟨l1,l2⟩ | ⟨j',t,b',l1,l2⟩
  ·exact l2
  ·rw[l1] at lo
   cases lo
 refine wpAny_setItem_heap (hsz:=hz) (CQ hu) (kn.is I3.bN) dd λh' HC hs=>⟨σ,_,?_,q3⟩
 rw[storedH_new la] at HC
 obtain⟨q,es,ep,hq,h2,h3,h4,_,h5⟩:=HC
 exact uE I3 (by rw[ea];exact True.intro) hs ⟨q,hq⟩ (CM hq h2 h3 h4 h5 (Paired.snoc rel ⟨rfl,rfl,t,rfl⟩) (by rw[aah];exact ln) hd)
end
end L2
namespace L2
open PySem PySem.Spec PyProof.Rows
structure cf (P:Program) (w:World) (K:PySem.W.Frag) (mg:Str->Option Value) (base:Heap) (CX:pd) (k:Nat) (C:Addr) (m:Str) (ps:List Str) (sp:Sp):Prop where
 ex:∃f fd,B2 K C m f/\fX P w K mg base CX k f fd ps sp/\Binds K fd ps []
section
variable {X : Cx} {CX : pd} {k : Nat} {C : Addr} {m : Str} {ps : List Str} {sp : Sp} {E : XK} {e o : Expr} {es : List Expr} {ta : TE} {t : TA} {pos apos : Pos} {pl : Sem Bool}
theorem dD (M:cf X.prog X.w X.K X.mg X.base CX k C m ps sp) (c:zr X.K C) (he:PE X o ta) (hr:dM k X.A) (hx:eL CX X E) (ha:PA X (e::es) t)
  (hst:starEach (e::es) X.env=(false,eval e X.env)::starEach es X.env:=by rfl) (hpl:(backTo pos (starEach es X.env)).any (·.1)=false:=by rfl)
  (ht:eval (.Call (.Attribute o m apos) (e::es) [] pos) X.env=(do
   let ov <-eval o X.env
   standAt apos.atName
   let (f,first) <-holding [ov] (getMethod ov m pl)
   callWith pos f first (backTo pos (starEach (e::es) X.env)) (backToKw pos (keywordEach [] X.env))):=by rfl):
  PE X (.Call (.Attribute o m apos) (e::es) [] pos) (cZ C m sp [] E ta t):=by
 obtain⟨f,fd,hm,F,hb⟩:=M.ex
 exact ED he c hm F hr hb .nil hx ha hst hpl ht
theorem HZ (M:cf X.prog X.w X.K X.mg X.base CX k C m ps sp) (c:zr X.K C) (he:PE X o ta) (hr:dM k X.A) (hx:eL CX X E)
  (ht:eval (.Call (.Attribute o m apos) [] [] pos) X.env=(do
   let ov <-eval o X.env
   standAt apos.atName
   let (f,first) <-holding [ov] (getMethod ov m pl)
   callWith pos f first (backTo pos (starEach [] X.env)) (backToKw pos (keywordEach [] X.env))):=by rfl):
  PE X (.Call (.Attribute o m apos) [] [] pos) (cZ C m sp [] E ta tNil):=by
 obtain⟨f,fd,hm,F,hb⟩:=M.ex
 exact B4 he c hm F hr hb .nil hx ht
theorem Ia {x:Str} {p:Pos} (M:qJ X.prog X.w X.K X.mg X.base CX k x C ps sp) (hr:dM (k+1) X.A) (hg:Gl X x) (hx:eL CX X E) (qr:(x==("__debug__":Str))=false:=by decide):
  PE X (.Call (.Name x p) [] [] pos) (tK C sp [] E tNil):=by
 obtain⟨f,fd,m,F,hm,hb⟩:=M.ex
 exact B5 m F hr hg hm hb .nil hx qr
end
structure yj (K:PySem.W.Frag) (C:Addr) (m qual:Str) (st:Stmt):Prop where
 ex:∃f fd,zB K m qual st f fd/\B2 K C m f
theorem yj.fC {P:Program} {w:World} {K:PySem.W.Frag} {mg:Str->Option Value} {base:Heap} {CX:pd} {m qual:Str} {st:Stmt} {C:Addr} {ps:List Str} {k:Nat} {sp:Sp} (D:yj K C m qual st)
  (hb:∀(kV doc pm:Value) (an:Option Addr) (bZ ct:Value) (us:List Value),us.length=ps.length->bindArgs (PySem.W.fnOf m qual (aW st) (aV st) (aq st) .none kV doc pm an bZ ct) ⟨us,[]⟩=pure (ps.zip us))
  (h:∀f fd,zB K m qual st f fd->fX P w K mg base CX k f fd ps sp):cf P w K mg base CX k C m ps sp:=by
 obtain⟨f,fd,F,hm⟩:=D.ex
 exact⟨f,fd,hm,h f fd F,F.binds hb⟩
end L2
namespace L2
open PySem PySem.Spec PyProof.Rows PySem.W
mutual
noncomputable def sN:PyData->Bool
 | .none=>true
 | .int _=>true
 | .str x=>PyData.canLay0 (.str x)
 | .tuple xs=>qN xs
 | .list xs=>qN xs
 | _=>false
noncomputable def qN:List PyData->Bool
 | []=>true
 | x::xs=>sN x && qN xs
end
mutual
theorem uN:∀(d:PyData),sN d=true->d.canLay0=true
 | .none,_=>by simp [PyData.canLay0]
 | .bool _,h=>by simp [sN] at h
 | .int _,_=>by simp [PyData.canLay0]
 | .str x,h=>by rw[sN] at h;exact h
 | .list xs,h=>by rw[sN] at h;rw[PyData.canLay0];exact qO xs h
 | .tuple xs,h=>by rw[sN] at h;rw[PyData.canLay0];exact qO xs h
 | .dict _,h=>by simp [sN] at h
theorem qO:∀(xs:List PyData),qN xs=true->PyData.canLayAll0 xs=true
 | [],_=>by simp [PyData.canLayAll0]
 | x::xs,h=>by
  rw[qN,aaI] at h
  rw[PyData.canLayAll0,aaI]
  exact⟨uN x h.1,qO xs h.2⟩
end
mutual
theorem zR:∀(x y:PyData),sN x=true->sN y=true->PyData.eqv x y=decide (x=y)
 | .none,y,_,hy=>by cases y <;>simp [PyData.eqv]
 | .int i,y,_,hy=>by
  cases y with
  | int j=>
   rw[PyData.eqv]
   by_cases c:i=j
   ·subst c;simp
   ·rw[decide_eq_false (λe=>c (by injection e))]
    simp [c]
  | bool _=>simp [sN] at hy
  | _=>simp [PyData.eqv]
 | .str a,y,_,hy=>by
  cases y with
  | str b=>
   rw[PyData.eqv]
   by_cases c:a=b
   ·subst c;simp
   ·rw[decide_eq_false (λe=>c (by injection e))]
    simp [c]
  | _=>simp [PyData.eqv]
 | .tuple xs,y,hx,hy=>by
  cases y with
  | tuple ys=>
   rw[sN] at hx hy
   rw[PyData.eqv,qP xs ys hx hy]
   by_cases c:xs=ys
   ·subst c;simp
   ·rw[decide_eq_false c,decide_eq_false (λe=>c (by injection e))]
  | _=>simp [PyData.eqv]
 | .list xs,y,hx,hy=>by
  cases y with
  | list ys=>
   rw[sN] at hx hy
   rw[PyData.eqv,qP xs ys hx hy]
   by_cases c:xs=ys
   ·subst c;simp
   ·rw[decide_eq_false c,decide_eq_false (λe=>c (by injection e))]
  | _=>simp [PyData.eqv]
 | .bool _,_,h,_=>by simp [sN] at h
 | .dict _,_,h,_=>by simp [sN] at h
theorem qP:∀(xs ys:List PyData),qN xs=true->qN ys=true->PyData.eqvAll xs ys=decide (xs=ys)
 | [],[],_,_=>by simp [PyData.eqvAll]
 | [],_::_,_,_=>by simp [PyData.eqvAll]
 | _::_,[],_,_=>by simp [PyData.eqvAll]
 | x::xs,y::ys,hx,hy=>by
  rw[qN,aaI] at hx hy
  rw[PyData.eqvAll,zR x y hx.1 hy.1,qP xs ys hx.2 hy.2]
  by_cases c:x=y
  ·subst c
   by_cases d:xs=ys
   ·subst d;simp
   ·rw[decide_eq_false d,decide_eq_false (λe=>d (List.cons.inj e).2)];simp
  ·rw[decide_eq_false c,decide_eq_false (λe=>c (List.cons.inj e).1)];simp
end
section
variable {X : Cx} {K : PySem.W.Frag}
noncomputable def Ke (d:Dat):Prop:=sN (i7 d)=true/\(i7 d).depth<=8
noncomputable def Ib (b:Bool):R2:=λx y H Q=>∃d e,Rep H d x/\Rep H e y/\Ke d/\Ke e/\Q (.bl (if b=true then decide (i7 d=i7 e) else !decide (i7 d=i7 e))) H
theorem CS (hu:X.A.units+64<cLine):my X (compareOp .Eq) (Ib true):=by
 intro pins s σ H x y v u Q I rx ry h
 obtain⟨d,e,h1,h2,k1,k2,q⟩:=h
 obtain⟨as,ra⟩:=mM I.bN d x v h1 rx
 obtain⟨bs,rb⟩:=mM I.bN e y u h2 ry
 have:=k1.2
 have:=k2.2
 refine SeqAt.compareEq_reads ra rb (uN _ k1.1) (uN _ k2.1) (by omega) ⟨.bl _,H,I,rfl,?_⟩
 rw[zR _ _ k1.1 k2.1]
 exact q
end
end L2
namespace PySem.Dfl
open PySem PyProof.Rows
theorem uO:typeLookup (.type "list") "keys"=pure none:=PySem.am_miss_of_fast (by kernel_rfl)
theorem entry_loop:entryFor table "dict.update.loop"=some Builtin.«dict.update.loop»:=entryFor_of_tree (by kernel_rfl)
theorem plain_loop:plainId "dict.update.loop"=true:=by ac_rfl
section
variable {prog : Program} {w : World} {A : Around} {E : Value -> Shared -> Prop} {s : Shared}
theorem og {a:Addr} {o:Obj} {xs:Array Value} {k:Nat} {Q:Option Value->Shared->Prop}
  (hx:s.heap.get? a=some o) (hc:o.cls=.type "list") (CT:o.data=.seq xs k) (hd:o.dict=none) (hA:A.handled=none)
  (h:∀h' tk,(∀b ob,s.heap.get? b=some ob->h'.get? b=some ob)->Q none {s with heap:=h',toks:=tk}):
  wpAny (model prog w) A (getAttr? (.ref a) "keys") Q E s:=by
 obtain⟨c,dct,dat,sl⟩:=o
 simp only at hc CT hd
 subst hc CT hd
 obtain⟨hp,g,d,tk,os⟩:=s
 have hT:∀Ic,(⟨hp,g,d,Ic,os⟩:Shared).TypeIs (.ref a) "list":=λ_=>⟨_,hx,rfl⟩
 have f1:=sub_AttributeError
 have f3:=F.slot_list_getattribute.lookup
 have f4:=F.slot_list_getattribute.bind (.ref a)
 have f5:=am_list_getattr_none
 unfold getAttr? getAttrBy? getAttrBy
 repeat (any_goals (first | assumption | exact hT _ | ((with_reducible show wpAny _ _ (call (Value.builtin "list.__getattribute__") _ _) _ _ _);refine call_meets F.slot_list_getattribute (hT _) am_entry_list_getattribute (F.args_list_getattribute_2 _ _) (meets_getattribute_miss_list a xs k sl "keys" _ uO (by decide) (by size_fits)) ⟨hx,hA,λh' Ic e JC=>?_⟩) | wp_step))
 obtain⟨t',u',he⟩:=JC.there
 show wpAny _ _ (getattributeRaised _ _ _ _ _ _ _) _ _ _
 unfold getattributeRaised
 repeat (any_goals (first | assumption | wp_step))
 exact h _ _ JC.keeps
end
section
variable {prog : Program} {w : World} {K : Type} [DecidableEq K] {knd : KeyKind prog w K} {A : Around} {R : Result -> Shared -> Prop} {I : Addr} {fp wr : List Addr} {G : Array GenState -> Array GenState -> Prop} {n : Nat} {P : Nat -> Value -> Prop} {St : Nat -> Shared -> Prop}
theorem pair_items {A:Around} {E:Value->Shared->Prop} {s:Shared} {t:Addr} {k v:Value} {Q:List Value->Shared->Prop} (ht:s.heap.IsTuple t #[k,v]) (h:Q [k,v] s):wpAny (model prog w) A (Builtin.Dict.pairItems (.ref t)) Q E s:=by
 obtain⟨o,ho,hc,n,hd⟩:=ht
 unfold Builtin.Dict.pairItems
 have hT:s.TypeIs (.ref t) "tuple":=⟨o,ho,hc⟩
 refine wpAny_bind (wpAny_typeOf hT ?_)
 rw[if_pos (by decide)]
 exact wpAny_bind (wpAny_seqItems ho hd (wpAny_pure h))
theorem qQ (W:WalksS prog w A.in1 I fp wr G n P St) (D:Addr) (VT:D∉fp) (ta:Nat->Addr) (ky vl:Nat->Value) (kk:Nat->K) (OE:∀i v,P i v->v=.ref (ta i)) (uz:∀i,i<n->knd.is (kk i) (ky i)=true)
  (Nt:∀i,i<n->ta i∉D::wr) (hb:n<=sizeLine):
  ∀(k i:Nat) (s:Shared) (j:Int) (tj:Tok),n - i=k->i<=n->St i s->s.heap.DictOf knd D (merged [] ((List.range i).map λj=>(kk j,vl j)))->(∀j,j<n->s.heap.IsTuple (ta j) #[ky j,vl j])->
   (∀s',Moved (D::wr) G s s'->s'.heap.DictOf knd D (merged [] ((List.range n).map λj=>(kk j,vl j)))->R (.ok (.ret .none)) s')->
   codeAny (model prog w) A (.builtin "dict.update.loop" ⟨[.ref D,.ref I,.int j tj,.none],[]⟩) R s:=by
 have KP:D∉wr:=λh=>VT (W.sub _ h)
 intro k
 induction k with
 | zero=>
  intro i s j tj hk hi hst hS KQ hR
  obtain rfl:i=n:=by omega
  refine codeAny_builtin entry_loop ?_
  rw[Around.under_plainId plain_loop _]
  show wpAny _ A.in1 (pyNext (.ref I) >>=_) _ _ s
  refine wpAny_bind (W.done s _ _ hst λs' hm=>?_)
  show wpAny _ _ (Builtin.Dict.addKeywords D [] >>=_) _ _ _
  refine wpAny_bind (wpAny_pure (wpAny_pure (hR s' (hm.mono λb hb=>aal _ hb) ?_)))
  obtain⟨o,es,ep,ho,rest⟩:=hS
  exact⟨o,es,ep,hm.heap D _ KP ho,rest⟩
 | succ k ih=>
  intro i s j tj hk hi hst hS KQ hR
  have fY:i<n:=by omega
  refine codeAny_builtin entry_loop ?_
  rw[Around.under_plainId plain_loop _]
  show wpAny _ A.in1 (pyNext (.ref I) >>=_) _ _ s
  refine wpAny_bind (W.item i s _ _ fY hst λv s' hP Ie hm=>?_)
  obtain rfl:=OE i v hP
  have KR:∀j,j<n->s'.heap.IsTuple (ta j) #[ky j,vl j]:=λj hj=>by
   obtain⟨o,ho,r⟩:=KQ j hj
   exact⟨o,hm.heap _ _ (λh=>Nt j hj (aal _ h)) ho,r⟩
  have KS:s'.heap.DictOf knd D (merged [] ((List.range i).map λj=>(kk j,vl j))):=by
   obtain⟨o,es,ep,ho,rest⟩:=hS
   exact⟨o,es,ep,hm.heap D _ KP ho,rest⟩
  dsimp only
  refine wpAny_bind (wpAny_holding (wpAny_bind (wpAny_tryCatch (pair_items (KR i fY) ?_))))
  dsimp only
  refine wpAny_holding (wpAny_dictSet_pairs (uz i fY) KS (λh' KU JD=>?_) ?_)
  ·have e:merged [] ((List.range (i+1)).map λj=>(kk j,vl j))=stored (merged [] ((List.range i).map λj=>(kk j,vl j))) (kk i) (vl i):=by
    simp [merged,List.range_succ,aa3]
   refine wpAny_pure ⟨plainId_quiet plain_loop _,ih (i+1) _ _ _ (by omega) fY (W.frame _ s' _ _ Ie (Nat.le_succ _) λb hb o e=>?_) (by rw[e];exact KU) (λj hj=>?_) λsy OF OG=>?_⟩
   ·rw[JD.2 b (λh:b=D=>VT (by rw[<-h];exact hb))];exact e
   ·obtain⟨o,ho,r⟩:=KR j hj
    exact⟨o,(JD.2 _ λh=>Nt j hj (by rw[h];exact aao)).trans ho,r⟩
   ·refine hR sy (Moved.trans W.gtrans ((hm.mono λb hb=>aal _ hb).then_heap (Nat.le_succ _) λb o hb e=>?_) OF) OG
    rw[JD.2 b (λh:b=D=>hb (by rw[h];exact aao))];exact e
  ·have:=merged_length_le ([]:List (K×Value)) ((List.range i).map λj=>(kk j,vl j))
   rw[aad,List.length_range] at this
   simp only[aaR,Nat.zero_add] at this
   omega
end
end PySem.Dfl
namespace PySem.Dfl
open PySem PyProof.Rows
section
variable {prog : Program} {w : World} {K : Type} [DecidableEq K] {knd : KeyKind prog w K} {A : Around} {E : Value -> Shared -> Prop} {s : Shared}
set_option maxHeartbeats 1600000 in
theorem call_dict {l:Addr} {o:Obj} {items:Array Value} {nl:Nat} (ta:Nat->Addr) (ky vl:Nat->Value) (kk:Nat->K) {Q:Value->Shared->Prop} (hh:A.handled=none)
  (hl:s.heap.get? l=some o) (hc:o.cls=.type "list") (CT:o.data=.seq items nl) (Yo:o.dict=none) (hit:∀i v,items[i]?=some v->v=Value.ref (ta i)) (uz:∀i,i<items.size->knd.is (kk i) (ky i)=true)
  (KQ:∀j,j<items.size->s.heap.IsTuple (ta j) #[ky j,vl j]) (hb:items.size<=sizeLine)
  (h:∀(h':Heap) (tk:Nat),h'.DictOf knd s.heap.objs.size (merged [] ((List.range items.size).map λj=>(kk j,vl j)))->
   (∀b o,b<s.heap.objs.size->s.heap.get? b=some o->h'.get? b=some o)->Q (.ref s.heap.objs.size) {s with heap:=h',toks:=tk}):
  wpAny (model prog w) A (call (.type "dict") [.ref l]) Q E s:=by
 refine callType_codes (Q₁:=λobj s₁=>obj=.ref s.heap.objs.size/\s₁={s with heap:=s.heap.push {cls:=.type "dict",data:=.dict #[]}}) F.kt_called_dict (F.kt_typeCall_dict_1 _) F.entry_dict_init (kt_code_dict_new _ ⟨rfl,rfl⟩) ?_
 rintro obj s₁ ⟨rfl,rfl⟩
 have uD:(s.heap.push {cls:=.type "dict",data:=.dict #[]}).DictOf knd s.heap.objs.size []:=Heap.DictOf.new s.heap
 have GH:(s.heap.push {cls:=.type "dict",data:=.dict #[]}).get? l=some o:=Heap.get?_push_of_some _ hl
 have hT:Shared.TypeIs {s with heap:=s.heap.push {cls:=.type "dict",data:=.dict #[]}} (.ref l) "list":=⟨_,GH,hc⟩
 refine⟨uD.typeIs,F.args_dict_init_2 _ _,?_⟩
 unfold Builtin.«dict.__init__»
 refine wpAny_bind ?_
 unfold Builtin.Dict.selfAndRest
 refine wpAny_bind (wpAny_notOrdered_dict uD.typeIs ?_)
 show wpAny _ _ (pure (s.heap.objs.size,[Value.ref l])) _ _ _
 refine wpAny_pure ?_
 show wpAny _ _ (Builtin.Dict.updateFrom "dict.__init__" s.heap.objs.size (.ref l) [] .none) _ _ _
 unfold Builtin.Dict.updateFrom
 refine wpAny_bind (wpAny_typeOf hT ?_)
 rw[if_pos (by decide)]
 refine wpAny_bind (og GH hc CT Yo (by simp [hh]) λh1 Yp Fj=>?_)
 rw[if_pos (by rfl)]
 have Ig:Heap.IsList h1 l items:=⟨o,Fj _ _ GH,hc,nl,CT⟩
 refine wpAny_bind (wpAny_rule (wpAny_bind (wpAny_pyIter_list Ig ?_)))
 refine wpAny_pure ⟨plainId_quiet plain_loop _,?_⟩
 dsimp only
 have Nu:h1.DictOf knd s.heap.objs.size []:=by
  obtain⟨o',es,ep,ho,rest⟩:=uD
  exact⟨o',es,ep,Fj _ _ ho,rest⟩
 have JE:s.heap.objs.size<h1.objs.size:=by
  obtain⟨o',es,ep,ho,rest⟩:=Nu
  exact Heap.lt_size ho
 have VU:l<s.heap.objs.size:=Heap.lt_size hl
 have Yq:A.in1.in1.handled=none:=by simp [hh]
 have OH:l≠h1.objs.size:=aam (aaN VU JE)
 have Yr:s.heap.objs.size∉[h1.objs.size,l]:=by
  simp only[aaB,List.mem_singleton,aaW,or_false,not_or]
  exact⟨aam JE,aaK VU⟩
 have Nt:∀i,i<items.size->ta i∉s.heap.objs.size::[h1.objs.size]:=λi hi=>by
  obtain⟨_,ho,_⟩:=KQ i hi
  have:=Heap.lt_size ho
  simp only[aaB,List.mem_singleton,aaW,or_false,not_or]
  exact⟨aam this,aam (aaN this JE)⟩
 refine qQ (knd:=knd) ((Walks.list Yq _ l OH items).toS) s.heap.objs.size Yr ta ky vl kk (λi v hv=>hit i v hv) uz Nt hb (items.size - 0) 0 _ 0 0 (by omega) (aak _)
  ⟨⟨_,Heap.get?_push_size _ rfl,rfl,rfl⟩,(Ig.push _)⟩ (Nu.push _) (λj hj=>?_) λs' hm KS=>?_
 ·obtain⟨o',ho,r⟩:=KQ j hj
  exact⟨o',Heap.get?_push_of_some _ (Fj _ _ (Heap.get?_push_of_some _ ho)),r⟩
 ·obtain⟨h',g',d',Ic,N8⟩:=s'
  have eg:g'=s.gens:=hm.gens
  have ed:d'=s.drawn:=hm.drawn
  have eo:N8=s.os:=hm.os
  subst eg
  subst ed
  subst eo
  refine⟨rfl,h h' Ic KS λb o hb e=>hm.heap b o ?_ (Heap.get?_push_of_some _ (Fj _ _ (Heap.get?_push_of_some _ e)))⟩
  simp only[aaB,List.mem_singleton,aaW,or_false,not_or]
  exact⟨aam hb,aam (aaN hb JE)⟩
end
end PySem.Dfl
namespace L2
open PySem PyProof.Rows
section
variable {X : Cx} {P : Program} {w : World} {K : PySem.W.Frag}
end
end L2
namespace L2
open PySem PyProof.Rows
theorem exV {b:V} {Q:V->Prop}:(∃v,(some (some b):Option (Option V))=some (some v)/\Q v)=Q b:=propext ⟨fun⟨_,e,h⟩=>by cases e;exact h,λh=>⟨b,rfl,h⟩⟩
theorem exI {a:Int} {Q:Int->Prop}:(∃i,V.int a=V.int i/\Q i)=Q a:=propext ⟨fun⟨_,e,h⟩=>by cases e;exact h,λh=>⟨a,rfl,h⟩⟩
theorem exB {a:Bool} {Q:Bool->Prop}:(∃i,V.bl a=V.bl i/\Q i)=Q a:=propext ⟨fun⟨_,e,h⟩=>by cases e;exact h,λh=>⟨a,rfl,h⟩⟩
theorem exR {a:Addr} {Q:Addr->Prop}:(∃i,V.ref a=V.ref i/\Q i)=Q a:=propext ⟨fun⟨_,e,h⟩=>by cases e;exact h,λh=>⟨a,rfl,h⟩⟩
theorem exS {a:Str} {Q:Str->Prop}:(∃i,V.str a=V.str i/\Q i)=Q a:=propext ⟨fun⟨_,e,h⟩=>by cases e;exact h,λh=>⟨a,rfl,h⟩⟩
theorem exII {a b:Int} {Q:Int->Int->Prop}:(∃i j,V.int a=V.int i/\V.int b=V.int j/\Q i j)=Q a b:=propext ⟨fun⟨_,_,e,f,h⟩=>by cases e;cases f;exact h,λh=>⟨a,b,rfl,rfl,h⟩⟩
theorem exRI {a:Addr} {k:Int} {Q:Addr->List V->Int->V->Prop}:(∃p xs i v,V.ref a=V.ref p/\V.int k=V.int i/\Q p xs i v)=∃xs v,Q a xs k v:=propext ⟨fun⟨_,xs,_,v,e,f,h⟩=>by cases e;cases f;exact⟨xs,v,h⟩,fun⟨xs,v,h⟩=>⟨a,xs,k,v,rfl,rfl,h⟩⟩
theorem exRa {α:Type} {a:Addr} {Q:Addr->α->Prop}:(∃p v,V.ref a=V.ref p/\Q p v)=∃v,Q a v:=propext ⟨fun⟨_,v,e,h⟩=>by cases e;exact⟨v,h⟩,fun⟨v,h⟩=>⟨a,v,rfl,h⟩⟩
theorem exRb {α β:Type} {a:Addr} {Q:Addr->α->β->Prop}:(∃p v u,V.ref a=V.ref p/\Q p v u)=∃v u,Q a v u:=propext ⟨fun⟨_,v,u,e,h⟩=>by cases e;exact⟨v,u,h⟩,fun⟨v,u,h⟩=>⟨a,v,u,rfl,h⟩⟩
end L2
namespace PySem.Dzp
open PySem PyProof.Rows
theorem uO:typeLookup (.type "zip") "keys"=pure none:=PySem.am_miss_of_fast (by kernel_rfl)
theorem uP:typeLookup (.type "zip") "__getattr__"=pure none:=by rw[typeLookup_type,builtinLookup_eq_fast];kernel_rfl
theorem CU:entryFor table "zip.__getattribute__"=some Builtin.«object.__getattribute__»:=entryFor_alias (id':="object.__getattribute__") (by kernel_rfl) (by ac_rfl) (by ac_rfl) (by kernel_rfl)
theorem yk (a:Addr) (fs:Array Value) (name:Str) (u:Tok) (VW:typeLookup (.type "zip") name=pure none) (KW:(["__module__","__name__","__qualname__","__doc__","__annotations__"]:List Str).contains name=false) (hsz:name.length+100<=sizeLine:=by size_fits):
  Meets (Builtin.«object.__getattribute__» ⟨[.ref a,.str name u],[]⟩) (λA R s=>s.heap.get? a=some {cls:=.type "zip",dict:=none,data:=.fields fs,slots:=#[]}/\raisesAttr (.ref a) name A R s):=
 Meets.of_wp λprog w A R s hs=>by
  obtain⟨hp,g,d,tk,os⟩:=s
  obtain⟨hx,hs⟩:=hs
  have hT:(⟨hp,g,d,tk,os⟩:Shared).TypeIs (.ref a) "zip":=⟨_,hx,rfl⟩
  unfold Builtin.«object.__getattribute__»
  repeat (any_goals (first | assumption | wp_step))
  simp only[KW,abb,if_false]
  repeat (any_goals (first | assumption | wp_step))
  exact wpAny_raiseAttrError hs.1 hs.2 (attrMsg_fits (by ac_rfl) hsz)
section
variable {prog : Program} {w : World} {A : Around} {E : Value -> Shared -> Prop} {s : Shared}
theorem og {a:Addr} {fs:Array Value} {Q:Option Value->Shared->Prop}
  (hx:s.heap.get? a=some {cls:=.type "zip",dict:=none,data:=.fields fs,slots:=#[]}) (hA:A.handled=none)
  (h:∀h' tk,(∀b ob,s.heap.get? b=some ob->h'.get? b=some ob)->Q none {s with heap:=h',toks:=tk}):
  wpAny (model prog w) A (getAttr? (.ref a) "keys") Q E s:=by
 obtain⟨hp,g,d,tk,os⟩:=s
 have hT:∀Ic,(⟨hp,g,d,Ic,os⟩:Shared).TypeIs (.ref a) "zip":=λ_=>⟨_,hx,rfl⟩
 have f1:=sub_AttributeError
 have f3:=F.slot_zip_getattribute.lookup
 have f4:=F.slot_zip_getattribute.bind (.ref a)
 have f5:=uP
 unfold getAttr? getAttrBy? getAttrBy
 repeat (any_goals (first | assumption | exact hT _ | ((with_reducible show wpAny _ _ (call (Value.builtin "zip.__getattribute__") _ _) _ _ _);refine call_meets F.slot_zip_getattribute (hT _) CU (F.args_zip_getattribute_2 _ _) (yk a fs "keys" _ uO (by decide) (by size_fits)) ⟨hx,hA,λh' Ic e JC=>?_⟩) | wp_step))
 obtain⟨t',u',he⟩:=JC.there
 show wpAny _ _ (getattributeRaised _ _ _ _ _ _ _) _ _ _
 unfold getattributeRaised
 repeat (any_goals (first | assumption | wp_step))
 exact h _ _ JC.keeps
abbrev Bb (h:Heap) (z TI TO:Addr) (f0:Value) (f:Bool):Prop:=
 h.get? z=some {cls:=.type "zip",dict:=none,data:=.fields #[f0,.bool f,.bool false,.ref TI,.ref TO],slots:=#[]}
theorem alive {a:Addr} {o:Obj} {Q:Option Obj->Shared->Prop} (ha:s.heap.get? a=some o) (h:Q (some o) s):wpAny (model prog w) A (loadIfAlive a) Q E s:=by
 exact W.kdx_alive ha h
theorem wH {z TI TO a:Addr} {oa:Obj} {f:Bool} {Q:Bool->Shared->Prop} (hz:Bb s.heap z TI TO (rawInt a) f) (ha:s.heap.get? a=some oa)
  (hQ:∀h',Bb h' z TI TO (rawInt a) true->Heap.SameBut z s.heap h'->Q false {s with heap:=h'}):wpAny (model prog w) A (Builtin.SmallTypes.ownedTupleIsFree (.ref z)) Q E s:=by
 unfold Builtin.SmallTypes.ownedTupleIsFree
 refine wpAny_bind (wpAny_field hz rfl (x:=rawInt a) rfl ?_)
 show wpAny _ _ (loadIfAlive ((a:Int).toNat) >>=_) _ _ _
 rw[aaQ]
 refine wpAny_bind (alive ha ?_)
 simp only[Option.isNone_some,abb,if_false]
 refine wpAny_bind (wpAny_field hz rfl (x:=.bool f) rfl ?_)
 cases f with
 | true=>
  rw[if_neg (show ¬((Value.bool true !=Value.bool true)=true) from aaw)]
  exact wpAny_pure (hQ _ hz (Heap.SameBut.refl _ _))
 | false=>
  rw[if_pos (show(Value.bool false !=Value.bool true)=true from rfl)]
  exact wpAny_bind (wpAny_setField_rec hz (by simp) λh₃ Ys Yt=>wpAny_pure (hQ h₃ Ys Yt))
theorem CV {z TI TO i1 i2 l1 l2 a:Addr} {oa:Obj} {f:Bool} {k1 k2:Nat} {xs ys:Array Value} {x y:Value} {Q:Value->Shared->Prop} (D:ZipApart z TI TO i1 i2 l1 l2)
  (hz:Bb s.heap z TI TO (rawInt a) f) (ha:s.heap.get? a=some oa) (OI:IsPair s.heap TI (.ref i1) (.ref i2))
  (h1:s.heap.IsListIter i1 l1 k1) (h2:s.heap.IsListIter i2 l2 k2) (Ig:s.heap.IsList l1 xs) (D1:s.heap.IsList l2 ys) (hx:xs[k1]?=some x) (hy:ys[k2]?=some y)
  (hQ:∀h',Bb h' z TI TO (rawInt a) true->h'.IsListIter i1 l1 (k1+1)->h'.IsListIter i2 l2 (k2+1)->IsPair h' s.heap.objs.size x y->
   (∀c o,c≠z->c≠i1->c≠i2->s.heap.get? c=some o->h'.get? c=some o)->Q (.ref s.heap.objs.size) {s with heap:=h'}):
  wpAny (model prog w) A (Builtin.«zip.__next__» ⟨[.ref z],[]⟩) (λfin s'=>∃v,fin=.done (.ret v)/\Q v s') E s:=by
 show wpAny _ _ (field (.ref z) 2 >>=_) _ _ _
 refine wpAny_bind (wpAny_field hz rfl (x:=.bool false) rfl ?_)
 show wpAny _ _ (field (.ref z) 3 >>=_) _ _ _
 refine wpAny_bind (wpAny_field hz rfl (x:=.ref TI) rfl ?_)
 refine wpAny_bind (wpAny_seqItems OI rfl ?_)
 show wpAny _ _ (Builtin.SmallTypes.ownedTupleIsFree (.ref z) >>=_) _ _ _
 refine wpAny_bind (wH hz ha λh₁ VX yl=>?_)
 simp only[abb,if_false]
 refine wpAny_bind ?_
 simp only[<-Array.forIn_toList,List.forIn_cons,List.forIn_nil]
 refine wpAny_bind (wpAny_bind (wpAny_holding ?_))
 show wpAny _ _ (Builtin.SmallTypes.nextOf (.ref i1) >>=_) _ _ _
 refine wpAny_bind (wpAny_nextOf_list_item (h1.extBut yl.extBut D.i1z) (Ig.extBut yl.extBut D.l1z) hx λh₂ VY CW=>wpAny_pure ?_)
 refine wpAny_pure ?_
 refine wpAny_bind (wpAny_bind (wpAny_holding ?_))
 show wpAny _ _ (Builtin.SmallTypes.nextOf (.ref i2) >>=_) _ _ _
 refine wpAny_bind (wpAny_nextOf_list_item ((h2.extBut yl.extBut D.i2z).extBut CW.extBut D.i12.symm) ((D1.extBut yl.extBut D.l2z).extBut CW.extBut D.l2i1) hy λh₄ Yu JF=>wpAny_pure ?_)
 refine wpAny_pure (wpAny_pure ?_)
 refine wpAny_bind (wpAny_newTuple (hsz:=show 2<=sizeLine by size_fits) ?_)
 have hsz:h₄.objs.size=s.heap.objs.size:=by rw[JF.1,CW.1,yl.1]
 have up:∀c o,c≠z->c≠i1->c≠i2->s.heap.get? c=some o->h₄.get? c=some o:=λc o c1 c3 c4 e=>JF.extBut _ _ c4 (CW.extBut _ _ c3 (yl.extBut _ _ c1 e))
 refine wpAny_pure ⟨_,rfl,?_⟩
 show Q (.ref h₄.objs.size) _
 rw[hsz]
 refine hQ _ (Heap.get?_push_of_some _ (JF.extBut _ _ D.i2z.symm (CW.extBut _ _ D.i1z.symm VX))) (((VY.extBut JF.extBut D.i12)).at λo e=>Heap.get?_push_of_some _ e) (Yu.at λo e=>Heap.get?_push_of_some _ e) ?_ λc o c1 c2 c3 e=>Heap.get?_push_of_some _ (up c o c1 c2 c3 e)
 rw[<-hsz]
 exact Heap.get?_push_size _ rfl
theorem Fk {z TI TO i1 i2 l1 l2 a:Addr} {oa:Obj} {f:Bool} {k1 k2:Nat} {xs ys:Array Value} {Q:Fin->Shared->Prop} (hh:A.handled=none) (D:ZipApart z TI TO i1 i2 l1 l2)
  (hz:Bb s.heap z TI TO (rawInt a) f) (ha:s.heap.get? a=some oa) (OI:IsPair s.heap TI (.ref i1) (.ref i2))
  (h1:s.heap.IsListIter i1 l1 k1) (h2:s.heap.IsListIter i2 l2 k2) (Ig:s.heap.IsList l1 xs) (D1:s.heap.IsList l2 ys) (Bc:xs[k1]?=none\/ys[k2]?=none)
  (hE:∀h' e,(∀c o,c≠z->c≠i1->c≠i2->s.heap.get? c=some o->h'.get? c=some o)->(∃o,h'.get? e=some o/\o.cls=.type "StopIteration")->E (.ref e) {s with heap:=h'}):
  wpAny (model prog w) A (Builtin.«zip.__next__» ⟨[.ref z],[]⟩) Q E s:=by
 show wpAny _ _ (field (.ref z) 2 >>=_) _ _ _
 refine wpAny_bind (wpAny_field hz rfl (x:=.bool false) rfl ?_)
 show wpAny _ _ (field (.ref z) 3 >>=_) _ _ _
 refine wpAny_bind (wpAny_field hz rfl (x:=.ref TI) rfl ?_)
 refine wpAny_bind (wpAny_seqItems OI rfl ?_)
 show wpAny _ _ (Builtin.SmallTypes.ownedTupleIsFree (.ref z) >>=_) _ _ _
 refine wpAny_bind (wH hz ha λh₁ VX yl=>?_)
 simp only[abb,if_false]
 refine wpAny_bind ?_
 simp only[<-Array.forIn_toList,List.forIn_cons,List.forIn_nil]
 refine wpAny_bind (wpAny_bind (wpAny_holding ?_))
 show wpAny _ _ (Builtin.SmallTypes.nextOf (.ref i1) >>=_) _ _ _
 cases hx:xs[k1]? with
 | none=>
  refine wpAny_bind (wpAny_nextOf_list_end hh (h1.extBut yl.extBut D.i1z) (Ig.extBut yl.extBut D.l1z) hx λh₂ e CW he=>?_)
  exact hE h₂ e (λc o c1 c3 _ x=>CW _ _ c3 (yl.extBut _ _ c1 x)) he
 | some x=>
  have hy:ys[k2]?=none:=by rcases Bc with h | h;rw[hx] at h;cases h;exact h
  refine wpAny_bind (wpAny_nextOf_list_item (h1.extBut yl.extBut D.i1z) (Ig.extBut yl.extBut D.l1z) hx λh₂ VY CW=>wpAny_pure ?_)
  refine wpAny_pure ?_
  refine wpAny_bind (wpAny_bind (wpAny_holding ?_))
  show wpAny _ _ (Builtin.SmallTypes.nextOf (.ref i2) >>=_) _ _ _
  refine wpAny_bind (wpAny_nextOf_list_end hh ((h2.extBut yl.extBut D.i2z).extBut CW.extBut D.i12.symm) ((D1.extBut yl.extBut D.l2z).extBut CW.extBut D.l2i1) hy λh₄ e JF he=>?_)
  exact hE h₄ e (λc o c1 c3 c4 x=>JF _ _ c4 (CW.extBut _ _ c3 (yl.extBut _ _ c1 x))) he
structure ZS (z TI TO i1 i2 l1 l2 D:Addr) (xs ys:Array Value) (i:Nat) (h:Heap):Prop where
 zp:IsZip h z TI TO .none\/∃(a:Addr) (oa:Obj) (f:Bool),Bb h z TI TO (rawInt a) f/\h.get? a=some oa/\a≠z/\a≠TO/\a≠i1/\a≠i2/\a≠D
 ti:IsPair h TI (.ref i1) (.ref i2)
 to:∃a b,IsPair h TO a b
 j1:h.IsListIter i1 l1 i
 j2:h.IsListIter i2 l2 i
 q1:h.IsList l1 xs
 q2:h.IsList l2 ys
theorem ZS.frame {z TI TO i1 i2 l1 l2 D:Addr} {xs ys:Array Value} {i:Nat} {h h':Heap} (S:ZS z TI TO i1 i2 l1 l2 D xs ys i h) (hD:D∉[z,TI,TO,i1,i2,l1,l2]) (k:∀c o,c≠D->h.get? c=some o->h'.get? c=some o):ZS z TI TO i1 i2 l1 l2 D xs ys i h':=by
 simp only[aaB,aaW,or_false,not_or] at hD
 obtain⟨d1,d2,d3,d4,d5,d6,d7⟩:=hD
 refine⟨?_,k _ _ (Ne.symm d2) S.ti,?_,S.j1.at λo e=>k _ o (Ne.symm d4) e,S.j2.at λo e=>k _ o (Ne.symm d5) e,S.q1.at λo e=>k _ o (Ne.symm d6) e,S.q2.at λo e=>k _ o (Ne.symm d7) e⟩
 ·rcases S.zp with e | ⟨a,oa,f,e,ea,n1,n2,n3,n4,n5⟩
  ·exact .inl (k _ _ (Ne.symm d1) e)
  ·exact .inr ⟨a,oa,f,k _ _ (Ne.symm d1) e,k _ _ n5 ea,n1,n2,n3,n4,n5⟩
 ·obtain⟨a,b,e⟩:=S.to
  exact⟨a,b,k _ _ (Ne.symm d3) e⟩
theorem ZS.item {z TI TO i1 i2 l1 l2 D:Addr} {xs ys:Array Value} {i:Nat} {Q:Option Value->Shared->Prop} (Z:ZipApart z TI TO i1 i2 l1 l2) (S:ZS z TI TO i1 i2 l1 l2 D xs ys i s.heap) (hD:D<s.heap.objs.size) {x y:Value} (hx:xs[i]?=some x) (hy:ys[i]?=some y)
  (hQ:∀T h',ZS z TI TO i1 i2 l1 l2 D xs ys (i+1) h'->IsPair h' T x y->(∀c o,c∉[z,TO,i1,i2]->s.heap.get? c=some o->h'.get? c=some o)->Q (some (.ref T)) {s with heap:=h'}):wpAny (model prog w) A (pyNext (.ref z)) Q E s:=by
 have lt:∀{c o},s.heap.get? c=some o->s.heap.objs.size≠c:=λe=>aaK (Heap.lt_size e)
 obtain⟨a0,b0,KY⟩:=S.to
 have n1:s.heap.objs.size≠i1:=by obtain⟨_,e,_⟩:=S.j1;exact lt e
 have n2:s.heap.objs.size≠i2:=by obtain⟨_,e,_⟩:=S.j2;exact lt e
 rcases S.zp with hz | ⟨a,oa,f,hz,ea,m1,m2,m3,m4,m5⟩
 ·refine wpAny_pyNext_zip_item Z hz S.ti KY S.j1 S.j2 S.q1 S.q2 hx hy λh' a1 a2 a3 a4 a5 a6 hk=>?_
  refine hQ _ h' ⟨.inr ⟨_,_,false,a1,a5,lt hz,lt KY,n1,n2,aaK hD⟩,hk _ _ Z.TIz Z.TITO Z.TIi1 Z.TIi2 S.ti,⟨_,_,a2⟩,a3,a4,S.q1.at λo e=>hk _ o Z.l1z Z.l1TO Z.l1i1 Z.l1i2 e,S.q2.at λo e=>hk _ o Z.l2z Z.l2TO Z.l2i1 Z.l2i2 e⟩ a5 λc o hc e=>hk c o (λx=>hc (by simp [x])) (λx=>hc (by simp [x])) (λx=>hc (by simp [x])) (λx=>hc (by simp [x])) e
 ·have hT:s.TypeIs (.ref z) "zip":=⟨_,hz,rfl⟩
  unfold pyNext
  refine wpAny_bind (wpAny_attempt (wpAny_callSpecial?_slot (name:=Str.ofString "__next__") hT F.slot_zip_next
   (wpAny_call_entry F.slot_zip_next hT F.entry_zip_next (CV Z hz ea S.ti S.j1 S.j2 S.q1 S.q2 hx hy λh' a1 a3 a4 a5 hk=>wpAny_pure ?_) (F.args_zip_next_1 _))))
  exact hQ _ h' ⟨.inr ⟨a,oa,true,a1,hk _ _ m1 m3 m4 ea,m1,m2,m3,m4,m5⟩,hk _ _ Z.TIz Z.TIi1 Z.TIi2 S.ti,⟨_,_,hk _ _ Z.TOz Z.TOi1 Z.TOi2 KY⟩,a3,a4,S.q1.at λo e=>hk _ o Z.l1z Z.l1i1 Z.l1i2 e,S.q2.at λo e=>hk _ o Z.l2z Z.l2i1 Z.l2i2 e⟩ a5 λc o hc e=>hk c o (λx=>hc (by simp [x])) (λx=>hc (by simp [x])) (λx=>hc (by simp [x])) e
theorem ZS.done {z TI TO i1 i2 l1 l2 D:Addr} {xs ys:Array Value} {i:Nat} {Q:Option Value->Shared->Prop} (hh:A.handled=none) (Z:ZipApart z TI TO i1 i2 l1 l2) (S:ZS z TI TO i1 i2 l1 l2 D xs ys i s.heap) (Bc:xs[i]?=none\/ys[i]?=none)
  (hQ:∀h',(∀c o,c∉[z,TO,i1,i2]->s.heap.get? c=some o->h'.get? c=some o)->Q none {s with heap:=h'}):wpAny (model prog w) A (pyNext (.ref z)) Q E s:=by
 obtain⟨a0,b0,KY⟩:=S.to
 rcases S.zp with hz | ⟨a,oa,f,hz,ea,m1,m2,m3,m4,m5⟩
 ·exact wpAny_pyNext_zip_end hh Z hz S.ti KY S.j1 S.j2 S.q1 S.q2 Bc λh' hk=>hQ h' λc o hc e=>hk c o (λx=>hc (by simp [x])) (λx=>hc (by simp [x])) (λx=>hc (by simp [x])) (λx=>hc (by simp [x])) e
 ·have hT:s.TypeIs (.ref z) "zip":=⟨_,hz,rfl⟩
  unfold pyNext
  refine wpAny_bind (wpAny_attempt (wpAny_callSpecial?_slot (name:=Str.ofString "__next__") hT F.slot_zip_next
   (wpAny_call_entry F.slot_zip_next hT F.entry_zip_next (Fk hh Z hz ea S.ti S.j1 S.j2 S.q1 S.q2 Bc λh' e hk he=>?_) (F.args_zip_next_1 _))))
  obtain⟨o,ho,hc⟩:=he
  refine wpAny_bind (wpAny_isInstance (T:="StopIteration") (b:=true) ⟨o,ho,hc⟩ isSubtype_stop ?_)
  exact wpAny_pure (hQ _ λc o hc e=>hk c o (λx=>hc (by simp [x])) (λx=>hc (by simp [x])) (λx=>hc (by simp [x])) e)
end
section
variable {prog : Program} {w : World} {K : Type} [DecidableEq K] {knd : KeyKind prog w K} {A : Around} {E : Value -> Shared -> Prop} {R : Result -> Shared -> Prop}
theorem qQ {z TI TO i1 i2 l1 l2 D:Addr} {xs ys:Array Value} (hh:A.in1.handled=none) (Z:ZipApart z TI TO i1 i2 l1 l2) (hD:D∉[z,TI,TO,i1,i2,l1,l2]) (n:Nat) (hn:n=min xs.size ys.size) (ky vl:Nat->Value) (kk:Nat->K) (OJ:∀i,i<n->xs[i]?=some (ky i)) (OK:∀i,i<n->ys[i]?=some (vl i)) (uz:∀i,i<n->knd.is (kk i) (ky i)=true) (hb:n<=sizeLine):
  ∀(k i:Nat) (s:Shared) (j:Int) (tj:Tok),n - i=k->i<=n->ZS z TI TO i1 i2 l1 l2 D xs ys i s.heap->s.heap.DictOf knd D (merged [] ((List.range i).map λj=>(kk j,vl j)))->
   (∀h' tk,(∀c o,c∉[D,z,TO,i1,i2]->s.heap.get? c=some o->h'.get? c=some o)->h'.DictOf knd D (merged [] ((List.range n).map λj=>(kk j,vl j)))->R (.ok (.ret .none)) {s with heap:=h',toks:=tk})->
   codeAny (model prog w) A (.builtin "dict.update.loop" ⟨[.ref D,.ref z,.int j tj,.none],[]⟩) R s:=by
 have KP:D∉[z,TO,i1,i2]:=λh=>hD (by simp only[aaB,aaW,or_false] at h ⊢;rcases h with h | h | h | h <;>simp [h])
 intro k
 induction k with
 | zero=>
  intro i s j tj hk hi hst hS hR
  obtain rfl:i=n:=by omega
  have Bc:xs[i]?=none\/ys[i]?=none:=by
   rcases Nat.le_total xs.size ys.size with h | h
   ·exact .inl (Array.getElem?_eq_none (by omega))
   ·exact .inr (Array.getElem?_eq_none (by omega))
  refine codeAny_builtin PySem.Dfl.entry_loop ?_
  rw[Around.under_plainId PySem.Dfl.plain_loop _]
  show wpAny _ A.in1 (pyNext (.ref z) >>=_) _ _ s
  refine wpAny_bind (hst.done hh Z Bc λh' hm=>?_)
  show wpAny _ _ (Builtin.Dict.addKeywords D [] >>=_) _ _ _
  refine wpAny_bind (wpAny_pure (wpAny_pure (hR h' s.toks (λc o hc e=>hm c o (λh=>hc (aal _ h)) e) ?_)))
  obtain⟨o,es,ep,ho,rest⟩:=hS
  exact⟨o,es,ep,hm D _ KP ho,rest⟩
 | succ k ih=>
  intro i s j tj hk hi hst hS hR
  have fY:i<n:=by omega
  refine codeAny_builtin PySem.Dfl.entry_loop ?_
  rw[Around.under_plainId PySem.Dfl.plain_loop _]
  show wpAny _ A.in1 (pyNext (.ref z) >>=_) _ _ s
  have Yv:D<s.heap.objs.size:=by obtain⟨o,es,ep,ho,_⟩:=hS;exact Heap.lt_size ho
  refine wpAny_bind (hst.item Z Yv (OJ i fY) (OK i fY) λT h' Ie hP hm=>?_)
  have KS:h'.DictOf knd D (merged [] ((List.range i).map λj=>(kk j,vl j))):=by
   obtain⟨o,es,ep,ho,rest⟩:=hS
   exact⟨o,es,ep,hm D _ KP ho,rest⟩
  dsimp only
  refine wpAny_bind (wpAny_holding (wpAny_bind (wpAny_tryCatch (PySem.Dfl.pair_items (s:={s with heap:=h'}) ⟨_,hP,rfl,_,rfl⟩ ?_))))
  dsimp only
  refine wpAny_holding (wpAny_dictSet_pairs (uz i fY) KS (λh2 KU JD=>?_) ?_)
  ·have e:merged [] ((List.range (i+1)).map λj=>(kk j,vl j))=stored (merged [] ((List.range i).map λj=>(kk j,vl j))) (kk i) (vl i):=by
    simp [merged,List.range_succ,aa3]
   refine wpAny_pure ⟨plainId_quiet PySem.Dfl.plain_loop _,ih (i+1) _ _ _ (by omega) fY (Ie.frame hD λc o hc e=>?_) (by rw[e];exact KU) λh3 Yw Yx JG=>?_⟩
   ·rw[JD.2 c hc];exact e
   ·refine hR h3 Yw (λc o hc e=>Yx c o hc ?_) JG
    rw[JD.2 c (λh=>hc (by simp [h]))]
    exact hm c o (λh=>hc (aal _ h)) e
  ·have:=merged_length_le ([]:List (K×Value)) ((List.range i).map λj=>(kk j,vl j))
   rw[aad,List.length_range] at this
   simp only[aaR,Nat.zero_add] at this
   omega
theorem call_dict {s:Shared} {z TI TO i1 i2 l1 l2:Addr} {xs ys:Array Value} {Q:Value->Shared->Prop} (hh:A.handled=none) (Z:ZipApart z TI TO i1 i2 l1 l2) (n:Nat) (hn:n=min xs.size ys.size) (ky vl:Nat->Value) (kk:Nat->K) (OJ:∀i,i<n->xs[i]?=some (ky i)) (OK:∀i,i<n->ys[i]?=some (vl i)) (uz:∀i,i<n->knd.is (kk i) (ky i)=true) (hb:n<=sizeLine)
  (hz:IsZip s.heap z TI TO .none) (ti:IsPair s.heap TI (.ref i1) (.ref i2)) {a b:Value} (to:IsPair s.heap TO a b) (j1:s.heap.IsListIter i1 l1 0) (j2:s.heap.IsListIter i2 l2 0) (q1:s.heap.IsList l1 xs) (q2:s.heap.IsList l2 ys)
  (h:∀(h':Heap) (tk:Nat),h'.DictOf knd s.heap.objs.size (merged [] ((List.range n).map λj=>(kk j,vl j)))->
   (∀c o,c∉[z,TO,i1,i2]->s.heap.get? c=some o->h'.get? c=some o)->Q (.ref s.heap.objs.size) {s with heap:=h',toks:=tk}):
  wpAny (model prog w) A (call (.type "dict") [.ref z]) Q E s:=by
 refine callType_codes (Q₁:=λobj s₁=>obj=.ref s.heap.objs.size/\s₁={s with heap:=s.heap.push {cls:=.type "dict",data:=.dict #[]}}) F.kt_called_dict (F.kt_typeCall_dict_1 _) F.entry_dict_init (kt_code_dict_new _ ⟨rfl,rfl⟩) ?_
 rintro obj s₁ ⟨rfl,rfl⟩
 have up:∀c o,s.heap.get? c=some o->(s.heap.push {cls:=.type "dict",data:=.dict #[]}).get? c=some o:=λc o e=>Heap.get?_push_of_some _ e
 have uD:(s.heap.push {cls:=.type "dict",data:=.dict #[]}).DictOf knd s.heap.objs.size []:=Heap.DictOf.new s.heap
 have hT:Shared.TypeIs {s with heap:=s.heap.push {cls:=.type "dict",data:=.dict #[]}} (.ref z) "zip":=⟨_,up _ _ hz,rfl⟩
 refine⟨uD.typeIs,F.args_dict_init_2 _ _,?_⟩
 unfold Builtin.«dict.__init__»
 refine wpAny_bind ?_
 unfold Builtin.Dict.selfAndRest
 refine wpAny_bind (wpAny_notOrdered_dict uD.typeIs ?_)
 show wpAny _ _ (pure (s.heap.objs.size,[Value.ref z])) _ _ _
 refine wpAny_pure ?_
 show wpAny _ _ (Builtin.Dict.updateFrom "dict.__init__" s.heap.objs.size (.ref z) [] .none) _ _ _
 unfold Builtin.Dict.updateFrom
 refine wpAny_bind (wpAny_typeOf hT ?_)
 rw[if_pos (by decide)]
 refine wpAny_bind (og (up _ _ hz) (by simp [hh]) λh1 Yp Fj=>?_)
 rw[if_pos (by rfl)]
 have up1:∀c o,s.heap.get? c=some o->h1.get? c=some o:=λc o e=>Fj _ _ (up c o e)
 refine wpAny_bind (wpAny_rule (wpAny_bind (wpAny_pyIter_zip (up1 _ _ hz) ?_)))
 refine wpAny_pure ⟨plainId_quiet PySem.Dfl.plain_loop _,?_⟩
 dsimp only
 have Nu:h1.DictOf knd s.heap.objs.size []:=by
  obtain⟨o',es,ep,ho,rest⟩:=uD
  exact⟨o',es,ep,Fj _ _ ho,rest⟩
 have hD:s.heap.objs.size∉[z,TI,TO,i1,i2,l1,l2]:=by
  have lt:∀{c o},s.heap.get? c=some o->s.heap.objs.size≠c:=λe=>aaK (Heap.lt_size e)
  simp only[aaB,aaW,or_false,not_or]
  obtain⟨_,e1,_⟩:=j1
  obtain⟨_,e2,_⟩:=j2
  obtain⟨_,e3,_⟩:=q1
  obtain⟨_,e4,_⟩:=q2
  exact⟨lt hz,lt ti,lt to,lt e1,lt e2,lt e3,lt e4⟩
 refine qQ (knd:=knd) (by simp [hh]) Z hD n hn ky vl kk OJ OK uz hb (n - 0) 0 _ 0 0 (by omega) (aak _) ⟨.inl (up1 _ _ hz),up1 _ _ ti,⟨_,_,up1 _ _ to⟩,j1.at λo e=>up1 _ o e,j2.at λo e=>up1 _ o e,q1.at λo e=>up1 _ o e,q2.at λo e=>up1 _ o e⟩ Nu λh' tk hk hS=>?_
 refine⟨rfl,h h' tk hS λc o hc e=>hk c o (λhm=>?_) (up1 _ _ e)⟩
 rcases List.mem_cons.mp hm with rfl | hm
 ·exact absurd (Heap.lt_size e) (aaA _)
 ·exact hc hm
end
end PySem.Dzp
namespace L2
open PySem PyProof.Rows
section
variable {X : Cx} {P : Program} {w : World} {K : PySem.W.Frag}
noncomputable def wI (K:PySem.W.Frag) (ta:TA):TE:=λσ H Q=>ta σ H λvs H1=>∃a b,∃ks:List Key,∃ys,vs=[.ref a,.ref b]/\bD K H1 a (ks.map kV)/\bD K H1 b ys/\ks.Nodup/\∀l,H1 l=none->Q (.ref l) (upd H1 l (.dK (ks.zip ys)))
theorem CY:∀{ks:List Key} {ys:List V} {us:List Value},bC ys us->KV (ks.zip ys) (ks.zip us)
 | [],_,_,_=>.nil
 | _::_,[],_,h=>by cases h;exact .nil
 | k::ks,y::ys,us,h=>by
  cases h with
  | cons h1 h2=>exact .cons ⟨rfl,h1⟩ (CY h2)
theorem Fl {a b:Expr} {ta:TA} {p pz pos wJ:Pos} (hc:X.calm=true) (OL:Gl X "dict") (OM:X.mg "dict"=none) (ON:Gl X "zip") (OO:X.mg "zip"=none) (ha:PA X [a,b] ta) (hs:starEach [a,b] X.env=[(false,eval a X.env),(false,eval b X.env)]) (BD:starEach [b] X.env=[(false,eval b X.env)]) (Nv:starEach [Expr.Call (.Name "zip" pz) [a,b] [] wJ] X.env=[(false,eval (.Call (.Name "zip" pz) [a,b] [] wJ) X.env)]:=by rfl):
  PE X (.Call (.Name "dict" p) [.Call (.Name "zip" pz) [a,b] [] wJ] [] pos) (wI X.K ta):=by
 intro pins s σ H Q I h
 refine wpAny_Call_Name_kw (gS I OL OM rfl ?_ (by decide) (by decide))
 refine abe ?_ (by rw[Nv];rfl) rfl
 rw[Nv]
 show wpAny _ _ (spliced ((false,eval _ X.env)::backTo pos [])) _ _ s
 refine Calls.spliced_cons ?_
 refine Call_ (gS I ON OO rfl (abe (cL (ha wJ pins s σ H _ I h) λus s1 dH=>?_) (by rw[hs,BD]) (by rw[BD];rfl)))
 obtain⟨vs,H1,I1,r1,q1⟩:=dH
 obtain⟨a,b,ks,ys,e,q1,q2,nd,q⟩:=q1
 subst e
 obtain⟨u,u',rfl,ra,rb⟩:=vals2 r1
 cases ra
 cases rb
 obtain⟨pM,v1,p1,z1⟩:=I1.list q1
 obtain⟨i6,v2,p2,z2⟩:=I1.list q2
 refine call_zip_2 p1.isList p2.isList λh' b1 b2 b3 b4 b5 b6 kp=>?_
 refine Calls.spliced_nil ?_
 have la:a<s1.heap.objs.size:=by obtain⟨o,e,_⟩:=p1.isList;exact Heap.lt_size e
 have lb:b<s1.heap.objs.size:=by obtain⟨o,e,_⟩:=p2.isList;exact Heap.lt_size e
 have Z:ZipApart (s1.heap.objs.size+4) (s1.heap.objs.size+2) (s1.heap.objs.size+3) s1.heap.objs.size (s1.heap.objs.size+1) a b:=by constructor <;>(first | exact aam (by omega) | exact aaK (by omega) | exact aam la | exact aam lb | exact aam (aat la (aa6 _ _)) | exact aam (aat lb (aa6 _ _)))
 have e1:=v1.length
 have e2:=v2.length
 rw[aad] at e1 z1
 have fr:=I1.bN.fresh (a:=h'.objs.size) (by rw[b6];exact aa6 _ _)
 have hn:min ks.length ys.length=min pM.toArray.size i6.toArray.size:=by simp [e1,e2]
 have up:∀{c:Addr} {xs:Array Value},s1.heap.IsList c xs->h'.IsList c xs:=λq=>q.at λo e=>kp _ o e
 refine PySem.Dzp.call_dict (knd:=cC X.prog X.w) (s:={s1 with heap:=h'}) (I1.ok.hd hc) Z (min ks.length ys.length) hn (λi=>pM.getD i .none) (λi=>i6.getD i .none) (λi=>ks.getD i (.inl 0)) (λi hi=>?_) (λi hi=>?_) (λi hi=>?_) (aar (Nat.min_le_left _ _) z1) b1 b2 b3 b4 b5 (up p1.isList) (up p2.isList) λh2 tk hS hk=>?_
 ·have h:i<pM.length:=by omega
  simp [List.getD,h]
 ·have h:i<i6.length:=by omega
  simp [List.getD,h]
 ·have hk:i<ks.length:=by omega
  obtain⟨u,a,b⟩:=v1.get (i:=i) (x:=kV ks[i]) (by simp [hk])
  show(cC X.prog X.w).is (ks.getD i (.inl 0)) (pM.getD i .none)=true
  rw[aaO,aaO,a,aax hk]
  exact pj b
 ·have e:((List.range (min ks.length ys.length)).map λj=>(ks.getD j (.inl 0),i6.getD j .none))=ks.zip i6:=by
   refine List.ext_getElem (by simp [e2]) λi h1 h2=>?_
   have h1:i<min ks.length ys.length:=by simpa using h1
   have hk:i<ks.length:=by omega
   have hi:i<i6.length:=by omega
   simp [List.getD,hk,hi]
  rw[e] at hS
  have Nw:((ks.zip i6).map (·.1)).Nodup:=by
   rw[show(ks.zip i6).map (·.1)=ks.take (ks.zip i6).length by
    refine List.ext_getElem (by simp) λi h1 h2=>?_
    simp]
   exact nd.sublist (List.take_sublist _ _)
  rw[merged_nil_of_nodup _ Nw] at hS
  refine⟨.ref h'.objs.size,_,I1.laid (t':=tk) (λc o eb=>hk c o (λhm=>?_) (kp c o eb)) (by rw[b6];exact aa6 _ _) (o:=.dK (ks.zip ys)) (Cd (by rw[List.length_zip];exact aar (Nat.min_le_left _ _) z1) (beq_eq_false_iff_ne.mpr (Ne.symm (aam (by rw[b6];exact aat I1.M9 (aa6 _ _))))) (CY v2) hS),rfl,q _ fr⟩
  have:=Heap.lt_size eb
  simp only[aaB,aaW,or_false] at hm
  rcases hm with rfl | rfl | rfl | rfl
  ·exact Nat.not_lt.mpr (aa6 _ _) this
  ·exact Nat.not_lt.mpr (aa6 _ _) this
  ·exact aaA _ this
  ·exact Nat.not_lt.mpr (aa6 _ _) this
theorem qR {a b:Expr} {ta:TA} {p pz pos wJ:Pos} (hc:X.calm=true) (OM:X.mg "dict"=none) (OO:X.mg "zip"=none) (OL:Gl X "dict") (ON:Gl X "zip") (ha:PA X [a,b] ta) (n1:noStar a=true:=by rfl) (n2:noStar b=true:=by rfl) (Nv:starEach [Expr.Call (.Name "zip" pz) [a,b] [] wJ] X.env=[(false,eval (.Call (.Name "zip" pz) [a,b] [] wJ) X.env)]:=by rfl) (hK:X.K=K:=by rfl):
  PE X (.Call (.Name "dict" p) [.Call (.Name "zip" pz) [a,b] [] wJ] [] pos) (wI K ta):=by subst hK;exact Fl hc OL OM ON OO ha (by rw[se n1,se n2];rfl) (by rw[se n2];rfl) Nv
end
end L2
namespace L2
open PySem PySem.Spec PyProof.Rows PySem.W
section
variable {X : Cx} {pins : List (Addr × Obj)} {σ : St} {H H' : Hp} {s s' : Shared}
theorem Fm {ad:Addr} {cls:Value} {cx cy:Str} {np EV uQ CZ:Pos} {b₀ b₁:Stmt} {tW qS:List Stmt} {ts Fn:TS} {C1 C2:Addr} {D:Ends} (I:Inv X pins σ H s) (F:ES X.prog X.w X.stack H s H' ad cls s')
  (hst:X.stack=X.env::X.outer) (hf:X.env.frame=some X.env.locals) (hg:Gl X cx) (hm:X.mg cx=some (.ref C1)) (Yy:Gl X cy) (sh:X.mg cy=some (.ref C2)) (hs:tG (X.mark ad) (b₀::tW) ts) (BD:tG (X.mark ad) (b₁::qS) Fn)
  (h:(exmOne X.K cls (.ref C1)=some true/\ts D σ (upd H' ad (Jx ad cls)))\/(exmOne X.K cls (.ref C1)=some false/\exmOne X.K cls (.ref C2)=some true/\Fn D σ (upd H' ad (Jx ad cls)))) (qr:(cx==("__debug__":Str))=false:=by decide) (OP:(cy==("__debug__":Str))=false:=by decide):
  wpAny (model X.prog X.w) X.A (noteFrame (.ref ad) X.env) (λ_ s₂=>wpAny (model X.prog X.w) X.A (setFlight (.ref ad) none)
   (λ_ s₃=>wpAny (model X.prog X.w) X.A (handleBy (.ref ad) X.env [.ExceptHandler (some (.Name cx np)) none (b₀::tW) EV,.ExceptHandler (some (.Name cy uQ)) none (b₁::qS) CZ]) (SP X pins D) X.xe s₃) X.xe s₂) X.xe s':=by
 obtain⟨B,a0,fl,c0,c2,c1⟩:=F.fl
 have VZ:=fl
 rw[hst] at VZ
 refine wpAny_looks_onW (I.ok.frames.trans (by rw[hst])) hf VZ λh4 KZ Yz=>?_
 refine wpAny_landsW KZ λh5 OQ Nq=>?_
 have U5:s'.heap.UpToSlots h5:=Yz.trans Nq
 have I5:Inv X pins σ H' {s' with heap:=h5}:=F.inv I fl c0 c2 c1 OQ.1 U5
 obtain⟨ob,YA,OR⟩:=OQ.there
 have LT:Looks (model X.prog X.w) h5 (typeOf (.ref ad)) cls:=by
  subst OR
  exact(Looks.ld YA).andThen .now
 have run:∀{b:Stmt} {su:List Stmt} {tb:TS} {hp:Pos},tG (X.mark ad) (b::su) tb->tb D σ (upd H' ad (Jx ad cls))->codeAny (model X.prog X.w) (X.A.mark (some (.ref ad))) (.handlers (.ref ad) [.ExceptHandler none none (b::su) hp] X.env) (λr s₂=>match r with
     | .ok f=>SP X pins D f s₂
     | .error x=>cameBackBy (model X.prog X.w) X.A X.env X.xe x s₂) {s' with heap:=h5}:=λhs h=>by
  refine codeAny_handlers_suite ?_
  refine lands_againW OQ λh6 V0 YB=>?_
  have I6:Inv X pins σ H' {s' with heap:=h6}:=F.inv I fl c0 c2 c1 V0.1 (U5.trans YB)
  obtain⟨oe,vs,he,YC,YD,_⟩:=V0.first
  have I7:Inv X pins σ (upd H' ad (Jx ad cls)) {s' with heap:=h6}:=I6.adopt I F.new F.tracked ⟨oe,he⟩ ⟨oe,vs,he,YC,YD⟩ λh1 h2 ⟨o,ws,e1,e2,e3⟩ k=>⟨o,ws,k o e1,e2,e3⟩
  refine wpAny_mono (hs pins _ _ _ _ (I7.mark ad) h) (λfw s8 hq=>?_) λ_ _ z=>z.elim
  cases fw with
  | next=>
   obtain⟨σ8,H8,I9,q8⟩:=hq
   exact⟨σ8,H8,I9.unmark I.ok,q8⟩
  | brk=>
   obtain⟨σ8,H8,I9,q8⟩:=hq
   exact⟨σ8,H8,I9.unmark I.ok,q8⟩
  | cont=>
   obtain⟨σ8,H8,I9,q8⟩:=hq
   exact⟨σ8,H8,I9.unmark I.ok,q8⟩
  | ret u=>
   obtain⟨v8,σ8,H8,I9,r8,q8⟩:=hq
   exact⟨v8,σ8,H8,I9.unmark I.ok,r8,q8⟩
 refine wpAny_handleBy_cons (codeAny_handlers_test (gI (X:=X.mark ad) (I5.mark ad) hg hm ?_ qr)) (by intro q;cases q)
 rcases h with ⟨hx,h⟩ | ⟨hx,hy,h⟩
 ·refine(exm_one I5.lC LT hx).here ?_
  exact run hs h
 ·refine(exm_one I5.lC LT hx).here ?_
  refine wpAny_handleBy_cons (codeAny_handlers_test (gI (X:=X.mark ad) (I5.mark ad) Yy sh ?_ OP)) (by intro q;cases q)
  refine(exm_one I5.lC LT hy).here ?_
  exact run BD h
end
section
variable {X : Cx} {k : Nat} {x : Str} {ps : List Str} {sp : Sp} {e : Expr} {es : List Expr} {t : TA} {p pos : Pos}
variable {cx cy : Str} {np EV uQ CZ Kq sx : Pos} {b₀ b₁ : Stmt} {tW qS : List Stmt} {ts Fn : TS} {C1 C2 : Addr}
noncomputable def GK (K:PySem.W.Frag) (C1 C2:Addr) (ts Fn:TS) (D:Ends) (σ:St):XK:=λcls _ H2=>(exmOne K cls (.ref C1)=some true/\∀ad,H2 ad=none->ts D σ (upd H2 ad (Jx ad cls)))\/(exmOne K cls (.ref C1)=some false/\exmOne K cls (.ref C2)=some true/\∀ad,H2 ad=none->Fn D σ (upd H2 ad (Jx ad cls)))
noncomputable def C0 (K:PySem.W.Frag) (sp:Sp) (t:TA) (C1 C2:Addr) (ts Fn:TS):TS:=λD σ H=>t σ H λvs H1=>sp vs H1 (λv H2=>D.rt v H2) (GK K C1 C2 ts Fn D σ)
theorem C3 (C:c6 X.prog X.w X.K X.mg X.base (bG X.prog X.w) k x ps sp) (hr:dM k X.A) (hg:Gl X x) (ha:PA X.Ju (e::es) t) (hst:X.stack=X.env::X.outer) (hf:X.env.frame=some X.env.locals)
  (YE:Gl X cx) (hm:X.mg cx=some (.ref C1)) (OS:Gl X cy) (sh:X.mg cy=some (.ref C2)) (hs:∀ad,tG (X.mark ad) (b₀::tW) ts) (BD:∀ad,tG (X.mark ad) (b₁::qS) Fn)
  (qr:(x==("__debug__":Str))=false:=by decide) (YF:(cx==("__debug__":Str))=false:=by decide) (OT:(cy==("__debug__":Str))=false:=by decide)
  (he:starEach (e::es) X.env=(false,eval e X.env)::starEach es X.env:=by rfl) (hpl:(backTo pos (starEach es X.env)).any (·.1)=false:=by rfl):
  PS X (.Try [.Return (some (.Call (.Name x p) (e::es) [] pos)) Kq] [.ExceptHandler (some (.Name cx np)) none (b₀::tW) EV,.ExceptHandler (some (.Name cy uQ)) none (b₁::qS) CZ] [] [] sx) (C0 X.K sp t C1 C2 ts Fn):=by
 intro pins s σ H D I h
 refine wpAny_Try_except (wpAny_execs_cons (wpAny_Return_some (cL (EU C hr hg ha I h (λH1 s1 e1 s' I1 ⟨ad,cls,H',ee,F,q⟩=>?_) qr he hpl) λv s1 ⟨y,H1,I1,r1,q1⟩=>?_)))
 ·subst ee
  refine Fm I1 F hst hf YE hm OS sh (hs ad) (BD ad) ?_ YF OT
  rcases q with ⟨hx,q⟩ | ⟨hx,hy,q⟩
  ·exact .inl ⟨hx,q ad F.tracked⟩
  ·exact .inr ⟨hx,hy,q ad F.tracked⟩
 ·exact⟨y,σ,H1,I1,r1,q1⟩
end
end L2
namespace K60
open PySem PySem.Spec PyProof.Rows L2
set_option maxHeartbeats 4000000
local macro_rules | `(tactic| simp! only [$ls,*]) => `(tactic| simp only [↓exV, ↓exI, ↓exB, ↓exR, ↓exS, ↓exII, ↓exRI, ↓exRa, ↓exRb, L2.start, Pr, tRev, tSortR, tD1, tDPop1, tSl, tNoPart, tPart, rSlL, tDIn, tDNotIn, gSub, rSetL, tLst, tDNewK, tComp, L2.stC, tFor_eq, iList, iTup, iRng1, iRng2, iZip, iEnum, iDict, iStr, tChain, tSumV, tBM, rJoin, tJoined, jNil, jLit, jInt, jStr, tRaise, tDGet, tDGet2, tDGet1, sDPut, Option.join_some, List.getElem?_nil,  tSeq, tRet, tRetN, tIfS, tTest, tB, tOp, tUn, tVar, tC, tCB, tCons, tNil, tCall, tTupS, tAsg, gName, gNil, gCons, tPar, tNext, tDrop, tAnd, tOr, tNot, tAndV, tOrV, tNotV, tIf, rI, rI0, rU, rIxTH, rIxLH, rEqT, rNeT, rInT, rEq, rNe, scal, CPow, at0, at1, at2, List.map_cons, List.map_nil, List.length_cons, List.length_nil, Nat.reduceSub, Nat.reduceAdd, Nat.zero_add, List.replicate_zero, List.reduceReplicate, List.append_nil, List.nil_append, List.cons_append, List.getElem?_cons_zero, List.getElem?_cons_succ, List.set_cons_zero, List.set_cons_succ, Option.some.injEq, exists_eq_left', exists_eq_left, V.ref.injEq, V.int.injEq, V.bl.injEq, V.str.injEq, V.ty.injEq, HO.tup.injEq, HO.lst.injEq, List.cons.injEq, and_true, true_and, and_assoc, exists_and_left, decide_eq_true_eq, Bool.not_eq_true', decide_eq_false_iff_not, ite_true, ite_false, if_true, if_false, Int.reduceToNat, eq_self_iff_true, $ls,*])
local macro_rules | `(tactic| simp_all only [$ls,*]) => `(tactic| (first | ((dsimp (config := { zetaDelta := true }) only [L2.start, Pr, tRev, tSortR, tD1, tDPop1, tSl, tNoPart, tPart, rSlL, tDIn, tDNotIn, gSub, rSetL, tLst, tDNewK, tComp, L2.stC, tFor_eq, iList, iTup, iRng1, iRng2, iZip, iEnum, iDict, iStr, tChain, tSumV, tBM, rJoin, tJoined, jNil, jLit, jInt, jStr, tRaise, tDGet, tDGet2, tDGet1, sDPut, tSeq, tRet, tRetN, tIfS, tTest, tB, tOp, tUn, tVar, tC, tCB, tCons, tNil, tCall, tTupS, tAsg, gName, gNil, gCons, tPar, tNext, tDrop, tAnd, tOr, tNot, tAndV, tOrV, tNotV, tIf, rI, rI0, rU, rIxTH, rIxLH, rEqT, rNeT, rInT, rEq, rNe, scal, CPow, List.getElem?_cons_zero, List.getElem?_cons_succ, List.set_cons_zero, List.set_cons_succ]); try simp! only [$ls,*]) | simp! only [$ls,*]))
seal L2.PE L2.PT L2.PW L2.PA L2.PS L2.tG L2.PG L2.Jv L2.PI L2.EY L2.PO L2.my L2.M3 L2.dz L2.Gv L2.Kc L2.Ob L2.Kd
theorem aK {P:Program} {w:World}:uF (bG P w):=zE P w
set_option genInjectivity false in
set_option genSizeOf false in
structure Txt (K:PySem.W.Frag) (mg:Str->Option Value) (aH aI aE aO af av:Addr):Prop where
 z_abs:mg "abs"=none
 z_dict:mg "dict"=none
 z_enumerate:mg "enumerate"=none
 z_int:mg "int"=none
 z_isinstance:mg "isinstance"=none
 z_len:mg "len"=none
 z_list:mg "list"=none
 z_max:mg "max"=none
 z_min:mg "min"=none
 z_range:mg "range"=none
 z_sorted:mg "sorted"=none
 z_str:mg "str"=none
 z_sum:mg "sum"=none
 z_tuple:mg "tuple"=none
 z_zip:mg "zip"=none
 oh:Dn K mg "common_divisor" (top 7)
 Fo:Dn K mg "share" (top 8)
 pO:Dn K mg "common_bottom" (top 9)
 lJ:Dn K mg "table_by_weights" (top 11)
 ym:Dn K mg "table_of" (top 12)
 wK:Dn K mg "bottom_of" (top 13)
 Bd:Dn K mg "weighed" (top 14)
 Fp:Dn K mg "power" (top 18)
 uR:Dn K mg "most_faces" (top 19)
 sO:Dn K mg "part_bottom" (top 20)
 uS:Dn K mg "part_count" (top 21)
 uT:Dn K mg "check_size" (top 22)
 uU:Dn K mg "dice_faces" (top 23)
 sP:Dn K mg "again_faces" (top 24)
 sQ:Dn K mg "burst_faces" (top 25)
 uV:Dn K mg "part_faces" (top 26)
 yn:Dn K mg "value_of" (top 27)
 pP:Dn K mg "sides_product" (top 28)
 sR:Dn K mg "part_throws" (top 29)
 lK:Dn K mg "throws_by_bottom" (top 30)
 uW:Dn K mg "pool_table" (top 31)
 yo:Dn K mg "own_rows" (top 34)
 yp:Dn K mg "own_what" (top 35)
 uX:Dn K mg "throw_ways" (top 38)
 wL:Dn K mg "pick_ways" (top 39)
 yq:Dn K mg "taken_up" (top 40)
 C4:Dn K mg "spread" (top 41)
 Be:Dn K mg "_law_at" (top 43)
 uY:Dn K mg "_law_deeds" (top 44)
 wM:Dn K mg "_law_what" (top 45)
 wO:Dn K mg "_law_game" (top 46)
 uZ:Dn K mg "_law_words" (top 47)
 lL:Dn K mg "_law_deeds_named" (top 48)
 mO:Dn K mg "_law_what_named" (top 49)
 u0:Dn K mg "_law_order" (top 50)
 wQ:Dn K mg "_law_told" (top 51)
 c_MOST_THROWS:∃t,mg "MOST_THROWS"=some (.int 1296 t)
 c_MOST_BOTTOM:∃t,mg "MOST_BOTTOM"=some (.int 1000000 t)
 c_MOST_STATES:∃t,mg "MOST_STATES"=some (.int 120 t)
 k_NoShare:mg "NoShare"=some (.ref aH)
 k_NoTable:mg "NoTable"=some (.ref aI)
 k_TooMany:mg "TooMany"=some (.ref aE)
 k_NoWay:mg "NoWay"=some (.ref aO)
 k_Course:mg "Course"=some (.ref af)
 k_Finder:mg "Finder"=some (.ref av)
 x_NoShare:PySem.W.excIn K aH uH mF=true
 x_NoTable:PySem.W.excIn K aI uH mF=true
 x_TooMany:PySem.W.excIn K aE uH mF=true
 x_NoWay:PySem.W.excIn K aO uH mF=true
 e_NoWay_NoWay:PySem.W.exmOne K (.ref aO) (.ref aO)=some true
 e_TooMany_TooMany:PySem.W.exmOne K (.ref aE) (.ref aE)=some true
 f_TooMany_NoWay:PySem.W.exmOne K (.ref aE) (.ref aO)=some false
 aM:zr K af
 bT:zr K av
 na_Course_first:PySem.W.findIn K (.ref af) "first"=some none
 na_Course_mosts:PySem.W.findIn K (.ref af) "mosts"=some none
 na_Course_spots:PySem.W.findIn K (.ref af) "spots"=some none
 na_Course_tables:PySem.W.findIn K (.ref af) "tables"=some none
 na_Course_whats:PySem.W.findIn K (.ref af) "whats"=some none
 na_Finder_numbers:PySem.W.findIn K (.ref av) "numbers"=some none
 na_Finder_states:PySem.W.findIn K (.ref av) "states"=some none
 Bf:Nr K mg "Course" "Course.__init__" (inClass (top 36) 0) af
 Bg:Nr K mg "Finder" "Finder.__init__" (inClass (top 37) 0) av
 pQ:yj K af "asked" "Course.asked" (inClass (top 36) 3)
 oi:yj K af "by_row" "Course.by_row" (inClass (top 36) 6)
 lM:yj K af "by_value" "Course.by_value" (inClass (top 36) 7)
 u9:yj K af "do" "Course.do" (inClass (top 36) 2)
 jY:yj K af "end_worth" "Course.end_worth" (inClass (top 36) 12)
 pR:yj K af "holds" "Course.holds" (inClass (top 36) 9)
 jZ:yj K af "open_rows" "Course.open_rows" (inClass (top 36) 10)
 sS:yj K af "put" "Course.put" (inClass (top 36) 1)
 pS:yj K af "start" "Course.start" (inClass (top 36) 4)
 lN:yj K af "table_at" "Course.table_at" (inClass (top 36) 8)
 mP:yj K af "what_at" "Course.what_at" (inClass (top 36) 5)
 lO:yj K af "words_at" "Course.words_at" (inClass (top 36) 11)
 j0:yj K av "number_of" "Finder.number_of" (inClass (top 37) 1)
theorem OU {C:List Value->Prop} (k:C []):∀us:List Value,us.length=0->C us:=λus h=>by
 cases us with
 | nil=>exact k
 | cons a us=>cases h
theorem C5 {C:List Value->Prop} {n:Nat} (k:∀a (us:List Value),us.length=n->C (a::us)):∀us:List Value,us.length=n+1->C us:=λus h=>by
 cases us with
 | nil=>cases h
 | cons a us=>exact k a us (Nat.succ.inj h)
theorem ij {C:List Value->Prop} (k:∀a,C [a]):∀us:List Value,us.length=1->C us:=C5 λa=>OU (C:=λus=>C (a::us)) (k a)
theorem gX {C:List Value->Prop} (k:∀a b,C [a,b]):∀us:List Value,us.length=2->C us:=C5 λa=>ij (C:=λus=>C (a::us)) (k a)
theorem yr {C:List Value->Prop} (k:∀a b c,C [a,b,c]):∀us:List Value,us.length=3->C us:=C5 λa=>gX (C:=λus=>C (a::us)) (k a)
theorem Bh {C:List Value->Prop} (k:∀a b c d,C [a,b,c,d]):∀us:List Value,us.length=4->C us:=C5 λa=>yr (C:=λus=>C (a::us)) (k a)
theorem OV {C:List Value->Prop} (k:∀a b c d e,C [a,b,c,d,e]):∀us:List Value,us.length=5->C us:=C5 λa=>Bh (C:=λus=>C (a::us)) (k a)
noncomputable def Al {α:Type} (R:α->V->Prop):List α->List V->Prop
 | [],[]=>True
 | a::as,v::vs=>R a v/\Al R as vs
 | _,_=>False
theorem Al.length {α:Type} {R:α->V->Prop}:∀{as:List α} {vs:List V},Al R as vs->vs.length=as.length
 | [],[],_=>rfl
 | a::as,v::vs,h=>by simp [Al.length h.2]
theorem Al.imp {α:Type} {R S:α->V->Prop} (f:∀a v,R a v->S a v):∀{as:List α} {vs:List V},Al R as vs->Al S as vs
 | [],[],_=>trivial
 | a::as,v::vs,h=>⟨f _ _ h.1,Al.imp f h.2⟩
theorem Al.append {α:Type} {R:α->V->Prop}:∀{as bs:List α} {us vs:List V},Al R as us->Al R bs vs->Al R (as++bs) (us++vs)
 | [],_,[],_,_,k=>k
 | a::as,_,v::vs,_,h,k=>⟨h.1,Al.append h.2 k⟩
theorem Al.one {α:Type} {R:α->V->Prop} {a:α} {v:V} (h:R a v):Al R [a] [v]:=⟨h,trivial⟩
theorem Al.Bi {α:Type} {H:Hp} {f:α->Dat}:∀{as:List α} {vs:List V},Al (λa v=>Rep H (f a) v) as vs->aZ H (as.map f) vs
 | [],[],_=>by simp [aZ]
 | a::as,v::vs,h=>by
  rw[aag,aZ]
  exact⟨v,vs,rfl,h.1,Al.Bi h.2⟩
theorem C6 {α:Type} {H:Hp} {f:α->Dat} {as:List α} {vs:List V} {i:Nat} {v:V} (h:aZ H (as.map f) vs) (e:vs[i]?=some v):∃a,as[i]?=some a/\Rep H (f a) v:=by
 obtain⟨d,ed,rd⟩:=h.get e
 rw[aae] at ed
 obtain⟨a,ea,rfl⟩:=Option.map_eq_some_iff.mp ed
 exact⟨a,ea,rd⟩
theorem Al.get {α:Type} {R:α->V->Prop}:∀{as:List α} {vs:List V} {i:Nat} {v:V},Al R as vs->vs[i]?=some v->∃a,as[i]?=some a/\R a v:=by
 intro as
 induction as with
 | nil=>
  intro vs i v h e
  cases vs with
  | nil=>simp at e
  | cons u vs=>exact h.elim
 | cons a as ih=>
  intro vs i v h e
  cases vs with
  | nil=>exact h.elim
  | cons u vs=>
   cases i with
   | zero=>cases e;exact⟨a,rfl,h.1⟩
   | succ i=>exact ih (vs:=vs) (i:=i) h.2 e
theorem Al.at {α:Type} {R:α->V->Prop}:∀{as:List α} {vs:List V} {i:Nat} {a:α},Al R as vs->as[i]?=some a->∃v,vs[i]?=some v/\R a v:=by
 intro as
 induction as with
 | nil=>
  intro vs i v h e
  simp at e
 | cons a as ih=>
  intro vs i v h e
  cases vs with
  | nil=>exact h.elim
  | cons u vs=>
   cases i with
   | zero=>cases e;exact⟨u,rfl,h.1⟩
   | succ i=>exact ih (vs:=vs) (i:=i) h.2 e
theorem Al.of {α:Type} {R:α->V->Prop}:∀{as:List α} {vs:List V},vs.length=as.length->(∀(i:Nat) v a,vs[i]?=some v->as[i]?=some a->R a v)->Al R as vs
 | [],[],_,_=>trivial
 | [],_::_,l,_=>by simp at l
 | _::_,[],l,_=>by simp at l
 | a::as,u::vs,l,h=>⟨h 0 u a rfl rfl,Al.of (by simpa using l) λi v b e1 e2=>h (i+1) v b (by simpa using e1) (by simpa using e2)⟩
noncomputable def C7:Sp:=λvs H Q _=>∃a b,vs=[.int a,.int b]/\Q (.int (Nm.g a b)) H
noncomputable def Ih (qn:Addr):Sp:=λvs H Q E=>∃a b,vs=[.int a,.int b]/\Bt 5000 b/\(b=0->E (.ref qn) none H)/\(b≠0->∀p H',aA H H'->H p=none->H' p=some (.tup (Pr (Nm.st a b) (Nm.sb a b)))->Q (.ref p) H')
noncomputable def Fq:Sp:=λvs H Q _=>∃d B ws,vs=[.ref d,.int B]/\H d=some (.dK (enc ws))/\(Nm.keys ws).Nodup/\ws.length<64/\B≠0/\Bt 5000 B/\∀p H',aA H H'->H p=none->Rep H' (kI (Nm.rowsOf ws B)) (.ref p)->Q (.ref p) H'
noncomputable def Ii (qt:Addr):Sp:=λvs H Q E=>∃v ps,vs=[v]/\Rep H (ji ps) v/\ps.length<=1296/\(∀p∈ps,p.2<=10^12)/\(Nm.lI ps).length<64/\
 (Nm.bad ps->∀H',aA H H'->E (.ref qt) none H')/\
 (¬Nm.bad ps->∀p H',aA H H'->H p=none->Rep H' (kI (Nm.rowsOf (Nm.lI ps) (Nm.qE (Nm.lI ps)))) (.ref p)->Q (.ref p) H')
noncomputable def D6 (s:Nat):Nat->List (List Int)
 | 0=>[[]]
 | d+1=>(D6 s d).flatMap λf=>(List.range s).map λi:Nat=>f++ [((i:Nat):Int)+1]
theorem mQ (s:Nat):∀d,(D6 s d).length=s^d
 | 0=>rfl
 | d+1=>by
  have h:∀l:List (List Int),(l.flatMap λf=>(List.range s).map λi:Nat=>f++ [((i:Nat):Int)+1]).length=l.length*s:=by
   intro l
   induction l with
   | nil=>simp
   | cons a r ih=>rw[List.flatMap_cons,aah,ih,aad,List.length_range,aap,Nat.succ_mul,Nat.add_comm]
  rw[D6,h,mQ s d,Nat.pow_succ]
theorem qe (s:Nat):∀d,∀f∈D6 s d,f.length=d/\∀x∈f,1<=x/\x<=(s:Int)
 | 0,f,h=>by
  rw[List.mem_singleton.mp h]
  exact⟨rfl,by simp⟩
 | d+1,f,h=>by
  obtain⟨g,hg,hf⟩:=List.mem_flatMap.mp h
  obtain⟨i,hi,rfl⟩:=List.mem_map.mp hf
  obtain⟨l,k⟩:=qe s d g hg
  have:=List.mem_range.mp hi
  refine⟨by rw[aah,l];rfl,λx hx=>?_⟩
  rcases List.mem_append.mp hx with h | h
  ·exact k x h
  ·rw[List.mem_singleton.mp h];omega
noncomputable def Lt (f g:List Int):Prop:=GF f g=false
noncomputable def JH (s a:Nat):List (List Int):=(List.range (s - 1)).map λi:Nat=>List.replicate a (s:Int)++ [((i:Nat):Int)+1]
noncomputable def JI (s:Nat) (most:Nat):List (List Int):=((List.range most).flatMap λa=>JH s a)++ [List.replicate most (s:Int)]
theorem Fs {s most:Nat} (h:0<s):∀f∈JI s most,(∀x∈f,1<=x/\x<=(s:Int))/\((∃(a:Nat) (x:Int),a<most/\x<s/\f=List.replicate a (s:Int)++ [x])\/f=List.replicate most (s:Int)):=by
 intro f hf
 unfold JI at hf
 rcases List.mem_append.mp hf with hf | hf
 ·obtain⟨a,ha,hf⟩:=List.mem_flatMap.mp hf
  have ha:=List.mem_range.mp ha
  obtain⟨i,hi,rfl⟩:=List.mem_map.mp hf
  have hi:=List.mem_range.mp hi
  refine⟨λx hx=>?_,.inl ⟨a,_,ha,by omega,rfl⟩⟩
  rcases List.mem_append.mp hx with hx | hx
  ·rw[List.eq_of_mem_replicate hx];omega
  ·rw[List.mem_singleton.mp hx];omega
 ·rw[List.mem_singleton.mp hf]
  refine⟨λx hx=>?_,.inr rfl⟩
  rw[List.eq_of_mem_replicate hx];omega
inductive Pt
 | num (n:Nat)
 | gk (m s:Nat)
 | best (n m s:Nat)
 | dJ (n s:Nat)
noncomputable def oj:Pt->List V
 | .num n=>[.str (Str.ofString "number"),.int (n:Int)]
 | .gk m s=>[.str (Str.ofString "dice"),.int (m:Int),.int (s:Int)]
 | .best n m s=>[.str (Str.ofString "best"),.int (n:Int),.int (m:Int),.int (s:Int)]
 | .dJ n s=>[.str (Str.ofString "burst"),.int (n:Int),.int (s:Int)]
noncomputable def yt:Pt->Dat
 | .num n=>.tup [.str (Str.ofString "number"),.int (n:Int)]
 | .gk m s=>.tup [.str (Str.ofString "dice"),.int (m:Int),.int (s:Int)]
 | .best n m s=>.tup [.str (Str.ofString "best"),.int (n:Int),.int (m:Int),.int (s:Int)]
 | .dJ n s=>.tup [.str (Str.ofString "burst"),.int (n:Int),.int (s:Int)]
noncomputable def lst:Pt->Nat
 | .num n=>n
 | .gk _ s=>s
 | .best _ _ s=>s
 | .dJ _ s=>s
noncomputable def sd:Pt->Nat
 | .num _=>1
 | p=>lst p
noncomputable def D7:Pt->Nat
 | .num _=>0
 | .gk m _=>m
 | .best _ m _=>m
 | .dJ n _=>n+1
noncomputable def bot (p:Pt):Nat:=sd p^D7 p
noncomputable def cnt:Pt->Nat
 | .num _=>1
 | .dJ n s=>(n+1)* (s - 1)+1
 | p=>bot p
noncomputable def Ft:Pt->List (List Int)
 | .num _=>[[]]
 | .gk m s=>D6 s m
 | .best _ m s=>D6 s m
 | .dJ n s=>JI s (n+1)
noncomputable def val:Pt->List Int->Int
 | .num n,_=>n
 | .best n _ _,f=>((Nm.sH f).reverse.take n).sum
 | .gk _ _,f=>f.sum
 | .dJ _ _,f=>f.sum
noncomputable def eU:Pt->Prop
 | .num n=>n<=99
 | .gk m s=>1<=s/\s<=20/\m<=6
 | .best n m s=>1<=s/\s<=20/\m<=6/\n<=m
 | .dJ n s=>1<=s/\s<=20/\n<=6
theorem vc {p:Pt} (g:eU p):1<=sd p/\sd p<=20:=by
 cases p <;>simp only[sd,lst,eU] at *<;>omega
theorem Ij {p:Pt} (g:eU p):lst p<=99:=by
 cases p <;>simp only[lst,eU] at *<;>omega
theorem qT {p:Pt} (g:eU p):D7 p<=7:=by
 cases p <;>simp only[D7,eU] at *<;>(try split) <;>omega
theorem Bj {s e:Nat} (hs:s<=20) (he:e<=10):s^e<=10240000000000:=
 aar (Nat.pow_le_pow_left hs e) (aar (Nat.pow_le_pow_right (by decide) he) (by decide))
theorem Fu (s:Nat) (most:Nat):(JI s most).length=most* (s - 1)+1:=by
 unfold JI
 rw[aah]
 have:∀l:List Nat,(l.flatMap λa=>JH s a).length=l.length* (s - 1):=by
  intro l
  induction l with
  | nil=>simp
  | cons a r ih=>rw[List.flatMap_cons,aah,ih,aap,Nat.succ_mul];unfold JH;rw[aad,List.length_range];omega
 rw[this,List.length_range]
 rfl
theorem mR (p:Pt):(Ft p).length=cnt p:=by
 cases p with
 | num n=>rfl
 | gk m s=>exact mQ s m
 | best n m s=>exact mQ s m
 | dJ n s=>exact Fu s _
theorem mS {p:Pt} (g:eU p):∀f∈Ft p,(∀x∈f,1<=x/\x<=(lst p:Int))/\f.length<=D7 p:=by
 intro f hf
 cases p with
 | num n=>rw[List.mem_singleton.mp hf];simp
 | gk m s=>obtain⟨a,b⟩:=qe s m f hf;exact⟨b,Nat.le_of_eq a⟩
 | best n m s=>obtain⟨a,b⟩:=qe s m f hf;exact⟨b,Nat.le_of_eq a⟩
 | dJ n s=>
  obtain⟨a,b⟩:=Fs g.1 f hf
  refine⟨a,?_⟩
  show f.length<=n+1
  rcases b with ⟨k,x,hk,h,rfl⟩ | rfl
  ·simp;omega
  ·simp
theorem Fv {p:Pt} (g:eU p) {f:List Int} (hf:f∈Ft p):1<=sd p^f.length/\sd p^f.length<=bot p:=
 ⟨Nat.pow_pos (vc g).1,Nat.pow_le_pow_right (vc g).1 (mS g f hf).2⟩
abbrev Row:=List Int×Int×Nat
noncomputable def D8 (p:Pt):List Row:=(Ft p).map λf=>(f,val p f,sd p^f.length)
noncomputable def GL (rs:List Row) (p:Pt):List Row:=rs.flatMap λr=>(D8 p).map λq=>(r.1++q.1,r.2.1+q.2.1,r.2.2*q.2.2)
noncomputable def fx (ps:List Pt):List Row:=ps.foldl GL [([],0,1)]
theorem qU (ps:List Pt) (p:Pt):fx (ps++ [p])=GL (fx ps) p:=by unfold fx;rw[aa3];rfl
noncomputable def lP:List Nat->Nat
 | []=>1
 | a::r=>a*lP r
theorem ik (l:List Nat) (a:Nat):lP (l++ [a])=lP l*a:=by
 induction l with
 | nil=>simp [lP]
 | cons b r ih=>simp only[List.cons_append,lP,ih,Nat.mul_assoc]
theorem zS {l:List Nat} (h:∀a∈l,1<=a):1<=lP l:=by
 induction l with
 | nil=>simp [lP]
 | cons b r ih=>
  have h1:=h b (by simp)
  have h2:=ih λa ha=>h a (aal _ ha)
  exact Nat.mul_le_mul h1 h2
theorem wR {l:List Nat} (h:∀a∈l,1<=a):∀i,lP (l.take i)<=lP l:=by
 induction l with
 | nil=>intro i;simp
 | cons b r ih=>
  intro i
  have h1:=h b (by simp)
  have h0:∀a∈r,1<=a:=λa ha=>h a (aal _ ha)
  cases i with
  | zero=>exact Nat.mul_le_mul h1 (zS h0)
  | succ i=>exact Nat.mul_le_mul (aaf _) (ih h0 i)
theorem Fw (rs:List Row) (p:Pt):(GL rs p).length=rs.length*cnt p:=by
 unfold GL
 induction rs with
 | nil=>simp
 | cons r t ih=>
  rw[List.flatMap_cons,aah,ih,aad,aap,Nat.succ_mul]
  unfold D8
  rw[aad,mR]
  omega
theorem take_snoc {α:Type} {l:List α} {i:Nat} (h:i<l.length):l.take (i+1)=l.take i++ [l[i]]:=by
 rw[aaC,aax h]
 rfl
theorem qg (ps:List Pt):(fx ps).length=lP (ps.map cnt):=by
 have:∀i,i<=ps.length->(fx (ps.take i)).length=lP ((ps.take i).map cnt):=by
  intro i
  induction i with
  | zero=>intro _;rfl
  | succ i ih=>
   intro h
   rw[take_snoc (by omega),qU,Fw,ih (by omega),aan,aag,aaL,ik]
 have:=this ps.length (aaf _)
 rwa [aau (aaf _)] at this
theorem qb {p:Pt} (g:eU p):1<=cnt p:=by
 cases p with
 | num n=>simp [cnt]
 | gk m s=>exact Nat.pow_pos g.1
 | best n m s=>exact Nat.pow_pos g.1
 | dJ n s=>simp [cnt]
theorem zT {p:Pt} (g:eU p):1<=bot p:=Nat.pow_pos (vc g).1
noncomputable def t9 (ps:List Pt):Prop:=(∀p∈ps,eU p)/\lP (ps.map cnt)<=1296/\lP (ps.map bot)<=1000000
theorem om {ps:List Pt} (g:t9 ps) (i:Nat):lP ((ps.take i).map cnt)<=1296:=by
 rw[List.map_take]
 exact aar (wR (λa ha=>by obtain⟨p,hp,rfl⟩:=List.mem_map.mp ha;exact qb (g.1 p hp)) i) g.2.1
theorem oq {ps:List Pt} (g:t9 ps) (i:Nat):lP ((ps.take i).map bot)<=1000000:=by
 rw[List.map_take]
 exact aar (wR (λa ha=>by obtain⟨p,hp,rfl⟩:=List.mem_map.mp ha;exact zT (g.1 p hp)) i) g.2.2
theorem zU {l:List Nat} (h:∀a∈l,1<=a):∀a∈l,a<=lP l:=by
 induction l with
 | nil=>intro a ha;cases ha
 | cons b r ih=>
  intro a ha
  have h1:=h b (by simp)
  have h0:∀a∈r,1<=a:=λa ha=>h a (aal _ ha)
  rw[lP]
  rcases List.mem_cons.mp ha with rfl | ha
  ·have:=Nat.mul_le_mul (aaf a) (zS h0)
   omega
  ·have:=Nat.mul_le_mul h1 (ih h0 a ha)
   omega
theorem ou {ps:List Pt} (g:t9 ps) {p:Pt} (hp:p∈ps):eU p/\cnt p<=1296/\bot p<=1000000:=
 ⟨g.1 p hp,aar (zU (λa ha=>by obtain⟨p,hp,rfl⟩:=List.mem_map.mp ha;exact qb (g.1 p hp)) _ (List.mem_map_of_mem hp)) g.2.1,
  aar (zU (λa ha=>by obtain⟨p,hp,rfl⟩:=List.mem_map.mp ha;exact zT (g.1 p hp)) _ (List.mem_map_of_mem hp)) g.2.2⟩
theorem zV {ps:List Pt} (g:∀p∈ps,eU p):∀i,i<=ps.length->∀r∈fx (ps.take i),r.1.length<=7*i/\1<=r.2.2/\r.2.2<=lP ((ps.take i).map bot):=by
 intro i
 induction i with
 | zero=>intro _ r hr;rw[List.mem_singleton.mp hr];simp [lP]
 | succ i ih=>
  intro h r hr
  rw[take_snoc (by omega),qU] at hr
  obtain⟨r0,h0,hr⟩:=List.mem_flatMap.mp hr
  obtain⟨q,hq,rfl⟩:=List.mem_map.mp hr
  obtain⟨f,hf,rfl⟩:=List.mem_map.mp hq
  obtain⟨a,b,c⟩:=ih (by omega) r0 h0
  have gp:=g _ (List.getElem_mem (show i<ps.length by omega))
  obtain⟨d,e⟩:=Fv gp hf
  have l:=(mS gp f hf).2
  have m:=qT gp
  rw[take_snoc (by omega),aan,aag,aaL,ik]
  refine⟨by rw[aah];show r0.1.length+f.length<=_;omega,Nat.mul_le_mul b d,Nat.mul_le_mul c e⟩
noncomputable def Fa (H:Hp) (f:List Int) (v:V):Prop:=∃q,v=.ref q/\H q=some (.lst (List.map V.int f))
theorem Fa.mono {H H':Hp} {f:List Int} {v:V} (s:aA H H'):Fa H f v->Fa H' f v:=fun⟨q,e,h⟩=>⟨q,e,s _ _ h⟩
noncomputable def TR (G H:Hp) (r:Row) (v:V):Prop:=∃a q,v=.ref a/\H a=some (.tup [.ref q,.int r.2.1,.int (r.2.2:Int)])/\H q=some (.lst (List.map V.int r.1))/\G q=none
theorem TR.mono {G H H':Hp} {r:Row} {v:V} (s:aA H H'):TR G H r v->TR G H' r v:=fun⟨a,q,e,h,k,n⟩=>⟨a,q,e,s _ _ h,s _ _ k,n⟩
noncomputable def Ik (H:Hp) (l:Addr) (ps:List Pt):Prop:=∃xs,H l=some (.lst xs)/\Al (λp v=>∃q,v=.ref q/\H q=some (.tup (oj p))) ps xs
theorem Ik.mono {H H':Hp} {l:Addr} {ps:List Pt} (s:aA H H'):Ik H l ps->Ik H' l ps:=fun⟨xs,h,a⟩=>⟨xs,s _ _ h,a.imp λ_ _ ⟨q,e,k⟩=>⟨q,e,s _ _ k⟩⟩
theorem vd {H:Hp} {p:Addr} {o:HO}:di (upd H p o) p=di H p:=by
 funext a
 unfold di
 by_cases c:a=p
 ·rw[if_pos c,if_pos c]
 ·rw[if_neg c,if_neg c,aB c]
theorem C8 (p:Pt):jV (oj p) (-1)=some (.int (lst p:Int)):=by cases p <;>rfl
noncomputable def kd:Pt->Str
 | .num _=>Str.ofString "number"
 | .gk _ _=>Str.ofString "dice"
 | .best _ _ _=>Str.ofString "best"
 | .dJ _ _=>Str.ofString "burst"
noncomputable def Il:Sp:=λvs H Q _=>∃b e:Nat,vs=[.int (b:Int),.int (e:Int)]/\(1<=b\/e=0)/\e<=10/\b^e<=1000000/\Q (.int ((b^e:Nat):Int)) H
noncomputable def yu:Sp:=λvs H Q _=>∃q p,vs=[.ref q]/\H q=some (.tup (oj p))/\Q (.int (D7 p:Int)) H
noncomputable def ve:Sp:=λvs H Q _=>∃q p,vs=[.ref q]/\H q=some (.tup (oj p))/\eU p/\bot p<=1000000/\Q (.int (bot p:Int)) H
noncomputable def Im:Sp:=λvs H Q _=>∃q p,vs=[.ref q]/\H q=some (.tup (oj p))/\eU p/\bot p<=1000000/\Q (.int (cnt p:Int)) H
noncomputable def Io:Sp:=λvs H Q _=>∃l ps,vs=[.ref l]/\Ik H l ps/\t9 ps/\Q .dG H
noncomputable def Fx:Sp:=λvs H Q _=>∃d s:Nat,vs=[.int (d:Int),.int (s:Int)]/\1<=s/\s<=20/\d<=6/\s^d<=1296/\∀l H' xs,aA H H'->H' l=some (.lst xs)->Al (Fa H') (D6 s d) xs->Q (.ref l) H'
noncomputable def Ip:Sp:=λvs H Q _=>∃n s:Nat,vs=[.int (n:Int),.int (s:Int)]/\1<=s/\s<=20/\n<=7/\∀l H' xs,aA H H'->H' l=some (.lst xs)->Al (Fa H') (JI s n) xs->Q (.ref l) H'
noncomputable def Iq:Sp:=λvs H Q _=>∃q p,vs=[.ref q]/\H q=some (.tup (oj p))/\eU p/\cnt p<=1296/\∀l H' xs,aA H H'->H' l=some (.lst xs)->Al (Fa H') (Ft p) xs->Q (.ref l) H'
noncomputable def Ir:Sp:=λvs H Q _=>∃q p l f,vs=[.ref q,.ref l]/\H q=some (.tup (oj p))/\H l=some (.lst (List.map V.int f))/\eU p/\f∈Ft p/\∀H',aA H H'->Q (.int (val p f)) H'
noncomputable def Iu:Sp:=λvs H Q _=>∃q p l f,vs=[.ref q,.ref l]/\H q=some (.tup (oj p))/\H l=some (.lst (List.map V.int f))/\eU p/\f∈Ft p/\Q (.int ((sd p^f.length:Nat):Int)) H
noncomputable def Iv:Sp:=λvs H Q _=>∃q p,vs=[.ref q]/\H q=some (.tup (oj p))/\eU p/\cnt p<=1296/\∀l H' xs,aA H H'->H' l=some (.lst xs)->Al (TR (λ_=>none) H') (D8 p) xs->Q (.ref l) H'
noncomputable def Iw:Sp:=λvs H Q _=>∃a ps,vs=[.ref a]/\Ik H a ps/\t9 ps/\ps.length<=4/\∀l H' xs,aA H H'->H' l=some (.lst xs)->Al (TR H H') (fx ps) xs->Q (.ref l) H'
noncomputable def K0:Sp:=λ_ _ _ _=>False
noncomputable def D9:List (List Pt):=[[.gk 1 4],[.gk 2 2],[.best 1 2 3],[.dJ 1 2],[.num 3]]
theorem C9 {ps:List Pt} (g:ps∈D9):t9 ps:=by
 simp only[D9,aaB,aaW,or_false] at g
 rcases g with rfl | rfl | rfl | rfl | rfl <;>exact⟨by simp [eU],by ac_rfl,by ac_rfl⟩
noncomputable def Fy (C:Nat) (rs:List Row):Nm.Ws:=rs.map λr=>(r.2.1,((C / r.2.2:Nat):Int))
noncomputable def Ea (ps:List Pt):Nm.Ws:=Fy (lP (ps.map bot)) (fx ps)
noncomputable def gY (ps:List Pt):List (Int×Int×Int):=Nm.rowsOf (Nm.lI (Ea ps)) (Nm.qE (Nm.lI (Ea ps)))
noncomputable def kJ (ps:List Pt):Prop:=ps∈D9
noncomputable def Dc (ps:List Pt):Int:=(lP (ps.map bot):Int)
noncomputable def GoodR (W:Int) (rows:List (Int×Int×Int)):Prop:=0<W/\W<=1000000/\rows.length<=1296/\∀r∈rows,0<r.2.2/\r.2.2∣W/\0<=r.2.1/\r.2.1<=W
theorem ua {ps:List Pt} (g:kJ ps):GoodR (Dc ps) (gY ps):=by
 have h:∀ps∈D9,0<Dc ps/\Dc ps<=1000000/\(gY ps).length<=1296/\∀r∈gY ps,0<r.2.2/\r.2.2∣Dc ps/\0<=r.2.1/\r.2.1<=Dc ps:=by ac_rfl
 exact h ps g
theorem zW:∀ps∈D9,(∀x∈Ea ps,0<x.2/\x.2<=10^12)/\(Ea ps).length<=1296/\(Nm.lI (Ea ps)).length<64/\Nm.pos (Ea ps)≠[]:=by ac_rfl
theorem Iy {ps:List Pt} (g:kJ ps):¬Nm.bad (Ea ps):=λb=>by
 obtain⟨h1,_,_,h4⟩:=zW ps g
 rcases b with ⟨x,hx,c⟩ | c
 ·have:=h1 x hx;omega
 ·exact h4 c
theorem Fz {p q:Pt} (h:yt p=yt q):p=q:=by
 cases p <;>cases q <;>simp only[yt,Dat.tup.injEq,List.cons.injEq,Dat.str.injEq,Dat.int.injEq,and_true,Int.natCast_inj] at h <;>first | exact absurd h.1 (by ac_rfl) | (obtain⟨_,rfl⟩:=h;rfl) | (obtain⟨_,rfl,rfl⟩:=h;rfl) | (obtain⟨_,rfl,rfl,rfl⟩:=h;rfl)
noncomputable def Iz:Sp:=λvs H Q _=>∃a ps,vs=[.ref a]/\Ik H a ps/\kJ ps/\ps.length<=4/\∀p H',aA H H'->H p=none->Rep H' (kI (gY ps)) (.ref p)->Q (.ref p) H'
inductive Dd
 | set (n:Str) (k:Int)
 | plus (n:Str) (k:Int)
 | face (n:Str)
 | move (n m:Str)
noncomputable def qV:Dd->Dat
 | .set n k=>.tup [.str (Str.ofString "set"),.str n,.int k]
 | .plus n k=>.tup [.str (Str.ofString "plus"),.str n,.int k]
 | .face n=>.tup [.str (Str.ofString "face"),.str n]
 | .move n m=>.tup [.str (Str.ofString "move"),.str n,.str m]
structure Rw where
 word:Str
 wh:Option (Str×Str×Int)
 ds:List Dd
 to:Str
noncomputable def FA:Option (Str×Str×Int)->Dat
 | none=>.dG
 | some (a,b,k)=>.tup [.str a,.str b,.int k]
abbrev R4:=Dat×Dat×List Dat×Dat
noncomputable def mn (r:R4):Dat:=.tup [r.1,r.2.1,.lst r.2.2.1,r.2.2.2]
noncomputable def zX (r:Rw):R4:=(.str r.word,FA r.wh,r.ds.map qV,.str r.to)
abbrev Tw:=Int×Int×List Dd×Str
noncomputable def BE (r:Tw):R4:=(.int r.1,.int r.2.1,r.2.2.1.map qV,.str r.2.2.2)
inductive Wt
 | ask (c:Str) (k:Int) (one other:Str)
 | fin (t b:Int)
 | score (c:Str)
 | pick (Ff:Int) (rs:List Rw)
 | fx (d9:List Dat) (t b:Int) (rs:List Tw)
noncomputable def ub:Wt->Dat
 | .ask c k a b=>.tup [.str (Str.ofString "ask"),.str c,.int k,.str a,.str b]
 | .fin t b=>.tup [.str (Str.ofString "end"),.tup [.int t,.int b]]
 | .score c=>.tup [.str (Str.ofString "score"),.str c]
 | .pick w rs=>.tup [.str (Str.ofString "pick"),.int w,.lst ((rs.map zX).map mn)]
 | .fx d9 t b rs=>.tup [.str (Str.ofString "throw"),.lst d9,.tup [.int t,.int b],.lst ((rs.map BE).map mn)]
structure Gm where
 cs:List (Str×Int)
 ps:List (Str×Wt)
noncomputable def K2 (cs:List (Str×Int)):Dat:=.lst (cs.map λc=>.tup [.str c.1,.int c.2])
noncomputable def OW (ps:List (Str×Wt)):Dat:=.lst (ps.map λp=>.tup [.str p.1,ub p.2])
noncomputable def Nx (g:Gm):Dat:=.tup [K2 g.cs,OW g.ps]
noncomputable def bV (cs:List (Str×Int)) (n:Str):Nat:=(cs.map (·.1)).idxOf n
noncomputable def most (cs:List (Str×Int)) (i:Nat):Int:=(cs.map (·.2)).getD i 0
noncomputable def i8 (cs:List (Str×Int)) (ns:List Int) (i:Nat) (k:Int):List Int:=ns.set i (min k (most cs i))
noncomputable def gZ (cs:List (Str×Int)) (v:Int) (ns:List Int):Dd->List Int
 | .set n k=>i8 cs ns (bV cs n) k
 | .plus n k=>i8 cs ns (bV cs n) (ns.getD (bV cs n) 0+k)
 | .face n=>i8 cs ns (bV cs n) (ns.getD (bV cs n) 0+v)
 | .move n m=>(i8 cs ns (bV cs m) (ns.getD (bV cs m) 0+ns.getD (bV cs n) 0)).set (bV cs n) 0
noncomputable def pB (cs:List (Str×Int)):Dd->Prop
 | .set n _=>n∈cs.map (·.1)
 | .plus n _=>n∈cs.map (·.1)
 | .face n=>n∈cs.map (·.1)
 | .move n m=>n∈cs.map (·.1)/\m∈cs.map (·.1)
theorem b8 {cs:List (Str×Int)} {n:Str} (h:n∈cs.map (·.1)):bV cs n<cs.length:=by
 have:=abd h
 rwa [aad] at this
theorem gn {cs:List (Str×Int)} {ns:List Int} {i:Nat} {k:Int}:(i8 cs ns i k).length=ns.length:=by unfold i8;rw[List.length_set]
theorem zY {cs:List (Str×Int)} {v:Int} {ns:List Int}:∀d:Dd,(gZ cs v ns d).length=ns.length
 | .set _ _=>gn
 | .plus _ _=>gn
 | .face _=>gn
 | .move _ _=>by unfold gZ;rw[List.length_set,gn]
noncomputable def look (ps:List (Str×Wt)) (n:Str):Option Wt:=(ps.find? λp=>decide (p.1=n)).map (·.2)
noncomputable def dm (g:Gm) (ns:List Int):Nat->Str->Option Str
 | 0,_=>none
 | f+1,nm=>match look g.ps nm with
  | some (.ask c k a b)=>if k<=ns.getD (bV g.cs c) 0 then dm g ns f a else dm g ns f b
  | some _=>some nm
  | none=>none
noncomputable def fJ (cs:List (Str×Int)) (ns:List Int):Option (Str×Str×Int)->Bool
 | none=>true
 | some (n,x,k)=>if n∈cs.map (·.1) then (if x=Str.ofString "from" then decide (k<=ns.getD (bV cs n) 0) else decide (ns.getD (bV cs n) 0<k)) else false
noncomputable def De (cs:List (Str×Int)):Wt->Prop
 | .ask c _ _ _=>c∈cs.map (·.1)
 | .fin _ _=>True
 | .score c=>c∈cs.map (·.1)
 | .pick _ rs=>rs.length<=100/\∀r∈rs,r.ds.length<=100/\∀d∈r.ds,pB cs d
 | .fx d9 _ _ rs=>d9.length<=100/\rs.length<=100/\∀r∈rs,r.2.2.1.length<=100/\∀d∈r.2.2.1,pB cs d
structure GoodG (g:Gm):Prop where
 nc:(g.cs.map (·.1)).Nodup
 np:(g.ps.map (·.1)).Nodup
 lc:g.cs.length<=100
 lp:g.ps.length<=100
 p0:0<g.ps.length
 wt:∀p∈g.ps,De g.cs p.2
theorem fc {ps:List (Str×Wt)} {n:Str} {x:Wt} (h:look ps n=some x):(n,x)∈ps:=by
 unfold look at h
 obtain⟨p,hp,rfl⟩:=Option.map_eq_some_iff.mp h
 have e:=List.find?_some hp
 have e:p.1=n:=by simpa using e
 subst e
 exact List.mem_of_find?_eq_some hp
noncomputable def qW:List (Str×Int)->Nat->List (Key×V)
 | [],_=>[]
 | c::cs,i=>(Sum.inr c.1,V.int (i:Int))::qW cs (i+1)
theorem zZ:∀(cs:List (Str×Int)) (i:Nat),(qW cs i).length=cs.length
 | [],_=>rfl
 | _::cs,i=>by rw[qW,aap,zZ cs,aap]
theorem wU (c:Str×Int):∀(cs:List (Str×Int)) (i:Nat),qW (cs++ [c]) i=qW cs i++ [(Sum.inr c.1,V.int ((i+cs.length:Nat):Int))]
 | [],i=>rfl
 | d::cs,i=>by
  rw[List.cons_append,qW,wU c cs (i+1),qW,aap,show i+1+cs.length=i+ (cs.length+1) by omega]
  rfl
theorem z0 {n:Str}:∀{cs:List (Str×Int)} {i:Nat},n∈cs.map (·.1)->eM (qW cs i) (Sum.inr n)=some (.int ((i+bV cs n:Nat):Int))
 | [],_,h=>by simp at h
 | c::cs,i,h=>by
  rw[qW]
  by_cases e:c.1=n
  ·rw[hX (by rw[e])]
   have:bV (c::cs) n=0:=by unfold bV;rw[aag,e,List.idxOf_cons_self]
   rw[this]
   rfl
  ·rw[fB (λz=>e (by injection z)),z0 (cs:=cs) (i:=i+1) (by simpa [Ne.symm e] using h)]
   have:bV (c::cs) n=bV cs n+1:=by unfold bV;rw[aag,List.idxOf_cons,beq_false_of_ne e];rfl
   rw[this,show i+1+bV cs n=i+ (bV cs n+1) by omega]
theorem qX {n:Str}:∀{cs:List (Str×Int)} {i:Nat},n∉cs.map (·.1)->eM (qW cs i) (Sum.inr n)=none
 | [],_,_=>rfl
 | c::cs,i,h=>by
  rw[qW,fB (λz=>h (by injection z with z;simp [z])),qX (cs:=cs) (i:=i+1) (λz=>h (by rw[aag];exact aal _ z))]
theorem qh {κ:Type} [DecidableEq κ] {kvs:List (κ×V)} {k:κ} {v:V} (h:eM kvs k=none):putK kvs k v=kvs++ [(k,v)]:=by
 unfold putK
 rw[if_neg]
 intro c
 obtain⟨x,hx,e⟩:=List.any_eq_true.mp c
 unfold eM at h
 have:kvs.find? (λkv=>decide (kv.1=k))=none:=by simpa using h
 exact absurd e (by simpa using List.find?_eq_none.mp this x hx)
noncomputable def qY (H:Hp):List (Str×Wt)->List (Key×V)->Prop
 | [],us=>us=[]
 | p::ps,us=>∃v r,us=(Sum.inr p.1,v)::r/\Rep H (ub p.2) v/\qY H ps r
theorem qY.mono {H H':Hp} (s:aA H H'):∀{ps:List (Str×Wt)} {us:List (Key×V)},qY H ps us->qY H' ps us
 | [],_,h=>h
 | _::_,_,⟨v,r,e,h1,h2⟩=>⟨v,r,e,h1.mono s,h2.mono s⟩
theorem qY.len {H:Hp}:∀{ps:List (Str×Wt)} {us:List (Key×V)},qY H ps us->us.length=ps.length
 | [],_,h=>by rw[qY] at h;subst h;rfl
 | _::_,_,⟨v,r,e,h1,h2⟩=>by rw[e,aap,h2.len,aap]
theorem qY.snoc {H:Hp} {p:Str×Wt} {v:V} (k:Rep H (ub p.2) v):∀{ps:List (Str×Wt)} {us:List (Key×V)},qY H ps us->qY H (ps++ [p]) (us++ [(Sum.inr p.1,v)])
 | [],_,h=>by rw[qY] at h;subst h;exact⟨v,[],rfl,k,rfl⟩
 | _::_,_,⟨u,r,e,h1,h2⟩=>by rw[e];exact⟨u,_,rfl,h1,h2.snoc k⟩
theorem qY.val {H:Hp} {n:Str}:∀{ps:List (Str×Wt)} {us:List (Key×V)},qY H ps us->(∃x v,look ps n=some x/\eM us (Sum.inr n)=some v/\Rep H (ub x) v)\/(look ps n=none/\eM us (Sum.inr n)=none)
 | [],_,h=>by rw[qY] at h;subst h;exact .inr ⟨rfl,rfl⟩
 | p::ps,_,⟨u,r,e,h1,h2⟩=>by
  subst e
  by_cases c:p.1=n
  ·exact .inl ⟨p.2,u,by unfold look;rw[List.find?_cons_of_pos (by simpa using c)];rfl,hX (by rw[c]),h1⟩
  ·rcases h2.val (n:=n) with ⟨x,v,a,b,d⟩ | ⟨a,b⟩
   ·exact .inl ⟨x,v,by unfold look at *;rw[List.find?_cons_of_neg (by simpa using c)];exact a,by rw[fB (λz=>c (by injection z))];exact b,d⟩
   ·exact .inr ⟨by unfold look at *;rw[List.find?_cons_of_neg (by simpa using c)];exact a,by rw[fB (λz=>c (by injection z))];exact b⟩
theorem Bk {ps:List (Str×Wt)} {n:Str} (h:n∉ps.map (·.1)):look ps n=none:=by
 unfold look
 rw[Option.map_eq_none_iff,List.find?_eq_none]
 intro p hp c
 exact h (List.mem_map.mpr ⟨p,hp,by simpa using c⟩)
theorem fy {cs:List (Str×Int)} {v:Int}:∀(ds:List Dd) (ns:List Int),(ds.foldl (gZ cs v) ns).length=ns.length
 | [],_=>rfl
 | d::ds,ns=>by rw[List.foldl_cons,fy ds,zY]
noncomputable def bX (cs:List (Str×Int)) (ns:List Int):Wt->List Rw
 | .pick _ rs=>rs.filter λr=>fJ cs ns r.wh
 | _=>[]
noncomputable def FC (cs:List (Str×Int)) (ns:List Int):Wt->Option (Int×Int)
 | .fin t b=>some (t,b)
 | .score c=>some (ns.getD (bV cs c) 0,1)
 | _=>none
theorem bh {a b:TS} {D:Ends} {σ:L2.St} {H:Hp} (C:(L2.St->Hp->Prop)->Prop) (hb:C (b D)) (ha:∀N:L2.St->Hp->Prop,C N->a {D with nx:=N} σ H):tSeq a b D σ H:=ha _ hb
noncomputable def vI (q:Addr) (H:Hp) (c:Addr) (g:Gm):Prop:=∃dx sp mo wh tb us ft,H c=some (.ins q dx [(Str.ofString "spots",.ref sp),(Str.ofString "mosts",.ref mo),(Str.ofString "first",.str ft),(Str.ofString "whats",.ref wh),(Str.ofString "tables",.ref tb)])/\
 H sp=some (.dK (qW g.cs 0))/\H mo=some (.lst ((g.cs.map (·.2)).map V.int))/\H wh=some (.dK us)/\qY H g.ps us/\(g.ps.map (·.1)).head?=some ft
theorem vI.mono {q:Addr} {H H':Hp} {c:Addr} {g:Gm} (s:aA H H'):vI q H c g->vI q H' c g:=λhh=>by
 obtain⟨dx,sp,mo,wh,tb,us,ft,h1,h2,h3,h4,h5,h6⟩:=hh
 exact⟨dx,sp,mo,wh,tb,us,ft,s _ _ h1,s _ _ h2,s _ _ h3,s _ _ h4,h5.mono s,h6⟩
noncomputable def xG (H:Hp) (v:V) (nm:Str) (ns:List Int):Prop:=∃a l,v=.ref a/\H a=some (.tup [.str nm,.ref l])/\H l=some (.lst (ns.map V.int))
theorem xG.mono {H H':Hp} {v:V} {nm:Str} {ns:List Int} (s:aA H H'):xG H v nm ns->xG H' v nm ns:=fun⟨a,l,e,h1,h2⟩=>⟨a,l,e,s _ _ h1,s _ _ h2⟩
noncomputable def yv:Sp:=λvs H Q _=>∃v,∃rs:List R4,vs=[v]/\Rep H (.lst (rs.map mn)) v/\rs.length<=100/\(∀r∈rs,r.2.2.1.length<=100)/\∀p H',aA H H'->Rep H' (.lst (rs.map mn)) (.ref p)->Q (.ref p) H'
noncomputable def IA:Sp:=λvs H Q _=>∃v x cs,vs=[v]/\Rep H (ub x) v/\De cs x/\∀u H',aA H H'->Rep H' (ub x) u->Q u H'
noncomputable def uc (q:Addr):Sp:=λvs H Q _=>∃c l i k g ns,vs=[.ref c,.ref l,.int ((i:Nat):Int),.int k]/\vI q (di H l) c g/\H l=some (.lst (List.map V.int ns))/\i<g.cs.length/\ns.length=g.cs.length/\Q .dG (upd H l (.lst ((i8 g.cs ns i k).map V.int)))
noncomputable def IB (q:Addr):Sp:=λvs H Q _=>∃c l dv v g ns d,vs=[.ref c,.ref l,dv,.int v]/\vI q (di H l) c g/\H l=some (.lst (List.map V.int ns))/\Rep (di H l) (qV d) dv/\pB g.cs d/\ns.length=g.cs.length/\Q .dG (upd H l (.lst ((gZ g.cs v ns d).map V.int)))
noncomputable def wV (q:Addr):Sp:=λvs H Q _=>∃c nm l g ns f hG,vs=[.ref c,.str nm,.ref l]/\vI q H c g/\GoodG g/\H l=some (.lst (List.map V.int ns))/\ns.length=g.cs.length/\dm g ns f nm=some hG/\∀a H',aA H H'->H a=none->H' a=some (.tup [.str hG,.ref l])->Q (.ref a) H'
noncomputable def Df (q:Addr):Sp:=λvs H Q _=>∃c g f ft hG,vs=[.ref c]/\vI q H c g/\GoodG g/\(g.ps.map (·.1)).head?=some ft/\dm g (List.replicate g.cs.length 0) f ft=some hG/\∀a l H',aA H H'->H a=none->H l=none->H' a=some (.tup [.str hG,.ref l])->H' l=some (.lst ((List.replicate g.cs.length (0:Int)).map V.int))->Q (.ref a) H'
noncomputable def iT (q:Addr):Sp:=λvs H Q _=>∃c v H0 g nm ns x,vs=[.ref c,v]/\aA H0 H/\vI q H0 c g/\xG H v nm ns/\look g.ps nm=some x/\∀u,Rep H0 (ub x) u->Q u H
noncomputable def Dg (q:Addr):Sp:=λvs H Q _=>∃c v l g ns wh,vs=[.ref c,v,.ref l]/\vI q H c g/\Rep H (FA wh) v/\H l=some (.lst (List.map V.int ns))/\ns.length=g.cs.length/\Q (.bl (fJ g.cs ns wh)) H
noncomputable def wW (q:Addr):Sp:=λvs H Q _=>∃c sv rv v g nm ns a b ds to f hG,vs=[.ref c,sv,rv,.int v]/\vI q H c g/\GoodG g/\xG H sv nm ns/\Rep H (mn (a,b,List.map qV ds,.str to)) rv/\(∀d∈ds,pB g.cs d)/\ds.length<=100/\ns.length=g.cs.length/\
 dm g (ds.foldl (gZ g.cs v) ns) f to=some hG/\∀p l H',aA H H'->H p=none->H l=none->H' p=some (.tup [.str hG,.ref l])->H' l=some (.lst ((ds.foldl (gZ g.cs v) ns).map V.int))->Q (.ref p) H'
theorem eG {H:Hp} {ds:List Dat} {v:V}:Rep H (.tup ds) v↔∃p vs,v=.ref p/\H p=some (.tup vs)/\aZ H ds vs:=by rw[Rep]
theorem aJ {H:Hp} {d:Dat} {ds:List Dat} {vs:List V}:aZ H (d::ds) vs↔∃v r,vs=v::r/\Rep H d v/\aZ H ds r:=by rw[aZ]
theorem bu {H:Hp} {vs:List V}:aZ H [] vs↔vs=[]:=by rw[aZ]
theorem aD {H:Hp} {x:Str} {v:V}:Rep H (.str x) v↔v=.str x:=by rw[Rep]
theorem ba {H:Hp} {x:Int} {v:V}:Rep H (.int x) v↔v=.int x:=by rw[Rep]
theorem bq {H:Hp} {a b:Dat} {v:V}:Rep H (.tup [a,b]) v↔∃p x y,v=.ref p/\H p=some (.tup [x,y])/\Rep H a x/\Rep H b y:=by
 rw[eG]
 constructor
 ·rintro⟨p,vs,e,h,r⟩
  obtain⟨x,r1,rfl,hx,r⟩:=aJ.mp r
  obtain⟨y,r2,rfl,hy,r⟩:=aJ.mp r
  rw[bu.mp r] at h
  exact⟨p,x,y,e,h,hx,hy⟩
 ·rintro⟨p,x,y,e,h,hx,hy⟩
  exact⟨p,_,e,h,aJ.mpr ⟨x,_,rfl,hx,aJ.mpr ⟨y,_,rfl,hy,bu.mpr rfl⟩⟩⟩
theorem cM {H:Hp} {a b c:Dat} {v:V}:Rep H (.tup [a,b,c]) v↔∃p x y z,v=.ref p/\H p=some (.tup [x,y,z])/\Rep H a x/\Rep H b y/\Rep H c z:=by
 rw[eG]
 constructor
 ·rintro⟨p,vs,e,h,r⟩
  obtain⟨x,r1,rfl,hx,r⟩:=aJ.mp r
  obtain⟨y,r2,rfl,hy,r⟩:=aJ.mp r
  obtain⟨z,r3,rfl,hz,r⟩:=aJ.mp r
  rw[bu.mp r] at h
  exact⟨p,x,y,z,e,h,hx,hy,hz⟩
 ·rintro⟨p,x,y,z,e,h,hx,hy,hz⟩
  exact⟨p,_,e,h,aJ.mpr ⟨x,_,rfl,hx,aJ.mpr ⟨y,_,rfl,hy,aJ.mpr ⟨z,_,rfl,hz,bu.mpr rfl⟩⟩⟩⟩
theorem dq {H:Hp} {a b c d:Dat} {v:V}:Rep H (.tup [a,b,c,d]) v↔∃p x y z u,v=.ref p/\H p=some (.tup [x,y,z,u])/\Rep H a x/\Rep H b y/\Rep H c z/\Rep H d u:=by
 rw[eG]
 constructor
 ·rintro⟨p,vs,e,h,r⟩
  obtain⟨x,r1,rfl,hx,r⟩:=aJ.mp r
  obtain⟨y,r2,rfl,hy,r⟩:=aJ.mp r
  obtain⟨z,r3,rfl,hz,r⟩:=aJ.mp r
  obtain⟨u,r4,rfl,hu,r⟩:=aJ.mp r
  rw[bu.mp r] at h
  exact⟨p,x,y,z,u,e,h,hx,hy,hz,hu⟩
 ·rintro⟨p,x,y,z,u,e,h,hx,hy,hz,hu⟩
  exact⟨p,_,e,h,aJ.mpr ⟨x,_,rfl,hx,aJ.mpr ⟨y,_,rfl,hy,aJ.mpr ⟨z,_,rfl,hz,aJ.mpr ⟨u,_,rfl,hu,bu.mpr rfl⟩⟩⟩⟩⟩
theorem yw {H:Hp} {a b c d f:Dat} {v:V}:Rep H (.tup [a,b,c,d,f]) v↔∃p x y z u t,v=.ref p/\H p=some (.tup [x,y,z,u,t])/\Rep H a x/\Rep H b y/\Rep H c z/\Rep H d u/\Rep H f t:=by
 rw[eG]
 constructor
 ·rintro⟨p,vs,e,h,r⟩
  obtain⟨x,r1,rfl,hx,r⟩:=aJ.mp r
  obtain⟨y,r2,rfl,hy,r⟩:=aJ.mp r
  obtain⟨z,r3,rfl,hz,r⟩:=aJ.mp r
  obtain⟨u,r4,rfl,hu,r⟩:=aJ.mp r
  obtain⟨t,r5,rfl,ht,r⟩:=aJ.mp r
  rw[bu.mp r] at h
  exact⟨p,x,y,z,u,t,e,h,hx,hy,hz,hu,ht⟩
 ·rintro⟨p,x,y,z,u,t,e,h,hx,hy,hz,hu,ht⟩
  exact⟨p,_,e,h,aJ.mpr ⟨x,_,rfl,hx,aJ.mpr ⟨y,_,rfl,hy,aJ.mpr ⟨z,_,rfl,hz,aJ.mpr ⟨u,_,rfl,hu,aJ.mpr ⟨t,_,rfl,ht,bu.mpr rfl⟩⟩⟩⟩⟩⟩
theorem dU {k k':Str} {v:V} {l:List (Str×V)} (h:(k==k')=false):List.lookup k ((k',v)::l)=List.lookup k l:=by rw[aay,h]
theorem kK {a b c d e:V}:List.lookup (Str.ofString "spots") [(Str.ofString "spots",a),(Str.ofString "mosts",b),(Str.ofString "first",c),(Str.ofString "whats",d),(Str.ofString "tables",e)]=some a:=aa2
theorem GN {a b c d e:V}:List.lookup (Str.ofString "mosts") [(Str.ofString "spots",a),(Str.ofString "mosts",b),(Str.ofString "first",c),(Str.ofString "whats",d),(Str.ofString "tables",e)]=some b:=by
 rw[dU (by ac_rfl)];exact aa2
theorem K3 {a b c d e:V}:List.lookup (Str.ofString "first") [(Str.ofString "spots",a),(Str.ofString "mosts",b),(Str.ofString "first",c),(Str.ofString "whats",d),(Str.ofString "tables",e)]=some c:=by
 rw[dU (by ac_rfl),dU (by ac_rfl)];exact aa2
theorem z9 {a b c d e:V}:List.lookup (Str.ofString "whats") [(Str.ofString "spots",a),(Str.ofString "mosts",b),(Str.ofString "first",c),(Str.ofString "whats",d),(Str.ofString "tables",e)]=some d:=by
 rw[dU (by ac_rfl),dU (by ac_rfl),dU (by ac_rfl)];exact aa2
theorem eV {a b c d e:V} {k:Str} (h1:(k==Str.ofString "spots")=false) (h2:(k==Str.ofString "mosts")=false) (h3:(k==Str.ofString "first")=false) (h4:(k==Str.ofString "whats")=false) (h5:(k==Str.ofString "tables")=false):
  List.lookup k [(Str.ofString "spots",a),(Str.ofString "mosts",b),(Str.ofString "first",c),(Str.ofString "whats",d),(Str.ofString "tables",e)]=none:=by
 rw[dU h1,dU h2,dU h3,dU h4,dU h5];rfl
theorem Aa {n i:Nat} (h:i<n):EI n (i:Int)=some i:=by
 unfold EI
 rw[if_pos (by omega),if_pos (by omega),aaQ]
theorem gM {ns:List Int} {i:Nat} (h:i<ns.length):jV (List.map V.int ns) (i:Int)=some (.int (ns.getD i 0)):=by
 have:=we (ns:=ns) (i:=(i:Int)) (by omega) (by omega)
 rwa [aaQ] at this
theorem FD {cs:List (Str×Int)} {i:Nat} (h:i<cs.length):jV (List.map V.int (cs.map (·.2))) (i:Int)=some (.int (most cs i)):=gM (by rw[aad];exact h)
theorem iN {H:Hp} {sp:Addr} {cs:List (Str×Int)} {n:Str} (h:H sp=some (.dK (qW cs 0))) (hn:n∈cs.map (·.1)):lE H sp (.str n) (some (.int ((bV cs n:Nat):Int))):=
 .inl ⟨_,Sum.inr n,.inl h,rfl,by rw[z0 hn,Nat.zero_add]⟩
theorem mT {H:Hp} {p:Addr} {o:HO}:di (upd H p o) p=di H p:=by
 funext a
 unfold di
 by_cases c:a=p
 ·rw[if_pos c,if_pos c]
 ·rw[if_neg c,if_neg c,aB c]
theorem Ab {c:TT} {tb:TS} {D:Ends} {σ:L2.St} {H:Hp} (Pv:Nat->L2.St->Hp->Prop) {m:Nat} (h0:Pv m σ H)
  (hs:∀m σ H,Pv m σ H->∃b:Bool,(∀Q:Bool->Hp->Prop,Q b H->c σ H Q)/\if b=true then tb {D with nx:=λσ' H'=>∃m',m'<m/\Pv m' σ' H',ct:=λσ' H'=>∃m',m'<m/\Pv m' σ' H',bk:=D.nx} σ H else D.nx σ H):xN c tb D σ H:=by
 refine⟨Pv,⟨m,h0⟩,?_⟩
 intro m σ H p
 obtain⟨b,k,q⟩:=hs m σ H p
 refine k _ ?_
 cases b with
 | true=>exact⟨_,λσ' H' h=>h,q⟩
 | false=>exact q
theorem Dh {H:Hp} {p:Addr} (h:H p=none):di H p=H:=by
 funext a
 unfold di
 by_cases c:a=p
 ·rw[if_pos c,c,h]
 ·rw[if_neg c]
theorem qZ {H H':Hp} {p:Addr} (h:di H' p=H):aA H H':=by rw[<-h];exact bJ
theorem Di (n:Nat):(List.replicate n [V.int 0]).flatten=List.map V.int (List.replicate n 0):=by
 induction n with
 | zero=>rfl
 | succ n ih=>rw[aba,List.flatten_cons,ih,aba];rfl
noncomputable def wX (q:Addr):Sp:=λvs H Q _=>∃c v H0 g nm ns x,vs=[.ref c,v]/\aA H0 H/\vI q H0 c g/\GoodG g/\xG H v nm ns/\ns.length=g.cs.length/\look g.ps nm=some x/\∀p xs H',aA H H'->H p=none->H' p=some (.lst xs)->aZ H0 (((bX g.cs ns x).map zX).map mn) xs->Q (.ref p) H'
noncomputable def Dj (q:Addr):Sp:=λvs H Q _=>∃c v g nm ns x,vs=[.ref c,v]/\vI q H c g/\GoodG g/\xG H v nm ns/\ns.length=g.cs.length/\look g.ps nm=some x/\∀p H',aA H H'->H p=none->Rep H' (.lst ((bX g.cs ns x).map λr=>Dat.str r.word)) (.ref p)->Q (.ref p) H'
noncomputable def Ac (q:Addr):Sp:=λvs H Q _=>∃c v g nm ns x t b,vs=[.ref c,v]/\vI q H c g/\GoodG g/\xG H v nm ns/\ns.length=g.cs.length/\look g.ps nm=some x/\FC g.cs ns x=some (t,b)/\∀u H',aA H H'->Rep H' (.tup [.int t,.int b]) u->Q u H'
theorem rf {H:Hp} {p:Rw->Bool}:∀{rs:List Rw} {xs:List V},aZ H ((rs.map zX).map mn) xs->aZ H (((rs.filter p).map zX).map mn) ((xs.zip rs).filterMap λx=>if p x.2=true then some x.1 else none)
 | [],xs,h=>by rw[List.zip_nil_right];exact bu.mpr rfl
 | r::rs,xs,h=>by
  obtain⟨v,ys,rfl,h1,h2⟩:=aJ.mp h
  have ih:=rf (p:=p) h2
  rw[List.zip_cons_cons,aaX]
  by_cases c:p r=true
  ·simp only[c,if_true]
   rw[List.filter_cons_of_pos c,aag,aag]
   exact aJ.mpr ⟨v,_,rfl,h1,ih⟩
  ·simp only[c]
   rw[List.filter_cons_of_neg c]
   exact ih
theorem ud {H:Hp}:∀{rs:List Rw} {xs:List V},aZ H ((rs.map zX).map mn) xs->aZ H (rs.map λr=>Dat.str r.word) (rs.map λr=>V.str r.word)
 | [],xs,h=>bu.mpr rfl
 | r::rs,xs,h=>by
  obtain⟨v,ys,rfl,h1,h2⟩:=aJ.mp h
  exact aJ.mpr ⟨_,_,rfl,aD.mpr rfl,ud h2⟩
theorem Ad {H:Hp} {rs:List Rw} {xs:List V} {i:Nat} {x:V} (h:aZ H ((rs.map zX).map mn) xs) (e:xs[i]?=some x):∃r p a b c d,rs[i]?=some r/\x=.ref p/\H p=some (.tup [.str r.word,b,c,d])/\Rep H (FA r.wh) b/\a=r:=by
 obtain⟨dd,ed,rd⟩:=h.get e
 rw[aae,aae] at ed
 obtain⟨r4,e4,rfl⟩:=Option.map_eq_some_iff.mp ed
 obtain⟨r,er,rfl⟩:=Option.map_eq_some_iff.mp e4
 obtain⟨p,x1,x2,x3,x4,rfl,hp,r1,r2,r3,r4⟩:=dq.mp (show Rep H (.tup _) x from rd)
 have r1:x1=.str r.word:=aD.mp r1
 subst r1
 exact⟨r,p,r,x2,x3,x4,er,rfl,hp,r2,rfl⟩
theorem dX {tc:TT} {a b:TS} {D:Ends} {σ:L2.St} {H:Hp} (h:∀Y N:Hp->Prop,Y H->tc σ H λv H'=>if v=true then Y H' else N H') (k:a D σ H):tIfS tc a b D σ H:=uM (λH'=>H'=H) (λ_=>False) (λ_ e=>e▸k) (λ_ f=>f.elim) λY N hY _=>h Y N (hY _ rfl)
theorem eA {tc:TT} {a b:TS} {D:Ends} {σ:L2.St} {H:Hp} (h:∀Y N:Hp->Prop,N H->tc σ H λv H'=>if v=true then Y H' else N H') (k:b D σ H):tIfS tc a b D σ H:=uM (λ_=>False) (λH'=>H'=H) (λ_ f=>f.elim) (λ_ e=>e▸k) λY N _ hN=>h Y N (hN _ rfl)
abbrev bO:=Str×List Int
noncomputable def ip (s:bO):Dat:=.tup [.str s.1,.tup (s.2.map .int)]
theorem ue:∀ns:List Int,mL (ns.map Dat.int)=ns.map PyData.int
 | []=>by simp [mL]
 | n::ns=>by rw[aag,mL,ue ns,i7,aag]
theorem qi (s:bO):i7 (ip s)=.tuple [.str s.1,.tuple (s.2.map PyData.int)]:=by
 unfold ip
 rw[i7,mL,mL,mL,i7,i7,ue]
theorem FE {s t:bO}:i7 (ip s)=i7 (ip t)↔s=t:=by
 rw[qi,qi]
 constructor
 ·intro h
  injection h with h
  injection h with h1 h
  injection h with h2 _
  injection h1 with h1
  injection h2 with h2
  have:s.2=t.2:=by
   have:∀{a b:List Int},a.map PyData.int=b.map PyData.int->a=b:=by
    intro a
    induction a with
    | nil=>intro b h;cases b with | nil=>rfl | cons _ _=>cases h
    | cons x a ih=>
     intro b h
     cases b with
     | nil=>cases h
     | cons y b=>
      rw[aag,aag] at h
      injection h with h1 h2
      injection h1 with h1
      rw[h1,ih h2]
   exact this h2
  exact Prod.ext h1 this
 ·rintro rfl;rfl
theorem uf:∀ns:List Int,jj (ns.map PyData.int)=true
 | []=>rfl
 | n::ns=>by rw[aag,jj,uf ns];rfl
theorem ug:∀ns:List Int,PyData.depthAll (ns.map PyData.int)<=1
 | []=>by simp [PyData.depthAll]
 | n::ns=>by
  have:=ug ns
  rw[aag,PyData.depthAll,PyData.depth]
  omega
noncomputable def lQ:List bO->Rows->Nat->Prop
 | [],ks,_=>ks=[]
 | s::ss,ks,i=>∃b r,ks=(ip s,b,(i:Int))::r/\lQ ss r (i+1)
theorem lQ.len:∀{ss:List bO} {ks:Rows} {i:Nat},lQ ss ks i->ks.length=ss.length
 | [],_,_,h=>by rw[lQ] at h;subst h;rfl
 | _::_,_,_,⟨b,r,e,h⟩=>by rw[e,aap,h.len,aap]
theorem lQ.snoc {s:bO} {b:Addr}:∀{ss:List bO} {ks:Rows} {i:Nat},lQ ss ks i->lQ (ss++ [s]) (ks++ [(ip s,b,((i+ss.length:Nat):Int))]) i
 | [],_,i,h=>by rw[lQ] at h;subst h;exact⟨b,[],rfl,rfl⟩
 | t::ss,_,i,⟨b',r,e,h⟩=>by
  rw[e]
  refine⟨b',_,rfl,?_⟩
  have:=h.snoc (s:=s) (b:=b)
  rw[show i+1+ss.length=i+ (t::ss).length by rw[aap];omega] at this
  exact this
theorem lQ.look {s:bO}:∀{ss:List bO} {ks:Rows} {i:Nat},lQ ss ks i->iS ks (i7 (ip s))=if s∈ss then some ((i+ss.idxOf s:Nat):Int) else none
 | [],_,_,h=>by rw[lQ] at h;subst h;rfl
 | t::ss,_,i,⟨b,r,e,h⟩=>by
  subst e
  unfold iS
  by_cases c:t=s
  ·subst c
   rw[List.find?_cons_of_pos (by simp),if_pos aao,List.idxOf_cons_self]
   rfl
  ·rw[List.find?_cons_of_neg (by simpa [FE] using c)]
   have ih:=h.look (s:=s)
   unfold iS at ih
   rw[ih]
   have e:(t::ss).idxOf s=ss.idxOf s+1:=by rw[List.idxOf_cons,beq_false_of_ne c];rfl
   rw[e,show i+1+ss.idxOf s=i+ (ss.idxOf s+1) by omega]
   by_cases d:s∈ss
   ·rw[if_pos d,if_pos (aal _ d)]
   ·rw[if_neg d,if_neg (λz=>by rcases List.mem_cons.mp z with z | z;exact c z.symm;exact d z)]
noncomputable def eX (ss:List bO) (s:bO):List bO:=if s∈ss then ss else ss++ [s]
theorem IC {H:Hp} {s:bO} {b t:Addr} (h:dO (.str s.1)=true) (hb:H b=some (.tup [.str s.1,.ref t])) (ht:H t=some (.tup (s.2.map V.int))):jX H (ip s) b:=by
 refine⟨?_,?_,?_⟩
 ·rw[qi,dO,jj,h,jj,dO,uf]
  rfl
 ·rw[qi]
  have:=ug s.2
  simp only[PyData.depth,PyData.depthAll]
  omega
 ·unfold ip
  exact bq.mpr ⟨b,_,_,rfl,hb,aD.mpr rfl,eG.mpr ⟨t,_,rfl,ht,aZ.ints _⟩⟩
noncomputable abbrev bS (H:Hp) (l n:Addr):Hp:=di (di H l) n
theorem aN {H:Hp} {l n:Addr}:aA (bS H l n) H:=λa o e=>bJ _ _ (bJ _ _ e)
noncomputable def Ae (Fr:Addr->Prop) (H:Hp) (v:V) (nm:Str) (ns:List Int):Prop:=∃a l,v=.ref a/\H a=some (.tup [.str nm,.ref l])/\H l=some (.lst (ns.map V.int))/\Fr l
theorem Ae.mono {Fr:Addr->Prop} {H H':Hp} {v:V} {nm:Str} {ns:List Int} (s:aA H H'):Ae Fr H v nm ns->Ae Fr H' v nm ns:=fun⟨a,l,e,h1,h2,h3⟩=>⟨a,l,e,s _ _ h1,s _ _ h2,h3⟩
theorem Ae.st {Fr:Addr->Prop} {H:Hp} {v:V} {nm:Str} {ns:List Int}:Ae Fr H v nm ns->xG H v nm ns:=fun⟨a,l,e,h1,h2,_⟩=>⟨a,l,e,h1,h2⟩
noncomputable def lR (P:Program) (w:World) (q:Addr) (Fr:Addr->Prop) (H:Hp) (f l n:Addr) (ss:List bO):Prop:=∃dx xs ks,bS H l n f=some (.ins q dx [(Str.ofString "states",.ref l),(Str.ofString "numbers",.ref n)])/\l≠n/\H l=some (.lst xs)/\Al (λs v=>Ae Fr (bS H l n) v s.1 s.2) ss xs/\
 H n=some (D5 P w n ks)/\wG (bS H l n) ks/\lQ ss ks 0/\ss.length<=120
theorem kL {a b:V}:List.lookup (Str.ofString "states") [(Str.ofString "states",a),(Str.ofString "numbers",b)]=some a:=aa2
theorem Dk {a b:V}:List.lookup (Str.ofString "numbers") [(Str.ofString "states",a),(Str.ofString "numbers",b)]=some b:=by
 rw[dU (by ac_rfl)];exact aa2
theorem yx {a b:V} {k:Str} (h1:(k==Str.ofString "states")=false) (h2:(k==Str.ofString "numbers")=false):List.lookup k [(Str.ofString "states",a),(Str.ofString "numbers",b)]=none:=by
 rw[dU h1,dU h2];rfl
noncomputable def ID (P:Program) (w:World) (q:Addr):Sp:=λvs H Q _=>∃f dx,vs=[.ref f]/\H f=some (.ins q dx [])/\∀l n H',H l=none->H n=none->(∀a o,a≠f->H a=some o->bS H' l n a=some o)->(∀Fr,lR P w q Fr H' f l n [])->Q .dG H'
theorem cu {H:Hp} {l n a:Addr} (h1:a≠l) (h2:a≠n):bS H l n a=H a:=by
 show di (di H l) n a=_
 rw[bM h2,bM h1]
theorem iq {H:Hp} {l n a:Addr} {o:HO} (e:bS H l n a=some o):a≠l/\a≠n:=by
 have e:(if a=n then none else if a=l then none else H a)=some o:=e
 refine⟨λz=>?_,λz=>?_⟩
 ·by_cases c:a=n
  ·rw[if_pos c] at e;cases e
  ·rw[if_neg c,if_pos z] at e;cases e
 ·rw[if_pos z] at e;cases e
theorem bx {H H':Hp} {l n:Addr} (s:aA H H'):aA (bS H l n) (bS H' l n):=λa o e=>by
 obtain⟨h1,h2⟩:=iq e
 rw[cu h1 h2] at e ⊢
 exact s _ _ e
theorem Bl {H:Hp} {l n:Addr} {o:HO}:bS (upd H l o) l n=bS H l n:=by show di (di (upd H l o) l) n=_;rw[mT]
theorem Bm {H:Hp} {l n:Addr} {o:HO} (h:l≠n):bS (upd H n o) l n=bS H l n:=by
 funext a
 show(if a=n then none else if a=l then none else upd H n o a)=if a=n then none else if a=l then none else H a
 by_cases c:a=n
 ·rw[if_pos c,if_pos c]
 ·rw[if_neg c,if_neg c,aB c]
theorem rh (ss:List bO) (s:bO):s∈eX ss s:=by
 unfold eX
 split
 ·assumption
 ·simp
set_option tactic.hygienic true in
theorem rj (ss:List bO) (s:bO):(eX ss s).idxOf s=ss.idxOf s:=by
 unfold eX
 split
 ·rfl
 ·rename_i h
  rw[List.idxOf_append,if_neg h,List.idxOf_cons_self,List.idxOf_eq_length h]
  omega
theorem lR.mono {P:Program} {w:World} {q:Addr} {Fr:Addr->Prop} {H H':Hp} {f l n:Addr} {ss:List bO} (s:aA H H'):lR P w q Fr H f l n ss->lR P w q Fr H' f l n ss:=λhh=>by
 obtain⟨dx,xs,ks,h1,h2,h3,h4,h5,h6,h7,h8⟩:=hh
 exact⟨dx,xs,ks,bx s _ _ h1,h2,s _ _ h3,h4.imp λ_ _ k=>k.mono (bx s),s _ _ h5,h6.mono (bx s),h7,h8⟩
noncomputable def Kp (H H':Hp):Prop:=∀a,(∀vs,H a=some (.tup vs)->H' a=some (.tup vs))/\∀vs,H a=some (.lst vs)->H' a=some (.lst vs)
theorem Kp.of {H H':Hp} (s:aA H H'):Kp H H':=λa=>⟨λ_=>s _ _,λ_=>s _ _⟩
theorem Kp.upd {H:Hp} {p:Addr} {o:HO} (h1:∀vs,H p≠some (.tup vs)) (h2:∀vs,H p≠some (.lst vs)):Kp H (upd H p o):=λa=>by
 by_cases c:a=p
 ·subst c;exact⟨λvs e=>absurd e (h1 vs),λvs e=>absurd e (h2 vs)⟩
 ·rw[aB c];exact⟨λ_ h=>h,λ_ h=>h⟩
theorem Kp.trans {H H' H2:Hp} (a:Kp H H') (b:Kp H' H2):Kp H H2:=λx=>⟨λ_ h=>(b x).1 _ ((a x).1 _ h),λ_ h=>(b x).2 _ ((a x).2 _ h)⟩
mutual
theorem Kp.rep {H H':Hp} (s:Kp H H'):∀{d:Dat} {v:V},Rep H d v->Rep H' d v
 | .dG,_,h=>by rw[Rep] at *;exact h
 | .bl _,_,h=>by rw[Rep] at *;exact h
 | .int _,_,h=>by rw[Rep] at *;exact h
 | .str _,_,h=>by rw[Rep] at *;exact h
 | .tup ds,_,h=>by
  rw[Rep] at *
  obtain⟨p,vs,e,hp,r⟩:=h
  exact⟨p,vs,e,(s p).1 _ hp,s.Bi r⟩
 | .lst ds,_,h=>by
  rw[Rep] at *
  obtain⟨p,vs,e,hp,r⟩:=h
  exact⟨p,vs,e,(s p).2 _ hp,s.Bi r⟩
theorem Kp.Bi {H H':Hp} (s:Kp H H'):∀{ds:List Dat} {vs:List V},aZ H ds vs->aZ H' ds vs
 | [],_,h=>by rw[aZ] at *;exact h
 | d::ds,_,h=>by
  rw[aZ] at *
  obtain⟨v,r,e,h1,h2⟩:=h
  exact⟨v,r,e,s.rep h1,s.Bi h2⟩
end
theorem Kp.OX {H H':Hp} (s:Kp H H'):∀{ps:List (Str×Wt)} {us:List (Key×V)},qY H ps us->qY H' ps us
 | [],_,h=>h
 | _::_,_,⟨v,r,e,h1,h2⟩=>⟨v,r,e,s.rep h1,s.OX h2⟩
theorem qY.none {H:Hp} {ps:List (Str×Wt)} {us:List (Key×V)} {n:Str} (h:qY H ps us) (nn:n∉ps.map (·.1)):eM us (Sum.inr n)=none:=by
 rcases h.val (n:=n) with ⟨x,v,a,_,_⟩ | ⟨_,b⟩
 ·rw[Bk nn] at a;cases a
 ·exact b
theorem wY {α:Type} {l:List α} (h:l.Nodup) {i:Nat} {x:α} (e:l[i]?=some x):x∉l.take i:=by
 intro m
 obtain⟨j,hj,ej⟩:=List.getElem_of_mem m
 rw[aaG] at hj
 rw[List.getElem_take] at ej
 obtain⟨hi,ei⟩:=List.getElem?_eq_some_iff.mp e
 have:=(List.getElem_inj h).mp (ej.trans ei.symm)
 omega
noncomputable def aQ (ss ts:List bO):List bO:=ts.foldl eX ss
noncomputable def pT (ss SS:List bO):Prop:=∃r,SS=ss++r
theorem pT.refl (ss:List bO):pT ss ss:=⟨[],(aaT _).symm⟩
theorem pT.trans {a b c:List bO}:pT a b->pT b c->pT a c:=fun⟨r,e⟩ ⟨t,f⟩=>⟨r++t,by rw[f,e,aa5]⟩
theorem Dm (ss:List bO) (s:bO):pT ss (eX ss s):=by
 unfold eX
 split
 ·exact pT.refl _
 ·exact⟨_,rfl⟩
theorem eO:∀(ts ss:List bO),pT ss (aQ ss ts)
 | [],ss=>pT.refl _
 | t::ts,ss=>(Dm ss t).trans (eO ts (eX ss t))
theorem pT.idx {ss SS:List bO} {s:bO} (h:s∈ss):pT ss SS->SS.idxOf s=ss.idxOf s:=fun⟨r,e⟩=>by rw[e,List.idxOf_append,if_pos h]
theorem pT.len {ss SS:List bO}:pT ss SS->ss.length<=SS.length:=fun⟨r,e⟩=>by rw[e,aah];omega
noncomputable def Dp (g:Gm) (ns:List Int) (r:Rw):Option bO:=(dm g (r.ds.foldl (gZ g.cs 0) ns) (g.ps.length+1) r.to).map λnm=>(nm,r.ds.foldl (gZ g.cs 0) ns)
noncomputable def Goes (g:Gm) (st:bO) (ts:List bO):Prop:=match look g.ps st.1 with
 | some (.pick w rs)=>bX g.cs st.2 (.pick w rs)≠[]/\ts.length=(bX g.cs st.2 (.pick w rs)).length/\∀(i:Nat) r,(bX g.cs st.2 (.pick w rs))[i]?=some r->∃t,ts[i]?=some t/\Dp g st.2 r=some t/\dO (.str t.1)=true
 | some (.fin _ _)=>ts=[]
 | some (.score _)=>ts=[]
 | _=>False
noncomputable def ox (g:Gm) (SS:List bO) (st:bO) (ts:List bO):Dat:=match look g.ps st.1 with
 | some (.pick w _)=>.tup [.str (Str.ofString "pick"),.int w,.lst (ts.map λt=>.int ((SS.idxOf t:Nat):Int))]
 | some x=>.tup [.str (Str.ofString "end"),.tup [.int ((FC g.cs st.2 x).getD (0,1)).1,.int ((FC g.cs st.2 x).getD (0,1)).2]]
 | none=>.dG
theorem Dq {J:It} {g:TG} {tc:TT} {te:TE} {σ0:L2.St} {H1:Hp} {fin:List V->Hp->Prop} {n:Nat} {Item:Nat->V->Hp->Hp->Prop} {Ok:Hp->Prop} (S:Src J Ok n Item) (W:Nat->List V->L2.St->Hp->Prop) (p0:W 0 [] σ0 H1) (bN:∀i ys σ H,W i ys σ H->Ok H) (hz:n<=sizeLine)
  (hs:∀i x σ H ys H3 (Q:L2.St->V->Hp->Prop) (N:L2.St->Hp->Prop),i<n->W i ys σ H->Item i x H H3->
   (∀σ3 y H6,W (i+1) (ys++ [y]) σ3 H6->Q σ3 y H6)->(∀σ3 H5,W (i+1) ys σ3 H5->N σ3 H5)->
   g x σ H3 λσ3 H4=>tc σ3 H4 λb H5=>if b=true then te σ3 H5 λy H6=>Q σ3 y H6 else N σ3 H5)
  (qz:∀ys σ H,W n ys σ H->fin ys H):iJ J g tc te σ0 H1 fin:=by
 refine⟨λi m ys σ H=>m=n - i/\i<=n/\ys.length<=i/\W i ys σ H,⟨n,by simp,aak _,aaf _,p0⟩,?_⟩
 rintro i m ys σ H ⟨rfl,hi,hl,p⟩
 by_cases fY:i<n
 ·refine .inr ⟨S.go i H fY (bN _ _ _ _ p),λx H3 y=>hs i x σ H ys H3 (λσ3 y H6=>ys.length<sizeLine/\∃m',m'<n - i/\m'=n - (i+1)/\i+1<=n/\(ys++ [y]).length<=i+1/\W (i+1) (ys++ [y]) σ3 H6)
   (λσ3 H5=>∃m',m'<n - i/\m'=n - (i+1)/\i+1<=n/\ys.length<=i+1/\W (i+1) ys σ3 H5) fY p (S.xO i H x H3 fY (bN _ _ _ _ p) y) (λσ3 y H6 q=>?_) (λσ3 H5 q=>?_)⟩
  ·exact⟨by omega,n - (i+1),by omega,rfl,fY,by rw[aah,aaM];omega,q⟩
  ·exact⟨n - (i+1),by omega,rfl,fY,by omega,q⟩
 ·have e:i=n:=by omega
  subst e
  exact .inl ⟨S.stop H (bN _ _ _ _ p),qz ys σ H p⟩
theorem lR.fr {P:Program} {w:World} {q:Addr} {Fr IE:Addr->Prop} {H:Hp} {f l n:Addr} {ss:List bO} (k:∀a o,H a=some o->Fr a->IE a):lR P w q Fr H f l n ss->lR P w q IE H f l n ss:=λhh=>by
 obtain⟨dx,xs,ks,h1,h2,h3,h4,h5,h6,h7,h8⟩:=hh
 refine⟨dx,xs,ks,h1,h2,h3,h4.imp λ_ _ hh=>?_,h5,h6,h7,h8⟩
 obtain⟨a,b,e,a1,a2,a3⟩:=hh
 exact⟨a,b,e,a1,a2,k _ _ (aN _ _ a2) a3⟩
theorem jX.tup {H H':Hp} {s:bO} {b:Addr} (k:∀a vs,H a=some (.tup vs)->H' a=some (.tup vs)):jX H (ip s) b->jX H' (ip s) b:=fun⟨h1,h2,h3⟩=>by
 refine⟨h1,h2,?_⟩
 unfold ip at h3 ⊢
 obtain⟨p,x,y,e,hp,r1,r2⟩:=bq.mp h3
 obtain⟨t,vs,e2,ht,r3⟩:=eG.mp r2
 refine bq.mpr ⟨p,x,y,e,k _ _ hp,aD.mpr (aD.mp r1),eG.mpr ⟨t,vs,e2,k _ _ ht,?_⟩⟩
 have:vs=s.2.map V.int:=by
  have:∀{ns:List Int} {vs:List V},aZ H (ns.map Dat.int) vs->vs=ns.map V.int:=by
   intro ns
   induction ns with
   | nil=>intro vs h;exact bu.mp h
   | cons x ns ih=>
    intro vs h
    obtain⟨v,r,rfl,h1,h2⟩:=aJ.mp h
    rw[ba.mp h1,ih h2]
    rfl
  exact this r3
 rw[this]
 exact aZ.ints _
theorem lQ.key:∀{ss:List bO} {ks:Rows} {i:Nat},lQ ss ks i->∀p∈ks,∃s,p.1=ip s
 | [],_,_,h,p,hp=>by rw[lQ] at h;subst h;cases hp
 | s::ss,_,_,⟨b,r,e,h⟩,p,hp=>by
  subst e
  rcases List.mem_cons.mp hp with rfl | hp
  ·exact⟨s,rfl⟩
  ·exact h.key p hp
theorem lR.K4 {P:Program} {w:World} {q:Addr} {Fr:Addr->Prop} {H:Hp} {f l n b:Addr} {ss:List bO} {ys OY:List V} (k:∀a,Fr a->a≠b) (hb:H b=some (.lst ys)) (bl:b≠l):lR P w q Fr H f l n ss->lR P w q Fr (upd H b (.lst OY)) f l n ss:=fun⟨dx,xs,ks,h1,h2,h3,h4,h5,h6,h7,h8⟩=>by
 have bn:b≠n:=λz=>by rw[z,h5] at hb;cases hb
 have up:∀a o,a≠b->bS H l n a=some o->bS (upd H b (.lst OY)) l n a=some o:=λa o ab e=>by
  obtain⟨e1,e2⟩:=iq e
  rw[cu e1 e2] at e ⊢
  rw[aB ab]
  exact e
 have tp:∀a vs,bS H l n a=some (.tup vs)->bS (upd H b (.lst OY)) l n a=some (.tup vs):=λa vs e=>up a _ (λz=>by have:=aN _ _ e;rw[z,hb] at this;cases this) e
 refine⟨dx,xs,ks,up _ _ (λz=>by have:=aN _ _ h1;rw[z,hb] at this;cases this) h1,h2,by rw[aB (Ne.symm bl)];exact h3,h4.imp λ_ _ ⟨a,c,e,a1,a2,a3⟩=>⟨a,c,e,tp _ _ a1,up _ _ (k _ a3) a2,a3⟩,by rw[aB (Ne.symm bn)];exact h5,λp hp=>?_,h7,h8⟩
 obtain⟨s,es⟩:=h7.key p hp
 have:=h6 p hp
 rw[es] at this ⊢
 exact jX.tup tp this
noncomputable def gq (g:Gm) (st:bO):Dat:=.lst ((bX g.cs st.2 ((look g.ps st.1).getD (.fin 0 1))).map λr=>Dat.str r.word)
theorem FF {H:Hp} {p:Pt} {v:V} (h:Rep H (yt p) v):∃q,v=.ref q/\H q=some (.tup (oj p)):=by
 cases p with
 | num n=>obtain⟨q,x,y,e,hq,a,b⟩:=bq.mp (show Rep H (.tup _) v from h);rw[aD.mp a,ba.mp b] at hq;exact⟨q,e,hq⟩
 | gk n s=>obtain⟨q,x,y,z,e,hq,a,b,c⟩:=cM.mp (show Rep H (.tup _) v from h);rw[aD.mp a,ba.mp b,ba.mp c] at hq;exact⟨q,e,hq⟩
 | best n d s=>obtain⟨q,x,y,z,u,e,hq,a,b,c,f⟩:=dq.mp (show Rep H (.tup _) v from h);rw[aD.mp a,ba.mp b,ba.mp c,ba.mp f] at hq;exact⟨q,e,hq⟩
 | dJ n s=>obtain⟨q,x,y,z,e,hq,a,b,c⟩:=cM.mp (show Rep H (.tup _) v from h);rw[aD.mp a,ba.mp b,ba.mp c] at hq;exact⟨q,e,hq⟩
noncomputable def Eb (q:Addr) (H:Hp) (c:Addr) (g:Gm) (tb:Addr):Prop:=∃dx sp mo wh us ft,H c=some (.ins q dx [(Str.ofString "spots",.ref sp),(Str.ofString "mosts",.ref mo),(Str.ofString "first",.str ft),(Str.ofString "whats",.ref wh),(Str.ofString "tables",.ref tb)])/\
 H sp=some (.dK (qW g.cs 0))/\H mo=some (.lst ((g.cs.map (·.2)).map V.int))/\H wh=some (.dK us)/\qY H g.ps us/\(g.ps.map (·.1)).head?=some ft
theorem Eb.co {q:Addr} {H:Hp} {c:Addr} {g:Gm} {tb:Addr}:Eb q H c g tb->vI q H c g:=λhh=>by
 obtain⟨dx,sp,mo,wh,us,ft,h1,h2,h3,h4,h5,h6⟩:=hh
 exact⟨dx,sp,mo,wh,tb,us,ft,h1,h2,h3,h4,h5,h6⟩
theorem Eb.mono {q:Addr} {H H':Hp} {c:Addr} {g:Gm} {tb:Addr} (s:aA H H'):Eb q H c g tb->Eb q H' c g tb:=λhh=>by
 obtain⟨dx,sp,mo,wh,us,ft,h1,h2,h3,h4,h5,h6⟩:=hh
 exact⟨dx,sp,mo,wh,us,ft,s _ _ h1,s _ _ h2,s _ _ h3,s _ _ h4,h5.mono s,h6⟩
theorem Kp.di {H:Hp} {tb:Addr} {kvs:List (Key×V)} (h:H tb=some (.dK kvs)):Kp H (di H tb):=λa=>by
 by_cases c:a=tb
 ·subst c;rw[h];exact⟨(λ_ e=>by cases e),(λ_ e=>by cases e)⟩
 ·rw[bM c];exact⟨λ_ e=>e,λ_ e=>e⟩
noncomputable def IF (q:Addr):Sp:=λvs H Q _=>∃c dx gv g,vs=[.ref c,gv]/\H c=some (.ins q dx [])/\Rep H (Nx g) gv/\GoodG g/\∀tb H',(∀a o,a≠c->H a=some o->H' a=some o)->H tb=none->H' tb=some (.dK [])->Eb q (di H' tb) c g tb->Q .dG H'
noncomputable abbrev cF (H:Hp) (l n tb:Addr):Hp:=di (bS H l n) tb
theorem cO {H:Hp} {l n tb:Addr}:aA (cF H l n tb) H:=bJ.trans aN
theorem cW {H:Hp} {l n tb a:Addr} (h1:a≠l) (h2:a≠n) (h3:a≠tb):cF H l n tb a=H a:=by
 show di (bS H l n) tb a=_
 rw[bM h3,cu h1 h2]
theorem gu {H:Hp} {l n tb a:Addr} {o:HO} (e:cF H l n tb a=some o):a≠l/\a≠n/\a≠tb:=by
 have h3:a≠tb:=λz=>by
  have e:(if a=tb then none else bS H l n a)=some o:=e
  rw[if_pos z] at e
  cases e
 have e:di (bS H l n) tb a=some o:=e
 rw[bM h3] at e
 obtain⟨h1,h2⟩:=iq e
 exact⟨h1,h2,h3⟩
theorem Dr {H:Hp} {l n tb:Addr}:aA (cF H l n tb) (di H tb):=λa o e=>by
 obtain⟨h1,h2,h3⟩:=gu e
 rw[cW h1 h2 h3] at e
 rw[bM h3]
 exact e
theorem wZ {rows:List (Int×Int×Int)} {B C:Int} (h:0<B/\(∀r∈rows,r.2.2∣B)/\∀M,(∀r∈rows,r.2.2∣M)->B∣M) (k:0<C/\(∀r∈rows,r.2.2∣C)/\∀M,(∀r∈rows,r.2.2∣M)->C∣M):B=C:=
 Int.le_antisymm (Int.le_of_dvd k.1 (h.2.2 C k.2.1)) (Int.le_of_dvd h.1 (k.2.2 B h.2.1))
theorem FG {H H':Hp} {l n tb:Addr} (s:aA (di H tb) (di H' tb)):aA (cF H l n tb) (cF H' l n tb):=λa o e=>by
 obtain⟨h1,h2,h3⟩:=gu e
 rw[cW h1 h2 h3] at e ⊢
 have:=s a o (by rw[bM h3];exact e)
 rwa [bM h3] at this
theorem lR.tb {P:Program} {w:World} {q:Addr} {Fr:Addr->Prop} {H H':Hp} {f l n tb:Addr} {ss:List bO} {kvs:List (Key×V)} (s:aA (di H tb) (di H' tb)) (ht:H tb=some (.dK kvs)):lR P w q Fr H f l n ss->lR P w q Fr H' f l n ss:=fun⟨dx,xs,ks,h1,h2,h3,h4,h5,h6,h7,h8⟩=>by
 have up:∀a o,H a=some o->(∀kvs,o≠.dK kvs)->H' a=some o:=λa o e no=>by
  have ne:a≠tb:=λz=>by rw[z,ht] at e;cases e;exact no _ rfl
  have:=s a o (by rw[bM ne];exact e)
  rwa [bM ne] at this
 have OZ:∀a o,bS H l n a=some o->(∀kvs,o≠.dK kvs)->bS H' l n a=some o:=λa o e no=>by
  obtain⟨e1,e2⟩:=iq e
  rw[cu e1 e2] at e ⊢
  exact up a o e no
 have tp:∀a vs,bS H l n a=some (.tup vs)->bS H' l n a=some (.tup vs):=λa vs e=>OZ _ _ e (λ_ z=>by cases z)
 refine⟨dx,xs,ks,OZ _ _ h1 (λ_ z=>by cases z),h2,up _ _ h3 (λ_ z=>by cases z),h4.imp λ_ _ ⟨a,c,e,a1,a2,a3⟩=>⟨a,c,e,tp _ _ a1,OZ _ _ a2 (λ_ z=>by cases z),a3⟩,up _ _ h5 (λ_ z=>by cases z),λp hp=>?_,h7,h8⟩
 obtain⟨s,es⟩:=h7.key p hp
 have:=h6 p hp
 rw[es] at this ⊢
 exact jX.tup tp this
noncomputable def K5 (rows:List (Int×Int×Int)) (B:Int):Prop:=0<B/\(∀r∈rows,r.2.2∣B)/\∀M,(∀r∈rows,r.2.2∣M)->B∣M
noncomputable def mU (rs:List Tw) (v:Int):Option Tw:=rs.find? λr=>decide (r.1<=v) && decide (v<=r.2.1)
noncomputable def Ec (g:Gm) (ns:List Int) (r:Tw) (v:Int):Option bO:=(dm g (r.2.2.1.foldl (gZ g.cs v) ns) (g.ps.length+1) r.2.2.2).map λnm=>(nm,r.2.2.1.foldl (gZ g.cs v) ns)
noncomputable def c5 (g:Gm) (st:bO) (ts:List (Int×bO)):Prop:=match look g.ps st.1 with
 | some (.pick _ _)=>Goes g st (ts.map (·.2))
 | some (.fx d9 _ _ rs)=>∃ps B,d9=ps.map yt/\kJ ps/\ps.length<=4/\K5 (gY ps) B/\ts.length=(gY ps).length/\∀(i:Nat) x,(Nm.weigh (gY ps) B)[i]?=some x->∃r s,mU rs x.1=some r/\ts[i]?=some (x.2,s)/\Ec g st.2 r x.1=some s/\dO (.str s.1)=true
 | some (.fin _ _)=>ts=[]
 | some (.score _)=>ts=[]
 | _=>False
noncomputable def Bn (SS:List bO) (x:Int×bO):Dat:=.tup [.int x.1,.int ((SS.idxOf x.2:Nat):Int)]
noncomputable def mV (g:Gm) (SS:List bO) (st:bO) (ts:List (Int×bO)):Dat:=match look g.ps st.1 with
 | some (.fx _ t b _)=>.tup [.str (Str.ofString "throw"),.tup [.int t,.int b],.lst (ts.map (Bn SS))]
 | _=>ox g SS st (ts.map (·.2))
theorem yA {g:Gm} {st:bO} {ts:List (Int×bO)} (h:c5 g st ts):∃x,look g.ps st.1=some x:=by
 unfold c5 at h
 cases lk:look g.ps st.1 with
 | none=>rw[lk] at h;exact h.elim
 | some x=>exact⟨x,rfl⟩
noncomputable def Bo (H X:Hp) (tb:Addr) (g:Gm) (m:Nat) (Fr:Addr->Prop):Prop:=∃kvs,H tb=some (.dK kvs)/\kvs.length<=m/\∀nm v,eM kvs (Sum.inr nm)=some v->∃ps t b rs,look g.ps nm=some (.fx (ps.map yt) t b rs)/\(∃p,v=.ref p/\Fr p)/\Rep X (kI (gY ps)) v
theorem Bo.mono {H X X':Hp} {tb:Addr} {g:Gm} {m m':Nat} {Fr:Addr->Prop} (s:aA X X') (hm:m<=m'):Bo H X tb g m Fr->Bo H X' tb g m' Fr:=fun⟨kvs,h1,h2,h3⟩=>⟨kvs,h1,by omega,λnm v e=>by obtain⟨ps,t,b,rs,a1,fp,a2⟩:=h3 nm v e;exact⟨ps,t,b,rs,a1,fp,a2.mono s⟩⟩
theorem Bo.heap {H H' X:Hp} {tb:Addr} {g:Gm} {m:Nat} {Fr:Addr->Prop} (e:∀o,H tb=some o->H' tb=some o):Bo H X tb g m Fr->Bo H' X tb g m Fr:=fun⟨kvs,h1,h2,h3⟩=>⟨kvs,e _ h1,h2,h3⟩
theorem w6 {kvs:List (Key×V)} {k:Key} {v:V} (h:eM kvs k=none) (k':Key):eM (kvs++ [(k,v)]) k'=if k=k' then some v else eM kvs k':=by
 unfold eM at *
 rw[List.find?_append]
 by_cases c:k=k'
 ·subst c
  rw[if_pos rfl]
  have:kvs.find? (λkv=>decide (kv.1=k))=none:=by simpa using h
  rw[this]
  simp
 ·rw[if_neg c]
  have:List.find? (λkv:Key×V=>decide (kv.1=k')) [(k,v)]=none:=by simp [c]
  rw[this]
  simp
theorem vf:∀{ps qs:List Pt},ps.map yt=qs.map yt->ps=qs
 | [],[],_=>rfl
 | [],_::_,h=>by cases h
 | _::_,[],h=>by cases h
 | p::ps,q::qs,h=>by
  rw[aag,aag] at h
  injection h with h1 h2
  rw[Fz h1,vf h2]
theorem FH {H:Hp} {v:V} {ps:List Pt} (h:Rep H (.lst (ps.map yt)) v):∃a,v=.ref a/\Ik H a ps:=by
 obtain⟨a,xs,e,ha,r⟩:=aS.mp h
 refine⟨a,e,xs,ha,?_⟩
 have:∀{ps:List Pt} {xs:List V},aZ H (ps.map yt) xs->Al (λp v=>∃q,v=.ref q/\H q=some (.tup (oj p))) ps xs:=by
  intro ps
  induction ps with
  | nil=>intro xs h;rw[bu.mp h];trivial
  | cons p ps ih=>
   intro xs h
   obtain⟨v,r,rfl,h1,h2⟩:=aJ.mp h
   exact⟨FF h1,ih h2⟩
 exact this r
theorem Af {H X:Hp} {rows:List (Int×Int×Int)} {p:Addr} (h:Rep H (kI rows) (.ref p)) (kp:∀o,H p=some o->X p=some o) (kt:∀a vs,H a=some (.tup vs)->X a=some (.tup vs)):Rep X (kI rows) (.ref p):=by
 obtain⟨a,xs,e,ha,r⟩:=aS.mp h
 cases e
 refine aS.mpr ⟨_,xs,rfl,kp _ ha,?_⟩
 refine aZ.of r.length λi d v ed ev=>?_
 obtain⟨d',GO,rd⟩:=r.get ev
 rw[ed] at GO
 cases GO
 rw[aae] at ed
 obtain⟨x,_,rfl⟩:=Option.map_eq_some_iff.mp ed
 obtain⟨p1,q1,rfl,h1,h2⟩:=mJ.mp rd
 exact mJ.mpr ⟨p1,q1,rfl,kt _ _ h1,kt _ _ h2⟩
theorem Ds {H X:Hp} {ws:Nm.Ws} {p:Addr} (h:Rep H (ji ws) (.ref p)) (kp:∀o,H p=some o->X p=some o) (kt:∀a vs,H a=some (.tup vs)->X a=some (.tup vs)):Rep X (ji ws) (.ref p):=by
 obtain⟨a,xs,e,ha,r⟩:=aS.mp h
 cases e
 refine aS.mpr ⟨_,xs,rfl,kp _ ha,?_⟩
 refine aZ.of r.length λi d v ed ev=>?_
 obtain⟨d',GO,rd⟩:=r.get ev
 rw[ed] at GO
 cases GO
 rw[aae] at ed
 obtain⟨x,_,rfl⟩:=Option.map_eq_some_iff.mp ed
 obtain⟨q1,rfl,h1⟩:=d8.mp rd
 exact d8.mpr ⟨q1,rfl,kt _ _ h1⟩
noncomputable def IG:Sp:=λvs H Q _=>∃v ps W,vs=[v]/\Rep H (ji ps) v/\0<W/\W<=1000000/\ps.length<=1296/\(∀p∈ps,0<p.2/\p.2∣W)/\∀B,0<B->(∀M,(∀p∈ps,p.2∣M)->B∣M)->(∀p∈ps,p.2∣B)->Q (.int B) H
noncomputable def Dt:Sp:=λvs H Q _=>∃v rows W,vs=[v]/\Rep H (kI rows) v/\GoodR W rows/\∀B H',aA H H'->K5 rows B->Q (.int B) H'
noncomputable def IH:Sp:=λvs H Q _=>∃v rows W B,vs=[v,.int B]/\Rep H (kI rows) v/\GoodR W rows/\K5 rows B/\∀p H',aA H H'->H p=none->Rep H' (ji (Nm.weigh rows B)) (.ref p)->Q (.ref p) H'
theorem Du {a b W:Int} (h1:a∣W) (h2:b∣W):a / Nm.g a b*b∣W:=by
 rw[Nm.tV,<-Int.mul_ediv_assoc _ (Nm.p9 a b)]
 have e:a*b / Nm.g a b=a*b / ((Int.gcd a b:Nat):Int):=rfl
 rw[e]
 refine Int.natAbs_dvd_natAbs.mp ?_
 rw[Int.natAbs_ediv_of_dvd (Int.dvd_trans (Int.gcd_dvd_left ..) (Int.dvd_mul_right ..)),Int.natAbs_mul,Int.natAbs_natCast]
 exact Nat.lcm_dvd (Int.natAbs_dvd_natAbs.mpr h1) (Int.natAbs_dvd_natAbs.mpr h2)
theorem II {W B:Int} {rows:List (Int×Int×Int)} (g:GoodR W rows) (gb:K5 rows B):B<=1000000:=Int.le_trans (Int.le_of_dvd g.1 (gb.2.2 W λr hr=>(g.2.2.2 r hr).2.1)) g.2.1
noncomputable def Dv (q:Addr):Sp:=λvs H Q _=>∃c sv g nm ns tb kvs ps t b rs,vs=[.ref c,sv]/\Eb q (di H tb) c g tb/\xG H sv nm ns/\H tb=some (.dK kvs)/\kvs.length<=1000/\look g.ps nm=some (.fx (ps.map yt) t b rs)/\kJ ps/\ps.length<=4/\
 (∀v,eM kvs (Sum.inr nm)=some v->Q v H)/\(eM kvs (Sum.inr nm)=none->∀p H1,aA H H1->H p=none->Rep H1 (kI (gY ps)) (.ref p)->Q (.ref p) (upd H1 tb (.dK (kvs++ [(Sum.inr nm,.ref p)]))))
noncomputable def IJ (q:Addr):Sp:=λvs H Q _=>∃c sv v g nm ns d9 t b rs r f hG,vs=[.ref c,sv,.int v]/\vI q H c g/\GoodG g/\xG H sv nm ns/\ns.length=g.cs.length/\look g.ps nm=some (.fx d9 t b rs)/\mU rs v=some r/\dm g (r.2.2.1.foldl (gZ g.cs v) ns) f r.2.2.2=some hG/\
 ∀p l H',aA H H'->H p=none->H l=none->H' p=some (.tup [.str hG,.ref l])->H' l=some (.lst ((r.2.2.1.foldl (gZ g.cs v) ns).map V.int))->Q (.ref p) H'
noncomputable def fK (ts:List (Int×bO)):List bO:=ts.map (·.2)
noncomputable def vg (g:Gm) (SS:List bO) (tss:List (List (Int×bO))):List Dat:=(SS.zip tss).map λx=>mV g SS x.1 x.2
theorem uh {H:Hp} {p:Tw->Bool}:∀{rs:List Tw} {xs:List V},aZ H ((rs.map BE).map mn) xs->aZ H (((rs.filter p).map BE).map mn) ((xs.zip rs).filterMap λx=>if p x.2=true then some x.1 else none)
 | [],xs,h=>by rw[List.zip_nil_right];exact bu.mpr rfl
 | r::rs,xs,h=>by
  obtain⟨v,ys,rfl,h1,h2⟩:=aJ.mp h
  have ih:=uh (p:=p) h2
  rw[List.zip_cons_cons,aaX]
  by_cases c:p r=true
  ·simp only[c,if_true]
   rw[List.filter_cons_of_pos c,aag,aag]
   exact aJ.mpr ⟨v,_,rfl,h1,ih⟩
  ·simp only[c]
   rw[List.filter_cons_of_neg c]
   exact ih
set_option tactic.hygienic true in
theorem yB {ss:List bO} {s:bO} (h:ss.Nodup):(eX ss s).Nodup:=by
 unfold eX
 split
 ·exact h
 ·rename_i c
  rw[List.nodup_append]
  exact⟨h,List.pairwise_singleton _ _,λa ha b hb=>by rw[List.mem_singleton.mp hb];exact λz=>c (z▸ha)⟩
theorem mW:∀{ts ss:List bO},ss.Nodup->(aQ ss ts).Nodup
 | [],_,h=>h
 | _::ts,_,h=>mW (ts:=ts) (yB h)
set_option tactic.hygienic true in
theorem ui {ss:List bO} {s x:bO}:x∈eX ss s↔x∈ss\/x=s:=by
 unfold eX
 split
 ·rename_i c
  exact⟨.inl,λh=>h.elim id λz=>z▸c⟩
 ·rw[List.mem_append,List.mem_singleton]
theorem gN:∀{ts ss:List bO} {x:bO},x∈aQ ss ts↔x∈ss\/x∈ts
 | [],_,_=>by
  unfold aQ
  simp
 | t::ts,ss,x=>by
  show x∈aQ (eX ss t) ts↔_
  rw[gN (ts:=ts),ui,aaB,or_assoc]
theorem yC {g:Gm} {st:bO} {ts us:List (Int×bO)} (np:∀wo rs,look g.ps st.1≠some (.pick wo rs)) (h:c5 g st ts) (k:c5 g st us):ts=us:=by
 unfold c5 at h k
 cases lk:look g.ps st.1 with
 | none=>rw[lk] at h;exact h.elim
 | some x=>
  rw[lk] at h k
  cases x with
  | pick wo rs=>exact absurd lk (np wo rs)
  | fin _ _=>rw[show ts=[] from h,show us=[] from k]
  | score _=>rw[show ts=[] from h,show us=[] from k]
  | ask _ _ _ _=>exact h.elim
  | fx d9 t b rs=>
   obtain⟨ps,B,e1,_,_,ib,l1,a1⟩:=h
   obtain⟨qs,C,e2,_,_,ic,l2,a2⟩:=k
   have:ps=qs:=vf (e1.symm.trans e2)
   subst this
   have:=wZ ib ic
   subst this
   apply List.ext_getElem?
   intro i
   by_cases hi:i< (gY ps).length
   ·have hw:i< (Nm.weigh (gY ps) B).length:=by unfold Nm.weigh;rw[aad];exact hi
    obtain⟨r,s,ro,et,gt,_⟩:=a1 i _ (aax hw)
    obtain⟨r',s',V1,YG,V2,_⟩:=a2 i _ (aax hw)
    rw[ro] at V1
    cases V1
    rw[gt] at V2
    cases V2
    rw[et,YG]
   ·rw[aa1 (by omega),aa1 (by omega)]
noncomputable def kO (g:Gm) (st:bO):Prop:=∃wo rs,look g.ps st.1=some (.pick wo rs)/\bX g.cs st.2 (.pick wo rs)=[]
theorem c5.stuck {g:Gm} {st:bO} {ts:List (Int×bO)} (h:c5 g st ts):¬kO g st:=by
 rintro⟨wo,rs,lk,e⟩
 unfold c5 at h
 rw[lk] at h
 have h:Goes g st (ts.map (·.2)):=h
 unfold Goes at h
 rw[lk] at h
 exact h.1 e
noncomputable def fe (g:Gm) (o:Nat) (SS:List bO):Nat->List bO->List (List (Int×bO))->Prop
 | i,ss,[]=>pT ss SS/\(o=0->ss=SS/\i=SS.length)/\(o=1->∃st,ss[i]?=some st/\st.2.length=g.cs.length/\kO g st)/\(o=2->∃st ts,ss[i]?=some st/\st.2.length=g.cs.length/\c5 g st ts/\120< (aQ ss (fK ts)).length)
 | i,ss,ts::r=>∃st,ss[i]?=some st/\st.2.length=g.cs.length/\c5 g st ts/\fe g o SS (i+1) (aQ ss (fK ts)) r
theorem fe.xa {g:Gm} {o:Nat} {SS:List bO}:∀{r:List (List (Int×bO))} {i:Nat} {ss:List bO},fe g o SS i ss r->pT ss SS
 | [],_,_,h=>h.1
 | ts::_,_,ss,⟨_,_,_,_,h⟩=>(eO (fK ts) ss).trans h.xa
theorem fe.all {g:Gm} {SS:List bO}:∀{r:List (List (Int×bO))} {i:Nat} {ss:List bO},fe g 0 SS i ss r->i+r.length=SS.length/\∀j,i<=j->j<SS.length->∃st ts,SS[j]?=some st/\st.2.length=g.cs.length/\c5 g st ts/\∀t∈fK ts,t∈SS
 | [],i,ss,h=>⟨(h.2.1 rfl).2,λj h1 h2=>by have:=(h.2.1 rfl).2;omega⟩
 | ts::r,i,ss,⟨st,es,ls,go,h⟩=>by
  obtain⟨a,b⟩:=h.all
  refine⟨by rw[aap];omega,λj h1 h2=>?_⟩
  by_cases c:i=j
  ·subst c
   obtain⟨q,e⟩:=(eO (fK ts) ss).trans h.xa
   obtain⟨q',e'⟩:=h.xa
   exact⟨st,ts,by rw[e,aaZ (List.getElem?_eq_some_iff.mp es).1];exact es,ls,go,λt ht=>by rw[e'];exact List.mem_append_left _ (gN.mpr (.inr ht))⟩
  ·exact b j (by omega) h2
theorem fe.ex {g:Gm} {R:bO->Prop} (cl:∀st,R st->st.2.length=g.cs.length/\(kO g st\/∃ts,c5 g st ts/\∀t∈fK ts,R t)):∀(k i:Nat) (ss:List bO),ss.Nodup->(∀s∈ss,R s)->i<=ss.length->ss.length<=120->120<=i+k->∃o SS tss,o<=2/\fe g o SS i ss tss/\SS.length<=120/\SS.Nodup/\(∀s∈SS,R s)/\(o=1->∃st,R st/\kO g st)/\(o=2->∃us:List bO,us.Nodup/\(∀s∈us,R s)/\120<us.length):=by
 intro k
 induction k with
 | zero=>
  intro i ss nd sub hi Dw hk
  exact⟨0,ss,[],by decide,⟨pT.refl _,λ_=>⟨rfl,by omega⟩,(λz=>by cases z),(λz=>by cases z)⟩,Dw,nd,sub,(λz=>by cases z),(λz=>by cases z)⟩
 | succ k ih=>
  intro i ss nd sub hi Dw hk
  by_cases e:i=ss.length
  ·exact⟨0,ss,[],by decide,⟨pT.refl _,λ_=>⟨rfl,e⟩,(λz=>by cases z),(λz=>by cases z)⟩,Dw,nd,sub,(λz=>by cases z),(λz=>by cases z)⟩
  ·have fY:i<ss.length:=by omega
   have hm:=sub _ (List.getElem_mem fY)
   have es:=aax fY
   obtain⟨l,sk | ⟨ts,go,to⟩⟩:=cl _ hm
   ·exact⟨1,ss,[],by decide,⟨pT.refl _,(λz=>by cases z),λ_=>⟨_,es,l,sk⟩,(λz=>by cases z)⟩,Dw,nd,sub,λ_=>⟨_,hm,sk⟩,(λz=>by cases z)⟩
   ·have Nw:(aQ ss (fK ts)).Nodup:=mW nd
    have K6:∀s∈aQ ss (fK ts),R s:=λs hs=>(gN.mp hs).elim (sub s) (to s)
    by_cases c:(aQ ss (fK ts)).length<=120
    ·have a:=(eO (fK ts) ss).len
     obtain⟨o,SS,tss,ho,h1,h2⟩:=ih (i+1) (aQ ss (fK ts)) Nw K6 (by omega) c (by omega)
     exact⟨o,SS,ts::tss,ho,⟨ss[i],es,l,go,h1⟩,h2⟩
    ·exact⟨2,ss,[],by decide,⟨pT.refl _,(λz=>by cases z),(λz=>by cases z),λ_=>⟨_,ts,es,l,go,by omega⟩⟩,Dw,nd,sub,(λz=>by cases z),λ_=>⟨_,Nw,K6,by omega⟩⟩
noncomputable def lS (P:Program) (w:World) (q qm:Addr):Sp:=λvs H Q E=>∃f sv Fr l n ss s,vs=[.ref f,sv]/\lR P w q Fr H f l n ss/\Ae Fr (bS H l n) sv s.1 s.2/\dO (.str s.1)=true/\s.2.length<=100/\(s∉ss->ss.length=120->∀H',aA H H'->E (.ref qm) none H')/\((s∈ss\/ss.length<120)->∀H',aA (bS H l n) (bS H' l n)->lR P w q Fr H' f l n (eX ss s)->Q (.int ((ss.idxOf s:Nat):Int)) H')
noncomputable def Ag (P:Program) (w:World) (qc qf qn qm:Addr):Sp:=λvs H Q E=>∃c f sv Fr l n g ss st wo rs,vs=[.ref c,.ref f,sv]/\vI qc (bS H l n) c g/\GoodG g/\lR P w qf Fr H f l n ss/\(∀a,H a=none->Fr a)/\xG (bS H l n) sv st.1 st.2/\st.2.length=g.cs.length/\look g.ps st.1=some (.pick wo rs)/\
 (bX g.cs st.2 (.pick wo rs)=[]->∀H',aA H H'->E (.ref qn) none H')/\
 (bX g.cs st.2 (.pick wo rs)≠[]->∃ts SS,Goes g st ts/\((aQ ss ts).length<=120->pT (aQ ss ts) SS)/\(120< (aQ ss ts).length->∀H',aA (bS H l n) (bS H' l n)->E (.ref qm) none H')/\
  ((aQ ss ts).length<=120->∀p H',aA (bS H l n) (bS H' l n)->lR P w qf Fr H' f l n (aQ ss ts)->H p=none->bS H' l n p=some (.lst (ts.map λt=>V.int ((SS.idxOf t:Nat):Int)))->Q (.ref p) H'))
noncomputable def Dx (P:Program) (w:World) (qc qf qm:Addr):Sp:=λvs H Q E=>∃c f sv Fr l n tb g ss st ts d9 t b rs SS m,vs=[.ref c,.ref f,sv]/\Eb qc (cF H l n tb) c g tb/\GoodG g/\lR P w qf Fr H f l n ss/\Bo H (cF H l n tb) tb g m Fr/\m<=200/\(∀a,H a=none->Fr a)/\xG (cF H l n tb) sv st.1 st.2/\st.2.length=g.cs.length/\look g.ps st.1=some (.fx d9 t b rs)/\
 c5 g st ts/\((aQ ss (fK ts)).length<=120->pT (aQ ss (fK ts)) SS)/\(120< (aQ ss (fK ts)).length->∀H',aA (cF H l n tb) (cF H' l n tb)->E (.ref qm) none H')/\
 ((aQ ss (fK ts)).length<=120->∀p H',aA (cF H l n tb) (cF H' l n tb)->lR P w qf Fr H' f l n (aQ ss (fK ts))->Bo H' (cF H' l n tb) tb g (m+1) Fr->H p=none->Rep (cF H' l n tb) (.lst (ts.map (Bn SS))) (.ref p)->Q (.ref p) H')
noncomputable def Ah (P:Program) (w:World) (qc qf qn qm:Addr):Sp:=λvs H Q E=>∃c f sv Fr l n tb g ss st m,vs=[.ref c,.ref f,sv]/\Eb qc (cF H l n tb) c g tb/\GoodG g/\lR P w qf Fr H f l n ss/\Bo H (cF H l n tb) tb g m Fr/\m<=200/\(∀a,H a=none->Fr a)/\xG (cF H l n tb) sv st.1 st.2/\st.2.length=g.cs.length/\
 (kO g st->∀H',aA H H'->E (.ref qn) none H')/\
 (¬kO g st->∃ts SS,c5 g st ts/\((aQ ss (fK ts)).length<=120->pT (aQ ss (fK ts)) SS)/\(120< (aQ ss (fK ts)).length->∀H',aA (cF H l n tb) (cF H' l n tb)->E (.ref qm) none H')/\
  ((aQ ss (fK ts)).length<=120->∀u H',aA (cF H l n tb) (cF H' l n tb)->lR P w qf Fr H' f l n (aQ ss (fK ts))->Bo H' (cF H' l n tb) tb g (m+1) Fr->(∀b ys,H b=some (.lst ys)->Rep (di (cF H' l n tb) b) (mV g SS st ts) u/\∃q vs,u=.ref q/\di (cF H' l n tb) b q=some (.tup vs)/\∀x y w,vs=[x,y,.ref w]->H w=none)->Q u H'))
noncomputable def IK (H0 X:Hp) (b l:Addr) (v:V):Prop:=∃q vs,v=.ref q/\X q=some (.tup vs)/\∀x y w,vs=[x,y,.ref w]->H0 w=none/\w≠b/\w≠l
theorem IK.mono {H0 X X':Hp} {b l:Addr} {v:V} (s:aA X X'):IK H0 X b l v->IK H0 X' b l v:=fun⟨q,vs,e,h,k⟩=>⟨q,vs,e,s _ _ h,k⟩
noncomputable def yD (qn qm:Addr):Sp:=λvs H Q E=>∃gv g ft nm F o SS tss,vs=[gv]/\Rep H (Nx g) gv/\GoodG g/\(g.ps.map (·.1)).head?=some ft/\dm g (List.replicate g.cs.length 0) F ft=some nm/\dO (.str nm)=true/\o<=2/\fe g o SS 0 [(nm,List.replicate g.cs.length 0)] tss/\SS.length<=120/\
 (o=1->∀H',aA H H'->E (.ref qn) none H')/\(o=2->∀H',aA H H'->E (.ref qm) none H')/\
 (o=0->∀p b l wl bs xs ws H',aA H H'->H b=none->H wl=none->H' p=some (.tup [.ref b,.ref l,.ref wl])->H' b=some (.lst bs)->aZ H' (vg g SS tss) bs->(∀v∈bs,IK H H' b l v)->H' l=some (.lst xs)->Al (λs v=>Ae (λa=>H a=none/\a≠b/\a≠l) H' v s.1 s.2) SS xs->H' wl=some (.lst ws)->aZ H' (SS.map (gq g)) ws->Q (.ref p) H')
theorem vh:∀{ps:List (Str×Wt)} {i:Nat} {x:Str×Wt},(ps.map (·.1)).Nodup->ps[i]?=some x->look ps x.1=some x.2
 | [],_,_,_,e=>by simp at e
 | p::ps,i,x,nd,e=>by
  rw[aag,List.nodup_cons] at nd
  unfold look
  cases i with
  | zero=>
   have e:p=x:=by simpa using e
   subst e
   rw[List.find?_cons_of_pos (by simp)]
   rfl
  | succ i=>
   have e:ps[i]?=some x:=by simpa using e
   rw[List.find?_cons_of_neg (by
    intro z
    have z:p.1=x.1:=by simpa using z
    exact nd.1 (by rw[z];exact List.mem_map.mpr ⟨x,aaj e,rfl⟩))]
   exact vh nd.2 e
theorem Dy {ps:List Pt} (g:kJ ps):K5 (gY ps) (Dc ps):=by
 have h:∀ps∈D9,∃r∈gY ps,r.2.2=Dc ps:=by ac_rfl
 obtain⟨a,b,c,d⟩:=ua g
 obtain⟨r,hr,e⟩:=h ps g
 exact⟨a,λr hr=>(d r hr).2.1,λM hM=>by rw[<-e];exact hM r hr⟩
theorem rq {ps:List Pt} (g:kJ ps):ps.length<=4/\∀x∈Nm.weigh (gY ps) (Dc ps),0<=x.1/\x.1<=9:=by
 have h:∀ps∈D9,ps.length<=4/\∀x∈Nm.weigh (gY ps) (Dc ps),0<=x.1/\x.1<=9:=by ac_rfl
 exact h ps g
noncomputable def BF (cs:List (Str×Int)) (ns:List Int):Prop:=ns.length=cs.length/\∀(i:Nat) c,cs[i]?=some c->0<=ns.getD i 0/\ns.getD i 0<=c.2
theorem IL {cs:List (Str×Int)} {i:Nat} {c:Str×Int} (e:cs[i]?=some c):most cs i=c.2:=by
 unfold most
 rw[aaO,aae,e]
 rfl
theorem xb {l:List Int} {i j:Nat} {v:Int} (h:i<l.length):(l.set i v).getD j 0=if j=i then v else l.getD j 0:=by
 rw[aaO,List.getElem?_set,aaO]
 by_cases c:i=j
 ·subst c
  rw[if_pos rfl,if_pos h,if_pos rfl]
  rfl
 ·rw[if_neg c,if_neg (Ne.symm c)]
theorem vi {cs:List (Str×Int)} {ns:List Int} {j:Nat} {k:Int} (h0:∀(i:Nat) c,cs[i]?=some c->0<=c.2) (h:BF cs ns) (hj:j<cs.length) (k0:0<=k):BF cs (i8 cs ns j k):=by
 refine⟨gn.trans h.1,λi c ec=>?_⟩
 unfold i8
 rw[xb (by rw[h.1];exact hj)]
 by_cases e:i=j
 ·subst e
  rw[if_pos rfl,IL ec]
  have:=h0 i c ec
  omega
 ·rw[if_neg e]
  exact h.2 i c ec
theorem vj {cs:List (Str×Int)} {ns:List Int} {j:Nat} (h:BF cs ns) (hj:j<cs.length):0<=ns.getD j 0:=(h.2 j _ (aax hj)).1
noncomputable def cN:List Str:=[Str.ofString "one",Str.ofString "two",Str.ofString "three"]
noncomputable def pN:List Str:=[Str.ofString "start",Str.ofString "a",Str.ofString "b",Str.ofString "c",Str.ofString "d",Str.ofString "end"]
noncomputable def wN:List Str:=[Str.ofString "a",Str.ofString "b",Str.ofString "c"]
theorem K7:cN.Nodup/\∀n:Str,n∈cN->dO (.str n)=true:=by ac_rfl
theorem GP:pN.Nodup/\∀n:Str,n∈pN->dO (.str n)=true:=by ac_rfl
noncomputable def pU (cs:List (Str×Int)):Dd->Prop
 | .set n k=>n∈cs.map (·.1)/\0<=k
 | .plus n k=>n∈cs.map (·.1)/\0<=k
 | .face n=>n∈cs.map (·.1)
 | .move n m=>n∈cs.map (·.1)/\m∈cs.map (·.1)/\n≠m
noncomputable def lT (cs:List (Str×Int)) (ds:List Dd):Prop:=ds.length<=2/\∀d∈ds,pU cs d
theorem pU.good {cs:List (Str×Int)}:∀{d:Dd},pU cs d->pB cs d
 | .set _ _,h=>h.1
 | .plus _ _,h=>h.1
 | .face _,h=>h
 | .move _ _,h=>⟨h.1,h.2.1⟩
noncomputable def JJ (cs:List (Str×Int)) (wh:Option (Str×Str×Int)):Prop:=∀n x k,wh=some (n,x,k)->n∈cs.map (·.1)/\dO (.str x)=true
noncomputable def i9 (n:Nat) (to:Str):Prop:=∃j:Nat,j<n/\pN[j]?=some to
noncomputable def Bp (cs:List (Str×Int)) (n i:Nat):Wt->Prop
 | .ask c _ a b=>c∈cs.map (·.1)/\(∃j:Nat,i<j/\j<n/\pN[j]?=some a)/\∃j:Nat,i<j/\j<n/\pN[j]?=some b
 | .fin _ _=>True
 | .score c=>c∈cs.map (·.1)
 | .pick _ rs=>rs.length<=3/\∀r∈rs,lT cs r.ds/\i9 n r.to/\r.word∈wN/\JJ cs r.wh
 | .fx d9 _ _ rs=>∃ps cut d1 t1 d2 t2,d9=List.map yt ps/\ps∈D9/\1<=cut/\cut<=4/\rs=[(0,cut,d1,t1),(cut+1,9,d2,t2)]/\lT cs d1/\lT cs d2/\i9 n t1/\i9 n t2
structure gi (g:Gm) (n:Nat):Prop where
 n2:2<=n
 n6:n<=6
 c3:g.cs.length<=3
 cn:∀(i:Nat) c,g.cs[i]?=some c->cN[i]?=some c.1/\1<=c.2/\c.2<=5
 lp:g.ps.length=n
 pn:∀(i:Nat) x,g.ps[i]?=some x->pN[i]?=some x.1/\Bp g.cs n i x.2
theorem FI {v cut:Int} {d1 d2:List Dd} {t1 t2:Str} (h0:0<=v) (h9:v<=9):mU [(0,cut,d1,t1),(cut+1,9,d2,t2)] v=some (if v<=cut then (0,cut,d1,t1) else (cut+1,9,d2,t2)):=by
 unfold mU
 by_cases c:v<=cut
 ·rw[if_pos c]
  exact List.find?_cons_of_pos (by simp;omega)
 ·rw[if_neg c,List.find?_cons_of_neg (by simp;omega)]
  exact List.find?_cons_of_pos (by simp;omega)
theorem FJ {cs:List (Str×Int)} {ns:List Int} {j:Nat} (h0:∀(i:Nat) c,cs[i]?=some c->0<=c.2) (h:BF cs ns) (hj:j<cs.length):BF cs (ns.set j 0):=by
 refine⟨by rw[List.length_set];exact h.1,λi c ec=>?_⟩
 rw[xb (by rw[h.1];exact hj)]
 by_cases e:i=j
 ·rw[if_pos e];exact⟨Int.le_refl _,h0 i c ec⟩
 ·rw[if_neg e];exact h.2 i c ec
theorem K8 {cs:List (Str×Int)} {v:Int} (h0:∀(i:Nat) c,cs[i]?=some c->0<=c.2) (v0:0<=v):∀{d:Dd} {ns:List Int},pU cs d->BF cs ns->BF cs (gZ cs v ns d)
 | .set n k,_,d,h=>vi h0 h (b8 d.1) d.2
 | .plus n k,ns,d,h=>vi h0 h (b8 d.1) (by have:=vj h (b8 d.1);have:=d.2;omega)
 | .face n,ns,d,h=>vi h0 h (b8 d) (by have:=vj h (b8 d);omega)
 | .move n m,ns,d,h=>FJ h0 (vi h0 h (b8 d.2.1) (by have:=vj h (b8 d.1);have:=vj h (b8 d.2.1);omega)) (b8 d.1)
theorem vk {cs:List (Str×Int)} {v:Int} (h0:∀(i:Nat) c,cs[i]?=some c->0<=c.2) (v0:0<=v):∀{ds:List Dd} {ns:List Int},(∀d∈ds,pU cs d)->BF cs ns->BF cs (ds.foldl (gZ cs v) ns)
 | [],_,_,h=>h
 | d::ds,ns,k,h=>vk h0 v0 (ds:=ds) (λx hx=>k x (aal _ hx)) (K8 h0 v0 (k d aao) h)
section YH
variable {g : Gm} {n : Nat}
theorem gi.c0 (G:gi g n):∀(i:Nat) c,g.cs[i]?=some c->0<=c.2:=λi c e=>by have:=(G.cn i c e).2.1;omega
theorem gi.YI (G:gi g n):g.cs.map (·.1)=cN.take g.cs.length:=by
 apply List.ext_getElem?
 intro i
 rw[aae]
 cases e:g.cs[i]? with
 | none=>
  have:=List.getElem?_eq_none_iff.mp e
  rw[aa1 (by rw[aaG];omega)]
  rfl
 | some c=>
  rw[aa4,if_pos (List.getElem?_eq_some_iff.mp e).1,(G.cn i c e).1]
  rfl
theorem gi.GQ (G:gi g n):g.ps.map (·.1)=pN.take n:=by
 apply List.ext_getElem?
 intro i
 rw[aae]
 cases e:g.ps[i]? with
 | none=>
  have:=List.getElem?_eq_none_iff.mp e
  rw[G.lp] at this
  rw[aa1 (by rw[aaG];omega)]
  rfl
 | some c=>
  have hi:=(List.getElem?_eq_some_iff.mp e).1
  rw[G.lp] at hi
  rw[aa4,if_pos hi,(G.pn i c e).1]
  rfl
theorem gi.gg (G:gi g n):GoodG g where
 nc:=by
  rw[G.YI]
  exact K7.1.sublist (List.take_sublist _ _)
 np:=by
  rw[G.GQ]
  exact GP.1.sublist (List.take_sublist _ _)
 lc:=by have:=G.c3;omega
 lp:=by have:=G.lp;have:=G.n6;omega
 p0:=by have:=G.lp;have:=G.n2;omega
 wt:=λp hp=>by
  obtain⟨i,hi⟩:=List.mem_iff_getElem?.mp hp
  have k:=(G.pn i p hi).2
  cases e:p.2 with
  | ask c x a b=>rw[e] at k;exact k.1
  | fin t b=>exact trivial
  | score c=>rw[e] at k;exact k
  | pick Ff rs=>
   rw[e] at k
   obtain⟨l,h⟩:=k
   exact⟨by omega,λr hr=>⟨by have:=(h r hr).1.1;omega,λd hd=>((h r hr).1.2 d hd).good⟩⟩
  | fx d9 t b rs=>
   rw[e] at k
   obtain⟨ps,cut,d1,t1,d2,t2,rfl,hp,_,_,rfl,k1,k2,_⟩:=k
   have:=(rq (show kJ ps from hp)).1
   refine⟨by rw[aad];omega,by simp,λr hr=>?_⟩
   rcases List.mem_cons.mp hr with rfl | hr
   ·exact⟨by have:=k1.1;show d1.length<=100;omega,λd hd=>(k1.2 d hd).good⟩
   ·rw[List.mem_singleton.mp hr]
    exact⟨by have:=k2.1;show d2.length<=100;omega,λd hd=>(k2.2 d hd).good⟩
theorem gi.look (G:gi g n) {i:Nat} {x:Str×Wt} (e:g.ps[i]?=some x):K60.look g.ps x.1=some x.2:=vh G.gg.np e
noncomputable def GR (x:Wt):Prop:=∀c k a b,x≠.ask c k a b
theorem gi.ask (G:gi g n) (ns:List Int):∀(f i:Nat) (nm:Str),n - i<=f->i<n->pN[i]?=some nm->∃(j:Nat) (x:Str×Wt),g.ps[j]?=some x/\GR x.2/\dm g ns f nm=some x.1
 | 0,i,nm,h,k,_=>by omega
 | f+1,i,nm,h,k,en=>by
  have hi:i<g.ps.length:=by rw[G.lp];exact k
  have ex:=aax hi
  obtain⟨e1,p⟩:=G.pn i _ ex
  have lk:=G.look ex
  rw[en] at e1
  have e1:=aaF e1
  rw[<-e1] at lk
  unfold dm
  rw[lk]
  cases e:(g.ps[i]).2 with
  | ask c x a b=>
   rw[e] at p
   obtain⟨_,⟨ja,ia,la,ea⟩,⟨jb,ib,lb,eb⟩⟩:=p
   simp only[]
   split
   ·exact gi.ask G ns f ja a (by omega) la ea
   ·exact gi.ask G ns f jb b (by omega) lb eb
  | fin t b=>exact⟨i,_,ex,(λ_ _ _ _ z=>by rw[e] at z;cases z),by rw[e1]⟩
  | score c=>exact⟨i,_,ex,(λ_ _ _ _ z=>by rw[e] at z;cases z),by rw[e1]⟩
  | pick Ff rs=>exact⟨i,_,ex,(λ_ _ _ _ z=>by rw[e] at z;cases z),by rw[e1]⟩
  | fx d9 t b rs=>exact⟨i,_,ex,(λ_ _ _ _ z=>by rw[e] at z;cases z),by rw[e1]⟩
noncomputable def jk (g:Gm) (st:bO):Prop:=(∃(j:Nat) (x:Str×Wt),g.ps[j]?=some x/\GR x.2/\st.1=x.1)/\BF g.cs st.2
theorem gi.V3 (G:gi g n) {i:Nat} {x:Str×Wt} (e:g.ps[i]?=some x):dO (.str x.1)=true:=GP.2 _ (aaj (G.pn i x e).1)
theorem gi.at (G:gi g n) {ns:List Int} {to:Str} (t:i9 n to) (h:BF g.cs ns):∃s:bO,((dm g ns (g.ps.length+1) to).map λnm=>(nm,ns))=some s/\dO (.str s.1)=true/\jk g s/\s.2=ns:=by
 obtain⟨j,lj,ej⟩:=t
 obtain⟨k,x,ex,na,e⟩:=G.ask ns (g.ps.length+1) j to (by rw[G.lp];omega) lj ej
 exact⟨(x.1,ns),by rw[e];rfl,G.V3 ex,⟨⟨k,x,ex,na,rfl⟩,h⟩,rfl⟩
theorem gi.cl (G:gi g n) (st:bO) (h:jk g st):st.2.length=g.cs.length/\(kO g st\/∃ts,c5 g st ts/\∀t∈fK ts,jk g t):=by
 obtain⟨⟨i,x,ex,na,e1⟩,inr⟩:=h
 refine⟨inr.1,?_⟩
 have lk:=G.look ex
 rw[<-e1] at lk
 have p:=(G.pn i x ex).2
 cases e:x.2 with
 | ask c k a b=>exact absurd e (na c k a b)
 | fin t b=>exact .inr ⟨[],by unfold c5;rw[lk,e],λt ht=>by cases ht⟩
 | score c=>exact .inr ⟨[],by unfold c5;rw[lk,e],λt ht=>by cases ht⟩
 | pick Ff rs=>
  rw[e] at p lk
  obtain⟨_,hr⟩:=p
  by_cases ne:bX g.cs st.2 (.pick Ff rs)=[]
  ·exact .inl ⟨Ff,rs,lk,ne⟩
  have go:∀r∈bX g.cs st.2 (.pick Ff rs),∃s,Dp g st.2 r=some s/\dO (.str s.1)=true/\jk g s:=λr h=>by
   have h:=(List.mem_filter.mp (show r∈List.filter (λr=>fJ g.cs st.2 r.wh) rs from h)).1
   obtain⟨s,a,b,c,_⟩:=G.at (hr r h).2.1 (vk (v:=0) G.c0 (by decide) (hr r h).1.2 inr)
   exact⟨s,a,b,c⟩
  refine .inr ⟨(bX g.cs st.2 (.pick Ff rs)).map λr=>((0:Int),(Dp g st.2 r).getD st),?_,λt ht=>?_⟩
  ·unfold c5
   rw[lk]
   show Goes g st _
   unfold Goes
   rw[lk]
   refine⟨ne,by rw[aad,aad],λj r ej=>?_⟩
   obtain⟨s,es,hs,_⟩:=go r (aaj ej)
   exact⟨s,by rw[aae,aae,ej];show some ((Dp g st.2 r).getD st)=_;rw[es];rfl,es,hs⟩
  ·unfold fK at ht
   rw[aas] at ht
   obtain⟨r,h,rfl⟩:=List.mem_map.mp ht
   obtain⟨s,es,_,k⟩:=go r h
   show jk g ((Dp g st.2 r).getD st)
   rw[es]
   exact k
 | fx d9 t b rs=>
  rw[e] at p lk
  obtain⟨ps,cut,d1,t1,d2,t2,rfl,hp,_,_,rfl,k1,k2,o1,o2⟩:=p
  have gl:kJ ps:=hp
  have go:∀v:Int,0<=v->v<=9->∃r s,mU [(0,cut,d1,t1),(cut+1,9,d2,t2)] v=some r/\Ec g st.2 r v=some s/\dO (.str s.1)=true/\jk g s:=λv v0 v9=>by
   have h:=FI (cut:=cut) (d1:=d1) (d2:=d2) (t1:=t1) (t2:=t2) v0 v9
   by_cases c:v<=cut
   ·rw[if_pos c] at h
    obtain⟨s,a,b,e,_⟩:=G.at o1 (vk G.c0 v0 k1.2 inr)
    exact⟨_,s,h,a,b,e⟩
   ·rw[if_neg c] at h
    obtain⟨s,a,b,e,_⟩:=G.at o2 (vk G.c0 v0 k2.2 inr)
    exact⟨_,s,h,a,b,e⟩
  obtain⟨l4,pv⟩:=rq gl
  refine .inr ⟨(Nm.weigh (gY ps) (Dc ps)).map λx=>(x.2,((mU [(0,cut,d1,t1),(cut+1,9,d2,t2)] x.1).bind λr=>Ec g st.2 r x.1).getD st),?_,λt ht=>?_⟩
  ·unfold c5
   rw[lk]
   refine⟨ps,Dc ps,rfl,gl,l4,Dy gl,by rw[aad];unfold Nm.weigh;rw[aad],λj x ej=>?_⟩
   obtain⟨v0,v9⟩:=pv x (aaj ej)
   obtain⟨r,s,a,b,c,_⟩:=go x.1 v0 v9
   exact⟨r,s,a,by rw[aae,ej];show some (x.2,Option.getD (Option.bind _ _) st)=_;rw[a];show some (x.2,(Ec g st.2 r x.1).getD st)=_;rw[b];rfl,b,c⟩
  ·unfold fK at ht
   rw[aas] at ht
   obtain⟨x,h,rfl⟩:=List.mem_map.mp ht
   obtain⟨v0,v9⟩:=pv x h
   obtain⟨r,s,a,b,_,k⟩:=go x.1 v0 v9
   show jk g (Option.getD (Option.bind _ _) st)
   rw[a]
   show jk g ((Ec g st.2 r x.1).getD st)
   rw[b]
   exact k
theorem FK {cs:List (Str×Int)} (h0:∀(i:Nat) c,cs[i]?=some c->0<=c.2):BF cs (List.replicate cs.length 0):=by
 refine⟨List.length_replicate,λi c e=>?_⟩
 have hi:=(List.getElem?_eq_some_iff.mp e).1
 rw[aaO,List.getElem?_replicate,if_pos hi]
 exact⟨Int.le_refl _,h0 i c e⟩
theorem gi.out (G:gi g n):∃ft nm F o SS tss,(g.ps.map (·.1)).head?=some ft/\dm g (List.replicate g.cs.length 0) F ft=some nm/\dO (.str nm)=true/\o<=2/\fe g o SS 0 [(nm,List.replicate g.cs.length 0)] tss/\SS.length<=120/\SS.Nodup/\∀s∈SS,jk g s:=by
 have n2:=G.n2
 have n6:=G.n6
 obtain⟨j,x,ex,na,e⟩:=G.ask (List.replicate g.cs.length 0) n 0 (Str.ofString "start") (by omega) (by omega) rfl
 obtain⟨o,SS,tss,o2,sp,l,nd,sub,h1,h2⟩:=fe.ex (g:=g) (R:=jk g) (λst h=>G.cl st h) 120 0 [(x.1,List.replicate g.cs.length 0)] (by simp) (λs hs=>by rw[List.mem_singleton.mp hs];exact⟨⟨j,x,ex,na,rfl⟩,FK G.c0⟩) (aak _) (by simp) (by omega)
 refine⟨Str.ofString "start",x.1,n,o,SS,tss,?_,e,G.V3 ex,o2,sp,l,nd,sub⟩
 rw[G.GQ,List.head?_take,if_neg (by omega)]
 rfl
end YH
theorem mX {g:Gm} {st:bO} {ts:List (Int×bO)} {n:Nat} (G:gi g n) (sr:jk g st) (go:c5 g st ts):∀t∈fK ts,jk g t:=by
 rcases(G.cl st sr).2 with h | ⟨V4,GS,h⟩
 ·exact absurd h go.stuck
 ·by_cases c:∃wo rs,look g.ps st.1=some (.pick wo rs)
  ·obtain⟨w,rs,lk⟩:=c
   unfold c5 at go GS
   rw[lk] at go GS
   have go:Goes g st (ts.map (·.2)):=go
   have GS:Goes g st (V4.map (·.2)):=GS
   unfold Goes at go GS
   rw[lk] at go GS
   obtain⟨_,l1,h1⟩:=go
   obtain⟨_,l2,h2⟩:=GS
   intro t ht
   obtain⟨i,hi,ei⟩:=List.getElem_of_mem (show t∈ts.map (·.2) from ht)
   have er:=aax (show i< (bX g.cs st.2 (.pick w rs)).length by omega)
   obtain⟨a,ea,ga,_⟩:=h1 i _ er
   obtain⟨b,eb,gb,_⟩:=h2 i _ er
   rw[ga] at gb
   cases gb
   have:t=a:=by rw[aax hi] at ea;rw[<-ei];exact aaF ea
   rw[this]
   exact h a (aaj eb)
  ·rw[yC (λwo rs e=>c ⟨wo,rs,e⟩) go GS];exact h
noncomputable def uj (cn:Str->Str):Dd->Dd
 | .set n k=>.set (cn n) k
 | .plus n k=>.plus (cn n) k
 | .face n=>.face (cn n)
 | .move n m=>.move (cn n) (cn m)
noncomputable def Ny (cn:Str->Str):Option (Str×Str×Int)->Option (Str×Str×Int)
 | none=>none
 | some (a,b,k)=>some (cn a,b,k)
noncomputable def xc (cn pn wn:Str->Str) (r:Rw):Rw:=⟨wn r.word,Ny cn r.wh,r.ds.map (uj cn),pn r.to⟩
noncomputable def Ed (cn pn:Str->Str) (r:Tw):Tw:=(r.1,r.2.1,r.2.2.1.map (uj cn),pn r.2.2.2)
noncomputable def yE (cn pn wn:Str->Str):Wt->Wt
 | .ask c k a b=>.ask (cn c) k (pn a) (pn b)
 | .fin t b=>.fin t b
 | .score c=>.score (cn c)
 | .pick w rs=>.pick w (rs.map (xc cn pn wn))
 | .fx d9 t b rs=>.fx d9 t b (rs.map (Ed cn pn))
noncomputable def eP (pn:Str->Str) (s:bO):bO:=(pn s.1,s.2.reverse)
noncomputable def Ai (pn:Str->Str) (x:Int×bO):Int×bO:=(x.1,eP pn x.2)
structure dP (g g':Gm) (cn pn wn:Str->Str):Prop where
 ce:g'.cs=(g.cs.map λc=>(cn c.1,c.2)).reverse
 ci:∀x∈g.cs.map (·.1),∀y∈g.cs.map (·.1),cn x=cn y->x=y
 pe:∀p∈g.ps,(pn p.1,yE cn pn wn p.2)∈g'.ps
 pb:∀x∈g'.ps,∃p∈g.ps,x=(pn p.1,yE cn pn wn p.2)
 pl:g'.ps.length=g.ps.length
 nd:(g'.ps.map (·.1)).Nodup
 pi:∀x∈g.ps.map (·.1),∀y∈g.ps.map (·.1),pn x=pn y->x=y
 hp:∀x∈g.ps.map (·.1),dO (.str (pn x))=true
theorem vm {α:Type} {l:List Str} {f:Str->α} (nd:l.Nodup) (inj:∀x∈l,∀y∈l,f x=f y->x=y):(l.map f).Nodup:=by
 unfold List.Nodup at *
 rw[List.pairwise_map]
 exact nd.imp_of_mem λha hb h z=>h (inj _ ha _ hb z)
theorem yF {m:List Str} (nd:m.Nodup) {i:Nat} {y:Str} (e:m[i]?=some y):m.idxOf y=i:=by
 have h:=abd (aaj e)
 have hi:=(List.getElem?_eq_some_iff.mp e).1
 have e2:m[m.idxOf y]=m[i]:=by rw[List.getElem_idxOf,(List.getElem?_eq_some_iff.mp e).2]
 exact(List.getElem_inj nd).mp e2
theorem Dz {l:List Str} (nd:l.Nodup):l.reverse.Nodup:=by
 unfold List.Nodup at *
 exact List.pairwise_reverse.mpr (nd.imp λh=>Ne.symm h)
theorem FL {l:List Str} {f:Str->Str} (nd:l.Nodup) (inj:∀x∈l,∀y∈l,f x=f y->x=y) {x:Str} (hx:x∈l):(l.map f).reverse.idxOf (f x)=l.length - 1 - l.idxOf x:=by
 have hl:=abd hx
 refine yF (Dz (vm nd inj)) ?_
 rw[abc (by rw[aad];omega),aad,aae,show l.length - 1 - (l.length - 1 - l.idxOf x)=l.idxOf x by omega,aax hl,List.getElem_idxOf]
 rfl
theorem rev_getD {l:List Int} {i:Nat} (h:i<l.length):l.reverse.getD (l.length - 1 - i) 0=l.getD i 0:=by
 rw[aaO,abc (by omega),show l.length - 1 - (l.length - 1 - i)=i by omega,aaO]
theorem Aj {l:List Int} {i:Nat} {v:Int} (h:i<l.length):l.reverse.set (l.length - 1 - i) v=(l.set i v).reverse:=by
 apply List.ext_getElem?
 intro j
 rw[List.getElem?_set,aaJ]
 by_cases hj:j<l.length
 ·rw[abc (l:=l.set i v) (by rw[List.length_set];exact hj),List.length_set,List.getElem?_set,abc hj]
  by_cases c:l.length - 1 - i=j
  ·rw[if_pos c,if_pos (by omega),if_pos (by omega),if_pos h]
  ·rw[if_neg c,if_neg (by omega)]
 ·rw[if_neg (by omega),aa1 (by rw[aaJ];omega),aa1 (by rw[aaJ,List.length_set];omega)]
section dQ
variable {g g' : Gm} {n : Nat} {cn pn wn : Str -> Str}
theorem dP.O0 (R:dP g g' cn pn wn):g'.cs.map (·.1)=((g.cs.map (·.1)).map cn).reverse:=by
 rw[R.ce,List.map_reverse,aas,aas]
 rfl
theorem dP.YJ (R:dP g g' cn pn wn):g'.cs.map (·.2)=(g.cs.map (·.2)).reverse:=by
 rw[R.ce,List.map_reverse,aas]
 rfl
theorem dP.cl (R:dP g g' cn pn wn):g'.cs.length=g.cs.length:=by rw[R.ce,aaJ,aad]
theorem dP.bV (R:dP g g' cn pn wn) (G:gi g n) {c:Str} (h:c∈g.cs.map (·.1)):K60.bV g'.cs (cn c)=g.cs.length - 1 - K60.bV g.cs c:=by
 unfold K60.bV
 rw[R.O0,FL G.gg.nc R.ci h,aad]
theorem dP.most (R:dP g g' cn pn wn) {i:Nat} (h:i<g.cs.length):K60.most g'.cs (g.cs.length - 1 - i)=K60.most g.cs i:=by
 unfold K60.most
 rw[R.YJ]
 have:=rev_getD (l:=g.cs.map (·.2)) (i:=i) (by rw[aad];exact h)
 rw[aad] at this
 exact this
theorem dP.put (R:dP g g' cn pn wn) {ns:List Int} (l:ns.length=g.cs.length) {i:Nat} (h:i<g.cs.length) {k:Int}:i8 g'.cs ns.reverse (g.cs.length - 1 - i) k=(i8 g.cs ns i k).reverse:=by
 unfold i8
 rw[R.most h,<-l,Aj (by omega)]
theorem dP.get (R:dP g g' cn pn wn) (G:gi g n) {ns:List Int} (l:ns.length=g.cs.length) {c:Str} (h:c∈g.cs.map (·.1)):ns.reverse.getD (K60.bV g'.cs (cn c)) 0=ns.getD (K60.bV g.cs c) 0:=by
 rw[R.bV G h,<-l]
 exact rev_getD (by rw[l];exact b8 h)
theorem dP.gZ (R:dP g g' cn pn wn) (G:gi g n) {v:Int} {ns:List Int} (l:ns.length=g.cs.length):∀{d:Dd},pU g.cs d->K60.gZ g'.cs v ns.reverse (uj cn d)=(K60.gZ g.cs v ns d).reverse
 | .set c k,h=>by
  show i8 _ _ (K60.bV g'.cs (cn c)) k=_
  rw[R.bV G h.1,R.put l (b8 h.1)]
  rfl
 | .plus c k,h=>by
  show i8 _ _ (K60.bV g'.cs (cn c)) (ns.reverse.getD (K60.bV g'.cs (cn c)) 0+k)=_
  rw[R.get G l h.1,R.bV G h.1,R.put l (b8 h.1)]
  rfl
 | .face c,h=>by
  show i8 _ _ (K60.bV g'.cs (cn c)) (ns.reverse.getD (K60.bV g'.cs (cn c)) 0+v)=_
  rw[R.get G l h,R.bV G h,R.put l (b8 h)]
  rfl
 | .move c d,h=>by
  show(i8 _ _ (K60.bV g'.cs (cn d)) (ns.reverse.getD (K60.bV g'.cs (cn d)) 0+ns.reverse.getD (K60.bV g'.cs (cn c)) 0)).set (K60.bV g'.cs (cn c)) 0=_
  rw[R.get G l h.1,R.get G l h.2.1,R.bV G h.1,R.bV G h.2.1,R.put l (b8 h.2.1)]
  have e:(i8 g.cs ns (K60.bV g.cs d) (ns.getD (K60.bV g.cs d) 0+ns.getD (K60.bV g.cs c) 0)).length=g.cs.length:=by rw[gn,l]
  have:=Aj (l:=i8 g.cs ns (K60.bV g.cs d) (ns.getD (K60.bV g.cs d) 0+ns.getD (K60.bV g.cs c) 0)) (i:=K60.bV g.cs c) (v:=0) (by rw[e];exact b8 h.1)
  rw[e] at this
  rw[this]
  rfl
theorem dP.O1 (R:dP g g' cn pn wn) (G:gi g n) {v:Int}:∀{ds:List Dd} {ns:List Int},ns.length=g.cs.length->(∀d∈ds,pU g.cs d)->(ds.map (uj cn)).foldl (K60.gZ g'.cs v) ns.reverse=(ds.foldl (K60.gZ g.cs v) ns).reverse
 | [],_,_,_=>rfl
 | d::ds,ns,l,h=>by
  rw[aag,List.foldl_cons,List.foldl_cons,R.gZ G l (h d aao)]
  exact dP.O1 R G (ds:=ds) (by rw[zY];exact l) λx hx=>h x (aal _ hx)
theorem dP.xf (R:dP g g' cn pn wn) {c:Str} (h:c∈g.cs.map (·.1)):cn c∈g'.cs.map (·.1):=by
 rw[R.O0]
 exact List.mem_reverse.mpr (List.mem_map.mpr ⟨c,h,rfl⟩)
theorem dP.holds (R:dP g g' cn pn wn) (G:gi g n) {ns:List Int} (l:ns.length=g.cs.length) {wh:Option (Str×Str×Int)} (h:JJ g.cs wh):fJ g'.cs ns.reverse (Ny cn wh)=fJ g.cs ns wh:=by
 cases wh with
 | none=>rfl
 | some x=>
  obtain⟨a,b,k⟩:=x
  have ha:=(h a b k rfl).1
  show(if cn a∈g'.cs.map (·.1) then (if b=_ then decide (k<=ns.reverse.getD (K60.bV g'.cs (cn a)) 0) else decide (ns.reverse.getD (K60.bV g'.cs (cn a)) 0<k)) else false)=(if a∈g.cs.map (·.1) then _ else false)
  rw[if_pos (R.xf ha),if_pos ha,R.get G l ha]
theorem dP.look (R:dP g g' cn pn wn) {nm:Str} {x:Wt} (h:K60.look g.ps nm=some x):K60.look g'.ps (pn nm)=some (yE cn pn wn x):=by
 obtain⟨i,e⟩:=List.mem_iff_getElem?.mp (R.pe _ (fc h))
 exact vh (x:=(pn nm,yE cn pn wn x)) R.nd e
theorem gi.nm (G:gi g n) {to:Str} (h:i9 n to):to∈g.ps.map (·.1):=by
 obtain⟨j,lj,ej⟩:=h
 rw[G.GQ]
 exact aaj (i:=j) (by rw[aa4,if_pos lj];exact ej)
theorem dP.dm (R:dP g g' cn pn wn) (G:gi g n) {ns:List Int} (l:ns.length=g.cs.length):∀(f:Nat) {nm:Str},nm∈g.ps.map (·.1)->K60.dm g' ns.reverse f (pn nm)=(K60.dm g ns f nm).map pn
 | 0,_,_=>rfl
 | f+1,nm,h=>by
  obtain⟨p,hp,rfl⟩:=List.mem_map.mp h
  obtain⟨i,ei⟩:=List.mem_iff_getElem?.mp hp
  have lk:=G.look ei
  have pk:=(G.pn i p ei).2
  unfold K60.dm
  rw[lk,R.look lk]
  cases e:p.2 with
  | ask c k a b=>
   rw[e] at pk
   obtain⟨hc,⟨ja,_,la,ea⟩,⟨jb,_,lb,eb⟩⟩:=pk
   show(if k<=ns.reverse.getD (K60.bV g'.cs (cn c)) 0 then K60.dm g' ns.reverse f (pn a) else K60.dm g' ns.reverse f (pn b))=Option.map pn (if k<=ns.getD (K60.bV g.cs c) 0 then _ else _)
   rw[R.get G l hc]
   split
   ·exact dP.dm R G l f (G.nm ⟨ja,la,ea⟩)
   ·exact dP.dm R G l f (G.nm ⟨jb,lb,eb⟩)
  | fin t b=>rfl
  | score c=>rfl
  | pick Ff rs=>rfl
  | fx d9 t b rs=>rfl
theorem dP.bX (R:dP g g' cn pn wn) (G:gi g n) {ns:List Int} (l:ns.length=g.cs.length) {w:Int}:∀{rs:List Rw},(∀r∈rs,JJ g.cs r.wh)->K60.bX g'.cs ns.reverse (.pick w (rs.map (xc cn pn wn)))=(K60.bX g.cs ns (.pick w rs)).map (xc cn pn wn)
 | [],_=>rfl
 | r::rs,h=>by
  have ih:=dP.bX R G l (w:=w) (rs:=rs) λx hx=>h x (aal _ hx)
  have e:=R.holds G l (h r aao)
  show List.filter (λr=>fJ g'.cs ns.reverse r.wh) (xc cn pn wn r::rs.map (xc cn pn wn))=List.map (xc cn pn wn) (List.filter (λr=>fJ g.cs ns r.wh) (r::rs))
  rw[List.filter_cons,List.filter_cons]
  show(if fJ g'.cs ns.reverse (Ny cn r.wh)=true then _ else _)=_
  rw[e]
  split
  ·rw[aag];exact congrArg _ ih
  ·exact ih
theorem dP.Dp (R:dP g g' cn pn wn) (G:gi g n) {ns:List Int} (l:ns.length=g.cs.length) {r:Rw} (dk:lT g.cs r.ds) (to:i9 n r.to):K60.Dp g' ns.reverse (xc cn pn wn r)=(K60.Dp g ns r).map (eP pn):=by
 show((K60.dm g' ((r.ds.map (uj cn)).foldl (K60.gZ g'.cs 0) ns.reverse) (g'.ps.length+1) (pn r.to)).map λnm=>(nm,(r.ds.map (uj cn)).foldl (K60.gZ g'.cs 0) ns.reverse))=Option.map (eP pn) ((K60.dm g (r.ds.foldl (K60.gZ g.cs 0) ns) (g.ps.length+1) r.to).map λnm=>(nm,r.ds.foldl (K60.gZ g.cs 0) ns))
 rw[R.O1 G l dk.2,R.pl,R.dm G (by rw[fy];exact l) _ (G.nm to),Option.map_map,Option.map_map]
 rfl
theorem dP.Ec (R:dP g g' cn pn wn) (G:gi g n) {ns:List Int} (l:ns.length=g.cs.length) {r:Tw} {v:Int} (dk:lT g.cs r.2.2.1) (to:i9 n r.2.2.2):K60.Ec g' ns.reverse (Ed cn pn r) v=(K60.Ec g ns r v).map (eP pn):=by
 show((K60.dm g' ((r.2.2.1.map (uj cn)).foldl (K60.gZ g'.cs v) ns.reverse) (g'.ps.length+1) (pn r.2.2.2)).map λnm=>(nm,(r.2.2.1.map (uj cn)).foldl (K60.gZ g'.cs v) ns.reverse))=Option.map (eP pn) ((K60.dm g (r.2.2.1.foldl (K60.gZ g.cs v) ns) (g.ps.length+1) r.2.2.2).map λnm=>(nm,r.2.2.1.foldl (K60.gZ g.cs v) ns))
 rw[R.O1 G l dk.2,R.pl,R.dm G (by rw[fy];exact l) _ (G.nm to),Option.map_map,Option.map_map]
 rfl
theorem jk.nm {s:bO} (h:jk g s):s.1∈g.ps.map (·.1):=by
 obtain⟨⟨j,x,e,_,es⟩,_⟩:=h
 rw[es]
 exact List.mem_map.mpr ⟨x,aaj e,rfl⟩
theorem dP.inj (R:dP g g' cn pn wn) {s t:bO} (hs:jk g s) (ht:jk g t) (e:eP pn s=eP pn t):s=t:=by
 have e1:pn s.1=pn t.1:=congrArg Prod.fst e
 have e2:s.2.reverse=t.2.reverse:=congrArg Prod.snd e
 exact Prod.ext (R.pi _ hs.nm _ ht.nm e1) (List.reverse_inj.mp e2)
theorem dP.mem (R:dP g g' cn pn wn) {ss:List bO} {s:bO} (h:∀x∈ss,jk g x) (hs:jk g s):eP pn s∈ss.map (eP pn)↔s∈ss:=by
 constructor
 ·intro m
  obtain⟨t,ht,e⟩:=List.mem_map.mp m
  rw[<-R.inj (h t ht) hs e]
  exact ht
 ·exact λm=>List.mem_map.mpr ⟨s,m,rfl⟩
theorem dP.eX (R:dP g g' cn pn wn) {ss:List bO} {s:bO} (h:∀x∈ss,jk g x) (hs:jk g s):K60.eX (ss.map (eP pn)) (eP pn s)=(K60.eX ss s).map (eP pn):=by
 unfold K60.eX
 by_cases c:s∈ss
 ·rw[if_pos c,if_pos ((R.mem h hs).mpr c)]
 ·rw[if_neg c,if_neg (λz=>c ((R.mem h hs).mp z)),aan]
  rfl
theorem dP.aQ (R:dP g g' cn pn wn):∀{ts ss:List bO},(∀x∈ss,jk g x)->(∀x∈ts,jk g x)->K60.aQ (ss.map (eP pn)) (ts.map (eP pn))=(K60.aQ ss ts).map (eP pn)
 | [],_,_,_=>rfl
 | t::ts,ss,h,k=>by
  show K60.aQ (K60.eX (ss.map (eP pn)) (eP pn t)) (ts.map (eP pn))=(K60.aQ (K60.eX ss t) ts).map _
  have ht:=k t aao
  rw[R.eX h ht]
  refine dP.aQ R (ts:=ts) (λx hx=>?_) λx hx=>k x (aal _ hx)
  rcases ui.mp hx with hx | rfl
  ·exact h x hx
  ·exact ht
theorem dP.idx (R:dP g g' cn pn wn):∀{ss:List bO} {s:bO},(∀x∈ss,jk g x)->jk g s->(ss.map (eP pn)).idxOf (eP pn s)=ss.idxOf s
 | [],_,_,_=>rfl
 | t::ss,s,h,hs=>by
  have ih:=dP.idx R (ss:=ss) (s:=s) (λx hx=>h x (aal _ hx)) hs
  rw[aag,List.idxOf_cons,List.idxOf_cons,ih]
  by_cases c:t=s
  ·rw[c,beq_self_eq_true,beq_self_eq_true]
  ·rw[beq_false_of_ne c,beq_false_of_ne (λz=>c (R.inj (h t aao) hs z))]
theorem dP.stuck (R:dP g g' cn pn wn) (G:gi g n) {st:bO} (sr:jk g st) (h:kO g st):kO g' (eP pn st):=by
 obtain⟨w,rs,lk,e⟩:=h
 obtain⟨⟨j,x,ex,_,es⟩,ir⟩:=id sr
 have V5:=G.look ex
 rw[<-es,lk] at V5
 have pk:=(G.pn j x ex).2
 rw[<-aaF V5] at pk
 refine⟨w,rs.map (xc cn pn wn),R.look lk,?_⟩
 rw[show(eP pn st).2=st.2.reverse from rfl,R.bX G ir.1 λr hr=>(pk.2 r hr).2.2.2,e]
 rfl
theorem Bq {rs:List Tw} {v:Int}:mU (rs.map (Ed cn pn)) v=(mU rs v).map (Ed cn pn):=by
 unfold mU
 rw[List.find?_map]
 rfl
theorem dP.K9 (R:dP g g' cn pn wn) (G:gi g n) {st:bO} {ts:List (Int×bO)} (sr:jk g st) (go:c5 g st ts):c5 g' (eP pn st) (ts.map (Ai pn)):=by
 have sub:=mX G sr go
 obtain⟨⟨j,x,ex,na,es⟩,ir⟩:=id sr
 have lk:=G.look ex
 rw[<-es] at lk
 have pk:=(G.pn j x ex).2
 have mq:=R.look lk
 unfold c5 at go ⊢
 rw[lk] at go
 rw[show(eP pn st).1=pn st.1 from rfl,mq]
 cases e:x.2 with
 | ask c k a b=>exact absurd e (na c k a b)
 | fin t b=>rw[e] at go;have go:ts=[]:=go;subst go;rfl
 | score c=>rw[e] at go;have go:ts=[]:=go;subst go;rfl
 | pick w rs=>
  rw[e] at go lk mq pk
  have go:Goes g st (ts.map (·.2)):=go
  show Goes g' (eP pn st) ((ts.map (Ai pn)).map (·.2))
  unfold Goes at go ⊢
  rw[lk] at go
  rw[show(eP pn st).1=pn st.1 from rfl,mq]
  have eo:=R.bX G ir.1 (w:=w) (rs:=rs) λr hr=>(pk.2 r hr).2.2.2
  obtain⟨ne,l,h⟩:=go
  show K60.bX g'.cs st.2.reverse (.pick w (rs.map (xc cn pn wn)))≠[]/\_
  show _/\_=(K60.bX g'.cs st.2.reverse (.pick w (rs.map (xc cn pn wn)))).length/\∀(i:Nat) r,(K60.bX g'.cs st.2.reverse (.pick w (rs.map (xc cn pn wn))))[i]?=some r->∃t,_/\K60.Dp g' st.2.reverse r=some t/\_
  rw[eo]
  refine⟨λz=>ne (List.map_eq_nil_iff.mp z),by rw[aad,aad,aad];rw[aad] at l;exact l,λi r er=>?_⟩
  rw[aae] at er
  obtain⟨r0,e0,rfl⟩:=Option.map_eq_some_iff.mp er
  obtain⟨t,et,eg,ht⟩:=h i r0 e0
  have hr:=aaj e0
  have hr:=(List.mem_filter.mp (show r0∈List.filter (λr=>fJ g.cs st.2 r.wh) rs from hr)).1
  refine⟨eP pn t,?_,by rw[R.Dp G ir.1 (pk.2 r0 hr).1 (pk.2 r0 hr).2.1,eg];rfl,R.hp _ (sub t (aaj et)).nm⟩
  rw[aas,aae]
  rw[aae] at et
  obtain⟨y,ey,rfl⟩:=Option.map_eq_some_iff.mp et
  rw[ey]
  rfl
 | fx d9 t b rs=>
  rw[e] at go pk
  obtain⟨ps,B,e1,gl,l4,ib,lt,h⟩:=go
  obtain⟨Br,cut,d1,t1,d2,t2,_,_,_,_,YK,k1,k2,o1,o2⟩:=pk
  refine⟨ps,B,e1,gl,l4,ib,by rw[aad];exact lt,λi x ex=>?_⟩
  obtain⟨r,s,er,et,eg,hs⟩:=h i x ex
  have hr:r∈rs:=List.mem_of_find?_eq_some er
  have hk:lT g.cs r.2.2.1/\i9 n r.2.2.2:=by
   rw[YK] at hr
   rcases List.mem_cons.mp hr with rfl | hr
   ·exact⟨k1,o1⟩
   ·rw[List.mem_singleton.mp hr];exact⟨k2,o2⟩
  refine⟨Ed cn pn r,eP pn s,by rw[Bq,er];rfl,by rw[aae,et];rfl,?_,R.hp _ (sub s (List.mem_map.mpr ⟨_,aaj et,rfl⟩)).nm⟩
  rw[show(eP pn st).2=st.2.reverse from rfl,R.Ec G ir.1 hk.1 hk.2,eg]
  rfl
theorem Ak {ts:List (Int×bO)}:fK (ts.map (Ai pn))=(fK ts).map (eP pn):=by
 unfold fK
 rw[aas,aas]
 rfl
theorem dP.La (R:dP g g' cn pn wn) (G:gi g n) {o:Nat} {SS:List bO}:∀{r:List (List (Int×bO))} {i:Nat} {ss:List bO},(∀s∈ss,jk g s)->fe g o SS i ss r->fe g' o (SS.map (eP pn)) i (ss.map (eP pn)) (r.map λts=>ts.map (Ai pn))
 | [],i,ss,sub,⟨⟨q,e⟩,h0,h1,h2⟩=>by
  refine⟨⟨q.map (eP pn),by rw[e,aan]⟩,λz=>?_,λz=>?_,λz=>?_⟩
  ·obtain⟨a,b⟩:=h0 z
   exact⟨by rw[a],by rw[aad];exact b⟩
  ·obtain⟨st,es,ls,sk⟩:=h1 z
   exact⟨eP pn st,by rw[aae,es];rfl,by show st.2.reverse.length=_;rw[aaJ,ls,R.cl],R.stuck G (sub st (aaj es)) sk⟩
  ·obtain⟨st,ts,es,ls,go,l⟩:=h2 z
   have sr:=sub st (aaj es)
   exact⟨eP pn st,ts.map (Ai pn),by rw[aae,es];rfl,by show st.2.reverse.length=_;rw[aaJ,ls,R.cl],R.K9 G sr go,by rw[Ak,R.aQ sub (mX G sr go),aad];exact l⟩
 | ts::r,i,ss,sub,⟨st,es,ls,go,h⟩=>by
  have sr:=sub st (aaj es)
  have xP:=mX G sr go
  have ih:=dP.La R G (r:=r) (λs hs=>(gN.mp hs).elim (sub s) (xP s)) h
  rw[<-R.aQ sub xP,<-Ak] at ih
  exact⟨eP pn st,by rw[aae,es];rfl,by show st.2.reverse.length=_;rw[aaJ,ls,R.cl],R.K9 G sr go,ih⟩
theorem Am {o:Nat} {SS:List bO}:∀{r:List (List (Int×bO))} {i:Nat} {ss:List bO},fe g o SS i ss r->∀(k:Nat) st ts,SS[i+k]?=some st->r[k]?=some ts->c5 g st ts
 | [],_,_,_,k,st,ts,_,e=>by simp at e
 | us::r,i,ss,⟨s0,e0,_,go,h⟩,k,st,ts,es,e=>by
  cases k with
  | zero=>
   cases e
   obtain⟨q,eq⟩:=(eO (fK us) ss).trans h.xa
   rw[eq,Nat.add_zero,aaZ (List.getElem?_eq_some_iff.mp e0).1,e0] at es
   cases es
   exact go
  | succ k=>exact Am h k st ts (by rw[show i+1+k=i+ (k+1) by omega];exact es) e
theorem dP.YL (R:dP g g' cn pn wn) (G:gi g n) {SS:List bO} {st:bO} {ts:List (Int×bO)} (sub:∀s∈SS,jk g s) (sr:jk g st) (go:c5 g st ts):mV g' (SS.map (eP pn)) (eP pn st) (ts.map (Ai pn))=mV g SS st ts:=by
 have xP:=mX G sr go
 obtain⟨⟨j,x,ex,na,es⟩,ir⟩:=id sr
 have lk:=G.look ex
 rw[<-es] at lk
 have pk:=(G.pn j x ex).2
 have mq:=R.look lk
 have ix:∀y∈ts,(SS.map (eP pn)).idxOf (eP pn y.2)=SS.idxOf y.2:=λy hy=>R.idx sub (xP y.2 (List.mem_map.mpr ⟨y,hy,rfl⟩))
 unfold mV
 rw[show(eP pn st).1=pn st.1 from rfl,mq,lk]
 cases e:x.2 with
 | ask c k a b=>exact absurd e (na c k a b)
 | fin t b=>
  rw[e] at lk mq
  show ox _ _ _ _=ox _ _ _ _
  unfold ox
  rw[show(eP pn st).1=pn st.1 from rfl,mq,lk]
  rfl
 | score c=>
  rw[e] at lk mq pk
  show ox _ _ _ _=ox _ _ _ _
  unfold ox
  rw[show(eP pn st).1=pn st.1 from rfl,mq,lk]
  show Dat.tup [_,.tup [.int (st.2.reverse.getD (K60.bV g'.cs (cn c)) 0),_]]=_
  rw[R.get G ir.1 pk]
  rfl
 | pick w rs=>
  rw[e] at lk mq
  show ox _ _ _ _=ox _ _ _ _
  unfold ox
  rw[show(eP pn st).1=pn st.1 from rfl,mq,lk]
  show Dat.tup [_,_,.lst (((ts.map (Ai pn)).map (·.2)).map λt=>Dat.int (((SS.map (eP pn)).idxOf t:Nat):Int))]=Dat.tup [_,_,.lst ((ts.map (·.2)).map λt=>Dat.int ((SS.idxOf t:Nat):Int))]
  rw[aas,aas,aas]
  exact congrArg (λl=>Dat.tup [_,_,Dat.lst l]) (List.map_congr_left λy hy=>by show Dat.int ((((SS.map (eP pn)).idxOf (eP pn y.2):Nat)):Int)=_;rw[ix y hy];rfl)
 | fx d9 t b rs=>
  show Dat.tup [_,_,.lst ((ts.map (Ai pn)).map (Bn (SS.map (eP pn))))]=Dat.tup [_,_,.lst (ts.map (Bn SS))]
  rw[aas]
  exact congrArg (λl=>Dat.tup [_,_,Dat.lst l]) (List.map_congr_left λy hy=>by show Dat.tup [.int y.1,.int ((((SS.map (eP pn)).idxOf (eP pn y.2):Nat)):Int)]=_;rw[ix y hy];rfl)
theorem dP.YM (R:dP g g' cn pn wn) (G:gi g n) {SS ss:List bO} {tss:List (List (Int×bO))} (sub:∀s∈SS,jk g s) (sp:fe g 0 SS 0 ss tss):vg g' (SS.map (eP pn)) (tss.map λts=>ts.map (Ai pn))=vg g SS tss:=by
 unfold vg
 rw[List.zip_map,aas]
 refine List.map_congr_left λx hx=>?_
 obtain⟨k,hk⟩:=List.mem_iff_getElem?.mp hx
 obtain⟨e1,e2⟩:=List.getElem?_zip_eq_some.mp hk
 exact R.YL G sub (sub _ (aaj e1)) (Am sp k x.1 x.2 (by rw[Nat.zero_add];exact e1) e2)
noncomputable def vn (wn:Str->Str) (g:Gm) (st:bO):Dat:=.lst ((K60.bX g.cs st.2 ((K60.look g.ps st.1).getD (.fin 0 1))).map λr=>Dat.str (wn r.word))
theorem dP.words (R:dP g g' cn pn wn) (G:gi g n) {st:bO} (sr:jk g st):gq g' (eP pn st)=vn wn g st:=by
 obtain⟨⟨j,x,ex,na,es⟩,ir⟩:=id sr
 have lk:=G.look ex
 rw[<-es] at lk
 have pk:=(G.pn j x ex).2
 have mq:=R.look lk
 unfold gq vn
 rw[show(eP pn st).1=pn st.1 from rfl,mq,lk]
 show Dat.lst ((K60.bX g'.cs st.2.reverse (yE cn pn wn x.2)).map _)=Dat.lst ((K60.bX g.cs st.2 x.2).map _)
 cases e:x.2 with
 | pick w rs=>
  rw[e] at pk
  show Dat.lst ((K60.bX g'.cs st.2.reverse (.pick w (rs.map (xc cn pn wn)))).map _)=_
  rw[R.bX G ir.1 λr hr=>(pk.2 r hr).2.2.2,aas]
  rfl
 | ask c k a b=>rfl
 | fin t b=>rfl
 | score c=>rfl
 | fx d9 t b rs=>rfl
theorem dP.gg (R:dP g g' cn pn wn) (G:gi g n):GoodG g':=by
 have dg:∀{d:Dd},pU g.cs d->pB g'.cs (uj cn d):=λ{d} h=>by
  cases d with
  | set c k=>exact R.xf h.1
  | plus c k=>exact R.xf h.1
  | face c=>exact R.xf h
  | move c m=>exact⟨R.xf h.1,R.xf h.2.1⟩
 have O2:∀{ds:List Dd},lT g.cs ds->(ds.map (uj cn)).length<=100/\∀d∈ds.map (uj cn),pB g'.cs d:=λ{ds} h=>⟨by rw[aad];have:=h.1;omega,λd hd=>by
  obtain⟨x,hx,rfl⟩:=List.mem_map.mp hd
  exact dg (h.2 x hx)⟩
 have c3:=G.c3
 have lp:=G.lp
 have n6:=G.n6
 have n2:=G.n2
 refine⟨?_,R.nd,by rw[R.cl];omega,by rw[R.pl];omega,by rw[R.pl];omega,λx hx=>?_⟩
 ·rw[R.O0]
  exact Dz (vm G.gg.nc R.ci)
 ·obtain⟨p,hp,rfl⟩:=R.pb x hx
  obtain⟨i,ei⟩:=List.mem_iff_getElem?.mp hp
  have pk:=(G.pn i p ei).2
  show De g'.cs (yE cn pn wn p.2)
  cases e:p.2 with
  | ask c k a b=>rw[e] at pk;exact R.xf pk.1
  | fin t b=>exact trivial
  | score c=>rw[e] at pk;exact R.xf pk
  | pick w rs=>
   rw[e] at pk
   refine⟨by rw[aad];have:=pk.1;omega,λr hr=>?_⟩
   obtain⟨r0,h0,rfl⟩:=List.mem_map.mp hr
   exact O2 (pk.2 r0 h0).1
  | fx d9 t b rs=>
   rw[e] at pk
   obtain⟨ps,cut,d1,t1,d2,t2,rfl,hp,_,_,rfl,k1,k2,_⟩:=pk
   have:=(rq (show kJ ps from hp)).1
   refine⟨by rw[aad];omega,by simp,λr hr=>?_⟩
   obtain⟨r0,h0,rfl⟩:=List.mem_map.mp hr
   rcases List.mem_cons.mp h0 with rfl | h0
   ·exact O2 k1
   ·rw[List.mem_singleton.mp h0];exact O2 k2
end dQ
noncomputable def An (K:PySem.W.Frag):Sp:=λvs H Q _=>∃(a:Addr) (ns:List Int),vs=[.ref a]/\bD K H a (ns.map V.int)/\ns.length<=63/\∀H',Q (.bl true) H'
section
variable {P : Program} {w : World} {K : PySem.W.Frag} {mg : Str -> Option Value} {base : Heap}
variable {aH aI aE aO af av : Addr}
theorem gO:aY ["one","other","rest"] ["one","other"] (aq (top 7)):=⟨rfl,rfl,rfl,by ac_rfl,rfl,by ac_rfl,by ac_rfl⟩
theorem GU (T:Txt K mg aH aI aE aO af av):c6 P w K mg base (bG P w) 1 "common_divisor" ["one","other"] C7:=by
 refine T.oh.fC (λ_ _ _ _ _ _=>gX λ_ _=>rfl) λf fd F=>F.gJ gO (λvs H Q E h=>?_) (λbZ A outer s H vs Q E hr h=>?_)
 ·obtain⟨_,_,rfl,_⟩:=h;rfl
 ·symm
  obtain⟨a,b,rfl,k⟩:=h
  nofun
  have nd:=gO.nd
  refine⟨_,(ao (aR (i:=0) nd rfl (Or.inl rfl) (bc vR (by rfl) T.z_abs rfl (aa (pv 0) ai (se rfl)) (he:=se rfl) (hpl:=na rfl)))
  (ao (aR (i:=1) nd rfl (Or.inl rfl) (bc vR (by rfl) T.z_abs rfl (aa (pv 1) ai (se rfl)) (he:=se rfl) (hpl:=na rfl)))
  (ao (ql PassesOwn.never (aU BW (pv 1) ag (bb _)) (ao (aR (i:=2) nd rfl (Or.inl rfl) (aL bE (pv 0) (pv 1)))
  (ao (aR (i:=0) nd rfl (Or.inl rfl) (pv 1))
  (ar (aR (i:=1) nd rfl (Or.inl rfl) (pv 2))))))
  (ar (aT (pv 0)))))),?_⟩
  refine(?_:let cI:TS:=_;let cJ:TS:=_;let cK:TS:=_;let eC:TS:=_;tSeq cI (tSeq cJ (tSeq cK eC)) _ _ _)
  intro cI cJ cK eC
  simp_all only[]
  refine BU (λσ H1=>H1=H/\∃(x y:Int) (z:Option V),σ=[some (.int x),some (.int y),z]/\0<=x/\0<=y/\Nm.g x y=Nm.g a b) (λσ _=>match σ with | [_,some (.int y),_]=>y.toNat | _=>0) ?_ ?_ ?_
  ·refine⟨rfl,_,_,_,rfl,?_,?_,?_⟩
   ·split <;>omega
   ·split <;>omega
   ·rw[show(if a<0 then -a else a)=(a.natAbs:Int) by split <;>omega,show(if b<0 then -b else b)=(b.natAbs:Int) by split <;>omega,Nm.Gy,Nm.zD]
  ·intro σ H1 dF
   symm
   obtain⟨rfl,x,y,z,rfl,x0,y0,e⟩:=dF
   nofun
   simp_all only[]
   refine pL (λc=>?_) (λc=>?_)
   ·refine⟨by omega,y0,Int.emod_nonneg _ (by omega),by rw[Nm.HM x0 (by omega),e],?_⟩
    have:=Int.emod_lt_of_pos x (show 0<y by omega)
    have:=Int.emod_nonneg x (show y≠0 by omega)
    omega
   ·have z:y=0:=by omega
    subst z
    rw[Nm.HN x0] at e
    rw[e]
    exact k
  ·intro σ H1 Q1 Q2 hq hc
   simp only[L2.start,Pr,tRev,tSortR,tD1,tDPop1,tSl,tNoPart,tPart,rSlL,tDIn,tDNotIn,gSub,rSetL,tLst,tDNewK,tComp,L2.stC,tFor_eq,iList,iTup,iRng1,iRng2,iZip,iEnum,iDict,iStr,tChain,tSumV,tBM,rJoin,tJoined,jNil,jLit,jInt,jStr,tRaise,tDGet,tDGet2,tDGet1,sDPut,Option.join_some,List.getElem?_nil,tSeq,tRet,tRetN,tIfS,tTest,tB,tOp,tUn,tVar,tC,tCB,tCons,tNil,tCall,tTupS,tAsg,gName,gNil,gCons,tPar,tNext,tDrop,tAnd,tOr,tNot,tAndV,tOrV,tNotV,tIf,rI,rI0,rU,rIxTH,rIxLH,rEqT,rNeT,rInT,rEq,rNe,scal,CPow,at0,at1,at2,aag,aaL,aap,aaR,Nat.reduceSub,Nat.reduceAdd,Nat.zero_add,List.replicate_zero,List.reduceReplicate,aaT,List.nil_append,List.cons_append,List.getElem?_cons_zero,List.getElem?_cons_succ,aa7,aa8,Option.some.injEq,exists_eq_left',exists_eq_left,V.ref.injEq,V.int.injEq,V.bl.injEq,V.str.injEq,V.ty.injEq,HO.tup.injEq,HO.lst.injEq,List.cons.injEq,and_true,true_and,and_assoc,exists_and_left,decide_eq_true_eq,Bool.not_eq_true',decide_eq_false_iff_not,ite_true,ite_false,if_true,if_false,Int.reduceToNat,eq_self_iff_true] at hc ⊢
   symm
   obtain⟨v,e1,e2,q⟩:=hc
   nofun
   exact⟨v,e1,e2,hq _ _ q⟩
theorem xg:aY ["top","bottom","divisor"] ["top","bottom"] (aq (top 8)):=⟨rfl,rfl,rfl,by ac_rfl,rfl,by ac_rfl,by ac_rfl⟩
theorem Lb (T:Txt K mg aH aI aE aO af av):c6 P w K mg base (bG P w) 2 "share" ["top","bottom"] (Ih aH):=by
 have fz:c6 P w K mg base (bG P w) 1 "common_divisor" ["one","other"] C7:=GU T
 refine T.Fo.fC (λ_ _ _ _ _ _=>gX λ_ _=>rfl) λf fd F=>F.Gz xg (λvs H Q E h=>?_) (λbZ A outer s H vs Q E hr h=>?_)
 ·obtain⟨_,_,rfl,_⟩:=h;rfl
 ·symm
  obtain⟨a,b,rfl,bt,kE,kQ⟩:=h
  nofun
  have nd:=xg.nd
  have yG:A.handled=none:=hr.hd
  refine⟨_,(ao (bK (aU cA (pv 1) ag (bb _)) (ar (hZ rfl T.k_NoShare T.x_NoShare yG (aa aG ai (se rfl)) (he:=se rfl) (hpl:=na rfl)))
   bj)
  (ao (aR (i:=2) nd rfl (Or.inl rfl) (bg fz (hr.mono (by decide)) rfl aK.pass (aa (pv 0) (aa (pv 1) ai (se rfl)) (se rfl)) (he:=se rfl) (hpl:=na rfl)))
  (ao (bK (aU o7 (pv 1) ag (bb _)) (ar (aR (i:=2) nd rfl (Or.inl rfl) (kG gT (pv 2))))
   bj)
  (ar (aT (aX (aa (aL wd (pv 0) (pv 2)) (aa (aL wd (pv 1) (pv 2)) ai (se rfl)) (se rfl)))))))),?_⟩
  refine(?_:let cI:TS:=_;let cJ:TS:=_;let cK:TS:=_;let eC:TS:=_;tSeq cI (tSeq cJ (tSeq cK eC)) _ _ _)
  intro cI cJ cK eC
  simp_all only[C7,tRaise]
  refine pL (λz=>?_) (λz=>?_)
  ·exact⟨by decide,kE z⟩
  ·have g0:0<Nm.g a b:=Nm.Gx z
   have gb:Bt 5000 (Nm.g a b):=bt.le (by have:=Nm.Ck (a:=a) z;omega)
   have kq:=kQ z
   unfold Nm.st Nm.sb at kq
   refine pL (λc=>?_) (λc=>?_)
   ·rw[if_pos c,if_pos c] at kq
    rw[Nm.Co g0 (Nm.uG a b),Nm.Co g0 (Nm.p9 a b)]
    exact⟨qx.of (by omega) gb.neg,qx.of (by omega) gb.neg,by decide,λp H2 s1 n1 e=>kq p H2 s1 n1 e⟩
   ·rw[if_neg c,if_neg c] at kq
    rw[Nm.Cn g0,Nm.Cn g0]
    exact⟨qx.of (by omega) gb,qx.of (by omega) gb,by decide,λp H2 s1 n1 e=>kq p H2 s1 n1 e⟩
theorem fN:aY ["weights","bottom"] ["weights","bottom"] (aq (top 11)):=⟨rfl,rfl,rfl,by ac_rfl,rfl,by ac_rfl,by ac_rfl⟩
theorem Lc (T:Txt K mg aH aI aE aO af av):c6 P w K mg base (bG P w) 3 "table_by_weights" ["weights","bottom"] Fq:=by
 have FN:c6 P w K mg base (bG P w) 2 "share" ["top","bottom"] (Ih aH):=Lb T
 refine T.lJ.fC (λ_ _ _ _ _ _=>gX λ_ _=>rfl) λf fd F=>F.gJ fN (λvs H Q E h=>?_) (λbZ A outer s H vs Q E hr h=>?_)
 ·obtain⟨_,_,_,rfl,_⟩:=h;rfl
 ·symm
  obtain⟨d,B,ws,rfl,hd,ndk,hz,B0,bB,k⟩:=h
  nofun
  have nd:=fN.nd
  refine⟨_,(ar (aT (cX rfl (N:=["weights","bottom"]) (so:=aq (top 11)) (N':=["value","weights","bottom"]) (k:=1) (fr:=[0,1]) rfl rfl ⟨rfl,by ac_rfl,by ac_rfl,by ac_rfl,rfl,by ac_rfl,by ac_rfl⟩ (bo (K:=K) (bc qD (by rfl) T.z_sorted rfl (aa (pv 0) ai (se rfl)) (he:=se rfl) (hpl:=na rfl))) (λ_ _ _ _ _=>(aP (i:=0) (show(["value","weights","bottom"]:List Str).Nodup by ac_rfl) rfl (Or.inl rfl))) (λ_ _ _ _ _=>cm)
   (λ_ _ _ _ _=>(aX (aa (pv 0) (aa (bg FN (hr.mono (by decide)) rfl aK.pass (aa (bY (cQ hr) (pv 1) (pv 0) (λ_ _=>rfl)) (aa (pv 2) ai (se rfl)) (se rfl)) (he:=se rfl) (hpl:=na rfl)) ai (se rfl)) (se rfl))))))),?_⟩
  simp_all only[]
  refine⟨enc ws,.inl hd,Cs ws,by rw[uL];exact hz,λl nl=>⟨⟨_,bD.of aj⟩,?_⟩⟩
  rw[A2]
  have sm:aA H (upd H l (.lst (List.map V.int (Nm.sH (Nm.keys ws))))):=ae nl
  have ll:(List.map V.int (Nm.sH (Nm.keys ws))).length=ws.length:=by rw[aad,Nm.iL];unfold Nm.keys;rw[aad]
  refine comp_map (src_list (λH2 s2=>s2.seq (bD.of aj))) (λ_ _ _ _ h=>by rw[h.1];exact aA.refl _) (by rw[ll,sizeLine_eq];omega) (λi y H2=>∀r,(Nm.rowsOf ws B)[i]?=some r->Rep H2 (E9 r) y) (λi y H2 H3 s3 h r e=>(h r e).mono s3) ?_ ?_
  ·rintro i x w0 H2 H3 Q2 hi s2 ⟨rfl,hx⟩ kq
   rw[aae] at hx
   symm
   obtain⟨v,ev,rfl⟩:=Option.map_eq_some_iff.mp hx
   nofun
   have hv:v∈Nm.keys ws:=Nm.E4.mp (aaj ev)
   have hd2:=s2 _ _ (sm _ _ hd)
   simp_all only[Ih]
   refine⟨_,Ct hd2 hv,_,rfl,bB,λz=>absurd z B0,λ_ p H4 s4 _ e4=>⟨by decide,λp5 H5 s5 _ e5=>?_⟩⟩
   refine kq _ _ (s4.trans s5) λr er=>?_
   have:r=(v,Nm.st (Nm.look ws v) B,Nm.sb (Nm.look ws v) B):=by
    unfold Nm.rowsOf at er
    rw[aae,ev] at er
    exact(aaF er).symm
   subst this
   exact mJ.mpr ⟨p5,p,rfl,e5,s5 _ _ e4⟩
  ·intro ys H2 s2 ly hy D n1 n2
   refine k _ _ (sm.trans (s2.trans (ae n2))) (none_of sm n1) (aS.mpr ⟨D,ys,rfl,aj,?_⟩)
   refine aZ.of ?_ λi dd v e1 e2=>?_
   ·rw[aad,ly]
    unfold Nm.rowsOf
    rw[aad,aad]
   ·rw[aae] at e1
    symm
    obtain⟨r,er,rfl⟩:=Option.map_eq_some_iff.mp e1
    nofun
    exact(hy i v e2 r er).mono (ae n2)
theorem pC:aY ["rows","weights","value","weight"] ["rows"] (aq (top 12)):=⟨rfl,rfl,rfl,by ac_rfl,rfl,by ac_rfl,by ac_rfl⟩
theorem Ld (T:Txt K mg aH aI aE aO af av):c6 P w K mg base (bG P w) 4 "table_of" ["rows"] (Ii aI):=by
 have lU:c6 P w K mg base (bG P w) 3 "table_by_weights" ["weights","bottom"] Fq:=Lc T
 refine T.ym.fC (λ_ _ _ _ _ _=>ij λ_=>rfl) λf fd F=>F.Gz pC (λvs H Q E h=>?_) (λbZ A outer s H vs Q E hr h=>?_)
 ·obtain⟨_,_,rfl,_⟩:=h;rfl
 ·symm
  obtain⟨v,ps,rfl,rp,hz,hb,hw,kE,kQ⟩:=h
  nofun
  have nd:=pC.nd
  have yG:A.handled=none:=hr.hd
  refine⟨_,(ao (aR (i:=1) nd rfl (Or.inl rfl) mD)
  (ao (cY PassesOwn.leaving rfl (bo (K:=K) (pv 0)) (c9 (K:=K) (n:=2) rfl (bf (aP (i:=2) nd rfl (Or.inl rfl)) (bf (aP (i:=3) nd rfl (Or.inl rfl)) c8))) (ao (bK (aU o7 (pv 3) ag (bb _)) (ar (hZ rfl T.k_NoTable T.x_NoTable yG (aa aG ai (se rfl)) (he:=se rfl) (hpl:=na rfl)))
   bj)
  (ar (bK (aU jd (pv 3) ag (bb _)) (ar (p7 (cQ hr) (pv 1) (pv 2) (aL bQ (Cf (cQ hr) (pv 1) (pv 2) ag (by first | exact⟨rfl,rfl,rfl⟩ | constructor <;>rfl)) (pv 3)) rfl))
   bj))))
  (ao (bK (aU cA (bc AY (by rfl) T.z_len aav (aa (pv 1) ai (se rfl)) (he:=se rfl) (hpl:=na rfl)) ag (bb _)) (ar (hZ rfl T.k_NoTable T.x_NoTable yG (aa aG ai (se rfl)) (he:=se rfl) (hpl:=na rfl)))
   bj)
  (ar (aT (bg lU (hr.mono (by decide)) rfl aK.pass (aa (pv 1) (aa (yh rfl (by rfl) T.z_sum (pv 1) (he:=se rfl)) ai (se rfl)) (se rfl)) (he:=se rfl) (hpl:=na rfl))))))),?_⟩
  refine(?_:let cI:TS:=_;let cJ:TS:=_;let cK:TS:=_;let eC:TS:=_;tSeq cI (tSeq cJ (tSeq cK eC)) _ _ _)
  intro cI cJ cK eC
  simp_all only[Fq,tRaise]
  intro d JK
  symm
  obtain⟨a,xs,rfl,ha,rl⟩:=aS.mp rp
  nofun
  have n1:=rl.length
  rw[aad] at n1
  have q1:∀o,bD K (upd H d o) a xs:=λo=>bD.of (ae JK _ _ ha)
  refine⟨_,rfl,⟨_,q1 _⟩,cD (src_list (Ok:=λH'=>∃o,H'=upd H d o) (λH' ⟨o,e⟩=>by rw[e];exact q1 o))
   (λi σ H'=>H'=upd H d (.dK (enc (Nm.lI (ps.take i))))/\(∀p∈ps.take i,0<=p.2)/\∃z1 z2,σ=[some (.ref a),some (.ref d),z1,z2])
   ⟨by rw[List.take_zero];rfl,by simp,_,_,rfl⟩ (λ_ _ _ _ h=>⟨_,h.1⟩) ?_ ?_⟩
  ·intro i x σ H' Bs hi iu fE
   symm
   obtain⟨rfl,nn,z1,z2,rfl⟩:=iu
   obtain⟨rfl,hx⟩:=fE
   obtain⟨dd,ed,rd⟩:=rl.get hx
   rw[aae] at ed
   obtain⟨p,ep,rfl⟩:=Option.map_eq_some_iff.mp ed
   obtain⟨q,rfl,hq⟩:=d8.mp rd
   nofun
   have tk:ps.take (i+1)=ps.take i++ [p]:=by rw[aaC,ep];rfl
   refine⟨q,_,rfl,gh.of (ae JK _ _ hq),rfl,?_⟩
   simp_all only[tRaise]
   rw[tk,Nm.Cy]
   refine pL (λc=>?_) (λc=>?_)
   ·exact⟨by decide,kE (.inl ⟨p,aaj ep,c⟩) _ (ae JK)⟩
   ·have V6:∀r∈ps.take i++ [p],0<=r.2:=λr hr=>by
     rcases List.mem_append.mp hr with h | h
     ·exact nn r h
     ·have:r=p:=by simpa using h
      subst this
      omega
    refine pL (λc2=>?_) (λc2=>?_)
    ·symm
     obtain⟨o,ho,eo⟩:=A3 (H:=upd H d (.dK (enc (Nm.lI (ps.take i))))) p.1 (.inl aj)
     nofun
     refine⟨.inl ⟨_,.inl aj⟩,o,ho,?_⟩
     rw[eo]
     simp_all only[]
     refine⟨_,Cv _ _ aj (Nm.nZ _) ?_,?_,V6,?_⟩
     ·have:=Nm.zL (ps.take i)
      rw[aaG] at this
      rw[sizeLine_eq]
      omega
     ·rw[zk,if_pos c2]
      rfl
     ·exact⟨_,rfl⟩
    ·refine⟨by rw[if_neg c2],V6,?_⟩
     exact⟨_,rfl⟩
  ·intro σ H' dF
   symm
   obtain⟨rfl,nn,z1,z2,rfl⟩:=dF
   nofun
   rw[aau (by omega)] at nn ⊢
   simp_all only[tRaise,Fq]
   have el:(enc (Nm.lI ps)).length=(Nm.lI ps).length:=uL _
   refine⟨_,aj,pL (λz=>⟨by decide,kE (.inr ?_) _ (ae JK)⟩) (λz=>?_)⟩
   ·exact Nm.zM.mp (List.eq_nil_of_length_eq_zero (by omega))
   ·have np:Nm.pos ps≠[]:=λe=>by
     have:=Nm.zM.mpr e
     exact z (by rw[el,this];rfl)
    have nb:¬Nm.bad ps:=λb=>by
     rcases b with ⟨p,hp,c⟩ | c
     ·have:=nn p hp
      omega
     ·exact np c
    have T0:=Nm.E6 (show 0< (Nm.lI ps).length by omega) (Nm.nZ ps) (Nm.Fd ps)
    have T1:=Nm.qH (c:=10^12) (by decide) hb
    rw[<-Nm.Fe] at T1
    have lw:=Nm.zL ps
    have ev:List.map (λx:Key×V=>x.2) (enc (Nm.lI ps))=List.map V.int ((Nm.lI ps).map (·.2)):=by
     unfold enc
     rw[aas,aas]
     rfl
    refine⟨_,aj,_,ev,_,aj,Nm.nZ ps,by omega,?_,?_,λp H' s' DA r'=>?_⟩
    ·show Nm.qE (Nm.lI ps)≠0
     omega
    ·show Bt 5000 (Nm.qE (Nm.lI ps))
     exact Bt.of (10^16) (by omega) (by omega)
    ·exact kQ nb p H' ((ae JK).trans s') (none_of (ae JK) DA) r'
theorem xh:aY ["base","exponent","product","turn"] ["base","exponent"] (aq (top 18)):=⟨rfl,rfl,rfl,by ac_rfl,rfl,by ac_rfl,by ac_rfl⟩
theorem Le (T:Txt K mg aH aI aE aO af av):c6 P w K mg base (bG P w) 1 "power" ["base","exponent"] Il:=by
 refine T.Fp.fC (λ_ _ _ _ _ _=>gX λ_ _=>rfl) λf fd F=>F.gJ xh (λvs H Q E h=>?_) (λbZ A outer s H vs Q E hr h=>?_)
 ·obtain⟨_,_,rfl,_⟩:=h;rfl
 ·symm
  obtain⟨b,e,rfl,be,e10,hb,kk⟩:=h
  nofun
  have nd:=xh.nd
  refine⟨_,(ao (aR (i:=2) nd rfl (Or.inl rfl) ag)
  (ao (cY PassesOwn.never rfl (eR rfl T.z_range (aa (pv 1) ai (se rfl))) (aP (i:=3) nd rfl (Or.inl rfl)) (ao (bK (aU jd (pv 2) (mK rfl T.c_MOST_BOTTOM) (bb _)) (ar BQ)
   bj)
  (ar (aR (i:=2) nd rfl (Or.inl rfl) (aL cU (pv 2) (pv 0))))))
  (ar (aT (pv 2))))),?_⟩
  refine(?_:let cI:TS:=_;let cJ:TS:=_;let cK:TS:=_;tSeq cI (tSeq cJ cK) _ _ _)
  intro cI cJ cK
  have sl:=sizeLine_eq
  simp_all only[]
  refine⟨by omega,by omega,cD (src_range (Ok:=λ_=>True)) (λi σ H'=>H=H'/\∃z,σ=[some (.int (b:Int)),some (.int (e:Int)),some (.int ((b^i:Nat):Int)),z]) ⟨rfl,_,rfl⟩ (λ_ _ _ _ _=>trivial) ?_ ?_⟩
  ·intro i x σ H' Bs hi iu fE
   symm
   obtain⟨rfl,z,rfl⟩:=iu
   obtain⟨rfl,rfl⟩:=fE
   nofun
   have b1:1<=b:=by omega
   have le:b^i<=b^e:=Nat.pow_le_pow_right b1 (by omega)
   simp_all only[]
   rw[if_neg (by omega)]
   refine⟨eN (by omega) (by omega),?_,_,rfl⟩
   rw[Nat.pow_succ,Int.natCast_mul]
  ·intro σ H' dF
   symm
   obtain⟨rfl,z,rfl⟩:=dF
   nofun
   rw[aaQ]
   simp_all only[]
   exact kk
theorem kP:aY ["part"] ["part"] (aq (top 19)):=⟨rfl,rfl,rfl,by ac_rfl,rfl,by ac_rfl,by ac_rfl⟩
theorem DB (T:Txt K mg aH aI aE aO af av):c6 P w K mg base (bG P w) 1 "most_faces" ["part"] yu:=by
 refine T.uR.fC (λ_ _ _ _ _ _=>ij λ_=>rfl) λf fd F=>F.gJ kP (λvs H Q E h=>?_) (λbZ A outer s H vs Q E hr h=>?_)
 ·obtain⟨_,_,rfl,_⟩:=h;rfl
 ·symm
  obtain⟨q,p,rfl,hq,kk⟩:=h
  nofun
  have nd:=kP.nd
  refine⟨_,(ao (bK (aU cA (aF au (pv 0) ag (λ_ _=>rfl)) aG (bb _)) (ar (aT ag))
   bj)
  (ao (bK (aU cA (aF au (pv 0) ag (λ_ _=>rfl)) aG (bb _)) (ar (aT (mw (aU jd (aF au (pv 0) ag (λ_ _=>rfl)) ag (bb _)) ag ag)))
   bj)
  (ao (bK (aU cA (aF au (pv 0) ag (λ_ _=>rfl)) aG (bb _)) (ar (aT (aL bQ (bc (nM rfl) (by rfl) T.z_max rfl (aa (aF au (pv 0) ag (λ_ _=>rfl)) (aa ag ai (se rfl)) (se rfl)) (he:=se rfl) (hpl:=na rfl)) ag)))
   bj)
  (ar (aT (aF au (pv 0) (kG gT ag) (λ_ _=>rfl))))))),?_⟩
  refine(?_:let cI:TS:=_;let cJ:TS:=_;let cK:TS:=_;let eC:TS:=_;tSeq cI (tSeq cJ (tSeq cK eC)) _ _ _)
  intro cI cJ cK eC
  cases p with
  | num n=>
   simp only[oj] at hq
   simp_all only[hq]
   exact kk
  | gk m s=>
   simp only[oj] at hq
   simp_all only[hq]
   rw[if_neg (by ac_rfl),if_neg (by ac_rfl),if_neg (by ac_rfl)]
   exact⟨_,rfl,kk⟩
  | best n m s=>
   simp only[oj] at hq
   simp_all only[hq]
   rw[if_neg (by ac_rfl),if_neg (by ac_rfl),if_neg (by ac_rfl)]
   exact⟨_,rfl,kk⟩
  | dJ n s=>
   simp only[oj] at hq
   simp_all only[hq]
   rw[if_neg (by ac_rfl),if_neg (by ac_rfl)]
   rw[show(if (0:Int) >(n:Int) then (0:Int) else (n:Int))=(n:Int) from if_neg (by omega)]
   exact kk
theorem jl:aY ["part"] ["part"] (aq (top 20)):=⟨rfl,rfl,rfl,by ac_rfl,rfl,by ac_rfl,by ac_rfl⟩
theorem DC (T:Txt K mg aH aI aE aO af av):c6 P w K mg base (bG P w) 2 "part_bottom" ["part"] ve:=by
 have FO:c6 P w K mg base (bG P w) 1 "power" ["base","exponent"] Il:=Le T
 have fg:c6 P w K mg base (bG P w) 1 "most_faces" ["part"] yu:=DB T
 refine T.sO.fC (λ_ _ _ _ _ _=>ij λ_=>rfl) λf fd F=>F.gJ jl (λvs H Q E h=>?_) (λbZ A outer s H vs Q E hr h=>?_)
 ·obtain⟨_,_,rfl,_⟩:=h;rfl
 ·symm
  obtain⟨q,p,rfl,hq,g,hb,kk⟩:=h
  nofun
  have nd:=jl.nd
  refine⟨_,(ar (aT (bg FO (hr.mono (by decide)) rfl aK.pass (aa (aF au (pv 0) (kG gT ag) (λ_ _=>rfl)) (aa (bg fg (hr.mono (by decide)) rfl aK.pass (aa (pv 0) ai (se rfl)) (he:=se rfl) (hpl:=na rfl)) ai (se rfl)) (se rfl)) (he:=se rfl) (hpl:=na rfl)))),?_⟩
  simp_all only[Il,yu]
  refine⟨_,hq,_,C8 p,p,hq,lst p,rfl,D7 p,rfl,?_,?_,?_,?_⟩
  ·cases p with
   | num n=>exact .inr rfl
   | _=>exact .inl g.1
  ·have:=qT g;omega
  ·have:lst p^D7 p=bot p:=by cases p <;>rfl
   rw[this];exact hb
  ·have:lst p^D7 p=bot p:=by cases p <;>rfl
   rw[this];exact kk
theorem kR:aY ["part","sides","low"] ["part"] (aq (top 21)):=⟨rfl,rfl,rfl,by ac_rfl,rfl,by ac_rfl,by ac_rfl⟩
theorem Lf (T:Txt K mg aH aI aE aO af av):c6 P w K mg base (bG P w) 3 "part_count" ["part"] Im:=by
 have fg:c6 P w K mg base (bG P w) 1 "most_faces" ["part"] yu:=DB T
 have eD:c6 P w K mg base (bG P w) 2 "part_bottom" ["part"] ve:=DC T
 refine T.uS.fC (λ_ _ _ _ _ _=>ij λ_=>rfl) λf fd F=>F.gJ kR (λvs H Q E h=>?_) (λbZ A outer s H vs Q E hr h=>?_)
 ·obtain⟨_,_,rfl,_⟩:=h;rfl
 ·symm
  obtain⟨q,p,rfl,hq,g,hb,kk⟩:=h
  nofun
  have nd:=kR.nd
  refine⟨_,(ao (aR (i:=1) nd rfl (Or.inl rfl) (aF au (pv 0) (kG gT ag) (λ_ _=>rfl)))
  (ao (bK (aU cA (aF au (pv 0) ag (λ_ _=>rfl)) aG (bb _)) (ao (aR (i:=2) nd rfl (Or.inl rfl) (bc (nM rfl) (by rfl) T.z_max rfl (aa (bc (tJ rfl) (by rfl) T.z_min rfl (aa (aF au (pv 0) ag (λ_ _=>rfl)) (aa (pv 1) ai (se rfl)) (se rfl)) (he:=se rfl) (hpl:=na rfl)) (aa ag ai (se rfl)) (se rfl)) (he:=se rfl) (hpl:=na rfl)))
  (ar (aT (aL nK (aL bQ (aL cU (pv 2) (pv 1)) (pv 1)) (pv 2)))))
   bj)
  (ao (bK (aU cA (aF au (pv 0) ag (λ_ _=>rfl)) aG (bb _)) (ar (aT (aL bQ (aL cU (bg fg (hr.mono (by decide)) rfl aK.pass (aa (pv 0) ai (se rfl)) (he:=se rfl) (hpl:=na rfl)) (aL nK (pv 1) ag)) ag)))
   bj)
  (ar (aT (bg eD (hr.mono (by decide)) rfl aK.pass (aa (pv 0) ai (se rfl)) (he:=se rfl) (hpl:=na rfl))))))),?_⟩
  refine(?_:let cI:TS:=_;let cJ:TS:=_;let cK:TS:=_;let eC:TS:=_;tSeq cI (tSeq cJ (tSeq cK eC)) _ _ _)
  intro cI cJ cK eC
  cases p with
  | num n=>
   simp only[oj] at hq
   simp_all only[hq,ve]
   refine⟨_,rfl,?_⟩
   rw[if_neg (by ac_rfl),if_neg (by ac_rfl)]
   exact⟨.num n,rfl,g,hb,kk⟩
  | gk m s=>
   simp only[oj] at hq
   simp_all only[hq,ve]
   refine⟨_,rfl,?_⟩
   rw[if_neg (by ac_rfl),if_neg (by ac_rfl)]
   exact⟨.gk m s,rfl,g,hb,kk⟩
  | best n m s=>
   simp only[oj] at hq
   simp_all only[hq,ve]
   refine⟨_,rfl,?_⟩
   rw[if_neg (by ac_rfl),if_neg (by ac_rfl)]
   exact⟨.best n m s,rfl,g,hb,kk⟩
  | dJ n s=>
   simp only[oj] at hq
   simp_all only[hq,yu]
   refine⟨_,rfl,?_⟩
   rw[if_neg (by ac_rfl)]
   simp_all only[]
   refine⟨.dJ n s,rfl,nS (by have:=g.2.1;omega) (by have:=g.2.1;omega),?_⟩
   have e2:((D7 (.dJ n s):Nat):Int)* ((s:Int) - 1)+1=(((n+1)* (s - 1)+1:Nat):Int):=by
    rw[Int.natCast_add,Int.natCast_mul,Int.natCast_sub g.1]
    rfl
   rw[e2]
   exact kk
theorem kS:aY ["pool","count","bottom","part"] ["pool"] (aq (top 22)):=⟨rfl,rfl,rfl,by ac_rfl,rfl,by ac_rfl,by ac_rfl⟩
theorem Lg (T:Txt K mg aH aI aE aO af av):c6 P w K mg base (bG P w) 4 "check_size" ["pool"] Io:=by
 have vo:c6 P w K mg base (bG P w) 3 "part_count" ["part"] Im:=Lf T
 have eD:c6 P w K mg base (bG P w) 2 "part_bottom" ["part"] ve:=DC T
 refine T.uT.fC (λ_ _ _ _ _ _=>ij λ_=>rfl) λf fd F=>F.Gz kS (λvs H Q E h=>?_) (λbZ A outer s H vs Q E hr h=>?_)
 ·obtain⟨_,_,rfl,_⟩:=h;rfl
 ·symm
  obtain⟨l,ps,rfl,hp,g,kk⟩:=h
  nofun
  have nd:=kS.nd
  have yG:A.handled=none:=hr.hd
  refine⟨_,(ao (aR (i:=1) nd rfl (Or.inl rfl) ag)
  (ao (aR (i:=2) nd rfl (Or.inl rfl) ag)
  (ao (cY PassesOwn.leaving rfl (bo (K:=K) (pv 0)) (aP (i:=3) nd rfl (Or.inl rfl)) (ao (aR (i:=1) nd rfl (Or.inl rfl) (aL cU (pv 1) (bg vo (hr.mono (by decide)) rfl aK.pass (aa (pv 3) ai (se rfl)) (he:=se rfl) (hpl:=na rfl))))
  (ar (aR (i:=2) nd rfl (Or.inl rfl) (aL cU (pv 2) (bg eD (hr.mono (by decide)) rfl aK.pass (aa (pv 3) ai (se rfl)) (he:=se rfl) (hpl:=na rfl)))))))
  (ar (bK (PW.pt (pw_or (aU jd (pv 1) (mK rfl T.c_MOST_THROWS) (bb _)) (pw_or1 (aU jd (pv 2) (mK rfl T.c_MOST_BOTTOM) (bb _))))) (ar (hZ rfl T.k_TooMany T.x_TooMany yG (aa aG ai (se rfl)) (he:=se rfl) (hpl:=na rfl)))
   bj))))),?_⟩
  refine(?_:let cI:TS:=_;let cJ:TS:=_;let cK:TS:=_;let eC:TS:=_;tSeq cI (tSeq cJ (tSeq cK eC)) _ _ _)
  intro cI cJ cK eC
  symm
  obtain⟨xs,hl,al⟩:=hp
  nofun
  have lx:=al.length
  simp_all only[]
  refine⟨⟨_,bD.of hl⟩,cD (src_list (Ok:=λH'=>H=H') (λH' e=>by subst e;exact bD.of hl)) (λi σ H'=>H=H'/\∃z,σ=[some (.ref l),some (.int ((lP ((ps.take i).map cnt):Nat):Int)),some (.int ((lP ((ps.take i).map bot):Nat):Int)),z]) ⟨rfl,_,rfl⟩ (λ_ _ _ _ h=>h.1) ?_ ?_⟩
  ·intro i x σ H' Bs hi iu fE
   symm
   obtain⟨rfl,z,rfl⟩:=iu
   obtain⟨rfl,ex⟩:=fE
   obtain⟨p,ep,q,rfl,hq⟩:=al.get ex
   nofun
   obtain⟨FP,AE⟩:=List.getElem?_eq_some_iff.mp ep
   have hm:p∈ps:=by rw[<-AE];exact List.getElem_mem FP
   symm
   obtain⟨gp,c1,b1⟩:=ou g hm
   nofun
   have c0:=om g i
   have b0:=oq g i
   simp_all only[Im,ve]
   refine⟨p,hq,gp,b1,eN (by omega) (by omega),p,hq,gp,b1,eN (by omega) (by omega),?_,?_,_,rfl⟩
   ·rw[take_snoc FP,AE,aan,aag,aaL,ik,Int.natCast_mul]
   ·rw[take_snoc FP,AE,aan,aag,aaL,ik,Int.natCast_mul]
  ·intro σ H' dF
   symm
   obtain⟨rfl,z,rfl⟩:=dF
   nofun
   rw[lx,aau (aaf _)]
   have c0:=g.2.1
   have b0:=g.2.2
   simp_all only[]
   rw[if_neg (by omega),if_neg (by omega)]
   exact kk
theorem kT:aY ["dice","sides","found","turn","longer","faces"] ["dice","sides"] (aq (top 23)):=⟨rfl,rfl,rfl,by ac_rfl,rfl,by ac_rfl,by ac_rfl⟩
theorem Lh (T:Txt K mg aH aI aE aO af av):c6 P w K mg base (bG P w) 1 "dice_faces" ["dice","sides"] Fx:=by
 refine T.uU.fC (λ_ _ _ _ _ _=>gX λ_ _=>rfl) λf fd F=>F.gJ kT (λvs H Q E h=>?_) (λbZ A outer s H vs Q E hr h=>?_)
 ·obtain⟨_,_,rfl,_⟩:=h;rfl
 ·symm
  obtain⟨d,s',rfl,s1,O3,d6,hd,kk⟩:=h
  nofun
  have nd:=kT.nd
  refine⟨_,(ao (aR (i:=2) nd rfl (Or.inl rfl) (bI (aa (bI ai) ai (se rfl))))
  (ao (cY PassesOwn.never rfl (eR rfl T.z_range (aa (pv 0) ai (se rfl))) (aP (i:=3) nd rfl (Or.inl rfl)) (ao (aR (i:=4) nd rfl (Or.inl rfl) (bI ai))
  (ao (cY PassesOwn.never rfl (bo (K:=K) (pv 2)) (aP (i:=5) nd rfl (Or.inr rfl)) (ar (bR (eZ aaz PySem.F.slot_list_extend PySem.F.type_list_extend nQ.r (pv 4) (aa (cX rfl (N:=["dice","sides","found","turn","longer","faces"]) (so:=aq (top 23)) (N':=["face","faces"]) (k:=1) (fr:=[5]) rfl rfl ⟨rfl,by ac_rfl,by ac_rfl,by ac_rfl,rfl,by ac_rfl,by ac_rfl⟩ (tI rfl T.z_range (aa ag (aa (aL bQ (pv 1) ag) ai (se rfl)) (se rfl))) (λ_ _ _ _ _=>(aP (i:=0) (show(["face","faces"]:List Str).Nodup by ac_rfl) rfl (Or.inl rfl))) (λ_ _ _ _ _=>cm)
   (λ_ _ _ _ _=>(aL iH (pv 1) (bI (aa (pv 0) ai (se rfl)))))) ai (se rfl))))))
  (ar (aR (i:=2) nd rfl (Or.inl rfl) (pv 4))))))
  (ar (aT (pv 2))))),?_⟩
  refine(?_:let cI:TS:=_;let cJ:TS:=_;let cK:TS:=_;tSeq cI (tSeq cJ cK) _ _ _)
  intro cI cJ cK
  have sl:=sizeLine_eq
  simp_all only[]
  refine⟨aak _,λe0 m0=>⟨by decide,λl0 n0=>⟨by omega,by omega,?_⟩⟩⟩
  have s0:aA H (upd (upd H e0 (.lst [])) l0 (.lst [.ref e0])):=(ae m0).trans (ae n0)
  refine cD (src_range (Ok:=λ_=>True)) (λi σ H'=>aA H H'/\∃l xs z z' Nz,H' l=some (.lst xs)/\Al (Fa H') (D6 s' i) xs/\σ=[some (.int (d:Int)),some (.int (s':Int)),some (.ref l),z,z',Nz]) ?_ (λ_ _ _ _ _=>trivial) ?_ ?_
  ·exact⟨s0,l0,_,_,_,_,aj,.one ⟨e0,rfl,ae n0 _ _ aj⟩,rfl⟩
  ·intro i x σ H' Bs hi iu fE
   symm
   obtain⟨sm,l,xs,z,z',Nz,hl,al,rfl⟩:=iu
   obtain⟨rfl,rfl⟩:=fE
   nofun
   have lx:=al.length
   rw[mQ] at lx
   have hle:s'^ (i+1)<=1296:=aar (Nat.pow_le_pow_right s1 (by omega)) hd
   have YN:s'^i<=1296:=aar (Nat.pow_le_pow_right s1 (by omega)) hd
   change tSeq _ _ _ _ _
   refine cV (λσ' H1=>aA Bs H1/\∃m,Bs m=none/\H1 m=some (.lst [])/\σ'=[some (.int (d:Int)),some (.int (s':Int)),some (.ref l),some (.int (0+i)),some (.ref m),Nz]) ?_ (λN hN=>?_)
   case refine_2=>
    simp_all only[]
    exact⟨aak _,λm nm=>hN _ _ ⟨ae nm,m,nm,aj,rfl⟩⟩
   intro _ H1 dF
   symm
   obtain⟨BG,m,nm,hm,rfl⟩:=dF
   nofun
   change tSeq _ _ _ _ _
   refine cV (λσ' H2=>aA Bs H2/\∃ys,H2 m=some (.lst ys)/\Al (Fa H2) (D6 s' (i+1)) ys/\∃z,σ'=[some (.int (d:Int)),some (.int (s':Int)),some (.ref l),some (.int (0+i)),some (.ref m),z]) ?_ (λN hN=>?_)
   case refine_2=>
    simp_all only[]
    refine⟨⟨_,bD.of (BG _ _ hl)⟩,cD (src_list (Ok:=aA Bs) (λH2 s2=>bD.of (s2 _ _ hl)))
     (λj σ H2=>aA Bs H2/\∃ys z,H2 m=some (.lst ys)/\ys.length=j*s'/\Al (Fa (di H2 m)) (((D6 s' i).take j).flatMap λf=>(List.range s').map λi:Nat=>f++ [((i:Nat):Int)+1]) ys/\σ=[some (.int (d:Int)),some (.int (s':Int)),some (.ref l),some (.int (0+i)),some (.ref m),z])
     ⟨BG,[],_,hm,by simp,trivial,rfl⟩ (λ_ _ _ _ h=>h.1) ?_ ?_⟩
    ·intro j x σ H2 H3 hj iu fE
     symm
     obtain⟨xi,ys,z,sh,ly,ay,rfl⟩:=iu
     obtain⟨rfl,ex⟩:=fE
     obtain⟨f,ef,q,rfl,hq⟩:=al.get ex
     nofun
     obtain⟨YO,YQ⟩:=List.getElem?_eq_some_iff.mp ef
     have fl:=(qe s' i f (by rw[<-YQ];exact List.getElem_mem YO)).1
     have JL:=xi _ _ hq
     simp_all only[p6]
     refine⟨.inl ⟨rfl,_,bD.of sh⟩,by omega,by omega,by omega,by omega,?_⟩
     rw[show((s':Int)+1 - 1).toNat=s' by omega]
     refine comp_map src_range (λ_ _ _ _ h=>by rw[h.1];exact aA.refl _) (by omega) (λk y H4=>Fa (di H4 m) (f++ [((k:Nat):Int)+1]) y) (λk y H4 H5 s5 h=>h.mono (bH s5)) ?_ ?_
     ·rintro k x w0 H4 H5 Q2 hk s4 ⟨rfl,rfl⟩ kq
      simp_all only[vY]
      refine⟨by decide,λa1 n1=>⟨_,ae n1 _ _ (s4 _ _ JL),_,aj,by rw[aad];simp only[aap,aaR];omega,λa2 n2=>kq _ _ ((ae n1).trans (ae n2)) ⟨a2,rfl,?_⟩⟩⟩
      have ne:a2≠m:=λe=>by
       subst e
       rw[ae n1 _ _ (s4 _ _ sh)] at n2
       cases n2
      rw[bM ne,aj,aan,Int.add_comm]
      rfl
     ·intro zs H4 s4 lz hz D n1 n2
      have O4:=s4 _ _ sh
      have jm:j*s'<=s'^ (i+1):=by rw[Nat.pow_succ];exact Nat.mul_le_mul_right _ (by omega)
      have YR:∀{k:Nat},k=j*s'+s'->k<=sizeLine:=λe=>by omega
      refine⟨_,ae n2 _ _ O4,_,aj,YR (by rw[ly,lz]),?_⟩
      have s5:aA H3 (upd H4 D (.lst zs)):=s4.trans (ae n2)
      refine⟨cb (xi.trans s5) nm,_,aj,by rw[aah,ly,lz,Nat.succ_mul],?_,_,rfl⟩
      rw[vd,aaC,ef,List.flatMap_append]
      refine Al.append (ay.imp λ_ _ h=>h.mono (bH s5)) ?_
      simp only[Option.toList,List.flatMap_cons,List.flatMap_nil,aaT]
      refine Al.of (by rw[aad,List.length_range];exact lz) λk y g e1 e2=>?_
      rw[aae] at e2
      symm
      obtain⟨k',ek,rfl⟩:=Option.map_eq_some_iff.mp e2
      nofun
      obtain⟨Fj,Li⟩:=List.getElem?_eq_some_iff.mp ek
      rw[List.getElem_range] at Li
      subst Li
      exact(hz _ _ e1).mono (bH (ae n2))
    ·intro σ H2 dF
     symm
     obtain⟨xi,ys,z,sh,ly,ay,rfl⟩:=dF
     nofun
     refine hN _ _ ⟨xi,ys,sh,?_,_,rfl⟩
     rw[lx,<-mQ s' i,aau (aaf _)] at ay
     exact ay.imp λ_ _ h=>h.mono bJ
   intro _ H2 dF
   symm
   obtain⟨xi,ys,sh,ay,z,rfl⟩:=dF
   nofun
   simp_all only[]
   first | exact⟨sm.trans xi,m,_,sh,ay,rfl,⟨_,rfl⟩,⟨_,rfl⟩,⟨_,rfl⟩⟩ | exact⟨sm.trans xi,m,_,sh,ay,rfl,_,_,rfl⟩ | exact⟨sm.trans xi,m,_,sh,ay,rfl,⟨_,rfl⟩,_,rfl⟩ | exact⟨sm.trans xi,m,_,sh,ay,rfl,_,rfl⟩
  ·intro σ H' dF
   symm
   obtain⟨sm,l,xs,z,z',Nz,hl,al,rfl⟩:=dF
   nofun
   rw[aaQ] at al
   simp_all only[]
   exact kk _ _ _ sm hl al
theorem rD:aY ["low","sides","found","face"] ["low","sides"] (aq (top 24)):=⟨rfl,rfl,rfl,by ac_rfl,rfl,by ac_rfl,by ac_rfl⟩
theorem Lj (T:Txt K mg aH aI aE aO af av):c6 P w K mg base (bG P w) 1 "again_faces" ["low","sides"] K0:=by
 refine T.sP.fC (λ_ _ _ _ _ _=>gX λ_ _=>rfl) λf fd F=>F.gJ rD (λvs H Q E h=>h.elim) (λbZ A outer s H vs Q E hr h=>h.elim)
theorem jn:aY ["most","sides","found","ahead"] ["most","sides"] (aq (top 25)):=⟨rfl,rfl,rfl,by ac_rfl,rfl,by ac_rfl,by ac_rfl⟩
theorem Lk (T:Txt K mg aH aI aE aO af av):c6 P w K mg base (bG P w) 1 "burst_faces" ["most","sides"] Ip:=by
 refine T.sQ.fC (λ_ _ _ _ _ _=>gX λ_ _=>rfl) λf fd F=>F.gJ jn (λvs H Q E h=>?_) (λbZ A outer s H vs Q E hr h=>?_)
 ·obtain⟨_,_,rfl,_⟩:=h;rfl
 ·symm
  obtain⟨n,s',rfl,s1,O3,n7,kk⟩:=h
  nofun
  clear G_
  have nd:=jn.nd
  refine⟨_,(ao (aR (i:=2) nd rfl (Or.inl rfl) (bI ai))
  (ao (cY PassesOwn.never rfl (eR rfl T.z_range (aa (pv 0) ai (se rfl))) (aP (i:=3) nd rfl (Or.inr rfl)) (ar (bR (eZ aaz PySem.F.slot_list_extend PySem.F.type_list_extend nQ.r (pv 2) (aa (cX rfl (N:=["most","sides","found","ahead"]) (so:=aq (top 25)) (N':=["face","sides","ahead"]) (k:=1) (fr:=[1,3]) rfl rfl ⟨rfl,by ac_rfl,by ac_rfl,by ac_rfl,rfl,by ac_rfl,by ac_rfl⟩ (tI rfl T.z_range (aa ag (aa (pv 1) ai (se rfl)) (se rfl))) (λ_ _ _ _ _=>(aP (i:=0) (show(["face","sides","ahead"]:List Str).Nodup by ac_rfl) rfl (Or.inl rfl))) (λ_ _ _ _ _=>cm)
   (λ_ _ _ _ _=>(aL iH (aL yc (bI (aa (pv 1) ai (se rfl))) (pv 2)) (bI (aa (pv 0) ai (se rfl)))))) ai (se rfl))))))
  (ao (bR (eZ aaz aaD aaE b9.r (pv 2) (aa (aL yc (bI (aa (pv 1) ai (se rfl))) (pv 0)) ai (se rfl))))
  (ar (aT (pv 2)))))),?_⟩
  refine(?_:let cI:TS:=_;let cJ:TS:=_;let cK:TS:=_;let eC:TS:=_;tSeq cI (tSeq cJ (tSeq cK eC)) _ _ _)
  intro cI cJ cK eC
  have sl:=sizeLine_eq
  change tSeq _ _ _ _ _
  refine cV (λσ' H1=>aA H H1/\∃m,H m=none/\H1 m=some (.lst [])/\σ'=[some (.int (n:Int)),some (.int (s':Int)),some (.ref m),none]) ?_ (λN hN=>?_)
  case refine_2=>
   simp_all only[]
   exact⟨aak _,λm nm=>hN _ _ ⟨ae nm,m,nm,aj,rfl⟩⟩
  intro _ H1 dF
  symm
  obtain⟨BG,m,nm,hm,rfl⟩:=dF
  nofun
  clear G_
  change tSeq _ _ _ _ _
  refine cV (λσ' H1=>aA H H1/\∃xs z,H1 m=some (.lst xs)/\xs.length<=n*20/\Al (Fa (di H1 m)) ((List.range n).flatMap λa=>JH s' a) xs/\σ'=[some (.int (n:Int)),some (.int (s':Int)),some (.ref m),z]) ?_ (λN hN=>?_)
  case refine_2=>
   simp_all only[]
   refine⟨by omega,by omega,?_⟩
   rw[aaQ]
   refine cD (src_range (Ok:=λ_=>True)) (λi σ H'=>aA H H'/\∃xs z,H' m=some (.lst xs)/\xs.length<=i*20/\Al (Fa (di H' m)) ((List.range i).flatMap λa=>JH s' a) xs/\σ=[some (.int (n:Int)),some (.int (s':Int)),some (.ref m),z]) ?_ (λ_ _ _ _ _=>trivial) ?_ ?_
   ·exact⟨BG,_,_,hm,aak _,trivial,rfl⟩
   ·intro i x σ H2 H3 hi iu fE
    symm
    obtain⟨sm,xs,z,hm,lx,al,rfl⟩:=iu
    obtain⟨rfl,rfl⟩:=fE
    nofun
    simp_all only[p6]
    refine⟨.inl ⟨rfl,_,bD.of hm⟩,by omega,by omega,by omega,by omega,?_⟩
    rw[show((s':Int) - 1).toNat=s' - 1 by omega]
    refine comp_map src_range (λ_ _ _ _ h=>by rw[h.1];exact aA.refl _) (by omega) (λk y H4=>Fa (di H4 m) (List.replicate i (s':Int)++ [((k:Nat):Int)+1]) y) (λk y H4 H5 s5 h=>h.mono (bH s5)) ?_ ?_
    ·rintro k x w0 H4 H5 Q2 hk s4 ⟨rfl,rfl⟩ kq
     simp_all only[vY,EM]
     refine⟨by decide,λa1 n1=>⟨_,aj,by omega,by omega,by simp only[aap,aaR];omega,λa2 n2=>⟨by decide,λa3 n3=>⟨_,ae n3 _ _ aj,_,aj,?_,λa4 n4=>kq _ _ ((ae n1).trans ((ae n2).trans ((ae n3).trans (ae n4)))) ⟨a4,rfl,?_⟩⟩⟩⟩⟩
     ·rw[len_rep]
      simp only[aap,aaR]
      omega
     ·have ne:a4≠m:=λe=>by
       subst e
       rw[ae n3 _ _ (ae n2 _ _ (ae n1 _ _ (s4 _ _ hm)))] at n4
       cases n4
      rw[bM ne,aj,List.flatten_replicate_singleton,aan,List.map_replicate,show((0:Int)+ (i:Int)).toNat=i by omega,Int.add_comm 1 (k:Int)]
      rfl
    ·intro zs H4 s4 lz hz D n1 n2
     have O4:=s4 _ _ hm
     refine⟨_,ae n2 _ _ O4,_,aj,by omega,?_⟩
     have s5:aA H3 (upd H4 D (.lst zs)):=s4.trans (ae n2)
     refine⟨cb (sm.trans s5) nm,_,aj,by rw[aah,lz];omega,?_,_,rfl⟩
     rw[vd,List.range_succ,List.flatMap_append]
     refine Al.append (al.imp λ_ _ h=>h.mono (bH s5)) ?_
     simp only[List.flatMap_cons,List.flatMap_nil,aaT]
     unfold JH
     refine Al.of (by rw[aad,List.length_range];exact lz) λk y g e1 e2=>?_
     rw[aae] at e2
     symm
     obtain⟨k',ek,rfl⟩:=Option.map_eq_some_iff.mp e2
     nofun
     obtain⟨Fj,Li⟩:=List.getElem?_eq_some_iff.mp ek
     rw[List.getElem_range] at Li
     subst Li
     exact(hz _ _ e1).mono (bH (ae n2))
   ·intro σ H' dF
    symm
    obtain⟨sm,xs,z,hm,lx,al,rfl⟩:=dF
    nofun
    exact hN _ _ ⟨sm,xs,_,hm,lx,al,rfl⟩
  intro _ H2 dF
  symm
  obtain⟨sm,xs,z,hm,lx,al,rfl⟩:=dF
  nofun
  clear G_
  simp_all only[cH,EM]
  refine⟨.inl ⟨rfl,_,bD.of hm⟩,by decide,λa1 n1=>⟨_,aj,by omega,by omega,by simp only[aap,aaR];omega,λa2 n2=>⟨_,ae n2 _ _ (ae n1 _ _ hm),by omega,?_⟩⟩⟩
  generalize eH:upd (upd H2 a1 (.lst [V.int (s':Int)])) a2 (.lst (List.replicate (n:Int).toNat [V.int (s':Int)]).flatten)=H5
  have s5:aA H2 H5:=by rw[<-eH];exact(ae n1).trans (ae n2)
  have ne:a2≠m:=λe=>by
   subst e
   rw[ae n1 _ _ hm] at n2
   cases n2
  have e5:H5 a2=some (.lst (List.map V.int (List.replicate n (s':Int)))):=by
   rw[<-eH,aj,List.flatten_replicate_singleton,List.map_replicate,aaQ]
  refine kk _ _ _ (cb (sm.trans s5) nm) aj ?_
  refine Al.append (al.imp λ_ _ h=>(h.mono (bH s5)).mono zN) (.one ⟨a2,rfl,?_⟩)
  rw[aB ne]
  exact e5
theorem kU:aY ["part"] ["part"] (aq (top 26)):=⟨rfl,rfl,rfl,by ac_rfl,rfl,by ac_rfl,by ac_rfl⟩
theorem Ll (T:Txt K mg aH aI aE aO af av):c6 P w K mg base (bG P w) 2 "part_faces" ["part"] Iq:=by
 have fg:c6 P w K mg base (bG P w) 1 "most_faces" ["part"] yu:=DB T
 have vp:c6 P w K mg base (bG P w) 1 "dice_faces" ["dice","sides"] Fx:=Lh T
 have sU:c6 P w K mg base (bG P w) 1 "again_faces" ["low","sides"] K0:=Lj T
 have sV:c6 P w K mg base (bG P w) 1 "burst_faces" ["most","sides"] Ip:=Lk T
 refine T.uV.fC (λ_ _ _ _ _ _=>ij λ_=>rfl) λf fd F=>F.gJ kU (λvs H Q E h=>?_) (λbZ A outer s H vs Q E hr h=>?_)
 ·obtain⟨_,_,rfl,_⟩:=h;rfl
 ·symm
  obtain⟨q,p,rfl,hq,g,hc,kk⟩:=h
  nofun
  have nd:=kU.nd
  refine⟨_,(ao (bK (aU cA (aF au (pv 0) ag (λ_ _=>rfl)) aG (bb _)) (ar (aT (bI (aa (bI ai) ai (se rfl)))))
   bj)
  (ao (bK (aU cA (aF au (pv 0) ag (λ_ _=>rfl)) aG (bb _)) (ar (aT (bg sU (hr.mono (by decide)) rfl aK.pass (aa (aF au (pv 0) ag (λ_ _=>rfl)) (aa (aF au (pv 0) ag (λ_ _=>rfl)) ai (se rfl)) (se rfl)) (he:=se rfl) (hpl:=na rfl))))
   bj)
  (ao (bK (aU cA (aF au (pv 0) ag (λ_ _=>rfl)) aG (bb _)) (ar (aT (bg sV (hr.mono (by decide)) rfl aK.pass (aa (bg fg (hr.mono (by decide)) rfl aK.pass (aa (pv 0) ai (se rfl)) (he:=se rfl) (hpl:=na rfl)) (aa (aF au (pv 0) ag (λ_ _=>rfl)) ai (se rfl)) (se rfl)) (he:=se rfl) (hpl:=na rfl))))
   bj)
  (ar (aT (bg vp (hr.mono (by decide)) rfl aK.pass (aa (aF au (pv 0) (kG gT ag) (λ_ _=>rfl)) (aa (aF au (pv 0) (kG gT ag) (λ_ _=>rfl)) ai (se rfl)) (se rfl)) (he:=se rfl) (hpl:=na rfl))))))),?_⟩
  refine(?_:let cI:TS:=_;let cJ:TS:=_;let cK:TS:=_;let eC:TS:=_;tSeq cI (tSeq cJ (tSeq cK eC)) _ _ _)
  intro cI cJ cK eC
  cases p with
  | num n=>
   simp only[oj] at hq
   simp_all only[hq]
   refine⟨aak _,λe0 m0=>⟨by decide,λl0 n0=>kk _ _ _ ((ae m0).trans (ae n0)) aj (.one ⟨e0,rfl,ae n0 _ _ aj⟩)⟩⟩
  | gk m s=>
   simp only[oj] at hq
   simp_all only[hq,Fx]
   rw[if_neg (by ac_rfl),if_neg (by ac_rfl),if_neg (by ac_rfl)]
   refine⟨_,rfl,_,rfl,m,rfl,s,rfl,g.1,g.2.1,g.2.2,hc,kk⟩
  | best n m s=>
   simp only[oj] at hq
   simp_all only[hq,Fx]
   rw[if_neg (by ac_rfl),if_neg (by ac_rfl),if_neg (by ac_rfl)]
   refine⟨_,rfl,_,rfl,m,rfl,s,rfl,g.1,g.2.1,g.2.2.1,hc,kk⟩
  | dJ n s=>
   simp only[oj] at hq
   simp_all only[hq,yu,Ip]
   rw[if_neg (by ac_rfl),if_neg (by ac_rfl)]
   refine⟨.dJ n s,rfl,n+1,rfl,s,rfl,g.1,g.2.1,by have:=g.2.2;omega,kk⟩
theorem pE:aY ["part","faces"] ["part","faces"] (aq (top 27)):=⟨rfl,rfl,rfl,by ac_rfl,rfl,by ac_rfl,by ac_rfl⟩
theorem Lm (T:Txt K mg aH aI aE aO af av):c6 P w K mg base (bG P w) 1 "value_of" ["part","faces"] Ir:=by
 refine T.yn.fC (λ_ _ _ _ _ _=>gX λ_ _=>rfl) λf fd F=>F.gJ pE (λvs H Q E h=>?_) (λbZ A outer s H vs Q E hr h=>?_)
 ·obtain⟨_,_,_,_,rfl,_⟩:=h;rfl
 ·symm
  obtain⟨q,p,l,fs,rfl,hq,hl,g,hf,kk⟩:=h
  nofun
  have nd:=pE.nd
  refine⟨_,(ao (bK (aU cA (aF au (pv 0) ag (λ_ _=>rfl)) aG (bb _)) (ar (aT (aF au (pv 0) ag (λ_ _=>rfl))))
   bj)
  (ao (bK (aU cA (aF au (pv 0) ag (λ_ _=>rfl)) aG (bb _)) (ar (aT (bc (jh (K:=K)) (by rfl) T.z_sum rfl (aa (dA (dZ (K:=K)) (A8 (K:=K) rfl T.z_sorted (pv 1) tH (n1:=rfl)) eE (eF (aF au (pv 0) ag (λ_ _=>rfl)))) ai (se rfl)) (he:=se rfl) (hpl:=na rfl))))
   bj)
  (ao (bK (aU cA (aF au (pv 0) ag (λ_ _=>rfl)) aG (bb _)) (ar (aT (bc (jh (K:=K)) (by rfl) T.z_sum rfl (aa (dA (dZ (K:=K)) (bc (qC (K:=K)) (by rfl) T.z_sorted rfl (aa (pv 1) ai (se rfl)) (he:=se rfl) (hpl:=na rfl)) eE (eF (aF au (pv 0) ag (λ_ _=>rfl)))) ai (se rfl)) (he:=se rfl) (hpl:=na rfl))))
   bj)
  (ao (bK (aU cA (aF au (pv 0) ag (λ_ _=>rfl)) aG (bb _)) (ar (aT (bc bL (by rfl) T.z_len aav (aa (cX rfl (N:=["part","faces"]) (so:=aq (top 27)) (N':=["face","part"]) (k:=1) (fr:=[0]) rfl rfl ⟨rfl,by ac_rfl,by ac_rfl,by ac_rfl,rfl,by ac_rfl,by ac_rfl⟩ (bo (K:=K) (pv 1)) (λ_ _ _ _ _=>(aP (i:=0) (show(["face","part"]:List Str).Nodup by ac_rfl) rfl (Or.inl rfl))) (λ_ _ _ _ _=>(uI (aU BX (pv 0) (aF au (pv 1) ag (λ_ _=>rfl)) (bb _))))
   (λ_ _ _ _ _=>(pv 0))) ai (se rfl)) (he:=se rfl) (hpl:=na rfl))))
   bj)
  (ao (bK (aU cA (aF au (pv 0) ag (λ_ _=>rfl)) aG (bb _)) (ar (aT (aF bw (pv 1) (kG gT ag) (λ_ _=>rfl))))
   bj)
  (ar (aT (bc (jh (K:=K)) (by rfl) T.z_sum rfl (aa (pv 1) ai (se rfl)) (he:=se rfl) (hpl:=na rfl))))))))),?_⟩
  refine(?_:let cI:TS:=_;let cJ:TS:=_;let cK:TS:=_;let eC:TS:=_;let rE:TS:=_;let xj:TS:=_;tSeq cI (tSeq cJ (tSeq cK (tSeq eC (tSeq rE xj)))) _ _ _)
  intro cI cJ cK eC rE xj
  have sl:=sizeLine_eq
  have fl:=(mS g fs hf).2
  have ml:=qT g
  cases p with
  | num n=>
   simp only[oj] at hq
   simp_all only[hq]
   exact kk _ (aA.refl _)
  | gk m s=>
   simp only[oj] at hq
   simp_all only[hq]
   rw[if_neg (by ac_rfl),if_neg (by ac_rfl),if_neg (by ac_rfl),if_neg (by ac_rfl),if_neg (by ac_rfl)]
   exact⟨fs,bD.of hl,kk _ (aA.refl _)⟩
  | best n m s=>
   simp only[oj] at hq
   simp_all only[hq]
   rw[if_neg (by ac_rfl)]
   refine⟨_,bD.of hl,by omega,λa n1=>⟨_,ae n1 _ _ hq,_,at1,_,rfl,_,bD.of aj,λb n2=>⟨((Nm.sH fs).reverse.take n),bD.of ?_,kk _ ((ae n1).trans (ae n2))⟩⟩⟩
   rw[aj,ie (by omega),List.map_take,aaQ]
  | dJ n s=>
   simp only[oj] at hq
   simp_all only[hq]
   rw[if_neg (by ac_rfl),if_neg (by ac_rfl),if_neg (by ac_rfl),if_neg (by ac_rfl),if_neg (by ac_rfl)]
   exact⟨fs,bD.of hl,kk _ (aA.refl _)⟩
theorem iw:aY ["part","faces","product","face"] ["part","faces"] (aq (top 28)):=⟨rfl,rfl,rfl,by ac_rfl,rfl,by ac_rfl,by ac_rfl⟩
theorem Ln (T:Txt K mg aH aI aE aO af av):c6 P w K mg base (bG P w) 1 "sides_product" ["part","faces"] Iu:=by
 refine T.pP.fC (λ_ _ _ _ _ _=>gX λ_ _=>rfl) λf fd F=>F.gJ iw (λvs H Q E h=>?_) (λbZ A outer s H vs Q E hr h=>?_)
 ·obtain⟨_,_,_,_,rfl,_⟩:=h;rfl
 ·symm
  obtain⟨q,p,l,fs,rfl,hq,hl,g,hf,kk⟩:=h
  nofun
  have nd:=iw.nd
  refine⟨_,(ao (aR (i:=2) nd rfl (Or.inl rfl) ag)
  (ao (cY PassesOwn.never rfl (bo (K:=K) (pv 1)) (aP (i:=3) nd rfl (Or.inl rfl)) (ar (aR (i:=2) nd rfl (Or.inl rfl) (aL cU (pv 2) (aF au (pv 0) (kG gT ag) (λ_ _=>rfl))))))
  (ar (aT (pv 2))))),?_⟩
  refine(?_:let cI:TS:=_;let cJ:TS:=_;let cK:TS:=_;tSeq cI (tSeq cJ cK) _ _ _)
  intro cI cJ cK
  have fl:=(mS g fs hf).2
  have ml:=qT g
  have l99:=Ij g
  have O3:=(vc g).2
  have e0:0<fs.length->lst p=sd p:=λh=>by
   cases p with
   | num n=>rw[List.mem_singleton.mp hf] at h;cases h
   | _=>rfl
  simp_all only[]
  refine⟨⟨_,bD.of hl⟩,cD (src_list (Ok:=λH'=>H=H') (λH' e=>by subst e;exact bD.of hl)) (λi σ H'=>H=H'/\∃z,σ=[some (.ref q),some (.ref l),some (.int ((sd p^i:Nat):Int)),z]) ⟨rfl,_,rfl⟩ (λ_ _ _ _ h=>h.1) ?_ ?_⟩
  ·intro i x σ H' Bs hi iu fE
   symm
   obtain⟨rfl,z,rfl⟩:=iu
   obtain⟨rfl,ex⟩:=fE
   nofun
   rw[aad] at hi
   have le:=Bj (e:=i) O3 (by omega)
   have e1:=e0 (by omega)
   simp_all only[]
   refine⟨_,hq,_,C8 p,?_⟩
   simp_all only[]
   refine⟨eN (by omega) (by omega),?_,_,rfl⟩
   rw[Nat.pow_succ,Int.natCast_mul,e1]
  ·intro σ H' dF
   symm
   obtain⟨rfl,z,rfl⟩:=dF
   nofun
   rw[aad]
   simp_all only[]
   exact kk
theorem jo:aY ["part"] ["part"] (aq (top 29)):=⟨rfl,rfl,rfl,by ac_rfl,rfl,by ac_rfl,by ac_rfl⟩
theorem Lo (T:Txt K mg aH aI aE aO af av):c6 P w K mg base (bG P w) 3 "part_throws" ["part"] Iv:=by
 have vq:c6 P w K mg base (bG P w) 2 "part_faces" ["part"] Iq:=Ll T
 have yH:c6 P w K mg base (bG P w) 1 "value_of" ["part","faces"] Ir:=Lm T
 have pV:c6 P w K mg base (bG P w) 1 "sides_product" ["part","faces"] Iu:=Ln T
 refine T.sR.fC (λ_ _ _ _ _ _=>ij λ_=>rfl) λf fd F=>F.gJ jo (λvs H Q E h=>?_) (λbZ A outer s H vs Q E hr h=>?_)
 ·obtain⟨_,_,rfl,_⟩:=h;rfl
 ·symm
  obtain⟨q,p,rfl,hq,g,hc,kk⟩:=h
  nofun
  have nd:=jo.nd
  refine⟨_,(ar (aT (cX rfl (N:=["part"]) (so:=aq (top 29)) (N':=["faces","part"]) (k:=1) (fr:=[0]) rfl rfl ⟨rfl,by ac_rfl,by ac_rfl,by ac_rfl,rfl,by ac_rfl,by ac_rfl⟩ (bo (K:=K) (bg vq (hr.mono (by decide)) rfl aK.pass (aa (pv 0) ai (se rfl)) (he:=se rfl) (hpl:=na rfl))) (λ_ _ _ _ _=>(aP (i:=0) (show(["faces","part"]:List Str).Nodup by ac_rfl) rfl (Or.inl rfl))) (λ_ _ _ _ _=>cm)
   (λ_ _ _ _ _=>(aX (aa (pv 0) (aa (bg yH (hr.mono (by decide)) rfl aK.pass (aa (pv 1) (aa (pv 0) ai (se rfl)) (se rfl)) (he:=se rfl) (hpl:=na rfl)) (aa (bg pV (hr.mono (by decide)) rfl aK.pass (aa (pv 1) (aa (pv 0) ai (se rfl)) (se rfl)) (he:=se rfl) (hpl:=na rfl)) ai (se rfl)) (se rfl)) (se rfl))))))),?_⟩
  have sl:=sizeLine_eq
  simp_all only[Iq]
  refine⟨p,hq,g,hc,λl H1 xs s1 hl al=>⟨⟨_,bD.of hl⟩,?_⟩⟩
  have lx:=al.length
  rw[mR] at lx
  refine comp_map (src_list (λH2 s2=>bD.of (s2 _ _ hl))) (λ_ _ _ _ h=>by rw[h.1];exact aA.refl _) (by omega) (λi y H2=>∀f,(Ft p)[i]?=some f->TR (λ_=>none) H2 (f,val p f,sd p^f.length) y) (λi y H2 H3 s3 h f e=>(h f e).mono s3) ?_ ?_
  ·rintro i x w0 H2 H3 Q2 hi s2 ⟨rfl,ex⟩ kq
   symm
   obtain⟨fs,ef,b,rfl,hb⟩:=al.get ex
   nofun
   have hf:fs∈Ft p:=aaj ef
   have JL:=s2 _ _ (s1 _ _ hq)
   have Lp:=s2 _ _ hb
   simp_all only[Ir,Iu]
   refine⟨p,JL,fs,Lp,g,hf,λH4 s4=>⟨p,s4 _ _ JL,fs,s4 _ _ Lp,g,hf,by decide,λa H5 s5 na e5=>kq _ _ (s4.trans s5) λf e=>?_⟩⟩
   rw[ef] at e
   cases e
   exact⟨a,b,rfl,e5,s5 _ _ (s4 _ _ Lp),rfl⟩
  ·intro ys H2 s2 ly hy D n1 n2
   refine kk _ _ _ (s1.trans (s2.trans (ae n2))) aj ?_
   refine Al.of (by unfold D8;rw[aad,mR];omega) λi y r e1 e2=>?_
   unfold D8 at e2
   rw[aae] at e2
   symm
   obtain⟨f,ef,rfl⟩:=Option.map_eq_some_iff.mp e2
   nofun
   exact(hy i y e1 f ef).mono (ae n2)
theorem fO:aY ["pool","found","part","behind","longer","faces","value","bottom"] ["pool"] (aq (top 30)):=⟨rfl,rfl,rfl,by ac_rfl,rfl,by ac_rfl,by ac_rfl⟩
theorem Lq (T:Txt K mg aH aI aE aO af av):c6 P w K mg base (bG P w) 5 "throws_by_bottom" ["pool"] Iw:=by
 have vt:c6 P w K mg base (bG P w) 4 "check_size" ["pool"] Io:=Lg T
 have sW:c6 P w K mg base (bG P w) 3 "part_throws" ["part"] Iv:=Lo T
 refine T.lK.fC (λ_ _ _ _ _ _=>ij λ_=>rfl) λf fd F=>F.gJ fO (λvs H Q E h=>?_) (λbZ A outer s H vs Q E hr h=>?_)
 ·obtain⟨_,_,rfl,_⟩:=h;rfl
 ·symm
  obtain⟨a,ps,rfl,hp,g,l4,kk⟩:=h
  nofun
  clear G_
  have nd:=fO.nd
  refine⟨_,(ao (bR (bg vt (hr.mono (by decide)) rfl aK.pass (aa (pv 0) ai (se rfl)) (he:=se rfl) (hpl:=na rfl)))
  (ao (aR (i:=1) nd rfl (Or.inl rfl) (bI (aa (aX (aa (bI ai) (aa ag (aa ag ai (se rfl)) (se rfl)) (se rfl))) ai (se rfl))))
  (ao (cY PassesOwn.never rfl (bo (K:=K) (pv 0)) (aP (i:=2) nd rfl (Or.inl rfl)) (ao (aR (i:=3) nd rfl (Or.inl rfl) (bg sW (hr.mono (by decide)) rfl aK.pass (aa (pv 2) ai (se rfl)) (he:=se rfl) (hpl:=na rfl)))
  (ao (aR (i:=4) nd rfl (Or.inl rfl) (bI ai))
  (ao (cY PassesOwn.never rfl (bo (K:=K) (pv 1)) (c9 (K:=K) (n:=3) rfl (bf (aP (i:=5) nd rfl (Or.inr rfl)) (bf (aP (i:=6) nd rfl (Or.inr rfl)) (bf (aP (i:=7) nd rfl (Or.inr rfl)) c8)))) (ar (bR (eZ aaz PySem.F.slot_list_extend PySem.F.type_list_extend nQ.r (pv 4) (aa (cX rfl (N:=["pool","found","part","behind","longer","faces","value","bottom"]) (so:=aq (top 30)) (N':=["more","faces","value","bottom"]) (k:=1) (fr:=[5,6,7]) rfl rfl ⟨rfl,by ac_rfl,by ac_rfl,by ac_rfl,rfl,by ac_rfl,by ac_rfl⟩ (bo (K:=K) (pv 3)) (λ_ _ _ _ _=>(aP (i:=0) (show(["more","faces","value","bottom"]:List Str).Nodup by ac_rfl) rfl (Or.inl rfl))) (λ_ _ _ _ _=>cm)
   (λ_ _ _ _ _=>(aX (aa (aL iH (pv 1) (aF au (pv 0) ag (λ_ _=>rfl))) (aa (aL bQ (pv 2) (aF au (pv 0) ag (λ_ _=>rfl))) (aa (aL cU (pv 3) (aF au (pv 0) ag (λ_ _=>rfl))) ai (se rfl)) (se rfl)) (se rfl))))) ai (se rfl))))))
  (ar (aR (i:=1) nd rfl (Or.inl rfl) (pv 4)))))))
  (ar (aT (pv 1)))))),?_⟩
  refine(?_:let cI:TS:=_;let cJ:TS:=_;let cK:TS:=_;let eC:TS:=_;tSeq cI (tSeq cJ (tSeq cK eC)) _ _ _)
  intro cI cJ cK eC
  have sl:=sizeLine_eq
  symm
  obtain⟨vs,ha,ap⟩:=hp
  nofun
  clear G_
  have lv:=ap.length
  change tSeq _ _ _ _ _
  refine cV (λσ' H1=>H=H1/\σ'=[some (.ref a),none,none,none,none,none,none,none]) ?_ (λN hN=>?_)
  case refine_2=>
   simp_all only[Io]
   exact⟨ps,⟨vs,ha,ap⟩,g,hN _ _ ⟨rfl,rfl⟩⟩
  rintro _ _ ⟨rfl,rfl⟩
  change tSeq _ _ _ _ _
  refine cV (λσ' H1=>aA H H1/\∃l xs,H1 l=some (.lst xs)/\Al (TR H H1) (fx []) xs/\σ'=[some (.ref a),some (.ref l),none,none,none,none,none,none]) ?_ (λN hN=>?_)
  case refine_2=>
   simp_all only[]
   refine⟨aak _,λe0 m0=>⟨by decide,λt H1 s1 nt e1=>⟨by decide,λl n1=>hN _ _ ⟨(ae m0).trans (s1.trans (ae n1)),l,_,aj,.one ⟨t,e0,rfl,ae n1 _ _ e1,ae n1 _ _ (s1 _ _ aj),m0⟩,rfl⟩⟩⟩⟩
  intro _ H1 dF
  symm
  obtain⟨BG,l,xs,hl,al,rfl⟩:=dF
  nofun
  clear G_
  change tSeq _ _ _ _ _
  refine cV (λσ' H2=>aA H H2/\∃l xs,H2 l=some (.lst xs)/\Al (TR H H2) (fx ps) xs/\∃z1 z2 z3 z4 z5 z6,σ'=[some (.ref a),some (.ref l),z1,z2,z3,z4,z5,z6]) ?_ (λN hN=>?_)
  case refine_2=>
   simp_all only[]
   refine⟨⟨_,bD.of (BG _ _ ha)⟩,cD (src_list (Ok:=aA H) (λH2 s2=>bD.of (s2 _ _ ha)))
    (λi σ H2=>aA H H2/\∃l xs z1 z2 z3 z4 z5 z6,H2 l=some (.lst xs)/\Al (TR H H2) (fx (ps.take i)) xs/\σ=[some (.ref a),some (.ref l),z1,z2,z3,z4,z5,z6])
    ⟨BG,l,xs,_,_,_,_,_,_,hl,al,rfl⟩ (λ_ _ _ _ h=>h.1) ?_ ?_⟩
   ·clear hl al xs l
    intro i x σ H2 H3 hi iu fE
    symm
    obtain⟨xi,l,xs,z1,z2,z3,z4,z5,z6,hl,al,rfl⟩:=iu
    obtain⟨rfl,ex⟩:=fE
    obtain⟨p,ep,q,rfl,hq⟩:=ap.get ex
    nofun
    obtain⟨FP,AE⟩:=List.getElem?_eq_some_iff.mp ep
    have hm:p∈ps:=by rw[<-AE];exact List.getElem_mem FP
    symm
    obtain⟨gp,c1,b1⟩:=ou g hm
    nofun
    have lx:=al.length
    rw[qg] at lx
    have c0:=om g i
    have c2:=om g (i+1)
    have es:fx (ps.take (i+1))=GL (fx (ps.take i)) p:=by rw[take_snoc FP,AE,qU]
    have ec:lP ((ps.take (i+1)).map cnt)=lP ((ps.take i).map cnt)*cnt p:=by rw[take_snoc FP,AE,aan,aag,aaL,ik]
    rw[ec] at c2
    change tSeq _ _ _ _ _
    refine cV (λσ' H4=>aA H3 H4/\∃b bs,H4 b=some (.lst bs)/\Al (TR (λ_=>none) H4) (D8 p) bs/\σ'=[some (.ref a),some (.ref l),some (.ref q),some (.ref b),z3,z4,z5,z6]) ?_ (λN hN=>?_)
    case refine_2=>
     simp_all only[Iv]
     exact⟨p,xi _ _ hq,gp,c1,λb H4 bs s4 hb ab=>hN _ _ ⟨s4,b,bs,hb,ab,rfl⟩⟩
    intro _ H4 dF
    symm
    obtain⟨NA,b,bs,hb,ab,rfl⟩:=dF
    nofun
    have lb:=ab.length
    unfold D8 at lb
    rw[aad,mR] at lb
    have hl:=NA _ _ hl
    have al:=al.imp λ_ _ h=>TR.mono NA h
    change tSeq _ _ _ _ _
    refine cV (λσ' H5=>aA H4 H5/\∃m,H4 m=none/\H5 m=some (.lst [])/\σ'=[some (.ref a),some (.ref l),some (.ref q),some (.ref b),some (.ref m),z4,z5,z6]) ?_ (λN hN=>?_)
    case refine_2=>
     simp_all only[]
     exact⟨aak _,λm nm=>hN _ _ ⟨ae nm,m,nm,aj,rfl⟩⟩
    intro _ H5 dF
    symm
    obtain⟨V7,m,nm,YS,rfl⟩:=dF
    nofun
    change tSeq _ _ _ _ _
    refine cV (λσ' H6=>aA H4 H6/\∃ys,H6 m=some (.lst ys)/\Al (TR H H6) (GL (fx (ps.take i)) p) ys/\∃z4 z5 z6,σ'=[some (.ref a),some (.ref l),some (.ref q),some (.ref b),some (.ref m),z4,z5,z6]) ?_ (λN hN=>?_)
    case refine_2=>
     simp_all only[]
     refine⟨⟨_,bD.of (V7 _ _ hl)⟩,cD (src_list (Ok:=aA H4) (λH2 s2=>bD.of (s2 _ _ hl)))
      (λj σ H6=>aA H4 H6/\∃ys z4 z5 z6,H6 m=some (.lst ys)/\ys.length=j*cnt p/\Al (TR H (di H6 m)) (GL ((fx (ps.take i)).take j) p) ys/\σ=[some (.ref a),some (.ref l),some (.ref q),some (.ref b),some (.ref m),z4,z5,z6])
      ⟨V7,[],_,_,_,YS,by simp,trivial,rfl⟩ (λ_ _ _ _ h=>h.1) ?_ ?_⟩
     ·intro j x σ H6 H7 hj iu fE
      symm
      obtain⟨DD,ys,z4,z5,z6,GV,ly,ay,rfl⟩:=iu
      obtain⟨rfl,ex⟩:=fE
      obtain⟨r,er,t,fq,rfl,ht,O5,nfq⟩:=al.get ex
      nofun
      have Bu:=zV g.1 i (by omega) r (aaj er)
      have ht:=DD _ _ ht
      have O5:=DD _ _ O5
      have JM:=DD _ _ hb
      have b0:=oq g i
      refine⟨t,_,rfl,gh.of ht,rfl,_,_,rfl,_,_,rfl,_,_,rfl,rfl,?_⟩
      simp_all only[p6]
      refine⟨.inl ⟨rfl,_,bD.of GV⟩,⟨_,bD.of JM⟩,?_⟩
      refine comp_map (src_list (λH2 s2=>bD.of (s2 _ _ JM))) (λ_ _ _ _ h=>by rw[h.1];exact aA.refl _) (by omega) (λk y H8=>∀u,(D8 p)[k]?=some u->TR H (di H8 m) (r.1++u.1,r.2.1+u.2.1,r.2.2*u.2.2) y) (λk y H8 H9 s9 h u e=>(h u e).mono (bH s9)) ?_ ?_
      ·rintro k x w0 H8 H9 Q2 hk s8 ⟨rfl,ex⟩ kq
       symm
       obtain⟨u,eu,c,d,rfl,hc,hd,_⟩:=ab.get ex
       nofun
       have V8:=s8 _ _ (DD _ _ hc)
       have YT:=s8 _ _ (DD _ _ hd)
       have O6:=s8 _ _ O5
       have lu:u.1.length<=7:=by
        have hu:=aaj eu
        unfold D8 at hu
        symm
        obtain⟨f,hf,rfl⟩:=List.mem_map.mp hu
        nofun
        exact aar (mS gp f hf).2 (qT gp)
       simp_all only[vY,V8,YT,O6]
       refine⟨by rw[aad,aad];omega,λa1 n1=>?_⟩
       have s9:=ae (o:=.lst (List.map V.int r.1++List.map V.int u.1)) n1
       simp only[s9 _ _ V8]
       refine⟨_,rfl,_,at1,_,rfl,_,rfl,_,at2,_,rfl,eN (by omega) (by omega),by decide,λt2 O7 BH V9 e10=>kq _ _ (s9.trans BH) λu' Wa=>?_⟩
       rw[eu] at Wa
       cases Wa
       have YU:=s9 _ _ (s8 _ _ GV)
       refine⟨t2,a1,rfl,?_,?_,?_⟩
       ·rw[bM (λe=>by rw[e,YU] at V9;cases V9),e10,Int.natCast_mul]
       ·rw[bM (λe=>by rw[e,s8 _ _ GV] at n1;cases n1),BH _ _ aj,aan]
       ·exact none_of (xi.trans (NA.trans (DD.trans s8))) n1
      ·intro zs H8 s8 lz hz D n1 n2
       have YV:=s8 _ _ GV
       have jm:j*cnt p+cnt p<=lP ((ps.take i).map cnt)*cnt p:=by
        rw[<-Nat.succ_mul]
        exact Nat.mul_le_mul_right _ (by omega)
       refine⟨_,ae n2 _ _ YV,_,aj,by omega,?_⟩
       have s9:aA H7 (upd H8 D (.lst zs)):=s8.trans (ae n2)
       refine⟨cb (DD.trans s9) nm,_,aj,by rw[aah,ly,lz,lb,Nat.succ_mul],?_,_,rfl⟩
       rw[vd,aaC,er]
       unfold GL
       rw[List.flatMap_append]
       refine Al.append (ay.imp λ_ _ h=>h.mono (bH s9)) ?_
       simp only[Option.toList,List.flatMap_cons,List.flatMap_nil,aaT]
       refine Al.of (by rw[aad];unfold D8;rw[aad,mR];omega) λk y v e1 e2=>?_
       rw[aae] at e2
       symm
       obtain⟨u,eu,rfl⟩:=Option.map_eq_some_iff.mp e2
       nofun
       exact(hz _ _ e1 u eu).mono (bH (ae n2))
     ·intro σ H6 dF
      symm
      obtain⟨DD,ys,z4,z5,z6,GV,ly,ay,rfl⟩:=dF
      nofun
      refine hN _ _ ⟨DD,ys,GV,?_,_,_,_,rfl⟩
      rw[lx,<-qg,aau (aaf _)] at ay
      exact ay.imp λ_ _ h=>h.mono bJ
    intro _ H6 dF
    symm
    obtain⟨DD,ys,GV,ay,z4,z5,z6,rfl⟩:=dF
    nofun
    simp_all only[]
    rw[es]
    exact⟨xi.trans (NA.trans DD),m,_,GV,ay,rfl,_,rfl⟩
   ·intro σ H2 dF
    symm
    obtain⟨xi,l,xs,z1,z2,z3,z4,z5,z6,hl,al,rfl⟩:=dF
    nofun
    rw[lv,aau (aaf _)] at al
    exact hN _ _ ⟨xi,l,xs,hl,al,_,_,_,_,_,_,rfl⟩
  intro _ H2 dF
  symm
  obtain⟨xi,l,xs,hl,al,z1,z2,z3,z4,z5,z6,rfl⟩:=dF
  nofun
  simp_all only[]
  exact kk _ _ _ xi hl al
theorem kX:aY ["pool","found","common","part"] ["pool"] (aq (top 31)):=⟨rfl,rfl,rfl,by ac_rfl,rfl,by ac_rfl,by ac_rfl⟩
theorem Lr (T:Txt K mg aH aI aE aO af av):c6 P w K mg base (bG P w) 6 "pool_table" ["pool"] Iz:=by
 have lV:c6 P w K mg base (bG P w) 5 "throws_by_bottom" ["pool"] Iw:=Lq T
 have eD:c6 P w K mg base (bG P w) 2 "part_bottom" ["part"] ve:=DC T
 have yI:c6 P w K mg base (bG P w) 4 "table_of" ["rows"] (Ii aI):=Ld T
 refine T.uW.fC (λ_ _ _ _ _ _=>ij λ_=>rfl) λf fd F=>F.gJ kX (λvs H Q E h=>?_) (λbZ A outer s H vs Q E hr h=>?_)
 ·obtain⟨_,_,rfl,_⟩:=h;rfl
 ·symm
  obtain⟨a,ps,rfl,hp,gl,l4,kk⟩:=h
  nofun
  clear G_
  have nd:=kX.nd
  refine⟨_,(ao (aR (i:=1) nd rfl (Or.inl rfl) (bg lV (hr.mono (by decide)) rfl aK.pass (aa (pv 0) ai (se rfl)) (he:=se rfl) (hpl:=na rfl)))
  (ao (aR (i:=2) nd rfl (Or.inr rfl) ag)
  (ao (cY PassesOwn.never rfl (bo (K:=K) (pv 0)) (aP (i:=3) nd rfl (Or.inl rfl)) (ar (aR (i:=2) nd rfl (Or.inr rfl) (aL cU (pv 2) (bg eD (hr.mono (by decide)) rfl aK.pass (aa (pv 3) ai (se rfl)) (he:=se rfl) (hpl:=na rfl))))))
  (ar (aT (bg yI (hr.mono (by decide)) rfl aK.pass (aa (cX rfl (N:=["pool","found","common","part"]) (so:=aq (top 31)) (N':=["faces","value","bottom","common"]) (k:=3) (fr:=[2]) rfl rfl ⟨rfl,by ac_rfl,by ac_rfl,by ac_rfl,rfl,by ac_rfl,by ac_rfl⟩ (bo (K:=K) (pv 1)) (λ_ _ _ _ _=>(c9 (K:=K) (n:=3) rfl (bf (aP (i:=0) (show(["faces","value","bottom","common"]:List Str).Nodup by ac_rfl) rfl (Or.inl rfl)) (bf (aP (i:=1) (show(["faces","value","bottom","common"]:List Str).Nodup by ac_rfl) rfl (Or.inl rfl)) (bf (aP (i:=2) (show(["faces","value","bottom","common"]:List Str).Nodup by ac_rfl) rfl (Or.inl rfl)) c8))))) (λ_ _ _ _ _=>cm)
   (λ_ _ _ _ _=>(aX (aa (pv 1) (aa (aL b7 (pv 3) (pv 2)) ai (se rfl)) (se rfl))))) ai (se rfl)) (he:=se rfl) (hpl:=na rfl))))))),?_⟩
  refine(?_:let cI:TS:=_;let cJ:TS:=_;let cK:TS:=_;let eC:TS:=_;tSeq cI (tSeq cJ (tSeq cK eC)) _ _ _)
  intro cI cJ cK eC
  have sl:=sizeLine_eq
  have gm:=C9 gl
  symm
  obtain⟨vs,ha,ap⟩:=id hp
  nofun
  clear G_
  have lv:=ap.length
  change tSeq _ _ _ _ _
  refine cV (λσ' H1=>aA H H1/\∃l xs,H1 l=some (.lst xs)/\Al (TR H H1) (fx ps) xs/\σ'=[some (.ref a),some (.ref l),none,none]) ?_ (λN hN=>?_)
  case refine_2=>
   simp_all only[Iw]
   exact⟨ps,hp,gm,l4,λl H1 xs s1 hl al=>hN _ _ ⟨s1,l,xs,hl,al,rfl⟩⟩
  intro _ H1 dF
  symm
  obtain⟨BG,l,xs,hl,al,rfl⟩:=dF
  nofun
  clear G_
  have lx:=al.length
  rw[qg] at lx
  change tSeq _ _ _ _ _
  refine cV (λσ' H2=>H1=H2/\σ'=[some (.ref a),some (.ref l),some (.int 1),none]) ?_ (λN hN=>?_)
  case refine_2=>
   simp_all only[]
   exact hN _ _ ⟨rfl,rfl⟩
  rintro _ _ ⟨rfl,rfl⟩
  change tSeq _ _ _ _ _
  refine cV (λσ' H2=>H1=H2/\∃z,σ'=[some (.ref a),some (.ref l),some (.int (lP (ps.map bot):Int)),z]) ?_ (λN hN=>?_)
  case refine_2=>
   simp_all only[]
   refine⟨⟨_,bD.of (BG _ _ ha)⟩,cD (src_list (Ok:=λH'=>H1=H') (λH' e=>by subst e;exact bD.of (BG _ _ ha))) (λi σ H'=>H1=H'/\∃z,σ=[some (.ref a),some (.ref l),some (.int (lP ((ps.take i).map bot):Int)),z]) ⟨rfl,_,rfl⟩ (λ_ _ _ _ h=>h.1) ?_ ?_⟩
   ·intro i x σ H' Bs hi iu fE
    symm
    obtain⟨rfl,z,rfl⟩:=iu
    obtain⟨rfl,ex⟩:=fE
    obtain⟨p,ep,q,rfl,hq⟩:=ap.get ex
    nofun
    obtain⟨FP,AE⟩:=List.getElem?_eq_some_iff.mp ep
    symm
    obtain⟨gp,c1,b1⟩:=ou gm (aaj ep)
    nofun
    have b0:=oq gm i
    simp_all only[ve]
    refine⟨p,BG _ _ hq,gp,b1,eN (by omega) (by omega),?_,_,rfl⟩
    rw[take_snoc FP,AE,aan,aag,aaL,ik,Int.natCast_mul]
   ·intro σ H' dF
    symm
    obtain⟨rfl,z,rfl⟩:=dF
    nofun
    rw[lv,aau (aaf _)]
    exact hN _ _ ⟨rfl,_,rfl⟩
  intro _ _ dF
  symm
  obtain⟨rfl,z,rfl⟩:=dF
  have c0:=gm.2.1
  have bW:=gm.2.2
  obtain⟨YW,YX,YY,_⟩:=zW ps gl
  nofun
  clear G_
  have dv:∀r∈fx ps,1<=r.2.2/\r.2.2<=lP (ps.map bot):=λr Bu=>by
   have:=zV gm.1 ps.length (aaf _) r (by rw[aau (aaf _)];exact Bu)
   rw[aau (aaf _)] at this
   exact this.2
  have nb:=Iy gl
  have YZ:Fy (lP (ps.map bot)) (fx ps)=Ea ps:=rfl
  generalize hW:lP (ps.map bot)=W at *
  simp_all only[Ii]
  refine⟨⟨_,bD.of hl⟩,?_⟩
  refine A4 (K:=K) (src_list (λH2 s2=>bD.of (s2 _ _ hl))) (λi u v b' H2=>∃r,(fx ps)[i]?=some r/\v=.int r.2.1/\b'=.int (r.2.2:Int)) ?_ (by omega)
   (λi y H2=>∀r,(fx ps)[i]?=some r->Rep H2 (px (r.2.1,((W / r.2.2:Nat):Int))) y) (λi y H2 H3 s3 h r e=>(h r e).mono s3) ?_ ?_
  ·rintro i x H2 H3 hi s2 ⟨rfl,ex⟩
   symm
   obtain⟨r,er,t,q,rfl,ht,hq,nq⟩:=al.get ex
   nofun
   exact⟨aA.refl _,t,_,_,_,rfl,gh.of (s2 _ _ ht),r,er,rfl,rfl⟩
  ·intro i u v b' H2 Q2 hi s2 Y0 kq
   symm
   obtain⟨r,er,rfl,rfl⟩:=Y0
   nofun
   have hb:=dv r (aaj er)
   simp_all only[]
   refine⟨dB.of (n:=64) (by omega) (Bt.of 1000000 (by omega) (by omega)),by decide,λt H3 s3 nt e3=>kq _ _ s3 λr' Ao=>?_⟩
   rw[er] at Ao
   cases Ao
   rw[<-Int.natCast_ediv] at e3
   exact d8.mpr ⟨t,rfl,e3⟩
  ·intro ys H2 s2 ly hy D n1 n2
   have rp:Rep (upd H2 D (.lst ys)) (ji (Ea ps)) (.ref D):=by
    rw[<-YZ]
    refine aS.mpr ⟨D,ys,rfl,aj,aZ.of ?_ λi dd v e1 e2=>?_⟩
    ·unfold Fy
     rw[aad,aad,ly,lx,<-qg]
    ·unfold Fy at e1
     rw[aae,aae] at e1
     symm
     obtain⟨p,ep,rfl⟩:=Option.map_eq_some_iff.mp e1
     obtain⟨r,er,rfl⟩:=Option.map_eq_some_iff.mp ep
     nofun
     exact(hy i v e2 r er).mono (ae n2)
   have sD:aA H (upd H2 D (.lst ys)):=BG.trans (s2.trans (ae n2))
   exact⟨Ea ps,rp,YX,λx hx=>(YW x hx).2,YY,λb=>absurd b nb,λ_ p H' s' np r'=>kk p H' (sD.trans s') (none_of sD np) r'⟩
theorem iy:aY ["several","common","one"] ["several"] (aq (top 9)):=⟨rfl,rfl,rfl,by ac_rfl,rfl,by ac_rfl,by ac_rfl⟩
theorem Ls (T:Txt K mg aH aI aE aO af av):c6 P w K mg base (bG P w) 2 "common_bottom" ["several"] IG:=by
 have fz:c6 P w K mg base (bG P w) 1 "common_divisor" ["one","other"] C7:=GU T
 refine T.pO.fC (λ_ _ _ _ _ _=>ij λ_=>rfl) λf fd F=>F.gJ iy (λvs H Q E h=>?_) (λbZ A outer s H vs Q E hr h=>?_)
 ·obtain⟨_,_,_,rfl,_⟩:=h;rfl
 ·symm
  obtain⟨v,ps,W,rfl,rp,W0,W1,hz,good,k⟩:=h
  nofun
  have nd:=iy.nd
  refine⟨_,(ao (aR (i:=1) nd rfl (Or.inl rfl) ag)
  (ao (cY PassesOwn.never rfl (bo (K:=K) (pv 0)) (aP (i:=2) nd rfl (Or.inl rfl)) (ar (aR (i:=1) nd rfl (Or.inl rfl) (aL cU (aL b7 (pv 1) (bg fz (hr.mono (by decide)) rfl aK.pass (aa (pv 1) (aa (aF au (pv 2) ag (λ_ _=>rfl)) ai (se rfl)) (se rfl)) (he:=se rfl) (hpl:=na rfl))) (aF au (pv 2) ag (λ_ _=>rfl))))))
  (ar (aT (pv 1))))),?_⟩
  refine(?_:let cI:TS:=_;let cJ:TS:=_;let cK:TS:=_;tSeq cI (tSeq cJ cK) _ _ _)
  intro cI cJ cK
  symm
  obtain⟨l,xs,rfl,hl,rl⟩:=aS.mp rp
  nofun
  have len:=rl.length
  rw[aad] at len
  simp_all only[]
  refine⟨⟨_,bD.of hl⟩,cD (src_list (Ok:=λH2=>H2=H) (λH2 e=>by rw[e];exact bD.of hl)) (λi σ H2=>H2=H/\∃B z,σ=[some (.ref l),some (.int B),z]/\0<B/\(∀M,(∀p∈ps,p.2∣M)->B∣M)/\∀p∈ps.take i,p.2∣B)
   ⟨rfl,1,none,rfl,by decide,λ_ _=>Int.one_dvd _,by simp⟩ (λ_ _ _ _ h=>h.1) ?_ ?_⟩
  ·intro i x σ H2 H3 hi iu fE
   symm
   obtain⟨rfl,B,z,rfl,B0,bB,dv⟩:=iu
   obtain⟨rfl,hx⟩:=fE
   obtain⟨d,ed,rd⟩:=rl.get hx
   nofun
   symm
   obtain⟨p,ep,rfl⟩:=aae ..▸ed |>Option.map_eq_some_iff.mp
   obtain⟨a,rfl,ha⟩:=d8.mp rd
   obtain⟨p0,bp⟩:=good p (aaj ep)
   nofun
   have g0:=Nm.Gx (a:=B) (show p.2≠0 by omega)
   have p1:p.2<=1000000:=Int.le_trans (Int.le_of_dvd W0 bp) W1
   have gb:Bt 20 (Nm.g B p.2):=Bt.of 1000000 (by omega) (by have:=Nm.Kn (a:=B) p0;omega)
   simp_all only[C7,ha]
   have e:B / Nm.g B p.2*p.2=B* (p.2 / Nm.g B p.2):=Nm.tV B p.2
   refine⟨dB.of g0 gb,nS (by omega) (by omega),?_,?_,?_⟩
   ·exact Int.mul_pos (Int.ediv_pos_of_pos_of_dvd B0 (Nm.Om _ _) (Nm.uG _ _)) p0
   ·exact λM hM=>Du (bB M hM) (hM p (aaj ep))
   ·intro q hq
    rw[aaC,ep] at hq
    rcases List.mem_append.mp hq with hq | hq
    ·rw[e]
     exact Int.dvd_trans (dv q hq) (Int.dvd_mul_right _ _)
    ·have:q=p:=by simpa using hq
     subst this
     exact Int.dvd_mul_left _ _
  ·intro σ H2 dF
   symm
   obtain⟨rfl,B,z,rfl,B0,bB,dv⟩:=dF
   nofun
   simp_all only[]
   exact k B B0 bB (λp hp=>dv p (by rw[aau (by omega)];exact hp))
theorem mY:aY ["table"] ["table"] (aq (top 13)):=⟨rfl,rfl,rfl,by ac_rfl,rfl,by ac_rfl,by ac_rfl⟩
theorem IM (T:Txt K mg aH aI aE aO af av):c6 P w K mg base (bG P w) 3 "bottom_of" ["table"] Dt:=by
 have pW:c6 P w K mg base (bG P w) 2 "common_bottom" ["several"] IG:=Ls T
 refine T.wK.fC (λ_ _ _ _ _ _=>ij λ_=>rfl) λf fd F=>F.gJ mY (λvs H Q E h=>?_) (λbZ A outer s H vs Q E hr h=>?_)
 ·obtain⟨_,_,_,rfl,_⟩:=h;rfl
 ·symm
  obtain⟨v,rows,W,rfl,rp,⟨W0,W1,hz,good⟩,k⟩:=h
  nofun
  have nd:=mY.nd
  refine⟨_,(ar (aT (bg pW (hr.mono (by decide)) rfl aK.pass (aa (cX rfl (N:=["table"]) (so:=aq (top 13)) (N':=["value","part"]) (k:=2) (fr:=[]) rfl rfl ⟨rfl,by ac_rfl,by ac_rfl,by ac_rfl,rfl,by ac_rfl,by ac_rfl⟩ (bo (K:=K) (pv 0)) (λ_ _ _ _ _=>(c9 (K:=K) (n:=2) rfl (bf (aP (i:=0) (show(["value","part"]:List Str).Nodup by ac_rfl) rfl (Or.inl rfl)) (bf (aP (i:=1) (show(["value","part"]:List Str).Nodup by ac_rfl) rfl (Or.inl rfl)) c8)))) (λ_ _ _ _ _=>cm)
   (λ_ _ _ _ _=>(pv 1))) ai (se rfl)) (he:=se rfl) (hpl:=na rfl)))),?_⟩
  symm
  obtain⟨l,xs,rfl,hl,rl⟩:=aS.mp rp
  nofun
  have len:=rl.length
  rw[aad] at len
  simp_all only[]
  refine⟨⟨_,bD.of hl⟩,?_⟩
  refine fo (src_list (λH2 s2=>s2.seq (bD.of hl))) (λi a b H3=>∀r,rows[i]?=some r->Rep H3 (px r.2) b) ?_ (by rw[sizeLine_eq];omega) (λi y H2=>∀r,rows[i]?=some r->Rep H2 (px r.2) y) (λi y H2 H3 s3 h r e=>(h r e).mono s3) ?_ ?_
  ·rintro i x H2 H3 hi s2 ⟨rfl,hx⟩
   symm
   obtain⟨d,ed,rd⟩:=rl.get hx
   rw[aae] at ed
   obtain⟨r,er,rfl⟩:=Option.map_eq_some_iff.mp ed
   obtain⟨p,q,rfl,hp,hq⟩:=mJ.mp rd
   nofun
   refine⟨aA.refl _,p,_,_,rfl,gh.of (s2 _ _ hp),λr' Ao=>?_⟩
   rw[er] at Ao
   cases Ao
   exact d8.mpr ⟨q,rfl,s2 _ _ hq⟩
  ·intro i a b H3 Q2 hi s3 it kq
   simp_all only[]
   exact kq _ _ (aA.refl _) it
  ·intro ys H2 s2 ly hy D n1 n2
   simp_all only[IG]
   have Y1:Rep (upd H2 D (.lst ys)) (ji (rows.map (·.2))) (.ref D):=by
    refine aS.mpr ⟨D,ys,rfl,aj,aZ.of ?_ λi dd v e1 e2=>?_⟩
    ·rw[aad,aad,ly,len]
    ·rw[aae,aae] at e1
     symm
     obtain⟨p,ep,rfl⟩:=Option.map_eq_some_iff.mp e1
     obtain⟨r,er,rfl⟩:=Option.map_eq_some_iff.mp ep
     nofun
     exact(hy i v e2 r er).mono (ae n2)
   refine⟨_,Y1,W,W0,W1,by rw[aad];exact hz,λp hp=>?_,λB B0 bB dv=>?_⟩
   ·symm
    obtain⟨r,Bu,rfl⟩:=List.mem_map.mp hp
    nofun
    exact⟨(good r Bu).1,(good r Bu).2.1⟩
   ·refine k B _ (s2.trans (ae n2)) ⟨B0,λr Bu=>dv _ (List.mem_map.mpr ⟨r,Bu,rfl⟩),λM hM=>bB M λp hp=>by obtain⟨r,Bu,rfl⟩:=List.mem_map.mp hp;exact hM r Bu⟩
theorem rF:aY ["table","bottom"] ["table","bottom"] (aq (top 14)):=⟨rfl,rfl,rfl,by ac_rfl,rfl,by ac_rfl,by ac_rfl⟩
theorem Lu (T:Txt K mg aH aI aE aO af av):c6 P w K mg base (bG P w) 1 "weighed" ["table","bottom"] IH:=by
 refine T.Bd.fC (λ_ _ _ _ _ _=>gX λ_ _=>rfl) λf fd F=>F.gJ rF (λvs H Q E h=>?_) (λbZ A outer s H vs Q E hr h=>?_)
 ·obtain⟨_,_,_,_,rfl,_⟩:=h;rfl
 ·symm
  obtain⟨v,rows,W,B,rfl,rp,gr,gb,k⟩:=h
  have b1:=II gr gb
  obtain⟨W0,W1,hz,good⟩:=id gr
  obtain⟨B0,dv,bB⟩:=gb
  nofun
  have nd:=rF.nd
  refine⟨_,(ar (aT (cX rfl (N:=["table","bottom"]) (so:=aq (top 14)) (N':=["value","part","bottom"]) (k:=2) (fr:=[1]) rfl rfl ⟨rfl,by ac_rfl,by ac_rfl,by ac_rfl,rfl,by ac_rfl,by ac_rfl⟩ (bo (K:=K) (pv 0)) (λ_ _ _ _ _=>(c9 (K:=K) (n:=2) rfl (bf (aP (i:=0) (show(["value","part","bottom"]:List Str).Nodup by ac_rfl) rfl (Or.inl rfl)) (bf (aP (i:=1) (show(["value","part","bottom"]:List Str).Nodup by ac_rfl) rfl (Or.inl rfl)) c8)))) (λ_ _ _ _ _=>cm)
   (λ_ _ _ _ _=>(aX (aa (pv 0) (aa (aL cU (aF au (pv 1) ag (λ_ _=>rfl)) (aL b7 (pv 2) (aF au (pv 1) ag (λ_ _=>rfl)))) ai (se rfl)) (se rfl))))))),?_⟩
  symm
  obtain⟨l,xs,rfl,hl,rl⟩:=aS.mp rp
  nofun
  have len:=rl.length
  rw[aad] at len
  simp_all only[]
  refine⟨⟨_,bD.of hl⟩,?_⟩
  refine fo (src_list (λH2 s2=>s2.seq (bD.of hl))) (λi a b H3=>∃r,rows[i]?=some r/\a=.int r.1/\Rep H3 (px r.2) b) ?_ (by rw[sizeLine_eq];omega) (λi y H2=>∀r,rows[i]?=some r->Rep H2 (px (r.1,r.2.1* (B / r.2.2))) y) (λi y H2 H3 s3 h r e=>(h r e).mono s3) ?_ ?_
  ·rintro i x H2 H3 hi s2 ⟨rfl,hx⟩
   symm
   obtain⟨d,ed,rd⟩:=rl.get hx
   rw[aae] at ed
   obtain⟨r,er,rfl⟩:=Option.map_eq_some_iff.mp ed
   obtain⟨p,q,rfl,hp,hq⟩:=mJ.mp rd
   nofun
   exact⟨aA.refl _,p,_,_,rfl,gh.of (s2 _ _ hp),r,er,rfl,d8.mpr ⟨q,rfl,s2 _ _ hq⟩⟩
  ·intro i a b H3 Q2 hi s3 fE kq
   symm
   obtain⟨r,er,rfl,rb⟩:=fE
   obtain⟨q,rfl,hq⟩:=d8.mp rb
   obtain⟨g3,g2,g0,g1⟩:=good r (aaj er)
   nofun
   have r1:r.2.2<=1000000:=Int.le_trans (Int.le_of_dvd W0 g2) W1
   simp_all only[hq]
   refine⟨dB.of (n:=20) g3 (Bt.of 1000000 (by omega) (by omega)),eN (by omega) (by omega),by decide,λp4 H4 s4 _ e4=>kq _ _ s4 λr' Ao=>?_⟩
   rw[er] at Ao
   cases Ao
   exact d8.mpr ⟨p4,rfl,e4⟩
  ·intro ys H2 s2 ly hy D n1 n2
   refine k _ _ (s2.trans (ae n2)) n1 (aS.mpr ⟨D,ys,rfl,aj,aZ.of ?_ λi dd v e1 e2=>?_⟩)
   ·rw[aad,ly]
    unfold Nm.weigh
    rw[aad,len]
   ·unfold Nm.weigh at e1
    rw[aae,aae] at e1
    symm
    obtain⟨p,ep,rfl⟩:=Option.map_eq_some_iff.mp e1
    obtain⟨r,er,rfl⟩:=Option.map_eq_some_iff.mp ep
    nofun
    exact(hy i v e2 r er).mono (ae n2)
theorem pF:aY ["rows"] ["rows"] (aq (top 34)):=⟨rfl,rfl,rfl,by ac_rfl,rfl,by ac_rfl,by ac_rfl⟩
theorem Lv (T:Txt K mg aH aI aE aO af av):c6 P w K mg base (bG P w) 1 "own_rows" ["rows"] yv:=by
 refine T.yo.fC (λ_ _ _ _ _ _=>ij λ_=>rfl) λf fd F=>F.gJ pF (λvs H Q E h=>?_) (λbZ A outer s H vs Q E hr h=>?_)
 ·obtain⟨_,_,rfl,_⟩:=h;rfl
 ·symm
  obtain⟨v,rs,rfl,rp,lr,ll,kk⟩:=h
  nofun
  have nd:=pF.nd
  refine⟨_,(ar (aT (cX rfl (N:=["rows"]) (so:=aq (top 34)) (N':=["row"]) (k:=1) (fr:=[]) rfl rfl ⟨rfl,by ac_rfl,by ac_rfl,by ac_rfl,rfl,by ac_rfl,by ac_rfl⟩ (bo (K:=K) (pv 0)) (λ_ _ _ _ _=>(aP (i:=0) (show(["row"]:List Str).Nodup by ac_rfl) rfl (Or.inl rfl))) (λ_ _ _ _ _=>cm)
   (λ_ _ _ _ _=>(aX (aa (aF au (pv 0) ag (λ_ _=>rfl)) (aa (aF au (pv 0) ag (λ_ _=>rfl)) (aa (hV (gW (K:=K)) (by rfl) T.z_list rfl (aa (aF au (pv 0) ag (λ_ _=>rfl)) ai (se rfl)) (he:=se rfl) (hpl:=na rfl)) (aa (aF au (pv 0) ag (λ_ _=>rfl)) ai (se rfl)) (se rfl)) (se rfl)) (se rfl))))))),?_⟩
  have sl:=sizeLine_eq
  symm
  obtain⟨l,xs,rfl,hl,rl⟩:=aS.mp rp
  nofun
  have len:=rl.length
  rw[aad] at len
  simp_all only[]
  refine⟨⟨_,bD.of hl⟩,?_⟩
  refine comp_map (src_list (K:=K) (λH' s'=>bD.of (s' _ _ hl))) (λ_ _ _ _ h=>by rw[h.1];exact aA.refl _) (by omega) (λi y H4=>∀r,rs[i]?=some r->Rep H4 (mn r) y) (λi y H4 H5 s5 h r e=>(h r e).mono s5) ?_ ?_
  ·rintro i x w0 H4 H5 Q2 hi s4 ⟨rfl,ex⟩ kq
   symm
   obtain⟨d,ed,rd⟩:=rl.get ex
   rw[aae] at ed
   obtain⟨r,er,rfl⟩:=Option.map_eq_some_iff.mp ed
   obtain⟨p,a,b,c,d,rfl,hp,ra,rb,rc,O8⟩:=dq.mp (rd.mono s4)
   obtain⟨c',Wb,rfl,hc,Ap⟩:=aS.mp rc
   nofun
   simp_all only[hp]
   refine⟨_,.inl (bD.of hc),λm nm=>⟨_,ae nm _ _ hp,_,rfl,by decide,λt H6 s6 nt e6=>kq _ _ ((ae nm).trans s6) λr' Ao=>?_⟩⟩
   rw[er] at Ao
   cases Ao
   have sm:=(ae (o:=.lst Wb) nm).trans s6
   exact dq.mpr ⟨t,_,_,_,_,rfl,e6,ra.mono sm,rb.mono sm,aS.mpr ⟨m,Wb,rfl,s6 _ _ aj,Ap.mono sm⟩,O8.mono sm⟩
  ·intro ys H5 s5 ly hy D n1 n2
   refine kk D _ (s5.trans (ae n2)) (aS.mpr ⟨D,ys,rfl,aj,aZ.of (by rw[aad];omega) λi dd u e1 e2=>?_⟩)
   rw[aae] at e1
   symm
   obtain⟨r,er,rfl⟩:=Option.map_eq_some_iff.mp e1
   nofun
   exact(hy i u e2 r er).mono (ae n2)
theorem pG:aY ["what"] ["what"] (aq (top 35)):=⟨rfl,rfl,rfl,by ac_rfl,rfl,by ac_rfl,by ac_rfl⟩
theorem Lw (T:Txt K mg aH aI aE aO af av):c6 P w K mg base (bG P w) 2 "own_what" ["what"] IA:=by
 have rG:c6 P w K mg base (bG P w) 1 "own_rows" ["rows"] yv:=Lv T
 refine T.yp.fC (λ_ _ _ _ _ _=>ij λ_=>rfl) λf fd F=>F.gJ pG (λvs H Q E h=>?_) (λbZ A outer s H vs Q E hr h=>?_)
 ·obtain⟨_,_,_,rfl,_⟩:=h;rfl
 ·symm
  obtain⟨v,x,cs,rfl,rp,gd,kk⟩:=h
  nofun
  have nd:=pG.nd
  refine⟨_,(ao (bK (aU cA (aF au (pv 0) ag (λ_ _=>rfl)) aG (bb _)) (ar (aT (aX (aa aG (aa (hV (gW (K:=K)) (by rfl) T.z_list rfl (aa (aF au (pv 0) ag (λ_ _=>rfl)) ai (se rfl)) (he:=se rfl) (hpl:=na rfl)) (aa (aF au (pv 0) ag (λ_ _=>rfl)) (aa (bg rG (hr.mono (by decide)) rfl aK.pass (aa (aF au (pv 0) ag (λ_ _=>rfl)) ai (se rfl)) (he:=se rfl) (hpl:=na rfl)) ai (se rfl)) (se rfl)) (se rfl)) (se rfl)))))
   bj)
  (ao (bK (aU cA (aF au (pv 0) ag (λ_ _=>rfl)) aG (bb _)) (ar (aT (aX (aa aG (aa (aF au (pv 0) ag (λ_ _=>rfl)) (aa (bg rG (hr.mono (by decide)) rfl aK.pass (aa (aF au (pv 0) ag (λ_ _=>rfl)) ai (se rfl)) (he:=se rfl) (hpl:=na rfl)) ai (se rfl)) (se rfl)) (se rfl)))))
   bj)
  (ar (aT (pv 0))))),?_⟩
  refine(?_:let cI:TS:=_;let cJ:TS:=_;let cK:TS:=_;tSeq cI (tSeq cJ cK) _ _ _)
  intro cI cJ cK
  have sl:=sizeLine_eq
  cases x with
  | ask c k a b=>
   symm
   obtain⟨p,x1,x2,x3,x4,x5,rfl,hp,r1,r2,r3,r4,r5⟩:=yw.mp (show Rep H (.tup _) v from rp)
   rw[aD] at r1
   subst r1
   nofun
   simp_all only[yv,hp]
   rw[if_neg (by ac_rfl),if_neg (by ac_rfl)]
   exact kk _ _ (aA.refl _) rp
  | fin t b=>
   symm
   obtain⟨p,x1,x2,rfl,hp,r1,r2⟩:=bq.mp (show Rep H (.tup _) v from rp)
   rw[aD] at r1
   subst r1
   nofun
   simp_all only[yv,hp]
   rw[if_neg (by ac_rfl),if_neg (by ac_rfl)]
   exact kk _ _ (aA.refl _) rp
  | score c=>
   symm
   obtain⟨p,x1,x2,rfl,hp,r1,r2⟩:=bq.mp (show Rep H (.tup _) v from rp)
   rw[aD] at r1
   subst r1
   nofun
   simp_all only[yv,hp]
   rw[if_neg (by ac_rfl),if_neg (by ac_rfl)]
   exact kk _ _ (aA.refl _) rp
  | pick w rs=>
   symm
   obtain⟨p,x1,x2,x3,rfl,hp,r1,r2,r3⟩:=cM.mp (show Rep H (.tup _) v from rp)
   rw[aD] at r1
   subst r1
   nofun
   simp_all only[yv,hp]
   rw[if_neg (by ac_rfl)]
   obtain⟨g1,g2⟩:=gd
   refine⟨_,r3,by rw[aad];exact g1,λr Bu=>?_,λm H1 s1 rm=>⟨by decide,λt H2 s2 nt e2=>kk _ _ (s1.trans s2) ?_⟩⟩
   ·symm
    obtain⟨r0,h0,rfl⟩:=List.mem_map.mp Bu
    nofun
    show(r0.ds.map qV).length<=100
    rw[aad]
    exact(g2 r0 h0).1
   ·exact cM.mpr ⟨t,_,_,_,rfl,e2,aD.mpr rfl,r2.mono (s1.trans s2),rm.mono s2⟩
  | fx d9 t b rs=>
   symm
   obtain⟨p,x1,x2,x3,x4,rfl,hp,r1,r2,r3,r4⟩:=dq.mp (show Rep H (.tup _) v from rp)
   rw[aD] at r1
   subst r1
   nofun
   simp_all only[yv,hp]
   symm
   obtain⟨g1,g2,g3⟩:=gd
   obtain⟨l2,Lx,rfl,D1,Y2⟩:=aS.mp r2
   nofun
   refine⟨_,rfl,_,.inl (bD.of D1),λm nm=>?_⟩
   have sm:=ae (o:=.lst Lx) nm
   refine⟨_,sm _ _ hp,_,rfl,_,sm _ _ hp,_,rfl,_,r4.mono sm,by rw[aad];exact g2,λr Bu=>?_,λn H1 s1 rn=>⟨by decide,λt H2 s2 nt e2=>kk _ _ (sm.trans (s1.trans s2)) ?_⟩⟩
   ·symm
    obtain⟨r0,h0,rfl⟩:=List.mem_map.mp Bu
    nofun
    show(r0.2.2.1.map qV).length<=100
    rw[aad]
    exact(g3 r0 h0).1
   ·have Ly:=sm.trans (s1.trans s2)
    exact dq.mpr ⟨t,_,_,_,_,rfl,e2,aD.mpr rfl,aS.mpr ⟨m,Lx,rfl,s2 _ _ (s1 _ _ aj),Y2.mono Ly⟩,r3.mono Ly,rn.mono s2⟩
theorem kY:aY ["self","counts","spot","number"] ["self","counts","spot","number"] (aq (inClass (top 36) 1)):=⟨rfl,rfl,rfl,by ac_rfl,rfl,by ac_rfl,by ac_rfl⟩
theorem IP (T:Txt K mg aH aI aE aO af av):cf P w K mg base (bG P w) 1 af "put" ["self","counts","spot","number"] (uc af):=by
 refine T.sS.fC (λ_ _ _ _ _ _=>Bh λ_ _ _ _=>rfl) λf fd F=>F.gJ kY (λvs H Q E h=>?_) (λbZ A outer s H vs Q E hr h=>?_)
 ·obtain⟨_,_,_,_,_,_,rfl,_⟩:=h;rfl
 ·symm
  obtain⟨c,l,i,k,g,ns,rfl,⟨dx,sp,mo,wh,tb,us,ft,h1,h2,h3,h4,h5,h6⟩,hl,il,ln,kk⟩:=h
  nofun
  have nd:=kY.nd
  refine⟨_,(ar (xM (bc (tJ rfl) (by rfl) T.z_min rfl (aa (pv 3) (aa (aF bw (cj (pv 0) rfl) (pv 2) (λ_ _=>rfl)) ai (se rfl)) (se rfl)) (he:=se rfl) (hpl:=na rfl)) (BR (pv 1) (pv 2) set_list))),?_⟩
  have h1:=bJ _ _ h1
  have h3:=bJ _ _ h3
  simp_all only[eY]
  refine⟨_,_,_,h1,T.aM,T.na_Course_mosts,_,GN,_,rfl,_,h3,_,FD il,_,rfl,_,hl,_,Aa (by rw[aad];omega),?_⟩
  rw[<-List.map_set]
  have e:(if most g.cs i<k then most g.cs i else k)=min k (most g.cs i):=by omega
  rw[e]
  exact kk
theorem mZ:aY ["self","counts","deed","value","spot","other"] ["self","counts","deed","value"] (aq (inClass (top 36) 2)):=⟨rfl,rfl,rfl,by ac_rfl,rfl,by ac_rfl,by ac_rfl⟩
theorem Lz (T:Txt K mg aH aI aE aO af av):cf P w K mg base (bG P w) 2 af "do" ["self","counts","deed","value"] (IB af):=by
 have fZ:cf P w K mg base (bG P w) 1 af "put" ["self","counts","spot","number"] (uc af):=IP T
 refine T.u9.fC (λ_ _ _ _ _ _=>Bh λ_ _ _ _=>rfl) λf fd F=>F.gJ mZ (λvs H Q E h=>?_) (λbZ A outer s H vs Q E hr h=>?_)
 ·obtain⟨_,_,_,_,_,_,_,rfl,_⟩:=h;rfl
 ·symm
  obtain⟨c,l,dv,v,g,ns,d,rfl,co,hl,rd,gd,ln,kk⟩:=h
  nofun
  have nd:=mZ.nd
  refine⟨_,(ao (aR (i:=4) nd rfl (Or.inl rfl) (bY (cQ hr) (cj (pv 0) rfl) (aF au (pv 2) ag (λ_ _=>rfl)) (λ_ _=>rfl)))
  (ar (bK (aU cA (aF au (pv 2) ag (λ_ _=>rfl)) aG (bb _)) (ar (bR (dD fZ T.aM (pv 0) (hr.mono (by decide)) aK.pass (aa (pv 1) (aa (pv 4) (aa (aF au (pv 2) ag (λ_ _=>rfl)) ai (se rfl)) (se rfl)) (se rfl)) (hst:=se rfl) (hpl:=na rfl))))
   (ar (bK (aU cA (aF au (pv 2) ag (λ_ _=>rfl)) aG (bb _)) (ar (bR (dD fZ T.aM (pv 0) (hr.mono (by decide)) aK.pass (aa (pv 1) (aa (pv 4) (aa (aL bQ (aF bw (pv 1) (pv 4) (λ_ _=>rfl)) (aF au (pv 2) ag (λ_ _=>rfl))) ai (se rfl)) (se rfl)) (se rfl)) (hst:=se rfl) (hpl:=na rfl))))
   (ar (bK (aU cA (aF au (pv 2) ag (λ_ _=>rfl)) aG (bb _)) (ar (bR (dD fZ T.aM (pv 0) (hr.mono (by decide)) aK.pass (aa (pv 1) (aa (pv 4) (aa (aL bQ (aF bw (pv 1) (pv 4) (λ_ _=>rfl)) (pv 3)) ai (se rfl)) (se rfl)) (se rfl)) (hst:=se rfl) (hpl:=na rfl))))
   (ao (aR (i:=5) nd rfl (Or.inl rfl) (bY (cQ hr) (cj (pv 0) rfl) (aF au (pv 2) ag (λ_ _=>rfl)) (λ_ _=>rfl)))
  (ao (bR (dD fZ T.aM (pv 0) (hr.mono (by decide)) aK.pass (aa (pv 1) (aa (pv 5) (aa (aL bQ (aF bw (pv 1) (pv 5) (λ_ _=>rfl)) (aF bw (pv 1) (pv 4) (λ_ _=>rfl))) ai (se rfl)) (se rfl)) (se rfl)) (hst:=se rfl) (hpl:=na rfl)))
  (ar (xM ag (BR (pv 1) (pv 4) set_list)))))))))))),?_⟩
  symm
  obtain⟨dx,sp,mo,wh,tb,us,ft,h1,h2,h3,h4,h5,h6⟩:=id co
  nofun
  have h1:=bJ _ _ h1
  have h2:=bJ _ _ h2
  have lp:∀{a b c d e:V},List.lookup (Str.ofString "put") [(Str.ofString "spots",a),(Str.ofString "mosts",b),(Str.ofString "first",c),(Str.ofString "whats",d),(Str.ofString "tables",e)]=none:=eV (by ac_rfl) (by ac_rfl) (by ac_rfl) (by ac_rfl) (by ac_rfl)
  cases d with
  | set n k=>
   symm
   obtain⟨p,x1,x2,x3,rfl,hp,r1,r2,r3⟩:=cM.mp (show Rep (di H l) (.tup _) dv from rd)
   rw[aD] at r1 r2
   rw[ba] at r3
   subst r1 r2 r3
   nofun
   have hp:=bJ _ _ hp
   have sl:=b8 (cs:=g.cs) gd
   change tSeq _ _ _ _ _
   refine cV (λσ' H'=>H=H'/\σ'=[some (.ref c),some (.ref l),some (.ref p),some (.int v),some (.int ((bV g.cs n:Nat):Int)),none]) ?_ (λN hN=>by simp_all only[eY,hp];exact⟨_,_,_,h1,T.aM,T.na_Course_spots,_,kK,_,rfl,_,iN h2 gd,hN _ _ ⟨rfl,rfl⟩⟩)
   rintro _ _ ⟨rfl,rfl⟩
   refine dX (λY N k=>by simp_all only[hp];first | exact k | (rw[if_pos (by ac_rfl)];exact k)) ?_
   simp_all only[eY,cZ,uc,hp]
   exact⟨_,_,h1,lp,_,rfl,_,co,_,hl,sl,ln,kk⟩
  | plus n k=>
   symm
   obtain⟨p,x1,x2,x3,rfl,hp,r1,r2,r3⟩:=cM.mp (show Rep (di H l) (.tup _) dv from rd)
   rw[aD] at r1 r2
   rw[ba] at r3
   subst r1 r2 r3
   nofun
   have hp:=bJ _ _ hp
   have sl:=b8 (cs:=g.cs) gd
   change tSeq _ _ _ _ _
   refine cV (λσ' H'=>H=H'/\σ'=[some (.ref c),some (.ref l),some (.ref p),some (.int v),some (.int ((bV g.cs n:Nat):Int)),none]) ?_ (λN hN=>by simp_all only[eY,hp];exact⟨_,_,_,h1,T.aM,T.na_Course_spots,_,kK,_,rfl,_,iN h2 gd,hN _ _ ⟨rfl,rfl⟩⟩)
   rintro _ _ ⟨rfl,rfl⟩
   refine eA (λY N k=>by simp_all only[hp];first | exact k | (rw[if_neg (by ac_rfl)];exact k)) (dX (λY N k=>by simp_all only[hp];first | exact k | (rw[if_pos (by ac_rfl)];exact k)) ?_)
   simp_all only[eY,cZ,uc,hp]
   exact⟨_,_,h1,lp,_,hl,_,gM (by omega),_,rfl,_,rfl,_,co,_,hl,sl,ln,kk⟩
  | face n=>
   symm
   obtain⟨p,x1,x2,rfl,hp,r1,r2⟩:=bq.mp (show Rep (di H l) (.tup _) dv from rd)
   rw[aD] at r1 r2
   subst r1 r2
   nofun
   have hp:=bJ _ _ hp
   have sl:=b8 (cs:=g.cs) gd
   change tSeq _ _ _ _ _
   refine cV (λσ' H'=>H=H'/\σ'=[some (.ref c),some (.ref l),some (.ref p),some (.int v),some (.int ((bV g.cs n:Nat):Int)),none]) ?_ (λN hN=>by simp_all only[eY,hp];exact⟨_,_,_,h1,T.aM,T.na_Course_spots,_,kK,_,rfl,_,iN h2 gd,hN _ _ ⟨rfl,rfl⟩⟩)
   rintro _ _ ⟨rfl,rfl⟩
   refine eA (λY N k=>by simp_all only[hp];first | exact k | (rw[if_neg (by ac_rfl)];exact k)) (eA (λY N k=>by simp_all only[hp];first | exact k | (rw[if_neg (by ac_rfl)];exact k)) (dX (λY N k=>by simp_all only[hp];first | exact k | (rw[if_pos (by ac_rfl)];exact k)) ?_))
   simp_all only[eY,cZ,uc,hp]
   exact⟨_,_,h1,lp,_,hl,_,gM (by omega),_,rfl,_,rfl,_,co,_,hl,sl,ln,kk⟩
  | move n m=>
   symm
   obtain⟨p,x1,x2,x3,rfl,hp,r1,r2,r3⟩:=cM.mp (show Rep (di H l) (.tup _) dv from rd)
   rw[aD] at r1 r2 r3
   subst r1 r2 r3
   nofun
   have hp:=bJ _ _ hp
   have sl:=b8 (cs:=g.cs) gd.1
   have x8:=b8 (cs:=g.cs) gd.2
   change tSeq _ _ _ _ _
   refine cV (λσ' H'=>H=H'/\σ'=[some (.ref c),some (.ref l),some (.ref p),some (.int v),some (.int ((bV g.cs n:Nat):Int)),none]) ?_ (λN hN=>by simp_all only[eY,hp];exact⟨_,_,_,h1,T.aM,T.na_Course_spots,_,kK,_,rfl,_,iN h2 gd.1,hN _ _ ⟨rfl,rfl⟩⟩)
   rintro _ _ ⟨rfl,rfl⟩
   refine eA (λY N k=>by simp_all only[hp];first | exact k | (rw[if_neg (by ac_rfl)];exact k)) (eA (λY N k=>by simp_all only[hp];first | exact k | (rw[if_neg (by ac_rfl)];exact k)) (eA (λY N k=>by simp_all only[hp];first | exact k | (rw[if_neg (by ac_rfl)];exact k)) ?_))
   simp_all only[eY,cZ,uc,hp]
   refine⟨_,_,_,h1,T.aM,T.na_Course_spots,_,kK,_,rfl,_,iN h2 gd.2,_,_,h1,lp,_,_,rfl,hl,_,gM (by omega),_,hl,_,gM (by omega),_,rfl,_,rfl,_,rfl,_,co,_,hl,x8,ln,_,aj,_,Aa (by rw[aad,gn];omega),?_⟩
   rw[zk,<-List.map_set]
   exact kk
theorem iU:aY ["self","name","counts","what"] ["self","name","counts"] (aq (inClass (top 36) 3)):=⟨rfl,rfl,rfl,by ac_rfl,rfl,by ac_rfl,by ac_rfl⟩
theorem DE (T:Txt K mg aH aI aE aO af av):cf P w K mg base (bG P w) 1 af "asked" ["self","name","counts"] (wV af):=by
 refine T.pQ.fC (λ_ _ _ _ _ _=>yr λ_ _ _=>rfl) λf fd F=>F.gJ iU (λvs H Q E h=>?_) (λbZ A outer s H vs Q E hr h=>?_)
 ·obtain⟨_,_,_,_,_,_,_,rfl,_⟩:=h;rfl
 ·symm
  obtain⟨c,nm,l,g,ns,fu,hG,rfl,co,gg,hl,ln,ak,kk⟩:=h
  nofun
  clear G_
  have nd:=iU.nd
  refine⟨_,(ao (aR (i:=3) nd rfl (Or.inl rfl) (bY (cQ hr) (cj (pv 0) rfl) (pv 1) (λ_ _=>rfl)))
  (ao (ql PassesOwn.never (aU cA (aF au (pv 3) ag (λ_ _=>rfl)) aG (bb _)) (ao (aR (i:=1) nd rfl (Or.inl rfl) (mw (aU BX (aF bw (pv 2) (bY (cQ hr) (cj (pv 0) rfl) (aF au (pv 3) ag (λ_ _=>rfl)) (λ_ _=>rfl)) (λ_ _=>rfl)) (aF au (pv 3) ag (λ_ _=>rfl)) (bb _)) (aF au (pv 3) ag (λ_ _=>rfl)) (aF au (pv 3) ag (λ_ _=>rfl))))
  (ar (aR (i:=3) nd rfl (Or.inl rfl) (bY (cQ hr) (cj (pv 0) rfl) (pv 1) (λ_ _=>rfl))))))
  (ar (aT (aX (aa (pv 1) (aa (pv 2) ai (se rfl)) (se rfl))))))),?_⟩
  refine(?_:let cI:TS:=_;let cJ:TS:=_;let cK:TS:=_;tSeq cI (tSeq cJ cK) _ _ _)
  intro cI cJ cK
  symm
  obtain⟨dx,sp,mo,wh,tb,us,ft,h1,h2,h3,h4,h5,h6⟩:=id co
  nofun
  clear G_
  simp_all only[eY]
  cases fu with
  | zero=>cases ak
  | succ fu=>
   rcases h5.val (n:=nm) with ⟨x,u,lk,vl,rx⟩ | ⟨lk,vl⟩
   ·refine⟨_,_,_,h1,T.aM,T.na_Course_whats,_,z9,_,rfl,_,.inl ⟨_,Sum.inr nm,.inl h4,rfl,vl.symm⟩,?_⟩
    refine Ab (λm σ H'=>H=H'/\∃nm x u,dm g ns (m+1) nm=some hG/\look g.ps nm=some x/\Rep H (ub x) u/\σ=[some (V.ref c),some (V.str nm),some (V.ref l),some u]) (m:=fu) ⟨rfl,nm,x,u,ak,lk,rx,rfl⟩ ?_
    clear ak lk rx vl
    intro m σ H' LA
    symm
    obtain⟨rfl,nm,x,u,ak,lk,rx,rfl⟩:=LA
    nofun
    have gx:=gg.wt _ (fc lk)
    rw[dm,lk] at ak
    have fin:∀{p:Addr} {xs:List V} {y:Str},u=.ref p->H p=some (.tup (.str y::xs))->y≠Str.ofString "ask"->nm=hG->∃b:Bool,(∀Q:Bool->Hp->Prop,Q b H->tTest (tOp rEq (tOp rIxTH (tVar 3) (tC (V.int 0))) (tC (V.str (Str.ofString "ask")))) [some (V.ref c),some (V.str nm),some (V.ref l),some u] H Q)/\b=false:=by
     intro p xs y e hp ny _
     refine⟨false,λQ q=>?_,rfl⟩
     subst e
     simp_all only[hp]
     rw[decide_eq_false ny]
     exact q
    cases x with
    | ask c' k a b=>
     symm
     obtain⟨p,x1,x2,x3,x4,x5,rfl,hp,r1,r2,r3,r4,r5⟩:=yw.mp (show Rep H (.tup _) u from rx)
     rw[aD] at r1 r2 r4 r5
     rw[ba] at r3
     subst r1 r2 r3 r4 r5
     nofun
     refine⟨true,λQ q=>?_,?_⟩
     ·simp_all only[hp]
      rw[decide_eq_true trivial]
      exact q
     ·rw[if_pos rfl]
      have hs:=b8 (cs:=g.cs) gx
      have step:∀y,dm g ns m y=some hG->∃m' x u,m'<m/\dm g ns (m'+1) y=some hG/\look g.ps y=some x/\Rep H (ub x) u/\lE H wh (.str y) (some u):=by
       intro y hy
       cases m with
       | zero=>cases hy
       | succ m'=>
        rcases h5.val (n:=y) with ⟨x,u,mq,vl,Y3⟩ | ⟨mq,vl⟩
        ·exact⟨m',x,u,aaY _,hy,mq,Y3,.inl ⟨_,Sum.inr y,.inl h4,rfl,vl.symm⟩⟩
        ·rw[dm,mq] at hy
         cases hy
      have ak:(if k<=ns.getD (bV g.cs c') 0 then dm g ns m a else dm g ns m b)=some hG:=ak
      simp_all only[eY,hp]
      refine⟨_,_,_,h1,T.aM,T.na_Course_spots,_,kK,_,rfl,_,iN h2 gx,_,_,rfl,hl,_,gM (by omega),_,rfl,pL (λc1=>?_) (λc1=>?_)⟩
      ·rw[if_pos c1] at ak
       symm
       obtain⟨m',x,u,l1,l2,l3,l4,l5⟩:=step a ak
       nofun
       refine⟨_,rfl,_,_,_,h1,T.aM,T.na_Course_whats,_,z9,_,rfl,_,l5,?_⟩
       exact⟨m',l1,a,l2,x,l3,u,l4,rfl,rfl⟩
      ·rw[if_neg c1] at ak
       symm
       obtain⟨m',x,u,l1,l2,l3,l4,l5⟩:=step b ak
       nofun
       refine⟨_,rfl,_,_,_,h1,T.aM,T.na_Course_whats,_,z9,_,rfl,_,l5,?_⟩
       exact⟨m',l1,b,l2,x,l3,u,l4,rfl,rfl⟩
    | fin t b=>
     symm
     obtain⟨p,x1,x2,rfl,hp,r1,r2⟩:=bq.mp (show Rep H (.tup _) u from rx)
     rw[aD] at r1
     subst r1
     have e:nm=hG:=by injection ak
     obtain⟨b',k1,rfl⟩:=fin rfl hp (by ac_rfl) e
     nofun
     refine⟨false,k1,?_⟩
     rw[if_neg (by decide)]
     simp_all only[]
     exact⟨by decide,λp H2 s2 np e2=>kk p H2 s2 np (by rw[<-e];exact e2)⟩
    | score c'=>
     symm
     obtain⟨p,x1,x2,rfl,hp,r1,r2⟩:=bq.mp (show Rep H (.tup _) u from rx)
     rw[aD] at r1
     subst r1
     have e:nm=hG:=by injection ak
     obtain⟨b',k1,rfl⟩:=fin rfl hp (by ac_rfl) e
     nofun
     refine⟨false,k1,?_⟩
     rw[if_neg (by decide)]
     simp_all only[]
     exact⟨by decide,λp H2 s2 np e2=>kk p H2 s2 np (by rw[<-e];exact e2)⟩
    | pick w' rs=>
     symm
     obtain⟨p,x1,x2,x3,rfl,hp,r1,r2,r3⟩:=cM.mp (show Rep H (.tup _) u from rx)
     rw[aD] at r1
     subst r1
     have e:nm=hG:=by injection ak
     obtain⟨b',k1,rfl⟩:=fin rfl hp (by ac_rfl) e
     nofun
     refine⟨false,k1,?_⟩
     rw[if_neg (by decide)]
     simp_all only[]
     exact⟨by decide,λp H2 s2 np e2=>kk p H2 s2 np (by rw[<-e];exact e2)⟩
    | fx d9 t b rs=>
     symm
     obtain⟨p,x1,x2,x3,x4,rfl,hp,r1,r2,r3,r4⟩:=dq.mp (show Rep H (.tup _) u from rx)
     rw[aD] at r1
     subst r1
     have e:nm=hG:=by injection ak
     obtain⟨b',k1,rfl⟩:=fin rfl hp (by ac_rfl) e
     nofun
     refine⟨false,k1,?_⟩
     rw[if_neg (by decide)]
     simp_all only[]
     exact⟨by decide,λp H2 s2 np e2=>kk p H2 s2 np (by rw[<-e];exact e2)⟩
   ·rw[dm,lk] at ak
    cases ak
theorem iV:aY ["self","when","counts","number"] ["self","when","counts"] (aq (inClass (top 36) 9)):=⟨rfl,rfl,rfl,by ac_rfl,rfl,by ac_rfl,by ac_rfl⟩
theorem IQ (T:Txt K mg aH aI aE aO af av):cf P w K mg base (bG P w) 1 af "holds" ["self","when","counts"] (Dg af):=by
 refine T.pR.fC (λ_ _ _ _ _ _=>yr λ_ _ _=>rfl) λf fd F=>F.gJ iV (λvs H Q E h=>?_) (λbZ A outer s H vs Q E hr h=>?_)
 ·obtain⟨_,_,_,_,_,_,rfl,_⟩:=h;rfl
 ·symm
  obtain⟨c,v,l,g,ns,Y4,rfl,co,rv,hl,ln,kk⟩:=h
  nofun
  have nd:=iV.nd
  refine⟨_,(ao (bK (aU Hv (pv 1) xJ (bb _)) (ar (aT tH))
   bj)
  (ao (bK (xK (tT (cQ hr) (aF au (pv 1) ag (λ_ _=>rfl)) (cj (pv 0) rfl))) (ar (aT tH))
   bj)
  (ao (aR (i:=3) nd rfl (Or.inl rfl) (aF bw (pv 2) (bY (cQ hr) (cj (pv 0) rfl) (aF au (pv 1) ag (λ_ _=>rfl)) (λ_ _=>rfl)) (λ_ _=>rfl)))
  (ar (aT (mw (aU cA (aF au (pv 1) ag (λ_ _=>rfl)) aG (bb _)) (mz BX (pv 3) (aF au (pv 1) ag (λ_ _=>rfl)) (bb _)) (mz o7 (pv 3) (aF au (pv 1) ag (λ_ _=>rfl)) (bb _)))))))),?_⟩
  refine(?_:let cI:TS:=_;let cJ:TS:=_;let cK:TS:=_;let eC:TS:=_;tSeq cI (tSeq cJ (tSeq cK eC)) _ _ _)
  intro cI cJ cK eC
  symm
  obtain⟨dx,sp,mo,wh,tb,us,ft,h1,h2,h3,h4,h5,h6⟩:=id co
  nofun
  cases Y4 with
  | none=>
   have e:v=.dG:=by rw[FA,Rep] at rv;exact rv
   subst e
   simp_all only[]
   exact kk
  | some x=>
   symm
   obtain⟨a,b,k⟩:=x
   obtain⟨p,x1,x2,x3,rfl,hp,r1,r2,r3⟩:=cM.mp (show Rep H (.tup _) v from rv)
   rw[aD] at r1 r2
   rw[ba] at r3
   subst r1 r2 r3
   nofun
   simp_all only[eY,hp]
   rw[if_neg (by intro z;cases z)]
   by_cases hn:a∈g.cs.map (·.1)
   ·have hs:=b8 hn
    refine⟨_,_,_,h1,T.aM,T.na_Course_spots,_,kK,_,rfl,_,iN h2 hn,?_⟩
    rw[if_neg (by simp)]
    refine⟨_,_,_,h1,T.aM,T.na_Course_spots,_,kK,_,rfl,_,iN h2 hn,_,_,rfl,hl,_,gM (by omega),?_⟩
    have kk:Q (.bl (if a∈g.cs.map (·.1) then (if b=Str.ofString "from" then decide (k<=ns.getD (bV g.cs a) 0) else decide (ns.getD (bV g.cs a) 0<k)) else false)) H:=kk
    rw[if_pos hn] at kk
    by_cases c1:b=Str.ofString "from"
    ·rw[if_pos c1] at kk ⊢
     exact⟨_,rfl,kk⟩
    ·rw[if_neg c1] at kk ⊢
     exact⟨_,rfl,kk⟩
   ·refine⟨_,_,_,h1,T.aM,T.na_Course_spots,_,kK,_,rfl,_,.inl ⟨_,Sum.inr a,.inl h2,rfl,rfl⟩,?_⟩
    rw[qX hn,if_pos (by rfl)]
    have kk:Q (.bl (if a∈g.cs.map (·.1) then (if b=Str.ofString "from" then decide (k<=ns.getD (bV g.cs a) 0) else decide (ns.getD (bV g.cs a) 0<k)) else false)) H:=kk
    rw[if_neg hn] at kk
    exact kk
theorem iW:aY ["self"] ["self"] (aq (inClass (top 36) 4)):=⟨rfl,rfl,rfl,by ac_rfl,rfl,by ac_rfl,by ac_rfl⟩
theorem IS (T:Txt K mg aH aI aE aO af av):cf P w K mg base (bG P w) 2 af "start" ["self"] (Df af):=by
 have gw:cf P w K mg base (bG P w) 1 af "asked" ["self","name","counts"] (wV af):=DE T
 refine T.pS.fC (λ_ _ _ _ _ _=>ij λ_=>rfl) λf fd F=>F.gJ iW (λvs H Q E h=>?_) (λbZ A outer s H vs Q E hr h=>?_)
 ·obtain⟨_,_,_,_,_,rfl,_⟩:=h;rfl
 ·symm
  obtain⟨c,g,fu,ft,hG,rfl,co,gg,hf,ak,kk⟩:=h
  nofun
  have nd:=iW.nd
  refine⟨_,(ar (aT (dD gw T.aM (pv 0) (hr.mono (by decide)) aK.pass (aa (cj (pv 0) rfl) (aa (aL yc (bI (aa ag ai (se rfl))) (bc bL (by rfl) T.z_len aav (aa (cj (pv 0) rfl) ai (se rfl)) (he:=se rfl) (hpl:=na rfl))) ai (se rfl)) (se rfl)) (hst:=se rfl) (hpl:=na rfl)))),?_⟩
  have sl:=sizeLine_eq
  have lc:=gg.lc
  symm
  obtain⟨dx,sp,mo,wh,tb,us,DF,h1,h2,h3,h4,h5,h6⟩:=id co
  nofun
  rw[h6] at hf
  cases hf
  have lp:∀{a b c d e:V},List.lookup (Str.ofString "asked") [(Str.ofString "spots",a),(Str.ofString "mosts",b),(Str.ofString "first",c),(Str.ofString "whats",d),(Str.ofString "tables",e)]=none:=eV (by ac_rfl) (by ac_rfl) (by ac_rfl) (by ac_rfl) (by ac_rfl)
  simp_all only[eY,cZ,wV,EM]
  refine⟨_,_,h1,lp,_,_,_,h1,T.aM,T.na_Course_first,_,K3,by decide,λp np=>?_⟩
  have JN:=ae (o:=.lst [V.int 0]) np
  refine⟨_,_,_,JN _ _ h1,T.aM,T.na_Course_mosts,_,GN,_,rfl,_,JN _ _ h3,_,aj,by simp only[aad];omega,by simp only[aad];omega,by simp only[aad,aap,aaR];omega,λl nl=>?_⟩
  have el:(List.replicate (((List.map V.int (List.map (λx=>x.snd) g.cs)).length:Nat):Int).toNat [V.int 0]).flatten=List.map V.int (List.replicate g.cs.length 0):=by rw[Di,aaQ,aad,aad]
  rw[el]
  have J1:=JN.trans (ae (o:=.lst (List.map V.int (List.replicate g.cs.length 0))) nl)
  exact⟨_,rfl,g,co.mono J1,gg,_,aj,by simp,fu,hG,ak,λa H' s' na e'=>kk a l H' (J1.trans s') (none_of J1 na) (none_of JN nl) e' (s' _ _ aj)⟩
theorem gP:aY ["self","state"] ["self","state"] (aq (inClass (top 36) 5)):=⟨rfl,rfl,rfl,by ac_rfl,rfl,by ac_rfl,by ac_rfl⟩
theorem rH (T:Txt K mg aH aI aE aO af av):cf P w K mg base (bG P w) 1 af "what_at" ["self","state"] (iT af):=by
 refine T.mP.fC (λ_ _ _ _ _ _=>gX λ_ _=>rfl) λf fd F=>F.gJ gP (λvs H Q E h=>?_) (λbZ A outer s H vs Q E hr h=>?_)
 ·obtain⟨_,_,_,_,_,_,_,rfl,_⟩:=h;rfl
 ·symm
  obtain⟨c,v,H0,g,nm,ns,x,rfl,s0,co,⟨a,l,rfl,ha,hl⟩,lk,kk⟩:=h
  nofun
  have nd:=gP.nd
  refine⟨_,(ar (aT (bY (cQ hr) (cj (pv 0) rfl) (aF au (pv 1) ag (λ_ _=>rfl)) (λ_ _=>rfl)))),?_⟩
  symm
  obtain⟨dx,sp,mo,wh,tb,us,DF,h1,h2,h3,h4,h5,h6⟩:=id co
  nofun
  simp_all only[eY,ha]
  rcases h5.val (n:=nm) with ⟨x',u,mq,vl,rx⟩ | ⟨mq,vl⟩
  ·rw[lk] at mq
   cases mq
   exact⟨_,_,_,s0 _ _ h1,T.aM,T.na_Course_whats,_,z9,_,rfl,_,.inl ⟨_,Sum.inr nm,.inl (s0 _ _ h4),rfl,vl.symm⟩,kk u rx⟩
  ·rw[lk] at mq
   cases mq
theorem iz:aY ["self","state","row","value","counts","deed"] ["self","state","row","value"] (aq (inClass (top 36) 6)):=⟨rfl,rfl,rfl,by ac_rfl,rfl,by ac_rfl,by ac_rfl⟩
theorem DG (T:Txt K mg aH aI aE aO af av):cf P w K mg base (bG P w) 3 af "by_row" ["self","state","row","value"] (wW af):=by
 have xk:cf P w K mg base (bG P w) 2 af "do" ["self","counts","deed","value"] (IB af):=Lz T
 have gw:cf P w K mg base (bG P w) 1 af "asked" ["self","name","counts"] (wV af):=DE T
 refine T.oi.fC (λ_ _ _ _ _ _=>Bh λ_ _ _ _=>rfl) λf fd F=>F.gJ iz (λvs H Q E h=>?_) (λbZ A outer s H vs Q E hr h=>?_)
 ·obtain⟨_,_,_,_,_,_,_,_,_,_,_,_,_,rfl,_⟩:=h;rfl
 ·symm
  obtain⟨c,sv,rv,v,g,nm,ns,a,b,ds,to,fu,hG,rfl,co,gg,⟨sa,l,rfl,tY,hl⟩,rr,gd,ld,ln,ak,kk⟩:=h
  nofun
  have nd:=iz.nd
  refine⟨_,(ao (aR (i:=4) nd rfl (Or.inl rfl) (hV (gW (K:=K)) (by rfl) T.z_list rfl (aa (aF au (pv 1) ag (λ_ _=>rfl)) ai (se rfl)) (he:=se rfl) (hpl:=na rfl)))
  (ao (cY PassesOwn.never rfl (bo (K:=K) (aF au (pv 2) ag (λ_ _=>rfl))) (aP (i:=5) nd rfl (Or.inl rfl)) (ar (bR (dD xk T.aM (pv 0) (hr.mono (by decide)) aK.pass (aa (pv 4) (aa (pv 5) (aa (pv 3) ai (se rfl)) (se rfl)) (se rfl)) (hst:=se rfl) (hpl:=na rfl)))))
  (ar (aT (dD gw T.aM (pv 0) (hr.mono (by decide)) aK.pass (aa (aF au (pv 2) ag (λ_ _=>rfl)) (aa (pv 4) ai (se rfl)) (se rfl)) (hst:=se rfl) (hpl:=na rfl)))))),?_⟩
  refine(?_:let cI:TS:=_;let cJ:TS:=_;let cK:TS:=_;tSeq cI (tSeq cJ cK) _ _ _)
  intro cI cJ cK
  have sl:=sizeLine_eq
  have lc:=gg.lc
  symm
  obtain⟨dx,sp,mo,wh,tb,us,DF,h1,h2,h3,h4,h5,h6⟩:=id co
  obtain⟨rp,x1,x2,x3,x4,rfl,Wc,r1,r2,r3,r4⟩:=dq.mp (show Rep H (.tup _) rv from rr)
  rw[aD] at r4
  subst r4
  obtain⟨dl,pf,rfl,LB,LC⟩:=aS.mp r3
  nofun
  have lp:∀{a b c d e:V},List.lookup (Str.ofString "asked") [(Str.ofString "spots",a),(Str.ofString "mosts",b),(Str.ofString "first",c),(Str.ofString "whats",d),(Str.ofString "tables",e)]=none:=eV (by ac_rfl) (by ac_rfl) (by ac_rfl) (by ac_rfl) (by ac_rfl)
  have BI:∀{a b c d e:V},List.lookup (Str.ofString "do") [(Str.ofString "spots",a),(Str.ofString "mosts",b),(Str.ofString "first",c),(Str.ofString "whats",d),(Str.ofString "tables",e)]=none:=eV (by ac_rfl) (by ac_rfl) (by ac_rfl) (by ac_rfl) (by ac_rfl)
  change tSeq _ _ _ _ _
  refine bh (λN=>∀H1 m,H m=none->aA H H1->di H1 m=H->H1 m=some (.lst (List.map V.int ns))->N [some (.ref c),some (.ref sa),some (.ref rp),some (.int v),some (.ref m),none] H1) ?_ (λN hN=>?_)
  case refine_2=>
   simp_all only[tY]
   exact⟨_,.inl (bD.of hl),λm nm=>hN _ m nm (ae nm) (by rw[mT,Dh nm]) aj⟩
  rintro H1 m Y5 s1 hh hm
  have LD:=LC.length
  rw[aad] at LD
  change tSeq _ _ _ _ _
  refine bh (λN=>∀H2,di H2 m=H->H2 m=some (.lst (List.map V.int (ds.foldl (gZ g.cs v) ns)))->∀z,N [some (.ref c),some (.ref sa),some (.ref rp),some (.int v),some (.ref m),z] H2) ?_ (λN hN=>?_)
  case refine_2=>
   simp_all only[s1 _ _ Wc]
   refine⟨⟨_,bD.of (s1 _ _ LB)⟩,cD (src_list (Ok:=λH'=>di H' m=H) (λH' e=>bD.of (qZ e _ _ LB))) (λi σ H'=>di H' m=H/\H' m=some (.lst (List.map V.int ((ds.take i).foldl (gZ g.cs v) ns)))/\∃z,σ=[some (.ref c),some (.ref sa),some (.ref rp),some (.int v),some (.ref m),z]) ⟨hh,by rw[List.take_zero];exact hm,_,rfl⟩ (λ_ _ _ _ h=>h.1) ?_ ?_⟩
   ·intro i x σ H3 H2 hi iu fE
    symm
    obtain⟨e2,sh,z,rfl⟩:=iu
    obtain⟨rfl,ex⟩:=fE
    obtain⟨dd,ed,rd⟩:=LC.get ex
    rw[aae] at ed
    obtain⟨d,e0,rfl⟩:=Option.map_eq_some_iff.mp ed
    nofun
    have s2:=qZ e2
    simp_all only[cZ,IB]
    refine⟨_,_,s2 _ _ h1,BI,g,by rw[e2];exact co,_,sh,d,by rw[e2];exact rd,gd d (aaj e0),by rw[fy];exact ln,by rw[mT];exact e2,?_,_,rfl⟩
    rw[aj,aaC,e0,Option.toList_some,aa3]
    rfl
   ·intro σ H2 dF
    symm
    obtain⟨e2,sh,z,rfl⟩:=dF
    nofun
    rw[<-LD,aau (aaf _)] at sh
    exact hN _ e2 sh _
  rintro H2 e2 sh z
  have s2:=qZ e2
  have Y6:(ds.foldl (gZ g.cs v) ns).length=g.cs.length:=by rw[fy];exact ln
  simp_all only[cZ,wV,s2 _ _ Wc]
  exact⟨_,_,s2 _ _ h1,lp,_,rfl,_,rfl,g,co.mono s2,gg,_,sh,Y6,fu,hG,ak,λa H' s' na e'=>kk a m H' (s2.trans s') (none_of s2 na) Y5 e' (s' _ _ sh)⟩
theorem fP:aY ["self","state","what"] ["self","state"] (aq (inClass (top 36) 10)):=⟨rfl,rfl,rfl,by ac_rfl,rfl,by ac_rfl,by ac_rfl⟩
theorem DH (T:Txt K mg aH aI aE aO af av):cf P w K mg base (bG P w) 2 af "open_rows" ["self","state"] (wX af):=by
 have bP:cf P w K mg base (bG P w) 1 af "what_at" ["self","state"] (iT af):=rH T
 have rJ:cf P w K mg base (bG P w) 1 af "holds" ["self","when","counts"] (Dg af):=IQ T
 refine T.jZ.fC (λ_ _ _ _ _ _=>gX λ_ _=>rfl) λf fd F=>F.gJ fP (λvs H Q E h=>?_) (λbZ A outer s H vs Q E hr h=>?_)
 ·obtain⟨_,_,_,_,_,_,_,rfl,_⟩:=h;rfl
 ·symm
  obtain⟨c,v,H0,g,nm,ns,x,rfl,s0,Wd,gg,st,ln,lk,kk⟩:=h
  nofun
  have co:=Wd.mono s0
  have nd:=fP.nd
  refine⟨_,(ao (aR (i:=2) nd rfl (Or.inl rfl) (dD bP T.aM (pv 0) (hr.mono (by decide)) aK.pass (aa (pv 1) ai (se rfl)) (hst:=se rfl) (hpl:=na rfl)))
  (ao (bK (aU BW (aF au (pv 2) ag (λ_ _=>rfl)) aG (bb _)) (ar (aT (bI ai)))
   bj)
  (ar (aT (cX rfl (N:=["self","state","what"]) (so:=aq (inClass (top 36) 10)) (N':=["row","self","state"]) (k:=1) (fr:=[0,1]) rfl rfl ⟨rfl,by ac_rfl,by ac_rfl,by ac_rfl,rfl,by ac_rfl,by ac_rfl⟩ (bo (K:=K) (aF au (pv 2) ag (λ_ _=>rfl))) (λ_ _ _ _ _=>(aP (i:=0) (show(["row","self","state"]:List Str).Nodup by ac_rfl) rfl (Or.inl rfl))) (λ_ _ _ _ _=>(uI (ux (dD rJ T.aM (pv 1) (hr.mono (by decide)) aK.pass (aa (aF au (pv 0) ag (λ_ _=>rfl)) (aa (aF au (pv 2) ag (λ_ _=>rfl)) ai (se rfl)) (se rfl)) (hst:=se rfl) (hpl:=na rfl)))))
   (λ_ _ _ _ _=>(pv 0))))))),?_⟩
  refine(?_:let cI:TS:=_;let cJ:TS:=_;let cK:TS:=_;tSeq cI (tSeq cJ cK) _ _ _)
  intro cI cJ cK
  have sl:=sizeLine_eq
  symm
  obtain⟨dx,sp,mo,wh,tb,us,DF,h1,h2,h3,h4,h5,h6⟩:=id co
  obtain⟨sa,l,rfl,tY,hl⟩:=id st
  nofun
  have lp:∀{a b c d e:V},List.lookup (Str.ofString "what_at") [(Str.ofString "spots",a),(Str.ofString "mosts",b),(Str.ofString "first",c),(Str.ofString "whats",d),(Str.ofString "tables",e)]=none:=eV (by ac_rfl) (by ac_rfl) (by ac_rfl) (by ac_rfl) (by ac_rfl)
  have BI:∀{a b c d e:V},List.lookup (Str.ofString "holds") [(Str.ofString "spots",a),(Str.ofString "mosts",b),(Str.ofString "first",c),(Str.ofString "whats",d),(Str.ofString "tables",e)]=none:=eV (by ac_rfl) (by ac_rfl) (by ac_rfl) (by ac_rfl) (by ac_rfl)
  have gx:=gg.wt _ (fc lk)
  change tSeq _ _ _ _ _
  refine bh (λN=>∀u,Rep H0 (ub x) u->N [some (.ref c),some (.ref sa),some u] H) ?_ (λN hN=>?_)
  case refine_2=>
   simp_all only[cZ,iT]
   exact⟨_,_,h1,lp,H0,s0,g,Wd,nm,ns,st,x,lk,λu ru=>hN u ru⟩
  rintro u ru
  cases x with
  | pick w' rs=>
   symm
   obtain⟨p,x1,x2,x3,rfl,hp,r1,r2,r3⟩:=cM.mp (show Rep H0 (.tup _) u from ru)
   rw[aD] at r1
   subst r1
   obtain⟨rl,xs,rfl,vJ,xm⟩:=aS.mp r3
   have len:=xm.length
   rw[aad,aad] at len
   obtain⟨g1,g2⟩:=gx
   nofun
   have zl:(xs.zip rs).length=xs.length:=by rw[List.length_zip];omega
   simp_all only[s0 _ _ hp]
   refine⟨⟨_,bD.of (s0 _ _ vJ)⟩,?_⟩
   have S:Src (Jw K rl) (aA H) xs.length _:=src_list (λH' s'=>bD.of (s' _ _ (s0 _ _ vJ)))
   rw[<-zl] at S
   refine nY (xs.zip rs) (λx=>if fJ g.cs ns x.2.wh=true then some x.1 else none) S (λ_ _ _ _ h=>h.1) (by omega) ?_ ?_
   ·rintro i ⟨x,r⟩ y LF ⟨_,ey⟩ Y N y1 y2
    obtain⟨e1,e2⟩:=List.getElem?_zip_eq_some.mp LF
    rw[e1] at ey
    cases ey
    symm
    obtain⟨r',p',a',b',c',d',er,rfl,Ee,rb,_⟩:=Ad xm e1
    nofun
    rw[e2] at er
    cases er
    simp_all only[cZ,Dg,s0 _ _ Ee,tY]
    exact⟨_,_,h1,BI,g,co,ns,_,rb.mono s0,hl,ln,pL (λc=>y1 _ (if_pos c)) (λc=>y2 (if_neg c))⟩
   ·intro D n1 n2
    exact kk D _ _ (ae n2) n2 aj (rf xm)
  | ask _ _ _ _=>
   symm
   obtain⟨p,x1,x2,x3,x4,x5,rfl,hp,r1,r2,r3,r4,r5⟩:=yw.mp (show Rep H0 (.tup _) u from ru)
   rw[aD] at r1
   subst r1
   nofun
   simp_all only[s0 _ _ hp]
   rw[if_pos (by ac_rfl)]
   exact⟨aak _,λD nD=>kk D _ _ (ae nD) nD aj (bu.mpr rfl)⟩
  | fin _ _=>
   symm
   obtain⟨p,x1,x2,rfl,hp,r1,r2⟩:=bq.mp (show Rep H0 (.tup _) u from ru)
   rw[aD] at r1
   subst r1
   nofun
   simp_all only[s0 _ _ hp]
   rw[if_pos (by ac_rfl)]
   exact⟨aak _,λD nD=>kk D _ _ (ae nD) nD aj (bu.mpr rfl)⟩
  | score _=>
   symm
   obtain⟨p,x1,x2,rfl,hp,r1,r2⟩:=bq.mp (show Rep H0 (.tup _) u from ru)
   rw[aD] at r1
   subst r1
   nofun
   simp_all only[s0 _ _ hp]
   rw[if_pos (by ac_rfl)]
   exact⟨aak _,λD nD=>kk D _ _ (ae nD) nD aj (bu.mpr rfl)⟩
  | fx _ _ _ _=>
   symm
   obtain⟨p,x1,x2,x3,x4,rfl,hp,r1,r2,r3,r4⟩:=dq.mp (show Rep H0 (.tup _) u from ru)
   rw[aD] at r1
   subst r1
   nofun
   simp_all only[s0 _ _ hp]
   rw[if_pos (by ac_rfl)]
   exact⟨aak _,λD nD=>kk D _ _ (ae nD) nD aj (bu.mpr rfl)⟩
theorem gy:aY ["self","state"] ["self","state"] (aq (inClass (top 36) 11)):=⟨rfl,rfl,rfl,by ac_rfl,rfl,by ac_rfl,by ac_rfl⟩
theorem IT (T:Txt K mg aH aI aE aO af av):cf P w K mg base (bG P w) 3 af "words_at" ["self","state"] (Dj af):=by
 have eQ:cf P w K mg base (bG P w) 2 af "open_rows" ["self","state"] (wX af):=DH T
 refine T.lO.fC (λ_ _ _ _ _ _=>gX λ_ _=>rfl) λf fd F=>F.gJ gy (λvs H Q E h=>?_) (λbZ A outer s H vs Q E hr h=>?_)
 ·obtain⟨_,_,_,_,_,_,rfl,_⟩:=h;rfl
 ·symm
  obtain⟨c,v,g,nm,ns,x,rfl,co,gg,st,ln,lk,kk⟩:=h
  nofun
  clear G_
  have nd:=gy.nd
  refine⟨_,(ar (aT (cX rfl (N:=["self","state"]) (so:=aq (inClass (top 36) 11)) (N':=["row"]) (k:=1) (fr:=[]) rfl rfl ⟨rfl,by ac_rfl,by ac_rfl,by ac_rfl,rfl,by ac_rfl,by ac_rfl⟩ (bo (K:=K) (dD eQ T.aM (pv 0) (hr.mono (by decide)) aK.pass (aa (pv 1) ai (se rfl)) (hst:=se rfl) (hpl:=na rfl))) (λ_ _ _ _ _=>(aP (i:=0) (show(["row"]:List Str).Nodup by ac_rfl) rfl (Or.inl rfl))) (λ_ _ _ _ _=>cm)
   (λ_ _ _ _ _=>(aF au (pv 0) ag (λ_ _=>rfl)))))),?_⟩
  have sl:=sizeLine_eq
  symm
  obtain⟨dx,sp,mo,wh,tb,us,DF,h1,h2,h3,h4,h5,h6⟩:=id co
  nofun
  clear G_
  have lp:∀{a b c d e:V},List.lookup (Str.ofString "open_rows") [(Str.ofString "spots",a),(Str.ofString "mosts",b),(Str.ofString "first",c),(Str.ofString "whats",d),(Str.ofString "tables",e)]=none:=eV (by ac_rfl) (by ac_rfl) (by ac_rfl) (by ac_rfl) (by ac_rfl)
  have gx:=gg.wt _ (fc lk)
  have Nb:(bX g.cs ns x).length<=100:=by
   cases x with
   | pick w' rs=>exact aar (List.length_filter_le _ _) gx.1
   | _=>exact aak _
  simp_all only[cZ,wX]
  refine⟨_,_,h1,lp,H,aA.refl _,g,co,gg,nm,ns,st,ln,x,lk,λrl xs H1 s1 n1 vJ O9=>?_⟩
  generalize bX g.cs ns x=rs at *
  have xm:=O9.mono s1
  have len:=xm.length
  rw[aad,aad] at len
  have zl:(xs.zip rs).length=xs.length:=by rw[List.length_zip];omega
  refine⟨⟨_,bD.of vJ⟩,?_⟩
  have S:Src (Jw K rl) (aA H1) xs.length _:=src_list (λH' s'=>bD.of (s' _ _ vJ))
  rw[<-zl] at S
  refine nY (xs.zip rs) (λx=>some (.str x.2.word)) S (λ_ _ _ _ h=>h.1) (by omega) ?_ ?_
  ·rintro i ⟨x,r⟩ y LF ⟨_,ey⟩ Y N y1 y2
   obtain⟨e1,e2⟩:=List.getElem?_zip_eq_some.mp LF
   rw[e1] at ey
   cases ey
   symm
   obtain⟨r',p',a',b',c',d',er,rfl,Ee,rb,_⟩:=Ad xm e1
   nofun
   rw[e2] at er
   cases er
   simp_all only[sG,Ee]
   exact y1 _ rfl
  ·intro D n1' n2
   have e:(xs.zip rs).filterMap (λx=>some (V.str x.2.word))=rs.map λr=>V.str r.word:=by
    rw[Fb]
    have:(xs.zip rs).map (λx=>V.str x.2.word)=((xs.zip rs).map Prod.snd).map λr=>V.str r.word:=by rw[aas];rfl
    rw[this,List.map_snd_zip (by omega)]
   rw[e]
   exact kk D _ (s1.trans (ae n2)) (none_of s1 n2) (aS.mpr ⟨D,_,rfl,aj,(ud xm).mono (ae n2)⟩)
theorem fQ:aY ["self","state","what"] ["self","state"] (aq (inClass (top 36) 12)):=⟨rfl,rfl,rfl,by ac_rfl,rfl,by ac_rfl,by ac_rfl⟩
theorem IU (T:Txt K mg aH aI aE aO af av):cf P w K mg base (bG P w) 2 af "end_worth" ["self","state"] (Ac af):=by
 have bP:cf P w K mg base (bG P w) 1 af "what_at" ["self","state"] (iT af):=rH T
 refine T.jY.fC (λ_ _ _ _ _ _=>gX λ_ _=>rfl) λf fd F=>F.gJ fQ (λvs H Q E h=>?_) (λbZ A outer s H vs Q E hr h=>?_)
 ·obtain⟨_,_,_,_,_,_,_,_,rfl,_⟩:=h;rfl
 ·symm
  obtain⟨c,v,g,nm,ns,x,t,b,rfl,co,gg,st,ln,lk,ew,kk⟩:=h
  nofun
  have nd:=fQ.nd
  refine⟨_,(ao (aR (i:=2) nd rfl (Or.inl rfl) (dD bP T.aM (pv 0) (hr.mono (by decide)) aK.pass (aa (pv 1) ai (se rfl)) (hst:=se rfl) (hpl:=na rfl)))
  (ar (aT (mw (aU cA (aF au (pv 2) ag (λ_ _=>rfl)) aG (bb _)) (aF au (pv 2) ag (λ_ _=>rfl)) (aX (aa (aF bw (aF au (pv 1) ag (λ_ _=>rfl)) (bY (cQ hr) (cj (pv 0) rfl) (aF au (pv 2) ag (λ_ _=>rfl)) (λ_ _=>rfl)) (λ_ _=>rfl)) (aa ag ai (se rfl)) (se rfl))))))),?_⟩
  have sl:=sizeLine_eq
  symm
  obtain⟨dx,sp,mo,wh,tb,us,DF,h1,h2,h3,h4,h5,h6⟩:=id co
  obtain⟨sa,l,rfl,tY,hl⟩:=id st
  nofun
  have lp:∀{a b c d e:V},List.lookup (Str.ofString "what_at") [(Str.ofString "spots",a),(Str.ofString "mosts",b),(Str.ofString "first",c),(Str.ofString "whats",d),(Str.ofString "tables",e)]=none:=eV (by ac_rfl) (by ac_rfl) (by ac_rfl) (by ac_rfl) (by ac_rfl)
  have gx:=gg.wt _ (fc lk)
  change tSeq _ _ _ _ _
  refine bh (λN=>∀u,Rep H (ub x) u->N [some (.ref c),some (.ref sa),some u] H) ?_ (λN hN=>?_)
  case refine_2=>
   simp_all only[cZ,iT]
   exact⟨_,_,h1,lp,H,aA.refl _,g,co,nm,ns,st,x,lk,λu ru=>hN u ru⟩
  rintro u ru
  cases x with
  | fin t' b'=>
   symm
   obtain⟨p,x1,x2,rfl,hp,r1,r2⟩:=bq.mp (show Rep H (.tup _) u from ru)
   rw[aD] at r1
   subst r1
   nofun
   cases ew
   simp_all only[eY,hp]
   exact kk _ _ (aA.refl _) r2
  | score c'=>
   symm
   obtain⟨p,x1,x2,rfl,hp,r1,r2⟩:=bq.mp (show Rep H (.tup _) u from ru)
   rw[aD] at r1 r2
   subst r1 r2
   nofun
   cases ew
   have hs:=b8 (cs:=g.cs) gx
   simp_all only[eY,hp,tY]
   rw[if_neg (by ac_rfl)]
   refine⟨_,_,_,h1,T.aM,T.na_Course_spots,_,kK,_,rfl,_,iN h2 gx,_,_,rfl,hl,_,gM (by omega),by decide,λp' H2 s2 np e2=>kk _ _ s2 (bq.mpr ⟨p',_,_,rfl,e2,ba.mpr rfl,ba.mpr rfl⟩)⟩
  | ask _ _ _ _=>cases ew
  | pick _ _=>cases ew
  | fx _ _ _ _=>cases ew
theorem gz:aY ["self"] ["self"] (aq (inClass (top 37) 0)):=⟨rfl,rfl,rfl,by ac_rfl,rfl,by ac_rfl,by ac_rfl⟩
theorem LG (T:Txt K mg aH aI aE aO af av):qJ P w K mg base (bG P w) 1 "Finder" av ["self"] (ID P w av):=by
 refine T.Bg.fC (λ_ _ _ _ _ _=>ij λ_=>rfl) λf fd F=>F.gJ gz (λvs H Q E h=>?_) (λbZ A outer s H vs Q E hr h=>?_)
 ·obtain⟨_,_,rfl,_⟩:=h;rfl
 ·symm
  obtain⟨x,dx,rfl,hx,kk⟩:=h
  nofun
  have nd:=gz.nd
  refine⟨_,(ao (lD (pv 0) (bI ai) rfl)
  (ar (lD (pv 0) (CP (P:=P) (w:=w)) rfl))),?_⟩
  have sl:=sizeLine_eq
  simp_all only[xW,CO]
  refine⟨aak _,λl nl=>?_⟩
  have lx:x≠l:=λz=>by rw[<-z,hx] at nl;cases nl
  have Y7:upd H l (.lst []) x=some (.ins av dx []):=by rw[aB lx];exact hx
  refine⟨_,_,_,Y7,T.bT,T.na_Finder_states,by decide,λn nn=>?_⟩
  have e1:i4 (Str.ofString "states") (V.ref l) []=[(Str.ofString "states",V.ref l)]:=rfl
  have e2:i4 (Str.ofString "numbers") (V.ref n) [(Str.ofString "states",V.ref l)]=[(Str.ofString "states",V.ref l),(Str.ofString "numbers",V.ref n)]:=by
   show(if Str.ofString "states"=Str.ofString "numbers" then _ else _)=_
   rw[if_neg (by ac_rfl)]
   rfl
  rw[e1] at nn ⊢
  have xn:n≠x:=λz=>by rw[z,aj] at nn;cases nn
  rw[aB xn] at nn
  have Pa:n≠l:=λz=>by rw[z,aj] at nn;cases nn
  rw[aB Pa] at nn
  refine⟨_,_,_,by rw[aB (Ne.symm xn),aj],T.bT,T.na_Finder_numbers,by show(1:Nat)<1000;decide,?_⟩
  rw[e2]
  refine kk l n _ nl nn (λa o ax ha=>?_) λFr=>⟨dx,[],[],?_,Ne.symm Pa,?_,trivial,?_,(λp hp=>nomatch hp),rfl,aak _⟩
  ·have al:a≠l:=λz=>by rw[z,nl] at ha;cases ha
   have an:a≠n:=λz=>by rw[z,nn] at ha;cases ha
   rw[cu al an,aB ax,aB an,aB ax,aB al]
   exact ha
  ·rw[cu lx (Ne.symm xn),aj]
  ·rw[aB (Ne.symm lx),aB (Ne.symm Pa),aB (Ne.symm lx),aj]
  ·rw[aB xn,aj]
theorem fR:aY ["self","state","key"] ["self","state"] (aq (inClass (top 37) 1)):=⟨rfl,rfl,rfl,by ac_rfl,rfl,by ac_rfl,by ac_rfl⟩
theorem yJ (T:Txt K mg aH aI aE aO af av):cf P w K mg base (bG P w) 1 av "number_of" ["self","state"] (lS P w av aE):=by
 refine T.j0.fC (λ_ _ _ _ _ _=>gX λ_ _=>rfl) λf fd F=>F.Gz fR (λvs H Q E h=>?_) (λbZ A outer s H vs Q E hr h=>?_)
 ·obtain⟨_,_,_,_,_,_,_,rfl,_⟩:=h;rfl
 ·symm
  obtain⟨fa,sv,Fr,l,n,ss,st,rfl,⟨dx,xs,ks,hf,ln,hl,al,hn,an,nk,xo⟩,vK,hs,Y8,kE,kQ⟩:=h
  nofun
  have nd:=fR.nd
  have yG:A.handled=none:=hr.hd
  refine⟨_,(ao (aR (i:=2) nd rfl (Or.inl rfl) (aX (aa (aF au (pv 1) ag (λ_ _=>rfl)) (aa (hV (qB (K:=K)) (by rfl) T.z_tuple rfl (aa (aF au (pv 1) ag (λ_ _=>rfl)) ai (se rfl)) (he:=se rfl) (hpl:=na rfl)) ai (se rfl)) (se rfl))))
  (ao (bK (xK (Ba (P:=P) (w:=w) hr.units (pv 2) (cj (pv 0) rfl))) (ao (bK (aU cA (bc bL (by rfl) T.z_len aav (aa (cj (pv 0) rfl) ai (se rfl)) (he:=se rfl) (hpl:=na rfl)) (mK rfl T.c_MOST_STATES) (bb _)) (ar (hZ rfl T.k_TooMany T.x_TooMany yG (aa aG ai (se rfl)) (he:=se rfl) (hpl:=na rfl)))
   bj)
  (ao (Fi (P:=P) (w:=w) hr.units (cj (pv 0) rfl) (pv 2) (bc bL (by rfl) T.z_len aav (aa (cj (pv 0) rfl) ai (se rfl)) (he:=se rfl) (hpl:=na rfl)) rfl)
  (ar (bR (eZ aaz aaD aaE b9.r (cj (pv 0) rfl) (aa (pv 1) ai (se rfl)))))))
   bj)
  (ar (aT (Fh (P:=P) (w:=w) hr.units (cj (pv 0) rfl) (pv 2) (λ_ _=>rfl)))))),?_⟩
  refine(?_:let cI:TS:=_;let cJ:TS:=_;let cK:TS:=_;tSeq cI (tSeq cJ cK) _ _ _)
  intro cI cJ cK
  have sl:=sizeLine_eq
  symm
  obtain⟨sa,cl,rfl,tY,jg,Nh⟩:=id vK
  nofun
  have LH:=aN _ _ hf
  have Pb:=aN _ _ tY
  have Pc:=aN _ _ jg
  have Y9:=nk.len
  have yK:=al.length
  change tSeq _ _ _ _ _
  refine bh (λN=>∀H1,aA H H1->∀b,jX (bS H1 l n) (ip st) b->N [some (.ref fa),some (.ref sa),some (.ref b)] H1) ?_ (λN hN=>?_)
  case refine_2=>
   simp_all only[Pb]
   refine⟨_,.inl ⟨bD.of Pc,λt nt=>⟨by decide,λp H2 s2 np e2=>hN _ ((ae nt).trans s2) p ?_⟩⟩⟩
   have tl:t≠l:=λz=>by rw[z,hl] at nt;cases nt
   have tn:t≠n:=λz=>by rw[z,hn] at nt;cases nt
   have pl:p≠l:=λz=>by rw[z,ae nt _ _ hl] at np;cases np
   have pn:p≠n:=λz=>by rw[z,ae nt _ _ hn] at np;cases np
   exact IC hs (by rw[cu pl pn];exact e2) (by rw[cu tl tn];exact s2 _ _ aj)
  rintro H1 s1 b kb
  have Pd:=nk.look (s:=st)
  rw[Nat.zero_add] at Pd
  have Za:=al.imp λ_ _ k=>Ae.mono (bx (l:=l) (n:=n) s1) k
  have LI:=an.mono (bx (l:=l) (n:=n) s1)
  change tSeq _ _ _ _ _
  refine cV (λσ' H2=>aA (bS H l n) (bS H2 l n)/\(st∈ss\/ss.length<120)/\lR P w av Fr H2 fa l n (eX ss st)/\jX (bS H2 l n) (ip st) b/\σ'=[some (.ref fa),some (.ref sa),some (.ref b)]) ?_ (λN hN=>?_)
  case refine_2=>
   have D7:=T.c_MOST_STATES
   simp_all only[eY,zQ,GJ,cH,tRaise]
   refine⟨_,_,_,s1 _ _ LH,T.bT,T.na_Finder_numbers,_,Dk,_,⟨n,b,ip st,ks,rfl,rfl,s1 _ _ hn,LI.mono aN,kb.mono aN,rfl⟩,?_⟩
   rw[Pd]
   by_cases hm:st∈ss
   ·rw[if_pos hm,if_neg (by simp)]
    refine hN _ _ ⟨bx s1,.inl hm,?_,kb,rfl⟩
    have e:eX ss st=ss:=by unfold eX;rw[if_pos hm]
    rw[e]
    exact lR.mono s1 ⟨dx,xs,ks,hf,ln,hl,al,hn,an,nk,xo⟩
   ·have Pe:iS ks (i7 (ip st))=none:=by rw[Pd,if_neg hm]
    have e:eX ss st=ss++ [st]:=by unfold eX;rw[if_neg hm]
    rw[if_neg hm,if_pos (by rfl)]
    refine⟨_,_,_,s1 _ _ LH,T.bT,T.na_Finder_states,_,kL,_,rfl,_,s1 _ _ hl,?_⟩
    by_cases full:ss.length=120
    ·rw[if_pos (by omega)]
     exact⟨by decide,kE hm full _ s1⟩
    have lt:ss.length<120:=by omega
    rw[if_neg (by omega)]
    refine⟨_,_,_,s1 _ _ LH,T.bT,T.na_Finder_states,_,kL,_,rfl,_,s1 _ _ hl,?_⟩
    have D1:∀o,upd H1 n o l=some (.lst xs):=λo=>by rw[aB ln];exact s1 _ _ hl
    have ty:∀o,EL K "list" (.ref l) (upd H1 n o):=λo=>.inl ⟨rfl,_,bD.of (D1 o)⟩
    refine⟨_,_,_,s1 _ _ LH,T.bT,T.na_Finder_numbers,_,Dk,_,rfl,ip st,ks,s1 _ _ hn,LI.mono aN,kb.mono aN,Pe,by omega,_,_,_,by rw[aB (iq hf).2];exact s1 _ _ LH,T.bT,T.na_Finder_states,_,kL,ty _,_,rfl,_,D1 _,by omega,hN _ _ ?_⟩
    have eh:bS (upd (upd H1 n (D5 P w n (ks++ [(ip st,b,((xs.length:Nat):Int))]))) l (.lst (xs++ [V.ref sa]))) l n=bS H1 l n:=by rw[Bl,Bm ln]
    refine⟨by rw[eh];exact bx s1,.inr lt,?_,by rw[eh];exact kb,rfl⟩
    rw[e]
    refine⟨dx,_,_,by rw[eh];exact bx s1 _ _ hf,ln,aj,by rw[eh];exact Za.append (.one (vK.mono (bx s1))),by rw[aB (Ne.symm ln),aj],?_,?_,by rw[aah];simp only[aap,aaR];omega⟩
    ·rw[eh]
     intro p hp
     rcases List.mem_append.mp hp with h | h
     ·exact LI p h
     ·rw[List.mem_singleton.mp h];exact kb
    ·have:=nk.snoc (s:=st) (b:=b)
     rw[Nat.zero_add,<-yK] at this
     exact this
  intro _ H2 dF
  symm
  obtain⟨s2,Zb,fi,kb2,rfl⟩:=dF
  obtain⟨We,Lx,Pf,g1,g2,g3,g4,g5,g6,g7,g8⟩:=id fi
  nofun
  simp_all only[eY,GI]
  refine⟨_,_,_,aN _ _ g1,T.bT,T.na_Finder_numbers,_,Dk,_,⟨n,b,ip st,Pf,rfl,rfl,g5,g6.mono aN,kb2.mono aN,?_⟩,kQ Zb H2 s2 fi⟩
  rw[g7.look,if_pos (rh _ _),rj,Nat.zero_add]
theorem gA:aY ["self","game","spot","count","name","what"] ["self","game"] (aq (inClass (top 36) 0)):=⟨rfl,rfl,rfl,by ac_rfl,rfl,by ac_rfl,by ac_rfl⟩
theorem LJ (T:Txt K mg aH aI aE aO af av):qJ P w K mg base (bG P w) 3 "Course" af ["self","game"] (IF af):=by
 have yL:c6 P w K mg base (bG P w) 2 "own_what" ["what"] IA:=Lw T
 refine T.Bf.fC (λ_ _ _ _ _ _=>gX λ_ _=>rfl) λf fd F=>F.gJ gA (λvs H Q E h=>?_) (λbZ A outer s H vs Q E hr h=>?_)
 ·obtain⟨_,_,_,_,rfl,_⟩:=h;rfl
 ·symm
  obtain⟨c,dx,gv,g,rfl,hc,rg,gg,kk⟩:=h
  nofun
  clear G_
  have nd:=gA.nd
  refine⟨_,(ao (lD (pv 0) mD rfl)
  (ao (lD (pv 0) (bI ai) rfl)
  (ao (cY PassesOwn.never rfl (sL (K:=K) rfl T.z_enumerate (aa (aF au (pv 1) ag (λ_ _=>rfl)) ai (se rfl))) (c9 (K:=K) (n:=2) rfl (bf (aP (i:=2) nd rfl (Or.inl rfl)) (bf (aP (i:=3) nd rfl (Or.inl rfl)) c8))) (ao (p7 (cQ hr) (cj (pv 0) rfl) (aF au (pv 3) ag (λ_ _=>rfl)) (pv 2) rfl)
  (ar (bR (eZ aaz aaD aaE b9.r (cj (pv 0) rfl) (aa (aF au (pv 3) ag (λ_ _=>rfl)) ai (se rfl)))))))
  (ao (lD (pv 0) (aF au (aF bw (aF au (pv 1) ag (λ_ _=>rfl)) ag (λ_ _=>rfl)) ag (λ_ _=>rfl)) rfl)
  (ao (lD (pv 0) mD rfl)
  (ao (cY PassesOwn.never rfl (bo (K:=K) (aF au (pv 1) ag (λ_ _=>rfl))) (c9 (K:=K) (n:=2) rfl (bf (aP (i:=4) nd rfl (Or.inl rfl)) (bf (aP (i:=5) nd rfl (Or.inl rfl)) c8))) (ar (p7 (cQ hr) (cj (pv 0) rfl) (pv 4) (bg yL (hr.mono (by decide)) rfl aK.pass (aa (pv 5) ai (se rfl)) (he:=se rfl) (hpl:=na rfl)) rfl)))
  (ar (lD (pv 0) mD rfl)))))))),?_⟩
  refine(?_:let cI:TS:=_;let cJ:TS:=_;let cK:TS:=_;let eC:TS:=_;let rE:TS:=_;let xj:TS:=_;let GW:TS:=_;tSeq cI (tSeq cJ (tSeq cK (tSeq eC (tSeq rE (tSeq xj GW))))) _ _ _)
  intro cI cJ cK eC rE xj GW
  have sl:=sizeLine_eq
  have np:=gg.np
  have nc:=gg.nc
  have lc:=gg.lc
  have lpp:=gg.lp
  have p0:=gg.p0
  symm
  obtain⟨gp,g0,g1,rfl,Pg,rc,rp⟩:=bq.mp (show Rep H (.tup _) gv from rg)
  obtain⟨cl,j3,rfl,jg,Ap⟩:=aS.mp (show Rep H (.lst _) g0 from rc)
  obtain⟨pl,Ef,rfl,hpl,BJ⟩:=aS.mp (show Rep H (.lst _) g1 from rp)
  nofun
  clear G_
  have vv:=Ap.length
  rw[aad] at vv
  have LK:=BJ.length
  rw[aad] at LK
  change tSeq _ _ _ _ _
  let K1:Hp->Prop:=λH1=>∀a o,a≠c->H a=some o->H1 a=some o
  have kp:∀{H1},K1 H1->Kp H H1:=λ{H1} k a=>by
   by_cases z:a=c
   ·subst z;rw[hc];exact⟨(λ_ e=>by cases e),(λ_ e=>by cases e)⟩
   ·exact⟨λ_=>k _ _ z,λ_=>k _ _ z⟩
  have yM:∀{H1 a vs},K1 H1->H a=some (.tup vs)->H1 a=some (.tup vs):=λk e=>((kp k) _).1 _ e
  have DI:∀{H1 a vs},K1 H1->H a=some (.lst vs)->H1 a=some (.lst vs):=λk e=>((kp k) _).2 _ e
  refine bh (λN=>∀H1,K1 H1->(∃sp,sp≠c/\H sp=none/\H1 c=some (.ins af dx [(Str.ofString "spots",.ref sp)])/\H1 sp=some (.dK []))->N [some (.ref c),some (.ref gp),none,none,none,none] H1) ?_ (λN hN=>?_)
  case refine_2=>
   simp_all only[xW,tDNewK]
   intro sp JO
   have e1:sp≠c:=λz=>by rw[z,hc] at JO;cases JO
   refine⟨_,_,_,by rw[aB (Ne.symm e1)];exact hc,T.aM,T.na_Course_spots,by decide,hN _ (λa o ac ha=>?_) ⟨sp,e1,JO,aj,by rw[aB e1,aj]⟩⟩
   rw[aB ac,aB (λz=>by rw[z,JO] at ha;cases ha)]
   exact ha
  intro H1 k1 dF
  symm
  obtain⟨sp,JP,JO,Wf,LL⟩:=dF
  nofun
  clear G_
  change tSeq _ _ _ _ _
  refine bh (λN=>∀H2,K1 H2->(∃mo,mo≠c/\mo≠sp/\H mo=none/\H2 c=some (.ins af dx [(Str.ofString "spots",.ref sp),(Str.ofString "mosts",.ref mo)])/\H2 sp=some (.dK [])/\H2 mo=some (.lst []))->N [some (.ref c),some (.ref gp),none,none,none,none] H2) ?_ (λN hN=>?_)
  case refine_2=>
   simp_all only[xW]
   refine⟨aak _,λmo GX=>?_⟩
   have e1:mo≠c:=λz=>by rw[z,Wf] at GX;cases GX
   have e2:mo≠sp:=λz=>by rw[z,LL] at GX;cases GX
   have n0:H mo=none:=by
    cases h0:H mo with
    | none=>rfl
    | some o=>rw[k1 _ _ e1 h0] at GX;cases GX
   refine⟨_,_,_,by rw[aB (Ne.symm e1)];exact Wf,T.aM,T.na_Course_mosts,by show(1:Nat)<1000;decide,hN _ (λa o ac ha=>?_) ⟨mo,e1,e2,n0,?_,by rw[aB JP,aB (Ne.symm e2)];exact LL,by rw[aB e1,aj]⟩⟩
   ·rw[aB ac,aB (λz=>by rw[z,n0] at ha;cases ha)]
    exact k1 _ _ ac ha
   ·rw[aj]
    show some (HO.ins _ _ (if Str.ofString "spots"=Str.ofString "mosts" then _ else _))=_
    rw[if_neg (by ac_rfl)]
    rfl
  intro H2 k2 dF
  symm
  obtain⟨mo,NB,LM,GX,M7,Ph,Pj⟩:=dF
  nofun
  clear G_
  change tSeq _ _ _ _ _
  refine bh (λN=>∀H3,K1 H3->H3 c=some (.ins af dx [(Str.ofString "spots",.ref sp),(Str.ofString "mosts",.ref mo)])->H3 sp=some (.dK (qW g.cs 0))->H3 mo=some (.lst ((g.cs.map (·.2)).map V.int))->∀z1 z2,N [some (.ref c),some (.ref gp),z1,z2,none,none] H3) ?_ (λN hN=>?_)
  case refine_2=>
   simp_all only[iEnum,yM k2 Pg]
   refine⟨⟨_,bD.of (DI k2 jg)⟩,cD (Cr (Ok:=K1) (λH' k=>bD.of (DI k jg))) (λi σ H'=>K1 H'/\H' c=some (.ins af dx [(Str.ofString "spots",.ref sp),(Str.ofString "mosts",.ref mo)])/\H' sp=some (.dK (qW (g.cs.take i) 0))/\H' mo=some (.lst (((g.cs.take i).map (·.2)).map V.int))/\∃z1 z2,σ=[some (.ref c),some (.ref gp),z1,z2,none,none]) ⟨k2,M7,Ph,Pj,_,_,rfl⟩ (λ_ _ _ _ h=>h.1) ?_ ?_⟩
   ·intro i x σ H3 H4 hi iu fE
    symm
    obtain⟨k3,JQ,yN,yO,z1,z2,rfl⟩:=iu
    obtain⟨t,y,nt,rfl,ey,rfl⟩:=fE
    obtain⟨d0,ed,rd⟩:=Ap.get ey
    rw[aae] at ed
    obtain⟨cn,ec,rfl⟩:=Option.map_eq_some_iff.mp ed
    obtain⟨cp,y1,y2,rfl,NC,r1,r2⟩:=bq.mp (show Rep H (.tup _) y from rd)
    rw[aD] at r1
    rw[ba] at r2
    subst r1 r2
    nofun
    clear G_
    have tk:g.cs.take (i+1)=g.cs.take i++ [cn]:=by rw[aaC,ec];rfl
    have nn:cn.1∉(g.cs.take i).map (·.1):=by
     rw[List.map_take]
     exact wY nc (by rw[aae,ec];rfl)
    have tc:t≠c:=λz=>by rw[z,JQ] at nt;cases nt
    have ts:t≠sp:=λz=>by rw[z,yN] at nt;cases nt
    have tm:t≠mo:=λz=>by rw[z,yO] at nt;cases nt
    have k4:K1 (upd H3 t (.tup [.int (i:Int),.ref cp])):=λa o ac ha=>ae nt _ _ (k3 a o ac ha)
    have FQ:upd H3 t (.tup [.int (i:Int),.ref cp]) c=_:=ae nt _ _ JQ
    have FR:upd H3 t (.tup [.int (i:Int),.ref cp]) sp=_:=ae nt _ _ yN
    have FT:upd H3 t (.tup [.int (i:Int),.ref cp]) mo=_:=ae nt _ _ yO
    refine⟨t,_,rfl,gh.of aj,rfl,?_⟩
    generalize upd H3 t (.tup [.int (i:Int),.ref cp])=H4 at *
    have Zc:(qW (g.cs.take i) 0).length<sizeLine:=by rw[zZ,aaG];omega
    have k5:K1 (upd H4 sp (.dK (putK (qW (g.cs.take i) 0) (Sum.inr cn.1) (.int (i:Int))))):=λa o ac ha=>by
     rw[aB (λz=>by rw[z,JO] at ha;cases ha)]
     exact k4 a o ac ha
    simp_all only[sDPut,eY,cH,yM k4 NC]
    have ND:eM (qW (g.cs.take i) 0) (Sum.inr cn.1)=none:=qX nn
    rw[qh ND] at k5
    have lt:(g.cs.take i).length=i:=by rw[aaG];omega
    have FV:∀o,upd H4 sp o mo=some (.lst (((g.cs.take i).map (·.2)).map V.int)):=λo=>by rw[aB LM];exact FT
    have ty:∀o,EL K "list" (.ref mo) (upd H4 sp o):=λo=>.inl ⟨rfl,_,bD.of (FV o)⟩
    refine⟨_,_,_,FQ,T.aM,T.na_Course_spots,_,aa2,_,rfl,_,.inl ⟨_,Sum.inr cn.1,FR,rfl,Zc,rfl⟩,?_⟩
    rw[qh ND]
    refine⟨_,_,_,by rw[aB (Ne.symm JP)];exact FQ,T.aM,T.na_Course_mosts,_,by rw[dU (by ac_rfl)];exact aa2,ty _,_,yM k5 NC,_,rfl,_,rfl,_,FV _,by rw[aad,aad];omega,?_⟩
    refine⟨?_,?_,?_,?_,_,rfl⟩
    ·intro a o ac ha
     rw[aB (λz=>by rw[z,GX] at ha;cases ha)]
     exact k5 a o ac ha
    ·rw[aB (Ne.symm NB),aB (Ne.symm JP)];exact FQ
    ·rw[aB (Ne.symm LM),aj,tk,wU,lt,Nat.zero_add]
    ·rw[aj,tk,aan,aan]
     rfl
   ·intro σ H3 dF
    symm
    obtain⟨k3,JQ,yN,yO,z1,z2,rfl⟩:=dF
    nofun
    rw[<-vv,aau (aaf _)] at yN yO
    exact hN _ k3 JQ yN yO _ _
  rintro H3 k3 JQ yN yO z1 z2
  obtain⟨⟨n0,x0⟩,Wg⟩:∃x,g.ps[0]?=some x:=⟨_,aax p0⟩
  obtain⟨v0,Zd,Ze⟩:=BJ.at (by rw[aae,Wg];rfl)
  change tSeq _ _ _ _ _
  refine bh (λN=>∀H4,K1 H4->H4 c=some (.ins af dx [(Str.ofString "spots",.ref sp),(Str.ofString "mosts",.ref mo),(Str.ofString "first",.str n0)])->H4 sp=some (.dK (qW g.cs 0))->H4 mo=some (.lst ((g.cs.map (·.2)).map V.int))->N [some (.ref c),some (.ref gp),z1,z2,none,none] H4) ?_ (λN hN=>?_)
  case refine_2=>
   simp_all only[xW,yM k3 Pg]
   symm
   obtain⟨q0,a1,a2,rfl,Zf,b1,_⟩:=bq.mp (show Rep H (.tup _) v0 from Ze)
   rw[aD] at b1
   subst b1
   nofun
   have at0:jV Ef 0=some (.ref q0):=(dj Zd:jV Ef ((0:Nat):Int)=_)
   refine⟨_,DI k3 hpl,_,at0,_,rfl,_,yM k3 Zf,_,rfl,_,_,_,JQ,T.aM,T.na_Course_first,by show(2:Nat)<1000;decide,hN _ (λa o ac ha=>?_) ?_ (by rw[aB JP];exact yN) (by rw[aB NB];exact yO)⟩
   ·rw[aB ac]
    exact k3 _ _ ac ha
   ·rw[aj]
    show some (HO.ins _ _ (if Str.ofString "spots"=Str.ofString "first" then _ else _::(if Str.ofString "mosts"=Str.ofString "first" then _ else _)))=_
    rw[if_neg (by ac_rfl),if_neg (by ac_rfl)]
    rfl
  rintro H4 k4 FQ FR FT
  change tSeq _ _ _ _ _
  refine bh (λN=>∀H5,K1 H5->(∃wh,wh≠c/\wh≠sp/\wh≠mo/\H wh=none/\H5 c=some (.ins af dx [(Str.ofString "spots",.ref sp),(Str.ofString "mosts",.ref mo),(Str.ofString "first",.str n0),(Str.ofString "whats",.ref wh)])/\H5 sp=some (.dK (qW g.cs 0))/\H5 mo=some (.lst ((g.cs.map (·.2)).map V.int))/\H5 wh=some (.dK []))->N [some (.ref c),some (.ref gp),z1,z2,none,none] H5) ?_ (λN hN=>?_)
  case refine_2=>
   simp_all only[xW,tDNewK]
   intro wh Eg
   have e1:wh≠c:=λz=>by rw[z,FQ] at Eg;cases Eg
   have e2:wh≠sp:=λz=>by rw[z,FR] at Eg;cases Eg
   have e3:wh≠mo:=λz=>by rw[z,FT] at Eg;cases Eg
   have n0:H wh=none:=by
    cases h0:H wh with
    | none=>rfl
    | some o=>rw[k4 _ _ e1 h0] at Eg;cases Eg
   refine⟨_,_,_,by rw[aB (Ne.symm e1)];exact FQ,T.aM,T.na_Course_whats,by show(3:Nat)<1000;decide,hN _ (λa o ac ha=>?_) ⟨wh,e1,e2,e3,n0,?_,by rw[aB JP,aB (Ne.symm e2)];exact FR,by rw[aB NB,aB (Ne.symm e3)];exact FT,by rw[aB e1,aj]⟩⟩
   ·rw[aB ac,aB (λz=>by rw[z,n0] at ha;cases ha)]
    exact k4 _ _ ac ha
   ·rw[aj]
    show some (HO.ins _ _ (if Str.ofString "spots"=Str.ofString "whats" then _ else _::(if Str.ofString "mosts"=Str.ofString "whats" then _ else _::(if Str.ofString "first"=Str.ofString "whats" then _ else _))))=_
    rw[if_neg (by ac_rfl),if_neg (by ac_rfl),if_neg (by ac_rfl)]
    rfl
  intro H5 k5 dF
  symm
  obtain⟨wh,NF,Pk,Pm,Eg,Zg,Pn,FV,Po⟩:=dF
  nofun
  change tSeq _ _ _ _ _
  refine bh (λN=>∀H6,K1 H6->H6 c=some (.ins af dx [(Str.ofString "spots",.ref sp),(Str.ofString "mosts",.ref mo),(Str.ofString "first",.str n0),(Str.ofString "whats",.ref wh)])->H6 sp=some (.dK (qW g.cs 0))->H6 mo=some (.lst ((g.cs.map (·.2)).map V.int))->(∃us,H6 wh=some (.dK us)/\qY H6 g.ps us)->∀z3 z4,N [some (.ref c),some (.ref gp),z1,z2,z3,z4] H6) ?_ (λN hN=>?_)
  case refine_2=>
   simp_all only[yM k5 Pg]
   refine⟨⟨_,bD.of (DI k5 hpl)⟩,cD (src_list (Ok:=K1) (λH' k=>bD.of (DI k hpl))) (λi σ H'=>K1 H'/\H' c=some (.ins af dx [(Str.ofString "spots",.ref sp),(Str.ofString "mosts",.ref mo),(Str.ofString "first",.str n0),(Str.ofString "whats",.ref wh)])/\H' sp=some (.dK (qW g.cs 0))/\H' mo=some (.lst ((g.cs.map (·.2)).map V.int))/\(∃us,H' wh=some (.dK us)/\qY H' (g.ps.take i) us)/\∃z3 z4,σ=[some (.ref c),some (.ref gp),z1,z2,z3,z4]) ⟨k5,Zg,Pn,FV,⟨[],Po,rfl⟩,_,_,rfl⟩ (λ_ _ _ _ h=>h.1) ?_ ?_⟩
   ·intro i x σ H7 H6 hi iu fE
    symm
    obtain⟨k6,Eh,Bv,Bw,⟨us,xp,wk⟩,z3,z4,rfl⟩:=iu
    obtain⟨rfl,ey⟩:=fE
    obtain⟨d0,ed,rd⟩:=BJ.get ey
    rw[aae] at ed
    obtain⟨pn,ec,rfl⟩:=Option.map_eq_some_iff.mp ed
    obtain⟨cp,y1,y2,rfl,NC,r1,r2⟩:=bq.mp (show Rep H (.tup _) x from rd)
    rw[aD] at r1
    subst r1
    nofun
    have tk:g.ps.take (i+1)=g.ps.take i++ [pn]:=by rw[aaC,ec];rfl
    have nn:pn.1∉(g.ps.take i).map (·.1):=by
     rw[List.map_take]
     exact wY np (by rw[aae,ec];rfl)
    have ND:=wk.none nn
    have lus:us.length<=100:=by rw[wk.len,aaG];omega
    refine⟨cp,_,rfl,gh.of (yM k6 NC),rfl,?_⟩
    simp_all only[sDPut,eY,IA]
    refine⟨_,(kp k6).rep r2,_,gg.wt _ (aaj ec),λu H7 s7 ru=>?_⟩
    refine⟨_,_,_,s7 _ _ Eh,T.aM,T.na_Course_whats,_,by rw[dU (by ac_rfl),dU (by ac_rfl),dU (by ac_rfl)];exact aa2,_,rfl,_,.inl ⟨_,Sum.inr pn.1,s7 _ _ xp,rfl,by omega,rfl⟩,?_⟩
    rw[qh ND]
    have kq:Kp H7 (upd H7 wh (.dK (us++ [(Sum.inr pn.1,u)]))):=Kp.upd (λvs e=>by rw[s7 _ _ xp] at e;cases e) (λvs e=>by rw[s7 _ _ xp] at e;cases e)
    refine⟨λa o ac ha=>?_,by rw[aB (Ne.symm NF)];exact s7 _ _ Eh,by rw[aB (Ne.symm Pk)];exact s7 _ _ Bv,by rw[aB (Ne.symm Pm)];exact s7 _ _ Bw,⟨_,aj,?_⟩,_,rfl⟩
    ·rw[aB (λz=>by rw[z,Eg] at ha;cases ha)]
     exact s7 _ _ (k6 _ _ ac ha)
    ·rw[tk]
     exact qY.snoc (kq.rep ru) (kq.OX (wk.mono s7))
   ·intro σ H6 dF
    symm
    obtain⟨k6,Eh,Bv,Bw,⟨us,xp,wk⟩,z3,z4,rfl⟩:=dF
    nofun
    rw[<-LK,aau (aaf _)] at wk
    exact hN _ k6 Eh Bv Bw ⟨us,xp,wk⟩ _ _
  intro H6 k6 Eh Bv Bw Zh z3 z4
  symm
  obtain⟨us,xp,wk⟩:=Zh
  nofun
  simp_all only[xW,tDNewK]
  intro tb Aq
  have e1:tb≠c:=λz=>by rw[z,Eh] at Aq;cases Aq
  have e2:tb≠sp:=λz=>by rw[z,Bv] at Aq;cases Aq
  have e3:tb≠mo:=λz=>by rw[z,Bw] at Aq;cases Aq
  have e4:tb≠wh:=λz=>by rw[z,xp] at Aq;cases Aq
  have LN:H tb=none:=by
   cases h0:H tb with
   | none=>rfl
   | some o=>rw[k6 _ _ e1 h0] at Aq;cases Aq
  refine⟨_,_,_,by rw[aB (Ne.symm e1)];exact Eh,T.aM,T.na_Course_tables,by show(4:Nat)<1000;decide,kk tb _ (λa o ac ha=>?_) LN (by rw[aB e1,aj]) ⟨dx,sp,mo,wh,us,n0,?_,by rw[bM (Ne.symm e2),aB JP,aB (Ne.symm e2)];exact Bv,by rw[bM (Ne.symm e3),aB NB,aB (Ne.symm e3)];exact Bw,by rw[bM (Ne.symm e4),aB NF,aB (Ne.symm e4)];exact xp,?_,?_⟩⟩
  ·rw[aB ac,aB (λz=>by rw[z,LN] at ha;cases ha)]
   exact k6 _ _ ac ha
  ·rw[bM (Ne.symm e1),aj]
   show some (HO.ins _ _ (if Str.ofString "spots"=Str.ofString "tables" then _ else _::(if Str.ofString "mosts"=Str.ofString "tables" then _ else _::(if Str.ofString "first"=Str.ofString "tables" then _ else _::(if Str.ofString "whats"=Str.ofString "tables" then _ else _)))))=_
   rw[if_neg (by ac_rfl),if_neg (by ac_rfl),if_neg (by ac_rfl),if_neg (by ac_rfl)]
   rfl
  ·have J3:upd H6 tb (.dK []) c=_:=(aB (Ne.symm e1)).trans Eh
   refine((Kp.of (ae Aq)).trans ((Kp.upd (o:=_) (λvs e=>by rw[J3] at e;cases e) (λvs e=>by rw[J3] at e;cases e)).trans (Kp.di (tb:=tb) (kvs:=[]) ?_))).OX wk
   rw[aB e1,aj]
  ·rw[List.head?_map,List.head?_eq_getElem?,Wg]
   rfl
theorem m6:aY ["course","finder","state","rows"] ["course","finder","state"] (aq (top 39)):=⟨rfl,rfl,rfl,by ac_rfl,rfl,by ac_rfl,by ac_rfl⟩
theorem IV (T:Txt K mg aH aI aE aO af av):c6 P w K mg base (bG P w) 4 "pick_ways" ["course","finder","state"] (Ag P w af av aO aE):=by
 have eQ:cf P w K mg base (bG P w) 2 af "open_rows" ["self","state"] (wX af):=DH T
 have fL:cf P w K mg base (bG P w) 3 af "by_row" ["self","state","row","value"] (wW af):=DG T
 have cR:cf P w K mg base (bG P w) 1 av "number_of" ["self","state"] (lS P w av aE):=yJ T
 refine T.wL.fC (λ_ _ _ _ _ _=>yr λ_ _ _=>rfl) λf fd F=>F.Gz m6 (λvs H Q E h=>?_) (λbZ A outer s H vs Q E hr h=>?_)
 ·obtain⟨_,_,_,_,_,_,_,_,_,_,_,rfl,_⟩:=h;rfl
 ·symm
  obtain⟨c,fa,sv,Fr,l,n,g,ss,st,wo,rs,rfl,co,gg,fi,fr,vK,ln,lk,kE,kQ⟩:=h
  nofun
  clear G_
  have nd:=m6.nd
  have yG:A.handled=none:=hr.hd
  refine⟨_,(ao (aR (i:=3) nd rfl (Or.inl rfl) (dD eQ T.aM (pv 0) (hr.mono (by decide)) aK.pass (aa (pv 2) ai (se rfl)) (hst:=se rfl) (hpl:=na rfl)))
  (ao (bK (aU cA (bc bL (by rfl) T.z_len aav (aa (pv 3) ai (se rfl)) (he:=se rfl) (hpl:=na rfl)) ag (bb _)) (ar (hZ rfl T.k_NoWay T.x_NoWay yG (aa aG ai (se rfl)) (he:=se rfl) (hpl:=na rfl)))
   bj)
  (ar (aT (CF rfl (N:=["course","finder","state","rows"]) (so:=aq (top 39)) (N':=["row","course","finder","state"]) (k:=1) (fr:=[0,1,2]) rfl rfl ⟨rfl,by ac_rfl,by ac_rfl,by ac_rfl,rfl,by ac_rfl,by ac_rfl⟩ (bo (K:=K) (pv 3)) (λ_ _ _ _ _=>(aP (i:=0) (show(["row","course","finder","state"]:List Str).Nodup by ac_rfl) rfl (Or.inl rfl))) (λ_ _ _ _ _=>cm)
   (λ_ _ _ _ _=>(dD cR T.bT (pv 2) (hr.mono (by decide)) CD (aa (dD fL T.aM (pv 1) (hr.mono (by decide)) aK.pass (aa (pv 3) (aa (pv 0) (aa ag ai (se rfl)) (se rfl)) (se rfl)) (hst:=se rfl) (hpl:=na rfl)) ai (se rfl)) (hst:=se rfl) (hpl:=na rfl)))))))),?_⟩
  refine(?_:let cI:TS:=_;let cJ:TS:=_;let cK:TS:=_;tSeq cI (tSeq cJ cK) _ _ _)
  intro cI cJ cK
  have sl:=sizeLine_eq
  symm
  obtain⟨dx,sp,mo,wh,tb,us,DF,h1,h2,h3,h4,h5,h6⟩:=id co
  obtain⟨JR,Wh,Wi,f1,f2,f3,f4,f5,f6,f7,f8⟩:=id fi
  obtain⟨sa,cl,rfl,tY,jg⟩:=id vK
  nofun
  clear G_
  have gx:=gg.wt _ (fc lk)
  have lp:∀{a b c d e:V},List.lookup (Str.ofString "open_rows") [(Str.ofString "spots",a),(Str.ofString "mosts",b),(Str.ofString "first",c),(Str.ofString "whats",d),(Str.ofString "tables",e)]=none:=eV (by ac_rfl) (by ac_rfl) (by ac_rfl) (by ac_rfl) (by ac_rfl)
  have BI:∀{a b c d e:V},List.lookup (Str.ofString "by_row") [(Str.ofString "spots",a),(Str.ofString "mosts",b),(Str.ofString "first",c),(Str.ofString "whats",d),(Str.ofString "tables",e)]=none:=eV (by ac_rfl) (by ac_rfl) (by ac_rfl) (by ac_rfl) (by ac_rfl)
  have Pp:∀{a b:V},List.lookup (Str.ofString "number_of") [(Str.ofString "states",a),(Str.ofString "numbers",b)]=none:=yx (by ac_rfl) (by ac_rfl)
  change tSeq _ _ _ _ _
  refine bh (λN=>∀H1,aA H H1->∀p xs,H p=none->H1 p=some (.lst xs)->aZ (bS H l n) (((bX g.cs st.2 (.pick wo rs)).map zX).map mn) xs->N [some (.ref c),some (.ref fa),some (.ref sa),some (.ref p)] H1) ?_ (λN hN=>?_)
  case refine_2=>
   simp_all only[cZ,wX]
   refine⟨_,_,aN _ _ h1,lp,bS H l n,aN,g,co,gg,st.1,st.2,vK.mono aN,ln,_,lk,λp xs H1 s1 n1 e1 r1=>hN _ s1 p xs n1 e1 r1⟩
  rintro H1 s1 p xs np hp xm
  have yK:=xm.length
  rw[aad,aad] at yK
  have Nb:(bX g.cs st.2 (.pick wo rs)).length<=100:=aar (List.length_filter_le _ _) gx.1
  by_cases ne:bX g.cs st.2 (.pick wo rs)=[]
  case pos=>
   rw[ne] at yK
   have yK:0=xs.length:=yK
   simp_all only[hp,tRaise]
   rw[if_pos (by omega)]
   exact⟨by decide,kE ne _ s1⟩
  symm
  obtain⟨ts,SS,go,xa,kM,kk⟩:=kQ ne
  nofun
  clear G_
  unfold Goes at go
  rw[lk] at go
  symm
  obtain⟨_,tl,al⟩:=go
  nofun
  clear G_
  have Vr:0< (bX g.cs st.2 (.pick wo rs)).length:=List.length_pos_iff.mpr ne
  clear kE kQ
  have row:∀r∈bX g.cs st.2 (.pick wo rs),r.ds.length<=100/\∀d∈r.ds,pB g.cs d:=λr hr=>gx.2 r (List.mem_filter.mp hr).1
  generalize bX g.cs st.2 (.pick wo rs)=os at *
  simp_all only[hp]
  rw[if_neg (by omega)]
  have pl:p≠l:=λz=>by rw[z,f3] at np;cases np
  have pn:p≠n:=λz=>by rw[z,f5] at np;cases np
  refine⟨⟨_,bD.of hp⟩,Dq (src_list (Ok:=λH'=>bS H' l n p=some (.lst xs)) (λH' k=>bD.of (aN _ _ k))) (λi ys σ H'=>aA (bS H l n) (bS H' l n)/\lR P w av Fr H' fa l n (aQ ss (ts.take i))/\bS H' l n p=some (.lst xs)/\(120< (aQ ss ts).length\/ys=(ts.take i).map (λt=>V.int ((SS.idxOf t:Nat):Int)))/\∃z,σ=[z,some (.ref c),some (.ref fa),some (.ref sa)]) ⟨bx s1,fi.mono s1,by rw[cu pl pn];exact hp,.inr rfl,_,rfl⟩ (λ_ _ _ _ h=>h.2.2.1) (by omega) ?_ ?_⟩
  ·intro i x σ H3 ys H2 Q' N hi Zi IW y1 _
   symm
   obtain⟨k2,FW,Na,NG,z,rfl⟩:=Zi
   obtain⟨rfl,ex⟩:=IW
   obtain⟨dd,ed,rd⟩:=xm.get ex
   rw[aae,aae] at ed
   obtain⟨r4,e4,rfl⟩:=Option.map_eq_some_iff.mp ed
   obtain⟨r,er,rfl⟩:=Option.map_eq_some_iff.mp e4
   obtain⟨t,et,gr,ht⟩:=al i r er
   obtain⟨q1,q2⟩:=row r (aaj er)
   nofun
   unfold Dp at gr
   symm
   obtain⟨hG,ak,e9⟩:=Option.map_eq_some_iff.mp gr
   subst e9
   have tk:ts.take (i+1)=ts.take i++ [(hG,r.ds.foldl (gZ g.cs 0) st.2)]:=by rw[aaC,et];rfl
   have ea:aQ ss (ts.take (i+1))=eX (aQ ss (ts.take i)) (hG,r.ds.foldl (gZ g.cs 0) st.2):=by
    rw[tk]
    unfold aQ
    rw[aa3]
    rfl
   have ah:pT (aQ ss (ts.take (i+1))) (aQ ss ts):=by
    have:=eO (ts.drop (i+1)) (aQ ss (ts.take (i+1)))
    unfold aQ at this ⊢
    rw[<-aa3,List.take_append_drop] at this
    exact this
   have DJ:aA (bS H l n) H2:=k2.trans aN
   obtain⟨We,Lx,Pf,u1,u2,u3,u4,u5,u6,u7,u8⟩:=id FW
   nofun
   simp_all only[cZ,sG,wW,lS]
   refine⟨_,_,aN _ _ u1,Pp,_,_,DJ _ _ h1,BI,g,co.mono DJ,gg,st.1,st.2,vK.mono DJ,_,_,r.ds,r.to,rd.mono DJ,q2,q1,ln,_,hG,ak,λa b H5 s5 na nb e1 e2=>?_⟩
   have LO:a≠l:=λz=>by rw[z,u3] at na;cases na
   have IX:a≠n:=λz=>by rw[z,u5] at na;cases na
   have Ei:b≠l:=λz=>by rw[z,u3] at nb;cases nb
   have IY:b≠n:=λz=>by rw[z,u5] at nb;cases nb
   have Pq:Fr b:=fr b (by
    cases h0:H b with
    | none=>rfl
    | some o=>rw[DJ _ _ (by rw[cu Ei IY];exact h0)] at nb;cases nb)
   have Pu:Ae Fr (bS H5 l n) (.ref a) hG (r.ds.foldl (gZ g.cs 0) st.2):=⟨a,b,rfl,by rw[cu LO IX];exact e1,by rw[cu Ei IY];exact e2,Pq⟩
   have Pw:(r.ds.foldl (gZ g.cs 0) st.2).length<=100:=by rw[fy,ln];exact gg.lc
   refine⟨Fr,l,n,_,FW.mono s5,(hG,_),Pu,ht,Pw,λyd full H6 s6=>kM ?_ _ (k2.trans (bx (s5.trans s6))),λ_ H6 s6 Px=>y1 _ _ _ ⟨k2.trans ((bx s5).trans s6),by rw[ea];exact Px,s6 _ _ (bx s5 _ _ Na),?_,_,rfl⟩⟩
   ·refine aat ?_ ah.len
    rw[ea]
    unfold eX
    rw[if_neg yd,aah,full,aaM]
    decide
   ·by_cases c:120< (aQ ss ts).length
    ·exact .inl c
    ·refine .inr ?_
     have mem:(hG,r.ds.foldl (gZ g.cs 0) st.2)∈aQ ss (ts.take (i+1)):=by rw[ea];exact rh _ _
     rw[NG.resolve_left c,tk,aan,aag,aaL,(ah.trans (xa (by omega))).idx mem,ea,rj]
  ·intro ys σ H2 LA D Py Ej
   symm
   obtain⟨k2,FW,Na,NG,z,rfl⟩:=LA
   rw[<-yK,<-tl,aau (aaf _)] at FW NG
   obtain⟨We,Lx,Pf,u1,u2,u3,u4,u5,u6,u7,u8⟩:=id FW
   nofun
   have le:(aQ ss ts).length<=120:=u8
   rw[NG.resolve_left (by omega)]
   have Dl:D≠l:=λz=>by rw[z,u3] at Ej;cases Ej
   have Dn:D≠n:=λz=>by rw[z,u5] at Ej;cases Ej
   exact kk le D _ (k2.trans (bx (ae Ej))) (FW.mono (ae Ej)) (none_of s1 Py) (by rw[cu Dl Dn,aj])
theorem gB:aY ["self","state"] ["self","state"] (aq (inClass (top 36) 8)):=⟨rfl,rfl,rfl,by ac_rfl,rfl,by ac_rfl,by ac_rfl⟩
theorem xq {a b c d e:V}:List.lookup (Str.ofString "tables") [(Str.ofString "spots",a),(Str.ofString "mosts",b),(Str.ofString "first",c),(Str.ofString "whats",d),(Str.ofString "tables",e)]=some e:=by
 rw[dU (by ac_rfl),dU (by ac_rfl),dU (by ac_rfl),dU (by ac_rfl)];exact aa2
theorem IZ (T:Txt K mg aH aI aE aO af av):cf P w K mg base (bG P w) 7 af "table_at" ["self","state"] (Dv af):=by
 have bP:cf P w K mg base (bG P w) 1 af "what_at" ["self","state"] (iT af):=rH T
 have vx:c6 P w K mg base (bG P w) 6 "pool_table" ["pool"] Iz:=Lr T
 refine T.lN.fC (λ_ _ _ _ _ _=>gX λ_ _=>rfl) λf fd F=>F.gJ gB (λvs H Q E h=>?_) (λbZ A outer s H vs Q E hr h=>?_)
 ·obtain⟨_,_,_,_,_,_,_,_,_,_,_,rfl,_⟩:=h;rfl
 ·symm
  obtain⟨c,sv,g,nm,ns,tb,kvs,ps,t,b,rs,rfl,co,st,pH,Wj,lk,gl,l4,kF,kN⟩:=h
  nofun
  have nd:=gB.nd
  refine⟨_,(ao (bK (xK (tT (cQ hr) (aF au (pv 1) ag (λ_ _=>rfl)) (cj (pv 0) rfl))) (ar (p7 (cQ hr) (cj (pv 0) rfl) (aF au (pv 1) ag (λ_ _=>rfl)) (bg vx (hr.mono (by decide)) rfl aK.pass (aa (aF au (dD bP T.aM (pv 0) (hr.mono (by decide)) aK.pass (aa (pv 1) ai (se rfl)) (hst:=se rfl) (hpl:=na rfl)) ag (λ_ _=>rfl)) ai (se rfl)) (he:=se rfl) (hpl:=na rfl)) rfl))
   bj)
  (ar (aT (bY (cQ hr) (cj (pv 0) rfl) (aF au (pv 1) ag (λ_ _=>rfl)) (λ_ _=>rfl))))),?_⟩
  have sl:=sizeLine_eq
  symm
  obtain⟨dx,sp,mo,wh,us,DF,h1,h2,h3,h4,h5,h6⟩:=id co
  obtain⟨sa,cl,rfl,tY,jg⟩:=id st
  nofun
  have JS:=bJ _ _ h1
  have lp:∀{a b c d e:V},List.lookup (Str.ofString "what_at") [(Str.ofString "spots",a),(Str.ofString "mosts",b),(Str.ofString "first",c),(Str.ofString "whats",d),(Str.ofString "tables",e)]=none:=eV (by ac_rfl) (by ac_rfl) (by ac_rfl) (by ac_rfl) (by ac_rfl)
  cases hv:eM kvs (Sum.inr nm) with
  | some v=>
   simp_all only[eY,tY]
   refine⟨_,_,_,JS,T.aM,T.na_Course_tables,_,xq,_,rfl,_,.inl ⟨kvs,Sum.inr nm,.inl pH,rfl,hv.symm⟩,?_⟩
   rw[if_neg (by simp)]
   exact⟨_,_,_,JS,T.aM,T.na_Course_tables,_,xq,_,rfl,_,.inl ⟨kvs,Sum.inr nm,.inl pH,rfl,hv.symm⟩,kF v hv⟩
  | none=>
   simp_all only[eY,cZ,tY,iT,Iz,sDPut]
   refine⟨_,_,_,JS,T.aM,T.na_Course_tables,_,xq,_,rfl,_,.inl ⟨kvs,Sum.inr nm,.inl pH,rfl,hv.symm⟩,?_⟩
   rw[if_pos (by rfl)]
   refine⟨_,_,JS,lp,di H tb,bJ,g,co.co,nm,ns,st,_,lk,λu ru=>?_⟩
   symm
   obtain⟨p,x1,x2,x3,x4,rfl,hp,r1,r2,r3,r4⟩:=dq.mp (show Rep _ (.tup _) u from ru)
   obtain⟨a,rfl,pl⟩:=FH r2
   nofun
   refine⟨_,rfl,_,bJ _ _ hp,_,rfl,_,rfl,ps,pl.mono bJ,gl,l4,λp2 H1 s1 n1 rt=>?_⟩
   have ct:c≠tb:=λz=>by rw[z] at h1;unfold di at h1;rw[if_pos rfl] at h1;cases h1
   have sat:sa≠tb:=λz=>by rw[z,pH] at tY;cases tY
   refine⟨_,_,_,s1 _ _ JS,T.aM,T.na_Course_tables,_,xq,_,s1 _ _ tY,_,rfl,_,rfl,_,.inl ⟨kvs,Sum.inr nm,s1 _ _ pH,rfl,by omega,rfl⟩,?_⟩
   rw[qh hv]
   refine⟨_,_,_,by rw[aB ct];exact s1 _ _ JS,T.aM,T.na_Course_tables,_,xq,_,by rw[aB sat];exact s1 _ _ tY,_,rfl,_,rfl,_,.inl ⟨_,Sum.inr nm,.inl aj,rfl,?_⟩,kN hv p2 H1 s1 n1 rt⟩
   rw[w6 hv,if_pos rfl]
theorem gC:aY ["self","state","value","rows"] ["self","state","value"] (aq (inClass (top 36) 7)):=⟨rfl,rfl,rfl,by ac_rfl,rfl,by ac_rfl,by ac_rfl⟩
theorem LP (T:Txt K mg aH aI aE aO af av):cf P w K mg base (bG P w) 4 af "by_value" ["self","state","value"] (IJ af):=by
 have bP:cf P w K mg base (bG P w) 1 af "what_at" ["self","state"] (iT af):=rH T
 have fL:cf P w K mg base (bG P w) 3 af "by_row" ["self","state","row","value"] (wW af):=DG T
 refine T.lM.fC (λ_ _ _ _ _ _=>yr λ_ _ _=>rfl) λf fd F=>F.gJ gC (λvs H Q E h=>?_) (λbZ A outer s H vs Q E hr h=>?_)
 ·obtain⟨_,_,_,_,_,_,_,_,_,_,_,_,_,rfl,_⟩:=h;rfl
 ·symm
  obtain⟨c,sv,v,g,nm,ns,d9,t,b,rs,r,fu,hG,rfl,co,gg,st,ln,lk,ro,ak,kk⟩:=h
  nofun
  have nd:=gC.nd
  refine⟨_,(ao (iK (i:=3) rfl nd rfl rfl (N:=["self","state","value","rows"]) (so:=aq (inClass (top 36) 7)) (N':=["row","value"]) (k:=1) (fr:=[2]) rfl rfl ⟨rfl,by ac_rfl,by ac_rfl,by ac_rfl,rfl,by ac_rfl,by ac_rfl⟩ (bo (K:=K) (aF au (dD bP T.aM (pv 0) (hr.mono (by decide)) aK.pass (aa (pv 1) ai (se rfl)) (hst:=se rfl) (hpl:=na rfl)) ag (λ_ _=>rfl))) (λ_ _ _ _ _=>(aP (i:=0) (show(["row","value"]:List Str).Nodup by ac_rfl) rfl (Or.inl rfl))) (λ_ _ _ _ _=>(uI (BY Gs Gs (aF au (pv 0) ag (λ_ _=>rfl)) (pv 1) (aF au (pv 0) ag (λ_ _=>rfl)))))
   (λ_ _ _ _ _=>(pv 0)))
  (ar (aT (dD fL T.aM (pv 0) (hr.mono (by decide)) aK.pass (aa (pv 1) (aa (aF bw (pv 3) ag (λ_ _=>rfl)) (aa (pv 2) ai (se rfl)) (se rfl)) (se rfl)) (hst:=se rfl) (hpl:=na rfl))))),?_⟩
  have sl:=sizeLine_eq
  symm
  obtain⟨dx,sp,mo,wh,tb,us,DF,h1,h2,h3,h4,h5,h6⟩:=id co
  obtain⟨sa,cl,rfl,tY,jg⟩:=id st
  obtain⟨g0,g1,g2⟩:=gg.wt _ (fc lk)
  nofun
  have lp:∀{a b c d e:V},List.lookup (Str.ofString "what_at") [(Str.ofString "spots",a),(Str.ofString "mosts",b),(Str.ofString "first",c),(Str.ofString "whats",d),(Str.ofString "tables",e)]=none:=eV (by ac_rfl) (by ac_rfl) (by ac_rfl) (by ac_rfl) (by ac_rfl)
  have BI:∀{a b c d e:V},List.lookup (Str.ofString "by_row") [(Str.ofString "spots",a),(Str.ofString "mosts",b),(Str.ofString "first",c),(Str.ofString "whats",d),(Str.ofString "tables",e)]=none:=eV (by ac_rfl) (by ac_rfl) (by ac_rfl) (by ac_rfl) (by ac_rfl)
  change tSeq _ _ _ _ _
  refine bh (λN=>∀H1,aA H H1->∀p xs,H1 p=some (.lst xs)->aZ H (((rs.filter λr=>decide (r.1<=v) && decide (v<=r.2.1)).map BE).map mn) xs->N [some (.ref c),some (.ref sa),some (.int v),some (.ref p)] H1) ?_ (λN hN=>?_)
  case refine_2=>
   simp_all only[cZ,iT]
   refine⟨_,_,h1,lp,H,aA.refl _,g,co,nm,ns,st,_,lk,λu ru=>?_⟩
   symm
   obtain⟨p,x1,x2,x3,x4,rfl,hp,r1,r2,r3,r4⟩:=dq.mp (show Rep H (.tup _) u from ru)
   obtain⟨rl,xs,rfl,vJ,xm⟩:=aS.mp r4
   nofun
   have len:=xm.length
   rw[aad,aad] at len
   have zl:(xs.zip rs).length=xs.length:=by rw[List.length_zip];omega
   refine⟨_,rfl,_,hp,_,rfl,_,rfl,⟨_,bD.of vJ⟩,?_⟩
   have S:Src (Jw K rl) (aA H) xs.length _:=src_list (λH' s'=>bD.of (s' _ _ vJ))
   rw[<-zl] at S
   refine nY (xs.zip rs) (λx=>if (decide (x.2.1<=v) && decide (v<=x.2.2.1))=true then some x.1 else none) S (λ_ _ _ _ h=>h.1) (by omega) ?_ ?_
   ·rintro i ⟨x,r'⟩ y LF ⟨_,ey⟩ Y N3 y1 y2
    obtain⟨e1,e2⟩:=List.getElem?_zip_eq_some.mp LF
    rw[e1] at ey
    cases ey
    symm
    obtain⟨dd,ed,rd⟩:=xm.get e1
    nofun
    rw[aae,aae,e2] at ed
    cases ed
    symm
    obtain⟨p',a',b',c',d',rfl,Ee,q1,q2,q3,q4⟩:=dq.mp (show Rep H (.tup _) x from rd)
    nofun
    rw[show a'=.int r'.1 from ba.mp q1,show b'=.int r'.2.1 from ba.mp q2] at Ee
    simp_all only[Ee]
    by_cases c1:r'.1<=v
    ·rw[if_pos c1]
     by_cases c2:v<=r'.2.1
     ·rw[if_pos c2];exact y1 _ (if_pos (by simp [c1,c2]))
     ·rw[if_neg c2];exact y2 (if_neg (by simp [c2]))
    ·rw[if_neg c1,if_neg (by decide)];exact y2 (if_neg (by simp [c1]))
   ·intro D n1 n2
    exact hN _ (ae n2) D _ aj (uh xm)
  rintro H1 s1 p xs hp xm
  have hd:(rs.filter λr=>decide (r.1<=v) && decide (v<=r.2.1)).head?=some r:=by rw[List.head?_filter];exact ro
  obtain⟨rest,er⟩:∃rest,(rs.filter λr=>decide (r.1<=v) && decide (v<=r.2.1))=r::rest:=by
   cases h:rs.filter λr=>decide (r.1<=v) && decide (v<=r.2.1) with
   | nil=>rw[h] at hd;cases hd
   | cons a l=>rw[h] at hd;cases hd;exact⟨l,rfl⟩
  rw[er] at xm
  symm
  obtain⟨y,ys,rfl,ry,_⟩:=aJ.mp xm
  have Pz:r∈rs:=List.mem_of_find?_eq_some ro
  obtain⟨q1,q2⟩:=g2 r Pz
  nofun
  simp_all only[cZ,wW]
  refine⟨_,_,s1 _ _ h1,BI,_,hp,_,(dj rfl:jV (y::ys) ((0:Nat):Int)=_),g,co.mono s1,gg,nm,ns,st.mono s1,_,_,r.2.2.1,r.2.2.2,ry.mono s1,q2,q1,ln,fu,hG,ak,λp' l' H' s' n1 n2 e1 e2=>kk p' l' H' (s1.trans s') (none_of s1 n1) (none_of s1 n2) e1 e2⟩
theorem kZ:aY ["course","finder","state","table","ways","value","weight"] ["course","finder","state"] (aq (top 38)):=⟨rfl,rfl,rfl,by ac_rfl,rfl,by ac_rfl,by ac_rfl⟩
theorem Ja (T:Txt K mg aH aI aE aO af av):c6 P w K mg base (bG P w) 8 "throw_ways" ["course","finder","state"] (Dx P w af av aE):=by
 have m7:cf P w K mg base (bG P w) 7 af "table_at" ["self","state"] (Dv af):=IZ T
 have m8:cf P w K mg base (bG P w) 4 af "by_value" ["self","state","value"] (IJ af):=LP T
 have cR:cf P w K mg base (bG P w) 1 av "number_of" ["self","state"] (lS P w av aE):=yJ T
 have xr:c6 P w K mg base (bG P w) 3 "bottom_of" ["table"] Dt:=IM T
 have Bx:c6 P w K mg base (bG P w) 1 "weighed" ["table","bottom"] IH:=Lu T
 refine T.uX.fC (λ_ _ _ _ _ _=>yr λ_ _ _=>rfl) λf fd F=>F.Gz kZ (λvs H Q E h=>?_) (λbZ A outer s H vs Q E hr h=>?_)
 ·obtain⟨_,_,_,_,_,_,_,_,_,_,_,_,_,_,_,_,_,rfl,_⟩:=h;rfl
 ·symm
  obtain⟨c,fa,sv,Fr,l,n,tb,g,ss,st,ts,d9,t,b,rs,SS,m,rfl,co,gg,fi,LQ,LR,fr,vK,ln,lk,go,xa,kM,kk⟩:=h
  nofun
  have nd:=kZ.nd
  have yG:A.handled=none:=hr.hd
  refine⟨_,(ao (aR (i:=3) nd rfl (Or.inl rfl) (dD m7 T.aM (pv 0) (hr.mono (by decide)) aK.pass (aa (pv 2) ai (se rfl)) (hst:=se rfl) (hpl:=na rfl)))
  (ao (aR (i:=4) nd rfl (Or.inl rfl) (bI ai))
  (ao (cY PassesOwn.leaving rfl (bo (K:=K) (bg Bx (hr.mono (by decide)) rfl aK.pass (aa (pv 3) (aa (bg xr (hr.mono (by decide)) rfl aK.pass (aa (pv 3) ai (se rfl)) (he:=se rfl) (hpl:=na rfl)) ai (se rfl)) (se rfl)) (he:=se rfl) (hpl:=na rfl))) (c9 (K:=K) (n:=2) rfl (bf (aP (i:=5) nd rfl (Or.inl rfl)) (bf (aP (i:=6) nd rfl (Or.inl rfl)) c8))) (ar (bR (eZ aaz aaD aaE b9.r (pv 4) (aa (aX (aa (pv 6) (aa (dD cR T.bT (pv 1) (hr.mono (by decide)) mE (aa (dD m8 T.aM (pv 0) (hr.mono (by decide)) aK.pass (aa (pv 2) (aa (pv 5) ai (se rfl)) (se rfl)) (hst:=se rfl) (hpl:=na rfl)) ai (se rfl)) (hst:=se rfl) (hpl:=na rfl)) ai (se rfl)) (se rfl))) ai (se rfl))))))
  (ar (aT (pv 4)))))),?_⟩
  refine(?_:let cI:TS:=_;let cJ:TS:=_;let cK:TS:=_;let eC:TS:=_;tSeq cI (tSeq cJ (tSeq cK eC)) _ _ _)
  intro cI cJ cK eC
  have sl:=sizeLine_eq
  unfold c5 at go
  rw[lk] at go
  symm
  obtain⟨ps,B,rfl,gl,l4,Zj,tl,al⟩:=go
  obtain⟨dx,sp,mo,wh,us,DF,h1,h2,h3,h4,h5,h6⟩:=id co
  obtain⟨JR,Wh,Wi,f1,f2,f3,f4,f5,f6,f7,f8⟩:=id fi
  obtain⟨sa,cl,rfl,tY,jg⟩:=id vK
  obtain⟨kvs,pH,Zk,tabs⟩:=id LQ
  nofun
  have PB:=ua gl
  have tl1:(gY ps).length<=1296:=PB.2.2.1
  have lp:∀{a b c d e:V},List.lookup (Str.ofString "table_at") [(Str.ofString "spots",a),(Str.ofString "mosts",b),(Str.ofString "first",c),(Str.ofString "whats",d),(Str.ofString "tables",e)]=none:=eV (by ac_rfl) (by ac_rfl) (by ac_rfl) (by ac_rfl) (by ac_rfl)
  have BI:∀{a b c d e:V},List.lookup (Str.ofString "by_value") [(Str.ofString "spots",a),(Str.ofString "mosts",b),(Str.ofString "first",c),(Str.ofString "whats",d),(Str.ofString "tables",e)]=none:=eV (by ac_rfl) (by ac_rfl) (by ac_rfl) (by ac_rfl) (by ac_rfl)
  have Pp:∀{a b:V},List.lookup (Str.ofString "number_of") [(Str.ofString "states",a),(Str.ofString "numbers",b)]=none:=yx (by ac_rfl) (by ac_rfl)
  change tSeq _ _ _ _ _
  refine bh (λN=>∀H1 u,aA (cF H l n tb) (cF H1 l n tb)->lR P w av Fr H1 fa l n ss->Bo H1 (cF H1 l n tb) tb g (m+1) Fr->(∀a,H1 a=none->H a=none)->Rep (cF H1 l n tb) (kI (gY ps)) u->N [some (.ref c),some (.ref fa),some (.ref sa),some u,none,none,none] H1) ?_ (λN hN=>?_)
  case refine_2=>
   simp_all only[cZ,Dv]
   refine⟨_,_,cO _ _ h1,lp,g,st.1,st.2,tb,co.mono Dr,vK.mono cO,kvs,pH,by omega,ps,t,b,rs,lk,gl,l4,λv hv=>?_,λhv p H1 s1 np rt=>?_⟩
   ·symm
    obtain⟨Br,t',b',GY,mq,_,rep⟩:=tabs _ _ hv
    nofun
    rw[lk] at mq
    injection mq with mq
    injection mq with mq _ _ _
    rw[<-vf mq] at rep
    exact hN _ v (aA.refl _) fi (LQ.mono (aA.refl _) (by omega)) (λ_ h=>h) rep
   ·have sT:aA (di H tb) (di (upd H1 tb (.dK (kvs++ [(Sum.inr st.1,V.ref p)]))) tb):=by rw[mT];exact bH s1
    have s3:=FG (l:=l) (n:=n) sT
    have kt:∀a vs,H1 a=some (.tup vs)->cF (upd H1 tb (.dK (kvs++ [(Sum.inr st.1,V.ref p)]))) l n tb a=some (.tup vs):=λa vs e=>by
     have e1:a≠l:=λz=>by rw[z,s1 _ _ f3] at e;cases e
     have e2:a≠n:=λz=>by rw[z,s1 _ _ f5] at e;cases e
     have e3:a≠tb:=λz=>by rw[z,s1 _ _ pH] at e;cases e
     rw[cW e1 e2 e3,aB e3]
     exact e
    have kp:∀o,H1 p=some o->cF (upd H1 tb (.dK (kvs++ [(Sum.inr st.1,V.ref p)]))) l n tb p=some o:=λo e=>by
     have e1:p≠l:=λz=>by rw[z,f3] at np;cases np
     have e2:p≠n:=λz=>by rw[z,f5] at np;cases np
     have e3:p≠tb:=λz=>by rw[z,pH] at np;cases np
     rw[cW e1 e2 e3,aB e3]
     exact e
    have Wk:=Af rt kp kt
    refine hN _ (.ref p) s3 (fi.tb sT pH) ⟨_,aj,by rw[aah,aaM];omega,λnm v e=>?_⟩ (λa ha=>?_) Wk
    ·rw[w6 hv] at e
     by_cases z:(Sum.inr st.1:Key)=Sum.inr nm
     ·rw[if_pos z] at e
      injection z with z
      injection e with e
      subst e
      exact⟨ps,t,b,rs,z▸lk,⟨p,rfl,fr p np⟩,Wk⟩
     ·rw[if_neg z] at e
      symm
      obtain⟨Br,t',b',GY,a1,fp,a2⟩:=tabs nm v e
      nofun
      exact⟨Br,t',b',GY,a1,fp,a2.mono s3⟩
    ·have z:a≠tb:=λz=>by rw[z,aj] at ha;cases ha
     rw[aB z] at ha
     exact none_of s1 ha
  rintro H1 u s1 GZ NH Wl ru
  symm
  obtain⟨FX,jc,PD,LS⟩:=id NH
  obtain⟨dxg,Wm,Wn,g1,g2,g3,g4,g5,g6,g7,g8⟩:=id GZ
  nofun
  change tSeq _ _ _ _ _
  refine bh (λN=>∀H2,aA H1 H2->∀w',H1 w'=none->H2 w'=some (.lst [])->N [some (.ref c),some (.ref fa),some (.ref sa),some u,some (.ref w'),none,none] H2) ?_ (λN hN=>?_)
  case refine_2=>
   simp_all only[]
   exact⟨aak _,λw' nw=>hN _ (ae nw) w' nw aj⟩
  rintro H2 s2 w' nw Wo
  simp_all only[Dt,IH]
  refine⟨_,(ru.mono cO).mono s2,_,PB,λB' H3 s3 LU=>?_⟩
  have eB:=wZ LU Zj
  subst eB
  refine⟨_,(ru.mono cO).mono (s2.trans s3),_,PB,LU,λwl H4 s4 Ek r4=>?_⟩
  have El:aA H1 H4:=s2.trans (s3.trans s4)
  have BK:aA H1 H3:=s2.trans s3
  have PF:w'≠l:=λz=>by rw[z,g3] at nw;cases nw
  have Wp:w'≠n:=λz=>by rw[z,g5] at nw;cases nw
  have Wq:w'≠tb:=λz=>by rw[z,jc] at nw;cases nw
  have Wr:H4 w'=some (.lst []):=(s3.trans s4) _ _ Wo
  let X:Hp->Hp:=λH'=>di (cF H' l n tb) w'
  have FY:∀{H':Hp} {a:Addr},a≠l->a≠n->a≠tb->a≠w'->X H' a=H' a:=λh1 h2 h3 h4=>by
   show di (cF _ l n tb) w' _=_
   rw[bM h4,cW h1 h2 h3]
  have Wu:∀{H':Hp} {a:Addr} {o:HO},X H' a=some o->a≠l/\a≠n/\a≠tb/\a≠w':=λ{H' a o} e=>by
   have h4:a≠w':=λz=>by
    have e:(if a=w' then none else cF H' l n tb a)=some o:=e
    rw[if_pos z] at e
    cases e
   have e:di (cF H' l n tb) w' a=some o:=e
   rw[bM h4] at e
   symm
   obtain⟨h1,h2,h3⟩:=gu e
   nofun
   exact⟨h1,h2,h3,h4⟩
  have DK:∀{H':Hp},aA (X H') H':=bJ.trans cO
  have LV:aA (cF H1 l n tb) (X H4):=λa o e=>by
   symm
   obtain⟨e1,e2,e3⟩:=gu e
   nofun
   rw[cW e1 e2 e3] at e
   rw[FY e1 e2 e3 (λz=>by rw[z,nw] at e;cases e)]
   exact El _ _ e
  have Zl:Rep (X H4) (ji (Nm.weigh (gY ps) B')) (.ref wl):=by
   refine Ds r4 (λo e=>?_) λa vs e=>?_
   ·rw[FY (λz=>by rw[z,BK _ _ g3] at Ek;cases Ek) (λz=>by rw[z,BK _ _ g5] at Ek;cases Ek) (λz=>by rw[z,BK _ _ jc] at Ek;cases Ek) (λz=>by rw[z,s3 _ _ Wo] at Ek;cases Ek)]
    exact e
   ·rw[FY (λz=>by rw[z,El _ _ g3] at e;cases e) (λz=>by rw[z,El _ _ g5] at e;cases e) (λz=>by rw[z,El _ _ jc] at e;cases e) (λz=>by rw[z,Wr] at e;cases e)]
    exact e
  symm
  obtain⟨_,zs,ez,D3,rz⟩:=aS.mp Zl
  nofun
  cases ez
  have zl:=rz.length
  rw[aad] at zl
  have PJ:(Nm.weigh (gY ps) B').length=(gY ps).length:=by unfold Nm.weigh;rw[aad]
  let IE:Addr->Prop:=λa=>Fr a/\a≠w'
  refine⟨⟨_,bD.of (DK _ _ D3)⟩,cD (src_list (Ok:=λH'=>X H' wl=some (.lst zs)) (λH' k=>bD.of (DK _ _ k))) (λi σ H'=>aA (X H4) (X H')/\lR P w av IE H' fa l n (aQ ss (fK (ts.take i)))/\H' tb=some (.dK FX)/\(∃xs,H' w'=some (.lst xs)/\xs.length=i/\(120< (aQ ss (fK ts)).length\/aZ (X H') ((ts.take i).map (Bn SS)) xs))/\∃z1 z2,σ=[some (.ref c),some (.ref fa),some (.ref sa),some u,some (.ref w'),z1,z2]) ⟨aA.refl _,(GZ.fr λa o ha h0=>⟨h0,(λz=>by rw[z,nw] at ha;cases ha)⟩).mono El,El _ _ jc,⟨[],Wr,rfl,.inr (bu.mpr rfl)⟩,_,_,rfl⟩ (λ_ _ _ _ h=>h.1 _ _ D3) ?_ ?_⟩
  ·intro i x σ H6 H5 hi iu fE
   symm
   obtain⟨sX,By,xt,⟨xs,LW,xl,rx⟩,z1,z2,rfl⟩:=iu
   obtain⟨rfl,ex⟩:=fE
   obtain⟨dd,ed,rd⟩:=rz.get ex
   rw[aae] at ed
   obtain⟨x0,e0,rfl⟩:=Option.map_eq_some_iff.mp ed
   obtain⟨q,rfl,hq⟩:=d8.mp rd
   obtain⟨r,s',ro,et,gt,E2⟩:=al i x0 e0
   nofun
   unfold Ec at gt
   symm
   obtain⟨hG,ak,e9⟩:=Option.map_eq_some_iff.mp gt
   subst e9
   have Jb:aA (X H4) H5:=sX.trans DK
   have PK:aA (cF H l n tb) H5:=s1.trans (LV.trans Jb)
   obtain⟨dx5,xs5,ks5,u1,u2,u3,u4,u5,u6,u7,u8⟩:=id By
   nofun
   have tk:ts.take (i+1)=ts.take i++ [(x0.2,(hG,r.2.2.1.foldl (gZ g.cs x0.1) st.2))]:=by rw[aaC,et];rfl
   have ea:aQ ss (fK (ts.take (i+1)))=eX (aQ ss (fK (ts.take i))) (hG,r.2.2.1.foldl (gZ g.cs x0.1) st.2):=by
    rw[tk]
    unfold aQ fK
    rw[aan,aa3]
    rfl
   have ah:pT (aQ ss (fK (ts.take (i+1)))) (aQ ss (fK ts)):=by
    have:=eO (fK (ts.drop (i+1))) (aQ ss (fK (ts.take (i+1))))
    unfold aQ fK at this ⊢
    rw[<-aa3,<-aan,List.take_append_drop] at this
    exact this
   have ty:EL K "list" (.ref w') H5:=.inl ⟨rfl,_,bD.of LW⟩
   refine⟨q,_,rfl,gh.of (Jb _ _ hq),rfl,?_⟩
   have G0:∀{H':Hp} {o:HO},X (upd H' w' o)=X H':=λ{H' o}=>by
    funext a
    show(if a=w' then none else (if a=tb then none else if a=n then none else if a=l then none else upd H' w' o a))=if a=w' then none else (if a=tb then none else if a=n then none else if a=l then none else H' a)
    by_cases z:a=w'
    ·rw[if_pos z,if_pos z]
    ·rw[if_neg z,if_neg z,aB z]
   have yP:∀{H' Bs:Hp},aA H' Bs->aA (X H') (X Bs):=λs=>bH (bH (bx s))
   simp_all only[cZ,IJ,lS,cH]
   refine⟨ty,_,_,aN _ _ u1,Pp,_,_,PK _ _ h1,BI,g,(co.mono PK).co,gg,st.1,st.2,vK.mono PK,ln,_,_,_,_,lk,r,ro,_,hG,ak,λa b' H7 s7 na nb e1 e2=>?_⟩
   have LO:a≠l:=λz=>by rw[z,u3] at na;cases na
   have IX:a≠n:=λz=>by rw[z,u5] at na;cases na
   have Ei:b'≠l:=λz=>by rw[z,u3] at nb;cases nb
   have IY:b'≠n:=λz=>by rw[z,u5] at nb;cases nb
   have Zm:b'≠tb:=λz=>by rw[z,xt] at nb;cases nb
   have Zn:b'≠w':=λz=>by rw[z,LW] at nb;cases nb
   have Pq:IE b':=⟨fr b' (Wl b' (by
    cases h0:H1 b' with
    | none=>rfl
    | some o=>rw[(LV.trans Jb) _ _ (by rw[cW Ei IY Zm];exact h0)] at nb;cases nb)),Zn⟩
   have Pu:Ae IE (bS H7 l n) (.ref a) hG (r.2.2.1.foldl (gZ g.cs x0.1) st.2):=⟨a,b',rfl,by rw[cu LO IX];exact e1,by rw[cu Ei IY];exact e2,Pq⟩
   have Pw:(r.2.2.1.foldl (gZ g.cs x0.1) st.2).length<=100:=by rw[fy,ln];exact gg.lc
   refine⟨IE,l,n,_,By.mono s7,(hG,_),Pu,E2,Pw,λyd full H8 s8=>kM ?_ _ (s1.trans (LV.trans (sX.trans ((yP (s7.trans s8)).trans bJ)))),λ_ H8 s8 Wv=>⟨by omega,λe H9 s9 ne ee=>?_⟩⟩
   ·refine aat ?_ ah.len
    rw[ea]
    unfold eX
    rw[if_neg yd,aah,full,aaM]
    decide
   have zj:tb≠l:=λz=>by rw[z,g3] at jc;cases jc
   have LX:tb≠n:=λz=>by rw[z,g5] at jc;cases jc
   have LY:H8 tb=some (.dK FX):=aN _ _ (s8 _ _ (by rw[cu zj LX];exact s7 _ _ xt))
   have PL:H8 w'=some (.lst xs):=aN _ _ (s8 _ _ (by rw[cu PF Wp];exact s7 _ _ LW))
   symm
   obtain⟨dx8,xs8,ks8,v1,v2,v3,v4,v5,v6,v7,v8⟩:=id Wv
   nofun
   have Ww:aA (X H5) (X H9):=(yP s7).trans ((bH (bH s8)).trans (yP s9))
   have mem:(hG,r.2.2.1.foldl (gZ g.cs x0.1) st.2)∈aQ ss (fK (ts.take (i+1))):=by rw[ea];exact rh _ _
   have PM:¬120< (aQ ss (fK ts)).length->SS.idxOf (hG,r.2.2.1.foldl (gZ g.cs x0.1) st.2)=(aQ ss (fK (ts.take i))).idxOf (hG,r.2.2.1.foldl (gZ g.cs x0.1) st.2):=λc=>by rw[(ah.trans (xa (by omega))).idx mem,ea,rj]
   refine⟨_,s9 _ _ PL,by omega,by change aA (X _) (X _);rw[G0];exact sX.trans Ww,by rw[ea];exact(Wv.mono s9).K4 (λa h=>h.2) (s9 _ _ PL) PF,by rw[aB (Ne.symm Wq)];exact s9 _ _ LY,⟨_,aj,by rw[aah,xl];rfl,?_⟩,_,rfl⟩
   by_cases c:120< (aQ ss (fK ts)).length
   ·exact .inl c
   refine .inr ?_
   change aZ (X _) _ _
   rw[G0,tk,aan]
   refine((rx.resolve_left c).mono Ww).append (aJ.mpr ⟨_,_,rfl,bq.mpr ⟨e,_,_,rfl,?_,ba.mpr rfl,ba.mpr (by rw[PM c])⟩,bu.mpr rfl⟩)
   rw[FY (λz=>by rw[z,v3] at ne;cases ne) (λz=>by rw[z,v5] at ne;cases ne) (λz=>by rw[z,LY] at ne;cases ne) (λz=>by rw[z,PL] at ne;cases ne)]
   exact ee
  ·intro σ H5 dF
   symm
   obtain⟨sX,By,xt,⟨xs,LW,xl,rx⟩,z1,z2,rfl⟩:=dF
   nofun
   rw[<-zl,PJ,<-tl,aau (aaf _)] at By rx
   have le:(aQ ss (fK ts)).length<=120:=by obtain⟨_,_,_,_,_,_,_,_,_,_,u8⟩:=id By;exact u8
   have rx:=rx.resolve_left (by omega)
   simp_all only[]
   refine kk le w' H5 (s1.trans (LV.trans (sX.trans bJ))) (By.fr λa o _ h=>h.1) ?_ (Wl _ nw) (aS.mpr ⟨w',xs,rfl,by rw[cW PF Wp Wq];exact LW,rx.mono bJ⟩)
   exact⟨FX,xt,PD,λnm v e=>by obtain⟨Br,t',b',GY,a1,fp,a2⟩:=LS nm v e;exact⟨Br,t',b',GY,a1,fp,a2.mono (LV.trans (sX.trans bJ))⟩⟩
theorem pI:aY ["course","finder","state","what"] ["course","finder","state"] (aq (top 40)):=⟨rfl,rfl,rfl,by ac_rfl,rfl,by ac_rfl,by ac_rfl⟩
theorem LZ (T:Txt K mg aH aI aE aO af av):c6 P w K mg base (bG P w) 9 "taken_up" ["course","finder","state"] (Ah P w af av aO aE):=by
 have bP:cf P w K mg base (bG P w) 1 af "what_at" ["self","state"] (iT af):=rH T
 have lW:cf P w K mg base (bG P w) 2 af "end_worth" ["self","state"] (Ac af):=IU T
 have xu:c6 P w K mg base (bG P w) 4 "pick_ways" ["course","finder","state"] (Ag P w af av aO aE):=IV T
 have vy:c6 P w K mg base (bG P w) 8 "throw_ways" ["course","finder","state"] (Dx P w af av aE):=Ja T
 refine T.yq.fC (λ_ _ _ _ _ _=>yr λ_ _ _=>rfl) λf fd F=>F.Gz pI (λvs H Q E h=>?_) (λbZ A outer s H vs Q E hr h=>?_)
 ·obtain⟨_,_,_,_,_,_,_,_,_,_,_,rfl,_⟩:=h;rfl
 ·symm
  obtain⟨c,fa,sv,Fr,l,n,tb,g,ss,st,m,rfl,G1,gg,fi,LQ,LR,fr,L0,ln,kE,kQ⟩:=h
  nofun
  have co:vI af (bS H l n) c g:=(G1.mono bJ).co
  have vK:xG (bS H l n) sv st.1 st.2:=L0.mono bJ
  have nd:=pI.nd
  have yG:A.handled=none:=hr.hd
  refine⟨_,(ao (aR (i:=3) nd rfl (Or.inl rfl) (dD bP T.aM (pv 0) (hr.mono (by decide)) aK.pass (aa (pv 2) ai (se rfl)) (hst:=se rfl) (hpl:=na rfl)))
  (ao (bK (aU cA (aF au (pv 3) ag (λ_ _=>rfl)) aG (bb _)) (ar (aT (aX (aa aG (aa (aF au (pv 3) ag (λ_ _=>rfl)) (aa (bg vy (hr.mono (by decide)) rfl mE (aa (pv 0) (aa (pv 1) (aa (pv 2) ai (se rfl)) (se rfl)) (se rfl)) (he:=se rfl) (hpl:=na rfl)) ai (se rfl)) (se rfl)) (se rfl)))))
   bj)
  (ao (bK (aU cA (aF au (pv 3) ag (λ_ _=>rfl)) aG (bb _)) (ar (aT (aX (aa aG (aa (aF au (pv 3) ag (λ_ _=>rfl)) (aa (bg xu (hr.mono (by decide)) rfl mE (aa (pv 0) (aa (pv 1) (aa (pv 2) ai (se rfl)) (se rfl)) (se rfl)) (he:=se rfl) (hpl:=na rfl)) ai (se rfl)) (se rfl)) (se rfl)))))
   bj)
  (ar (aT (aX (aa aG (aa (dD lW T.aM (pv 0) (hr.mono (by decide)) aK.pass (aa (pv 2) ai (se rfl)) (hst:=se rfl) (hpl:=na rfl)) ai (se rfl)) (se rfl)))))))),?_⟩
  refine(?_:let cI:TS:=_;let cJ:TS:=_;let cK:TS:=_;let eC:TS:=_;tSeq cI (tSeq cJ (tSeq cK eC)) _ _ _)
  intro cI cJ cK eC
  have sl:=sizeLine_eq
  symm
  obtain⟨kvs,pH,Zk,tabs⟩:=id LQ
  obtain⟨dx,sp,mo,wh,tb0,us,DF,h1,h2,h3,h4,h5,h6⟩:=id co
  obtain⟨JR,Wh,Wi,f1,f2,f3,f4,f5,f6,f7,f8⟩:=id fi
  obtain⟨sa,cl,rfl,tY,jg⟩:=id vK
  nofun
  have zj:tb≠l:=λz=>by rw[z,f3] at pH;cases pH
  have LX:tb≠n:=λz=>by rw[z,f5] at pH;cases pH
  have G3:∀{H':Hp},aA (bS H l n) (bS H' l n)->Bo H' (cF H' l n tb) tb g (m+1) Fr:=λ{H'} s=>⟨kvs,aN _ _ (s _ _ (by rw[cu zj LX];exact pH)),by omega,λnm v e=>by obtain⟨Br,t',b',GY,a1,fp,a2⟩:=tabs nm v e;exact⟨Br,t',b',GY,a1,fp,a2.mono (bH s)⟩⟩
  by_cases sk:kO g st
  case pos=>
   have Zo:∀{a b c d e:V},List.lookup (Str.ofString "what_at") [(Str.ofString "spots",a),(Str.ofString "mosts",b),(Str.ofString "first",c),(Str.ofString "whats",d),(Str.ofString "tables",e)]=none:=eV (by ac_rfl) (by ac_rfl) (by ac_rfl) (by ac_rfl) (by ac_rfl)
   symm
   obtain⟨wo,rs,lk,ne⟩:=id sk
   nofun
   change tSeq _ _ _ _ _
   refine bh (λN=>∀u,Rep (bS H l n) (ub (.pick wo rs)) u->N [some (.ref c),some (.ref fa),some (.ref sa),some u] H) ?_ (λN hN=>?_)
   case refine_2=>
    simp_all only[cZ,iT]
    exact⟨_,_,aN _ _ h1,Zo,bS H l n,aN,g,co,st.1,st.2,vK.mono aN,_,lk,λu ru=>hN u ru⟩
   rintro u ru
   symm
   obtain⟨p,x1,x2,x3,rfl,hp,r1,r2,r3⟩:=cM.mp (show Rep _ (.tup _) u from ru)
   rw[aD] at r1
   rw[ba] at r2
   subst r1 r2
   nofun
   simp_all only[aN _ _ hp,Ag]
   rw[if_neg (by ac_rfl)]
   exact⟨Fr,l,n,g,co,gg,ss,fi,fr,st,vK,ln,wo,rs,lk,λ_=>kE sk,λz=>absurd ne z⟩
  symm
  obtain⟨ts,SS,go,xa,kM,kk⟩:=kQ sk
  nofun
  have Zp:=go
  unfold c5 at go
  have lp:∀{a b c d e:V},List.lookup (Str.ofString "what_at") [(Str.ofString "spots",a),(Str.ofString "mosts",b),(Str.ofString "first",c),(Str.ofString "whats",d),(Str.ofString "tables",e)]=none:=eV (by ac_rfl) (by ac_rfl) (by ac_rfl) (by ac_rfl) (by ac_rfl)
  have BI:∀{a b c d e:V},List.lookup (Str.ofString "end_worth") [(Str.ofString "spots",a),(Str.ofString "mosts",b),(Str.ofString "first",c),(Str.ofString "whats",d),(Str.ofString "tables",e)]=none:=eV (by ac_rfl) (by ac_rfl) (by ac_rfl) (by ac_rfl) (by ac_rfl)
  have L1:∀x t b,look g.ps st.1=some x->ts=[]->FC g.cs st.2 x=some (t,b)->(∀wo rs,x≠.pick wo rs)->∀p u H1,aA H H1->H p=none->H1 p=some (.tup [.str (Str.ofString "end"),u])->Rep H1 (.tup [.int t,.int b]) u->Q (.ref p) H1:=by
   intro x t b lk e0 ew np p u H1 s1 n1 e1 r1
   subst e0
   refine kk f8 _ H1 (bH (bx s1)) (fi.mono s1) (G3 (bx s1)) λb' ys hb=>?_
   have rd:mV g SS st []=.tup [.str (Str.ofString "end"),.tup [.int t,.int b]]:=by
    unfold mV ox
    rw[lk]
    cases x with
    | pick wo rs=>exact absurd rfl (np wo rs)
    | fin _ _=>simp only[ew];rfl
    | score _=>simp only[ew];rfl
    | ask _ _ _ _=>cases ew
    | fx _ _ _ _=>cases ew
   rw[rd]
   symm
   obtain⟨q,y1,y2,rfl,hq,z1,z2⟩:=bq.mp r1
   nofun
   have tp:∀a vs,H1 a=some (.tup vs)->di (cF H1 l n tb) b' a=some (.tup vs):=λa vs ha=>by
    have al:a≠l:=λz=>by rw[z,s1 _ _ f3] at ha;cases ha
    have an:a≠n:=λz=>by rw[z,s1 _ _ f5] at ha;cases ha
    have ab:a≠b':=λz=>by rw[z,s1 _ _ hb] at ha;cases ha
    have at':a≠tb:=λz=>by rw[z,s1 _ _ pH] at ha;cases ha
    rw[bM ab,cW al an at']
    exact ha
   exact⟨bq.mpr ⟨p,_,_,rfl,tp _ _ e1,aD.mpr rfl,bq.mpr ⟨q,y1,y2,rfl,tp _ _ hq,ba.mpr (ba.mp z1),ba.mpr (ba.mp z2)⟩⟩,p,_,rfl,tp _ _ e1,λx y w e=>by simp at e⟩
  cases lk:look g.ps st.1 with
  | none=>rw[lk] at go;exact go.elim
  | some x=>
  rw[lk] at go
  change tSeq _ _ _ _ _
  refine bh (λN=>∀u,Rep (bS H l n) (ub x) u->N [some (.ref c),some (.ref fa),some (.ref sa),some u] H) ?_ (λN hN=>?_)
  case refine_2=>
   simp_all only[cZ,iT]
   exact⟨_,_,aN _ _ h1,lp,bS H l n,aN,g,co,st.1,st.2,vK.mono aN,x,lk,λu ru=>hN u ru⟩
  rintro u ru
  cases x with
  | pick wo rs=>
   symm
   obtain⟨p,x1,x2,x3,rfl,hp,r1,r2,r3⟩:=cM.mp (show Rep _ (.tup _) u from ru)
   rw[aD] at r1
   rw[ba] at r2
   subst r1 r2
   nofun
   simp_all only[aN _ _ hp,Ag]
   rw[if_neg (by ac_rfl)]
   refine⟨Fr,l,n,g,co,gg,ss,fi,fr,st,vK,ln,wo,rs,lk,(λz=>absurd ⟨wo,rs,lk,z⟩ sk),λ_=>⟨fK ts,go,SS,xa,λc H1 s1=>kM c _ (bH s1),λle p' H1 s1 GZ DA Ee=>⟨by omega,λp2 H2 s2 n2 e2=>kk le _ H2 (bH (s1.trans (bx s2))) (GZ.mono s2) (G3 (s1.trans (bx s2))) λb ys hb=>?_⟩⟩⟩
   symm
   obtain⟨Zq,Wm,Wn,u1,u2,u3,u4,u5,u6,u7,u8⟩:=id GZ
   nofun
   have rd:mV g SS st ts=.tup [.str (Str.ofString "pick"),.int wo,.lst ((fK ts).map λt=>.int ((SS.idxOf t:Nat):Int))]:=by
    unfold mV ox
    rw[lk]
    rfl
   rw[rd]
   have FZ:∃o,H1 b=some o:=by
    by_cases z:b=l
    ·exact⟨_,z▸u3⟩
    ·exact⟨_,aN _ _ (s1 _ _ (by rw[cu z (λz=>by rw[z,f5] at hb;cases hb)];exact hb))⟩
   obtain⟨o,FZ⟩:=FZ
   have pb:p'≠b:=λz=>by rw[z,hb] at DA;cases DA
   have L3:p2≠b:=λz=>by rw[z,FZ] at n2;cases n2
   have L4:p2≠l:=λz=>by rw[z,u3] at n2;cases n2
   have jc:H1 tb=some (.dK kvs):=aN _ _ (s1 _ _ (by rw[cu zj LX];exact pH))
   have L5:p2≠tb:=λz=>by rw[z,jc] at n2;cases n2
   have pt:p'≠tb:=λz=>by rw[z,pH] at DA;cases DA
   have L6:p2≠n:=λz=>by rw[z,u5] at n2;cases n2
   refine⟨?_,p2,_,rfl,by rw[bM L3,cW L4 L6 L5];exact e2,λx y w e=>by simp only[List.cons.injEq,V.ref.injEq] at e;obtain⟨_,_,e,_⟩:=e;exact e▸DA⟩
   refine cM.mpr ⟨p2,_,_,_,rfl,by rw[bM L3,cW L4 L6 L5];exact e2,aD.mpr rfl,ba.mpr rfl,aS.mpr ⟨p',_,rfl,by rw[bM pb];show di (bS H2 l n) tb p'=_;rw[bM pt];exact bx s2 _ _ Ee,?_⟩⟩
   have e:((fK ts).map λt=>V.int ((SS.idxOf t:Nat):Int))=((fK ts).map λt=>((SS.idxOf t:Nat):Int)).map V.int:=by rw[aas];rfl
   have e':((fK ts).map λt=>Dat.int ((SS.idxOf t:Nat):Int))=((fK ts).map λt=>((SS.idxOf t:Nat):Int)).map Dat.int:=by rw[aas];rfl
   rw[e,e']
   exact aZ.ints _
  | fin t b=>
   symm
   obtain⟨p,x1,x2,rfl,hp,r1,r2⟩:=bq.mp (show Rep _ (.tup _) u from ru)
   rw[aD] at r1
   subst r1
   nofun
   simp_all only[aN _ _ hp,cZ,Ac]
   rw[if_neg (by ac_rfl),if_neg (by ac_rfl)]
   refine⟨_,_,aN _ _ h1,BI,g,co.mono aN,gg,st.1,st.2,vK.mono aN,ln,_,lk,_,_,rfl,λu H1 s1 r1=>⟨by omega,λp2 H2 s2 n2 e2=>L1 _ _ _ lk go rfl (λ_ _ z=>by cases z) p2 u H2 (s1.trans s2) (none_of s1 n2) e2 (r1.mono s2)⟩⟩
  | score cn=>
   symm
   obtain⟨p,x1,x2,rfl,hp,r1,r2⟩:=bq.mp (show Rep _ (.tup _) u from ru)
   rw[aD] at r1
   subst r1
   nofun
   simp_all only[aN _ _ hp,cZ,Ac]
   rw[if_neg (by ac_rfl),if_neg (by ac_rfl)]
   refine⟨_,_,aN _ _ h1,BI,g,co.mono aN,gg,st.1,st.2,vK.mono aN,ln,_,lk,_,_,rfl,λu H1 s1 r1=>⟨by omega,λp2 H2 s2 n2 e2=>L1 _ _ _ lk go rfl (λ_ _ z=>by cases z) p2 u H2 (s1.trans s2) (none_of s1 n2) e2 (r1.mono s2)⟩⟩
  | ask _ _ _ _=>exact go.elim
  | fx d9 t b rs=>
   symm
   obtain⟨p,x1,x2,x3,x4,rfl,hp,r1,r2,r3,r4⟩:=dq.mp (show Rep _ (.tup _) u from ru)
   rw[aD] at r1
   subst r1
   nofun
   simp_all only[aN _ _ hp,Dx]
   refine⟨Fr,l,n,tb,g,G1,gg,ss,fi,st,ts,d9,t,b,rs,SS,m,LQ,LR,fr,L0,ln,lk,Zp,xa,kM,λle p' H1 s1 GZ NH DA Zr=>⟨by omega,λp2 H2 s2 n2 e2=>kk le _ H2 (s1.trans (bH (bx s2))) (GZ.mono s2) ((NH.heap λ_ h=>s2 _ _ h).mono (bH (bx s2)) (aaf _)) λb' ys hb=>?_⟩⟩
   symm
   obtain⟨Zq,Wm,Wn,u1,u2,u3,u4,u5,u6,u7,u8⟩:=id GZ
   obtain⟨FX,jc,_,_⟩:=id NH
   nofun
   have rd:mV g SS st ts=.tup [.str (Str.ofString "throw"),.tup [.int t,.int b],.lst (ts.map (Bn SS))]:=by
    unfold mV
    rw[lk]
   rw[rd]
   have b1:∀{a vs},cF H1 l n tb a=some (.tup vs)->di (cF H2 l n tb) b' a=some (.tup vs):=λ{a vs} ha=>by
    symm
    obtain⟨e1,e2,e3⟩:=gu ha
    nofun
    have ab:a≠b':=λz=>by
     subst z
     have:=s1 _ _ (by rw[cW e1 e2 e3];exact hb)
     rw[this] at ha
     cases ha
    rw[bM ab]
    exact bH (bx s2) _ _ ha
   have FZ:∃o,H1 b'=some o:=by
    by_cases z:b'=l
    ·exact⟨_,z▸u3⟩
    ·exact⟨_,cO _ _ (s1 _ _ (by rw[cW z (λz=>by rw[z,f5] at hb;cases hb) (λz=>by rw[z,pH] at hb;cases hb)];exact hb))⟩
   obtain⟨o,FZ⟩:=FZ
   have L3:p2≠b':=λz=>by rw[z,FZ] at n2;cases n2
   have L4:p2≠l:=λz=>by rw[z,u3] at n2;cases n2
   have L6:p2≠n:=λz=>by rw[z,u5] at n2;cases n2
   have L5:p2≠tb:=λz=>by rw[z,jc] at n2;cases n2
   have pb:p'≠b':=λz=>by rw[z,hb] at DA;cases DA
   symm
   obtain⟨pa,y1,y2,rfl,Wx,q1,q2⟩:=bq.mp r3
   have PN:cF H l n tb pa=some (.tup [y1,y2]):=by
    show di (bS H l n) tb pa=_
    rw[bM (λz=>by have:=aN _ _ Wx;rw[z,pH] at this;cases this)]
    exact Wx
   obtain⟨p'',zs,ez,Ee,rz⟩:=aS.mp Zr
   nofun
   cases ez
   refine⟨?_,p2,_,rfl,by rw[bM L3,cW L4 L6 L5];exact e2,λx y w e=>by simp only[List.cons.injEq,V.ref.injEq] at e;obtain⟨_,_,e,_⟩:=e;exact e▸DA⟩
   refine cM.mpr ⟨p2,_,_,_,rfl,by rw[bM L3,cW L4 L6 L5];exact e2,aD.mpr rfl,bq.mpr ⟨pa,y1,y2,rfl,b1 (s1 _ _ PN),ba.mpr (ba.mp q1),ba.mpr (ba.mp q2)⟩,aS.mpr ⟨p',zs,rfl,by rw[bM pb];exact bH (bx s2) _ _ Ee,aZ.of rz.length λi d v ed ev=>?_⟩⟩
   symm
   obtain⟨d',GO,O8⟩:=rz.get ev
   nofun
   rw[ed] at GO
   cases GO
   rw[aae] at ed
   symm
   obtain⟨x,_,rfl⟩:=Option.map_eq_some_iff.mp ed
   obtain⟨q,a1,a2,rfl,hq,c1,c2⟩:=bq.mp (show Rep _ (.tup _) v from O8)
   nofun
   exact bq.mpr ⟨q,a1,a2,rfl,b1 hq,ba.mpr (ba.mp c1),ba.mpr (ba.mp c2)⟩
theorem uk:aY ["game","course","finder","board"] ["game"] (aq (top 41)):=⟨rfl,rfl,rfl,by ac_rfl,rfl,by ac_rfl,by ac_rfl⟩
theorem xv {α β:Type} {x:α} {y:β}:∀{as:List α} {bs:List β},as[bs.length]?=some x->as.zip (bs++ [y])=as.zip bs++ [(x,y)]
 | [],_,e=>by simp at e
 | a::as,[],e=>by
  have e:some a=some x:=e
  cases e
  simp
 | a::as,b::bs,e=>by
  rw[List.cons_append,List.zip_cons_cons,List.zip_cons_cons,xv (as:=as) (bs:=bs) (by simpa using e)]
  rfl
theorem Wy {Fr:Addr->Prop} {H:Hp} {l n tb:Addr} {kvs:List (Key×V)} {v:V} {nm:Str} {ns:List Int} (pH:H tb=some (.dK kvs)) (rv:Ae Fr (bS H l n) v nm ns):xG (cF H l n tb) v nm ns:=by
 obtain⟨a,cc,e,q1,q2,q3⟩:=rv
 refine⟨a,cc,e,?_,?_⟩
 ·show di (bS H l n) tb a=_
  rw[bM (λz=>by have:=aN _ _ q1;rw[z,pH] at this;cases this)]
  exact q1
 ·show di (bS H l n) tb cc=_
  rw[bM (λz=>by have:=aN _ _ q2;rw[z,pH] at this;cases this)]
  exact q2
theorem Jc (T:Txt K mg aH aI aE aO af av):c6 P w K mg base (bG P w) 10 "spread" ["game"] (yD aO aE):=by
 have rK:cf P w K mg base (bG P w) 2 af "start" ["self"] (Df af):=IS T
 have m9:cf P w K mg base (bG P w) 3 af "words_at" ["self","state"] (Dj af):=IT T
 have cR:cf P w K mg base (bG P w) 1 av "number_of" ["self","state"] (lS P w av aE):=yJ T
 have yQ:c6 P w K mg base (bG P w) 9 "taken_up" ["course","finder","state"] (Ah P w af av aO aE):=LZ T
 have DL:qJ P w K mg base (bG P w) 3 "Course" af ["self","game"] (IF af):=LJ T
 have DM:qJ P w K mg base (bG P w) 1 "Finder" av ["self"] (ID P w av):=LG T
 refine T.C4.fC (λ_ _ _ _ _ _=>ij λ_=>rfl) λf fd F=>F.Gz uk (λvs H Q E h=>?_) (λbZ A outer s H vs Q E hr h=>?_)
 ·obtain⟨_,_,_,_,_,_,_,_,rfl,_⟩:=h;rfl
 ·symm
  obtain⟨gv,g,ft,nm,fu,oo,SS,tss,rfl,rg,gg,hd,ak,L7,o2,sp,xo,kW,kM,kk⟩:=h
  nofun
  have nd:=uk.nd
  have yG:A.handled=none:=hr.hd
  refine⟨_,(ao (aR (i:=1) nd rfl (Or.inr rfl) (KL DL (hr.mono (by decide)) rfl aK.pass (aa (pv 0) ai (se rfl)) (he:=se rfl) (hpl:=na rfl)))
  (ao (aR (i:=2) nd rfl (Or.inl rfl) (Ia DM (hr.mono (by decide)) rfl aK.pass))
  (ao (bR (dD cR T.bT (pv 2) (hr.mono (by decide)) mE (aa (HZ rK T.aM (pv 1) (hr.mono (by decide)) aK.pass) ai (se rfl)) (hst:=se rfl) (hpl:=na rfl)))
  (ao (aR (i:=3) nd rfl (Or.inl rfl) (bI ai))
  (ao (ql PassesOwn.leaving (aU o7 (bc bL (by rfl) T.z_len aav (aa (pv 3) ai (se rfl)) (he:=se rfl) (hpl:=na rfl)) (bc bL (by rfl) T.z_len aav (aa (cj (pv 2) rfl) ai (se rfl)) (he:=se rfl) (hpl:=na rfl)) (bb _)) (ar (bR (eZ aaz aaD aaE b9.r (pv 3) (aa (bg yQ (hr.mono (by decide)) rfl mE (aa (pv 1) (aa (pv 2) (aa (aF bw (cj (pv 2) rfl) (bc bL (by rfl) T.z_len aav (aa (pv 3) ai (se rfl)) (he:=se rfl) (hpl:=na rfl)) (λ_ _=>rfl)) ai (se rfl)) (se rfl)) (se rfl)) (he:=se rfl) (hpl:=na rfl)) ai (se rfl))))))
  (ar (aT (aX (aa (pv 3) (aa (cj (pv 2) rfl) (aa (cX rfl (N:=["game","course","finder","board"]) (so:=aq (top 41)) (N':=["state","course"]) (k:=1) (fr:=[1]) rfl rfl ⟨rfl,by ac_rfl,by ac_rfl,by ac_rfl,rfl,by ac_rfl,by ac_rfl⟩ (bo (K:=K) (cj (pv 2) rfl)) (λ_ _ _ _ _=>(aP (i:=0) (show(["state","course"]:List Str).Nodup by ac_rfl) rfl (Or.inl rfl))) (λ_ _ _ _ _=>cm)
   (λ_ _ _ _ _=>(dD m9 T.aM (pv 1) (hr.mono (by decide)) aK.pass (aa (pv 0) ai (se rfl)) (hst:=se rfl) (hpl:=na rfl)))) ai (se rfl)) (se rfl)) (se rfl)))))))))),?_⟩
  refine(?_:let cI:TS:=_;let cJ:TS:=_;let cK:TS:=_;let eC:TS:=_;let rE:TS:=_;let xj:TS:=_;tSeq cI (tSeq cJ (tSeq cK (tSeq eC (tSeq rE xj)))) _ _ _)
  intro cI cJ cK eC rE xj
  have sl:=sizeLine_eq
  have lc:=gg.lc
  change tSeq _ _ _ _ _
  refine bh (λN=>∀H1 tb c,aA H (di H1 tb)->H1 tb=some (.dK [])->Eb af (di H1 tb) c g tb->N [some gv,some (.ref c),none,none] H1) ?_ (λN hN=>?_)
  case refine_2=>
   simp_all only[tK,IF]
   intro c dx nc PQ dc
   have sm:aA H (upd (upd H dx (.own c)) c (.ins af dx [])):=(ae PQ).trans (ae (by rw[aB (Ne.symm dc)];exact nc))
   refine⟨_,aj,g,rg.mono sm,gg,λtb H1 k1 Aq pH co=>hN _ tb c (λa o ha=>?_) pH co⟩
   rw[bM (λz=>by rw[z,none_of sm Aq] at ha;cases ha)]
   exact k1 a o (λz=>by rw[z,nc] at ha;cases ha) (sm _ _ ha)
  rintro H1 tb c F0 jc G1
  have s1:aA H H1:=F0.trans bJ
  have co:vI af H1 c g:=(G1.mono bJ).co
  have Aq:H tb=none:=by
   cases h0:H tb with
   | none=>rfl
   | some o=>have:=F0 _ _ h0;unfold di at this;rw[if_pos rfl] at this;cases this
  change tSeq _ _ _ _ _
  refine bh (λN=>∀H2 fa l n,H1 l=none->H1 n=none->aA H1 (bS H2 l n)->(∀Fr,lR P w av Fr H2 fa l n [])->N [some gv,some (.ref c),some (.ref fa),none] H2) ?_ (λN hN=>?_)
  case refine_2=>
   simp_all only[tK,ID]
   intro fa dx nf PQ dc
   have Zs:upd H1 dx (.own fa) fa=none:=by rw[aB (Ne.symm dc)];exact nf
   have sm:aA H1 (upd (upd H1 dx (.own fa)) fa (.ins av dx [])):=(ae PQ).trans (ae Zs)
   refine⟨_,aj,λl n H2 nl nn k2 fi=>hN _ fa l n (none_of sm nl) (none_of sm nn) (λa o ha=>k2 a o (λz=>by rw[z,nf] at ha;cases ha) (sm _ _ ha)) fi⟩
  rintro H2 fa l n nl nn s2 FW
  have G4:∀{a b:V},List.lookup (Str.ofString "number_of") [(Str.ofString "states",a),(Str.ofString "numbers",b)]=none:=yx (by ac_rfl) (by ac_rfl)
  have L8:∀{a b c d e:V},List.lookup (Str.ofString "start") [(Str.ofString "spots",a),(Str.ofString "mosts",b),(Str.ofString "first",c),(Str.ofString "whats",d),(Str.ofString "tables",e)]=none:=eV (by ac_rfl) (by ac_rfl) (by ac_rfl) (by ac_rfl) (by ac_rfl)
  have Zt:∀{a b c d e:V},List.lookup (Str.ofString "words_at") [(Str.ofString "spots",a),(Str.ofString "mosts",b),(Str.ofString "first",c),(Str.ofString "whats",d),(Str.ofString "tables",e)]=none:=eV (by ac_rfl) (by ac_rfl) (by ac_rfl) (by ac_rfl) (by ac_rfl)
  symm
  obtain⟨dx,sp0,mo,wh,us,DF,Wz,h2,h3,h4,h5,h6⟩:=id G1
  nofun
  have h1:=bJ _ _ Wz
  change tSeq _ _ _ _ _
  refine bh (λN=>∀H3,aA H1 (bS H3 l n)->lR P w av (λa=>H a=none) H3 fa l n [(nm,List.replicate g.cs.length 0)]->N [some gv,some (.ref c),some (.ref fa),none] H3) ?_ (λN hN=>?_)
  case refine_2=>
   have PR:aA H1 H2:=s2.trans aN
   symm
   obtain⟨JR,NI,PU,u1,u2,u3,u4,u5,u6,u7,u8⟩:=FW (λa=>H a=none)
   nofun
   simp_all only[cZ,Df,lS]
   refine⟨_,_,aN _ _ u1,G4,_,_,PR _ _ h1,L8,g,co.mono PR,gg,fu,ft,hd,nm,ak,λa b H3 s3 na nb e1 e2=>?_⟩
   have LO:a≠l:=λz=>by rw[z,u3] at na;cases na
   have IX:a≠n:=λz=>by rw[z,u5] at na;cases na
   have Ei:b≠l:=λz=>by rw[z,u3] at nb;cases nb
   have IY:b≠n:=λz=>by rw[z,u5] at nb;cases nb
   refine⟨λa=>H a=none,l,n,[],(FW _).mono s3,(nm,List.replicate g.cs.length 0),⟨a,b,rfl,by rw[cu LO IX];exact e1,by rw[cu Ei IY];exact e2,none_of (s1.trans PR) nb⟩,L7,by rw[List.length_replicate];exact lc,(λ_ z=>by cases z),λ_ H4 s4 PV=>hN _ (s2.trans ((bx s3).trans s4)) PV⟩
  rintro H3 s3 WA
  change tSeq _ _ _ _ _
  refine bh (λN=>∀H4,aA H1 (bS H4 l n)->∀b,H1 b=none->b≠l->H4 b=some (.lst [])->lR P w av (λa=>H a=none/\a≠b) H4 fa l n [(nm,List.replicate g.cs.length 0)]->N [some gv,some (.ref c),some (.ref fa),some (.ref b)] H4) ?_ (λN hN=>?_)
  case refine_2=>
   symm
   obtain⟨JR,NI,PU,u1,u2,u3,u4,u5,u6,u7,u8⟩:=id WA
   nofun
   simp_all only[]
   refine⟨aak _,λb nb=>hN _ (s3.trans (bx (ae nb))) b (none_of (s3.trans aN) nb) (λz=>by rw[z,u3] at nb;cases nb) aj ((WA.fr λa o ha h0=>⟨h0,(λz=>by rw[z,nb] at ha;cases ha)⟩).mono (ae nb))⟩
  rintro H4 s4 b nb bl hb PV
  change tSeq _ _ _ _ _
  have zj:tb≠l:=λz=>by rw[z,nl] at jc;cases jc
  have LX:tb≠n:=λz=>by rw[z,nn] at jc;cases jc
  refine bh (λN=>∀H5,oo=0->aA (di H1 tb) (cF H5 l n tb)->lR P w av (λa=>H a=none/\a≠b) H5 fa l n SS->(∃bs,H5 b=some (.lst bs)/\aZ H5 (vg g SS tss) bs/\∀v∈bs,IK H H5 b l v)->N [some gv,some (.ref c),some (.ref fa),some (.ref b)] H5) ?_ (λN hN=>?_)
  case refine_2=>
   refine Ab (λm σ H'=>∃dn rest ss bs,tss=dn++rest/\m=rest.length/\dn.length<=SS.length/\fe g oo SS dn.length ss rest/\aA (di H1 tb) (cF H' l n tb)/\Bo H' (cF H' l n tb) tb g dn.length (λa=>H a=none/\a≠b)/\lR P w av (λa=>H a=none/\a≠b) H' fa l n ss/\H' b=some (.lst bs)/\(∀v∈bs,IK H (di (cF H' l n tb) b) b l v)/\aZ (di (cF H' l n tb) b) ((SS.zip dn).map λx=>mV g SS x.1 x.2) bs/\σ=[some gv,some (.ref c),some (.ref fa),some (.ref b)]) (m:=tss.length) ⟨[],tss,_,[],rfl,rfl,aak _,sp,bH s4,⟨[],aN _ _ (s4 _ _ jc),aaf _,λnm v e=>by cases e⟩,PV,hb,(λv hv=>by cases hv),by rw[List.zip_nil_right];exact bu.mpr rfl,rfl⟩ ?_
   intro m _ H5 LA
   symm
   obtain⟨dn,rest,ss,bs,et,rfl,dS,sd,s5,PX,By,um,NJ,rb,rfl⟩:=LA
   obtain⟨Zu,xt,Zv,WB⟩:=id PX
   obtain⟨JR,NI,PU,u1,u2,u3,u4,u5,u6,u7,u8⟩:=id By
   nofun
   have xa:=sd.xa
   have xl:=u4.length
   have Ei:bs.length=dn.length:=by
    have:=rb.length
    rw[aad,List.length_zip] at this
    omega
   cases rest with
   | nil=>
    symm
    obtain⟨_,c0,c1,c2⟩:=sd
    nofun
    by_cases o0:oo=0
    ·obtain⟨rfl,e2⟩:=c0 o0
     refine⟨false,λQ hq=>?_,?_⟩
     ·simp_all only[eY]
      refine⟨_,um,_,_,_,aN _ _ u1,T.bT,T.na_Finder_states,_,kL,_,rfl,_,u3,?_⟩
      rw[decide_eq_false (by omega)]
      exact hq
     ·rw[if_neg (by simp)]
      rw[aaT] at et
      exact hN _ o0 s5 By ⟨bs,um,by rw[et];exact rb.mono (bJ.trans cO),λv hv=>(NJ v hv).mono (bJ.trans cO)⟩
    ·obtain⟨st,es,ls⟩:∃st,ss[dn.length]?=some st/\st.2.length=g.cs.length:=by
      by_cases o1:oo=1
      ·obtain⟨st,a,b,_⟩:=c1 o1;exact⟨st,a,b⟩
      ·obtain⟨st,_,a,b,_⟩:=c2 (by omega);exact⟨st,a,b⟩
     have WC:=(List.getElem?_eq_some_iff.mp es).1
     refine⟨true,λQ hq=>?_,?_⟩
     ·simp_all only[eY]
      refine⟨_,um,_,_,_,aN _ _ u1,T.bT,T.na_Finder_states,_,kL,_,rfl,_,u3,?_⟩
      rw[decide_eq_true (by omega)]
      exact hq
     ·rw[if_pos rfl]
      symm
      obtain⟨v,ev,rv⟩:=u4.at es
      nofun
      have PY:=Wy xt rv
      have ty:EL K "list" (.ref b) H5:=.inl ⟨rfl,_,bD.of um⟩
      have dl:dn.length<=120:=by omega
      simp_all only[eY,Ah,cH]
      refine⟨ty,_,_,_,aN _ _ u1,T.bT,T.na_Finder_states,_,kL,_,um,_,rfl,_,u3,v,by rw[Ei];exact dj ev,_,l,n,tb,g,G1.mono s5,gg,ss,By,st,dn.length,PX,by omega,λa ha=>⟨none_of (F0.trans (s5.trans cO)) ha,λz=>by rw[z,um] at ha;cases ha⟩,PY,ls,λsk H6 s6=>?_,λZw=>?_⟩
      ·by_cases o1:oo=1
       ·exact kW o1 _ (F0.trans (s5.trans (cO.trans s6)))
       ·symm
        obtain⟨xP,ts,vH,_,go,_⟩:=c2 (by omega)
        nofun
        rw[es] at vH
        cases vH
        exact absurd sk go.stuck
      ·by_cases o1:oo=1
       ·symm
        obtain⟨xP,vH,_,sk⟩:=c1 o1
        nofun
        rw[es] at vH
        cases vH
        exact absurd sk Zw
       ·symm
        obtain⟨xP,ts,vH,_,go,M9⟩:=c2 (by omega)
        nofun
        rw[es] at vH
        cases vH
        exact⟨ts,go,SS,(λz=>by omega),λ_ H6 s6=>kM (by omega) _ (F0.trans (s5.trans (s6.trans cO))),(λz=>by omega)⟩
   | cons ts r=>
    symm
    obtain⟨st,es,ls,go,sr⟩:=sd
    nofun
    have WC:=(List.getElem?_eq_some_iff.mp es).1
    refine⟨true,λQ hq=>?_,?_⟩
    ·simp_all only[eY]
     refine⟨_,um,_,_,_,aN _ _ u1,T.bT,T.na_Finder_states,_,kL,_,rfl,_,u3,?_⟩
     rw[decide_eq_true (by omega)]
     exact hq
    ·rw[if_pos rfl]
     symm
     obtain⟨v,ev,rv⟩:=u4.at es
     nofun
     have eS:SS[dn.length]?=some st:=by
      obtain⟨q,e⟩:=xa
      rw[e,aaZ WC]
      exact es
     have WD:=sr.xa
     have bn:b≠n:=λz=>by rw[z,u5] at um;cases um
     have bt:b≠tb:=λz=>by rw[z,xt] at um;cases um
     have PY:=Wy xt rv
     have ty:EL K "list" (.ref b) H5:=.inl ⟨rfl,_,bD.of um⟩
     have dl:dn.length<=120:=by omega
     have WE:=aar WD.len xo
     simp_all only[eY,Ah,cH]
     refine⟨ty,_,_,_,aN _ _ u1,T.bT,T.na_Finder_states,_,kL,_,um,_,rfl,_,u3,v,by rw[Ei];exact dj ev,_,l,n,tb,g,G1.mono s5,gg,ss,By,st,dn.length,PX,by omega,λa ha=>⟨none_of (F0.trans (s5.trans cO)) ha,λz=>by rw[z,um] at ha;cases ha⟩,PY,ls,λsk=>absurd sk go.stuck,λ_=>⟨ts,go,SS,λ_=>WD,(λz=>by omega),λ_ u H6 s6 Px Zx ru=>?_⟩⟩
     have JM:H6 b=some (.lst bs):=cO _ _ (s6 _ _ (by rw[cW bl bn bt];exact um))
     symm
     obtain⟨PZ,P0,P1,L9⟩:=id Zx
     nofun
     have eh:∀o,di (cF (upd H6 b o) l n tb) b=di (cF H6 l n tb) b:=λo=>by
      funext a
      by_cases z:a=b
      ·rw[z];unfold di;rw[if_pos rfl,if_pos rfl]
      ·rw[bM z,bM z]
       show(if a=tb then none else if a=n then none else if a=l then none else upd H6 b o a)=if a=tb then none else if a=n then none else if a=l then none else H6 a
       rw[aB z]
     refine⟨_,JM,by omega,r.length,by omega,dn++ [ts],r,by rw[aa5];exact et,rfl,by rw[aah,aaM];have:=xa.len;omega,aQ ss (fK ts),by rw[aah,aaM];exact sr,?_,?_,Px.K4 (λa h=>h.2) JM bl,_,aj,?_,?_⟩
     ·intro a o ha
      have ab:a≠b:=λz=>by have:=bJ _ _ ha;rw[z,nb] at this;cases this
      have h6:=s6 _ _ (s5 _ _ ha)
      symm
      obtain⟨e1,e2,e3⟩:=gu h6
      nofun
      rw[cW e1 e2 e3] at h6 ⊢
      rw[aB ab]
      exact h6
     ·rw[aah,aaM]
      refine⟨PZ,by rw[aB (Ne.symm bt)];exact P0,P1,λnm v e=>?_⟩
      symm
      obtain⟨Br,t',b',GY,a1,⟨p',ep,fp⟩,a2⟩:=L9 nm v e
      subst ep
      nofun
      have kb:∀{a o},a≠b->cF H6 l n tb a=some o->cF (upd H6 b (.lst (bs++ [u]))) l n tb a=some o:=λ{a o} ab ha=>by
       symm
       obtain⟨e1,e2,e3⟩:=gu ha
       nofun
       rw[cW e1 e2 e3] at ha ⊢
       rw[aB ab]
       exact ha
      exact⟨Br,t',b',GY,a1,⟨p',rfl,fp⟩,Af a2 (λo ho=>kb fp.2 ho) λa vs ha=>kb (λz=>by have:=cO _ _ ha;rw[z,JM] at this;cases this) ha⟩
     ·rw[eh]
      intro v hv
      rcases List.mem_append.mp hv with hv | hv
      ·exact(NJ v hv).mono (bH s6)
      ·rw[List.mem_singleton.mp hv]
       symm
       obtain⟨_,q,eq,vs,hq,kq⟩:=ru b bs um
       nofun
       refine⟨q,vs,eq,hq,λx y w' e=>?_⟩
       have nw:=kq x y w' e
       exact⟨none_of (F0.trans (s5.trans cO)) nw,(λz=>by rw[z,um] at nw;cases nw),(λz=>by rw[z,u3] at nw;cases nw)⟩
     ·rw[eh,xv eS,aan]
      exact(rb.mono (bH s6)).append (aJ.mpr ⟨u,[],rfl,(ru b bs um).1,bu.mpr rfl⟩)
  intro H5 o0 s5 By Zy
  symm
  obtain⟨bs,um,rb,NJ⟩:=Zy
  subst o0
  have kk:=kk rfl
  obtain⟨JR,NI,PU,u1,u2,u3,u4,u5,u6,u7,u8⟩:=id By
  nofun
  have xl:=u4.length
  have NK:aA (di H1 tb) H5:=s5.trans cO
  simp_all only[eY]
  refine⟨_,_,_,aN _ _ u1,T.bT,T.na_Finder_states,_,kL,_,_,_,aN _ _ u1,T.bT,T.na_Finder_states,_,kL,_,rfl,⟨_,bD.of u3⟩,?_⟩
  refine comp_map (src_list (Ok:=aA H5) (λH' k=>bD.of (k _ _ u3))) (λ_ _ _ _ h=>h.1▸aA.refl _) (by omega) (λi y H'=>∃st,SS[i]?=some st/\Rep H' (gq g st) y) (λ_ _ _ _ k ⟨st,e,r⟩=>⟨st,e,r.mono k⟩) ?_ ?_
  ·rintro i x z H7 H6 Q' hi s6 ⟨rfl,ex⟩ yy
   symm
   obtain⟨st,es,Zz⟩:=u4.get ex
   nofun
   symm
   obtain⟨xP,V4,vH,ls,go,_⟩:=sp.all.2 i (aak _) (List.getElem?_eq_some_iff.mp es).1
   nofun
   rw[es] at vH
   cases vH
   obtain⟨x0,lk⟩:=yA go
   simp_all only[cZ,Dj]
   refine⟨_,_,s6 _ _ (NK _ _ Wz),Zt,g,(G1.mono (NK.trans s6)).co,gg,st.1,st.2,Zz.st.mono (aN.trans s6),ls,x0,lk,λp H8 s8 n8 r8=>yy _ _ s8 ⟨st,es,?_⟩⟩
   unfold gq
   rw[lk]
   exact r8
  ·intro ys H6 s6 ly hy D Py Ej
   refine⟨by omega,λp H7 s7 np e7=>kk p b l D bs NI ys H7 (F0.trans (NK.trans (s6.trans ((ae Ej).trans s7)))) (none_of s1 nb) (none_of (F0.trans NK) Py) e7 ?_ ?_ ?_ ?_ ?_ (s7 _ _ aj) ?_⟩
   all_goals have JT:aA H5 H7:=s6.trans ((ae Ej).trans s7)
   ·exact JT _ _ um
   ·exact rb.mono JT
   ·exact λv hv=>(NJ v hv).mono JT
   ·exact JT _ _ u3
   ·exact u4.imp λ_ _ ⟨a,c',e,q1,q2,q3⟩=>⟨a,c',e,(aN.trans JT) _ _ q1,(aN.trans JT) _ _ q2,q3.1,q3.2,(iq q2).1⟩
   ·refine aZ.of (by rw[aad];omega) λi d y ed ey=>?_
    rw[aae] at ed
    symm
    obtain⟨st,es,rfl⟩:=Option.map_eq_some_iff.mp ed
    obtain⟨xP,vH,r⟩:=hy i y ey
    nofun
    rw[es] at vH
    cases vH
    exact r.mono ((ae Ej).trans s7)
theorem xw {H:Hp}:∀{l:List Int} {vs:List V},aZ H (l.map Dat.int) vs->vs=l.map V.int
 | [],_,h=>bu.mp h
 | _::_,_,h=>by
  obtain⟨v,r,rfl,a,b⟩:=aJ.mp h
  rw[ba.mp a,xw b]
  rfl
theorem ints_rep {H:Hp}:∀l:List Int,aZ H (l.map Dat.int) (l.map V.int)
 | []=>bu.mpr rfl
 | _::l=>aJ.mpr ⟨_,_,rfl,ba.mpr rfl,ints_rep l⟩
noncomputable def Kx (n:Nat) (d:Dat):Prop:=sN (i7 d)=true/\(i7 d).depth<=n
theorem iO {n:Nat} (k:Int):Kx n (.int k):=by unfold Kx;rw[i7,sN,PyData.depth];exact⟨rfl,aak _⟩
theorem Jd {n:Nat}:Kx n .dG:=by unfold Kx;rw[i7,sN,PyData.depth];exact⟨rfl,aak _⟩
theorem oy {n:Nat} {x:Str} (h:dO (.str x)=true):Kx n (.str x):=by
 rw[dO] at h
 unfold Kx
 rw[i7,sN,PyData.depth]
 exact⟨h,aak _⟩
theorem yR {n:Nat}:∀{ds:List Dat},(∀d∈ds,Kx n d)->qN (mL ds)=true/\PyData.depthAll (mL ds)<=n
 | [],_=>by rw[mL,qN,PyData.depthAll];exact⟨rfl,aak _⟩
 | d::ds,h=>by
  obtain⟨a,b⟩:=h d aao
  obtain⟨e,f⟩:=yR (ds:=ds) λx hx=>h x (aal _ hx)
  rw[mL,qN,PyData.depthAll,a,e]
  exact⟨rfl,by omega⟩
theorem DN {n:Nat} {ds:List Dat} (h:∀d∈ds,Kx n d):Kx (n+1) (.tup ds):=by
 obtain⟨a,b⟩:=yR h
 unfold Kx
 rw[i7,sN,PyData.depth]
 exact⟨a,by omega⟩
theorem lX {n:Nat} {ds:List Dat} (h:∀d∈ds,Kx n d):Kx (n+1) (.lst ds):=by
 obtain⟨a,b⟩:=yR h
 unfold Kx
 rw[i7,sN,PyData.depth]
 exact⟨a,by omega⟩
theorem DO {n:Nat} {a b:Dat} (ha:Kx n a) (hb:Kx n b):Kx (n+1) (.tup [a,b]):=DN λd hd=>by
 rcases List.mem_cons.mp hd with rfl | hd
 ·exact ha
 ·rw[List.mem_singleton.mp hd];exact hb
theorem Je {n:Nat} {a b c:Dat} (ha:Kx n a) (hb:Kx n b) (hc:Kx n c):Kx (n+1) (.tup [a,b,c]):=DN λd hd=>by
 rcases List.mem_cons.mp hd with rfl | hd
 ·exact ha
 ·rcases List.mem_cons.mp hd with rfl | hd
  ·exact hb
  ·rw[List.mem_singleton.mp hd];exact hc
theorem F1 {n k:Nat} {d:Dat} (h:Kx n d) (l:n<=k):Kx k d:=⟨h.1,aar h.2 l⟩
noncomputable def iA (G H:Hp):Hp:=λa=>match G a with
 | some (.lst _)=>none
 | _=>H a
noncomputable def fj (G H:Hp):Prop:=∀a ys,G a=some (.lst ys)->∃zs,H a=some (.lst zs)
theorem fj.of {G H:Hp} (s:aA G H):fj G H:=λa ys e=>⟨ys,s _ _ e⟩
theorem fj.trans {G H K:Hp} (s:fj G H) (t:aA H K):fj G K:=λa ys e=>by
 obtain⟨zs,h⟩:=s a ys e
 exact⟨zs,t _ _ h⟩
set_option tactic.hygienic true in
theorem gQ {G H:Hp} {a:Addr} (h:∀ys,G a≠some (.lst ys)):iA G H a=H a:=by
 unfold iA
 split
 ·rename_i e;exact absurd e (h _)
 ·rfl
theorem vz {G H:Hp} {a:Addr} {ys:List V} (h:G a=some (.lst ys)):iA G H a=none:=by
 unfold iA
 rw[h]
theorem ng {G H:Hp} {a:Addr} {o:HO} (h:iA G H a=some o):(∀ys,G a≠some (.lst ys))/\H a=some o:=by
 by_cases c:∃ys,G a=some (.lst ys)
 ·obtain⟨ys,e⟩:=c
  rw[vz e] at h
  cases h
 ·have c:∀ys,G a≠some (.lst ys):=λys e=>c ⟨ys,e⟩
  rw[gQ c] at h
  exact⟨c,h⟩
theorem uo {G H H':Hp} (s:aA H H'):aA (iA G H) (iA G H'):=λa o e=>by
 obtain⟨c,h⟩:=ng e
 rw[gQ c]
 exact s _ _ h
theorem xx {G H:Hp}:aA (iA G H) H:=λa o e=>(ng e).2
theorem xy {G G' H:Hp} (s:fj G G'):aA (iA G' H) (iA G H):=λa o e=>by
 obtain⟨c,h⟩:=ng e
 rw[gQ (λys k=>by obtain⟨zs,z⟩:=s a ys k;exact c zs z)]
 exact h
theorem iB {G H:Hp} {l:Addr} {ys:List V} {o:HO} (e:G l=some (.lst ys)):iA G (upd H l o)=iA G H:=by
 funext a
 by_cases c:∃ys,G a=some (.lst ys)
 ·obtain⟨zs,z⟩:=c
  rw[vz z,vz z]
 ·have c:∀ys,G a≠some (.lst ys):=λys e=>c ⟨ys,e⟩
  rw[gQ c,gQ c,aB (λz=>by rw[z] at c;exact c ys e)]
noncomputable def c7 (G H:Hp) (d:Dat) (v:V):Prop:=Rep (iA G H) d v
noncomputable def cS (G H:Hp) (ds:List Dat) (vs:List V):Prop:=aZ (iA G H) ds vs
theorem c7.mono {G H H':Hp} {d:Dat} {v:V} (s:aA H H') (h:c7 G H d v):c7 G H' d v:=Rep.mono (uo s) h
theorem cS.mono {G H H':Hp} {ds:List Dat} {vs:List V} (s:aA H H') (h:cS G H ds vs):cS G H' ds vs:=aZ.mono (uo s) h
theorem c7.low {G G' H:Hp} {d:Dat} {v:V} (s:fj G G') (h:c7 G' H d v):c7 G H d v:=Rep.mono (xy s) h
theorem cS.low {G G' H:Hp} {ds:List Dat} {vs:List V} (s:fj G G') (h:cS G' H ds vs):cS G H ds vs:=aZ.mono (xy s) h
theorem c7.rep {G H:Hp} {d:Dat} {v:V} (h:c7 G H d v):Rep H d v:=Rep.mono xx h
theorem cS.rep {G H:Hp} {ds:List Dat} {vs:List V} (h:cS G H ds vs):aZ H ds vs:=aZ.mono xx h
theorem bF {G H:Hp} {x:Str}:c7 G H (.str x) (.str x):=aD.mpr rfl
theorem cE {G H:Hp} {k:Int}:c7 G H (.int k) (.int k):=ba.mpr rfl
theorem DP {G H:Hp}:c7 G H .dG .dG:=by unfold c7;rw[Rep]
theorem fM {G H:Hp}:cS G H [] []:=bu.mpr rfl
theorem cw {G H:Hp} {d:Dat} {ds:List Dat} {v:V} {vs:List V} (h:c7 G H d v) (k:cS G H ds vs):cS G H (d::ds) (v::vs):=aJ.mpr ⟨_,_,rfl,h,k⟩
theorem rL {G H:Hp} {p:Addr} {ds:List Dat} {vs:List V} (n:G p=none) (h:H p=some (.lst vs)) (r:cS G H ds vs):c7 G H (.lst ds) (.ref p):=aS.mpr ⟨p,vs,rfl,by rw[gQ (λys e=>by rw[n] at e;cases e)];exact h,r⟩
theorem vA {G H:Hp} (s:fj G H) {p:Addr} {ds:List Dat} {vs:List V} (h:H p=some (.tup vs)) (r:cS G H ds vs):c7 G H (.tup ds) (.ref p):=eG.mpr ⟨p,vs,rfl,by rw[gQ (λys e=>by obtain⟨zs,z⟩:=s _ _ e;rw[h] at z;cases z)];exact h,r⟩
theorem xA {G H:Hp} (s:fj G H) {p:Addr} {a b:Dat} {x y:V} (h:H p=some (.tup [x,y])) (ha:c7 G H a x) (hb:c7 G H b y):c7 G H (.tup [a,b]) (.ref p):=vA s h (cw ha (cw hb fM))
theorem rM {G H:Hp} (s:fj G H) {p:Addr} {a b c:Dat} {x y z:V} (h:H p=some (.tup [x,y,z])) (ha:c7 G H a x) (hb:c7 G H b y) (hc:c7 G H c z):c7 G H (.tup [a,b,c]) (.ref p):=vA s h (cw ha (cw hb (cw hc fM)))
theorem Bz {G H:Hp} (s:fj G H) {p:Addr} {a b c d:Dat} {x y z u:V} (h:H p=some (.tup [x,y,z,u])) (ha:c7 G H a x) (hb:c7 G H b y) (hc:c7 G H c z) (hd:c7 G H d u):c7 G H (.tup [a,b,c,d]) (.ref p):=vA s h (cw ha (cw hb (cw hc (cw hd fM))))
theorem nh {G H:Hp} {d:Dat} {v:V} (h:c7 G H d v) {ds:List Dat} {vs:List V} (k:cS G H ds vs):cS G H (ds++ [d]) (vs++ [v]):=aZ.append k (aJ.mpr ⟨_,_,rfl,h,bu.mpr rfl⟩)
theorem cS.ix {G H:Hp} {ds:List Dat} {vs:List V} (h:cS G H ds vs) {i:Int} {d:Dat} (i0:0<=i) (ed:ds[i.toNat]?=some d):∃v,jV vs i=some v/\c7 G H d v:=by
 obtain⟨v,ev,r⟩:=aZ.at h ed
 exact⟨v,by rw[show i=((i.toNat:Nat):Int) by omega];exact dj ev,r⟩
theorem Ma {n:Str} (h:dO (.str n)=true):Ke (.str n):=oy h
theorem map_getD {α β:Type} {l:List α} {f:α->β} {i:Nat} (d:α) (h:i<l.length):(l.map f)[i]?=some (f (l.getD i d)):=by
 rw[aae,aaO,aax h]
 rfl
theorem iP {α:Type} {l:List α} (n:Int) (h:0<l.length):∃(j:Nat) (x:α),n % (l.length:Int)=(j:Int)/\l[j]?=some x:=by
 have q1:=Int.emod_nonneg n (show(l.length:Int)≠0 by omega)
 have q2:=Int.emod_lt_of_pos n (show(0:Int)< (l.length:Int) by omega)
 exact⟨(n % (l.length:Int)).toNat,l[(n % (l.length:Int)).toNat]'(by omega),by omega,aax _⟩
noncomputable def F2 (cs:List (Str×Int)):Prop:=cs.length<=3/\∀(i:Nat) c,cs[i]?=some c->cN[i]?=some c.1/\1<=c.2/\c.2<=5
noncomputable def Jf (H:Hp) (l:Addr) (ZA:List Str):Prop:=H l=some (.lst (ZA.map V.str))
noncomputable def F3 (s:bO):Dat:=.tup [.str s.1,.lst (s.2.map .int)]
noncomputable def fk (K:PySem.W.Frag):Sp:=λvs H Q _=>∃a ns k,vs=[.ref a,.int k]/\bD K H a (List.map V.int ns)/\0<=k/\k<1000/\∀n,Q (.int n) H
noncomputable def xB (K:PySem.W.Frag):Sp:=λvs H Q _=>∃a ns k v cs th,vs=[.ref a,.int k,v,.bl th]/\bD K H a (List.map V.int ns)/\0<=k/\k<900/\Rep H (K2 cs) v/\F2 cs/\∀u ds H',aA H H'->lT cs ds->c7 H H' (.lst (ds.map qV)) u->Q u H'
noncomputable def DQ (K:PySem.W.Frag):Sp:=λvs H Q _=>∃a ns v cs nl,∃t k n:Nat,vs=[.ref a,.int (t:Int),.int (k:Int),v,.ref nl]/\bD K H a (List.map V.int ns)/\t<100/\Rep H (K2 cs) v/\F2 cs/\Jf H nl (pN.take n)/\k<n/\n<=6/\∀u x H',aA H H'->Bp cs n k x->c7 H H' (ub x) u->Q u H'
noncomputable def DR (K:PySem.W.Frag):Sp:=λvs H Q _=>∃a ns,vs=[.ref a]/\bD K H a (List.map V.int ns)/\∀v g n H',aA H H'->gi g n->Rep H' (Nx g) v->Q v H'
noncomputable def BA (g:Gm) (SS:List bO) (tss:List (List (Int×bO))):Dat:=.tup [.lst (vg g SS tss),.lst (SS.map F3),.lst (SS.map (gq g))]
noncomputable def Ar:Sp:=λvs H Q _=>∃gv g ft nm F o SS tss,vs=[gv]/\Rep H (Nx g) gv/\GoodG g/\(g.ps.map (·.1)).head?=some ft/\dm g (List.replicate g.cs.length 0) F ft=some nm/\dO (.str nm)=true/\o<=2/\fe g o SS 0 [(nm,List.replicate g.cs.length 0)] tss/\SS.length<=120/\
 (o=1->∀H',aA H H'->Q (.str (Str.ofString "noway")) H')/\(o=2->∀H',aA H H'->Q (.str (Str.ofString "many")) H')/\
 (o=0->∀p b l wl bs xs ws H',aA H H'->H b=none->H wl=none->H' p=some (.tup [.ref b,.ref l,.ref wl])->H' b=some (.lst bs)->aZ H' (vg g SS tss) bs->(∀v∈bs,IK H H' b l v)->H' l=some (.lst xs)->Al (λs v=>Ae (λa=>H a=none/\a≠b/\a≠l) H' v s.1 s.2) SS xs->H' wl=some (.lst ws)->aZ H' (SS.map (gq g)) ws->Q (.ref p) H')
theorem gD {xs:List V} {k:Int} (h:0<=k):je xs (some k) none=xs.drop k.toNat:=by
 unfold je
 obtain⟨n,rfl⟩:=Int.eq_ofNat_of_zero_le h
 rw[HT.vV,HT.zt,aaQ]
 by_cases c:n<=xs.length
 ·rw[Nat.min_eq_left c,aau (by rw[aa0];omega)]
 ·rw[Nat.min_eq_right (by omega),List.drop_of_length_le (aaf _),List.drop_of_length_le (by omega),List.take_nil]
set_option tactic.hygienic true in
theorem As {n j:Nat} {x:Str} (e:(pN.take n)[j]?=some x):i9 n x:=by
 rw[aa4] at e
 split at e
 ·rename_i h;exact⟨j,h,e⟩
 ·cases e
theorem jQ {l:List Str} {j:Nat} {x:Str} (e:l[j]?=some x):jV (l.map V.str) (j:Int)=some (.str x):=dj (by rw[aae,e];rfl)
theorem c7.fresh {G H:Hp} {d:Dat} {v:V} {p:Addr} {ys:List V} {o:HO} (h:c7 G H d v) (n:H p=none):c7 (upd G p (.lst ys)) (upd H p o) d v:=Rep.mono (λa b e=>by
 obtain⟨c,k⟩:=ng e
 have ne:a≠p:=λz=>by rw[z,n] at k;cases k
 rw[gQ (λzs z=>by rw[aB ne] at z;exact c zs z),aB ne]
 exact k) h
noncomputable def F4:Dd->List V
 | .set n k=>[.str (Str.ofString "set"),.str n,.int k]
 | .plus n k=>[.str (Str.ofString "plus"),.str n,.int k]
 | .face n=>[.str (Str.ofString "face"),.str n]
 | .move n m=>[.str (Str.ofString "move"),.str n,.str m]
theorem F5 {H:Hp} {v:V}:∀{d:Dd},Rep H (qV d) v->∃q,v=.ref q/\H q=some (.tup (F4 d))
 | .set n k,h=>by obtain⟨q,x,y,z,e,hq,a,b,c⟩:=cM.mp (show Rep H (.tup _) v from h);rw[aD.mp a,aD.mp b,ba.mp c] at hq;exact⟨q,e,hq⟩
 | .plus n k,h=>by obtain⟨q,x,y,z,e,hq,a,b,c⟩:=cM.mp (show Rep H (.tup _) v from h);rw[aD.mp a,aD.mp b,ba.mp c] at hq;exact⟨q,e,hq⟩
 | .face n,h=>by obtain⟨q,x,y,e,hq,a,b⟩:=bq.mp (show Rep H (.tup _) v from h);rw[aD.mp a,aD.mp b] at hq;exact⟨q,e,hq⟩
 | .move n m,h=>by obtain⟨q,x,y,z,e,hq,a,b,c⟩:=cM.mp (show Rep H (.tup _) v from h);rw[aD.mp a,aD.mp b,aD.mp c] at hq;exact⟨q,e,hq⟩
noncomputable def dQ (ks ws:List Str) (x:Str):Str:=ws.getD (ks.idxOf x) x
noncomputable def pX (H:Hp) (d:Addr) (ks ws:List Str):Prop:=H d=some (.dK ((ks.map Sum.inr).zip (ws.map V.str)))/\ks.length<=ws.length
noncomputable def sY (ws:List Str):Prop:=ws.length=30/\ws.Nodup/\∀w∈ws,dO (.str w)=true
theorem pX.mono {H H':Hp} {d:Addr} {ks ws:List Str} (s:aA H H') (h:pX H d ks ws):pX H' d ks ws:=⟨s _ _ h.1,h.2⟩
theorem Au {x:Str}:∀{ks ws:List Str},ks.length<=ws.length->x∈ks->eM ((ks.map Sum.inr).zip (ws.map V.str)) (Sum.inr x:Key)=some (.str (dQ ks ws x))
 | [],_,_,h=>by cases h
 | k::ks,[],l,_=>by simp at l
 | k::ks,w::ws,l,h=>by
  rw[aag,aag,List.zip_cons_cons]
  unfold dQ
  by_cases c:k=x
  ·rw[hX (by rw[c]),c,List.idxOf_cons_self]
   rfl
  ·have hx:x∈ks:=(List.mem_cons.mp h).resolve_left (Ne.symm c)
   rw[fB (λz=>c (by injection z)),Au (ks:=ks) (ws:=ws) (by simpa using l) hx,List.idxOf_cons,beq_false_of_ne c]
   have hl:=abd hx
   have l':ks.length<=ws.length:=by simpa using l
   unfold dQ
   show some (V.str (ws.getD (ks.idxOf x) x))=some (V.str ((w::ws).getD (ks.idxOf x+1) x))
   rw[List.getD_cons_succ]
theorem pX.get {H:Hp} {d:Addr} {ks ws:List Str} (h:pX H d ks ws) {x:Str} (hx:x∈ks):lE H d (.str x) (some (.str (dQ ks ws x))):=.inl ⟨_,Sum.inr x,.inl h.1,rfl,(Au h.2 hx).symm⟩
theorem vB {ks ws:List Str} (l:ks.length<=ws.length) {x:Str} (hx:x∈ks):ws[ks.idxOf x]?=some (dQ ks ws x):=by
 have:=abd hx
 unfold dQ
 rw[aaO,aax (by omega)]
 rfl
theorem Av {ks ws:List Str} (l:ks.length<=ws.length) (nd:ws.Nodup):∀x∈ks,∀y∈ks,dQ ks ws x=dQ ks ws y->x=y:=λx hx y hy e=>by
 have e1:=vB l hx
 have e2:=vB l hy
 rw[e] at e1
 have i1:=yF nd e1
 have i2:=yF nd e2
 have JC:=abd hx
 have hy':=abd hy
 have:ks[ks.idxOf x]=ks[ks.idxOf y]:=by congr 1;omega
 rwa [List.getElem_idxOf,List.getElem_idxOf] at this
theorem DS {ks ws:List Str} (l:ks.length<=ws.length) (h:∀w∈ws,dO (.str w)=true):∀x∈ks,dO (.str (dQ ks ws x))=true:=λx hx=>h _ (aaj (vB l hx))
noncomputable def pD (p:Str×Wt):Dat:=.tup [.str p.1,ub p.2]
noncomputable def DT:Sp:=λvs H Q _=>∃t,vs=[.int t]/\∀(l:Addr) (ws:List Str) H',aA H H'->H l=none->H' l=some (.lst (ws.map V.str))->sY ws->Q (.ref l) H'
noncomputable def F6:Sp:=λvs H Q _=>∃(v:V) (d:Addr) (ds:List Dd) (cs:List (Str×Int)) (ks ws:List Str),vs=[v,.ref d]/\Rep H (.lst (ds.map qV)) v/\ks=cs.map (·.1)/\pX H d ks ws/\lT cs ds/\∀u H',aA H H'->c7 H H' (.lst ((ds.map (uj (dQ ks ws))).map qV)) u->Q u H'
noncomputable def Jg:Sp:=λvs H Q _=>∃(v:V) (dc dp dw:Addr) (x:Wt) (cs:List (Str×Int)) (n i:Nat) (kc wc wp ww:List Str),vs=[v,.ref dc,.ref dp,.ref dw]/\Rep H (ub x) v/\Bp cs n i x/\kc=cs.map (·.1)/\pX H dc kc wc/\pX H dp (pN.take n) wp/\n<=6/\pX H dw wN ww/\∀u H',aA H H'->Rep H' (ub (yE (dQ kc wc) (dQ (pN.take n) wp) (dQ wN ww) x)) u->Q u H'
noncomputable def Jh (K:PySem.W.Frag):Sp:=λvs H Q _=>∃(a:Addr) (ns:List Int) (l:Addr) (ps:List (Str×Wt)),vs=[.ref a,.ref l]/\bD K H a (List.map V.int ns)/\Rep H (.lst (ps.map pD)) (.ref l)/\ps.length<=6/\0<ps.length/\∀(p:Addr) (Br:List (Str×Wt)) H',aA H H'->Rep H' (.lst (Br.map pD)) (.ref p)->Br.Perm ps->Br.head?=ps.head?->Q (.ref p) H'
noncomputable def wA:List Str:=[Str.ofString "go",Str.ofString "if",Str.ofString "from",Str.ofString "place",Str.ofString "count",Str.ofString "pay",Str.ofString "else",Str.ofString "to",Str.ofString "way",Str.ofString "set",Str.ofString "plus",Str.ofString "face",Str.ofString "move",Str.ofString "score"]
noncomputable def wB:List Str:=[Str.ofString "below",Str.ofString "zz",Str.ofString "y",Str.ofString "x",Str.ofString "w",Str.ofString "v",Str.ofString "u",Str.ofString "t",Str.ofString "s",Str.ofString "r",Str.ofString "q",Str.ofString "p",Str.ofString "o",Str.ofString "n",Str.ofString "m",Str.ofString "l"]
theorem Ji:sY (wA++wB):=by unfold sY;ac_rfl
theorem F7 {ws:List Str} (h:sY ws) (k:Nat):sY (ws.drop k++ws.take k):=by
 have p:(ws.drop k++ws.take k).Perm ws:=List.perm_append_comm.trans (by rw[List.take_append_drop])
 exact⟨by rw[p.length_eq];exact h.1,p.symm.nodup h.2.1,λw hw=>h.2.2 w (p.mem_iff.mp hw)⟩
theorem DU {α:Type} {P:Nat->α->V->Prop}:∀{ys:List V},(∀(i:Nat) y,ys[i]?=some y->∃x,P i x y)->∃ps:List α,ps.length=ys.length/\∀(i:Nat) x y,ps[i]?=some x->ys[i]?=some y->P i x y:=by
 intro ys
 induction ys generalizing P with
 | nil=>exact λ_=>⟨[],rfl,λi x y e=>by simp at e⟩
 | cons y ys ih=>
  intro h
  obtain⟨x,hx⟩:=h 0 y rfl
  obtain⟨ps,l,k⟩:=ih (P:=λi=>P (i+1)) λi z e=>h (i+1) z (by simpa using e)
  refine⟨x::ps,by rw[aap,l,aap],λi a b ea eb=>?_⟩
  cases i with
  | zero=>cases ea;cases eb;exact hx
  | succ i=>exact k i a b (by simpa using ea) (by simpa using eb)
theorem Mb {H:Hp} {x:Wt} {v:V} (h:Rep H (ub x) v):∃q vs kd,v=.ref q/\H q=some (.tup (.str kd::vs)):=by
 have e:∃kd ds,ub x=.tup (.str kd::ds):=by cases x <;>exact⟨_,_,rfl⟩
 obtain⟨kd,ds,e⟩:=e
 rw[e] at h
 obtain⟨q,vs,rfl,hq,rv⟩:=eG.mp h
 obtain⟨v1,r,rfl,r1,_⟩:=aJ.mp rv
 rw[aD.mp r1] at hq
 exact⟨q,r,kd,rfl,hq⟩
set_option tactic.hygienic true in
theorem uq {H:Hp} {ds:List Dat} {vs:List V} {k:Nat} (h:aZ H ds vs):aZ H (ds.take k) (vs.take k):=by
 have l:=h.length
 refine aZ.of (by rw[aaG,aaG,l]) λi d v ed ev=>?_
 rw[aa4] at ed ev
 split at ed
 ·rename_i c
  rw[if_pos c] at ev
  obtain⟨d',e,r⟩:=h.get ev
  rw[ed] at e
  cases e
  exact r
 ·cases ed
theorem BB {H:Hp} {ds:List Dat} {vs:List V} {k:Nat} (h:aZ H ds vs):aZ H (ds.drop k) (vs.drop k):=by
 have l:=h.length
 refine aZ.of (by rw[aa0,aa0,l]) λi d v ed ev=>?_
 rw[List.getElem?_drop] at ed ev
 obtain⟨d',e,r⟩:=h.get ev
 rw[ed] at e
 cases e
 exact r
theorem rN:aY ["_law_script","_law_k","_law_base"] ["_law_script","_law_k"] (aq (top 43)):=⟨rfl,rfl,rfl,by ac_rfl,rfl,by ac_rfl,by ac_rfl⟩
theorem xC (T:Txt K mg aH aI aE aO af av):c6 P w K mg base (bG P w) 1 "_law_at" ["_law_script","_law_k"] (fk K):=by
 refine T.Be.fC (λ_ _ _ _ _ _=>gX λ_ _=>rfl) λf fd F=>F.gJ rN (λvs H Q E h=>?_) (λbZ A outer s H vs Q E hr h=>?_)
 ·obtain⟨_,_,_,rfl,_⟩:=h;rfl
 ·symm
  obtain⟨a,ns,k,rfl,hS,k0,k1,kk⟩:=h
  nofun
  have nd:=rN.nd
  refine⟨_,(ao (bK (aU o7 (pv 1) (bc (lG (K:=K)) (by rfl) T.z_len aav (aa (pv 0) ai (se rfl)) (he:=se rfl) (hpl:=na rfl)) (bb _)) (ar (aT (aF (t5 (K:=K)) (pv 0) (pv 1) (λ_ _=>rfl))))
   bj)
  (ao (aR (i:=2) nd rfl (Or.inl rfl) ag)
  (ao (bK (aU jd (bc (lG (K:=K)) (by rfl) T.z_len aav (aa (pv 0) ai (se rfl)) (he:=se rfl) (hpl:=na rfl)) ag (bb _)) (ar (aR (i:=2) nd rfl (Or.inl rfl) (aL bE (aF (t5 (K:=K)) (pv 0) (aL bE (aL bQ (aL cU (pv 1) ag) ag) (bc (lG (K:=K)) (by rfl) T.z_len aav (aa (pv 0) ai (se rfl)) (he:=se rfl) (hpl:=na rfl))) (λ_ _=>rfl)) ag)))
   bj)
  (ar (aT (aL bE (aL cU (aL bQ (aL bQ (pv 2) (aL cU ag (pv 1))) ag) (aL bQ (aL bQ (aL cU (pv 2) ag) (aL cU (pv 1) (pv 1))) ag)) ag)))))),?_⟩
  refine(?_:let cI:TS:=_;let cJ:TS:=_;let cK:TS:=_;let eC:TS:=_;tSeq cI (tSeq cJ (tSeq cK eC)) _ _ _)
  intro cI cJ cK eC
  have sl:=sizeLine_eq
  simp_all only[HJ]
  have kq:IntMulOk k k:=eN (by omega) (by omega)
  refine⟨ns,hS,pL (λc=>⟨ns,hS,k0,c,kk _⟩) (λc=>⟨ns,hS,pL (λz=>?_) (λz=>?_)⟩)⟩
  ·have m1:=Int.emod_nonneg (ns.getD ((k*27+2) % (ns.length:Int)).toNat 0) (show(998717:Int)≠0 by decide)
   have m2:=Int.emod_lt_of_pos (ns.getD ((k*27+2) % (ns.length:Int)).toNat 0) (show(0:Int)<998717 by decide)
   exact⟨nS,ns,hS,z,ns,hS,Int.emod_nonneg _ (by omega),Int.emod_lt_of_pos _ z,by decide,eN,nS,kq,eN (by omega) (by omega),by decide,kk _⟩
  ·exact⟨eN,eN,kq,eN (by omega) (by omega),by decide,kk _⟩
theorem lg:aY ["_law_script","_law_at_here","_law_counts","_law_is_thrown","_law_deeds_here","_law_j","_law_cell","_law_name","_law_other"] ["_law_script","_law_at_here","_law_counts","_law_is_thrown"] (aq (top 44)):=⟨rfl,rfl,rfl,by ac_rfl,rfl,by ac_rfl,by ac_rfl⟩
theorem Mc (T:Txt K mg aH aI aE aO af av):c6 P w K mg base (bG P w) 2 "_law_deeds" ["_law_script","_law_at_here","_law_counts","_law_is_thrown"] (xB K):=by
 have cB:c6 P w K mg base (bG P w) 1 "_law_at" ["_law_script","_law_k"] (fk K):=xC T
 refine T.uY.fC (λ_ _ _ _ _ _=>Bh λ_ _ _ _=>rfl) λf fd F=>F.gJ lg (λvs H Q E h=>?_) (λbZ A outer s H vs Q E hr h=>?_)
 ·obtain⟨_,_,_,_,_,_,rfl,_⟩:=h;rfl
 ·symm
  obtain⟨a,ns,k0,v,cs,th,rfl,hS,k00,k09,rc,gc,kk⟩:=h
  nofun
  clear G_
  have nd:=lg.nd
  refine⟨_,(ao (aR (i:=4) nd rfl (Or.inl rfl) (bI ai))
  (ao (cY PassesOwn.never rfl (eR rfl T.z_range (aa (aL cU (aL bE (bg cB (hr.mono (by decide)) rfl aK.pass (aa (pv 0) (aa (pv 1) ai (se rfl)) (se rfl)) (he:=se rfl) (hpl:=na rfl)) ag) (hV yi (by rfl) T.z_int rfl (aa (mz jd (bc bL (by rfl) T.z_len aav (aa (pv 2) ai (se rfl)) (he:=se rfl) (hpl:=na rfl)) ag (bb _)) ai (se rfl)) (he:=se rfl) (hpl:=na rfl))) ai (se rfl))) (aP (i:=5) nd rfl (Or.inl rfl)) (ao (aR (i:=6) nd rfl (Or.inl rfl) (bg cB (hr.mono (by decide)) rfl aK.pass (aa (pv 0) (aa (aL bQ (aL bQ (pv 1) ag) (pv 5)) ai (se rfl)) (se rfl)) (he:=se rfl) (hpl:=na rfl)))
  (ao (aR (i:=7) nd rfl (Or.inl rfl) (aF au (aF bw (pv 2) (aL bE (aL b7 (pv 6) ag) (bc bL (by rfl) T.z_len aav (aa (pv 2) ai (se rfl)) (he:=se rfl) (hpl:=na rfl))) (λ_ _=>rfl)) ag (λ_ _=>rfl)))
  (ao (aR (i:=8) nd rfl (Or.inl rfl) (aF au (aF bw (pv 2) (aL bE (aL bQ (aL b7 (pv 6) ag) ag) (bc bL (by rfl) T.z_len aav (aa (pv 2) ai (se rfl)) (he:=se rfl) (hpl:=na rfl))) (λ_ _=>rfl)) ag (λ_ _=>rfl)))
  (ar (bK (PW.pt (pw_and (aU cA (aL bE (pv 6) ag) ag (bb _)) (pw_and1 (aU BW (pv 8) (pv 7) (bb _))))) (ar (bR (eZ aaz aaD aaE b9.r (pv 4) (aa (aX (aa aG (aa (pv 7) (aa (pv 8) ai (se rfl)) (se rfl)) (se rfl))) ai (se rfl)))))
   (ar (bK (PW.pt (pw_and (aU jd (aL bE (pv 6) ag) ag (bb _)) (pw_and1 (ux (pv 3))))) (ar (bR (eZ aaz aaD aaE b9.r (pv 4) (aa (aX (aa aG (aa (pv 7) ai (se rfl)) (se rfl))) ai (se rfl)))))
   (ar (bR (eZ aaz aaD aaE b9.r (pv 4) (aa (aX (aa (aF bw (bI (aa aG (aa aG ai (se rfl)) (se rfl))) (aL bE (pv 6) ag) (λ_ _=>rfl)) (aa (pv 7) (aa (aL bE (aL b7 (pv 6) ag) ag) ai (se rfl)) (se rfl)) (se rfl))) ai (se rfl)))))))))))))
  (ar (aT (pv 4))))),?_⟩
  refine(?_:let cI:TS:=_;let cJ:TS:=_;let cK:TS:=_;tSeq cI (tSeq cJ cK) _ _ _)
  intro cI cJ cK
  have sl:=sizeLine_eq
  obtain⟨c3,cg⟩:=id gc
  symm
  obtain⟨cl,j3,rfl,jg,Ap⟩:=aS.mp (show Rep H (.lst _) v from rc)
  nofun
  clear G_
  have vv:cs.length=j3.length:=by have:=Ap.length;rw[aad] at this;exact this
  have place:∀{i:Nat} {c},cs[i]?=some c->∃q,j3[i]?=some (.ref q)/\H q=some (.tup [.str c.1,.int c.2]):=λ{i c} e=>by
   obtain⟨v,ev,rv⟩:=Ap.at (i:=i) (by rw[aae,e];rfl)
   symm
   obtain⟨q,a,b,rfl,hq,r1,r2⟩:=bq.mp (show Rep H (.tup _) v from rv)
   rw[aD] at r1
   rw[ba] at r2
   subst r1 r2
   nofun
   exact⟨q,ev,hq⟩
  change tSeq _ _ _ _ _
  refine bh (λN=>∀H1 l,aA H H1->H l=none->H1 l=some (.lst [])->N [some (.ref a),some (.int k0),some (.ref cl),some (.bl th),some (.ref l),none,none,none,none] H1) ?_ (λN hN=>?_)
  case refine_2=>
   simp_all only[]
   exact⟨aak _,λl nl=>hN _ l (ae nl) nl aj⟩
  rintro H1 l s1 nl hl
  change tSeq _ _ _ _ _
  refine bh (λN=>∀H2 ds xs,aA H H2->H2 l=some (.lst xs)->lT cs ds->cS (upd H l (.lst [])) H2 (ds.map qV) xs->∀z5 z6 z7 z8,N [some (.ref a),some (.int k0),some (.ref cl),some (.bl th),some (.ref l),z5,z6,z7,z8] H2) ?_ (λN hN=>?_)
  case refine_2=>
   simp_all only[fk]
   refine⟨ns,s1.seq hS,by omega,by omega,λn8=>?_⟩
   have m1:=Int.emod_nonneg n8 (show(3:Int)≠0 by decide)
   have m2:=Int.emod_lt_of_pos n8 (show(0:Int)<3 by decide)
   refine⟨by decide,_,s1 _ _ jg,?_⟩
   generalize hb:(if (0:Int)< (j3.length:Int) then (1:Int) else 0)=b
   have WG:(b=1/\0<cs.length)\/b=0:=by
    subst hb
    split
    ·exact .inl ⟨rfl,by omega⟩
    ·exact .inr rfl
   have mf:(n8 % 3*b).toNat<=2/\(0< (n8 % 3*b).toNat->0<cs.length)/\IntMulOk (n8 % 3) b/\-2^62<=n8 % 3*b/\n8 % 3*b<2^62:=by
    rcases WG with ⟨e,p⟩ | e
    ·rw[e,Int.mul_one];exact⟨by omega,λ_=>p,nS,by omega,by omega⟩
    ·rw[e,Int.mul_zero];exact⟨by decide,λh=>absurd h (by decide),nS,by decide,by decide⟩
   symm
   obtain⟨m2',mp,mo,WH,WI⟩:=mf
   nofun
   clear G_
   refine⟨mo,WH,WI,?_⟩
   clear mo WH WI WG hb
   generalize (n8 % 3*b).toNat=m at *
   refine cD (src_range (Ok:=λ_=>True)) (λi σ H2=>aA H H2/\∃ds xs,H2 l=some (.lst xs)/\ds.length=i/\(∀d∈ds,pU cs d)/\cS (upd H l (.lst [])) H2 (ds.map qV) xs/\∃z5 z6 z7 z8,σ=[some (.ref a),some (.int k0),some (.ref cl),some (.bl th),some (.ref l),z5,z6,z7,z8]) ⟨s1,[],[],hl,rfl,(λd hd=>by cases hd),fM,_,_,_,_,rfl⟩ (λ_ _ _ _ _=>trivial) ?_ ?_
   ·intro i x σ H2 H3 hi iu fE
    symm
    obtain⟨s3,ds,xs,hx,ld,gd,rx,z5,z6,z7,z8,rfl⟩:=iu
    obtain⟨rfl,rfl⟩:=fE
    nofun
    have xl:xs.length=i:=by have:=aZ.length rx;rw[aad] at this;omega
    have c1:0<cs.length:=mp (by omega)
    have li:fj (upd H l (.lst [])) H3:=λb ys e=>by
     by_cases c:b=l
     ·subst c;exact⟨_,hx⟩
     ·rw[aB c] at e;exact⟨_,s3 _ _ e⟩
    simp only[gName,aa8,aa7,Int.zero_add]
    change tSeq _ _ _ _ _
    refine bh (λN=>∀n:Int,N [some (.ref a),some (.int k0),some (.ref cl),some (.bl th),some (.ref l),some (.int (i:Int)),some (.int n),z7,z8] H3) ?_ (λN hN=>?_)
    case refine_2=>
     simp_all only[fk]
     exact⟨ns,s3.seq hS,by omega,by omega,λn=>hN n⟩
    rintro n
    change tSeq _ _ _ _ _
    refine bh (λN=>∀c,c∈cs.map (·.1)->N [some (.ref a),some (.int k0),some (.ref cl),some (.bl th),some (.ref l),some (.int (i:Int)),some (.int n),some (.str c),z8] H3) ?_ (λN hN=>?_)
    case refine_2=>
     symm
     obtain⟨k,c,ek,ec⟩:=iP (l:=cs) (n / 5) c1
     obtain⟨q,eq,hq⟩:=place ec
     nofun
     have qa:jV j3 (n / 5 % (j3.length:Int))=some (.ref q):=by rw[<-vv,ek];exact dj eq
     simp_all only[s3 _ _ jg]
     exact⟨dB.lit,by omega,_,qa,_,rfl,_,s3 _ _ hq,_,at0,hN _ (List.mem_map.mpr ⟨_,aaj ec,rfl⟩)⟩
    rintro c hc
    change tSeq _ _ _ _ _
    refine bh (λN=>∀c',c'∈cs.map (·.1)->N [some (.ref a),some (.int k0),some (.ref cl),some (.bl th),some (.ref l),some (.int (i:Int)),some (.int n),some (.str c),some (.str c')] H3) ?_ (λN hN=>?_)
    case refine_2=>
     symm
     obtain⟨k,c',ek,ec⟩:=iP (l:=cs) (n / 5+1) c1
     obtain⟨q,eq,hq⟩:=place ec
     nofun
     have qa:jV j3 ((n / 5+1) % (j3.length:Int))=some (.ref q):=by rw[<-vv,ek];exact dj eq
     simp_all only[s3 _ _ jg]
     exact⟨dB.lit,by omega,_,qa,_,rfl,_,s3 _ _ hq,_,at0,hN _ (List.mem_map.mpr ⟨_,aaj ec,rfl⟩)⟩
    rintro c' MZ
    have push:∀(d:Dd) (p:Addr) (H5:Hp),aA H3 H5->c7 (upd H l (.lst [])) H5 (qV d) (.ref p)->pU cs d->aA H (upd H5 l (.lst (xs++ [.ref p])))/\∃(F8:List Dd) (E3:List V),upd H5 l (.lst (xs++ [.ref p])) l=some (.lst E3)/\F8.length=i+1/\(∀d∈F8,pU cs d)/\cS (upd H l (.lst [])) (upd H5 l (.lst (xs++ [.ref p]))) (F8.map qV) E3:=λd p H5 s5 rp ZC=>by
     refine⟨cb (s3.trans s5) nl,ds++ [d],_,aj,by rw[aah,ld];rfl,λe he=>?_,?_⟩
     ·rcases List.mem_append.mp he with he | he
      ·exact gd e he
      ·rw[List.mem_singleton.mp he];exact ZC
     ·show aZ (iA _ (upd _ _ _)) _ _
      rw[iB (ys:=[]) aj,aan]
      exact nh rp (rx.mono s5)
    have ty:EL K "list" (.ref l) H3:=.inl ⟨rfl,_,bD.of hx⟩
    change tIfS _ _ _ _ [some (.ref a),some (.int k0),some (.ref cl),some (.bl th),some (.ref l),some (.int (i:Int)),some (.int n),some (.str c),some (.str c')] H3
    by_cases a1:n % 5=2/\c'≠c
    ·refine dX (λY N k=>by simp_all only[];exact⟨by decide,by rw[if_pos a1.1,if_pos a1.2];exact k⟩) ?_
     simp_all only[cH]
     refine⟨ty,by omega,λp1 H5 s5 iX e5=>?_⟩
     symm
     obtain⟨w1,F8,E3,w2,w3,w4,w5⟩:=push (.move c c') p1 H5 s5 (rM (li.trans s5) e5 bF bF bF) ⟨hc,MZ,Ne.symm a1.2⟩
     nofun
     exact⟨_,s5 _ _ hx,by omega,w1,F8,E3,w2,w3,w4,w5,_,rfl⟩
    ·refine eA (λY N k=>by
      simp_all only[]
      refine⟨by decide,?_⟩
      by_cases e:n % 5=2
      ·rw[if_pos e,if_neg (λz=>a1 ⟨e,z⟩)];exact k
      ·rw[if_neg e,if_neg (by decide)];exact k) ?_
     change tIfS _ _ _ _ [some (.ref a),some (.int k0),some (.ref cl),some (.bl th),some (.ref l),some (.int (i:Int)),some (.int n),some (.str c),some (.str c')] H3
     by_cases a2:2<n % 5/\th=true
     ·refine dX (λY N k=>by simp_all only[];exact⟨by decide,by rw[if_pos a2.1,if_pos a2.2];exact k⟩) ?_
      simp_all only[cH]
      refine⟨ty,by omega,λp1 H5 s5 iX e5=>?_⟩
      symm
      obtain⟨w1,F8,E3,w2,w3,w4,w5⟩:=push (.face c) p1 H5 s5 (xA (li.trans s5) e5 bF bF) hc
      nofun
      exact⟨_,s5 _ _ hx,by omega,w1,F8,E3,w2,w3,w4,w5,_,rfl⟩
     ·refine eA (λY N k=>by
       simp_all only[]
       refine⟨by decide,?_⟩
       by_cases e:2<n % 5
       ·rw[if_pos e,if_neg (λz=>a2 ⟨e,z⟩)];exact k
       ·rw[if_neg e,if_neg (by decide)];exact k) ?_
      have q0:0<=n / 40 % 5:=by omega
      obtain⟨ww,dw,ZD,ZE,ZF⟩:∃w d,jV [V.str (Str.ofString "plus"),V.str (Str.ofString "set")] (n % 2)=some (.str w)/\qV d=.tup [.str w,.str c,.int (n / 40 % 5)]/\pU cs d:=by
       have o:n % 2=0\/n % 2=1:=by omega
       rcases o with o | o
       ·rw[o];exact⟨_,.plus c (n / 40 % 5),rfl,rfl,hc,q0⟩
       ·rw[o];exact⟨_,.set c (n / 40 % 5),rfl,rfl,hc,q0⟩
      simp_all only[cH]
      refine⟨ty,by omega,λp np=>⟨by decide,_,aj,_,ZD,dB.lit,by decide,by omega,λp1 H5 s5 iX e5=>?_⟩⟩
      have P2:=(ae np).trans s5
      obtain⟨w1,F8,E3,w2,w3,w4,w5⟩:=push dw p1 H5 P2 (by rw[ZE];exact rM (li.trans P2) e5 bF bF cE) ZF
      exact⟨_,P2 _ _ hx,by omega,w1,F8,E3,w2,w3,w4,w5,_,rfl⟩
   ·intro σ H2 dF
    symm
    obtain⟨s3,ds,xs,hx,ld,gd,rx,z5,z6,z7,z8,rfl⟩:=dF
    nofun
    exact hN _ ds xs s3 hx ⟨by omega,gd⟩ rx _ _ _ _
  rintro H2 ds xs s2 hx dk rx z5 z6 z7 z8
  simp_all only[]
  exact kk _ ds H2 s2 dk (rL nl hx (rx.low (.of (ae nl))))
theorem ni:aY ["_law_script","_law_at_here","_law_k","_law_counts","_law_names","_law_cell","_law_kind","_law_aims","_law_behind","_law_cut","_law_pools","_law_pool","_law_rows","_law_j","_law_when"] ["_law_script","_law_at_here","_law_k","_law_counts","_law_names"] (aq (top 45)):=⟨rfl,rfl,rfl,by ac_rfl,rfl,by ac_rfl,by ac_rfl⟩
theorem Md (T:Txt K mg aH aI aE aO af av):c6 P w K mg base (bG P w) 3 "_law_what" ["_law_script","_law_at_here","_law_k","_law_counts","_law_names"] (DQ K):=by
 have cB:c6 P w K mg base (bG P w) 1 "_law_at" ["_law_script","_law_k"] (fk K):=xC T
 have iQ:c6 P w K mg base (bG P w) 2 "_law_deeds" ["_law_script","_law_at_here","_law_counts","_law_is_thrown"] (xB K):=Mc T
 refine T.wM.fC (λ_ _ _ _ _ _=>OV λ_ _ _ _ _=>rfl) λf fd F=>F.gJ ni (λvs H Q E h=>?_) (λbZ A outer s H vs Q E hr h=>?_)
 ·obtain⟨_,_,_,_,_,_,_,_,rfl,_⟩:=h;rfl
 ·symm
  obtain⟨a,ns,v,cs,nl,t,k,n,rfl,hS,t1,rc,gc,hn,kn,n6,kk⟩:=h
  nofun
  clear G_
  have nd:=ni.nd
  refine⟨_,(ao (aR (i:=5) nd rfl (Or.inl rfl) (bg cB (hr.mono (by decide)) rfl aK.pass (aa (pv 0) (aa (pv 1) ai (se rfl)) (se rfl)) (he:=se rfl) (hpl:=na rfl)))
  (ao (aR (i:=6) nd rfl (Or.inl rfl) (aL bE (pv 5) ag))
  (ao (iK (i:=7) rfl nd rfl rfl (N:=["_law_script","_law_at_here","_law_k","_law_counts","_law_names","_law_cell","_law_kind","_law_aims","_law_behind","_law_cut","_law_pools","_law_pool","_law_rows","_law_j","_law_when"]) (so:=aq (top 45)) (N':=["_law_j","_law_script","_law_at_here","_law_names"]) (k:=1) (fr:=[0,1,4]) rfl rfl ⟨rfl,by ac_rfl,by ac_rfl,by ac_rfl,rfl,by ac_rfl,by ac_rfl⟩ (eR rfl T.z_range (aa ag ai (se rfl))) (λ_ _ _ _ _=>(aP (i:=0) (show(["_law_j","_law_script","_law_at_here","_law_names"]:List Str).Nodup by ac_rfl) rfl (Or.inl rfl))) (λ_ _ _ _ _=>cm)
   (λ_ _ _ _ _=>(aF bw (pv 3) (aL bE (bg cB (hr.mono (by decide)) rfl aK.pass (aa (pv 1) (aa (aL bQ (aL bQ (pv 2) ag) (pv 0)) ai (se rfl)) (se rfl)) (he:=se rfl) (hpl:=na rfl)) (bc bL (by rfl) T.z_len aav (aa (pv 3) ai (se rfl)) (he:=se rfl) (hpl:=na rfl))) (λ_ _=>rfl))))
  (ao (bK (PW.pt (pw_and (aU cA (pv 6) ag (bb _)) (pw_and (aU jd (bc bL (by rfl) T.z_len aav (aa (pv 3) ai (se rfl)) (he:=se rfl) (hpl:=na rfl)) ag (bb _)) (pw_and1 (aU o7 (aL bQ (pv 2) ag) (bc bL (by rfl) T.z_len aav (aa (pv 4) ai (se rfl)) (he:=se rfl) (hpl:=na rfl)) (bb _)))))) (ao (aR (i:=8) nd rfl (Or.inl rfl) (dA (dZ (K:=K)) (pv 4) (eF (aL bQ (pv 2) ag)) eE))
  (ar (aT (aX (aa aG (aa (aF au (aF bw (pv 3) (aL bE (aL b7 (pv 5) ag) (bc bL (by rfl) T.z_len aav (aa (pv 3) ai (se rfl)) (he:=se rfl) (hpl:=na rfl))) (λ_ _=>rfl)) ag (λ_ _=>rfl)) (aa (aL bE (aL b7 (pv 5) ag) ag) (aa (aF bw (pv 8) ag (λ_ _=>rfl)) (aa (aF bw (pv 8) (aL bE (aL b7 (pv 5) ag) (bc bL (by rfl) T.z_len aav (aa (pv 8) ai (se rfl)) (he:=se rfl) (hpl:=na rfl))) (λ_ _=>rfl)) ai (se rfl)) (se rfl)) (se rfl)) (se rfl)) (se rfl))))))
   bj)
  (ao (bK (PW.pt (pw_and (aU cA (pv 6) ag (bb _)) (pw_and1 (aU jd (bc bL (by rfl) T.z_len aav (aa (pv 3) ai (se rfl)) (he:=se rfl) (hpl:=na rfl)) ag (bb _))))) (ar (aT (aX (aa aG (aa (aF au (aF bw (pv 3) (aL bE (aL b7 (pv 5) ag) (bc bL (by rfl) T.z_len aav (aa (pv 3) ai (se rfl)) (he:=se rfl) (hpl:=na rfl))) (λ_ _=>rfl)) ag (λ_ _=>rfl)) ai (se rfl)) (se rfl)))))
   bj)
  (ao (bK (aU o7 (pv 6) ag (bb _)) (ao (aR (i:=9) nd rfl (Or.inl rfl) (aL bQ ag (aL bE (aL b7 (pv 5) ag) ag)))
  (ao (aR (i:=10) nd rfl (Or.inl rfl) (bI (aa (aX (aa aG (aa ag (aa ag ai (se rfl)) (se rfl)) (se rfl))) (aa (aX (aa aG (aa ag (aa ag ai (se rfl)) (se rfl)) (se rfl))) (aa (aX (aa aG (aa ag (aa ag (aa ag ai (se rfl)) (se rfl)) (se rfl)) (se rfl))) (aa (aX (aa aG (aa ag (aa ag ai (se rfl)) (se rfl)) (se rfl))) (aa (aX (aa aG (aa ag ai (se rfl)) (se rfl))) ai (se rfl)) (se rfl)) (se rfl)) (se rfl)) (se rfl))))
  (ao (aR (i:=11) nd rfl (Or.inl rfl) (bI (aa (aF bw (pv 10) (aL bE (aL b7 (pv 5) ag) ag) (λ_ _=>rfl)) ai (se rfl))))
  (ao (aR (i:=12) nd rfl (Or.inl rfl) (bI (aa (aX (aa ag (aa (pv 9) (aa (bg iQ (hr.mono (by decide)) rfl aK.pass (aa (pv 0) (aa (aL bQ (pv 1) ag) (aa (pv 3) (aa tH ai (se rfl)) (se rfl)) (se rfl)) (se rfl)) (he:=se rfl) (hpl:=na rfl)) (aa (aF bw (pv 7) ag (λ_ _=>rfl)) ai (se rfl)) (se rfl)) (se rfl)) (se rfl))) ai (se rfl))))
  (ao (bR (eZ aaz aaD aaE b9.r (pv 12) (aa (aX (aa (aL bQ (pv 9) ag) (aa ag (aa (bg iQ (hr.mono (by decide)) rfl aK.pass (aa (pv 0) (aa (aL bQ (pv 1) ag) (aa (pv 3) (aa tH ai (se rfl)) (se rfl)) (se rfl)) (se rfl)) (he:=se rfl) (hpl:=na rfl)) (aa (aF bw (pv 7) ag (λ_ _=>rfl)) ai (se rfl)) (se rfl)) (se rfl)) (se rfl))) ai (se rfl))))
  (ar (aT (aX (aa aG (aa (pv 11) (aa (aX (aa (aL nK (aL bE (aL b7 (pv 5) ag) ag) ag) (aa ag ai (se rfl)) (se rfl))) (aa (pv 12) ai (se rfl)) (se rfl)) (se rfl)) (se rfl))))))))))
   bj)
  (ao (bK (aU o7 (pv 6) ag (bb _)) (ao (aR (i:=12) nd rfl (Or.inl rfl) (bI ai))
  (ao (cY PassesOwn.never rfl (eR rfl T.z_range (aa (aL bQ ag (aL bE (aL b7 (pv 5) ag) ag)) ai (se rfl))) (aP (i:=13) nd rfl (Or.inl rfl)) (ao (aR (i:=14) nd rfl (Or.inl rfl) xJ)
  (ao (bK (PW.pt (pw_and (aU jd (bc bL (by rfl) T.z_len aav (aa (pv 3) ai (se rfl)) (he:=se rfl) (hpl:=na rfl)) ag (bb _)) (pw_and1 (aU cA (aL bE (aL b7 (pv 5) (aF bw (bI (aa ag (aa ag (aa ag ai (se rfl)) (se rfl)) (se rfl))) (pv 13) (λ_ _=>rfl))) ag) ag (bb _))))) (ar (aR (i:=14) nd rfl (Or.inl rfl) (aX (aa (aF au (aF bw (pv 3) (aL bE (pv 13) (bc bL (by rfl) T.z_len aav (aa (pv 3) ai (se rfl)) (he:=se rfl) (hpl:=na rfl))) (λ_ _=>rfl)) ag (λ_ _=>rfl)) (aa (aF bw (bI (aa aG (aa aG ai (se rfl)) (se rfl))) (aL bE (aL b7 (pv 5) ag) ag) (λ_ _=>rfl)) (aa (aL bE (aL b7 (pv 5) ag) ag) ai (se rfl)) (se rfl)) (se rfl)))))
   bj)
  (ar (bR (eZ aaz aaD aaE b9.r (pv 12) (aa (aX (aa (aF bw (bI (aa aG (aa aG (aa aG ai (se rfl)) (se rfl)) (se rfl))) (pv 13) (λ_ _=>rfl)) (aa (pv 14) (aa (bg iQ (hr.mono (by decide)) rfl aK.pass (aa (pv 0) (aa (aL bQ (aL bQ (pv 1) ag) (aL cU ag (pv 13))) (aa (pv 3) (aa tH ai (se rfl)) (se rfl)) (se rfl)) (se rfl)) (he:=se rfl) (hpl:=na rfl)) (aa (aF bw (pv 7) (pv 13) (λ_ _=>rfl)) ai (se rfl)) (se rfl)) (se rfl)) (se rfl))) ai (se rfl))))))))
  (ar (aT (aX (aa aG (aa (aL bQ ag (aL bE (aL b7 (pv 5) ag) ag)) (aa (pv 12) ai (se rfl)) (se rfl)) (se rfl)))))))
   bj)
  (ar (aT (aX (aa aG (aa (aX (aa (aL nK (aL bE (aL b7 (pv 5) ag) ag) ag) (aa ag ai (se rfl)) (se rfl))) ai (se rfl)) (se rfl)))))))))))),?_⟩
  refine(?_:let cI:TS:=_;let cJ:TS:=_;let cK:TS:=_;let eC:TS:=_;let rE:TS:=_;let xj:TS:=_;let GW:TS:=_;let Me:TS:=_;tSeq cI (tSeq cJ (tSeq cK (tSeq eC (tSeq rE (tSeq xj (tSeq GW Me)))))) _ _ _)
  intro cI cJ cK eC rE xj GW Me
  have sl:=sizeLine_eq
  obtain⟨c3,cg⟩:=id gc
  symm
  obtain⟨cl,j3,rfl,jg,Ap⟩:=aS.mp (show Rep H (.lst _) v from rc)
  nofun
  clear G_
  have vv:cs.length=j3.length:=by have:=Ap.length;rw[aad] at this;exact this
  have place:∀{i:Nat} {c},cs[i]?=some c->∃q,j3[i]?=some (.ref q)/\H q=some (.tup [.str c.1,.int c.2]):=λ{i c} e=>by
   obtain⟨v,ev,rv⟩:=Ap.at (i:=i) (by rw[aae,e];rfl)
   symm
   obtain⟨q,a,b,rfl,hq,r1,r2⟩:=bq.mp (show Rep H (.tup _) v from rv)
   rw[aD] at r1
   rw[ba] at r2
   subst r1 r2
   nofun
   exact⟨q,ev,hq⟩
  have G4:(pN.take n).length=n:=by rw[aaG];show min n 6=n;omega
  have l6:((pN.take n).length:Int)=(n:Int):=by rw[G4]
  change tSeq _ _ _ _ _
  refine bh (λN=>∀c:Int,N [some (.ref a),some (.int (t:Int)),some (.int (k:Int)),some (.ref cl),some (.ref nl),some (.int c),none,none,none,none,none,none,none,none,none] H) ?_ (λN hN=>?_)
  case refine_2=>
   simp_all only[fk]
   exact⟨ns,hS,by omega,by omega,λc=>hN c⟩
  rintro c
  change tSeq _ _ _ _ _
  refine bh (λN=>N [some (.ref a),some (.int (t:Int)),some (.int (k:Int)),some (.ref cl),some (.ref nl),some (.int c),some (.int (c % 6)),none,none,none,none,none,none,none,none] H) ?_ (λN hN=>?_)
  case refine_2=>
   simp_all only[]
   exact⟨by decide,hN⟩
  change tSeq _ _ _ _ _
  refine bh (λN=>∀H1 al a0 a1 a2,aA H H1->H1 al=some (.lst [.str a0,.str a1,.str a2])->i9 n a0->i9 n a1->i9 n a2->N [some (.ref a),some (.int (t:Int)),some (.int (k:Int)),some (.ref cl),some (.ref nl),some (.int c),some (.int (c % 6)),some (.ref al),none,none,none,none,none,none,none] H1) ?_ (λN hN=>?_)
  case refine_2=>
   simp_all only[fk]
   refine⟨by decide,by decide,?_⟩
   refine comp_map src_range (λ_ _ _ _ h=>by rw[h.1];exact aA.refl _) (by decide) (λi y H2=>∃x,y=.str x/\i9 n x) (λi y H2 H3 s3 h=>h) ?_ ?_
   ·rintro i x w0 H2 H3 Q2 hi s2 ⟨rfl,rfl⟩ kq
    simp_all only[fk,Int.zero_add,s2 _ _ hn]
    refine⟨ns,s2.seq hS,by omega,by omega,λm=>?_⟩
    obtain⟨j,x,ej,ex⟩:=iP (l:=pN.take n) m (by rw[G4];omega)
    exact⟨by rw[aad,G4];omega,_,by rw[aad,ej];exact jQ ex,kq _ _ (aA.refl _) ⟨_,rfl,As ex⟩⟩
   ·intro ys H2 s2 ly hy D n1 n2
    obtain⟨y0,y1,y2,rfl⟩:∃y0 y1 y2,ys=[y0,y1,y2]:=by
     rcases ys with _ | ⟨y0,_ | ⟨y1,_ | ⟨y2,_ | ⟨y3,r⟩⟩⟩⟩
     ·cases ly
     ·cases ly
     ·cases ly
     ·exact⟨_,_,_,rfl⟩
     ·simp at ly
    symm
    obtain⟨x0,rfl,o0⟩:=hy 0 y0 rfl
    obtain⟨x1,rfl,o1⟩:=hy 1 y1 rfl
    obtain⟨x2,rfl,o2⟩:=hy 2 y2 rfl
    nofun
    exact hN _ D x0 x1 x2 (s2.trans (ae n2)) aj o0 o1 o2
  rintro H1 al a0 a1 a2 s1 P4 o0 o1 o2
  have JE:=s1.seq hS
  have Mf:=s1 _ _ hn
  have WJ:=rc.mono s1
  change tSeq _ _ _ _ _
  refine bh (λN=>N [some (.ref a),some (.int (t:Int)),some (.int (k:Int)),some (.ref cl),some (.ref nl),some (.int c),some (.int (c % 6)),some (.ref al),none,none,none,none,none,none,none] H1) ?_ (λN hN=>?_)
  case refine_2=>
   by_cases q:c % 6=5/\0<cs.length/\k+2<n
   ·refine dX (λY N vC=>by
     simp_all only[s1 _ _ jg,Mf]
     rw[if_pos q.1,if_pos (by omega),if_pos (by rw[aad,G4];omega)]
     exact vC) ?_
    change tSeq _ _ _ _ _
    refine bh (λN=>∀H2 bl,aA H1 H2->H2 bl=some (.lst (((pN.take n).drop (k+1)).map V.str))->N [some (.ref a),some (.int (t:Int)),some (.int (k:Int)),some (.ref cl),some (.ref nl),some (.int c),some (.int (c % 6)),some (.ref al),some (.ref bl),none,none,none,none,none,none] H2) ?_ (λN hN=>?_)
    case refine_2=>
     simp_all only[]
     refine⟨_,bD.of Mf,λp np=>hN _ p (ae np) ?_⟩
     rw[aj,gD (by omega),show((k:Int)+1).toNat=k+1 by omega,List.map_drop]
    rintro H2 bl s2 ZG
    have lbl:((pN.take n).drop (k+1)).length=n - (k+1):=by rw[aa0,G4]
    symm
    obtain⟨i1,c1,ei,ec⟩:=iP (l:=cs) (c / 6) q.2.1
    obtain⟨cq,eq,hq⟩:=place ec
    nofun
    have qa:jV j3 (c / 6 % (j3.length:Int))=some (.ref cq):=by rw[<-vv,ei];exact dj eq
    obtain⟨b0,WK⟩:∃b,((pN.take n).drop (k+1))[0]?=some b:=⟨_,aax (by omega)⟩
    symm
    obtain⟨i2,b1,ZH,WL⟩:=iP (l:=(pN.take n).drop (k+1)) (c / 72) (by omega)
    nofun
    have WM:∀(i:Nat) b,((pN.take n).drop (k+1))[i]?=some b->∃j:Nat,k<j/\j<n/\pN[j]?=some b:=λi b e=>by
     rw[List.getElem?_drop] at e
     symm
     obtain⟨j,hj,ej⟩:=As e
     nofun
     rw[aa4] at e
     split at e
     ·exact⟨k+1+i,by omega,by omega,e⟩
     ·cases e
    simp_all only[s2 _ _ (s1 _ _ jg),ZG]
    exact⟨dB.lit,by omega,_,qa,_,rfl,_,s2 _ _ (s1 _ _ hq),_,at0,dB.lit,by decide,_,(show jV _ (0:Int)=_ from jQ (j:=0) WK),dB.lit,by rw[aad];omega,_,by rw[aad,ZH];exact jQ WL,by omega,λp H3 s3 np e3=>kk _ (.ask c1.1 (c / 18 % 5) b0 b1) _ (s1.trans (s2.trans s3)) ⟨List.mem_map.mpr ⟨_,aaj ec,rfl⟩,WM _ _ WK,WM _ _ WL⟩ (vA (.of (s1.trans (s2.trans s3))) e3 (cw bF (cw bF (cw cE (cw bF (cw bF fM))))))⟩
   ·refine eA (λY N vC=>by
     simp_all only[s1 _ _ jg,Mf]
     by_cases q1:c % 6=5
     ·rw[if_pos q1]
      by_cases q2:0<cs.length
      ·rw[if_pos (by omega),if_neg (by rw[aad,G4];intro z;exact q ⟨q1,q2,by omega⟩)];exact vC
      ·rw[if_neg (by omega),if_neg (by decide)];exact vC
     ·rw[if_neg q1,if_neg (by decide)];exact vC) hN
  change tSeq _ _ _ _ _
  refine bh (λN=>N [some (.ref a),some (.int (t:Int)),some (.int (k:Int)),some (.ref cl),some (.ref nl),some (.int c),some (.int (c % 6)),some (.ref al),none,none,none,none,none,none,none] H1) ?_ (λN hN=>?_)
  case refine_2=>
   by_cases q:c % 6=4/\0<cs.length
   ·refine dX (λY N vC=>by
     simp_all only[s1 _ _ jg,Mf]
     rw[if_pos q.1,if_pos (by omega)]
     exact vC) ?_
    symm
    obtain⟨i1,c1,ei,ec⟩:=iP (l:=cs) (c / 6) q.2
    obtain⟨cq,eq,hq⟩:=place ec
    nofun
    have qa:jV j3 (c / 6 % (j3.length:Int))=some (.ref cq):=by rw[<-vv,ei];exact dj eq
    simp_all only[s1 _ _ jg]
    exact⟨dB.lit,by omega,_,qa,_,rfl,_,s1 _ _ hq,_,at0,by omega,λp H2 s2 np e2=>kk _ (.score c1.1) _ (s1.trans s2) (List.mem_map.mpr ⟨_,aaj ec,rfl⟩) (xA (.of (s1.trans s2)) e2 bF bF)⟩
   ·refine eA (λY N vC=>by
     simp_all only[s1 _ _ jg,Mf]
     by_cases q1:c % 6=4
     ·rw[if_pos q1,if_neg (by intro z;exact q ⟨q1,by omega⟩)];exact vC
     ·rw[if_neg q1,if_neg (by decide)];exact vC) hN
  change tSeq _ _ _ _ _
  refine bh (λN=>N [some (.ref a),some (.int (t:Int)),some (.int (k:Int)),some (.ref cl),some (.ref nl),some (.int c),some (.int (c % 6)),some (.ref al),none,none,none,none,none,none,none] H1) ?_ (λN hN=>?_)
  case refine_2=>
   by_cases q:c % 6<2
   ·refine dX (λY N vC=>by simp_all only[];rw[if_pos q];exact vC) ?_
    change tSeq _ _ _ _ _
    refine bh (λN=>N [some (.ref a),some (.int (t:Int)),some (.int (k:Int)),some (.ref cl),some (.ref nl),some (.int c),some (.int (c % 6)),some (.ref al),none,some (.int (1+c / 6 % 4)),none,none,none,none,none] H1) ?_ (λN hN=>?_)
    case refine_2=>
     simp_all only[]
     exact⟨dB.lit,by decide,hN⟩
    change tSeq _ _ _ _ _
    refine bh (λN=>∀H2 pl vs,aA H1 H2->H2 pl=some (.lst vs)->cS H H2 ([Pt.gk 1 4,.gk 2 2,.best 1 2 3,.dJ 1 2,.num 3].map yt) vs->N [some (.ref a),some (.int (t:Int)),some (.int (k:Int)),some (.ref cl),some (.ref nl),some (.int c),some (.int (c % 6)),some (.ref al),none,some (.int (1+c / 6 % 4)),some (.ref pl),none,none,none,none] H2) ?_ (λN hN=>?_)
    case refine_2=>
     simp_all only[]
     refine⟨by omega,λt0 H2 s2 n0 e0=>⟨by omega,λt1 H3 s3 n1 e1=>⟨by omega,λt2 H4 s4 n2 e2=>⟨by omega,λt3 H5 s5 n3 e3=>⟨by omega,λt4 H6 s6 n4 e4=>⟨by omega,λpl np=>?_⟩⟩⟩⟩⟩⟩
     have q6:=ae (o:=.lst [V.ref t0,.ref t1,.ref t2,.ref t3,.ref t4]) np
     have q5:=s6.trans q6
     have q4:=s5.trans q5
     have q3:=s4.trans q4
     have q2:=s3.trans q3
     have q1:=s2.trans q2
     have sF:=s1.trans q1
     exact hN _ pl _ q1 aj (cw (rM (.of sF) (q2 _ _ e0) bF cE cE) (cw (rM (.of sF) (q3 _ _ e1) bF cE cE) (cw (Bz (.of sF) (q4 _ _ e2) bF cE cE cE) (cw (rM (.of sF) (q5 _ _ e3) bF cE cE) (cw (xA (.of sF) (q6 _ _ e4) bF cE) fM)))))
    rintro H2 pl vs s2 hpl BJ
    change tSeq _ _ _ _ _
    refine bh (λN=>∀H3 qv ps,aA H2 H3->ps∈D9->c7 H H3 (.lst (List.map yt ps)) qv->N [some (.ref a),some (.int (t:Int)),some (.int (k:Int)),some (.ref cl),some (.ref nl),some (.int c),some (.int (c % 6)),some (.ref al),none,some (.int (1+c / 6 % 4)),some (.ref pl),some qv,none,none,none] H3) ?_ (λN hN=>?_)
    case refine_2=>
     obtain⟨v,ev,rv⟩:=BJ.ix (i:=c / 24 % 5) (by omega) (map_getD (.num 3) (by show _<5;omega))
     have hp:[([Pt.gk 1 4,.gk 2 2,.best 1 2 3,.dJ 1 2,.num 3]).getD (c / 24 % 5).toNat (.num 3)]∈D9:=by
      have:=show(c / 24 % 5).toNat<5 by omega
      generalize (c / 24 % 5).toNat=j at *
      rcases j with _ | _ | _ | _ | _ | j
      ·exact .head _
      ·exact .tail _ (.head _)
      ·exact .tail _ (.tail _ (.head _))
      ·exact .tail _ (.tail _ (.tail _ (.head _)))
      ·exact .tail _ (.tail _ (.tail _ (.tail _ (.head _))))
      ·omega
     simp_all only[]
     exact⟨dB.lit,by decide,_,hpl,_,ev,by omega,λp np=>hN _ (.ref p) _ (ae np) hp (rL (none_of (s1.trans s2) np) aj (cw (rv.mono (ae np)) fM))⟩
    rintro H3 qv ps s3 NL ZI
    have BK:=s2.trans s3
    have JG:=BK.seq JE
    change tSeq _ _ _ _ _
    refine bh (λN=>∀H4 rl v1 d1,aA H3 H4->H3 rl=none->H4 rl=some (.lst [v1])->lT cs d1->c7 (upd H3 rl (.lst [])) H4 (mn (BE (0,1+c / 6 % 4,d1,a0))) v1->N [some (.ref a),some (.int (t:Int)),some (.int (k:Int)),some (.ref cl),some (.ref nl),some (.int c),some (.int (c % 6)),some (.ref al),none,some (.int (1+c / 6 % 4)),some (.ref pl),some qv,some (.ref rl),none,none] H4) ?_ (λN hN=>?_)
    case refine_2=>
     simp_all only[xB]
     exact⟨ns,JG,by omega,by omega,cs,WJ.mono BK,gc,λu ds H' s' dk ru=>⟨_,(BK.trans s') _ _ P4,_,at0,by omega,λp H4 s4 np e4=>⟨by omega,λrl Jj=>hN _ rl (.ref p) ds (s'.trans (s4.trans (ae Jj))) (none_of (s'.trans s4) Jj) aj dk (c7.fresh (Bz (.of (s'.trans s4)) e4 cE cE (ru.mono s4) bF) Jj)⟩⟩⟩
    rintro H4 rl v1 d1 s4 Jj vJ ZJ ZK
    have li:fj (upd H3 rl (.lst [])) H4:=λb ys e=>by
     by_cases c:b=rl
     ·subst c;exact⟨_,vJ⟩
     ·rw[aB c] at e;exact⟨_,s4 _ _ e⟩
    change tSeq _ _ _ _ _
    refine bh (λN=>∀H5 v2 d2,aA H3 H5->H5 rl=some (.lst [v1,v2])->lT cs d2->cS (upd H3 rl (.lst [])) H5 [mn (BE (0,1+c / 6 % 4,d1,a0)),mn (BE (1+c / 6 % 4+1,9,d2,a1))] [v1,v2]->N [some (.ref a),some (.int (t:Int)),some (.int (k:Int)),some (.ref cl),some (.ref nl),some (.int c),some (.int (c % 6)),some (.ref al),none,some (.int (1+c / 6 % 4)),some (.ref pl),some qv,some (.ref rl),none,none] H5) ?_ (λN hN=>?_)
    case refine_2=>
     simp_all only[xB,cH]
     refine⟨.inl ⟨rfl,_,bD.of vJ⟩,ns,s4.seq JG,by omega,by omega,cs,WJ.mono (BK.trans s4),gc,λu ds H' s' dk ru=>⟨_,(BK.trans (s4.trans s')) _ _ P4,_,at1,by omega,λp H5 s5 np e5=>⟨_,(s'.trans s5) _ _ vJ,by show 1<sizeLine;omega,hN _ (.ref p) ds (cb (s4.trans (s'.trans s5)) Jj) aj dk ?_⟩⟩⟩
     show aZ (iA _ (upd _ _ _)) _ _
     rw[iB (ys:=[]) aj]
     exact cw (ZK.mono (s'.trans s5)) (cw (Bz (li.trans (s'.trans s5)) e5 cE cE ((ru.low li).mono s5) bF) fM)
    rintro H5 v2 d2 s5 P5 ZL ZM
    simp_all only[]
    refine⟨dB.lit,by decide,by omega,λp H6 s6 np e6=>⟨by omega,λp1 H7 s7 iX e7=>?_⟩⟩
    have sA:=s1.trans (BK.trans (s5.trans (s6.trans s7)))
    exact kk _ (.fx (List.map yt ps) (c / 90 % 5 - 2) 1 [(0,1+c / 6 % 4,d1,a0),(1+c / 6 % 4+1,9,d2,a1)]) _ sA ⟨ps,1+c / 6 % 4,d1,a0,d2,a1,rfl,NL,by omega,by omega,rfl,ZJ,ZL,o0,o1⟩ (Bz (.of sA) e7 bF (ZI.mono (s5.trans (s6.trans s7))) (xA (.of sA) (s7 _ _ e6) cE cE) (rL (none_of (s1.trans BK) Jj) ((s6.trans s7) _ _ P5) ((ZM.low (.of ((s1.trans BK).trans (ae Jj)))).mono (s6.trans s7))))
   ·exact eA (λY N vC=>by simp_all only[];rw[if_neg q];exact vC) hN
  change tSeq _ _ _ _ _
  refine bh (λN=>N [some (.ref a),some (.int (t:Int)),some (.int (k:Int)),some (.ref cl),some (.ref nl),some (.int c),some (.int (c % 6)),some (.ref al),none,none,none,none,none,none,none] H1) ?_ (λN hN=>?_)
  case refine_2=>
   by_cases q:c % 6<4
   ·refine dX (λY N vC=>by simp_all only[];rw[if_pos q];exact vC) ?_
    change tSeq _ _ _ _ _
    refine bh (λN=>∀H2 l,aA H1 H2->H1 l=none->H2 l=some (.lst [])->N [some (.ref a),some (.int (t:Int)),some (.int (k:Int)),some (.ref cl),some (.ref nl),some (.int c),some (.int (c % 6)),some (.ref al),none,none,none,none,some (.ref l),none,none] H2) ?_ (λN hN=>?_)
    case refine_2=>
     simp_all only[]
     exact⟨aak _,λl nl=>hN _ l (ae nl) nl aj⟩
    rintro H2 l s2 P6 hl
    change tSeq _ _ _ _ _
    refine bh (λN=>∀H3 rs vs,aA H1 H3->H3 l=some (.lst vs)->List.length rs<=3->(∀r∈rs,lT cs r.ds/\i9 n r.to/\r.word∈wN/\JJ cs r.wh)->cS (upd H1 l (.lst [])) H3 ((rs.map zX).map mn) vs->∀JU JV,N [some (.ref a),some (.int (t:Int)),some (.int (k:Int)),some (.ref cl),some (.ref nl),some (.int c),some (.int (c % 6)),some (.ref al),none,none,none,none,some (.ref l),JU,JV] H3) ?_ (λN hN=>?_)
    case refine_2=>
     simp_all only[]
     refine⟨dB.lit,by decide,by omega,by omega,?_⟩
     have m3:(1+c / 6 % 3).toNat<=3:=by omega
     generalize (1+c / 6 % 3).toNat=mm at *
     refine cD (src_range (Ok:=λ_=>True)) (λi σ H3=>aA H1 H3/\∃(rs:List Rw) (vs:List V),H3 l=some (.lst vs)/\rs.length=i/\(∀r∈rs,lT cs r.ds/\i9 n r.to/\r.word∈wN/\JJ cs r.wh)/\cS (upd H1 l (.lst [])) H3 ((rs.map zX).map mn) vs/\∃JU JV,σ=[some (.ref a),some (.int (t:Int)),some (.int (k:Int)),some (.ref cl),some (.ref nl),some (.int c),some (.int (c % 6)),some (.ref al),none,none,none,none,some (.ref l),JU,JV]) ⟨s2,[],[],hl,rfl,(λr hr=>by cases hr),fM,_,_,rfl⟩ (λ_ _ _ _ _=>trivial) ?_ ?_
     ·intro i x σ P7 H3 hi iu fE
      symm
      obtain⟨s3,rs,vs,Jk,NM,rk,rv,JU,JV,rfl⟩:=iu
      obtain⟨rfl,rfl⟩:=fE
      nofun
      have lv:vs.length=i:=by have:=aZ.length rv;rw[aad,aad] at this;omega
      have li:fj (upd H1 l (.lst [])) H3:=λb ys e=>by
       by_cases c:b=l
       ·subst c;exact⟨_,Jk⟩
       ·rw[aB c] at e;exact⟨_,s3 _ _ e⟩
      have G5:=s1.trans s3
      simp only[gName,aa8,aa7,Int.zero_add]
      change tSeq _ _ _ _ _
      refine bh (λN=>N [some (.ref a),some (.int (t:Int)),some (.int (k:Int)),some (.ref cl),some (.ref nl),some (.int c),some (.int (c % 6)),some (.ref al),none,none,none,none,some (.ref l),some (.int (i:Int)),some .dG] H3) ?_ (λN hN=>?_)
      case refine_2=>
       simp_all only[]
       exact hN
      change tSeq _ _ _ _ _
      refine bh (λN=>∀H4 wv wh,aA H3 H4->JJ cs wh->c7 H3 H4 (FA wh) wv->N [some (.ref a),some (.int (t:Int)),some (.int (k:Int)),some (.ref cl),some (.ref nl),some (.int c),some (.int (c % 6)),some (.ref al),none,none,none,none,some (.ref l),some (.int (i:Int)),some wv] H4) ?_ (λN hN=>?_)
      case refine_2=>
       refine uM (λH'=>aA H3 H'/\0<cs.length) (λH'=>aA H3 H') (λH4 e=>?_) (λH4 e=>hN _ .dG none e (λ_ _ _ z=>by cases z) DP) (λY N hY hN=>?_)
       ·obtain⟨s4,c1⟩:=e
        symm
        obtain⟨i1,cc,ei,ec⟩:=iP (l:=cs) (i:Int) c1
        obtain⟨cq,eq,hq⟩:=place ec
        have qa:jV j3 ((i:Int) % (j3.length:Int))=some (.ref cq):=by rw[<-vv,ei];exact dj eq
        have WN:=G5.trans s4
        obtain⟨fb,ZN,ZO⟩:∃x,dO (.str x)=true/\jV [V.str (Str.ofString "below"),.str (Str.ofString "from")] (c / 200 % 2)=some (.str x):=by
         rcases(show c / 200 % 2=0\/c / 200 % 2=1 by omega) with h | h
         ·rw[h];exact⟨_,(show dO (.str (Str.ofString "below"))=true by ac_rfl),rfl⟩
         ·rw[h];exact⟨_,(show dO (.str (Str.ofString "from"))=true by ac_rfl),rfl⟩
        nofun
        simp_all only[WN _ _ jg]
        exact⟨by omega,_,qa,_,rfl,_,WN _ _ hq,_,at0,by omega,λp np=>⟨dB.lit,by decide,_,aj,_,ZO,dB.lit,by decide,by omega,λp1 H5 s5 iX e5=>hN _ (.ref p1) (some (cc.1,fb,c / 400 % 4)) (s4.trans ((ae np).trans s5)) (λ_ _ _ z=>by cases z;exact⟨List.mem_map.mpr ⟨_,aaj ec,rfl⟩,ZN⟩) (rM (.of (s4.trans ((ae np).trans s5))) e5 bF bF cE)⟩⟩
       ·by_cases c1:0<cs.length
        ·obtain⟨d,d0,d1,hd⟩:∃d:Int,0<d/\d<=100/\jV [V.int 18,.int 36,.int 72] (i:Int)=some (.int d):=by
          rcases(show i=0\/i=1\/i=2 by omega) with rfl | rfl | rfl
          ·exact⟨18,by decide,by decide,rfl⟩
          ·exact⟨36,by decide,by decide,rfl⟩
          ·exact⟨72,by decide,by decide,rfl⟩
         simp_all only[G5 _ _ jg]
         rw[if_pos (by omega)]
         exact⟨by omega,λp np=>⟨_,aj,_,hd,d,rfl,dB.of (n:=64) d0 (Bt.of 1000000 (by omega) (by omega)),by decide,pL (λ_=>hY _ ⟨ae np,c1⟩) (λ_=>hN _ (ae np))⟩⟩
        ·simp_all only[G5 _ _ jg]
         rw[if_neg (by omega),if_neg (by decide)]
         exact hN _ (aA.refl _)
      rintro H4 wv wh s4 wk ZP
      obtain⟨aw,oa,qa⟩:∃x,i9 n x/\jV [V.str a0,.str a1,.str a2] (i:Int)=some (.str x):=by
       rcases(show i=0\/i=1\/i=2 by omega) with rfl | rfl | rfl
       ·exact⟨_,o0,rfl⟩
       ·exact⟨_,o1,rfl⟩
       ·exact⟨_,o2,rfl⟩
      obtain⟨ww,hw,P8⟩:∃x,x∈wN/\jV [V.str (Str.ofString "a"),.str (Str.ofString "b"),.str (Str.ofString "c")] (i:Int)=some (.str x):=by
       rcases(show i=0\/i=1\/i=2 by omega) with rfl | rfl | rfl
       ·exact⟨_,(show Str.ofString "a"∈wN by ac_rfl),rfl⟩
       ·exact⟨_,(show Str.ofString "b"∈wN by ac_rfl),rfl⟩
       ·exact⟨_,(show Str.ofString "c"∈wN by ac_rfl),rfl⟩
      simp_all only[xB,cH]
      refine⟨.inl ⟨rfl,_,bD.of (s4 _ _ Jk)⟩,by omega,λp np=>⟨_,aj,_,P8,eN (by omega) (by omega),ns,((G5.trans s4).trans (ae np)).seq hS,by omega,by omega,cs,rc.mono ((G5.trans s4).trans (ae np)),gc,λu ds H5 s5 dk ru=>⟨_,(s3.trans (s4.trans ((ae np).trans s5))) _ _ P4,_,qa,by omega,λp1 H6 s6 iX e6=>?_⟩⟩⟩
      have sB:=(ae np).trans (s5.trans s6)
      refine⟨_,(s4.trans sB) _ _ Jk,by omega,cb (s3.trans (s4.trans sB)) P6,rs++ [⟨ww,wh,ds,aw⟩],_,aj,by rw[aah,NM];rfl,λr hr=>?_,?_,_,rfl⟩
      ·rcases List.mem_append.mp hr with hr | hr
       ·exact rk r hr
       ·rw[List.mem_singleton.mp hr];exact⟨dk,oa,hw,wk⟩
      ·show aZ (iA _ (upd _ _ _)) _ _
       rw[iB (ys:=[]) aj,aan,aan]
       exact nh (Bz (li.trans (s4.trans sB)) e6 bF ((ZP.low li).mono sB) ((ru.low (li.trans (s4.trans (ae np)))).mono s6) bF) (rv.mono (s4.trans sB))
     ·intro σ H3 dF
      symm
      obtain⟨s3,rs,vs,Jk,NM,rk,rv,JU,JV,rfl⟩:=dF
      nofun
      exact hN _ rs vs s3 Jk (by omega) rk rv _ _
    rintro H3 rs vs s3 Jk NM rk rv JU JV
    simp_all only[]
    refine⟨dB.lit,by decide,by omega,λp H4 s4 np e4=>?_⟩
    have sA:=s1.trans (s3.trans s4)
    exact kk _ (.pick (1+c / 7 % 2) rs) _ sA ⟨NM,rk⟩ (rM (.of sA) e4 bF cE (rL (none_of s1 P6) (s4 _ _ Jk) ((rv.low (.of (s1.trans (ae P6)))).mono s4)))
   ·exact eA (λY N vC=>by simp_all only[];rw[if_neg q];exact vC) hN
  simp_all only[]
  exact⟨dB.lit,by decide,by omega,λp H2 s2 np e2=>⟨by omega,λp1 H3 s3 iX e3=>kk _ (.fin (c / 6 % 9 - 4) 1) _ (s1.trans (s2.trans s3)) trivial (xA (.of (s1.trans (s2.trans s3))) e3 bF (xA (.of (s1.trans (s2.trans s3))) (s3 _ _ e2) cE cE))⟩⟩
theorem nj:aY ["_law_script","_law_counts","_law_k","_law_many","_law_names","_law_places"] ["_law_script"] (aq (top 46)):=⟨rfl,rfl,rfl,by ac_rfl,rfl,by ac_rfl,by ac_rfl⟩
theorem Mg (T:Txt K mg aH aI aE aO af av):c6 P w K mg base (bG P w) 4 "_law_game" ["_law_script"] (DR K):=by
 have cB:c6 P w K mg base (bG P w) 1 "_law_at" ["_law_script","_law_k"] (fk K):=xC T
 have xD:c6 P w K mg base (bG P w) 3 "_law_what" ["_law_script","_law_at_here","_law_k","_law_counts","_law_names"] (DQ K):=Md T
 refine T.wO.fC (λ_ _ _ _ _ _=>ij λ_=>rfl) λf fd F=>F.gJ nj (λvs H Q E h=>?_) (λbZ A outer s H vs Q E hr h=>?_)
 ·obtain⟨_,_,rfl,_⟩:=h;rfl
 ·symm
  obtain⟨a,ns,rfl,hS,kk⟩:=h
  nofun
  clear G_
  have nd:=nj.nd
  refine⟨_,(ao (aR (i:=1) nd rfl (Or.inr rfl) (bI ai))
  (ao (cY PassesOwn.never rfl (eR rfl T.z_range (aa (aL bE (bg cB (hr.mono (by decide)) rfl aK.pass (aa (pv 0) (aa ag ai (se rfl)) (se rfl)) (he:=se rfl) (hpl:=na rfl)) ag) ai (se rfl))) (aP (i:=2) nd rfl (Or.inl rfl)) (ar (bR (eZ aaz aaD aaE b9.r (pv 1) (aa (aX (aa (aF bw (bI (aa aG (aa aG (aa aG ai (se rfl)) (se rfl)) (se rfl))) (pv 2) (λ_ _=>rfl)) (aa (aL bQ ag (aL bE (bg cB (hr.mono (by decide)) rfl aK.pass (aa (pv 0) (aa (aL bQ ag (pv 2)) ai (se rfl)) (se rfl)) (he:=se rfl) (hpl:=na rfl)) ag)) ai (se rfl)) (se rfl))) ai (se rfl))))))
  (ao (aR (i:=3) nd rfl (Or.inl rfl) (aL bQ ag (aL bE (bg cB (hr.mono (by decide)) rfl aK.pass (aa (pv 0) (aa ag ai (se rfl)) (se rfl)) (he:=se rfl) (hpl:=na rfl)) ag)))
  (ao (aR (i:=4) nd rfl (Or.inr rfl) (dA (dZ (K:=K)) (bI (aa aG (aa aG (aa aG (aa aG (aa aG (aa aG ai (se rfl)) (se rfl)) (se rfl)) (se rfl)) (se rfl)) (se rfl))) eE (eF (pv 3))))
  (ao (iK (i:=5) rfl nd rfl rfl (N:=["_law_script","_law_counts","_law_k","_law_many","_law_names","_law_places"]) (so:=aq (top 46)) (N':=["_law_k","_law_script","_law_counts","_law_names"]) (k:=1) (fr:=[0,1,4]) rfl rfl ⟨rfl,by ac_rfl,by ac_rfl,by ac_rfl,rfl,by ac_rfl,by ac_rfl⟩ (eR rfl T.z_range (aa (aL nK (pv 3) ag) ai (se rfl))) (λ_ _ _ _ _=>(aP (i:=0) (show(["_law_k","_law_script","_law_counts","_law_names"]:List Str).Nodup by ac_rfl) rfl (Or.inl rfl))) (λ_ _ _ _ _=>cm)
   (λ_ _ _ _ _=>(aX (aa (aF bw (pv 3) (pv 0) (λ_ _=>rfl)) (aa (bg xD (hr.mono (by decide)) rfl aK.pass (aa (pv 1) (aa (aL bQ ag (aL cU ag (pv 0))) (aa (pv 0) (aa (pv 2) (aa (pv 3) ai (se rfl)) (se rfl)) (se rfl)) (se rfl)) (se rfl)) (he:=se rfl) (hpl:=na rfl)) ai (se rfl)) (se rfl)))))
  (ar (aT (aX (aa (pv 1) (aa (aL iH (pv 5) (bI (aa (aX (aa (aF bw (pv 4) (aL nK (pv 3) ag) (λ_ _=>rfl)) (aa (aX (aa aG (aa (aX (aa ag (aa ag ai (se rfl)) (se rfl))) ai (se rfl)) (se rfl))) ai (se rfl)) (se rfl))) ai (se rfl)))) ai (se rfl)) (se rfl)))))))))),?_⟩
  refine(?_:let cI:TS:=_;let cJ:TS:=_;let cK:TS:=_;let eC:TS:=_;let rE:TS:=_;let xj:TS:=_;tSeq cI (tSeq cJ (tSeq cK (tSeq eC (tSeq rE xj)))) _ _ _)
  intro cI cJ cK eC rE xj
  have sl:=sizeLine_eq
  change tSeq _ _ _ _ _
  refine bh (λN=>∀H1 cl,aA H H1->H cl=none->H1 cl=some (.lst [])->N [some (.ref a),some (.ref cl),none,none,none,none] H1) ?_ (λN hN=>?_)
  case refine_2=>
   simp_all only[]
   exact⟨aak _,λl nl=>hN _ l (ae nl) nl aj⟩
  rintro H1 cl s1 ZQ jg
  change tSeq _ _ _ _ _
  refine bh (λN=>∀H2 cs j3,aA H H2->H2 cl=some (.lst j3)->F2 cs->cS (upd H cl (.lst [])) H2 (cs.map λc=>.tup [.str c.1,.int c.2]) j3->∀z2,N [some (.ref a),some (.ref cl),z2,none,none,none] H2) ?_ (λN hN=>?_)
  case refine_2=>
   simp_all only[fk]
   refine⟨ns,s1.seq hS,by decide,by decide,λn8=>?_⟩
   refine⟨by decide,by omega,by omega,?_⟩
   have m4:(n8 % 4).toNat<=3:=by omega
   generalize (n8 % 4).toNat=mm at *
   refine cD (src_range (Ok:=λ_=>True)) (λi σ H2=>aA H H2/\∃cs j3,H2 cl=some (.lst j3)/\F2 cs/\cs.length=i/\cS (upd H cl (.lst [])) H2 (cs.map λc=>.tup [.str c.1,.int c.2]) j3/\∃z2,σ=[some (.ref a),some (.ref cl),z2,none,none,none]) ⟨s1,[],[],jg,⟨aak _,λi c e=>by simp at e⟩,rfl,fM,_,rfl⟩ (λ_ _ _ _ _=>trivial) ?_ ?_
   ·intro i x σ H2 H3 hi iu fE
    symm
    obtain⟨s2,cs,j3,yS,ck,lcs,rv,z2,rfl⟩:=iu
    obtain⟨rfl,rfl⟩:=fE
    nofun
    obtain⟨c,ec⟩:∃c,cN[i]?=some c:=⟨_,aax (show i<3 by omega)⟩
    have lv:j3.length=i:=by have:=aZ.length rv;rw[aad] at this;omega
    have li:fj (upd H cl (.lst [])) H3:=λb ys e=>by
     by_cases c:b=cl
     ·subst c;exact⟨_,yS⟩
     ·rw[aB c] at e;exact⟨_,s2 _ _ e⟩
    simp_all only[fk,cH,Int.zero_add]
    refine⟨.inl ⟨rfl,_,bD.of yS⟩,by omega,λp np=>⟨_,aj,_,jQ (l:=cN) ec,ns,(s2.trans (ae np)).seq hS,by omega,by omega,λn=>⟨by decide,by omega,λp1 H4 s4 iX e4=>?_⟩⟩⟩
    have NN:=(ae np).trans s4
    refine⟨_,NN _ _ yS,by omega,cb (s2.trans NN) ZQ,cs++ [(c,1+n % 5)],_,aj,⟨by rw[aah];show cs.length+1<=3;omega,λj d ed=>?_⟩,by rw[aah,lcs];rfl,?_,_,rfl⟩
    ·by_cases h:j<cs.length
     ·rw[aaZ h] at ed
      exact ck.2 j d ed
     ·rw[aa9 (by omega)] at ed
      have hj:=(List.getElem?_eq_some_iff.mp ed).1
      have hj:j - cs.length<1:=hj
      rw[show j - cs.length=0 by omega] at ed
      cases ed
      rw[show j=i by omega]
      exact⟨ec,by show 1<=1+n % 5;omega,by show 1+n % 5<=5;omega⟩
    ·show aZ (iA _ (upd _ _ _)) _ _
     rw[iB (ys:=[]) aj,aan]
     exact nh (xA (li.trans NN) e4 bF cE) (rv.mono NN)
   ·intro σ H2 dF
    symm
    obtain⟨s2,cs,j3,yS,ck,lcs,rv,z2,rfl⟩:=dF
    nofun
    exact hN _ cs j3 s2 yS ck rv _
  rintro H2 cs j3 s2 yS ck ZR z2
  have KU:=s2.seq hS
  have P9:Rep H2 (K2 cs) (.ref cl):=aS.mpr ⟨cl,j3,rfl,yS,ZR.rep⟩
  change tSeq _ _ _ _ _
  refine bh (λN=>∀n:Nat,2<=n->n<=6->N [some (.ref a),some (.ref cl),z2,some (.int (n:Int)),none,none] H2) ?_ (λN hN=>?_)
  case refine_2=>
   simp_all only[fk]
   refine⟨ns,KU,by decide,by decide,λn8=>⟨by decide,?_⟩⟩
   have:=hN (2+n8 % 5).toNat (by omega) (by omega)
   rw[Int.toNat_of_nonneg (by omega)] at this
   exact this
  rintro n n2 n6
  change tSeq _ _ _ _ _
  refine bh (λN=>∀H3 nl,aA H2 H3->Jf H3 nl (pN.take n)->N [some (.ref a),some (.ref cl),z2,some (.int (n:Int)),some (.ref nl),none] H3) ?_ (λN hN=>?_)
  case refine_2=>
   simp_all only[]
   refine⟨by omega,λp np=>⟨_,bD.of aj,λp1 iX=>hN _ p1 ((ae np).trans (ae iX)) ?_⟩⟩
   unfold Jf
   rw[aj,ie (by omega),aaQ,List.map_take]
   rfl
  rintro H3 nl s3 hn
  have G5:=s2.trans s3
  have JG:=G5.seq hS
  have WO:=P9.mono s3
  change tSeq _ _ _ _ _
  refine bh (λN=>∀H4 l ps vs,aA H3 H4->H4 l=some (.lst vs)->List.length ps=n - 1->(∀(j:Nat) (x:Str×Wt),ps[j]?=some x->pN[j]?=some x.1/\Bp cs n j x.2)->aZ H4 (ps.map pD) vs->N [some (.ref a),some (.ref cl),z2,some (.int (n:Int)),some (.ref nl),some (.ref l)] H4) ?_ (λN hN=>?_)
  case refine_2=>
   simp_all only[]
   refine⟨by omega,by omega,?_⟩
   rw[show((n:Int) - 1).toNat=n - 1 by omega]
   refine comp_map src_range (λ_ _ _ _ h=>by rw[h.1];exact aA.refl _) (by omega) (λi y H2=>∃x:Str×Wt,(pN[i]?=some x.1/\Bp cs n i x.2)/\Rep H2 (pD x) y) (λi y H2 H3 s3 ⟨x,a,b⟩=>⟨x,a,b.mono s3⟩) ?_ ?_
   ·rintro i x w0 H5 H6 Q2 hi s5 ⟨rfl,rfl⟩ kq
    obtain⟨c,ec⟩:∃c,pN[i]?=some c:=⟨_,aax (show i<6 by omega)⟩
    have qa:jV ((pN.take n).map V.str) (i:Int)=some (.str c):=jQ (by rw[aa4,if_pos (by omega)];exact ec)
    simp_all only[DQ,Int.zero_add]
    exact⟨_,s5 _ _ hn,_,qa,eN (by omega) (by omega),ns,.ref cl,cs,nl,5+7*i,by omega,i,rfl,rfl,rfl,s5.seq JG,by omega,WO.mono s5,ck,n,s5 _ _ hn,by omega,n6,λu w H7 s7 ZT r7=>⟨by omega,λp H8 s8 np e8=>kq _ _ (s7.trans s8) ⟨(c,w),⟨ec,ZT⟩,bq.mpr ⟨p,_,_,rfl,e8,aD.mpr rfl,r7.rep.mono s8⟩⟩⟩⟩
   ·intro ys H5 s5 ly hy D n1 n2
    symm
    obtain⟨ps,L8,NL⟩:=DU (P:=λi (x:Str×Wt) y=>(pN[i]?=some x.1/\Bp cs n i x.2)/\Rep H5 (pD x) y) hy
    nofun
    refine hN _ D ps ys (s5.trans (ae n2)) aj (by omega) (λj x ex=>?_) (aZ.of (by rw[aad];exact L8) λj d v ed ev=>?_)
    ·have hj:=(List.getElem?_eq_some_iff.mp ex).1
     exact(NL j x _ ex (aax (by omega))).1
    ·rw[aae] at ed
     symm
     obtain⟨x,ex,rfl⟩:=Option.map_eq_some_iff.mp ed
     nofun
     exact(NL j x v ex ev).2.mono (ae n2)
  rintro H4 l ps vs s4 hl L8 pk rv
  have lv:vs.length=n - 1:=by have:=rv.length;rw[aad] at this;omega
  obtain⟨c,ec⟩:∃c,pN[n - 1]?=some c:=⟨_,aax (show n - 1<6 by omega)⟩
  have qa:jV ((pN.take n).map V.str) ((n:Int) - 1)=some (.str c):=by
   rw[show(n:Int) - 1=((n - 1:Nat):Int) by omega]
   exact jQ (by rw[aa4,if_pos (by omega)];exact ec)
  simp_all only[vY]
  refine⟨_,s4 _ _ hn,_,qa,by omega,λp H5 s5 np e5=>⟨by omega,λp1 H6 s6 iX e6=>⟨by omega,λp2 H7 s7 uQ e7=>⟨by omega,λp3 F9=>⟨vs,ae F9 _ _ ((s5.trans (s6.trans s7)) _ _ hl),[.ref p2],aj,by rw[lv];show n - 1+1<=sizeLine;omega,λp4 Mh=>⟨by omega,λp5 H8 s8 Qa e8=>?_⟩⟩⟩⟩⟩⟩
  have NO:=(ae F9).trans ((ae Mh).trans s8)
  have Qb:=s5.trans (s6.trans (s7.trans NO))
  refine kk _ ⟨cs,ps++ [(c,.fin 5 3)]⟩ n _ (G5.trans (s4.trans Qb)) ⟨n2,n6,ck.1,ck.2,by show(ps++ [_]).length=n;rw[aah,L8];show n - 1+1=n;omega,λj x ex=>?_⟩ (bq.mpr ⟨p5,_,_,rfl,e8,WO.mono (s4.trans Qb),aS.mpr ⟨p4,_,rfl,s8 _ _ aj,?_⟩⟩)
  ·have ex:(ps++ [(c,Wt.fin 5 3)])[j]?=some x:=ex
   by_cases h:j<ps.length
   ·rw[aaZ h] at ex
    exact pk j x ex
   ·rw[aa9 (by omega)] at ex
    have hj:j - ps.length<1:=(List.getElem?_eq_some_iff.mp ex).1
    rw[show j - ps.length=0 by omega] at ex
    cases ex
    rw[show j=n - 1 by omega]
    exact⟨ec,trivial⟩
  ·show aZ H8 ((ps++ [(c,Wt.fin 5 3)]).map pD) _
   rw[aan]
   exact(rv.mono Qb).append (aJ.mpr ⟨_,_,rfl,bq.mpr ⟨p2,_,_,rfl,NO _ _ e7,aD.mpr rfl,bq.mpr ⟨p1,_,_,rfl,(s7.trans NO) _ _ e6,aD.mpr rfl,bq.mpr ⟨p,_,_,rfl,(s6.trans (s7.trans NO)) _ _ e5,ba.mpr rfl,ba.mpr rfl⟩⟩⟩,bu.mpr rfl⟩)
theorem lh:aY ["_law_turn","_law_some"] ["_law_turn"] (aq (top 47)):=⟨rfl,rfl,rfl,by ac_rfl,rfl,by ac_rfl,by ac_rfl⟩
theorem Mi (T:Txt K mg aH aI aE aO af av):c6 P w K mg base (bG P w) 1 "_law_words" ["_law_turn"] DT:=by
 refine T.uZ.fC (λ_ _ _ _ _ _=>ij λ_=>rfl) λf fd F=>F.gJ lh (λvs H Q E h=>?_) (λbZ A outer s H vs Q E hr h=>?_)
 ·obtain⟨_,rfl,_⟩:=h;rfl
 ·symm
  obtain⟨t,rfl,kk⟩:=h
  nofun
  have nd:=lh.nd
  refine⟨_,(ao (aR (i:=1) nd rfl (Or.inl rfl) (bI (aa aG (aa aG (aa aG (aa aG (aa aG (aa aG (aa aG (aa aG (aa aG (aa aG (aa aG (aa aG (aa aG (aa aG ai (se rfl)) (se rfl)) (se rfl)) (se rfl)) (se rfl)) (se rfl)) (se rfl)) (se rfl)) (se rfl)) (se rfl)) (se rfl)) (se rfl)) (se rfl)) (se rfl))))
  (ao (aR (i:=1) nd rfl (Or.inl rfl) (aL iH (pv 1) (bI (aa aG (aa aG (aa aG (aa aG (aa aG (aa aG (aa aG (aa aG (aa aG (aa aG (aa aG (aa aG (aa aG (aa aG (aa aG (aa aG ai (se rfl)) (se rfl)) (se rfl)) (se rfl)) (se rfl)) (se rfl)) (se rfl)) (se rfl)) (se rfl)) (se rfl)) (se rfl)) (se rfl)) (se rfl)) (se rfl)) (se rfl)) (se rfl)))))
  (ar (aT (aL iH (dA (dZ (K:=K)) (pv 1) (eF (aL bE (pv 0) ag)) eE) (dA (dZ (K:=K)) (pv 1) eE (eF (aL bE (pv 0) ag)))))))),?_⟩
  refine(?_:let cI:TS:=_;let cJ:TS:=_;let cK:TS:=_;tSeq cI (tSeq cJ cK) _ _ _)
  intro cI cJ cK
  have sl:=sizeLine_eq
  change tSeq _ _ _ _ _
  refine bh (λN=>∀H1 l1,aA H H1->H1 l1=some (.lst (wA.map V.str))->N [some (.int t),some (.ref l1)] H1) ?_ (λN hN=>?_)
  case refine_2=>
   simp_all only[]
   exact⟨by omega,λl nl=>hN _ l (ae nl) aj⟩
  rintro H1 l1 s1 h1
  change tSeq _ _ _ _ _
  refine bh (λN=>∀H2 l2,aA H1 H2->H2 l2=some (.lst ((wA++wB).map V.str))->N [some (.int t),some (.ref l2)] H2) ?_ (λN hN=>?_)
  case refine_2=>
   simp_all only[vY]
   exact⟨by omega,λp np=>⟨_,ae np _ _ h1,_,aj,by show 14+16<=sizeLine;omega,λp1 iX=>hN _ p1 ((ae np).trans (ae iX)) (by rw[aj,aan];rfl)⟩⟩
  rintro H2 l2 s2 h2
  simp_all only[vY]
  have t0:0<=t % 30:=Int.emod_nonneg _ (by decide)
  have l30:((wA++wB).map V.str).length=30:=rfl
  refine⟨by decide,_,bD.of h2,λp np=>⟨by decide,_,bD.of (ae np _ _ h2),λp1 iX=>⟨_,ae iX _ _ aj,_,aj,?_,λp2 uQ=>?_⟩⟩⟩
  ·have a:=dI ((wA++wB).map V.str) (some (t % 30)) none
   have b:=dI ((wA++wB).map V.str) none (some (t % 30))
   omega
  ·exact kk p2 ((wA++wB).drop (t % 30).toNat++ (wA++wB).take (t % 30).toNat) _ (((s1.trans s2).trans ((ae np).trans (ae iX))).trans (ae uQ)) (none_of ((s1.trans s2).trans ((ae np).trans (ae iX))) uQ) (by rw[aj,gD t0,ie t0,<-List.map_drop,<-List.map_take,<-aan]) (F7 Ji _)
theorem fS:aY ["_law_deeds_here","_law_counted","_law_found","_law_deed"] ["_law_deeds_here","_law_counted"] (aq (top 48)):=⟨rfl,rfl,rfl,by ac_rfl,rfl,by ac_rfl,by ac_rfl⟩
theorem Mj (T:Txt K mg aH aI aE aO af av):c6 P w K mg base (bG P w) 1 "_law_deeds_named" ["_law_deeds_here","_law_counted"] F6:=by
 refine T.lL.fC (λ_ _ _ _ _ _=>gX λ_ _=>rfl) λf fd F=>F.gJ fS (λvs H Q E h=>?_) (λbZ A outer s H vs Q E hr h=>?_)
 ·obtain⟨_,_,_,_,_,_,rfl,_⟩:=h;rfl
 ·symm
  obtain⟨v,d,ds,cs,ks,ws,rfl,rd,ec,hd,dk,kk⟩:=h
  nofun
  have nd:=fS.nd
  refine⟨_,(ao (aR (i:=2) nd rfl (Or.inl rfl) (bI ai))
  (ao (cY PassesOwn.never rfl (bo (K:=K) (pv 0)) (aP (i:=3) nd rfl (Or.inl rfl)) (ar (bK (aU cA (aF au (pv 3) ag (λ_ _=>rfl)) aG (bb _)) (ar (bR (eZ aaz aaD aaE b9.r (pv 2) (aa (aX (aa aG (aa (bY (cQ hr) (pv 1) (aF au (pv 3) ag (λ_ _=>rfl)) (λ_ _=>rfl)) (aa (bY (cQ hr) (pv 1) (aF au (pv 3) ag (λ_ _=>rfl)) (λ_ _=>rfl)) ai (se rfl)) (se rfl)) (se rfl))) ai (se rfl)))))
   (ar (bR (eZ aaz aaD aaE b9.r (pv 2) (aa (aL (wy (K:=K)) (aX (aa (aF au (pv 3) ag (λ_ _=>rfl)) (aa (bY (cQ hr) (pv 1) (aF au (pv 3) ag (λ_ _=>rfl)) (λ_ _=>rfl)) ai (se rfl)) (se rfl))) (dA B7 (pv 3) (eF ag) eE)) ai (se rfl))))))))
  (ar (aT (pv 2))))),?_⟩
  refine(?_:let cI:TS:=_;let cJ:TS:=_;let cK:TS:=_;tSeq cI (tSeq cJ cK) _ _ _)
  intro cI cJ cK
  have sl:=sizeLine_eq
  subst ec
  symm
  obtain⟨dl,pf,rfl,LB,LC⟩:=aS.mp rd
  nofun
  have ZU:pf.length=ds.length:=by have:=LC.length;rw[aad] at this;omega
  have d2:=dk.1
  change tSeq _ _ _ _ _
  refine bh (λN=>∀H1 l,aA H H1->H l=none->H1 l=some (.lst [])->N [some (.ref dl),some (.ref d),some (.ref l),none] H1) ?_ (λN hN=>?_)
  case refine_2=>
   simp_all only[]
   exact⟨aak _,λl nl=>hN _ l (ae nl) nl aj⟩
  rintro H1 l s1 nl hl
  change tSeq _ _ _ _ _
  refine bh (λN=>∀H2 xs,aA H H2->H2 l=some (.lst xs)->cS (upd H l (.lst [])) H2 ((ds.map (uj (dQ (cs.map (·.1)) ws))).map qV) xs->∀z3,N [some (.ref dl),some (.ref d),some (.ref l),z3] H2) ?_ (λN hN=>?_)
  case refine_2=>
   simp_all only[]
   refine⟨⟨_,bD.of (s1 _ _ LB)⟩,cD (src_list (Ok:=aA H) (λH' s'=>bD.of (s' _ _ LB))) (λi σ H2=>aA H H2/\∃xs,H2 l=some (.lst xs)/\xs.length=i/\cS (upd H l (.lst [])) H2 (((ds.take i).map (uj (dQ (cs.map (·.1)) ws))).map qV) xs/\∃z3,σ=[some (.ref dl),some (.ref d),some (.ref l),z3]) ⟨s1,[],hl,rfl,fM,_,rfl⟩ (λ_ _ _ _ h=>h.1) ?_ ?_⟩
   ·intro i x σ P7 H3 hi iu fE
    symm
    obtain⟨s3,xs,hx,lx,rx,z3,rfl⟩:=iu
    obtain⟨rfl,ex⟩:=fE
    obtain⟨dd,ed,si⟩:=LC.get ex
    rw[aae] at ed
    obtain⟨e,ee,rfl⟩:=Option.map_eq_some_iff.mp ed
    obtain⟨q,rfl,hq⟩:=F5 si
    nofun
    have he:=dk.2 e (aaj ee)
    have li:fj (upd H l (.lst [])) H3:=λb ys e=>by
     by_cases c:b=l
     ·subst c;exact⟨_,hx⟩
     ·rw[aB c] at e;exact⟨_,s3 _ _ e⟩
    have tk:((ds.take (i+1)).map (uj (dQ (cs.map (·.1)) ws))).map qV=((ds.take i).map (uj (dQ (cs.map (·.1)) ws))).map qV++ [qV (uj (dQ (cs.map (·.1)) ws) e)]:=by
     rw[aaC,ee,aan,aan]
     rfl
    rw[tk]
    have ty:EL K "list" (.ref l) H3:=.inl ⟨rfl,_,bD.of hx⟩
    have push:∀(p:Addr) (H5:Hp),aA H3 H5->c7 (upd H l (.lst [])) H5 (qV (uj (dQ (cs.map (·.1)) ws) e)) (.ref p)->aA H (upd H5 l (.lst (xs++ [.ref p])))/\cS (upd H l (.lst [])) (upd H5 l (.lst (xs++ [.ref p]))) (((ds.take i).map (uj (dQ (cs.map (·.1)) ws))).map qV++ [qV (uj (dQ (cs.map (·.1)) ws) e)]) (xs++ [.ref p]):=λp H5 s5 rp=>by
     refine⟨cb (s3.trans s5) nl,?_⟩
     show aZ (iA _ (upd _ _ _)) _ _
     rw[iB (ys:=[]) aj]
     exact nh rp (rx.mono s5)
    simp only[gName,aa8,aa7]
    change tIfS _ _ _ _ [some (.ref dl),some (.ref d),some (.ref l),some (.ref q)] H3
    have DV:=s3 _ _ hq
    have Ml:=hd.mono s3
    cases e with
    | move n m=>
     refine dX (λY N k=>by
      simp_all only[DV,F4]
      exact k) ?_
     simp_all only[cH,DV,F4]
     refine⟨ty,_,Ml.get he.1,_,Ml.get he.2.1,by omega,λp H5 s5 np e5=>?_⟩
     obtain⟨w1,w2⟩:=push p H5 s5 (rM (li.trans s5) e5 bF bF bF)
     exact⟨_,s5 _ _ hx,by omega,w1,_,aj,by rw[aah,lx];rfl,w2,_,rfl⟩
    | set n k=>
     refine eA (λY N k=>by
      simp_all only[DV,F4]
      rw[if_neg (by ac_rfl)]
      exact k) ?_
     have ec:je [V.str (Str.ofString "set"),V.str n,V.int k] (some 2) none=[V.int k]:=by rw[gD (by decide)];rfl
     simp_all only[cH,DV,F4]
     refine⟨ty,_,Ml.get he.1,by omega,λp H5 s5 np e5=>⟨q,_,rfl,gh.of (s5 _ _ DV),(λz=>absurd z.1 (show ¬HT.fh 3 0 (some 2)=0 by decide)),λp1 iX=>?_⟩⟩
     show vW K _ _ (upd H5 p1 (.tup (je [V.str (Str.ofString "set"),V.str n,V.int k] (some 2) none))) _
     rw[ec]
     refine⟨p,p1,_,_,rfl,rfl,gh.of (ae iX _ _ e5),gh.of aj,(by intro z;cases z),by show 2+1<=sizeLine;omega,(λz=>by cases z),λ_ p2 uQ=>?_⟩
     have sA:=s5.trans ((ae iX).trans (ae (o:=.tup ([V.str (Str.ofString "set"),V.str (dQ (cs.map (·.1)) ws n)]++ [V.int k])) uQ))
     obtain⟨w1,w2⟩:=push p2 _ sA (rM (li.trans sA) aj bF bF cE)
     exact⟨_,sA _ _ hx,by omega,w1,_,aj,by rw[aah,lx];rfl,w2,_,rfl⟩
    | plus n k=>
     refine eA (λY N k=>by
      simp_all only[DV,F4]
      rw[if_neg (by ac_rfl)]
      exact k) ?_
     have ec:je [V.str (Str.ofString "plus"),V.str n,V.int k] (some 2) none=[V.int k]:=by rw[gD (by decide)];rfl
     simp_all only[cH,DV,F4]
     refine⟨ty,_,Ml.get he.1,by omega,λp H5 s5 np e5=>⟨q,_,rfl,gh.of (s5 _ _ DV),(λz=>absurd z.1 (show ¬HT.fh 3 0 (some 2)=0 by decide)),λp1 iX=>?_⟩⟩
     show vW K _ _ (upd H5 p1 (.tup (je [V.str (Str.ofString "plus"),V.str n,V.int k] (some 2) none))) _
     rw[ec]
     refine⟨p,p1,_,_,rfl,rfl,gh.of (ae iX _ _ e5),gh.of aj,(by intro z;cases z),by show 2+1<=sizeLine;omega,(λz=>by cases z),λ_ p2 uQ=>?_⟩
     have sA:=s5.trans ((ae iX).trans (ae (o:=.tup ([V.str (Str.ofString "plus"),V.str (dQ (cs.map (·.1)) ws n)]++ [V.int k])) uQ))
     obtain⟨w1,w2⟩:=push p2 _ sA (rM (li.trans sA) aj bF bF cE)
     exact⟨_,sA _ _ hx,by omega,w1,_,aj,by rw[aah,lx];rfl,w2,_,rfl⟩
    | face n=>
     refine eA (λY N k=>by
      simp_all only[DV,F4]
      rw[if_neg (by ac_rfl)]
      exact k) ?_
     have ec:je [V.str (Str.ofString "face"),V.str n] (some 2) none=[]:=by rw[gD (by decide)];rfl
     simp_all only[cH,DV,F4]
     refine⟨ty,_,Ml.get he,by omega,λp H5 s5 np e5=>⟨q,_,rfl,gh.of (s5 _ _ DV),(λz=>absurd z.1 (show ¬HT.fh 2 0 (some 2)=0 by decide)),λp1 iX=>?_⟩⟩
     show vW K _ _ (upd H5 p1 (.tup (je [V.str (Str.ofString "face"),V.str n] (some 2) none))) _
     rw[ec]
     refine⟨p,p1,_,_,rfl,rfl,gh.of (ae iX _ _ e5),gh.of aj,(by intro z;cases z),by show 2+0<=sizeLine;omega,λ_=>?_,(λz=>absurd rfl z)⟩
     have sA:=s5.trans (ae (o:=.tup []) iX)
     obtain⟨w1,w2⟩:=push p _ sA (xA (li.trans sA) (ae iX _ _ e5) bF bF)
     exact⟨_,sA _ _ hx,by omega,w1,_,aj,by rw[aah,lx];rfl,w2,_,rfl⟩
   ·intro σ H2 dF
    symm
    obtain⟨s2,xs,hx,lx,rx,z3,rfl⟩:=dF
    nofun
    rw[ZU,aau (aaf _)] at rx
    exact hN _ xs s2 hx rx _
  rintro H2 xs s2 hx rx z3
  simp_all only[]
  exact kk _ H2 s2 (rL nl hx (rx.low (.of (ae nl))))
theorem gE:aY ["_law_what_here","_law_counted","_law_named","_law_worded","_law_rows","_law_word","_law_when","_law_deeds_here","_law_goal"] ["_law_what_here","_law_counted","_law_named","_law_worded"] (aq (top 49)):=⟨rfl,rfl,rfl,by ac_rfl,rfl,by ac_rfl,by ac_rfl⟩
theorem Mm (T:Txt K mg aH aI aE aO af av):c6 P w K mg base (bG P w) 2 "_law_what_named" ["_law_what_here","_law_counted","_law_named","_law_worded"] Jg:=by
 have gF:c6 P w K mg base (bG P w) 1 "_law_deeds_named" ["_law_deeds_here","_law_counted"] F6:=Mj T
 refine T.mO.fC (λ_ _ _ _ _ _=>Bh λ_ _ _ _=>rfl) λf fd F=>F.gJ gE (λvs H Q E h=>?_) (λbZ A outer s H vs Q E hr h=>?_)
 ·obtain⟨_,_,_,_,_,_,_,_,_,_,_,_,rfl,_⟩:=h;rfl
 ·symm
  obtain⟨v,dc,dp,dw,x,cs,n,i,kc,wc,wp,ww,rfl,rx,pk,ec,hc,hp,n6,hw,kk⟩:=h
  nofun
  have nd:=gE.nd
  refine⟨_,(ao (bK (aU cA (aF au (pv 0) ag (λ_ _=>rfl)) aG (bb _)) (ar (aT (aX (aa aG (aa (bY (cQ hr) (pv 1) (aF au (pv 0) ag (λ_ _=>rfl)) (λ_ _=>rfl)) ai (se rfl)) (se rfl)))))
   bj)
  (ao (bK (aU cA (aF au (pv 0) ag (λ_ _=>rfl)) aG (bb _)) (ar (aT (aX (aa aG (aa (bY (cQ hr) (pv 1) (aF au (pv 0) ag (λ_ _=>rfl)) (λ_ _=>rfl)) (aa (aF au (pv 0) ag (λ_ _=>rfl)) (aa (bY (cQ hr) (pv 2) (aF au (pv 0) ag (λ_ _=>rfl)) (λ_ _=>rfl)) (aa (bY (cQ hr) (pv 2) (aF au (pv 0) ag (λ_ _=>rfl)) (λ_ _=>rfl)) ai (se rfl)) (se rfl)) (se rfl)) (se rfl)) (se rfl)))))
   bj)
  (ao (bK (aU cA (aF au (pv 0) ag (λ_ _=>rfl)) aG (bb _)) (ao (iK (i:=4) rfl nd rfl rfl (N:=["_law_what_here","_law_counted","_law_named","_law_worded","_law_rows","_law_word","_law_when","_law_deeds_here","_law_goal"]) (so:=aq (top 49)) (N':=["_law_low","_law_high","_law_deeds_here","_law_goal","_law_counted","_law_named"]) (k:=4) (fr:=[1,2]) rfl rfl ⟨rfl,by ac_rfl,by ac_rfl,by ac_rfl,rfl,by ac_rfl,by ac_rfl⟩ (bo (K:=K) (aF au (pv 0) ag (λ_ _=>rfl))) (λ_ _ _ _ _=>(c9 (K:=K) (n:=4) rfl (bf (aP (i:=0) (show(["_law_low","_law_high","_law_deeds_here","_law_goal","_law_counted","_law_named"]:List Str).Nodup by ac_rfl) rfl (Or.inl rfl)) (bf (aP (i:=1) (show(["_law_low","_law_high","_law_deeds_here","_law_goal","_law_counted","_law_named"]:List Str).Nodup by ac_rfl) rfl (Or.inl rfl)) (bf (aP (i:=2) (show(["_law_low","_law_high","_law_deeds_here","_law_goal","_law_counted","_law_named"]:List Str).Nodup by ac_rfl) rfl (Or.inl rfl)) (bf (aP (i:=3) (show(["_law_low","_law_high","_law_deeds_here","_law_goal","_law_counted","_law_named"]:List Str).Nodup by ac_rfl) rfl (Or.inl rfl)) c8)))))) (λ_ _ _ _ _=>cm)
   (λ_ _ _ _ _=>(aX (aa (pv 0) (aa (pv 1) (aa (bg gF (hr.mono (by decide)) rfl aK.pass (aa (pv 2) (aa (pv 4) ai (se rfl)) (se rfl)) (he:=se rfl) (hpl:=na rfl)) (aa (bY (cQ hr) (pv 5) (pv 3) (λ_ _=>rfl)) ai (se rfl)) (se rfl)) (se rfl)) (se rfl)))))
  (ar (aT (aL (wy (K:=K)) (dA B7 (pv 0) eE (eF ag)) (aX (aa (pv 4) ai (se rfl)))))))
   bj)
  (ao (bK (aU cA (aF au (pv 0) ag (λ_ _=>rfl)) aG (bb _)) (ao (aR (i:=4) nd rfl (Or.inl rfl) (bI ai))
  (ao (cY PassesOwn.never rfl (bo (K:=K) (aF au (pv 0) ag (λ_ _=>rfl))) (c9 (K:=K) (n:=4) rfl (bf (aP (i:=5) nd rfl (Or.inl rfl)) (bf (aP (i:=6) nd rfl (Or.inl rfl)) (bf (aP (i:=7) nd rfl (Or.inl rfl)) (bf (aP (i:=8) nd rfl (Or.inl rfl)) c8))))) (ao (bK (aU Ez (pv 6) xJ (bb _)) (ar (aR (i:=6) nd rfl (Or.inl rfl) (aX (aa (bY (cQ hr) (pv 1) (aF au (pv 6) ag (λ_ _=>rfl)) (λ_ _=>rfl)) (aa (aF au (pv 6) ag (λ_ _=>rfl)) (aa (aF au (pv 6) ag (λ_ _=>rfl)) ai (se rfl)) (se rfl)) (se rfl)))))
   bj)
  (ar (bR (eZ aaz aaD aaE b9.r (pv 4) (aa (aX (aa (bY (cQ hr) (pv 3) (pv 5) (λ_ _=>rfl)) (aa (pv 6) (aa (bg gF (hr.mono (by decide)) rfl aK.pass (aa (pv 7) (aa (pv 1) ai (se rfl)) (se rfl)) (he:=se rfl) (hpl:=na rfl)) (aa (bY (cQ hr) (pv 2) (pv 8) (λ_ _=>rfl)) ai (se rfl)) (se rfl)) (se rfl)) (se rfl))) ai (se rfl)))))))
  (ar (aT (aX (aa aG (aa (aF au (pv 0) ag (λ_ _=>rfl)) (aa (pv 4) ai (se rfl)) (se rfl)) (se rfl)))))))
   bj)
  (ar (aT (pv 0))))))),?_⟩
  refine(?_:let cI:TS:=_;let cJ:TS:=_;let cK:TS:=_;let eC:TS:=_;let rE:TS:=_;tSeq cI (tSeq cJ (tSeq cK (tSeq eC rE))) _ _ _)
  intro cI cJ cK eC rE
  have sl:=sizeLine_eq
  subst ec
  have hv:∃q vs kd,v=.ref q/\H q=some (.tup (.str kd::vs))/\(kd=Str.ofString "score"↔∃c,x=.score c)/\(kd=Str.ofString "ask"↔∃c k a b,x=.ask c k a b)/\(kd=Str.ofString "throw"↔∃p t b rs,x=.fx p t b rs)/\(kd=Str.ofString "pick"↔∃w rs,x=.pick w rs):=by
   cases x with
   | ask c k a b=>
    symm
    obtain⟨q,vs,rfl,hq,rv⟩:=eG.mp (show Rep H (.tup _) v from rx)
    obtain⟨v1,r,rfl,r1,_⟩:=aJ.mp rv
    nofun
    rw[aD.mp r1] at hq
    exact⟨q,_,_,rfl,hq,⟨λe=>absurd e (by ac_rfl),fun⟨_,e⟩=>by cases e⟩,⟨λ_=>⟨c,k,a,b,rfl⟩,λ_=>rfl⟩,⟨λe=>absurd e (by ac_rfl),fun⟨_,_,_,_,e⟩=>by cases e⟩,⟨λe=>absurd e (by ac_rfl),fun⟨_,_,e⟩=>by cases e⟩⟩
   | fin t b=>
    symm
    obtain⟨q,v1,v2,rfl,hq,r1,_⟩:=bq.mp (show Rep H (.tup _) v from rx)
    nofun
    rw[aD.mp r1] at hq
    exact⟨q,_,_,rfl,hq,⟨λe=>absurd e (by ac_rfl),fun⟨_,e⟩=>by cases e⟩,⟨λe=>absurd e (by ac_rfl),fun⟨_,_,_,_,e⟩=>by cases e⟩,⟨λe=>absurd e (by ac_rfl),fun⟨_,_,_,_,e⟩=>by cases e⟩,⟨λe=>absurd e (by ac_rfl),fun⟨_,_,e⟩=>by cases e⟩⟩
   | score c=>
    symm
    obtain⟨q,v1,v2,rfl,hq,r1,_⟩:=bq.mp (show Rep H (.tup _) v from rx)
    nofun
    rw[aD.mp r1] at hq
    exact⟨q,_,_,rfl,hq,⟨λ_=>⟨c,rfl⟩,λ_=>rfl⟩,⟨λe=>absurd e (by ac_rfl),fun⟨_,_,_,_,e⟩=>by cases e⟩,⟨λe=>absurd e (by ac_rfl),fun⟨_,_,_,_,e⟩=>by cases e⟩,⟨λe=>absurd e (by ac_rfl),fun⟨_,_,e⟩=>by cases e⟩⟩
   | pick w rs=>
    symm
    obtain⟨q,v1,v2,v3,rfl,hq,r1,_⟩:=cM.mp (show Rep H (.tup _) v from rx)
    nofun
    rw[aD.mp r1] at hq
    exact⟨q,_,_,rfl,hq,⟨λe=>absurd e (by ac_rfl),fun⟨_,e⟩=>by cases e⟩,⟨λe=>absurd e (by ac_rfl),fun⟨_,_,_,_,e⟩=>by cases e⟩,⟨λe=>absurd e (by ac_rfl),fun⟨_,_,_,_,e⟩=>by cases e⟩,⟨λ_=>⟨w,rs,rfl⟩,λ_=>rfl⟩⟩
   | fx p t b rs=>
    symm
    obtain⟨q,v1,v2,v3,v4,rfl,hq,r1,_⟩:=dq.mp (show Rep H (.tup _) v from rx)
    nofun
    rw[aD.mp r1] at hq
    exact⟨q,_,_,rfl,hq,⟨λe=>absurd e (by ac_rfl),fun⟨_,e⟩=>by cases e⟩,⟨λe=>absurd e (by ac_rfl),fun⟨_,_,_,_,e⟩=>by cases e⟩,⟨λ_=>⟨p,t,b,rs,rfl⟩,λ_=>rfl⟩,⟨λe=>absurd e (by ac_rfl),fun⟨_,_,e⟩=>by cases e⟩⟩
  symm
  obtain⟨wq,vs0,kd,rfl,G6,WQ,WR,WS,WT⟩:=hv
  nofun
  have toN:∀{to:Str},i9 n to->to∈pN.take n:=λ{to} h=>by
   symm
   obtain⟨j,lj,ej⟩:=h
   nofun
   exact aaj (i:=j) (by rw[aa4,if_pos lj];exact ej)
  change tSeq _ _ _ _ _
  refine bh (λN=>kd≠Str.ofString "score"->N [some (.ref wq),some (.ref dc),some (.ref dp),some (.ref dw),none,none,none,none,none] H) ?_ (λN hN=>?_)
  case refine_2=>
   by_cases k1:kd=Str.ofString "score"
   ·refine dX (λY N k=>by simp_all only[G6];rw[if_pos k1];exact k) ?_
    obtain⟨c,rfl⟩:=WQ.mp k1
    symm
    obtain⟨q',v1,v2,e0,tL,r1,r2⟩:=bq.mp (show Rep H (.tup _) (.ref wq) from rx)
    nofun
    cases e0
    rw[aD.mp r1,aD.mp r2] at tL
    simp_all only[tL]
    exact⟨_,hc.get (show c∈cs.map (·.1) from pk),by omega,λp H1 s1 np e1=>kk _ _ s1 (bq.mpr ⟨p,_,_,rfl,e1,aD.mpr rfl,aD.mpr rfl⟩)⟩
   ·exact eA (λY N k=>by simp_all only[G6];rw[if_neg k1];exact k) (hN k1)
  intro k1
  change tSeq _ _ _ _ _
  refine bh (λN=>kd≠Str.ofString "ask"->N [some (.ref wq),some (.ref dc),some (.ref dp),some (.ref dw),none,none,none,none,none] H) ?_ (λN hN=>?_)
  case refine_2=>
   by_cases k2:kd=Str.ofString "ask"
   ·refine dX (λY N k=>by simp_all only[G6];rw[if_pos k2];exact k) ?_
    symm
    obtain⟨c,vC,a,b,rfl⟩:=WR.mp k2
    obtain⟨q',vs,e0,tL,rv⟩:=eG.mp (show Rep H (.tup _) (.ref wq) from rx)
    nofun
    cases e0
    symm
    obtain⟨v1,r,rfl,r1,rv⟩:=aJ.mp rv
    obtain⟨v2,r,rfl,r2,rv⟩:=aJ.mp rv
    obtain⟨v3,r,rfl,r3,rv⟩:=aJ.mp rv
    obtain⟨v4,r,rfl,r4,rv⟩:=aJ.mp rv
    obtain⟨v5,r,rfl,r5,rv⟩:=aJ.mp rv
    obtain rfl:=bu.mp rv
    rw[aD.mp r1,aD.mp r2,ba.mp r3,aD.mp r4,aD.mp r5] at tL
    obtain⟨ZV,⟨ja,_,la,ea⟩,⟨jb,_,lb,eb⟩⟩:=pk
    nofun
    simp_all only[tL]
    exact⟨_,hc.get ZV,_,rfl,_,hp.get (toN ⟨ja,la,ea⟩),_,rfl,_,hp.get (toN ⟨jb,lb,eb⟩),by omega,λp H1 s1 np e1=>kk _ _ s1 (eG.mpr ⟨p,_,rfl,e1,aJ.mpr ⟨_,_,rfl,aD.mpr rfl,aJ.mpr ⟨_,_,rfl,aD.mpr rfl,aJ.mpr ⟨_,_,rfl,ba.mpr rfl,aJ.mpr ⟨_,_,rfl,aD.mpr rfl,aJ.mpr ⟨_,_,rfl,aD.mpr rfl,bu.mpr rfl⟩⟩⟩⟩⟩⟩)⟩
   ·exact eA (λY N k=>by simp_all only[G6];rw[if_neg k2];exact k) (hN k2)
  intro k2
  change tSeq _ _ _ _ _
  refine bh (λN=>kd≠Str.ofString "throw"->N [some (.ref wq),some (.ref dc),some (.ref dp),some (.ref dw),none,none,none,none,none] H) ?_ (λN hN=>?_)
  case refine_2=>
   by_cases k3:kd=Str.ofString "throw"
   ·refine dX (λY N k=>by simp_all only[G6];rw[if_pos k3];exact k) ?_
    symm
    obtain⟨d9,t,b,rs,rfl⟩:=WS.mp k3
    obtain⟨q',v1,v2,v3,v4,e0,tL,r1,r2,r3,r4⟩:=dq.mp (show Rep H (.tup _) (.ref wq) from rx)
    nofun
    cases e0
    rw[aD.mp r1] at tL
    symm
    obtain⟨rl,Qc,rfl,vJ,Mn⟩:=aS.mp r4
    nofun
    have hk:rs.length=2/\∀r∈rs,lT cs r.2.2.1/\i9 n r.2.2.2:=by
     symm
     obtain⟨ps,cut,d1,t1,d2,t2,_,_,_,_,rfl,k1,k2,o1,o2⟩:=pk
     nofun
     refine⟨rfl,λr hr=>?_⟩
     rcases List.mem_cons.mp hr with rfl | hr
     ·exact⟨k1,o1⟩
     ·rw[List.mem_singleton.mp hr];exact⟨k2,o2⟩
    have Qd:Qc.length=rs.length:=by have:=Mn.length;rw[aad,aad] at this;omega
    change tSeq _ _ _ _ _
    refine bh (λN=>∀H1 l,aA H H1->Rep H1 (.lst (((rs.map (Ed (dQ (cs.map (·.1)) wc) (dQ (pN.take n) wp))).map BE).map mn)) (.ref l)->N [some (.ref wq),some (.ref dc),some (.ref dp),some (.ref dw),some (.ref l),none,none,none,none] H1) ?_ (λN hN=>?_)
    case refine_2=>
     simp_all only[tL]
     refine⟨_,rfl,rl,rfl,⟨_,bD.of vJ⟩,tZ (src_list (Ok:=aA H) (λH' s'=>bD.of (s' _ _ vJ))) (λσ=>∃w0 w1 w2 w3,σ=[w0,w1,w2,w3,some (.ref dc),some (.ref dp)]) ⟨_,_,_,_,rfl⟩ (λi ys H1=>ys.length=i/\aZ H1 ((((rs.take i).map (Ed (dQ (cs.map (·.1)) wc) (dQ (pN.take n) wp))).map BE).map mn) ys) ⟨rfl,bu.mpr rfl⟩ (by omega) ?_ ?_⟩
     ·intro i x σ H1 ys H3 Q2 N2 hi s1 IW _ Qe Qf kQ kN
      symm
      obtain⟨ly,ry⟩:=IW
      obtain⟨w0,w1,w2,w3,rfl⟩:=Qe
      obtain⟨rfl,ex⟩:=Qf
      obtain⟨dd,ed,si⟩:=Mn.get ex
      rw[aas,aae] at ed
      obtain⟨r,er,rfl⟩:=Option.map_eq_some_iff.mp ed
      obtain⟨q,u1,u2,u3,u4,rfl,hq,yT,vD,Qg,Qh⟩:=dq.mp (show Rep _ (.tup _) x from si)
      rw[ba.mp yT,ba.mp vD,aD.mp Qh] at hq
      obtain⟨dk,to⟩:=hk.2 r (aaj er)
      nofun
      refine⟨q,_,rfl,gh.of (s1 _ _ hq),rfl,?_⟩
      have tk:(((rs.take (i+1)).map (Ed (dQ (cs.map (·.1)) wc) (dQ (pN.take n) wp))).map BE).map mn=(((rs.take i).map (Ed (dQ (cs.map (·.1)) wc) (dQ (pN.take n) wp))).map BE).map mn++ [mn (BE (Ed (dQ (cs.map (·.1)) wc) (dQ (pN.take n) wp) r))]:=by
       rw[aaC,er,aan,aan,aan]
       rfl
      simp_all only[sG,F6]
      refine⟨r.2.2.1,Qg.mono s1,cs,wc,hc.mono s1,dk,λu H5 s5 ru=>⟨_,(hp.mono (s1.trans s5)).get (toN to),by omega,λp H6 s6 np e6=>kQ _ _ _ ⟨_,_,_,_,rfl⟩ (s1.trans (s5.trans s6)) ⟨by rw[aah,ly];rfl,?_⟩⟩⟩
      rw[tk]
      exact(ry.mono (s5.trans s6)).append (aJ.mpr ⟨_,_,rfl,dq.mpr ⟨p,_,_,_,_,rfl,e6,ba.mpr rfl,ba.mpr rfl,ru.rep.mono s6,aD.mpr rfl⟩,bu.mpr rfl⟩)
     ·rintro ys H1 s1 ⟨ly,ry⟩ _ D n1 n2
      rw[Qd,aau (aaf _)] at ry
      exact hN _ D (s1.trans (ae n2)) (aS.mpr ⟨D,_,rfl,aj,ry.mono (ae n2)⟩)
    rintro H1 l s1 ZW
    have ZX:je [V.str (Str.ofString "throw"),v2,v3,V.ref rl] none (some 3)=[V.str (Str.ofString "throw"),v2,v3]:=by rw[ie (by decide)];rfl
    simp_all only[s1 _ _ tL]
    refine⟨wq,_,rfl,gh.of (s1 _ _ tL),(λz=>absurd z.2 (show ¬HT.fh 4 4 (some 3)=4 by decide)),λp1 iX=>?_⟩
    rw[ZX]
    refine⟨by omega,λp2 H2 s2 uQ e2=>⟨p1,p2,_,_,rfl,rfl,gh.of (s2 _ _ aj),gh.of e2,(by intro z;cases z),by show 3+1<=sizeLine;omega,(λz=>by cases z),λ_ p3 F9=>?_⟩⟩
    have sA:=s1.trans ((ae iX).trans (s2.trans (ae (o:=.tup ([V.str (Str.ofString "throw"),v2,v3]++ [V.ref l])) F9)))
    exact kk _ _ sA (dq.mpr ⟨p3,_,_,_,_,rfl,aj,aD.mpr rfl,r2.mono sA,r3.mono sA,ZW.mono ((ae iX).trans (s2.trans (ae F9)))⟩)
   ·exact eA (λY N k=>by simp_all only[G6];rw[if_neg k3];exact k) (hN k3)
  intro k3
  change tSeq _ _ _ _ _
  refine bh (λN=>kd≠Str.ofString "pick"->N [some (.ref wq),some (.ref dc),some (.ref dp),some (.ref dw),none,none,none,none,none] H) ?_ (λN hN=>?_)
  case refine_2=>
   by_cases k4:kd=Str.ofString "pick"
   ·refine dX (λY N k=>by simp_all only[G6];rw[if_pos k4];exact k) ?_
    symm
    obtain⟨w,rs,rfl⟩:=WT.mp k4
    obtain⟨q',v1,v2,v3,e0,tL,r1,r2,r3⟩:=cM.mp (show Rep H (.tup _) (.ref wq) from rx)
    nofun
    cases e0
    rw[aD.mp r1,ba.mp r2] at tL
    symm
    obtain⟨rl,Qc,rfl,vJ,Mn⟩:=aS.mp r3
    obtain⟨l3,ZY⟩:=pk
    nofun
    have Qd:Qc.length=rs.length:=by have:=Mn.length;rw[aad,aad] at this;omega
    change tSeq _ _ _ _ _
    refine bh (λN=>∀H1 l,aA H H1->H l=none->H1 l=some (.lst [])->N [some (.ref wq),some (.ref dc),some (.ref dp),some (.ref dw),some (.ref l),none,none,none,none] H1) ?_ (λN hN=>?_)
    case refine_2=>
     simp_all only[]
     exact⟨aak _,λl nl=>hN _ l (ae nl) nl aj⟩
    rintro H1 l s1 nl hl
    change tSeq _ _ _ _ _
    refine bh (λN=>∀H2 xs,aA H H2->H2 l=some (.lst xs)->cS (upd H l (.lst [])) H2 (((rs.map (xc (dQ (cs.map (·.1)) wc) (dQ (pN.take n) wp) (dQ wN ww))).map zX).map mn) xs->∀z5 z6 z7 z8,N [some (.ref wq),some (.ref dc),some (.ref dp),some (.ref dw),some (.ref l),z5,z6,z7,z8] H2) ?_ (λN hN=>?_)
    case refine_2=>
     simp_all only[s1 _ _ tL]
     refine⟨⟨_,bD.of (s1 _ _ vJ)⟩,cD (src_list (Ok:=aA H) (λH' s'=>bD.of (s' _ _ vJ))) (λi σ H2=>aA H H2/\∃xs,H2 l=some (.lst xs)/\xs.length=i/\cS (upd H l (.lst [])) H2 ((((rs.take i).map (xc (dQ (cs.map (·.1)) wc) (dQ (pN.take n) wp) (dQ wN ww))).map zX).map mn) xs/\∃z5 z6 z7 z8,σ=[some (.ref wq),some (.ref dc),some (.ref dp),some (.ref dw),some (.ref l),z5,z6,z7,z8]) ⟨s1,[],hl,rfl,fM,_,_,_,_,rfl⟩ (λ_ _ _ _ h=>h.1) ?_ ?_⟩
     ·intro i x σ P7 H3 hi iu fE
      symm
      obtain⟨s3,xs,hx,lx,NP,z5,z6,z7,z8,rfl⟩:=iu
      obtain⟨rfl,ex⟩:=fE
      obtain⟨dd,ed,si⟩:=Mn.get ex
      rw[aas,aae] at ed
      obtain⟨r,er,rfl⟩:=Option.map_eq_some_iff.mp ed
      obtain⟨q,u1,u2,u3,u4,rfl,hq,yT,vD,Qg,Qh⟩:=dq.mp (show Rep _ (.tup _) x from si)
      rw[aD.mp yT,aD.mp Qh] at hq
      obtain⟨dk,to,ZZ,NF⟩:=ZY r (aaj er)
      nofun
      have li:fj (upd H l (.lst [])) H3:=λb ys e=>by
       by_cases c:b=l
       ·subst c;exact⟨_,hx⟩
       ·rw[aB c] at e;exact⟨_,s3 _ _ e⟩
      have tk:(((rs.take (i+1)).map (xc (dQ (cs.map (·.1)) wc) (dQ (pN.take n) wp) (dQ wN ww))).map zX).map mn=(((rs.take i).map (xc (dQ (cs.map (·.1)) wc) (dQ (pN.take n) wp) (dQ wN ww))).map zX).map mn++ [mn (zX (xc (dQ (cs.map (·.1)) wc) (dQ (pN.take n) wp) (dQ wN ww) r))]:=by
       rw[aaC,er,aan,aan,aan]
       rfl
      rw[tk]
      refine⟨q,_,rfl,gh.of (s3 _ _ hq),rfl,?_⟩
      simp only[gCons,gName,gNil,aa8,aa7]
      refine⟨_,_,rfl,_,_,rfl,_,_,rfl,_,_,rfl,rfl,?_⟩
      change tSeq _ _ _ _ _
      refine bh (λN=>∀H4 u,aA H3 H4->c7 (upd H l (.lst [])) H4 (FA (Ny (dQ (cs.map (·.1)) wc) r.wh)) u->N [some (.ref wq),some (.ref dc),some (.ref dp),some (.ref dw),some (.ref l),some (.str r.word),some u,some u3,some (.str r.to)] H4) ?_ (λN hN=>?_)
      case refine_2=>
       cases NQ:r.wh with
       | none=>
        have vD:Rep H (FA r.wh) u2:=vD
        rw[NQ] at vD
        have e:u2=.dG:=by rw[FA,Rep] at vD;exact vD
        subst e
        rw[NQ] at hN
        exact eA (λY N k=>by simp_all only[];exact k) (hN _ .dG (aA.refl _) DP)
       | some y=>
        symm
        obtain⟨a,b,k⟩:=y
        have vD:Rep H (FA r.wh) u2:=vD
        rw[NQ] at vD hN
        obtain⟨wp',x1,x2,x3,rfl,WU,q1,q2,q3⟩:=cM.mp (show Rep H (.tup _) u2 from vD)
        nofun
        rw[aD.mp q1,aD.mp q2,ba.mp q3] at WU
        refine dX (λY N k=>by simp_all only[];rw[if_pos (by intro z;cases z)];exact k) ?_
        simp_all only[s3 _ _ WU]
        exact⟨_,(hc.mono s3).get (NF a b k NQ).1,by omega,λp H4 s4 np e4=>hN _ _ s4 (rM (li.trans s4) e4 bF bF cE)⟩
      rintro H4 u s4 ru
      simp_all only[cH,F6]
      refine⟨.inl ⟨rfl,_,bD.of (s4 _ _ hx)⟩,_,(hw.mono (s3.trans s4)).get ZZ,r.ds,Qg.mono (s3.trans s4),cs,wc,hc.mono (s3.trans s4),dk,λu1 H5 s5 yT=>⟨_,(hp.mono (s3.trans (s4.trans s5))).get (toN to),by omega,λp H6 s6 np e6=>?_⟩⟩
      have Ga:=s4.trans (s5.trans s6)
      refine⟨_,Ga _ _ hx,by omega,cb (s3.trans Ga) nl,_,aj,by rw[aah,lx];rfl,?_,_,rfl⟩
      show aZ (iA _ (upd _ _ _)) _ _
      rw[iB (ys:=[]) aj]
      exact nh (Bz (li.trans Ga) e6 bF (ru.mono (s5.trans s6)) ((yT.low (li.trans s4)).mono s6) bF) (NP.mono Ga)
     ·intro σ H2 dF
      symm
      obtain⟨s2,xs,hx,lx,NP,z5,z6,z7,z8,rfl⟩:=dF
      nofun
      rw[Qd,aau (aaf _)] at NP
      exact hN _ xs s2 hx NP _ _ _ _
    rintro H2 xs s2 hx Z0 z5 z6 z7 z8
    simp_all only[s2 _ _ tL]
    exact⟨by omega,λp H3 s3 np e3=>kk _ _ (s2.trans s3) (cM.mpr ⟨p,_,_,_,rfl,e3,aD.mpr rfl,ba.mpr rfl,aS.mpr ⟨l,xs,rfl,s3 _ _ hx,Z0.rep.mono s3⟩⟩)⟩
   ·exact eA (λY N k=>by simp_all only[G6];rw[if_neg k4];exact k) (hN k4)
  intro k4
  simp_all only[]
  cases x with
  | ask c k a b=>exact absurd (WR.mpr ⟨c,k,a,b,rfl⟩) k2
  | fin t b=>exact kk _ _ (aA.refl _) rx
  | score c=>exact absurd (WQ.mpr ⟨c,rfl⟩) k1
  | pick w rs=>exact absurd (WT.mpr ⟨w,rs,rfl⟩) k4
  | fx p t b rs=>exact absurd (WS.mpr ⟨p,t,b,rs,rfl⟩) k3
theorem lq:aY ["_law_script","_law_places","_law_asks","_law_others","_law_place","_law_turn"] ["_law_script","_law_places"] (aq (top 50)):=⟨rfl,rfl,rfl,by ac_rfl,rfl,by ac_rfl,by ac_rfl⟩
theorem Jl (T:Txt K mg aH aI aE aO af av):c6 P w K mg base (bG P w) 2 "_law_order" ["_law_script","_law_places"] (Jh K):=by
 have cB:c6 P w K mg base (bG P w) 1 "_law_at" ["_law_script","_law_k"] (fk K):=xC T
 refine T.u0.fC (λ_ _ _ _ _ _=>gX λ_ _=>rfl) λf fd F=>F.gJ lq (λvs H Q E h=>?_) (λbZ A outer s H vs Q E hr h=>?_)
 ·obtain⟨_,_,_,_,rfl,_⟩:=h;rfl
 ·symm
  obtain⟨a,ns,pl,ps,rfl,hS,rp,l6,l0,kk⟩:=h
  nofun
  have nd:=lq.nd
  refine⟨_,(ao (aR (i:=2) nd rfl (Or.inl rfl) (bI ai))
  (ao (aR (i:=3) nd rfl (Or.inl rfl) (bI ai))
  (ao (cY PassesOwn.never rfl (bo (K:=K) (dA (dZ (K:=K)) (pv 1) (eF ag) eE)) (aP (i:=4) nd rfl (Or.inl rfl)) (ar (bK (aU cA (aF au (aF au (pv 4) ag (λ_ _=>rfl)) ag (λ_ _=>rfl)) aG (bb _)) (ar (bR (eZ aaz aaD aaE b9.r (pv 2) (aa (pv 4) ai (se rfl)))))
   (ar (bR (eZ aaz aaD aaE b9.r (pv 3) (aa (pv 4) ai (se rfl))))))))
  (ao (aR (i:=5) nd rfl (Or.inl rfl) (aL bE (bg cB (hr.mono (by decide)) rfl aK.pass (aa (pv 0) (aa ag ai (se rfl)) (se rfl)) (he:=se rfl) (hpl:=na rfl)) (bc (nM rfl) (by rfl) T.z_max rfl (aa ag (aa (bc bL (by rfl) T.z_len aav (aa (pv 3) ai (se rfl)) (he:=se rfl) (hpl:=na rfl)) ai (se rfl)) (se rfl)) (he:=se rfl) (hpl:=na rfl))))
  (ar (aT (aL iH (aL iH (aL iH (dA (dZ (K:=K)) (pv 1) eE (eF ag)) (pv 2)) (dA (dZ (K:=K)) (pv 3) (eF (pv 5)) eE)) (dA (dZ (K:=K)) (pv 3) eE (eF (pv 5)))))))))),?_⟩
  refine(?_:let cI:TS:=_;let cJ:TS:=_;let cK:TS:=_;let eC:TS:=_;let rE:TS:=_;tSeq cI (tSeq cJ (tSeq cK (tSeq eC rE))) _ _ _)
  intro cI cJ cK eC rE
  have sl:=sizeLine_eq
  symm
  obtain⟨l0,Ef,e0,hpl,BJ⟩:=aS.mp rp
  nofun
  cases e0
  have WV:Ef.length=ps.length:=by have:=BJ.length;rw[aad] at this;omega
  change tSeq _ _ _ _ _
  refine bh (λN=>∀H1 l1,aA H H1->H l1=none->H1 l1=some (.lst [])->N [some (.ref a),some (.ref pl),some (.ref l1),none,none,none] H1) ?_ (λN hN=>?_)
  case refine_2=>
   simp_all only[]
   exact⟨aak _,λl nl=>hN _ l (ae nl) nl aj⟩
  rintro H1 l1 s1 n1 h1
  change tSeq _ _ _ _ _
  refine bh (λN=>∀H2 l2,aA H1 H2->H1 l2=none->H2 l2=some (.lst [])->N [some (.ref a),some (.ref pl),some (.ref l1),some (.ref l2),none,none] H2) ?_ (λN hN=>?_)
  case refine_2=>
   simp_all only[]
   exact⟨aak _,λl nl=>hN _ l (ae nl) nl aj⟩
  rintro H2 l2 s2 n2 h2
  have WW:l1≠l2:=λz=>by rw[z,n2] at h1;cases h1
  have Ly:=s1.trans s2
  have vE:=none_of s1 n2
  change tSeq _ _ _ _ _
  refine bh (λN=>∀H3 A B va vb z4,aA H H3->H3 l1=some (.lst va)->H3 l2=some (.lst vb)->aZ H (List.map pD A) va->aZ H (List.map pD B) vb->(A++B).Perm (ps.drop 1)->N [some (.ref a),some (.ref pl),some (.ref l1),some (.ref l2),z4,none] H3) ?_ (λN hN=>?_)
  case refine_2=>
   simp_all only[]
   refine⟨_,bD.of (Ly _ _ hpl),λp np=>?_⟩
   rw[gD (by decide)]
   have iX:p≠l1:=λz=>by rw[z,s2 _ _ h1] at np;cases np
   have uQ:p≠l2:=λz=>by rw[z,h2] at np;cases np
   have ld:(Ef.drop 1).length=(ps.drop 1).length:=by rw[aa0,aa0,WV]
   refine⟨⟨_,bD.of aj⟩,cD (src_list (Ok:=λH'=>H' p=some (.lst (Ef.drop 1))) (λH' e=>bD.of e)) (λi σ H3=>aA H H3/\H3 p=some (.lst (Ef.drop 1))/\∃A B va vb,H3 l1=some (.lst va)/\H3 l2=some (.lst vb)/\aZ H (List.map pD A) va/\aZ H (List.map pD B) vb/\(A++B).Perm ((ps.drop 1).take i)/\∃z4,σ=[some (.ref a),some (.ref pl),some (.ref l1),some (.ref l2),z4,none]) ⟨Ly.trans (ae np),aj,[],[],[],[],ae np _ _ (s2 _ _ h1),ae np _ _ h2,bu.mpr rfl,bu.mpr rfl,List.Perm.refl _,_,rfl⟩ (λ_ _ _ _ h=>h.2.1) ?_ ?_⟩
   ·intro i x σ P7 H3 hi iu fE
    symm
    obtain⟨s3,Qi,A,B,va,vb,Jm,Gb,rA,rB,pm,z4,rfl⟩:=iu
    obtain⟨rfl,ex⟩:=fE
    rw[List.getElem?_drop] at ex
    obtain⟨dd,ed,si⟩:=BJ.get ex
    rw[aae] at ed
    obtain⟨y,ey,rfl⟩:=Option.map_eq_some_iff.mp ed
    obtain⟨q,u1,u2,rfl,hq,r1,r2⟩:=bq.mp (show Rep H (.tup _) x from si)
    obtain⟨q2,U7,kd,rfl,JL⟩:=Mb r2
    nofun
    have la:va.length=A.length:=by have:=rA.length;rw[aad] at this;omega
    have lb:vb.length=B.length:=by have:=rB.length;rw[aad] at this;omega
    have Qj:=pm.length_eq
    rw[aah,aaG,aa0] at Qj
    have hi':i< (ps.drop 1).length:=by rw[<-ld];exact hi
    have tk:(ps.drop 1).take (i+1)=(ps.drop 1).take i++ [y]:=by rw[aaC,List.getElem?_drop,ey];rfl
    rw[tk]
    simp only[gName,aa8,aa7]
    change tIfS _ _ _ _ [some (.ref a),some (.ref pl),some (.ref l1),some (.ref l2),some (.ref q),none] H3
    refine uM (λH'=>H3=H') (λH'=>H3=H') (λH6 e=>?_) (λH6 e=>?_) (λY N hY hN=>?_)
    ·subst e
     simp_all only[cH]
     refine⟨.inl ⟨rfl,_,bD.of Jm⟩,_,Jm,by omega,cb s3 n1,by rw[aB iX];exact Qi,A++ [y],B,_,aj,vb,by rw[aB (Ne.symm WW)];exact Gb,?_,rB,?_,_,rfl⟩
     ·rw[aan]
      exact rA.append (aJ.mpr ⟨_,_,rfl,si,bu.mpr rfl⟩)
     ·rw[aa5]
      exact((List.perm_append_comm.append_left A).trans (by rw[<-aa5])).trans (pm.append_right [y])
    ·subst e
     simp_all only[cH]
     refine⟨.inl ⟨rfl,_,bD.of Gb⟩,_,Gb,by omega,cb s3 vE,by rw[aB uQ];exact Qi,A,B++ [y],va,by rw[aB WW];exact Jm,_,aj,rA,?_,?_,_,rfl⟩
     ·rw[aan]
      exact rB.append (aJ.mpr ⟨_,_,rfl,si,bu.mpr rfl⟩)
     ·rw[<-aa5]
      exact pm.append_right [y]
    ·simp_all only[s3 _ _ hq,s3 _ _ JL]
     exact pL (λ_=>hY _ rfl) (λ_=>hN _ rfl)
   ·intro σ H3 dF
    symm
    obtain⟨s3,Qi,A,B,va,vb,Jm,Gb,rA,rB,pm,z4,rfl⟩:=dF
    nofun
    rw[ld,aau (aaf _)] at pm
    exact hN _ A B va vb _ s3 Jm Gb rA rB pm
  rintro H3 A B va vb z4 s3 Jm Gb rA rB pm
  have lB:vb.length=B.length:=by have:=rB.length;rw[aad] at this;omega
  change tSeq _ _ _ _ _
  refine bh (λN=>∀t:Int,0<=t->N [some (.ref a),some (.ref pl),some (.ref l1),some (.ref l2),z4,some (.int t)] H3) ?_ (λN hN=>?_)
  case refine_2=>
   simp_all only[fk]
   exact⟨ns,s3.seq hS,by decide,by decide,λn=>⟨_,Gb,by split <;>omega,hN _ (Int.emod_nonneg _ (by split <;>omega))⟩⟩
  rintro t t0
  have la:va.length=A.length:=by have:=rA.length;rw[aad] at this;omega
  have Qj:=pm.length_eq
  rw[aah,aa0] at Qj
  have c1:=dI Ef none (some 1)
  have c2:=dI vb (some t) none
  have c3:=dI vb none (some t)
  simp_all only[vY]
  refine⟨_,bD.of (s3 _ _ hpl),λp np=>⟨_,aj,va,ae np _ _ Jm,by omega,λp1 iX=>⟨vb,bD.of (ae iX _ _ (ae np _ _ Gb)),λp2 uQ=>⟨_,ae uQ _ _ aj,_,aj,by rw[aah];omega,λp3 F9=>⟨vb,bD.of (ae F9 _ _ (ae uQ _ _ (ae iX _ _ (ae np _ _ Gb)))),λp4 Mh=>⟨_,ae Mh _ _ aj,_,aj,by rw[aah,aah];omega,λp5 Qa=>?_⟩⟩⟩⟩⟩⟩
  refine kk p5 (ps.take 1++A++B.drop t.toNat++B.take t.toNat) _ (s3.trans ((ae np).trans ((ae iX).trans ((ae uQ).trans ((ae F9).trans ((ae Mh).trans (ae Qa))))))) (aS.mpr ⟨p5,_,rfl,aj,?_⟩) ?_ ?_
  ·refine aZ.mono (s3.trans ((ae np).trans ((ae iX).trans ((ae uQ).trans ((ae F9).trans ((ae Mh).trans (ae Qa))))))) ?_
   rw[ie (by decide),gD t0,ie t0,aan,aan,aan,List.map_take,List.map_drop,List.map_take]
   exact(((uq BJ).append rA).append (BB rB)).append (uq rB)
  ·have q1:(B.drop t.toNat++B.take t.toNat).Perm B:=List.perm_append_comm.trans (by rw[List.take_append_drop])
   rw[aa5,aa5]
   refine((q1.append_left A).append_left (ps.take 1)).trans ?_
   exact(pm.append_left (ps.take 1)).trans (by rw[List.take_append_drop])
  ·cases ps with
   | nil=>cases l0
   | cons y r=>rfl
theorem nu:aY ["_law_game_here"] ["_law_game_here"] (aq (top 51)):=⟨rfl,rfl,rfl,by ac_rfl,rfl,by ac_rfl,by ac_rfl⟩
theorem Gc (T:Txt K mg aH aI aE aO af av):c6 P w K mg base (bG P w) 11 "_law_told" ["_law_game_here"] Ar:=by
 have DW:c6 P w K mg base (bG P w) 10 "spread" ["game"] (yD aO aE):=Jc T
 refine T.wQ.fC (λ_ _ _ _ _ _=>ij λ_=>rfl) λf fd F=>F.gJ nu (λvs H Q E h=>?_) (λbZ A outer s H vs Q E hr h=>?_)
 ·obtain⟨_,_,_,_,_,_,_,_,rfl,_⟩:=h;rfl
 ·symm
  obtain⟨gv,g,ft,nm,fu,o,SS,tss,rfl,rg,gg,hd,ak,L7,o2,sp,xo,k1,k2,kk⟩:=h
  nofun
  have nd:=nu.nd
  refine⟨_,(ar (C3 DW (hr.mono (by decide)) rfl (aa (pv 0) ai (se rfl)) rfl rfl rfl T.k_NoWay rfl T.k_TooMany (λad=>(ar (aT aG))) (λad=>(ar (aT aG))) (he:=se rfl) (hpl:=na rfl))),?_⟩
  have sl:=sizeLine_eq
  simp_all only[C0,GK,yD]
  exact⟨g,rg,gg,_,hd,nm,fu,ak,L7,o,o2,SS,tss,sp,xo,λo1 H1 s1=>.inl ⟨T.e_NoWay_NoWay,λad KH=>k1 o1 _ (s1.trans (ae KH))⟩,λo2 H1 s1=>.inr ⟨T.f_TooMany_NoWay,T.e_TooMany_TooMany,λad KH=>k2 o2 _ (s1.trans (ae KH))⟩,kk⟩
theorem DX:aY ["_law_script","_law_counts","_law_places","_law_counted","_law_named","_law_worded","_law_others","_law_one","_law_other","_law_states","_law_words_here"] ["_law_script"] (aq (top 52)):=⟨rfl,rfl,rfl,by ac_rfl,rfl,by ac_rfl,by ac_rfl⟩
theorem Jn {g:Gm} {SS:List bO} {st:bO} {ts:List (Int×bO)}:Kx 3 (mV g SS st ts):=by
 unfold mV ox
 cases look g.ps st.1 with
 | none=>exact Jd
 | some x=>cases x with
  | fx p t b rs=>
   refine Je (oy (by ac_rfl)) (DO (n:=1) (iO _) (iO _)) (lX (n:=1) λd hd=>?_)
   obtain⟨y,_,rfl⟩:=List.mem_map.mp hd
   exact DO (iO _) (iO _)
  | pick w rs=>
   refine Je (oy (by ac_rfl)) (iO _) (lX (n:=1) λd hd=>?_)
   obtain⟨y,_,rfl⟩:=List.mem_map.mp hd
   exact iO _
  | _=>exact DO (oy (by ac_rfl)) (DO (n:=1) (iO _) (iO _))
noncomputable def Jo (g:Gm) (o:Nat) (SS:List bO) (tss:List (List (Int×bO))):Dat:=match o with
 | 0=>BA g SS tss
 | 1=>.str (Str.ofString "noway")
 | _=>.str (Str.ofString "many")
theorem Aw {g:Gm} {SS:List bO} {tss:List (List (Int×bO))} {Fr:Addr->Prop} {H':Hp} {p b l wl:Addr} {bs xs ws:List V} (hp:H' p=some (.tup [.ref b,.ref l,.ref wl])) (hb:H' b=some (.lst bs)) (rb:aZ H' (vg g SS tss) bs) (hl:H' l=some (.lst xs)) (al:Al (λs v=>Ae Fr H' v s.1 s.2) SS xs) (hw:H' wl=some (.lst ws)) (AO:aZ H' (SS.map (gq g)) ws):Rep H' (BA g SS tss) (.ref p):=by
 unfold BA
 refine cM.mpr ⟨p,_,_,_,rfl,hp,aS.mpr ⟨b,bs,rfl,hb,rb⟩,aS.mpr ⟨l,xs,rfl,hl,Al.Bi (al.imp λs v h=>?_)⟩,aS.mpr ⟨wl,ws,rfl,hw,AO⟩⟩
 obtain⟨a,l2,rfl,h1,h2,_⟩:=h
 exact bq.mpr ⟨a,_,_,rfl,h1,aD.mpr rfl,aS.mpr ⟨l2,_,rfl,h2,ints_rep _⟩⟩
noncomputable def Gd (g:Gm) (pn wn:Str->Str) (SS:List bO) (tss:List (List (Int×bO))):Dat:=.tup [.lst (vg g SS tss),.lst (SS.map λs=>F3 (eP pn s)),.lst (SS.map (vn wn g))]
theorem Ge {g g':Gm} {n:Nat} {cn pn wn:Str->Str} {SS ss:List bO} {tss:List (List (Int×bO))} (R:dP g g' cn pn wn) (G:gi g n) (sub:∀s∈SS,jk g s) (sp:fe g 0 SS 0 ss tss):BA g' (SS.map (eP pn)) (tss.map λts=>ts.map (Ai pn))=Gd g pn wn SS tss:=by
 unfold BA Gd
 rw[R.YM G sub sp,aas,aas]
 have e:SS.map (gq g' ∘eP pn)=SS.map (vn wn g):=List.map_congr_left λs hs=>R.words G (sub s hs)
 rw[e]
 rfl
theorem Jp {g g':Gm} {n:Nat} {cn pn wn:Str->Str} {SS:List bO} {tss:List (List (Int×bO))} (R:dP g g' cn pn wn) (G:gi g n) (hw:∀w∈wN,dO (.str (wn w))=true) (sub:∀s∈SS,jk g s):Ke (Gd g pn wn SS tss):=by
 refine F1 (n:=5) (Je (lX (n:=3) λd hd=>?_) (lX (n:=3) λd hd=>?_) (lX (n:=3) λd hd=>?_)) (by decide)
 ·obtain⟨x,_,rfl⟩:=List.mem_map.mp hd
  exact Jn
 ·obtain⟨s,hs,rfl⟩:=List.mem_map.mp hd
  exact DO (oy (R.hp _ (sub s hs).nm)) (lX (n:=1) λd hd=>by obtain⟨k,_,rfl⟩:=List.mem_map.mp hd;exact iO _)
 ·obtain⟨s,hs,rfl⟩:=List.mem_map.mp hd
  obtain⟨⟨j,x,ex,na,es⟩,ir⟩:=id (sub s hs)
  have lk:=G.look ex
  rw[<-es] at lk
  have pk:=(G.pn j x ex).2
  unfold vn
  rw[lk]
  refine lX (n:=2) λd hd=>?_
  obtain⟨r,hr,rfl⟩:=List.mem_map.mp hd
  cases e:x.2 with
  | pick w rs=>
   have hr:r∈bX g.cs s.2 x.2:=hr
   rw[e] at pk hr
   exact oy (hw _ (pk.2 r (List.mem_filter.mp (show r∈List.filter (λr=>fJ g.cs s.2 r.wh) rs from hr)).1).2.2.1)
  | ask c k a b=>have hr:r∈bX g.cs s.2 x.2:=hr;rw[e] at hr;cases hr
  | fin t b=>have hr:r∈bX g.cs s.2 x.2:=hr;rw[e] at hr;cases hr
  | score c=>have hr:r∈bX g.cs s.2 x.2:=hr;rw[e] at hr;cases hr
  | fx d9 t b rs=>have hr:r∈bX g.cs s.2 x.2:=hr;rw[e] at hr;cases hr
theorem Jq {g:Gm} {n:Nat} (G:gi g n) {po:List (Str×Wt)} (pm:po.Perm g.ps) {wc wp:List Str} (kc:sY wc) (kp:sY wp) {wn:Str->Str}:dP g ⟨(g.cs.map λc=>(dQ (g.cs.map (·.1)) wc c.1,c.2)).reverse,po.map λp=>(dQ (pN.take n) wp p.1,yE (dQ (g.cs.map (·.1)) wc) (dQ (pN.take n) wp) wn p.2)⟩ (dQ (g.cs.map (·.1)) wc) (dQ (pN.take n) wp) wn:=by
 have c3:=G.c3
 have n6:=G.n6
 have l1:(g.cs.map (·.1)).length<=wc.length:=by rw[aad,kc.1];omega
 have l2:(pN.take n).length<=wp.length:=by rw[aaG,kp.1];show min n 6<=30;omega
 have i2:∀x∈g.ps.map (·.1),∀y∈g.ps.map (·.1),dQ (pN.take n) wp x=dQ (pN.take n) wp y->x=y:=by rw[G.GQ];exact Av l2 kp.2.1
 refine⟨rfl,Av l1 kc.2.1,λp hp=>List.mem_map.mpr ⟨p,pm.mem_iff.mpr hp,rfl⟩,λx hx=>?_,by show(po.map _).length=_;rw[aad];exact pm.length_eq,?_,i2,by rw[G.GQ];exact DS l2 kp.2.2⟩
 ·obtain⟨p,hp,rfl⟩:=List.mem_map.mp hx
  exact⟨p,pm.mem_iff.mp hp,rfl⟩
 ·have e:((po.map λp=>(dQ (pN.take n) wp p.1,yE (dQ (g.cs.map (·.1)) wc) (dQ (pN.take n) wp) wn p.2)).map (·.1))=(po.map (·.1)).map (dQ (pN.take n) wp):=by rw[aas,aas];rfl
  show(List.map (λx:Str×Wt=>x.1) (po.map λp=>(dQ (pN.take n) wp p.1,yE (dQ (g.cs.map (·.1)) wc) (dQ (pN.take n) wp) wn p.2))).Nodup
  rw[e]
  have Mo:=pm.map (·.1)
  exact vm (Mo.symm.nodup G.gg.np) λx hx y hy=>i2 x (Mo.mem_iff.mp hx) y (Mo.mem_iff.mp hy)
theorem xE {ys:List V} {l:List Str} (h:ys.length=l.length) (k:∀(j:Nat) y x,ys[j]?=some y->l[j]?=some x->y=.str x):ys=l.map V.str:=by
 apply List.ext_getElem?
 intro j
 rw[aae]
 cases e:ys[j]? with
 | none=>rw[aa1 (by have:=List.getElem?_eq_none_iff.mp e;omega)];rfl
 | some y=>
  have hj:=(List.getElem?_eq_some_iff.mp e).1
  have ec:=aax (show j<l.length by omega)
  rw[k j y _ e ec,ec]
  rfl
theorem yU (l:List Str):(l.map (Sum.inr:Str->Key)).map kV=l.map V.str:=by rw[aas];rfl
theorem Gf {g:Gm} {n:Nat} (G:gi g n) {s:bO} (sr:jk g s):∃rws:List Rw,(∀r∈rws,r.word∈wN)/\bX g.cs s.2 ((look g.ps s.1).getD (.fin 0 1))=rws/\rws.length<=3:=by
 obtain⟨⟨j,x,ex,na,es⟩,ir⟩:=id sr
 have lk:=G.look ex
 rw[<-es] at lk
 have pk:=(G.pn j x ex).2
 rw[lk]
 show ∃rws,_/\bX g.cs s.2 x.2=rws/\_
 cases e:x.2 with
 | pick w rs=>
  rw[e] at pk
  refine⟨_,λr hr=>?_,rfl,?_⟩
  ·exact(pk.2 r (List.mem_filter.mp (show r∈List.filter (λr=>fJ g.cs s.2 r.wh) rs from hr)).1).2.2.1
  ·exact aar (List.length_filter_le _ _) pk.1
 | ask c k a b=>exact⟨[],(λr hr=>by cases hr),rfl,by decide⟩
 | fin t b=>exact⟨[],(λr hr=>by cases hr),rfl,by decide⟩
 | score c=>exact⟨[],(λr hr=>by cases hr),rfl,by decide⟩
 | fx d9 t b rs=>exact⟨[],(λr hr=>by cases hr),rfl,by decide⟩
theorem yV {l:List Str} (h:l.Nodup):(l.map (Sum.inr:Str->Key)).Nodup:=vm h λ_ _ _ _ e=>Sum.inr.inj e
theorem dP.start {g g':Gm} {n:Nat} {cn pn wn:Str->Str} (R:dP g g' cn pn wn) (G:gi g n) {ft nm:Str} {fu o:Nat} {SS:List bO} {tss:List (List (Int×bO))} (hd:(g.ps.map (·.1)).head?=some ft) (ak:K60.dm g (List.replicate g.cs.length 0) fu ft=some nm) (sp:fe g o SS 0 [(nm,List.replicate g.cs.length 0)] tss) (sub:∀s∈SS,jk g s):K60.dm g' (List.replicate g'.cs.length 0) fu (pn ft)=some (pn nm)/\dO (.str (pn nm))=true/\fe g' o (SS.map (eP pn)) 0 [(pn nm,List.replicate g'.cs.length 0)] (tss.map λts=>ts.map (Ai pn)):=by
 have hm:((nm,List.replicate g.cs.length 0):bO)∈SS:=by
  obtain⟨q,e⟩:=sp.xa
  rw[e]
  exact aao
 have h1:=R.dm G (ns:=List.replicate g.cs.length 0) List.length_replicate fu (List.mem_of_head? hd)
 rw[List.reverse_replicate,ak] at h1
 have h2:=R.La G (λs hs=>by rw[List.mem_singleton.mp hs];exact sub _ hm) sp
 have e:([(nm,List.replicate g.cs.length 0)]:List bO).map (eP pn)=[(pn nm,List.replicate g.cs.length 0)]:=by
  show[(pn nm,(List.replicate g.cs.length (0:Int)).reverse)]=_
  rw[List.reverse_replicate]
 rw[e] at h2
 rw[R.cl]
 exact⟨h1,R.hp _ (sub _ hm).nm,h2⟩
set_option tactic.hygienic true in
theorem Jr (T:Txt K mg aH aI aE aO af av) {f:Addr} {fd:FuncData} (F:zB K "law" "law" (top 52) f fd):fX P w K mg base (bG P w) 12 f fd ["_law_script"] (An K):=by
 have cB:c6 P w K mg base (bG P w) 1 "_law_at" ["_law_script","_law_k"] (fk K):=xC T
 have xF:c6 P w K mg base (bG P w) 4 "_law_game" ["_law_script"] (DR K):=Mg T
 have iR:c6 P w K mg base (bG P w) 1 "_law_words" ["_law_turn"] DT:=Mi T
 have nv:c6 P w K mg base (bG P w) 2 "_law_what_named" ["_law_what_here","_law_counted","_law_named","_law_worded"] Jg:=Mm T
 have vF:c6 P w K mg base (bG P w) 2 "_law_order" ["_law_script","_law_places"] (Jh K):=Jl T
 have pJ:c6 P w K mg base (bG P w) 11 "_law_told" ["_law_game_here"] Ar:=Gc T
 refine F.gJ DX (λvs H Q E h=>?_) (λbZ A outer s H vs Q E hr h=>?_)
 ·obtain⟨_,_,rfl,_⟩:=h;rfl
 ·symm
  obtain⟨sa,ns,rfl,hS,l63,kk⟩:=h
  nofun
  clear G_
  have nd:=DX.nd
  refine⟨_,(ao (xM (bg xF (hr.mono (by decide)) rfl aK.pass (aa (pv 0) ai (se rfl)) (he:=se rfl) (hpl:=na rfl)) (c9 (K:=K) (n:=2) rfl (bf (aP (i:=1) nd rfl (Or.inl rfl)) (bf (aP (i:=2) nd rfl (Or.inl rfl)) c8))))
  (ao (aR (i:=3) nd rfl (Or.inr rfl) (qR (K:=K) rfl T.z_dict T.z_zip (by rfl) (by rfl) (aa (cX rfl (N:=["_law_script","_law_counts","_law_places","_law_counted","_law_named","_law_worded","_law_others","_law_one","_law_other","_law_states","_law_words_here"]) (so:=aq (top 52)) (N':=["_law_name","_law_most"]) (k:=2) (fr:=[]) rfl rfl ⟨rfl,by ac_rfl,by ac_rfl,by ac_rfl,rfl,by ac_rfl,by ac_rfl⟩ (bo (K:=K) (pv 1)) (λ_ _ _ _ _=>(c9 (K:=K) (n:=2) rfl (bf (aP (i:=0) (show(["_law_name","_law_most"]:List Str).Nodup by ac_rfl) rfl (Or.inl rfl)) (bf (aP (i:=1) (show(["_law_name","_law_most"]:List Str).Nodup by ac_rfl) rfl (Or.inl rfl)) c8)))) (λ_ _ _ _ _=>cm)
   (λ_ _ _ _ _=>(pv 0))) (aa (bg iR (hr.mono (by decide)) rfl aK.pass (aa (bg cB (hr.mono (by decide)) rfl aK.pass (aa (pv 0) (aa ag ai (se rfl)) (se rfl)) (he:=se rfl) (hpl:=na rfl)) ai (se rfl)) (he:=se rfl) (hpl:=na rfl)) ai (se rfl)) (se rfl))))
  (ao (aR (i:=4) nd rfl (Or.inr rfl) (qR (K:=K) rfl T.z_dict T.z_zip (by rfl) (by rfl) (aa (cX rfl (N:=["_law_script","_law_counts","_law_places","_law_counted","_law_named","_law_worded","_law_others","_law_one","_law_other","_law_states","_law_words_here"]) (so:=aq (top 52)) (N':=["_law_name","_law_what_here"]) (k:=2) (fr:=[]) rfl rfl ⟨rfl,by ac_rfl,by ac_rfl,by ac_rfl,rfl,by ac_rfl,by ac_rfl⟩ (bo (K:=K) (pv 2)) (λ_ _ _ _ _=>(c9 (K:=K) (n:=2) rfl (bf (aP (i:=0) (show(["_law_name","_law_what_here"]:List Str).Nodup by ac_rfl) rfl (Or.inl rfl)) (bf (aP (i:=1) (show(["_law_name","_law_what_here"]:List Str).Nodup by ac_rfl) rfl (Or.inl rfl)) c8)))) (λ_ _ _ _ _=>cm)
   (λ_ _ _ _ _=>(pv 0))) (aa (bg iR (hr.mono (by decide)) rfl aK.pass (aa (bg cB (hr.mono (by decide)) rfl aK.pass (aa (pv 0) (aa ag ai (se rfl)) (se rfl)) (he:=se rfl) (hpl:=na rfl)) ai (se rfl)) (he:=se rfl) (hpl:=na rfl)) ai (se rfl)) (se rfl))))
  (ao (aR (i:=5) nd rfl (Or.inr rfl) (qR (K:=K) rfl T.z_dict T.z_zip (by rfl) (by rfl) (aa (bI (aa aG (aa aG (aa aG ai (se rfl)) (se rfl)) (se rfl))) (aa (bg iR (hr.mono (by decide)) rfl aK.pass (aa (bg cB (hr.mono (by decide)) rfl aK.pass (aa (pv 0) (aa ag ai (se rfl)) (se rfl)) (he:=se rfl) (hpl:=na rfl)) ai (se rfl)) (he:=se rfl) (hpl:=na rfl)) ai (se rfl)) (se rfl))))
  (ao (iK (i:=6) rfl nd rfl rfl (N:=["_law_script","_law_counts","_law_places","_law_counted","_law_named","_law_worded","_law_others","_law_one","_law_other","_law_states","_law_words_here"]) (so:=aq (top 52)) (N':=["_law_name","_law_what_here","_law_counted","_law_named","_law_worded"]) (k:=2) (fr:=[3,4,5]) rfl rfl ⟨rfl,by ac_rfl,by ac_rfl,by ac_rfl,rfl,by ac_rfl,by ac_rfl⟩ (bo (K:=K) (bg vF (hr.mono (by decide)) rfl aK.pass (aa (pv 0) (aa (pv 2) ai (se rfl)) (se rfl)) (he:=se rfl) (hpl:=na rfl))) (λ_ _ _ _ _=>(c9 (K:=K) (n:=2) rfl (bf (aP (i:=0) (show(["_law_name","_law_what_here","_law_counted","_law_named","_law_worded"]:List Str).Nodup by ac_rfl) rfl (Or.inl rfl)) (bf (aP (i:=1) (show(["_law_name","_law_what_here","_law_counted","_law_named","_law_worded"]:List Str).Nodup by ac_rfl) rfl (Or.inl rfl)) c8)))) (λ_ _ _ _ _=>cm)
   (λ_ _ _ _ _=>(aX (aa (bY (cQ hr) (pv 3) (pv 0) (λ_ _=>rfl)) (aa (bg nv (hr.mono (by decide)) rfl aK.pass (aa (pv 1) (aa (pv 2) (aa (pv 3) (aa (pv 4) ai (se rfl)) (se rfl)) (se rfl)) (se rfl)) (he:=se rfl) (hpl:=na rfl)) ai (se rfl)) (se rfl)))))
  (ao (aR (i:=7) nd rfl (Or.inl rfl) (bg pJ (hr.mono (by decide)) rfl aK.pass (aa (aX (aa (pv 1) (aa (pv 2) ai (se rfl)) (se rfl))) ai (se rfl)) (he:=se rfl) (hpl:=na rfl)))
  (ao (aR (i:=8) nd rfl (Or.inl rfl) (bg pJ (hr.mono (by decide)) rfl aK.pass (aa (aX (aa (cX rfl (N:=["_law_script","_law_counts","_law_places","_law_counted","_law_named","_law_worded","_law_others","_law_one","_law_other","_law_states","_law_words_here"]) (so:=aq (top 52)) (N':=["_law_name","_law_most","_law_counted"]) (k:=2) (fr:=[3]) rfl rfl ⟨rfl,by ac_rfl,by ac_rfl,by ac_rfl,rfl,by ac_rfl,by ac_rfl⟩ (bo (K:=K) (t7 (K:=K) (pv 1) (kG gT ag))) (λ_ _ _ _ _=>(c9 (K:=K) (n:=2) rfl (bf (aP (i:=0) (show(["_law_name","_law_most","_law_counted"]:List Str).Nodup by ac_rfl) rfl (Or.inl rfl)) (bf (aP (i:=1) (show(["_law_name","_law_most","_law_counted"]:List Str).Nodup by ac_rfl) rfl (Or.inl rfl)) c8)))) (λ_ _ _ _ _=>cm)
   (λ_ _ _ _ _=>(aX (aa (bY (cQ hr) (pv 2) (pv 0) (λ_ _=>rfl)) (aa (pv 1) ai (se rfl)) (se rfl))))) (aa (pv 6) ai (se rfl)) (se rfl))) ai (se rfl)) (he:=se rfl) (hpl:=na rfl)))
  (ao (bK (PW.pt (pw_or (ux (bc (nX (K:=K)) (by rfl) T.z_isinstance rfl (aa (pv 7) (aa (uw (v:=V.ty "str") rfl T.z_str rfl rfl) ai (se rfl)) (se rfl)) (he:=se rfl) (hpl:=na rfl))) (pw_or1 (ux (bc (nX (K:=K)) (by rfl) T.z_isinstance rfl (aa (pv 8) (aa (uw (v:=V.ty "str") rfl T.z_str rfl rfl) ai (se rfl)) (se rfl)) (he:=se rfl) (hpl:=na rfl)))))) (ar (aT (mz (CS hr.units) (pv 7) (pv 8) (bb _))))
   bj)
  (ao (iK (i:=9) rfl nd rfl rfl (N:=["_law_script","_law_counts","_law_places","_law_counted","_law_named","_law_worded","_law_others","_law_one","_law_other","_law_states","_law_words_here"]) (so:=aq (top 52)) (N':=["_law_name","_law_numbers","_law_named"]) (k:=2) (fr:=[4]) rfl rfl ⟨rfl,by ac_rfl,by ac_rfl,by ac_rfl,rfl,by ac_rfl,by ac_rfl⟩ (bo (K:=K) (aF au (pv 7) ag (λ_ _=>rfl))) (λ_ _ _ _ _=>(c9 (K:=K) (n:=2) rfl (bf (aP (i:=0) (show(["_law_name","_law_numbers","_law_named"]:List Str).Nodup by ac_rfl) rfl (Or.inl rfl)) (bf (aP (i:=1) (show(["_law_name","_law_numbers","_law_named"]:List Str).Nodup by ac_rfl) rfl (Or.inl rfl)) c8)))) (λ_ _ _ _ _=>cm)
   (λ_ _ _ _ _=>(aX (aa (bY (cQ hr) (pv 2) (pv 0) (λ_ _=>rfl)) (aa (t7 (K:=K) (pv 1) (kG gT ag)) ai (se rfl)) (se rfl)))))
  (ao (iK (i:=10) rfl nd rfl rfl (N:=["_law_script","_law_counts","_law_places","_law_counted","_law_named","_law_worded","_law_others","_law_one","_law_other","_law_states","_law_words_here"]) (so:=aq (top 52)) (N':=["_law_some","_law_worded"]) (k:=1) (fr:=[5]) rfl rfl ⟨rfl,by ac_rfl,by ac_rfl,by ac_rfl,rfl,by ac_rfl,by ac_rfl⟩ (bo (K:=K) (aF au (pv 7) ag (λ_ _=>rfl))) (λ_ _ _ _ _=>(aP (i:=0) (show(["_law_some","_law_worded"]:List Str).Nodup by ac_rfl) rfl (Or.inl rfl))) (λ_ _ _ _ _=>cm)
   (λ_ _ _ _ _=>(Cq rfl (N:=["_law_some","_law_worded"]) (N':=["_law_word","_law_worded"]) (k:=1) (fr:=[1]) rfl rfl ⟨rfl,by ac_rfl,by ac_rfl,by ac_rfl,rfl,by ac_rfl,by ac_rfl⟩ (bo (K:=K) (pv 0)) (λ_ _ _ _ _=>(aP (i:=0) (show(["_law_word","_law_worded"]:List Str).Nodup by ac_rfl) rfl (Or.inl rfl))) (λ_ _ _ _ _=>cm)
   (λ_ _ _ _ _=>(bY (cQ hr) (pv 1) (pv 0) (λ_ _=>rfl))))))
  (ar (aT (Ho (bc (nX (K:=K)) (by rfl) T.z_isinstance rfl (aa (pv 8) (aa (uw (v:=V.ty "tuple") rfl T.z_tuple rfl rfl) ai (se rfl)) (se rfl)) (he:=se rfl) (hpl:=na rfl)) (Hn (mz (CS hr.units) (pv 8) (aX (aa (aF au (pv 7) ag (λ_ _=>rfl)) (aa (pv 9) (aa (pv 10) ai (se rfl)) (se rfl)) (se rfl))) (bb _)))))))))))))))),?_⟩
  refine(?_:let cI:TS:=_;let cJ:TS:=_;let cK:TS:=_;let eC:TS:=_;let rE:TS:=_;let xj:TS:=_;let GW:TS:=_;let Me:TS:=_;let WX:TS:=_;let WY:TS:=_;let Mp:TS:=_;tSeq cI (tSeq cJ (tSeq cK (tSeq eC (tSeq rE (tSeq xj (tSeq GW (tSeq Me (tSeq WX (tSeq WY Mp))))))))) _ _ _)
  intro cI cJ cK eC rE xj GW Me WX WY Mp
  have sl:=sizeLine_eq
  change tSeq _ _ _ _ _
  refine bh (λN=>∀H1 cl pl g n,aA H H1->gi g n->Rep H1 (K2 g.cs) (.ref cl)->Rep H1 (OW g.ps) (.ref pl)->N [some (.ref sa),some (.ref cl),some (.ref pl),none,none,none,none,none,none,none,none] H1) ?_ (λN hN=>?_)
  case refine_2=>
   simp_all only[DR]
   refine⟨ns,hS,λv g n H' s' G r=>?_⟩
   symm
   obtain⟨q,cv,pv,rfl,hq,rc,rp⟩:=bq.mp (show Rep H' (.tup _) v from r)
   obtain⟨cl,_,rfl,_,_⟩:=aS.mp (show Rep H' (.lst _) cv from rc)
   obtain⟨pl,_,rfl,_,_⟩:=aS.mp (show Rep H' (.lst _) pv from rp)
   nofun
   refine⟨q,_,rfl,gh.of hq,rfl,?_⟩
   simp_all only[]
   exact hN _ cl pl g n s' G rc rp
  rintro H1 cl pl g n s1 G rc rp
  symm
  obtain⟨_,j3,e0,jg,Ap⟩:=aS.mp (show Rep H1 (.lst _) (.ref cl) from rc)
  nofun
  clear G_
  cases e0
  symm
  obtain⟨_,Ef,e0,hpl,BJ⟩:=aS.mp (show Rep H1 (.lst _) (.ref pl) from rp)
  nofun
  clear G_
  cases e0
  have WZ:j3.length=g.cs.length:=by have:=Ap.length;rw[aad] at this;omega
  have WV:Ef.length=g.ps.length:=by have:=BJ.length;rw[aad] at this;omega
  have c3:=G.c3
  have n6:=G.n6
  have n2:=G.n2
  have lp:=G.lp
  have gg:=G.gg
  change tSeq _ _ _ _ _
  refine bh (λN=>∀H2 dc wc,aA H1 H2->pX H2 dc (g.cs.map (·.1)) wc->sY wc->N [some (.ref sa),some (.ref cl),some (.ref pl),some (.ref dc),none,none,none,none,none,none,none] H2) ?_ (λN hN=>?_)
  case refine_2=>
   simp_all only[fk,DT,wI]
   refine⟨⟨_,bD.of jg⟩,fo (K:=K) (src_list (Ok:=aA H1) (λH' s'=>bD.of (s' _ _ jg))) (λi u v H3=>∃x,g.cs[i]?=some x/\u=.str x.1) ?_ (by omega) (λi y H3=>∀x,g.cs[i]?=some x->y=.str x.1) (λi y H2 H3 s3 h=>h) ?_ ?_⟩
   ·rintro i x H5 H6 hi s5 ⟨rfl,ex⟩
    symm
    obtain⟨dd,ed,si⟩:=Ap.get ex
    rw[aae] at ed
    obtain⟨y,ey,rfl⟩:=Option.map_eq_some_iff.mp ed
    obtain⟨q,u1,u2,rfl,hq,yT,vD⟩:=bq.mp (show Rep _ (.tup _) x from si)
    obtain rfl:=aD.mp yT
    nofun
    exact⟨aA.refl _,q,_,_,rfl,gh.of (s5 _ _ hq),y,ey,rfl⟩
   ·intro i u v H5 Q2 hi s5 fE kq
    symm
    obtain⟨y,ey,rfl⟩:=fE
    nofun
    simp_all only[]
    exact kq _ _ (aA.refl _) (λx ex=>by rw[ey] at ex;cases ex;rfl)
   ·intro ys H5 s5 ly hy D n1 vE
    have ey:ys=(g.cs.map (·.1)).map V.str:=xE (by rw[aad];omega) λj y x e ex=>by
     rw[aae] at ex
     symm
     obtain⟨z,ez,rfl⟩:=Option.map_eq_some_iff.mp ex
     nofun
     exact hy j y e z ez
    subst ey
    have sD:=s5.trans (ae (o:=.lst ((g.cs.map (·.1)).map V.str)) vE)
    refine⟨ns,(s1.trans sD).seq hS,by decide,by decide,λ_ l ws H' s' nl hl kw=>⟨(g.cs.map (·.1)).map Sum.inr,bD.of (by rw[yU];exact s' _ _ aj),_,bD.of hl,yV gg.nc,λd Mq=>hN _ d ws (sD.trans (s'.trans (ae Mq))) ⟨aj,by rw[aad,kw.1];omega⟩ kw⟩⟩
  rintro H2 dc wc s2 hc kc
  change tSeq _ _ _ _ _
  refine bh (λN=>∀H3 dp wp,aA H2 H3->pX H3 dp (pN.take n) wp->sY wp->N [some (.ref sa),some (.ref cl),some (.ref pl),some (.ref dc),some (.ref dp),none,none,none,none,none,none] H3) ?_ (λN hN=>?_)
  case refine_2=>
   have Mr:=s2 _ _ hpl
   rw[<-G.GQ] at hN
   simp_all only[fk,DT,wI]
   refine⟨⟨_,bD.of Mr⟩,fo (K:=K) (src_list (Ok:=aA H2) (λH' s'=>bD.of (s' _ _ Mr))) (λi u v H3=>∃x,g.ps[i]?=some x/\u=.str x.1) ?_ (by omega) (λi y H3=>∀x,g.ps[i]?=some x->y=.str x.1) (λi y H2 H3 s3 h=>h) ?_ ?_⟩
   ·rintro i x H5 H6 hi s5 ⟨rfl,ex⟩
    symm
    obtain⟨dd,ed,si⟩:=BJ.get ex
    rw[aae] at ed
    obtain⟨y,ey,rfl⟩:=Option.map_eq_some_iff.mp ed
    obtain⟨q,u1,u2,rfl,hq,yT,vD⟩:=bq.mp (show Rep _ (.tup _) x from si)
    obtain rfl:=aD.mp yT
    nofun
    exact⟨aA.refl _,q,_,_,rfl,gh.of ((s2.trans s5) _ _ hq),y,ey,rfl⟩
   ·intro i u v H5 Q2 hi s5 fE kq
    symm
    obtain⟨y,ey,rfl⟩:=fE
    nofun
    simp_all only[]
    exact kq _ _ (aA.refl _) (λx ex=>by rw[ey] at ex;cases ex;rfl)
   ·intro ys H5 s5 ly hy D n1 vE
    have ey:ys=(g.ps.map (·.1)).map V.str:=xE (by rw[aad];omega) λj y x e ex=>by
     rw[aae] at ex
     symm
     obtain⟨z,ez,rfl⟩:=Option.map_eq_some_iff.mp ex
     nofun
     exact hy j y e z ez
    subst ey
    have sD:=s5.trans (ae (o:=.lst ((g.ps.map (·.1)).map V.str)) vE)
    refine⟨ns,((s1.trans s2).trans sD).seq hS,by decide,by decide,λ_ l ws H' s' nl hl kw=>⟨(g.ps.map (·.1)).map Sum.inr,bD.of (by rw[yU];exact s' _ _ aj),_,bD.of hl,yV gg.np,λd Mq=>hN _ d ws (sD.trans (s'.trans (ae Mq))) ⟨aj,by rw[aad,kw.1];omega⟩ kw⟩⟩
  rintro H3 dp wp s3 hp kp
  change tSeq _ _ _ _ _
  refine bh (λN=>∀H4 dw ww,aA H3 H4->pX H4 dw wN ww->sY ww->N [some (.ref sa),some (.ref cl),some (.ref pl),some (.ref dc),some (.ref dp),some (.ref dw),none,none,none,none,none] H4) ?_ (λN hN=>?_)
  case refine_2=>
   simp_all only[fk,DT,wI]
   refine⟨by omega,λp np=>⟨ns,(s1.trans (s2.trans (s3.trans (ae np)))).seq hS,by decide,by decide,λ_ l ws H' s' nl hl kw=>⟨wN.map Sum.inr,bD.of (by rw[yU];exact s' _ _ aj),_,bD.of hl,yV (l:=wN) (by ac_rfl),λd Mq=>hN _ d ws ((ae np).trans (s'.trans (ae Mq))) ⟨aj,by rw[kw.1];decide⟩ kw⟩⟩⟩
  rintro H4 dw ww s4 hw kw
  have El:=s2.trans (s3.trans s4)
  have FQ:=hc.mono (s3.trans s4)
  have Qk:=hp.mono s4
  generalize Ql:dQ (g.cs.map (·.1)) wc=cn
  generalize NR:dQ (pN.take n) wp=pn
  generalize Qm:dQ wN ww=wn
  change tSeq _ _ _ _ _
  refine bh (λN=>∀H5 ol po,aA H4 H5->List.Perm po g.ps->po.head?=g.ps.head?->Rep H5 (OW (po.map λp=>(pn p.1,yE cn pn wn p.2))) (.ref ol)->N [some (.ref sa),some (.ref cl),some (.ref pl),some (.ref dc),some (.ref dp),some (.ref dw),some (.ref ol),none,none,none,none] H5) ?_ (λN hN=>?_)
  case refine_2=>
   simp_all only[Jh]
   refine⟨ns,(s1.trans El).seq hS,g.ps,rp.mono El,by omega,by omega,λp po H5 s5 Z1 pm Hl=>?_⟩
   symm
   obtain⟨_,Z2,e0,W2,G7⟩:=aS.mp Z1
   nofun
   cases e0
   have Z3:Z2.length=po.length:=by have:=G7.length;rw[aad] at this;omega
   have lpo:=pm.length_eq
   refine⟨⟨_,bD.of W2⟩,fo (K:=K) (src_list (Ok:=aA H5) (λH' s'=>bD.of (s' _ _ W2))) (λi u v H6=>∃x:Str×Wt,po[i]?=some x/\u=.str x.1/\Rep H6 (ub x.2) v) ?_ (by omega) (λi y H6=>∀x:Str×Wt,po[i]?=some x->Rep H6 (pD (pn x.1,yE cn pn wn x.2)) y) (λi y H6 H7 s7 h x e=>(h x e).mono s7) ?_ ?_⟩
   ·rintro i x H6 H7 hi s6 ⟨rfl,ex⟩
    symm
    obtain⟨dd,ed,si⟩:=G7.get ex
    rw[aae] at ed
    obtain⟨y,ey,rfl⟩:=Option.map_eq_some_iff.mp ed
    obtain⟨q,u1,u2,rfl,hq,yT,vD⟩:=bq.mp (show Rep _ (.tup _) x from si)
    obtain rfl:=aD.mp yT
    nofun
    exact⟨aA.refl _,q,_,_,rfl,gh.of (s6 _ _ hq),y,ey,rfl,vD.mono s6⟩
   ·intro i u v H6 Q2 hi s6 fE kq
    symm
    obtain⟨y,ey,rfl,rv⟩:=fE
    obtain⟨j,ej⟩:=List.mem_iff_getElem?.mp (pm.mem_iff.mp (aaj ey))
    nofun
    have pk:=(G.pn j y ej).2
    have Ga:=s5.trans s6
    have hy:y.1∈pN.take n:=by rw[<-G.GQ];exact List.mem_map.mpr ⟨y,aaj ej,rfl⟩
    have hg:=(Qk.mono Ga).get hy
    rw[NR] at hg
    simp_all only[Jg]
    refine⟨_,hg,y.2,rv,g.cs,n,j,pk,wc,FQ.mono Ga,wp,Qk.mono Ga,n6,ww,hw.mono Ga,λu H' s' ru=>⟨by omega,λp H7 s7 np e7=>kq _ _ (s'.trans s7) (λx ex=>?_)⟩⟩
    rw[ey] at ex
    cases ex
    rw[Ql,NR,Qm] at ru
    exact bq.mpr ⟨p,_,_,rfl,e7,aD.mpr rfl,ru.mono s7⟩
   ·intro ys H6 s6 ly hy D n1 vE
    refine hN _ D po (s5.trans (s6.trans (ae vE))) pm Hl (aS.mpr ⟨D,ys,rfl,aj,aZ.of (by rw[aad,aad,ly,Z3]) λi d v e1 e2=>?_⟩)
    rw[aae,aae] at e1
    symm
    obtain⟨x',J0,rfl⟩:=Option.map_eq_some_iff.mp e1
    obtain⟨x,ex,rfl⟩:=Option.map_eq_some_iff.mp J0
    nofun
    exact(hy i v e2 x ex).mono (ae vE)
  rintro H5 ol po s5 pm yG ro
  have R:dP g ⟨(g.cs.map λc=>(cn c.1,c.2)).reverse,po.map λp=>(pn p.1,yE cn pn wn p.2)⟩ cn pn wn:=by rw[<-Ql,<-NR];exact Jq G pm kc kp
  symm
  obtain⟨ft,nm,fu,o,SS,tss,hd,ak,L7,o2,sp,xo,ndp,sub⟩:=G.out
  nofun
  clear G_
  have Qn:=El.trans s5
  change tSeq _ _ _ _ _
  refine bh (λN=>∀H6 ov,aA H5 H6->Rep H6 (Jo g o SS tss) ov->N [some (.ref sa),some (.ref cl),some (.ref pl),some (.ref dc),some (.ref dp),some (.ref dw),some (.ref ol),some ov,none,none,none] H6) ?_ (λN hN=>?_)
  case refine_2=>
   simp_all only[Ar]
   exact⟨by omega,λp H6 s6 np e6=>⟨g,bq.mpr ⟨p,_,_,rfl,e6,rc.mono (Qn.trans s6),rp.mono (Qn.trans s6)⟩,gg,ft,hd,nm,fu,ak,L7,o,o2,SS,tss,sp,xo,λe H' s'=>hN _ _ (s6.trans s') (by subst e;exact aD.mpr rfl),λe H' s'=>hN _ _ (s6.trans s') (by subst e;exact aD.mpr rfl),λe p b l wl bs xs ws H' s' nb Ek hp hb rb wf hl al D3 rws=>hN _ _ (s6.trans s') (by subst e;exact Aw hp hb rb hl al D3 rws)⟩⟩
  rintro H6 ov s6 G7
  change tSeq _ _ _ _ _
  have Qo:=Qn.trans s6
  have Eh:=FQ.mono (s5.trans s6)
  have Z4:=R.gg G
  generalize Z5:(⟨(g.cs.map λc=>(cn c.1,c.2)).reverse,po.map λp=>(pn p.1,yE cn pn wn p.2)⟩:Gm)=g' at *
  refine bh (λN=>∀H7 uv,aA H6 H7->Rep H7 (Jo g' o (SS.map (eP pn)) (tss.map λts=>ts.map (Ai pn))) uv->N [some (.ref sa),some (.ref cl),some (.ref pl),some (.ref dc),some (.ref dp),some (.ref dw),some (.ref ol),some ov,some uv,none,none] H7) ?_ (λN hN=>?_)
  case refine_2=>
   symm
   obtain⟨Z6,Qp,JN⟩:=R.start G hd ak sp sub
   nofun
   have W3:g'.cs=g.cs.reverse.map λc=>(cn c.1,c.2):=by rw[R.ce,List.map_reverse]
   have W4:g'.ps=po.map λp=>(pn p.1,yE cn pn wn p.2):=by rw[<-Z5]
   have Hl:(g'.ps.map (·.1)).head?=some (pn ft):=by
    rw[W4,aas,List.head?_map,yG]
    rw[List.head?_map] at hd
    symm
    obtain⟨x,ex,rfl⟩:=Option.map_eq_some_iff.mp hd
    nofun
    rw[ex]
    rfl
   simp_all only[Fg,Ar]
   refine⟨_,bD.of (Qo _ _ jg),λp np=>⟨⟨_,bD.of aj⟩,fo (K:=K) (src_list (Ok:=aA (upd H6 p (.lst j3.reverse))) (λH' s'=>bD.of (s' _ _ aj))) (λi u v H7=>∃x:Str×Int,g.cs.reverse[i]?=some x/\u=.str x.1/\v=.int x.2) ?_ (by rw[aaJ];omega) (λi y H7=>∀x:Str×Int,g.cs.reverse[i]?=some x->Rep H7 (.tup [.str (cn x.1),.int x.2]) y) (λi y H7 H8 s8 h x e=>(h x e).mono s8) ?_ ?_⟩⟩
   ·rintro i x H7 H8 hi s7 ⟨rfl,ex⟩
    rw[aaJ] at hi
    rw[abc hi] at ex
    symm
    obtain⟨dd,ed,si⟩:=Ap.get ex
    rw[aae] at ed
    obtain⟨y,ey,rfl⟩:=Option.map_eq_some_iff.mp ed
    obtain⟨q,u1,u2,rfl,hq,yT,vD⟩:=bq.mp (show Rep _ (.tup _) x from si)
    obtain rfl:=aD.mp yT
    obtain rfl:=ba.mp vD
    nofun
    exact⟨aA.refl _,q,_,_,rfl,gh.of ((Qo.trans ((ae np).trans s7)) _ _ hq),y,by rw[abc (by omega),<-WZ];exact ey,rfl,rfl⟩
   ·intro i u v H7 Q2 hi s7 fE kq
    symm
    obtain⟨y,ey,rfl,rfl⟩:=fE
    nofun
    have hg:=(Eh.mono ((ae np).trans s7)).get (List.mem_map.mpr ⟨y,List.mem_reverse.mp (aaj ey),rfl⟩)
    rw[Ql] at hg
    simp_all only[]
    refine⟨_,hg,by omega,λp1 H8 s8 iX e8=>kq _ _ s8 (λx ex=>?_)⟩
    rw[ey] at ex
    cases ex
    exact bq.mpr ⟨p1,_,_,rfl,e8,aD.mpr rfl,ba.mpr rfl⟩
   ·intro ys H7 s7 ly hy D n1 vE
    rw[aaJ] at ly
    refine⟨by omega,λp8 H8 s8 np8 e8=>?_⟩
    have NS:=(ae (o:=.lst j3.reverse) np).trans (s7.trans ((ae (o:=.lst ys) vE).trans s8))
    refine⟨g',bq.mpr ⟨p8,_,_,rfl,e8,aS.mpr ⟨D,ys,rfl,s8 _ _ aj,aZ.of (by rw[W3,aad,aad,aaJ,ly,WZ]) λi d v e1 e2=>?_⟩,?_⟩,Z4,pn ft,Hl,pn nm,fu,Z6,Qp,o,o2,SS.map (eP pn),tss.map (λts=>ts.map (Ai pn)),JN,by rw[aad];exact xo,λe H' s'=>hN _ _ (NS.trans s') (by subst e;exact aD.mpr rfl),λe H' s'=>hN _ _ (NS.trans s') (by subst e;exact aD.mpr rfl),λe p b l wl bs xs ws H' s' nb Ek hp hb rb wf hl al D3 rws=>hN _ _ (NS.trans s') (by subst e;exact Aw hp hb rb hl al D3 rws)⟩
    ·rw[W3,aas,aae] at e1
     symm
     obtain⟨x,ex,rfl⟩:=Option.map_eq_some_iff.mp e1
     nofun
     exact(hy i v e2 x ex).mono ((ae vE).trans s8)
    ·rw[W4]
     exact ro.mono (s6.trans NS)
  rintro H7 uv s7 Gg
  change tSeq _ _ _ _ _
  by_cases o0:o=0
  case neg=>
   refine bh (λ_=>True) trivial (λN _=>?_)
   obtain⟨x,hx,rfl,rfl⟩:∃x,dO (.str x)=true/\ov=.str x/\uv=.str x:=by
    unfold Jo at G7 Gg
    split at G7
    ·exact absurd rfl o0
    ·exact⟨_,by ac_rfl,aD.mp G7,aD.mp Gg⟩
    ·rename_i h1 h2
     split at Gg
     ·exact absurd rfl o0
     ·exact absurd rfl h2
     ·exact⟨_,by ac_rfl,aD.mp G7,aD.mp Gg⟩
   refine dX (λY N k=>?_) ?_
   ·simp_all only[]
    exact⟨_,i5.str _,_,HL,by rw[if_pos rfl];exact k⟩
   ·simp_all only[Ib]
    exact⟨_,aD.mpr rfl,_,aD.mpr rfl,Ma hx,Ma hx,by rw[decide_eq_true rfl];exact kk _⟩
  subst o0
  symm
  obtain⟨op,o1,o2',o3,rfl,NT,r1,r2,r3⟩:=cM.mp (show Rep H6 (.tup _) ov from G7)
  obtain⟨b1,Z7,rfl,FZ,Z8⟩:=aS.mp r1
  obtain⟨b2,Z9,rfl,Lp,W5⟩:=aS.mp r2
  obtain⟨b3,bv3,rfl,hb3,W6⟩:=aS.mp r3
  have Gg:Rep H7 (BA g' (SS.map (eP pn)) (tss.map λts=>ts.map (Ai pn))) uv:=Gg
  rw[Ge R G sub sp] at Gg
  have kd:=Jp (tss:=tss) R G (by rw[<-Qm];exact DS (by rw[kw.1];decide) kw.2.2) sub
  obtain⟨up,u1,u2,u3,rfl,W7,_,_,_⟩:=cM.mp (show Rep H7 (.tup _) uv from Gg)
  nofun
  have s17:=Qo.trans s7
  refine bh (λN=>N [some (.ref sa),some (.ref cl),some (.ref pl),some (.ref dc),some (.ref dp),some (.ref dw),some (.ref ol),some (.ref op),some (.ref up),none,none] H7) ?_ (λN hN=>?_)
  case refine_2=>
   refine eA (λY N k=>?_) hN
   simp_all only[]
   exact⟨_,i5.tup (s7 _ _ NT),_,zC (t:="tuple") (c:="str") (b:=false),by rw[if_neg (by decide)];exact⟨_,i5.tup W7,_,zC (t:="tuple") (c:="str") (b:=false),by rw[if_neg (by decide)];exact k⟩⟩
  change tSeq _ _ _ _ _
  have l2:Z9.length=SS.length:=by have:=W5.length;rw[aad] at this;omega
  have l3:bv3.length=SS.length:=by have:=W6.length;rw[aad] at this;omega
  refine bh (λN=>∀H8 q,aA H7 H8->Rep H8 (.lst (SS.map λs=>F3 (eP pn s))) (.ref q)->N [some (.ref sa),some (.ref cl),some (.ref pl),some (.ref dc),some (.ref dp),some (.ref dw),some (.ref ol),some (.ref op),some (.ref up),some (.ref q),none] H8) ?_ (λN hN=>?_)
  case refine_2=>
   simp_all only[s7 _ _ NT]
   have Ms:=s7 _ _ Lp
   refine⟨⟨_,bD.of Ms⟩,fo (K:=K) (src_list (Ok:=aA H7) (λH' s'=>bD.of (s' _ _ Ms))) (λi u v H8=>∃x:bO,SS[i]?=some x/\u=.str x.1/\Rep H8 (.lst (x.2.map .int)) v) ?_ (by omega) (λi y H8=>∀x:bO,SS[i]?=some x->Rep H8 (F3 (eP pn x)) y) (λi y H8 H9 s9 h x e=>(h x e).mono s9) ?_ ?_⟩
   ·rintro i x H8 H9 hi s8 ⟨rfl,ex⟩
    symm
    obtain⟨dd,ed,si⟩:=W5.get ex
    rw[aae] at ed
    obtain⟨y,ey,rfl⟩:=Option.map_eq_some_iff.mp ed
    obtain⟨q,u1,u2,rfl,hq,yT,vD⟩:=bq.mp (show Rep _ (.tup _) x from si)
    obtain rfl:=aD.mp yT
    nofun
    exact⟨aA.refl _,q,_,_,rfl,gh.of ((s7.trans s8) _ _ hq),y,ey,rfl,vD.mono (s7.trans s8)⟩
   ·intro i u v H8 Q2 hi s8 fE kq
    symm
    obtain⟨y,ey,rfl,rv⟩:=fE
    obtain⟨nl,nvs,rfl,hnl,rnl⟩:=aS.mp rv
    obtain rfl:=xw rnl
    nofun
    have hy:y.1∈pN.take n:=by rw[<-G.GQ];exact(sub y (aaj ey)).nm
    have hg:=(Qk.mono (s5.trans (s6.trans (s7.trans s8)))).get hy
    rw[NR] at hg
    simp_all only[Fg]
    refine⟨_,hg,_,bD.of hnl,λp np=>⟨by omega,λp1 H9 s9 iX e9=>kq _ _ ((ae np).trans s9) (λx ex=>?_)⟩⟩
    rw[ey] at ex
    cases ex
    exact bq.mpr ⟨p1,_,_,rfl,e9,aD.mpr rfl,aS.mpr ⟨p,_,rfl,s9 _ _ aj,by rw[<-List.map_reverse];exact ints_rep _⟩⟩
   ·intro ys H8 s8 ly hy D n1 vE
    refine hN _ D (s8.trans (ae vE)) (aS.mpr ⟨D,ys,rfl,aj,aZ.of (by rw[aad,ly,l2]) λi d v e1 e2=>?_⟩)
    rw[aae] at e1
    symm
    obtain⟨x,ex,rfl⟩:=Option.map_eq_some_iff.mp e1
    nofun
    exact(hy i v e2 x ex).mono (ae vE)
  rintro H8 q8 s8 rq8
  change tSeq _ _ _ _ _
  refine bh (λN=>∀H9 q,aA H8 H9->Rep H9 (.lst (SS.map (vn wn g))) (.ref q)->N [some (.ref sa),some (.ref cl),some (.ref pl),some (.ref dc),some (.ref dp),some (.ref dw),some (.ref ol),some (.ref op),some (.ref up),some (.ref q8),some (.ref q)] H9) ?_ (λN hN=>?_)
  case refine_2=>
   simp_all only[s8 _ _ (s7 _ _ NT)]
   have Mt:=s8 _ _ (s7 _ _ hb3)
   refine⟨⟨_,bD.of Mt⟩,comp_map (src_list (Ok:=aA H8) (λH' s'=>bD.of (s' _ _ Mt))) (λ_ _ _ _ h=>by rw[h.1];exact aA.refl _) (by omega) (λi y H9=>∀x:bO,SS[i]?=some x->Rep H9 (vn wn g x) y) (λi y H8 H9 s9 h x e=>(h x e).mono s9) ?_ ?_⟩
   ·rintro i x w0 H9' H9 Q2 hi s9 ⟨rfl,ex⟩ kq
    symm
    obtain⟨dd,ed,si⟩:=W6.get ex
    rw[aae] at ed
    obtain⟨y,ey,rfl⟩:=Option.map_eq_some_iff.mp ed
    have W8:=s7.trans (s8.trans s9)
    obtain⟨rws,hrw,erw⟩:∃rws:List Rw,(∀r∈rws,r.word∈wN)/\bX g.cs y.2 ((look g.ps y.1).getD (.fin 0 1))=rws/\rws.length<=3:=Gf G (sub y (aaj ey))
    have ew:gq g y=.lst (rws.map λr=>Dat.str r.word):=by unfold gq;rw[erw.1]
    have ew2:vn wn g y=.lst (rws.map λr=>Dat.str (wn r.word)):=by unfold vn;rw[erw.1]
    rw[ew] at si
    obtain⟨l',lvs,rfl,GH,W9⟩:=aS.mp si
    nofun
    have Xa:=W8 _ _ GH
    have lr:lvs.length=rws.length:=by have:=W9.length;rw[aad] at this;omega
    have l3':=erw.2
    simp_all only[]
    refine⟨⟨_,bD.of Xa⟩,comp_map (src_list (Ok:=aA H9) (λH' s'=>bD.of (s' _ _ Xa))) (λ_ _ _ _ h=>by rw[h.1];exact aA.refl _) (by omega) (λj z _=>∀r:Rw,rws[j]?=some r->z=.str (wn r.word)) (λ_ _ _ _ _ h=>h) ?_ ?_⟩
    ·rintro j u w1 aaa O7 Q3 hj BH ⟨rfl,eu⟩ kq3
     symm
     obtain⟨r,er,ru⟩:=C6 (f:=λr:Rw=>Dat.str r.word) W9 eu
     obtain rfl:=aD.mp ru
     nofun
     have hg:=(hw.mono (s5.trans (s6.trans (W8.trans BH)))).get (hrw r (aaj er))
     rw[Qm] at hg
     simp_all only[]
     exact⟨_,hg,kq3 _ _ (aA.refl _) (λr' Ao=>by rw[er] at Ao;cases Ao;rfl)⟩
    ·intro zs O7 BH lz hz D n1 vE
     refine kq _ _ (BH.trans (ae vE)) (λx ex=>?_)
     rw[ey] at ex
     cases ex
     rw[ew2]
     refine aS.mpr ⟨D,zs,rfl,aj,aZ.of (by rw[aad];omega) λj d v e1 e2=>?_⟩
     rw[aae] at e1
     symm
     obtain⟨r,er,rfl⟩:=Option.map_eq_some_iff.mp e1
     nofun
     rw[hz j v e2 r er]
     exact aD.mpr rfl
   ·intro ys H9 s9 ly hy D n1 vE
    refine hN _ D (s9.trans (ae vE)) (aS.mpr ⟨D,ys,rfl,aj,aZ.of (by rw[aad,ly,l3]) λi d v e1 e2=>?_⟩)
    rw[aae] at e1
    symm
    obtain⟨x,ex,rfl⟩:=Option.map_eq_some_iff.mp e1
    nofun
    exact(hy i v e2 x ex).mono (ae vE)
  rintro H9 q9 s9 rq9
  simp_all only[Ib,s9 _ _ (s8 _ _ (s7 _ _ NT))]
  refine⟨_,i5.tup (s9 _ _ (s8 _ _ W7)),_,HK,?_⟩
  rw[if_pos rfl]
  refine⟨by omega,λp O7 BH np e10=>⟨_,Gg.mono (s8.trans (s9.trans BH)),Gd g pn wn SS tss,cM.mpr ⟨p,_,_,_,rfl,e10,aS.mpr ⟨b1,Z7,rfl,(s7.trans (s8.trans (s9.trans BH))) _ _ FZ,Z8.mono (s7.trans (s8.trans (s9.trans BH)))⟩,rq8.mono (s9.trans BH),rq9.mono BH⟩,kd,kd,?_⟩⟩
  rw[decide_eq_true rfl]
  exact kk _
end
theorem all_mk {l:PySem.W.OpenLaw} {w:World} {K:PySem.W.Frag} {h:Heap} {mg:Str->Option Value} {fa:Addr} (X:K.In h) (G:h.Ns mainGlobals mg) (hfa:mg "law"=some (.ref fa))
  {f0:Addr} {od0 an0:Option Addr} {sl0:Array (Option Value)} {oc0 kV0 dc0 pm0 Xb ct0:Value} {f1:Addr} {od1 LI:Option Addr} {Vo:Array (Option Value)} {oc1 kV1 dc1 Mo Xc ct1:Value} {f2:Addr} {od2 an2:Option Addr} {x8:Array (Option Value)} {oc2 kV2 dc2 pm2 Xd ct2:Value} {f3:Addr} {od3 an3:Option Addr} {sl3:Array (Option Value)} {oc3 kV3 dc3 pm3 Xe ct3:Value} {f4:Addr} {od4 an4:Option Addr} {sl4:Array (Option Value)} {oc4 kV4 dc4 pm4 Xf ct4:Value} {f5:Addr} {od5 IX:Option Addr} {sl5:Array (Option Value)} {oc5 kV5 dc5 pm5 Xg ct5:Value} {f6:Addr} {od6 an6:Option Addr} {sl6:Array (Option Value)} {oc6 kV6 dc6 pm6 Xh ct6:Value} {f7:Addr} {od7 an7:Option Addr} {sl7:Array (Option Value)} {oc7 kV7 dc7 pm7 Xi ct7:Value} {f8:Addr} {od8 an8:Option Addr} {sl8:Array (Option Value)} {oc8 kV8 dc8 pm8 Xj ct8:Value} {f9:Addr} {od9 an9:Option Addr} {sl9:Array (Option Value)} {oc9 kV9 dc9 pm9 Xk ct9:Value} {Qq:Addr} {Qr Qs:Option Addr} {Qt:Array (Option Value)} {Qu Qv Qw Qx Mu Qy:Value} {Qz:Addr} {QA QB:Option Addr} {QC:Array (Option Value)} {QD QF QG QH Mv QI:Value} {QJ:Addr} {QK QL:Option Addr} {QM:Array (Option Value)} {QN QO QP QQ Mw QR:Value} {QS:Addr} {QT QU:Option Addr} {QV:Array (Option Value)} {QW QX QY QZ Mx Q0:Value} {Q4:Addr} {Q5 Q6:Option Addr} {Q7:Array (Option Value)} {Q8 Q9 Ra Rb My Rc:Value} {Rf:Addr} {Rg Rh:Option Addr} {Ri:Array (Option Value)} {Rj Rk Rl Rm Mz Rn:Value} {Ro:Addr} {Rp Rq:Option Addr} {Rr:Array (Option Value)} {Rt Ru Rv Rx MA Ry:Value} {Rz:Addr} {RA RB:Option Addr} {RC:Array (Option Value)} {RD RE RF RG MB RH:Value} {RI:Addr} {RJ RK:Option Addr} {RL:Array (Option Value)} {RM RN RO RP MC RQ:Value} {RS:Addr} {RT RU:Option Addr} {RV:Array (Option Value)} {RW RX RY RZ MD R1:Value} {R3:Addr} {R5 R6:Option Addr} {R7:Array (Option Value)} {R8 R9 Sa Sb ME Sd:Value} {Se:Addr} {Sf Sg:Option Addr} {Sh:Array (Option Value)} {Si Sj Sk Sl MF Sm:Value} {Sn:Addr} {So Sq:Option Addr} {Sr:Array (Option Value)} {Ss Su Sv Sw MG Sx:Value} {Sy:Addr} {Sz SA:Option Addr} {SD:Array (Option Value)} {SE SG SH SI MH SJ:Value} {SK:Addr} {SM SN:Option Addr} {SO:Array (Option Value)} {SQ SR SU SV MI SW:Value} {SX:Addr} {SY S0:Option Addr} {S1:Array (Option Value)} {S2 S3 S4 S5 MJ S6:Value} {S7:Addr} {S8 S9:Option Addr} {Ta:Array (Option Value)} {Tb Tc Td Te MK Tf:Value} {Tg:Addr} {Th Ti:Option Addr} {Tj:Array (Option Value)} {Tn To Tp Tq ML Tr:Value} {Ts:Addr} {Tt Tu:Option Addr} {Tv:Array (Option Value)} {Tx Tz TB TC MM TF:Value} {TH:Addr} {TK TL:Option Addr} {TM:Array (Option Value)} {TN TQ TU TV MN TX:Value} {TY:Addr} {TZ T2:Option Addr} {T3:Array (Option Value)} {T4 T5 T6 T7 MO T8:Value} {T9:Addr} {Ua Ub:Option Addr} {Uc:Array (Option Value)} {Ud Ue Ug Uh MP Ui:Value} {Uj:Addr} {Uk Ul:Option Addr} {Um:Array (Option Value)} {Uo Up Uq Ur MQ Us:Value} {Ut:Addr} {Uu Uv:Option Addr} {Uw:Array (Option Value)} {Ux Uy Uz UA MR UB:Value} {UC:Addr} {UD UE:Option Addr} {UG:Array (Option Value)} {UH UI UJ UK MS UM:Value} {UN:Addr} {UO UP:Option Addr} {UQ:Array (Option Value)} {UR US UT UU MT UW:Value} {UX:Addr} {UY UZ:Option Addr} {U0:Array (Option Value)} {U1 U2 U3 U4 MU U6:Value} {rO:Tok} {rP:Tok} {rQ:Tok} {aH aI aE aO af av:Addr} {jR:Addr} {yW yX:Option Addr} {yY:Array (Option Value)} {yZ y4 y7 y8 rR y9:Value} {jS:Addr} {za zb:Option Addr} {zc:Array (Option Value)} {zd ze zf zg rS zh:Value} {eI:Addr} {oz oA:Option Addr} {oB:Array (Option Value)} {oE oF oG oH iC oJ:Value} {dR:Addr} {nA nB:Option Addr} {nE:Array (Option Value)} {nF nG nH nI gR nJ:Value} {dr:Addr} {j4 j5:Option Addr} {j6:Array (Option Value)} {j7 j8 j9 ka fU ke:Value} {gf:Addr} {sZ tf:Option Addr} {tq:Array (Option Value)} {tu tw tz tD lA tE:Value} {da:Addr} {jq jr:Option Addr} {js:Array (Option Value)} {jt ju jv jw fF jx:Value} {eJ:Addr} {oK oM:Option Addr} {oN:Array (Option Value)} {oO oP oQ oR iD oS:Value} {de:Addr} {jy jz:Option Addr} {jA:Array (Option Value)} {jB jC jD jE fG jF:Value} {fA:Addr} {rT rV:Option Addr} {rW:Array (Option Value)} {rX rY rZ sf jG sg:Value} {eK:Addr} {oU oV:Option Addr} {oW:Array (Option Value)} {oX oY oZ o4 iE o6:Value} {dt:Addr} {kf kg:Option Addr} {kh:Array (Option Value)} {ki kj kl km fV ko:Value} {dE:Addr} {lY lZ:Option Addr} {ma:Array (Option Value)} {md me mh mi gG mj:Value} {du:Addr} {kr ku:Option Addr} {kx:Array (Option Value)} {kz kA kB kC fW kD:Value} {df:Addr} {jH jI:Option Addr} {jJ:Array (Option Value)} {jK jL jM jN fH jO:Value}
  (a0:PySem.W.nsIn K mainGlobals "common_divisor"=some (some (.ref f0))) (l0:K.lookup f0=some ⟨oc0,od0,.func (PySem.W.fnOf "common_divisor" "common_divisor" (aW (top 7)) (aV (top 7)) (aq (top 7)) .none kV0 dc0 pm0 an0 Xb ct0),sl0⟩) (e0:PySem.W.codeIn K Xb "common_divisor"=true) (k0:PySem.W.keepIn K (.ref f0)=true)
  (a1:PySem.W.nsIn K mainGlobals "share"=some (some (.ref f1))) (l1:K.lookup f1=some ⟨oc1,od1,.func (PySem.W.fnOf "share" "share" (aW (top 8)) (aV (top 8)) (aq (top 8)) .none kV1 dc1 Mo LI Xc ct1),Vo⟩) (e1:PySem.W.codeIn K Xc "share"=true) (k1:PySem.W.keepIn K (.ref f1)=true)
  (a2:PySem.W.nsIn K mainGlobals "common_bottom"=some (some (.ref f2))) (l2:K.lookup f2=some ⟨oc2,od2,.func (PySem.W.fnOf "common_bottom" "common_bottom" (aW (top 9)) (aV (top 9)) (aq (top 9)) .none kV2 dc2 pm2 an2 Xd ct2),x8⟩) (e2:PySem.W.codeIn K Xd "common_bottom"=true) (k2:PySem.W.keepIn K (.ref f2)=true)
  (a3:PySem.W.nsIn K mainGlobals "table_by_weights"=some (some (.ref f3))) (l3:K.lookup f3=some ⟨oc3,od3,.func (PySem.W.fnOf "table_by_weights" "table_by_weights" (aW (top 11)) (aV (top 11)) (aq (top 11)) .none kV3 dc3 pm3 an3 Xe ct3),sl3⟩) (e3:PySem.W.codeIn K Xe "table_by_weights"=true) (k3:PySem.W.keepIn K (.ref f3)=true)
  (a4:PySem.W.nsIn K mainGlobals "table_of"=some (some (.ref f4))) (l4:K.lookup f4=some ⟨oc4,od4,.func (PySem.W.fnOf "table_of" "table_of" (aW (top 12)) (aV (top 12)) (aq (top 12)) .none kV4 dc4 pm4 an4 Xf ct4),sl4⟩) (e4:PySem.W.codeIn K Xf "table_of"=true) (k4:PySem.W.keepIn K (.ref f4)=true)
  (a5:PySem.W.nsIn K mainGlobals "bottom_of"=some (some (.ref f5))) (l5:K.lookup f5=some ⟨oc5,od5,.func (PySem.W.fnOf "bottom_of" "bottom_of" (aW (top 13)) (aV (top 13)) (aq (top 13)) .none kV5 dc5 pm5 IX Xg ct5),sl5⟩) (e5:PySem.W.codeIn K Xg "bottom_of"=true) (k5:PySem.W.keepIn K (.ref f5)=true)
  (a6:PySem.W.nsIn K mainGlobals "weighed"=some (some (.ref f6))) (l6:K.lookup f6=some ⟨oc6,od6,.func (PySem.W.fnOf "weighed" "weighed" (aW (top 14)) (aV (top 14)) (aq (top 14)) .none kV6 dc6 pm6 an6 Xh ct6),sl6⟩) (e6:PySem.W.codeIn K Xh "weighed"=true) (k6:PySem.W.keepIn K (.ref f6)=true)
  (a7:PySem.W.nsIn K mainGlobals "power"=some (some (.ref f7))) (l7:K.lookup f7=some ⟨oc7,od7,.func (PySem.W.fnOf "power" "power" (aW (top 18)) (aV (top 18)) (aq (top 18)) .none kV7 dc7 pm7 an7 Xi ct7),sl7⟩) (e7:PySem.W.codeIn K Xi "power"=true) (k7:PySem.W.keepIn K (.ref f7)=true)
  (a8:PySem.W.nsIn K mainGlobals "most_faces"=some (some (.ref f8))) (l8:K.lookup f8=some ⟨oc8,od8,.func (PySem.W.fnOf "most_faces" "most_faces" (aW (top 19)) (aV (top 19)) (aq (top 19)) .none kV8 dc8 pm8 an8 Xj ct8),sl8⟩) (e8:PySem.W.codeIn K Xj "most_faces"=true) (k8:PySem.W.keepIn K (.ref f8)=true)
  (a9:PySem.W.nsIn K mainGlobals "part_bottom"=some (some (.ref f9))) (l9:K.lookup f9=some ⟨oc9,od9,.func (PySem.W.fnOf "part_bottom" "part_bottom" (aW (top 20)) (aV (top 20)) (aq (top 20)) .none kV9 dc9 pm9 an9 Xk ct9),sl9⟩) (e9:PySem.W.codeIn K Xk "part_bottom"=true) (k9:PySem.W.keepIn K (.ref f9)=true)
  (a10:PySem.W.nsIn K mainGlobals "part_count"=some (some (.ref Qq))) (l10:K.lookup Qq=some ⟨Qu,Qr,.func (PySem.W.fnOf "part_count" "part_count" (aW (top 21)) (aV (top 21)) (aq (top 21)) .none Qv Qw Qx Qs Mu Qy),Qt⟩) (e10:PySem.W.codeIn K Mu "part_count"=true) (k10:PySem.W.keepIn K (.ref Qq)=true)
  (a11:PySem.W.nsIn K mainGlobals "check_size"=some (some (.ref Qz))) (l11:K.lookup Qz=some ⟨QD,QA,.func (PySem.W.fnOf "check_size" "check_size" (aW (top 22)) (aV (top 22)) (aq (top 22)) .none QF QG QH QB Mv QI),QC⟩) (e11:PySem.W.codeIn K Mv "check_size"=true) (k11:PySem.W.keepIn K (.ref Qz)=true)
  (a12:PySem.W.nsIn K mainGlobals "dice_faces"=some (some (.ref QJ))) (l12:K.lookup QJ=some ⟨QN,QK,.func (PySem.W.fnOf "dice_faces" "dice_faces" (aW (top 23)) (aV (top 23)) (aq (top 23)) .none QO QP QQ QL Mw QR),QM⟩) (e12:PySem.W.codeIn K Mw "dice_faces"=true) (k12:PySem.W.keepIn K (.ref QJ)=true)
  (a13:PySem.W.nsIn K mainGlobals "again_faces"=some (some (.ref QS))) (l13:K.lookup QS=some ⟨QW,QT,.func (PySem.W.fnOf "again_faces" "again_faces" (aW (top 24)) (aV (top 24)) (aq (top 24)) .none QX QY QZ QU Mx Q0),QV⟩) (e13:PySem.W.codeIn K Mx "again_faces"=true) (k13:PySem.W.keepIn K (.ref QS)=true)
  (a14:PySem.W.nsIn K mainGlobals "burst_faces"=some (some (.ref Q4))) (l14:K.lookup Q4=some ⟨Q8,Q5,.func (PySem.W.fnOf "burst_faces" "burst_faces" (aW (top 25)) (aV (top 25)) (aq (top 25)) .none Q9 Ra Rb Q6 My Rc),Q7⟩) (e14:PySem.W.codeIn K My "burst_faces"=true) (k14:PySem.W.keepIn K (.ref Q4)=true)
  (a15:PySem.W.nsIn K mainGlobals "part_faces"=some (some (.ref Rf))) (l15:K.lookup Rf=some ⟨Rj,Rg,.func (PySem.W.fnOf "part_faces" "part_faces" (aW (top 26)) (aV (top 26)) (aq (top 26)) .none Rk Rl Rm Rh Mz Rn),Ri⟩) (e15:PySem.W.codeIn K Mz "part_faces"=true) (k15:PySem.W.keepIn K (.ref Rf)=true)
  (a16:PySem.W.nsIn K mainGlobals "value_of"=some (some (.ref Ro))) (l16:K.lookup Ro=some ⟨Rt,Rp,.func (PySem.W.fnOf "value_of" "value_of" (aW (top 27)) (aV (top 27)) (aq (top 27)) .none Ru Rv Rx Rq MA Ry),Rr⟩) (e16:PySem.W.codeIn K MA "value_of"=true) (k16:PySem.W.keepIn K (.ref Ro)=true)
  (a17:PySem.W.nsIn K mainGlobals "sides_product"=some (some (.ref Rz))) (l17:K.lookup Rz=some ⟨RD,RA,.func (PySem.W.fnOf "sides_product" "sides_product" (aW (top 28)) (aV (top 28)) (aq (top 28)) .none RE RF RG RB MB RH),RC⟩) (e17:PySem.W.codeIn K MB "sides_product"=true) (k17:PySem.W.keepIn K (.ref Rz)=true)
  (a18:PySem.W.nsIn K mainGlobals "part_throws"=some (some (.ref RI))) (l18:K.lookup RI=some ⟨RM,RJ,.func (PySem.W.fnOf "part_throws" "part_throws" (aW (top 29)) (aV (top 29)) (aq (top 29)) .none RN RO RP RK MC RQ),RL⟩) (e18:PySem.W.codeIn K MC "part_throws"=true) (k18:PySem.W.keepIn K (.ref RI)=true)
  (a19:PySem.W.nsIn K mainGlobals "throws_by_bottom"=some (some (.ref RS))) (l19:K.lookup RS=some ⟨RW,RT,.func (PySem.W.fnOf "throws_by_bottom" "throws_by_bottom" (aW (top 30)) (aV (top 30)) (aq (top 30)) .none RX RY RZ RU MD R1),RV⟩) (e19:PySem.W.codeIn K MD "throws_by_bottom"=true) (k19:PySem.W.keepIn K (.ref RS)=true)
  (a20:PySem.W.nsIn K mainGlobals "pool_table"=some (some (.ref R3))) (l20:K.lookup R3=some ⟨R8,R5,.func (PySem.W.fnOf "pool_table" "pool_table" (aW (top 31)) (aV (top 31)) (aq (top 31)) .none R9 Sa Sb R6 ME Sd),R7⟩) (e20:PySem.W.codeIn K ME "pool_table"=true) (k20:PySem.W.keepIn K (.ref R3)=true)
  (a21:PySem.W.nsIn K mainGlobals "own_rows"=some (some (.ref Se))) (l21:K.lookup Se=some ⟨Si,Sf,.func (PySem.W.fnOf "own_rows" "own_rows" (aW (top 34)) (aV (top 34)) (aq (top 34)) .none Sj Sk Sl Sg MF Sm),Sh⟩) (e21:PySem.W.codeIn K MF "own_rows"=true) (k21:PySem.W.keepIn K (.ref Se)=true)
  (a22:PySem.W.nsIn K mainGlobals "own_what"=some (some (.ref Sn))) (l22:K.lookup Sn=some ⟨Ss,So,.func (PySem.W.fnOf "own_what" "own_what" (aW (top 35)) (aV (top 35)) (aq (top 35)) .none Su Sv Sw Sq MG Sx),Sr⟩) (e22:PySem.W.codeIn K MG "own_what"=true) (k22:PySem.W.keepIn K (.ref Sn)=true)
  (a23:PySem.W.nsIn K mainGlobals "throw_ways"=some (some (.ref Sy))) (l23:K.lookup Sy=some ⟨SE,Sz,.func (PySem.W.fnOf "throw_ways" "throw_ways" (aW (top 38)) (aV (top 38)) (aq (top 38)) .none SG SH SI SA MH SJ),SD⟩) (e23:PySem.W.codeIn K MH "throw_ways"=true) (k23:PySem.W.keepIn K (.ref Sy)=true)
  (a24:PySem.W.nsIn K mainGlobals "pick_ways"=some (some (.ref SK))) (l24:K.lookup SK=some ⟨SQ,SM,.func (PySem.W.fnOf "pick_ways" "pick_ways" (aW (top 39)) (aV (top 39)) (aq (top 39)) .none SR SU SV SN MI SW),SO⟩) (e24:PySem.W.codeIn K MI "pick_ways"=true) (k24:PySem.W.keepIn K (.ref SK)=true)
  (a25:PySem.W.nsIn K mainGlobals "taken_up"=some (some (.ref SX))) (l25:K.lookup SX=some ⟨S2,SY,.func (PySem.W.fnOf "taken_up" "taken_up" (aW (top 40)) (aV (top 40)) (aq (top 40)) .none S3 S4 S5 S0 MJ S6),S1⟩) (e25:PySem.W.codeIn K MJ "taken_up"=true) (k25:PySem.W.keepIn K (.ref SX)=true)
  (a26:PySem.W.nsIn K mainGlobals "spread"=some (some (.ref S7))) (l26:K.lookup S7=some ⟨Tb,S8,.func (PySem.W.fnOf "spread" "spread" (aW (top 41)) (aV (top 41)) (aq (top 41)) .none Tc Td Te S9 MK Tf),Ta⟩) (e26:PySem.W.codeIn K MK "spread"=true) (k26:PySem.W.keepIn K (.ref S7)=true)
  (a27:PySem.W.nsIn K mainGlobals "_law_at"=some (some (.ref Tg))) (l27:K.lookup Tg=some ⟨Tn,Th,.func (PySem.W.fnOf "_law_at" "_law_at" (aW (top 43)) (aV (top 43)) (aq (top 43)) .none To Tp Tq Ti ML Tr),Tj⟩) (e27:PySem.W.codeIn K ML "_law_at"=true) (k27:PySem.W.keepIn K (.ref Tg)=true)
  (a28:PySem.W.nsIn K mainGlobals "_law_deeds"=some (some (.ref Ts))) (l28:K.lookup Ts=some ⟨Tx,Tt,.func (PySem.W.fnOf "_law_deeds" "_law_deeds" (aW (top 44)) (aV (top 44)) (aq (top 44)) .none Tz TB TC Tu MM TF),Tv⟩) (e28:PySem.W.codeIn K MM "_law_deeds"=true) (k28:PySem.W.keepIn K (.ref Ts)=true)
  (a29:PySem.W.nsIn K mainGlobals "_law_what"=some (some (.ref TH))) (l29:K.lookup TH=some ⟨TN,TK,.func (PySem.W.fnOf "_law_what" "_law_what" (aW (top 45)) (aV (top 45)) (aq (top 45)) .none TQ TU TV TL MN TX),TM⟩) (e29:PySem.W.codeIn K MN "_law_what"=true) (k29:PySem.W.keepIn K (.ref TH)=true)
  (a30:PySem.W.nsIn K mainGlobals "_law_game"=some (some (.ref TY))) (l30:K.lookup TY=some ⟨T4,TZ,.func (PySem.W.fnOf "_law_game" "_law_game" (aW (top 46)) (aV (top 46)) (aq (top 46)) .none T5 T6 T7 T2 MO T8),T3⟩) (e30:PySem.W.codeIn K MO "_law_game"=true) (k30:PySem.W.keepIn K (.ref TY)=true)
  (a31:PySem.W.nsIn K mainGlobals "_law_words"=some (some (.ref T9))) (l31:K.lookup T9=some ⟨Ud,Ua,.func (PySem.W.fnOf "_law_words" "_law_words" (aW (top 47)) (aV (top 47)) (aq (top 47)) .none Ue Ug Uh Ub MP Ui),Uc⟩) (e31:PySem.W.codeIn K MP "_law_words"=true) (k31:PySem.W.keepIn K (.ref T9)=true)
  (a32:PySem.W.nsIn K mainGlobals "_law_deeds_named"=some (some (.ref Uj))) (l32:K.lookup Uj=some ⟨Uo,Uk,.func (PySem.W.fnOf "_law_deeds_named" "_law_deeds_named" (aW (top 48)) (aV (top 48)) (aq (top 48)) .none Up Uq Ur Ul MQ Us),Um⟩) (e32:PySem.W.codeIn K MQ "_law_deeds_named"=true) (k32:PySem.W.keepIn K (.ref Uj)=true)
  (a33:PySem.W.nsIn K mainGlobals "_law_what_named"=some (some (.ref Ut))) (l33:K.lookup Ut=some ⟨Ux,Uu,.func (PySem.W.fnOf "_law_what_named" "_law_what_named" (aW (top 49)) (aV (top 49)) (aq (top 49)) .none Uy Uz UA Uv MR UB),Uw⟩) (e33:PySem.W.codeIn K MR "_law_what_named"=true) (k33:PySem.W.keepIn K (.ref Ut)=true)
  (a34:PySem.W.nsIn K mainGlobals "_law_order"=some (some (.ref UC))) (l34:K.lookup UC=some ⟨UH,UD,.func (PySem.W.fnOf "_law_order" "_law_order" (aW (top 50)) (aV (top 50)) (aq (top 50)) .none UI UJ UK UE MS UM),UG⟩) (e34:PySem.W.codeIn K MS "_law_order"=true) (k34:PySem.W.keepIn K (.ref UC)=true)
  (a35:PySem.W.nsIn K mainGlobals "_law_told"=some (some (.ref UN))) (l35:K.lookup UN=some ⟨UR,UO,.func (PySem.W.fnOf "_law_told" "_law_told" (aW (top 51)) (aV (top 51)) (aq (top 51)) .none US UT UU UP MT UW),UQ⟩) (e35:PySem.W.codeIn K MT "_law_told"=true) (k35:PySem.W.keepIn K (.ref UN)=true)
  (a36:PySem.W.nsIn K mainGlobals "law"=some (some (.ref UX))) (l36:K.lookup UX=some ⟨U1,UY,.func (PySem.W.fnOf "law" "law" (aW (top 52)) (aV (top 52)) (aq (top 52)) .none U2 U3 U4 UZ MU U6),U0⟩) (e36:PySem.W.codeIn K MU "law"=true) (k36:PySem.W.keepIn K (.ref UX)=true)
  (z_abs:PySem.W.nsIn K mainGlobals "abs"=some none)
  (z_dict:PySem.W.nsIn K mainGlobals "dict"=some none)
  (z_enumerate:PySem.W.nsIn K mainGlobals "enumerate"=some none)
  (z_int:PySem.W.nsIn K mainGlobals "int"=some none)
  (z_isinstance:PySem.W.nsIn K mainGlobals "isinstance"=some none)
  (z_len:PySem.W.nsIn K mainGlobals "len"=some none)
  (z_list:PySem.W.nsIn K mainGlobals "list"=some none)
  (z_max:PySem.W.nsIn K mainGlobals "max"=some none)
  (z_min:PySem.W.nsIn K mainGlobals "min"=some none)
  (z_range:PySem.W.nsIn K mainGlobals "range"=some none)
  (z_sorted:PySem.W.nsIn K mainGlobals "sorted"=some none)
  (z_str:PySem.W.nsIn K mainGlobals "str"=some none)
  (z_sum:PySem.W.nsIn K mainGlobals "sum"=some none)
  (z_tuple:PySem.W.nsIn K mainGlobals "tuple"=some none)
  (z_zip:PySem.W.nsIn K mainGlobals "zip"=some none)
  (c_MOST_THROWS:PySem.W.nsIn K mainGlobals "MOST_THROWS"=some (some (.int 1296 rO)))
  (c_MOST_BOTTOM:PySem.W.nsIn K mainGlobals "MOST_BOTTOM"=some (some (.int 1000000 rP)))
  (c_MOST_STATES:PySem.W.nsIn K mainGlobals "MOST_STATES"=some (some (.int 120 rQ)))
  (k_NoShare:PySem.W.nsIn K mainGlobals "NoShare"=some (some (.ref aH)))
  (k_NoTable:PySem.W.nsIn K mainGlobals "NoTable"=some (some (.ref aI)))
  (k_TooMany:PySem.W.nsIn K mainGlobals "TooMany"=some (some (.ref aE)))
  (k_NoWay:PySem.W.nsIn K mainGlobals "NoWay"=some (some (.ref aO)))
  (k_Course:PySem.W.nsIn K mainGlobals "Course"=some (some (.ref af)))
  (k_Finder:PySem.W.nsIn K mainGlobals "Finder"=some (some (.ref av)))
  (x_NoShare:PySem.W.excIn K aH uH mF=true)
  (x_NoTable:PySem.W.excIn K aI uH mF=true)
  (x_TooMany:PySem.W.excIn K aE uH mF=true)
  (x_NoWay:PySem.W.excIn K aO uH mF=true)
  (e_NoWay_NoWay:PySem.W.exmOne K (.ref aO) (.ref aO)=some true)
  (e_TooMany_TooMany:PySem.W.exmOne K (.ref aE) (.ref aE)=some true)
  (f_TooMany_NoWay:PySem.W.exmOne K (.ref aE) (.ref aO)=some false)
  (cl_Coursepg:PySem.W.plainGet K af Str.empty=true)
  (cl_Coursehd:PySem.W.hasDictIn K af=true)
  (cl_Coursepo:PySem.W.plainOver K af=true)
  (cl_Coursesa:PySem.W.findIn K (.ref af) "__setattr__"=some (some (.builtin "object.__setattr__")))
  (cl_Finderpg:PySem.W.plainGet K av Str.empty=true)
  (cl_Finderhd:PySem.W.hasDictIn K av=true)
  (cl_Finderpo:PySem.W.plainOver K av=true)
  (cl_Findersa:PySem.W.findIn K (.ref av) "__setattr__"=some (some (.builtin "object.__setattr__")))
  (na_Course_first:PySem.W.findIn K (.ref af) "first"=some none)
  (na_Course_mosts:PySem.W.findIn K (.ref af) "mosts"=some none)
  (na_Course_spots:PySem.W.findIn K (.ref af) "spots"=some none)
  (na_Course_tables:PySem.W.findIn K (.ref af) "tables"=some none)
  (na_Course_whats:PySem.W.findIn K (.ref af) "whats"=some none)
  (na_Finder_numbers:PySem.W.findIn K (.ref av) "numbers"=some none)
  (na_Finder_states:PySem.W.findIn K (.ref av) "states"=some none)
  (dia_Course:PySem.W.findIn K (.ref af) "__init__"=some (some (.ref jR)))
  (dii_Course:PySem.W.isFn K (.ref jR)=true)
  (dil_Course:K.lookup jR=some ⟨yZ,yW,.func (PySem.W.fnOf "__init__" "Course.__init__" (aW (inClass (top 36) 0)) (aV (inClass (top 36) 0)) (aq (inClass (top 36) 0)) .none y4 y7 y8 yX rR y9),yY⟩)
  (dic_Course:PySem.W.codeIn K rR "Course.__init__"=true)
  (dik_Course:PySem.W.keepIn K (.ref jR)=true)
  (dim_Course:PySem.W.makesIn K af=true)
  (diq_Course:PySem.W.keepIn K (.ref af)=true)
  (dia_Finder:PySem.W.findIn K (.ref av) "__init__"=some (some (.ref jS)))
  (dii_Finder:PySem.W.isFn K (.ref jS)=true)
  (dil_Finder:K.lookup jS=some ⟨zd,za,.func (PySem.W.fnOf "__init__" "Finder.__init__" (aW (inClass (top 37) 0)) (aV (inClass (top 37) 0)) (aq (inClass (top 37) 0)) .none ze zf zg zb rS zh),zc⟩)
  (dic_Finder:PySem.W.codeIn K rS "Finder.__init__"=true)
  (dik_Finder:PySem.W.keepIn K (.ref jS)=true)
  (dim_Finder:PySem.W.makesIn K av=true)
  (diq_Finder:PySem.W.keepIn K (.ref av)=true)
  (dma_Course_asked:PySem.W.findIn K (.ref af) "asked"=some (some (.ref eI)))
  (dmi_Course_asked:PySem.W.isFn K (.ref eI)=true)
  (dml_Course_asked:K.lookup eI=some ⟨oE,oz,.func (PySem.W.fnOf "asked" "Course.asked" (aW (inClass (top 36) 3)) (aV (inClass (top 36) 3)) (aq (inClass (top 36) 3)) .none oF oG oH oA iC oJ),oB⟩)
  (dmc_Course_asked:PySem.W.codeIn K iC "Course.asked"=true)
  (dmk_Course_asked:PySem.W.keepIn K (.ref eI)=true)
  (dma_Course_by_row:PySem.W.findIn K (.ref af) "by_row"=some (some (.ref dR)))
  (dmi_Course_by_row:PySem.W.isFn K (.ref dR)=true)
  (dml_Course_by_row:K.lookup dR=some ⟨nF,nA,.func (PySem.W.fnOf "by_row" "Course.by_row" (aW (inClass (top 36) 6)) (aV (inClass (top 36) 6)) (aq (inClass (top 36) 6)) .none nG nH nI nB gR nJ),nE⟩)
  (dmc_Course_by_row:PySem.W.codeIn K gR "Course.by_row"=true)
  (dmk_Course_by_row:PySem.W.keepIn K (.ref dR)=true)
  (dma_Course_by_value:PySem.W.findIn K (.ref af) "by_value"=some (some (.ref dr)))
  (dmi_Course_by_value:PySem.W.isFn K (.ref dr)=true)
  (dml_Course_by_value:K.lookup dr=some ⟨j7,j4,.func (PySem.W.fnOf "by_value" "Course.by_value" (aW (inClass (top 36) 7)) (aV (inClass (top 36) 7)) (aq (inClass (top 36) 7)) .none j8 j9 ka j5 fU ke),j6⟩)
  (dmc_Course_by_value:PySem.W.codeIn K fU "Course.by_value"=true)
  (dmk_Course_by_value:PySem.W.keepIn K (.ref dr)=true)
  (dma_Course_do:PySem.W.findIn K (.ref af) "do"=some (some (.ref gf)))
  (dmi_Course_do:PySem.W.isFn K (.ref gf)=true)
  (dml_Course_do:K.lookup gf=some ⟨tu,sZ,.func (PySem.W.fnOf "do" "Course.do" (aW (inClass (top 36) 2)) (aV (inClass (top 36) 2)) (aq (inClass (top 36) 2)) .none tw tz tD tf lA tE),tq⟩)
  (dmc_Course_do:PySem.W.codeIn K lA "Course.do"=true)
  (dmk_Course_do:PySem.W.keepIn K (.ref gf)=true)
  (dma_Course_end_worth:PySem.W.findIn K (.ref af) "end_worth"=some (some (.ref da)))
  (dmi_Course_end_worth:PySem.W.isFn K (.ref da)=true)
  (dml_Course_end_worth:K.lookup da=some ⟨jt,jq,.func (PySem.W.fnOf "end_worth" "Course.end_worth" (aW (inClass (top 36) 12)) (aV (inClass (top 36) 12)) (aq (inClass (top 36) 12)) .none ju jv jw jr fF jx),js⟩)
  (dmc_Course_end_worth:PySem.W.codeIn K fF "Course.end_worth"=true)
  (dmk_Course_end_worth:PySem.W.keepIn K (.ref da)=true)
  (dma_Course_holds:PySem.W.findIn K (.ref af) "holds"=some (some (.ref eJ)))
  (dmi_Course_holds:PySem.W.isFn K (.ref eJ)=true)
  (dml_Course_holds:K.lookup eJ=some ⟨oO,oK,.func (PySem.W.fnOf "holds" "Course.holds" (aW (inClass (top 36) 9)) (aV (inClass (top 36) 9)) (aq (inClass (top 36) 9)) .none oP oQ oR oM iD oS),oN⟩)
  (dmc_Course_holds:PySem.W.codeIn K iD "Course.holds"=true)
  (dmk_Course_holds:PySem.W.keepIn K (.ref eJ)=true)
  (dma_Course_open_rows:PySem.W.findIn K (.ref af) "open_rows"=some (some (.ref de)))
  (dmi_Course_open_rows:PySem.W.isFn K (.ref de)=true)
  (dml_Course_open_rows:K.lookup de=some ⟨jB,jy,.func (PySem.W.fnOf "open_rows" "Course.open_rows" (aW (inClass (top 36) 10)) (aV (inClass (top 36) 10)) (aq (inClass (top 36) 10)) .none jC jD jE jz fG jF),jA⟩)
  (dmc_Course_open_rows:PySem.W.codeIn K fG "Course.open_rows"=true)
  (dmk_Course_open_rows:PySem.W.keepIn K (.ref de)=true)
  (dma_Course_put:PySem.W.findIn K (.ref af) "put"=some (some (.ref fA)))
  (dmi_Course_put:PySem.W.isFn K (.ref fA)=true)
  (dml_Course_put:K.lookup fA=some ⟨rX,rT,.func (PySem.W.fnOf "put" "Course.put" (aW (inClass (top 36) 1)) (aV (inClass (top 36) 1)) (aq (inClass (top 36) 1)) .none rY rZ sf rV jG sg),rW⟩)
  (dmc_Course_put:PySem.W.codeIn K jG "Course.put"=true)
  (dmk_Course_put:PySem.W.keepIn K (.ref fA)=true)
  (dma_Course_start:PySem.W.findIn K (.ref af) "start"=some (some (.ref eK)))
  (dmi_Course_start:PySem.W.isFn K (.ref eK)=true)
  (dml_Course_start:K.lookup eK=some ⟨oX,oU,.func (PySem.W.fnOf "start" "Course.start" (aW (inClass (top 36) 4)) (aV (inClass (top 36) 4)) (aq (inClass (top 36) 4)) .none oY oZ o4 oV iE o6),oW⟩)
  (dmc_Course_start:PySem.W.codeIn K iE "Course.start"=true)
  (dmk_Course_start:PySem.W.keepIn K (.ref eK)=true)
  (dma_Course_table_at:PySem.W.findIn K (.ref af) "table_at"=some (some (.ref dt)))
  (dmi_Course_table_at:PySem.W.isFn K (.ref dt)=true)
  (dml_Course_table_at:K.lookup dt=some ⟨ki,kf,.func (PySem.W.fnOf "table_at" "Course.table_at" (aW (inClass (top 36) 8)) (aV (inClass (top 36) 8)) (aq (inClass (top 36) 8)) .none kj kl km kg fV ko),kh⟩)
  (dmc_Course_table_at:PySem.W.codeIn K fV "Course.table_at"=true)
  (dmk_Course_table_at:PySem.W.keepIn K (.ref dt)=true)
  (dma_Course_what_at:PySem.W.findIn K (.ref af) "what_at"=some (some (.ref dE)))
  (dmi_Course_what_at:PySem.W.isFn K (.ref dE)=true)
  (dml_Course_what_at:K.lookup dE=some ⟨md,lY,.func (PySem.W.fnOf "what_at" "Course.what_at" (aW (inClass (top 36) 5)) (aV (inClass (top 36) 5)) (aq (inClass (top 36) 5)) .none me mh mi lZ gG mj),ma⟩)
  (dmc_Course_what_at:PySem.W.codeIn K gG "Course.what_at"=true)
  (dmk_Course_what_at:PySem.W.keepIn K (.ref dE)=true)
  (dma_Course_words_at:PySem.W.findIn K (.ref af) "words_at"=some (some (.ref du)))
  (dmi_Course_words_at:PySem.W.isFn K (.ref du)=true)
  (dml_Course_words_at:K.lookup du=some ⟨kz,kr,.func (PySem.W.fnOf "words_at" "Course.words_at" (aW (inClass (top 36) 11)) (aV (inClass (top 36) 11)) (aq (inClass (top 36) 11)) .none kA kB kC ku fW kD),kx⟩)
  (dmc_Course_words_at:PySem.W.codeIn K fW "Course.words_at"=true)
  (dmk_Course_words_at:PySem.W.keepIn K (.ref du)=true)
  (dma_Finder_number_of:PySem.W.findIn K (.ref av) "number_of"=some (some (.ref df)))
  (dmi_Finder_number_of:PySem.W.isFn K (.ref df)=true)
  (dml_Finder_number_of:K.lookup df=some ⟨jK,jH,.func (PySem.W.fnOf "number_of" "Finder.number_of" (aW (inClass (top 37) 1)) (aV (inClass (top 37) 1)) (aq (inClass (top 37) 1)) .none jL jM jN jI fH jO),jJ⟩)
  (dmc_Finder_number_of:PySem.W.codeIn K fH "Finder.number_of"=true)
  (dmk_Finder_number_of:PySem.W.keepIn K (.ref df)=true)
  :∃fd:FuncData,(∀(s:Shared) (v:Value),BindsTo s fd ⟨[v],[]⟩ [("_law_script",v)])/\∀base:Heap,K.In base->base.Ns mainGlobals mg->fX l.prog w K mg base (bG l.prog w) 30 fa fd ["_law_script"] (An K):=by
 have e:=hfa.symm.trans (aai X G a36)
 cases e
 have T:Txt K mg aH aI aE aO af av:=⟨aaH X G z_abs,aaH X G z_dict,aaH X G z_enumerate,aaH X G z_int,aaH X G z_isinstance,aaH X G z_len,aaH X G z_list,aaH X G z_max,aaH X G z_min,aaH X G z_range,aaH X G z_sorted,aaH X G z_str,aaH X G z_sum,aaH X G z_tuple,aaH X G z_zip,⟨_,_,br l0 e0 k0,aai X G a0⟩,⟨_,_,br l1 e1 k1,aai X G a1⟩,⟨_,_,br l2 e2 k2,aai X G a2⟩,⟨_,_,br l3 e3 k3,aai X G a3⟩,⟨_,_,br l4 e4 k4,aai X G a4⟩,⟨_,_,br l5 e5 k5,aai X G a5⟩,⟨_,_,br l6 e6 k6,aai X G a6⟩,⟨_,_,br l7 e7 k7,aai X G a7⟩,⟨_,_,br l8 e8 k8,aai X G a8⟩,⟨_,_,br l9 e9 k9,aai X G a9⟩,⟨_,_,br l10 e10 k10,aai X G a10⟩,⟨_,_,br l11 e11 k11,aai X G a11⟩,⟨_,_,br l12 e12 k12,aai X G a12⟩,⟨_,_,br l13 e13 k13,aai X G a13⟩,⟨_,_,br l14 e14 k14,aai X G a14⟩,⟨_,_,br l15 e15 k15,aai X G a15⟩,⟨_,_,br l16 e16 k16,aai X G a16⟩,⟨_,_,br l17 e17 k17,aai X G a17⟩,⟨_,_,br l18 e18 k18,aai X G a18⟩,⟨_,_,br l19 e19 k19,aai X G a19⟩,⟨_,_,br l20 e20 k20,aai X G a20⟩,⟨_,_,br l21 e21 k21,aai X G a21⟩,⟨_,_,br l22 e22 k22,aai X G a22⟩,⟨_,_,br l23 e23 k23,aai X G a23⟩,⟨_,_,br l24 e24 k24,aai X G a24⟩,⟨_,_,br l25 e25 k25,aai X G a25⟩,⟨_,_,br l26 e26 k26,aai X G a26⟩,⟨_,_,br l27 e27 k27,aai X G a27⟩,⟨_,_,br l28 e28 k28,aai X G a28⟩,⟨_,_,br l29 e29 k29,aai X G a29⟩,⟨_,_,br l30 e30 k30,aai X G a30⟩,⟨_,_,br l31 e31 k31,aai X G a31⟩,⟨_,_,br l32 e32 k32,aai X G a32⟩,⟨_,_,br l33 e33 k33,aai X G a33⟩,⟨_,_,br l34 e34 k34,aai X G a34⟩,⟨_,_,br l35 e35 k35,aai X G a35⟩,⟨_,aai X G c_MOST_THROWS⟩,⟨_,aai X G c_MOST_BOTTOM⟩,⟨_,aai X G c_MOST_STATES⟩,aai X G k_NoShare,aai X G k_NoTable,aai X G k_TooMany,aai X G k_NoWay,aai X G k_Course,aai X G k_Finder,x_NoShare,x_NoTable,x_TooMany,x_NoWay,e_NoWay_NoWay,e_TooMany_TooMany,f_TooMany_NoWay,⟨cl_Coursepg,cl_Coursehd,cl_Coursepo,cl_Coursesa⟩,⟨cl_Finderpg,cl_Finderhd,cl_Finderpo,cl_Findersa⟩,na_Course_first,na_Course_mosts,na_Course_spots,na_Course_tables,na_Course_whats,na_Finder_numbers,na_Finder_states,⟨_,_,br dil_Course dic_Course dik_Course,⟨dim_Course,dia_Course,dii_Course,diq_Course⟩,aai X G k_Course⟩,⟨_,_,br dil_Finder dic_Finder dik_Finder,⟨dim_Finder,dia_Finder,dii_Finder,diq_Finder⟩,aai X G k_Finder⟩,⟨_,_,br dml_Course_asked dmc_Course_asked dmk_Course_asked,⟨dma_Course_asked,dmi_Course_asked,dmk_Course_asked⟩⟩,⟨_,_,br dml_Course_by_row dmc_Course_by_row dmk_Course_by_row,⟨dma_Course_by_row,dmi_Course_by_row,dmk_Course_by_row⟩⟩,⟨_,_,br dml_Course_by_value dmc_Course_by_value dmk_Course_by_value,⟨dma_Course_by_value,dmi_Course_by_value,dmk_Course_by_value⟩⟩,⟨_,_,br dml_Course_do dmc_Course_do dmk_Course_do,⟨dma_Course_do,dmi_Course_do,dmk_Course_do⟩⟩,⟨_,_,br dml_Course_end_worth dmc_Course_end_worth dmk_Course_end_worth,⟨dma_Course_end_worth,dmi_Course_end_worth,dmk_Course_end_worth⟩⟩,⟨_,_,br dml_Course_holds dmc_Course_holds dmk_Course_holds,⟨dma_Course_holds,dmi_Course_holds,dmk_Course_holds⟩⟩,⟨_,_,br dml_Course_open_rows dmc_Course_open_rows dmk_Course_open_rows,⟨dma_Course_open_rows,dmi_Course_open_rows,dmk_Course_open_rows⟩⟩,⟨_,_,br dml_Course_put dmc_Course_put dmk_Course_put,⟨dma_Course_put,dmi_Course_put,dmk_Course_put⟩⟩,⟨_,_,br dml_Course_start dmc_Course_start dmk_Course_start,⟨dma_Course_start,dmi_Course_start,dmk_Course_start⟩⟩,⟨_,_,br dml_Course_table_at dmc_Course_table_at dmk_Course_table_at,⟨dma_Course_table_at,dmi_Course_table_at,dmk_Course_table_at⟩⟩,⟨_,_,br dml_Course_what_at dmc_Course_what_at dmk_Course_what_at,⟨dma_Course_what_at,dmi_Course_what_at,dmk_Course_what_at⟩⟩,⟨_,_,br dml_Course_words_at dmc_Course_words_at dmk_Course_words_at,⟨dma_Course_words_at,dmi_Course_words_at,dmk_Course_words_at⟩⟩,⟨_,_,br dml_Finder_number_of dmc_Finder_number_of dmk_Finder_number_of,⟨dma_Finder_number_of,dmi_Finder_number_of,dmk_Finder_number_of⟩⟩⟩
 exact⟨_,λs v=>.of_eq rfl,λbase _ _=>(Jr T (br l36 e36 k36)).mono (by decide)⟩
theorem walk {l:PySem.W.OpenLaw} {q:Program} {loose:List Str} {XP:(Str->Option Value)->Heap->Prop} {YP:World->Heap->Prop} {d:DefRec} {K:Params->PySem.W.Frag} (hn:l.most=some 63) (Kk:d.params.defaults=[])
  (hY:∀(w:World) (h:Heap),YP w h->(K w.params).In h)
  (F:∀(w:World) (mg:Str->Option Value) (fa:Addr) (h:Heap),(K w.params).In h->h.Ns mainGlobals mg->mg d.name=some (.ref fa)->
   ∃fd:FuncData,(∀(s:Shared) (u:Value),BindsTo s fd ⟨[u],[]⟩ [("_law_script",u)])/\∀base:Heap,(K w.params).In base->base.Ns mainGlobals mg->fX l.prog w (K w.params) mg base (bG l.prog w) 30 fa fd ["_law_script"] (An (K w.params))):
  PySem.W.WalkO q loose XP YP l.row.toRowW d [] (λf vs=>PySem.call f vs):=
 L2.ER (n:=63) (k:=30) (x:="_law_script") (CX:=λw=>bG l.prog w) (sp:=λw=>An (K w.params)) hn (by decide) Kk ⟨rfl,by decide,by decide⟩ hY F (λ_ _ a ns hl _ hS=>⟨a,ns,rfl,hS,hl,λ_=>rfl⟩) λ_ _ _ _ _ z=>(zE _ _) _ _ _ _ _ z
end K60
open PySem PySem.W PyProof.Rows
set_option maxRecDepth 100000 in
set_option maxHeartbeats 0 in
theorem PySem.Challenge.cw_pressluck_k60_whole_names_and_order_holds : PySem.Challenge.rw_pressluck_k60_whole_names_and_order.Holds := by
  w_on; refine holds_law (by decide +kernel) fun aab => ?_
  refine holds_open (q := K60.vw) (loose := []) (Xt := (fun s => xlAt K60.vw [] s && recOk (RowW.records (OpenRow.toRowW (PySem.W.OpenLaw.row PySem.Challenge.rw_pressluck_k60_whole_names_and_order))) s)) (XP := XL K60.vw []) (Yf := Hook.obs (kHook K60.pre.heap_1 K60.Gh K60.G8)) (Ya := Hook.val (kHook K60.pre.heap_1 K60.Gh K60.G8)) (YP := Hook.says (kHook K60.pre.heap_1 K60.Gh K60.G8)) (N := 6246) (Hd.Ay (by kernel_rfl) (by decide) (fun s => by kernel_rfl) K60.run) (Hook.of (kHook K60.pre.heap_1 K60.Gh K60.G8)) (Hook.keeps (kHook K60.pre.heap_1 K60.Gh K60.G8)) (fun s e => xl_of s (Bool.and_eq_true_iff.mp e).1) XL.keeps (by rfl) (by rfl) (by rfl) (fun s e => recFacts_of (Bool.and_eq_true_iff.mp e).2) (by rfl) (by first | assumption | decide +kernel) (by decide +kernel) ⟨rfl, rfl, rfl, rfl, rfl, by decide +kernel⟩ ?hw ?hc
  (case hw => w_witness2)
  k_fill
  refine K60.walk (l := PySem.Challenge.rw_pressluck_k60_whole_names_and_order) rfl rfl (fun w h Y => PySem.W.kIn_of Y) ?F
  case F =>
    intro w mg fa h KX G Kl
    refine' K60.all_mk KX G Kl ?a0 ?l0 ?e0 ?k0 ?a1 ?l1 ?e1 ?k1 ?a2 ?l2 ?e2 ?k2 ?a3 ?l3 ?e3 ?k3 ?a4 ?l4 ?e4 ?k4 ?a5 ?l5 ?e5 ?k5 ?a6 ?l6 ?e6 ?k6 ?a7 ?l7 ?e7 ?k7 ?a8 ?l8 ?e8 ?k8 ?a9 ?l9 ?e9 ?k9 ?a10 ?l10 ?e10 ?k10 ?a11 ?l11 ?e11 ?k11 ?a12 ?l12 ?e12 ?k12 ?a13 ?l13 ?e13 ?k13 ?a14 ?l14 ?e14 ?k14 ?a15 ?l15 ?e15 ?k15 ?a16 ?l16 ?e16 ?k16 ?a17 ?l17 ?e17 ?k17 ?a18 ?l18 ?e18 ?k18 ?a19 ?l19 ?e19 ?k19 ?a20 ?l20 ?e20 ?k20 ?a21 ?l21 ?e21 ?k21 ?a22 ?l22 ?e22 ?k22 ?a23 ?l23 ?e23 ?k23 ?a24 ?l24 ?e24 ?k24 ?a25 ?l25 ?e25 ?k25 ?a26 ?l26 ?e26 ?k26 ?a27 ?l27 ?e27 ?k27 ?a28 ?l28 ?e28 ?k28 ?a29 ?l29 ?e29 ?k29 ?a30 ?l30 ?e30 ?k30 ?a31 ?l31 ?e31 ?k31 ?a32 ?l32 ?e32 ?k32 ?a33 ?l33 ?e33 ?k33 ?a34 ?l34 ?e34 ?k34 ?a35 ?l35 ?e35 ?k35 ?a36 ?l36 ?e36 ?k36 ?z_abs ?z_dict ?z_enumerate ?z_int ?z_isinstance ?z_len ?z_list ?z_max ?z_min ?z_range ?z_sorted ?z_str ?z_sum ?z_tuple ?z_zip ?c_MOST_THROWS ?c_MOST_BOTTOM ?c_MOST_STATES ?k_NoShare ?k_NoTable ?k_TooMany ?k_NoWay ?k_Course ?k_Finder ?x_NoShare ?x_NoTable ?x_TooMany ?x_NoWay ?e_NoWay_NoWay ?e_TooMany_TooMany ?f_TooMany_NoWay ?cl_Coursepg ?cl_Coursehd ?cl_Coursepo ?cl_Coursesa ?cl_Finderpg ?cl_Finderhd ?cl_Finderpo ?cl_Findersa ?na_Course_first ?na_Course_mosts ?na_Course_spots ?na_Course_tables ?na_Course_whats ?na_Finder_numbers ?na_Finder_states ?dia_Course ?dii_Course ?dil_Course ?dic_Course ?dik_Course ?dim_Course ?diq_Course ?dia_Finder ?dii_Finder ?dil_Finder ?dic_Finder ?dik_Finder ?dim_Finder ?diq_Finder ?dma_Course_asked ?dmi_Course_asked ?dml_Course_asked ?dmc_Course_asked ?dmk_Course_asked ?dma_Course_by_row ?dmi_Course_by_row ?dml_Course_by_row ?dmc_Course_by_row ?dmk_Course_by_row ?dma_Course_by_value ?dmi_Course_by_value ?dml_Course_by_value ?dmc_Course_by_value ?dmk_Course_by_value ?dma_Course_do ?dmi_Course_do ?dml_Course_do ?dmc_Course_do ?dmk_Course_do ?dma_Course_end_worth ?dmi_Course_end_worth ?dml_Course_end_worth ?dmc_Course_end_worth ?dmk_Course_end_worth ?dma_Course_holds ?dmi_Course_holds ?dml_Course_holds ?dmc_Course_holds ?dmk_Course_holds ?dma_Course_open_rows ?dmi_Course_open_rows ?dml_Course_open_rows ?dmc_Course_open_rows ?dmk_Course_open_rows ?dma_Course_put ?dmi_Course_put ?dml_Course_put ?dmc_Course_put ?dmk_Course_put ?dma_Course_start ?dmi_Course_start ?dml_Course_start ?dmc_Course_start ?dmk_Course_start ?dma_Course_table_at ?dmi_Course_table_at ?dml_Course_table_at ?dmc_Course_table_at ?dmk_Course_table_at ?dma_Course_what_at ?dmi_Course_what_at ?dml_Course_what_at ?dmc_Course_what_at ?dmk_Course_what_at ?dma_Course_words_at ?dmi_Course_words_at ?dml_Course_words_at ?dmc_Course_words_at ?dmk_Course_words_at ?dma_Finder_number_of ?dmi_Finder_number_of ?dml_Finder_number_of ?dmc_Finder_number_of ?dmk_Finder_number_of
    (case a0 => k_is)
    (case l0 => k_is)
    (case e0 => k_is)
    (case k0 => k_is)
    (case a1 => k_is)
    (case l1 => k_is)
    (case e1 => k_is)
    (case k1 => k_is)
    (case a2 => k_is)
    (case l2 => k_is)
    (case e2 => k_is)
    (case k2 => k_is)
    (case a3 => k_is)
    (case l3 => k_is)
    (case e3 => k_is)
    (case k3 => k_is)
    (case a4 => k_is)
    (case l4 => k_is)
    (case e4 => k_is)
    (case k4 => k_is)
    (case a5 => k_is)
    (case l5 => k_is)
    (case e5 => k_is)
    (case k5 => k_is)
    (case a6 => k_is)
    (case l6 => k_is)
    (case e6 => k_is)
    (case k6 => k_is)
    (case a7 => k_is)
    (case l7 => k_is)
    (case e7 => k_is)
    (case k7 => k_is)
    (case a8 => k_is)
    (case l8 => k_is)
    (case e8 => k_is)
    (case k8 => k_is)
    (case a9 => k_is)
    (case l9 => k_is)
    (case e9 => k_is)
    (case k9 => k_is)
    (case a10 => k_is)
    (case l10 => k_is)
    (case e10 => k_is)
    (case k10 => k_is)
    (case a11 => k_is)
    (case l11 => k_is)
    (case e11 => k_is)
    (case k11 => k_is)
    (case a12 => k_is)
    (case l12 => k_is)
    (case e12 => k_is)
    (case k12 => k_is)
    (case a13 => k_is)
    (case l13 => k_is)
    (case e13 => k_is)
    (case k13 => k_is)
    (case a14 => k_is)
    (case l14 => k_is)
    (case e14 => k_is)
    (case k14 => k_is)
    (case a15 => k_is)
    (case l15 => k_is)
    (case e15 => k_is)
    (case k15 => k_is)
    (case a16 => k_is)
    (case l16 => k_is)
    (case e16 => k_is)
    (case k16 => k_is)
    (case a17 => k_is)
    (case l17 => k_is)
    (case e17 => k_is)
    (case k17 => k_is)
    (case a18 => k_is)
    (case l18 => k_is)
    (case e18 => k_is)
    (case k18 => k_is)
    (case a19 => k_is)
    (case l19 => k_is)
    (case e19 => k_is)
    (case k19 => k_is)
    (case a20 => k_is)
    (case l20 => k_is)
    (case e20 => k_is)
    (case k20 => k_is)
    (case a21 => k_is)
    (case l21 => k_is)
    (case e21 => k_is)
    (case k21 => k_is)
    (case a22 => k_is)
    (case l22 => k_is)
    (case e22 => k_is)
    (case k22 => k_is)
    (case a23 => k_is)
    (case l23 => k_is)
    (case e23 => k_is)
    (case k23 => k_is)
    (case a24 => k_is)
    (case l24 => k_is)
    (case e24 => k_is)
    (case k24 => k_is)
    (case a25 => k_is)
    (case l25 => k_is)
    (case e25 => k_is)
    (case k25 => k_is)
    (case a26 => k_is)
    (case l26 => k_is)
    (case e26 => k_is)
    (case k26 => k_is)
    (case a27 => k_is)
    (case l27 => k_is)
    (case e27 => k_is)
    (case k27 => k_is)
    (case a28 => k_is)
    (case l28 => k_is)
    (case e28 => k_is)
    (case k28 => k_is)
    (case a29 => k_is)
    (case l29 => k_is)
    (case e29 => k_is)
    (case k29 => k_is)
    (case a30 => k_is)
    (case l30 => k_is)
    (case e30 => k_is)
    (case k30 => k_is)
    (case a31 => k_is)
    (case l31 => k_is)
    (case e31 => k_is)
    (case k31 => k_is)
    (case a32 => k_is)
    (case l32 => k_is)
    (case e32 => k_is)
    (case k32 => k_is)
    (case a33 => k_is)
    (case l33 => k_is)
    (case e33 => k_is)
    (case k33 => k_is)
    (case a34 => k_is)
    (case l34 => k_is)
    (case e34 => k_is)
    (case k34 => k_is)
    (case a35 => k_is)
    (case l35 => k_is)
    (case e35 => k_is)
    (case k35 => k_is)
    (case a36 => k_is)
    (case l36 => k_is)
    (case e36 => k_is)
    (case k36 => k_is)
    (case z_abs => k_is)
    (case z_dict => k_is)
    (case z_enumerate => k_is)
    (case z_int => k_is)
    (case z_isinstance => k_is)
    (case z_len => k_is)
    (case z_list => k_is)
    (case z_max => k_is)
    (case z_min => k_is)
    (case z_range => k_is)
    (case z_sorted => k_is)
    (case z_str => k_is)
    (case z_sum => k_is)
    (case z_tuple => k_is)
    (case z_zip => k_is)
    (case c_MOST_THROWS => k_is)
    (case c_MOST_BOTTOM => k_is)
    (case c_MOST_STATES => k_is)
    (case k_NoShare => k_is)
    (case k_NoTable => k_is)
    (case k_TooMany => k_is)
    (case k_NoWay => k_is)
    (case k_Course => k_is)
    (case k_Finder => k_is)
    (case x_NoShare => first | k_is | kit_is | kernel_rfl)
    (case x_NoTable => first | k_is | kit_is | kernel_rfl)
    (case x_TooMany => first | k_is | kit_is | kernel_rfl)
    (case x_NoWay => first | k_is | kit_is | kernel_rfl)
    (case e_NoWay_NoWay => first | k_is | kit_is | kernel_rfl)
    (case e_TooMany_TooMany => first | k_is | kit_is | kernel_rfl)
    (case f_TooMany_NoWay => first | k_is | kit_is | kernel_rfl)
    (case cl_Coursepg => k_is)
    (case cl_Coursehd => k_is)
    (case cl_Coursepo => k_is)
    (case cl_Coursesa => k_is)
    (case cl_Finderpg => k_is)
    (case cl_Finderhd => k_is)
    (case cl_Finderpo => k_is)
    (case cl_Findersa => k_is)
    (case na_Course_first => k_is)
    (case na_Course_mosts => k_is)
    (case na_Course_spots => k_is)
    (case na_Course_tables => k_is)
    (case na_Course_whats => k_is)
    (case na_Finder_numbers => k_is)
    (case na_Finder_states => k_is)
    (case dia_Course => k_is)
    (case dii_Course => k_is)
    (case dil_Course => k_is)
    (case dic_Course => k_is)
    (case dik_Course => k_is)
    (case dim_Course => k_is)
    (case diq_Course => k_is)
    (case dia_Finder => k_is)
    (case dii_Finder => k_is)
    (case dil_Finder => k_is)
    (case dic_Finder => k_is)
    (case dik_Finder => k_is)
    (case dim_Finder => k_is)
    (case diq_Finder => k_is)
    (case dma_Course_asked => k_is)
    (case dmi_Course_asked => k_is)
    (case dml_Course_asked => k_is)
    (case dmc_Course_asked => k_is)
    (case dmk_Course_asked => k_is)
    (case dma_Course_by_row => k_is)
    (case dmi_Course_by_row => k_is)
    (case dml_Course_by_row => k_is)
    (case dmc_Course_by_row => k_is)
    (case dmk_Course_by_row => k_is)
    (case dma_Course_by_value => k_is)
    (case dmi_Course_by_value => k_is)
    (case dml_Course_by_value => k_is)
    (case dmc_Course_by_value => k_is)
    (case dmk_Course_by_value => k_is)
    (case dma_Course_do => k_is)
    (case dmi_Course_do => k_is)
    (case dml_Course_do => k_is)
    (case dmc_Course_do => k_is)
    (case dmk_Course_do => k_is)
    (case dma_Course_end_worth => k_is)
    (case dmi_Course_end_worth => k_is)
    (case dml_Course_end_worth => k_is)
    (case dmc_Course_end_worth => k_is)
    (case dmk_Course_end_worth => k_is)
    (case dma_Course_holds => k_is)
    (case dmi_Course_holds => k_is)
    (case dml_Course_holds => k_is)
    (case dmc_Course_holds => k_is)
    (case dmk_Course_holds => k_is)
    (case dma_Course_open_rows => k_is)
    (case dmi_Course_open_rows => k_is)
    (case dml_Course_open_rows => k_is)
    (case dmc_Course_open_rows => k_is)
    (case dmk_Course_open_rows => k_is)
    (case dma_Course_put => k_is)
    (case dmi_Course_put => k_is)
    (case dml_Course_put => k_is)
    (case dmc_Course_put => k_is)
    (case dmk_Course_put => k_is)
    (case dma_Course_start => k_is)
    (case dmi_Course_start => k_is)
    (case dml_Course_start => k_is)
    (case dmc_Course_start => k_is)
    (case dmk_Course_start => k_is)
    (case dma_Course_table_at => k_is)
    (case dmi_Course_table_at => k_is)
    (case dml_Course_table_at => k_is)
    (case dmc_Course_table_at => k_is)
    (case dmk_Course_table_at => k_is)
    (case dma_Course_what_at => k_is)
    (case dmi_Course_what_at => k_is)
    (case dml_Course_what_at => k_is)
    (case dmc_Course_what_at => k_is)
    (case dmk_Course_what_at => k_is)
    (case dma_Course_words_at => k_is)
    (case dmi_Course_words_at => k_is)
    (case dml_Course_words_at => k_is)
    (case dmc_Course_words_at => k_is)
    (case dmk_Course_words_at => k_is)
    (case dma_Finder_number_of => k_is)
    (case dmi_Finder_number_of => k_is)
    (case dml_Finder_number_of => k_is)
    (case dmc_Finder_number_of => k_is)
    (case dmk_Finder_number_of => k_is)
