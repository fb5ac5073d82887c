import PyProof.Rows.All
import Wide.All
import OpenK.AllK
import Wide.FinOn
import Lean
import PyProof.EqAt
import PyProof.EqKinds
import PyProof.TupleCall
import PyProof.NeKinds
import PySem.Challenge.RW_pressluck_k80_two_hundred_steps
set_option Elab.async false
set_option linter.all false
set_option maxRecDepth 100000
namespace Hd
open PySem PySem.W PyProof.Rows
noncomputable def runBy (ok:Thread→Bool) (st:SharedT→Thread→Option (SharedT×Thread)) (n:Nat):SharedT→Thread→Option SharedT:=
 @Nat.rec (fun _=>SharedT→Thread→Option SharedT) (fun _ _=>none)
  (fun _ ih s t=>@Bool.rec (fun _=>Option SharedT) (@Bool.rec (fun _=>Option SharedT) none (@Option.rec (SharedT×Thread) (fun _=>Option SharedT) none (fun r=>@Prod.rec _ _ (fun _=>Option SharedT) (fun a b=>ih a b) r) (st s t)) (ok t)) (some s) (through t)) n
theorem runBy_spec {tb:String→Option Builtin} {p:Program} {w:World} {n₀:Nat} {ann:Option Value}:∀(n:Nat) (s:SharedT) (t:Thread) (s':SharedT),runBy (stepOk n₀ ann) (stepT (denote tb) p w) n s t=some s'→topRun tb p w n₀ ann n s.abs t=some s'.abs
 | 0,_,_,_,h=>by cases h
 | n+1,s,t,s',h=>by
  unfold topRun
  replace h:@Bool.rec (fun _=>Option SharedT) (@Bool.rec (fun _=>Option SharedT) none (@Option.rec (SharedT×Thread) (fun _=>Option SharedT) none (fun r=>@Prod.rec _ _ (fun _=>Option SharedT) (fun a b=>runBy (stepOk n₀ ann) (stepT (denote tb) p w) n a b) r) (stepT (denote tb) p w s t)) (stepOk n₀ ann t)) (some s) (through t)=some s':=h
  cases ht:through t with
  | true=>rw[ht] at h;cases h;rfl
  | false=>
   rw[ht] at h
   cases hk:stepOk n₀ ann t with
   | false=>rw[hk] at h;cases h
   | true=>
    rw[hk] at h
    cases hs:stepT (denote tb) p w s t with
    | none=>rw[hs] at h;cases h
    | some r=>obtain⟨s₂,t₂⟩:=r;rw[hs] at h;rw[stepT_spec hs];exact runBy_spec n s₂ t₂ s' h
noncomputable def bt (P:Params):BT:=((boot_heap P).objs.toList.foldl (fun(x:BT×Nat) o=>(x.1.ins x.2 o,x.2+1)) (.nil,0)).1
noncomputable def bootT (w:World) (os:OsState):SharedT:=⟨bt w.params,11,{},Array.mk [],boot_drawn,boot_toks,os⟩
theorem bootT_abs (w:World) (os:OsState):(bootT w os).abs=⟨boot_heap w.params,Array.mk [],boot_drawn,boot_toks,os⟩:=by kernel_rfl
theorem bootT_size (w:World):((boot_heap w.params).isNs mainGlobals && (Array.mk []:Array GenState).size==0,(boot_heap w.params).objs.size,(boot_heap w.params).nsMap mainGlobals "__annotations__")=(true,11,some (.ref 6)):=by kernel_rfl
theorem left_run {p q:Program} {loose:List Str} {Xt:Shared→Bool} {α:Type} {Yf:Shared→α} {Ya:World→α} {N:Nat} {g0:Bool}
  (open_:∀w:World,(fencedOpening treeTable p w N).map (fun s=>(s.heap,s.gens,s.drawn,s.toks))=some (boot_heap w.params,Array.mk [],boot_drawn,boot_toks))
  (run:∀(w:World) (os:OsState),(runBy (stepOk 11 (some (.ref 6))) (stepT (denote treeTable) p w) N (bootT w os) (topStub p)).map (fun s=>((staticsOk (importedModules p.main.body) (boot_heap w.params) s.abs.heap && namesBound p s.abs.heap && gensDone s.abs && laidKept (boot_heap w.params) s.abs.heap),openSeen q loose (importedModules p.main.body) Xt g0 s.abs,Yf s.abs))=some (true,openGood q loose,Ya w)):
  LeftO p q loose Xt Yf Ya N g0:=fun w=>by
 obtain⟨⟨h,gs,d,k,os⟩,e,e'⟩:=Option.map_eq_some_iff.mp (open_ w)
 obtain⟨rfl,rfl,rfl,rfl⟩:h=boot_heap w.params∧gs=Array.mk []∧d=boot_drawn∧k=boot_toks:=by simpa using e'
 obtain⟨z1,z2,z3⟩:_∧_∧_:=by simpa only[Prod.mk.injEq] using bootT_size w
 obtain⟨s,r,l⟩:=Option.map_eq_some_iff.mp (run w os)
 obtain⟨l1,l2,l3⟩:_∧_∧_:=by simpa only[Prod.mk.injEq] using l
 have r:=runBy_spec _ _ _ _ r
 rw[bootT_abs] at r
 have t:topFrom treeTable p w N ⟨boot_heap w.params,Array.mk [],boot_drawn,boot_toks,os⟩=some s.abs:=by
  unfold topFrom
  dsimp only
  rw[z1,z2,z3,r]
  show(match staticsOk (importedModules p.main.body) (boot_heap w.params) s.abs.heap && namesBound p s.abs.heap && gensDone s.abs && laidKept (boot_heap w.params) s.abs.heap with | true=>_ | false=>_)=_
  rw[l1]
 unfold openEnds
 rw[e]
 show((topFrom treeTable p w N ⟨boot_heap w.params,Array.mk [],boot_drawn,boot_toks,os⟩)).map _=_
 rw[t]
 show some (_,_)=_
 rw[l2,l3]
noncomputable def Runs (p q:Program) (loose:List Str) (Xt:Shared→Bool) {α:Type} (Yf:Shared→α) (Ya:World→α) (N:Nat) (g0:Bool) (w:World):Prop:=
 ∀os:OsState,(runBy (PySem.W.Fast.tw6613529449190102663 11 (some (.ref 6))) (PySem.W.Fast.tw10156331382660048174 (PySem.W.Fast.tw11892475500146522536 PySem.W.Fast.tw14364793385576792824) p w) N (bootT w os) (topStub p)).map (fun s=>((staticsOk (importedModules p.main.body) (boot_heap w.params) s.abs.heap && namesBound p s.abs.heap && gensDone s.abs && laidKept (boot_heap w.params) s.abs.heap),PySem.W.Fast.tw4187177175401517315 q loose (importedModules p.main.body) Xt g0 s.abs,Yf s.abs))=some (true,openGood q loose,Ya w)
theorem left_runQ {p q:Program} {loose:List Str} {Xt:Shared→Bool} {α:Type} {Yf:Shared→α} {Ya:World→α} {N:Nat} {g0:Bool}
  (e:opening p=plainProg p.main.scope.names) (hN:Nat.ble 600 N=true) (f:∀s,fenceModules? p s=some s)
  (run:∀w:World,Runs p q loose Xt Yf Ya N g0 w):
  LeftO p q loose Xt Yf Ya N g0:=by
 refine left_run (boot_open e hN f) ?_
 unfold Runs at run
 rw[PySem.W.Fast.te6613529449190102663,PySem.W.Fast.te10156331382660048174,PySem.W.Fast.te11892475500146522536,PySem.W.Fast.te14364793385576792824,PySem.W.Fast.te4187177175401517315]
 exact run
noncomputable def rb (p:Program) (N:Nat) (w:World) (os:OsState):Option SharedT:=runBy (PySem.W.Fast.tw6613529449190102663 11 (some (.ref 6))) (PySem.W.Fast.tw10156331382660048174 (PySem.W.Fast.tw11892475500146522536 PySem.W.Fast.tw14364793385576792824) p w) N (bootT w os) (topStub p)
noncomputable def RunA (p:Program) (N:Nat) (w:World):Prop:=∀os:OsState,(rb p N w os).map (fun s=>(staticsOk (importedModules p.main.body) (boot_heap w.params) s.abs.heap && namesBound p s.abs.heap && gensDone s.abs && laidKept (boot_heap w.params) s.abs.heap))=some true
noncomputable def RunB (p q:Program) (loose:List Str) (Xt:Shared→Bool) (N:Nat) (g0:Bool) (w:World):Prop:=∀os:OsState,(rb p N w os).map (fun s=>PySem.W.Fast.tw4187177175401517315 q loose (importedModules p.main.body) Xt g0 s.abs)=some (openGood q loose)
noncomputable def RunC (p:Program) {α:Type} (Yf:Shared→α) (Ya:World→α) (N:Nat) (w:World):Prop:=∀os:OsState,(rb p N w os).map (fun s=>Yf s.abs)=some (Ya w)
theorem runs3 {p q:Program} {loose:List Str} {Xt:Shared→Bool} {α:Type} {Yf:Shared→α} {Ya:World→α} {N:Nat} {g0:Bool} {w:World} (a:RunA p N w) (b:RunB p q loose Xt N g0 w) (c:RunC p Yf Ya N w):Runs p q loose Xt Yf Ya N g0 w:=fun os=>by
 obtain⟨s,r,l⟩:=Option.map_eq_some_iff.mp (a os)
 have b:=b os
 have c:=c os
 rw[r] at b c
 have l2:PySem.W.Fast.tw4187177175401517315 q loose (importedModules p.main.body) Xt g0 s.abs=openGood q loose:=Option.some.inj b
 have l3:Yf s.abs=Ya w:=Option.some.inj c
 show(rb p N w os).map _=_
 rw[r]
 show some (_,_,_)=_
 rw[l,l2,l3]
end Hd
namespace K80
open PySem PySem.Spec PyProof.Rows
noncomputable def top (i:Nat):Stmt:=PySem.Challenge.pw_pressluck_k80_two_hundred_steps.main.body.getD i (.Pass ⟨0,0,0,0⟩)
end K80
section Frnt
open PySem PySem.W PyProof.Rows
local macro_rules | `(tactic| o_head $H) => `(tactic| (refine (fun (_ : PySem.W.Hook) => ?_) $H; assumption))
theorem K80.pre (h:PySem.W.OpenRow.Holds (PySem.W.OpenLaw.row PySem.Challenge.rw_pressluck_k80_two_hundred_steps)):PySem.W.OpenRow.Holds (PySem.W.OpenLaw.row PySem.Challenge.rw_pressluck_k80_two_hundred_steps):=by
 k_head
noncomputable def K80.hka:List Addr:=[2,3,15,22,23,24,25,28,35,36,37,40,47,48,49,52,59,61,62,64,65,66,67,68,71,78,79,80,83,90,91,92,95,102,103,104,107,109,110,112,113,114,116,117,119,120,121,123,124,126,127,128,130,131,133,134,135,138,139,140,142,143,145,146,147,150,151,152,154,155,157,158,159,161,162,164,165,166,168,169,171,172,173,175,176,178,179,180,182,183,185,186,187,189,190,192,193,194,197,198,199,202,203,204,207,208,209,211,212,214,215,216,219,220,221,223,224,226,227,228,231,232,233,236,237,238,241,242,243,246,247,248,250,251,253,254,262,264,265,267,268,269,271,272,274,275,276,278,279,281,282,283,285,286,288,289,290,292,293,295,296,297,299,300,302,303,304,306,307,309,310,311,314,315,316,318,319,321,322,323,325,326,328,329,330,333,334,335,338,339,340,342,343,345,346,347,348,349,350,351,361,363,364,366,367,368,370,371,373,374,375,377,378,380,381,382,385,386,387,389,390,392,393,394,397,398,399,401,402,404,405,406,408,409,411,412,413,416,417,418,419,420,421,422,425,427,428,430,431,432,434,435,437,438,439,441,442,444,445,446,448,449,451,452,453,455,456,458,459,460,462,463,465,466,467,469,470,472,473,474,476,477,479,480,481,483,484,486,487]
theorem K80.hkp (P:PySem.Params):K80.hka=(K80.pre.heap_1 P).map (·.1):=by kernel_rfl
noncomputable def K80.vw:PySem.Program:={PySem.Challenge.pw_pressluck_k80_two_hundred_steps with main:={PySem.Challenge.pw_pressluck_k80_two_hundred_steps.main with body:=[K80.top 1,K80.top 2,K80.top 3,K80.top 4,K80.top 5,K80.top 6,K80.top 7,K80.top 9,K80.top 10,K80.top 11,K80.top 12,K80.top 13,K80.top 14,K80.top 15,K80.top 16,K80.top 18,K80.top 19,K80.top 21,K80.top 22,K80.top 23,K80.top 24,K80.top 25,K80.top 26,K80.top 27,K80.top 28,K80.top 29,K80.top 30,K80.top 31,K80.top 33,K80.top 34,K80.top 35,K80.top 36,K80.top 37,K80.top 39,K80.top 40,K80.top 41,K80.top 43,K80.top 44,K80.top 45,K80.top 46,K80.top 47,K80.top 48,K80.top 49,K80.top 51,K80.top 52,K80.top 53,K80.top 54,K80.top 55,K80.top 56]}}
set_option maxHeartbeats 0 in
theorem K80.said:PySem.Challenge.rw_pressluck_k80_two_hundred_steps.wellSaid=true:=by
 unfold OpenLaw.wellSaid OpenRow.wellSaid OpenRow.partSaid looksOpen
 with_reducible repeat' refine look_both ?_ ?_
 all_goals decide (config:={kernel:=true})
theorem K80.runA (w:World):Hd.RunA (RowW.prog (OpenRow.toRowW (PySem.W.OpenLaw.row PySem.Challenge.rw_pressluck_k80_two_hundred_steps))) 7536 w:=fun os=>by kernel_rfl
theorem K80.runB (w:World):Hd.RunB (RowW.prog (OpenRow.toRowW (PySem.W.OpenLaw.row PySem.Challenge.rw_pressluck_k80_two_hundred_steps))) K80.vw ["value_of_pools","value_of_plays"] (fun s=>xlAt K80.vw [] s && recOk (RowW.records (OpenRow.toRowW (PySem.W.OpenLaw.row PySem.Challenge.rw_pressluck_k80_two_hundred_steps))) s) 7536 true w:=fun os=>by kernel_rfl
theorem K80.runC (w:World):Hd.RunC (RowW.prog (OpenRow.toRowW (PySem.W.OpenLaw.row PySem.Challenge.rw_pressluck_k80_two_hundred_steps))) (Hook.obs (kHook K80.pre.heap_1 K80.hka K80.hkp)) (Hook.val (kHook K80.pre.heap_1 K80.hka K80.hkp)) 7536 w:=fun os=>by kernel_rfl
theorem K80.run (w:World):Hd.Runs (RowW.prog (OpenRow.toRowW (PySem.W.OpenLaw.row PySem.Challenge.rw_pressluck_k80_two_hundred_steps))) K80.vw ["value_of_pools","value_of_plays"] (fun s=>xlAt K80.vw [] s && recOk (RowW.records (OpenRow.toRowW (PySem.W.OpenLaw.row PySem.Challenge.rw_pressluck_k80_two_hundred_steps))) s) (Hook.obs (kHook K80.pre.heap_1 K80.hka K80.hkp)) (Hook.val (kHook K80.pre.heap_1 K80.hka K80.hkp)) 7536 true w:=Hd.runs3 (K80.runA w) (K80.runB w) (K80.runC w)
end Frnt
set_option tactic.hygienic false
set_option compiler.extract_closed false
local macro_rules | `(tactic| omega) => `(tactic| lia)
namespace L2
open PySem PySem.Spec PyProof.Rows
abbrev Key:=Sum Int Str
noncomputable def keyIs:Key→Value→Bool
 | .inl k,v=>Value.isInt k v
 | .inr x,v=>Value.isStrOf x v
noncomputable def keyH (w:World):Key→Int
 | .inl k=>hashInt k
 | .inr x=>hashStr w x
theorem keyIs_shape:∀{k:Key} {v:Value},keyIs k v=true→(∃i t,k=Sum.inl i∧v=Value.int i t)∨(∃x t,k=Sum.inr x∧v=Value.str x t)
 | .inl i,v,h=>by
  obtain⟨t,e⟩:=Value.isInt_shape (k:=i) (v:=v) h
  exact .inl ⟨i,t,rfl,e⟩
 | .inr x,v,h=>by
  obtain⟨t,e⟩:=Value.isStrOf_shape (x:=x) (v:=v) h
  exact .inr ⟨x,t,rfl,e⟩
theorem keyIs_int (i:Int) (t:Tok):keyIs (.inl i) (.int i t)=true:=by simp [keyIs,Value.isInt]
theorem keyIs_str (x:Str) (t:Tok):keyIs (.inr x) (.str x t)=true:=by simp [keyIs,Value.isStrOf]
theorem key_ll (a b:Int):decide ((Sum.inl a:Key)=Sum.inl b)=(a==b):=by
 by_cases e:a=b
 ·subst e;simp
 ·have h:¬(Sum.inl a:Key)=Sum.inl b:=fun q=>e (Sum.inl.inj q)
  rw[decide_eq_false h]
  exact(beq_eq_false_iff_ne.mpr e).symm
theorem key_rr (a b:Str):decide ((Sum.inr a:Key)=Sum.inr b)=decide (a=b):=by
 by_cases e:a=b
 ·subst e;simp
 ·have h:¬(Sum.inr a:Key)=Sum.inr b:=fun q=>e (Sum.inr.inj q)
  rw[decide_eq_false h,decide_eq_false e]
theorem key_lr (a:Int) (b:Str):decide ((Sum.inl a:Key)=Sum.inr b)=false:=decide_eq_false (fun q=>nomatch q)
theorem key_rl (a:Str) (b:Int):decide ((Sum.inr a:Key)=Sum.inl b)=false:=decide_eq_false (fun q=>nomatch q)
noncomputable def mixKind (prog:Program) (w:World):PySem.KeyKind prog w Key where
 is:=keyIs
 hash:=keyH w
 inj:=fun v a b ha hb=>by
  rcases keyIs_shape ha with ⟨i,t,rfl,rfl⟩ | ⟨x,t,rfl,rfl⟩
  ·rcases keyIs_shape hb with ⟨j,u,rfl,e⟩ | ⟨y,u,rfl,e⟩
   ·injection e with e1 _;rw[e1]
   ·exact nomatch e
  ·rcases keyIs_shape hb with ⟨j,u,rfl,e⟩ | ⟨y,u,rfl,e⟩
   ·exact nomatch e
   ·injection e with e1 _;rw[e1]
 byValue:=fun k v h=>by
  rcases keyIs_shape h with ⟨i,t,rfl,rfl⟩ | ⟨x,t,rfl,rfl⟩ <;>rfl
 pyHash:=fun hv h=>by
  rcases keyIs_shape hv with ⟨i,t,rfl,rfl⟩ | ⟨x,t,rfl,rfl⟩
  ·exact wpAny_pyHash_int h
  ·exact wpAny_pyHash_str h
 eqBool:=fun hu hv h=>by
  rcases keyIs_shape hu with ⟨i,t,rfl,rfl⟩ | ⟨x,t,rfl,rfl⟩
  ·rcases keyIs_shape hv with ⟨j,u,rfl,rfl⟩ | ⟨y,u,rfl,rfl⟩
   ·rw[key_ll] at h;exact wpAny_eqBool_int h
   ·rw[key_lr] at h;exact SeqAt.EqAt.int_str i t y u _ _ _ _ h
  ·rcases keyIs_shape hv with ⟨j,u,rfl,rfl⟩ | ⟨y,u,rfl,rfl⟩
   ·rw[key_rl] at h;exact SeqAt.EqAt.str_int x t j u _ _ _ _ h
   ·rw[key_rr] at h;exact wpAny_eqBool_str h
 «strs»:=fun k x t v h=>by
  rcases keyIs_shape h with ⟨i,u,rfl,e⟩ | ⟨y,u,rfl,e⟩
  ·exact nomatch e
  ·injection e with e1 _
   subst e1
   cases v <;>rfl
theorem mixKind_int (prog:Program) (w:World) (i:Int) (t:Tok):(mixKind prog w).is (.inl i) (.int i t)=true:=keyIs_int i t
theorem mixKind_str (prog:Program) (w:World) (x:Str) (t:Tok):(mixKind prog w).is (.inr x) (.str x t)=true:=keyIs_str x t
end L2
namespace L2
open PySem PySem.Spec PyProof.Rows
inductive V where
 | non | bl (b:Bool) | int (i:Int) | str (x:Str) | byt (b:Array UInt8) | flt (b:UInt64) | ref (a:Addr) | ty (n:String)
 deriving DecidableEq
noncomputable def RelV:V→Value→Prop
 | .non,u=>u=Value.none
 | .bl b,u=>u=Value.bool b
 | .int i,u=>∃t,u=Value.int i t
 | .str x,u=>∃t,u=Value.str x t
 | .byt b,u=>∃t,u=Value.bytes b t
 | .flt b,u=>∃t,u=Value.float b t
 | .ref a,u=>u=Value.ref a
 | .ty n,u=>u=Value.type n
abbrev Vals:List V→List Value→Prop:=Paired RelV
theorem Vals.length {xs:List V} {us:List Value} (r:Vals xs us):xs.length=us.length:=Paired.length r
theorem Vals.get:∀{xs:List V} {us:List Value} {i:Nat} {x:V},Vals xs us→xs[i]?=some x→∃u,us[i]?=some u∧RelV x u
 | _,_,_,_,.nil,e=>by simp at e
 | _,_,0,_,.cons r _,e=>by simp at e;subst e;exact⟨_,rfl,r⟩
 | _,_,i+1,x,.cons _ t,e=>by
  obtain⟨u,h1,h2⟩:=Vals.get (i:=i) (x:=x) t (by simpa using e)
  exact⟨u,by simpa using h1,h2⟩
theorem Vals.set {x:V} {u:Value} (r:RelV x u):∀{xs:List V} {us:List Value} (i:Nat),Vals xs us→Vals (xs.set i x) (us.set i u)
 | _,_,_,.nil=>.nil
 | _,_,0,.cons _ t=>.cons r t
 | _,_,i+1,.cons q t=>.cons q (Vals.set r i t)
theorem Vals.append:∀{xs ys:List V} {us ws:List Value},Vals xs us→Vals ys ws→Vals (xs++ys) (us++ws)
 | _,_,_,_,.nil,s=>s
 | _,_,_,_,.cons r t,s=>.cons r (Vals.append t s)
theorem Vals.take:∀{xs:List V} {us:List Value} (n:Nat),Vals xs us→Vals (xs.take n) (us.take n)
 | _,_,0,_=>.nil
 | _,_,_+1,.nil=>.nil
 | _,_,n+1,.cons r t=>.cons r (Vals.take n t)
theorem Vals.drop:∀{xs:List V} {us:List Value} (n:Nat),Vals xs us→Vals (xs.drop n) (us.drop n)
 | _,_,0,r=>r
 | _,_,_+1,.nil=>.nil
 | _,_,n+1,.cons _ t=>Vals.drop n t
noncomputable def RelO:Option V→Option Value→Prop
 | some v,some u=>RelV v u
 | none,none=>True
 | _,_=>False
noncomputable def KV {κ:Type}:List (κ×V)→List (κ×Value)→Prop:=Paired fun(p:κ×V) (q:κ×Value)=>p.1=q.1∧RelV p.2 q.2
noncomputable def kV:Key→V
 | .inl i=>.int i
 | .inr x=>.str x
inductive HO where
 | lst (xs:List V)
 | tup (xs:List V)
 | dK (kvs:List (Key×V)) | dT (kvs:List (List Key×V))
 | set (S:Int→Bool) (n:Nat)
 | ins (C dx:Addr) (fs:List (Str×V))
 | own (x:Addr)
 | xd (fs:List (Str×V))
 | met (f x:Addr)
 | rng (lo hi:Int)
 | frz (o:Obj) (u:HO)
 | tbl (ps:Array Value)
 | ext (φ:Heap→Prop)
abbrev Hp:=Addr→Option HO
noncomputable def upd (H:Hp) (a:Addr) (o:HO):Hp:=fun b=>if b=a then some o else H b
theorem upd_same {H:Hp} {a:Addr} {o:HO}:upd H a o a=some o:=by unfold upd;rw[if_pos rfl]
theorem upd_ne {H:Hp} {a b:Addr} {o:HO} (h:b≠a):upd H a o b=H b:=by unfold upd;rw[if_neg h]
theorem upd_upd {H:Hp} {a:Addr} {o u:HO}:upd (upd H a o) a u=upd H a u:=by
 funext b;unfold upd;split <;>rfl
theorem ne_of {H:Hp} {a b:Addr} {o u:HO} (h:H a=some o) (h':H b=some u) (d:o≠u):a≠b:=by
 intro e;subst e;rw[h] at h';exact d (Option.some.inj h')
theorem ne_of_none {H:Hp} {a b:Addr} {o:HO} (h:H a=some o) (h':H b=none):a≠b:=by
 intro e;subst e;rw[h] at h';cases h'
noncomputable def TabAt (H:Hp) (h:Heap) (a:Addr) (ps:Array Value):Prop:=∃mo:Array Value,h.get? a=some {cls:=.none,data:=.fields mo}∧
 (mo=#[]∨∃(l c:Value) (c1:Addr) (q:Str) (t:Tok),ps=#[l,c,.str q t]∧mo=#[l,c,.ref c1]∧H c1=some (.own a)∧h.CodeRec (.ref c1) q)
section
variable (P : Program) (w : World)
noncomputable def ObjOk (H:Hp) (h:Heap) (a:Addr):HO→Prop
 | .lst xs=>xs.length≤sizeLine∧∃(its:List Value) (n:Nat),Vals xs its∧h.get? a=some {cls:=.type "list",data:=.seq its.toArray n}
 | .tup xs=>xs.length≤sizeLine∧∃its:List Value,Vals xs its∧IsTup h a its.toArray
 | .dK kvs=>kvs.length≤sizeLine∧(a==sysModules)=false∧∃vs,KV kvs vs∧h.DictOf (mixKind P w) a vs
 | .dT kvs=>kvs.length≤sizeLine∧(a==sysModules)=false∧∃xs:List (List Key×Addr×Value),
   Paired (fun(p:List Key×V) (q:List Key×Addr×Value)=>p.1=q.1∧H q.2.1=some (.tup (p.1.map kV))∧RelV p.2 q.2.2) kvs xs∧
   ∃o es ep,h.get? a=some o∧o.ExactDict∧o.data=.dict es ep∧es.toList=xs.map (entryOfKey (tupleKind (mixKind P w)))∧(xs.map (·.1)).Nodup
 | .set S n=>h.SetOf (intKind P w) a S n
 | .ins C dx fs=>H dx=some (.own a)∧fs.length≤1000∧dx≠a∧h.get? a=some (PySem.W.instObj C dx)∧
   ∃mA,h.Ns1 dx mA∧(∀f,RelO (fs.lookup f) (mA f))∧PySem.Within mA (fs.map (·.1))
 | .own _=>∃o,h.get? a=some o
 | .xd fs=>∃mA,h.Ns1 a mA∧∀f,RelO (fs.lookup f) (mA f)
 | .rng lo hi=>∃t u v,h.get? a=some {cls:=.type "range",data:=.fields #[.int lo t,.int hi u,.int 1 v]}
 | .frz o u=>h.get? a=some o∧ObjOk H h a u
 | .tbl ps=>TabAt H h a ps
 | .met f x=>h.get? a=some (PySem.W.methodObj (.ref f) (.ref x))
 | .ext φ=>φ h∧(∃o,h.get? a=some o)∧∀h1 h2:Heap,φ h1→(∀o,h1.get? a=some o→h2.get? a=some o)→φ h2
noncomputable def HOk (H:Hp) (h:Heap):Prop:=∀a o,H a=some o→ObjOk P w H h a o
end
section
variable {P : Program} {w : World} {H H' : Hp} {h h' : Heap} {a : Addr} {o : HO}
theorem ObjOk.lt (x:ObjOk P w H h a o):a<h.objs.size:=by
 cases o with
 | lst xs=>obtain⟨_,_,_,_,e⟩:=x;exact Heap.lt_size e
 | tup xs=>obtain⟨_,_,_,p⟩:=x;exact p.lt
 | dK kvs=>obtain⟨_,_,_,_,o,_,_,e,_⟩:=x;exact Heap.lt_size e
 | dT kvs=>obtain⟨_,_,_,_,o,_,_,e,_⟩:=x;exact Heap.lt_size e
 | set S n=>obtain⟨o,_,_,_,e,_⟩:=x;exact Heap.lt_size e
 | ins C dx fs=>obtain⟨_,_,_,e,_⟩:=x;exact Heap.lt_size e
 | own y=>obtain⟨_,e⟩:=x;exact Heap.lt_size e
 | xd fs=>obtain⟨_,⟨_,_,_,e,_⟩,_⟩:=x;exact Heap.lt_size e
 | rng lo hi=>obtain⟨_,_,_,e⟩:=x;exact Heap.lt_size e
 | frz ob u=>obtain⟨e,_⟩:=x;exact Heap.lt_size e
 | tbl ps=>obtain⟨_,e,_⟩:=x;exact Heap.lt_size e
 | met f y=>exact Heap.lt_size (show h.get? a=some _ from x)
 | ext φ=>obtain⟨_,⟨_,e⟩,_⟩:=x;exact Heap.lt_size e
theorem Paired.mapP {α β:Type} {F G:α→β→Prop}:∀{l₁:List α} {l₂:List β},Paired F l₁ l₂→(∀a b,F a b→G a b)→Paired G l₁ l₂
 | _,_,.nil,_=>.nil
 | _,_,.cons r t,f=>.cons (f _ _ r) (Paired.mapP t f)
theorem ObjOk.stay (x:ObjOk P w H h a o) (k:∀b u,(b=a∨H b=some (.own a))→h.get? b=some u→h'.get? b=some u)
  (ho:∀b,H b=some (.own a)→H' b=some (.own a)) (ht:∀b xs,H b=some (.tup xs)→H' b=some (.tup xs)):ObjOk P w H' h' a o:=by
 induction o with
 | lst xs=>obtain⟨z,its,n,r,e⟩:=x;exact⟨z,its,n,r,k _ _ (.inl rfl) e⟩
 | tup xs=>obtain⟨z,its,r,ob,e,c⟩:=x;exact⟨z,its,r,ob,k _ _ (.inl rfl) e,c⟩
 | dK kvs=>obtain⟨z,y,vs,r,ob,es,ep,e,c⟩:=x;exact⟨z,y,vs,r,ob,es,ep,k _ _ (.inl rfl) e,c⟩
 | dT kvs=>
  obtain⟨z,y,xs,r,ob,es,ep,e,c⟩:=x
  exact⟨z,y,xs,Paired.mapP r fun p q z=>⟨z.1,ht _ _ z.2.1,z.2.2⟩,ob,es,ep,k _ _ (.inl rfl) e,c⟩
 | set S n=>obtain⟨ob,es,ep,t,e,c⟩:=x;exact⟨ob,es,ep,t,k _ _ (.inl rfl) e,c⟩
 | ins C dx fs=>
  obtain⟨d,z,ne,e,mA,⟨od,es,ep,e2,c⟩,r⟩:=x
  exact⟨ho _ d,z,ne,k _ _ (.inl rfl) e,mA,⟨od,es,ep,k _ _ (.inr d) e2,c⟩,r⟩
 | own y=>obtain⟨ob,e⟩:=x;exact⟨ob,k _ _ (.inl rfl) e⟩
 | xd fs=>obtain⟨mA,⟨od,es,ep,e,c⟩,r⟩:=x;exact⟨mA,⟨od,es,ep,k _ _ (.inl rfl) e,c⟩,r⟩
 | rng lo hi=>obtain⟨t,u,v,e⟩:=x;exact⟨t,u,v,k _ _ (.inl rfl) e⟩
 | frz ob u ih=>obtain⟨e,q⟩:=x;exact⟨k _ _ (.inl rfl) e,ih q⟩
 | tbl ps=>
  obtain⟨mo,e,q⟩:=x
  refine⟨mo,k _ _ (.inl rfl) e,?_⟩
  rcases q with q | ⟨l,c,c1,qn,t,e1,e2,e3,c2,o2,vs2,t2,f1,f2,f3,f4⟩
  ·exact .inl q
  ·cases f1
   exact .inr ⟨l,c,c1,qn,t,e1,e2,ho _ e3,c1,o2,vs2,t2,rfl,k _ _ (.inr e3) f2,f3,f4⟩
 | met f y=>
  have e:h.get? a=some (PySem.W.methodObj (.ref f) (.ref y)):=x
  show h'.get? a=some (PySem.W.methodObj (.ref f) (.ref y))
  exact k a _ (.inl rfl) e
 | ext φ=>obtain⟨p,⟨o,e⟩,st⟩:=x;exact⟨st _ _ p fun o q=>k _ _ (.inl rfl) q,⟨o,k _ _ (.inl rfl) e⟩,st⟩
theorem HOk.lt (x:HOk P w H h) (e:H a=some o):a<h.objs.size:=(x a o e).lt
theorem HOk.fresh (x:HOk P w H h) (e:h.objs.size≤a):H a=none:=by
 cases q:H a with
 | none=>rfl
 | some u=>exact absurd (Nat.lt_of_lt_of_le (x.lt q) e) (Nat.lt_irrefl _)
theorem HOk.kept (x:HOk P w H h) (k:∀b u,h.get? b=some u→h'.get? b=some u):HOk P w H h':=fun a o e=>
 (x a o e).stay (fun b u _ q=>k b u q) (fun _ q=>q) fun _ _ q=>q
theorem HOk.laid (x:HOk P w H h) (k:∀b u,h.get? b=some u→h'.get? b=some u) (hp:h.objs.size≤a) (new:ObjOk P w (upd H a o) h' a o):HOk P w (upd H a o) h':=fun b u e=>by
 have hn:=x.fresh hp
 by_cases hb:b=a
 ·subst hb;rw[upd_same] at e;cases e;exact new
 ·rw[upd_ne hb] at e
  exact(x b u e).stay (fun c v _ q=>k c v q) (fun c q=>by rw[upd_ne (ne_of_none q hn)];exact q) fun c xs q=>by rw[upd_ne (ne_of_none q hn)];exact q
end
noncomputable def Rd (H:Hp) (a:Addr) (u:HO):Prop:=H a=some u∨∃o,H a=some (.frz o u)
theorem Rd.ok {P:Program} {w:World} {H:Hp} {h:Heap} {a:Addr} {u:HO} (r:Rd H a u) (x:HOk P w H h):ObjOk P w H h a u:=by
 rcases r with r | ⟨o,r⟩
 ·exact x a u r
 ·obtain⟨_,q⟩:=x a _ r
  exact q
noncomputable def Mut:Option HO→Prop
 | some (.lst _)=>True
 | some (.dK _)=>True
 | some (.dT _)=>True
 | some (.set _ _)=>True
 | some (.ins _ _ _)=>True
 | some (.ext _)=>True
 | _=>False
section
variable {P : Program} {w : World} {H : Hp} {h h' : Heap} {x e : Addr} {o' : HO}
theorem HOk.write (ok:HOk P w H h) (mu:Mut (H x)) (he:e=x∨H e=some (.own x)) (k:∀b u,b≠e→h.get? b=some u→h'.get? b=some u) (heo:∃u,h'.get? e=some u)
  (new:ObjOk P w (upd H x o') h' x o'):HOk P w (upd H x o') h':=fun b u q=>by
 have nown:∀c y,H c=some (.own y)→c≠x:=fun c y r z=>by subst z;rw[r] at mu;exact mu
 have ntup:∀c xs,H c=some (.tup xs)→c≠x:=fun c xs r z=>by subst z;rw[r] at mu;exact mu
 by_cases hb:b=x
 ·subst hb;rw[upd_same] at q;cases q;exact new
 ·rw[upd_ne hb] at q
  by_cases hbe:b=e
  ·have q':H b=some (.own x):=by
    rcases he with z | z
    ·exact absurd (hbe.trans z) hb
    ·rw[hbe];exact z
   rw[q] at q';cases q'
   obtain⟨v,hv⟩:=heo
   exact⟨v,by rw[hbe];exact hv⟩
  ·refine(ok b u q).stay (fun c v hc r=>k c v ?_ r) (fun c r=>by rw[upd_ne (nown c b r)];exact r) fun c xs r=>by rw[upd_ne (ntup c xs r)];exact r
   rcases hc with rfl | hc
   ·exact hbe
   ·rintro rfl
    rcases he with z | z
    ·exact nown c b hc z
    ·rw[hc] at z;cases z;exact hb rfl
end
structure Un (fs ex:List Addr) (H H':Hp) (h h':Heap):Prop where
 keep:∀b o,h.get? b=some o→H b=none→b∉fs→b∉ex→h'.get? b=some o
 slot:∀b o,h.get? b=some o→H b=none→b∈fs→b∉ex→∃sl,h'.get? b=some {o with slots:=sl}
 free:∀b o,h.get? b=some o→H b=none→b∉ex→H' b=none
 there:∀b o,h.get? b=some o→b∉ex→∃o',h'.get? b=some o'
 tups:∀b xs,H b=some (.tup xs)→H' b=some (.tup xs)
 frzs:∀b o u,H b=some (.frz o u)→H' b=some (.frz o u)
 tbls:∀b ps,H b=some (.tbl ps)→∃more,H' b=some (.tbl (ps++more))
section
variable {fs fs' ex ex' : List Addr} {H H1 H2 : Hp} {h h1 h2 h' : Heap} {a x e : Addr} {o : HO}
theorem Un.any (u:Un fs ex H H1 h h1) {b:Addr} {ob:Obj} (q:h.get? b=some ob) (n:H b=none) (hx:b∉ex):∃sl,h1.get? b=some {ob with slots:=sl}:=by
 by_cases hb:b∈fs
 ·exact u.slot b ob q n hb hx
 ·exact⟨ob.slots,u.keep b ob q n hb hx⟩
theorem Un.kept (k:∀b u,h.get? b=some u→h'.get? b=some u):Un fs ex H H h h':=
 ⟨fun b ob q _ _ _=>k b ob q,fun b ob q _ _ _=>⟨ob.slots,k b ob q⟩,fun _ _ _ n _=>n,fun b ob q _=>⟨ob,k b ob q⟩,fun _ _ q=>q,fun _ _ _ q=>q,fun _ ps q=>⟨#[],by rw[q];simp⟩⟩
theorem Un.refl:Un fs ex H H h h:=Un.kept fun _ _ q=>q
theorem Un.laid (k:∀b u,h.get? b=some u→h'.get? b=some u) (hp:h.objs.size≤a) (hn:H a=none):Un fs ex H (upd H a o) h h' where
 keep:=fun b u q _ _ _=>k b u q
 slot:=fun b u q _ _ _=>⟨u.slots,k b u q⟩
 free:=fun b u q n _=>by rw[upd_ne (Nat.ne_of_lt (Nat.lt_of_lt_of_le (Heap.lt_size q) hp))];exact n
 there:=fun b u q _=>⟨u,k b u q⟩
 tups:=fun b xs q=>by rw[upd_ne (ne_of_none q hn)];exact q
 frzs:=fun b u xs q=>by rw[upd_ne (ne_of_none q hn)];exact q
 tbls:=fun b ps q=>⟨#[],by rw[upd_ne (ne_of_none q hn),q];simp⟩
theorem Un.write (mu:Mut (H x)) (he:e=x∨H e=some (.own x)) (k:∀b u,b≠e→h.get? b=some u→h'.get? b=some u) (heo:∃u,h'.get? e=some u):Un fs ex H (upd H x o) h h':=by
 have hx:∀b,H b=none→b≠x:=fun b n z=>by subst z;rw[n] at mu;exact mu
 have hb:∀b,H b=none→b≠e:=fun b n z=>by
  subst z
  rcases he with r | r
  ·exact hx b n r
  ·rw[n] at r;cases r
 have hm:∀b u,H b=some u→¬Mut (some u)→b≠x:=fun b u q nm z=>by subst z;rw[q] at mu;exact nm mu
 refine⟨fun b u q n _ _=>k b u (hb b n) q,fun b u q n _ _=>⟨u.slots,k b u (hb b n) q⟩,fun b u q n _=>by rw[upd_ne (hx b n)];exact n,fun b u q _=>?_,
  fun b xs q=>by rw[upd_ne (hm b _ q fun z=>z)];exact q,fun b u xs q=>by rw[upd_ne (hm b _ q fun z=>z)];exact q,fun b ps q=>⟨#[],by rw[upd_ne (hm b _ q fun z=>z),q];simp⟩⟩
 by_cases hbe:b=e
 ·subst hbe;exact heo
 ·exact⟨u,k b u hbe q⟩
end
noncomputable def trk (h:Heap) (H:Hp):List Addr:=(List.range h.objs.size).filter fun a=>(H a).isSome
noncomputable def hidT (h:Heap) (H:Hp):Heap:=PySem.W.hideAll h (trk h H)
theorem hidT_size (h:Heap) (H:Hp):(hidT h H).objs.size=h.objs.size:=PySem.W.hideAll_size _ _
theorem hidT_get {h:Heap} {H:Hp} {b:Addr} {o:Obj} (e:h.get? b=some o) (n:H b=none):(hidT h H).get? b=some o:=
 PySem.W.hideAll_get _ e fun hm=>by
  have q:(H b).isSome=true:=(List.mem_filter.mp hm).2
  rw[n] at q;simp at q
theorem of_hidT {h:Heap} {H:Hp} {b:Addr} {o:Obj} (e:(hidT h H).get? b=some o):h.get? b=some o∧H b=none:=by
 have e':h.get? b=some o:=PySem.W.of_hideAll (trk h H) e
 refine⟨e',?_⟩
 cases q:H b with
 | none=>rfl
 | some x=>
  have hm:b∈trk h H:=List.mem_filter.mpr ⟨List.mem_range.mpr (Heap.lt_size e'),by simp [q]⟩
  have z:(hidT h H).get? b=none:=PySem.W.hideAll_none (trk h H) hm
  rw[z] at e;cases e
noncomputable def allNews (g h:Heap) (L:Addr):List (Addr×Obj):=(List.range h.objs.size).filterMap fun a=>if a=L∨(g.get? a).isSome=true then none else (h.get? a).map fun o=>(a,o)
noncomputable def rest (g h:Heap) (L d:Addr):List (Addr×Obj):=(allNews g h L).filter fun p=>decide (p.1≠d)
end L2
namespace L2
open PySem PySem.Spec PyProof.Rows
structure Mod (K:PySem.W.Frag) (mg:Str→Option Value) (base:Heap):Prop where
 kin:K.In base
 glob:base.Ns mainGlobals mg
 blt:∃mb,base.Ns builtinsNs mb∧∀x:Str,x≠"__name__"→mb x=bootBuiltins x
 nolimit:base.NoLimit
structure Cx where
 prog:Program
 w:World
 K:PySem.W.Frag
 mg:Str→Option Value
 base:Heap
 A:Around
 N:List Str
 s₀:Shared
 H₀:Hp
 env:Env
 outer:List Env
 stack:List Env
 ex:List Addr
 fn:Str→Bool
 calm:Bool
 pn:List (Addr×Obj)
 xe:Value→Shared→Prop
def frs (l:List Env):List Addr:=l.filterMap (·.frame)
abbrev Cx.fs (X:Cx):List Addr:=frs X.outer
noncomputable def Vis (sc:Scope) (x:Str):Prop:=sc.names.lookup x=some .local∨sc.names.lookup x=some .cell∨sc.names.lookup x=some .free
noncomputable def Loc (sc:Scope) (x:Str):Prop:=sc.names.lookup x=some .local∨sc.names.lookup x=some .cell
noncomputable def Look (env:Env) (h:Heap) (m:Str→Option Value) (x:Str) (u:Value):Prop:=
 (env.kindOf x=some .local∧m x=some u)∨((env.kindOf x=some .cell∨env.kindOf x=some .free)∧∃c,env.cells.lookup x=some c∧h.IsCell c (some u))
structure Cx.Ok (X:Cx):Prop where
 mod:Mod X.K X.mg X.base
 kind:X.env.scope.kind=.function
 glob:X.env.globals=mainGlobals
 blt:X.env.builtins=builtinsNs
 above:X.s₀.heap.objs.size≤X.env.locals
 inj:∀x y c,X.env.cells.lookup x=some c→X.env.cells.lookup y=some c→x=y
 has:∀x,(X.env.kindOf x=some .cell∨X.env.kindOf x=some .free)→∃c,X.env.cells.lookup x=some c
 cab:∀x c,X.fn x=true→X.env.cells.lookup x=some c→X.s₀.heap.objs.size≤c
 hd:X.calm=true→X.A.handled=none
 frames:X.A.frames=some X.stack
 stk:X.stack=X.outer∨(X.stack=X.env::X.outer∧X.env.frame=some X.env.locals)
 exf:∀b∈X.ex,b≠X.env.locals∧∀x c,X.env.cells.lookup x=some c→c≠b
 bs:∀b o,X.base.get? b=some o→X.s₀.heap.get? b=some o∧X.H₀ b=none
 bsz:X.base.objs.size≤X.s₀.heap.objs.size
 noex:∀b o,X.base.get? b=some o→b∉X.ex
 exfs:∀b∈X.ex,b∉X.fs
 funs:X.s₀.heap.FunFrames X.base X.outer
 frf:∀b∈X.fs,X.H₀ b=none
structure Inv (X:Cx) (pins:List (Addr×Obj)) (σ:List (Option V)) (H:Hp) (s:Shared):Prop where
 ok:X.Ok
 os:s.os=X.s₀.os
 bare:AllBare s.gens
 base:Un X.fs X.ex X.H₀ H X.s₀.heap s.heap
 loc:∃m,s.heap.Ns X.env.locals m∧∀(i:Nat) (x:Str) (v:V),X.N[i]?=some x→σ[i]?=some (some v)→Vis X.env.scope x→∃u,RelV v u∧Look X.env s.heap m x u
 cell:∀x c,X.env.cells.lookup x=some c→∃v,s.heap.IsCell c v
 free:H X.env.locals=none
 freeC:∀x c,X.env.cells.lookup x=some c→H c=none
 pin:∀p∈X.pn++pins,s.heap.get? p.1=some p.2∧H p.1=none∧p.1≠X.env.locals∧p.1∉X.fs∧∀v,p.2.data≠.cell v
 hok:HOk X.prog X.w H s.heap
 len:σ.length=X.N.length
section
variable {X : Cx} {pins : List (Addr × Obj)} {σ : List (Option V)} {H H' : Hp} {s : Shared} {h' : Heap}
theorem Cx.Ok.nofr (ok:X.Ok) {b:Addr} {o:Obj} (e:X.base.get? b=some o):b∉X.fs:=fun hb=>by
 have:=(ok.funs.mem hb).1
 rw[e] at this;cases this
theorem Inv.bs (I:Inv X pins σ H s):∀b o,X.base.get? b=some o→s.heap.get? b=some o∧H b=none:=fun b o e=>
 ⟨I.base.keep b o (I.ok.bs b o e).1 (I.ok.bs b o e).2 (I.ok.nofr e) (I.ok.noex b o e),I.base.free b o (I.ok.bs b o e).1 (I.ok.bs b o e).2 (I.ok.noex b o e)⟩
theorem Inv.bk (I:Inv X pins σ H s):∀b o,X.base.get? b=some o→s.heap.get? b=some o:=fun b o e=>(I.bs b o e).1
theorem Inv.mod (I:Inv X pins σ H s):Mod X.K X.mg X.base:=I.ok.mod
theorem Inv.kIn (I:Inv X pins σ H s):X.K.In s.heap:=I.ok.mod.kin.keeps I.bk
theorem Inv.lt (I:Inv X pins σ H s):X.env.locals<s.heap.objs.size:=let ⟨_,hn,_⟩:=I.loc;hn.lt
theorem Inv.sz (I:Inv X pins σ H s):X.s₀.heap.objs.size≤s.heap.objs.size:=Nat.le_trans I.ok.above (Nat.le_of_lt I.lt)
theorem Inv.nofs (I:Inv X pins σ H s) {a:Addr} (h:s.heap.objs.size≤a):a∉X.fs:=fun hb=>by
 obtain⟨_,o,ho,_⟩:=I.ok.funs.mem hb
 exact absurd (Nat.lt_of_lt_of_le (Heap.lt_size ho) (Nat.le_trans I.sz h)) (Nat.lt_irrefl _)
theorem Inv.cne (I:Inv X pins σ H s):∀x c,X.env.cells.lookup x=some c→c≠X.env.locals:=fun x c e z=>by
 obtain⟨v,o,ho,hd⟩:=I.cell x c e
 obtain⟨m,⟨o',es,ep,ho',hd',_⟩,_⟩:=I.loc
 rw[z,ho'] at ho;cases ho;rw[hd'] at hd;cases hd
theorem Inv.funs (I:Inv X pins σ H s):s.heap.FunFrames X.base X.outer:=by
 have all:∀(l:List Env),(∀b∈frs l,b∈X.fs)→X.s₀.heap.FunFrames X.base l→s.heap.FunFrames X.base l:=by
  intro l
  induction l with
  | nil=>intro _ _;trivial
  | cons env r ih=>
   intro hs hl
   obtain⟨hk,⟨L,o,hf,hn,ho,hd⟩,hr⟩:=hl
   have hL:L∈X.fs:=hs L (by unfold frs;rw[List.filterMap_cons,hf];exact List.mem_cons_self)
   obtain⟨sl,e⟩:=I.base.slot L o ho (I.ok.frf L hL) hL fun z=>I.ok.exfs L z hL
   exact⟨hk,⟨L,_,hf,hn,e,hd⟩,ih (fun b hb=>hs b (by unfold frs;rw[List.filterMap_cons,hf];exact List.mem_cons_of_mem _ hb)) hr⟩
 exact all X.outer (fun _ hb=>hb) I.ok.funs
theorem Inv.stack (I:Inv X pins σ H s):s.heap.FunFrames X.base X.stack:=by
 rcases I.ok.stk with e | ⟨e,hf⟩
 ·rw[e];exact I.funs
 ·rw[e]
  obtain⟨m,hn,_⟩:=I.loc
  refine .cons (by rw[I.ok.kind];decide) hf hn ?_ I.funs
  exact Heap.get?_none_of_le (Nat.le_trans I.ok.bsz I.ok.above)
theorem Inv.stkSub (I:Inv X pins σ H s):∀b∈frs X.stack,b∈X.env.locals::X.fs:=fun b hb=>by
 rcases I.ok.stk with e | ⟨e,hf⟩
 ·rw[e] at hb;exact List.mem_cons_of_mem _ hb
 ·rw[e] at hb
  unfold frs at hb
  rw[List.filterMap_cons,hf] at hb
  exact hb
theorem Inv.stkFree (I:Inv X pins σ H s):∀b∈frs X.stack,H b=none:=fun b hb=>by
 rcases List.mem_cons.mp (I.stkSub b hb) with e | hb
 ·rw[e];exact I.free
 ·obtain⟨_,o,ho,_⟩:=I.ok.funs.mem hb
  exact I.base.free b o ho (I.ok.frf b hb) fun z=>I.ok.exfs b z hb
theorem Inv.step {g':Array GenState} {t':Nat} {d':Drawn} {ch:List Addr} (I:Inv X pins σ H s)
  (hch:∀b∈ch,(b∈X.ex∨X.s₀.heap.objs.size≤b)∧b≠X.env.locals∧(∀x c,X.env.cells.lookup x=some c→c≠b)∧∀p∈X.pn++pins,p.1≠b)
  (keep:∀b o,b≠X.env.locals→b∉X.fs→b∉ch→s.heap.get? b=some o→H b=none→h'.get? b=some o)
  (slot:∀b o,b≠X.env.locals→b∈X.fs→b∉ch→s.heap.get? b=some o→H b=none→∃sl,h'.get? b=some {o with slots:=sl}) (free:∀b o,b∉ch→s.heap.get? b=some o→H b=none→H' b=none)
  (there:∀b o,b∉ch→s.heap.get? b=some o→∃o',h'.get? b=some o')
  (tups:∀b xs,H b=some (.tup xs)→H' b=some (.tup xs)) (frzs:∀b o u,H b=some (.frz o u)→H' b=some (.frz o u)) (tbls:∀b ps,H b=some (.tbl ps)→∃more,H' b=some (.tbl (ps++more)))
  (ns:∀m,s.heap.Ns X.env.locals m→h'.Ns X.env.locals m) (hok:HOk X.prog X.w H' h') (hg:AllBare g'):
  Inv X pins σ H' {s with heap:=h',gens:=g',drawn:=d',toks:=t'}:=by
 have neL:∀b o,X.s₀.heap.get? b=some o→b≠X.env.locals:=fun b o e=>Nat.ne_of_lt (Nat.lt_of_lt_of_le (Heap.lt_size e) I.ok.above)
 have neC:∀b o,X.s₀.heap.get? b=some o→b∉X.ex→b∉ch:=fun b o e hx hb=>by
  rcases(hch b hb).1 with z | z
  ·exact hx z
  ·exact absurd (Nat.lt_of_lt_of_le (Heap.lt_size e) z) (Nat.lt_irrefl _)
 have cellK:∀x c,X.env.cells.lookup x=some c→∀v,s.heap.IsCell c v→h'.IsCell c v:=fun x c e v ⟨o,ho,hd⟩=>by
  have nch:c∉ch:=fun z=>(hch c z).2.2.1 x c e rfl
  by_cases hc:c∈X.fs
  ·obtain⟨sl,q⟩:=slot c o (I.cne x c e) hc nch ho (I.freeC x c e)
   exact⟨_,q,hd⟩
  ·exact⟨o,keep c o (I.cne x c e) hc nch ho (I.freeC x c e),hd⟩
 refine⟨I.ok,I.os,hg,⟨fun b o e n hb hx=>?_,fun b o e n hb hx=>?_,fun b o e n hx=>?_,fun b o e hx=>?_,fun b xs e=>tups b xs (I.base.tups b xs e),fun b o xs e=>frzs b o xs (I.base.frzs b o xs e),fun b ps e=>?_⟩,?_,fun x c e=>?_,?_,fun x c e=>?_,fun p hp=>?_,hok,I.len⟩
 ·exact keep b o (neL b o e) hb (neC b o e hx) (I.base.keep b o e n hb hx) (I.base.free b o e n hx)
 ·obtain⟨sl,e1⟩:=I.base.slot b o e n hb hx
  obtain⟨sl',e2⟩:=slot b _ (neL b o e) hb (neC b o e hx) e1 (I.base.free b o e n hx)
  exact⟨sl',e2⟩
 ·obtain⟨o',e1⟩:=I.base.there b o e hx
  exact free b o' (neC b o e hx) e1 (I.base.free b o e n hx)
 ·obtain⟨o',e1⟩:=I.base.there b o e hx
  exact there b o' (neC b o e hx) e1
 ·obtain⟨m1,e1⟩:=I.base.tbls b ps e
  obtain⟨m2,e2⟩:=tbls b _ e1
  exact⟨m1++m2,by rw[e2,Array.append_assoc]⟩
 ·obtain⟨m,hn,hl⟩:=I.loc
  refine⟨m,ns m hn,fun i x v e1 e2 e3=>?_⟩
  obtain⟨u,r,l⟩:=hl i x v e1 e2 e3
  refine⟨u,r,?_⟩
  rcases l with l | ⟨k,c,e,z⟩
  ·exact .inl l
  ·exact .inr ⟨k,c,e,cellK x c e _ z⟩
 ·obtain⟨v,z⟩:=I.cell x c e
  exact⟨v,cellK x c e v z⟩
 ·obtain⟨m,⟨o,_,_,ho,_⟩,_⟩:=I.loc
  exact free _ o (fun z=>(hch _ z).2.1 rfl) ho I.free
 ·obtain⟨v,o,ho,hd⟩:=I.cell x c e
  exact free c o (fun z=>(hch c z).2.2.1 x c e rfl) ho (I.freeC x c e)
 ·obtain⟨e,n,ne,nf,d⟩:=I.pin p hp
  have nch:p.1∉ch:=fun z=>(hch p.1 z).2.2.2 p hp rfl
  exact⟨keep p.1 p.2 ne nf nch e n,free p.1 p.2 nch e n,ne,nf,d⟩
theorem Inv.un {t':Nat} (I:Inv X pins σ H s) (u:Un X.fs [] H H' s.heap h') (hok:HOk X.prog X.w H' h'):Inv X pins σ H' {s with heap:=h',toks:=t'}:=by
 obtain⟨m,⟨o,es,ep,ho,r⟩,_⟩:=id I.loc
 obtain⟨sl,hL⟩:=u.any ho I.free (by simp)
 exact I.step (g':=s.gens) (d':=s.drawn) (ch:=[]) (fun _ z=>nomatch z) (fun b o _ hb _ e n=>u.keep b o e n hb (by simp)) (fun b o _ hb _ e n=>u.slot b o e n hb (by simp)) (fun b o _ e n=>u.free b o e n (by simp)) (fun b o _ e=>u.there b o e (by simp)) u.tups u.frzs u.tbls (fun m' hm=>by
  obtain⟨o',es',ep',ho',r'⟩:=hm
  rw[ho] at ho';cases ho'
  exact⟨_,es',ep',hL,r'⟩) hok I.bare
theorem Inv.call {g':Array GenState} {t':Nat} {d':Drawn} {ch:List Addr} (I:Inv X pins σ H s) (u:Un (frs X.stack) ch H H' s.heap h') (hok:HOk X.prog X.w H' h') (hg:AllBare g')
  (hch:∀b∈ch,(b∈X.ex∨X.s₀.heap.objs.size≤b)∧b≠X.env.locals∧(∀x c,X.env.cells.lookup x=some c→c≠b)∧∀p∈X.pn++pins,p.1≠b):
  Inv X pins σ H' {s with heap:=h',gens:=g',drawn:=d',toks:=t'}:=by
 obtain⟨m,⟨o,es,ep,ho,r⟩,_⟩:=id I.loc
 obtain⟨sl,hL⟩:=u.any ho I.free fun z=>(hch _ z).2.1 rfl
 exact I.step (ch:=ch) hch (fun b o hL hb hc e n=>u.keep b o e n (fun z=>(List.mem_cons.mp (I.stkSub b z)).elim hL hb) hc) (fun b o _ _ hc e n=>u.any e n hc) (fun b o hc e n=>u.free b o e n hc) (fun b o hc e=>u.there b o e hc) u.tups u.frzs u.tbls (fun m' hm=>by
  obtain⟨o',es',ep',ho',r'⟩:=hm
  rw[ho] at ho';cases ho'
  exact⟨_,es',ep',hL,r'⟩) hok hg
theorem Inv.turned {t':Nat} {it:Addr} (I:Inv X pins σ H s) (k:∀b o,b≠it→s.heap.get? b=some o→h'.get? b=some o) (hn:H it=none) (hL:it≠X.env.locals)
  (h1:it∈X.ex∨X.s₀.heap.objs.size≤it) (h2:∀x c,X.env.cells.lookup x=some c→c≠it) (h3:∀p∈X.pn++pins,p.1≠it):Inv X pins σ H {s with heap:=h',toks:=t'}:=by
 have nit:∀b u,H b=some u→b≠it:=fun b u e z=>by rw[z,hn] at e;cases e
 refine I.step (g':=s.gens) (d':=s.drawn) (ch:=[it]) (fun b hb=>?_) (fun b o _ _ hc e _=>k b o (fun z=>hc (by simp [z])) e) (fun b o _ _ hc e _=>⟨o.slots,k b o (fun z=>hc (by simp [z])) e⟩) (fun _ _ _ _ n=>n)
  (fun b o hc e=>⟨o,k b o (fun z=>hc (by simp [z])) e⟩) (fun _ _ e=>e) (fun _ _ _ e=>e) (fun b ps e=>⟨#[],by rw[e];simp⟩) (fun m hm=>?_) (fun b u e=>?_) I.bare
 ·have e:b=it:=by simpa using hb
  subst e
  exact⟨h1,hL,h2,h3⟩
 ·obtain⟨o,es,ep,ho,r⟩:=hm
  exact⟨o,es,ep,k _ o (Ne.symm hL) ho,r⟩
 ·refine(I.hok b u e).stay (fun c v hc q=>k c v ?_ q) (fun _ q=>q) fun _ _ q=>q
  rcases hc with z | z
  ·rw[z];exact nit b u e
  ·exact nit c _ z
theorem Inv.tok (I:Inv X pins σ H s) (t:Nat):Inv X pins σ H {s with toks:=t}:=I.un (h':=s.heap) (t':=t) Un.refl I.hok
theorem Inv.kept {t':Nat} (I:Inv X pins σ H s) (k:∀b u,s.heap.get? b=some u→h'.get? b=some u):Inv X pins σ H {s with heap:=h',toks:=t'}:=I.un (Un.kept k) (I.hok.kept k)
theorem Inv.laid {a:Addr} {o:HO} {t':Nat} (I:Inv X pins σ H s) (k:∀b u,s.heap.get? b=some u→h'.get? b=some u) (hp:s.heap.objs.size≤a) (new:ObjOk X.prog X.w (upd H a o) h' a o):
  Inv X pins σ (upd H a o) {s with heap:=h',toks:=t'}:=I.un (Un.laid k hp (I.hok.fresh hp)) (I.hok.laid k hp new)
theorem Inv.write {x e:Addr} {o:HO} {t':Nat} (I:Inv X pins σ H s) (mu:Mut (H x)) (he:e=x∨H e=some (.own x)) (k:∀b u,b≠e→s.heap.get? b=some u→h'.get? b=some u) (heo:∃u,h'.get? e=some u)
  (new:ObjOk X.prog X.w (upd H x o) h' x o):Inv X pins σ (upd H x o) {s with heap:=h',toks:=t'}:=I.un (Un.write mu he k heo) (I.hok.write mu he k heo new)
theorem Inv.pins_of {pins':List (Addr×Obj)} (I:Inv X pins σ H s) (h:∀p∈pins',s.heap.get? p.1=some p.2∧H p.1=none∧p.1≠X.env.locals∧p.1∉X.fs∧∀v,p.2.data≠.cell v):Inv X pins' σ H s:=
 ⟨I.ok,I.os,I.bare,I.base,I.loc,I.cell,I.free,I.freeC,fun p hp=>(List.mem_append.mp hp).elim (fun z=>I.pin p (List.mem_append_left _ z)) (h p),I.hok,I.len⟩
theorem nodup_ix {N:List Str} (hN:N.Nodup) {i j:Nat} {x:Str} (a:N[i]?=some x) (b:N[j]?=some x):i=j:=by
 obtain⟨h1,e1⟩:=List.getElem?_eq_some_iff.mp a
 obtain⟨h2,e2⟩:=List.getElem?_eq_some_iff.mp b
 exact(List.getElem_inj hN).mp (e1.trans e2.symm)
theorem store_ok2 {M:Model} {A:Around} {E:Value→Shared→Prop} {i:Nat} {x:Str} {v:V} {u:Value} {Q:Unit→Shared→Prop} (I:Inv X pins σ H s) (hN:X.N.Nodup) (hi:X.N[i]?=some x) (hx:Loc X.env.scope x) (r:RelV v u)
  (h:∀s',Inv X pins (σ.set i (some v)) H s'→(∃a,Heap.SameBut a s.heap s'.heap∧(a=X.env.locals∨X.env.cells.lookup x=some a))→Q () s') (hf:X.fn x=true∨X.env.scope.names.lookup x=some .local:=by first | exact .inl rfl | exact .inr rfl | assumption):wpAny M A (storeName X.env x u) Q E s:=by
 obtain⟨m,hn,hl⟩:=id I.loc
 have hcls:(X.env.scope.kind==.class || (X.env.scope.kind==.module && X.env.locals !=X.env.globals))=false:=by rw[I.ok.kind];rfl
 have hiσ:i<σ.length:=by rw[I.len];exact(List.getElem?_eq_some_iff.mp hi).1
 have cne:=I.cne
 have tracked:∀{a:Addr} {h':Heap},(∃o,s.heap.get? a=some o∧H a=none)→Heap.SameBut a s.heap h'→HOk X.prog X.w H h':=fun {a h'} ha hs b ob e=>by
  obtain⟨_,_,hfree⟩:=ha
  refine(I.hok b ob e).stay (fun c w' hc q=>(hs.2 c ?_).trans q) (fun _ q=>q) fun _ _ q=>q
  rintro rfl
  rcases hc with rfl | hc
  ·rw[hfree] at e;cases e
  ·rw[hfree] at hc;cases hc
 rcases hx with hk | hk
 ·refine wpAny_storeName_local hk hn (fun h' hn' hs=>?_) hcls
  obtain⟨oL,_,_,hoL,_⟩:=id hn
  refine h _ ⟨I.ok,I.os,I.bare,⟨fun b o e n hb hx=>?_,fun b o e n hb hx=>?_,I.base.free,fun b o e hx=>?_,I.base.tups,I.base.frzs,I.base.tbls⟩,⟨_,hn',fun j y v' e1 e2 e3=>?_⟩,fun y c e=>?_,I.free,I.freeC,fun p hp=>?_,tracked ⟨oL,hoL,I.free⟩ hs,by simpa using I.len⟩ ⟨_,hs,.inl rfl⟩
  ·exact(hs.2 b (Nat.ne_of_lt (Nat.lt_of_lt_of_le (Heap.lt_size e) I.ok.above))).trans (I.base.keep b o e n hb hx)
  ·obtain⟨sl,e1⟩:=I.base.slot b o e n hb hx
   exact⟨sl,(hs.2 b (Nat.ne_of_lt (Nat.lt_of_lt_of_le (Heap.lt_size e) I.ok.above))).trans e1⟩
  ·obtain⟨o',e1⟩:=I.base.there b o e hx
   exact⟨o',(hs.2 b (Nat.ne_of_lt (Nat.lt_of_lt_of_le (Heap.lt_size e) I.ok.above))).trans e1⟩
  ·by_cases hj:j=i
   ·subst hj
    rw[hi] at e1;cases e1
    rw[List.getElem?_set_self hiσ] at e2
    cases e2
    exact⟨u,r,.inl ⟨hk,by simp⟩⟩
   ·rw[List.getElem?_set_ne (Ne.symm hj)] at e2
    obtain⟨u',r',q⟩:=hl j y v' e1 e2 e3
    refine⟨u',r',?_⟩
    rcases q with ⟨k,e⟩ | ⟨k,c,e,z⟩
    ·refine .inl ⟨k,?_⟩
     have:y≠x:=fun e=>hj (nodup_ix hN e1 (e▸hi))
     simp [this,e]
    ·exact .inr ⟨k,c,e,z.sameBut hs (cne y c e)⟩
  ·obtain⟨w',z⟩:=I.cell y c e
   exact⟨w',z.sameBut hs (cne y c e)⟩
  ·obtain⟨e,n,ne,nf,d⟩:=I.pin p hp
   exact⟨(hs.2 p.1 ne).trans e,n,ne,nf,d⟩
 ·have hfn:X.fn x=true:=by
   rcases hf with z | z
   ·exact z
   ·rw[z] at hk;cases hk
  obtain⟨c,hc⟩:=I.ok.has x (.inl hk)
  obtain⟨w',z⟩:=I.cell x c hc
  refine wpAny_storeName_cell I.ok.kind hk hc z (fun h' hc' hs=>?_)
  obtain⟨oc,hoc,hocd⟩:=id z
  refine h {s with heap:=h'} ⟨I.ok,I.os,I.bare,⟨fun b o e n hb hx=>?_,fun b o e n hb hx=>?_,I.base.free,fun b o e hx=>?_,I.base.tups,I.base.frzs,I.base.tbls⟩,⟨m,hn.sameBut hs (Ne.symm (cne x c hc)),fun j y v' e1 e2 e3=>?_⟩,fun y c' e=>?_,I.free,I.freeC,fun p hp=>?_,tracked ⟨oc,hoc,I.freeC x c hc⟩ hs,by simpa using I.len⟩ ⟨c,hs,.inr hc⟩
  ·exact(hs.2 b (Nat.ne_of_lt (Nat.lt_of_lt_of_le (Heap.lt_size e) (I.ok.cab x c hfn hc)))).trans (I.base.keep b o e n hb hx)
  ·obtain⟨sl,e1⟩:=I.base.slot b o e n hb hx
   exact⟨sl,(hs.2 b (Nat.ne_of_lt (Nat.lt_of_lt_of_le (Heap.lt_size e) (I.ok.cab x c hfn hc)))).trans e1⟩
  ·obtain⟨o',e1⟩:=I.base.there b o e hx
   exact⟨o',(hs.2 b (Nat.ne_of_lt (Nat.lt_of_lt_of_le (Heap.lt_size e) (I.ok.cab x c hfn hc)))).trans e1⟩
  ·by_cases hj:j=i
   ·subst hj
    rw[hi] at e1;cases e1
    rw[List.getElem?_set_self hiσ] at e2
    cases e2
    exact⟨u,r,.inr ⟨.inl hk,c,hc,hc'⟩⟩
   ·rw[List.getElem?_set_ne (Ne.symm hj)] at e2
    obtain⟨u',r',q⟩:=hl j y v' e1 e2 e3
    refine⟨u',r',?_⟩
    rcases q with q | ⟨k,c',e,z'⟩
    ·exact .inl q
    ·refine .inr ⟨k,c',e,z'.sameBut hs ?_⟩
     rintro rfl
     exact hj (nodup_ix hN e1 (I.ok.inj _ _ _ e hc▸hi))
  ·by_cases hcc:c'=c
   ·subst hcc;exact⟨_,hc'⟩
   ·obtain⟨w2,z2⟩:=I.cell y c' e
    exact⟨w2,z2.sameBut hs hcc⟩
  ·obtain⟨e,n,ne,nf,d⟩:=I.pin p hp
   refine⟨(hs.2 p.1 ?_).trans e,n,ne,nf,d⟩
   intro q
   rw[q,hoc] at e
   have q':oc=p.2:=Option.some.inj e
   exact d w' (by rw[←q'];exact hocd)
theorem store_ok {M:Model} {A:Around} {E:Value→Shared→Prop} {i:Nat} {x:Str} {v:V} {u:Value} {Q:Unit→Shared→Prop} (I:Inv X pins σ H s) (hN:X.N.Nodup) (hi:X.N[i]?=some x) (hx:Loc X.env.scope x) (r:RelV v u)
  (h:∀s',Inv X pins (σ.set i (some v)) H s'→Q () s') (hf:X.fn x=true∨X.env.scope.names.lookup x=some .local:=by first | exact .inl rfl | exact .inr rfl | assumption):wpAny M A (storeName X.env x u) Q E s:=
 store_ok2 I hN hi hx r (fun s' I' _=>h s' I') hf
theorem Inv.call' {s':Shared} {ch:List Addr} (I:Inv X pins σ H s) (ho:s'.os=s.os) (u:Un (frs X.stack) ch H H' s.heap s'.heap) (hok:HOk X.prog X.w H' s'.heap) (hg:AllBare s'.gens)
  (hch:∀b∈ch,(b∈X.ex∨X.s₀.heap.objs.size≤b)∧b≠X.env.locals∧(∀x c,X.env.cells.lookup x=some c→c≠b)∧∀p∈X.pn++pins,p.1≠b):Inv X pins σ H' s':=by
 obtain⟨h',g',d',t',o'⟩:=s'
 have e:o'=s.os:=ho
 subst e
 exact I.call (g':=g') (t':=t') (d':=d') u hok hg hch
end
abbrev XK:=Value→Option Addr→Hp→Prop
abbrev St:=List (Option V)
abbrev VK:=V→Hp→Prop
abbrev TE:=St→Hp→VK→Prop
abbrev TT:=St→Hp→(Bool→Hp→Prop)→Prop
abbrev TA:=St→Hp→(List V→Hp→Prop)→Prop
structure Ends where
 nx:St→Hp→Prop
 rt:VK
 bk:St→Hp→Prop:=fun _ _=>False
 ct:St→Hp→Prop:=fun _ _=>False
abbrev TS:=Ends→St→Hp→Prop
noncomputable def EP (X:Cx) (pins:List (Addr×Obj)) (σ:St) (Q:VK) (u:Value) (s':Shared):Prop:=∃v H',Inv X pins σ H' s'∧RelV v u∧Q v H'
noncomputable def TP (X:Cx) (pins:List (Addr×Obj)) (σ:St) (Q:Bool→Hp→Prop) (b:Bool) (s':Shared):Prop:=∃H',Inv X pins σ H' s'∧Q b H'
noncomputable def AP (X:Cx) (pins:List (Addr×Obj)) (σ:St) (Q:List V→Hp→Prop) (us:List Value) (s':Shared):Prop:=∃vs H',Inv X pins σ H' s'∧Vals vs us∧Q vs H'
noncomputable def SP (X:Cx) (pins:List (Addr×Obj)) (D:Ends) (f:Flow) (s':Shared):Prop:=
 match f with
 | .next=>∃σ' H',Inv X pins σ' H' s'∧D.nx σ' H'
 | .brk=>∃σ' H',Inv X pins σ' H' s'∧D.bk σ' H'
 | .cont=>∃σ' H',Inv X pins σ' H' s'∧D.ct σ' H'
 | .ret u=>∃v σ' H',Inv X pins σ' H' s'∧RelV v u∧D.rt v H'
noncomputable def PE (X:Cx) (e:Expr) (t:TE):Prop:=
 ∀(pins:List (Addr×Obj)) (s:Shared) (σ:St) (H:Hp) (Q:VK),Inv X pins σ H s→t σ H Q→wpAny (model X.prog X.w) X.A (eval e X.env) (EP X pins σ Q) X.xe s
noncomputable def PT (X:Cx) (e:Expr) (t:TT):Prop:=
 ∀(pins:List (Addr×Obj)) (s:Shared) (σ:St) (H:Hp) (Q:Bool→Hp→Prop),Inv X pins σ H s→t σ H Q→wpAny (model X.prog X.w) X.A (isTrue e X.env (eval e X.env)) (TP X pins σ Q) X.xe s
noncomputable def PW (X:Cx) (e:Expr) (t:TT):Prop:=
 ∀(whole:Sem Value) (pins:List (Addr×Obj)) (s:Shared) (σ:St) (H:Hp) (Q:Bool→Hp→Prop),Inv X pins σ H s→t σ H Q→wpAny (model X.prog X.w) X.A (isTrue e X.env whole) (TP X pins σ Q) X.xe s
theorem PW.pt {X:Cx} {e:Expr} {t:TT} (h:PW X e t):PT X e t:=h _
noncomputable def PA (X:Cx) (es:List Expr) (t:TA):Prop:=
 ∀(pos:Pos) (pins:List (Addr×Obj)) (s:Shared) (σ:St) (H:Hp) (Q:List V→Hp→Prop),Inv X pins σ H s→t σ H Q→wpAny (model X.prog X.w) X.A (spliced (backTo pos (starEach es X.env))) (AP X pins σ Q) X.xe s
noncomputable def PS (X:Cx) (st:Stmt) (t:TS):Prop:=
 ∀(pins:List (Addr×Obj)) (s:Shared) (σ:St) (H:Hp) (D:Ends),Inv X pins σ H s→t D σ H→wpAny (model X.prog X.w) X.A (exec st X.env) (SP X pins D) X.xe s
noncomputable def PSs (X:Cx) (st:List Stmt) (t:TS):Prop:=
 ∀(pins:List (Addr×Obj)) (s:Shared) (σ:St) (H:Hp) (D:Ends),Inv X pins σ H s→t D σ H→wpAny (model X.prog X.w) X.A (execs st X.env) (SP X pins D) X.xe s
theorem thn {α:Type} {t:Sem α} {Q Q':α→Shared→Prop} {M:Model} {A:Around} {E:Value→Shared→Prop} {s:Shared} (h:wpAny M A t Q E s) (hQ:∀a s,Q a s→Q' a s):wpAny M A t Q' E s:=wpAny_mono h hQ fun _ _ x=>x
end L2
namespace L2
open PySem PySem.Spec PyProof.Rows
section
variable {X : Cx}
noncomputable def tVar (i:Nat):TE:=fun σ H Q=>∃v,σ[i]?=some (some v)∧Q v H
noncomputable def tC (v:V):TE:=fun _ H Q=>Q v H
theorem pe_var {i:Nat} {x:Str} {pos:Pos} (hN:X.N[i]?=some x) (hv:Vis X.env.scope x) (hd:(x==("__debug__":Str))=false:=by decide) (hcd:(x==("__classdict__":Str))=false:=by decide):PE X (.Name x pos) (tVar i):=by
 intro pins s σ H Q I h
 obtain⟨v,e,h⟩:=h
 obtain⟨m,hn,hl⟩:=I.loc
 obtain⟨u,r,l⟩:=hl i x v hN e hv
 have fin:EP X pins σ Q u s:=⟨v,H,I,r,h⟩
 rcases l with ⟨hk,hm⟩ | ⟨hk,c,hc,hcell⟩
 ·exact wpAny_Name (wpAny_loadName_local I.ok.kind hk hn hm fin) hd
 ·rcases hk with hk | hk
  ·exact wpAny_Name (wpAny_loadName_cell I.ok.kind hk hc hcell fin) hd
  ·exact wpAny_Name (wpAny_loadName_free I.ok.kind hk hc hcell fin hcd) hd
theorem pe_int {i j pos}:PE X (.Constant (.int i) j pos) (tC (.int i)):=fun _ _ _ H _ I h=>wpAny_Constant_int ⟨.int i,H,I.tok _,⟨_,rfl⟩,h⟩
theorem pe_bl {b j pos}:PE X (.Constant (.bool b) j pos) (tC (.bl b)):=fun _ _ _ H _ I h=>Constant_bool ⟨.bl b,H,I,rfl,h⟩
theorem pe_non {j pos}:PE X (.Constant .none j pos) (tC .non):=fun _ _ _ H _ I h=>Constant_none ⟨.non,H,I,rfl,h⟩
theorem pe_str {x j pos}:PE X (.Constant (.str x) j pos) (tC (.str x)):=fun _ _ _ H _ I h=>Calls.Constant_str ⟨.str x,H,I.tok _,⟨_,rfl⟩,h⟩
noncomputable def Gl (X:Cx) (x:Str):Prop:=X.env.kindOf x=some .globalImplicit
theorem ld_glob {E:Value→Shared→Prop} {pins:List (Addr×Obj)} {s:Shared} {σ:St} {H:Hp} {x:Str} {u:Value} {pos:Pos} {Q:Value→Shared→Prop} (I:Inv X pins σ H s) (hg:Gl X x) (hm:X.mg x=some u) (h:Q u s)
  (hd:(x==("__debug__":Str))=false:=by decide):wpAny (model X.prog X.w) X.A (eval (.Name x pos) X.env) Q E s:=
 Calls.Name_function_global I.ok.kind hg (Calls.loadGlobal_global (by rw[I.ok.glob];exact I.mod.glob.keeps I.bk) hm h) hd
theorem ld_blt {E:Value→Shared→Prop} {pins:List (Addr×Obj)} {s:Shared} {σ:St} {H:Hp} {x:Str} {u:Value} {pos:Pos} {Q:Value→Shared→Prop} (I:Inv X pins σ H s) (hg:Gl X x) (hm:X.mg x=none) (hv:bootBuiltins x=some u) (h:Q u s)
  (hn:x≠"__name__":=by decide) (hd:(x==("__debug__":Str))=false:=by decide):wpAny (model X.prog X.w) X.A (eval (.Name x pos) X.env) Q E s:=by
 obtain⟨mb,h1,h2⟩:=I.mod.blt
 exact Calls.Name_function_global I.ok.kind hg (Calls.loadGlobal_builtin (by rw[I.ok.glob];exact I.mod.glob.keeps I.bk) hm (by rw[I.ok.blt];exact h1.keeps I.bk) ((h2 x hn).trans hv) h) hd
theorem pe_glob {x:Str} {v:V} {u:Value} {pos:Pos} (hg:Gl X x) (hm:X.mg x=some u) (r:RelV v u) (hd:(x==("__debug__":Str))=false:=by decide):PE X (.Name x pos) (tC v):=
 fun _ _ _ H _ I h=>ld_glob I hg hm ⟨v,H,I,r,h⟩ hd
theorem pe_bltn {x:Str} {v:V} {u:Value} {pos:Pos} (hg:Gl X x) (hm:X.mg x=none) (hv:bootBuiltins x=some u) (r:RelV v u) (hn:x≠"__name__":=by decide) (hd:(x==("__debug__":Str))=false:=by decide):PE X (.Name x pos) (tC v):=
 fun _ _ _ H _ I h=>ld_blt I hg hm hv ⟨v,H,I,r,h⟩ hn hd
noncomputable def t2I (ta tb:TE) (k:Int→Int→Hp→Prop):St→Hp→Prop:=fun σ H=>ta σ H fun x H1=>tb σ H1 fun y H2=>∃i j,x=.int i∧y=.int j∧k i j H2
variable {a b : Expr} {ta tb : TE} {pos : Pos}
noncomputable def PC (X:Cx) (op:CmpOp) (a b:Expr) (t:TE):Prop:=
 ∀(pins:List (Addr×Obj)) (s:Shared) (σ:St) (H:Hp) (Q:VK),Inv X pins σ H s→t σ H Q→
  wpAny (model X.prog X.w) X.A (eval a X.env) (fun v s₁=>wpAny (model X.prog X.w) X.A (eval b X.env) (fun u s₂=>wpAny (model X.prog X.w) X.A (compareOp op v u) (EP X pins σ Q) X.xe s₂) X.xe s₁) X.xe s
theorem nobehind (b:Expr) {op:CmpOp} (h:op≠.In) (h2:op≠.NotIn):behindInMarks op b=false:=by
 have e1:(op==CmpOp.In)=false:=by cases op <;>first | rfl | exact absurd rfl h
 have e2:(op==CmpOp.NotIn)=false:=by cases op <;>first | rfl | exact absurd rfl h2
 cases b <;>simp [behindInMarks,e1,e2]
noncomputable def tCmp (p:Int→Int→Bool) (ta tb:TE):TE:=fun σ H Q=>t2I ta tb (fun i j H2=>Q (.bl (p i j)) H2) σ H
abbrev tLt:TE→TE→TE:=tCmp fun i j=>decide (i<j)
abbrev tLe:TE→TE→TE:=tCmp fun i j=>decide (i≤j)
abbrev tGt:TE→TE→TE:=tCmp fun i j=>decide (j<i)
abbrev tGe:TE→TE→TE:=tCmp fun i j=>decide (j≤i)
abbrev tEqI:TE→TE→TE:=tCmp fun i j=>decide (i=j)
abbrev tNeI:TE→TE→TE:=tCmp fun i j=>!decide (i=j)
noncomputable def tB (t:TE):TT:=fun σ H Q=>t σ H fun x H1=>∃c,x=.bl c∧Q c H1
theorem pt_cmp {op:CmpOp} {t:TE} (h:PC X op a b t) (h1:behindInMarks op b=false:=by first | exact nobehind _ (by decide) (by decide) | rfl):PT X (.Compare a [op] [b] pos) (tB t):=by
 intro pins s σ H Q I hw
 refine wpAny_isTrue_Compare1 (thn (h pins s σ H _ I hw) fun v s1 h1=>thn h1 fun u s2 h2=>thn h2 fun c s3 hh_=>?_) h1
 obtain⟨x,H1,I1,r1,q1⟩:=hh_
 obtain⟨d,rfl,q⟩:=q1
 cases r1
 exact wpAny_truthy_bool ⟨H1,I1,q⟩
theorem pt_val {e:Expr} {t:TE} (h:PE X e t) (he:∀whole,isTrue e X.env whole=(do let v ←whole;standAt e.pos;holding [v] (truthy v)):=by intro _;rfl):PT X e (tB t):=by
 intro pins s σ H Q I hw
 refine isTrue_plain (thn (h pins s σ H _ I hw) fun v s1 hh_=>?_) (he _)
 obtain⟨x,H1,I1,r1,q1⟩:=hh_
 obtain⟨d,rfl,q⟩:=q1
 cases r1
 exact wpAny_truthy_bool ⟨H1,I1,q⟩
variable {tA tB' : TT} {rest : List Expr}
noncomputable def tAnd (t u:TT):TT:=fun σ H Q=>t σ H fun c H1=>if c=true then u σ H1 Q else Q false H1
noncomputable def tOr (t u:TT):TT:=fun σ H Q=>t σ H fun c H1=>if c=true then Q true H1 else u σ H1 Q
noncomputable def tNot (t:TT):TT:=fun σ H Q=>t σ H fun c H1=>Q (!c) H1
theorem pw_and1 (ha:PT X a tA):PW X (.BoolOp .And [a] pos) tA:=by
 intro wh pins s σ H Q I h
 refine isTrue_and (thn (ha pins s σ H Q I h) fun c s1 e=>?_)
 cases c with
 | true=>exact isTrue_and_nil e
 | false=>exact e
theorem pw_or1 (ha:PT X a tA):PW X (.BoolOp .Or [a] pos) tA:=by
 intro wh pins s σ H Q I h
 refine isTrue_or (thn (ha pins s σ H Q I h) fun c s1 e=>?_)
 cases c with
 | false=>exact isTrue_or_nil e
 | true=>exact e
theorem pw_and (ha:PT X a tA) (hb:PW X (.BoolOp .And (b::rest) pos) tB'):PW X (.BoolOp .And (a::b::rest) pos) (tAnd tA tB'):=by
 intro wh pins s σ H Q I h
 refine isTrue_and (thn (ha pins s σ H _ I h) fun c s1 ⟨H1,I1,q1⟩=>?_)
 cases c with
 | true=>exact hb wh pins s1 σ H1 Q I1 q1
 | false=>exact⟨H1,I1,q1⟩
theorem pw_or (ha:PT X a tA) (hb:PW X (.BoolOp .Or (b::rest) pos) tB'):PW X (.BoolOp .Or (a::b::rest) pos) (tOr tA tB'):=by
 intro wh pins s σ H Q I h
 refine isTrue_or (thn (ha pins s σ H _ I h) fun c s1 ⟨H1,I1,q1⟩=>?_)
 cases c with
 | true=>exact⟨H1,I1,q1⟩
 | false=>exact hb wh pins s1 σ H1 Q I1 q1
theorem pt_not (ha:PT X a tA):PT X (.UnaryOp .Not a pos) (tNot tA):=by
 intro pins s σ H Q I h
 exact isTrue_not (ha pins s σ H (fun c H1=>Q (!c) H1) I h)
noncomputable def tAndV (ta tb:TE):TE:=fun σ H Q=>ta σ H fun x H1=>∃c,x=.bl c∧if c=true then tb σ H1 Q else Q (.bl false) H1
noncomputable def tOrV (ta tb:TE):TE:=fun σ H Q=>ta σ H fun x H1=>∃c,x=.bl c∧if c=true then Q (.bl true) H1 else tb σ H1 Q
noncomputable def tNotV (ta:TE):TE:=fun σ H Q=>ta σ H fun x H1=>∃c,x=.bl c∧Q (.bl (!c)) H1
theorem pe_one {op} {t:TE} (h:PE X a t):PE X (.BoolOp op [a] pos) t:=fun pins s σ H Q I hw=>BoolOp_one (h pins s σ H Q I hw)
theorem pe_and (ha:PE X a ta) (hb:PE X (.BoolOp .And (b::rest) pos) tb):PE X (.BoolOp .And (a::b::rest) pos) (tAndV ta tb):=by
 intro pins s σ H Q I h
 refine BoolOp_and (thn (ha pins s σ H _ I h) fun v s1 hh_=>?_)
 obtain⟨x,H1,I1,r1,q1⟩:=hh_
 obtain⟨c,rfl,q1⟩:=q1
 cases r1
 refine wpAny_truthy_bool ?_
 cases c with
 | true=>exact hb pins s1 σ H1 Q I1 q1
 | false=>exact⟨.bl false,H1,I1,rfl,q1⟩
theorem pe_not (ha:PE X a ta):PE X (.UnaryOp .Not a pos) (tNotV ta):=by
 intro pins s σ H Q I h
 refine UnaryOp_ (thn (ha pins s σ H _ I h) fun v s1 hh_=>?_)
 obtain⟨x,H1,I1,r1,q1⟩:=hh_
 obtain⟨c,rfl,q1⟩:=q1
 cases r1
 exact not_of (wpAny_truthy_bool ⟨.bl (!c),H1,I1,rfl,q1⟩)
noncomputable def tIf (t:TT) (ta tb:TE):TE:=fun σ H Q=>t σ H fun c H1=>if c=true then ta σ H1 Q else tb σ H1 Q
theorem pe_ifExp {c:Expr} (hc:PT X c tA) (ha:PE X a ta) (hb:PE X b tb):PE X (.IfExp c a b pos) (tIf tA ta tb):=by
 intro pins s σ H Q I h
 refine wpAny_IfExp (thn (hc pins s σ H _ I h) fun d s1 ⟨H1,I1,q1⟩=>?_)
 cases d with
 | true=>exact ha pins s1 σ H1 Q I1 q1
 | false=>exact hb pins s1 σ H1 Q I1 q1
end
end L2
namespace L2
open PySem PySem.Spec PyProof.Rows
noncomputable def SqL (K:PySem.W.Frag) (H:Hp) (a:Addr) (xs:List V):Prop:=
 Rd H a (.lst xs)∨
  ∃(o:Obj) (its:Array Value) (n:Nat),K.lookup a=some o∧o.cls=.type "list"∧o.dict=none∧o.data=.seq its n∧its.size≤sizeLine∧Vals xs its.toList
noncomputable def SqT (K:PySem.W.Frag) (H:Hp) (a:Addr) (xs:List V):Prop:=
 Rd H a (.tup xs)∨
  ∃(o:Obj) (its:Array Value) (n:Nat),K.lookup a=some o∧o.cls=.type "tuple"∧o.data=.seq its n∧its.size≤sizeLine∧Vals xs its.toList
noncomputable def absV:Value→Option V
 | .none=>some .non
 | .bool b=>some (.bl b)
 | .int i _=>some (.int i)
 | .str x _=>some (.str x)
 | .bytes b _=>some (.byt b)
 | .float b _=>some (.flt b)
 | .ref a=>some (.ref a)
 | .type n=>some (.ty n)
 | _=>none
theorem RelV.abs {x:V} {u:Value} (r:RelV x u):absV u=some x:=by
 cases x with
 | non=>cases r;rfl
 | bl _=>cases r;rfl
 | int _=>obtain⟨t,rfl⟩:=r;rfl
 | str _=>obtain⟨t,rfl⟩:=r;rfl
 | byt _=>obtain⟨t,rfl⟩:=r;rfl
 | flt _=>obtain⟨t,rfl⟩:=r;rfl
 | ref _=>cases r;rfl
 | ty _=>cases r;rfl
theorem RelV.inj {x y:V} {u:Value} (r:RelV x u) (q:RelV y u):x=y:=Option.some.inj (r.abs.symm.trans q.abs)
theorem Vals.inj:∀{xs ys:List V} {us:List Value},Vals xs us→Vals ys us→xs=ys
 | _,_,_,.nil,.nil=>rfl
 | _,_,_,.cons r t,.cons r' t'=>by rw[r.inj r',Vals.inj t t']
section
variable {X : Cx} {pins : List (Addr × Obj)} {σ : St} {H : Hp} {s : Shared} {a : Addr} {xs ys : List V}
theorem SqL.of {K:PySem.W.Frag} (h:H a=some (.lst xs)):SqL K H a xs:=.inl (.inl h)
theorem SqT.of {K:PySem.W.Frag} (h:H a=some (.tup xs)):SqT K H a xs:=.inl (.inl h)
theorem Inv.list (I:Inv X pins σ H s) (h:SqL X.K H a xs):∃its:List Value,Vals xs its∧PlainL s.heap a its.toArray∧xs.length≤sizeLine:=by
 rcases h with h | ⟨o,its,n,hk,hc,hd,hs,hz,r⟩
 ·obtain⟨z,its,n,r,e⟩:=h.ok I.hok
  exact⟨its,r,⟨_,n,e,rfl,rfl,rfl⟩,z⟩
 ·refine⟨its.toList,r,⟨o,n,I.kIn a o hk,hc,hd,by simpa using hs⟩,?_⟩
  have e:=r.length
  simp only[Array.length_toList] at e
  omega
theorem Inv.tuple (I:Inv X pins σ H s) (h:SqT X.K H a xs):∃its:List Value,Vals xs its∧IsTup s.heap a its.toArray∧xs.length≤sizeLine:=by
 rcases h with h | ⟨o,its,n,hk,hc,hs,hz,r⟩
 ·obtain⟨z,its,r,p⟩:=h.ok I.hok
  exact⟨its,r,p,z⟩
 ·refine⟨its.toList,r,⟨o,I.kIn a o hk,hc,n,by simpa using hs⟩,?_⟩
  have e:=r.length
  simp only[Array.length_toList] at e
  omega
theorem Inv.list_inj (I:Inv X pins σ H s) (h:SqL X.K H a xs) (h':SqL X.K H a ys):xs=ys:=by
 obtain⟨its,r,⟨o,n,e,_,_,d⟩,_⟩:=I.list h
 obtain⟨its',r',⟨o',n',e',_,_,d'⟩,_⟩:=I.list h'
 rw[e] at e';cases e'
 rw[d] at d'
 injection d' with d1 _
 have:its=its':=by simpa using congrArg Array.toList d1
 subst this
 exact r.inj r'
end
abbrev Cx.wish (X:Cx) (E:Value→Shared→Prop):Cx:={X with xe:=E}
abbrev Cx.nox (X:Cx):Cx:=X.wish fun _ _=>False
theorem Cx.Ok.wish {X:Cx} (ok:X.Ok) (E:Value→Shared→Prop):(X.wish E).Ok:=
 ⟨ok.mod,ok.kind,ok.glob,ok.blt,ok.above,ok.inj,ok.has,ok.cab,ok.hd,ok.frames,ok.stk,ok.exf,ok.bs,ok.bsz,ok.noex,ok.exfs,ok.funs,ok.frf⟩
theorem Cx.Ok.unwish {X:Cx} {E:Value→Shared→Prop} (ok:(X.wish E).Ok):X.Ok:=
 ⟨ok.mod,ok.kind,ok.glob,ok.blt,ok.above,ok.inj,ok.has,ok.cab,ok.hd,ok.frames,ok.stk,ok.exf,ok.bs,ok.bsz,ok.noex,ok.exfs,ok.funs,ok.frf⟩
section
variable {X : Cx} {pins : List (Addr × Obj)} {σ : St} {H : Hp} {s : Shared} {E : Value → Shared → Prop}
theorem Inv.wish (I:Inv X pins σ H s) (E:Value→Shared→Prop):Inv (X.wish E) pins σ H s:=⟨I.ok.wish E,I.os,I.bare,I.base,I.loc,I.cell,I.free,I.freeC,I.pin,I.hok,I.len⟩
theorem Inv.unwish (I:Inv (X.wish E) pins σ H s):Inv X pins σ H s:=⟨I.ok.unwish,I.os,I.bare,I.base,I.loc,I.cell,I.free,I.freeC,I.pin,I.hok,I.len⟩
theorem SP.unwish {D:Ends} {f:Flow} {s':Shared} (h:SP (X.wish E) pins D f s'):SP X pins D f s':=by
 cases f with
 | next=>obtain⟨σ',H',I,q⟩:=h;exact⟨σ',H',I.unwish,q⟩
 | brk=>obtain⟨σ',H',I,q⟩:=h;exact⟨σ',H',I.unwish,q⟩
 | cont=>obtain⟨σ',H',I,q⟩:=h;exact⟨σ',H',I.unwish,q⟩
 | ret u=>obtain⟨v,σ',H',I,r,q⟩:=h;exact⟨v,σ',H',I.unwish,r,q⟩
theorem PSs.nox {st:List Stmt} {t:TS} (h:PSs X.nox st t):PSs X st t:=fun pins s σ H D I hw=>
 wpAny_mono (h pins s σ H D (I.wish _) hw) (fun _ _ q=>q.unwish) fun _ _ z=>False.elim z
end
section
variable {X : Cx} {st : Stmt} {rest : List Stmt} {t u : TS} {e : Expr} {te : TE} {pos : Pos}
noncomputable def tNext:TS:=fun D σ H=>D.nx σ H
noncomputable def tSeq (t u:TS):TS:=fun D σ H=>t {D with nx:=u D} σ H
theorem pss_nil:PSs X [] tNext:=fun _ _ σ H _ I h=>wpAny_execs_nil ⟨σ,H,I,h⟩
theorem pss_cons (h1:PS X st t) (h2:PSs X rest u):PSs X (st::rest) (tSeq t u):=by
 intro pins s σ H D I h
 refine wpAny_execs_cons (thn (h1 pins s σ H {D with nx:=u D} I h) fun f s1 q=>?_)
 cases f with
 | next=>
  obtain⟨σ',H',I',q⟩:=q
  exact h2 pins s1 σ' H' D I' q
 | ret v=>exact q
 | brk=>exact q
 | cont=>exact q
theorem pss_one (h1:PS X st t):PSs X [st] t:=by
 intro pins s σ H D I h
 refine wpAny_execs_cons (thn (h1 pins s σ H D I h) fun f s1 q=>?_)
 cases f with
 | next=>exact wpAny_execs_nil q
 | ret v=>exact q
 | brk=>exact q
 | cont=>exact q
noncomputable def tBreak:TS:=fun D σ H=>D.bk σ H
theorem ps_break:PS X (.Break pos) tBreak:=fun _ _ σ H _ I h=>wpAny_Break ⟨σ,H,I,h⟩
theorem Inv.quiet {pins:List (Addr×Obj)} {σ:St} {H:Hp} {s:Shared} (I:Inv X pins σ H s):interactive X.env=false:=by simp [interactive,I.ok.kind]
noncomputable def tDrop (te:TE):TS:=fun D σ H=>te σ H fun _ H1=>D.nx σ H1
theorem ps_expr (he:PE X e te) (hs:swapsWith e none pos.line X.env=pure false:=by rfl):PS X (.Expr e pos) (tDrop te):=by
 intro pins s σ H D I h
 exact wpAny_Expr_any (thn (he pins s σ H _ I h) fun v s1 ⟨x,H1,I1,r1,q1⟩=>⟨σ,H1,I1,q1⟩) I.quiet hs
noncomputable def tRet (te:TE):TS:=fun D σ H=>te σ H D.rt
theorem ps_ret (he:PE X e te):PS X (.Return (some e) pos) (tRet te):=by
 intro pins s σ H D I h
 exact wpAny_Return_some (thn (he pins s σ H _ I h) fun v s1 ⟨x,H1,I1,r1,q1⟩=>⟨x,σ,H1,I1,r1,q1⟩)
noncomputable def tRetN:TS:=fun D _ H=>D.rt .non H
noncomputable def tIfS (c:TT) (t u:TS):TS:=fun D σ H=>c σ H fun b H1=>if b=true then t D σ H1 else u D σ H1
theorem ps_if {c:Expr} {a b:List Stmt} {tc:TT} (hc:PT X c tc) (ha:PSs X a t) (hb:PSs X b u):PS X (.If c a b pos) (tIfS tc t u):=by
 intro pins s σ H D I h
 refine wpAny_If (thn (hc pins s σ H _ I h) fun d s1 ⟨H1,I1,q1⟩=>?_)
 cases d with
 | true=>exact ha pins s1 σ H1 D I1 q1
 | false=>exact hb pins s1 σ H1 D I1 q1
end
abbrev TG:=V→St→Hp→(St→Hp→Prop)→Prop
abbrev TGs:=List V→St→Hp→(St→Hp→Prop)→Prop
noncomputable def PG (X:Cx) (target:Expr) (t:TG):Prop:=
 ∀(pins:List (Addr×Obj)) (s:Shared) (σ:St) (H:Hp) (v:V) (u:Value) (Q:St→Hp→Prop),Inv X pins σ H s→RelV v u→t v σ H Q→
  wpAny (model X.prog X.w) X.A (assign target X.env u) (fun _ s'=>∃σ' H',Inv X pins σ' H' s'∧Q σ' H') X.xe s
noncomputable def PGs (X:Cx) (ts:List Expr) (t:TGs):Prop:=
 ∀(pins:List (Addr×Obj)) (s:Shared) (σ:St) (H:Hp) (vs:List V) (us:List Value) (Q:St→Hp→Prop),Inv X pins σ H s→Vals vs us→t vs σ H Q→
  wpAny (model X.prog X.w) X.A (assignInOrder ((assignEach ts X.env).map (·.2)) us) (fun _ s'=>∃σ' H',Inv X pins σ' H' s'∧Q σ' H') X.xe s
abbrev TSet:=V→V→V→Hp→(Hp→Prop)→Prop
noncomputable def PSet (X:Cx) (t:TSet):Prop:=
 ∀(pins:List (Addr×Obj)) (s:Shared) (σ:St) (H:Hp) (o i v:V) (ov iv u:Value) (Q:Hp→Prop),Inv X pins σ H s→RelV o ov→RelV i iv→RelV v u→t o i v H Q→
  wpAny (model X.prog X.w) X.A (setItem ov iv u) (fun _ s'=>∃H',Inv X pins σ H' s'∧Q H') X.xe s
abbrev TIp:=V→V→Hp→VK→Prop
section
variable {X : Cx} {pos : Pos}
noncomputable def gName (i:Nat):TG:=fun v σ H Q=>Q (σ.set i (some v)) H
theorem pg_name {i:Nat} {x:Str} (hN:X.N.Nodup) (hi:X.N[i]?=some x) (hx:Loc X.env.scope x) (hf:X.fn x=true∨X.env.scope.names.lookup x=some .local:=by first | exact .inl rfl | exact .inr rfl | assumption):PG X (.Name x pos) (gName i):=by
 intro pins s σ H v u Q I r h
 exact wpAny_assign_Name (store_ok I hN hi hx r (fun s' I'=>⟨_,H,I',h⟩) hf)
noncomputable def gNil:TGs:=fun vs σ H Q=>vs=[]∧Q σ H
noncomputable def gCons (t:TG) (u:TGs):TGs:=fun vs σ H Q=>∃v r,vs=v::r∧t v σ H fun σ' H'=>u r σ' H' Q
theorem pgs_nil:PGs X [] gNil:=by
 intro pins s σ H vs us Q I r h
 obtain⟨e,h⟩:=h
 subst e
 cases r
 exact assignInOrder_nil ⟨σ,H,I,h⟩
theorem pgs_cons {e:Expr} {es:List Expr} {t:TG} {u:TGs} (h1:PG X e t) (h2:PGs X es u)
  (hs:(assignEach (e::es) X.env).map (·.2)=assign e X.env::(assignEach es X.env).map (·.2):=by rfl):PGs X (e::es) (gCons t u):=by
 intro pins s σ H vs us Q I r h
 obtain⟨v,vr,e1,h⟩:=h
 subst e1
 cases r with
 | cons r rr=>
  rw[hs]
  refine assignInOrder_cons (thn (h1 pins s σ H _ _ _ I r h) fun _ s1 ⟨σ1,H1,I1,q1⟩=>?_)
  exact h2 pins s1 σ1 H1 _ _ Q I1 rr q1
noncomputable def gTup (K:PySem.W.Frag) (n:Nat) (t:TGs):TG:=fun v σ H Q=>∃a xs,v=.ref a∧SqT K H a xs∧xs.length=n∧t xs σ H Q
theorem pg_tup {es:List Expr} {k:Nat} {t:TGs} {n:Nat} (hc:X.calm=true) (h:PGs X es t)
  (hn:(assignEach es X.env).length=n:=by rfl) (hst:(assignEach es X.env).findIdx? (·.1)=none:=by rfl):PG X (.Tuple es k pos) (gTup X.K n t):=by
 intro pins s σ H v u Q I r hw
 obtain⟨a,xs,e1,hq,hl,hw⟩:=hw
 subst e1
 cases r
 obtain⟨its,rv,ht,hz⟩:=I.tuple hq
 refine assign_Tuple_tuple (I.ok.hd hc) ht (by simp [hn,←hl,rv.length]) hst fun h' hx=>?_
 have I1:Inv X pins σ H {s with heap:=h'}:=I.kept (t':=s.toks) fun b o e=>hx b o (Nat.ne_of_lt (Heap.lt_size e)) e
 exact h pins _ σ H xs _ Q I1 (by simpa using rv) hw
noncomputable def gSub (to ti:TE) (t:TSet):TG:=fun v σ H Q=>to σ H fun o H1=>ti σ H1 fun i H2=>t o i v H2 fun H3=>Q σ H3
theorem pg_sub {o i:Expr} {to ti:TE} {t:TSet} (ho:PE X o to) (hi:PE X i ti) (hs:PSet X t)
  (ha:∀v,assign (.Subscript o i pos) X.env v=(do
   let ov ←holding [v] (eval o X.env)
   let iv ←holding [v,ov] (eval i X.env)
   standAt pos
   holding [v,ov,iv] (setItem ov iv v)
   release [v,ov,iv] []):=by intro _;rfl):PG X (.Subscript o i pos) (gSub to ti t):=by
 intro pins s σ H v u Q I r h
 rw[ha]
 refine wpAny_bind (wpAny_holding (thn (ho pins s σ H _ I h) fun ov s1 hh_=>?_))
 obtain⟨x,H1,I1,r1,q1⟩:=hh_
 refine wpAny_bind (wpAny_holding (thn (hi pins s1 σ H1 _ I1 q1) fun iv s2 hh_=>?_))
 obtain⟨y,H2,I2,r2,q2⟩:=hh_
 refine wpAny_bind (wpAny_standAt (wpAny_bind (wpAny_holding (thn (hs pins s2 σ H2 x y v ov iv u _ I2 r1 r2 r q2) fun _ s3 ⟨H3,I3,q3⟩=>?_))))
 exact wpAny_release ⟨σ,H3,I3,q3⟩
noncomputable def tAsg (te:TE) (g:TG):TS:=fun D σ H=>te σ H fun x H1=>g x σ H1 D.nx
theorem ps_asg {tg e:Expr} {te:TE} {g:TG} (he:PE X e te) (hg:PG X tg g) (hs:swapsWithSole [tg] e pos.line X.env=pure false:=by rfl) (hw:swappedStores [tg] e X.env=pure none:=by rfl)
  (h1:(assignEach [tg] X.env).map (·.2)=[assign tg X.env]:=by rfl):PS X (.Assign [tg] e pos) (tAsg te g):=by
 intro pins s σ H D I h
 refine wpAny_Assign_stores (thn (he pins s σ H _ I h) fun v s1 hh_=>?_) hs hw
 obtain⟨x,H1,I1,r1,q1⟩:=hh_
 rw[h1]
 exact thn (hg pins s1 σ H1 x v _ I1 r1 q1) fun _ s2 q=>q
theorem ps_set {i:Nat} {x:Str} {e:Expr} {te:TE} {pos':Pos} (hN:X.N.Nodup) (hi:X.N[i]?=some x) (hx:Loc X.env.scope x) (he:PE X e te) (hs:swapsWith e (some (.Name x pos')) pos.line X.env=pure false:=by rfl) (hf:X.fn x=true∨X.env.scope.names.lookup x=some .local:=by first | exact .inl rfl | exact .inr rfl | assumption):
  PS X (.Assign [.Name x pos'] e pos) (tAsg te (gName i)):=by
 intro pins s σ H D I h
 refine wpAny_Assign_Name (thn (he pins s σ H _ I h) fun v s1 hh_=>?_) hs
 obtain⟨y,H1,I1,r1,q1⟩:=hh_
 exact store_ok I1 hN hi hx r1 (fun s2 I2=>⟨_,H1,I2,q1⟩) hf
noncomputable def tPar (i j:Nat) (ta:TA):TS:=fun D σ H=>ta σ H fun vs H1=>∃v w,vs=[v,w]∧D.nx ((σ.set i (some v)).set j (some w)) H1
end
section
variable {X : Cx} {pos : Pos}
noncomputable def tWhile (c:TT) (tb:TS):TS:=fun D σ H=>∃W:Nat→St→Hp→Prop,(∃m,W m σ H)∧∀m σ H,W m σ H→
 c σ H fun b H1=>if b=true then ∃N:St→Hp→Prop,(∀σ' H',N σ' H'→∃m',m'<m∧W m' σ' H')∧tb {D with nx:=N,ct:=N,bk:=D.nx} σ H1 else D.nx σ H1
theorem ps_while {c:Expr} {body:List Stmt} {tc:TT} {tb:TS} (hp:PassesOwn (model X.prog X.w) X.A X.env X.xe) (hc:PT X c tc) (hb:PSs X body tb):PS X (.While c body [] pos) (tWhile tc tb):=by
 intro pins s σ H D I h
 obtain⟨W,⟨m0,w0⟩,turn⟩:=h
 refine wpAny_While (codeAny_whileLoop (fun n s'=>∃σ' H',Inv X pins σ' H' s'∧W n σ' H') ?_ m0 ⟨σ,H,I,w0⟩)
 rintro n s1 ⟨σ1,H1,I1,w1⟩
 refine wpAny_passesOwn hp (thn (hc pins s1 σ1 H1 _ I1 (turn n σ1 H1 w1)) fun b s2 ⟨H2,I2,q2⟩=>?_)
 cases b with
 | true=>
  obtain⟨N,hN,q2⟩:=q2
  rw[if_pos rfl]
  refine wpAny_passesOwn hp (thn (hb pins s2 σ1 H2 _ I2 q2) fun f s3 q3=>?_)
  cases f with
  | next=>
   obtain⟨σ3,H3,I3,n3⟩:=q3
   obtain⟨m',hm,w3⟩:=hN σ3 H3 n3
   exact⟨m',hm,σ3,H3,I3,w3⟩
  | cont=>
   obtain⟨σ3,H3,I3,n3⟩:=q3
   obtain⟨m',hm,w3⟩:=hN σ3 H3 n3
   exact⟨m',hm,σ3,H3,I3,w3⟩
  | brk=>exact q3
  | ret v=>exact q3
 | false=>
  rw[if_neg Bool.false_ne_true]
  exact wpAny_execs_nil ⟨σ1,H2,I2,q2⟩
end
structure It where
 go:Nat→Hp→Prop
 yld:Nat→Hp→V→Hp→Prop
 stop:Nat→Hp→Prop
noncomputable def FpOk (X:Cx) (pins:List (Addr×Obj)) (H:Hp) (b:Addr):Prop:=
 H b=none∧b≠X.env.locals∧b∉X.fs∧(b∈X.ex∨X.s₀.heap.objs.size≤b)∧(∀x c,X.env.cells.lookup x=some c→c≠b)∧∀p∈X.pn++pins,p.1≠b
theorem Inv.fpOk {X:Cx} {pins:List (Addr×Obj)} {σ:St} {H H':Hp} {s:Shared} {b:Addr} (I:Inv X pins σ H s) (hb:s.heap.objs.size≤b) (hn:H' b=none):FpOk X pins H' b:=by
 refine⟨hn,Nat.ne_of_gt (Nat.lt_of_lt_of_le I.lt hb),I.nofs hb,.inr (Nat.le_trans I.sz hb),fun x c e z=>?_,fun p hp z=>?_⟩
 ·obtain⟨v,q⟩:=I.cell x c e
  exact absurd (Nat.lt_of_lt_of_le q.lt (by rw[z];exact hb)) (Nat.lt_irrefl _)
 ·exact absurd (Nat.lt_of_lt_of_le (Heap.lt_size (I.pin p hp).1) (by rw[z];exact hb)) (Nat.lt_irrefl _)
structure Turn (P:Program) (w:World) (K:PySem.W.Frag) (tg:Expr) (J:It) (fp:List Addr) (it:Addr) (tn:Nat→Heap→Prop):Prop where
 mem:it∈fp
 obj:∀i h,tn i h→∀b∈fp,∃o,h.get? b=some o∧∀v,o.data≠.cell v
 keep:∀i h h',tn i h→(∀b∈fp,∀o,h.get? b=some o→h'.get? b=some o)→tn i h'
 item:∀(X:Cx),X.prog=P→X.w=w→X.K=K→X.calm=true→∀(i:Nat) (pins:List (Addr×Obj)) (s:Shared) (σ:St) (H:Hp) (E:Value→Shared→Prop),Inv X pins σ H s→(∀b∈fp,FpOk X pins H b)→tn i s.heap→J.go i H→
  wpAny (model P w) X.A (pyNext (.ref it)) (fun r s1=>∃u,r=some u∧
   wpAny (model P w) X.A (letOwnedTupleGo tg (.ref it) u) (fun _ s2=>∃x H',Inv X pins σ H' s2∧RelV x u∧J.yld i H x H'∧tn (i+1) s2.heap∧∀b∈fp,H' b=none) E s1) E s
 done:∀(X:Cx),X.prog=P→X.w=w→X.K=K→X.calm=true→∀(i:Nat) (pins:List (Addr×Obj)) (s:Shared) (σ:St) (H:Hp) (E:Value→Shared→Prop),Inv X pins σ H s→(∀b∈fp,FpOk X pins H b)→tn i s.heap→J.stop i H→
  wpAny (model P w) X.A (pyNext (.ref it)) (fun r s1=>r=none∧Inv X pins σ H s1) E s
 self:∀(A:Around) (i:Nat) (s:Shared) (Q:Value→Shared→Prop) (E:Value→Shared→Prop),tn i s.heap→Q (.ref it) s→wpAny (model P w) A (pyIter (.ref it)) Q E s
abbrev TI:=St→Hp→(It→Hp→Prop)→Prop
noncomputable def PIE (X:Cx) (pins:List (Addr×Obj)) (σ:St) (tg:Expr) (R:It→Hp→Prop) (itv:Value) (s2:Shared):Prop:=
 ∃(it:Addr) (fp:List Addr) (tn:Nat→Heap→Prop) (J:It) (H':Hp),itv=.ref it∧Inv X pins σ H' s2∧Turn X.prog X.w X.K tg J fp it tn∧tn 0 s2.heap∧(∀b∈fp,FpOk X pins H' b)∧R J H'
noncomputable def PI (X:Cx) (tg iter:Expr) (wi:TI):Prop:=
 ∀(pins:List (Addr×Obj)) (s:Shared) (σ:St) (H:Hp) (R:It→Hp→Prop),Inv X pins σ H s→wi σ H R→
  wpAny (model X.prog X.w) X.A (eval iter X.env) (fun v s1=>wpAny (model X.prog X.w) X.A (pyIter v) (PIE X pins σ tg R) X.xe s1) X.xe s
theorem go_of {M:Model} {A:Around} {E:Value→Shared→Prop} {s:Shared} {tg:Expr} {it:Addr} {u:Value} {o:Obj} {n:String} {vs:Array Value} {Q:Unit→Shared→Prop} (ho:s.heap.get? it=some o) (hc:o.cls=.type n) (hd:o.data=.fields vs)
  (hn:["enumerate","zip","dict_itemiterator","dict_reverseitemiterator","odict_iterator","itertools.zip_longest","itertools.pairwise"].contains n=false) (hQ:Q () s):wpAny M A (letOwnedTupleGo tg (.ref it) u) Q E s:=by
 unfold letOwnedTupleGo
 cases tg <;>first
  | exact wpAny_pure hQ
  | (cases u <;>first
    | exact wpAny_pure hQ
    | (refine wpAny_bind (wpAny_load ho ?_)
       rw[hc,hd]
       show wpAny M A (if (["enumerate","zip","dict_itemiterator","dict_reverseitemiterator","odict_iterator","itertools.zip_longest","itertools.pairwise"].contains n && vs[0]?==some (rawInt _))=true then _ else _) Q E s
       rw[if_neg (by intro h;rw[hn,Bool.false_and] at h;cases h)]
       exact wpAny_pure hQ))
noncomputable def Itl (K:PySem.W.Frag) (a:Addr):It:=
 ⟨fun i H=>∃xs x,SqL K H a xs∧xs[i]?=some x,fun i H x H'=>H'=H∧∀xs,SqL K H a xs→xs[i]?=some x,fun i H=>∃xs,SqL K H a xs∧xs.length≤i⟩
noncomputable def Itt (K:PySem.W.Frag) (a:Addr):It:=
 ⟨fun i H=>∃xs x,SqT K H a xs∧xs[i]?=some x,fun i H x H'=>H'=H∧∀xs,SqT K H a xs→xs[i]?=some x,fun i H=>∃xs,SqT K H a xs∧xs.length≤i⟩
noncomputable def Itr (lo:Int) (n:Nat):It:=⟨fun i _=>i<n,fun i H x H'=>H'=H∧x=.int (lo+i),fun i _=>n≤i⟩
theorem turn_list {P:Program} {w:World} {K:PySem.W.Frag} {tg:Expr} (a it:Addr):Turn P w K tg (Itl K a) [it] it (fun i h=>h.IsListIter it a i) where
 mem:=by simp
 obj:=fun i h st b hb=>by
  have e:b=it:=by simpa using hb
  subst e
  obtain⟨o,e,c,d⟩:=st
  exact⟨o,e,fun v z=>by rw[d] at z;cases z⟩
 keep:=fun i h h' st k=>st.at fun o e=>k it (by simp) o e
 item:=by
  intro X hP hw hK hc i pins s σ H E I hf st hg
  subst hP hw hK
  obtain⟨xs,x,hq,hx⟩:=hg
  obtain⟨its,rv,p,hz⟩:=I.list hq
  obtain⟨u,hu,ru⟩:=rv.get hx
  obtain⟨f0,f1,f2,f3,f4,f5⟩:=hf it (by simp)
  refine wpAny_pyNext_list_item st p.isList (x:=u) (by simpa using hu) fun h' st' sb=>?_
  have I1:Inv X pins σ H {s with heap:=h'}:=I.turned (t':=s.toks) (fun b o hb e=>(sb.2 b hb).trans e) f0 f1 f3 f4 f5
  obtain⟨o,e,c,d⟩:=id st'
  exact⟨u,rfl,go_of (s:={s with heap:=h'}) e c d (by decide) ⟨x,H,I1,ru,⟨rfl,fun ys hy=>by rw[I.list_inj hy hq];exact hx⟩,st',fun b hb=>(hf b hb).1⟩⟩
 done:=by
  intro X hP hw hK hc i pins s σ H E I hf st hg
  subst hP hw hK
  obtain⟨xs,hq,hx⟩:=hg
  obtain⟨its,rv,p,hz⟩:=I.list hq
  obtain⟨f0,f1,f2,f3,f4,f5⟩:=hf it (by simp)
  have hl:=rv.length
  exact wpAny_pyNext_list_end (I.ok.hd hc) st p.isList (by simp;omega) fun h' eb=>⟨rfl,I.turned (t':=s.toks) (fun b o hb e=>eb b o hb e) f0 f1 f3 f4 f5⟩
 self:=fun _ _ _ _ _ st h=>wpAny_pyIter_listiter st h
theorem turn_range {P:Program} {w:World} {K:PySem.W.Frag} {tg:Expr} (it:Addr) (lo:Int) (n:Nat):Turn P w K tg (Itr lo n) [it] it (fun i h=>IsRangeIter h it (lo+ (i:Nat)*1) ((n:Int) - (i:Nat)) 1) where
 mem:=by simp
 obj:=fun i h st b hb=>by
  have e:b=it:=by simpa using hb
  subst e
  exact⟨_,st,fun v z=>by
   have z':Data.fields _=Data.cell v:=z
   cases z'⟩
 keep:=fun i h h' st k=>k it (by simp) _ st
 item:=by
  intro X hP hw hK hc i pins s σ H E I hf st hg
  subst hP hw hK
  obtain⟨f0,f1,f2,f3,f4,f5⟩:=hf it (by simp)
  have W:=Walks.range (prog:=X.prog) (w:=X.w) (I.ok.hd hc) it lo 1 n
  refine W.item i s _ _ hg st fun v h' tk hv st' kk=>?_
  obtain⟨t,rfl⟩:=hv
  have I1:Inv X pins σ H {s with heap:=h',toks:=tk}:=I.turned (fun b o hb e=>kk b o (by simpa using hb) e) f0 f1 f3 f4 f5
  refine⟨_,rfl,go_of (s:={s with heap:=h',toks:=tk}) (n:="range_iterator") st' rfl rfl (by decide) ⟨.int (lo+i),H,I1,⟨t,?_⟩,⟨rfl,rfl⟩,st',fun b hb=>(hf b hb).1⟩⟩
  rw[Int.mul_one]
 done:=by
  intro X hP hw hK hc i pins s σ H E I hf st hg
  subst hP hw hK
  obtain⟨f0,f1,f2,f3,f4,f5⟩:=hf it (by simp)
  exact wpAny_pyNext_range_end (I.ok.hd hc) st (by have:n≤i:=hg;omega) fun h' eb=>⟨rfl,I.turned (t':=s.toks) (fun b o hb e=>eb b o hb e) f0 f1 f3 f4 f5⟩
 self:=fun _ _ _ _ _ st h=>wpAny_pyIter_rangeiter st h
end L2
namespace L2
open PySem PySem.Spec PyProof.Rows
section
variable {X : Cx} {tg : Expr}
noncomputable def iList (K:PySem.W.Frag) (tl:TE):TI:=fun σ H R=>tl σ H fun x H1=>∃a,x=.ref a∧(∃xs,SqL K H1 a xs)∧R (Itl K a) H1
noncomputable def iTup (K:PySem.W.Frag) (tl:TE):TI:=fun σ H R=>tl σ H fun x H1=>∃a,x=.ref a∧(∃xs,SqT K H1 a xs)∧R (Itt K a) H1
theorem pi_list {l:Expr} {tl:TE} (hl:PE X l tl):PI X tg l (iList X.K tl):=by
 intro pins s σ H R I h
 refine thn (hl pins s σ H _ I h) fun v s1 hh_=>?_
 obtain⟨x,H1,I1,r1,q1⟩:=hh_
 obtain⟨a,e,⟨xs,hq⟩,q⟩:=q1
 subst e
 cases r1
 obtain⟨its,rv,p,hz⟩:=I1.list hq
 refine wpAny_pyIter_list p.isList ?_
 refine⟨s1.heap.objs.size,[s1.heap.objs.size],_,_,H1,rfl,I1.kept (t':=s1.toks) fun b o e=>Heap.get?_push_of_some _ e,turn_list a _,⟨_,Heap.get?_push_size _ rfl,rfl,rfl⟩,fun b hb=>?_,q⟩
 have e:b=s1.heap.objs.size:=by simpa using hb
 subst e
 exact I1.fpOk (Nat.le_refl _) (I1.hok.fresh (Nat.le_refl _))
theorem range_it {pins:List (Addr×Obj)} {σ:St} {H:Hp} {s:Shared} {R:It→Hp→Prop} {E:Value→Shared→Prop} {lo hi:Int} {t u v:Tok} {tk:Nat} (I:Inv X pins σ H s) (h1:-(2^62)≤lo) (h2:lo<2^62) (h3:-(2^62)≤hi) (h4:hi<2^62)
  (q:R (Itr lo (hi - lo).toNat) H):wpAny (model X.prog X.w) X.A (pyIter (.ref s.heap.objs.size)) (PIE X pins σ tg R) E {s with heap:=s.heap.push {cls:=.type "range",data:=.fields #[.int lo t,.int hi u,.int 1 v]},toks:=tk}:=by
 refine wpAny_pyIter_range (IsRange.new ..) (small_one h1 h2 h3 h4) ?_
 have I1:Inv X pins σ H {s with heap:=s.heap.push {cls:=.type "range",data:=.fields #[.int lo t,.int hi u,.int 1 v]},toks:=tk}:=I.kept fun b o e=>Heap.get?_push_of_some _ e
 refine⟨(s.heap.push {cls:=.type "range",data:=.fields #[.int lo t,.int hi u,.int 1 v]}).objs.size,[(s.heap.push {cls:=.type "range",data:=.fields #[.int lo t,.int hi u,.int 1 v]}).objs.size],_,_,H,rfl,
  I1.kept (t':=tk) fun b o e=>Heap.get?_push_of_some _ e,turn_range _ lo (hi - lo).toNat,?_,fun b hb=>?_,q⟩
 ·have e1:lo+ ((0:Nat):Int)*1=lo:=by simp
  have e2:(((hi - lo).toNat:Nat):Int) - ((0:Nat):Int)=Builtin.Range.rangeSize lo hi 1:=by rw[rangeSize_one];split <;>omega
  show IsRangeIter _ _ (lo+ ((0:Nat):Int)*1) ((((hi - lo).toNat:Nat):Int) - ((0:Nat):Int)) 1
  rw[e1,e2]
  exact Heap.get?_push_size _ rfl
 ·have e:b=(s.heap.push {cls:=.type "range",data:=.fields #[.int lo t,.int hi u,.int 1 v]}).objs.size:=by simpa using hb
  subst e
  exact I1.fpOk (Nat.le_refl _) (I1.hok.fresh (Nat.le_refl _))
noncomputable def iRng1 (ta:TA):TI:=fun σ H R=>ta σ H fun vs H1=>∃j:Int,vs=[.int j]∧-(2^62)≤j∧j<2^62∧R (Itr 0 j.toNat) H1
noncomputable def iRng2 (ta:TA):TI:=fun σ H R=>ta σ H fun vs H1=>∃i j:Int,vs=[.int i,.int j]∧(-(2^62)≤i∧i<2^62∧-(2^62)≤j∧j<2^62)∧R (Itr i (j - i).toNat) H1
theorem pi_range1 {a:Expr} {ta:TA} {p pos:Pos} (hg:Gl X "range") (hm:X.mg "range"=none) (ha:PA X [a] ta) (hs:starEach [a] X.env=[(false,eval a X.env)]:=by rfl):PI X tg (.Call (.Name "range" p) [a] [] pos) (iRng1 ta):=by
 intro pins s σ H R I h
 refine Call_ (ld_blt I hg hm boot_range (PyProof.Rows.callWith_type1 (thn (ha pos pins s σ H _ I h) fun us s1 hh_=>?_) hs rfl))
 obtain⟨vs,H1,I1,r1,q1⟩:=hh_
 obtain⟨j,e,q1,q2,q⟩:=q1
 subst e
 cases r1 with
 | cons r rr=>
  cases rr
  obtain⟨t,rfl⟩:=r
  exact call_range_1 (range_it I1 (by omega) (by omega) q1 q2 (by simpa using q))
theorem pi_range2 {a b:Expr} {ta:TA} {p pos:Pos} (hg:Gl X "range") (hm:X.mg "range"=none) (ha:PA X [a,b] ta) (hs:starEach [a,b] X.env=[(false,eval a X.env),(false,eval b X.env)]:=by rfl) (hs2:starEach [b] X.env=[(false,eval b X.env)]:=by rfl):
  PI X tg (.Call (.Name "range" p) [a,b] [] pos) (iRng2 ta):=by
 intro pins s σ H R I h
 refine Call_ (ld_blt I hg hm boot_range (PyProof.Rows.callWith_type1 (thn (ha pos pins s σ H _ I h) fun us s1 hh_=>?_) (by rw[hs,hs2]) (by rw[hs2];rfl)))
 obtain⟨vs,H1,I1,r1,q1⟩:=hh_
 obtain⟨i,j,e,⟨q1,q2,q3,q4⟩,q⟩:=q1
 subst e
 cases r1 with
 | cons r rr=>
  cases rr with
  | cons r' rr=>
   cases rr
   obtain⟨t,rfl⟩:=r
   obtain⟨t',rfl⟩:=r'
   exact call_range_2 (range_it I1 q1 q2 q3 q4 q)
noncomputable def tFor (wi:TI) (g:TG) (tb:TS):TS:=fun D σ H=>wi σ H fun J H1=>∃W:Nat→Nat→St→Hp→Prop,(∃m,W 0 m σ H1)∧∀i m σ H,W i m σ H→
 (J.stop i H∧D.nx σ H)∨(J.go i H∧∃N:St→Hp→Prop,(∀σ' H',N σ' H'→∃m',m'<m∧W (i+1) m' σ' H')∧∀x H',J.yld i H x H'→g x σ H' fun σ2 H2=>tb {D with nx:=N,ct:=N,bk:=D.nx} σ2 H2)
noncomputable def pinsAt (fp:List Addr) (h:Heap):List (Addr×Obj):=fp.filterMap fun b=>(h.get? b).map fun o=>(b,o)
theorem mem_pinsAt {fp:List Addr} {h:Heap} {b:Addr} {o:Obj} (hb:b∈fp) (e:h.get? b=some o):(b,o)∈pinsAt fp h:=List.mem_filterMap.mpr ⟨b,hb,by rw[e];rfl⟩
theorem of_pinsAt {fp:List Addr} {h:Heap} {p:Addr×Obj} (hp:p∈pinsAt fp h):p.1∈fp∧h.get? p.1=some p.2:=by
 obtain⟨b,hb,e⟩:=List.mem_filterMap.mp hp
 cases q:h.get? b with
 | none=>rw[q] at e;cases e
 | some o=>
  rw[q] at e
  have e':(b,o)=p:=Option.some.inj e
  subst e'
  exact⟨hb,q⟩
theorem Inv.pinned {pins:List (Addr×Obj)} {σ:St} {H:Hp} {s:Shared} {fp:List Addr} (I:Inv X pins σ H s) (hf:∀b∈fp,FpOk X pins H b) (ho:∀b∈fp,∃o,s.heap.get? b=some o∧∀v,o.data≠.cell v):Inv X (pins++pinsAt fp s.heap) σ H s:=
 I.pins_of fun p hp=>(List.mem_append.mp hp).elim (fun z=>I.pin p (List.mem_append_right _ z)) fun z=>by
  obtain⟨hb,e⟩:=of_pinsAt z
  obtain⟨f0,f1,f2,_⟩:=hf p.1 hb
  obtain⟨o,e',d⟩:=ho p.1 hb
  rw[e] at e';cases e'
  exact⟨e,f0,f1,f2,d⟩
theorem Inv.unpinned {pins pl:List (Addr×Obj)} {σ:St} {H:Hp} {s:Shared} (I:Inv X (pins++pl) σ H s):Inv X pins σ H s:=I.pins_of fun p hp=>I.pin p (List.mem_append_right _ (List.mem_append_left _ hp))
theorem ps_for {iter:Expr} {body:List Stmt} {wi:TI} {g:TG} {tb:TS} {pos:Pos} (hp:PassesOwn (model X.prog X.w) X.A X.env X.xe) (hc:X.calm=true) (hi:PI X tg iter wi) (hg:PG X tg g) (hb:PSs X body tb)
  (hs:∀x,foldedSetIterable iter X.env x=pure x:=by intro _;rfl):PS X (.For tg iter body [] pos) (tFor wi g tb):=by
 intro pins s σ H D I h
 refine wpAny_For (thn (hi pins s σ H _ I h) fun v s1 h1=>thn h1 fun itv s2 h2=>?_) hs
 obtain⟨it,fp,tn,J,H2,e,I2,T,st2,f2,W,⟨m0,w0⟩,turn⟩:=h2
 subst e
 have stat:∀{H':Hp},(∀b∈fp,H' b=none)→∀b∈fp,FpOk X pins H' b:=fun hn b hb=>⟨hn b hb,(f2 b hb).2⟩
 refine codeAny_forLoop_any (fun n s'=>∃i σ' H',Inv X pins σ' H' s'∧tn i s'.heap∧(∀b∈fp,H' b=none)∧W i n σ' H') ?_ m0 ⟨0,σ,H2,I2,st2,fun b hb=>(f2 b hb).1,w0⟩
 rintro n s3 ⟨i,σ3,H3,I3,st3,fr3,w3⟩
 rcases turn i n σ3 H3 w3 with ⟨stop,qn⟩ | ⟨go,N,hN,step⟩
 ·refine wpAny_passesOwn hp (thn (T.done X rfl rfl rfl hc i pins s3 σ3 H3 X.xe I3 (stat fr3) st3 stop) fun r s4 ⟨hr,I4⟩=>?_)
  subst hr
  exact wpAny_execs_nil ⟨σ3,H3,I4,qn⟩
 ·refine wpAny_passesOwn hp (thn (T.item X rfl rfl rfl hc i pins s3 σ3 H3 X.xe I3 (stat fr3) st3 go) fun r s4 ⟨u,hr,h4⟩=>?_)
  subst hr
  refine wpAny_passesOwn hp (thn h4 fun _ s5 hh_=>?_)
  obtain⟨x,H5,I5,r5,y5,st5,fr5⟩:=hh_
  have I5':=I5.pinned (stat fr5) (T.obj _ _ st5)
  refine wpAny_passesOwn hp (thn (hg _ s5 σ3 H5 x u _ I5' r5 (step x H5 y5)) fun _ s6 ⟨σ6,H6,I6,q6⟩=>?_)
  refine wpAny_passesOwn hp (thn (hb _ s6 σ6 H6 _ I6 q6) fun f s7 q7=>?_)
  have again:∀{σ7:St} {H7:Hp},Inv X (pins++pinsAt fp s5.heap) σ7 H7 s7→N σ7 H7→∃m,m<n∧∃i σ' H',Inv X pins σ' H' s7∧tn i s7.heap∧(∀b∈fp,H' b=none)∧W i m σ' H':=fun {σ7 H7} I7 n7=>by
   obtain⟨m',hm,w7⟩:=hN σ7 H7 n7
   refine⟨m',hm,i+1,σ7,H7,I7.unpinned,T.keep _ _ _ st5 fun b hb o e=>(I7.pin (b,o) (List.mem_append_right _ (List.mem_append_right _ (mem_pinsAt hb e)))).1,fun b hb=>?_,w7⟩
   obtain⟨o,e,d⟩:=T.obj _ _ st5 b hb
   exact(I7.pin (b,o) (List.mem_append_right _ (List.mem_append_right _ (mem_pinsAt hb e)))).2.1
  cases f with
  | next=>obtain⟨σ7,H7,I7,n7⟩:=q7;exact again I7 n7
  | cont=>obtain⟨σ7,H7,I7,n7⟩:=q7;exact again I7 n7
  | brk=>obtain⟨σ7,H7,I7,q7⟩:=q7;exact⟨σ7,H7,I7.unpinned,q7⟩
  | ret v=>obtain⟨x7,σ7,H7,I7,r7,q7⟩:=q7;exact⟨x7,σ7,H7,I7.unpinned,r7,q7⟩
end
theorem while_by {c:TT} {tb:TS} {D:Ends} {σ:St} {H:Hp} (Pv:St→Hp→Prop) (μ:St→Hp→Nat) (h0:Pv σ H)
  (hs:∀σ H,Pv σ H→c σ H fun b H1=>if b=true then tb {D with nx:=fun σ' H'=>Pv σ' H'∧μ σ' H'<μ σ H,ct:=fun σ' H'=>Pv σ' H'∧μ σ' H'<μ σ H,bk:=D.nx} σ H1 else D.nx σ H1)
  (mono:∀σ H Q Q',(∀b H1,Q b H1→Q' b H1)→c σ H Q→c σ H Q'):tWhile c tb D σ H:=by
 refine⟨fun m σ H=>m=μ σ H∧Pv σ H,⟨_,rfl,h0⟩,?_⟩
 rintro m σ H ⟨rfl,p⟩
 refine mono σ H _ _ (fun b H1 q=>?_) (hs σ H p)
 cases b with
 | true=>exact⟨_,fun σ' H' ⟨p',l⟩=>⟨_,l,rfl,p'⟩,q⟩
 | false=>exact q
end L2
namespace L2
open PySem PySem.Spec PyProof.Rows
abbrev R2:=V→V→Hp→VK→Prop
noncomputable def OpR (X:Cx) (f:Value→Value→Sem Value) (r:R2):Prop:=
 ∀(pins:List (Addr×Obj)) (s:Shared) (σ:St) (H:Hp) (x y:V) (v u:Value) (Q:VK),Inv X pins σ H s→RelV x v→RelV y u→r x y H Q→
  wpAny (model X.prog X.w) X.A (f v u) (EP X pins σ Q) X.xe s
noncomputable def UnR (X:Cx) (f:Value→Sem Value) (r:V→Hp→VK→Prop):Prop:=
 ∀(pins:List (Addr×Obj)) (s:Shared) (σ:St) (H:Hp) (x:V) (v:Value) (Q:VK),Inv X pins σ H s→RelV x v→r x H Q→
  wpAny (model X.prog X.w) X.A (f v) (EP X pins σ Q) X.xe s
noncomputable def CallR (X:Cx) (f:Value) (r:List V→Hp→VK→Prop):Prop:=
 ∀(pins:List (Addr×Obj)) (s:Shared) (σ:St) (H:Hp) (xs:List V) (us:List Value) (Q:VK),Inv X pins σ H s→Vals xs us→r xs H Q→
  wpAny (model X.prog X.w) X.A (call f us) (EP X pins σ Q) X.xe s
noncomputable def tOp (r:R2) (ta tb:TE):TE:=fun σ H Q=>ta σ H fun x H1=>tb σ H1 fun y H2=>r x y H2 Q
noncomputable def tUn (r:V→Hp→VK→Prop) (ta:TE):TE:=fun σ H Q=>ta σ H fun x H1=>r x H1 Q
noncomputable def rI (C:Int→Int→Prop) (g:Int→Int→V):R2:=fun x y H Q=>∃i j,x=.int i∧y=.int j∧C i j∧Q (g i j) H
noncomputable def rI0 (g:Int→Int→V):R2:=fun x y H Q=>∃i j,x=.int i∧y=.int j∧Q (g i j) H
noncomputable def rU (g:Int→V):V→Hp→VK→Prop:=fun x H Q=>∃i,x=.int i∧Q (g i) H
section
variable {X : Cx} {a b c : Expr} {ta tb tc : TE} {pos : Pos}
theorem binT (ha:PE X a ta) (hb:PE X b tb) {pins:List (Addr×Obj)} {s:Shared} {σ:St} {H:Hp} {R:V→V→Hp→Prop} (I:Inv X pins σ H s)
  (h:ta σ H fun x H1=>tb σ H1 fun y H2=>R x y H2) {Q:Value→Shared→Prop} {f:Value→Value→Sem Value}
  (hf:∀v u s2 x y H2,Inv X pins σ H2 s2→RelV x v→RelV y u→R x y H2→wpAny (model X.prog X.w) X.A (f v u) Q X.xe s2):
  wpAny (model X.prog X.w) X.A (eval a X.env) (fun v s₁=>wpAny (model X.prog X.w) X.A (eval b X.env) (fun u s₂=>wpAny (model X.prog X.w) X.A (f v u) Q X.xe s₂) X.xe s₁) X.xe s:=by
 refine thn (ha pins s σ H _ I h) fun v s1 hh_=>?_
 obtain⟨x,H1,I1,r1,q1⟩:=hh_
 refine thn (hb pins s1 σ H1 _ I1 q1) fun u s2 hh_=>?_
 obtain⟨y,H2,I2,r2,q2⟩:=hh_
 exact hf v u s2 x y H2 I2 r1 r2 q2
theorem pe_op {op:Operator} {r:R2} (ho:OpR X (binaryOp op) r) (ha:PE X a ta) (hb:PE X b tb):PE X (.BinOp a op b pos) (tOp r ta tb):=by
 intro pins s σ H Q I h
 exact wpAny_BinOp (binT ha hb I h fun v u s2 x y H2 I2 rx ry q=>ho pins s2 σ H2 x y v u Q I2 rx ry q)
theorem pe_un {op:UnaryOp} {r:V→Hp→VK→Prop} (ho:UnR X (unaryOp op) r) (ha:PE X a ta):PE X (.UnaryOp op a pos) (tUn r ta):=by
 intro pins s σ H Q I h
 exact UnaryOp_ (thn (ha pins s σ H _ I h) fun v s1 ⟨x,H1,I1,r1,q1⟩=>ho pins s1 σ H1 x v Q I1 r1 q1)
theorem opI {f:Value→Value→Sem Value} {C:Int→Int→Prop} {g:Int→Int→Int}
  (rule:∀(i j:Int) (t u:Tok) (s:Shared) (Q:Value→Shared→Prop) (E:Value→Shared→Prop),C i j→Q (.int (g i j) s.toks) {s with toks:=s.toks+1}→wpAny (model X.prog X.w) X.A (f (.int i t) (.int j u)) Q E s):
  OpR X f (rI C fun i j=>.int (g i j)):=by
 intro pins s σ H x y v u Q I rx ry h
 obtain⟨i,j,rfl,rfl,hc,q⟩:=h
 obtain⟨t,rfl⟩:=rx
 obtain⟨t',rfl⟩:=ry
 exact rule i j t t' s _ _ hc ⟨.int (g i j),H,I.tok _,⟨_,rfl⟩,q⟩
theorem opI0 {f:Value→Value→Sem Value} {g:Int→Int→Int}
  (rule:∀(i j:Int) (t u:Tok) (s:Shared) (Q:Value→Shared→Prop) (E:Value→Shared→Prop),Q (.int (g i j) s.toks) {s with toks:=s.toks+1}→wpAny (model X.prog X.w) X.A (f (.int i t) (.int j u)) Q E s):
  OpR X f (rI0 fun i j=>.int (g i j)):=by
 intro pins s σ H x y v u Q I rx ry h
 obtain⟨i,j,rfl,rfl,q⟩:=h
 obtain⟨t,rfl⟩:=rx
 obtain⟨t',rfl⟩:=ry
 exact rule i j t t' s _ _ ⟨.int (g i j),H,I.tok _,⟨_,rfl⟩,q⟩
theorem opB0 {f:Value→Value→Sem Value} {g:Int→Int→Bool}
  (rule:∀(i j:Int) (t u:Tok) (s:Shared) (Q:Value→Shared→Prop) (E:Value→Shared→Prop),Q (.bool (g i j)) s→wpAny (model X.prog X.w) X.A (f (.int i t) (.int j u)) Q E s):
  OpR X f (rI0 fun i j=>.bl (g i j)):=by
 intro pins s σ H x y v u Q I rx ry h
 obtain⟨i,j,rfl,rfl,q⟩:=h
 obtain⟨t,rfl⟩:=rx
 obtain⟨t',rfl⟩:=ry
 exact rule i j t t' s _ _ ⟨.bl (g i j),H,I,rfl,q⟩
noncomputable def CPow (i j:Int):Prop:=0≤j∧j≤1000000∧i.natAbs<2^64
theorem op_add:OpR X (binaryOp .Add) (rI0 fun i j=>.int (i+j)):=opI0 fun _ _ _ _ _ _ _ q=>add_int q
theorem op_sub:OpR X (binaryOp .Sub) (rI0 fun i j=>.int (i - j)):=opI0 fun _ _ _ _ _ _ _ q=>sub_int q
theorem op_mod:OpR X (binaryOp .Mod) (rI (fun _ j=>0<j) fun i j=>.int (i % j)):=opI fun i j _ _ _ _ _ hc q=>by
 have h1:(0:Int)<j:=hc
 exact mod_int' (by omega) (by rw[Int.fmod_eq_emod_of_nonneg i (by omega)];exact q)
theorem op_pow:OpR X (binaryOp .Pow) (rI CPow fun i j=>.int (i^j.toNat)):=opI fun _ _ _ _ _ _ _ hc q=>pow_int_small hc.1 hc.2.1 hc.2.2 q
theorem unI {f:Value→Sem Value} {g:Int→Int}
  (rule:∀(i:Int) (t:Tok) (s:Shared) (Q:Value→Shared→Prop) (E:Value→Shared→Prop),Q (.int (g i) s.toks) {s with toks:=s.toks+1}→wpAny (model X.prog X.w) X.A (f (.int i t)) Q E s):
  UnR X f (rU fun i=>.int (g i)):=by
 intro pins s σ H x v Q I rx h
 obtain⟨i,rfl,q⟩:=h
 obtain⟨t,rfl⟩:=rx
 exact rule i t s _ _ ⟨.int (g i),H,I.tok _,⟨_,rfl⟩,q⟩
theorem un_neg:UnR X (unaryOp .USub) (rU fun i=>.int (-i)):=unI fun _ _ _ _ _ q=>neg_int q
end
noncomputable def scal:V→V→Bool
 | .non,.non=>true | .non,.int _=>true | .int _,.non=>true | .non,.bl _=>true | .bl _,.non=>true | .non,.str _=>true | .str _,.non=>true
 | .int _,.int _=>true | .bl _,.bl _=>true | .str _,.str _=>true | .byt _,.byt _=>true
 | .int _,.str _=>true | .str _,.int _=>true | .bl _,.str _=>true | .str _,.bl _=>true
 | _,_=>false
noncomputable def rEq:R2:=fun x y H Q=>scal x y=true∧Q (.bl (decide (x=y))) H
noncomputable def rNe:R2:=fun x y H Q=>scal x y=true∧Q (.bl (!decide (x=y))) H
theorem dec_int {i j:Int}:decide (V.int i=V.int j)=(i==j):=by
 rw[Bool.eq_iff_iff]
 simp
theorem dec_bl {i j:Bool}:decide (V.bl i=V.bl j)=(i==j):=by
 rw[Bool.eq_iff_iff]
 simp
theorem dec_str {i j:Str}:decide (V.str i=V.str j)=(i==j):=by
 rw[Bool.eq_iff_iff]
 simp
theorem dec_byt {i j:Array UInt8}:decide (V.byt i=V.byt j)=(i.toList==j.toList):=by
 rw[Bool.eq_iff_iff]
 cases i
 cases j
 simp
section
variable {X : Cx} {a b c : Expr} {ta tb tc : TE} {pos : Pos}
theorem fin_bl {pins:List (Addr×Obj)} {σ:St} {H:Hp} {s:Shared} {Q:VK} {k k':Bool} (I:Inv X pins σ H s) (q:Q (.bl k) H) (e:k=k'):EP X pins σ Q (.bool k') s:=by
 subst e
 exact⟨.bl k,H,I,rfl,q⟩
theorem op_eq:OpR X (compareOp .Eq) rEq:=by
 intro pins s σ H x y v u Q I rx ry h
 obtain⟨hs,q⟩:=h
 cases x with
 | non=>
  cases rx
  cases y with
  | non=>cases ry;exact PySem.EqNone.eq_none_none (fin_bl I q (by simp))
  | bl j=>cases ry;exact PySem.EqNone.eq_none_bool (fin_bl I q (by simp))
  | int j=>obtain⟨t',rfl⟩:=ry;exact PySem.EqNone.eq_none_int (fin_bl I q (by simp))
  | str j=>obtain⟨t',rfl⟩:=ry;exact PySem.EqNone.eq_none_str (fin_bl I q (by simp))
  | _=>exact absurd (show false=true from hs) Bool.false_ne_true
 | bl i=>
  cases rx
  cases y with
  | non=>cases ry;exact PySem.EqNone.eq_bool_none (fin_bl I q (by simp))
  | bl j=>cases ry;exact eq_bool (fin_bl I q dec_bl)
  | str j=>obtain⟨t',rfl⟩:=ry;exact PySem.EqMixed.eq_bool_str (fin_bl I q (by simp))
  | _=>exact absurd (show false=true from hs) Bool.false_ne_true
 | int i=>
  obtain⟨t,rfl⟩:=rx
  cases y with
  | non=>cases ry;exact PySem.EqNone.eq_int_none (fin_bl I q (by simp))
  | int j=>obtain⟨t',rfl⟩:=ry;exact eq_int (fin_bl I q dec_int)
  | str j=>obtain⟨t',rfl⟩:=ry;exact PySem.EqMixed.eq_int_str (fin_bl I q (by simp))
  | _=>exact absurd (show false=true from hs) Bool.false_ne_true
 | str i=>
  obtain⟨t,rfl⟩:=rx
  cases y with
  | non=>cases ry;exact PySem.EqNone.eq_str_none (fin_bl I q (by simp))
  | bl j=>cases ry;exact PySem.EqMixed.eq_str_bool (fin_bl I q (by simp))
  | int j=>obtain⟨t',rfl⟩:=ry;exact PySem.EqMixed.eq_str_int (fin_bl I q (by simp))
  | str j=>obtain⟨t',rfl⟩:=ry;exact eq_str (fin_bl I q dec_str)
  | _=>exact absurd (show false=true from hs) Bool.false_ne_true
 | byt i=>
  obtain⟨t,rfl⟩:=rx
  cases y with
  | byt j=>obtain⟨t',rfl⟩:=ry;exact PySem.W.eq_bytes (fin_bl I q dec_byt)
  | _=>exact absurd (show false=true from hs) Bool.false_ne_true
 | _=>cases y <;>exact absurd (show false=true from hs) Bool.false_ne_true
theorem op_ne:OpR X (compareOp .NotEq) rNe:=by
 intro pins s σ H x y v u Q I rx ry h
 obtain⟨hs,q⟩:=h
 cases x with
 | non=>
  cases rx
  cases y with
  | non=>cases ry;exact PySem.EqNone.ne_none_none (fin_bl I q (by simp))
  | bl j=>cases ry;exact PySem.EqNone.ne_none_bool (fin_bl I q (by simp))
  | int j=>obtain⟨t',rfl⟩:=ry;exact PySem.EqNone.ne_none_int (fin_bl I q (by simp))
  | str j=>obtain⟨t',rfl⟩:=ry;exact PySem.EqNone.ne_none_str (fin_bl I q (by simp))
  | _=>exact absurd (show false=true from hs) Bool.false_ne_true
 | bl i=>
  cases rx
  cases y with
  | non=>cases ry;exact PySem.EqNone.ne_bool_none (fin_bl I q (by simp))
  | bl j=>cases ry;exact ne_bool (fin_bl I q (congrArg not dec_bl))
  | str j=>obtain⟨t',rfl⟩:=ry;exact PySem.EqMixed.ne_bool_str (fin_bl I q (by simp))
  | _=>exact absurd (show false=true from hs) Bool.false_ne_true
 | int i=>
  obtain⟨t,rfl⟩:=rx
  cases y with
  | non=>cases ry;exact PySem.EqNone.ne_int_none (fin_bl I q (by simp))
  | int j=>obtain⟨t',rfl⟩:=ry;exact ne_int (fin_bl I q (congrArg not dec_int))
  | str j=>obtain⟨t',rfl⟩:=ry;exact PySem.EqMixed.ne_int_str (fin_bl I q (by simp))
  | _=>exact absurd (show false=true from hs) Bool.false_ne_true
 | str i=>
  obtain⟨t,rfl⟩:=rx
  cases y with
  | non=>cases ry;exact PySem.EqNone.ne_str_none (fin_bl I q (by simp))
  | bl j=>cases ry;exact PySem.EqMixed.ne_str_bool (fin_bl I q (by simp))
  | int j=>obtain⟨t',rfl⟩:=ry;exact PySem.EqMixed.ne_str_int (fin_bl I q (by simp))
  | str j=>obtain⟨t',rfl⟩:=ry;exact ne_str (fin_bl I q (congrArg not dec_str))
  | _=>exact absurd (show false=true from hs) Bool.false_ne_true
 | byt i=>
  obtain⟨t,rfl⟩:=rx
  cases y with
  | byt j=>obtain⟨t',rfl⟩:=ry;exact PySem.W.ne_bytes (fin_bl I q (congrArg not dec_byt))
  | _=>exact absurd (show false=true from hs) Bool.false_ne_true
 | _=>cases y <;>exact absurd (show false=true from hs) Bool.false_ne_true
theorem op_lt:OpR X (compareOp .Lt) (rI0 fun i j=>.bl (decide (i<j))):=opB0 fun _ _ _ _ _ _ _ q=>lt_int q
theorem op_le:OpR X (compareOp .LtE) (rI0 fun i j=>.bl (decide (i≤j))):=opB0 fun _ _ _ _ _ _ _ q=>le_int q
theorem op_gt:OpR X (compareOp .Gt) (rI0 fun i j=>.bl (decide (j<i))):=opB0 fun _ _ _ _ _ _ _ q=>gt_int q
theorem op_ge:OpR X (compareOp .GtE) (rI0 fun i j=>.bl (decide (j≤i))):=opB0 fun _ _ _ _ _ _ _ q=>ge_int q
theorem op_in_str:OpR X (compareOp .In) (fun x y H Q=>∃i j,x=.str i∧y=.str j∧Q (.bl (!(Builtin.Str.occurrences j i 0 j.length 1).isEmpty)) H):=by
 intro pins s σ H x y v u Q I rx ry h
 obtain⟨i,j,rfl,rfl,q⟩:=h
 obtain⟨t,rfl⟩:=rx
 obtain⟨t',rfl⟩:=ry
 exact in_str (fin_bl I q rfl)
theorem op_isN:OpR X (compareOp .Is) (fun x y H Q=>y=.non∧Q (.bl (decide (x=.non))) H):=by
 intro pins s σ H x y v u Q I rx ry h
 obtain⟨rfl,q⟩:=h
 cases ry
 refine is_none_gen (fin_bl I q ?_)
 cases x <;>first
  | (cases rx;rfl)
  | (obtain⟨t,rfl⟩:=rx;rfl)
theorem nomark (b:Expr) {op:CmpOp} (h:op≠.In:=by decide) (h2:op≠.NotIn:=by decide):behindInMarks op b=false:=by
 have e1:(op==CmpOp.In)=false:=by cases op <;>first | rfl | exact absurd rfl h
 have e2:(op==CmpOp.NotIn)=false:=by cases op <;>first | rfl | exact absurd rfl h2
 cases b <;>simp [behindInMarks,e1,e2]
theorem pe_cmpR {op:CmpOp} {r:R2} (ho:OpR X (compareOp op) r) (ha:PE X a ta) (hb:PE X b tb) (hm:behindInMarks op b=false):PE X (.Compare a [op] [b] pos) (tOp r ta tb):=by
 intro pins s σ H Q I h
 exact wpAny_Compare1 (binT ha hb I h fun v u s2 x y H2 I2 rx ry q=>ho pins s2 σ H2 x y v u Q I2 rx ry q) hm
noncomputable def tTest (t:TE):TT:=fun σ H Q=>t σ H fun x H'=>∃k,x=.bl k∧Q k H'
theorem pt_cmpR {op:CmpOp} {r:R2} (ho:OpR X (compareOp op) r) (ha:PE X a ta) (hb:PE X b tb) (hm:behindInMarks op b=false):PT X (.Compare a [op] [b] pos) (tTest (tOp r ta tb)):=by
 intro pins s σ H Q I h
 refine wpAny_isTrue_Compare1 (thn (ha pins s σ H _ I h) fun v s1 ⟨x,H1,I1,r1,q1⟩=>thn (hb pins s1 σ H1 _ I1 q1) fun u s2 ⟨y,H2,I2,r2,q2⟩=>
  thn (ho pins s2 σ H2 x y v u _ I2 r1 r2 q2) fun c s3 ⟨z,H3,I3,r3,k,e,q3⟩=>?_) hm
 subst e
 cases r3
 exact wpAny_truthy_bool ⟨H3,I3,q3⟩
noncomputable def tChain (r r':R2) (ta tb tc:TE):TE:=fun σ H Q=>ta σ H fun x H1=>tb σ H1 fun y H2=>r x y H2 fun z H3=>∃k,z=.bl k∧
 (if k=true then tc σ H3 fun w' H4=>r' y w' H4 Q else Q (.bl false) H3)
theorem pe_chain {op op':CmpOp} {r r':R2} (ho:OpR X (compareOp op) r) (ho':OpR X (compareOp op') r') (ha:PE X a ta) (hb:PE X b tb) (hc:PE X c tc)
  (hm:lastMarks [op,op'] [b,c]=false:=by with_unfolding_all rfl):PE X (.Compare a [op,op'] [b,c] pos) (tChain r r' ta tb tc):=by
 intro pins s σ H Q I h
 refine Compare_chain (thn (ha pins s σ H _ I h) fun v s1 ⟨x,H1,I1,r1,q1⟩=>chain_link (thn (hb pins s1 σ H1 _ I1 q1) fun u s2 ⟨y,H2,I2,r2,q2⟩=>
  thn (ho pins s2 σ H2 x y v u _ I2 r1 r2 q2) fun d s3 ⟨z,H3,I3,r3,k,e,q3⟩=>?_)) hm
 subst e
 cases r3
 refine wpAny_truthy_bool ?_
 cases k with
 | false=>exact ite_ff ⟨.bl false,H3,I3,rfl,q3⟩
 | true=>exact ite_tt (chain_last (thn (hc pins s3 σ H3 _ I3 q3) fun w' s4 ⟨z',H4,I4,r4,q4⟩=>ho' pins s4 σ H4 y z' u w' Q I4 r2 r4 q4))
theorem pt_chain {op op':CmpOp} {r r':R2} (ho:OpR X (compareOp op) r) (ho':OpR X (compareOp op') r') (ha:PE X a ta) (hb:PE X b tb) (hc:PE X c tc)
  (hm:lastMarks [op,op'] [b,c]=false:=by with_unfolding_all rfl):PT X (.Compare a [op,op'] [b,c] pos) (tTest (tChain r r' ta tb tc)):=by
 intro pins s σ H Q I h
 refine isTrue_chain (thn (ha pins s σ H _ I h) fun v s1 ⟨x,H1,I1,r1,q1⟩=>test_link (thn (hb pins s1 σ H1 _ I1 q1) fun u s2 ⟨y,H2,I2,r2,q2⟩=>
  thn (ho pins s2 σ H2 x y v u _ I2 r1 r2 q2) fun d s3 ⟨z,H3,I3,r3,k,e,q3⟩=>?_)) hm
 subst e
 cases r3
 refine wpAny_truthy_bool ?_
 cases k with
 | false=>
  obtain⟨k',e',q'⟩:=q3
  cases e'
  exact ite_ff ⟨H3,I3,q'⟩
 | true=>
  refine ite_tt (test_last (thn (hc pins s3 σ H3 _ I3 q3) fun w' s4 ⟨z',H4,I4,r4,q4⟩=>thn (ho' pins s4 σ H4 y z' u w' _ I4 r2 r4 q4) fun d' s5 hh_=>?_))
  obtain⟨z2,H5,I5,r5,k2,e2,q5⟩:=hh_
  subst e2
  cases r5
  exact wpAny_truthy_bool ⟨H5,I5,q5⟩
theorem line63:(sizeLine:Nat)<2^63:=by rw[sizeLine_eq];decide
theorem op_add_str:OpR X (binaryOp .Add) (fun x y H Q=>∃i j,x=.str i∧y=.str j∧i.length+j.length≤sizeLine∧Q (.str (i++j)) H):=by
 intro pins s σ H x y v u Q I rx ry h
 obtain⟨i,j,rfl,rfl,hz,q⟩:=h
 obtain⟨t,rfl⟩:=rx
 obtain⟨t',rfl⟩:=ry
 exact add_str (fun t' tk=>⟨.str (i++j),H,I.tok _,⟨_,rfl⟩,q⟩) hz
theorem vals1 {x:V} {us:List Value} (r:Vals [x] us):∃u,us=[u]∧RelV x u:=by
 cases r with
 | cons r1 r2=>cases r2;exact⟨_,rfl,r1⟩
theorem vals2 {x y:V} {us:List Value} (r:Vals [x,y] us):∃u w',us=[u,w']∧RelV x u∧RelV y w':=by
 cases r with
 | cons r1 r2=>
  cases r2 with
  | cons r3 r4=>cases r4;exact⟨_,_,rfl,r1,r3⟩
theorem call_abs:CallR X (.builtin "abs") (fun xs H Q=>∃i,xs=[.int i]∧Q (.int (if i<0 then -i else i)) H):=by
 intro pins s σ H xs us Q I r h
 obtain⟨i,rfl,q⟩:=h
 obtain⟨u,rfl,t,rfl⟩:=vals1 r
 exact call_abs_int fun u tk=>⟨.int (if i<0 then -i else i),H,I.tok _,⟨_,rfl⟩,q⟩
theorem call_max2 (hc:X.calm=true):CallR X (.builtin "max") (fun xs H Q=>∃i j,xs=[.int i,.int j]∧Q (.int (if j >i then j else i)) H):=by
 intro pins s σ H xs us Q I r h
 obtain⟨i,j,rfl,q⟩:=h
 obtain⟨u,w',rfl,⟨t,rfl⟩,⟨t',rfl⟩⟩:=vals2 r
 refine max_two_ints (I.ok.hd hc) fun h' tk k=>⟨_,H,I.kept k,?_,q⟩
 by_cases hj:j >i
 ·rw[if_pos hj,if_pos hj];exact⟨_,rfl⟩
 ·rw[if_neg hj,if_neg hj];exact⟨_,rfl⟩
theorem call_min2 (hc:X.calm=true):CallR X (.builtin "min") (fun xs H Q=>∃i j,xs=[.int i,.int j]∧Q (.int (if j<i then j else i)) H):=by
 intro pins s σ H xs us Q I r h
 obtain⟨i,j,rfl,q⟩:=h
 obtain⟨u,w',rfl,⟨t,rfl⟩,⟨t',rfl⟩⟩:=vals2 r
 refine min_two_ints (I.ok.hd hc) fun h' tk k=>⟨_,H,I.kept k,?_,q⟩
 by_cases hj:j<i
 ·rw[if_pos hj,if_pos hj];exact⟨_,rfl⟩
 ·rw[if_neg hj,if_neg hj];exact⟨_,rfl⟩
theorem call_int1:CallR X (.type "int") (fun xs H Q=>(∃i,xs=[.int i]∧Q (.int i) H)∨∃k,xs=[.bl k]∧Q (.int (if k then 1 else 0)) H):=by
 intro pins s σ H xs us Q I r h
 rcases h with ⟨i,rfl,q⟩ | ⟨k,rfl,q⟩
 ·obtain⟨u,rfl,t,rfl⟩:=vals1 r
  exact call_int_int ⟨.int i,H,I,⟨_,rfl⟩,q⟩
 ·obtain⟨u,rfl,r1⟩:=vals1 r
  cases r1
  exact call_int_bool ⟨.int (if k then 1 else 0),H,I.tok _,⟨_,rfl⟩,q⟩
theorem call_str_int:CallR X (.type "str") (fun xs H Q=>∃i,xs=[.int i]∧i.natAbs.log2<1920∧Q (.str (toString i)) H):=by
 intro pins s σ H xs us Q I r h
 obtain⟨i,rfl,hz,q⟩:=h
 obtain⟨u,rfl,t,rfl⟩:=vals1 r
 exact PySem.P.str_of_int hz ⟨.str _,H,I.tok _,⟨_,rfl⟩,q⟩
end
end L2
namespace L2
open PySem PySem.Spec PyProof.Rows
structure ObjM (h:Heap) (x dx C:Addr) (mA:Str→Option Value):Prop where
 obj:h.get? x=some (PySem.W.instObj C dx)
 ns:h.Ns1 dx mA
 ne:dx≠x
set_option tactic.hygienic true in
theorem lookIn_ns {h:Heap} {dx:Addr} {mA:Str→Option Value} (n:h.Ns1 dx mA):∃od,h.get? dx=some od∧∀name,PySem.W.lookIn name od=some (mA name):=by
 obtain⟨o,es,ep,ho,hd,hk,_,hm⟩:=n
 refine⟨o,ho,fun name=>?_⟩
 have e:=hm name
 unfold nsFind findBy at e
 rw[←Array.find?_toList] at e
 unfold PySem.W.lookIn
 rw[hd]
 dsimp only
 split
 ·rename_i y q
  rw[q] at e
  exact congrArg some e
 ·rename_i q
  rw[q] at e
  have a:es.toList.any (·.refKey)=false:=by
   rw[List.any_eq_false]
   intro y hy
   obtain⟨z,t,hkey⟩:=hk y (Array.mem_toList_iff.mp hy)
   simp [DictEntry.refKey,hkey]
  have a':¬es.toList.any (·.refKey)=true:=by rw[a];exact Bool.false_ne_true
  rw[if_neg a']
  exact congrArg some e
theorem ObjM.look {h:Heap} {x dx C:Addr} {mA:Str→Option Value} (I:ObjM h x dx C mA):∃od,PySem.W.InstAt h x (PySem.W.instObj C dx) C (some od)∧∀name,PySem.W.lookIn name od=some (mA name):=
 let ⟨od,ho,hl⟩:=lookIn_ns I.ns
 ⟨od,⟨I.obj,rfl,rfl,ho⟩,hl⟩
section
variable {prog : Program} {w : World} {A : Around} {E : Value → Shared → Prop} {s : Shared} {K : PySem.W.Frag} {x dx C f : Addr} {mA : Str → Option Value} {name : Str} {v : Value}
theorem get_map {expr:Bool} {Q:Value→Shared→Prop} (X:K.In s.heap) (I:ObjM s.heap x dx C mA) (hg:PySem.W.plainGet K C name=true) (hh:PySem.W.hasDictIn K C=true)
  (ha:PySem.W.findIn K (.ref C) name=some none) (hv:mA name=some v) (hv':PySem.W.handedIn v=true) (h:Q v {s with toks:=s.toks+1}):
  wpAny (model prog w) A (getAttr (.ref x) name expr) Q E s:=by
 obtain⟨od,J,hl⟩:=I.look
 exact PySem.W.get_value X J (PySem.W.plainGet_of hg).1 (PySem.W.findObj_own hh ha rfl (by rw[hl,hv])) hv' h
theorem get_meth {pl:Sem Bool} {Q:Value×List Value→Shared→Prop} (X:K.In s.heap) (I:ObjM s.heap x dx C mA) (hg:PySem.W.plainGet K C name=true)
  (hf:PySem.W.findIn K (.ref C) name=some (some (.ref f))) (ht:PySem.W.isFn K (.ref f)=true) (hv:mA name=none) (h:Q (.ref f,[.ref x]) s):
  wpAny (model prog w) A (getMethod (.ref x) name pl) Q E s:=by
 obtain⟨od,J,hl⟩:=I.look
 exact PySem.W.method_fn X J (PySem.W.plainGet_of hg).1 (PySem.W.plainGet_of hg).2 hf (beq_iff_eq.mp ht) (by show(PySem.W.lookIn name od).map (·.isSome)=some false;rw[hl,hv];rfl) h
theorem set_map {ns:List Str} {Q:Unit→Shared→Prop} (X:K.In s.heap) (I:ObjM s.heap x dx C mA)
  (hs:PySem.W.findIn K (.ref C) "__setattr__"=some (some (.builtin "object.__setattr__"))) (hp:PySem.W.plainOver K C=true) (ht:PySem.W.takerIn K C name=some none) (hh:PySem.W.hasDictIn K C=true)
  (hw:PySem.Within mA ns) (hsz:ns.length≤sizeLine)
  (h:∀h',ObjM h' x dx C (fun y=>if y=name then some v else mA y)→Heap.SameBut dx s.heap h'→Q () {s with heap:=h',toks:=s.toks+2}):
  wpAny (model prog w) A (setAttr (.ref x) name v) Q E s:=by
 obtain⟨od,J,hl⟩:=I.look
 refine PySem.W.set_plain X J hs (PySem.W.osa_open (s:={s with toks:=s.toks+1}) (r:=none) X J hp ht fun b=>?_)
 obtain⟨cd,hc,hd'⟩:=PySem.W.any_some hh
 have hx:s.heap.get? x=some ⟨.ref C,some dx,.plain,#[]⟩:=I.obj
 refine wpAny_bind (wpAny_pure (wpAny_bind (wpAny_bind (wpAny_loadPart hx (wpAny_bind (PySem.W.Looks.here (s:={s with toks:=s.toks+1}) (PySem.W.looks_clsIn X hc) ?_))))))
 rw[hd']
 refine wpAny_pure (a:=some dx) (wpAny_bind (wpAny_pure (wpAny_bind ?_)))
 refine wpAny_nsSet1 (s:={s with toks:=s.toks+1}) I.ns fun h' hn2 hs2=>?_
 obtain⟨oD,esD,epD,hoD,hdD,hcD⟩:=hn2.count (PySem.Within.cons name v hw)
 refine wpAny_bind (wpAny_lookBehind hoD (by rw[hdD];exact pastItsLine_dict (Nat.le_trans hcD (by rw[List.length_cons];omega))) ?_)
 exact wpAny_pure (h _ ⟨(hs2.2 _ (Ne.symm I.ne)).trans I.obj,hn2,I.ne⟩ hs2)
theorem make_map {R:Result→Shared→Prop} {vs:List Value} {kw:List (Str×Value)} (X:K.In s.heap) (hm:PySem.W.makesIn K C=true)
  (hi:PySem.W.findIn K (.ref C) "__init__"=some (some (.ref f))) (hf:PySem.W.typeIn K (.ref f)=some (.type "function"))
  (h:codeAny (model prog w) (A.under (.builtin "type.__call__" ⟨.ref C::vs,kw⟩)) (.call (.ref f) ⟨.ref (s.heap.objs.size+1)::vs,kw⟩) (PySem.W.InitBack (s.heap.objs.size+1) R)
   {s with heap:=(s.heap.push PySem.W.emptyDict).push (PySem.W.instObj C s.heap.objs.size)}):
  codeAny (model prog w) A (.call (.ref C) ⟨vs,kw⟩) R s:=by
 obtain⟨hh,g,d,t,os⟩:=s
 exact PySem.W.make_core (PySem.W.makes_of X hm) (PySem.W.looks_findIn X hi) (fun self=>PySem.W.bind_fn X self hf) (.inl rfl) h
end
noncomputable def putF (f:Str) (v:V):List (Str×V)→List (Str×V)
 | []=>[(f,v)]
 | (g,x)::r=>if g=f then (g,v)::r else (g,x)::putF f v r
theorem lookup_putF (f g:Str) (v:V):∀fs:List (Str×V),(putF f v fs).lookup g=if g=f then some v else fs.lookup g
 | []=>by
  show List.lookup g [(f,v)]=_
  by_cases h:g=f
  ·have hb:(g==f)=true:=beq_iff_eq.mpr h
   simp only[List.lookup,hb,if_pos h]
  ·have hb:(g==f)=false:=beq_eq_false_iff_ne.mpr h
   simp only[List.lookup,hb,if_neg h]
 | (k,x)::r=>by
  have ih:=lookup_putF f g v r
  rw[show putF f v ((k,x)::r)=(if k=f then (k,v)::r else (k,x)::putF f v r) from rfl]
  by_cases hk:k=f
  ·rw[if_pos hk]
   by_cases h:g=k
   ·have hb:(g==k)=true:=beq_iff_eq.mpr h
    simp only[List.lookup,hb,if_pos (h.trans hk)]
   ·have hb:(g==k)=false:=beq_eq_false_iff_ne.mpr h
    simp only[List.lookup,hb,if_neg (fun e:g=f=>h (e.trans hk.symm))]
  ·rw[if_neg hk]
   by_cases h:g=k
   ·have hb:(g==k)=true:=beq_iff_eq.mpr h
    simp only[List.lookup,hb,if_neg (fun e:g=f=>hk (h.symm.trans e))]
   ·have hb:(g==k)=false:=beq_eq_false_iff_ne.mpr h
    simp only[List.lookup,hb]
    exact ih
theorem keys_putF (f:Str) (v:V):∀fs:List (Str×V),f∈(putF f v fs).map (·.1)∧∀g,g∈fs.map (·.1)→g∈(putF f v fs).map (·.1)
 | []=>⟨by simp [putF],fun g h=>by simp at h⟩
 | (k,x)::r=>by
  obtain⟨i1,i2⟩:=keys_putF f v r
  rw[show putF f v ((k,x)::r)=(if k=f then (k,v)::r else (k,x)::putF f v r) from rfl]
  by_cases hk:k=f
  ·rw[if_pos hk]
   subst hk
   exact⟨by simp,fun g h=>by simpa using h⟩
  ·rw[if_neg hk]
   refine⟨?_,fun g h=>?_⟩
   ·rw[List.map_cons]
    exact List.mem_cons_of_mem _ i1
   ·rw[List.map_cons] at h ⊢
    rcases List.mem_cons.mp h with e | e
    ·exact List.mem_cons.mpr (.inl e)
    ·exact List.mem_cons_of_mem _ (i2 g e)
theorem length_putF (f:Str) (v:V):∀fs:List (Str×V),(putF f v fs).length≤fs.length+1
 | []=>by simp [putF]
 | (k,x)::r=>by
  have ih:=length_putF f v r
  rw[show putF f v ((k,x)::r)=(if k=f then (k,v)::r else (k,x)::putF f v r) from rfl]
  by_cases hk:k=f
  ·rw[if_pos hk,List.length_cons,List.length_cons];omega
  ·rw[if_neg hk,List.length_cons,List.length_cons];omega
theorem RelO.some_of {v:V} {o:Option Value} (r:RelO (some v) o):∃u,o=some u∧RelV v u:=by
 cases o with
 | none=>exact(show False from r).elim
 | some u=>exact⟨u,rfl,r⟩
theorem RelO.none_of {o:Option Value} (r:RelO none o):o=none:=by
 cases o with
 | none=>rfl
 | some u=>exact(show False from r).elim
theorem handed_of {v:V} {u:Value} (r:RelV v u):PySem.W.handedIn u=true:=by
 cases v with
 | non=>cases (show u=Value.none from r);rfl
 | bl b=>cases (show u=Value.bool b from r);rfl
 | int i=>obtain⟨t,e⟩:=(show ∃t,u=Value.int i t from r);cases e;rfl
 | str x=>obtain⟨t,e⟩:=(show ∃t,u=Value.str x t from r);cases e;rfl
 | byt b=>obtain⟨t,e⟩:=(show ∃t,u=Value.bytes b t from r);cases e;rfl
 | flt b=>obtain⟨t,e⟩:=(show ∃t,u=Value.float b t from r);cases e;rfl
 | ref a=>cases (show u=Value.ref a from r);rfl
 | ty n=>cases (show u=Value.type n from r);rfl
section
variable {P : Program} {w : World} {H H' : Hp} {h h' : Heap} {a C dx : Addr} {fs fs' : List (Str × V)}
theorem ins_get (hok:HOk P w H h) (e:H a=some (.ins C dx fs)):∃mA,ObjM h a dx C mA∧(∀f,RelO (fs.lookup f) (mA f))∧PySem.Within mA (fs.map (·.1))∧fs.length≤1000∧H dx=some (.own a):=by
 obtain⟨d,z,ne,ob,mA,n,r,q⟩:=(show ObjOk P w H h a (.ins C dx fs) from hok a _ e)
 exact⟨mA,⟨ob,n,ne⟩,r,q,z,d⟩
end
structure Cls (K:PySem.W.Frag) (C:Addr):Prop where
 pg:PySem.W.plainGet K C Str.empty=true
 hd:PySem.W.hasDictIn K C=true
 po:PySem.W.plainOver K C=true
 sa:PySem.W.findIn K (.ref C) "__setattr__"=some (some (.builtin "object.__setattr__"))
theorem Cls.get {K:PySem.W.Frag} {C:Addr} (c:Cls K C) (f:Str):PySem.W.plainGet K C f=true:=c.pg
noncomputable def NoAttr (K:PySem.W.Frag) (C:Addr) (f:Str):Prop:=PySem.W.findIn K (.ref C) f=some none
theorem NoAttr.taker {K:PySem.W.Frag} {C:Addr} {f:Str} (n:NoAttr K C f):PySem.W.takerIn K C f=some none:=by
 unfold PySem.W.takerIn
 rw[show PySem.W.findIn K (.ref C) f=some none from n]
 rfl
structure Con (K:PySem.W.Frag) (C:Addr) (f:Str) (v:V) (u:Value):Prop where
 at_:PySem.W.findIn K (.ref C) f=some (some u)
 rel:RelV v u
 get:PySem.W.specialIn K u "__get__"=some none
 cp:PySem.W.copiedNames.contains f=false
structure Meth (K:PySem.W.Frag) (C:Addr) (m:Str) (f:Addr):Prop where
 at_:PySem.W.findIn K (.ref C) m=some (some (.ref f))
 fn:PySem.W.isFn K (.ref f)=true
 kp:PySem.W.keepIn K (.ref f)=true
section
variable {X : Cx} {pins : List (Addr × Obj)} {σ : St} {H : Hp} {s : Shared} {a C dx : Addr} {fs : List (Str × V)} {f : Str} {v : V} {A : Around} {E : Value → Shared → Prop}
theorem getattr_ok {b:Bool} {Q:Value→Shared→Prop} (I:Inv X pins σ H s) (e:H a=some (.ins C dx fs)) (c:Cls X.K C) (n:NoAttr X.K C f) (l:fs.lookup f=some v)
  (h:∀u s',Inv X pins σ H s'→RelV v u→Q u s'):wpAny (model X.prog X.w) A (getAttr (.ref a) f b) Q E s:=by
 obtain⟨mA,O,r,_,_,_⟩:=ins_get I.hok e
 obtain⟨u,hu,ru⟩:=RelO.some_of (v:=v) (o:=mA f) (by rw[←l];exact r f)
 exact get_map I.kIn O (c.get f) c.hd n hu (handed_of ru) (h u _ (I.tok _) ru)
theorem getmeth_ok {m:Str} {g:Addr} {pl:Sem Bool} {Q:Value×List Value→Shared→Prop} (I:Inv X pins σ H s) (e:H a=some (.ins C dx fs)) (c:Cls X.K C) (k:Meth X.K C m g) (l:fs.lookup m=none)
  (h:Q (.ref g,[.ref a]) s):wpAny (model X.prog X.w) A (getMethod (.ref a) m pl) Q E s:=by
 obtain⟨mA,O,r,_,_,_⟩:=ins_get I.hok e
 have hn:mA m=none:=RelO.none_of (by rw[←l];exact r m)
 exact get_meth I.kIn O (c.get m) k.at_ k.fn hn h
theorem setattr_ok {y:V} {u:Value} {Q:Unit→Shared→Prop} (I:Inv X pins σ H s) (e:H a=some (.ins C dx fs)) (c:Cls X.K C) (n:NoAttr X.K C f) (hl:fs.length<1000) (ry:RelV y u)
  (h:∀s',Inv X pins σ (upd H a (.ins C dx (putF f y fs))) s'→Q () s'):wpAny (model X.prog X.w) A (setAttr (.ref a) f u) Q E s:=by
 obtain⟨mA,O,r,wi,_,ho⟩:=ins_get I.hok e
 have hz:(fs.map (·.1)).length≤sizeLine:=by rw[List.length_map,sizeLine_eq];omega
 refine set_map I.kIn O c.sa c.po n.taker c.hd wi hz fun h' O' sb=>h _ ?_
 have hd:∃o,h'.get? dx=some o:=let ⟨o,_,_,e',_⟩:=O'.ns;⟨o,e'⟩
 refine I.write (x:=a) (e:=dx) (by rw[e];exact True.intro) (.inr ho) (fun b q hb z=>(sb.2 b hb).trans z) hd ?_
 refine⟨by rw[upd_ne O.ne];exact ho,?_,O.ne,O'.obj,_,O'.ns,fun g=>?_,fun g hg=>?_⟩
 ·have:=length_putF f y fs;omega
 ·show RelO ((putF f y fs).lookup g) (if g=f then some u else mA g)
  rw[lookup_putF]
  by_cases q:g=f
  ·rw[if_pos q,if_pos q];exact ry
  ·rw[if_neg q,if_neg q];exact r g
 ·by_cases q:g=f
  ·rw[q];exact(keys_putF f y fs).1
  ·refine(keys_putF f y fs).2 g (wi g fun z=>hg ?_)
   show(if g=f then some u else mA g)=none
   rw[if_neg q];exact z
theorem Inv.made (I:Inv X pins σ H s):Inv X pins σ (upd (upd H s.heap.objs.size (.own (s.heap.objs.size+1))) (s.heap.objs.size+1) (.ins C s.heap.objs.size []))
  {s with heap:=(s.heap.push PySem.W.emptyDict).push (PySem.W.instObj C s.heap.objs.size)}:=by
 have e1:(s.heap.push PySem.W.emptyDict).get? s.heap.objs.size=some PySem.W.emptyDict:=Heap.get?_push_size s.heap rfl
 have e2:((s.heap.push PySem.W.emptyDict).push (PySem.W.instObj C s.heap.objs.size)).get? (s.heap.objs.size+1)=some (PySem.W.instObj C s.heap.objs.size):=by
  have:=Heap.get?_push_size (s.heap.push PySem.W.emptyDict) (o:=PySem.W.instObj C s.heap.objs.size) rfl
  rwa [Heap.size_push] at this
 have e3:(s.heap.push PySem.W.emptyDict).Ns s.heap.objs.size (fun _=>none):=⟨PySem.W.emptyDict,#[],_,e1,rfl,(fun e he=>absurd he (by simp)),fun _=>rfl⟩
 have I1:=I.laid (a:=s.heap.objs.size) (o:=.own (s.heap.objs.size+1)) (h':=s.heap.push PySem.W.emptyDict) (t':=s.toks) (fun b u q=>Heap.get?_push_of_some _ q) (Nat.le_refl _) ⟨_,e1⟩
 refine I1.laid (a:=s.heap.objs.size+1) (o:=.ins C s.heap.objs.size []) (t':=s.toks) (fun b u q=>Heap.get?_push_of_some _ q) (Nat.le_of_eq (Heap.size_push _ _)) ?_
 have ne:s.heap.objs.size≠s.heap.objs.size+1:=Nat.ne_of_lt (Nat.lt_succ_self _)
 refine⟨by rw[upd_ne ne,upd_same],Nat.zero_le _,ne,e2,fun _=>none,(Heap.Ns1.of_empty e3).at fun o q=>Heap.get?_push_of_some _ q,fun _=>True.intro,fun y hy=>absurd rfl hy⟩
theorem attr_of {prog:Program} {w:World} {env:Env} {e:Expr} {f:Str} {pos:Pos} {s:Shared} {Q:Value→Shared→Prop} (hb:attributeBase e f env (eval e env)=eval e env)
  (h:wpAny (model prog w) A (eval e env) (fun o s₁=>wpAny (model prog w) A (getAttr o f true) Q E s₁) E s):wpAny (model prog w) A (eval (.Attribute e f pos) env) Q E s:=
 Attribute_any_ h (by rw[arm_eval_Attribute,hb])
end
noncomputable def tFld (K:PySem.W.Frag) (ta:TE) (f:Str):TE:=fun σ H Q=>ta σ H fun x H1=>∃a C dx fs v,x=.ref a∧H1 a=some (.ins C dx fs)∧Cls K C∧NoAttr K C f∧fs.lookup f=some v∧Q v H1
noncomputable def sFld (K:PySem.W.Frag) (ta tv:TE) (f:Str):TS:=fun D σ H=>tv σ H fun y H1=>ta σ H1 fun x H2=>∃a C dx fs,x=.ref a∧H2 a=some (.ins C dx fs)∧Cls K C∧NoAttr K C f∧fs.length<1000∧
 D.nx σ (upd H2 a (.ins C dx (putF f y fs)))
section
variable {X : Cx} {o e value : Expr} {f : Str} {pos pos' tpos : Pos} {ta tv : TE}
theorem pe_fld (he:PE X e ta) (hb:attributeBase e f X.env (eval e X.env)=eval e X.env):PE X (.Attribute e f pos) (tFld X.K ta f):=by
 intro pins s σ H Q I h
 refine attr_of hb (thn (he pins s σ H _ I h) fun u s1 hh_=>?_)
 obtain⟨x,H1,I1,rx,a,C,dx,fs,v,ex,ea,c,n,l,q⟩:=hh_
 subst ex
 obtain rfl:u=Value.ref a:=rx
 exact getattr_ok I1 ea c n l fun u' s2 I2 ru=>⟨v,H1,I2,ru,q⟩
theorem ps_fld (ha:PE X o ta) (hv:PE X value tv) (hs:swapsWith value (some (.Attribute o f pos')) pos.line X.env=pure false):PS X (.Assign [.Attribute o f pos'] value pos) (sFld X.K ta tv f):=by
 intro pins s σ H D I h
 refine plainObj_wpAny_Assign_Attribute (thn (hv pins s σ H _ I h) fun u s1 ⟨y,H1,I1,ry,q⟩=>thn (ha pins s1 σ H1 _ I1 q) fun ov s2 hh_=>?_) hs
 obtain⟨x,H2,I2,rx,a,C,dx,fs,ex,ea,c,n,l,q2⟩:=hh_
 subst ex
 obtain rfl:ov=Value.ref a:=rx
 exact setattr_ok I2 ea c n l ry fun s3 I3=>⟨σ,_,I3,q2⟩
end
section
variable {X : Cx} {pins : List (Addr × Obj)} {σ : St} {H : Hp} {s : Shared} {A : Around} {E : Value → Shared → Prop} {Q : Value → Shared → Prop} {c : Value} {b : Bool}
inductive TyOf (K:PySem.W.Frag) (H:Hp):V→Value→Prop where
 | non:TyOf K H .non (.type "NoneType")
 | bl (x:Bool):TyOf K H (.bl x) (.type "bool")
 | int (i:Int):TyOf K H (.int i) (.type "int")
 | str (x:Str):TyOf K H (.str x) (.type "str")
 | flt (x:UInt64):TyOf K H (.flt x) (.type "float")
 | lst {a:Addr} {xs:List V} (e:H a=some (.lst xs)):TyOf K H (.ref a) (.type "list")
 | frz {a:Addr} {o:Obj} {xs:List V} (e:H a=some (.frz o (.lst xs))):TyOf K H (.ref a) (.type "list")
 | tup {a:Addr} {xs:List V} (e:H a=some (.tup xs)):TyOf K H (.ref a) (.type "tuple")
 | dK {a:Addr} {kvs:List (Key×V)} (e:H a=some (.dK kvs)):TyOf K H (.ref a) (.type "dict")
 | dT {a:Addr} {kvs:List (List Key×V)} (e:H a=some (.dT kvs)):TyOf K H (.ref a) (.type "dict")
 | ins {a C dx:Addr} {fs:List (Str×V)} (e:H a=some (.ins C dx fs)) (cl:Cls K C) (ha:PySem.W.findIn K (.ref C) "__class__"=some (some (.builtin "object.__class__")))
   (hn:PySem.W.specialIn K (.builtin "object.__class__") "__get__"=some (some (.builtin "getset_descriptor.__get__"))) (htk:PySem.W.takesIn K (.builtin "object.__class__")=some true)
   (hm:PySem.W.mroIn K C (.type "object")=some true):TyOf K H (.ref a) (.ref C)
theorem isinst_ok {x:V} {u t:Value} (I:Inv X pins σ H s) (rx:RelV x u) (ty:TyOf X.K H x t) (e:PySem.W.kitOne X.K t c=some b) (h:∀tk,Q (.bool b) {s with toks:=tk}):
  wpAny (model X.prog X.w) A (call (.builtin "isinstance") [u,c]) Q E s:=by
 cases ty with
 | non=>cases (show u=Value.none from rx);exact PySem.W.kia_one PySem.W.kitx_none I.kIn True.intro e (fun z=>nomatch z) h
 | bl y=>cases (show u=Value.bool y from rx);exact PySem.W.kia_one PySem.W.kitx_bool I.kIn True.intro e (fun z=>nomatch z) h
 | int i=>obtain⟨t,q⟩:=(show ∃t,u=Value.int i t from rx);cases q;exact PySem.W.kia_one PySem.W.kitx_int I.kIn True.intro e (fun z=>nomatch z) h
 | str y=>obtain⟨t,q⟩:=(show ∃t,u=Value.str y t from rx);cases q;exact PySem.W.kia_one PySem.W.kitx_str I.kIn True.intro e (fun z=>nomatch z) h
 | flt y=>obtain⟨t,q⟩:=(show ∃t,u=Value.float y t from rx);cases q;exact PySem.W.kia_one PySem.W.kitx_float I.kIn True.intro e (fun z=>nomatch z) h
 | @lst a xs ea=>
  cases (show u=Value.ref a from rx)
  obtain⟨_,_,n,_,h1⟩:=(show ObjOk X.prog X.w H s.heap a (.lst xs) from I.hok a _ ea)
  exact PySem.W.kia_one PySem.W.kitx_list I.kIn ⟨_,h1,rfl⟩ e (fun z=>nomatch z) h
 | @frz a ob xs ea=>
  cases (show u=Value.ref a from rx)
  obtain⟨_,_,_,n,_,h1⟩:=(show ObjOk X.prog X.w H s.heap a (.frz ob (.lst xs)) from I.hok a _ ea)
  exact PySem.W.kia_one PySem.W.kitx_list I.kIn ⟨_,h1,rfl⟩ e (fun z=>nomatch z) h
 | @tup a xs ea=>
  cases (show u=Value.ref a from rx)
  obtain⟨_,_,_,p⟩:=(show ObjOk X.prog X.w H s.heap a (.tup xs) from I.hok a _ ea)
  obtain⟨o,h1,h2,_⟩:=p
  exact PySem.W.kia_one PySem.W.kitx_tuple I.kIn ⟨o,h1,h2⟩ e (fun z=>nomatch z) h
 | @dK a kvs ea=>
  cases (show u=Value.ref a from rx)
  obtain⟨_,_,vs,_,p⟩:=(show ObjOk X.prog X.w H s.heap a (.dK kvs) from I.hok a _ ea)
  obtain⟨o,es,ep,h1,h2,_⟩:=p
  exact PySem.W.kia_one PySem.W.kitx_dict I.kIn ⟨o,h1,h2.1⟩ e (fun z=>nomatch z) h
 | @dT a kvs ea=>
  cases (show u=Value.ref a from rx)
  obtain⟨_,_,xs,_,o,es,ep,h1,h2,_⟩:=(show ObjOk X.prog X.w H s.heap a (.dT kvs) from I.hok a _ ea)
  exact PySem.W.kia_one PySem.W.kitx_dict I.kIn ⟨o,h1,h2.1⟩ e (fun z=>nomatch z) h
 | @ins a C dx fs ea cl ha hn htk hm=>
  cases (show u=Value.ref a from rx)
  obtain⟨mA,O,_⟩:=ins_get I.hok ea
  obtain⟨od,J,_⟩:=O.look
  exact PySem.W.kia_one (PySem.W.kitx_own (cl.get _) cl.hd ha hn htk hm) I.kIn J e (fun z=>nomatch z) h
end
end L2
namespace L2
open PySem PySem.Spec PyProof.Rows
structure Room (k:Nat) (A:Around):Prop where
 hd:A.handled=none
 dp:A.depth+3*k+5<recursionLimit
 un:A.units+16*k+200<cLine
theorem Room.mono {j k:Nat} {A:Around} (r:Room k A) (h:j≤k):Room j A:=⟨r.hd,by have:=r.dp;omega,by have:=r.un;omega⟩
theorem Room.deeper {k:Nat} {A:Around} (r:Room (k+1) A) (env:Env):Room k (A.deeper env):=
 ⟨r.hd,by have:=r.dp;show A.depth+1+3*k+5<_;omega,by have:=r.un;show A.units+3+16*k+200<_;omega⟩
theorem make_depth {A:Around} {C:Addr} {us:List Value} {kw:List (Str×Value)}:(A.under (.builtin "type.__call__" ⟨.ref C::us,kw⟩)).depth=A.depth+1:=by
 first | rfl | simp [Around.under,Code.weight,Code.isCreation,Code.isGuard,Code.isCaller,Code.frames,Code.isFrame,guardIds]
theorem make_units {A:Around} {C:Addr} {us:List Value} {kw:List (Str×Value)}:(A.under (.builtin "type.__call__" ⟨.ref C::us,kw⟩)).units=A.units+1:=by
 first | rfl | simp [Around.under,Code.cUnits,Code.frames,Code.isFrame]
theorem Room.make {k:Nat} {A:Around} (r:Room (k+1) A) (C:Addr) (us:List Value) (kw:List (Str×Value)):Room k (A.under (.builtin "type.__call__" ⟨.ref C::us,kw⟩)):=
 ⟨r.hd,by have:=r.dp;rw[make_depth];omega,by have:=r.un;rw[make_units];omega⟩
theorem Room.depth {k:Nat} {A:Around} (r:Room k A):A.depth<recursionLimit:=by have:=r.dp;omega
theorem Room.units {k:Nat} {A:Around} (r:Room k A):A.units+64<cLine:=by have:=r.un;omega
noncomputable def tNil:TA:=fun _ H Q=>Q [] H
noncomputable def tCons (ta:TE) (tr:TA):TA:=fun σ H Q=>ta σ H fun x H1=>tr σ H1 fun xs H2=>Q (x::xs) H2
section
variable {X : Cx} {e : Expr} {es : List Expr} {te : TE} {t : TA} {pos : Pos}
theorem pa_nil:PA X [] tNil:=fun _ _ _ _ H Q I h=>Calls.spliced_nil ⟨[],H,I,.nil,h⟩
theorem pa_cons (ha:PE X e te) (hr:PA X es t) (hs:starEach (e::es) X.env=(false,eval e X.env)::starEach es X.env:=by rfl):PA X (e::es) (tCons te t):=by
 intro pos pins s σ H Q I h
 rw[hs]
 show wpAny _ _ (spliced ((false,eval e X.env)::backTo pos (starEach es X.env))) _ _ s
 refine Calls.spliced_cons (thn (ha pins s σ H _ I h) fun u s1 hh_=>?_)
 obtain⟨x,H1,I1,r1,q1⟩:=hh_
 exact thn (hr pos pins s1 σ H1 _ I1 q1) fun us s2 ⟨xs,H2,I2,r2,q2⟩=>⟨x::xs,H2,I2,.cons r1 r2,q2⟩
noncomputable def tLst (t:TA):TE:=fun σ H Q=>t σ H fun xs H1=>xs.length≤sizeLine∧∀p,H1 p=none→Q (.ref p) (upd H1 p (.lst xs))
theorem pe_lst (h:PA X es t):PE X (.List es pos) (tLst t):=by
 intro pins s σ H Q I hq
 refine wpAny_List_spliced (thn (h pos pins s σ H _ I hq) fun us s1 ⟨xs,H1,I1,r,z,q⟩=>⟨by rw[←r.length];exact z,?_⟩)
 have hf:H1 s1.heap.objs.size=none:=I1.hok.fresh (Nat.le_refl _)
 refine⟨.ref s1.heap.objs.size,upd H1 s1.heap.objs.size (.lst xs),I1.laid (t':=s1.toks) (fun b u e=>Heap.get?_push_of_some _ e) (Nat.le_refl _) ?_,rfl,q _ hf⟩
 exact⟨z,us,0,r,Heap.get?_push_size _ rfl⟩
end
abbrev Sp:=List V→Hp→VK→XK→Prop
abbrev CXT:=List Env→Hp→Shared→XK→Value→Shared→Prop
structure Env0 (P:Program) (w:World) (K:PySem.W.Frag) (mg:Str→Option Value) (base:Heap) (A:Around) (outer:List Env) (s:Shared) (H:Hp):Prop where
 frames:A.frames=some outer
 mod:Mod K mg base
 bs:∀b o,base.get? b=some o→s.heap.get? b=some o∧H b=none
 bsz:base.objs.size≤s.heap.objs.size
 funs:s.heap.FunFrames base outer
 frf:∀b∈frs outer,H b=none
 hok:HOk P w H s.heap
 bare:AllBare s.gens
noncomputable def CE (outer:List Env) (P:Program) (w:World) (H:Hp) (s:Shared) (Q:VK) (u:Value) (s':Shared):Prop:=
 ∃v H',s'.os=s.os∧AllBare s'.gens∧Un (frs outer) [] H H' s.heap s'.heap∧HOk P w H' s'.heap∧RelV v u∧Q v H'
noncomputable def CR (CX:CXT) (outer:List Env) (P:Program) (w:World) (H:Hp) (s:Shared) (Q:VK) (E:XK) (r:Result) (s':Shared):Prop:=
 match r with
 | .ok (.ret u)=>CE outer P w H s Q u s'
 | .ok _=>False
 | .error e=>CX outer H s E e s'
structure FnOk (P:Program) (w:World) (K:PySem.W.Frag) (mg:Str→Option Value) (base:Heap) (CX:CXT) (k:Nat) (f:Addr) (fd:FuncData) (ps:List Str) (sp:Sp):Prop where
 len:∀vs H Q E,sp vs H Q E→vs.length=ps.length
 run:∀(A:Around) (outer:List Env) (s:Shared) (H:Hp) (args:Args) (us:List Value) (vs:List V) (Q:VK) (E:XK),Room k A→Env0 P w K mg base A outer s H→BindsTo s fd args (ps.zip us)→Vals vs us→sp vs H Q E→
  codeAny (model P w) A (.call (.ref f) args) (CR CX outer P w H s Q E) s
theorem FnOk.mono {P:Program} {w:World} {K:PySem.W.Frag} {mg:Str→Option Value} {base:Heap} {CX:CXT} {j k:Nat} {f:Addr} {fd:FuncData} {ps:List Str} {sp:Sp} (F:FnOk P w K mg base CX j f fd ps sp) (h:j≤k):
  FnOk P w K mg base CX k f fd ps sp:=⟨F.len,fun A outer s H args us vs Q E hr=>F.run A outer s H args us vs Q E (hr.mono h)⟩
theorem Env0.make {P:Program} {w:World} {K:PySem.W.Frag} {mg:Str→Option Value} {base:Heap} {A:Around} {outer:List Env} {s:Shared} {H:Hp} (e:Env0 P w K mg base A outer s H) (C:Addr) (us:List Value) (kw:List (Str×Value)):
  Env0 P w K mg base (A.under (.builtin "type.__call__" ⟨.ref C::us,kw⟩)) outer s H:=⟨by first | exact e.frames | (simpa [Around.under,Code.envs,Code.isFrame,pushEnvs] using e.frames),e.mod,e.bs,e.bsz,e.funs,e.frf,e.hok,e.bare⟩
section
variable {X : Cx} {pins : List (Addr × Obj)} {σ : St} {H : Hp} {s s' : Shared}
theorem Inv.env0 (I:Inv X pins σ H s):Env0 X.prog X.w X.K X.mg X.base X.A X.stack s H:=
 ⟨I.ok.frames,I.ok.mod,I.bs,Nat.le_trans I.ok.bsz I.sz,I.stack,I.stkFree,I.hok,I.bare⟩
theorem Inv.after {Q:VK} {u:Value} (I:Inv X pins σ H s) (h:CE X.stack X.prog X.w H s Q u s'):EP X pins σ Q u s':=by
 obtain⟨v,H',os,bare,un,hok,r,q⟩:=h
 obtain⟨hh,g,d,t,os'⟩:=s'
 obtain rfl:os'=s.os:=os
 exact⟨v,H',I.call (h':=hh) (g':=g) (d':=d) (t':=t) (ch:=[]) un hok bare (fun b z=>absurd z (by simp)),r,q⟩
end
noncomputable def tCall (sp:Sp) (dvs:List V) (E:XK) (t:TA):TE:=fun σ H Q=>t σ H fun vs H1=>sp (vs++dvs) H1 Q E
noncomputable def tMeth (C:Addr) (m:Str) (sp:Sp) (dvs:List V) (E:XK) (ta:TE) (t:TA):TE:=fun σ H Q=>ta σ H fun x H1=>∃a dx fs,x=.ref a∧H1 a=some (.ins C dx fs)∧fs.lookup m=none∧
 t σ H1 fun vs H2=>sp (x::(vs++dvs)) H2 Q E
noncomputable def tMake (C:Addr) (sp:Sp) (dvs:List V) (E:XK) (t:TA):TE:=fun σ H Q=>t σ H fun vs H1=>∀x dx,H1 x=none→H1 dx=none→dx≠x→
 sp (.ref x::(vs++dvs)) (upd (upd H1 dx (.own x)) x (.ins C dx [])) (fun v H2=>v=.non∧Q (.ref x) H2) E
noncomputable def Binds (K:PySem.W.Frag) (fd:FuncData) (ps:List Str) (ds:List Value):Prop:=
 ∀(s:Shared) (us:List Value),K.In s.heap→(us++ds).length=ps.length→BindsTo s fd ⟨us,[]⟩ (ps.zip (us++ds))
theorem Binds.all {K:PySem.W.Frag} {fd:FuncData} {ps:List Str} (h:∀us:List Value,us.length=ps.length→bindArgs fd ⟨us,[]⟩=pure (ps.zip us)):Binds K fd ps []:=fun s us _ hl=>by
 rw[List.append_nil] at hl ⊢
 exact .of_eq (h us hl)
noncomputable def Passes (CX:CXT) (X:Cx) (E:XK):Prop:=∀(pins:List (Addr×Obj)) (σ:St) (H:Hp) (s:Shared) (e:Value) (s':Shared),Inv X pins σ H s→CX X.stack H s E e s'→X.xe e s'
section
variable {X : Cx} {CX : CXT} {k : Nat} {f C : Addr} {fd : FuncData} {ps : List Str} {sp : Sp} {dvs : List V} {ds : List Value} {E : XK} {x m : Str} {p pos apos : Pos} {e o : Expr} {es : List Expr} {ta : TE} {t : TA}
theorem run_fn {pins:List (Addr×Obj)} {σ:St} {H:Hp} {s:Shared} {Q:VK} {us:List Value} {vs:List V} (F:FnOk X.prog X.w X.K X.mg X.base CX k f fd ps sp) (hr:Room k X.A) (hb:Binds X.K fd ps ds) (hd:Vals dvs ds) (hx:Passes CX X E)
  (I:Inv X pins σ H s) (r:Vals vs us) (h:sp (vs++dvs) H Q E):wpAny (model X.prog X.w) X.A (call (.ref f) us) (EP X pins σ Q) X.xe s:=by
 have r2:Vals (vs++dvs) (us++ds):=r.append hd
 have hl:(us++ds).length=ps.length:=by rw[←r2.length];exact F.len _ _ _ _ h
 refine wpAny_call (codeAny_mono (F.run X.A X.stack s H ⟨us,[]⟩ (us++ds) (vs++dvs) Q E hr I.env0 (hb s us I.kIn hl) r2 h) fun r s' hq=>?_)
 cases r with
 | error e=>exact hx pins σ H s e s' I hq
 | ok fl=>
  cases fl with
  | ret u=>exact I.after hq
  | next=>exact False.elim hq
  | brk=>exact False.elim hq
  | cont=>exact False.elim hq
theorem pe_call (F:FnOk X.prog X.w X.K X.mg X.base CX k f fd ps sp) (hr:Room k X.A) (hg:Gl X x) (hm:X.mg x=some (.ref f)) (hk:PySem.W.keepIn X.K (.ref f)=true) (hb:Binds X.K fd ps ds) (hd:Vals dvs ds) (hx:Passes CX X E)
  (ha:PA X (e::es) t) (hdb:(x==("__debug__":Str))=false:=by decide) (he:starEach (e::es) X.env=(false,eval e X.env)::starEach es X.env:=by rfl) (hpl:(backTo pos (starEach es X.env)).any (·.1)=false:=by rfl):
  PE X (.Call (.Name x p) (e::es) [] pos) (tCall sp dvs E t):=by
 intro pins s σ H Q I h
 refine wpAny_Call_Name_kw (ld_glob I hg hm ?_ hdb)
 refine PySem.W.callWith_K (h₀:=X.base) I.ok.mod.kin hk (thn (ha pos pins s σ H _ I h) fun us s1 ⟨vs,H1,I1,r,q⟩=>⟨I1.kIn,?_⟩) he hpl
 exact run_fn F hr hb hd hx I1 r q
theorem pe_meth {pl:Sem Bool} (he:PE X o ta) (c:Cls X.K C) (hm:Meth X.K C m f) (F:FnOk X.prog X.w X.K X.mg X.base CX k f fd ps sp) (hr:Room k X.A) (hb:Binds X.K fd ps ds) (hd:Vals dvs ds) (hx:Passes CX X E) (ha:PA X (e::es) t)
  (hst:starEach (e::es) X.env=(false,eval e X.env)::starEach es X.env:=by rfl) (hpl:(backTo pos (starEach es X.env)).any (·.1)=false:=by rfl)
  (ht:eval (.Call (.Attribute o m apos) (e::es) [] pos) X.env=(do
   let ov ←eval o X.env
   standAt apos.atName
   let (f,first) ←holding [ov] (getMethod ov m pl)
   callWith pos f first (backTo pos (starEach (e::es) X.env)) (backToKw pos (keywordEach [] X.env))):=by rfl):
  PE X (.Call (.Attribute o m apos) (e::es) [] pos) (tMeth C m sp dvs E ta t):=by
 intro pins s σ H Q I h
 refine PySem.W.methodCall_KW (pl:=pl) (thn (he pins s σ H _ I h) fun u s1 hh_=>?_) ht
 obtain⟨x,H1,I1,rx,a,dx,fs,ex,ea,l,q⟩:=hh_
 subst ex
 obtain rfl:u=Value.ref a:=rx
 refine getmeth_ok I1 ea c hm l ?_
 refine PySem.W.callWith_K (first:=[.ref a]) (h₀:=X.base) I.ok.mod.kin hm.kp (thn (ha pos pins s1 σ H1 _ I1 q) fun us s2 ⟨vs,H2,I2,r,q2⟩=>⟨I2.kIn,?_⟩) hst hpl
 exact run_fn (us:=.ref a::us) (vs:=.ref a::vs) F hr hb hd hx I2 (.cons rfl r) q2
theorem pe_meth0 {pl:Sem Bool} (he:PE X o ta) (c:Cls X.K C) (hm:Meth X.K C m f) (F:FnOk X.prog X.w X.K X.mg X.base CX k f fd ps sp) (hr:Room k X.A) (hb:Binds X.K fd ps ds) (hd:Vals dvs ds) (hx:Passes CX X E)
  (ht:eval (.Call (.Attribute o m apos) [] [] pos) X.env=(do
   let ov ←eval o X.env
   standAt apos.atName
   let (f,first) ←holding [ov] (getMethod ov m pl)
   callWith pos f first (backTo pos (starEach [] X.env)) (backToKw pos (keywordEach [] X.env))):=by rfl):
  PE X (.Call (.Attribute o m apos) [] [] pos) (tMeth C m sp dvs E ta tNil):=by
 intro pins s σ H Q I h
 refine PySem.W.methodCall_KW (pl:=pl) (thn (he pins s σ H _ I h) fun u s1 hh_=>?_) ht
 obtain⟨x,H1,I1,rx,a,dx,fs,ex,ea,l,q⟩:=hh_
 subst ex
 obtain rfl:u=Value.ref a:=rx
 refine getmeth_ok I1 ea c hm l ?_
 exact PySem.W.callWith_K0 (first:=[.ref a]) I1.kIn hm.kp (run_fn (us:=[.ref a]) (vs:=[.ref a]) F hr hb hd hx I1 (.cons rfl .nil) q)
structure Mk (K:PySem.W.Frag) (C f:Addr):Prop where
 makes:PySem.W.makesIn K C=true
 init:PySem.W.findIn K (.ref C) "__init__"=some (some (.ref f))
 fn:PySem.W.isFn K (.ref f)=true
 kp:PySem.W.keepIn K (.ref C)=true
theorem run_make {pins:List (Addr×Obj)} {σ:St} {H:Hp} {s:Shared} {Q:VK} {us:List Value} {vs:List V} (M:Mk X.K C f) (F:FnOk X.prog X.w X.K X.mg X.base CX k f fd ps sp) (hr:Room (k+1) X.A) (hb:Binds X.K fd ps ds) (hd:Vals dvs ds)
  (hx:Passes CX X E) (I:Inv X pins σ H s) (r:Vals vs us)
  (h:∀x dx,H x=none→H dx=none→dx≠x→sp (.ref x::(vs++dvs)) (upd (upd H dx (.own x)) x (.ins C dx [])) (fun v H2=>v=.non∧Q (.ref x) H2) E):
  wpAny (model X.prog X.w) X.A (call (.ref C) us) (EP X pins σ Q) X.xe s:=by
 have hq:=h (s.heap.objs.size+1) s.heap.objs.size (I.hok.fresh (Nat.le_succ _)) (I.hok.fresh (Nat.le_refl _)) (Nat.ne_of_lt (Nat.lt_succ_self _))
 have I2:=Inv.made (C:=C) I
 have r2:Vals (V.ref (s.heap.objs.size+1)::(vs++dvs)) (Value.ref (s.heap.objs.size+1)::(us++ds)):=.cons rfl (r.append hd)
 have hl:(Value.ref (s.heap.objs.size+1)::us++ds).length=ps.length:=by
  have e:=r2.length
  rw[F.len _ _ _ _ hq] at e
  exact e.symm
 refine wpAny_call (make_map (f:=f) I.kIn M.makes M.init (beq_iff_eq.mp M.fn) (codeAny_mono (F.run _ X.stack _ _ ⟨Value.ref (s.heap.objs.size+1)::us,[]⟩ (Value.ref (s.heap.objs.size+1)::(us++ds)) _ _ E (hr.make C us [])
  (I2.env0.make C us []) (hb _ (Value.ref (s.heap.objs.size+1)::us) I2.kIn hl) r2 hq) fun r s' hq'=>?_))
 cases r with
 | error e=>exact hx pins σ _ _ e s' I2 hq'
 | ok fl=>
  cases fl with
  | ret u=>
   obtain⟨v,H',I3,rv,ev,q3⟩:=I2.after hq'
   subst ev
   exact⟨rv,⟨V.ref (s.heap.objs.size+1),H',I3,rfl,q3⟩⟩
  | next=>exact False.elim hq'
  | brk=>exact False.elim hq'
  | cont=>exact False.elim hq'
theorem pe_make (M:Mk X.K C f) (F:FnOk X.prog X.w X.K X.mg X.base CX k f fd ps sp) (hr:Room (k+1) X.A) (hg:Gl X x) (hm:X.mg x=some (.ref C)) (hb:Binds X.K fd ps ds) (hd:Vals dvs ds) (hx:Passes CX X E)
  (ha:PA X (e::es) t) (hdb:(x==("__debug__":Str))=false:=by decide) (he:starEach (e::es) X.env=(false,eval e X.env)::starEach es X.env:=by rfl) (hpl:(backTo pos (starEach es X.env)).any (·.1)=false:=by rfl):
  PE X (.Call (.Name x p) (e::es) [] pos) (tMake C sp dvs E t):=by
 intro pins s σ H Q I h
 refine wpAny_Call_Name_kw (ld_glob I hg hm ?_ hdb)
 refine PySem.W.callWith_K (h₀:=X.base) I.ok.mod.kin M.kp (thn (ha pos pins s σ H _ I h) fun us s1 ⟨vs,H1,I1,r,q⟩=>⟨I1.kIn,?_⟩) he hpl
 exact run_make M F hr hb hd hx I1 r q
end
section
variable {X : Cx} {CX : CXT} {k : Nat} {f C : Addr} {fd : FuncData} {ps ks : List Str} {sp : Sp} {E : XK} {x m : Str} {p pos apos kpos : Pos} {e o : Expr} {es : List Expr} {kws : List Keyword} {te ta : TE} {t tk : TA} {nm : Option Str}
structure KBinds (K:PySem.W.Frag) (fd:FuncData) (ps ks:List Str) (g:List Value→List Value→List Value) (gV:List V→List V→List V):Prop where
 to:∀(s:Shared) (us ws:List Value),K.In s.heap→(g us ws).length=ps.length→BindsTo s fd ⟨us,ks.zip ws⟩ (ps.zip (g us ws))
 rel:∀{vs:List V} {us:List Value} {zs:List V} {ws:List Value},Vals vs us→Vals zs ws→Vals (gV vs zs) (g us ws)
variable {g : List Value → List Value → List Value} {gV : List V → List V → List V}
end
structure FnScope (N P:List Str) (sc:Scope):Prop where
 kind:sc.kind=.function
 co:sc.isCoroutine=false
 gen:sc.isGenerator=false
 nd:N.Nodup
 pre:N.take P.length=P
 par:∀x∈P,sc.names.lookup x=some .local∨sc.names.lookup x=some .cell
 nofree:∀y∈sc.names,y.2≠.free
theorem bindL_out {kindOf:Str→Option NameKind} {x:Str}:∀{binds:List (Str×Value)} {m:Str→Option Value},(∀v,(x,v)∉binds)→bindL kindOf binds m x=m x
 | [],_,_=>rfl
 | (n,v)::r,m,h=>by
  unfold bindL
  rw[bindL_out fun w hw=>h w (List.mem_cons_of_mem _ hw)]
  split
  ·have:x≠n:=by rintro rfl;exact h v List.mem_cons_self
   simp [this]
  ·rfl
theorem bindC_out {kindOf:Str→Option NameKind} {x:Str}:∀{binds:List (Str×Value)} {m:Str→Option Value},(∀v,(x,v)∉binds)→bindC kindOf binds m x=m x
 | [],_,_=>rfl
 | (n,v)::r,m,h=>by
  unfold bindC
  rw[bindC_out fun w hw=>h w (List.mem_cons_of_mem _ hw)]
  split
  ·rfl
  ·have:x≠n:=by rintro rfl;exact h v List.mem_cons_self
   simp [this]
theorem bindL_get {kindOf:Str→Option NameKind} {x:Str} {v:Value}:∀{P:List Str} {vs:List Value} {i:Nat} {m:Str→Option Value},P.Nodup→P[i]?=some x→vs[i]?=some v→kindOf x=some .local→
  bindL kindOf (P.zip vs) m x=some v
 | [],_,_,_,_,h,_,_=>by simp at h
 | _::_,[],_,_,_,_,h,_=>by simp at h
 | p::P,w::vs,0,m,nd,h1,h2,hk=>by
  simp at h1 h2;subst h1;subst h2
  show bindL kindOf ((p,w)::P.zip vs) m p=_
  unfold bindL
  rw[bindL_out fun v hv=>(List.nodup_cons.mp nd).1 (List.of_mem_zip hv).1,if_pos hk]
  simp
 | p::P,w::vs,i+1,m,nd,h1,h2,hk=>by
  show bindL kindOf ((p,w)::P.zip vs) m x=_
  unfold bindL
  exact bindL_get (i:=i) (List.nodup_cons.mp nd).2 (by simpa using h1) (by simpa using h2) hk
theorem bindC_get {kindOf:Str→Option NameKind} {x:Str} {v:Value}:∀{P:List Str} {vs:List Value} {i:Nat} {m:Str→Option Value},P.Nodup→P[i]?=some x→vs[i]?=some v→kindOf x≠some .local→
  bindC kindOf (P.zip vs) m x=some v
 | [],_,_,_,_,h,_,_=>by simp at h
 | _::_,[],_,_,_,_,h,_=>by simp at h
 | p::P,w::vs,0,m,nd,h1,h2,hk=>by
  simp at h1 h2;subst h1;subst h2
  show bindC kindOf ((p,w)::P.zip vs) m p=_
  unfold bindC
  rw[bindC_out fun v hv=>(List.nodup_cons.mp nd).1 (List.of_mem_zip hv).1,if_neg hk]
  simp
 | p::P,w::vs,i+1,m,nd,h1,h2,hk=>by
  show bindC kindOf ((p,w)::P.zip vs) m x=_
  unfold bindC
  exact bindC_get (i:=i) (List.nodup_cons.mp nd).2 (by simpa using h1) (by simpa using h2) hk
noncomputable def start (N:List Str) (vs:List V):St:=vs.map some++List.replicate (N.length - vs.length) none
noncomputable def cxOf (CX:CXT) (P:Program) (w:World) (K:PySem.W.Frag) (mg:Str→Option Value) (base:Heap) (N:List Str) (qual:Str) (scope:Scope) (f:Addr) (cd:Value) (A:Around) (outer:List Env) (s:Shared) (H:Hp) (E:XK):Cx where
 prog:=P
 w:=w
 K:=K
 mg:=mg
 base:=base
 A:=A.deeper (envOfC qual scope s.heap.objs.size f cd)
 N:=N
 s₀:=s
 H₀:=H
 env:=envOfC qual scope s.heap.objs.size f cd
 outer:=outer
 stack:=envOfC qual scope s.heap.objs.size f cd::outer
 ex:=[]
 calm:=true
 fn:=fun _=>true
 pn:=[]
 xe:=fun e s'=>wpAny (model P w) (A.deeper (envOfC qual scope s.heap.objs.size f cd)) (leaving (envOfC qual scope s.heap.objs.size f cd) e) (fun _ s''=>CX outer H s E e s'') (fun e' s''=>CX outer H s E e' s'') s'
theorem cell_has {sc:Scope} {n:Nat} {x:Str} (h:sc.names.lookup x=some .cell):∃c,(cellsFrom n sc.names []).lookup x=some c:=by
 have q:=PySem.W.cellsFrom_some sc.names n [] (.inl h)
 exact Option.isSome_iff_exists.mp q
theorem inv_start {CX:CXT} {P:Program} {w:World} {K:PySem.W.Frag} {mg:Str→Option Value} {base:Heap} {N ps:List Str} {qual:Str} {scope:Scope} {f:Addr} {cd:Value} {A:Around} {outer:List Env} {s s1:Shared} {H:Hp} {E:XK} {us:List Value} {vs:List V}
  (S:FnScope N ps scope) (hd:A.handled=none) (e0:Env0 P w K mg base A outer s H) (hl:vs.length=ps.length) (r:Vals vs us)
  (x:InCallC s s.heap.objs.size (bindL (envOfC qual scope s.heap.objs.size f cd).kindOf (ps.zip us) fun _=>none) (cellsFrom (s.heap.objs.size+1) scope.names []) (bindC (envOfC qual scope s.heap.objs.size f cd).kindOf (ps.zip us) fun _=>none) s1):
  Inv (cxOf CX P w K mg base N qual scope f cd A outer s H E) [] (start N vs) H s1:=by
 have hpl:ps.length≤N.length:=by have:=congrArg List.length S.pre;rw[List.length_take] at this;omega
 obtain⟨h1,tk,rfl,hk⟩:=x.done
 have noA:∀b:Addr,b∉(cxOf CX P w K mg base N qual scope f cd A outer s H E).ex:=fun b z=>absurd (show b∈([]:List Addr) from z) (by simp)
 refine⟨⟨e0.mod,S.kind,rfl,rfl,Nat.le_refl _,fun y z c h1 h2=>?_,fun y hy=>?_,fun y c _ h=>?_,fun _=>hd,Around.frames_deeper e0.frames,.inr ⟨rfl,rfl⟩,fun b z=>absurd z (noA b),e0.bs,e0.bsz,fun b _ _=>noA b,fun b z=>absurd z (noA b),e0.funs,e0.frf⟩,
  rfl,e0.bare,Un.kept hk,⟨_,x.toInCall.ns,fun i y v h1 h2 h3=>?_⟩,fun y c h=>⟨_,x.cell y c h⟩,e0.hok.fresh (Nat.le_refl _),fun y c h=>?_,fun p hp=>absurd (show p∈([]:List (Addr×Obj)) from hp) (by simp),e0.hok.kept hk,?_⟩
 ·exact name_of_addr x.apart (PySem.mem_of_lookup h1) (PySem.mem_of_lookup h2)
 ·have hy:scope.names.lookup y=some .cell∨scope.names.lookup y=some .free:=hy
  rcases hy with hy | hy
  ·exact cell_has hy
  ·exact absurd rfl (S.nofree _ (PySem.mem_of_lookup hy))
 ·exact Nat.le_of_lt (x.above y c (PySem.mem_of_lookup h))
 ·have hi:i<vs.length:=by
   unfold start at h2
   by_cases hi:i<vs.length
   ·exact hi
   ·rw[List.getElem?_append_right (by simpa using hi)] at h2
    rw[List.getElem?_replicate] at h2
    split at h2 <;>cases h2
  have ha:vs[i]?=some v:=by
   unfold start at h2
   rw[List.getElem?_append_left (by simpa using hi),List.getElem?_map] at h2
   cases e:vs[i]? with
   | none=>rw[e] at h2;cases h2
   | some a=>rw[e] at h2;cases h2;rfl
  obtain⟨u,hu,rv⟩:=r.get ha
  have hp:ps[i]?=some y:=by
   rw[←S.pre,List.getElem?_take_of_lt (by omega)];exact h1
  have ndP:ps.Nodup:=by rw[←S.pre];exact S.nd.sublist (List.take_sublist _ _)
  refine⟨u,rv,?_⟩
  rcases S.par y (List.mem_of_getElem? hp) with k | k
  ·exact .inl ⟨k,bindL_get ndP hp hu k⟩
  ·obtain⟨c,e⟩:=cell_has (n:=s.heap.objs.size+1) k
   refine .inr ⟨.inl k,c,e,?_⟩
   have q:=x.cell y c e
   rw[bindC_get ndP hp hu (by show scope.names.lookup y≠_;rw[k];decide)] at q
   exact q
 ·exact e0.hok.fresh (Nat.le_of_lt (x.above y c (PySem.mem_of_lookup h)))
 ·unfold start
  show _=N.length
  rw[List.length_append,List.length_map,List.length_replicate]
  omega
theorem fn_of {CX:CXT} {P:Program} {w:World} {K:PySem.W.Frag} {mg:Str→Option Value} {base:Heap} {k:Nat} {f:Addr} {name qual:Str} {params:Arguments} {body:List Stmt} {scope:Scope} {dV kV doc pm cdv ct oc:Value} {an od:Option Addr}
  {osl:Array (Option Value)} {N ps:List Str} {sp:Sp} (lk:K.lookup f=some ⟨oc,od,.func (PySem.W.fnOf name qual params body scope dV kV doc pm an cdv ct),osl⟩) (hcd:PySem.W.codeIn K cdv qual=true) (S:FnScope N ps scope)
  (len:∀vs H Q E,sp vs H Q E→vs.length=ps.length)
  (hbody:∀(A:Around) (outer:List Env) (s:Shared) (H:Hp) (vs:List V) (Q:VK) (E:XK),Room k (A.deeper (envOfC qual scope s.heap.objs.size f cdv))→sp vs H Q E→
   ∃t,PSs (cxOf CX P w K mg base N qual scope f cdv A outer s H E) body t∧t {nx:=fun _ H'=>Q .non H',rt:=Q} (start N vs) H):
  FnOk P w K mg base CX (k+1) f (PySem.W.fnOf name qual params body scope dV kV doc pm an cdv ct) ps sp:=by
 refine⟨len,fun A outer s H args us vs Q E hr e0 hb r hsp=>?_⟩
 have hl:=len _ _ _ _ hsp
 have KX:K.In s.heap:=e0.mod.kin.keeps fun b o e=>(e0.bs b o e).1
 have lim:s.heap.NoLimit:=e0.mod.nolimit.keeps fun b o e=>(e0.bs b o e).1
 have hkind:∀y∈ps.zip us,scope.names.lookup y.1=some .local∨(scope.names.lookup y.1=some .cell∧((cellsFrom (s.heap.objs.size+1) scope.names []).lookup y.1).isSome=true):=fun⟨n,v⟩ hy=>by
  rcases S.par n (List.of_mem_zip hy).1 with q | q
  ·exact .inl q
  ·exact .inr ⟨q,PySem.W.cellsFrom_some _ _ _ (.inl q)⟩
 refine codeAny_call_function hr.depth (KX _ _ lk) rfl S.co S.gen rfl (PySem.W.codeRec_of KX hcd) (hb _ _ _ _ ?_)
 refine wpAny_newFunctionEnv_cells S.kind hkind fun env he s1 x=>?_
 subst he
 refine⟨lim.keeps x.toInCall.keep,codeAny_func ?_⟩
 obtain⟨t,ht,hq⟩:=hbody A outer s H vs Q E (hr.deeper _) hsp
 have I:Inv (cxOf CX P w K mg base N qual scope f cdv A outer s H E) [] (start N vs) H s1:=inv_start S hr.hd e0 hl r x
 refine wpAny_mono (ht [] s1 (start N vs) H _ I hq) (fun fl s' hs=>?_) fun e s' hs=>hs
 have fin:∀{σ':St} {H':Hp} {v:V} {u:Value},Inv (cxOf CX P w K mg base N qual scope f cdv A outer s H E) [] σ' H' s'→RelV v u→Q v H'→CE outer P w H s Q u s':=
  fun {σ' H' v u} J rv q=>⟨v,H',J.os,J.bare,J.base,J.hok,rv,q⟩
 cases fl with
 | ret u=>
  obtain⟨v,σ',H',J,rv,q⟩:=hs
  exact fin J rv q
 | next=>
  obtain⟨σ',H',J,q⟩:=hs
  exact fin (v:=V.non) (u:=Value.none) J rfl q
 | brk=>
  obtain⟨_,_,_,q⟩:=hs
  exact False.elim q
 | cont=>
  obtain⟨_,_,_,q⟩:=hs
  exact False.elim q
end L2
namespace L2
open PySem PySem.Spec PyProof.Rows
section
variable {X : Cx} {x : Str} {p pos : Pos} {e : Expr} {es : List Expr} {t : TA} {id T : String} {r : List V → Hp → VK → Prop}
noncomputable def tCB (r:List V→Hp→VK→Prop) (t:TA):TE:=fun σ H Q=>t σ H fun vs H1=>r vs H1 Q
theorem pe_callB (hc:CallR X (.builtin id) r) (hg:Gl X x) (hm:X.mg x=none) (hv:bootBuiltins x=some (.builtin id)) (ha:PA X (e::es) t) (hn:x≠"__name__":=by decide) (hdb:(x==("__debug__":Str))=false:=by decide)
  (he:starEach (e::es) X.env=(false,eval e X.env)::starEach es X.env:=by rfl) (hpl:(backTo pos (starEach es X.env)).any (·.1)=false:=by rfl):PE X (.Call (.Name x p) (e::es) [] pos) (tCB r t):=by
 intro pins s σ H Q I h
 refine wpAny_Call_Name_kw (ld_blt I hg hm hv ?_ hn hdb)
 exact PyProof.Rows.callWith_builtin1 (thn (ha pos pins s σ H _ I h) fun us s1 ⟨vs,H1,I1,r1,q1⟩=>hc pins s1 σ H1 vs us Q I1 r1 q1) he hpl
theorem pe_callTy (hc:CallR X (.type T) r) (hg:Gl X x) (hm:X.mg x=none) (hv:bootBuiltins x=some (.type T)) (ha:PA X (e::es) t) (hn:x≠"__name__":=by decide) (hdb:(x==("__debug__":Str))=false:=by decide)
  (he:starEach (e::es) X.env=(false,eval e X.env)::starEach es X.env:=by rfl) (hpl:(backTo pos (starEach es X.env)).any (·.1)=false:=by rfl):PE X (.Call (.Name x p) (e::es) [] pos) (tCB r t):=by
 intro pins s σ H Q I h
 refine wpAny_Call_Name_kw (ld_blt I hg hm hv ?_ hn hdb)
 exact PyProof.Rows.callWith_type1 (thn (ha pos pins s σ H _ I h) fun us s1 ⟨vs,H1,I1,r1,q1⟩=>hc pins s1 σ H1 vs us Q I1 r1 q1) he hpl
end
end L2
namespace HT
open PySem PyProof.Rows
section
open PySem.SeqAt
open PySem.AutoSeq1 (wpAny_loadPart')
open PySem.MeetsSeq PySem.MeetsSeq2 PySem.MeetsSeq3
end
section
variable {prog : Program} {w : World} {A : Around} {E : Value → Shared → Prop} {s : Shared}
noncomputable def sIx (n d:Nat):Option Int→Nat
 | none=>d
 | some v=>if v<0 then (v+ (n:Int)).toNat else min v.toNat n
end
end HT
namespace L2
open PySem PySem.Spec PyProof.Rows
abbrev TO:=St→Hp→(Option Int→Hp→Prop)→Prop
noncomputable def PO (X:Cx) (e:Option Expr) (t:TO):Prop:=
 ∀(pins:List (Addr×Obj)) (s:Shared) (σ:St) (H:Hp) (Q:Option Int→Hp→Prop),Inv X pins σ H s→t σ H Q→
  wpAny (model X.prog X.w) X.A (evalPart e X.env) (fun u s'=>∃o H',Inv X pins σ H' s'∧IsPart u o∧Q o H') X.xe s
noncomputable def tNoPart:TO:=fun _ H Q=>Q none H
noncomputable def tPart (t:TE):TO:=fun σ H Q=>t σ H fun x H1=>∃i,x=.int i∧Q (some i) H1
theorem intsAre_of {ns:List Int}:∀{us:List Value},Vals (ns.map V.int) us→IntsAre us ns:=by
 induction ns with
 | nil=>intro us r;rw[List.map_nil] at r;cases r;exact .nil
 | cons n ns ih=>
  intro us r
  rw[List.map_cons] at r
  cases r with
  | cons r1 r2=>
   obtain⟨t,e⟩:=r1
   subst e
   exact .cons n t (ih r2)
section
variable {X : Cx} {e : Expr} {te : TE} {lo hi : Option Expr} {tl th : TO} {pos p2 : Pos}
theorem po_none:PO X none tNoPart:=by
 intro pins s σ H Q I h
 rw[evalPart_none]
 exact wpAny_pure ⟨none,H,I,.none,h⟩
theorem po_some (h:PE X e te):PO X (some e) (tPart te):=by
 intro pins s σ H Q I hw
 rw[evalPart_some]
 refine thn (h pins s σ H _ I hw) fun u s1 hh_=>?_
 obtain⟨x,H1,I1,r1,q1⟩:=hh_
 obtain⟨i,rfl,q⟩:=q1
 obtain⟨t,rfl⟩:=r1
 exact⟨some i,H1,I1,.int i t,q⟩
noncomputable def SlR (X:Cx) (r:V→Option Int→Option Int→Hp→VK→Prop):Prop:=
 ∀(pins:List (Addr×Obj)) (s:Shared) (σ:St) (H:Hp) (x:V) (v vl vu:Value) (lo hi:Option Int) (sl:Addr) (Q:VK),Inv X pins σ H s→RelV x v→s.heap.IsSliceOf sl vl vu .none→IsPart vl lo→IsPart vu hi→r x lo hi H Q→
  ∃T id,typeLookup (.type T) "__getitem__"=pure (some (.builtin id))∧s.TypeIs v T∧wpAny (model X.prog X.w) X.A (getItem v (.ref sl)) (EP X pins σ Q) X.xe s
noncomputable def tSl (r:V→Option Int→Option Int→Hp→VK→Prop) (te:TE) (tl th:TO):TE:=fun σ H Q=>te σ H fun x H1=>tl σ H1 fun l H2=>th σ H2 fun u H3=>r x l u H3 Q
theorem pe_slice {r:V→Option Int→Option Int→Hp→VK→Prop} (hr:SlR X r) (he:PE X e te) (hl:PO X lo tl) (hu:PO X hi th):PE X (.Subscript e (.Slice lo hi none p2) pos) (tSl r te tl th):=by
 intro pins s σ H Q I h
 refine Subscript_ (thn (he pins s σ H _ I h) fun v s1 hh_=>?_)
 obtain⟨x,H1,I1,r1,q1⟩:=hh_
 refine wpAny_Slice (thn (hl pins s1 σ H1 _ I1 q1) fun vl s2 ⟨l,H2,I2,pl,q2⟩=>thn (hu pins s2 σ H2 _ I2 q2) fun vu s3 hh_=>?_)
 obtain⟨u,H3,I3,pu,q3⟩:=hh_
 rw[evalPart_none]
 refine wpAny_pure ?_
 have I4:Inv X pins σ H3 {s3 with heap:=s3.heap.push {cls:=.type "slice",data:=.fields #[vl,vu,.none]}}:=I3.kept (t':=s3.toks) fun b ob q=>Heap.get?_push_of_some _ q
 obtain⟨T,id,hT,ht,hg⟩:=hr pins {s3 with heap:=s3.heap.push {cls:=.type "slice",data:=.fields #[vl,vu,.none]}} σ H3 x v vl vu l u s3.heap.objs.size Q I4 r1 (Heap.IsSliceOf.new ..) pl pu q3
 show wpAny (model X.prog X.w) X.A (subscriptTail e (.Slice lo hi none p2) v (.ref s3.heap.objs.size)) (EP X pins σ Q) X.xe {s3 with heap:=s3.heap.push {cls:=.type "slice",data:=.fields #[vl,vu,.none]}}
 exact tail_any (ops:=[.ref s3.heap.objs.size,v]) ht hT hg (by with_unfolding_all rfl)
noncomputable def cutV (xs:List V) (lo hi:Option Int):List V:=(xs.drop (HT.sIx xs.length 0 lo)).take (HT.sIx xs.length xs.length hi - HT.sIx xs.length 0 lo)
theorem cutV_length (xs:List V) (lo hi:Option Int):(cutV xs lo hi).length≤xs.length:=by
 unfold cutV
 rw[List.length_take,List.length_drop]
 omega
end
end L2
namespace L2
open PySem PySem.Spec PyProof.Rows
noncomputable def ixN (n:Nat) (i:Int):Option Nat:=if 0≤i then (if i<n then some i.toNat else none) else if -(n:Int)≤i then some (i+n).toNat else none
noncomputable def atI {α:Type} (xs:List α) (i:Int):Option α:=(ixN xs.length i).bind fun j=>xs[j]?
theorem ixN_seq {n:Nat} {i:Int} {j:Nat} (h:ixN n i=some j):seqIndex? i n=some j∧j<n∧-(n:Int)≤i∧i<n:=by
 unfold ixN at h
 by_cases h0:0≤i
 ·rw[if_pos h0] at h
  by_cases h1:i<n
  ·rw[if_pos h1] at h
   have e:i.toNat=j:=Option.some.inj h
   exact⟨by rw[seqIndex_of h0 h1,e],by omega,by omega,h1⟩
  ·rw[if_neg h1] at h;cases h
 ·rw[if_neg h0] at h
  by_cases h1:-(n:Int)≤i
  ·rw[if_pos h1] at h
   have e:(i+n).toNat=j:=Option.some.inj h
   exact⟨by rw[seqIndex_neg (by omega) h1,e],by omega,h1,by omega⟩
  ·rw[if_neg h1] at h;cases h
theorem atI_get {α:Type} {xs:List α} {i:Int} {v:α} (h:atI xs i=some v):∃j,seqIndex? i xs.length=some j∧xs[j]?=some v∧j<xs.length∧-(xs.length:Int)≤i∧i<xs.length:=by
 unfold atI at h
 cases e:ixN xs.length i with
 | none=>rw[e] at h;cases h
 | some j=>
  rw[e] at h
  obtain⟨h1,h2,h3,h4⟩:=ixN_seq e
  exact⟨j,h1,h,h2,h3,h4⟩
theorem atI_nat {α:Type} {xs:List α} {j:Nat} {v:α} (h:xs[j]?=some v):atI xs (j:Int)=some v:=by
 have hj:j<xs.length:=(List.getElem?_eq_some_iff.mp h).1
 have e:ixN xs.length (j:Int)=some j:=by
  unfold ixN
  rw[if_pos (by omega),if_pos (by omega)];simp
 unfold atI;rw[e];exact h
noncomputable def PlainIx (b:Expr):Prop:=∀o i,subscripted b false o i=operate [o,i] (getItem o i)
noncomputable def IxR (X:Cx) (r:R2):Prop:=
 ∀(value slice:Expr) (pins:List (Addr×Obj)) (s:Shared) (σ:St) (H:Hp) (x y:V) (v u:Value) (Q:VK),Inv X pins σ H s→RelV x v→RelV y u→r x y H Q→
  subscripted slice false v u=operate [v,u] (getItem v u)→wpAny (model X.prog X.w) X.A (subscriptTail value slice v u) (EP X pins σ Q) X.xe s
noncomputable def MtR (X:Cx) (id:String) (r:V→List V→Hp→VK→Prop):Prop:=
 ∀(pins:List (Addr×Obj)) (s:Shared) (σ:St) (H:Hp) (x:V) (xs:List V) (v:Value) (us:List Value) (Q:VK),Inv X pins σ H s→RelV x v→Vals xs us→r x xs H Q→
  wpAny (model X.prog X.w) X.A (call (.builtin id) (v::us)) (EP X pins σ Q) X.xe s
section
variable {X : Cx} {a b : Expr} {ta tb : TE} {pos : Pos}
theorem pe_ix {r:R2} (hr:IxR X r) (ha:PE X a ta) (hb:PE X b tb) (hs:PlainIx b):PE X (.Subscript a b pos) (tOp r ta tb):=by
 intro pins s σ H Q I h
 exact Subscript_ (binT ha hb I h fun v u s2 x y H2 I2 rx ry q=>hr a b pins s2 σ H2 x y v u Q I2 rx ry q (hs _ _))
noncomputable def rIxL (K:PySem.W.Frag):R2:=fun x y H Q=>∃p xs i v,x=.ref p∧y=.int i∧SqL K H p xs∧atI xs i=some v∧Q v H
noncomputable def rIxT (K:PySem.W.Frag):R2:=fun x y H Q=>∃p xs i v,x=.ref p∧y=.int i∧SqT K H p xs∧atI xs i=some v∧Q v H
noncomputable def rIxS:R2:=fun x y H Q=>∃z i c,x=.str z∧y=.int i∧z.length≤sizeLine∧atI z.cps.toList i=some c∧Q (.str ⟨#[c]⟩) H
theorem ix_list:IxR X (rIxL X.K):=by
 intro value slice pins s σ H x y v u Q I rx ry h hs
 obtain⟨p,xs,i,z,rfl,rfl,hq,he,q⟩:=h
 cases rx
 obtain⟨t,rfl⟩:=ry
 obtain⟨its,r,pl,hz⟩:=I.list hq
 obtain⟨j,h1,h2,h3,h4,h5⟩:=atI_get he
 obtain⟨w,ew,rw'⟩:=r.get h2
 have hl:=r.length
 have hn:=line63
 have fin:EP X pins σ Q w s:=⟨z,H,I,rw',q⟩
 by_cases h0:0≤i
 ·have hj:i.toNat=j:=by
   rw[seqIndex_of h0 h5] at h1
   exact Option.some.inj h1
  exact item_listR pl.isList h0 (by omega) (by rw[hj];simpa using ew) fin hs
 ·have hj:(i+ (its.toArray.size:Int)).toNat=j:=by
   rw[seqIndex_neg (by omega) h4] at h1
   rw[List.size_toArray,←hl]
   exact Option.some.inj h1
  exact subscriptTail_builtinR (x:=w) pl.isList.typeIs slot_list_getitem.lookup
   (wpAny_getItem_list_neg (Q:=fun r s'=>r=w∧EP X pins σ Q r s') pl.isList (by omega) (by rw[List.size_toArray] <;>omega) (by omega) (by rw[hj];simpa using ew) ⟨rfl,fin⟩) hs
theorem ix_tup:IxR X (rIxT X.K):=by
 intro value slice pins s σ H x y v u Q I rx ry h hs
 obtain⟨p,xs,i,z,rfl,rfl,hq,he,q⟩:=h
 cases rx
 obtain⟨t,rfl⟩:=ry
 obtain⟨its,r,pl,hz⟩:=I.tuple hq
 obtain⟨j,h1,h2,h3,h4,h5⟩:=atI_get he
 obtain⟨w,ew,rw'⟩:=r.get h2
 have hl:=r.length
 have hn:=line63
 have fin:EP X pins σ Q w s:=⟨z,H,I,rw',q⟩
 exact subscriptTail_builtinR (x:=w) pl.typeIs slot_tuple_getitem.lookup
  (getItem_tuple (j:=j) (Q:=fun r s'=>r=w∧EP X pins σ Q r s') pl (by omega) (by omega) (by rw[List.size_toArray,←hl];exact h1) (by simpa using ew) ⟨rfl,fin⟩) hs
theorem ix_str:IxR X rIxS:=by
 intro value slice pins s σ H x y v u Q I rx ry h hs
 obtain⟨z,i,c,rfl,rfl,hz,he,q⟩:=h
 obtain⟨t,rfl⟩:=rx
 obtain⟨t',rfl⟩:=ry
 obtain⟨j,h1,h2,h3,h4,h5⟩:=atI_get he
 have hl:z.cps.toList.length=z.length:=by simp [Str.length]
 rw[hl] at h1 h4 h5
 have hn:=line63
 exact tail_any (typeIs_str s z t) slot_str_getitem.lookup (getItem_str (c:=c) (by
  have e1:decide (i < -(2^63:Int))=false:=decide_eq_false (by omega)
  have e2:decide (i≥2^63)=false:=decide_eq_false (by omega)
  rw[e1,e2,Bool.or_false]) (by rw[h1];simpa using h2) ⟨.str ⟨#[c]⟩,H,I.tok _,⟨_,rfl⟩,q⟩) hs
theorem mapSeq_set (its:List Value) (n j:Nat) (u:Value):Obj.mapSeq (·.setIfInBounds j u) {cls:=.type "list",data:=.seq its.toArray n}={cls:=.type "list",data:=.seq (its.set j u).toArray n}:=by
 simp [Obj.mapSeq]
theorem Inv.lst {pins:List (Addr×Obj)} {σ:St} {H:Hp} {s:Shared} {p:Addr} {xs:List V} (I:Inv X pins σ H s) (h:H p=some (.lst xs)):
  ∃(its:List Value) (n:Nat),Vals xs its∧s.heap.get? p=some {cls:=.type "list",data:=.seq its.toArray n}∧xs.length≤sizeLine:=by
 obtain⟨z,its,n,r,e⟩:=I.hok p _ h
 exact⟨its,n,r,e,z⟩
theorem Inv.lstUpd {pins:List (Addr×Obj)} {σ:St} {H:Hp} {s:Shared} {p:Addr} {xs ys:List V} {its its':List Value} {n n':Nat} {f:Obj→Obj} (I:Inv X pins σ H s) (h:H p=some (.lst xs))
  (ho:s.heap.get? p=some {cls:=.type "list",data:=.seq its.toArray n}) (hf:f {cls:=.type "list",data:=.seq its.toArray n}={cls:=.type "list",data:=.seq its'.toArray n'}) (r:Vals ys its') (hz:ys.length≤sizeLine) (t:Nat):
  Inv X pins σ (upd H p (.lst ys)) {s with heap:=s.heap.update p f,toks:=t}:=by
 have e:(s.heap.update p f).get? p=some {cls:=.type "list",data:=.seq its'.toArray n'}:=by
  rw[Heap.get?_update_self f ho (by rw[hf] <;>rfl),hf]
 refine I.write (x:=p) (e:=p) (by rw[h];trivial) (.inl rfl) (fun b u hb q=>(Heap.get?_update_other _ _ (Ne.symm hb)).trans q) ⟨_,e⟩ ?_
 exact⟨hz,its',n',r,e⟩
noncomputable def rSetL:V→V→V→Hp→(Hp→Prop)→Prop:=fun o i v H Q=>∃p xs k j,o=.ref p∧i=.int k∧H p=some (.lst xs)∧ixN xs.length k=some j∧Q (upd H p (.lst (xs.set j v)))
theorem set_list:PSet X rSetL:=by
 intro pins s σ H o i v ov iv u Q I ro ri rv h
 obtain⟨p,xs,k,j,rfl,rfl,hp,hj,q⟩:=h
 cases ro
 obtain⟨t,rfl⟩:=ri
 obtain⟨its,n,r,ho,hz⟩:=I.lst hp
 obtain⟨h1,h2,h3,h4⟩:=ixN_seq hj
 have hl:=r.length
 have hn:=line63
 have I':Inv X pins σ (upd H p (.lst (xs.set j v))) {s with heap:=s.heap.update p (Obj.mapSeq (·.setIfInBounds j u))}:=
  I.lstUpd hp ho (mapSeq_set its n j u) (r.set rv j) (by rw[List.length_set];exact hz) s.toks
 by_cases h0:0≤k
 ·have hk:k.toNat=j:=by
   rw[seqIndex_of h0 h4] at h1
   exact Option.some.inj h1
  exact PySem.W.ki_setAt ho h0 (by omega) (by rw[List.size_toArray,←hl];exact h4) (by rw[hk];exact⟨_,I',q⟩)
 ·have hk:(k+ (its.toArray.size:Int)).toNat=j:=by
   rw[seqIndex_neg (by omega) h3] at h1
   rw[List.size_toArray,←hl]
   exact Option.some.inj h1
  exact PySem.W.ki_setBack ho (by omega) (by rw[List.size_toArray,←hl];exact h3) (by omega) (by rw[hk];exact⟨_,I',q⟩)
theorem slice_bounds (lo hi:Option Int) (n:Nat):(sliceBounds lo hi none n).1=((HT.sIx n 0 lo:Nat):Int)∧(sliceBounds lo hi none n).2.1=((HT.sIx n n hi:Nat):Int)∧(sliceBounds lo hi none n).2.2=1:=by
 refine⟨?_,?_,rfl⟩
 ·cases lo with
  | none=>simp [sliceBounds,HT.sIx]
  | some i=>
   simp only[sliceBounds,HT.sIx,Option.getD_none,show(1:Int) >0 by decide,if_true]
   by_cases h:i<0
   ·simp only[h,if_true] <;>omega
   ·simp only[h,if_false] <;>omega
 ·cases hi with
  | none=>simp [sliceBounds,HT.sIx]
  | some i=>
   simp only[sliceBounds,HT.sIx,Option.getD_none,show(1:Int) >0 by decide,if_true]
   by_cases h:i<0
   ·simp only[h,if_true] <;>omega
   ·simp only[h,if_false] <;>omega
theorem slicePick_cut (its:List Value) (lo hi:Option Int):slicePick its.toArray lo hi none=((its.drop (HT.sIx its.length 0 lo)).take (HT.sIx its.length its.length hi - HT.sIx its.length 0 lo)).toArray:=by
 obtain⟨h1,h2,h3⟩:=slice_bounds lo hi its.toArray.size
 unfold slicePick
 rw[h1,h2,h3]
 simp only[sliceRange_one,pick_run,List.size_toArray] <;>rfl
noncomputable def rSlL (K:PySem.W.Frag):V→Option Int→Option Int→Hp→VK→Prop:=fun x lo hi H Q=>∃a xs,x=.ref a∧SqL K H a xs∧∀p,H p=none→Q (.ref p) (upd H p (.lst (cutV xs lo hi)))
theorem sl_list:SlR X (rSlL X.K):=by
 intro pins s σ H x v vl vu lo hi sl Q I rx hs pl pu h
 obtain⟨a,xs,rfl,hx,q⟩:=h
 cases rx
 obtain⟨its,r,ht,hz⟩:=I.list hx
 have hlen:=r.length
 refine⟨"list",_,slot_list_getitem.lookup,ht.isList.typeIs,?_⟩
 refine wpAny_getItem_list_slice ht.isList hs pl pu .none (by simp) ?_ (by rw[List.size_toArray] <;>omega)
 rw[slicePick_cut,←hlen]
 refine⟨.ref s.heap.objs.size,_,I.laid (t':=s.toks) (o:=.lst (cutV xs lo hi)) (fun b ob q=>Heap.get?_push_of_some _ q) (Nat.le_refl _) ?_,rfl,q _ (I.hok.fresh (Nat.le_refl _))⟩
 exact⟨Nat.le_trans (cutV_length xs lo hi) hz,_,0,(r.drop (HT.sIx xs.length 0 lo)).take (HT.sIx xs.length xs.length hi - HT.sIx xs.length 0 lo),Heap.get?_push_size _ rfl⟩
noncomputable def flatV:V→Bool
 | .non=>true
 | .bl _=>true
 | .int _=>true
 | .str _=>true
 | _=>false
noncomputable def eqV:V→V→Bool
 | .non,.non=>true
 | .bl a,.bl b=>a==b
 | .bl a,.int b=>(if a then 1 else 0)==b
 | .int a,.bl b=>a==(if b then 1 else 0)
 | .int a,.int b=>a==b
 | .str a,.str b=>a==b
 | _,_=>false
theorem eqAt_V {A:Around} {s:Shared} {y x:V} {u v:Value} (ry:RelV y u) (rx:RelV x v) (fy:flatV y=true) (fx:flatV x=true):SeqAt.EqAt A s u v (eqV y x):=by
 cases y with
 | non=>
  cases ry
  cases x with
  | non=>cases rx;exact SeqAt.EqAt.same _
  | bl b=>cases rx;exact SeqAt.EqAt.none_bool b
  | int b=>obtain⟨t,rfl⟩:=rx;exact SeqAt.EqAt.none_int b t
  | str b=>obtain⟨t,rfl⟩:=rx;exact SeqAt.EqAt.none_str b t
  | _=>exact absurd (show false=true from fx) Bool.false_ne_true
 | bl a=>
  cases ry
  cases x with
  | non=>cases rx;exact SeqAt.EqAt.bool_none a
  | bl b=>cases rx;exact SeqAt.EqAt.bool_bool a b
  | int b=>obtain⟨t,rfl⟩:=rx;exact SeqAt.EqAt.bool_int a b t
  | str b=>obtain⟨t,rfl⟩:=rx;exact SeqAt.EqAt.bool_str a b t
  | _=>exact absurd (show false=true from fx) Bool.false_ne_true
 | int a=>
  obtain⟨t',rfl⟩:=ry
  cases x with
  | non=>cases rx;exact SeqAt.EqAt.int_none a t'
  | bl b=>cases rx;exact SeqAt.EqAt.int_bool a t' b
  | int b=>obtain⟨t,rfl⟩:=rx;exact SeqAt.EqAt.int_int a t' b t
  | str b=>obtain⟨t,rfl⟩:=rx;exact SeqAt.EqAt.int_str a t' b t
  | _=>exact absurd (show false=true from fx) Bool.false_ne_true
 | str a=>
  obtain⟨t',rfl⟩:=ry
  cases x with
  | non=>cases rx;exact SeqAt.EqAt.str_none a t'
  | bl b=>cases rx;exact SeqAt.EqAt.str_bool a t' b
  | int b=>obtain⟨t,rfl⟩:=rx;exact SeqAt.EqAt.str_int a t' b t
  | str b=>obtain⟨t,rfl⟩:=rx;exact SeqAt.EqAt.str_str a t' b t
  | _=>exact absurd (show false=true from fx) Bool.false_ne_true
 | _=>exact absurd (show false=true from fy) Bool.false_ne_true
noncomputable def eqU (x:V) (u:Value):Bool:=match u with
 | .none=>eqV .non x
 | .bool b=>eqV (.bl b) x
 | .int i _=>eqV (.int i) x
 | .str z _=>eqV (.str z) x
 | _=>false
theorem eqU_of {x y:V} {u:Value} (r:RelV y u) (f:flatV y=true):eqU x u=eqV y x:=by
 cases y with
 | non=>cases r;rfl
 | bl b=>cases r;rfl
 | int i=>obtain⟨t,rfl⟩:=r;rfl
 | str z=>obtain⟨t,rfl⟩:=r;rfl
 | _=>exact absurd (show false=true from f) Bool.false_ne_true
theorem any_eqU {x:V}:∀{xs:List V} {us:List Value},Vals xs us→xs.all flatV=true→us.any (eqU x)=xs.any fun y=>eqV y x
 | _,_,.nil,_=>rfl
 | y::xs,u::us,.cons r t,f=>by
  rw[List.all_cons,Bool.and_eq_true] at f
  rw[List.any_cons,List.any_cons,eqU_of r f.1,any_eqU t f.2]
theorem mem_eqAt {A:Around} {s:Shared} {x:V} {v:Value} (rx:RelV x v) (fx:flatV x=true):∀{xs:List V} {us:List Value},Vals xs us→xs.all flatV=true→∀u∈us,SeqAt.EqAt A s u v (eqU x u)
 | _,_,.nil,_=>fun u hu=>by cases hu
 | y::xs,u::us,.cons r t,f=>fun u' hu=>by
  rw[List.all_cons,Bool.and_eq_true] at f
  rcases List.mem_cons.mp hu with rfl | hu
  ·rw[eqU_of r f.1];exact eqAt_V r rx f.1 fx
  ·exact mem_eqAt rx fx t f.2 u' hu
noncomputable def inV (x:V) (xs:List V):Bool:=xs.any fun y=>eqV y x
noncomputable def rIn (K:PySem.W.Frag) (neg:Bool):R2:=fun x y H Q=>∃p xs,y=.ref p∧(SqL K H p xs∨SqT K H p xs)∧flatV x=true∧xs.all flatV=true∧Q (.bl (if neg then !inV x xs else inV x xs)) H
theorem op_in_seq:OpR X (compareOp .In) (rIn X.K false):=by
 intro pins s σ H x y v u Q I rx ry h
 obtain⟨p,xs,rfl,hq,fx,fs,q⟩:=h
 cases ry
 rcases hq with hq | hq
 ·obtain⟨its,r,pl,hz⟩:=I.list hq
  refine SeqAt.in_listAt (eqU x) pl.isList (fun w hw=>mem_eqAt rx fx r fs w (by simpa using hw)) ⟨.bl _,H,I,rfl,?_⟩
  rw[show its.toArray.any (eqU x)=its.any (eqU x) by simp,any_eqU r fs]
  exact q
 ·obtain⟨its,r,pl,hz⟩:=I.tuple hq
  refine SeqAt.in_tupleAt (eqU x) pl (fun w hw=>mem_eqAt rx fx r fs w (by simpa using hw)) ⟨.bl _,H,I,rfl,?_⟩
  rw[show its.toArray.any (eqU x)=its.any (eqU x) by simp,any_eqU r fs]
  exact q
theorem op_notIn_seq:OpR X (compareOp .NotIn) (rIn X.K true):=by
 intro pins s σ H x y v u Q I rx ry h
 obtain⟨p,xs,rfl,hq,fx,fs,q⟩:=h
 cases ry
 rcases hq with hq | hq
 ·obtain⟨its,r,pl,hz⟩:=I.list hq
  refine SeqAt.notIn_listAt (eqU x) pl.isList (fun w hw=>mem_eqAt rx fx r fs w (by simpa using hw)) ⟨.bl _,H,I,rfl,?_⟩
  rw[show its.toArray.any (eqU x)=its.any (eqU x) by simp,any_eqU r fs]
  exact q
 ·obtain⟨its,r,pl,hz⟩:=I.tuple hq
  refine SeqAt.notIn_tupleAt (eqU x) pl (fun w hw=>mem_eqAt rx fx r fs w (by simpa using hw)) ⟨.bl _,H,I,rfl,?_⟩
  rw[show its.toArray.any (eqU x)=its.any (eqU x) by simp,any_eqU r fs]
  exact q
theorem call_len_seq:CallR X (.builtin "len") (fun xs H Q=>∃p ys,xs=[.ref p]∧(SqL X.K H p ys∨SqT X.K H p ys)∧Q (.int ys.length) H):=by
 intro pins s σ H xs us Q I r h
 obtain⟨p,ys,rfl,hq,q⟩:=h
 obtain⟨u,rfl,rx⟩:=vals1 r
 cases rx
 have hn:=line63
 rcases hq with hq | hq
 ·obtain⟨its,r',pl,hz⟩:=I.list hq
  have hlen:=r'.length
  exact Calls.call_len_list pl.isList (by simp only[List.size_toArray] <;>omega) ⟨.int ys.length,H,I.tok _,⟨s.toks+1,by rw[List.size_toArray,hlen]⟩,q⟩
 ·obtain⟨its,r',pl,hz⟩:=I.tuple hq
  have hlen:=r'.length
  exact len_tuple pl (by simp only[List.size_toArray] <;>omega) ⟨.int ys.length,H,I.tok _,⟨s.toks+1,by rw[List.size_toArray,hlen]⟩,q⟩
theorem call_len_str:CallR X (.builtin "len") (fun xs H Q=>∃z,xs=[.str z]∧z.length≤sizeLine∧Q (.int z.length) H):=by
 intro pins s σ H xs us Q I r h
 obtain⟨z,rfl,hz,q⟩:=h
 obtain⟨u,rfl,t,rfl⟩:=vals1 r
 have hn:=line63
 exact len_str (by omega) ⟨.int z.length,H,I.tok _,⟨_,rfl⟩,q⟩
theorem call_list_of:CallR X (.type "list") (fun xs H Q=>∃p ys,xs=[.ref p]∧(SqL X.K H p ys∨SqT X.K H p ys)∧∀l,H l=none→Q (.ref l) (upd H l (.lst ys))):=by
 intro pins s σ H xs us Q I r h
 obtain⟨p,ys,rfl,hq,q⟩:=h
 obtain⟨u,rfl,rx⟩:=vals1 r
 cases rx
 have fin:∀(its:List Value),Vals ys its→ys.length≤sizeLine→∀(h':Heap) (c':Nat),(∀b o',s.heap.get? b=some o'→h'.get? b=some o')→
   h'.get? s.heap.objs.size=some {cls:=.type "list",dict:=none,data:=.seq its.toArray c',slots:=#[]}→EP X pins σ Q (.ref s.heap.objs.size) {s with heap:=h'}:=fun its r' hz h' c' kp e=>
  ⟨.ref s.heap.objs.size,_,I.laid (t':=s.toks) kp (Nat.le_refl _) (show ObjOk X.prog X.w _ h' _ (.lst ys) from⟨hz,its,c',r',e⟩),rfl,q _ (I.hok.fresh (Nat.le_refl _))⟩
 rcases hq with hq | hq
 ·obtain⟨its,r',pl,hz⟩:=I.list hq
  have hlen:=r'.length
  obtain⟨o,ho,hc,n,hd⟩:=pl.isList
  exact call_list_seq p (.inl rfl) ho hc hd (fun h' c' kp e=>fin its r' hz h' c' kp e) (by simp only[List.size_toArray] <;>omega)
 ·obtain⟨its,r',pl,hz⟩:=I.tuple hq
  have hlen:=r'.length
  obtain⟨o,ho,hc,n,hd⟩:=pl
  exact call_list_seq p (.inr rfl) ho hc hd (fun h' c' kp e=>fin its r' hz h' c' kp e) (by simp only[List.size_toArray] <;>omega)
noncomputable def tyV (K:PySem.W.Frag) (T:String) (x:V) (H:Hp):Prop:=match x with
 | .str _=>T="str"
 | .int _=>T="int"
 | .ref p=>(T="list"∧∃xs,SqL K H p xs)∨(T="tuple"∧∃o,K.lookup p=some o∧o.cls=.type "tuple"∧o.dict=none)∨
   (T="dict"∧((∃kvs,H p=some (.dK kvs))∨∃kvs,H p=some (.dT kvs)))∨(T="set"∧∃S n,H p=some (.set S n))
 | _=>False
theorem tyV_is {pins:List (Addr×Obj)} {σ:St} {H:Hp} {s:Shared} {T:String} {x:V} {v:Value} (I:Inv X pins σ H s) (r:RelV x v) (ty:tyV X.K T x H):
  s.TypeIs v T∧∀a,v=.ref a→∃ob,s.heap.get? a=some ob∧ob.dict=none:=by
 cases x with
 | str z=>
  obtain⟨t,rfl⟩:=r
  cases (show T="str" from ty)
  exact⟨typeIs_str s z t,fun _ e=>nomatch e⟩
 | int i=>
  obtain⟨t,rfl⟩:=r
  cases (show T="int" from ty)
  exact⟨typeIs_int s i t,fun _ e=>nomatch e⟩
 | ref p=>
  cases r
  rcases ty with ⟨rfl,xs,hq⟩ | ⟨rfl,o,hk,hc,hd⟩ | ⟨rfl,hk⟩ | ⟨rfl,S,n,hk⟩
  ·obtain⟨its,_,pl,_⟩:=I.list hq
   refine⟨pl.isList.typeIs,fun a e=>?_⟩
   cases e
   obtain⟨o,n,e,c,hd,_⟩:=pl
   exact⟨o,e,hd⟩
  ·refine⟨⟨o,I.kIn p o hk,hc⟩,fun a e=>?_⟩
   cases e
   exact⟨o,I.kIn _ o hk,hd⟩
  ·have z:∃o,s.heap.get? p=some o∧o.ExactDict:=by
    rcases hk with ⟨kvs,hk⟩ | ⟨kvs,hk⟩
    ·obtain⟨_,_,_,_,o,_,_,e,ex,_⟩:=I.hok p _ hk
     exact⟨o,e,ex⟩
    ·obtain⟨_,_,_,_,o,_,_,e,ex,_⟩:=I.hok p _ hk
     exact⟨o,e,ex⟩
   obtain⟨o,e,ex⟩:=z
   refine⟨⟨o,e,ex.1⟩,fun a e2=>?_⟩
   cases e2
   exact⟨o,e,ex.2.1⟩
  ·obtain⟨o,_,_,_,e,ex,_⟩:=I.hok p _ hk
   refine⟨⟨o,e,ex.1⟩,fun a e2=>?_⟩
   cases e2
   exact⟨o,e,ex.2.1⟩
 | _=>exact False.elim ty
noncomputable def tBM0 (K:PySem.W.Frag) (T:String) (r:V→List V→Hp→VK→Prop) (to:TE):TE:=fun σ H Q=>to σ H fun x H1=>tyV K T x H1∧r x [] H1 Q
noncomputable def tBM (K:PySem.W.Frag) (T:String) (r:V→List V→Hp→VK→Prop) (to:TE) (t:TA):TE:=fun σ H Q=>to σ H fun x H1=>tyV K T x H1∧t σ H1 fun xs H2=>r x xs H2 Q
variable {o e : Expr} {es : List Expr} {to : TE} {t : TA} {name : Str} {apos cpos : Pos} {T id : String} {r : V → List V → Hp → VK → Prop}
theorem pe_bm0 (pa:PlainAttrs T) (slot:Slot T name id) (hty:typeOf (.builtin id)=pure (.type "method_descriptor")) (hm:MtR X id r) (ho:PE X o to)
  (hbase:attributeBase o name X.env (eval o X.env)=eval o X.env:=by rfl) (hline:(apos.endLine==cpos.line)=true:=by rfl):PE X (.Call (.Attribute o name apos) [] [] cpos) (tBM0 X.K T r to):=by
 intro pins s σ H Q I h
 refine wpAny_Call_method0_late hbase hline (thn (ho pins s σ H _ I h) fun v s1 hh_=>?_)
 obtain⟨x,H1,I1,r1,ty,q1⟩:=hh_
 obtain⟨h1,h2⟩:=tyV_is I1 r1 ty
 exact⟨T,id,pa,slot,hty,h1,h2,Calls.callWith_builtin rfl (PySem.evalArgs_none (hm pins s1 σ H1 x [] v [] Q I1 r1 .nil q1))⟩
theorem pe_bm (pa:PlainAttrs T) (slot:Slot T name id) (hty:typeOf (.builtin id)=pure (.type "method_descriptor")) (hm:MtR X id r) (ho:PE X o to) (ha:PA X (e::es) t)
  (hbase:attributeBase o name X.env (eval o X.env)=eval o X.env:=by rfl)
  (hfew:((backTo cpos (starEach (e::es) X.env)).all (fun x=>!x.1) && (backToKw cpos (keywordEach [] X.env)).all (fun x=>x.1.isSome)
   && decide ((e::es).length+ ([]:List Keyword).length+ (if ([]:List Keyword).isEmpty then 0 else 1)<30))=true:=by rfl)
  (hline:(apos.endLine==cpos.line)=true:=by rfl) (hs:starEach (e::es) X.env=(false,eval e X.env)::starEach es X.env:=by rfl) (hplain:(backTo cpos (starEach es X.env)).any (·.1)=false:=by rfl):
  PE X (.Call (.Attribute o name apos) (e::es) [] cpos) (tBM X.K T r to t):=by
 intro pins s σ H Q I h
 refine wpAny_Call_method_late hbase hfew hline rfl (thn (ho pins s σ H _ I h) fun v s1 hh_=>?_)
 obtain⟨x,H1,I1,r1,ty,q1⟩:=hh_
 obtain⟨h1,h2⟩:=tyV_is I1 r1 ty
 refine⟨T,id,pa,slot,hty,h1,h2,?_⟩
 have hA:=ha cpos pins s1 σ H1 _ I1 q1
 rw[hs] at hA ⊢
 refine Calls.callWith_builtin (by show(false || (backTo cpos (starEach es X.env)).any (·.1))=false;rw[hplain] <;>rfl) (Calls.evalArgs_plain ?_)
 exact thn hA fun us s2 ⟨vs,H2,I2,r2,q2⟩=>hm pins s2 σ H2 x vs v us Q I2 r1 r2 q2
end
end L2
namespace L2
open PySem PySem.Spec PyProof.Rows
noncomputable def MtM (X:Cx) (id:String) (r:V→List V→Hp→VK→Prop):Prop:=
 ∀(pins:List (Addr×Obj)) (s:Shared) (σ:St) (H:Hp) (x:V) (xs:List V) (v:Value) (us:List Value) (Q:VK),Inv X pins σ H s→RelV x v→Vals xs us→r x xs H Q→
  wpAny (model X.prog X.w) X.A (call (.builtin id) (v::us)) (EP X pins σ Q) X.xe s
theorem Vals.one:∀{x:V} {us:List Value},Vals [x] us→∃u,us=[u]∧RelV x u
 | _,_,.cons r .nil=>⟨_,rfl,r⟩
theorem Vals.zero:∀{us:List Value},Vals [] us→us=[]
 | _,.nil=>rfl
theorem Vals.dropLast {xs:List V} {us:List Value} (h:Vals xs us):Vals xs.dropLast us.dropLast:=by
 induction h with
 | nil=>exact .nil
 | cons r t ih=>
  cases t with
  | nil=>exact .nil
  | cons q t'=>exact .cons r ih
theorem Vals.rep {xs:List V} {us:List Value} (h:Vals xs us):∀k:Nat,Vals (List.replicate k xs).flatten (List.replicate k us).flatten
 | 0=>.nil
 | k+1=>by
  rw[List.replicate_succ,List.replicate_succ,List.flatten_cons,List.flatten_cons]
  exact Vals.append h (Vals.rep h k)
theorem erase_last {α:Type} (l:List α):l.eraseIdx (l.length - 1)=l.dropLast:=by
 induction l with
 | nil=>rfl
 | cons a r ih=>
  cases r with
  | nil=>rfl
  | cons b r=>
   have e:(a::b::r).length - 1=((b::r).length - 1)+1:=by
    have h1:(a::b::r).length=r.length+2:=rfl
    have h2:(b::r).length=r.length+1:=rfl
    omega
   rw[e,List.eraseIdx_cons_succ,ih]
   all_goals rfl
theorem foldl_rep (its:List Value):∀(k:Nat) (acc:List Value),
  List.foldl (fun x1 x2=>x1++x2) acc.toArray (List.replicate k its.toArray)=(acc++ (List.replicate k its).flatten).toArray
 | 0,acc=>by simp
 | k+1,acc=>by
  have e:acc.toArray++its.toArray=(acc++its).toArray:=by simp
  have e2:(acc++its)++ (List.replicate k its).flatten=acc++ (List.replicate (k+1) its).flatten:=by
   rw[List.replicate_succ,List.flatten_cons,List.append_assoc]
  rw[←e2,←foldl_rep its k (acc++its),←e,List.replicate_succ,List.foldl_cons]
section
variable {X : Cx} {pins : List (Addr × Obj)} {σ : St} {H : Hp} {s : Shared} {l b : Addr} {xs ys zs : List V}
theorem Inv.lset {its its':List Value} {n:Nat} {f:Array Value→Array Value} {t':Nat} (I:Inv X pins σ H s) (hH:H l=some (.lst xs))
  (e:s.heap.get? l=some {cls:=.type "list",data:=.seq its.toArray n}) (hf:f its.toArray=its'.toArray) (hv:Vals ys its') (hz:ys.length≤sizeLine):
  Inv X pins σ (upd H l (.lst ys)) {s with heap:=s.heap.update l (Obj.mapSeq f),toks:=t'}:=by
 have q:=PySem.IsL.update e f
 rw[hf] at q
 refine I.write (x:=l) (e:=l) (by rw[hH];exact trivial) (.inl rfl) (fun b' u hb hu=>(Heap.get?_update_other s.heap (Obj.mapSeq f) (Ne.symm hb)).trans hu) ⟨_,q⟩ ?_
 exact⟨hz,its',_,hv,q⟩
theorem Inv.lnew {its:List Value} {t':Nat} (I:Inv X pins σ H s) (hv:Vals ys its) (hz:ys.length≤sizeLine):
  Inv X pins σ (upd H s.heap.objs.size (.lst ys)) {s with heap:=s.heap.push {cls:=.type "list",data:=.seq its.toArray},toks:=t'}:=
 I.laid (fun _ _ q=>Heap.get?_push_of_some _ q) (Nat.le_refl _) ⟨hz,its,0,hv,Heap.get?_push_size _ rfl⟩
theorem Inv.fresh (I:Inv X pins σ H s):H s.heap.objs.size=none:=I.hok.fresh (Nat.le_refl _)
theorem Inv.lstM (I:Inv X pins σ H s) (hH:H l=some (.lst xs)):xs.length≤sizeLine∧∃(its:List Value) (n:Nat),Vals xs its∧xs.length=its.length∧s.heap.get? l=some {cls:=.type "list",data:=.seq its.toArray n}:=by
 obtain⟨z,its,n,r,e⟩:=I.hok l _ hH
 exact⟨z,its,n,r,r.length,e⟩
theorem notLongL {n:Nat} (h:n≤sizeLine):Builtin.List.listTooLong n=false:=by
 unfold Builtin.List.listTooLong
 exact decide_eq_false (by omega)
end
section
variable {X : Cx}
noncomputable def rAppend:V→List V→Hp→VK→Prop:=fun x vs H Q=>∃l xs y,x=.ref l∧vs=[y]∧H l=some (.lst xs)∧xs.length<sizeLine∧Q .non (upd H l (.lst (xs++ [y])))
theorem mt_append:MtM X "list.append" rAppend:=by
 intro pins s σ H x vs v us Q I rx rv h
 obtain⟨l,xs,y,rfl,rfl,hH,hz,q⟩:=h
 cases rx
 obtain⟨u,rfl,ru⟩:=rv.one
 obtain⟨z,its,n,r,hl,e⟩:=I.lstM hH
 refine call_meets F.slot_list_append ⟨_,e,rfl⟩ F.entry_list_append (F.args_list_append_2 _ _) (PySem.list_append l its.toArray n u (by rw[List.size_toArray];omega)) ⟨e,?_⟩
 refine⟨.non,_,I.lset (its':=its++ [u]) hH e (by simp) (r.append (.cons ru .nil)) ?_,rfl,q⟩
 rw[List.length_append,List.length_singleton]
 omega
noncomputable def rExtend:V→List V→Hp→VK→Prop:=fun x vs H Q=>∃l b xs zs,x=.ref l∧vs=[.ref b]∧H l=some (.lst xs)∧H b=some (.lst zs)∧xs.length+zs.length≤sizeLine∧Q .non (upd H l (.lst (xs++zs)))
theorem mt_extend:MtM X "list.extend" rExtend:=by
 intro pins s σ H x vs v us Q I rx rv h
 obtain⟨l,b,xs,zs,rfl,rfl,hH,hB,hz,q⟩:=h
 cases rx
 obtain⟨u,rfl,ru⟩:=rv.one
 cases ru
 obtain⟨z,its,n,r,hl,e⟩:=I.lstM hH
 obtain⟨z2,its2,n2,r2,hl2,e2⟩:=I.lstM hB
 have hsz:its.toArray.size+its2.toArray.size≤sizeLine:=by rw[List.size_toArray,List.size_toArray];omega
 have hlong:¬(!its.toArray.isEmpty && Builtin.List.listTooLong (its.toArray.size+its2.toArray.size))=true:=by
  rw[notLongL hsz,Bool.and_false]
  exact Bool.false_ne_true
 refine call_meets F.slot_list_extend ⟨_,e,rfl⟩ F.entry_list_extend (F.args_list_extend_2 _ _)
  (AutoSeq1.list_extend_list_list_0 l its.toArray n b its2.toArray n2 hlong (by rw[List.size_toArray];omega) (by omega)) ⟨e,e2,?_⟩
 refine⟨.non,_,I.lset (its':=its++its2) hH e (by simp) (r.append r2) ?_,rfl,q⟩
 rw[List.length_append]
 omega
noncomputable def rPop:V→List V→Hp→VK→Prop:=fun x vs H Q=>∃l xs y,x=.ref l∧vs=[]∧H l=some (.lst xs)∧xs[xs.length - 1]?=some y∧Q y (upd H l (.lst xs.dropLast))
theorem mt_pop:MtM X "list.pop" rPop:=by
 intro pins s σ H x vs v us Q I rx rv h
 obtain⟨l,xs,y,rfl,rfl,hH,hy,q⟩:=h
 cases rx
 have hus:=rv.zero
 subst hus
 obtain⟨z,its,n,r,hl,e⟩:=I.lstM hH
 obtain⟨u,hu,ru⟩:=r.get hy
 have hy':its.toArray[its.toArray.size - 1]?=some u:=by
  show its.toArray[its.length - 1]?=some u
  rw[←Array.getElem?_toList,←hl]
  exact hu
 refine call_meets F.slot_list_pop ⟨_,e,rfl⟩ F.entry_list_pop (F.args_list_pop_1 _) (MeetsSeq.list_pop_last l its.toArray n u hy' (by rw[List.size_toArray];omega)) ⟨e,?_⟩
 refine⟨y,_,I.lset (its':=its.dropLast) hH e ?_ r.dropLast ?_,ru,q⟩
 ·show its.toArray.eraseIdxIfInBounds (its.toArray.size - 1)=its.dropLast.toArray
  rw[List.size_toArray,List.eraseIdxIfInBounds_toArray,erase_last]
 ·rw[List.length_dropLast]
  omega
noncomputable def rCat:R2:=fun x y H Q=>∃l b xs zs,x=.ref l∧y=.ref b∧H l=some (.lst xs)∧H b=some (.lst zs)∧xs.length+zs.length≤sizeLine∧∀p,H p=none→Q (.ref p) (upd H p (.lst (xs++zs)))
theorem op_cat:OpR X (binaryOp .Add) rCat:=by
 intro pins s σ H x y v u Q I rx ry h
 obtain⟨l,b,xs,zs,rfl,rfl,hH,hB,hz,q⟩:=h
 cases rx
 cases ry
 obtain⟨z,its,n,r,hl,e⟩:=I.lstM hH
 obtain⟨z2,its2,n2,r2,hl2,e2⟩:=I.lstM hB
 refine PySem.P.add_list e e2 ?_ (by rw[List.size_toArray,List.size_toArray];omega)
 have ea:its.toArray++its2.toArray=(its++its2).toArray:=by simp
 rw[ea]
 exact⟨.ref _,_,I.lnew (t':=s.toks) (r.append r2) (by rw[List.length_append];omega),rfl,q _ I.fresh⟩
noncomputable def rRep:R2:=fun x y H Q=>∃l k xs,x=.ref l∧y=.int k∧H l=some (.lst xs)∧-(2^63)≤k∧k<2^63∧xs.length*k.toNat≤sizeLine∧
 ∀p,H p=none→Q (.ref p) (upd H p (.lst (List.replicate k.toNat xs).flatten))
theorem len_rep {α:Type} (xs:List α) (k:Nat):(List.replicate k xs).flatten.length=k*xs.length:=by
 induction k with
 | zero=>simp
 | succ k ih=>rw[List.replicate_succ,List.flatten_cons,List.length_append,ih,Nat.succ_mul,Nat.add_comm]
theorem op_rep:OpR X (binaryOp .Mult) rRep:=by
 intro pins s σ H x y v u Q I rx ry h
 obtain⟨l,k,xs,rfl,rfl,hH,h1,h2,hz,q⟩:=h
 cases rx
 obtain⟨t,rfl⟩:=ry
 obtain⟨z,its,n,r,hl,e⟩:=I.lstM hH
 have hlen:its.toArray.size*k.toNat≤sizeLine:=by rw[List.size_toArray,←hl];exact hz
 have hcap:¬its.toArray.size*k.toNat >(2^63 - 1) / 8:=by
  have:(sizeLine:Nat)≤(2^63 - 1) / 8:=by decide
  omega
 have hfit:¬(!Builtin.List.listFitsIndex k)=true:=by
  rw[fitsIndex_both h1 h2]
  exact Bool.false_ne_true
 have hlong:¬Builtin.List.listTooLong (its.toArray.size*k.toNat)=true:=by
  rw[notLongL hlen]
  exact Bool.false_ne_true
 have hnew:List.foldl (fun x1 x2=>x1++x2) #[] (List.replicate (if its.toArray.isEmpty=true then 0 else k.toNat) its.toArray)=(List.replicate k.toNat its).flatten.toArray:=by
  have f0:∀m:Nat,List.foldl (fun x1 x2=>x1++x2) #[] (List.replicate m its.toArray)=(List.replicate m its).flatten.toArray:=fun m=>by
   have:=foldl_rep its m []
   rw[List.nil_append] at this
   exact this
  rw[f0]
  cases its with
  | nil=>simp
  | cons a r'=>rw[if_neg (by simp)]
 refine wpAny_binaryOp_repeat_ref (T:="list") (U:="int") (by decide) ⟨_,e,rfl⟩ (fun s'=>typeIs_int s' k t) noFill_list_mul F.fills_int_mul F.slot_int_rmul repeat_list F.slot_int_index.lookup
  (call_meets F.slot_int_rmul (typeIs_int s k t) F.entry_int_rmul (F.args_int_rmul_2 _ _) (int___rmul___int_list k t l its.toArray n)
   ⟨e,rfl,⟨_,e,rfl⟩,call_meets F.slot_list_mul ⟨_,e,rfl⟩ F.entry_list_mul (F.args_list_mul_2 _ _) (AutoListH.list___mul___list_int_3 l its.toArray n k t hfit hcap hlong) ⟨e,?_⟩⟩)
 rw[hnew]
 exact⟨.ref _,_,I.lnew (t':=s.toks) (r.rep k.toNat) (by rw[len_rep,Nat.mul_comm];exact hz),rfl,q _ I.fresh⟩
end
section
variable {prog : Program} {w : World} {A : Around} {E : Value → Shared → Prop} {s : Shared}
end
section
variable {X : Cx}
end
end L2
namespace L2
open PySem PySem.Spec PyProof.Rows
section
variable {κ : Type} [DecidableEq κ]
noncomputable def valV (kvs:List (κ×V)) (k:κ):Option V:=(kvs.find? fun kv=>decide (kv.1=k)).map (·.2)
noncomputable def putK (kvs:List (κ×V)) (k:κ) (v:V):List (κ×V):=
 if (kvs.any fun kv=>decide (kv.1=k))=true then kvs.map (fun kv=>if kv.1=k then (kv.1,v) else kv) else kvs++ [(k,v)]
noncomputable def dropK (kvs:List (κ×V)) (k:κ):List (κ×V):=kvs.filter fun kv=>decide (kv.1≠k)
theorem valV_pos {p:κ×V} {r:List (κ×V)} {k:κ} (e:p.1=k):valV (p::r) k=some p.2:=by simp [valV,List.find?_cons,e]
theorem valV_neg {p:κ×V} {r:List (κ×V)} {k:κ} (e:¬p.1=k):valV (p::r) k=valV r k:=by simp [valV,List.find?_cons,e]
theorem valV_any (k:κ):∀kvs:List (κ×V),(kvs.any fun kv=>decide (kv.1=k))=(valV kvs k).isSome
 | []=>rfl
 | p::r=>by
  rw[List.any_cons]
  by_cases e:p.1=k
  ·simp only[valV_pos e,decide_eq_true e,Bool.true_or,Option.isSome_some]
  ·rw[valV_neg e,decide_eq_false e,Bool.false_or];exact valV_any k r
theorem length_putK (kvs:List (κ×V)) (k:κ) (v:V):(putK kvs k v).length≤kvs.length+1:=by
 unfold putK
 split
 ·rw[List.length_map];omega
 ·rw[List.length_append,List.length_cons,List.length_nil];omega
theorem RelO.isSome_eq {o:Option V} {u:Option Value} (r:RelO o u):o.isSome=u.isSome:=by
 cases o with
 | none=>cases u with
  | none=>rfl
  | some _=>exact(show False from r).elim
 | some _=>cases u with
  | none=>exact(show False from r).elim
  | some _=>rfl
theorem RelO.getD {o:Option V} {u:Option Value} {d:V} {d':Value} (r:RelO o u) (rd:RelV d d'):RelV (o.getD d) (u.getD d'):=by
 cases o with
 | none=>cases u with
  | none=>exact rd
  | some _=>exact(show False from r).elim
 | some _=>cases u with
  | none=>exact(show False from r).elim
  | some _=>exact r
theorem KV.val {kvs:List (κ×V)} {vs:List (κ×Value)} (r:KV kvs vs) (k:κ):RelO (valV kvs k) (valueAt vs k):=by
 unfold KV at r
 induction r with
 | nil=>exact True.intro
 | @cons p q ps qs h t ih=>
  obtain⟨h1,h2⟩:=h
  by_cases e:p.1=k
  ·have e':q.1=k:=h1.symm.trans e
   have b:valueAt (q::qs) k=some q.2:=by simp [valueAt,List.find?_cons,e']
   rw[valV_pos e,b];exact h2
  ·have e':¬q.1=k:=fun z=>e (h1.trans z)
   have b:valueAt (q::qs) k=valueAt qs k:=by simp [valueAt,List.find?_cons,e']
   rw[valV_neg e,b];exact ih
theorem KV.any {kvs:List (κ×V)} {vs:List (κ×Value)} (r:KV kvs vs) (k:κ):(kvs.any fun kv=>decide (kv.1=k))=vs.any fun kv=>decide (kv.1=k):=by
 unfold KV at r
 induction r with
 | nil=>rfl
 | cons h t ih=>rw[List.any_cons,List.any_cons,ih,h.1]
theorem KV.repl {kvs:List (κ×V)} {vs:List (κ×Value)} (r:KV kvs vs) (k:κ) {y:V} {u:Value} (ry:RelV y u):
  KV (kvs.map fun kv=>if kv.1=k then (kv.1,y) else kv) (vs.map fun kv=>if kv.1=k then (kv.1,u) else kv):=by
 unfold KV at r ⊢
 induction r with
 | nil=>exact .nil
 | @cons p q ps qs h t ih=>
  rw[List.map_cons,List.map_cons]
  refine .cons ?_ ih
  obtain⟨h1,h2⟩:=h
  by_cases e:p.1=k
  ·rw[if_pos e,if_pos (h1.symm.trans e)];exact⟨h1,ry⟩
  ·rw[if_neg e,if_neg (fun z=>e (h1.trans z))];exact⟨h1,h2⟩
theorem KV.put {kvs:List (κ×V)} {vs:List (κ×Value)} (r:KV kvs vs) (k:κ) {y:V} {u:Value} (ry:RelV y u):KV (putK kvs k y) (stored vs k u):=by
 unfold putK stored
 rw[r.any k]
 by_cases e:(vs.any fun kv=>decide (kv.1=k))=true
 ·rw[if_pos e,if_pos e];exact r.repl k ry
 ·rw[if_neg e,if_neg e];exact Paired.snoc r ⟨rfl,ry⟩
theorem KV.length {kvs:List (κ×V)} {vs:List (κ×Value)} (r:KV kvs vs):kvs.length=vs.length:=Paired.length r
end
theorem kV_is {P:Program} {w:World} {k:Key} {u:Value} (r:RelV (kV k) u):(mixKind P w).is k u=true:=by
 cases k with
 | inl i=>obtain⟨t,e⟩:=(show ∃t,u=Value.int i t from r);subst e;exact mixKind_int P w i t
 | inr x=>obtain⟨t,e⟩:=(show ∃t,u=Value.str x t from r);subst e;exact mixKind_str P w x t
theorem items_are {P:Program} {w:World}:∀{ks:List Key} {us:List Value},Vals (ks.map kV) us→ItemsAre (mixKind P w) ks us
 | [],_,r=>by rw[List.map_nil] at r;cases r;exact .nil
 | k::ks,_,r=>by
  rw[List.map_cons] at r
  cases r with
  | cons h t=>exact .cons (kV_is h) (items_are t)
abbrev KT (H:Hp):List (List Key×V)→List (List Key×Addr×Value)→Prop:=Paired fun p q=>p.1=q.1∧H q.2.1=some (.tup (p.1.map kV))∧RelV p.2 q.2.2
theorem KT.val {H:Hp} {kvs:List (List Key×V)} {xs:List (List Key×Addr×Value)} (r:KT H kvs xs) (k:List Key):RelO (valV kvs k) ((atKey xs k).map (·.2)):=by
 induction r with
 | nil=>exact True.intro
 | @cons p q ps qs h t ih=>
  obtain⟨h1,_,h2⟩:=h
  by_cases e:p.1=k
  ·have e':q.1=k:=h1.symm.trans e
   have b:atKey (q::qs) k=some q.2:=by simp [atKey,List.find?_cons,e']
   rw[valV_pos e,b];exact h2
  ·have e':¬q.1=k:=fun z=>e (h1.trans z)
   have b:atKey (q::qs) k=atKey qs k:=by simp [atKey,List.find?_cons,e']
   rw[valV_neg e,b];exact ih
theorem KT.repl {H:Hp} {kvs:List (List Key×V)} {xs:List (List Key×Addr×Value)} (r:KT H kvs xs) (k:List Key) {y:V} {u:Value} (ry:RelV y u):
  KT H (kvs.map fun kv=>if kv.1=k then (kv.1,y) else kv) (xs.map (putAt k u)):=by
 induction r with
 | nil=>exact .nil
 | @cons p q ps qs h t ih=>
  rw[List.map_cons,List.map_cons]
  refine .cons ?_ ih
  obtain⟨h1,h2,h3⟩:=h
  unfold putAt
  by_cases e:p.1=k
  ·rw[if_pos e,if_pos (h1.symm.trans e)];exact⟨h1,h2,ry⟩
  ·rw[if_neg e,if_neg (fun z=>e (h1.trans z))];exact⟨h1,h2,h3⟩
theorem KT.put {H:Hp} {kvs:List (List Key×V)} {xs:List (List Key×Addr×Value)} (r:KT H kvs xs) (k:List Key) {b:Addr} {y:V} {u:Value} (hb:H b=some (.tup (k.map kV))) (ry:RelV y u):
  KT H (putK kvs k y) (storedH xs k b u):=by
 have e:(kvs.any fun kv=>decide (kv.1=k))=(atKey xs k).isSome:=by
  rw[valV_any,(r.val k).isSome_eq,Option.isSome_map]
 unfold putK storedH
 rw[e]
 by_cases q:(atKey xs k).isSome=true
 ·rw[if_pos q,if_pos q];exact r.repl k ry
 ·rw[if_neg q,if_neg q];exact Paired.snoc r ⟨rfl,hb,ry⟩
theorem KT.keeps {H H':Hp} {kvs:List (List Key×V)} {xs:List (List Key×Addr×Value)} (r:KT H kvs xs) (ht:∀b ys,H b=some (.tup ys)→H' b=some (.tup ys)):KT H' kvs xs:=
 Paired.mapP r fun _ _ z=>⟨z.1,ht _ _ z.2.1,z.2.2⟩
section
variable {P : Program} {w : World} {H : Hp} {h : Heap} {a : Addr}
theorem rd_of {u:HO} (ok:HOk P w H h) (e:Rd H a u):ObjOk P w H h a u:=e.ok ok
theorem dk_rd {kvs:List (Key×V)} (ok:HOk P w H h) (e:Rd H a (.dK kvs)):kvs.length≤sizeLine∧(a==sysModules)=false∧∃vs,KV kvs vs∧h.DictOf (mixKind P w) a vs:=
 show ObjOk P w H h a (.dK kvs) from rd_of ok e
theorem dk_of {kvs:List (Key×V)} (ok:HOk P w H h) (e:H a=some (.dK kvs)):kvs.length≤sizeLine∧(a==sysModules)=false∧∃vs,KV kvs vs∧h.DictOf (mixKind P w) a vs:=dk_rd ok (.inl e)
theorem key_of {ks:List Key} (ok:HOk P w H h) (e:H a=some (.tup (ks.map kV))):(tupleKind (mixKind P w)).is h ks a:=by
 obtain⟨_,its,r,o,h1,h2,n,h3⟩:=(show ObjOk P w H h a (.tup (ks.map kV)) from ok a _ e)
 exact⟨o,its.toArray,n,h1,h2,h3,by simpa using items_are r⟩
theorem dt_rd {kvs:List (List Key×V)} (ok:HOk P w H h) (e:Rd H a (.dT kvs)):kvs.length≤sizeLine∧(a==sysModules)=false∧
  ∃xs,KT H kvs xs∧h.DictOfH (tupleKind (mixKind P w)) a xs:=by
 obtain⟨z,y,xs,r,o,es,ep,h1,h2,h3,h4,h5⟩:=(show ObjOk P w H h a (.dT kvs) from rd_of ok e)
 refine⟨z,y,xs,r,o,es,ep,h1,h2,h3,h4,fun x hx=>?_,h5⟩
 have all:∀{l:List (List Key×V)} {m:List (List Key×Addr×Value)},KT H l m→∀x∈m,(tupleKind (mixKind P w)).is h x.1 x.2.1:=by
  intro l m q
  induction q with
  | nil=>intro x hx;exact nomatch hx
  | @cons p q ps qs hq t ih=>
   intro x hx
   rcases List.mem_cons.mp hx with e | hx
   ·subst e
    exact key_of ok (by rw[←hq.1];exact hq.2.1)
   ·exact ih x hx
 exact all r x hx
theorem dt_of {kvs:List (List Key×V)} (ok:HOk P w H h) (e:H a=some (.dT kvs)):kvs.length≤sizeLine∧(a==sysModules)=false∧
  ∃xs,KT H kvs xs∧h.DictOfH (tupleKind (mixKind P w)) a xs:=dt_rd ok (.inl e)
end
noncomputable def DGet (H:Hp) (a:Addr) (y:V) (r:Option V):Prop:=
 (∃kvs k,Rd H a (.dK kvs)∧y=kV k∧r=valV kvs k)∨∃kvs k b,Rd H a (.dT kvs)∧y=.ref b∧H b=some (.tup (k.map kV))∧r=valV kvs k
noncomputable def DPut (H:Hp) (a:Addr) (y v:V) (H':Hp):Prop:=
 (∃kvs k,H a=some (.dK kvs)∧y=kV k∧kvs.length<sizeLine∧H'=upd H a (.dK (putK kvs k v)))∨
 ∃kvs k b,H a=some (.dT kvs)∧y=.ref b∧H b=some (.tup (k.map kV))∧kvs.length<sizeLine∧H'=upd H a (.dT (putK kvs k v))
theorem DPut.k {H:Hp} {a:Addr} {kvs:List (Key×V)} {k:Key} {v:V} (e:H a=some (.dK kvs)) (hl:kvs.length<sizeLine):DPut H a (kV k) v (upd H a (.dK (putK kvs k v))):=.inl ⟨kvs,k,e,rfl,hl,rfl⟩
section
variable {X : Cx} {pins : List (Addr × Obj)} {σ : St} {H : Hp} {s : Shared} {a : Addr} {y v : V} {u r : Value} {o : Option V} {A : Around} {E : Value → Shared → Prop}
theorem Inv.big (I:Inv X pins σ H s):sysModules<s.heap.objs.size:=by
 have h:mainGlobals<s.heap.objs.size:=(I.mod.glob.keeps I.bk).lt
 exact Nat.lt_trans (by decide) h
theorem d_getItem {Q:Value→Shared→Prop} (hu:A.units+1<cLine) (I:Inv X pins σ H s) (g:DGet H a y (some v)) (ry:RelV y u) (h:∀w' s',Inv X pins σ H s'→RelV v w'→Q w' s'):
  wpAny (model X.prog X.w) A (getItem (.ref a) u) Q E s:=by
 rcases g with ⟨kvs,k,e,ey,l⟩ | ⟨kvs,k,b,e,ey,eb,l⟩
 ·subst ey
  obtain⟨z,hd,vs,rel,dd⟩:=dk_rd I.hok e
  obtain⟨w',hw,rw'⟩:=RelO.some_of (v:=v) (o:=valueAt vs k) (by rw[l];exact rel.val k)
  exact wpAny_getItem_of (kV_is ry) dd.mapOf hw (h w' _ (I.tok _) rw')
 ·subst ey
  cases (show u=Value.ref b from ry)
  obtain⟨z,hd,xs,rel,dd⟩:=dt_rd I.hok e
  obtain⟨w',hw,rw'⟩:=RelO.some_of (v:=v) (o:=(atKey xs k).map (·.2)) (by rw[l];exact rel.val k)
  obtain⟨p,hp,hp2⟩:=Option.map_eq_some_iff.mp hw
  refine wpAny_getItem_heap (tupleKind_room_in1 hu) (key_of I.hok eb) dd hp ?_
  rw[hp2]
  exact h w' _ (I.tok _) rw'
theorem d_notIn {Q:Value→Shared→Prop} (hu:A.units+1<cLine) (I:Inv X pins σ H s) (g:DGet H a y o) (ry:RelV y u) (h:∀s',Inv X pins σ H s'→Q (.bool (!o.isSome)) s'):
  wpAny (model X.prog X.w) A (compareOp .NotIn u (.ref a)) Q E s:=by
 rcases g with ⟨kvs,k,e,ey,l⟩ | ⟨kvs,k,b,e,ey,eb,l⟩
 ·subst ey
  obtain⟨z,hd,vs,rel,dd⟩:=dk_rd I.hok e
  refine wpAny_notIn_of (kV_is ry) hd dd.mapOf ?_
  rw[←(rel.val k).isSome_eq,←l]
  exact h _ (I.tok _)
 ·subst ey
  cases (show u=Value.ref b from ry)
  obtain⟨z,hd,xs,rel,dd⟩:=dt_rd I.hok e
  refine wpAny_notIn_heap (tupleKind_room_in1 hu) (key_of I.hok eb) hd dd ?_
  have q:=(rel.val k).isSome_eq
  rw[Option.isSome_map] at q
  rw[←q,←l]
  exact h _ (I.tok _)
theorem d_write {h':Heap} {t':Nat} {ob:HO} (I:Inv X pins σ H s) (mu:Mut (H a)) (hs:Heap.SameBut a s.heap h') (he:∃q,h'.get? a=some q) (new:ObjOk X.prog X.w (upd H a ob) h' a ob):
  Inv X pins σ (upd H a ob) {s with heap:=h',toks:=t'}:=
 I.write (x:=a) (e:=a) mu (.inl rfl) (fun b q hb z=>(hs.2 b hb).trans z) he new
theorem dk_new {P:Program} {w:World} {H':Hp} {h':Heap} {kvs:List (Key×V)} {vs:List (Key×Value)} (z:kvs.length≤sizeLine) (hd:(a==sysModules)=false) (rel:KV kvs vs) (dd:h'.DictOf (mixKind P w) a vs):
  ObjOk P w H' h' a (.dK kvs):=⟨z,hd,vs,rel,dd⟩
theorem d_setItem {H':Hp} {Q:Unit→Shared→Prop} (hu:A.units+1<cLine) (I:Inv X pins σ H s) (g:DPut H a y v H') (ry:RelV y u) (rv:RelV v r) (h:∀s',Inv X pins σ H' s'→Q () s'):
  wpAny (model X.prog X.w) A (setItem (.ref a) u r) Q E s:=by
 rcases g with ⟨kvs,k,e,ey,l,eH⟩ | ⟨kvs,k,b,e,ey,eb,l,eH⟩
 ·subst ey eH
  obtain⟨z,hd,vs,rel,dd⟩:=dk_of I.hok e
  have hz:vs.length≤sizeLine:=by rw[←rel.length];exact z
  have hl:(putK kvs k v).length≤sizeLine:=by have:=length_putK kvs k v;omega
  refine wpAny_setItem_pairs (hsz:=hz) (kV_is ry) dd fun h' dd' hs=>h _ ?_
  have he:∃q,h'.get? a=some q:=let ⟨q,_,_,hq,_⟩:=dd';⟨q,hq⟩
  exact d_write I (by rw[e];exact True.intro) hs he (dk_new hl hd (rel.put k rv) dd')
 ·subst ey eH
  cases (show u=Value.ref b from ry)
  obtain⟨z,hd,xs,rel,dd⟩:=dt_of I.hok e
  have hz:xs.length≤sizeLine:=by rw[←Paired.length rel];exact z
  have hl:(putK kvs k v).length≤sizeLine:=by have:=length_putK kvs k v;omega
  refine wpAny_setItem_heap (hsz:=hz) (tupleKind_room_in1 hu) (key_of I.hok eb) dd fun h' dd' hs=>h _ ?_
  obtain⟨q,es,ep,hq,h2,h3,h4,_,h5⟩:=dd'
  refine d_write I (by rw[e];exact True.intro) hs ⟨q,hq⟩ ⟨hl,hd,_,(rel.put k eb rv).keeps fun c ys ec=>?_,q,es,ep,hq,h2,h3,h4,h5⟩
  rw[upd_ne (ne_of ec e (fun z=>nomatch z))]
  exact ec
end
section
variable {X : Cx} {pins : List (Addr × Obj)} {σ : St} {H : Hp} {s : Shared} {a : Addr} {kvs : List (Key × V)} {k : Key} {u : Value} {A : Around} {E : Value → Shared → Prop}
theorem d_len {Q:Value→Shared→Prop} (I:Inv X pins σ H s) (e:Rd H a (.dK kvs)) (h:∀t s',Inv X pins σ H s'→Q (.int kvs.length t) s'):wpAny (model X.prog X.w) A (call (.builtin "len") [.ref a]) Q E s:=by
 obtain⟨z,hd,vs,rel,dd⟩:=dk_rd I.hok e
 refine call_len_dict hd dd (by rw[←rel.length];rw[sizeLine_eq] at z;omega) ?_
 rw[←rel.length]
 exact h _ _ (I.tok _)
end
noncomputable def NoSl (i:Expr):Prop:=∀ov iv,subscripted i false ov iv=operate [ov,iv] (getItem ov iv)
theorem subD_of {prog:Program} {w:World} {A:Around} {E:Value→Shared→Prop} {s:Shared} {env:Env} {value slice:Expr} {pos:Pos} {T id:String} {Q:Value→Shared→Prop}
  (hl:typeLookup (.type T) "__getitem__"=pure (some (.builtin id))) (hs:NoSl slice)
  (h:wpAny (model prog w) A (eval value env) (fun o s₁=>wpAny (model prog w) A (eval slice env) (fun i s₂=>s₂.TypeIs o T∧wpAny (model prog w) A (getItem o i) Q E s₂) E s₁) E s):
  wpAny (model prog w) A (eval (.Subscript value slice pos) env) Q E s:=by
 refine Subscript_ (wpAny_mono h (fun o s₁ h₁=>wpAny_mono h₁ (fun i s₂ h₂=>?_) fun _ _ x=>x) fun _ _ x=>x)
 obtain⟨hT,h₂⟩:=h₂
 unfold subscriptTail
 refine wpAny_bind ?_
 rw[getitemInPython_of_ne hT.not_modules]
 refine wpAny_bind (wpAny_specialOf hT hl ?_)
 have fin:wpAny (model prog w) A (subscripted slice false o i) (fun r s₃=>wpAny (model prog w) A (letTemporaryGo value o r >>=fun _=>pure r) Q E s₃) E s₂:=by
  rw[hs o i]
  exact wpAny_operating (wpAny_mono h₂ (fun r s₃ h₃=>wpAny_bind (wpAny_letTemporaryGo (wpAny_pure h₃))) fun _ _ x=>x)
 first
  | exact wpAny_pure (wpAny_bind fin)
  | exact wpAny_bind (wpAny_pure (wpAny_bind fin))
  | exact wpAny_bind fin
theorem dict_typeIs {X:Cx} {pins:List (Addr×Obj)} {σ:St} {H:Hp} {s:Shared} {a:Addr} {y:V} {o:Option V} (I:Inv X pins σ H s) (g:DGet H a y o):s.TypeIs (.ref a) "dict":=by
 rcases g with ⟨kvs,k,e,_,_⟩ | ⟨kvs,k,b,e,_,_,_⟩
 ·obtain⟨_,_,vs,_,dd⟩:=dk_rd I.hok e
  exact dd.typeIs
 ·obtain⟨_,_,xs,_,dd⟩:=dt_rd I.hok e
  exact dd.typeIs
noncomputable def tDGet (td ty:TE):TE:=fun σ H Q=>td σ H fun x H1=>ty σ H1 fun y H2=>∃a v,x=.ref a∧DGet H2 a y (some v)∧Q v H2
noncomputable def tDIn (ty td:TE):TE:=fun σ H Q=>ty σ H fun y H1=>td σ H1 fun x H2=>∃a o,x=.ref a∧DGet H2 a y o∧Q (.bl o.isSome) H2
noncomputable def tDNotIn (ty td:TE):TE:=fun σ H Q=>ty σ H fun y H1=>td σ H1 fun x H2=>∃a o,x=.ref a∧DGet H2 a y o∧Q (.bl (!o.isSome)) H2
noncomputable def sDPut (td ty tv:TE):TS:=fun D σ H=>tv σ H fun v H1=>td σ H1 fun x H2=>ty σ H2 fun y H3=>∃a H4,x=.ref a∧DPut H3 a y v H4∧D.nx σ H4
section
variable {X : Cx} {o i e value : Expr} {pos pos' tpos : Pos} {td ty tv : TE}
theorem pe_dget (hu:X.A.units+1<cLine) (ho:PE X o td) (hi:PE X i ty) (hs:NoSl i):PE X (.Subscript o i pos) (tDGet td ty):=by
 intro pins s σ H Q I h
 refine subD_of PySem.F.slot_dict_getitem.lookup hs (thn (ho pins s σ H _ I h) fun u s1 ⟨x,H1,I1,rx,q1⟩=>thn (hi pins s1 σ H1 _ I1 q1) fun iv s2 hh_=>?_)
 obtain⟨y,H2,I2,ry,a,v,ex,g,q2⟩:=hh_
 subst ex
 obtain rfl:u=Value.ref a:=rx
 exact⟨dict_typeIs I2 g,d_getItem hu I2 g ry fun w' s3 I3 rw'=>⟨v,H2,I3,rw',q2⟩⟩
theorem pc_dnotin (hu:X.A.units+1<cLine) (hi:PE X i ty) (ho:PE X o td):PC X .NotIn i o (tDNotIn ty td):=by
 intro pins s σ H Q I h
 refine thn (hi pins s σ H _ I h) fun iv s1 ⟨y,H1,I1,ry,q1⟩=>thn (ho pins s1 σ H1 _ I1 q1) fun u s2 hh_=>?_
 obtain⟨x,H2,I2,rx,a,ov,ex,g,q2⟩:=hh_
 subst ex
 obtain rfl:u=Value.ref a:=rx
 exact d_notIn hu I2 g ry fun s3 I3=>⟨.bl (!ov.isSome),H2,I3,rfl,q2⟩
theorem ps_dput (hu:X.A.units+1<cLine) (ho:PE X o td) (hi:PE X i ty) (hv:PE X value tv) (hs:swapsWith value (some (.Subscript o i pos')) pos.line X.env=pure false):
  PS X (.Assign [.Subscript o i pos'] value pos) (sDPut td ty tv):=by
 intro pins s σ H D I h
 refine wpAny_Assign_Subscript (thn (hv pins s σ H _ I h) fun r s1 ⟨v,H1,I1,rv,q1⟩=>thn (ho pins s1 σ H1 _ I1 q1) fun u s2 ⟨x,H2,I2,rx,q2⟩=>thn (hi pins s2 σ H2 _ I2 q2) fun iv s3 hh_=>?_) hs
 obtain⟨y,H3,I3,ry,a,H4,ex,g,q3⟩:=hh_
 subst ex
 obtain rfl:u=Value.ref a:=rx
 exact d_setItem hu I3 g ry rv fun s4 I4=>⟨σ,H4,I4,q3⟩
end
theorem dk_empty {P:Program} {w:World} {H:Hp} (h:Heap) (hb:sysModules<h.objs.size):ObjOk P w H (h.push {cls:=.type "dict",data:=.dict #[]}) h.objs.size (.dK []):=
 ⟨Nat.zero_le _,beq_eq_false_iff_ne.mpr (Ne.symm (Nat.ne_of_lt hb)),[],.nil,Heap.DictOf.new h⟩
noncomputable def tDNewK:TE:=fun _ H Q=>∀p,H p=none→Q (.ref p) (upd H p (.dK []))
section
variable {X : Cx} {pos : Pos}
theorem pe_dnewK:PE X (.Dict [] [] pos) tDNewK:=fun pins s σ H Q I h=>
 wpAny_Dict_empty ⟨.ref s.heap.objs.size,_,I.laid (a:=s.heap.objs.size) (o:=.dK []) (t':=s.toks) (fun _ _ q=>Heap.get?_push_of_some _ q) (Nat.le_refl _) (dk_empty s.heap I.big),rfl,h _ (I.hok.fresh (Nat.le_refl _))⟩
end
abbrev VV:List (V×V)→List (Value×Value)→Prop:=Paired fun p q=>RelV p.1 q.1∧RelV p.2 q.2
structure M1 (X:Cx) (o:Expr) (m:Str) (apos:Pos) (e:Expr) (cpos:Pos):Prop where
 base:attributeBase o m X.env (eval o X.env)=eval o X.env
 few:((backTo cpos (starEach [e] X.env)).all (fun x=>!x.1) && (backToKw cpos (keywordEach [] X.env)).all (fun x=>x.1.isSome)
  && decide (([e]:List Expr).length+ ([]:List Keyword).length+ (if ([]:List Keyword).isEmpty then 0 else 1)<30))=true
 line:(apos.endLine==cpos.line)=true
 trees:backTo cpos (starEach [e] X.env)=[(false,eval e X.env)]
structure M2 (X:Cx) (o:Expr) (m:Str) (apos:Pos) (e f:Expr) (cpos:Pos):Prop where
 base:attributeBase o m X.env (eval o X.env)=eval o X.env
 few:((backTo cpos (starEach [e,f] X.env)).all (fun x=>!x.1) && (backToKw cpos (keywordEach [] X.env)).all (fun x=>x.1.isSome)
  && decide (([e,f]:List Expr).length+ ([]:List Keyword).length+ (if ([]:List Keyword).isEmpty then 0 else 1)<30))=true
 line:(apos.endLine==cpos.line)=true
 trees:backTo cpos (starEach [e,f] X.env)=[(false,eval e X.env),(false,eval f X.env)]
noncomputable def IsD (H:Hp) (a:Addr):Prop:=(∃kvs,Rd H a (.dK kvs))∨∃kvs,Rd H a (.dT kvs)
theorem isD_at {X:Cx} {pins:List (Addr×Obj)} {σ:St} {H:Hp} {s:Shared} {a:Addr} (I:Inv X pins σ H s) (d:IsD H a):
  s.TypeIs (.ref a) "dict"∧(∀b,Value.ref a=.ref b→∃ob,s.heap.get? b=some ob∧ob.dict=none)∧(a==sysModules)=false:=by
 rcases d with ⟨kvs,e⟩ | ⟨kvs,e⟩
 ·obtain⟨_,hd,vs,_,dd⟩:=dk_rd I.hok e
  refine⟨dd.typeIs,fun b q=>?_,hd⟩
  cases q
  obtain⟨ob,_,_,h1,h2,_⟩:=dd
  exact⟨ob,h1,h2.2.1⟩
 ·obtain⟨_,hd,xs,_,dd⟩:=dt_rd I.hok e
  refine⟨dd.typeIs,fun b q=>?_,hd⟩
  cases q
  obtain⟨ob,_,_,h1,h2,_⟩:=dd
  exact⟨ob,h1,h2.2.1⟩
section
variable {X : Cx} {pins : List (Addr × Obj)} {σ : St} {H : Hp} {s : Shared} {a : Addr} {y d : V} {u r : Value} {o : Option V} {A : Around} {E : Value → Shared → Prop}
theorem d_get2 {Q:Value→Shared→Prop} (hu:A.units+1<cLine) (I:Inv X pins σ H s) (g:DGet H a y o) (ry:RelV y u) (rd:RelV d r) (h:∀w' s',Inv X pins σ H s'→RelV (o.getD d) w'→Q w' s'):
  wpAny (model X.prog X.w) A (call (.builtin "dict.get") [.ref a,u,r]) Q E s:=by
 rcases g with ⟨kvs,k,e,ey,l⟩ | ⟨kvs,k,b,e,ey,eb,l⟩
 ·subst ey
  obtain⟨z,hd,vs,rel,dd⟩:=dk_rd I.hok e
  refine call_meetsIn PySem.F.slot_dict_get dd.typeIs PySem.F.entry_dict_get (PySem.F.args_dict_get_3 _ _ _) (meets_dict_get_default (mixKind X.prog X.w) a (kV_is ry) hd r) ⟨_,dd.mapOf,h _ _ (I.tok _) ?_⟩
  rw[l]
  exact(rel.val k).getD rd
 ·subst ey
  cases (show u=Value.ref b from ry)
  obtain⟨z,hd,xs,rel,dd⟩:=dt_rd I.hok e
  refine call_meetsIn PySem.F.slot_dict_get dd.typeIs PySem.F.entry_dict_get (PySem.F.args_dict_get_3 _ _ _) (meetsH_dict_get_default (tupleKind (mixKind X.prog X.w)) a b hd r) ⟨tupleKind_room_in1 hu,k,xs,key_of I.hok eb,dd,h _ _ (I.tok _) ?_⟩
  rw[l]
  exact(rel.val k).getD rd
end
noncomputable def tDGet1 (td ty:TE):TE:=fun σ H Q=>td σ H fun x H1=>∃a,x=.ref a∧IsD H1 a∧ty σ H1 fun y H2=>∃o,DGet H2 a y o∧Q (o.getD .non) H2
noncomputable def tDGet2 (td ty tx:TE):TE:=fun σ H Q=>td σ H fun x H1=>∃a,x=.ref a∧IsD H1 a∧ty σ H1 fun y H2=>tx σ H2 fun z H3=>∃o,DGet H3 a y o∧Q (o.getD z) H3
noncomputable def tDPop1 (td ty:TE):TE:=fun σ H Q=>td σ H fun x H1=>∃a,x=.ref a∧IsD H1 a∧ty σ H1 fun y H2=>∃kvs k v,H2 a=some (.dK kvs)∧y=kV k∧valV kvs k=some v∧Q v (upd H2 a (.dK (dropK kvs k)))
section
variable {X : Cx} {o e f : Expr} {apos cpos : Pos} {td ty tx : TE}
theorem pe_dget2 (hu:X.A.units+1<cLine) (ho:PE X o td) (he:PE X e ty) (hf:PE X f tx) (m:M2 X o "get" apos e f cpos):PE X (.Call (.Attribute o "get" apos) [e,f] [] cpos) (tDGet2 td ty tx):=by
 intro pins s σ H Q I h
 refine wpAny_Call_method m.base m.few m.line PySem.F.plainAttrs_dict PySem.F.slot_dict_get PySem.F.type_dict_get (thn (ho pins s σ H _ I h) fun u s1 hh_=>?_)
 obtain⟨x,H1,I1,rx,a,ex,d,q1⟩:=hh_
 subst ex
 obtain rfl:u=Value.ref a:=rx
 obtain⟨t1,t2,_⟩:=isD_at I1 d
 refine⟨t1,t2,?_⟩
 rw[m.trees]
 refine Calls.callWith_builtin rfl (Calls.evalArgs_plain (Calls.spliced_cons (thn (he pins s1 σ H1 _ I1 q1) fun iv s2 ⟨y,H2,I2,ry,q2⟩=>
  Calls.spliced_cons (thn (hf pins s2 σ H2 _ I2 q2) fun fv s3 ⟨z,H3,I3,rz,ov,g,q3⟩=>Calls.spliced_nil ?_))))
 exact d_get2 hu I3 g ry rz fun w' s4 I4 rw'=>⟨_,H3,I4,rw',q3⟩
end
section
variable {X : Cx} {pins : List (Addr × Obj)} {σ : St} {H : Hp} {s : Shared} {a : Addr} {kvs : List (Key × V)} {A : Around} {E : Value → Shared → Prop}
end
section
variable {X : Cx} {pins : List (Addr × Obj)} {σ : St} {H : Hp} {s : Shared} {a : Addr} {y : V} {u : Value} {A : Around} {E : Value → Shared → Prop}
end
end L2
namespace Att
open PySem PySem.W PySem.Calls PyProof.Rows
theorem ints_of_wellAll {P:Params} {h:Heap}:∀(ns:List Int) (vs:List Value),WellAll P h vs (ns.map WData.int)→IntsAre vs ns:=by
 intro ns
 induction ns with
 | nil=>
  intro vs w
  rw[List.map_nil] at w
  cases w
  exact .nil
 | cons n ns ih=>
  intro vs w
  rw[List.map_cons] at w
  cases w with
  | cons a b=>
   cases a
   exact .cons _ _ (ih _ b)
theorem script_of {l:OpenLaw} {n:Nat} (hn:l.most=some n) {P:Params} {h:Heap} {args:List WData} {vals:List Value}
  (hpre:l.row.toRowW.claim.pre args=true) (hwl:WellAll P h vals args):
  ∃a vs ns,vals=[Value.ref a]∧args=[WData.list (ns.map WData.int)]∧h.get? a=some {cls:=.type "list",data:=.seq vs.toArray}∧IntsAre vs ns∧ns.length≤n:=by
 have hsh:WShape.hasAll [] args [.list .int]=true:=(pre_splitW hpre).1
 have hc:l.pre.holds [] {args:=args}=true:=(pre_splitW hpre).2
 obtain⟨d,r,rfl,h1,h2⟩:=hasAllW_cons hsh
 obtain rfl:=hasAllW_nil h2
 obtain⟨xs,rfl,h3⟩:=hasW_list h1
 obtain⟨ns,rfl⟩:=items_int h3
 have hlen:ns.length≤n:=by
  unfold OpenLaw.pre at hc
  have h4:(WTm.not (.lt (.lit (.int (n:Int))) (.len (.arg 0)))).holds [] {args:=[.list (ns.map .int)]}=true:=by
   have h4:=(holds_andW hc).1
   rw[hn] at h4
   exact h4
  have h5:=condW_of h4 (w_not (w_lt w_lit (w_len_list (w_arg rfl))))
  rw[List.length_map] at h5
  refine Nat.le_of_not_lt fun q=>?_
  have q':(n:Int)< ((ns.length:Nat):Int):=by omega
  first
   | (rw[decide_eq_true q'] at h5;exact absurd h5 (by decide))
   | (simp at h5;omega)
 cases hwl with
 | cons w1 w2=>
  cases w2
  cases w1 with
  | list ho hall=>exact⟨_,_,ns,rfl,rfl,ho,ints_of_wellAll ns _ hall,hlen⟩
theorem post_true (l:OpenLaw) (args:List WData):l.row.toRowW.claim.post args (.bool true) args=true:=
 postW_of (r:=l.row.toRowW) (X:=(true==true))
  (show WShape.has [] (.bool true) .bool=true by first | rfl | decide | simp [WShape.has,WShape.arms,WShape.armsAll])
  (show(WTm.eq .res (.lit (.bool true))).value [] {args:=args,res:=some (.bool true),after:=args}=some (.bool (true==true)) from w_eq_bool (w_res rfl) w_lit) rfl
theorem attach_call {l:OpenLaw} {n:Nat} {q:Program} {loose:List Str} {XP:(Str→Option Value)→Heap→Prop} {YP:World→Heap→Prop} {d:DefRec}
  (hn:l.most=some n) (hdf:d.params.defaults=[])
  (call:∀(w:World) (s₀ s₁:Shared) (mg mb:Str→Option Value) (fa:Addr) (o:Obj) (pm cd doc:Value) (a:Addr) (vs:List Value) (ns:List Int),
   Ground q loose [] XP w s₀ mg mb s₁.heap→YP w s₁.heap→
   s₁.heap.get? fa=some o→o.data=.func (docDef d.name d.params d.body d.scope pm cd doc)→s₁.heap.CodeRec cd d.name→mg d.name=some (.ref fa)→
   s₁.heap.get? a=some {cls:=.type "list",data:=.seq vs.toArray}→IntsAre vs ns→ns.length≤n→s₁.gens=#[]→
   codeAny (model l.prog w) callerA (.call (.ref fa) ⟨[.ref a],[]⟩) (fun r s'=>r=.ok (.ret (.bool true))∧OldK s₁.heap s'.heap∧s'.os=s₁.os∧AllBare s'.gens) s₁):
  WalkO q loose XP YP l.row.toRowW d [] (fun f vs=>PySem.call f vs):=by
 intro w s₀ s₁ mg mb G Y fa o pm cd doc dV kV ho hd hcd hD hmg hg args vals as hpre hlay hrd hwl hlo
 obtain rfl:dV=.none:=Dflts.none hD hdf
 obtain rfl:kV=.none:=Dflts.noKw hD
 obtain⟨a,vs,ns,rfl,rfl,hobj,hints,hlen⟩:=script_of hn hpre hwl
 refine enter_call (codeAny_mono (call w s₀ s₁ mg mb fa o pm cd doc a vs ns G Y ho (fd_plain hd) hcd hmg hobj hints hlen hg) fun r s' hq=>?_)
 obtain⟨rfl,h2,h3,h4⟩:=hq
 exact⟨.inl ⟨.bool true,.bool true,[],rfl,fun _=>rfl,.bool true,post_true l _,fun _=>⟨List.Pairwise.nil,fun _ hm=>(nomatch hm)⟩⟩,h2,h3,h4⟩
section
variable {prog : Program} {w : World} {A : Around} {E : Value → Shared → Prop} {s : Shared} {K : Frag}
end
end Att
namespace L2
open PySem PySem.Spec PyProof.Rows
theorem vals_ints:∀{vs:List Value} {ns:List Int},IntsAre vs ns→Vals (ns.map V.int) vs
 | _,_,.nil=>.nil
 | _,_,.cons n t h=>.cons ⟨t,rfl⟩ (vals_ints h)
noncomputable def Only (H:Hp):Prop:=∀b,H b=none∨∃o xs,H b=some (.frz o (.lst xs))
theorem law_call {P:Program} {w:World} {K:PySem.W.Frag} {mg mb:Str→Option Value} {CX:CXT} {k:Nat} {fa a:Addr} {fd:FuncData} {x:Str} {sp:Sp} {s₁:Shared} {vs:List Value} {ns:List Int}
  (KX:K.In s₁.heap) (hns:s₁.heap.Ns mainGlobals mg) (hb:s₁.heap.Ns builtinsNs mb) (hbb:∀x:Str,x≠"__name__"→mb x=bootBuiltins x) (hlim:s₁.heap.NoLimit) (hg:s₁.gens=#[])
  (ha:s₁.heap.get? a=some {cls:=.type "list",data:=.seq vs.toArray}) (hi:IntsAre vs ns) (hl:ns.length≤sizeLine) (hr:Room k callerA)
  (F:∀base:Heap,K.In base→base.Ns mainGlobals mg→FnOk P w K mg base CX k fa fd [x] sp) (hbind:∀(s:Shared) (u:Value),BindsTo s fd ⟨[u],[]⟩ [(x,u)])
  (hsp:∀H:Hp,Only H→SqL K H a (ns.map V.int)→sp [.ref a] H (fun v _=>v=.bl true) fun _ _ _=>False)
  (hCX:∀H e s',CX [] H s₁ (fun _ _ _=>False) e s'→False):
  codeAny (model P w) callerA (.call (.ref fa) ⟨[.ref a],[]⟩) (fun r s'=>r=.ok (.ret (.bool true))∧OldK s₁.heap s'.heap∧s'.os=s₁.os∧AllBare s'.gens) s₁:=by
 have rv:=vals_ints hi
 have lenV:=hi.length
 have core:∀H:Hp,Only H→SqL K H a (ns.map V.int)→HOk P w H s₁.heap→(∀b,H b≠none→b=a)→(H a≠none→K.lookup a=none)→
   codeAny (model P w) callerA (.call (.ref fa) ⟨[.ref a],[]⟩) (fun r s'=>r=.ok (.ret (.bool true))∧OldK s₁.heap s'.heap∧s'.os=s₁.os∧AllBare s'.gens) s₁:=by
  intro H hO hS hok hA hK
  have base_of:∀{b:Addr} {o:Obj},s₁.heap.get? b=some o→H b=none→(hidT s₁.heap H).get? b=some o:=fun e n=>hidT_get e n
  have noA:∀{b:Addr} {o:Obj} {es:Array DictEntry} {ep:Nat},s₁.heap.get? b=some o→o.data=.dict es ep→H b=none:=fun {b o es ep} e d=>by
   cases q:H b with
   | none=>rfl
   | some u=>
    have e':b=a:=hA b (by rw[q];simp)
    subst e'
    rw[ha] at e;cases e
    have d':Data.seq vs.toArray _=Data.dict es ep:=d
    cases d'
  have nsK:∀{b:Addr} {m:Str→Option Value},s₁.heap.Ns b m→(hidT s₁.heap H).Ns b m:=fun {b m} ⟨o,es,ep,e,d,r⟩=>⟨o,es,ep,base_of e (noA e d),d,r⟩
  have hKb:K.In (hidT s₁.heap H):=fun b o e=>base_of (KX b o e) (by
   cases q:H b with
   | none=>rfl
   | some u=>
    have e':b=a:=hA b (by rw[q];simp)
    subst e'
    rw[hK (by rw[q];simp)] at e;cases e)
  have hM:Mod K mg (hidT s₁.heap H):=⟨hKb,nsK hns,⟨mb,nsK hb,hbb⟩,let ⟨mc,h1,h2⟩:=hlim;⟨mc,nsK h1,h2⟩⟩
  have e0:Env0 P w K mg (hidT s₁.heap H) callerA [] s₁ H:=⟨rfl,hM,fun b o e=>of_hidT e,Nat.le_of_eq (hidT_size _ _),trivial,fun b hb=>absurd (show b∈([]:List Addr) from hb) (by simp),hok,.of_eq hg⟩
  refine codeAny_mono ((F _ hKb (nsK hns)).run callerA [] s₁ H ⟨[.ref a],[]⟩ [.ref a] [.ref a] _ _ hr e0 (hbind s₁ (.ref a)) (.cons rfl .nil) (hsp H hO hS)) fun r s' h=>?_
  cases r with
  | error e=>exact(hCX H e s' h).elim
  | ok fl=>
   cases fl with
   | next=>exact False.elim h
   | brk=>exact False.elim h
   | cont=>exact False.elim h
   | ret u=>
    obtain⟨v,H',os,bare,un,hok',r',q⟩:=h
    have q':v=.bl true:=q
    subst q'
    obtain rfl:u=Value.bool true:=r'
    refine⟨rfl,OldK.of_keep fun b o e=>?_,os,bare⟩
    cases q:H b with
    | none=>exact un.keep b o e q (by intro z;exact absurd (show b∈([]:List Addr) from z) (by simp)) (by simp)
    | some u=>
     rcases hO b with z | ⟨ob,xs,z⟩
     ·rw[q] at z;cases z
     ·have z2:=un.frzs b ob _ z
      obtain⟨e1,_⟩:=hok b _ z
      obtain⟨e2,_⟩:=hok' b _ z2
      rw[e] at e1;cases e1
      exact e2
 cases hk:K.lookup a with
 | some o=>
  have e:=KX a o hk
  rw[ha] at e
  cases e
  refine core (fun _=>none) (fun _=>.inl rfl) (.inr ⟨_,vs.toArray,_,hk,rfl,rfl,rfl,by rw[List.size_toArray,lenV];exact hl,by simpa using rv⟩) (fun b u z=>by have z':(none:Option HO)=some u:=z;cases z') (fun b z=>absurd rfl z) fun z=>absurd rfl z
 | none=>
  refine core (fun b=>if b=a then some (.frz {cls:=.type "list",data:=.seq vs.toArray} (.lst (ns.map V.int))) else none) (fun b=>?_) (.inl (.inr ⟨{cls:=.type "list",data:=.seq vs.toArray},if_pos rfl⟩)) (fun b u z=>?_) (fun b z=>?_) fun _=>hk
  ·by_cases hb:b=a
   ·exact .inr ⟨_,_,if_pos hb⟩
   ·exact .inl (if_neg hb)
  ·by_cases hb:b=a
   ·have z':=(if_pos hb).symm.trans z
    cases z'
    subst hb
    exact⟨ha,by rw[List.length_map];exact hl,vs,_,rv,ha⟩
   ·have z':=(if_neg hb).symm.trans z
    cases z'
  ·by_cases hb:b=a
   ·exact hb
   ·exact absurd (if_neg hb) z
end L2
namespace L2
open PySem PySem.Spec PyProof.Rows
abbrev KOf {K:PySem.W.Frag} {h:Heap} (_:K.In h):PySem.W.Frag:=K
theorem walk_of {l:PySem.W.OpenLaw} {n k:Nat} {q:Program} {loose:List Str} {XP:(Str→Option Value)→Heap→Prop} {YP:World→Heap→Prop} {d:DefRec} {K:Params→PySem.W.Frag} {CX:World→CXT} {sp:World→Sp} {x:Str}
  (hn:l.most=some n) (hn2:n≤sizeLine) (hdf:d.params.defaults=[]) (hr:Room k callerA)
  (hY:∀(w:World) (h:Heap),YP w h→(K w.params).In h)
  (F:∀(w:World) (mg:Str→Option Value) (fa:Addr) (h:Heap),(K w.params).In h→h.Ns mainGlobals mg→mg d.name=some (.ref fa)→
   ∃fd:FuncData,(∀(s:Shared) (u:Value),BindsTo s fd ⟨[u],[]⟩ [(x,u)])∧
    ∀base:Heap,(K w.params).In base→base.Ns mainGlobals mg→FnOk l.prog w (K w.params) mg base (CX w) k fa fd [x] (sp w))
  (hsp:∀(w:World) (H:Hp) (a:Addr) (ns:List Int),ns.length≤n→Only H→SqL (K w.params) H a (ns.map V.int)→sp w [.ref a] H (fun v _=>v=.bl true) fun _ _ _=>False)
  (hCX:∀(w:World) (H:Hp) (s:Shared) (e:Value) (s':Shared),CX w [] H s (fun _ _ _=>False) e s'→False):
  PySem.W.WalkO q loose XP YP l.row.toRowW d [] (fun f vs=>PySem.call f vs):=by
 refine Att.attach_call hn hdf fun w s₀ s₁ mg mb fa o pm cd doc a vs ns G Y ho hd hcd hmg hobj hints hlen hg=>?_
 have KX:=hY w _ Y
 obtain⟨fd,hb,hF⟩:=F w mg fa _ KX G.T.g hmg
 exact law_call KX G.T.g G.T.b G.T.builtins G.T.nolimit hg hobj hints (Nat.le_trans hlen hn2) hr hF hb (fun H hO hS=>hsp w H a ns hlen hO hS) fun H e s'=>hCX w H s₁ e s'
end L2
namespace L2
open PySem PySem.Spec PyProof.Rows
noncomputable def inClass (s:Stmt) (j:Nat):Stmt:=match s with
 | .ClassDef _ _ _ body _ _ _ _ _ _ _=>body.getD j (.Pass ⟨0,0,0,0⟩)
 | _=>.Pass ⟨0,0,0,0⟩
noncomputable def defArgs (s:Stmt):Arguments:=match s with
 | .FunctionDef _ a _ _ _ _ _ _ _ _=>a
 | _=>{posonlyargs:=[],args:=[],vararg:=none,kwonlyargs:=[],kw_defaults:=[],kwarg:=none,defaults:=[]}
noncomputable def defBody (s:Stmt):List Stmt:=match s with
 | .FunctionDef _ _ b _ _ _ _ _ _ _=>b
 | _=>[]
noncomputable def defScope (s:Stmt):Scope:=match s with
 | .FunctionDef _ _ _ _ _ _ sc _ _ _=>sc
 | _=>{kind:=.function,names:=[],isGenerator:=false,isCoroutine:=false}
abbrev CX0:CXT:=fun _ _ _ _ _ _=>False
abbrev E0:XK:=fun _ _ _=>False
structure Fun (K:PySem.W.Frag) (x qual:Str) (st:Stmt) (f:Addr) (fd:FuncData):Prop where
 ex:∃(oc:Value) (od:Option Addr) (kV doc pm:Value) (an:Option Addr) (cdv ct:Value) (osl:Array (Option Value)),
  fd=PySem.W.fnOf x qual (defArgs st) (defBody st) (defScope st) .none kV doc pm an cdv ct∧K.lookup f=some ⟨oc,od,.func fd,osl⟩∧PySem.W.codeIn K cdv qual=true
 kp:PySem.W.keepIn K (.ref f)=true
section
variable {P : Program} {w : World} {K : PySem.W.Frag} {mg : Str → Option Value} {base : Heap}
theorem Fun.binds {x qual:Str} {st:Stmt} {f:Addr} {fd:FuncData} {ps:List Str} (F:Fun K x qual st f fd)
  (h:∀(kV doc pm:Value) (an:Option Addr) (cdv ct:Value) (us:List Value),us.length=ps.length→bindArgs (PySem.W.fnOf x qual (defArgs st) (defBody st) (defScope st) .none kV doc pm an cdv ct) ⟨us,[]⟩=pure (ps.zip us)):Binds K fd ps []:=by
 obtain⟨oc,od,kV,doc,pm,an,cdv,ct,osl,rfl,lk,hcd⟩:=F.ex
 exact .all (h kV doc pm an cdv ct)
theorem fun_mk {x qual:Str} {st:Stmt} {f:Addr} {oc:Value} {od an:Option Addr} {osl:Array (Option Value)} {kV doc pm cdv ct:Value} (l:K.lookup f=some ⟨oc,od,.func (PySem.W.fnOf x qual (defArgs st) (defBody st) (defScope st) .none kV doc pm an cdv ct),osl⟩)
  (c:PySem.W.codeIn K cdv qual=true) (k:PySem.W.keepIn K (.ref f)=true):Fun K x qual st f (PySem.W.fnOf x qual (defArgs st) (defBody st) (defScope st) .none kV doc pm an cdv ct):=⟨⟨oc,od,kV,doc,pm,an,cdv,ct,osl,rfl,l,c⟩,k⟩
end
theorem hu_of {A:Around} {k:Nat} (hr:Room k A):A.units+1<cLine:=Nat.lt_of_le_of_lt (Nat.add_le_add_left (by decide:1≤64) _) hr.units
section
variable {X : Cx}
theorem pv (i:Nat) {x:Str} {pos:Pos} (hN:X.N[i]?=some x:=by rfl) (hv:Vis X.env.scope x:=by first | exact Or.inl rfl | exact Or.inr (Or.inl rfl) | exact Or.inr (Or.inr rfl)) (hd:(x==("__debug__":Str))=false:=by decide)
  (hcd:(x==("__classdict__":Str))=false:=by decide):PE X (.Name x pos) (tVar i):=pe_var hN hv hd hcd
end
theorem iteT {A B:Prop} (h:A):if true=true then A else B:=by
 rw[if_pos rfl]
 exact h
theorem ite2 {c A B:Prop} [Decidable c] (h1:c→A) (h2:¬c→B):if c then A else B:=by
 by_cases h:c
 ·rw[if_pos h]
  exact h1 h
 ·rw[if_neg h]
  exact h2 h
noncomputable def Same (H H':Hp):Prop:=∀b o,H b=some o→H' b=some o
theorem Same.refl (H:Hp):Same H H:=fun _ _ h=>h
theorem Same.trans {H H1 H2:Hp} (a:Same H H1) (b:Same H1 H2):Same H H2:=fun c o h=>b c o (a c o h)
theorem Same.seq {K:PySem.W.Frag} {H H':Hp} {a:Addr} {xs:List V} (e:Same H H') (h:SqL K H a xs):SqL K H' a xs:=by
 rcases h with (h | ⟨o,h⟩) | h
 ·exact .inl (.inl (e _ _ h))
 ·exact .inl (.inr ⟨o,e _ _ h⟩)
 ·exact .inr h
end L2
namespace L2
open PySem PySem.Spec PyProof.Rows
section
variable {X : Cx}
theorem call_lenD:CallR X (.builtin "len") (fun xs H Q=>∃a kvs,xs=[V.ref a]∧H a=some (.dK kvs)∧Q (.int kvs.length) H):=by
 intro pins s σ H xs us Q I r h
 obtain⟨a,kvs,rfl,ha,q⟩:=h
 obtain⟨u,rfl,ru⟩:=vals1 r
 cases ru
 exact d_len I (.inl ha) fun t s' I'=>⟨.int kvs.length,H,I',⟨t,rfl⟩,q⟩
end
section
variable {κ : Type} [DecidableEq κ]
end
end L2
namespace L2
open PySem PySem.Spec PyProof.Rows
noncomputable def Bt (n:Nat) (i:Int):Prop:=i.natAbs<2^n
theorem Bt.neg {n:Nat} {i:Int} (h1:Bt n i):Bt n (-i):=by
 unfold Bt at *
 omega
theorem Bt.le {n:Nat} {i j:Int} (h:Bt n j) (q:i.natAbs≤j.natAbs):Bt n i:=Nat.lt_of_le_of_lt q h
theorem Bt.of {n:Nat} {i:Int} (b:Nat) (h1:-(b:Int)≤i) (h2:i≤(b:Int)) (h:b<2^n:=by decide +kernel):Bt n i:=by
 unfold Bt
 exact Nat.lt_of_le_of_lt (by omega) h
theorem Bt.log {n:Nat} {i:Int} (h:Bt n i) (q:n≤9000:=by decide):i.natAbs.log2<9000:=by
 by_cases z:i.natAbs=0
 ·rw[z];decide
 ·exact Nat.lt_of_lt_of_le ((Nat.log2_lt z).mpr h) q
theorem mulOkL {i j:Int} (h1:-(2^64)<i:=by decide) (h2:i<2^64:=by decide):IntMulOk i j:=.of_left (intBits_le_64 h1 h2)
theorem mulOkR {i j:Int} (h1:-(2^64)<j:=by decide) (h2:j<2^64:=by decide):IntMulOk i j:=.of_right (intBits_le_64 h1 h2)
section
variable {X : Cx}
theorem op_mulB:OpR X (binaryOp .Mult) (rI IntMulOk fun i j=>.int (i*j)):=opI fun _ _ _ _ _ _ _ hc q=>mul_int q hc
noncomputable def CDivB (_ j:Int):Prop:=0<j∧j.natAbs.log2<9000
theorem CDivB.of {i j:Int} {n:Nat} (h:0<j) (b:Bt n j) (q:n≤9000:=by decide):CDivB i j:=⟨h,b.log q⟩
theorem CDivB.lit {i j:Int} (h:0<j:=by decide) (q:j.natAbs.log2<9000:=by decide):CDivB i j:=⟨h,q⟩
theorem op_fdivB:OpR X (binaryOp .FloorDiv) (rI CDivB fun i j=>.int (i / j)):=opI fun i j _ _ _ _ _ hc q=>by
 have h1:(0:Int)<j:=hc.1
 exact floordiv_int (by omega) (by rw[Int.fdiv_eq_ediv_of_nonneg i (by omega)];exact q) (.inl (PyProof.noPylong_of_log2 hc.2))
noncomputable def CDivS (_ j:Int):Prop:=j≠0∧j.natAbs.log2<9000
theorem CDivS.of {i j:Int} {n:Nat} (h:j≠0) (b:Bt n j) (q:n≤9000:=by decide):CDivS i j:=⟨h,b.log q⟩
theorem op_fdivS:OpR X (binaryOp .FloorDiv) (rI CDivS fun i j=>.int (i.fdiv j)):=opI fun _ _ _ _ _ _ _ hc q=>floordiv_int hc.1 q (.inl (PyProof.noPylong_of_log2 hc.2))
theorem op_modB:OpR X (binaryOp .Mod) (rI (fun _ j=>0<j) fun i j=>.int (i % j)):=op_mod
noncomputable def rIxTH:R2:=fun x y H Q=>∃p xs i v,x=.ref p∧y=.int i∧H p=some (.tup xs)∧atI xs i=some v∧Q v H
theorem ix_tupH:IxR X rIxTH:=fun value slice pins s σ H x y v u Q I rx ry ⟨p,xs,i,z,e1,e2,e3,e4,q⟩ hs=>
 ix_tup value slice pins s σ H x y v u Q I rx ry ⟨p,xs,i,z,e1,e2,SqT.of e3,e4,q⟩ hs
noncomputable def rIxLH:R2:=fun x y H Q=>∃p xs i v,x=.ref p∧y=.int i∧H p=some (.lst xs)∧atI xs i=some v∧Q v H
theorem ix_listH:IxR X rIxLH:=fun value slice pins s σ H x y v u Q I rx ry ⟨p,xs,i,z,e1,e2,e3,e4,q⟩ hs=>
 ix_list value slice pins s σ H x y v u Q I rx ry ⟨p,xs,i,z,e1,e2,SqL.of e3,e4,q⟩ hs
noncomputable def tTupS (t:TA):TE:=fun σ H Q=>t σ H fun xs H1=>xs.length≤sizeLine∧∀p H2,Same H1 H2→H1 p=none→H2 p=some (.tup xs)→Q (.ref p) H2
theorem same_upd {H:Hp} {p:Addr} {o:HO} (h:H p=none):Same H (upd H p o):=fun b u e=>by
 rw[upd_ne (ne_of_none e h)]
 exact e
theorem pe_tupS {es:List Expr} {t:TA} {x1} {pos:Pos} (h:PA X es t):PE X (.Tuple es x1 pos) (tTupS t):=fun pins s σ H Q I hq=>
 thn (h:=wpAny_Tuple_spliced (thn (h pos pins s σ H _ I hq) fun us s1 ⟨xs,H1,I1,r,z,q⟩=>⟨by rw[←r.length];exact z,by
  have hf:H1 s1.heap.objs.size=none:=I1.hok.fresh (Nat.le_refl _)
  refine⟨.ref s1.heap.objs.size,upd H1 s1.heap.objs.size (.tup xs),I1.laid (t':=s1.toks) (fun b u e=>Heap.get?_push_of_some _ e) (Nat.le_refl _) ?_,rfl,q _ _ (same_upd hf) hf upd_same⟩
  exact⟨z,us,r,⟨_,Heap.get?_push_size _ rfl,rfl,_,rfl⟩⟩⟩)) fun _ _ z=>z
theorem call_lenL:CallR X (.builtin "len") (fun xs H Q=>∃p ys,xs=[.ref p]∧H p=some (.lst ys)∧Q (.int ys.length) H):=fun pins s σ H xs us Q I r ⟨p,ys,e,h,q⟩=>
 call_len_seq pins s σ H xs us Q I r ⟨p,ys,e,.inl (SqL.of h),q⟩
theorem call_lenQ:CallR X (.builtin "len") (fun xs H Q=>∃p ns,xs=[.ref p]∧SqL X.K H p (List.map V.int ns)∧Q (.int (List.length ns:Nat)) H):=fun pins s σ H xs us Q I r ⟨p,ns,e,h,q⟩=>
 call_len_seq pins s σ H xs us Q I r ⟨p,_,e,.inl h,by rw[List.length_map];exact q⟩
noncomputable def rIxQ (K:PySem.W.Frag):R2:=fun x y H Q=>∃p ns i,x=.ref p∧y=.int i∧SqL K H p (List.map V.int ns)∧0≤i∧i< (List.length ns:Nat)∧Q (.int (ns.getD i.toNat 0)) H
theorem atI_ints {ns:List Int} {i:Int} (h0:0≤i) (h1:i< (ns.length:Nat)):atI (ns.map V.int) i=some (.int (ns.getD i.toNat 0)):=by
 obtain⟨j,rfl⟩:=Int.eq_ofNat_of_zero_le h0
 refine atI_nat ?_
 have hj:j<ns.length:=by omega
 rw[List.getElem?_map,List.getElem?_eq_getElem hj]
 simp [List.getD_eq_getElem?_getD,List.getElem?_eq_getElem hj]
theorem ix_listS:IxR X (rIxQ X.K):=fun value slice pins s σ H x y v u Q I rx ry ⟨p,ns,i,e1,e2,e3,h0,h1,q⟩ hs=>
 ix_list value slice pins s σ H x y v u Q I rx ry ⟨p,_,i,_,e1,e2,e3,atI_ints h0 h1,q⟩ hs
structure Cal (P:Program) (w:World) (K:PySem.W.Frag) (mg:Str→Option Value) (base:Heap) (CX:CXT) (k:Nat) (x:Str) (ps:List Str) (sp:Sp):Prop where
 ex:∃f fd,FnOk P w K mg base CX k f fd ps sp∧mg x=some (.ref f)∧PySem.W.keepIn K (.ref f)=true∧Binds K fd ps []
theorem pe_cal {CX:CXT} {k:Nat} {x:Str} {ps:List Str} {sp:Sp} {E:XK} {e:Expr} {es:List Expr} {t:TA} {p pos:Pos} (C:Cal X.prog X.w X.K X.mg X.base CX k x ps sp) (hr:Room k X.A) (hg:Gl X x) (hx:Passes CX X E) (ha:PA X (e::es) t)
  (hdb:(x==("__debug__":Str))=false:=by decide) (he:starEach (e::es) X.env=(false,eval e X.env)::starEach es X.env:=by rfl) (hpl:(backTo pos (starEach es X.env)).any (·.1)=false:=by rfl):
  PE X (.Call (.Name x p) (e::es) [] pos) (tCall sp [] E t):=by
 obtain⟨f,fd,F,hm,hk,hb⟩:=C.ex
 exact pe_call F hr hg hm hk hb .nil hx ha hdb he hpl
end
noncomputable def Strict (CX:CXT):Prop:=∀outer H s e s',¬CX outer H s (fun _ _ _=>False) e s'
theorem Strict.pass {CX:CXT} (h:Strict CX) {X:Cx}:Passes CX X E0:=fun _ _ H s e s' _ z=>(h _ H s e s' z).elim
section
variable {P : Program} {w : World} {K : PySem.W.Frag} {mg : Str → Option Value} {base : Heap} {CX : CXT}
theorem Fun.okC {x qual:Str} {st:Stmt} {f:Addr} {fd:FuncData} {N ps:List Str} {k:Nat} {sp:Sp} (F:Fun K x qual st f fd) (S:FnScope N ps (defScope st)) (len:∀vs H Q E,sp vs H Q E→vs.length=ps.length)
  (hbody:∀(cdv:Value) (A:Around) (outer:List Env) (s:Shared) (H:Hp) (vs:List V) (Q:VK) (E:XK),Room k (A.deeper (envOfC qual (defScope st) s.heap.objs.size f cdv))→sp vs H Q E→
   ∃t,PSs (cxOf CX P w K mg base N qual (defScope st) f cdv A outer s H E).nox (defBody st) t∧t {nx:=fun _ H'=>Q .non H',rt:=Q} (start N vs) H):FnOk P w K mg base CX (k+1) f fd ps sp:=by
 obtain⟨oc,od,kV,doc,pm,an,cdv,ct,osl,rfl,lk,hcd⟩:=F.ex
 refine fn_of lk hcd S len fun A outer s H vs Q E hr hsp=>?_
 obtain⟨t,h,q⟩:=hbody cdv A outer s H vs Q E hr hsp
 exact⟨t,h.nox,q⟩
structure Dn (K:PySem.W.Frag) (mg:Str→Option Value) (x:Str) (st:Stmt):Prop where
 ex:∃f fd,Fun K x x st f fd∧mg x=some (.ref f)
theorem Dn.cal {x:Str} {st:Stmt} {ps:List Str} {k:Nat} {sp:Sp} (D:Dn K mg x st)
  (hb:∀(kV doc pm:Value) (an:Option Addr) (cdv ct:Value) (us:List Value),us.length=ps.length→bindArgs (PySem.W.fnOf x x (defArgs st) (defBody st) (defScope st) .none kV doc pm an cdv ct) ⟨us,[]⟩=pure (ps.zip us))
  (h:∀f fd,Fun K x x st f fd→FnOk P w K mg base CX k f fd ps sp):Cal P w K mg base CX k x ps sp:=by
 obtain⟨f,fd,F,hm⟩:=D.ex
 exact⟨f,fd,h f fd F,hm,F.kp,F.binds hb⟩
end
section
variable {X : Cx}
noncomputable def eqL (xs ys:List V):Bool:=(List.range (min xs.length ys.length)).all (fun j=>eqV (xs.getD j .non) (ys.getD j .non)) && xs.length==ys.length
noncomputable def rEqT:R2:=fun x y H Q=>∃p q xs ys,x=.ref p∧y=.ref q∧H p=some (.tup xs)∧H q=some (.tup ys)∧xs.all flatV=true∧ys.all flatV=true∧Q (.bl (eqL xs ys)) H
noncomputable def rInT:R2:=fun x y H Q=>∃p xs,y=.ref p∧H p=some (.tup xs)∧flatV x=true∧xs.all flatV=true∧Q (.bl (inV x xs)) H
theorem op_in_tupH:OpR X (compareOp .In) rInT:=fun pins s σ H x y v u Q I rx ry ⟨p,xs,e1,e2,f1,f2,q⟩=>
 op_in_seq pins s σ H x y v u Q I rx ry ⟨p,xs,e1,.inr (SqT.of e2),f1,f2,q⟩
theorem call_isT:CallR X (.builtin "isinstance") (fun xs H Q=>∃x c t b,xs=[x,.ty c]∧TyOf X.K H x t∧PySem.W.kitOne X.K t (.type c)=some b∧Q (.bl b) H):=by
 intro pins s σ H xs us Q I r h
 obtain⟨x,c,t,b,rfl,ty,e,q⟩:=h
 obtain⟨u,u',rfl,rx,rc⟩:=vals2 r
 cases rc
 exact isinst_ok I rx ty e fun tk=>⟨.bl b,H,I.tok tk,rfl,q⟩
end
theorem at0 {α:Type} {x:α} {l:List α}:atI (x::l) 0=some x:=atI_nat (j:=0) rfl
theorem at1 {α:Type} {x y:α} {l:List α}:atI (x::y::l) 1=some y:=atI_nat (j:=1) rfl
theorem at2 {α:Type} {x y z:α} {l:List α}:atI (x::y::z::l) 2=some z:=atI_nat (j:=2) rfl
noncomputable def Pr (a b:Int):List V:=[.int a,.int b]
end L2
namespace Nm
noncomputable def g (a b:Int):Int:=(Int.gcd a b:Nat)
theorem g_pos {a b:Int} (h:b≠0):0<g a b:=by
 have:=Int.gcd_pos_of_ne_zero_right a h
 unfold g
 omega
theorem g_dvd_l (a b:Int):g a b∣a:=Int.gcd_dvd_left ..
theorem g_dvd_r (a b:Int):g a b∣b:=Int.gcd_dvd_right ..
theorem g_comm (a b:Int):g a b=g b a:=by unfold g;rw[Int.gcd_comm]
theorem g_le {a b:Int} (h:0<b):g a b≤b:=Int.le_of_dvd h (g_dvd_r a b)
theorem g_abs (a b:Int):g (a.natAbs:Int) b=g a b:=by
 unfold g Int.gcd
 rw[Int.natAbs_natCast]
theorem g_abs_r (a b:Int):g a (b.natAbs:Int)=g a b:=by
 rw[g_comm,g_abs,g_comm]
theorem g_step {a b:Int} (ha:0≤a) (_hb:0<b):g b (a % b)=g a b:=by
 unfold g Int.gcd
 rw[Int.natAbs_emod_of_nonneg ha,Nat.gcd_comm b.natAbs,←Nat.gcd_rec,Nat.gcd_comm]
theorem g_zero {a:Int} (ha:0≤a):g a 0=a:=by
 unfold g
 rw[Int.gcd_zero_right]
 omega
theorem g_abs_le {a b:Int} (h:b≠0):g a b≤(b.natAbs:Int):=by
 rw[←g_abs_r]
 exact g_le (by omega)
theorem back {a b c d p q x y:Int} (hq:0<q) (hd:0<d) (e:p* (b*d)=(a*d - c*b)*q) (f:x* (q*d)=(p*d+c*q)*y):x*b=a*y:=by
 have h:(x*b)* (q*d)=(a*y)* (q*d):=by grind
 exact Int.eq_of_mul_eq_mul_right (by have:=Int.mul_pos hq hd;omega) h
end Nm
namespace L2
open PySem PySem.Spec PyProof.Rows PySem.W
noncomputable def NoCx (h:Heap) (e:Addr):Prop:=∃o vs,h.get? e=some o∧o.data=.fields vs∧vs[2]?=some .none
section
variable {M : Model} {A : Around} {E : Value → Shared → Prop} {s : Shared} {base : Heap} {env : Env} {outer : List Env} {L e : Addr} {a0 : Value} {Q : Unit → Shared → Prop} {p : Prop}
theorem entry_nc {oe:Obj} {vs:Array Value} {head:Value} {hn:Bool} (hfr:A.frames=some (env::outer)) (hl:s.heap.FunFrames base (env::outer)) (hf:env.frame=some L) (he:s.heap.get? e=some oe)
  (kb:base.StaysIn s.heap) (en:base.get? e=none) (hd:oe.data=.fields vs) (z:1<vs.size) (h0:vs[0]?=some a0) (h2:p→vs[2]?=some .none)
  (h:∀h',Heap.HeldW base (env::outer) e oe.cls a0 L h'→s.heap.UpToSlots h'→(p→NoCx h' e)→Q () {s with heap:=h'}):
  wpAny M A (do
   let a ←frameOf env
   let pl ←entryPlaceOf L hn
   let b ←EntryCells.newEntry head a .none (rawInt L) .none pl
   setField (.ref e) 1 b) Q E s:=by
 have ef:e∉(env::outer).filterMap (·.frame):=fun m=>by
  obtain⟨_,o,ho,nf⟩:=hl.mem m
  rw[he] at ho
  cases ho
  exact nf vs hd
 refine wpAny_bind (wpAny_frameOf_fun hfr hl hf fun h1 sl1=>wpAny_bind (wpAny_entryPlaceOf fun pl hpl=>?_))
 unfold EntryCells.newEntry newFields
 refine wpAny_bind (wpAny_newObj_type ?_ (hpl.sizeOk5 _ _ _ _ _))
 have e1:h1.get? e=some oe:=(sl1.2.1 e ef).trans he
 generalize hT:([head,.ref L,.none,rawInt L,.none]++ (if pl.isEmpty then List.replicate 6 Value.none else pl)).toArray=ts
 have t3:ts[3]?=some (rawInt L):=by rw[←hT];first | (simp;done) | (rcases hpl with rfl | ⟨_,_,_,_,_,_,_,rfl⟩ <;>simp)
 have e2:=Heap.get?_push_of_some (h:=h1) {cls:=.type "traceback",dict:=none,data:=.fields ts} e1
 have ne:h1.objs.size≠e:=Nat.ne_of_gt (Heap.lt_size e1)
 have d3:=Obj.data_mapFields hd (·.setIfInBounds 1 (Value.ref h1.objs.size))
 have e3:=Heap.get?_update_self (Obj.mapFields (·.setIfInBounds 1 (Value.ref h1.objs.size))) e2 (Obj.isFreed_of_fields d3)
 have kp:∀b o,b≠e→h1.get? b=some o→((h1.push {cls:=.type "traceback",dict:=none,data:=.fields ts}).update e (Obj.mapFields (·.setIfInBounds 1 (Value.ref h1.objs.size)))).get? b=some o:=fun b o be hb=>by
  rw[Heap.get?_update_other _ _ (Ne.symm be)]
  exact Heap.get?_push_of_some _ hb
 have nr:∀b o,s.heap.get? b=some o→(∀vs,o.data≠.fields vs)→b≠e:=fun b o hb nf q=>by
  rw[q,he] at hb
  cases hb
  exact nf vs hd
 refine wpAny_setField e2 hd z (h _ ?_ ?_ ?_)
 ·have k1:base.StaysIn h1:=fun b o hb=>(sl1.2.1 b fun m=>by rw[(hl.mem m).1] at hb;cases hb).trans (kb b o hb)
  refine⟨fun b o hb=>kp b o (fun q=>by rw[q,en] at hb;cases hb) (k1 b o hb),en,hl.of_keeps fun b o hb nf=>?_,_,_,h1.objs.size,{cls:=.type "traceback",dict:=none,data:=.fields ts},ts,e3,⟨Obj.cls_mapFields _ _,?_⟩,d3,by simp [z],k1.fresh,ne,?_,rfl,t3⟩
  ·obtain⟨sl,hs⟩:=sl1.2.2 b o hb
   exact⟨_,kp b _ (nr b o hb nf) hs,rfl⟩
  ·rw[Array.getElem?_setIfInBounds_ne (by decide)]
   exact h0
  ·rw[Heap.get?_update_other _ _ (Ne.symm ne)]
   exact Heap.get?_push_size h1 rfl
 ·intro b o hb nf
  obtain⟨sl,hs⟩:=sl1.2.2 b o hb
  exact⟨sl,kp b _ (nr b o hb nf) hs⟩
 ·intro hp
  refine⟨_,_,e3,d3,?_⟩
  rw[Array.getElem?_setIfInBounds_ne (by decide)]
  exact h2 hp
theorem note_first {oe:Obj} {vs:Array Value} (hfr:A.frames=some (env::outer)) (hl:s.heap.FunFrames base (env::outer)) (hf:env.frame=some L) (he:s.heap.get? e=some oe)
  (kb:base.StaysIn s.heap) (en:base.get? e=none) (hd:oe.data=.fields vs) (h1:vs[1]?=some .none) (h0:vs[0]?=some a0) (h2:p→vs[2]?=some .none)
  (h:∀h',Heap.HeldW base (env::outer) e oe.cls a0 L h'→s.heap.UpToSlots h'→(p→NoCx h' e)→Q () {s with heap:=h'}):wpAny M A (noteFrame (.ref e) env) Q E s:=by
 unfold noteFrame
 simp only[hf]
 refine wpAny_bind (wpAny_field he hd h1 ?_)
 rw[if_neg (by decide)]
 exact entry_nc hfr hl hf he kb en hd (Array.getElem?_eq_some_iff.mp h1).1 h0 h2 h
theorem note_nc {cls:Value} (hfr:A.frames=some (env::outer)) (hf:env.frame=some L) (fl:Heap.FlyingW base (env::outer) e cls a0 s.heap) (nc:p→NoCx s.heap e)
  (h:∀h',Heap.HeldW base (env::outer) e cls a0 L h'→s.heap.UpToSlots h'→(p→NoCx h' e)→Q () {s with heap:=h'}):wpAny M A (noteFrame (.ref e) env) Q E s:=by
 obtain⟨kb,en,hl,oe,vs,T,oT,ts,he,⟨rfl,h0⟩,hd,h1,nT,Te,gT,dT,h3⟩:=fl
 have h2:p→vs[2]?=some .none:=fun hp=>by
  obtain⟨o,ws,q,d,r⟩:=nc hp
  rw[he] at q
  cases q
  rw[hd] at d
  cases d
  exact r
 unfold noteFrame
 simp only[hf]
 refine wpAny_bind (wpAny_field he hd h1 ?_)
 rw[if_pos (by simp)]
 refine wpAny_bind (wpAny_field gT dT h3 ?_)
 rw[if_neg (by simp [rawInt])]
 refine wpAny_bind (wpAny_setField gT dT (Array.getElem?_eq_some_iff.mp h3).1 ?_)
 have ot:∀b,b≠T→(s.heap.update T (Obj.mapFields (·.setIfInBounds 3 Value.none))).get? b=s.heap.get? b:=fun b hb=>Heap.get?_update_other _ _ (Ne.symm hb)
 have nr:∀b o,s.heap.get? b=some o→(∀vs,o.data≠.fields vs)→b≠T:=fun b o hb nf q=>by
  rw[q,gT] at hb
  cases hb
  exact nf ts dT
 exact entry_nc hfr (hl.of_keeps fun b o hb nf=>⟨o,(ot b (nr b o hb nf)).trans hb,rfl⟩) hf ((ot e (Ne.symm Te)).trans he) (fun b o hb=>(ot b fun q=>by rw[q,nT] at hb;cases hb).trans (kb b o hb)) en hd (Array.getElem?_eq_some_iff.mp h1).1 h0 h2
  fun h' x1 x2 x3=>h h' x1 (fun b o hb nf=>x2 b o ((ot b (nr b o hb nf)).trans hb) nf) x3
theorem land_nc {cls fl:Value} {l:List Env} (kb:base.StaysIn s.heap) (en:base.get? e=none) (hl:s.heap.FunFrames base l) (ht:s.heap.TracedAtW base e cls a0 fl) (nc:p→NoCx s.heap e)
  (h:∀h',Heap.FlyingW base l e cls a0 h'→s.heap.UpToSlots h'→(p→NoCx h' e)→Q () {s with heap:=h'}):wpAny M A (setFlight (.ref e) none) Q E s:=by
 obtain⟨oe,vs,T,oT,ts,he,hc,hd,h1,nT,Te,gT,dT,h3⟩:=ht
 have z3:3<ts.size:=(Array.getElem?_eq_some_iff.mp h3).1
 have ot:∀b,b≠T→(s.heap.update T (Obj.mapFields (·.setIfInBounds 3 ((none:Option Addr).elim Value.none fun f=>rawInt f)))).get? b=s.heap.get? b:=fun b hb=>Heap.get?_update_other _ _ (Ne.symm hb)
 have nr:∀b o,s.heap.get? b=some o→(∀vs,o.data≠.fields vs)→b≠T:=fun b o hb nf q=>by
  rw[q,gT] at hb
  cases hb
  exact nf ts dT
 unfold setFlight
 refine wpAny_bind (wpAny_field he hd h1 ?_)
 rw[if_pos (by simp)]
 refine wpAny_setField gT dT z3 (h _ ⟨fun b o hb=>(ot b fun q=>by rw[q,nT] at hb;cases hb).trans (kb b o hb),en,hl.of_keeps fun b o hb nf=>⟨o,(ot b (nr b o hb nf)).trans hb,rfl⟩,
  oe,vs,T,_,_,(ot e (Ne.symm Te)).trans he,hc,hd,h1,nT,Te,Heap.get?_update_self _ gT (Obj.isFreed_of_fields (Obj.data_mapFields dT _)),Obj.data_mapFields dT _,by simp [z3]⟩ (fun b o hb nf=>⟨o.slots,(ot b (nr b o hb nf)).trans hb⟩) fun hp=>?_)
 obtain⟨o,ws,q,d,r⟩:=nc hp
 exact⟨o,ws,(ot e (Ne.symm Te)).trans q,d,r⟩
theorem leave_nc {cls:Value} (hfr:A.frames=some (env::outer)) (hf:env.frame=some L) (fl:Heap.FlyingW base (env::outer) e cls a0 s.heap) (nc:p→NoCx s.heap e)
  (h:∀h',Heap.FlyingW base outer e cls a0 h'→s.heap.UpToSlots h'→(p→NoCx h' e)→Q () {s with heap:=h'}):wpAny M A (leaving env (.ref e)) Q E s:=by
 unfold leaving
 refine wpAny_bind (note_nc hfr hf fl nc fun h' x1 x2 x3=>?_)
 exact land_nc x1.1 x1.2.1 x1.2.2.1 x1.2.2.2 x3 fun h2 y1 y2 y3=>by
  obtain⟨k1,k2,⟨_,_,k3⟩,k4⟩:=y1
  exact h h2 ⟨k1,k2,k3,k4⟩ (x2.trans y2) y3
theorem leave_first {h0:Heap} {oe:Obj} {vs:Array Value} (hfr:A.frames=some (env::outer)) (hf:env.frame=some L) (kb:base.StaysIn h0) (hl:h0.FunFrames base (env::outer)) (kp:∀b o,h0.get? b=some o→s.heap.get? b=some o) (nw:h0.get? e=none)
  (he:s.heap.get? e=some oe) (hd:oe.data=.fields vs) (h1:vs[1]?=some .none) (z0:vs[0]?=some a0) (h2:p→vs[2]?=some .none)
  (h:∀h',Heap.FlyingW base outer e oe.cls a0 h'→s.heap.UpToSlots h'→(p→NoCx h' e)→Q () {s with heap:=h'}):wpAny M A (leaving env (.ref e)) Q E s:=by
 have en:base.get? e=none:=by
  cases q:base.get? e with
  | none=>rfl
  | some o=>
   have:=kb e o q
   rw[nw] at this
   cases this
 unfold leaving
 refine wpAny_bind (note_first hfr (hl.of_keeps fun b o hb _=>⟨o,kp b o hb,rfl⟩) hf he (fun b o hb=>kp b o (kb b o hb)) en hd h1 z0 h2 fun h' x1 x2 x3=>?_)
 exact land_nc x1.1 x1.2.1 x1.2.2.1 x1.2.2.2 x3 fun h2 y1 y2 y3=>by
  obtain⟨k1,k2,⟨_,_,k3⟩,k4⟩:=y1
  exact h h2 ⟨k1,k2,k3,k4⟩ (x2.trans y2) y3
end
end L2
namespace L2
open PySem PySem.Spec PyProof.Rows PySem.W
theorem ObjOk.get {P:Program} {w:World} {H:Hp} {h:Heap} {a:Addr}:∀{o:HO},ObjOk P w H h a o→∃ob,h.get? a=some ob
 | .lst _,x=>let ⟨_,_,_,_,e⟩:=x;⟨_,e⟩
 | .tup _,x=>let ⟨_,_,_,o,e,_⟩:=x;⟨o,e⟩
 | .dK _,x=>let ⟨_,_,_,_,o,_,_,e,_⟩:=x;⟨o,e⟩
 | .dT _,x=>let ⟨_,_,_,_,o,_,_,e,_⟩:=x;⟨o,e⟩
 | .set _ _,x=>by
  obtain⟨o,es,ep,t,e,_⟩:=x
  exact⟨o,e⟩
 | .ins _ _ _,x=>let ⟨_,_,_,e,_⟩:=x;⟨_,e⟩
 | .own _,x=>x
 | .xd _,x=>by
  obtain⟨mA,⟨o,es,ep,e,_⟩,_⟩:=x
  exact⟨o,e⟩
 | .rng _ _,x=>let ⟨_,_,_,e⟩:=x;⟨_,e⟩
 | .frz _ _,x=>⟨_,x.1⟩
 | .tbl _,⟨_,x,_⟩=>⟨_,x⟩
 | .met _ _,x=>⟨_,x⟩
 | .ext _,x=>x.2.1
theorem HOk.inB {P:Program} {w:World} {H:Hp} {h h' B:Heap} (ok:HOk P w H h) (hB:∀b u o,H b=some u→h.get? b=some o→B.get? b=some o) (st:B.StaysIn h'):HOk P w H h':=fun a o e=>
 (ok a o e).stay (fun b u hb q=>st b u (by
  rcases hb with rfl | hb
  ·exact hB _ _ _ e q
  ·exact hB _ _ _ hb q)) (fun _ r=>r) fun _ _ r=>r
structure Fly (P:Program) (w:World) (l:List Env) (H:Hp) (s:Shared) (H':Hp) (ad:Addr) (cls:Value) (s':Shared):Prop where
 os:s'.os=s.os
 bare:AllBare s'.gens
 un:Un (frs l) [] H H' s.heap s'.heap
 hok:HOk P w H' s'.heap
 fl:∃B a0,Heap.FlyingW B l ad cls a0 s'.heap∧(∀b o,s.heap.get? b=some o→H b=none→b∉frs l→B.get? b=some o)∧(∀b o,s.heap.get? b=some o→b∉frs l→∃o',B.get? b=some o')∧
  (∀b u o,H' b=some u→s'.heap.get? b=some o→B.get? b=some o)
noncomputable def CX1 (P:Program) (w:World):CXT:=fun l H s E e s'=>∃ad cls c H',e=.ref ad∧(Fly P w l H s H' ad cls s'∧(c=none→NoCx s'.heap ad))∧E cls c H'
theorem strict1 (P:Program) (w:World):Strict (CX1 P w):=fun _ _ _ _ _ ⟨_,_,_,_,_,_,h⟩=>h
section
variable {P : Program} {w : World} {K : PySem.W.Frag} {mg : Str → Option Value} {base : Heap} {N : List Str} {qual : Str} {scope : Scope} {f : Addr} {cdv : Value} {A : Around} {outer : List Env} {s0 : Shared} {H0 : Hp} {E : XK}
theorem xe_raise {pins:List (Addr×Obj)} {σ:St} {H:Hp} {s:Shared} {h':Heap} {ad:Addr} {cls:Value} {vs:List Value}
  (I:Inv (cxOf (CX1 P w) P w K mg base N qual scope f cdv A outer s0 H0 E) pins σ H s) (mx:Heap.MadeExcOf s.heap h' ad cls vs) (e:E cls none H):
  (cxOf (CX1 P w) P w K mg base N qual scope f cdv A outer s0 H0 E).xe (.ref ad) {s with heap:=h'}:=by
 let env:Env:=envOfC qual scope s0.heap.objs.size f cdv
 have nin:∀b o,s0.heap.get? b=some o→b∉frs outer→b∉frs (env::outer):=fun b o q hb z=>by
  rcases List.mem_cons.mp (show b∈s0.heap.objs.size::frs outer from z) with z | z
  ·rw[z] at q
   exact absurd (Heap.lt_size q) (Nat.lt_irrefl _)
  ·exact hb z
 have hin:∀b,b∈frs outer→b∈frs (env::outer):=fun b hb=>List.mem_cons.mpr (.inr hb)
 have ST:s.heap.FunFrames base (env::outer):=I.stack
 have SF:∀b∈frs (env::outer),H b=none:=I.stkFree
 have BS:Un (frs outer) [] H0 H s0.heap s.heap:=I.base
 show wpAny (model P w) (A.deeper env) (leaving env (.ref ad)) (fun _ s''=>CX1 P w outer H0 s0 E (.ref ad) s'') (fun e' s''=>CX1 P w outer H0 s0 E e' s'') {s with heap:=h'}
 obtain⟨tt,he0,_,_⟩:=mx.there
 refine leave_first (p:=(none:Option Addr)=none) (base:=hideAll s.heap (frs (env::outer))) (h0:=s.heap) (L:=s0.heap.objs.size) I.ok.frames rfl (fun b o q=>of_hideAll _ q)
  (funFrames_hide ST fun en he a ha=>List.mem_filterMap.mpr ⟨en,he,ha⟩) mx.keeps mx.new he0 rfl rfl rfl (fun _=>rfl) fun h2 x1 x4 xc=>?_
 have x4:Heap.UpToSlots h' h2:=x4
 have fr:∀b∈frs (env::outer),∀o,s.heap.get? b=some o→∃sl,h2.get? b=some {o with slots:=sl}:=fun b hb o q=>by
  obtain⟨_,o1,q1,nf⟩:=ST.mem hb
  rw[q] at q1
  cases q1
  exact x4 b o (mx.keeps b o q) nf
 refine⟨ad,cls,none,H,rfl,⟨⟨I.os,I.bare,⟨fun b o q n hb hx=>?_,fun b o q n hb hx=>?_,BS.free,fun b o q hx=>?_,BS.tups,BS.frzs,BS.tbls⟩,?_,⟨_,_,x1,fun b o q n hb=>?_,fun b o q hb=>?_,fun b u o e1 q=>?_⟩⟩,xc⟩,e⟩
 ·exact x1.1 b o (hideAll_get _ (BS.keep b o q n hb hx) (nin b o q hb))
 ·obtain⟨sl,q1⟩:=BS.slot b o q n hb hx
  obtain⟨sl2,q2⟩:=fr b (hin b hb) _ q1
  exact⟨sl2,q2⟩
 ·obtain⟨o1,q1⟩:=BS.there b o q hx
  by_cases hb:b∈frs (env::outer)
  ·obtain⟨sl2,q2⟩:=fr b hb _ q1
   exact⟨_,q2⟩
  ·exact⟨o1,x1.1 b o1 (hideAll_get _ q1 hb)⟩
 ·exact HOk.inB I.hok (fun b u o e1 q=>hideAll_get _ q fun z=>by
   have:=SF b z
   rw[e1] at this
   cases this) x1.1
 ·exact hideAll_get _ (BS.keep b o q n hb (by simp)) (nin b o q hb)
 ·obtain⟨o1,q1⟩:=BS.there b o q (by simp)
  exact⟨o1,hideAll_get _ q1 (nin b o q hb)⟩
 ·obtain⟨o1,q1⟩:=(I.hok b u e1).get
  have q2:=hideAll_get (frs (env::outer)) q1 fun z=>by
   have:=SF b z
   rw[e1] at this
   cases this
  have q3:=x1.1 b o1 q2
  rw[q] at q3
  cases q3
  exact q2
theorem xe_pass:Passes (CX1 P w) (cxOf (CX1 P w) P w K mg base N qual scope f cdv A outer s0 H0 E) E:=by
 intro pins σ H s e s' I c
 let env:Env:=envOfC qual scope s0.heap.objs.size f cdv
 obtain⟨ad,cls,cc,H',rfl,⟨F,nc⟩,he⟩:=c
 have nin:∀b o,s0.heap.get? b=some o→b∉frs outer→b∉frs (env::outer):=fun b o q hb z=>by
  rcases List.mem_cons.mp (show b∈s0.heap.objs.size::frs outer from z) with z | z
  ·rw[z] at q
   exact absurd (Heap.lt_size q) (Nat.lt_irrefl _)
  ·exact hb z
 have hin:∀b,b∈frs outer→b∈frs (env::outer):=fun b hb=>List.mem_cons.mpr (.inr hb)
 have ST:s.heap.FunFrames base (env::outer):=I.stack
 have BS:Un (frs outer) [] H0 H s0.heap s.heap:=I.base
 have FU:Un (frs (env::outer)) [] H H' s.heap s'.heap:=F.un
 obtain⟨B,a0,fl,c0,c2,c1⟩:=F.fl
 have fl:Heap.FlyingW B (env::outer) ad cls a0 s'.heap:=fl
 have c0:∀b o,s.heap.get? b=some o→H b=none→b∉frs (env::outer)→B.get? b=some o:=c0
 have c2:∀b o,s.heap.get? b=some o→b∉frs (env::outer)→∃o',B.get? b=some o':=c2
 show wpAny (model P w) (A.deeper env) (leaving env (.ref ad)) (fun _ s''=>CX1 P w outer H0 s0 E (.ref ad) s'') (fun e' s''=>CX1 P w outer H0 s0 E e' s'') s'
 refine leave_nc (L:=s0.heap.objs.size) I.ok.frames rfl fl nc fun h2 x1 x2 xc=>?_
 have fr:∀b∈frs (env::outer),∀o,s'.heap.get? b=some o→∃sl,h2.get? b=some {o with slots:=sl}:=fun b hb o q=>by
  obtain⟨_,o1,q1,nf⟩:=fl.2.2.1.mem hb
  rw[q] at q1
  cases q1
  exact x2 b o q nf
 refine⟨ad,cls,cc,H',rfl,⟨⟨F.os.trans I.os,F.bare,⟨fun b o q n hb hx=>?_,fun b o q n hb hx=>?_,fun b o q n hx=>?_,fun b o q hx=>?_,fun b xs q=>FU.tups b xs (BS.tups b xs q),fun b o u q=>FU.frzs b o u (BS.frzs b o u q),fun b ps q=>?_⟩,F.hok.inB c1 x1.1,
  ⟨B,a0,x1,fun b o q n hb=>?_,fun b o q hb=>?_,fun b u o e1 q=>?_⟩⟩,xc⟩,he⟩
 ·exact x1.1 b o (c0 b o (BS.keep b o q n hb hx) (BS.free b o q n hx) (nin b o q hb))
 ·obtain⟨sl,q1⟩:=BS.slot b o q n hb hx
  obtain⟨sl1,q2⟩:=FU.slot b _ q1 (BS.free b o q n hx) (hin b hb) hx
  obtain⟨sl2,q3⟩:=fr b (hin b hb) _ q2
  exact⟨sl2,q3⟩
 ·obtain⟨o1,q1⟩:=BS.there b o q hx
  exact FU.free b o1 q1 (BS.free b o q n hx) hx
 ·obtain⟨o1,q1⟩:=BS.there b o q hx
  by_cases hb:b∈frs (env::outer)
  ·obtain⟨o2,q2⟩:=FU.there b o1 q1 hx
   obtain⟨sl2,q3⟩:=fr b hb _ q2
   exact⟨_,q3⟩
  ·obtain⟨o2,q2⟩:=c2 b o1 q1 hb
   exact⟨o2,x1.1 b o2 q2⟩
 ·obtain⟨m1,e1⟩:=BS.tbls b ps q
  obtain⟨m2,e2⟩:=FU.tbls b _ e1
  exact⟨m1++m2,by rw[e2,Array.append_assoc]⟩
 ·exact c0 b o (BS.keep b o q n hb (by simp)) (BS.free b o q n (by simp)) (nin b o q hb)
 ·obtain⟨o1,q1⟩:=BS.there b o q (by simp)
  exact c2 b o1 q1 (nin b o q hb)
 ·obtain⟨o1,q1⟩:=(F.hok b u e1).get
  have q2:=c1 b u o1 e1 q1
  have q3:=x1.1 b o1 q2
  rw[q] at q3
  cases q3
  exact q2
end
end L2
namespace L2
open PySem PySem.Spec PyProof.Rows PySem.W
set_option tactic.hygienic true in
theorem exc_obj {K:Frag} {h:Heap} {C:Addr} {bmB:List Value} {newId:String} (X:K.In h) (q:excIn K C bmB newId=true):
  ∃tl N nm qn bs hdct sn sub ab col dd k0 k1 k2 k3 k5 mN,h.get? C=some (excClassObj nm qn C N bs tl hdct sn sub ab col dd k0 k1 k2 k3 k5 newId)∧h.Ns N mN∧mN "__init__"=none∧OwnTail h bmB tl:=by
 unfold excIn at q
 split at q
 ·rename_i dd cd sl ho
  split at q
  ·rename_i C' bm k0 k1 k2 k3 n k5 hm hs
   simp only[Bool.and_eq_true,beq_iff_eq,Bool.not_eq_true'] at q
   obtain⟨⟨⟨⟨⟨rfl,rfl⟩,hdel⟩,ht⟩,hok⟩,hni⟩:=q
   obtain⟨nm,bs,mro,ns,qn,hd,sn,sub,ab,col,del⟩:=cd
   dsimp only at hm hdel hok hni
   subst hm hdel
   have hsl:sl=#[k0,k1,k2,k3,some (.builtin n),k5]:=by
    obtain⟨l⟩:=sl
    simp only at hs
    rw[hs]
   subst hsl
   exact⟨bm,ns,nm,qn,bs,hd,sn,sub,ab,col,dd,k0,k1,k2,k3,k5,_,X _ _ ho,.of_isNs (isNs_of_in X hok),nsMap_none_of_in X hok hni,tail_of_in X ht⟩
  ·cases q
 ·cases q
abbrev bmVE:List Value:=[.type "ValueError",.type "Exception",.type "BaseException",.type "object"]
abbrev newVE:String:="ValueError.__new__"
noncomputable def tRaise (C:Addr) (E:XK) (t:TA):TS:=fun _ σ H=>t σ H fun vs H1=>vs.length≤sizeLine∧E (.ref C) none H1
section
variable {P : Program} {w : World} {K : PySem.W.Frag} {mg : Str → Option Value} {base : Heap} {N : List Str} {qual : Str} {scope : Scope} {f : Addr} {cdv : Value} {A : Around} {outer : List Env} {s0 : Shared} {H0 : Hp} {E : XK}
theorem ps_raise {x:Str} {C:Addr} {np cpos pos:Pos} {e:Expr} {es:List Expr} {t:TA} (hg:Gl (cxOf (CX1 P w) P w K mg base N qual scope f cdv A outer s0 H0 E) x) (hm:mg x=some (.ref C)) (q:excIn K C bmVE newVE=true)
  (hh:A.handled=none) (ha:PA (cxOf (CX1 P w) P w K mg base N qual scope f cdv A outer s0 H0 E) (e::es) t) (hdb:(x==("__debug__":Str))=false:=by decide)
  (he:starEach (e::es) (cxOf (CX1 P w) P w K mg base N qual scope f cdv A outer s0 H0 E).env=(false,eval e (cxOf (CX1 P w) P w K mg base N qual scope f cdv A outer s0 H0 E).env)::starEach es (cxOf (CX1 P w) P w K mg base N qual scope f cdv A outer s0 H0 E).env:=by rfl)
  (hpl:(backTo cpos (starEach es (cxOf (CX1 P w) P w K mg base N qual scope f cdv A outer s0 H0 E).env)).any (·.1)=false:=by rfl):
  PS (cxOf (CX1 P w) P w K mg base N qual scope f cdv A outer s0 H0 E) (.Raise (some (.Call (.Name x np) (e::es) [] cpos)) none pos) (tRaise C E t):=by
 intro pins s σ H D I h
 have FB:=PySem.F.excBase_ValueError
 obtain⟨tl,Nn,nm,qn,bs,hdct,sn,sub,ab,col,dd,k0,k1,k2,k3,k5,mN,hC,hN,hni,T⟩:=exc_obj I.ok.mod.kin q
 refine wpAny_Raise_call_subT (C:=C) (nm:=nm) (q:=qn) (N:=Nn) (bs:=bs) (bm:=tl) (hdct:=hdct) (sn:=sn) (sub:=sub) (ab:=ab) (col:=col) (dd:=dd) (k0:=k0) (k1:=k1) (k2:=k2) (k3:=k3) (k5:=k5)
  FB (mN:=mN) (T.hasType FB.hasBase) hh (by rw[he];show(false || (backTo cpos (starEach es _)).any (·.1))=false;rw[hpl];rfl) hni (ld_glob I hg hm ⟨rfl,?_⟩ hdb)
 rw[he]
 have ha':=ha cpos pins s σ H _ I h
 rw[he] at ha'
 refine Calls.evalArgs_plain (thn ha' fun us s1 ⟨vs,H1,I1,r,z,k⟩=>⟨rfl,by rw[←r.length];exact z,I1.bk _ _ hC,hN.keeps I1.bk,T.keeps I1.bk,fun h' ad mx=>?_⟩)
 exact xe_raise I1 mx k
end
section
variable {X : Cx} {pins : List (Addr × Obj)} {σ : St} {H H' : Hp} {s s' : Shared}
abbrev Cx.mark (X:Cx) (ad:Addr):Cx:={X with A:=X.A.mark (some (.ref ad)),calm:=false,xe:=fun _ _=>False}
theorem Inv.mark (I:Inv X pins σ H s) (ad:Addr):Inv (X.mark ad) pins σ H s:=
 ⟨⟨I.ok.mod,I.ok.kind,I.ok.glob,I.ok.blt,I.ok.above,I.ok.inj,I.ok.has,I.ok.cab,fun z=>(Bool.false_ne_true z).elim,I.ok.frames,I.ok.stk,I.ok.exf,I.ok.bs,I.ok.bsz,I.ok.noex,I.ok.exfs,I.ok.funs,I.ok.frf⟩,
  I.os,I.bare,I.base,I.loc,I.cell,I.free,I.freeC,I.pin,I.hok,I.len⟩
theorem Inv.unmark {ad:Addr} (ok:X.Ok) (I:Inv (X.mark ad) pins σ H s):Inv X pins σ H s:=⟨ok,I.os,I.bare,I.base,I.loc,I.cell,I.free,I.freeC,I.pin,I.hok,I.len⟩
theorem name_goes {M:Model} {A:Around} {E:Value→Shared→Prop} {i:Nat} {n:Str} {pos:Pos} {Q:Unit→Shared→Prop} (I:Inv X pins σ H s) (hN:X.N.Nodup) (hi:X.N[i]?=some n) (hl:X.env.scope.names.lookup n=some .local)
  (h:∀s',Inv X pins (σ.set i none) H s'→Q () s'):wpAny M A (do bindName X.env n .none;unbindBehindTheSuite X.env n pos) Q E s:=by
 have hiσ:i<σ.length:=by rw[I.len];exact(List.getElem?_eq_some_iff.mp hi).1
 refine wpAny_bind (wpAny_bindName (store_ok (v:=.non) I hN hi (.inl hl) rfl (fun s1 I1=>?_) (.inr hl)))
 obtain⟨m,hn,hlk⟩:=id I1.loc
 have hmn:∃u,m n=some u:=by
  obtain⟨u,_,z⟩:=hlk i n .non hi (by rw[List.getElem?_set_self hiσ]) (.inl hl)
  rcases z with ⟨_,z⟩ | ⟨z,_⟩
  ·exact⟨u,z⟩
  ·have hk:X.env.kindOf n=some .local:=hl
   rw[hk] at z
   rcases z with z | z <;>cases z
 obtain⟨u0,hu0⟩:=hmn
 unfold unbindBehindTheSuite
 refine wpAny_onRaise ?_
 unfold unbindName
 refine wpAny_bind (wpAny_point (wpAny_bind ?_))
 unfold deleteName
 have hk:X.env.kindOf n=some .local:=hl
 have hcls:(X.env.scope.kind==.class || (X.env.scope.kind==.module && X.env.locals !=X.env.globals))=false:=by rw[I.ok.kind];rfl
 simp only[hk,hcls]
 rw[if_neg (by decide)]
 refine wpAny_bind (wpAny_nsDel_keeps hn fun h₂ v hn₂ hs₂=>?_)
 rw[hu0]
 simp only[if_true,Option.isSome_some,Bool.not_true,Bool.false_eq_true,if_false]
 refine wpAny_pure (wpAny_point (h _ ?_))
 have hs:Heap.SameBut X.env.locals s1.heap h₂:=hs₂
 refine⟨I1.ok,I1.os,I1.bare,⟨fun b o e nn hb hx=>?_,fun b o e nn hb hx=>?_,I1.base.free,fun b o e hx=>?_,I1.base.tups,I1.base.frzs,I1.base.tbls⟩,⟨_,hn₂,fun j y v' e1 e2 e3=>?_⟩,fun y c e=>?_,I1.free,I1.freeC,fun p hp=>?_,fun b ob e=>?_,?_⟩
 ·exact(hs.2 b (Nat.ne_of_lt (Nat.lt_of_lt_of_le (Heap.lt_size e) I1.ok.above))).trans (I1.base.keep b o e nn hb hx)
 ·obtain⟨sl,e1⟩:=I1.base.slot b o e nn hb hx
  exact⟨sl,(hs.2 b (Nat.ne_of_lt (Nat.lt_of_lt_of_le (Heap.lt_size e) I1.ok.above))).trans e1⟩
 ·obtain⟨o',e1⟩:=I1.base.there b o e hx
  exact⟨o',(hs.2 b (Nat.ne_of_lt (Nat.lt_of_lt_of_le (Heap.lt_size e) I1.ok.above))).trans e1⟩
 ·by_cases hj:j=i
  ·subst hj
   rw[List.getElem?_set_self hiσ] at e2
   cases e2
  ·rw[List.getElem?_set_ne (Ne.symm hj)] at e2
   obtain⟨u',r',q⟩:=hlk j y v' e1 (by rw[List.getElem?_set_ne (Ne.symm hj)];exact e2) e3
   refine⟨u',r',?_⟩
   rcases q with ⟨k,e⟩ | ⟨k,c,e,z⟩
   ·refine .inl ⟨k,?_⟩
    have:y≠n:=fun e=>hj (nodup_ix hN e1 (e▸hi))
    simp [this,e]
   ·exact .inr ⟨k,c,e,z.sameBut hs (I1.cne y c e)⟩
 ·obtain⟨w',z⟩:=I1.cell y c e
  exact⟨w',z.sameBut hs (I1.cne y c e)⟩
 ·obtain⟨e,nn,ne,nf,d⟩:=I1.pin p hp
  exact⟨(hs.2 p.1 ne).trans e,nn,ne,nf,d⟩
 ·refine(I1.hok b ob e).stay (fun c w' hc q=>(hs.2 c ?_).trans q) (fun _ q=>q) fun _ _ q=>q
  rintro rfl
  have fr:=I1.free
  rcases hc with rfl | hc
  ·rw[fr] at e;cases e
  ·rw[fr] at hc;cases hc
 ·rw[List.length_set]
  exact I.len
noncomputable def ExO (ad:Addr) (cls:Value):HO:=.ext fun h=>∃o vs,h.get? ad=some o∧o.cls=cls∧o.data=.fields vs
theorem Fly.new {P:Program} {w:World} {l:List Env} {ad:Addr} {cls:Value} (F:Fly P w l H s H' ad cls s'):s.heap.get? ad=none:=by
 obtain⟨B,a0,fl,c0,c2,c1⟩:=F.fl
 cases q:s.heap.get? ad with
 | none=>rfl
 | some o=>
  by_cases hb:ad∈frs l
  ·obtain⟨_,o1,q1,nf⟩:=fl.2.2.1.mem hb
   obtain⟨oe,vs,he,_,hd,_⟩:=fl.first
   rw[q1] at he
   cases he
   exact absurd hd (nf _)
  ·obtain⟨o',q'⟩:=c2 ad o q hb
   rw[fl.2.1] at q'
   cases q'
theorem Fly.tracked {P:Program} {w:World} {l:List Env} {ad:Addr} {cls:Value} (F:Fly P w l H s H' ad cls s'):H' ad=none:=by
 obtain⟨B,a0,fl,c0,c2,c1⟩:=F.fl
 cases q:H' ad with
 | none=>rfl
 | some u=>
  obtain⟨o,e⟩:=(F.hok ad u q).get
  have:=c1 ad u o q e
  rw[fl.2.1] at this
  cases this
theorem Fly.inv {ad:Addr} {cls:Value} (F:Fly X.prog X.w X.stack H s H' ad cls s') (I:Inv X pins σ H s) {B h6:Heap} {a0:Value} (fl:Heap.FlyingW B X.stack ad cls a0 s'.heap)
  (c0:∀b o,s.heap.get? b=some o→H b=none→b∉frs X.stack→B.get? b=some o) (c2:∀b o,s.heap.get? b=some o→b∉frs X.stack→∃o',B.get? b=some o')
  (c1:∀b u o,H' b=some u→s'.heap.get? b=some o→B.get? b=some o) (st:B.StaysIn h6) (up:s'.heap.UpToSlots h6):Inv X pins σ H' {s' with heap:=h6}:=by
 have fr:∀b∈frs X.stack,∀o,s'.heap.get? b=some o→∃sl,h6.get? b=some {o with slots:=sl}:=fun b hb o q=>by
  obtain⟨_,o1,q1,nf⟩:=fl.2.2.1.mem hb
  rw[q] at q1
  cases q1
  exact up b o q nf
 refine I.call' (s':={s' with heap:=h6}) (ch:=[]) F.os ⟨fun b o q n hb _=>st b o (c0 b o q n hb),fun b o q n hb hx=>?_,F.un.free,fun b o q hx=>?_,F.un.tups,F.un.frzs,F.un.tbls⟩ (F.hok.inB c1 st) F.bare (fun b hb=>absurd hb (by simp))
 ·obtain⟨sl,q1⟩:=F.un.slot b o q n hb hx
  obtain⟨sl2,q2⟩:=fr b hb _ q1
  exact⟨sl2,q2⟩
 ·by_cases hb:b∈frs X.stack
  ·obtain⟨o2,q2⟩:=F.un.there b o q hx
   obtain⟨sl2,q3⟩:=fr b hb _ q2
   exact⟨_,q3⟩
  ·obtain⟨o2,q2⟩:=c2 b o q hb
   exact⟨o2,st b o2 q2⟩
theorem Inv.adopt {ad:Addr} {φ:Heap→Prop} (I:Inv X pins σ H' s') (I0:Inv X pins σ H s) (new:s.heap.get? ad=none) (hn:H' ad=none) (ho:∃o,s'.heap.get? ad=some o) (p:φ s'.heap)
  (hst:∀h1 h2:Heap,φ h1→(∀o,h1.get? ad=some o→h2.get? ad=some o)→φ h2):Inv X pins σ (upd H' ad (.ext φ)) s':=by
 have ne:∀b o,s.heap.get? b=some o→b≠ad:=fun b o e z=>by rw[z,new] at e;cases e
 have tk:∀b u,H' b=some u→b≠ad:=fun b u e z=>by rw[z,hn] at e;cases e
 have ne0:∀b o,b∉X.ex→X.s₀.heap.get? b=some o→b≠ad:=fun b o hx e=>by
  obtain⟨o',e'⟩:=I0.base.there b o e hx
  exact ne b o' e'
 refine⟨I.ok,I.os,I.bare,⟨I.base.keep,I.base.slot,fun b o e n hx=>?_,I.base.there,fun b xs e=>?_,fun b o u e=>?_,fun b ps e=>?_⟩,I.loc,I.cell,?_,fun y c e=>?_,fun q hq=>?_,fun b u e=>?_,I.len⟩
 ·rw[upd_ne (ne0 b o hx e)]
  exact I.base.free b o e n hx
 ·rw[upd_ne (tk _ _ (I.base.tups b xs e))]
  exact I.base.tups b xs e
 ·rw[upd_ne (tk _ _ (I.base.frzs b o u e))]
  exact I.base.frzs b o u e
 ·obtain⟨m,e1⟩:=I.base.tbls b ps e
  exact⟨m,by rw[upd_ne (tk _ _ e1)];exact e1⟩
 ·obtain⟨m,⟨o,es,ep,hl,_⟩,_⟩:=I0.loc
  rw[upd_ne (ne _ _ hl)]
  exact I.free
 ·obtain⟨v,o,hc,_⟩:=I0.cell y c e
  rw[upd_ne (ne _ _ hc)]
  exact I.freeC y c e
 ·obtain⟨e,n,r⟩:=I.pin q hq
  refine⟨e,?_,r⟩
  rw[upd_ne (ne _ _ (I0.pin q hq).1)]
  exact n
 ·by_cases hb:b=ad
  ·subst hb
   rw[upd_same] at e
   cases e
   exact⟨p,ho,hst⟩
  ·rw[upd_ne hb] at e
   exact(I.hok b u e).stay (fun _ _ _ q=>q) (fun c r=>by rw[upd_ne (tk _ _ r)];exact r) fun c xs r=>by rw[upd_ne (tk _ _ r)];exact r
theorem caught {ad:Addr} {cls:Value} {cx n:Str} {np hpos:Pos} {b₀:Stmt} {suite:List Stmt} {i:Nat} {ts:TS} {C2:Addr} {D:Ends} (I:Inv X pins σ H s) (F:Fly X.prog X.w X.stack H s H' ad cls s')
  (hst:X.stack=X.env::X.outer) (hf:X.env.frame=some X.env.locals) (hg:Gl X cx) (hm:X.mg cx=some (.ref C2)) (hx:exmOne X.K cls (.ref C2)=some true) (hN:X.N.Nodup) (hi:X.N[i]?=some n)
  (hl:X.env.scope.names.lookup n=some .local) (hs:PSs (X.mark ad) (b₀::suite) ts)
  (h:ts {nx:=fun σ' H2=>D.nx (σ'.set i none) H2,rt:=D.rt,bk:=fun σ' H2=>D.bk (σ'.set i none) H2,ct:=fun σ' H2=>D.ct (σ'.set i none) H2} (σ.set i (some (.ref ad))) (upd H' ad (ExO ad cls)))
  (hdb:(cx==("__debug__":Str))=false:=by decide):
  wpAny (model X.prog X.w) X.A (noteFrame (.ref ad) X.env) (fun _ s₂=>wpAny (model X.prog X.w) X.A (setFlight (.ref ad) none)
   (fun _ s₃=>wpAny (model X.prog X.w) X.A (handleBy (.ref ad) X.env [.ExceptHandler (some (.Name cx np)) (some n) (b₀::suite) hpos]) (SP X pins D) X.xe s₃) X.xe s₂) X.xe s':=by
 obtain⟨B,a0,fl,c0,c2,c1⟩:=F.fl
 have fl':=fl
 rw[hst] at fl'
 refine wpAny_looks_onW (I.ok.frames.trans (by rw[hst])) hf fl' fun h4 held4 up4=>?_
 refine wpAny_landsW held4 fun h5 fl5 up5=>?_
 have U5:s'.heap.UpToSlots h5:=up4.trans up5
 have I5:Inv X pins σ H' {s' with heap:=h5}:=F.inv I fl c0 c2 c1 fl5.1 U5
 obtain⟨ob,hob,hobc⟩:=fl5.there
 refine wpAny_handleBy_cons (codeAny_handlers_test (ld_glob (X:=X.mark ad) (I5.mark ad) hg hm ?_ hdb)) (by intro q;cases q)
 have LT:Looks (model X.prog X.w) h5 (typeOf (.ref ad)) cls:=by
  subst hobc
  exact(Looks.ld hob).andThen .now
 refine(exm_one I5.kIn LT hx).here ?_
 refine codeAny_handlers_suite_as ?_
 refine lands_againW fl5 fun h6 fl6 up6=>?_
 have I6:Inv X pins σ H' {s' with heap:=h6}:=F.inv I fl c0 c2 c1 fl6.1 (U5.trans up6)
 obtain⟨oe,vs,he,hec,hed,_⟩:=fl6.first
 have I7:Inv X pins σ (upd H' ad (ExO ad cls)) {s' with heap:=h6}:=I6.adopt I F.new F.tracked ⟨oe,he⟩ ⟨oe,vs,he,hec,hed⟩ fun h1 h2 ⟨o,ws,e1,e2,e3⟩ k=>⟨o,ws,k o e1,e2,e3⟩
 refine store_ok (X:=X.mark ad) (I7.mark ad) hN hi (.inl hl) (v:=.ref ad) rfl (fun s7 I8=>?_) (.inr hl)
 refine wpAny_mono (hs pins s7 _ _ _ I8 h) (fun fw s8 hq=>?_) fun _ _ z=>z.elim
 cases fw with
 | next=>
  obtain⟨σ8,H8,I9,q8⟩:=hq
  exact name_goes (I9.unmark I.ok) hN hi hl fun s9 I10=>⟨_,_,I10,q8⟩
 | brk=>
  obtain⟨σ8,H8,I9,q8⟩:=hq
  exact name_goes (I9.unmark I.ok) hN hi hl fun s9 I10=>⟨_,_,I10,q8⟩
 | cont=>
  obtain⟨σ8,H8,I9,q8⟩:=hq
  exact name_goes (I9.unmark I.ok) hN hi hl fun s9 I10=>⟨_,_,I10,q8⟩
 | ret u=>
  obtain⟨v8,σ8,H8,I9,r8,q8⟩:=hq
  exact name_goes (I9.unmark I.ok) hN hi hl fun s9 I10=>⟨v8,_,_,I10,r8,q8⟩
end
section
variable {X : Cx} {CX : CXT} {k : Nat} {x : Str} {ps : List Str} {sp : Sp} {E : XK} {e : Expr} {es : List Expr} {t : TA} {p pos : Pos}
theorem cal_run {pins:List (Addr×Obj)} {σ:St} {H:Hp} {s:Shared} {Q:VK} {Ex:Value→Shared→Prop} (C:Cal X.prog X.w X.K X.mg X.base CX k x ps sp) (hr:Room k X.A) (hg:Gl X x) (ha:PA X.nox (e::es) t) (I:Inv X pins σ H s)
  (h:t σ H fun vs H1=>sp vs H1 Q E) (hx:∀H1 s1 e s',Inv X pins σ H1 s1→CX X.stack H1 s1 E e s'→Ex e s')
  (hdb:(x==("__debug__":Str))=false:=by decide) (he:starEach (e::es) X.env=(false,eval e X.env)::starEach es X.env:=by rfl) (hpl:(backTo pos (starEach es X.env)).any (·.1)=false:=by rfl):
  wpAny (model X.prog X.w) X.A (eval (.Call (.Name x p) (e::es) [] pos) X.env) (EP X pins σ Q) Ex s:=by
 obtain⟨f,fd,F,hm,hk,hb⟩:=C.ex
 refine wpAny_Call_Name_kw (ld_glob I hg hm ?_ hdb)
 refine PySem.W.callWith_K (h₀:=X.base) I.ok.mod.kin hk (wpAny_mono (ha pos pins s σ H _ (I.wish _) h) (fun us s1 ⟨vs,H1,I1,r,q⟩=>⟨I1.unwish.kIn,?_⟩) fun _ _ z=>z.elim) he hpl
 have I1:=I1.unwish
 have hl:us.length=ps.length:=by rw[←r.length];exact F.len _ _ _ _ q
 have hb':=hb s1 us I1.kIn (by rw[List.append_nil];exact hl)
 rw[List.append_nil] at hb'
 refine wpAny_call (codeAny_mono (F.run X.A X.stack s1 H1 ⟨us,[]⟩ us vs Q E hr I1.env0 hb' r q) fun r s' hq=>?_)
 cases r with
 | error e=>exact hx H1 s1 e s' I1 hq
 | ok fl=>
  cases fl with
  | ret u=>exact I1.after hq
  | next=>exact False.elim hq
  | brk=>exact False.elim hq
  | cont=>exact False.elim hq
noncomputable def xTry (K:PySem.W.Frag) (C2:Addr) (i:Nat) (ts:TS) (D:Ends) (σ:St):XK:=fun cls _ H2=>exmOne K cls (.ref C2)=some true∧∀ad,H2 ad=none→
 ts {nx:=fun σ' H3=>D.nx (σ'.set i none) H3,rt:=D.rt,bk:=fun σ' H3=>D.bk (σ'.set i none) H3,ct:=fun σ' H3=>D.ct (σ'.set i none) H3} (σ.set i (some (.ref ad))) (upd H2 ad (ExO ad cls))
noncomputable def tTryE (K:PySem.W.Frag) (sp:Sp) (t:TA) (C2:Addr) (i:Nat) (ts:TS):TS:=fun D σ H=>t σ H fun vs H1=>sp vs H1 (fun _ H2=>D.nx σ H2) (xTry K C2 i ts D σ)
variable {cx n : Str} {np hpos epos tpos : Pos} {b₀ : Stmt} {suite : List Stmt} {i : Nat} {ts : TS} {C2 : Addr}
theorem ps_tryE (C:Cal X.prog X.w X.K X.mg X.base (CX1 X.prog X.w) k x ps sp) (hr:Room k X.A) (hg:Gl X x) (ha:PA X.nox (e::es) t) (hst:X.stack=X.env::X.outer) (hf:X.env.frame=some X.env.locals)
  (hgc:Gl X cx) (hm:X.mg cx=some (.ref C2)) (hN:X.N.Nodup) (hi:X.N[i]?=some n) (hl:X.env.scope.names.lookup n=some .local) (hs:∀ad,PSs (X.mark ad) (b₀::suite) ts)
  (hsw:swapsWith (.Call (.Name x p) (e::es) [] pos) none epos.line X.env=pure false:=by rfl) (hdb:(x==("__debug__":Str))=false:=by decide) (hdc:(cx==("__debug__":Str))=false:=by decide)
  (he:starEach (e::es) X.env=(false,eval e X.env)::starEach es X.env:=by rfl) (hpl:(backTo pos (starEach es X.env)).any (·.1)=false:=by rfl):
  PS X (.Try [.Expr (.Call (.Name x p) (e::es) [] pos) epos] [.ExceptHandler (some (.Name cx np)) (some n) (b₀::suite) hpos] [] [] tpos) (tTryE X.K sp t C2 i ts):=by
 intro pins s σ H D I h
 refine wpAny_Try_except (wpAny_execs_cons (wpAny_Expr_any (thn (cal_run C hr hg ha I h (fun H1 s1 e1 s' I1 ⟨ad,cls,_,H',ee,⟨F,_⟩,hx,q⟩=>?_) hdb he hpl) fun v s1 ⟨y,H1,I1,r1,q1⟩=>?_) I.quiet hsw))
 ·subst ee
  exact caught I1 F hst hf hgc hm hx hN hi hl (hs ad) (q ad F.tracked) hdc
 ·exact wpAny_execs_nil (wpAny_execs_nil ⟨σ,H1,I1,q1⟩)
end
end L2
namespace Nm
noncomputable def st (a b:Int):Int:=if b<0 then -(a / g a b) else a / g a b
noncomputable def sb (a b:Int):Int:=if b<0 then -(b / g a b) else b / g a b
theorem fdiv_p {a d:Int} (h:0<d):a.fdiv d=a / d:=Int.fdiv_eq_ediv_of_nonneg a (by omega)
theorem fdiv_n {a d:Int} (h:0<d) (dv:d∣a):a.fdiv (-d)= -(a / d):=by
 obtain⟨k,rfl⟩:=dv
 rw[Int.mul_ediv_cancel_left _ (by omega),show d*k=(-d)* (-k) by rw[Int.neg_mul_neg]]
 exact Int.mul_fdiv_cancel_left _ (by omega)
end Nm
namespace L2
open PySem PySem.Spec PyProof.Rows
section
variable {P : Program} {w : World} {K : PySem.W.Frag} {mg : Str → Option Value} {base : Heap} {CX : CXT}
theorem Fun.okX {x qual:Str} {st:Stmt} {f:Addr} {fd:FuncData} {N ps:List Str} {k:Nat} {sp:Sp} (F:Fun K x qual st f fd) (S:FnScope N ps (defScope st)) (len:∀vs H Q E,sp vs H Q E→vs.length=ps.length)
  (hbody:∀(cdv:Value) (A:Around) (outer:List Env) (s:Shared) (H:Hp) (vs:List V) (Q:VK) (E:XK),Room k (A.deeper (envOfC qual (defScope st) s.heap.objs.size f cdv))→sp vs H Q E→
   ∃t,PSs (cxOf CX P w K mg base N qual (defScope st) f cdv A outer s H E) (defBody st) t∧t {nx:=fun _ H'=>Q .non H',rt:=Q} (start N vs) H):FnOk P w K mg base CX (k+1) f fd ps sp:=by
 obtain⟨oc,od,kV,doc,pm,an,cdv,ct,osl,rfl,lk,hcd⟩:=F.ex
 exact fn_of lk hcd S len fun A outer s H vs Q E hr hsp=>hbody cdv A outer s H vs Q E hr hsp
end
noncomputable def noStar:Expr→Bool
 | .Starred _ _=>false
 | _=>true
theorem se {e:Expr} {es:List Expr} {env:Env} (h:noStar e=true):starEach (e::es) env=(false,eval e env)::starEach es env:=by
 cases e <;>first | rfl | exact absurd h Bool.false_ne_true
theorem na {env:Env} {pos:Pos}:∀{es:List Expr},es.all noStar=true→(backTo pos (starEach es env)).any (·.1)=false
 | [],_=>rfl
 | e::es,h=>by
  rw[List.all_cons,Bool.and_eq_true] at h
  rw[se h.1]
  show(false || (backTo pos (starEach es env)).any (·.1))=false
  rw[na h.2]
  rfl
end L2
namespace L2
open PySem PySem.Spec PyProof.Rows PySem.W
structure ExcCls (K:PySem.W.Frag) (C:Addr):Prop where
 cls:(clsIn K C).isSome=true
 ga:findIn K (.ref C) "__getattribute__"=some (some (.builtin "BaseException.__getattribute__"))
 gt:findIn K (.ref C) "__getattr__"=some none
 cl:findIn K (.ref C) "__class__"=some (some (.builtin "object.__class__"))
 be:mroIn K C (.type "BaseException")=some true
 ob:mroIn K C (.type "object")=some true
section
variable {prog : Program} {w : World} {A : Around} {E : Value → Shared → Prop} {K : PySem.W.Frag} {h : Heap} {g : Array GenState} {d : Drawn} {t : Nat} {os : OsState} {a C : Addr} {o : Obj}
theorem xis_get {R:Result→Shared→Prop} {tp:Value} (X:K.In h) (EC:ExcCls K C) (hx:h.get? a=some o) (hc:o.cls=.ref C) (hq:R (.ok (.ret (.ref C))) ⟨h,g,d,t,os⟩):
  codeAny (model prog w) A (.call (.builtin "getset_descriptor.__get__") ⟨[.builtin "object.__class__",.ref a,tp],[]⟩) R ⟨h,g,d,t,os⟩:=by
 have T0:Looks (model prog w) h (typeOf (.ref a)) (.ref C):=hc▸(Looks.ld hx).andThen .now
 have T1:=looks_mroIn (M:=model prog w) X EC.ob
 refine codeAny_call_builtin (KF.slot_gs.plain) (KF.entry_gs) (KF.slot_gs.check _ _ _ _ _ _ _ _ KF.type_class (KF.args_gs _ _ _) ?_)
 unfold Builtin.«getset_descriptor.__get__» Builtin.Getset_descriptor.descrGet
 rw[dga_obj]
 refine wpAny_bind (m:=pure _) (wpAny_pure ?_)
 unfold Builtin.Getset_descriptor.descrGetter Builtin.Getset_descriptor.descrCheckInstance Builtin.Getset_descriptor.descrNameAndClass isInstance
 simp only[KF.owner_class]
 repeat lk
 refine And.intro (Code.quiet_builtin _ (by decide +kernel)) (codeAny_builtin KF.entry_class ?_)
 unfold Builtin.«object.__class__» shownTypeOf
 repeat lk
 exact hq
theorem xis_entry {tk:Tok} {Q:Fin→Shared→Prop} (X:K.In h) (EC:ExcCls K C) (hx:h.get? a=some o) (hc:o.cls=.ref C) (hq:Q (.done (.ret (.ref C))) ⟨h,g,d,t,os⟩):
  wpAny (model prog w) A (Builtin.«object.__getattribute__» ⟨[.ref a,.str "__class__" tk],[]⟩) Q E ⟨h,g,d,t,os⟩:=by
 have T0:Looks (model prog w) h (typeOf (.ref a)) (.ref C):=hc▸(Looks.ld hx).andThen .now
 have T1:=looks_findIn (M:=model prog w) X EC.cl
 have hT5:(⟨h,g,d,t,os⟩:Shared).TypeIs (.builtin "object.__class__") "getset_descriptor":=F.typeOf_object_class
 have f5:=F.typeOf_object_class
 have f6:=F.slot_gs_get.lookup
 have f7:=F.slot_gs_set.lookup
 repeat (any_goals (first | assumption | with_reducible refine Looks.at T0 ?_ | with_reducible refine Looks.at T1 ?_ | wp_step))
 refine xis_get X EC hx hc ?_
 repeat (any_goals (first | assumption | wp_step))
theorem xis_check {nameV:Value} {Q:Unit→Shared→Prop} {M:Model} (X:K.In h) (EC:ExcCls K C) (hx:h.get? a=some o) (hc:o.cls=.ref C) (hq:Q () ⟨h,g,d,t,os⟩):
  wpAny M A (checkBuiltinCall "BaseException.__getattribute__" ⟨[.ref a,nameV],[]⟩) Q E ⟨h,g,d,t,os⟩:=by
 have T0:Looks M h (typeOf (.ref a)) (.ref C):=hc▸(Looks.ld hx).andThen .now
 have T1:=looks_mroIn (M:=M) X EC.be
 have hk:builtinKind "BaseException.__getattribute__"=some .slot:=by decide +kernel
 have hsp:splitId "BaseException.__getattribute__"=some ("BaseException","__getattribute__"):=by decide +kernel
 have ha:=F.args_bexc_ga (.ref a) nameV
 simp only[checkBuiltinCall,hk,hsp]
 refine wpAny_bind ?_
 unfold isInstance
 repeat (first | with_reducible refine Looks.at T0 ?_ | with_reducible refine Looks.at T1 ?_ | wp_step)
 exact hq
theorem xis_call {tk:Tok} {R:Result→Shared→Prop} (X:K.In h) (EC:ExcCls K C) (hx:h.get? a=some o) (hc:o.cls=.ref C) (hq:R (.ok (.ret (.ref C))) ⟨h,g,d,t,os⟩):
  codeAny (model prog w) A (.call (.builtin "BaseException.__getattribute__") ⟨[.ref a,.str "__class__" tk],[]⟩) R ⟨h,g,d,t,os⟩:=
 codeAny_call_builtin (F.excAttr_ValueError.ga.plain) F.entry_bexc_ga (xis_check X EC hx hc (xis_entry X EC hx hc hq))
theorem xis_by {tk:Tok} {fill expr:Bool} {Q:Value→Shared→Prop} (X:K.In h) (EC:ExcCls K C) (hx:h.get? a=some o) (hc:o.cls=.ref C) (hq:Q (.ref C) ⟨h,g,d,t,os⟩):
  wpAny (model prog w) A (getAttrBy (.ref a) (.str "__class__" tk) fill expr) Q E ⟨h,g,d,t,os⟩:=by
 have T0:Looks (model prog w) h (typeOf (.ref a)) (.ref C):=hc▸(Looks.ld hx).andThen .now
 have T1:=looks_findIn (M:=model prog w) X EC.ga
 have T2:=looks_findIn (M:=model prog w) X EC.gt
 have f3:=F.excAttr_ValueError.ga.bind (.ref a)
 have y0:(expr && onTheHeap (Value.builtin "BaseException.__getattribute__"))=false:=by cases expr <;>rfl
 have y2:(Value.builtin "BaseException.__getattribute__"==Value.builtin "object.__getattribute__")=false:=by decide +kernel
 have y1:(onTheHeap (Value.ref C) && Value.builtin "BaseException.__getattribute__"==Value.builtin "object.__getattribute__")=false:=by rw[y2];rfl
 repeat (any_goals (first | assumption | with_reducible refine Looks.at T0 ?_ | with_reducible refine Looks.at T1 ?_ | with_reducible refine Looks.at T2 ?_ | wp_step))
 refine xis_call X EC hx hc ?_
 repeat (any_goals (first | assumption | wp_step))
theorem xis_attr {Q:Option Value→Shared→Prop} (X:K.In h) (EC:ExcCls K C) (hx:h.get? a=some o) (hc:o.cls=.ref C) (hq:Q (some (.ref C)) ⟨h,g,d,t+1,os⟩):
  wpAny (model prog w) A (getAttr? (.ref a) "__class__") Q E ⟨h,g,d,t,os⟩:=by
 unfold getAttr? getAttrBy?
 repeat (any_goals (first | assumption | with_reducible apply xis_by X EC hx hc | wp_step))
end
noncomputable def ExcAt (a C:Addr) (h:Heap):Prop:=∃o,h.get? a=some o∧o.cls=.ref C
set_option tactic.hygienic true in
theorem kitx_exc {K:PySem.W.Frag} {a C:Addr} (EC:ExcCls K C):KitX K (.ref a) (.ref C) (ExcAt a C) where
 ty:=fun _ _ _ ⟨_,e,c⟩=>c▸(Looks.ld e).andThen .now
 it:=fun _ _ X _=>by
  obtain⟨cd,hcd⟩:=Option.isSome_iff_exists.mp EC.cls
  unfold clsIn at hcd
  split at hcd
  ·rename_i ho
   intro A' Q' E' s' k q
   unfold isType loadHead
   exact wpAny_bind (wpAny_loadPart (k _ _ (X _ _ ho)) (wpAny_pure q))
  ·cases hcd
 ne:=fun h tp dd its n sl X htp=>by
  obtain⟨cd,hcd⟩:=Option.isSome_iff_exists.mp EC.cls
  refine Bool.eq_false_iff.mpr fun q=>?_
  have e:C=tp:=Value.ref.inj (beq_iff_eq.mp q)
  subst e
  unfold clsIn at hcd
  split at hcd
  ·rename_i ho
   have z:=(X _ _ ho).symm.trans htp
   cases z
  ·cases hcd
 ca:=fun {_ _ _ _ _ s} X p k=>by
  obtain⟨h,g,d,t,os⟩:=s
  obtain⟨o,e,c⟩:=p
  exact xis_attr X EC e c k
section
variable {X : Cx}
noncomputable def clV:V→Option Value
 | .ref C=>some (.ref C)
 | .ty T=>some (.type T)
 | _=>none
theorem clV_rel {c:V} {v u:Value} (h:clV c=some v) (r:RelV c u):u=v:=by
 cases c with
 | ref C=>cases h;exact r
 | ty T=>cases h;exact r
 | _=>cases h
theorem call_isE:CallR X (.builtin "isinstance") (fun xs H Q=>∃ad C c v b,xs=[.ref ad,c]∧H ad=some (ExO ad (.ref C))∧ExcCls X.K C∧clV c=some v∧kitOne X.K (.ref C) v=some b∧Q (.bl b) H):=by
 intro pins s σ H xs us Q I r h
 obtain⟨ad,C,c,v,b,rfl,hH,EC,hv,e,q⟩:=h
 obtain⟨u,u',rfl,rx,rc⟩:=vals2 r
 cases rx
 obtain rfl:=clV_rel hv rc
 obtain⟨⟨o,vs,e1,e2,e3⟩,_,_⟩:=(show ObjOk X.prog X.w H s.heap ad (ExO ad (.ref C)) from I.hok ad _ hH)
 exact kia_one (kitx_exc EC) I.kIn ⟨o,e1,e2⟩ e (fun z=>nomatch z) fun tk=>⟨.bl b,H,I.tok tk,rfl,q⟩
end
end L2
namespace L2
open PySem PySem.Spec PyProof.Rows
theorem closure_of {env:Env}:∀(names:List (Str×NameKind)) (cs:List (Str×Addr)),(∀n,(n,NameKind.free)∈names→∃c,env.cells.lookup n=some c)→(∀x c,cs.lookup x=some c→env.cells.lookup x=some c)→
  ∃cl,(forIn names cs fun(x:Str×NameKind) (r:List (Str×Addr))=>(if (x.2==NameKind.free)=true then do let c ←cellOf env x.1;pure (ForInStep.yield ((x.1,c)::r)) else pure (ForInStep.yield r):Sem (ForInStep (List (Str×Addr)))))=pure cl∧
   (∀x c,cl.lookup x=some c→env.cells.lookup x=some c)∧(∀n,((n,NameKind.free)∈names∨(cs.lookup n).isSome=true)→∃c,cl.lookup n=some c)∧(∀x c,(x,c)∈cl→(env.cells.lookup x=some c∧(x,NameKind.free)∈names)∨(x,c)∈cs)
 | [],cs,_,h=>⟨cs,rfl,h,(fun n hn=>by
   rcases hn with hn | hn
   ·exact absurd hn (by simp)
   ·exact Option.isSome_iff_exists.mp hn),fun x c m=>.inr m⟩
 | (n,k)::r,cs,hf,h=>by
  by_cases hk:k=.free
  ·subst hk
   obtain⟨c,hc⟩:=hf n List.mem_cons_self
   obtain⟨cl,e,h1,h2,h3⟩:=closure_of r ((n,c)::cs) (fun m hm=>hf m (List.mem_cons_of_mem _ hm)) (fun x c' hx=>by
    rw[List.lookup_cons] at hx
    cases q:x==n with
    | true=>
     rw[q] at hx
     have e1:x=n:=by simpa using q
     cases hx
     rw[e1];exact hc
    | false=>rw[q] at hx;exact h x c' hx)
   refine⟨cl,?_,h1,fun m hm=>h2 m ?_,fun x c' m=>?_⟩
   rotate_left 2
   ·rcases h3 x c' m with ⟨q1,q2⟩ | m
    ·exact .inl ⟨q1,List.mem_cons_of_mem _ q2⟩
    ·rcases List.mem_cons.mp m with e | m
     ·cases e
      exact .inl ⟨hc,List.mem_cons_self⟩
     ·exact .inr m
   ·rw[List.forIn_cons]
    have hco:cellOf env n=pure c:=by unfold cellOf;rw[hc]
    simp only[beq_self_eq_true,if_true,hco,pure_bind]
    exact e
   ·rcases hm with hm | hm
    ·rcases List.mem_cons.mp hm with z | z
     ·cases z
      right
      rw[List.lookup_cons]
      simp
     ·exact .inl z
    ·right
     rw[List.lookup_cons]
     cases q:m==n with
     | true=>rfl
     | false=>exact hm
  ·obtain⟨cl,e,h1,h2,h3⟩:=closure_of r cs (fun m hm=>hf m (List.mem_cons_of_mem _ hm)) h
   refine⟨cl,?_,h1,fun m hm=>h2 m ?_,fun x c' m=>(h3 x c' m).imp (fun q=>⟨q.1,List.mem_cons_of_mem _ q.2⟩) id⟩
   ·rw[List.forIn_cons]
    have:(k==NameKind.free)=false:=by simpa using hk
    simp only[this,Bool.false_eq_true,if_false,pure_bind]
    exact e
   ·rcases hm with hm | hm
    ·rcases List.mem_cons.mp hm with z | z
     ·cases z;exact absurd rfl hk
     ·exact .inl z
    ·exact .inr hm
theorem closureFor_of {env:Env} {scope:Scope} (hf:∀n,(n,NameKind.free)∈scope.names→∃c,env.cells.lookup n=some c):
  ∃cl,closureFor scope env=pure cl∧(∀x c,cl.lookup x=some c→env.cells.lookup x=some c)∧(∀n,(n,NameKind.free)∈scope.names→∃c,cl.lookup n=some c)∧(∀x c,(x,c)∈cl→env.cells.lookup x=some c∧(x,NameKind.free)∈scope.names):=by
 obtain⟨cl,e,h1,h2,h3⟩:=closure_of (env:=env) scope.names [] hf (fun x c h=>by simp at h)
 refine⟨cl,?_,h1,fun n hn=>h2 n (.inl hn),fun x c m=>(h3 x c m).elim id fun z=>absurd z (by simp)⟩
 unfold closureFor
 simp only[bind_pure]
 exact e
structure CompScope (N:List Str) (so:Scope) (N':List Str) (scope:Scope) (k:Nat) (fr:List Nat):Prop where
 kind:scope.kind=.function
 cels:∀y∈scope.names,y.2=.cell→scope.names.lookup y.1=some .cell∧(y.1,NameKind.free)∉scope.names
 locs:∀y∈scope.names,y.2=.local→scope.names.lookup y.1=some .local
 outer:∀y∈scope.names,y.2=.free→(so.names.lookup y.1=some .cell∨so.names.lookup y.1=some .free)
 len:N'.length=k+fr.length
 at_:∀t,t<fr.length→(fr[t]?).bind (fun j=>N[j]?)=N'[k+t]?
 fre:∀x∈N'.drop k,scope.names.lookup x=some .free
noncomputable def stC (k:Nat) (fr:List Nat) (σ:St):St:=List.replicate k none++fr.map fun j=>(σ[j]?).join
noncomputable def cxC (X:Cx) (N:List Str) (scope:Scope) (cl:List (Str×Addr)) (C:Addr) (s:Shared) (H:Hp) (ex:List Addr):Cx where
 prog:=X.prog
 w:=X.w
 K:=X.K
 mg:=X.mg
 base:=X.base
 A:=X.A
 N:=N
 s₀:=s
 H₀:=H
 env:=compEnvC scope cl C X.env
 outer:=X.stack
 stack:=X.stack
 ex:=ex
 calm:=X.calm
 fn:=fun x=>scope.names.lookup x==some .cell
 pn:=[]
 xe:=fun _ _=>False
theorem lookup_relabel_free {env:Env}:∀{names:List (Str×NameKind)} {x:Str},names.lookup x=some .free→
  (names.map fun(n,k)=>if (k==NameKind.free && env.scope.kind==.function && env.kindOf n==some .cell) then (n,NameKind.cell) else (n,k)).lookup x=some .cell∨
  (names.map fun(n,k)=>if (k==NameKind.free && env.scope.kind==.function && env.kindOf n==some .cell) then (n,NameKind.cell) else (n,k)).lookup x=some .free
 | [],_,h=>by simp at h
 | (n,k)::r,x,h=>by
  have ih:=@lookup_relabel_free env r x
  show List.lookup x ((if (k==NameKind.free && env.scope.kind==.function && env.kindOf n==some .cell)=true then (n,NameKind.cell) else (n,k))::_)=_∨List.lookup x ((if (k==NameKind.free && env.scope.kind==.function && env.kindOf n==some .cell)=true then (n,NameKind.cell) else (n,k))::_)=_
  cases hx:x==n with
  | true=>
   simp only[List.lookup_cons,hx] at h
   cases h
   by_cases hc:(NameKind.free==NameKind.free && env.scope.kind==.function && env.kindOf n==some .cell)=true
   ·rw[if_pos hc];left;simp [List.lookup_cons,hx]
   ·rw[if_neg hc];right;simp [List.lookup_cons,hx]
  | false=>
   simp only[List.lookup_cons,hx] at h
   by_cases hc:(k==NameKind.free && env.scope.kind==.function && env.kindOf n==some .cell)=true
   ·rw[if_pos hc];simp only[List.lookup_cons,hx];exact ih h
   ·rw[if_neg hc];simp only[List.lookup_cons,hx];exact ih h
theorem relabel_back {env:Env}:∀{names:List (Str×NameKind)} {x:Str},
  ((names.map fun(n,k)=>if (k==NameKind.free && env.scope.kind==.function && env.kindOf n==some .cell) then (n,NameKind.cell) else (n,k)).lookup x=some .cell∨
  (names.map fun(n,k)=>if (k==NameKind.free && env.scope.kind==.function && env.kindOf n==some .cell) then (n,NameKind.cell) else (n,k)).lookup x=some .free)→(x,NameKind.free)∈names∨(x,NameKind.cell)∈names
 | [],_,h=>by simp at h
 | (n,k)::r,x,h=>by
  have ih:=@relabel_back env r x
  have up:((x,NameKind.free)∈r∨(x,NameKind.cell)∈r)→((x,NameKind.free)∈(n,k)::r∨(x,NameKind.cell)∈(n,k)::r):=fun z=>z.imp (List.mem_cons_of_mem _) (List.mem_cons_of_mem _)
  have h:List.lookup x ((if (k==NameKind.free && env.scope.kind==.function && env.kindOf n==some .cell)=true then (n,NameKind.cell) else (n,k))::_)=_∨List.lookup x ((if (k==NameKind.free && env.scope.kind==.function && env.kindOf n==some .cell)=true then (n,NameKind.cell) else (n,k))::_)=_:=h
  cases hx:x==n with
  | true=>
   have e1:x=n:=by simpa using hx
   subst e1
   by_cases hc:(k==NameKind.free && env.scope.kind==.function && env.kindOf x==some .cell)=true
   ·have:k=.free:=by
     simp only[Bool.and_eq_true] at hc
     simpa using hc.1.1
    subst this
    exact .inl List.mem_cons_self
   ·rw[if_neg hc] at h
    simp only[List.lookup_cons,hx] at h
    rcases h with h | h
    ·cases h;exact .inr List.mem_cons_self
    ·cases h;exact .inl List.mem_cons_self
  | false=>
   by_cases hc:(k==NameKind.free && env.scope.kind==.function && env.kindOf n==some .cell)=true
   ·rw[if_pos hc] at h;simp only[List.lookup_cons,hx] at h;exact up (ih h)
   ·rw[if_neg hc] at h;simp only[List.lookup_cons,hx] at h;exact up (ih h)
theorem cells_own:∀(names:List (Str×NameKind)) (h:Heap) (acc:List (Str×Addr)) (x:Str) (c:Addr),(x,c)∈cellsFrom h.objs.size names acc→
  (x,c)∈acc∨(h.objs.size≤c∧(pushCells h names).IsCell c none∧(x,NameKind.cell)∈names)
 | [],h,acc,x,c,m=>.inl m
 | (n,k)::r,h,acc,x,c,m=>by
  unfold cellsFrom at m
  unfold pushCells
  by_cases hk:(k==NameKind.cell)=true
  ·rw[if_pos hk] at m ⊢
   have ih:=cells_own r (h.push {cls:=.type "cell",data:=.cell none}) ((n,h.objs.size)::acc) x c
   rw[Heap.size_push] at ih
   rcases ih m with m | ⟨q1,q2,q3⟩
   ·rcases List.mem_cons.mp m with e | m
    ·cases e
     have hk:k=.cell:=by simpa using hk
     subst hk
     refine .inr ⟨Nat.le_refl _,?_,List.mem_cons_self⟩
     have q:(h.push {cls:=.type "cell",data:=.cell none}).IsCell h.objs.size none:=⟨_,Heap.get?_push_size _ rfl,rfl⟩
     exact q.keeps fun b o e=>pushCells_keeps r _ b o e
    ·exact .inl m
   ·exact .inr ⟨by omega,q2,List.mem_cons_of_mem _ q3⟩
  ·rw[if_neg hk] at m ⊢
   rcases cells_own r h acc x c m with m | ⟨q1,q2,q3⟩
   ·exact .inl m
   ·exact .inr ⟨q1,q2,List.mem_cons_of_mem _ q3⟩
theorem cells_inj:∀(names:List (Str×NameKind)) (n lo:Nat) (acc:List (Str×Addr)),(∀x c,(x,c)∈acc→c<n)→(∀x y c,lo≤c→(x,c)∈acc→(y,c)∈acc→x=y)→
  ∀x y c,lo≤c→(x,c)∈cellsFrom n names acc→(y,c)∈cellsFrom n names acc→x=y
 | [],n,lo,acc,h1,h2,x,y,c,hl,m1,m2=>h2 x y c hl m1 m2
 | (z,k)::r,n,lo,acc,h1,h2,x,y,c,hl,m1,m2=>by
  unfold cellsFrom at m1 m2
  by_cases hk:(k==NameKind.cell)=true
  ·rw[if_pos hk] at m1 m2
   refine cells_inj r (n+1) lo _ (fun x c m=>?_) (fun x y c hl m1 m2=>?_) x y c hl m1 m2
   ·rcases List.mem_cons.mp m with e | m
    ·cases e;exact Nat.lt_succ_self _
    ·exact Nat.lt_succ_of_lt (h1 x c m)
   ·rcases List.mem_cons.mp m1 with e1 | m1 <;>rcases List.mem_cons.mp m2 with e2 | m2
    ·cases e1;cases e2;rfl
    ·cases e1;exact absurd (h1 _ _ m2) (Nat.lt_irrefl _)
    ·cases e2;exact absurd (h1 _ _ m1) (Nat.lt_irrefl _)
    ·exact h2 x y c hl m1 m2
  ·rw[if_neg hk] at m1 m2
   exact cells_inj r n lo acc h1 h2 x y c hl m1 m2
theorem cells_skip:∀(names:List (Str×NameKind)) (n:Nat) (acc:List (Str×Addr)) (x:Str),(x,NameKind.cell)∉names→(cellsFrom n names acc).lookup x=acc.lookup x
 | [],n,acc,x,_=>rfl
 | (z,k)::r,n,acc,x,h=>by
  have hr:(x,NameKind.cell)∉r:=fun m=>h (List.mem_cons_of_mem _ m)
  unfold cellsFrom
  by_cases hk:(k==NameKind.cell)=true
  ·rw[if_pos hk,cells_skip r _ _ x hr,List.lookup_cons]
   have hk:k=.cell:=by simpa using hk
   subst hk
   have:(x==z)=false:=by
    cases q:x==z with
    | false=>rfl
    | true=>
     have e:x=z:=by simpa using q
     subst e
     exact absurd List.mem_cons_self h
   rw[this]
  ·rw[if_neg hk]
   exact cells_skip r n acc x hr
theorem cells_has:∀(names:List (Str×NameKind)) (n:Nat) (acc:List (Str×Addr)) (x:Str),((x,NameKind.cell)∈names∨(acc.lookup x).isSome=true)→((cellsFrom n names acc).lookup x).isSome=true
 | [],n,acc,x,h=>by
  rcases h with h | h
  ·simp at h
  ·exact h
 | (z,k)::r,n,acc,x,h=>by
  unfold cellsFrom
  by_cases hk:(k==NameKind.cell)=true
  ·rw[if_pos hk]
   refine cells_has r _ _ x ?_
   rcases h with h | h
   ·rcases List.mem_cons.mp h with e | h
    ·cases e
     right
     rw[List.lookup_cons]
     simp
    ·exact .inl h
   ·right
    rw[List.lookup_cons]
    cases q:x==z with
    | true=>rfl
    | false=>exact h
  ·rw[if_neg hk]
   refine cells_has r _ _ x ?_
   rcases h with h | h
   ·rcases List.mem_cons.mp h with e | h
    ·cases e;exact absurd rfl hk
    ·exact .inl h
   ·exact .inr h
section
variable {M : Model} {A : Around} {E : Value → Shared → Prop} {s : Shared}
theorem wpAny_newEnv_comp {scope:Scope} {globals:Addr} {closure:List (Str×Addr)} {qual:Str} {func:Option Addr} {code:Value} {outer:Env} {Q:Env→Shared→Prop}
  (hQ:Q (newEnv scope s.heap.objs.size globals (cellsFrom (s.heap.objs.size+1) scope.names closure) qual func code (some outer) builtinsNs)
   {s with heap:=pushCells (s.heap.push {cls:=.type "dict",data:=.dict #[]}) scope.names}):
  wpAny M A (newFunctionEnv scope globals closure [] qual func code (some outer)) Q E s:=by
 simp only[newFunctionEnv,Option.isSome_some,if_true]
 refine wpAny_bind (wpAny_alloc ?_)
 refine wpAny_bind (wpAny_layCells _ (fun name kind cells=>by cases hkc:kind==NameKind.cell <;>simp [hkc]) _ _ _ _ ?_)
 rw[show({s with heap:=s.heap.push {cls:=.type "dict",data:=.dict #[]}}:Shared).heap.objs.size=s.heap.objs.size+1 from Heap.size_push ..]
 refine wpAny_bind ?_
 rw[List.forIn_nil]
 exact wpAny_pure (wpAny_pure hQ)
end
structure BlkC (X:Cx) (scope:Scope) (cl:List (Str×Addr)) (lo:Nat) (C:Addr) (h1:Heap):Prop where
 old:∀x c,cl.lookup x=some c→X.env.cells.lookup x=some c∨(lo≤c∧C<c∧h1.IsCell c none)
 inj:∀x y c,C<c→cl.lookup x=some c→cl.lookup y=some c→x=y
 has:∀n,(n,NameKind.free)∈scope.names∨(n,NameKind.cell)∈scope.names→∃c,cl.lookup n=some c
 fre:∀n,scope.names.lookup n=some .free→∀c,cl.lookup n=some c→X.env.cells.lookup n=some c
 own:∀x c,scope.names.lookup x=some .cell→cl.lookup x=some c→lo≤c
section
variable {X : Cx} {pins : List (Addr × Obj)} {σ : St} {H : Hp} {s : Shared} {N' : List Str} {scope : Scope} {k : Nat} {fr : List Nat} {cl : List (Str × Addr)}
theorem compOk {C:Addr} {fp:List Addr} {h1:Heap} (I:Inv X pins σ H s) (S:CompScope X.N X.env.scope N' scope k fr) (B:BlkC X scope cl s.heap.objs.size C h1)
  (hC:s.heap.objs.size≤C) (f2:∀b∈fp,FpOk X pins H b) (lt:∀b∈fp,b<s.heap.objs.size):(cxC X N' scope cl C s H fp).Ok where
 mod:=I.ok.mod
 kind:=S.kind
 glob:=I.ok.glob
 blt:=I.ok.blt
 above:=hC
 inj:=fun x y c h1 h2=>by
  rcases B.old _ _ h1 with o1 | o1 <;>rcases B.old _ _ h2 with o2 | o2
  ·exact I.ok.inj x y c o1 o2
  ·exact B.inj x y c o2.2.1 h1 h2
  ·exact B.inj x y c o1.2.1 h1 h2
  ·exact B.inj x y c o1.2.1 h1 h2
 has:=fun x hx=>B.has x (relabel_back hx)
 cab:=fun x c z e=>B.own x c (by
  have z:(scope.names.lookup x==some NameKind.cell)=true:=z
  simpa using z) e
 hd:=I.ok.hd
 frames:=I.ok.frames
 stk:=.inl rfl
 exf:=fun b hb=>⟨Nat.ne_of_lt (Nat.lt_of_lt_of_le (lt b hb) hC),fun x c e=>(B.old _ _ e).elim (fun o=>(f2 b hb).2.2.2.2.1 x c o) fun o=>Nat.ne_of_gt (Nat.lt_of_lt_of_le (lt b hb) o.1)⟩
 bs:=I.bs
 bsz:=Nat.le_trans I.ok.bsz I.sz
 noex:=fun b o e hb=>by
  rcases(f2 b hb).2.2.2.1 with z | z
  ·exact I.ok.noex b o e z
  ·exact absurd (Nat.lt_of_lt_of_le (Heap.lt_size e) (Nat.le_trans I.ok.bsz z)) (Nat.lt_irrefl _)
 exfs:=fun b hb z=>by
  rcases List.mem_cons.mp (I.stkSub b z) with q | q
  ·exact(f2 b hb).2.1 q
  ·exact(f2 b hb).2.2.1 q
 funs:=I.stack
 frf:=I.stkFree
theorem compInv {C:Addr} {fp:List Addr} {h1:Heap} {tk:Nat} {m:Str→Option Value} (I:Inv X pins σ H s) (S:CompScope X.N X.env.scope N' scope k fr) (B:BlkC X scope cl s.heap.objs.size C h1)
  (hC:s.heap.objs.size≤C) (f2:∀b∈fp,FpOk X pins H b) (lt:∀b∈fp,b<s.heap.objs.size) (old:∀b o,s.heap.get? b=some o→h1.get? b=some o) (hn:h1.Ns C m):
  Inv (cxC X N' scope cl C s H fp) [] (stC k fr σ) H {s with heap:=h1,toks:=tk}:=by
 refine⟨compOk I S B hC f2 lt,rfl,I.bare,Un.kept old,⟨m,hn,fun i x v e1 e2 e3=>?_⟩,fun x c e=>?_,I.hok.fresh hC,fun x c e=>(B.old _ _ e).elim (fun o=>I.freeC x c o) fun o=>I.hok.fresh o.1,fun p hp=>absurd (show p∈([]:List (Addr×Obj)) from hp) (by simp),I.hok.kept old,?_⟩
 ·have e1:N'[i]?=some x:=e1
  unfold stC at e2
  by_cases hi:i<k
  ·rw[List.getElem?_append_left (by simpa using hi),List.getElem?_replicate,if_pos hi] at e2
   cases e2
  ·rw[List.getElem?_append_right (by simpa using hi),List.length_replicate,List.getElem?_map] at e2
   cases q:fr[i - k]? with
   | none=>rw[q] at e2;cases e2
   | some j=>
    rw[q] at e2
    have e2:(σ[j]?).join=some v:=Option.some.inj e2
    have ej:σ[j]?=some (some v):=by
     cases z:σ[j]? with
     | none=>rw[z] at e2;cases e2
     | some o=>rw[z] at e2;exact congrArg some e2
    have hlt:i - k<fr.length:=(List.getElem?_eq_some_iff.mp q).1
    have hat:=S.at_ (i - k) hlt
    rw[q,show k+ (i - k)=i by omega,e1] at hat
    have hat:X.N[j]?=some x:=hat
    have hxm:x∈N'.drop k:=List.mem_iff_getElem?.mpr ⟨i - k,by rw[List.getElem?_drop,show k+ (i - k)=i by omega];exact e1⟩
    have hfr:=S.fre x hxm
    have hmem:(x,NameKind.free)∈scope.names:=PySem.mem_of_lookup hfr
    have hout:=S.outer _ hmem rfl
    obtain⟨m0,hn0,hl0⟩:=I.loc
    obtain⟨u,r,l⟩:=hl0 j x v hat ej (.inr hout)
    refine⟨u,r,.inr ⟨lookup_relabel_free hfr,?_⟩⟩
    rcases l with ⟨kk,_⟩ | ⟨_,c,e,z⟩
    ·have kk:X.env.scope.names.lookup x=some .local:=kk
     rcases hout with q1 | q1
     ·rw[kk] at q1;cases q1
     ·rw[kk] at q1;cases q1
    ·obtain⟨c',e'⟩:=B.has x (.inl hmem)
     have ec:=B.fre x hfr _ e'
     rw[e] at ec
     cases ec
     obtain⟨ob,ho,hd⟩:=z
     exact⟨c,e',ob,old _ _ ho,hd⟩
 ·rcases B.old _ _ e with o | o
  ·obtain⟨v,ob,ho,hd⟩:=I.cell x c o
   exact⟨v,ob,old _ _ ho,hd⟩
  ·exact⟨none,o.2.2⟩
 ·unfold stC
  rw[List.length_append,List.length_replicate,List.length_map]
  exact S.len.symm
end
section
variable {prog : Program} {w : World} {A : Around} {E : Value → Shared → Prop} {R : Result → Shared → Prop} {s : Shared}
theorem codeAny_compLoop_any {elt target iter:Expr} {ifs:List Expr} {scope:Scope} {pos:Pos} {it acc:Value} {env:Env} (I:Nat→Shared→Prop)
  (turn:∀n s,I n s→wpAny (model prog w) A (pyNext it) (fun r s₁=>match r with
   | none=>R (.ok .next) s₁
   | some v=>wpAny (model prog w) A (letOwnedTupleGo target it v) (fun _ s₁'=>wpAny (model prog w) A (assign target env v) (fun _ s₂=>
     wpAny (model prog w) A (forIn ifs true fun c r=>if r=true then do let ok ←isTrue c env (eval c env);pure (ForInStep.yield ok) else pure (ForInStep.yield r)) (fun ok s₃=>
      if ok=true then wpAny (model prog w) A (eval elt env) (fun x s₄=>
       wpAny (model prog w) A (call (.builtin "list.append") [acc,x]) (fun _ s₅=>∃m,m<n∧I m s₅) (fun _ _=>False) s₄) (notedBy (model prog w) A env fun x s'=>R (.error x) s') s₃
      else ∃m,m<n∧I m s₃) (fun _ _=>False) s₂) (fun _ _=>False) s₁') (fun _ _=>False) s₁) (fun _ _=>False) s)
  (n:Nat) (h:I n s):
  codeAny (model prog w) A (.compLoop (.ListComp elt [⟨target,iter,ifs,0⟩] scope pos) 0 it acc env) R s:=by
 refine codeAny_loop rfl I (fun n s hI=>?_) n h
 show wpAny _ A ((compTurn (.ListComp elt [⟨target,iter,ifs,0⟩] scope pos) 0 it acc env).onRaise (fun x=>do noteFrame x env;theTreesLotGoes x)) _ _ s
 refine wpAny_noted ?_
 rw[compTurn_list]
 refine wpAny_bind (wpAny_standAt (wpAny_bind (wpAny_mono (turn n s hI) (fun r s₁ h₁=>?_) fun _ _ h'=>h'.elim)))
 cases r with
 | none=>exact wpAny_pure h₁
 | some v=>
  refine wpAny_bind (wpAny_mono h₁ (fun _ s₁' h₁'=>?_) fun _ _ h'=>h'.elim)
  refine wpAny_bind (wpAny_mono h₁' (fun _ s₂ h₂=>wpAny_bind (wpAny_mono h₂ (fun ok s₃ h₃=>?_) fun _ _ h'=>h'.elim)) fun _ _ h'=>h'.elim)
  cases ok with
  | false=>exact wpAny_pure ⟨rfl,h₃⟩
  | true=>
   exact wpAny_bind (wpAny_bind (wpAny_mono h₃ (fun x s₄ h₄=>wpAny_bind (wpAny_mono h₄ (fun _ s₅ h₅=>wpAny_pure (wpAny_pure ⟨rfl,h₅⟩)) fun _ _ h'=>h'.elim)) fun _ _ h'=>h'))
end
noncomputable def PTs (X:Cx) (ifs:List Expr) (t:TT):Prop:=
 ∀(pins:List (Addr×Obj)) (s:Shared) (σ:St) (H:Hp) (Q:Bool→Hp→Prop),Inv X pins σ H s→t σ H Q→
  wpAny (model X.prog X.w) X.A (forIn ifs true fun c r=>if r=true then do let ok ←isTrue c X.env (eval c X.env);pure (ForInStep.yield ok) else pure (ForInStep.yield r)) (TP X pins σ Q) X.xe s
noncomputable def tYes:TT:=fun _ H Q=>Q true H
theorem pts_nil {X:Cx}:PTs X [] tYes:=fun _ _ _ H _ I h=>wpAny_tests_nil ⟨H,I,h⟩
theorem pts_one {X:Cx} {c:Expr} {t:TT} (h:PT X c t):PTs X [c] t:=fun pins s σ H Q I hq=>wpAny_tests_one (h pins s σ H Q I hq)
section
variable {X : Cx}
noncomputable def tBlock (J:It) (g:TG) (tc:TT) (te:TE) (σ0:St) (H1:Hp) (fin:List V→Hp→Prop):Prop:=
 ∃W:Nat→Nat→List V→St→Hp→Prop,(∃m,W 0 m [] σ0 H1)∧∀i m ys σ2 H2,W i m ys σ2 H2→
  (J.stop i H2∧fin ys H2)∨
  (J.go i H2∧∀x H3,J.yld i H2 x H3→g x σ2 H3 fun σ3 H4=>tc σ3 H4 fun b H5=>if b=true then te σ3 H5 fun y H6=>ys.length<sizeLine∧∃m',m'<m∧W (i+1) m' (ys++ [y]) σ3 H6 else ∃m',m'<m∧W (i+1) m' ys σ3 H5)
noncomputable def lstObj (its:List Value) (n:Nat):Obj:={cls:=.type "list",data:=.seq its.toArray n}
theorem block_in {elt target iter:Expr} {ifs:List Expr} {scope:Scope} {pos:Pos} {g:TG} {tc:TT} {te:TE} {k:Nat} {fr:List Nat} {N':List Str} {cl:List (Str×Addr)} {pins:List (Addr×Obj)} {σ:St} {H2:Hp} {s2:Shared}
  {it:Addr} {fp:List Addr} {tn:Nat→Heap→Prop} {J:It} {fin:List V→Hp→Prop} {R0:Result→Shared→Prop} {XE:List (Str×Addr)→Addr→Shared→Hp→List Addr→Value→Shared→Prop}
  (hc:X.calm=true) (S:CompScope X.N X.env.scope N' scope k fr) (c1:∀x c,cl.lookup x=some c→X.env.cells.lookup x=some c) (c2:∀n,(n,NameKind.free)∈scope.names→∃c,cl.lookup n=some c) (cin:∀x c,(x,c)∈cl→∃y,X.env.cells.lookup y=some c) (cno:∀x,(x,NameKind.cell)∈scope.names→∀c,(x,c)∉cl)
  (hg:∀cl C s H ex,PG (cxC X N' scope cl C s H ex) target g) (ht:∀cl C s H ex,PTs (cxC X N' scope cl C s H ex) ifs tc) (he:∀cl C s H ex,PE ((cxC X N' scope cl C s H ex).wish (XE cl C s H ex)) elt te)
  (I2:Inv X pins σ H2 s2) (T:Turn X.prog X.w X.K target J fp it tn) (st2:tn 0 s2.heap) (f2:∀b∈fp,FpOk X pins H2 b) (hb:tBlock J g tc te (stC k fr σ) H2 fin)
  (hR:∀(C:Addr),C=(s2.heap.push {cls:=.type "list",dict:=none,data:=.seq ([]:List Value).toArray}).objs.size→∀(s':Shared) (m:Str→Option Value) (ys:List V) (its:List Value) (n:Nat) (H':Hp),s2.heap.objs.size<C→s'.heap.Ns C m→Vals ys its→ys.length≤sizeLine→s'.heap.get? s2.heap.objs.size=some (lstObj its n)→H' s2.heap.objs.size=none→H' C=none→fin ys H'→
   s'.os=s2.os→AllBare s'.gens→Un (frs X.stack) fp H2 H' s2.heap s'.heap→HOk X.prog X.w H' s'.heap→R0 (.ok .next) s')
  (hE:∀cl C x s',C=(s2.heap.push {cls:=.type "list",dict:=none,data:=.seq ([]:List Value).toArray}).objs.size→s2.heap.objs.size<C→XE cl C s2 H2 fp x s'→notedBy (model X.prog X.w) X.A (compEnvC scope cl C X.env) (fun y s''=>R0 (.error y) s'') x s'):
  codeAny (model X.prog X.w) X.A (.compStart (.ListComp elt [⟨target,iter,ifs,0⟩] scope pos) 0 (.ref it) (.ref s2.heap.objs.size) (compEnvC scope (cellsFrom ((s2.heap.push {cls:=.type "list",dict:=none,data:=.seq ([]:List Value).toArray}).objs.size+1) scope.names cl) (s2.heap.push {cls:=.type "list",dict:=none,data:=.seq ([]:List Value).toArray}).objs.size X.env)) R0 {s2 with heap:=pushCells ((s2.heap.push {cls:=.type "list",dict:=none,data:=.seq ([]:List Value).toArray}).push {cls:=.type "dict",data:=.dict #[]}) scope.names}:=by
 obtain⟨W,⟨m0,w0⟩,turn⟩:=hb
 have lt:∀b∈fp,b<s2.heap.objs.size:=fun b hb=>by
  obtain⟨o,e,_⟩:=T.obj _ _ st2 b hb
  exact Heap.lt_size e
 generalize hH2:s2.heap.push {cls:=.type "list",dict:=none,data:=.seq ([]:List Value).toArray}=G2 at hR hE ⊢
 have hCs:G2.objs.size=s2.heap.objs.size+1:=by rw[←hH2,Heap.size_push]
 have hDC:s2.heap.objs.size≠G2.objs.size:=by rw[hCs];exact Nat.ne_of_lt (Nat.lt_succ_self _)
 have hC:s2.heap.objs.size≤G2.objs.size:=by rw[hCs];exact Nat.le_succ _
 have old:∀b o,s2.heap.get? b=some o→(pushCells (G2.push {cls:=.type "dict",data:=.dict #[]}) scope.names).get? b=some o:=fun b o e=>by
  refine pushCells_keeps _ _ b o (Heap.get?_push_of_some _ ?_)
  rw[←hH2]
  exact Heap.get?_push_of_some _ e
 have hacc:(pushCells (G2.push {cls:=.type "dict",data:=.dict #[]}) scope.names).get? s2.heap.objs.size=some (lstObj [] 0):=by
  refine pushCells_keeps _ _ _ _ (Heap.get?_push_of_some _ ?_)
  rw[←hH2]
  exact Heap.get?_push_size _ rfl
 have hns₁:(pushCells (G2.push {cls:=.type "dict",data:=.dict #[]}) scope.names).Ns G2.objs.size fun _=>none:=(Heap.Ns.new G2 (.type "dict")).keeps (pushCells_keeps _ _)
 have cl0:∀x c,(x,c)∈cl→c<G2.objs.size+1:=fun x c m=>by
  obtain⟨y,hy⟩:=cin x c m
  obtain⟨v,q⟩:=I2.cell y c hy
  rw[hCs]
  exact Nat.lt_succ_of_lt (Nat.lt_succ_of_lt q.lt)
 have B:BlkC X scope (cellsFrom (G2.objs.size+1) scope.names cl) s2.heap.objs.size G2.objs.size (pushCells (G2.push {cls:=.type "dict",data:=.dict #[]}) scope.names):=by
  have own:=cells_own scope.names (G2.push {cls:=.type "dict",data:=.dict #[]}) cl
  rw[Heap.size_push] at own
  refine⟨fun x c e=>?_,fun x y c hc h1 h2=>?_,fun n hn=>?_,fun n hn c e=>?_,fun x c hx e=>?_⟩
  ·by_cases hx:(x,NameKind.cell)∈scope.names
   ·rcases own x c (PySem.mem_of_lookup e) with m | ⟨q1,q2,_⟩
    ·
     exfalso
     exact cno x hx c m
    ·exact .inr ⟨Nat.le_trans hC (Nat.le_of_succ_le q1),q1,q2⟩
   ·rw[cells_skip _ _ _ _ hx] at e
    exact .inl (c1 x c e)
  ·exact cells_inj scope.names (G2.objs.size+1) (G2.objs.size+1) cl cl0 (fun x y c hl m1 _=>absurd (cl0 x c m1) (Nat.not_lt.mpr hl)) x y c hc (PySem.mem_of_lookup h1) (PySem.mem_of_lookup h2)
  ·refine Option.isSome_iff_exists.mp (cells_has _ _ _ n ?_)
   rcases hn with hn | hn
   ·obtain⟨c,e⟩:=c2 n hn
    exact .inr (by rw[e];rfl)
   ·exact .inl hn
  ·have hx:(n,NameKind.cell)∉scope.names:=fun m=>by
    have:=(S.cels _ m rfl).1
    rw[hn] at this
    cases this
   rw[cells_skip _ _ _ _ hx] at e
   exact c1 n c e
  ·have hx:=PySem.mem_of_lookup hx
   rcases own x c (PySem.mem_of_lookup e) with m | ⟨q1,q2,_⟩
   ·exact absurd m (cno x hx c)
   ·exact Nat.le_trans hC (Nat.le_of_succ_le q1)
 generalize pushCells (G2.push {cls:=.type "dict",data:=.dict #[]}) scope.names=h₁ at *
 generalize cellsFrom (G2.objs.size+1) scope.names cl=cl2 at *
 generalize hDd:s2.heap.objs.size=D at *
 generalize hCc:G2.objs.size=C at *
 have fD:H2 D=none:=by rw[←hDd];exact I2.hok.fresh (Nat.le_refl _)
 have cells:∀x c,cl2.lookup x=some c→c≠D:=fun x c e=>by
  rcases B.old _ _ e with o | o
  ·obtain⟨v,q⟩:=I2.cell x c o
   rw[←hDd]
   exact Nat.ne_of_lt q.lt
  ·exact Nat.ne_of_gt (Nat.lt_trans (by rw[hCs];exact Nat.lt_succ_self _) o.2.1)
 have loop:∀(itv:Addr) (s3:Shared),itv=it→(∃tk,s3={s2 with heap:=h₁,toks:=tk})→
   codeAny (model X.prog X.w) X.A (.compLoop (.ListComp elt [⟨target,iter,ifs,0⟩] scope pos) 0 (.ref itv) (.ref D) (compEnvC scope cl2 C X.env)) R0 s3:=by
  rintro itv s3 rfl ⟨tk,rfl⟩
  have I3:Inv (cxC X N' scope cl2 C s2 H2 fp) [] (stC k fr σ) H2 {s2 with heap:=h₁,toks:=tk}:=compInv I2 S (by rw[hDd];exact B) (by rw[hDd];exact hC) f2 (by rw[hDd];exact lt) old hns₁
  have stat:∀{H':Hp} {o:Obj},(∀b∈fp,H' b=none)→∀b∈fp,FpOk (cxC X N' scope cl2 C s2 H2 fp) [(D,o)] H' b:=fun {H' o} hn b hb=>
   ⟨hn b hb,Nat.ne_of_lt (Nat.lt_of_lt_of_le (lt b hb) hC),fun z=>by
    rcases List.mem_cons.mp (I2.stkSub b z) with q | q
    ·exact(f2 b hb).2.1 q
    ·exact(f2 b hb).2.2.1 q,.inl hb,fun x c e=>(B.old _ _ e).elim (fun o=>(f2 b hb).2.2.2.2.1 x c o) (fun o=>Nat.ne_of_gt (Nat.lt_of_lt_of_le (lt b hb) o.1)),fun p hp=>by
    have e:p=(D,o):=by simpa [cxC] using hp
    rw[e]
    exact Nat.ne_of_gt (lt b hb)⟩
  have addD:∀{σ':St} {H':Hp} {s':Shared} {o:Obj},Inv (cxC X N' scope cl2 C s2 H2 fp) [] σ' H' s'→s'.heap.get? D=some o→H' D=none→(∀v,o.data≠.cell v)→Inv (cxC X N' scope cl2 C s2 H2 fp) [(D,o)] σ' H' s':=fun {σ' H' s' o} I' e n hd=>
   I'.pins_of fun p hp=>by
    have q:p=(D,o):=by simpa using hp
    subst q
    refine⟨e,n,hDC,fun z=>?_,hd⟩
    obtain⟨_,ob,ho,_⟩:=I2.stack.mem z
    exact absurd (Heap.lt_size ho) (by rw[hDd];exact Nat.lt_irrefl _)
  have ndL:∀{its:List Value} {n:Nat} (v:Option Value),(lstObj its n).data≠.cell v:=fun v z=>by
   have z:Data.seq _ _=Data.cell v:=z
   cases z
  refine codeAny_compLoop_any (fun n s'=>∃i ys σ' H' its cap,Inv (cxC X N' scope cl2 C s2 H2 fp) [] σ' H' s'∧tn i s'.heap∧(∀b∈fp,H' b=none)∧s'.heap.get? D=some (lstObj its cap)∧H' D=none∧Vals ys its∧ys.length≤sizeLine∧W i n ys σ' H') ?_ m0
   ⟨0,[],_,H2,[],0,I3,T.keep _ _ _ st2 (fun b _ o e=>old b o e),fun b hb=>(f2 b hb).1,hacc,fD,.nil,Nat.zero_le _,w0⟩
  rintro n s4 ⟨i,ys,σ4,H4,its,cap,I4,st4,fr4,hD4,nD4,vl4,sz4,w4⟩
  have I4':=addD I4 hD4 nD4 ndL
  rcases turn i n ys σ4 H4 w4 with ⟨stop,qf⟩ | ⟨go,step⟩
  ·refine thn (T.done (cxC X N' scope cl2 C s2 H2 fp) rfl rfl rfl hc i _ s4 σ4 H4 _ I4' (stat fr4) st4 stop) fun r s5 ⟨hr,I5⟩=>?_
   subst hr
   obtain⟨m5,hn5,_⟩:=I5.loc
   exact hR C rfl s5 m5 ys its cap H4 (by rw[hCs];exact Nat.lt_succ_self _) hn5 vl4 sz4 (I5.pin (D,lstObj its cap) (List.mem_append_right _ List.mem_cons_self)).1 nD4 I5.free qf I5.os I5.bare I5.base I5.hok
  ·refine thn (T.item (cxC X N' scope cl2 C s2 H2 fp) rfl rfl rfl hc i _ s4 σ4 H4 _ I4' (stat fr4) st4 go) fun r s5 ⟨u,hr,h5⟩=>?_
   subst hr
   refine thn h5 fun _ s6 hh_=>?_
   obtain⟨x,H6,I6,r6,y6,st6,fr6⟩:=hh_
   have I6':=I6.pinned (stat fr6) (T.obj _ _ st6)
   refine thn (hg cl2 C s2 H2 fp _ s6 σ4 H6 x u _ I6' r6 (step x H6 y6)) fun _ s7 ⟨σ7,H7,I7,q7⟩=>?_
   refine thn (ht cl2 C s2 H2 fp _ s7 σ7 H7 _ I7 q7) fun ok s8 ⟨H8,I8,q8⟩=>?_
   have back:∀{σ':St} {H':Hp} {s':Shared},Inv (cxC X N' scope cl2 C s2 H2 fp) ([(D,lstObj its cap)]++pinsAt fp s6.heap) σ' H' s'→tn (i+1) s'.heap∧(∀b∈fp,H' b=none)∧s'.heap.get? D=some (lstObj its cap)∧H' D=none:=fun {σ' H' s'} I'=>by
    have pD:=I'.pin (D,lstObj its cap) (List.mem_append_right _ (List.mem_append_left _ (by simp)))
    refine⟨T.keep _ _ _ st6 fun b hb o e=>(I'.pin (b,o) (List.mem_append_right _ (List.mem_append_right _ (mem_pinsAt hb e)))).1,fun b hb=>?_,pD.1,pD.2.1⟩
    obtain⟨o,e,d⟩:=T.obj _ _ st6 b hb
    exact(I'.pin (b,o) (List.mem_append_right _ (List.mem_append_right _ (mem_pinsAt hb e)))).2.1
   cases ok with
   | false=>
    rw[if_neg Bool.false_ne_true]
    rw[if_neg Bool.false_ne_true] at q8
    obtain⟨m',hm,w8⟩:=q8
    obtain⟨b1,b2,b3,b4⟩:=back I8
    exact⟨m',hm,i+1,ys,σ7,H8,its,cap,I8.pins_of (fun p hp=>absurd hp (by simp)),b1,b2,b3,b4,vl4,sz4,w8⟩
   | true=>
    rw[if_pos rfl]
    rw[if_pos rfl] at q8
    refine wpAny_mono (he cl2 C s2 H2 fp _ s8 σ7 H8 _ (I8.wish _) q8) (fun y s9 ⟨z,H9,I9,r9,hlt,m',hm,w9⟩=>?_) fun x s' hx=>hE cl2 C x s' rfl (by rw[hCs];exact Nat.lt_succ_self _) hx
    have I9:=I9.unwish
    obtain⟨b1,b2,b3,b4⟩:=back I9
    have hl:=vl4.length
    refine call_meets F.slot_list_append ⟨_,b3,rfl⟩ F.entry_list_append (F.args_list_append_2 _ _) (PySem.list_append D its.toArray cap y (by rw[List.size_toArray];omega)) ⟨b3,?_⟩
    obtain⟨c',q⟩:∃c',(s9.heap.update D (Obj.mapSeq fun x=>x.push y)).get? D=some (lstObj (its++ [y]) c'):=by
     have q:=PySem.IsL.update b3 (fun x=>x.push y)
     rw[show its.toArray.push y=(its++ [y]).toArray by simp] at q
     exact⟨_,q⟩
    have I9':Inv (cxC X N' scope cl2 C s2 H2 fp) [] σ7 H9 s9:=I9.pins_of (fun p hp=>absurd hp (by simp))
    have kp:∀b o,b≠D→s9.heap.get? b=some o→(s9.heap.update D (Obj.mapSeq fun x=>x.push y)).get? b=some o:=fun b o hb e=>(Heap.get?_update_other s9.heap (Obj.mapSeq fun x=>x.push y) (Ne.symm hb)).trans e
    have I10:=I9'.turned (t':=s9.toks) (it:=D) (h':=s9.heap.update D (Obj.mapSeq fun x=>x.push y)) kp b4 hDC (.inr (by show s2.heap.objs.size≤D;rw[hDd];exact Nat.le_refl _)) (fun x c e=>cells x c e) (fun p hp=>absurd hp (by simp [cxC]))
    refine⟨m',hm,i+1,ys++ [z],σ7,H9,its++ [y],c',I10,T.keep _ _ _ b1 (fun b hb o e=>kp b o (Nat.ne_of_lt (lt b hb)) e),b2,q,b4,vl4.append (.cons r9 .nil),?_,w9⟩
    ·rw[List.length_append,List.length_singleton]
     omega
 exact codeAny_compStart_list (loop it _ rfl ⟨_,rfl⟩) (T.self _ 0 _ _ _ (T.keep _ _ _ st2 (fun b _ o e=>old b o e)) (loop it _ rfl ⟨_,rfl⟩))
theorem block_run {elt target iter:Expr} {ifs:List Expr} {scope:Scope} {pos:Pos} {g:TG} {tc:TT} {te:TE} {k:Nat} {fr:List Nat} {N':List Str} {cl:List (Str×Addr)} {pins:List (Addr×Obj)} {σ:St} {H2:Hp} {s2:Shared}
  {it:Addr} {fp:List Addr} {tn:Nat→Heap→Prop} {J:It} {E:Value→Shared→Prop} {fin:List V→Hp→Prop} {RR:Value→Addr→Result→Shared→Prop} {XE:List (Str×Addr)→Addr→Shared→Hp→List Addr→Value→Shared→Prop}
  (hc:X.calm=true) (S:CompScope X.N X.env.scope N' scope k fr) (c1:∀x c,cl.lookup x=some c→X.env.cells.lookup x=some c) (c2:∀n,(n,NameKind.free)∈scope.names→∃c,cl.lookup n=some c) (cin:∀x c,(x,c)∈cl→∃y,X.env.cells.lookup y=some c) (cno:∀x,(x,NameKind.cell)∈scope.names→∀c,(x,c)∉cl)
  (hg:∀cl C s H ex,PG (cxC X N' scope cl C s H ex) target g) (ht:∀cl C s H ex,PTs (cxC X N' scope cl C s H ex) ifs tc) (he:∀cl C s H ex,PE ((cxC X N' scope cl C s H ex).wish (XE cl C s H ex)) elt te)
  (I2:Inv X pins σ H2 s2) (T:Turn X.prog X.w X.K target J fp it tn) (st2:tn 0 s2.heap) (f2:∀b∈fp,FpOk X pins H2 b) (hb:tBlock J g tc te (stC k fr σ) H2 fin)
  (hR:∀(C:Addr) (s':Shared) (m:Str→Option Value) (ys:List V) (its:List Value) (n:Nat) (H':Hp),s2.heap.objs.size<C→s'.heap.Ns C m→Vals ys its→ys.length≤sizeLine→s'.heap.get? s2.heap.objs.size=some (lstObj its n)→H' s2.heap.objs.size=none→H' C=none→fin ys H'→
   s'.os=s2.os→AllBare s'.gens→Un (frs X.stack) fp H2 H' s2.heap s'.heap→HOk X.prog X.w H' s'.heap→RR (.ref s2.heap.objs.size) C (.ok .next) s')
  (hE:∀cl C x s',s2.heap.objs.size<C→XE cl C s2 H2 fp x s'→notedBy (model X.prog X.w) X.A (compEnvC scope cl C X.env) (fun y s''=>RR (.ref s2.heap.objs.size) C (.error y) s'') x s'):
  wpAny (model X.prog X.w) X.A (newList []) (fun acc s₃=>wpAny (model X.prog X.w) X.A (newFunctionEnv scope X.env.globals cl [] X.env.qual none .none (some X.env)) (fun cenv s₄=>
   codeAny (model X.prog X.w) X.A (.compStart (.ListComp elt [⟨target,iter,ifs,0⟩] scope pos) 0 (.ref it) acc {cenv with scope:=relabel scope X.env}) (RR acc cenv.locals) s₄) E s₃) E s2:=by
 refine wpAny_newObj_type (wpAny_newEnv_comp ?_)
 exact block_in (R0:=RR _ _) hc S c1 c2 cin cno hg ht he I2 T st2 f2 hb (fun C e=>by subst e;exact hR _) (fun cl C x s' e=>by subst e;exact hE cl _ x s')
theorem comp_back {fp:List Addr} {pins:List (Addr×Obj)} {σ:St} {H2 H':Hp} {s2 s':Shared} {C:Addr} {ys:List V} {its:List Value} {n:Nat} {h':Heap} (I2:Inv X pins σ H2 s2) (f2:∀b∈fp,FpOk X pins H2 b) (hC:s2.heap.objs.size<C)
  (vl:Vals ys its) (sz:ys.length≤sizeLine) (hD:s'.heap.get? s2.heap.objs.size=some (lstObj its n)) (nD:H' s2.heap.objs.size=none) (nC:H' C=none)
  (os:s'.os=s2.os) (bare:AllBare s'.gens) (un:Un (frs X.stack) fp H2 H' s2.heap s'.heap) (hok:HOk X.prog X.w H' s'.heap) (hs:Heap.SameBut C s'.heap h'):
  Inv X pins σ (upd H' s2.heap.objs.size (.lst ys)) {s' with heap:=h'}:=by
 have ltC:∀b o,s2.heap.get? b=some o→b≠C:=fun b o e=>Nat.ne_of_lt (Nat.lt_trans (Heap.lt_size e) hC)
 have ltD:∀b o,s2.heap.get? b=some o→b≠s2.heap.objs.size:=fun b o e=>Nat.ne_of_lt (Heap.lt_size e)
 have tk:∀b u,H' b=some u→b≠s2.heap.objs.size:=fun b u e z=>by rw[z,nD] at e;cases e
 have tC:∀b u,H' b=some u→b≠C:=fun b u e z=>by rw[z,nC] at e;cases e
 have fD:H2 s2.heap.objs.size=none:=I2.hok.fresh (Nat.le_refl _)
 have t2:∀b u,H2 b=some u→b≠s2.heap.objs.size:=fun b u e z=>by rw[z,fD] at e;cases e
 refine I2.call' (s':={s' with heap:=h'}) (ch:=fp) os ⟨fun b o e m hb hx=>?_,fun b o e m hb hx=>?_,fun b o e m hx=>?_,fun b o e hx=>?_,fun b xs e=>?_,fun b o u e=>?_,fun b ps e=>?_⟩ (fun b u e=>?_) bare fun b hb=>?_
 ·exact(hs.2 b (ltC b o e)).trans (un.keep b o e m hb hx)
 ·obtain⟨sl,q⟩:=un.slot b o e m hb hx
  exact⟨sl,(hs.2 b (ltC b o e)).trans q⟩
 ·rw[upd_ne (ltD b o e)]
  exact un.free b o e m hx
 ·obtain⟨o',q⟩:=un.there b o e hx
  exact⟨o',(hs.2 b (ltC b o e)).trans q⟩
 ·rw[upd_ne (t2 b _ e)]
  exact un.tups b xs e
 ·rw[upd_ne (t2 b _ e)]
  exact un.frzs b o u e
 ·obtain⟨mo,q⟩:=un.tbls b ps e
  exact⟨mo,by rw[upd_ne (t2 b _ e)];exact q⟩
 ·by_cases hb:b=s2.heap.objs.size
  ·subst hb
   rw[upd_same] at e
   cases e
   exact⟨sz,its,n,vl,(hs.2 _ (Nat.ne_of_lt hC)).trans hD⟩
  ·rw[upd_ne hb] at e
   exact(hok b u e).stay (fun c v hc q=>(hs.2 c (by
    rcases hc with rfl | hc
    ·exact tC _ _ e
    ·exact tC _ _ hc)).trans q) (fun c r=>by rw[upd_ne (tk _ _ r)];exact r) fun c xs r=>by rw[upd_ne (tk _ _ r)];exact r
 ·exact⟨(f2 b hb).2.2.2.1,(f2 b hb).2.1,(f2 b hb).2.2.2.2.1,(f2 b hb).2.2.2.2.2⟩
noncomputable def tComp (wi:TI) (g:TG) (tc:TT) (te:TE) (k:Nat) (fr:List Nat):TE:=fun σ H Q=>wi σ H fun J H1=>tBlock J g tc te (stC k fr σ) H1 fun ys H2=>∀D,H1 D=none→H2 D=none→Q (.ref D) (upd H2 D (.lst ys))
theorem pe_comp {elt target iter:Expr} {ifs:List Expr} {scope so:Scope} {pos:Pos} {wi:TI} {g:TG} {tc:TT} {te:TE} {k:Nat} {fr:List Nat} {N N':List Str} (hc:X.calm=true) (hN:X.N=N) (hso:X.env.scope=so) (S:CompScope N so N' scope k fr)
  (hi:PI X target iter wi) (hg:∀cl C s H ex,PG (cxC X N' scope cl C s H ex) target g) (ht:∀cl C s H ex,PTs (cxC X N' scope cl C s H ex) ifs tc) (he:∀cl C s H ex,PE (cxC X N' scope cl C s H ex) elt te)
  (hs:∀x,foldedSetIterable iter X.env x=pure x:=by intro _;rfl):PE X (.ListComp elt [⟨target,iter,ifs,0⟩] scope pos) (tComp wi g tc te k fr):=by
 subst hN hso
 intro pins s σ H Q I h
 rw[eval_ListComp]
 obtain⟨cl,hcl,c1,c2,c3⟩:=closureFor_of (env:=X.env) (scope:=scope) fun n hn=>I.ok.has n (S.outer _ hn rfl)
 refine wpAny_comprehension_free (use:=none) (cl:=cl) rfl hs hcl S.kind S.locs ?_
 refine thn (hi pins s σ H _ I h) fun v s1 h1=>thn h1 fun itv s2 h2=>?_
 obtain⟨it,fp,tn,J,H2,rfl,I2,T,st2,f2,hb⟩:=h2
 refine block_run (RR:=fun acc C=>compPost (model X.prog X.w) X.A X.xe none (EP X pins σ Q) acc C) hc S c1 c2 (fun x c m=>⟨x,(c3 x c m).1⟩) (fun x hx c m=>(S.cels _ hx rfl).2 (c3 x c m).2) (XE:=fun _ _ _ _ _ _ _=>False) hg ht he I2 T st2 f2 hb ?_ (fun _ _ _ _ _ z=>False.elim z)
 intro C s' m ys its n H' hC hn vl sz hD nD nC fin os bare un hok
 exact⟨m,hn,fun h' hs'=>⟨.ref _,_,comp_back I2 f2 hC vl sz hD nD nC os bare un hok hs',rfl,fin _ (I2.hok.fresh (Nat.le_refl _)) nD⟩⟩
theorem ps_setC {elt target iter:Expr} {ifs:List Expr} {scope so:Scope} {pos spos py:Pos} {wi:TI} {g:TG} {tc:TT} {te:TE} {k:Nat} {fr:List Nat} {N N':List Str} {y:Str} {i:Nat} (hc:X.calm=true) (hN:X.N.Nodup) (hy:X.N[i]?=some y) (hl:X.env.scope.names.lookup y=some .local)
  (hNN:X.N=N) (hso:X.env.scope=so) (S:CompScope N so N' scope k fr)
  (hi:PI X target iter wi) (hg:∀cl C s H ex,PG (cxC X N' scope cl C s H ex) target g) (ht:∀cl C s H ex,PTs (cxC X N' scope cl C s H ex) ifs tc) (he:∀cl C s H ex,PE (cxC X N' scope cl C s H ex) elt te)
  (hsw:swapsWith (.ListComp elt [⟨target,iter,ifs,0⟩] scope pos) (some (.Name y py)) spos.line X.env=pure true:=by rfl)
  (hs:∀x,foldedSetIterable iter X.env x=pure x:=by intro _;rfl):PS X (.Assign [.Name y py] (.ListComp elt [⟨target,iter,ifs,0⟩] scope pos) spos) (tAsg (tComp wi g tc te k fr) (gName i)):=by
 subst hNN hso
 intro pins s σ H D I h
 rw[exec_Assign_Name_used _ _ _ _ hsw]
 obtain⟨cl,hcl,c1,c2,c3⟩:=closureFor_of (env:=X.env) (scope:=scope) fun n hn=>I.ok.has n (S.outer _ hn rfl)
 refine wpAny_bind (wpAny_standAt (wpAny_bind ?_))
 show wpAny _ X.A (do let _ ←comprehension (.ListComp elt [⟨target,iter,ifs,0⟩] scope pos) scope X.env _ (newList []) false (eval iter X.env) (some (assign (.Name y py) X.env))) _ _ s
 refine wpAny_bind (wpAny_mono (wpAny_comprehension_free (use:=some (assign (.Name y py) X.env)) (Q:=fun _ s'=>SP X pins D .next s') (cl:=cl) rfl hs hcl S.kind S.locs ?_) (fun _ s' hq=>wpAny_pure (wpAny_pure hq)) fun _ _ e=>e)
 refine thn (hi pins s σ H _ I h) fun v s1 h1=>thn h1 fun itv s2 h2=>?_
 obtain⟨it,fp,tn,J,H2,rfl,I2,T,st2,f2,hb⟩:=h2
 refine block_run (RR:=fun acc C=>compPost (model X.prog X.w) X.A X.xe (some (assign (.Name y py) X.env)) (fun _ s'=>SP X pins D .next s') acc C) hc S c1 c2 (fun x c m=>⟨x,(c3 x c m).1⟩) (fun x hx c m=>(S.cels _ hx rfl).2 (c3 x c m).2) (XE:=fun _ _ _ _ _ _ _=>False) hg ht he I2 T st2 f2 hb ?_ (fun _ _ _ _ _ z=>False.elim z)
 intro C s' m ys its n H' hC hn vl sz hD nD nC fin os bare un hok
 have I3:Inv X pins σ (upd H' s2.heap.objs.size (.lst ys)) s':=comp_back (h':=s'.heap) I2 f2 hC vl sz hD nD nC os bare un hok (.refl ..)
 refine wpAny_assign_Name (store_ok2 (v:=.ref s2.heap.objs.size) I3 hN hy (.inl hl) rfl (fun s4 I4 ch=>?_) (.inr hl))
 have ltL:X.env.locals<s2.heap.objs.size:=I2.lt
 obtain⟨a,hsa,ha⟩:=ch
 have aC:a≠C:=by
  rcases ha with rfl | ha
  ·exact Nat.ne_of_lt (Nat.lt_trans ltL hC)
  ·obtain⟨v,q⟩:=I2.cell _ _ ha
   exact Nat.ne_of_lt (Nat.lt_trans q.lt hC)
 refine⟨m,hn.sameBut hsa (Ne.symm aC),fun h' hs'=>⟨_,_,?_,fin _ (I2.hok.fresh (Nat.le_refl _)) nD⟩⟩
 have nC4:(upd H' s2.heap.objs.size (.lst ys)) C=none:=by rw[upd_ne (Nat.ne_of_gt hC)];exact nC
 exact I4.turned (t':=s4.toks) (it:=C) (h':=h') (fun b o hb e=>(hs'.2 b hb).trans e) nC4 (Nat.ne_of_gt (Nat.lt_trans ltL hC)) (.inr (Nat.le_trans I2.sz (Nat.le_of_lt hC))) (fun x c e z=>by
  obtain⟨v,q⟩:=I2.cell x c e
  exact absurd (Nat.lt_trans q.lt hC) (by rw[z];exact Nat.lt_irrefl _)) (fun p hp z=>by
  have:=Heap.lt_size (I2.pin p hp).1
  rw[z] at this
  exact absurd (Nat.lt_trans this hC) (Nat.lt_irrefl _))
end
structure Src (J:It) (Ok:Hp→Prop) (n:Nat) (Item:Nat→V→Hp→Hp→Prop):Prop where
 go:∀i H,i<n→Ok H→J.go i H
 yld:∀i H x H3,i<n→Ok H→J.yld i H x H3→Item i x H H3
 stop:∀H,Ok H→J.stop n H
theorem src_list {K:PySem.W.Frag} {a:Addr} {xs:List V} {Ok:Hp→Prop} (h:∀H,Ok H→SqL K H a xs):Src (Itl K a) Ok xs.length (fun i x H H3=>H3=H∧xs[i]?=some x) where
 go:=fun i H hi ok=>⟨xs,xs[i],h H ok,by simp [hi]⟩
 yld:=fun i H x H3 hi ok ⟨e,y⟩=>⟨e,y xs (h H ok)⟩
 stop:=fun H ok=>⟨xs,h H ok,Nat.le_refl _⟩
theorem src_range {lo:Int} {n:Nat} {Ok:Hp→Prop}:Src (Itr lo n) Ok n (fun i x H H3=>H3=H∧x=.int (lo+i)) where
 go:=fun _ _ hi _=>hi
 yld:=fun _ _ _ _ _ _ y=>y
 stop:=fun _ _=>Nat.le_refl _
theorem block_src {J:It} {g:TG} {tc:TT} {te:TE} {σ0:St} {H1:Hp} {fin:List V→Hp→Prop} {n:Nat} {Item:Nat→V→Hp→Hp→Prop} (S:Src J (Same H1) n Item) (Own:St→Prop) (h0:Own σ0) (P:Nat→List V→Hp→Prop) (p0:P 0 [] H1) (hz:n≤sizeLine)
  (hs:∀i x σ H ys H3 (Q:St→V→Hp→Prop) (N:St→Hp→Prop),i<n→Same H1 H→P i ys H→ys.length≤i→Own σ→Item i x H H3→
   (∀σ3 y H6,Own σ3→Same H1 H6→P (i+1) (ys++ [y]) H6→Q σ3 y H6)→(∀σ3 H5,Own σ3→Same H1 H5→P (i+1) ys H5→N σ3 H5)→
   g x σ H3 fun σ3 H4=>tc σ3 H4 fun b H5=>if b=true then te σ3 H5 fun y H6=>Q σ3 y H6 else N σ3 H5)
  (hfin:∀ys H,Same H1 H→P n ys H→ys.length≤n→fin ys H):tBlock J g tc te σ0 H1 fin:=by
 refine⟨fun i m ys σ H=>m=n - i∧i≤n∧ys.length≤i∧Own σ∧Same H1 H∧P i ys H,⟨n,by simp,Nat.zero_le _,Nat.le_refl _,h0,Same.refl _,p0⟩,?_⟩
 rintro i m ys σ H ⟨rfl,hi,hl,ow,sm,p⟩
 by_cases hlt:i<n
 ·refine .inr ⟨S.go i H hlt sm,fun x H3 y=>hs i x σ H ys H3 (fun σ3 y H6=>ys.length<sizeLine∧∃m',m'<n - i∧m'=n - (i+1)∧i+1≤n∧(ys++ [y]).length≤i+1∧Own σ3∧Same H1 H6∧P (i+1) (ys++ [y]) H6)
   (fun σ3 H5=>∃m',m'<n - i∧m'=n - (i+1)∧i+1≤n∧ys.length≤i+1∧Own σ3∧Same H1 H5∧P (i+1) ys H5) hlt sm p hl ow (S.yld i H x H3 hlt sm y) (fun σ3 y H6 o s6 q=>?_) (fun σ3 H5 o s5 q=>?_)⟩
  ·exact⟨by omega,n - (i+1),by omega,rfl,hlt,by rw[List.length_append,List.length_singleton];omega,o,s6,q⟩
  ·exact⟨n - (i+1),by omega,rfl,hlt,by omega,o,s5,q⟩
 ·have e:i=n:=by omega
  subst e
  exact .inl ⟨S.stop H sm,hfin ys H sm p hl⟩
theorem comp_map {J:It} {te:TE} {tl:St} {H1:Hp} {fin:List V→Hp→Prop} {n:Nat} {Item:Nat→V→Hp→Hp→Prop} (S:Src J (Same H1) n Item) (sub:∀i x H H3,Item i x H H3→Same H H3) (hz:n≤sizeLine)
  (R:Nat→V→Hp→Prop) (mono:∀i y H H',Same H H'→R i y H→R i y H')
  (hs:∀i x w H H3 (Q:VK),i<n→Same H1 H→Item i x H H3→(∀y H6,Same H3 H6→R i y H6→Q y H6)→te ((w::tl).set 0 (some x)) H3 Q)
  (hfin:∀ys H,Same H1 H→ys.length=n→(∀i y,ys[i]?=some y→R i y H)→fin ys H):tBlock J (gName 0) tYes te (none::tl) H1 fin:=by
 refine⟨fun i m ys σ H=>m=n - i∧i≤n∧ys.length=i∧(∃w,σ=w::tl)∧Same H1 H∧∀j y,ys[j]?=some y→R j y H,⟨n,by simp,Nat.zero_le _,rfl,⟨_,rfl⟩,Same.refl _,fun j y e=>by simp at e⟩,?_⟩
 rintro i m ys σ H ⟨rfl,hi,hl,⟨w,rfl⟩,sm,p⟩
 by_cases hlt:i<n
 ·refine .inr ⟨S.go i H hlt sm,fun x H3 y=>?_⟩
  have it:=S.yld i H x H3 hlt sm y
  have s3:=sub i x H H3 it
  unfold gName tYes
  refine iteT ?_
  refine hs i x w H H3 _ hlt sm it fun y H6 s6 r=>⟨by omega,n - (i+1),by omega,rfl,hlt,by rw[List.length_append,List.length_singleton];omega,⟨_,rfl⟩,sm.trans (s3.trans s6),fun j z e=>?_⟩
  by_cases hj:j<i
  ·rw[List.getElem?_append_left (by omega)] at e
   exact mono j z _ _ (s3.trans s6) (p j z e)
  ·rw[List.getElem?_append_right (by omega)] at e
   have e2:j - ys.length=0:=by
    by_cases q:j - ys.length=0
    ·exact q
    ·rw[List.getElem?_eq_none (by simp;omega)] at e;cases e
   rw[e2] at e
   simp at e
   subst e
   have:j=i:=by omega
   subst this
   exact r
 ·have e:i=n:=by omega
  subst e
  exact .inl ⟨S.stop H sm,hfin ys H sm hl p⟩
noncomputable def tForB (J:It) (g:TG) (tb:TS) (D:Ends) (σ:St) (H:Hp):Prop:=
 ∃W:Nat→Nat→St→Hp→Prop,(∃m,W 0 m σ H)∧∀i m σ H,W i m σ H→
  (J.stop i H∧D.nx σ H)∨(J.go i H∧∃N:St→Hp→Prop,(∀σ' H',N σ' H'→∃m',m'<m∧W (i+1) m' σ' H')∧∀x H',J.yld i H x H'→g x σ H' fun σ2 H2=>tb {D with nx:=N,ct:=N,bk:=D.nx} σ2 H2)
theorem tFor_eq {wi:TI} {g:TG} {tb:TS} {D:Ends} {σ:St} {H:Hp}:tFor wi g tb D σ H=wi σ H fun J H1=>tForB J g tb D σ H1:=rfl
theorem for_src {J:It} {g:TG} {tb:TS} {D:Ends} {σ:St} {H:Hp} {n:Nat} {Item:Nat→V→Hp→Hp→Prop} {Ok:Hp→Prop} (S:Src J Ok n Item) (Pv:Nat→St→Hp→Prop) (h0:Pv 0 σ H) (hok:∀i σ H,i≤n→Pv i σ H→Ok H)
  (hs:∀i x σ H H3,i<n→Pv i σ H→Item i x H H3→g x σ H3 fun σ2 H2=>tb {D with nx:=Pv (i+1),ct:=Pv (i+1),bk:=D.nx} σ2 H2) (hd:∀σ H,Pv n σ H→D.nx σ H):tForB J g tb D σ H:=by
 refine⟨fun i m σ H=>m=n - i∧i≤n∧Pv i σ H,⟨n,by simp,Nat.zero_le _,h0⟩,?_⟩
 rintro i m σ H ⟨rfl,hi,p⟩
 by_cases hlt:i<n
 ·exact .inr ⟨S.go i H hlt (hok i σ H hi p),Pv (i+1),fun σ' H' p'=>⟨n - (i+1),by omega,rfl,hlt,p'⟩,fun x H' y=>hs i x σ H H' hlt p (S.yld i H x H' hlt (hok i σ H hi p) y)⟩
 ·have e:i=n:=by omega
  subst e
  exact .inl ⟨S.stop H (hok i σ H hi p),hd σ H p⟩
end L2
namespace L2
open PySem PySem.Spec PyProof.Rows
section
variable {X : Cx} {pins : List (Addr × Obj)} {σ : St} {H : Hp} {s : Shared}
theorem Inv.moved {h':Heap} {t':Nat} {ch:List Addr} (I:Inv X pins σ H s) (f:∀b∈ch,FpOk X pins H b) (k:∀b o,b∉ch→s.heap.get? b=some o→h'.get? b=some o):Inv X pins σ H {s with heap:=h',toks:=t'}:=by
 have nch:∀b u,H b=some u→b∉ch:=fun b u e z=>by rw[(f b z).1] at e;cases e
 refine I.step (g':=s.gens) (d':=s.drawn) (ch:=ch) (fun b hb=>⟨(f b hb).2.2.2.1,(f b hb).2.1,(f b hb).2.2.2.2.1,(f b hb).2.2.2.2.2⟩) (fun b o _ _ hc e _=>k b o hc e) (fun b o _ _ hc e _=>⟨o.slots,k b o hc e⟩) (fun _ _ _ _ n=>n)
  (fun b o hc e=>⟨o,k b o hc e⟩) (fun _ _ e=>e) (fun _ _ _ e=>e) (fun b ps e=>⟨#[],by rw[e];simp⟩) (fun m hm=>?_) (fun b u e=>?_) I.bare
 ·obtain⟨o,es,ep,ho,r⟩:=hm
  exact⟨o,es,ep,k _ o (fun z=>(f _ z).2.1 rfl) ho,r⟩
 ·refine(I.hok b u e).stay (fun c v hc q=>k c v ?_ q) (fun _ q=>q) fun _ _ q=>q
  rcases hc with z | z
  ·rw[z];exact nch b u e
  ·exact nch c _ z
theorem Inv.take {ad:Addr} {o:HO} (I:Inv X pins σ H s) (f:FpOk X pins H ad) (new:X.s₀.heap.objs.size≤ad) (ok:ObjOk X.prog X.w (upd H ad o) s.heap ad o):Inv X pins σ (upd H ad o) s:=by
 obtain⟨hn,nL,nf,_,nc,np⟩:=f
 have tk:∀b u,H b=some u→b≠ad:=fun b u e z=>by rw[z,hn] at e;cases e
 refine⟨I.ok,I.os,I.bare,⟨I.base.keep,I.base.slot,fun b ob e m hx=>?_,I.base.there,fun b xs e=>?_,fun b ob u e=>?_,fun b ps e=>?_⟩,I.loc,I.cell,?_,fun x c e=>?_,fun p hp=>?_,fun b u e=>?_,I.len⟩
 ·rw[upd_ne (Nat.ne_of_lt (Nat.lt_of_lt_of_le (Heap.lt_size e) new))]
  exact I.base.free b ob e m hx
 ·have q:=I.base.tups b xs e
  rw[upd_ne (tk b _ q)];exact q
 ·have q:=I.base.frzs b ob u e
  rw[upd_ne (tk b _ q)];exact q
 ·obtain⟨mo,q⟩:=I.base.tbls b ps e
  exact⟨mo,by rw[upd_ne (tk b _ q)];exact q⟩
 ·rw[upd_ne (Ne.symm nL)];exact I.free
 ·rw[upd_ne (nc x c e)];exact I.freeC x c e
 ·obtain⟨a,b,c⟩:=I.pin p hp
  exact⟨a,by rw[upd_ne (np p hp)];exact b,c⟩
 ·by_cases hb:b=ad
  ·subst hb
   rw[upd_same] at e
   cases e
   exact ok
  ·rw[upd_ne hb] at e
   exact(I.hok b u e).stay (fun _ _ _ q=>q) (fun c r=>by rw[upd_ne (tk _ _ r)];exact r) fun c xs r=>by rw[upd_ne (tk _ _ r)];exact r
end
noncomputable def Itz (K:PySem.W.Frag) (a b:Addr):It:=
 ⟨fun i H=>∃xs ys x y,SqL K H a xs∧SqL K H b ys∧xs[i]?=some x∧ys[i]?=some y,
  fun i H v H'=>∃p,H p=none∧v=.ref p∧∃x y,(∀xs,SqL K H a xs→xs[i]?=some x)∧(∀ys,SqL K H b ys→ys[i]?=some y)∧H'=upd H p (.tup [x,y]),
  fun i H=>∃xs ys,SqL K H a xs∧SqL K H b ys∧(i=min xs.length ys.length)⟩
noncomputable def Ite (K:PySem.W.Frag) (a:Addr):It:=
 ⟨fun i H=>∃xs x,SqL K H a xs∧xs[i]?=some x,
  fun i H v H'=>∃p,H p=none∧v=.ref p∧∃x,(∀xs,SqL K H a xs→xs[i]?=some x)∧H'=upd H p (.tup [.int i,x]),
  fun i H=>∃xs,SqL K H a xs∧xs.length=i⟩
theorem turn_enum {P:Program} {w:World} {K:PySem.W.Frag} {elts:List Expr} {k:Nat} {pos:Pos} (e it a:Addr) (hei:e≠it) (hle:a≠e) (hli:a≠it):
  Turn P w K (.Tuple elts k pos) (Ite K a) [e,it] e (fun i h=>(∃old,IsEnum h e it i old)∧h.IsListIter it a i) where
 mem:=by simp
 obj:=fun i h st c hc=>by
  obtain⟨⟨old,he⟩,⟨o1,e1,_,d1⟩⟩:=st
  simp only[List.mem_cons,List.not_mem_nil,or_false] at hc
  rcases hc with rfl | rfl
  ·exact⟨_,he,fun v q=>by cases q⟩
  ·exact⟨_,e1,fun v q=>by rw[d1] at q;cases q⟩
 keep:=fun i h h' st kp=>by
  obtain⟨⟨old,he⟩,h1⟩:=st
  exact⟨⟨old,kp e (by simp) _ he⟩,h1.at fun o q=>kp it (by simp) o q⟩
 item:=by
  intro X hP hw hK hc i pins s σ H E I hf st hg
  subst hP hw hK
  obtain⟨xs,x,hq1,hx⟩:=hg
  obtain⟨its1,r1,p1,z1⟩:=I.list hq1
  obtain⟨u,eu,ru⟩:=r1.get hx
  obtain⟨he,h1⟩:=st
  have W:=WalksT.enumerate (prog:=X.prog) (w:=X.w) (I.ok.hd hc) e it a hei hle hli its1.toArray
  have li:i<its1.toArray.size:=by
   have a1:=(List.getElem?_eq_some_iff.mp eu).1
   simp only[List.size_toArray]
   omega
  refine W.item i s _ _ li ⟨he,h1,p1.isList⟩ fun T vals h' tk hpt hT hI hm kk=>?_
  have I1:Inv X pins σ H {s with heap:=h',toks:=tk}:=I.moved (ch:=[e,it]) hf kk
  have fT:FpOk X pins H T:=I.fpOk hT (I.hok.fresh hT)
  refine⟨_,rfl,W.go elts k pos i T _ _ _ hm fun h2' st2 kk2=>?_⟩
  have I2:Inv X pins σ H {s with heap:=h2',toks:=tk}:=I1.moved (s:={s with heap:=h',toks:=tk}) (t':=tk) (ch:=[e,it]) hf kk2
  obtain⟨t,x',ex,rfl⟩:=hpt
  have ex':its1[i]?=some x':=by simpa using ex
  rw[eu] at ex';cases ex'
  have apT:=W.apart _ _ _ hm
  obtain⟨oT,eT,cT,nT,dT⟩:=hI
  have hI2:IsTup h2' T #[.int i t,u]:=⟨oT,kk2 _ _ apT eT,cT,nT,dT⟩
  have I3:Inv X pins σ (upd H T (.tup [.int i,x])) {s with heap:=h2',toks:=tk}:=
   I2.take fT (Nat.le_trans I.sz hT) ⟨by show 2≤sizeLine;decide,[.int i t,u],.cons ⟨t,rfl⟩ (.cons ru .nil),hI2⟩
  obtain⟨b1,b2,_⟩:=st2
  refine⟨.ref T,_,I3,rfl,⟨T,fT.1,rfl,x,fun xs' q=>?_,rfl⟩,⟨b1,b2⟩,fun c hc=>?_⟩
  ·rw[I.list_inj q hq1];exact hx
  ·rw[upd_ne (fun q=>?_)]
   ·exact(hf c hc).1
   ·subst q
    obtain⟨o,e,_⟩:∃o,s.heap.get? c=some o∧True:=by
     simp only[List.mem_cons,List.not_mem_nil,or_false] at hc
     obtain⟨old,he⟩:=he
     obtain⟨o1,e1,_⟩:=h1
     rcases hc with rfl | rfl
     ·exact⟨_,he,trivial⟩
     ·exact⟨_,e1,trivial⟩
    exact absurd (Heap.lt_size e) (Nat.not_lt.mpr hT)
 done:=by
  intro X hP hw hK hc i pins s σ H E I hf st hg
  subst hP hw hK
  obtain⟨xs,hq1,hi⟩:=hg
  obtain⟨its1,r1,p1,z1⟩:=I.list hq1
  obtain⟨he,h1⟩:=st
  have W:=WalksT.enumerate (prog:=X.prog) (w:=X.w) (I.ok.hd hc) e it a hei hle hli its1.toArray
  have l1:=r1.length
  have e:i=its1.toArray.size:=by simp only[List.size_toArray];omega
  subst e
  exact W.done s _ _ ⟨he,h1,p1.isList⟩ fun h' tk kk=>⟨rfl,I.moved (ch:=[_,it]) hf kk⟩
 self:=fun _ _ _ _ _ st h=>by
  obtain⟨⟨old,he⟩,_⟩:=st
  exact wpAny_pyIter_enum he h
section
variable {X : Cx} {elts : List Expr} {kk : Nat} {tpos : Pos}
noncomputable def iZip (K:PySem.W.Frag) (ta:TA):TI:=fun σ H R=>ta σ H fun vs H1=>∃a b,vs=[.ref a,.ref b]∧(∃xs,SqL K H1 a xs)∧(∃ys,SqL K H1 b ys)∧R (Itz K a b) H1
noncomputable def iEnum (K:PySem.W.Frag) (ta:TA):TI:=fun σ H R=>ta σ H fun vs H1=>∃a,vs=[.ref a]∧(∃xs,SqL K H1 a xs)∧R (Ite K a) H1
theorem pi_enumerate {a:Expr} {ta:TA} {p pos:Pos} (hg:Gl X "enumerate") (hm:X.mg "enumerate"=none) (ha:PA X [a] ta) (hs:starEach [a] X.env=[(false,eval a X.env)]:=by rfl):
  PI X (.Tuple elts kk tpos) (.Call (.Name "enumerate" p) [a] [] pos) (iEnum X.K ta):=by
 intro pins s σ H R I h
 refine Call_ (ld_blt I hg hm rfl (PyProof.Rows.callWith_type1 (thn (ha pos pins s σ H _ I h) fun us s1 hh_=>?_) hs rfl))
 obtain⟨vs,H1,I1,r1,q1⟩:=hh_
 obtain⟨a,e,⟨xs,q1⟩,q⟩:=q1
 subst e
 obtain⟨u,rfl,ra⟩:=vals1 r1
 cases ra
 obtain⟨its1,v1,p1,z1⟩:=I1.list q1
 refine call_enumerate_list p1.isList fun h' b1 b2 b3 kp=>?_
 refine wpAny_pyIter_enum b1 ?_
 have I2:Inv X pins σ H1 {s1 with heap:=h'}:=I1.kept (t':=s1.toks) kp
 have la:a<s1.heap.objs.size:=by obtain⟨o,e,_⟩:=p1.isList;exact Heap.lt_size e
 refine⟨s1.heap.objs.size+1,[s1.heap.objs.size+1,s1.heap.objs.size],_,_,H1,rfl,I2,
  turn_enum (s1.heap.objs.size+1) s1.heap.objs.size a (Nat.ne_of_gt (Nat.lt_succ_self _)) (Nat.ne_of_lt (Nat.lt_succ_of_lt la)) (Nat.ne_of_lt la),⟨⟨_,b1⟩,b2⟩,fun c hc=>?_,q⟩
 have hge:s1.heap.objs.size≤c:=by
  simp only[List.mem_cons,List.not_mem_nil,or_false] at hc
  rcases hc with rfl | rfl <;>omega
 exact I1.fpOk hge (I1.hok.fresh hge)
end
theorem src_enum {K:PySem.W.Frag} {a:Addr} {xs:List V} {Ok:Hp→Prop} (h1:∀H,Ok H→SqL K H a xs):
  Src (Ite K a) Ok xs.length (fun i v H H3=>∃p x,H p=none∧v=.ref p∧xs[i]?=some x∧H3=upd H p (.tup [.int i,x])) where
 go:=fun i H hi ok=>⟨xs,xs[i],h1 H ok,by simp [hi]⟩
 yld:=fun i H x H3 hi ok ⟨p,n,e,u,e1,e3⟩=>⟨p,u,n,e,e1 xs (h1 H ok),e3⟩
 stop:=fun H ok=>⟨xs,h1 H ok,rfl⟩
end L2
namespace L2
open PySem PySem.Spec PyProof.Rows
inductive Dat where
 | non | bl (b:Bool) | int (i:Int) | str (x:Str) | tup (l:List Dat) | lst (l:List Dat)
mutual
noncomputable def Rep (H:Hp):Dat→V→Prop
 | .non,v=>v=.non
 | .bl b,v=>v=.bl b
 | .int i,v=>v=.int i
 | .str x,v=>v=.str x
 | .tup ds,v=>∃p vs,v=.ref p∧H p=some (.tup vs)∧RepL H ds vs
 | .lst ds,v=>∃p vs,v=.ref p∧H p=some (.lst vs)∧RepL H ds vs
noncomputable def RepL (H:Hp):List Dat→List V→Prop
 | [],vs=>vs=[]
 | d::ds,vs=>∃v r,vs=v::r∧Rep H d v∧RepL H ds r
end
mutual
theorem Rep.mono {H H':Hp} (s:Same H H'):∀{d:Dat} {v:V},Rep H d v→Rep H' d v
 | .non,_,h=>by rw[Rep] at *;exact h
 | .bl _,_,h=>by rw[Rep] at *;exact h
 | .int _,_,h=>by rw[Rep] at *;exact h
 | .str _,_,h=>by rw[Rep] at *;exact h
 | .tup _,_,h=>by
  rw[Rep] at *
  obtain⟨p,vs,e,hp,r⟩:=h
  exact⟨p,vs,e,s _ _ hp,RepL.mono s r⟩
 | .lst _,_,h=>by
  rw[Rep] at *
  obtain⟨p,vs,e,hp,r⟩:=h
  exact⟨p,vs,e,s _ _ hp,RepL.mono s r⟩
theorem RepL.mono {H H':Hp} (s:Same H H'):∀{ds:List Dat} {vs:List V},RepL H ds vs→RepL H' ds vs
 | [],_,h=>by rw[RepL] at *;exact h
 | _::_,_,h=>by
  rw[RepL] at *
  obtain⟨v,r,e,h1,h2⟩:=h
  exact⟨v,r,e,Rep.mono s h1,RepL.mono s h2⟩
end
theorem RepL.length {H:Hp}:∀{ds:List Dat} {vs:List V},RepL H ds vs→ds.length=vs.length
 | [],_,h=>by rw[RepL] at h;subst h;rfl
 | _::_,_,h=>by
  rw[RepL] at h
  obtain⟨v,r,rfl,_,h2⟩:=h
  simp [h2.length]
theorem RepL.get {H:Hp}:∀{ds:List Dat} {vs:List V} {i:Nat} {v:V},RepL H ds vs→vs[i]?=some v→∃d,ds[i]?=some d∧Rep H d v
 | [],_,i,v,h,e=>by rw[RepL] at h;subst h;simp at e
 | d::ds,_,i,v,h,e=>by
  rw[RepL] at h
  obtain⟨v',r,rfl,h1,h2⟩:=h
  cases i with
  | zero=>simp at e;subst e;exact⟨d,rfl,h1⟩
  | succ i=>simp at e;obtain⟨d',e',r'⟩:=h2.get e;exact⟨d',by simpa using e',r'⟩
theorem RepL.at {H:Hp}:∀{ds:List Dat} {vs:List V} {i:Nat} {d:Dat},RepL H ds vs→ds[i]?=some d→∃v,vs[i]?=some v∧Rep H d v
 | [],_,i,v,h,e=>by simp at e
 | d::ds,_,i,d',h,e=>by
  rw[RepL] at h
  obtain⟨v',r,rfl,h1,h2⟩:=h
  cases i with
  | zero=>simp at e;subst e;exact⟨v',rfl,h1⟩
  | succ i=>simp at e;obtain⟨v,e',r'⟩:=h2.at e;exact⟨v,by simpa using e',r'⟩
theorem RepL.of {H:Hp}:∀{ds:List Dat} {vs:List V},ds.length=vs.length→(∀(i:Nat) d v,ds[i]?=some d→vs[i]?=some v→Rep H d v)→RepL H ds vs
 | [],[],_,_=>by rw[RepL]
 | [],_::_,h,_=>by simp at h
 | _::_,[],h,_=>by simp at h
 | d::ds,v::vs,h,k=>by
  rw[RepL]
  exact⟨v,vs,rfl,k 0 d v rfl rfl,RepL.of (by simpa using h) fun i d' v' e1 e2=>k (i+1) d' v' (by simpa using e1) (by simpa using e2)⟩
noncomputable def depth:Dat→Nat
 | .tup l=>1+dL l
 | .lst l=>1+dL l
 | _=>0
where dL:List Dat→Nat
 | []=>0
 | d::ds=>max (depth d) (dL ds)
theorem depth_mem {d:Dat}:∀{ds:List Dat},d∈ds→depth d≤depth.dL ds
 | e::ds,h=>by
  rw[depth.dL]
  rcases List.mem_cons.mp h with rfl | h
  ·exact Nat.le_max_left _ _
  ·exact Nat.le_trans (depth_mem h) (Nat.le_max_right _ _)
section
variable {X : Cx} {pins : List (Addr × Obj)} {σ : St} {H : Hp} {s : Shared}
theorem all_true (n:Nat):((List.range n).all fun _=>true)=true:=by simp
theorem eqAt_D (I:Inv X pins σ H s):∀(n:Nat) (d:Dat),depth d≤n→∀(v v':V) (u u':Value) (A:Around),Rep H d v→Rep H d v'→RelV v u→RelV v' u'→A.units+n<cLine→SeqAt.EqAt A s u u' true:=by
 intro n
 induction n with
 | zero=>
  intro d hd v v' u u' A h h' r r' hu
  cases d with
  | non=>rw[Rep] at h h';subst h h';cases r;cases r';exact SeqAt.EqAt.same _
  | bl b=>rw[Rep] at h h';subst h h';cases r;cases r';exact SeqAt.EqAt.same _
  | int i=>rw[Rep] at h h';subst h h';obtain⟨t,rfl⟩:=r;obtain⟨t',rfl⟩:=r';have:=SeqAt.EqAt.int_int (A:=A) (s:=s) i t i t';simpa using this
  | str x=>rw[Rep] at h h';subst h h';obtain⟨t,rfl⟩:=r;obtain⟨t',rfl⟩:=r';have:=SeqAt.EqAt.str_str (A:=A) (s:=s) x t x t';simpa using this
  | tup l=>rw[depth] at hd;omega
  | lst l=>rw[depth] at hd;omega
 | succ n ih=>
  intro d hd v v' u u' A h h' r r' hu
  cases d with
  | non=>rw[Rep] at h h';subst h h';cases r;cases r';exact SeqAt.EqAt.same _
  | bl b=>rw[Rep] at h h';subst h h';cases r;cases r';exact SeqAt.EqAt.same _
  | int i=>rw[Rep] at h h';subst h h';obtain⟨t,rfl⟩:=r;obtain⟨t',rfl⟩:=r';have:=SeqAt.EqAt.int_int (A:=A) (s:=s) i t i t';simpa using this
  | str x=>rw[Rep] at h h';subst h h';obtain⟨t,rfl⟩:=r;obtain⟨t',rfl⟩:=r';have:=SeqAt.EqAt.str_str (A:=A) (s:=s) x t x t';simpa using this
  | tup l=>
   rw[Rep] at h h'
   obtain⟨p,vs,rfl,hp,rl⟩:=h
   obtain⟨p',vs',rfl,hp',rl'⟩:=h'
   cases r
   cases r'
   rw[depth] at hd
   by_cases hpp:p=p'
   ·subst hpp;exact SeqAt.EqAt.same _
   obtain⟨its,rv,pl,hz⟩:=I.tuple (SqT.of hp)
   obtain⟨its',rv',pl',hz'⟩:=I.tuple (SqT.of hp')
   have e1:=rl.length
   have e2:=rl'.length
   have l1:=rv.length
   have l2:=rv'.length
   have R:=SeqAt.RcAt.tuples (A:=A) (e:=fun _=>true) pl pl' (by omega) (fun j h1 h2=>?_)
   ·simp only[List.size_toArray,all_true,Bool.true_and] at R
    rw[show(its.length==its'.length)=true by simp;omega] at R
    exact .of_refs hpp R
   ·rw[List.size_toArray] at h1 h2
    obtain⟨d,ed⟩:∃d,l[j]?=some d:=⟨l[j]'(by omega),by simp⟩
    obtain⟨v1,f1,q1⟩:=rl.at ed
    obtain⟨v2,f2,q2⟩:=rl'.at ed
    obtain⟨u1,g1,w1⟩:=rv.get f1
    obtain⟨u2,g2,w2⟩:=rv'.get f2
    have a1:its.toArray[j]=u1:=by simpa [List.getElem?_eq_getElem h1] using g1
    have a2:its'.toArray[j]=u2:=by simpa [List.getElem?_eq_getElem h2] using g2
    rw[a1,a2]
    have:=depth_mem (List.mem_of_getElem? ed)
    exact ih d (by omega) v1 v2 u1 u2 A.in1 q1 q2 w1 w2 (by show A.units+1+n<cLine;omega)
  | lst l=>
   rw[Rep] at h h'
   obtain⟨p,vs,rfl,hp,rl⟩:=h
   obtain⟨p',vs',rfl,hp',rl'⟩:=h'
   cases r
   cases r'
   rw[depth] at hd
   by_cases hpp:p=p'
   ·subst hpp;exact SeqAt.EqAt.same _
   obtain⟨its,rv,pl,hz⟩:=I.list (SqL.of hp)
   obtain⟨its',rv',pl',hz'⟩:=I.list (SqL.of hp')
   have e1:=rl.length
   have e2:=rl'.length
   have l1:=rv.length
   have l2:=rv'.length
   have R:=SeqAt.RcAt.lists (A:=A) (e:=fun _=>true) pl.isList pl'.isList (by simp only[List.size_toArray];omega) (by omega) (fun j h1 h2=>?_)
   ·rw[all_true] at R
    exact .of_refs hpp R
   ·rw[List.size_toArray] at h1 h2
    obtain⟨d,ed⟩:∃d,l[j]?=some d:=⟨l[j]'(by omega),by simp⟩
    obtain⟨v1,f1,q1⟩:=rl.at ed
    obtain⟨v2,f2,q2⟩:=rl'.at ed
    obtain⟨u1,g1,w1⟩:=rv.get f1
    obtain⟨u2,g2,w2⟩:=rv'.get f2
    have a1:its.toArray[j]=u1:=by simpa [List.getElem?_eq_getElem h1] using g1
    have a2:its'.toArray[j]=u2:=by simpa [List.getElem?_eq_getElem h2] using g2
    rw[a1,a2]
    have:=depth_mem (List.mem_of_getElem? ed)
    exact ih d (by omega) v1 v2 u1 u2 A.in1 q1 q2 w1 w2 (by show A.units+1+n<cLine;omega)
end
section
variable {X : Cx}
noncomputable def rEqD (b:Bool):R2:=fun x y H Q=>∃d,Rep H d x∧Rep H d y∧(∃p,x=.ref p)∧depth d≤40∧Q (.bl b) H
theorem seqs_D {pins:List (Addr×Obj)} {σ:St} {H:Hp} {s:Shared} {d:Dat} {p p':Addr} (I:Inv X pins σ H s) (hu:X.A.units+64<cLine) (h:Rep H d (.ref p)) (h':Rep H d (.ref p')) (hd:depth d≤40):
  (∃its its':List Value,IsTup s.heap p its.toArray∧IsTup s.heap p' its'.toArray∧its.length=its'.length∧∀j (h1:j<its.toArray.size) (h2:j<its'.toArray.size),SeqAt.EqAt X.A.in1 s its.toArray[j] its'.toArray[j] true)∨
  (∃its its':List Value,s.heap.IsList p its.toArray∧s.heap.IsList p' its'.toArray∧its.length=its'.length∧∀j (h1:j<its.toArray.size) (h2:j<its'.toArray.size),SeqAt.EqAt X.A.in1 s its.toArray[j] its'.toArray[j] true):=by
 cases d with
 | non=>rw[Rep] at h;cases h
 | bl b=>rw[Rep] at h;cases h
 | int i=>rw[Rep] at h;cases h
 | str x=>rw[Rep] at h;cases h
 | tup l=>
  left
  rw[Rep] at h h'
  obtain⟨_,vs,e,hp,rl⟩:=h
  cases e
  obtain⟨_,vs',e,hp',rl'⟩:=h'
  cases e
  rw[depth] at hd
  obtain⟨its,rv,pl,hz⟩:=I.tuple (SqT.of hp)
  obtain⟨its',rv',pl',hz'⟩:=I.tuple (SqT.of hp')
  have e1:=rl.length
  have e2:=rl'.length
  have l1:=rv.length
  have l2:=rv'.length
  refine⟨its,its',pl,pl',by omega,fun j h1 h2=>?_⟩
  rw[List.size_toArray] at h1 h2
  obtain⟨d,ed⟩:∃d,l[j]?=some d:=⟨l[j]'(by omega),by simp⟩
  obtain⟨v1,f1,q1⟩:=rl.at ed
  obtain⟨v2,f2,q2⟩:=rl'.at ed
  obtain⟨u1,g1,w1⟩:=rv.get f1
  obtain⟨u2,g2,w2⟩:=rv'.get f2
  have a1:its.toArray[j]=u1:=by simpa [List.getElem?_eq_getElem h1] using g1
  have a2:its'.toArray[j]=u2:=by simpa [List.getElem?_eq_getElem h2] using g2
  rw[a1,a2]
  have:=depth_mem (List.mem_of_getElem? ed)
  exact eqAt_D I 40 d (by omega) v1 v2 u1 u2 X.A.in1 q1 q2 w1 w2 (by show X.A.units+1+40<cLine;omega)
 | lst l=>
  right
  rw[Rep] at h h'
  obtain⟨_,vs,e,hp,rl⟩:=h
  cases e
  obtain⟨_,vs',e,hp',rl'⟩:=h'
  cases e
  rw[depth] at hd
  obtain⟨its,rv,pl,hz⟩:=I.list (SqL.of hp)
  obtain⟨its',rv',pl',hz'⟩:=I.list (SqL.of hp')
  have e1:=rl.length
  have e2:=rl'.length
  have l1:=rv.length
  have l2:=rv'.length
  refine⟨its,its',pl.isList,pl'.isList,by omega,fun j h1 h2=>?_⟩
  rw[List.size_toArray] at h1 h2
  obtain⟨d,ed⟩:∃d,l[j]?=some d:=⟨l[j]'(by omega),by simp⟩
  obtain⟨v1,f1,q1⟩:=rl.at ed
  obtain⟨v2,f2,q2⟩:=rl'.at ed
  obtain⟨u1,g1,w1⟩:=rv.get f1
  obtain⟨u2,g2,w2⟩:=rv'.get f2
  have a1:its.toArray[j]=u1:=by simpa [List.getElem?_eq_getElem h1] using g1
  have a2:its'.toArray[j]=u2:=by simpa [List.getElem?_eq_getElem h2] using g2
  rw[a1,a2]
  have:=depth_mem (List.mem_of_getElem? ed)
  exact eqAt_D I 40 d (by omega) v1 v2 u1 u2 X.A.in1 q1 q2 w1 w2 (by show X.A.units+1+40<cLine;omega)
theorem op_neD (hu:X.A.units+64<cLine):OpR X (compareOp .NotEq) (rEqD false):=by
 intro pins s σ H x y v u Q I rx ry h
 obtain⟨d,h1,h2,⟨p,rfl⟩,hd,q⟩:=h
 obtain⟨p',rfl⟩:∃p',y=.ref p':=by
  cases d with
  | non=>rw[Rep] at h1;cases h1
  | bl b=>rw[Rep] at h1;cases h1
  | int i=>rw[Rep] at h1;cases h1
  | str x=>rw[Rep] at h1;cases h1
  | tup l=>rw[Rep] at h2;obtain⟨p',_,e,_⟩:=h2;exact⟨p',e⟩
  | lst l=>rw[Rep] at h2;obtain⟨p',_,e,_⟩:=h2;exact⟨p',e⟩
 cases rx
 cases ry
 rcases seqs_D I hu h1 h2 hd with ⟨its,its',a,b,e,k⟩ | ⟨its,its',a,b,e,k⟩
 ·refine SeqAt.RcNeAt.tuples (A:=X.A) (e:=fun _=>true) a b (by omega) k X.prog X.w X.xe _ ⟨.bl false,H,I,?_,q⟩
  show Value.bool _=Value.bool false
  rw[all_true,List.size_toArray,List.size_toArray,e]
  simp
 ·refine SeqAt.RcNeAt.lists (A:=X.A) (e:=fun _=>true) a b (by simp only[List.size_toArray];exact e) (by omega) k X.prog X.w X.xe _ ⟨.bl false,H,I,?_,q⟩
  show Value.bool _=Value.bool false
  rw[all_true]
  rfl
noncomputable def rNeT:R2:=fun x y H Q=>∃p q xs ys,x=.ref p∧y=.ref q∧H p=some (.tup xs)∧H q=some (.tup ys)∧xs.all flatV=true∧ys.all flatV=true∧Q (.bl (!eqL xs ys)) H
end
end L2
namespace Nm
noncomputable def ins (x:Int):List Int→List Int
 | []=>[x]
 | y::r=>if x≤y then x::y::r else y::ins x r
noncomputable def srt:List Int→List Int
 | []=>[]
 | x::r=>ins x (srt r)
theorem ins_perm (x:Int):∀l,(ins x l).Perm (x::l)
 | []=>.refl _
 | y::r=>by
  unfold ins
  split
  ·exact .refl _
  ·exact((ins_perm x r).cons y).trans (.swap ..)
theorem srt_perm:∀l,(srt l).Perm l
 | []=>.refl _
 | x::r=>(ins_perm x _).trans ((srt_perm r).cons x)
set_option tactic.hygienic true in
theorem ins_ord (x:Int):∀l:List Int,l.Pairwise (·≤·)→(ins x l).Pairwise (·≤·)
 | [],_=>by unfold ins;simp
 | y::r,h=>by
  unfold ins
  rw[List.pairwise_cons] at h
  split
  ·rename_i c
   rw[List.pairwise_cons,List.pairwise_cons]
   refine⟨fun z hz=>?_,h.1,h.2⟩
   rcases List.mem_cons.mp hz with rfl | hz
   ·exact c
   ·have:=h.1 z hz;omega
  ·rename_i c
   rw[List.pairwise_cons]
   refine⟨fun z hz=>?_,ins_ord x r h.2⟩
   rcases List.mem_cons.mp ((ins_perm x r).mem_iff.mp hz) with rfl | hz
   ·omega
   ·exact h.1 z hz
theorem srt_ord:∀l:List Int,(srt l).Pairwise (·≤·)
 | []=>by unfold srt;simp
 | x::r=>ins_ord x _ (srt_ord r)
theorem srt_length (l:List Int):(srt l).length=l.length:=(srt_perm l).length_eq
theorem ord_one:∀{a b:List Int},a.Perm b→a.Pairwise (·≤·)→b.Pairwise (·≤·)→a=b
 | [],b,p,_,_=>by simpa using p.symm.eq_nil
 | x::a,[],p,_,_=>by simpa using p.eq_nil
 | x::a,y::b,p,ha,hb=>by
  rw[List.pairwise_cons] at ha hb
  have e:x=y:=by
   have h1:y∈x::a:=p.mem_iff.mpr List.mem_cons_self
   have h2:x∈y::b:=p.mem_iff.mp List.mem_cons_self
   rcases List.mem_cons.mp h1 with h1 | h1
   ·exact h1.symm
   ·rcases List.mem_cons.mp h2 with h2 | h2
    ·exact h2
    ·have:=ha.1 y h1
     have:=hb.1 x h2
     omega
  subst e
  rw[ord_one ((List.perm_cons x).mp p) ha.2 hb.2]
theorem srt_one {a b:List Int} (p:a.Perm b) (o:a.Pairwise (·≤·)):a=srt b:=ord_one (p.trans (srt_perm b).symm) o (srt_ord b)
theorem srt_mem {a:Int} {l:List Int}:a∈srt l↔a∈l:=(srt_perm l).mem_iff
end Nm
namespace L2
open PySem PySem.Spec PyProof.Rows PySem.W
section
variable {X : Cx}
theorem ints_items {us:List Value} {ns:List Int} (h:IntsAre us ns):∃xs,us.toArray=intItems xs∧preSum (numAt xs) xs.size=ns.sum:=by
 obtain⟨xs,hx⟩:=h.allInts.items
 refine⟨xs,hx,?_⟩
 have e1:ns=xs.toList.map (·.1):=by
  rw[←nums_intItems,←hx]
  exact h.numsOf.symm
 rw[preSum_eq,List.take_of_length_le (by simp),e1]
theorem call_sum_l (hc:X.calm=true):CallR X (.builtin "sum") (fun xs H Q=>∃p ns,xs=[.ref p]∧SqL X.K H p (List.map V.int ns)∧Q (.int ns.sum) H):=by
 intro pins s σ H xs us Q I r h
 obtain⟨p,ns,rfl,hq,q⟩:=h
 obtain⟨u,rfl,rx⟩:=vals1 r
 cases rx
 obtain⟨its,rv,pl,hz⟩:=I.list hq
 obtain⟨ys,e1,e2⟩:=ints_items (intsAre_of rv)
 have hl:=pl.isList
 rw[e1] at hl
 refine sum_intListG (I.ok.hd hc) hl fun h' tk t' hk=>⟨.int ns.sum,H,I.kept (t':=tk) hk,⟨t',?_⟩,q⟩
 rw[e2]
theorem vals_ints_of {us:List Value} {ns:List Int} (h:IntsAre us ns):Vals (ns.map V.int) us:=by
 induction h with
 | nil=>exact .nil
 | cons n t _ ih=>exact .cons ⟨t,rfl⟩ ih
theorem call_sorted_l:CallR X (.builtin "sorted") (fun xs H Q=>∃p ns,xs=[.ref p]∧SqL X.K H p (List.map V.int ns)∧ns.length<64∧∀l,H l=none→Q (.ref l) (upd H l (.lst (List.map V.int (Nm.srt ns))))):=by
 intro pins s σ H xs us Q I r h
 obtain⟨p,ns,rfl,hq,hn,q⟩:=h
 obtain⟨u,rfl,rx⟩:=vals1 r
 cases rx
 obtain⟨its,rv,pl,hz⟩:=I.list hq
 have hl:=rv.length
 rw[List.length_map] at hl
 refine sorted_ints pl.isList (intsAre_of rv) (by omega) fun out ns' a1 a2 a3=>?_
 obtain rfl:=Nm.srt_one a2 a3
 obtain⟨e,he⟩:=sortedAll_at s.heap its out
 have fr:=I.hok.fresh (a:=s.heap.objs.size+1) (Nat.le_succ _)
 refine⟨.ref (s.heap.objs.size+1),_,I.laid (t':=s.toks) (fun _ _=>sortedAll_old) (Nat.le_succ _) (o:=.lst (List.map V.int (Nm.srt ns))) ⟨?_,out.toList,e,vals_ints_of a1,?_⟩,rfl,q _ fr⟩
 ·rw[List.length_map,Nm.srt_length,sizeLine_eq];omega
 ·exact he
noncomputable def keysI (kvs:List (Key×V)):List Int:=kvs.map fun p=>match p.1 with | .inl i=>i | .inr _=>0
noncomputable def allI (kvs:List (Key×V)):Prop:=∀p∈kvs,∃i,p.1=Sum.inl i
theorem call_sorted_d (hc:X.calm=true):CallR X (.builtin "sorted") (fun xs H Q=>∃d kvs,xs=[.ref d]∧Rd H d (.dK kvs)∧allI kvs∧kvs.length<64∧∀l,H l=none→Q (.ref l) (upd H l (.lst (List.map V.int (Nm.srt (keysI kvs)))))):=by
 intro pins s σ H xs us Q I r h
 obtain⟨d,kvs,rfl,hd,hall,hn,q⟩:=h
 obtain⟨u,rfl,rx⟩:=vals1 r
 cases rx
 obtain⟨hz,lo,vs,kv,dd⟩:=dk_rd I.hok hd
 have hlen:kvs.length=vs.length:=Paired.length kv
 obtain⟨ep,hat⟩:=dd.dictAt
 refine Calls.call_function_entry kind_sorted plain_sorted entry_sorted (args_sorted1 _) ?_
 unfold Builtin.«sorted»
 refine wpAny_bind (m:=checkCount "sorted" 1 1 _) (wpAny_pure ?_)
 refine wpAny_bind (kdu_collect (A:=X.A.in1) (kdl_dict (kvs:=vs) (ep:=ep) lo) (I.ok.hd hc) hat (by rw[←hlen,sizeLine_eq];omega) fun h' tk acc hk hacc=>?_)
 have hl:acc.toList.length=vs.length:=by rw[Array.length_toList];exact hacc.1
 have hI:IntsAre acc.toList (keysI kvs):=by
  have all:∀(j:Nat) v,acc.toList[j]?=some v→∃i t,v=Value.int i t∧(keysI kvs)[j]?=some i:=fun j v e=>by
   obtain⟨k,x,hx,hk⟩:=hacc.2 j v (by rw[←Array.getElem?_toList];exact e)
   obtain⟨p,e1,e2⟩:∃p,kvs[j]?=some p∧p.1=k:=by
    have:∀{as:List (Key×V)} {bs:List (Key×Value)} (j:Nat) {b},KV as bs→bs[j]?=some b→∃a,as[j]?=some a∧a.1=b.1:=by
     intro as bs j b r
     induction r generalizing j with
     | nil=>intro e;simp at e
     | cons r1 r2 ih=>
      intro e
      cases j with
      | zero=>simp at e;subst e;exact⟨_,rfl,r1.1⟩
      | succ j=>simp at e;obtain⟨a,e1,e2⟩:=ih j e;exact⟨a,by simpa using e1,e2⟩
    obtain⟨a,e1,e2⟩:=this j kv hx
    exact⟨a,e1,e2⟩
   obtain⟨i,hi⟩:=hall p (List.mem_of_getElem? e1)
   rw[←e2,hi] at hk
   have hk:keyIs (.inl i) v=true:=hk
   rcases keyIs_shape hk with ⟨i',t,e3,e4⟩ | ⟨x',t,e3,_⟩
   ·cases e3
    refine⟨i,t,e4,?_⟩
    unfold keysI
    rw[List.getElem?_map,e1]
    simp [hi]
   ·cases e3
  have go:∀(us:List Value) (ns:List Int),us.length=ns.length→(∀(j:Nat) v,us[j]?=some v→∃i t,v=Value.int i t∧ns[j]?=some i)→IntsAre us ns:=by
   intro us
   induction us with
   | nil=>intro ns hl _;cases ns with | nil=>exact .nil | cons _ _=>simp at hl
   | cons u us ih=>
    intro ns hl k
    cases ns with
    | nil=>simp at hl
    | cons n ns=>
     obtain⟨i,t,rfl,e⟩:=k 0 u rfl
     simp at e
     subst e
     exact .cons n t (ih ns (by simpa using hl) fun j v e=>by
      obtain⟨i,t,e1,e2⟩:=k (j+1) v (by simpa using e)
      exact⟨i,t,e1,by simpa using e2⟩)
  refine go _ _ ?_ all
  unfold keysI
  rw[List.length_map,hl,hlen]
 refine wpAny_bind (wpAny_newList ?_ (by rw[hl,←hlen,sizeLine_eq];omega))
 have hoL:(h'.push (seqObj "list" acc.toList.toArray 0)).get? h'.objs.size=some (seqObj "list" acc.toList.toArray 0):=Heap.get?_push_size _ rfl
 have I1:Inv X pins σ H {s with heap:=h',toks:=tk}:=I.kept (t':=tk) hk
 refine wpAny_bind (wpAny_holding (wpAny_call_entry slot_list_sort ⟨_,hoL,rfl⟩ entry_list_sort (list_sort_tree hoL hI (by omega) fun out ns' a1 a2 a3=>⟨_,rfl,?_⟩) (args_list_sort _)))
 obtain rfl:=Nm.srt_one a2 a3
 obtain⟨e,he⟩:=sortedHeap_at (out:=out) hoL
 have fr:=I1.hok.fresh (a:=h'.objs.size) (Nat.le_refl _)
 refine wpAny_pure ⟨_,rfl,.ref h'.objs.size,_,I1.laid (t':=tk) (fun b o eb=>?_) (Nat.le_refl _) (o:=.lst (List.map V.int (Nm.srt (keysI kvs)))) ⟨?_,out.toList,e,vals_ints_of a1,?_⟩,rfl,q _ fr⟩
 ·rw[sortedHeap_old (Nat.ne_of_lt (Heap.lt_size eb)) (by rw[Heap.size_push];exact Nat.lt_succ_of_lt (Heap.lt_size eb))]
  exact Heap.get?_push_of_some _ eb
 ·rw[List.length_map,Nm.srt_length,sizeLine_eq]
  unfold keysI
  rw[List.length_map]
  omega
 ·exact he
end
section
variable {X : Cx} {pins : List (Addr × Obj)} {σ : St} {H : Hp} {s : Shared}
end
noncomputable def Itd (d:Addr) (o:Obj) (kvs:List (Key×V)):It:=
 ⟨fun i H=>H d=some (.frz o (.dK kvs))∧i<kvs.length,fun i H x H'=>H'=H∧∃p,kvs[i]?=some p∧x=kV p.1,fun i H=>H d=some (.frz o (.dK kvs))∧i=kvs.length⟩
section
variable {X : Cx} {x : Str} {xpos : Pos}
noncomputable def iDict (tl:TE):TI:=fun σ H R=>tl σ H fun v H1=>∃d kvs,v=.ref d∧H1 d=some (.dK kvs)∧∀o,R (Itd d o kvs) (upd H1 d (.frz o (.dK kvs)))
end
end L2
namespace L2
open PySem PySem.Spec PyProof.Rows PySem.W
section
variable {X : Cx} {K : PySem.W.Frag}
theorem pi_listK {tg l:Expr} {tl:TE} (hl:PE X l tl) (hK:X.K=K:=by rfl):PI X tg l (iList K tl):=by subst hK;exact pi_list hl
theorem pi_enumerateK {elts:List Expr} {kk:Nat} {tpos:Pos} {a:Expr} {ta:TA} {p pos:Pos} (hg:Gl X "enumerate") (hm:X.mg "enumerate"=none) (ha:PA X [a] ta) (n1:noStar a=true:=by rfl) (hK:X.K=K:=by rfl):
  PI X (.Tuple elts kk tpos) (.Call (.Name "enumerate" p) [a] [] pos) (iEnum K ta):=by subst hK;exact pi_enumerate hg hm ha (by rw[se n1];rfl)
theorem pg_tupK {es:List Expr} {k:Nat} {t:TGs} {n:Nat} {pos:Pos} (hc:X.calm=true) (h:PGs X es t) (hn:(assignEach es X.env).length=n:=by rfl) (hst:(assignEach es X.env).findIdx? (·.1)=none:=by rfl) (hK:X.K=K:=by rfl):PG X (.Tuple es k pos) (gTup K n t):=by
 subst hK;exact pg_tup hc h hn hst
theorem ix_listSK (hK:X.K=K:=by rfl):IxR X (rIxQ K):=by subst hK;exact ix_listS
theorem call_lenQK (hK:X.K=K:=by rfl):CallR X (.builtin "len") (fun xs H Q=>∃p ns,xs=[.ref p]∧SqL K H p (List.map V.int ns)∧Q (.int (List.length ns:Nat)) H):=by subst hK;exact call_lenQ
theorem op_notIn_seqK (hK:X.K=K:=by rfl):OpR X (compareOp .NotIn) (rIn K true):=by subst hK;exact op_notIn_seq
theorem call_list_ofK (hK:X.K=K:=by rfl):CallR X (.type "list") (fun xs H Q=>∃p ys,xs=[.ref p]∧(SqL K H p ys∨SqT K H p ys)∧∀l,H l=none→Q (.ref l) (upd H l (.lst ys))):=by subst hK;exact call_list_of
theorem call_isTK (hK:X.K=K:=by rfl):CallR X (.builtin "isinstance") (fun xs H Q=>∃x c t b,xs=[x,.ty c]∧TyOf K H x t∧PySem.W.kitOne K t (.type c)=some b∧Q (.bl b) H):=by subst hK;exact call_isT
theorem call_isEK (hK:X.K=K:=by rfl):CallR X (.builtin "isinstance") (fun xs H Q=>∃ad C c v b,xs=[.ref ad,c]∧H ad=some (ExO ad (.ref C))∧ExcCls K C∧clV c=some v∧kitOne K (.ref C) v=some b∧Q (.bl b) H):=by subst hK;exact call_isE
theorem call_sum_lK (hc:X.calm=true:=by rfl) (hK:X.K=K:=by rfl):CallR X (.builtin "sum") (fun xs H Q=>∃p ns,xs=[.ref p]∧SqL K H p (List.map V.int ns)∧Q (.int ns.sum) H):=by subst hK;exact call_sum_l hc
theorem call_sorted_lK (hK:X.K=K:=by rfl):CallR X (.builtin "sorted") (fun xs H Q=>∃p ns,xs=[.ref p]∧SqL K H p (List.map V.int ns)∧ns.length<64∧∀l,H l=none→Q (.ref l) (upd H l (.lst (List.map V.int (Nm.srt ns))))):=by subst hK;exact call_sorted_l
theorem call_sorted_dK (hc:X.calm=true:=by rfl):CallR X (.builtin "sorted") (fun xs H Q=>∃d kvs,xs=[.ref d]∧Rd H d (.dK kvs)∧allI kvs∧kvs.length<64∧∀l,H l=none→Q (.ref l) (upd H l (.lst (List.map V.int (Nm.srt (keysI kvs)))))):=call_sorted_d hc
theorem sl_listK (hK:X.K=K:=by rfl):SlR X (rSlL K):=by subst hK;exact sl_list
theorem MtM.r {id:String} {r:V→List V→Hp→VK→Prop} (h:MtM X id r):MtR X id r:=h
end
end L2
namespace Nm
abbrev Ws:=List (Int×Int)
noncomputable def keys (ws:Ws):List Int:=ws.map (·.1)
noncomputable def look:Ws→Int→Int
 | [],_=>0
 | p::r,k=>if p.1=k then p.2 else look r k
noncomputable def put:Ws→Int→Int→Ws
 | [],k,v=>[(k,v)]
 | p::r,k,v=>if p.1=k then (k,v)::r else p::put r k v
noncomputable def tot (ws:Ws):Int:=(ws.map (·.2)).sum
noncomputable def addk (ws:Ws) (k x:Int):Ws:=put ws k (look ws k+x)
noncomputable def addAll (ws ps:Ws):Ws:=ps.foldl (fun acc p=>addk acc p.1 p.2) ws
noncomputable def cnt (ps:Ws) (s:Int):Int:=(ps.map fun p=>if p.1=s then p.2 else 0).sum
set_option tactic.hygienic true in
theorem look_put:∀(ws:Ws) (k v j:Int),look (put ws k v) j=if k=j then v else look ws j
 | [],k,v,j=>by simp [put,look]
 | p::r,k,v,j=>by
  unfold put
  split
  ·rename_i c
   simp only[look]
   by_cases e:k=j
   ·simp [e]
   ·rw[if_neg e,if_neg e,if_neg (by omega)]
  ·rename_i c
   simp only[look]
   by_cases e:p.1=j
   ·rw[if_pos e,if_neg (by omega),if_pos e]
   ·rw[if_neg e,if_neg e]
    exact look_put r k v j
set_option tactic.hygienic true in
theorem mem_put {ws:Ws} {k v j:Int}:j∈keys (put ws k v)↔j=k∨j∈keys ws:=by
 induction ws with
 | nil=>simp [put,keys]
 | cons p r ih=>
  unfold put
  split
  ·rename_i c
   simp only[keys,List.map_cons,List.mem_cons]
   rw[c]
   constructor
   ·intro h;exact .inr h
   ·rintro(h | h)
    ·exact .inl h
    ·exact h
  ·simp only[keys,List.map_cons,List.mem_cons] at ih ⊢
   rw[ih]
   constructor
   ·rintro(h | h | h)
    ·exact .inr (.inl h)
    ·exact .inl h
    ·exact .inr (.inr h)
   ·rintro(h | h | h)
    ·exact .inr (.inl h)
    ·exact .inl h
    ·exact .inr (.inr h)
set_option tactic.hygienic true in
theorem nodup_put {ws:Ws} (k v:Int) (h:(keys ws).Nodup):(keys (put ws k v)).Nodup:=by
 induction ws with
 | nil=>simp [put,keys]
 | cons p r ih=>
  have h':p.1∉keys r∧(keys r).Nodup:=by simpa [keys] using h
  unfold put
  split
  ·rename_i c
   have:k∉keys r∧(keys r).Nodup:=by rw[←c];exact h'
   simpa [keys] using this
  ·rename_i c
   have i:=ih h'.2
   have n:p.1∉keys (put r k v):=fun z=>by
    rcases mem_put.mp z with z | z
    ·exact c z
    ·exact h'.1 z
   have:p.1∉keys (put r k v)∧(keys (put r k v)).Nodup:=⟨n,i⟩
   simpa [keys] using this
theorem tot_addk:∀(ws:Ws) (k x:Int),tot (addk ws k x)=tot ws+x
 | [],k,x=>by simp [addk,put,look,tot]
 | p::r,k,x=>by
  have ih:=tot_addk r k x
  unfold addk tot at *
  unfold put look
  by_cases c:p.1=k
  ·rw[if_pos c,if_pos c]
   simp only[List.map_cons,List.sum_cons]
   omega
  ·rw[if_neg c,if_neg c]
   simp only[List.map_cons,List.sum_cons]
   omega
theorem len_put (ws:Ws) (k v:Int):(put ws k v).length≤ws.length+1:=by
 induction ws with
 | nil=>simp [put]
 | cons p r ih=>
  unfold put
  split
  ·simp
  ·simp only[List.length_cons];omega
theorem look_addAll:∀(ps ws:Ws) (s:Int),look (addAll ws ps) s=look ws s+cnt ps s
 | [],ws,s=>by simp [addAll,cnt]
 | p::r,ws,s=>by
  have ih:=look_addAll r (addk ws p.1 p.2) s
  show look (addAll (addk ws p.1 p.2) r) s=_
  rw[ih]
  unfold addk cnt
  rw[look_put]
  simp only[List.map_cons,List.sum_cons]
  by_cases c:p.1=s
  ·rw[if_pos c,if_pos c,c];omega
  ·rw[if_neg c,if_neg c];omega
theorem mem_addAll {s:Int}:∀{ps ws:Ws},s∈keys (addAll ws ps)↔s∈keys ws∨s∈keys ps
 | [],ws=>by simp [addAll,keys]
 | p::r,ws=>by
  show s∈keys (addAll (addk ws p.1 p.2) r)↔_
  rw[mem_addAll]
  unfold addk
  rw[mem_put]
  simp only[keys,List.map_cons,List.mem_cons]
  constructor
  ·rintro((h | h) | h)
   ·exact .inr (.inl h)
   ·exact .inl h
   ·exact .inr (.inr h)
  ·rintro(h | h | h)
   ·exact .inl (.inr h)
   ·exact .inl (.inl h)
   ·exact .inr h
theorem nodup_addAll:∀{ps ws:Ws},(keys ws).Nodup→(keys (addAll ws ps)).Nodup
 | [],_,h=>h
 | p::r,ws,h=>by
  show(keys (addAll (addk ws p.1 p.2) r)).Nodup
  exact nodup_addAll (nodup_put _ _ h)
theorem tot_addAll:∀(ps ws:Ws),tot (addAll ws ps)=tot ws+tot ps
 | [],ws=>by simp [addAll,tot]
 | p::r,ws=>by
  show tot (addAll (addk ws p.1 p.2) r)=_
  rw[tot_addAll,tot_addk]
  unfold tot
  simp only[List.map_cons,List.sum_cons]
  omega
theorem len_addAll:∀(ps ws:Ws),(addAll ws ps).length≤ws.length+ps.length
 | [],ws=>by simp [addAll]
 | p::r,ws=>by
  have h:=len_addAll r (addk ws p.1 p.2)
  have h2:=len_put ws p.1 (look ws p.1+p.2)
  show(addAll (addk ws p.1 p.2) r).length≤_
  unfold addk at *
  simp only[List.length_cons]
  omega
structure Over (as ws:Ws) (B T:Int):Prop where
 nd:(keys ws).Nodup
 perm:(keys as).Perm (keys ws)
 val:∀k∈keys ws,look as k*T=look ws k*B
theorem look_mem {ws:Ws} {p:Int×Int} (h:(keys ws).Nodup) (hp:p∈ws):look ws p.1=p.2:=by
 induction ws with
 | nil=>cases hp
 | cons q r ih=>
  have h':q.1∉keys r∧(keys r).Nodup:=by simpa [keys] using h
  unfold look
  rcases List.mem_cons.mp hp with rfl | hp
  ·rw[if_pos rfl]
  ·rw[if_neg (fun z=>h'.1 (by rw[z];exact List.mem_map.mpr ⟨p,hp,rfl⟩))]
   exact ih h'.2 hp
noncomputable def rowsOf (ws:Ws) (B:Int):List (Int×Int×Int):=(srt (keys ws)).map fun v=>(v,st (look ws v) B,sb (look ws v) B)
theorem addAll_append (ws p q:Ws):addAll ws (p++q)=addAll (addAll ws p) q:=by
 unfold addAll
 rw[List.foldl_append]
theorem addAll_snoc (ws p:Ws) (k x:Int):addAll ws (p++ [(k,x)])=addk (addAll ws p) k x:=by
 rw[addAll_append]
 rfl
theorem sum_pos:∀{l:List Int},0<l.length→(∀x∈l,0<x)→0<l.sum
 | [],h,_=>by simp at h
 | x::r,_,h=>by
  have hx:=h x List.mem_cons_self
  rw[List.sum_cons]
  by_cases c:0<r.length
  ·have:=sum_pos c fun y hy=>h y (List.mem_cons_of_mem _ hy)
   omega
  ·have:r=[]:=List.eq_nil_of_length_eq_zero (by omega)
   subst this
   simpa using hx
theorem wt_mem {ws:Ws} (nd:(keys ws).Nodup) {P:Int→Prop} (h:∀k∈keys ws,P (look ws k)):∀x∈ws.map (·.2),P x:=fun x hx=>by
 obtain⟨p,hp,rfl⟩:=List.mem_map.mp hx
 have:=h p.1 (List.mem_map.mpr ⟨p,hp,rfl⟩)
 rwa [look_mem nd hp] at this
theorem tot_pos {ws:Ws} (h:0<ws.length) (nd:(keys ws).Nodup) (w:∀k∈keys ws,0<look ws k):0<tot ws:=
 sum_pos (by rw[List.length_map];exact h) (wt_mem nd w)
theorem cnt_nn {ps:Ws} (h:∀p∈ps,0<p.2) (s:Int):0≤cnt ps s:=by
 induction ps with
 | nil=>simp [cnt]
 | cons p r ih=>
  have i:=ih fun q hq=>h q (List.mem_cons_of_mem _ hq)
  have hp:=h p List.mem_cons_self
  unfold cnt at *
  rw[List.map_cons,List.sum_cons]
  split <;>omega
theorem cnt_pos {ps:Ws} (h:∀p∈ps,0<p.2) {s:Int} (hs:s∈keys ps):0<cnt ps s:=by
 induction ps with
 | nil=>simp [keys] at hs
 | cons p r ih=>
  have h':∀q∈r,0<q.2:=fun q hq=>h q (List.mem_cons_of_mem _ hq)
  have hp:=h p List.mem_cons_self
  have n:=cnt_nn h' s
  have e:cnt (p::r) s=(if p.1=s then p.2 else 0)+cnt r s:=by unfold cnt;rw[List.map_cons,List.sum_cons]
  rw[e]
  by_cases c:p.1=s
  ·rw[if_pos c];omega
  ·rw[if_neg c]
   have hs':s∈keys r:=by
    unfold keys at hs ⊢
    rw[List.map_cons] at hs
    rcases List.mem_cons.mp hs with z | z
    ·exact absurd z.symm c
    ·exact z
   have:=ih h' hs'
   omega
end Nm
namespace L2
open PySem PySem.Spec PyProof.Rows
noncomputable def enc (ws:Nm.Ws):List (Key×V):=ws.map fun p=>(Sum.inl p.1,V.int p.2)
theorem enc_len (ws:Nm.Ws):(enc ws).length=ws.length:=by unfold enc;rw[List.length_map]
theorem keysI_enc (ws:Nm.Ws):keysI (enc ws)=Nm.keys ws:=by
 unfold keysI enc Nm.keys
 rw[List.map_map]
 rfl
theorem allI_enc (ws:Nm.Ws):allI (enc ws):=fun p hp=>by
 unfold enc at hp
 obtain⟨q,_,rfl⟩:=List.mem_map.mp hp
 exact⟨q.1,rfl⟩
theorem val_enc (ws:Nm.Ws) (k:Int):valV (enc ws) (Sum.inl k)=if k∈Nm.keys ws then some (.int (Nm.look ws k)) else none:=by
 induction ws with
 | nil=>simp [enc,valV,Nm.keys]
 | cons p r ih=>
  unfold valV at *
  unfold enc at *
  rw[List.map_cons,List.find?_cons]
  unfold Nm.look
  by_cases c:p.1=k
  ·rw[show decide ((Sum.inl p.1:Key)=Sum.inl k)=true by rw[c];simp]
   simp [Nm.keys,c]
  ·rw[show decide ((Sum.inl p.1:Key)=Sum.inl k)=false by simpa using c]
   simp only[ih]
   have e:(k∈Nm.keys (p::r))=(k∈Nm.keys r):=by
    unfold Nm.keys
    rw[List.map_cons,List.mem_cons]
    apply propext
    constructor
    ·rintro(h | h)
     ·exact absurd h.symm c
     ·exact h
    ·exact .inr
   simp only[e,if_neg c]
theorem put_enc {ws:Nm.Ws} (nd:(Nm.keys ws).Nodup) (k v:Int):putK (enc ws) (Sum.inl k) (.int v)=enc (Nm.put ws k v):=by
 have key:∀{ws:Nm.Ws},k∉Nm.keys ws→(enc ws).map (fun kv=>if kv.1=(Sum.inl k:Key) then (kv.1,V.int v) else kv)=enc ws:=by
  intro ws h
  unfold enc
  rw[List.map_map]
  apply List.map_congr_left
  intro p hp
  have:p.1≠k:=fun z=>h (by rw[←z];exact List.mem_map.mpr ⟨p,hp,rfl⟩)
  simp [this]
 have any:∀ws:Nm.Ws,((enc ws).any fun kv=>decide (kv.1=(Sum.inl k:Key)))=decide (k∈Nm.keys ws):=by
  intro ws
  induction ws with
  | nil=>simp [enc,Nm.keys]
  | cons p r ih=>
   unfold enc at *
   rw[List.map_cons,List.any_cons,ih]
   unfold Nm.keys
   rw[List.map_cons]
   by_cases c:p.1=k
   ·simp [c]
   ·have c2:¬k=p.1:=fun z=>c z.symm
    simp [c,c2]
 unfold putK
 rw[any]
 clear any
 by_cases c:k∈Nm.keys ws
 ·rw[if_pos (by simpa using c)]
  induction ws with
  | nil=>simp [Nm.keys] at c
  | cons p r ih=>
   have h':p.1∉Nm.keys r∧(Nm.keys r).Nodup:=by simpa [Nm.keys] using nd
   unfold Nm.put
   by_cases e:p.1=k
   ·rw[if_pos e]
    have:=key (ws:=r) (by rw[←e];exact h'.1)
    unfold enc at *
    rw[List.map_cons,List.map_cons,this,List.map_cons]
    simp [e]
   ·rw[if_neg e]
    have c':k∈Nm.keys r:=by
     unfold Nm.keys at c ⊢
     rw[List.map_cons] at c
     rcases List.mem_cons.mp c with z | z
     ·exact absurd z.symm e
     ·exact z
    have:=ih h'.2 c'
    unfold enc at *
    rw[List.map_cons,List.map_cons,this,List.map_cons]
    simp [e]
 ·rw[if_neg (by simpa using c)]
  induction ws with
  | nil=>simp [enc,Nm.put]
  | cons p r ih=>
   have h':p.1∉Nm.keys r∧(Nm.keys r).Nodup:=by simpa [Nm.keys] using nd
   have e:¬p.1=k:=fun z=>c (by unfold Nm.keys;rw[List.map_cons,z];exact List.mem_cons_self)
   have c':k∉Nm.keys r:=fun z=>c (by unfold Nm.keys at *;rw[List.map_cons];exact List.mem_cons_of_mem _ z)
   unfold Nm.put
   rw[if_neg e]
   have:=ih h'.2 c'
   unfold enc at *
   rw[List.map_cons,List.cons_append,this,List.map_cons]
theorem dget_rd {H:Hp} {d:Addr} {ws:Nm.Ws} {v:Int} (h:Rd H d (.dK (enc ws))) (hv:v∈Nm.keys ws):DGet H d (.int v) (some (.int (Nm.look ws v))):=
 .inl ⟨_,Sum.inl v,h,rfl,by rw[val_enc,if_pos hv]⟩
theorem dget_enc {H:Hp} {d:Addr} {ws:Nm.Ws} {v:Int} (h:H d=some (.dK (enc ws))) (hv:v∈Nm.keys ws):DGet H d (.int v) (some (.int (Nm.look ws v))):=dget_rd (.inl h) hv
theorem look_out {ws:Nm.Ws} {v:Int} (h:v∉Nm.keys ws):Nm.look ws v=0:=by
 induction ws with
 | nil=>rfl
 | cons p r ih=>
  unfold Nm.keys at h
  rw[List.map_cons] at h
  unfold Nm.look
  rw[if_neg (fun z=>h (by rw[z];exact List.mem_cons_self))]
  exact ih fun z=>h (List.mem_cons_of_mem _ z)
theorem dget_zero {H:Hp} {d:Addr} {ws:Nm.Ws} (v:Int) (h:Rd H d (.dK (enc ws))):∃o,DGet H d (.int v) o∧o.getD (.int 0)=.int (Nm.look ws v):=by
 refine⟨_,.inl ⟨_,Sum.inl v,h,rfl,rfl⟩,?_⟩
 rw[val_enc]
 by_cases c:v∈Nm.keys ws
 ·rw[if_pos c];rfl
 ·rw[if_neg c,look_out c];rfl
theorem dput_enc {H:Hp} {d:Addr} {ws:Nm.Ws} (v x:Int) (h:H d=some (.dK (enc ws))) (nd:(Nm.keys ws).Nodup) (hl:ws.length<sizeLine):DPut H d (.int v) (.int x) (upd H d (.dK (enc (Nm.put ws v x)))):=by
 have:=DPut.k (k:=Sum.inl v) (v:=.int x) h (by rw[enc_len];exact hl)
 rw[put_enc nd] at this
 exact this
noncomputable def rowD (r:Int×Int×Int):Dat:=.tup [.int r.1,.tup [.int r.2.1,.int r.2.2]]
noncomputable def rowsD (rows:List (Int×Int×Int)):Dat:=.lst (rows.map rowD)
noncomputable def wrowD (p:Int×Int):Dat:=.tup [.int p.1,.int p.2]
noncomputable def wrowsD (ws:Nm.Ws):Dat:=.lst (ws.map wrowD)
theorem rep_row {H:Hp} {r:Int×Int×Int} {v:V}:Rep H (rowD r) v↔∃p q,v=.ref p∧H p=some (.tup [.int r.1,.ref q])∧H q=some (.tup [.int r.2.1,.int r.2.2]):=by
 unfold rowD
 simp only[Rep,RepL]
 constructor
 ·rintro⟨p,vs,rfl,hp,a,b,rfl,rfl,c,d,rfl,⟨q,us,rfl,hq,e,f,rfl,rfl,g,h,rfl,rfl,rfl⟩,rfl⟩
  exact⟨p,q,rfl,hp,hq⟩
 ·rintro⟨p,q,rfl,hp,hq⟩
  exact⟨p,_,rfl,hp,_,_,rfl,rfl,_,_,rfl,⟨q,_,rfl,hq,_,_,rfl,rfl,_,_,rfl,rfl,rfl⟩,rfl⟩
theorem rep_wrow {H:Hp} {r:Int×Int} {v:V}:Rep H (wrowD r) v↔∃p,v=.ref p∧H p=some (.tup [.int r.1,.int r.2]):=by
 unfold wrowD
 simp only[Rep,RepL]
 constructor
 ·rintro⟨p,vs,rfl,hp,a,b,rfl,rfl,c,d,rfl,rfl,rfl⟩
  exact⟨p,rfl,hp⟩
 ·rintro⟨p,rfl,hp⟩
  exact⟨p,_,rfl,hp,_,_,rfl,rfl,_,_,rfl,rfl,rfl⟩
theorem rep_lst {H:Hp} {ds:List Dat} {v:V}:Rep H (.lst ds) v↔∃p vs,v=.ref p∧H p=some (.lst vs)∧RepL H ds vs:=by rw[Rep]
noncomputable def Sqs (H H':Hp):Prop:=∀p xs,(H p=some (.tup xs)→H' p=some (.tup xs))∧(H p=some (.lst xs)→H' p=some (.lst xs))
mutual
theorem Rep.sqs {H H':Hp} (s:Sqs H H'):∀{d:Dat} {v:V},Rep H d v→Rep H' d v
 | .non,_,h=>by rw[Rep] at *;exact h
 | .bl _,_,h=>by rw[Rep] at *;exact h
 | .int _,_,h=>by rw[Rep] at *;exact h
 | .str _,_,h=>by rw[Rep] at *;exact h
 | .tup _,_,h=>by
  rw[Rep] at *
  obtain⟨p,vs,e,hp,r⟩:=h
  exact⟨p,vs,e,(s _ _).1 hp,RepL.sqs s r⟩
 | .lst _,_,h=>by
  rw[Rep] at *
  obtain⟨p,vs,e,hp,r⟩:=h
  exact⟨p,vs,e,(s _ _).2 hp,RepL.sqs s r⟩
theorem RepL.sqs {H H':Hp} (s:Sqs H H'):∀{ds:List Dat} {vs:List V},RepL H ds vs→RepL H' ds vs
 | [],_,h=>by rw[RepL] at *;exact h
 | _::_,_,h=>by
  rw[RepL] at *
  obtain⟨v,r,e,h1,h2⟩:=h
  exact⟨v,r,e,Rep.sqs s h1,RepL.sqs s h2⟩
end
theorem none_of {H H':Hp} (s:Same H H') {p:Addr} (h:H' p=none):H p=none:=by
 cases e:H p with
 | none=>rfl
 | some o=>rw[s p o e] at h;cases h
end L2
namespace Nm
end Nm
namespace L2
open PySem PySem.Spec PyProof.Rows
theorem comp_ints2 {K:PySem.W.Frag} {α:Type} {J:It} {tc:TT} {te:TE} {tl:St} {H1:Hp} {fin:List V→Hp→Prop} {Item:Nat→V→Hp→Hp→Prop} (as:List α) (f:α→Option Int) (S:Src J (Same H1) as.length Item) (sub:∀i x H H3,Item i x H H3→H3=H) (hz:as.length≤sizeLine)
  (hs:∀i a x,as[i]?=some a→Item i x H1 H1→∃p u v,x=.ref p∧SqT K H1 p [u,v]∧∀(Y:VK) (N:Hp→Prop),(∀z,f a=some z→Y (.int z) H1)→(f a=none→N H1)→tc (some u::some v::tl) H1 fun b H5=>if b=true then te (some u::some v::tl) H5 Y else N H5)
  (hfin:fin (List.map V.int (as.filterMap f)) H1):tBlock J (gTup K 2 (gCons (gName 0) (gCons (gName 1) gNil))) tc te (none::none::tl) H1 fin:=by
 refine block_src S (fun σ=>∃w0 w1,σ=w0::w1::tl) ⟨_,_,rfl⟩ (fun i ys H=>H=H1∧ys=List.map V.int ((as.take i).filterMap f)) ⟨rfl,by simp⟩ hz ?_ ?_
 ·rintro i x σ H ys H3 Q N hi sm ⟨rfl,rfl⟩ hl ⟨w0,w1,rfl⟩ it kq kn
  obtain rfl:=sub _ _ _ _ it
  have ea:as[i]?=some as[i]:=List.getElem?_eq_getElem hi
  obtain⟨p,u,v,rfl,sq,k⟩:=hs i _ x ea it
  refine⟨p,_,rfl,sq,rfl,_,_,rfl,_,_,rfl,rfl,?_⟩
  refine k _ _ (fun z e=>kq _ _ _ ⟨_,_,rfl⟩ sm ⟨rfl,?_⟩) (fun e=>kn _ _ ⟨_,_,rfl⟩ sm ⟨rfl,?_⟩)
  ·rw[List.take_add_one,ea,List.filterMap_append,List.map_append]
   simp [e]
  ·rw[List.take_add_one,ea,List.filterMap_append,List.map_append]
   simp [e]
 ·rintro ys H sm ⟨rfl,rfl⟩ hl
  rw[List.take_of_length_le (Nat.le_refl _)]
  exact hfin
theorem fm_some {α β:Type} (f:α→β) (l:List α):l.filterMap (fun a=>some (f a))=l.map f:=by
 rw[←List.filterMap_eq_map];rfl
end L2
namespace L2
open PySem PySem.Spec PyProof.Rows PySem.W
section
variable {X : Cx} {K : PySem.W.Frag}
theorem bools_of:∀{us:List Value} {bs:List Bool},Vals (bs.map V.bl) us→LSm.BoolsAre us bs
 | _,[],.nil=>.nil
 | _,b::bs,.cons r t=>by
  have e:_=Value.bool b:=r
  subst e
  exact .cons b (bools_of t)
theorem call_all_l (hc:X.calm=true):CallR X (.builtin "all") (fun xs H Q=>∃p bs,xs=[.ref p]∧SqL X.K H p (List.map V.bl bs)∧Q (.bl (bs.all id)) H):=by
 intro pins s σ H xs us Q I r h
 obtain⟨p,bs,rfl,hq,q⟩:=h
 obtain⟨u,rfl,rx⟩:=vals1 r
 cases rx
 obtain⟨its,rv,pl,hz⟩:=I.list hq
 have hb:=bools_of rv
 have hl:=pl.isList
 have hlt:p<s.heap.objs.size:=by obtain⟨_,e,_⟩:=hl;exact Heap.lt_size e
 refine call_all_walk (wpAny_pyIter_list hl ?_)
 refine⟨s.heap.objs.size,[s.heap.objs.size,p],[s.heap.objs.size],its.toArray.size,_,_,fun i=>(bs[i]?).getD true,rfl,Walks.list (A:=X.A.in1) (I.ok.hd hc) _ p (Nat.ne_of_lt hlt) its.toArray,
  ⟨⟨_,Heap.get?_push_size _ rfl,rfl,rfl⟩,hl.push _⟩,fun i v s' Q' E' hP hQ=>?_,fun h' tk hk=>?_⟩
 ·obtain⟨b,e,rfl⟩:=hb.get i v (by simpa using hP)
  simp only[e,Option.getD_some] at hQ
  exact wpAny_truthy_bool hQ
 ·have e:((List.range its.toArray.size).all fun i=>(bs[i]?).getD true)=bs.all id:=by
   rw[List.size_toArray,hb.length];exact LSm.range_all bs
  rw[e]
  exact⟨.bl _,H,I.kept (t':=tk) (LSm.kept_iter hk),rfl,q⟩
theorem call_all_lK (hc:X.calm=true:=by rfl) (hK:X.K=K:=by rfl):CallR X (.builtin "all") (fun xs H Q=>∃p bs,xs=[.ref p]∧SqL K H p (List.map V.bl bs)∧Q (.bl (bs.all id)) H):=by subst hK;exact call_all_l hc
theorem kv_val {as:List (Key×V)} {bs:List (Key×Value)} (r:KV as bs):∀(j:Nat) {b},bs[j]?=some b→∃a,as[j]?=some a∧RelV a.2 b.2:=by
 induction r with
 | nil=>intro j b e;simp at e
 | cons r1 r2 ih=>
  intro j b e
  cases j with
  | zero=>simp at e;subst e;exact⟨_,rfl,r1.2⟩
  | succ j=>simp at e;obtain⟨a,e1,e2⟩:=ih j e;exact⟨a,by simpa using e1,e2⟩
theorem preSum_list (ns:List Int):preSum (fun i=>ns.getD i 0) ns.length=ns.sum:=by
 have e:=preSum_eq (ns.map fun n=>(n,(0:Nat))).toArray ns.length
 have f:(fun i=>ns.getD i 0)=numAt (ns.map fun n=>(n,(0:Nat))).toArray:=by
  funext i
  unfold numAt
  simp only[List.getElem?_toArray,List.getElem?_map,List.getD_eq_getElem?_getD]
  cases ns[i]? <;>rfl
 rw[f]
 refine e.trans ?_
 rw[List.take_of_length_le (by simp)]
 congr 1
 simp [Function.comp_def]
noncomputable def tSumV (to:TE):TE:=fun σ H Q=>to σ H fun v H1=>∃d kvs ns,v=.ref d∧H1 d=some (.dK kvs)∧kvs.map (·.2)=List.map V.int ns∧Q (.int ns.sum) H1
theorem pe_sumvals {o:Expr} {to:TE} {p apos cpos pos:Pos} (hc:X.calm=true) (hg:Gl X "sum") (hm:X.mg "sum"=none) (ho:PE X o to)
  (hbase:attributeBase o "values" X.env (eval o X.env)=eval o X.env:=by rfl) (hline:(apos.endLine==cpos.line)=true:=by rfl)
  (he:starEach [Expr.Call (.Attribute o "values" apos) [] [] cpos] X.env=[(false,eval (.Call (.Attribute o "values" apos) [] [] cpos) X.env)]:=by rfl):
  PE X (.Call (.Name "sum" p) [.Call (.Attribute o "values" apos) [] [] cpos] [] pos) (tSumV to):=by
 intro pins s σ H Q I h
 refine wpAny_Call_Name_kw (ld_blt I hg hm (u:=.builtin "sum") rfl ?_ (by decide) (by decide))
 rw[he]
 refine PySem.callWith_builtin1 ?_
 refine wpAny_Call_method0_late hbase hline (thn (ho pins s σ H _ I h) fun v s1 hh_=>?_)
 obtain⟨x,H1,I1,r1,q1⟩:=hh_
 obtain⟨d,kvs,ns,rfl,hd,hv,q⟩:=q1
 obtain⟨h1,h2⟩:=tyV_is (T:="dict") I1 r1 (.inr (.inr (.inl ⟨rfl,.inl ⟨_,hd⟩⟩)))
 cases r1
 obtain⟨hz,lo,vs,kv,dd⟩:=dk_of I1.hok hd
 have hlen:kvs.length=vs.length:=Paired.length kv
 refine⟨"dict","dict.values",PySem.F.plainAttrs_dict,PySem.F.slot_dict_values,PySem.F.type_dict_values,h1,h2,Calls.callWith_builtin rfl (PySem.evalArgs_none ?_)⟩
 refine call_meetsIn PySem.F.slot_dict_values dd.typeIs PySem.F.entry_dict_values (PySem.F.args_dict_values_1 _) (meets_dict_values _ d lo) ⟨⟨vs,dd⟩,?_⟩
 have I2:Inv X pins σ H1 {s1 with heap:=s1.heap.push {cls:=.type "dict_values",data:=.fields #[.ref d]}}:=I1.kept (t':=s1.toks) fun b o e=>Heap.get?_push_of_some _ e
 obtain⟨hz,lo,vs,kv,dd⟩:=dk_of I2.hok hd
 have hlen:kvs.length=vs.length:=Paired.length kv
 obtain⟨ep,hat⟩:=dd.dictAt
 have hn:ns.length=vs.length:=by
  have:=congrArg List.length hv
  rw[List.length_map,List.length_map] at this
  omega
 have Ks:=kdl_values (prog:=X.prog) (w:=X.w) (r:=s1.heap.objs.size) (d:=d) (knd:=mixKind X.prog X.w) (kvs:=vs) (ep:=ep)
 have hok:({s1 with heap:=s1.heap.push {cls:=.type "dict_values",data:=.fields #[.ref d]}}:Shared).heap.IsValuesView s1.heap.objs.size d∧({s1 with heap:=s1.heap.push {cls:=.type "dict_values",data:=.fields #[.ref d]}}:Shared).heap.DictAt (mixKind X.prog X.w) d vs ep:=⟨⟨_,Heap.get?_push_size _ rfl,rfl,rfl⟩,hat⟩
 refine call_sum_walkAnyS ?_
 obtain⟨oI,St,hit,W,st⟩:=Ks.iter X.A.in1 _ (I.ok.hd hc) hok
 refine hit _ _ ⟨_,_,_,_,vs.length,_,_,fun i=>ns.getD i 0,rfl,W.toS,st,fun b hb=>?_,fun i v hP=>?_,fun s' t' hm'=>?_⟩
 ·show b< (Heap.push _ oI).objs.size
  rw[size_push']
  rcases List.mem_cons.mp hb with e | hb
  ·rw[e];exact Nat.lt_succ_self _
  ·rw[List.mem_singleton.mp hb];exact Nat.lt_succ_of_lt (Ks.there _ hok).2
 ·obtain⟨k,e⟩:=hP
  obtain⟨a,e1,e2⟩:=kv_val kv i e
  have e3:(kvs.map (·.2))[i]?=some a.2:=by rw[List.getElem?_map,e1];rfl
  rw[hv,List.getElem?_map] at e3
  obtain⟨n,en,ea⟩:=Option.map_eq_some_iff.mp e3
  rw[←ea] at e2
  obtain⟨t,e2⟩:=e2
  refine⟨t,?_⟩
  show v=Value.int (ns.getD i 0) t
  rw[List.getD_eq_getElem?_getD,en]
  exact e2
 ·have hk:∀b o,(s1.heap.push {cls:=.type "dict_values",data:=.fields #[.ref d]}).get? b=some o→s'.heap.get? b=some o:=fun b o e=>
   hm'.heap b o (fun hI=>absurd (Heap.lt_size e) (by rw[List.mem_singleton.mp hI];exact Nat.lt_irrefl _)) (Heap.get?_push_of_some _ e)
  rw[Moved.eq_with hm',←hn,preSum_list]
  exact⟨.int ns.sum,H1,I2.kept (t':=s'.toks) hk,⟨t',rfl⟩,q⟩
theorem comp_vals {α:Type} {J:It} {tc:TT} {te:TE} {tl:St} {H1:Hp} {fin:List V→Hp→Prop} {Item:Nat→V→Hp→Hp→Prop} (as:List α) (f:α→Option V) (S:Src J (Same H1) as.length Item) (sub:∀i x H H3,Item i x H H3→H3=H) (hz:as.length≤sizeLine)
  (hs:∀i a x,as[i]?=some a→Item i x H1 H1→∀(Y:VK) (N:Hp→Prop),(∀z,f a=some z→Y z H1)→(f a=none→N H1)→tc (some x::tl) H1 fun b H5=>if b=true then te (some x::tl) H5 Y else N H5)
  (hfin:fin (as.filterMap f) H1):tBlock J (gName 0) tc te (none::tl) H1 fin:=by
 refine block_src S (fun σ=>∃w0,σ=w0::tl) ⟨_,rfl⟩ (fun i ys H=>H=H1∧ys=(as.take i).filterMap f) ⟨rfl,by simp⟩ hz ?_ ?_
 ·rintro i x σ H ys H3 Q N hi sm ⟨rfl,rfl⟩ hl ⟨w0,rfl⟩ it kq kn
  obtain rfl:=sub _ _ _ _ it
  have ea:as[i]?=some as[i]:=List.getElem?_eq_getElem hi
  refine hs i _ x ea it _ _ (fun z e=>kq _ _ _ ⟨_,rfl⟩ sm ⟨rfl,?_⟩) (fun e=>kn _ _ ⟨_,rfl⟩ sm ⟨rfl,?_⟩)
  ·rw[List.take_add_one,ea,List.filterMap_append]
   simp [e]
  ·rw[List.take_add_one,ea,List.filterMap_append]
   simp [e]
 ·rintro ys H sm ⟨rfl,rfl⟩ hl
  rw[List.take_of_length_le (Nat.le_refl _)]
  exact hfin
theorem seq_gen {a b:TS} {D:Ends} {σ:St} {H:Hp} (C:St→Hp→Prop) (hb:∀σ' H',C σ' H'→b D σ' H') (ha:∀N:St→Hp→Prop,(∀σ' H',C σ' H'→N σ' H')→a {D with nx:=N} σ H):tSeq a b D σ H:=ha _ hb
theorem if_gen {tc:TT} {a b:TS} {D:Ends} {σ:St} {H:Hp} (C1 C2:Hp→Prop) (h1:∀H',C1 H'→a D σ H') (h2:∀H',C2 H'→b D σ H')
  (ht:∀Y N:Hp→Prop,(∀H',C1 H'→Y H')→(∀H',C2 H'→N H')→tc σ H fun v H'=>if v=true then Y H' else N H'):tIfS tc a b D σ H:=ht _ _ h1 h2
end
end L2
namespace Nm
noncomputable def pos (ps:Ws):Ws:=ps.filter fun p=>decide (0<p.2)
noncomputable def wof (ps:Ws):Ws:=addAll [] (pos ps)
noncomputable def bad (ps:Ws):Prop:=(∃p∈ps,p.2<0)∨pos ps=[]
theorem pos_snoc (ps:Ws) (p:Int×Int):pos (ps++ [p])=if 0<p.2 then pos ps++ [p] else pos ps:=by
 unfold pos
 rw[List.filter_append]
 by_cases c:0<p.2
 ·rw[if_pos c];simp [c]
 ·rw[if_neg c];simp [c]
theorem wof_snoc (ps:Ws) (p:Int×Int):wof (ps++ [p])=if 0<p.2 then addk (wof ps) p.1 p.2 else wof ps:=by
 unfold wof
 rw[pos_snoc]
 split
 ·rw[addAll_snoc]
 ·rfl
theorem wof_nodup (ps:Ws):(keys (wof ps)).Nodup:=nodup_addAll (by simp [keys])
theorem wof_len (ps:Ws):(wof ps).length≤ps.length:=by
 have:=len_addAll (pos ps) []
 have h2:(pos ps).length≤ps.length:=List.length_filter_le _ _
 unfold wof
 simp only[List.length_nil] at this
 omega
theorem wof_nil {ps:Ws}:wof ps=[]↔pos ps=[]:=by
 constructor
 ·intro h
  cases e:pos ps with
  | nil=>rfl
  | cons p r=>
   have m:p.1∈keys (wof ps):=by
    unfold wof
    rw[e]
    exact mem_addAll.mpr (.inr (by simp [keys]))
   rw[h] at m
   simp [keys] at m
 ·intro h
  unfold wof
  rw[h]
  rfl
theorem pos_pos (ps:Ws):∀p∈pos ps,0<p.2:=fun p hp=>by
 unfold pos at hp
 simpa using (List.mem_filter.mp hp).2
theorem wof_pos (ps:Ws):∀k∈keys (wof ps),0<look (wof ps) k:=fun k hk=>by
 unfold wof at *
 rw[look_addAll]
 have h:k∈keys (pos ps):=by
  rcases mem_addAll.mp hk with z | z
  ·simp [keys] at z
  ·exact z
 have:=cnt_pos (pos_pos ps) h
 simp only[look]
 omega
theorem wof_tot (ps:Ws):tot (wof ps)=tot (pos ps):=by
 unfold wof
 rw[tot_addAll]
 simp [tot]
theorem tot_pos_le {c:Int} (c0:0≤c):∀{ps:Ws},(∀p∈ps,p.2≤c)→tot (pos ps)≤ps.length*c
 | [],_=>by simp [pos,tot]
 | p::r,h=>by
  have ih:=tot_pos_le c0 fun q hq=>h q (List.mem_cons_of_mem _ hq)
  have hp:=h p List.mem_cons_self
  rw[List.length_cons,Int.natCast_succ,Int.add_mul]
  unfold pos at *
  rw[List.filter_cons]
  split
  ·rw[show tot (p::List.filter (fun p=>decide (0<p.2)) r)=p.2+tot (List.filter (fun p=>decide (0<p.2)) r) from by unfold tot;rw[List.map_cons,List.sum_cons]]
   omega
  ·omega
end Nm
namespace L2
open PySem PySem.Spec PyProof.Rows PySem.W
section
variable {X : Cx} {K : PySem.W.Frag}
theorem strs_of:∀{us:List Value} {ts:List Str},Vals (ts.map V.str) us→∃l:List (Str×Tok),strValues l=us∧l.map (·.1)=ts
 | _,[],.nil=>⟨[],rfl,rfl⟩
 | _,x::ts,.cons r t=>by
  obtain⟨k,rfl⟩:=(r:∃k,_=Value.str x k)
  obtain⟨l,rfl,rfl⟩:=strs_of t
  exact⟨(x,k)::l,rfl,rfl⟩
noncomputable def rJoin (K:PySem.W.Frag):V→List V→Hp→VK→Prop:=fun x xs H Q=>∃sep p ts,x=.str sep∧xs=[.ref p]∧SqL K H p (List.map V.str ts)∧JoinOk sep ts=true∧Q (.str (Txt.join sep ts)) H
theorem mt_join:MtR X "str.join" (rJoin X.K):=by
 intro pins s σ H x xs v us Q I rx rv h
 obtain⟨sep,p,ts,rfl,rfl,hq,ok,q⟩:=h
 obtain⟨t,rfl⟩:=rx
 obtain⟨u,rfl,ru⟩:=vals1 rv
 cases ru
 obtain⟨its,r,pl,hz⟩:=I.list hq
 obtain⟨l,rfl,e2⟩:=strs_of r
 exact SC.join pl.isList e2 ok fun t' k=>⟨.str _,H,I.tok _,⟨_,rfl⟩,q⟩
theorem mt_joinK (hK:X.K=K:=by rfl):MtR X "str.join" (rJoin K):=by subst hK;exact mt_join
theorem call_str_i:CallR X (.type "str") (fun xs H Q=>∃i,xs=[.int i]∧i.natAbs.log2<1920∧Q (.str (toString i)) H):=call_str_int
theorem call_int_b:CallR X (.type "int") (fun xs H Q=>∃k,xs=[.bl k]∧Q (.int (if k then 1 else 0)) H):=by
 intro pins s σ H xs us Q I r h
 exact call_int1 pins s σ H xs us Q I r (.inr h)
abbrev TJ:=Str→TE
noncomputable def jNil:TJ:=fun acc _ H Q=>Q (.str acc) H
noncomputable def jLit (x:Str) (t:TJ):TJ:=fun acc σ H Q=>(acc++x).length≤sizeLine∧t (acc++x) σ H Q
noncomputable def jInt (te:TE) (t:TJ):TJ:=fun acc σ H Q=>te σ H fun v H1=>∃i,v=.int i∧i.natAbs.log2<1920∧(acc++toString i).length≤sizeLine∧t (acc++toString i) σ H1 Q
noncomputable def jStr (te:TE) (t:TJ):TJ:=fun acc σ H Q=>te σ H fun v H1=>∃z,v=.str z∧z.length≤sizeLine∧(acc++z).length≤sizeLine∧t (acc++z) σ H1 Q
noncomputable def tJoined (t:TJ):TE:=fun σ H Q=>t Str.empty σ H Q
end
end L2
namespace L2
open PySem PySem.Spec PyProof.Rows PySem.W
inductive Pl where
 | fin (w:Int×Int) | thr (w:Int×Int) (ws:List (Int×Int)) | pck (who:Int) (to:List Int)
theorem depth_flat {ds:List Dat} {n:Nat} (h:∀d∈ds,depth d≤n):depth.dL ds≤n:=by
 induction ds with
 | nil=>rw[depth.dL];omega
 | cons d ds ih=>
  rw[depth.dL]
  have:=h d List.mem_cons_self
  have:=ih fun e he=>h e (List.mem_cons_of_mem _ he)
  omega
noncomputable def hid (H:Hp) (p:Addr):Hp:=fun a=>if a=p then none else H a
theorem hid_ne {H:Hp} {p a:Addr} (h:a≠p):hid H p a=H a:=if_neg h
theorem hid_upd {H:Hp} {p:Addr} {o:HO}:Same (hid H p) (upd H p o):=fun a u e=>by
 unfold hid at e
 by_cases h:a=p
 ·rw[if_pos h] at e;cases e
 ·rw[if_neg h] at e;rw[upd_ne h];exact e
theorem hid_sub {H:Hp} {p:Addr}:Same (hid H p) H:=fun a u e=>by
 unfold hid at e
 by_cases h:a=p
 ·rw[if_pos h] at e;cases e
 ·rw[if_neg h] at e;exact e
theorem same_hid {H0 H:Hp} {p:Addr} (s:Same H0 H) (n:H0 p=none):Same H0 (hid H p):=fun a u e=>by
 rw[hid_ne (fun z=>by rw[z,n] at e;cases e)]
 exact s _ _ e
theorem hid_mono {H H':Hp} {p:Addr} (s:Same H H'):Same (hid H p) (hid H' p):=fun a u e=>by
 unfold hid at *
 by_cases h:a=p
 ·rw[if_pos h] at e;cases e
 ·rw[if_neg h] at e ⊢;exact s _ _ e
theorem same_upd_of {H0 H:Hp} {p:Addr} {o:HO} (s:Same H0 H) (n:H0 p=none):Same H0 (upd H p o):=(same_hid s n).trans hid_upd
section
variable {X : Cx} {K : PySem.W.Frag}
end
end L2
namespace PySem
section
variable {prog : Program} {w : World} {A : Around} {E : Value → Shared → Prop} {s : Shared}
end
end PySem
namespace L2
open PySem PySem.Spec PyProof.Rows PySem.W
section
variable {X : Cx} {K : PySem.W.Frag}
noncomputable def tRev (K:PySem.W.Frag) (te:TE):TE:=fun σ H Q=>te σ H fun v H1=>∃p xs,v=.ref p∧SqL K H1 p xs∧∀l,H1 l=none→Q (.ref l) (upd H1 l (.lst xs.reverse))
noncomputable def tD1 (tk tv:TE):TE:=fun σ H Q=>∀d,H d=none→tk σ (upd H d (.dK [])) fun x H1=>tv σ H1 fun v H2=>∃k,x=kV k∧H2 d=some (.dK [])∧Q (.ref d) (upd H2 d (.dK [(k,v)]))
end
end L2
namespace PySem
section
variable {prog : Program} {w : World} {A : Around} {R : Result → Shared → Prop} {I : Addr} {fp wr : List Addr} {n : Nat} {P : Nat → Value → Prop} {St : Nat → Heap → Prop} {kw : List (Str × Value)}
end
section
variable {prog : Program} {w : World} {A : Around} {E : Value → Shared → Prop} {s : Shared}
end
end PySem
namespace L2
open PySem PySem.Spec PyProof.Rows PySem.W
section
variable {X : Cx} {K : PySem.W.Frag}
noncomputable def tMaxD (K:PySem.W.Frag) (te td:TE):TE:=fun σ H Q=>te σ H fun v H1=>td σ H1 fun dv H2=>∃p ns,v=.ref p∧SqL K H2 p (List.map V.int ns)∧(ns=[]→Q dv H2)∧∀M,M∈ns→(∀a∈ns,a≤M)→Q (.int M) H2
noncomputable def tLR (te:TE):TE:=fun σ H Q=>te σ H fun v H1=>∃n:Nat,v=.int (n:Int)∧n≤1000000∧∀l,H1 l=none→Q (.ref l) (upd H1 l (.lst ((List.range n).map fun i:Nat=>V.int (i:Int))))
end
end L2
namespace PySem
open Builtin Builtin.Str
section
variable {prog : Program} {w : World} {A : Around} {E : Value → Shared → Prop} {s : Shared} {x y : Str} {t u : Tok} {Q : Value → Shared → Prop}
theorem call_split (hy:(y.length==0)=false)
  (hq:∀l k,l.map (·.1)=Txt.split x y→Q (.ref s.heap.objs.size) {s with heap:=s.heap.push {cls:=.type "list",data:=.seq (strValues l).toArray},toks:=k})
  (hsz:x.length≤sizeLine) (hsz2:(partsBetween x (occurrences x y 0 x.length (x.length+1)) y.length).length≤sizeLine):
  wpAny (model prog w) A (call (.builtin "str.split") [.str x t,.str y u]) Q E s:=by
 cases h1:(decide (x.length<y.length) || decide (Builtin.Str.strKind x<Builtin.Str.strKind y))
 ·cases hf:(occurrences x y 0 x.length (x.length+1)).isEmpty
  ·refine call_meets F.slot_str_split (typeIs_str _ _ _) F.entry_str_split (F.args_str_split_2 _ _) (meets_str_split_sep x y t u h1 hy hf hsz hsz2) ?_
   show wants Q E _ {s with toks:=_,heap:=s.heap.push {cls:=.type "list",data:=.seq (strsFrom s.toks (partsBetween x (occurrences x y 0 x.length (x.length+1)) y.length)).toArray}}
   rw[strsFrom_eq]
   exact hq (numbered s.toks _) _ ((numbered_texts _ _).trans ((if_neg (ne_true_of_eq_false h1)).trans (if_neg (ne_true_of_eq_false hf))).symm)
  ·exact call_meets F.slot_str_split (typeIs_str _ _ _) F.entry_str_split (F.args_str_split_2 _ _) (meets_str_split_not_found x y t u h1 hy hf)
    (hq [(x,t)] s.toks ((if_neg (ne_true_of_eq_false h1)).trans (if_pos hf)).symm)
 ·exact call_meets F.slot_str_split (typeIs_str _ _ _) F.entry_str_split (F.args_str_split_2 _ _) (meets_str_split_cannot_occur x y t u h1)
   (hq [(x,t)] s.toks (if_pos h1).symm)
end
theorem cut_inj {c:Nat}:∀{a b r q:List Nat},c∉a→c∉b→a++c::r=b++c::q→a=b∧r=q
 | [],[],r,q,_,_,h=>by simp at h;exact⟨rfl,h⟩
 | [],y::b,r,q,_,hb,h=>by simp at h;exact absurd (h.1▸List.mem_cons_self) hb
 | x::a,[],r,q,ha,_,h=>by simp at h;exact absurd (h.1▸List.mem_cons_self) ha
 | x::a,y::b,r,q,ha,hb,h=>by
  simp only[List.cons_append,List.cons.injEq] at h
  obtain⟨e1,e2⟩:=cut_inj (fun m=>ha (List.mem_cons_of_mem _ m)) (fun m=>hb (List.mem_cons_of_mem _ m)) h.2
  exact⟨by rw[h.1,e1],e2⟩
theorem str_ext {a b:Str} (h:a.cps.toList=b.cps.toList):a=b:=by
 cases a;cases b
 congr 1
 exact Array.toList_inj.mp h
theorem join_cons (c:Nat) (x y:Str) (r:List Str):(Str.join ⟨#[c]⟩ (x::y::r)).cps.toList=x.cps.toList++c::(Str.join ⟨#[c]⟩ (y::r)).cps.toList:=by
 show(x++ ⟨#[c]⟩++Str.join ⟨#[c]⟩ (y::r)).cps.toList=_
 simp only[Str.cps_append,Array.toList_append,List.append_assoc]
 rfl
theorem join_inj (c:Nat):∀(ps qs:List Str),ps≠[]→qs≠[]→(∀p∈ps,c∉p.cps.toList)→(∀p∈qs,c∉p.cps.toList)→Str.join ⟨#[c]⟩ ps=Str.join ⟨#[c]⟩ qs→ps=qs
 | [],_,h,_,_,_,_=>absurd rfl h
 | _,[],_,h,_,_,_=>absurd rfl h
 | [x],[y],_,_,_,_,e=>by
  have e:x=y:=e
  rw[e]
 | [x],y::y2::r,_,_,hp,_,e=>by
  exfalso
  have e:=congrArg (fun z:Str=>z.cps.toList) e
  simp only[join_cons] at e
  refine hp x List.mem_cons_self ?_
  have e:x.cps.toList=_:=e
  rw[e]
  exact List.mem_append_right _ List.mem_cons_self
 | x::x2::r,[y],_,_,_,hq,e=>by
  exfalso
  have e:=congrArg (fun z:Str=>z.cps.toList) e
  simp only[join_cons] at e
  refine hq y List.mem_cons_self ?_
  have e:_=y.cps.toList:=e
  rw[←e]
  exact List.mem_append_right _ List.mem_cons_self
 | x::x2::r,y::y2::q,_,_,hp,hq,e=>by
  have e:=congrArg (fun z:Str=>z.cps.toList) e
  simp only[join_cons] at e
  obtain⟨e1,e2⟩:=cut_inj (hp x List.mem_cons_self) (hq y List.mem_cons_self) e
  rw[str_ext e1,join_inj c (x2::r) (y2::q) (by simp) (by simp) (fun p m=>hp p (List.mem_cons_of_mem _ m)) (fun p m=>hq p (List.mem_cons_of_mem _ m)) (str_ext e2)]
theorem split_ne (x y:Str):Txt.split x y≠[]:=by
 unfold Txt.split
 split
 ·simp
 ·split
  ·simp
  ·unfold Builtin.Str.partsBetween
   cases Builtin.Str.occurrences x y 0 x.length (x.length+1) <;>simp
theorem split_join (c:Nat) {ps:List Str} (h:ps≠[]) (hp:∀p∈ps,c∉p.cps.toList):Txt.split (Txt.join ⟨#[c]⟩ ps) ⟨#[c]⟩=ps:=by
 have e:Txt.join ⟨#[c]⟩ ps=Str.join ⟨#[c]⟩ ps:=StrLaws.glued_eq_join _ _
 rw[e]
 exact join_inj c _ _ (split_ne _ _) h (StrLaws.split_free _ c) hp (StrLaws.join_split _ _)
end PySem
namespace L2
open PySem PySem.Spec PyProof.Rows PySem.W
section
variable {X : Cx} {K : PySem.W.Frag}
theorem strVals:∀(l:List (Str×Tok)),Vals (List.map V.str (l.map (·.1))) (strValues l)
 | []=>.nil
 | p::l=>.cons ⟨p.2,rfl⟩ (strVals l)
theorem parts_len (x y:Str):(Builtin.Str.partsBetween x (Builtin.Str.occurrences x y 0 x.length (x.length+1)) y.length).length≤x.length+2:=by
 have:=StrLaws.occ_length_le x y 0 x.length (x.length+1)
 unfold Builtin.Str.partsBetween
 simp only[List.length_map,List.length_zip,List.length_cons,List.length_append,List.length_singleton]
 omega
theorem mt_split:MtR X "str.split" (fun x xs H Q=>∃z c,x=.str z∧xs=[.str ⟨#[c]⟩]∧z.length≤1000000∧∀l,H l=none→Q (.ref l) (upd H l (.lst (List.map V.str (Txt.split z ⟨#[c]⟩))))):=by
 intro pins s σ H x xs v us Q I rx rv h
 obtain⟨z,c,rfl,rfl,hz,q⟩:=h
 obtain⟨t,rfl⟩:=rx
 obtain⟨u,rfl,ru⟩:=vals1 rv
 obtain⟨t2,rfl⟩:=ru
 have pl:=parts_len z ⟨#[c]⟩
 have sl:=sizeLine_eq
 have fr:=I.hok.fresh (a:=s.heap.objs.size) (Nat.le_refl _)
 refine call_split rfl (fun l k e=>?_) (by omega) (by omega)
 have lv:=strVals l
 rw[e] at lv
 have ll:=lv.length
 rw[List.length_map] at ll
 refine⟨.ref s.heap.objs.size,_,I.laid (t':=k) (fun b o e=>Heap.get?_push_of_some _ e) (Nat.le_refl _) (o:=.lst (List.map V.str (Txt.split z ⟨#[c]⟩))) ⟨?_,strValues l,0,lv,?_⟩,rfl,q _ fr⟩
 ·rw[List.length_map]
  have:(Txt.split z ⟨#[c]⟩).length≤z.length+2:=by
   unfold Txt.split
   split
   ·simp
   ·split
    ·simp
    ·exact pl
  omega
 ·exact Heap.get?_push_size _ rfl
theorem call_int_s:CallR X (.type "int") (fun xs H Q=>∃z n,xs=[.str z]∧z.length≤640∧PySem.intText? z=some n∧Q (.int n) H):=by
 intro pins s σ H xs us Q I r h
 obtain⟨z,n,rfl,hl,hn,q⟩:=h
 obtain⟨u,rfl,t,rfl⟩:=vals1 r
 exact PySem.W.KIN.call_text hn hl ⟨.int n,H,I.tok _,⟨_,rfl⟩,q⟩
theorem call_lenS:CallR X (.builtin "len") (fun xs H Q=>∃z,xs=[.str z]∧z.length≤sizeLine∧Q (.int z.length) H):=call_len_str
noncomputable def Its (z:Str):It:=⟨fun i _=>i<z.cps.size,fun i H x H'=>H'=H∧∃c,z.cps[i]?=some c∧x=.str ⟨#[c]⟩,fun i _=>z.cps.size≤i⟩
theorem turn_str {P:Program} {w:World} {tg:Expr} (z:Str) (t:Tok) (it:Addr):Turn P w K tg (Its z) [it] it (fun i h=>h.IsStrIter it "str_ascii_iterator" z t i) where
 mem:=by simp
 obj:=fun i h st b hb=>by
  have e:b=it:=by simpa using hb
  subst e
  obtain⟨o,e,c,d⟩:=st
  exact⟨o,e,fun v z=>by rw[d] at z;cases z⟩
 keep:=fun i h h' st k=>let ⟨o,e,r⟩:=st;⟨o,k it (by simp) o e,r⟩
 item:=by
  intro X hP hw hK hc i pins s σ H E I hf st hg
  subst hP hw hK
  obtain⟨f0,f1,f2,f3,f4,f5⟩:=hf it (by simp)
  have hg:i<z.cps.size:=hg
  refine wpAny_pyNext_ascii_item st (c:=z.cps[i]) (by simp [hg]) fun h' st' sb=>?_
  have I1:Inv X pins σ H {s with heap:=h',toks:=s.toks+1}:=I.turned (t':=s.toks+1) (fun b o hb e=>(sb.2 b hb).trans e) f0 f1 f3 f4 f5
  obtain⟨o,e,c,d⟩:=id st'
  exact⟨_,rfl,go_of (s:={s with heap:=h',toks:=s.toks+1}) e c d (by decide) ⟨.str ⟨#[z.cps[i]]⟩,H,I1,⟨_,rfl⟩,⟨rfl,_,by simp [hg],rfl⟩,st',fun b hb=>(hf b hb).1⟩⟩
 done:=by
  intro X hP hw hK hc i pins s σ H E I hf st hg
  subst hP hw hK
  obtain⟨f0,f1,f2,f3,f4,f5⟩:=hf it (by simp)
  have hg:z.cps.size≤i:=hg
  exact wpAny_pyNext_ascii_end (I.ok.hd hc) st (by simp [hg]) fun h' eb=>⟨rfl,I.turned (t':=s.toks) (fun b o hb e=>eb b o hb e) f0 f1 f3 f4 f5⟩
 self:=fun _ _ _ _ _ st h=>wpAny_pyIter_striter_ascii st h
noncomputable def iStr (tl:TE):TI:=fun σ H R=>tl σ H fun x H1=>∃z,x=.str z∧z.cps.all (·<128)=true∧R (Its z) H1
theorem pi_str {tg l:Expr} {tl:TE} (hl:PE X l tl):PI X tg l (iStr tl):=by
 intro pins s σ H R I h
 refine thn (hl pins s σ H _ I h) fun v s1 hh_=>?_
 obtain⟨x,H1,I1,r1,q1⟩:=hh_
 obtain⟨z,e,ha,q⟩:=q1
 subst e
 obtain⟨t,rfl⟩:=r1
 refine wpAny_pyIter_ascii ha ?_
 refine⟨s1.heap.objs.size,[s1.heap.objs.size],_,_,H1,rfl,I1.kept (t':=s1.toks) fun b o e=>Heap.get?_push_of_some _ e,turn_str z t _,⟨_,Heap.get?_push_size _ rfl,rfl,rfl⟩,fun b hb=>?_,q⟩
 have e:b=s1.heap.objs.size:=by simpa using hb
 subst e
 exact I1.fpOk (Nat.le_refl _) (I1.hok.fresh (Nat.le_refl _))
theorem src_str {z:Str} {Ok:Hp→Prop}:Src (Its z) Ok z.cps.size (fun i x H H3=>H3=H∧∃c,z.cps[i]?=some c∧x=.str ⟨#[c]⟩) where
 go:=fun i H hi _=>hi
 yld:=fun i H x H3 hi _ y=>y
 stop:=fun H _=>Nat.le_refl _
theorem comp_map3 {K:PySem.W.Frag} {J:It} {te:TE} {tl:St} {H1:Hp} {fin:List V→Hp→Prop} {n:Nat} {Item:Nat→V→Hp→Hp→Prop} (S:Src J (Same H1) n Item) (It2:Nat→V→V→V→Hp→Prop)
  (tp:∀i x H H3,i<n→Same H1 H→Item i x H H3→Same H H3∧∃p a b c,x=.ref p∧SqT K H3 p [a,b,c]∧It2 i a b c H3) (hz:n≤sizeLine)
  (R:Nat→V→Hp→Prop) (mono:∀i y H H',Same H H'→R i y H→R i y H')
  (hs:∀i a b c H3 (Q:VK),i<n→Same H1 H3→It2 i a b c H3→(∀y H6,Same H3 H6→R i y H6→Q y H6)→te (some a::some b::some c::tl) H3 Q)
  (hfin:∀ys H,Same H1 H→ys.length=n→(∀(i:Nat) y,ys[i]?=some y→R i y H)→fin ys H):tBlock J (gTup K 3 (gCons (gName 0) (gCons (gName 1) (gCons (gName 2) gNil)))) tYes te (none::none::none::tl) H1 fin:=by
 refine⟨fun i m ys σ H=>m=n - i∧i≤n∧ys.length=i∧(∃w w' w'',σ=w::w'::w''::tl)∧Same H1 H∧∀(j:Nat) y,ys[j]?=some y→R j y H,⟨n,by simp,Nat.zero_le _,rfl,⟨_,_,_,rfl⟩,Same.refl _,fun j y e=>by simp at e⟩,?_⟩
 rintro i m ys σ H ⟨rfl,hi,hl,⟨w,w',w'',rfl⟩,sm,p⟩
 by_cases hlt:i<n
 ·refine .inr ⟨S.go i H hlt sm,fun x H3 y=>?_⟩
  obtain⟨s3,q,a,b,c,rfl,sq,it⟩:=tp i x H H3 hlt sm (S.yld i H x H3 hlt sm y)
  refine⟨q,_,rfl,sq,rfl,_,_,rfl,_,_,rfl,_,_,rfl,rfl,?_⟩
  unfold tYes
  refine iteT ?_
  refine hs i a b c H3 _ hlt (sm.trans s3) it fun y H6 s6 r=>⟨by omega,n - (i+1),by omega,rfl,hlt,by rw[List.length_append,List.length_singleton];omega,⟨_,_,_,rfl⟩,sm.trans (s3.trans s6),fun j z e=>?_⟩
  by_cases hj:j<i
  ·rw[List.getElem?_append_left (by omega)] at e
   exact mono j z _ _ (s3.trans s6) (p j z e)
  ·rw[List.getElem?_append_right (by omega)] at e
   have e2:j - ys.length=0:=by
    by_cases q:j - ys.length=0
    ·exact q
    ·rw[List.getElem?_eq_none (by simp;omega)] at e;cases e
   rw[e2] at e
   simp at e
   subst e
   have:j=i:=by omega
   subst this
   exact r
 ·have e:i=n:=by omega
  subst e
  exact .inl ⟨S.stop H sm,hfin ys H sm hl p⟩
theorem pe_globI {x:Str} {i:Int} {pos:Pos} (hg:Gl X x) (h:∃t,X.mg x=some (.int i t)) (hd:(x==("__debug__":Str))=false:=by decide):PE X (.Name x pos) (tC (.int i)):=by
 obtain⟨t,h⟩:=h
 exact pe_glob hg h ⟨t,rfl⟩ hd
theorem pe_globS {x:Str} {i:Str} {pos:Pos} (hg:Gl X x) (h:∃t,X.mg x=some (.str i t)) (hd:(x==("__debug__":Str))=false:=by decide):PE X (.Name x pos) (tC (.str i)):=by
 obtain⟨t,h⟩:=h
 exact pe_glob hg h ⟨t,rfl⟩ hd
theorem ix_strH:IxR X rIxS:=ix_str
end
end L2
namespace PySem
end PySem
namespace PySem
section
variable {M : Model} {A : Around} {E : Value → Shared → Prop} {s : Shared} {env : Env}
end
end PySem
namespace L2
open PySem PySem.Spec PyProof.Rows PySem.W
section
variable {M : Model} {A : Around} {E : Value → Shared → Prop} {s : Shared} {B : Heap} {l : List Env} {ad L : Addr} {cls a0 : Value} {p : Prop}
theorem pass_held {α:Type} {what:String} {ce:Env} {Q:α→Shared→Prop} (hh:Heap.HeldW B l ad cls a0 L s.heap) (hf:ce.frame=some L) (nc:p→NoCx s.heap ad)
  (k:∀h',Heap.HeldW B l ad cls a0 L h'→s.heap.UpToSlots h'→(p→NoCx h' ad)→E (.ref ad) {s with heap:=h'}):wpAny M A (PySem.passOn what (.ref ad) ce:Sem α) Q E s:=by
 obtain⟨st,na,ff,oe,vs,T,oT,ts,g1,g2,g3,g4,g5,g6,g7,g8,g9⟩:=id hh
 have sz:3<ts.size:=(Array.getElem?_eq_some_iff.mp g9).1
 unfold PySem.passOn
 refine wpAny_bind (wpAny_field g1 g3 g4 ?_)
 have nz:¬(Value.ref T==Value.none)=true:=by simp
 rw[if_neg nz,hf]
 have ot:∀{f:Obj→Obj} b,b≠T→(s.heap.update T f).get? b=s.heap.get? b:=fun b hb=>Heap.get?_update_other _ _ (Ne.symm hb)
 have nr:∀b o,s.heap.get? b=some o→(∀us,o.data≠.fields us)→b≠T:=fun b o e nf z=>by
  rw[z,g7] at e
  cases e
  exact nf ts g8
 have fin:wpAny M A (setFlight (.ref ad) (some L)) (fun _ s1=>wpAny M A (throw (.ref ad):Sem α) Q E s1) E s:=by
  unfold setFlight
  refine wpAny_bind (wpAny_field g1 g3 g4 ?_)
  have yz:(Value.ref T !=Value.none)=true:=by simp
  rw[if_pos yz]
  refine wpAny_setField g7 g8 sz (wpAny_throw (k _ ⟨fun b o e=>?_,na,?_,?_⟩ (fun b o e nf=>?_) fun hp=>?_))
  ·refine(ot b fun z=>?_).trans (st b o e)
   rw[z,g5] at e
   cases e
  ·exact Heap.FunFrames.of_keeps (fun b o e nf=>⟨o,(ot b (nr b o e nf)).trans e,rfl⟩) ff
  ·exact⟨oe,vs,T,_,_,(ot ad (Ne.symm g6)).trans g1,g2,g3,g4,g5,g6,Heap.get?_update_self _ g7 (Obj.isFreed_of_fields (Obj.data_mapFields g8 _)),Obj.data_mapFields g8 _,by simp [sz]⟩
  ·exact⟨o.slots,(ot b (nr b o e nf)).trans e⟩
  ·obtain⟨o,ws,q,d,r⟩:=nc hp
   exact⟨o,ws,(ot ad (Ne.symm g6)).trans q,d,r⟩
 first
  | exact wpAny_bind (wpAny_pure (wpAny_bind fin))
  | exact wpAny_bind fin
theorem leave_held {en:Env} {r:List Env} {Q:Unit→Shared→Prop} (hf:en.frame=some L) (hh:Heap.HeldW B (en::r) ad cls a0 L s.heap) (nc:p→NoCx s.heap ad)
  (k:∀h',Heap.FlyingW B r ad cls a0 h'→s.heap.UpToSlots h'→(p→NoCx h' ad)→Q () {s with heap:=h'}):wpAny M A (leaving en (.ref ad)) Q E s:=by
 have lands:wpAny M A (setFlight (.ref ad) none) Q E s:=land_nc hh.1 hh.2.1 hh.2.2.1 hh.2.2.2 nc fun h' fl up n2=>by
  obtain⟨p1,p2,p3,p4⟩:=fl
  exact k h' ⟨p1,p2,p3.2.2,p4⟩ up n2
 unfold leaving
 exact wpAny_bind (wpAny_noteFrame_againW hf hh.2.2.2 lands)
end
section
variable {P : Program} {w : World} {K : PySem.W.Frag} {mg : Str → Option Value} {base : Heap} {N : List Str} {qual : Str} {scope : Scope} {f : Addr} {cdv : Value} {A : Around} {outer : List Env} {s0 : Shared} {H0 : Hp} {E : XK}
end
end L2
namespace L2
open PySem PySem.Spec PyProof.Rows PySem.W
section
variable {X : Cx}
end
end L2
namespace L2
open PySem PySem.Spec PyProof.Rows PySem.W
abbrev IsTri (h:Heap) (T:Addr) (a b c:Value):Prop:=h.get? T=some {cls:=.type "tuple",data:=.seq #[a,b,c]}
structure Ap3 (z TI TO i1 i2 i3 a b c:Addr):Prop where
 TIz:TI≠z
 TOz:TO≠z
 i1z:i1≠z
 i2z:i2≠z
 i3z:i3≠z
 TITO:TI≠TO
 TI1:TI≠i1
 TI2:TI≠i2
 TI3:TI≠i3
 TO1:TO≠i1
 TO2:TO≠i2
 TO3:TO≠i3
 i12:i1≠i2
 i13:i1≠i3
 i23:i2≠i3
 az:a≠z
 bz:b≠z
 cz:c≠z
 bTO:b≠TO
 cTO:c≠TO
 b1:b≠i1
 c1:c≠i1
 c2:c≠i2
section
variable {prog : Program} {w : World} {A : Around} {E : Value → Shared → Prop} {s : Shared}
end
abbrev z3a (h:Heap) (la:Addr):Heap:=h.push {cls:=.type "list_iterator",data:=.fields #[.ref la,.int 0 0]}
abbrev z3b (h:Heap) (la lb:Addr):Heap:=(z3a h la).push {cls:=.type "list_iterator",data:=.fields #[.ref lb,.int 0 0]}
abbrev z3c (h:Heap) (la lb lc:Addr):Heap:=(z3b h la lb).push {cls:=.type "list_iterator",data:=.fields #[.ref lc,.int 0 0]}
abbrev z3d (h:Heap) (la lb lc:Addr):Heap:=(z3c h la lb lc).push {cls:=.type "tuple",data:=.seq #[.ref h.objs.size,.ref (z3a h la).objs.size,.ref (z3b h la lb).objs.size]}
abbrev z3e (h:Heap) (la lb lc:Addr):Heap:=(z3d h la lb lc).push {cls:=.type "tuple",data:=.seq #[.none,.none,.none]}
abbrev z3f (h:Heap) (la lb lc:Addr):Heap:=(z3e h la lb lc).push {cls:=.type "zip",data:=.fields #[.none,.bool false,.bool false,.ref (z3c h la lb lc).objs.size,.ref (z3d h la lb lc).objs.size]}
section
variable {prog : Program} {w : World} {A : Around} {E : Value → Shared → Prop} {s : Shared}
end
section
variable {X : Cx} {elts : List Expr} {kk : Nat} {tpos : Pos} {K : PySem.W.Frag}
end
end L2
namespace L2
open PySem PySem.Spec PyProof.Rows PySem.W
noncomputable def txV:V→Option Str
 | .str z=>some z
 | .int i=>if i.natAbs.log2<1920 then some (Str.ofString (toString i)) else none
 | _=>none
section
variable {X : Cx} {K : PySem.W.Frag}
theorem call_str_v:CallR X (.type "str") (fun xs H Q=>∃x z,xs=[x]∧txV x=some z∧Q (.str z) H):=by
 intro pins s σ H xs us Q I r h
 obtain⟨x,z,rfl,hz,q⟩:=h
 obtain⟨u,rfl,ru⟩:=vals1 r
 cases x with
 | str y=>
  obtain⟨t,rfl⟩:=ru
  cases hz
  exact PySem.P.str_of_str ⟨.str _,H,I,⟨_,rfl⟩,q⟩
 | int i=>
  obtain⟨t,rfl⟩:=ru
  have hz:(if i.natAbs.log2<1920 then some (Str.ofString (toString i)) else none)=some z:=hz
  by_cases c:i.natAbs.log2<1920
  ·rw[if_pos c] at hz
   cases hz
   exact PySem.P.str_of_int c ⟨.str _,H,I.tok _,⟨_,rfl⟩,q⟩
  ·rw[if_neg c] at hz
   cases hz
 | _=>cases hz
end
end L2
namespace L2
open PySem PySem.Spec PyProof.Rows PySem.W
section
variable {X : Cx} {K : PySem.W.Frag}
noncomputable def tSortR (K:PySem.W.Frag) (te:TE):TE:=fun σ H Q=>te σ H fun v H1=>∃p ns,v=.ref p∧SqL K H1 p (List.map V.int ns)∧ns.length<64∧∀l,H1 l=none→Q (.ref l) (upd H1 l (.lst (List.map V.int (Nm.srt ns).reverse)))
theorem pe_sortR {e d:Expr} {te:TE} {p1 pos kp:Pos} (hg:Gl X "sorted") (hm:X.mg "sorted"=none) (he:PE X e te) (hd:PE X d (tC (.bl true))) (n1:noStar e=true:=by rfl):
  PE X (.Call (.Name "sorted" p1) [e] [⟨some "reverse",d,kp⟩] pos) (tSortR X.K te):=by
 intro pins s σ H Q I h
 refine wpAny_Call_Name_kw (ld_blt I hg hm (u:=.builtin "sorted") rfl ?_ (by decide) (by decide))
 refine PyProof.Rows.callWith_kw (e:=e) (rest:=[]) ?_ (by rw[se n1];rfl) (by rw[se n1];rfl) rfl rfl
 rw[se n1]
 show wpAny _ _ (spliced [(false,eval e X.env)]) _ _ s
 refine Calls.spliced_cons (thn (he pins s σ H _ I h) fun u s1 ⟨x,H1,I1,r1,q1⟩=>Calls.spliced_nil ?_)
 refine PyProof.Rows.kws_cons (thn (hd pins s1 σ H1 (fun v H2=>v=.bl true∧H2=H1) I1 ⟨rfl,rfl⟩) fun dv s2 ⟨y,H2,I2,r2,ey,eh⟩=>PyProof.Rows.kws_nil ?_)
 subst ey
 subst eh
 have r2:dv=.bool true:=r2
 subst r2
 obtain⟨p,ns,rfl,hq,hn,q⟩:=q1
 cases r1
 obtain⟨its,rv,pl,hz⟩:=I2.list hq
 have hl:=rv.length
 rw[List.length_map] at hl
 show wpAny _ _ (call (.builtin "sorted") [.ref p] [(Str.ofString "reverse",.bool true)]) _ _ _
 refine sorted_ints_rev pl.isList (intsAre_of rv) (by omega) fun out ns' a1 a2 a3=>?_
 have a3:ns'.Pairwise (·≥·):=a3
 have e3:ns'=(Nm.srt ns).reverse:=by
  have:=Nm.srt_one ((List.reverse_perm ns').trans a2) (List.pairwise_reverse.mpr a3)
  rw[←this,List.reverse_reverse]
 subst e3
 obtain⟨e,he⟩:=sortedAll_at s2.heap its out
 have fr:=I2.hok.fresh (a:=s2.heap.objs.size+1) (Nat.le_succ _)
 refine⟨.ref (s2.heap.objs.size+1),_,I2.laid (t':=s2.toks) (fun _ _=>sortedAll_old) (Nat.le_succ _) (o:=.lst (List.map V.int (Nm.srt ns).reverse)) ⟨?_,out.toList,e,vals_ints_of a1,?_⟩,rfl,q _ fr⟩
 ·rw[List.length_map,List.length_reverse,Nm.srt_length,sizeLine_eq];omega
 ·exact he
theorem pe_sortRK {e d:Expr} {te:TE} {p1 pos kp:Pos} (hg:Gl X "sorted") (hm:X.mg "sorted"=none) (he:PE X e te) (hd:PE X d (tC (.bl true))) (n1:noStar e=true:=by rfl) (hK:X.K=K:=by rfl):
  PE X (.Call (.Name "sorted" p1) [e] [⟨some "reverse",d,kp⟩] pos) (tSortR K te):=by subst hK;exact pe_sortR hg hm he hd n1
end
end L2
namespace PySem.SeqAt
open AutoSeq1 (wpAny_loadPart')
open MeetsSeq MeetsSeq2 MeetsSeq3
end PySem.SeqAt
namespace L2
open PySem PySem.Spec PyProof.Rows PySem.W
noncomputable def lexGe:List Int→List Int→Bool
 | [],[]=>true
 | [],_::_=>false
 | _::_,[]=>true
 | a::r,b::q=>if a=b then lexGe r q else decide (b≤a)
section
variable {X : Cx} {K : PySem.W.Frag}
end
end L2
namespace PySem.UL
section
variable {prog : Program} {w : World} {A : Around} {E : Value → Shared → Prop} {s : Shared}
end
end PySem.UL
namespace L2
open PySem PySem.Spec PyProof.Rows PySem.W
section
variable {X : Cx} {K : PySem.W.Frag}
end
end L2
namespace L2
open PySem PySem.Spec PyProof.Rows
structure MkCal (P:Program) (w:World) (K:PySem.W.Frag) (mg:Str→Option Value) (base:Heap) (CX:CXT) (k:Nat) (x:Str) (C:Addr) (ps:List Str) (sp:Sp):Prop where
 ex:∃f fd,Mk K C f∧FnOk P w K mg base CX k f fd ps sp∧mg x=some (.ref C)∧Binds K fd ps []
section
variable {X : Cx}
theorem pe_mk {CX:CXT} {k:Nat} {x:Str} {C:Addr} {ps:List Str} {sp:Sp} {E:XK} {e:Expr} {es:List Expr} {t:TA} {p pos:Pos} (M:MkCal X.prog X.w X.K X.mg X.base CX k x C ps sp) (hr:Room (k+1) X.A) (hg:Gl X x) (hx:Passes CX X E) (ha:PA X (e::es) t)
  (hdb:(x==("__debug__":Str))=false:=by decide) (he:starEach (e::es) X.env=(false,eval e X.env)::starEach es X.env:=by rfl) (hpl:(backTo pos (starEach es X.env)).any (·.1)=false:=by rfl):
  PE X (.Call (.Name x p) (e::es) [] pos) (tMake C sp [] E t):=by
 obtain⟨f,fd,m,F,hm,hb⟩:=M.ex
 exact pe_make m F hr hg hm hb .nil hx ha hdb he hpl
end
structure DnI (K:PySem.W.Frag) (mg:Str→Option Value) (x qual:Str) (st:Stmt) (C:Addr):Prop where
 ex:∃f fd,Fun K "__init__" qual st f fd∧Mk K C f∧mg x=some (.ref C)
theorem DnI.cal {P:Program} {w:World} {K:PySem.W.Frag} {mg:Str→Option Value} {base:Heap} {CX:CXT} {x qual:Str} {st:Stmt} {C:Addr} {ps:List Str} {k:Nat} {sp:Sp} (D:DnI K mg x qual st C)
  (hb:∀(kV doc pm:Value) (an:Option Addr) (cdv ct:Value) (us:List Value),us.length=ps.length→bindArgs (PySem.W.fnOf "__init__" qual (defArgs st) (defBody st) (defScope st) .none kV doc pm an cdv ct) ⟨us,[]⟩=pure (ps.zip us))
  (h:∀f fd,Fun K "__init__" qual st f fd→FnOk P w K mg base CX k f fd ps sp):MkCal P w K mg base CX k x C ps sp:=by
 obtain⟨f,fd,F,m,hm⟩:=D.ex
 exact⟨f,fd,m,h f fd F,hm,F.binds hb⟩
end L2
namespace L2
open PySem PySem.Spec PyProof.Rows
noncomputable instance decPyData:DecidableEq PyData:=fun _ _=>Classical.propDecidable _
mutual
noncomputable def hsh:PyData→Bool
 | .int _=>true
 | .str x=>PyData.canLay0 (.str x)
 | .tuple xs=>hshL xs
 | _=>false
noncomputable def hshL:List PyData→Bool
 | []=>true
 | x::xs=>hsh x && hshL xs
end
mutual
theorem hsh_lay:∀(d:PyData),hsh d=true→d.canLay0=true
 | .none,h=>by simp [hsh] at h
 | .bool _,h=>by simp [hsh] at h
 | .int _,_=>by simp [PyData.canLay0]
 | .str x,h=>by rw[hsh] at h;exact h
 | .list _,h=>by simp [hsh] at h
 | .tuple xs,h=>by rw[hsh] at h;rw[PyData.canLay0];exact hshL_lay xs h
 | .dict _,h=>by simp [hsh] at h
theorem hshL_lay:∀(xs:List PyData),hshL xs=true→PyData.canLayAll0 xs=true
 | [],_=>by simp [PyData.canLayAll0]
 | x::xs,h=>by
  rw[hshL,Bool.and_eq_true] at h
  rw[PyData.canLayAll0,Bool.and_eq_true]
  exact⟨hsh_lay x h.1,hshL_lay xs h.2⟩
end
mutual
theorem eqv_is:∀(x y:PyData),hsh x=true→hsh y=true→PyData.eqv x y=decide (x=y)
 | .int i,y,_,hy=>by
  cases y with
  | int j=>
   rw[PyData.eqv]
   by_cases c:i=j
   ·subst c;simp
   ·rw[decide_eq_false (fun e=>c (by injection e))]
    simp [c]
  | str _=>simp [PyData.eqv]
  | tuple _=>simp [PyData.eqv]
  | _=>simp [hsh] at hy
 | .str a,y,_,hy=>by
  cases y with
  | str b=>
   rw[PyData.eqv]
   by_cases c:a=b
   ·subst c;simp
   ·rw[decide_eq_false (fun e=>c (by injection e))]
    simp [c]
  | int _=>simp [PyData.eqv]
  | tuple _=>simp [PyData.eqv]
  | _=>simp [hsh] at hy
 | .tuple xs,y,hx,hy=>by
  cases y with
  | tuple ys=>
   rw[hsh] at hx hy
   rw[PyData.eqv,eqvL_is xs ys hx hy]
   by_cases c:xs=ys
   ·subst c;simp
   ·rw[decide_eq_false c,decide_eq_false (fun e=>c (by injection e))]
  | int _=>simp [PyData.eqv]
  | str _=>simp [PyData.eqv]
  | _=>simp [hsh] at hy
 | .none,_,h,_=>by simp [hsh] at h
 | .bool _,_,h,_=>by simp [hsh] at h
 | .list _,_,h,_=>by simp [hsh] at h
 | .dict _,_,h,_=>by simp [hsh] at h
theorem eqvL_is:∀(xs ys:List PyData),hshL xs=true→hshL ys=true→PyData.eqvAll xs ys=decide (xs=ys)
 | [],[],_,_=>by simp [PyData.eqvAll]
 | [],_::_,_,_=>by simp [PyData.eqvAll]
 | _::_,[],_,_=>by simp [PyData.eqvAll]
 | x::xs,y::ys,hx,hy=>by
  rw[hshL,Bool.and_eq_true] at hx hy
  rw[PyData.eqvAll,eqv_is x y hx.1 hy.1,eqvL_is xs ys hx.2 hy.2]
  by_cases c:x=y
  ·subst c
   by_cases d:xs=ys
   ·subst d;simp
   ·rw[decide_eq_false d,decide_eq_false (fun e=>d (List.cons.inj e).2)];simp
  ·rw[decide_eq_false c,decide_eq_false (fun e=>c (List.cons.inj e).1)];simp
end
mutual
theorem reads_keep {h h':Heap} {d:Addr} {o:Obj} {es ep} (ho:h.get? d=some o) (hd:o.data=.dict es ep) (hs:Heap.SameBut d h h'):∀(x:PyData) (v:Value) (as:List Addr),hsh x=true→Reads h v x as→Reads h' v x as
 | .int _,_,_,_,r=>by cases r;exact .int _ _
 | .str _,_,_,_,r=>by cases r;exact .str _ _
 | .tuple xs,_,_,hx,r=>by
  rw[hsh] at hx
  cases r with
  | @tuple a o' vs n _ _ e c q t=>
   have ne:a≠d:=fun z=>by
    subst z
    rw[ho] at e
    cases e
    rw[hd] at q
    cases q
   exact .tuple ((hs.2 a ne).trans e) c q (readsL_keep ho hd hs xs _ _ hx t)
 | .none,_,_,h,_=>by simp [hsh] at h
 | .bool _,_,_,h,_=>by simp [hsh] at h
 | .list _,_,_,h,_=>by simp [hsh] at h
 | .dict _,_,_,h,_=>by simp [hsh] at h
theorem readsL_keep {h h':Heap} {d:Addr} {o:Obj} {es ep} (ho:h.get? d=some o) (hd:o.data=.dict es ep) (hs:Heap.SameBut d h h'):∀(xs:List PyData) (vs:List Value) (as:List Addr),hshL xs=true→ReadsAll h vs xs as→ReadsAll h' vs xs as
 | [],_,_,_,r=>by cases r;exact .nil
 | x::xs,_,_,hx,r=>by
  rw[hshL,Bool.and_eq_true] at hx
  cases r with
  | cons r1 r2=>exact .cons (reads_keep ho hd hs x _ _ hx.1 r1) (readsL_keep ho hd hs xs _ _ hx.2 r2)
end
mutual
noncomputable def hashP (w:World):PyData→Int
 | .int i=>keyH w (.inl i)
 | .str x=>keyH w (.inr x)
 | .tuple xs=>reduceHash (Builtin.Tuple.tupleHashOf (hashL w xs))
 | _=>0
noncomputable def hashL (w:World):List PyData→List Int
 | []=>[]
 | x::xs=>hashP w x::hashL w xs
end
mutual
noncomputable def drw:PyData→Nat
 | .tuple xs=>drwL xs+1
 | _=>1
noncomputable def drwL:List PyData→Nat
 | []=>0
 | x::xs=>drw x+drwL xs
end
section
variable {prog : Program} {w : World}
noncomputable def PH (prog:Program) (w:World) (m:Nat) (h:Heap) (d:PyData) (v:Value):Prop:=∀(A:Around) (E:Value→Shared→Prop) (s:Shared) (Q:Int→Shared→Prop),s.heap=h→A.units+m<cLine→
 Q (hashP w d) {s with toks:=s.toks+drw d}→wpAny (model prog w) A (pyHash v) Q E s
inductive PHs (prog:Program) (w:World) (m:Nat) (h:Heap):List PyData→List Value→Prop
 | nil:PHs prog w m h [] []
 | cons {d v ds vs}:PH prog w m h d v→PHs prog w m h ds vs→PHs prog w m h (d::ds) (v::vs)
theorem hashL_app (xs ys:List PyData):hashL w (xs++ys)=hashL w xs++hashL w ys:=by
 induction xs with
 | nil=>simp [hashL]
 | cons x xs ih=>simp [hashL,ih]
theorem drwL_app (xs ys:List PyData):drwL (xs++ys)=drwL xs+drwL ys:=by
 induction xs with
 | nil=>simp [drwL]
 | cons x xs ih=>simp [drwL,ih,Nat.add_assoc]
theorem ph_tuple {m:Nat} {h:Heap} {ds:List PyData} {a:Addr} {o:Obj} {items n} (ho:h.get? a=some o) (hc:o.cls=.type "tuple") (hd:o.data=.seq items n) (hi:PHs prog w m h ds items.toList):PH prog w (m+1) h (.tuple ds) (.ref a):=by
 intro A E s Q hh hu hq
 subst hh
 have hT:s.TypeIs (.ref a) "tuple":=⟨o,ho,hc⟩
 have hu0:A.units<cLine:=by omega
 unfold pyHash
 first | unfold pyHashByItsType | skip
 first | refine wpAny_bind (wpAny_cRoomFor_or (.inr hu0) ?_) | skip
 refine wpAny_bind (wpAny_specialOf hT F.slot_tuple_hash.lookup ?_)
 show wpAny _ _ (if (some (Value.builtin "tuple.__hash__")==some Value.none)=true then _ else _) Q E s
 rw[if_neg (by rw[beq_builtin_none];exact Bool.false_ne_true)]
 refine wpAny_bind (wpAny_specialOf hT F.slot_tuple_hash.lookup ?_)
 show wpAny _ _ (callSpecialIfBoundUnlessNone? (.ref a) "__hash__" _ >>=_) Q E s
 refine wpAny_bind (wpAny_callSpecialIfBoundUnlessNone?_slot hT F.slot_tuple_hash (wpAny_call_entry F.slot_tuple_hash hT F.entry_tuple_hash ?_ (F.args_tuple_hash_1 _)))
 show wpAny _ _ (Builtin.Tuple.tupleItemsOf (.ref a) >>=_) _ _ s
 refine wpAny_bind (wpAny_tupleItemsOf ho hd ?_)
 refine wpAny_bind ?_
 rw[←Array.forIn_toList]
 refine wpAny_forIn_list _
  (fun rest (b:Array Int) s'=>∃done left,ds=done++left∧PHs prog w m s.heap left rest∧b.toList=hashL w done∧s'={s with toks:=s.toks+drwL done})
  _ ?_ ?_ _ _ ⟨[],ds,rfl,hi,rfl,rfl⟩
 ·rintro x rest b s' ⟨done,left,rfl,hl,hb,rfl⟩
  cases hl with
  | @cons k _ ks' _ h1 hl'=>
   refine wpAny_bind (h1 _ _ _ _ rfl (by show A.units+1+m<cLine;omega) ?_)
   have e1:(b.push (hashP w k)).toList=hashL w (done++ [k]):=by rw[hashL_app];simp [hb,hashL]
   have e2:s.toks+drwL done+drw k=s.toks+drwL (done++ [k]):=by rw[drwL_app];simp [drwL,Nat.add_assoc]
   first
    | exact wpAny_pure ⟨done++ [k],ks',by simp,hl',e1,by rw[←e2]⟩
    | exact wpAny_bind (wpAny_pure (wpAny_pure ⟨done++ [k],ks',by simp,hl',e1,by rw[←e2]⟩))
 ·rintro b s' ⟨done,left,rfl,hl,hb,rfl⟩
  cases hl
  rw[List.append_nil] at hq
  show wpAny _ _ (retInt (Builtin.Tuple.tupleHashOf b.toList)) _ _ _
  rw[hb]
  refine wpAny_ret_mkInt ?_
  show wpAny _ _ (if (decide (-(2:Int)^63≤Builtin.Tuple.tupleHashOf (hashL w done)) && decide (Builtin.Tuple.tupleHashOf (hashL w done)<2^63))=true then _ else _) Q E _
  rw[hashP,drw] at hq
  unfold reduceHash at hq
  by_cases hr:(decide (-(2:Int)^63≤Builtin.Tuple.tupleHashOf (hashL w done)) && decide (Builtin.Tuple.tupleHashOf (hashL w done)<2^63))=true
  ·rw[if_pos hr]
   rw[if_pos hr] at hq
   exact wpAny_pure (by simpa [Nat.add_assoc] using hq)
  ·rw[if_neg hr]
   rw[if_neg hr] at hq
   exact wpAny_bind (wpAny_rule (wpAny_pure (by simpa [Nat.add_assoc] using hq)))
mutual
theorem ph_all {h:Heap}:∀(d:PyData) (v:Value) (as:List Addr),hsh d=true→Reads h v d as→PH prog w d.depth h d v
 | .int i,_,_,_,r=>by
  cases r with
  | int _ t=>
   intro A E s Q _ _ hq
   exact(mixKind prog w).pyHash (k:=.inl i) (kV_is (k:=.inl i) ⟨t,rfl⟩) hq
 | .str x,_,_,_,r=>by
  cases r with
  | str _ t=>
   intro A E s Q _ _ hq
   exact(mixKind prog w).pyHash (k:=.inr x) (kV_is (k:=.inr x) ⟨t,rfl⟩) hq
 | .tuple xs,_,_,hx,r=>by
  rw[hsh] at hx
  cases r with
  | tuple e c q t=>exact ph_tuple e c q (phs_all xs _ _ hx t)
 | .none,_,_,h,_=>by simp [hsh] at h
 | .bool _,_,_,h,_=>by simp [hsh] at h
 | .list _,_,_,h,_=>by simp [hsh] at h
 | .dict _,_,_,h,_=>by simp [hsh] at h
theorem phs_all {h:Heap}:∀(ds:List PyData) (vs:List Value) (as:List Addr),hshL ds=true→ReadsAll h vs ds as→PHs prog w (PyData.depthAll ds) h ds vs
 | [],_,_,_,r=>by cases r;exact .nil
 | x::xs,_,_,hx,r=>by
  rw[hshL,Bool.and_eq_true] at hx
  cases r with
  | cons r1 r2=>
   have p1:=ph_all x _ _ hx.1 r1
   have p2:=phs_all xs _ _ hx.2 r2
   have up:∀{m m':Nat} {ds:List PyData} {vs:List Value},m≤m'→PHs prog w m h ds vs→PHs prog w m' h ds vs:=fun l q=>by
    induction q with
    | nil=>exact .nil
    | cons p _ ih=>exact .cons (fun A E s Q e u=>p A E s Q e (by omega)) ih
   refine .cons (fun A E s Q e u=>p1 A E s Q e ?_) (up ?_ p2)
   ·rw[PyData.depthAll] at u
    omega
   ·rw[PyData.depthAll]
    omega
end
theorem quiet_tuple {h:Heap} {k:Nat} {a:Addr} {o:Obj} {items n} (ho:h.get? a=some o) (hc:o.cls=.type "tuple") (hd:o.data=.seq items n) (hi:∀v∈items.toList,∀(A:Around) (E:Value→Shared→Prop) (s:Shared) (Q:Bool→Shared→Prop),s.heap=h→Q true s→wpAny (model prog w) A (eqIsQuiet k v) Q E s)
  (A:Around) (E:Value→Shared→Prop) (s:Shared) (Q:Bool→Shared→Prop) (hh:s.heap=h) (hq:Q true s):wpAny (model prog w) A (eqIsQuiet (k+1) (.ref a)) Q E s:=by
 subst hh
 have hT:s.TypeIs (.ref a) "tuple":=⟨o,ho,hc⟩
 unfold eqIsQuiet
 refine wpAny_bind (wpAny_specialOf hT F.slot_tuple_eq.lookup ?_)
 show wpAny _ _ (isInstance (.ref a) (.type "tuple") >>=_) _ _ s
 refine wpAny_bind (wpAny_isInstance hT isSubtype_tuple_tuple ?_)
 simp only[Bool.not_true,Bool.false_eq_true,if_false]
 refine wpAny_bind (wpAny_seqItems ho hd ?_)
 refine wpAny_bind ?_
 show wpAny _ _ (forIn items _ _) _ _ s
 rw[←Array.forIn_toList]
 refine wpAny_forIn_list _ (fun rest r s'=>r.1=none∧s'=s∧∀v∈rest,v∈items.toList) _ ?_ ?_ _ _ ⟨rfl,rfl,fun _ h=>h⟩
 ·rintro v rest r s' ⟨hr,rfl,hall⟩
  refine wpAny_bind (hi v (hall v List.mem_cons_self) _ _ _ _ rfl ?_)
  simp only[Bool.not_true,Bool.false_eq_true,if_false]
  exact wpAny_pure ⟨rfl,rfl,fun u hu'=>hall u (List.mem_cons_of_mem _ hu')⟩
 ·rintro⟨r1,r2⟩ s' ⟨hr,rfl,_⟩
  simp only at hr
  subst hr
  exact wpAny_pure hq
mutual
theorem quiet_all {h:Heap}:∀(d:PyData) (v:Value) (as:List Addr) (k:Nat),hsh d=true→d.depth≤k→Reads h v d as→∀(A:Around) (E:Value→Shared→Prop) (s:Shared) (Q:Bool→Shared→Prop),s.heap=h→Q true s→wpAny (model prog w) A (eqIsQuiet k v) Q E s
 | .int _,_,_,_,_,_,r=>by
  cases r
  intro A E s Q _ hq
  rw[eqIsQuiet_byValue _ rfl]
  exact wpAny_pure hq
 | .str _,_,_,_,_,_,r=>by
  cases r
  intro A E s Q _ hq
  rw[eqIsQuiet_byValue _ rfl]
  exact wpAny_pure hq
 | .tuple xs,_,_,k,hx,hk,r=>by
  rw[hsh] at hx
  rw[PyData.depth] at hk
  cases k with
  | zero=>omega
  | succ k=>
   cases r with
   | tuple e c q t=>exact quiet_tuple e c q (quietL_all xs _ _ k hx (by omega) t)
 | .none,_,_,_,h,_,_=>by simp [hsh] at h
 | .bool _,_,_,_,h,_,_=>by simp [hsh] at h
 | .list _,_,_,_,h,_,_=>by simp [hsh] at h
 | .dict _,_,_,_,h,_,_=>by simp [hsh] at h
theorem quietL_all {h:Heap}:∀(ds:List PyData) (vs:List Value) (as:List Addr) (k:Nat),hshL ds=true→PyData.depthAll ds≤k→ReadsAll h vs ds as→∀v∈vs,∀(A:Around) (E:Value→Shared→Prop) (s:Shared) (Q:Bool→Shared→Prop),s.heap=h→Q true s→wpAny (model prog w) A (eqIsQuiet k v) Q E s
 | [],_,_,_,_,_,r=>by
  cases r
  intro v hv
  simp at hv
 | x::xs,_,_,k,hx,hk,r=>by
  rw[hshL,Bool.and_eq_true] at hx
  rw[PyData.depthAll] at hk
  cases r with
  | cons r1 r2=>
   intro v hv
   rcases List.mem_cons.mp hv with rfl | hv
   ·exact quiet_all x _ _ k hx.1 (by omega) r1
   ·exact quietL_all xs _ _ k hx.2 (by omega) r2 v hv
end
end
end L2
namespace L2
open PySem PySem.Spec PyProof.Rows
mutual
noncomputable def toP:Dat→PyData
 | .non=>.none
 | .bl b=>.bool b
 | .int i=>.int i
 | .str x=>.str x
 | .tup l=>.tuple (toPL l)
 | .lst l=>.list (toPL l)
noncomputable def toPL:List Dat→List PyData
 | []=>[]
 | d::ds=>toP d::toPL ds
end
section
variable {P : Program} {w : World} {H : Hp} {h : Heap}
mutual
theorem reads_of (ok:HOk P w H h):∀(d:Dat) (v:V) (u:Value),Rep H d v→RelV v u→∃as,Reads h u (toP d) as
 | .non,v,u,r,q=>by
  rw[Rep] at r
  subst r
  cases (show u=Value.none from q)
  exact⟨_,.none⟩
 | .bl b,v,u,r,q=>by
  rw[Rep] at r
  subst r
  cases (show u=Value.bool b from q)
  exact⟨_,.bool b⟩
 | .int i,v,u,r,q=>by
  rw[Rep] at r
  subst r
  obtain⟨t,rfl⟩:=(show ∃t,u=Value.int i t from q)
  exact⟨_,.int i t⟩
 | .str x,v,u,r,q=>by
  rw[Rep] at r
  subst r
  obtain⟨t,rfl⟩:=(show ∃t,u=Value.str x t from q)
  exact⟨_,.str x t⟩
 | .tup l,v,u,r,q=>by
  rw[Rep] at r
  obtain⟨p,vs,rfl,hp,rl⟩:=r
  cases (show u=Value.ref p from q)
  obtain⟨_,its,rv,o,h1,h2,n,h3⟩:=(show ObjOk P w H h p (.tup vs) from ok p _ hp)
  obtain⟨as,ra⟩:=readsL_of ok l vs its rl rv
  exact⟨as,.tuple h1 h2 h3 (by simpa using ra)⟩
 | .lst l,v,u,r,q=>by
  rw[Rep] at r
  obtain⟨p,vs,rfl,hp,rl⟩:=r
  cases (show u=Value.ref p from q)
  obtain⟨_,its,n,rv,h1⟩:=(show ObjOk P w H h p (.lst vs) from ok p _ hp)
  obtain⟨as,ra⟩:=readsL_of ok l vs its rl rv
  exact⟨p::as,.list h1 rfl rfl (by simpa using ra)⟩
theorem readsL_of (ok:HOk P w H h):∀(ds:List Dat) (vs:List V) (us:List Value),RepL H ds vs→Vals vs us→∃as,ReadsAll h us (toPL ds) as
 | [],vs,us,r,q=>by
  rw[RepL] at r
  subst r
  cases q
  exact⟨_,.nil⟩
 | d::ds,vs,us,r,q=>by
  rw[RepL] at r
  obtain⟨v,rest,rfl,r1,r2⟩:=r
  cases q with
  | cons q1 q2=>
   obtain⟨a1,h1⟩:=reads_of ok d v _ r1 q1
   obtain⟨a2,h2⟩:=readsL_of ok ds rest _ r2 q2
   exact⟨_,.cons h1 h2⟩
end
end
abbrev Rows:=List (Dat×Addr×Int)
abbrev RwN:Rows→List (PyData×Addr×Value)→Prop:=Paired fun p q=>toP p.1=q.1∧p.2.1=q.2.1∧∃t,q.2.2=Value.int p.2.2 t
section
variable {P : Program} {w : World} {H : Hp} {h : Heap} {a : Addr}
end
section
variable {X : Cx} {P : Program} {w : World} {o i e value : Expr} {pos pos' tpos : Pos} {td ty tv : TE}
end
end L2
namespace L2
open PySem PySem.Spec PyProof.Rows PySem.W
section
variable {X : Cx} {K : PySem.W.Frag}
end
end L2
namespace L2
open PySem PySem.Spec PyProof.Rows
structure MtCal (P:Program) (w:World) (K:PySem.W.Frag) (mg:Str→Option Value) (base:Heap) (CX:CXT) (k:Nat) (C:Addr) (m:Str) (ps:List Str) (sp:Sp):Prop where
 ex:∃f fd,Meth K C m f∧FnOk P w K mg base CX k f fd ps sp∧Binds K fd ps []
section
variable {X : Cx} {CX : CXT} {k : Nat} {C : Addr} {m : Str} {ps : List Str} {sp : Sp} {E : XK} {e o : Expr} {es : List Expr} {ta : TE} {t : TA} {pos apos : Pos} {pl : Sem Bool}
theorem pe_mt (M:MtCal X.prog X.w X.K X.mg X.base CX k C m ps sp) (c:Cls X.K C) (he:PE X o ta) (hr:Room k X.A) (hx:Passes CX X E) (ha:PA X (e::es) t)
  (hst:starEach (e::es) X.env=(false,eval e X.env)::starEach es X.env:=by rfl) (hpl:(backTo pos (starEach es X.env)).any (·.1)=false:=by rfl)
  (ht:eval (.Call (.Attribute o m apos) (e::es) [] pos) X.env=(do
   let ov ←eval o X.env
   standAt apos.atName
   let (f,first) ←holding [ov] (getMethod ov m pl)
   callWith pos f first (backTo pos (starEach (e::es) X.env)) (backToKw pos (keywordEach [] X.env))):=by rfl):
  PE X (.Call (.Attribute o m apos) (e::es) [] pos) (tMeth C m sp [] E ta t):=by
 obtain⟨f,fd,hm,F,hb⟩:=M.ex
 exact pe_meth he c hm F hr hb .nil hx ha hst hpl ht
theorem pe_mt0 (M:MtCal X.prog X.w X.K X.mg X.base CX k C m ps sp) (c:Cls X.K C) (he:PE X o ta) (hr:Room k X.A) (hx:Passes CX X E)
  (ht:eval (.Call (.Attribute o m apos) [] [] pos) X.env=(do
   let ov ←eval o X.env
   standAt apos.atName
   let (f,first) ←holding [ov] (getMethod ov m pl)
   callWith pos f first (backTo pos (starEach [] X.env)) (backToKw pos (keywordEach [] X.env))):=by rfl):
  PE X (.Call (.Attribute o m apos) [] [] pos) (tMeth C m sp [] E ta tNil):=by
 obtain⟨f,fd,hm,F,hb⟩:=M.ex
 exact pe_meth0 he c hm F hr hb .nil hx ht
end
structure DnM (K:PySem.W.Frag) (C:Addr) (m qual:Str) (st:Stmt):Prop where
 ex:∃f fd,Fun K m qual st f fd∧Meth K C m f
theorem DnM.cal {P:Program} {w:World} {K:PySem.W.Frag} {mg:Str→Option Value} {base:Heap} {CX:CXT} {m qual:Str} {st:Stmt} {C:Addr} {ps:List Str} {k:Nat} {sp:Sp} (D:DnM K C m qual st)
  (hb:∀(kV doc pm:Value) (an:Option Addr) (cdv ct:Value) (us:List Value),us.length=ps.length→bindArgs (PySem.W.fnOf m qual (defArgs st) (defBody st) (defScope st) .none kV doc pm an cdv ct) ⟨us,[]⟩=pure (ps.zip us))
  (h:∀f fd,Fun K m qual st f fd→FnOk P w K mg base CX k f fd ps sp):MtCal P w K mg base CX k C m ps sp:=by
 obtain⟨f,fd,F,hm⟩:=D.ex
 exact⟨f,fd,hm,h f fd F,F.binds hb⟩
end L2
namespace L2
open PySem PySem.Spec PyProof.Rows PySem.W
mutual
noncomputable def eqb:PyData→Bool
 | .none=>true
 | .int _=>true
 | .str x=>PyData.canLay0 (.str x)
 | .tuple xs=>eqbL xs
 | .list xs=>eqbL xs
 | _=>false
noncomputable def eqbL:List PyData→Bool
 | []=>true
 | x::xs=>eqb x && eqbL xs
end
mutual
theorem eqb_lay:∀(d:PyData),eqb d=true→d.canLay0=true
 | .none,_=>by simp [PyData.canLay0]
 | .bool _,h=>by simp [eqb] at h
 | .int _,_=>by simp [PyData.canLay0]
 | .str x,h=>by rw[eqb] at h;exact h
 | .list xs,h=>by rw[eqb] at h;rw[PyData.canLay0];exact eqbL_lay xs h
 | .tuple xs,h=>by rw[eqb] at h;rw[PyData.canLay0];exact eqbL_lay xs h
 | .dict _,h=>by simp [eqb] at h
theorem eqbL_lay:∀(xs:List PyData),eqbL xs=true→PyData.canLayAll0 xs=true
 | [],_=>by simp [PyData.canLayAll0]
 | x::xs,h=>by
  rw[eqbL,Bool.and_eq_true] at h
  rw[PyData.canLayAll0,Bool.and_eq_true]
  exact⟨eqb_lay x h.1,eqbL_lay xs h.2⟩
end
mutual
theorem eqvb_is:∀(x y:PyData),eqb x=true→eqb y=true→PyData.eqv x y=decide (x=y)
 | .none,y,_,hy=>by cases y <;>simp [PyData.eqv]
 | .int i,y,_,hy=>by
  cases y with
  | int j=>
   rw[PyData.eqv]
   by_cases c:i=j
   ·subst c;simp
   ·rw[decide_eq_false (fun e=>c (by injection e))]
    simp [c]
  | bool _=>simp [eqb] at hy
  | _=>simp [PyData.eqv]
 | .str a,y,_,hy=>by
  cases y with
  | str b=>
   rw[PyData.eqv]
   by_cases c:a=b
   ·subst c;simp
   ·rw[decide_eq_false (fun e=>c (by injection e))]
    simp [c]
  | _=>simp [PyData.eqv]
 | .tuple xs,y,hx,hy=>by
  cases y with
  | tuple ys=>
   rw[eqb] at hx hy
   rw[PyData.eqv,eqvbL_is xs ys hx hy]
   by_cases c:xs=ys
   ·subst c;simp
   ·rw[decide_eq_false c,decide_eq_false (fun e=>c (by injection e))]
  | _=>simp [PyData.eqv]
 | .list xs,y,hx,hy=>by
  cases y with
  | list ys=>
   rw[eqb] at hx hy
   rw[PyData.eqv,eqvbL_is xs ys hx hy]
   by_cases c:xs=ys
   ·subst c;simp
   ·rw[decide_eq_false c,decide_eq_false (fun e=>c (by injection e))]
  | _=>simp [PyData.eqv]
 | .bool _,_,h,_=>by simp [eqb] at h
 | .dict _,_,h,_=>by simp [eqb] at h
theorem eqvbL_is:∀(xs ys:List PyData),eqbL xs=true→eqbL ys=true→PyData.eqvAll xs ys=decide (xs=ys)
 | [],[],_,_=>by simp [PyData.eqvAll]
 | [],_::_,_,_=>by simp [PyData.eqvAll]
 | _::_,[],_,_=>by simp [PyData.eqvAll]
 | x::xs,y::ys,hx,hy=>by
  rw[eqbL,Bool.and_eq_true] at hx hy
  rw[PyData.eqvAll,eqvb_is x y hx.1 hy.1,eqvbL_is xs ys hx.2 hy.2]
  by_cases c:x=y
  ·subst c
   by_cases d:xs=ys
   ·subst d;simp
   ·rw[decide_eq_false d,decide_eq_false (fun e=>d (List.cons.inj e).2)];simp
  ·rw[decide_eq_false c,decide_eq_false (fun e=>c (List.cons.inj e).1)];simp
end
section
variable {X : Cx} {K : PySem.W.Frag}
end
end L2
namespace L2
open PySem PySem.Spec PyProof.Rows PySem.W
section
variable {X : Cx} {CX : CXT} {k : Nat} {C : Addr} {m : Str} {ps : List Str} {sp : Sp} {E : XK} {e o : Expr} {es : List Expr} {ta : TE} {t : TA} {pos apos : Pos} {pl : Sem Bool}
theorem mt_run {pins:List (Addr×Obj)} {σ:St} {H:Hp} {s:Shared} {Q:VK} {Ex:Value→Shared→Prop} (M:MtCal X.prog X.w X.K X.mg X.base CX k C m ps sp) (c:Cls X.K C) (ho:PE X.nox o ta) (hr:Room k X.A) (ha:PA X.nox (e::es) t) (I:Inv X pins σ H s)
  (h:tMeth C m sp [] E ta t σ H Q) (hx:∀H1 s1 e s',Inv X pins σ H1 s1→CX X.stack H1 s1 E e s'→Ex e s')
  (hst:starEach (e::es) X.env=(false,eval e X.env)::starEach es X.env:=by rfl) (hpl:(backTo pos (starEach es X.env)).any (·.1)=false:=by rfl)
  (ht:eval (.Call (.Attribute o m apos) (e::es) [] pos) X.env=(do
   let ov ←eval o X.env
   standAt apos.atName
   let (f,first) ←holding [ov] (getMethod ov m pl)
   callWith pos f first (backTo pos (starEach (e::es) X.env)) (backToKw pos (keywordEach [] X.env))):=by rfl):
  wpAny (model X.prog X.w) X.A (eval (.Call (.Attribute o m apos) (e::es) [] pos) X.env) (EP X pins σ Q) Ex s:=by
 obtain⟨f,fd,hm,F,hb⟩:=M.ex
 refine PySem.W.methodCall_KW (pl:=pl) (wpAny_mono (ho pins s σ H _ (I.wish _) h) (fun u s1 ⟨x,H1,I1,rx,a,dx,fs,ex,ea,l,q⟩=>?_) fun _ _ z=>z.elim) ht
 have I1:=I1.unwish
 subst ex
 obtain rfl:u=Value.ref a:=rx
 refine getmeth_ok I1 ea c hm l ?_
 refine PySem.W.callWith_K (first:=[.ref a]) (h₀:=X.base) I.ok.mod.kin hm.kp (wpAny_mono (ha pos pins s1 σ H1 _ (I1.wish _) q) (fun us s2 ⟨vs,H2,I2,r,q2⟩=>⟨I2.unwish.kIn,?_⟩) fun _ _ z=>z.elim) hst hpl
 have I2:=I2.unwish
 have q2:sp (.ref a::(vs++ [])) H2 Q E:=q2
 rw[List.append_nil] at q2
 have r':Vals (.ref a::vs) (.ref a::us):=.cons rfl r
 have hl:(Value.ref a::us).length=ps.length:=by
  rw[←r'.length]
  exact F.len _ _ _ _ q2
 have hb':=hb s2 (.ref a::us) I2.kIn (by rw[List.append_nil];exact hl)
 rw[List.append_nil] at hb'
 refine wpAny_call (codeAny_mono (F.run X.A X.stack s2 H2 ⟨.ref a::us,[]⟩ (.ref a::us) (.ref a::vs) Q E hr I2.env0 hb' r' q2) fun r s' hq=>?_)
 cases r with
 | error e=>exact hx H2 s2 e s' I2 hq
 | ok fl=>
  cases fl with
  | ret u=>exact I2.after hq
  | next=>exact False.elim hq
  | brk=>exact False.elim hq
  | cont=>exact False.elim hq
end
section
variable {X : Cx} {k k2 : Nat} {C C' : Addr} {m m2 : Str} {ps ps2 : List Str} {sp sp2 : Sp} {e e2 o o2 : Expr} {es es2 : List Expr} {ta ta2 : TE} {t t2 : TA} {pos apos pos2 apos2 : Pos} {pl pl2 : Sem Bool} {cx n : Str} {np hpos epos epos2 tpos ipos : Pos} {b₀ : Stmt} {suite : List Stmt} {i : Nat} {ts : TS} {C2 : Addr} {c : Expr} {tc : TT}
noncomputable def tTryIM (K:PySem.W.Frag) (tc:TT) (C:Addr) (m:Str) (sp:Sp) (ta:TE) (t:TA) (C':Addr) (m2:Str) (sp2:Sp) (ta2:TE) (t2:TA) (C2:Addr) (i:Nat) (ts:TS):TS:=fun D σ H=>tc σ H fun d H1=>if d=true then tMeth C m sp [] (xTry K C2 i ts D σ) ta t σ H1 (fun _ H2=>D.nx σ H2) else tMeth C' m2 sp2 [] (xTry K C2 i ts D σ) ta2 t2 σ H1 (fun _ H2=>D.nx σ H2)
theorem ps_tryIM (hc:PT X.nox c tc) (M:MtCal X.prog X.w X.K X.mg X.base (CX1 X.prog X.w) k C m ps sp) (cl:Cls X.K C) (ho:PE X.nox o ta) (hr:Room k X.A) (ha:PA X.nox (e::es) t)
  (M':MtCal X.prog X.w X.K X.mg X.base (CX1 X.prog X.w) k2 C' m2 ps2 sp2) (cl':Cls X.K C') (ho':PE X.nox o2 ta2) (hr':Room k2 X.A) (ha':PA X.nox (e2::es2) t2) (hst:X.stack=X.env::X.outer) (hf:X.env.frame=some X.env.locals)
  (hgc:Gl X cx) (hm:X.mg cx=some (.ref C2)) (hN:X.N.Nodup) (hi:X.N[i]?=some n) (hl:X.env.scope.names.lookup n=some .local) (hs:∀ad,PSs (X.mark ad) (b₀::suite) ts)
  (hsw:swapsWith (.Call (.Attribute o m apos) (e::es) [] pos) none epos.line X.env=pure false:=by rfl) (hsw2:swapsWith (.Call (.Attribute o2 m2 apos2) (e2::es2) [] pos2) none epos2.line X.env=pure false:=by rfl) (hdc:(cx==("__debug__":Str))=false:=by decide)
  (he:starEach (e::es) X.env=(false,eval e X.env)::starEach es X.env:=by rfl) (hpl:(backTo pos (starEach es X.env)).any (·.1)=false:=by rfl)
  (he2:starEach (e2::es2) X.env=(false,eval e2 X.env)::starEach es2 X.env:=by rfl) (hpl2:(backTo pos2 (starEach es2 X.env)).any (·.1)=false:=by rfl)
  (ht:eval (.Call (.Attribute o m apos) (e::es) [] pos) X.env=(do
   let ov ←eval o X.env
   standAt apos.atName
   let (f,first) ←holding [ov] (getMethod ov m pl)
   callWith pos f first (backTo pos (starEach (e::es) X.env)) (backToKw pos (keywordEach [] X.env))):=by rfl)
  (ht2:eval (.Call (.Attribute o2 m2 apos2) (e2::es2) [] pos2) X.env=(do
   let ov ←eval o2 X.env
   standAt apos2.atName
   let (f,first) ←holding [ov] (getMethod ov m2 pl2)
   callWith pos2 f first (backTo pos2 (starEach (e2::es2) X.env)) (backToKw pos2 (keywordEach [] X.env))):=by rfl):
  PS X (.Try [.If c [.Expr (.Call (.Attribute o m apos) (e::es) [] pos) epos] [.Expr (.Call (.Attribute o2 m2 apos2) (e2::es2) [] pos2) epos2] ipos] [.ExceptHandler (some (.Name cx np)) (some n) (b₀::suite) hpos] [] [] tpos) (tTryIM X.K tc C m sp ta t C' m2 sp2 ta2 t2 C2 i ts):=by
 intro pins s σ H D I h
 refine wpAny_Try_except (wpAny_execs_cons (wpAny_If (wpAny_mono (hc pins s σ H _ (I.wish _) h) (fun d s1 ⟨H1,I1,q1⟩=>?_) fun _ _ z=>z.elim)))
 have I1:=I1.unwish
 cases d with
 | true=>
  refine wpAny_execs_cons (wpAny_Expr_any (thn (mt_run (pl:=pl) M cl ho hr ha I1 q1 (fun H1 s1 e1 s' I1 ⟨ad,cls,_,H',ee,⟨F,_⟩,hx,q⟩=>?_) he hpl ht) fun v s1 ⟨z,H1,I1,r1,q1⟩=>?_) I1.quiet hsw)
  ·subst ee
   exact caught I1 F hst hf hgc hm hx hN hi hl (hs ad) (q ad F.tracked) hdc
  ·exact wpAny_execs_nil (wpAny_execs_nil (wpAny_execs_nil ⟨σ,H1,I1,q1⟩))
 | false=>
  refine wpAny_execs_cons (wpAny_Expr_any (thn (mt_run (pl:=pl2) M' cl' ho' hr' ha' I1 q1 (fun H1 s1 e1 s' I1 ⟨ad,cls,_,H',ee,⟨F,_⟩,hx,q⟩=>?_) he2 hpl2 ht2) fun v s1 ⟨z,H1,I1,r1,q1⟩=>?_) I1.quiet hsw2)
  ·subst ee
   exact caught I1 F hst hf hgc hm hx hN hi hl (hs ad) (q ad F.tracked) hdc
  ·exact wpAny_execs_nil (wpAny_execs_nil (wpAny_execs_nil ⟨σ,H1,I1,q1⟩))
end
end L2
namespace PySem.Dfl
open PySem PyProof.Rows
section
variable {prog : Program} {w : World} {A : Around} {E : Value → Shared → Prop} {s : Shared}
end
section
variable {prog : Program} {w : World} {K : Type} [DecidableEq K] {knd : KeyKind prog w K} {A : Around} {R : Result → Shared → Prop} {I : Addr} {fp wr : List Addr} {G : Array GenState → Array GenState → Prop} {n : Nat} {P : Nat → Value → Prop} {St : Nat → Shared → Prop}
end
end PySem.Dfl
namespace PySem.Dfl
open PySem PyProof.Rows
section
variable {prog : Program} {w : World} {K : Type} [DecidableEq K] {knd : KeyKind prog w K} {A : Around} {E : Value → Shared → Prop} {s : Shared}
end
end PySem.Dfl
namespace L2
open PySem PyProof.Rows
section
variable {X : Cx} {P : Program} {w : World} {K : PySem.W.Frag}
end
end L2
namespace L2
open PySem PyProof.Rows
section
variable {X : Cx}
end
end L2
namespace L2
open PySem PyProof.Rows
structure DnA (K:PySem.W.Frag) (mg:Str→Option Value) (g x:Str) (st:Stmt):Prop where
 ex:∃f fd,Fun K x x st f fd∧mg g=some (.ref f)
theorem DnA.cal {P:Program} {w:World} {K:PySem.W.Frag} {mg:Str→Option Value} {base:Heap} {CX:CXT} {g x:Str} {st:Stmt} {ps:List Str} {k:Nat} {sp:Sp} (D:DnA K mg g x st)
  (hb:∀(kV doc pm:Value) (an:Option Addr) (cdv ct:Value) (us:List Value),us.length=ps.length→bindArgs (PySem.W.fnOf x x (defArgs st) (defBody st) (defScope st) .none kV doc pm an cdv ct) ⟨us,[]⟩=pure (ps.zip us))
  (h:∀f fd,Fun K x x st f fd→FnOk P w K mg base CX k f fd ps sp):Cal P w K mg base CX k g ps sp:=by
 obtain⟨f,fd,F,hm⟩:=D.ex
 exact⟨f,fd,h f fd F,hm,F.kp,F.binds hb⟩
end L2
namespace L2
open PySem PyProof.Rows
theorem exV {b:V} {Q:V→Prop}:(∃v,(some (some b):Option (Option V))=some (some v)∧Q v)=Q b:=propext ⟨fun⟨_,e,h⟩=>by cases e;exact h,fun h=>⟨b,rfl,h⟩⟩
theorem exI {a:Int} {Q:Int→Prop}:(∃i,V.int a=V.int i∧Q i)=Q a:=propext ⟨fun⟨_,e,h⟩=>by cases e;exact h,fun h=>⟨a,rfl,h⟩⟩
theorem exB {a:Bool} {Q:Bool→Prop}:(∃i,V.bl a=V.bl i∧Q i)=Q a:=propext ⟨fun⟨_,e,h⟩=>by cases e;exact h,fun h=>⟨a,rfl,h⟩⟩
theorem exR {a:Addr} {Q:Addr→Prop}:(∃i,V.ref a=V.ref i∧Q i)=Q a:=propext ⟨fun⟨_,e,h⟩=>by cases e;exact h,fun h=>⟨a,rfl,h⟩⟩
theorem exS {a:Str} {Q:Str→Prop}:(∃i,V.str a=V.str i∧Q i)=Q a:=propext ⟨fun⟨_,e,h⟩=>by cases e;exact h,fun h=>⟨a,rfl,h⟩⟩
theorem exII {a b:Int} {Q:Int→Int→Prop}:(∃i j,V.int a=V.int i∧V.int b=V.int j∧Q i j)=Q a b:=propext ⟨fun⟨_,_,e,f,h⟩=>by cases e;cases f;exact h,fun h=>⟨a,b,rfl,rfl,h⟩⟩
theorem exRI {a:Addr} {k:Int} {Q:Addr→List V→Int→V→Prop}:(∃p xs i v,V.ref a=V.ref p∧V.int k=V.int i∧Q p xs i v)=∃xs v,Q a xs k v:=propext ⟨fun⟨_,xs,_,v,e,f,h⟩=>by cases e;cases f;exact⟨xs,v,h⟩,fun⟨xs,v,h⟩=>⟨a,xs,k,v,rfl,rfl,h⟩⟩
theorem exRa {α:Type} {a:Addr} {Q:Addr→α→Prop}:(∃p v,V.ref a=V.ref p∧Q p v)=∃v,Q a v:=propext ⟨fun⟨_,v,e,h⟩=>by cases e;exact⟨v,h⟩,fun⟨v,h⟩=>⟨a,v,rfl,h⟩⟩
theorem exRb {α β:Type} {a:Addr} {Q:Addr→α→β→Prop}:(∃p v u,V.ref a=V.ref p∧Q p v u)=∃v u,Q a v u:=propext ⟨fun⟨_,v,u,e,h⟩=>by cases e;exact⟨v,u,h⟩,fun⟨v,u,h⟩=>⟨a,v,u,rfl,h⟩⟩
theorem scal_ss {a b:Str}:scal (.str a) (.str b)=true:=rfl
theorem scal_ii {a b:Int}:scal (.int a) (.int b)=true:=rfl
theorem scal_bb {a b:Bool}:scal (.bl a) (.bl b)=true:=rfl
theorem scal_si {a:Str} {b:Int}:scal (.str a) (.int b)=true:=rfl
theorem scal_is {a:Int} {b:Str}:scal (.int a) (.str b)=true:=rfl
end L2
namespace L2
open PySem PySem.Spec PyProof.Rows PySem.W
section
variable {X : Cx}
end
end L2
namespace L2
open PySem PySem.Spec PyProof.Rows PySem.W
section
variable {X : Cx} {k : Nat} {x : Str} {ps : List Str} {sp : Sp} {e : Expr} {es : List Expr} {t : TA} {p pos : Pos}
variable {cx n : Str} {np hpos epos tpos : Pos} {b₀ : Stmt} {suite : List Stmt} {i : Nat} {ts : TS} {C2 : Addr}
end
end L2
namespace L2
open PySem PySem.Spec PyProof.Rows
section
variable {X : Cx}
end
end L2
namespace L2
open PySem PySem.Spec PyProof.Rows
section
variable {X : Cx}
end
end L2
namespace L2
open PySem PySem.Spec PyProof.Rows PySem.W
theorem entry_unchain:entryFor table "proto.unchain"=some Builtin.«proto.unchain»:=entryFor_of_tree (by kernel_rfl)
theorem builtin_of {P:Program} {w:World} {A:Around} {R:Result→Shared→Prop} {s:Shared} {id:String} {args:Args} {b:Builtin} (hb:entryFor table id=some b)
  (h:wpAny (model P w) (A.under (.builtin id args)) (b args) (fun fin s'=>match fin with | .done f=>R (.ok f) s' | .again c'=>c'.quiet=true∧codeAny (model P w) A c' R s') (fun e s'=>R (.error e) s') s):
  codeAny (model P w) A (.builtin id args) R s:=by
 refine codeAny_of_tree ?_
 show wpAny _ _ (match entryFor table id with | some b=>b args | none=>unsupported ((withoutEnding? id "#data").getD id)) _ _ s
 rw[hb];exact h
section
variable {P : Program} {w : World} {A : Around} {E : Value → Shared → Prop} {s : Shared} {e h : Addr} {oe oh : Obj} {vs ws : Array Value}
theorem raiseNew_some {α:Type} {Q:α→Shared→Prop} (hh:A.handled=some (.ref h)) (ne:h≠e)
  (ho:s.heap.get? h=some oh) (hd:oh.data=.fields vs) (h2:vs[2]?=some .none) (he:s.heap.get? e=some oe) (hde:oe.data=.fields ws) (hz:2<ws.size)
  (hE:E (.ref e) {s with heap:=s.heap.update e (Obj.mapFields (·.setIfInBounds 2 (.ref h)))}):wpAny (model P w) A (raiseNew (.ref e):Sem α) Q E s:=by
 unfold raiseNew
 refine wpAny_bind (wpAny_handled ?_)
 rw[hh]
 dsimp only
 rw[if_pos (by simp [ne])]
 refine wpAny_bind (wpAny_holding (wpAny_runValue (builtin_of entry_unchain ?_)))
 unfold Builtin.«proto.unchain»
 dsimp only
 refine wpAny_bind (wpAny_field ho hd h2 ?_)
 rw[if_pos (by decide)]
 refine wpAny_pure ?_
 dsimp only
 refine wpAny_bind ?_
 show wpAny _ _ (setField (.ref e) 2 (.ref h)) _ _ s
 exact wpAny_setField he hde hz (wpAny_throw hE)
end
section
variable {M : Model} {A : Around} {E : Value → Shared → Prop}
variable {nm q : Str} {C N : Addr} {bs bm : List Value} {hdct : Bool} {sn : List Str} {sub : List Value} {ab : Bool} {col : Option Bool} {dd : Option Addr} {k0 k1 k2 k3 k5 : Option Value} {newId : String}
theorem excFrom_inst {s:Shared} {e:Addr} {o:Obj} {msg:String} {Q:Value→Shared→Prop} (hbase:bm.contains (.type "BaseException")=true) (hC:s.heap.get? C=some (excClassObj nm q C N bs bm hdct sn sub ab col dd k0 k1 k2 k3 k5 newId))
  (he:s.heap.get? e=some o) (hc:o.cls=.ref C) {ws:Array Value} (hd:o.data=.fields ws) (h:Q (.ref e) s):wpAny M A (excFromValue (.ref e) msg) Q E s:=by
 have hcB:(Value.ref C::bm).contains (.type "BaseException")=true:=by rw[List.contains_cons,hbase,Bool.or_true]
 obtain⟨hp,g,d,tk,os⟩:=s
 obtain⟨c,d1,dt,sl⟩:=o
 dsimp only at hc hd
 subst hc hd
 unfold excFromValue
 repeat (first | with_reducible refine wpAny_loadPart_at he ?_ | with_reducible refine wpAny_loadPart_at hC ?_ | (with_reducible refine wpAny_isSubtype_exc hC ?_;rw[hcB]) | wp_step)
 exact h
theorem raised_inst {s:Shared} {e:Addr} {o:Obj} {Q:Value→Shared→Prop} (hC:s.heap.get? C=some (excClassObj nm q C N bs bm hdct sn sub ab col dd k0 k1 k2 k3 k5 newId))
  (he:s.heap.get? e=some o) (hc:o.cls=.ref C) {ws:Array Value} (hd:o.data=.fields ws) (h:Q (.ref e) s):wpAny M A (raisedInstance (.ref e)) Q E s:=by
 obtain⟨hp,g,d,tk,os⟩:=s
 obtain⟨c,d1,dt,sl⟩:=o
 dsimp only at hc hd
 subst hc hd
 unfold raisedInstance
 repeat (first | with_reducible refine wpAny_loadPart_at he ?_ | with_reducible refine wpAny_loadPart_at hC ?_ | wp_step)
 exact h
theorem isType_inst {s:Shared} {e:Addr} {o:Obj} {Q:Bool→Shared→Prop} (hC:s.heap.get? C=some (excClassObj nm q C N bs bm hdct sn sub ab col dd k0 k1 k2 k3 k5 newId))
  (he:s.heap.get? e=some o) (hc:o.cls=.ref C) {ws:Array Value} (hd:o.data=.fields ws) (h:Q false s):wpAny M A (isType (.ref e)) Q E s:=by
 obtain⟨hp,g,d,tk,os⟩:=s
 obtain⟨c,d1,dt,sl⟩:=o
 dsimp only at hc hd
 subst hc hd
 unfold isType
 repeat (first | with_reducible refine wpAny_loadPart_at he ?_ | with_reducible refine wpAny_loadPart_at hC ?_ | wp_step)
 exact h
end
section
variable {P : Program} {w : World} {A : Around} {E : Value → Shared → Prop} {env : Env}
noncomputable def IsExc (h:Heap) (e:Addr) (ws:Array Value):Prop:=∃o C nm q N bs bm hdct sn sub ab col dd k0 k1 k2 k3 k5 newId,h.get? e=some o∧o.cls=.ref C∧o.data=.fields ws∧C≠e∧bm.contains (.type "BaseException")=true∧
 h.get? C=some (excClassObj nm q C N bs bm hdct sn sub ab col dd k0 k1 k2 k3 k5 newId)
theorem IsExc.set {h:Heap} {e:Addr} {ws:Array Value} {i:Nat} {x:Value} (I:IsExc h e ws):IsExc (h.update e (Obj.mapFields (·.setIfInBounds i x))) e (ws.setIfInBounds i x):=by
 obtain⟨o,C,nm,q,N,bs,bm,hdct,sn,sub,ab,col,dd,k0,k1,k2,k3,k5,newId,he,hc,hd,ne,hb,hC⟩:=I
 refine⟨Obj.mapFields (·.setIfInBounds i x) o,C,nm,q,N,bs,bm,hdct,sn,sub,ab,col,dd,k0,k1,k2,k3,k5,newId,Heap.get?_update_self _ he (Obj.isFreed_of_fields (Obj.data_mapFields hd _)),?_,Obj.data_mapFields hd _,ne,hb,(Heap.get?_update_other _ _ (Ne.symm ne)).trans hC⟩
 obtain⟨c,d1,dt,sl⟩:=o
 dsimp only at hc hd
 subst hd
 exact hc
theorem IsExc.off {h:Heap} {e a:Addr} {ws:Array Value} {f:Obj→Obj} (I:IsExc h e ws) (ne:a≠e) (nc:∀o C,h.get? e=some o→o.cls=.ref C→a≠C):IsExc (h.update a f) e ws:=by
 obtain⟨o,C,nm,q,N,bs,bm,hdct,sn,sub,ab,col,dd,k0,k1,k2,k3,k5,newId,he,hc,hd,ne',hb,hC⟩:=I
 exact⟨o,C,nm,q,N,bs,bm,hdct,sn,sub,ab,col,dd,k0,k1,k2,k3,k5,newId,(Heap.get?_update_other _ _ ne).trans he,hc,hd,ne',hb,(Heap.get?_update_other _ _ (nc o C he hc)).trans hC⟩
section
variable {M : Model} {s : Shared} {e : Addr} {ws : Array Value}
theorem IsExc.from (I:IsExc s.heap e ws) {msg:String} {Q:Value→Shared→Prop} (h:Q (.ref e) s):wpAny M A (excFromValue (.ref e) msg) Q E s:=by
 obtain⟨o,C,nm,q,N,bs,bm,hdct,sn,sub,ab,col,dd,k0,k1,k2,k3,k5,newId,he,hc,hd,ne,hb,hC⟩:=I
 exact excFrom_inst hb hC he hc hd h
theorem IsExc.raised (I:IsExc s.heap e ws) {Q:Value→Shared→Prop} (h:Q (.ref e) s):wpAny M A (raisedInstance (.ref e)) Q E s:=by
 obtain⟨o,C,nm,q,N,bs,bm,hdct,sn,sub,ab,col,dd,k0,k1,k2,k3,k5,newId,he,hc,hd,ne,hb,hC⟩:=I
 exact raised_inst hC he hc hd h
theorem IsExc.isType (I:IsExc s.heap e ws) {Q:Bool→Shared→Prop} (h:Q false s):wpAny M A (PySem.isType (.ref e)) Q E s:=by
 obtain⟨o,C,nm,q,N,bs,bm,hdct,sn,sub,ab,col,dd,k0,k1,k2,k3,k5,newId,he,hc,hd,ne,hb,hC⟩:=I
 exact isType_inst hC he hc hd h
theorem IsExc.put (I:IsExc s.heap e ws) {i:Nat} {x:Value} {Q:Unit→Shared→Prop} (hi:i<ws.size) (h:Q () {s with heap:=s.heap.update e (Obj.mapFields (·.setIfInBounds i x))}):wpAny M A (setField (.ref e) i x) Q E s:=by
 obtain⟨o,C,nm,q,N,bs,bm,hdct,sn,sub,ab,col,dd,k0,k1,k2,k3,k5,newId,he,hc,hd,ne,hb,hC⟩:=I
 exact wpAny_setField he hd hi h
end
noncomputable def fromHeap (hp:Heap) (e h:Addr):Heap:=((hp.update e (Obj.mapFields (·.setIfInBounds 3 (.ref h)))).update e (Obj.mapFields (·.setIfInBounds 4 (.bool true)))).update e (Obj.mapFields (·.setIfInBounds 2 (.ref h)))
theorem raiseStmt_from {s:Shared} {x c:Sem Value} {h:Addr} {Q:Flow→Shared→Prop} (hh:A.handled=some (.ref h))
  (hx:wpAny (model P w) A x (fun v s₁=>∃e,v=.ref e∧wpAny (model P w) A c (fun cv s₂=>cv=.ref h∧h≠e∧(∃ws,IsExc s₂.heap e ws∧ws[1]?=some .none∧4<ws.size)∧
   (∃oh C,s₂.heap.get? h=some oh∧oh.cls=.ref C∧e≠C)∧(∃vs,IsExc s₂.heap h vs∧vs[2]?=some .none)∧E (.ref e) {s₂ with heap:=fromHeap s₂.heap e h}) E s₁) E s):
  wpAny (model P w) A (raiseStmt env (some x) (some c)) Q E s:=by
 unfold raiseStmt
 refine wpAny_bind (wpAny_mono hx (fun v s₁ h₁=>?_) fun _ _ z=>z)
 obtain⟨e,rfl,hc⟩:=h₁
 dsimp only
 refine wpAny_bind (wpAny_holding (wpAny_mono hc (fun cv s₂ h₂=>?_) fun _ _ z=>z))
 obtain⟨rfl,ne,⟨ws,Ie,w1,wz⟩,⟨oh,Ch,gh,ch,nch⟩,⟨vs,Ih,v2⟩,hE⟩:=h₂
 have nc:∀o C,s₂.heap.get? h=some o→o.cls=.ref C→e≠C:=fun o C ho hc=>by
  rw[gh] at ho
  cases ho
  rw[ch] at hc
  cases hc
  exact nch
 refine wpAny_bind (wpAny_pure ?_)
 dsimp only
 refine wpAny_bind (wpAny_holding (Ie.from ?_))
 rw[if_neg (by simp)]
 refine wpAny_bind (wpAny_holding (Ih.from ?_))
 have I1:=Ie.set (i:=3) (x:=.ref h)
 have I2:=I1.set (i:=4) (x:=.bool true)
 refine wpAny_bind (Ie.put (by omega) ?_)
 refine wpAny_bind (I1.put (by simp;omega) ?_)
 refine wpAny_bind (I2.isType ?_)
 rw[if_neg (by decide)]
 refine wpAny_bind (I2.raised ?_)
 have J2:IsExc ((s₂.heap.update e (Obj.mapFields (·.setIfInBounds 3 (.ref h)))).update e (Obj.mapFields (·.setIfInBounds 4 (.bool true)))) h vs:=by
  refine(Ih.off (Ne.symm ne) nc).off (Ne.symm ne) fun o C ho hc=>nc o C ?_ hc
  rw[←ho]
  exact(Heap.get?_update_other _ _ (Ne.symm ne)).symm
 obtain⟨oe,_,_,_,_,_,_,_,_,_,_,_,_,_,_,_,_,_,_,ge,_,de,_⟩:=id I2
 obtain⟨oh',_,_,_,_,_,_,_,_,_,_,_,_,_,_,_,_,_,_,gh',_,dh,_⟩:=id J2
 unfold setFlight
 refine wpAny_bind (wpAny_bind (wpAny_field ge de (x:=.none) ?_ ?_))
 ·rw[Array.getElem?_setIfInBounds_ne (by decide),Array.getElem?_setIfInBounds_ne (by decide)]
  exact w1
 rw[if_neg (by decide)]
 refine wpAny_pure ?_
 exact raiseNew_some hh ne gh' dh v2 ge de (by simp;omega) hE
end
theorem flyingW_keeps {B h h':Heap} {l:List Env} {ad:Addr} {cls a0:Value} (fl:Heap.FlyingW B l ad cls a0 h) (k:∀b o,h.get? b=some o→h'.get? b=some o):Heap.FlyingW B l ad cls a0 h':=by
 obtain⟨f1,f2,f3,oe,vs,T,oT,ts,g1,g2,g3,g4,g5,g6,g7,g8,g9⟩:=fl
 exact⟨fun b o q=>k b o (f1 b o q),f2,f3.of_keeps fun b o hb _=>⟨o,k b o hb,rfl⟩,oe,vs,T,oT,ts,k _ _ g1,g2,g3,g4,g5,g6,k _ _ g7,g8,g9⟩
section
variable {X : Cx} {pins : List (Addr × Obj)} {σ : St} {H : Hp} {s : Shared}
theorem tup_test {E:Value→Shared→Prop} {Q:Bool→Shared→Prop} {cx cy:Str} {C1 C2:Value} {ad:Addr} {cls:Value} {b:Bool} {p1 p2 tpos:Pos} {kk:Nat} (I:Inv X pins σ H s) (hg:Gl X cx) (hm:X.mg cx=some C1) (hg2:Gl X cy) (hm2:X.mg cy=some C2)
  (LT:Looks (model X.prog X.w) s.heap (typeOf (.ref ad)) cls) (he:PySem.W.exmAny X.K cls [C1,C2]=some b)
  (q:∀h',(∀a o,s.heap.get? a=some o→h'.get? a=some o)→Q b {s with heap:=h'})
  (h1:(cx==("__debug__":Str))=false:=by decide) (h2:(cy==("__debug__":Str))=false:=by decide):
  wpAny (model X.prog X.w) X.A (eval (.Tuple [.Name cx p1,.Name cy p2] kk tpos) X.env) (fun c s₁=>wpAny (model X.prog X.w) X.A (excMatches (.ref ad) c) Q E s₁) E s:=by
 refine wpAny_Tuple ?_
 refine wpAny_items_cons (ld_glob I hg hm ?_ h1)
 refine wpAny_items_cons (ld_glob I hg2 hm2 ?_ h2)
 refine wpAny_items_nil ⟨by size_fits,?_⟩
 have kp:∀a o,s.heap.get? a=some o→(s.heap.push {cls:=.type "tuple",data:=.seq [C1,C2].toArray}).get? a=some o:=fun _ _ z=>Heap.get?_push_of_some _ z
 exact(PySem.W.exm_tup2 (I.kIn.keeps kp) (LT.keeps kp) (Heap.get?_push_size s.heap rfl) he).here (q _ kp)
end
noncomputable def ExN (ad:Addr) (cls:Value):HO:=.ext fun h=>∃o vs,h.get? ad=some o∧o.cls=cls∧o.data=.fields vs∧vs[2]?=some .none
section
variable {M : Model} {A : Around} {E : Value → Shared → Prop} {s : Shared} {B : Heap} {l : List Env} {ad L : Addr} {cls a0 : Value}
theorem back_held {ce:Env} (hh:Heap.HeldW B l ad cls a0 L s.heap) (hf:ce.frame=some L)
  (k:∀h',Heap.HeldW B l ad cls a0 L h'→s.heap.UpToSlots h'→E (.ref ad) {s with heap:=h'}):cameBackBy M A ce E (.ref ad) s:=by
 obtain⟨st,na,ff,oe,vs,T,oT,ts,g1,g2,g3,g4,g5,g6,g7,g8,g9⟩:=id hh
 have sz:3<ts.size:=(Array.getElem?_eq_some_iff.mp g9).1
 have ot:∀{f:Obj→Obj} b,b≠T→(s.heap.update T f).get? b=s.heap.get? b:=fun b hb=>Heap.get?_update_other _ _ (Ne.symm hb)
 have nr:∀b o,s.heap.get? b=some o→(∀us,o.data≠.fields us)→b≠T:=fun b o e nf z=>by
  rw[z,g7] at e
  cases e
  exact nf ts g8
 unfold cameBackBy
 refine wpAny_bind (wpAny_field g1 g3 g4 ?_)
 rw[if_neg (by simp)]
 have fin:wpAny M A (setFlight (.ref ad) ce.frame) (fun _ s1=>E (.ref ad) s1) E s:=by
  rw[hf]
  unfold setFlight
  refine wpAny_bind (wpAny_field g1 g3 g4 ?_)
  rw[if_pos (by simp)]
  refine wpAny_setField g7 g8 sz (k _ ⟨fun b o e=>?_,na,?_,?_⟩ (fun b o e nf=>?_))
  ·refine(ot b fun z=>?_).trans (st b o e)
   rw[z,g5] at e
   cases e
  ·exact Heap.FunFrames.of_keeps (fun b o e nf=>⟨o,(ot b (nr b o e nf)).trans e,rfl⟩) ff
  ·exact⟨oe,vs,T,_,_,(ot ad (Ne.symm g6)).trans g1,g2,g3,g4,g5,g6,Heap.get?_update_self _ g7 (Obj.isFreed_of_fields (Obj.data_mapFields g8 _)),Obj.data_mapFields g8 _,by simp [sz]⟩
  ·exact⟨o.slots,(ot b (nr b o e nf)).trans e⟩
 first
  | exact fin
  | exact wpAny_bind (wpAny_pure fin)
end
theorem Inv.noted {X:Cx} {pins:List (Addr×Obj)} {σ:St} {H:Hp} {s:Shared} {h':Heap} (I:Inv X pins σ H s) (st:(hideAll s.heap (frs X.stack)).StaysIn h') (up:∀b∈frs X.stack,∀o,s.heap.get? b=some o→∃sl,h'.get? b=some {o with slots:=sl}):
  Inv X pins σ H {s with heap:=h'}:=by
 refine I.call' (s':={s with heap:=h'}) (ch:=[]) rfl ⟨fun b o q n hb _=>st b o (hideAll_get _ q hb),fun b o q n hb _=>up b hb o q,fun b o q n _=>n,fun b o q _=>?_,fun b xs q=>q,fun b o u q=>q,fun b ps q=>⟨#[],by rw[Array.append_empty];exact q⟩⟩
  (HOk.inB I.hok (fun b u o e1 q=>hideAll_get _ q fun z=>by
   have:=I.stkFree b z
   rw[e1] at this
   cases this) st) I.bare (fun b hb=>absurd hb (by simp))
 by_cases hb:b∈frs X.stack
 ·obtain⟨sl,q1⟩:=up b hb o q
  exact⟨_,q1⟩
 ·exact⟨o,st b o (hideAll_get _ q hb)⟩
section
variable {P : Program} {w : World} {K : PySem.W.Frag} {mg : Str → Option Value} {base : Heap} {N : List Str} {qual : Str} {scope : Scope} {f : Addr} {cdv : Value} {A : Around} {outer : List Env} {s0 : Shared} {H0 : Hp} {E : XK}
theorem xe_held {pins:List (Addr×Obj)} {σ:St} {H:Hp} {s:Shared} {h' B:Heap} {ad T c:Addr} {cls a0:Value}
  (I:Inv (cxOf (CX1 P w) P w K mg base N qual scope f cdv A outer s0 H0 E) pins σ H s) (held:Heap.HeldW B (envOfC qual scope s0.heap.objs.size f cdv::outer) ad cls a0 s0.heap.objs.size h') (up:s.heap.UpToSlots h')
  (B1:∀b o,s.heap.get? b=some o→b≠ad→b≠T→b∉frs (envOfC qual scope s0.heap.objs.size f cdv::outer)→B.get? b=some o)
  (nad:H ad=none) (nT:H T=none) (zad:s0.heap.get? ad=none) (zT:s0.heap.get? T=none) (e:E cls (some c) H):
  (cxOf (CX1 P w) P w K mg base N qual scope f cdv A outer s0 H0 E).xe (.ref ad) {s with heap:=h'}:=by
 let env:Env:=envOfC qual scope s0.heap.objs.size f cdv
 have nin:∀b o,s0.heap.get? b=some o→b∉frs outer→b∉frs (env::outer):=fun b o q hb z=>by
  rcases List.mem_cons.mp (show b∈s0.heap.objs.size::frs outer from z) with z | z
  ·rw[z] at q
   exact absurd (Heap.lt_size q) (Nat.lt_irrefl _)
  ·exact hb z
 have hin:∀b,b∈frs outer→b∈frs (env::outer):=fun b hb=>List.mem_cons.mpr (.inr hb)
 have ST:s.heap.FunFrames base (env::outer):=I.stack
 have SF:∀b∈frs (env::outer),H b=none:=I.stkFree
 have BS:Un (frs outer) [] H0 H s0.heap s.heap:=I.base
 have n0:∀b o,s0.heap.get? b=some o→b≠ad∧b≠T:=fun b o q=>⟨(fun z=>by rw[z,zad] at q;cases q),(fun z=>by rw[z,zT] at q;cases q)⟩
 have trB:∀b u o,H b=some u→s.heap.get? b=some o→B.get? b=some o:=fun b u o e1 q=>B1 b o q (fun z=>by rw[z,nad] at e1;cases e1) (fun z=>by rw[z,nT] at e1;cases e1) fun z=>by
  have:=SF b z
  rw[e1] at this
  cases this
 show wpAny (model P w) (A.deeper env) (leaving env (.ref ad)) (fun _ s''=>CX1 P w outer H0 s0 E (.ref ad) s'') (fun e' s''=>CX1 P w outer H0 s0 E e' s'') {s with heap:=h'}
 refine leave_held (p:=False) rfl held (fun z=>z.elim) fun h2 x1 x4 _=>?_
 have x4:Heap.UpToSlots h' h2:=x4
 have fr:∀b∈frs (env::outer),∀o,s.heap.get? b=some o→∃sl,h2.get? b=some {o with slots:=sl}:=fun b hb o q=>by
  obtain⟨_,o1,q1,nf⟩:=ST.mem hb
  rw[q] at q1
  cases q1
  exact(up.trans x4) b o q nf
 refine⟨ad,cls,some c,H,rfl,⟨⟨I.os,I.bare,⟨fun b o q n hb hx=>?_,fun b o q n hb hx=>?_,BS.free,fun b o q hx=>?_,BS.tups,BS.frzs,BS.tbls⟩,?_,⟨B,a0,x1,fun b o q n hb=>?_,fun b o q hb=>?_,fun b u o e1 q=>?_⟩⟩,fun z=>by cases z⟩,e⟩
 ·exact x1.1 b o (B1 b o (BS.keep b o q n hb hx) (n0 b o q).1 (n0 b o q).2 (nin b o q hb))
 ·obtain⟨sl,q1⟩:=BS.slot b o q n hb hx
  obtain⟨sl2,q2⟩:=fr b (hin b hb) _ q1
  exact⟨sl2,q2⟩
 ·obtain⟨o1,q1⟩:=BS.there b o q hx
  by_cases hb:b∈frs (env::outer)
  ·obtain⟨sl2,q2⟩:=fr b hb _ q1
   exact⟨_,q2⟩
  ·exact⟨o1,x1.1 b o1 (B1 b o1 q1 (n0 b o q).1 (n0 b o q).2 hb)⟩
 ·exact HOk.inB I.hok trB x1.1
 ·exact B1 b o (BS.keep b o q n hb (by simp)) (n0 b o q).1 (n0 b o q).2 (nin b o q hb)
 ·obtain⟨o1,q1⟩:=BS.there b o q (by simp)
  exact⟨o1,B1 b o1 q1 (n0 b o q).1 (n0 b o q).2 (nin b o q hb)⟩
 ·obtain⟨o1,q1⟩:=(I.hok b u e1).get
  have q2:=trB b u o1 e1 q1
  have q3:=x1.1 b o1 q2
  rw[q] at q3
  cases q3
  exact q2
end
noncomputable def Outs (X:Cx) (E:XK):Prop:=∀(pins:List (Addr×Obj)) (σ:St) (H:Hp) (s:Shared) (h' B:Heap) (ad T c:Addr) (cls a0:Value),Inv X pins σ H s→Heap.HeldW B X.stack ad cls a0 X.env.locals h'→s.heap.UpToSlots h'→
 (∀b o,s.heap.get? b=some o→b≠ad→b≠T→b∉frs X.stack→B.get? b=some o)→H ad=none→H T=none→X.s₀.heap.get? ad=none→X.s₀.heap.get? T=none→E cls (some c) H→X.xe (.ref ad) {s with heap:=h'}
theorem outs_of {P:Program} {w:World} {K:PySem.W.Frag} {mg:Str→Option Value} {base:Heap} {N:List Str} {qual:Str} {scope:Scope} {f:Addr} {cdv:Value} {A:Around} {outer:List Env} {s0:Shared} {H0:Hp} {E:XK}:
  Outs (cxOf (CX1 P w) P w K mg base N qual scope f cdv A outer s0 H0 E) E:=fun _ _ _ _ _ _ _ _ _ _ _ I a b c d e f g h=>xe_held I a b c d e f g h
theorem exc_of {K:Frag} {h:Heap} {e C:Addr} {o:Obj} {ws:Array Value} (X:K.In h) (q:excIn K C bmVE newVE=true) (he:h.get? e=some o) (hc:o.cls=.ref C) (hd:o.data=.fields ws):IsExc h e ws∧C≠e:=by
 obtain⟨tl,N,nm,qn,bs,hdct,sn,sub,ab,col,dd,k0,k1,k2,k3,k5,mN,hC,hN,hni,T⟩:=exc_obj X q
 have ne:C≠e:=fun z=>by
  rw[z,he] at hC
  cases hC
  cases hd
 exact⟨⟨o,C,nm,qn,N,bs,tl,hdct,sn,sub,ab,col,dd,k0,k1,k2,k3,k5,_,he,hc,hd,ne,T.hasType PySem.F.excBase_ValueError.hasBase,hC⟩,ne⟩
theorem from_ne {hp:Heap} {e h b:Addr} (n:b≠e):(fromHeap hp e h).get? b=hp.get? b:=by
 unfold fromHeap
 rw[Heap.get?_update_other _ _ (Ne.symm n),Heap.get?_update_other _ _ (Ne.symm n),Heap.get?_update_other _ _ (Ne.symm n)]
theorem from_at {hp:Heap} {e h:Addr} {o:Obj} {ws:Array Value} (he:hp.get? e=some o) (hd:o.data=.fields ws):
  ∃o',(fromHeap hp e h).get? e=some o'∧o'.cls=o.cls∧o'.data=.fields (((ws.setIfInBounds 3 (.ref h)).setIfInBounds 4 (.bool true)).setIfInBounds 2 (.ref h)):=by
 have d1:=Obj.data_mapFields hd (·.setIfInBounds 3 (Value.ref h))
 have e1:=Heap.get?_update_self (Obj.mapFields (·.setIfInBounds 3 (Value.ref h))) he (Obj.isFreed_of_fields d1)
 have d2:=Obj.data_mapFields d1 (·.setIfInBounds 4 (Value.bool true))
 have e2:=Heap.get?_update_self (Obj.mapFields (·.setIfInBounds 4 (Value.bool true))) e1 (Obj.isFreed_of_fields d2)
 have d3:=Obj.data_mapFields d2 (·.setIfInBounds 2 (Value.ref h))
 exact⟨_,Heap.get?_update_self _ e2 (Obj.isFreed_of_fields d3),by rw[Obj.cls_mapFields,Obj.cls_mapFields,Obj.cls_mapFields],d3⟩
section
variable {X : Cx} {pins : List (Addr × Obj)} {σ : St} {H H' : Hp} {s s' : Shared} {E : XK} {ad Cc C3 : Addr} {cls C1 C2 : Value} {cx cy n x : Str} {p1 p2 tpos np nrp cpos rpos hpos : Pos} {kk i : Nat} {e : Expr} {es : List Expr} {ta : TA}
theorem ld_var {M:Model} {A:Around} {E:Value→Shared→Prop} {Q:Value→Shared→Prop} {v:V} (I:Inv X pins σ H s) (hi:X.N[i]?=some n) (hl:X.env.scope.names.lookup n=some .local) (hv:σ[i]?=some (some v)) (h:∀u,RelV v u→Q u s)
  (hd:(n==("__debug__":Str))=false:=by decide):wpAny M A (eval (.Name n np) X.env) Q E s:=by
 obtain⟨m,hn,hk⟩:=I.loc
 obtain⟨u,r,l⟩:=hk i n v hi hv (.inl hl)
 rcases l with ⟨hk,hm⟩ | ⟨hk,_⟩
 ·exact wpAny_Name (wpAny_loadName_local I.ok.kind hk hn hm (h u r)) hd
 ·have z:X.env.kindOf n=some .local:=hl
  rw[z] at hk
  rcases hk with hk | hk <;>cases hk
theorem caughtF {D:Ends} (I:Inv X pins σ H s) (F:Fly X.prog X.w X.stack H s H' ad cls s') (nc:NoCx s'.heap ad) (hcl:cls=.ref Cc) (qc:excIn X.K Cc bmVE newVE=true) (hst:X.stack=X.env::X.outer) (hf:X.env.frame=some X.env.locals) (hex:X.ex=[]) (ho:Outs X E)
  (hg1:Gl X cx) (hm1:X.mg cx=some C1) (hg2:Gl X cy) (hm2:X.mg cy=some C2) (hx:PySem.W.exmAny X.K cls [C1,C2]=some true) (hN:X.N.Nodup) (hi:X.N[i]?=some n) (hl:X.env.scope.names.lookup n=some .local)
  (hg3:Gl X x) (hm3:X.mg x=some (.ref C3)) (q3:excIn X.K C3 bmVE newVE=true) (ha:∀ad,PA (X.mark ad) (e::es) ta)
  (h:ta (σ.set i (some (.ref ad))) (upd H' ad (ExN ad cls)) fun vs H1=>vs.length≤sizeLine∧H1 ad=some (ExN ad cls)∧E (.ref C3) (some ad) H1)
  (hd1:(cx==("__debug__":Str))=false:=by decide) (hd2:(cy==("__debug__":Str))=false:=by decide) (hd3:(x==("__debug__":Str))=false:=by decide) (hdn:(n==("__debug__":Str))=false:=by decide)
  (he:starEach (e::es) X.env=(false,eval e X.env)::starEach es X.env:=by rfl) (hpl:(backTo cpos (starEach es X.env)).any (·.1)=false:=by rfl):
  wpAny (model X.prog X.w) X.A (noteFrame (.ref ad) X.env) (fun _ s₂=>wpAny (model X.prog X.w) X.A (setFlight (.ref ad) none)
   (fun _ s₃=>wpAny (model X.prog X.w) X.A (handleBy (.ref ad) X.env [.ExceptHandler (some (.Tuple [.Name cx p1,.Name cy p2] kk tpos)) (some n) [.Raise (some (.Call (.Name x np) (e::es) [] cpos)) (some (.Name n nrp)) rpos] hpos])
    (SP X pins D) X.xe s₃) X.xe s₂) X.xe s':=by
 obtain⟨B,a0,fl,c0,c2,c1⟩:=F.fl
 have fl':=fl
 rw[hst] at fl'
 refine note_nc (p:=True) (L:=X.env.locals) (I.ok.frames.trans (by rw[hst])) hf fl' (fun _=>nc) fun h4 held4 up4 nc4=>?_
 refine land_nc (p:=True) held4.1 held4.2.1 held4.2.2.1 held4.2.2.2 nc4 fun h5 fl5 up5 nc5=>?_
 have U5:s'.heap.UpToSlots h5:=up4.trans up5
 have I5:Inv X pins σ H' {s' with heap:=h5}:=F.inv I fl c0 c2 c1 fl5.1 U5
 obtain⟨ob,hob,hobc⟩:=fl5.there
 have LT:Looks (model X.prog X.w) h5 (typeOf (.ref ad)) cls:=by
  subst hobc
  exact(Looks.ld hob).andThen .now
 refine wpAny_handleBy_cons (codeAny_handlers_test (tup_test (X:=X.mark ad) (I5.mark ad) hg1 hm1 hg2 hm2 LT hx (fun h6 k6=>?_) hd1 hd2)) (by intro q;cases q)
 refine codeAny_handlers_suite_as ?_
 have fl6:=flyingW_keeps fl5 k6
 have nc6:NoCx h6 ad:=by
  obtain⟨o,vs,q,d,r⟩:=nc5 trivial
  exact⟨o,vs,k6 _ _ q,d,r⟩
 refine land_nc (p:=True) fl6.1 fl6.2.1 fl6.2.2.1 fl6.2.2.2.at (fun _=>nc6) fun h7 fl7 up7 nc7=>?_
 have U7:s'.heap.UpToSlots h7:=(U5.trans (Heap.UpToSlots.of_keeps k6)).trans up7
 have I7:Inv X pins σ H' {s' with heap:=h7}:=F.inv I fl c0 c2 c1 fl7.1 U7
 obtain⟨oe,vs,hoe,hed,h2⟩:=nc7 trivial
 obtain⟨o7,ho7,hc7⟩:=fl7.there
 rw[hoe] at ho7
 cases ho7
 have I8:Inv X pins σ (upd H' ad (ExN ad cls)) {s' with heap:=h7}:=I7.adopt I F.new F.tracked ⟨oe,hoe⟩ ⟨oe,vs,hoe,hc7,hed,h2⟩ fun h1 h2 ⟨o,ws,e1,e2,e3,e4⟩ k=>⟨o,ws,k o e1,e2,e3,e4⟩
 refine store_ok (X:=X.mark ad) (I8.mark ad) hN hi (.inl hl) (v:=.ref ad) rfl (fun s8 I9=>?_) (.inr hl)
 refine wpAny_execs_cons ?_
 rw[arm_exec_Raise]
 refine wpAny_bind (wpAny_standAt ?_)
 refine raiseStmt_from (h:=ad) rfl (wpAny_bind (wpAny_mono (wpAny_Call_ofName (ld_glob (X:=X.mark ad) I9 hg3 hm3 ?_ hd3)) (fun v s₃ h₃=>wpAny_bind (wpAny_standAt (wpAny_pure h₃))) fun _ _ x=>x))
 have FB:=PySem.F.excBase_ValueError
 obtain⟨tl,Nn,nm,qn,bs,hdct,sn,sub,ab,col,dd,k0,k1,k2,k3,k5,mN,hC,hNn,hni,T⟩:=exc_obj I.ok.mod.kin q3
 have ha':=ha ad cpos pins s8 _ _ _ I9 h
 have he':starEach (e::es) (X.mark ad).env=(false,eval e X.env)::starEach es X.env:=he
 rw[he'] at ha'
 rw[he]
 unfold callWith
 refine wpAny_bind (wpAny_holding (wpAny_mono (Q:=fun a s2=>a.kw=[]∧∃vs H1,Inv (X.mark ad) pins (List.set σ i (some (V.ref ad))) H1 s2∧Vals vs a.pos∧vs.length≤sizeLine∧H1 ad=some (ExN ad cls)∧E (.ref C3) (some ad) H1) (E:=fun _ _=>False) (Calls.evalArgs_plain (thn ha' fun us s1 ⟨vs,H1,I1,r,z,k⟩=>⟨rfl,vs,H1,I1,r,z,k⟩)) (fun a s₂ h₂=>wpAny_bind (wpAny_standAt ?_)) fun _ _ z=>z.elim))
 obtain⟨apos,akw⟩:=a
 obtain⟨hkw,vs1,H1,I1,r1,z1,t1,k1'⟩:=h₂
 obtain rfl:akw=[]:=hkw
 have I1':=I1.unmark I.ok
 obtain⟨hp,g,d,tk,os⟩:=s₂
 have hplain:(backTo cpos ((false,eval e X.env)::starEach es X.env)).any (·.1)=false:=by
  show(false || (backTo cpos (starEach es _)).any (·.1))=false
  rw[hpl]
  rfl
 simp only[hplain]
 have hC1:=I1.bk _ _ hC
 refine wpAny_bind (wpAny_keeperOf_exc hC1 ?_)
 refine wpAny_bind (wpAny_call_exc_subT (hrest:=by show apos.length≤sizeLine;have:=r1.length;dsimp only at this;omega) FB (T.keeps I1.bk) hC1 (hNn.keeps I1.bk) hni fun hm e2 mx=>wpAny_bind (wpAny_holding (wpAny_point (wpAny_pure ?_))))
 have I2:Inv X pins (List.set σ i (some (V.ref ad))) H1 ⟨hm,g,d,tk,os⟩:=I1'.kept mx.keeps
 have hiσ:i<σ.length:=by rw[I.len];exact(List.getElem?_eq_some_iff.mp hi).1
 refine⟨e2,rfl,wpAny_bind (ld_var I2 hi hl (v:=.ref ad) (by rw[List.getElem?_set_self hiσ]) (fun u ru=>wpAny_bind (wpAny_standAt (wpAny_pure ?_))) hdn)⟩
 obtain rfl:u=Value.ref ad:=ru
 obtain⟨tt,he2,tn,_⟩:=mx.there
 obtain⟨⟨oh,ws,g1,g2,g3,g4⟩,_,_⟩:=I2.hok ad _ t1
 have g1:hm.get? ad=some oh:=g1
 have ade:ad≠e2:=fun z=>by
  obtain⟨⟨o1,_,q1,_⟩,_,_⟩:=I1'.hok ad _ t1
  have q1:hp.get? ad=some o1:=q1
  rw[z,mx.new] at q1
  cases q1
 have ih:=exc_of I2.kIn qc g1 (g2.trans hcl) g3
 have ie:=exc_of I2.kIn q3 he2 rfl rfl
 refine⟨rfl,ade,⟨_,ie.1,rfl,show(4:Nat)<6 by decide⟩,⟨oh,Cc,g1,g2.trans hcl,fun z=>?_⟩,⟨ws,ih.1,g4⟩,?_⟩
 ·obtain⟨_,_,_,_,_,_,_,_,_,_,_,_,_,_,_,_,mN',hCc,_⟩:=exc_obj I1'.kIn qc
  have hCc:hp.get? Cc=_:=hCc
  rw[←z,mx.new] at hCc
  cases hCc
 obtain⟨o3,f1,f2,f3⟩:=from_at (h:=ad) he2 rfl
 have n1:H1 e2=none:=by
  cases q:H1 e2 with
  | none=>rfl
  | some u=>
   obtain⟨o,q1⟩:=(I1'.hok e2 u q).get
   have q1:hp.get? e2=some o:=q1
   rw[mx.new] at q1
   cases q1
 have ST1:hp.FunFrames X.base X.stack:=I1'.stack
 have nfr:e2∉frs X.stack:=fun z=>by
  obtain⟨_,o,q,_⟩:=ST1.mem z
  rw[mx.new] at q
  cases q
 have hin:∀en∈X.stack,∀a,en.frame=some a→a∈frs X.stack:=fun en he a ha=>List.mem_filterMap.mpr ⟨en,he,ha⟩
 have kf:∀b o,hp.get? b=some o→(fromHeap hm e2 ad).get? b=some o:=fun b o q=>by
  rw[from_ne (fun z=>by rw[z,mx.new] at q;cases q)]
  exact mx.keeps b o q
 have hb0:(hideAll hp (frs X.stack)).get? e2=none:=by
  cases q:(hideAll hp (frs X.stack)).get? e2 with
  | none=>rfl
  | some o=>
   have:=of_hideAll _ q
   rw[mx.new] at this
   cases this
 have FF:hp.FunFrames (hideAll hp (frs X.stack)) (X.env::X.outer):=by rw[←hst];exact funFrames_hide ST1 hin
 refine note_first (p:=False) (L:=X.env.locals) (base:=hideAll hp (frs X.stack)) (a0:=.ref tt) (I.ok.frames.trans (by rw[hst])) (FF.of_keeps fun b o q _=>⟨o,kf b o q,rfl⟩) hf f1 (fun b o q=>kf b o (of_hideAll _ q)) hb0 f3 (by rfl) (by rfl) (fun z=>z.elim) fun h3 held3 up3 _=>?_
 have I3:Inv X pins (List.set σ i (some (V.ref ad))) H1 ⟨h3,g,d,tk,os⟩:=I1'.noted (h':=h3) held3.1 fun b hb o q=>by
  obtain⟨_,o1,q1,nf⟩:=ST1.mem hb
  have q:hp.get? b=some o:=q
  rw[q] at q1
  cases q1
  exact up3 b o (kf b o q) nf
 obtain⟨oe3,vs3,T3,oT,ts,m1,⟨m2,m2'⟩,m3,m4,m5,m6,m7,m8,m9⟩:=held3.2.2.2
 rw[f2] at m2
 have Tfr:T3∉frs X.stack:=fun z=>by
  obtain⟨_,o,q,nf⟩:=(show h3.FunFrames _ X.stack by rw[hst];exact held3.2.2.1).mem z
  rw[m7] at q
  cases q
  exact nf _ m8
 have pT:hp.get? T3=none:=by
  cases q:hp.get? T3 with
  | none=>rfl
  | some o=>
   have:=hideAll_get _ q Tfr
   rw[m5] at this
   cases this
 have n2:H1 T3=none:=by
  cases q:H1 T3 with
  | none=>rfl
  | some u=>
   obtain⟨o,q1⟩:=(I1'.hok T3 u q).get
   have q1:hp.get? T3=some o:=q1
   rw[pT] at q1
   cases q1
 have z0:∀b,hp.get? b=none→X.s₀.heap.get? b=none:=fun b n=>by
  cases q:X.s₀.heap.get? b with
  | none=>rfl
  | some o=>
   obtain⟨o1,q1⟩:=I1'.base.there b o q (by rw[hex];simp)
   have q1:hp.get? b=some o1:=q1
   rw[n] at q1
   cases q1
 have lfr:X.env.locals∈frs X.stack:=by rw[hst];unfold frs;rw[List.filterMap_cons,hf];exact List.mem_cons_self
 have ofr:∀b,b∈X.fs→b∈frs X.stack:=fun b hb=>by rw[hst];unfold frs;rw[List.filterMap_cons,hf];exact List.mem_cons_of_mem _ hb
 have I4:Inv X ((e2,oe3)::(T3,oT)::pins) (List.set σ i (some (V.ref ad))) H1 ⟨h3,g,d,tk,os⟩:=I3.pins_of fun p hp'=>by
  rcases List.mem_cons.mp hp' with rfl | hp'
  ·exact⟨m1,n1,fun z=>nfr (by rw[show e2=X.env.locals from z];exact lfr),fun z=>nfr (ofr _ z),fun v z=>by rw[m3] at z;cases z⟩
  rcases List.mem_cons.mp hp' with rfl | hp'
  ·exact⟨m7,n2,fun z=>Tfr (by rw[show T3=X.env.locals from z];exact lfr),fun z=>Tfr (ofr _ z),fun v z=>by rw[m8] at z;cases z⟩
  ·exact I3.pin p (List.mem_append_right _ hp')
 refine name_goes I4 hN hi hl fun s4 I5'=>?_
 have p1':=(I5'.pin (e2,oe3) (List.mem_append_right _ List.mem_cons_self)).1
 have p2':=(I5'.pin (T3,oT) (List.mem_append_right _ (List.mem_cons_of_mem _ List.mem_cons_self))).1
 have held4:Heap.HeldW (hideAll s4.heap (e2::T3::frs X.stack)) (X.env::X.outer) e2 (.ref C3) (.ref tt) X.env.locals s4.heap:=by
  refine⟨fun b o q=>of_hideAll _ q,hideAll_none _ List.mem_cons_self,?_,oe3,vs3,T3,oT,ts,p1',⟨m2,m2'⟩,m3,m4,hideAll_none _ (List.mem_cons_of_mem _ List.mem_cons_self),m6,p2',m8,m9⟩
  rw[←hst]
  exact funFrames_hide I5'.stack fun en he a ha=>List.mem_cons_of_mem _ (List.mem_cons_of_mem _ (hin en he a ha))
 refine pass_held (p:=False) held4 hf (fun z=>z.elim) fun h5 held5 up5 _=>?_
 refine wpAny_noteFrame_againW hf held5.2.2.2 ?_
 refine back_held held5 hf fun h6 held6 up6=>?_
 refine ho _ _ H1 s4 h6 _ e2 T3 ad (.ref C3) (.ref tt) I5' (by rw[hst];exact held6) (up5.trans up6) (fun b o q b1 b2 b3=>hideAll_get _ q fun z=>?_) n1 n2 (z0 _ mx.new) (z0 _ pT) k1'
 rcases List.mem_cons.mp z with z | z
 ·exact b1 z
 rcases List.mem_cons.mp z with z | z
 ·exact b2 z
 ·exact b3 z
end
theorem exm_two {K:Frag} {cls c1 c2:Value} {a b:Bool} (h1:PySem.W.exmOne K cls c1=some a) (h2:PySem.W.exmOne K cls c2=some b):PySem.W.exmAny K cls [c1,c2]=some (a || b):=by
 unfold PySem.W.exmAny
 unfold PySem.W.exmAny
 unfold PySem.W.exmAny
 rw[h1,h2]
 dsimp only
 rw[Bool.or_false]
noncomputable def xFrom (K:PySem.W.Frag) (C1 C2:Value) (C3:Addr) (E:XK) (i:Nat) (ta:TA) (σ:St):XK:=fun cls c H2=>c=none∧(∃Cc,cls=.ref Cc∧excIn K Cc bmVE newVE=true)∧PySem.W.exmAny K cls [C1,C2]=some true∧
 ∀ad,H2 ad=none→ta (σ.set i (some (.ref ad))) (upd H2 ad (ExN ad cls)) fun vs H1=>vs.length≤sizeLine∧H1 ad=some (ExN ad cls)∧E (.ref C3) (some ad) H1
noncomputable def tTryF (K:PySem.W.Frag) (tc:TT) (C:Addr) (m:Str) (sp:Sp) (ta:TE) (t:TA) (C':Addr) (m2:Str) (sp2:Sp) (ta2:TE) (t2:TA) (C1 C2:Value) (C3:Addr) (E:XK) (i:Nat) (t3:TA):TS:=fun D σ H=>
 tc σ H fun d H1=>if d=true then tMeth C m sp [] (xFrom K C1 C2 C3 E i t3 σ) ta t σ H1 (fun _ H2=>D.nx σ H2) else tMeth C' m2 sp2 [] (xFrom K C1 C2 C3 E i t3 σ) ta2 t2 σ H1 (fun _ H2=>D.nx σ H2)
section
variable {X : Cx} {E : XK} {k k2 : Nat} {C C' C3 : Addr} {m m2 : Str} {ps ps2 : List Str} {sp sp2 : Sp} {e e2 e3 o o2 : Expr} {es es2 es3 : List Expr} {ta ta2 : TE} {t t2 t3 : TA} {pos apos pos2 apos2 : Pos} {pl pl2 : Sem Bool} {cx cy n x : Str} {p1 p2 tpos0 np nrp cpos rpos hpos epos epos2 tpos ipos : Pos} {i kk : Nat} {C1 C2 : Value} {c : Expr} {tc : TT}
theorem ps_tryF (hc:PT X.nox c tc) (M:MtCal X.prog X.w X.K X.mg X.base (CX1 X.prog X.w) k C m ps sp) (cl:Cls X.K C) (ho:PE X.nox o ta) (hr:Room k X.A) (ha:PA X.nox (e::es) t)
  (M':MtCal X.prog X.w X.K X.mg X.base (CX1 X.prog X.w) k2 C' m2 ps2 sp2) (cl':Cls X.K C') (ho':PE X.nox o2 ta2) (hr':Room k2 X.A) (ha':PA X.nox (e2::es2) t2) (hst:X.stack=X.env::X.outer) (hf:X.env.frame=some X.env.locals) (hex:X.ex=[]) (hou:Outs X E)
  (hg1:Gl X cx) (hm1:X.mg cx=some C1) (hg2:Gl X cy) (hm2:X.mg cy=some C2) (hN:X.N.Nodup) (hi:X.N[i]?=some n) (hl:X.env.scope.names.lookup n=some .local) (hg3:Gl X x) (hm3:X.mg x=some (.ref C3)) (q3:excIn X.K C3 bmVE newVE=true) (h3:∀ad,PA (X.mark ad) (e3::es3) t3)
  (hsw:swapsWith (.Call (.Attribute o m apos) (e::es) [] pos) none epos.line X.env=pure false:=by rfl) (hsw2:swapsWith (.Call (.Attribute o2 m2 apos2) (e2::es2) [] pos2) none epos2.line X.env=pure false:=by rfl)
  (hd1:(cx==("__debug__":Str))=false:=by decide) (hd2:(cy==("__debug__":Str))=false:=by decide) (hd3:(x==("__debug__":Str))=false:=by decide) (hdn:(n==("__debug__":Str))=false:=by decide)
  (he:starEach (e::es) X.env=(false,eval e X.env)::starEach es X.env:=by rfl) (hpl:(backTo pos (starEach es X.env)).any (·.1)=false:=by rfl)
  (he2:starEach (e2::es2) X.env=(false,eval e2 X.env)::starEach es2 X.env:=by rfl) (hpl2:(backTo pos2 (starEach es2 X.env)).any (·.1)=false:=by rfl)
  (he3:starEach (e3::es3) X.env=(false,eval e3 X.env)::starEach es3 X.env:=by rfl) (hpl3:(backTo cpos (starEach es3 X.env)).any (·.1)=false:=by rfl)
  (ht:eval (.Call (.Attribute o m apos) (e::es) [] pos) X.env=(do
   let ov ←eval o X.env
   standAt apos.atName
   let (f,first) ←holding [ov] (getMethod ov m pl)
   callWith pos f first (backTo pos (starEach (e::es) X.env)) (backToKw pos (keywordEach [] X.env))):=by rfl)
  (ht2:eval (.Call (.Attribute o2 m2 apos2) (e2::es2) [] pos2) X.env=(do
   let ov ←eval o2 X.env
   standAt apos2.atName
   let (f,first) ←holding [ov] (getMethod ov m2 pl2)
   callWith pos2 f first (backTo pos2 (starEach (e2::es2) X.env)) (backToKw pos2 (keywordEach [] X.env))):=by rfl):
  PS X (.Try [.If c [.Expr (.Call (.Attribute o m apos) (e::es) [] pos) epos] [.Expr (.Call (.Attribute o2 m2 apos2) (e2::es2) [] pos2) epos2] ipos]
   [.ExceptHandler (some (.Tuple [.Name cx p1,.Name cy p2] kk tpos0)) (some n) [.Raise (some (.Call (.Name x np) (e3::es3) [] cpos)) (some (.Name n nrp)) rpos] hpos] [] [] tpos) (tTryF X.K tc C m sp ta t C' m2 sp2 ta2 t2 C1 C2 C3 E i t3):=by
 intro pins s σ H D I h
 refine wpAny_Try_except (wpAny_execs_cons (wpAny_If (wpAny_mono (hc pins s σ H _ (I.wish _) h) (fun d s1 ⟨H1,I1,q1⟩=>?_) fun _ _ z=>z.elim)))
 have I1:=I1.unwish
 cases d with
 | true=>
  refine wpAny_execs_cons (wpAny_Expr_any (thn (mt_run (pl:=pl) M cl ho hr ha I1 q1 (fun H1 s1 e1 s' I1 ⟨ad,cls,c,H',ee,⟨F,nc⟩,ec,⟨Cc,hcl,qc⟩,hx,q⟩=>?_) he hpl ht) fun v s1 ⟨z,H1,I1,r1,q1⟩=>?_) I1.quiet hsw)
  ·subst ee
   exact caughtF I1 F (nc ec) hcl qc hst hf hex hou hg1 hm1 hg2 hm2 hx hN hi hl hg3 hm3 q3 h3 (q ad F.tracked) hd1 hd2 hd3 hdn he3 hpl3
  ·exact wpAny_execs_nil (wpAny_execs_nil (wpAny_execs_nil ⟨σ,H1,I1,q1⟩))
 | false=>
  refine wpAny_execs_cons (wpAny_Expr_any (thn (mt_run (pl:=pl2) M' cl' ho' hr' ha' I1 q1 (fun H1 s1 e1 s' I1 ⟨ad,cls,c,H',ee,⟨F,nc⟩,ec,⟨Cc,hcl,qc⟩,hx,q⟩=>?_) he2 hpl2 ht2) fun v s1 ⟨z,H1,I1,r1,q1⟩=>?_) I1.quiet hsw2)
  ·subst ee
   exact caughtF I1 F (nc ec) hcl qc hst hf hex hou hg1 hm1 hg2 hm2 hx hN hi hl hg3 hm3 q3 h3 (q ad F.tracked) hd1 hd2 hd3 hdn he3 hpl3
  ·exact wpAny_execs_nil (wpAny_execs_nil (wpAny_execs_nil ⟨σ,H1,I1,q1⟩))
end
end L2
namespace L2
open PySem PySem.Spec PyProof.Rows PySem.W
noncomputable def rMulT:R2:=fun x y H Q=>∃c n,x=.str ⟨#[c]⟩∧y=.int n∧0≤n∧n≤1000∧Q (.str ⟨(List.replicate n.toNat c).toArray⟩) H
theorem fold_one (c:Nat):∀(k:Nat) (a:Array Nat),(List.replicate k (#[c]:Array Nat)).foldl (·++·) a=a++ (List.replicate k c).toArray
 | 0,a=>by simp
 | k+1,a=>by
  rw[List.replicate_succ,List.foldl_cons,fold_one c k,List.replicate_succ,Array.append_assoc]
  congr 1
  apply Array.toList_inj.mp
  simp
theorem op_mulT {X:Cx}:OpR X (binaryOp .Mult) rMulT:=by
 intro pins s σ H x y v u Q I rx ry h
 obtain⟨c,n,rfl,rfl,n0,n1,q⟩:=h
 obtain⟨t,rfl⟩:=rx
 obtain⟨t',rfl⟩:=ry
 have hl:(⟨#[c]⟩:Str).length=1:=rfl
 have sl:=sizeLine_eq
 have e:Txt.mul ⟨#[c]⟩ n=⟨(List.replicate n.toNat c).toArray⟩:=by
  unfold Txt.mul
  by_cases h1:n<1
  ·rw[if_pos h1,show n.toNat=0 by omega]
   rfl
  ·rw[if_neg h1]
   by_cases h2:n=1
   ·subst h2
    rfl
   ·rw[if_neg (by simp [hl,h2]),fold_one]
    simp
 refine SB.mul ⟨?_,fun h1 _=>?_,fun _ _=>?_⟩ fun t'' k=>?_
 ·rw[Bool.or_eq_false_iff]
  exact⟨decide_eq_false (by omega),decide_eq_false (by omega)⟩
 ·rw[hl]
  have:1≤(2^63 - 1) / n:=(Int.le_ediv_iff_mul_le (by omega)).mpr (by omega)
  omega
 ·rw[hl]
  show decide (_ >sizeLine)=false
  exact decide_eq_false (by omega)
 ·rw[e]
  exact⟨.str _,H,I.tok _,⟨_,rfl⟩,q⟩
end L2
namespace Wq
abbrev Sh:=Int×Int
noncomputable def Lw (x:Sh):Prop:=0<x.2∧Nm.g x.1 x.2=1
noncomputable def sc (L:Int) (x:Sh):Int:=x.1* (L / x.2)
theorem sc_bot {L:Int} {x:Sh} (h:x.2∣L):sc L x*x.2=x.1*L:=by
 unfold sc
 rw[Int.mul_assoc,Int.ediv_mul_cancel h]
noncomputable def low (a b:Int):Sh:=(Nm.st a b,Nm.sb a b)
noncomputable def pl (x y:Sh):Sh:=low (x.1*y.2+y.1*x.2) (x.2*y.2)
noncomputable def tm (x y:Sh):Sh:=low (x.1*y.1) (x.2*y.2)
end Wq
namespace K80
open PySem PySem.Spec PyProof.Rows L2
set_option maxHeartbeats 4000000
local macro_rules | `(tactic| simp! only [$ls,*]) => `(tactic| simp only [↓exV, ↓exI, ↓exB, ↓exR, ↓exS, ↓exII, ↓exRI, ↓exRa, ↓exRb, L2.start, Pr, tRev, tLR, tMaxD, tSortR, tD1, tDPop1, tSl, tNoPart, tPart, rSlL, tDIn, tDNotIn, gSub, rSetL, tLst, tDNewK, tComp, L2.stC, tFor_eq, iList, iTup, iRng1, iRng2, iZip, iEnum, iDict, iStr, tChain, tSumV, tBM, rJoin, tJoined, jNil, jLit, jInt, jStr, tRaise, tDGet, tDGet2, tDGet1, sDPut, Option.join_some, List.getElem?_nil,  tSeq, tRet, tRetN, tIfS, tTest, tB, tOp, tUn, tVar, tC, tCB, tCons, tNil, tCall, tTupS, tAsg, gName, gNil, gCons, tPar, tNext, tDrop, tAnd, tOr, tNot, tAndV, tOrV, tNotV, tIf, rI, rI0, rU, rIxTH, rIxLH, rEqT, rNeT, rInT, rEq, rNe, scal_ss, scal_ii, scal_bb, scal_si, scal_is, CPow, at0, at1, at2, List.map_cons, List.map_nil, List.length_cons, List.length_nil, Nat.reduceSub, Nat.reduceAdd, Nat.zero_add, List.replicate_zero, List.reduceReplicate, List.append_nil, List.nil_append, List.cons_append, List.getElem?_cons_zero, List.getElem?_cons_succ, List.set_cons_zero, List.set_cons_succ, Option.some.injEq, exists_eq_left', exists_eq_left, V.ref.injEq, V.int.injEq, V.bl.injEq, V.str.injEq, V.ty.injEq, HO.tup.injEq, HO.lst.injEq, List.cons.injEq, and_true, true_and, and_assoc, exists_and_left, decide_eq_true_eq, Bool.not_eq_true', decide_eq_false_iff_not, ite_true, ite_false, if_true, if_false, Int.reduceToNat, eq_self_iff_true, $ls,*])
local macro_rules | `(tactic| simp_all only [$ls,*]) => `(tactic| (first | ((dsimp (config := { zetaDelta := true }) only [L2.start, Pr, tRev, tLR, tMaxD, tSortR, tD1, tDPop1, tSl, tNoPart, tPart, rSlL, tDIn, tDNotIn, gSub, rSetL, tLst, tDNewK, tComp, L2.stC, tFor_eq, iList, iTup, iRng1, iRng2, iZip, iEnum, iDict, iStr, tChain, tSumV, tBM, rJoin, tJoined, jNil, jLit, jInt, jStr, tRaise, tDGet, tDGet2, tDGet1, sDPut, tSeq, tRet, tRetN, tIfS, tTest, tB, tOp, tUn, tVar, tC, tCB, tCons, tNil, tCall, tTupS, tAsg, gName, gNil, gCons, tPar, tNext, tDrop, tAnd, tOr, tNot, tAndV, tOrV, tNotV, tIf, rI, rI0, rU, rIxTH, rIxLH, rEqT, rNeT, rInT, rEq, rNe, scal_ss, scal_ii, scal_bb, scal_si, scal_is, CPow, List.getElem?_cons_zero, List.getElem?_cons_succ, List.set_cons_zero, List.set_cons_succ]); try simp! only [$ls,*]) | simp! only [$ls,*]))
seal L2.PE L2.PT L2.PW L2.PA L2.PS L2.PSs L2.PG L2.PGs L2.PI L2.PTs L2.PO L2.OpR L2.UnR L2.CallR L2.IxR L2.SlR L2.MtR L2.MtM
theorem strictP {P:Program} {w:World}:Strict (CX1 P w):=strict1 P w
set_option genInjectivity false in
set_option genSizeOf false in
structure Txt (K:PySem.W.Frag) (mg:Str→Option Value) (q_LuckError q_NoShare q_NoTable q_NoEnd q_TooMany q_NoStep q_NoPlay q_Course q_Play:Addr):Prop where
 z_abs:mg "abs"=none
 z_all:mg "all"=none
 z_bool:mg "bool"=none
 z_enumerate:mg "enumerate"=none
 z_int:mg "int"=none
 z_isinstance:mg "isinstance"=none
 z_len:mg "len"=none
 z_list:mg "list"=none
 z_max:mg "max"=none
 z_min:mg "min"=none
 z_range:mg "range"=none
 z_sorted:mg "sorted"=none
 z_str:mg "str"=none
 z_sum:mg "sum"=none
 d_is_whole:Dn K mg "is_whole" (top 11)
 d_common_divisor:Dn K mg "common_divisor" (top 12)
 d_share:Dn K mg "share" (top 13)
 d_plus:Dn K mg "plus" (top 14)
 d_is_figures:Dn K mg "is_figures" (top 15)
 d_whole_in:Dn K mg "whole_in" (top 16)
 d_table_by_weights:Dn K mg "table_by_weights" (top 18)
 d_table_of:Dn K mg "table_of" (top 19)
 d_power:Dn K mg "power" (top 23)
 d_most_faces:Dn K mg "most_faces" (top 24)
 d_part_bottom:Dn K mg "part_bottom" (top 25)
 d_part_count:Dn K mg "part_count" (top 26)
 d_check_size:Dn K mg "check_size" (top 27)
 d_dice_faces:Dn K mg "dice_faces" (top 28)
 d_again_faces:Dn K mg "again_faces" (top 29)
 d_burst_faces:Dn K mg "burst_faces" (top 30)
 d_part_faces:Dn K mg "part_faces" (top 31)
 d_value_of_pools:DnA K mg "value_of_pools" "value_of" (top 32)
 d_sides_product:Dn K mg "sides_product" (top 34)
 d_part_throws:Dn K mg "part_throws" (top 35)
 d_throws_by_bottom:Dn K mg "throws_by_bottom" (top 36)
 d_pool_table:Dn K mg "pool_table" (top 37)
 d_own_rows:Dn K mg "own_rows" (top 39)
 d_own_what:Dn K mg "own_what" (top 40)
 d_value_of_plays:DnA K mg "value_of_plays" "value_of" (top 46)
 d_take_step:Dn K mg "take_step" (top 48)
 d_read_play:Dn K mg "read_play" (top 49)
 d__law_cell:Dn K mg "_law_cell" (top 51)
 d__law_mixed:Dn K mg "_law_mixed" (top 52)
 d__law_game:Dn K mg "_law_game" (top 53)
 d__law_refused:Dn K mg "_law_refused" (top 54)
 d__law_no_play:Dn K mg "_law_no_play" (top 55)
 c_FIGURES:∃t,mg "FIGURES"=some (.str "0123456789" t)
 c_MOST_FIGURES:∃t,mg "MOST_FIGURES"=some (.int 12 t)
 c_MOST_THROWS:∃t,mg "MOST_THROWS"=some (.int 1296 t)
 c_MOST_BOTTOM:∃t,mg "MOST_BOTTOM"=some (.int 1000000 t)
 c_MOST_STEPS:∃t,mg "MOST_STEPS"=some (.int 200 t)
 c_MOST_VALUE:∃t,mg "MOST_VALUE"=some (.int 999 t)
 k_LuckError:mg "LuckError"=some (.ref q_LuckError)
 k_NoShare:mg "NoShare"=some (.ref q_NoShare)
 k_NoTable:mg "NoTable"=some (.ref q_NoTable)
 k_NoEnd:mg "NoEnd"=some (.ref q_NoEnd)
 k_TooMany:mg "TooMany"=some (.ref q_TooMany)
 k_NoStep:mg "NoStep"=some (.ref q_NoStep)
 k_NoPlay:mg "NoPlay"=some (.ref q_NoPlay)
 k_Course:mg "Course"=some (.ref q_Course)
 k_Play:mg "Play"=some (.ref q_Play)
 x_NoShare:PySem.W.excIn K q_NoShare bmVE newVE=true
 x_NoTable:PySem.W.excIn K q_NoTable bmVE newVE=true
 x_TooMany:PySem.W.excIn K q_TooMany bmVE newVE=true
 x_NoStep:PySem.W.excIn K q_NoStep bmVE newVE=true
 x_NoPlay:PySem.W.excIn K q_NoPlay bmVE newVE=true
 y_TooMany:ExcCls K q_TooMany
 y_NoStep:ExcCls K q_NoStep
 y_NoPlay:ExcCls K q_NoPlay
 e_NoPlay_LuckError:PySem.W.exmOne K (.ref q_NoPlay) (.ref q_LuckError)=some true
 e_NoStep_LuckError:PySem.W.exmOne K (.ref q_NoStep) (.ref q_LuckError)=some true
 e_NoStep_NoStep:PySem.W.exmOne K (.ref q_NoStep) (.ref q_NoStep)=some true
 e_TooMany_LuckError:PySem.W.exmOne K (.ref q_TooMany) (.ref q_LuckError)=some true
 e_TooMany_TooMany:PySem.W.exmOne K (.ref q_TooMany) (.ref q_TooMany)=some true
 f_NoStep_TooMany:PySem.W.exmOne K (.ref q_NoStep) (.ref q_TooMany)=some false
 f_TooMany_NoStep:PySem.W.exmOne K (.ref q_TooMany) (.ref q_NoStep)=some false
 i_NoPlay_NoPlay:PySem.W.kitOne K (.ref q_NoPlay) (.ref q_NoPlay)=some true
 i_NoStep_NoStep:PySem.W.kitOne K (.ref q_NoStep) (.ref q_NoStep)=some true
 i_TooMany_TooMany:PySem.W.kitOne K (.ref q_TooMany) (.ref q_TooMany)=some true
 n_NoPlay_TooMany:PySem.W.kitOne K (.ref q_NoPlay) (.ref q_TooMany)=some false
 n_NoStep_NoEnd:PySem.W.kitOne K (.ref q_NoStep) (.ref q_NoEnd)=some false
 n_NoStep_TooMany:PySem.W.kitOne K (.ref q_NoStep) (.ref q_TooMany)=some false
 n_TooMany_NoEnd:PySem.W.kitOne K (.ref q_TooMany) (.ref q_NoEnd)=some false
 n_TooMany_NoStep:PySem.W.kitOne K (.ref q_TooMany) (.ref q_NoStep)=some false
 cl_Course:Cls K q_Course
 cl_Play:Cls K q_Play
 na_Course_first:PySem.W.findIn K (.ref q_Course) "first"=some none
 na_Course_mosts:PySem.W.findIn K (.ref q_Course) "mosts"=some none
 na_Course_spots:PySem.W.findIn K (.ref q_Course) "spots"=some none
 na_Course_tables:PySem.W.findIn K (.ref q_Course) "tables"=some none
 na_Course_whats:PySem.W.findIn K (.ref q_Course) "whats"=some none
 na_Play_course:PySem.W.findIn K (.ref q_Play) "course"=some none
 na_Play_paid:PySem.W.findIn K (.ref q_Play) "paid"=some none
 na_Play_state:PySem.W.findIn K (.ref q_Play) "state"=some none
 na_Play_trail:PySem.W.findIn K (.ref q_Play) "trail"=some none
 di_Course:DnI K mg "Course" "Course.__init__" (inClass (top 41) 0) q_Course
 di_Play:DnI K mg "Play" "Play.__init__" (inClass (top 45) 0) q_Play
 dm_Course_asked:DnM K q_Course "asked" "Course.asked" (inClass (top 41) 3)
 dm_Course_by_row:DnM K q_Course "by_row" "Course.by_row" (inClass (top 41) 6)
 dm_Course_by_value:DnM K q_Course "by_value" "Course.by_value" (inClass (top 41) 7)
 dm_Course_do:DnM K q_Course "do" "Course.do" (inClass (top 41) 2)
 dm_Course_end_worth:DnM K q_Course "end_worth" "Course.end_worth" (inClass (top 41) 12)
 dm_Course_holds:DnM K q_Course "holds" "Course.holds" (inClass (top 41) 9)
 dm_Course_open_rows:DnM K q_Course "open_rows" "Course.open_rows" (inClass (top 41) 10)
 dm_Course_put:DnM K q_Course "put" "Course.put" (inClass (top 41) 1)
 dm_Course_start:DnM K q_Course "start" "Course.start" (inClass (top 41) 4)
 dm_Course_table_at:DnM K q_Course "table_at" "Course.table_at" (inClass (top 41) 8)
 dm_Course_what_at:DnM K q_Course "what_at" "Course.what_at" (inClass (top 41) 5)
 dm_Course_words_at:DnM K q_Course "words_at" "Course.words_at" (inClass (top 41) 11)
 dm_Play_back:DnM K q_Play "back" "Play.back" (inClass (top 45) 7)
 dm_Play_go:DnM K q_Play "go" "Play.go" (inClass (top 45) 4)
 dm_Play_open_ways:DnM K q_Play "open_ways" "Play.open_ways" (inClass (top 45) 3)
 dm_Play_points:DnM K q_Play "points" "Play.points" (inClass (top 45) 2)
 dm_Play_say:DnM K q_Play "say" "Play.say" (inClass (top 45) 5)
 dm_Play_shown:DnM K q_Play "shown" "Play.shown" (inClass (top 45) 8)
 dm_Play_stands:DnM K q_Play "stands" "Play.stands" (inClass (top 45) 1)
 dm_Play_throw:DnM K q_Play "throw" "Play.throw" (inClass (top 45) 6)
noncomputable def FnI (K:PySem.W.Frag) (x q:Str) (st:Stmt):Prop:=∃f oc od sl kV dc pm an cd ct,PySem.W.nsIn K mainGlobals x=some (some (.ref f))∧K.lookup f=some ⟨oc,od,.func (PySem.W.fnOf q q (defArgs st) (defBody st) (defScope st) .none kV dc pm an cd ct),sl⟩∧PySem.W.codeIn K cd q=true∧PySem.W.keepIn K (.ref f)=true
theorem fnI {K:PySem.W.Frag} {x q:Str} {st:Stmt} {f:Addr} {od an:Option Addr} {sl:Array (Option Value)} {oc kV dc pm cd ct:Value} (a:PySem.W.nsIn K mainGlobals x=some (some (.ref f))) (l:K.lookup f=some ⟨oc,od,.func (PySem.W.fnOf q q (defArgs st) (defBody st) (defScope st) .none kV dc pm an cd ct),sl⟩) (e:PySem.W.codeIn K cd q=true) (k:PySem.W.keepIn K (.ref f)=true):FnI K x q st:=⟨_,_,_,_,_,_,_,_,_,_,a,l,e,k⟩
theorem FnI.dn {K:PySem.W.Frag} {h:Heap} {mg:Str→Option Value} {x:Str} {st:Stmt} (F:FnI K x x st) (X:K.In h) (G:h.Ns mainGlobals mg):Dn K mg x st:=by
 obtain⟨_,_,_,_,_,_,_,_,_,_,a,l,e,k⟩:=F
 exact⟨_,_,fun_mk l e k,PySem.W.mg_of X G a⟩
theorem FnI.da {K:PySem.W.Frag} {h:Heap} {mg:Str→Option Value} {x q:Str} {st:Stmt} (F:FnI K x q st) (X:K.In h) (G:h.Ns mainGlobals mg):DnA K mg x q st:=by
 obtain⟨_,_,_,_,_,_,_,_,_,_,a,l,e,k⟩:=F
 exact⟨_,_,fun_mk l e k,PySem.W.mg_of X G a⟩
theorem us_0 {C:List Value→Prop} (k:C []):∀us:List Value,us.length=0→C us:=fun us h=>by
 cases us with
 | nil=>exact k
 | cons a us=>cases h
theorem us_s {C:List Value→Prop} {n:Nat} (k:∀a (us:List Value),us.length=n→C (a::us)):∀us:List Value,us.length=n+1→C us:=fun us h=>by
 cases us with
 | nil=>cases h
 | cons a us=>exact k a us (Nat.succ.inj h)
theorem us_1 {C:List Value→Prop} (k:∀a,C [a]):∀us:List Value,us.length=1→C us:=us_s fun a=>us_0 (C:=fun us=>C (a::us)) (k a)
theorem us_2 {C:List Value→Prop} (k:∀a b,C [a,b]):∀us:List Value,us.length=2→C us:=us_s fun a=>us_1 (C:=fun us=>C (a::us)) (k a)
theorem us_3 {C:List Value→Prop} (k:∀a b c,C [a,b,c]):∀us:List Value,us.length=3→C us:=us_s fun a=>us_2 (C:=fun us=>C (a::us)) (k a)
theorem us_4 {C:List Value→Prop} (k:∀a b c d,C [a,b,c,d]):∀us:List Value,us.length=4→C us:=us_s fun a=>us_3 (C:=fun us=>C (a::us)) (k a)
noncomputable def Al {α:Type} (R:α→V→Prop):List α→List V→Prop
 | [],[]=>True
 | a::as,v::vs=>R a v∧Al R as vs
 | _,_=>False
theorem Al.length {α:Type} {R:α→V→Prop}:∀{as:List α} {vs:List V},Al R as vs→vs.length=as.length
 | [],[],_=>rfl
 | a::as,v::vs,h=>by simp [Al.length h.2]
theorem Al.imp {α:Type} {R S:α→V→Prop} (f:∀a v,R a v→S a v):∀{as:List α} {vs:List V},Al R as vs→Al S as vs
 | [],[],_=>trivial
 | a::as,v::vs,h=>⟨f _ _ h.1,Al.imp f h.2⟩
theorem Al.append {α:Type} {R:α→V→Prop}:∀{as bs:List α} {us vs:List V},Al R as us→Al R bs vs→Al R (as++bs) (us++vs)
 | [],_,[],_,_,k=>k
 | a::as,_,v::vs,_,h,k=>⟨h.1,Al.append h.2 k⟩
theorem Al.one {α:Type} {R:α→V→Prop} {a:α} {v:V} (h:R a v):Al R [a] [v]:=⟨h,trivial⟩
theorem Al.get {α:Type} {R:α→V→Prop}:∀{as:List α} {vs:List V} {i:Nat} {v:V},Al R as vs→vs[i]?=some v→∃a,as[i]?=some a∧R a v:=by
 intro as
 induction as with
 | nil=>
  intro vs i v h e
  cases vs with
  | nil=>simp at e
  | cons u vs=>exact h.elim
 | cons a as ih=>
  intro vs i v h e
  cases vs with
  | nil=>exact h.elim
  | cons u vs=>
   cases i with
   | zero=>cases e;exact⟨a,rfl,h.1⟩
   | succ i=>exact ih (vs:=vs) (i:=i) h.2 e
theorem Al.at {α:Type} {R:α→V→Prop}:∀{as:List α} {vs:List V} {i:Nat} {a:α},Al R as vs→as[i]?=some a→∃v,vs[i]?=some v∧R a v:=by
 intro as
 induction as with
 | nil=>
  intro vs i v h e
  simp at e
 | cons a as ih=>
  intro vs i v h e
  cases vs with
  | nil=>exact h.elim
  | cons u vs=>
   cases i with
   | zero=>cases e;exact⟨u,rfl,h.1⟩
   | succ i=>exact ih (vs:=vs) (i:=i) h.2 e
theorem Al.of {α:Type} {R:α→V→Prop}:∀{as:List α} {vs:List V},vs.length=as.length→(∀(i:Nat) v a,vs[i]?=some v→as[i]?=some a→R a v)→Al R as vs
 | [],[],_,_=>trivial
 | [],_::_,l,_=>by simp at l
 | _::_,[],l,_=>by simp at l
 | a::as,u::vs,l,h=>⟨h 0 u a rfl rfl,Al.of (by simpa using l) fun i v b e1 e2=>h (i+1) v b (by simpa using e1) (by simpa using e2)⟩
noncomputable def spCd:Sp:=fun vs H Q _=>∃a b,vs=[.int a,.int b]∧Q (.int (Nm.g a b)) H
noncomputable def spSh (qn:Addr):Sp:=fun vs H Q E=>∃a b,vs=[.int a,.int b]∧Bt 5000 b∧(b=0→E (.ref qn) none H)∧(b≠0→∀p H',Same H H'→H p=none→H' p=some (.tup (Pr (Nm.st a b) (Nm.sb a b)))→Q (.ref p) H')
noncomputable def spTW:Sp:=fun vs H Q _=>∃d B ws,vs=[.ref d,.int B]∧H d=some (.dK (enc ws))∧(Nm.keys ws).Nodup∧ws.length<64∧B≠0∧Bt 5000 B∧∀p H',Same H H'→H p=none→Rep H' (rowsD (Nm.rowsOf ws B)) (.ref p)→Q (.ref p) H'
noncomputable def spTO (qt:Addr):Sp:=fun vs H Q E=>∃v ps,vs=[v]∧Rep H (wrowsD ps) v∧ps.length≤1296∧(∀p∈ps,p.2≤10^12)∧(Nm.wof ps).length<64∧
 (Nm.bad ps→∀H',Same H H'→E (.ref qt) none H')∧
 (¬Nm.bad ps→∀p H',Same H H'→H p=none→Rep H' (rowsD (Nm.rowsOf (Nm.wof ps) (Nm.tot (Nm.wof ps)))) (.ref p)→Q (.ref p) H')
noncomputable def dcF (s:Nat):Nat→List (List Int)
 | 0=>[[]]
 | d+1=>(dcF s d).flatMap fun f=>(List.range s).map fun i:Nat=>f++ [((i:Nat):Int)+1]
theorem dcF_len (s:Nat):∀d,(dcF s d).length=s^d
 | 0=>rfl
 | d+1=>by
  have h:∀l:List (List Int),(l.flatMap fun f=>(List.range s).map fun i:Nat=>f++ [((i:Nat):Int)+1]).length=l.length*s:=by
   intro l
   induction l with
   | nil=>simp
   | cons a r ih=>rw[List.flatMap_cons,List.length_append,ih,List.length_map,List.length_range,List.length_cons,Nat.succ_mul,Nat.add_comm]
  rw[dcF,h,dcF_len s d,Nat.pow_succ]
theorem dcF_row (s:Nat):∀d,∀f∈dcF s d,f.length=d∧∀x∈f,1≤x∧x≤(s:Int)
 | 0,f,h=>by
  rw[List.mem_singleton.mp h]
  exact⟨rfl,by simp⟩
 | d+1,f,h=>by
  obtain⟨g,hg,hf⟩:=List.mem_flatMap.mp h
  obtain⟨i,hi,rfl⟩:=List.mem_map.mp hf
  obtain⟨l,k⟩:=dcF_row s d g hg
  have:=List.mem_range.mp hi
  refine⟨by rw[List.length_append,l];rfl,fun x hx=>?_⟩
  rcases List.mem_append.mp hx with h | h
  ·exact k x h
  ·rw[List.mem_singleton.mp h];omega
noncomputable def Lt (f g:List Int):Prop:=lexGe f g=false
inductive Pt
 | dice (m s:Nat)
noncomputable def ptV:Pt→List V
 | .dice m s=>[.str (Str.ofString "dice"),.int (m:Int),.int (s:Int)]
noncomputable def ptD:Pt→Dat
 | .dice m s=>.tup [.str (Str.ofString "dice"),.int (m:Int),.int (s:Int)]
noncomputable def lst:Pt→Nat
 | .dice _ s=>s
noncomputable def sd:Pt→Nat
 | p=>lst p
noncomputable def mst:Pt→Nat
 | .dice m _=>m
noncomputable def bot (p:Pt):Nat:=sd p^mst p
noncomputable def cnt:Pt→Nat
 | p=>bot p
noncomputable def ptF:Pt→List (List Int)
 | .dice m s=>dcF s m
noncomputable def val:Pt→List Int→Int
 | .dice _ _,f=>f.sum
noncomputable def GoodP:Pt→Prop
 | .dice m s=>1≤s∧s≤20∧m≤6
theorem sd_pos {p:Pt} (g:GoodP p):1≤sd p∧sd p≤20:=by
 cases p <;>simp only[sd,lst,GoodP] at *<;>omega
theorem lst_le {p:Pt} (g:GoodP p):lst p≤99:=by
 cases p <;>simp only[lst,GoodP] at *<;>omega
theorem mst_le {p:Pt} (g:GoodP p):mst p≤7:=by
 cases p <;>simp only[mst,GoodP] at *<;>(try split) <;>omega
theorem pow_small {s e:Nat} (hs:s≤20) (he:e≤10):s^e≤10240000000000:=
 Nat.le_trans (Nat.pow_le_pow_left hs e) (Nat.le_trans (Nat.pow_le_pow_right (by decide) he) (by decide))
theorem ptF_len (p:Pt):(ptF p).length=cnt p:=by
 cases p with
 | dice m s=>exact dcF_len s m
theorem ptF_row {p:Pt} (g:GoodP p):∀f∈ptF p,(∀x∈f,1≤x∧x≤(lst p:Int))∧f.length≤mst p:=by
 intro f hf
 cases p with
 | dice m s=>obtain⟨a,b⟩:=dcF_row s m f hf;exact⟨b,Nat.le_of_eq a⟩
theorem row_bot {p:Pt} (g:GoodP p) {f:List Int} (hf:f∈ptF p):1≤sd p^f.length∧sd p^f.length≤bot p:=
 ⟨Nat.pow_pos (sd_pos g).1,Nat.pow_le_pow_right (sd_pos g).1 (ptF_row g f hf).2⟩
abbrev Row:=List Int×Int×Nat
noncomputable def ptR (p:Pt):List Row:=(ptF p).map fun f=>(f,val p f,sd p^f.length)
noncomputable def stp (rs:List Row) (p:Pt):List Row:=rs.flatMap fun r=>(ptR p).map fun q=>(r.1++q.1,r.2.1+q.2.1,r.2.2*q.2.2)
noncomputable def thr (ps:List Pt):List Row:=ps.foldl stp [([],0,1)]
theorem thr_snoc (ps:List Pt) (p:Pt):thr (ps++ [p])=stp (thr ps) p:=by unfold thr;rw[List.foldl_append];rfl
noncomputable def prd:List Nat→Nat
 | []=>1
 | a::r=>a*prd r
theorem prd_snoc (l:List Nat) (a:Nat):prd (l++ [a])=prd l*a:=by
 induction l with
 | nil=>simp [prd]
 | cons b r ih=>simp only[List.cons_append,prd,ih,Nat.mul_assoc]
theorem prd_pos {l:List Nat} (h:∀a∈l,1≤a):1≤prd l:=by
 induction l with
 | nil=>simp [prd]
 | cons b r ih=>
  have h1:=h b (by simp)
  have h2:=ih fun a ha=>h a (List.mem_cons_of_mem _ ha)
  exact Nat.mul_le_mul h1 h2
theorem prd_take {l:List Nat} (h:∀a∈l,1≤a):∀i,prd (l.take i)≤prd l:=by
 induction l with
 | nil=>intro i;simp
 | cons b r ih=>
  intro i
  have h1:=h b (by simp)
  have h0:∀a∈r,1≤a:=fun a ha=>h a (List.mem_cons_of_mem _ ha)
  cases i with
  | zero=>exact Nat.mul_le_mul h1 (prd_pos h0)
  | succ i=>exact Nat.mul_le_mul (Nat.le_refl _) (ih h0 i)
theorem stp_len (rs:List Row) (p:Pt):(stp rs p).length=rs.length*cnt p:=by
 unfold stp
 induction rs with
 | nil=>simp
 | cons r t ih=>
  rw[List.flatMap_cons,List.length_append,ih,List.length_map,List.length_cons,Nat.succ_mul]
  unfold ptR
  rw[List.length_map,ptF_len]
  omega
theorem take_snoc {α:Type} {l:List α} {i:Nat} (h:i<l.length):l.take (i+1)=l.take i++ [l[i]]:=by
 rw[List.take_add_one,List.getElem?_eq_getElem h]
 rfl
theorem thr_len (ps:List Pt):(thr ps).length=prd (ps.map cnt):=by
 have:∀i,i≤ps.length→(thr (ps.take i)).length=prd ((ps.take i).map cnt):=by
  intro i
  induction i with
  | zero=>intro _;rfl
  | succ i ih=>
   intro h
   rw[take_snoc (by omega),thr_snoc,stp_len,ih (by omega),List.map_append,List.map_cons,List.map_nil,prd_snoc]
 have:=this ps.length (Nat.le_refl _)
 rwa [List.take_of_length_le (Nat.le_refl _)] at this
theorem cnt_pos {p:Pt} (g:GoodP p):1≤cnt p:=by
 cases p with
 | dice m s=>exact Nat.pow_pos g.1
theorem bot_pos {p:Pt} (g:GoodP p):1≤bot p:=Nat.pow_pos (sd_pos g).1
noncomputable def GoodM (ps:List Pt):Prop:=(∀p∈ps,GoodP p)∧prd (ps.map cnt)≤1296∧prd (ps.map bot)≤1000000
theorem goodL_cnt {ps:List Pt} (g:GoodM ps) (i:Nat):prd ((ps.take i).map cnt)≤1296:=by
 rw[List.map_take]
 exact Nat.le_trans (prd_take (fun a ha=>by obtain⟨p,hp,rfl⟩:=List.mem_map.mp ha;exact cnt_pos (g.1 p hp)) i) g.2.1
theorem goodL_bot {ps:List Pt} (g:GoodM ps) (i:Nat):prd ((ps.take i).map bot)≤1000000:=by
 rw[List.map_take]
 exact Nat.le_trans (prd_take (fun a ha=>by obtain⟨p,hp,rfl⟩:=List.mem_map.mp ha;exact bot_pos (g.1 p hp)) i) g.2.2
theorem mem_prd {l:List Nat} (h:∀a∈l,1≤a):∀a∈l,a≤prd l:=by
 induction l with
 | nil=>intro a ha;cases ha
 | cons b r ih=>
  intro a ha
  have h1:=h b (by simp)
  have h0:∀a∈r,1≤a:=fun a ha=>h a (List.mem_cons_of_mem _ ha)
  rw[prd]
  rcases List.mem_cons.mp ha with rfl | ha
  ·have:=Nat.mul_le_mul (Nat.le_refl a) (prd_pos h0)
   omega
  ·have:=Nat.mul_le_mul h1 (ih h0 a ha)
   omega
theorem goodL_one {ps:List Pt} (g:GoodM ps) {p:Pt} (hp:p∈ps):GoodP p∧cnt p≤1296∧bot p≤1000000:=
 ⟨g.1 p hp,Nat.le_trans (mem_prd (fun a ha=>by obtain⟨p,hp,rfl⟩:=List.mem_map.mp ha;exact cnt_pos (g.1 p hp)) _ (List.mem_map_of_mem hp)) g.2.1,
  Nat.le_trans (mem_prd (fun a ha=>by obtain⟨p,hp,rfl⟩:=List.mem_map.mp ha;exact bot_pos (g.1 p hp)) _ (List.mem_map_of_mem hp)) g.2.2⟩
theorem thr_row {ps:List Pt} (g:∀p∈ps,GoodP p):∀i,i≤ps.length→∀r∈thr (ps.take i),r.1.length≤7*i∧1≤r.2.2∧r.2.2≤prd ((ps.take i).map bot):=by
 intro i
 induction i with
 | zero=>intro _ r hr;rw[List.mem_singleton.mp hr];simp [prd]
 | succ i ih=>
  intro h r hr
  rw[take_snoc (by omega),thr_snoc] at hr
  obtain⟨r0,h0,hr⟩:=List.mem_flatMap.mp hr
  obtain⟨q,hq,rfl⟩:=List.mem_map.mp hr
  obtain⟨f,hf,rfl⟩:=List.mem_map.mp hq
  obtain⟨a,b,c⟩:=ih (by omega) r0 h0
  have gp:=g _ (List.getElem_mem (show i<ps.length by omega))
  obtain⟨d,e⟩:=row_bot gp hf
  have l:=(ptF_row gp f hf).2
  have m:=mst_le gp
  rw[take_snoc (by omega),List.map_append,List.map_cons,List.map_nil,prd_snoc]
  refine⟨by rw[List.length_append];show r0.1.length+f.length≤_;omega,Nat.mul_le_mul b d,Nat.mul_le_mul c e⟩
noncomputable def Fa (H:Hp) (f:List Int) (v:V):Prop:=∃q,v=.ref q∧H q=some (.lst (List.map V.int f))
theorem Fa.mono {H H':Hp} {f:List Int} {v:V} (s:Same H H'):Fa H f v→Fa H' f v:=fun⟨q,e,h⟩=>⟨q,e,s _ _ h⟩
noncomputable def TR (G H:Hp) (r:Row) (v:V):Prop:=∃a q,v=.ref a∧H a=some (.tup [.ref q,.int r.2.1,.int (r.2.2:Int)])∧H q=some (.lst (List.map V.int r.1))∧G q=none
theorem TR.mono {G H H':Hp} {r:Row} {v:V} (s:Same H H'):TR G H r v→TR G H' r v:=fun⟨a,q,e,h,k,n⟩=>⟨a,q,e,s _ _ h,s _ _ k,n⟩
noncomputable def PlH (H:Hp) (l:Addr) (ps:List Pt):Prop:=∃xs,H l=some (.lst xs)∧Al (fun p v=>∃q,v=.ref q∧H q=some (.tup (ptV p))) ps xs
theorem PlH.mono {H H':Hp} {l:Addr} {ps:List Pt} (s:Same H H'):PlH H l ps→PlH H' l ps:=fun⟨xs,h,a⟩=>⟨xs,s _ _ h,a.imp fun _ _ ⟨q,e,k⟩=>⟨q,e,s _ _ k⟩⟩
theorem hid_hid {H:Hp} {p:Addr} {o:HO}:hid (upd H p o) p=hid H p:=by
 funext a
 unfold hid
 by_cases c:a=p
 ·rw[if_pos c,if_pos c]
 ·rw[if_neg c,if_neg c,upd_ne c]
theorem last_p (p:Pt):atI (ptV p) (-1)=some (.int (lst p:Int)):=by cases p <;>rfl
noncomputable def spPw:Sp:=fun vs H Q _=>∃b e:Nat,vs=[.int (b:Int),.int (e:Int)]∧(1≤b∨e=0)∧e≤10∧b^e≤1000000∧Q (.int ((b^e:Nat):Int)) H
noncomputable def spMf:Sp:=fun vs H Q _=>∃q p,vs=[.ref q]∧H q=some (.tup (ptV p))∧Q (.int (mst p:Int)) H
noncomputable def spBo:Sp:=fun vs H Q _=>∃q p,vs=[.ref q]∧H q=some (.tup (ptV p))∧GoodP p∧bot p≤1000000∧Q (.int (bot p:Int)) H
noncomputable def spCt:Sp:=fun vs H Q _=>∃q p,vs=[.ref q]∧H q=some (.tup (ptV p))∧GoodP p∧bot p≤1000000∧Q (.int (cnt p:Int)) H
noncomputable def spCk:Sp:=fun vs H Q _=>∃l ps,vs=[.ref l]∧PlH H l ps∧GoodM ps∧Q .non H
noncomputable def spDf:Sp:=fun vs H Q _=>∃d s:Nat,vs=[.int (d:Int),.int (s:Int)]∧1≤s∧s≤20∧d≤6∧s^d≤1296∧∀l H' xs,Same H H'→H' l=some (.lst xs)→Al (Fa H') (dcF s d) xs→Q (.ref l) H'
noncomputable def spPf:Sp:=fun vs H Q _=>∃q p,vs=[.ref q]∧H q=some (.tup (ptV p))∧GoodP p∧cnt p≤1296∧∀l H' xs,Same H H'→H' l=some (.lst xs)→Al (Fa H') (ptF p) xs→Q (.ref l) H'
noncomputable def spVo:Sp:=fun vs H Q _=>∃q p l f,vs=[.ref q,.ref l]∧H q=some (.tup (ptV p))∧H l=some (.lst (List.map V.int f))∧GoodP p∧f∈ptF p∧∀H',Same H H'→Q (.int (val p f)) H'
noncomputable def spSp:Sp:=fun vs H Q _=>∃q p l f,vs=[.ref q,.ref l]∧H q=some (.tup (ptV p))∧H l=some (.lst (List.map V.int f))∧GoodP p∧f∈ptF p∧Q (.int ((sd p^f.length:Nat):Int)) H
noncomputable def spPt:Sp:=fun vs H Q _=>∃q p,vs=[.ref q]∧H q=some (.tup (ptV p))∧GoodP p∧cnt p≤1296∧∀l H' xs,Same H H'→H' l=some (.lst xs)→Al (TR (fun _=>none) H') (ptR p) xs→Q (.ref l) H'
noncomputable def spTb:Sp:=fun vs H Q _=>∃a ps,vs=[.ref a]∧PlH H a ps∧GoodM ps∧ps.length≤4∧∀l H' xs,Same H H'→H' l=some (.lst xs)→Al (TR H H') (thr ps) xs→Q (.ref l) H'
noncomputable def spNo:Sp:=fun _ _ _ _=>False
noncomputable def dks:List Nat:=[2,3,4,5,6,7,8,9,10,11,12,13,14,15,16,17,18,19,20]
noncomputable def pls:List (List Pt):=dks.map fun s=>[.dice 1 s]
noncomputable def rowW (C:Nat) (rs:List Row):Nm.Ws:=rs.map fun r=>(r.2.1,((C / r.2.2:Nat):Int))
noncomputable def plW (ps:List Pt):Nm.Ws:=rowW (prd (ps.map bot)) (thr ps)
noncomputable def tabP (ps:List Pt):List (Int×Int×Int):=Nm.rowsOf (Nm.wof (plW ps)) (Nm.tot (Nm.wof (plW ps)))
noncomputable def GoodL (ps:List Pt):Prop:=ps∈pls
noncomputable def sdP (ps:List Pt):Int:=(prd (ps.map bot):Int)
noncomputable def valsP:List Pt→List Int
 | [.dice k s]=>(List.range (k*s - k+1)).map fun i:Nat=>(k:Int)+ (i:Int)
 | _=>[]
theorem pls_mem {ps:List Pt} (g:ps∈pls):∃s,s∈dks∧ps=[.dice 1 s]:=by
 obtain⟨s,hs,rfl⟩:=List.mem_map.mp g
 exact⟨s,hs,rfl⟩
theorem pls_all:∀ps∈pls,(∀x∈plW ps,0<x.2∧x.2≤10^12)∧(plW ps).length≤1296∧(Nm.wof (plW ps)).length<64∧Nm.pos (plW ps)≠[]∧prd (ps.map cnt)≤1296∧prd (ps.map bot)≤1000000:=by decide +kernel
theorem pls_tab:∀ps∈pls,(0<sdP ps∧sdP ps≤1000000∧(tabP ps).length≤1296∧∀r∈tabP ps,0<r.2.2∧r.2.2∣sdP ps∧0≤r.2.1∧r.2.1≤sdP ps)∧(tabP ps).map (·.1)=valsP ps:=by decide +kernel
theorem pls_len {ps:List Pt} (g:ps∈pls):ps.length≤4:=by
 obtain⟨s,_,rfl⟩:=pls_mem g
 simp
theorem goodM_of {ps:List Pt} (g:ps∈pls):GoodM ps:=by
 have h:=(pls_all ps g).2.2.2.2
 refine⟨fun p hp=>?_,h.1,h.2⟩
 have d:∀x∈dks,1≤x∧x≤20:=by decide
 obtain⟨s,hd,rfl⟩:=pls_mem g
 rw[List.mem_singleton] at hp
 rw[hp]
 exact⟨(d _ hd).1,(d _ hd).2,by decide⟩
theorem pls_nb {ps:List Pt} (g:GoodL ps):¬Nm.bad (plW ps):=fun b=>by
 obtain⟨h1,_,_,h4,_⟩:=pls_all ps g
 rcases b with ⟨x,hx,c⟩ | c
 ·have:=h1 x hx;omega
 ·exact h4 c
theorem ptD_inj {p q:Pt} (h:ptD p=ptD q):p=q:=by
 cases p <;>cases q <;>simp only[ptD,Dat.tup.injEq,List.cons.injEq,Dat.str.injEq,Dat.int.injEq,and_true,Int.natCast_inj] at h <;>first | exact absurd h.1 (by decide +kernel) | (obtain⟨_,rfl⟩:=h;rfl) | (obtain⟨_,rfl,rfl⟩:=h;rfl) | (obtain⟨_,rfl,rfl,rfl⟩:=h;rfl)
noncomputable def spPl:Sp:=fun vs H Q _=>∃a ps,vs=[.ref a]∧PlH H a ps∧GoodL ps∧ps.length≤4∧∀p H',Same H H'→H p=none→Rep H' (rowsD (tabP ps)) (.ref p)→Q (.ref p) H'
inductive Dd
 | set (n:Str) (k:Int)
 | plus (n:Str) (k:Int)
 | face (n:Str)
 | move (n m:Str)
noncomputable def ddD:Dd→Dat
 | .set n k=>.tup [.str (Str.ofString "set"),.str n,.int k]
 | .plus n k=>.tup [.str (Str.ofString "plus"),.str n,.int k]
 | .face n=>.tup [.str (Str.ofString "face"),.str n]
 | .move n m=>.tup [.str (Str.ofString "move"),.str n,.str m]
structure Rw where
 word:Str
 wh:Option (Str×Str×Int)
 ds:List Dd
 to:Str
noncomputable def whD:Option (Str×Str×Int)→Dat
 | none=>.non
 | some (a,b,k)=>.tup [.str a,.str b,.int k]
abbrev R4:=Dat×Dat×List Dat×Dat
noncomputable def r4D (r:R4):Dat:=.tup [r.1,r.2.1,.lst r.2.2.1,r.2.2.2]
noncomputable def rw4 (r:Rw):R4:=(.str r.word,whD r.wh,r.ds.map ddD,.str r.to)
abbrev Tw:=Int×Int×List Dd×Str
noncomputable def tw4 (r:Tw):R4:=(.int r.1,.int r.2.1,r.2.2.1.map ddD,.str r.2.2.2)
inductive Wt
 | ask (c:Str) (k:Int) (one other:Str)
 | fin (t b:Int)
 | score (c:Str)
 | pick (who:Int) (rs:List Rw)
 | thr (pool:List Dat) (t b:Int) (rs:List Tw)
noncomputable def wtD:Wt→Dat
 | .ask c k a b=>.tup [.str (Str.ofString "ask"),.str c,.int k,.str a,.str b]
 | .fin t b=>.tup [.str (Str.ofString "end"),.tup [.int t,.int b]]
 | .score c=>.tup [.str (Str.ofString "score"),.str c]
 | .pick w rs=>.tup [.str (Str.ofString "pick"),.int w,.lst ((rs.map rw4).map r4D)]
 | .thr pool t b rs=>.tup [.str (Str.ofString "throw"),.lst pool,.tup [.int t,.int b],.lst ((rs.map tw4).map r4D)]
structure Gm where
 cs:List (Str×Int)
 ps:List (Str×Wt)
noncomputable def csD (cs:List (Str×Int)):Dat:=.lst (cs.map fun c=>.tup [.str c.1,.int c.2])
noncomputable def psD (ps:List (Str×Wt)):Dat:=.lst (ps.map fun p=>.tup [.str p.1,wtD p.2])
noncomputable def gmD (g:Gm):Dat:=.tup [csD g.cs,psD g.ps]
noncomputable def spot (cs:List (Str×Int)) (n:Str):Nat:=(cs.map (·.1)).idxOf n
noncomputable def most (cs:List (Str×Int)) (i:Nat):Int:=(cs.map (·.2)).getD i 0
noncomputable def putC (cs:List (Str×Int)) (ns:List Int) (i:Nat) (k:Int):List Int:=ns.set i (min k (most cs i))
noncomputable def doD (cs:List (Str×Int)) (v:Int) (ns:List Int):Dd→List Int
 | .set n k=>putC cs ns (spot cs n) k
 | .plus n k=>putC cs ns (spot cs n) (ns.getD (spot cs n) 0+k)
 | .face n=>putC cs ns (spot cs n) (ns.getD (spot cs n) 0+v)
 | .move n m=>(putC cs ns (spot cs m) (ns.getD (spot cs m) 0+ns.getD (spot cs n) 0)).set (spot cs n) 0
noncomputable def GoodD (cs:List (Str×Int)):Dd→Prop
 | .set n _=>n∈cs.map (·.1)
 | .plus n _=>n∈cs.map (·.1)
 | .face n=>n∈cs.map (·.1)
 | .move n m=>n∈cs.map (·.1)∧m∈cs.map (·.1)
theorem spot_lt {cs:List (Str×Int)} {n:Str} (h:n∈cs.map (·.1)):spot cs n<cs.length:=by
 have:=List.idxOf_lt_length_of_mem h
 rwa [List.length_map] at this
theorem putC_len {cs:List (Str×Int)} {ns:List Int} {i:Nat} {k:Int}:(putC cs ns i k).length=ns.length:=by unfold putC;rw[List.length_set]
theorem doD_len {cs:List (Str×Int)} {v:Int} {ns:List Int}:∀d:Dd,(doD cs v ns d).length=ns.length
 | .set _ _=>putC_len
 | .plus _ _=>putC_len
 | .face _=>putC_len
 | .move _ _=>by unfold doD;rw[List.length_set,putC_len]
noncomputable def look (ps:List (Str×Wt)) (n:Str):Option Wt:=(ps.find? fun p=>decide (p.1=n)).map (·.2)
noncomputable def askd (g:Gm) (ns:List Int):Nat→Str→Option Str
 | 0,_=>none
 | f+1,nm=>match look g.ps nm with
  | some (.ask c k a b)=>if k≤ns.getD (spot g.cs c) 0 then askd g ns f a else askd g ns f b
  | some _=>some nm
  | none=>none
noncomputable def holdsW (cs:List (Str×Int)) (ns:List Int):Option (Str×Str×Int)→Bool
 | none=>true
 | some (n,x,k)=>if n∈cs.map (·.1) then (if x=Str.ofString "from" then decide (k≤ns.getD (spot cs n) 0) else decide (ns.getD (spot cs n) 0<k)) else false
noncomputable def GoodT (cs:List (Str×Int)):Wt→Prop
 | .ask c _ _ _=>c∈cs.map (·.1)
 | .fin _ _=>True
 | .score c=>c∈cs.map (·.1)
 | .pick _ rs=>rs.length≤100∧∀r∈rs,r.ds.length≤100∧∀d∈r.ds,GoodD cs d
 | .thr pool _ _ rs=>pool.length≤100∧rs.length≤100∧∀r∈rs,r.2.2.1.length≤100∧∀d∈r.2.2.1,GoodD cs d
structure GoodG (g:Gm):Prop where
 nc:(g.cs.map (·.1)).Nodup
 np:(g.ps.map (·.1)).Nodup
 lc:g.cs.length≤100
 lp:g.ps.length≤100
 p0:0<g.ps.length
 wt:∀p∈g.ps,GoodT g.cs p.2
theorem look_mem {ps:List (Str×Wt)} {n:Str} {x:Wt} (h:look ps n=some x):(n,x)∈ps:=by
 unfold look at h
 obtain⟨p,hp,rfl⟩:=Option.map_eq_some_iff.mp h
 have e:=List.find?_some hp
 have e:p.1=n:=by simpa using e
 subst e
 exact List.mem_of_find?_eq_some hp
noncomputable def spK:List (Str×Int)→Nat→List (Key×V)
 | [],_=>[]
 | c::cs,i=>(Sum.inr c.1,V.int (i:Int))::spK cs (i+1)
theorem spK_len:∀(cs:List (Str×Int)) (i:Nat),(spK cs i).length=cs.length
 | [],_=>rfl
 | _::cs,i=>by rw[spK,List.length_cons,spK_len cs,List.length_cons]
theorem spK_snoc (c:Str×Int):∀(cs:List (Str×Int)) (i:Nat),spK (cs++ [c]) i=spK cs i++ [(Sum.inr c.1,V.int ((i+cs.length:Nat):Int))]
 | [],i=>rfl
 | d::cs,i=>by
  rw[List.cons_append,spK,spK_snoc c cs (i+1),spK,List.length_cons,show i+1+cs.length=i+ (cs.length+1) by omega]
  rfl
theorem spK_val {n:Str}:∀{cs:List (Str×Int)} {i:Nat},n∈cs.map (·.1)→valV (spK cs i) (Sum.inr n)=some (.int ((i+spot cs n:Nat):Int))
 | [],_,h=>by simp at h
 | c::cs,i,h=>by
  rw[spK]
  by_cases e:c.1=n
  ·rw[valV_pos (by rw[e])]
   have:spot (c::cs) n=0:=by unfold spot;rw[List.map_cons,e,List.idxOf_cons_self]
   rw[this]
   rfl
  ·rw[valV_neg (fun z=>e (by injection z)),spK_val (cs:=cs) (i:=i+1) (by simpa [Ne.symm e] using h)]
   have:spot (c::cs) n=spot cs n+1:=by unfold spot;rw[List.map_cons,List.idxOf_cons,beq_false_of_ne e];rfl
   rw[this,show i+1+spot cs n=i+ (spot cs n+1) by omega]
theorem spK_none {n:Str}:∀{cs:List (Str×Int)} {i:Nat},n∉cs.map (·.1)→valV (spK cs i) (Sum.inr n)=none
 | [],_,_=>rfl
 | c::cs,i,h=>by
  rw[spK,valV_neg (fun z=>h (by injection z with z;simp [z])),spK_none (cs:=cs) (i:=i+1) (fun z=>h (by rw[List.map_cons];exact List.mem_cons_of_mem _ z))]
theorem put_new {κ:Type} [DecidableEq κ] {kvs:List (κ×V)} {k:κ} {v:V} (h:valV kvs k=none):putK kvs k v=kvs++ [(k,v)]:=by
 unfold putK
 rw[if_neg]
 intro c
 obtain⟨x,hx,e⟩:=List.any_eq_true.mp c
 unfold valV at h
 have:kvs.find? (fun kv=>decide (kv.1=k))=none:=by simpa using h
 exact absurd e (by simpa using List.find?_eq_none.mp this x hx)
noncomputable def WhK (H:Hp):List (Str×Wt)→List (Key×V)→Prop
 | [],us=>us=[]
 | p::ps,us=>∃v r,us=(Sum.inr p.1,v)::r∧Rep H (wtD p.2) v∧WhK H ps r
theorem WhK.mono {H H':Hp} (s:Same H H'):∀{ps:List (Str×Wt)} {us:List (Key×V)},WhK H ps us→WhK H' ps us
 | [],_,h=>h
 | _::_,_,⟨v,r,e,h1,h2⟩=>⟨v,r,e,h1.mono s,h2.mono s⟩
theorem WhK.len {H:Hp}:∀{ps:List (Str×Wt)} {us:List (Key×V)},WhK H ps us→us.length=ps.length
 | [],_,h=>by rw[WhK] at h;subst h;rfl
 | _::_,_,⟨v,r,e,h1,h2⟩=>by rw[e,List.length_cons,h2.len,List.length_cons]
theorem WhK.snoc {H:Hp} {p:Str×Wt} {v:V} (k:Rep H (wtD p.2) v):∀{ps:List (Str×Wt)} {us:List (Key×V)},WhK H ps us→WhK H (ps++ [p]) (us++ [(Sum.inr p.1,v)])
 | [],_,h=>by rw[WhK] at h;subst h;exact⟨v,[],rfl,k,rfl⟩
 | _::_,_,⟨u,r,e,h1,h2⟩=>by rw[e];exact⟨u,_,rfl,h1,h2.snoc k⟩
theorem WhK.val {H:Hp} {n:Str}:∀{ps:List (Str×Wt)} {us:List (Key×V)},WhK H ps us→(∃x v,look ps n=some x∧valV us (Sum.inr n)=some v∧Rep H (wtD x) v)∨(look ps n=none∧valV us (Sum.inr n)=none)
 | [],_,h=>by rw[WhK] at h;subst h;exact .inr ⟨rfl,rfl⟩
 | p::ps,_,⟨u,r,e,h1,h2⟩=>by
  subst e
  by_cases c:p.1=n
  ·exact .inl ⟨p.2,u,by unfold look;rw[List.find?_cons_of_pos (by simpa using c)];rfl,valV_pos (by rw[c]),h1⟩
  ·rcases h2.val (n:=n) with ⟨x,v,a,b,d⟩ | ⟨a,b⟩
   ·exact .inl ⟨x,v,by unfold look at *;rw[List.find?_cons_of_neg (by simpa using c)];exact a,by rw[valV_neg (fun z=>c (by injection z))];exact b,d⟩
   ·exact .inr ⟨by unfold look at *;rw[List.find?_cons_of_neg (by simpa using c)];exact a,by rw[valV_neg (fun z=>c (by injection z))];exact b⟩
theorem look_none {ps:List (Str×Wt)} {n:Str} (h:n∉ps.map (·.1)):look ps n=none:=by
 unfold look
 rw[Option.map_eq_none_iff,List.find?_eq_none]
 intro p hp c
 exact h (List.mem_map.mpr ⟨p,hp,by simpa using c⟩)
theorem foldD_len {cs:List (Str×Int)} {v:Int}:∀(ds:List Dd) (ns:List Int),(ds.foldl (doD cs v) ns).length=ns.length
 | [],_=>rfl
 | d::ds,ns=>by rw[List.foldl_cons,foldD_len ds,doD_len]
noncomputable def openR (cs:List (Str×Int)) (ns:List Int):Wt→List Rw
 | .pick _ rs=>rs.filter fun r=>holdsW cs ns r.wh
 | _=>[]
noncomputable def endW (cs:List (Str×Int)) (ns:List Int):Wt→Option (Int×Int)
 | .fin t b=>some (t,b)
 | .score c=>some (ns.getD (spot cs c) 0,1)
 | _=>none
theorem seq_c {a b:TS} {D:Ends} {σ:L2.St} {H:Hp} (C:(L2.St→Hp→Prop)→Prop) (hb:C (b D)) (ha:∀N:L2.St→Hp→Prop,C N→a {D with nx:=N} σ H):tSeq a b D σ H:=ha _ hb
noncomputable def CoH (q:Addr) (H:Hp) (c:Addr) (g:Gm):Prop:=∃dx sp mo wh tb us ft,H c=some (.ins q dx [(Str.ofString "spots",.ref sp),(Str.ofString "mosts",.ref mo),(Str.ofString "first",.str ft),(Str.ofString "whats",.ref wh),(Str.ofString "tables",.ref tb)])∧
 H sp=some (.dK (spK g.cs 0))∧H mo=some (.lst ((g.cs.map (·.2)).map V.int))∧H wh=some (.dK us)∧WhK H g.ps us∧(g.ps.map (·.1)).head?=some ft
theorem CoH.mono {q:Addr} {H H':Hp} {c:Addr} {g:Gm} (s:Same H H'):CoH q H c g→CoH q H' c g:=fun hh=>by
 obtain⟨dx,sp,mo,wh,tb,us,ft,h1,h2,h3,h4,h5,h6⟩:=hh
 exact⟨dx,sp,mo,wh,tb,us,ft,s _ _ h1,s _ _ h2,s _ _ h3,s _ _ h4,h5.mono s,h6⟩
noncomputable def StH (H:Hp) (v:V) (nm:Str) (ns:List Int):Prop:=∃a l,v=.ref a∧H a=some (.tup [.str nm,.ref l])∧H l=some (.lst (ns.map V.int))
theorem StH.mono {H H':Hp} {v:V} {nm:Str} {ns:List Int} (s:Same H H'):StH H v nm ns→StH H' v nm ns:=fun⟨a,l,e,h1,h2⟩=>⟨a,l,e,s _ _ h1,s _ _ h2⟩
noncomputable def spPut (q:Addr):Sp:=fun vs H Q _=>∃c l i k g ns,vs=[.ref c,.ref l,.int ((i:Nat):Int),.int k]∧CoH q (hid H l) c g∧H l=some (.lst (List.map V.int ns))∧i<g.cs.length∧ns.length=g.cs.length∧Q .non (upd H l (.lst ((putC g.cs ns i k).map V.int)))
noncomputable def spDo (q:Addr):Sp:=fun vs H Q _=>∃c l dv v g ns d,vs=[.ref c,.ref l,dv,.int v]∧CoH q (hid H l) c g∧H l=some (.lst (List.map V.int ns))∧Rep (hid H l) (ddD d) dv∧GoodD g.cs d∧ns.length=g.cs.length∧Q .non (upd H l (.lst ((doD g.cs v ns d).map V.int)))
noncomputable def spAsk (q:Addr):Sp:=fun vs H Q _=>∃c nm l g ns f nm',vs=[.ref c,.str nm,.ref l]∧CoH q H c g∧GoodG g∧H l=some (.lst (List.map V.int ns))∧ns.length=g.cs.length∧askd g ns f nm=some nm'∧∀a H',Same H H'→H a=none→H' a=some (.tup [.str nm',.ref l])→Q (.ref a) H'
noncomputable def spSta (q:Addr):Sp:=fun vs H Q _=>∃c g f ft nm',vs=[.ref c]∧CoH q H c g∧GoodG g∧(g.ps.map (·.1)).head?=some ft∧askd g (List.replicate g.cs.length 0) f ft=some nm'∧∀a l H',Same H H'→H a=none→H l=none→H' a=some (.tup [.str nm',.ref l])→H' l=some (.lst ((List.replicate g.cs.length (0:Int)).map V.int))→Q (.ref a) H'
noncomputable def spWat (q:Addr):Sp:=fun vs H Q _=>∃c v H0 g nm ns x,vs=[.ref c,v]∧Same H0 H∧CoH q H0 c g∧StH H v nm ns∧look g.ps nm=some x∧∀u,Rep H0 (wtD x) u→Q u H
noncomputable def spHol (q:Addr):Sp:=fun vs H Q _=>∃c v l g ns wh,vs=[.ref c,v,.ref l]∧CoH q H c g∧Rep H (whD wh) v∧H l=some (.lst (List.map V.int ns))∧ns.length=g.cs.length∧Q (.bl (holdsW g.cs ns wh)) H
noncomputable def spByR (q:Addr):Sp:=fun vs H Q _=>∃c sv rv v g nm ns a b ds to f nm',vs=[.ref c,sv,rv,.int v]∧CoH q H c g∧GoodG g∧StH H sv nm ns∧Rep H (r4D (a,b,List.map ddD ds,.str to)) rv∧(∀d∈ds,GoodD g.cs d)∧ds.length≤100∧ns.length=g.cs.length∧
 askd g (ds.foldl (doD g.cs v) ns) f to=some nm'∧∀p l H',Same H H'→H p=none→H l=none→H' p=some (.tup [.str nm',.ref l])→H' l=some (.lst ((ds.foldl (doD g.cs v) ns).map V.int))→Q (.ref p) H'
theorem rep_tup {H:Hp} {ds:List Dat} {v:V}:Rep H (.tup ds) v↔∃p vs,v=.ref p∧H p=some (.tup vs)∧RepL H ds vs:=by rw[Rep]
theorem repL_cons {H:Hp} {d:Dat} {ds:List Dat} {vs:List V}:RepL H (d::ds) vs↔∃v r,vs=v::r∧Rep H d v∧RepL H ds r:=by rw[RepL]
theorem repL_nil {H:Hp} {vs:List V}:RepL H [] vs↔vs=[]:=by rw[RepL]
theorem rep_str {H:Hp} {x:Str} {v:V}:Rep H (.str x) v↔v=.str x:=by rw[Rep]
theorem rep_int {H:Hp} {x:Int} {v:V}:Rep H (.int x) v↔v=.int x:=by rw[Rep]
theorem rep_t2 {H:Hp} {a b:Dat} {v:V}:Rep H (.tup [a,b]) v↔∃p x y,v=.ref p∧H p=some (.tup [x,y])∧Rep H a x∧Rep H b y:=by
 rw[rep_tup]
 constructor
 ·rintro⟨p,vs,e,h,r⟩
  obtain⟨x,r1,rfl,hx,r⟩:=repL_cons.mp r
  obtain⟨y,r2,rfl,hy,r⟩:=repL_cons.mp r
  rw[repL_nil.mp r] at h
  exact⟨p,x,y,e,h,hx,hy⟩
 ·rintro⟨p,x,y,e,h,hx,hy⟩
  exact⟨p,_,e,h,repL_cons.mpr ⟨x,_,rfl,hx,repL_cons.mpr ⟨y,_,rfl,hy,repL_nil.mpr rfl⟩⟩⟩
theorem rep_t3 {H:Hp} {a b c:Dat} {v:V}:Rep H (.tup [a,b,c]) v↔∃p x y z,v=.ref p∧H p=some (.tup [x,y,z])∧Rep H a x∧Rep H b y∧Rep H c z:=by
 rw[rep_tup]
 constructor
 ·rintro⟨p,vs,e,h,r⟩
  obtain⟨x,r1,rfl,hx,r⟩:=repL_cons.mp r
  obtain⟨y,r2,rfl,hy,r⟩:=repL_cons.mp r
  obtain⟨z,r3,rfl,hz,r⟩:=repL_cons.mp r
  rw[repL_nil.mp r] at h
  exact⟨p,x,y,z,e,h,hx,hy,hz⟩
 ·rintro⟨p,x,y,z,e,h,hx,hy,hz⟩
  exact⟨p,_,e,h,repL_cons.mpr ⟨x,_,rfl,hx,repL_cons.mpr ⟨y,_,rfl,hy,repL_cons.mpr ⟨z,_,rfl,hz,repL_nil.mpr rfl⟩⟩⟩⟩
theorem rep_t4 {H:Hp} {a b c d:Dat} {v:V}:Rep H (.tup [a,b,c,d]) v↔∃p x y z u,v=.ref p∧H p=some (.tup [x,y,z,u])∧Rep H a x∧Rep H b y∧Rep H c z∧Rep H d u:=by
 rw[rep_tup]
 constructor
 ·rintro⟨p,vs,e,h,r⟩
  obtain⟨x,r1,rfl,hx,r⟩:=repL_cons.mp r
  obtain⟨y,r2,rfl,hy,r⟩:=repL_cons.mp r
  obtain⟨z,r3,rfl,hz,r⟩:=repL_cons.mp r
  obtain⟨u,r4,rfl,hu,r⟩:=repL_cons.mp r
  rw[repL_nil.mp r] at h
  exact⟨p,x,y,z,u,e,h,hx,hy,hz,hu⟩
 ·rintro⟨p,x,y,z,u,e,h,hx,hy,hz,hu⟩
  exact⟨p,_,e,h,repL_cons.mpr ⟨x,_,rfl,hx,repL_cons.mpr ⟨y,_,rfl,hy,repL_cons.mpr ⟨z,_,rfl,hz,repL_cons.mpr ⟨u,_,rfl,hu,repL_nil.mpr rfl⟩⟩⟩⟩⟩
theorem rep_t5 {H:Hp} {a b c d f:Dat} {v:V}:Rep H (.tup [a,b,c,d,f]) v↔∃p x y z u t,v=.ref p∧H p=some (.tup [x,y,z,u,t])∧Rep H a x∧Rep H b y∧Rep H c z∧Rep H d u∧Rep H f t:=by
 rw[rep_tup]
 constructor
 ·rintro⟨p,vs,e,h,r⟩
  obtain⟨x,r1,rfl,hx,r⟩:=repL_cons.mp r
  obtain⟨y,r2,rfl,hy,r⟩:=repL_cons.mp r
  obtain⟨z,r3,rfl,hz,r⟩:=repL_cons.mp r
  obtain⟨u,r4,rfl,hu,r⟩:=repL_cons.mp r
  obtain⟨t,r5,rfl,ht,r⟩:=repL_cons.mp r
  rw[repL_nil.mp r] at h
  exact⟨p,x,y,z,u,t,e,h,hx,hy,hz,hu,ht⟩
 ·rintro⟨p,x,y,z,u,t,e,h,hx,hy,hz,hu,ht⟩
  exact⟨p,_,e,h,repL_cons.mpr ⟨x,_,rfl,hx,repL_cons.mpr ⟨y,_,rfl,hy,repL_cons.mpr ⟨z,_,rfl,hz,repL_cons.mpr ⟨u,_,rfl,hu,repL_cons.mpr ⟨t,_,rfl,ht,repL_nil.mpr rfl⟩⟩⟩⟩⟩⟩
theorem lk_ne {k k':Str} {v:V} {l:List (Str×V)} (h:(k==k')=false):List.lookup k ((k',v)::l)=List.lookup k l:=by rw[List.lookup_cons,h]
theorem lk_sp {a b c d e:V}:List.lookup (Str.ofString "spots") [(Str.ofString "spots",a),(Str.ofString "mosts",b),(Str.ofString "first",c),(Str.ofString "whats",d),(Str.ofString "tables",e)]=some a:=List.lookup_cons_self
theorem lk_mo {a b c d e:V}:List.lookup (Str.ofString "mosts") [(Str.ofString "spots",a),(Str.ofString "mosts",b),(Str.ofString "first",c),(Str.ofString "whats",d),(Str.ofString "tables",e)]=some b:=by
 rw[lk_ne (by decide +kernel)];exact List.lookup_cons_self
theorem lk_fi {a b c d e:V}:List.lookup (Str.ofString "first") [(Str.ofString "spots",a),(Str.ofString "mosts",b),(Str.ofString "first",c),(Str.ofString "whats",d),(Str.ofString "tables",e)]=some c:=by
 rw[lk_ne (by decide +kernel),lk_ne (by decide +kernel)];exact List.lookup_cons_self
theorem lk_wh {a b c d e:V}:List.lookup (Str.ofString "whats") [(Str.ofString "spots",a),(Str.ofString "mosts",b),(Str.ofString "first",c),(Str.ofString "whats",d),(Str.ofString "tables",e)]=some d:=by
 rw[lk_ne (by decide +kernel),lk_ne (by decide +kernel),lk_ne (by decide +kernel)];exact List.lookup_cons_self
theorem lk_no {a b c d e:V} {k:Str} (h1:(k==Str.ofString "spots")=false) (h2:(k==Str.ofString "mosts")=false) (h3:(k==Str.ofString "first")=false) (h4:(k==Str.ofString "whats")=false) (h5:(k==Str.ofString "tables")=false):
  List.lookup k [(Str.ofString "spots",a),(Str.ofString "mosts",b),(Str.ofString "first",c),(Str.ofString "whats",d),(Str.ofString "tables",e)]=none:=by
 rw[lk_ne h1,lk_ne h2,lk_ne h3,lk_ne h4,lk_ne h5];rfl
theorem ixN_nat {n i:Nat} (h:i<n):ixN n (i:Int)=some i:=by
 unfold ixN
 rw[if_pos (by omega),if_pos (by omega),Int.toNat_natCast]
theorem at_ints {ns:List Int} {i:Nat} (h:i<ns.length):atI (List.map V.int ns) (i:Int)=some (.int (ns.getD i 0)):=by
 have:=atI_ints (ns:=ns) (i:=(i:Int)) (by omega) (by omega)
 rwa [Int.toNat_natCast] at this
theorem most_at {cs:List (Str×Int)} {i:Nat} (h:i<cs.length):atI (List.map V.int (cs.map (·.2))) (i:Int)=some (.int (most cs i)):=at_ints (by rw[List.length_map];exact h)
theorem sp_get {H:Hp} {sp:Addr} {cs:List (Str×Int)} {n:Str} (h:H sp=some (.dK (spK cs 0))) (hn:n∈cs.map (·.1)):DGet H sp (.str n) (some (.int ((spot cs n:Nat):Int))):=
 .inl ⟨_,Sum.inr n,.inl h,rfl,by rw[spK_val hn,Nat.zero_add]⟩
theorem hid_hid' {H:Hp} {p:Addr} {o:HO}:hid (upd H p o) p=hid H p:=by
 funext a
 unfold hid
 by_cases c:a=p
 ·rw[if_pos c,if_pos c]
 ·rw[if_neg c,if_neg c,upd_ne c]
theorem while_m {c:TT} {tb:TS} {D:Ends} {σ:L2.St} {H:Hp} (Pv:Nat→L2.St→Hp→Prop) {m:Nat} (h0:Pv m σ H)
  (hs:∀m σ H,Pv m σ H→∃b:Bool,(∀Q:Bool→Hp→Prop,Q b H→c σ H Q)∧if b=true then tb {D with nx:=fun σ' H'=>∃m',m'<m∧Pv m' σ' H',ct:=fun σ' H'=>∃m',m'<m∧Pv m' σ' H',bk:=D.nx} σ H else D.nx σ H):tWhile c tb D σ H:=by
 refine⟨Pv,⟨m,h0⟩,?_⟩
 intro m σ H p
 obtain⟨b,k,q⟩:=hs m σ H p
 refine k _ ?_
 cases b with
 | true=>exact⟨_,fun σ' H' h=>h,q⟩
 | false=>exact q
theorem hid_none {H:Hp} {p:Addr} (h:H p=none):hid H p=H:=by
 funext a
 unfold hid
 by_cases c:a=p
 ·rw[if_pos c,c,h]
 ·rw[if_neg c]
theorem hid_same {H H':Hp} {p:Addr} (h:hid H' p=H):Same H H':=by rw[←h];exact hid_sub
theorem flat_rep (n:Nat):(List.replicate n [V.int 0]).flatten=List.map V.int (List.replicate n 0):=by
 induction n with
 | zero=>rfl
 | succ n ih=>rw[List.replicate_succ,List.flatten_cons,ih,List.replicate_succ];rfl
noncomputable def spOpn (q:Addr):Sp:=fun vs H Q _=>∃c v H0 g nm ns x,vs=[.ref c,v]∧Same H0 H∧CoH q H0 c g∧GoodG g∧StH H v nm ns∧ns.length=g.cs.length∧look g.ps nm=some x∧∀p xs H',Same H H'→H p=none→H' p=some (.lst xs)→RepL H0 (((openR g.cs ns x).map rw4).map r4D) xs→Q (.ref p) H'
noncomputable def spWds (q:Addr):Sp:=fun vs H Q _=>∃c v g nm ns x,vs=[.ref c,v]∧CoH q H c g∧GoodG g∧StH H v nm ns∧ns.length=g.cs.length∧look g.ps nm=some x∧∀p H',Same H H'→H p=none→Rep H' (.lst ((openR g.cs ns x).map fun r=>Dat.str r.word)) (.ref p)→Q (.ref p) H'
noncomputable def spEnd (q:Addr):Sp:=fun vs H Q _=>∃c v g nm ns x t b,vs=[.ref c,v]∧CoH q H c g∧GoodG g∧StH H v nm ns∧ns.length=g.cs.length∧look g.ps nm=some x∧endW g.cs ns x=some (t,b)∧∀u H',Same H H'→Rep H' (.tup [.int t,.int b]) u→Q u H'
theorem rep_filter {H:Hp} {p:Rw→Bool}:∀{rs:List Rw} {xs:List V},RepL H ((rs.map rw4).map r4D) xs→RepL H (((rs.filter p).map rw4).map r4D) ((xs.zip rs).filterMap fun x=>if p x.2=true then some x.1 else none)
 | [],xs,h=>by rw[List.zip_nil_right];exact repL_nil.mpr rfl
 | r::rs,xs,h=>by
  obtain⟨v,ys,rfl,h1,h2⟩:=repL_cons.mp h
  have ih:=rep_filter (p:=p) h2
  rw[List.zip_cons_cons,List.filterMap_cons]
  by_cases c:p r=true
  ·simp only[c,if_true]
   rw[List.filter_cons_of_pos c,List.map_cons,List.map_cons]
   exact repL_cons.mpr ⟨v,_,rfl,h1,ih⟩
  ·simp only[c]
   rw[List.filter_cons_of_neg c]
   exact ih
theorem rep_words {H:Hp}:∀{rs:List Rw} {xs:List V},RepL H ((rs.map rw4).map r4D) xs→RepL H (rs.map fun r=>Dat.str r.word) (rs.map fun r=>V.str r.word)
 | [],xs,h=>repL_nil.mpr rfl
 | r::rs,xs,h=>by
  obtain⟨v,ys,rfl,h1,h2⟩:=repL_cons.mp h
  exact repL_cons.mpr ⟨_,_,rfl,rep_str.mpr rfl,rep_words h2⟩
theorem rw4_get {H:Hp} {rs:List Rw} {xs:List V} {i:Nat} {x:V} (h:RepL H ((rs.map rw4).map r4D) xs) (e:xs[i]?=some x):∃r p a b c d,rs[i]?=some r∧x=.ref p∧H p=some (.tup [.str r.word,b,c,d])∧Rep H (whD r.wh) b∧a=r:=by
 obtain⟨dd,ed,rd⟩:=h.get e
 rw[List.getElem?_map,List.getElem?_map] at ed
 obtain⟨r4,e4,rfl⟩:=Option.map_eq_some_iff.mp ed
 obtain⟨r,er,rfl⟩:=Option.map_eq_some_iff.mp e4
 obtain⟨p,x1,x2,x3,x4,rfl,hp,r1,r2,r3,r4⟩:=rep_t4.mp (show Rep H (.tup _) x from rd)
 have r1:x1=.str r.word:=rep_str.mp r1
 subst r1
 exact⟨r,p,r,x2,x3,x4,er,rfl,hp,r2,rfl⟩
theorem if_yes {tc:TT} {a b:TS} {D:Ends} {σ:L2.St} {H:Hp} (h:∀Y N:Hp→Prop,Y H→tc σ H fun v H'=>if v=true then Y H' else N H') (k:a D σ H):tIfS tc a b D σ H:=if_gen (fun H'=>H'=H) (fun _=>False) (fun _ e=>e▸k) (fun _ f=>f.elim) fun Y N hY _=>h Y N (hY _ rfl)
theorem if_no {tc:TT} {a b:TS} {D:Ends} {σ:L2.St} {H:Hp} (h:∀Y N:Hp→Prop,N H→tc σ H fun v H'=>if v=true then Y H' else N H') (k:b D σ H):tIfS tc a b D σ H:=if_gen (fun _=>False) (fun H'=>H'=H) (fun _ f=>f.elim) (fun _ e=>e▸k) fun Y N _ hN=>h Y N (hN _ rfl)
abbrev Sta:=Str×List Int
noncomputable def addS (ss:List Sta) (s:Sta):List Sta:=if s∈ss then ss else ss++ [s]
noncomputable abbrev hid2 (H:Hp) (l n:Addr):Hp:=hid (hid H l) n
noncomputable def Kp (H H':Hp):Prop:=∀a,(∀vs,H a=some (.tup vs)→H' a=some (.tup vs))∧∀vs,H a=some (.lst vs)→H' a=some (.lst vs)
theorem Kp.of {H H':Hp} (s:Same H H'):Kp H H':=fun a=>⟨fun _=>s _ _,fun _=>s _ _⟩
theorem Kp.upd {H:Hp} {p:Addr} {o:HO} (h1:∀vs,H p≠some (.tup vs)) (h2:∀vs,H p≠some (.lst vs)):Kp H (upd H p o):=fun a=>by
 by_cases c:a=p
 ·subst c;exact⟨fun vs e=>absurd e (h1 vs),fun vs e=>absurd e (h2 vs)⟩
 ·rw[upd_ne c];exact⟨fun _ h=>h,fun _ h=>h⟩
theorem Kp.trans {H H' H2:Hp} (a:Kp H H') (b:Kp H' H2):Kp H H2:=fun x=>⟨fun _ h=>(b x).1 _ ((a x).1 _ h),fun _ h=>(b x).2 _ ((a x).2 _ h)⟩
mutual
theorem Kp.rep {H H':Hp} (s:Kp H H'):∀{d:Dat} {v:V},Rep H d v→Rep H' d v
 | .non,_,h=>by rw[Rep] at *;exact h
 | .bl _,_,h=>by rw[Rep] at *;exact h
 | .int _,_,h=>by rw[Rep] at *;exact h
 | .str _,_,h=>by rw[Rep] at *;exact h
 | .tup ds,_,h=>by
  rw[Rep] at *
  obtain⟨p,vs,e,hp,r⟩:=h
  exact⟨p,vs,e,(s p).1 _ hp,s.repL r⟩
 | .lst ds,_,h=>by
  rw[Rep] at *
  obtain⟨p,vs,e,hp,r⟩:=h
  exact⟨p,vs,e,(s p).2 _ hp,s.repL r⟩
theorem Kp.repL {H H':Hp} (s:Kp H H'):∀{ds:List Dat} {vs:List V},RepL H ds vs→RepL H' ds vs
 | [],_,h=>by rw[RepL] at *;exact h
 | d::ds,_,h=>by
  rw[RepL] at *
  obtain⟨v,r,e,h1,h2⟩:=h
  exact⟨v,r,e,s.rep h1,s.repL h2⟩
end
theorem Kp.whk {H H':Hp} (s:Kp H H'):∀{ps:List (Str×Wt)} {us:List (Key×V)},WhK H ps us→WhK H' ps us
 | [],_,h=>h
 | _::_,_,⟨v,r,e,h1,h2⟩=>⟨v,r,e,s.rep h1,s.whk h2⟩
theorem WhK.none {H:Hp} {ps:List (Str×Wt)} {us:List (Key×V)} {n:Str} (h:WhK H ps us) (nn:n∉ps.map (·.1)):valV us (Sum.inr n)=none:=by
 rcases h.val (n:=n) with ⟨x,v,a,_,_⟩ | ⟨_,b⟩
 ·rw[look_none nn] at a;cases a
 ·exact b
theorem nodup_at {α:Type} {l:List α} (h:l.Nodup) {i:Nat} {x:α} (e:l[i]?=some x):x∉l.take i:=by
 intro m
 obtain⟨j,hj,ej⟩:=List.getElem_of_mem m
 rw[List.length_take] at hj
 rw[List.getElem_take] at ej
 obtain⟨hi,ei⟩:=List.getElem?_eq_some_iff.mp e
 have:=(List.getElem_inj h).mp (ej.trans ei.symm)
 omega
noncomputable def addAll (ss ts:List Sta):List Sta:=ts.foldl addS ss
theorem pt_back {H:Hp} {p:Pt} {v:V} (h:Rep H (ptD p) v):∃q,v=.ref q∧H q=some (.tup (ptV p)):=by
 cases p with
 | dice n s=>obtain⟨q,x,y,z,e,hq,a,b,c⟩:=rep_t3.mp (show Rep H (.tup _) v from h);rw[rep_str.mp a,rep_int.mp b,rep_int.mp c] at hq;exact⟨q,e,hq⟩
noncomputable def CoT (q:Addr) (H:Hp) (c:Addr) (g:Gm) (tb:Addr):Prop:=∃dx sp mo wh us ft,H c=some (.ins q dx [(Str.ofString "spots",.ref sp),(Str.ofString "mosts",.ref mo),(Str.ofString "first",.str ft),(Str.ofString "whats",.ref wh),(Str.ofString "tables",.ref tb)])∧
 H sp=some (.dK (spK g.cs 0))∧H mo=some (.lst ((g.cs.map (·.2)).map V.int))∧H wh=some (.dK us)∧WhK H g.ps us∧(g.ps.map (·.1)).head?=some ft
theorem CoT.co {q:Addr} {H:Hp} {c:Addr} {g:Gm} {tb:Addr}:CoT q H c g tb→CoH q H c g:=fun hh=>by
 obtain⟨dx,sp,mo,wh,us,ft,h1,h2,h3,h4,h5,h6⟩:=hh
 exact⟨dx,sp,mo,wh,tb,us,ft,h1,h2,h3,h4,h5,h6⟩
theorem CoT.mono {q:Addr} {H H':Hp} {c:Addr} {g:Gm} {tb:Addr} (s:Same H H'):CoT q H c g tb→CoT q H' c g tb:=fun hh=>by
 obtain⟨dx,sp,mo,wh,us,ft,h1,h2,h3,h4,h5,h6⟩:=hh
 exact⟨dx,sp,mo,wh,us,ft,s _ _ h1,s _ _ h2,s _ _ h3,s _ _ h4,h5.mono s,h6⟩
theorem Kp.hid {H:Hp} {tb:Addr} {kvs:List (Key×V)} (h:H tb=some (.dK kvs)):Kp H (hid H tb):=fun a=>by
 by_cases c:a=tb
 ·subst c;rw[h];exact⟨(fun _ e=>by cases e),(fun _ e=>by cases e)⟩
 ·rw[hid_ne c];exact⟨fun _ e=>e,fun _ e=>e⟩
noncomputable abbrev hid3 (H:Hp) (l n tb:Addr):Hp:=hid (hid2 H l n) tb
noncomputable def rowOf (rs:List Tw) (v:Int):Option Tw:=rs.find? fun r=>decide (r.1≤v) && decide (v≤r.2.1)
theorem val_snoc {kvs:List (Key×V)} {k:Key} {v:V} (h:valV kvs k=none) (k':Key):valV (kvs++ [(k,v)]) k'=if k=k' then some v else valV kvs k':=by
 unfold valV at *
 rw[List.find?_append]
 by_cases c:k=k'
 ·subst c
  rw[if_pos rfl]
  have:kvs.find? (fun kv=>decide (kv.1=k))=none:=by simpa using h
  rw[this]
  simp
 ·rw[if_neg c]
  have:List.find? (fun kv:Key×V=>decide (kv.1=k')) [(k,v)]=none:=by simp [c]
  rw[this]
  simp
theorem pts_inj:∀{ps qs:List Pt},ps.map ptD=qs.map ptD→ps=qs
 | [],[],_=>rfl
 | [],_::_,h=>by cases h
 | _::_,[],h=>by cases h
 | p::ps,q::qs,h=>by
  rw[List.map_cons,List.map_cons] at h
  injection h with h1 h2
  rw[ptD_inj h1,pts_inj h2]
theorem pl_back {H:Hp} {v:V} {ps:List Pt} (h:Rep H (.lst (ps.map ptD)) v):∃a,v=.ref a∧PlH H a ps:=by
 obtain⟨a,xs,e,ha,r⟩:=rep_lst.mp h
 refine⟨a,e,xs,ha,?_⟩
 have:∀{ps:List Pt} {xs:List V},RepL H (ps.map ptD) xs→Al (fun p v=>∃q,v=.ref q∧H q=some (.tup (ptV p))) ps xs:=by
  intro ps
  induction ps with
  | nil=>intro xs h;rw[repL_nil.mp h];trivial
  | cons p ps ih=>
   intro xs h
   obtain⟨v,r,rfl,h1,h2⟩:=repL_cons.mp h
   exact⟨pt_back h1,ih h2⟩
 exact this r
theorem rows_in {H X:Hp} {rows:List (Int×Int×Int)} {p:Addr} (h:Rep H (rowsD rows) (.ref p)) (kp:∀o,H p=some o→X p=some o) (kt:∀a vs,H a=some (.tup vs)→X a=some (.tup vs)):Rep X (rowsD rows) (.ref p):=by
 obtain⟨a,xs,e,ha,r⟩:=rep_lst.mp h
 cases e
 refine rep_lst.mpr ⟨_,xs,rfl,kp _ ha,?_⟩
 refine RepL.of r.length fun i d v ed ev=>?_
 obtain⟨d',ed',rd⟩:=r.get ev
 rw[ed] at ed'
 cases ed'
 rw[List.getElem?_map] at ed
 obtain⟨x,_,rfl⟩:=Option.map_eq_some_iff.mp ed
 obtain⟨p1,q1,rfl,h1,h2⟩:=rep_row.mp rd
 exact rep_row.mpr ⟨p1,q1,rfl,kt _ _ h1,kt _ _ h2⟩
noncomputable def spTba (q:Addr):Sp:=fun vs H Q _=>∃c sv g nm ns tb kvs ps t b rs,vs=[.ref c,sv]∧CoT q (hid H tb) c g tb∧StH H sv nm ns∧H tb=some (.dK kvs)∧kvs.length≤1000∧look g.ps nm=some (.thr (ps.map ptD) t b rs)∧GoodL ps∧ps.length≤4∧
 (∀v,valV kvs (Sum.inr nm)=some v→Q v H)∧(valV kvs (Sum.inr nm)=none→∀p H1,Same H H1→H p=none→Rep H1 (rowsD (tabP ps)) (.ref p)→Q (.ref p) (upd H1 tb (.dK (kvs++ [(Sum.inr nm,.ref p)]))))
noncomputable def spBv (q:Addr):Sp:=fun vs H Q _=>∃c sv v g nm ns pool t b rs r f nm',vs=[.ref c,sv,.int v]∧CoH q H c g∧GoodG g∧StH H sv nm ns∧ns.length=g.cs.length∧look g.ps nm=some (.thr pool t b rs)∧rowOf rs v=some r∧askd g (r.2.2.1.foldl (doD g.cs v) ns) f r.2.2.2=some nm'∧
 ∀p l H',Same H H'→H p=none→H l=none→H' p=some (.tup [.str nm',.ref l])→H' l=some (.lst ((r.2.2.1.foldl (doD g.cs v) ns).map V.int))→Q (.ref p) H'
theorem tw_filter {H:Hp} {p:Tw→Bool}:∀{rs:List Tw} {xs:List V},RepL H ((rs.map tw4).map r4D) xs→RepL H (((rs.filter p).map tw4).map r4D) ((xs.zip rs).filterMap fun x=>if p x.2=true then some x.1 else none)
 | [],xs,h=>by rw[List.zip_nil_right];exact repL_nil.mpr rfl
 | r::rs,xs,h=>by
  obtain⟨v,ys,rfl,h1,h2⟩:=repL_cons.mp h
  have ih:=tw_filter (p:=p) h2
  rw[List.zip_cons_cons,List.filterMap_cons]
  by_cases c:p r=true
  ·simp only[c,if_true]
   rw[List.filter_cons_of_pos c,List.map_cons,List.map_cons]
   exact repL_cons.mpr ⟨v,_,rfl,h1,ih⟩
  ·simp only[c]
   rw[List.filter_cons_of_neg c]
   exact ih
noncomputable def nw (H X H':Hp):Hp:=fun a=>match H a with
 | none=>H' a
 | some _=>X a
theorem nw_new {H X H':Hp} {a:Addr} (h:H a=none):nw H X H' a=H' a:=by unfold nw;rw[h]
theorem nw_in {H X H':Hp} (sx:Same X H):Same X (nw H X H'):=fun a o h=>by unfold nw;rw[sx _ _ h];exact h
theorem nw_sub {H X H':Hp} (sx:Same X H) (s:Same H H'):Same (nw H X H') H':=fun a o h=>by
 unfold nw at h
 split at h
 ·exact h
 ·exact s _ _ (sx _ _ h)
theorem nw_mono {H X H' H'':Hp} (s:Same H' H''):Same (nw H X H') (nw H X H''):=fun a o h=>by
 cases c:H a with
 | none=>rw[nw_new c] at h ⊢;exact s _ _ h
 | some x=>unfold nw at h ⊢;rw[c] at h ⊢;exact h
theorem nw_nw {H X H' H'':Hp} (s1:Same H H') (s2:Same H' H''):nw H' (nw H X H') H''=nw H X H'':=by
 funext a
 unfold nw
 cases h:H a with
 | none=>
  dsimp only
  cases h':H' a with
  | none=>rfl
  | some o=>dsimp only;exact(s2 _ _ h').symm
 | some o=>
  rw[s1 _ _ h]
noncomputable def spORX:Sp:=fun vs H Q _=>∃(v:V) (X:Hp) (rs:List R4),vs=[v]∧Same X H∧Rep X (.lst (rs.map r4D)) v∧rs.length≤100∧(∀r∈rs,r.2.2.1.length≤100)∧∀p H',Same H H'→Rep (nw H X H') (.lst (rs.map r4D)) (.ref p)→Q (.ref p) H'
noncomputable def spOWX:Sp:=fun vs H Q _=>∃(v:V) (X:Hp) (x:Wt) (cs:List (Str×Int)),vs=[v]∧Same X H∧Rep X (wtD x) v∧GoodT cs x∧∀u H',Same H H'→Rep (nw H X H') (wtD x) u→Q u H'
noncomputable def spLaw (K:PySem.W.Frag):Sp:=fun vs H Q _=>∃(a:Addr) (ns:List Int),vs=[.ref a]∧SqL K H a (ns.map V.int)∧ns.length≤63∧∀H',Q (.bl true) H'
section
variable {P : Program} {w : World} {K : PySem.W.Frag} {mg : Str → Option Value} {base : Heap}
variable {q_LuckError q_NoShare q_NoTable q_NoEnd q_TooMany q_NoStep q_NoPlay q_Course q_Play : Addr}
theorem sc_common_divisor:FnScope ["one","other","rest"] ["one","other"] (defScope (top 12)):=⟨rfl,rfl,rfl,by decide +kernel,rfl,by decide +kernel,by decide +kernel⟩
theorem ok_cd (T:Txt K mg q_LuckError q_NoShare q_NoTable q_NoEnd q_TooMany q_NoStep q_NoPlay q_Course q_Play):Cal P w K mg base (CX1 P w) 1 "common_divisor" ["one","other"] spCd:=by
 refine T.d_common_divisor.cal (fun _ _ _ _ _ _=>us_2 fun _ _=>rfl) fun f fd F=>F.okC sc_common_divisor (fun vs H Q E h=>?_) (fun cdv A outer s H vs Q E hr h=>?_)
 ·obtain⟨_,_,rfl,_⟩:=h;rfl
 ·refine(?_:let G_:Prop:=_;G_)
  intro G_
  obtain⟨a,b,rfl,k⟩:=h
  dsimp only[G_]
  have nd:=sc_common_divisor.nd
  refine⟨_,(pss_cons (ps_set (i:=0) nd rfl (Or.inl rfl) (pe_callB call_abs (by rfl) T.z_abs rfl (pa_cons (pv 0) pa_nil (se rfl)) (he:=se rfl) (hpl:=na rfl)))
  (pss_cons (ps_set (i:=1) nd rfl (Or.inl rfl) (pe_callB call_abs (by rfl) T.z_abs rfl (pa_cons (pv 1) pa_nil (se rfl)) (he:=se rfl) (hpl:=na rfl)))
  (pss_cons (ps_while PassesOwn.never (pt_cmpR op_ne (pv 1) pe_int (nomark _)) (pss_cons (ps_set (i:=2) nd rfl (Or.inl rfl) (pe_op op_modB (pv 0) (pv 1)))
  (pss_cons (ps_set (i:=0) nd rfl (Or.inl rfl) (pv 1))
  (pss_one (ps_set (i:=1) nd rfl (Or.inl rfl) (pv 2))))))
  (pss_one (ps_ret (pv 0)))))),?_⟩
  refine(?_:let q0_:TS:=_;let q1_:TS:=_;let q2_:TS:=_;let q3_:TS:=_;tSeq q0_ (tSeq q1_ (tSeq q2_ q3_)) _ _ _)
  intro q0_ q1_ q2_ q3_
  simp_all only[]
  refine while_by (fun σ H1=>H1=H∧∃(x y:Int) (z:Option V),σ=[some (.int x),some (.int y),z]∧0≤x∧0≤y∧Nm.g x y=Nm.g a b) (fun σ _=>match σ with | [_,some (.int y),_]=>y.toNat | _=>0) ?_ ?_ ?_
  ·refine⟨rfl,_,_,_,rfl,?_,?_,?_⟩
   ·split <;>omega
   ·split <;>omega
   ·rw[show(if a<0 then -a else a)=(a.natAbs:Int) by split <;>omega,show(if b<0 then -b else b)=(b.natAbs:Int) by split <;>omega,Nm.g_abs,Nm.g_abs_r]
  ·intro σ H1 p2_
   refine(?_:let G_:Prop:=_;G_)
   intro G_
   obtain⟨rfl,x,y,z,rfl,x0,y0,e⟩:=p2_
   dsimp only[G_]
   simp_all only[]
   refine ite2 (fun c=>?_) (fun c=>?_)
   ·refine⟨by omega,y0,Int.emod_nonneg _ (by omega),by rw[Nm.g_step x0 (by omega),e],?_⟩
    have:=Int.emod_lt_of_pos x (show 0<y by omega)
    have:=Int.emod_nonneg x (show y≠0 by omega)
    omega
   ·have z:y=0:=by omega
    subst z
    rw[Nm.g_zero x0] at e
    rw[e]
    exact k
  ·intro σ H1 Q1 Q2 hq hc
   simp only[L2.start,Pr,tRev,tLR,tMaxD,tSortR,tD1,tDPop1,tSl,tNoPart,tPart,rSlL,tDIn,tDNotIn,gSub,rSetL,tLst,tDNewK,tComp,L2.stC,tFor_eq,iList,iTup,iRng1,iRng2,iZip,iEnum,iDict,iStr,tChain,tSumV,tBM,rJoin,tJoined,jNil,jLit,jInt,jStr,tRaise,tDGet,tDGet2,tDGet1,sDPut,Option.join_some,List.getElem?_nil,tSeq,tRet,tRetN,tIfS,tTest,tB,tOp,tUn,tVar,tC,tCB,tCons,tNil,tCall,tTupS,tAsg,gName,gNil,gCons,tPar,tNext,tDrop,tAnd,tOr,tNot,tAndV,tOrV,tNotV,tIf,rI,rI0,rU,rIxTH,rIxLH,rEqT,rNeT,rInT,rEq,rNe,scal_ss,scal_ii,scal_bb,scal_si,scal_is,CPow,at0,at1,at2,List.map_cons,List.map_nil,List.length_cons,List.length_nil,Nat.reduceSub,Nat.reduceAdd,Nat.zero_add,List.replicate_zero,List.reduceReplicate,List.append_nil,List.nil_append,List.cons_append,List.getElem?_cons_zero,List.getElem?_cons_succ,List.set_cons_zero,List.set_cons_succ,Option.some.injEq,exists_eq_left',exists_eq_left,V.ref.injEq,V.int.injEq,V.bl.injEq,V.str.injEq,V.ty.injEq,HO.tup.injEq,HO.lst.injEq,List.cons.injEq,and_true,true_and,and_assoc,exists_and_left,decide_eq_true_eq,Bool.not_eq_true',decide_eq_false_iff_not,ite_true,ite_false,if_true,if_false,Int.reduceToNat,eq_self_iff_true] at hc ⊢
   refine(?_:let G_:Prop:=_;G_)
   intro G_
   obtain⟨v,e1,e2,q⟩:=hc
   dsimp only[G_]
   exact⟨v,e1,e2,hq _ _ q⟩
theorem sc_share:FnScope ["top","bottom","divisor"] ["top","bottom"] (defScope (top 13)):=⟨rfl,rfl,rfl,by decide +kernel,rfl,by decide +kernel,by decide +kernel⟩
theorem ok_sh (T:Txt K mg q_LuckError q_NoShare q_NoTable q_NoEnd q_TooMany q_NoStep q_NoPlay q_Course q_Play):Cal P w K mg base (CX1 P w) 2 "share" ["top","bottom"] (spSh q_NoShare):=by
 have c_common_divisor:Cal P w K mg base (CX1 P w) 1 "common_divisor" ["one","other"] spCd:=ok_cd T
 refine T.d_share.cal (fun _ _ _ _ _ _=>us_2 fun _ _=>rfl) fun f fd F=>F.okX sc_share (fun vs H Q E h=>?_) (fun cdv A outer s H vs Q E hr h=>?_)
 ·obtain⟨_,_,rfl,_⟩:=h;rfl
 ·refine(?_:let G_:Prop:=_;G_)
  intro G_
  obtain⟨a,b,rfl,bt,kE,kQ⟩:=h
  dsimp only[G_]
  have nd:=sc_share.nd
  have hd0:A.handled=none:=hr.hd
  refine⟨_,(pss_cons (ps_if (pt_cmpR op_eq (pv 1) pe_int (nomark _)) (pss_one (ps_raise rfl T.k_NoShare T.x_NoShare hd0 (pa_cons pe_str pa_nil (se rfl)) (he:=se rfl) (hpl:=na rfl)))
   pss_nil)
  (pss_cons (ps_set (i:=2) nd rfl (Or.inl rfl) (pe_cal c_common_divisor (hr.mono (by decide)) rfl strictP.pass (pa_cons (pv 0) (pa_cons (pv 1) pa_nil (se rfl)) (se rfl)) (he:=se rfl) (hpl:=na rfl)))
  (pss_cons (ps_if (pt_cmpR op_lt (pv 1) pe_int (nomark _)) (pss_one (ps_set (i:=2) nd rfl (Or.inl rfl) (pe_un un_neg (pv 2))))
   pss_nil)
  (pss_one (ps_ret (pe_tupS (pa_cons (pe_op op_fdivS (pv 0) (pv 2)) (pa_cons (pe_op op_fdivS (pv 1) (pv 2)) pa_nil (se rfl)) (se rfl)))))))),?_⟩
  refine(?_:let q0_:TS:=_;let q1_:TS:=_;let q2_:TS:=_;let q3_:TS:=_;tSeq q0_ (tSeq q1_ (tSeq q2_ q3_)) _ _ _)
  intro q0_ q1_ q2_ q3_
  simp_all only[spCd,tRaise]
  refine ite2 (fun z=>?_) (fun z=>?_)
  ·exact⟨by decide,kE z⟩
  ·have g0:0<Nm.g a b:=Nm.g_pos z
   have gb:Bt 5000 (Nm.g a b):=bt.le (by have:=Nm.g_abs_le (a:=a) z;omega)
   have kq:=kQ z
   unfold Nm.st Nm.sb at kq
   refine ite2 (fun c=>?_) (fun c=>?_)
   ·rw[if_pos c,if_pos c] at kq
    rw[Nm.fdiv_n g0 (Nm.g_dvd_l a b),Nm.fdiv_n g0 (Nm.g_dvd_r a b)]
    exact⟨CDivS.of (by omega) gb.neg,CDivS.of (by omega) gb.neg,by decide,fun p H2 s1 n1 e=>kq p H2 s1 n1 e⟩
   ·rw[if_neg c,if_neg c] at kq
    rw[Nm.fdiv_p g0,Nm.fdiv_p g0]
    exact⟨CDivS.of (by omega) gb,CDivS.of (by omega) gb,by decide,fun p H2 s1 n1 e=>kq p H2 s1 n1 e⟩
theorem sc_table_by_weights:FnScope ["weights","bottom"] ["weights","bottom"] (defScope (top 18)):=⟨rfl,rfl,rfl,by decide +kernel,rfl,by decide +kernel,by decide +kernel⟩
theorem ok_tw (T:Txt K mg q_LuckError q_NoShare q_NoTable q_NoEnd q_TooMany q_NoStep q_NoPlay q_Course q_Play):Cal P w K mg base (CX1 P w) 3 "table_by_weights" ["weights","bottom"] spTW:=by
 have c_share:Cal P w K mg base (CX1 P w) 2 "share" ["top","bottom"] (spSh q_NoShare):=ok_sh T
 refine T.d_table_by_weights.cal (fun _ _ _ _ _ _=>us_2 fun _ _=>rfl) fun f fd F=>F.okC sc_table_by_weights (fun vs H Q E h=>?_) (fun cdv A outer s H vs Q E hr h=>?_)
 ·obtain⟨_,_,_,rfl,_⟩:=h;rfl
 ·refine(?_:let G_:Prop:=_;G_)
  intro G_
  obtain⟨d,B,ws,rfl,hd,ndk,hz,B0,bB,k⟩:=h
  dsimp only[G_]
  have nd:=sc_table_by_weights.nd
  refine⟨_,(pss_one (ps_ret (pe_comp rfl (N:=["weights","bottom"]) (so:=defScope (top 18)) (N':=["value","weights","bottom"]) (k:=1) (fr:=[0,1]) rfl rfl ⟨rfl,by decide +kernel,by decide +kernel,by decide +kernel,rfl,by decide +kernel,by decide +kernel⟩ (pi_listK (K:=K) (pe_callB call_sorted_dK (by rfl) T.z_sorted rfl (pa_cons (pv 0) pa_nil (se rfl)) (he:=se rfl) (hpl:=na rfl))) (fun _ _ _ _ _=>(pg_name (i:=0) (show(["value","weights","bottom"]:List Str).Nodup by decide +kernel) rfl (Or.inl rfl))) (fun _ _ _ _ _=>pts_nil)
   (fun _ _ _ _ _=>(pe_tupS (pa_cons (pv 0) (pa_cons (pe_cal c_share (hr.mono (by decide)) rfl strictP.pass (pa_cons (pe_dget (hu_of hr) (pv 1) (pv 0) (fun _ _=>rfl)) (pa_cons (pv 2) pa_nil (se rfl)) (se rfl)) (he:=se rfl) (hpl:=na rfl)) pa_nil (se rfl)) (se rfl))))))),?_⟩
  simp_all only[]
  refine⟨enc ws,.inl hd,allI_enc ws,by rw[enc_len];exact hz,fun l nl=>⟨⟨_,SqL.of upd_same⟩,?_⟩⟩
  rw[keysI_enc]
  have sm:Same H (upd H l (.lst (List.map V.int (Nm.srt (Nm.keys ws))))):=same_upd nl
  have ll:(List.map V.int (Nm.srt (Nm.keys ws))).length=ws.length:=by rw[List.length_map,Nm.srt_length];unfold Nm.keys;rw[List.length_map]
  refine comp_map (src_list (fun H2 s2=>s2.seq (SqL.of upd_same))) (fun _ _ _ _ h=>by rw[h.1];exact Same.refl _) (by rw[ll,sizeLine_eq];omega) (fun i y H2=>∀r,(Nm.rowsOf ws B)[i]?=some r→Rep H2 (rowD r) y) (fun i y H2 H3 s3 h r e=>(h r e).mono s3) ?_ ?_
  ·rintro i x w0 H2 H3 Q2 hi s2 ⟨rfl,hx⟩ kq
   rw[List.getElem?_map] at hx
   refine(?_:let G_:Prop:=_;G_)
   intro G_
   obtain⟨v,ev,rfl⟩:=Option.map_eq_some_iff.mp hx
   dsimp only[G_]
   have hv:v∈Nm.keys ws:=Nm.srt_mem.mp (List.mem_of_getElem? ev)
   have hd2:=s2 _ _ (sm _ _ hd)
   simp_all only[spSh]
   refine⟨_,dget_enc hd2 hv,_,rfl,bB,fun z=>absurd z B0,fun _ p H4 s4 _ e4=>⟨by decide,fun p5 H5 s5 _ e5=>?_⟩⟩
   refine kq _ _ (s4.trans s5) fun r er=>?_
   have:r=(v,Nm.st (Nm.look ws v) B,Nm.sb (Nm.look ws v) B):=by
    unfold Nm.rowsOf at er
    rw[List.getElem?_map,ev] at er
    exact(Option.some.inj er).symm
   subst this
   exact rep_row.mpr ⟨p5,p,rfl,e5,s5 _ _ e4⟩
  ·intro ys H2 s2 ly hy D n1 n2
   refine k _ _ (sm.trans (s2.trans (same_upd n2))) (none_of sm n1) (rep_lst.mpr ⟨D,ys,rfl,upd_same,?_⟩)
   refine RepL.of ?_ fun i dd v e1 e2=>?_
   ·rw[List.length_map,ly]
    unfold Nm.rowsOf
    rw[List.length_map,List.length_map]
   ·rw[List.getElem?_map] at e1
    refine(?_:let G_:Prop:=_;G_)
    intro G_
    obtain⟨r,er,rfl⟩:=Option.map_eq_some_iff.mp e1
    dsimp only[G_]
    exact(hy i v e2 r er).mono (same_upd n2)
theorem sc_table_of:FnScope ["rows","weights","value","weight"] ["rows"] (defScope (top 19)):=⟨rfl,rfl,rfl,by decide +kernel,rfl,by decide +kernel,by decide +kernel⟩
theorem ok_to (T:Txt K mg q_LuckError q_NoShare q_NoTable q_NoEnd q_TooMany q_NoStep q_NoPlay q_Course q_Play):Cal P w K mg base (CX1 P w) 4 "table_of" ["rows"] (spTO q_NoTable):=by
 have c_table_by_weights:Cal P w K mg base (CX1 P w) 3 "table_by_weights" ["weights","bottom"] spTW:=ok_tw T
 refine T.d_table_of.cal (fun _ _ _ _ _ _=>us_1 fun _=>rfl) fun f fd F=>F.okX sc_table_of (fun vs H Q E h=>?_) (fun cdv A outer s H vs Q E hr h=>?_)
 ·obtain⟨_,_,rfl,_⟩:=h;rfl
 ·refine(?_:let G_:Prop:=_;G_)
  intro G_
  obtain⟨v,ps,rfl,rp,hz,hb,hw,kE,kQ⟩:=h
  dsimp only[G_]
  have nd:=sc_table_of.nd
  have hd0:A.handled=none:=hr.hd
  refine⟨_,(pss_cons (ps_set (i:=1) nd rfl (Or.inl rfl) pe_dnewK)
  (pss_cons (ps_for PassesOwn.leaving rfl (pi_listK (K:=K) (pv 0)) (pg_tupK (K:=K) (n:=2) rfl (pgs_cons (pg_name (i:=2) nd rfl (Or.inl rfl)) (pgs_cons (pg_name (i:=3) nd rfl (Or.inl rfl)) pgs_nil))) (pss_cons (ps_if (pt_cmpR op_lt (pv 3) pe_int (nomark _)) (pss_one (ps_raise rfl T.k_NoTable T.x_NoTable hd0 (pa_cons pe_str pa_nil (se rfl)) (he:=se rfl) (hpl:=na rfl)))
   pss_nil)
  (pss_one (ps_if (pt_cmpR op_gt (pv 3) pe_int (nomark _)) (pss_one (ps_dput (hu_of hr) (pv 1) (pv 2) (pe_op op_add (pe_dget2 (hu_of hr) (pv 1) (pv 2) pe_int (by first | exact⟨rfl,rfl,rfl⟩ | constructor <;>rfl)) (pv 3)) rfl))
   pss_nil))))
  (pss_cons (ps_if (pt_cmpR op_eq (pe_callB call_lenD (by rfl) T.z_len PySem.boot_len (pa_cons (pv 1) pa_nil (se rfl)) (he:=se rfl) (hpl:=na rfl)) pe_int (nomark _)) (pss_one (ps_raise rfl T.k_NoTable T.x_NoTable hd0 (pa_cons pe_str pa_nil (se rfl)) (he:=se rfl) (hpl:=na rfl)))
   pss_nil)
  (pss_one (ps_ret (pe_cal c_table_by_weights (hr.mono (by decide)) rfl strictP.pass (pa_cons (pv 1) (pa_cons (pe_sumvals rfl (by rfl) T.z_sum (pv 1) (he:=se rfl)) pa_nil (se rfl)) (se rfl)) (he:=se rfl) (hpl:=na rfl))))))),?_⟩
  refine(?_:let q0_:TS:=_;let q1_:TS:=_;let q2_:TS:=_;let q3_:TS:=_;tSeq q0_ (tSeq q1_ (tSeq q2_ q3_)) _ _ _)
  intro q0_ q1_ q2_ q3_
  simp_all only[spTW,tRaise]
  intro d nd1
  refine(?_:let G_:Prop:=_;G_)
  intro G_
  obtain⟨a,xs,rfl,ha,rl⟩:=rep_lst.mp rp
  dsimp only[G_]
  have n1:=rl.length
  rw[List.length_map] at n1
  have q1:∀o,SqL K (upd H d o) a xs:=fun o=>SqL.of (same_upd nd1 _ _ ha)
  refine⟨_,rfl,⟨_,q1 _⟩,for_src (src_list (Ok:=fun H'=>∃o,H'=upd H d o) (fun H' ⟨o,e⟩=>by rw[e];exact q1 o))
   (fun i σ H'=>H'=upd H d (.dK (enc (Nm.wof (ps.take i))))∧(∀p∈ps.take i,0≤p.2)∧∃z1 z2,σ=[some (.ref a),some (.ref d),z1,z2])
   ⟨by rw[List.take_zero];rfl,by simp,_,_,rfl⟩ (fun _ _ _ _ h=>⟨_,h.1⟩) ?_ ?_⟩
  ·intro i x σ H' H'' hi p6_ p7_
   refine(?_:let G_:Prop:=_;G_)
   intro G_
   obtain⟨rfl,nn,z1,z2,rfl⟩:=p6_
   obtain⟨rfl,hx⟩:=p7_
   obtain⟨dd,ed,rd⟩:=rl.get hx
   rw[List.getElem?_map] at ed
   obtain⟨p,ep,rfl⟩:=Option.map_eq_some_iff.mp ed
   obtain⟨q,rfl,hq⟩:=rep_wrow.mp rd
   dsimp only[G_]
   have tk:ps.take (i+1)=ps.take i++ [p]:=by rw[List.take_add_one,ep];rfl
   refine⟨q,_,rfl,SqT.of (same_upd nd1 _ _ hq),rfl,?_⟩
   simp_all only[tRaise]
   rw[tk,Nm.wof_snoc]
   refine ite2 (fun c=>?_) (fun c=>?_)
   ·exact⟨by decide,kE (.inl ⟨p,List.mem_of_getElem? ep,c⟩) _ (same_upd nd1)⟩
   ·have nn':∀r∈ps.take i++ [p],0≤r.2:=fun r hr=>by
     rcases List.mem_append.mp hr with h | h
     ·exact nn r h
     ·have:r=p:=by simpa using h
      subst this
      omega
    refine ite2 (fun c2=>?_) (fun c2=>?_)
    ·refine(?_:let G_:Prop:=_;G_)
     intro G_
     obtain⟨o,ho,eo⟩:=dget_zero (H:=upd H d (.dK (enc (Nm.wof (ps.take i))))) p.1 (.inl upd_same)
     dsimp only[G_]
     refine⟨.inl ⟨_,.inl upd_same⟩,o,ho,?_⟩
     rw[eo]
     simp_all only[]
     refine⟨_,dput_enc _ _ upd_same (Nm.wof_nodup _) ?_,?_,nn',?_⟩
     ·have:=Nm.wof_len (ps.take i)
      rw[List.length_take] at this
      rw[sizeLine_eq]
      omega
     ·rw[upd_upd,if_pos c2]
      rfl
     ·exact⟨_,rfl⟩
    ·refine⟨by rw[if_neg c2],nn',?_⟩
     exact⟨_,rfl⟩
  ·intro σ H' p2_
   refine(?_:let G_:Prop:=_;G_)
   intro G_
   obtain⟨rfl,nn,z1,z2,rfl⟩:=p2_
   dsimp only[G_]
   rw[List.take_of_length_le (by omega)] at nn ⊢
   simp_all only[tRaise,spTW]
   have el:(enc (Nm.wof ps)).length=(Nm.wof ps).length:=enc_len _
   refine⟨_,upd_same,ite2 (fun z=>⟨by decide,kE (.inr ?_) _ (same_upd nd1)⟩) (fun z=>?_)⟩
   ·exact Nm.wof_nil.mp (List.eq_nil_of_length_eq_zero (by omega))
   ·have np:Nm.pos ps≠[]:=fun e=>by
     have:=Nm.wof_nil.mpr e
     exact z (by rw[el,this];rfl)
    have nb:¬Nm.bad ps:=fun b=>by
     rcases b with ⟨p,hp,c⟩ | c
     ·have:=nn p hp
      omega
     ·exact np c
    have T0:=Nm.tot_pos (show 0< (Nm.wof ps).length by omega) (Nm.wof_nodup ps) (Nm.wof_pos ps)
    have T1:=Nm.tot_pos_le (c:=10^12) (by decide) hb
    rw[←Nm.wof_tot] at T1
    have lw:=Nm.wof_len ps
    have ev:List.map (fun x:Key×V=>x.2) (enc (Nm.wof ps))=List.map V.int ((Nm.wof ps).map (·.2)):=by
     unfold enc
     rw[List.map_map,List.map_map]
     rfl
    refine⟨_,upd_same,_,ev,_,upd_same,Nm.wof_nodup ps,by omega,?_,?_,fun p H' s' np' r'=>?_⟩
    ·show Nm.tot (Nm.wof ps)≠0
     omega
    ·show Bt 5000 (Nm.tot (Nm.wof ps))
     exact Bt.of (10^16) (by omega) (by omega)
    ·exact kQ nb p H' ((same_upd nd1).trans s') (none_of (same_upd nd1) np') r'
theorem sc_power:FnScope ["base","exponent","product","turn"] ["base","exponent"] (defScope (top 23)):=⟨rfl,rfl,rfl,by decide +kernel,rfl,by decide +kernel,by decide +kernel⟩
theorem ok_pw (T:Txt K mg q_LuckError q_NoShare q_NoTable q_NoEnd q_TooMany q_NoStep q_NoPlay q_Course q_Play):Cal P w K mg base (CX1 P w) 1 "power" ["base","exponent"] spPw:=by
 refine T.d_power.cal (fun _ _ _ _ _ _=>us_2 fun _ _=>rfl) fun f fd F=>F.okC sc_power (fun vs H Q E h=>?_) (fun cdv A outer s H vs Q E hr h=>?_)
 ·obtain⟨_,_,rfl,_⟩:=h;rfl
 ·refine(?_:let G_:Prop:=_;G_)
  intro G_
  obtain⟨b,e,rfl,be,e10,hb,kk⟩:=h
  dsimp only[G_]
  have nd:=sc_power.nd
  refine⟨_,(pss_cons (ps_set (i:=2) nd rfl (Or.inl rfl) pe_int)
  (pss_cons (ps_for PassesOwn.never rfl (pi_range1 rfl T.z_range (pa_cons (pv 1) pa_nil (se rfl))) (pg_name (i:=3) nd rfl (Or.inl rfl)) (pss_cons (ps_if (pt_cmpR op_gt (pv 2) (pe_globI rfl T.c_MOST_BOTTOM) (nomark _)) (pss_one ps_break)
   pss_nil)
  (pss_one (ps_set (i:=2) nd rfl (Or.inl rfl) (pe_op op_mulB (pv 2) (pv 0))))))
  (pss_one (ps_ret (pv 2))))),?_⟩
  refine(?_:let q0_:TS:=_;let q1_:TS:=_;let q2_:TS:=_;tSeq q0_ (tSeq q1_ q2_) _ _ _)
  intro q0_ q1_ q2_
  have sl:=sizeLine_eq
  simp_all only[]
  refine⟨by omega,by omega,for_src (src_range (Ok:=fun _=>True)) (fun i σ H'=>H=H'∧∃z,σ=[some (.int (b:Int)),some (.int (e:Int)),some (.int ((b^i:Nat):Int)),z]) ⟨rfl,_,rfl⟩ (fun _ _ _ _ _=>trivial) ?_ ?_⟩
  ·intro i x σ H' H'' hi p6_ p7_
   refine(?_:let G_:Prop:=_;G_)
   intro G_
   obtain⟨rfl,z,rfl⟩:=p6_
   obtain⟨rfl,rfl⟩:=p7_
   dsimp only[G_]
   have b1:1≤b:=by omega
   have le:b^i≤b^e:=Nat.pow_le_pow_right b1 (by omega)
   simp_all only[]
   rw[if_neg (by omega)]
   refine⟨mulOkL (by omega) (by omega),?_,_,rfl⟩
   rw[Nat.pow_succ,Int.natCast_mul]
  ·intro σ H' p2_
   refine(?_:let G_:Prop:=_;G_)
   intro G_
   obtain⟨rfl,z,rfl⟩:=p2_
   dsimp only[G_]
   rw[Int.toNat_natCast]
   simp_all only[]
   exact kk
theorem sc_most_faces:FnScope ["part"] ["part"] (defScope (top 24)):=⟨rfl,rfl,rfl,by decide +kernel,rfl,by decide +kernel,by decide +kernel⟩
theorem ok_mf (T:Txt K mg q_LuckError q_NoShare q_NoTable q_NoEnd q_TooMany q_NoStep q_NoPlay q_Course q_Play):Cal P w K mg base (CX1 P w) 1 "most_faces" ["part"] spMf:=by
 refine T.d_most_faces.cal (fun _ _ _ _ _ _=>us_1 fun _=>rfl) fun f fd F=>F.okC sc_most_faces (fun vs H Q E h=>?_) (fun cdv A outer s H vs Q E hr h=>?_)
 ·obtain⟨_,_,rfl,_⟩:=h;rfl
 ·refine(?_:let G_:Prop:=_;G_)
  intro G_
  obtain⟨q,p,rfl,hq,kk⟩:=h
  dsimp only[G_]
  have nd:=sc_most_faces.nd
  refine⟨_,(pss_cons (ps_if (pt_cmpR op_eq (pe_ix ix_tupH (pv 0) pe_int (fun _ _=>rfl)) pe_str (nomark _)) (pss_one (ps_ret pe_int))
   pss_nil)
  (pss_cons (ps_if (pt_cmpR op_eq (pe_ix ix_tupH (pv 0) pe_int (fun _ _=>rfl)) pe_str (nomark _)) (pss_one (ps_ret (pe_ifExp (pt_cmpR op_gt (pe_ix ix_tupH (pv 0) pe_int (fun _ _=>rfl)) pe_int (nomark _)) pe_int pe_int)))
   pss_nil)
  (pss_cons (ps_if (pt_cmpR op_eq (pe_ix ix_tupH (pv 0) pe_int (fun _ _=>rfl)) pe_str (nomark _)) (pss_one (ps_ret (pe_op op_add (pe_callB (call_max2 rfl) (by rfl) T.z_max rfl (pa_cons (pe_ix ix_tupH (pv 0) pe_int (fun _ _=>rfl)) (pa_cons pe_int pa_nil (se rfl)) (se rfl)) (he:=se rfl) (hpl:=na rfl)) pe_int)))
   pss_nil)
  (pss_one (ps_ret (pe_ix ix_tupH (pv 0) (pe_un un_neg pe_int) (fun _ _=>rfl))))))),?_⟩
  refine(?_:let q0_:TS:=_;let q1_:TS:=_;let q2_:TS:=_;let q3_:TS:=_;tSeq q0_ (tSeq q1_ (tSeq q2_ q3_)) _ _ _)
  intro q0_ q1_ q2_ q3_
  cases p with
  | dice m s=>
   simp only[ptV] at hq
   simp_all only[hq]
   rw[if_neg (by decide +kernel),if_neg (by decide +kernel),if_neg (by decide +kernel)]
   exact⟨_,rfl,kk⟩
theorem sc_part_bottom:FnScope ["part"] ["part"] (defScope (top 25)):=⟨rfl,rfl,rfl,by decide +kernel,rfl,by decide +kernel,by decide +kernel⟩
theorem ok_bo (T:Txt K mg q_LuckError q_NoShare q_NoTable q_NoEnd q_TooMany q_NoStep q_NoPlay q_Course q_Play):Cal P w K mg base (CX1 P w) 2 "part_bottom" ["part"] spBo:=by
 have c_power:Cal P w K mg base (CX1 P w) 1 "power" ["base","exponent"] spPw:=ok_pw T
 have c_most_faces:Cal P w K mg base (CX1 P w) 1 "most_faces" ["part"] spMf:=ok_mf T
 refine T.d_part_bottom.cal (fun _ _ _ _ _ _=>us_1 fun _=>rfl) fun f fd F=>F.okC sc_part_bottom (fun vs H Q E h=>?_) (fun cdv A outer s H vs Q E hr h=>?_)
 ·obtain⟨_,_,rfl,_⟩:=h;rfl
 ·refine(?_:let G_:Prop:=_;G_)
  intro G_
  obtain⟨q,p,rfl,hq,g,hb,kk⟩:=h
  dsimp only[G_]
  have nd:=sc_part_bottom.nd
  refine⟨_,(pss_one (ps_ret (pe_cal c_power (hr.mono (by decide)) rfl strictP.pass (pa_cons (pe_ix ix_tupH (pv 0) (pe_un un_neg pe_int) (fun _ _=>rfl)) (pa_cons (pe_cal c_most_faces (hr.mono (by decide)) rfl strictP.pass (pa_cons (pv 0) pa_nil (se rfl)) (he:=se rfl) (hpl:=na rfl)) pa_nil (se rfl)) (se rfl)) (he:=se rfl) (hpl:=na rfl)))),?_⟩
  simp_all only[spPw,spMf]
  refine⟨_,hq,_,last_p p,p,hq,lst p,rfl,mst p,rfl,?_,?_,?_,?_⟩
  ·cases p with
   | _=>exact .inl g.1
  ·have:=mst_le g;omega
  ·have:lst p^mst p=bot p:=by cases p <;>rfl
   rw[this];exact hb
  ·have:lst p^mst p=bot p:=by cases p <;>rfl
   rw[this];exact kk
theorem sc_part_count:FnScope ["part","sides","low"] ["part"] (defScope (top 26)):=⟨rfl,rfl,rfl,by decide +kernel,rfl,by decide +kernel,by decide +kernel⟩
theorem ok_ct (T:Txt K mg q_LuckError q_NoShare q_NoTable q_NoEnd q_TooMany q_NoStep q_NoPlay q_Course q_Play):Cal P w K mg base (CX1 P w) 3 "part_count" ["part"] spCt:=by
 have c_most_faces:Cal P w K mg base (CX1 P w) 1 "most_faces" ["part"] spMf:=ok_mf T
 have c_part_bottom:Cal P w K mg base (CX1 P w) 2 "part_bottom" ["part"] spBo:=ok_bo T
 refine T.d_part_count.cal (fun _ _ _ _ _ _=>us_1 fun _=>rfl) fun f fd F=>F.okC sc_part_count (fun vs H Q E h=>?_) (fun cdv A outer s H vs Q E hr h=>?_)
 ·obtain⟨_,_,rfl,_⟩:=h;rfl
 ·refine(?_:let G_:Prop:=_;G_)
  intro G_
  obtain⟨q,p,rfl,hq,g,hb,kk⟩:=h
  dsimp only[G_]
  have nd:=sc_part_count.nd
  refine⟨_,(pss_cons (ps_set (i:=1) nd rfl (Or.inl rfl) (pe_ix ix_tupH (pv 0) (pe_un un_neg pe_int) (fun _ _=>rfl)))
  (pss_cons (ps_if (pt_cmpR op_eq (pe_ix ix_tupH (pv 0) pe_int (fun _ _=>rfl)) pe_str (nomark _)) (pss_cons (ps_set (i:=2) nd rfl (Or.inl rfl) (pe_callB (call_max2 rfl) (by rfl) T.z_max rfl (pa_cons (pe_callB (call_min2 rfl) (by rfl) T.z_min rfl (pa_cons (pe_ix ix_tupH (pv 0) pe_int (fun _ _=>rfl)) (pa_cons (pv 1) pa_nil (se rfl)) (se rfl)) (he:=se rfl) (hpl:=na rfl)) (pa_cons pe_int pa_nil (se rfl)) (se rfl)) (he:=se rfl) (hpl:=na rfl)))
  (pss_one (ps_ret (pe_op op_sub (pe_op op_add (pe_op op_mulB (pv 2) (pv 1)) (pv 1)) (pv 2)))))
   pss_nil)
  (pss_cons (ps_if (pt_cmpR op_eq (pe_ix ix_tupH (pv 0) pe_int (fun _ _=>rfl)) pe_str (nomark _)) (pss_one (ps_ret (pe_op op_add (pe_op op_mulB (pe_cal c_most_faces (hr.mono (by decide)) rfl strictP.pass (pa_cons (pv 0) pa_nil (se rfl)) (he:=se rfl) (hpl:=na rfl)) (pe_op op_sub (pv 1) pe_int)) pe_int)))
   pss_nil)
  (pss_one (ps_ret (pe_cal c_part_bottom (hr.mono (by decide)) rfl strictP.pass (pa_cons (pv 0) pa_nil (se rfl)) (he:=se rfl) (hpl:=na rfl))))))),?_⟩
  refine(?_:let q0_:TS:=_;let q1_:TS:=_;let q2_:TS:=_;let q3_:TS:=_;tSeq q0_ (tSeq q1_ (tSeq q2_ q3_)) _ _ _)
  intro q0_ q1_ q2_ q3_
  cases p with
  | dice m s=>
   simp only[ptV] at hq
   simp_all only[hq,spBo]
   refine⟨_,rfl,?_⟩
   rw[if_neg (by decide +kernel),if_neg (by decide +kernel)]
   exact⟨.dice m s,rfl,g,hb,kk⟩
theorem sc_check_size:FnScope ["pool","count","bottom","part"] ["pool"] (defScope (top 27)):=⟨rfl,rfl,rfl,by decide +kernel,rfl,by decide +kernel,by decide +kernel⟩
theorem ok_ck (T:Txt K mg q_LuckError q_NoShare q_NoTable q_NoEnd q_TooMany q_NoStep q_NoPlay q_Course q_Play):Cal P w K mg base (CX1 P w) 4 "check_size" ["pool"] spCk:=by
 have c_part_count:Cal P w K mg base (CX1 P w) 3 "part_count" ["part"] spCt:=ok_ct T
 have c_part_bottom:Cal P w K mg base (CX1 P w) 2 "part_bottom" ["part"] spBo:=ok_bo T
 refine T.d_check_size.cal (fun _ _ _ _ _ _=>us_1 fun _=>rfl) fun f fd F=>F.okX sc_check_size (fun vs H Q E h=>?_) (fun cdv A outer s H vs Q E hr h=>?_)
 ·obtain⟨_,_,rfl,_⟩:=h;rfl
 ·refine(?_:let G_:Prop:=_;G_)
  intro G_
  obtain⟨l,ps,rfl,hp,g,kk⟩:=h
  dsimp only[G_]
  have nd:=sc_check_size.nd
  have hd0:A.handled=none:=hr.hd
  refine⟨_,(pss_cons (ps_set (i:=1) nd rfl (Or.inl rfl) pe_int)
  (pss_cons (ps_set (i:=2) nd rfl (Or.inl rfl) pe_int)
  (pss_cons (ps_for PassesOwn.leaving rfl (pi_listK (K:=K) (pv 0)) (pg_name (i:=3) nd rfl (Or.inl rfl)) (pss_cons (ps_set (i:=1) nd rfl (Or.inl rfl) (pe_op op_mulB (pv 1) (pe_cal c_part_count (hr.mono (by decide)) rfl strictP.pass (pa_cons (pv 3) pa_nil (se rfl)) (he:=se rfl) (hpl:=na rfl))))
  (pss_one (ps_set (i:=2) nd rfl (Or.inl rfl) (pe_op op_mulB (pv 2) (pe_cal c_part_bottom (hr.mono (by decide)) rfl strictP.pass (pa_cons (pv 3) pa_nil (se rfl)) (he:=se rfl) (hpl:=na rfl)))))))
  (pss_one (ps_if (PW.pt (pw_or (pt_cmpR op_gt (pv 1) (pe_globI rfl T.c_MOST_THROWS) (nomark _)) (pw_or1 (pt_cmpR op_gt (pv 2) (pe_globI rfl T.c_MOST_BOTTOM) (nomark _))))) (pss_one (ps_raise rfl T.k_TooMany T.x_TooMany hd0 (pa_cons pe_str pa_nil (se rfl)) (he:=se rfl) (hpl:=na rfl)))
   pss_nil))))),?_⟩
  refine(?_:let q0_:TS:=_;let q1_:TS:=_;let q2_:TS:=_;let q3_:TS:=_;tSeq q0_ (tSeq q1_ (tSeq q2_ q3_)) _ _ _)
  intro q0_ q1_ q2_ q3_
  refine(?_:let G_:Prop:=_;G_)
  intro G_
  obtain⟨xs,hl,al⟩:=hp
  dsimp only[G_]
  have lx:=al.length
  simp_all only[]
  refine⟨⟨_,SqL.of hl⟩,for_src (src_list (Ok:=fun H'=>H=H') (fun H' e=>by subst e;exact SqL.of hl)) (fun i σ H'=>H=H'∧∃z,σ=[some (.ref l),some (.int ((prd ((ps.take i).map cnt):Nat):Int)),some (.int ((prd ((ps.take i).map bot):Nat):Int)),z]) ⟨rfl,_,rfl⟩ (fun _ _ _ _ h=>h.1) ?_ ?_⟩
  ·intro i x σ H' H'' hi p6_ p7_
   refine(?_:let G_:Prop:=_;G_)
   intro G_
   obtain⟨rfl,z,rfl⟩:=p6_
   obtain⟨rfl,ex⟩:=p7_
   obtain⟨p,ep,q,rfl,hq⟩:=al.get ex
   dsimp only[G_]
   obtain⟨hip,ep'⟩:=List.getElem?_eq_some_iff.mp ep
   have hm:p∈ps:=by rw[←ep'];exact List.getElem_mem hip
   refine(?_:let G_:Prop:=_;G_)
   intro G_
   obtain⟨gp,c1,b1⟩:=goodL_one g hm
   dsimp only[G_]
   have c0:=goodL_cnt g i
   have b0:=goodL_bot g i
   simp_all only[spCt,spBo]
   refine⟨p,hq,gp,b1,mulOkL (by omega) (by omega),p,hq,gp,b1,mulOkL (by omega) (by omega),?_,?_,_,rfl⟩
   ·rw[take_snoc hip,ep',List.map_append,List.map_cons,List.map_nil,prd_snoc,Int.natCast_mul]
   ·rw[take_snoc hip,ep',List.map_append,List.map_cons,List.map_nil,prd_snoc,Int.natCast_mul]
  ·intro σ H' p2_
   refine(?_:let G_:Prop:=_;G_)
   intro G_
   obtain⟨rfl,z,rfl⟩:=p2_
   dsimp only[G_]
   rw[lx,List.take_of_length_le (Nat.le_refl _)]
   have c0:=g.2.1
   have b0:=g.2.2
   simp_all only[]
   rw[if_neg (by omega),if_neg (by omega)]
   exact kk
theorem sc_dice_faces:FnScope ["dice","sides","found","turn","longer","faces"] ["dice","sides"] (defScope (top 28)):=⟨rfl,rfl,rfl,by decide +kernel,rfl,by decide +kernel,by decide +kernel⟩
theorem ok_df (T:Txt K mg q_LuckError q_NoShare q_NoTable q_NoEnd q_TooMany q_NoStep q_NoPlay q_Course q_Play):Cal P w K mg base (CX1 P w) 1 "dice_faces" ["dice","sides"] spDf:=by
 refine T.d_dice_faces.cal (fun _ _ _ _ _ _=>us_2 fun _ _=>rfl) fun f fd F=>F.okC sc_dice_faces (fun vs H Q E h=>?_) (fun cdv A outer s H vs Q E hr h=>?_)
 ·obtain⟨_,_,rfl,_⟩:=h;rfl
 ·refine(?_:let G_:Prop:=_;G_)
  intro G_
  obtain⟨d,s',rfl,s1,s20,d6,hd,kk⟩:=h
  dsimp only[G_]
  have nd:=sc_dice_faces.nd
  refine⟨_,(pss_cons (ps_set (i:=2) nd rfl (Or.inl rfl) (pe_lst (pa_cons (pe_lst pa_nil) pa_nil (se rfl))))
  (pss_cons (ps_for PassesOwn.never rfl (pi_range1 rfl T.z_range (pa_cons (pv 0) pa_nil (se rfl))) (pg_name (i:=3) nd rfl (Or.inl rfl)) (pss_cons (ps_set (i:=4) nd rfl (Or.inl rfl) (pe_lst pa_nil))
  (pss_cons (ps_for PassesOwn.never rfl (pi_listK (K:=K) (pv 2)) (pg_name (i:=5) nd rfl (Or.inr rfl)) (pss_one (ps_expr (pe_bm PySem.F.plainAttrs_list PySem.F.slot_list_extend PySem.F.type_list_extend mt_extend.r (pv 4) (pa_cons (pe_comp rfl (N:=["dice","sides","found","turn","longer","faces"]) (so:=defScope (top 28)) (N':=["face","faces"]) (k:=1) (fr:=[5]) rfl rfl ⟨rfl,by decide +kernel,by decide +kernel,by decide +kernel,rfl,by decide +kernel,by decide +kernel⟩ (pi_range2 rfl T.z_range (pa_cons pe_int (pa_cons (pe_op op_add (pv 1) pe_int) pa_nil (se rfl)) (se rfl))) (fun _ _ _ _ _=>(pg_name (i:=0) (show(["face","faces"]:List Str).Nodup by decide +kernel) rfl (Or.inl rfl))) (fun _ _ _ _ _=>pts_nil)
   (fun _ _ _ _ _=>(pe_op op_cat (pv 1) (pe_lst (pa_cons (pv 0) pa_nil (se rfl)))))) pa_nil (se rfl))))))
  (pss_one (ps_set (i:=2) nd rfl (Or.inl rfl) (pv 4))))))
  (pss_one (ps_ret (pv 2))))),?_⟩
  refine(?_:let q0_:TS:=_;let q1_:TS:=_;let q2_:TS:=_;tSeq q0_ (tSeq q1_ q2_) _ _ _)
  intro q0_ q1_ q2_
  have sl:=sizeLine_eq
  simp_all only[]
  refine⟨Nat.zero_le _,fun e0 m0=>⟨by decide,fun l0 n0=>⟨by omega,by omega,?_⟩⟩⟩
  have s0:Same H (upd (upd H e0 (.lst [])) l0 (.lst [.ref e0])):=(same_upd m0).trans (same_upd n0)
  refine for_src (src_range (Ok:=fun _=>True)) (fun i σ H'=>Same H H'∧∃l xs z z' z'',H' l=some (.lst xs)∧Al (Fa H') (dcF s' i) xs∧σ=[some (.int (d:Int)),some (.int (s':Int)),some (.ref l),z,z',z'']) ?_ (fun _ _ _ _ _=>trivial) ?_ ?_
  ·exact⟨s0,l0,_,_,_,_,upd_same,.one ⟨e0,rfl,same_upd n0 _ _ upd_same⟩,rfl⟩
  ·intro i x σ H' H'' hi p6_ p7_
   refine(?_:let G_:Prop:=_;G_)
   intro G_
   obtain⟨sm,l,xs,z,z',z'',hl,al,rfl⟩:=p6_
   obtain⟨rfl,rfl⟩:=p7_
   dsimp only[G_]
   have lx:=al.length
   rw[dcF_len] at lx
   have hle:s'^ (i+1)≤1296:=Nat.le_trans (Nat.pow_le_pow_right s1 (by omega)) hd
   have hle0:s'^i≤1296:=Nat.le_trans (Nat.pow_le_pow_right s1 (by omega)) hd
   change tSeq _ _ _ [some (.int (d:Int)),some (.int (s':Int)),some (.ref l),some (.int (0+i)),z',z''] H''
   refine seq_gen (fun σ' H1=>Same H'' H1∧∃m,H'' m=none∧H1 m=some (.lst [])∧σ'=[some (.int (d:Int)),some (.int (s':Int)),some (.ref l),some (.int (0+i)),some (.ref m),z'']) ?_ (fun N hN=>?_)
   case refine_2=>
    simp_all only[]
    exact⟨Nat.zero_le _,fun m nm=>hN _ _ ⟨same_upd nm,m,nm,upd_same,rfl⟩⟩
   intro _ H1 p2_
   refine(?_:let G_:Prop:=_;G_)
   intro G_
   obtain⟨sm1,m,nm,hm,rfl⟩:=p2_
   dsimp only[G_]
   change tSeq _ _ _ [some (.int (d:Int)),some (.int (s':Int)),some (.ref l),some (.int (0+i)),some (.ref m),z''] H1
   refine seq_gen (fun σ' H2=>Same H'' H2∧∃ys,H2 m=some (.lst ys)∧Al (Fa H2) (dcF s' (i+1)) ys∧∃z,σ'=[some (.int (d:Int)),some (.int (s':Int)),some (.ref l),some (.int (0+i)),some (.ref m),z]) ?_ (fun N hN=>?_)
   case refine_2=>
    simp_all only[]
    refine⟨⟨_,SqL.of (sm1 _ _ hl)⟩,for_src (src_list (Ok:=Same H'') (fun H2 s2=>SqL.of (s2 _ _ hl)))
     (fun j σ H2=>Same H'' H2∧∃ys z,H2 m=some (.lst ys)∧ys.length=j*s'∧Al (Fa (hid H2 m)) (((dcF s' i).take j).flatMap fun f=>(List.range s').map fun i:Nat=>f++ [((i:Nat):Int)+1]) ys∧σ=[some (.int (d:Int)),some (.int (s':Int)),some (.ref l),some (.int (0+i)),some (.ref m),z])
     ⟨sm1,[],_,hm,by simp,trivial,rfl⟩ (fun _ _ _ _ h=>h.1) ?_ ?_⟩
    ·intro j x σ H2 H3 hj p6_ p7_
     refine(?_:let G_:Prop:=_;G_)
     intro G_
     obtain⟨sm2,ys,z,hm2,ly,ay,rfl⟩:=p6_
     obtain⟨rfl,ex⟩:=p7_
     obtain⟨f,ef,q,rfl,hq⟩:=al.get ex
     dsimp only[G_]
     obtain⟨hjf,ef'⟩:=List.getElem?_eq_some_iff.mp ef
     have fl:=(dcF_row s' i f (by rw[←ef'];exact List.getElem_mem hjf)).1
     have hq2:=sm2 _ _ hq
     simp_all only[rExtend]
     refine⟨.inl ⟨rfl,_,SqL.of hm2⟩,by omega,by omega,by omega,by omega,?_⟩
     rw[show((s':Int)+1 - 1).toNat=s' by omega]
     refine comp_map src_range (fun _ _ _ _ h=>by rw[h.1];exact Same.refl _) (by omega) (fun k y H4=>Fa (hid H4 m) (f++ [((k:Nat):Int)+1]) y) (fun k y H4 H5 s5 h=>h.mono (hid_mono s5)) ?_ ?_
     ·rintro k x w0 H4 H5 Q2 hk s4 ⟨rfl,rfl⟩ kq
      simp_all only[rCat]
      refine⟨by decide,fun a1 n1=>⟨_,same_upd n1 _ _ (s4 _ _ hq2),_,upd_same,by rw[List.length_map];simp only[List.length_cons,List.length_nil];omega,fun a2 n2=>kq _ _ ((same_upd n1).trans (same_upd n2)) ⟨a2,rfl,?_⟩⟩⟩
      have ne:a2≠m:=fun e=>by
       subst e
       rw[same_upd n1 _ _ (s4 _ _ hm2)] at n2
       cases n2
      rw[hid_ne ne,upd_same,List.map_append,Int.add_comm]
      rfl
     ·intro zs H4 s4 lz hz D n1 n2
      have hm4:=s4 _ _ hm2
      have jm:j*s'≤s'^ (i+1):=by rw[Nat.pow_succ];exact Nat.mul_le_mul_right _ (by omega)
      have szz:∀{k:Nat},k=j*s'+s'→k≤sizeLine:=fun e=>by omega
      refine⟨_,same_upd n2 _ _ hm4,_,upd_same,szz (by rw[ly,lz]),?_⟩
      have s5:Same H3 (upd H4 D (.lst zs)):=s4.trans (same_upd n2)
      refine⟨same_upd_of (sm2.trans s5) nm,_,upd_same,by rw[List.length_append,ly,lz,Nat.succ_mul],?_,_,rfl⟩
      rw[hid_hid,List.take_add_one,ef,List.flatMap_append]
      refine Al.append (ay.imp fun _ _ h=>h.mono (hid_mono s5)) ?_
      simp only[Option.toList,List.flatMap_cons,List.flatMap_nil,List.append_nil]
      refine Al.of (by rw[List.length_map,List.length_range];exact lz) fun k y g e1 e2=>?_
      rw[List.getElem?_map] at e2
      refine(?_:let G_:Prop:=_;G_)
      intro G_
      obtain⟨k',ek,rfl⟩:=Option.map_eq_some_iff.mp e2
      dsimp only[G_]
      obtain⟨hk1,hk2⟩:=List.getElem?_eq_some_iff.mp ek
      rw[List.getElem_range] at hk2
      subst hk2
      exact(hz _ _ e1).mono (hid_mono (same_upd n2))
    ·intro σ H2 p2_
     refine(?_:let G_:Prop:=_;G_)
     intro G_
     obtain⟨sm2,ys,z,hm2,ly,ay,rfl⟩:=p2_
     dsimp only[G_]
     refine hN _ _ ⟨sm2,ys,hm2,?_,_,rfl⟩
     rw[lx,←dcF_len s' i,List.take_of_length_le (Nat.le_refl _)] at ay
     exact ay.imp fun _ _ h=>h.mono hid_sub
   intro _ H2 p2_
   refine(?_:let G_:Prop:=_;G_)
   intro G_
   obtain⟨sm2,ys,hm2,ay,z,rfl⟩:=p2_
   dsimp only[G_]
   simp_all only[]
   first | exact⟨sm.trans sm2,m,_,hm2,ay,rfl,⟨_,rfl⟩,⟨_,rfl⟩,⟨_,rfl⟩⟩ | exact⟨sm.trans sm2,m,_,hm2,ay,rfl,_,_,rfl⟩ | exact⟨sm.trans sm2,m,_,hm2,ay,rfl,⟨_,rfl⟩,_,rfl⟩ | exact⟨sm.trans sm2,m,_,hm2,ay,rfl,_,rfl⟩
  ·intro σ H' p2_
   refine(?_:let G_:Prop:=_;G_)
   intro G_
   obtain⟨sm,l,xs,z,z',z'',hl,al,rfl⟩:=p2_
   dsimp only[G_]
   rw[Int.toNat_natCast] at al
   simp_all only[]
   exact kk _ _ _ sm hl al
theorem sc_again_faces:FnScope ["low","sides","found","face"] ["low","sides"] (defScope (top 29)):=⟨rfl,rfl,rfl,by decide +kernel,rfl,by decide +kernel,by decide +kernel⟩
theorem ok_af (T:Txt K mg q_LuckError q_NoShare q_NoTable q_NoEnd q_TooMany q_NoStep q_NoPlay q_Course q_Play):Cal P w K mg base (CX1 P w) 1 "again_faces" ["low","sides"] spNo:=by
 refine T.d_again_faces.cal (fun _ _ _ _ _ _=>us_2 fun _ _=>rfl) fun f fd F=>F.okC sc_again_faces (fun vs H Q E h=>h.elim) (fun cdv A outer s H vs Q E hr h=>h.elim)
theorem sc_burst_faces:FnScope ["most","sides","found","ahead"] ["most","sides"] (defScope (top 30)):=⟨rfl,rfl,rfl,by decide +kernel,rfl,by decide +kernel,by decide +kernel⟩
theorem ok_bf (T:Txt K mg q_LuckError q_NoShare q_NoTable q_NoEnd q_TooMany q_NoStep q_NoPlay q_Course q_Play):Cal P w K mg base (CX1 P w) 1 "burst_faces" ["most","sides"] spNo:=by
 refine T.d_burst_faces.cal (fun _ _ _ _ _ _=>us_2 fun _ _=>rfl) fun f fd F=>F.okC sc_burst_faces (fun vs H Q E h=>h.elim) (fun cdv A outer s H vs Q E hr h=>h.elim)
theorem sc_part_faces:FnScope ["part"] ["part"] (defScope (top 31)):=⟨rfl,rfl,rfl,by decide +kernel,rfl,by decide +kernel,by decide +kernel⟩
theorem ok_pf (T:Txt K mg q_LuckError q_NoShare q_NoTable q_NoEnd q_TooMany q_NoStep q_NoPlay q_Course q_Play):Cal P w K mg base (CX1 P w) 2 "part_faces" ["part"] spPf:=by
 have c_most_faces:Cal P w K mg base (CX1 P w) 1 "most_faces" ["part"] spMf:=ok_mf T
 have c_dice_faces:Cal P w K mg base (CX1 P w) 1 "dice_faces" ["dice","sides"] spDf:=ok_df T
 have c_again_faces:Cal P w K mg base (CX1 P w) 1 "again_faces" ["low","sides"] spNo:=ok_af T
 have c_burst_faces:Cal P w K mg base (CX1 P w) 1 "burst_faces" ["most","sides"] spNo:=ok_bf T
 refine T.d_part_faces.cal (fun _ _ _ _ _ _=>us_1 fun _=>rfl) fun f fd F=>F.okC sc_part_faces (fun vs H Q E h=>?_) (fun cdv A outer s H vs Q E hr h=>?_)
 ·obtain⟨_,_,rfl,_⟩:=h;rfl
 ·refine(?_:let G_:Prop:=_;G_)
  intro G_
  obtain⟨q,p,rfl,hq,g,hc,kk⟩:=h
  dsimp only[G_]
  have nd:=sc_part_faces.nd
  refine⟨_,(pss_cons (ps_if (pt_cmpR op_eq (pe_ix ix_tupH (pv 0) pe_int (fun _ _=>rfl)) pe_str (nomark _)) (pss_one (ps_ret (pe_lst (pa_cons (pe_lst pa_nil) pa_nil (se rfl)))))
   pss_nil)
  (pss_cons (ps_if (pt_cmpR op_eq (pe_ix ix_tupH (pv 0) pe_int (fun _ _=>rfl)) pe_str (nomark _)) (pss_one (ps_ret (pe_cal c_again_faces (hr.mono (by decide)) rfl strictP.pass (pa_cons (pe_ix ix_tupH (pv 0) pe_int (fun _ _=>rfl)) (pa_cons (pe_ix ix_tupH (pv 0) pe_int (fun _ _=>rfl)) pa_nil (se rfl)) (se rfl)) (he:=se rfl) (hpl:=na rfl))))
   pss_nil)
  (pss_cons (ps_if (pt_cmpR op_eq (pe_ix ix_tupH (pv 0) pe_int (fun _ _=>rfl)) pe_str (nomark _)) (pss_one (ps_ret (pe_cal c_burst_faces (hr.mono (by decide)) rfl strictP.pass (pa_cons (pe_cal c_most_faces (hr.mono (by decide)) rfl strictP.pass (pa_cons (pv 0) pa_nil (se rfl)) (he:=se rfl) (hpl:=na rfl)) (pa_cons (pe_ix ix_tupH (pv 0) pe_int (fun _ _=>rfl)) pa_nil (se rfl)) (se rfl)) (he:=se rfl) (hpl:=na rfl))))
   pss_nil)
  (pss_one (ps_ret (pe_cal c_dice_faces (hr.mono (by decide)) rfl strictP.pass (pa_cons (pe_ix ix_tupH (pv 0) (pe_un un_neg pe_int) (fun _ _=>rfl)) (pa_cons (pe_ix ix_tupH (pv 0) (pe_un un_neg pe_int) (fun _ _=>rfl)) pa_nil (se rfl)) (se rfl)) (he:=se rfl) (hpl:=na rfl))))))),?_⟩
  refine(?_:let q0_:TS:=_;let q1_:TS:=_;let q2_:TS:=_;let q3_:TS:=_;tSeq q0_ (tSeq q1_ (tSeq q2_ q3_)) _ _ _)
  intro q0_ q1_ q2_ q3_
  cases p with
  | dice m s=>
   simp only[ptV] at hq
   simp_all only[hq,spDf]
   rw[if_neg (by decide +kernel),if_neg (by decide +kernel),if_neg (by decide +kernel)]
   refine⟨_,rfl,_,rfl,m,rfl,s,rfl,g.1,g.2.1,g.2.2,hc,kk⟩
theorem sc_value_of_pools:FnScope ["part","faces"] ["part","faces"] (defScope (top 32)):=⟨rfl,rfl,rfl,by decide +kernel,rfl,by decide +kernel,by decide +kernel⟩
theorem ok_vo (T:Txt K mg q_LuckError q_NoShare q_NoTable q_NoEnd q_TooMany q_NoStep q_NoPlay q_Course q_Play):Cal P w K mg base (CX1 P w) 1 "value_of_pools" ["part","faces"] spVo:=by
 refine T.d_value_of_pools.cal (fun _ _ _ _ _ _=>us_2 fun _ _=>rfl) fun f fd F=>F.okC sc_value_of_pools (fun vs H Q E h=>?_) (fun cdv A outer s H vs Q E hr h=>?_)
 ·obtain⟨_,_,_,_,rfl,_⟩:=h;rfl
 ·refine(?_:let G_:Prop:=_;G_)
  intro G_
  obtain⟨q,p,l,fs,rfl,hq,hl,g,hf,kk⟩:=h
  dsimp only[G_]
  have nd:=sc_value_of_pools.nd
  refine⟨_,(pss_cons (ps_if (pt_cmpR op_eq (pe_ix ix_tupH (pv 0) pe_int (fun _ _=>rfl)) pe_str (nomark _)) (pss_one (ps_ret (pe_ix ix_tupH (pv 0) pe_int (fun _ _=>rfl))))
   pss_nil)
  (pss_cons (ps_if (pt_cmpR op_eq (pe_ix ix_tupH (pv 0) pe_int (fun _ _=>rfl)) pe_str (nomark _)) (pss_one (ps_ret (pe_callB (call_sum_lK (K:=K)) (by rfl) T.z_sum rfl (pa_cons (pe_slice (sl_listK (K:=K)) (pe_sortRK (K:=K) rfl T.z_sorted (pv 1) pe_bl (n1:=rfl)) po_none (po_some (pe_ix ix_tupH (pv 0) pe_int (fun _ _=>rfl)))) pa_nil (se rfl)) (he:=se rfl) (hpl:=na rfl))))
   pss_nil)
  (pss_cons (ps_if (pt_cmpR op_eq (pe_ix ix_tupH (pv 0) pe_int (fun _ _=>rfl)) pe_str (nomark _)) (pss_one (ps_ret (pe_callB (call_sum_lK (K:=K)) (by rfl) T.z_sum rfl (pa_cons (pe_slice (sl_listK (K:=K)) (pe_callB (call_sorted_lK (K:=K)) (by rfl) T.z_sorted rfl (pa_cons (pv 1) pa_nil (se rfl)) (he:=se rfl) (hpl:=na rfl)) po_none (po_some (pe_ix ix_tupH (pv 0) pe_int (fun _ _=>rfl)))) pa_nil (se rfl)) (he:=se rfl) (hpl:=na rfl))))
   pss_nil)
  (pss_cons (ps_if (pt_cmpR op_eq (pe_ix ix_tupH (pv 0) pe_int (fun _ _=>rfl)) pe_str (nomark _)) (pss_one (ps_ret (pe_callB call_lenL (by rfl) T.z_len PySem.boot_len (pa_cons (pe_comp rfl (N:=["part","faces"]) (so:=defScope (top 32)) (N':=["face","part"]) (k:=1) (fr:=[0]) rfl rfl ⟨rfl,by decide +kernel,by decide +kernel,by decide +kernel,rfl,by decide +kernel,by decide +kernel⟩ (pi_listK (K:=K) (pv 1)) (fun _ _ _ _ _=>(pg_name (i:=0) (show(["face","part"]:List Str).Nodup by decide +kernel) rfl (Or.inl rfl))) (fun _ _ _ _ _=>(pts_one (pt_cmpR op_ge (pv 0) (pe_ix ix_tupH (pv 1) pe_int (fun _ _=>rfl)) (nomark _))))
   (fun _ _ _ _ _=>(pv 0))) pa_nil (se rfl)) (he:=se rfl) (hpl:=na rfl))))
   pss_nil)
  (pss_cons (ps_if (pt_cmpR op_eq (pe_ix ix_tupH (pv 0) pe_int (fun _ _=>rfl)) pe_str (nomark _)) (pss_one (ps_ret (pe_ix ix_listH (pv 1) (pe_un un_neg pe_int) (fun _ _=>rfl))))
   pss_nil)
  (pss_one (ps_ret (pe_callB (call_sum_lK (K:=K)) (by rfl) T.z_sum rfl (pa_cons (pv 1) pa_nil (se rfl)) (he:=se rfl) (hpl:=na rfl))))))))),?_⟩
  refine(?_:let q0_:TS:=_;let q1_:TS:=_;let q2_:TS:=_;let q3_:TS:=_;let q4_:TS:=_;let q5_:TS:=_;tSeq q0_ (tSeq q1_ (tSeq q2_ (tSeq q3_ (tSeq q4_ q5_)))) _ _ _)
  intro q0_ q1_ q2_ q3_ q4_ q5_
  have sl:=sizeLine_eq
  have fl:=(ptF_row g fs hf).2
  have ml:=mst_le g
  cases p with
  | dice m s=>
   simp only[ptV] at hq
   simp_all only[hq]
   rw[if_neg (by decide +kernel),if_neg (by decide +kernel),if_neg (by decide +kernel),if_neg (by decide +kernel),if_neg (by decide +kernel)]
   exact⟨fs,SqL.of hl,kk _ (Same.refl _)⟩
theorem sc_sides_product:FnScope ["part","faces","product","face"] ["part","faces"] (defScope (top 34)):=⟨rfl,rfl,rfl,by decide +kernel,rfl,by decide +kernel,by decide +kernel⟩
theorem ok_sp (T:Txt K mg q_LuckError q_NoShare q_NoTable q_NoEnd q_TooMany q_NoStep q_NoPlay q_Course q_Play):Cal P w K mg base (CX1 P w) 1 "sides_product" ["part","faces"] spSp:=by
 refine T.d_sides_product.cal (fun _ _ _ _ _ _=>us_2 fun _ _=>rfl) fun f fd F=>F.okC sc_sides_product (fun vs H Q E h=>?_) (fun cdv A outer s H vs Q E hr h=>?_)
 ·obtain⟨_,_,_,_,rfl,_⟩:=h;rfl
 ·refine(?_:let G_:Prop:=_;G_)
  intro G_
  obtain⟨q,p,l,fs,rfl,hq,hl,g,hf,kk⟩:=h
  dsimp only[G_]
  have nd:=sc_sides_product.nd
  refine⟨_,(pss_cons (ps_set (i:=2) nd rfl (Or.inl rfl) pe_int)
  (pss_cons (ps_for PassesOwn.never rfl (pi_listK (K:=K) (pv 1)) (pg_name (i:=3) nd rfl (Or.inl rfl)) (pss_one (ps_set (i:=2) nd rfl (Or.inl rfl) (pe_op op_mulB (pv 2) (pe_ix ix_tupH (pv 0) (pe_un un_neg pe_int) (fun _ _=>rfl))))))
  (pss_one (ps_ret (pv 2))))),?_⟩
  refine(?_:let q0_:TS:=_;let q1_:TS:=_;let q2_:TS:=_;tSeq q0_ (tSeq q1_ q2_) _ _ _)
  intro q0_ q1_ q2_
  have fl:=(ptF_row g fs hf).2
  have ml:=mst_le g
  have l99:=lst_le g
  have s20:=(sd_pos g).2
  have e0:0<fs.length→lst p=sd p:=fun h=>by
   cases p with
   | _=>rfl
  simp_all only[]
  refine⟨⟨_,SqL.of hl⟩,for_src (src_list (Ok:=fun H'=>H=H') (fun H' e=>by subst e;exact SqL.of hl)) (fun i σ H'=>H=H'∧∃z,σ=[some (.ref q),some (.ref l),some (.int ((sd p^i:Nat):Int)),z]) ⟨rfl,_,rfl⟩ (fun _ _ _ _ h=>h.1) ?_ ?_⟩
  ·intro i x σ H' H'' hi p6_ p7_
   refine(?_:let G_:Prop:=_;G_)
   intro G_
   obtain⟨rfl,z,rfl⟩:=p6_
   obtain⟨rfl,ex⟩:=p7_
   dsimp only[G_]
   rw[List.length_map] at hi
   have le:=pow_small (e:=i) s20 (by omega)
   have e1:=e0 (by omega)
   simp_all only[]
   refine⟨_,hq,_,last_p p,?_⟩
   simp_all only[]
   refine⟨mulOkL (by omega) (by omega),?_,_,rfl⟩
   rw[Nat.pow_succ,Int.natCast_mul,e1]
  ·intro σ H' p2_
   refine(?_:let G_:Prop:=_;G_)
   intro G_
   obtain⟨rfl,z,rfl⟩:=p2_
   dsimp only[G_]
   rw[List.length_map]
   simp_all only[]
   exact kk
theorem sc_part_throws:FnScope ["part"] ["part"] (defScope (top 35)):=⟨rfl,rfl,rfl,by decide +kernel,rfl,by decide +kernel,by decide +kernel⟩
theorem ok_pt (T:Txt K mg q_LuckError q_NoShare q_NoTable q_NoEnd q_TooMany q_NoStep q_NoPlay q_Course q_Play):Cal P w K mg base (CX1 P w) 3 "part_throws" ["part"] spPt:=by
 have c_part_faces:Cal P w K mg base (CX1 P w) 2 "part_faces" ["part"] spPf:=ok_pf T
 have c_value_of_pools:Cal P w K mg base (CX1 P w) 1 "value_of_pools" ["part","faces"] spVo:=ok_vo T
 have c_sides_product:Cal P w K mg base (CX1 P w) 1 "sides_product" ["part","faces"] spSp:=ok_sp T
 refine T.d_part_throws.cal (fun _ _ _ _ _ _=>us_1 fun _=>rfl) fun f fd F=>F.okC sc_part_throws (fun vs H Q E h=>?_) (fun cdv A outer s H vs Q E hr h=>?_)
 ·obtain⟨_,_,rfl,_⟩:=h;rfl
 ·refine(?_:let G_:Prop:=_;G_)
  intro G_
  obtain⟨q,p,rfl,hq,g,hc,kk⟩:=h
  dsimp only[G_]
  have nd:=sc_part_throws.nd
  refine⟨_,(pss_one (ps_ret (pe_comp rfl (N:=["part"]) (so:=defScope (top 35)) (N':=["faces","part"]) (k:=1) (fr:=[0]) rfl rfl ⟨rfl,by decide +kernel,by decide +kernel,by decide +kernel,rfl,by decide +kernel,by decide +kernel⟩ (pi_listK (K:=K) (pe_cal c_part_faces (hr.mono (by decide)) rfl strictP.pass (pa_cons (pv 0) pa_nil (se rfl)) (he:=se rfl) (hpl:=na rfl))) (fun _ _ _ _ _=>(pg_name (i:=0) (show(["faces","part"]:List Str).Nodup by decide +kernel) rfl (Or.inl rfl))) (fun _ _ _ _ _=>pts_nil)
   (fun _ _ _ _ _=>(pe_tupS (pa_cons (pv 0) (pa_cons (pe_cal c_value_of_pools (hr.mono (by decide)) rfl strictP.pass (pa_cons (pv 1) (pa_cons (pv 0) pa_nil (se rfl)) (se rfl)) (he:=se rfl) (hpl:=na rfl)) (pa_cons (pe_cal c_sides_product (hr.mono (by decide)) rfl strictP.pass (pa_cons (pv 1) (pa_cons (pv 0) pa_nil (se rfl)) (se rfl)) (he:=se rfl) (hpl:=na rfl)) pa_nil (se rfl)) (se rfl)) (se rfl))))))),?_⟩
  have sl:=sizeLine_eq
  simp_all only[spPf]
  refine⟨p,hq,g,hc,fun l H1 xs s1 hl al=>⟨⟨_,SqL.of hl⟩,?_⟩⟩
  have lx:=al.length
  rw[ptF_len] at lx
  refine comp_map (src_list (fun H2 s2=>SqL.of (s2 _ _ hl))) (fun _ _ _ _ h=>by rw[h.1];exact Same.refl _) (by omega) (fun i y H2=>∀f,(ptF p)[i]?=some f→TR (fun _=>none) H2 (f,val p f,sd p^f.length) y) (fun i y H2 H3 s3 h f e=>(h f e).mono s3) ?_ ?_
  ·rintro i x w0 H2 H3 Q2 hi s2 ⟨rfl,ex⟩ kq
   refine(?_:let G_:Prop:=_;G_)
   intro G_
   obtain⟨fs,ef,b,rfl,hb⟩:=al.get ex
   dsimp only[G_]
   have hf:fs∈ptF p:=List.mem_of_getElem? ef
   have hq2:=s2 _ _ (s1 _ _ hq)
   have hb2:=s2 _ _ hb
   simp_all only[spVo,spSp]
   refine⟨p,hq2,fs,hb2,g,hf,fun H4 s4=>⟨p,s4 _ _ hq2,fs,s4 _ _ hb2,g,hf,by decide,fun a H5 s5 na e5=>kq _ _ (s4.trans s5) fun f e=>?_⟩⟩
   rw[ef] at e
   cases e
   exact⟨a,b,rfl,e5,s5 _ _ (s4 _ _ hb2),rfl⟩
  ·intro ys H2 s2 ly hy D n1 n2
   refine kk _ _ _ (s1.trans (s2.trans (same_upd n2))) upd_same ?_
   refine Al.of (by unfold ptR;rw[List.length_map,ptF_len];omega) fun i y r e1 e2=>?_
   unfold ptR at e2
   rw[List.getElem?_map] at e2
   refine(?_:let G_:Prop:=_;G_)
   intro G_
   obtain⟨f,ef,rfl⟩:=Option.map_eq_some_iff.mp e2
   dsimp only[G_]
   exact(hy i y e1 f ef).mono (same_upd n2)
theorem sc_throws_by_bottom:FnScope ["pool","found","part","behind","longer","faces","value","bottom"] ["pool"] (defScope (top 36)):=⟨rfl,rfl,rfl,by decide +kernel,rfl,by decide +kernel,by decide +kernel⟩
theorem ok_tb (T:Txt K mg q_LuckError q_NoShare q_NoTable q_NoEnd q_TooMany q_NoStep q_NoPlay q_Course q_Play):Cal P w K mg base (CX1 P w) 5 "throws_by_bottom" ["pool"] spTb:=by
 have c_check_size:Cal P w K mg base (CX1 P w) 4 "check_size" ["pool"] spCk:=ok_ck T
 have c_part_throws:Cal P w K mg base (CX1 P w) 3 "part_throws" ["part"] spPt:=ok_pt T
 refine T.d_throws_by_bottom.cal (fun _ _ _ _ _ _=>us_1 fun _=>rfl) fun f fd F=>F.okC sc_throws_by_bottom (fun vs H Q E h=>?_) (fun cdv A outer s H vs Q E hr h=>?_)
 ·obtain⟨_,_,rfl,_⟩:=h;rfl
 ·refine(?_:let G_:Prop:=_;G_)
  intro G_
  obtain⟨a,ps,rfl,hp,g,l4,kk⟩:=h
  dsimp only[G_]
  clear G_
  have nd:=sc_throws_by_bottom.nd
  refine⟨_,(pss_cons (ps_expr (pe_cal c_check_size (hr.mono (by decide)) rfl strictP.pass (pa_cons (pv 0) pa_nil (se rfl)) (he:=se rfl) (hpl:=na rfl)))
  (pss_cons (ps_set (i:=1) nd rfl (Or.inl rfl) (pe_lst (pa_cons (pe_tupS (pa_cons (pe_lst pa_nil) (pa_cons pe_int (pa_cons pe_int pa_nil (se rfl)) (se rfl)) (se rfl))) pa_nil (se rfl))))
  (pss_cons (ps_for PassesOwn.never rfl (pi_listK (K:=K) (pv 0)) (pg_name (i:=2) nd rfl (Or.inl rfl)) (pss_cons (ps_set (i:=3) nd rfl (Or.inl rfl) (pe_cal c_part_throws (hr.mono (by decide)) rfl strictP.pass (pa_cons (pv 2) pa_nil (se rfl)) (he:=se rfl) (hpl:=na rfl)))
  (pss_cons (ps_set (i:=4) nd rfl (Or.inl rfl) (pe_lst pa_nil))
  (pss_cons (ps_for PassesOwn.never rfl (pi_listK (K:=K) (pv 1)) (pg_tupK (K:=K) (n:=3) rfl (pgs_cons (pg_name (i:=5) nd rfl (Or.inr rfl)) (pgs_cons (pg_name (i:=6) nd rfl (Or.inr rfl)) (pgs_cons (pg_name (i:=7) nd rfl (Or.inr rfl)) pgs_nil)))) (pss_one (ps_expr (pe_bm PySem.F.plainAttrs_list PySem.F.slot_list_extend PySem.F.type_list_extend mt_extend.r (pv 4) (pa_cons (pe_comp rfl (N:=["pool","found","part","behind","longer","faces","value","bottom"]) (so:=defScope (top 36)) (N':=["more","faces","value","bottom"]) (k:=1) (fr:=[5,6,7]) rfl rfl ⟨rfl,by decide +kernel,by decide +kernel,by decide +kernel,rfl,by decide +kernel,by decide +kernel⟩ (pi_listK (K:=K) (pv 3)) (fun _ _ _ _ _=>(pg_name (i:=0) (show(["more","faces","value","bottom"]:List Str).Nodup by decide +kernel) rfl (Or.inl rfl))) (fun _ _ _ _ _=>pts_nil)
   (fun _ _ _ _ _=>(pe_tupS (pa_cons (pe_op op_cat (pv 1) (pe_ix ix_tupH (pv 0) pe_int (fun _ _=>rfl))) (pa_cons (pe_op op_add (pv 2) (pe_ix ix_tupH (pv 0) pe_int (fun _ _=>rfl))) (pa_cons (pe_op op_mulB (pv 3) (pe_ix ix_tupH (pv 0) pe_int (fun _ _=>rfl))) pa_nil (se rfl)) (se rfl)) (se rfl))))) pa_nil (se rfl))))))
  (pss_one (ps_set (i:=1) nd rfl (Or.inl rfl) (pv 4)))))))
  (pss_one (ps_ret (pv 1)))))),?_⟩
  refine(?_:let q0_:TS:=_;let q1_:TS:=_;let q2_:TS:=_;let q3_:TS:=_;tSeq q0_ (tSeq q1_ (tSeq q2_ q3_)) _ _ _)
  intro q0_ q1_ q2_ q3_
  have sl:=sizeLine_eq
  refine(?_:let G_:Prop:=_;G_)
  intro G_
  obtain⟨vs,ha,ap⟩:=hp
  dsimp only[G_]
  clear G_
  have lv:=ap.length
  change tSeq _ _ _ [some (.ref a),none,none,none,none,none,none,none] H
  refine seq_gen (fun σ' H1=>H=H1∧σ'=[some (.ref a),none,none,none,none,none,none,none]) ?_ (fun N hN=>?_)
  case refine_2=>
   simp_all only[spCk]
   exact⟨ps,⟨vs,ha,ap⟩,g,hN _ _ ⟨rfl,rfl⟩⟩
  rintro _ _ ⟨rfl,rfl⟩
  change tSeq _ _ _ [some (.ref a),none,none,none,none,none,none,none] H
  refine seq_gen (fun σ' H1=>Same H H1∧∃l xs,H1 l=some (.lst xs)∧Al (TR H H1) (thr []) xs∧σ'=[some (.ref a),some (.ref l),none,none,none,none,none,none]) ?_ (fun N hN=>?_)
  case refine_2=>
   simp_all only[]
   refine⟨Nat.zero_le _,fun e0 m0=>⟨by decide,fun t H1 s1 nt e1=>⟨by decide,fun l n1=>hN _ _ ⟨(same_upd m0).trans (s1.trans (same_upd n1)),l,_,upd_same,.one ⟨t,e0,rfl,same_upd n1 _ _ e1,same_upd n1 _ _ (s1 _ _ upd_same),m0⟩,rfl⟩⟩⟩⟩
  intro _ H1 p2_
  refine(?_:let G_:Prop:=_;G_)
  intro G_
  obtain⟨sm1,l,xs,hl,al,rfl⟩:=p2_
  dsimp only[G_]
  clear G_
  change tSeq _ _ _ [some (.ref a),some (.ref l),none,none,none,none,none,none] H1
  refine seq_gen (fun σ' H2=>Same H H2∧∃l xs,H2 l=some (.lst xs)∧Al (TR H H2) (thr ps) xs∧∃z1 z2 z3 z4 z5 z6,σ'=[some (.ref a),some (.ref l),z1,z2,z3,z4,z5,z6]) ?_ (fun N hN=>?_)
  case refine_2=>
   simp_all only[]
   refine⟨⟨_,SqL.of (sm1 _ _ ha)⟩,for_src (src_list (Ok:=Same H) (fun H2 s2=>SqL.of (s2 _ _ ha)))
    (fun i σ H2=>Same H H2∧∃l xs z1 z2 z3 z4 z5 z6,H2 l=some (.lst xs)∧Al (TR H H2) (thr (ps.take i)) xs∧σ=[some (.ref a),some (.ref l),z1,z2,z3,z4,z5,z6])
    ⟨sm1,l,xs,_,_,_,_,_,_,hl,al,rfl⟩ (fun _ _ _ _ h=>h.1) ?_ ?_⟩
   ·clear hl al xs l
    intro i x σ H2 H3 hi p6_ p7_
    refine(?_:let G_:Prop:=_;G_)
    intro G_
    obtain⟨sm2,l,xs,z1,z2,z3,z4,z5,z6,hl,al,rfl⟩:=p6_
    obtain⟨rfl,ex⟩:=p7_
    obtain⟨p,ep,q,rfl,hq⟩:=ap.get ex
    dsimp only[G_]
    obtain⟨hip,ep'⟩:=List.getElem?_eq_some_iff.mp ep
    have hm:p∈ps:=by rw[←ep'];exact List.getElem_mem hip
    refine(?_:let G_:Prop:=_;G_)
    intro G_
    obtain⟨gp,c1,b1⟩:=goodL_one g hm
    dsimp only[G_]
    have lx:=al.length
    rw[thr_len] at lx
    have c0:=goodL_cnt g i
    have c2:=goodL_cnt g (i+1)
    have es:thr (ps.take (i+1))=stp (thr (ps.take i)) p:=by rw[take_snoc hip,ep',thr_snoc]
    have ec:prd ((ps.take (i+1)).map cnt)=prd ((ps.take i).map cnt)*cnt p:=by rw[take_snoc hip,ep',List.map_append,List.map_cons,List.map_nil,prd_snoc]
    rw[ec] at c2
    change tSeq _ _ _ [some (.ref a),some (.ref l),some (.ref q),z2,z3,z4,z5,z6] H3
    refine seq_gen (fun σ' H4=>Same H3 H4∧∃b bs,H4 b=some (.lst bs)∧Al (TR (fun _=>none) H4) (ptR p) bs∧σ'=[some (.ref a),some (.ref l),some (.ref q),some (.ref b),z3,z4,z5,z6]) ?_ (fun N hN=>?_)
    case refine_2=>
     simp_all only[spPt]
     exact⟨p,sm2 _ _ hq,gp,c1,fun b H4 bs s4 hb ab=>hN _ _ ⟨s4,b,bs,hb,ab,rfl⟩⟩
    intro _ H4 p2_
    refine(?_:let G_:Prop:=_;G_)
    intro G_
    obtain⟨sm4,b,bs,hb,ab,rfl⟩:=p2_
    dsimp only[G_]
    have lb:=ab.length
    unfold ptR at lb
    rw[List.length_map,ptF_len] at lb
    have hl:=sm4 _ _ hl
    have al:=al.imp fun _ _ h=>TR.mono sm4 h
    change tSeq _ _ _ [some (.ref a),some (.ref l),some (.ref q),some (.ref b),z3,z4,z5,z6] H4
    refine seq_gen (fun σ' H5=>Same H4 H5∧∃m,H4 m=none∧H5 m=some (.lst [])∧σ'=[some (.ref a),some (.ref l),some (.ref q),some (.ref b),some (.ref m),z4,z5,z6]) ?_ (fun N hN=>?_)
    case refine_2=>
     simp_all only[]
     exact⟨Nat.zero_le _,fun m nm=>hN _ _ ⟨same_upd nm,m,nm,upd_same,rfl⟩⟩
    intro _ H5 p2_
    refine(?_:let G_:Prop:=_;G_)
    intro G_
    obtain⟨sm5,m,nm,hm5,rfl⟩:=p2_
    dsimp only[G_]
    change tSeq _ _ _ [some (.ref a),some (.ref l),some (.ref q),some (.ref b),some (.ref m),z4,z5,z6] H5
    refine seq_gen (fun σ' H6=>Same H4 H6∧∃ys,H6 m=some (.lst ys)∧Al (TR H H6) (stp (thr (ps.take i)) p) ys∧∃z4 z5 z6,σ'=[some (.ref a),some (.ref l),some (.ref q),some (.ref b),some (.ref m),z4,z5,z6]) ?_ (fun N hN=>?_)
    case refine_2=>
     simp_all only[]
     refine⟨⟨_,SqL.of (sm5 _ _ hl)⟩,for_src (src_list (Ok:=Same H4) (fun H2 s2=>SqL.of (s2 _ _ hl)))
      (fun j σ H6=>Same H4 H6∧∃ys z4 z5 z6,H6 m=some (.lst ys)∧ys.length=j*cnt p∧Al (TR H (hid H6 m)) (stp ((thr (ps.take i)).take j) p) ys∧σ=[some (.ref a),some (.ref l),some (.ref q),some (.ref b),some (.ref m),z4,z5,z6])
      ⟨sm5,[],_,_,_,hm5,by simp,trivial,rfl⟩ (fun _ _ _ _ h=>h.1) ?_ ?_⟩
     ·intro j x σ H6 H7 hj p6_ p7_
      refine(?_:let G_:Prop:=_;G_)
      intro G_
      obtain⟨sm6,ys,z4,z5,z6,hm6,ly,ay,rfl⟩:=p6_
      obtain⟨rfl,ex⟩:=p7_
      obtain⟨r,er,t,fq,rfl,ht,hfq,nfq⟩:=al.get ex
      dsimp only[G_]
      have hr':=thr_row g.1 i (by omega) r (List.mem_of_getElem? er)
      have ht:=sm6 _ _ ht
      have hfq:=sm6 _ _ hfq
      have hb6:=sm6 _ _ hb
      have b0:=goodL_bot g i
      refine⟨t,_,rfl,SqT.of ht,rfl,_,_,rfl,_,_,rfl,_,_,rfl,rfl,?_⟩
      simp_all only[rExtend]
      refine⟨.inl ⟨rfl,_,SqL.of hm6⟩,⟨_,SqL.of hb6⟩,?_⟩
      refine comp_map (src_list (fun H2 s2=>SqL.of (s2 _ _ hb6))) (fun _ _ _ _ h=>by rw[h.1];exact Same.refl _) (by omega) (fun k y H8=>∀u,(ptR p)[k]?=some u→TR H (hid H8 m) (r.1++u.1,r.2.1+u.2.1,r.2.2*u.2.2) y) (fun k y H8 H9 s9 h u e=>(h u e).mono (hid_mono s9)) ?_ ?_
      ·rintro k x w0 H8 H9 Q2 hk s8 ⟨rfl,ex⟩ kq
       refine(?_:let G_:Prop:=_;G_)
       intro G_
       obtain⟨u,eu,c,d,rfl,hc,hd,_⟩:=ab.get ex
       dsimp only[G_]
       have hc8:=s8 _ _ (sm6 _ _ hc)
       have hd8:=s8 _ _ (sm6 _ _ hd)
       have hfq8:=s8 _ _ hfq
       have lu:u.1.length≤7:=by
        have hu:=List.mem_of_getElem? eu
        unfold ptR at hu
        refine(?_:let G_:Prop:=_;G_)
        intro G_
        obtain⟨f,hf,rfl⟩:=List.mem_map.mp hu
        dsimp only[G_]
        exact Nat.le_trans (ptF_row gp f hf).2 (mst_le gp)
       simp_all only[rCat,hc8,hd8,hfq8]
       refine⟨by rw[List.length_map,List.length_map];omega,fun a1 n1=>?_⟩
       have s9:=same_upd (o:=.lst (List.map V.int r.1++List.map V.int u.1)) n1
       simp only[s9 _ _ hc8]
       refine⟨_,rfl,_,at1,_,rfl,_,rfl,_,at2,_,rfl,mulOkL (by omega) (by omega),by decide,fun t2 H10 s10 nt2 e10=>kq _ _ (s9.trans s10) fun u' eu'=>?_⟩
       rw[eu] at eu'
       cases eu'
       have hm9:=s9 _ _ (s8 _ _ hm6)
       refine⟨t2,a1,rfl,?_,?_,?_⟩
       ·rw[hid_ne (fun e=>by rw[e,hm9] at nt2;cases nt2),e10,Int.natCast_mul]
       ·rw[hid_ne (fun e=>by rw[e,s8 _ _ hm6] at n1;cases n1),s10 _ _ upd_same,List.map_append]
       ·exact none_of (sm2.trans (sm4.trans (sm6.trans s8))) n1
      ·intro zs H8 s8 lz hz D n1 n2
       have hm8:=s8 _ _ hm6
       have jm:j*cnt p+cnt p≤prd ((ps.take i).map cnt)*cnt p:=by
        rw[←Nat.succ_mul]
        exact Nat.mul_le_mul_right _ (by omega)
       refine⟨_,same_upd n2 _ _ hm8,_,upd_same,by omega,?_⟩
       have s9:Same H7 (upd H8 D (.lst zs)):=s8.trans (same_upd n2)
       refine⟨same_upd_of (sm6.trans s9) nm,_,upd_same,by rw[List.length_append,ly,lz,lb,Nat.succ_mul],?_,_,rfl⟩
       rw[hid_hid,List.take_add_one,er]
       unfold stp
       rw[List.flatMap_append]
       refine Al.append (ay.imp fun _ _ h=>h.mono (hid_mono s9)) ?_
       simp only[Option.toList,List.flatMap_cons,List.flatMap_nil,List.append_nil]
       refine Al.of (by rw[List.length_map];unfold ptR;rw[List.length_map,ptF_len];omega) fun k y v e1 e2=>?_
       rw[List.getElem?_map] at e2
       refine(?_:let G_:Prop:=_;G_)
       intro G_
       obtain⟨u,eu,rfl⟩:=Option.map_eq_some_iff.mp e2
       dsimp only[G_]
       exact(hz _ _ e1 u eu).mono (hid_mono (same_upd n2))
     ·intro σ H6 p2_
      refine(?_:let G_:Prop:=_;G_)
      intro G_
      obtain⟨sm6,ys,z4,z5,z6,hm6,ly,ay,rfl⟩:=p2_
      dsimp only[G_]
      refine hN _ _ ⟨sm6,ys,hm6,?_,_,_,_,rfl⟩
      rw[lx,←thr_len,List.take_of_length_le (Nat.le_refl _)] at ay
      exact ay.imp fun _ _ h=>h.mono hid_sub
    intro _ H6 p2_
    refine(?_:let G_:Prop:=_;G_)
    intro G_
    obtain⟨sm6,ys,hm6,ay,z4,z5,z6,rfl⟩:=p2_
    dsimp only[G_]
    simp_all only[]
    rw[es]
    exact⟨sm2.trans (sm4.trans sm6),m,_,hm6,ay,rfl,_,rfl⟩
   ·intro σ H2 p2_
    refine(?_:let G_:Prop:=_;G_)
    intro G_
    obtain⟨sm2,l,xs,z1,z2,z3,z4,z5,z6,hl,al,rfl⟩:=p2_
    dsimp only[G_]
    rw[lv,List.take_of_length_le (Nat.le_refl _)] at al
    exact hN _ _ ⟨sm2,l,xs,hl,al,_,_,_,_,_,_,rfl⟩
  intro _ H2 p2_
  refine(?_:let G_:Prop:=_;G_)
  intro G_
  obtain⟨sm2,l,xs,hl,al,z1,z2,z3,z4,z5,z6,rfl⟩:=p2_
  dsimp only[G_]
  simp_all only[]
  exact kk _ _ _ sm2 hl al
theorem sc_pool_table:FnScope ["pool","found","common","part"] ["pool"] (defScope (top 37)):=⟨rfl,rfl,rfl,by decide +kernel,rfl,by decide +kernel,by decide +kernel⟩
theorem ok_pl (T:Txt K mg q_LuckError q_NoShare q_NoTable q_NoEnd q_TooMany q_NoStep q_NoPlay q_Course q_Play):Cal P w K mg base (CX1 P w) 6 "pool_table" ["pool"] spPl:=by
 have c_throws_by_bottom:Cal P w K mg base (CX1 P w) 5 "throws_by_bottom" ["pool"] spTb:=ok_tb T
 have c_part_bottom:Cal P w K mg base (CX1 P w) 2 "part_bottom" ["part"] spBo:=ok_bo T
 have c_table_of:Cal P w K mg base (CX1 P w) 4 "table_of" ["rows"] (spTO q_NoTable):=ok_to T
 refine T.d_pool_table.cal (fun _ _ _ _ _ _=>us_1 fun _=>rfl) fun f fd F=>F.okC sc_pool_table (fun vs H Q E h=>?_) (fun cdv A outer s H vs Q E hr h=>?_)
 ·obtain⟨_,_,rfl,_⟩:=h;rfl
 ·refine(?_:let G_:Prop:=_;G_)
  intro G_
  obtain⟨a,ps,rfl,hp,gl,l4,kk⟩:=h
  dsimp only[G_]
  clear G_
  have nd:=sc_pool_table.nd
  refine⟨_,(pss_cons (ps_set (i:=1) nd rfl (Or.inl rfl) (pe_cal c_throws_by_bottom (hr.mono (by decide)) rfl strictP.pass (pa_cons (pv 0) pa_nil (se rfl)) (he:=se rfl) (hpl:=na rfl)))
  (pss_cons (ps_set (i:=2) nd rfl (Or.inr rfl) pe_int)
  (pss_cons (ps_for PassesOwn.never rfl (pi_listK (K:=K) (pv 0)) (pg_name (i:=3) nd rfl (Or.inl rfl)) (pss_one (ps_set (i:=2) nd rfl (Or.inr rfl) (pe_op op_mulB (pv 2) (pe_cal c_part_bottom (hr.mono (by decide)) rfl strictP.pass (pa_cons (pv 3) pa_nil (se rfl)) (he:=se rfl) (hpl:=na rfl))))))
  (pss_one (ps_ret (pe_cal c_table_of (hr.mono (by decide)) rfl strictP.pass (pa_cons (pe_comp rfl (N:=["pool","found","common","part"]) (so:=defScope (top 37)) (N':=["faces","value","bottom","common"]) (k:=3) (fr:=[2]) rfl rfl ⟨rfl,by decide +kernel,by decide +kernel,by decide +kernel,rfl,by decide +kernel,by decide +kernel⟩ (pi_listK (K:=K) (pv 1)) (fun _ _ _ _ _=>(pg_tupK (K:=K) (n:=3) rfl (pgs_cons (pg_name (i:=0) (show(["faces","value","bottom","common"]:List Str).Nodup by decide +kernel) rfl (Or.inl rfl)) (pgs_cons (pg_name (i:=1) (show(["faces","value","bottom","common"]:List Str).Nodup by decide +kernel) rfl (Or.inl rfl)) (pgs_cons (pg_name (i:=2) (show(["faces","value","bottom","common"]:List Str).Nodup by decide +kernel) rfl (Or.inl rfl)) pgs_nil))))) (fun _ _ _ _ _=>pts_nil)
   (fun _ _ _ _ _=>(pe_tupS (pa_cons (pv 1) (pa_cons (pe_op op_fdivB (pv 3) (pv 2)) pa_nil (se rfl)) (se rfl))))) pa_nil (se rfl)) (he:=se rfl) (hpl:=na rfl))))))),?_⟩
  refine(?_:let q0_:TS:=_;let q1_:TS:=_;let q2_:TS:=_;let q3_:TS:=_;tSeq q0_ (tSeq q1_ (tSeq q2_ q3_)) _ _ _)
  intro q0_ q1_ q2_ q3_
  have sl:=sizeLine_eq
  have gm:=goodM_of gl
  refine(?_:let G_:Prop:=_;G_)
  intro G_
  obtain⟨vs,ha,ap⟩:=id hp
  dsimp only[G_]
  clear G_
  have lv:=ap.length
  change tSeq _ _ _ [some (.ref a),none,none,none] H
  refine seq_gen (fun σ' H1=>Same H H1∧∃l xs,H1 l=some (.lst xs)∧Al (TR H H1) (thr ps) xs∧σ'=[some (.ref a),some (.ref l),none,none]) ?_ (fun N hN=>?_)
  case refine_2=>
   simp_all only[spTb]
   exact⟨ps,hp,gm,l4,fun l H1 xs s1 hl al=>hN _ _ ⟨s1,l,xs,hl,al,rfl⟩⟩
  intro _ H1 p2_
  refine(?_:let G_:Prop:=_;G_)
  intro G_
  obtain⟨sm1,l,xs,hl,al,rfl⟩:=p2_
  dsimp only[G_]
  clear G_
  have lx:=al.length
  rw[thr_len] at lx
  change tSeq _ _ _ [some (.ref a),some (.ref l),none,none] H1
  refine seq_gen (fun σ' H2=>H1=H2∧σ'=[some (.ref a),some (.ref l),some (.int 1),none]) ?_ (fun N hN=>?_)
  case refine_2=>
   simp_all only[]
   exact hN _ _ ⟨rfl,rfl⟩
  rintro _ _ ⟨rfl,rfl⟩
  change tSeq _ _ _ [some (.ref a),some (.ref l),some (.int 1),none] H1
  refine seq_gen (fun σ' H2=>H1=H2∧∃z,σ'=[some (.ref a),some (.ref l),some (.int (prd (ps.map bot):Int)),z]) ?_ (fun N hN=>?_)
  case refine_2=>
   simp_all only[]
   refine⟨⟨_,SqL.of (sm1 _ _ ha)⟩,for_src (src_list (Ok:=fun H'=>H1=H') (fun H' e=>by subst e;exact SqL.of (sm1 _ _ ha))) (fun i σ H'=>H1=H'∧∃z,σ=[some (.ref a),some (.ref l),some (.int (prd ((ps.take i).map bot):Int)),z]) ⟨rfl,_,rfl⟩ (fun _ _ _ _ h=>h.1) ?_ ?_⟩
   ·intro i x σ H' H'' hi p6_ p7_
    refine(?_:let G_:Prop:=_;G_)
    intro G_
    obtain⟨rfl,z,rfl⟩:=p6_
    obtain⟨rfl,ex⟩:=p7_
    obtain⟨p,ep,q,rfl,hq⟩:=ap.get ex
    dsimp only[G_]
    obtain⟨hip,ep'⟩:=List.getElem?_eq_some_iff.mp ep
    refine(?_:let G_:Prop:=_;G_)
    intro G_
    obtain⟨gp,c1,b1⟩:=goodL_one gm (List.mem_of_getElem? ep)
    dsimp only[G_]
    have b0:=goodL_bot gm i
    simp_all only[spBo]
    refine⟨p,sm1 _ _ hq,gp,b1,mulOkL (by omega) (by omega),?_,_,rfl⟩
    rw[take_snoc hip,ep',List.map_append,List.map_cons,List.map_nil,prd_snoc,Int.natCast_mul]
   ·intro σ H' p2_
    refine(?_:let G_:Prop:=_;G_)
    intro G_
    obtain⟨rfl,z,rfl⟩:=p2_
    dsimp only[G_]
    rw[lv,List.take_of_length_le (Nat.le_refl _)]
    exact hN _ _ ⟨rfl,_,rfl⟩
  intro _ _ p2_
  refine(?_:let G_:Prop:=_;G_)
  intro G_
  obtain⟨rfl,z,rfl⟩:=p2_
  have c0:=gm.2.1
  have bW:=gm.2.2
  obtain⟨up0,pln,l64,_⟩:=pls_all ps gl
  dsimp only[G_]
  clear G_
  have dv:∀r∈thr ps,1≤r.2.2∧r.2.2≤prd (ps.map bot):=fun r hr'=>by
   have:=thr_row gm.1 ps.length (Nat.le_refl _) r (by rw[List.take_of_length_le (Nat.le_refl _)];exact hr')
   rw[List.take_of_length_le (Nat.le_refl _)] at this
   exact this.2
  have nb:=pls_nb gl
  have rwt:rowW (prd (ps.map bot)) (thr ps)=plW ps:=rfl
  generalize hW:prd (ps.map bot)=W at *
  simp_all only[spTO]
  refine⟨⟨_,SqL.of hl⟩,?_⟩
  refine comp_map3 (K:=K) (src_list (fun H2 s2=>SqL.of (s2 _ _ hl))) (fun i u v b' H2=>∃r,(thr ps)[i]?=some r∧v=.int r.2.1∧b'=.int (r.2.2:Int)) ?_ (by omega)
   (fun i y H2=>∀r,(thr ps)[i]?=some r→Rep H2 (wrowD (r.2.1,((W / r.2.2:Nat):Int))) y) (fun i y H2 H3 s3 h r e=>(h r e).mono s3) ?_ ?_
  ·rintro i x H2 H3 hi s2 ⟨rfl,ex⟩
   refine(?_:let G_:Prop:=_;G_)
   intro G_
   obtain⟨r,er,t,q,rfl,ht,hq,nq⟩:=al.get ex
   dsimp only[G_]
   exact⟨Same.refl _,t,_,_,_,rfl,SqT.of (s2 _ _ ht),r,er,rfl,rfl⟩
  ·intro i u v b' H2 Q2 hi s2 p8_ kq
   refine(?_:let G_:Prop:=_;G_)
   intro G_
   obtain⟨r,er,rfl,rfl⟩:=p8_
   dsimp only[G_]
   have hb:=dv r (List.mem_of_getElem? er)
   simp_all only[]
   refine⟨CDivB.of (n:=64) (by omega) (Bt.of 1000000 (by omega) (by omega)),by decide,fun t H3 s3 nt e3=>kq _ _ s3 fun r' er'=>?_⟩
   rw[er] at er'
   cases er'
   rw[←Int.natCast_ediv] at e3
   exact rep_wrow.mpr ⟨t,rfl,e3⟩
  ·intro ys H2 s2 ly hy D n1 n2
   have rp:Rep (upd H2 D (.lst ys)) (wrowsD (plW ps)) (.ref D):=by
    rw[←rwt]
    refine rep_lst.mpr ⟨D,ys,rfl,upd_same,RepL.of ?_ fun i dd v e1 e2=>?_⟩
    ·unfold rowW
     rw[List.length_map,List.length_map,ly,lx,←thr_len]
    ·unfold rowW at e1
     rw[List.getElem?_map,List.getElem?_map] at e1
     refine(?_:let G_:Prop:=_;G_)
     intro G_
     obtain⟨p,ep,rfl⟩:=Option.map_eq_some_iff.mp e1
     obtain⟨r,er,rfl⟩:=Option.map_eq_some_iff.mp ep
     dsimp only[G_]
     exact(hy i v e2 r er).mono (same_upd n2)
   have sD:Same H (upd H2 D (.lst ys)):=sm1.trans (s2.trans (same_upd n2))
   exact⟨plW ps,rp,pln,fun x hx=>(up0 x hx).2,l64,fun b=>absurd b nb,fun _ p H' s' np r'=>kk p H' (sD.trans s') (none_of sD np) r'⟩
theorem sc_own_rows:FnScope ["rows"] ["rows"] (defScope (top 39)):=⟨rfl,rfl,rfl,by decide +kernel,rfl,by decide +kernel,by decide +kernel⟩
theorem ok_or (T:Txt K mg q_LuckError q_NoShare q_NoTable q_NoEnd q_TooMany q_NoStep q_NoPlay q_Course q_Play):Cal P w K mg base (CX1 P w) 1 "own_rows" ["rows"] spORX:=by
 refine T.d_own_rows.cal (fun _ _ _ _ _ _=>us_1 fun _=>rfl) fun f fd F=>F.okC sc_own_rows (fun vs H Q E h=>?_) (fun cdv A outer s H vs Q E hr h=>?_)
 ·obtain⟨_,_,_,rfl,_⟩:=h;rfl
 ·refine(?_:let G_:Prop:=_;G_)
  intro G_
  obtain⟨v,X,rs,rfl,sx,rp,lr,ll,kk⟩:=h
  dsimp only[G_]
  have nd:=sc_own_rows.nd
  refine⟨_,(pss_one (ps_ret (pe_comp rfl (N:=["rows"]) (so:=defScope (top 39)) (N':=["row"]) (k:=1) (fr:=[]) rfl rfl ⟨rfl,by decide +kernel,by decide +kernel,by decide +kernel,rfl,by decide +kernel,by decide +kernel⟩ (pi_listK (K:=K) (pv 0)) (fun _ _ _ _ _=>(pg_name (i:=0) (show(["row"]:List Str).Nodup by decide +kernel) rfl (Or.inl rfl))) (fun _ _ _ _ _=>pts_nil)
   (fun _ _ _ _ _=>(pe_tupS (pa_cons (pe_ix ix_tupH (pv 0) pe_int (fun _ _=>rfl)) (pa_cons (pe_ix ix_tupH (pv 0) pe_int (fun _ _=>rfl)) (pa_cons (pe_callTy (call_list_ofK (K:=K)) (by rfl) T.z_list rfl (pa_cons (pe_ix ix_tupH (pv 0) pe_int (fun _ _=>rfl)) pa_nil (se rfl)) (he:=se rfl) (hpl:=na rfl)) (pa_cons (pe_ix ix_tupH (pv 0) pe_int (fun _ _=>rfl)) pa_nil (se rfl)) (se rfl)) (se rfl)) (se rfl))))))),?_⟩
  have sl:=sizeLine_eq
  refine(?_:let G_:Prop:=_;G_)
  intro G_
  obtain⟨l,xs,rfl,hl,rl⟩:=rep_lst.mp rp
  dsimp only[G_]
  have hl:=sx _ _ hl
  have len:=rl.length
  rw[List.length_map] at len
  simp_all only[]
  refine⟨⟨_,SqL.of hl⟩,?_⟩
  refine comp_map (src_list (K:=K) (fun H' s'=>SqL.of (s' _ _ hl))) (fun _ _ _ _ h=>by rw[h.1];exact Same.refl _) (by omega) (fun i y H4=>∀r,rs[i]?=some r→Rep (nw H X H4) (r4D r) y) (fun i y H4 H5 s5 h r e=>(h r e).mono (nw_mono s5)) ?_ ?_
  ·rintro i x w0 H4 H5 Q2 hi s4 ⟨rfl,ex⟩ kq
   refine(?_:let G_:Prop:=_;G_)
   intro G_
   obtain⟨d,ed,rd⟩:=rl.get ex
   rw[List.getElem?_map] at ed
   obtain⟨r,er,rfl⟩:=Option.map_eq_some_iff.mp ed
   obtain⟨p,a,b,c,d,rfl,hp,ra,rb,rc,rd'⟩:=rep_t4.mp rd
   obtain⟨c',cs',rfl,hc,rcl⟩:=rep_lst.mp rc
   dsimp only[G_]
   have hp:=s4 _ _ (sx _ _ hp)
   have hc:=s4 _ _ (sx _ _ hc)
   simp_all only[hp]
   refine⟨_,.inl (SqL.of hc),fun m nm=>⟨_,same_upd nm _ _ hp,_,rfl,by decide,fun t H6 s6 nt e6=>kq _ _ ((same_upd nm).trans s6) fun r' er'=>?_⟩⟩
   rw[er] at er'
   cases er'
   have sn:Same X (nw H X H6):=nw_in sx
   have nm0:=none_of s4 nm
   have nt0:=none_of (s4.trans (same_upd nm)) nt
   exact rep_t4.mpr ⟨t,_,_,_,_,rfl,by rw[nw_new nt0];exact e6,ra.mono sn,rb.mono sn,rep_lst.mpr ⟨m,cs',rfl,by rw[nw_new nm0];exact s6 _ _ upd_same,rcl.mono sn⟩,rd'.mono sn⟩
  ·intro ys H5 s5 ly hy D n1 n2
   refine kk D _ (s5.trans (same_upd n2)) (rep_lst.mpr ⟨D,ys,rfl,by rw[nw_new (none_of s5 n2)];exact upd_same,RepL.of (by rw[List.length_map];omega) fun i dd u e1 e2=>?_⟩)
   rw[List.getElem?_map] at e1
   refine(?_:let G_:Prop:=_;G_)
   intro G_
   obtain⟨r,er,rfl⟩:=Option.map_eq_some_iff.mp e1
   dsimp only[G_]
   exact(hy i u e2 r er).mono (nw_mono (same_upd n2))
theorem sc_own_what:FnScope ["what"] ["what"] (defScope (top 40)):=⟨rfl,rfl,rfl,by decide +kernel,rfl,by decide +kernel,by decide +kernel⟩
theorem ok_ow (T:Txt K mg q_LuckError q_NoShare q_NoTable q_NoEnd q_TooMany q_NoStep q_NoPlay q_Course q_Play):Cal P w K mg base (CX1 P w) 2 "own_what" ["what"] spOWX:=by
 have c_own_rows:Cal P w K mg base (CX1 P w) 1 "own_rows" ["rows"] spORX:=ok_or T
 refine T.d_own_what.cal (fun _ _ _ _ _ _=>us_1 fun _=>rfl) fun f fd F=>F.okC sc_own_what (fun vs H Q E h=>?_) (fun cdv A outer s H vs Q E hr h=>?_)
 ·obtain⟨_,_,_,_,rfl,_⟩:=h;rfl
 ·refine(?_:let G_:Prop:=_;G_)
  intro G_
  obtain⟨v,X,x,cs,rfl,sx,rp,gd,kk⟩:=h
  dsimp only[G_]
  have nd:=sc_own_what.nd
  refine⟨_,(pss_cons (ps_if (pt_cmpR op_eq (pe_ix ix_tupH (pv 0) pe_int (fun _ _=>rfl)) pe_str (nomark _)) (pss_one (ps_ret (pe_tupS (pa_cons pe_str (pa_cons (pe_callTy (call_list_ofK (K:=K)) (by rfl) T.z_list rfl (pa_cons (pe_ix ix_tupH (pv 0) pe_int (fun _ _=>rfl)) pa_nil (se rfl)) (he:=se rfl) (hpl:=na rfl)) (pa_cons (pe_ix ix_tupH (pv 0) pe_int (fun _ _=>rfl)) (pa_cons (pe_cal c_own_rows (hr.mono (by decide)) rfl strictP.pass (pa_cons (pe_ix ix_tupH (pv 0) pe_int (fun _ _=>rfl)) pa_nil (se rfl)) (he:=se rfl) (hpl:=na rfl)) pa_nil (se rfl)) (se rfl)) (se rfl)) (se rfl)))))
   pss_nil)
  (pss_cons (ps_if (pt_cmpR op_eq (pe_ix ix_tupH (pv 0) pe_int (fun _ _=>rfl)) pe_str (nomark _)) (pss_one (ps_ret (pe_tupS (pa_cons pe_str (pa_cons (pe_ix ix_tupH (pv 0) pe_int (fun _ _=>rfl)) (pa_cons (pe_cal c_own_rows (hr.mono (by decide)) rfl strictP.pass (pa_cons (pe_ix ix_tupH (pv 0) pe_int (fun _ _=>rfl)) pa_nil (se rfl)) (he:=se rfl) (hpl:=na rfl)) pa_nil (se rfl)) (se rfl)) (se rfl)))))
   pss_nil)
  (pss_one (ps_ret (pv 0))))),?_⟩
  refine(?_:let q0_:TS:=_;let q1_:TS:=_;let q2_:TS:=_;tSeq q0_ (tSeq q1_ q2_) _ _ _)
  intro q0_ q1_ q2_
  have sl:=sizeLine_eq
  cases x with
  | ask c k a b=>
   refine(?_:let G_:Prop:=_;G_)
   intro G_
   obtain⟨p,x1,x2,x3,x4,x5,rfl,hp,r1,r2,r3,r4,r5⟩:=rep_t5.mp (show Rep X (.tup _) v from rp)
   rw[rep_str] at r1
   subst r1
   dsimp only[G_]
   simp_all only[spORX,sx _ _ hp]
   rw[if_neg (by decide +kernel),if_neg (by decide +kernel)]
   exact kk _ _ (Same.refl _) (rp.mono (nw_in sx))
  | fin t b=>
   refine(?_:let G_:Prop:=_;G_)
   intro G_
   obtain⟨p,x1,x2,rfl,hp,r1,r2⟩:=rep_t2.mp (show Rep X (.tup _) v from rp)
   rw[rep_str] at r1
   subst r1
   dsimp only[G_]
   simp_all only[spORX,sx _ _ hp]
   rw[if_neg (by decide +kernel),if_neg (by decide +kernel)]
   exact kk _ _ (Same.refl _) (rp.mono (nw_in sx))
  | score c=>
   refine(?_:let G_:Prop:=_;G_)
   intro G_
   obtain⟨p,x1,x2,rfl,hp,r1,r2⟩:=rep_t2.mp (show Rep X (.tup _) v from rp)
   rw[rep_str] at r1
   subst r1
   dsimp only[G_]
   simp_all only[spORX,sx _ _ hp]
   rw[if_neg (by decide +kernel),if_neg (by decide +kernel)]
   exact kk _ _ (Same.refl _) (rp.mono (nw_in sx))
  | pick w rs=>
   refine(?_:let G_:Prop:=_;G_)
   intro G_
   obtain⟨p,x1,x2,x3,rfl,hp,r1,r2,r3⟩:=rep_t3.mp (show Rep X (.tup _) v from rp)
   rw[rep_str] at r1
   subst r1
   dsimp only[G_]
   simp_all only[spORX,sx _ _ hp]
   rw[if_neg (by decide +kernel)]
   obtain⟨g1,g2⟩:=gd
   refine⟨X,sx,_,r3,by rw[List.length_map];exact g1,fun r hr'=>?_,fun m H1 s1 rm=>⟨by decide,fun t H2 s2 nt e2=>kk _ _ (s1.trans s2) ?_⟩⟩
   ·refine(?_:let G_:Prop:=_;G_)
    intro G_
    obtain⟨r0,h0,rfl⟩:=List.mem_map.mp hr'
    dsimp only[G_]
    show(r0.ds.map ddD).length≤100
    rw[List.length_map]
    exact(g2 r0 h0).1
   ·exact rep_t3.mpr ⟨t,_,_,_,rfl,by rw[nw_new (none_of s1 nt)];exact e2,rep_str.mpr rfl,r2.mono (nw_in sx),rm.mono (nw_mono s2)⟩
  | thr pool t b rs=>
   refine(?_:let G_:Prop:=_;G_)
   intro G_
   obtain⟨p,x1,x2,x3,x4,rfl,hp,r1,r2,r3,r4⟩:=rep_t4.mp (show Rep X (.tup _) v from rp)
   rw[rep_str] at r1
   subst r1
   dsimp only[G_]
   have hp:=sx _ _ hp
   simp_all only[spORX,hp]
   refine(?_:let G_:Prop:=_;G_)
   intro G_
   obtain⟨g1,g2,g3⟩:=gd
   obtain⟨l2,xs2,rfl,hl2,rl2⟩:=rep_lst.mp r2
   dsimp only[G_]
   refine⟨_,rfl,_,.inl (SqL.of (sx _ _ hl2)),fun m nm=>?_⟩
   have sm:=same_upd (o:=.lst xs2) nm
   have snm:Same (nw H X (upd H m (.lst xs2))) (upd H m (.lst xs2)):=nw_sub sx sm
   refine⟨_,sm _ _ hp,_,rfl,_,sm _ _ hp,_,rfl,nw H X (upd H m (.lst xs2)),snm,_,r4.mono (nw_in sx),by rw[List.length_map];exact g2,fun r hr'=>?_,fun n H1 s1 rn=>⟨by decide,fun t H2 s2 nt e2=>kk _ _ (sm.trans (s1.trans s2)) ?_⟩⟩
   ·refine(?_:let G_:Prop:=_;G_)
    intro G_
    obtain⟨r0,h0,rfl⟩:=List.mem_map.mp hr'
    dsimp only[G_]
    show(r0.2.2.1.map ddD).length≤100
    rw[List.length_map]
    exact(g3 r0 h0).1
   ·rw[nw_nw sm s1] at rn
    exact rep_t4.mpr ⟨t,_,_,_,_,rfl,by rw[nw_new (none_of (sm.trans s1) nt)];exact e2,rep_str.mpr rfl,rep_lst.mpr ⟨m,xs2,rfl,by rw[nw_new nm];exact s2 _ _ (s1 _ _ upd_same),rl2.mono (nw_in sx)⟩,r3.mono (nw_in sx),rn.mono (nw_mono s2)⟩
theorem sc_Course_put:FnScope ["self","counts","spot","number"] ["self","counts","spot","number"] (defScope (inClass (top 41) 1)):=⟨rfl,rfl,rfl,by decide +kernel,rfl,by decide +kernel,by decide +kernel⟩
theorem ok_put (T:Txt K mg q_LuckError q_NoShare q_NoTable q_NoEnd q_TooMany q_NoStep q_NoPlay q_Course q_Play):MtCal P w K mg base (CX1 P w) 1 q_Course "put" ["self","counts","spot","number"] (spPut q_Course):=by
 refine T.dm_Course_put.cal (fun _ _ _ _ _ _=>us_4 fun _ _ _ _=>rfl) fun f fd F=>F.okC sc_Course_put (fun vs H Q E h=>?_) (fun cdv A outer s H vs Q E hr h=>?_)
 ·obtain⟨_,_,_,_,_,_,rfl,_⟩:=h;rfl
 ·refine(?_:let G_:Prop:=_;G_)
  intro G_
  obtain⟨c,l,i,k,g,ns,rfl,⟨dx,sp,mo,wh,tb,us,ft,h1,h2,h3,h4,h5,h6⟩,hl,il,ln,kk⟩:=h
  dsimp only[G_]
  have nd:=sc_Course_put.nd
  refine⟨_,(pss_one (ps_asg (pe_callB (call_min2 rfl) (by rfl) T.z_min rfl (pa_cons (pv 3) (pa_cons (pe_ix ix_listH (pe_fld (pv 0) rfl) (pv 2) (fun _ _=>rfl)) pa_nil (se rfl)) (se rfl)) (he:=se rfl) (hpl:=na rfl)) (pg_sub (pv 1) (pv 2) set_list))),?_⟩
  have h1:=hid_sub _ _ h1
  have h3:=hid_sub _ _ h3
  simp_all only[tFld]
  refine⟨_,_,_,h1,T.cl_Course,T.na_Course_mosts,_,lk_mo,_,rfl,_,h3,_,most_at il,_,rfl,_,hl,_,ixN_nat (by rw[List.length_map];omega),?_⟩
  rw[←List.map_set]
  have e:(if most g.cs i<k then most g.cs i else k)=min k (most g.cs i):=by omega
  rw[e]
  exact kk
theorem sc_Course_do:FnScope ["self","counts","deed","value","spot","other"] ["self","counts","deed","value"] (defScope (inClass (top 41) 2)):=⟨rfl,rfl,rfl,by decide +kernel,rfl,by decide +kernel,by decide +kernel⟩
theorem ok_do (T:Txt K mg q_LuckError q_NoShare q_NoTable q_NoEnd q_TooMany q_NoStep q_NoPlay q_Course q_Play):MtCal P w K mg base (CX1 P w) 2 q_Course "do" ["self","counts","deed","value"] (spDo q_Course):=by
 have m_Course_put:MtCal P w K mg base (CX1 P w) 1 q_Course "put" ["self","counts","spot","number"] (spPut q_Course):=ok_put T
 refine T.dm_Course_do.cal (fun _ _ _ _ _ _=>us_4 fun _ _ _ _=>rfl) fun f fd F=>F.okC sc_Course_do (fun vs H Q E h=>?_) (fun cdv A outer s H vs Q E hr h=>?_)
 ·obtain⟨_,_,_,_,_,_,_,rfl,_⟩:=h;rfl
 ·refine(?_:let G_:Prop:=_;G_)
  intro G_
  obtain⟨c,l,dv,v,g,ns,d,rfl,co,hl,rd,gd,ln,kk⟩:=h
  dsimp only[G_]
  have nd:=sc_Course_do.nd
  refine⟨_,(pss_cons (ps_set (i:=4) nd rfl (Or.inl rfl) (pe_dget (hu_of hr) (pe_fld (pv 0) rfl) (pe_ix ix_tupH (pv 2) pe_int (fun _ _=>rfl)) (fun _ _=>rfl)))
  (pss_one (ps_if (pt_cmpR op_eq (pe_ix ix_tupH (pv 2) pe_int (fun _ _=>rfl)) pe_str (nomark _)) (pss_one (ps_expr (pe_mt m_Course_put T.cl_Course (pv 0) (hr.mono (by decide)) strictP.pass (pa_cons (pv 1) (pa_cons (pv 4) (pa_cons (pe_ix ix_tupH (pv 2) pe_int (fun _ _=>rfl)) pa_nil (se rfl)) (se rfl)) (se rfl)) (hst:=se rfl) (hpl:=na rfl))))
   (pss_one (ps_if (pt_cmpR op_eq (pe_ix ix_tupH (pv 2) pe_int (fun _ _=>rfl)) pe_str (nomark _)) (pss_one (ps_expr (pe_mt m_Course_put T.cl_Course (pv 0) (hr.mono (by decide)) strictP.pass (pa_cons (pv 1) (pa_cons (pv 4) (pa_cons (pe_op op_add (pe_ix ix_listH (pv 1) (pv 4) (fun _ _=>rfl)) (pe_ix ix_tupH (pv 2) pe_int (fun _ _=>rfl))) pa_nil (se rfl)) (se rfl)) (se rfl)) (hst:=se rfl) (hpl:=na rfl))))
   (pss_one (ps_if (pt_cmpR op_eq (pe_ix ix_tupH (pv 2) pe_int (fun _ _=>rfl)) pe_str (nomark _)) (pss_one (ps_expr (pe_mt m_Course_put T.cl_Course (pv 0) (hr.mono (by decide)) strictP.pass (pa_cons (pv 1) (pa_cons (pv 4) (pa_cons (pe_op op_add (pe_ix ix_listH (pv 1) (pv 4) (fun _ _=>rfl)) (pv 3)) pa_nil (se rfl)) (se rfl)) (se rfl)) (hst:=se rfl) (hpl:=na rfl))))
   (pss_cons (ps_set (i:=5) nd rfl (Or.inl rfl) (pe_dget (hu_of hr) (pe_fld (pv 0) rfl) (pe_ix ix_tupH (pv 2) pe_int (fun _ _=>rfl)) (fun _ _=>rfl)))
  (pss_cons (ps_expr (pe_mt m_Course_put T.cl_Course (pv 0) (hr.mono (by decide)) strictP.pass (pa_cons (pv 1) (pa_cons (pv 5) (pa_cons (pe_op op_add (pe_ix ix_listH (pv 1) (pv 5) (fun _ _=>rfl)) (pe_ix ix_listH (pv 1) (pv 4) (fun _ _=>rfl))) pa_nil (se rfl)) (se rfl)) (se rfl)) (hst:=se rfl) (hpl:=na rfl)))
  (pss_one (ps_asg pe_int (pg_sub (pv 1) (pv 4) set_list)))))))))))),?_⟩
  refine(?_:let G_:Prop:=_;G_)
  intro G_
  obtain⟨dx,sp,mo,wh,tb,us,ft,h1,h2,h3,h4,h5,h6⟩:=id co
  dsimp only[G_]
  have h1:=hid_sub _ _ h1
  have h2:=hid_sub _ _ h2
  have lp:∀{a b c d e:V},List.lookup (Str.ofString "put") [(Str.ofString "spots",a),(Str.ofString "mosts",b),(Str.ofString "first",c),(Str.ofString "whats",d),(Str.ofString "tables",e)]=none:=lk_no (by decide +kernel) (by decide +kernel) (by decide +kernel) (by decide +kernel) (by decide +kernel)
  cases d with
  | set n k=>
   refine(?_:let G_:Prop:=_;G_)
   intro G_
   obtain⟨p,x1,x2,x3,rfl,hp,r1,r2,r3⟩:=rep_t3.mp (show Rep (hid H l) (.tup _) dv from rd)
   rw[rep_str] at r1 r2
   rw[rep_int] at r3
   subst r1 r2 r3
   dsimp only[G_]
   have hp:=hid_sub _ _ hp
   have sl:=spot_lt (cs:=g.cs) gd
   change tSeq _ _ _ [some (.ref c),some (.ref l),some (.ref p),some (.int v),none,none] H
   refine seq_gen (fun σ' H'=>H=H'∧σ'=[some (.ref c),some (.ref l),some (.ref p),some (.int v),some (.int ((spot g.cs n:Nat):Int)),none]) ?_ (fun N hN=>by simp_all only[tFld,hp];exact⟨_,_,_,h1,T.cl_Course,T.na_Course_spots,_,lk_sp,_,rfl,_,sp_get h2 gd,hN _ _ ⟨rfl,rfl⟩⟩)
   rintro _ _ ⟨rfl,rfl⟩
   refine if_yes (fun Y N k=>by simp_all only[hp];first | exact k | (rw[if_pos (by decide +kernel)];exact k)) ?_
   simp_all only[tFld,tMeth,spPut,hp]
   exact⟨_,_,h1,lp,_,rfl,_,co,_,hl,sl,ln,kk⟩
  | plus n k=>
   refine(?_:let G_:Prop:=_;G_)
   intro G_
   obtain⟨p,x1,x2,x3,rfl,hp,r1,r2,r3⟩:=rep_t3.mp (show Rep (hid H l) (.tup _) dv from rd)
   rw[rep_str] at r1 r2
   rw[rep_int] at r3
   subst r1 r2 r3
   dsimp only[G_]
   have hp:=hid_sub _ _ hp
   have sl:=spot_lt (cs:=g.cs) gd
   change tSeq _ _ _ [some (.ref c),some (.ref l),some (.ref p),some (.int v),none,none] H
   refine seq_gen (fun σ' H'=>H=H'∧σ'=[some (.ref c),some (.ref l),some (.ref p),some (.int v),some (.int ((spot g.cs n:Nat):Int)),none]) ?_ (fun N hN=>by simp_all only[tFld,hp];exact⟨_,_,_,h1,T.cl_Course,T.na_Course_spots,_,lk_sp,_,rfl,_,sp_get h2 gd,hN _ _ ⟨rfl,rfl⟩⟩)
   rintro _ _ ⟨rfl,rfl⟩
   refine if_no (fun Y N k=>by simp_all only[hp];first | exact k | (rw[if_neg (by decide +kernel)];exact k)) (if_yes (fun Y N k=>by simp_all only[hp];first | exact k | (rw[if_pos (by decide +kernel)];exact k)) ?_)
   simp_all only[tFld,tMeth,spPut,hp]
   exact⟨_,_,h1,lp,_,hl,_,at_ints (by omega),_,rfl,_,rfl,_,co,_,hl,sl,ln,kk⟩
  | face n=>
   refine(?_:let G_:Prop:=_;G_)
   intro G_
   obtain⟨p,x1,x2,rfl,hp,r1,r2⟩:=rep_t2.mp (show Rep (hid H l) (.tup _) dv from rd)
   rw[rep_str] at r1 r2
   subst r1 r2
   dsimp only[G_]
   have hp:=hid_sub _ _ hp
   have sl:=spot_lt (cs:=g.cs) gd
   change tSeq _ _ _ [some (.ref c),some (.ref l),some (.ref p),some (.int v),none,none] H
   refine seq_gen (fun σ' H'=>H=H'∧σ'=[some (.ref c),some (.ref l),some (.ref p),some (.int v),some (.int ((spot g.cs n:Nat):Int)),none]) ?_ (fun N hN=>by simp_all only[tFld,hp];exact⟨_,_,_,h1,T.cl_Course,T.na_Course_spots,_,lk_sp,_,rfl,_,sp_get h2 gd,hN _ _ ⟨rfl,rfl⟩⟩)
   rintro _ _ ⟨rfl,rfl⟩
   refine if_no (fun Y N k=>by simp_all only[hp];first | exact k | (rw[if_neg (by decide +kernel)];exact k)) (if_no (fun Y N k=>by simp_all only[hp];first | exact k | (rw[if_neg (by decide +kernel)];exact k)) (if_yes (fun Y N k=>by simp_all only[hp];first | exact k | (rw[if_pos (by decide +kernel)];exact k)) ?_))
   simp_all only[tFld,tMeth,spPut,hp]
   exact⟨_,_,h1,lp,_,hl,_,at_ints (by omega),_,rfl,_,rfl,_,co,_,hl,sl,ln,kk⟩
  | move n m=>
   refine(?_:let G_:Prop:=_;G_)
   intro G_
   obtain⟨p,x1,x2,x3,rfl,hp,r1,r2,r3⟩:=rep_t3.mp (show Rep (hid H l) (.tup _) dv from rd)
   rw[rep_str] at r1 r2 r3
   subst r1 r2 r3
   dsimp only[G_]
   have hp:=hid_sub _ _ hp
   have sl:=spot_lt (cs:=g.cs) gd.1
   have sl2:=spot_lt (cs:=g.cs) gd.2
   change tSeq _ _ _ [some (.ref c),some (.ref l),some (.ref p),some (.int v),none,none] H
   refine seq_gen (fun σ' H'=>H=H'∧σ'=[some (.ref c),some (.ref l),some (.ref p),some (.int v),some (.int ((spot g.cs n:Nat):Int)),none]) ?_ (fun N hN=>by simp_all only[tFld,hp];exact⟨_,_,_,h1,T.cl_Course,T.na_Course_spots,_,lk_sp,_,rfl,_,sp_get h2 gd.1,hN _ _ ⟨rfl,rfl⟩⟩)
   rintro _ _ ⟨rfl,rfl⟩
   refine if_no (fun Y N k=>by simp_all only[hp];first | exact k | (rw[if_neg (by decide +kernel)];exact k)) (if_no (fun Y N k=>by simp_all only[hp];first | exact k | (rw[if_neg (by decide +kernel)];exact k)) (if_no (fun Y N k=>by simp_all only[hp];first | exact k | (rw[if_neg (by decide +kernel)];exact k)) ?_))
   simp_all only[tFld,tMeth,spPut,hp]
   refine⟨_,_,_,h1,T.cl_Course,T.na_Course_spots,_,lk_sp,_,rfl,_,sp_get h2 gd.2,_,_,h1,lp,_,_,rfl,hl,_,at_ints (by omega),_,hl,_,at_ints (by omega),_,rfl,_,rfl,_,rfl,_,co,_,hl,sl2,ln,_,upd_same,_,ixN_nat (by rw[List.length_map,putC_len];omega),?_⟩
   rw[upd_upd,←List.map_set]
   exact kk
theorem sc_Course_asked:FnScope ["self","name","counts","what"] ["self","name","counts"] (defScope (inClass (top 41) 3)):=⟨rfl,rfl,rfl,by decide +kernel,rfl,by decide +kernel,by decide +kernel⟩
theorem ok_ask (T:Txt K mg q_LuckError q_NoShare q_NoTable q_NoEnd q_TooMany q_NoStep q_NoPlay q_Course q_Play):MtCal P w K mg base (CX1 P w) 1 q_Course "asked" ["self","name","counts"] (spAsk q_Course):=by
 refine T.dm_Course_asked.cal (fun _ _ _ _ _ _=>us_3 fun _ _ _=>rfl) fun f fd F=>F.okC sc_Course_asked (fun vs H Q E h=>?_) (fun cdv A outer s H vs Q E hr h=>?_)
 ·obtain⟨_,_,_,_,_,_,_,rfl,_⟩:=h;rfl
 ·refine(?_:let G_:Prop:=_;G_)
  intro G_
  obtain⟨c,nm,l,g,ns,fu,nm',rfl,co,gg,hl,ln,ak,kk⟩:=h
  dsimp only[G_]
  clear G_
  have nd:=sc_Course_asked.nd
  refine⟨_,(pss_cons (ps_set (i:=3) nd rfl (Or.inl rfl) (pe_dget (hu_of hr) (pe_fld (pv 0) rfl) (pv 1) (fun _ _=>rfl)))
  (pss_cons (ps_while PassesOwn.never (pt_cmpR op_eq (pe_ix ix_tupH (pv 3) pe_int (fun _ _=>rfl)) pe_str (nomark _)) (pss_cons (ps_set (i:=1) nd rfl (Or.inl rfl) (pe_ifExp (pt_cmpR op_ge (pe_ix ix_listH (pv 2) (pe_dget (hu_of hr) (pe_fld (pv 0) rfl) (pe_ix ix_tupH (pv 3) pe_int (fun _ _=>rfl)) (fun _ _=>rfl)) (fun _ _=>rfl)) (pe_ix ix_tupH (pv 3) pe_int (fun _ _=>rfl)) (nomark _)) (pe_ix ix_tupH (pv 3) pe_int (fun _ _=>rfl)) (pe_ix ix_tupH (pv 3) pe_int (fun _ _=>rfl))))
  (pss_one (ps_set (i:=3) nd rfl (Or.inl rfl) (pe_dget (hu_of hr) (pe_fld (pv 0) rfl) (pv 1) (fun _ _=>rfl))))))
  (pss_one (ps_ret (pe_tupS (pa_cons (pv 1) (pa_cons (pv 2) pa_nil (se rfl)) (se rfl))))))),?_⟩
  refine(?_:let q0_:TS:=_;let q1_:TS:=_;let q2_:TS:=_;tSeq q0_ (tSeq q1_ q2_) _ _ _)
  intro q0_ q1_ q2_
  refine(?_:let G_:Prop:=_;G_)
  intro G_
  obtain⟨dx,sp,mo,wh,tb,us,ft,h1,h2,h3,h4,h5,h6⟩:=id co
  dsimp only[G_]
  clear G_
  simp_all only[tFld]
  cases fu with
  | zero=>cases ak
  | succ fu=>
   rcases h5.val (n:=nm) with ⟨x,u,lk,vl,rx⟩ | ⟨lk,vl⟩
   ·refine⟨_,_,_,h1,T.cl_Course,T.na_Course_whats,_,lk_wh,_,rfl,_,.inl ⟨_,Sum.inr nm,.inl h4,rfl,vl.symm⟩,?_⟩
    refine while_m (fun m σ H'=>H=H'∧∃nm x u,askd g ns (m+1) nm=some nm'∧look g.ps nm=some x∧Rep H (wtD x) u∧σ=[some (V.ref c),some (V.str nm),some (V.ref l),some u]) (m:=fu) ⟨rfl,nm,x,u,ak,lk,rx,rfl⟩ ?_
    clear ak lk rx vl
    intro m σ H' p3_
    refine(?_:let G_:Prop:=_;G_)
    intro G_
    obtain⟨rfl,nm,x,u,ak,lk,rx,rfl⟩:=p3_
    dsimp only[G_]
    have gx:=gg.wt _ (look_mem lk)
    rw[askd,lk] at ak
    have fin:∀{p:Addr} {xs:List V} {y:Str},u=.ref p→H p=some (.tup (.str y::xs))→y≠Str.ofString "ask"→nm=nm'→∃b:Bool,(∀Q:Bool→Hp→Prop,Q b H→tTest (tOp rEq (tOp rIxTH (tVar 3) (tC (V.int 0))) (tC (V.str (Str.ofString "ask")))) [some (V.ref c),some (V.str nm),some (V.ref l),some u] H Q)∧b=false:=by
     intro p xs y e hp ny _
     refine⟨false,fun Q q=>?_,rfl⟩
     subst e
     simp_all only[hp]
     rw[decide_eq_false ny]
     exact q
    cases x with
    | ask c' k a b=>
     refine(?_:let G_:Prop:=_;G_)
     intro G_
     obtain⟨p,x1,x2,x3,x4,x5,rfl,hp,r1,r2,r3,r4,r5⟩:=rep_t5.mp (show Rep H (.tup _) u from rx)
     rw[rep_str] at r1 r2 r4 r5
     rw[rep_int] at r3
     subst r1 r2 r3 r4 r5
     dsimp only[G_]
     refine⟨true,fun Q q=>?_,?_⟩
     ·simp_all only[hp]
      rw[decide_eq_true trivial]
      exact q
     ·rw[if_pos rfl]
      have hs:=spot_lt (cs:=g.cs) gx
      have step:∀y,askd g ns m y=some nm'→∃m' x u,m'<m∧askd g ns (m'+1) y=some nm'∧look g.ps y=some x∧Rep H (wtD x) u∧DGet H wh (.str y) (some u):=by
       intro y hy
       cases m with
       | zero=>cases hy
       | succ m'=>
        rcases h5.val (n:=y) with ⟨x,u,lk',vl,rx'⟩ | ⟨lk',vl⟩
        ·exact⟨m',x,u,Nat.lt_succ_self _,hy,lk',rx',.inl ⟨_,Sum.inr y,.inl h4,rfl,vl.symm⟩⟩
        ·rw[askd,lk'] at hy
         cases hy
      have ak:(if k≤ns.getD (spot g.cs c') 0 then askd g ns m a else askd g ns m b)=some nm':=ak
      simp_all only[tFld,hp]
      refine⟨_,_,_,h1,T.cl_Course,T.na_Course_spots,_,lk_sp,_,rfl,_,sp_get h2 gx,_,_,rfl,hl,_,at_ints (by omega),_,rfl,ite2 (fun c1=>?_) (fun c1=>?_)⟩
      ·rw[if_pos c1] at ak
       refine(?_:let G_:Prop:=_;G_)
       intro G_
       obtain⟨m',x,u,l1,l2,l3,l4,l5⟩:=step a ak
       dsimp only[G_]
       refine⟨_,rfl,_,_,_,h1,T.cl_Course,T.na_Course_whats,_,lk_wh,_,rfl,_,l5,?_⟩
       exact⟨m',l1,a,l2,x,l3,u,l4,rfl,rfl⟩
      ·rw[if_neg c1] at ak
       refine(?_:let G_:Prop:=_;G_)
       intro G_
       obtain⟨m',x,u,l1,l2,l3,l4,l5⟩:=step b ak
       dsimp only[G_]
       refine⟨_,rfl,_,_,_,h1,T.cl_Course,T.na_Course_whats,_,lk_wh,_,rfl,_,l5,?_⟩
       exact⟨m',l1,b,l2,x,l3,u,l4,rfl,rfl⟩
    | fin t b=>
     refine(?_:let G_:Prop:=_;G_)
     intro G_
     obtain⟨p,x1,x2,rfl,hp,r1,r2⟩:=rep_t2.mp (show Rep H (.tup _) u from rx)
     rw[rep_str] at r1
     subst r1
     have e:nm=nm':=by injection ak
     obtain⟨b',k1,rfl⟩:=fin rfl hp (by decide +kernel) e
     dsimp only[G_]
     refine⟨false,k1,?_⟩
     rw[if_neg (by decide)]
     simp_all only[]
     exact⟨by decide,fun p H2 s2 np e2=>kk p H2 s2 np (by rw[←e];exact e2)⟩
    | score c'=>
     refine(?_:let G_:Prop:=_;G_)
     intro G_
     obtain⟨p,x1,x2,rfl,hp,r1,r2⟩:=rep_t2.mp (show Rep H (.tup _) u from rx)
     rw[rep_str] at r1
     subst r1
     have e:nm=nm':=by injection ak
     obtain⟨b',k1,rfl⟩:=fin rfl hp (by decide +kernel) e
     dsimp only[G_]
     refine⟨false,k1,?_⟩
     rw[if_neg (by decide)]
     simp_all only[]
     exact⟨by decide,fun p H2 s2 np e2=>kk p H2 s2 np (by rw[←e];exact e2)⟩
    | pick w' rs=>
     refine(?_:let G_:Prop:=_;G_)
     intro G_
     obtain⟨p,x1,x2,x3,rfl,hp,r1,r2,r3⟩:=rep_t3.mp (show Rep H (.tup _) u from rx)
     rw[rep_str] at r1
     subst r1
     have e:nm=nm':=by injection ak
     obtain⟨b',k1,rfl⟩:=fin rfl hp (by decide +kernel) e
     dsimp only[G_]
     refine⟨false,k1,?_⟩
     rw[if_neg (by decide)]
     simp_all only[]
     exact⟨by decide,fun p H2 s2 np e2=>kk p H2 s2 np (by rw[←e];exact e2)⟩
    | thr pool t b rs=>
     refine(?_:let G_:Prop:=_;G_)
     intro G_
     obtain⟨p,x1,x2,x3,x4,rfl,hp,r1,r2,r3,r4⟩:=rep_t4.mp (show Rep H (.tup _) u from rx)
     rw[rep_str] at r1
     subst r1
     have e:nm=nm':=by injection ak
     obtain⟨b',k1,rfl⟩:=fin rfl hp (by decide +kernel) e
     dsimp only[G_]
     refine⟨false,k1,?_⟩
     rw[if_neg (by decide)]
     simp_all only[]
     exact⟨by decide,fun p H2 s2 np e2=>kk p H2 s2 np (by rw[←e];exact e2)⟩
   ·rw[askd,lk] at ak
    cases ak
theorem sc_Course_holds:FnScope ["self","when","counts","number"] ["self","when","counts"] (defScope (inClass (top 41) 9)):=⟨rfl,rfl,rfl,by decide +kernel,rfl,by decide +kernel,by decide +kernel⟩
theorem ok_hol (T:Txt K mg q_LuckError q_NoShare q_NoTable q_NoEnd q_TooMany q_NoStep q_NoPlay q_Course q_Play):MtCal P w K mg base (CX1 P w) 1 q_Course "holds" ["self","when","counts"] (spHol q_Course):=by
 refine T.dm_Course_holds.cal (fun _ _ _ _ _ _=>us_3 fun _ _ _=>rfl) fun f fd F=>F.okC sc_Course_holds (fun vs H Q E h=>?_) (fun cdv A outer s H vs Q E hr h=>?_)
 ·obtain⟨_,_,_,_,_,_,rfl,_⟩:=h;rfl
 ·refine(?_:let G_:Prop:=_;G_)
  intro G_
  obtain⟨c,v,l,g,ns,wh',rfl,co,rv,hl,ln,kk⟩:=h
  dsimp only[G_]
  have nd:=sc_Course_holds.nd
  refine⟨_,(pss_cons (ps_if (pt_cmpR op_isN (pv 1) pe_non (nomark _)) (pss_one (ps_ret pe_bl))
   pss_nil)
  (pss_cons (ps_if (pt_cmp (pc_dnotin (hu_of hr) (pe_ix ix_tupH (pv 1) pe_int (fun _ _=>rfl)) (pe_fld (pv 0) rfl))) (pss_one (ps_ret pe_bl))
   pss_nil)
  (pss_cons (ps_set (i:=3) nd rfl (Or.inl rfl) (pe_ix ix_listH (pv 2) (pe_dget (hu_of hr) (pe_fld (pv 0) rfl) (pe_ix ix_tupH (pv 1) pe_int (fun _ _=>rfl)) (fun _ _=>rfl)) (fun _ _=>rfl)))
  (pss_one (ps_ret (pe_ifExp (pt_cmpR op_eq (pe_ix ix_tupH (pv 1) pe_int (fun _ _=>rfl)) pe_str (nomark _)) (pe_cmpR op_ge (pv 3) (pe_ix ix_tupH (pv 1) pe_int (fun _ _=>rfl)) (nomark _)) (pe_cmpR op_lt (pv 3) (pe_ix ix_tupH (pv 1) pe_int (fun _ _=>rfl)) (nomark _)))))))),?_⟩
  refine(?_:let q0_:TS:=_;let q1_:TS:=_;let q2_:TS:=_;let q3_:TS:=_;tSeq q0_ (tSeq q1_ (tSeq q2_ q3_)) _ _ _)
  intro q0_ q1_ q2_ q3_
  refine(?_:let G_:Prop:=_;G_)
  intro G_
  obtain⟨dx,sp,mo,wh,tb,us,ft,h1,h2,h3,h4,h5,h6⟩:=id co
  dsimp only[G_]
  cases wh' with
  | none=>
   have e:v=.non:=by rw[whD,Rep] at rv;exact rv
   subst e
   simp_all only[]
   exact kk
  | some x=>
   refine(?_:let G_:Prop:=_;G_)
   intro G_
   obtain⟨a,b,k⟩:=x
   obtain⟨p,x1,x2,x3,rfl,hp,r1,r2,r3⟩:=rep_t3.mp (show Rep H (.tup _) v from rv)
   rw[rep_str] at r1 r2
   rw[rep_int] at r3
   subst r1 r2 r3
   dsimp only[G_]
   simp_all only[tFld,hp]
   rw[if_neg (by intro z;cases z)]
   by_cases hn:a∈g.cs.map (·.1)
   ·have hs:=spot_lt hn
    refine⟨_,_,_,h1,T.cl_Course,T.na_Course_spots,_,lk_sp,_,rfl,_,sp_get h2 hn,?_⟩
    rw[if_neg (by simp)]
    refine⟨_,_,_,h1,T.cl_Course,T.na_Course_spots,_,lk_sp,_,rfl,_,sp_get h2 hn,_,_,rfl,hl,_,at_ints (by omega),?_⟩
    have kk:Q (.bl (if a∈g.cs.map (·.1) then (if b=Str.ofString "from" then decide (k≤ns.getD (spot g.cs a) 0) else decide (ns.getD (spot g.cs a) 0<k)) else false)) H:=kk
    rw[if_pos hn] at kk
    by_cases c1:b=Str.ofString "from"
    ·rw[if_pos c1] at kk ⊢
     exact⟨_,rfl,kk⟩
    ·rw[if_neg c1] at kk ⊢
     exact⟨_,rfl,kk⟩
   ·refine⟨_,_,_,h1,T.cl_Course,T.na_Course_spots,_,lk_sp,_,rfl,_,.inl ⟨_,Sum.inr a,.inl h2,rfl,rfl⟩,?_⟩
    rw[spK_none hn,if_pos (by rfl)]
    have kk:Q (.bl (if a∈g.cs.map (·.1) then (if b=Str.ofString "from" then decide (k≤ns.getD (spot g.cs a) 0) else decide (ns.getD (spot g.cs a) 0<k)) else false)) H:=kk
    rw[if_neg hn] at kk
    exact kk
theorem sc_Course_start:FnScope ["self"] ["self"] (defScope (inClass (top 41) 4)):=⟨rfl,rfl,rfl,by decide +kernel,rfl,by decide +kernel,by decide +kernel⟩
theorem ok_sta (T:Txt K mg q_LuckError q_NoShare q_NoTable q_NoEnd q_TooMany q_NoStep q_NoPlay q_Course q_Play):MtCal P w K mg base (CX1 P w) 2 q_Course "start" ["self"] (spSta q_Course):=by
 have m_Course_asked:MtCal P w K mg base (CX1 P w) 1 q_Course "asked" ["self","name","counts"] (spAsk q_Course):=ok_ask T
 refine T.dm_Course_start.cal (fun _ _ _ _ _ _=>us_1 fun _=>rfl) fun f fd F=>F.okC sc_Course_start (fun vs H Q E h=>?_) (fun cdv A outer s H vs Q E hr h=>?_)
 ·obtain⟨_,_,_,_,_,rfl,_⟩:=h;rfl
 ·refine(?_:let G_:Prop:=_;G_)
  intro G_
  obtain⟨c,g,fu,ft,nm',rfl,co,gg,hf,ak,kk⟩:=h
  dsimp only[G_]
  have nd:=sc_Course_start.nd
  refine⟨_,(pss_one (ps_ret (pe_mt m_Course_asked T.cl_Course (pv 0) (hr.mono (by decide)) strictP.pass (pa_cons (pe_fld (pv 0) rfl) (pa_cons (pe_op op_rep (pe_lst (pa_cons pe_int pa_nil (se rfl))) (pe_callB call_lenL (by rfl) T.z_len PySem.boot_len (pa_cons (pe_fld (pv 0) rfl) pa_nil (se rfl)) (he:=se rfl) (hpl:=na rfl))) pa_nil (se rfl)) (se rfl)) (hst:=se rfl) (hpl:=na rfl)))),?_⟩
  have sl:=sizeLine_eq
  have lc:=gg.lc
  refine(?_:let G_:Prop:=_;G_)
  intro G_
  obtain⟨dx,sp,mo,wh,tb,us,ft',h1,h2,h3,h4,h5,h6⟩:=id co
  dsimp only[G_]
  rw[h6] at hf
  cases hf
  have lp:∀{a b c d e:V},List.lookup (Str.ofString "asked") [(Str.ofString "spots",a),(Str.ofString "mosts",b),(Str.ofString "first",c),(Str.ofString "whats",d),(Str.ofString "tables",e)]=none:=lk_no (by decide +kernel) (by decide +kernel) (by decide +kernel) (by decide +kernel) (by decide +kernel)
  simp_all only[tFld,tMeth,spAsk,rRep]
  refine⟨_,_,h1,lp,_,_,_,h1,T.cl_Course,T.na_Course_first,_,lk_fi,by decide,fun p np=>?_⟩
  have sp':=same_upd (o:=.lst [V.int 0]) np
  refine⟨_,_,_,sp' _ _ h1,T.cl_Course,T.na_Course_mosts,_,lk_mo,_,rfl,_,sp' _ _ h3,_,upd_same,by simp only[List.length_map];omega,by simp only[List.length_map];omega,by simp only[List.length_map,List.length_cons,List.length_nil];omega,fun l nl=>?_⟩
  have el:(List.replicate (((List.map V.int (List.map (fun x=>x.snd) g.cs)).length:Nat):Int).toNat [V.int 0]).flatten=List.map V.int (List.replicate g.cs.length 0):=by rw[flat_rep,Int.toNat_natCast,List.length_map,List.length_map]
  rw[el]
  have sl':=sp'.trans (same_upd (o:=.lst (List.map V.int (List.replicate g.cs.length 0))) nl)
  exact⟨_,rfl,g,co.mono sl',gg,_,upd_same,by simp,fu,nm',ak,fun a H' s' na e'=>kk a l H' (sl'.trans s') (none_of sl' na) (none_of sp' nl) e' (s' _ _ upd_same)⟩
theorem sc_Course_what_at:FnScope ["self","state"] ["self","state"] (defScope (inClass (top 41) 5)):=⟨rfl,rfl,rfl,by decide +kernel,rfl,by decide +kernel,by decide +kernel⟩
theorem ok_wat (T:Txt K mg q_LuckError q_NoShare q_NoTable q_NoEnd q_TooMany q_NoStep q_NoPlay q_Course q_Play):MtCal P w K mg base (CX1 P w) 1 q_Course "what_at" ["self","state"] (spWat q_Course):=by
 refine T.dm_Course_what_at.cal (fun _ _ _ _ _ _=>us_2 fun _ _=>rfl) fun f fd F=>F.okC sc_Course_what_at (fun vs H Q E h=>?_) (fun cdv A outer s H vs Q E hr h=>?_)
 ·obtain⟨_,_,_,_,_,_,_,rfl,_⟩:=h;rfl
 ·refine(?_:let G_:Prop:=_;G_)
  intro G_
  obtain⟨c,v,H0,g,nm,ns,x,rfl,s0,co,⟨a,l,rfl,ha,hl⟩,lk,kk⟩:=h
  dsimp only[G_]
  have nd:=sc_Course_what_at.nd
  refine⟨_,(pss_one (ps_ret (pe_dget (hu_of hr) (pe_fld (pv 0) rfl) (pe_ix ix_tupH (pv 1) pe_int (fun _ _=>rfl)) (fun _ _=>rfl)))),?_⟩
  refine(?_:let G_:Prop:=_;G_)
  intro G_
  obtain⟨dx,sp,mo,wh,tb,us,ft',h1,h2,h3,h4,h5,h6⟩:=id co
  dsimp only[G_]
  simp_all only[tFld,ha]
  rcases h5.val (n:=nm) with ⟨x',u,lk',vl,rx⟩ | ⟨lk',vl⟩
  ·rw[lk] at lk'
   cases lk'
   exact⟨_,_,_,s0 _ _ h1,T.cl_Course,T.na_Course_whats,_,lk_wh,_,rfl,_,.inl ⟨_,Sum.inr nm,.inl (s0 _ _ h4),rfl,vl.symm⟩,kk u rx⟩
  ·rw[lk] at lk'
   cases lk'
theorem sc_Course_by_row:FnScope ["self","state","row","value","counts","deed"] ["self","state","row","value"] (defScope (inClass (top 41) 6)):=⟨rfl,rfl,rfl,by decide +kernel,rfl,by decide +kernel,by decide +kernel⟩
theorem ok_byr (T:Txt K mg q_LuckError q_NoShare q_NoTable q_NoEnd q_TooMany q_NoStep q_NoPlay q_Course q_Play):MtCal P w K mg base (CX1 P w) 3 q_Course "by_row" ["self","state","row","value"] (spByR q_Course):=by
 have m_Course_do:MtCal P w K mg base (CX1 P w) 2 q_Course "do" ["self","counts","deed","value"] (spDo q_Course):=ok_do T
 have m_Course_asked:MtCal P w K mg base (CX1 P w) 1 q_Course "asked" ["self","name","counts"] (spAsk q_Course):=ok_ask T
 refine T.dm_Course_by_row.cal (fun _ _ _ _ _ _=>us_4 fun _ _ _ _=>rfl) fun f fd F=>F.okC sc_Course_by_row (fun vs H Q E h=>?_) (fun cdv A outer s H vs Q E hr h=>?_)
 ·obtain⟨_,_,_,_,_,_,_,_,_,_,_,_,_,rfl,_⟩:=h;rfl
 ·refine(?_:let G_:Prop:=_;G_)
  intro G_
  obtain⟨c,sv,rv,v,g,nm,ns,a,b,ds,to,fu,nm',rfl,co,gg,⟨sa,l,rfl,hsa,hl⟩,rr,gd,ld,ln,ak,kk⟩:=h
  dsimp only[G_]
  have nd:=sc_Course_by_row.nd
  refine⟨_,(pss_cons (ps_set (i:=4) nd rfl (Or.inl rfl) (pe_callTy (call_list_ofK (K:=K)) (by rfl) T.z_list rfl (pa_cons (pe_ix ix_tupH (pv 1) pe_int (fun _ _=>rfl)) pa_nil (se rfl)) (he:=se rfl) (hpl:=na rfl)))
  (pss_cons (ps_for PassesOwn.never rfl (pi_listK (K:=K) (pe_ix ix_tupH (pv 2) pe_int (fun _ _=>rfl))) (pg_name (i:=5) nd rfl (Or.inl rfl)) (pss_one (ps_expr (pe_mt m_Course_do T.cl_Course (pv 0) (hr.mono (by decide)) strictP.pass (pa_cons (pv 4) (pa_cons (pv 5) (pa_cons (pv 3) pa_nil (se rfl)) (se rfl)) (se rfl)) (hst:=se rfl) (hpl:=na rfl)))))
  (pss_one (ps_ret (pe_mt m_Course_asked T.cl_Course (pv 0) (hr.mono (by decide)) strictP.pass (pa_cons (pe_ix ix_tupH (pv 2) pe_int (fun _ _=>rfl)) (pa_cons (pv 4) pa_nil (se rfl)) (se rfl)) (hst:=se rfl) (hpl:=na rfl)))))),?_⟩
  refine(?_:let q0_:TS:=_;let q1_:TS:=_;let q2_:TS:=_;tSeq q0_ (tSeq q1_ q2_) _ _ _)
  intro q0_ q1_ q2_
  have sl:=sizeLine_eq
  have lc:=gg.lc
  refine(?_:let G_:Prop:=_;G_)
  intro G_
  obtain⟨dx,sp,mo,wh,tb,us,ft',h1,h2,h3,h4,h5,h6⟩:=id co
  obtain⟨rp,x1,x2,x3,x4,rfl,hrp,r1,r2,r3,r4⟩:=rep_t4.mp (show Rep H (.tup _) rv from rr)
  rw[rep_str] at r4
  subst r4
  obtain⟨dl,dvs,rfl,hdl,rdl⟩:=rep_lst.mp r3
  dsimp only[G_]
  have lp:∀{a b c d e:V},List.lookup (Str.ofString "asked") [(Str.ofString "spots",a),(Str.ofString "mosts",b),(Str.ofString "first",c),(Str.ofString "whats",d),(Str.ofString "tables",e)]=none:=lk_no (by decide +kernel) (by decide +kernel) (by decide +kernel) (by decide +kernel) (by decide +kernel)
  have lp2:∀{a b c d e:V},List.lookup (Str.ofString "do") [(Str.ofString "spots",a),(Str.ofString "mosts",b),(Str.ofString "first",c),(Str.ofString "whats",d),(Str.ofString "tables",e)]=none:=lk_no (by decide +kernel) (by decide +kernel) (by decide +kernel) (by decide +kernel) (by decide +kernel)
  change tSeq _ _ _ [some (.ref c),some (.ref sa),some (.ref rp),some (.int v),none,none] H
  refine seq_c (fun N=>∀H1 m,H m=none→Same H H1→hid H1 m=H→H1 m=some (.lst (List.map V.int ns))→N [some (.ref c),some (.ref sa),some (.ref rp),some (.int v),some (.ref m),none] H1) ?_ (fun N hN=>?_)
  case refine_2=>
   simp_all only[hsa]
   exact⟨_,.inl (SqL.of hl),fun m nm=>hN _ m nm (same_upd nm) (by rw[hid_hid',hid_none nm]) upd_same⟩
  rintro H1 m nm0 s1 hh hm
  have dlen:=rdl.length
  rw[List.length_map] at dlen
  change tSeq _ _ _ [some (.ref c),some (.ref sa),some (.ref rp),some (.int v),some (.ref m),none] H1
  refine seq_c (fun N=>∀H2,hid H2 m=H→H2 m=some (.lst (List.map V.int (ds.foldl (doD g.cs v) ns)))→∀z,N [some (.ref c),some (.ref sa),some (.ref rp),some (.int v),some (.ref m),z] H2) ?_ (fun N hN=>?_)
  case refine_2=>
   simp_all only[s1 _ _ hrp]
   refine⟨⟨_,SqL.of (s1 _ _ hdl)⟩,for_src (src_list (Ok:=fun H'=>hid H' m=H) (fun H' e=>SqL.of (hid_same e _ _ hdl))) (fun i σ H'=>hid H' m=H∧H' m=some (.lst (List.map V.int ((ds.take i).foldl (doD g.cs v) ns)))∧∃z,σ=[some (.ref c),some (.ref sa),some (.ref rp),some (.int v),some (.ref m),z]) ⟨hh,by rw[List.take_zero];exact hm,_,rfl⟩ (fun _ _ _ _ h=>h.1) ?_ ?_⟩
   ·intro i x σ H3 H2 hi p6_ p7_
    refine(?_:let G_:Prop:=_;G_)
    intro G_
    obtain⟨e2,hm2,z,rfl⟩:=p6_
    obtain⟨rfl,ex⟩:=p7_
    obtain⟨dd,ed,rd⟩:=rdl.get ex
    rw[List.getElem?_map] at ed
    obtain⟨d,e0,rfl⟩:=Option.map_eq_some_iff.mp ed
    dsimp only[G_]
    have s2:=hid_same e2
    simp_all only[tMeth,spDo]
    refine⟨_,_,s2 _ _ h1,lp2,g,by rw[e2];exact co,_,hm2,d,by rw[e2];exact rd,gd d (List.mem_of_getElem? e0),by rw[foldD_len];exact ln,by rw[hid_hid'];exact e2,?_,_,rfl⟩
    rw[upd_same,List.take_add_one,e0,Option.toList_some,List.foldl_append]
    rfl
   ·intro σ H2 p2_
    refine(?_:let G_:Prop:=_;G_)
    intro G_
    obtain⟨e2,hm2,z,rfl⟩:=p2_
    dsimp only[G_]
    rw[←dlen,List.take_of_length_le (Nat.le_refl _)] at hm2
    exact hN _ e2 hm2 _
  rintro H2 e2 hm2 z
  have s2:=hid_same e2
  have lns:(ds.foldl (doD g.cs v) ns).length=g.cs.length:=by rw[foldD_len];exact ln
  simp_all only[tMeth,spAsk,s2 _ _ hrp]
  exact⟨_,_,s2 _ _ h1,lp,_,rfl,_,rfl,g,co.mono s2,gg,_,hm2,lns,fu,nm',ak,fun a H' s' na e'=>kk a m H' (s2.trans s') (none_of s2 na) nm0 e' (s' _ _ hm2)⟩
theorem sc_Course_open_rows:FnScope ["self","state","what"] ["self","state"] (defScope (inClass (top 41) 10)):=⟨rfl,rfl,rfl,by decide +kernel,rfl,by decide +kernel,by decide +kernel⟩
theorem ok_opn (T:Txt K mg q_LuckError q_NoShare q_NoTable q_NoEnd q_TooMany q_NoStep q_NoPlay q_Course q_Play):MtCal P w K mg base (CX1 P w) 2 q_Course "open_rows" ["self","state"] (spOpn q_Course):=by
 have m_Course_what_at:MtCal P w K mg base (CX1 P w) 1 q_Course "what_at" ["self","state"] (spWat q_Course):=ok_wat T
 have m_Course_holds:MtCal P w K mg base (CX1 P w) 1 q_Course "holds" ["self","when","counts"] (spHol q_Course):=ok_hol T
 refine T.dm_Course_open_rows.cal (fun _ _ _ _ _ _=>us_2 fun _ _=>rfl) fun f fd F=>F.okC sc_Course_open_rows (fun vs H Q E h=>?_) (fun cdv A outer s H vs Q E hr h=>?_)
 ·obtain⟨_,_,_,_,_,_,_,rfl,_⟩:=h;rfl
 ·refine(?_:let G_:Prop:=_;G_)
  intro G_
  obtain⟨c,v,H0,g,nm,ns,x,rfl,s0,co0,gg,st,ln,lk,kk⟩:=h
  dsimp only[G_]
  have co:=co0.mono s0
  have nd:=sc_Course_open_rows.nd
  refine⟨_,(pss_cons (ps_set (i:=2) nd rfl (Or.inl rfl) (pe_mt m_Course_what_at T.cl_Course (pv 0) (hr.mono (by decide)) strictP.pass (pa_cons (pv 1) pa_nil (se rfl)) (hst:=se rfl) (hpl:=na rfl)))
  (pss_cons (ps_if (pt_cmpR op_ne (pe_ix ix_tupH (pv 2) pe_int (fun _ _=>rfl)) pe_str (nomark _)) (pss_one (ps_ret (pe_lst pa_nil)))
   pss_nil)
  (pss_one (ps_ret (pe_comp rfl (N:=["self","state","what"]) (so:=defScope (inClass (top 41) 10)) (N':=["row","self","state"]) (k:=1) (fr:=[0,1]) rfl rfl ⟨rfl,by decide +kernel,by decide +kernel,by decide +kernel,rfl,by decide +kernel,by decide +kernel⟩ (pi_listK (K:=K) (pe_ix ix_tupH (pv 2) pe_int (fun _ _=>rfl))) (fun _ _ _ _ _=>(pg_name (i:=0) (show(["row","self","state"]:List Str).Nodup by decide +kernel) rfl (Or.inl rfl))) (fun _ _ _ _ _=>(pts_one (pt_val (pe_mt m_Course_holds T.cl_Course (pv 1) (hr.mono (by decide)) strictP.pass (pa_cons (pe_ix ix_tupH (pv 0) pe_int (fun _ _=>rfl)) (pa_cons (pe_ix ix_tupH (pv 2) pe_int (fun _ _=>rfl)) pa_nil (se rfl)) (se rfl)) (hst:=se rfl) (hpl:=na rfl)))))
   (fun _ _ _ _ _=>(pv 0))))))),?_⟩
  refine(?_:let q0_:TS:=_;let q1_:TS:=_;let q2_:TS:=_;tSeq q0_ (tSeq q1_ q2_) _ _ _)
  intro q0_ q1_ q2_
  have sl:=sizeLine_eq
  refine(?_:let G_:Prop:=_;G_)
  intro G_
  obtain⟨dx,sp,mo,wh,tb,us,ft',h1,h2,h3,h4,h5,h6⟩:=id co
  obtain⟨sa,l,rfl,hsa,hl⟩:=id st
  dsimp only[G_]
  have lp:∀{a b c d e:V},List.lookup (Str.ofString "what_at") [(Str.ofString "spots",a),(Str.ofString "mosts",b),(Str.ofString "first",c),(Str.ofString "whats",d),(Str.ofString "tables",e)]=none:=lk_no (by decide +kernel) (by decide +kernel) (by decide +kernel) (by decide +kernel) (by decide +kernel)
  have lp2:∀{a b c d e:V},List.lookup (Str.ofString "holds") [(Str.ofString "spots",a),(Str.ofString "mosts",b),(Str.ofString "first",c),(Str.ofString "whats",d),(Str.ofString "tables",e)]=none:=lk_no (by decide +kernel) (by decide +kernel) (by decide +kernel) (by decide +kernel) (by decide +kernel)
  have gx:=gg.wt _ (look_mem lk)
  change tSeq _ _ _ [some (.ref c),some (.ref sa),none] H
  refine seq_c (fun N=>∀u,Rep H0 (wtD x) u→N [some (.ref c),some (.ref sa),some u] H) ?_ (fun N hN=>?_)
  case refine_2=>
   simp_all only[tMeth,spWat]
   exact⟨_,_,h1,lp,H0,s0,g,co0,nm,ns,st,x,lk,fun u ru=>hN u ru⟩
  rintro u ru
  cases x with
  | pick w' rs=>
   refine(?_:let G_:Prop:=_;G_)
   intro G_
   obtain⟨p,x1,x2,x3,rfl,hp,r1,r2,r3⟩:=rep_t3.mp (show Rep H0 (.tup _) u from ru)
   rw[rep_str] at r1
   subst r1
   obtain⟨rl,xs,rfl,hrl,rxs⟩:=rep_lst.mp r3
   have len:=rxs.length
   rw[List.length_map,List.length_map] at len
   obtain⟨g1,g2⟩:=gx
   dsimp only[G_]
   have zl:(xs.zip rs).length=xs.length:=by rw[List.length_zip];omega
   simp_all only[s0 _ _ hp]
   refine⟨⟨_,SqL.of (s0 _ _ hrl)⟩,?_⟩
   have S:Src (Itl K rl) (Same H) xs.length _:=src_list (fun H' s'=>SqL.of (s' _ _ (s0 _ _ hrl)))
   rw[←zl] at S
   refine comp_vals (xs.zip rs) (fun x=>if holdsW g.cs ns x.2.wh=true then some x.1 else none) S (fun _ _ _ _ h=>h.1) (by omega) ?_ ?_
   ·rintro i ⟨x,r⟩ y exr ⟨_,ey⟩ Y N y1 y2
    obtain⟨e1,e2⟩:=List.getElem?_zip_eq_some.mp exr
    rw[e1] at ey
    cases ey
    refine(?_:let G_:Prop:=_;G_)
    intro G_
    obtain⟨r',p',a',b',c',d',er,rfl,hp',rb,_⟩:=rw4_get rxs e1
    dsimp only[G_]
    rw[e2] at er
    cases er
    simp_all only[tMeth,spHol,s0 _ _ hp',hsa]
    exact⟨_,_,h1,lp2,g,co,ns,_,rb.mono s0,hl,ln,ite2 (fun c=>y1 _ (if_pos c)) (fun c=>y2 (if_neg c))⟩
   ·intro D n1 n2
    exact kk D _ _ (same_upd n2) n2 upd_same (rep_filter rxs)
  | ask _ _ _ _=>
   refine(?_:let G_:Prop:=_;G_)
   intro G_
   obtain⟨p,x1,x2,x3,x4,x5,rfl,hp,r1,r2,r3,r4,r5⟩:=rep_t5.mp (show Rep H0 (.tup _) u from ru)
   rw[rep_str] at r1
   subst r1
   dsimp only[G_]
   simp_all only[s0 _ _ hp]
   rw[if_pos (by decide +kernel)]
   exact⟨Nat.zero_le _,fun D nD=>kk D _ _ (same_upd nD) nD upd_same (repL_nil.mpr rfl)⟩
  | fin _ _=>
   refine(?_:let G_:Prop:=_;G_)
   intro G_
   obtain⟨p,x1,x2,rfl,hp,r1,r2⟩:=rep_t2.mp (show Rep H0 (.tup _) u from ru)
   rw[rep_str] at r1
   subst r1
   dsimp only[G_]
   simp_all only[s0 _ _ hp]
   rw[if_pos (by decide +kernel)]
   exact⟨Nat.zero_le _,fun D nD=>kk D _ _ (same_upd nD) nD upd_same (repL_nil.mpr rfl)⟩
  | score _=>
   refine(?_:let G_:Prop:=_;G_)
   intro G_
   obtain⟨p,x1,x2,rfl,hp,r1,r2⟩:=rep_t2.mp (show Rep H0 (.tup _) u from ru)
   rw[rep_str] at r1
   subst r1
   dsimp only[G_]
   simp_all only[s0 _ _ hp]
   rw[if_pos (by decide +kernel)]
   exact⟨Nat.zero_le _,fun D nD=>kk D _ _ (same_upd nD) nD upd_same (repL_nil.mpr rfl)⟩
  | thr _ _ _ _=>
   refine(?_:let G_:Prop:=_;G_)
   intro G_
   obtain⟨p,x1,x2,x3,x4,rfl,hp,r1,r2,r3,r4⟩:=rep_t4.mp (show Rep H0 (.tup _) u from ru)
   rw[rep_str] at r1
   subst r1
   dsimp only[G_]
   simp_all only[s0 _ _ hp]
   rw[if_pos (by decide +kernel)]
   exact⟨Nat.zero_le _,fun D nD=>kk D _ _ (same_upd nD) nD upd_same (repL_nil.mpr rfl)⟩
theorem sc_Course_words_at:FnScope ["self","state"] ["self","state"] (defScope (inClass (top 41) 11)):=⟨rfl,rfl,rfl,by decide +kernel,rfl,by decide +kernel,by decide +kernel⟩
theorem ok_wds (T:Txt K mg q_LuckError q_NoShare q_NoTable q_NoEnd q_TooMany q_NoStep q_NoPlay q_Course q_Play):MtCal P w K mg base (CX1 P w) 3 q_Course "words_at" ["self","state"] (spWds q_Course):=by
 have m_Course_open_rows:MtCal P w K mg base (CX1 P w) 2 q_Course "open_rows" ["self","state"] (spOpn q_Course):=ok_opn T
 refine T.dm_Course_words_at.cal (fun _ _ _ _ _ _=>us_2 fun _ _=>rfl) fun f fd F=>F.okC sc_Course_words_at (fun vs H Q E h=>?_) (fun cdv A outer s H vs Q E hr h=>?_)
 ·obtain⟨_,_,_,_,_,_,rfl,_⟩:=h;rfl
 ·refine(?_:let G_:Prop:=_;G_)
  intro G_
  obtain⟨c,v,g,nm,ns,x,rfl,co,gg,st,ln,lk,kk⟩:=h
  dsimp only[G_]
  clear G_
  have nd:=sc_Course_words_at.nd
  refine⟨_,(pss_one (ps_ret (pe_comp rfl (N:=["self","state"]) (so:=defScope (inClass (top 41) 11)) (N':=["row"]) (k:=1) (fr:=[]) rfl rfl ⟨rfl,by decide +kernel,by decide +kernel,by decide +kernel,rfl,by decide +kernel,by decide +kernel⟩ (pi_listK (K:=K) (pe_mt m_Course_open_rows T.cl_Course (pv 0) (hr.mono (by decide)) strictP.pass (pa_cons (pv 1) pa_nil (se rfl)) (hst:=se rfl) (hpl:=na rfl))) (fun _ _ _ _ _=>(pg_name (i:=0) (show(["row"]:List Str).Nodup by decide +kernel) rfl (Or.inl rfl))) (fun _ _ _ _ _=>pts_nil)
   (fun _ _ _ _ _=>(pe_ix ix_tupH (pv 0) pe_int (fun _ _=>rfl)))))),?_⟩
  have sl:=sizeLine_eq
  refine(?_:let G_:Prop:=_;G_)
  intro G_
  obtain⟨dx,sp,mo,wh,tb,us,ft',h1,h2,h3,h4,h5,h6⟩:=id co
  dsimp only[G_]
  clear G_
  have lp:∀{a b c d e:V},List.lookup (Str.ofString "open_rows") [(Str.ofString "spots",a),(Str.ofString "mosts",b),(Str.ofString "first",c),(Str.ofString "whats",d),(Str.ofString "tables",e)]=none:=lk_no (by decide +kernel) (by decide +kernel) (by decide +kernel) (by decide +kernel) (by decide +kernel)
  have gx:=gg.wt _ (look_mem lk)
  have few:(openR g.cs ns x).length≤100:=by
   cases x with
   | pick w' rs=>exact Nat.le_trans (List.length_filter_le _ _) gx.1
   | _=>exact Nat.zero_le _
  simp_all only[tMeth,spOpn]
  refine⟨_,_,h1,lp,H,Same.refl _,g,co,gg,nm,ns,st,ln,x,lk,fun rl xs H1 s1 n1 hrl rxs0=>?_⟩
  generalize openR g.cs ns x=rs at *
  have rxs:=rxs0.mono s1
  have len:=rxs.length
  rw[List.length_map,List.length_map] at len
  have zl:(xs.zip rs).length=xs.length:=by rw[List.length_zip];omega
  refine⟨⟨_,SqL.of hrl⟩,?_⟩
  have S:Src (Itl K rl) (Same H1) xs.length _:=src_list (fun H' s'=>SqL.of (s' _ _ hrl))
  rw[←zl] at S
  refine comp_vals (xs.zip rs) (fun x=>some (.str x.2.word)) S (fun _ _ _ _ h=>h.1) (by omega) ?_ ?_
  ·rintro i ⟨x,r⟩ y exr ⟨_,ey⟩ Y N y1 y2
   obtain⟨e1,e2⟩:=List.getElem?_zip_eq_some.mp exr
   rw[e1] at ey
   cases ey
   refine(?_:let G_:Prop:=_;G_)
   intro G_
   obtain⟨r',p',a',b',c',d',er,rfl,hp',rb,_⟩:=rw4_get rxs e1
   dsimp only[G_]
   rw[e2] at er
   cases er
   simp_all only[tYes,hp']
   exact y1 _ rfl
  ·intro D n1' n2
   have e:(xs.zip rs).filterMap (fun x=>some (V.str x.2.word))=rs.map fun r=>V.str r.word:=by
    rw[fm_some]
    have:(xs.zip rs).map (fun x=>V.str x.2.word)=((xs.zip rs).map Prod.snd).map fun r=>V.str r.word:=by rw[List.map_map];rfl
    rw[this,List.map_snd_zip (by omega)]
   rw[e]
   exact kk D _ (s1.trans (same_upd n2)) (none_of s1 n2) (rep_lst.mpr ⟨D,_,rfl,upd_same,(rep_words rxs).mono (same_upd n2)⟩)
theorem sc_Course_end_worth:FnScope ["self","state","what"] ["self","state"] (defScope (inClass (top 41) 12)):=⟨rfl,rfl,rfl,by decide +kernel,rfl,by decide +kernel,by decide +kernel⟩
theorem ok_end (T:Txt K mg q_LuckError q_NoShare q_NoTable q_NoEnd q_TooMany q_NoStep q_NoPlay q_Course q_Play):MtCal P w K mg base (CX1 P w) 2 q_Course "end_worth" ["self","state"] (spEnd q_Course):=by
 have m_Course_what_at:MtCal P w K mg base (CX1 P w) 1 q_Course "what_at" ["self","state"] (spWat q_Course):=ok_wat T
 refine T.dm_Course_end_worth.cal (fun _ _ _ _ _ _=>us_2 fun _ _=>rfl) fun f fd F=>F.okC sc_Course_end_worth (fun vs H Q E h=>?_) (fun cdv A outer s H vs Q E hr h=>?_)
 ·obtain⟨_,_,_,_,_,_,_,_,rfl,_⟩:=h;rfl
 ·refine(?_:let G_:Prop:=_;G_)
  intro G_
  obtain⟨c,v,g,nm,ns,x,t,b,rfl,co,gg,st,ln,lk,ew,kk⟩:=h
  dsimp only[G_]
  have nd:=sc_Course_end_worth.nd
  refine⟨_,(pss_cons (ps_set (i:=2) nd rfl (Or.inl rfl) (pe_mt m_Course_what_at T.cl_Course (pv 0) (hr.mono (by decide)) strictP.pass (pa_cons (pv 1) pa_nil (se rfl)) (hst:=se rfl) (hpl:=na rfl)))
  (pss_one (ps_ret (pe_ifExp (pt_cmpR op_eq (pe_ix ix_tupH (pv 2) pe_int (fun _ _=>rfl)) pe_str (nomark _)) (pe_ix ix_tupH (pv 2) pe_int (fun _ _=>rfl)) (pe_tupS (pa_cons (pe_ix ix_listH (pe_ix ix_tupH (pv 1) pe_int (fun _ _=>rfl)) (pe_dget (hu_of hr) (pe_fld (pv 0) rfl) (pe_ix ix_tupH (pv 2) pe_int (fun _ _=>rfl)) (fun _ _=>rfl)) (fun _ _=>rfl)) (pa_cons pe_int pa_nil (se rfl)) (se rfl))))))),?_⟩
  have sl:=sizeLine_eq
  refine(?_:let G_:Prop:=_;G_)
  intro G_
  obtain⟨dx,sp,mo,wh,tb,us,ft',h1,h2,h3,h4,h5,h6⟩:=id co
  obtain⟨sa,l,rfl,hsa,hl⟩:=id st
  dsimp only[G_]
  have lp:∀{a b c d e:V},List.lookup (Str.ofString "what_at") [(Str.ofString "spots",a),(Str.ofString "mosts",b),(Str.ofString "first",c),(Str.ofString "whats",d),(Str.ofString "tables",e)]=none:=lk_no (by decide +kernel) (by decide +kernel) (by decide +kernel) (by decide +kernel) (by decide +kernel)
  have gx:=gg.wt _ (look_mem lk)
  change tSeq _ _ _ [some (.ref c),some (.ref sa),none] H
  refine seq_c (fun N=>∀u,Rep H (wtD x) u→N [some (.ref c),some (.ref sa),some u] H) ?_ (fun N hN=>?_)
  case refine_2=>
   simp_all only[tMeth,spWat]
   exact⟨_,_,h1,lp,H,Same.refl _,g,co,nm,ns,st,x,lk,fun u ru=>hN u ru⟩
  rintro u ru
  cases x with
  | fin t' b'=>
   refine(?_:let G_:Prop:=_;G_)
   intro G_
   obtain⟨p,x1,x2,rfl,hp,r1,r2⟩:=rep_t2.mp (show Rep H (.tup _) u from ru)
   rw[rep_str] at r1
   subst r1
   dsimp only[G_]
   cases ew
   simp_all only[tFld,hp]
   exact kk _ _ (Same.refl _) r2
  | score c'=>
   refine(?_:let G_:Prop:=_;G_)
   intro G_
   obtain⟨p,x1,x2,rfl,hp,r1,r2⟩:=rep_t2.mp (show Rep H (.tup _) u from ru)
   rw[rep_str] at r1 r2
   subst r1 r2
   dsimp only[G_]
   cases ew
   have hs:=spot_lt (cs:=g.cs) gx
   simp_all only[tFld,hp,hsa]
   rw[if_neg (by decide +kernel)]
   refine⟨_,_,_,h1,T.cl_Course,T.na_Course_spots,_,lk_sp,_,rfl,_,sp_get h2 gx,_,_,rfl,hl,_,at_ints (by omega),by decide,fun p' H2 s2 np e2=>kk _ _ s2 (rep_t2.mpr ⟨p',_,_,rfl,e2,rep_int.mpr rfl,rep_int.mpr rfl⟩)⟩
  | ask _ _ _ _=>cases ew
  | pick _ _=>cases ew
  | thr _ _ _ _=>cases ew
theorem nw_kp {H X H' H'':Hp} (k:Kp H' H''):Kp (nw H X H') (nw H X H''):=fun a=>by
 cases c:H a with
 | none=>rw[nw_new c,nw_new c];exact k a
 | some x=>unfold nw;rw[c];exact⟨fun _ h=>h,fun _ h=>h⟩
noncomputable def spCoX (q:Addr):Sp:=fun vs H Q _=>∃(c:Addr) (dx:Addr) (gv:V) (X:Hp) (g:Gm),vs=[.ref c,gv]∧H c=some (.ins q dx [])∧Same X H∧X c=none∧Rep X (gmD g) gv∧GoodG g∧∀tb H',(∀a o,a≠c→H a=some o→H' a=some o)→H tb=none→H' tb=some (.dK [])→CoT q (hid (nw (hid H c) X H') tb) c g tb→Q .non H'
theorem sc_Course___init__:FnScope ["self","game","spot","count","name","what"] ["self","game"] (defScope (inClass (top 41) 0)):=⟨rfl,rfl,rfl,by decide +kernel,rfl,by decide +kernel,by decide +kernel⟩
theorem ok_co (T:Txt K mg q_LuckError q_NoShare q_NoTable q_NoEnd q_TooMany q_NoStep q_NoPlay q_Course q_Play):MkCal P w K mg base (CX1 P w) 3 "Course" q_Course ["self","game"] (spCoX q_Course):=by
 have c_own_what:Cal P w K mg base (CX1 P w) 2 "own_what" ["what"] spOWX:=ok_ow T
 refine T.di_Course.cal (fun _ _ _ _ _ _=>us_2 fun _ _=>rfl) fun f fd F=>F.okC sc_Course___init__ (fun vs H Q E h=>?_) (fun cdv A outer s H vs Q E hr h=>?_)
 ·obtain⟨_,_,_,_,_,rfl,_⟩:=h;rfl
 ·refine(?_:let G_:Prop:=_;G_)
  intro G_
  obtain⟨c,dx,gv,X,g,rfl,hc,sx,xc,rg,gg,kk⟩:=h
  dsimp only[G_]
  clear G_
  have nd:=sc_Course___init__.nd
  refine⟨_,(pss_cons (ps_fld (pv 0) pe_dnewK rfl)
  (pss_cons (ps_fld (pv 0) (pe_lst pa_nil) rfl)
  (pss_cons (ps_for PassesOwn.never rfl (pi_enumerateK (K:=K) rfl T.z_enumerate (pa_cons (pe_ix ix_tupH (pv 1) pe_int (fun _ _=>rfl)) pa_nil (se rfl))) (pg_tupK (K:=K) (n:=2) rfl (pgs_cons (pg_name (i:=2) nd rfl (Or.inl rfl)) (pgs_cons (pg_name (i:=3) nd rfl (Or.inl rfl)) pgs_nil))) (pss_cons (ps_dput (hu_of hr) (pe_fld (pv 0) rfl) (pe_ix ix_tupH (pv 3) pe_int (fun _ _=>rfl)) (pv 2) rfl)
  (pss_one (ps_expr (pe_bm PySem.F.plainAttrs_list PySem.F.slot_list_append PySem.F.type_list_append mt_append.r (pe_fld (pv 0) rfl) (pa_cons (pe_ix ix_tupH (pv 3) pe_int (fun _ _=>rfl)) pa_nil (se rfl)))))))
  (pss_cons (ps_fld (pv 0) (pe_ix ix_tupH (pe_ix ix_listH (pe_ix ix_tupH (pv 1) pe_int (fun _ _=>rfl)) pe_int (fun _ _=>rfl)) pe_int (fun _ _=>rfl)) rfl)
  (pss_cons (ps_fld (pv 0) pe_dnewK rfl)
  (pss_cons (ps_for PassesOwn.never rfl (pi_listK (K:=K) (pe_ix ix_tupH (pv 1) pe_int (fun _ _=>rfl))) (pg_tupK (K:=K) (n:=2) rfl (pgs_cons (pg_name (i:=4) nd rfl (Or.inl rfl)) (pgs_cons (pg_name (i:=5) nd rfl (Or.inl rfl)) pgs_nil))) (pss_one (ps_dput (hu_of hr) (pe_fld (pv 0) rfl) (pv 4) (pe_cal c_own_what (hr.mono (by decide)) rfl strictP.pass (pa_cons (pv 5) pa_nil (se rfl)) (he:=se rfl) (hpl:=na rfl)) rfl)))
  (pss_one (ps_fld (pv 0) pe_dnewK rfl)))))))),?_⟩
  refine(?_:let q0_:TS:=_;let q1_:TS:=_;let q2_:TS:=_;let q3_:TS:=_;let q4_:TS:=_;let q5_:TS:=_;let q6_:TS:=_;tSeq q0_ (tSeq q1_ (tSeq q2_ (tSeq q3_ (tSeq q4_ (tSeq q5_ q6_))))) _ _ _)
  intro q0_ q1_ q2_ q3_ q4_ q5_ q6_
  have sl:=sizeLine_eq
  have np:=gg.np
  have nc:=gg.nc
  have lc:=gg.lc
  have lpp:=gg.lp
  have p0:=gg.p0
  refine(?_:let G_:Prop:=_;G_)
  intro G_
  obtain⟨gp,g0,g1,rfl,hgp,rc,rp⟩:=rep_t2.mp (show Rep X (.tup _) gv from rg)
  obtain⟨cl,cvs,rfl,hcl,rcl⟩:=rep_lst.mp (show Rep X (.lst _) g0 from rc)
  obtain⟨pl,pvs,rfl,hpl,rpl⟩:=rep_lst.mp (show Rep X (.lst _) g1 from rp)
  dsimp only[G_]
  clear G_
  have hgp:=sx _ _ hgp
  have hcl:=sx _ _ hcl
  have hpl:=sx _ _ hpl
  have hidc:hid H c c=none:=if_pos rfl
  have hidn:∀{a},H a=none→hid H c a=none:=fun {a} h=>by
   unfold hid
   split
   ·rfl
   ·exact h
  have clen:=rcl.length
  rw[List.length_map] at clen
  have plen:=rpl.length
  rw[List.length_map] at plen
  change tSeq _ _ _ [some (.ref c),some (.ref gp),none,none,none,none] H
  let K1:Hp→Prop:=fun H1=>∀a o,a≠c→H a=some o→H1 a=some o
  have kp:∀{H1},K1 H1→Kp H H1:=fun {H1} k a=>by
   by_cases z:a=c
   ·subst z;rw[hc];exact⟨(fun _ e=>by cases e),(fun _ e=>by cases e)⟩
   ·exact⟨fun _=>k _ _ z,fun _=>k _ _ z⟩
  have tup1:∀{H1 a vs},K1 H1→H a=some (.tup vs)→H1 a=some (.tup vs):=fun k e=>((kp k) _).1 _ e
  have lst1:∀{H1 a vs},K1 H1→H a=some (.lst vs)→H1 a=some (.lst vs):=fun k e=>((kp k) _).2 _ e
  refine seq_c (fun N=>∀H1,K1 H1→(∃sp,sp≠c∧H sp=none∧H1 c=some (.ins q_Course dx [(Str.ofString "spots",.ref sp)])∧H1 sp=some (.dK []))→N [some (.ref c),some (.ref gp),none,none,none,none] H1) ?_ (fun N hN=>?_)
  case refine_2=>
   simp_all only[sFld,tDNewK]
   intro sp nsp
   have e1:sp≠c:=fun z=>by rw[z,hc] at nsp;cases nsp
   refine⟨_,_,_,by rw[upd_ne (Ne.symm e1)];exact hc,T.cl_Course,T.na_Course_spots,by decide,hN _ (fun a o ac ha=>?_) ⟨sp,e1,nsp,upd_same,by rw[upd_ne e1,upd_same]⟩⟩
   rw[upd_ne ac,upd_ne (fun z=>by rw[z,nsp] at ha;cases ha)]
   exact ha
  intro H1 k1 p2_
  refine(?_:let G_:Prop:=_;G_)
  intro G_
  obtain⟨sp,spc,nsp,hc1,hsp1⟩:=p2_
  dsimp only[G_]
  clear G_
  change tSeq _ _ _ [some (.ref c),some (.ref gp),none,none,none,none] H1
  refine seq_c (fun N=>∀H2,K1 H2→(∃mo,mo≠c∧mo≠sp∧H mo=none∧H2 c=some (.ins q_Course dx [(Str.ofString "spots",.ref sp),(Str.ofString "mosts",.ref mo)])∧H2 sp=some (.dK [])∧H2 mo=some (.lst []))→N [some (.ref c),some (.ref gp),none,none,none,none] H2) ?_ (fun N hN=>?_)
  case refine_2=>
   simp_all only[sFld]
   refine⟨Nat.zero_le _,fun mo nmo=>?_⟩
   have e1:mo≠c:=fun z=>by rw[z,hc1] at nmo;cases nmo
   have e2:mo≠sp:=fun z=>by rw[z,hsp1] at nmo;cases nmo
   have n0:H mo=none:=by
    cases h0:H mo with
    | none=>rfl
    | some o=>rw[k1 _ _ e1 h0] at nmo;cases nmo
   refine⟨_,_,_,by rw[upd_ne (Ne.symm e1)];exact hc1,T.cl_Course,T.na_Course_mosts,by show(1:Nat)<1000;decide,hN _ (fun a o ac ha=>?_) ⟨mo,e1,e2,n0,?_,by rw[upd_ne spc,upd_ne (Ne.symm e2)];exact hsp1,by rw[upd_ne e1,upd_same]⟩⟩
   ·rw[upd_ne ac,upd_ne (fun z=>by rw[z,n0] at ha;cases ha)]
    exact k1 _ _ ac ha
   ·rw[upd_same]
    show some (HO.ins _ _ (if Str.ofString "spots"=Str.ofString "mosts" then _ else _))=_
    rw[if_neg (by decide +kernel)]
    rfl
  intro H2 k2 p2_
  refine(?_:let G_:Prop:=_;G_)
  intro G_
  obtain⟨mo,moc,mosp,nmo,hc2,hsp2,hmo2⟩:=p2_
  dsimp only[G_]
  clear G_
  change tSeq _ _ _ [some (.ref c),some (.ref gp),none,none,none,none] H2
  refine seq_c (fun N=>∀H3,K1 H3→H3 c=some (.ins q_Course dx [(Str.ofString "spots",.ref sp),(Str.ofString "mosts",.ref mo)])→H3 sp=some (.dK (spK g.cs 0))→H3 mo=some (.lst ((g.cs.map (·.2)).map V.int))→∀z1 z2,N [some (.ref c),some (.ref gp),z1,z2,none,none] H3) ?_ (fun N hN=>?_)
  case refine_2=>
   simp_all only[iEnum,tup1 k2 hgp]
   refine⟨⟨_,SqL.of (lst1 k2 hcl)⟩,for_src (src_enum (Ok:=K1) (fun H' k=>SqL.of (lst1 k hcl))) (fun i σ H'=>K1 H'∧H' c=some (.ins q_Course dx [(Str.ofString "spots",.ref sp),(Str.ofString "mosts",.ref mo)])∧H' sp=some (.dK (spK (g.cs.take i) 0))∧H' mo=some (.lst (((g.cs.take i).map (·.2)).map V.int))∧∃z1 z2,σ=[some (.ref c),some (.ref gp),z1,z2,none,none]) ⟨k2,hc2,hsp2,hmo2,_,_,rfl⟩ (fun _ _ _ _ h=>h.1) ?_ ?_⟩
   ·intro i x σ H3 H4 hi p6_ p7_
    refine(?_:let G_:Prop:=_;G_)
    intro G_
    obtain⟨k3,hc3,hsp3,hmo3,z1,z2,rfl⟩:=p6_
    obtain⟨t,y,nt,rfl,ey,rfl⟩:=p7_
    obtain⟨d0,ed,rd⟩:=rcl.get ey
    rw[List.getElem?_map] at ed
    obtain⟨cn,ec,rfl⟩:=Option.map_eq_some_iff.mp ed
    obtain⟨cp,y1,y2,rfl,hcp,r1,r2⟩:=rep_t2.mp (show Rep X (.tup _) y from rd)
    rw[rep_str] at r1
    rw[rep_int] at r2
    subst r1 r2
    dsimp only[G_]
    clear G_
    have hcp:=sx _ _ hcp
    have tk:g.cs.take (i+1)=g.cs.take i++ [cn]:=by rw[List.take_add_one,ec];rfl
    have nn:cn.1∉(g.cs.take i).map (·.1):=by
     rw[List.map_take]
     exact nodup_at nc (by rw[List.getElem?_map,ec];rfl)
    have tc:t≠c:=fun z=>by rw[z,hc3] at nt;cases nt
    have ts:t≠sp:=fun z=>by rw[z,hsp3] at nt;cases nt
    have tm:t≠mo:=fun z=>by rw[z,hmo3] at nt;cases nt
    have k4:K1 (upd H3 t (.tup [.int (i:Int),.ref cp])):=fun a o ac ha=>same_upd nt _ _ (k3 a o ac ha)
    have hc4:upd H3 t (.tup [.int (i:Int),.ref cp]) c=_:=same_upd nt _ _ hc3
    have hsp4:upd H3 t (.tup [.int (i:Int),.ref cp]) sp=_:=same_upd nt _ _ hsp3
    have hmo4:upd H3 t (.tup [.int (i:Int),.ref cp]) mo=_:=same_upd nt _ _ hmo3
    refine⟨t,_,rfl,SqT.of upd_same,rfl,?_⟩
    generalize upd H3 t (.tup [.int (i:Int),.ref cp])=H4 at *
    have lsp:(spK (g.cs.take i) 0).length<sizeLine:=by rw[spK_len,List.length_take];omega
    have k5:K1 (upd H4 sp (.dK (putK (spK (g.cs.take i) 0) (Sum.inr cn.1) (.int (i:Int))))):=fun a o ac ha=>by
     rw[upd_ne (fun z=>by rw[z,nsp] at ha;cases ha)]
     exact k4 a o ac ha
    simp_all only[sDPut,tFld,rAppend,tup1 k4 hcp]
    have hsv:valV (spK (g.cs.take i) 0) (Sum.inr cn.1)=none:=spK_none nn
    rw[put_new hsv] at k5
    have lt:(g.cs.take i).length=i:=by rw[List.length_take];omega
    have hmo5:∀o,upd H4 sp o mo=some (.lst (((g.cs.take i).map (·.2)).map V.int)):=fun o=>by rw[upd_ne mosp];exact hmo4
    have ty:∀o,tyV K "list" (.ref mo) (upd H4 sp o):=fun o=>.inl ⟨rfl,_,SqL.of (hmo5 o)⟩
    refine⟨_,_,_,hc4,T.cl_Course,T.na_Course_spots,_,List.lookup_cons_self,_,rfl,_,.inl ⟨_,Sum.inr cn.1,hsp4,rfl,lsp,rfl⟩,?_⟩
    rw[put_new hsv]
    refine⟨_,_,_,by rw[upd_ne (Ne.symm spc)];exact hc4,T.cl_Course,T.na_Course_mosts,_,by rw[lk_ne (by decide +kernel)];exact List.lookup_cons_self,ty _,_,tup1 k5 hcp,_,rfl,_,rfl,_,hmo5 _,by rw[List.length_map,List.length_map];omega,?_⟩
    refine⟨?_,?_,?_,?_,_,rfl⟩
    ·intro a o ac ha
     rw[upd_ne (fun z=>by rw[z,nmo] at ha;cases ha)]
     exact k5 a o ac ha
    ·rw[upd_ne (Ne.symm moc),upd_ne (Ne.symm spc)];exact hc4
    ·rw[upd_ne (Ne.symm mosp),upd_same,tk,spK_snoc,lt,Nat.zero_add]
    ·rw[upd_same,tk,List.map_append,List.map_append]
     rfl
   ·intro σ H3 p2_
    refine(?_:let G_:Prop:=_;G_)
    intro G_
    obtain⟨k3,hc3,hsp3,hmo3,z1,z2,rfl⟩:=p2_
    dsimp only[G_]
    rw[←clen,List.take_of_length_le (Nat.le_refl _)] at hsp3 hmo3
    exact hN _ k3 hc3 hsp3 hmo3 _ _
  rintro H3 k3 hc3 hsp3 hmo3 z1 z2
  obtain⟨⟨n0,x0⟩,ex0⟩:∃x,g.ps[0]?=some x:=⟨_,List.getElem?_eq_getElem p0⟩
  obtain⟨v0,ev0,rv0⟩:=rpl.at (by rw[List.getElem?_map,ex0];rfl)
  change tSeq _ _ _ [some (.ref c),some (.ref gp),z1,z2,none,none] H3
  refine seq_c (fun N=>∀H4,K1 H4→H4 c=some (.ins q_Course dx [(Str.ofString "spots",.ref sp),(Str.ofString "mosts",.ref mo),(Str.ofString "first",.str n0)])→H4 sp=some (.dK (spK g.cs 0))→H4 mo=some (.lst ((g.cs.map (·.2)).map V.int))→N [some (.ref c),some (.ref gp),z1,z2,none,none] H4) ?_ (fun N hN=>?_)
  case refine_2=>
   simp_all only[sFld,tup1 k3 hgp]
   refine(?_:let G_:Prop:=_;G_)
   intro G_
   obtain⟨q0,a1,a2,rfl,hq0,b1,_⟩:=rep_t2.mp (show Rep X (.tup _) v0 from rv0)
   rw[rep_str] at b1
   subst b1
   dsimp only[G_]
   have hq0:=sx _ _ hq0
   have at0:atI pvs 0=some (.ref q0):=(atI_nat ev0:atI pvs ((0:Nat):Int)=_)
   refine⟨_,lst1 k3 hpl,_,at0,_,rfl,_,tup1 k3 hq0,_,rfl,_,_,_,hc3,T.cl_Course,T.na_Course_first,by show(2:Nat)<1000;decide,hN _ (fun a o ac ha=>?_) ?_ (by rw[upd_ne spc];exact hsp3) (by rw[upd_ne moc];exact hmo3)⟩
   ·rw[upd_ne ac]
    exact k3 _ _ ac ha
   ·rw[upd_same]
    show some (HO.ins _ _ (if Str.ofString "spots"=Str.ofString "first" then _ else _::(if Str.ofString "mosts"=Str.ofString "first" then _ else _)))=_
    rw[if_neg (by decide +kernel),if_neg (by decide +kernel)]
    rfl
  rintro H4 k4 hc4 hsp4 hmo4
  change tSeq _ _ _ [some (.ref c),some (.ref gp),z1,z2,none,none] H4
  refine seq_c (fun N=>∀H5,K1 H5→(∃wh,wh≠c∧wh≠sp∧wh≠mo∧H wh=none∧H5 c=some (.ins q_Course dx [(Str.ofString "spots",.ref sp),(Str.ofString "mosts",.ref mo),(Str.ofString "first",.str n0),(Str.ofString "whats",.ref wh)])∧H5 sp=some (.dK (spK g.cs 0))∧H5 mo=some (.lst ((g.cs.map (·.2)).map V.int))∧H5 wh=some (.dK []))→N [some (.ref c),some (.ref gp),z1,z2,none,none] H5) ?_ (fun N hN=>?_)
  case refine_2=>
   simp_all only[sFld,tDNewK]
   intro wh nwh
   have e1:wh≠c:=fun z=>by rw[z,hc4] at nwh;cases nwh
   have e2:wh≠sp:=fun z=>by rw[z,hsp4] at nwh;cases nwh
   have e3:wh≠mo:=fun z=>by rw[z,hmo4] at nwh;cases nwh
   have n0:H wh=none:=by
    cases h0:H wh with
    | none=>rfl
    | some o=>rw[k4 _ _ e1 h0] at nwh;cases nwh
   refine⟨_,_,_,by rw[upd_ne (Ne.symm e1)];exact hc4,T.cl_Course,T.na_Course_whats,by show(3:Nat)<1000;decide,hN _ (fun a o ac ha=>?_) ⟨wh,e1,e2,e3,n0,?_,by rw[upd_ne spc,upd_ne (Ne.symm e2)];exact hsp4,by rw[upd_ne moc,upd_ne (Ne.symm e3)];exact hmo4,by rw[upd_ne e1,upd_same]⟩⟩
   ·rw[upd_ne ac,upd_ne (fun z=>by rw[z,n0] at ha;cases ha)]
    exact k4 _ _ ac ha
   ·rw[upd_same]
    show some (HO.ins _ _ (if Str.ofString "spots"=Str.ofString "whats" then _ else _::(if Str.ofString "mosts"=Str.ofString "whats" then _ else _::(if Str.ofString "first"=Str.ofString "whats" then _ else _))))=_
    rw[if_neg (by decide +kernel),if_neg (by decide +kernel),if_neg (by decide +kernel)]
    rfl
  intro H5 k5 p2_
  refine(?_:let G_:Prop:=_;G_)
  intro G_
  obtain⟨wh,whc,whsp,whmo,nwh,hc5,hsp5,hmo5,hwh5⟩:=p2_
  dsimp only[G_]
  change tSeq _ _ _ [some (.ref c),some (.ref gp),z1,z2,none,none] H5
  refine seq_c (fun N=>∀H6,K1 H6→H6 c=some (.ins q_Course dx [(Str.ofString "spots",.ref sp),(Str.ofString "mosts",.ref mo),(Str.ofString "first",.str n0),(Str.ofString "whats",.ref wh)])→H6 sp=some (.dK (spK g.cs 0))→H6 mo=some (.lst ((g.cs.map (·.2)).map V.int))→(∃us,H6 wh=some (.dK us)∧WhK (nw (hid H c) X H6) g.ps us)→∀z3 z4,N [some (.ref c),some (.ref gp),z1,z2,z3,z4] H6) ?_ (fun N hN=>?_)
  case refine_2=>
   simp_all only[tup1 k5 hgp]
   refine⟨⟨_,SqL.of (lst1 k5 hpl)⟩,for_src (src_list (Ok:=K1) (fun H' k=>SqL.of (lst1 k hpl))) (fun i σ H'=>K1 H'∧H' c=some (.ins q_Course dx [(Str.ofString "spots",.ref sp),(Str.ofString "mosts",.ref mo),(Str.ofString "first",.str n0),(Str.ofString "whats",.ref wh)])∧H' sp=some (.dK (spK g.cs 0))∧H' mo=some (.lst ((g.cs.map (·.2)).map V.int))∧(∃us,H' wh=some (.dK us)∧WhK (nw (hid H c) X H') (g.ps.take i) us)∧∃z3 z4,σ=[some (.ref c),some (.ref gp),z1,z2,z3,z4]) ⟨k5,hc5,hsp5,hmo5,⟨[],hwh5,rfl⟩,_,_,rfl⟩ (fun _ _ _ _ h=>h.1) ?_ ?_⟩
   ·intro i x σ H7 H6 hi p6_ p7_
    refine(?_:let G_:Prop:=_;G_)
    intro G_
    obtain⟨k6,hc6,hsp6,hmo6,⟨us,hwh6,wk⟩,z3,z4,rfl⟩:=p6_
    obtain⟨rfl,ey⟩:=p7_
    obtain⟨d0,ed,rd⟩:=rpl.get ey
    rw[List.getElem?_map] at ed
    obtain⟨pn,ec,rfl⟩:=Option.map_eq_some_iff.mp ed
    obtain⟨cp,y1,y2,rfl,hcp,r1,r2⟩:=rep_t2.mp (show Rep X (.tup _) x from rd)
    rw[rep_str] at r1
    subst r1
    dsimp only[G_]
    have hcp:=sx _ _ hcp
    have sx6:Same X H6:=fun a o h=>k6 _ _ (fun z=>by rw[z,xc] at h;cases h) (sx _ _ h)
    have tk:g.ps.take (i+1)=g.ps.take i++ [pn]:=by rw[List.take_add_one,ec];rfl
    have nn:pn.1∉(g.ps.take i).map (·.1):=by
     rw[List.map_take]
     exact nodup_at np (by rw[List.getElem?_map,ec];rfl)
    have hsv:=wk.none nn
    have lus:us.length≤100:=by rw[wk.len,List.length_take];omega
    refine⟨cp,_,rfl,SqT.of (tup1 k6 hcp),rfl,?_⟩
    simp_all only[sDPut,tFld,spOWX]
    refine⟨X,sx6,_,r2,_,gg.wt _ (List.mem_of_getElem? ec),fun u H7 s7 ru=>?_⟩
    refine⟨_,_,_,s7 _ _ hc6,T.cl_Course,T.na_Course_whats,_,by rw[lk_ne (by decide +kernel),lk_ne (by decide +kernel),lk_ne (by decide +kernel)];exact List.lookup_cons_self,_,rfl,_,.inl ⟨_,Sum.inr pn.1,s7 _ _ hwh6,rfl,by omega,rfl⟩,?_⟩
    rw[put_new hsv]
    have kq:Kp H7 (upd H7 wh (.dK (us++ [(Sum.inr pn.1,u)]))):=Kp.upd (fun vs e=>by rw[s7 _ _ hwh6] at e;cases e) (fun vs e=>by rw[s7 _ _ hwh6] at e;cases e)
    refine⟨fun a o ac ha=>?_,by rw[upd_ne (Ne.symm whc)];exact s7 _ _ hc6,by rw[upd_ne (Ne.symm whsp)];exact s7 _ _ hsp6,by rw[upd_ne (Ne.symm whmo)];exact s7 _ _ hmo6,⟨_,upd_same,?_⟩,_,rfl⟩
    ·rw[upd_ne (fun z=>by rw[z,nwh] at ha;cases ha)]
     exact s7 _ _ (k6 _ _ ac ha)
    ·rw[tk]
     have kn:Kp (nw (hid H c) X H7) (nw (hid H c) X (upd H7 wh (.dK (us++ [(Sum.inr pn.1,u)])))):=nw_kp kq
     refine WhK.snoc (kn.rep (ru.mono fun a o h=>?_)) (kn.whk (wk.mono (nw_mono s7)))
     cases h6:H6 a with
     | none=>
      rw[nw_new h6] at h
      have ac:a≠c:=fun z=>by rw[z,hc6] at h6;cases h6
      have h0:H a=none:=by
       cases h0:H a with
       | none=>rfl
       | some o=>rw[k6 _ _ ac h0] at h6;cases h6
      rw[nw_new (hidn h0)]
      exact h
     | some o6=>
      unfold nw at h
      rw[h6] at h
      exact nw_in (fun a o hx=>by rw[hid_ne (fun z=>by rw[z,xc] at hx;cases hx)];exact sx _ _ hx) _ _ h
   ·intro σ H6 p2_
    refine(?_:let G_:Prop:=_;G_)
    intro G_
    obtain⟨k6,hc6,hsp6,hmo6,⟨us,hwh6,wk⟩,z3,z4,rfl⟩:=p2_
    dsimp only[G_]
    rw[←plen,List.take_of_length_le (Nat.le_refl _)] at wk
    exact hN _ k6 hc6 hsp6 hmo6 ⟨us,hwh6,wk⟩ _ _
  intro H6 k6 hc6 hsp6 hmo6 p5_ z3 z4
  refine(?_:let G_:Prop:=_;G_)
  intro G_
  obtain⟨us,hwh6,wk⟩:=p5_
  dsimp only[G_]
  simp_all only[sFld,tDNewK]
  intro tb ntb
  have e1:tb≠c:=fun z=>by rw[z,hc6] at ntb;cases ntb
  have e2:tb≠sp:=fun z=>by rw[z,hsp6] at ntb;cases ntb
  have e3:tb≠mo:=fun z=>by rw[z,hmo6] at ntb;cases ntb
  have e4:tb≠wh:=fun z=>by rw[z,hwh6] at ntb;cases ntb
  have ntb0:H tb=none:=by
   cases h0:H tb with
   | none=>rfl
   | some o=>rw[k6 _ _ e1 h0] at ntb;cases ntb
  refine⟨_,_,_,by rw[upd_ne (Ne.symm e1)];exact hc6,T.cl_Course,T.na_Course_tables,by show(4:Nat)<1000;decide,kk tb _ (fun a o ac ha=>?_) ntb0 (by rw[upd_ne e1,upd_same]) ⟨dx,sp,mo,wh,us,n0,?_,by rw[hid_ne (Ne.symm e2),nw_new (hidn nsp),upd_ne spc,upd_ne (Ne.symm e2)];exact hsp6,by rw[hid_ne (Ne.symm e3),nw_new (hidn nmo),upd_ne moc,upd_ne (Ne.symm e3)];exact hmo6,by rw[hid_ne (Ne.symm e4),nw_new (hidn nwh),upd_ne whc,upd_ne (Ne.symm e4)];exact hwh6,?_,?_⟩⟩
  ·rw[upd_ne ac,upd_ne (fun z=>by rw[z,ntb0] at ha;cases ha)]
   exact k6 _ _ ac ha
  ·rw[hid_ne (Ne.symm e1),nw_new hidc,upd_same]
   show some (HO.ins _ _ (if Str.ofString "spots"=Str.ofString "tables" then _ else _::(if Str.ofString "mosts"=Str.ofString "tables" then _ else _::(if Str.ofString "first"=Str.ofString "tables" then _ else _::(if Str.ofString "whats"=Str.ofString "tables" then _ else _)))))=_
   rw[if_neg (by decide +kernel),if_neg (by decide +kernel),if_neg (by decide +kernel),if_neg (by decide +kernel)]
   rfl
  ·have hcc:upd H6 tb (.dK []) c=_:=(upd_ne (Ne.symm e1)).trans hc6
   refine((nw_kp ((Kp.of (same_upd ntb)).trans (Kp.upd (o:=_) (fun vs e=>by rw[hcc] at e;cases e) (fun vs e=>by rw[hcc] at e;cases e)))).trans (Kp.hid (tb:=tb) (kvs:=[]) ?_)).whk wk
   rw[nw_new (hidn ntb0),upd_ne e1,upd_same]
  ·rw[List.head?_map,List.head?_eq_getElem?,ex0]
   rfl
theorem sc_Course_table_at:FnScope ["self","state"] ["self","state"] (defScope (inClass (top 41) 8)):=⟨rfl,rfl,rfl,by decide +kernel,rfl,by decide +kernel,by decide +kernel⟩
theorem lk_tb {a b c d e:V}:List.lookup (Str.ofString "tables") [(Str.ofString "spots",a),(Str.ofString "mosts",b),(Str.ofString "first",c),(Str.ofString "whats",d),(Str.ofString "tables",e)]=some e:=by
 rw[lk_ne (by decide +kernel),lk_ne (by decide +kernel),lk_ne (by decide +kernel),lk_ne (by decide +kernel)];exact List.lookup_cons_self
theorem ok_tba (T:Txt K mg q_LuckError q_NoShare q_NoTable q_NoEnd q_TooMany q_NoStep q_NoPlay q_Course q_Play):MtCal P w K mg base (CX1 P w) 7 q_Course "table_at" ["self","state"] (spTba q_Course):=by
 have m_Course_what_at:MtCal P w K mg base (CX1 P w) 1 q_Course "what_at" ["self","state"] (spWat q_Course):=ok_wat T
 have c_pool_table:Cal P w K mg base (CX1 P w) 6 "pool_table" ["pool"] spPl:=ok_pl T
 refine T.dm_Course_table_at.cal (fun _ _ _ _ _ _=>us_2 fun _ _=>rfl) fun f fd F=>F.okC sc_Course_table_at (fun vs H Q E h=>?_) (fun cdv A outer s H vs Q E hr h=>?_)
 ·obtain⟨_,_,_,_,_,_,_,_,_,_,_,rfl,_⟩:=h;rfl
 ·refine(?_:let G_:Prop:=_;G_)
  intro G_
  obtain⟨c,sv,g,nm,ns,tb,kvs,ps,t,b,rs,rfl,co,st,htb,l1000,lk,gl,l4,kF,kN⟩:=h
  dsimp only[G_]
  have nd:=sc_Course_table_at.nd
  refine⟨_,(pss_cons (ps_if (pt_cmp (pc_dnotin (hu_of hr) (pe_ix ix_tupH (pv 1) pe_int (fun _ _=>rfl)) (pe_fld (pv 0) rfl))) (pss_one (ps_dput (hu_of hr) (pe_fld (pv 0) rfl) (pe_ix ix_tupH (pv 1) pe_int (fun _ _=>rfl)) (pe_cal c_pool_table (hr.mono (by decide)) rfl strictP.pass (pa_cons (pe_ix ix_tupH (pe_mt m_Course_what_at T.cl_Course (pv 0) (hr.mono (by decide)) strictP.pass (pa_cons (pv 1) pa_nil (se rfl)) (hst:=se rfl) (hpl:=na rfl)) pe_int (fun _ _=>rfl)) pa_nil (se rfl)) (he:=se rfl) (hpl:=na rfl)) rfl))
   pss_nil)
  (pss_one (ps_ret (pe_dget (hu_of hr) (pe_fld (pv 0) rfl) (pe_ix ix_tupH (pv 1) pe_int (fun _ _=>rfl)) (fun _ _=>rfl))))),?_⟩
  have sl:=sizeLine_eq
  refine(?_:let G_:Prop:=_;G_)
  intro G_
  obtain⟨dx,sp,mo,wh,us,ft',h1,h2,h3,h4,h5,h6⟩:=id co
  obtain⟨sa,cl,rfl,hsa,hcl⟩:=id st
  dsimp only[G_]
  have h1':=hid_sub _ _ h1
  have lp:∀{a b c d e:V},List.lookup (Str.ofString "what_at") [(Str.ofString "spots",a),(Str.ofString "mosts",b),(Str.ofString "first",c),(Str.ofString "whats",d),(Str.ofString "tables",e)]=none:=lk_no (by decide +kernel) (by decide +kernel) (by decide +kernel) (by decide +kernel) (by decide +kernel)
  cases hv:valV kvs (Sum.inr nm) with
  | some v=>
   simp_all only[tFld,hsa]
   refine⟨_,_,_,h1',T.cl_Course,T.na_Course_tables,_,lk_tb,_,rfl,_,.inl ⟨kvs,Sum.inr nm,.inl htb,rfl,hv.symm⟩,?_⟩
   rw[if_neg (by simp)]
   exact⟨_,_,_,h1',T.cl_Course,T.na_Course_tables,_,lk_tb,_,rfl,_,.inl ⟨kvs,Sum.inr nm,.inl htb,rfl,hv.symm⟩,kF v hv⟩
  | none=>
   simp_all only[tFld,tMeth,hsa,spWat,spPl,sDPut]
   refine⟨_,_,_,h1',T.cl_Course,T.na_Course_tables,_,lk_tb,_,rfl,_,.inl ⟨kvs,Sum.inr nm,.inl htb,rfl,hv.symm⟩,?_⟩
   rw[if_pos (by rfl)]
   refine⟨_,_,h1',lp,hid H tb,hid_sub,g,co.co,nm,ns,st,_,lk,fun u ru=>?_⟩
   refine(?_:let G_:Prop:=_;G_)
   intro G_
   obtain⟨p,x1,x2,x3,x4,rfl,hp,r1,r2,r3,r4⟩:=rep_t4.mp (show Rep _ (.tup _) u from ru)
   obtain⟨a,rfl,pl⟩:=pl_back r2
   dsimp only[G_]
   refine⟨_,rfl,_,hid_sub _ _ hp,_,rfl,_,rfl,ps,pl.mono hid_sub,gl,l4,fun p2 H1 s1 n1 rt=>?_⟩
   have ct:c≠tb:=fun z=>by rw[z] at h1;unfold hid at h1;rw[if_pos rfl] at h1;cases h1
   have sat:sa≠tb:=fun z=>by rw[z,htb] at hsa;cases hsa
   refine⟨_,_,_,s1 _ _ h1',T.cl_Course,T.na_Course_tables,_,lk_tb,_,s1 _ _ hsa,_,rfl,_,rfl,_,.inl ⟨kvs,Sum.inr nm,s1 _ _ htb,rfl,by omega,rfl⟩,?_⟩
   rw[put_new hv]
   refine⟨_,_,_,by rw[upd_ne ct];exact s1 _ _ h1',T.cl_Course,T.na_Course_tables,_,lk_tb,_,by rw[upd_ne sat];exact s1 _ _ hsa,_,rfl,_,rfl,_,.inl ⟨_,Sum.inr nm,.inl upd_same,rfl,?_⟩,kN hv p2 H1 s1 n1 rt⟩
   rw[val_snoc hv,if_pos rfl]
theorem sc_Course_by_value:FnScope ["self","state","value","rows"] ["self","state","value"] (defScope (inClass (top 41) 7)):=⟨rfl,rfl,rfl,by decide +kernel,rfl,by decide +kernel,by decide +kernel⟩
theorem ok_bv (T:Txt K mg q_LuckError q_NoShare q_NoTable q_NoEnd q_TooMany q_NoStep q_NoPlay q_Course q_Play):MtCal P w K mg base (CX1 P w) 4 q_Course "by_value" ["self","state","value"] (spBv q_Course):=by
 have m_Course_what_at:MtCal P w K mg base (CX1 P w) 1 q_Course "what_at" ["self","state"] (spWat q_Course):=ok_wat T
 have m_Course_by_row:MtCal P w K mg base (CX1 P w) 3 q_Course "by_row" ["self","state","row","value"] (spByR q_Course):=ok_byr T
 refine T.dm_Course_by_value.cal (fun _ _ _ _ _ _=>us_3 fun _ _ _=>rfl) fun f fd F=>F.okC sc_Course_by_value (fun vs H Q E h=>?_) (fun cdv A outer s H vs Q E hr h=>?_)
 ·obtain⟨_,_,_,_,_,_,_,_,_,_,_,_,_,rfl,_⟩:=h;rfl
 ·refine(?_:let G_:Prop:=_;G_)
  intro G_
  obtain⟨c,sv,v,g,nm,ns,pool,t,b,rs,r,fu,nm',rfl,co,gg,st,ln,lk,ro,ak,kk⟩:=h
  dsimp only[G_]
  have nd:=sc_Course_by_value.nd
  refine⟨_,(pss_cons (ps_setC (i:=3) rfl nd rfl rfl (N:=["self","state","value","rows"]) (so:=defScope (inClass (top 41) 7)) (N':=["row","value"]) (k:=1) (fr:=[2]) rfl rfl ⟨rfl,by decide +kernel,by decide +kernel,by decide +kernel,rfl,by decide +kernel,by decide +kernel⟩ (pi_listK (K:=K) (pe_ix ix_tupH (pe_mt m_Course_what_at T.cl_Course (pv 0) (hr.mono (by decide)) strictP.pass (pa_cons (pv 1) pa_nil (se rfl)) (hst:=se rfl) (hpl:=na rfl)) pe_int (fun _ _=>rfl))) (fun _ _ _ _ _=>(pg_name (i:=0) (show(["row","value"]:List Str).Nodup by decide +kernel) rfl (Or.inl rfl))) (fun _ _ _ _ _=>(pts_one (pt_chain op_le op_le (pe_ix ix_tupH (pv 0) pe_int (fun _ _=>rfl)) (pv 1) (pe_ix ix_tupH (pv 0) pe_int (fun _ _=>rfl)))))
   (fun _ _ _ _ _=>(pv 0)))
  (pss_one (ps_ret (pe_mt m_Course_by_row T.cl_Course (pv 0) (hr.mono (by decide)) strictP.pass (pa_cons (pv 1) (pa_cons (pe_ix ix_listH (pv 3) pe_int (fun _ _=>rfl)) (pa_cons (pv 2) pa_nil (se rfl)) (se rfl)) (se rfl)) (hst:=se rfl) (hpl:=na rfl))))),?_⟩
  have sl:=sizeLine_eq
  refine(?_:let G_:Prop:=_;G_)
  intro G_
  obtain⟨dx,sp,mo,wh,tb,us,ft',h1,h2,h3,h4,h5,h6⟩:=id co
  obtain⟨sa,cl,rfl,hsa,hcl⟩:=id st
  obtain⟨g0,g1,g2⟩:=gg.wt _ (look_mem lk)
  dsimp only[G_]
  have lp:∀{a b c d e:V},List.lookup (Str.ofString "what_at") [(Str.ofString "spots",a),(Str.ofString "mosts",b),(Str.ofString "first",c),(Str.ofString "whats",d),(Str.ofString "tables",e)]=none:=lk_no (by decide +kernel) (by decide +kernel) (by decide +kernel) (by decide +kernel) (by decide +kernel)
  have lp2:∀{a b c d e:V},List.lookup (Str.ofString "by_row") [(Str.ofString "spots",a),(Str.ofString "mosts",b),(Str.ofString "first",c),(Str.ofString "whats",d),(Str.ofString "tables",e)]=none:=lk_no (by decide +kernel) (by decide +kernel) (by decide +kernel) (by decide +kernel) (by decide +kernel)
  change tSeq _ _ _ [some (.ref c),some (.ref sa),some (.int v),none] H
  refine seq_c (fun N=>∀H1,Same H H1→∀p xs,H1 p=some (.lst xs)→RepL H (((rs.filter fun r=>decide (r.1≤v) && decide (v≤r.2.1)).map tw4).map r4D) xs→N [some (.ref c),some (.ref sa),some (.int v),some (.ref p)] H1) ?_ (fun N hN=>?_)
  case refine_2=>
   simp_all only[tMeth,spWat]
   refine⟨_,_,h1,lp,H,Same.refl _,g,co,nm,ns,st,_,lk,fun u ru=>?_⟩
   refine(?_:let G_:Prop:=_;G_)
   intro G_
   obtain⟨p,x1,x2,x3,x4,rfl,hp,r1,r2,r3,r4⟩:=rep_t4.mp (show Rep H (.tup _) u from ru)
   obtain⟨rl,xs,rfl,hrl,rxs⟩:=rep_lst.mp r4
   dsimp only[G_]
   have len:=rxs.length
   rw[List.length_map,List.length_map] at len
   have zl:(xs.zip rs).length=xs.length:=by rw[List.length_zip];omega
   refine⟨_,rfl,_,hp,_,rfl,_,rfl,⟨_,SqL.of hrl⟩,?_⟩
   have S:Src (Itl K rl) (Same H) xs.length _:=src_list (fun H' s'=>SqL.of (s' _ _ hrl))
   rw[←zl] at S
   refine comp_vals (xs.zip rs) (fun x=>if (decide (x.2.1≤v) && decide (v≤x.2.2.1))=true then some x.1 else none) S (fun _ _ _ _ h=>h.1) (by omega) ?_ ?_
   ·rintro i ⟨x,r'⟩ y exr ⟨_,ey⟩ Y N3 y1 y2
    obtain⟨e1,e2⟩:=List.getElem?_zip_eq_some.mp exr
    rw[e1] at ey
    cases ey
    refine(?_:let G_:Prop:=_;G_)
    intro G_
    obtain⟨dd,ed,rd⟩:=rxs.get e1
    dsimp only[G_]
    rw[List.getElem?_map,List.getElem?_map,e2] at ed
    cases ed
    refine(?_:let G_:Prop:=_;G_)
    intro G_
    obtain⟨p',a',b',c',d',rfl,hp',q1,q2,q3,q4⟩:=rep_t4.mp (show Rep H (.tup _) x from rd)
    dsimp only[G_]
    rw[show a'=.int r'.1 from rep_int.mp q1,show b'=.int r'.2.1 from rep_int.mp q2] at hp'
    simp_all only[hp']
    by_cases c1:r'.1≤v
    ·rw[if_pos c1]
     by_cases c2:v≤r'.2.1
     ·rw[if_pos c2];exact y1 _ (if_pos (by simp [c1,c2]))
     ·rw[if_neg c2];exact y2 (if_neg (by simp [c2]))
    ·rw[if_neg c1,if_neg (by decide)];exact y2 (if_neg (by simp [c1]))
   ·intro D n1 n2
    exact hN _ (same_upd n2) D _ upd_same (tw_filter rxs)
  rintro H1 s1 p xs hp rxs
  have hd:(rs.filter fun r=>decide (r.1≤v) && decide (v≤r.2.1)).head?=some r:=by rw[List.head?_filter];exact ro
  obtain⟨rest,er⟩:∃rest,(rs.filter fun r=>decide (r.1≤v) && decide (v≤r.2.1))=r::rest:=by
   cases h:rs.filter fun r=>decide (r.1≤v) && decide (v≤r.2.1) with
   | nil=>rw[h] at hd;cases hd
   | cons a l=>rw[h] at hd;cases hd;exact⟨l,rfl⟩
  rw[er] at rxs
  refine(?_:let G_:Prop:=_;G_)
  intro G_
  obtain⟨y,ys,rfl,ry,_⟩:=repL_cons.mp rxs
  have rmem:r∈rs:=List.mem_of_find?_eq_some ro
  obtain⟨q1,q2⟩:=g2 r rmem
  dsimp only[G_]
  simp_all only[tMeth,spByR]
  refine⟨_,_,s1 _ _ h1,lp2,_,hp,_,(atI_nat rfl:atI (y::ys) ((0:Nat):Int)=_),g,co.mono s1,gg,nm,ns,st.mono s1,_,_,r.2.2.1,r.2.2.2,ry.mono s1,q2,q1,ln,fu,nm',ak,fun p' l' H' s' n1 n2 e1 e2=>kk p' l' H' (s1.trans s') (none_of s1 n1) (none_of s1 n2) e1 e2⟩
noncomputable def hidA (L:List Addr) (H:Hp):Hp:=fun a=>if a∈L then none else H a
theorem hidA_no {L:List Addr} {H:Hp} {a:Addr} (h:a∉L):hidA L H a=H a:=if_neg h
theorem hidA_out {L:List Addr} {H:Hp} {a:Addr} {o:HO} (h:hidA L H a=some o):a∉L∧H a=some o:=by
 unfold hidA at h
 by_cases c:a∈L
 ·rw[if_pos c] at h;cases h
 ·rw[if_neg c] at h;exact⟨c,h⟩
theorem hidA_sub {L:List Addr} {H:Hp}:Same (hidA L H) H:=fun _ _ h=>(hidA_out h).2
theorem hidA_hid {L:List Addr} {H:Hp} {t:Addr} (ht:t∈L):Same (hidA L H) (hid H t):=fun a o h=>by
 obtain⟨c,h⟩:=hidA_out h
 rw[hid_ne (fun z=>c (by rw[z];exact ht))]
 exact h
noncomputable def K3 (p t b:Addr) (H H':Hp):Prop:=∀a o,a≠p→a≠t→a≠b→H a=some o→H' a=some o
theorem K3.of {p t b:Addr} {H H':Hp} (s:Same H H'):K3 p t b H H':=fun a o _ _ _ h=>s a o h
theorem K3.trans {p t b:Addr} {H H' H'':Hp} (s:K3 p t b H H') (s':K3 p t b H' H''):K3 p t b H H'':=fun a o h1 h2 h3 h=>s' a o h1 h2 h3 (s a o h1 h2 h3 h)
theorem K3.hid {p t b:Addr} {L:List Addr} {H H':Hp} (k:K3 p t b H H') (hp:p∈L) (ht:t∈L) (hb:b∈L):Same (hidA L H) (hidA L H'):=fun a o h=>by
 obtain⟨c,h⟩:=hidA_out h
 rw[hidA_no c]
 exact k a o (fun z=>c (by rw[z];exact hp)) (fun z=>c (by rw[z];exact ht)) (fun z=>c (by rw[z];exact hb)) h
theorem hidA_mono {L:List Addr} {H H':Hp} (s:Same H H'):Same (hidA L H) (hidA L H'):=fun a o h=>by
 obtain⟨c,h⟩:=hidA_out h
 rw[hidA_no c]
 exact s a o h
abbrev Trl:=Str×Sta×(Int×Int)
noncomputable def TrE (X:Hp) (e:Trl) (v:V):Prop:=∃t sv pv,v=.ref t∧X t=some (.tup [.str e.1,sv,pv])∧StH X sv e.2.1.1 e.2.1.2∧Rep X (wrowD e.2.2) pv
theorem TrE.mono {X X':Hp} {e:Trl} {v:V} (s:Same X X') (h:TrE X e v):TrE X' e v:=by
 obtain⟨t,sv,pv,e1,h1,⟨a,l,e2,h2,h3⟩,r⟩:=h
 exact⟨t,sv,pv,e1,s _ _ h1,⟨a,l,e2,s _ _ h2,s _ _ h3⟩,r.mono s⟩
noncomputable def plF (c sv pv tl:V):List (Str×V):=[(Str.ofString "course",c),(Str.ofString "state",sv),(Str.ofString "paid",pv),(Str.ofString "trail",tl)]
noncomputable def TbP (H X:Hp) (tb:Addr) (g:Gm):Prop:=∃kvs,H tb=some (.dK kvs)∧(kvs.map (·.1)).Nodup∧(∀k∈kvs.map (·.1),k∈g.ps.map fun p=>(Sum.inr p.1:Key))∧∀nm v,valV kvs (Sum.inr nm)=some v→∃ps t b rs,look g.ps nm=some (.thr (ps.map ptD) t b rs)∧Rep X (rowsD (tabP ps)) v
theorem TbP.mono {H H' X X':Hp} {tb:Addr} {g:Gm} (s:Same X X') (k:∀o,H tb=some o→H' tb=some o):TbP H X tb g→TbP H' X' tb g:=fun hh=>by
 obtain⟨kvs,h1,h2,h3,h4⟩:=hh
 exact⟨kvs,k _ h1,h2,h3,fun nm v e=>by obtain⟨ps,t,b,rs,a,r⟩:=h4 nm v e;exact⟨ps,t,b,rs,a,r.mono s⟩⟩
structure PlyH (qP qC:Addr) (L:List Addr) (H:Hp) (p tl tb:Addr) (g:Gm) (st:Sta) (pd:Int×Int) (tr:List Trl):Prop where
 mem:p∈L∧tl∈L∧tb∈L
 al:∀a∈L,∃o,H a=some o∧∀vs,o≠.tup vs
 ex:∃dp c sv pv xs,H p=some (.ins qP dp (plF (.ref c) sv pv (.ref tl)))∧CoT qC (hidA L H) c g tb∧StH (hidA L H) sv st.1 st.2∧Rep (hidA L H) (wrowD pd) pv∧H tl=some (.lst xs)∧Al (TrE (hidA L H)) tr xs
 tbs:TbP H (hidA L H) tb g
 good:GoodG g
 len:st.2.length=g.cs.length
 lenT:∀e∈tr,e.2.1.2.length=g.cs.length
noncomputable def spPin (qP qC:Addr):Sp:=fun vs H Q _=>∃(x dx:Addr) (gv:V) (X:Hp) (g:Gm) (f:Nat) (ft nm:Str),vs=[.ref x,gv]∧H x=some (.ins qP dx [])∧Same X H∧X x=none∧Rep X (gmD g) gv∧GoodG g∧(g.ps.map (·.1)).head?=some ft∧askd g (List.replicate g.cs.length 0) f ft=some nm∧
 ∀c sv pv tl tb H',(∀a o,a≠x→H a=some o→H' a=some o)→H tl=none→H tb=none→H' x=some (.ins qP dx (plF (.ref c) sv pv (.ref tl)))→H' tl=some (.lst [])→H' tb=some (.dK [])→CoT qC (hidA [x,tl,tb] (nw (hid H x) X H')) c g tb→StH (hidA [x,tl,tb] (nw (hid H x) X H')) sv nm (List.replicate g.cs.length 0)→Rep (hidA [x,tl,tb] (nw (hid H x) X H')) (wrowD (0,1)) pv→Q .non H'
noncomputable def spStn (qP qC:Addr):Sp:=fun vs H Q _=>∃p tl tb L g st pd tr,vs=[.ref p]∧PlyH qP qC L H p tl tb g st pd tr∧∀a l H',Same H H'→H a=none→H l=none→H' a=some (.tup [.str st.1,.ref l])→H' l=some (.lst (st.2.map V.int))→Q (.ref a) H'
theorem pf_co {a b c d:V}:List.lookup (Str.ofString "course") (plF a b c d)=some a:=List.lookup_cons_self
theorem pf_st {a b c d:V}:List.lookup (Str.ofString "state") (plF a b c d)=some b:=by unfold plF;rw[lk_ne (by decide +kernel)];exact List.lookup_cons_self
theorem pf_pd {a b c d:V}:List.lookup (Str.ofString "paid") (plF a b c d)=some c:=by unfold plF;rw[lk_ne (by decide +kernel),lk_ne (by decide +kernel)];exact List.lookup_cons_self
theorem pf_tr {a b c d:V}:List.lookup (Str.ofString "trail") (plF a b c d)=some d:=by unfold plF;rw[lk_ne (by decide +kernel),lk_ne (by decide +kernel),lk_ne (by decide +kernel)];exact List.lookup_cons_self
theorem sc_Play_stands:FnScope ["self"] ["self"] (defScope (inClass (top 45) 1)):=⟨rfl,rfl,rfl,by decide +kernel,rfl,by decide +kernel,by decide +kernel⟩
theorem ok_stn (T:Txt K mg q_LuckError q_NoShare q_NoTable q_NoEnd q_TooMany q_NoStep q_NoPlay q_Course q_Play):MtCal P w K mg base (CX1 P w) 1 q_Play "stands" ["self"] (spStn q_Play q_Course):=by
 refine T.dm_Play_stands.cal (fun _ _ _ _ _ _=>us_1 fun _=>rfl) fun f fd F=>F.okC sc_Play_stands (fun vs H Q E h=>?_) (fun cdv A outer s H vs Q E hr h=>?_)
 ·obtain⟨_,_,_,_,_,_,_,_,rfl,_⟩:=h;rfl
 ·refine(?_:let G_:Prop:=_;G_)
  intro G_
  obtain⟨p,tl,tb,L,g,st,pd,tr,rfl,pl,kk⟩:=h
  dsimp only[G_]
  have nd:=sc_Play_stands.nd
  refine⟨_,(pss_one (ps_ret (pe_tupS (pa_cons (pe_ix ix_tupH (pe_fld (pv 0) rfl) pe_int (fun _ _=>rfl)) (pa_cons (pe_callTy (call_list_ofK (K:=K)) (by rfl) T.z_list rfl (pa_cons (pe_ix ix_tupH (pe_fld (pv 0) rfl) pe_int (fun _ _=>rfl)) pa_nil (se rfl)) (he:=se rfl) (hpl:=na rfl)) pa_nil (se rfl)) (se rfl))))),?_⟩
  refine(?_:let G_:Prop:=_;G_)
  intro G_
  obtain⟨dp,c,sv,pv,xs,hp,co,⟨sa,cl,rfl,hsa,hcl⟩,rp,htl,al⟩:=pl.ex
  dsimp only[G_]
  have hsa:=hidA_sub _ _ hsa
  have hcl:=hidA_sub _ _ hcl
  simp_all only[tFld]
  exact⟨_,_,_,hp,T.cl_Play,T.na_Play_state,_,pf_st,sa,rfl,_,hsa,_,rfl,_,_,_,hp,T.cl_Play,T.na_Play_state,_,pf_st,sa,rfl,_,hsa,_,rfl,cl,rfl,_,.inl (SqL.of hcl),fun l nl=>⟨by decide,fun a H' s' na ha=>kk a l H' ((same_upd nl).trans s') (none_of (same_upd nl) na) nl ha (s' _ _ upd_same)⟩⟩
theorem sc_Play___init__:FnScope ["self","game"] ["self","game"] (defScope (inClass (top 45) 0)):=⟨rfl,rfl,rfl,by decide +kernel,rfl,by decide +kernel,by decide +kernel⟩
theorem ok_pin (T:Txt K mg q_LuckError q_NoShare q_NoTable q_NoEnd q_TooMany q_NoStep q_NoPlay q_Course q_Play):MkCal P w K mg base (CX1 P w) 5 "Play" q_Play ["self","game"] (spPin q_Play q_Course):=by
 have m_Course:MkCal P w K mg base (CX1 P w) 3 "Course" q_Course ["self","game"] (spCoX q_Course):=ok_co T
 have m_Course_start:MtCal P w K mg base (CX1 P w) 2 q_Course "start" ["self"] (spSta q_Course):=ok_sta T
 refine T.di_Play.cal (fun _ _ _ _ _ _=>us_2 fun _ _=>rfl) fun f fd F=>F.okC sc_Play___init__ (fun vs H Q E h=>?_) (fun cdv A outer s H vs Q E hr h=>?_)
 ·obtain⟨_,_,_,_,_,_,_,_,rfl,_⟩:=h;rfl
 ·refine(?_:let G_:Prop:=_;G_)
  intro G_
  obtain⟨x,dx,gv,X,g,fu,ft,nm,rfl,hx,sx,xx,rg,gg,hft,ask,kk⟩:=h
  dsimp only[G_]
  have nd:=sc_Play___init__.nd
  refine⟨_,(pss_cons (ps_fld (pv 0) (pe_mk m_Course (hr.mono (by decide)) rfl strictP.pass (pa_cons (pv 1) pa_nil (se rfl)) (he:=se rfl) (hpl:=na rfl)) rfl)
  (pss_cons (ps_fld (pv 0) (pe_mt0 m_Course_start T.cl_Course (pe_fld (pv 0) rfl) (hr.mono (by decide)) strictP.pass) rfl)
  (pss_cons (ps_fld (pv 0) (pe_tupS (pa_cons pe_int (pa_cons pe_int pa_nil (se rfl)) (se rfl))) rfl)
  (pss_one (ps_fld (pv 0) (pe_lst pa_nil) rfl))))),?_⟩
  refine(?_:let q0_:TS:=_;let q1_:TS:=_;let q2_:TS:=_;let q3_:TS:=_;tSeq q0_ (tSeq q1_ (tSeq q2_ q3_)) _ _ _)
  intro q0_ q1_ q2_ q3_
  have sl:=sizeLine_eq
  let K1:Hp→Prop:=fun H1=>∀a o,a≠x→H a=some o→H1 a=some o
  change tSeq _ _ _ [some (.ref x),some gv] H
  refine seq_c (fun N=>∀H1 c tb,K1 H1→H c=none→H tb=none→H1 x=some (.ins q_Play dx [(Str.ofString "course",.ref c)])→H1 tb=some (.dK [])→CoT q_Course (hidA [x,tb] (nw (hid H x) X H1)) c g tb→N [some (.ref x),some gv] H1) ?_ (fun N hN=>?_)
  case refine_2=>
   simp_all only[sFld,tMake,spCoX]
   intro c dc nc ndc ne
   have hcx:c≠x:=fun z=>by rw[z,hx] at nc;cases nc
   have hdx:dc≠x:=fun z=>by rw[z,hx] at ndc;cases ndc
   have sc:Same H (upd (upd H dc (.own c)) c (.ins q_Course dc [])):=fun a o h=>by
    rw[upd_ne (fun z=>by rw[z,nc] at h;cases h),upd_ne (fun z=>by rw[z,ndc] at h;cases h)]
    exact h
   have xc:X c=none:=by
    cases h:X c with
    | none=>rfl
    | some o=>rw[sx _ _ h] at nc;cases nc
   refine⟨dc,upd_same,X,sx.trans sc,xc,g,rg,gg,fun tb H' kH ntb htb co=>?_⟩
   have hx':H' x=some (.ins q_Play dx []):=kH _ _ (Ne.symm hcx) (sc _ _ hx)
   have ntb0:H tb=none:=none_of sc ntb
   have tbx:tb≠x:=fun z=>by rw[z,hx] at ntb0;cases ntb0
   refine⟨_,_,_,hx',T.cl_Play,T.na_Play_course,by decide,hN _ c tb (fun a o ax h=>by rw[upd_ne ax];exact kH a o (fun z=>by rw[z,nc] at h;cases h) (sc _ _ h)) nc ntb0 upd_same (by rw[upd_ne tbx];exact htb) (co.mono fun a o h=>?_)⟩
   obtain⟨atb,h⟩:a≠tb∧nw (hid (upd (upd H dc (.own c)) c (.ins q_Course dc [])) c) X H' a=some o:=by
    by_cases z:a=tb
    ·unfold hid at h;rw[if_pos z] at h;cases h
    ·rw[hid_ne z] at h;exact⟨z,h⟩
   have go:a≠x→nw (hid H x) X (upd H' x (.ins q_Play dx (putF (Str.ofString "course") (.ref c) []))) a=some o→hidA [x,tb] (nw (hid H x) X (upd H' x (.ins q_Play dx (putF (Str.ofString "course") (.ref c) [])))) a=some o:=fun ax h=>by
    rw[hidA_no (by simp [ax,atb])]
    exact h
   cases h6:hid (upd (upd H dc (.own c)) c (.ins q_Course dc [])) c a with
   | none=>
    rw[nw_new h6] at h
    have h0:H a=none:=by
     by_cases z:a=c
     ·rw[z];exact nc
     ·rw[hid_ne z] at h6
      exact none_of sc h6
    have ax:a≠x:=fun z=>by rw[z,hx] at h0;cases h0
    refine go ax ?_
    rw[nw_new (by rw[hid_ne ax];exact h0),upd_ne ax]
    exact h
   | some o6=>
    unfold nw at h
    rw[h6] at h
    exact go (fun z=>by rw[z,xx] at h;cases h) (nw_in (fun a o hh=>by rw[hid_ne (fun z=>by rw[z,xx] at hh;cases hh)];exact sx _ _ hh) _ _ h)
  rintro H1 c tb k1 nc ntb hx1 htb1 co1
  have cx:c≠x:=fun z=>by rw[z,hx] at nc;cases nc
  change tSeq _ _ _ [some (.ref x),some gv] H1
  refine seq_c (fun N=>∀H2 sv,(∀a o,a≠x→H1 a=some o→H2 a=some o)→H2 x=some (.ins q_Play dx [(Str.ofString "course",.ref c),(Str.ofString "state",sv)])→StH (hidA [x,tb] (nw (hid H x) X H2)) sv nm (List.replicate g.cs.length 0)→N [some (.ref x),some gv] H2) ?_ (fun N hN=>?_)
  case refine_2=>
   simp_all only[sFld,tMeth,tFld,spSta]
   have s1:Same (hidA [x,tb] (nw (hid H x) X H1)) H1:=fun a o h=>by
    obtain⟨nm',h⟩:=hidA_out h
    cases h6:hid H x a with
    | none=>rw[nw_new h6] at h;exact h
    | some o6=>
     unfold nw at h
     rw[h6] at h
     exact k1 _ _ (fun z=>by rw[z,xx] at h;cases h) (sx _ _ h)
   refine(?_:let G_:Prop:=_;G_)
   intro G_
   obtain⟨dc,sp,mo,wh,us,ft',h1,_⟩:=id co1
   dsimp only[G_]
   refine⟨_,_,_,hx1,T.cl_Play,T.na_Play_course,_,List.lookup_cons_self,c,rfl,_,_,s1 _ _ h1,lk_no (by decide +kernel) (by decide +kernel) (by decide +kernel) (by decide +kernel) (by decide +kernel),c,rfl,g,(co1.mono s1).co,gg,fu,ft,hft,nm,ask,fun a l H' s' na nl ha hl=>?_⟩
   have hx':=s' _ _ hx1
   have ax:a≠x:=fun z=>by rw[z,hx1] at na;cases na
   have lx:l≠x:=fun z=>by rw[z,hx1] at nl;cases nl
   have atb:a≠tb:=fun z=>by rw[z,htb1] at na;cases na
   have ltb:l≠tb:=fun z=>by rw[z,htb1] at nl;cases nl
   have n0:∀{b},b≠x→H1 b=none→H b=none:=fun {b} bx h=>by
    cases h0:H b with
    | none=>rfl
    | some o=>rw[k1 _ _ bx h0] at h;cases h
   refine⟨_,_,_,hx',T.cl_Play,T.na_Play_state,by show(1:Nat)<1000;decide,hN _ (.ref a) (fun b o bx h=>by rw[upd_ne bx];exact s' _ _ h) ?_ ⟨a,l,rfl,?_,?_⟩⟩
   ·rw[upd_same]
    show some (HO.ins _ _ (if Str.ofString "course"=Str.ofString "state" then _ else _))=_
    rw[if_neg (by decide +kernel)]
    rfl
   ·rw[hidA_no (by simp [ax,atb]),nw_new (by rw[hid_ne ax];exact n0 ax na),upd_ne ax]
    exact ha
   ·rw[hidA_no (by simp [lx,ltb]),nw_new (by rw[hid_ne lx];exact n0 lx nl),upd_ne lx]
    exact hl
  rintro H2 sv k2 hx2 st2
  change tSeq _ _ _ [some (.ref x),some gv] H2
  refine seq_c (fun N=>∀H3 pv,(∀a o,a≠x→H2 a=some o→H3 a=some o)→H3 x=some (.ins q_Play dx [(Str.ofString "course",.ref c),(Str.ofString "state",sv),(Str.ofString "paid",pv)])→Rep (hidA [x,tb] (nw (hid H x) X H3)) (wrowD (0,1)) pv→N [some (.ref x),some gv] H3) ?_ (fun N hN=>?_)
  case refine_2=>
   simp_all only[sFld]
   refine⟨by decide,fun r H' s' nr hr'=>?_⟩
   have rx:r≠x:=fun z=>by rw[z,hx2] at nr;cases nr
   have htb2:=k2 _ _ (fun z=>by rw[z,hx] at ntb;cases ntb) htb1
   have rtb:r≠tb:=fun z=>by rw[z,htb2] at nr;cases nr
   have nr0:H r=none:=by
    cases h0:H r with
    | none=>rfl
    | some o=>rw[k2 _ _ rx (k1 _ _ rx h0)] at nr;cases nr
   refine⟨_,_,_,s' _ _ hx2,T.cl_Play,T.na_Play_paid,by show(2:Nat)<1000;decide,hN _ (.ref r) (fun b o bx h=>by rw[upd_ne bx];exact s' _ _ h) ?_ (rep_wrow.mpr ⟨r,rfl,?_⟩)⟩
   ·rw[upd_same]
    show some (HO.ins _ _ (if Str.ofString "course"=Str.ofString "paid" then _ else _::(if Str.ofString "state"=Str.ofString "paid" then _ else _)))=_
    rw[if_neg (by decide +kernel),if_neg (by decide +kernel)]
    rfl
   ·rw[hidA_no (by simp [rx,rtb]),nw_new (by rw[hid_ne rx];exact nr0),upd_ne rx]
    exact hr'
  rintro H3 pv k3 hx3 rp3
  simp_all only[sFld]
  refine⟨Nat.zero_le _,fun tl ntl=>?_⟩
  have tlx:tl≠x:=fun z=>by rw[z,hx3] at ntl;cases ntl
  have k13:∀a o,a≠x→H1 a=some o→H3 a=some o:=fun a o ax h=>k3 _ _ ax (k2 _ _ ax h)
  have ntl0:H tl=none:=by
   cases h0:H tl with
   | none=>rfl
   | some o=>rw[k13 _ _ tlx (k1 _ _ tlx h0)] at ntl;cases ntl
  have htb3:=k13 _ _ (fun z=>by rw[z,hx] at ntb;cases ntb) htb1
  have tbx:tb≠x:=fun z=>by rw[z,hx] at ntb;cases ntb
  have tbl:tb≠tl:=fun z=>by rw[←z,htb3] at ntl;cases ntl
  have up:∀Hk v,(∀a o,a≠x→Hk a=some o→H3 a=some o)→Same (hidA [x,tb] (nw (hid H x) X Hk)) (hidA [x,tl,tb] (nw (hid H x) X (upd (upd H3 tl (.lst [])) x v))):=fun Hk v kk' a o h=>by
   obtain⟨na,h⟩:=hidA_out h
   have ax:a≠x:=fun z=>na (by simp [z])
   have atb:a≠tb:=fun z=>na (by simp [z])
   cases h6:hid H x a with
   | none=>
    rw[nw_new h6] at h
    have h3:=kk' _ _ ax h
    have atl:a≠tl:=fun z=>by rw[z,ntl] at h3;cases h3
    rw[hidA_no (by simp [ax,atl,atb]),nw_new h6,upd_ne ax,upd_ne atl]
    exact h3
   | some o6=>
    have atl:a≠tl:=fun z=>by rw[z,hid_ne tlx,ntl0] at h6;cases h6
    rw[hidA_no (by simp [ax,atl,atb])]
    unfold nw at h ⊢
    rw[h6] at h ⊢
    exact h
  refine⟨_,_,_,by rw[upd_ne (Ne.symm tlx)];exact hx3,T.cl_Play,T.na_Play_trail,by show(3:Nat)<1000;decide,kk c sv pv tl tb _ (fun a o ax h=>?_) ntl0 ntb ?_ (by rw[upd_ne tlx,upd_same]) (by rw[upd_ne tbx,upd_ne tbl];exact htb3) (co1.mono (up H1 _ k13)) ?_ (rp3.mono (up H3 _ fun _ _ _ h=>h))⟩
  ·rw[upd_ne ax,upd_ne (fun z=>by rw[z,ntl0] at h;cases h)]
   exact k13 _ _ ax (k1 _ _ ax h)
  ·rw[upd_same]
   show some (HO.ins _ _ (if Str.ofString "course"=Str.ofString "trail" then _ else _::(if Str.ofString "state"=Str.ofString "trail" then _ else _::(if Str.ofString "paid"=Str.ofString "trail" then _ else _))))=_
   rw[if_neg (by decide +kernel),if_neg (by decide +kernel),if_neg (by decide +kernel)]
   rfl
  ·refine(?_:let G_:Prop:=_;G_)
   intro G_
   obtain⟨a,l,e,h1,h2⟩:=st2
   dsimp only[G_]
   have u:=up H2 (.ins q_Play dx (putF (Str.ofString "trail") (.ref tl) [(Str.ofString "course",.ref c),(Str.ofString "state",sv),(Str.ofString "paid",pv)])) (fun a o ax h=>k3 _ _ ax h)
   exact⟨a,l,e,u _ _ h1,u _ _ h2⟩
theorem nodup_le {α:Type} [DecidableEq α]:∀{l U:List α},l.Nodup→(∀x∈l,x∈U)→l.length≤U.length
 | [],_,_,_=>Nat.zero_le _
 | a::l,U,nd,h=>by
  obtain⟨na,nd⟩:=List.nodup_cons.mp nd
  have ha:=h a List.mem_cons_self
  have:=nodup_le (l:=l) (U:=U.erase a) nd fun x hx=>by
   have xa:x≠a:=fun z=>na (z▸hx)
   exact(List.mem_erase_of_ne xa).mpr (h x (List.mem_cons_of_mem _ hx))
  rw[List.length_erase_of_mem ha] at this
  have:=List.length_pos_of_mem ha
  rw[List.length_cons]
  omega
theorem PlyH.kept {qP qC:Addr} {L:List Addr} {H H':Hp} {p tl tb:Addr} {g:Gm} {st:Sta} {pd:Int×Int} {tr:List Trl} (pl:PlyH qP qC L H p tl tb g st pd tr) (s:Same (hidA L H) (hidA L H')) (k:∀a,a=p∨a=tl∨a=tb→∀o,H a=some o→H' a=some o) (al:∀a∈L,∃o,H' a=some o∧∀vs,o≠.tup vs):PlyH qP qC L H' p tl tb g st pd tr:=by
 obtain⟨m,_,⟨dp,c,sv,pv,xs,h1,h2,h3,h4,h5,h6⟩,tbs,gd,ln,lt⟩:=pl
 exact⟨m,al,⟨dp,c,sv,pv,xs,k _ (.inl rfl) _ h1,h2.mono s,h3.mono s,h4.mono s,k _ (.inr (.inl rfl)) _ h5,h6.imp fun _ _ h=>h.mono s⟩,tbs.mono s (k _ (.inr (.inr rfl))),gd,ln,lt⟩
theorem PlyH.same {qP qC:Addr} {L:List Addr} {H H':Hp} {p tl tb:Addr} {g:Gm} {st:Sta} {pd:Int×Int} {tr:List Trl} (pl:PlyH qP qC L H p tl tb g st pd tr) (s:Same H H'):PlyH qP qC L H' p tl tb g st pd tr:=
 pl.kept (hidA_mono s) (fun _ _ _ h=>s _ _ h) fun a ha=>by obtain⟨o,h,n⟩:=pl.al a ha;exact⟨o,s _ _ h,n⟩
theorem PlyH.out {qP qC:Addr} {L:List Addr} {H:Hp} {p tl tb:Addr} {g:Gm} {st:Sta} {pd:Int×Int} {tr:List Trl} (pl:PlyH qP qC L H p tl tb g st pd tr) {a:Addr} (n:H a=none):a∉L:=fun m=>by
 obtain⟨o,h,_⟩:=pl.al a m
 rw[n] at h
 cases h
theorem PlyH.next {qP qC:Addr} {L:List Addr} {H H':Hp} {p tl tb:Addr} {g:Gm} {st st':Sta} {pd pd':Int×Int} {tr tr':List Trl} (pl:PlyH qP qC L H p tl tb g st pd tr) (k3:K3 p tl tb H H') {dp c:Addr} {sv pv:V} {xs:List V}
  (h1:H' p=some (.ins qP dp (plF (.ref c) sv pv (.ref tl)))) (co:CoT qC (hidA L H) c g tb) (h3:StH (hidA L H') sv st'.1 st'.2) (h4:Rep (hidA L H') (wrowD pd') pv) (h5:H' tl=some (.lst xs)) (h6:Al (TrE (hidA L H')) tr' xs) (tb':TbP H' (hidA L H') tb g) (ln:st'.2.length=g.cs.length) (lt:∀e∈tr',e.2.1.2.length=g.cs.length):PlyH qP qC L H' p tl tb g st' pd' tr':=by
 refine⟨pl.mem,fun a ha=>?_,⟨dp,c,sv,pv,xs,h1,co.mono (k3.hid pl.mem.1 pl.mem.2.1 pl.mem.2.2),h3,h4,h5,h6⟩,tb',pl.good,ln,lt⟩
 by_cases e1:a=p
 ·exact⟨_,by rw[e1];exact h1,fun _ z=>by cases z⟩
 by_cases e2:a=tl
 ·exact⟨_,by rw[e2];exact h5,fun _ z=>by cases z⟩
 by_cases e3:a=tb
 ·obtain⟨kvs,z,_⟩:=tb';exact⟨_,by rw[e3];exact z,fun _ z=>by cases z⟩
 obtain⟨o,h,n⟩:=pl.al a ha
 exact⟨o,k3 _ _ e1 e2 e3 h,n⟩
theorem TrE.up {X X':Hp} {tr:List Trl} {xs:List V} (s:Same X X') (h:Al (TrE X) tr xs):Al (TrE X') tr xs:=h.imp fun _ _ h=>h.mono s
theorem pu_st {a b c d v:V}:putF (Str.ofString "state") v (plF a b c d)=plF a v c d:=by
 show(if Str.ofString "course"=Str.ofString "state" then _ else _::(if Str.ofString "state"=Str.ofString "state" then _ else _))=_
 rw[if_neg (by decide +kernel),if_pos rfl]
 rfl
theorem pu_pd {a b c d v:V}:putF (Str.ofString "paid") v (plF a b c d)=plF a b v d:=by
 show(if Str.ofString "course"=Str.ofString "paid" then _ else _::(if Str.ofString "state"=Str.ofString "paid" then _ else _::(if Str.ofString "paid"=Str.ofString "paid" then _ else _)))=_
 rw[if_neg (by decide +kernel),if_neg (by decide +kernel),if_pos rfl]
 rfl
theorem ints_rep {H:Hp}:∀l:List Int,RepL H (l.map Dat.int) (l.map V.int)
 | []=>repL_nil.mpr rfl
 | _::l=>repL_cons.mpr ⟨_,_,rfl,rep_int.mpr rfl,ints_rep l⟩
theorem ints_back {H:Hp}:∀{l:List Int} {vs:List V},RepL H (l.map Dat.int) vs→vs=l.map V.int
 | [],_,h=>repL_nil.mp h
 | _::_,_,h=>by
  obtain⟨v,r,rfl,a,b⟩:=repL_cons.mp h
  rw[rep_int.mp a,ints_back b]
  rfl
theorem ints_flat (l:List Int):(l.map V.int).all flatV=true:=List.all_eq_true.mpr fun x hx=>by
 obtain⟨i,_,rfl⟩:=List.mem_map.mp hx
 rfl
theorem inV_int (x:Int) (ns:List Int):inV (V.int x) (List.map V.int ns)=decide (x∈ns):=by
 unfold inV
 by_cases c:x∈ns
 ·rw[decide_eq_true c]
  exact List.any_eq_true.mpr ⟨V.int x,List.mem_map.mpr ⟨x,c,rfl⟩,by simp [eqV]⟩
 ·rw[decide_eq_false c]
  refine List.any_eq_false.mpr fun y hy=>?_
  obtain⟨n,hn,rfl⟩:=List.mem_map.mp hy
  have:n≠x:=fun e=>by subst e;exact c hn
  simp [eqV,this]
theorem ints_in {l:List Int} {v:Int} (h:v∈l):inV (.int v) (l.map V.int)=true:=by rw[inV_int];exact decide_eq_true h
noncomputable def HfB (N:Int) (x:Int×Int):Prop:=Wq.Lw x∧x.2∣2∧-N≤Wq.sc 2 x∧Wq.sc 2 x≤N
theorem HfB.num {N:Int} {x:Int×Int} (h:HfB N x) (n:N≤1000000):(-1000000≤x.1∧x.1≤1000000)∧0<x.2∧x.2≤2:=by
 have b0:=h.1.1
 have b2:=Int.le_of_dvd (by decide) h.2.1
 have e:=Wq.sc_bot h.2.1
 have:=h.2.2
 refine⟨?_,b0,b2⟩
 have c:x.2=1∨x.2=2:=by omega
 rcases c with c | c <;>rw[c] at e <;>omega
theorem hfb_one (k:Int) {N:Int} (h1:-N≤2*k) (h2:2*k≤N):HfB N (k,1):=⟨⟨by show(0:Int)<1;decide,by show Nm.g k 1=1;unfold Nm.g;rw[Int.gcd_one_right];rfl⟩,⟨2,rfl⟩,by show -N≤k* (2 / 1);omega,by show k* (2 / 1)≤N;omega⟩
noncomputable def kdW:Wt→Str
 | .ask _ _ _ _=>Str.ofString "ask"
 | .fin _ _=>Str.ofString "end"
 | .score _=>Str.ofString "score"
 | .pick _ _=>Str.ofString "pick"
 | .thr _ _ _ _=>Str.ofString "throw"
theorem wt_kd {H:Hp} {x:Wt} {u:V} (h:Rep H (wtD x) u):∃q vs,u=.ref q∧H q=some (.tup (.str (kdW x)::vs)):=by
 cases x <;>(obtain⟨p,vs,rfl,hp,r⟩:=rep_tup.mp (show Rep H (.tup _) u from h);obtain⟨v,r1,rfl,a,_⟩:=repL_cons.mp r;obtain rfl:=rep_str.mp a;exact⟨p,r1,rfl,hp⟩)
theorem kd_pick {x:Wt} (h:kdW x=Str.ofString "pick"):∃w rs,x=.pick w rs:=by
 cases x with
 | ask c k a b=>exact absurd (show Str.ofString "ask"=Str.ofString "pick" from h) (by decide +kernel)
 | fin t b=>exact absurd (show Str.ofString "end"=Str.ofString "pick" from h) (by decide +kernel)
 | score c=>exact absurd (show Str.ofString "score"=Str.ofString "pick" from h) (by decide +kernel)
 | pick w rs=>exact⟨_,_,rfl⟩
 | thr pool t b rs=>exact absurd (show Str.ofString "throw"=Str.ofString "pick" from h) (by decide +kernel)
theorem kd_thr {x:Wt} (h:kdW x=Str.ofString "throw"):∃pool t b rs,x=.thr pool t b rs:=by
 cases x with
 | ask c k a b=>exact absurd (show Str.ofString "ask"=Str.ofString "throw" from h) (by decide +kernel)
 | fin t b=>exact absurd (show Str.ofString "end"=Str.ofString "throw" from h) (by decide +kernel)
 | score c=>exact absurd (show Str.ofString "score"=Str.ofString "throw" from h) (by decide +kernel)
 | pick w rs=>exact absurd (show Str.ofString "pick"=Str.ofString "throw" from h) (by decide +kernel)
 | thr pool t b rs=>exact⟨_,_,_,_,rfl⟩
theorem pf_len {a b c d:V}:(plF a b c d).length<1000:=by show(4:Nat)<1000;decide
noncomputable def ptsW (g:Gm) (st:Sta) (pd:Int×Int) (x:Wt):Int×Int:=match endW g.cs st.2 x with
 | some w=>Wq.pl pd w
 | none=>pd
noncomputable def OpD (g:Gm) (st:Sta) (x:Wt) (ds:List Dat):Prop:=match x with
 | .thr pool _ _ _=>∃ps,pool=ps.map ptD∧GoodL ps∧ds=(valsP ps).map Dat.int
 | _=>ds=(openR g.cs st.2 x).map fun r=>Dat.str r.word
noncomputable def joinW (tr:List Trl):Str:=Txt.join (Str.ofString " ") (tr.map (·.1))
theorem joinOk_of {sep:Str} {ts:List Str} {B:Nat} (hB:∀y∈ts,y.length≤B) (h:ts.length*B+ts.length*sep.length≤16777216):JoinOk sep ts=true:=by
 unfold JoinOk
 rw[Bool.not_eq_true']
 exact StrLaws.joinFits hB h
noncomputable def noAsk (x:Wt):Prop:=∀c k a b,x≠.ask c k a b
noncomputable def spPlu:Sp:=fun vs H Q _=>∃u v a b,vs=[u,v]∧Rep H (wrowD a) u∧Rep H (wrowD b) v∧HfB 500000 a∧HfB 500000 b∧∀r H',Same H H'→H r=none→H' r=some (.tup (Pr (Wq.pl a b).1 (Wq.pl a b).2))→Q (.ref r) H'
noncomputable def spWho:Sp:=fun vs H Q _=>∃n,vs=[.int n]∧Q (.bl true) H
noncomputable def spPts (qP qC:Addr):Sp:=fun vs H Q _=>∃(p tl tb:Addr) (L:List Addr) (g:Gm) (st:Sta) (pd:Int×Int) (tr:List Trl) (x:Wt),vs=[.ref p]∧PlyH qP qC L H p tl tb g st pd tr∧look g.ps st.1=some x∧noAsk x∧HfB 500000 pd∧(∀w,endW g.cs st.2 x=some w→HfB 500000 w)∧∀u H',Same H H'→Rep H' (wrowD (ptsW g st pd x)) u→Q u H'
noncomputable def spOpw (qP qC:Addr):Sp:=fun vs H Q _=>∃(p tl tb:Addr) (L:List Addr) (g:Gm) (st:Sta) (pd:Int×Int) (tr:List Trl) (x:Wt) (ds:List Dat),vs=[.ref p]∧PlyH qP qC L H p tl tb g st pd tr∧look g.ps st.1=some x∧OpD g st x ds∧∀a H',K3 p tl tb H H'→PlyH qP qC L H' p tl tb g st pd tr→H a=none→Rep H' (.lst ds) (.ref a)→Q (.ref a) H'
noncomputable def spGo (qP qC qm:Addr):Sp:=fun vs H Q E=>∃(p:Addr) (step:Str) (sv pv:V) (tl tb:Addr) (L:List Addr) (g:Gm) (st:Sta) (pd:Int×Int) (tr:List Trl) (st':Sta) (py:Int×Int),vs=[.ref p,.str step,sv,pv]∧PlyH qP qC L H p tl tb g st pd tr∧tr.length≤200∧StH (hidA L H) sv st'.1 st'.2∧st'.2.length=g.cs.length∧Rep (hidA L H) (wrowD py) pv∧HfB 500000 pd∧HfB 500000 py∧(tr.length=200→∀H',Same H H'→E (.ref qm) none H')∧(tr.length<200→∀H',K3 p tl tb H H'→PlyH qP qC L H' p tl tb g st' (Wq.pl pd py) (tr++ [(step,st,pd)])→Q .non H')
noncomputable def spSay (qP qC qn qm:Addr):Sp:=fun vs H Q E=>∃(p:Addr) (word:Str) (tl tb:Addr) (L:List Addr) (g:Gm) (st:Sta) (pd:Int×Int) (tr:List Trl) (x:Wt),vs=[.ref p,.str word]∧PlyH qP qC L H p tl tb g st pd tr∧tr.length≤200∧look g.ps st.1=some x∧HfB 500000 pd∧
 ((openR g.cs st.2 x).find? (fun r=>decide (r.word=word))=none→∀H',Same H H'→E (.ref qn) none H')∧
 (∀r,(openR g.cs st.2 x).find? (fun r=>decide (r.word=word))=some r→∃f nm',askd g (r.ds.foldl (doD g.cs 0) st.2) f r.to=some nm'∧
  (tr.length=200→∀H',Same H H'→E (.ref qm) none H')∧(tr.length<200→∀H',K3 p tl tb H H'→PlyH qP qC L H' p tl tb g (nm',r.ds.foldl (doD g.cs 0) st.2) (Wq.pl pd (0,1)) (tr++ [(word,st,pd)])→Q .non H'))
noncomputable def spBck (qP qC qn:Addr):Sp:=fun vs H Q E=>∃(p tl tb:Addr) (L:List Addr) (g:Gm) (st:Sta) (pd:Int×Int) (tr:List Trl),vs=[.ref p]∧PlyH qP qC L H p tl tb g st pd tr∧tr.length≤200∧(tr=[]→E (.ref qn) none H)∧(∀tr0 e,tr=tr0++ [e]→∀H',K3 p tl tb H H'→PlyH qP qC L H' p tl tb g e.2.1 e.2.2 tr0→Q .non H')
noncomputable def spShw (qP qC:Addr):Sp:=fun vs H Q _=>∃(p tl tb:Addr) (L:List Addr) (g:Gm) (st:Sta) (pd:Int×Int) (tr:List Trl),vs=[.ref p]∧PlyH qP qC L H p tl tb g st pd tr∧tr.length≤200∧(∀e∈tr,e.1.length≤20)∧∀H',Same H H'→Q (.str (joinW tr)) H'
theorem sc_plus:FnScope ["one","other"] ["one","other"] (defScope (top 14)):=⟨rfl,rfl,rfl,by decide +kernel,rfl,by decide +kernel,by decide +kernel⟩
theorem ok_plu (T:Txt K mg q_LuckError q_NoShare q_NoTable q_NoEnd q_TooMany q_NoStep q_NoPlay q_Course q_Play):Cal P w K mg base (CX1 P w) 3 "plus" ["one","other"] spPlu:=by
 have c_share:Cal P w K mg base (CX1 P w) 2 "share" ["top","bottom"] (spSh q_NoShare):=ok_sh T
 refine T.d_plus.cal (fun _ _ _ _ _ _=>us_2 fun _ _=>rfl) fun f fd F=>F.okC sc_plus (fun vs H Q E h=>?_) (fun cdv A outer s H vs Q E hr h=>?_)
 ·obtain⟨_,_,_,_,rfl,_⟩:=h;rfl
 ·refine(?_:let G_:Prop:=_;G_)
  intro G_
  obtain⟨u,v,a,b,rfl,ra,rb,ha,hb,k⟩:=h
  dsimp only[G_]
  have nd:=sc_plus.nd
  refine⟨_,(pss_one (ps_ret (pe_cal c_share (hr.mono (by decide)) rfl strictP.pass (pa_cons (pe_op op_add (pe_op op_mulB (pe_ix ix_tupH (pv 0) pe_int (fun _ _=>rfl)) (pe_ix ix_tupH (pv 1) pe_int (fun _ _=>rfl))) (pe_op op_mulB (pe_ix ix_tupH (pv 1) pe_int (fun _ _=>rfl)) (pe_ix ix_tupH (pv 0) pe_int (fun _ _=>rfl)))) (pa_cons (pe_op op_mulB (pe_ix ix_tupH (pv 0) pe_int (fun _ _=>rfl)) (pe_ix ix_tupH (pv 1) pe_int (fun _ _=>rfl))) pa_nil (se rfl)) (se rfl)) (he:=se rfl) (hpl:=na rfl)))),?_⟩
  refine(?_:let G_:Prop:=_;G_)
  intro G_
  obtain⟨p,rfl,hp⟩:=rep_wrow.mp ra
  obtain⟨q,rfl,hq⟩:=rep_wrow.mp rb
  obtain⟨a1,a2,a3⟩:=ha.num (by decide)
  obtain⟨b1,b2,b3⟩:=hb.num (by decide)
  dsimp only[G_]
  simp_all only[spSh,hp,hq]
  have m0:=Int.mul_pos a2 b2
  have m4:a.2*b.2≤4:=Int.le_trans (Int.mul_le_mul a3 b3 (by omega) (by decide)) (by decide)
  exact⟨mulOkL (by omega) (by omega),mulOkL (by omega) (by omega),mulOkL (by omega) (by omega),Bt.of 4 (by omega) (by omega),fun z=>absurd z (by omega),fun _ r H' s' n' e=>k r H' s' n' e⟩
theorem sc_is_whole:FnScope ["thing"] ["thing"] (defScope (top 11)):=⟨rfl,rfl,rfl,by decide +kernel,rfl,by decide +kernel,by decide +kernel⟩
theorem ok_who (T:Txt K mg q_LuckError q_NoShare q_NoTable q_NoEnd q_TooMany q_NoStep q_NoPlay q_Course q_Play):Cal P w K mg base (CX1 P w) 1 "is_whole" ["thing"] spWho:=by
 refine T.d_is_whole.cal (fun _ _ _ _ _ _=>us_1 fun _=>rfl) fun f fd F=>F.okC sc_is_whole (fun vs H Q E h=>?_) (fun cdv A outer s H vs Q E hr h=>?_)
 ·obtain⟨_,rfl,_⟩:=h;rfl
 ·refine(?_:let G_:Prop:=_;G_)
  intro G_
  obtain⟨n,rfl,k⟩:=h
  dsimp only[G_]
  have nd:=sc_is_whole.nd
  refine⟨_,(pss_one (ps_ret (pe_and (pe_callB (call_isTK (K:=K)) (by rfl) T.z_isinstance rfl (pa_cons (pv 0) (pa_cons (pe_bltn (v:=V.ty "int") rfl T.z_int rfl rfl) pa_nil (se rfl)) (se rfl)) (he:=se rfl) (hpl:=na rfl)) (pe_one (pe_not (pe_callB (call_isTK (K:=K)) (by rfl) T.z_isinstance rfl (pa_cons (pv 0) (pa_cons (pe_bltn (v:=V.ty "bool") rfl T.z_bool rfl rfl) pa_nil (se rfl)) (se rfl)) (he:=se rfl) (hpl:=na rfl))))))),?_⟩
  simp_all only[]
  refine⟨_,.int _,_,by rfl,?_⟩
  rw[if_pos rfl]
  exact⟨_,.int _,false,by rfl,k⟩
theorem sc_Play_points:FnScope ["self"] ["self"] (defScope (inClass (top 45) 2)):=⟨rfl,rfl,rfl,by decide +kernel,rfl,by decide +kernel,by decide +kernel⟩
theorem ok_pts (T:Txt K mg q_LuckError q_NoShare q_NoTable q_NoEnd q_TooMany q_NoStep q_NoPlay q_Course q_Play):MtCal P w K mg base (CX1 P w) 4 q_Play "points" ["self"] (spPts q_Play q_Course):=by
 have m_Course_what_at:MtCal P w K mg base (CX1 P w) 1 q_Course "what_at" ["self","state"] (spWat q_Course):=ok_wat T
 have m_Course_end_worth:MtCal P w K mg base (CX1 P w) 2 q_Course "end_worth" ["self","state"] (spEnd q_Course):=ok_end T
 have c_plus:Cal P w K mg base (CX1 P w) 3 "plus" ["one","other"] spPlu:=ok_plu T
 refine T.dm_Play_points.cal (fun _ _ _ _ _ _=>us_1 fun _=>rfl) fun f fd F=>F.okC sc_Play_points (fun vs H Q E h=>?_) (fun cdv A outer s H vs Q E hr h=>?_)
 ·obtain⟨_,_,_,_,_,_,_,_,_,rfl,_⟩:=h;rfl
 ·refine(?_:let G_:Prop:=_;G_)
  intro G_
  obtain⟨p,tl,tb,L,g,st,pd,tr,x,rfl,pl,lk,nak,hpd,hw,kk⟩:=h
  dsimp only[G_]
  have nd:=sc_Play_points.nd
  refine⟨_,(pss_cons (ps_if (pt_cmpR op_in_tupH (pe_ix ix_tupH (pe_mt m_Course_what_at T.cl_Course (pe_fld (pv 0) rfl) (hr.mono (by decide)) strictP.pass (pa_cons (pe_fld (pv 0) rfl) pa_nil (se rfl)) (hst:=se rfl) (hpl:=na rfl)) pe_int (fun _ _=>rfl)) (pe_tupS (pa_cons pe_str (pa_cons pe_str pa_nil (se rfl)) (se rfl))) rfl) (pss_one (ps_ret (pe_fld (pv 0) rfl)))
   pss_nil)
  (pss_one (ps_ret (pe_cal c_plus (hr.mono (by decide)) rfl strictP.pass (pa_cons (pe_fld (pv 0) rfl) (pa_cons (pe_mt m_Course_end_worth T.cl_Course (pe_fld (pv 0) rfl) (hr.mono (by decide)) strictP.pass (pa_cons (pe_fld (pv 0) rfl) pa_nil (se rfl)) (hst:=se rfl) (hpl:=na rfl)) pa_nil (se rfl)) (se rfl)) (he:=se rfl) (hpl:=na rfl))))),?_⟩
  have sl:=sizeLine_eq
  refine(?_:let G_:Prop:=_;G_)
  intro G_
  obtain⟨dp,c,sv,pv,xs,hp,co,sth,rp,htl,al⟩:=pl.ex
  have lp:∀{a b c d e:V},List.lookup (Str.ofString "what_at") [(Str.ofString "spots",a),(Str.ofString "mosts",b),(Str.ofString "first",c),(Str.ofString "whats",d),(Str.ofString "tables",e)]=none:=lk_no (by decide +kernel) (by decide +kernel) (by decide +kernel) (by decide +kernel) (by decide +kernel)
  have lp2:∀{a b c d e:V},List.lookup (Str.ofString "end_worth") [(Str.ofString "spots",a),(Str.ofString "mosts",b),(Str.ofString "first",c),(Str.ofString "whats",d),(Str.ofString "tables",e)]=none:=lk_no (by decide +kernel) (by decide +kernel) (by decide +kernel) (by decide +kernel) (by decide +kernel)
  obtain⟨dc,sp,mo,wh,us,ft',h1,_⟩:=id co
  dsimp only[G_]
  have h1:=hidA_sub _ _ h1
  change tSeq _ _ _ [some (.ref p)] H
  refine seq_c (fun N=>∀w,endW g.cs st.2 x=some w→∀H1,Same H H1→N [some (.ref p)] H1) ?_ (fun N hN=>?_)
  case refine_2=>
   simp_all only[tFld,tMeth,spWat,rInT]
   refine⟨_,_,_,hp,T.cl_Play,T.na_Play_course,_,pf_co,c,rfl,_,_,h1,lp,_,_,_,hp,T.cl_Play,T.na_Play_state,_,pf_st,c,rfl,hidA L H,hidA_sub,g,co.co,st.1,st.2,sth.mono hidA_sub,x,lk,fun u ru=>?_⟩
   refine(?_:let G_:Prop:=_;G_)
   intro G_
   obtain⟨q,vs',rfl,hq⟩:=wt_kd ru
   dsimp only[G_]
   have hq:=hidA_sub _ _ hq
   refine⟨q,rfl,_,hq,_,at0,by decide,fun t1 H1 s1 n1 e1=>?_⟩
   refine⟨_,e1,rfl,rfl,?_⟩
   have go:kdW x=Str.ofString "throw"∨kdW x=Str.ofString "pick"→ptsW g st pd x=pd:=fun h=>by
    rcases h with h | h
    ·obtain⟨_,_,_,_,rfl⟩:=kd_thr h;rfl
    ·obtain⟨_,_,rfl⟩:=kd_pick h;rfl
   have no:¬(kdW x=Str.ofString "throw"∨kdW x=Str.ofString "pick")→∃w,endW g.cs st.2 x=some w:=fun h=>by
    cases x with
    | ask c k a b=>exact absurd rfl (nak c k a b)
    | fin t b=>exact⟨_,rfl⟩
    | score c=>exact⟨_,rfl⟩
    | pick w rs=>exact absurd (.inr rfl) h
    | thr p t b rs=>exact absurd (.inl rfl) h
   by_cases ek:kdW x=Str.ofString "throw"∨kdW x=Str.ofString "pick"
   ·rw[if_pos (by rcases ek with e | e <;>rw[e] <;>decide +kernel)]
    exact⟨_,_,_,s1 _ _ hp,T.cl_Play,T.na_Play_paid,_,pf_pd,kk _ _ s1 (by rw[go ek];exact rp.mono (hidA_sub.trans s1))⟩
   ·obtain⟨w,ew⟩:=no ek
    rw[if_neg (by
     intro z
     refine ek ?_
     cases x with
     | ask c k a b=>exact absurd rfl (nak c k a b)
     | fin t b=>exact absurd (show inV (V.str (Str.ofString "end")) [V.str (Str.ofString "throw"),V.str (Str.ofString "pick")]=true from z) (by decide +kernel)
     | score c=>exact absurd (show inV (V.str (Str.ofString "score")) [V.str (Str.ofString "throw"),V.str (Str.ofString "pick")]=true from z) (by decide +kernel)
     | pick w rs=>exact .inr rfl
     | thr p t b rs=>exact .inl rfl)]
    exact hN w ew _ s1
  rintro w ew H1 s1
  simp_all only[tFld,tMeth,spEnd,spPlu]
  refine⟨_,_,_,s1 _ _ hp,T.cl_Play,T.na_Play_paid,_,pf_pd,_,_,_,s1 _ _ hp,T.cl_Play,T.na_Play_course,_,pf_co,c,rfl,_,_,s1 _ _ h1,lp2,_,_,_,s1 _ _ hp,T.cl_Play,T.na_Play_state,_,pf_st,c,rfl,g,co.co.mono (hidA_sub.trans s1),pl.good,st.1,st.2,sth.mono (hidA_sub.trans s1),pl.len,x,lk,w.1,w.2,ew,fun u H2 s2 ru=>⟨pd,rp.mono (hidA_sub.trans (s1.trans s2)),w,ru,hpd,hw w ew,fun r H3 s3 n3 e3=>kk _ _ (s1.trans (s2.trans s3)) ?_⟩⟩
  unfold ptsW
  rw[ew]
  exact rep_wrow.mpr ⟨r,rfl,e3⟩
theorem sc_Play_open_ways:FnScope ["self"] ["self"] (defScope (inClass (top 45) 3)):=⟨rfl,rfl,rfl,by decide +kernel,rfl,by decide +kernel,by decide +kernel⟩
theorem ok_opw (T:Txt K mg q_LuckError q_NoShare q_NoTable q_NoEnd q_TooMany q_NoStep q_NoPlay q_Course q_Play):MtCal P w K mg base (CX1 P w) 8 q_Play "open_ways" ["self"] (spOpw q_Play q_Course):=by
 have m_Course_what_at:MtCal P w K mg base (CX1 P w) 1 q_Course "what_at" ["self","state"] (spWat q_Course):=ok_wat T
 have m_Course_table_at:MtCal P w K mg base (CX1 P w) 7 q_Course "table_at" ["self","state"] (spTba q_Course):=ok_tba T
 have m_Course_words_at:MtCal P w K mg base (CX1 P w) 3 q_Course "words_at" ["self","state"] (spWds q_Course):=ok_wds T
 refine T.dm_Play_open_ways.cal (fun _ _ _ _ _ _=>us_1 fun _=>rfl) fun f fd F=>F.okC sc_Play_open_ways (fun vs H Q E h=>?_) (fun cdv A outer s H vs Q E hr h=>?_)
 ·obtain⟨_,_,_,_,_,_,_,_,_,_,rfl,_⟩:=h;rfl
 ·refine(?_:let G_:Prop:=_;G_)
  intro G_
  obtain⟨p,tl,tb,L,g,st,pd,tr,x,ds,rfl,pl,lk,od,kk⟩:=h
  dsimp only[G_]
  have nd:=sc_Play_open_ways.nd
  refine⟨_,(pss_cons (ps_if (pt_cmpR op_eq (pe_ix ix_tupH (pe_mt m_Course_what_at T.cl_Course (pe_fld (pv 0) rfl) (hr.mono (by decide)) strictP.pass (pa_cons (pe_fld (pv 0) rfl) pa_nil (se rfl)) (hst:=se rfl) (hpl:=na rfl)) pe_int (fun _ _=>rfl)) pe_str (nomark _)) (pss_one (ps_ret (pe_comp rfl (N:=["self"]) (so:=defScope (inClass (top 45) 3)) (N':=["value","part"]) (k:=2) (fr:=[]) rfl rfl ⟨rfl,by decide +kernel,by decide +kernel,by decide +kernel,rfl,by decide +kernel,by decide +kernel⟩ (pi_listK (K:=K) (pe_mt m_Course_table_at T.cl_Course (pe_fld (pv 0) rfl) (hr.mono (by decide)) strictP.pass (pa_cons (pe_fld (pv 0) rfl) pa_nil (se rfl)) (hst:=se rfl) (hpl:=na rfl))) (fun _ _ _ _ _=>(pg_tupK (K:=K) (n:=2) rfl (pgs_cons (pg_name (i:=0) (show(["value","part"]:List Str).Nodup by decide +kernel) rfl (Or.inl rfl)) (pgs_cons (pg_name (i:=1) (show(["value","part"]:List Str).Nodup by decide +kernel) rfl (Or.inl rfl)) pgs_nil)))) (fun _ _ _ _ _=>pts_nil)
   (fun _ _ _ _ _=>(pv 0)))))
   pss_nil)
  (pss_one (ps_ret (pe_mt m_Course_words_at T.cl_Course (pe_fld (pv 0) rfl) (hr.mono (by decide)) strictP.pass (pa_cons (pe_fld (pv 0) rfl) pa_nil (se rfl)) (hst:=se rfl) (hpl:=na rfl))))),?_⟩
  have sl:=sizeLine_eq
  refine(?_:let G_:Prop:=_;G_)
  intro G_
  obtain⟨dp,c,sv,pv,xs,hp,co,sth,rp,htl,al⟩:=pl.ex
  obtain⟨dc,sp,mo,wh,us,ft',h1,_⟩:=id co
  dsimp only[G_]
  have h1:=hidA_sub _ _ h1
  have lp:∀{a b c d e:V},List.lookup (Str.ofString "what_at") [(Str.ofString "spots",a),(Str.ofString "mosts",b),(Str.ofString "first",c),(Str.ofString "whats",d),(Str.ofString "tables",e)]=none:=lk_no (by decide +kernel) (by decide +kernel) (by decide +kernel) (by decide +kernel) (by decide +kernel)
  have lp2:∀{a b c d e:V},List.lookup (Str.ofString "table_at") [(Str.ofString "spots",a),(Str.ofString "mosts",b),(Str.ofString "first",c),(Str.ofString "whats",d),(Str.ofString "tables",e)]=none:=lk_no (by decide +kernel) (by decide +kernel) (by decide +kernel) (by decide +kernel) (by decide +kernel)
  have lp3:∀{a b c d e:V},List.lookup (Str.ofString "words_at") [(Str.ofString "spots",a),(Str.ofString "mosts",b),(Str.ofString "first",c),(Str.ofString "whats",d),(Str.ofString "tables",e)]=none:=lk_no (by decide +kernel) (by decide +kernel) (by decide +kernel) (by decide +kernel) (by decide +kernel)
  by_cases ek:kdW x=Str.ofString "throw"
  ·refine(?_:let G_:Prop:=_;G_)
   intro G_
   obtain⟨pool,t,b,rs,rfl⟩:=kd_thr ek
   obtain⟨ps,rfl,gl,rfl⟩:=od
   dsimp only[G_]
   change tSeq _ _ _ [some (.ref p)] H
   refine seq_c (fun N=>True) trivial (fun N _=>?_)
   change tIfS _ _ _ _ [some (.ref p)] H
   refine if_yes (fun Y N k=>?_) ?_
   ·simp_all only[tFld,tMeth,spWat]
    refine⟨_,_,_,hp,T.cl_Play,T.na_Play_course,_,pf_co,c,rfl,_,_,h1,lp,_,_,_,hp,T.cl_Play,T.na_Play_state,_,pf_st,c,rfl,hidA L H,hidA_sub,g,co.co,st.1,st.2,sth.mono hidA_sub,_,lk,fun u ru=>?_⟩
    refine(?_:let G_:Prop:=_;G_)
    intro G_
    obtain⟨q,vs',rfl,hq⟩:=wt_kd ru
    dsimp only[G_]
    have hq:=hidA_sub _ _ hq
    refine⟨q,rfl,_,hq,_,at0,rfl,?_⟩
    rw[if_pos (congrArg V.str ek)]
    exact k
   have key:∀v H1,K3 p tl tb H H1→PlyH q_Play q_Course L H1 p tl tb g st pd tr→Rep H1 (rowsD (tabP ps)) v→(∀D,H1 D=none→H D=none)→∃a,v=.ref a∧(∃xs,SqL K H1 a xs)∧tBlock (Itl K a) (gTup K 2 (gCons (gName 0) (gCons (gName 1) gNil))) tYes (tVar 0) [none,none] H1 fun ys H2=>∀D:Addr,H1 D=none→H2 D=none→Q (V.ref D) (upd H2 D (HO.lst ys)):=fun v H1 k1 pl1 rt nn=>by
    refine(?_:let G_:Prop:=_;G_)
    intro G_
    obtain⟨a,ys,rfl,ha,ry⟩:=rep_lst.mp rt
    dsimp only[G_]
    refine⟨a,rfl,⟨_,SqL.of ha⟩,?_⟩
    have len:=ry.length
    rw[List.length_map] at len
    have l13:=(pls_tab ps gl).1.2.2.1
    have S:Src (Itl K a) (Same H1) ys.length _:=src_list (fun H' s'=>SqL.of (s' _ _ ha))
    rw[←len] at S
    refine comp_ints2 (K:=K) (tabP ps) (fun r=>some r.1) S (fun _ _ _ _ h=>h.1) (by omega) ?_ ?_
    ·rintro i r y er ⟨_,ey⟩
     refine(?_:let G_:Prop:=_;G_)
     intro G_
     obtain⟨d,ed,rd⟩:=ry.get ey
     dsimp only[G_]
     rw[List.getElem?_map,er] at ed
     cases ed
     refine(?_:let G_:Prop:=_;G_)
     intro G_
     obtain⟨p1,q1,rfl,e1,e2⟩:=rep_row.mp rd
     dsimp only[G_]
     exact⟨p1,_,_,rfl,SqT.of e1,fun Y N y1 y2=>by simp_all only[];exact y1 _ rfl⟩
    ·intro D n1 n2
     have sD:=same_upd (o:=.lst (List.map V.int ((tabP ps).filterMap fun r=>some r.1))) n1
     refine kk D _ (k1.trans (.of sD)) (pl1.same sD) (nn _ n1) (rep_lst.mpr ⟨D,_,rfl,upd_same,?_⟩)
     rw[List.filterMap_eq_map',show List.map ((fun r:Int×Int×Int=>r.1)) (tabP ps)=valsP ps from(pls_tab ps gl).2]
     exact ints_rep _
   refine(?_:let G_:Prop:=_;G_)
   intro G_
   obtain⟨kvs,htb,knd,ksub,kval⟩:=id pl.tbs
   dsimp only[G_]
   have klen:kvs.length≤100:=by
    have:=nodup_le knd ksub
    rw[List.length_map,List.length_map] at this
    exact Nat.le_trans this pl.good.lp
   have ptb:p≠tb:=fun z=>by rw[z,htb] at hp;cases hp
   have ttb:tl≠tb:=fun z=>by rw[z,htb] at htl;cases htl
   simp_all only[tFld,tMeth,spTba]
   refine⟨_,_,_,hp,T.cl_Play,T.na_Play_course,_,pf_co,c,rfl,_,_,h1,lp2,_,_,_,hp,T.cl_Play,T.na_Play_state,_,pf_st,c,rfl,g,st.1,st.2,tb,co.mono (hidA_hid pl.mem.2.2),sth.mono hidA_sub,kvs,htb,by omega,ps,t,b,rs,lk,gl,?_,fun v hv=>?_,fun hv p2 H1 s1 n2 r2=>?_⟩
   ·exact pls_len gl
   ·refine(?_:let G_:Prop:=_;G_)
    intro G_
    obtain⟨ps',t',b',rs',lk',rv⟩:=kval _ _ hv
    dsimp only[G_]
    rw[lk] at lk'
    injection lk' with lk'
    injection lk' with e1
    have e1:=pts_inj e1
    subst e1
    exact key v H (.of (Same.refl _)) pl (rv.mono hidA_sub) fun _ h=>h
   ·have k2:K3 p tl tb H (upd H1 tb (.dK (kvs++ [(Sum.inr st.1,.ref p2)]))):=fun a o _ _ h3 h=>by rw[upd_ne h3];exact s1 _ _ h
    have s2:=k2.hid pl.mem.1 pl.mem.2.1 pl.mem.2.2
    have p2n:p2∉L:=pl.out n2
    have tup:∀a vs,H1 a=some (.tup vs)→upd H1 tb (.dK (kvs++ [(Sum.inr st.1,.ref p2)])) a=some (.tup vs)∧a∉L:=fun a vs h=>by
     refine⟨by rw[upd_ne (fun z=>by rw[z,s1 _ _ htb] at h;cases h)];exact h,fun m=>?_⟩
     refine(?_:let G_:Prop:=_;G_)
     intro G_
     obtain⟨o,ho,no⟩:=pl.al a m
     dsimp only[G_]
     rw[s1 _ _ ho] at h
     cases h
     exact no _ rfl
    have p2t:p2≠tb:=fun z=>by rw[z,htb] at n2;cases n2
    have r3:Rep (hidA L (upd H1 tb (.dK (kvs++ [(Sum.inr st.1,.ref p2)])))) (rowsD (tabP ps)) (.ref p2):=rows_in r2 (fun o h=>by rw[hidA_no p2n,upd_ne p2t];exact h) fun a vs h=>by
     obtain⟨x1,x2⟩:=tup a vs h
     rw[hidA_no x2]
     exact x1
    have pl2:PlyH q_Play q_Course L (upd H1 tb (.dK (kvs++ [(Sum.inr st.1,.ref p2)]))) p tl tb g st pd tr:=by
     refine pl.next k2 (by rw[upd_ne ptb];exact s1 _ _ hp) co (sth.mono s2) (rp.mono s2) (by rw[upd_ne ttb];exact s1 _ _ htl) (TrE.up s2 al) ⟨_,upd_same,?_,fun k hk=>?_,fun nm v e=>?_⟩ pl.len pl.lenT
     ·rw[List.map_append,List.map_cons,List.map_nil]
      refine List.nodup_append.mpr ⟨knd,by simp,fun a ha b hb=>?_⟩
      rw[List.mem_singleton] at hb
      intro z
      rw[z,hb] at ha
      refine(?_:let G_:Prop:=_;G_)
      intro G_
      obtain⟨x,hx,ex⟩:=List.mem_map.mp ha
      dsimp only[G_]
      unfold valV at hv
      have hv:kvs.find? (fun kv=>decide (kv.1=Sum.inr st.1))=none:=by simpa using hv
      exact absurd (List.find?_eq_none.mp hv x hx) (by simp [ex])
     ·rw[List.map_append,List.mem_append] at hk
      rcases hk with hk | hk
      ·exact ksub k hk
      ·rw[List.map_cons,List.map_nil,List.mem_singleton] at hk
       rw[hk]
       exact List.mem_map.mpr ⟨_,look_mem lk,rfl⟩
     ·rw[val_snoc hv] at e
      by_cases z:(Sum.inr st.1:Key)=Sum.inr nm
      ·rw[if_pos z] at e
       cases e
       injection z with z
       exact⟨ps,t,b,rs,by rw[←z];exact lk,r3⟩
      ·rw[if_neg z] at e
       refine(?_:let G_:Prop:=_;G_)
       intro G_
       obtain⟨ps',t',b',rs',lk',rv⟩:=kval _ _ e
       dsimp only[G_]
       exact⟨ps',t',b',rs',lk',rv.mono s2⟩
    obtain⟨a,ea,k⟩:=key (.ref p2) _ k2 pl2 (r3.mono hidA_sub) fun D h=>by
     by_cases z:D=tb
     ·rw[z,upd_same] at h;cases h
     ·rw[upd_ne z] at h;exact none_of s1 h
    cases ea
    exact k
  ·change tSeq _ _ _ [some (.ref p)] H
   refine seq_c (fun N=>N [some (.ref p)] H) ?_ (fun N hN=>?_)
   case refine_2=>
    change tIfS _ _ _ _ [some (.ref p)] H
    refine if_no (fun Y N k=>?_) hN
    simp_all only[tFld,tMeth,spWat]
    refine⟨_,_,_,hp,T.cl_Play,T.na_Play_course,_,pf_co,c,rfl,_,_,h1,lp,_,_,_,hp,T.cl_Play,T.na_Play_state,_,pf_st,c,rfl,hidA L H,hidA_sub,g,co.co,st.1,st.2,sth.mono hidA_sub,_,lk,fun u ru=>?_⟩
    refine(?_:let G_:Prop:=_;G_)
    intro G_
    obtain⟨q,vs',rfl,hq⟩:=wt_kd ru
    dsimp only[G_]
    have hq:=hidA_sub _ _ hq
    refine⟨q,rfl,_,hq,_,at0,rfl,?_⟩
    rw[if_neg (fun z=>ek (by injection z))]
    exact k
   simp_all only[tFld,tMeth,spWds]
   refine⟨_,_,_,hp,T.cl_Play,T.na_Play_course,_,pf_co,c,rfl,_,_,h1,lp3,_,_,_,hp,T.cl_Play,T.na_Play_state,_,pf_st,c,rfl,g,co.co.mono hidA_sub,pl.good,st.1,st.2,sth.mono hidA_sub,pl.len,x,lk,fun a H' s' na ra=>kk a H' (.of s') (pl.same s') na ?_⟩
   have e:ds=(openR g.cs st.2 x).map fun r=>Dat.str r.word:=by
    cases x with
    | thr pool t b rs=>exact absurd rfl ek
    | ask c k a b=>exact od
    | fin t b=>exact od
    | score c=>exact od
    | pick w rs=>exact od
   rw[e]
   exact ra
theorem sc_Play_go:FnScope ["self","step","state","pay"] ["self","step","state","pay"] (defScope (inClass (top 45) 4)):=⟨rfl,rfl,rfl,by decide +kernel,rfl,by decide +kernel,by decide +kernel⟩
theorem ok_go (T:Txt K mg q_LuckError q_NoShare q_NoTable q_NoEnd q_TooMany q_NoStep q_NoPlay q_Course q_Play):MtCal P w K mg base (CX1 P w) 4 q_Play "go" ["self","step","state","pay"] (spGo q_Play q_Course q_TooMany):=by
 have c_plus:Cal P w K mg base (CX1 P w) 3 "plus" ["one","other"] spPlu:=ok_plu T
 refine T.dm_Play_go.cal (fun _ _ _ _ _ _=>us_4 fun _ _ _ _=>rfl) fun f fd F=>F.okX sc_Play_go (fun vs H Q E h=>?_) (fun cdv A outer s H vs Q E hr h=>?_)
 ·obtain⟨_,_,_,_,_,_,_,_,_,_,_,_,_,rfl,_⟩:=h;rfl
 ·refine(?_:let G_:Prop:=_;G_)
  intro G_
  obtain⟨p,step,sv',pv',tl,tb,L,g,st,pd,tr,st',py,rfl,pl,l200,sth',ln',rpy,hpd,hpy,kE,kQ⟩:=h
  dsimp only[G_]
  clear G_
  have nd:=sc_Play_go.nd
  have hd0:A.handled=none:=hr.hd
  refine⟨_,(pss_cons (ps_if (pt_cmpR op_eq (pe_callB call_lenL (by rfl) T.z_len PySem.boot_len (pa_cons (pe_fld (pv 0) rfl) pa_nil (se rfl)) (he:=se rfl) (hpl:=na rfl)) (pe_globI rfl T.c_MOST_STEPS) (nomark _)) (pss_one (ps_raise rfl T.k_TooMany T.x_TooMany hd0 (pa_cons pe_str pa_nil (se rfl)) (he:=se rfl) (hpl:=na rfl)))
   pss_nil)
  (pss_cons (ps_expr (pe_bm PySem.F.plainAttrs_list PySem.F.slot_list_append PySem.F.type_list_append mt_append.r (pe_fld (pv 0) rfl) (pa_cons (pe_tupS (pa_cons (pv 1) (pa_cons (pe_fld (pv 0) rfl) (pa_cons (pe_fld (pv 0) rfl) pa_nil (se rfl)) (se rfl)) (se rfl))) pa_nil (se rfl))))
  (pss_cons (ps_fld (pv 0) (pv 2) rfl)
  (pss_one (ps_fld (pv 0) (pe_cal c_plus (hr.mono (by decide)) rfl strictP.pass (pa_cons (pe_fld (pv 0) rfl) (pa_cons (pv 3) pa_nil (se rfl)) (se rfl)) (he:=se rfl) (hpl:=na rfl)) rfl))))),?_⟩
  refine(?_:let q0_:TS:=_;let q1_:TS:=_;let q2_:TS:=_;let q3_:TS:=_;tSeq q0_ (tSeq q1_ (tSeq q2_ q3_)) _ _ _)
  intro q0_ q1_ q2_ q3_
  have sl:=sizeLine_eq
  refine(?_:let G_:Prop:=_;G_)
  intro G_
  obtain⟨dp,c,sv,pv,xs,hp,co,sth,rp,htl,al⟩:=pl.ex
  dsimp only[G_]
  clear G_
  have xl:=al.length
  change tSeq _ _ _ [some (.ref p),some (.str step),some sv',some pv'] H
  refine seq_c (fun N=>tr.length<200→N [some (.ref p),some (.str step),some sv',some pv'] H) ?_ (fun N hN=>?_)
  case refine_2=>
   simp_all only[tFld,tRaise]
   refine⟨_,_,_,hp,T.cl_Play,T.na_Play_trail,_,pf_tr,tl,rfl,_,htl,ite2 (fun e=>⟨by decide,kE (by omega) _ (Same.refl _)⟩) (fun e=>hN (by omega))⟩
  intro l2
  have ptl:p≠tl:=fun z=>by rw[z,htl] at hp;cases hp
  refine(?_:let G_:Prop:=_;G_)
  intro G_
  obtain⟨kvs,htb,_⟩:=id pl.tbs
  dsimp only[G_]
  clear G_
  have ptb:p≠tb:=fun z=>by rw[z,htb] at hp;cases hp
  have ttb:tl≠tb:=fun z=>by rw[z,htb] at htl;cases htl
  change tSeq _ _ _ [some (.ref p),some (.str step),some sv',some pv'] H
  refine seq_c (fun N=>∀t H1,Same H H1→H t=none→H1 t=some (.tup [.str step,sv,pv])→N [some (.ref p),some (.str step),some sv',some pv'] (upd H1 tl (.lst (xs++ [.ref t])))) ?_ (fun N hN=>?_)
  case refine_2=>
   simp_all only[tFld,rAppend]
   refine⟨_,_,_,hp,T.cl_Play,T.na_Play_trail,_,pf_tr,.inl ⟨rfl,_,SqL.of htl⟩,_,_,_,hp,T.cl_Play,T.na_Play_state,_,pf_st,_,_,_,hp,T.cl_Play,T.na_Play_paid,_,pf_pd,by omega,fun t H1 s1 n1 e1=>?_⟩
   exact⟨tl,rfl,_,s1 _ _ htl,by omega,hN t H1 s1 n1 e1⟩
  rintro t H1 s1 nt ht
  have pH1:=s1 _ _ hp
  change tSeq _ _ _ [some (.ref p),some (.str step),some sv',some pv'] (upd H1 tl (.lst (xs++ [.ref t])))
  refine seq_c (fun N=>N [some (.ref p),some (.str step),some sv',some pv'] (upd (upd H1 tl (.lst (xs++ [.ref t]))) p (.ins q_Play dp (plF (.ref c) sv' pv (.ref tl))))) ?_ (fun N hN=>?_)
  case refine_2=>
   simp_all only[sFld]
   rw[←pu_st (b:=sv)] at hN
   exact⟨_,_,_,by rw[upd_ne ptl];exact pH1,T.cl_Play,T.na_Play_state,pf_len,hN⟩
  generalize hH2:upd (upd H1 tl (.lst (xs++ [.ref t]))) p (.ins q_Play dp (plF (.ref c) sv' pv (.ref tl)))=H2
  have k2:K3 p tl tb H H2:=fun a o h1 h2 h3 h=>by rw[←hH2,upd_ne h1,upd_ne h2];exact s1 _ _ h
  have p2:H2 p=some (.ins q_Play dp (plF (.ref c) sv' pv (.ref tl))):=by rw[←hH2,upd_same]
  have t2:H2 tl=some (.lst (xs++ [.ref t])):=by rw[←hH2,upd_ne (Ne.symm ptl),upd_same]
  have b2:H2 tb=some (.dK kvs):=by rw[←hH2,upd_ne (Ne.symm ptb),upd_ne (Ne.symm ttb)];exact s1 _ _ htb
  have n2:H2 t=some (.tup [.str step,sv,pv]):=by
   rw[←hH2,upd_ne (fun z=>by rw[z,hp] at nt;cases nt),upd_ne (fun z=>by rw[z,htl] at nt;cases nt)]
   exact ht
  clear hH2
  have sm:=k2.hid pl.mem.1 pl.mem.2.1 pl.mem.2.2
  simp_all only[tFld,sFld,spPlu]
  refine⟨_,_,_,p2,T.cl_Play,T.na_Play_paid,_,pf_pd,pd,rp.mono (sm.trans hidA_sub),py,rpy.mono (sm.trans hidA_sub),hpd,hpy,fun r H3 s3 nr er=>⟨_,_,_,s3 _ _ p2,T.cl_Play,T.na_Play_paid,pf_len,?_⟩⟩
  rw[pu_pd]
  have rp':r≠p:=fun z=>by rw[z,p2] at nr;cases nr
  have k4:K3 p tl tb H (upd H3 p (.ins q_Play dp (plF (.ref c) sv' (.ref r) (.ref tl)))):=fun a o h1 h2 h3 h=>by rw[upd_ne h1];exact s3 _ _ (k2 a o h1 h2 h3 h)
  have s4:=k4.hid pl.mem.1 pl.mem.2.1 pl.mem.2.2
  have nrH:H r=none:=by
   cases h:H r with
   | none=>rfl
   | some o=>rw[k2 _ _ rp' (fun z=>by rw[z,t2] at nr;cases nr) (fun z=>by rw[z,b2] at nr;cases nr) h] at nr;cases nr
  have fr:∀{a o},H a=none→H3 a=some o→hidA L (upd H3 p (.ins q_Play dp (plF (.ref c) sv' (.ref r) (.ref tl)))) a=some o:=fun {a o} n h=>by
   rw[hidA_no (pl.out n),upd_ne (fun z=>by rw[z,hp] at n;cases n)]
   exact h
  refine kQ l2 _ k4 (pl.next k4 upd_same co (sth'.mono s4) (rep_wrow.mpr ⟨r,rfl,fr nrH er⟩) (by rw[upd_ne (Ne.symm ptl)];exact s3 _ _ t2) ?_ (pl.tbs.mono s4 fun o h=>?_) ln' ?_)
  ·exact(TrE.up s4 al).append (Al.one ⟨t,sv,pv,rfl,fr nt (s3 _ _ n2),sth.mono s4,rp.mono s4⟩)
  ·rw[htb] at h
   rw[upd_ne (Ne.symm ptb),s3 _ _ b2]
   exact h
  ·intro e he
   rcases List.mem_append.mp he with he | he
   ·exact pl.lenT e he
   ·rw[List.mem_singleton.mp he];exact pl.len
theorem sc_Play_say:FnScope ["self","word","rows"] ["self","word"] (defScope (inClass (top 45) 5)):=⟨rfl,rfl,rfl,by decide +kernel,rfl,by decide +kernel,by decide +kernel⟩
theorem ok_say (T:Txt K mg q_LuckError q_NoShare q_NoTable q_NoEnd q_TooMany q_NoStep q_NoPlay q_Course q_Play):MtCal P w K mg base (CX1 P w) 5 q_Play "say" ["self","word"] (spSay q_Play q_Course q_NoStep q_TooMany):=by
 have m_Course_open_rows:MtCal P w K mg base (CX1 P w) 2 q_Course "open_rows" ["self","state"] (spOpn q_Course):=ok_opn T
 have m_Course_by_row:MtCal P w K mg base (CX1 P w) 3 q_Course "by_row" ["self","state","row","value"] (spByR q_Course):=ok_byr T
 have m_Play_go:MtCal P w K mg base (CX1 P w) 4 q_Play "go" ["self","step","state","pay"] (spGo q_Play q_Course q_TooMany):=ok_go T
 refine T.dm_Play_say.cal (fun _ _ _ _ _ _=>us_2 fun _ _=>rfl) fun f fd F=>F.okX sc_Play_say (fun vs H Q E h=>?_) (fun cdv A outer s H vs Q E hr h=>?_)
 ·obtain⟨_,_,_,_,_,_,_,_,_,_,rfl,_⟩:=h;rfl
 ·refine(?_:let G_:Prop:=_;G_)
  intro G_
  obtain⟨p,word,tl,tb,L,g,st,pd,tr,x,rfl,pl,l200,lk,hpd,kE,kQ⟩:=h
  dsimp only[G_]
  have nd:=sc_Play_say.nd
  have hd0:A.handled=none:=hr.hd
  refine⟨_,(pss_cons (ps_setC (i:=2) rfl nd rfl rfl (N:=["self","word","rows"]) (so:=defScope (inClass (top 45) 5)) (N':=["row","word"]) (k:=1) (fr:=[1]) rfl rfl ⟨rfl,by decide +kernel,by decide +kernel,by decide +kernel,rfl,by decide +kernel,by decide +kernel⟩ (pi_listK (K:=K) (pe_mt m_Course_open_rows T.cl_Course (pe_fld (pv 0) rfl) (hr.mono (by decide)) strictP.pass (pa_cons (pe_fld (pv 0) rfl) pa_nil (se rfl)) (hst:=se rfl) (hpl:=na rfl))) (fun _ _ _ _ _=>(pg_name (i:=0) (show(["row","word"]:List Str).Nodup by decide +kernel) rfl (Or.inl rfl))) (fun _ _ _ _ _=>(pts_one (pt_cmpR op_eq (pe_ix ix_tupH (pv 0) pe_int (fun _ _=>rfl)) (pv 1) (nomark _))))
   (fun _ _ _ _ _=>(pv 0)))
  (pss_cons (ps_if (pt_cmpR op_eq (pe_callB call_lenL (by rfl) T.z_len PySem.boot_len (pa_cons (pv 2) pa_nil (se rfl)) (he:=se rfl) (hpl:=na rfl)) pe_int (nomark _)) (pss_one (ps_raise rfl T.k_NoStep T.x_NoStep hd0 (pa_cons pe_str pa_nil (se rfl)) (he:=se rfl) (hpl:=na rfl)))
   pss_nil)
  (pss_one (ps_expr (pe_mt m_Play_go T.cl_Play (pv 0) (hr.mono (by decide)) xe_pass (pa_cons (pv 1) (pa_cons (pe_mt m_Course_by_row T.cl_Course (pe_fld (pv 0) rfl) (hr.mono (by decide)) strictP.pass (pa_cons (pe_fld (pv 0) rfl) (pa_cons (pe_ix ix_listH (pv 2) pe_int (fun _ _=>rfl)) (pa_cons pe_int pa_nil (se rfl)) (se rfl)) (se rfl)) (hst:=se rfl) (hpl:=na rfl)) (pa_cons (pe_tupS (pa_cons pe_int (pa_cons pe_int pa_nil (se rfl)) (se rfl))) pa_nil (se rfl)) (se rfl)) (se rfl)) (hst:=se rfl) (hpl:=na rfl)))))),?_⟩
  refine(?_:let q0_:TS:=_;let q1_:TS:=_;let q2_:TS:=_;tSeq q0_ (tSeq q1_ q2_) _ _ _)
  intro q0_ q1_ q2_
  have sl:=sizeLine_eq
  refine(?_:let G_:Prop:=_;G_)
  intro G_
  obtain⟨dp,c,sv,pv,xs,hp,co,sth,rp,htl,al⟩:=pl.ex
  obtain⟨dc,sp,mo,wh,us,ft',h1,_⟩:=id co
  dsimp only[G_]
  have h1:=hidA_sub _ _ h1
  have lp:∀{a b c d e:V},List.lookup (Str.ofString "open_rows") [(Str.ofString "spots",a),(Str.ofString "mosts",b),(Str.ofString "first",c),(Str.ofString "whats",d),(Str.ofString "tables",e)]=none:=lk_no (by decide +kernel) (by decide +kernel) (by decide +kernel) (by decide +kernel) (by decide +kernel)
  have lp2:∀{a b c d e:V},List.lookup (Str.ofString "by_row") [(Str.ofString "spots",a),(Str.ofString "mosts",b),(Str.ofString "first",c),(Str.ofString "whats",d),(Str.ofString "tables",e)]=none:=lk_no (by decide +kernel) (by decide +kernel) (by decide +kernel) (by decide +kernel) (by decide +kernel)
  have gx:=pl.good.wt _ (look_mem lk)
  have few:(openR g.cs st.2 x).length≤100:=by
   cases x with
   | pick w rs=>exact Nat.le_trans (List.length_filter_le _ _) gx.1
   | thr pool t b rs=>exact Nat.zero_le _
   | ask c k a b=>exact Nat.zero_le _
   | fin t b=>exact Nat.zero_le _
   | score c=>exact Nat.zero_le _
  change tSeq _ _ _ [some (.ref p),some (.str word),none] H
  refine seq_c (fun N=>∀H1,Same H H1→∀a ys,H1 a=some (.lst ys)→RepL (hidA L H) ((((openR g.cs st.2 x).filter fun r=>decide (r.word=word)).map rw4).map r4D) ys→N [some (.ref p),some (.str word),some (.ref a)] H1) ?_ (fun N hN=>?_)
  case refine_2=>
   simp_all only[tFld,tMeth,spOpn]
   refine⟨_,_,_,hp,T.cl_Play,T.na_Play_course,_,pf_co,c,rfl,_,_,h1,lp,_,_,_,hp,T.cl_Play,T.na_Play_state,_,pf_st,c,rfl,hidA L H,hidA_sub,g,co.co,pl.good,st.1,st.2,sth.mono hidA_sub,pl.len,x,lk,fun a ys H1 s1 na ha ra=>?_⟩
   have len:=ra.length
   rw[List.length_map,List.length_map] at len
   have zl:(ys.zip (openR g.cs st.2 x)).length=ys.length:=by rw[List.length_zip];omega
   refine⟨⟨_,SqL.of ha⟩,?_⟩
   have S:Src (Itl K a) (Same H1) ys.length _:=src_list (fun H' s'=>SqL.of (s' _ _ ha))
   rw[←zl] at S
   refine comp_vals (ys.zip (openR g.cs st.2 x)) (fun y=>if decide (y.2.word=word)=true then some y.1 else none) S (fun _ _ _ _ h=>h.1) (by omega) ?_ ?_
   ·rintro i ⟨y,r⟩ z eyr ⟨_,ez⟩ Y N3 y1 y2
    obtain⟨e1,e2⟩:=List.getElem?_zip_eq_some.mp eyr
    rw[e1] at ez
    cases ez
    refine(?_:let G_:Prop:=_;G_)
    intro G_
    obtain⟨r',q,_,b1,b2,b3,er,rfl,hq,_,_⟩:=rw4_get ra e1
    dsimp only[G_]
    rw[e2] at er
    cases er
    have hq:=s1 _ _ (hidA_sub _ _ hq)
    simp_all only[hq]
    by_cases e:r.word=word
    ·rw[if_pos e];exact y1 _ (if_pos (decide_eq_true e))
    ·rw[if_neg e];exact y2 (if_neg (by simpa using e))
   ·intro D n1 n2
    exact hN _ (s1.trans (same_upd n2)) D _ upd_same (rep_filter ra)
  rintro H1 s1 a ys ha ry
  have ylen:=ry.length
  rw[List.length_map,List.length_map] at ylen
  have hd:((openR g.cs st.2 x).filter fun r=>decide (r.word=word)).head?=(openR g.cs st.2 x).find? fun r=>decide (r.word=word):=by rw[List.head?_filter]
  change tSeq _ _ _ [some (.ref p),some (.str word),some (.ref a)] H1
  cases er:(openR g.cs st.2 x).filter fun r=>decide (r.word=word) with
  | nil=>
   rw[er] at hd ylen
   refine seq_c (fun _=>True) trivial (fun N _=>?_)
   simp_all only[ha,tRaise]
   rw[if_pos (by rw[List.length_nil] at ylen;omega)]
   exact⟨by decide,kE hd.symm _ s1⟩
  | cons r rest=>
   rw[er] at hd ylen ry
   refine(?_:let G_:Prop:=_;G_)
   intro G_
   obtain⟨y,ys,rfl,r1,_⟩:=repL_cons.mp ry
   dsimp only[G_]
   refine seq_c (fun N=>N [some (.ref p),some (.str word),some (.ref a)] H1) ?_ (fun N hN=>?_)
   case refine_2=>
    simp_all only[ha,tRaise]
    rw[if_neg (by omega)]
    exact hN
   refine(?_:let G_:Prop:=_;G_)
   intro G_
   obtain⟨f',nm',ak,kM,kk⟩:=kQ r hd.symm
   dsimp only[G_]
   have rmem:r∈openR g.cs st.2 x:=(List.mem_filter.mp (by rw[er];exact List.mem_cons_self)).1
   have gr:r.ds.length≤100∧∀d∈r.ds,GoodD g.cs d:=by
    cases x with
    | pick w rs=>exact gx.2 r (List.mem_filter.mp rmem).1
    | thr pool t b rs=>cases rmem
    | ask c k a b=>cases rmem
    | fin t b=>cases rmem
    | score c=>cases rmem
   have pl1:=pl.same s1
   have lgo:∀{a b c d:V},List.lookup (Str.ofString "go") (plF a b c d)=none:=by intro a b c d;unfold plF;rw[lk_ne (by decide +kernel),lk_ne (by decide +kernel),lk_ne (by decide +kernel),lk_ne (by decide +kernel)];rfl
   simp_all only[tFld,tMeth,spByR,spGo]
   refine⟨_,_,s1 _ _ hp,lgo,_,_,_,s1 _ _ hp,T.cl_Play,T.na_Play_course,_,pf_co,c,rfl,_,_,s1 _ _ h1,lp2,_,_,_,s1 _ _ hp,T.cl_Play,T.na_Play_state,_,pf_st,_,ha,_,at0,c,rfl,g,co.co.mono (hidA_sub.trans s1),pl.good,st.1,st.2,sth.mono (hidA_sub.trans s1),_,_,r.ds,r.to,r1.mono (hidA_sub.trans s1),gr.2,gr.1,pl.len,f',nm',ak,fun p' l' H2 s2 n1 n2 e1 e2=>⟨by omega,fun t H3 s3 nt et=>?_⟩⟩
   have s03:=s1.trans (s2.trans s3)
   have fr:∀{a o},H a=none→H3 a=some o→hidA L H3 a=some o:=fun {a o} n h=>by rw[hidA_no (pl.out n)];exact h
   have pl3:=pl.same s03
   exact⟨tl,tb,L,g,st,pd,tr,pl3,l200,(nm',r.ds.foldl (doD g.cs 0) st.2),⟨p',l',rfl,fr (none_of s1 n1) (s3 _ _ e1),fr (none_of s1 n2) (s3 _ _ e2)⟩,(foldD_len _ _).trans pl.len,(0,1),rep_wrow.mpr ⟨t,rfl,fr (none_of (s1.trans s2) nt) et⟩,hpd,hfb_one 0 (by decide) (by decide),fun z H' s'=>kM z H' (s03.trans s'),fun z H' k' pl'=>kk z H' ((K3.of s03).trans k') pl'⟩
theorem sc_Play_throw:FnScope ["self","value","what"] ["self","value"] (defScope (inClass (top 45) 6)):=⟨rfl,rfl,rfl,by decide +kernel,rfl,by decide +kernel,by decide +kernel⟩
noncomputable def spThX (qP qC qn qm:Addr):Sp:=fun vs H Q E=>∃(p:Addr) (v:Int) (tl tb:Addr) (L:List Addr) (g:Gm) (st:Sta) (pd:Int×Int) (tr:List Trl) (x:Wt),vs=[.ref p,.int v]∧PlyH qP qC L H p tl tb g st pd tr∧tr.length≤200∧look g.ps st.1=some x∧(∀pool t b rs,x=.thr pool t b rs→∃ps,pool=ps.map ptD∧GoodL ps)∧HfB 500000 pd∧
 ((∀ps t b rs,x=.thr (List.map ptD ps) t b rs→v∉valsP ps)→∀H',K3 p tl tb H H'→PlyH qP qC L H' p tl tb g st pd tr→E (.ref qn) none H')∧
 (∀ps t b rs,x=.thr (List.map ptD ps) t b rs→v∈valsP ps→0≤v∧v≤1000∧HfB 500000 (t,b)∧∃r f nm',rowOf rs v=some r∧askd g (r.2.2.1.foldl (doD g.cs v) st.2) f r.2.2.2=some nm'∧
  (tr.length=200→∀H',K3 p tl tb H H'→PlyH qP qC L H' p tl tb g st pd tr→E (.ref qm) none H')∧(tr.length<200→∀H',K3 p tl tb H H'→PlyH qP qC L H' p tl tb g (nm',r.2.2.1.foldl (doD g.cs v) st.2) (Wq.pl pd (t,b)) (tr++ [(Str.ofString (toString v),st,pd)])→Q .non H'))
theorem ok_thv (T:Txt K mg q_LuckError q_NoShare q_NoTable q_NoEnd q_TooMany q_NoStep q_NoPlay q_Course q_Play):MtCal P w K mg base (CX1 P w) 9 q_Play "throw" ["self","value"] (spThX q_Play q_Course q_NoStep q_TooMany):=by
 have m_Course_what_at:MtCal P w K mg base (CX1 P w) 1 q_Course "what_at" ["self","state"] (spWat q_Course):=ok_wat T
 have c_is_whole:Cal P w K mg base (CX1 P w) 1 "is_whole" ["thing"] spWho:=ok_who T
 have m_Play_open_ways:MtCal P w K mg base (CX1 P w) 8 q_Play "open_ways" ["self"] (spOpw q_Play q_Course):=ok_opw T
 have m_Course_by_value:MtCal P w K mg base (CX1 P w) 4 q_Course "by_value" ["self","state","value"] (spBv q_Course):=ok_bv T
 have m_Play_go:MtCal P w K mg base (CX1 P w) 4 q_Play "go" ["self","step","state","pay"] (spGo q_Play q_Course q_TooMany):=ok_go T
 refine T.dm_Play_throw.cal (fun _ _ _ _ _ _=>us_2 fun _ _=>rfl) fun f fd F=>F.okX sc_Play_throw (fun vs H Q E h=>?_) (fun cdv A outer s H vs Q E hr h=>?_)
 ·obtain⟨_,_,_,_,_,_,_,_,_,_,rfl,_⟩:=h;rfl
 ·refine(?_:let G_:Prop:=_;G_)
  intro G_
  obtain⟨p,v,tl,tb,L,g,st,pd,tr,x,rfl,pl,l200,lk,xg,hpd,kE,kQ⟩:=h
  dsimp only[G_]
  have nd:=sc_Play_throw.nd
  have hd0:A.handled=none:=hr.hd
  refine⟨_,(pss_cons (ps_set (i:=2) nd rfl (Or.inl rfl) (pe_mt m_Course_what_at T.cl_Course (pe_fld (pv 0) rfl) (hr.mono (by decide)) strictP.pass (pa_cons (pe_fld (pv 0) rfl) pa_nil (se rfl)) (hst:=se rfl) (hpl:=na rfl)))
  (pss_cons (ps_if (PW.pt (pw_or (pt_cmpR op_ne (pe_ix ix_tupH (pv 2) pe_int (fun _ _=>rfl)) pe_str (nomark _)) (pw_or (pt_not (pt_val (pe_cal c_is_whole (hr.mono (by decide)) rfl strictP.pass (pa_cons (pv 1) pa_nil (se rfl)) (he:=se rfl) (hpl:=na rfl)))) (pw_or1 (pt_cmpR (op_notIn_seqK (K:=K)) (pv 1) (pe_mt0 m_Play_open_ways T.cl_Play (pv 0) (hr.mono (by decide)) strictP.pass) rfl))))) (pss_one (ps_raise rfl T.k_NoStep T.x_NoStep hd0 (pa_cons pe_str pa_nil (se rfl)) (he:=se rfl) (hpl:=na rfl)))
   pss_nil)
  (pss_one (ps_expr (pe_mt m_Play_go T.cl_Play (pv 0) (hr.mono (by decide)) xe_pass (pa_cons (pe_callTy call_str_i (by rfl) T.z_str rfl (pa_cons (pv 1) pa_nil (se rfl)) (he:=se rfl) (hpl:=na rfl)) (pa_cons (pe_mt m_Course_by_value T.cl_Course (pe_fld (pv 0) rfl) (hr.mono (by decide)) strictP.pass (pa_cons (pe_fld (pv 0) rfl) (pa_cons (pv 1) pa_nil (se rfl)) (se rfl)) (hst:=se rfl) (hpl:=na rfl)) (pa_cons (pe_ix ix_tupH (pv 2) pe_int (fun _ _=>rfl)) pa_nil (se rfl)) (se rfl)) (se rfl)) (hst:=se rfl) (hpl:=na rfl)))))),?_⟩
  refine(?_:let q0_:TS:=_;let q1_:TS:=_;let q2_:TS:=_;tSeq q0_ (tSeq q1_ q2_) _ _ _)
  intro q0_ q1_ q2_
  have sl:=sizeLine_eq
  refine(?_:let G_:Prop:=_;G_)
  intro G_
  obtain⟨dp,c,sv,pv,xs,hp,co,sth,rp,htl,al⟩:=pl.ex
  obtain⟨dc,sp,mo,wh,us,ft',h1,_⟩:=id co
  dsimp only[G_]
  have h1:=hidA_sub _ _ h1
  have lp:∀{a b c d e:V},List.lookup (Str.ofString "what_at") [(Str.ofString "spots",a),(Str.ofString "mosts",b),(Str.ofString "first",c),(Str.ofString "whats",d),(Str.ofString "tables",e)]=none:=lk_no (by decide +kernel) (by decide +kernel) (by decide +kernel) (by decide +kernel) (by decide +kernel)
  have lp2:∀{a b c d e:V},List.lookup (Str.ofString "by_value") [(Str.ofString "spots",a),(Str.ofString "mosts",b),(Str.ofString "first",c),(Str.ofString "whats",d),(Str.ofString "tables",e)]=none:=lk_no (by decide +kernel) (by decide +kernel) (by decide +kernel) (by decide +kernel) (by decide +kernel)
  have lgo:∀{a b c d:V},List.lookup (Str.ofString "go") (plF a b c d)=none:=by intro a b c d;unfold plF;rw[lk_ne (by decide +kernel),lk_ne (by decide +kernel),lk_ne (by decide +kernel),lk_ne (by decide +kernel)];rfl
  have low:∀{a b c d:V},List.lookup (Str.ofString "open_ways") (plF a b c d)=none:=by intro a b c d;unfold plF;rw[lk_ne (by decide +kernel),lk_ne (by decide +kernel),lk_ne (by decide +kernel),lk_ne (by decide +kernel)];rfl
  change tSeq _ _ _ [some (.ref p),some (.int v),none] H
  refine seq_c (fun N=>∀u,Rep (hidA L H) (wtD x) u→N [some (.ref p),some (.int v),some u] H) ?_ (fun N hN=>?_)
  case refine_2=>
   simp_all only[tFld,tMeth,spWat]
   exact⟨_,_,_,hp,T.cl_Play,T.na_Play_course,_,pf_co,c,rfl,_,_,h1,lp,_,_,_,hp,T.cl_Play,T.na_Play_state,_,pf_st,c,rfl,hidA L H,hidA_sub,g,co.co,st.1,st.2,sth.mono hidA_sub,_,lk,fun u ru=>hN u ru⟩
  rintro u ru
  by_cases kt:kdW x=Str.ofString "throw"
  case neg=>
   refine(?_:let G_:Prop:=_;G_)
   intro G_
   obtain⟨q,vs',rfl,hq⟩:=wt_kd ru
   dsimp only[G_]
   have hq':=hidA_sub _ _ hq
   change tSeq _ _ _ [some (.ref p),some (.int v),some (.ref q)] H
   refine seq_c (fun _=>True) trivial (fun N _=>?_)
   refine if_yes (fun Y N k=>by simp_all only[hq'];rw[if_pos kt];exact k) ?_
   simp_all only[tRaise]
   exact⟨by decide,kE (fun ps t b rs e=>absurd (by rw[e];rfl) kt) _ (.of (Same.refl _)) pl⟩
  refine(?_:let G_:Prop:=_;G_)
  intro G_
  obtain⟨pool,t,b,rs,rfl⟩:=kd_thr kt
  obtain⟨ps,rfl,gl⟩:=xg _ _ _ _ rfl
  obtain⟨q,w1,x1,x2,x3,rfl,hq,r1,r2,rt,r4⟩:=rep_t4.mp (show Rep _ (.tup _) u from ru)
  dsimp only[G_]
  rw[rep_str.mp r1] at hq
  have hq':=hidA_sub _ _ hq
  change tSeq _ _ _ [some (.ref p),some (.int v),some (.ref q)] H
  by_cases hv:v∈valsP ps
  case neg=>
   refine seq_c (fun _=>True) trivial (fun N _=>?_)
   simp_all only[tMeth,spWho,spOpw,hq',tRaise]
   rw[if_neg (by simp),if_neg (by decide)]
   refine⟨_,_,hp,low,tl,tb,L,g,st,pd,tr,pl,_,lk,_,⟨ps,rfl,gl,rfl⟩,fun a H1 k1 pl1 na ra=>?_⟩
   refine(?_:let G_:Prop:=_;G_)
   intro G_
   obtain⟨a',ys,e0,ha,ry⟩:=rep_lst.mp ra
   dsimp only[G_]
   cases e0
   obtain rfl:=ints_back ry
   refine⟨_,_,rfl,.inl (SqL.of ha),rfl,ints_flat _,_,rfl,?_⟩
   rw[inV_int,decide_eq_false hv]
   refine⟨by decide,kE (fun ps' t' b' rs' e=>?_) _ k1 pl1⟩
   injection e with e
   rw[←pts_inj e]
   exact hv
  refine(?_:let G_:Prop:=_;G_)
  intro G_
  obtain⟨v0,v1,hpy,r,f',nm',ro,ak,kM,kk⟩:=kQ ps t b rs rfl hv
  dsimp only[G_]
  refine seq_c (fun N=>∀H1,K3 p tl tb H H1→PlyH q_Play q_Course L H1 p tl tb g st pd tr→N [some (.ref p),some (.int v),some (.ref q)] H1) ?_ (fun N hN=>?_)
  case refine_2=>
   simp_all only[tMeth,spWho,spOpw,hq']
   rw[if_neg (by simp),if_neg (by decide)]
   refine⟨_,_,hp,low,tl,tb,L,g,st,pd,tr,pl,_,lk,_,⟨ps,rfl,gl,rfl⟩,fun a H1 k1 pl1 na ra=>?_⟩
   refine(?_:let G_:Prop:=_;G_)
   intro G_
   obtain⟨a',ys,e0,ha,ry⟩:=rep_lst.mp ra
   dsimp only[G_]
   cases e0
   obtain rfl:=ints_back ry
   refine⟨_,_,rfl,.inl (SqL.of ha),rfl,ints_flat _,_,rfl,?_⟩
   rw[ints_in hv]
   exact hN _ k1 pl1
  rintro H1 k1 pl1
  refine(?_:let G_:Prop:=_;G_)
  intro G_
  obtain⟨dp1,c1,sv1,pv1,xs1,hp1,co1,sth1,rp1,htl1,al1⟩:=pl1.ex
  obtain⟨dc1,sp1,mo1,wh1,us1,ft1,g1,_⟩:=id co1
  dsimp only[G_]
  have g1:=hidA_sub _ _ g1
  have sm:=k1.hid pl.mem.1 pl.mem.2.1 pl.mem.2.2
  have hq1:=sm _ _ hq
  simp_all only[tFld,tMeth,spBv,spGo]
  refine⟨_,_,hp1,lgo,?_,_,_,_,hp1,T.cl_Play,T.na_Play_course,_,pf_co,c1,rfl,_,_,g1,lp2,_,_,_,hp1,T.cl_Play,T.na_Play_state,_,pf_st,c1,rfl,g,co1.co.mono hidA_sub,pl.good,st.1,st.2,sth1.mono hidA_sub,pl.len,_,_,_,_,lk,r,ro,f',nm',ak,fun p' l' H2 s2 n1 n2 e1 e2=>?_⟩
  ·exact Nat.lt_of_le_of_lt (Nat.log2_le_self _) (by omega)
  have fr:∀{a o},H1 a=none→H2 a=some o→hidA L H2 a=some o:=fun {a o} n h=>by rw[hidA_no (pl1.out n)];exact h
  have s12:=hidA_mono (L:=L) s2
  exact⟨_,s2 _ _ (hidA_sub _ _ hq1),_,at2,tl,tb,L,g,st,pd,tr,pl1.same s2,l200,(nm',r.2.2.1.foldl (doD g.cs v) st.2),⟨p',l',rfl,fr n1 e1,fr n2 e2⟩,(foldD_len _ _).trans pl.len,(t,b),Rep.mono (sm.trans s12) rt,hpd,hpy,fun z H' s'=>kM z H' (k1.trans (.of (s2.trans s'))) (pl1.same (s2.trans s')),fun z H' k' pl'=>kk z H' (k1.trans ((K3.of s2).trans k')) pl'⟩
theorem sc_Play_back:FnScope ["self","last"] ["self"] (defScope (inClass (top 45) 7)):=⟨rfl,rfl,rfl,by decide +kernel,rfl,by decide +kernel,by decide +kernel⟩
theorem ok_bck (T:Txt K mg q_LuckError q_NoShare q_NoTable q_NoEnd q_TooMany q_NoStep q_NoPlay q_Course q_Play):MtCal P w K mg base (CX1 P w) 1 q_Play "back" ["self"] (spBck q_Play q_Course q_NoStep):=by
 refine T.dm_Play_back.cal (fun _ _ _ _ _ _=>us_1 fun _=>rfl) fun f fd F=>F.okX sc_Play_back (fun vs H Q E h=>?_) (fun cdv A outer s H vs Q E hr h=>?_)
 ·obtain⟨_,_,_,_,_,_,_,_,rfl,_⟩:=h;rfl
 ·refine(?_:let G_:Prop:=_;G_)
  intro G_
  obtain⟨p,tl,tb,L,g,st,pd,tr,rfl,pl,l200,kE,kQ⟩:=h
  dsimp only[G_]
  clear G_
  have nd:=sc_Play_back.nd
  have hd0:A.handled=none:=hr.hd
  refine⟨_,(pss_cons (ps_if (pt_cmpR op_eq (pe_callB call_lenL (by rfl) T.z_len PySem.boot_len (pa_cons (pe_fld (pv 0) rfl) pa_nil (se rfl)) (he:=se rfl) (hpl:=na rfl)) pe_int (nomark _)) (pss_one (ps_raise rfl T.k_NoStep T.x_NoStep hd0 (pa_cons pe_str pa_nil (se rfl)) (he:=se rfl) (hpl:=na rfl)))
   pss_nil)
  (pss_cons (ps_set (i:=1) nd rfl (Or.inl rfl) (pe_bm0 PySem.F.plainAttrs_list PySem.F.slot_list_pop PySem.F.type_list_pop mt_pop.r (pe_fld (pv 0) rfl)))
  (pss_cons (ps_fld (pv 0) (pe_ix ix_tupH (pv 1) pe_int (fun _ _=>rfl)) rfl)
  (pss_one (ps_fld (pv 0) (pe_ix ix_tupH (pv 1) pe_int (fun _ _=>rfl)) rfl))))),?_⟩
  refine(?_:let q0_:TS:=_;let q1_:TS:=_;let q2_:TS:=_;let q3_:TS:=_;tSeq q0_ (tSeq q1_ (tSeq q2_ q3_)) _ _ _)
  intro q0_ q1_ q2_ q3_
  have sl:=sizeLine_eq
  refine(?_:let G_:Prop:=_;G_)
  intro G_
  obtain⟨dp,c,sv,pv,xs,hp,co,sth,rp,htl,al⟩:=pl.ex
  dsimp only[G_]
  clear G_
  have xl:=al.length
  change tSeq _ _ _ [some (.ref p),none] H
  refine seq_c (fun N=>∀tr0 e,tr=tr0++ [e]→N [some (.ref p),none] H) ?_ (fun N hN=>?_)
  case refine_2=>
   simp_all only[tFld,tRaise]
   refine⟨_,_,_,hp,T.cl_Play,T.na_Play_trail,_,pf_tr,tl,rfl,_,htl,ite2 (fun e=>⟨by decide,kE (List.length_eq_zero_iff.mp (by omega))⟩) (fun e=>?_)⟩
   have ne:tr≠[]:=fun z=>e (by rw[z,List.length_nil] at xl;omega)
   exact hN tr.dropLast (tr.getLast ne) (List.dropLast_concat_getLast ne).symm
  intro tr0 p1_ p2_
  refine(?_:let G_:Prop:=_;G_)
  intro G_
  obtain⟨w,st0,pd0⟩:=p1_
  obtain rfl:=p2_
  have ptl:p≠tl:=fun z=>by rw[z,htl] at hp;cases hp
  obtain⟨kvs,htb,_⟩:=id pl.tbs
  dsimp only[G_]
  clear G_
  have ptb:p≠tb:=fun z=>by rw[z,htb] at hp;cases hp
  have ttb:tl≠tb:=fun z=>by rw[z,htb] at htl;cases htl
  rw[List.length_append,List.length_singleton] at xl
  obtain⟨x,ex,t,sv0,pv0,rfl,ht,sth0,rp0⟩:=al.at (i:=tr0.length) (a:=(w,st0,pd0)) (by rw[List.getElem?_append_right (Nat.le_refl _),Nat.sub_self];rfl)
  have al0:Al (TrE (hidA L H)) tr0 xs.dropLast:=Al.of (by rw[List.length_dropLast];omega) fun i v a ev ea=>by
   have hi:i<tr0.length:=(List.getElem?_eq_some_iff.mp ea).1
   rw[List.getElem?_dropLast,if_pos (by omega)] at ev
   refine(?_:let G_:Prop:=_;G_)
   intro G_
   obtain⟨a',ea',r⟩:=al.get ev
   dsimp only[G_]
   rw[List.getElem?_append_left hi,ea] at ea'
   cases ea'
   exact r
  have ht':=hidA_sub _ _ ht
  have ttl:t≠tl:=fun z=>by rw[z,htl] at ht';cases ht'
  have tp:t≠p:=fun z=>by rw[z,hp] at ht';cases ht'
  change tSeq _ _ _ [some (.ref p),none] H
  refine seq_c (fun N=>N [some (.ref p),some (.ref t)] (upd H tl (.lst xs.dropLast))) ?_ (fun N hN=>?_)
  case refine_2=>
   simp_all only[rPop,tBM0,tFld]
   refine⟨_,_,_,hp,T.cl_Play,T.na_Play_trail,_,pf_tr,.inl ⟨rfl,_,SqL.of htl⟩,tl,rfl,xs,htl,.ref t,?_,hN⟩
   rw[show xs.length - 1=tr0.length by omega]
   exact ex
  simp_all only[tFld,sFld]
  refine⟨_,by rw[upd_ne ttl];exact ht',_,at1,_,_,_,by rw[upd_ne ptl];exact hp,T.cl_Play,T.na_Play_state,pf_len,?_⟩
  rw[pu_st]
  refine⟨_,by rw[upd_ne tp,upd_ne ttl];exact ht',_,at2,_,_,_,upd_same,T.cl_Play,T.na_Play_paid,pf_len,?_⟩
  rw[pu_pd]
  generalize hH2:upd (upd (upd H tl (.lst xs.dropLast)) p (.ins q_Play dp (plF (.ref c) sv0 pv (.ref tl)))) p (.ins q_Play dp (plF (.ref c) sv0 pv0 (.ref tl)))=H2
  have k2:K3 p tl tb H H2:=fun a o h1 h2 h3 h=>by rw[←hH2,upd_ne h1,upd_ne h1,upd_ne h2];exact h
  have p2:H2 p=some (.ins q_Play dp (plF (.ref c) sv0 pv0 (.ref tl))):=by rw[←hH2,upd_same]
  have t2:H2 tl=some (.lst xs.dropLast):=by rw[←hH2,upd_ne (Ne.symm ptl),upd_ne (Ne.symm ptl),upd_same]
  have b2:H2 tb=some (.dK kvs):=by rw[←hH2,upd_ne (Ne.symm ptb),upd_ne (Ne.symm ptb),upd_ne (Ne.symm ttb)];exact htb
  clear hH2
  have s4:=k2.hid pl.mem.1 pl.mem.2.1 pl.mem.2.2
  exact kQ tr0 (w,st0,pd0) rfl _ k2 (pl.next k2 p2 co (sth0.mono s4) (rp0.mono s4) t2 (TrE.up s4 al0) (pl.tbs.mono s4 fun o h=>by rw[htb] at h;rw[b2];exact h) (pl.lenT (w,st0,pd0) (List.mem_append_right _ List.mem_cons_self)) fun e he=>pl.lenT e (List.mem_append_left _ he))
theorem sc_Play_shown:FnScope ["self"] ["self"] (defScope (inClass (top 45) 8)):=⟨rfl,rfl,rfl,by decide +kernel,rfl,by decide +kernel,by decide +kernel⟩
theorem ok_shw (T:Txt K mg q_LuckError q_NoShare q_NoTable q_NoEnd q_TooMany q_NoStep q_NoPlay q_Course q_Play):MtCal P w K mg base (CX1 P w) 1 q_Play "shown" ["self"] (spShw q_Play q_Course):=by
 refine T.dm_Play_shown.cal (fun _ _ _ _ _ _=>us_1 fun _=>rfl) fun f fd F=>F.okC sc_Play_shown (fun vs H Q E h=>?_) (fun cdv A outer s H vs Q E hr h=>?_)
 ·obtain⟨_,_,_,_,_,_,_,_,rfl,_⟩:=h;rfl
 ·refine(?_:let G_:Prop:=_;G_)
  intro G_
  obtain⟨p,tl,tb,L,g,st,pd,tr,rfl,pl,l200,lw,kk⟩:=h
  dsimp only[G_]
  have nd:=sc_Play_shown.nd
  refine⟨_,(pss_one (ps_ret (pe_bm PySem.F.plainAttrs_str PySem.F.slot_str_join PySem.F.type_str_join (mt_joinK (K:=K)) pe_str (pa_cons (pe_comp rfl (N:=["self"]) (so:=defScope (inClass (top 45) 8)) (N':=["step"]) (k:=1) (fr:=[]) rfl rfl ⟨rfl,by decide +kernel,by decide +kernel,by decide +kernel,rfl,by decide +kernel,by decide +kernel⟩ (pi_listK (K:=K) (pe_fld (pv 0) rfl)) (fun _ _ _ _ _=>(pg_name (i:=0) (show(["step"]:List Str).Nodup by decide +kernel) rfl (Or.inl rfl))) (fun _ _ _ _ _=>pts_nil)
   (fun _ _ _ _ _=>(pe_ix ix_tupH (pv 0) pe_int (fun _ _=>rfl)))) pa_nil (se rfl))))),?_⟩
  have sl:=sizeLine_eq
  refine(?_:let G_:Prop:=_;G_)
  intro G_
  obtain⟨dp,c,sv,pv,xs,hp,co,sth,rp,htl,al⟩:=pl.ex
  dsimp only[G_]
  have xl:=al.length
  simp_all only[tFld]
  refine⟨rfl,_,_,_,hp,T.cl_Play,T.na_Play_trail,_,pf_tr,tl,rfl,⟨_,SqL.of htl⟩,?_⟩
  have S:Src (Itl K tl) (Same H) xs.length _:=src_list (fun H' s'=>SqL.of (s' _ _ htl))
  rw[xl] at S
  refine comp_vals tr (fun e=>some (.str e.1)) S (fun _ _ _ _ h=>h.1) (by omega) ?_ ?_
  ·rintro i e x ee ⟨_,ex⟩ Y N y1 y2
   refine(?_:let G_:Prop:=_;G_)
   intro G_
   obtain⟨e',ee',t,sv',pv',rfl,ht,_⟩:=al.get ex
   dsimp only[G_]
   rw[ee] at ee'
   cases ee'
   have ht:=hidA_sub _ _ ht
   unfold tYes
   refine iteT ?_
   simp_all only[ht]
   exact y1 _ rfl
  ·intro D n1 n2
   rw[show tr.filterMap (fun e=>some (V.str e.1))=(tr.map (·.1)).map V.str by rw[List.map_map,List.filterMap_eq_map'];rfl]
   refine⟨tr.map (fun e:Trl=>e.1),SqL.of upd_same,?_,kk _ (same_upd n2)⟩
   refine joinOk_of (B:=20) (fun y hy=>?_) (by rw[List.length_map,show(Str.ofString " ").length=1 by decide +kernel];omega)
   refine(?_:let G_:Prop:=_;G_)
   intro G_
   obtain⟨e,he,rfl⟩:=List.mem_map.mp hy
   dsimp only[G_]
   exact lw e he
abbrev FIG:Str:=Str.ofString "0123456789"
abbrev numT (k:Int):Str:=Str.ofString (toString k)
noncomputable def Wrd (w:Str):Prop:=0<w.length∧w.length≤8∧hsh (.str w)=true∧∀c∈w.cps.toList,97≤c∧c≤122
noncomputable def Fg (z:Str):Prop:=z.cps.all (·<128)=true∧1≤z.length∧z.length≤12
theorem num20:∀n∈List.range 21,((numT ((n:Nat):Int)).cps.all (·<128)=true∧1≤(numT ((n:Nat):Int)).length∧(numT ((n:Nat):Int)).length≤2)∧(∀c∈(numT ((n:Nat):Int)).cps.toList,c∈FIG.cps.toList)∧32∉(numT ((n:Nat):Int)).cps.toList:=by decide +kernel
theorem num_b {k:Int} (h0:0≤k) (h1:k≤20):((numT k).cps.all (·<128)=true∧1≤(numT k).length∧(numT k).length≤2)∧(∀c∈(numT k).cps.toList,c∈FIG.cps.toList)∧32∉(numT k).cps.toList:=by
 have e:k=((k.toNat:Nat):Int):=by omega
 have:=num20 k.toNat (List.mem_range.mpr (by omega))
 rw[←e] at this
 exact this
theorem fig_lo:∀c∈FIG.cps.toList,c<97:=by decide +kernel
structure G8 where
 n0:Str
 n1:Str
 who:Int
 sd:Nat
 t:Int
structure G8.Ok (G:G8):Prop where
 w0:Wrd G.n0
 w1:Wrd G.n1
 ne:G.n0≠G.n1
 sd:2≤G.sd∧G.sd≤20
 t:-1000≤G.t∧G.t≤1000
noncomputable def G8.pk (G:G8):Wt:=.pick G.who [⟨G.n0,none,[],G.n0⟩,⟨G.n1,none,[.plus (Str.ofString "all") 1],G.n1⟩]
noncomputable def G8.tw (G:G8):Wt:=.thr ([.dice 1 G.sd].map ptD) G.t 1 [(0,99,[],G.n0)]
noncomputable def G8.g (G:G8):Gm:=⟨[(Str.ofString "all",60)],[(G.n0,G.pk),(G.n1,G.tw)]⟩
abbrev S8:=Bool×Int×Nat
noncomputable def nx8 (G:G8) (s:S8) (w:Str):S8:=if s.1=true then (false,s.2.1,s.2.2+1) else if w=G.n1 then (true,min (s.2.1+1) 60,s.2.2) else s
noncomputable def run8 (G:G8) (ws:List Str):S8:=ws.foldl (nx8 G) (false,0,0)
noncomputable def ok8 (G:G8) (s:S8) (w:Str):Prop:=if s.1=true then ∃v:Int,1≤v∧v≤(G.sd:Int)∧w=numT v else w=G.n0∨w=G.n1
noncomputable def st8 (G:G8) (s:S8):Sta:=(if s.1=true then G.n1 else G.n0,[s.2.1])
noncomputable def pd8 (G:G8) (s:S8):Int×Int:=(G.t* (s.2.2:Int),1)
noncomputable def trF (G:G8) (x:S8×List Trl) (w:Str):S8×List Trl:=(nx8 G x.1 w,x.2++ [(w,st8 G x.1,pd8 G x.1)])
noncomputable def tr8 (G:G8) (ws:List Str):List Trl:=(ws.foldl (trF G) ((false,0,0),[])).2
theorem run_snoc (G:G8) (ws:List Str) (w:Str):run8 G (ws++ [w])=nx8 G (run8 G ws) w:=by
 unfold run8
 rw[List.foldl_append]
 rfl
theorem trF_fst (G:G8):∀(ws:List Str) (x:S8×List Trl),(ws.foldl (trF G) x).1=ws.foldl (nx8 G) x.1
 | [],_=>rfl
 | w::ws,x=>trF_fst G ws _
theorem tr_snoc (G:G8) (ws:List Str) (w:Str):tr8 G (ws++ [w])=tr8 G ws++ [(w,st8 G (run8 G ws),pd8 G (run8 G ws))]:=by
 unfold tr8
 rw[List.foldl_append]
 have h:∀y:S8×List Trl,y.1=run8 G ws→(trF G y w).2=y.2++ [(w,st8 G (run8 G ws),pd8 G (run8 G ws))]:=fun y e=>by rw[←e];rfl
 exact h _ (trF_fst G ws _)
theorem tr_len (G:G8):∀(ws:List Str) (x:S8×List Trl),(ws.foldl (trF G) x).2.map (·.1)=x.2.map (·.1)++ws
 | [],x=>(List.append_nil _).symm
 | w::ws,x=>by
  rw[List.foldl_cons,tr_len G ws]
  unfold trF
  rw[List.map_append,List.append_assoc]
  rfl
theorem tr_words (G:G8) (ws:List Str):(tr8 G ws).map (·.1)=ws:=by
 unfold tr8
 rw[tr_len]
 rfl
theorem tr_length (G:G8) (ws:List Str):(tr8 G ws).length=ws.length:=by
 have:=congrArg List.length (tr_words G ws)
 rwa [List.length_map] at this
theorem run_n (G:G8):∀(ws:List Str) (s:S8),(ws.foldl (nx8 G) s).2.2≤s.2.2+ws.length
 | [],s=>Nat.le_refl _
 | w::ws,s=>by
  rw[List.foldl_cons,List.length_cons]
  have:=run_n G ws (nx8 G s w)
  have h:(nx8 G s w).2.2≤s.2.2+1:=by
   unfold nx8
   split
   ·exact Nat.le_refl _
   ·split
    ·exact Nat.le_succ _
    ·exact Nat.le_succ _
  omega
noncomputable def Oks (G:G8) (ws:List Str):Prop:=∀i w,ws[i]?=some w→ok8 G (run8 G (ws.take i)) w
theorem Oks.nil {G:G8}:Oks G []:=fun i w h=>by simp at h
theorem Oks.snoc {G:G8} {ws:List Str} {w:Str} (h:Oks G ws) (k:ok8 G (run8 G ws) w):Oks G (ws++ [w]):=fun i x e=>by
 by_cases c:i<ws.length
 ·rw[List.getElem?_append_left c] at e
  rw[List.take_append_of_le_length (Nat.le_of_lt c)]
  exact h i x e
 ·have hi:i< (ws++ [w]).length:=(List.getElem?_eq_some_iff.mp e).1
  rw[List.length_append,List.length_singleton] at hi
  have hi:i=ws.length:=by omega
  subst hi
  rw[List.getElem?_append_right (Nat.le_refl _),Nat.sub_self] at e
  cases e
  rw[List.take_left']
  ·exact k
  ·rfl
theorem Oks.init {G:G8} {ws:List Str} {w:Str} (h:Oks G (ws++ [w])):Oks G ws∧ok8 G (run8 G ws) w:=by
 refine⟨fun i x e=>?_,?_⟩
 ·have c:i<ws.length:=(List.getElem?_eq_some_iff.mp e).1
  have:=h i x (by rw[List.getElem?_append_left c];exact e)
  rwa [List.take_append_of_le_length (Nat.le_of_lt c)] at this
 ·have:=h ws.length w (by rw[List.getElem?_append_right (Nat.le_refl _),Nat.sub_self];rfl)
  rwa [List.take_left' rfl] at this
structure P8 (qP qC:Addr) (L:List Addr) (H:Hp) (p tl tb:Addr) (G:G8) (ws:List Str):Prop where
 ply:PlyH qP qC L H p tl tb G.g (st8 G (run8 G ws)) (pd8 G (run8 G ws)) (tr8 G ws)
 ok:Oks G ws
 len:ws.length≤200
theorem P8.same {qP qC:Addr} {L:List Addr} {H H':Hp} {p tl tb:Addr} {G:G8} {ws:List Str} (h:P8 qP qC L H p tl tb G ws) (s:Same H H'):P8 qP qC L H' p tl tb G ws:=⟨h.ply.same s,h.ok,h.len⟩
theorem P8.put {qP qC:Addr} {L:List Addr} {H:Hp} {p tl tb gl:Addr} {G:G8} {ws:List Str} {ys:List V} (h:P8 qP qC L H p tl tb G ws) (hg:gl∈L) (n1:gl≠p) (n2:gl≠tl) (n3:gl≠tb):P8 qP qC L (upd H gl (.lst ys)) p tl tb G ws:=by
 refine⟨h.ply.kept (fun a o z=>?_) (fun a ha o z=>?_) (fun a ha=>?_),h.ok,h.len⟩
 ·obtain⟨c1,z⟩:=hidA_out z
  rw[hidA_no c1,upd_ne (fun y=>c1 (by rw[y];exact hg))]
  exact z
 ·rw[upd_ne (by rcases ha with rfl | rfl | rfl;exact Ne.symm n1;exact Ne.symm n2;exact Ne.symm n3)]
  exact z
 ·by_cases z:a=gl
  ·exact⟨_,by rw[z];exact upd_same,fun _ e=>by cases e⟩
  ·obtain⟨o,w1,w2⟩:=h.ply.al a ha
   exact⟨o,by rw[upd_ne z];exact w1,w2⟩
theorem w_fg {w:Str} (h:Wrd w):Fg w:=⟨by
 rw[←Array.all_toList,List.all_eq_true]
 intro c hc
 have:=h.2.2.2 c hc
 simp only[decide_eq_true_eq]
 omega,h.1,Nat.le_trans h.2.1 (by decide)⟩
theorem ok_word {G:G8} (g:G.Ok) {s:S8} {w:Str} (h:ok8 G s w):Fg w∧32∉w.cps.toList:=by
 unfold ok8 at h
 split at h
 ·refine(?_:let G_:Prop:=_;G_)
  intro G_
  obtain⟨v,v1,v2,rfl⟩:=h
  have:=g.sd.2
  obtain⟨⟨a,b,c⟩,_,e⟩:=num_b (k:=v) (by omega) (by omega)
  dsimp only[G_]
  exact⟨⟨a,b,Nat.le_trans c (by decide)⟩,e⟩
 ·have lo:∀{z:Str},Wrd z→32∉z.cps.toList:=fun hz hc=>by have:=(hz.2.2.2 32 hc).1;omega
  rcases h with rfl | rfl
  ·exact⟨w_fg g.w0,lo g.w0⟩
  ·exact⟨w_fg g.w1,lo g.w1⟩
theorem oks_words {G:G8} (g:G.Ok) {ws:List Str} (h:Oks G ws):∀w∈ws,Fg w∧32∉w.cps.toList:=fun w hw=>by
 obtain⟨i,e⟩:=List.mem_iff_getElem?.mp hw
 exact ok_word g (h i w e)
noncomputable def WdV (z:Str) (v:V):Prop:=Fg z∧((∃k:Int,0≤k∧k≤20∧z=numT k∧v=.int k)∨((∃c∈z.cps.toList,c∉FIG.cps.toList)∧v=.non))
theorem G8.good {G:G8} (g:G.Ok):GoodG G.g:=by
 refine⟨?_,?_,?_,?_,?_,fun p hp=>?_⟩
 ·show([Str.ofString "all"]:List Str).Nodup
  simp
 ·show([G.n0,G.n1]:List Str).Nodup
  simp [g.ne]
 ·show(1:Nat)≤100;decide
 ·show(2:Nat)≤100;decide
 ·show(0:Nat)<2;decide
 ·have al:Str.ofString "all"∈G.g.cs.map (·.1):=List.mem_cons_self
  rcases List.mem_cons.mp hp with rfl | hp
  ·refine⟨by show(2:Nat)≤100;decide,fun r hr=>?_⟩
   rcases List.mem_cons.mp hr with rfl | hr
   ·exact⟨by show(0:Nat)≤100;decide,fun d hd=>by cases hd⟩
   ·rw[List.mem_singleton.mp hr]
    exact⟨by show(1:Nat)≤100;decide,fun d hd=>by rw[List.mem_singleton.mp hd];exact al⟩
  ·rw[List.mem_singleton.mp hp]
   exact⟨by show(1:Nat)≤100;decide,by show(1:Nat)≤100;decide,fun r hr=>by rw[List.mem_singleton.mp hr];exact⟨by show(0:Nat)≤100;decide,fun d hd=>by cases hd⟩⟩
theorem G8.l0 (G:G8):look G.g.ps G.n0=some G.pk:=by
 unfold look
 show Option.map _ (List.find? _ [(G.n0,G.pk),(G.n1,G.tw)])=_
 rw[List.find?_cons_of_pos (by simp)]
 rfl
theorem G8.l1 {G:G8} (g:G.Ok):look G.g.ps G.n1=some G.tw:=by
 unfold look
 show Option.map _ (List.find? _ [(G.n0,G.pk),(G.n1,G.tw)])=_
 rw[List.find?_cons_of_neg (by simpa using g.ne),List.find?_cons_of_pos (by simp)]
 rfl
theorem G8.a0 (G:G8) (ns:List Int):askd G.g ns 1 G.n0=some G.n0:=by
 unfold askd
 rw[G.l0]
 rfl
theorem G8.a1 {G:G8} (g:G.Ok) (ns:List Int):askd G.g ns 1 G.n1=some G.n1:=by
 unfold askd
 rw[G8.l1 g]
 rfl
theorem G8.op (G:G8) (ns:List Int):openR G.g.cs ns G.pk=[⟨G.n0,none,[],G.n0⟩,⟨G.n1,none,[.plus (Str.ofString "all") 1],G.n1⟩]:=rfl
theorem G8.f0 (G:G8) (ns:List Int):(openR G.g.cs ns G.pk).find? (fun r=>decide (r.word=G.n0))=some ⟨G.n0,none,[],G.n0⟩:=by
 rw[G.op,List.find?_cons_of_pos (by simp)]
theorem G8.f1 {G:G8} (g:G.Ok) (ns:List Int):(openR G.g.cs ns G.pk).find? (fun r=>decide (r.word=G.n1))=some ⟨G.n1,none,[.plus (Str.ofString "all") 1],G.n1⟩:=by
 rw[G.op,List.find?_cons_of_neg (by simpa using g.ne),List.find?_cons_of_pos (by simp)]
theorem G8.d1 (G:G8) (c:Int):([.plus (Str.ofString "all") 1]:List Dd).foldl (doD G.g.cs 0) [c]=[min (c+1) 60]:=by
 show putC [(Str.ofString "all",60)] [c] (spot [(Str.ofString "all",60)] (Str.ofString "all")) (([c]:List Int).getD (spot [(Str.ofString "all",60)] (Str.ofString "all")) 0+1)=_
 have e:spot [(Str.ofString "all",60)] (Str.ofString "all")=0:=by unfold spot;rw[List.map_cons,List.idxOf_cons_self]
 rw[e]
 rfl
theorem G8.gl {G:G8} (g:G.Ok):GoodL [.dice 1 G.sd]:=by
 have h:∀s∈List.range 21,2≤s→s∈dks:=by decide +kernel
 exact List.mem_map.mpr ⟨G.sd,h G.sd (List.mem_range.mpr (by have:=g.sd.2;omega)) g.sd.1,rfl⟩
theorem G8.vals {G:G8} {v:Int}:v∈valsP [.dice 1 G.sd]↔1≤v∧v≤(G.sd:Int)∧0<G.sd∨v=1∧G.sd=0:=by
 show v∈(List.range (1*G.sd - 1+1)).map (fun i:Nat=>((1:Nat):Int)+ (i:Int))↔_
 rw[List.mem_map]
 constructor
 ·rintro⟨i,hi,rfl⟩
  have:=List.mem_range.mp hi
  omega
 ·intro h
  refine⟨(v - 1).toNat,List.mem_range.mpr (by omega),by omega⟩
theorem G8.ro (G:G8) {v:Int} (h0:0≤v) (h1:v≤99):rowOf [(0,99,[],G.n0)] v=some (0,99,[],G.n0):=by
 unfold rowOf
 rw[List.find?_cons_of_pos (by simp [h0,h1])]
theorem pl_one (a b:Int):Wq.pl (a,1) (b,1)=(a+b,1):=by
 show Wq.low (a*1+b*1) (1*1)=_
 rw[Int.mul_one,Int.mul_one,Int.mul_one]
 unfold Wq.low Nm.st Nm.sb Nm.g
 simp
theorem pd_hf {G:G8} (g:G.Ok) {ws:List Str} (h:ws.length≤200):HfB 500000 (pd8 G (run8 G ws)):=by
 have n:=run_n G ws (false,0,0)
 have n:(run8 G ws).2.2≤0+ws.length:=n
 obtain⟨t0,t1⟩:=g.t
 have a:G.t* ((run8 G ws).2.2:Int)≤1000*200:=by
  refine Int.le_trans (Int.mul_le_mul_of_nonneg_right t1 (by omega)) (Int.mul_le_mul_of_nonneg_left (by omega) (by decide))
 have b:-(1000*200)≤G.t* ((run8 G ws).2.2:Int):=by
  have:-1000* ((run8 G ws).2.2:Int)≤G.t* ((run8 G ws).2.2:Int):=Int.mul_le_mul_of_nonneg_right t0 (by omega)
  omega
 exact hfb_one _ (by omega) (by omega)
theorem say_to {G:G8} (gg:G.Ok) {s:S8} (a:¬s.1=true) {z:Str} (hz:z=G.n0∨z=G.n1) {r:Rw} (er:(openR G.g.cs (st8 G s).2 G.pk).find? (fun r=>decide (r.word=z))=some r):
  ∃nm',askd G.g (r.ds.foldl (doD G.g.cs 0) (st8 G s).2) 1 r.to=some nm'∧(nm',r.ds.foldl (doD G.g.cs 0) (st8 G s).2)=st8 G (nx8 G s z)∧Wq.pl (pd8 G s) (0,1)=pd8 G (nx8 G s z):=by
 have e1:st8 G s=(G.n0,[s.2.1]):=by unfold st8;rw[if_neg a]
 rw[e1] at er ⊢
 have key:∃nm',askd G.g (r.ds.foldl (doD G.g.cs 0) [s.2.1]) 1 r.to=some nm'∧(nm',r.ds.foldl (doD G.g.cs 0) [s.2.1])=st8 G (nx8 G s z)∧(nx8 G s z).2.2=s.2.2:=by
  unfold nx8
  rw[if_neg a]
  rcases hz with e | e
  ·rw[e,G.f0] at er
   cases er
   rw[e,if_neg gg.ne]
   exact⟨_,G.a0 _,e1.symm,rfl⟩
  ·rw[e,G8.f1 gg] at er
   cases er
   rw[e,if_pos rfl]
   refine⟨_,G8.a1 gg _,?_,rfl⟩
   rw[G.d1]
   rfl
 obtain⟨nm',k1,k2,k3⟩:=key
 refine⟨nm',k1,k2,?_⟩
 unfold pd8
 rw[pl_one,k3,Int.add_zero]
theorem say_no {G:G8} (gg:G.Ok) {s:S8} {z:Str} (hz:z=G.n0∨z=G.n1):(openR G.g.cs (st8 G s).2 G.pk).find? (fun r=>decide (r.word=z))≠none:=fun no=>by
 rcases hz with e | e
 ·rw[e,G.f0] at no;cases no
 ·rw[e,G8.f1 gg] at no;cases no
theorem look8 {G:G8} (gg:G.Ok) (s:S8):look G.g.ps (st8 G s).1=some (if s.1=true then G.tw else G.pk):=by
 unfold st8
 by_cases a:s.1=true
 ·rw[if_pos a,if_pos a];exact G8.l1 gg
 ·rw[if_neg a,if_neg a];exact G.l0
theorem thr_to {G:G8} {s:S8} (a:s.1=true) (v:Int):(G.n0,(st8 G s).2)=st8 G (nx8 G s (numT v))∧Wq.pl (pd8 G s) (G.t,1)=pd8 G (nx8 G s (numT v)):=by
 have e2:nx8 G s (numT v)=(false,s.2.1,s.2.2+1):=by unfold nx8;rw[if_pos a]
 rw[e2]
 refine⟨rfl,?_⟩
 unfold pd8
 rw[pl_one]
 show _=(G.t* ((s.2.2+1:Nat):Int),1)
 rw[Int.natCast_add,Int.mul_add]
 simp
theorem app_list (a b:Str):(a++b).cps.toList=a.cps.toList++b.cps.toList:=by
 show(a.cps++b.cps).toList=_
 rw[Array.toList_append]
theorem wrd_of {w:Str} {l:List Nat} (e:w.cps.toList=l) (h1:0<l.length) (h8:l.length≤8) (m:∀c∈l,97≤c∧c≤122):Wrd w:=by
 have zl:w.cps.toList.length=w.length:=Array.length_toList
 rw[e] at zl
 refine⟨by omega,by omega,?_,by rw[e];exact m⟩
 rw[hsh,PyData.canLay0]
 unfold PyData.strOk
 rw[←Array.all_toList,e]
 simp only[List.all_eq_true,decide_eq_true_eq]
 intro x hx
 have:=m x hx
 omega
theorem nms {c:Nat} {k:Int} (c0:97≤c) (c1:c≤122) (k0:0≤k) (k7:k<7) {w0 w1 w2:Str} (e0:w0=⟨(List.replicate k.toNat c).toArray⟩++Str.ofString "a"++ ⟨#[c]⟩) (e1:w1=⟨(List.replicate k.toNat c).toArray⟩++Str.ofString "b"++ ⟨#[c]⟩) (e2:w2=⟨(List.replicate k.toNat c).toArray⟩++Str.ofString "c"):Wrd w0∧Wrd w1∧Wrd w2∧w0≠w1:=by
 have la:(Str.ofString "a").cps.toList=[97]:=by decide +kernel
 have lb:(Str.ofString "b").cps.toList=[98]:=by decide +kernel
 have lc:(Str.ofString "c").cps.toList=[99]:=by decide +kernel
 have l0:w0.cps.toList=List.replicate k.toNat c++ [97]++ [c]:=by rw[e0,app_list,app_list,la]
 have l1:w1.cps.toList=List.replicate k.toNat c++ [98]++ [c]:=by rw[e1,app_list,app_list,lb]
 have l2:w2.cps.toList=List.replicate k.toNat c++ [99]:=by rw[e2,app_list,lc]
 have rp:∀x∈List.replicate k.toNat c,97≤x∧x≤122:=fun x hx=>by rw[List.eq_of_mem_replicate hx];exact⟨c0,c1⟩
 refine⟨wrd_of l0 (by simp) (by simp;omega) fun x hx=>?_,wrd_of l1 (by simp) (by simp;omega) fun x hx=>?_,wrd_of l2 (by simp) (by simp;omega) fun x hx=>?_,fun z=>?_⟩
 ·rcases List.mem_append.mp hx with hx | hx
  ·rcases List.mem_append.mp hx with hx | hx
   ·exact rp x hx
   ·rw[List.mem_singleton.mp hx];decide
  ·rw[List.mem_singleton.mp hx];exact⟨c0,c1⟩
 ·rcases List.mem_append.mp hx with hx | hx
  ·rcases List.mem_append.mp hx with hx | hx
   ·exact rp x hx
   ·rw[List.mem_singleton.mp hx];decide
  ·rw[List.mem_singleton.mp hx];exact⟨c0,c1⟩
 ·rcases List.mem_append.mp hx with hx | hx
  ·exact rp x hx
  ·rw[List.mem_singleton.mp hx];decide
 ·rw[z,l1,List.append_assoc,List.append_assoc] at l0
  have:=List.append_cancel_left l0
  cases this
theorem rep1 {H:Hp} {d:Dat} {v:V} (h:Rep H d v):RepL H [d] [v]:=repL_cons.mpr ⟨_,_,rfl,h,repL_nil.mpr rfl⟩
theorem rep2 {H:Hp} {d e:Dat} {v u:V} (h:Rep H d v) (k:Rep H e u):RepL H [d,e] [v,u]:=repL_cons.mpr ⟨_,_,rfl,h,rep1 k⟩
theorem rep_nn {H:Hp}:Rep H .non .non:=by rw[Rep]
theorem join_two (sep a b:Str) (r:List Str):Txt.join sep (a::b::r)=a++sep++Txt.join sep (b::r):=by
 unfold Txt.join
 rw[StrLaws.glued_eq_join,StrLaws.glued_eq_join]
 rfl
theorem join_one (sep a:Str):Txt.join sep [a]=a:=by
 unfold Txt.join
 rw[StrLaws.glued_eq_join]
 rfl
theorem join_len {sep:Str} {B:Nat}:∀{ts:List Str},(∀t∈ts,t.length≤B)→(Txt.join sep ts).length≤ts.length* (B+sep.length)
 | [],_=>by
  have:(Txt.join sep []).length=0:=rfl
  omega
 | [a],h=>by
  rw[join_one]
  have:=h a (by simp)
  simp
  omega
 | a::b::r,h=>by
  rw[join_two,strLen_append,strLen_append]
  have h1:=h a (by simp)
  have h2:=join_len (sep:=sep) (ts:=b::r) fun t ht=>h t (List.mem_cons_of_mem _ ht)
  rw[List.length_cons,Nat.succ_mul]
  omega
theorem at_last {α:Type} {xs:List α} {x:α}:atI (xs++ [x]) (-1)=some x:=by
 have h:ixN (xs++ [x]).length (-1)=some xs.length:=by
  unfold ixN
  rw[if_neg (by decide),List.length_append,List.length_singleton,if_pos (by omega)]
  congr 1
  omega
 unfold atI
 rw[h]
 show(xs++ [x])[xs.length]?=some x
 rw[List.getElem?_append_right (Nat.le_refl _),Nat.sub_self]
 rfl
noncomputable def spFig:Sp:=fun vs H Q _=>∃z,vs=[.str z]∧Fg z∧∀H',Same H H'→Q (.bl (decide (∀c∈z.cps.toList,c∈FIG.cps.toList))) H'
noncomputable def spWi:Sp:=fun vs H Q _=>∃z v,vs=[.str z,.int 0,.int 999]∧WdV z v∧∀H',Same H H'→Q v H'
noncomputable def spVop:Sp:=fun vs H Q _=>∃z v,vs=[.str z]∧WdV z v∧∀H',Same H H'→Q v H'
noncomputable def spTks (qP qC qn:Addr):Sp:=fun vs H Q E=>∃p z tl tb L G ws,vs=[.ref p,.str z]∧G8.Ok G∧P8 qP qC L H p tl tb G ws∧ok8 G (run8 G ws) z∧(ws.length=200→∀ad H',K3 p tl tb H H'→E (.ref qn) (some ad) H')∧(ws.length<200→∀H',K3 p tl tb H H'→P8 qP qC L H' p tl tb G (ws++ [z])→Q .non H')
noncomputable def spRdp (qP qC qn:Addr):Sp:=fun vs H Q E=>∃gv G ws,vs=[gv,.str (Txt.join (Str.ofString " ") ws)]∧Rep H (gmD (G8.g G)) gv∧G8.Ok G∧Oks G ws∧ws.length≤201∧(ws.length=201→∀ad H',Same H H'→E (.ref qn) (some ad) H')∧(ws.length≤200→∀p tl tb H',Same H H'→H p=none→P8 qP qC [p,tl,tb] H' p tl tb G ws→Q (.ref p) H')
noncomputable def spC (K:PySem.W.Frag):Sp:=fun vs H Q _=>∃a ns k,vs=[.ref a,.int k]∧SqL K H a (List.map V.int ns)∧0≤k∧k<1000∧∀n,Q (.int n) H
noncomputable def mixF (c m:Int):Int:=c % 2^64*11400714819323198485 % 2^64 / 2^11 % m
theorem mix_0 {c m:Int} (h:0<m):0≤mixF c m:=Int.emod_nonneg _ (by omega)
theorem mix_l {c m:Int} (h:0<m):mixF c m<m:=Int.emod_lt_of_pos _ h
noncomputable def spMix:Sp:=fun vs H Q _=>∃c m,vs=[.int c,.int m]∧0<m∧Q (.int (mixF c m)) H
noncomputable def spGam (K:PySem.W.Frag):Sp:=fun vs H Q _=>∃s ns,vs=[.ref s]∧SqL K H s (List.map V.int ns)∧∀q c1 c2 py nl n2 H' G,Same H H'→H' q=some (.tup [.ref c1,.ref c2,.int ((G8.sd G:Nat):Int),.ref py,.ref nl])→Rep H' (csD G.g.cs) (.ref c1)→Rep H' (psD G.g.ps) (.ref c2)→H' py=some (.tup [.int G.t,.int 1])→H' nl=some (.lst [.str G.n0,.str G.n1,.str n2])→G8.Ok G→Wrd n2→Q (.ref q) H'
noncomputable def OkV (G:G8) (s:S8) (v:V) (w:Str):Prop:=ok8 G s w∧((s.1=false∧v=.str w)∨(s.1=true∧∃k:Int,v=.int k∧1≤k∧k≤(G.sd:Int)∧w=numT k))
noncomputable def BdV (G:G8) (s:S8) (v:V):Prop:=(s.1=false∧∃k,v=.int k)∨(s.1=true∧∃z,v=.str z)
noncomputable def spRef (qP qC:Addr):Sp:=fun vs H Q _=>∃p v tl tb L G ws,vs=[.ref p,v]∧G8.Ok G∧P8 qP qC L H p tl tb G ws∧
 ((∃w,OkV G (run8 G ws) v w∧(ws.length<200→∀H',K3 p tl tb H H'→P8 qP qC L H' p tl tb G (ws++ [w])→Q (.str (Str.ofString "taken")) H')∧(ws.length=200→∀H',K3 p tl tb H H'→P8 qP qC L H' p tl tb G ws→Q (.str (Str.ofString "many")) H'))∨
  (BdV G (run8 G ws) v∧∀H',K3 p tl tb H H'→P8 qP qC L H' p tl tb G ws→Q (.str (Str.ofString "step")) H'))
noncomputable def spNop:Sp:=fun vs H Q _=>∃cv pv G ws,vs=[cv,pv,.str (Txt.join (Str.ofString " ") ws)]∧Rep H (csD (G8.g G).cs) cv∧Rep H (psD (G8.g G).ps) pv∧G8.Ok G∧Oks G ws∧ws.length=201∧∀H',Same H H'→Q (.bl true) H'
structure MadeP (qP qC:Addr) (H0 X Hb:Hp) (p tl tb:Addr) (g:Gm) (nm:Str):Prop where
 sm:Same H0 Hb
 np:H0 p=none∧H0 tl=none∧H0 tb=none
 ex:∃Y dp c sv pv,(∀a o,Y a=some o→a∉[p,tl,tb]∧Hb a=some o∧(H0 a=none∨X a=some o))∧Hb p=some (.ins qP dp (plF (.ref c) sv pv (.ref tl)))∧Hb tl=some (.lst [])∧Hb tb=some (.dK [])∧CoT qC Y c g tb∧StH Y sv nm (List.replicate g.cs.length 0)∧Rep Y (wrowD (0,1)) pv
theorem MadeP.ply {qP qC:Addr} {H0 X Hb Hf:Hp} {p tl tb:Addr} {g:Gm} {nm:Str} {L:List Addr} (h:MadeP qP qC H0 X Hb p tl tb g nm) (s:Same Hb Hf) (hL:∀a o,(H0 a=none∨X a=some o)→a∉[p,tl,tb]→Hb a=some o→a∉L) (m:p∈L∧tl∈L∧tb∈L) (al:∀a∈L,∃o,Hf a=some o∧∀vs,o≠.tup vs) (gg:GoodG g):PlyH qP qC L Hf p tl tb g (nm,List.replicate g.cs.length 0) (0,1) []:=by
 obtain⟨Y,dp,c,sv,pv,hY,h1,h2,h3,h4,h5,h6⟩:=h.ex
 have sY:Same Y (hidA L Hf):=fun a o e=>by
  obtain⟨y1,y2,y3⟩:=hY a o e
  rw[hidA_no (hL a o y3 y1 y2)]
  exact s _ _ y2
 exact⟨m,al,⟨dp,c,sv,pv,[],s _ _ h1,h4.mono sY,h5.mono sY,h6.mono sY,s _ _ h2,trivial⟩,⟨[],s _ _ h3,List.nodup_nil,(fun k hk=>by cases hk),fun nm v e=>by cases e⟩,gg,List.length_replicate,fun e he=>by cases he⟩
theorem made_of {qP qC:Addr} {H0 X H':Hp} {x dx c tl tb:Addr} {sv pv:V} {g:Gm} {nm:Str} (sx:Same X H0) (nx:H0 x=none) (ndx:H0 dx=none) (kH:∀a o,a≠x→upd (upd H0 dx (.own x)) x (.ins qP dx []) a=some o→H' a=some o) (ntl:upd (upd H0 dx (.own x)) x (.ins qP dx []) tl=none) (ntb:upd (upd H0 dx (.own x)) x (.ins qP dx []) tb=none)
  (h1:H' x=some (.ins qP dx (plF (.ref c) sv pv (.ref tl)))) (h2:H' tl=some (.lst [])) (h3:H' tb=some (.dK [])) (co:CoT qC (hidA [x,tl,tb] (nw (hid (upd (upd H0 dx (.own x)) x (.ins qP dx [])) x) X H')) c g tb) (st:StH (hidA [x,tl,tb] (nw (hid (upd (upd H0 dx (.own x)) x (.ins qP dx [])) x) X H')) sv nm (List.replicate g.cs.length 0)) (rp:Rep (hidA [x,tl,tb] (nw (hid (upd (upd H0 dx (.own x)) x (.ins qP dx [])) x) X H')) (wrowD (0,1)) pv):MadeP qP qC H0 X H' x tl tb g nm:=by
 have up:∀a o,H0 a=some o→upd (upd H0 dx (.own x)) x (.ins qP dx []) a=some o:=fun a o h=>by
  rw[upd_ne (fun z=>by rw[z,nx] at h;cases h),upd_ne (fun z=>by rw[z,ndx] at h;cases h)]
  exact h
 have s0:Same H0 H':=fun a o h=>kH a o (fun z=>by rw[z,nx] at h;cases h) (up a o h)
 have dn:∀{a},upd (upd H0 dx (.own x)) x (.ins qP dx []) a=none→H0 a=none:=fun {a} h=>by
  cases e:H0 a with
  | none=>rfl
  | some o=>rw[up a o e] at h;cases h
 refine⟨s0,⟨nx,dn ntl,dn ntb⟩,_,dx,c,sv,pv,fun a o h=>?_,h1,h2,h3,co,st,rp⟩
 obtain⟨c1,h⟩:=hidA_out h
 have ax:a≠x:=fun z=>c1 (by rw[z];simp)
 cases e:hid (upd (upd H0 dx (.own x)) x (.ins qP dx [])) x a with
 | none=>
  rw[nw_new e] at h
  rw[hid_ne ax] at e
  exact⟨c1,h,.inl (dn e)⟩
 | some o'=>
  unfold nw at h
  rw[e] at h
  exact⟨c1,s0 _ _ (sx _ _ h),.inr h⟩
theorem sc_is_figures:FnScope ["text"] ["text"] (defScope (top 15)):=⟨rfl,rfl,rfl,by decide +kernel,rfl,by decide +kernel,by decide +kernel⟩
theorem ok_fig (T:Txt K mg q_LuckError q_NoShare q_NoTable q_NoEnd q_TooMany q_NoStep q_NoPlay q_Course q_Play):Cal P w K mg base (CX1 P w) 1 "is_figures" ["text"] spFig:=by
 refine T.d_is_figures.cal (fun _ _ _ _ _ _=>us_1 fun _=>rfl) fun f fd F=>F.okC sc_is_figures (fun vs H Q E h=>?_) (fun cdv A outer s H vs Q E hr h=>?_)
 ·obtain⟨_,rfl,_⟩:=h;rfl
 ·refine(?_:let G_:Prop:=_;G_)
  intro G_
  obtain⟨z,rfl,⟨az,l1,l12⟩,kk⟩:=h
  dsimp only[G_]
  have nd:=sc_is_figures.nd
  refine⟨_,(pss_one (ps_ret (pe_and (pe_chain op_le op_le pe_int (pe_callB call_lenS (by rfl) T.z_len PySem.boot_len (pa_cons (pv 0) pa_nil (se rfl)) (he:=se rfl) (hpl:=na rfl)) (pe_globI rfl T.c_MOST_FIGURES)) (pe_one (pe_callB (call_all_lK (K:=K)) (by rfl) T.z_all rfl (pa_cons (pe_comp rfl (N:=["text"]) (so:=defScope (top 15)) (N':=["sign"]) (k:=1) (fr:=[]) rfl rfl ⟨rfl,by decide +kernel,by decide +kernel,by decide +kernel,rfl,by decide +kernel,by decide +kernel⟩ (pi_str (pv 0)) (fun _ _ _ _ _=>(pg_name (i:=0) (show(["sign"]:List Str).Nodup by decide +kernel) rfl (Or.inl rfl))) (fun _ _ _ _ _=>pts_nil)
   (fun _ _ _ _ _=>(pe_cmpR op_in_str (pv 0) (pe_globS rfl T.c_FIGURES) rfl))) pa_nil (se rfl)) (he:=se rfl) (hpl:=na rfl)))))),?_⟩
  have sl:=sizeLine_eq
  have zl:z.cps.toList.length=z.length:=Array.length_toList
  simp_all only[]
  refine⟨by omega,?_⟩
  rw[if_pos (by omega),if_pos (by omega)]
  refine⟨az,?_⟩
  have S:Src (Its z) (Same H) z.cps.toList.length (fun i x H H3=>H3=H∧∃c,z.cps[i]?=some c∧x=.str ⟨#[c]⟩):=by rw[Array.length_toList];exact src_str
  refine comp_vals z.cps.toList (fun c=>some (.bl (decide (c∈FIG.cps.toList)))) S (fun _ _ _ _ h=>h.1) (by omega) ?_ ?_
  ·intro i c x ec p4_ Y N y1 _
   refine(?_:let G_:Prop:=_;G_)
   intro G_
   obtain⟨_,c',ec',rfl⟩:=p4_
   dsimp only[G_]
   rw[Array.getElem?_toList] at ec
   rw[ec] at ec'
   cases ec'
   simp_all only[tYes,StrLaws.found_one]
   exact y1 _ rfl
  ·intro D n1 n2
   rw[List.filterMap_eq_map']
   refine⟨z.cps.toList.map fun c=>decide (c∈FIG.cps.toList),?_,?_⟩
   ·rw[List.map_map];exact SqL.of upd_same
   ·have e:(z.cps.toList.map fun c=>decide (c∈FIG.cps.toList)).all id=decide (∀c∈z.cps.toList,c∈FIG.cps.toList):=by
     rw[Bool.eq_iff_iff,decide_eq_true_eq,List.all_map,List.all_eq_true]
     exact⟨fun a c hc=>by simpa using a c hc,fun d c hc=>by simpa using d c hc⟩
    rw[e]
    exact kk _ (same_upd n2)
theorem sc_whole_in:FnScope ["text","least","most","number"] ["text","least","most"] (defScope (top 16)):=⟨rfl,rfl,rfl,by decide +kernel,rfl,by decide +kernel,by decide +kernel⟩
theorem ok_wi (T:Txt K mg q_LuckError q_NoShare q_NoTable q_NoEnd q_TooMany q_NoStep q_NoPlay q_Course q_Play):Cal P w K mg base (CX1 P w) 2 "whole_in" ["text","least","most"] spWi:=by
 have c_is_figures:Cal P w K mg base (CX1 P w) 1 "is_figures" ["text"] spFig:=ok_fig T
 refine T.d_whole_in.cal (fun _ _ _ _ _ _=>us_3 fun _ _ _=>rfl) fun f fd F=>F.okC sc_whole_in (fun vs H Q E h=>?_) (fun cdv A outer s H vs Q E hr h=>?_)
 ·obtain⟨_,_,rfl,_⟩:=h;rfl
 ·refine(?_:let G_:Prop:=_;G_)
  intro G_
  obtain⟨z,v,rfl,⟨fz,wv⟩,kk⟩:=h
  dsimp only[G_]
  have nd:=sc_whole_in.nd
  refine⟨_,(pss_cons (ps_if (pt_not (pt_val (pe_cal c_is_figures (hr.mono (by decide)) rfl strictP.pass (pa_cons (pv 0) pa_nil (se rfl)) (he:=se rfl) (hpl:=na rfl)))) (pss_one (ps_ret pe_non))
   pss_nil)
  (pss_cons (ps_set (i:=3) nd rfl (Or.inl rfl) (pe_callTy call_int_s (by rfl) T.z_int rfl (pa_cons (pv 0) pa_nil (se rfl)) (he:=se rfl) (hpl:=na rfl)))
  (pss_one (ps_ret (pe_ifExp (PW.pt (pw_and (pt_cmpR op_eq (pe_callTy call_str_i (by rfl) T.z_str rfl (pa_cons (pv 3) pa_nil (se rfl)) (he:=se rfl) (hpl:=na rfl)) (pv 0) (nomark _)) (pw_and1 (pt_chain op_le op_le (pv 1) (pv 3) (pv 2))))) (pv 3) pe_non))))),?_⟩
  refine(?_:let q0_:TS:=_;let q1_:TS:=_;let q2_:TS:=_;tSeq q0_ (tSeq q1_ q2_) _ _ _)
  intro q0_ q1_ q2_
  simp_all only[spFig]
  refine⟨fz,fun H1 s1=>?_⟩
  rcases wv with ⟨k,k0,k1,rfl,rfl⟩ | ⟨⟨c,hc,nc⟩,rfl⟩
  ·rw[if_neg (fun h=>h (num_b k0 k1).2.1)]
   refine⟨(by have:=(num_b k0 k1).1.2.2;omega),k,PySem.W.KIN.num_reads k0 (by omega),Nat.lt_of_le_of_lt (Nat.log2_le_self _) (by omega),?_⟩
   rw[if_pos rfl,if_pos (by omega),if_pos (by omega)]
   exact kk _ s1
  ·rw[if_pos (fun h=>nc (h c hc))]
   exact kk _ s1
theorem sc_value_of_plays:FnScope ["word"] ["word"] (defScope (top 46)):=⟨rfl,rfl,rfl,by decide +kernel,rfl,by decide +kernel,by decide +kernel⟩
theorem ok_vop (T:Txt K mg q_LuckError q_NoShare q_NoTable q_NoEnd q_TooMany q_NoStep q_NoPlay q_Course q_Play):Cal P w K mg base (CX1 P w) 3 "value_of_plays" ["word"] spVop:=by
 have c_whole_in:Cal P w K mg base (CX1 P w) 2 "whole_in" ["text","least","most"] spWi:=ok_wi T
 refine T.d_value_of_plays.cal (fun _ _ _ _ _ _=>us_1 fun _=>rfl) fun f fd F=>F.okC sc_value_of_plays (fun vs H Q E h=>?_) (fun cdv A outer s H vs Q E hr h=>?_)
 ·obtain⟨_,_,rfl,_⟩:=h;rfl
 ·refine(?_:let G_:Prop:=_;G_)
  intro G_
  obtain⟨z,v,rfl,wv,kk⟩:=h
  dsimp only[G_]
  have nd:=sc_value_of_plays.nd
  refine⟨_,(pss_one (ps_ret (pe_cal c_whole_in (hr.mono (by decide)) rfl strictP.pass (pa_cons (pv 0) (pa_cons pe_int (pa_cons (pe_globI rfl T.c_MOST_VALUE) pa_nil (se rfl)) (se rfl)) (se rfl)) (he:=se rfl) (hpl:=na rfl)))),?_⟩
  simp_all only[spWi]
  exact⟨v,wv,kk⟩
theorem sc_take_step:FnScope ["play","word","value","refusal"] ["play","word"] (defScope (top 48)):=⟨rfl,rfl,rfl,by decide +kernel,rfl,by decide +kernel,by decide +kernel⟩
theorem ok_tks (T:Txt K mg q_LuckError q_NoShare q_NoTable q_NoEnd q_TooMany q_NoStep q_NoPlay q_Course q_Play):Cal P w K mg base (CX1 P w) 10 "take_step" ["play","word"] (spTks q_Play q_Course q_NoPlay):=by
 have c_value_of_plays:Cal P w K mg base (CX1 P w) 3 "value_of_plays" ["word"] spVop:=ok_vop T
 have m_Play_say:MtCal P w K mg base (CX1 P w) 5 q_Play "say" ["self","word"] (spSay q_Play q_Course q_NoStep q_TooMany):=ok_say T
 have m_Play_throw:MtCal P w K mg base (CX1 P w) 9 q_Play "throw" ["self","value"] (spThX q_Play q_Course q_NoStep q_TooMany):=ok_thv T
 have hh:=T.x_NoStep
 have hh:=T.x_TooMany
 have hh:=T.e_NoStep_NoStep
 have hh:=T.f_NoStep_TooMany
 have hh:=T.f_TooMany_NoStep
 have hh:=T.e_TooMany_TooMany
 refine T.d_take_step.cal (fun _ _ _ _ _ _=>us_2 fun _ _=>rfl) fun f fd F=>F.okX sc_take_step (fun vs H Q E h=>?_) (fun cdv A outer s H vs Q E hr h=>?_)
 ·obtain⟨_,_,_,_,_,_,_,rfl,_⟩:=h;rfl
 ·refine(?_:let G_:Prop:=_;G_)
  intro G_
  obtain⟨p,z,tl,tb,L,G,ws,rfl,gg,p8,okz,kE,kQ⟩:=h
  dsimp only[G_]
  have nd:=sc_take_step.nd
  have hd0:A.handled=none:=hr.hd
  refine⟨_,(pss_cons (ps_set (i:=2) nd rfl (Or.inl rfl) (pe_cal c_value_of_plays (hr.mono (by decide)) rfl strictP.pass (pa_cons (pv 1) pa_nil (se rfl)) (he:=se rfl) (hpl:=na rfl)))
  (pss_one (ps_tryF (i:=3) (pt_cmpR op_isN (pv 2) pe_non (nomark _)) m_Play_say T.cl_Play (pv 0) (hr.mono (by decide)) (pa_cons (pv 1) pa_nil (se rfl)) m_Play_throw T.cl_Play (pv 0) (hr.mono (by decide)) (pa_cons (pv 2) pa_nil (se rfl)) rfl rfl rfl outs_of rfl T.k_NoStep rfl T.k_TooMany nd rfl rfl rfl T.k_NoPlay T.x_NoPlay (fun ad=>(pa_cons pe_str pa_nil (se rfl))) (he:=se rfl) (hpl:=na rfl) (he2:=se rfl) (hpl2:=na rfl) (he3:=se rfl) (hpl3:=na rfl)))),?_⟩
  have lk0:∀{k:Str} {a b c d:V},(k==Str.ofString "course")=false→(k==Str.ofString "state")=false→(k==Str.ofString "paid")=false→(k==Str.ofString "trail")=false→List.lookup k (plF a b c d)=none:=fun h1 h2 h3 h4=>by
   unfold plF
   rw[lk_ne h1,lk_ne h2,lk_ne h3,lk_ne h4]
   rfl
  have xn:PySem.W.exmAny K (Value.ref q_NoStep) [Value.ref q_NoStep,Value.ref q_TooMany]=some true:=exm_two T.e_NoStep_NoStep T.f_NoStep_TooMany
  have xm:PySem.W.exmAny K (Value.ref q_TooMany) [Value.ref q_NoStep,Value.ref q_TooMany]=some true:=exm_two T.f_TooMany_NoStep T.e_TooMany_TooMany
  obtain⟨wf,nb⟩:=ok_word gg okz
  have hpd:=pd_hf gg p8.len
  have trl:=tr_length G ws
  have sl:=sizeLine_eq
  by_cases at_:(run8 G ws).1=true
  ·obtain⟨v,v1,v2,rfl⟩:∃v:Int,1≤v∧v≤(G.sd:Int)∧z=numT v:=by
    unfold ok8 at okz
    rwa [if_pos at_] at okz
   have s20:=gg.sd.2
   simp_all only[spVop,tTryF,xFrom,tMeth,spSay,spThX]
   refine⟨_,⟨wf,.inl ⟨v,by omega,by omega,rfl,rfl⟩⟩,fun H1 s1=>?_⟩
   rw[if_neg (by intro h;cases h)]
   have p1:=p8.same s1
   refine(?_:let G_:Prop:=_;G_)
   intro G_
   obtain⟨dp,c,sv',pv'',xs',hpl,_⟩:=p1.ply.ex
   dsimp only[G_]
   refine⟨_,_,hpl,lk0 (by decide +kernel) (by decide +kernel) (by decide +kernel) (by decide +kernel),v,rfl,tl,tb,L,G.g,_,_,_,p1.ply,by have:=p8.len;omega,G.tw,by rw[look8 gg,if_pos at_],fun pool t b rs e=>?_,hpd,fun no=>?_,fun ps t b rs e hv=>?_⟩
   ·injection e with e
    exact⟨_,e.symm,G8.gl gg⟩
   ·exact absurd (G8.vals.mpr (.inl ⟨v1,v2,by omega⟩)) (no _ _ _ _ rfl)
   ·injection e with e3 e4 e5 e6
    have e3:=pts_inj e3
    subst e3 e4 e5 e6
    refine⟨by omega,by omega,hfb_one _ (by have:=gg.t;omega) (by have:=gg.t;omega),_,G.ro (by omega) (by omega),1,G.n0,G.a0 _,fun h200 H2 k2 p2=>⟨⟨_,rfl,T.x_TooMany⟩,xm,fun ad nad=>⟨by omega,upd_same,kE (by omega) ad _ ((K3.of s1).trans (k2.trans (.of (same_upd nad))))⟩⟩,fun h200 H2 k2 p2=>kQ (by omega) _ ((K3.of s1).trans k2) ⟨?_,p8.ok.snoc okz,by rw[List.length_append];show ws.length+1≤200;omega⟩⟩
    rw[run_snoc,tr_snoc,←(thr_to at_ v).1,←(thr_to at_ v).2]
    exact p2
  ·have hz:z=G.n0∨z=G.n1:=by
    unfold ok8 at okz
    rwa [if_neg at_] at okz
   have wz:Wrd z:=by
    rcases hz with e | e <;>rw[e]
    ·exact gg.w0
    ·exact gg.w1
   obtain⟨ch,hch⟩:∃c,c∈z.cps.toList:=by
    cases e:z.cps.toList with
    | nil=>
     have:z.length=0:=by rw[←show z.cps.toList.length=z.length from Array.length_toList,e];rfl
     have:=wz.1
     omega
    | cons a r=>exact⟨a,List.mem_cons_self⟩
   simp_all only[spVop,tTryF,xFrom,tMeth,spSay,spThX]
   refine⟨_,⟨wf,.inr ⟨⟨ch,hch,fun hf=>by have:=fig_lo ch hf;have:=(wz.2.2.2 ch hch).1;omega⟩,rfl⟩⟩,fun H1 s1=>?_⟩
   rw[if_pos rfl]
   have p1:=p8.same s1
   refine(?_:let G_:Prop:=_;G_)
   intro G_
   obtain⟨dp,c,sv',pv'',xs',hpl,_⟩:=p1.ply.ex
   dsimp only[G_]
   refine⟨_,_,hpl,lk0 (by decide +kernel) (by decide +kernel) (by decide +kernel) (by decide +kernel),tl,tb,L,G.g,_,_,_,p1.ply,by have:=p8.len;omega,G.pk,by rw[look8 gg,if_neg at_],hpd,fun no=>absurd no (say_no gg hz),fun r er=>?_⟩
   refine(?_:let G_:Prop:=_;G_)
   intro G_
   obtain⟨nm',k1,k2,k3⟩:=say_to gg at_ hz er
   dsimp only[G_]
   refine⟨1,nm',k1,fun h200 H2 s2=>⟨⟨_,rfl,T.x_TooMany⟩,xm,fun ad nad=>⟨by omega,upd_same,kE (by omega) ad _ (.of (s1.trans (s2.trans (same_upd nad))))⟩⟩,fun h200 H2 k9 p2=>kQ (by omega) _ ((K3.of s1).trans k9) ⟨?_,p8.ok.snoc okz,by rw[List.length_append];show ws.length+1≤200;omega⟩⟩
   rw[run_snoc,tr_snoc,←k2,←k3]
   exact p2
theorem sc_read_play:FnScope ["game","text","play","words","word"] ["game","text"] (defScope (top 49)):=⟨rfl,rfl,rfl,by decide +kernel,rfl,by decide +kernel,by decide +kernel⟩
theorem ok_rdp (T:Txt K mg q_LuckError q_NoShare q_NoTable q_NoEnd q_TooMany q_NoStep q_NoPlay q_Course q_Play):Cal P w K mg base (CX1 P w) 11 "read_play" ["game","text"] (spRdp q_Play q_Course q_NoPlay):=by
 have c_take_step:Cal P w K mg base (CX1 P w) 10 "take_step" ["play","word"] (spTks q_Play q_Course q_NoPlay):=ok_tks T
 have m_Play:MkCal P w K mg base (CX1 P w) 5 "Play" q_Play ["self","game"] (spPin q_Play q_Course):=ok_pin T
 refine T.d_read_play.cal (fun _ _ _ _ _ _=>us_2 fun _ _=>rfl) fun f fd F=>F.okX sc_read_play (fun vs H Q E h=>?_) (fun cdv A outer s H vs Q E hr h=>?_)
 ·obtain⟨_,_,_,rfl,_⟩:=h;rfl
 ·refine(?_:let G_:Prop:=_;G_)
  intro G_
  obtain⟨gv,G,ws,rfl,rg,gg,oks,l201,kE,kQ⟩:=h
  dsimp only[G_]
  have nd:=sc_read_play.nd
  have hd0:A.handled=none:=hr.hd
  refine⟨_,(pss_cons (ps_if (pt_not (pt_val (pe_callB (call_isTK (K:=K)) (by rfl) T.z_isinstance rfl (pa_cons (pv 1) (pa_cons (pe_bltn (v:=V.ty "str") rfl T.z_str rfl rfl) pa_nil (se rfl)) (se rfl)) (he:=se rfl) (hpl:=na rfl)))) (pss_one (ps_raise rfl T.k_NoPlay T.x_NoPlay hd0 (pa_cons pe_str pa_nil (se rfl)) (he:=se rfl) (hpl:=na rfl)))
   pss_nil)
  (pss_cons (ps_set (i:=2) nd rfl (Or.inl rfl) (pe_mk m_Play (hr.mono (by decide)) rfl strictP.pass (pa_cons (pv 0) pa_nil (se rfl)) (he:=se rfl) (hpl:=na rfl)))
  (pss_cons (ps_set (i:=3) nd rfl (Or.inl rfl) (pe_ifExp (pt_cmpR op_ne (pv 1) pe_str (nomark _)) (pe_bm PySem.F.plainAttrs_str PySem.F.slot_str_split PySem.F.type_str_split mt_split (pv 1) (pa_cons pe_str pa_nil (se rfl))) (pe_lst pa_nil)))
  (pss_cons (ps_for PassesOwn.leaving rfl (pi_listK (K:=K) (pv 3)) (pg_name (i:=4) nd rfl (Or.inl rfl)) (pss_one (ps_expr (pe_cal c_take_step (hr.mono (by decide)) rfl xe_pass (pa_cons (pv 2) (pa_cons (pv 4) pa_nil (se rfl)) (se rfl)) (he:=se rfl) (hpl:=na rfl)))))
  (pss_one (ps_ret (pv 2))))))),?_⟩
  refine(?_:let q0_:TS:=_;let q1_:TS:=_;let q2_:TS:=_;let q3_:TS:=_;let q4_:TS:=_;tSeq q0_ (tSeq q1_ (tSeq q2_ (tSeq q3_ q4_))) _ _ _)
  intro q0_ q1_ q2_ q3_ q4_
  have sl:=sizeLine_eq
  have wf:=oks_words gg oks
  have jl:(Txt.join (Str.ofString " ") ws).length≤1000000:=by
   have:=join_len (sep:=Str.ofString " ") (B:=12) (ts:=ws) fun w hw=>(wf w hw).1.2.2
   rw[show(Str.ofString " ").length=1 by decide +kernel] at this
   omega
  change tSeq _ _ _ [some gv,some (.str (Txt.join (Str.ofString " ") ws)),none,none,none] H
  refine seq_c (fun N=>N [some gv,some (.str (Txt.join (Str.ofString " ") ws)),none,none,none] H) ?_ (fun N hN=>?_)
  case refine_2=>
   simp_all only[]
   refine⟨_,.str _,true,by rfl,?_⟩
   rw[if_neg (by decide)]
   exact hN
  change tSeq _ _ _ [some gv,some (.str (Txt.join (Str.ofString " ") ws)),none,none,none] H
  refine seq_c (fun N=>∀p tl tb H1,Same H H1→H p=none→H tl=none→H tb=none→P8 q_Play q_Course [p,tl,tb] H1 p tl tb G []→N [some gv,some (.str (Txt.join (Str.ofString " ") ws)),some (.ref p),none,none] H1) ?_ (fun N hN=>?_)
  case refine_2=>
   simp_all only[tMake,spPin]
   intro x dx nx ndx ne
   have su:Same H (upd (upd H dx (HO.own x)) x (HO.ins q_Play dx [])):=fun a o h=>by
    rw[upd_ne (fun z=>by rw[z,nx] at h;cases h),upd_ne (fun z=>by rw[z,ndx] at h;cases h)]
    exact h
   refine⟨dx,upd_same,H,su,nx,G.g,rg,G8.good gg,1,G.n0,rfl,G.n0,G.a0 _,fun c sv pv' tl tb H' kH ntl ntb h1 h2 h3 co st rp=>?_⟩
   have md:=made_of (Same.refl H) nx ndx kH ntl ntb h1 h2 h3 co st rp
   refine hN x tl tb H' md.sm md.np.1 md.np.2.1 md.np.2.2 ⟨?_,Oks.nil,Nat.zero_le _⟩
   have e:pd8 G (run8 G [])=(0,1):=by
    show(G.t* ((0:Nat):Int),(1:Int))=_
    simp
   rw[e]
   exact md.ply (Same.refl _) (fun a o _ n _=>n) ⟨by simp,by simp,by simp⟩ (fun a ha=>by
    simp only[List.mem_cons,List.not_mem_nil,or_false] at ha
    rcases ha with rfl | rfl | rfl
    ·exact⟨_,h1,fun _ z=>by cases z⟩
    ·exact⟨_,h2,fun _ z=>by cases z⟩
    ·exact⟨_,h3,fun _ z=>by cases z⟩) (G8.good gg)
  rintro p tl tb H1 s1 np ntl ntb p1
  change tSeq _ _ _ [some gv,some (.str (Txt.join (Str.ofString " ") ws)),some (.ref p),none,none] H1
  refine seq_c (fun N=>∀l H2,Same H1 H2→H1 l=none→H2 l=some (.lst (List.map V.str ws))→N [some gv,some (.str (Txt.join (Str.ofString " ") ws)),some (.ref p),some (.ref l),none] H2) ?_ (fun N hN=>?_)
  case refine_2=>
   simp_all only[]
   cases ws with
   | nil=>
    rw[if_neg (by intro h;exact h rfl)]
    exact⟨by omega,fun l nl=>hN l _ (same_upd nl) nl upd_same⟩
   | cons w0 r=>
    have e32:Str.ofString " "=⟨#[32]⟩:=by decide +kernel
    have ne:¬Txt.join (Str.ofString " ") (w0::r)=Str.ofString "":=fun z=>by
     have z:=congrArg Str.length z
     rw[show(Str.ofString "").length=0 by decide +kernel] at z
     have:=(wf w0 List.mem_cons_self).1.2.1
     cases r with
     | nil=>rw[join_one] at z;omega
     | cons b r=>rw[join_two,Str.length_append,Str.length_append] at z;omega
    rw[if_pos ne]
    refine⟨rfl,32,e32,jl,fun l nl=>hN l _ (same_upd nl) nl ?_⟩
    rw[upd_same,e32,split_join 32 (by simp) fun w hw=>(wf w hw).2]
  rintro l H2 s2 nl hl
  change tSeq _ _ _ [some gv,some (.str (Txt.join (Str.ofString " ") ws)),some (.ref p),some (.ref l),none] H2
  refine seq_c (fun N=>∀x H3,ws.length≤200→Same H H3→P8 q_Play q_Course [p,tl,tb] H3 p tl tb G ws→N [some gv,some (.str (Txt.join (Str.ofString " ") ws)),some (.ref p),some (.ref l),x] H3) ?_ (fun N hN=>?_)
  case refine_2=>
   simp_all only[]
   refine⟨⟨_,SqL.of hl⟩,?_⟩
   have k3s:∀{Ha Hb},Same H Ha→K3 p tl tb Ha Hb→Same H Hb:=fun {Ha Hb} sa k a o h=>k a o (fun z=>by rw[z,np] at h;cases h) (fun z=>by rw[z,ntl] at h;cases h) (fun z=>by rw[z,ntb] at h;cases h) (sa _ _ h)
   refine(?_:let G_:Prop:=_;G_)
   intro G_
   obtain⟨dp,c,sv',pv'',xs',hpl,_,_,_,htl,_⟩:=p1.ply.ex
   obtain⟨kvs,htb,_⟩:=id p1.ply.tbs
   dsimp only[G_]
   have lp:l≠p:=fun z=>by rw[z,hpl] at nl;cases nl
   have ltb:l≠tb:=fun z=>by rw[z,htb] at nl;cases nl
   have ltl:l≠tl:=fun z=>by rw[z,htl] at nl;cases nl
   refine for_src (src_list (Ok:=fun H'=>H' l=some (.lst (List.map V.str ws))) (fun H' e=>SqL.of e)) (fun i σ H'=>H' l=some (.lst (List.map V.str ws))∧Same H H'∧i≤200∧P8 q_Play q_Course [p,tl,tb] H' p tl tb G (ws.take i)∧∃x,σ=[some gv,some (.str (Txt.join (Str.ofString " ") ws)),some (.ref p),some (.ref l),x]) ⟨hl,s1.trans s2,Nat.zero_le _,p1.same s2,_,rfl⟩ (fun _ _ _ _ h=>h.1) ?_ ?_
   ·intro i x σ H' H'' hi p6_ p7_
    refine(?_:let G_:Prop:=_;G_)
    intro G_
    obtain⟨hl',sH,i200,p8',y,rfl⟩:=p6_
    obtain⟨rfl,ex⟩:=p7_
    dsimp only[G_]
    rw[List.length_map] at hi
    rw[List.getElem?_map,List.getElem?_eq_getElem hi] at ex
    cases ex
    have e:=List.getElem?_eq_getElem hi
    have tk:ws.take (i+1)=ws.take i++ [ws[i]]:=take_snoc hi
    have lt:(ws.take i).length=i:=by rw[List.length_take];omega
    simp_all only[spTks]
    refine⟨tl,tb,_,G,gg,_,p8',oks i _ e,fun h ad H3 k3=>kE (by omega) ad H3 (k3s sH k3),fun h H3 k3 p9=>⟨k3 _ _ lp ltl ltb hl',k3s sH k3,by omega,?_,_,rfl⟩⟩
    rw[tk]
    exact p9
   ·intro σ H' p2_
    refine(?_:let G_:Prop:=_;G_)
    intro G_
    obtain⟨hl',sH,i200,p8',y,rfl⟩:=p2_
    dsimp only[G_]
    rw[List.length_map] at i200 p8'
    rw[List.take_of_length_le (Nat.le_refl _)] at p8'
    exact hN _ _ i200 sH p8'
  rintro x H3 l200 s3 p3
  simp_all only[]
  exact kQ l200 p tl tb H3 s3 np p3
theorem sc__law_cell:FnScope ["_law_script","_law_k","_law_number"] ["_law_script","_law_k"] (defScope (top 51)):=⟨rfl,rfl,rfl,by decide +kernel,rfl,by decide +kernel,by decide +kernel⟩
theorem ok_cell (T:Txt K mg q_LuckError q_NoShare q_NoTable q_NoEnd q_TooMany q_NoStep q_NoPlay q_Course q_Play):Cal P w K mg base (CX1 P w) 1 "_law_cell" ["_law_script","_law_k"] (spC K):=by
 refine T.d__law_cell.cal (fun _ _ _ _ _ _=>us_2 fun _ _=>rfl) fun f fd F=>F.okC sc__law_cell (fun vs H Q E h=>?_) (fun cdv A outer s H vs Q E hr h=>?_)
 ·obtain⟨_,_,_,rfl,_⟩:=h;rfl
 ·refine(?_:let G_:Prop:=_;G_)
  intro G_
  obtain⟨a,ns,k,rfl,hS,k0,k1,kk⟩:=h
  dsimp only[G_]
  have nd:=sc__law_cell.nd
  refine⟨_,(pss_cons (ps_if (pt_cmpR op_lt (pv 1) (pe_callB (call_lenQK (K:=K)) (by rfl) T.z_len PySem.boot_len (pa_cons (pv 0) pa_nil (se rfl)) (he:=se rfl) (hpl:=na rfl)) (nomark _)) (pss_one (ps_ret (pe_ix (ix_listSK (K:=K)) (pv 0) (pv 1) (fun _ _=>rfl))))
   pss_nil)
  (pss_cons (ps_set (i:=2) nd rfl (Or.inl rfl) (pe_op op_add (pe_op op_mulB (pv 1) pe_int) pe_int))
  (pss_cons (ps_if (pt_cmpR op_gt (pe_callB (call_lenQK (K:=K)) (by rfl) T.z_len PySem.boot_len (pa_cons (pv 0) pa_nil (se rfl)) (he:=se rfl) (hpl:=na rfl)) pe_int (nomark _)) (pss_one (ps_set (i:=2) nd rfl (Or.inl rfl) (pe_op op_add (pe_op op_mulB (pe_op op_modB (pe_ix (ix_listSK (K:=K)) (pv 0) (pe_op op_modB (pe_op op_mulB (pv 1) pe_int) (pe_callB (call_lenQK (K:=K)) (by rfl) T.z_len PySem.boot_len (pa_cons (pv 0) pa_nil (se rfl)) (he:=se rfl) (hpl:=na rfl))) (fun _ _=>rfl)) pe_int) pe_int) (pe_op op_mulB (pe_op op_mulB (pv 1) (pv 1)) pe_int))))
   pss_nil)
  (pss_one (ps_ret (pe_op op_modB (pe_op op_mulB (pv 2) (pv 2)) pe_int)))))),?_⟩
  refine(?_:let q0_:TS:=_;let q1_:TS:=_;let q2_:TS:=_;let q3_:TS:=_;tSeq q0_ (tSeq q1_ (tSeq q2_ q3_)) _ _ _)
  intro q0_ q1_ q2_ q3_
  simp_all only[rIxQ]
  have j2:k*k≤1000000:=Int.le_trans (Int.mul_le_mul (show k≤1000 by omega) (show k≤1000 by omega) k0 (by decide)) (by decide)
  have j3:0≤k*k:=Int.mul_nonneg k0 k0
  refine⟨ns,hS,ite2 (fun c=>⟨ns,hS,k0,c,kk _⟩) (fun c=>⟨mulOkL (by omega) (by omega),ns,hS,ite2 (fun z=>?_) (fun z=>?_)⟩)⟩
  ·have m1:=Int.emod_nonneg (ns.getD (k*5 % (ns.length:Int)).toNat 0) (show(2147483647:Int)≠0 by decide)
   have m2:=Int.emod_lt_of_pos (ns.getD (k*5 % (ns.length:Int)).toNat 0) (show(0:Int)<2147483647 by decide)
   exact⟨mulOkL (by omega) (by omega),ns,hS,z,ns,hS,Int.emod_nonneg _ (by omega),Int.emod_lt_of_pos _ z,by decide,mulOkR,mulOkL (by omega) (by omega),mulOkL (by omega) (by omega),mulOkL (by omega) (by omega),by decide,kk _⟩
  ·exact⟨mulOkL (by omega) (by omega),by decide,kk _⟩
theorem sc__law_mixed:FnScope ["_law_cell_here","_law_many"] ["_law_cell_here","_law_many"] (defScope (top 52)):=⟨rfl,rfl,rfl,by decide +kernel,rfl,by decide +kernel,by decide +kernel⟩
theorem ok_mix (T:Txt K mg q_LuckError q_NoShare q_NoTable q_NoEnd q_TooMany q_NoStep q_NoPlay q_Course q_Play):Cal P w K mg base (CX1 P w) 1 "_law_mixed" ["_law_cell_here","_law_many"] spMix:=by
 refine T.d__law_mixed.cal (fun _ _ _ _ _ _=>us_2 fun _ _=>rfl) fun f fd F=>F.okC sc__law_mixed (fun vs H Q E h=>?_) (fun cdv A outer s H vs Q E hr h=>?_)
 ·obtain⟨_,_,rfl,_⟩:=h;rfl
 ·refine(?_:let G_:Prop:=_;G_)
  intro G_
  obtain⟨c,m,rfl,m0,kk⟩:=h
  dsimp only[G_]
  have nd:=sc__law_mixed.nd
  refine⟨_,(pss_one (ps_ret (pe_op op_modB (pe_op op_fdivB (pe_op op_modB (pe_op op_mulB (pe_op op_modB (pv 0) (pe_op op_pow pe_int pe_int)) pe_int) (pe_op op_pow pe_int pe_int)) (pe_op op_pow pe_int pe_int)) (pv 1)))),?_⟩
  simp_all only[]
  have h1:=Int.emod_nonneg c (show((2:Int)^64)≠0 by decide)
  have h2:=Int.emod_lt_of_pos c (show(0:Int)<2^64 by decide)
  exact⟨by decide,by decide,by decide,by decide,mulOkL (by omega) (by omega),by decide,by decide,by decide,by decide,by decide,by decide,by decide,CDivB.lit,m0,kk⟩
theorem sc__law_game:FnScope ["_law_script","_law_letter","_law_size","_law_names","_law_sides","_law_pay","_law_throw","_law_ways","_law_places"] ["_law_script"] (defScope (top 53)):=⟨rfl,rfl,rfl,by decide +kernel,rfl,by decide +kernel,by decide +kernel⟩
theorem ok_gam (T:Txt K mg q_LuckError q_NoShare q_NoTable q_NoEnd q_TooMany q_NoStep q_NoPlay q_Course q_Play):Cal P w K mg base (CX1 P w) 2 "_law_game" ["_law_script"] (spGam K):=by
 have c__law_cell:Cal P w K mg base (CX1 P w) 1 "_law_cell" ["_law_script","_law_k"] (spC K):=ok_cell T
 refine T.d__law_game.cal (fun _ _ _ _ _ _=>us_1 fun _=>rfl) fun f fd F=>F.okC sc__law_game (fun vs H Q E h=>?_) (fun cdv A outer s H vs Q E hr h=>?_)
 ·obtain⟨_,_,rfl,_⟩:=h;rfl
 ·refine(?_:let G_:Prop:=_;G_)
  intro G_
  obtain⟨sa,ns,rfl,hS,kk⟩:=h
  dsimp only[G_]
  have nd:=sc__law_game.nd
  refine⟨_,(pss_cons (ps_set (i:=1) nd rfl (Or.inl rfl) (pe_ix ix_strH pe_str (pe_op op_modB (pe_cal c__law_cell (hr.mono (by decide)) rfl strictP.pass (pa_cons (pv 0) (pa_cons pe_int pa_nil (se rfl)) (se rfl)) (he:=se rfl) (hpl:=na rfl)) pe_int) (fun _ _=>rfl)))
  (pss_cons (ps_set (i:=2) nd rfl (Or.inl rfl) (pe_op op_modB (pe_cal c__law_cell (hr.mono (by decide)) rfl strictP.pass (pa_cons (pv 0) (pa_cons pe_int pa_nil (se rfl)) (se rfl)) (he:=se rfl) (hpl:=na rfl)) pe_int))
  (pss_cons (ps_set (i:=3) nd rfl (Or.inl rfl) (pe_lst (pa_cons (pe_op op_add_str (pe_op op_add_str (pe_op op_mulT (pv 1) (pv 2)) pe_str) (pv 1)) (pa_cons (pe_op op_add_str (pe_op op_add_str (pe_op op_mulT (pv 1) (pv 2)) pe_str) (pv 1)) (pa_cons (pe_op op_add_str (pe_op op_mulT (pv 1) (pv 2)) pe_str) pa_nil (se rfl)) (se rfl)) (se rfl))))
  (pss_cons (ps_set (i:=4) nd rfl (Or.inl rfl) (pe_op op_add pe_int (pe_op op_modB (pe_cal c__law_cell (hr.mono (by decide)) rfl strictP.pass (pa_cons (pv 0) (pa_cons pe_int pa_nil (se rfl)) (se rfl)) (he:=se rfl) (hpl:=na rfl)) pe_int)))
  (pss_cons (ps_set (i:=5) nd rfl (Or.inl rfl) (pe_tupS (pa_cons (pe_op op_sub (pe_op op_modB (pe_cal c__law_cell (hr.mono (by decide)) rfl strictP.pass (pa_cons (pv 0) (pa_cons pe_int pa_nil (se rfl)) (se rfl)) (he:=se rfl) (hpl:=na rfl)) pe_int) pe_int) (pa_cons pe_int pa_nil (se rfl)) (se rfl))))
  (pss_cons (ps_set (i:=6) nd rfl (Or.inl rfl) (pe_tupS (pa_cons pe_str (pa_cons (pe_lst (pa_cons (pe_tupS (pa_cons pe_str (pa_cons pe_int (pa_cons (pv 4) pa_nil (se rfl)) (se rfl)) (se rfl))) pa_nil (se rfl))) (pa_cons (pv 5) (pa_cons (pe_lst (pa_cons (pe_tupS (pa_cons pe_int (pa_cons pe_int (pa_cons (pe_lst pa_nil) (pa_cons (pe_ix ix_listH (pv 3) pe_int (fun _ _=>rfl)) pa_nil (se rfl)) (se rfl)) (se rfl)) (se rfl))) pa_nil (se rfl))) pa_nil (se rfl)) (se rfl)) (se rfl)) (se rfl))))
  (pss_cons (ps_set (i:=7) nd rfl (Or.inl rfl) (pe_lst (pa_cons (pe_tupS (pa_cons (pe_ix ix_listH (pv 3) pe_int (fun _ _=>rfl)) (pa_cons pe_non (pa_cons (pe_lst pa_nil) (pa_cons (pe_ix ix_listH (pv 3) pe_int (fun _ _=>rfl)) pa_nil (se rfl)) (se rfl)) (se rfl)) (se rfl))) (pa_cons (pe_tupS (pa_cons (pe_ix ix_listH (pv 3) pe_int (fun _ _=>rfl)) (pa_cons pe_non (pa_cons (pe_lst (pa_cons (pe_tupS (pa_cons pe_str (pa_cons pe_str (pa_cons pe_int pa_nil (se rfl)) (se rfl)) (se rfl))) pa_nil (se rfl))) (pa_cons (pe_ix ix_listH (pv 3) pe_int (fun _ _=>rfl)) pa_nil (se rfl)) (se rfl)) (se rfl)) (se rfl))) pa_nil (se rfl)) (se rfl))))
  (pss_cons (ps_set (i:=8) nd rfl (Or.inl rfl) (pe_lst (pa_cons (pe_tupS (pa_cons (pe_ix ix_listH (pv 3) pe_int (fun _ _=>rfl)) (pa_cons (pe_tupS (pa_cons pe_str (pa_cons (pe_op op_add pe_int (pe_op op_modB (pe_cal c__law_cell (hr.mono (by decide)) rfl strictP.pass (pa_cons (pv 0) (pa_cons pe_int pa_nil (se rfl)) (se rfl)) (he:=se rfl) (hpl:=na rfl)) pe_int)) (pa_cons (pv 7) pa_nil (se rfl)) (se rfl)) (se rfl))) pa_nil (se rfl)) (se rfl))) (pa_cons (pe_tupS (pa_cons (pe_ix ix_listH (pv 3) pe_int (fun _ _=>rfl)) (pa_cons (pv 6) pa_nil (se rfl)) (se rfl))) pa_nil (se rfl)) (se rfl))))
  (pss_one (ps_ret (pe_tupS (pa_cons (pe_lst (pa_cons (pe_tupS (pa_cons pe_str (pa_cons pe_int pa_nil (se rfl)) (se rfl))) pa_nil (se rfl))) (pa_cons (pv 8) (pa_cons (pv 4) (pa_cons (pv 5) (pa_cons (pv 3) pa_nil (se rfl)) (se rfl)) (se rfl)) (se rfl)) (se rfl))))))))))))),?_⟩
  refine(?_:let q0_:TS:=_;let q1_:TS:=_;let q2_:TS:=_;let q3_:TS:=_;let q4_:TS:=_;let q5_:TS:=_;let q6_:TS:=_;let q7_:TS:=_;let q8_:TS:=_;tSeq q0_ (tSeq q1_ (tSeq q2_ (tSeq q3_ (tSeq q4_ (tSeq q5_ (tSeq q6_ (tSeq q7_ q8_))))))) _ _ _)
  intro q0_ q1_ q2_ q3_ q4_ q5_ q6_ q7_ q8_
  have sl:=sizeLine_eq
  change tSeq _ _ _ [some (.ref sa),none,none,none,none,none,none,none,none] H
  refine seq_c (fun N=>∀c:Nat,97≤c→c≤122→N [some (.ref sa),some (.str ⟨#[c]⟩),none,none,none,none,none,none,none] H) ?_ (fun N hN=>?_)
  case refine_2=>
   simp_all only[spC,rIxS]
   refine⟨ns,hS,by decide,by decide,fun n=>⟨by decide,by have:(Str.ofString "abcdefghijklmnopqrstuvwxyz").length=26:=(by decide +kernel);omega,?_⟩⟩
   have b0:=Int.emod_nonneg n (show(26:Int)≠0 by decide)
   have b1:=Int.emod_lt_of_pos n (show(0:Int)<26 by decide)
   have hh:∀i∈List.range 26,(Str.ofString "abcdefghijklmnopqrstuvwxyz").cps.toList[i]?=some (97+i):=by decide +kernel
   have e:n % 26=(((n % 26).toNat:Nat):Int):=by omega
   rw[e]
   exact⟨_,atI_nat (hh _ (List.mem_range.mpr (by omega))),hN _ (by omega) (by omega)⟩
  rintro c c0 c1
  change tSeq _ _ _ [some (.ref sa),some (.str ⟨#[c]⟩),none,none,none,none,none,none,none] H
  refine seq_c (fun N=>∀k:Int,0≤k→k<7→N [some (.ref sa),some (.str ⟨#[c]⟩),some (.int k),none,none,none,none,none,none] H) ?_ (fun N hN=>?_)
  case refine_2=>
   simp_all only[spC]
   exact⟨ns,hS,by decide,by decide,fun n=>⟨by decide,hN _ (Int.emod_nonneg _ (by decide)) (Int.emod_lt_of_pos _ (by decide))⟩⟩
  rintro k k0 k7
  change tSeq _ _ _ [some (.ref sa),some (.str ⟨#[c]⟩),some (.int k),none,none,none,none,none,none] H
  refine seq_c (fun N=>∀w0 w1 w2 H1 nl,Same H H1→H1 nl=some (.lst [.str w0,.str w1,.str w2])→Wrd w0→Wrd w1→Wrd w2→w0≠w1→N [some (.ref sa),some (.str ⟨#[c]⟩),some (.int k),some (.ref nl),none,none,none,none,none] H1) ?_ (fun N hN=>?_)
  case refine_2=>
   have ll:∀{z:Str},(⟨(List.replicate k.toNat c).toArray⟩++z:Str).length=k.toNat+z.length:=fun {z}=>by
    rw[Str.length_append]
    congr 1
    show(List.replicate k.toNat c).toArray.size=_
    simp
   have lr:(⟨(List.replicate k.toNat c).toArray⟩:Str).length=k.toNat:=by
    show(List.replicate k.toNat c).toArray.size=_
    simp
   have l1:(⟨#[c]⟩:Str).length=1:=rfl
   have la:(Str.ofString "a").length=1:=by decide +kernel
   have lb:(Str.ofString "b").length=1:=by decide +kernel
   have lc:(Str.ofString "c").length=1:=by decide +kernel
   refine(?_:let G_:Prop:=_;G_)
   intro G_
   obtain⟨n0,n1,n2,n3⟩:=nms c0 c1 k0 k7 rfl rfl rfl
   dsimp only[G_]
   simp_all only[rMulT]
   refine⟨c,rfl,k0,by omega,by rw[lr,la];omega,by rw[ll,la,l1];omega,c,rfl,k0,by omega,by rw[lr,lb];omega,by rw[ll,lb,l1];omega,c,rfl,k0,by omega,by rw[lr,lc];omega,by omega,fun p np=>hN _ _ _ _ p (same_upd np) upd_same n0 n1 n2 n3⟩
  rintro w0 w1 w2 H1 nl s1 hnl n0 n1 n2 ne
  change tSeq _ _ _ [some (.ref sa),some (.str ⟨#[c]⟩),some (.int k),some (.ref nl),none,none,none,none,none] H1
  refine seq_c (fun N=>∀sd:Nat,2≤sd→sd≤20→N [some (.ref sa),some (.str ⟨#[c]⟩),some (.int k),some (.ref nl),some (.int (sd:Int)),none,none,none,none] H1) ?_ (fun N hN=>?_)
  case refine_2=>
   simp_all only[spC]
   refine⟨ns,s1.seq hS,by decide,by decide,fun n=>⟨by decide,?_⟩⟩
   have b0:=Int.emod_nonneg n (show(19:Int)≠0 by decide)
   have b1:=Int.emod_lt_of_pos n (show(0:Int)<19 by decide)
   have e:2+n % 19=(((2+n % 19).toNat:Nat):Int):=by omega
   rw[e]
   exact hN _ (by omega) (by omega)
  rintro sd d0 d1
  change tSeq _ _ _ [some (.ref sa),some (.str ⟨#[c]⟩),some (.int k),some (.ref nl),some (.int (sd:Int)),none,none,none,none] H1
  refine seq_c (fun N=>∀t py H2,Same H1 H2→H2 py=some (.tup [.int t,.int 1])→-1000≤t→t≤1000→N [some (.ref sa),some (.str ⟨#[c]⟩),some (.int k),some (.ref nl),some (.int (sd:Int)),some (.ref py),none,none,none] H2) ?_ (fun N hN=>?_)
  case refine_2=>
   simp_all only[spC]
   refine⟨ns,s1.seq hS,by decide,by decide,fun n=>⟨by decide,by omega,fun p H2 s2 np ep=>hN _ p H2 s2 ep ?_ ?_⟩⟩
   ·have b0:=Int.emod_nonneg n (show(2001:Int)≠0 by decide)
    omega
   ·have b1:=Int.emod_lt_of_pos n (show(0:Int)<2001 by decide)
    omega
  rintro t py H2 s2 hpy t0 t1
  change tSeq _ _ _ [some (.ref sa),some (.str ⟨#[c]⟩),some (.int k),some (.ref nl),some (.int (sd:Int)),some (.ref py),none,none,none] H2
  refine seq_c (fun N=>∀u H3,Same H2 H3→Rep H3 (wtD (.thr ([.dice 1 sd].map ptD) t 1 [(0,99,[],w0)])) u→N [some (.ref sa),some (.str ⟨#[c]⟩),some (.int k),some (.ref nl),some (.int (sd:Int)),some (.ref py),some u,none,none] H3) ?_ (fun N hN=>?_)
  case refine_2=>
   simp_all only[]
   refine⟨by omega,fun p Ha sA nA eA=>⟨by omega,fun p1 n1=>⟨by omega,fun p2 n2=>?_⟩⟩⟩
   have S2:=same_upd (o:=.lst [V.ref p]) n1
   have S3:=same_upd (o:=.lst []) n2
   have h1:=(sA.trans (S2.trans S3)) _ _ (s2 _ _ hnl)
   refine⟨_,h1,_,at0,by omega,fun p3 Hb sB nB eB=>⟨by omega,fun p4 n4=>⟨by omega,fun p5 Hc sC nC eC=>?_⟩⟩⟩
   have S5:=same_upd (o:=.lst [V.ref p3]) n4
   have S25:=S3.trans (sB.trans (S5.trans sC))
   refine hN (.ref p5) Hc (sA.trans (S2.trans S25)) ?_
   refine rep_t4.mpr ⟨p5,_,_,_,_,rfl,eC,rep_str.mpr rfl,rep_lst.mpr ⟨p1,_,rfl,S25 _ _ upd_same,rep1 ?_⟩,rep_t2.mpr ⟨py,_,_,rfl,(sA.trans (S2.trans S25)) _ _ hpy,rep_int.mpr rfl,rep_int.mpr rfl⟩,rep_lst.mpr ⟨p4,_,rfl,sC _ _ upd_same,rep1 ?_⟩⟩
   ·exact rep_t3.mpr ⟨p,_,_,_,rfl,(S2.trans S25) _ _ eA,rep_str.mpr rfl,rep_int.mpr rfl,rep_int.mpr rfl⟩
   ·exact rep_t4.mpr ⟨p3,_,_,_,_,rfl,(S5.trans sC) _ _ eB,rep_int.mpr rfl,rep_int.mpr rfl,rep_lst.mpr ⟨p2,_,rfl,(sB.trans (S5.trans sC)) _ _ upd_same,repL_nil.mpr rfl⟩,rep_str.mpr rfl⟩
  rintro th H3 s3 rth
  change tSeq _ _ _ [some (.ref sa),some (.str ⟨#[c]⟩),some (.int k),some (.ref nl),some (.int (sd:Int)),some (.ref py),some th,none,none] H3
  refine seq_c (fun N=>∀u H4,Same H3 H4→Rep H4 (.lst ((([⟨w0,none,[],w0⟩,⟨w1,none,[.plus (Str.ofString "all") 1],w1⟩]:List Rw).map rw4).map r4D)) u→N [some (.ref sa),some (.str ⟨#[c]⟩),some (.int k),some (.ref nl),some (.int (sd:Int)),some (.ref py),some th,some u,none] H4) ?_ (fun N hN=>?_)
  case refine_2=>
   simp_all only[]
   have h0:=(s2.trans s3) _ _ hnl
   refine⟨_,h0,_,at0,by omega,fun p np=>?_⟩
   have S1:=same_upd (o:=.lst []) np
   refine⟨_,S1 _ _ h0,_,at0,by omega,fun p1 Ha sA nA eA=>⟨_,(S1.trans sA) _ _ h0,_,at1,by omega,fun p2 Hb sB nB eB=>⟨by omega,fun p3 n3=>?_⟩⟩⟩
   have S3:=same_upd (o:=.lst [V.ref p2]) n3
   refine⟨_,(S1.trans (sA.trans (sB.trans S3))) _ _ h0,_,at1,by omega,fun p4 Hc sC nC eC=>⟨by omega,fun p5 n5=>?_⟩⟩
   have S5:=same_upd (o:=.lst [V.ref p1,V.ref p4]) n5
   have S45:=S3.trans (sC.trans S5)
   refine hN (.ref p5) _ (S1.trans (sA.trans (sB.trans S45))) (rep_lst.mpr ⟨p5,_,rfl,upd_same,rep2 ?_ ?_⟩)
   ·exact rep_t4.mpr ⟨p1,_,_,_,_,rfl,(sB.trans S45) _ _ eA,rep_str.mpr rfl,rep_nn,rep_lst.mpr ⟨p,_,rfl,(sA.trans (sB.trans S45)) _ _ upd_same,repL_nil.mpr rfl⟩,rep_str.mpr rfl⟩
   ·refine rep_t4.mpr ⟨p4,_,_,_,_,rfl,S5 _ _ eC,rep_str.mpr rfl,rep_nn,rep_lst.mpr ⟨p3,_,rfl,(sC.trans S5) _ _ upd_same,rep1 ?_⟩,rep_str.mpr rfl⟩
    exact rep_t3.mpr ⟨p2,_,_,_,rfl,S45 _ _ eB,rep_str.mpr rfl,rep_str.mpr rfl,rep_int.mpr rfl⟩
  rintro wy H4 s4 rwy
  change tSeq _ _ _ [some (.ref sa),some (.str ⟨#[c]⟩),some (.int k),some (.ref nl),some (.int (sd:Int)),some (.ref py),some th,some wy,none] H4
  refine seq_c (fun N=>∀who a H5,Same H4 H5→Rep H5 (psD (G8.g ⟨w0,w1,who,sd,t⟩).ps) (.ref a)→N [some (.ref sa),some (.str ⟨#[c]⟩),some (.int k),some (.ref nl),some (.int (sd:Int)),some (.ref py),some th,some wy,some (.ref a)] H5) ?_ (fun N hN=>?_)
  case refine_2=>
   simp_all only[spC]
   have h0:=(s2.trans (s3.trans s4)) _ _ hnl
   refine⟨_,h0,_,at0,ns,(s1.trans (s2.trans (s3.trans s4))).seq hS,by decide,by decide,fun n=>⟨by decide,by omega,fun p Ha sA nA eA=>⟨by omega,fun p1 Hb sB nB eB=>⟨_,(sA.trans sB) _ _ h0,_,at1,by omega,fun p2 Hc sC nC eC=>⟨by omega,fun p3 n3=>?_⟩⟩⟩⟩⟩
   have S3:=same_upd (o:=.lst [V.ref p1,V.ref p2]) n3
   have SB:=sC.trans S3
   refine hN (1+n % 2) p3 _ (sA.trans (sB.trans SB)) (rep_lst.mpr ⟨p3,_,rfl,upd_same,rep2 ?_ ?_⟩)
   ·exact rep_t2.mpr ⟨p1,_,_,rfl,SB _ _ eB,rep_str.mpr rfl,rep_t3.mpr ⟨p,_,_,_,rfl,(sB.trans SB) _ _ eA,rep_str.mpr rfl,rep_int.mpr rfl,rwy.mono (sA.trans (sB.trans SB))⟩⟩
   ·exact rep_t2.mpr ⟨p2,_,_,rfl,S3 _ _ eC,rep_str.mpr rfl,rth.mono (s4.trans (sA.trans (sB.trans SB)))⟩
  rintro who a H5 s5 rps
  have s25:=s3.trans (s4.trans s5)
  have h1:=(s2.trans s25) _ _ hnl
  simp_all only[]
  refine⟨by omega,fun p Ha sA nA eA=>⟨by omega,fun p1 m1=>⟨by omega,fun p2 Hb sB nB eB=>?_⟩⟩⟩
  have S1:=same_upd (o:=.lst [V.ref p]) m1
  have S5:=sA.trans (S1.trans sB)
  exact kk p2 p1 a py nl w2 Hb ⟨w0,w1,who,sd,t⟩ (s1.trans (s2.trans (s25.trans S5))) eB (rep_lst.mpr ⟨p1,_,rfl,sB _ _ upd_same,rep1 (rep_t2.mpr ⟨p,_,_,rfl,(S1.trans sB) _ _ eA,rep_str.mpr rfl,rep_int.mpr rfl⟩)⟩) (rps.mono S5) ((s25.trans S5) _ _ hpy) (S5 _ _ h1) ⟨n0,n1,ne,⟨d0,d1⟩,⟨t0,t1⟩⟩ n2
theorem sc__law_refused:FnScope ["_law_play","_law_step","e"] ["_law_play","_law_step"] (defScope (top 54)):=⟨rfl,rfl,rfl,by decide +kernel,rfl,by decide +kernel,by decide +kernel⟩
theorem ok_ref (T:Txt K mg q_LuckError q_NoShare q_NoTable q_NoEnd q_TooMany q_NoStep q_NoPlay q_Course q_Play):Cal P w K mg base (CX1 P w) 10 "_law_refused" ["_law_play","_law_step"] (spRef q_Play q_Course):=by
 have m_Play_say:MtCal P w K mg base (CX1 P w) 5 q_Play "say" ["self","word"] (spSay q_Play q_Course q_NoStep q_TooMany):=ok_say T
 have m_Play_throw:MtCal P w K mg base (CX1 P w) 9 q_Play "throw" ["self","value"] (spThX q_Play q_Course q_NoStep q_TooMany):=ok_thv T
 have hh:=T.e_NoStep_LuckError
 have hh:=T.e_TooMany_LuckError
 have hh:=T.y_NoStep
 have hh:=T.y_TooMany
 have hh:=T.n_NoStep_NoEnd
 have hh:=T.n_TooMany_NoEnd
 have hh:=T.n_NoStep_TooMany
 have hh:=T.i_TooMany_TooMany
 have hh:=T.i_NoStep_NoStep
 have hh:=T.n_TooMany_NoStep
 refine T.d__law_refused.cal (fun _ _ _ _ _ _=>us_2 fun _ _=>rfl) fun f fd F=>F.okC sc__law_refused (fun vs H Q E h=>?_) (fun cdv A outer s H vs Q E hr h=>?_)
 ·obtain⟨_,_,_,_,_,_,_,rfl,_⟩:=h;rfl
 ·refine(?_:let G_:Prop:=_;G_)
  intro G_
  obtain⟨p,v,tl,tb,L,G,ws,rfl,gg,p8,hk⟩:=h
  dsimp only[G_]
  have nd:=sc__law_refused.nd
  refine⟨_,(pss_cons (ps_tryIM (i:=2) (pt_val (pe_callB (call_isTK (K:=K)) (by rfl) T.z_isinstance rfl (pa_cons (pv 1) (pa_cons (pe_bltn (v:=V.ty "str") rfl T.z_str rfl rfl) pa_nil (se rfl)) (se rfl)) (he:=se rfl) (hpl:=na rfl))) m_Play_say T.cl_Play (pv 0) (hr.mono (by decide)) (pa_cons (pv 1) pa_nil (se rfl)) m_Play_throw T.cl_Play (pv 0) (hr.mono (by decide)) (pa_cons (pv 1) pa_nil (se rfl)) rfl rfl rfl T.k_LuckError nd rfl rfl (fun ad=>(pss_cons (ps_if (PW.pt (pw_or (pt_val (pe_callB (call_isEK (K:=K)) (by rfl) T.z_isinstance rfl (pa_cons (pv 2) (pa_cons (pe_glob (v:=V.ref _) rfl T.k_NoEnd rfl) pa_nil (se rfl)) (se rfl)) (he:=se rfl) (hpl:=na rfl))) (pw_or1 (pt_cmpR op_eq (pe_callB (call_isEK (K:=K)) (by rfl) T.z_isinstance rfl (pa_cons (pv 2) (pa_cons (pe_glob (v:=V.ref _) rfl T.k_TooMany rfl) pa_nil (se rfl)) (se rfl)) (he:=se rfl) (hpl:=na rfl)) (pe_callB (call_isEK (K:=K)) (by rfl) T.z_isinstance rfl (pa_cons (pv 2) (pa_cons (pe_glob (v:=V.ref _) rfl T.k_NoStep rfl) pa_nil (se rfl)) (se rfl)) (he:=se rfl) (hpl:=na rfl)) (nomark _))))) (pss_one (ps_ret pe_str))
   pss_nil)
  (pss_one (ps_ret (pe_ix ix_listH (pe_lst (pa_cons pe_str (pa_cons pe_str pa_nil (se rfl)) (se rfl))) (pe_callTy call_int_b (by rfl) T.z_int rfl (pa_cons (pe_callB (call_isEK (K:=K)) (by rfl) T.z_isinstance rfl (pa_cons (pv 2) (pa_cons (pe_glob (v:=V.ref _) rfl T.k_TooMany rfl) pa_nil (se rfl)) (se rfl)) (he:=se rfl) (hpl:=na rfl)) pa_nil (se rfl)) (he:=se rfl) (hpl:=na rfl)) (fun _ _=>rfl)))))) (he:=se rfl) (hpl:=na rfl) (he2:=se rfl) (hpl2:=na rfl))
  (pss_one (ps_ret pe_str))),?_⟩
  have szl:=sizeLine_eq
  have lk0:∀{k:Str} {a b c d:V},(k==Str.ofString "course")=false→(k==Str.ofString "state")=false→(k==Str.ofString "paid")=false→(k==Str.ofString "trail")=false→List.lookup k (plF a b c d)=none:=fun h1 h2 h3 h4=>by
   unfold plF
   rw[lk_ne h1,lk_ne h2,lk_ne h3,lk_ne h4]
   rfl
  have hpd:=pd_hf gg p8.len
  have trl:=tr_length G ws
  have l200:=p8.len
  refine(?_:let G_:Prop:=_;G_)
  intro G_
  obtain⟨dp,c,sv',pv'',xs',hpl,_⟩:=p8.ply.ex
  dsimp only[G_]
  have sv:(∃z,v=.str z)∨∃k,v=.int k:=by
   rcases hk with ⟨w',⟨_,⟨_,e⟩ | ⟨_,k,e,_⟩⟩,_⟩ | ⟨⟨_,k,e⟩ | ⟨_,z,e⟩,_⟩
   ·exact .inl ⟨_,e⟩
   ·exact .inr ⟨_,e⟩
   ·exact .inr ⟨_,e⟩
   ·exact .inl ⟨_,e⟩
  rcases sv with ⟨z,rfl⟩ | ⟨n,rfl⟩
  ·simp_all only[tTryIM,xTry,tMeth,spSay]
   refine⟨_,.str _,true,by rfl,?_⟩
   rw[if_pos rfl]
   refine⟨_,_,hpl,lk0 (by decide +kernel) (by decide +kernel) (by decide +kernel) (by decide +kernel),tl,tb,L,G.g,_,_,_,p8.ply,by omega,_,look8 gg _,hpd,fun no H1 s1=>⟨T.e_NoStep_LuckError,fun ad nad=>?_⟩,fun r er=>?_⟩
   ·have sx:=s1.trans (same_upd (o:=ExO ad (Value.ref q_NoStep)) nad)
    refine⟨_,upd_same,T.y_NoStep,_,rfl,false,T.n_NoStep_NoEnd,?_⟩
    rw[if_neg (by decide)]
    refine⟨_,upd_same,T.y_NoStep,_,rfl,false,T.n_NoStep_TooMany,_,upd_same,T.y_NoStep,_,rfl,true,T.i_NoStep_NoStep,?_⟩
    rw[if_neg (by decide)]
    refine⟨by omega,fun q nq=>?_⟩
    have sy:=sx.trans (same_upd (o:=.lst [V.str (Str.ofString "step"),V.str (Str.ofString "many")]) nq)
    refine⟨_,same_upd nq _ _ upd_same,T.y_NoStep,_,rfl,false,T.n_NoStep_TooMany,_,upd_same,_,at0,?_⟩
    rcases hk with ⟨w',⟨ok,⟨a,e⟩ | ⟨a,k,e,_⟩⟩,_⟩ | ⟨_,kS⟩
    ·cases e
     rw[if_neg (by rw[a];decide)] at no
     refine absurd no (say_no gg ?_)
     unfold ok8 at ok
     rwa [if_neg (by rw[a];decide)] at ok
    ·cases e
    ·exact kS _ (.of sy) (p8.same sy)
   ·rcases hk with ⟨w',⟨ok,⟨a,e⟩ | ⟨a,k,e,_⟩⟩,kT,kM⟩ | ⟨⟨a,k,e⟩ | ⟨a,z',e⟩,kS⟩
    ·cases e
     have na:¬(run8 G ws).1=true:=by rw[a];decide
     rw[if_neg na] at er
     have hz:z=G.n0∨z=G.n1:=by
      unfold ok8 at ok
      rwa [if_neg na] at ok
     refine(?_:let G_:Prop:=_;G_)
     intro G_
     obtain⟨nm',k1,k2,k3⟩:=say_to gg na hz er
     dsimp only[G_]
     refine⟨1,nm',k1,fun h200 H1 s1=>⟨T.e_TooMany_LuckError,fun ad nad=>?_⟩,fun h200 H2 k9 p2=>kT (by omega) _ k9 ⟨?_,p8.ok.snoc ok,by rw[List.length_append];show ws.length+1≤200;omega⟩⟩
     ·have sx:=s1.trans (same_upd (o:=ExO ad (Value.ref q_TooMany)) nad)
      refine⟨_,upd_same,T.y_TooMany,_,rfl,false,T.n_TooMany_NoEnd,?_⟩
      rw[if_neg (by decide)]
      refine⟨_,upd_same,T.y_TooMany,_,rfl,true,T.i_TooMany_TooMany,_,upd_same,T.y_TooMany,_,rfl,false,T.n_TooMany_NoStep,?_⟩
      rw[if_neg (by decide)]
      refine⟨by omega,fun q nq=>?_⟩
      have sy:=sx.trans (same_upd (o:=.lst [V.str (Str.ofString "step"),V.str (Str.ofString "many")]) nq)
      exact⟨_,same_upd nq _ _ upd_same,T.y_TooMany,_,rfl,true,T.i_TooMany_TooMany,_,upd_same,_,at1,kM (by omega) _ (.of sy) (p8.same sy)⟩
     ·rw[run_snoc,tr_snoc,←k2,←k3]
      exact p2
    ·cases e
    ·cases e
    ·rw[if_pos a] at er
     cases er
  ·simp_all only[tTryIM,xTry,tMeth,spThX]
   refine⟨_,.int _,false,by rfl,?_⟩
   rw[if_neg (by decide)]
   refine⟨_,_,hpl,lk0 (by decide +kernel) (by decide +kernel) (by decide +kernel) (by decide +kernel),tl,tb,L,G.g,_,_,_,p8.ply,by omega,_,look8 gg _,fun pool t b rs e=>?_,hpd,fun no H1 k1 pl1=>⟨T.e_NoStep_LuckError,fun ad nad=>?_⟩,fun ps t b rs e hv=>?_⟩
   ·split at e
    ·injection e with e
     exact⟨_,e.symm,G8.gl gg⟩
    ·cases e
   ·have sx:=same_upd (o:=ExO ad (Value.ref q_NoStep)) nad
    refine⟨_,upd_same,T.y_NoStep,_,rfl,false,T.n_NoStep_NoEnd,?_⟩
    rw[if_neg (by decide)]
    refine⟨_,upd_same,T.y_NoStep,_,rfl,false,T.n_NoStep_TooMany,_,upd_same,T.y_NoStep,_,rfl,true,T.i_NoStep_NoStep,?_⟩
    rw[if_neg (by decide)]
    refine⟨by omega,fun q nq=>?_⟩
    have sy:=sx.trans (same_upd (o:=.lst [V.str (Str.ofString "step"),V.str (Str.ofString "many")]) nq)
    refine⟨_,same_upd nq _ _ upd_same,T.y_NoStep,_,rfl,false,T.n_NoStep_TooMany,_,upd_same,_,at0,?_⟩
    rcases hk with ⟨w',⟨ok,⟨a,e⟩ | ⟨a,k,e,v1,v2,_⟩⟩,_⟩ | ⟨_,kS⟩
    ·cases e
    ·cases e
     rw[if_pos a] at no
     exact absurd (G8.vals.mpr (.inl ⟨v1,v2,by omega⟩)) (no _ _ _ _ rfl)
    ·exact kS _ (k1.trans (.of sy)) ⟨pl1.same sy,p8.ok,p8.len⟩
   ·rcases hk with ⟨w',⟨ok,⟨a,e'⟩ | ⟨a,k,e',v1,v2,rfl⟩⟩,kT,kM⟩ | ⟨⟨a,k,e'⟩ | ⟨a,z',e'⟩,kS⟩
    ·cases e'
    ·cases e'
     rw[if_pos a] at e
     injection e with e3 e4 e5 e6
     have e3:=pts_inj e3
     subst e3 e4 e5 e6
     have s20:=gg.sd.2
     refine⟨by omega,by omega,hfb_one _ (by have:=gg.t;omega) (by have:=gg.t;omega),_,G.ro (by omega) (by omega),1,G.n0,G.a0 _,fun h200 H2 k2 p2=>⟨T.e_TooMany_LuckError,fun ad nad=>?_⟩,fun h200 H2 k2 p2=>kT (by omega) _ k2 ⟨?_,p8.ok.snoc ok,by rw[List.length_append];show ws.length+1≤200;omega⟩⟩
     ·have sx:=same_upd (o:=ExO ad (Value.ref q_TooMany)) nad
      refine⟨_,upd_same,T.y_TooMany,_,rfl,false,T.n_TooMany_NoEnd,?_⟩
      rw[if_neg (by decide)]
      refine⟨_,upd_same,T.y_TooMany,_,rfl,true,T.i_TooMany_TooMany,_,upd_same,T.y_TooMany,_,rfl,false,T.n_TooMany_NoStep,?_⟩
      rw[if_neg (by decide)]
      refine⟨by omega,fun q nq=>?_⟩
      have sy:=sx.trans (same_upd (o:=.lst [V.str (Str.ofString "step"),V.str (Str.ofString "many")]) nq)
      exact⟨_,same_upd nq _ _ upd_same,T.y_TooMany,_,rfl,true,T.i_TooMany_TooMany,_,upd_same,_,at1,kM (by omega) _ (k2.trans (.of sy)) ⟨p2.same sy,p8.ok,p8.len⟩⟩
     ·rw[run_snoc,tr_snoc,←(thr_to a n).1,←(thr_to a n).2]
      exact p2
    ·rw[if_neg (by rw[a];decide)] at e
     cases e
    ·cases e'
theorem sc__law_no_play:FnScope ["_law_counts","_law_places","_law_text","e"] ["_law_counts","_law_places","_law_text"] (defScope (top 55)):=⟨rfl,rfl,rfl,by decide +kernel,rfl,by decide +kernel,by decide +kernel⟩
theorem ok_nop (T:Txt K mg q_LuckError q_NoShare q_NoTable q_NoEnd q_TooMany q_NoStep q_NoPlay q_Course q_Play):Cal P w K mg base (CX1 P w) 12 "_law_no_play" ["_law_counts","_law_places","_law_text"] spNop:=by
 have c_read_play:Cal P w K mg base (CX1 P w) 11 "read_play" ["game","text"] (spRdp q_Play q_Course q_NoPlay):=ok_rdp T
 have hh:=T.e_NoPlay_LuckError
 have hh:=T.y_NoPlay
 have hh:=T.i_NoPlay_NoPlay
 have hh:=T.n_NoPlay_TooMany
 refine T.d__law_no_play.cal (fun _ _ _ _ _ _=>us_3 fun _ _ _=>rfl) fun f fd F=>F.okC sc__law_no_play (fun vs H Q E h=>?_) (fun cdv A outer s H vs Q E hr h=>?_)
 ·obtain⟨_,_,_,_,rfl,_⟩:=h;rfl
 ·refine(?_:let G_:Prop:=_;G_)
  intro G_
  obtain⟨cv,qv,G,ws,rfl,rc,rp,gg,oks,l201,kk⟩:=h
  dsimp only[G_]
  have nd:=sc__law_no_play.nd
  refine⟨_,(pss_cons (ps_tryE (i:=3) c_read_play (hr.mono (by decide)) rfl (pa_cons (pe_tupS (pa_cons (pv 0) (pa_cons (pv 1) pa_nil (se rfl)) (se rfl))) (pa_cons (pv 2) pa_nil (se rfl)) (se rfl)) rfl rfl rfl T.k_LuckError nd rfl rfl (fun ad=>(pss_one (ps_ret (pe_and (pe_callB (call_isEK (K:=K)) (by rfl) T.z_isinstance rfl (pa_cons (pv 3) (pa_cons (pe_glob (v:=V.ref _) rfl T.k_NoPlay rfl) pa_nil (se rfl)) (se rfl)) (he:=se rfl) (hpl:=na rfl)) (pe_one (pe_not (pe_callB (call_isEK (K:=K)) (by rfl) T.z_isinstance rfl (pa_cons (pv 3) (pa_cons (pe_glob (v:=V.ref _) rfl T.k_TooMany rfl) pa_nil (se rfl)) (se rfl)) (he:=se rfl) (hpl:=na rfl)))))))) (he:=se rfl) (hpl:=na rfl))
  (pss_one (ps_ret pe_bl))),?_⟩
  have szl:=sizeLine_eq
  simp_all only[tTryE,xTry,spRdp]
  refine⟨by omega,fun p H2 s2 np ep=>⟨G,ws,rfl,?_,gg,oks,by omega,fun _ ad0 H3 s3=>⟨T.e_NoPlay_LuckError,fun ad nad=>?_⟩,fun h=>absurd h (by omega)⟩⟩
  ·exact rep_t2.mpr ⟨p,_,_,rfl,ep,rc.mono s2,rp.mono s2⟩
  ·refine⟨_,upd_same,T.y_NoPlay,_,rfl,true,T.i_NoPlay_NoPlay,?_⟩
   rw[if_pos rfl]
   exact⟨_,upd_same,T.y_NoPlay,_,rfl,false,T.n_NoPlay_TooMany,kk _ (s2.trans (s3.trans (same_upd nad)))⟩
theorem sc_law:FnScope ["_law_script","_law_counts","_law_places","_law_sides","_law_pay","_law_names","_law_play","_law_gone","_law_at","_law_thrown","_law_k","_law_cell_here","_law_step","_law_wrong","_law_due"] ["_law_script"] (defScope (top 56)):=⟨rfl,rfl,rfl,by decide +kernel,rfl,by decide +kernel,by decide +kernel⟩
theorem ok_law (T:Txt K mg q_LuckError q_NoShare q_NoTable q_NoEnd q_TooMany q_NoStep q_NoPlay q_Course q_Play) {f:Addr} {fd:FuncData} (F:Fun K "law" "law" (top 56) f fd):FnOk P w K mg base (CX1 P w) 20 f fd ["_law_script"] (spLaw K):=by
 have c__law_cell:Cal P w K mg base (CX1 P w) 1 "_law_cell" ["_law_script","_law_k"] (spC K):=ok_cell T
 have c__law_mixed:Cal P w K mg base (CX1 P w) 1 "_law_mixed" ["_law_cell_here","_law_many"] spMix:=ok_mix T
 have c__law_game:Cal P w K mg base (CX1 P w) 2 "_law_game" ["_law_script"] (spGam K):=ok_gam T
 have c__law_refused:Cal P w K mg base (CX1 P w) 10 "_law_refused" ["_law_play","_law_step"] (spRef q_Play q_Course):=ok_ref T
 have c__law_no_play:Cal P w K mg base (CX1 P w) 12 "_law_no_play" ["_law_counts","_law_places","_law_text"] spNop:=ok_nop T
 have c_read_play:Cal P w K mg base (CX1 P w) 11 "read_play" ["game","text"] (spRdp q_Play q_Course q_NoPlay):=ok_rdp T
 have m_Play:MkCal P w K mg base (CX1 P w) 5 "Play" q_Play ["self","game"] (spPin q_Play q_Course):=ok_pin T
 have m_Play_back:MtCal P w K mg base (CX1 P w) 1 q_Play "back" ["self"] (spBck q_Play q_Course q_NoStep):=ok_bck T
 have m_Play_shown:MtCal P w K mg base (CX1 P w) 1 q_Play "shown" ["self"] (spShw q_Play q_Course):=ok_shw T
 have m_Play_stands:MtCal P w K mg base (CX1 P w) 1 q_Play "stands" ["self"] (spStn q_Play q_Course):=ok_stn T
 have m_Play_points:MtCal P w K mg base (CX1 P w) 4 q_Play "points" ["self"] (spPts q_Play q_Course):=ok_pts T
 refine F.okC sc_law (fun vs H Q E h=>?_) (fun cdv A outer s H vs Q E hr h=>?_)
 ·obtain⟨_,_,rfl,_⟩:=h;rfl
 ·refine(?_:let G_:Prop:=_;G_)
  intro G_
  obtain⟨sc,scr,rfl,hS,l63,kk⟩:=h
  dsimp only[G_]
  clear G_
  have nd:=sc_law.nd
  refine⟨_,(pss_cons (ps_asg (pe_cal c__law_game (hr.mono (by decide)) rfl strictP.pass (pa_cons (pv 0) pa_nil (se rfl)) (he:=se rfl) (hpl:=na rfl)) (pg_tupK (K:=K) (n:=5) rfl (pgs_cons (pg_name (i:=1) nd rfl (Or.inl rfl)) (pgs_cons (pg_name (i:=2) nd rfl (Or.inl rfl)) (pgs_cons (pg_name (i:=3) nd rfl (Or.inl rfl)) (pgs_cons (pg_name (i:=4) nd rfl (Or.inl rfl)) (pgs_cons (pg_name (i:=5) nd rfl (Or.inl rfl)) pgs_nil)))))))
  (pss_cons (ps_set (i:=6) nd rfl (Or.inl rfl) (pe_mk m_Play (hr.mono (by decide)) rfl strictP.pass (pa_cons (pe_tupS (pa_cons (pv 1) (pa_cons (pv 2) pa_nil (se rfl)) (se rfl))) pa_nil (se rfl)) (he:=se rfl) (hpl:=na rfl)))
  (pss_cons (ps_set (i:=7) nd rfl (Or.inl rfl) (pe_lst pa_nil))
  (pss_cons (ps_set (i:=8) nd rfl (Or.inl rfl) pe_int)
  (pss_cons (ps_set (i:=9) nd rfl (Or.inl rfl) pe_int)
  (pss_cons (ps_for PassesOwn.never rfl (pi_range1 rfl T.z_range (pa_cons (pe_op op_add pe_int (pe_op op_modB (pe_cal c__law_cell (hr.mono (by decide)) rfl strictP.pass (pa_cons (pv 0) (pa_cons pe_int pa_nil (se rfl)) (se rfl)) (he:=se rfl) (hpl:=na rfl)) pe_int)) pa_nil (se rfl))) (pg_name (i:=10) nd rfl (Or.inl rfl)) (pss_cons (ps_set (i:=11) nd rfl (Or.inl rfl) (pe_op op_add (pe_op op_mulB (pe_op op_modB (pe_cal c__law_cell (hr.mono (by decide)) rfl strictP.pass (pa_cons (pv 0) (pa_cons pe_int pa_nil (se rfl)) (se rfl)) (he:=se rfl) (hpl:=na rfl)) pe_int) (pe_op op_add (pe_op op_mulB (pv 10) (pv 10)) pe_int)) (pe_cal c__law_cell (hr.mono (by decide)) rfl strictP.pass (pa_cons (pv 0) (pa_cons (pe_op op_add pe_int (pe_op op_modB (pv 10) pe_int)) pa_nil (se rfl)) (se rfl)) (he:=se rfl) (hpl:=na rfl))))
  (pss_cons (ps_set (i:=12) nd rfl (Or.inl rfl) (pe_ix ix_listH (pe_lst (pa_cons (pe_ix ix_listH (pv 5) (pe_cal c__law_mixed (hr.mono (by decide)) rfl strictP.pass (pa_cons (pv 11) (pa_cons pe_int pa_nil (se rfl)) (se rfl)) (he:=se rfl) (hpl:=na rfl)) (fun _ _=>rfl)) (pa_cons (pe_op op_add pe_int (pe_cal c__law_mixed (hr.mono (by decide)) rfl strictP.pass (pa_cons (pv 11) (pa_cons (pv 3) pa_nil (se rfl)) (se rfl)) (he:=se rfl) (hpl:=na rfl))) pa_nil (se rfl)) (se rfl))) (pv 8) (fun _ _=>rfl)))
  (pss_cons (ps_set (i:=13) nd rfl (Or.inl rfl) (pe_ix ix_listH (pe_lst (pa_cons pe_int (pa_cons (pe_ix ix_listH (pv 5) pe_int (fun _ _=>rfl)) pa_nil (se rfl)) (se rfl))) (pv 8) (fun _ _=>rfl)))
  (pss_cons (ps_set (i:=14) nd rfl (Or.inl rfl) (pe_ix ix_listH (pe_lst (pa_cons pe_str (pa_cons pe_str pa_nil (se rfl)) (se rfl))) (pe_callTy call_int_b (by rfl) T.z_int rfl (pa_cons (pe_cmpR op_ge (pe_callB call_lenL (by rfl) T.z_len PySem.boot_len (pa_cons (pv 7) pa_nil (se rfl)) (he:=se rfl) (hpl:=na rfl)) pe_int (nomark _)) pa_nil (se rfl)) (he:=se rfl) (hpl:=na rfl)) (fun _ _=>rfl)))
  (pss_cons (ps_if (PW.pt (pw_and (pt_cmpR op_gt (pv 10) pe_int (nomark _)) (pw_and1 (pt_cmpR op_ne (pe_cal c__law_refused (hr.mono (by decide)) rfl strictP.pass (pa_cons (pv 6) (pa_cons (pv 13) pa_nil (se rfl)) (se rfl)) (he:=se rfl) (hpl:=na rfl)) pe_str (nomark _))))) (pss_one (ps_ret pe_bl))
   pss_nil)
  (pss_cons (ps_if (pt_cmpR op_ne (pe_cal c__law_refused (hr.mono (by decide)) rfl strictP.pass (pa_cons (pv 6) (pa_cons (pv 12) pa_nil (se rfl)) (se rfl)) (he:=se rfl) (hpl:=na rfl)) (pv 14) (nomark _)) (pss_one (ps_ret pe_bl))
   pss_nil)
  (pss_one (ps_if (pt_cmpR op_eq (pv 14) pe_str (nomark _)) (pss_cons (ps_expr (pe_bm PySem.F.plainAttrs_list PySem.F.slot_list_append PySem.F.type_list_append mt_append.r (pv 7) (pa_cons (pe_callTy call_str_v (by rfl) T.z_str rfl (pa_cons (pv 12) pa_nil (se rfl)) (he:=se rfl) (hpl:=na rfl)) pa_nil (se rfl))))
  (pss_cons (ps_set (i:=9) nd rfl (Or.inl rfl) (pe_op op_add (pv 9) (pv 8)))
  (pss_one (ps_set (i:=8) nd rfl (Or.inl rfl) (pe_callTy call_int_b (by rfl) T.z_int rfl (pa_cons (pe_and (pe_cmpR op_eq (pv 8) pe_int (nomark _)) (pe_one (pe_cmpR op_eq (pv 12) (pe_ix ix_listH (pv 5) pe_int (fun _ _=>rfl)) (nomark _)))) pa_nil (se rfl)) (he:=se rfl) (hpl:=na rfl))))))
   pss_nil)))))))))
  (pss_cons (ps_if (PW.pt (pw_or (pt_cmpR op_ne (pe_mt0 m_Play_shown T.cl_Play (pv 6) (hr.mono (by decide)) strictP.pass) (pe_bm PySem.F.plainAttrs_str PySem.F.slot_str_join PySem.F.type_str_join (mt_joinK (K:=K)) pe_str (pa_cons (pv 7) pa_nil (se rfl))) (nomark _)) (pw_or1 (pt_cmpR (op_neD hr.units) (pe_mt0 m_Play_points T.cl_Play (pv 6) (hr.mono (by decide)) strictP.pass) (pe_tupS (pa_cons (pe_op op_mulB (pe_ix ix_tupH (pv 4) pe_int (fun _ _=>rfl)) (pv 9)) (pa_cons pe_int pa_nil (se rfl)) (se rfl))) (nomark _))))) (pss_one (ps_ret pe_bl))
   pss_nil)
  (pss_cons (ps_set (i:=12) nd rfl (Or.inl rfl) (pe_ix ix_listH (pe_lst (pa_cons (pe_ix ix_listH (pv 5) pe_int (fun _ _=>rfl)) (pa_cons pe_str pa_nil (se rfl)) (se rfl))) (pv 8) (fun _ _=>rfl)))
  (pss_cons (ps_if (PW.pt (pw_and (pt_cmpR op_eq (pe_callB call_lenL (by rfl) T.z_len PySem.boot_len (pa_cons (pv 7) pa_nil (se rfl)) (he:=se rfl) (hpl:=na rfl)) pe_int (nomark _)) (pw_and1 (pt_not (pt_val (pe_cal c__law_no_play (hr.mono (by decide)) rfl strictP.pass (pa_cons (pv 1) (pa_cons (pv 2) (pa_cons (pe_bm PySem.F.plainAttrs_str PySem.F.slot_str_join PySem.F.type_str_join (mt_joinK (K:=K)) pe_str (pa_cons (pe_op op_cat (pv 7) (pe_lst (pa_cons (pv 12) pa_nil (se rfl)))) pa_nil (se rfl))) pa_nil (se rfl)) (se rfl)) (se rfl)) (he:=se rfl) (hpl:=na rfl))))))) (pss_one (ps_ret pe_bl))
   pss_nil)
  (pss_cons (ps_if (pt_cmpR (op_neD hr.units) (pe_mt0 m_Play_stands T.cl_Play (pe_cal c_read_play (hr.mono (by decide)) rfl strictP.pass (pa_cons (pe_tupS (pa_cons (pv 1) (pa_cons (pv 2) pa_nil (se rfl)) (se rfl))) (pa_cons (pe_bm PySem.F.plainAttrs_str PySem.F.slot_str_join PySem.F.type_str_join (mt_joinK (K:=K)) pe_str (pa_cons (pv 7) pa_nil (se rfl))) pa_nil (se rfl)) (se rfl)) (he:=se rfl) (hpl:=na rfl)) (hr.mono (by decide)) strictP.pass) (pe_mt0 m_Play_stands T.cl_Play (pv 6) (hr.mono (by decide)) strictP.pass) (nomark _)) (pss_one (ps_ret pe_bl))
   pss_nil)
  (pss_cons (ps_expr (pe_mt0 m_Play_back T.cl_Play (pv 6) (hr.mono (by decide)) strictP.pass))
  (pss_cons (ps_set (i:=12) nd rfl (Or.inl rfl) (pe_ix ix_listH (pv 7) (pe_un un_neg pe_int) (fun _ _=>rfl)))
  (pss_cons (ps_if (pt_cmpR (op_notIn_seqK (K:=K)) (pv 12) (pv 5) rfl) (pss_one (ps_set (i:=12) nd rfl (Or.inl rfl) (pe_callTy call_int_s (by rfl) T.z_int rfl (pa_cons (pv 12) pa_nil (se rfl)) (he:=se rfl) (hpl:=na rfl))))
   pss_nil)
  (pss_one (ps_ret (pe_and (pe_cmpR op_eq (pe_cal c__law_refused (hr.mono (by decide)) rfl strictP.pass (pa_cons (pv 6) (pa_cons (pv 12) pa_nil (se rfl)) (se rfl)) (he:=se rfl) (hpl:=na rfl)) pe_str (nomark _)) (pe_one (pe_cmpR op_eq (pe_mt0 m_Play_shown T.cl_Play (pv 6) (hr.mono (by decide)) strictP.pass) (pe_bm PySem.F.plainAttrs_str PySem.F.slot_str_join PySem.F.type_str_join (mt_joinK (K:=K)) pe_str (pa_cons (pv 7) pa_nil (se rfl))) (nomark _))))))))))))))))))),?_⟩
  refine(?_:let q0_:TS:=_;let q1_:TS:=_;let q2_:TS:=_;let q3_:TS:=_;let q4_:TS:=_;let q5_:TS:=_;let q6_:TS:=_;let q7_:TS:=_;let q8_:TS:=_;let q9_:TS:=_;let q10_:TS:=_;let q11_:TS:=_;let q12_:TS:=_;let q13_:TS:=_;tSeq q0_ (tSeq q1_ (tSeq q2_ (tSeq q3_ (tSeq q4_ (tSeq q5_ (tSeq q6_ (tSeq q7_ (tSeq q8_ (tSeq q9_ (tSeq q10_ (tSeq q11_ (tSeq q12_ q13_)))))))))))) _ _ _)
  intro q0_ q1_ q2_ q3_ q4_ q5_ q6_ q7_ q8_ q9_ q10_ q11_ q12_ q13_
  have szl:=sizeLine_eq
  have lk0:∀{k:Str} {a b c d:V},(k==Str.ofString "course")=false→(k==Str.ofString "state")=false→(k==Str.ofString "paid")=false→(k==Str.ofString "trail")=false→List.lookup k (plF a b c d)=none:=fun h1 h2 h3 h4=>by
   unfold plF
   rw[lk_ne h1,lk_ne h2,lk_ne h3,lk_ne h4]
   rfl
  change tSeq _ _ _ [some (.ref sc),none,none,none,none,none,none,none,none,none,none,none,none,none,none] H
  refine seq_c (fun N=>∀c1 c2 py nl n2 H1 G,Same H H1→Rep H1 (csD (G8.g G).cs) (.ref c1)→Rep H1 (psD G.g.ps) (.ref c2)→H1 py=some (.tup [.int G.t,.int 1])→H1 nl=some (.lst [.str G.n0,.str G.n1,.str n2])→G8.Ok G→Wrd n2→N [some (.ref sc),some (.ref c1),some (.ref c2),some (.int (G.sd:Int)),some (.ref py),some (.ref nl),none,none,none,none,none,none,none,none,none] H1) ?_ (fun N hN=>?_)
  case refine_2=>
   simp_all only[spGam]
   refine⟨scr,hS,fun q c1 c2 py nl n2 H1 G s1 hq r1 r2 hpy hnl gg w2=>?_⟩
   refine⟨q,_,rfl,SqT.of hq,rfl,?_⟩
   simp_all only[]
   exact hN c1 c2 py nl n2 H1 G s1 r1 r2 hpy hnl gg w2
  rintro c1 c2 py nl n2 H1 G s1 rc rp hpy hnl gg w2
  change tSeq _ _ _ [some (.ref sc),some (.ref c1),some (.ref c2),some (.int (G.sd:Int)),some (.ref py),some (.ref nl),none,none,none,none,none,none,none,none,none] H1
  refine seq_c (fun N=>∀p tl tb Ha H2,Same H1 Ha→MadeP q_Play q_Course Ha Ha H2 p tl tb G.g G.n0→N [some (.ref sc),some (.ref c1),some (.ref c2),some (.int (G.sd:Int)),some (.ref py),some (.ref nl),some (.ref p),none,none,none,none,none,none,none,none] H2) ?_ (fun N hN=>?_)
  case refine_2=>
   simp_all only[tMake,spPin]
   refine⟨by omega,fun q Ha sA nA eA=>?_⟩
   intro x dx nx ndx ne
   have su:Same Ha (upd (upd Ha dx (HO.own x)) x (HO.ins q_Play dx [])):=fun a o h=>by
    rw[upd_ne (fun z=>by rw[z,nx] at h;cases h),upd_ne (fun z=>by rw[z,ndx] at h;cases h)]
    exact h
   refine⟨dx,upd_same,Ha,su,nx,G.g,rep_t2.mpr ⟨q,_,_,rfl,eA,rc.mono sA,rp.mono sA⟩,G8.good gg,1,G.n0,rfl,G.n0,G.a0 _,fun c sv pv' tl tb H' kH ntl ntb h1 h2 h3 co st rp=>?_⟩
   exact hN x tl tb Ha H' sA (made_of (Same.refl Ha) nx ndx kH ntl ntb h1 h2 h3 co st rp)
  rintro p tl tb Ha H2 sA md
  have hS1:=s1.seq hS
  change tSeq _ _ _ [some (.ref sc),some (.ref c1),some (.ref c2),some (.int (G.sd:Int)),some (.ref py),some (.ref nl),some (.ref p),none,none,none,none,none,none,none,none] H2
  refine seq_c (fun N=>∀gl H3,Same H1 H3→H1 gl=none→gl≠p→gl≠tl→gl≠tb→H3 gl=some (.lst (List.map V.str []))→P8 q_Play q_Course [p,tl,tb,gl] H3 p tl tb G []→N [some (.ref sc),some (.ref c1),some (.ref c2),some (.int (G.sd:Int)),some (.ref py),some (.ref nl),some (.ref p),some (.ref gl),none,none,none,none,none,none,none] H3) ?_ (fun N hN=>?_)
  case refine_2=>
   simp_all only[]
   refine⟨by omega,fun gl ngl=>?_⟩
   have gp:∀a∈[p,tl,tb],gl≠a:=fun a ha z=>by
    refine(?_:let G_:Prop:=_;G_)
    intro G_
    obtain⟨Y,dp,c,sv,pv',_,h1,h2,h3,_⟩:=md.ex
    dsimp only[G_]
    simp only[List.mem_cons,List.not_mem_nil,or_false] at ha
    rcases ha with rfl | rfl | rfl
    ·rw[z,h1] at ngl;cases ngl
    ·rw[z,h2] at ngl;cases ngl
    ·rw[z,h3] at ngl;cases ngl
   have sg:=same_upd (o:=.lst []) ngl
   refine hN gl _ (sA.trans (md.sm.trans sg)) (none_of sA (none_of md.sm ngl)) (gp p (by simp)) (gp tl (by simp)) (gp tb (by simp)) upd_same ⟨?_,Oks.nil,Nat.zero_le _⟩
   have e:pd8 G (run8 G [])=(0,1):=by
    show(G.t* ((0:Nat):Int),(1:Int))=_
    simp
   rw[e]
   refine md.ply sg (fun a o _ n h z=>?_) ⟨by simp,by simp,by simp⟩ (fun a ha=>?_) (G8.good gg)
   ·simp only[List.mem_cons,List.not_mem_nil,or_false,not_or] at n z
    rcases z with z | z | z | z
    ·exact n.1 z
    ·exact n.2.1 z
    ·exact n.2.2 z
    ·rw[z,ngl] at h;cases h
   ·refine(?_:let G_:Prop:=_;G_)
    intro G_
    obtain⟨Y,dp,c,sv,pv',_,h1,h2,h3,_⟩:=md.ex
    dsimp only[G_]
    simp only[List.mem_cons,List.not_mem_nil,or_false] at ha
    rcases ha with rfl | rfl | rfl | rfl
    ·exact⟨_,sg _ _ h1,fun _ z=>by cases z⟩
    ·exact⟨_,sg _ _ h2,fun _ z=>by cases z⟩
    ·exact⟨_,sg _ _ h3,fun _ z=>by cases z⟩
    ·exact⟨_,upd_same,fun _ z=>by cases z⟩
  rintro gl H3 s3 ngl glp gltl gltb hgl p3
  have np:=none_of sA md.np.1
  have ntl:=none_of sA md.np.2.1
  have ntb:=none_of sA md.np.2.2
  have k3s:∀{Ha Hb},Same H1 Ha→K3 p tl tb Ha Hb→Same H1 Hb:=fun {Ha Hb} sa k a o h=>k a o (fun z=>by rw[z,np] at h;cases h) (fun z=>by rw[z,ntl] at h;cases h) (fun z=>by rw[z,ntb] at h;cases h) (sa _ _ h)
  change tSeq _ _ _ [some (.ref sc),some (.ref c1),some (.ref c2),some (.int (G.sd:Int)),some (.ref py),some (.ref nl),some (.ref p),some (.ref gl),none,none,none,none,none,none,none] H3
  refine seq_c (fun N=>N [some (.ref sc),some (.ref c1),some (.ref c2),some (.int (G.sd:Int)),some (.ref py),some (.ref nl),some (.ref p),some (.ref gl),some (.int 0),none,none,none,none,none,none] H3) ?_ (fun N hN=>?_)
  case refine_2=>simp_all only[];exact hN
  change tSeq _ _ _ [some (.ref sc),some (.ref c1),some (.ref c2),some (.int (G.sd:Int)),some (.ref py),some (.ref nl),some (.ref p),some (.ref gl),some (.int 0),none,none,none,none,none,none] H3
  refine seq_c (fun N=>N [some (.ref sc),some (.ref c1),some (.ref c2),some (.int (G.sd:Int)),some (.ref py),some (.ref nl),some (.ref p),some (.ref gl),some (.int 0),some (.int 0),none,none,none,none,none] H3) ?_ (fun N hN=>?_)
  case refine_2=>simp_all only[];exact hN
  obtain⟨St,hSt⟩:∃St:List Str→L2.St→Hp→Prop,∀ws σ H',St ws σ H'↔(Same H1 H'∧H' gl=some (.lst (List.map V.str ws))∧P8 q_Play q_Course [p,tl,tb,gl] H' p tl tb G ws∧∃x1 x2 x3 x4 x5,σ=[some (.ref sc),some (.ref c1),some (.ref c2),some (.int (G.sd:Int)),some (.ref py),some (.ref nl),some (.ref p),some (.ref gl),some (.int (if (run8 G ws).1=true then 1 else 0)),some (.int ((run8 G ws).2.2:Int)),x1,x2,x3,x4,x5]):=⟨_,fun _ _ _=>Iff.rfl⟩
  change tSeq _ _ _ [some (.ref sc),some (.ref c1),some (.ref c2),some (.int (G.sd:Int)),some (.ref py),some (.ref nl),some (.ref p),some (.ref gl),some (.int 0),some (.int 0),none,none,none,none,none] H3
  refine seq_c (fun N=>∀ws σ H',190≤ws.length→ws.length≤200→St ws σ H'→N σ H') ?_ (fun N hN=>?_)
  case refine_2=>
   simp_all only[spC]
   refine⟨scr,s3.seq hS1,by decide,by decide,fun n=>?_⟩
   have b0:=Int.emod_nonneg n (show(23:Int)≠0 by decide)
   have b1:=Int.emod_lt_of_pos n (show(0:Int)<23 by decide)
   refine⟨by decide,by omega,by omega,for_src (src_range (Ok:=fun _=>True)) (fun i σ H6=>∃ws,ws.length=min i 200∧St ws σ H6) ⟨[],rfl,(hSt _ _ _).mpr ⟨s3,hgl,p3,_,_,_,_,_,rfl⟩⟩ (fun _ _ _ _ _=>trivial) ?_ ?_⟩
   case refine_2=>
    intro σ H6 p2_
    refine(?_:let G_:Prop:=_;G_)
    intro G_
    obtain⟨ws,lw,h6⟩:=p2_
    dsimp only[G_]
    exact hN ws σ H6 (by omega) (by omega) h6
   intro i x σ H6 H7 hi p6_ p7_
   refine(?_:let G_:Prop:=_;G_)
   intro G_
   obtain⟨ws,lw,h6⟩:=p6_
   obtain⟨rfl,rfl⟩:=p7_
   have hi:i< (190+n % 23).toNat:=hi
   obtain⟨s6,hg6,p6,x1,x2,x3,x4,x5,rfl⟩:=(hSt _ _ _).mp h6
   dsimp only[G_]
   clear G_
   simp only[gName,List.set_cons_succ,List.set_cons_zero,Int.zero_add]
   generalize hav:(if (run8 G ws).1=true then (1:Int) else 0)=av
   obtain⟨dv,hdv⟩:∃dv,dv=if 200≤ws.length then Str.ofString "many" else Str.ofString "taken":=⟨_,rfl⟩
   have a1:(run8 G ws).1=true→av=1:=fun a=>by rw[←hav,if_pos a]
   have a0:¬(run8 G ws).1=true→av=0:=fun a=>by rw[←hav,if_neg a]
   have ii:(i:Int)* (i:Int)≤300*300:=Int.mul_le_mul (by omega) (by omega) (by omega) (by decide)
   have ij:0≤(i:Int)* (i:Int):=Int.mul_nonneg (by omega) (by omega)
   change tSeq _ _ _ [some (.ref sc),some (.ref c1),some (.ref c2),some (.int (G.sd:Int)),some (.ref py),some (.ref nl),some (.ref p),some (.ref gl),some (.int av),some (.int ((run8 G ws).2.2:Int)),some (.int (i:Int)),x2,x3,x4,x5] H7
   refine seq_c (fun N=>∀c:Int,N [some (.ref sc),some (.ref c1),some (.ref c2),some (.int (G.sd:Int)),some (.ref py),some (.ref nl),some (.ref p),some (.ref gl),some (.int av),some (.int ((run8 G ws).2.2:Int)),some (.int (i:Int)),some (.int c),x3,x4,x5] H7) ?_ (fun N hN=>?_)
   case refine_2=>
    simp_all only[spC]
    exact⟨scr,s6.seq hS1,by decide,by decide,fun n1=>⟨by decide,mulOkL (by omega) (by omega),mulOkL (by have:=Int.emod_nonneg n1 (show(1000003:Int)≠0 by decide);omega) (by have:=Int.emod_lt_of_pos n1 (show(0:Int)<1000003 by decide);omega),by decide,scr,s6.seq hS1,by omega,by omega,fun n2=>hN _⟩⟩
   rintro c
   change tSeq _ _ _ [some (.ref sc),some (.ref c1),some (.ref c2),some (.int (G.sd:Int)),some (.ref py),some (.ref nl),some (.ref p),some (.ref gl),some (.int av),some (.int ((run8 G ws).2.2:Int)),some (.int (i:Int)),some (.int c),x3,x4,x5] H7
   refine seq_c (fun N=>∀v w H8,Same H7 H8→OkV G (run8 G ws) v w→N [some (.ref sc),some (.ref c1),some (.ref c2),some (.int (G.sd:Int)),some (.ref py),some (.ref nl),some (.ref p),some (.ref gl),some (.int av),some (.int ((run8 G ws).2.2:Int)),some (.int (i:Int)),some (.int c),some v,x4,x5] H8) ?_ (fun N hN=>?_)
   case refine_2=>
    simp_all only[spMix]
    have m0:=mix_0 (c:=c) (m:=2) (by decide)
    have m1:=mix_l (c:=c) (m:=2) (by decide)
    have m3:mixF c 2=0∨mixF c 2=1:=by omega
    have q0:=mix_0 (c:=c) (m:=(G.sd:Int)) (by have:=gg.sd.1;omega)
    have q1:=mix_l (c:=c) (m:=(G.sd:Int)) (by have:=gg.sd.1;omega)
    obtain⟨z,ez,hz⟩:∃z,atI [V.str G.n0,V.str G.n1,V.str n2] (mixF c 2)=some (.str z)∧(z=G.n0∨z=G.n1):=by
     rcases m3 with e | e <;>rw[e]
     ·exact⟨_,at0,.inl rfl⟩
     ·exact⟨_,at1,.inr rfl⟩
    refine⟨by decide,_,s6 _ _ hnl,_,ez,by have:=gg.sd.1;omega,by omega,fun q nq=>⟨_,upd_same,?_⟩⟩
    by_cases a:(run8 G ws).1=true
    ·obtain rfl:=a1 a
     refine⟨_,at1,hN _ _ _ (same_upd nq) ⟨?_,.inr ⟨a,_,rfl,by omega,by omega,rfl⟩⟩⟩
     unfold ok8
     rw[if_pos a]
     exact⟨_,by omega,by omega,rfl⟩
    ·obtain rfl:=a0 a
     refine⟨_,at0,hN _ _ _ (same_upd nq) ⟨?_,.inl ⟨by simpa using a,rfl⟩⟩⟩
     unfold ok8
     rw[if_neg a]
     exact hz
   rintro v w' H8 s8 okv
   change tSeq _ _ _ [some (.ref sc),some (.ref c1),some (.ref c2),some (.int (G.sd:Int)),some (.ref py),some (.ref nl),some (.ref p),some (.ref gl),some (.int av),some (.int ((run8 G ws).2.2:Int)),some (.int (i:Int)),some (.int c),some v,x4,x5] H8
   refine seq_c (fun N=>∀u H9,Same H8 H9→BdV G (run8 G ws) u→N [some (.ref sc),some (.ref c1),some (.ref c2),some (.int (G.sd:Int)),some (.ref py),some (.ref nl),some (.ref p),some (.ref gl),some (.int av),some (.int ((run8 G ws).2.2:Int)),some (.int (i:Int)),some (.int c),some v,some u,x5] H9) ?_ (fun N hN=>?_)
   case refine_2=>
    simp_all only[]
    refine⟨_,s8 _ _ (s6 _ _ hnl),_,at0,by omega,fun q nq=>⟨_,upd_same,?_⟩⟩
    by_cases a:(run8 G ws).1=true
    ·obtain rfl:=a1 a
     exact⟨_,at1,hN _ _ (same_upd nq) (.inr ⟨a,_,rfl⟩)⟩
    ·obtain rfl:=a0 a
     exact⟨_,at0,hN _ _ (same_upd nq) (.inl ⟨by simpa using a,_,rfl⟩)⟩
   rintro u H9 s9 bdv
   change tSeq _ _ _ [some (.ref sc),some (.ref c1),some (.ref c2),some (.int (G.sd:Int)),some (.ref py),some (.ref nl),some (.ref p),some (.ref gl),some (.int av),some (.int ((run8 G ws).2.2:Int)),some (.int (i:Int)),some (.int c),some v,some u,x5] H9
   refine seq_c (fun N=>∀H10,Same H9 H10→N [some (.ref sc),some (.ref c1),some (.ref c2),some (.int (G.sd:Int)),some (.ref py),some (.ref nl),some (.ref p),some (.ref gl),some (.int av),some (.int ((run8 G ws).2.2:Int)),some (.int (i:Int)),some (.int c),some v,some u,some (.str dv)] H10) ?_ (fun N hN=>?_)
   case refine_2=>
    simp_all only[]
    refine⟨by omega,fun q nq=>⟨_,same_upd nq _ _ (s9 _ _ (s8 _ _ hg6)),_,upd_same,?_⟩⟩
    rw[List.length_map]
    by_cases a:200≤ws.length
    ·rw[if_pos a] at hdv
     rw[if_pos (by omega)]
     subst hdv
     exact⟨_,at1,hN _ (same_upd nq)⟩
    ·rw[if_neg a] at hdv
     rw[if_neg (by omega)]
     subst hdv
     exact⟨_,at0,hN _ (same_upd nq)⟩
   rintro H10 s10
   have s710:=s8.trans (s9.trans s10)
   have p10:=p6.same s710
   change tSeq _ _ _ [some (.ref sc),some (.ref c1),some (.ref c2),some (.int (G.sd:Int)),some (.ref py),some (.ref nl),some (.ref p),some (.ref gl),some (.int av),some (.int ((run8 G ws).2.2:Int)),some (.int (i:Int)),some (.int c),some v,some u,some (.str dv)] H10
   refine seq_c (fun N=>∀H11,K3 p tl tb H10 H11→P8 q_Play q_Course [p,tl,tb,gl] H11 p tl tb G ws→N [some (.ref sc),some (.ref c1),some (.ref c2),some (.int (G.sd:Int)),some (.ref py),some (.ref nl),some (.ref p),some (.ref gl),some (.int av),some (.int ((run8 G ws).2.2:Int)),some (.int (i:Int)),some (.int c),some v,some u,some (.str dv)] H11) ?_ (fun N hN=>?_)
   case refine_2=>
    simp_all only[spRef]
    by_cases a:(188:Int)< (i:Int)
    ·rw[if_pos a]
     refine⟨tl,tb,_,G,gg,ws,p10,.inr ⟨bdv,fun H' k' p'=>?_⟩⟩
     rw[if_neg (by simp)]
     exact hN H' k' p'
    ·rw[if_neg a,if_neg (by decide)]
     exact hN _ (.of (Same.refl _)) p10
   rintro H11 k11 p11
   have S11:=k3s (s6.trans s710) k11
   have g11:=k11 _ _ glp gltl gltb (s710 _ _ hg6)
   change tSeq _ _ _ [some (.ref sc),some (.ref c1),some (.ref c2),some (.int (G.sd:Int)),some (.ref py),some (.ref nl),some (.ref p),some (.ref gl),some (.int av),some (.int ((run8 G ws).2.2:Int)),some (.int (i:Int)),some (.int c),some v,some u,some (.str dv)] H11
   refine seq_c (fun N=>∀H12,K3 p tl tb H11 H12→P8 q_Play q_Course [p,tl,tb,gl] H12 p tl tb G (if 200≤ws.length then ws else ws++ [w'])→N [some (.ref sc),some (.ref c1),some (.ref c2),some (.int (G.sd:Int)),some (.ref py),some (.ref nl),some (.ref p),some (.ref gl),some (.int av),some (.int ((run8 G ws).2.2:Int)),some (.int (i:Int)),some (.int c),some v,some u,some (.str dv)] H12) ?_ (fun N hN=>?_)
   case refine_2=>
    simp_all only[spRef]
    refine⟨tl,tb,_,G,gg,ws,p11,.inl ⟨w',okv,fun h H' k' p'=>?_,fun h H' k' p'=>?_⟩⟩
    ·have a:¬200≤ws.length:=by omega
     rw[if_neg a] at hdv
     rw[if_neg (by rw[hdv];simp)]
     exact hN H' k' (by rw[if_neg a];exact p')
    ·have a:200≤ws.length:=by omega
     rw[if_pos a] at hdv
     rw[if_neg (by rw[hdv];simp)]
     exact hN H' k' (by rw[if_pos a];exact p')
   rintro H12 k12 p12
   have S12:=k3s S11 k12
   have g12:=k12 _ _ glp gltl gltb g11
   by_cases l2:200≤ws.length
   ·rw[if_pos l2] at p12 hdv
    subst hdv hav
    simp_all only[]
    rw[if_neg (by decide +kernel)]
    exact⟨ws,by omega,(hSt _ _ _).mpr ⟨S12,g12,p12,_,_,_,_,_,rfl⟩⟩
   ·rw[if_neg l2] at p12 hdv
    subst hdv
    have p13:=p12.put (ys:=List.map V.str ws++ [V.str w']) (gl:=gl) (by simp) glp gltl gltb
    have S13:Same H1 (upd H12 gl (.lst (List.map V.str ws++ [V.str w']))):=fun a o h=>by
     rw[upd_ne (fun z=>by rw[z,ngl] at h;cases h)]
     exact S12 _ _ h
    simp_all only[rAppend]
    obtain⟨ok,⟨a,rfl⟩ | ⟨a,k,rfl,k0,k1,rfl⟩⟩:=okv
    ·have na:¬(run8 G ws).1=true:=by rw[a];decide
     obtain rfl:=a0 na
     refine⟨.inl ⟨rfl,_,SqL.of g12⟩,w',rfl,_,g12,by rw[List.length_map];omega,?_⟩
     rw[if_pos rfl]
     have e:(if V.str w'=V.str G.n1 then (1:Int) else 0)=if (run8 G (ws++ [w'])).1=true then 1 else 0:=by
      rw[run_snoc]
      unfold nx8
      rw[if_neg na]
      by_cases z:w'=G.n1
      ·rw[if_pos (by rw[z]),if_pos z,if_pos rfl]
      ·rw[if_neg (fun h=>z (by injection h)),if_neg z,if_neg na]
     have e2:(((run8 G ws).2.2:Nat):Int)+0=(((run8 G (ws++ [w'])).2.2:Nat):Int):=by
      rw[run_snoc,Int.add_zero]
      unfold nx8
      rw[if_neg na]
      split <;>rfl
     refine⟨_,S13 _ _ hnl,_,at1,rfl,ws++ [w'],by rw[List.length_append];show ws.length+1=_;omega,(hSt _ _ _).mpr ⟨S13,?_,p13,some (.int (i:Int)),some (.int c),some (.str w'),some u,some (.str (Str.ofString "taken")),?_⟩⟩
     ·rw[upd_same,List.map_append];rfl
     ·rw[e,e2]
    ·obtain rfl:=a1 a
     refine⟨.inl ⟨rfl,_,SqL.of g12⟩,numT k,if_pos (Nat.lt_of_le_of_lt (Nat.log2_le_self _) (by have:=gg.sd.2;omega)),_,g12,by rw[List.length_map];omega,?_⟩
     rw[if_neg (by decide)]
     refine⟨ws++ [numT k],by rw[List.length_append];show ws.length+1=_;omega,(hSt _ _ _).mpr ⟨S13,?_,p13,some (.int (i:Int)),some (.int c),some (.int k),some u,some (.str (Str.ofString "taken")),?_⟩⟩
     ·rw[upd_same,List.map_append];rfl
     ·have e:nx8 G (run8 G ws) (numT k)=(false,(run8 G ws).2.1,(run8 G ws).2.2+1):=by unfold nx8;rw[if_pos a]
      rw[run_snoc,e]
      rfl
  rintro ws σ H4 l190 l200 h4
  refine(?_:let G_:Prop:=_;G_)
  intro G_
  obtain⟨s4,hg4,p4,x1,x2,x3,x4,x5,rfl⟩:=(hSt _ _ _).mp h4
  dsimp only[G_]
  clear G_
  clear hSt h4
  generalize hav:(if (run8 G ws).1=true then (1:Int) else 0)=av
  have a1:(run8 G ws).1=true→av=1:=fun a=>by rw[←hav,if_pos a]
  have a0:¬(run8 G ws).1=true→av=0:=fun a=>by rw[←hav,if_neg a]
  have wf:=oks_words gg p4.ok
  have wl:∀w∈ws,w.length≤20:=fun w hw=>Nat.le_trans (wf w hw).1.2.2 (by decide)
  have tw:∀ws':List Str,(∀w∈ws',w.length≤20)→∀e∈tr8 G ws',e.1.length≤20:=fun ws' h e he=>h e.1 (by rw[←tr_words G ws'];exact List.mem_map.mpr ⟨e,he,rfl⟩)
  have jw:∀ws':List Str,joinW (tr8 G ws')=Txt.join (Str.ofString " ") ws':=fun ws'=>by unfold joinW;rw[tr_words]
  have jok:∀ws':List Str,(∀w∈ws',w.length≤20)→ws'.length≤201→JoinOk (Str.ofString " ") ws'=true:=fun ws' h l=>joinOk_of (B:=20) h (by rw[show(Str.ofString " ").length=1 by decide +kernel];omega)
  have nax:noAsk (if (run8 G ws).1=true then G.tw else G.pk):=fun c k a b e=>by
   by_cases a:(run8 G ws).1=true
   ·rw[if_pos a] at e;cases e
   ·rw[if_neg a] at e;cases e
  have ptw:ptsW G.g (st8 G (run8 G ws)) (pd8 G (run8 G ws)) (if (run8 G ws).1=true then G.tw else G.pk)=pd8 G (run8 G ws):=by
   by_cases a:(run8 G ws).1=true
   ·rw[if_pos a];rfl
   ·rw[if_neg a];rfl
  have nend:∀w,endW G.g.cs (st8 G (run8 G ws)).2 (if (run8 G ws).1=true then G.tw else G.pk)=some w→HfB 500000 w:=fun w e=>by
   by_cases a:(run8 G ws).1=true
   ·rw[if_pos a] at e;cases e
   ·rw[if_neg a] at e;cases e
  have trl:=tr_length G ws
  refine(?_:let G_:Prop:=_;G_)
  intro G_
  obtain⟨dp,c,sv',pv'',xs',hpl,_⟩:=p4.ply.ex
  dsimp only[G_]
  change tSeq _ _ _ [some (.ref sc),some (.ref c1),some (.ref c2),some (.int (G.sd:Int)),some (.ref py),some (.ref nl),some (.ref p),some (.ref gl),some (.int av),some (.int ((run8 G ws).2.2:Int)),x1,x2,x3,x4,x5] H4
  refine seq_c (fun N=>∀H5,Same H4 H5→N [some (.ref sc),some (.ref c1),some (.ref c2),some (.int (G.sd:Int)),some (.ref py),some (.ref nl),some (.ref p),some (.ref gl),some (.int av),some (.int ((run8 G ws).2.2:Int)),x1,x2,x3,x4,x5] H5) ?_ (fun N hN=>?_)
  case refine_2=>
   simp_all only[tMeth,spShw,spPts,rJoin,rEqD]
   refine⟨_,_,hpl,lk0 (by decide +kernel) (by decide +kernel) (by decide +kernel) (by decide +kernel),tl,tb,_,G.g,_,_,_,p4.ply,by omega,tw ws wl,fun H5 s5=>⟨rfl,ws,SqL.of (s5 _ _ hg4),jok ws wl (by omega),?_⟩⟩
   rw[jw,if_neg (by simp)]
   refine⟨_,_,s5 _ _ hpl,lk0 (by decide +kernel) (by decide +kernel) (by decide +kernel) (by decide +kernel),tl,tb,_,G.g,_,_,_,p4.ply.same s5,_,look8 gg _,nax,pd_hf gg p4.len,nend,fun u H6 s6 ru=>?_⟩
   rw[ptw] at ru
   refine⟨_,s6 _ _ (s5 _ _ (s4 _ _ hpy)),_,at0,_,rfl,mulOkL (by have:=gg.t;omega) (by have:=gg.t;omega),by omega,fun q H7 s7 nq eq=>⟨_,ru.mono s7,rep_wrow.mpr ⟨q,rfl,eq⟩,?_,?_,?_⟩⟩
   ·refine(?_:let G_:Prop:=_;G_)
    intro G_
    obtain⟨q',e,_⟩:=rep_wrow.mp ru
    dsimp only[G_]
    exact⟨q',e⟩
   ·show 1+max 0 (max 0 0)≤40;decide
   ·rw[if_neg (by decide)]
    exact hN _ (s5.trans (s6.trans s7))
  rintro H5 s5
  change tSeq _ _ _ [some (.ref sc),some (.ref c1),some (.ref c2),some (.int (G.sd:Int)),some (.ref py),some (.ref nl),some (.ref p),some (.ref gl),some (.int av),some (.int ((run8 G ws).2.2:Int)),x1,x2,x3,x4,x5] H5
  refine seq_c (fun N=>∀z H6,Same H5 H6→ok8 G (run8 G ws) z→N [some (.ref sc),some (.ref c1),some (.ref c2),some (.int (G.sd:Int)),some (.ref py),some (.ref nl),some (.ref p),some (.ref gl),some (.int av),some (.int ((run8 G ws).2.2:Int)),x1,x2,some (.str z),x4,x5] H6) ?_ (fun N hN=>?_)
  case refine_2=>
   simp_all only[]
   refine⟨_,s5 _ _ (s4 _ _ hnl),_,at0,by omega,fun q nq=>⟨_,upd_same,?_⟩⟩
   by_cases a:(run8 G ws).1=true
   ·obtain rfl:=a1 a
    refine⟨_,at1,hN _ _ (same_upd nq) ?_⟩
    unfold ok8
    rw[if_pos a]
    exact⟨1,by decide,by have:=gg.sd.1;omega,by decide +kernel⟩
   ·obtain rfl:=a0 a
    refine⟨_,at0,hN _ _ (same_upd nq) ?_⟩
    unfold ok8
    rw[if_neg a]
    exact .inl rfl
  rintro z H6 s6 okz
  have S6:=s4.trans (s5.trans s6)
  have g6:=(s5.trans s6) _ _ hg4
  change tSeq _ _ _ [some (.ref sc),some (.ref c1),some (.ref c2),some (.int (G.sd:Int)),some (.ref py),some (.ref nl),some (.ref p),some (.ref gl),some (.int av),some (.int ((run8 G ws).2.2:Int)),x1,x2,some (.str z),x4,x5] H6
  refine seq_c (fun N=>∀H7,Same H6 H7→N [some (.ref sc),some (.ref c1),some (.ref c2),some (.int (G.sd:Int)),some (.ref py),some (.ref nl),some (.ref p),some (.ref gl),some (.int av),some (.int ((run8 G ws).2.2:Int)),x1,x2,some (.str z),x4,x5] H7) ?_ (fun N hN=>?_)
  case refine_2=>
   simp_all only[spNop,rJoin,rCat]
   refine⟨_,g6,?_⟩
   rw[List.length_map]
   by_cases a:((ws.length:Nat):Int)=200
   ·rw[if_pos a]
    refine⟨rfl,by omega,fun q nq=>⟨_,same_upd nq _ _ g6,_,upd_same,by rw[List.length_map];show ws.length+1≤sizeLine;omega,fun q2 nq2=>?_⟩⟩
    have sq:=(same_upd (o:=.lst [V.str z]) nq).trans (same_upd (o:=.lst (List.map V.str ws++ [V.str z])) nq2)
    have wz:=(ok_word gg okz).1
    refine⟨ws++ [z],SqL.of (by rw[upd_same,List.map_append];rfl),jok _ (fun w hw=>?_) (by rw[List.length_append];show ws.length+1≤201;omega),G,ws++ [z],rfl,rc.mono (S6.trans sq),rp.mono (S6.trans sq),gg,p4.ok.snoc okz,by rw[List.length_append];show ws.length+1=201;omega,fun H' s'=>?_⟩
    ·rcases List.mem_append.mp hw with hw | hw
     ·exact wl w hw
     ·rw[List.mem_singleton.mp hw];exact Nat.le_trans wz.2.2 (by decide)
    ·rw[if_neg (by decide)]
     exact hN _ (sq.trans s')
   ·rw[if_neg a,if_neg (by decide)]
    exact hN _ (Same.refl _)
  rintro H7 s7
  have S7:=S6.trans s7
  have p7:=p4.same (s5.trans (s6.trans s7))
  have g7:=s7 _ _ g6
  change tSeq _ _ _ [some (.ref sc),some (.ref c1),some (.ref c2),some (.int (G.sd:Int)),some (.ref py),some (.ref nl),some (.ref p),some (.ref gl),some (.int av),some (.int ((run8 G ws).2.2:Int)),x1,x2,some (.str z),x4,x5] H7
  refine seq_c (fun N=>∀H8,Same H7 H8→N [some (.ref sc),some (.ref c1),some (.ref c2),some (.int (G.sd:Int)),some (.ref py),some (.ref nl),some (.ref p),some (.ref gl),some (.int av),some (.int ((run8 G ws).2.2:Int)),x1,x2,some (.str z),x4,x5] H8) ?_ (fun N hN=>?_)
  case refine_2=>
   simp_all only[spRdp,tMeth,spStn,rJoin,rEqD]
   refine⟨by omega,fun q Hb sB nB eB=>⟨rfl,ws,SqL.of (sB _ _ g7),jok ws wl (by omega),G,ws,rfl,rep_t2.mpr ⟨q,_,_,rfl,eB,rc.mono (S7.trans sB),rp.mono (S7.trans sB)⟩,gg,p4.ok,by omega,fun h=>absurd h (by omega),fun _ p2 tl2 tb2 Hc sC nC pC=>?_⟩⟩
   refine(?_:let G_:Prop:=_;G_)
   intro G_
   obtain⟨dp2,c2',sv2,pv2,xs2,hpl2,_⟩:=pC.ply.ex
   obtain⟨dp7,c7,sv7,pv7,xs7,hpl7,_⟩:=p7.ply.ex
   dsimp only[G_]
   have sBC:=sB.trans sC
   refine⟨_,_,hpl2,lk0 (by decide +kernel) (by decide +kernel) (by decide +kernel) (by decide +kernel),tl2,tb2,_,G.g,_,_,_,pC.ply,fun a l Hd sD na nl' ha hl=>⟨_,_,sD _ _ (sBC _ _ hpl7),lk0 (by decide +kernel) (by decide +kernel) (by decide +kernel) (by decide +kernel),tl,tb,_,G.g,_,_,_,p7.ply.same (sBC.trans sD),fun a' l' He sE na' nl'' ha' hl'=>?_⟩⟩
   refine⟨.tup [.str (st8 G (run8 G ws)).1,.lst ((st8 G (run8 G ws)).2.map Dat.int)],?_,?_,⟨_,rfl⟩,?_,?_⟩
   ·exact rep_t2.mpr ⟨a,_,_,rfl,sE _ _ ha,rep_str.mpr rfl,rep_lst.mpr ⟨l,_,rfl,sE _ _ hl,ints_rep _⟩⟩
   ·exact rep_t2.mpr ⟨a',_,_,rfl,ha',rep_str.mpr rfl,rep_lst.mpr ⟨l',_,rfl,hl',ints_rep _⟩⟩
   ·show 1+max 0 (max (1+depth.dL _) 0)≤40
    have:=depth_flat (ds:=(st8 G (run8 G ws)).2.map Dat.int) (n:=0) fun d hd=>by obtain⟨i,_,rfl⟩:=List.mem_map.mp hd;exact Nat.le_refl _
    omega
   ·rw[if_neg (by decide)]
    exact hN _ (sBC.trans (sD.trans sE))
  rintro H8 s8
  have S8:=S7.trans s8
  have p8:=p7.same s8
  have g8:=s8 _ _ g7
  obtain⟨w0,ws0,ews⟩:∃w0 ws0,ws=ws0++ [w0]:=by
   have ne:ws≠[]:=fun e=>by rw[e] at l190;simp at l190
   exact⟨_,_,(List.dropLast_concat_getLast ne).symm⟩
  subst ews
  have l0:ws0.length<200:=by rw[List.length_append,List.length_singleton] at l200;omega
  obtain⟨ok0,okw⟩:=p8.ok.init
  change tSeq _ _ _ [some (.ref sc),some (.ref c1),some (.ref c2),some (.int (G.sd:Int)),some (.ref py),some (.ref nl),some (.ref p),some (.ref gl),some (.int av),some (.int ((run8 G (ws0++ [w0])).2.2:Int)),x1,x2,some (.str z),x4,x5] H8
  refine seq_c (fun N=>∀H9,K3 p tl tb H8 H9→P8 q_Play q_Course [p,tl,tb,gl] H9 p tl tb G ws0→N [some (.ref sc),some (.ref c1),some (.ref c2),some (.int (G.sd:Int)),some (.ref py),some (.ref nl),some (.ref p),some (.ref gl),some (.int av),some (.int ((run8 G (ws0++ [w0])).2.2:Int)),x1,x2,some (.str z),x4,x5] H9) ?_ (fun N hN=>?_)
  case refine_2=>
   simp_all only[tMeth,spBck]
   refine(?_:let G_:Prop:=_;G_)
   intro G_
   obtain⟨dp8,c8,sv8,pv8,xs8,hpl8,_⟩:=p8.ply.ex
   dsimp only[G_]
   have trl8:=tr_length G (ws0++ [w0])
   refine⟨_,_,hpl8,lk0 (by decide +kernel) (by decide +kernel) (by decide +kernel) (by decide +kernel),tl,tb,_,G.g,_,_,_,p8.ply,by omega,(fun z=>by rw[tr_snoc] at z;simp at z),fun tr' e' ee H' k' pl'=>hN H' k' ⟨?_,ok0,by omega⟩⟩
   rw[tr_snoc] at ee
   obtain⟨y1,y2⟩:=List.append_inj' ee rfl
   cases y2
   rw[y1]
   exact pl'
  rintro H9 k9 p9
  have S9:=k3s S8 k9
  have g9:=k9 _ _ glp gltl gltb g8
  change tSeq _ _ _ [some (.ref sc),some (.ref c1),some (.ref c2),some (.int (G.sd:Int)),some (.ref py),some (.ref nl),some (.ref p),some (.ref gl),some (.int av),some (.int ((run8 G (ws0++ [w0])).2.2:Int)),x1,x2,some (.str z),x4,x5] H9
  refine seq_c (fun N=>N [some (.ref sc),some (.ref c1),some (.ref c2),some (.int (G.sd:Int)),some (.ref py),some (.ref nl),some (.ref p),some (.ref gl),some (.int av),some (.int ((run8 G (ws0++ [w0])).2.2:Int)),x1,x2,some (.str w0),x4,x5] H9) ?_ (fun N hN=>?_)
  case refine_2=>
   simp_all only[]
   refine⟨_,g9,_,?_,hN⟩
   rw[List.map_append]
   exact at_last
  change tSeq _ _ _ [some (.ref sc),some (.ref c1),some (.ref c2),some (.int (G.sd:Int)),some (.ref py),some (.ref nl),some (.ref p),some (.ref gl),some (.int av),some (.int ((run8 G (ws0++ [w0])).2.2:Int)),x1,x2,some (.str w0),x4,x5] H9
  refine seq_c (fun N=>∀v,OkV G (run8 G ws0) v w0→N [some (.ref sc),some (.ref c1),some (.ref c2),some (.int (G.sd:Int)),some (.ref py),some (.ref nl),some (.ref p),some (.ref gl),some (.int av),some (.int ((run8 G (ws0++ [w0])).2.2:Int)),x1,x2,some v,x4,x5] H9) ?_ (fun N hN=>?_)
  case refine_2=>
   simp_all only[rIn]
   refine⟨_,.inl (SqL.of (S9 _ _ hnl)),rfl,rfl,?_⟩
   by_cases a:(run8 G ws0).1=true
   ·obtain⟨k,k0,k1,rfl⟩:∃v:Int,1≤v∧v≤(G.sd:Int)∧w0=numT v:=by
     have okw:=okw
     unfold ok8 at okw
     rwa [if_pos a] at okw
    have s20:=gg.sd.2
    have nb:=num_b (k:=k) (by omega) (by omega)
    have out:∀{y:Str},Wrd y→numT k≠y:=fun {y} hy e=>by
     obtain⟨ch,hch⟩:∃c,c∈(numT k).cps.toList:=by
      cases e:(numT k).cps.toList with
      | nil=>
       have:(numT k).length=0:=by rw[←show(numT k).cps.toList.length=(numT k).length from Array.length_toList,e];rfl
       have:=nb.1.2.1
       omega
      | cons a r=>exact⟨a,List.mem_cons_self⟩
     have h1:=fig_lo ch (nb.2.1 ch hch)
     rw[e] at hch
     have:=(hy.2.2.2 ch hch).1
     omega
    have ei:inV (V.str (numT k)) [V.str G.n0,V.str G.n1,V.str n2]=false:=by
     unfold inV
     simp [eqV,Ne.symm (out gg.w0),Ne.symm (out gg.w1),Ne.symm (out w2)]
    rw[ei,if_pos rfl]
    exact⟨by have:=nb.1.2.2;omega,k,PySem.W.KIN.num_reads (by omega) (by omega),hN _ ⟨okw,.inr ⟨a,k,rfl,k0,k1,rfl⟩⟩⟩
   ·have hz:w0=G.n0∨w0=G.n1:=by
     have okw:=okw
     unfold ok8 at okw
     rwa [if_neg a] at okw
    have ei:inV (V.str w0) [V.str G.n0,V.str G.n1,V.str n2]=true:=by
     unfold inV
     rcases hz with e | e <;>simp [eqV,e]
    rw[ei,if_neg (by decide)]
    exact hN _ ⟨okw,.inl ⟨by simpa using a,rfl⟩⟩
  rintro v okv
  simp_all only[spRef,tMeth,spShw,rJoin]
  refine⟨tl,tb,_,G,gg,ws0,p9,.inl ⟨w0,okv,fun h H' k' p'=>?_,fun h=>absurd h (by omega)⟩⟩
  refine(?_:let G_:Prop:=_;G_)
  intro G_
  obtain⟨dpz,cz,svz,pvz,xsz,hplz,_⟩:=p'.ply.ex
  dsimp only[G_]
  have trlz:=tr_length G (ws0++ [w0])
  refine⟨_,_,hplz,lk0 (by decide +kernel) (by decide +kernel) (by decide +kernel) (by decide +kernel),tl,tb,_,G.g,_,_,_,p'.ply,by omega,tw _ wl,fun Hz sz=>⟨rfl,_,SqL.of (sz _ _ (k' _ _ glp gltl gltb g9)),jok _ wl (by omega),?_⟩⟩
  rw[jw,decide_eq_true rfl]
  exact kk _
end
theorem all_mk {l:PySem.W.OpenLaw} {w:World} {K:PySem.W.Frag} {h:Heap} {mg:Str→Option Value} {fa:Addr} (X:K.In h) (G:h.Ns mainGlobals mg) (hfa:mg "law"=some (.ref fa))
  {f32:Addr} {od32 an32:Option Addr} {sl32:Array (Option Value)} {oc32 kV32 dc32 pm32 cd32 ct32:Value} {vt_FIGURES:Tok} {vt_MOST_FIGURES:Tok} {vt_MOST_THROWS:Tok} {vt_MOST_BOTTOM:Tok} {vt_MOST_STEPS:Tok} {vt_MOST_VALUE:Tok} {q_LuckError q_NoShare q_NoTable q_NoEnd q_TooMany q_NoStep q_NoPlay q_Course q_Play:Addr} {fI_Course:Addr} {odI_Course anI_Course:Option Addr} {slI_Course:Array (Option Value)} {ocI_Course kVI_Course dcI_Course pmI_Course cdI_Course ctI_Course:Value} {fI_Play:Addr} {odI_Play anI_Play:Option Addr} {slI_Play:Array (Option Value)} {ocI_Play kVI_Play dcI_Play pmI_Play cdI_Play ctI_Play:Value} {fM_Course_asked:Addr} {odM_Course_asked anM_Course_asked:Option Addr} {slM_Course_asked:Array (Option Value)} {ocM_Course_asked kVM_Course_asked dcM_Course_asked pmM_Course_asked cdM_Course_asked ctM_Course_asked:Value} {fM_Course_by_row:Addr} {odM_Course_by_row anM_Course_by_row:Option Addr} {slM_Course_by_row:Array (Option Value)} {ocM_Course_by_row kVM_Course_by_row dcM_Course_by_row pmM_Course_by_row cdM_Course_by_row ctM_Course_by_row:Value} {fM_Course_by_value:Addr} {odM_Course_by_value anM_Course_by_value:Option Addr} {slM_Course_by_value:Array (Option Value)} {ocM_Course_by_value kVM_Course_by_value dcM_Course_by_value pmM_Course_by_value cdM_Course_by_value ctM_Course_by_value:Value} {fM_Course_do:Addr} {odM_Course_do anM_Course_do:Option Addr} {slM_Course_do:Array (Option Value)} {ocM_Course_do kVM_Course_do dcM_Course_do pmM_Course_do cdM_Course_do ctM_Course_do:Value} {fM_Course_end_worth:Addr} {odM_Course_end_worth anM_Course_end_worth:Option Addr} {slM_Course_end_worth:Array (Option Value)} {ocM_Course_end_worth kVM_Course_end_worth dcM_Course_end_worth pmM_Course_end_worth cdM_Course_end_worth ctM_Course_end_worth:Value} {fM_Course_holds:Addr} {odM_Course_holds anM_Course_holds:Option Addr} {slM_Course_holds:Array (Option Value)} {ocM_Course_holds kVM_Course_holds dcM_Course_holds pmM_Course_holds cdM_Course_holds ctM_Course_holds:Value} {fM_Course_open_rows:Addr} {odM_Course_open_rows anM_Course_open_rows:Option Addr} {slM_Course_open_rows:Array (Option Value)} {ocM_Course_open_rows kVM_Course_open_rows dcM_Course_open_rows pmM_Course_open_rows cdM_Course_open_rows ctM_Course_open_rows:Value} {fM_Course_put:Addr} {odM_Course_put anM_Course_put:Option Addr} {slM_Course_put:Array (Option Value)} {ocM_Course_put kVM_Course_put dcM_Course_put pmM_Course_put cdM_Course_put ctM_Course_put:Value} {fM_Course_start:Addr} {odM_Course_start anM_Course_start:Option Addr} {slM_Course_start:Array (Option Value)} {ocM_Course_start kVM_Course_start dcM_Course_start pmM_Course_start cdM_Course_start ctM_Course_start:Value} {fM_Course_table_at:Addr} {odM_Course_table_at anM_Course_table_at:Option Addr} {slM_Course_table_at:Array (Option Value)} {ocM_Course_table_at kVM_Course_table_at dcM_Course_table_at pmM_Course_table_at cdM_Course_table_at ctM_Course_table_at:Value} {fM_Course_what_at:Addr} {odM_Course_what_at anM_Course_what_at:Option Addr} {slM_Course_what_at:Array (Option Value)} {ocM_Course_what_at kVM_Course_what_at dcM_Course_what_at pmM_Course_what_at cdM_Course_what_at ctM_Course_what_at:Value} {fM_Course_words_at:Addr} {odM_Course_words_at anM_Course_words_at:Option Addr} {slM_Course_words_at:Array (Option Value)} {ocM_Course_words_at kVM_Course_words_at dcM_Course_words_at pmM_Course_words_at cdM_Course_words_at ctM_Course_words_at:Value} {fM_Play_back:Addr} {odM_Play_back anM_Play_back:Option Addr} {slM_Play_back:Array (Option Value)} {ocM_Play_back kVM_Play_back dcM_Play_back pmM_Play_back cdM_Play_back ctM_Play_back:Value} {fM_Play_go:Addr} {odM_Play_go anM_Play_go:Option Addr} {slM_Play_go:Array (Option Value)} {ocM_Play_go kVM_Play_go dcM_Play_go pmM_Play_go cdM_Play_go ctM_Play_go:Value} {fM_Play_open_ways:Addr} {odM_Play_open_ways anM_Play_open_ways:Option Addr} {slM_Play_open_ways:Array (Option Value)} {ocM_Play_open_ways kVM_Play_open_ways dcM_Play_open_ways pmM_Play_open_ways cdM_Play_open_ways ctM_Play_open_ways:Value} {fM_Play_points:Addr} {odM_Play_points anM_Play_points:Option Addr} {slM_Play_points:Array (Option Value)} {ocM_Play_points kVM_Play_points dcM_Play_points pmM_Play_points cdM_Play_points ctM_Play_points:Value} {fM_Play_say:Addr} {odM_Play_say anM_Play_say:Option Addr} {slM_Play_say:Array (Option Value)} {ocM_Play_say kVM_Play_say dcM_Play_say pmM_Play_say cdM_Play_say ctM_Play_say:Value} {fM_Play_shown:Addr} {odM_Play_shown anM_Play_shown:Option Addr} {slM_Play_shown:Array (Option Value)} {ocM_Play_shown kVM_Play_shown dcM_Play_shown pmM_Play_shown cdM_Play_shown ctM_Play_shown:Value} {fM_Play_stands:Addr} {odM_Play_stands anM_Play_stands:Option Addr} {slM_Play_stands:Array (Option Value)} {ocM_Play_stands kVM_Play_stands dcM_Play_stands pmM_Play_stands cdM_Play_stands ctM_Play_stands:Value} {fM_Play_throw:Addr} {odM_Play_throw anM_Play_throw:Option Addr} {slM_Play_throw:Array (Option Value)} {ocM_Play_throw kVM_Play_throw dcM_Play_throw pmM_Play_throw cdM_Play_throw ctM_Play_throw:Value}
  (h0:FnI K "is_whole" "is_whole" (top 11))
  (h1:FnI K "common_divisor" "common_divisor" (top 12))
  (h2:FnI K "share" "share" (top 13))
  (h3:FnI K "plus" "plus" (top 14))
  (h4:FnI K "is_figures" "is_figures" (top 15))
  (h5:FnI K "whole_in" "whole_in" (top 16))
  (h6:FnI K "table_by_weights" "table_by_weights" (top 18))
  (h7:FnI K "table_of" "table_of" (top 19))
  (h8:FnI K "power" "power" (top 23))
  (h9:FnI K "most_faces" "most_faces" (top 24))
  (h10:FnI K "part_bottom" "part_bottom" (top 25))
  (h11:FnI K "part_count" "part_count" (top 26))
  (h12:FnI K "check_size" "check_size" (top 27))
  (h13:FnI K "dice_faces" "dice_faces" (top 28))
  (h14:FnI K "again_faces" "again_faces" (top 29))
  (h15:FnI K "burst_faces" "burst_faces" (top 30))
  (h16:FnI K "part_faces" "part_faces" (top 31))
  (h17:FnI K "value_of_pools" "value_of" (top 32))
  (h18:FnI K "sides_product" "sides_product" (top 34))
  (h19:FnI K "part_throws" "part_throws" (top 35))
  (h20:FnI K "throws_by_bottom" "throws_by_bottom" (top 36))
  (h21:FnI K "pool_table" "pool_table" (top 37))
  (h22:FnI K "own_rows" "own_rows" (top 39))
  (h23:FnI K "own_what" "own_what" (top 40))
  (h24:FnI K "value_of_plays" "value_of" (top 46))
  (h25:FnI K "take_step" "take_step" (top 48))
  (h26:FnI K "read_play" "read_play" (top 49))
  (h27:FnI K "_law_cell" "_law_cell" (top 51))
  (h28:FnI K "_law_mixed" "_law_mixed" (top 52))
  (h29:FnI K "_law_game" "_law_game" (top 53))
  (h30:FnI K "_law_refused" "_law_refused" (top 54))
  (h31:FnI K "_law_no_play" "_law_no_play" (top 55))
  (a32:PySem.W.nsIn K mainGlobals "law"=some (some (.ref f32))) (l32:K.lookup f32=some ⟨oc32,od32,.func (PySem.W.fnOf "law" "law" (defArgs (top 56)) (defBody (top 56)) (defScope (top 56)) .none kV32 dc32 pm32 an32 cd32 ct32),sl32⟩) (e32:PySem.W.codeIn K cd32 "law"=true) (k32:PySem.W.keepIn K (.ref f32)=true)
  (z_abs:PySem.W.nsIn K mainGlobals "abs"=some none)
  (z_all:PySem.W.nsIn K mainGlobals "all"=some none)
  (z_bool:PySem.W.nsIn K mainGlobals "bool"=some none)
  (z_enumerate:PySem.W.nsIn K mainGlobals "enumerate"=some none)
  (z_int:PySem.W.nsIn K mainGlobals "int"=some none)
  (z_isinstance:PySem.W.nsIn K mainGlobals "isinstance"=some none)
  (z_len:PySem.W.nsIn K mainGlobals "len"=some none)
  (z_list:PySem.W.nsIn K mainGlobals "list"=some none)
  (z_max:PySem.W.nsIn K mainGlobals "max"=some none)
  (z_min:PySem.W.nsIn K mainGlobals "min"=some none)
  (z_range:PySem.W.nsIn K mainGlobals "range"=some none)
  (z_sorted:PySem.W.nsIn K mainGlobals "sorted"=some none)
  (z_str:PySem.W.nsIn K mainGlobals "str"=some none)
  (z_sum:PySem.W.nsIn K mainGlobals "sum"=some none)
  (c_FIGURES:PySem.W.nsIn K mainGlobals "FIGURES"=some (some (.str "0123456789" vt_FIGURES)))
  (c_MOST_FIGURES:PySem.W.nsIn K mainGlobals "MOST_FIGURES"=some (some (.int 12 vt_MOST_FIGURES)))
  (c_MOST_THROWS:PySem.W.nsIn K mainGlobals "MOST_THROWS"=some (some (.int 1296 vt_MOST_THROWS)))
  (c_MOST_BOTTOM:PySem.W.nsIn K mainGlobals "MOST_BOTTOM"=some (some (.int 1000000 vt_MOST_BOTTOM)))
  (c_MOST_STEPS:PySem.W.nsIn K mainGlobals "MOST_STEPS"=some (some (.int 200 vt_MOST_STEPS)))
  (c_MOST_VALUE:PySem.W.nsIn K mainGlobals "MOST_VALUE"=some (some (.int 999 vt_MOST_VALUE)))
  (k_LuckError:PySem.W.nsIn K mainGlobals "LuckError"=some (some (.ref q_LuckError)))
  (k_NoShare:PySem.W.nsIn K mainGlobals "NoShare"=some (some (.ref q_NoShare)))
  (k_NoTable:PySem.W.nsIn K mainGlobals "NoTable"=some (some (.ref q_NoTable)))
  (k_NoEnd:PySem.W.nsIn K mainGlobals "NoEnd"=some (some (.ref q_NoEnd)))
  (k_TooMany:PySem.W.nsIn K mainGlobals "TooMany"=some (some (.ref q_TooMany)))
  (k_NoStep:PySem.W.nsIn K mainGlobals "NoStep"=some (some (.ref q_NoStep)))
  (k_NoPlay:PySem.W.nsIn K mainGlobals "NoPlay"=some (some (.ref q_NoPlay)))
  (k_Course:PySem.W.nsIn K mainGlobals "Course"=some (some (.ref q_Course)))
  (k_Play:PySem.W.nsIn K mainGlobals "Play"=some (some (.ref q_Play)))
  (x_NoShare:PySem.W.excIn K q_NoShare bmVE newVE=true)
  (x_NoTable:PySem.W.excIn K q_NoTable bmVE newVE=true)
  (x_TooMany:PySem.W.excIn K q_TooMany bmVE newVE=true)
  (x_NoStep:PySem.W.excIn K q_NoStep bmVE newVE=true)
  (x_NoPlay:PySem.W.excIn K q_NoPlay bmVE newVE=true)
  (y_TooManycls:(PySem.W.clsIn K q_TooMany).isSome=true)
  (y_TooManyga:PySem.W.findIn K (.ref q_TooMany) "__getattribute__"=some (some (.builtin "BaseException.__getattribute__")))
  (y_TooManygt:PySem.W.findIn K (.ref q_TooMany) "__getattr__"=some none)
  (y_TooManycl:PySem.W.findIn K (.ref q_TooMany) "__class__"=some (some (.builtin "object.__class__")))
  (y_TooManybe:PySem.W.mroIn K q_TooMany (.type "BaseException")=some true)
  (y_TooManyob:PySem.W.mroIn K q_TooMany (.type "object")=some true)
  (y_NoStepcls:(PySem.W.clsIn K q_NoStep).isSome=true)
  (y_NoStepga:PySem.W.findIn K (.ref q_NoStep) "__getattribute__"=some (some (.builtin "BaseException.__getattribute__")))
  (y_NoStepgt:PySem.W.findIn K (.ref q_NoStep) "__getattr__"=some none)
  (y_NoStepcl:PySem.W.findIn K (.ref q_NoStep) "__class__"=some (some (.builtin "object.__class__")))
  (y_NoStepbe:PySem.W.mroIn K q_NoStep (.type "BaseException")=some true)
  (y_NoStepob:PySem.W.mroIn K q_NoStep (.type "object")=some true)
  (y_NoPlaycls:(PySem.W.clsIn K q_NoPlay).isSome=true)
  (y_NoPlayga:PySem.W.findIn K (.ref q_NoPlay) "__getattribute__"=some (some (.builtin "BaseException.__getattribute__")))
  (y_NoPlaygt:PySem.W.findIn K (.ref q_NoPlay) "__getattr__"=some none)
  (y_NoPlaycl:PySem.W.findIn K (.ref q_NoPlay) "__class__"=some (some (.builtin "object.__class__")))
  (y_NoPlaybe:PySem.W.mroIn K q_NoPlay (.type "BaseException")=some true)
  (y_NoPlayob:PySem.W.mroIn K q_NoPlay (.type "object")=some true)
  (e_NoPlay_LuckError:PySem.W.exmOne K (.ref q_NoPlay) (.ref q_LuckError)=some true)
  (e_NoStep_LuckError:PySem.W.exmOne K (.ref q_NoStep) (.ref q_LuckError)=some true)
  (e_NoStep_NoStep:PySem.W.exmOne K (.ref q_NoStep) (.ref q_NoStep)=some true)
  (e_TooMany_LuckError:PySem.W.exmOne K (.ref q_TooMany) (.ref q_LuckError)=some true)
  (e_TooMany_TooMany:PySem.W.exmOne K (.ref q_TooMany) (.ref q_TooMany)=some true)
  (f_NoStep_TooMany:PySem.W.exmOne K (.ref q_NoStep) (.ref q_TooMany)=some false)
  (f_TooMany_NoStep:PySem.W.exmOne K (.ref q_TooMany) (.ref q_NoStep)=some false)
  (i_NoPlay_NoPlay:PySem.W.kitOne K (.ref q_NoPlay) (.ref q_NoPlay)=some true)
  (i_NoStep_NoStep:PySem.W.kitOne K (.ref q_NoStep) (.ref q_NoStep)=some true)
  (i_TooMany_TooMany:PySem.W.kitOne K (.ref q_TooMany) (.ref q_TooMany)=some true)
  (n_NoPlay_TooMany:PySem.W.kitOne K (.ref q_NoPlay) (.ref q_TooMany)=some false)
  (n_NoStep_NoEnd:PySem.W.kitOne K (.ref q_NoStep) (.ref q_NoEnd)=some false)
  (n_NoStep_TooMany:PySem.W.kitOne K (.ref q_NoStep) (.ref q_TooMany)=some false)
  (n_TooMany_NoEnd:PySem.W.kitOne K (.ref q_TooMany) (.ref q_NoEnd)=some false)
  (n_TooMany_NoStep:PySem.W.kitOne K (.ref q_TooMany) (.ref q_NoStep)=some false)
  (cl_Coursepg:PySem.W.plainGet K q_Course Str.empty=true)
  (cl_Coursehd:PySem.W.hasDictIn K q_Course=true)
  (cl_Coursepo:PySem.W.plainOver K q_Course=true)
  (cl_Coursesa:PySem.W.findIn K (.ref q_Course) "__setattr__"=some (some (.builtin "object.__setattr__")))
  (cl_Playpg:PySem.W.plainGet K q_Play Str.empty=true)
  (cl_Playhd:PySem.W.hasDictIn K q_Play=true)
  (cl_Playpo:PySem.W.plainOver K q_Play=true)
  (cl_Playsa:PySem.W.findIn K (.ref q_Play) "__setattr__"=some (some (.builtin "object.__setattr__")))
  (na_Course_first:PySem.W.findIn K (.ref q_Course) "first"=some none)
  (na_Course_mosts:PySem.W.findIn K (.ref q_Course) "mosts"=some none)
  (na_Course_spots:PySem.W.findIn K (.ref q_Course) "spots"=some none)
  (na_Course_tables:PySem.W.findIn K (.ref q_Course) "tables"=some none)
  (na_Course_whats:PySem.W.findIn K (.ref q_Course) "whats"=some none)
  (na_Play_course:PySem.W.findIn K (.ref q_Play) "course"=some none)
  (na_Play_paid:PySem.W.findIn K (.ref q_Play) "paid"=some none)
  (na_Play_state:PySem.W.findIn K (.ref q_Play) "state"=some none)
  (na_Play_trail:PySem.W.findIn K (.ref q_Play) "trail"=some none)
  (dia_Course:PySem.W.findIn K (.ref q_Course) "__init__"=some (some (.ref fI_Course)))
  (dii_Course:PySem.W.isFn K (.ref fI_Course)=true)
  (dil_Course:K.lookup fI_Course=some ⟨ocI_Course,odI_Course,.func (PySem.W.fnOf "__init__" "Course.__init__" (defArgs (inClass (top 41) 0)) (defBody (inClass (top 41) 0)) (defScope (inClass (top 41) 0)) .none kVI_Course dcI_Course pmI_Course anI_Course cdI_Course ctI_Course),slI_Course⟩)
  (dic_Course:PySem.W.codeIn K cdI_Course "Course.__init__"=true)
  (dik_Course:PySem.W.keepIn K (.ref fI_Course)=true)
  (dim_Course:PySem.W.makesIn K q_Course=true)
  (diq_Course:PySem.W.keepIn K (.ref q_Course)=true)
  (dia_Play:PySem.W.findIn K (.ref q_Play) "__init__"=some (some (.ref fI_Play)))
  (dii_Play:PySem.W.isFn K (.ref fI_Play)=true)
  (dil_Play:K.lookup fI_Play=some ⟨ocI_Play,odI_Play,.func (PySem.W.fnOf "__init__" "Play.__init__" (defArgs (inClass (top 45) 0)) (defBody (inClass (top 45) 0)) (defScope (inClass (top 45) 0)) .none kVI_Play dcI_Play pmI_Play anI_Play cdI_Play ctI_Play),slI_Play⟩)
  (dic_Play:PySem.W.codeIn K cdI_Play "Play.__init__"=true)
  (dik_Play:PySem.W.keepIn K (.ref fI_Play)=true)
  (dim_Play:PySem.W.makesIn K q_Play=true)
  (diq_Play:PySem.W.keepIn K (.ref q_Play)=true)
  (dma_Course_asked:PySem.W.findIn K (.ref q_Course) "asked"=some (some (.ref fM_Course_asked)))
  (dmi_Course_asked:PySem.W.isFn K (.ref fM_Course_asked)=true)
  (dml_Course_asked:K.lookup fM_Course_asked=some ⟨ocM_Course_asked,odM_Course_asked,.func (PySem.W.fnOf "asked" "Course.asked" (defArgs (inClass (top 41) 3)) (defBody (inClass (top 41) 3)) (defScope (inClass (top 41) 3)) .none kVM_Course_asked dcM_Course_asked pmM_Course_asked anM_Course_asked cdM_Course_asked ctM_Course_asked),slM_Course_asked⟩)
  (dmc_Course_asked:PySem.W.codeIn K cdM_Course_asked "Course.asked"=true)
  (dmk_Course_asked:PySem.W.keepIn K (.ref fM_Course_asked)=true)
  (dma_Course_by_row:PySem.W.findIn K (.ref q_Course) "by_row"=some (some (.ref fM_Course_by_row)))
  (dmi_Course_by_row:PySem.W.isFn K (.ref fM_Course_by_row)=true)
  (dml_Course_by_row:K.lookup fM_Course_by_row=some ⟨ocM_Course_by_row,odM_Course_by_row,.func (PySem.W.fnOf "by_row" "Course.by_row" (defArgs (inClass (top 41) 6)) (defBody (inClass (top 41) 6)) (defScope (inClass (top 41) 6)) .none kVM_Course_by_row dcM_Course_by_row pmM_Course_by_row anM_Course_by_row cdM_Course_by_row ctM_Course_by_row),slM_Course_by_row⟩)
  (dmc_Course_by_row:PySem.W.codeIn K cdM_Course_by_row "Course.by_row"=true)
  (dmk_Course_by_row:PySem.W.keepIn K (.ref fM_Course_by_row)=true)
  (dma_Course_by_value:PySem.W.findIn K (.ref q_Course) "by_value"=some (some (.ref fM_Course_by_value)))
  (dmi_Course_by_value:PySem.W.isFn K (.ref fM_Course_by_value)=true)
  (dml_Course_by_value:K.lookup fM_Course_by_value=some ⟨ocM_Course_by_value,odM_Course_by_value,.func (PySem.W.fnOf "by_value" "Course.by_value" (defArgs (inClass (top 41) 7)) (defBody (inClass (top 41) 7)) (defScope (inClass (top 41) 7)) .none kVM_Course_by_value dcM_Course_by_value pmM_Course_by_value anM_Course_by_value cdM_Course_by_value ctM_Course_by_value),slM_Course_by_value⟩)
  (dmc_Course_by_value:PySem.W.codeIn K cdM_Course_by_value "Course.by_value"=true)
  (dmk_Course_by_value:PySem.W.keepIn K (.ref fM_Course_by_value)=true)
  (dma_Course_do:PySem.W.findIn K (.ref q_Course) "do"=some (some (.ref fM_Course_do)))
  (dmi_Course_do:PySem.W.isFn K (.ref fM_Course_do)=true)
  (dml_Course_do:K.lookup fM_Course_do=some ⟨ocM_Course_do,odM_Course_do,.func (PySem.W.fnOf "do" "Course.do" (defArgs (inClass (top 41) 2)) (defBody (inClass (top 41) 2)) (defScope (inClass (top 41) 2)) .none kVM_Course_do dcM_Course_do pmM_Course_do anM_Course_do cdM_Course_do ctM_Course_do),slM_Course_do⟩)
  (dmc_Course_do:PySem.W.codeIn K cdM_Course_do "Course.do"=true)
  (dmk_Course_do:PySem.W.keepIn K (.ref fM_Course_do)=true)
  (dma_Course_end_worth:PySem.W.findIn K (.ref q_Course) "end_worth"=some (some (.ref fM_Course_end_worth)))
  (dmi_Course_end_worth:PySem.W.isFn K (.ref fM_Course_end_worth)=true)
  (dml_Course_end_worth:K.lookup fM_Course_end_worth=some ⟨ocM_Course_end_worth,odM_Course_end_worth,.func (PySem.W.fnOf "end_worth" "Course.end_worth" (defArgs (inClass (top 41) 12)) (defBody (inClass (top 41) 12)) (defScope (inClass (top 41) 12)) .none kVM_Course_end_worth dcM_Course_end_worth pmM_Course_end_worth anM_Course_end_worth cdM_Course_end_worth ctM_Course_end_worth),slM_Course_end_worth⟩)
  (dmc_Course_end_worth:PySem.W.codeIn K cdM_Course_end_worth "Course.end_worth"=true)
  (dmk_Course_end_worth:PySem.W.keepIn K (.ref fM_Course_end_worth)=true)
  (dma_Course_holds:PySem.W.findIn K (.ref q_Course) "holds"=some (some (.ref fM_Course_holds)))
  (dmi_Course_holds:PySem.W.isFn K (.ref fM_Course_holds)=true)
  (dml_Course_holds:K.lookup fM_Course_holds=some ⟨ocM_Course_holds,odM_Course_holds,.func (PySem.W.fnOf "holds" "Course.holds" (defArgs (inClass (top 41) 9)) (defBody (inClass (top 41) 9)) (defScope (inClass (top 41) 9)) .none kVM_Course_holds dcM_Course_holds pmM_Course_holds anM_Course_holds cdM_Course_holds ctM_Course_holds),slM_Course_holds⟩)
  (dmc_Course_holds:PySem.W.codeIn K cdM_Course_holds "Course.holds"=true)
  (dmk_Course_holds:PySem.W.keepIn K (.ref fM_Course_holds)=true)
  (dma_Course_open_rows:PySem.W.findIn K (.ref q_Course) "open_rows"=some (some (.ref fM_Course_open_rows)))
  (dmi_Course_open_rows:PySem.W.isFn K (.ref fM_Course_open_rows)=true)
  (dml_Course_open_rows:K.lookup fM_Course_open_rows=some ⟨ocM_Course_open_rows,odM_Course_open_rows,.func (PySem.W.fnOf "open_rows" "Course.open_rows" (defArgs (inClass (top 41) 10)) (defBody (inClass (top 41) 10)) (defScope (inClass (top 41) 10)) .none kVM_Course_open_rows dcM_Course_open_rows pmM_Course_open_rows anM_Course_open_rows cdM_Course_open_rows ctM_Course_open_rows),slM_Course_open_rows⟩)
  (dmc_Course_open_rows:PySem.W.codeIn K cdM_Course_open_rows "Course.open_rows"=true)
  (dmk_Course_open_rows:PySem.W.keepIn K (.ref fM_Course_open_rows)=true)
  (dma_Course_put:PySem.W.findIn K (.ref q_Course) "put"=some (some (.ref fM_Course_put)))
  (dmi_Course_put:PySem.W.isFn K (.ref fM_Course_put)=true)
  (dml_Course_put:K.lookup fM_Course_put=some ⟨ocM_Course_put,odM_Course_put,.func (PySem.W.fnOf "put" "Course.put" (defArgs (inClass (top 41) 1)) (defBody (inClass (top 41) 1)) (defScope (inClass (top 41) 1)) .none kVM_Course_put dcM_Course_put pmM_Course_put anM_Course_put cdM_Course_put ctM_Course_put),slM_Course_put⟩)
  (dmc_Course_put:PySem.W.codeIn K cdM_Course_put "Course.put"=true)
  (dmk_Course_put:PySem.W.keepIn K (.ref fM_Course_put)=true)
  (dma_Course_start:PySem.W.findIn K (.ref q_Course) "start"=some (some (.ref fM_Course_start)))
  (dmi_Course_start:PySem.W.isFn K (.ref fM_Course_start)=true)
  (dml_Course_start:K.lookup fM_Course_start=some ⟨ocM_Course_start,odM_Course_start,.func (PySem.W.fnOf "start" "Course.start" (defArgs (inClass (top 41) 4)) (defBody (inClass (top 41) 4)) (defScope (inClass (top 41) 4)) .none kVM_Course_start dcM_Course_start pmM_Course_start anM_Course_start cdM_Course_start ctM_Course_start),slM_Course_start⟩)
  (dmc_Course_start:PySem.W.codeIn K cdM_Course_start "Course.start"=true)
  (dmk_Course_start:PySem.W.keepIn K (.ref fM_Course_start)=true)
  (dma_Course_table_at:PySem.W.findIn K (.ref q_Course) "table_at"=some (some (.ref fM_Course_table_at)))
  (dmi_Course_table_at:PySem.W.isFn K (.ref fM_Course_table_at)=true)
  (dml_Course_table_at:K.lookup fM_Course_table_at=some ⟨ocM_Course_table_at,odM_Course_table_at,.func (PySem.W.fnOf "table_at" "Course.table_at" (defArgs (inClass (top 41) 8)) (defBody (inClass (top 41) 8)) (defScope (inClass (top 41) 8)) .none kVM_Course_table_at dcM_Course_table_at pmM_Course_table_at anM_Course_table_at cdM_Course_table_at ctM_Course_table_at),slM_Course_table_at⟩)
  (dmc_Course_table_at:PySem.W.codeIn K cdM_Course_table_at "Course.table_at"=true)
  (dmk_Course_table_at:PySem.W.keepIn K (.ref fM_Course_table_at)=true)
  (dma_Course_what_at:PySem.W.findIn K (.ref q_Course) "what_at"=some (some (.ref fM_Course_what_at)))
  (dmi_Course_what_at:PySem.W.isFn K (.ref fM_Course_what_at)=true)
  (dml_Course_what_at:K.lookup fM_Course_what_at=some ⟨ocM_Course_what_at,odM_Course_what_at,.func (PySem.W.fnOf "what_at" "Course.what_at" (defArgs (inClass (top 41) 5)) (defBody (inClass (top 41) 5)) (defScope (inClass (top 41) 5)) .none kVM_Course_what_at dcM_Course_what_at pmM_Course_what_at anM_Course_what_at cdM_Course_what_at ctM_Course_what_at),slM_Course_what_at⟩)
  (dmc_Course_what_at:PySem.W.codeIn K cdM_Course_what_at "Course.what_at"=true)
  (dmk_Course_what_at:PySem.W.keepIn K (.ref fM_Course_what_at)=true)
  (dma_Course_words_at:PySem.W.findIn K (.ref q_Course) "words_at"=some (some (.ref fM_Course_words_at)))
  (dmi_Course_words_at:PySem.W.isFn K (.ref fM_Course_words_at)=true)
  (dml_Course_words_at:K.lookup fM_Course_words_at=some ⟨ocM_Course_words_at,odM_Course_words_at,.func (PySem.W.fnOf "words_at" "Course.words_at" (defArgs (inClass (top 41) 11)) (defBody (inClass (top 41) 11)) (defScope (inClass (top 41) 11)) .none kVM_Course_words_at dcM_Course_words_at pmM_Course_words_at anM_Course_words_at cdM_Course_words_at ctM_Course_words_at),slM_Course_words_at⟩)
  (dmc_Course_words_at:PySem.W.codeIn K cdM_Course_words_at "Course.words_at"=true)
  (dmk_Course_words_at:PySem.W.keepIn K (.ref fM_Course_words_at)=true)
  (dma_Play_back:PySem.W.findIn K (.ref q_Play) "back"=some (some (.ref fM_Play_back)))
  (dmi_Play_back:PySem.W.isFn K (.ref fM_Play_back)=true)
  (dml_Play_back:K.lookup fM_Play_back=some ⟨ocM_Play_back,odM_Play_back,.func (PySem.W.fnOf "back" "Play.back" (defArgs (inClass (top 45) 7)) (defBody (inClass (top 45) 7)) (defScope (inClass (top 45) 7)) .none kVM_Play_back dcM_Play_back pmM_Play_back anM_Play_back cdM_Play_back ctM_Play_back),slM_Play_back⟩)
  (dmc_Play_back:PySem.W.codeIn K cdM_Play_back "Play.back"=true)
  (dmk_Play_back:PySem.W.keepIn K (.ref fM_Play_back)=true)
  (dma_Play_go:PySem.W.findIn K (.ref q_Play) "go"=some (some (.ref fM_Play_go)))
  (dmi_Play_go:PySem.W.isFn K (.ref fM_Play_go)=true)
  (dml_Play_go:K.lookup fM_Play_go=some ⟨ocM_Play_go,odM_Play_go,.func (PySem.W.fnOf "go" "Play.go" (defArgs (inClass (top 45) 4)) (defBody (inClass (top 45) 4)) (defScope (inClass (top 45) 4)) .none kVM_Play_go dcM_Play_go pmM_Play_go anM_Play_go cdM_Play_go ctM_Play_go),slM_Play_go⟩)
  (dmc_Play_go:PySem.W.codeIn K cdM_Play_go "Play.go"=true)
  (dmk_Play_go:PySem.W.keepIn K (.ref fM_Play_go)=true)
  (dma_Play_open_ways:PySem.W.findIn K (.ref q_Play) "open_ways"=some (some (.ref fM_Play_open_ways)))
  (dmi_Play_open_ways:PySem.W.isFn K (.ref fM_Play_open_ways)=true)
  (dml_Play_open_ways:K.lookup fM_Play_open_ways=some ⟨ocM_Play_open_ways,odM_Play_open_ways,.func (PySem.W.fnOf "open_ways" "Play.open_ways" (defArgs (inClass (top 45) 3)) (defBody (inClass (top 45) 3)) (defScope (inClass (top 45) 3)) .none kVM_Play_open_ways dcM_Play_open_ways pmM_Play_open_ways anM_Play_open_ways cdM_Play_open_ways ctM_Play_open_ways),slM_Play_open_ways⟩)
  (dmc_Play_open_ways:PySem.W.codeIn K cdM_Play_open_ways "Play.open_ways"=true)
  (dmk_Play_open_ways:PySem.W.keepIn K (.ref fM_Play_open_ways)=true)
  (dma_Play_points:PySem.W.findIn K (.ref q_Play) "points"=some (some (.ref fM_Play_points)))
  (dmi_Play_points:PySem.W.isFn K (.ref fM_Play_points)=true)
  (dml_Play_points:K.lookup fM_Play_points=some ⟨ocM_Play_points,odM_Play_points,.func (PySem.W.fnOf "points" "Play.points" (defArgs (inClass (top 45) 2)) (defBody (inClass (top 45) 2)) (defScope (inClass (top 45) 2)) .none kVM_Play_points dcM_Play_points pmM_Play_points anM_Play_points cdM_Play_points ctM_Play_points),slM_Play_points⟩)
  (dmc_Play_points:PySem.W.codeIn K cdM_Play_points "Play.points"=true)
  (dmk_Play_points:PySem.W.keepIn K (.ref fM_Play_points)=true)
  (dma_Play_say:PySem.W.findIn K (.ref q_Play) "say"=some (some (.ref fM_Play_say)))
  (dmi_Play_say:PySem.W.isFn K (.ref fM_Play_say)=true)
  (dml_Play_say:K.lookup fM_Play_say=some ⟨ocM_Play_say,odM_Play_say,.func (PySem.W.fnOf "say" "Play.say" (defArgs (inClass (top 45) 5)) (defBody (inClass (top 45) 5)) (defScope (inClass (top 45) 5)) .none kVM_Play_say dcM_Play_say pmM_Play_say anM_Play_say cdM_Play_say ctM_Play_say),slM_Play_say⟩)
  (dmc_Play_say:PySem.W.codeIn K cdM_Play_say "Play.say"=true)
  (dmk_Play_say:PySem.W.keepIn K (.ref fM_Play_say)=true)
  (dma_Play_shown:PySem.W.findIn K (.ref q_Play) "shown"=some (some (.ref fM_Play_shown)))
  (dmi_Play_shown:PySem.W.isFn K (.ref fM_Play_shown)=true)
  (dml_Play_shown:K.lookup fM_Play_shown=some ⟨ocM_Play_shown,odM_Play_shown,.func (PySem.W.fnOf "shown" "Play.shown" (defArgs (inClass (top 45) 8)) (defBody (inClass (top 45) 8)) (defScope (inClass (top 45) 8)) .none kVM_Play_shown dcM_Play_shown pmM_Play_shown anM_Play_shown cdM_Play_shown ctM_Play_shown),slM_Play_shown⟩)
  (dmc_Play_shown:PySem.W.codeIn K cdM_Play_shown "Play.shown"=true)
  (dmk_Play_shown:PySem.W.keepIn K (.ref fM_Play_shown)=true)
  (dma_Play_stands:PySem.W.findIn K (.ref q_Play) "stands"=some (some (.ref fM_Play_stands)))
  (dmi_Play_stands:PySem.W.isFn K (.ref fM_Play_stands)=true)
  (dml_Play_stands:K.lookup fM_Play_stands=some ⟨ocM_Play_stands,odM_Play_stands,.func (PySem.W.fnOf "stands" "Play.stands" (defArgs (inClass (top 45) 1)) (defBody (inClass (top 45) 1)) (defScope (inClass (top 45) 1)) .none kVM_Play_stands dcM_Play_stands pmM_Play_stands anM_Play_stands cdM_Play_stands ctM_Play_stands),slM_Play_stands⟩)
  (dmc_Play_stands:PySem.W.codeIn K cdM_Play_stands "Play.stands"=true)
  (dmk_Play_stands:PySem.W.keepIn K (.ref fM_Play_stands)=true)
  (dma_Play_throw:PySem.W.findIn K (.ref q_Play) "throw"=some (some (.ref fM_Play_throw)))
  (dmi_Play_throw:PySem.W.isFn K (.ref fM_Play_throw)=true)
  (dml_Play_throw:K.lookup fM_Play_throw=some ⟨ocM_Play_throw,odM_Play_throw,.func (PySem.W.fnOf "throw" "Play.throw" (defArgs (inClass (top 45) 6)) (defBody (inClass (top 45) 6)) (defScope (inClass (top 45) 6)) .none kVM_Play_throw dcM_Play_throw pmM_Play_throw anM_Play_throw cdM_Play_throw ctM_Play_throw),slM_Play_throw⟩)
  (dmc_Play_throw:PySem.W.codeIn K cdM_Play_throw "Play.throw"=true)
  (dmk_Play_throw:PySem.W.keepIn K (.ref fM_Play_throw)=true)
  :∃fd:FuncData,(∀(s:Shared) (v:Value),BindsTo s fd ⟨[v],[]⟩ [("_law_script",v)])∧∀base:Heap,K.In base→base.Ns mainGlobals mg→FnOk l.prog w K mg base (CX1 l.prog w) 30 fa fd ["_law_script"] (spLaw K):=by
 have e:=hfa.symm.trans (PySem.W.mg_of X G a32)
 cases e
 have T:Txt K mg q_LuckError q_NoShare q_NoTable q_NoEnd q_TooMany q_NoStep q_NoPlay q_Course q_Play:=⟨PySem.W.mg_none_of X G z_abs,PySem.W.mg_none_of X G z_all,PySem.W.mg_none_of X G z_bool,PySem.W.mg_none_of X G z_enumerate,PySem.W.mg_none_of X G z_int,PySem.W.mg_none_of X G z_isinstance,PySem.W.mg_none_of X G z_len,PySem.W.mg_none_of X G z_list,PySem.W.mg_none_of X G z_max,PySem.W.mg_none_of X G z_min,PySem.W.mg_none_of X G z_range,PySem.W.mg_none_of X G z_sorted,PySem.W.mg_none_of X G z_str,PySem.W.mg_none_of X G z_sum,h0.dn X G,h1.dn X G,h2.dn X G,h3.dn X G,h4.dn X G,h5.dn X G,h6.dn X G,h7.dn X G,h8.dn X G,h9.dn X G,h10.dn X G,h11.dn X G,h12.dn X G,h13.dn X G,h14.dn X G,h15.dn X G,h16.dn X G,h17.da X G,h18.dn X G,h19.dn X G,h20.dn X G,h21.dn X G,h22.dn X G,h23.dn X G,h24.da X G,h25.dn X G,h26.dn X G,h27.dn X G,h28.dn X G,h29.dn X G,h30.dn X G,h31.dn X G,⟨_,PySem.W.mg_of X G c_FIGURES⟩,⟨_,PySem.W.mg_of X G c_MOST_FIGURES⟩,⟨_,PySem.W.mg_of X G c_MOST_THROWS⟩,⟨_,PySem.W.mg_of X G c_MOST_BOTTOM⟩,⟨_,PySem.W.mg_of X G c_MOST_STEPS⟩,⟨_,PySem.W.mg_of X G c_MOST_VALUE⟩,PySem.W.mg_of X G k_LuckError,PySem.W.mg_of X G k_NoShare,PySem.W.mg_of X G k_NoTable,PySem.W.mg_of X G k_NoEnd,PySem.W.mg_of X G k_TooMany,PySem.W.mg_of X G k_NoStep,PySem.W.mg_of X G k_NoPlay,PySem.W.mg_of X G k_Course,PySem.W.mg_of X G k_Play,x_NoShare,x_NoTable,x_TooMany,x_NoStep,x_NoPlay,⟨y_TooManycls,y_TooManyga,y_TooManygt,y_TooManycl,y_TooManybe,y_TooManyob⟩,⟨y_NoStepcls,y_NoStepga,y_NoStepgt,y_NoStepcl,y_NoStepbe,y_NoStepob⟩,⟨y_NoPlaycls,y_NoPlayga,y_NoPlaygt,y_NoPlaycl,y_NoPlaybe,y_NoPlayob⟩,e_NoPlay_LuckError,e_NoStep_LuckError,e_NoStep_NoStep,e_TooMany_LuckError,e_TooMany_TooMany,f_NoStep_TooMany,f_TooMany_NoStep,i_NoPlay_NoPlay,i_NoStep_NoStep,i_TooMany_TooMany,n_NoPlay_TooMany,n_NoStep_NoEnd,n_NoStep_TooMany,n_TooMany_NoEnd,n_TooMany_NoStep,⟨cl_Coursepg,cl_Coursehd,cl_Coursepo,cl_Coursesa⟩,⟨cl_Playpg,cl_Playhd,cl_Playpo,cl_Playsa⟩,na_Course_first,na_Course_mosts,na_Course_spots,na_Course_tables,na_Course_whats,na_Play_course,na_Play_paid,na_Play_state,na_Play_trail,⟨_,_,fun_mk dil_Course dic_Course dik_Course,⟨dim_Course,dia_Course,dii_Course,diq_Course⟩,PySem.W.mg_of X G k_Course⟩,⟨_,_,fun_mk dil_Play dic_Play dik_Play,⟨dim_Play,dia_Play,dii_Play,diq_Play⟩,PySem.W.mg_of X G k_Play⟩,⟨_,_,fun_mk dml_Course_asked dmc_Course_asked dmk_Course_asked,⟨dma_Course_asked,dmi_Course_asked,dmk_Course_asked⟩⟩,⟨_,_,fun_mk dml_Course_by_row dmc_Course_by_row dmk_Course_by_row,⟨dma_Course_by_row,dmi_Course_by_row,dmk_Course_by_row⟩⟩,⟨_,_,fun_mk dml_Course_by_value dmc_Course_by_value dmk_Course_by_value,⟨dma_Course_by_value,dmi_Course_by_value,dmk_Course_by_value⟩⟩,⟨_,_,fun_mk dml_Course_do dmc_Course_do dmk_Course_do,⟨dma_Course_do,dmi_Course_do,dmk_Course_do⟩⟩,⟨_,_,fun_mk dml_Course_end_worth dmc_Course_end_worth dmk_Course_end_worth,⟨dma_Course_end_worth,dmi_Course_end_worth,dmk_Course_end_worth⟩⟩,⟨_,_,fun_mk dml_Course_holds dmc_Course_holds dmk_Course_holds,⟨dma_Course_holds,dmi_Course_holds,dmk_Course_holds⟩⟩,⟨_,_,fun_mk dml_Course_open_rows dmc_Course_open_rows dmk_Course_open_rows,⟨dma_Course_open_rows,dmi_Course_open_rows,dmk_Course_open_rows⟩⟩,⟨_,_,fun_mk dml_Course_put dmc_Course_put dmk_Course_put,⟨dma_Course_put,dmi_Course_put,dmk_Course_put⟩⟩,⟨_,_,fun_mk dml_Course_start dmc_Course_start dmk_Course_start,⟨dma_Course_start,dmi_Course_start,dmk_Course_start⟩⟩,⟨_,_,fun_mk dml_Course_table_at dmc_Course_table_at dmk_Course_table_at,⟨dma_Course_table_at,dmi_Course_table_at,dmk_Course_table_at⟩⟩,⟨_,_,fun_mk dml_Course_what_at dmc_Course_what_at dmk_Course_what_at,⟨dma_Course_what_at,dmi_Course_what_at,dmk_Course_what_at⟩⟩,⟨_,_,fun_mk dml_Course_words_at dmc_Course_words_at dmk_Course_words_at,⟨dma_Course_words_at,dmi_Course_words_at,dmk_Course_words_at⟩⟩,⟨_,_,fun_mk dml_Play_back dmc_Play_back dmk_Play_back,⟨dma_Play_back,dmi_Play_back,dmk_Play_back⟩⟩,⟨_,_,fun_mk dml_Play_go dmc_Play_go dmk_Play_go,⟨dma_Play_go,dmi_Play_go,dmk_Play_go⟩⟩,⟨_,_,fun_mk dml_Play_open_ways dmc_Play_open_ways dmk_Play_open_ways,⟨dma_Play_open_ways,dmi_Play_open_ways,dmk_Play_open_ways⟩⟩,⟨_,_,fun_mk dml_Play_points dmc_Play_points dmk_Play_points,⟨dma_Play_points,dmi_Play_points,dmk_Play_points⟩⟩,⟨_,_,fun_mk dml_Play_say dmc_Play_say dmk_Play_say,⟨dma_Play_say,dmi_Play_say,dmk_Play_say⟩⟩,⟨_,_,fun_mk dml_Play_shown dmc_Play_shown dmk_Play_shown,⟨dma_Play_shown,dmi_Play_shown,dmk_Play_shown⟩⟩,⟨_,_,fun_mk dml_Play_stands dmc_Play_stands dmk_Play_stands,⟨dma_Play_stands,dmi_Play_stands,dmk_Play_stands⟩⟩,⟨_,_,fun_mk dml_Play_throw dmc_Play_throw dmk_Play_throw,⟨dma_Play_throw,dmi_Play_throw,dmk_Play_throw⟩⟩⟩
 exact⟨_,fun s v=>.of_eq rfl,fun base _ _=>(ok_law T (fun_mk l32 e32 k32)).mono (by decide)⟩
theorem walk {l:PySem.W.OpenLaw} {q:Program} {loose:List Str} {XP:(Str→Option Value)→Heap→Prop} {YP:World→Heap→Prop} {d:DefRec} {K:Params→PySem.W.Frag} (hn:l.most=some 63) (hdf:d.params.defaults=[])
  (hY:∀(w:World) (h:Heap),YP w h→(K w.params).In h)
  (F:∀(w:World) (mg:Str→Option Value) (fa:Addr) (h:Heap),(K w.params).In h→h.Ns mainGlobals mg→mg d.name=some (.ref fa)→
   ∃fd:FuncData,(∀(s:Shared) (u:Value),BindsTo s fd ⟨[u],[]⟩ [("_law_script",u)])∧∀base:Heap,(K w.params).In base→base.Ns mainGlobals mg→FnOk l.prog w (K w.params) mg base (CX1 l.prog w) 30 fa fd ["_law_script"] (spLaw (K w.params))):
  PySem.W.WalkO q loose XP YP l.row.toRowW d [] (fun f vs=>PySem.call f vs):=
 L2.walk_of (n:=63) (k:=30) (x:="_law_script") (CX:=fun w=>CX1 l.prog w) (sp:=fun w=>spLaw (K w.params)) hn (by decide) hdf ⟨rfl,by decide,by decide⟩ hY F (fun _ _ a ns hl _ hS=>⟨a,ns,rfl,hS,hl,fun _=>rfl⟩) fun _ _ _ _ _ z=>(strict1 _ _) _ _ _ _ _ z
end K80
open PySem PySem.W PyProof.Rows
set_option maxRecDepth 100000 in
set_option maxHeartbeats 0 in
theorem PySem.Challenge.cw_pressluck_k80_two_hundred_steps_holds : PySem.Challenge.rw_pressluck_k80_two_hundred_steps.Holds := by
  w_on; refine holds_law K80.said fun said => ?_
  refine holds_open (q := K80.vw) (loose := ["value_of_pools", "value_of_plays"]) (Xt := (fun s => xlAt K80.vw [] s && recOk (RowW.records (OpenRow.toRowW (PySem.W.OpenLaw.row PySem.Challenge.rw_pressluck_k80_two_hundred_steps))) s)) (XP := XL K80.vw []) (Yf := Hook.obs (kHook K80.pre.heap_1 K80.hka K80.hkp)) (Ya := Hook.val (kHook K80.pre.heap_1 K80.hka K80.hkp)) (YP := Hook.says (kHook K80.pre.heap_1 K80.hka K80.hkp)) (N := 7536) (Hd.left_runQ (by kernel_rfl) (by decide) (fun s => by kernel_rfl) K80.run) (Hook.of (kHook K80.pre.heap_1 K80.hka K80.hkp)) (Hook.keeps (kHook K80.pre.heap_1 K80.hka K80.hkp)) (fun s e => xl_of s (Bool.and_eq_true_iff.mp e).1) XL.keeps (by rfl) (by rfl) (by rfl) (fun s e => recFacts_of (Bool.and_eq_true_iff.mp e).2) (by rfl) (by first | assumption | decide +kernel) (by decide +kernel) ⟨rfl, rfl, rfl, rfl, rfl, by decide +kernel⟩ ?hw ?hc
  (case hw => w_witness2)
  k_fill
  refine K80.walk (l := PySem.Challenge.rw_pressluck_k80_two_hundred_steps) rfl rfl (fun w h Y => PySem.W.kIn_of Y) ?F
  case F =>
    intro w mg fa h KX G hmg
    refine' K80.all_mk KX G hmg ?h0 ?h1 ?h2 ?h3 ?h4 ?h5 ?h6 ?h7 ?h8 ?h9 ?h10 ?h11 ?h12 ?h13 ?h14 ?h15 ?h16 ?h17 ?h18 ?h19 ?h20 ?h21 ?h22 ?h23 ?h24 ?h25 ?h26 ?h27 ?h28 ?h29 ?h30 ?h31 ?a32 ?l32 ?e32 ?k32 ?z_abs ?z_all ?z_bool ?z_enumerate ?z_int ?z_isinstance ?z_len ?z_list ?z_max ?z_min ?z_range ?z_sorted ?z_str ?z_sum ?c_FIGURES ?c_MOST_FIGURES ?c_MOST_THROWS ?c_MOST_BOTTOM ?c_MOST_STEPS ?c_MOST_VALUE ?k_LuckError ?k_NoShare ?k_NoTable ?k_NoEnd ?k_TooMany ?k_NoStep ?k_NoPlay ?k_Course ?k_Play ?x_NoShare ?x_NoTable ?x_TooMany ?x_NoStep ?x_NoPlay ?y_TooManycls ?y_TooManyga ?y_TooManygt ?y_TooManycl ?y_TooManybe ?y_TooManyob ?y_NoStepcls ?y_NoStepga ?y_NoStepgt ?y_NoStepcl ?y_NoStepbe ?y_NoStepob ?y_NoPlaycls ?y_NoPlayga ?y_NoPlaygt ?y_NoPlaycl ?y_NoPlaybe ?y_NoPlayob ?e_NoPlay_LuckError ?e_NoStep_LuckError ?e_NoStep_NoStep ?e_TooMany_LuckError ?e_TooMany_TooMany ?f_NoStep_TooMany ?f_TooMany_NoStep ?i_NoPlay_NoPlay ?i_NoStep_NoStep ?i_TooMany_TooMany ?n_NoPlay_TooMany ?n_NoStep_NoEnd ?n_NoStep_TooMany ?n_TooMany_NoEnd ?n_TooMany_NoStep ?cl_Coursepg ?cl_Coursehd ?cl_Coursepo ?cl_Coursesa ?cl_Playpg ?cl_Playhd ?cl_Playpo ?cl_Playsa ?na_Course_first ?na_Course_mosts ?na_Course_spots ?na_Course_tables ?na_Course_whats ?na_Play_course ?na_Play_paid ?na_Play_state ?na_Play_trail ?dia_Course ?dii_Course ?dil_Course ?dic_Course ?dik_Course ?dim_Course ?diq_Course ?dia_Play ?dii_Play ?dil_Play ?dic_Play ?dik_Play ?dim_Play ?diq_Play ?dma_Course_asked ?dmi_Course_asked ?dml_Course_asked ?dmc_Course_asked ?dmk_Course_asked ?dma_Course_by_row ?dmi_Course_by_row ?dml_Course_by_row ?dmc_Course_by_row ?dmk_Course_by_row ?dma_Course_by_value ?dmi_Course_by_value ?dml_Course_by_value ?dmc_Course_by_value ?dmk_Course_by_value ?dma_Course_do ?dmi_Course_do ?dml_Course_do ?dmc_Course_do ?dmk_Course_do ?dma_Course_end_worth ?dmi_Course_end_worth ?dml_Course_end_worth ?dmc_Course_end_worth ?dmk_Course_end_worth ?dma_Course_holds ?dmi_Course_holds ?dml_Course_holds ?dmc_Course_holds ?dmk_Course_holds ?dma_Course_open_rows ?dmi_Course_open_rows ?dml_Course_open_rows ?dmc_Course_open_rows ?dmk_Course_open_rows ?dma_Course_put ?dmi_Course_put ?dml_Course_put ?dmc_Course_put ?dmk_Course_put ?dma_Course_start ?dmi_Course_start ?dml_Course_start ?dmc_Course_start ?dmk_Course_start ?dma_Course_table_at ?dmi_Course_table_at ?dml_Course_table_at ?dmc_Course_table_at ?dmk_Course_table_at ?dma_Course_what_at ?dmi_Course_what_at ?dml_Course_what_at ?dmc_Course_what_at ?dmk_Course_what_at ?dma_Course_words_at ?dmi_Course_words_at ?dml_Course_words_at ?dmc_Course_words_at ?dmk_Course_words_at ?dma_Play_back ?dmi_Play_back ?dml_Play_back ?dmc_Play_back ?dmk_Play_back ?dma_Play_go ?dmi_Play_go ?dml_Play_go ?dmc_Play_go ?dmk_Play_go ?dma_Play_open_ways ?dmi_Play_open_ways ?dml_Play_open_ways ?dmc_Play_open_ways ?dmk_Play_open_ways ?dma_Play_points ?dmi_Play_points ?dml_Play_points ?dmc_Play_points ?dmk_Play_points ?dma_Play_say ?dmi_Play_say ?dml_Play_say ?dmc_Play_say ?dmk_Play_say ?dma_Play_shown ?dmi_Play_shown ?dml_Play_shown ?dmc_Play_shown ?dmk_Play_shown ?dma_Play_stands ?dmi_Play_stands ?dml_Play_stands ?dmc_Play_stands ?dmk_Play_stands ?dma_Play_throw ?dmi_Play_throw ?dml_Play_throw ?dmc_Play_throw ?dmk_Play_throw
    (case h0 | h1 | h2 | h3 | h4 | h5 | h6 | h7 | h8 | h9 | h10 | h11 | h12 | h13 | h14 | h15 | h16 | h17 | h18 | h19 | h20 | h21 | h22 | h23 | h24 | h25 | h26 | h27 | h28 | h29 | h30 | h31 => exact K80.fnI (by k_is) (by k_is) (by k_is) (by k_is))
    (case a32 | l32 | e32 | k32 | z_abs | z_all | z_bool | z_enumerate | z_int | z_isinstance | z_len | z_list | z_max | z_min | z_range | z_sorted | z_str | z_sum | c_FIGURES | c_MOST_FIGURES | c_MOST_THROWS | c_MOST_BOTTOM | c_MOST_STEPS | c_MOST_VALUE | k_LuckError | k_NoShare | k_NoTable | k_NoEnd | k_TooMany | k_NoStep | k_NoPlay | k_Course | k_Play => k_is)
    (case x_NoShare => first | k_is | kit_is | kernel_rfl)
    (case x_NoTable => first | k_is | kit_is | kernel_rfl)
    (case x_TooMany => first | k_is | kit_is | kernel_rfl)
    (case x_NoStep => first | k_is | kit_is | kernel_rfl)
    (case x_NoPlay => first | k_is | kit_is | kernel_rfl)
    (case y_TooManycls => first | k_is | kit_is | kernel_rfl)
    (case y_TooManyga => first | k_is | kit_is | kernel_rfl)
    (case y_TooManygt => first | k_is | kit_is | kernel_rfl)
    (case y_TooManycl => first | k_is | kit_is | kernel_rfl)
    (case y_TooManybe => first | k_is | kit_is | kernel_rfl)
    (case y_TooManyob => first | k_is | kit_is | kernel_rfl)
    (case y_NoStepcls => first | k_is | kit_is | kernel_rfl)
    (case y_NoStepga => first | k_is | kit_is | kernel_rfl)
    (case y_NoStepgt => first | k_is | kit_is | kernel_rfl)
    (case y_NoStepcl => first | k_is | kit_is | kernel_rfl)
    (case y_NoStepbe => first | k_is | kit_is | kernel_rfl)
    (case y_NoStepob => first | k_is | kit_is | kernel_rfl)
    (case y_NoPlaycls => first | k_is | kit_is | kernel_rfl)
    (case y_NoPlayga => first | k_is | kit_is | kernel_rfl)
    (case y_NoPlaygt => first | k_is | kit_is | kernel_rfl)
    (case y_NoPlaycl => first | k_is | kit_is | kernel_rfl)
    (case y_NoPlaybe => first | k_is | kit_is | kernel_rfl)
    (case y_NoPlayob => first | k_is | kit_is | kernel_rfl)
    (case e_NoPlay_LuckError => first | k_is | kit_is | kernel_rfl)
    (case e_NoStep_LuckError => first | k_is | kit_is | kernel_rfl)
    (case e_NoStep_NoStep => first | k_is | kit_is | kernel_rfl)
    (case e_TooMany_LuckError => first | k_is | kit_is | kernel_rfl)
    (case e_TooMany_TooMany => first | k_is | kit_is | kernel_rfl)
    (case f_NoStep_TooMany => first | k_is | kit_is | kernel_rfl)
    (case f_TooMany_NoStep => first | k_is | kit_is | kernel_rfl)
    (case i_NoPlay_NoPlay => first | k_is | kit_is | kernel_rfl)
    (case i_NoStep_NoStep => first | k_is | kit_is | kernel_rfl)
    (case i_TooMany_TooMany => first | k_is | kit_is | kernel_rfl)
    (case n_NoPlay_TooMany => first | k_is | kit_is | kernel_rfl)
    (case n_NoStep_NoEnd => first | k_is | kit_is | kernel_rfl)
    (case n_NoStep_TooMany => first | k_is | kit_is | kernel_rfl)
    (case n_TooMany_NoEnd => first | k_is | kit_is | kernel_rfl)
    (case n_TooMany_NoStep => first | k_is | kit_is | kernel_rfl)
    (case cl_Coursepg | cl_Coursehd | cl_Coursepo | cl_Coursesa | cl_Playpg | cl_Playhd | cl_Playpo | cl_Playsa | na_Course_first | na_Course_mosts | na_Course_spots | na_Course_tables | na_Course_whats | na_Play_course | na_Play_paid | na_Play_state | na_Play_trail | dia_Course | dii_Course | dil_Course | dic_Course | dik_Course | dim_Course | diq_Course | dia_Play | dii_Play | dil_Play | dic_Play | dik_Play | dim_Play | diq_Play | dma_Course_asked | dmi_Course_asked | dml_Course_asked | dmc_Course_asked | dmk_Course_asked | dma_Course_by_row | dmi_Course_by_row | dml_Course_by_row | dmc_Course_by_row | dmk_Course_by_row | dma_Course_by_value | dmi_Course_by_value | dml_Course_by_value | dmc_Course_by_value | dmk_Course_by_value | dma_Course_do | dmi_Course_do | dml_Course_do | dmc_Course_do | dmk_Course_do | dma_Course_end_worth | dmi_Course_end_worth | dml_Course_end_worth | dmc_Course_end_worth | dmk_Course_end_worth | dma_Course_holds | dmi_Course_holds | dml_Course_holds | dmc_Course_holds | dmk_Course_holds | dma_Course_open_rows | dmi_Course_open_rows | dml_Course_open_rows | dmc_Course_open_rows | dmk_Course_open_rows | dma_Course_put | dmi_Course_put | dml_Course_put | dmc_Course_put | dmk_Course_put | dma_Course_start | dmi_Course_start | dml_Course_start | dmc_Course_start | dmk_Course_start | dma_Course_table_at | dmi_Course_table_at | dml_Course_table_at | dmc_Course_table_at | dmk_Course_table_at | dma_Course_what_at | dmi_Course_what_at | dml_Course_what_at | dmc_Course_what_at | dmk_Course_what_at | dma_Course_words_at | dmi_Course_words_at | dml_Course_words_at | dmc_Course_words_at | dmk_Course_words_at | dma_Play_back | dmi_Play_back | dml_Play_back | dmc_Play_back | dmk_Play_back | dma_Play_go | dmi_Play_go | dml_Play_go | dmc_Play_go | dmk_Play_go | dma_Play_open_ways | dmi_Play_open_ways | dml_Play_open_ways | dmc_Play_open_ways | dmk_Play_open_ways | dma_Play_points | dmi_Play_points | dml_Play_points | dmc_Play_points | dmk_Play_points | dma_Play_say | dmi_Play_say | dml_Play_say | dmc_Play_say | dmk_Play_say | dma_Play_shown | dmi_Play_shown | dml_Play_shown | dmc_Play_shown | dmk_Play_shown | dma_Play_stands | dmi_Play_stands | dml_Play_stands | dmc_Play_stands | dmk_Play_stands | dma_Play_throw | dmi_Play_throw | dml_Play_throw | dmc_Play_throw | dmk_Play_throw => k_is)
