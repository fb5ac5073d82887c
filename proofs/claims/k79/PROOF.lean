import PyProof.Rows.All
import Wide.All
import OpenK.AllK
import Wide.FinOn
import Lean
import PyProof.EqAt
import PyProof.EqKinds
import PyProof.TupleCall
import PyProof.NeKinds
import PySem.Challenge.RW_pressluck_k79_steps_taken_back
set_option Elab.async false
set_option linter.all false
set_option maxRecDepth 100000
theorem Yr : type_of% @List.length_map := @List.length_map
theorem Ys : type_of% @List.map_cons := @List.map_cons
theorem Yt : type_of% @Nat.le_refl := @Nat.le_refl
theorem Yu : type_of% @List.getElem?_map := @List.getElem?_map
theorem Yv : type_of% @List.size_toArray := @List.size_toArray
theorem Yw : type_of% @List.getElem?_eq_getElem := @List.getElem?_eq_getElem
theorem Yx : type_of% @List.map_append := @List.map_append
theorem Yy : type_of% @List.length_append := @List.length_append
theorem Yz : type_of% @List.mem_cons_of_mem := @List.mem_cons_of_mem
theorem YA : type_of% @List.mem_cons_self := @List.mem_cons_self
theorem YB : type_of% @Nat.le_trans := @Nat.le_trans
theorem YC : type_of% @List.length_cons := @List.length_cons
theorem YD : type_of% @Nat.zero_le := @Nat.zero_le
theorem YE : type_of% @Nat.ne_of_lt := @Nat.ne_of_lt
theorem YF : type_of% @Bool.false_ne_true := @Bool.false_ne_true
theorem YG : type_of% @List.take_of_length_le := @List.take_of_length_le
theorem YH : type_of% @PySem.boot_len := @PySem.boot_len
theorem YI : type_of% @List.mem_of_getElem? := @List.mem_of_getElem?
theorem YJ : type_of% @Nat.lt_of_lt_of_le := @Nat.lt_of_lt_of_le
theorem YK : type_of% @List.length_take := @List.length_take
theorem YL : type_of% @Int.toNat_natCast := @Int.toNat_natCast
theorem YM : type_of% @Option.some.inj := @Option.some.inj
theorem YN : type_of% @PySem.F.plainAttrs_list := @PySem.F.plainAttrs_list
theorem YO : type_of% @List.mem_append_right := @List.mem_append_right
theorem YQ : type_of% @List.lookup_cons := @List.lookup_cons
theorem YR : type_of% @List.mem_cons := @List.mem_cons
theorem YS : type_of% @List.take_add_one := @List.take_add_one
theorem YT : type_of% @List.set_cons_zero := @List.set_cons_zero
theorem YU : type_of% @List.set_cons_succ := @List.set_cons_succ
theorem YV : type_of% @List.getElem_mem := @List.getElem_mem
theorem YW : type_of% @Nat.lt_irrefl := @Nat.lt_irrefl
theorem YX : type_of% @List.map_nil := @List.map_nil
theorem YY : type_of% @Bool.and_eq_true := @Bool.and_eq_true
theorem YZ : type_of% @List.map_map := @List.map_map
theorem Y0 : type_of% @List.length_range := @List.length_range
theorem Y1 : type_of% @PySem.W.mg_of := @PySem.W.mg_of
theorem Y2 : type_of% @List.lookup_cons_self := @List.lookup_cons_self
theorem Y3 : type_of% @PySem.W.mg_none_of := @PySem.W.mg_none_of
theorem Y4 : type_of% @List.length_singleton := @List.length_singleton
theorem Y5 : type_of% @List.cons_append := @List.cons_append
theorem Y6 : type_of% @List.filterMap_cons := @List.filterMap_cons
theorem Y7 : type_of% @PySem.W.kia_one := @PySem.W.kia_one
theorem Y8 : type_of% @PySem.mem_of_lookup := @PySem.mem_of_lookup
theorem Y9 : type_of% @List.length_nil := @List.length_nil
theorem Za : type_of% @List.getD_eq_getElem?_getD := @List.getD_eq_getElem?_getD
theorem Zb : type_of% @Int.zero_add := @Int.zero_add
theorem Zc : type_of% @Nat.lt_succ_self := @Nat.lt_succ_self
theorem Zd : type_of% @List.not_mem_nil := @List.not_mem_nil
theorem Ze : type_of% @List.sum_cons := @List.sum_cons
theorem Zf : type_of% @Int.natCast_mul := @Int.natCast_mul
theorem Zg : type_of% @List.mem_append_left := @List.mem_append_left
theorem Zh : type_of% @PySem.F.slot_list_append := @PySem.F.slot_list_append
theorem Zi : type_of% @PySem.F.type_list_append := @PySem.F.type_list_append
theorem Zj : type_of% @List.filterMap_append := @List.filterMap_append
theorem Zk : type_of% @List.getElem?_append_right := @List.getElem?_append_right
theorem Zl : type_of% @List.replicate_succ := @List.replicate_succ
theorem Zm : type_of% @PyProof.Rows.callWith_type1 := @PyProof.Rows.callWith_type1
theorem Zn : type_of% @List.getElem?_append_left := @List.getElem?_append_left
theorem Zo : type_of% @List.mem_of_find?_eq_some := @List.mem_of_find?_eq_some
namespace Hd
open PySem PySem.W PyProof.Rows
noncomputable def Aw (ok:Thread->Bool) (st:SharedT->Thread->Option (SharedT×Thread)) (n:Nat):SharedT->Thread->Option SharedT:=
 @Nat.rec (λ_=>SharedT->Thread->Option SharedT) (λ_ _=>none)
  (λ_ ih s t=>@Bool.rec (λ_=>Option SharedT) (@Bool.rec (λ_=>Option SharedT) none (@Option.rec (SharedT×Thread) (λ_=>Option SharedT) none (λr=>@Prod.rec _ _ (λ_=>Option SharedT) (λa b=>ih a b) r) (st s t)) (ok t)) (some s) (through t)) n
theorem qe {tb:String->Option Builtin} {p:Program} {w:World} {n₀:Nat} {ann:Option Value}:∀(n:Nat) (s:SharedT) (t:Thread) (s':SharedT),Aw (stepOk n₀ ann) (stepT (denote tb) p w) n s t=some s'->topRun tb p w n₀ ann n s.abs t=some s'.abs
 | 0,_,_,_,h=>by cases h
 | n+1,s,t,s',h=>by
  unfold topRun
  replace h:@Bool.rec (λ_=>Option SharedT) (@Bool.rec (λ_=>Option SharedT) none (@Option.rec (SharedT×Thread) (λ_=>Option SharedT) none (λr=>@Prod.rec _ _ (λ_=>Option SharedT) (λa b=>Aw (stepOk n₀ ann) (stepT (denote tb) p w) n a b) r) (stepT (denote tb) p w s t)) (stepOk n₀ ann t)) (some s) (through t)=some s':=h
  cases ht:through t with
  | true=>rw[ht] at h;cases h;rfl
  | false=>
   rw[ht] at h
   cases hk:stepOk n₀ ann t with
   | false=>rw[hk] at h;cases h
   | true=>
    rw[hk] at h
    cases hs:stepT (denote tb) p w s t with
    | none=>rw[hs] at h;cases h
    | some r=>obtain⟨s₂,t₂⟩:=r;rw[hs] at h;rw[stepT_spec hs];exact qe n s₂ t₂ s' h
noncomputable def bt (P:Params):BT:=((boot_heap P).objs.toList.foldl (fun(x:BT×Nat) o=>(x.1.ins x.2 o,x.2+1)) (.nil,0)).1
noncomputable def CO (w:World) (os:OsState):SharedT:=⟨bt w.params,11,{},Array.mk [],boot_drawn,boot_toks,os⟩
theorem BB (w:World) (os:OsState):(CO w os).abs=⟨boot_heap w.params,Array.mk [],boot_drawn,boot_toks,os⟩:=by kernel_rfl
theorem yP (w:World):((boot_heap w.params).isNs mainGlobals && (Array.mk []:Array GenState).size==0,(boot_heap w.params).objs.size,(boot_heap w.params).nsMap mainGlobals "__annotations__")=(true,11,some (.ref 6)):=by kernel_rfl
theorem CP {p q:Program} {loose:List Str} {Xt:Shared->Bool} {α:Type} {Yf:Shared->α} {Ya:World->α} {N:Nat} {g0:Bool}
  (LU:∀w:World,(fencedOpening treeTable p w N).map (λs=>(s.heap,s.gens,s.drawn,s.toks))=some (boot_heap w.params,Array.mk [],boot_drawn,boot_toks))
  (run:∀(w:World) (os:OsState),(Aw (stepOk 11 (some (.ref 6))) (stepT (denote treeTable) p w) N (CO w os) (topStub p)).map (λs=>((staticsOk (importedModules p.main.body) (boot_heap w.params) s.abs.heap && namesBound p s.abs.heap && gensDone s.abs && laidKept (boot_heap w.params) s.abs.heap),openSeen q loose (importedModules p.main.body) Xt g0 s.abs,Yf s.abs))=some (true,openGood q loose,Ya w)):
  LeftO p q loose Xt Yf Ya N g0:=λw=>by
 obtain⟨⟨h,gs,d,k,os⟩,e,e'⟩:=Option.map_eq_some_iff.mp (LU w)
 obtain⟨rfl,rfl,rfl,rfl⟩:h=boot_heap w.params/\gs=Array.mk []/\d=boot_drawn/\k=boot_toks:=by simpa using e'
 obtain⟨z1,z2,z3⟩:_/\_/\_:=by simpa only[Prod.mk.injEq] using yP w
 obtain⟨s,r,l⟩:=Option.map_eq_some_iff.mp (run w os)
 obtain⟨l1,l2,l3⟩:_/\_/\_:=by simpa only[Prod.mk.injEq] using l
 have r:=qe _ _ _ _ r
 rw[BB] at r
 have t:topFrom treeTable p w N ⟨boot_heap w.params,Array.mk [],boot_drawn,boot_toks,os⟩=some s.abs:=by
  unfold topFrom
  dsimp only
  rw[z1,z2,z3,r]
  show(match staticsOk (importedModules p.main.body) (boot_heap w.params) s.abs.heap && namesBound p s.abs.heap && gensDone s.abs && laidKept (boot_heap w.params) s.abs.heap with | true=>_ | false=>_)=_
  rw[l1]
 unfold openEnds
 rw[e]
 show((topFrom treeTable p w N ⟨boot_heap w.params,Array.mk [],boot_drawn,boot_toks,os⟩)).map _=_
 rw[t]
 show some (_,_)=_
 rw[l2,l3]
noncomputable def Runs (p q:Program) (loose:List Str) (Xt:Shared->Bool) {α:Type} (Yf:Shared->α) (Ya:World->α) (N:Nat) (g0:Bool) (w:World):Prop:=
 ∀os:OsState,(Aw (PySem.W.Fast.tw6613529449190102663 11 (some (.ref 6))) (PySem.W.Fast.tw10156331382660048174 (PySem.W.Fast.tw11892475500146522536 PySem.W.Fast.tw14364793385576792824) p w) N (CO w os) (topStub p)).map (λs=>((staticsOk (importedModules p.main.body) (boot_heap w.params) s.abs.heap && namesBound p s.abs.heap && gensDone s.abs && laidKept (boot_heap w.params) s.abs.heap),PySem.W.Fast.tw4187177175401517315 q loose (importedModules p.main.body) Xt g0 s.abs,Yf s.abs))=some (true,openGood q loose,Ya w)
theorem BC {p q:Program} {loose:List Str} {Xt:Shared->Bool} {α:Type} {Yf:Shared->α} {Ya:World->α} {N:Nat} {g0:Bool}
  (e:opening p=plainProg p.main.scope.names) (hN:Nat.ble 600 N=true) (f:∀s,fenceModules? p s=some s)
  (run:∀w:World,Runs p q loose Xt Yf Ya N g0 w):
  LeftO p q loose Xt Yf Ya N g0:=by
 refine CP (boot_open e hN f) ?_
 unfold Runs at run
 rw[PySem.W.Fast.te6613529449190102663,PySem.W.Fast.te10156331382660048174,PySem.W.Fast.te11892475500146522536,PySem.W.Fast.te14364793385576792824,PySem.W.Fast.te4187177175401517315]
 exact run
end Hd
namespace K79
open PySem PySem.Spec PyProof.Rows
noncomputable def top (i:Nat):Stmt:=PySem.Challenge.pw_pressluck_k79_steps_taken_back.main.body.getD i (.Pass ⟨0,0,0,0⟩)
end K79
section OC
open PySem PySem.W PyProof.Rows
local macro_rules | `(tactic| o_head $H) => `(tactic| (refine (fun (_ : PySem.W.Hook) => ?_) $H; assumption))
theorem K79.pre (h:PySem.W.OpenRow.Holds (PySem.W.OpenLaw.row PySem.Challenge.rw_pressluck_k79_steps_taken_back)):PySem.W.OpenRow.Holds (PySem.W.OpenLaw.row PySem.Challenge.rw_pressluck_k79_steps_taken_back):=by
 k_head
noncomputable def K79.HB:List Addr:=[2,3,15,22,23,24,25,28,35,36,37,40,47,48,49,52,59,60,61,64,71,72,73,76,78,79,81,82,83,85,86,88,89,90,92,93,95,96,97,99,100,102,103,104,107,108,109,111,112,114,115,116,118,119,121,122,123,125,126,128,129,130,132,133,135,136,137,139,140,142,143,144,146,147,149,150,151,154,155,156,159,160,161,164,165,166,168,169,171,172,173,176,177,178,180,181,183,184,185,188,189,190,193,194,195,198,199,200,203,204,205,207,208,210,211,219,221,222,224,225,226,228,229,231,232,233,235,236,238,239,240,242,243,245,246,247,249,250,252,253,254,256,257,259,260,261,263,264,266,267,268,271,272,273,275,276,278,279,280,282,283,285,286,287,290,291,292,295,296,297,299,300,302,303,304,305,306,307,308,318,320,321,323,324,325,327,328,330,331,332,334,335,337,338,339,342,343,344,346,347,349,350,351,354,355,356,358,359,361,362,363,365,366,368,369,370,373,374,375,376,377,378,379,382,384,385,387,388,389,391,392,394,395,396,398,399,401,402,403,405,406,408,409,417,419,420,422,423,424,427,428,429,431,432,434,435,436,438,439,441,442,443,446,447,448,450,451,453,454,455,458,459,460,463,464,465,467,468,470,471,472,475,476,477,479,480,482,483,484,487,488,489,492,493,494,496,497,499,500,501,503,504,506,507,508,510,511,513,514,515,517,518,520,521,522,525,526]
theorem K79.IB (P:PySem.Params):K79.HB=(K79.pre.heap_1 P).map (·.1):=by kernel_rfl
noncomputable def K79.vw:PySem.Program:={PySem.Challenge.pw_pressluck_k79_steps_taken_back with main:={PySem.Challenge.pw_pressluck_k79_steps_taken_back.main with body:=[K79.top 1,K79.top 2,K79.top 3,K79.top 4,K79.top 5,K79.top 7,K79.top 8,K79.top 9,K79.top 10,K79.top 12,K79.top 13,K79.top 15,K79.top 16,K79.top 17,K79.top 18,K79.top 19,K79.top 20,K79.top 21,K79.top 22,K79.top 23,K79.top 24,K79.top 25,K79.top 26,K79.top 27,K79.top 28,K79.top 29,K79.top 30,K79.top 32,K79.top 33,K79.top 34,K79.top 36,K79.top 37,K79.top 39,K79.top 40,K79.top 41,K79.top 42,K79.top 43,K79.top 44,K79.top 45,K79.top 46,K79.top 47,K79.top 48,K79.top 49,K79.top 50,K79.top 51,K79.top 52,K79.top 53,K79.top 54,K79.top 55,K79.top 56,K79.top 57,K79.top 58,K79.top 59,K79.top 60,K79.top 61]}}
set_option maxHeartbeats 0 in
theorem K79.LV:PySem.Challenge.rw_pressluck_k79_steps_taken_back.wellSaid=true:=by
 unfold OpenLaw.wellSaid OpenRow.wellSaid OpenRow.partSaid looksOpen
 with_reducible repeat' refine look_both ?_ ?_
 all_goals decide +kernel
theorem K79.run (w:World):Hd.Runs (RowW.prog (OpenRow.toRowW (PySem.W.OpenLaw.row PySem.Challenge.rw_pressluck_k79_steps_taken_back))) K79.vw [] (λs=>xlAt K79.vw [] s && recOk (RowW.records (OpenRow.toRowW (PySem.W.OpenLaw.row PySem.Challenge.rw_pressluck_k79_steps_taken_back))) s) (Hook.obs (kHook K79.pre.heap_1 K79.HB K79.IB)) (Hook.val (kHook K79.pre.heap_1 K79.HB K79.IB)) 7232 true w:=λos=>by kernel_rfl
end OC
set_option tactic.hygienic false
set_option compiler.extract_closed false
local macro_rules | `(tactic| omega) => `(tactic| lia)
namespace L2
open PySem PySem.Spec PyProof.Rows
abbrev Key:=Sum Int Str
noncomputable def qg:Key->Value->Bool
 | .inl k,v=>Value.isInt k v
 | .inr x,v=>Value.isStrOf x v
noncomputable def IC (w:World):Key->Int
 | .inl k=>hashInt k
 | .inr x=>hashStr w x
theorem cy:∀{k:Key} {v:Value},qg k v=true->(∃i t,k=Sum.inl i/\v=Value.int i t)\/(∃x t,k=Sum.inr x/\v=Value.str x t)
 | .inl i,v,h=>by
  obtain⟨t,e⟩:=Value.isInt_shape (k:=i) (v:=v) h
  exact .inl ⟨i,t,rfl,e⟩
 | .inr x,v,h=>by
  obtain⟨t,e⟩:=Value.isStrOf_shape (x:=x) (v:=v) h
  exact .inr ⟨x,t,rfl,e⟩
theorem BD (i:Int) (t:Tok):qg (.inl i) (.int i t)=true:=by simp [qg,Value.isInt]
theorem BE (x:Str) (t:Tok):qg (.inr x) (.str x t)=true:=by simp [qg,Value.isStrOf]
theorem ID (a b:Int):decide ((Sum.inl a:Key)=Sum.inl b)=(a==b):=by
 by_cases e:a=b
 ·subst e;simp
 ·have h:¬(Sum.inl a:Key)=Sum.inl b:=λq=>e (Sum.inl.inj q)
  rw[decide_eq_false h]
  exact(beq_eq_false_iff_ne.mpr e).symm
theorem IE (a b:Str):decide ((Sum.inr a:Key)=Sum.inr b)=decide (a=b):=by
 by_cases e:a=b
 ·subst e;simp
 ·have h:¬(Sum.inr a:Key)=Sum.inr b:=λq=>e (Sum.inr.inj q)
  rw[decide_eq_false h,decide_eq_false e]
theorem IF (a:Int) (b:Str):decide ((Sum.inl a:Key)=Sum.inr b)=false:=decide_eq_false (λq=>nomatch q)
theorem IG (a:Str) (b:Int):decide ((Sum.inr a:Key)=Sum.inl b)=false:=decide_eq_false (λq=>nomatch q)
noncomputable def cj (prog:Program) (w:World):PySem.KeyKind prog w Key where
 is:=qg
 hash:=IC w
 inj:=λv a b ha hb=>by
  rcases cy ha with ⟨i,t,rfl,rfl⟩ | ⟨x,t,rfl,rfl⟩
  ·rcases cy hb with ⟨j,u,rfl,e⟩ | ⟨y,u,rfl,e⟩
   ·injection e with e1 _;rw[e1]
   ·exact nomatch e
  ·rcases cy hb with ⟨j,u,rfl,e⟩ | ⟨y,u,rfl,e⟩
   ·exact nomatch e
   ·injection e with e1 _;rw[e1]
 byValue:=λk v h=>by
  rcases cy h with ⟨i,t,rfl,rfl⟩ | ⟨x,t,rfl,rfl⟩ <;>rfl
 pyHash:=λhv h=>by
  rcases cy hv with ⟨i,t,rfl,rfl⟩ | ⟨x,t,rfl,rfl⟩
  ·exact wpAny_pyHash_int h
  ·exact wpAny_pyHash_str h
 eqBool:=λhu hv h=>by
  rcases cy hu with ⟨i,t,rfl,rfl⟩ | ⟨x,t,rfl,rfl⟩
  ·rcases cy hv with ⟨j,u,rfl,rfl⟩ | ⟨y,u,rfl,rfl⟩
   ·rw[ID] at h;exact wpAny_eqBool_int h
   ·rw[IF] at h;exact SeqAt.EqAt.int_str i t y u _ _ _ _ h
  ·rcases cy hv with ⟨j,u,rfl,rfl⟩ | ⟨y,u,rfl,rfl⟩
   ·rw[IG] at h;exact SeqAt.EqAt.str_int x t j u _ _ _ _ h
   ·rw[IE] at h;exact wpAny_eqBool_str h
 «strs»:=λk x t v h=>by
  rcases cy h with ⟨i,u,rfl,e⟩ | ⟨y,u,rfl,e⟩
  ·exact nomatch e
  ·injection e with e1 _
   subst e1
   cases v <;>rfl
theorem wO (prog:Program) (w:World) (i:Int) (t:Tok):(cj prog w).is (.inl i) (.int i t)=true:=BD i t
theorem wQ (prog:Program) (w:World) (x:Str) (t:Tok):(cj prog w).is (.inr x) (.str x t)=true:=BE x t
end L2
namespace L2
open PySem PySem.Spec PyProof.Rows
inductive V where
 | cP | bl (b:Bool) | int (i:Int) | str (x:Str) | CC (b:Array UInt8) | IH (b:UInt64) | ref (a:Addr) | ty (n:String)
 deriving DecidableEq
noncomputable def RelV:V->Value->Prop
 | .cP,u=>u=Value.none
 | .bl b,u=>u=Value.bool b
 | .int i,u=>∃t,u=Value.int i t
 | .str x,u=>∃t,u=Value.str x t
 | .CC b,u=>∃t,u=Value.bytes b t
 | .IH b,u=>∃t,u=Value.float b t
 | .ref a,u=>u=Value.ref a
 | .ty n,u=>u=Value.type n
abbrev bj:List V->List Value->Prop:=Paired RelV
theorem bj.length {xs:List V} {us:List Value} (r:bj xs us):xs.length=us.length:=Paired.length r
theorem bj.get:∀{xs:List V} {us:List Value} {i:Nat} {x:V},bj xs us->xs[i]?=some x->∃u,us[i]?=some u/\RelV x u
 | _,_,_,_,.nil,e=>by simp at e
 | _,_,0,_,.cons r _,e=>by simp at e;subst e;exact⟨_,rfl,r⟩
 | _,_,i+1,x,.cons _ t,e=>by
  obtain⟨u,h1,h2⟩:=bj.get (i:=i) (x:=x) t (by simpa using e)
  exact⟨u,by simpa using h1,h2⟩
theorem bj.set {x:V} {u:Value} (r:RelV x u):∀{xs:List V} {us:List Value} (i:Nat),bj xs us->bj (xs.set i x) (us.set i u)
 | _,_,_,.nil=>.nil
 | _,_,0,.cons _ t=>.cons r t
 | _,_,i+1,.cons q t=>.cons q (bj.set r i t)
theorem bj.append:∀{xs ys:List V} {us ws:List Value},bj xs us->bj ys ws->bj (xs++ys) (us++ws)
 | _,_,_,_,.nil,s=>s
 | _,_,_,_,.cons r t,s=>.cons r (bj.append t s)
theorem bj.take:∀{xs:List V} {us:List Value} (n:Nat),bj xs us->bj (xs.take n) (us.take n)
 | _,_,0,_=>.nil
 | _,_,_+1,.nil=>.nil
 | _,_,n+1,.cons r t=>.cons r (bj.take n t)
theorem bj.drop:∀{xs:List V} {us:List Value} (n:Nat),bj xs us->bj (xs.drop n) (us.drop n)
 | _,_,0,r=>r
 | _,_,_+1,.nil=>.nil
 | _,_,n+1,.cons _ t=>bj.drop n t
noncomputable def ir:Option V->Option Value->Prop
 | some v,some u=>RelV v u
 | none,none=>True
 | _,_=>False
noncomputable def KV {κ:Type}:List (κ×V)->List (κ×Value)->Prop:=Paired fun(p:κ×V) (q:κ×Value)=>p.1=q.1/\RelV p.2 q.2
noncomputable def kV:Key->V
 | .inl i=>.int i
 | .inr x=>.str x
inductive HO where
 | lst (xs:List V)
 | tup (xs:List V)
 | dK (kvs:List (Key×V)) | dT (kvs:List (List Key×V))
 | set (S:Int->Bool) (n:Nat)
 | ins (C dx:Addr) (fs:List (Str×V))
 | own (x:Addr)
 | xd (fs:List (Str×V))
 | met (f x:Addr)
 | NP (lo hi:Int)
 | wI (o:Obj) (u:HO)
 | Ft (ps:Array Value)
 | ext (φ:Heap->Prop)
abbrev Hp:=Addr->Option HO
noncomputable def upd (H:Hp) (a:Addr) (o:HO):Hp:=λb=>if b=a then some o else H b
theorem aj {H:Hp} {a:Addr} {o:HO}:upd H a o a=some o:=by unfold upd;rw[if_pos rfl]
theorem aw {H:Hp} {a b:Addr} {o:HO} (h:b≠a):upd H a o b=H b:=by unfold upd;rw[if_neg h]
theorem Ax {H:Hp} {a:Addr} {o u:HO}:upd (upd H a o) a u=upd H a u:=by
 funext b;unfold upd;split <;>rfl
theorem LW {H:Hp} {a b:Addr} {o u:HO} (h:H a=some o) (h':H b=some u) (d:o≠u):a≠b:=by
 intro e;subst e;rw[h] at h';exact d (YM h')
theorem eE {H:Hp} {a b:Addr} {o:HO} (h:H a=some o) (h':H b=none):a≠b:=by
 intro e;subst e;rw[h] at h';cases h'
noncomputable def TabAt (H:Hp) (h:Heap) (a:Addr) (ps:Array Value):Prop:=∃mo:Array Value,h.get? a=some {cls:=.none,data:=.fields mo}/\
 (mo=#[]\/∃(l c:Value) (c1:Addr) (q:Str) (t:Tok),ps=#[l,c,.str q t]/\mo=#[l,c,.ref c1]/\H c1=some (.own a)/\h.CodeRec (.ref c1) q)
section
variable (P : Program) (w : World)
noncomputable def cF (H:Hp) (h:Heap) (a:Addr):HO->Prop
 | .lst xs=>xs.length<=sizeLine/\∃(a6:List Value) (n:Nat),bj xs a6/\h.get? a=some {cls:=.type "list",data:=.seq a6.toArray n}
 | .tup xs=>xs.length<=sizeLine/\∃a6:List Value,bj xs a6/\IsTup h a a6.toArray
 | .dK kvs=>kvs.length<=sizeLine/\(a==sysModules)=false/\∃vs,KV kvs vs/\h.DictOf (cj P w) a vs
 | .dT kvs=>kvs.length<=sizeLine/\(a==sysModules)=false/\∃xs:List (List Key×Addr×Value),
   Paired (fun(p:List Key×V) (q:List Key×Addr×Value)=>p.1=q.1/\H q.2.1=some (.tup (p.1.map kV))/\RelV p.2 q.2.2) kvs xs/\
   ∃o es ep,h.get? a=some o/\o.ExactDict/\o.data=.dict es ep/\es.toList=xs.map (entryOfKey (tupleKind (cj P w)))/\(xs.map (·.1)).Nodup
 | .set S n=>h.SetOf (intKind P w) a S n
 | .ins C dx fs=>H dx=some (.own a)/\fs.length<=1000/\dx≠a/\h.get? a=some (PySem.W.instObj C dx)/\
   ∃mA,h.Ns1 dx mA/\(∀f,ir (fs.lookup f) (mA f))/\PySem.Within mA (fs.map (·.1))
 | .own _=>∃o,h.get? a=some o
 | .xd fs=>∃mA,h.Ns1 a mA/\∀f,ir (fs.lookup f) (mA f)
 | .NP lo hi=>∃t u v,h.get? a=some {cls:=.type "range",data:=.fields #[.int lo t,.int hi u,.int 1 v]}
 | .wI o u=>h.get? a=some o/\cF H h a u
 | .Ft ps=>TabAt H h a ps
 | .met f x=>h.get? a=some (PySem.W.methodObj (.ref f) (.ref x))
 | .ext φ=>φ h/\(∃o,h.get? a=some o)/\∀h1 h2:Heap,φ h1->(∀o,h1.get? a=some o->h2.get? a=some o)->φ h2
noncomputable def gB (H:Hp) (h:Heap):Prop:=∀a o,H a=some o->cF P w H h a o
end
section
variable {P : Program} {w : World} {H H' : Hp} {h h' : Heap} {a : Addr} {o : HO}
theorem cF.lt (x:cF P w H h a o):a<h.objs.size:=by
 cases o with
 | lst xs=>obtain⟨_,_,_,_,e⟩:=x;exact Heap.lt_size e
 | tup xs=>obtain⟨_,_,_,p⟩:=x;exact p.lt
 | dK kvs=>obtain⟨_,_,_,_,o,_,_,e,_⟩:=x;exact Heap.lt_size e
 | dT kvs=>obtain⟨_,_,_,_,o,_,_,e,_⟩:=x;exact Heap.lt_size e
 | set S n=>obtain⟨o,_,_,_,e,_⟩:=x;exact Heap.lt_size e
 | ins C dx fs=>obtain⟨_,_,_,e,_⟩:=x;exact Heap.lt_size e
 | own y=>obtain⟨_,e⟩:=x;exact Heap.lt_size e
 | xd fs=>obtain⟨_,⟨_,_,_,e,_⟩,_⟩:=x;exact Heap.lt_size e
 | NP lo hi=>obtain⟨_,_,_,e⟩:=x;exact Heap.lt_size e
 | wI ob u=>obtain⟨e,_⟩:=x;exact Heap.lt_size e
 | Ft ps=>obtain⟨_,e,_⟩:=x;exact Heap.lt_size e
 | met f y=>exact Heap.lt_size (show h.get? a=some _ from x)
 | ext φ=>obtain⟨_,⟨_,e⟩,_⟩:=x;exact Heap.lt_size e
theorem Paired.II {α β:Type} {F G:α->β->Prop}:∀{l₁:List α} {l₂:List β},Paired F l₁ l₂->(∀a b,F a b->G a b)->Paired G l₁ l₂
 | _,_,.nil,_=>.nil
 | _,_,.cons r t,f=>.cons (f _ _ r) (Paired.II t f)
theorem cF.uY (x:cF P w H h a o) (k:∀b u,(b=a\/H b=some (.own a))->h.get? b=some u->h'.get? b=some u)
  (ho:∀b,H b=some (.own a)->H' b=some (.own a)) (ht:∀b xs,H b=some (.tup xs)->H' b=some (.tup xs)):cF P w H' h' a o:=by
 induction o with
 | lst xs=>obtain⟨z,a6,n,r,e⟩:=x;exact⟨z,a6,n,r,k _ _ (.inl rfl) e⟩
 | tup xs=>obtain⟨z,a6,r,ob,e,c⟩:=x;exact⟨z,a6,r,ob,k _ _ (.inl rfl) e,c⟩
 | dK kvs=>obtain⟨z,y,vs,r,ob,es,ep,e,c⟩:=x;exact⟨z,y,vs,r,ob,es,ep,k _ _ (.inl rfl) e,c⟩
 | dT kvs=>
  obtain⟨z,y,xs,r,ob,es,ep,e,c⟩:=x
  exact⟨z,y,xs,Paired.II r λp q z=>⟨z.1,ht _ _ z.2.1,z.2.2⟩,ob,es,ep,k _ _ (.inl rfl) e,c⟩
 | set S n=>obtain⟨ob,es,ep,t,e,c⟩:=x;exact⟨ob,es,ep,t,k _ _ (.inl rfl) e,c⟩
 | ins C dx fs=>
  obtain⟨d,z,ne,e,mA,⟨od,es,ep,e2,c⟩,r⟩:=x
  exact⟨ho _ d,z,ne,k _ _ (.inl rfl) e,mA,⟨od,es,ep,k _ _ (.inr d) e2,c⟩,r⟩
 | own y=>obtain⟨ob,e⟩:=x;exact⟨ob,k _ _ (.inl rfl) e⟩
 | xd fs=>obtain⟨mA,⟨od,es,ep,e,c⟩,r⟩:=x;exact⟨mA,⟨od,es,ep,k _ _ (.inl rfl) e,c⟩,r⟩
 | NP lo hi=>obtain⟨t,u,v,e⟩:=x;exact⟨t,u,v,k _ _ (.inl rfl) e⟩
 | wI ob u ih=>obtain⟨e,q⟩:=x;exact⟨k _ _ (.inl rfl) e,ih q⟩
 | Ft ps=>
  obtain⟨mo,e,q⟩:=x
  refine⟨mo,k _ _ (.inl rfl) e,?_⟩
  rcases q with q | ⟨l,c,c1,qn,t,e1,e2,e3,c2,o2,Tq,t2,f1,f2,f3,f4⟩
  ·exact .inl q
  ·cases f1
   exact .inr ⟨l,c,c1,qn,t,e1,e2,ho _ e3,c1,o2,Tq,t2,rfl,k _ _ (.inr e3) f2,f3,f4⟩
 | met f y=>
  have e:h.get? a=some (PySem.W.methodObj (.ref f) (.ref y)):=x
  show h'.get? a=some (PySem.W.methodObj (.ref f) (.ref y))
  exact k a _ (.inl rfl) e
 | ext φ=>obtain⟨p,⟨o,e⟩,st⟩:=x;exact⟨st _ _ p λo q=>k _ _ (.inl rfl) q,⟨o,k _ _ (.inl rfl) e⟩,st⟩
theorem gB.lt (x:gB P w H h) (e:H a=some o):a<h.objs.size:=(x a o e).lt
theorem gB.fresh (x:gB P w H h) (e:h.objs.size<=a):H a=none:=by
 cases q:H a with
 | none=>rfl
 | some u=>exact absurd (YJ (x.lt q) e) (YW _)
theorem gB.kept (x:gB P w H h) (k:∀b u,h.get? b=some u->h'.get? b=some u):gB P w H h':=λa o e=>
 (x a o e).uY (λb u _ q=>k b u q) (λ_ q=>q) λ_ _ q=>q
theorem gB.laid (x:gB P w H h) (k:∀b u,h.get? b=some u->h'.get? b=some u) (hp:h.objs.size<=a) (new:cF P w (upd H a o) h' a o):gB P w (upd H a o) h':=λb u e=>by
 have hn:=x.fresh hp
 by_cases hb:b=a
 ·subst hb;rw[aj] at e;cases e;exact new
 ·rw[aw hb] at e
  exact(x b u e).uY (λc v _ q=>k c v q) (λc q=>by rw[aw (eE q hn)];exact q) λc xs q=>by rw[aw (eE q hn)];exact q
end
noncomputable def Rd (H:Hp) (a:Addr) (u:HO):Prop:=H a=some u\/∃o,H a=some (.wI o u)
theorem Rd.ok {P:Program} {w:World} {H:Hp} {h:Heap} {a:Addr} {u:HO} (r:Rd H a u) (x:gB P w H h):cF P w H h a u:=by
 rcases r with r | ⟨o,r⟩
 ·exact x a u r
 ·obtain⟨_,q⟩:=x a _ r
  exact q
noncomputable def LX:Option HO->Prop
 | some (.lst _)=>True
 | some (.dK _)=>True
 | some (.dT _)=>True
 | some (.set _ _)=>True
 | some (.ins _ _ _)=>True
 | some (.ext _)=>True
 | _=>False
section
variable {P : Program} {w : World} {H : Hp} {h h' : Heap} {x e : Addr} {o' : HO}
theorem gB.write (ok:gB P w H h) (mu:LX (H x)) (he:e=x\/H e=some (.own x)) (k:∀b u,b≠e->h.get? b=some u->h'.get? b=some u) (Ln:∃u,h'.get? e=some u)
  (new:cF P w (upd H x o') h' x o'):gB P w (upd H x o') h':=λb u q=>by
 have LY:∀c y,H c=some (.own y)->c≠x:=λc y r z=>by subst z;rw[r] at mu;exact mu
 have OD:∀c xs,H c=some (.tup xs)->c≠x:=λc xs r z=>by subst z;rw[r] at mu;exact mu
 by_cases hb:b=x
 ·subst hb;rw[aj] at q;cases q;exact new
 ·rw[aw hb] at q
  by_cases IJ:b=e
  ·have q':H b=some (.own x):=by
    rcases he with z | z
    ·exact absurd (IJ.trans z) hb
    ·rw[IJ];exact z
   rw[q] at q';cases q'
   obtain⟨v,hv⟩:=Ln
   exact⟨v,by rw[IJ];exact hv⟩
  ·refine(ok b u q).uY (λc v hc r=>k c v ?_ r) (λc r=>by rw[aw (LY c b r)];exact r) λc xs r=>by rw[aw (OD c xs r)];exact r
   rcases hc with rfl | hc
   ·exact IJ
   ·rintro rfl
    rcases he with z | z
    ·exact LY c b hc z
    ·rw[hc] at z;cases z;exact hb rfl
end
structure Un (fs ex:List Addr) (H H':Hp) (h h':Heap):Prop where
 keep:∀b o,h.get? b=some o->H b=none->b∉fs->b∉ex->h'.get? b=some o
 slot:∀b o,h.get? b=some o->H b=none->b∈fs->b∉ex->∃sl,h'.get? b=some {o with slots:=sl}
 free:∀b o,h.get? b=some o->H b=none->b∉ex->H' b=none
 there:∀b o,h.get? b=some o->b∉ex->∃o',h'.get? b=some o'
 m8:∀b xs,H b=some (.tup xs)->H' b=some (.tup xs)
 lE:∀b o u,H b=some (.wI o u)->H' b=some (.wI o u)
 ng:∀b ps,H b=some (.Ft ps)->∃more,H' b=some (.Ft (ps++more))
section
variable {fs Tr ex OE : List Addr} {H H1 H2 : Hp} {h h1 h2 h' : Heap} {a x e : Addr} {o : HO}
theorem Un.any (u:Un fs ex H H1 h h1) {b:Addr} {ob:Obj} (q:h.get? b=some ob) (n:H b=none) (hx:b∉ex):∃sl,h1.get? b=some {ob with slots:=sl}:=by
 by_cases hb:b∈fs
 ·exact u.slot b ob q n hb hx
 ·exact⟨ob.slots,u.keep b ob q n hb hx⟩
theorem Un.kept (k:∀b u,h.get? b=some u->h'.get? b=some u):Un fs ex H H h h':=
 ⟨λb ob q _ _ _=>k b ob q,λb ob q _ _ _=>⟨ob.slots,k b ob q⟩,λ_ _ _ n _=>n,λb ob q _=>⟨ob,k b ob q⟩,λ_ _ q=>q,λ_ _ _ q=>q,λ_ ps q=>⟨#[],by rw[q];simp⟩⟩
theorem Un.refl:Un fs ex H H h h:=Un.kept λ_ _ q=>q
theorem Un.laid (k:∀b u,h.get? b=some u->h'.get? b=some u) (hp:h.objs.size<=a) (hn:H a=none):Un fs ex H (upd H a o) h h' where
 keep:=λb u q _ _ _=>k b u q
 slot:=λb u q _ _ _=>⟨u.slots,k b u q⟩
 free:=λb u q n _=>by rw[aw (YE (YJ (Heap.lt_size q) hp))];exact n
 there:=λb u q _=>⟨u,k b u q⟩
 m8:=λb xs q=>by rw[aw (eE q hn)];exact q
 lE:=λb u xs q=>by rw[aw (eE q hn)];exact q
 ng:=λb ps q=>⟨#[],by rw[aw (eE q hn),q];simp⟩
theorem Un.write (mu:LX (H x)) (he:e=x\/H e=some (.own x)) (k:∀b u,b≠e->h.get? b=some u->h'.get? b=some u) (Ln:∃u,h'.get? e=some u):Un fs ex H (upd H x o) h h':=by
 have hx:∀b,H b=none->b≠x:=λb n z=>by subst z;rw[n] at mu;exact mu
 have hb:∀b,H b=none->b≠e:=λb n z=>by
  subst z
  rcases he with r | r
  ·exact hx b n r
  ·rw[n] at r;cases r
 have hm:∀b u,H b=some u->¬LX (some u)->b≠x:=λb u q nm z=>by subst z;rw[q] at mu;exact nm mu
 refine⟨λb u q n _ _=>k b u (hb b n) q,λb u q n _ _=>⟨u.slots,k b u (hb b n) q⟩,λb u q n _=>by rw[aw (hx b n)];exact n,λb u q _=>?_,
  λb xs q=>by rw[aw (hm b _ q λz=>z)];exact q,λb u xs q=>by rw[aw (hm b _ q λz=>z)];exact q,λb ps q=>⟨#[],by rw[aw (hm b _ q λz=>z),q];simp⟩⟩
 by_cases IJ:b=e
 ·subst IJ;exact Ln
 ·exact⟨u,k b u IJ q⟩
end
noncomputable def NQ (h:Heap) (H:Hp):List Addr:=(List.range h.objs.size).filter λa=>(H a).isSome
noncomputable def uZ (h:Heap) (H:Hp):Heap:=PySem.W.hideAll h (NQ h H)
theorem BF (h:Heap) (H:Hp):(uZ h H).objs.size=h.objs.size:=PySem.W.hideAll_size _ _
theorem CQ {h:Heap} {H:Hp} {b:Addr} {o:Obj} (e:h.get? b=some o) (n:H b=none):(uZ h H).get? b=some o:=
 PySem.W.hideAll_get _ e λhm=>by
  have q:(H b).isSome=true:=(List.mem_filter.mp hm).2
  rw[n] at q;simp at q
theorem FP {h:Heap} {H:Hp} {b:Addr} {o:Obj} (e:(uZ h H).get? b=some o):h.get? b=some o/\H b=none:=by
 have e':h.get? b=some o:=PySem.W.of_hideAll (NQ h H) e
 refine⟨e',?_⟩
 cases q:H b with
 | none=>rfl
 | some x=>
  have hm:b∈NQ h H:=List.mem_filter.mpr ⟨List.mem_range.mpr (Heap.lt_size e'),by simp [q]⟩
  have z:(uZ h H).get? b=none:=PySem.W.hideAll_none (NQ h H) hm
  rw[z] at e;cases e
noncomputable def FQ (g h:Heap) (L:Addr):List (Addr×Obj):=(List.range h.objs.size).filterMap λa=>if a=L\/(g.get? a).isSome=true then none else (h.get? a).map λo=>(a,o)
noncomputable def rest (g h:Heap) (L d:Addr):List (Addr×Obj):=(FQ g h L).filter λp=>decide (p.1≠d)
end L2
namespace L2
open PySem PySem.Spec PyProof.Rows
structure Mod (K:PySem.W.Frag) (mg:Str->Option Value) (base:Heap):Prop where
 Lo:K.In base
 glob:base.Ns mainGlobals mg
 blt:∃mb,base.Ns builtinsNs mb/\∀x:Str,x≠"__name__"->mb x=bootBuiltins x
 nolimit:base.NoLimit
structure Cx where
 prog:Program
 w:World
 K:PySem.W.Frag
 mg:Str->Option Value
 base:Heap
 A:Around
 N:List Str
 s₀:Shared
 H₀:Hp
 env:Env
 outer:List Env
 stack:List Env
 ex:List Addr
 fn:Str->Bool
 calm:Bool
 pn:List (Addr×Obj)
 xe:Value->Shared->Prop
def gT (l:List Env):List Addr:=l.filterMap (·.frame)
abbrev Cx.fs (X:Cx):List Addr:=gT X.outer
noncomputable def OF (sc:Scope) (x:Str):Prop:=sc.names.lookup x=some .local\/sc.names.lookup x=some .cell\/sc.names.lookup x=some .free
noncomputable def Loc (sc:Scope) (x:Str):Prop:=sc.names.lookup x=some .local\/sc.names.lookup x=some .cell
noncomputable def Look (env:Env) (h:Heap) (m:Str->Option Value) (x:Str) (u:Value):Prop:=
 (env.kindOf x=some .local/\m x=some u)\/((env.kindOf x=some .cell\/env.kindOf x=some .free)/\∃c,env.cells.lookup x=some c/\h.IsCell c (some u))
structure Cx.Ok (X:Cx):Prop where
 mod:Mod X.K X.mg X.base
 kind:X.env.scope.kind=.function
 glob:X.env.globals=mainGlobals
 blt:X.env.builtins=builtinsNs
 above:X.s₀.heap.objs.size<=X.env.locals
 inj:∀x y c,X.env.cells.lookup x=some c->X.env.cells.lookup y=some c->x=y
 has:∀x,(X.env.kindOf x=some .cell\/X.env.kindOf x=some .free)->∃c,X.env.cells.lookup x=some c
 Lp:∀x c,X.fn x=true->X.env.cells.lookup x=some c->X.s₀.heap.objs.size<=c
 hd:X.calm=true->X.A.handled=none
 frames:X.A.frames=some X.stack
 BG:X.stack=X.outer\/(X.stack=X.env::X.outer/\X.env.frame=some X.env.locals)
 OG:∀b∈X.ex,b≠X.env.locals/\∀x c,X.env.cells.lookup x=some c->c≠b
 bs:∀b o,X.base.get? b=some o->X.s₀.heap.get? b=some o/\X.H₀ b=none
 Fu:X.base.objs.size<=X.s₀.heap.objs.size
 BH:∀b o,X.base.get? b=some o->b∉X.ex
 CS:∀b∈X.ex,b∉X.fs
 nh:X.s₀.heap.FunFrames X.base X.outer
 HC:∀b∈X.fs,X.H₀ b=none
structure Inv (X:Cx) (pins:List (Addr×Obj)) (σ:List (Option V)) (H:Hp) (s:Shared):Prop where
 ok:X.Ok
 os:s.os=X.s₀.os
 bare:AllBare s.gens
 base:Un X.fs X.ex X.H₀ H X.s₀.heap s.heap
 loc:∃m,s.heap.Ns X.env.locals m/\∀(i:Nat) (x:Str) (v:V),X.N[i]?=some x->σ[i]?=some (some v)->OF X.env.scope x->∃u,RelV v u/\Look X.env s.heap m x u
 cell:∀x c,X.env.cells.lookup x=some c->∃v,s.heap.IsCell c v
 free:H X.env.locals=none
 iy:∀x c,X.env.cells.lookup x=some c->H c=none
 pin:∀p∈X.pn++pins,s.heap.get? p.1=some p.2/\H p.1=none/\p.1≠X.env.locals/\p.1∉X.fs/\∀v,p.2.data≠.cell v
 bR:gB X.prog X.w H s.heap
 len:σ.length=X.N.length
section
variable {X : Cx} {pins : List (Addr × Obj)} {σ : List (Option V)} {H H' : Hp} {s : Shared} {h' : Heap}
theorem Cx.Ok.OH (ok:X.Ok) {b:Addr} {o:Obj} (e:X.base.get? b=some o):b∉X.fs:=λhb=>by
 have:=(ok.nh.mem hb).1
 rw[e] at this;cases this
theorem Inv.bs (I:Inv X pins σ H s):∀b o,X.base.get? b=some o->s.heap.get? b=some o/\H b=none:=λb o e=>
 ⟨I.base.keep b o (I.ok.bs b o e).1 (I.ok.bs b o e).2 (I.ok.OH e) (I.ok.BH b o e),I.base.free b o (I.ok.bs b o e).1 (I.ok.bs b o e).2 (I.ok.BH b o e)⟩
theorem Inv.bk (I:Inv X pins σ H s):∀b o,X.base.get? b=some o->s.heap.get? b=some o:=λb o e=>(I.bs b o e).1
theorem Inv.mod (I:Inv X pins σ H s):Mod X.K X.mg X.base:=I.ok.mod
theorem Inv.pe (I:Inv X pins σ H s):X.K.In s.heap:=I.ok.mod.Lo.keeps I.bk
theorem Inv.lt (I:Inv X pins σ H s):X.env.locals<s.heap.objs.size:=let ⟨_,hn,_⟩:=I.loc;hn.lt
theorem Inv.sz (I:Inv X pins σ H s):X.s₀.heap.objs.size<=s.heap.objs.size:=YB I.ok.above (Nat.le_of_lt I.lt)
theorem Inv.OI (I:Inv X pins σ H s) {a:Addr} (h:s.heap.objs.size<=a):a∉X.fs:=λhb=>by
 obtain⟨_,o,ho,_⟩:=I.ok.nh.mem hb
 exact absurd (YJ (Heap.lt_size ho) (YB I.sz h)) (YW _)
theorem Inv.IK (I:Inv X pins σ H s):∀x c,X.env.cells.lookup x=some c->c≠X.env.locals:=λx c e z=>by
 obtain⟨v,o,ho,hd⟩:=I.cell x c e
 obtain⟨m,⟨o',es,ep,FR,OJ,_⟩,_⟩:=I.loc
 rw[z,FR] at ho;cases ho;rw[OJ] at hd;cases hd
theorem Inv.nh (I:Inv X pins σ H s):s.heap.FunFrames X.base X.outer:=by
 have all:∀(l:List Env),(∀b∈gT l,b∈X.fs)->X.s₀.heap.FunFrames X.base l->s.heap.FunFrames X.base l:=by
  intro l
  induction l with
  | nil=>intro _ _;trivial
  | cons env r ih=>
   intro hs hl
   obtain⟨hk,⟨L,o,hf,hn,ho,hd⟩,hr⟩:=hl
   have hL:L∈X.fs:=hs L (by unfold gT;rw[Y6,hf];exact YA)
   obtain⟨sl,e⟩:=I.base.slot L o ho (I.ok.HC L hL) hL λz=>I.ok.CS L z hL
   exact⟨hk,⟨L,_,hf,hn,e,hd⟩,ih (λb hb=>hs b (by unfold gT;rw[Y6,hf];exact Yz _ hb)) hr⟩
 exact all X.outer (λ_ hb=>hb) I.ok.nh
theorem Inv.stack (I:Inv X pins σ H s):s.heap.FunFrames X.base X.stack:=by
 rcases I.ok.BG with e | ⟨e,hf⟩
 ·rw[e];exact I.nh
 ·rw[e]
  obtain⟨m,hn,_⟩:=I.loc
  refine .cons (by rw[I.ok.kind];decide) hf hn ?_ I.nh
  exact Heap.get?_none_of_le (YB I.ok.Fu I.ok.above)
theorem Inv.u0 (I:Inv X pins σ H s):∀b∈gT X.stack,b∈X.env.locals::X.fs:=λb hb=>by
 rcases I.ok.BG with e | ⟨e,hf⟩
 ·rw[e] at hb;exact Yz _ hb
 ·rw[e] at hb
  unfold gT at hb
  rw[Y6,hf] at hb
  exact hb
theorem Inv.u3 (I:Inv X pins σ H s):∀b∈gT X.stack,H b=none:=λb hb=>by
 rcases List.mem_cons.mp (I.u0 b hb) with e | hb
 ·rw[e];exact I.free
 ·obtain⟨_,o,ho,_⟩:=I.ok.nh.mem hb
  exact I.base.free b o ho (I.ok.HC b hb) λz=>I.ok.CS b z hb
theorem Inv.step {g':Array GenState} {t':Nat} {d':Drawn} {ch:List Addr} (I:Inv X pins σ H s)
  (Fv:∀b∈ch,(b∈X.ex\/X.s₀.heap.objs.size<=b)/\b≠X.env.locals/\(∀x c,X.env.cells.lookup x=some c->c≠b)/\∀p∈X.pn++pins,p.1≠b)
  (keep:∀b o,b≠X.env.locals->b∉X.fs->b∉ch->s.heap.get? b=some o->H b=none->h'.get? b=some o)
  (slot:∀b o,b≠X.env.locals->b∈X.fs->b∉ch->s.heap.get? b=some o->H b=none->∃sl,h'.get? b=some {o with slots:=sl}) (free:∀b o,b∉ch->s.heap.get? b=some o->H b=none->H' b=none)
  (there:∀b o,b∉ch->s.heap.get? b=some o->∃o',h'.get? b=some o')
  (m8:∀b xs,H b=some (.tup xs)->H' b=some (.tup xs)) (lE:∀b o u,H b=some (.wI o u)->H' b=some (.wI o u)) (ng:∀b ps,H b=some (.Ft ps)->∃more,H' b=some (.Ft (ps++more)))
  (ns:∀m,s.heap.Ns X.env.locals m->h'.Ns X.env.locals m) (bR:gB X.prog X.w H' h') (hg:AllBare g'):
  Inv X pins σ H' {s with heap:=h',gens:=g',drawn:=d',toks:=t'}:=by
 have Rn:∀b o,X.s₀.heap.get? b=some o->b≠X.env.locals:=λb o e=>YE (YJ (Heap.lt_size e) I.ok.above)
 have NR:∀b o,X.s₀.heap.get? b=some o->b∉X.ex->b∉ch:=λb o e hx hb=>by
  rcases(Fv b hb).1 with z | z
  ·exact hx z
  ·exact absurd (YJ (Heap.lt_size e) z) (YW _)
 have cellK:∀x c,X.env.cells.lookup x=some c->∀v,s.heap.IsCell c v->h'.IsCell c v:=λx c e v ⟨o,ho,hd⟩=>by
  have HD:c∉ch:=λz=>(Fv c z).2.2.1 x c e rfl
  by_cases hc:c∈X.fs
  ·obtain⟨sl,q⟩:=slot c o (I.IK x c e) hc HD ho (I.iy x c e)
   exact⟨_,q,hd⟩
  ·exact⟨o,keep c o (I.IK x c e) hc HD ho (I.iy x c e),hd⟩
 refine⟨I.ok,I.os,hg,⟨λb o e n hb hx=>?_,λb o e n hb hx=>?_,λb o e n hx=>?_,λb o e hx=>?_,λb xs e=>m8 b xs (I.base.m8 b xs e),λb o xs e=>lE b o xs (I.base.lE b o xs e),λb ps e=>?_⟩,?_,λx c e=>?_,?_,λx c e=>?_,λp hp=>?_,bR,I.len⟩
 ·exact keep b o (Rn b o e) hb (NR b o e hx) (I.base.keep b o e n hb hx) (I.base.free b o e n hx)
 ·obtain⟨sl,e1⟩:=I.base.slot b o e n hb hx
  obtain⟨IL,e2⟩:=slot b _ (Rn b o e) hb (NR b o e hx) e1 (I.base.free b o e n hx)
  exact⟨IL,e2⟩
 ·obtain⟨o',e1⟩:=I.base.there b o e hx
  exact free b o' (NR b o e hx) e1 (I.base.free b o e n hx)
 ·obtain⟨o',e1⟩:=I.base.there b o e hx
  exact there b o' (NR b o e hx) e1
 ·obtain⟨m1,e1⟩:=I.base.ng b ps e
  obtain⟨m2,e2⟩:=ng b _ e1
  exact⟨m1++m2,by rw[e2,Array.append_assoc]⟩
 ·obtain⟨m,hn,hl⟩:=I.loc
  refine⟨m,ns m hn,λi x v e1 e2 e3=>?_⟩
  obtain⟨u,r,l⟩:=hl i x v e1 e2 e3
  refine⟨u,r,?_⟩
  rcases l with l | ⟨k,c,e,z⟩
  ·exact .inl l
  ·exact .inr ⟨k,c,e,cellK x c e _ z⟩
 ·obtain⟨v,z⟩:=I.cell x c e
  exact⟨v,cellK x c e v z⟩
 ·obtain⟨m,⟨o,_,_,ho,_⟩,_⟩:=I.loc
  exact free _ o (λz=>(Fv _ z).2.1 rfl) ho I.free
 ·obtain⟨v,o,ho,hd⟩:=I.cell x c e
  exact free c o (λz=>(Fv c z).2.2.1 x c e rfl) ho (I.iy x c e)
 ·obtain⟨e,n,ne,nf,d⟩:=I.pin p hp
  have HD:p.1∉ch:=λz=>(Fv p.1 z).2.2.2 p hp rfl
  exact⟨keep p.1 p.2 ne nf HD e n,free p.1 p.2 HD e n,ne,nf,d⟩
theorem Inv.un {t':Nat} (I:Inv X pins σ H s) (u:Un X.fs [] H H' s.heap h') (bR:gB X.prog X.w H' h'):Inv X pins σ H' {s with heap:=h',toks:=t'}:=by
 obtain⟨m,⟨o,es,ep,ho,r⟩,_⟩:=id I.loc
 obtain⟨sl,hL⟩:=u.any ho I.free (by simp)
 exact I.step (g':=s.gens) (d':=s.drawn) (ch:=[]) (λ_ z=>nomatch z) (λb o _ hb _ e n=>u.keep b o e n hb (by simp)) (λb o _ hb _ e n=>u.slot b o e n hb (by simp)) (λb o _ e n=>u.free b o e n (by simp)) (λb o _ e=>u.there b o e (by simp)) u.m8 u.lE u.ng (λm' hm=>by
  obtain⟨o',OK,yQ,FR,r'⟩:=hm
  rw[ho] at FR;cases FR
  exact⟨_,OK,yQ,hL,r'⟩) bR I.bare
theorem Inv.call {g':Array GenState} {t':Nat} {d':Drawn} {ch:List Addr} (I:Inv X pins σ H s) (u:Un (gT X.stack) ch H H' s.heap h') (bR:gB X.prog X.w H' h') (hg:AllBare g')
  (Fv:∀b∈ch,(b∈X.ex\/X.s₀.heap.objs.size<=b)/\b≠X.env.locals/\(∀x c,X.env.cells.lookup x=some c->c≠b)/\∀p∈X.pn++pins,p.1≠b):
  Inv X pins σ H' {s with heap:=h',gens:=g',drawn:=d',toks:=t'}:=by
 obtain⟨m,⟨o,es,ep,ho,r⟩,_⟩:=id I.loc
 obtain⟨sl,hL⟩:=u.any ho I.free λz=>(Fv _ z).2.1 rfl
 exact I.step (ch:=ch) Fv (λb o hL hb hc e n=>u.keep b o e n (λz=>(List.mem_cons.mp (I.u0 b z)).elim hL hb) hc) (λb o _ _ hc e n=>u.any e n hc) (λb o hc e n=>u.free b o e n hc) (λb o hc e=>u.there b o e hc) u.m8 u.lE u.ng (λm' hm=>by
  obtain⟨o',OK,yQ,FR,r'⟩:=hm
  rw[ho] at FR;cases FR
  exact⟨_,OK,yQ,hL,r'⟩) bR hg
theorem Inv.turned {t':Nat} {it:Addr} (I:Inv X pins σ H s) (k:∀b o,b≠it->s.heap.get? b=some o->h'.get? b=some o) (hn:H it=none) (hL:it≠X.env.locals)
  (h1:it∈X.ex\/X.s₀.heap.objs.size<=it) (h2:∀x c,X.env.cells.lookup x=some c->c≠it) (h3:∀p∈X.pn++pins,p.1≠it):Inv X pins σ H {s with heap:=h',toks:=t'}:=by
 have Ro:∀b u,H b=some u->b≠it:=λb u e z=>by rw[z,hn] at e;cases e
 refine I.step (g':=s.gens) (d':=s.drawn) (ch:=[it]) (λb hb=>?_) (λb o _ _ hc e _=>k b o (λz=>hc (by simp [z])) e) (λb o _ _ hc e _=>⟨o.slots,k b o (λz=>hc (by simp [z])) e⟩) (λ_ _ _ _ n=>n)
  (λb o hc e=>⟨o,k b o (λz=>hc (by simp [z])) e⟩) (λ_ _ e=>e) (λ_ _ _ e=>e) (λb ps e=>⟨#[],by rw[e];simp⟩) (λm hm=>?_) (λb u e=>?_) I.bare
 ·have e:b=it:=by simpa using hb
  subst e
  exact⟨h1,hL,h2,h3⟩
 ·obtain⟨o,es,ep,ho,r⟩:=hm
  exact⟨o,es,ep,k _ o (Ne.symm hL) ho,r⟩
 ·refine(I.bR b u e).uY (λc v hc q=>k c v ?_ q) (λ_ q=>q) λ_ _ q=>q
  rcases hc with z | z
  ·rw[z];exact Ro b u e
  ·exact Ro c _ z
theorem Inv.tok (I:Inv X pins σ H s) (t:Nat):Inv X pins σ H {s with toks:=t}:=I.un (h':=s.heap) (t':=t) Un.refl I.bR
theorem Inv.kept {t':Nat} (I:Inv X pins σ H s) (k:∀b u,s.heap.get? b=some u->h'.get? b=some u):Inv X pins σ H {s with heap:=h',toks:=t'}:=I.un (Un.kept k) (I.bR.kept k)
theorem Inv.laid {a:Addr} {o:HO} {t':Nat} (I:Inv X pins σ H s) (k:∀b u,s.heap.get? b=some u->h'.get? b=some u) (hp:s.heap.objs.size<=a) (new:cF X.prog X.w (upd H a o) h' a o):
  Inv X pins σ (upd H a o) {s with heap:=h',toks:=t'}:=I.un (Un.laid k hp (I.bR.fresh hp)) (I.bR.laid k hp new)
theorem Inv.write {x e:Addr} {o:HO} {t':Nat} (I:Inv X pins σ H s) (mu:LX (H x)) (he:e=x\/H e=some (.own x)) (k:∀b u,b≠e->s.heap.get? b=some u->h'.get? b=some u) (Ln:∃u,h'.get? e=some u)
  (new:cF X.prog X.w (upd H x o) h' x o):Inv X pins σ (upd H x o) {s with heap:=h',toks:=t'}:=I.un (Un.write mu he k Ln) (I.bR.write mu he k Ln new)
theorem Inv.lF {HE:List (Addr×Obj)} (I:Inv X pins σ H s) (h:∀p∈HE,s.heap.get? p.1=some p.2/\H p.1=none/\p.1≠X.env.locals/\p.1∉X.fs/\∀v,p.2.data≠.cell v):Inv X HE σ H s:=
 ⟨I.ok,I.os,I.bare,I.base,I.loc,I.cell,I.free,I.iy,λp hp=>(List.mem_append.mp hp).elim (λz=>I.pin p (Zg _ z)) (h p),I.bR,I.len⟩
theorem wR {N:List Str} (hN:N.Nodup) {i j:Nat} {x:Str} (a:N[i]?=some x) (b:N[j]?=some x):i=j:=by
 obtain⟨h1,e1⟩:=List.getElem?_eq_some_iff.mp a
 obtain⟨h2,e2⟩:=List.getElem?_eq_some_iff.mp b
 exact(List.getElem_inj hN).mp (e1.trans e2.symm)
theorem um {M:Model} {A:Around} {E:Value->Shared->Prop} {i:Nat} {x:Str} {v:V} {u:Value} {Q:Unit->Shared->Prop} (I:Inv X pins σ H s) (hN:X.N.Nodup) (hi:X.N[i]?=some x) (hx:Loc X.env.scope x) (r:RelV v u)
  (h:∀s',Inv X pins (σ.set i (some v)) H s'->(∃a,Heap.SameBut a s.heap s'.heap/\(a=X.env.locals\/X.env.cells.lookup x=some a))->Q () s') (hf:X.fn x=true\/X.env.scope.names.lookup x=some .local:=by first | exact .inl rfl | exact .inr rfl | assumption):wpAny M A (storeName X.env x u) Q E s:=by
 obtain⟨m,hn,hl⟩:=id I.loc
 have OL:(X.env.scope.kind==.class || (X.env.scope.kind==.module && X.env.locals !=X.env.globals))=false:=by rw[I.ok.kind];rfl
 have Rp:i<σ.length:=by rw[I.len];exact(List.getElem?_eq_some_iff.mp hi).1
 have IK:=I.IK
 have tracked:∀{a:Addr} {h':Heap},(∃o,s.heap.get? a=some o/\H a=none)->Heap.SameBut a s.heap h'->gB X.prog X.w H h':=λ{a h'} ha hs b ob e=>by
  obtain⟨_,_,HF⟩:=ha
  refine(I.bR b ob e).uY (λc w' hc q=>(hs.2 c ?_).trans q) (λ_ q=>q) λ_ _ q=>q
  rintro rfl
  rcases hc with rfl | hc
  ·rw[HF] at e;cases e
  ·rw[HF] at hc;cases hc
 rcases hx with hk | hk
 ·refine wpAny_storeName_local hk hn (λh' Ts hs=>?_) OL
  obtain⟨oL,_,_,LZ,_⟩:=id hn
  refine h _ ⟨I.ok,I.os,I.bare,⟨λb o e n hb hx=>?_,λb o e n hb hx=>?_,I.base.free,λb o e hx=>?_,I.base.m8,I.base.lE,I.base.ng⟩,⟨_,Ts,λj y v' e1 e2 e3=>?_⟩,λy c e=>?_,I.free,I.iy,λp hp=>?_,tracked ⟨oL,LZ,I.free⟩ hs,by simpa using I.len⟩ ⟨_,hs,.inl rfl⟩
  ·exact(hs.2 b (YE (YJ (Heap.lt_size e) I.ok.above))).trans (I.base.keep b o e n hb hx)
  ·obtain⟨sl,e1⟩:=I.base.slot b o e n hb hx
   exact⟨sl,(hs.2 b (YE (YJ (Heap.lt_size e) I.ok.above))).trans e1⟩
  ·obtain⟨o',e1⟩:=I.base.there b o e hx
   exact⟨o',(hs.2 b (YE (YJ (Heap.lt_size e) I.ok.above))).trans e1⟩
  ·by_cases hj:j=i
   ·subst hj
    rw[hi] at e1;cases e1
    rw[List.getElem?_set_self Rp] at e2
    cases e2
    exact⟨u,r,.inl ⟨hk,by simp⟩⟩
   ·rw[List.getElem?_set_ne (Ne.symm hj)] at e2
    obtain⟨u',r',q⟩:=hl j y v' e1 e2 e3
    refine⟨u',r',?_⟩
    rcases q with ⟨k,e⟩ | ⟨k,c,e,z⟩
    ·refine .inl ⟨k,?_⟩
     have:y≠x:=λe=>hj (wR hN e1 (e▸hi))
     simp [this,e]
    ·exact .inr ⟨k,c,e,z.sameBut hs (IK y c e)⟩
  ·obtain⟨w',z⟩:=I.cell y c e
   exact⟨w',z.sameBut hs (IK y c e)⟩
  ·obtain⟨e,n,ne,nf,d⟩:=I.pin p hp
   exact⟨(hs.2 p.1 ne).trans e,n,ne,nf,d⟩
 ·have OM:X.fn x=true:=by
   rcases hf with z | z
   ·exact z
   ·rw[z] at hk;cases hk
  obtain⟨c,hc⟩:=I.ok.has x (.inl hk)
  obtain⟨w',z⟩:=I.cell x c hc
  refine wpAny_storeName_cell I.ok.kind hk hc z (λh' NS hs=>?_)
  obtain⟨oc,Rq,ON⟩:=id z
  refine h {s with heap:=h'} ⟨I.ok,I.os,I.bare,⟨λb o e n hb hx=>?_,λb o e n hb hx=>?_,I.base.free,λb o e hx=>?_,I.base.m8,I.base.lE,I.base.ng⟩,⟨m,hn.sameBut hs (Ne.symm (IK x c hc)),λj y v' e1 e2 e3=>?_⟩,λy c' e=>?_,I.free,I.iy,λp hp=>?_,tracked ⟨oc,Rq,I.iy x c hc⟩ hs,by simpa using I.len⟩ ⟨c,hs,.inr hc⟩
  ·exact(hs.2 b (YE (YJ (Heap.lt_size e) (I.ok.Lp x c OM hc)))).trans (I.base.keep b o e n hb hx)
  ·obtain⟨sl,e1⟩:=I.base.slot b o e n hb hx
   exact⟨sl,(hs.2 b (YE (YJ (Heap.lt_size e) (I.ok.Lp x c OM hc)))).trans e1⟩
  ·obtain⟨o',e1⟩:=I.base.there b o e hx
   exact⟨o',(hs.2 b (YE (YJ (Heap.lt_size e) (I.ok.Lp x c OM hc)))).trans e1⟩
  ·by_cases hj:j=i
   ·subst hj
    rw[hi] at e1;cases e1
    rw[List.getElem?_set_self Rp] at e2
    cases e2
    exact⟨u,r,.inr ⟨.inl hk,c,hc,NS⟩⟩
   ·rw[List.getElem?_set_ne (Ne.symm hj)] at e2
    obtain⟨u',r',q⟩:=hl j y v' e1 e2 e3
    refine⟨u',r',?_⟩
    rcases q with q | ⟨k,c',e,z'⟩
    ·exact .inl q
    ·refine .inr ⟨k,c',e,z'.sameBut hs ?_⟩
     rintro rfl
     exact hj (wR hN e1 (I.ok.inj _ _ _ e hc▸hi))
  ·by_cases L1:c'=c
   ·subst L1;exact⟨_,NS⟩
   ·obtain⟨w2,z2⟩:=I.cell y c' e
    exact⟨w2,z2.sameBut hs L1⟩
  ·obtain⟨e,n,ne,nf,d⟩:=I.pin p hp
   refine⟨(hs.2 p.1 ?_).trans e,n,ne,nf,d⟩
   intro q
   rw[q,Rq] at e
   have q':oc=p.2:=YM e
   exact d w' (by rw[<-q'];exact ON)
theorem lG {M:Model} {A:Around} {E:Value->Shared->Prop} {i:Nat} {x:Str} {v:V} {u:Value} {Q:Unit->Shared->Prop} (I:Inv X pins σ H s) (hN:X.N.Nodup) (hi:X.N[i]?=some x) (hx:Loc X.env.scope x) (r:RelV v u)
  (h:∀s',Inv X pins (σ.set i (some v)) H s'->Q () s') (hf:X.fn x=true\/X.env.scope.names.lookup x=some .local:=by first | exact .inl rfl | exact .inr rfl | assumption):wpAny M A (storeName X.env x u) Q E s:=
 um I hN hi hx r (λs' I' _=>h s' I') hf
theorem Inv.L3 {s':Shared} {ch:List Addr} (I:Inv X pins σ H s) (ho:s'.os=s.os) (u:Un (gT X.stack) ch H H' s.heap s'.heap) (bR:gB X.prog X.w H' s'.heap) (hg:AllBare s'.gens)
  (Fv:∀b∈ch,(b∈X.ex\/X.s₀.heap.objs.size<=b)/\b≠X.env.locals/\(∀x c,X.env.cells.lookup x=some c->c≠b)/\∀p∈X.pn++pins,p.1≠b):Inv X pins σ H' s':=by
 obtain⟨h',g',d',t',o'⟩:=s'
 have e:o'=s.os:=ho
 subst e
 exact I.call (g':=g') (t':=t') (d':=d') u bR hg Fv
end
abbrev XK:=Value->Option Addr->Hp->Prop
abbrev St:=List (Option V)
abbrev VK:=V->Hp->Prop
abbrev TE:=St->Hp->VK->Prop
abbrev TT:=St->Hp->(Bool->Hp->Prop)->Prop
abbrev TA:=St->Hp->(List V->Hp->Prop)->Prop
structure Ends where
 nx:St->Hp->Prop
 rt:VK
 bk:St->Hp->Prop:=λ_ _=>False
 ct:St->Hp->Prop:=λ_ _=>False
abbrev TS:=Ends->St->Hp->Prop
noncomputable def EP (X:Cx) (pins:List (Addr×Obj)) (σ:St) (Q:VK) (u:Value) (s':Shared):Prop:=∃v H',Inv X pins σ H' s'/\RelV v u/\Q v H'
noncomputable def TP (X:Cx) (pins:List (Addr×Obj)) (σ:St) (Q:Bool->Hp->Prop) (b:Bool) (s':Shared):Prop:=∃H',Inv X pins σ H' s'/\Q b H'
noncomputable def AP (X:Cx) (pins:List (Addr×Obj)) (σ:St) (Q:List V->Hp->Prop) (us:List Value) (s':Shared):Prop:=∃vs H',Inv X pins σ H' s'/\bj vs us/\Q vs H'
noncomputable def SP (X:Cx) (pins:List (Addr×Obj)) (D:Ends) (f:Flow) (s':Shared):Prop:=
 match f with
 | .next=>∃σ' H',Inv X pins σ' H' s'/\D.nx σ' H'
 | .brk=>∃σ' H',Inv X pins σ' H' s'/\D.bk σ' H'
 | .cont=>∃σ' H',Inv X pins σ' H' s'/\D.ct σ' H'
 | .ret u=>∃v σ' H',Inv X pins σ' H' s'/\RelV v u/\D.rt v H'
noncomputable def PE (X:Cx) (e:Expr) (t:TE):Prop:=
 ∀(pins:List (Addr×Obj)) (s:Shared) (σ:St) (H:Hp) (Q:VK),Inv X pins σ H s->t σ H Q->wpAny (model X.prog X.w) X.A (eval e X.env) (EP X pins σ Q) X.xe s
noncomputable def PT (X:Cx) (e:Expr) (t:TT):Prop:=
 ∀(pins:List (Addr×Obj)) (s:Shared) (σ:St) (H:Hp) (Q:Bool->Hp->Prop),Inv X pins σ H s->t σ H Q->wpAny (model X.prog X.w) X.A (isTrue e X.env (eval e X.env)) (TP X pins σ Q) X.xe s
noncomputable def PW (X:Cx) (e:Expr) (t:TT):Prop:=
 ∀(whole:Sem Value) (pins:List (Addr×Obj)) (s:Shared) (σ:St) (H:Hp) (Q:Bool->Hp->Prop),Inv X pins σ H s->t σ H Q->wpAny (model X.prog X.w) X.A (isTrue e X.env whole) (TP X pins σ Q) X.xe s
theorem PW.pt {X:Cx} {e:Expr} {t:TT} (h:PW X e t):PT X e t:=h _
noncomputable def PA (X:Cx) (es:List Expr) (t:TA):Prop:=
 ∀(pos:Pos) (pins:List (Addr×Obj)) (s:Shared) (σ:St) (H:Hp) (Q:List V->Hp->Prop),Inv X pins σ H s->t σ H Q->wpAny (model X.prog X.w) X.A (spliced (backTo pos (starEach es X.env))) (AP X pins σ Q) X.xe s
noncomputable def PS (X:Cx) (st:Stmt) (t:TS):Prop:=
 ∀(pins:List (Addr×Obj)) (s:Shared) (σ:St) (H:Hp) (D:Ends),Inv X pins σ H s->t D σ H->wpAny (model X.prog X.w) X.A (exec st X.env) (SP X pins D) X.xe s
noncomputable def yR (X:Cx) (st:List Stmt) (t:TS):Prop:=
 ∀(pins:List (Addr×Obj)) (s:Shared) (σ:St) (H:Hp) (D:Ends),Inv X pins σ H s->t D σ H->wpAny (model X.prog X.w) X.A (execs st X.env) (SP X pins D) X.xe s
theorem cD {α:Type} {t:Sem α} {Q Q':α->Shared->Prop} {M:Model} {A:Around} {E:Value->Shared->Prop} {s:Shared} (h:wpAny M A t Q E s) (hQ:∀a s,Q a s->Q' a s):wpAny M A t Q' E s:=wpAny_mono h hQ λ_ _ x=>x
end L2
namespace L2
open PySem PySem.Spec PyProof.Rows
section
variable {X : Cx}
noncomputable def tVar (i:Nat):TE:=λσ H Q=>∃v,σ[i]?=some (some v)/\Q v H
noncomputable def tC (v:V):TE:=λ_ H Q=>Q v H
theorem IM {i:Nat} {x:Str} {pos:Pos} (hN:X.N[i]?=some x) (hv:OF X.env.scope x) (hd:(x==("__debug__":Str))=false:=by decide) (BI:(x==("__classdict__":Str))=false:=by decide):PE X (.Name x pos) (tVar i):=by
 intro pins s σ H Q I h
 obtain⟨v,e,h⟩:=h
 obtain⟨m,hn,hl⟩:=I.loc
 obtain⟨u,r,l⟩:=hl i x v hN e hv
 have fin:EP X pins σ Q u s:=⟨v,H,I,r,h⟩
 rcases l with ⟨hk,hm⟩ | ⟨hk,c,hc,HG⟩
 ·exact wpAny_Name (wpAny_loadName_local I.ok.kind hk hn hm fin) hd
 ·rcases hk with hk | hk
  ·exact wpAny_Name (wpAny_loadName_cell I.ok.kind hk hc HG fin) hd
  ·exact wpAny_Name (wpAny_loadName_free I.ok.kind hk hc HG fin BI) hd
theorem ae {i j pos}:PE X (.Constant (.int i) j pos) (tC (.int i)):=λ_ _ _ H _ I h=>wpAny_Constant_int ⟨.int i,H,I.tok _,⟨_,rfl⟩,h⟩
theorem oK {b j pos}:PE X (.Constant (.bool b) j pos) (tC (.bl b)):=λ_ _ _ H _ I h=>Constant_bool ⟨.bl b,H,I,rfl,h⟩
theorem yS {j pos}:PE X (.Constant .none j pos) (tC .cP):=λ_ _ _ H _ I h=>Constant_none ⟨.cP,H,I,rfl,h⟩
theorem aZ {x j pos}:PE X (.Constant (.str x) j pos) (tC (.str x)):=λ_ _ _ H _ I h=>Calls.Constant_str ⟨.str x,H,I.tok _,⟨_,rfl⟩,h⟩
noncomputable def Gl (X:Cx) (x:Str):Prop:=X.env.kindOf x=some .globalImplicit
theorem pT {E:Value->Shared->Prop} {pins:List (Addr×Obj)} {s:Shared} {σ:St} {H:Hp} {x:Str} {u:Value} {pos:Pos} {Q:Value->Shared->Prop} (I:Inv X pins σ H s) (hg:Gl X x) (hm:X.mg x=some u) (h:Q u s)
  (hd:(x==("__debug__":Str))=false:=by decide):wpAny (model X.prog X.w) X.A (eval (.Name x pos) X.env) Q E s:=
 Calls.Name_function_global I.ok.kind hg (Calls.loadGlobal_global (by rw[I.ok.glob];exact I.mod.glob.keeps I.bk) hm h) hd
theorem gu {E:Value->Shared->Prop} {pins:List (Addr×Obj)} {s:Shared} {σ:St} {H:Hp} {x:Str} {u:Value} {pos:Pos} {Q:Value->Shared->Prop} (I:Inv X pins σ H s) (hg:Gl X x) (hm:X.mg x=none) (hv:bootBuiltins x=some u) (h:Q u s)
  (hn:x≠"__name__":=by decide) (hd:(x==("__debug__":Str))=false:=by decide):wpAny (model X.prog X.w) X.A (eval (.Name x pos) X.env) Q E s:=by
 obtain⟨mb,h1,h2⟩:=I.mod.blt
 exact Calls.Name_function_global I.ok.kind hg (Calls.loadGlobal_builtin (by rw[I.ok.glob];exact I.mod.glob.keeps I.bk) hm (by rw[I.ok.blt];exact h1.keeps I.bk) ((h2 x hn).trans hv) h) hd
theorem FT {x:Str} {v:V} {u:Value} {pos:Pos} (hg:Gl X x) (hm:X.mg x=some u) (r:RelV v u) (hd:(x==("__debug__":Str))=false:=by decide):PE X (.Name x pos) (tC v):=
 λ_ _ _ H _ I h=>pT I hg hm ⟨v,H,I,r,h⟩ hd
theorem u4 {x:Str} {v:V} {u:Value} {pos:Pos} (hg:Gl X x) (hm:X.mg x=none) (hv:bootBuiltins x=some u) (r:RelV v u) (hn:x≠"__name__":=by decide) (hd:(x==("__debug__":Str))=false:=by decide):PE X (.Name x pos) (tC v):=
 λ_ _ _ H _ I h=>gu I hg hm hv ⟨v,H,I,r,h⟩ hn hd
noncomputable def Tt (ta tb:TE) (k:Int->Int->Hp->Prop):St->Hp->Prop:=λσ H=>ta σ H λx H1=>tb σ H1 λy H2=>∃i j,x=.int i/\y=.int j/\k i j H2
variable {a b : Expr} {ta tb : TE} {pos : Pos}
noncomputable def PC (X:Cx) (op:CmpOp) (a b:Expr) (t:TE):Prop:=
 ∀(pins:List (Addr×Obj)) (s:Shared) (σ:St) (H:Hp) (Q:VK),Inv X pins σ H s->t σ H Q->
  wpAny (model X.prog X.w) X.A (eval a X.env) (λv s₁=>wpAny (model X.prog X.w) X.A (eval b X.env) (λu s₂=>wpAny (model X.prog X.w) X.A (compareOp op v u) (EP X pins σ Q) X.xe s₂) X.xe s₁) X.xe s
theorem CT (b:Expr) {op:CmpOp} (h:op≠.In) (h2:op≠.NotIn):behindInMarks op b=false:=by
 have e1:(op==CmpOp.In)=false:=by cases op <;>first | rfl | exact absurd rfl h
 have e2:(op==CmpOp.NotIn)=false:=by cases op <;>first | rfl | exact absurd rfl h2
 cases b <;>simp [behindInMarks,e1,e2]
noncomputable def BJ (p:Int->Int->Bool) (ta tb:TE):TE:=λσ H Q=>Tt ta tb (λi j H2=>Q (.bl (p i j)) H2) σ H
abbrev WY:TE->TE->TE:=BJ λi j=>decide (i<j)
abbrev WZ:TE->TE->TE:=BJ λi j=>decide (i<=j)
abbrev W0:TE->TE->TE:=BJ λi j=>decide (j<i)
abbrev W1:TE->TE->TE:=BJ λi j=>decide (j<=i)
abbrev Tu:TE->TE->TE:=BJ λi j=>decide (i=j)
abbrev Tv:TE->TE->TE:=BJ λi j=>!decide (i=j)
noncomputable def tB (t:TE):TT:=λσ H Q=>t σ H λx H1=>∃c,x=.bl c/\Q c H1
theorem CU {op:CmpOp} {t:TE} (h:PC X op a b t) (h1:behindInMarks op b=false:=by first | exact CT _ (by decide) (by decide) | rfl):PT X (.Compare a [op] [b] pos) (tB t):=by
 intro pins s σ H Q I hw
 refine wpAny_isTrue_Compare1 (cD (h pins s σ H _ I hw) λv s1 h1=>cD h1 λu s2 h2=>cD h2 λc s3 dh=>?_) h1
 obtain⟨x,H1,I1,r1,q1⟩:=dh
 obtain⟨d,rfl,q⟩:=q1
 cases r1
 exact wpAny_truthy_bool ⟨H1,I1,q⟩
theorem kr {e:Expr} {t:TE} (h:PE X e t) (he:∀whole,isTrue e X.env whole=(do let v <-whole;standAt e.pos;holding [v] (truthy v)):=by intro _;rfl):PT X e (tB t):=by
 intro pins s σ H Q I hw
 refine isTrue_plain (cD (h pins s σ H _ I hw) λv s1 dh=>?_) (he _)
 obtain⟨x,H1,I1,r1,q1⟩:=dh
 obtain⟨d,rfl,q⟩:=q1
 cases r1
 exact wpAny_truthy_bool ⟨H1,I1,q⟩
variable {tA NT : TT} {rest : List Expr}
noncomputable def tAnd (t u:TT):TT:=λσ H Q=>t σ H λc H1=>if c=true then u σ H1 Q else Q false H1
noncomputable def tOr (t u:TT):TT:=λσ H Q=>t σ H λc H1=>if c=true then Q true H1 else u σ H1 Q
noncomputable def tNot (t:TT):TT:=λσ H Q=>t σ H λc H1=>Q (!c) H1
theorem pw_and1 (ha:PT X a tA):PW X (.BoolOp .And [a] pos) tA:=by
 intro wh pins s σ H Q I h
 refine isTrue_and (cD (ha pins s σ H Q I h) λc s1 e=>?_)
 cases c with
 | true=>exact isTrue_and_nil e
 | false=>exact e
theorem pw_or1 (ha:PT X a tA):PW X (.BoolOp .Or [a] pos) tA:=by
 intro wh pins s σ H Q I h
 refine isTrue_or (cD (ha pins s σ H Q I h) λc s1 e=>?_)
 cases c with
 | false=>exact isTrue_or_nil e
 | true=>exact e
theorem pw_and (ha:PT X a tA) (hb:PW X (.BoolOp .And (b::rest) pos) NT):PW X (.BoolOp .And (a::b::rest) pos) (tAnd tA NT):=by
 intro wh pins s σ H Q I h
 refine isTrue_and (cD (ha pins s σ H _ I h) λc s1 ⟨H1,I1,q1⟩=>?_)
 cases c with
 | true=>exact hb wh pins s1 σ H1 Q I1 q1
 | false=>exact⟨H1,I1,q1⟩
theorem pw_or (ha:PT X a tA) (hb:PW X (.BoolOp .Or (b::rest) pos) NT):PW X (.BoolOp .Or (a::b::rest) pos) (tOr tA NT):=by
 intro wh pins s σ H Q I h
 refine isTrue_or (cD (ha pins s σ H _ I h) λc s1 ⟨H1,I1,q1⟩=>?_)
 cases c with
 | true=>exact⟨H1,I1,q1⟩
 | false=>exact hb wh pins s1 σ H1 Q I1 q1
theorem yT (ha:PT X a tA):PT X (.UnaryOp .Not a pos) (tNot tA):=by
 intro pins s σ H Q I h
 exact isTrue_not (ha pins s σ H (λc H1=>Q (!c) H1) I h)
noncomputable def tAndV (ta tb:TE):TE:=λσ H Q=>ta σ H λx H1=>∃c,x=.bl c/\if c=true then tb σ H1 Q else Q (.bl false) H1
noncomputable def tOrV (ta tb:TE):TE:=λσ H Q=>ta σ H λx H1=>∃c,x=.bl c/\if c=true then Q (.bl true) H1 else tb σ H1 Q
noncomputable def tNotV (ta:TE):TE:=λσ H Q=>ta σ H λx H1=>∃c,x=.bl c/\Q (.bl (!c)) H1
theorem yU {op} {t:TE} (h:PE X a t):PE X (.BoolOp op [a] pos) t:=λpins s σ H Q I hw=>BoolOp_one (h pins s σ H Q I hw)
theorem yV (ha:PE X a ta) (hb:PE X (.BoolOp .And (b::rest) pos) tb):PE X (.BoolOp .And (a::b::rest) pos) (tAndV ta tb):=by
 intro pins s σ H Q I h
 refine BoolOp_and (cD (ha pins s σ H _ I h) λv s1 dh=>?_)
 obtain⟨x,H1,I1,r1,q1⟩:=dh
 obtain⟨c,rfl,q1⟩:=q1
 cases r1
 refine wpAny_truthy_bool ?_
 cases c with
 | true=>exact hb pins s1 σ H1 Q I1 q1
 | false=>exact⟨.bl false,H1,I1,rfl,q1⟩
theorem IP (ha:PE X a ta):PE X (.UnaryOp .Not a pos) (tNotV ta):=by
 intro pins s σ H Q I h
 refine UnaryOp_ (cD (ha pins s σ H _ I h) λv s1 dh=>?_)
 obtain⟨x,H1,I1,r1,q1⟩:=dh
 obtain⟨c,rfl,q1⟩:=q1
 cases r1
 exact not_of (wpAny_truthy_bool ⟨.bl (!c),H1,I1,rfl,q1⟩)
noncomputable def tIf (t:TT) (ta tb:TE):TE:=λσ H Q=>t σ H λc H1=>if c=true then ta σ H1 Q else tb σ H1 Q
theorem lH {c:Expr} (hc:PT X c tA) (ha:PE X a ta) (hb:PE X b tb):PE X (.IfExp c a b pos) (tIf tA ta tb):=by
 intro pins s σ H Q I h
 refine wpAny_IfExp (cD (hc pins s σ H _ I h) λd s1 ⟨H1,I1,q1⟩=>?_)
 cases d with
 | true=>exact ha pins s1 σ H1 Q I1 q1
 | false=>exact hb pins s1 σ H1 Q I1 q1
end
end L2
namespace L2
open PySem PySem.Spec PyProof.Rows
noncomputable def bI (K:PySem.W.Frag) (H:Hp) (a:Addr) (xs:List V):Prop:=
 Rd H a (.lst xs)\/
  ∃(o:Obj) (a6:Array Value) (n:Nat),K.lookup a=some o/\o.cls=.type "list"/\o.dict=none/\o.data=.seq a6 n/\a6.size<=sizeLine/\bj xs a6.toList
noncomputable def jn (K:PySem.W.Frag) (H:Hp) (a:Addr) (xs:List V):Prop:=
 Rd H a (.tup xs)\/
  ∃(o:Obj) (a6:Array Value) (n:Nat),K.lookup a=some o/\o.cls=.type "tuple"/\o.data=.seq a6 n/\a6.size<=sizeLine/\bj xs a6.toList
noncomputable def OO:Value->Option V
 | .none=>some .cP
 | .bool b=>some (.bl b)
 | .int i _=>some (.int i)
 | .str x _=>some (.str x)
 | .bytes b _=>some (.CC b)
 | .float b _=>some (.IH b)
 | .ref a=>some (.ref a)
 | .type n=>some (.ty n)
 | _=>none
theorem RelV.abs {x:V} {u:Value} (r:RelV x u):OO u=some x:=by
 cases x with
 | cP=>cases r;rfl
 | bl _=>cases r;rfl
 | int _=>obtain⟨t,rfl⟩:=r;rfl
 | str _=>obtain⟨t,rfl⟩:=r;rfl
 | CC _=>obtain⟨t,rfl⟩:=r;rfl
 | IH _=>obtain⟨t,rfl⟩:=r;rfl
 | ref _=>cases r;rfl
 | ty _=>cases r;rfl
theorem RelV.inj {x y:V} {u:Value} (r:RelV x u) (q:RelV y u):x=y:=YM (r.abs.symm.trans q.abs)
theorem bj.inj:∀{xs ys:List V} {us:List Value},bj xs us->bj ys us->xs=ys
 | _,_,_,.nil,.nil=>rfl
 | _,_,_,.cons r t,.cons r' t'=>by rw[r.inj r',bj.inj t t']
section
variable {X : Cx} {pins : List (Addr × Obj)} {σ : St} {H : Hp} {s : Shared} {a : Addr} {xs ys : List V}
theorem bI.of {K:PySem.W.Frag} (h:H a=some (.lst xs)):bI K H a xs:=.inl (.inl h)
theorem jn.of {K:PySem.W.Frag} (h:H a=some (.tup xs)):jn K H a xs:=.inl (.inl h)
theorem Inv.list (I:Inv X pins σ H s) (h:bI X.K H a xs):∃a6:List Value,bj xs a6/\PlainL s.heap a a6.toArray/\xs.length<=sizeLine:=by
 rcases h with h | ⟨o,a6,n,hk,hc,hd,hs,hz,r⟩
 ·obtain⟨z,a6,n,r,e⟩:=h.ok I.bR
  exact⟨a6,r,⟨_,n,e,rfl,rfl,rfl⟩,z⟩
 ·refine⟨a6.toList,r,⟨o,n,I.pe a o hk,hc,hd,by simpa using hs⟩,?_⟩
  have e:=r.length
  simp only[Array.length_toList] at e
  omega
theorem Inv.tuple (I:Inv X pins σ H s) (h:jn X.K H a xs):∃a6:List Value,bj xs a6/\IsTup s.heap a a6.toArray/\xs.length<=sizeLine:=by
 rcases h with h | ⟨o,a6,n,hk,hc,hs,hz,r⟩
 ·obtain⟨z,a6,r,p⟩:=h.ok I.bR
  exact⟨a6,r,p,z⟩
 ·refine⟨a6.toList,r,⟨o,I.pe a o hk,hc,n,by simpa using hs⟩,?_⟩
  have e:=r.length
  simp only[Array.length_toList] at e
  omega
theorem Inv.wU (I:Inv X pins σ H s) (h:bI X.K H a xs) (h':bI X.K H a ys):xs=ys:=by
 obtain⟨a6,r,⟨o,n,e,_,_,d⟩,_⟩:=I.list h
 obtain⟨its',r',⟨o',n',e',_,_,d'⟩,_⟩:=I.list h'
 rw[e] at e';cases e'
 rw[d] at d'
 injection d' with d1 _
 have:a6=its':=by simpa using congrArg Array.toList d1
 subst this
 exact r.inj r'
end
abbrev Cx.nj (X:Cx) (E:Value->Shared->Prop):Cx:={X with xe:=E}
abbrev Cx.NU (X:Cx):Cx:=X.nj λ_ _=>False
theorem Cx.Ok.nj {X:Cx} (ok:X.Ok) (E:Value->Shared->Prop):(X.nj E).Ok:=
 ⟨ok.mod,ok.kind,ok.glob,ok.blt,ok.above,ok.inj,ok.has,ok.Lp,ok.hd,ok.frames,ok.BG,ok.OG,ok.bs,ok.Fu,ok.BH,ok.CS,ok.nh,ok.HC⟩
theorem Cx.Ok.gU {X:Cx} {E:Value->Shared->Prop} (ok:(X.nj E).Ok):X.Ok:=
 ⟨ok.mod,ok.kind,ok.glob,ok.blt,ok.above,ok.inj,ok.has,ok.Lp,ok.hd,ok.frames,ok.BG,ok.OG,ok.bs,ok.Fu,ok.BH,ok.CS,ok.nh,ok.HC⟩
section
variable {X : Cx} {pins : List (Addr × Obj)} {σ : St} {H : Hp} {s : Shared} {E : Value -> Shared -> Prop}
theorem Inv.nj (I:Inv X pins σ H s) (E:Value->Shared->Prop):Inv (X.nj E) pins σ H s:=⟨I.ok.nj E,I.os,I.bare,I.base,I.loc,I.cell,I.free,I.iy,I.pin,I.bR,I.len⟩
theorem Inv.gU (I:Inv (X.nj E) pins σ H s):Inv X pins σ H s:=⟨I.ok.gU,I.os,I.bare,I.base,I.loc,I.cell,I.free,I.iy,I.pin,I.bR,I.len⟩
theorem SP.gU {D:Ends} {f:Flow} {s':Shared} (h:SP (X.nj E) pins D f s'):SP X pins D f s':=by
 cases f with
 | next=>obtain⟨σ',H',I,q⟩:=h;exact⟨σ',H',I.gU,q⟩
 | brk=>obtain⟨σ',H',I,q⟩:=h;exact⟨σ',H',I.gU,q⟩
 | cont=>obtain⟨σ',H',I,q⟩:=h;exact⟨σ',H',I.gU,q⟩
 | ret u=>obtain⟨v,σ',H',I,r,q⟩:=h;exact⟨v,σ',H',I.gU,r,q⟩
theorem yR.NU {st:List Stmt} {t:TS} (h:yR X.NU st t):yR X st t:=λpins s σ H D I hw=>
 wpAny_mono (h pins s σ H D (I.nj _) hw) (λ_ _ q=>q.gU) λ_ _ z=>False.elim z
end
section
variable {X : Cx} {st : Stmt} {rest : List Stmt} {t u : TS} {e : Expr} {te : TE} {pos : Pos}
noncomputable def tNext:TS:=λD σ H=>D.nx σ H
noncomputable def tSeq (t u:TS):TS:=λD σ H=>t {D with nx:=u D} σ H
theorem aY:yR X [] tNext:=λ_ _ σ H _ I h=>wpAny_execs_nil ⟨σ,H,I,h⟩
theorem ah (h1:PS X st t) (h2:yR X rest u):yR X (st::rest) (tSeq t u):=by
 intro pins s σ H D I h
 refine wpAny_execs_cons (cD (h1 pins s σ H {D with nx:=u D} I h) λf s1 q=>?_)
 cases f with
 | next=>
  obtain⟨σ',H',I',q⟩:=q
  exact h2 pins s1 σ' H' D I' q
 | ret v=>exact q
 | brk=>exact q
 | cont=>exact q
theorem ao (h1:PS X st t):yR X [st] t:=by
 intro pins s σ H D I h
 refine wpAny_execs_cons (cD (h1 pins s σ H D I h) λf s1 q=>?_)
 cases f with
 | next=>exact wpAny_execs_nil q
 | ret v=>exact q
 | brk=>exact q
 | cont=>exact q
noncomputable def IQ:TS:=λD σ H=>D.bk σ H
theorem CV:PS X (.Break pos) IQ:=λ_ _ σ H _ I h=>wpAny_Break ⟨σ,H,I,h⟩
theorem Inv.quiet {pins:List (Addr×Obj)} {σ:St} {H:Hp} {s:Shared} (I:Inv X pins σ H s):interactive X.env=false:=by simp [interactive,I.ok.kind]
noncomputable def tDrop (te:TE):TS:=λD σ H=>te σ H λ_ H1=>D.nx σ H1
theorem bG (he:PE X e te) (hs:swapsWith e none pos.line X.env=pure false:=by rfl):PS X (.Expr e pos) (tDrop te):=by
 intro pins s σ H D I h
 exact wpAny_Expr_any (cD (he pins s σ H _ I h) λv s1 ⟨x,H1,I1,r1,q1⟩=>⟨σ,H1,I1,q1⟩) I.quiet hs
noncomputable def tRet (te:TE):TS:=λD σ H=>te σ H D.rt
theorem aV (he:PE X e te):PS X (.Return (some e) pos) (tRet te):=by
 intro pins s σ H D I h
 exact wpAny_Return_some (cD (he pins s σ H _ I h) λv s1 ⟨x,H1,I1,r1,q1⟩=>⟨x,σ,H1,I1,r1,q1⟩)
noncomputable def tRetN:TS:=λD _ H=>D.rt .cP H
noncomputable def tIfS (c:TT) (t u:TS):TS:=λD σ H=>c σ H λb H1=>if b=true then t D σ H1 else u D σ H1
theorem bf {c:Expr} {a b:List Stmt} {tc:TT} (hc:PT X c tc) (ha:yR X a t) (hb:yR X b u):PS X (.If c a b pos) (tIfS tc t u):=by
 intro pins s σ H D I h
 refine wpAny_If (cD (hc pins s σ H _ I h) λd s1 ⟨H1,I1,q1⟩=>?_)
 cases d with
 | true=>exact ha pins s1 σ H1 D I1 q1
 | false=>exact hb pins s1 σ H1 D I1 q1
end
abbrev TG:=V->St->Hp->(St->Hp->Prop)->Prop
abbrev HH:=List V->St->Hp->(St->Hp->Prop)->Prop
noncomputable def PG (X:Cx) (target:Expr) (t:TG):Prop:=
 ∀(pins:List (Addr×Obj)) (s:Shared) (σ:St) (H:Hp) (v:V) (u:Value) (Q:St->Hp->Prop),Inv X pins σ H s->RelV v u->t v σ H Q->
  wpAny (model X.prog X.w) X.A (assign target X.env u) (λ_ s'=>∃σ' H',Inv X pins σ' H' s'/\Q σ' H') X.xe s
noncomputable def Lq (X:Cx) (ts:List Expr) (t:HH):Prop:=
 ∀(pins:List (Addr×Obj)) (s:Shared) (σ:St) (H:Hp) (vs:List V) (us:List Value) (Q:St->Hp->Prop),Inv X pins σ H s->bj vs us->t vs σ H Q->
  wpAny (model X.prog X.w) X.A (assignInOrder ((assignEach ts X.env).map (·.2)) us) (λ_ s'=>∃σ' H',Inv X pins σ' H' s'/\Q σ' H') X.xe s
abbrev IS:=V->V->V->Hp->(Hp->Prop)->Prop
noncomputable def L4 (X:Cx) (t:IS):Prop:=
 ∀(pins:List (Addr×Obj)) (s:Shared) (σ:St) (H:Hp) (o i v:V) (ov iv u:Value) (Q:Hp->Prop),Inv X pins σ H s->RelV o ov->RelV i iv->RelV v u->t o i v H Q->
  wpAny (model X.prog X.w) X.A (setItem ov iv u) (λ_ s'=>∃H',Inv X pins σ H' s'/\Q H') X.xe s
abbrev W2:=V->V->Hp->VK->Prop
section
variable {X : Cx} {pos : Pos}
noncomputable def gName (i:Nat):TG:=λv σ H Q=>Q (σ.set i (some v)) H
theorem aW {i:Nat} {x:Str} (hN:X.N.Nodup) (hi:X.N[i]?=some x) (hx:Loc X.env.scope x) (hf:X.fn x=true\/X.env.scope.names.lookup x=some .local:=by first | exact .inl rfl | exact .inr rfl | assumption):PG X (.Name x pos) (gName i):=by
 intro pins s σ H v u Q I r h
 exact wpAny_assign_Name (lG I hN hi hx r (λs' I'=>⟨_,H,I',h⟩) hf)
noncomputable def gNil:HH:=λvs σ H Q=>vs=[]/\Q σ H
noncomputable def gCons (t:TG) (u:HH):HH:=λvs σ H Q=>∃v r,vs=v::r/\t v σ H λσ' H'=>u r σ' H' Q
theorem dX:Lq X [] gNil:=by
 intro pins s σ H vs us Q I r h
 obtain⟨e,h⟩:=h
 subst e
 cases r
 exact assignInOrder_nil ⟨σ,H,I,h⟩
theorem bA {e:Expr} {es:List Expr} {t:TG} {u:HH} (h1:PG X e t) (h2:Lq X es u)
  (hs:(assignEach (e::es) X.env).map (·.2)=assign e X.env::(assignEach es X.env).map (·.2):=by rfl):Lq X (e::es) (gCons t u):=by
 intro pins s σ H vs us Q I r h
 obtain⟨v,vr,e1,h⟩:=h
 subst e1
 cases r with
 | cons r rr=>
  rw[hs]
  refine assignInOrder_cons (cD (h1 pins s σ H _ _ _ I r h) λ_ s1 ⟨σ1,H1,I1,q1⟩=>?_)
  exact h2 pins s1 σ1 H1 _ _ Q I1 rr q1
noncomputable def BK (K:PySem.W.Frag) (n:Nat) (t:HH):TG:=λv σ H Q=>∃a xs,v=.ref a/\jn K H a xs/\xs.length=n/\t xs σ H Q
theorem IT {es:List Expr} {k:Nat} {t:HH} {n:Nat} (hc:X.calm=true) (h:Lq X es t)
  (hn:(assignEach es X.env).length=n:=by rfl) (hst:(assignEach es X.env).findIdx? (·.1)=none:=by rfl):PG X (.Tuple es k pos) (BK X.K n t):=by
 intro pins s σ H v u Q I r hw
 obtain⟨a,xs,e1,hq,hl,hw⟩:=hw
 subst e1
 cases r
 obtain⟨a6,rv,ht,hz⟩:=I.tuple hq
 refine assign_Tuple_tuple (I.ok.hd hc) ht (by simp [hn,<-hl,rv.length]) hst λh' hx=>?_
 have I1:Inv X pins σ H {s with heap:=h'}:=I.kept (t':=s.toks) λb o e=>hx b o (YE (Heap.lt_size e)) e
 exact h pins _ σ H xs _ Q I1 (by simpa using rv) hw
noncomputable def gSub (to ti:TE) (t:IS):TG:=λv σ H Q=>to σ H λo H1=>ti σ H1 λi H2=>t o i v H2 λH3=>Q σ H3
theorem CW {o i:Expr} {to ti:TE} {t:IS} (ho:PE X o to) (hi:PE X i ti) (hs:L4 X t)
  (ha:∀v,assign (.Subscript o i pos) X.env v=(do
   let ov <-holding [v] (eval o X.env)
   let iv <-holding [v,ov] (eval i X.env)
   standAt pos
   holding [v,ov,iv] (setItem ov iv v)
   release [v,ov,iv] []):=by intro _;rfl):PG X (.Subscript o i pos) (gSub to ti t):=by
 intro pins s σ H v u Q I r h
 rw[ha]
 refine wpAny_bind (wpAny_holding (cD (ho pins s σ H _ I h) λov s1 dh=>?_))
 obtain⟨x,H1,I1,r1,q1⟩:=dh
 refine wpAny_bind (wpAny_holding (cD (hi pins s1 σ H1 _ I1 q1) λiv s2 dh=>?_))
 obtain⟨y,H2,I2,r2,q2⟩:=dh
 refine wpAny_bind (wpAny_standAt (wpAny_bind (wpAny_holding (cD (hs pins s2 σ H2 x y v ov iv u _ I2 r1 r2 r q2) λ_ s3 ⟨H3,I3,q3⟩=>?_))))
 exact wpAny_release ⟨σ,H3,I3,q3⟩
noncomputable def tAsg (te:TE) (g:TG):TS:=λD σ H=>te σ H λx H1=>g x σ H1 D.nx
theorem u5 {tg e:Expr} {te:TE} {g:TG} (he:PE X e te) (hg:PG X tg g) (hs:swapsWithSole [tg] e pos.line X.env=pure false:=by rfl) (hw:swappedStores [tg] e X.env=pure none:=by rfl)
  (h1:(assignEach [tg] X.env).map (·.2)=[assign tg X.env]:=by rfl):PS X (.Assign [tg] e pos) (tAsg te g):=by
 intro pins s σ H D I h
 refine wpAny_Assign_stores (cD (he pins s σ H _ I h) λv s1 dh=>?_) hs hw
 obtain⟨x,H1,I1,r1,q1⟩:=dh
 rw[h1]
 exact cD (hg pins s1 σ H1 x v _ I1 r1 q1) λ_ s2 q=>q
theorem aI {i:Nat} {x:Str} {e:Expr} {te:TE} {pos':Pos} (hN:X.N.Nodup) (hi:X.N[i]?=some x) (hx:Loc X.env.scope x) (he:PE X e te) (hs:swapsWith e (some (.Name x pos')) pos.line X.env=pure false:=by rfl) (hf:X.fn x=true\/X.env.scope.names.lookup x=some .local:=by first | exact .inl rfl | exact .inr rfl | assumption):
  PS X (.Assign [.Name x pos'] e pos) (tAsg te (gName i)):=by
 intro pins s σ H D I h
 refine wpAny_Assign_Name (cD (he pins s σ H _ I h) λv s1 dh=>?_) hs
 obtain⟨y,H1,I1,r1,q1⟩:=dh
 exact lG I1 hN hi hx r1 (λs2 I2=>⟨_,H1,I2,q1⟩) hf
noncomputable def tPar (i j:Nat) (ta:TA):TS:=λD σ H=>ta σ H λvs H1=>∃v w,vs=[v,w]/\D.nx ((σ.set i (some v)).set j (some w)) H1
theorem IU {i j:Nat} {x y:Str} {a b:Expr} {ta:TA} {px py pt:Pos} {kt k2 OP} (hc:X.calm=true) (hN:X.N.Nodup) (hi:X.N[i]?=some x) (hj:X.N[j]?=some y) (Tx:i≠j)
  (hx:X.env.scope.names.lookup x=some .local) (hy:X.env.scope.names.lookup y=some .local) (ha:PA X [a,b] ta)
  (hw:swappedStores [.Tuple [.Name x px,.Name y py] kt pt] (.Tuple [a,b] k2 OP) X.env=pure (some [x,y]))
  (hs:swapsWithSole [.Tuple [.Name x px,.Name y py] kt pt] (.Tuple [a,b] k2 OP) pos.line X.env=pure false:=by rfl):
  PS X (.Assign [.Tuple [.Name x px,.Name y py] kt pt] (.Tuple [a,b] k2 OP) pos) (tPar i j ta):=by
 intro pins s σ H D I h
 rw[exec_Assign_arm]
 refine wpAny_bind (wpAny_standAt ?_)
 rw[hs]
 refine wpAny_bind (wpAny_pure ?_)
 rw[if_neg (by decide)]
 refine wpAny_bind (Tuple_ (cD (ha _ pins s σ H _ I h) λus s1 dh=>?_))
 obtain⟨vs,H1,I1,r1,q1⟩:=dh
 obtain⟨v,w,e1,q1⟩:=q1
 subst e1
 obtain⟨u1,u2,rfl,rv,BL⟩:∃u1 u2,us=[u1,u2]/\RelV v u1/\RelV w u2:=by
  cases r1 with
  | cons p q=>
   cases q with
   | cons p' q'=>
    cases q'
    exact⟨_,_,rfl,p,p'⟩
 refine wpAny_newObj_type ?_ (by show 2<=sizeLine;decide)
 have I2:Inv X pins σ H1 {s1 with heap:=s1.heap.push {cls:=.type "tuple",data:=.seq [u1,u2].toArray}}:=I1.kept (t':=s1.toks) λb o e=>Heap.get?_push_of_some _ e
 rw[hw]
 refine wpAny_bind (wpAny_pure ?_)
 show wpAny (model X.prog X.w) X.A (do rule "assign.swapped-stores";let items <-unpackItems (.ref s1.heap.objs.size) 2 none;assignInOrder [λv=>bindName X.env y v,λv=>bindName X.env x v] items.reverse;pure Flow.next) _ _ _
 refine wpAny_bind (wpAny_rule (wpAny_bind (unpackItems_tuple (items:=#[u1,u2]) (I.ok.hd hc) (IsTup.new s1.heap _) λh' L5=>?_)))
 have I3:=I2.kept (h':=h') (t':=s1.toks) λb o e=>L5 b o (YE (Heap.lt_size e)) e
 show wpAny _ _ (assignInOrder [λv=>bindName X.env y v,λv=>bindName X.env x v] [u2,u1] >>=λ_=>pure Flow.next) _ _ _
 refine wpAny_bind (assignInOrder_cons (wpAny_bindName (lG I3 hN hj (.inl hy) BL (λs2 I4=>?_) (.inr hy))))
 refine assignInOrder_cons (wpAny_bindName (lG I4 hN hi (.inl hx) rv (λs3 I5=>assignInOrder_nil (wpAny_pure ?_)) (.inr hx)))
 rw[List.set_comm _ _ (Ne.symm Tx)] at I5
 exact⟨_,H1,I5,q1⟩
end
section
variable {X : Cx} {pos : Pos}
noncomputable def yW (c:TT) (tb:TS):TS:=λD σ H=>∃W:Nat->St->Hp->Prop,(∃m,W m σ H)/\∀m σ H,W m σ H->
 c σ H λb H1=>if b=true then ∃N:St->Hp->Prop,(∀σ' H',N σ' H'->∃m',m'<m/\W m' σ' H')/\tb {D with nx:=N,ct:=N,bk:=D.nx} σ H1 else D.nx σ H1
theorem iz {c:Expr} {body:List Stmt} {tc:TT} {tb:TS} (hp:PassesOwn (model X.prog X.w) X.A X.env X.xe) (hc:PT X c tc) (hb:yR X body tb):PS X (.While c body [] pos) (yW tc tb):=by
 intro pins s σ H D I h
 obtain⟨W,⟨m0,w0⟩,turn⟩:=h
 refine wpAny_While (codeAny_whileLoop (λn s'=>∃σ' H',Inv X pins σ' H' s'/\W n σ' H') ?_ m0 ⟨σ,H,I,w0⟩)
 rintro n s1 ⟨σ1,H1,I1,w1⟩
 refine wpAny_passesOwn hp (cD (hc pins s1 σ1 H1 _ I1 (turn n σ1 H1 w1)) λb s2 ⟨H2,I2,q2⟩=>?_)
 cases b with
 | true=>
  obtain⟨N,hN,q2⟩:=q2
  rw[if_pos rfl]
  refine wpAny_passesOwn hp (cD (hb pins s2 σ1 H2 _ I2 q2) λf s3 q3=>?_)
  cases f with
  | next=>
   obtain⟨σ3,H3,I3,n3⟩:=q3
   obtain⟨m',hm,w3⟩:=hN σ3 H3 n3
   exact⟨m',hm,σ3,H3,I3,w3⟩
  | cont=>
   obtain⟨σ3,H3,I3,n3⟩:=q3
   obtain⟨m',hm,w3⟩:=hN σ3 H3 n3
   exact⟨m',hm,σ3,H3,I3,w3⟩
  | brk=>exact q3
  | ret v=>exact q3
 | false=>
  rw[if_neg YF]
  exact wpAny_execs_nil ⟨σ1,H2,I2,q2⟩
end
structure It where
 go:Nat->Hp->Prop
 BM:Nat->Hp->V->Hp->Prop
 stop:Nat->Hp->Prop
noncomputable def ku (X:Cx) (pins:List (Addr×Obj)) (H:Hp) (b:Addr):Prop:=
 H b=none/\b≠X.env.locals/\b∉X.fs/\(b∈X.ex\/X.s₀.heap.objs.size<=b)/\(∀x c,X.env.cells.lookup x=some c->c≠b)/\∀p∈X.pn++pins,p.1≠b
theorem Inv.FV {X:Cx} {pins:List (Addr×Obj)} {σ:St} {H H':Hp} {s:Shared} {b:Addr} (I:Inv X pins σ H s) (hb:s.heap.objs.size<=b) (hn:H' b=none):ku X pins H' b:=by
 refine⟨hn,Nat.ne_of_gt (YJ I.lt hb),I.OI hb,.inr (YB I.sz hb),λx c e z=>?_,λp hp z=>?_⟩
 ·obtain⟨v,q⟩:=I.cell x c e
  exact absurd (YJ q.lt (by rw[z];exact hb)) (YW _)
 ·exact absurd (YJ (Heap.lt_size (I.pin p hp).1) (by rw[z];exact hb)) (YW _)
structure Turn (P:Program) (w:World) (K:PySem.W.Frag) (tg:Expr) (J:It) (fp:List Addr) (it:Addr) (tn:Nat->Heap->Prop):Prop where
 mem:it∈fp
 obj:∀i h,tn i h->∀b∈fp,∃o,h.get? b=some o/\∀v,o.data≠.cell v
 keep:∀i h h',tn i h->(∀b∈fp,∀o,h.get? b=some o->h'.get? b=some o)->tn i h'
 item:∀(X:Cx),X.prog=P->X.w=w->X.K=K->X.calm=true->∀(i:Nat) (pins:List (Addr×Obj)) (s:Shared) (σ:St) (H:Hp) (E:Value->Shared->Prop),Inv X pins σ H s->(∀b∈fp,ku X pins H b)->tn i s.heap->J.go i H->
  wpAny (model P w) X.A (pyNext (.ref it)) (λr s1=>∃u,r=some u/\
   wpAny (model P w) X.A (letOwnedTupleGo tg (.ref it) u) (λ_ s2=>∃x H',Inv X pins σ H' s2/\RelV x u/\J.BM i H x H'/\tn (i+1) s2.heap/\∀b∈fp,H' b=none) E s1) E s
 done:∀(X:Cx),X.prog=P->X.w=w->X.K=K->X.calm=true->∀(i:Nat) (pins:List (Addr×Obj)) (s:Shared) (σ:St) (H:Hp) (E:Value->Shared->Prop),Inv X pins σ H s->(∀b∈fp,ku X pins H b)->tn i s.heap->J.stop i H->
  wpAny (model P w) X.A (pyNext (.ref it)) (λr s1=>r=none/\Inv X pins σ H s1) E s
 self:∀(A:Around) (i:Nat) (s:Shared) (Q:Value->Shared->Prop) (E:Value->Shared->Prop),tn i s.heap->Q (.ref it) s->wpAny (model P w) A (pyIter (.ref it)) Q E s
abbrev TI:=St->Hp->(It->Hp->Prop)->Prop
noncomputable def Rr (X:Cx) (pins:List (Addr×Obj)) (σ:St) (tg:Expr) (R:It->Hp->Prop) (HI:Value) (s2:Shared):Prop:=
 ∃(it:Addr) (fp:List Addr) (tn:Nat->Heap->Prop) (J:It) (H':Hp),HI=.ref it/\Inv X pins σ H' s2/\Turn X.prog X.w X.K tg J fp it tn/\tn 0 s2.heap/\(∀b∈fp,ku X pins H' b)/\R J H'
noncomputable def PI (X:Cx) (tg iter:Expr) (wi:TI):Prop:=
 ∀(pins:List (Addr×Obj)) (s:Shared) (σ:St) (H:Hp) (R:It->Hp->Prop),Inv X pins σ H s->wi σ H R->
  wpAny (model X.prog X.w) X.A (eval iter X.env) (λv s1=>wpAny (model X.prog X.w) X.A (pyIter v) (Rr X pins σ tg R) X.xe s1) X.xe s
theorem HJ {M:Model} {A:Around} {E:Value->Shared->Prop} {s:Shared} {tg:Expr} {it:Addr} {u:Value} {o:Obj} {n:String} {vs:Array Value} {Q:Unit->Shared->Prop} (ho:s.heap.get? it=some o) (hc:o.cls=.type n) (hd:o.data=.fields vs)
  (hn:["enumerate","zip","dict_itemiterator","dict_reverseitemiterator","odict_iterator","itertools.zip_longest","itertools.pairwise"].contains n=false) (hQ:Q () s):wpAny M A (letOwnedTupleGo tg (.ref it) u) Q E s:=by
 unfold letOwnedTupleGo
 cases tg <;>first
  | exact wpAny_pure hQ
  | (cases u <;>first
    | exact wpAny_pure hQ
    | (refine wpAny_bind (wpAny_load ho ?_)
       rw[hc,hd]
       show wpAny M A (if (["enumerate","zip","dict_itemiterator","dict_reverseitemiterator","odict_iterator","itertools.zip_longest","itertools.pairwise"].contains n && vs[0]?==some (rawInt _))=true then _ else _) Q E s
       rw[if_neg (by intro h;rw[hn,Bool.false_and] at h;cases h)]
       exact wpAny_pure hQ))
noncomputable def yJ (K:PySem.W.Frag) (a:Addr):It:=
 ⟨λi H=>∃xs x,bI K H a xs/\xs[i]?=some x,λi H x H'=>H'=H/\∀xs,bI K H a xs->xs[i]?=some x,λi H=>∃xs,bI K H a xs/\xs.length<=i⟩
noncomputable def Tz (K:PySem.W.Frag) (a:Addr):It:=
 ⟨λi H=>∃xs x,jn K H a xs/\xs[i]?=some x,λi H x H'=>H'=H/\∀xs,jn K H a xs->xs[i]?=some x,λi H=>∃xs,jn K H a xs/\xs.length<=i⟩
noncomputable def L6 (lo:Int) (n:Nat):It:=⟨λi _=>i<n,λi H x H'=>H'=H/\x=.int (lo+i),λi _=>n<=i⟩
theorem BN {P:Program} {w:World} {K:PySem.W.Frag} {tg:Expr} (a it:Addr):Turn P w K tg (yJ K a) [it] it (λi h=>h.IsListIter it a i) where
 mem:=by simp
 obj:=λi h st b hb=>by
  have e:b=it:=by simpa using hb
  subst e
  obtain⟨o,e,c,d⟩:=st
  exact⟨o,e,λv z=>by rw[d] at z;cases z⟩
 keep:=λi h h' st k=>st.at λo e=>k it (by simp) o e
 item:=by
  intro X hP hw hK hc i pins s σ H E I hf st hg
  subst hP hw hK
  obtain⟨xs,x,hq,hx⟩:=hg
  obtain⟨a6,rv,p,hz⟩:=I.list hq
  obtain⟨u,hu,ru⟩:=rv.get hx
  obtain⟨f0,f1,f2,f3,f4,f5⟩:=hf it (by simp)
  refine wpAny_pyNext_list_item st p.isList (x:=u) (by simpa using hu) λh' eK sb=>?_
  have I1:Inv X pins σ H {s with heap:=h'}:=I.turned (t':=s.toks) (λb o hb e=>(sb.2 b hb).trans e) f0 f1 f3 f4 f5
  obtain⟨o,e,c,d⟩:=id eK
  exact⟨u,rfl,HJ (s:={s with heap:=h'}) e c d (by decide) ⟨x,H,I1,ru,⟨rfl,λys hy=>by rw[I.wU hy hq];exact hx⟩,eK,λb hb=>(hf b hb).1⟩⟩
 done:=by
  intro X hP hw hK hc i pins s σ H E I hf st hg
  subst hP hw hK
  obtain⟨xs,hq,hx⟩:=hg
  obtain⟨a6,rv,p,hz⟩:=I.list hq
  obtain⟨f0,f1,f2,f3,f4,f5⟩:=hf it (by simp)
  have hl:=rv.length
  exact wpAny_pyNext_list_end (I.ok.hd hc) st p.isList (by simp;omega) λh' eb=>⟨rfl,I.turned (t':=s.toks) (λb o hb e=>eb b o hb e) f0 f1 f3 f4 f5⟩
 self:=λ_ _ _ _ _ st h=>wpAny_pyIter_listiter st h
theorem yX {P:Program} {w:World} {K:PySem.W.Frag} {tg:Expr} (it:Addr) (lo:Int) (n:Nat):Turn P w K tg (L6 lo n) [it] it (λi h=>IsRangeIter h it (lo+ (i:Nat)*1) ((n:Int) - (i:Nat)) 1) where
 mem:=by simp
 obj:=λi h st b hb=>by
  have e:b=it:=by simpa using hb
  subst e
  exact⟨_,st,λv z=>by
   have z':Data.fields _=Data.cell v:=z
   cases z'⟩
 keep:=λi h h' st k=>k it (by simp) _ st
 item:=by
  intro X hP hw hK hc i pins s σ H E I hf st hg
  subst hP hw hK
  obtain⟨f0,f1,f2,f3,f4,f5⟩:=hf it (by simp)
  have W:=Walks.range (prog:=X.prog) (w:=X.w) (I.ok.hd hc) it lo 1 n
  refine W.item i s _ _ hg st λv h' tk hv eK kk=>?_
  obtain⟨t,rfl⟩:=hv
  have I1:Inv X pins σ H {s with heap:=h',toks:=tk}:=I.turned (λb o hb e=>kk b o (by simpa using hb) e) f0 f1 f3 f4 f5
  refine⟨_,rfl,HJ (s:={s with heap:=h',toks:=tk}) (n:="range_iterator") eK rfl rfl (by decide) ⟨.int (lo+i),H,I1,⟨t,?_⟩,⟨rfl,rfl⟩,eK,λb hb=>(hf b hb).1⟩⟩
  rw[Int.mul_one]
 done:=by
  intro X hP hw hK hc i pins s σ H E I hf st hg
  subst hP hw hK
  obtain⟨f0,f1,f2,f3,f4,f5⟩:=hf it (by simp)
  exact wpAny_pyNext_range_end (I.ok.hd hc) st (by have:n<=i:=hg;omega) λh' eb=>⟨rfl,I.turned (t':=s.toks) (λb o hb e=>eb b o hb e) f0 f1 f3 f4 f5⟩
 self:=λ_ _ _ _ _ st h=>wpAny_pyIter_rangeiter st h
end L2
namespace L2
open PySem PySem.Spec PyProof.Rows
section
variable {X : Cx} {tg : Expr}
noncomputable def iList (K:PySem.W.Frag) (tl:TE):TI:=λσ H R=>tl σ H λx H1=>∃a,x=.ref a/\(∃xs,bI K H1 a xs)/\R (yJ K a) H1
noncomputable def iTup (K:PySem.W.Frag) (tl:TE):TI:=λσ H R=>tl σ H λx H1=>∃a,x=.ref a/\(∃xs,jn K H1 a xs)/\R (Tz K a) H1
theorem FW {l:Expr} {tl:TE} (hl:PE X l tl):PI X tg l (iList X.K tl):=by
 intro pins s σ H R I h
 refine cD (hl pins s σ H _ I h) λv s1 dh=>?_
 obtain⟨x,H1,I1,r1,q1⟩:=dh
 obtain⟨a,e,⟨xs,hq⟩,q⟩:=q1
 subst e
 cases r1
 obtain⟨a6,rv,p,hz⟩:=I1.list hq
 refine wpAny_pyIter_list p.isList ?_
 refine⟨s1.heap.objs.size,[s1.heap.objs.size],_,_,H1,rfl,I1.kept (t':=s1.toks) λb o e=>Heap.get?_push_of_some _ e,BN a _,⟨_,Heap.get?_push_size _ rfl,rfl,rfl⟩,λb hb=>?_,q⟩
 have e:b=s1.heap.objs.size:=by simpa using hb
 subst e
 exact I1.FV (Yt _) (I1.bR.fresh (Yt _))
theorem wV {pins:List (Addr×Obj)} {σ:St} {H:Hp} {s:Shared} {R:It->Hp->Prop} {E:Value->Shared->Prop} {lo hi:Int} {t u v:Tok} {tk:Nat} (I:Inv X pins σ H s) (h1:-(2^62)<=lo) (h2:lo<2^62) (h3:-(2^62)<=hi) (h4:hi<2^62)
  (q:R (L6 lo (hi - lo).toNat) H):wpAny (model X.prog X.w) X.A (pyIter (.ref s.heap.objs.size)) (Rr X pins σ tg R) E {s with heap:=s.heap.push {cls:=.type "range",data:=.fields #[.int lo t,.int hi u,.int 1 v]},toks:=tk}:=by
 refine wpAny_pyIter_range (IsRange.new ..) (small_one h1 h2 h3 h4) ?_
 have I1:Inv X pins σ H {s with heap:=s.heap.push {cls:=.type "range",data:=.fields #[.int lo t,.int hi u,.int 1 v]},toks:=tk}:=I.kept λb o e=>Heap.get?_push_of_some _ e
 refine⟨(s.heap.push {cls:=.type "range",data:=.fields #[.int lo t,.int hi u,.int 1 v]}).objs.size,[(s.heap.push {cls:=.type "range",data:=.fields #[.int lo t,.int hi u,.int 1 v]}).objs.size],_,_,H,rfl,
  I1.kept (t':=tk) λb o e=>Heap.get?_push_of_some _ e,yX _ lo (hi - lo).toNat,?_,λb hb=>?_,q⟩
 ·have e1:lo+ ((0:Nat):Int)*1=lo:=by simp
  have e2:(((hi - lo).toNat:Nat):Int) - ((0:Nat):Int)=Builtin.Range.rangeSize lo hi 1:=by rw[rangeSize_one];split <;>omega
  show IsRangeIter _ _ (lo+ ((0:Nat):Int)*1) ((((hi - lo).toNat:Nat):Int) - ((0:Nat):Int)) 1
  rw[e1,e2]
  exact Heap.get?_push_size _ rfl
 ·have e:b=(s.heap.push {cls:=.type "range",data:=.fields #[.int lo t,.int hi u,.int 1 v]}).objs.size:=by simpa using hb
  subst e
  exact I1.FV (Yt _) (I1.bR.fresh (Yt _))
noncomputable def iRng1 (ta:TA):TI:=λσ H R=>ta σ H λvs H1=>∃j:Int,vs=[.int j]/\-(2^62)<=j/\j<2^62/\R (L6 0 j.toNat) H1
noncomputable def iRng2 (ta:TA):TI:=λσ H R=>ta σ H λvs H1=>∃i j:Int,vs=[.int i,.int j]/\(-(2^62)<=i/\i<2^62/\-(2^62)<=j/\j<2^62)/\R (L6 i (j - i).toNat) H1
theorem cC {a:Expr} {ta:TA} {p pos:Pos} (hg:Gl X "range") (hm:X.mg "range"=none) (ha:PA X [a] ta) (hs:starEach [a] X.env=[(false,eval a X.env)]:=by rfl):PI X tg (.Call (.Name "range" p) [a] [] pos) (iRng1 ta):=by
 intro pins s σ H R I h
 refine Call_ (gu I hg hm boot_range (Zm (cD (ha pos pins s σ H _ I h) λus s1 dh=>?_) hs rfl))
 obtain⟨vs,H1,I1,r1,q1⟩:=dh
 obtain⟨j,e,q1,q2,q⟩:=q1
 subst e
 cases r1 with
 | cons r rr=>
  cases rr
  obtain⟨t,rfl⟩:=r
  exact call_range_1 (wV I1 (by omega) (by omega) q1 q2 (by simpa using q))
theorem BO {a b:Expr} {ta:TA} {p pos:Pos} (hg:Gl X "range") (hm:X.mg "range"=none) (ha:PA X [a,b] ta) (hs:starEach [a,b] X.env=[(false,eval a X.env),(false,eval b X.env)]:=by rfl) (Fw:starEach [b] X.env=[(false,eval b X.env)]:=by rfl):
  PI X tg (.Call (.Name "range" p) [a,b] [] pos) (iRng2 ta):=by
 intro pins s σ H R I h
 refine Call_ (gu I hg hm boot_range (Zm (cD (ha pos pins s σ H _ I h) λus s1 dh=>?_) (by rw[hs,Fw]) (by rw[Fw];rfl)))
 obtain⟨vs,H1,I1,r1,q1⟩:=dh
 obtain⟨i,j,e,⟨q1,q2,q3,q4⟩,q⟩:=q1
 subst e
 cases r1 with
 | cons r rr=>
  cases rr with
  | cons r' rr=>
   cases rr
   obtain⟨t,rfl⟩:=r
   obtain⟨t',rfl⟩:=r'
   exact call_range_2 (wV I1 q1 q2 q3 q4 q)
noncomputable def L7 (wi:TI) (g:TG) (tb:TS):TS:=λD σ H=>wi σ H λJ H1=>∃W:Nat->Nat->St->Hp->Prop,(∃m,W 0 m σ H1)/\∀i m σ H,W i m σ H->
 (J.stop i H/\D.nx σ H)\/(J.go i H/\∃N:St->Hp->Prop,(∀σ' H',N σ' H'->∃m',m'<m/\W (i+1) m' σ' H')/\∀x H',J.BM i H x H'->g x σ H' λσ2 H2=>tb {D with nx:=N,ct:=N,bk:=D.nx} σ2 H2)
noncomputable def qh (fp:List Addr) (h:Heap):List (Addr×Obj):=fp.filterMap λb=>(h.get? b).map λo=>(b,o)
theorem gW {fp:List Addr} {h:Heap} {b:Addr} {o:Obj} (hb:b∈fp) (e:h.get? b=some o):(b,o)∈qh fp h:=List.mem_filterMap.mpr ⟨b,hb,by rw[e];rfl⟩
theorem BP {fp:List Addr} {h:Heap} {p:Addr×Obj} (hp:p∈qh fp h):p.1∈fp/\h.get? p.1=some p.2:=by
 obtain⟨b,hb,e⟩:=List.mem_filterMap.mp hp
 cases q:h.get? b with
 | none=>rw[q] at e;cases e
 | some o=>
  rw[q] at e
  have e':(b,o)=p:=YM e
  subst e'
  exact⟨hb,q⟩
theorem Inv.pinned {pins:List (Addr×Obj)} {σ:St} {H:Hp} {s:Shared} {fp:List Addr} (I:Inv X pins σ H s) (hf:∀b∈fp,ku X pins H b) (ho:∀b∈fp,∃o,s.heap.get? b=some o/\∀v,o.data≠.cell v):Inv X (pins++qh fp s.heap) σ H s:=
 I.lF λp hp=>(List.mem_append.mp hp).elim (λz=>I.pin p (YO _ z)) λz=>by
  obtain⟨hb,e⟩:=BP z
  obtain⟨f0,f1,f2,_⟩:=hf p.1 hb
  obtain⟨o,e',d⟩:=ho p.1 hb
  rw[e] at e';cases e'
  exact⟨e,f0,f1,f2,d⟩
theorem Inv.qi {pins pl:List (Addr×Obj)} {σ:St} {H:Hp} {s:Shared} (I:Inv X (pins++pl) σ H s):Inv X pins σ H s:=I.lF λp hp=>I.pin p (YO _ (Zg _ hp))
theorem cI {iter:Expr} {body:List Stmt} {wi:TI} {g:TG} {tb:TS} {pos:Pos} (hp:PassesOwn (model X.prog X.w) X.A X.env X.xe) (hc:X.calm=true) (hi:PI X tg iter wi) (hg:PG X tg g) (hb:yR X body tb)
  (hs:∀x,foldedSetIterable iter X.env x=pure x:=by intro _;rfl):PS X (.For tg iter body [] pos) (L7 wi g tb):=by
 intro pins s σ H D I h
 refine wpAny_For (cD (hi pins s σ H _ I h) λv s1 h1=>cD h1 λHI s2 h2=>?_) hs
 obtain⟨it,fp,tn,J,H2,e,I2,T,kx,f2,W,⟨m0,w0⟩,turn⟩:=h2
 subst e
 have yY:∀{H':Hp},(∀b∈fp,H' b=none)->∀b∈fp,ku X pins H' b:=λhn b hb=>⟨hn b hb,(f2 b hb).2⟩
 refine codeAny_forLoop_any (λn s'=>∃i σ' H',Inv X pins σ' H' s'/\tn i s'.heap/\(∀b∈fp,H' b=none)/\W i n σ' H') ?_ m0 ⟨0,σ,H2,I2,kx,λb hb=>(f2 b hb).1,w0⟩
 rintro n s3 ⟨i,σ3,H3,I3,Rt,Ru,w3⟩
 rcases turn i n σ3 H3 w3 with ⟨stop,qn⟩ | ⟨go,N,hN,step⟩
 ·refine wpAny_passesOwn hp (cD (T.done X rfl rfl rfl hc i pins s3 σ3 H3 X.xe I3 (yY Ru) Rt stop) λr s4 ⟨hr,I4⟩=>?_)
  subst hr
  exact wpAny_execs_nil ⟨σ3,H3,I4,qn⟩
 ·refine wpAny_passesOwn hp (cD (T.item X rfl rfl rfl hc i pins s3 σ3 H3 X.xe I3 (yY Ru) Rt go) λr s4 ⟨u,hr,h4⟩=>?_)
  subst hr
  refine wpAny_passesOwn hp (cD h4 λ_ s5 dh=>?_)
  obtain⟨x,H5,I5,r5,y5,OQ,TB⟩:=dh
  have TC:=I5.pinned (yY TB) (T.obj _ _ OQ)
  refine wpAny_passesOwn hp (cD (hg _ s5 σ3 H5 x u _ TC r5 (step x H5 y5)) λ_ s6 ⟨σ6,H6,I6,q6⟩=>?_)
  refine wpAny_passesOwn hp (cD (hb _ s6 σ6 H6 _ I6 q6) λf s7 q7=>?_)
  have again:∀{σ7:St} {H7:Hp},Inv X (pins++qh fp s5.heap) σ7 H7 s7->N σ7 H7->∃m,m<n/\∃i σ' H',Inv X pins σ' H' s7/\tn i s7.heap/\(∀b∈fp,H' b=none)/\W i m σ' H':=λ{σ7 H7} I7 n7=>by
   obtain⟨m',hm,w7⟩:=hN σ7 H7 n7
   refine⟨m',hm,i+1,σ7,H7,I7.qi,T.keep _ _ _ OQ λb hb o e=>(I7.pin (b,o) (YO _ (YO _ (gW hb e)))).1,λb hb=>?_,w7⟩
   obtain⟨o,e,d⟩:=T.obj _ _ OQ b hb
   exact(I7.pin (b,o) (YO _ (YO _ (gW hb e)))).2.1
  cases f with
  | next=>obtain⟨σ7,H7,I7,n7⟩:=q7;exact again I7 n7
  | cont=>obtain⟨σ7,H7,I7,n7⟩:=q7;exact again I7 n7
  | brk=>obtain⟨σ7,H7,I7,q7⟩:=q7;exact⟨σ7,H7,I7.qi,q7⟩
  | ret v=>obtain⟨x7,σ7,H7,I7,r7,q7⟩:=q7;exact⟨x7,σ7,H7,I7.qi,r7,q7⟩
end
theorem wW {c:TT} {tb:TS} {D:Ends} {σ:St} {H:Hp} (Pv:St->Hp->Prop) (μ:St->Hp->Nat) (h0:Pv σ H)
  (hs:∀σ H,Pv σ H->c σ H λb H1=>if b=true then tb {D with nx:=λσ' H'=>Pv σ' H'/\μ σ' H'<μ σ H,ct:=λσ' H'=>Pv σ' H'/\μ σ' H'<μ σ H,bk:=D.nx} σ H1 else D.nx σ H1)
  (mono:∀σ H Q Q',(∀b H1,Q b H1->Q' b H1)->c σ H Q->c σ H Q'):yW c tb D σ H:=by
 refine⟨λm σ H=>m=μ σ H/\Pv σ H,⟨_,rfl,h0⟩,?_⟩
 rintro m σ H ⟨rfl,p⟩
 refine mono σ H _ _ (λb H1 q=>?_) (hs σ H p)
 cases b with
 | true=>exact⟨_,λσ' H' ⟨p',l⟩=>⟨_,l,rfl,p'⟩,q⟩
 | false=>exact q
end L2
namespace L2
open PySem PySem.Spec PyProof.Rows
abbrev R2:=V->V->Hp->VK->Prop
noncomputable def jo (X:Cx) (f:Value->Value->Sem Value) (r:R2):Prop:=
 ∀(pins:List (Addr×Obj)) (s:Shared) (σ:St) (H:Hp) (x y:V) (v u:Value) (Q:VK),Inv X pins σ H s->RelV x v->RelV y u->r x y H Q->
  wpAny (model X.prog X.w) X.A (f v u) (EP X pins σ Q) X.xe s
noncomputable def NV (X:Cx) (f:Value->Sem Value) (r:V->Hp->VK->Prop):Prop:=
 ∀(pins:List (Addr×Obj)) (s:Shared) (σ:St) (H:Hp) (x:V) (v:Value) (Q:VK),Inv X pins σ H s->RelV x v->r x H Q->
  wpAny (model X.prog X.w) X.A (f v) (EP X pins σ Q) X.xe s
noncomputable def cX (X:Cx) (f:Value) (r:List V->Hp->VK->Prop):Prop:=
 ∀(pins:List (Addr×Obj)) (s:Shared) (σ:St) (H:Hp) (xs:List V) (us:List Value) (Q:VK),Inv X pins σ H s->bj xs us->r xs H Q->
  wpAny (model X.prog X.w) X.A (call f us) (EP X pins σ Q) X.xe s
noncomputable def tOp (r:R2) (ta tb:TE):TE:=λσ H Q=>ta σ H λx H1=>tb σ H1 λy H2=>r x y H2 Q
noncomputable def tUn (r:V->Hp->VK->Prop) (ta:TE):TE:=λσ H Q=>ta σ H λx H1=>r x H1 Q
noncomputable def rI (C:Int->Int->Prop) (g:Int->Int->V):R2:=λx y H Q=>∃i j,x=.int i/\y=.int j/\C i j/\Q (g i j) H
noncomputable def rI0 (g:Int->Int->V):R2:=λx y H Q=>∃i j,x=.int i/\y=.int j/\Q (g i j) H
noncomputable def rU (g:Int->V):V->Hp->VK->Prop:=λx H Q=>∃i,x=.int i/\Q (g i) H
section
variable {X : Cx} {a b c : Expr} {ta tb tc : TE} {pos : Pos}
theorem IV (ha:PE X a ta) (hb:PE X b tb) {pins:List (Addr×Obj)} {s:Shared} {σ:St} {H:Hp} {R:V->V->Hp->Prop} (I:Inv X pins σ H s)
  (h:ta σ H λx H1=>tb σ H1 λy H2=>R x y H2) {Q:Value->Shared->Prop} {f:Value->Value->Sem Value}
  (hf:∀v u s2 x y H2,Inv X pins σ H2 s2->RelV x v->RelV y u->R x y H2->wpAny (model X.prog X.w) X.A (f v u) Q X.xe s2):
  wpAny (model X.prog X.w) X.A (eval a X.env) (λv s₁=>wpAny (model X.prog X.w) X.A (eval b X.env) (λu s₂=>wpAny (model X.prog X.w) X.A (f v u) Q X.xe s₂) X.xe s₁) X.xe s:=by
 refine cD (ha pins s σ H _ I h) λv s1 dh=>?_
 obtain⟨x,H1,I1,r1,q1⟩:=dh
 refine cD (hb pins s1 σ H1 _ I1 q1) λu s2 dh=>?_
 obtain⟨y,H2,I2,r2,q2⟩:=dh
 exact hf v u s2 x y H2 I2 r1 r2 q2
theorem aG {op:Operator} {r:R2} (ho:jo X (binaryOp op) r) (ha:PE X a ta) (hb:PE X b tb):PE X (.BinOp a op b pos) (tOp r ta tb):=by
 intro pins s σ H Q I h
 exact wpAny_BinOp (IV ha hb I h λv u s2 x y H2 I2 rx ry q=>ho pins s2 σ H2 x y v u Q I2 rx ry q)
theorem gC {op:UnaryOp} {r:V->Hp->VK->Prop} (ho:NV X (unaryOp op) r) (ha:PE X a ta):PE X (.UnaryOp op a pos) (tUn r ta):=by
 intro pins s σ H Q I h
 exact UnaryOp_ (cD (ha pins s σ H _ I h) λv s1 ⟨x,H1,I1,r1,q1⟩=>ho pins s1 σ H1 x v Q I1 r1 q1)
theorem L8 {f:Value->Value->Sem Value} {C:Int->Int->Prop} {g:Int->Int->Int}
  (rule:∀(i j:Int) (t u:Tok) (s:Shared) (Q:Value->Shared->Prop) (E:Value->Shared->Prop),C i j->Q (.int (g i j) s.toks) {s with toks:=s.toks+1}->wpAny (model X.prog X.w) X.A (f (.int i t) (.int j u)) Q E s):
  jo X f (rI C λi j=>.int (g i j)):=by
 intro pins s σ H x y v u Q I rx ry h
 obtain⟨i,j,rfl,rfl,hc,q⟩:=h
 obtain⟨t,rfl⟩:=rx
 obtain⟨t',rfl⟩:=ry
 exact rule i j t t' s _ _ hc ⟨.int (g i j),H,I.tok _,⟨_,rfl⟩,q⟩
theorem L9 {f:Value->Value->Sem Value} {g:Int->Int->Int}
  (rule:∀(i j:Int) (t u:Tok) (s:Shared) (Q:Value->Shared->Prop) (E:Value->Shared->Prop),Q (.int (g i j) s.toks) {s with toks:=s.toks+1}->wpAny (model X.prog X.w) X.A (f (.int i t) (.int j u)) Q E s):
  jo X f (rI0 λi j=>.int (g i j)):=by
 intro pins s σ H x y v u Q I rx ry h
 obtain⟨i,j,rfl,rfl,q⟩:=h
 obtain⟨t,rfl⟩:=rx
 obtain⟨t',rfl⟩:=ry
 exact rule i j t t' s _ _ ⟨.int (g i j),H,I.tok _,⟨_,rfl⟩,q⟩
theorem FX {f:Value->Value->Sem Value} {g:Int->Int->Bool}
  (rule:∀(i j:Int) (t u:Tok) (s:Shared) (Q:Value->Shared->Prop) (E:Value->Shared->Prop),Q (.bool (g i j)) s->wpAny (model X.prog X.w) X.A (f (.int i t) (.int j u)) Q E s):
  jo X f (rI0 λi j=>.bl (g i j)):=by
 intro pins s σ H x y v u Q I rx ry h
 obtain⟨i,j,rfl,rfl,q⟩:=h
 obtain⟨t,rfl⟩:=rx
 obtain⟨t',rfl⟩:=ry
 exact rule i j t t' s _ _ ⟨.bl (g i j),H,I,rfl,q⟩
noncomputable def CPow (i j:Int):Prop:=0<=j/\j<=1000000/\i.natAbs<2^64
theorem aO:jo X (binaryOp .Add) (rI0 λi j=>.int (i+j)):=L9 λ_ _ _ _ _ _ _ q=>add_int q
theorem gX:jo X (binaryOp .Sub) (rI0 λi j=>.int (i - j)):=L9 λ_ _ _ _ _ _ _ q=>sub_int q
theorem IW:jo X (binaryOp .Mod) (rI (λ_ j=>0<j) λi j=>.int (i % j)):=L8 λi j _ _ _ _ _ hc q=>by
 have h1:(0:Int)<j:=hc
 exact mod_int' (by omega) (by rw[Int.fmod_eq_emod_of_nonneg i (by omega)];exact q)
theorem yZ:jo X (binaryOp .Pow) (rI CPow λi j=>.int (i^j.toNat)):=L8 λ_ _ _ _ _ _ _ hc q=>pow_int_small hc.1 hc.2.1 hc.2.2 q
theorem TF {f:Value->Sem Value} {g:Int->Int}
  (rule:∀(i:Int) (t:Tok) (s:Shared) (Q:Value->Shared->Prop) (E:Value->Shared->Prop),Q (.int (g i) s.toks) {s with toks:=s.toks+1}->wpAny (model X.prog X.w) X.A (f (.int i t)) Q E s):
  NV X f (rU λi=>.int (g i)):=by
 intro pins s σ H x v Q I rx h
 obtain⟨i,rfl,q⟩:=h
 obtain⟨t,rfl⟩:=rx
 exact rule i t s _ _ ⟨.int (g i),H,I.tok _,⟨_,rfl⟩,q⟩
theorem eF:NV X (unaryOp .USub) (rU λi=>.int (-i)):=TF λ_ _ _ _ _ q=>neg_int q
end
noncomputable def y4:V->V->Bool
 | .cP,.cP=>true | .cP,.int _=>true | .int _,.cP=>true | .cP,.bl _=>true | .bl _,.cP=>true | .cP,.str _=>true | .str _,.cP=>true
 | .int _,.int _=>true | .bl _,.bl _=>true | .str _,.str _=>true | .CC _,.CC _=>true
 | .int _,.str _=>true | .str _,.int _=>true | .bl _,.str _=>true | .str _,.bl _=>true
 | _,_=>false
noncomputable def rEq:R2:=λx y H Q=>y4 x y=true/\Q (.bl (decide (x=y))) H
noncomputable def rNe:R2:=λx y H Q=>y4 x y=true/\Q (.bl (!decide (x=y))) H
theorem Ay {i j:Int}:decide (V.int i=V.int j)=(i==j):=by
 rw[Bool.eq_iff_iff]
 simp
theorem CY {i j:Bool}:decide (V.bl i=V.bl j)=(i==j):=by
 rw[Bool.eq_iff_iff]
 simp
theorem Az {i j:Str}:decide (V.str i=V.str j)=(i==j):=by
 rw[Bool.eq_iff_iff]
 simp
theorem AA {i j:Array UInt8}:decide (V.CC i=V.CC j)=(i.toList==j.toList):=by
 rw[Bool.eq_iff_iff]
 cases i
 cases j
 simp
section
variable {X : Cx} {a b c : Expr} {ta tb tc : TE} {pos : Pos}
theorem bL {pins:List (Addr×Obj)} {σ:St} {H:Hp} {s:Shared} {Q:VK} {k k':Bool} (I:Inv X pins σ H s) (q:Q (.bl k) H) (e:k=k'):EP X pins σ Q (.bool k') s:=by
 subst e
 exact⟨.bl k,H,I,rfl,q⟩
theorem bp:jo X (compareOp .Eq) rEq:=by
 intro pins s σ H x y v u Q I rx ry h
 obtain⟨hs,q⟩:=h
 cases x with
 | cP=>
  cases rx
  cases y with
  | cP=>cases ry;exact PySem.EqNone.eq_none_none (bL I q (by simp))
  | bl j=>cases ry;exact PySem.EqNone.eq_none_bool (bL I q (by simp))
  | int j=>obtain⟨t',rfl⟩:=ry;exact PySem.EqNone.eq_none_int (bL I q (by simp))
  | str j=>obtain⟨t',rfl⟩:=ry;exact PySem.EqNone.eq_none_str (bL I q (by simp))
  | _=>exact absurd (show false=true from hs) YF
 | bl i=>
  cases rx
  cases y with
  | cP=>cases ry;exact PySem.EqNone.eq_bool_none (bL I q (by simp))
  | bl j=>cases ry;exact eq_bool (bL I q CY)
  | str j=>obtain⟨t',rfl⟩:=ry;exact PySem.EqMixed.eq_bool_str (bL I q (by simp))
  | _=>exact absurd (show false=true from hs) YF
 | int i=>
  obtain⟨t,rfl⟩:=rx
  cases y with
  | cP=>cases ry;exact PySem.EqNone.eq_int_none (bL I q (by simp))
  | int j=>obtain⟨t',rfl⟩:=ry;exact eq_int (bL I q Ay)
  | str j=>obtain⟨t',rfl⟩:=ry;exact PySem.EqMixed.eq_int_str (bL I q (by simp))
  | _=>exact absurd (show false=true from hs) YF
 | str i=>
  obtain⟨t,rfl⟩:=rx
  cases y with
  | cP=>cases ry;exact PySem.EqNone.eq_str_none (bL I q (by simp))
  | bl j=>cases ry;exact PySem.EqMixed.eq_str_bool (bL I q (by simp))
  | int j=>obtain⟨t',rfl⟩:=ry;exact PySem.EqMixed.eq_str_int (bL I q (by simp))
  | str j=>obtain⟨t',rfl⟩:=ry;exact eq_str (bL I q Az)
  | _=>exact absurd (show false=true from hs) YF
 | CC i=>
  obtain⟨t,rfl⟩:=rx
  cases y with
  | CC j=>obtain⟨t',rfl⟩:=ry;exact PySem.W.eq_bytes (bL I q AA)
  | _=>exact absurd (show false=true from hs) YF
 | _=>cases y <;>exact absurd (show false=true from hs) YF
theorem uo:jo X (compareOp .NotEq) rNe:=by
 intro pins s σ H x y v u Q I rx ry h
 obtain⟨hs,q⟩:=h
 cases x with
 | cP=>
  cases rx
  cases y with
  | cP=>cases ry;exact PySem.EqNone.ne_none_none (bL I q (by simp))
  | bl j=>cases ry;exact PySem.EqNone.ne_none_bool (bL I q (by simp))
  | int j=>obtain⟨t',rfl⟩:=ry;exact PySem.EqNone.ne_none_int (bL I q (by simp))
  | str j=>obtain⟨t',rfl⟩:=ry;exact PySem.EqNone.ne_none_str (bL I q (by simp))
  | _=>exact absurd (show false=true from hs) YF
 | bl i=>
  cases rx
  cases y with
  | cP=>cases ry;exact PySem.EqNone.ne_bool_none (bL I q (by simp))
  | bl j=>cases ry;exact ne_bool (bL I q (congrArg not CY))
  | str j=>obtain⟨t',rfl⟩:=ry;exact PySem.EqMixed.ne_bool_str (bL I q (by simp))
  | _=>exact absurd (show false=true from hs) YF
 | int i=>
  obtain⟨t,rfl⟩:=rx
  cases y with
  | cP=>cases ry;exact PySem.EqNone.ne_int_none (bL I q (by simp))
  | int j=>obtain⟨t',rfl⟩:=ry;exact ne_int (bL I q (congrArg not Ay))
  | str j=>obtain⟨t',rfl⟩:=ry;exact PySem.EqMixed.ne_int_str (bL I q (by simp))
  | _=>exact absurd (show false=true from hs) YF
 | str i=>
  obtain⟨t,rfl⟩:=rx
  cases y with
  | cP=>cases ry;exact PySem.EqNone.ne_str_none (bL I q (by simp))
  | bl j=>cases ry;exact PySem.EqMixed.ne_str_bool (bL I q (by simp))
  | int j=>obtain⟨t',rfl⟩:=ry;exact PySem.EqMixed.ne_str_int (bL I q (by simp))
  | str j=>obtain⟨t',rfl⟩:=ry;exact ne_str (bL I q (congrArg not Az))
  | _=>exact absurd (show false=true from hs) YF
 | CC i=>
  obtain⟨t,rfl⟩:=rx
  cases y with
  | CC j=>obtain⟨t',rfl⟩:=ry;exact PySem.W.ne_bytes (bL I q (congrArg not AA))
  | _=>exact absurd (show false=true from hs) YF
 | _=>cases y <;>exact absurd (show false=true from hs) YF
theorem wX:jo X (compareOp .Lt) (rI0 λi j=>.bl (decide (i<j))):=FX λ_ _ _ _ _ _ _ q=>lt_int q
theorem AB:jo X (compareOp .LtE) (rI0 λi j=>.bl (decide (i<=j))):=FX λ_ _ _ _ _ _ _ q=>le_int q
theorem fY:jo X (compareOp .Gt) (rI0 λi j=>.bl (decide (j<i))):=FX λ_ _ _ _ _ _ _ q=>gt_int q
theorem AD:jo X (compareOp .GtE) (rI0 λi j=>.bl (decide (j<=i))):=FX λ_ _ _ _ _ _ _ q=>ge_int q
theorem CZ:jo X (compareOp .Is) (λx y H Q=>y=.cP/\Q (.bl (decide (x=.cP))) H):=by
 intro pins s σ H x y v u Q I rx ry h
 obtain⟨rfl,q⟩:=h
 cases ry
 refine is_none_gen (bL I q ?_)
 cases x <;>first
  | (cases rx;rfl)
  | (obtain⟨t,rfl⟩:=rx;rfl)
theorem aS (b:Expr) {op:CmpOp} (h:op≠.In:=by decide) (h2:op≠.NotIn:=by decide):behindInMarks op b=false:=by
 have e1:(op==CmpOp.In)=false:=by cases op <;>first | rfl | exact absurd rfl h
 have e2:(op==CmpOp.NotIn)=false:=by cases op <;>first | rfl | exact absurd rfl h2
 cases b <;>simp [behindInMarks,e1,e2]
theorem fZ {op:CmpOp} {r:R2} (ho:jo X (compareOp op) r) (ha:PE X a ta) (hb:PE X b tb) (hm:behindInMarks op b=false):PE X (.Compare a [op] [b] pos) (tOp r ta tb):=by
 intro pins s σ H Q I h
 exact wpAny_Compare1 (IV ha hb I h λv u s2 x y H2 I2 rx ry q=>ho pins s2 σ H2 x y v u Q I2 rx ry q) hm
noncomputable def tTest (t:TE):TT:=λσ H Q=>t σ H λx H'=>∃k,x=.bl k/\Q k H'
theorem aL {op:CmpOp} {r:R2} (ho:jo X (compareOp op) r) (ha:PE X a ta) (hb:PE X b tb) (hm:behindInMarks op b=false):PT X (.Compare a [op] [b] pos) (tTest (tOp r ta tb)):=by
 intro pins s σ H Q I h
 refine wpAny_isTrue_Compare1 (cD (ha pins s σ H _ I h) λv s1 ⟨x,H1,I1,r1,q1⟩=>cD (hb pins s1 σ H1 _ I1 q1) λu s2 ⟨y,H2,I2,r2,q2⟩=>
  cD (ho pins s2 σ H2 x y v u _ I2 r1 r2 q2) λc s3 ⟨z,H3,I3,r3,k,e,q3⟩=>?_) hm
 subst e
 cases r3
 exact wpAny_truthy_bool ⟨H3,I3,q3⟩
noncomputable def tChain (r r':R2) (ta tb tc:TE):TE:=λσ H Q=>ta σ H λx H1=>tb σ H1 λy H2=>r x y H2 λz H3=>∃k,z=.bl k/\
 (if k=true then tc σ H3 λw' H4=>r' y w' H4 Q else Q (.bl false) H3)
theorem wY {op OR:CmpOp} {r r':R2} (ho:jo X (compareOp op) r) (FR:jo X (compareOp OR) r') (ha:PE X a ta) (hb:PE X b tb) (hc:PE X c tc)
  (hm:lastMarks [op,OR] [b,c]=false:=by with_unfolding_all rfl):PT X (.Compare a [op,OR] [b,c] pos) (tTest (tChain r r' ta tb tc)):=by
 intro pins s σ H Q I h
 refine isTrue_chain (cD (ha pins s σ H _ I h) λv s1 ⟨x,H1,I1,r1,q1⟩=>test_link (cD (hb pins s1 σ H1 _ I1 q1) λu s2 ⟨y,H2,I2,r2,q2⟩=>
  cD (ho pins s2 σ H2 x y v u _ I2 r1 r2 q2) λd s3 ⟨z,H3,I3,r3,k,e,q3⟩=>?_)) hm
 subst e
 cases r3
 refine wpAny_truthy_bool ?_
 cases k with
 | false=>
  obtain⟨k',e',q'⟩:=q3
  cases e'
  exact ite_ff ⟨H3,I3,q'⟩
 | true=>
  refine ite_tt (test_last (cD (hc pins s3 σ H3 _ I3 q3) λw' s4 ⟨z',H4,I4,r4,q4⟩=>cD (FR pins s4 σ H4 y z' u w' _ I4 r2 r4 q4) λd' s5 dh=>?_))
  obtain⟨z2,H5,I5,r5,k2,e2,q5⟩:=dh
  subst e2
  cases r5
  exact wpAny_truthy_bool ⟨H5,I5,q5⟩
theorem qj:(sizeLine:Nat)<2^63:=by rw[sizeLine_eq];decide
theorem ky:jo X (binaryOp .Add) (λx y H Q=>∃i j,x=.str i/\y=.str j/\i.length+j.length<=sizeLine/\Q (.str (i++j)) H):=by
 intro pins s σ H x y v u Q I rx ry h
 obtain⟨i,j,rfl,rfl,hz,q⟩:=h
 obtain⟨t,rfl⟩:=rx
 obtain⟨t',rfl⟩:=ry
 exact add_str (λt' tk=>⟨.str (i++j),H,I.tok _,⟨_,rfl⟩,q⟩) hz
theorem vals1 {x:V} {us:List Value} (r:bj [x] us):∃u,us=[u]/\RelV x u:=by
 cases r with
 | cons r1 r2=>cases r2;exact⟨_,rfl,r1⟩
theorem vals2 {x y:V} {us:List Value} (r:bj [x,y] us):∃u w',us=[u,w']/\RelV x u/\RelV y w':=by
 cases r with
 | cons r1 r2=>
  cases r2 with
  | cons r3 r4=>cases r4;exact⟨_,_,rfl,r1,r3⟩
theorem qk:cX X (.builtin "abs") (λxs H Q=>∃i,xs=[.int i]/\Q (.int (if i<0 then -i else i)) H):=by
 intro pins s σ H xs us Q I r h
 obtain⟨i,rfl,q⟩:=h
 obtain⟨u,rfl,t,rfl⟩:=vals1 r
 exact call_abs_int λu tk=>⟨.int (if i<0 then -i else i),H,I.tok _,⟨_,rfl⟩,q⟩
theorem jg (hc:X.calm=true):cX X (.builtin "max") (λxs H Q=>∃i j,xs=[.int i,.int j]/\Q (.int (if j >i then j else i)) H):=by
 intro pins s σ H xs us Q I r h
 obtain⟨i,j,rfl,q⟩:=h
 obtain⟨u,w',rfl,⟨t,rfl⟩,⟨t',rfl⟩⟩:=vals2 r
 refine max_two_ints (I.ok.hd hc) λh' tk k=>⟨_,H,I.kept k,?_,q⟩
 by_cases hj:j >i
 ·rw[if_pos hj,if_pos hj];exact⟨_,rfl⟩
 ·rw[if_neg hj,if_neg hj];exact⟨_,rfl⟩
theorem fB (hc:X.calm=true):cX X (.builtin "min") (λxs H Q=>∃i j,xs=[.int i,.int j]/\Q (.int (if j<i then j else i)) H):=by
 intro pins s σ H xs us Q I r h
 obtain⟨i,j,rfl,q⟩:=h
 obtain⟨u,w',rfl,⟨t,rfl⟩,⟨t',rfl⟩⟩:=vals2 r
 refine min_two_ints (I.ok.hd hc) λh' tk k=>⟨_,H,I.kept k,?_,q⟩
 by_cases hj:j<i
 ·rw[if_pos hj,if_pos hj];exact⟨_,rfl⟩
 ·rw[if_neg hj,if_neg hj];exact⟨_,rfl⟩
theorem BQ:cX X (.type "int") (λxs H Q=>(∃i,xs=[.int i]/\Q (.int i) H)\/∃k,xs=[.bl k]/\Q (.int (if k then 1 else 0)) H):=by
 intro pins s σ H xs us Q I r h
 rcases h with ⟨i,rfl,q⟩ | ⟨k,rfl,q⟩
 ·obtain⟨u,rfl,t,rfl⟩:=vals1 r
  exact call_int_int ⟨.int i,H,I,⟨_,rfl⟩,q⟩
 ·obtain⟨u,rfl,r1⟩:=vals1 r
  cases r1
  exact call_int_bool ⟨.int (if k then 1 else 0),H,I.tok _,⟨_,rfl⟩,q⟩
theorem u6:cX X (.type "str") (λxs H Q=>∃i,xs=[.int i]/\i.natAbs.log2<1920/\Q (.str (toString i)) H):=by
 intro pins s σ H xs us Q I r h
 obtain⟨i,rfl,hz,q⟩:=h
 obtain⟨u,rfl,t,rfl⟩:=vals1 r
 exact PySem.P.str_of_int hz ⟨.str _,H,I.tok _,⟨_,rfl⟩,q⟩
end
end L2
namespace L2
open PySem PySem.Spec PyProof.Rows
structure y7 (h:Heap) (x dx C:Addr) (mA:Str->Option Value):Prop where
 obj:h.get? x=some (PySem.W.instObj C dx)
 ns:h.Ns1 dx mA
 ne:dx≠x
set_option tactic.hygienic true in
theorem BR {h:Heap} {dx:Addr} {mA:Str->Option Value} (n:h.Ns1 dx mA):∃od,h.get? dx=some od/\∀name,PySem.W.lookIn name od=some (mA name):=by
 obtain⟨o,es,ep,ho,hd,hk,_,hm⟩:=n
 refine⟨o,ho,λname=>?_⟩
 have e:=hm name
 unfold nsFind findBy at e
 rw[<-Array.find?_toList] at e
 unfold PySem.W.lookIn
 rw[hd]
 dsimp only
 split
 ·rename_i y q
  rw[q] at e
  exact congrArg some e
 ·rename_i q
  rw[q] at e
  have a:es.toList.any (·.refKey)=false:=by
   rw[List.any_eq_false]
   intro y hy
   obtain⟨z,t,OS⟩:=hk y (Array.mem_toList_iff.mp hy)
   simp [DictEntry.refKey,OS]
  have a':¬es.toList.any (·.refKey)=true:=by rw[a];exact YF
  rw[if_neg a']
  exact congrArg some e
theorem y7.look {h:Heap} {x dx C:Addr} {mA:Str->Option Value} (I:y7 h x dx C mA):∃od,PySem.W.InstAt h x (PySem.W.instObj C dx) C (some od)/\∀name,PySem.W.lookIn name od=some (mA name):=
 let ⟨od,ho,hl⟩:=BR I.ns
 ⟨od,⟨I.obj,rfl,rfl,ho⟩,hl⟩
section
variable {prog : Program} {w : World} {A : Around} {E : Value -> Shared -> Prop} {s : Shared} {K : PySem.W.Frag} {x dx C f : Addr} {mA : Str -> Option Value} {name : Str} {v : Value}
theorem get_map {expr:Bool} {Q:Value->Shared->Prop} (X:K.In s.heap) (I:y7 s.heap x dx C mA) (hg:PySem.W.plainGet K C name=true) (hh:PySem.W.hasDictIn K C=true)
  (ha:PySem.W.findIn K (.ref C) name=some none) (hv:mA name=some v) (TH:PySem.W.handedIn v=true) (h:Q v {s with toks:=s.toks+1}):
  wpAny (model prog w) A (getAttr (.ref x) name expr) Q E s:=by
 obtain⟨od,J,hl⟩:=I.look
 exact PySem.W.get_value X J (PySem.W.plainGet_of hg).1 (PySem.W.findObj_own hh ha rfl (by rw[hl,hv])) TH h
theorem C3 {pl:Sem Bool} {Q:Value×List Value->Shared->Prop} (X:K.In s.heap) (I:y7 s.heap x dx C mA) (hg:PySem.W.plainGet K C name=true)
  (hf:PySem.W.findIn K (.ref C) name=some (some (.ref f))) (ht:PySem.W.isFn K (.ref f)=true) (hv:mA name=none) (h:Q (.ref f,[.ref x]) s):
  wpAny (model prog w) A (getMethod (.ref x) name pl) Q E s:=by
 obtain⟨od,J,hl⟩:=I.look
 exact PySem.W.method_fn X J (PySem.W.plainGet_of hg).1 (PySem.W.plainGet_of hg).2 hf (beq_iff_eq.mp ht) (by show(PySem.W.lookIn name od).map (·.isSome)=some false;rw[hl,hv];rfl) h
theorem FY {ns:List Str} {Q:Unit->Shared->Prop} (X:K.In s.heap) (I:y7 s.heap x dx C mA)
  (hs:PySem.W.findIn K (.ref C) "__setattr__"=some (some (.builtin "object.__setattr__"))) (hp:PySem.W.plainOver K C=true) (ht:PySem.W.takerIn K C name=some none) (hh:PySem.W.hasDictIn K C=true)
  (hw:PySem.Within mA ns) (hsz:ns.length<=sizeLine)
  (h:∀h',y7 h' x dx C (λy=>if y=name then some v else mA y)->Heap.SameBut dx s.heap h'->Q () {s with heap:=h',toks:=s.toks+2}):
  wpAny (model prog w) A (setAttr (.ref x) name v) Q E s:=by
 obtain⟨od,J,hl⟩:=I.look
 refine PySem.W.set_plain X J hs (PySem.W.osa_open (s:={s with toks:=s.toks+1}) (r:=none) X J hp ht λb=>?_)
 obtain⟨cd,hc,OJ⟩:=PySem.W.any_some hh
 have hx:s.heap.get? x=some ⟨.ref C,some dx,.plain,#[]⟩:=I.obj
 refine wpAny_bind (wpAny_pure (wpAny_bind (wpAny_bind (wpAny_loadPart hx (wpAny_bind (PySem.W.Looks.here (s:={s with toks:=s.toks+1}) (PySem.W.looks_clsIn X hc) ?_))))))
 rw[OJ]
 refine wpAny_pure (a:=some dx) (wpAny_bind (wpAny_pure (wpAny_bind ?_)))
 refine wpAny_nsSet1 (s:={s with toks:=s.toks+1}) I.ns λh' NW Fw=>?_
 obtain⟨oD,W3,W4,TK,TL,TM⟩:=NW.count (PySem.Within.cons name v hw)
 refine wpAny_bind (wpAny_lookBehind TK (by rw[TL];exact pastItsLine_dict (YB TM (by rw[YC];omega))) ?_)
 exact wpAny_pure (h _ ⟨(Fw.2 _ (Ne.symm I.ne)).trans I.obj,NW,I.ne⟩ Fw)
theorem C4 {R:Result->Shared->Prop} {vs:List Value} {kw:List (Str×Value)} (X:K.In s.heap) (hm:PySem.W.makesIn K C=true)
  (hi:PySem.W.findIn K (.ref C) "__init__"=some (some (.ref f))) (hf:PySem.W.typeIn K (.ref f)=some (.type "function"))
  (h:codeAny (model prog w) (A.under (.builtin "type.__call__" ⟨.ref C::vs,kw⟩)) (.call (.ref f) ⟨.ref (s.heap.objs.size+1)::vs,kw⟩) (PySem.W.InitBack (s.heap.objs.size+1) R)
   {s with heap:=(s.heap.push PySem.W.emptyDict).push (PySem.W.instObj C s.heap.objs.size)}):
  codeAny (model prog w) A (.call (.ref C) ⟨vs,kw⟩) R s:=by
 obtain⟨hh,g,d,t,os⟩:=s
 exact PySem.W.make_core (PySem.W.makes_of X hm) (PySem.W.looks_findIn X hi) (λself=>PySem.W.bind_fn X self hf) (.inl rfl) h
end
noncomputable def gw (f:Str) (v:V):List (Str×V)->List (Str×V)
 | []=>[(f,v)]
 | (g,x)::r=>if g=f then (g,v)::r else (g,x)::gw f v r
theorem oM (f g:Str) (v:V):∀fs:List (Str×V),(gw f v fs).lookup g=if g=f then some v else fs.lookup g
 | []=>by
  show List.lookup g [(f,v)]=_
  by_cases h:g=f
  ·have hb:(g==f)=true:=beq_iff_eq.mpr h
   simp only[List.lookup,hb,if_pos h]
  ·have hb:(g==f)=false:=beq_eq_false_iff_ne.mpr h
   simp only[List.lookup,hb,if_neg h]
 | (k,x)::r=>by
  have ih:=oM f g v r
  rw[show gw f v ((k,x)::r)=(if k=f then (k,v)::r else (k,x)::gw f v r) from rfl]
  by_cases hk:k=f
  ·rw[if_pos hk]
   by_cases h:g=k
   ·have hb:(g==k)=true:=beq_iff_eq.mpr h
    simp only[List.lookup,hb,if_pos (h.trans hk)]
   ·have hb:(g==k)=false:=beq_eq_false_iff_ne.mpr h
    simp only[List.lookup,hb,if_neg (λe:g=f=>h (e.trans hk.symm))]
  ·rw[if_neg hk]
   by_cases h:g=k
   ·have hb:(g==k)=true:=beq_iff_eq.mpr h
    simp only[List.lookup,hb,if_neg (λe:g=f=>hk (h.symm.trans e))]
   ·have hb:(g==k)=false:=beq_eq_false_iff_ne.mpr h
    simp only[List.lookup,hb]
    exact ih
theorem nk (f:Str) (v:V):∀fs:List (Str×V),f∈(gw f v fs).map (·.1)/\∀g,g∈fs.map (·.1)->g∈(gw f v fs).map (·.1)
 | []=>⟨by simp [gw],λg h=>by simp at h⟩
 | (k,x)::r=>by
  obtain⟨i1,i2⟩:=nk f v r
  rw[show gw f v ((k,x)::r)=(if k=f then (k,v)::r else (k,x)::gw f v r) from rfl]
  by_cases hk:k=f
  ·rw[if_pos hk]
   subst hk
   exact⟨by simp,λg h=>by simpa using h⟩
  ·rw[if_neg hk]
   refine⟨?_,λg h=>?_⟩
   ·rw[Ys]
    exact Yz _ i1
   ·rw[Ys] at h ⊢
    rcases List.mem_cons.mp h with e | e
    ·exact List.mem_cons.mpr (.inl e)
    ·exact Yz _ (i2 g e)
theorem oN (f:Str) (v:V):∀fs:List (Str×V),(gw f v fs).length<=fs.length+1
 | []=>by simp [gw]
 | (k,x)::r=>by
  have ih:=oN f v r
  rw[show gw f v ((k,x)::r)=(if k=f then (k,v)::r else (k,x)::gw f v r) from rfl]
  by_cases hk:k=f
  ·rw[if_pos hk,YC,YC];omega
  ·rw[if_neg hk,YC,YC];omega
theorem ir.some_of {v:V} {o:Option Value} (r:ir (some v) o):∃u,o=some u/\RelV v u:=by
 cases o with
 | none=>exact(show False from r).elim
 | some u=>exact⟨u,rfl,r⟩
theorem ir.none_of {o:Option Value} (r:ir none o):o=none:=by
 cases o with
 | none=>rfl
 | some u=>exact(show False from r).elim
theorem BU {v:V} {u:Value} (r:RelV v u):PySem.W.handedIn u=true:=by
 cases v with
 | cP=>cases (show u=Value.none from r);rfl
 | bl b=>cases (show u=Value.bool b from r);rfl
 | int i=>obtain⟨t,e⟩:=(show ∃t,u=Value.int i t from r);cases e;rfl
 | str x=>obtain⟨t,e⟩:=(show ∃t,u=Value.str x t from r);cases e;rfl
 | CC b=>obtain⟨t,e⟩:=(show ∃t,u=Value.bytes b t from r);cases e;rfl
 | IH b=>obtain⟨t,e⟩:=(show ∃t,u=Value.float b t from r);cases e;rfl
 | ref a=>cases (show u=Value.ref a from r);rfl
 | ty n=>cases (show u=Value.type n from r);rfl
section
variable {P : Program} {w : World} {H H' : Hp} {h h' : Heap} {a C dx : Addr} {fs Tr : List (Str × V)}
theorem pU (bR:gB P w H h) (e:H a=some (.ins C dx fs)):∃mA,y7 h a dx C mA/\(∀f,ir (fs.lookup f) (mA f))/\PySem.Within mA (fs.map (·.1))/\fs.length<=1000/\H dx=some (.own a):=by
 obtain⟨d,z,ne,ob,mA,n,r,q⟩:=(show cF P w H h a (.ins C dx fs) from bR a _ e)
 exact⟨mA,⟨ob,n,ne⟩,r,q,z,d⟩
end
structure AE (K:PySem.W.Frag) (C:Addr):Prop where
 pg:PySem.W.plainGet K C Str.empty=true
 hd:PySem.W.hasDictIn K C=true
 po:PySem.W.plainOver K C=true
 sa:PySem.W.findIn K (.ref C) "__setattr__"=some (some (.builtin "object.__setattr__"))
theorem AE.get {K:PySem.W.Frag} {C:Addr} (c:AE K C) (f:Str):PySem.W.plainGet K C f=true:=c.pg
noncomputable def nu (K:PySem.W.Frag) (C:Addr) (f:Str):Prop:=PySem.W.findIn K (.ref C) f=some none
theorem nu.Ma {K:PySem.W.Frag} {C:Addr} {f:Str} (n:nu K C f):PySem.W.takerIn K C f=some none:=by
 unfold PySem.W.takerIn
 rw[show PySem.W.findIn K (.ref C) f=some none from n]
 rfl
structure W5 (K:PySem.W.Frag) (C:Addr) (f:Str) (v:V) (u:Value):Prop where
 at_:PySem.W.findIn K (.ref C) f=some (some u)
 rel:RelV v u
 get:PySem.W.specialIn K u "__get__"=some none
 cp:PySem.W.copiedNames.contains f=false
structure C5 (K:PySem.W.Frag) (C:Addr) (m:Str) (f:Addr):Prop where
 at_:PySem.W.findIn K (.ref C) m=some (some (.ref f))
 fn:PySem.W.isFn K (.ref f)=true
 kp:PySem.W.keepIn K (.ref f)=true
section
variable {X : Cx} {pins : List (Addr × Obj)} {σ : St} {H : Hp} {s : Shared} {a C dx : Addr} {fs : List (Str × V)} {f : Str} {v : V} {A : Around} {E : Value -> Shared -> Prop}
theorem y8 {b:Bool} {Q:Value->Shared->Prop} (I:Inv X pins σ H s) (e:H a=some (.ins C dx fs)) (c:AE X.K C) (n:nu X.K C f) (l:fs.lookup f=some v)
  (h:∀u s',Inv X pins σ H s'->RelV v u->Q u s'):wpAny (model X.prog X.w) A (getAttr (.ref a) f b) Q E s:=by
 obtain⟨mA,O,r,_,_,_⟩:=pU I.bR e
 obtain⟨u,hu,ru⟩:=ir.some_of (v:=v) (o:=mA f) (by rw[<-l];exact r f)
 exact get_map I.pe O (c.get f) c.hd n hu (BU ru) (h u _ (I.tok _) ru)
theorem ql {m:Str} {g:Addr} {pl:Sem Bool} {Q:Value×List Value->Shared->Prop} (I:Inv X pins σ H s) (e:H a=some (.ins C dx fs)) (c:AE X.K C) (k:C5 X.K C m g) (l:fs.lookup m=none)
  (h:Q (.ref g,[.ref a]) s):wpAny (model X.prog X.w) A (getMethod (.ref a) m pl) Q E s:=by
 obtain⟨mA,O,r,_,_,_⟩:=pU I.bR e
 have hn:mA m=none:=ir.none_of (by rw[<-l];exact r m)
 exact C3 I.pe O (c.get m) k.at_ k.fn hn h
theorem y9 {y:V} {u:Value} {Q:Unit->Shared->Prop} (I:Inv X pins σ H s) (e:H a=some (.ins C dx fs)) (c:AE X.K C) (n:nu X.K C f) (hl:fs.length<1000) (ry:RelV y u)
  (h:∀s',Inv X pins σ (upd H a (.ins C dx (gw f y fs))) s'->Q () s'):wpAny (model X.prog X.w) A (setAttr (.ref a) f u) Q E s:=by
 obtain⟨mA,O,r,wi,_,ho⟩:=pU I.bR e
 have hz:(fs.map (·.1)).length<=sizeLine:=by rw[Yr,sizeLine_eq];omega
 refine FY I.pe O c.sa c.po n.Ma c.hd wi hz λh' O' sb=>h _ ?_
 have hd:∃o,h'.get? dx=some o:=let ⟨o,_,_,e',_⟩:=O'.ns;⟨o,e'⟩
 refine I.write (x:=a) (e:=dx) (by rw[e];exact True.intro) (.inr ho) (λb q hb z=>(sb.2 b hb).trans z) hd ?_
 refine⟨by rw[aw O.ne];exact ho,?_,O.ne,O'.obj,_,O'.ns,λg=>?_,λg hg=>?_⟩
 ·have:=oN f y fs;omega
 ·show ir ((gw f y fs).lookup g) (if g=f then some u else mA g)
  rw[oM]
  by_cases q:g=f
  ·rw[if_pos q,if_pos q];exact ry
  ·rw[if_neg q,if_neg q];exact r g
 ·by_cases q:g=f
  ·rw[q];exact(nk f y fs).1
  ·refine(nk f y fs).2 g (wi g λz=>hg ?_)
   show(if g=f then some u else mA g)=none
   rw[if_neg q];exact z
theorem Inv.made (I:Inv X pins σ H s):Inv X pins σ (upd (upd H s.heap.objs.size (.own (s.heap.objs.size+1))) (s.heap.objs.size+1) (.ins C s.heap.objs.size []))
  {s with heap:=(s.heap.push PySem.W.emptyDict).push (PySem.W.instObj C s.heap.objs.size)}:=by
 have e1:(s.heap.push PySem.W.emptyDict).get? s.heap.objs.size=some PySem.W.emptyDict:=Heap.get?_push_size s.heap rfl
 have e2:((s.heap.push PySem.W.emptyDict).push (PySem.W.instObj C s.heap.objs.size)).get? (s.heap.objs.size+1)=some (PySem.W.instObj C s.heap.objs.size):=by
  have:=Heap.get?_push_size (s.heap.push PySem.W.emptyDict) (o:=PySem.W.instObj C s.heap.objs.size) rfl
  rwa [Heap.size_push] at this
 have e3:(s.heap.push PySem.W.emptyDict).Ns s.heap.objs.size (λ_=>none):=⟨PySem.W.emptyDict,#[],_,e1,rfl,(λe he=>absurd he (by simp)),λ_=>rfl⟩
 have I1:=I.laid (a:=s.heap.objs.size) (o:=.own (s.heap.objs.size+1)) (h':=s.heap.push PySem.W.emptyDict) (t':=s.toks) (λb u q=>Heap.get?_push_of_some _ q) (Yt _) ⟨_,e1⟩
 refine I1.laid (a:=s.heap.objs.size+1) (o:=.ins C s.heap.objs.size []) (t':=s.toks) (λb u q=>Heap.get?_push_of_some _ q) (Nat.le_of_eq (Heap.size_push _ _)) ?_
 have ne:s.heap.objs.size≠s.heap.objs.size+1:=YE (Zc _)
 refine⟨by rw[aw ne,aj],YD _,ne,e2,λ_=>none,(Heap.Ns1.of_empty e3).at λo q=>Heap.get?_push_of_some _ q,λ_=>True.intro,λy hy=>absurd rfl hy⟩
theorem FZ {prog:Program} {w:World} {env:Env} {e:Expr} {f:Str} {pos:Pos} {s:Shared} {Q:Value->Shared->Prop} (hb:attributeBase e f env (eval e env)=eval e env)
  (h:wpAny (model prog w) A (eval e env) (λo s₁=>wpAny (model prog w) A (getAttr o f true) Q E s₁) E s):wpAny (model prog w) A (eval (.Attribute e f pos) env) Q E s:=
 Attribute_any_ h (by rw[arm_eval_Attribute,hb])
end
noncomputable def cW (K:PySem.W.Frag) (ta:TE) (f:Str):TE:=λσ H Q=>ta σ H λx H1=>∃a C dx fs v,x=.ref a/\H1 a=some (.ins C dx fs)/\AE K C/\nu K C f/\fs.lookup f=some v/\Q v H1
noncomputable def nv (K:PySem.W.Frag) (ta tv:TE) (f:Str):TS:=λD σ H=>tv σ H λy H1=>ta σ H1 λx H2=>∃a C dx fs,x=.ref a/\H2 a=some (.ins C dx fs)/\AE K C/\nu K C f/\fs.length<1000/\
 D.nx σ (upd H2 a (.ins C dx (gw f y fs)))
section
variable {X : Cx} {o e value : Expr} {f : Str} {pos pos' sQ : Pos} {ta tv : TE}
theorem a9 (he:PE X e ta) (hb:attributeBase e f X.env (eval e X.env)=eval e X.env):PE X (.Attribute e f pos) (cW X.K ta f):=by
 intro pins s σ H Q I h
 refine FZ hb (cD (he pins s σ H _ I h) λu s1 dh=>?_)
 obtain⟨x,H1,I1,rx,a,C,dx,fs,v,ex,ea,c,n,l,q⟩:=dh
 subst ex
 obtain rfl:u=Value.ref a:=rx
 exact y8 I1 ea c n l λu' s2 I2 ru=>⟨v,H1,I2,ru,q⟩
theorem eG (ha:PE X o ta) (hv:PE X value tv) (hs:swapsWith value (some (.Attribute o f pos')) pos.line X.env=pure false):PS X (.Assign [.Attribute o f pos'] value pos) (nv X.K ta tv f):=by
 intro pins s σ H D I h
 refine plainObj_wpAny_Assign_Attribute (cD (hv pins s σ H _ I h) λu s1 ⟨y,H1,I1,ry,q⟩=>cD (ha pins s1 σ H1 _ I1 q) λov s2 dh=>?_) hs
 obtain⟨x,H2,I2,rx,a,C,dx,fs,ex,ea,c,n,l,q2⟩:=dh
 subst ex
 obtain rfl:ov=Value.ref a:=rx
 exact y9 I2 ea c n l ry λs3 I3=>⟨σ,_,I3,q2⟩
end
section
variable {X : Cx} {pins : List (Addr × Obj)} {σ : St} {H : Hp} {s : Shared} {A : Around} {E : Value -> Shared -> Prop} {Q : Value -> Shared -> Prop} {c : Value} {b : Bool}
inductive lI (K:PySem.W.Frag) (H:Hp):V->Value->Prop where
 | cP:lI K H .cP (.type "NoneType")
 | bl (x:Bool):lI K H (.bl x) (.type "bool")
 | int (i:Int):lI K H (.int i) (.type "int")
 | str (x:Str):lI K H (.str x) (.type "str")
 | IH (x:UInt64):lI K H (.IH x) (.type "float")
 | lst {a:Addr} {xs:List V} (e:H a=some (.lst xs)):lI K H (.ref a) (.type "list")
 | wI {a:Addr} {o:Obj} {xs:List V} (e:H a=some (.wI o (.lst xs))):lI K H (.ref a) (.type "list")
 | tup {a:Addr} {xs:List V} (e:H a=some (.tup xs)):lI K H (.ref a) (.type "tuple")
 | dK {a:Addr} {kvs:List (Key×V)} (e:H a=some (.dK kvs)):lI K H (.ref a) (.type "dict")
 | dT {a:Addr} {kvs:List (List Key×V)} (e:H a=some (.dT kvs)):lI K H (.ref a) (.type "dict")
 | ins {a C dx:Addr} {fs:List (Str×V)} (e:H a=some (.ins C dx fs)) (cl:AE K C) (ha:PySem.W.findIn K (.ref C) "__class__"=some (some (.builtin "object.__class__")))
   (hn:PySem.W.specialIn K (.builtin "object.__class__") "__get__"=some (some (.builtin "getset_descriptor.__get__"))) (Rv:PySem.W.takesIn K (.builtin "object.__class__")=some true)
   (hm:PySem.W.mroIn K C (.type "object")=some true):lI K H (.ref a) (.ref C)
theorem BV {x:V} {u t:Value} (I:Inv X pins σ H s) (rx:RelV x u) (ty:lI X.K H x t) (e:PySem.W.kitOne X.K t c=some b) (h:∀tk,Q (.bool b) {s with toks:=tk}):
  wpAny (model X.prog X.w) A (call (.builtin "isinstance") [u,c]) Q E s:=by
 cases ty with
 | cP=>cases (show u=Value.none from rx);exact Y7 PySem.W.kitx_none I.pe True.intro e (λz=>nomatch z) h
 | bl y=>cases (show u=Value.bool y from rx);exact Y7 PySem.W.kitx_bool I.pe True.intro e (λz=>nomatch z) h
 | int i=>obtain⟨t,q⟩:=(show ∃t,u=Value.int i t from rx);cases q;exact Y7 PySem.W.kitx_int I.pe True.intro e (λz=>nomatch z) h
 | str y=>obtain⟨t,q⟩:=(show ∃t,u=Value.str y t from rx);cases q;exact Y7 PySem.W.kitx_str I.pe True.intro e (λz=>nomatch z) h
 | IH y=>obtain⟨t,q⟩:=(show ∃t,u=Value.float y t from rx);cases q;exact Y7 PySem.W.kitx_float I.pe True.intro e (λz=>nomatch z) h
 | @lst a xs ea=>
  cases (show u=Value.ref a from rx)
  obtain⟨_,_,n,_,h1⟩:=(show cF X.prog X.w H s.heap a (.lst xs) from I.bR a _ ea)
  exact Y7 PySem.W.kitx_list I.pe ⟨_,h1,rfl⟩ e (λz=>nomatch z) h
 | @wI a ob xs ea=>
  cases (show u=Value.ref a from rx)
  obtain⟨_,_,_,n,_,h1⟩:=(show cF X.prog X.w H s.heap a (.wI ob (.lst xs)) from I.bR a _ ea)
  exact Y7 PySem.W.kitx_list I.pe ⟨_,h1,rfl⟩ e (λz=>nomatch z) h
 | @tup a xs ea=>
  cases (show u=Value.ref a from rx)
  obtain⟨_,_,_,p⟩:=(show cF X.prog X.w H s.heap a (.tup xs) from I.bR a _ ea)
  obtain⟨o,h1,h2,_⟩:=p
  exact Y7 PySem.W.kitx_tuple I.pe ⟨o,h1,h2⟩ e (λz=>nomatch z) h
 | @dK a kvs ea=>
  cases (show u=Value.ref a from rx)
  obtain⟨_,_,vs,_,p⟩:=(show cF X.prog X.w H s.heap a (.dK kvs) from I.bR a _ ea)
  obtain⟨o,es,ep,h1,h2,_⟩:=p
  exact Y7 PySem.W.kitx_dict I.pe ⟨o,h1,h2.1⟩ e (λz=>nomatch z) h
 | @dT a kvs ea=>
  cases (show u=Value.ref a from rx)
  obtain⟨_,_,xs,_,o,es,ep,h1,h2,_⟩:=(show cF X.prog X.w H s.heap a (.dT kvs) from I.bR a _ ea)
  exact Y7 PySem.W.kitx_dict I.pe ⟨o,h1,h2.1⟩ e (λz=>nomatch z) h
 | @ins a C dx fs ea cl ha hn Rv hm=>
  cases (show u=Value.ref a from rx)
  obtain⟨mA,O,_⟩:=pU I.bR ea
  obtain⟨od,J,_⟩:=O.look
  exact Y7 (PySem.W.kitx_own (cl.get _) cl.hd ha hn Rv hm) I.pe J e (λz=>nomatch z) h
end
end L2
namespace L2
open PySem PySem.Spec PyProof.Rows
structure dW (k:Nat) (A:Around):Prop where
 hd:A.handled=none
 dp:A.depth+3*k+5<recursionLimit
 un:A.units+16*k+200<cLine
theorem dW.mono {j k:Nat} {A:Around} (r:dW k A) (h:j<=k):dW j A:=⟨r.hd,by have:=r.dp;omega,by have:=r.un;omega⟩
theorem dW.deeper {k:Nat} {A:Around} (r:dW (k+1) A) (env:Env):dW k (A.deeper env):=
 ⟨r.hd,by have:=r.dp;show A.depth+1+3*k+5<_;omega,by have:=r.un;show A.units+3+16*k+200<_;omega⟩
theorem za {A:Around} {C:Addr} {us:List Value} {kw:List (Str×Value)}:(A.under (.builtin "type.__call__" ⟨.ref C::us,kw⟩)).depth=A.depth+1:=by
 first | rfl | simp [Around.under,Code.weight,Code.isCreation,Code.isGuard,Code.isCaller,Code.frames,Code.isFrame,guardIds]
theorem zb {A:Around} {C:Addr} {us:List Value} {kw:List (Str×Value)}:(A.under (.builtin "type.__call__" ⟨.ref C::us,kw⟩)).units=A.units+1:=by
 first | rfl | simp [Around.under,Code.cUnits,Code.frames,Code.isFrame]
theorem dW.make {k:Nat} {A:Around} (r:dW (k+1) A) (C:Addr) (us:List Value) (kw:List (Str×Value)):dW k (A.under (.builtin "type.__call__" ⟨.ref C::us,kw⟩)):=
 ⟨r.hd,by have:=r.dp;rw[za];omega,by have:=r.un;rw[zb];omega⟩
theorem dW.depth {k:Nat} {A:Around} (r:dW k A):A.depth<recursionLimit:=by have:=r.dp;omega
theorem dW.units {k:Nat} {A:Around} (r:dW k A):A.units+64<cLine:=by have:=r.un;omega
noncomputable def tNil:TA:=λ_ H Q=>Q [] H
noncomputable def tCons (ta:TE) (tr:TA):TA:=λσ H Q=>ta σ H λx H1=>tr σ H1 λxs H2=>Q (x::xs) H2
section
variable {X : Cx} {e : Expr} {es : List Expr} {te : TE} {t : TA} {pos : Pos}
theorem ag:PA X [] tNil:=λ_ _ _ _ H Q I h=>Calls.spliced_nil ⟨[],H,I,.nil,h⟩
theorem aa (ha:PE X e te) (hr:PA X es t) (hs:starEach (e::es) X.env=(false,eval e X.env)::starEach es X.env:=by rfl):PA X (e::es) (tCons te t):=by
 intro pos pins s σ H Q I h
 rw[hs]
 show wpAny _ _ (spliced ((false,eval e X.env)::backTo pos (starEach es X.env))) _ _ s
 refine Calls.spliced_cons (cD (ha pins s σ H _ I h) λu s1 dh=>?_)
 obtain⟨x,H1,I1,r1,q1⟩:=dh
 exact cD (hr pos pins s1 σ H1 _ I1 q1) λus s2 ⟨xs,H2,I2,r2,q2⟩=>⟨x::xs,H2,I2,.cons r1 r2,q2⟩
noncomputable def tLst (t:TA):TE:=λσ H Q=>t σ H λxs H1=>xs.length<=sizeLine/\∀p,H1 p=none->Q (.ref p) (upd H1 p (.lst xs))
theorem b5 (h:PA X es t):PE X (.List es pos) (tLst t):=by
 intro pins s σ H Q I hq
 refine wpAny_List_spliced (cD (h pos pins s σ H _ I hq) λus s1 ⟨xs,H1,I1,r,z,q⟩=>⟨by rw[<-r.length];exact z,?_⟩)
 have hf:H1 s1.heap.objs.size=none:=I1.bR.fresh (Yt _)
 refine⟨.ref s1.heap.objs.size,upd H1 s1.heap.objs.size (.lst xs),I1.laid (t':=s1.toks) (λb u e=>Heap.get?_push_of_some _ e) (Yt _) ?_,rfl,q _ hf⟩
 exact⟨z,us,0,r,Heap.get?_push_size _ rfl⟩
end
abbrev Sp:=List V->Hp->VK->XK->Prop
abbrev nz:=List Env->Hp->Shared->XK->Value->Shared->Prop
structure zc (P:Program) (w:World) (K:PySem.W.Frag) (mg:Str->Option Value) (base:Heap) (A:Around) (outer:List Env) (s:Shared) (H:Hp):Prop where
 frames:A.frames=some outer
 mod:Mod K mg base
 bs:∀b o,base.get? b=some o->s.heap.get? b=some o/\H b=none
 Fu:base.objs.size<=s.heap.objs.size
 nh:s.heap.FunFrames base outer
 HC:∀b∈gT outer,H b=none
 bR:gB P w H s.heap
 bare:AllBare s.gens
noncomputable def CE (outer:List Env) (P:Program) (w:World) (H:Hp) (s:Shared) (Q:VK) (u:Value) (s':Shared):Prop:=
 ∃v H',s'.os=s.os/\AllBare s'.gens/\Un (gT outer) [] H H' s.heap s'.heap/\gB P w H' s'.heap/\RelV v u/\Q v H'
noncomputable def CR (CX:nz) (outer:List Env) (P:Program) (w:World) (H:Hp) (s:Shared) (Q:VK) (E:XK) (r:Result) (s':Shared):Prop:=
 match r with
 | .ok (.ret u)=>CE outer P w H s Q u s'
 | .ok _=>False
 | .error e=>CX outer H s E e s'
structure fF (P:Program) (w:World) (K:PySem.W.Frag) (mg:Str->Option Value) (base:Heap) (CX:nz) (k:Nat) (f:Addr) (fd:FuncData) (ps:List Str) (sp:Sp):Prop where
 len:∀vs H Q E,sp vs H Q E->vs.length=ps.length
 run:∀(A:Around) (outer:List Env) (s:Shared) (H:Hp) (args:Args) (us:List Value) (vs:List V) (Q:VK) (E:XK),dW k A->zc P w K mg base A outer s H->BindsTo s fd args (ps.zip us)->bj vs us->sp vs H Q E->
  codeAny (model P w) A (.call (.ref f) args) (CR CX outer P w H s Q E) s
theorem fF.mono {P:Program} {w:World} {K:PySem.W.Frag} {mg:Str->Option Value} {base:Heap} {CX:nz} {j k:Nat} {f:Addr} {fd:FuncData} {ps:List Str} {sp:Sp} (F:fF P w K mg base CX j f fd ps sp) (h:j<=k):
  fF P w K mg base CX k f fd ps sp:=⟨F.len,λA outer s H args us vs Q E hr=>F.run A outer s H args us vs Q E (hr.mono h)⟩
theorem zc.make {P:Program} {w:World} {K:PySem.W.Frag} {mg:Str->Option Value} {base:Heap} {A:Around} {outer:List Env} {s:Shared} {H:Hp} (e:zc P w K mg base A outer s H) (C:Addr) (us:List Value) (kw:List (Str×Value)):
  zc P w K mg base (A.under (.builtin "type.__call__" ⟨.ref C::us,kw⟩)) outer s H:=⟨by first | exact e.frames | (simpa [Around.under,Code.envs,Code.isFrame,pushEnvs] using e.frames),e.mod,e.bs,e.Fu,e.nh,e.HC,e.bR,e.bare⟩
section
variable {X : Cx} {pins : List (Addr × Obj)} {σ : St} {H : Hp} {s s' : Shared}
theorem Inv.Mb (I:Inv X pins σ H s):zc X.prog X.w X.K X.mg X.base X.A X.stack s H:=
 ⟨I.ok.frames,I.ok.mod,I.bs,YB I.ok.Fu I.sz,I.stack,I.u3,I.bR,I.bare⟩
theorem Inv.after {Q:VK} {u:Value} (I:Inv X pins σ H s) (h:CE X.stack X.prog X.w H s Q u s'):EP X pins σ Q u s':=by
 obtain⟨v,H',os,bare,un,bR,r,q⟩:=h
 obtain⟨hh,g,d,t,TN⟩:=s'
 obtain rfl:TN=s.os:=os
 exact⟨v,H',I.call (h':=hh) (g':=g) (d':=d) (t':=t) (ch:=[]) un bR bare (λb z=>absurd z (by simp)),r,q⟩
end
noncomputable def tCall (sp:Sp) (iw:List V) (E:XK) (t:TA):TE:=λσ H Q=>t σ H λvs H1=>sp (vs++iw) H1 Q E
noncomputable def bY (C:Addr) (m:Str) (sp:Sp) (iw:List V) (E:XK) (ta:TE) (t:TA):TE:=λσ H Q=>ta σ H λx H1=>∃a dx fs,x=.ref a/\H1 a=some (.ins C dx fs)/\fs.lookup m=none/\
 t σ H1 λvs H2=>sp (x::(vs++iw)) H2 Q E
noncomputable def wZ (C:Addr) (sp:Sp) (iw:List V) (E:XK) (t:TA):TE:=λσ H Q=>t σ H λvs H1=>∀x dx,H1 x=none->H1 dx=none->dx≠x->
 sp (.ref x::(vs++iw)) (upd (upd H1 dx (.own x)) x (.ins C dx [])) (λv H2=>v=.cP/\Q (.ref x) H2) E
noncomputable def Binds (K:PySem.W.Frag) (fd:FuncData) (ps:List Str) (ds:List Value):Prop:=
 ∀(s:Shared) (us:List Value),K.In s.heap->(us++ds).length=ps.length->BindsTo s fd ⟨us,[]⟩ (ps.zip (us++ds))
theorem Binds.all {K:PySem.W.Frag} {fd:FuncData} {ps:List Str} (h:∀us:List Value,us.length=ps.length->bindArgs fd ⟨us,[]⟩=pure (ps.zip us)):Binds K fd ps []:=λs us _ hl=>by
 rw[List.append_nil] at hl ⊢
 exact .of_eq (h us hl)
noncomputable def eW (CX:nz) (X:Cx) (E:XK):Prop:=∀(pins:List (Addr×Obj)) (σ:St) (H:Hp) (s:Shared) (e:Value) (s':Shared),Inv X pins σ H s->CX X.stack H s E e s'->X.xe e s'
section
variable {X : Cx} {CX : nz} {k : Nat} {f C : Addr} {fd : FuncData} {ps : List Str} {sp : Sp} {iw : List V} {ds : List Value} {E : XK} {x m : Str} {p pos apos : Pos} {e o : Expr} {es : List Expr} {ta : TE} {t : TA}
theorem zd {pins:List (Addr×Obj)} {σ:St} {H:Hp} {s:Shared} {Q:VK} {us:List Value} {vs:List V} (F:fF X.prog X.w X.K X.mg X.base CX k f fd ps sp) (hr:dW k X.A) (hb:Binds X.K fd ps ds) (hd:bj iw ds) (hx:eW CX X E)
  (I:Inv X pins σ H s) (r:bj vs us) (h:sp (vs++iw) H Q E):wpAny (model X.prog X.w) X.A (call (.ref f) us) (EP X pins σ Q) X.xe s:=by
 have r2:bj (vs++iw) (us++ds):=r.append hd
 have hl:(us++ds).length=ps.length:=by rw[<-r2.length];exact F.len _ _ _ _ h
 refine wpAny_call (codeAny_mono (F.run X.A X.stack s H ⟨us,[]⟩ (us++ds) (vs++iw) Q E hr I.Mb (hb s us I.pe hl) r2 h) λr s' hq=>?_)
 cases r with
 | error e=>exact hx pins σ H s e s' I hq
 | ok fl=>
  cases fl with
  | ret u=>exact I.after hq
  | next=>exact False.elim hq
  | brk=>exact False.elim hq
  | cont=>exact False.elim hq
theorem F0 (F:fF X.prog X.w X.K X.mg X.base CX k f fd ps sp) (hr:dW k X.A) (hg:Gl X x) (hm:X.mg x=some (.ref f)) (hk:PySem.W.keepIn X.K (.ref f)=true) (hb:Binds X.K fd ps ds) (hd:bj iw ds) (hx:eW CX X E)
  (ha:PA X (e::es) t) (BW:(x==("__debug__":Str))=false:=by decide) (he:starEach (e::es) X.env=(false,eval e X.env)::starEach es X.env:=by rfl) (hpl:(backTo pos (starEach es X.env)).any (·.1)=false:=by rfl):
  PE X (.Call (.Name x p) (e::es) [] pos) (tCall sp iw E t):=by
 intro pins s σ H Q I h
 refine wpAny_Call_Name_kw (pT I hg hm ?_ BW)
 refine PySem.W.callWith_K (h₀:=X.base) I.ok.mod.Lo hk (cD (ha pos pins s σ H _ I h) λus s1 ⟨vs,H1,I1,r,q⟩=>⟨I1.pe,?_⟩) he hpl
 exact zd F hr hb hd hx I1 r q
theorem F1 {pl:Sem Bool} (he:PE X o ta) (c:AE X.K C) (hm:C5 X.K C m f) (F:fF X.prog X.w X.K X.mg X.base CX k f fd ps sp) (hr:dW k X.A) (hb:Binds X.K fd ps ds) (hd:bj iw ds) (hx:eW CX X E) (ha:PA X (e::es) t)
  (hst:starEach (e::es) X.env=(false,eval e X.env)::starEach es X.env:=by rfl) (hpl:(backTo pos (starEach es X.env)).any (·.1)=false:=by rfl)
  (ht:eval (.Call (.Attribute o m apos) (e::es) [] pos) X.env=(do
   let ov <-eval o X.env
   standAt apos.atName
   let (f,first) <-holding [ov] (getMethod ov m pl)
   callWith pos f first (backTo pos (starEach (e::es) X.env)) (backToKw pos (keywordEach [] X.env))):=by rfl):
  PE X (.Call (.Attribute o m apos) (e::es) [] pos) (bY C m sp iw E ta t):=by
 intro pins s σ H Q I h
 refine PySem.W.methodCall_KW (pl:=pl) (cD (he pins s σ H _ I h) λu s1 dh=>?_) ht
 obtain⟨x,H1,I1,rx,a,dx,fs,ex,ea,l,q⟩:=dh
 subst ex
 obtain rfl:u=Value.ref a:=rx
 refine ql I1 ea c hm l ?_
 refine PySem.W.callWith_K (first:=[.ref a]) (h₀:=X.base) I.ok.mod.Lo hm.kp (cD (ha pos pins s1 σ H1 _ I1 q) λus s2 ⟨vs,H2,I2,r,q2⟩=>⟨I2.pe,?_⟩) hst hpl
 exact zd (us:=.ref a::us) (vs:=.ref a::vs) F hr hb hd hx I2 (.cons rfl r) q2
theorem C6 {pl:Sem Bool} (he:PE X o ta) (c:AE X.K C) (hm:C5 X.K C m f) (F:fF X.prog X.w X.K X.mg X.base CX k f fd ps sp) (hr:dW k X.A) (hb:Binds X.K fd ps ds) (hd:bj iw ds) (hx:eW CX X E)
  (ht:eval (.Call (.Attribute o m apos) [] [] pos) X.env=(do
   let ov <-eval o X.env
   standAt apos.atName
   let (f,first) <-holding [ov] (getMethod ov m pl)
   callWith pos f first (backTo pos (starEach [] X.env)) (backToKw pos (keywordEach [] X.env))):=by rfl):
  PE X (.Call (.Attribute o m apos) [] [] pos) (bY C m sp iw E ta tNil):=by
 intro pins s σ H Q I h
 refine PySem.W.methodCall_KW (pl:=pl) (cD (he pins s σ H _ I h) λu s1 dh=>?_) ht
 obtain⟨x,H1,I1,rx,a,dx,fs,ex,ea,l,q⟩:=dh
 subst ex
 obtain rfl:u=Value.ref a:=rx
 refine ql I1 ea c hm l ?_
 exact PySem.W.callWith_K0 (first:=[.ref a]) I1.pe hm.kp (zd (us:=[.ref a]) (vs:=[.ref a]) F hr hb hd hx I1 (.cons rfl .nil) q)
structure Mk (K:PySem.W.Frag) (C f:Addr):Prop where
 makes:PySem.W.makesIn K C=true
 init:PySem.W.findIn K (.ref C) "__init__"=some (some (.ref f))
 fn:PySem.W.isFn K (.ref f)=true
 kp:PySem.W.keepIn K (.ref C)=true
theorem C7 {pins:List (Addr×Obj)} {σ:St} {H:Hp} {s:Shared} {Q:VK} {us:List Value} {vs:List V} (M:Mk X.K C f) (F:fF X.prog X.w X.K X.mg X.base CX k f fd ps sp) (hr:dW (k+1) X.A) (hb:Binds X.K fd ps ds) (hd:bj iw ds)
  (hx:eW CX X E) (I:Inv X pins σ H s) (r:bj vs us)
  (h:∀x dx,H x=none->H dx=none->dx≠x->sp (.ref x::(vs++iw)) (upd (upd H dx (.own x)) x (.ins C dx [])) (λv H2=>v=.cP/\Q (.ref x) H2) E):
  wpAny (model X.prog X.w) X.A (call (.ref C) us) (EP X pins σ Q) X.xe s:=by
 have hq:=h (s.heap.objs.size+1) s.heap.objs.size (I.bR.fresh (Nat.le_succ _)) (I.bR.fresh (Yt _)) (YE (Zc _))
 have I2:=Inv.made (C:=C) I
 have r2:bj (V.ref (s.heap.objs.size+1)::(vs++iw)) (Value.ref (s.heap.objs.size+1)::(us++ds)):=.cons rfl (r.append hd)
 have hl:(Value.ref (s.heap.objs.size+1)::us++ds).length=ps.length:=by
  have e:=r2.length
  rw[F.len _ _ _ _ hq] at e
  exact e.symm
 refine wpAny_call (C4 (f:=f) I.pe M.makes M.init (beq_iff_eq.mp M.fn) (codeAny_mono (F.run _ X.stack _ _ ⟨Value.ref (s.heap.objs.size+1)::us,[]⟩ (Value.ref (s.heap.objs.size+1)::(us++ds)) _ _ E (hr.make C us [])
  (I2.Mb.make C us []) (hb _ (Value.ref (s.heap.objs.size+1)::us) I2.pe hl) r2 hq) λr s' sM=>?_))
 cases r with
 | error e=>exact hx pins σ _ _ e s' I2 sM
 | ok fl=>
  cases fl with
  | ret u=>
   obtain⟨v,H',I3,rv,ev,q3⟩:=I2.after sM
   subst ev
   exact⟨rv,⟨V.ref (s.heap.objs.size+1),H',I3,rfl,q3⟩⟩
  | next=>exact False.elim sM
  | brk=>exact False.elim sM
  | cont=>exact False.elim sM
theorem F2 (M:Mk X.K C f) (F:fF X.prog X.w X.K X.mg X.base CX k f fd ps sp) (hr:dW (k+1) X.A) (hg:Gl X x) (hm:X.mg x=some (.ref C)) (hb:Binds X.K fd ps ds) (hd:bj iw ds) (hx:eW CX X E)
  (ha:PA X (e::es) t) (BW:(x==("__debug__":Str))=false:=by decide) (he:starEach (e::es) X.env=(false,eval e X.env)::starEach es X.env:=by rfl) (hpl:(backTo pos (starEach es X.env)).any (·.1)=false:=by rfl):
  PE X (.Call (.Name x p) (e::es) [] pos) (wZ C sp iw E t):=by
 intro pins s σ H Q I h
 refine wpAny_Call_Name_kw (pT I hg hm ?_ BW)
 refine PySem.W.callWith_K (h₀:=X.base) I.ok.mod.Lo M.kp (cD (ha pos pins s σ H _ I h) λus s1 ⟨vs,H1,I1,r,q⟩=>⟨I1.pe,?_⟩) he hpl
 exact C7 M F hr hb hd hx I1 r q
end
section
variable {X : Cx} {CX : nz} {k : Nat} {f C : Addr} {fd : FuncData} {ps ks : List Str} {sp : Sp} {E : XK} {x m : Str} {p pos apos TQ : Pos} {e o : Expr} {es : List Expr} {W6 : List Keyword} {te ta : TE} {t tk : TA} {nm : Option Str}
structure OT (K:PySem.W.Frag) (fd:FuncData) (ps ks:List Str) (g:List Value->List Value->List Value) (gV:List V->List V->List V):Prop where
 to:∀(s:Shared) (us ws:List Value),K.In s.heap->(g us ws).length=ps.length->BindsTo s fd ⟨us,ks.zip ws⟩ (ps.zip (g us ws))
 rel:∀{vs:List V} {us:List Value} {zs:List V} {ws:List Value},bj vs us->bj zs ws->bj (gV vs zs) (g us ws)
variable {g : List Value -> List Value -> List Value} {gV : List V -> List V -> List V}
end
structure aT (N P:List Str) (sc:Scope):Prop where
 kind:sc.kind=.function
 co:sc.isCoroutine=false
 gen:sc.isGenerator=false
 nd:N.Nodup
 pre:N.take P.length=P
 par:∀x∈P,sc.names.lookup x=some .local\/sc.names.lookup x=some .cell
 IX:∀y∈sc.names,y.2≠.free
theorem uq {kindOf:Str->Option NameKind} {x:Str}:∀{binds:List (Str×Value)} {m:Str->Option Value},(∀v,(x,v)∉binds)->bindL kindOf binds m x=m x
 | [],_,_=>rfl
 | (n,v)::r,m,h=>by
  unfold bindL
  rw[uq λw hw=>h w (Yz _ hw)]
  split
  ·have:x≠n:=by rintro rfl;exact h v YA
   simp [this]
  ·rfl
theorem ur {kindOf:Str->Option NameKind} {x:Str}:∀{binds:List (Str×Value)} {m:Str->Option Value},(∀v,(x,v)∉binds)->bindC kindOf binds m x=m x
 | [],_,_=>rfl
 | (n,v)::r,m,h=>by
  unfold bindC
  rw[ur λw hw=>h w (Yz _ hw)]
  split
  ·rfl
  ·have:x≠n:=by rintro rfl;exact h v YA
   simp [this]
theorem uu {kindOf:Str->Option NameKind} {x:Str} {v:Value}:∀{P:List Str} {vs:List Value} {i:Nat} {m:Str->Option Value},P.Nodup->P[i]?=some x->vs[i]?=some v->kindOf x=some .local->
  bindL kindOf (P.zip vs) m x=some v
 | [],_,_,_,_,h,_,_=>by simp at h
 | _::_,[],_,_,_,_,h,_=>by simp at h
 | p::P,w::vs,0,m,nd,h1,h2,hk=>by
  simp at h1 h2;subst h1;subst h2
  show bindL kindOf ((p,w)::P.zip vs) m p=_
  unfold bindL
  rw[uq λv hv=>(List.nodup_cons.mp nd).1 (List.of_mem_zip hv).1,if_pos hk]
  simp
 | p::P,w::vs,i+1,m,nd,h1,h2,hk=>by
  show bindL kindOf ((p,w)::P.zip vs) m x=_
  unfold bindL
  exact uu (i:=i) (List.nodup_cons.mp nd).2 (by simpa using h1) (by simpa using h2) hk
theorem uv {kindOf:Str->Option NameKind} {x:Str} {v:Value}:∀{P:List Str} {vs:List Value} {i:Nat} {m:Str->Option Value},P.Nodup->P[i]?=some x->vs[i]?=some v->kindOf x≠some .local->
  bindC kindOf (P.zip vs) m x=some v
 | [],_,_,_,_,h,_,_=>by simp at h
 | _::_,[],_,_,_,_,h,_=>by simp at h
 | p::P,w::vs,0,m,nd,h1,h2,hk=>by
  simp at h1 h2;subst h1;subst h2
  show bindC kindOf ((p,w)::P.zip vs) m p=_
  unfold bindC
  rw[ur λv hv=>(List.nodup_cons.mp nd).1 (List.of_mem_zip hv).1,if_neg hk]
  simp
 | p::P,w::vs,i+1,m,nd,h1,h2,hk=>by
  show bindC kindOf ((p,w)::P.zip vs) m x=_
  unfold bindC
  exact uv (i:=i) (List.nodup_cons.mp nd).2 (by simpa using h1) (by simpa using h2) hk
noncomputable def start (N:List Str) (vs:List V):St:=vs.map some++List.replicate (N.length - vs.length) none
noncomputable def iA (CX:nz) (P:Program) (w:World) (K:PySem.W.Frag) (mg:Str->Option Value) (base:Heap) (N:List Str) (qual:Str) (scope:Scope) (f:Addr) (cd:Value) (A:Around) (outer:List Env) (s:Shared) (H:Hp) (E:XK):Cx where
 prog:=P
 w:=w
 K:=K
 mg:=mg
 base:=base
 A:=A.deeper (envOfC qual scope s.heap.objs.size f cd)
 N:=N
 s₀:=s
 H₀:=H
 env:=envOfC qual scope s.heap.objs.size f cd
 outer:=outer
 stack:=envOfC qual scope s.heap.objs.size f cd::outer
 ex:=[]
 calm:=true
 fn:=λ_=>true
 pn:=[]
 xe:=λe s'=>wpAny (model P w) (A.deeper (envOfC qual scope s.heap.objs.size f cd)) (leaving (envOfC qual scope s.heap.objs.size f cd) e) (λ_ ze=>CX outer H s E e ze) (λe' ze=>CX outer H s E e' ze) s'
theorem w6 {sc:Scope} {n:Nat} {x:Str} (h:sc.names.lookup x=some .cell):∃c,(cellsFrom n sc.names []).lookup x=some c:=by
 have q:=PySem.W.cellsFrom_some sc.names n [] (.inl h)
 exact Option.isSome_iff_exists.mp q
theorem BX {CX:nz} {P:Program} {w:World} {K:PySem.W.Frag} {mg:Str->Option Value} {base:Heap} {N ps:List Str} {qual:Str} {scope:Scope} {f:Addr} {cd:Value} {A:Around} {outer:List Env} {s s1:Shared} {H:Hp} {E:XK} {us:List Value} {vs:List V}
  (S:aT N ps scope) (hd:A.handled=none) (e0:zc P w K mg base A outer s H) (hl:vs.length=ps.length) (r:bj vs us)
  (x:InCallC s s.heap.objs.size (bindL (envOfC qual scope s.heap.objs.size f cd).kindOf (ps.zip us) λ_=>none) (cellsFrom (s.heap.objs.size+1) scope.names []) (bindC (envOfC qual scope s.heap.objs.size f cd).kindOf (ps.zip us) λ_=>none) s1):
  Inv (iA CX P w K mg base N qual scope f cd A outer s H E) [] (start N vs) H s1:=by
 have hpl:ps.length<=N.length:=by have:=congrArg List.length S.pre;rw[YK] at this;omega
 obtain⟨h1,tk,rfl,hk⟩:=x.done
 have Mc:∀b:Addr,b∉(iA CX P w K mg base N qual scope f cd A outer s H E).ex:=λb z=>absurd (show b∈([]:List Addr) from z) (by simp)
 refine⟨⟨e0.mod,S.kind,rfl,rfl,Yt _,λy z c h1 h2=>?_,λy hy=>?_,λy c _ h=>?_,λ_=>hd,Around.frames_deeper e0.frames,.inr ⟨rfl,rfl⟩,λb z=>absurd z (Mc b),e0.bs,e0.Fu,λb _ _=>Mc b,λb z=>absurd z (Mc b),e0.nh,e0.HC⟩,
  rfl,e0.bare,Un.kept hk,⟨_,x.toInCall.ns,λi y v h1 h2 h3=>?_⟩,λy c h=>⟨_,x.cell y c h⟩,e0.bR.fresh (Yt _),λy c h=>?_,λp hp=>absurd (show p∈([]:List (Addr×Obj)) from hp) (by simp),e0.bR.kept hk,?_⟩
 ·exact name_of_addr x.apart (Y8 h1) (Y8 h2)
 ·have hy:scope.names.lookup y=some .cell\/scope.names.lookup y=some .free:=hy
  rcases hy with hy | hy
  ·exact w6 hy
  ·exact absurd rfl (S.IX _ (Y8 hy))
 ·exact Nat.le_of_lt (x.above y c (Y8 h))
 ·have hi:i<vs.length:=by
   unfold start at h2
   by_cases hi:i<vs.length
   ·exact hi
   ·rw[Zk (by simpa using hi)] at h2
    rw[List.getElem?_replicate] at h2
    split at h2 <;>cases h2
  have ha:vs[i]?=some v:=by
   unfold start at h2
   rw[Zn (by simpa using hi),Yu] at h2
   cases e:vs[i]? with
   | none=>rw[e] at h2;cases h2
   | some a=>rw[e] at h2;cases h2;rfl
  obtain⟨u,hu,rv⟩:=r.get ha
  have hp:ps[i]?=some y:=by
   rw[<-S.pre,List.getElem?_take_of_lt (by omega)];exact h1
  have Rx:ps.Nodup:=by rw[<-S.pre];exact S.nd.sublist (List.take_sublist _ _)
  refine⟨u,rv,?_⟩
  rcases S.par y (YI hp) with k | k
  ·exact .inl ⟨k,uu Rx hp hu k⟩
  ·obtain⟨c,e⟩:=w6 (n:=s.heap.objs.size+1) k
   refine .inr ⟨.inl k,c,e,?_⟩
   have q:=x.cell y c e
   rw[uv Rx hp hu (by show scope.names.lookup y≠_;rw[k];decide)] at q
   exact q
 ·exact e0.bR.fresh (Nat.le_of_lt (x.above y c (Y8 h)))
 ·unfold start
  show _=N.length
  rw[Yy,Yr,List.length_replicate]
  omega
theorem HK {CX:nz} {P:Program} {w:World} {K:PySem.W.Frag} {mg:Str->Option Value} {base:Heap} {k:Nat} {f:Addr} {name qual:Str} {params:Arguments} {body:List Stmt} {scope:Scope} {dV kV doc pm bT ct oc:Value} {an od:Option Addr}
  {F3:Array (Option Value)} {N ps:List Str} {sp:Sp} (lk:K.lookup f=some ⟨oc,od,.func (PySem.W.fnOf name qual params body scope dV kV doc pm an bT ct),F3⟩) (BI:PySem.W.codeIn K bT qual=true) (S:aT N ps scope)
  (len:∀vs H Q E,sp vs H Q E->vs.length=ps.length)
  (xb:∀(A:Around) (outer:List Env) (s:Shared) (H:Hp) (vs:List V) (Q:VK) (E:XK),dW k (A.deeper (envOfC qual scope s.heap.objs.size f bT))->sp vs H Q E->
   ∃t,yR (iA CX P w K mg base N qual scope f bT A outer s H E) body t/\t {nx:=λ_ H'=>Q .cP H',rt:=Q} (start N vs) H):
  fF P w K mg base CX (k+1) f (PySem.W.fnOf name qual params body scope dV kV doc pm an bT ct) ps sp:=by
 refine⟨len,λA outer s H args us vs Q E hr e0 hb r Fx=>?_⟩
 have hl:=len _ _ _ _ Fx
 have KX:K.In s.heap:=e0.mod.Lo.keeps λb o e=>(e0.bs b o e).1
 have lim:s.heap.NoLimit:=e0.mod.nolimit.keeps λb o e=>(e0.bs b o e).1
 have Md:∀y∈ps.zip us,scope.names.lookup y.1=some .local\/(scope.names.lookup y.1=some .cell/\((cellsFrom (s.heap.objs.size+1) scope.names []).lookup y.1).isSome=true):=fun⟨n,v⟩ hy=>by
  rcases S.par n (List.of_mem_zip hy).1 with q | q
  ·exact .inl q
  ·exact .inr ⟨q,PySem.W.cellsFrom_some _ _ _ (.inl q)⟩
 refine codeAny_call_function hr.depth (KX _ _ lk) rfl S.co S.gen rfl (PySem.W.codeRec_of KX BI) (hb _ _ _ _ ?_)
 refine wpAny_newFunctionEnv_cells S.kind Md λenv he s1 x=>?_
 subst he
 refine⟨lim.keeps x.toInCall.keep,codeAny_func ?_⟩
 obtain⟨t,ht,hq⟩:=xb A outer s H vs Q E (hr.deeper _) Fx
 have I:Inv (iA CX P w K mg base N qual scope f bT A outer s H E) [] (start N vs) H s1:=BX S hr.hd e0 hl r x
 refine wpAny_mono (ht [] s1 (start N vs) H _ I hq) (λfl s' hs=>?_) λe s' hs=>hs
 have fin:∀{σ':St} {H':Hp} {v:V} {u:Value},Inv (iA CX P w K mg base N qual scope f bT A outer s H E) [] σ' H' s'->RelV v u->Q v H'->CE outer P w H s Q u s':=
  λ{σ' H' v u} J rv q=>⟨v,H',J.os,J.bare,J.base,J.bR,rv,q⟩
 cases fl with
 | ret u=>
  obtain⟨v,σ',H',J,rv,q⟩:=hs
  exact fin J rv q
 | next=>
  obtain⟨σ',H',J,q⟩:=hs
  exact fin (v:=V.cP) (u:=Value.none) J rfl q
 | brk=>
  obtain⟨_,_,_,q⟩:=hs
  exact False.elim q
 | cont=>
  obtain⟨_,_,_,q⟩:=hs
  exact False.elim q
end L2
namespace L2
open PySem PySem.Spec PyProof.Rows
section
variable {X : Cx} {x : Str} {p pos : Pos} {e : Expr} {es : List Expr} {t : TA} {id T : String} {r : List V -> Hp -> VK -> Prop}
noncomputable def tCB (r:List V->Hp->VK->Prop) (t:TA):TE:=λσ H Q=>t σ H λvs H1=>r vs H1 Q
theorem aX (hc:cX X (.builtin id) r) (hg:Gl X x) (hm:X.mg x=none) (hv:bootBuiltins x=some (.builtin id)) (ha:PA X (e::es) t) (hn:x≠"__name__":=by decide) (BW:(x==("__debug__":Str))=false:=by decide)
  (he:starEach (e::es) X.env=(false,eval e X.env)::starEach es X.env:=by rfl) (hpl:(backTo pos (starEach es X.env)).any (·.1)=false:=by rfl):PE X (.Call (.Name x p) (e::es) [] pos) (tCB r t):=by
 intro pins s σ H Q I h
 refine wpAny_Call_Name_kw (gu I hg hm hv ?_ hn BW)
 exact PyProof.Rows.callWith_builtin1 (cD (ha pos pins s σ H _ I h) λus s1 ⟨vs,H1,I1,r1,q1⟩=>hc pins s1 σ H1 vs us Q I1 r1 q1) he hpl
theorem dS (hc:cX X (.type T) r) (hg:Gl X x) (hm:X.mg x=none) (hv:bootBuiltins x=some (.type T)) (ha:PA X (e::es) t) (hn:x≠"__name__":=by decide) (BW:(x==("__debug__":Str))=false:=by decide)
  (he:starEach (e::es) X.env=(false,eval e X.env)::starEach es X.env:=by rfl) (hpl:(backTo pos (starEach es X.env)).any (·.1)=false:=by rfl):PE X (.Call (.Name x p) (e::es) [] pos) (tCB r t):=by
 intro pins s σ H Q I h
 refine wpAny_Call_Name_kw (gu I hg hm hv ?_ hn BW)
 exact Zm (cD (ha pos pins s σ H _ I h) λus s1 ⟨vs,H1,I1,r1,q1⟩=>hc pins s1 σ H1 vs us Q I1 r1 q1) he hpl
end
end L2
namespace HT
open PySem PyProof.Rows
section
open PySem.SeqAt
open PySem.AutoSeq1 (wpAny_loadPart')
open PySem.MeetsSeq PySem.MeetsSeq2 PySem.MeetsSeq3
end
section
variable {prog : Program} {w : World} {A : Around} {E : Value -> Shared -> Prop} {s : Shared}
noncomputable def zf (n d:Nat):Option Int->Nat
 | none=>d
 | some v=>if v<0 then (v+ (n:Int)).toNat else min v.toNat n
end
end HT
namespace L2
open PySem PySem.Spec PyProof.Rows
abbrev TO:=St->Hp->(Option Int->Hp->Prop)->Prop
noncomputable def PO (X:Cx) (e:Option Expr) (t:TO):Prop:=
 ∀(pins:List (Addr×Obj)) (s:Shared) (σ:St) (H:Hp) (Q:Option Int->Hp->Prop),Inv X pins σ H s->t σ H Q->
  wpAny (model X.prog X.w) X.A (evalPart e X.env) (λu s'=>∃o H',Inv X pins σ H' s'/\IsPart u o/\Q o H') X.xe s
noncomputable def tNoPart:TO:=λ_ H Q=>Q none H
noncomputable def tPart (t:TE):TO:=λσ H Q=>t σ H λx H1=>∃i,x=.int i/\Q (some i) H1
theorem intsAre_of {ns:List Int}:∀{us:List Value},bj (ns.map V.int) us->IntsAre us ns:=by
 induction ns with
 | nil=>intro us r;rw[YX] at r;cases r;exact .nil
 | cons n ns ih=>
  intro us r
  rw[Ys] at r
  cases r with
  | cons r1 r2=>
   obtain⟨t,e⟩:=r1
   subst e
   exact .cons n t (ih r2)
section
variable {X : Cx} {e : Expr} {te : TE} {lo hi : Option Expr} {tl th : TO} {pos p2 : Pos}
theorem AF:PO X none tNoPart:=by
 intro pins s σ H Q I h
 rw[evalPart_none]
 exact wpAny_pure ⟨none,H,I,.none,h⟩
theorem pV (h:PE X e te):PO X (some e) (tPart te):=by
 intro pins s σ H Q I hw
 rw[evalPart_some]
 refine cD (h pins s σ H _ I hw) λu s1 dh=>?_
 obtain⟨x,H1,I1,r1,q1⟩:=dh
 obtain⟨i,rfl,q⟩:=q1
 obtain⟨t,rfl⟩:=r1
 exact⟨some i,H1,I1,.int i t,q⟩
noncomputable def NX (X:Cx) (r:V->Option Int->Option Int->Hp->VK->Prop):Prop:=
 ∀(pins:List (Addr×Obj)) (s:Shared) (σ:St) (H:Hp) (x:V) (v vl vu:Value) (lo hi:Option Int) (sl:Addr) (Q:VK),Inv X pins σ H s->RelV x v->s.heap.IsSliceOf sl vl vu .none->IsPart vl lo->IsPart vu hi->r x lo hi H Q->
  ∃T id,typeLookup (.type T) "__getitem__"=pure (some (.builtin id))/\s.TypeIs v T/\wpAny (model X.prog X.w) X.A (getItem v (.ref sl)) (EP X pins σ Q) X.xe s
noncomputable def tSl (r:V->Option Int->Option Int->Hp->VK->Prop) (te:TE) (tl th:TO):TE:=λσ H Q=>te σ H λx H1=>tl σ H1 λl H2=>th σ H2 λu H3=>r x l u H3 Q
theorem qo {r:V->Option Int->Option Int->Hp->VK->Prop} (hr:NX X r) (he:PE X e te) (hl:PO X lo tl) (hu:PO X hi th):PE X (.Subscript e (.Slice lo hi none p2) pos) (tSl r te tl th):=by
 intro pins s σ H Q I h
 refine Subscript_ (cD (he pins s σ H _ I h) λv s1 dh=>?_)
 obtain⟨x,H1,I1,r1,q1⟩:=dh
 refine wpAny_Slice (cD (hl pins s1 σ H1 _ I1 q1) λvl s2 ⟨l,H2,I2,pl,q2⟩=>cD (hu pins s2 σ H2 _ I2 q2) λvu s3 dh=>?_)
 obtain⟨u,H3,I3,pu,q3⟩:=dh
 rw[evalPart_none]
 refine wpAny_pure ?_
 have I4:Inv X pins σ H3 {s3 with heap:=s3.heap.push {cls:=.type "slice",data:=.fields #[vl,vu,.none]}}:=I3.kept (t':=s3.toks) λb ob q=>Heap.get?_push_of_some _ q
 obtain⟨T,id,hT,ht,hg⟩:=hr pins {s3 with heap:=s3.heap.push {cls:=.type "slice",data:=.fields #[vl,vu,.none]}} σ H3 x v vl vu l u s3.heap.objs.size Q I4 r1 (Heap.IsSliceOf.new ..) pl pu q3
 show wpAny (model X.prog X.w) X.A (subscriptTail e (.Slice lo hi none p2) v (.ref s3.heap.objs.size)) (EP X pins σ Q) X.xe {s3 with heap:=s3.heap.push {cls:=.type "slice",data:=.fields #[vl,vu,.none]}}
 exact tail_any (ops:=[.ref s3.heap.objs.size,v]) ht hT hg (by with_unfolding_all rfl)
noncomputable def C8 (xs:List V) (lo hi:Option Int):List V:=(xs.drop (HT.zf xs.length 0 lo)).take (HT.zf xs.length xs.length hi - HT.zf xs.length 0 lo)
theorem xf (xs:List V) (lo hi:Option Int):(C8 xs lo hi).length<=xs.length:=by
 unfold C8
 rw[YK,List.length_drop]
 omega
end
end L2
namespace L2
open PySem PySem.Spec PyProof.Rows
noncomputable def C9 (n:Nat) (i:Int):Option Nat:=if 0<=i then (if i<n then some i.toNat else none) else if -(n:Int)<=i then some (i+n).toNat else none
noncomputable def lJ {α:Type} (xs:List α) (i:Int):Option α:=(C9 xs.length i).bind λj=>xs[j]?
theorem AG {n:Nat} {i:Int} {j:Nat} (h:C9 n i=some j):seqIndex? i n=some j/\j<n/\-(n:Int)<=i/\i<n:=by
 unfold C9 at h
 by_cases h0:0<=i
 ·rw[if_pos h0] at h
  by_cases h1:i<n
  ·rw[if_pos h1] at h
   have e:i.toNat=j:=YM h
   exact⟨by rw[seqIndex_of h0 h1,e],by omega,by omega,h1⟩
  ·rw[if_neg h1] at h;cases h
 ·rw[if_neg h0] at h
  by_cases h1:-(n:Int)<=i
  ·rw[if_pos h1] at h
   have e:(i+n).toNat=j:=YM h
   exact⟨by rw[seqIndex_neg (by omega) h1,e],by omega,h1,by omega⟩
  ·rw[if_neg h1] at h;cases h
theorem u7 {α:Type} {xs:List α} {i:Int} {v:α} (h:lJ xs i=some v):∃j,seqIndex? i xs.length=some j/\xs[j]?=some v/\j<xs.length/\-(xs.length:Int)<=i/\i<xs.length:=by
 unfold lJ at h
 cases e:C9 xs.length i with
 | none=>rw[e] at h;cases h
 | some j=>
  rw[e] at h
  obtain⟨h1,h2,h3,h4⟩:=AG e
  exact⟨j,h1,h,h2,h3,h4⟩
theorem bP {α:Type} {xs:List α} {j:Nat} {v:α} (h:xs[j]?=some v):lJ xs (j:Int)=some v:=by
 have hj:j<xs.length:=(List.getElem?_eq_some_iff.mp h).1
 have e:C9 xs.length (j:Int)=some j:=by
  unfold C9
  rw[if_pos (by omega),if_pos (by omega)];simp
 unfold lJ;rw[e];exact h
noncomputable def F4 (b:Expr):Prop:=∀o i,subscripted b false o i=operate [o,i] (getItem o i)
noncomputable def Fy (X:Cx) (r:R2):Prop:=
 ∀(value slice:Expr) (pins:List (Addr×Obj)) (s:Shared) (σ:St) (H:Hp) (x y:V) (v u:Value) (Q:VK),Inv X pins σ H s->RelV x v->RelV y u->r x y H Q->
  subscripted slice false v u=operate [v,u] (getItem v u)->wpAny (model X.prog X.w) X.A (subscriptTail value slice v u) (EP X pins σ Q) X.xe s
noncomputable def IY (X:Cx) (id:String) (r:V->List V->Hp->VK->Prop):Prop:=
 ∀(pins:List (Addr×Obj)) (s:Shared) (σ:St) (H:Hp) (x:V) (xs:List V) (v:Value) (us:List Value) (Q:VK),Inv X pins σ H s->RelV x v->bj xs us->r x xs H Q->
  wpAny (model X.prog X.w) X.A (call (.builtin id) (v::us)) (EP X pins σ Q) X.xe s
section
variable {X : Cx} {a b : Expr} {ta tb : TE} {pos : Pos}
theorem aq {r:R2} (hr:Fy X r) (ha:PE X a ta) (hb:PE X b tb) (hs:F4 b):PE X (.Subscript a b pos) (tOp r ta tb):=by
 intro pins s σ H Q I h
 exact Subscript_ (IV ha hb I h λv u s2 x y H2 I2 rx ry q=>hr a b pins s2 σ H2 x y v u Q I2 rx ry q (hs _ _))
noncomputable def OU (K:PySem.W.Frag):R2:=λx y H Q=>∃p xs i v,x=.ref p/\y=.int i/\bI K H p xs/\lJ xs i=some v/\Q v H
noncomputable def OV (K:PySem.W.Frag):R2:=λx y H Q=>∃p xs i v,x=.ref p/\y=.int i/\jn K H p xs/\lJ xs i=some v/\Q v H
noncomputable def IZ:R2:=λx y H Q=>∃z i c,x=.str z/\y=.int i/\z.length<=sizeLine/\lJ z.cps.toList i=some c/\Q (.str ⟨#[c]⟩) H
theorem AH:Fy X (OU X.K):=by
 intro value slice pins s σ H x y v u Q I rx ry h hs
 obtain⟨p,xs,i,z,rfl,rfl,hq,he,q⟩:=h
 cases rx
 obtain⟨t,rfl⟩:=ry
 obtain⟨a6,r,pl,hz⟩:=I.list hq
 obtain⟨j,h1,h2,h3,h4,h5⟩:=u7 he
 obtain⟨w,ew,BL⟩:=r.get h2
 have hl:=r.length
 have hn:=qj
 have fin:EP X pins σ Q w s:=⟨z,H,I,BL,q⟩
 by_cases h0:0<=i
 ·have hj:i.toNat=j:=by
   rw[seqIndex_of h0 h5] at h1
   exact YM h1
  exact item_listR pl.isList h0 (by omega) (by rw[hj];simpa using ew) fin hs
 ·have hj:(i+ (a6.toArray.size:Int)).toNat=j:=by
   rw[seqIndex_neg (by omega) h4] at h1
   rw[Yv,<-hl]
   exact YM h1
  exact subscriptTail_builtinR (x:=w) pl.isList.typeIs slot_list_getitem.lookup
   (wpAny_getItem_list_neg (Q:=λr s'=>r=w/\EP X pins σ Q r s') pl.isList (by omega) (by rw[Yv] <;>omega) (by omega) (by rw[hj];simpa using ew) ⟨rfl,fin⟩) hs
theorem I0:Fy X (OV X.K):=by
 intro value slice pins s σ H x y v u Q I rx ry h hs
 obtain⟨p,xs,i,z,rfl,rfl,hq,he,q⟩:=h
 cases rx
 obtain⟨t,rfl⟩:=ry
 obtain⟨a6,r,pl,hz⟩:=I.tuple hq
 obtain⟨j,h1,h2,h3,h4,h5⟩:=u7 he
 obtain⟨w,ew,BL⟩:=r.get h2
 have hl:=r.length
 have hn:=qj
 have fin:EP X pins σ Q w s:=⟨z,H,I,BL,q⟩
 exact subscriptTail_builtinR (x:=w) pl.typeIs slot_tuple_getitem.lookup
  (getItem_tuple (j:=j) (Q:=λr s'=>r=w/\EP X pins σ Q r s') pl (by omega) (by omega) (by rw[Yv,<-hl];exact h1) (by simpa using ew) ⟨rfl,fin⟩) hs
theorem Ja:Fy X IZ:=by
 intro value slice pins s σ H x y v u Q I rx ry h hs
 obtain⟨z,i,c,rfl,rfl,hz,he,q⟩:=h
 obtain⟨t,rfl⟩:=rx
 obtain⟨t',rfl⟩:=ry
 obtain⟨j,h1,h2,h3,h4,h5⟩:=u7 he
 have hl:z.cps.toList.length=z.length:=by simp [Str.length]
 rw[hl] at h1 h4 h5
 have hn:=qj
 exact tail_any (typeIs_str s z t) slot_str_getitem.lookup (getItem_str (c:=c) (by
  have e1:decide (i < -(2^63:Int))=false:=decide_eq_false (by omega)
  have e2:decide (i≥2^63)=false:=decide_eq_false (by omega)
  rw[e1,e2,Bool.or_false]) (by rw[h1];simpa using h2) ⟨.str ⟨#[c]⟩,H,I.tok _,⟨_,rfl⟩,q⟩) hs
theorem zg (a6:List Value) (n j:Nat) (u:Value):Obj.mapSeq (·.setIfInBounds j u) {cls:=.type "list",data:=.seq a6.toArray n}={cls:=.type "list",data:=.seq (a6.set j u).toArray n}:=by
 simp [Obj.mapSeq]
theorem Inv.lst {pins:List (Addr×Obj)} {σ:St} {H:Hp} {s:Shared} {p:Addr} {xs:List V} (I:Inv X pins σ H s) (h:H p=some (.lst xs)):
  ∃(a6:List Value) (n:Nat),bj xs a6/\s.heap.get? p=some {cls:=.type "list",data:=.seq a6.toArray n}/\xs.length<=sizeLine:=by
 obtain⟨z,a6,n,r,e⟩:=I.bR p _ h
 exact⟨a6,n,r,e,z⟩
theorem Inv.Jb {pins:List (Addr×Obj)} {σ:St} {H:Hp} {s:Shared} {p:Addr} {xs ys:List V} {a6 its':List Value} {n n':Nat} {f:Obj->Obj} (I:Inv X pins σ H s) (h:H p=some (.lst xs))
  (ho:s.heap.get? p=some {cls:=.type "list",data:=.seq a6.toArray n}) (hf:f {cls:=.type "list",data:=.seq a6.toArray n}={cls:=.type "list",data:=.seq its'.toArray n'}) (r:bj ys its') (hz:ys.length<=sizeLine) (t:Nat):
  Inv X pins σ (upd H p (.lst ys)) {s with heap:=s.heap.update p f,toks:=t}:=by
 have e:(s.heap.update p f).get? p=some {cls:=.type "list",data:=.seq its'.toArray n'}:=by
  rw[Heap.get?_update_self f ho (by rw[hf] <;>rfl),hf]
 refine I.write (x:=p) (e:=p) (by rw[h];trivial) (.inl rfl) (λb u hb q=>(Heap.get?_update_other _ _ (Ne.symm hb)).trans q) ⟨_,e⟩ ?_
 exact⟨hz,its',n',r,e⟩
noncomputable def rSetL:V->V->V->Hp->(Hp->Prop)->Prop:=λo i v H Q=>∃p xs k j,o=.ref p/\i=.int k/\H p=some (.lst xs)/\C9 xs.length k=some j/\Q (upd H p (.lst (xs.set j v)))
theorem set_list:L4 X rSetL:=by
 intro pins s σ H o i v ov iv u Q I ro ri rv h
 obtain⟨p,xs,k,j,rfl,rfl,hp,hj,q⟩:=h
 cases ro
 obtain⟨t,rfl⟩:=ri
 obtain⟨a6,n,r,ho,hz⟩:=I.lst hp
 obtain⟨h1,h2,h3,h4⟩:=AG hj
 have hl:=r.length
 have hn:=qj
 have I':Inv X pins σ (upd H p (.lst (xs.set j v))) {s with heap:=s.heap.update p (Obj.mapSeq (·.setIfInBounds j u))}:=
  I.Jb hp ho (zg a6 n j u) (r.set rv j) (by rw[List.length_set];exact hz) s.toks
 by_cases h0:0<=k
 ·have hk:k.toNat=j:=by
   rw[seqIndex_of h0 h4] at h1
   exact YM h1
  exact PySem.W.ki_setAt ho h0 (by omega) (by rw[Yv,<-hl];exact h4) (by rw[hk];exact⟨_,I',q⟩)
 ·have hk:(k+ (a6.toArray.size:Int)).toNat=j:=by
   rw[seqIndex_neg (by omega) h3] at h1
   rw[Yv,<-hl]
   exact YM h1
  exact PySem.W.ki_setBack ho (by omega) (by rw[Yv,<-hl];exact h3) (by omega) (by rw[hk];exact⟨_,I',q⟩)
theorem u9 (lo hi:Option Int) (n:Nat):(sliceBounds lo hi none n).1=((HT.zf n 0 lo:Nat):Int)/\(sliceBounds lo hi none n).2.1=((HT.zf n n hi:Nat):Int)/\(sliceBounds lo hi none n).2.2=1:=by
 refine⟨?_,?_,rfl⟩
 ·cases lo with
  | none=>simp [sliceBounds,HT.zf]
  | some i=>
   simp only[sliceBounds,HT.zf,Option.getD_none,show(1:Int) >0 by decide,if_true]
   by_cases h:i<0
   ·simp only[h,if_true] <;>omega
   ·simp only[h,if_false] <;>omega
 ·cases hi with
  | none=>simp [sliceBounds,HT.zf]
  | some i=>
   simp only[sliceBounds,HT.zf,Option.getD_none,show(1:Int) >0 by decide,if_true]
   by_cases h:i<0
   ·simp only[h,if_true] <;>omega
   ·simp only[h,if_false] <;>omega
theorem sR (a6:List Value) (lo hi:Option Int):slicePick a6.toArray lo hi none=((a6.drop (HT.zf a6.length 0 lo)).take (HT.zf a6.length a6.length hi - HT.zf a6.length 0 lo)).toArray:=by
 obtain⟨h1,h2,h3⟩:=u9 lo hi a6.toArray.size
 unfold slicePick
 rw[h1,h2,h3]
 simp only[sliceRange_one,pick_run,Yv] <;>rfl
noncomputable def rSlL (K:PySem.W.Frag):V->Option Int->Option Int->Hp->VK->Prop:=λx lo hi H Q=>∃a xs,x=.ref a/\bI K H a xs/\∀p,H p=none->Q (.ref p) (upd H p (.lst (C8 xs lo hi)))
theorem F5:NX X (rSlL X.K):=by
 intro pins s σ H x v vl vu lo hi sl Q I rx hs pl pu h
 obtain⟨a,xs,rfl,hx,q⟩:=h
 cases rx
 obtain⟨a6,r,ht,hz⟩:=I.list hx
 have hlen:=r.length
 refine⟨"list",_,slot_list_getitem.lookup,ht.isList.typeIs,?_⟩
 refine wpAny_getItem_list_slice ht.isList hs pl pu .none (by simp) ?_ (by rw[Yv] <;>omega)
 rw[sR,<-hlen]
 refine⟨.ref s.heap.objs.size,_,I.laid (t':=s.toks) (o:=.lst (C8 xs lo hi)) (λb ob q=>Heap.get?_push_of_some _ q) (Yt _) ?_,rfl,q _ (I.bR.fresh (Yt _))⟩
 exact⟨YB (xf xs lo hi) hz,_,0,(r.drop (HT.zf xs.length 0 lo)).take (HT.zf xs.length xs.length hi - HT.zf xs.length 0 lo),Heap.get?_push_size _ rfl⟩
noncomputable def fG:V->Bool
 | .cP=>true
 | .bl _=>true
 | .int _=>true
 | .str _=>true
 | _=>false
noncomputable def Dc:V->V->Bool
 | .cP,.cP=>true
 | .bl a,.bl b=>a==b
 | .bl a,.int b=>(if a then 1 else 0)==b
 | .int a,.bl b=>a==(if b then 1 else 0)
 | .int a,.int b=>a==b
 | .str a,.str b=>a==b
 | _,_=>false
theorem Jc {A:Around} {s:Shared} {y x:V} {u v:Value} (ry:RelV y u) (rx:RelV x v) (fy:fG y=true) (fx:fG x=true):SeqAt.EqAt A s u v (Dc y x):=by
 cases y with
 | cP=>
  cases ry
  cases x with
  | cP=>cases rx;exact SeqAt.EqAt.same _
  | bl b=>cases rx;exact SeqAt.EqAt.none_bool b
  | int b=>obtain⟨t,rfl⟩:=rx;exact SeqAt.EqAt.none_int b t
  | str b=>obtain⟨t,rfl⟩:=rx;exact SeqAt.EqAt.none_str b t
  | _=>exact absurd (show false=true from fx) YF
 | bl a=>
  cases ry
  cases x with
  | cP=>cases rx;exact SeqAt.EqAt.bool_none a
  | bl b=>cases rx;exact SeqAt.EqAt.bool_bool a b
  | int b=>obtain⟨t,rfl⟩:=rx;exact SeqAt.EqAt.bool_int a b t
  | str b=>obtain⟨t,rfl⟩:=rx;exact SeqAt.EqAt.bool_str a b t
  | _=>exact absurd (show false=true from fx) YF
 | int a=>
  obtain⟨t',rfl⟩:=ry
  cases x with
  | cP=>cases rx;exact SeqAt.EqAt.int_none a t'
  | bl b=>cases rx;exact SeqAt.EqAt.int_bool a t' b
  | int b=>obtain⟨t,rfl⟩:=rx;exact SeqAt.EqAt.int_int a t' b t
  | str b=>obtain⟨t,rfl⟩:=rx;exact SeqAt.EqAt.int_str a t' b t
  | _=>exact absurd (show false=true from fx) YF
 | str a=>
  obtain⟨t',rfl⟩:=ry
  cases x with
  | cP=>cases rx;exact SeqAt.EqAt.str_none a t'
  | bl b=>cases rx;exact SeqAt.EqAt.str_bool a t' b
  | int b=>obtain⟨t,rfl⟩:=rx;exact SeqAt.EqAt.str_int a t' b t
  | str b=>obtain⟨t,rfl⟩:=rx;exact SeqAt.EqAt.str_str a t' b t
  | _=>exact absurd (show false=true from fx) YF
 | _=>exact absurd (show false=true from fy) YF
noncomputable def zh (x:V) (u:Value):Bool:=match u with
 | .none=>Dc .cP x
 | .bool b=>Dc (.bl b) x
 | .int i _=>Dc (.int i) x
 | .str z _=>Dc (.str z) x
 | _=>false
theorem De {x y:V} {u:Value} (r:RelV y u) (f:fG y=true):zh x u=Dc y x:=by
 cases y with
 | cP=>cases r;rfl
 | bl b=>cases r;rfl
 | int i=>obtain⟨t,rfl⟩:=r;rfl
 | str z=>obtain⟨t,rfl⟩:=r;rfl
 | _=>exact absurd (show false=true from f) YF
theorem lK {x:V}:∀{xs:List V} {us:List Value},bj xs us->xs.all fG=true->us.any (zh x)=xs.any λy=>Dc y x
 | _,_,.nil,_=>rfl
 | y::xs,u::us,.cons r t,f=>by
  rw[List.all_cons,YY] at f
  rw[List.any_cons,List.any_cons,De r f.1,lK t f.2]
theorem iB {A:Around} {s:Shared} {x:V} {v:Value} (rx:RelV x v) (fx:fG x=true):∀{xs:List V} {us:List Value},bj xs us->xs.all fG=true->∀u∈us,SeqAt.EqAt A s u v (zh x u)
 | _,_,.nil,_=>λu hu=>by cases hu
 | y::xs,u::us,.cons r t,f=>λu' hu=>by
  rw[List.all_cons,YY] at f
  rcases List.mem_cons.mp hu with rfl | hu
  ·rw[De r f.1];exact Jc r rx f.1 fx
  ·exact iB rx fx t f.2 u' hu
noncomputable def HL (x:V) (xs:List V):Bool:=xs.any λy=>Dc y x
noncomputable def OW (K:PySem.W.Frag) (neg:Bool):R2:=λx y H Q=>∃p xs,y=.ref p/\(bI K H p xs\/jn K H p xs)/\fG x=true/\xs.all fG=true/\Q (.bl (if neg then !HL x xs else HL x xs)) H
theorem BY:jo X (compareOp .In) (OW X.K false):=by
 intro pins s σ H x y v u Q I rx ry h
 obtain⟨p,xs,rfl,hq,fx,fs,q⟩:=h
 cases ry
 rcases hq with hq | hq
 ·obtain⟨a6,r,pl,hz⟩:=I.list hq
  refine SeqAt.in_listAt (zh x) pl.isList (λw hw=>iB rx fx r fs w (by simpa using hw)) ⟨.bl _,H,I,rfl,?_⟩
  rw[show a6.toArray.any (zh x)=a6.any (zh x) by simp,lK r fs]
  exact q
 ·obtain⟨a6,r,pl,hz⟩:=I.tuple hq
  refine SeqAt.in_tupleAt (zh x) pl (λw hw=>iB rx fx r fs w (by simpa using hw)) ⟨.bl _,H,I,rfl,?_⟩
  rw[show a6.toArray.any (zh x)=a6.any (zh x) by simp,lK r fs]
  exact q
theorem va:jo X (compareOp .NotIn) (OW X.K true):=by
 intro pins s σ H x y v u Q I rx ry h
 obtain⟨p,xs,rfl,hq,fx,fs,q⟩:=h
 cases ry
 rcases hq with hq | hq
 ·obtain⟨a6,r,pl,hz⟩:=I.list hq
  refine SeqAt.notIn_listAt (zh x) pl.isList (λw hw=>iB rx fx r fs w (by simpa using hw)) ⟨.bl _,H,I,rfl,?_⟩
  rw[show a6.toArray.any (zh x)=a6.any (zh x) by simp,lK r fs]
  exact q
 ·obtain⟨a6,r,pl,hz⟩:=I.tuple hq
  refine SeqAt.notIn_tupleAt (zh x) pl (λw hw=>iB rx fx r fs w (by simpa using hw)) ⟨.bl _,H,I,rfl,?_⟩
  rw[show a6.toArray.any (zh x)=a6.any (zh x) by simp,lK r fs]
  exact q
theorem lL:cX X (.builtin "len") (λxs H Q=>∃p ys,xs=[.ref p]/\(bI X.K H p ys\/jn X.K H p ys)/\Q (.int ys.length) H):=by
 intro pins s σ H xs us Q I r h
 obtain⟨p,ys,rfl,hq,q⟩:=h
 obtain⟨u,rfl,rx⟩:=vals1 r
 cases rx
 have hn:=qj
 rcases hq with hq | hq
 ·obtain⟨a6,r',pl,hz⟩:=I.list hq
  have hlen:=r'.length
  exact Calls.call_len_list pl.isList (by simp only[Yv] <;>omega) ⟨.int ys.length,H,I.tok _,⟨s.toks+1,by rw[Yv,hlen]⟩,q⟩
 ·obtain⟨a6,r',pl,hz⟩:=I.tuple hq
  have hlen:=r'.length
  exact len_tuple pl (by simp only[Yv] <;>omega) ⟨.int ys.length,H,I.tok _,⟨s.toks+1,by rw[Yv,hlen]⟩,q⟩
theorem vb:cX X (.type "list") (λxs H Q=>∃p ys,xs=[.ref p]/\(bI X.K H p ys\/jn X.K H p ys)/\∀l,H l=none->Q (.ref l) (upd H l (.lst ys))):=by
 intro pins s σ H xs us Q I r h
 obtain⟨p,ys,rfl,hq,q⟩:=h
 obtain⟨u,rfl,rx⟩:=vals1 r
 cases rx
 have fin:∀(a6:List Value),bj ys a6->ys.length<=sizeLine->∀(h':Heap) (c':Nat),(∀b o',s.heap.get? b=some o'->h'.get? b=some o')->
   h'.get? s.heap.objs.size=some {cls:=.type "list",dict:=none,data:=.seq a6.toArray c',slots:=#[]}->EP X pins σ Q (.ref s.heap.objs.size) {s with heap:=h'}:=λa6 r' hz h' c' kp e=>
  ⟨.ref s.heap.objs.size,_,I.laid (t':=s.toks) kp (Yt _) (show cF X.prog X.w _ h' _ (.lst ys) from⟨hz,a6,c',r',e⟩),rfl,q _ (I.bR.fresh (Yt _))⟩
 rcases hq with hq | hq
 ·obtain⟨a6,r',pl,hz⟩:=I.list hq
  have hlen:=r'.length
  obtain⟨o,ho,hc,n,hd⟩:=pl.isList
  exact call_list_seq p (.inl rfl) ho hc hd (λh' c' kp e=>fin a6 r' hz h' c' kp e) (by simp only[Yv] <;>omega)
 ·obtain⟨a6,r',pl,hz⟩:=I.tuple hq
  have hlen:=r'.length
  obtain⟨o,ho,hc,n,hd⟩:=pl
  exact call_list_seq p (.inr rfl) ho hc hd (λh' c' kp e=>fin a6 r' hz h' c' kp e) (by simp only[Yv] <;>omega)
noncomputable def NY (K:PySem.W.Frag) (T:String) (x:V) (H:Hp):Prop:=match x with
 | .str _=>T="str"
 | .int _=>T="int"
 | .ref p=>(T="list"/\∃xs,bI K H p xs)\/(T="tuple"/\∃o,K.lookup p=some o/\o.cls=.type "tuple"/\o.dict=none)\/
   (T="dict"/\((∃kvs,H p=some (.dK kvs))\/∃kvs,H p=some (.dT kvs)))\/(T="set"/\∃S n,H p=some (.set S n))
 | _=>False
theorem zi {pins:List (Addr×Obj)} {σ:St} {H:Hp} {s:Shared} {T:String} {x:V} {v:Value} (I:Inv X pins σ H s) (r:RelV x v) (ty:NY X.K T x H):
  s.TypeIs v T/\∀a,v=.ref a->∃ob,s.heap.get? a=some ob/\ob.dict=none:=by
 cases x with
 | str z=>
  obtain⟨t,rfl⟩:=r
  cases (show T="str" from ty)
  exact⟨typeIs_str s z t,λ_ e=>nomatch e⟩
 | int i=>
  obtain⟨t,rfl⟩:=r
  cases (show T="int" from ty)
  exact⟨typeIs_int s i t,λ_ e=>nomatch e⟩
 | ref p=>
  cases r
  rcases ty with ⟨rfl,xs,hq⟩ | ⟨rfl,o,hk,hc,hd⟩ | ⟨rfl,hk⟩ | ⟨rfl,S,n,hk⟩
  ·obtain⟨a6,_,pl,_⟩:=I.list hq
   refine⟨pl.isList.typeIs,λa e=>?_⟩
   cases e
   obtain⟨o,n,e,c,hd,_⟩:=pl
   exact⟨o,e,hd⟩
  ·refine⟨⟨o,I.pe p o hk,hc⟩,λa e=>?_⟩
   cases e
   exact⟨o,I.pe _ o hk,hd⟩
  ·have z:∃o,s.heap.get? p=some o/\o.ExactDict:=by
    rcases hk with ⟨kvs,hk⟩ | ⟨kvs,hk⟩
    ·obtain⟨_,_,_,_,o,_,_,e,ex,_⟩:=I.bR p _ hk
     exact⟨o,e,ex⟩
    ·obtain⟨_,_,_,_,o,_,_,e,ex,_⟩:=I.bR p _ hk
     exact⟨o,e,ex⟩
   obtain⟨o,e,ex⟩:=z
   refine⟨⟨o,e,ex.1⟩,λa e2=>?_⟩
   cases e2
   exact⟨o,e,ex.2.1⟩
  ·obtain⟨o,_,_,_,e,ex,_⟩:=I.bR p _ hk
   refine⟨⟨o,e,ex.1⟩,λa e2=>?_⟩
   cases e2
   exact⟨o,e,ex.2.1⟩
 | _=>exact False.elim ty
noncomputable def F6 (K:PySem.W.Frag) (T:String) (r:V->List V->Hp->VK->Prop) (to:TE):TE:=λσ H Q=>to σ H λx H1=>NY K T x H1/\r x [] H1 Q
noncomputable def tBM (K:PySem.W.Frag) (T:String) (r:V->List V->Hp->VK->Prop) (to:TE) (t:TA):TE:=λσ H Q=>to σ H λx H1=>NY K T x H1/\t σ H1 λxs H2=>r x xs H2 Q
variable {o e : Expr} {es : List Expr} {to : TE} {t : TA} {name : Str} {apos dB : Pos} {T id : String} {r : V -> List V -> Hp -> VK -> Prop}
theorem zj (pa:PlainAttrs T) (slot:Slot T name id) (OX:typeOf (.builtin id)=pure (.type "method_descriptor")) (hm:IY X id r) (ho:PE X o to)
  (xg:attributeBase o name X.env (eval o X.env)=eval o X.env:=by rfl) (xh:(apos.endLine==dB.line)=true:=by rfl):PE X (.Call (.Attribute o name apos) [] [] dB) (F6 X.K T r to):=by
 intro pins s σ H Q I h
 refine wpAny_Call_method0_late xg xh (cD (ho pins s σ H _ I h) λv s1 dh=>?_)
 obtain⟨x,H1,I1,r1,ty,q1⟩:=dh
 obtain⟨h1,h2⟩:=zi I1 r1 ty
 exact⟨T,id,pa,slot,OX,h1,h2,Calls.callWith_builtin rfl (PySem.evalArgs_none (hm pins s1 σ H1 x [] v [] Q I1 r1 .nil q1))⟩
theorem fH (pa:PlainAttrs T) (slot:Slot T name id) (OX:typeOf (.builtin id)=pure (.type "method_descriptor")) (hm:IY X id r) (ho:PE X o to) (ha:PA X (e::es) t)
  (xg:attributeBase o name X.env (eval o X.env)=eval o X.env:=by rfl)
  (OY:((backTo dB (starEach (e::es) X.env)).all (λx=>!x.1) && (backToKw dB (keywordEach [] X.env)).all (λx=>x.1.isSome)
   && decide ((e::es).length+ ([]:List Keyword).length+ (if ([]:List Keyword).isEmpty then 0 else 1)<30))=true:=by rfl)
  (xh:(apos.endLine==dB.line)=true:=by rfl) (hs:starEach (e::es) X.env=(false,eval e X.env)::starEach es X.env:=by rfl) (Jd:(backTo dB (starEach es X.env)).any (·.1)=false:=by rfl):
  PE X (.Call (.Attribute o name apos) (e::es) [] dB) (tBM X.K T r to t):=by
 intro pins s σ H Q I h
 refine wpAny_Call_method_late xg OY xh rfl (cD (ho pins s σ H _ I h) λv s1 dh=>?_)
 obtain⟨x,H1,I1,r1,ty,q1⟩:=dh
 obtain⟨h1,h2⟩:=zi I1 r1 ty
 refine⟨T,id,pa,slot,OX,h1,h2,?_⟩
 have hA:=ha dB pins s1 σ H1 _ I1 q1
 rw[hs] at hA ⊢
 refine Calls.callWith_builtin (by show(false || (backTo dB (starEach es X.env)).any (·.1))=false;rw[Jd] <;>rfl) (Calls.evalArgs_plain ?_)
 exact cD hA λus s2 ⟨vs,H2,I2,r2,q2⟩=>hm pins s2 σ H2 x vs v us Q I2 r1 r2 q2
end
end L2
namespace L2
open PySem PySem.Spec PyProof.Rows
noncomputable def Je (X:Cx) (id:String) (r:V->List V->Hp->VK->Prop):Prop:=
 ∀(pins:List (Addr×Obj)) (s:Shared) (σ:St) (H:Hp) (x:V) (xs:List V) (v:Value) (us:List Value) (Q:VK),Inv X pins σ H s->RelV x v->bj xs us->r x xs H Q->
  wpAny (model X.prog X.w) X.A (call (.builtin id) (v::us)) (EP X pins σ Q) X.xe s
theorem bj.one:∀{x:V} {us:List Value},bj [x] us->∃u,us=[u]/\RelV x u
 | _,_,.cons r .nil=>⟨_,rfl,r⟩
theorem bj.zero:∀{us:List Value},bj [] us->us=[]
 | _,.nil=>rfl
theorem bj.dropLast {xs:List V} {us:List Value} (h:bj xs us):bj xs.dropLast us.dropLast:=by
 induction h with
 | nil=>exact .nil
 | cons r t ih=>
  cases t with
  | nil=>exact .nil
  | cons q t'=>exact .cons r ih
theorem bj.reverse {xs:List V} {us:List Value} (h:bj xs us):bj xs.reverse us.reverse:=by
 induction h with
 | nil=>exact .nil
 | cons r t ih=>rw[List.reverse_cons,List.reverse_cons];exact bj.append ih (.cons r .nil)
theorem bj.rep {xs:List V} {us:List Value} (h:bj xs us):∀k:Nat,bj (List.replicate k xs).flatten (List.replicate k us).flatten
 | 0=>.nil
 | k+1=>by
  rw[Zl,Zl,List.flatten_cons,List.flatten_cons]
  exact bj.append h (bj.rep h k)
theorem zk {α:Type} (l:List α):l.eraseIdx (l.length - 1)=l.dropLast:=by
 induction l with
 | nil=>rfl
 | cons a r ih=>
  cases r with
  | nil=>rfl
  | cons b r=>
   have e:(a::b::r).length - 1=((b::r).length - 1)+1:=by
    have h1:(a::b::r).length=r.length+2:=rfl
    have h2:(b::r).length=r.length+1:=rfl
    omega
   rw[e,List.eraseIdx_cons_succ,ih]
   all_goals rfl
theorem foldl_rep (a6:List Value):∀(k:Nat) (acc:List Value),
  List.foldl (λx1 x2=>x1++x2) acc.toArray (List.replicate k a6.toArray)=(acc++ (List.replicate k a6).flatten).toArray
 | 0,acc=>by simp
 | k+1,acc=>by
  have e:acc.toArray++a6.toArray=(acc++a6).toArray:=by simp
  have e2:(acc++a6)++ (List.replicate k a6).flatten=acc++ (List.replicate (k+1) a6).flatten:=by
   rw[Zl,List.flatten_cons,List.append_assoc]
  rw[<-e2,<-foldl_rep a6 k (acc++a6),<-e,Zl,List.foldl_cons]
section
variable {X : Cx} {pins : List (Addr × Obj)} {σ : St} {H : Hp} {s : Shared} {l b : Addr} {xs ys zs : List V}
theorem Inv.F7 {a6 its':List Value} {n:Nat} {f:Array Value->Array Value} {t':Nat} (I:Inv X pins σ H s) (hH:H l=some (.lst xs))
  (e:s.heap.get? l=some {cls:=.type "list",data:=.seq a6.toArray n}) (hf:f a6.toArray=its'.toArray) (hv:bj ys its') (hz:ys.length<=sizeLine):
  Inv X pins σ (upd H l (.lst ys)) {s with heap:=s.heap.update l (Obj.mapSeq f),toks:=t'}:=by
 have q:=PySem.IsL.update e f
 rw[hf] at q
 refine I.write (x:=l) (e:=l) (by rw[hH];exact trivial) (.inl rfl) (λb' u hb hu=>(Heap.get?_update_other s.heap (Obj.mapSeq f) (Ne.symm hb)).trans hu) ⟨_,q⟩ ?_
 exact⟨hz,its',_,hv,q⟩
theorem Inv.Me {a6:List Value} {t':Nat} (I:Inv X pins σ H s) (hv:bj ys a6) (hz:ys.length<=sizeLine):
  Inv X pins σ (upd H s.heap.objs.size (.lst ys)) {s with heap:=s.heap.push {cls:=.type "list",data:=.seq a6.toArray},toks:=t'}:=
 I.laid (λ_ _ q=>Heap.get?_push_of_some _ q) (Yt _) ⟨hz,a6,0,hv,Heap.get?_push_size _ rfl⟩
theorem Inv.fresh (I:Inv X pins σ H s):H s.heap.objs.size=none:=I.bR.fresh (Yt _)
theorem Inv.xi (I:Inv X pins σ H s) (hH:H l=some (.lst xs)):xs.length<=sizeLine/\∃(a6:List Value) (n:Nat),bj xs a6/\xs.length=a6.length/\s.heap.get? l=some {cls:=.type "list",data:=.seq a6.toArray n}:=by
 obtain⟨z,a6,n,r,e⟩:=I.bR l _ hH
 exact⟨z,a6,n,r,r.length,e⟩
theorem xj {n:Nat} (h:n<=sizeLine):Builtin.List.listTooLong n=false:=by
 unfold Builtin.List.listTooLong
 exact decide_eq_false (by omega)
end
section
variable {X : Cx}
noncomputable def eL:V->List V->Hp->VK->Prop:=λx vs H Q=>∃l xs y,x=.ref l/\vs=[y]/\H l=some (.lst xs)/\xs.length<sizeLine/\Q .cP (upd H l (.lst (xs++ [y])))
theorem dj:Je X "list.append" eL:=by
 intro pins s σ H x vs v us Q I rx rv h
 obtain⟨l,xs,y,rfl,rfl,hH,hz,q⟩:=h
 cases rx
 obtain⟨u,rfl,ru⟩:=rv.one
 obtain⟨z,a6,n,r,hl,e⟩:=I.xi hH
 refine call_meets F.slot_list_append ⟨_,e,rfl⟩ F.entry_list_append (F.args_list_append_2 _ _) (PySem.list_append l a6.toArray n u (by rw[Yv];omega)) ⟨e,?_⟩
 refine⟨.cP,_,I.F7 (its':=a6++ [u]) hH e (by simp) (r.append (.cons ru .nil)) ?_,rfl,q⟩
 rw[Yy,Y4]
 omega
noncomputable def vc:V->List V->Hp->VK->Prop:=λx vs H Q=>∃l b xs zs,x=.ref l/\vs=[.ref b]/\H l=some (.lst xs)/\H b=some (.lst zs)/\xs.length+zs.length<=sizeLine/\Q .cP (upd H l (.lst (xs++zs)))
theorem uw:Je X "list.extend" vc:=by
 intro pins s σ H x vs v us Q I rx rv h
 obtain⟨l,b,xs,zs,rfl,rfl,hH,hB,hz,q⟩:=h
 cases rx
 obtain⟨u,rfl,ru⟩:=rv.one
 cases ru
 obtain⟨z,a6,n,r,hl,e⟩:=I.xi hH
 obtain⟨z2,zm,n2,r2,Df,e2⟩:=I.xi hB
 have hsz:a6.toArray.size+zm.toArray.size<=sizeLine:=by rw[Yv,Yv];omega
 have Dg:¬(!a6.toArray.isEmpty && Builtin.List.listTooLong (a6.toArray.size+zm.toArray.size))=true:=by
  rw[xj hsz,Bool.and_false]
  exact YF
 refine call_meets F.slot_list_extend ⟨_,e,rfl⟩ F.entry_list_extend (F.args_list_extend_2 _ _)
  (AutoSeq1.list_extend_list_list_0 l a6.toArray n b zm.toArray n2 Dg (by rw[Yv];omega) (by omega)) ⟨e,e2,?_⟩
 refine⟨.cP,_,I.F7 (its':=a6++zm) hH e (by simp) (r.append r2) ?_,rfl,q⟩
 rw[Yy]
 omega
noncomputable def F8:V->List V->Hp->VK->Prop:=λx vs H Q=>∃l xs y,x=.ref l/\vs=[]/\H l=some (.lst xs)/\xs[xs.length - 1]?=some y/\Q y (upd H l (.lst xs.dropLast))
theorem zo:Je X "list.pop" F8:=by
 intro pins s σ H x vs v us Q I rx rv h
 obtain⟨l,xs,y,rfl,rfl,hH,hy,q⟩:=h
 cases rx
 have TU:=rv.zero
 subst TU
 obtain⟨z,a6,n,r,hl,e⟩:=I.xi hH
 obtain⟨u,hu,ru⟩:=r.get hy
 have Jf:a6.toArray[a6.toArray.size - 1]?=some u:=by
  show a6.toArray[a6.length - 1]?=some u
  rw[<-Array.getElem?_toList,<-hl]
  exact hu
 refine call_meets F.slot_list_pop ⟨_,e,rfl⟩ F.entry_list_pop (F.args_list_pop_1 _) (MeetsSeq.list_pop_last l a6.toArray n u Jf (by rw[Yv];omega)) ⟨e,?_⟩
 refine⟨y,_,I.F7 (its':=a6.dropLast) hH e ?_ r.dropLast ?_,ru,q⟩
 ·show a6.toArray.eraseIdxIfInBounds (a6.toArray.size - 1)=a6.dropLast.toArray
  rw[Yv,List.eraseIdxIfInBounds_toArray,zk]
 ·rw[List.length_dropLast]
  omega
noncomputable def Jg:R2:=λx y H Q=>∃l b xs zs,x=.ref l/\y=.ref b/\H l=some (.lst xs)/\H b=some (.lst zs)/\xs.length+zs.length<=sizeLine/\∀p,H p=none->Q (.ref p) (upd H p (.lst (xs++zs)))
theorem Dh:jo X (binaryOp .Add) Jg:=by
 intro pins s σ H x y v u Q I rx ry h
 obtain⟨l,b,xs,zs,rfl,rfl,hH,hB,hz,q⟩:=h
 cases rx
 cases ry
 obtain⟨z,a6,n,r,hl,e⟩:=I.xi hH
 obtain⟨z2,zm,n2,r2,Df,e2⟩:=I.xi hB
 refine PySem.P.add_list e e2 ?_ (by rw[Yv,Yv];omega)
 have ea:a6.toArray++zm.toArray=(a6++zm).toArray:=by simp
 rw[ea]
 exact⟨.ref _,_,I.Me (t':=s.toks) (r.append r2) (by rw[Yy];omega),rfl,q _ I.fresh⟩
noncomputable def Mf:R2:=λx y H Q=>∃l k xs,x=.ref l/\y=.int k/\H l=some (.lst xs)/\-(2^63)<=k/\k<2^63/\xs.length*k.toNat<=sizeLine/\
 ∀p,H p=none->Q (.ref p) (upd H p (.lst (List.replicate k.toNat xs).flatten))
theorem len_rep {α:Type} (xs:List α) (k:Nat):(List.replicate k xs).flatten.length=k*xs.length:=by
 induction k with
 | zero=>simp
 | succ k ih=>rw[Zl,List.flatten_cons,Yy,ih,Nat.succ_mul,Nat.add_comm]
theorem Jh:jo X (binaryOp .Mult) Mf:=by
 intro pins s σ H x y v u Q I rx ry h
 obtain⟨l,k,xs,rfl,rfl,hH,h1,h2,hz,q⟩:=h
 cases rx
 obtain⟨t,rfl⟩:=ry
 obtain⟨z,a6,n,r,hl,e⟩:=I.xi hH
 have hlen:a6.toArray.size*k.toNat<=sizeLine:=by rw[Yv,<-hl];exact hz
 have OZ:¬a6.toArray.size*k.toNat >(2^63 - 1) / 8:=by
  have:(sizeLine:Nat)<=(2^63 - 1) / 8:=by decide
  omega
 have O0:¬(!Builtin.List.listFitsIndex k)=true:=by
  rw[fitsIndex_both h1 h2]
  exact YF
 have Dg:¬Builtin.List.listTooLong (a6.toArray.size*k.toNat)=true:=by
  rw[xj hlen]
  exact YF
 have O1:List.foldl (λx1 x2=>x1++x2) #[] (List.replicate (if a6.toArray.isEmpty=true then 0 else k.toNat) a6.toArray)=(List.replicate k.toNat a6).flatten.toArray:=by
  have f0:∀m:Nat,List.foldl (λx1 x2=>x1++x2) #[] (List.replicate m a6.toArray)=(List.replicate m a6).flatten.toArray:=λm=>by
   have:=foldl_rep a6 m []
   rw[List.nil_append] at this
   exact this
  rw[f0]
  cases a6 with
  | nil=>simp
  | cons a r'=>rw[if_neg (by simp)]
 refine wpAny_binaryOp_repeat_ref (T:="list") (U:="int") (by decide) ⟨_,e,rfl⟩ (λs'=>typeIs_int s' k t) noFill_list_mul F.fills_int_mul F.slot_int_rmul repeat_list F.slot_int_index.lookup
  (call_meets F.slot_int_rmul (typeIs_int s k t) F.entry_int_rmul (F.args_int_rmul_2 _ _) (int___rmul___int_list k t l a6.toArray n)
   ⟨e,rfl,⟨_,e,rfl⟩,call_meets F.slot_list_mul ⟨_,e,rfl⟩ F.entry_list_mul (F.args_list_mul_2 _ _) (AutoListH.list___mul___list_int_3 l a6.toArray n k t O0 OZ Dg) ⟨e,?_⟩⟩)
 rw[O1]
 exact⟨.ref _,_,I.Me (t':=s.toks) (r.rep k.toNat) (by rw[len_rep,Nat.mul_comm];exact hz),rfl,q _ I.fresh⟩
end
section
variable {prog : Program} {w : World} {A : Around} {E : Value -> Shared -> Prop} {s : Shared}
end
section
variable {X : Cx}
end
end L2
namespace L2
open PySem PySem.Spec PyProof.Rows
section
variable {κ : Type} [DecidableEq κ]
noncomputable def dt (kvs:List (κ×V)) (k:κ):Option V:=(kvs.find? λkv=>decide (kv.1=k)).map (·.2)
noncomputable def putK (kvs:List (κ×V)) (k:κ) (v:V):List (κ×V):=
 if (kvs.any λkv=>decide (kv.1=k))=true then kvs.map (λkv=>if kv.1=k then (kv.1,v) else kv) else kvs++ [(k,v)]
noncomputable def Mg (kvs:List (κ×V)) (k:κ):List (κ×V):=kvs.filter λkv=>decide (kv.1≠k)
theorem gD {p:κ×V} {r:List (κ×V)} {k:κ} (e:p.1=k):dt (p::r) k=some p.2:=by simp [dt,List.find?_cons,e]
theorem dY {p:κ×V} {r:List (κ×V)} {k:κ} (e:¬p.1=k):dt (p::r) k=dt r k:=by simp [dt,List.find?_cons,e]
theorem xk (k:κ):∀kvs:List (κ×V),(kvs.any λkv=>decide (kv.1=k))=(dt kvs k).isSome
 | []=>rfl
 | p::r=>by
  rw[List.any_cons]
  by_cases e:p.1=k
  ·simp only[gD e,decide_eq_true e,Bool.true_or,Option.isSome_some]
  ·rw[dY e,decide_eq_false e,Bool.false_or];exact xk k r
theorem oO (kvs:List (κ×V)) (k:κ) (v:V):(putK kvs k v).length<=kvs.length+1:=by
 unfold putK
 split
 ·rw[Yr];omega
 ·rw[Yy,YC,Y9];omega
theorem ir.nA {o:Option V} {u:Option Value} (r:ir o u):o.isSome=u.isSome:=by
 cases o with
 | none=>cases u with
  | none=>rfl
  | some _=>exact(show False from r).elim
 | some _=>cases u with
  | none=>exact(show False from r).elim
  | some _=>rfl
theorem ir.getD {o:Option V} {u:Option Value} {d:V} {d':Value} (r:ir o u) (rd:RelV d d'):RelV (o.getD d) (u.getD d'):=by
 cases o with
 | none=>cases u with
  | none=>exact rd
  | some _=>exact(show False from r).elim
 | some _=>cases u with
  | none=>exact(show False from r).elim
  | some _=>exact r
theorem KV.val {kvs:List (κ×V)} {vs:List (κ×Value)} (r:KV kvs vs) (k:κ):ir (dt kvs k) (valueAt vs k):=by
 unfold KV at r
 induction r with
 | nil=>exact True.intro
 | @cons p q ps qs h t ih=>
  obtain⟨h1,h2⟩:=h
  by_cases e:p.1=k
  ·have e':q.1=k:=h1.symm.trans e
   have b:valueAt (q::qs) k=some q.2:=by simp [valueAt,List.find?_cons,e']
   rw[gD e,b];exact h2
  ·have e':¬q.1=k:=λz=>e (h1.trans z)
   have b:valueAt (q::qs) k=valueAt qs k:=by simp [valueAt,List.find?_cons,e']
   rw[dY e,b];exact ih
theorem KV.any {kvs:List (κ×V)} {vs:List (κ×Value)} (r:KV kvs vs) (k:κ):(kvs.any λkv=>decide (kv.1=k))=vs.any λkv=>decide (kv.1=k):=by
 unfold KV at r
 induction r with
 | nil=>rfl
 | cons h t ih=>rw[List.any_cons,List.any_cons,ih,h.1]
theorem KV.Ji {kvs:List (κ×V)} {vs:List (κ×Value)} (r:KV kvs vs) (k:κ) {y:V} {u:Value} (ry:RelV y u):
  KV (kvs.map λkv=>if kv.1=k then (kv.1,y) else kv) (vs.map λkv=>if kv.1=k then (kv.1,u) else kv):=by
 unfold KV at r ⊢
 induction r with
 | nil=>exact .nil
 | @cons p q ps qs h t ih=>
  rw[Ys,Ys]
  refine .cons ?_ ih
  obtain⟨h1,h2⟩:=h
  by_cases e:p.1=k
  ·rw[if_pos e,if_pos (h1.symm.trans e)];exact⟨h1,ry⟩
  ·rw[if_neg e,if_neg (λz=>e (h1.trans z))];exact⟨h1,h2⟩
theorem KV.put {kvs:List (κ×V)} {vs:List (κ×Value)} (r:KV kvs vs) (k:κ) {y:V} {u:Value} (ry:RelV y u):KV (putK kvs k y) (stored vs k u):=by
 unfold putK stored
 rw[r.any k]
 by_cases e:(vs.any λkv=>decide (kv.1=k))=true
 ·rw[if_pos e,if_pos e];exact r.Ji k ry
 ·rw[if_neg e,if_neg e];exact Paired.snoc r ⟨rfl,ry⟩
theorem KV.length {kvs:List (κ×V)} {vs:List (κ×Value)} (r:KV kvs vs):kvs.length=vs.length:=Paired.length r
end
theorem qp {P:Program} {w:World} {k:Key} {u:Value} (r:RelV (kV k) u):(cj P w).is k u=true:=by
 cases k with
 | inl i=>obtain⟨t,e⟩:=(show ∃t,u=Value.int i t from r);subst e;exact wO P w i t
 | inr x=>obtain⟨t,e⟩:=(show ∃t,u=Value.str x t from r);subst e;exact wQ P w x t
theorem uy {P:Program} {w:World}:∀{ks:List Key} {us:List Value},bj (ks.map kV) us->ItemsAre (cj P w) ks us
 | [],_,r=>by rw[YX] at r;cases r;exact .nil
 | k::ks,_,r=>by
  rw[Ys] at r
  cases r with
  | cons h t=>exact .cons (qp h) (uy t)
abbrev KT (H:Hp):List (List Key×V)->List (List Key×Addr×Value)->Prop:=Paired λp q=>p.1=q.1/\H q.2.1=some (.tup (p.1.map kV))/\RelV p.2 q.2.2
theorem KT.val {H:Hp} {kvs:List (List Key×V)} {xs:List (List Key×Addr×Value)} (r:KT H kvs xs) (k:List Key):ir (dt kvs k) ((atKey xs k).map (·.2)):=by
 induction r with
 | nil=>exact True.intro
 | @cons p q ps qs h t ih=>
  obtain⟨h1,_,h2⟩:=h
  by_cases e:p.1=k
  ·have e':q.1=k:=h1.symm.trans e
   have b:atKey (q::qs) k=some q.2:=by simp [atKey,List.find?_cons,e']
   rw[gD e,b];exact h2
  ·have e':¬q.1=k:=λz=>e (h1.trans z)
   have b:atKey (q::qs) k=atKey qs k:=by simp [atKey,List.find?_cons,e']
   rw[dY e,b];exact ih
theorem KT.Ji {H:Hp} {kvs:List (List Key×V)} {xs:List (List Key×Addr×Value)} (r:KT H kvs xs) (k:List Key) {y:V} {u:Value} (ry:RelV y u):
  KT H (kvs.map λkv=>if kv.1=k then (kv.1,y) else kv) (xs.map (putAt k u)):=by
 induction r with
 | nil=>exact .nil
 | @cons p q ps qs h t ih=>
  rw[Ys,Ys]
  refine .cons ?_ ih
  obtain⟨h1,h2,h3⟩:=h
  unfold putAt
  by_cases e:p.1=k
  ·rw[if_pos e,if_pos (h1.symm.trans e)];exact⟨h1,h2,ry⟩
  ·rw[if_neg e,if_neg (λz=>e (h1.trans z))];exact⟨h1,h2,h3⟩
theorem KT.put {H:Hp} {kvs:List (List Key×V)} {xs:List (List Key×Addr×Value)} (r:KT H kvs xs) (k:List Key) {b:Addr} {y:V} {u:Value} (hb:H b=some (.tup (k.map kV))) (ry:RelV y u):
  KT H (putK kvs k y) (storedH xs k b u):=by
 have e:(kvs.any λkv=>decide (kv.1=k))=(atKey xs k).isSome:=by
  rw[xk,(r.val k).nA,Option.isSome_map]
 unfold putK storedH
 rw[e]
 by_cases q:(atKey xs k).isSome=true
 ·rw[if_pos q,if_pos q];exact r.Ji k ry
 ·rw[if_neg q,if_neg q];exact Paired.snoc r ⟨rfl,hb,ry⟩
theorem KT.keeps {H H':Hp} {kvs:List (List Key×V)} {xs:List (List Key×Addr×Value)} (r:KT H kvs xs) (ht:∀b ys,H b=some (.tup ys)->H' b=some (.tup ys)):KT H' kvs xs:=
 Paired.II r λ_ _ z=>⟨z.1,ht _ _ z.2.1,z.2.2⟩
section
variable {P : Program} {w : World} {H : Hp} {h : Heap} {a : Addr}
theorem HM {u:HO} (ok:gB P w H h) (e:Rd H a u):cF P w H h a u:=e.ok ok
theorem oP {kvs:List (Key×V)} (ok:gB P w H h) (e:Rd H a (.dK kvs)):kvs.length<=sizeLine/\(a==sysModules)=false/\∃vs,KV kvs vs/\h.DictOf (cj P w) a vs:=
 show cF P w H h a (.dK kvs) from HM ok e
theorem Di {kvs:List (Key×V)} (ok:gB P w H h) (e:H a=some (.dK kvs)):kvs.length<=sizeLine/\(a==sysModules)=false/\∃vs,KV kvs vs/\h.DictOf (cj P w) a vs:=oP ok (.inl e)
theorem qq {ks:List Key} (ok:gB P w H h) (e:H a=some (.tup (ks.map kV))):(tupleKind (cj P w)).is h ks a:=by
 obtain⟨_,a6,r,o,h1,h2,n,h3⟩:=(show cF P w H h a (.tup (ks.map kV)) from ok a _ e)
 exact⟨o,a6.toArray,n,h1,h2,h3,by simpa using uy r⟩
theorem uz {kvs:List (List Key×V)} (ok:gB P w H h) (e:Rd H a (.dT kvs)):kvs.length<=sizeLine/\(a==sysModules)=false/\
  ∃xs,KT H kvs xs/\h.DictOfH (tupleKind (cj P w)) a xs:=by
 obtain⟨z,y,xs,r,o,es,ep,h1,h2,h3,h4,h5⟩:=(show cF P w H h a (.dT kvs) from HM ok e)
 refine⟨z,y,xs,r,o,es,ep,h1,h2,h3,h4,λx hx=>?_,h5⟩
 have all:∀{l:List (List Key×V)} {m:List (List Key×Addr×Value)},KT H l m->∀x∈m,(tupleKind (cj P w)).is h x.1 x.2.1:=by
  intro l m q
  induction q with
  | nil=>intro x hx;exact nomatch hx
  | @cons p q ps qs hq t ih=>
   intro x hx
   rcases List.mem_cons.mp hx with e | hx
   ·subst e
    exact qq ok (by rw[<-hq.1];exact hq.2.1)
   ·exact ih x hx
 exact all r x hx
theorem Mh {kvs:List (List Key×V)} (ok:gB P w H h) (e:H a=some (.dT kvs)):kvs.length<=sizeLine/\(a==sysModules)=false/\
  ∃xs,KT H kvs xs/\h.DictOfH (tupleKind (cj P w)) a xs:=uz ok (.inl e)
end
noncomputable def jq (H:Hp) (a:Addr) (y:V) (r:Option V):Prop:=
 (∃kvs k,Rd H a (.dK kvs)/\y=kV k/\r=dt kvs k)\/∃kvs k b,Rd H a (.dT kvs)/\y=.ref b/\H b=some (.tup (k.map kV))/\r=dt kvs k
noncomputable def zp (H:Hp) (a:Addr) (y v:V) (H':Hp):Prop:=
 (∃kvs k,H a=some (.dK kvs)/\y=kV k/\kvs.length<sizeLine/\H'=upd H a (.dK (putK kvs k v)))\/
 ∃kvs k b,H a=some (.dT kvs)/\y=.ref b/\H b=some (.tup (k.map kV))/\kvs.length<sizeLine/\H'=upd H a (.dT (putK kvs k v))
theorem zp.k {H:Hp} {a:Addr} {kvs:List (Key×V)} {k:Key} {v:V} (e:H a=some (.dK kvs)) (hl:kvs.length<sizeLine):zp H a (kV k) v (upd H a (.dK (putK kvs k v))):=.inl ⟨kvs,k,e,rfl,hl,rfl⟩
section
variable {X : Cx} {pins : List (Addr × Obj)} {σ : St} {H : Hp} {s : Shared} {a : Addr} {y v : V} {u r : Value} {o : Option V} {A : Around} {E : Value -> Shared -> Prop}
theorem Inv.TV (I:Inv X pins σ H s):sysModules<s.heap.objs.size:=by
 have h:mainGlobals<s.heap.objs.size:=(I.mod.glob.keeps I.bk).lt
 exact Nat.lt_trans (by decide) h
theorem BZ {Q:Value->Shared->Prop} (hu:A.units+1<cLine) (I:Inv X pins σ H s) (g:jq H a y (some v)) (ry:RelV y u) (h:∀w' s',Inv X pins σ H s'->RelV v w'->Q w' s'):
  wpAny (model X.prog X.w) A (getItem (.ref a) u) Q E s:=by
 rcases g with ⟨kvs,k,e,ey,l⟩ | ⟨kvs,k,b,e,ey,eb,l⟩
 ·subst ey
  obtain⟨z,hd,vs,rel,dd⟩:=oP I.bR e
  obtain⟨w',hw,BL⟩:=ir.some_of (v:=v) (o:=valueAt vs k) (by rw[l];exact rel.val k)
  exact wpAny_getItem_of (qp ry) dd.mapOf hw (h w' _ (I.tok _) BL)
 ·subst ey
  cases (show u=Value.ref b from ry)
  obtain⟨z,hd,xs,rel,dd⟩:=uz I.bR e
  obtain⟨w',hw,BL⟩:=ir.some_of (v:=v) (o:=(atKey xs k).map (·.2)) (by rw[l];exact rel.val k)
  obtain⟨p,hp,Ry⟩:=Option.map_eq_some_iff.mp hw
  refine wpAny_getItem_heap (tupleKind_room_in1 hu) (qq I.bR eb) dd hp ?_
  rw[Ry]
  exact h w' _ (I.tok _) BL
theorem F9 {Q:Value->Shared->Prop} (hu:A.units+1<cLine) (I:Inv X pins σ H s) (g:jq H a y o) (ry:RelV y u) (h:∀s',Inv X pins σ H s'->Q (.bool (!o.isSome)) s'):
  wpAny (model X.prog X.w) A (compareOp .NotIn u (.ref a)) Q E s:=by
 rcases g with ⟨kvs,k,e,ey,l⟩ | ⟨kvs,k,b,e,ey,eb,l⟩
 ·subst ey
  obtain⟨z,hd,vs,rel,dd⟩:=oP I.bR e
  refine wpAny_notIn_of (qp ry) hd dd.mapOf ?_
  rw[<-(rel.val k).nA,<-l]
  exact h _ (I.tok _)
 ·subst ey
  cases (show u=Value.ref b from ry)
  obtain⟨z,hd,xs,rel,dd⟩:=uz I.bR e
  refine wpAny_notIn_heap (tupleKind_room_in1 hu) (qq I.bR eb) hd dd ?_
  have q:=(rel.val k).nA
  rw[Option.isSome_map] at q
  rw[<-q,<-l]
  exact h _ (I.tok _)
theorem AI {h':Heap} {t':Nat} {ob:HO} (I:Inv X pins σ H s) (mu:LX (H a)) (hs:Heap.SameBut a s.heap h') (he:∃q,h'.get? a=some q) (new:cF X.prog X.w (upd H a ob) h' a ob):
  Inv X pins σ (upd H a ob) {s with heap:=h',toks:=t'}:=
 I.write (x:=a) (e:=a) mu (.inl rfl) (λb q hb z=>(hs.2 b hb).trans z) he new
theorem Jj {P:Program} {w:World} {H':Hp} {h':Heap} {kvs:List (Key×V)} {vs:List (Key×Value)} (z:kvs.length<=sizeLine) (hd:(a==sysModules)=false) (rel:KV kvs vs) (dd:h'.DictOf (cj P w) a vs):
  cF P w H' h' a (.dK kvs):=⟨z,hd,vs,rel,dd⟩
theorem B1 {H':Hp} {Q:Unit->Shared->Prop} (hu:A.units+1<cLine) (I:Inv X pins σ H s) (g:zp H a y v H') (ry:RelV y u) (rv:RelV v r) (h:∀s',Inv X pins σ H' s'->Q () s'):
  wpAny (model X.prog X.w) A (setItem (.ref a) u r) Q E s:=by
 rcases g with ⟨kvs,k,e,ey,l,eH⟩ | ⟨kvs,k,b,e,ey,eb,l,eH⟩
 ·subst ey eH
  obtain⟨z,hd,vs,rel,dd⟩:=Di I.bR e
  have hz:vs.length<=sizeLine:=by rw[<-rel.length];exact z
  have hl:(putK kvs k v).length<=sizeLine:=by have:=oO kvs k v;omega
  refine wpAny_setItem_pairs (hsz:=hz) (qp ry) dd λh' NZ hs=>h _ ?_
  have he:∃q,h'.get? a=some q:=let ⟨q,_,_,hq,_⟩:=NZ;⟨q,hq⟩
  exact AI I (by rw[e];exact True.intro) hs he (Jj hl hd (rel.put k rv) NZ)
 ·subst ey eH
  cases (show u=Value.ref b from ry)
  obtain⟨z,hd,xs,rel,dd⟩:=Mh I.bR e
  have hz:xs.length<=sizeLine:=by rw[<-Paired.length rel];exact z
  have hl:(putK kvs k v).length<=sizeLine:=by have:=oO kvs k v;omega
  refine wpAny_setItem_heap (hsz:=hz) (tupleKind_room_in1 hu) (qq I.bR eb) dd λh' NZ hs=>h _ ?_
  obtain⟨q,es,ep,hq,h2,h3,h4,_,h5⟩:=NZ
  refine AI I (by rw[e];exact True.intro) hs ⟨q,hq⟩ ⟨hl,hd,_,(rel.put k eb rv).keeps λc ys ec=>?_,q,es,ep,hq,h2,h3,h4,h5⟩
  rw[aw (LW ec e (λz=>nomatch z))]
  exact ec
end
section
variable {X : Cx} {pins : List (Addr × Obj)} {σ : St} {H : Hp} {s : Shared} {a : Addr} {kvs : List (Key × V)} {k : Key} {u : Value} {A : Around} {E : Value -> Shared -> Prop}
theorem Mi {Q:Value->Shared->Prop} (I:Inv X pins σ H s) (e:Rd H a (.dK kvs)) (h:∀t s',Inv X pins σ H s'->Q (.int kvs.length t) s'):wpAny (model X.prog X.w) A (call (.builtin "len") [.ref a]) Q E s:=by
 obtain⟨z,hd,vs,rel,dd⟩:=oP I.bR e
 refine call_len_dict hd dd (by rw[<-rel.length];rw[sizeLine_eq] at z;omega) ?_
 rw[<-rel.length]
 exact h _ _ (I.tok _)
end
noncomputable def Mj (i:Expr):Prop:=∀ov iv,subscripted i false ov iv=operate [ov,iv] (getItem ov iv)
theorem Ga {prog:Program} {w:World} {A:Around} {E:Value->Shared->Prop} {s:Shared} {env:Env} {value slice:Expr} {pos:Pos} {T id:String} {Q:Value->Shared->Prop}
  (hl:typeLookup (.type T) "__getitem__"=pure (some (.builtin id))) (hs:Mj slice)
  (h:wpAny (model prog w) A (eval value env) (λo s₁=>wpAny (model prog w) A (eval slice env) (λi s₂=>s₂.TypeIs o T/\wpAny (model prog w) A (getItem o i) Q E s₂) E s₁) E s):
  wpAny (model prog w) A (eval (.Subscript value slice pos) env) Q E s:=by
 refine Subscript_ (wpAny_mono h (λo s₁ h₁=>wpAny_mono h₁ (λi s₂ h₂=>?_) λ_ _ x=>x) λ_ _ x=>x)
 obtain⟨hT,h₂⟩:=h₂
 unfold subscriptTail
 refine wpAny_bind ?_
 rw[getitemInPython_of_ne hT.not_modules]
 refine wpAny_bind (wpAny_specialOf hT hl ?_)
 have fin:wpAny (model prog w) A (subscripted slice false o i) (λr s₃=>wpAny (model prog w) A (letTemporaryGo value o r >>=λ_=>pure r) Q E s₃) E s₂:=by
  rw[hs o i]
  exact wpAny_operating (wpAny_mono h₂ (λr s₃ h₃=>wpAny_bind (wpAny_letTemporaryGo (wpAny_pure h₃))) λ_ _ x=>x)
 first
  | exact wpAny_pure (wpAny_bind fin)
  | exact wpAny_bind (wpAny_pure (wpAny_bind fin))
  | exact wpAny_bind fin
theorem xm {X:Cx} {pins:List (Addr×Obj)} {σ:St} {H:Hp} {s:Shared} {a:Addr} {y:V} {o:Option V} (I:Inv X pins σ H s) (g:jq H a y o):s.TypeIs (.ref a) "dict":=by
 rcases g with ⟨kvs,k,e,_,_⟩ | ⟨kvs,k,b,e,_,_,_⟩
 ·obtain⟨_,_,vs,_,dd⟩:=oP I.bR e
  exact dd.typeIs
 ·obtain⟨_,_,xs,_,dd⟩:=uz I.bR e
  exact dd.typeIs
noncomputable def tDGet (td ty:TE):TE:=λσ H Q=>td σ H λx H1=>ty σ H1 λy H2=>∃a v,x=.ref a/\jq H2 a y (some v)/\Q v H2
noncomputable def tDIn (ty td:TE):TE:=λσ H Q=>ty σ H λy H1=>td σ H1 λx H2=>∃a o,x=.ref a/\jq H2 a y o/\Q (.bl o.isSome) H2
noncomputable def tDNotIn (ty td:TE):TE:=λσ H Q=>ty σ H λy H1=>td σ H1 λx H2=>∃a o,x=.ref a/\jq H2 a y o/\Q (.bl (!o.isSome)) H2
noncomputable def sDPut (td ty tv:TE):TS:=λD σ H=>tv σ H λv H1=>td σ H1 λx H2=>ty σ H2 λy H3=>∃a H4,x=.ref a/\zp H3 a y v H4/\D.nx σ H4
section
variable {X : Cx} {o i e value : Expr} {pos pos' sQ : Pos} {td ty tv : TE}
theorem ck (hu:X.A.units+1<cLine) (ho:PE X o td) (hi:PE X i ty) (hs:Mj i):PE X (.Subscript o i pos) (tDGet td ty):=by
 intro pins s σ H Q I h
 refine Ga PySem.F.slot_dict_getitem.lookup hs (cD (ho pins s σ H _ I h) λu s1 ⟨x,H1,I1,rx,q1⟩=>cD (hi pins s1 σ H1 _ I1 q1) λiv s2 dh=>?_)
 obtain⟨y,H2,I2,ry,a,v,ex,g,q2⟩:=dh
 subst ex
 obtain rfl:u=Value.ref a:=rx
 exact⟨xm I2 g,BZ hu I2 g ry λw' s3 I3 BL=>⟨v,H2,I3,BL,q2⟩⟩
theorem uA (hu:X.A.units+1<cLine) (hi:PE X i ty) (ho:PE X o td):PC X .NotIn i o (tDNotIn ty td):=by
 intro pins s σ H Q I h
 refine cD (hi pins s σ H _ I h) λiv s1 ⟨y,H1,I1,ry,q1⟩=>cD (ho pins s1 σ H1 _ I1 q1) λu s2 dh=>?_
 obtain⟨x,H2,I2,rx,a,ov,ex,g,q2⟩:=dh
 subst ex
 obtain rfl:u=Value.ref a:=rx
 exact F9 hu I2 g ry λs3 I3=>⟨.bl (!ov.isSome),H2,I3,rfl,q2⟩
theorem dZ (hu:X.A.units+1<cLine) (ho:PE X o td) (hi:PE X i ty) (hv:PE X value tv) (hs:swapsWith value (some (.Subscript o i pos')) pos.line X.env=pure false):
  PS X (.Assign [.Subscript o i pos'] value pos) (sDPut td ty tv):=by
 intro pins s σ H D I h
 refine wpAny_Assign_Subscript (cD (hv pins s σ H _ I h) λr s1 ⟨v,H1,I1,rv,q1⟩=>cD (ho pins s1 σ H1 _ I1 q1) λu s2 ⟨x,H2,I2,rx,q2⟩=>cD (hi pins s2 σ H2 _ I2 q2) λiv s3 dh=>?_) hs
 obtain⟨y,H3,I3,ry,a,H4,ex,g,q3⟩:=dh
 subst ex
 obtain rfl:u=Value.ref a:=rx
 exact B1 hu I3 g ry rv λs4 I4=>⟨σ,H4,I4,q3⟩
end
theorem Dj {P:Program} {w:World} {H:Hp} (h:Heap) (hb:sysModules<h.objs.size):cF P w H (h.push {cls:=.type "dict",data:=.dict #[]}) h.objs.size (.dK []):=
 ⟨YD _,beq_eq_false_iff_ne.mpr (Ne.symm (YE hb)),[],.nil,Heap.DictOf.new h⟩
noncomputable def tDNewK:TE:=λ_ H Q=>∀p,H p=none->Q (.ref p) (upd H p (.dK []))
section
variable {X : Cx} {pos : Pos}
theorem gE:PE X (.Dict [] [] pos) tDNewK:=λpins s σ H Q I h=>
 wpAny_Dict_empty ⟨.ref s.heap.objs.size,_,I.laid (a:=s.heap.objs.size) (o:=.dK []) (t':=s.toks) (λ_ _ q=>Heap.get?_push_of_some _ q) (Yt _) (Dj s.heap I.TV),rfl,h _ (I.bR.fresh (Yt _))⟩
end
abbrev VV:List (V×V)->List (Value×Value)->Prop:=Paired λp q=>RelV p.1 q.1/\RelV p.2 q.2
structure M1 (X:Cx) (o:Expr) (m:Str) (apos:Pos) (e:Expr) (dB:Pos):Prop where
 base:attributeBase o m X.env (eval o X.env)=eval o X.env
 Lr:((backTo dB (starEach [e] X.env)).all (λx=>!x.1) && (backToKw dB (keywordEach [] X.env)).all (λx=>x.1.isSome)
  && decide (([e]:List Expr).length+ ([]:List Keyword).length+ (if ([]:List Keyword).isEmpty then 0 else 1)<30))=true
 line:(apos.endLine==dB.line)=true
 trees:backTo dB (starEach [e] X.env)=[(false,eval e X.env)]
structure M2 (X:Cx) (o:Expr) (m:Str) (apos:Pos) (e f:Expr) (dB:Pos):Prop where
 base:attributeBase o m X.env (eval o X.env)=eval o X.env
 Lr:((backTo dB (starEach [e,f] X.env)).all (λx=>!x.1) && (backToKw dB (keywordEach [] X.env)).all (λx=>x.1.isSome)
  && decide (([e,f]:List Expr).length+ ([]:List Keyword).length+ (if ([]:List Keyword).isEmpty then 0 else 1)<30))=true
 line:(apos.endLine==dB.line)=true
 trees:backTo dB (starEach [e,f] X.env)=[(false,eval e X.env),(false,eval f X.env)]
noncomputable def N0 (H:Hp) (a:Addr):Prop:=(∃kvs,Rd H a (.dK kvs))\/∃kvs,Rd H a (.dT kvs)
theorem Jk {X:Cx} {pins:List (Addr×Obj)} {σ:St} {H:Hp} {s:Shared} {a:Addr} (I:Inv X pins σ H s) (d:N0 H a):
  s.TypeIs (.ref a) "dict"/\(∀b,Value.ref a=.ref b->∃ob,s.heap.get? b=some ob/\ob.dict=none)/\(a==sysModules)=false:=by
 rcases d with ⟨kvs,e⟩ | ⟨kvs,e⟩
 ·obtain⟨_,hd,vs,_,dd⟩:=oP I.bR e
  refine⟨dd.typeIs,λb q=>?_,hd⟩
  cases q
  obtain⟨ob,_,_,h1,h2,_⟩:=dd
  exact⟨ob,h1,h2.2.1⟩
 ·obtain⟨_,hd,xs,_,dd⟩:=uz I.bR e
  refine⟨dd.typeIs,λb q=>?_,hd⟩
  cases q
  obtain⟨ob,_,_,h1,h2,_⟩:=dd
  exact⟨ob,h1,h2.2.1⟩
section
variable {X : Cx} {pins : List (Addr × Obj)} {σ : St} {H : Hp} {s : Shared} {a : Addr} {y d : V} {u r : Value} {o : Option V} {A : Around} {E : Value -> Shared -> Prop}
theorem Jl {Q:Value->Shared->Prop} (hu:A.units+1<cLine) (I:Inv X pins σ H s) (g:jq H a y o) (ry:RelV y u) (rd:RelV d r) (h:∀w' s',Inv X pins σ H s'->RelV (o.getD d) w'->Q w' s'):
  wpAny (model X.prog X.w) A (call (.builtin "dict.get") [.ref a,u,r]) Q E s:=by
 rcases g with ⟨kvs,k,e,ey,l⟩ | ⟨kvs,k,b,e,ey,eb,l⟩
 ·subst ey
  obtain⟨z,hd,vs,rel,dd⟩:=oP I.bR e
  refine call_meetsIn PySem.F.slot_dict_get dd.typeIs PySem.F.entry_dict_get (PySem.F.args_dict_get_3 _ _ _) (meets_dict_get_default (cj X.prog X.w) a (qp ry) hd r) ⟨_,dd.mapOf,h _ _ (I.tok _) ?_⟩
  rw[l]
  exact(rel.val k).getD rd
 ·subst ey
  cases (show u=Value.ref b from ry)
  obtain⟨z,hd,xs,rel,dd⟩:=uz I.bR e
  refine call_meetsIn PySem.F.slot_dict_get dd.typeIs PySem.F.entry_dict_get (PySem.F.args_dict_get_3 _ _ _) (meetsH_dict_get_default (tupleKind (cj X.prog X.w)) a b hd r) ⟨tupleKind_room_in1 hu,k,xs,qq I.bR eb,dd,h _ _ (I.tok _) ?_⟩
  rw[l]
  exact(rel.val k).getD rd
end
noncomputable def tDGet1 (td ty:TE):TE:=λσ H Q=>td σ H λx H1=>∃a,x=.ref a/\N0 H1 a/\ty σ H1 λy H2=>∃o,jq H2 a y o/\Q (o.getD .cP) H2
noncomputable def tDGet2 (td ty tx:TE):TE:=λσ H Q=>td σ H λx H1=>∃a,x=.ref a/\N0 H1 a/\ty σ H1 λy H2=>tx σ H2 λz H3=>∃o,jq H3 a y o/\Q (o.getD z) H3
noncomputable def tDPop1 (td ty:TE):TE:=λσ H Q=>td σ H λx H1=>∃a,x=.ref a/\N0 H1 a/\ty σ H1 λy H2=>∃kvs k v,H2 a=some (.dK kvs)/\y=kV k/\dt kvs k=some v/\Q v (upd H2 a (.dK (Mg kvs k)))
section
variable {X : Cx} {o e f : Expr} {apos dB : Pos} {td ty tx : TE}
theorem Dk (hu:X.A.units+1<cLine) (ho:PE X o td) (he:PE X e ty) (hf:PE X f tx) (m:M2 X o "get" apos e f dB):PE X (.Call (.Attribute o "get" apos) [e,f] [] dB) (tDGet2 td ty tx):=by
 intro pins s σ H Q I h
 refine wpAny_Call_method m.base m.Lr m.line PySem.F.plainAttrs_dict PySem.F.slot_dict_get PySem.F.type_dict_get (cD (ho pins s σ H _ I h) λu s1 dh=>?_)
 obtain⟨x,H1,I1,rx,a,ex,d,q1⟩:=dh
 subst ex
 obtain rfl:u=Value.ref a:=rx
 obtain⟨t1,t2,_⟩:=Jk I1 d
 refine⟨t1,t2,?_⟩
 rw[m.trees]
 refine Calls.callWith_builtin rfl (Calls.evalArgs_plain (Calls.spliced_cons (cD (he pins s1 σ H1 _ I1 q1) λiv s2 ⟨y,H2,I2,ry,q2⟩=>
  Calls.spliced_cons (cD (hf pins s2 σ H2 _ I2 q2) λfv s3 ⟨z,H3,I3,rz,ov,g,q3⟩=>Calls.spliced_nil ?_))))
 exact Jl hu I3 g ry rz λw' s4 I4 BL=>⟨_,H3,I4,BL,q3⟩
end
section
variable {X : Cx} {pins : List (Addr × Obj)} {σ : St} {H : Hp} {s : Shared} {a : Addr} {kvs : List (Key × V)} {A : Around} {E : Value -> Shared -> Prop}
end
section
variable {X : Cx} {pins : List (Addr × Obj)} {σ : St} {H : Hp} {s : Shared} {a : Addr} {y : V} {u : Value} {A : Around} {E : Value -> Shared -> Prop}
end
end L2
namespace Rz
open PySem PySem.W PySem.Calls PyProof.Rows
theorem pf {P:Params} {h:Heap}:∀(ns:List Int) (vs:List Value),WellAll P h vs (ns.map WData.int)->IntsAre vs ns:=by
 intro ns
 induction ns with
 | nil=>
  intro vs w
  rw[YX] at w
  cases w
  exact .nil
 | cons n ns ih=>
  intro vs w
  rw[Ys] at w
  cases w with
  | cons a b=>
   cases a
   exact .cons _ _ (ih _ b)
theorem B2 {l:OpenLaw} {n:Nat} (hn:l.most=some n) {P:Params} {h:Heap} {args:List WData} {vals:List Value}
  (Gb:l.row.toRowW.claim.pre args=true) (Ml:WellAll P h vals args):
  ∃a vs ns,vals=[Value.ref a]/\args=[WData.list (ns.map WData.int)]/\h.get? a=some {cls:=.type "list",data:=.seq vs.toArray}/\IntsAre vs ns/\ns.length<=n:=by
 have f6:WShape.hasAll [] args [.list .int]=true:=(pre_splitW Gb).1
 have hc:l.pre.holds [] {args:=args}=true:=(pre_splitW Gb).2
 obtain⟨d,r,rfl,h1,h2⟩:=hasAllW_cons f6
 obtain rfl:=hasAllW_nil h2
 obtain⟨xs,rfl,h3⟩:=hasW_list h1
 obtain⟨ns,rfl⟩:=items_int h3
 have hlen:ns.length<=n:=by
  unfold OpenLaw.pre at hc
  have h4:(WTm.not (.lt (.lit (.int (n:Int))) (.len (.arg 0)))).holds [] {args:=[.list (ns.map .int)]}=true:=by
   have h4:=(holds_andW hc).1
   rw[hn] at h4
   exact h4
  have h5:=condW_of h4 (w_not (w_lt w_lit (w_len_list (w_arg rfl))))
  rw[Yr] at h5
  refine Nat.le_of_not_lt λq=>?_
  have q':(n:Int)< ((ns.length:Nat):Int):=by omega
  first
   | (rw[decide_eq_true q'] at h5;exact absurd h5 (by decide))
   | (simp at h5;omega)
 cases Ml with
 | cons w1 w2=>
  cases w2
  cases w1 with
  | list ho B3=>exact⟨_,_,ns,rfl,rfl,ho,pf ns _ B3,hlen⟩
theorem B4 (l:OpenLaw) (args:List WData):l.row.toRowW.claim.post args (.bool true) args=true:=
 postW_of (r:=l.row.toRowW) (X:=(true==true))
  (show WShape.has [] (.bool true) .bool=true by first | rfl | decide | simp [WShape.has,WShape.arms,WShape.armsAll])
  (show(WTm.eq .res (.lit (.bool true))).value [] {args:=args,res:=some (.bool true),after:=args}=some (.bool (true==true)) from w_eq_bool (w_res rfl) w_lit) rfl
theorem xn {l:OpenLaw} {n:Nat} {q:Program} {loose:List Str} {XP:(Str->Option Value)->Heap->Prop} {YP:World->Heap->Prop} {d:DefRec}
  (hn:l.most=some n) (Mm:d.params.defaults=[])
  (call:∀(w:World) (s₀ s₁:Shared) (mg mb:Str->Option Value) (fa:Addr) (o:Obj) (pm cd doc:Value) (a:Addr) (vs:List Value) (ns:List Int),
   Ground q loose [] XP w s₀ mg mb s₁.heap->YP w s₁.heap->
   s₁.heap.get? fa=some o->o.data=.func (docDef d.name d.params d.body d.scope pm cd doc)->s₁.heap.CodeRec cd d.name->mg d.name=some (.ref fa)->
   s₁.heap.get? a=some {cls:=.type "list",data:=.seq vs.toArray}->IntsAre vs ns->ns.length<=n->s₁.gens=#[]->
   codeAny (model l.prog w) callerA (.call (.ref fa) ⟨[.ref a],[]⟩) (λr s'=>r=.ok (.ret (.bool true))/\OldK s₁.heap s'.heap/\s'.os=s₁.os/\AllBare s'.gens) s₁):
  WalkO q loose XP YP l.row.toRowW d [] (λf vs=>PySem.call f vs):=by
 intro w s₀ s₁ mg mb G Y fa o pm cd doc dV kV ho hd BI hD Mn hg args vals as Gb TX W7 Ml W8
 obtain rfl:dV=.none:=Dflts.none hD Mm
 obtain rfl:kV=.none:=Dflts.noKw hD
 obtain⟨a,vs,ns,rfl,rfl,Jm,hints,hlen⟩:=B2 hn Gb Ml
 refine enter_call (codeAny_mono (call w s₀ s₁ mg mb fa o pm cd doc a vs ns G Y ho (fd_plain hd) BI Mn Jm hints hlen hg) λr s' hq=>?_)
 obtain⟨rfl,h2,h3,h4⟩:=hq
 exact⟨.inl ⟨.bool true,.bool true,[],rfl,λ_=>rfl,.bool true,B4 l _,λ_=>⟨List.Pairwise.nil,λ_ hm=>(nomatch hm)⟩⟩,h2,h3,h4⟩
section
variable {prog : Program} {w : World} {A : Around} {E : Value -> Shared -> Prop} {s : Shared} {K : Frag}
end
end Rz
namespace L2
open PySem PySem.Spec PyProof.Rows
theorem uB:∀{vs:List Value} {ns:List Int},IntsAre vs ns->bj (ns.map V.int) vs
 | _,_,.nil=>.nil
 | _,_,.cons n t h=>.cons ⟨t,rfl⟩ (uB h)
noncomputable def Jn (H:Hp):Prop:=∀b,H b=none\/∃o xs,H b=some (.wI o (.lst xs))
theorem law_call {P:Program} {w:World} {K:PySem.W.Frag} {mg mb:Str->Option Value} {CX:nz} {k:Nat} {fa a:Addr} {fd:FuncData} {x:Str} {sp:Sp} {s₁:Shared} {vs:List Value} {ns:List Int}
  (KX:K.In s₁.heap) (RA:s₁.heap.Ns mainGlobals mg) (hb:s₁.heap.Ns builtinsNs mb) (TY:∀x:Str,x≠"__name__"->mb x=bootBuiltins x) (O2:s₁.heap.NoLimit) (hg:s₁.gens=#[])
  (ha:s₁.heap.get? a=some {cls:=.type "list",data:=.seq vs.toArray}) (hi:IntsAre vs ns) (hl:ns.length<=sizeLine) (hr:dW k callerA)
  (F:∀base:Heap,K.In base->base.Ns mainGlobals mg->fF P w K mg base CX k fa fd [x] sp) (Mo:∀(s:Shared) (u:Value),BindsTo s fd ⟨[u],[]⟩ [(x,u)])
  (Fx:∀H:Hp,Jn H->bI K H a (ns.map V.int)->sp [.ref a] H (λv _=>v=.bl true) λ_ _ _=>False)
  (O3:∀H e s',CX [] H s₁ (λ_ _ _=>False) e s'->False):
  codeAny (model P w) callerA (.call (.ref fa) ⟨[.ref a],[]⟩) (λr s'=>r=.ok (.ret (.bool true))/\OldK s₁.heap s'.heap/\s'.os=s₁.os/\AllBare s'.gens) s₁:=by
 have rv:=uB hi
 have O4:=hi.length
 have core:∀H:Hp,Jn H->bI K H a (ns.map V.int)->gB P w H s₁.heap->(∀b,H b≠none->b=a)->(H a≠none->K.lookup a=none)->
   codeAny (model P w) callerA (.call (.ref fa) ⟨[.ref a],[]⟩) (λr s'=>r=.ok (.ret (.bool true))/\OldK s₁.heap s'.heap/\s'.os=s₁.os/\AllBare s'.gens) s₁:=by
  intro H hO hS bR hA hK
  have AJ:∀{b:Addr} {o:Obj},s₁.heap.get? b=some o->H b=none->(uZ s₁.heap H).get? b=some o:=λe n=>CQ e n
  have Mc:∀{b:Addr} {o:Obj} {es:Array DictEntry} {ep:Nat},s₁.heap.get? b=some o->o.data=.dict es ep->H b=none:=λ{b o es ep} e d=>by
   cases q:H b with
   | none=>rfl
   | some u=>
    have e':b=a:=hA b (by rw[q];simp)
    subst e'
    rw[ha] at e;cases e
    have d':Data.seq vs.toArray _=Data.dict es ep:=d
    cases d'
  have N1:∀{b:Addr} {m:Str->Option Value},s₁.heap.Ns b m->(uZ s₁.heap H).Ns b m:=λ{b m} ⟨o,es,ep,e,d,r⟩=>⟨o,es,ep,AJ e (Mc e d),d,r⟩
  have RB:K.In (uZ s₁.heap H):=λb o e=>AJ (KX b o e) (by
   cases q:H b with
   | none=>rfl
   | some u=>
    have e':b=a:=hA b (by rw[q];simp)
    subst e'
    rw[hK (by rw[q];simp)] at e;cases e)
  have hM:Mod K mg (uZ s₁.heap H):=⟨RB,N1 RA,⟨mb,N1 hb,TY⟩,let ⟨mc,h1,h2⟩:=O2;⟨mc,N1 h1,h2⟩⟩
  have e0:zc P w K mg (uZ s₁.heap H) callerA [] s₁ H:=⟨rfl,hM,λb o e=>FP e,Nat.le_of_eq (BF _ _),trivial,λb hb=>absurd (show b∈([]:List Addr) from hb) (by simp),bR,.of_eq hg⟩
  refine codeAny_mono ((F _ RB (N1 RA)).run callerA [] s₁ H ⟨[.ref a],[]⟩ [.ref a] [.ref a] _ _ hr e0 (Mo s₁ (.ref a)) (.cons rfl .nil) (Fx H hO hS)) λr s' h=>?_
  cases r with
  | error e=>exact(O3 H e s' h).elim
  | ok fl=>
   cases fl with
   | next=>exact False.elim h
   | brk=>exact False.elim h
   | cont=>exact False.elim h
   | ret u=>
    obtain⟨v,H',os,bare,un,O5,r',q⟩:=h
    have q':v=.bl true:=q
    subst q'
    obtain rfl:u=Value.bool true:=r'
    refine⟨rfl,OldK.of_keep λb o e=>?_,os,bare⟩
    cases q:H b with
    | none=>exact un.keep b o e q (by intro z;exact absurd (show b∈([]:List Addr) from z) (by simp)) (by simp)
    | some u=>
     rcases hO b with z | ⟨ob,xs,z⟩
     ·rw[q] at z;cases z
     ·have z2:=un.lE b ob _ z
      obtain⟨e1,_⟩:=bR b _ z
      obtain⟨e2,_⟩:=O5 b _ z2
      rw[e] at e1;cases e1
      exact e2
 cases hk:K.lookup a with
 | some o=>
  have e:=KX a o hk
  rw[ha] at e
  cases e
  refine core (λ_=>none) (λ_=>.inl rfl) (.inr ⟨_,vs.toArray,_,hk,rfl,rfl,rfl,by rw[Yv,O4];exact hl,by simpa using rv⟩) (λb u z=>by have z':(none:Option HO)=some u:=z;cases z') (λb z=>absurd rfl z) λz=>absurd rfl z
 | none=>
  refine core (λb=>if b=a then some (.wI {cls:=.type "list",data:=.seq vs.toArray} (.lst (ns.map V.int))) else none) (λb=>?_) (.inl (.inr ⟨{cls:=.type "list",data:=.seq vs.toArray},if_pos rfl⟩)) (λb u z=>?_) (λb z=>?_) λ_=>hk
  ·by_cases hb:b=a
   ·exact .inr ⟨_,_,if_pos hb⟩
   ·exact .inl (if_neg hb)
  ·by_cases hb:b=a
   ·have z':=(if_pos hb).symm.trans z
    cases z'
    subst hb
    exact⟨ha,by rw[Yr];exact hl,vs,_,rv,ha⟩
   ·have z':=(if_neg hb).symm.trans z
    cases z'
  ·by_cases hb:b=a
   ·exact hb
   ·exact absurd (if_neg hb) z
end L2
namespace L2
open PySem PySem.Spec PyProof.Rows
abbrev W9 {K:PySem.W.Frag} {h:Heap} (_:K.In h):PySem.W.Frag:=K
theorem Gc {l:PySem.W.OpenLaw} {n k:Nat} {q:Program} {loose:List Str} {XP:(Str->Option Value)->Heap->Prop} {YP:World->Heap->Prop} {d:DefRec} {K:Params->PySem.W.Frag} {CX:World->nz} {sp:World->Sp} {x:Str}
  (hn:l.most=some n) (NW:n<=sizeLine) (Mm:d.params.defaults=[]) (hr:dW k callerA)
  (hY:∀(w:World) (h:Heap),YP w h->(K w.params).In h)
  (F:∀(w:World) (mg:Str->Option Value) (fa:Addr) (h:Heap),(K w.params).In h->h.Ns mainGlobals mg->mg d.name=some (.ref fa)->
   ∃fd:FuncData,(∀(s:Shared) (u:Value),BindsTo s fd ⟨[u],[]⟩ [(x,u)])/\
    ∀base:Heap,(K w.params).In base->base.Ns mainGlobals mg->fF l.prog w (K w.params) mg base (CX w) k fa fd [x] (sp w))
  (Fx:∀(w:World) (H:Hp) (a:Addr) (ns:List Int),ns.length<=n->Jn H->bI (K w.params) H a (ns.map V.int)->sp w [.ref a] H (λv _=>v=.bl true) λ_ _ _=>False)
  (O3:∀(w:World) (H:Hp) (s:Shared) (e:Value) (s':Shared),CX w [] H s (λ_ _ _=>False) e s'->False):
  PySem.W.WalkO q loose XP YP l.row.toRowW d [] (λf vs=>PySem.call f vs):=by
 refine Rz.xn hn Mm λw s₀ s₁ mg mb fa o pm cd doc a vs ns G Y ho hd BI Mn Jm hints hlen hg=>?_
 have KX:=hY w _ Y
 obtain⟨fd,hb,hF⟩:=F w mg fa _ KX G.T.g Mn
 exact law_call KX G.T.g G.T.b G.T.builtins G.T.nolimit hg Jm hints (YB hlen NW) hr hF hb (λH hO hS=>Fx w H a ns hlen hO hS) λH e s'=>O3 w H s₁ e s'
end L2
namespace L2
open PySem PySem.Spec PyProof.Rows
noncomputable def inClass (s:Stmt) (j:Nat):Stmt:=match s with
 | .ClassDef _ _ _ body _ _ _ _ _ _ _=>body.getD j (.Pass ⟨0,0,0,0⟩)
 | _=>.Pass ⟨0,0,0,0⟩
noncomputable def br (s:Stmt):Arguments:=match s with
 | .FunctionDef _ a _ _ _ _ _ _ _ _=>a
 | _=>{posonlyargs:=[],args:=[],vararg:=none,kwonlyargs:=[],kw_defaults:=[],kwarg:=none,defaults:=[]}
noncomputable def bo (s:Stmt):List Stmt:=match s with
 | .FunctionDef _ _ b _ _ _ _ _ _ _=>b
 | _=>[]
noncomputable def ar (s:Stmt):Scope:=match s with
 | .FunctionDef _ _ _ _ _ _ sc _ _ _=>sc
 | _=>{kind:=.function,names:=[],isGenerator:=false,isCoroutine:=false}
abbrev Xa:nz:=λ_ _ _ _ _ _=>False
abbrev E0:XK:=λ_ _ _=>False
structure zq (K:PySem.W.Frag) (x qual:Str) (st:Stmt) (f:Addr) (fd:FuncData):Prop where
 ex:∃(oc:Value) (od:Option Addr) (kV doc pm:Value) (an:Option Addr) (bT ct:Value) (F3:Array (Option Value)),
  fd=PySem.W.fnOf x qual (br st) (bo st) (ar st) .none kV doc pm an bT ct/\K.lookup f=some ⟨oc,od,.func fd,F3⟩/\PySem.W.codeIn K bT qual=true
 kp:PySem.W.keepIn K (.ref f)=true
section
variable {P : Program} {w : World} {K : PySem.W.Frag} {mg : Str -> Option Value} {base : Heap}
theorem zq.binds {x qual:Str} {st:Stmt} {f:Addr} {fd:FuncData} {ps:List Str} (F:zq K x qual st f fd)
  (h:∀(kV doc pm:Value) (an:Option Addr) (bT ct:Value) (us:List Value),us.length=ps.length->bindArgs (PySem.W.fnOf x qual (br st) (bo st) (ar st) .none kV doc pm an bT ct) ⟨us,[]⟩=pure (ps.zip us)):Binds K fd ps []:=by
 obtain⟨oc,od,kV,doc,pm,an,bT,ct,F3,rfl,lk,BI⟩:=F.ex
 exact .all (h kV doc pm an bT ct)
theorem cu {x qual:Str} {st:Stmt} {f:Addr} {oc:Value} {od an:Option Addr} {F3:Array (Option Value)} {kV doc pm bT ct:Value} (l:K.lookup f=some ⟨oc,od,.func (PySem.W.fnOf x qual (br st) (bo st) (ar st) .none kV doc pm an bT ct),F3⟩)
  (c:PySem.W.codeIn K bT qual=true) (k:PySem.W.keepIn K (.ref f)=true):zq K x qual st f (PySem.W.fnOf x qual (br st) (bo st) (ar st) .none kV doc pm an bT ct):=⟨⟨oc,od,kV,doc,pm,an,bT,ct,F3,rfl,l,c⟩,k⟩
end
theorem cf {A:Around} {k:Nat} (hr:dW k A):A.units+1<cLine:=Nat.lt_of_le_of_lt (Nat.add_le_add_left (by decide:1<=64) _) hr.units
section
variable {X : Cx}
theorem pv (i:Nat) {x:Str} {pos:Pos} (hN:X.N[i]?=some x:=by rfl) (hv:OF X.env.scope x:=by first | exact Or.inl rfl | exact Or.inr (Or.inl rfl) | exact Or.inr (Or.inr rfl)) (hd:(x==("__debug__":Str))=false:=by decide)
  (BI:(x==("__classdict__":Str))=false:=by decide):PE X (.Name x pos) (tVar i):=IM hN hv hd BI
end
theorem Dl {A B:Prop} (h:A):if true=true then A else B:=by
 rw[if_pos rfl]
 exact h
theorem gY {c A B:Prop} [Decidable c] (h1:c->A) (h2:¬c->B):if c then A else B:=by
 by_cases h:c
 ·rw[if_pos h]
  exact h1 h
 ·rw[if_neg h]
  exact h2 h
noncomputable def aD (H H':Hp):Prop:=∀b o,H b=some o->H' b=some o
theorem aD.refl (H:Hp):aD H H:=λ_ _ h=>h
theorem aD.trans {H H1 H2:Hp} (a:aD H H1) (b:aD H1 H2):aD H H2:=λc o h=>b c o (a c o h)
theorem aD.seq {K:PySem.W.Frag} {H H':Hp} {a:Addr} {xs:List V} (e:aD H H') (h:bI K H a xs):bI K H' a xs:=by
 rcases h with (h | ⟨o,h⟩) | h
 ·exact .inl (.inl (e _ _ h))
 ·exact .inl (.inr ⟨o,e _ _ h⟩)
 ·exact .inr h
end L2
namespace L2
open PySem PySem.Spec PyProof.Rows
section
variable {X : Cx}
theorem B5:cX X (.builtin "len") (λxs H Q=>∃a kvs,xs=[V.ref a]/\H a=some (.dK kvs)/\Q (.int kvs.length) H):=by
 intro pins s σ H xs us Q I r h
 obtain⟨a,kvs,rfl,ha,q⟩:=h
 obtain⟨u,rfl,ru⟩:=vals1 r
 cases ru
 exact Mi I (.inl ha) λt s' I'=>⟨.int kvs.length,H,I',⟨t,rfl⟩,q⟩
end
section
variable {κ : Type} [DecidableEq κ]
end
end L2
namespace L2
open PySem PySem.Spec PyProof.Rows
noncomputable def Bt (n:Nat) (i:Int):Prop:=i.natAbs<2^n
theorem Bt.neg {n:Nat} {i:Int} (h1:Bt n i):Bt n (-i):=by
 unfold Bt at *
 omega
theorem Bt.le {n:Nat} {i j:Int} (h:Bt n j) (q:i.natAbs<=j.natAbs):Bt n i:=Nat.lt_of_le_of_lt q h
theorem Bt.of {n:Nat} {i:Int} (b:Nat) (h1:-(b:Int)<=i) (h2:i<=(b:Int)) (h:b<2^n:=by decide +kernel):Bt n i:=by
 unfold Bt
 exact Nat.lt_of_le_of_lt (by omega) h
theorem Bt.log {n:Nat} {i:Int} (h:Bt n i) (q:n<=9000:=by decide):i.natAbs.log2<9000:=by
 by_cases z:i.natAbs=0
 ·rw[z];decide
 ·exact YJ ((Nat.log2_lt z).mpr h) q
theorem bC {i j:Int} (h1:-(2^64)<i:=by decide) (h2:i<2^64:=by decide):IntMulOk i j:=.of_left (intBits_le_64 h1 h2)
theorem Jo {i j:Int} (h1:-(2^64)<j:=by decide) (h2:j<2^64:=by decide):IntMulOk i j:=.of_right (intBits_le_64 h1 h2)
section
variable {X : Cx}
theorem ba:jo X (binaryOp .Mult) (rI IntMulOk λi j=>.int (i*j)):=L8 λ_ _ _ _ _ _ _ hc q=>mul_int q hc
noncomputable def lM (_ j:Int):Prop:=0<j/\j.natAbs.log2<9000
theorem lM.of {i j:Int} {n:Nat} (h:0<j) (b:Bt n j) (q:n<=9000:=by decide):lM i j:=⟨h,b.log q⟩
theorem lM.lit {i j:Int} (h:0<j:=by decide) (q:j.natAbs.log2<9000:=by decide):lM i j:=⟨h,q⟩
theorem lN:jo X (binaryOp .FloorDiv) (rI lM λi j=>.int (i / j)):=L8 λi j _ _ _ _ _ hc q=>by
 have h1:(0:Int)<j:=hc.1
 exact floordiv_int (by omega) (by rw[Int.fdiv_eq_ediv_of_nonneg i (by omega)];exact q) (.inl (PyProof.noPylong_of_log2 hc.2))
noncomputable def qr (_ j:Int):Prop:=j≠0/\j.natAbs.log2<9000
theorem qr.of {i j:Int} {n:Nat} (h:j≠0) (b:Bt n j) (q:n<=9000:=by decide):qr i j:=⟨h,b.log q⟩
theorem xo:jo X (binaryOp .FloorDiv) (rI qr λi j=>.int (i.fdiv j)):=L8 λ_ _ _ _ _ _ _ hc q=>floordiv_int hc.1 q (.inl (PyProof.noPylong_of_log2 hc.2))
theorem dM:jo X (binaryOp .Mod) (rI (λ_ j=>0<j) λi j=>.int (i % j)):=IW
noncomputable def rIxTH:R2:=λx y H Q=>∃p xs i v,x=.ref p/\y=.int i/\H p=some (.tup xs)/\lJ xs i=some v/\Q v H
theorem ai:Fy X rIxTH:=λvalue slice pins s σ H x y v u Q I rx ry ⟨p,xs,i,z,e1,e2,e3,e4,q⟩ hs=>
 I0 value slice pins s σ H x y v u Q I rx ry ⟨p,xs,i,z,e1,e2,jn.of e3,e4,q⟩ hs
noncomputable def rIxLH:R2:=λx y H Q=>∃p xs i v,x=.ref p/\y=.int i/\H p=some (.lst xs)/\lJ xs i=some v/\Q v H
theorem aQ:Fy X rIxLH:=λvalue slice pins s σ H x y v u Q I rx ry ⟨p,xs,i,z,e1,e2,e3,e4,q⟩ hs=>
 AH value slice pins s σ H x y v u Q I rx ry ⟨p,xs,i,z,e1,e2,bI.of e3,e4,q⟩ hs
noncomputable def tTupS (t:TA):TE:=λσ H Q=>t σ H λxs H1=>xs.length<=sizeLine/\∀p H2,aD H1 H2->H1 p=none->H2 p=some (.tup xs)->Q (.ref p) H2
theorem aA {H:Hp} {p:Addr} {o:HO} (h:H p=none):aD H (upd H p o):=λb u e=>by
 rw[aw (eE e h)]
 exact e
theorem a5 {es:List Expr} {t:TA} {x1} {pos:Pos} (h:PA X es t):PE X (.Tuple es x1 pos) (tTupS t):=λpins s σ H Q I hq=>
 cD (h:=wpAny_Tuple_spliced (cD (h pos pins s σ H _ I hq) λus s1 ⟨xs,H1,I1,r,z,q⟩=>⟨by rw[<-r.length];exact z,by
  have hf:H1 s1.heap.objs.size=none:=I1.bR.fresh (Yt _)
  refine⟨.ref s1.heap.objs.size,upd H1 s1.heap.objs.size (.tup xs),I1.laid (t':=s1.toks) (λb u e=>Heap.get?_push_of_some _ e) (Yt _) ?_,rfl,q _ _ (aA hf) hf aj⟩
  exact⟨z,us,r,⟨_,Heap.get?_push_size _ rfl,rfl,_,rfl⟩⟩⟩)) λ_ _ z=>z
theorem bq:cX X (.builtin "len") (λxs H Q=>∃p ys,xs=[.ref p]/\H p=some (.lst ys)/\Q (.int ys.length) H):=λpins s σ H xs us Q I r ⟨p,ys,e,h,q⟩=>
 lL pins s σ H xs us Q I r ⟨p,ys,e,.inl (bI.of h),q⟩
theorem B6:cX X (.builtin "len") (λxs H Q=>∃p ns,xs=[.ref p]/\bI X.K H p (List.map V.int ns)/\Q (.int (List.length ns:Nat)) H):=λpins s σ H xs us Q I r ⟨p,ns,e,h,q⟩=>
 lL pins s σ H xs us Q I r ⟨p,_,e,.inl h,by rw[Yr];exact q⟩
noncomputable def Jp (K:PySem.W.Frag):R2:=λx y H Q=>∃p ns i,x=.ref p/\y=.int i/\bI K H p (List.map V.int ns)/\0<=i/\i< (List.length ns:Nat)/\Q (.int (ns.getD i.toNat 0)) H
theorem xp {ns:List Int} {i:Int} (h0:0<=i) (h1:i< (ns.length:Nat)):lJ (ns.map V.int) i=some (.int (ns.getD i.toNat 0)):=by
 obtain⟨j,rfl⟩:=Int.eq_ofNat_of_zero_le h0
 refine bP ?_
 have hj:j<ns.length:=by omega
 rw[Yu,Yw hj]
 simp [Za,Yw hj]
theorem Dm:Fy X (Jp X.K):=λvalue slice pins s σ H x y v u Q I rx ry ⟨p,ns,i,e1,e2,e3,h0,h1,q⟩ hs=>
 AH value slice pins s σ H x y v u Q I rx ry ⟨p,_,i,_,e1,e2,e3,xp h0 h1,q⟩ hs
structure bX (P:Program) (w:World) (K:PySem.W.Frag) (mg:Str->Option Value) (base:Heap) (CX:nz) (k:Nat) (x:Str) (ps:List Str) (sp:Sp):Prop where
 ex:∃f fd,fF P w K mg base CX k f fd ps sp/\mg x=some (.ref f)/\PySem.W.keepIn K (.ref f)=true/\Binds K fd ps []
theorem aK {CX:nz} {k:Nat} {x:Str} {ps:List Str} {sp:Sp} {E:XK} {e:Expr} {es:List Expr} {t:TA} {p pos:Pos} (C:bX X.prog X.w X.K X.mg X.base CX k x ps sp) (hr:dW k X.A) (hg:Gl X x) (hx:eW CX X E) (ha:PA X (e::es) t)
  (BW:(x==("__debug__":Str))=false:=by decide) (he:starEach (e::es) X.env=(false,eval e X.env)::starEach es X.env:=by rfl) (hpl:(backTo pos (starEach es X.env)).any (·.1)=false:=by rfl):
  PE X (.Call (.Name x p) (e::es) [] pos) (tCall sp [] E t):=by
 obtain⟨f,fd,F,hm,hk,hb⟩:=C.ex
 exact F0 F hr hg hm hk hb .nil hx ha BW he hpl
end
noncomputable def vd (CX:nz):Prop:=∀outer H s e s',¬CX outer H s (λ_ _ _=>False) e s'
theorem vd.pass {CX:nz} (h:vd CX) {X:Cx}:eW CX X E0:=λ_ _ H s e s' _ z=>(h _ H s e s' z).elim
section
variable {P : Program} {w : World} {K : PySem.W.Frag} {mg : Str -> Option Value} {base : Heap} {CX : nz}
theorem zq.d3 {x qual:Str} {st:Stmt} {f:Addr} {fd:FuncData} {N ps:List Str} {k:Nat} {sp:Sp} (F:zq K x qual st f fd) (S:aT N ps (ar st)) (len:∀vs H Q E,sp vs H Q E->vs.length=ps.length)
  (xb:∀(bT:Value) (A:Around) (outer:List Env) (s:Shared) (H:Hp) (vs:List V) (Q:VK) (E:XK),dW k (A.deeper (envOfC qual (ar st) s.heap.objs.size f bT))->sp vs H Q E->
   ∃t,yR (iA CX P w K mg base N qual (ar st) f bT A outer s H E).NU (bo st) t/\t {nx:=λ_ H'=>Q .cP H',rt:=Q} (start N vs) H):fF P w K mg base CX (k+1) f fd ps sp:=by
 obtain⟨oc,od,kV,doc,pm,an,bT,ct,F3,rfl,lk,BI⟩:=F.ex
 refine HK lk BI S len λA outer s H vs Q E hr Fx=>?_
 obtain⟨t,h,q⟩:=xb bT A outer s H vs Q E hr Fx
 exact⟨t,h.NU,q⟩
structure Dn (K:PySem.W.Frag) (mg:Str->Option Value) (x:Str) (st:Stmt):Prop where
 ex:∃f fd,zq K x x st f fd/\mg x=some (.ref f)
theorem Dn.du {x:Str} {st:Stmt} {ps:List Str} {k:Nat} {sp:Sp} (D:Dn K mg x st)
  (hb:∀(kV doc pm:Value) (an:Option Addr) (bT ct:Value) (us:List Value),us.length=ps.length->bindArgs (PySem.W.fnOf x x (br st) (bo st) (ar st) .none kV doc pm an bT ct) ⟨us,[]⟩=pure (ps.zip us))
  (h:∀f fd,zq K x x st f fd->fF P w K mg base CX k f fd ps sp):bX P w K mg base CX k x ps sp:=by
 obtain⟨f,fd,F,hm⟩:=D.ex
 exact⟨f,fd,h f fd F,hm,F.kp,F.binds hb⟩
end
section
variable {X : Cx}
noncomputable def RC (xs ys:List V):Bool:=(List.range (min xs.length ys.length)).all (λj=>Dc (xs.getD j .cP) (ys.getD j .cP)) && xs.length==ys.length
noncomputable def rEqT:R2:=λx y H Q=>∃p q xs ys,x=.ref p/\y=.ref q/\H p=some (.tup xs)/\H q=some (.tup ys)/\xs.all fG=true/\ys.all fG=true/\Q (.bl (RC xs ys)) H
noncomputable def rInT:R2:=λx y H Q=>∃p xs,y=.ref p/\H p=some (.tup xs)/\fG x=true/\xs.all fG=true/\Q (.bl (HL x xs)) H
theorem zr:jo X (compareOp .In) rInT:=λpins s σ H x y v u Q I rx ry ⟨p,xs,e1,e2,f1,f2,q⟩=>
 BY pins s σ H x y v u Q I rx ry ⟨p,xs,e1,.inr (jn.of e2),f1,f2,q⟩
theorem Dp:cX X (.builtin "isinstance") (λxs H Q=>∃x c t b,xs=[x,.ty c]/\lI X.K H x t/\PySem.W.kitOne X.K t (.type c)=some b/\Q (.bl b) H):=by
 intro pins s σ H xs us Q I r h
 obtain⟨x,c,t,b,rfl,ty,e,q⟩:=h
 obtain⟨u,u',rfl,rx,rc⟩:=vals2 r
 cases rc
 exact BV I rx ty e λtk=>⟨.bl b,H,I.tok tk,rfl,q⟩
end
theorem at0 {α:Type} {x:α} {l:List α}:lJ (x::l) 0=some x:=bP (j:=0) rfl
theorem at1 {α:Type} {x y:α} {l:List α}:lJ (x::y::l) 1=some y:=bP (j:=1) rfl
theorem at2 {α:Type} {x y z:α} {l:List α}:lJ (x::y::z::l) 2=some z:=bP (j:=2) rfl
noncomputable def Pr (a b:Int):List V:=[.int a,.int b]
end L2
namespace Nm
noncomputable def g (a b:Int):Int:=(Int.gcd a b:Nat)
theorem Mp (a b:Int):0<=g a b:=Int.natCast_nonneg _
theorem Dq {a b:Int} (h:b≠0):0<g a b:=by
 have:=Int.gcd_pos_of_ne_zero_right a h
 unfold g
 omega
theorem AK (a b:Int):g a b∣a:=Int.gcd_dvd_left ..
theorem jh (a b:Int):g a b∣b:=Int.gcd_dvd_right ..
theorem ve (a b:Int):g a b=g b a:=by unfold g;rw[Int.gcd_comm]
theorem Mq {a b:Int} (h:0<b):g a b<=b:=Int.le_of_dvd h (jh a b)
theorem Dr (a b:Int):g (a.natAbs:Int) b=g a b:=by
 unfold g Int.gcd
 rw[Int.natAbs_natCast]
theorem AL (a b:Int):g a (b.natAbs:Int)=g a b:=by
 rw[ve,Dr,ve]
theorem HN (a b:Int):g (-a) b=g a b:=by
 unfold g Int.gcd
 rw[Int.natAbs_neg]
theorem Ds {a b:Int} (ha:0<=a) (Xb:0<b):g b (a % b)=g a b:=by
 unfold g Int.gcd
 rw[Int.natAbs_emod_of_nonneg ha,Nat.gcd_comm b.natAbs,<-Nat.gcd_rec,Nat.gcd_comm]
theorem Dt {a:Int} (ha:0<=a):g a 0=a:=by
 unfold g
 rw[Int.gcd_zero_right]
 omega
theorem Du {a b:Int} (h:b≠0):g a b<=(b.natAbs:Int):=by
 rw[<-AL]
 exact Mq (by omega)
theorem Gd {a b:Int} (h:b≠0):g (a / g a b) (b / g a b)=1:=by
 have p:0<Int.gcd a b:=Int.gcd_pos_of_ne_zero_right a h
 unfold g
 rw[Int.gcd_ediv_gcd_ediv_gcd p]
 rfl
theorem Ge {a b:Int} (h:0<b):0<b / g a b:=Int.ediv_pos_of_pos_of_dvd h (Mp a b) (jh a b)
theorem B7 (a b:Int):(a / g a b)*b=a* (b / g a b):=by
 rw[<-Int.mul_ediv_assoc _ (jh a b),Int.mul_comm a b,Int.mul_ediv_assoc _ (AK a b),Int.mul_comm]
theorem Gf {q a b:Int} (h:q∣a*b) (c:Int.gcd a q=1):q∣b:=by
 have h1:=(Int.dvd_gcd_mul_iff_dvd_mul (k:=q) (n:=a) (m:=b)).mpr h
 rw[Int.gcd_comm,c] at h1
 simpa using h1
theorem back {a b c d p q x y:Int} (hq:0<q) (hd:0<d) (e:p* (b*d)=(a*d - c*b)*q) (f:x* (q*d)=(p*d+c*q)*y):x*b=a*y:=by
 have h:(x*b)* (q*d)=(a*y)* (q*d):=by grind
 exact Int.eq_of_mul_eq_mul_right (by have:=Int.mul_pos hq hd;omega) h
end Nm
namespace L2
open PySem PySem.Spec PyProof.Rows PySem.W
theorem cF.get {P:Program} {w:World} {H:Hp} {h:Heap} {a:Addr}:∀{o:HO},cF P w H h a o->∃ob,h.get? a=some ob
 | .lst _,x=>let ⟨_,_,_,_,e⟩:=x;⟨_,e⟩
 | .tup _,x=>let ⟨_,_,_,o,e,_⟩:=x;⟨o,e⟩
 | .dK _,x=>let ⟨_,_,_,_,o,_,_,e,_⟩:=x;⟨o,e⟩
 | .dT _,x=>let ⟨_,_,_,_,o,_,_,e,_⟩:=x;⟨o,e⟩
 | .set _ _,x=>by
  obtain⟨o,es,ep,t,e,_⟩:=x
  exact⟨o,e⟩
 | .ins _ _ _,x=>let ⟨_,_,_,e,_⟩:=x;⟨_,e⟩
 | .own _,x=>x
 | .xd _,x=>by
  obtain⟨mA,⟨o,es,ep,e,_⟩,_⟩:=x
  exact⟨o,e⟩
 | .NP _ _,x=>let ⟨_,_,_,e⟩:=x;⟨_,e⟩
 | .wI _ _,x=>⟨_,x.1⟩
 | .Ft _,⟨_,x,_⟩=>⟨_,x⟩
 | .met _ _,x=>⟨_,x⟩
 | .ext _,x=>x.2.1
theorem gB.RD {P:Program} {w:World} {H:Hp} {h h' B:Heap} (ok:gB P w H h) (hB:∀b u o,H b=some u->h.get? b=some o->B.get? b=some o) (st:B.StaysIn h'):gB P w H h':=λa o e=>
 (ok a o e).uY (λb u hb q=>st b u (by
  rcases hb with rfl | hb
  ·exact hB _ _ _ e q
  ·exact hB _ _ _ hb q)) (λ_ r=>r) λ_ _ r=>r
structure TZ (P:Program) (w:World) (l:List Env) (H:Hp) (s:Shared) (H':Hp) (ad:Addr) (cls:Value) (s':Shared):Prop where
 os:s'.os=s.os
 bare:AllBare s'.gens
 un:Un (gT l) [] H H' s.heap s'.heap
 bR:gB P w H' s'.heap
 fl:∃B a0,Heap.FlyingW B l ad cls a0 s'.heap/\(∀b o,s.heap.get? b=some o->H b=none->b∉gT l->B.get? b=some o)/\(∀b o,s.heap.get? b=some o->b∉gT l->∃o',B.get? b=some o')/\
  (∀b u o,H' b=some u->s'.heap.get? b=some o->B.get? b=some o)
noncomputable def bg (P:Program) (w:World):nz:=λl H s E e s'=>∃ad cls H',e=.ref ad/\TZ P w l H s H' ad cls s'/\E cls none H'
theorem AM (P:Program) (w:World):vd (bg P w):=λ_ _ _ _ _ ⟨_,_,_,_,_,h⟩=>h
section
variable {P : Program} {w : World} {K : PySem.W.Frag} {mg : Str -> Option Value} {base : Heap} {N : List Str} {qual : Str} {scope : Scope} {f : Addr} {bT : Value} {A : Around} {outer : List Env} {s0 : Shared} {H0 : Hp} {E : XK}
theorem Dv {pins:List (Addr×Obj)} {σ:St} {H:Hp} {s:Shared} {h':Heap} {ad:Addr} {cls:Value} {vs:List Value}
  (I:Inv (iA (bg P w) P w K mg base N qual scope f bT A outer s0 H0 E) pins σ H s) (mx:Heap.MadeExcOf s.heap h' ad cls vs) (e:E cls none H):
  (iA (bg P w) P w K mg base N qual scope f bT A outer s0 H0 E).xe (.ref ad) {s with heap:=h'}:=by
 let env:Env:=envOfC qual scope s0.heap.objs.size f bT
 have Jq:∀b o,s0.heap.get? b=some o->b∉gT outer->b∉gT (env::outer):=λb o q hb z=>by
  rcases List.mem_cons.mp (show b∈s0.heap.objs.size::gT outer from z) with z | z
  ·rw[z] at q
   exact absurd (Heap.lt_size q) (YW _)
  ·exact hb z
 have N4:∀b,b∈gT outer->b∈gT (env::outer):=λb hb=>List.mem_cons.mpr (.inr hb)
 have ST:s.heap.FunFrames base (env::outer):=I.stack
 have SF:∀b∈gT (env::outer),H b=none:=I.u3
 have BS:Un (gT outer) [] H0 H s0.heap s.heap:=I.base
 show wpAny (model P w) (A.deeper env) (leaving env (.ref ad)) (λ_ ze=>bg P w outer H0 s0 E (.ref ad) ze) (λe' ze=>bg P w outer H0 s0 E e' ze) {s with heap:=h'}
 refine wpAny_leaves_madeW (base:=hideAll s.heap (gT (env::outer))) (h:=s.heap) (L:=s0.heap.objs.size) I.ok.frames rfl (λb o q=>of_hideAll _ q)
  (funFrames_hide ST λen he a ha=>List.mem_filterMap.mpr ⟨en,he,ha⟩) mx λh2 t x1 _ _ x4=>?_
 have x4:Heap.UpToSlots h' h2:=x4
 have fr:∀b∈gT (env::outer),∀o,s.heap.get? b=some o->∃sl,h2.get? b=some {o with slots:=sl}:=λb hb o q=>by
  obtain⟨_,o1,q1,nf⟩:=ST.mem hb
  rw[q] at q1
  cases q1
  exact x4 b o (mx.keeps b o q) nf
 refine⟨ad,cls,H,rfl,⟨I.os,I.bare,⟨λb o q n hb hx=>?_,λb o q n hb hx=>?_,BS.free,λb o q hx=>?_,BS.m8,BS.lE,BS.ng⟩,?_,⟨_,_,x1,λb o q n hb=>?_,λb o q hb=>?_,λb u o e1 q=>?_⟩⟩,e⟩
 ·exact x1.1 b o (hideAll_get _ (BS.keep b o q n hb hx) (Jq b o q hb))
 ·obtain⟨sl,q1⟩:=BS.slot b o q n hb hx
  obtain⟨Jr,q2⟩:=fr b (N4 b hb) _ q1
  exact⟨Jr,q2⟩
 ·obtain⟨o1,q1⟩:=BS.there b o q hx
  by_cases hb:b∈gT (env::outer)
  ·obtain⟨Jr,q2⟩:=fr b hb _ q1
   exact⟨_,q2⟩
  ·exact⟨o1,x1.1 b o1 (hideAll_get _ q1 hb)⟩
 ·exact gB.RD I.bR (λb u o e1 q=>hideAll_get _ q λz=>by
   have:=SF b z
   rw[e1] at this
   cases this) x1.1
 ·exact hideAll_get _ (BS.keep b o q n hb (by simp)) (Jq b o q hb)
 ·obtain⟨o1,q1⟩:=BS.there b o q (by simp)
  exact⟨o1,hideAll_get _ q1 (Jq b o q hb)⟩
 ·obtain⟨o1,q1⟩:=(I.bR b u e1).get
  have q2:=hideAll_get (gT (env::outer)) q1 λz=>by
   have:=SF b z
   rw[e1] at this
   cases this
  have q3:=x1.1 b o1 q2
  rw[q] at q3
  cases q3
  exact q2
theorem AN:eW (bg P w) (iA (bg P w) P w K mg base N qual scope f bT A outer s0 H0 E) E:=by
 intro pins σ H s e s' I c
 let env:Env:=envOfC qual scope s0.heap.objs.size f bT
 obtain⟨ad,cls,H',rfl,F,he⟩:=c
 have Jq:∀b o,s0.heap.get? b=some o->b∉gT outer->b∉gT (env::outer):=λb o q hb z=>by
  rcases List.mem_cons.mp (show b∈s0.heap.objs.size::gT outer from z) with z | z
  ·rw[z] at q
   exact absurd (Heap.lt_size q) (YW _)
  ·exact hb z
 have N4:∀b,b∈gT outer->b∈gT (env::outer):=λb hb=>List.mem_cons.mpr (.inr hb)
 have ST:s.heap.FunFrames base (env::outer):=I.stack
 have BS:Un (gT outer) [] H0 H s0.heap s.heap:=I.base
 have FU:Un (gT (env::outer)) [] H H' s.heap s'.heap:=F.un
 obtain⟨B,a0,fl,c0,c2,c1⟩:=F.fl
 have fl:Heap.FlyingW B (env::outer) ad cls a0 s'.heap:=fl
 have c0:∀b o,s.heap.get? b=some o->H b=none->b∉gT (env::outer)->B.get? b=some o:=c0
 have c2:∀b o,s.heap.get? b=some o->b∉gT (env::outer)->∃o',B.get? b=some o':=c2
 show wpAny (model P w) (A.deeper env) (leaving env (.ref ad)) (λ_ ze=>bg P w outer H0 s0 E (.ref ad) ze) (λe' ze=>bg P w outer H0 s0 E e' ze) s'
 refine wpAny_leaves_onW (L:=s0.heap.objs.size) I.ok.frames rfl fl λh2 x1 x2=>?_
 have fr:∀b∈gT (env::outer),∀o,s'.heap.get? b=some o->∃sl,h2.get? b=some {o with slots:=sl}:=λb hb o q=>by
  obtain⟨_,o1,q1,nf⟩:=fl.2.2.1.mem hb
  rw[q] at q1
  cases q1
  exact x2 b o q nf
 refine⟨ad,cls,H',rfl,⟨F.os.trans I.os,F.bare,⟨λb o q n hb hx=>?_,λb o q n hb hx=>?_,λb o q n hx=>?_,λb o q hx=>?_,λb xs q=>FU.m8 b xs (BS.m8 b xs q),λb o u q=>FU.lE b o u (BS.lE b o u q),λb ps q=>?_⟩,F.bR.RD c1 x1.1,
  ⟨B,a0,x1,λb o q n hb=>?_,λb o q hb=>?_,λb u o e1 q=>?_⟩⟩,he⟩
 ·exact x1.1 b o (c0 b o (BS.keep b o q n hb hx) (BS.free b o q n hx) (Jq b o q hb))
 ·obtain⟨sl,q1⟩:=BS.slot b o q n hb hx
  obtain⟨Xc,q2⟩:=FU.slot b _ q1 (BS.free b o q n hx) (N4 b hb) hx
  obtain⟨Jr,q3⟩:=fr b (N4 b hb) _ q2
  exact⟨Jr,q3⟩
 ·obtain⟨o1,q1⟩:=BS.there b o q hx
  exact FU.free b o1 q1 (BS.free b o q n hx) hx
 ·obtain⟨o1,q1⟩:=BS.there b o q hx
  by_cases hb:b∈gT (env::outer)
  ·obtain⟨o2,q2⟩:=FU.there b o1 q1 hx
   obtain⟨Jr,q3⟩:=fr b hb _ q2
   exact⟨_,q3⟩
  ·obtain⟨o2,q2⟩:=c2 b o1 q1 hb
   exact⟨o2,x1.1 b o2 q2⟩
 ·obtain⟨m1,e1⟩:=BS.ng b ps q
  obtain⟨m2,e2⟩:=FU.ng b _ e1
  exact⟨m1++m2,by rw[e2,Array.append_assoc]⟩
 ·exact c0 b o (BS.keep b o q n hb (by simp)) (BS.free b o q n (by simp)) (Jq b o q hb)
 ·obtain⟨o1,q1⟩:=BS.there b o q (by simp)
  exact c2 b o1 q1 (Jq b o q hb)
 ·obtain⟨o1,q1⟩:=(F.bR b u e1).get
  have q2:=c1 b u o1 e1 q1
  have q3:=x1.1 b o1 q2
  rw[q] at q3
  cases q3
  exact q2
end
end L2
namespace L2
open PySem PySem.Spec PyProof.Rows PySem.W
set_option tactic.hygienic true in
theorem Gg {K:Frag} {h:Heap} {C:Addr} {RE:List Value} {newId:String} (X:K.In h) (q:excIn K C RE newId=true):
  ∃tl N nm qn bs hdct sn sub ab col dd k0 k1 k2 k3 k5 mN,h.get? C=some (excClassObj nm qn C N bs tl hdct sn sub ab col dd k0 k1 k2 k3 k5 newId)/\h.Ns N mN/\mN "__init__"=none/\OwnTail h RE tl:=by
 unfold excIn at q
 split at q
 ·rename_i dd cd sl ho
  split at q
  ·rename_i C' bm k0 k1 k2 k3 n k5 hm hs
   simp only[YY,beq_iff_eq,Bool.not_eq_true'] at q
   obtain⟨⟨⟨⟨⟨rfl,rfl⟩,Mr⟩,ht⟩,bR⟩,N5⟩:=q
   obtain⟨nm,bs,mro,ns,qn,hd,sn,sub,ab,col,del⟩:=cd
   dsimp only at hm Mr bR N5
   subst hm Mr
   have zt:sl=#[k0,k1,k2,k3,some (.builtin n),k5]:=by
    obtain⟨l⟩:=sl
    simp only at hs
    rw[hs]
   subst zt
   exact⟨bm,ns,nm,qn,bs,hd,sn,sub,ab,col,dd,k0,k1,k2,k3,k5,_,X _ _ ho,.of_isNs (isNs_of_in X bR),nsMap_none_of_in X bR N5,tail_of_in X ht⟩
  ·cases q
 ·cases q
abbrev vf:List Value:=[.type "ValueError",.type "Exception",.type "BaseException",.type "object"]
abbrev lO:String:="ValueError.__new__"
noncomputable def tRaise (C:Addr) (E:XK) (t:TA):TS:=λ_ σ H=>t σ H λvs H1=>vs.length<=sizeLine/\E (.ref C) none H1
section
variable {P : Program} {w : World} {K : PySem.W.Frag} {mg : Str -> Option Value} {base : Heap} {N : List Str} {qual : Str} {scope : Scope} {f : Addr} {bT : Value} {A : Around} {outer : List Env} {s0 : Shared} {H0 : Hp} {E : XK}
theorem eR {x:Str} {C:Addr} {np dB pos:Pos} {e:Expr} {es:List Expr} {t:TA} (hg:Gl (iA (bg P w) P w K mg base N qual scope f bT A outer s0 H0 E) x) (hm:mg x=some (.ref C)) (q:excIn K C vf lO=true)
  (hh:A.handled=none) (ha:PA (iA (bg P w) P w K mg base N qual scope f bT A outer s0 H0 E) (e::es) t) (BW:(x==("__debug__":Str))=false:=by decide)
  (he:starEach (e::es) (iA (bg P w) P w K mg base N qual scope f bT A outer s0 H0 E).env=(false,eval e (iA (bg P w) P w K mg base N qual scope f bT A outer s0 H0 E).env)::starEach es (iA (bg P w) P w K mg base N qual scope f bT A outer s0 H0 E).env:=by rfl)
  (hpl:(backTo dB (starEach es (iA (bg P w) P w K mg base N qual scope f bT A outer s0 H0 E).env)).any (·.1)=false:=by rfl):
  PS (iA (bg P w) P w K mg base N qual scope f bT A outer s0 H0 E) (.Raise (some (.Call (.Name x np) (e::es) [] dB)) none pos) (tRaise C E t):=by
 intro pins s σ H D I h
 have FB:=PySem.F.excBase_ValueError
 obtain⟨tl,Nn,nm,qn,bs,hdct,sn,sub,ab,col,dd,k0,k1,k2,k3,k5,mN,hC,hN,N5,T⟩:=Gg I.ok.mod.Lo q
 refine wpAny_Raise_call_subT (C:=C) (nm:=nm) (q:=qn) (N:=Nn) (bs:=bs) (bm:=tl) (hdct:=hdct) (sn:=sn) (sub:=sub) (ab:=ab) (col:=col) (dd:=dd) (k0:=k0) (k1:=k1) (k2:=k2) (k3:=k3) (k5:=k5)
  FB (mN:=mN) (T.hasType FB.hasBase) hh (by rw[he];show(false || (backTo dB (starEach es _)).any (·.1))=false;rw[hpl];rfl) N5 (pT I hg hm ⟨rfl,?_⟩ BW)
 rw[he]
 have RF:=ha dB pins s σ H _ I h
 rw[he] at RF
 refine Calls.evalArgs_plain (cD RF λus s1 ⟨vs,H1,I1,r,z,k⟩=>⟨rfl,by rw[<-r.length];exact z,I1.bk _ _ hC,hN.keeps I1.bk,T.keeps I1.bk,λh' ad mx=>?_⟩)
 exact Dv I1 mx k
end
section
variable {X : Cx} {pins : List (Addr × Obj)} {σ : St} {H H' : Hp} {s s' : Shared}
abbrev Cx.mark (X:Cx) (ad:Addr):Cx:={X with A:=X.A.mark (some (.ref ad)),calm:=false,xe:=λ_ _=>False}
end
section
variable {X : Cx} {CX : nz} {k : Nat} {x : Str} {ps : List Str} {sp : Sp} {E : XK} {e : Expr} {es : List Expr} {t : TA} {p pos : Pos}
variable {cx n : Str} {np Ms Mt sQ : Pos} {b₀ : Stmt} {HP : List Stmt} {i : Nat} {ts : TS} {C2 : Addr}
end
end L2
namespace Nm
noncomputable def st (a b:Int):Int:=if b<0 then -(a / g a b) else a / g a b
noncomputable def sb (a b:Int):Int:=if b<0 then -(b / g a b) else b / g a b
theorem Dw {a d:Int} (h:0<d):a.fdiv d=a / d:=Int.fdiv_eq_ediv_of_nonneg a (by omega)
theorem Dx {a d:Int} (h:0<d) (dv:d∣a):a.fdiv (-d)= -(a / d):=by
 obtain⟨k,rfl⟩:=dv
 rw[Int.mul_ediv_cancel_left _ (by omega),show d*k=(-d)* (-k) by rw[Int.neg_mul_neg]]
 exact Int.mul_fdiv_cancel_left _ (by omega)
set_option tactic.hygienic true in
theorem Js {a b:Int} (h:b≠0):0<sb a b:=by
 have g0:=Dq (a:=a) h
 unfold sb
 split
 ·rename_i hb
  have h1:0< (-b) / g a b:=Int.ediv_pos_of_pos_of_dvd (by omega) (Mp a b) (Int.dvd_neg.mpr (jh a b))
  rw[Int.neg_ediv_of_dvd (jh a b)] at h1
  exact h1
 ·exact Ge (by omega)
theorem Gh (a b:Int):g a (-b)=g a b:=by rw[ve,HN,ve]
theorem Jt {a b:Int} (h:b≠0):g (st a b) (sb a b)=1:=by
 have e:=Gd (a:=a) h
 unfold st sb
 split
 ·rw[HN,Gh];exact e
 ·exact e
theorem Dy (a b:Int):st a b*b=a*sb a b:=by
 have e:=B7 a b
 unfold st sb
 split
 ·rw[Int.neg_mul,e,Int.mul_neg]
 ·exact e
theorem Ju {a b:Int} (h:0<b):st a b=a / g a b/\sb a b=b / g a b:=by
 unfold st sb
 rw[if_neg (by omega),if_neg (by omega)]
 exact⟨rfl,rfl⟩
end Nm
namespace L2
open PySem PySem.Spec PyProof.Rows
section
variable {P : Program} {w : World} {K : PySem.W.Frag} {mg : Str -> Option Value} {base : Heap} {CX : nz}
theorem zq.Jv {x qual:Str} {st:Stmt} {f:Addr} {fd:FuncData} {N ps:List Str} {k:Nat} {sp:Sp} (F:zq K x qual st f fd) (S:aT N ps (ar st)) (len:∀vs H Q E,sp vs H Q E->vs.length=ps.length)
  (xb:∀(bT:Value) (A:Around) (outer:List Env) (s:Shared) (H:Hp) (vs:List V) (Q:VK) (E:XK),dW k (A.deeper (envOfC qual (ar st) s.heap.objs.size f bT))->sp vs H Q E->
   ∃t,yR (iA CX P w K mg base N qual (ar st) f bT A outer s H E) (bo st) t/\t {nx:=λ_ H'=>Q .cP H',rt:=Q} (start N vs) H):fF P w K mg base CX (k+1) f fd ps sp:=by
 obtain⟨oc,od,kV,doc,pm,an,bT,ct,F3,rfl,lk,BI⟩:=F.ex
 exact HK lk BI S len λA outer s H vs Q E hr Fx=>xb bT A outer s H vs Q E hr Fx
end
noncomputable def noStar:Expr->Bool
 | .Starred _ _=>false
 | _=>true
theorem se {e:Expr} {es:List Expr} {env:Env} (h:noStar e=true):starEach (e::es) env=(false,eval e env)::starEach es env:=by
 cases e <;>first | rfl | exact absurd h YF
theorem na {env:Env} {pos:Pos}:∀{es:List Expr},es.all noStar=true->(backTo pos (starEach es env)).any (·.1)=false
 | [],_=>rfl
 | e::es,h=>by
  rw[List.all_cons,YY] at h
  rw[se h.1]
  show(false || (backTo pos (starEach es env)).any (·.1))=false
  rw[na h.2]
  rfl
end L2
namespace L2
open PySem PySem.Spec PyProof.Rows PySem.W
structure O6 (K:PySem.W.Frag) (C:Addr):Prop where
 cls:(clsIn K C).isSome=true
 ga:findIn K (.ref C) "__getattribute__"=some (some (.builtin "BaseException.__getattribute__"))
 gt:findIn K (.ref C) "__getattr__"=some none
 cl:findIn K (.ref C) "__class__"=some (some (.builtin "object.__class__"))
 be:mroIn K C (.type "BaseException")=some true
 ob:mroIn K C (.type "object")=some true
section
variable {prog : Program} {w : World} {A : Around} {E : Value -> Shared -> Prop} {K : PySem.W.Frag} {h : Heap} {g : Array GenState} {d : Drawn} {t : Nat} {os : OsState} {a C : Addr} {o : Obj}
end
section
variable {X : Cx}
end
end L2
namespace L2
open PySem PySem.Spec PyProof.Rows
theorem kz {env:Env}:∀(names:List (Str×NameKind)) (cs:List (Str×Addr)),(∀n,(n,NameKind.free)∈names->∃c,env.cells.lookup n=some c)->(∀x c,cs.lookup x=some c->env.cells.lookup x=some c)->
  ∃cl,(forIn names cs fun(x:Str×NameKind) (r:List (Str×Addr))=>(if (x.2==NameKind.free)=true then do let c <-cellOf env x.1;pure (ForInStep.yield ((x.1,c)::r)) else pure (ForInStep.yield r):Sem (ForInStep (List (Str×Addr)))))=pure cl/\
   (∀x c,cl.lookup x=some c->env.cells.lookup x=some c)/\(∀n,((n,NameKind.free)∈names\/(cs.lookup n).isSome=true)->∃c,cl.lookup n=some c)/\(∀x c,(x,c)∈cl->(env.cells.lookup x=some c/\(x,NameKind.free)∈names)\/(x,c)∈cs)
 | [],cs,_,h=>⟨cs,rfl,h,(λn hn=>by
   rcases hn with hn | hn
   ·exact absurd hn (by simp)
   ·exact Option.isSome_iff_exists.mp hn),λx c m=>.inr m⟩
 | (n,k)::r,cs,hf,h=>by
  by_cases hk:k=.free
  ·subst hk
   obtain⟨c,hc⟩:=hf n YA
   obtain⟨cl,e,h1,h2,h3⟩:=kz r ((n,c)::cs) (λm hm=>hf m (Yz _ hm)) (λx c' hx=>by
    rw[YQ] at hx
    cases q:x==n with
    | true=>
     rw[q] at hx
     have e1:x=n:=by simpa using q
     cases hx
     rw[e1];exact hc
    | false=>rw[q] at hx;exact h x c' hx)
   refine⟨cl,?_,h1,λm hm=>h2 m ?_,λx c' m=>?_⟩
   rotate_left 2
   ·rcases h3 x c' m with ⟨q1,q2⟩ | m
    ·exact .inl ⟨q1,Yz _ q2⟩
    ·rcases List.mem_cons.mp m with e | m
     ·cases e
      exact .inl ⟨hc,YA⟩
     ·exact .inr m
   ·rw[List.forIn_cons]
    have T2:cellOf env n=pure c:=by unfold cellOf;rw[hc]
    simp only[beq_self_eq_true,if_true,T2,pure_bind]
    exact e
   ·rcases hm with hm | hm
    ·rcases List.mem_cons.mp hm with z | z
     ·cases z
      right
      rw[YQ]
      simp
     ·exact .inl z
    ·right
     rw[YQ]
     cases q:m==n with
     | true=>rfl
     | false=>exact hm
  ·obtain⟨cl,e,h1,h2,h3⟩:=kz r cs (λm hm=>hf m (Yz _ hm)) h
   refine⟨cl,?_,h1,λm hm=>h2 m ?_,λx c' m=>(h3 x c' m).imp (λq=>⟨q.1,Yz _ q.2⟩) id⟩
   ·rw[List.forIn_cons]
    have:(k==NameKind.free)=false:=by simpa using hk
    simp only[this,Bool.false_eq_true,if_false,pure_bind]
    exact e
   ·rcases hm with hm | hm
    ·rcases List.mem_cons.mp hm with z | z
     ·cases z;exact absurd rfl hk
     ·exact .inl z
    ·exact .inr hm
theorem jU {env:Env} {scope:Scope} (hf:∀n,(n,NameKind.free)∈scope.names->∃c,env.cells.lookup n=some c):
  ∃cl,closureFor scope env=pure cl/\(∀x c,cl.lookup x=some c->env.cells.lookup x=some c)/\(∀n,(n,NameKind.free)∈scope.names->∃c,cl.lookup n=some c)/\(∀x c,(x,c)∈cl->env.cells.lookup x=some c/\(x,NameKind.free)∈scope.names):=by
 obtain⟨cl,e,h1,h2,h3⟩:=kz (env:=env) scope.names [] hf (λx c h=>by simp at h)
 refine⟨cl,?_,h1,λn hn=>h2 n (.inl hn),λx c m=>(h3 x c m).elim id λz=>absurd z (by simp)⟩
 unfold closureFor
 simp only[bind_pure]
 exact e
structure fC (N:List Str) (so:Scope) (N':List Str) (scope:Scope) (k:Nat) (fr:List Nat):Prop where
 kind:scope.kind=.function
 Jw:∀y∈scope.names,y.2=.cell->scope.names.lookup y.1=some .cell/\(y.1,NameKind.free)∉scope.names
 locs:∀y∈scope.names,y.2=.local->scope.names.lookup y.1=some .local
 outer:∀y∈scope.names,y.2=.free->(so.names.lookup y.1=some .cell\/so.names.lookup y.1=some .free)
 len:N'.length=k+fr.length
 at_:∀t,t<fr.length->(fr[t]?).bind (λj=>N[j]?)=N'[k+t]?
 O7:∀x∈N'.drop k,scope.names.lookup x=some .free
noncomputable def stC (k:Nat) (fr:List Nat) (σ:St):St:=List.replicate k none++fr.map λj=>(σ[j]?).join
noncomputable def ph (X:Cx) (N:List Str) (scope:Scope) (cl:List (Str×Addr)) (C:Addr) (s:Shared) (H:Hp) (ex:List Addr):Cx where
 prog:=X.prog
 w:=X.w
 K:=X.K
 mg:=X.mg
 base:=X.base
 A:=X.A
 N:=N
 s₀:=s
 H₀:=H
 env:=compEnvC scope cl C X.env
 outer:=X.stack
 stack:=X.stack
 ex:=ex
 calm:=X.calm
 fn:=λx=>scope.names.lookup x==some .cell
 pn:=[]
 xe:=λ_ _=>False
theorem eZ {env:Env}:∀{names:List (Str×NameKind)} {x:Str},names.lookup x=some .free->
  (names.map fun(n,k)=>if (k==NameKind.free && env.scope.kind==.function && env.kindOf n==some .cell) then (n,NameKind.cell) else (n,k)).lookup x=some .cell\/
  (names.map fun(n,k)=>if (k==NameKind.free && env.scope.kind==.function && env.kindOf n==some .cell) then (n,NameKind.cell) else (n,k)).lookup x=some .free
 | [],_,h=>by simp at h
 | (n,k)::r,x,h=>by
  have ih:=@eZ env r x
  show List.lookup x ((if (k==NameKind.free && env.scope.kind==.function && env.kindOf n==some .cell)=true then (n,NameKind.cell) else (n,k))::_)=_\/List.lookup x ((if (k==NameKind.free && env.scope.kind==.function && env.kindOf n==some .cell)=true then (n,NameKind.cell) else (n,k))::_)=_
  cases hx:x==n with
  | true=>
   simp only[YQ,hx] at h
   cases h
   by_cases hc:(NameKind.free==NameKind.free && env.scope.kind==.function && env.kindOf n==some .cell)=true
   ·rw[if_pos hc];left;simp [YQ,hx]
   ·rw[if_neg hc];right;simp [YQ,hx]
  | false=>
   simp only[YQ,hx] at h
   by_cases hc:(k==NameKind.free && env.scope.kind==.function && env.kindOf n==some .cell)=true
   ·rw[if_pos hc];simp only[YQ,hx];exact ih h
   ·rw[if_neg hc];simp only[YQ,hx];exact ih h
theorem lP {env:Env}:∀{names:List (Str×NameKind)} {x:Str},
  ((names.map fun(n,k)=>if (k==NameKind.free && env.scope.kind==.function && env.kindOf n==some .cell) then (n,NameKind.cell) else (n,k)).lookup x=some .cell\/
  (names.map fun(n,k)=>if (k==NameKind.free && env.scope.kind==.function && env.kindOf n==some .cell) then (n,NameKind.cell) else (n,k)).lookup x=some .free)->(x,NameKind.free)∈names\/(x,NameKind.cell)∈names
 | [],_,h=>by simp at h
 | (n,k)::r,x,h=>by
  have ih:=@lP env r x
  have up:((x,NameKind.free)∈r\/(x,NameKind.cell)∈r)->((x,NameKind.free)∈(n,k)::r\/(x,NameKind.cell)∈(n,k)::r):=λz=>z.imp (Yz _) (Yz _)
  have h:List.lookup x ((if (k==NameKind.free && env.scope.kind==.function && env.kindOf n==some .cell)=true then (n,NameKind.cell) else (n,k))::_)=_\/List.lookup x ((if (k==NameKind.free && env.scope.kind==.function && env.kindOf n==some .cell)=true then (n,NameKind.cell) else (n,k))::_)=_:=h
  cases hx:x==n with
  | true=>
   have e1:x=n:=by simpa using hx
   subst e1
   by_cases hc:(k==NameKind.free && env.scope.kind==.function && env.kindOf x==some .cell)=true
   ·have:k=.free:=by
     simp only[YY] at hc
     simpa using hc.1.1
    subst this
    exact .inl YA
   ·rw[if_neg hc] at h
    simp only[YQ,hx] at h
    rcases h with h | h
    ·cases h;exact .inr YA
    ·cases h;exact .inl YA
  | false=>
   by_cases hc:(k==NameKind.free && env.scope.kind==.function && env.kindOf n==some .cell)=true
   ·rw[if_pos hc] at h;simp only[YQ,hx] at h;exact up (ih h)
   ·rw[if_neg hc] at h;simp only[YQ,hx] at h;exact up (ih h)
theorem nB:∀(names:List (Str×NameKind)) (h:Heap) (acc:List (Str×Addr)) (x:Str) (c:Addr),(x,c)∈cellsFrom h.objs.size names acc->
  (x,c)∈acc\/(h.objs.size<=c/\(pushCells h names).IsCell c none/\(x,NameKind.cell)∈names)
 | [],h,acc,x,c,m=>.inl m
 | (n,k)::r,h,acc,x,c,m=>by
  unfold cellsFrom at m
  unfold pushCells
  by_cases hk:(k==NameKind.cell)=true
  ·rw[if_pos hk] at m ⊢
   have ih:=nB r (h.push {cls:=.type "cell",data:=.cell none}) ((n,h.objs.size)::acc) x c
   rw[Heap.size_push] at ih
   rcases ih m with m | ⟨q1,q2,q3⟩
   ·rcases List.mem_cons.mp m with e | m
    ·cases e
     have hk:k=.cell:=by simpa using hk
     subst hk
     refine .inr ⟨Yt _,?_,YA⟩
     have q:(h.push {cls:=.type "cell",data:=.cell none}).IsCell h.objs.size none:=⟨_,Heap.get?_push_size _ rfl,rfl⟩
     exact q.keeps λb o e=>pushCells_keeps r _ b o e
    ·exact .inl m
   ·exact .inr ⟨by omega,q2,Yz _ q3⟩
  ·rw[if_neg hk] at m ⊢
   rcases nB r h acc x c m with m | ⟨q1,q2,q3⟩
   ·exact .inl m
   ·exact .inr ⟨q1,q2,Yz _ q3⟩
theorem nE:∀(names:List (Str×NameKind)) (n lo:Nat) (acc:List (Str×Addr)),(∀x c,(x,c)∈acc->c<n)->(∀x y c,lo<=c->(x,c)∈acc->(y,c)∈acc->x=y)->
  ∀x y c,lo<=c->(x,c)∈cellsFrom n names acc->(y,c)∈cellsFrom n names acc->x=y
 | [],n,lo,acc,h1,h2,x,y,c,hl,m1,m2=>h2 x y c hl m1 m2
 | (z,k)::r,n,lo,acc,h1,h2,x,y,c,hl,m1,m2=>by
  unfold cellsFrom at m1 m2
  by_cases hk:(k==NameKind.cell)=true
  ·rw[if_pos hk] at m1 m2
   refine nE r (n+1) lo _ (λx c m=>?_) (λx y c hl m1 m2=>?_) x y c hl m1 m2
   ·rcases List.mem_cons.mp m with e | m
    ·cases e;exact Zc _
    ·exact Nat.lt_succ_of_lt (h1 x c m)
   ·rcases List.mem_cons.mp m1 with e1 | m1 <;>rcases List.mem_cons.mp m2 with e2 | m2
    ·cases e1;cases e2;rfl
    ·cases e1;exact absurd (h1 _ _ m2) (YW _)
    ·cases e2;exact absurd (h1 _ _ m1) (YW _)
    ·exact h2 x y c hl m1 m2
  ·rw[if_neg hk] at m1 m2
   exact nE r n lo acc h1 h2 x y c hl m1 m2
theorem gZ:∀(names:List (Str×NameKind)) (n:Nat) (acc:List (Str×Addr)) (x:Str),(x,NameKind.cell)∉names->(cellsFrom n names acc).lookup x=acc.lookup x
 | [],n,acc,x,_=>rfl
 | (z,k)::r,n,acc,x,h=>by
  have hr:(x,NameKind.cell)∉r:=λm=>h (Yz _ m)
  unfold cellsFrom
  by_cases hk:(k==NameKind.cell)=true
  ·rw[if_pos hk,gZ r _ _ x hr,YQ]
   have hk:k=.cell:=by simpa using hk
   subst hk
   have:(x==z)=false:=by
    cases q:x==z with
    | false=>rfl
    | true=>
     have e:x=z:=by simpa using q
     subst e
     exact absurd YA h
   rw[this]
  ·rw[if_neg hk]
   exact gZ r n acc x hr
theorem nF:∀(names:List (Str×NameKind)) (n:Nat) (acc:List (Str×Addr)) (x:Str),((x,NameKind.cell)∈names\/(acc.lookup x).isSome=true)->((cellsFrom n names acc).lookup x).isSome=true
 | [],n,acc,x,h=>by
  rcases h with h | h
  ·simp at h
  ·exact h
 | (z,k)::r,n,acc,x,h=>by
  unfold cellsFrom
  by_cases hk:(k==NameKind.cell)=true
  ·rw[if_pos hk]
   refine nF r _ _ x ?_
   rcases h with h | h
   ·rcases List.mem_cons.mp h with e | h
    ·cases e
     right
     rw[YQ]
     simp
    ·exact .inl h
   ·right
    rw[YQ]
    cases q:x==z with
    | true=>rfl
    | false=>exact h
  ·rw[if_neg hk]
   refine nF r _ _ x ?_
   rcases h with h | h
   ·rcases List.mem_cons.mp h with e | h
    ·cases e;exact absurd rfl hk
    ·exact .inl h
   ·exact .inr h
section
variable {M : Model} {A : Around} {E : Value -> Shared -> Prop} {s : Shared}
theorem lQ {scope:Scope} {globals:Addr} {closure:List (Str×Addr)} {qual:Str} {func:Option Addr} {code:Value} {outer:Env} {Q:Env->Shared->Prop}
  (hQ:Q (newEnv scope s.heap.objs.size globals (cellsFrom (s.heap.objs.size+1) scope.names closure) qual func code (some outer) builtinsNs)
   {s with heap:=pushCells (s.heap.push {cls:=.type "dict",data:=.dict #[]}) scope.names}):
  wpAny M A (newFunctionEnv scope globals closure [] qual func code (some outer)) Q E s:=by
 simp only[newFunctionEnv,Option.isSome_some,if_true]
 refine wpAny_bind (wpAny_alloc ?_)
 refine wpAny_bind (wpAny_layCells _ (λname kind cells=>by cases T3:kind==NameKind.cell <;>simp [T3]) _ _ _ _ ?_)
 rw[show({s with heap:=s.heap.push {cls:=.type "dict",data:=.dict #[]}}:Shared).heap.objs.size=s.heap.objs.size+1 from Heap.size_push ..]
 refine wpAny_bind ?_
 rw[List.forIn_nil]
 exact wpAny_pure (wpAny_pure hQ)
end
structure Jx (X:Cx) (scope:Scope) (cl:List (Str×Addr)) (lo:Nat) (C:Addr) (h1:Heap):Prop where
 old:∀x c,cl.lookup x=some c->X.env.cells.lookup x=some c\/(lo<=c/\C<c/\h1.IsCell c none)
 inj:∀x y c,C<c->cl.lookup x=some c->cl.lookup y=some c->x=y
 has:∀n,(n,NameKind.free)∈scope.names\/(n,NameKind.cell)∈scope.names->∃c,cl.lookup n=some c
 O7:∀n,scope.names.lookup n=some .free->∀c,cl.lookup n=some c->X.env.cells.lookup n=some c
 own:∀x c,scope.names.lookup x=some .cell->cl.lookup x=some c->lo<=c
section
variable {X : Cx} {pins : List (Addr × Obj)} {σ : St} {H : Hp} {s : Shared} {N' : List Str} {scope : Scope} {k : Nat} {fr : List Nat} {cl : List (Str × Addr)}
theorem Jy {C:Addr} {fp:List Addr} {h1:Heap} (I:Inv X pins σ H s) (S:fC X.N X.env.scope N' scope k fr) (B:Jx X scope cl s.heap.objs.size C h1)
  (hC:s.heap.objs.size<=C) (f2:∀b∈fp,ku X pins H b) (lt:∀b∈fp,b<s.heap.objs.size):(ph X N' scope cl C s H fp).Ok where
 mod:=I.ok.mod
 kind:=S.kind
 glob:=I.ok.glob
 blt:=I.ok.blt
 above:=hC
 inj:=λx y c h1 h2=>by
  rcases B.old _ _ h1 with o1 | o1 <;>rcases B.old _ _ h2 with o2 | o2
  ·exact I.ok.inj x y c o1 o2
  ·exact B.inj x y c o2.2.1 h1 h2
  ·exact B.inj x y c o1.2.1 h1 h2
  ·exact B.inj x y c o1.2.1 h1 h2
 has:=λx hx=>B.has x (lP hx)
 Lp:=λx c z e=>B.own x c (by
  have z:(scope.names.lookup x==some NameKind.cell)=true:=z
  simpa using z) e
 hd:=I.ok.hd
 frames:=I.ok.frames
 BG:=.inl rfl
 OG:=λb hb=>⟨YE (YJ (lt b hb) hC),λx c e=>(B.old _ _ e).elim (λo=>(f2 b hb).2.2.2.2.1 x c o) λo=>Nat.ne_of_gt (YJ (lt b hb) o.1)⟩
 bs:=I.bs
 Fu:=YB I.ok.Fu I.sz
 BH:=λb o e hb=>by
  rcases(f2 b hb).2.2.2.1 with z | z
  ·exact I.ok.BH b o e z
  ·exact absurd (YJ (Heap.lt_size e) (YB I.ok.Fu z)) (YW _)
 CS:=λb hb z=>by
  rcases List.mem_cons.mp (I.u0 b z) with q | q
  ·exact(f2 b hb).2.1 q
  ·exact(f2 b hb).2.2.1 q
 nh:=I.stack
 HC:=I.u3
theorem Gi {C:Addr} {fp:List Addr} {h1:Heap} {tk:Nat} {m:Str->Option Value} (I:Inv X pins σ H s) (S:fC X.N X.env.scope N' scope k fr) (B:Jx X scope cl s.heap.objs.size C h1)
  (hC:s.heap.objs.size<=C) (f2:∀b∈fp,ku X pins H b) (lt:∀b∈fp,b<s.heap.objs.size) (old:∀b o,s.heap.get? b=some o->h1.get? b=some o) (hn:h1.Ns C m):
  Inv (ph X N' scope cl C s H fp) [] (stC k fr σ) H {s with heap:=h1,toks:=tk}:=by
 refine⟨Jy I S B hC f2 lt,rfl,I.bare,Un.kept old,⟨m,hn,λi x v e1 e2 e3=>?_⟩,λx c e=>?_,I.bR.fresh hC,λx c e=>(B.old _ _ e).elim (λo=>I.iy x c o) λo=>I.bR.fresh o.1,λp hp=>absurd (show p∈([]:List (Addr×Obj)) from hp) (by simp),I.bR.kept old,?_⟩
 ·have e1:N'[i]?=some x:=e1
  unfold stC at e2
  by_cases hi:i<k
  ·rw[Zn (by simpa using hi),List.getElem?_replicate,if_pos hi] at e2
   cases e2
  ·rw[Zk (by simpa using hi),List.length_replicate,Yu] at e2
   cases q:fr[i - k]? with
   | none=>rw[q] at e2;cases e2
   | some j=>
    rw[q] at e2
    have e2:(σ[j]?).join=some v:=YM e2
    have ej:σ[j]?=some (some v):=by
     cases z:σ[j]? with
     | none=>rw[z] at e2;cases e2
     | some o=>rw[z] at e2;exact congrArg some e2
    have mZ:i - k<fr.length:=(List.getElem?_eq_some_iff.mp q).1
    have HQ:=S.at_ (i - k) mZ
    rw[q,show k+ (i - k)=i by omega,e1] at HQ
    have HQ:X.N[j]?=some x:=HQ
    have T4:x∈N'.drop k:=List.mem_iff_getElem?.mpr ⟨i - k,by rw[List.getElem?_drop,show k+ (i - k)=i by omega];exact e1⟩
    have O8:=S.O7 x T4
    have Dz:(x,NameKind.free)∈scope.names:=Y8 O8
    have Mu:=S.outer _ Dz rfl
    obtain⟨m0,Xd,T5⟩:=I.loc
    obtain⟨u,r,l⟩:=T5 j x v HQ ej (.inr Mu)
    refine⟨u,r,.inr ⟨eZ O8,?_⟩⟩
    rcases l with ⟨kk,_⟩ | ⟨_,c,e,z⟩
    ·have kk:X.env.scope.names.lookup x=some .local:=kk
     rcases Mu with q1 | q1
     ·rw[kk] at q1;cases q1
     ·rw[kk] at q1;cases q1
    ·obtain⟨c',e'⟩:=B.has x (.inl Dz)
     have ec:=B.O7 x O8 _ e'
     rw[e] at ec
     cases ec
     obtain⟨ob,ho,hd⟩:=z
     exact⟨c,e',ob,old _ _ ho,hd⟩
 ·rcases B.old _ _ e with o | o
  ·obtain⟨v,ob,ho,hd⟩:=I.cell x c o
   exact⟨v,ob,old _ _ ho,hd⟩
  ·exact⟨none,o.2.2⟩
 ·unfold stC
  rw[Yy,List.length_replicate,Yr]
  exact S.len.symm
end
section
variable {prog : Program} {w : World} {A : Around} {E : Value -> Shared -> Prop} {R : Result -> Shared -> Prop} {s : Shared}
theorem iC {elt target iter:Expr} {ifs:List Expr} {scope:Scope} {pos:Pos} {it acc:Value} {env:Env} (I:Nat->Shared->Prop)
  (turn:∀n s,I n s->wpAny (model prog w) A (pyNext it) (λr s₁=>match r with
   | none=>R (.ok .next) s₁
   | some v=>wpAny (model prog w) A (letOwnedTupleGo target it v) (λ_ RG=>wpAny (model prog w) A (assign target env v) (λ_ s₂=>
     wpAny (model prog w) A (forIn ifs true λc r=>if r=true then do let ok <-isTrue c env (eval c env);pure (ForInStep.yield ok) else pure (ForInStep.yield r)) (λok s₃=>
      if ok=true then wpAny (model prog w) A (eval elt env) (λx s₄=>
       wpAny (model prog w) A (call (.builtin "list.append") [acc,x]) (λ_ s₅=>∃m,m<n/\I m s₅) (λ_ _=>False) s₄) (notedBy (model prog w) A env λx s'=>R (.error x) s') s₃
      else ∃m,m<n/\I m s₃) (λ_ _=>False) s₂) (λ_ _=>False) RG) (λ_ _=>False) s₁) (λ_ _=>False) s)
  (n:Nat) (h:I n s):
  codeAny (model prog w) A (.compLoop (.ListComp elt [⟨target,iter,ifs,0⟩] scope pos) 0 it acc env) R s:=by
 refine codeAny_loop rfl I (λn s hI=>?_) n h
 show wpAny _ A ((compTurn (.ListComp elt [⟨target,iter,ifs,0⟩] scope pos) 0 it acc env).onRaise (λx=>do noteFrame x env;theTreesLotGoes x)) _ _ s
 refine wpAny_noted ?_
 rw[compTurn_list]
 refine wpAny_bind (wpAny_standAt (wpAny_bind (wpAny_mono (turn n s hI) (λr s₁ h₁=>?_) λ_ _ h'=>h'.elim)))
 cases r with
 | none=>exact wpAny_pure h₁
 | some v=>
  refine wpAny_bind (wpAny_mono h₁ (λ_ RG T6=>?_) λ_ _ h'=>h'.elim)
  refine wpAny_bind (wpAny_mono T6 (λ_ s₂ h₂=>wpAny_bind (wpAny_mono h₂ (λok s₃ h₃=>?_) λ_ _ h'=>h'.elim)) λ_ _ h'=>h'.elim)
  cases ok with
  | false=>exact wpAny_pure ⟨rfl,h₃⟩
  | true=>
   exact wpAny_bind (wpAny_bind (wpAny_mono h₃ (λx s₄ h₄=>wpAny_bind (wpAny_mono h₄ (λ_ s₅ h₅=>wpAny_pure (wpAny_pure ⟨rfl,h₅⟩)) λ_ _ h'=>h'.elim)) λ_ _ h'=>h'))
end
noncomputable def Jz (X:Cx) (ifs:List Expr) (t:TT):Prop:=
 ∀(pins:List (Addr×Obj)) (s:Shared) (σ:St) (H:Hp) (Q:Bool->Hp->Prop),Inv X pins σ H s->t σ H Q->
  wpAny (model X.prog X.w) X.A (forIn ifs true λc r=>if r=true then do let ok <-isTrue c X.env (eval c X.env);pure (ForInStep.yield ok) else pure (ForInStep.yield r)) (TP X pins σ Q) X.xe s
noncomputable def sS:TT:=λ_ H Q=>Q true H
theorem dk {X:Cx}:Jz X [] sS:=λ_ _ _ H _ I h=>wpAny_tests_nil ⟨H,I,h⟩
theorem eM {X:Cx} {c:Expr} {t:TT} (h:PT X c t):Jz X [c] t:=λpins s σ H Q I hq=>wpAny_tests_one (h pins s σ H Q I hq)
section
variable {X : Cx}
noncomputable def fI (J:It) (g:TG) (tc:TT) (te:TE) (σ0:St) (H1:Hp) (fin:List V->Hp->Prop):Prop:=
 ∃W:Nat->Nat->List V->St->Hp->Prop,(∃m,W 0 m [] σ0 H1)/\∀i m ys σ2 H2,W i m ys σ2 H2->
  (J.stop i H2/\fin ys H2)\/
  (J.go i H2/\∀x H3,J.BM i H2 x H3->g x σ2 H3 λσ3 H4=>tc σ3 H4 λb H5=>if b=true then te σ3 H5 λy H6=>ys.length<sizeLine/\∃m',m'<m/\W (i+1) m' (ys++ [y]) σ3 H6 else ∃m',m'<m/\W (i+1) m' ys σ3 H5)
noncomputable def fJ (a6:List Value) (n:Nat):Obj:={cls:=.type "list",data:=.seq a6.toArray n}
theorem DA {elt target iter:Expr} {ifs:List Expr} {scope:Scope} {pos:Pos} {g:TG} {tc:TT} {te:TE} {k:Nat} {fr:List Nat} {N':List Str} {cl:List (Str×Addr)} {pins:List (Addr×Obj)} {σ:St} {H2:Hp} {s2:Shared}
  {it:Addr} {fp:List Addr} {tn:Nat->Heap->Prop} {J:It} {fin:List V->Hp->Prop} {R0:Result->Shared->Prop} {XE:List (Str×Addr)->Addr->Shared->Hp->List Addr->Value->Shared->Prop}
  (hc:X.calm=true) (S:fC X.N X.env.scope N' scope k fr) (c1:∀x c,cl.lookup x=some c->X.env.cells.lookup x=some c) (c2:∀n,(n,NameKind.free)∈scope.names->∃c,cl.lookup n=some c) (cin:∀x c,(x,c)∈cl->∃y,X.env.cells.lookup y=some c) (N6:∀x,(x,NameKind.cell)∈scope.names->∀c,(x,c)∉cl)
  (hg:∀cl C s H ex,PG (ph X N' scope cl C s H ex) target g) (ht:∀cl C s H ex,Jz (ph X N' scope cl C s H ex) ifs tc) (he:∀cl C s H ex,PE ((ph X N' scope cl C s H ex).nj (XE cl C s H ex)) elt te)
  (I2:Inv X pins σ H2 s2) (T:Turn X.prog X.w X.K target J fp it tn) (kx:tn 0 s2.heap) (f2:∀b∈fp,ku X pins H2 b) (hb:fI J g tc te (stC k fr σ) H2 fin)
  (hR:∀(C:Addr),C=(s2.heap.push {cls:=.type "list",dict:=none,data:=.seq ([]:List Value).toArray}).objs.size->∀(s':Shared) (m:Str->Option Value) (ys:List V) (a6:List Value) (n:Nat) (H':Hp),s2.heap.objs.size<C->s'.heap.Ns C m->bj ys a6->ys.length<=sizeLine->s'.heap.get? s2.heap.objs.size=some (fJ a6 n)->H' s2.heap.objs.size=none->H' C=none->fin ys H'->
   s'.os=s2.os->AllBare s'.gens->Un (gT X.stack) fp H2 H' s2.heap s'.heap->gB X.prog X.w H' s'.heap->R0 (.ok .next) s')
  (hE:∀cl C x s',C=(s2.heap.push {cls:=.type "list",dict:=none,data:=.seq ([]:List Value).toArray}).objs.size->s2.heap.objs.size<C->XE cl C s2 H2 fp x s'->notedBy (model X.prog X.w) X.A (compEnvC scope cl C X.env) (λy ze=>R0 (.error y) ze) x s'):
  codeAny (model X.prog X.w) X.A (.compStart (.ListComp elt [⟨target,iter,ifs,0⟩] scope pos) 0 (.ref it) (.ref s2.heap.objs.size) (compEnvC scope (cellsFrom ((s2.heap.push {cls:=.type "list",dict:=none,data:=.seq ([]:List Value).toArray}).objs.size+1) scope.names cl) (s2.heap.push {cls:=.type "list",dict:=none,data:=.seq ([]:List Value).toArray}).objs.size X.env)) R0 {s2 with heap:=pushCells ((s2.heap.push {cls:=.type "list",dict:=none,data:=.seq ([]:List Value).toArray}).push {cls:=.type "dict",data:=.dict #[]}) scope.names}:=by
 obtain⟨W,⟨m0,w0⟩,turn⟩:=hb
 have lt:∀b∈fp,b<s2.heap.objs.size:=λb hb=>by
  obtain⟨o,e,_⟩:=T.obj _ _ kx b hb
  exact Heap.lt_size e
 generalize yK:s2.heap.push {cls:=.type "list",dict:=none,data:=.seq ([]:List Value).toArray}=G2 at hR hE ⊢
 have Ls:G2.objs.size=s2.heap.objs.size+1:=by rw[<-yK,Heap.size_push]
 have RH:s2.heap.objs.size≠G2.objs.size:=by rw[Ls];exact YE (Zc _)
 have hC:s2.heap.objs.size<=G2.objs.size:=by rw[Ls];exact Nat.le_succ _
 have old:∀b o,s2.heap.get? b=some o->(pushCells (G2.push {cls:=.type "dict",data:=.dict #[]}) scope.names).get? b=some o:=λb o e=>by
  refine pushCells_keeps _ _ b o (Heap.get?_push_of_some _ ?_)
  rw[<-yK]
  exact Heap.get?_push_of_some _ e
 have zu:(pushCells (G2.push {cls:=.type "dict",data:=.dict #[]}) scope.names).get? s2.heap.objs.size=some (fJ [] 0):=by
  refine pushCells_keeps _ _ _ _ (Heap.get?_push_of_some _ ?_)
  rw[<-yK]
  exact Heap.get?_push_size _ rfl
 have O9:(pushCells (G2.push {cls:=.type "dict",data:=.dict #[]}) scope.names).Ns G2.objs.size λ_=>none:=(Heap.Ns.new G2 (.type "dict")).keeps (pushCells_keeps _ _)
 have RI:∀x c,(x,c)∈cl->c<G2.objs.size+1:=λx c m=>by
  obtain⟨y,hy⟩:=cin x c m
  obtain⟨v,q⟩:=I2.cell y c hy
  rw[Ls]
  exact Nat.lt_succ_of_lt (Nat.lt_succ_of_lt q.lt)
 have B:Jx X scope (cellsFrom (G2.objs.size+1) scope.names cl) s2.heap.objs.size G2.objs.size (pushCells (G2.push {cls:=.type "dict",data:=.dict #[]}) scope.names):=by
  have own:=nB scope.names (G2.push {cls:=.type "dict",data:=.dict #[]}) cl
  rw[Heap.size_push] at own
  refine⟨λx c e=>?_,λx y c hc h1 h2=>?_,λn hn=>?_,λn hn c e=>?_,λx c hx e=>?_⟩
  ·by_cases hx:(x,NameKind.cell)∈scope.names
   ·rcases own x c (Y8 e) with m | ⟨q1,q2,_⟩
    ·
     exfalso
     exact N6 x hx c m
    ·exact .inr ⟨YB hC (Nat.le_of_succ_le q1),q1,q2⟩
   ·rw[gZ _ _ _ _ hx] at e
    exact .inl (c1 x c e)
  ·exact nE scope.names (G2.objs.size+1) (G2.objs.size+1) cl RI (λx y c hl m1 _=>absurd (RI x c m1) (Nat.not_lt.mpr hl)) x y c hc (Y8 h1) (Y8 h2)
  ·refine Option.isSome_iff_exists.mp (nF _ _ _ n ?_)
   rcases hn with hn | hn
   ·obtain⟨c,e⟩:=c2 n hn
    exact .inr (by rw[e];rfl)
   ·exact .inl hn
  ·have hx:(n,NameKind.cell)∉scope.names:=λm=>by
    have:=(S.Jw _ m rfl).1
    rw[hn] at this
    cases this
   rw[gZ _ _ _ _ hx] at e
   exact c1 n c e
  ·have hx:=Y8 hx
   rcases own x c (Y8 e) with m | ⟨q1,q2,_⟩
   ·exact absurd m (N6 x hx c)
   ·exact YB hC (Nat.le_of_succ_le q1)
 generalize pushCells (G2.push {cls:=.type "dict",data:=.dict #[]}) scope.names=h₁ at *
 generalize cellsFrom (G2.objs.size+1) scope.names cl=wJ at *
 generalize JA:s2.heap.objs.size=D at *
 generalize Xe:G2.objs.size=C at *
 have fD:H2 D=none:=by rw[<-JA];exact I2.bR.fresh (Yt _)
 have cells:∀x c,wJ.lookup x=some c->c≠D:=λx c e=>by
  rcases B.old _ _ e with o | o
  ·obtain⟨v,q⟩:=I2.cell x c o
   rw[<-JA]
   exact YE q.lt
  ·exact Nat.ne_of_gt (Nat.lt_trans (by rw[Ls];exact Zc _) o.2.1)
 have loop:∀(HI:Addr) (s3:Shared),HI=it->(∃tk,s3={s2 with heap:=h₁,toks:=tk})->
   codeAny (model X.prog X.w) X.A (.compLoop (.ListComp elt [⟨target,iter,ifs,0⟩] scope pos) 0 (.ref HI) (.ref D) (compEnvC scope wJ C X.env)) R0 s3:=by
  rintro HI s3 rfl ⟨tk,rfl⟩
  have I3:Inv (ph X N' scope wJ C s2 H2 fp) [] (stC k fr σ) H2 {s2 with heap:=h₁,toks:=tk}:=Gi I2 S (by rw[JA];exact B) (by rw[JA];exact hC) f2 (by rw[JA];exact lt) old O9
  have yY:∀{H':Hp} {o:Obj},(∀b∈fp,H' b=none)->∀b∈fp,ku (ph X N' scope wJ C s2 H2 fp) [(D,o)] H' b:=λ{H' o} hn b hb=>
   ⟨hn b hb,YE (YJ (lt b hb) hC),λz=>by
    rcases List.mem_cons.mp (I2.u0 b z) with q | q
    ·exact(f2 b hb).2.1 q
    ·exact(f2 b hb).2.2.1 q,.inl hb,λx c e=>(B.old _ _ e).elim (λo=>(f2 b hb).2.2.2.2.1 x c o) (λo=>Nat.ne_of_gt (YJ (lt b hb) o.1)),λp hp=>by
    have e:p=(D,o):=by simpa [ph] using hp
    rw[e]
    exact Nat.ne_of_gt (lt b hb)⟩
  have Pa:∀{σ':St} {H':Hp} {s':Shared} {o:Obj},Inv (ph X N' scope wJ C s2 H2 fp) [] σ' H' s'->s'.heap.get? D=some o->H' D=none->(∀v,o.data≠.cell v)->Inv (ph X N' scope wJ C s2 H2 fp) [(D,o)] σ' H' s':=λ{σ' H' s' o} I' e n hd=>
   I'.lF λp hp=>by
    have q:p=(D,o):=by simpa using hp
    subst q
    refine⟨e,n,RH,λz=>?_,hd⟩
    obtain⟨_,ob,ho,_⟩:=I2.stack.mem z
    exact absurd (Heap.lt_size ho) (by rw[JA];exact YW _)
  have T7:∀{a6:List Value} {n:Nat} (v:Option Value),(fJ a6 n).data≠.cell v:=λv z=>by
   have z:Data.seq _ _=Data.cell v:=z
   cases z
  refine iC (λn s'=>∃i ys σ' H' a6 Gj,Inv (ph X N' scope wJ C s2 H2 fp) [] σ' H' s'/\tn i s'.heap/\(∀b∈fp,H' b=none)/\s'.heap.get? D=some (fJ a6 Gj)/\H' D=none/\bj ys a6/\ys.length<=sizeLine/\W i n ys σ' H') ?_ m0
   ⟨0,[],_,H2,[],0,I3,T.keep _ _ _ kx (λb _ o e=>old b o e),λb hb=>(f2 b hb).1,zu,fD,.nil,YD _,w0⟩
  rintro n s4 ⟨i,ys,σ4,H4,a6,Gj,I4,RJ,RK,T8,RL,N7,RM,w4⟩
  have RN:=Pa I4 T8 RL T7
  rcases turn i n ys σ4 H4 w4 with ⟨stop,qf⟩ | ⟨go,step⟩
  ·refine cD (T.done (ph X N' scope wJ C s2 H2 fp) rfl rfl rfl hc i _ s4 σ4 H4 _ RN (yY RK) RJ stop) λr s5 ⟨hr,I5⟩=>?_
   subst hr
   obtain⟨m5,T9,_⟩:=I5.loc
   exact hR C rfl s5 m5 ys a6 Gj H4 (by rw[Ls];exact Zc _) T9 N7 RM (I5.pin (D,fJ a6 Gj) (YO _ YA)).1 RL I5.free qf I5.os I5.bare I5.base I5.bR
  ·refine cD (T.item (ph X N' scope wJ C s2 H2 fp) rfl rfl rfl hc i _ s4 σ4 H4 _ RN (yY RK) RJ go) λr s5 ⟨u,hr,h5⟩=>?_
   subst hr
   refine cD h5 λ_ s6 dh=>?_
   obtain⟨x,H6,I6,r6,y6,Pb,Ua⟩:=dh
   have Ub:=I6.pinned (yY Ua) (T.obj _ _ Pb)
   refine cD (hg wJ C s2 H2 fp _ s6 σ4 H6 x u _ Ub r6 (step x H6 y6)) λ_ s7 ⟨σ7,H7,I7,q7⟩=>?_
   refine cD (ht wJ C s2 H2 fp _ s7 σ7 H7 _ I7 q7) λok s8 ⟨H8,I8,q8⟩=>?_
   have back:∀{σ':St} {H':Hp} {s':Shared},Inv (ph X N' scope wJ C s2 H2 fp) ([(D,fJ a6 Gj)]++qh fp s6.heap) σ' H' s'->tn (i+1) s'.heap/\(∀b∈fp,H' b=none)/\s'.heap.get? D=some (fJ a6 Gj)/\H' D=none:=λ{σ' H' s'} I'=>by
    have pD:=I'.pin (D,fJ a6 Gj) (YO _ (Zg _ (by simp)))
    refine⟨T.keep _ _ _ Pb λb hb o e=>(I'.pin (b,o) (YO _ (YO _ (gW hb e)))).1,λb hb=>?_,pD.1,pD.2.1⟩
    obtain⟨o,e,d⟩:=T.obj _ _ Pb b hb
    exact(I'.pin (b,o) (YO _ (YO _ (gW hb e)))).2.1
   cases ok with
   | false=>
    rw[if_neg YF]
    rw[if_neg YF] at q8
    obtain⟨m',hm,w8⟩:=q8
    obtain⟨b1,b2,b3,b4⟩:=back I8
    exact⟨m',hm,i+1,ys,σ7,H8,a6,Gj,I8.lF (λp hp=>absurd hp (by simp)),b1,b2,b3,b4,N7,RM,w8⟩
   | true=>
    rw[if_pos rfl]
    rw[if_pos rfl] at q8
    refine wpAny_mono (he wJ C s2 H2 fp _ s8 σ7 H8 _ (I8.nj _) q8) (λy s9 ⟨z,H9,I9,r9,mZ,m',hm,w9⟩=>?_) λx s' hx=>hE wJ C x s' rfl (by rw[Ls];exact Zc _) hx
    have I9:=I9.gU
    obtain⟨b1,b2,b3,b4⟩:=back I9
    have hl:=N7.length
    refine call_meets F.slot_list_append ⟨_,b3,rfl⟩ F.entry_list_append (F.args_list_append_2 _ _) (PySem.list_append D a6.toArray Gj y (by rw[Yv];omega)) ⟨b3,?_⟩
    obtain⟨c',q⟩:∃c',(s9.heap.update D (Obj.mapSeq λx=>x.push y)).get? D=some (fJ (a6++ [y]) c'):=by
     have q:=PySem.IsL.update b3 (λx=>x.push y)
     rw[show a6.toArray.push y=(a6++ [y]).toArray by simp] at q
     exact⟨_,q⟩
    have Uc:Inv (ph X N' scope wJ C s2 H2 fp) [] σ7 H9 s9:=I9.lF (λp hp=>absurd hp (by simp))
    have kp:∀b o,b≠D->s9.heap.get? b=some o->(s9.heap.update D (Obj.mapSeq λx=>x.push y)).get? b=some o:=λb o hb e=>(Heap.get?_update_other s9.heap (Obj.mapSeq λx=>x.push y) (Ne.symm hb)).trans e
    have Ud:=Uc.turned (t':=s9.toks) (it:=D) (h':=s9.heap.update D (Obj.mapSeq λx=>x.push y)) kp b4 RH (.inr (by show s2.heap.objs.size<=D;rw[JA];exact Yt _)) (λx c e=>cells x c e) (λp hp=>absurd hp (by simp [ph]))
    refine⟨m',hm,i+1,ys++ [z],σ7,H9,a6++ [y],c',Ud,T.keep _ _ _ b1 (λb hb o e=>kp b o (YE (lt b hb)) e),b2,q,b4,N7.append (.cons r9 .nil),?_,w9⟩
    ·rw[Yy,Y4]
     omega
 exact codeAny_compStart_list (loop it _ rfl ⟨_,rfl⟩) (T.self _ 0 _ _ _ (T.keep _ _ _ kx (λb _ o e=>old b o e)) (loop it _ rfl ⟨_,rfl⟩))
theorem uC {elt target iter:Expr} {ifs:List Expr} {scope:Scope} {pos:Pos} {g:TG} {tc:TT} {te:TE} {k:Nat} {fr:List Nat} {N':List Str} {cl:List (Str×Addr)} {pins:List (Addr×Obj)} {σ:St} {H2:Hp} {s2:Shared}
  {it:Addr} {fp:List Addr} {tn:Nat->Heap->Prop} {J:It} {E:Value->Shared->Prop} {fin:List V->Hp->Prop} {RR:Value->Addr->Result->Shared->Prop} {XE:List (Str×Addr)->Addr->Shared->Hp->List Addr->Value->Shared->Prop}
  (hc:X.calm=true) (S:fC X.N X.env.scope N' scope k fr) (c1:∀x c,cl.lookup x=some c->X.env.cells.lookup x=some c) (c2:∀n,(n,NameKind.free)∈scope.names->∃c,cl.lookup n=some c) (cin:∀x c,(x,c)∈cl->∃y,X.env.cells.lookup y=some c) (N6:∀x,(x,NameKind.cell)∈scope.names->∀c,(x,c)∉cl)
  (hg:∀cl C s H ex,PG (ph X N' scope cl C s H ex) target g) (ht:∀cl C s H ex,Jz (ph X N' scope cl C s H ex) ifs tc) (he:∀cl C s H ex,PE ((ph X N' scope cl C s H ex).nj (XE cl C s H ex)) elt te)
  (I2:Inv X pins σ H2 s2) (T:Turn X.prog X.w X.K target J fp it tn) (kx:tn 0 s2.heap) (f2:∀b∈fp,ku X pins H2 b) (hb:fI J g tc te (stC k fr σ) H2 fin)
  (hR:∀(C:Addr) (s':Shared) (m:Str->Option Value) (ys:List V) (a6:List Value) (n:Nat) (H':Hp),s2.heap.objs.size<C->s'.heap.Ns C m->bj ys a6->ys.length<=sizeLine->s'.heap.get? s2.heap.objs.size=some (fJ a6 n)->H' s2.heap.objs.size=none->H' C=none->fin ys H'->
   s'.os=s2.os->AllBare s'.gens->Un (gT X.stack) fp H2 H' s2.heap s'.heap->gB X.prog X.w H' s'.heap->RR (.ref s2.heap.objs.size) C (.ok .next) s')
  (hE:∀cl C x s',s2.heap.objs.size<C->XE cl C s2 H2 fp x s'->notedBy (model X.prog X.w) X.A (compEnvC scope cl C X.env) (λy ze=>RR (.ref s2.heap.objs.size) C (.error y) ze) x s'):
  wpAny (model X.prog X.w) X.A (newList []) (λacc s₃=>wpAny (model X.prog X.w) X.A (newFunctionEnv scope X.env.globals cl [] X.env.qual none .none (some X.env)) (λMv s₄=>
   codeAny (model X.prog X.w) X.A (.compStart (.ListComp elt [⟨target,iter,ifs,0⟩] scope pos) 0 (.ref it) acc {Mv with scope:=relabel scope X.env}) (RR acc Mv.locals) s₄) E s₃) E s2:=by
 refine wpAny_newObj_type (lQ ?_)
 exact DA (R0:=RR _ _) hc S c1 c2 cin N6 hg ht he I2 T kx f2 hb (λC e=>by subst e;exact hR _) (λcl C x s' e=>by subst e;exact hE cl _ x s')
theorem comp_back {fp:List Addr} {pins:List (Addr×Obj)} {σ:St} {H2 H':Hp} {s2 s':Shared} {C:Addr} {ys:List V} {a6:List Value} {n:Nat} {h':Heap} (I2:Inv X pins σ H2 s2) (f2:∀b∈fp,ku X pins H2 b) (hC:s2.heap.objs.size<C)
  (vl:bj ys a6) (sz:ys.length<=sizeLine) (hD:s'.heap.get? s2.heap.objs.size=some (fJ a6 n)) (nD:H' s2.heap.objs.size=none) (nC:H' C=none)
  (os:s'.os=s2.os) (bare:AllBare s'.gens) (un:Un (gT X.stack) fp H2 H' s2.heap s'.heap) (bR:gB X.prog X.w H' s'.heap) (hs:Heap.SameBut C s'.heap h'):
  Inv X pins σ (upd H' s2.heap.objs.size (.lst ys)) {s' with heap:=h'}:=by
 have Pc:∀b o,s2.heap.get? b=some o->b≠C:=λb o e=>YE (Nat.lt_trans (Heap.lt_size e) hC)
 have Ue:∀b o,s2.heap.get? b=some o->b≠s2.heap.objs.size:=λb o e=>YE (Heap.lt_size e)
 have tk:∀b u,H' b=some u->b≠s2.heap.objs.size:=λb u e z=>by rw[z,nD] at e;cases e
 have tC:∀b u,H' b=some u->b≠C:=λb u e z=>by rw[z,nC] at e;cases e
 have fD:H2 s2.heap.objs.size=none:=I2.bR.fresh (Yt _)
 have t2:∀b u,H2 b=some u->b≠s2.heap.objs.size:=λb u e z=>by rw[z,fD] at e;cases e
 refine I2.L3 (s':={s' with heap:=h'}) (ch:=fp) os ⟨λb o e m hb hx=>?_,λb o e m hb hx=>?_,λb o e m hx=>?_,λb o e hx=>?_,λb xs e=>?_,λb o u e=>?_,λb ps e=>?_⟩ (λb u e=>?_) bare λb hb=>?_
 ·exact(hs.2 b (Pc b o e)).trans (un.keep b o e m hb hx)
 ·obtain⟨sl,q⟩:=un.slot b o e m hb hx
  exact⟨sl,(hs.2 b (Pc b o e)).trans q⟩
 ·rw[aw (Ue b o e)]
  exact un.free b o e m hx
 ·obtain⟨o',q⟩:=un.there b o e hx
  exact⟨o',(hs.2 b (Pc b o e)).trans q⟩
 ·rw[aw (t2 b _ e)]
  exact un.m8 b xs e
 ·rw[aw (t2 b _ e)]
  exact un.lE b o u e
 ·obtain⟨mo,q⟩:=un.ng b ps e
  exact⟨mo,by rw[aw (t2 b _ e)];exact q⟩
 ·by_cases hb:b=s2.heap.objs.size
  ·subst hb
   rw[aj] at e
   cases e
   exact⟨sz,a6,n,vl,(hs.2 _ (YE hC)).trans hD⟩
  ·rw[aw hb] at e
   exact(bR b u e).uY (λc v hc q=>(hs.2 c (by
    rcases hc with rfl | hc
    ·exact tC _ _ e
    ·exact tC _ _ hc)).trans q) (λc r=>by rw[aw (tk _ _ r)];exact r) λc xs r=>by rw[aw (tk _ _ r)];exact r
 ·exact⟨(f2 b hb).2.2.2.1,(f2 b hb).2.1,(f2 b hb).2.2.2.2.1,(f2 b hb).2.2.2.2.2⟩
noncomputable def tComp (wi:TI) (g:TG) (tc:TT) (te:TE) (k:Nat) (fr:List Nat):TE:=λσ H Q=>wi σ H λJ H1=>fI J g tc te (stC k fr σ) H1 λys H2=>∀D,H1 D=none->H2 D=none->Q (.ref D) (upd H2 D (.lst ys))
theorem cG {elt target iter:Expr} {ifs:List Expr} {scope so:Scope} {pos:Pos} {wi:TI} {g:TG} {tc:TT} {te:TE} {k:Nat} {fr:List Nat} {N N':List Str} (hc:X.calm=true) (hN:X.N=N) (Pd:X.env.scope=so) (S:fC N so N' scope k fr)
  (hi:PI X target iter wi) (hg:∀cl C s H ex,PG (ph X N' scope cl C s H ex) target g) (ht:∀cl C s H ex,Jz (ph X N' scope cl C s H ex) ifs tc) (he:∀cl C s H ex,PE (ph X N' scope cl C s H ex) elt te)
  (hs:∀x,foldedSetIterable iter X.env x=pure x:=by intro _;rfl):PE X (.ListComp elt [⟨target,iter,ifs,0⟩] scope pos) (tComp wi g tc te k fr):=by
 subst hN Pd
 intro pins s σ H Q I h
 rw[eval_ListComp]
 obtain⟨cl,fK,c1,c2,c3⟩:=jU (env:=X.env) (scope:=scope) λn hn=>I.ok.has n (S.outer _ hn rfl)
 refine wpAny_comprehension_free (use:=none) (cl:=cl) rfl hs fK S.kind S.locs ?_
 refine cD (hi pins s σ H _ I h) λv s1 h1=>cD h1 λHI s2 h2=>?_
 obtain⟨it,fp,tn,J,H2,rfl,I2,T,kx,f2,hb⟩:=h2
 refine uC (RR:=λacc C=>compPost (model X.prog X.w) X.A X.xe none (EP X pins σ Q) acc C) hc S c1 c2 (λx c m=>⟨x,(c3 x c m).1⟩) (λx hx c m=>(S.Jw _ hx rfl).2 (c3 x c m).2) (XE:=λ_ _ _ _ _ _ _=>False) hg ht he I2 T kx f2 hb ?_ (λ_ _ _ _ _ z=>False.elim z)
 intro C s' m ys a6 n H' hC hn vl sz hD nD nC fin os bare un bR
 exact⟨m,hn,λh' Mw=>⟨.ref _,_,comp_back I2 f2 hC vl sz hD nD nC os bare un bR Mw,rfl,fin _ (I2.bR.fresh (Yt _)) nD⟩⟩
theorem lR {elt target iter:Expr} {ifs:List Expr} {scope so:Scope} {pos Mx py:Pos} {wi:TI} {g:TG} {tc:TT} {te:TE} {k:Nat} {fr:List Nat} {N N':List Str} {y:Str} {i:Nat} (hc:X.calm=true) (hN:X.N.Nodup) (hy:X.N[i]?=some y) (hl:X.env.scope.names.lookup y=some .local)
  (Ug:X.N=N) (Pd:X.env.scope=so) (S:fC N so N' scope k fr)
  (hi:PI X target iter wi) (hg:∀cl C s H ex,PG (ph X N' scope cl C s H ex) target g) (ht:∀cl C s H ex,Jz (ph X N' scope cl C s H ex) ifs tc) (he:∀cl C s H ex,PE (ph X N' scope cl C s H ex) elt te)
  (Uh:swapsWith (.ListComp elt [⟨target,iter,ifs,0⟩] scope pos) (some (.Name y py)) Mx.line X.env=pure true:=by rfl)
  (hs:∀x,foldedSetIterable iter X.env x=pure x:=by intro _;rfl):PS X (.Assign [.Name y py] (.ListComp elt [⟨target,iter,ifs,0⟩] scope pos) Mx) (tAsg (tComp wi g tc te k fr) (gName i)):=by
 subst Ug Pd
 intro pins s σ H D I h
 rw[exec_Assign_Name_used _ _ _ _ Uh]
 obtain⟨cl,fK,c1,c2,c3⟩:=jU (env:=X.env) (scope:=scope) λn hn=>I.ok.has n (S.outer _ hn rfl)
 refine wpAny_bind (wpAny_standAt (wpAny_bind ?_))
 show wpAny _ X.A (do let _ <-comprehension (.ListComp elt [⟨target,iter,ifs,0⟩] scope pos) scope X.env _ (newList []) false (eval iter X.env) (some (assign (.Name y py) X.env))) _ _ s
 refine wpAny_bind (wpAny_mono (wpAny_comprehension_free (use:=some (assign (.Name y py) X.env)) (Q:=λ_ s'=>SP X pins D .next s') (cl:=cl) rfl hs fK S.kind S.locs ?_) (λ_ s' hq=>wpAny_pure (wpAny_pure hq)) λ_ _ e=>e)
 refine cD (hi pins s σ H _ I h) λv s1 h1=>cD h1 λHI s2 h2=>?_
 obtain⟨it,fp,tn,J,H2,rfl,I2,T,kx,f2,hb⟩:=h2
 refine uC (RR:=λacc C=>compPost (model X.prog X.w) X.A X.xe (some (assign (.Name y py) X.env)) (λ_ s'=>SP X pins D .next s') acc C) hc S c1 c2 (λx c m=>⟨x,(c3 x c m).1⟩) (λx hx c m=>(S.Jw _ hx rfl).2 (c3 x c m).2) (XE:=λ_ _ _ _ _ _ _=>False) hg ht he I2 T kx f2 hb ?_ (λ_ _ _ _ _ z=>False.elim z)
 intro C s' m ys a6 n H' hC hn vl sz hD nD nC fin os bare un bR
 have I3:Inv X pins σ (upd H' s2.heap.objs.size (.lst ys)) s':=comp_back (h':=s'.heap) I2 f2 hC vl sz hD nD nC os bare un bR (.refl ..)
 refine wpAny_assign_Name (um (v:=.ref s2.heap.objs.size) I3 hN hy (.inl hl) rfl (λs4 I4 ch=>?_) (.inr hl))
 have RO:X.env.locals<s2.heap.objs.size:=I2.lt
 obtain⟨a,gF,ha⟩:=ch
 have aC:a≠C:=by
  rcases ha with rfl | ha
  ·exact YE (Nat.lt_trans RO hC)
  ·obtain⟨v,q⟩:=I2.cell _ _ ha
   exact YE (Nat.lt_trans q.lt hC)
 refine⟨m,hn.sameBut gF (Ne.symm aC),λh' Mw=>⟨_,_,?_,fin _ (I2.bR.fresh (Yt _)) nD⟩⟩
 have Ui:(upd H' s2.heap.objs.size (.lst ys)) C=none:=by rw[aw (Nat.ne_of_gt hC)];exact nC
 exact I4.turned (t':=s4.toks) (it:=C) (h':=h') (λb o hb e=>(Mw.2 b hb).trans e) Ui (Nat.ne_of_gt (Nat.lt_trans RO hC)) (.inr (YB I2.sz (Nat.le_of_lt hC))) (λx c e z=>by
  obtain⟨v,q⟩:=I2.cell x c e
  exact absurd (Nat.lt_trans q.lt hC) (by rw[z];exact YW _)) (λp hp z=>by
  have:=Heap.lt_size (I2.pin p hp).1
  rw[z] at this
  exact absurd (Nat.lt_trans this hC) (YW _))
end
structure Src (J:It) (Ok:Hp->Prop) (n:Nat) (Item:Nat->V->Hp->Hp->Prop):Prop where
 go:∀i H,i<n->Ok H->J.go i H
 BM:∀i H x H3,i<n->Ok H->J.BM i H x H3->Item i x H H3
 stop:∀H,Ok H->J.stop n H
theorem src_list {K:PySem.W.Frag} {a:Addr} {xs:List V} {Ok:Hp->Prop} (h:∀H,Ok H->bI K H a xs):Src (yJ K a) Ok xs.length (λi x H H3=>H3=H/\xs[i]?=some x) where
 go:=λi H hi ok=>⟨xs,xs[i],h H ok,by simp [hi]⟩
 BM:=λi H x H3 hi ok ⟨e,y⟩=>⟨e,y xs (h H ok)⟩
 stop:=λH ok=>⟨xs,h H ok,Yt _⟩
theorem src_range {lo:Int} {n:Nat} {Ok:Hp->Prop}:Src (L6 lo n) Ok n (λi x H H3=>H3=H/\x=.int (lo+i)) where
 go:=λ_ _ hi _=>hi
 BM:=λ_ _ _ _ _ _ y=>y
 stop:=λ_ _=>Yt _
theorem gG {J:It} {g:TG} {tc:TT} {te:TE} {σ0:St} {H1:Hp} {fin:List V->Hp->Prop} {n:Nat} {Item:Nat->V->Hp->Hp->Prop} (S:Src J (aD H1) n Item) (JB:St->Prop) (h0:JB σ0) (P:Nat->List V->Hp->Prop) (p0:P 0 [] H1) (hz:n<=sizeLine)
  (hs:∀i x σ H ys H3 (Q:St->V->Hp->Prop) (N:St->Hp->Prop),i<n->aD H1 H->P i ys H->ys.length<=i->JB σ->Item i x H H3->
   (∀σ3 y H6,JB σ3->aD H1 H6->P (i+1) (ys++ [y]) H6->Q σ3 y H6)->(∀σ3 H5,JB σ3->aD H1 H5->P (i+1) ys H5->N σ3 H5)->
   g x σ H3 λσ3 H4=>tc σ3 H4 λb H5=>if b=true then te σ3 H5 λy H6=>Q σ3 y H6 else N σ3 H5)
  (nG:∀ys H,aD H1 H->P n ys H->ys.length<=n->fin ys H):fI J g tc te σ0 H1 fin:=by
 refine⟨λi m ys σ H=>m=n - i/\i<=n/\ys.length<=i/\JB σ/\aD H1 H/\P i ys H,⟨n,by simp,YD _,Yt _,h0,aD.refl _,p0⟩,?_⟩
 rintro i m ys σ H ⟨rfl,hi,hl,ow,sm,p⟩
 by_cases mZ:i<n
 ·refine .inr ⟨S.go i H mZ sm,λx H3 y=>hs i x σ H ys H3 (λσ3 y H6=>ys.length<sizeLine/\∃m',m'<n - i/\m'=n - (i+1)/\i+1<=n/\(ys++ [y]).length<=i+1/\JB σ3/\aD H1 H6/\P (i+1) (ys++ [y]) H6)
   (λσ3 H5=>∃m',m'<n - i/\m'=n - (i+1)/\i+1<=n/\ys.length<=i+1/\JB σ3/\aD H1 H5/\P (i+1) ys H5) mZ sm p hl ow (S.BM i H x H3 mZ sm y) (λσ3 y H6 o s6 q=>?_) (λσ3 H5 o s5 q=>?_)⟩
  ·exact⟨by omega,n - (i+1),by omega,rfl,mZ,by rw[Yy,Y4];omega,o,s6,q⟩
  ·exact⟨n - (i+1),by omega,rfl,mZ,by omega,o,s5,q⟩
 ·have e:i=n:=by omega
  subst e
  exact .inl ⟨S.stop H sm,nG ys H sm p hl⟩
theorem comp_map {J:It} {te:TE} {tl:St} {H1:Hp} {fin:List V->Hp->Prop} {n:Nat} {Item:Nat->V->Hp->Hp->Prop} (S:Src J (aD H1) n Item) (sub:∀i x H H3,Item i x H H3->aD H H3) (hz:n<=sizeLine)
  (R:Nat->V->Hp->Prop) (mono:∀i y H H',aD H H'->R i y H->R i y H')
  (hs:∀i x w H H3 (Q:VK),i<n->aD H1 H->Item i x H H3->(∀y H6,aD H3 H6->R i y H6->Q y H6)->te ((w::tl).set 0 (some x)) H3 Q)
  (nG:∀ys H,aD H1 H->ys.length=n->(∀i y,ys[i]?=some y->R i y H)->fin ys H):fI J (gName 0) sS te (none::tl) H1 fin:=by
 refine⟨λi m ys σ H=>m=n - i/\i<=n/\ys.length=i/\(∃w,σ=w::tl)/\aD H1 H/\∀j y,ys[j]?=some y->R j y H,⟨n,by simp,YD _,rfl,⟨_,rfl⟩,aD.refl _,λj y e=>by simp at e⟩,?_⟩
 rintro i m ys σ H ⟨rfl,hi,hl,⟨w,rfl⟩,sm,p⟩
 by_cases mZ:i<n
 ·refine .inr ⟨S.go i H mZ sm,λx H3 y=>?_⟩
  have it:=S.BM i H x H3 mZ sm y
  have s3:=sub i x H H3 it
  unfold gName sS
  refine Dl ?_
  refine hs i x w H H3 _ mZ sm it λy H6 s6 r=>⟨by omega,n - (i+1),by omega,rfl,mZ,by rw[Yy,Y4];omega,⟨_,rfl⟩,sm.trans (s3.trans s6),λj z e=>?_⟩
  by_cases hj:j<i
  ·rw[Zn (by omega)] at e
   exact mono j z _ _ (s3.trans s6) (p j z e)
  ·rw[Zk (by omega)] at e
   have e2:j - ys.length=0:=by
    by_cases q:j - ys.length=0
    ·exact q
    ·rw[List.getElem?_eq_none (by simp;omega)] at e;cases e
   rw[e2] at e
   simp at e
   subst e
   have:j=i:=by omega
   subst this
   exact r
 ·have e:i=n:=by omega
  subst e
  exact .inl ⟨S.stop H sm,nG ys H sm hl p⟩
noncomputable def HR (J:It) (g:TG) (tb:TS) (D:Ends) (σ:St) (H:Hp):Prop:=
 ∃W:Nat->Nat->St->Hp->Prop,(∃m,W 0 m σ H)/\∀i m σ H,W i m σ H->
  (J.stop i H/\D.nx σ H)\/(J.go i H/\∃N:St->Hp->Prop,(∀σ' H',N σ' H'->∃m',m'<m/\W (i+1) m' σ' H')/\∀x H',J.BM i H x H'->g x σ H' λσ2 H2=>tb {D with nx:=N,ct:=N,bk:=D.nx} σ2 H2)
theorem tFor_eq {wi:TI} {g:TG} {tb:TS} {D:Ends} {σ:St} {H:Hp}:L7 wi g tb D σ H=wi σ H λJ H1=>HR J g tb D σ H1:=rfl
theorem bU {J:It} {g:TG} {tb:TS} {D:Ends} {σ:St} {H:Hp} {n:Nat} {Item:Nat->V->Hp->Hp->Prop} {Ok:Hp->Prop} (S:Src J Ok n Item) (Pv:Nat->St->Hp->Prop) (h0:Pv 0 σ H) (bR:∀i σ H,i<=n->Pv i σ H->Ok H)
  (hs:∀i x σ H H3,i<n->Pv i σ H->Item i x H H3->g x σ H3 λσ2 H2=>tb {D with nx:=Pv (i+1),ct:=Pv (i+1),bk:=D.nx} σ2 H2) (hd:∀σ H,Pv n σ H->D.nx σ H):HR J g tb D σ H:=by
 refine⟨λi m σ H=>m=n - i/\i<=n/\Pv i σ H,⟨n,by simp,YD _,h0⟩,?_⟩
 rintro i m σ H ⟨rfl,hi,p⟩
 by_cases mZ:i<n
 ·exact .inr ⟨S.go i H mZ (bR i σ H hi p),Pv (i+1),λσ' H' p'=>⟨n - (i+1),by omega,rfl,mZ,p'⟩,λx H' y=>hs i x σ H H' mZ p (S.BM i H x H' mZ (bR i σ H hi p) y)⟩
 ·have e:i=n:=by omega
  subst e
  exact .inl ⟨S.stop H (bR i σ H hi p),hd σ H p⟩
end L2
namespace L2
open PySem PySem.Spec PyProof.Rows
section
variable {X : Cx} {pins : List (Addr × Obj)} {σ : St} {H : Hp} {s : Shared}
theorem Inv.moved {h':Heap} {t':Nat} {ch:List Addr} (I:Inv X pins σ H s) (f:∀b∈ch,ku X pins H b) (k:∀b o,b∉ch->s.heap.get? b=some o->h'.get? b=some o):Inv X pins σ H {s with heap:=h',toks:=t'}:=by
 have HD:∀b u,H b=some u->b∉ch:=λb u e z=>by rw[(f b z).1] at e;cases e
 refine I.step (g':=s.gens) (d':=s.drawn) (ch:=ch) (λb hb=>⟨(f b hb).2.2.2.1,(f b hb).2.1,(f b hb).2.2.2.2.1,(f b hb).2.2.2.2.2⟩) (λb o _ _ hc e _=>k b o hc e) (λb o _ _ hc e _=>⟨o.slots,k b o hc e⟩) (λ_ _ _ _ n=>n)
  (λb o hc e=>⟨o,k b o hc e⟩) (λ_ _ e=>e) (λ_ _ _ e=>e) (λb ps e=>⟨#[],by rw[e];simp⟩) (λm hm=>?_) (λb u e=>?_) I.bare
 ·obtain⟨o,es,ep,ho,r⟩:=hm
  exact⟨o,es,ep,k _ o (λz=>(f _ z).2.1 rfl) ho,r⟩
 ·refine(I.bR b u e).uY (λc v hc q=>k c v ?_ q) (λ_ q=>q) λ_ _ q=>q
  rcases hc with z | z
  ·rw[z];exact HD b u e
  ·exact HD c _ z
theorem Inv.take {ad:Addr} {o:HO} (I:Inv X pins σ H s) (f:ku X pins H ad) (new:X.s₀.heap.objs.size<=ad) (ok:cF X.prog X.w (upd H ad o) s.heap ad o):Inv X pins σ (upd H ad o) s:=by
 obtain⟨hn,nL,nf,_,nc,np⟩:=f
 have tk:∀b u,H b=some u->b≠ad:=λb u e z=>by rw[z,hn] at e;cases e
 refine⟨I.ok,I.os,I.bare,⟨I.base.keep,I.base.slot,λb ob e m hx=>?_,I.base.there,λb xs e=>?_,λb ob u e=>?_,λb ps e=>?_⟩,I.loc,I.cell,?_,λx c e=>?_,λp hp=>?_,λb u e=>?_,I.len⟩
 ·rw[aw (YE (YJ (Heap.lt_size e) new))]
  exact I.base.free b ob e m hx
 ·have q:=I.base.m8 b xs e
  rw[aw (tk b _ q)];exact q
 ·have q:=I.base.lE b ob u e
  rw[aw (tk b _ q)];exact q
 ·obtain⟨mo,q⟩:=I.base.ng b ps e
  exact⟨mo,by rw[aw (tk b _ q)];exact q⟩
 ·rw[aw (Ne.symm nL)];exact I.free
 ·rw[aw (nc x c e)];exact I.iy x c e
 ·obtain⟨a,b,c⟩:=I.pin p hp
  exact⟨a,by rw[aw (np p hp)];exact b,c⟩
 ·by_cases hb:b=ad
  ·subst hb
   rw[aj] at e
   cases e
   exact ok
  ·rw[aw hb] at e
   exact(I.bR b u e).uY (λ_ _ _ q=>q) (λc r=>by rw[aw (tk _ _ r)];exact r) λc xs r=>by rw[aw (tk _ _ r)];exact r
end
noncomputable def Uj (K:PySem.W.Frag) (a b:Addr):It:=
 ⟨λi H=>∃xs ys x y,bI K H a xs/\bI K H b ys/\xs[i]?=some x/\ys[i]?=some y,
  λi H v H'=>∃p,H p=none/\v=.ref p/\∃x y,(∀xs,bI K H a xs->xs[i]?=some x)/\(∀ys,bI K H b ys->ys[i]?=some y)/\H'=upd H p (.tup [x,y]),
  λi H=>∃xs ys,bI K H a xs/\bI K H b ys/\(i=min xs.length ys.length)⟩
noncomputable def Pe (K:PySem.W.Frag) (a:Addr):It:=
 ⟨λi H=>∃xs x,bI K H a xs/\xs[i]?=some x,
  λi H v H'=>∃p,H p=none/\v=.ref p/\∃x,(∀xs,bI K H a xs->xs[i]?=some x)/\H'=upd H p (.tup [.int i,x]),
  λi H=>∃xs,bI K H a xs/\xs.length=i⟩
theorem B8 {P:Program} {w:World} {K:PySem.W.Frag} {elts:List Expr} {k:Nat} {pos:Pos} (e it a:Addr) (RP:e≠it) (hle:a≠e) (RQ:a≠it):
  Turn P w K (.Tuple elts k pos) (Pe K a) [e,it] e (λi h=>(∃old,IsEnum h e it i old)/\h.IsListIter it a i) where
 mem:=by simp
 obj:=λi h st c hc=>by
  obtain⟨⟨old,he⟩,⟨o1,e1,_,d1⟩⟩:=st
  simp only[YR,Zd,or_false] at hc
  rcases hc with rfl | rfl
  ·exact⟨_,he,λv q=>by cases q⟩
  ·exact⟨_,e1,λv q=>by rw[d1] at q;cases q⟩
 keep:=λi h h' st kp=>by
  obtain⟨⟨old,he⟩,h1⟩:=st
  exact⟨⟨old,kp e (by simp) _ he⟩,h1.at λo q=>kp it (by simp) o q⟩
 item:=by
  intro X hP hw hK hc i pins s σ H E I hf st hg
  subst hP hw hK
  obtain⟨xs,x,Lu,hx⟩:=hg
  obtain⟨zv,r1,p1,z1⟩:=I.list Lu
  obtain⟨u,eu,ru⟩:=r1.get hx
  obtain⟨he,h1⟩:=st
  have W:=WalksT.enumerate (prog:=X.prog) (w:=X.w) (I.ok.hd hc) e it a RP hle RQ zv.toArray
  have li:i<zv.toArray.size:=by
   have a1:=(List.getElem?_eq_some_iff.mp eu).1
   simp only[Yv]
   omega
  refine W.item i s _ _ li ⟨he,h1,p1.isList⟩ λT vals h' tk Uk hT hI hm kk=>?_
  have I1:Inv X pins σ H {s with heap:=h',toks:=tk}:=I.moved (ch:=[e,it]) hf kk
  have fT:ku X pins H T:=I.FV hT (I.bR.fresh hT)
  refine⟨_,rfl,W.go elts k pos i T _ _ _ hm λPf kx RS=>?_⟩
  have I2:Inv X pins σ H {s with heap:=Pf,toks:=tk}:=I1.moved (s:={s with heap:=h',toks:=tk}) (t':=tk) (ch:=[e,it]) hf RS
  obtain⟨t,x',ex,rfl⟩:=Uk
  have OE:zv[i]?=some x':=by simpa using ex
  rw[eu] at OE;cases OE
  have Ul:=W.apart _ _ _ hm
  obtain⟨oT,eT,cT,nT,dT⟩:=hI
  have Um:IsTup Pf T #[.int i t,u]:=⟨oT,RS _ _ Ul eT,cT,nT,dT⟩
  have I3:Inv X pins σ (upd H T (.tup [.int i,x])) {s with heap:=Pf,toks:=tk}:=
   I2.take fT (YB I.sz hT) ⟨by show 2<=sizeLine;decide,[.int i t,u],.cons ⟨t,rfl⟩ (.cons ru .nil),Um⟩
  obtain⟨b1,b2,_⟩:=kx
  refine⟨.ref T,_,I3,rfl,⟨T,fT.1,rfl,x,λRT q=>?_,rfl⟩,⟨b1,b2⟩,λc hc=>?_⟩
  ·rw[I.wU q Lu];exact hx
  ·rw[aw (λq=>?_)]
   ·exact(hf c hc).1
   ·subst q
    obtain⟨o,e,_⟩:∃o,s.heap.get? c=some o/\True:=by
     simp only[YR,Zd,or_false] at hc
     obtain⟨old,he⟩:=he
     obtain⟨o1,e1,_⟩:=h1
     rcases hc with rfl | rfl
     ·exact⟨_,he,trivial⟩
     ·exact⟨_,e1,trivial⟩
    exact absurd (Heap.lt_size e) (Nat.not_lt.mpr hT)
 done:=by
  intro X hP hw hK hc i pins s σ H E I hf st hg
  subst hP hw hK
  obtain⟨xs,Lu,hi⟩:=hg
  obtain⟨zv,r1,p1,z1⟩:=I.list Lu
  obtain⟨he,h1⟩:=st
  have W:=WalksT.enumerate (prog:=X.prog) (w:=X.w) (I.ok.hd hc) e it a RP hle RQ zv.toArray
  have l1:=r1.length
  have e:i=zv.toArray.size:=by simp only[Yv];omega
  subst e
  exact W.done s _ _ ⟨he,h1,p1.isList⟩ λh' tk kk=>⟨rfl,I.moved (ch:=[_,it]) hf kk⟩
 self:=λ_ _ _ _ _ st h=>by
  obtain⟨⟨old,he⟩,_⟩:=st
  exact wpAny_pyIter_enum he h
section
variable {X : Cx} {elts : List Expr} {kk : Nat} {sQ : Pos}
noncomputable def iZip (K:PySem.W.Frag) (ta:TA):TI:=λσ H R=>ta σ H λvs H1=>∃a b,vs=[.ref a,.ref b]/\(∃xs,bI K H1 a xs)/\(∃ys,bI K H1 b ys)/\R (Uj K a b) H1
noncomputable def iEnum (K:PySem.W.Frag) (ta:TA):TI:=λσ H R=>ta σ H λvs H1=>∃a,vs=[.ref a]/\(∃xs,bI K H1 a xs)/\R (Pe K a) H1
theorem vg {a:Expr} {ta:TA} {p pos:Pos} (hg:Gl X "enumerate") (hm:X.mg "enumerate"=none) (ha:PA X [a] ta) (hs:starEach [a] X.env=[(false,eval a X.env)]:=by rfl):
  PI X (.Tuple elts kk sQ) (.Call (.Name "enumerate" p) [a] [] pos) (iEnum X.K ta):=by
 intro pins s σ H R I h
 refine Call_ (gu I hg hm rfl (Zm (cD (ha pos pins s σ H _ I h) λus s1 dh=>?_) hs rfl))
 obtain⟨vs,H1,I1,r1,q1⟩:=dh
 obtain⟨a,e,⟨xs,q1⟩,q⟩:=q1
 subst e
 obtain⟨u,rfl,ra⟩:=vals1 r1
 cases ra
 obtain⟨zv,v1,p1,z1⟩:=I1.list q1
 refine call_enumerate_list p1.isList λh' b1 b2 b3 kp=>?_
 refine wpAny_pyIter_enum b1 ?_
 have I2:Inv X pins σ H1 {s1 with heap:=h'}:=I1.kept (t':=s1.toks) kp
 have la:a<s1.heap.objs.size:=by obtain⟨o,e,_⟩:=p1.isList;exact Heap.lt_size e
 refine⟨s1.heap.objs.size+1,[s1.heap.objs.size+1,s1.heap.objs.size],_,_,H1,rfl,I2,
  B8 (s1.heap.objs.size+1) s1.heap.objs.size a (Nat.ne_of_gt (Zc _)) (YE (Nat.lt_succ_of_lt la)) (YE la),⟨⟨_,b1⟩,b2⟩,λc hc=>?_,q⟩
 have RU:s1.heap.objs.size<=c:=by
  simp only[YR,Zd,or_false] at hc
  rcases hc with rfl | rfl <;>omega
 exact I1.FV RU (I1.bR.fresh RU)
end
theorem DB {K:PySem.W.Frag} {a:Addr} {xs:List V} {Ok:Hp->Prop} (h1:∀H,Ok H->bI K H a xs):
  Src (Pe K a) Ok xs.length (λi v H H3=>∃p x,H p=none/\v=.ref p/\xs[i]?=some x/\H3=upd H p (.tup [.int i,x])) where
 go:=λi H hi ok=>⟨xs,xs[i],h1 H ok,by simp [hi]⟩
 BM:=λi H x H3 hi ok ⟨p,n,e,u,e1,e3⟩=>⟨p,u,n,e,e1 xs (h1 H ok),e3⟩
 stop:=λH ok=>⟨xs,h1 H ok,rfl⟩
end L2
namespace L2
open PySem PySem.Spec PyProof.Rows
inductive Dat where
 | cP | bl (b:Bool) | int (i:Int) | str (x:Str) | tup (l:List Dat) | lst (l:List Dat)
mutual
noncomputable def Rep (H:Hp):Dat->V->Prop
 | .cP,v=>v=.cP
 | .bl b,v=>v=.bl b
 | .int i,v=>v=.int i
 | .str x,v=>v=.str x
 | .tup ds,v=>∃p vs,v=.ref p/\H p=some (.tup vs)/\a8 H ds vs
 | .lst ds,v=>∃p vs,v=.ref p/\H p=some (.lst vs)/\a8 H ds vs
noncomputable def a8 (H:Hp):List Dat->List V->Prop
 | [],vs=>vs=[]
 | d::ds,vs=>∃v r,vs=v::r/\Rep H d v/\a8 H ds r
end
mutual
theorem Rep.mono {H H':Hp} (s:aD H H'):∀{d:Dat} {v:V},Rep H d v->Rep H' d v
 | .cP,_,h=>by rw[Rep] at *;exact h
 | .bl _,_,h=>by rw[Rep] at *;exact h
 | .int _,_,h=>by rw[Rep] at *;exact h
 | .str _,_,h=>by rw[Rep] at *;exact h
 | .tup _,_,h=>by
  rw[Rep] at *
  obtain⟨p,vs,e,hp,r⟩:=h
  exact⟨p,vs,e,s _ _ hp,a8.mono s r⟩
 | .lst _,_,h=>by
  rw[Rep] at *
  obtain⟨p,vs,e,hp,r⟩:=h
  exact⟨p,vs,e,s _ _ hp,a8.mono s r⟩
theorem a8.mono {H H':Hp} (s:aD H H'):∀{ds:List Dat} {vs:List V},a8 H ds vs->a8 H' ds vs
 | [],_,h=>by rw[a8] at *;exact h
 | _::_,_,h=>by
  rw[a8] at *
  obtain⟨v,r,e,h1,h2⟩:=h
  exact⟨v,r,e,Rep.mono s h1,a8.mono s h2⟩
end
theorem a8.length {H:Hp}:∀{ds:List Dat} {vs:List V},a8 H ds vs->ds.length=vs.length
 | [],_,h=>by rw[a8] at h;subst h;rfl
 | _::_,_,h=>by
  rw[a8] at h
  obtain⟨v,r,rfl,_,h2⟩:=h
  simp [h2.length]
theorem a8.get {H:Hp}:∀{ds:List Dat} {vs:List V} {i:Nat} {v:V},a8 H ds vs->vs[i]?=some v->∃d,ds[i]?=some d/\Rep H d v
 | [],_,i,v,h,e=>by rw[a8] at h;subst h;simp at e
 | d::ds,_,i,v,h,e=>by
  rw[a8] at h
  obtain⟨v',r,rfl,h1,h2⟩:=h
  cases i with
  | zero=>simp at e;subst e;exact⟨d,rfl,h1⟩
  | succ i=>simp at e;obtain⟨d',e',r'⟩:=h2.get e;exact⟨d',by simpa using e',r'⟩
theorem a8.at {H:Hp}:∀{ds:List Dat} {vs:List V} {i:Nat} {d:Dat},a8 H ds vs->ds[i]?=some d->∃v,vs[i]?=some v/\Rep H d v
 | [],_,i,v,h,e=>by simp at e
 | d::ds,_,i,d',h,e=>by
  rw[a8] at h
  obtain⟨v',r,rfl,h1,h2⟩:=h
  cases i with
  | zero=>simp at e;subst e;exact⟨v',rfl,h1⟩
  | succ i=>simp at e;obtain⟨v,e',r'⟩:=h2.at e;exact⟨v,by simpa using e',r'⟩
theorem a8.of {H:Hp}:∀{ds:List Dat} {vs:List V},ds.length=vs.length->(∀(i:Nat) d v,ds[i]?=some d->vs[i]?=some v->Rep H d v)->a8 H ds vs
 | [],[],_,_=>by rw[a8]
 | [],_::_,h,_=>by simp at h
 | _::_,[],h,_=>by simp at h
 | d::ds,v::vs,h,k=>by
  rw[a8]
  exact⟨v,vs,rfl,k 0 d v rfl rfl,a8.of (by simpa using h) λi d' v' e1 e2=>k (i+1) d' v' (by simpa using e1) (by simpa using e2)⟩
theorem a8.append {H:Hp}:∀{as bs:List Dat} {us vs:List V},a8 H as us->a8 H bs vs->a8 H (as++bs) (us++vs)
 | [],_,_,_,h,k=>by rw[a8] at h;subst h;exact k
 | _::_,_,_,_,h,k=>by
  rw[a8] at h
  obtain⟨v,r,rfl,h1,h2⟩:=h
  show a8 H (_::(_++_)) (_::(_++_))
  rw[a8]
  exact⟨_,_,rfl,h1,h2.append k⟩
noncomputable def depth:Dat->Nat
 | .tup l=>1+dL l
 | .lst l=>1+dL l
 | _=>0
where dL:List Dat->Nat
 | []=>0
 | d::ds=>max (depth d) (dL ds)
theorem gH {d:Dat}:∀{ds:List Dat},d∈ds->depth d<=depth.dL ds
 | e::ds,h=>by
  rw[depth.dL]
  rcases List.mem_cons.mp h with rfl | h
  ·exact Nat.le_max_left _ _
  ·exact YB (gH h) (Nat.le_max_right _ _)
section
variable {X : Cx} {pins : List (Addr × Obj)} {σ : St} {H : Hp} {s : Shared}
theorem all_true (n:Nat):((List.range n).all λ_=>true)=true:=by simp
theorem DC (I:Inv X pins σ H s):∀(n:Nat) (d:Dat),depth d<=n->∀(v v':V) (u u':Value) (A:Around),Rep H d v->Rep H d v'->RelV v u->RelV v' u'->A.units+n<cLine->SeqAt.EqAt A s u u' true:=by
 intro n
 induction n with
 | zero=>
  intro d hd v v' u u' A h h' r r' hu
  cases d with
  | cP=>rw[Rep] at h h';subst h h';cases r;cases r';exact SeqAt.EqAt.same _
  | bl b=>rw[Rep] at h h';subst h h';cases r;cases r';exact SeqAt.EqAt.same _
  | int i=>rw[Rep] at h h';subst h h';obtain⟨t,rfl⟩:=r;obtain⟨t',rfl⟩:=r';have:=SeqAt.EqAt.int_int (A:=A) (s:=s) i t i t';simpa using this
  | str x=>rw[Rep] at h h';subst h h';obtain⟨t,rfl⟩:=r;obtain⟨t',rfl⟩:=r';have:=SeqAt.EqAt.str_str (A:=A) (s:=s) x t x t';simpa using this
  | tup l=>rw[depth] at hd;omega
  | lst l=>rw[depth] at hd;omega
 | succ n ih=>
  intro d hd v v' u u' A h h' r r' hu
  cases d with
  | cP=>rw[Rep] at h h';subst h h';cases r;cases r';exact SeqAt.EqAt.same _
  | bl b=>rw[Rep] at h h';subst h h';cases r;cases r';exact SeqAt.EqAt.same _
  | int i=>rw[Rep] at h h';subst h h';obtain⟨t,rfl⟩:=r;obtain⟨t',rfl⟩:=r';have:=SeqAt.EqAt.int_int (A:=A) (s:=s) i t i t';simpa using this
  | str x=>rw[Rep] at h h';subst h h';obtain⟨t,rfl⟩:=r;obtain⟨t',rfl⟩:=r';have:=SeqAt.EqAt.str_str (A:=A) (s:=s) x t x t';simpa using this
  | tup l=>
   rw[Rep] at h h'
   obtain⟨p,vs,rfl,hp,rl⟩:=h
   obtain⟨p',Fz,rfl,sT,DD⟩:=h'
   cases r
   cases r'
   rw[depth] at hd
   by_cases My:p=p'
   ·subst My;exact SeqAt.EqAt.same _
   obtain⟨a6,rv,pl,hz⟩:=I.tuple (jn.of hp)
   obtain⟨its',DE,DF,Pg⟩:=I.tuple (jn.of sT)
   have e1:=rl.length
   have e2:=DD.length
   have l1:=rv.length
   have l2:=DE.length
   have R:=SeqAt.RcAt.tuples (A:=A) (e:=λ_=>true) pl DF (by omega) (λj h1 h2=>?_)
   ·simp only[Yv,all_true,Bool.true_and] at R
    rw[show(a6.length==its'.length)=true by simp;omega] at R
    exact .of_refs My R
   ·rw[Yv] at h1 h2
    obtain⟨d,ed⟩:∃d,l[j]?=some d:=⟨l[j]'(by omega),by simp⟩
    obtain⟨v1,f1,q1⟩:=rl.at ed
    obtain⟨v2,f2,q2⟩:=DD.at ed
    obtain⟨u1,g1,w1⟩:=rv.get f1
    obtain⟨u2,g2,w2⟩:=DE.get f2
    have a1:a6.toArray[j]=u1:=by simpa [Yw h1] using g1
    have a2:its'.toArray[j]=u2:=by simpa [Yw h2] using g2
    rw[a1,a2]
    have:=gH (YI ed)
    exact ih d (by omega) v1 v2 u1 u2 A.in1 q1 q2 w1 w2 (by show A.units+1+n<cLine;omega)
  | lst l=>
   rw[Rep] at h h'
   obtain⟨p,vs,rfl,hp,rl⟩:=h
   obtain⟨p',Fz,rfl,sT,DD⟩:=h'
   cases r
   cases r'
   rw[depth] at hd
   by_cases My:p=p'
   ·subst My;exact SeqAt.EqAt.same _
   obtain⟨a6,rv,pl,hz⟩:=I.list (bI.of hp)
   obtain⟨its',DE,DF,Pg⟩:=I.list (bI.of sT)
   have e1:=rl.length
   have e2:=DD.length
   have l1:=rv.length
   have l2:=DE.length
   have R:=SeqAt.RcAt.lists (A:=A) (e:=λ_=>true) pl.isList DF.isList (by simp only[Yv];omega) (by omega) (λj h1 h2=>?_)
   ·rw[all_true] at R
    exact .of_refs My R
   ·rw[Yv] at h1 h2
    obtain⟨d,ed⟩:∃d,l[j]?=some d:=⟨l[j]'(by omega),by simp⟩
    obtain⟨v1,f1,q1⟩:=rl.at ed
    obtain⟨v2,f2,q2⟩:=DD.at ed
    obtain⟨u1,g1,w1⟩:=rv.get f1
    obtain⟨u2,g2,w2⟩:=DE.get f2
    have a1:a6.toArray[j]=u1:=by simpa [Yw h1] using g1
    have a2:its'.toArray[j]=u2:=by simpa [Yw h2] using g2
    rw[a1,a2]
    have:=gH (YI ed)
    exact ih d (by omega) v1 v2 u1 u2 A.in1 q1 q2 w1 w2 (by show A.units+1+n<cLine;omega)
end
section
variable {X : Cx}
noncomputable def Gk (b:Bool):R2:=λx y H Q=>∃d,Rep H d x/\Rep H d y/\(∃p,x=.ref p)/\depth d<=40/\Q (.bl b) H
theorem DG {pins:List (Addr×Obj)} {σ:St} {H:Hp} {s:Shared} {d:Dat} {p p':Addr} (I:Inv X pins σ H s) (hu:X.A.units+64<cLine) (h:Rep H d (.ref p)) (h':Rep H d (.ref p')) (hd:depth d<=40):
  (∃a6 its':List Value,IsTup s.heap p a6.toArray/\IsTup s.heap p' its'.toArray/\a6.length=its'.length/\∀j (h1:j<a6.toArray.size) (h2:j<its'.toArray.size),SeqAt.EqAt X.A.in1 s a6.toArray[j] its'.toArray[j] true)\/
  (∃a6 its':List Value,s.heap.IsList p a6.toArray/\s.heap.IsList p' its'.toArray/\a6.length=its'.length/\∀j (h1:j<a6.toArray.size) (h2:j<its'.toArray.size),SeqAt.EqAt X.A.in1 s a6.toArray[j] its'.toArray[j] true):=by
 cases d with
 | cP=>rw[Rep] at h;cases h
 | bl b=>rw[Rep] at h;cases h
 | int i=>rw[Rep] at h;cases h
 | str x=>rw[Rep] at h;cases h
 | tup l=>
  left
  rw[Rep] at h h'
  obtain⟨_,vs,e,hp,rl⟩:=h
  cases e
  obtain⟨_,Fz,e,sT,DD⟩:=h'
  cases e
  rw[depth] at hd
  obtain⟨a6,rv,pl,hz⟩:=I.tuple (jn.of hp)
  obtain⟨its',DE,DF,Pg⟩:=I.tuple (jn.of sT)
  have e1:=rl.length
  have e2:=DD.length
  have l1:=rv.length
  have l2:=DE.length
  refine⟨a6,its',pl,DF,by omega,λj h1 h2=>?_⟩
  rw[Yv] at h1 h2
  obtain⟨d,ed⟩:∃d,l[j]?=some d:=⟨l[j]'(by omega),by simp⟩
  obtain⟨v1,f1,q1⟩:=rl.at ed
  obtain⟨v2,f2,q2⟩:=DD.at ed
  obtain⟨u1,g1,w1⟩:=rv.get f1
  obtain⟨u2,g2,w2⟩:=DE.get f2
  have a1:a6.toArray[j]=u1:=by simpa [Yw h1] using g1
  have a2:its'.toArray[j]=u2:=by simpa [Yw h2] using g2
  rw[a1,a2]
  have:=gH (YI ed)
  exact DC I 40 d (by omega) v1 v2 u1 u2 X.A.in1 q1 q2 w1 w2 (by show X.A.units+1+40<cLine;omega)
 | lst l=>
  right
  rw[Rep] at h h'
  obtain⟨_,vs,e,hp,rl⟩:=h
  cases e
  obtain⟨_,Fz,e,sT,DD⟩:=h'
  cases e
  rw[depth] at hd
  obtain⟨a6,rv,pl,hz⟩:=I.list (bI.of hp)
  obtain⟨its',DE,DF,Pg⟩:=I.list (bI.of sT)
  have e1:=rl.length
  have e2:=DD.length
  have l1:=rv.length
  have l2:=DE.length
  refine⟨a6,its',pl.isList,DF.isList,by omega,λj h1 h2=>?_⟩
  rw[Yv] at h1 h2
  obtain⟨d,ed⟩:∃d,l[j]?=some d:=⟨l[j]'(by omega),by simp⟩
  obtain⟨v1,f1,q1⟩:=rl.at ed
  obtain⟨v2,f2,q2⟩:=DD.at ed
  obtain⟨u1,g1,w1⟩:=rv.get f1
  obtain⟨u2,g2,w2⟩:=DE.get f2
  have a1:a6.toArray[j]=u1:=by simpa [Yw h1] using g1
  have a2:its'.toArray[j]=u2:=by simpa [Yw h2] using g2
  rw[a1,a2]
  have:=gH (YI ed)
  exact DC I 40 d (by omega) v1 v2 u1 u2 X.A.in1 q1 q2 w1 w2 (by show X.A.units+1+40<cLine;omega)
theorem JC (hu:X.A.units+64<cLine):jo X (compareOp .Eq) (Gk true):=by
 intro pins s σ H x y v u Q I rx ry h
 obtain⟨d,h1,h2,⟨p,rfl⟩,hd,q⟩:=h
 obtain⟨p',rfl⟩:∃p',y=.ref p':=by
  cases d with
  | cP=>rw[Rep] at h1;cases h1
  | bl b=>rw[Rep] at h1;cases h1
  | int i=>rw[Rep] at h1;cases h1
  | str x=>rw[Rep] at h1;cases h1
  | tup l=>rw[Rep] at h2;obtain⟨p',_,e,_⟩:=h2;exact⟨p',e⟩
  | lst l=>rw[Rep] at h2;obtain⟨p',_,e,_⟩:=h2;exact⟨p',e⟩
 cases rx
 cases ry
 rcases DG I hu h1 h2 hd with ⟨a6,its',a,b,e,k⟩ | ⟨a6,its',a,b,e,k⟩
 ·refine SeqAt.eq_tupleAt (e:=λ_=>true) a b (by omega) k ⟨.bl true,H,I,?_,q⟩
  show Value.bool _=Value.bool true
  rw[all_true,Yv,Yv,e]
  simp
 ·refine SeqAt.eq_listAt (e:=λ_=>true) a b (by simp only[Yv];exact e) (by omega) k ⟨.bl true,H,I,?_,q⟩
  show Value.bool _=Value.bool true
  rw[all_true]
theorem DH (hu:X.A.units+64<cLine):jo X (compareOp .NotEq) (Gk false):=by
 intro pins s σ H x y v u Q I rx ry h
 obtain⟨d,h1,h2,⟨p,rfl⟩,hd,q⟩:=h
 obtain⟨p',rfl⟩:∃p',y=.ref p':=by
  cases d with
  | cP=>rw[Rep] at h1;cases h1
  | bl b=>rw[Rep] at h1;cases h1
  | int i=>rw[Rep] at h1;cases h1
  | str x=>rw[Rep] at h1;cases h1
  | tup l=>rw[Rep] at h2;obtain⟨p',_,e,_⟩:=h2;exact⟨p',e⟩
  | lst l=>rw[Rep] at h2;obtain⟨p',_,e,_⟩:=h2;exact⟨p',e⟩
 cases rx
 cases ry
 rcases DG I hu h1 h2 hd with ⟨a6,its',a,b,e,k⟩ | ⟨a6,its',a,b,e,k⟩
 ·refine SeqAt.RcNeAt.tuples (A:=X.A) (e:=λ_=>true) a b (by omega) k X.prog X.w X.xe _ ⟨.bl false,H,I,?_,q⟩
  show Value.bool _=Value.bool false
  rw[all_true,Yv,Yv,e]
  simp
 ·refine SeqAt.RcNeAt.lists (A:=X.A) (e:=λ_=>true) a b (by simp only[Yv];exact e) (by omega) k X.prog X.w X.xe _ ⟨.bl false,H,I,?_,q⟩
  show Value.bool _=Value.bool false
  rw[all_true]
  rfl
noncomputable def rNeT:R2:=λx y H Q=>∃p q xs ys,x=.ref p/\y=.ref q/\H p=some (.tup xs)/\H q=some (.tup ys)/\xs.all fG=true/\ys.all fG=true/\Q (.bl (!RC xs ys)) H
end
end L2
namespace Nm
noncomputable def ins (x:Int):List Int->List Int
 | []=>[x]
 | y::r=>if x<=y then x::y::r else y::ins x r
noncomputable def vh:List Int->List Int
 | []=>[]
 | x::r=>ins x (vh r)
theorem qu (x:Int):∀l,(ins x l).Perm (x::l)
 | []=>.refl _
 | y::r=>by
  unfold ins
  split
  ·exact .refl _
  ·exact((qu x r).cons y).trans (.swap ..)
theorem lS:∀l,(vh l).Perm l
 | []=>.refl _
 | x::r=>(qu x _).trans ((lS r).cons x)
set_option tactic.hygienic true in
theorem AO (x:Int):∀l:List Int,l.Pairwise (·<=·)->(ins x l).Pairwise (·<=·)
 | [],_=>by unfold ins;simp
 | y::r,h=>by
  unfold ins
  rw[List.pairwise_cons] at h
  split
  ·rename_i c
   rw[List.pairwise_cons,List.pairwise_cons]
   refine⟨λz hz=>?_,h.1,h.2⟩
   rcases List.mem_cons.mp hz with rfl | hz
   ·exact c
   ·have:=h.1 z hz;omega
  ·rename_i c
   rw[List.pairwise_cons]
   refine⟨λz hz=>?_,AO x r h.2⟩
   rcases List.mem_cons.mp ((qu x r).mem_iff.mp hz) with rfl | hz
   ·omega
   ·exact h.1 z hz
theorem AQ:∀l:List Int,(vh l).Pairwise (·<=·)
 | []=>by unfold vh;simp
 | x::r=>AO x _ (AQ r)
theorem g4 (l:List Int):(vh l).length=l.length:=(lS l).length_eq
theorem AR:∀{a b:List Int},a.Perm b->a.Pairwise (·<=·)->b.Pairwise (·<=·)->a=b
 | [],b,p,_,_=>by simpa using p.symm.eq_nil
 | x::a,[],p,_,_=>by simpa using p.eq_nil
 | x::a,y::b,p,ha,hb=>by
  rw[List.pairwise_cons] at ha hb
  have e:x=y:=by
   have h1:y∈x::a:=p.mem_iff.mpr YA
   have h2:x∈y::b:=p.mem_iff.mp YA
   rcases List.mem_cons.mp h1 with h1 | h1
   ·exact h1.symm
   ·rcases List.mem_cons.mp h2 with h2 | h2
    ·exact h2
    ·have:=ha.1 y h1
     have:=hb.1 x h2
     omega
  subst e
  rw[AR ((List.perm_cons x).mp p) ha.2 hb.2]
theorem vi {a b:List Int} (p:a.Perm b) (o:a.Pairwise (·<=·)):a=vh b:=AR (p.trans (lS b).symm) o (AQ b)
theorem Gn {a:Int} {l:List Int}:a∈vh l↔a∈l:=(lS l).mem_iff
end Nm
namespace L2
open PySem PySem.Spec PyProof.Rows PySem.W
section
variable {X : Cx}
theorem zw {us:List Value} {ns:List Int} (h:IntsAre us ns):∃xs,us.toArray=intItems xs/\preSum (numAt xs) xs.size=ns.sum:=by
 obtain⟨xs,hx⟩:=h.allInts.items
 refine⟨xs,hx,?_⟩
 have e1:ns=xs.toList.map (·.1):=by
  rw[<-nums_intItems,<-hx]
  exact h.numsOf.symm
 rw[preSum_eq,YG (by simp),e1]
theorem zx (hc:X.calm=true):cX X (.builtin "sum") (λxs H Q=>∃p ns,xs=[.ref p]/\bI X.K H p (List.map V.int ns)/\Q (.int ns.sum) H):=by
 intro pins s σ H xs us Q I r h
 obtain⟨p,ns,rfl,hq,q⟩:=h
 obtain⟨u,rfl,rx⟩:=vals1 r
 cases rx
 obtain⟨a6,rv,pl,hz⟩:=I.list hq
 obtain⟨ys,e1,e2⟩:=zw (intsAre_of rv)
 have hl:=pl.isList
 rw[e1] at hl
 refine sum_intListG (I.ok.hd hc) hl λh' tk t' hk=>⟨.int ns.sum,H,I.kept (t':=tk) hk,⟨t',?_⟩,q⟩
 rw[e2]
theorem g5 {us:List Value} {ns:List Int} (h:IntsAre us ns):bj (ns.map V.int) us:=by
 induction h with
 | nil=>exact .nil
 | cons n t _ ih=>exact .cons ⟨t,rfl⟩ ih
theorem sU:cX X (.builtin "sorted") (λxs H Q=>∃p ns,xs=[.ref p]/\bI X.K H p (List.map V.int ns)/\ns.length<64/\∀l,H l=none->Q (.ref l) (upd H l (.lst (List.map V.int (Nm.vh ns))))):=by
 intro pins s σ H xs us Q I r h
 obtain⟨p,ns,rfl,hq,hn,q⟩:=h
 obtain⟨u,rfl,rx⟩:=vals1 r
 cases rx
 obtain⟨a6,rv,pl,hz⟩:=I.list hq
 have hl:=rv.length
 rw[Yr] at hl
 refine sorted_ints pl.isList (intsAre_of rv) (by omega) λout CD a1 a2 a3=>?_
 obtain rfl:=Nm.vi a2 a3
 obtain⟨e,he⟩:=sortedAll_at s.heap a6 out
 have fr:=I.bR.fresh (a:=s.heap.objs.size+1) (Nat.le_succ _)
 refine⟨.ref (s.heap.objs.size+1),_,I.laid (t':=s.toks) (λ_ _=>sortedAll_old) (Nat.le_succ _) (o:=.lst (List.map V.int (Nm.vh ns))) ⟨?_,out.toList,e,g5 a1,?_⟩,rfl,q _ fr⟩
 ·rw[Yr,Nm.g4,sizeLine_eq];omega
 ·exact he
noncomputable def jV (kvs:List (Key×V)):List Int:=kvs.map λp=>match p.1 with | .inl i=>i | .inr _=>0
noncomputable def allI (kvs:List (Key×V)):Prop:=∀p∈kvs,∃i,p.1=Sum.inl i
theorem sV (hc:X.calm=true):cX X (.builtin "sorted") (λxs H Q=>∃d kvs,xs=[.ref d]/\Rd H d (.dK kvs)/\allI kvs/\kvs.length<64/\∀l,H l=none->Q (.ref l) (upd H l (.lst (List.map V.int (Nm.vh (jV kvs)))))):=by
 intro pins s σ H xs us Q I r h
 obtain⟨d,kvs,rfl,hd,B3,hn,q⟩:=h
 obtain⟨u,rfl,rx⟩:=vals1 r
 cases rx
 obtain⟨hz,lo,vs,kv,dd⟩:=oP I.bR hd
 have hlen:kvs.length=vs.length:=Paired.length kv
 obtain⟨ep,HQ⟩:=dd.dictAt
 refine Calls.call_function_entry kind_sorted plain_sorted entry_sorted (args_sorted1 _) ?_
 unfold Builtin.«sorted»
 refine wpAny_bind (m:=checkCount "sorted" 1 1 _) (wpAny_pure ?_)
 refine wpAny_bind (kdu_collect (A:=X.A.in1) (kdl_dict (kvs:=vs) (ep:=ep) lo) (I.ok.hd hc) HQ (by rw[<-hlen,sizeLine_eq];omega) λh' tk acc hk zu=>?_)
 have hl:acc.toList.length=vs.length:=by rw[Array.length_toList];exact zu.1
 have hI:IntsAre acc.toList (jV kvs):=by
  have all:∀(j:Nat) v,acc.toList[j]?=some v->∃i t,v=Value.int i t/\(jV kvs)[j]?=some i:=λj v e=>by
   obtain⟨k,x,hx,hk⟩:=zu.2 j v (by rw[<-Array.getElem?_toList];exact e)
   obtain⟨p,e1,e2⟩:∃p,kvs[j]?=some p/\p.1=k:=by
    have:∀{as:List (Key×V)} {bs:List (Key×Value)} (j:Nat) {b},KV as bs->bs[j]?=some b->∃a,as[j]?=some a/\a.1=b.1:=by
     intro as bs j b r
     induction r generalizing j with
     | nil=>intro e;simp at e
     | cons r1 r2 ih=>
      intro e
      cases j with
      | zero=>simp at e;subst e;exact⟨_,rfl,r1.1⟩
      | succ j=>simp at e;obtain⟨a,e1,e2⟩:=ih j e;exact⟨a,by simpa using e1,e2⟩
    obtain⟨a,e1,e2⟩:=this j kv hx
    exact⟨a,e1,e2⟩
   obtain⟨i,hi⟩:=B3 p (YI e1)
   rw[<-e2,hi] at hk
   have hk:qg (.inl i) v=true:=hk
   rcases cy hk with ⟨i',t,e3,e4⟩ | ⟨x',t,e3,_⟩
   ·cases e3
    refine⟨i,t,e4,?_⟩
    unfold jV
    rw[Yu,e1]
    simp [hi]
   ·cases e3
  have go:∀(us:List Value) (ns:List Int),us.length=ns.length->(∀(j:Nat) v,us[j]?=some v->∃i t,v=Value.int i t/\ns[j]?=some i)->IntsAre us ns:=by
   intro us
   induction us with
   | nil=>intro ns hl _;cases ns with | nil=>exact .nil | cons _ _=>simp at hl
   | cons u us ih=>
    intro ns hl k
    cases ns with
    | nil=>simp at hl
    | cons n ns=>
     obtain⟨i,t,rfl,e⟩:=k 0 u rfl
     simp at e
     subst e
     exact .cons n t (ih ns (by simpa using hl) λj v e=>by
      obtain⟨i,t,e1,e2⟩:=k (j+1) v (by simpa using e)
      exact⟨i,t,e1,by simpa using e2⟩)
  refine go _ _ ?_ all
  unfold jV
  rw[Yr,hl,hlen]
 refine wpAny_bind (wpAny_newList ?_ (by rw[hl,<-hlen,sizeLine_eq];omega))
 have LZ:(h'.push (seqObj "list" acc.toList.toArray 0)).get? h'.objs.size=some (seqObj "list" acc.toList.toArray 0):=Heap.get?_push_size _ rfl
 have I1:Inv X pins σ H {s with heap:=h',toks:=tk}:=I.kept (t':=tk) hk
 refine wpAny_bind (wpAny_holding (wpAny_call_entry slot_list_sort ⟨_,LZ,rfl⟩ entry_list_sort (list_sort_tree LZ hI (by omega) λout CD a1 a2 a3=>⟨_,rfl,?_⟩) (args_list_sort _)))
 obtain rfl:=Nm.vi a2 a3
 obtain⟨e,he⟩:=sortedHeap_at (out:=out) LZ
 have fr:=I1.bR.fresh (a:=h'.objs.size) (Yt _)
 refine wpAny_pure ⟨_,rfl,.ref h'.objs.size,_,I1.laid (t':=tk) (λb o eb=>?_) (Yt _) (o:=.lst (List.map V.int (Nm.vh (jV kvs)))) ⟨?_,out.toList,e,g5 a1,?_⟩,rfl,q _ fr⟩
 ·rw[sortedHeap_old (YE (Heap.lt_size eb)) (by rw[Heap.size_push];exact Nat.lt_succ_of_lt (Heap.lt_size eb))]
  exact Heap.get?_push_of_some _ eb
 ·rw[Yr,Nm.g4,sizeLine_eq]
  unfold jV
  rw[Yr]
  omega
 ·exact he
end
section
variable {X : Cx} {pins : List (Addr × Obj)} {σ : St} {H : Hp} {s : Shared}
end
noncomputable def Uo (d:Addr) (o:Obj) (kvs:List (Key×V)):It:=
 ⟨λi H=>H d=some (.wI o (.dK kvs))/\i<kvs.length,λi H x H'=>H'=H/\∃p,kvs[i]?=some p/\x=kV p.1,λi H=>H d=some (.wI o (.dK kvs))/\i=kvs.length⟩
section
variable {X : Cx} {x : Str} {Up : Pos}
noncomputable def iDict (tl:TE):TI:=λσ H R=>tl σ H λv H1=>∃d kvs,v=.ref d/\H1 d=some (.dK kvs)/\∀o,R (Uo d o kvs) (upd H1 d (.wI o (.dK kvs)))
end
end L2
namespace L2
open PySem PySem.Spec PyProof.Rows PySem.W
section
variable {X : Cx} {K : PySem.W.Frag}
theorem bh {tg l:Expr} {tl:TE} (hl:PE X l tl) (hK:X.K=K:=by rfl):PI X tg l (iList K tl):=by subst hK;exact FW hl
theorem sW {elts:List Expr} {kk:Nat} {sQ:Pos} {a:Expr} {ta:TA} {p pos:Pos} (hg:Gl X "enumerate") (hm:X.mg "enumerate"=none) (ha:PA X [a] ta) (n1:noStar a=true:=by rfl) (hK:X.K=K:=by rfl):
  PI X (.Tuple elts kk sQ) (.Call (.Name "enumerate" p) [a] [] pos) (iEnum K ta):=by subst hK;exact vg hg hm ha (by rw[se n1];rfl)
theorem d4 {es:List Expr} {k:Nat} {t:HH} {n:Nat} {pos:Pos} (hc:X.calm=true) (h:Lq X es t) (hn:(assignEach es X.env).length=n:=by rfl) (hst:(assignEach es X.env).findIdx? (·.1)=none:=by rfl) (hK:X.K=K:=by rfl):PG X (.Tuple es k pos) (BK K n t):=by
 subst hK;exact IT hc h hn hst
theorem uD (hK:X.K=K:=by rfl):Fy X (Jp K):=by subst hK;exact Dm
theorem kA (hK:X.K=K:=by rfl):cX X (.builtin "len") (λxs H Q=>∃p ns,xs=[.ref p]/\bI K H p (List.map V.int ns)/\Q (.int (List.length ns:Nat)) H):=by subst hK;exact B6
theorem sX (hK:X.K=K:=by rfl):jo X (compareOp .NotIn) (OW K true):=by subst hK;exact va
theorem dC (hK:X.K=K:=by rfl):cX X (.type "list") (λxs H Q=>∃p ys,xs=[.ref p]/\(bI K H p ys\/jn K H p ys)/\∀l,H l=none->Q (.ref l) (upd H l (.lst ys))):=by subst hK;exact vb
theorem nH (hK:X.K=K:=by rfl):cX X (.builtin "isinstance") (λxs H Q=>∃x c t b,xs=[x,.ty c]/\lI K H x t/\PySem.W.kitOne K t (.type c)=some b/\Q (.bl b) H):=by subst hK;exact Dp
theorem iD (hc:X.calm=true:=by rfl) (hK:X.K=K:=by rfl):cX X (.builtin "sum") (λxs H Q=>∃p ns,xs=[.ref p]/\bI K H p (List.map V.int ns)/\Q (.int ns.sum) H):=by subst hK;exact zx hc
theorem qv (hK:X.K=K:=by rfl):cX X (.builtin "sorted") (λxs H Q=>∃p ns,xs=[.ref p]/\bI K H p (List.map V.int ns)/\ns.length<64/\∀l,H l=none->Q (.ref l) (upd H l (.lst (List.map V.int (Nm.vh ns))))):=by subst hK;exact sU
theorem qw (hc:X.calm=true:=by rfl):cX X (.builtin "sorted") (λxs H Q=>∃d kvs,xs=[.ref d]/\Rd H d (.dK kvs)/\allI kvs/\kvs.length<64/\∀l,H l=none->Q (.ref l) (upd H l (.lst (List.map V.int (Nm.vh (jV kvs)))))):=sV hc
theorem qx (hK:X.K=K:=by rfl):NX X (rSlL K):=by subst hK;exact F5
theorem Je.r {id:String} {r:V->List V->Hp->VK->Prop} (h:Je X id r):IY X id r:=h
end
end L2
namespace Nm
abbrev Ws:=List (Int×Int)
noncomputable def keys (ws:Ws):List Int:=ws.map (·.1)
noncomputable def look:Ws->Int->Int
 | [],_=>0
 | p::r,k=>if p.1=k then p.2 else look r k
noncomputable def put:Ws->Int->Int->Ws
 | [],k,v=>[(k,v)]
 | p::r,k,v=>if p.1=k then (k,v)::r else p::put r k v
noncomputable def qy (ws:Ws):Int:=(ws.map (·.2)).sum
noncomputable def jr (ws:Ws) (k x:Int):Ws:=put ws k (look ws k+x)
noncomputable def cJ (ws ps:Ws):Ws:=ps.foldl (λacc p=>jr acc p.1 p.2) ws
noncomputable def cnt (ps:Ws) (s:Int):Int:=(ps.map λp=>if p.1=s then p.2 else 0).sum
set_option tactic.hygienic true in
theorem xq:∀(ws:Ws) (k v j:Int),look (put ws k v) j=if k=j then v else look ws j
 | [],k,v,j=>by simp [put,look]
 | p::r,k,v,j=>by
  unfold put
  split
  ·rename_i c
   simp only[look]
   by_cases e:k=j
   ·simp [e]
   ·rw[if_neg e,if_neg e,if_neg (by omega)]
  ·rename_i c
   simp only[look]
   by_cases e:p.1=j
   ·rw[if_pos e,if_neg (by omega),if_pos e]
   ·rw[if_neg e,if_neg e]
    exact xq r k v j
set_option tactic.hygienic true in
theorem AS {ws:Ws} {k v j:Int}:j∈keys (put ws k v)↔j=k\/j∈keys ws:=by
 induction ws with
 | nil=>simp [put,keys]
 | cons p r ih=>
  unfold put
  split
  ·rename_i c
   simp only[keys,Ys,YR]
   rw[c]
   constructor
   ·intro h;exact .inr h
   ·rintro(h | h)
    ·exact .inl h
    ·exact h
  ·simp only[keys,Ys,YR] at ih ⊢
   rw[ih]
   constructor
   ·rintro(h | h | h)
    ·exact .inr (.inl h)
    ·exact .inl h
    ·exact .inr (.inr h)
   ·rintro(h | h | h)
    ·exact .inr (.inl h)
    ·exact .inl h
    ·exact .inr (.inr h)
set_option tactic.hygienic true in
theorem B9 {ws:Ws} (k v:Int) (h:(keys ws).Nodup):(keys (put ws k v)).Nodup:=by
 induction ws with
 | nil=>simp [put,keys]
 | cons p r ih=>
  have h':p.1∉keys r/\(keys r).Nodup:=by simpa [keys] using h
  unfold put
  split
  ·rename_i c
   have:k∉keys r/\(keys r).Nodup:=by rw[<-c];exact h'
   simpa [keys] using this
  ·rename_i c
   have i:=ih h'.2
   have n:p.1∉keys (put r k v):=λz=>by
    rcases AS.mp z with z | z
    ·exact c z
    ·exact h'.1 z
   have:p.1∉keys (put r k v)/\(keys (put r k v)).Nodup:=⟨n,i⟩
   simpa [keys] using this
theorem xr:∀(ws:Ws) (k x:Int),qy (jr ws k x)=qy ws+x
 | [],k,x=>by simp [jr,put,look,qy]
 | p::r,k,x=>by
  have ih:=xr r k x
  unfold jr qy at *
  unfold put look
  by_cases c:p.1=k
  ·rw[if_pos c,if_pos c]
   simp only[Ys,Ze]
   omega
  ·rw[if_neg c,if_neg c]
   simp only[Ys,Ze]
   omega
theorem Gp (ws:Ws) (k v:Int):(put ws k v).length<=ws.length+1:=by
 induction ws with
 | nil=>simp [put]
 | cons p r ih=>
  unfold put
  split
  ·simp
  ·simp only[YC];omega
theorem oQ:∀(ps ws:Ws) (s:Int),look (cJ ws ps) s=look ws s+cnt ps s
 | [],ws,s=>by simp [cJ,cnt]
 | p::r,ws,s=>by
  have ih:=oQ r (jr ws p.1 p.2) s
  show look (cJ (jr ws p.1 p.2) r) s=_
  rw[ih]
  unfold jr cnt
  rw[xq]
  simp only[Ys,Ze]
  by_cases c:p.1=s
  ·rw[if_pos c,if_pos c,c];omega
  ·rw[if_neg c,if_neg c];omega
theorem kB {s:Int}:∀{ps ws:Ws},s∈keys (cJ ws ps)↔s∈keys ws\/s∈keys ps
 | [],ws=>by simp [cJ,keys]
 | p::r,ws=>by
  show s∈keys (cJ (jr ws p.1 p.2) r)↔_
  rw[kB]
  unfold jr
  rw[AS]
  simp only[keys,Ys,YR]
  constructor
  ·rintro((h | h) | h)
   ·exact .inr (.inl h)
   ·exact .inl h
   ·exact .inr (.inr h)
  ·rintro(h | h | h)
   ·exact .inl (.inr h)
   ·exact .inl (.inl h)
   ·exact .inr h
theorem lT:∀{ps ws:Ws},(keys ws).Nodup->(keys (cJ ws ps)).Nodup
 | [],_,h=>h
 | p::r,ws,h=>by
  show(keys (cJ (jr ws p.1 p.2) r)).Nodup
  exact lT (B9 _ _ h)
theorem qz:∀(ps ws:Ws),qy (cJ ws ps)=qy ws+qy ps
 | [],ws=>by simp [cJ,qy]
 | p::r,ws=>by
  show qy (cJ (jr ws p.1 p.2) r)=_
  rw[qz,xr]
  unfold qy
  simp only[Ys,Ze]
  omega
theorem qA:∀(ps ws:Ws),(cJ ws ps).length<=ws.length+ps.length
 | [],ws=>by simp [cJ]
 | p::r,ws=>by
  have h:=qA r (jr ws p.1 p.2)
  have h2:=Gp ws p.1 (look ws p.1+p.2)
  show(cJ (jr ws p.1 p.2) r).length<=_
  unfold jr at *
  simp only[YC]
  omega
structure Over (as ws:Ws) (B T:Int):Prop where
 nd:(keys ws).Nodup
 perm:(keys as).Perm (keys ws)
 val:∀k∈keys ws,look as k*T=look ws k*B
theorem cS {ws:Ws} {p:Int×Int} (h:(keys ws).Nodup) (hp:p∈ws):look ws p.1=p.2:=by
 induction ws with
 | nil=>cases hp
 | cons q r ih=>
  have h':q.1∉keys r/\(keys r).Nodup:=by simpa [keys] using h
  unfold look
  rcases List.mem_cons.mp hp with rfl | hp
  ·rw[if_pos rfl]
  ·rw[if_neg (λz=>h'.1 (by rw[z];exact List.mem_map.mpr ⟨p,hp,rfl⟩))]
   exact ih h'.2 hp
noncomputable def rowsOf (ws:Ws) (B:Int):List (Int×Int×Int):=(vh (keys ws)).map λv=>(v,st (look ws v) B,sb (look ws v) B)
theorem sZ (ws p q:Ws):cJ ws (p++q)=cJ (cJ ws p) q:=by
 unfold cJ
 rw[List.foldl_append]
theorem xt (ws p:Ws) (k x:Int):cJ ws (p++ [(k,x)])=jr (cJ ws p) k x:=by
 rw[sZ]
 rfl
theorem AU:∀{l:List Int},0<l.length->(∀x∈l,0<x)->0<l.sum
 | [],h,_=>by simp at h
 | x::r,_,h=>by
  have hx:=h x YA
  rw[Ze]
  by_cases c:0<r.length
  ·have:=AU c λy hy=>h y (Yz _ hy)
   omega
  ·have:r=[]:=List.eq_nil_of_length_eq_zero (by omega)
   subst this
   simpa using hx
theorem zy {c:Int}:∀{l:List Int},(∀x∈l,x<=c)->l.sum<=l.length*c
 | [],_=>by simp
 | x::r,h=>by
  have hx:=h x YA
  have:=zy λy hy=>h y (Yz _ hy)
  rw[Ze,YC,Int.natCast_succ,Int.add_mul]
  omega
theorem JD {ws:Ws} (nd:(keys ws).Nodup) {P:Int->Prop} (h:∀k∈keys ws,P (look ws k)):∀x∈ws.map (·.2),P x:=λx hx=>by
 obtain⟨p,hp,rfl⟩:=List.mem_map.mp hx
 have:=h p.1 (List.mem_map.mpr ⟨p,hp,rfl⟩)
 rwa [cS nd hp] at this
theorem Gq {ws:Ws} (h:0<ws.length) (nd:(keys ws).Nodup) (w:∀k∈keys ws,0<look ws k):0<qy ws:=
 AU (by rw[Yr];exact h) (JD nd w)
theorem JE {ps:Ws} (h:∀p∈ps,0<p.2) (s:Int):0<=cnt ps s:=by
 induction ps with
 | nil=>simp [cnt]
 | cons p r ih=>
  have i:=ih λq hq=>h q (Yz _ hq)
  have hp:=h p YA
  unfold cnt at *
  rw[Ys,Ze]
  split <;>omega
theorem pW {ps:Ws} (h:∀p∈ps,0<p.2) {s:Int} (hs:s∈keys ps):0<cnt ps s:=by
 induction ps with
 | nil=>simp [keys] at hs
 | cons p r ih=>
  have h':∀q∈r,0<q.2:=λq hq=>h q (Yz _ hq)
  have hp:=h p YA
  have n:=JE h' s
  have e:cnt (p::r) s=(if p.1=s then p.2 else 0)+cnt r s:=by unfold cnt;rw[Ys,Ze]
  rw[e]
  by_cases c:p.1=s
  ·rw[if_pos c];omega
  ·rw[if_neg c]
   have Mw:s∈keys r:=by
    unfold keys at hs ⊢
    rw[Ys] at hs
    rcases List.mem_cons.mp hs with z | z
    ·exact absurd z.symm c
    ·exact z
   have:=ih h' Mw
   omega
end Nm
namespace L2
open PySem PySem.Spec PyProof.Rows
noncomputable def enc (ws:Nm.Ws):List (Key×V):=ws.map λp=>(Sum.inl p.1,V.int p.2)
theorem vj (ws:Nm.Ws):(enc ws).length=ws.length:=by unfold enc;rw[Yr]
theorem Ca (ws:Nm.Ws):jV (enc ws)=Nm.keys ws:=by
 unfold jV enc Nm.keys
 rw[YZ]
 rfl
theorem DI (ws:Nm.Ws):allI (enc ws):=λp hp=>by
 unfold enc at hp
 obtain⟨q,_,rfl⟩:=List.mem_map.mp hp
 exact⟨q.1,rfl⟩
theorem AV (ws:Nm.Ws) (k:Int):dt (enc ws) (Sum.inl k)=if k∈Nm.keys ws then some (.int (Nm.look ws k)) else none:=by
 induction ws with
 | nil=>simp [enc,dt,Nm.keys]
 | cons p r ih=>
  unfold dt at *
  unfold enc at *
  rw[Ys,List.find?_cons]
  unfold Nm.look
  by_cases c:p.1=k
  ·rw[show decide ((Sum.inl p.1:Key)=Sum.inl k)=true by rw[c];simp]
   simp [Nm.keys,c]
  ·rw[show decide ((Sum.inl p.1:Key)=Sum.inl k)=false by simpa using c]
   simp only[ih]
   have e:(k∈Nm.keys (p::r))=(k∈Nm.keys r):=by
    unfold Nm.keys
    rw[Ys,YR]
    apply propext
    constructor
    ·rintro(h | h)
     ·exact absurd h.symm c
     ·exact h
    ·exact .inr
   simp only[e,if_neg c]
theorem Gr {ws:Nm.Ws} (nd:(Nm.keys ws).Nodup) (k v:Int):putK (enc ws) (Sum.inl k) (.int v)=enc (Nm.put ws k v):=by
 have key:∀{ws:Nm.Ws},k∉Nm.keys ws->(enc ws).map (λkv=>if kv.1=(Sum.inl k:Key) then (kv.1,V.int v) else kv)=enc ws:=by
  intro ws h
  unfold enc
  rw[YZ]
  apply List.map_congr_left
  intro p hp
  have:p.1≠k:=λz=>h (by rw[<-z];exact List.mem_map.mpr ⟨p,hp,rfl⟩)
  simp [this]
 have any:∀ws:Nm.Ws,((enc ws).any λkv=>decide (kv.1=(Sum.inl k:Key)))=decide (k∈Nm.keys ws):=by
  intro ws
  induction ws with
  | nil=>simp [enc,Nm.keys]
  | cons p r ih=>
   unfold enc at *
   rw[Ys,List.any_cons,ih]
   unfold Nm.keys
   rw[Ys]
   by_cases c:p.1=k
   ·simp [c]
   ·have c2:¬k=p.1:=λz=>c z.symm
    simp [c,c2]
 unfold putK
 rw[any]
 clear any
 by_cases c:k∈Nm.keys ws
 ·rw[if_pos (by simpa using c)]
  induction ws with
  | nil=>simp [Nm.keys] at c
  | cons p r ih=>
   have h':p.1∉Nm.keys r/\(Nm.keys r).Nodup:=by simpa [Nm.keys] using nd
   unfold Nm.put
   by_cases e:p.1=k
   ·rw[if_pos e]
    have:=key (ws:=r) (by rw[<-e];exact h'.1)
    unfold enc at *
    rw[Ys,Ys,this,Ys]
    simp [e]
   ·rw[if_neg e]
    have c':k∈Nm.keys r:=by
     unfold Nm.keys at c ⊢
     rw[Ys] at c
     rcases List.mem_cons.mp c with z | z
     ·exact absurd z.symm e
     ·exact z
    have:=ih h'.2 c'
    unfold enc at *
    rw[Ys,Ys,this,Ys]
    simp [e]
 ·rw[if_neg (by simpa using c)]
  induction ws with
  | nil=>simp [enc,Nm.put]
  | cons p r ih=>
   have h':p.1∉Nm.keys r/\(Nm.keys r).Nodup:=by simpa [Nm.keys] using nd
   have e:¬p.1=k:=λz=>c (by unfold Nm.keys;rw[Ys,z];exact YA)
   have c':k∉Nm.keys r:=λz=>c (by unfold Nm.keys at *;rw[Ys];exact Yz _ z)
   unfold Nm.put
   rw[if_neg e]
   have:=ih h'.2 c'
   unfold enc at *
   rw[Ys,Y5,this,Ys]
theorem Gs {H:Hp} {d:Addr} {ws:Nm.Ws} {v:Int} (h:Rd H d (.dK (enc ws))) (hv:v∈Nm.keys ws):jq H d (.int v) (some (.int (Nm.look ws v))):=
 .inl ⟨_,Sum.inl v,h,rfl,by rw[AV,if_pos hv]⟩
theorem DJ {H:Hp} {d:Addr} {ws:Nm.Ws} {v:Int} (h:H d=some (.dK (enc ws))) (hv:v∈Nm.keys ws):jq H d (.int v) (some (.int (Nm.look ws v))):=Gs (.inl h) hv
theorem DK {ws:Nm.Ws} {v:Int} (h:v∉Nm.keys ws):Nm.look ws v=0:=by
 induction ws with
 | nil=>rfl
 | cons p r ih=>
  unfold Nm.keys at h
  rw[Ys] at h
  unfold Nm.look
  rw[if_neg (λz=>h (by rw[z];exact YA))]
  exact ih λz=>h (Yz _ z)
theorem Cb {H:Hp} {d:Addr} {ws:Nm.Ws} (v:Int) (h:Rd H d (.dK (enc ws))):∃o,jq H d (.int v) o/\o.getD (.int 0)=.int (Nm.look ws v):=by
 refine⟨_,.inl ⟨_,Sum.inl v,h,rfl,rfl⟩,?_⟩
 rw[AV]
 by_cases c:v∈Nm.keys ws
 ·rw[if_pos c];rfl
 ·rw[if_neg c,DK c];rfl
theorem DL {H:Hp} {d:Addr} {ws:Nm.Ws} (v x:Int) (h:H d=some (.dK (enc ws))) (nd:(Nm.keys ws).Nodup) (hl:ws.length<sizeLine):zp H d (.int v) (.int x) (upd H d (.dK (enc (Nm.put ws v x)))):=by
 have:=zp.k (k:=Sum.inl v) (v:=.int x) h (by rw[vj];exact hl)
 rw[Gr nd] at this
 exact this
noncomputable def Gu (r:Int×Int×Int):Dat:=.tup [.int r.1,.tup [.int r.2.1,.int r.2.2]]
noncomputable def lU (rows:List (Int×Int×Int)):Dat:=.lst (rows.map Gu)
noncomputable def dq (p:Int×Int):Dat:=.tup [.int p.1,.int p.2]
noncomputable def DM (ws:Nm.Ws):Dat:=.lst (ws.map dq)
theorem pX {H:Hp} {r:Int×Int×Int} {v:V}:Rep H (Gu r) v↔∃p q,v=.ref p/\H p=some (.tup [.int r.1,.ref q])/\H q=some (.tup [.int r.2.1,.int r.2.2]):=by
 unfold Gu
 simp only[Rep,a8]
 constructor
 ·rintro⟨p,vs,rfl,hp,a,b,rfl,rfl,c,d,rfl,⟨q,us,rfl,hq,e,f,rfl,rfl,g,h,rfl,rfl,rfl⟩,rfl⟩
  exact⟨p,q,rfl,hp,hq⟩
 ·rintro⟨p,q,rfl,hp,hq⟩
  exact⟨p,_,rfl,hp,_,_,rfl,rfl,_,_,rfl,⟨q,_,rfl,hq,_,_,rfl,rfl,_,_,rfl,rfl,rfl⟩,rfl⟩
theorem b6 {H:Hp} {r:Int×Int} {v:V}:Rep H (dq r) v↔∃p,v=.ref p/\H p=some (.tup [.int r.1,.int r.2]):=by
 unfold dq
 simp only[Rep,a8]
 constructor
 ·rintro⟨p,vs,rfl,hp,a,b,rfl,rfl,c,d,rfl,rfl,rfl⟩
  exact⟨p,rfl,hp⟩
 ·rintro⟨p,rfl,hp⟩
  exact⟨p,_,rfl,hp,_,_,rfl,rfl,_,_,rfl,rfl,rfl⟩
theorem a7 {H:Hp} {ds:List Dat} {v:V}:Rep H (.lst ds) v↔∃p vs,v=.ref p/\H p=some (.lst vs)/\a8 H ds vs:=by rw[Rep]
noncomputable def RV (H H':Hp):Prop:=∀p xs,(H p=some (.tup xs)->H' p=some (.tup xs))/\(H p=some (.lst xs)->H' p=some (.lst xs))
mutual
theorem Rep.Mz {H H':Hp} (s:RV H H'):∀{d:Dat} {v:V},Rep H d v->Rep H' d v
 | .cP,_,h=>by rw[Rep] at *;exact h
 | .bl _,_,h=>by rw[Rep] at *;exact h
 | .int _,_,h=>by rw[Rep] at *;exact h
 | .str _,_,h=>by rw[Rep] at *;exact h
 | .tup _,_,h=>by
  rw[Rep] at *
  obtain⟨p,vs,e,hp,r⟩:=h
  exact⟨p,vs,e,(s _ _).1 hp,a8.Mz s r⟩
 | .lst _,_,h=>by
  rw[Rep] at *
  obtain⟨p,vs,e,hp,r⟩:=h
  exact⟨p,vs,e,(s _ _).2 hp,a8.Mz s r⟩
theorem a8.Mz {H H':Hp} (s:RV H H'):∀{ds:List Dat} {vs:List V},a8 H ds vs->a8 H' ds vs
 | [],_,h=>by rw[a8] at *;exact h
 | _::_,_,h=>by
  rw[a8] at *
  obtain⟨v,r,e,h1,h2⟩:=h
  exact⟨v,r,e,Rep.Mz s h1,a8.Mz s h2⟩
end
theorem none_of {H H':Hp} (s:aD H H') {p:Addr} (h:H' p=none):H p=none:=by
 cases e:H p with
 | none=>rfl
 | some o=>rw[s p o e] at h;cases h
end L2
namespace Nm
end Nm
namespace L2
open PySem PySem.Spec PyProof.Rows
theorem uE {α:Type} {J:It} {tc:TT} {te:TE} {tl:St} {H1:Hp} {fin:List V->Hp->Prop} {Item:Nat->V->Hp->Hp->Prop} (as:List α) (f:α->Option Int) (S:Src J (aD H1) as.length Item) (sub:∀i x H H3,Item i x H H3->H3=H) (hz:as.length<=sizeLine)
  (hs:∀i a x,as[i]?=some a->Item i x H1 H1->∀(Y:VK) (N:Hp->Prop),(∀z,f a=some z->Y (.int z) H1)->(f a=none->N H1)->tc (some x::tl) H1 λb H5=>if b=true then te (some x::tl) H5 Y else N H5)
  (nG:fin (List.map V.int (as.filterMap f)) H1):fI J (gName 0) tc te (none::tl) H1 fin:=by
 refine gG S (λσ=>∃w0,σ=w0::tl) ⟨_,rfl⟩ (λi ys H=>H=H1/\ys=List.map V.int ((as.take i).filterMap f)) ⟨rfl,by simp⟩ hz ?_ ?_
 ·rintro i x σ H ys H3 Q N hi sm ⟨rfl,rfl⟩ hl ⟨w0,rfl⟩ it kq kn
  obtain rfl:=sub _ _ _ _ it
  have ea:as[i]?=some as[i]:=Yw hi
  refine hs i _ x ea it _ _ (λz e=>kq _ _ _ ⟨_,rfl⟩ sm ⟨rfl,?_⟩) (λe=>kn _ _ ⟨_,rfl⟩ sm ⟨rfl,?_⟩)
  ·rw[YS,ea,Zj,Yx]
   simp [e]
  ·rw[YS,ea,Zj,Yx]
   simp [e]
 ·rintro ys H sm ⟨rfl,rfl⟩ hl
  rw[YG (Yt _)]
  exact nG
theorem qB {K:PySem.W.Frag} {α:Type} {J:It} {tc:TT} {te:TE} {tl:St} {H1:Hp} {fin:List V->Hp->Prop} {Item:Nat->V->Hp->Hp->Prop} (as:List α) (f:α->Option Int) (S:Src J (aD H1) as.length Item) (sub:∀i x H H3,Item i x H H3->H3=H) (hz:as.length<=sizeLine)
  (hs:∀i a x,as[i]?=some a->Item i x H1 H1->∃p u v,x=.ref p/\jn K H1 p [u,v]/\∀(Y:VK) (N:Hp->Prop),(∀z,f a=some z->Y (.int z) H1)->(f a=none->N H1)->tc (some u::some v::tl) H1 λb H5=>if b=true then te (some u::some v::tl) H5 Y else N H5)
  (nG:fin (List.map V.int (as.filterMap f)) H1):fI J (BK K 2 (gCons (gName 0) (gCons (gName 1) gNil))) tc te (none::none::tl) H1 fin:=by
 refine gG S (λσ=>∃w0 w1,σ=w0::w1::tl) ⟨_,_,rfl⟩ (λi ys H=>H=H1/\ys=List.map V.int ((as.take i).filterMap f)) ⟨rfl,by simp⟩ hz ?_ ?_
 ·rintro i x σ H ys H3 Q N hi sm ⟨rfl,rfl⟩ hl ⟨w0,w1,rfl⟩ it kq kn
  obtain rfl:=sub _ _ _ _ it
  have ea:as[i]?=some as[i]:=Yw hi
  obtain⟨p,u,v,rfl,sq,k⟩:=hs i _ x ea it
  refine⟨p,_,rfl,sq,rfl,_,_,rfl,_,_,rfl,rfl,?_⟩
  refine k _ _ (λz e=>kq _ _ _ ⟨_,_,rfl⟩ sm ⟨rfl,?_⟩) (λe=>kn _ _ ⟨_,_,rfl⟩ sm ⟨rfl,?_⟩)
  ·rw[YS,ea,Zj,Yx]
   simp [e]
  ·rw[YS,ea,Zj,Yx]
   simp [e]
 ·rintro ys H sm ⟨rfl,rfl⟩ hl
  rw[YG (Yt _)]
  exact nG
theorem Gv {α β:Type} (f:α->β) (l:List α):l.filterMap (λa=>some (f a))=l.map f:=by
 rw[<-List.filterMap_eq_map];rfl
end L2
namespace L2
open PySem PySem.Spec PyProof.Rows PySem.W
section
variable {X : Cx} {K : PySem.W.Frag}
theorem JF {as:List (Key×V)} {bs:List (Key×Value)} (r:KV as bs):∀(j:Nat) {b},bs[j]?=some b->∃a,as[j]?=some a/\RelV a.2 b.2:=by
 induction r with
 | nil=>intro j b e;simp at e
 | cons r1 r2 ih=>
  intro j b e
  cases j with
  | zero=>simp at e;subst e;exact⟨_,rfl,r1.2⟩
  | succ j=>simp at e;obtain⟨a,e1,e2⟩:=ih j e;exact⟨a,by simpa using e1,e2⟩
theorem xu (ns:List Int):preSum (λi=>ns.getD i 0) ns.length=ns.sum:=by
 have e:=preSum_eq (ns.map λn=>(n,(0:Nat))).toArray ns.length
 have f:(λi=>ns.getD i 0)=numAt (ns.map λn=>(n,(0:Nat))).toArray:=by
  funext i
  unfold numAt
  simp only[List.getElem?_toArray,Yu,Za]
  cases ns[i]? <;>rfl
 rw[f]
 refine e.trans ?_
 rw[YG (by simp)]
 congr 1
 simp [Function.comp_def]
noncomputable def tSumV (to:TE):TE:=λσ H Q=>to σ H λv H1=>∃d kvs ns,v=.ref d/\H1 d=some (.dK kvs)/\kvs.map (·.2)=List.map V.int ns/\Q (.int ns.sum) H1
theorem zz {o:Expr} {to:TE} {p apos dB pos:Pos} (hc:X.calm=true) (hg:Gl X "sum") (hm:X.mg "sum"=none) (ho:PE X o to)
  (xg:attributeBase o "values" X.env (eval o X.env)=eval o X.env:=by rfl) (xh:(apos.endLine==dB.line)=true:=by rfl)
  (he:starEach [Expr.Call (.Attribute o "values" apos) [] [] dB] X.env=[(false,eval (.Call (.Attribute o "values" apos) [] [] dB) X.env)]:=by rfl):
  PE X (.Call (.Name "sum" p) [.Call (.Attribute o "values" apos) [] [] dB] [] pos) (tSumV to):=by
 intro pins s σ H Q I h
 refine wpAny_Call_Name_kw (gu I hg hm (u:=.builtin "sum") rfl ?_ (by decide) (by decide))
 rw[he]
 refine PySem.callWith_builtin1 ?_
 refine wpAny_Call_method0_late xg xh (cD (ho pins s σ H _ I h) λv s1 dh=>?_)
 obtain⟨x,H1,I1,r1,q1⟩:=dh
 obtain⟨d,kvs,ns,rfl,hd,hv,q⟩:=q1
 obtain⟨h1,h2⟩:=zi (T:="dict") I1 r1 (.inr (.inr (.inl ⟨rfl,.inl ⟨_,hd⟩⟩)))
 cases r1
 obtain⟨hz,lo,vs,kv,dd⟩:=Di I1.bR hd
 have hlen:kvs.length=vs.length:=Paired.length kv
 refine⟨"dict","dict.values",PySem.F.plainAttrs_dict,PySem.F.slot_dict_values,PySem.F.type_dict_values,h1,h2,Calls.callWith_builtin rfl (PySem.evalArgs_none ?_)⟩
 refine call_meetsIn PySem.F.slot_dict_values dd.typeIs PySem.F.entry_dict_values (PySem.F.args_dict_values_1 _) (meets_dict_values _ d lo) ⟨⟨vs,dd⟩,?_⟩
 have I2:Inv X pins σ H1 {s1 with heap:=s1.heap.push {cls:=.type "dict_values",data:=.fields #[.ref d]}}:=I1.kept (t':=s1.toks) λb o e=>Heap.get?_push_of_some _ e
 obtain⟨hz,lo,vs,kv,dd⟩:=Di I2.bR hd
 have hlen:kvs.length=vs.length:=Paired.length kv
 obtain⟨ep,HQ⟩:=dd.dictAt
 have hn:ns.length=vs.length:=by
  have:=congrArg List.length hv
  rw[Yr,Yr] at this
  omega
 have Ks:=kdl_values (prog:=X.prog) (w:=X.w) (r:=s1.heap.objs.size) (d:=d) (knd:=cj X.prog X.w) (kvs:=vs) (ep:=ep)
 have bR:({s1 with heap:=s1.heap.push {cls:=.type "dict_values",data:=.fields #[.ref d]}}:Shared).heap.IsValuesView s1.heap.objs.size d/\({s1 with heap:=s1.heap.push {cls:=.type "dict_values",data:=.fields #[.ref d]}}:Shared).heap.DictAt (cj X.prog X.w) d vs ep:=⟨⟨_,Heap.get?_push_size _ rfl,rfl,rfl⟩,HQ⟩
 refine call_sum_walkAnyS ?_
 obtain⟨oI,St,hit,W,st⟩:=Ks.iter X.A.in1 _ (I.ok.hd hc) bR
 refine hit _ _ ⟨_,_,_,_,vs.length,_,_,λi=>ns.getD i 0,rfl,W.toS,st,λb hb=>?_,λi v hP=>?_,λs' t' N8=>?_⟩
 ·show b< (Heap.push _ oI).objs.size
  rw[size_push']
  rcases List.mem_cons.mp hb with e | hb
  ·rw[e];exact Zc _
  ·rw[List.mem_singleton.mp hb];exact Nat.lt_succ_of_lt (Ks.there _ bR).2
 ·obtain⟨k,e⟩:=hP
  obtain⟨a,e1,e2⟩:=JF kv i e
  have e3:(kvs.map (·.2))[i]?=some a.2:=by rw[Yu,e1];rfl
  rw[hv,Yu] at e3
  obtain⟨n,en,ea⟩:=Option.map_eq_some_iff.mp e3
  rw[<-ea] at e2
  obtain⟨t,e2⟩:=e2
  refine⟨t,?_⟩
  show v=Value.int (ns.getD i 0) t
  rw[Za,en]
  exact e2
 ·have hk:∀b o,(s1.heap.push {cls:=.type "dict_values",data:=.fields #[.ref d]}).get? b=some o->s'.heap.get? b=some o:=λb o e=>
   N8.heap b o (λhI=>absurd (Heap.lt_size e) (by rw[List.mem_singleton.mp hI];exact YW _)) (Heap.get?_push_of_some _ e)
  rw[Moved.eq_with N8,<-hn,xu]
  exact⟨.int ns.sum,H1,I2.kept (t':=s'.toks) hk,⟨t',rfl⟩,q⟩
theorem eI {α:Type} {J:It} {tc:TT} {te:TE} {tl:St} {H1:Hp} {fin:List V->Hp->Prop} {Item:Nat->V->Hp->Hp->Prop} (as:List α) (f:α->Option V) (S:Src J (aD H1) as.length Item) (sub:∀i x H H3,Item i x H H3->H3=H) (hz:as.length<=sizeLine)
  (hs:∀i a x,as[i]?=some a->Item i x H1 H1->∀(Y:VK) (N:Hp->Prop),(∀z,f a=some z->Y z H1)->(f a=none->N H1)->tc (some x::tl) H1 λb H5=>if b=true then te (some x::tl) H5 Y else N H5)
  (nG:fin (as.filterMap f) H1):fI J (gName 0) tc te (none::tl) H1 fin:=by
 refine gG S (λσ=>∃w0,σ=w0::tl) ⟨_,rfl⟩ (λi ys H=>H=H1/\ys=(as.take i).filterMap f) ⟨rfl,by simp⟩ hz ?_ ?_
 ·rintro i x σ H ys H3 Q N hi sm ⟨rfl,rfl⟩ hl ⟨w0,rfl⟩ it kq kn
  obtain rfl:=sub _ _ _ _ it
  have ea:as[i]?=some as[i]:=Yw hi
  refine hs i _ x ea it _ _ (λz e=>kq _ _ _ ⟨_,rfl⟩ sm ⟨rfl,?_⟩) (λe=>kn _ _ ⟨_,rfl⟩ sm ⟨rfl,?_⟩)
  ·rw[YS,ea,Zj]
   simp [e]
  ·rw[YS,ea,Zj]
   simp [e]
 ·rintro ys H sm ⟨rfl,rfl⟩ hl
  rw[YG (Yt _)]
  exact nG
theorem cY {a b:TS} {D:Ends} {σ:St} {H:Hp} (C:St->Hp->Prop) (hb:∀σ' H',C σ' H'->b D σ' H') (ha:∀N:St->Hp->Prop,(∀σ' H',C σ' H'->N σ' H')->a {D with nx:=N} σ H):tSeq a b D σ H:=ha _ hb
theorem DN {tc:TT} {a b:TS} {D:Ends} {σ:St} {H:Hp} (C1 C2:Hp->Prop) (h1:∀H',C1 H'->a D σ H') (h2:∀H',C2 H'->b D σ H')
  (ht:∀Y N:Hp->Prop,(∀H',C1 H'->Y H')->(∀H',C2 H'->N H')->tc σ H λv H'=>if v=true then Y H' else N H'):tIfS tc a b D σ H:=ht _ _ h1 h2
end
end L2
namespace Nm
noncomputable def pos (ps:Ws):Ws:=ps.filter λp=>decide (0<p.2)
noncomputable def jW (ps:Ws):Ws:=cJ [] (pos ps)
noncomputable def bad (ps:Ws):Prop:=(∃p∈ps,p.2<0)\/pos ps=[]
theorem DO (ps:Ws) (p:Int×Int):pos (ps++ [p])=if 0<p.2 then pos ps++ [p] else pos ps:=by
 unfold pos
 rw[List.filter_append]
 by_cases c:0<p.2
 ·rw[if_pos c];simp [c]
 ·rw[if_neg c];simp [c]
theorem DP (ps:Ws) (p:Int×Int):jW (ps++ [p])=if 0<p.2 then jr (jW ps) p.1 p.2 else jW ps:=by
 unfold jW
 rw[DO]
 split
 ·rw[xt]
 ·rfl
theorem nI (ps:Ws):(keys (jW ps)).Nodup:=lT (by simp [keys])
theorem AW (ps:Ws):(jW ps).length<=ps.length:=by
 have:=qA (pos ps) []
 have h2:(pos ps).length<=ps.length:=List.length_filter_le _ _
 unfold jW
 simp only[Y9] at this
 omega
theorem AX {ps:Ws}:jW ps=[]↔pos ps=[]:=by
 constructor
 ·intro h
  cases e:pos ps with
  | nil=>rfl
  | cons p r=>
   have m:p.1∈keys (jW ps):=by
    unfold jW
    rw[e]
    exact kB.mpr (.inr (by simp [keys]))
   rw[h] at m
   simp [keys] at m
 ·intro h
  unfold jW
  rw[h]
  rfl
theorem Gw (ps:Ws):∀p∈pos ps,0<p.2:=λp hp=>by
 unfold pos at hp
 simpa using (List.mem_filter.mp hp).2
theorem Gx (ps:Ws):∀k∈keys (jW ps),0<look (jW ps) k:=λk hk=>by
 unfold jW at *
 rw[oQ]
 have h:k∈keys (pos ps):=by
  rcases kB.mp hk with z | z
  ·simp [keys] at z
  ·exact z
 have:=pW (Gw ps) h
 simp only[look]
 omega
theorem Gy (ps:Ws):qy (jW ps)=qy (pos ps):=by
 unfold jW
 rw[qz]
 simp [qy]
theorem qE {c:Int} (c0:0<=c):∀{ps:Ws},(∀p∈ps,p.2<=c)->qy (pos ps)<=ps.length*c
 | [],_=>by simp [pos,qy]
 | p::r,h=>by
  have ih:=qE c0 λq hq=>h q (Yz _ hq)
  have hp:=h p YA
  rw[YC,Int.natCast_succ,Int.add_mul]
  unfold pos at *
  rw[List.filter_cons]
  split
  ·rw[show qy (p::List.filter (λp=>decide (0<p.2)) r)=p.2+qy (List.filter (λp=>decide (0<p.2)) r) from by unfold qy;rw[Ys,Ze]]
   omega
  ·omega
end Nm
namespace L2
open PySem PySem.Spec PyProof.Rows PySem.W
section
variable {X : Cx} {K : PySem.W.Frag}
theorem AY:∀{us:List Value} {ts:List Str},bj (ts.map V.str) us->∃l:List (Str×Tok),strValues l=us/\l.map (·.1)=ts
 | _,[],.nil=>⟨[],rfl,rfl⟩
 | _,x::ts,.cons r t=>by
  obtain⟨k,rfl⟩:=(r:∃k,_=Value.str x k)
  obtain⟨l,rfl,rfl⟩:=AY t
  exact⟨(x,k)::l,rfl,rfl⟩
noncomputable def rJoin (K:PySem.W.Frag):V->List V->Hp->VK->Prop:=λx xs H Q=>∃sep p ts,x=.str sep/\xs=[.ref p]/\bI K H p (List.map V.str ts)/\JoinOk sep ts=true/\Q (.str (Txt.join sep ts)) H
theorem Gz:IY X "str.join" (rJoin X.K):=by
 intro pins s σ H x xs v us Q I rx rv h
 obtain⟨sep,p,ts,rfl,rfl,hq,ok,q⟩:=h
 obtain⟨t,rfl⟩:=rx
 obtain⟨u,rfl,ru⟩:=vals1 rv
 cases ru
 obtain⟨a6,r,pl,hz⟩:=I.list hq
 obtain⟨l,rfl,e2⟩:=AY r
 exact SC.join pl.isList e2 ok λt' k=>⟨.str _,H,I.tok _,⟨_,rfl⟩,q⟩
theorem DQ (hK:X.K=K:=by rfl):IY X "str.join" (rJoin K):=by subst hK;exact Gz
theorem zA:cX X (.type "str") (λxs H Q=>∃i,xs=[.int i]/\i.natAbs.log2<1920/\Q (.str (toString i)) H):=u6
theorem zB:cX X (.type "int") (λxs H Q=>∃k,xs=[.bl k]/\Q (.int (if k then 1 else 0)) H):=by
 intro pins s σ H xs us Q I r h
 exact BQ pins s σ H xs us Q I r (.inr h)
abbrev TJ:=Str->TE
noncomputable def jNil:TJ:=λacc _ H Q=>Q (.str acc) H
noncomputable def jLit (x:Str) (t:TJ):TJ:=λacc σ H Q=>(acc++x).length<=sizeLine/\t (acc++x) σ H Q
noncomputable def jInt (te:TE) (t:TJ):TJ:=λacc σ H Q=>te σ H λv H1=>∃i,v=.int i/\i.natAbs.log2<1920/\(acc++toString i).length<=sizeLine/\t (acc++toString i) σ H1 Q
noncomputable def jStr (te:TE) (t:TJ):TJ:=λacc σ H Q=>te σ H λv H1=>∃z,v=.str z/\z.length<=sizeLine/\(acc++z).length<=sizeLine/\t (acc++z) σ H1 Q
noncomputable def tJoined (t:TJ):TE:=λσ H Q=>t Str.empty σ H Q
end
end L2
namespace L2
open PySem PySem.Spec PyProof.Rows PySem.W
inductive Pl where
 | fin (w:Int×Int) | d7 (w:Int×Int) (ws:List (Int×Int)) | Xf (AZ:Int) (to:List Int)
theorem qF {ds:List Dat} {n:Nat} (h:∀d∈ds,depth d<=n):depth.dL ds<=n:=by
 induction ds with
 | nil=>rw[depth.dL];omega
 | cons d ds ih=>
  rw[depth.dL]
  have:=h d YA
  have:=ih λe he=>h e (Yz _ he)
  omega
theorem zC (p:Int×Int):depth (dq p)=1:=by simp [dq,depth,depth.dL]
noncomputable def cE (H:Hp) (p:Addr):Hp:=λa=>if a=p then none else H a
theorem cK {H:Hp} {p a:Addr} (h:a≠p):cE H p a=H a:=if_neg h
theorem GA {H:Hp} {p:Addr} {o:HO}:aD (cE H p) (upd H p o):=λa u e=>by
 unfold cE at e
 by_cases h:a=p
 ·rw[if_pos h] at e;cases e
 ·rw[if_neg h] at e;rw[aw h];exact e
theorem cZ {H:Hp} {p:Addr}:aD (cE H p) H:=λa u e=>by
 unfold cE at e
 by_cases h:a=p
 ·rw[if_pos h] at e;cases e
 ·rw[if_neg h] at e;exact e
theorem DR {H0 H:Hp} {p:Addr} (s:aD H0 H) (n:H0 p=none):aD H0 (cE H p):=λa u e=>by
 rw[cK (λz=>by rw[z,n] at e;cases e)]
 exact s _ _ e
theorem gI {H H':Hp} {p:Addr} (s:aD H H'):aD (cE H p) (cE H' p):=λa u e=>by
 unfold cE at *
 by_cases h:a=p
 ·rw[if_pos h] at e;cases e
 ·rw[if_neg h] at e ⊢;exact s _ _ e
theorem cA {H0 H:Hp} {p:Addr} {o:HO} (s:aD H0 H) (n:H0 p=none):aD H0 (upd H p o):=(DR s n).trans GA
section
variable {X : Cx} {K : PySem.W.Frag}
end
end L2
namespace PySem
section
variable {prog : Program} {w : World} {A : Around} {E : Value -> Shared -> Prop} {s : Shared}
end
end PySem
namespace L2
open PySem PySem.Spec PyProof.Rows PySem.W
section
variable {X : Cx} {K : PySem.W.Frag}
noncomputable def tRev (K:PySem.W.Frag) (te:TE):TE:=λσ H Q=>te σ H λv H1=>∃p xs,v=.ref p/\bI K H1 p xs/\∀l,H1 l=none->Q (.ref l) (upd H1 l (.lst xs.reverse))
noncomputable def tD1 (tk tv:TE):TE:=λσ H Q=>∀d,H d=none->tk σ (upd H d (.dK [])) λx H1=>tv σ H1 λv H2=>∃k,x=kV k/\H2 d=some (.dK [])/\Q (.ref d) (upd H2 d (.dK [(k,v)]))
end
end L2
namespace PySem
section
variable {prog : Program} {w : World} {A : Around} {R : Result -> Shared -> Prop} {I : Addr} {fp wr : List Addr} {n : Nat} {P : Nat -> Value -> Prop} {St : Nat -> Heap -> Prop} {kw : List (Str × Value)}
end
section
variable {prog : Program} {w : World} {A : Around} {E : Value -> Shared -> Prop} {s : Shared}
end
end PySem
namespace L2
open PySem PySem.Spec PyProof.Rows PySem.W
section
variable {X : Cx} {K : PySem.W.Frag}
noncomputable def tMaxD (K:PySem.W.Frag) (te td:TE):TE:=λσ H Q=>te σ H λv H1=>td σ H1 λdv H2=>∃p ns,v=.ref p/\bI K H2 p (List.map V.int ns)/\(ns=[]->Q dv H2)/\∀M,M∈ns->(∀a∈ns,a<=M)->Q (.int M) H2
noncomputable def tLR (te:TE):TE:=λσ H Q=>te σ H λv H1=>∃n:Nat,v=.int (n:Int)/\n<=1000000/\∀l,H1 l=none->Q (.ref l) (upd H1 l (.lst ((List.range n).map λi:Nat=>V.int (i:Int))))
end
end L2
namespace PySem
open Builtin Builtin.Str
section
variable {prog : Program} {w : World} {A : Around} {E : Value -> Shared -> Prop} {s : Shared} {x y : Str} {t u : Tok} {Q : Value -> Shared -> Prop}
end
end PySem
namespace L2
open PySem PySem.Spec PyProof.Rows PySem.W
section
variable {X : Cx} {K : PySem.W.Frag}
noncomputable def Uq (z:Str):It:=⟨λi _=>i<z.cps.size,λi H x H'=>H'=H/\∃c,z.cps[i]?=some c/\x=.str ⟨#[c]⟩,λi _=>z.cps.size<=i⟩
noncomputable def iStr (tl:TE):TI:=λσ H R=>tl σ H λx H1=>∃z,x=.str z/\z.cps.all (·<128)=true/\R (Uq z) H1
theorem Cc {K:PySem.W.Frag} {J:It} {te:TE} {tl:St} {H1:Hp} {fin:List V->Hp->Prop} {n:Nat} {Item:Nat->V->Hp->Hp->Prop} (S:Src J (aD H1) n Item) (RW:Nat->V->V->V->Hp->Prop)
  (tp:∀i x H H3,i<n->aD H1 H->Item i x H H3->aD H H3/\∃p a b c,x=.ref p/\jn K H3 p [a,b,c]/\RW i a b c H3) (hz:n<=sizeLine)
  (R:Nat->V->Hp->Prop) (mono:∀i y H H',aD H H'->R i y H->R i y H')
  (hs:∀i a b c H3 (Q:VK),i<n->aD H1 H3->RW i a b c H3->(∀y H6,aD H3 H6->R i y H6->Q y H6)->te (some a::some b::some c::tl) H3 Q)
  (nG:∀ys H,aD H1 H->ys.length=n->(∀(i:Nat) y,ys[i]?=some y->R i y H)->fin ys H):fI J (BK K 3 (gCons (gName 0) (gCons (gName 1) (gCons (gName 2) gNil)))) sS te (none::none::none::tl) H1 fin:=by
 refine⟨λi m ys σ H=>m=n - i/\i<=n/\ys.length=i/\(∃w w' RX,σ=w::w'::RX::tl)/\aD H1 H/\∀(j:Nat) y,ys[j]?=some y->R j y H,⟨n,by simp,YD _,rfl,⟨_,_,_,rfl⟩,aD.refl _,λj y e=>by simp at e⟩,?_⟩
 rintro i m ys σ H ⟨rfl,hi,hl,⟨w,w',RX,rfl⟩,sm,p⟩
 by_cases mZ:i<n
 ·refine .inr ⟨S.go i H mZ sm,λx H3 y=>?_⟩
  obtain⟨s3,q,a,b,c,rfl,sq,it⟩:=tp i x H H3 mZ sm (S.BM i H x H3 mZ sm y)
  refine⟨q,_,rfl,sq,rfl,_,_,rfl,_,_,rfl,_,_,rfl,rfl,?_⟩
  unfold sS
  refine Dl ?_
  refine hs i a b c H3 _ mZ (sm.trans s3) it λy H6 s6 r=>⟨by omega,n - (i+1),by omega,rfl,mZ,by rw[Yy,Y4];omega,⟨_,_,_,rfl⟩,sm.trans (s3.trans s6),λj z e=>?_⟩
  by_cases hj:j<i
  ·rw[Zn (by omega)] at e
   exact mono j z _ _ (s3.trans s6) (p j z e)
  ·rw[Zk (by omega)] at e
   have e2:j - ys.length=0:=by
    by_cases q:j - ys.length=0
    ·exact q
    ·rw[List.getElem?_eq_none (by simp;omega)] at e;cases e
   rw[e2] at e
   simp at e
   subst e
   have:j=i:=by omega
   subst this
   exact r
 ·have e:i=n:=by omega
  subst e
  exact .inl ⟨S.stop H sm,nG ys H sm hl p⟩
theorem lV {x:Str} {i:Int} {pos:Pos} (hg:Gl X x) (h:∃t,X.mg x=some (.int i t)) (hd:(x==("__debug__":Str))=false:=by decide):PE X (.Name x pos) (tC (.int i)):=by
 obtain⟨t,h⟩:=h
 exact FT hg h ⟨t,rfl⟩ hd
theorem GB:Fy X IZ:=Ja
end
end L2
namespace PySem
end PySem
namespace PySem
section
variable {M : Model} {A : Around} {E : Value -> Shared -> Prop} {s : Shared} {env : Env}
end
end PySem
namespace L2
open PySem PySem.Spec PyProof.Rows PySem.W
section
variable {M : Model} {A : Around} {E : Value -> Shared -> Prop} {s : Shared} {B : Heap} {l : List Env} {ad L : Addr} {cls a0 : Value}
end
section
variable {P : Program} {w : World} {K : PySem.W.Frag} {mg : Str -> Option Value} {base : Heap} {N : List Str} {qual : Str} {scope : Scope} {f : Addr} {bT : Value} {A : Around} {outer : List Env} {s0 : Shared} {H0 : Hp} {E : XK}
end
end L2
namespace L2
open PySem PySem.Spec PyProof.Rows PySem.W
section
variable {X : Cx}
noncomputable def JG:V->List V->Hp->VK->Prop:=λx vs H Q=>∃l xs i y,x=.ref l/\vs=[.int i,y]/\H l=some (.lst xs)/\0<=i/\i<=(xs.length:Nat)/\xs.length<sizeLine/\Q .cP (upd H l (.lst (xs.take i.toNat++y::xs.drop i.toNat)))
theorem uF:Je X "list.insert" JG:=by
 intro pins s σ H x vs v us Q I rx rv h
 obtain⟨l,xs,i,y,rfl,rfl,hH,h0,h1,hz,q⟩:=h
 cases rx
 obtain⟨u1,u2,rfl,⟨t,rfl⟩,ru⟩:=vals2 rv
 obtain⟨z,a6,n,r,hl,e⟩:=I.xi hH
 have sl:=sizeLine_eq
 refine call_meets PySem.F.slot_list_insert ⟨_,e,rfl⟩ PySem.F.entry_list_insert (PySem.F.args_list_insert_3 _ _ _) (AutoSeq1.list_insert_list_int_val_1 l a6.toArray n i t u2 (by rw[fitsIndex_both (by omega) (by omega)];decide) (by rw[Yv];omega)) ⟨e,?_⟩
 have k2:(if i<0 then (i+ (a6.toArray.size:Int)).toNat else min i.toNat a6.toArray.size)=i.toNat:=by
  rw[if_neg (by omega),Yv]
  omega
 refine⟨.cP,_,I.F7 (its':=a6.take i.toNat++u2::a6.drop i.toNat) hH e ?_ ?_ ?_,rfl,q⟩
 ·show(a6.toArray.extract 0 (if i<0 then (i+ (a6.toArray.size:Int)).toNat else min i.toNat a6.toArray.size)).push u2++a6.toArray.extract (if i<0 then (i+ (a6.toArray.size:Int)).toNat else min i.toNat a6.toArray.size)=_
  rw[k2]
  apply Array.toList_inj.mp
  simp [YG]
 ·exact(r.take _).append (.cons ru (r.drop _))
 ·simp
  omega
end
end L2
namespace L2
open PySem PySem.Spec PyProof.Rows PySem.W
abbrev RY (h:Heap) (T:Addr) (a b c:Value):Prop:=h.get? T=some {cls:=.type "tuple",data:=.seq #[a,b,c]}
structure Xg (z TI TO i1 i2 i3 a b c:Addr):Prop where
 TIz:TI≠z
 TOz:TO≠z
 i1z:i1≠z
 i2z:i2≠z
 Xh:i3≠z
 TITO:TI≠TO
 Xi:TI≠i1
 Xj:TI≠i2
 Xk:TI≠i3
 Xl:TO≠i1
 Xm:TO≠i2
 Xn:TO≠i3
 i12:i1≠i2
 Xo:i1≠i3
 Xp:i2≠i3
 az:a≠z
 bz:b≠z
 cz:c≠z
 Xq:b≠TO
 Xr:c≠TO
 b1:b≠i1
 c1:c≠i1
 c2:c≠i2
section
variable {prog : Program} {w : World} {A : Around} {E : Value -> Shared -> Prop} {s : Shared}
end
abbrev RZ (h:Heap) (la:Addr):Heap:=h.push {cls:=.type "list_iterator",data:=.fields #[.ref la,.int 0 0]}
abbrev R1 (h:Heap) (la lb:Addr):Heap:=(RZ h la).push {cls:=.type "list_iterator",data:=.fields #[.ref lb,.int 0 0]}
abbrev R3 (h:Heap) (la lb lc:Addr):Heap:=(R1 h la lb).push {cls:=.type "list_iterator",data:=.fields #[.ref lc,.int 0 0]}
abbrev R5 (h:Heap) (la lb lc:Addr):Heap:=(R3 h la lb lc).push {cls:=.type "tuple",data:=.seq #[.ref h.objs.size,.ref (RZ h la).objs.size,.ref (R1 h la lb).objs.size]}
abbrev Ur (h:Heap) (la lb lc:Addr):Heap:=(R5 h la lb lc).push {cls:=.type "tuple",data:=.seq #[.none,.none,.none]}
abbrev Xs (h:Heap) (la lb lc:Addr):Heap:=(Ur h la lb lc).push {cls:=.type "zip",data:=.fields #[.none,.bool false,.bool false,.ref (R3 h la lb lc).objs.size,.ref (R5 h la lb lc).objs.size]}
section
variable {prog : Program} {w : World} {A : Around} {E : Value -> Shared -> Prop} {s : Shared}
end
section
variable {X : Cx} {elts : List Expr} {kk : Nat} {sQ : Pos} {K : PySem.W.Frag}
end
end L2
namespace L2
open PySem PySem.Spec PyProof.Rows PySem.W
noncomputable def R6:V->Option Str
 | .str z=>some z
 | .int i=>if i.natAbs.log2<1920 then some (Str.ofString (toString i)) else none
 | _=>none
section
variable {X : Cx} {K : PySem.W.Frag}
theorem zD:cX X (.type "str") (λxs H Q=>∃x z,xs=[x]/\R6 x=some z/\Q (.str z) H):=by
 intro pins s σ H xs us Q I r h
 obtain⟨x,z,rfl,hz,q⟩:=h
 obtain⟨u,rfl,ru⟩:=vals1 r
 cases x with
 | str y=>
  obtain⟨t,rfl⟩:=ru
  cases hz
  exact PySem.P.str_of_str ⟨.str _,H,I,⟨_,rfl⟩,q⟩
 | int i=>
  obtain⟨t,rfl⟩:=ru
  have hz:(if i.natAbs.log2<1920 then some (Str.ofString (toString i)) else none)=some z:=hz
  by_cases c:i.natAbs.log2<1920
  ·rw[if_pos c] at hz
   cases hz
   exact PySem.P.str_of_int c ⟨.str _,H,I.tok _,⟨_,rfl⟩,q⟩
  ·rw[if_neg c] at hz
   cases hz
 | _=>cases hz
end
end L2
namespace L2
open PySem PySem.Spec PyProof.Rows PySem.W
section
variable {X : Cx} {K : PySem.W.Frag}
noncomputable def tSortR (K:PySem.W.Frag) (te:TE):TE:=λσ H Q=>te σ H λv H1=>∃p ns,v=.ref p/\bI K H1 p (List.map V.int ns)/\ns.length<64/\∀l,H1 l=none->Q (.ref l) (upd H1 l (.lst (List.map V.int (Nm.vh ns).reverse)))
theorem DS {e d:Expr} {te:TE} {p1 pos kp:Pos} (hg:Gl X "sorted") (hm:X.mg "sorted"=none) (he:PE X e te) (hd:PE X d (tC (.bl true))) (n1:noStar e=true:=by rfl):
  PE X (.Call (.Name "sorted" p1) [e] [⟨some "reverse",d,kp⟩] pos) (tSortR X.K te):=by
 intro pins s σ H Q I h
 refine wpAny_Call_Name_kw (gu I hg hm (u:=.builtin "sorted") rfl ?_ (by decide) (by decide))
 refine PyProof.Rows.callWith_kw (e:=e) (rest:=[]) ?_ (by rw[se n1];rfl) (by rw[se n1];rfl) rfl rfl
 rw[se n1]
 show wpAny _ _ (spliced [(false,eval e X.env)]) _ _ s
 refine Calls.spliced_cons (cD (he pins s σ H _ I h) λu s1 ⟨x,H1,I1,r1,q1⟩=>Calls.spliced_nil ?_)
 refine PyProof.Rows.kws_cons (cD (hd pins s1 σ H1 (λv H2=>v=.bl true/\H2=H1) I1 ⟨rfl,rfl⟩) λdv s2 ⟨y,H2,I2,r2,ey,eh⟩=>PyProof.Rows.kws_nil ?_)
 subst ey
 subst eh
 have r2:dv=.bool true:=r2
 subst r2
 obtain⟨p,ns,rfl,hq,hn,q⟩:=q1
 cases r1
 obtain⟨a6,rv,pl,hz⟩:=I2.list hq
 have hl:=rv.length
 rw[Yr] at hl
 show wpAny _ _ (call (.builtin "sorted") [.ref p] [(Str.ofString "reverse",.bool true)]) _ _ _
 refine sorted_ints_rev pl.isList (intsAre_of rv) (by omega) λout CD a1 a2 a3=>?_
 have a3:CD.Pairwise (·≥·):=a3
 have e3:CD=(Nm.vh ns).reverse:=by
  have:=Nm.vi ((List.reverse_perm CD).trans a2) (List.pairwise_reverse.mpr a3)
  rw[<-this,List.reverse_reverse]
 subst e3
 obtain⟨e,he⟩:=sortedAll_at s2.heap a6 out
 have fr:=I2.bR.fresh (a:=s2.heap.objs.size+1) (Nat.le_succ _)
 refine⟨.ref (s2.heap.objs.size+1),_,I2.laid (t':=s2.toks) (λ_ _=>sortedAll_old) (Nat.le_succ _) (o:=.lst (List.map V.int (Nm.vh ns).reverse)) ⟨?_,out.toList,e,g5 a1,?_⟩,rfl,q _ fr⟩
 ·rw[Yr,List.length_reverse,Nm.g4,sizeLine_eq];omega
 ·exact he
theorem Cd {e d:Expr} {te:TE} {p1 pos kp:Pos} (hg:Gl X "sorted") (hm:X.mg "sorted"=none) (he:PE X e te) (hd:PE X d (tC (.bl true))) (n1:noStar e=true:=by rfl) (hK:X.K=K:=by rfl):
  PE X (.Call (.Name "sorted" p1) [e] [⟨some "reverse",d,kp⟩] pos) (tSortR K te):=by subst hK;exact DS hg hm he hd n1
end
end L2
namespace PySem.SeqAt
open AutoSeq1 (wpAny_loadPart')
open MeetsSeq MeetsSeq2 MeetsSeq3
end PySem.SeqAt
namespace L2
open PySem PySem.Spec PyProof.Rows PySem.W
noncomputable def HS:List Int->List Int->Bool
 | [],[]=>true
 | [],_::_=>false
 | _::_,[]=>true
 | a::r,b::q=>if a=b then HS r q else decide (b<=a)
section
variable {X : Cx} {K : PySem.W.Frag}
end
end L2
namespace PySem.UL
section
variable {prog : Program} {w : World} {A : Around} {E : Value -> Shared -> Prop} {s : Shared}
end
theorem uG {α:Type}:∀l:List α,(List.range l.length).filterMap (λk=>l[k]?)=l
 | []=>rfl
 | a::r=>by
  rw[YC,List.range_succ_eq_map,Y6]
  simp only[List.getElem?_cons_zero]
  rw[List.filterMap_map]
  have:=uG r
  simpa [Function.comp_def] using this
open Builtin in
theorem pick_rev (items:List Value):slicePick items.toArray none none (some (-1))=items.reverse.toArray:=by
 unfold slicePick
 have e:sliceRange (sliceBounds none none (some (-1)) items.toArray.size).1 (sliceBounds none none (some (-1)) items.toArray.size).2.1 (sliceBounds none none (some (-1)) items.toArray.size).2.2=Builtin.Str.strSliceIndices none none (-1) items.length:=by
  rw[Yv]
  rfl
 rw[e,PyProof.Rows.picked_rev]
 congr 1
 rw[List.filterMap_map]
 have h:∀l:List Nat,(∀k∈l,k<items.length)->l.filterMap ((λk=>items.toArray[k]?) ∘λk=>items.length - 1 - k)=l.filterMap λk=>items.reverse[k]?:=by
  intro l
  induction l with
  | nil=>intro _;rfl
  | cons k r ih=>
   intro hk
   have e:((λk=>items.toArray[k]?) ∘λk=>items.length - 1 - k) k=items.reverse[k]?:=by
    rw[List.getElem?_reverse (hk k (by simp))]
    simp
   rw[Y6,Y6,e,ih λx hx=>hk x (Yz _ hx)]
 rw[h _ λk hk=>List.mem_range.mp hk]
 have:=uG items.reverse
 rwa [List.length_reverse] at this
end PySem.UL
namespace L2
open PySem PySem.Spec PyProof.Rows PySem.W
section
variable {X : Cx} {K : PySem.W.Frag}
noncomputable def JH (K:PySem.W.Frag) (te ts:TE):TE:=λσ H Q=>te σ H λx H1=>ts σ H1 λy H2=>∃a xs,x=.ref a/\y=.int (-1)/\bI K H2 a xs/\∀p,H2 p=none->Q (.ref p) (upd H2 p (.lst xs.reverse))
theorem DT {e st:Expr} {te ts:TE} {p2 pos:Pos} (he:PE X e te) (hs:PE X st ts):PE X (.Subscript e (.Slice none none (some st) p2) pos) (JH X.K te ts):=by
 intro pins s σ H Q I h
 refine Subscript_ (cD (he pins s σ H _ I h) λv s1 dh=>?_)
 obtain⟨x,H1,I1,r1,q1⟩:=dh
 refine wpAny_Slice ?_
 rw[evalPart_none]
 refine wpAny_pure ?_
 refine wpAny_pure ?_
 rw[evalPart_some]
 refine cD (hs pins s1 σ H1 _ I1 q1) λvs s2 dh=>?_
 obtain⟨y,H2,I2,r2,q2⟩:=dh
 obtain⟨a,xs,rfl,rfl,hx,q⟩:=q2
 obtain⟨t,rfl⟩:=r2
 cases r1
 have I4:Inv X pins σ H2 {s2 with heap:=s2.heap.push {cls:=.type "slice",data:=.fields #[.none,.none,.int (-1) t]}}:=I2.kept (t':=s2.toks) λb ob q=>Heap.get?_push_of_some _ q
 obtain⟨a6,r,ht,hz⟩:=I4.list hx
 have hlen:=r.length
 show wpAny (model X.prog X.w) X.A (subscriptTail e (.Slice none none (some st) p2) (.ref a) (.ref s2.heap.objs.size)) (EP X pins σ Q) X.xe {s2 with heap:=s2.heap.push {cls:=.type "slice",data:=.fields #[.none,.none,.int (-1) t]}}
 refine tail_any (ops:=[.ref a,.ref s2.heap.objs.size]) ht.isList.typeIs slot_list_getitem.lookup ?_ (by with_unfolding_all rfl)
 refine wpAny_getItem_list_slice ht.isList (Heap.IsSliceOf.new ..) .none .none (.int (-1) t) (by simp) ?_ (by rw[Yv] <;>omega)
 rw[PySem.UL.pick_rev]
 refine⟨.ref _,_,I4.laid (t':=s2.toks) (o:=.lst xs.reverse) (λb ob q=>Heap.get?_push_of_some _ q) (Yt _) ?_,rfl,q _ (I4.bR.fresh (Yt _))⟩
 exact⟨by rw[List.length_reverse];exact hz,_,0,r.reverse,Heap.get?_push_size _ rfl⟩
theorem Ce {e st:Expr} {te ts:TE} {p2 pos:Pos} (he:PE X e te) (hs:PE X st ts) (hK:X.K=K:=by rfl):PE X (.Subscript e (.Slice none none (some st) p2) pos) (JH K te ts):=by subst hK;exact DT he hs
end
end L2
namespace L2
open PySem PySem.Spec PyProof.Rows
structure uH (P:Program) (w:World) (K:PySem.W.Frag) (mg:Str->Option Value) (base:Heap) (CX:nz) (k:Nat) (x:Str) (C:Addr) (ps:List Str) (sp:Sp):Prop where
 ex:∃f fd,Mk K C f/\fF P w K mg base CX k f fd ps sp/\mg x=some (.ref C)/\Binds K fd ps []
section
variable {X : Cx}
theorem DU {CX:nz} {k:Nat} {x:Str} {C:Addr} {ps:List Str} {sp:Sp} {E:XK} {e:Expr} {es:List Expr} {t:TA} {p pos:Pos} (M:uH X.prog X.w X.K X.mg X.base CX k x C ps sp) (hr:dW (k+1) X.A) (hg:Gl X x) (hx:eW CX X E) (ha:PA X (e::es) t)
  (BW:(x==("__debug__":Str))=false:=by decide) (he:starEach (e::es) X.env=(false,eval e X.env)::starEach es X.env:=by rfl) (hpl:(backTo pos (starEach es X.env)).any (·.1)=false:=by rfl):
  PE X (.Call (.Name x p) (e::es) [] pos) (wZ C sp [] E t):=by
 obtain⟨f,fd,m,F,hm,hb⟩:=M.ex
 exact F2 m F hr hg hm hb .nil hx ha BW he hpl
end
structure N9 (K:PySem.W.Frag) (mg:Str->Option Value) (x qual:Str) (st:Stmt) (C:Addr):Prop where
 ex:∃f fd,zq K "__init__" qual st f fd/\Mk K C f/\mg x=some (.ref C)
theorem N9.du {P:Program} {w:World} {K:PySem.W.Frag} {mg:Str->Option Value} {base:Heap} {CX:nz} {x qual:Str} {st:Stmt} {C:Addr} {ps:List Str} {k:Nat} {sp:Sp} (D:N9 K mg x qual st C)
  (hb:∀(kV doc pm:Value) (an:Option Addr) (bT ct:Value) (us:List Value),us.length=ps.length->bindArgs (PySem.W.fnOf "__init__" qual (br st) (bo st) (ar st) .none kV doc pm an bT ct) ⟨us,[]⟩=pure (ps.zip us))
  (h:∀f fd,zq K "__init__" qual st f fd->fF P w K mg base CX k f fd ps sp):uH P w K mg base CX k x C ps sp:=by
 obtain⟨f,fd,F,m,hm⟩:=D.ex
 exact⟨f,fd,m,h f fd F,hm,F.binds hb⟩
end L2
namespace L2
open PySem PySem.Spec PyProof.Rows
noncomputable instance Lv:DecidableEq PyData:=λ_ _=>Classical.propDecidable _
mutual
noncomputable def f6:PyData->Bool
 | .int _=>true
 | .str x=>PyData.canLay0 (.str x)
 | .tuple xs=>nJ xs
 | _=>false
noncomputable def nJ:List PyData->Bool
 | []=>true
 | x::xs=>f6 x && nJ xs
end
mutual
theorem GC:∀(d:PyData),f6 d=true->d.canLay0=true
 | .none,h=>by simp [f6] at h
 | .bool _,h=>by simp [f6] at h
 | .int _,_=>by simp [PyData.canLay0]
 | .str x,h=>by rw[f6] at h;exact h
 | .list _,h=>by simp [f6] at h
 | .tuple xs,h=>by rw[f6] at h;rw[PyData.canLay0];exact xv xs h
 | .dict _,h=>by simp [f6] at h
theorem xv:∀(xs:List PyData),nJ xs=true->PyData.canLayAll0 xs=true
 | [],_=>by simp [PyData.canLayAll0]
 | x::xs,h=>by
  rw[nJ,YY] at h
  rw[PyData.canLayAll0,YY]
  exact⟨GC x h.1,xv xs h.2⟩
end
mutual
theorem JI:∀(x y:PyData),f6 x=true->f6 y=true->PyData.eqv x y=decide (x=y)
 | .int i,y,_,hy=>by
  cases y with
  | int j=>
   rw[PyData.eqv]
   by_cases c:i=j
   ·subst c;simp
   ·rw[decide_eq_false (λe=>c (by injection e))]
    simp [c]
  | str _=>simp [PyData.eqv]
  | tuple _=>simp [PyData.eqv]
  | _=>simp [f6] at hy
 | .str a,y,_,hy=>by
  cases y with
  | str b=>
   rw[PyData.eqv]
   by_cases c:a=b
   ·subst c;simp
   ·rw[decide_eq_false (λe=>c (by injection e))]
    simp [c]
  | int _=>simp [PyData.eqv]
  | tuple _=>simp [PyData.eqv]
  | _=>simp [f6] at hy
 | .tuple xs,y,hx,hy=>by
  cases y with
  | tuple ys=>
   rw[f6] at hx hy
   rw[PyData.eqv,A0 xs ys hx hy]
   by_cases c:xs=ys
   ·subst c;simp
   ·rw[decide_eq_false c,decide_eq_false (λe=>c (by injection e))]
  | int _=>simp [PyData.eqv]
  | str _=>simp [PyData.eqv]
  | _=>simp [f6] at hy
 | .none,_,h,_=>by simp [f6] at h
 | .bool _,_,h,_=>by simp [f6] at h
 | .list _,_,h,_=>by simp [f6] at h
 | .dict _,_,h,_=>by simp [f6] at h
theorem A0:∀(xs ys:List PyData),nJ xs=true->nJ ys=true->PyData.eqvAll xs ys=decide (xs=ys)
 | [],[],_,_=>by simp [PyData.eqvAll]
 | [],_::_,_,_=>by simp [PyData.eqvAll]
 | _::_,[],_,_=>by simp [PyData.eqvAll]
 | x::xs,y::ys,hx,hy=>by
  rw[nJ,YY] at hx hy
  rw[PyData.eqvAll,JI x y hx.1 hy.1,A0 xs ys hx.2 hy.2]
  by_cases c:x=y
  ·subst c
   by_cases d:xs=ys
   ·subst d;simp
   ·rw[decide_eq_false d,decide_eq_false (λe=>d (List.cons.inj e).2)];simp
  ·rw[decide_eq_false c,decide_eq_false (λe=>c (List.cons.inj e).1)];simp
end
mutual
theorem zE {h h':Heap} {d:Addr} {o:Obj} {es ep} (ho:h.get? d=some o) (hd:o.data=.dict es ep) (hs:Heap.SameBut d h h'):∀(x:PyData) (v:Value) (as:List Addr),f6 x=true->Reads h v x as->Reads h' v x as
 | .int _,_,_,_,r=>by cases r;exact .int _ _
 | .str _,_,_,_,r=>by cases r;exact .str _ _
 | .tuple xs,_,_,hx,r=>by
  rw[f6] at hx
  cases r with
  | @tuple a o' vs n _ _ e c q t=>
   have ne:a≠d:=λz=>by
    subst z
    rw[ho] at e
    cases e
    rw[hd] at q
    cases q
   exact .tuple ((hs.2 a ne).trans e) c q (oR ho hd hs xs _ _ hx t)
 | .none,_,_,h,_=>by simp [f6] at h
 | .bool _,_,_,h,_=>by simp [f6] at h
 | .list _,_,_,h,_=>by simp [f6] at h
 | .dict _,_,_,h,_=>by simp [f6] at h
theorem oR {h h':Heap} {d:Addr} {o:Obj} {es ep} (ho:h.get? d=some o) (hd:o.data=.dict es ep) (hs:Heap.SameBut d h h'):∀(xs:List PyData) (vs:List Value) (as:List Addr),nJ xs=true->ReadsAll h vs xs as->ReadsAll h' vs xs as
 | [],_,_,_,r=>by cases r;exact .nil
 | x::xs,_,_,hx,r=>by
  rw[nJ,YY] at hx
  cases r with
  | cons r1 r2=>exact .cons (zE ho hd hs x _ _ hx.1 r1) (oR ho hd hs xs _ _ hx.2 r2)
end
mutual
noncomputable def A1 (w:World):PyData->Int
 | .int i=>IC w (.inl i)
 | .str x=>IC w (.inr x)
 | .tuple xs=>reduceHash (Builtin.Tuple.tupleHashOf (f7 w xs))
 | _=>0
noncomputable def f7 (w:World):List PyData->List Int
 | []=>[]
 | x::xs=>A1 w x::f7 w xs
end
mutual
noncomputable def Oa:PyData->Nat
 | .tuple xs=>qG xs+1
 | _=>1
noncomputable def qG:List PyData->Nat
 | []=>0
 | x::xs=>Oa x+qG xs
end
section
variable {prog : Program} {w : World}
noncomputable def PH (prog:Program) (w:World) (m:Nat) (h:Heap) (d:PyData) (v:Value):Prop:=∀(A:Around) (E:Value->Shared->Prop) (s:Shared) (Q:Int->Shared->Prop),s.heap=h->A.units+m<cLine->
 Q (A1 w d) {s with toks:=s.toks+Oa d}->wpAny (model prog w) A (pyHash v) Q E s
inductive HU (prog:Program) (w:World) (m:Nat) (h:Heap):List PyData->List Value->Prop
 | nil:HU prog w m h [] []
 | cons {d v ds vs}:PH prog w m h d v->HU prog w m h ds vs->HU prog w m h (d::ds) (v::vs)
theorem Cf (xs ys:List PyData):f7 w (xs++ys)=f7 w xs++f7 w ys:=by
 induction xs with
 | nil=>simp [f7]
 | cons x xs ih=>simp [f7,ih]
theorem DV (xs ys:List PyData):qG (xs++ys)=qG xs+qG ys:=by
 induction xs with
 | nil=>simp [qG]
 | cons x xs ih=>simp [qG,ih,Nat.add_assoc]
theorem DW {m:Nat} {h:Heap} {ds:List PyData} {a:Addr} {o:Obj} {items n} (ho:h.get? a=some o) (hc:o.cls=.type "tuple") (hd:o.data=.seq items n) (hi:HU prog w m h ds items.toList):PH prog w (m+1) h (.tuple ds) (.ref a):=by
 intro A E s Q hh hu hq
 subst hh
 have hT:s.TypeIs (.ref a) "tuple":=⟨o,ho,hc⟩
 have Us:A.units<cLine:=by omega
 unfold pyHash
 first | unfold pyHashByItsType | skip
 first | refine wpAny_bind (wpAny_cRoomFor_or (.inr Us) ?_) | skip
 refine wpAny_bind (wpAny_specialOf hT F.slot_tuple_hash.lookup ?_)
 show wpAny _ _ (if (some (Value.builtin "tuple.__hash__")==some Value.none)=true then _ else _) Q E s
 rw[if_neg (by rw[beq_builtin_none];exact YF)]
 refine wpAny_bind (wpAny_specialOf hT F.slot_tuple_hash.lookup ?_)
 show wpAny _ _ (callSpecialIfBoundUnlessNone? (.ref a) "__hash__" _ >>=_) Q E s
 refine wpAny_bind (wpAny_callSpecialIfBoundUnlessNone?_slot hT F.slot_tuple_hash (wpAny_call_entry F.slot_tuple_hash hT F.entry_tuple_hash ?_ (F.args_tuple_hash_1 _)))
 show wpAny _ _ (Builtin.Tuple.tupleItemsOf (.ref a) >>=_) _ _ s
 refine wpAny_bind (wpAny_tupleItemsOf ho hd ?_)
 refine wpAny_bind ?_
 rw[<-Array.forIn_toList]
 refine wpAny_forIn_list _
  (λrest (b:Array Int) s'=>∃done left,ds=done++left/\HU prog w m s.heap left rest/\b.toList=f7 w done/\s'={s with toks:=s.toks+qG done})
  _ ?_ ?_ _ _ ⟨[],ds,rfl,hi,rfl,rfl⟩
 ·rintro x rest b s' ⟨done,left,rfl,hl,hb,rfl⟩
  cases hl with
  | @cons k _ R7 _ h1 R8=>
   refine wpAny_bind (h1 _ _ _ _ rfl (by show A.units+1+m<cLine;omega) ?_)
   have e1:(b.push (A1 w k)).toList=f7 w (done++ [k]):=by rw[Cf];simp [hb,f7]
   have e2:s.toks+qG done+Oa k=s.toks+qG (done++ [k]):=by rw[DV];simp [qG,Nat.add_assoc]
   first
    | exact wpAny_pure ⟨done++ [k],R7,by simp,R8,e1,by rw[<-e2]⟩
    | exact wpAny_bind (wpAny_pure (wpAny_pure ⟨done++ [k],R7,by simp,R8,e1,by rw[<-e2]⟩))
 ·rintro b s' ⟨done,left,rfl,hl,hb,rfl⟩
  cases hl
  rw[List.append_nil] at hq
  show wpAny _ _ (retInt (Builtin.Tuple.tupleHashOf b.toList)) _ _ _
  rw[hb]
  refine wpAny_ret_mkInt ?_
  show wpAny _ _ (if (decide (-(2:Int)^63<=Builtin.Tuple.tupleHashOf (f7 w done)) && decide (Builtin.Tuple.tupleHashOf (f7 w done)<2^63))=true then _ else _) Q E _
  rw[A1,Oa] at hq
  unfold reduceHash at hq
  by_cases hr:(decide (-(2:Int)^63<=Builtin.Tuple.tupleHashOf (f7 w done)) && decide (Builtin.Tuple.tupleHashOf (f7 w done)<2^63))=true
  ·rw[if_pos hr]
   rw[if_pos hr] at hq
   exact wpAny_pure (by simpa [Nat.add_assoc] using hq)
  ·rw[if_neg hr]
   rw[if_neg hr] at hq
   exact wpAny_bind (wpAny_rule (wpAny_pure (by simpa [Nat.add_assoc] using hq)))
mutual
theorem JJ {h:Heap}:∀(d:PyData) (v:Value) (as:List Addr),f6 d=true->Reads h v d as->PH prog w d.depth h d v
 | .int i,_,_,_,r=>by
  cases r with
  | int _ t=>
   intro A E s Q _ _ hq
   exact(cj prog w).pyHash (k:=.inl i) (qp (k:=.inl i) ⟨t,rfl⟩) hq
 | .str x,_,_,_,r=>by
  cases r with
  | str _ t=>
   intro A E s Q _ _ hq
   exact(cj prog w).pyHash (k:=.inr x) (qp (k:=.inr x) ⟨t,rfl⟩) hq
 | .tuple xs,_,_,hx,r=>by
  rw[f6] at hx
  cases r with
  | tuple e c q t=>exact DW e c q (A2 xs _ _ hx t)
 | .none,_,_,h,_=>by simp [f6] at h
 | .bool _,_,_,h,_=>by simp [f6] at h
 | .list _,_,_,h,_=>by simp [f6] at h
 | .dict _,_,_,h,_=>by simp [f6] at h
theorem A2 {h:Heap}:∀(ds:List PyData) (vs:List Value) (as:List Addr),nJ ds=true->ReadsAll h vs ds as->HU prog w (PyData.depthAll ds) h ds vs
 | [],_,_,_,r=>by cases r;exact .nil
 | x::xs,_,_,hx,r=>by
  rw[nJ,YY] at hx
  cases r with
  | cons r1 r2=>
   have p1:=JJ x _ _ hx.1 r1
   have p2:=A2 xs _ _ hx.2 r2
   have up:∀{m m':Nat} {ds:List PyData} {vs:List Value},m<=m'->HU prog w m h ds vs->HU prog w m' h ds vs:=λl q=>by
    induction q with
    | nil=>exact .nil
    | cons p _ ih=>exact .cons (λA E s Q e u=>p A E s Q e (by omega)) ih
   refine .cons (λA E s Q e u=>p1 A E s Q e ?_) (up ?_ p2)
   ·rw[PyData.depthAll] at u
    omega
   ·rw[PyData.depthAll]
    omega
end
theorem xw {h:Heap} {k:Nat} {a:Addr} {o:Obj} {items n} (ho:h.get? a=some o) (hc:o.cls=.type "tuple") (hd:o.data=.seq items n) (hi:∀v∈items.toList,∀(A:Around) (E:Value->Shared->Prop) (s:Shared) (Q:Bool->Shared->Prop),s.heap=h->Q true s->wpAny (model prog w) A (eqIsQuiet k v) Q E s)
  (A:Around) (E:Value->Shared->Prop) (s:Shared) (Q:Bool->Shared->Prop) (hh:s.heap=h) (hq:Q true s):wpAny (model prog w) A (eqIsQuiet (k+1) (.ref a)) Q E s:=by
 subst hh
 have hT:s.TypeIs (.ref a) "tuple":=⟨o,ho,hc⟩
 unfold eqIsQuiet
 refine wpAny_bind (wpAny_specialOf hT F.slot_tuple_eq.lookup ?_)
 show wpAny _ _ (isInstance (.ref a) (.type "tuple") >>=_) _ _ s
 refine wpAny_bind (wpAny_isInstance hT isSubtype_tuple_tuple ?_)
 simp only[Bool.not_true,Bool.false_eq_true,if_false]
 refine wpAny_bind (wpAny_seqItems ho hd ?_)
 refine wpAny_bind ?_
 show wpAny _ _ (forIn items _ _) _ _ s
 rw[<-Array.forIn_toList]
 refine wpAny_forIn_list _ (λrest r s'=>r.1=none/\s'=s/\∀v∈rest,v∈items.toList) _ ?_ ?_ _ _ ⟨rfl,rfl,λ_ h=>h⟩
 ·rintro v rest r s' ⟨hr,rfl,B3⟩
  refine wpAny_bind (hi v (B3 v YA) _ _ _ _ rfl ?_)
  simp only[Bool.not_true,Bool.false_eq_true,if_false]
  exact wpAny_pure ⟨rfl,rfl,λu Ut=>B3 u (Yz _ Ut)⟩
 ·rintro⟨r1,r2⟩ s' ⟨hr,rfl,_⟩
  simp only at hr
  subst hr
  exact wpAny_pure hq
mutual
theorem Cg {h:Heap}:∀(d:PyData) (v:Value) (as:List Addr) (k:Nat),f6 d=true->d.depth<=k->Reads h v d as->∀(A:Around) (E:Value->Shared->Prop) (s:Shared) (Q:Bool->Shared->Prop),s.heap=h->Q true s->wpAny (model prog w) A (eqIsQuiet k v) Q E s
 | .int _,_,_,_,_,_,r=>by
  cases r
  intro A E s Q _ hq
  rw[eqIsQuiet_byValue _ rfl]
  exact wpAny_pure hq
 | .str _,_,_,_,_,_,r=>by
  cases r
  intro A E s Q _ hq
  rw[eqIsQuiet_byValue _ rfl]
  exact wpAny_pure hq
 | .tuple xs,_,_,k,hx,hk,r=>by
  rw[f6] at hx
  rw[PyData.depth] at hk
  cases k with
  | zero=>omega
  | succ k=>
   cases r with
   | tuple e c q t=>exact xw e c q (qH xs _ _ k hx (by omega) t)
 | .none,_,_,_,h,_,_=>by simp [f6] at h
 | .bool _,_,_,_,h,_,_=>by simp [f6] at h
 | .list _,_,_,_,h,_,_=>by simp [f6] at h
 | .dict _,_,_,_,h,_,_=>by simp [f6] at h
theorem qH {h:Heap}:∀(ds:List PyData) (vs:List Value) (as:List Addr) (k:Nat),nJ ds=true->PyData.depthAll ds<=k->ReadsAll h vs ds as->∀v∈vs,∀(A:Around) (E:Value->Shared->Prop) (s:Shared) (Q:Bool->Shared->Prop),s.heap=h->Q true s->wpAny (model prog w) A (eqIsQuiet k v) Q E s
 | [],_,_,_,_,_,r=>by
  cases r
  intro v hv
  simp at hv
 | x::xs,_,_,k,hx,hk,r=>by
  rw[nJ,YY] at hx
  rw[PyData.depthAll] at hk
  cases r with
  | cons r1 r2=>
   intro v hv
   rcases List.mem_cons.mp hv with rfl | hv
   ·exact Cg x _ _ k hx.1 (by omega) r1
   ·exact qH xs _ _ k hx.2 (by omega) r2 v hv
end
end
end L2
namespace L2
open PySem PySem.Spec PyProof.Rows
mutual
noncomputable def toP:Dat->PyData
 | .cP=>.none
 | .bl b=>.bool b
 | .int i=>.int i
 | .str x=>.str x
 | .tup l=>.tuple (toPL l)
 | .lst l=>.list (toPL l)
noncomputable def toPL:List Dat->List PyData
 | []=>[]
 | d::ds=>toP d::toPL ds
end
section
variable {P : Program} {w : World} {H : Hp} {h : Heap}
mutual
theorem qI (ok:gB P w H h):∀(d:Dat) (v:V) (u:Value),Rep H d v->RelV v u->∃as,Reads h u (toP d) as
 | .cP,v,u,r,q=>by
  rw[Rep] at r
  subst r
  cases (show u=Value.none from q)
  exact⟨_,.none⟩
 | .bl b,v,u,r,q=>by
  rw[Rep] at r
  subst r
  cases (show u=Value.bool b from q)
  exact⟨_,.bool b⟩
 | .int i,v,u,r,q=>by
  rw[Rep] at r
  subst r
  obtain⟨t,rfl⟩:=(show ∃t,u=Value.int i t from q)
  exact⟨_,.int i t⟩
 | .str x,v,u,r,q=>by
  rw[Rep] at r
  subst r
  obtain⟨t,rfl⟩:=(show ∃t,u=Value.str x t from q)
  exact⟨_,.str x t⟩
 | .tup l,v,u,r,q=>by
  rw[Rep] at r
  obtain⟨p,vs,rfl,hp,rl⟩:=r
  cases (show u=Value.ref p from q)
  obtain⟨_,a6,rv,o,h1,h2,n,h3⟩:=(show cF P w H h p (.tup vs) from ok p _ hp)
  obtain⟨as,ra⟩:=nK ok l vs a6 rl rv
  exact⟨as,.tuple h1 h2 h3 (by simpa using ra)⟩
 | .lst l,v,u,r,q=>by
  rw[Rep] at r
  obtain⟨p,vs,rfl,hp,rl⟩:=r
  cases (show u=Value.ref p from q)
  obtain⟨_,a6,n,rv,h1⟩:=(show cF P w H h p (.lst vs) from ok p _ hp)
  obtain⟨as,ra⟩:=nK ok l vs a6 rl rv
  exact⟨p::as,.list h1 rfl rfl (by simpa using ra)⟩
theorem nK (ok:gB P w H h):∀(ds:List Dat) (vs:List V) (us:List Value),a8 H ds vs->bj vs us->∃as,ReadsAll h us (toPL ds) as
 | [],vs,us,r,q=>by
  rw[a8] at r
  subst r
  cases q
  exact⟨_,.nil⟩
 | d::ds,vs,us,r,q=>by
  rw[a8] at r
  obtain⟨v,rest,rfl,r1,r2⟩:=r
  cases q with
  | cons q1 q2=>
   obtain⟨a1,h1⟩:=qI ok d v _ r1 q1
   obtain⟨a2,h2⟩:=nK ok ds rest _ r2 q2
   exact⟨_,.cons h1 h2⟩
end
end
abbrev Rows:=List (Dat×Addr×Int)
abbrev Xu:Rows->List (PyData×Addr×Value)->Prop:=Paired λp q=>toP p.1=q.1/\p.2.1=q.2.1/\∃t,q.2.2=Value.int p.2.2 t
section
variable {P : Program} {w : World} {H : Hp} {h : Heap} {a : Addr}
end
section
variable {X : Cx} {P : Program} {w : World} {o i e value : Expr} {pos pos' sQ : Pos} {td ty tv : TE}
end
end L2
namespace L2
open PySem PySem.Spec PyProof.Rows PySem.W
section
variable {X : Cx} {K : PySem.W.Frag}
theorem uI {P:Program} {w:World} {H:Hp} {h:Heap} (ok:gB P w H h) {ds:List Dat} {xs:List V} {us:List Value} (r:a8 H ds xs) (v:bj xs us) {i:Nat} {u:Value} (e:us[i]?=some u):∃d as,ds[i]?=some d/\Reads h u (toP d) as:=by
 have l1:=r.length
 have l2:=v.length
 have hi:=(List.getElem?_eq_some_iff.mp e).1
 have ex:xs[i]?=some (xs[i]'(by omega)):=Yw (by omega)
 obtain⟨u',e1,rv⟩:=v.get ex
 rw[e] at e1
 cases e1
 obtain⟨d,ed,rd⟩:=r.get ex
 obtain⟨as,ra⟩:=qI ok d _ _ rd rv
 exact⟨d,as,ed,ra⟩
end
end L2
namespace L2
open PySem PySem.Spec PyProof.Rows
structure bu (P:Program) (w:World) (K:PySem.W.Frag) (mg:Str->Option Value) (base:Heap) (CX:nz) (k:Nat) (C:Addr) (m:Str) (ps:List Str) (sp:Sp):Prop where
 ex:∃f fd,C5 K C m f/\fF P w K mg base CX k f fd ps sp/\Binds K fd ps []
section
variable {X : Cx} {CX : nz} {k : Nat} {C : Addr} {m : Str} {ps : List Str} {sp : Sp} {E : XK} {e o : Expr} {es : List Expr} {ta : TE} {t : TA} {pos apos : Pos} {pl : Sem Bool}
theorem cU (M:bu X.prog X.w X.K X.mg X.base CX k C m ps sp) (c:AE X.K C) (he:PE X o ta) (hr:dW k X.A) (hx:eW CX X E) (ha:PA X (e::es) t)
  (hst:starEach (e::es) X.env=(false,eval e X.env)::starEach es X.env:=by rfl) (hpl:(backTo pos (starEach es X.env)).any (·.1)=false:=by rfl)
  (ht:eval (.Call (.Attribute o m apos) (e::es) [] pos) X.env=(do
   let ov <-eval o X.env
   standAt apos.atName
   let (f,first) <-holding [ov] (getMethod ov m pl)
   callWith pos f first (backTo pos (starEach (e::es) X.env)) (backToKw pos (keywordEach [] X.env))):=by rfl):
  PE X (.Call (.Attribute o m apos) (e::es) [] pos) (bY C m sp [] E ta t):=by
 obtain⟨f,fd,hm,F,hb⟩:=M.ex
 exact F1 he c hm F hr hb .nil hx ha hst hpl ht
theorem iE (M:bu X.prog X.w X.K X.mg X.base CX k C m ps sp) (c:AE X.K C) (he:PE X o ta) (hr:dW k X.A) (hx:eW CX X E)
  (ht:eval (.Call (.Attribute o m apos) [] [] pos) X.env=(do
   let ov <-eval o X.env
   standAt apos.atName
   let (f,first) <-holding [ov] (getMethod ov m pl)
   callWith pos f first (backTo pos (starEach [] X.env)) (backToKw pos (keywordEach [] X.env))):=by rfl):
  PE X (.Call (.Attribute o m apos) [] [] pos) (bY C m sp [] E ta tNil):=by
 obtain⟨f,fd,hm,F,hb⟩:=M.ex
 exact C6 he c hm F hr hb .nil hx ht
end
structure sN (K:PySem.W.Frag) (C:Addr) (m qual:Str) (st:Stmt):Prop where
 ex:∃f fd,zq K m qual st f fd/\C5 K C m f
theorem sN.du {P:Program} {w:World} {K:PySem.W.Frag} {mg:Str->Option Value} {base:Heap} {CX:nz} {m qual:Str} {st:Stmt} {C:Addr} {ps:List Str} {k:Nat} {sp:Sp} (D:sN K C m qual st)
  (hb:∀(kV doc pm:Value) (an:Option Addr) (bT ct:Value) (us:List Value),us.length=ps.length->bindArgs (PySem.W.fnOf m qual (br st) (bo st) (ar st) .none kV doc pm an bT ct) ⟨us,[]⟩=pure (ps.zip us))
  (h:∀f fd,zq K m qual st f fd->fF P w K mg base CX k f fd ps sp):bu P w K mg base CX k C m ps sp:=by
 obtain⟨f,fd,F,hm⟩:=D.ex
 exact⟨f,fd,hm,h f fd F,F.binds hb⟩
end L2
namespace L2
open PySem PySem.Spec PyProof.Rows PySem.W
mutual
noncomputable def vk:PyData->Bool
 | .none=>true
 | .int _=>true
 | .str x=>PyData.canLay0 (.str x)
 | .tuple xs=>xy xs
 | .list xs=>xy xs
 | _=>false
noncomputable def xy:List PyData->Bool
 | []=>true
 | x::xs=>vk x && xy xs
end
mutual
theorem pY:∀(d:PyData),vk d=true->d.canLay0=true
 | .none,_=>by simp [PyData.canLay0]
 | .bool _,h=>by simp [vk] at h
 | .int _,_=>by simp [PyData.canLay0]
 | .str x,h=>by rw[vk] at h;exact h
 | .list xs,h=>by rw[vk] at h;rw[PyData.canLay0];exact qJ xs h
 | .tuple xs,h=>by rw[vk] at h;rw[PyData.canLay0];exact qJ xs h
 | .dict _,h=>by simp [vk] at h
theorem qJ:∀(xs:List PyData),xy xs=true->PyData.canLayAll0 xs=true
 | [],_=>by simp [PyData.canLayAll0]
 | x::xs,h=>by
  rw[xy,YY] at h
  rw[PyData.canLayAll0,YY]
  exact⟨pY x h.1,qJ xs h.2⟩
end
mutual
theorem A3:∀(x y:PyData),vk x=true->vk y=true->PyData.eqv x y=decide (x=y)
 | .none,y,_,hy=>by cases y <;>simp [PyData.eqv]
 | .int i,y,_,hy=>by
  cases y with
  | int j=>
   rw[PyData.eqv]
   by_cases c:i=j
   ·subst c;simp
   ·rw[decide_eq_false (λe=>c (by injection e))]
    simp [c]
  | bool _=>simp [vk] at hy
  | _=>simp [PyData.eqv]
 | .str a,y,_,hy=>by
  cases y with
  | str b=>
   rw[PyData.eqv]
   by_cases c:a=b
   ·subst c;simp
   ·rw[decide_eq_false (λe=>c (by injection e))]
    simp [c]
  | _=>simp [PyData.eqv]
 | .tuple xs,y,hx,hy=>by
  cases y with
  | tuple ys=>
   rw[vk] at hx hy
   rw[PyData.eqv,qK xs ys hx hy]
   by_cases c:xs=ys
   ·subst c;simp
   ·rw[decide_eq_false c,decide_eq_false (λe=>c (by injection e))]
  | _=>simp [PyData.eqv]
 | .list xs,y,hx,hy=>by
  cases y with
  | list ys=>
   rw[vk] at hx hy
   rw[PyData.eqv,qK xs ys hx hy]
   by_cases c:xs=ys
   ·subst c;simp
   ·rw[decide_eq_false c,decide_eq_false (λe=>c (by injection e))]
  | _=>simp [PyData.eqv]
 | .bool _,_,h,_=>by simp [vk] at h
 | .dict _,_,h,_=>by simp [vk] at h
theorem qK:∀(xs ys:List PyData),xy xs=true->xy ys=true->PyData.eqvAll xs ys=decide (xs=ys)
 | [],[],_,_=>by simp [PyData.eqvAll]
 | [],_::_,_,_=>by simp [PyData.eqvAll]
 | _::_,[],_,_=>by simp [PyData.eqvAll]
 | x::xs,y::ys,hx,hy=>by
  rw[xy,YY] at hx hy
  rw[PyData.eqvAll,A3 x y hx.1 hy.1,qK xs ys hx.2 hy.2]
  by_cases c:x=y
  ·subst c
   by_cases d:xs=ys
   ·subst d;simp
   ·rw[decide_eq_false d,decide_eq_false (λe=>d (List.cons.inj e).2)];simp
  ·rw[decide_eq_false c,decide_eq_false (λe=>c (List.cons.inj e).1)];simp
end
section
variable {X : Cx} {K : PySem.W.Frag}
noncomputable def Ke (d:Dat):Prop:=vk (toP d)=true/\(toP d).depth<=8
theorem JK {A:Around} {s:Shared} {a b:PyData} {u v:Value} {as bs:List Addr} (ra:Reads s.heap u a as) (rb:Reads s.heap v b bs) (ha:vk a=true) (hb:vk b=true) (da:a.depth<=8) (db:b.depth<=8) (hu:A.units+8<cLine):SeqAt.EqAt A s u v (decide (a=b)):=λprog w E Q h=>
 SeqAt.eqBoolOverData _ _ _ _ _ _ _ _ _ _ _ _ ra rb (pY _ ha) (pY _ hb) (by omega) (by rw[A3 _ _ ha hb];exact h)
theorem DX {s:Shared} {ds:List Dat} {d:Dat} (JL:∀e∈ds,Ke e) {u:Value} {e:Dat} {bs:List Addr} [Decidable (∃cs,Reads s.heap u (toP d) cs)] (he:e∈ds) (re:Reads s.heap u (toP e) bs):decide (∃cs,Reads s.heap u (toP d) cs)=decide (toP e=toP d):=by
 by_cases c:toP e=toP d
 ·rw[decide_eq_true c,decide_eq_true ⟨bs,by rw[<-c];exact re⟩]
 ·rw[decide_eq_false c,decide_eq_false]
  rintro⟨cs,rc⟩
  exact c (SeqAt.Reads.unique _ _ _ _ _ (pY _ (JL e he).1) re rc)
noncomputable def MA:V->List V->Hp->VK->Prop:=λx vs H Q=>∃l xs ds v d i,x=.ref l/\vs=[v]/\H l=some (.lst xs)/\a8 H ds xs/\(∀e∈ds,Ke e)/\Rep H d v/\Ke d/\(ds.map toP)[i]?=some (toP d)/\(∀j,j<i->(ds.map toP)[j]?≠some (toP d))/\i<100000/\Q (.int (i:Nat)) H
theorem Ci (hu:X.A.units+64<cLine):IY X "list.index" MA:=by
 classical
 intro pins s σ H x vs v us Q I rx rv h
 obtain⟨l,xs,ds,y,d,i,rfl,rfl,hp,rd,JL,Uu,hd,hi,Uv,i6,q⟩:=h
 cases rx
 obtain⟨u,rfl,ru⟩:=vals1 rv
 obtain⟨a6,r,pl,hz⟩:=I.list (bI.of hp)
 obtain⟨as,ra⟩:=qI I.bR d y u Uu ru
 have l1:=rd.length
 have l2:=r.length
 have at_:∀(j:Nat) (hj:j<a6.length),∃e bs,ds[j]?=some e/\e∈ds/\Reads s.heap a6[j] (toP e) bs:=λj hj=>by
  obtain⟨e,bs,ed,re⟩:=uI I.bR rd r (Yw hj)
  exact⟨e,bs,ed,YI ed,re⟩
 have Uw:i<a6.length:=by
  have:=(List.getElem?_eq_some_iff.mp hi).1
  rw[Yr] at this
  omega
 obtain⟨⟨c1,d1,d2,sl⟩,ho,e1,m,e2⟩:=pl.isList
 cases e1
 cases e2
 have hit:decide (∃cs,Reads s.heap a6[i] (toP d) cs)=true:=by
  obtain⟨e,bs,ed,he,re⟩:=at_ i Uw
  rw[DX JL he re]
  rw[Yu,ed] at hi
  exact decide_eq_true (YM hi)
 refine call_meets PySem.F.slot_list_index ⟨_,ho,rfl⟩ PySem.F.entry_list_index (PySem.F.args_list_index_2 _ _) (PySem.SeqAt.list_indexAt l a6.toArray m d1 sl u (λu=>decide (∃cs,Reads s.heap u (toP d) cs)) i (by rw[Yv];omega) (by omega) hit (λj hj hl=>?_)) ⟨ho,λy hy=>?_,⟨.int _,H,I.tok _,⟨_,rfl⟩,q⟩⟩
 ·rw[Yv] at hj
  obtain⟨e,bs,ed,he,re⟩:=at_ j hj
  show decide (∃cs,Reads s.heap a6[j] (toP d) cs)=false
  rw[DX JL he re]
  refine decide_eq_false λz=>Uv j hl ?_
  rw[Yu,ed]
  exact congrArg some z
 ·obtain⟨j,ej⟩:=List.getElem?_of_mem (List.mem_toArray.mp hy)
  obtain⟨e,bs,ed,re⟩:=uI I.bR rd r ej
  have he:=YI ed
  show SeqAt.EqAt _ _ _ _ (decide _)
  rw[DX JL he re]
  exact JK re ra (JL e he).1 hd.1 (JL e he).2 hd.2 (by show X.A.units+1+8<cLine;omega)
end
end L2
namespace PySem.Dfl
open PySem PyProof.Rows
section
variable {prog : Program} {w : World} {A : Around} {E : Value -> Shared -> Prop} {s : Shared}
end
section
variable {prog : Program} {w : World} {K : Type} [DecidableEq K] {knd : KeyKind prog w K} {A : Around} {R : Result -> Shared -> Prop} {I : Addr} {fp wr : List Addr} {G : Array GenState -> Array GenState -> Prop} {n : Nat} {P : Nat -> Value -> Prop} {St : Nat -> Shared -> Prop}
end
end PySem.Dfl
namespace PySem.Dfl
open PySem PyProof.Rows
section
variable {prog : Program} {w : World} {K : Type} [DecidableEq K] {knd : KeyKind prog w K} {A : Around} {E : Value -> Shared -> Prop} {s : Shared}
end
end PySem.Dfl
namespace L2
open PySem PyProof.Rows
section
variable {X : Cx} {P : Program} {w : World} {K : PySem.W.Frag}
end
end L2
namespace L2
open PySem PyProof.Rows
section
variable {X : Cx}
end
end L2
namespace L2
open PySem PyProof.Rows
structure Xv (K:PySem.W.Frag) (mg:Str->Option Value) (g x:Str) (st:Stmt):Prop where
 ex:∃f fd,zq K x x st f fd/\mg g=some (.ref f)
end L2
namespace L2
open PySem PyProof.Rows
theorem exV {b:V} {Q:V->Prop}:(∃v,(some (some b):Option (Option V))=some (some v)/\Q v)=Q b:=propext ⟨fun⟨_,e,h⟩=>by cases e;exact h,λh=>⟨b,rfl,h⟩⟩
theorem exI {a:Int} {Q:Int->Prop}:(∃i,V.int a=V.int i/\Q i)=Q a:=propext ⟨fun⟨_,e,h⟩=>by cases e;exact h,λh=>⟨a,rfl,h⟩⟩
theorem exB {a:Bool} {Q:Bool->Prop}:(∃i,V.bl a=V.bl i/\Q i)=Q a:=propext ⟨fun⟨_,e,h⟩=>by cases e;exact h,λh=>⟨a,rfl,h⟩⟩
theorem exR {a:Addr} {Q:Addr->Prop}:(∃i,V.ref a=V.ref i/\Q i)=Q a:=propext ⟨fun⟨_,e,h⟩=>by cases e;exact h,λh=>⟨a,rfl,h⟩⟩
theorem exS {a:Str} {Q:Str->Prop}:(∃i,V.str a=V.str i/\Q i)=Q a:=propext ⟨fun⟨_,e,h⟩=>by cases e;exact h,λh=>⟨a,rfl,h⟩⟩
theorem exII {a b:Int} {Q:Int->Int->Prop}:(∃i j,V.int a=V.int i/\V.int b=V.int j/\Q i j)=Q a b:=propext ⟨fun⟨_,_,e,f,h⟩=>by cases e;cases f;exact h,λh=>⟨a,b,rfl,rfl,h⟩⟩
theorem exRI {a:Addr} {k:Int} {Q:Addr->List V->Int->V->Prop}:(∃p xs i v,V.ref a=V.ref p/\V.int k=V.int i/\Q p xs i v)=∃xs v,Q a xs k v:=propext ⟨fun⟨_,xs,_,v,e,f,h⟩=>by cases e;cases f;exact⟨xs,v,h⟩,fun⟨xs,v,h⟩=>⟨a,xs,k,v,rfl,rfl,h⟩⟩
theorem exRa {α:Type} {a:Addr} {Q:Addr->α->Prop}:(∃p v,V.ref a=V.ref p/\Q p v)=∃v,Q a v:=propext ⟨fun⟨_,v,e,h⟩=>by cases e;exact⟨v,h⟩,fun⟨v,h⟩=>⟨a,v,rfl,h⟩⟩
theorem exRb {α β:Type} {a:Addr} {Q:Addr->α->β->Prop}:(∃p v u,V.ref a=V.ref p/\Q p v u)=∃v u,Q a v u:=propext ⟨fun⟨_,v,u,e,h⟩=>by cases e;exact⟨v,u,h⟩,fun⟨v,u,h⟩=>⟨a,v,u,rfl,h⟩⟩
theorem scal_ss {a b:Str}:y4 (.str a) (.str b)=true:=rfl
theorem scal_ii {a b:Int}:y4 (.int a) (.int b)=true:=rfl
theorem scal_bb {a b:Bool}:y4 (.bl a) (.bl b)=true:=rfl
theorem scal_si {a:Str} {b:Int}:y4 (.str a) (.int b)=true:=rfl
theorem scal_is {a:Int} {b:Str}:y4 (.int a) (.str b)=true:=rfl
end L2
namespace L2
open PySem PySem.Spec PyProof.Rows PySem.W
section
variable {X : Cx}
end
end L2
namespace L2
open PySem PySem.Spec PyProof.Rows PySem.W
section
variable {X : Cx} {k : Nat} {x : Str} {ps : List Str} {sp : Sp} {e : Expr} {es : List Expr} {t : TA} {p pos : Pos}
variable {cx n : Str} {np Ms Mt sQ : Pos} {b₀ : Stmt} {HP : List Stmt} {i : Nat} {ts : TS} {C2 : Addr}
end
end L2
namespace L2
open PySem PySem.Spec PyProof.Rows
section
variable {X : Cx}
end
end L2
namespace L2
open PySem PySem.Spec PyProof.Rows
section
variable {X : Cx}
noncomputable def MB (ta:TA):TE:=λσ H Q=>ta σ H λvs H1=>∃(a:Int) (n:Nat),vs=[.int a,.int (a+ (n:Int))]/\n<=1000000/\-1000000<=a/\a<=1000000/\∀l,H1 l=none->Q (.ref l) (upd H1 l (.lst ((List.range n).map λi:Nat=>V.int (a+ (i:Int)))))
theorem tf {a b:Expr} {ta:TA} {p1 p2 Ph GD:Pos} (hc:X.calm=true) (Ux:Gl X "list") (Uy:X.mg "list"=none) (Uz:Gl X "range") (uJ:X.mg "range"=none) (ha:PA X [a,b] ta) (hs:starEach [a,b] X.env=[(false,eval a X.env),(false,eval b X.env)]:=by rfl) (Fw:starEach [b] X.env=[(false,eval b X.env)]:=by rfl):
  PE X (.Call (.Name "list" p1) [.Call (.Name "range" p2) [a,b] [] GD] [] Ph) (MB ta):=by
 intro pins s σ H Q I h
 refine wpAny_Call_Name_kw (gu I Ux Uy (u:=.type "list") rfl ?_ (by decide) (by decide))
 refine Zm ?_ (se rfl) rfl
 rw[se rfl]
 show wpAny _ _ (spliced [(false,eval (.Call (.Name "range" p2) [a,b] [] GD) X.env)]) _ _ s
 refine Calls.spliced_cons ?_
 refine Call_ (gu I Uz uJ boot_range (Zm (cD (ha GD pins s σ H _ I h) λus s1 dh=>?_) (by rw[hs,Fw]) (by rw[Fw];rfl)))
 obtain⟨vs,H1,I1,r1,q1⟩:=dh
 obtain⟨i,n,e,hn,i0,i1,q⟩:=q1
 subst e
 cases r1 with
 | cons r rr=>
 cases rr with
 | cons r' rr=>
 cases rr
 obtain⟨t,rfl⟩:=r
 obtain⟨t',rfl⟩:=r'
 refine call_range_2 (Calls.spliced_nil ?_)
 refine call_list_range (n:=n) (I.ok.hd hc) (Heap.get?_push_size _ rfl) ?_ ?_ (by omega) λh' tk Pj c' hk R9 zu=>?_
 ·exact small_one (by omega) (by omega) (by omega) (by omega)
 ·rw[rangeSize_one];split <;>omega
 have fr:=I1.bR.fresh (a:=s1.heap.objs.size+1) (Nat.le_succ _)
 have sz:(s1.heap.push {cls:=.type "range",data:=.fields #[.int i t,.int (i+ (n:Int)) t',.int 1 s1.toks]}).objs.size=s1.heap.objs.size+1:=Heap.size_push ..
 simp only[sz] at R9 ⊢
 refine⟨.ref (s1.heap.objs.size+1),_,I1.laid (t':=tk) (λb o e=>hk b o (Heap.get?_push_of_some _ e)) (Nat.le_succ _) (o:=.lst ((List.range n).map λj:Nat=>V.int (i+ (j:Int)))) ⟨?_,Pj.toList,c',?_,?_⟩,rfl,q _ fr⟩
 ·rw[Yr,Y0];have:=sizeLine_eq;omega
 ·have go:∀(us:List Value) (ws:List V),us.length=ws.length->(∀(j:Nat) v x,us[j]?=some v->ws[j]?=some x->RelV x v)->bj ws us:=by
   intro us
   induction us with
   | nil=>intro ws hl _;cases ws with | nil=>exact .nil | cons _ _=>simp at hl
   | cons u us ih=>
    intro ws hl k
    cases ws with
    | nil=>simp at hl
    | cons x r=>exact .cons (k 0 u x rfl rfl) (ih r (by simpa using hl) λj v y e1 e2=>k (j+1) v y (by simpa using e1) (by simpa using e2))
  refine go _ _ (by rw[Array.length_toList,zu.1,Yr,Y0]) λj v x e1 e2=>?_
  rw[Array.getElem?_toList] at e1
  obtain⟨t',rfl⟩:=zu.2 j v e1
  rw[Yu] at e2
  obtain⟨m,em,rfl⟩:=Option.map_eq_some_iff.mp e2
  have:m=j:=by
   obtain⟨_,h2⟩:=List.getElem?_eq_some_iff.mp em
   rw[List.getElem_range] at h2
   exact h2.symm
  subst this
  exact⟨t',by simp⟩
 ·simpa using R9
end
end L2
namespace L2
open PySem PySem.Spec PyProof.Rows PySem.W
section
variable {X : Cx} {CX : nz} {k : Nat} {C : Addr} {m : Str} {ps : List Str} {sp : Sp} {E : XK} {o : Expr} {ta : TE} {pos apos : Pos} {pl : Sem Bool}
end
section
variable {X : Cx} {k0 k k2 : Nat} {C0 C C' : Addr} {m0 m m2 : Str} {Xw ps Xx : List Str} {Xy sp Xz : Sp} {o0 e e2 o o2 : Expr} {es XA : List Expr} {XB ta XC : TE} {t t2 : TA} {UA Sa pos apos GD Sb : Pos} {XD pl Lx : Sem Bool} {cx n : Str} {np Ms Sd Mt Se sQ UB Sf : Pos} {b₀ : Stmt} {HP : List Stmt} {i : Nat} {ts : TS} {C2 : Addr} {c0 c : Expr} {XF tc : TT}
end
end L2
namespace Wq
abbrev Sh:=Int×Int
noncomputable def Lw (x:Sh):Prop:=0<x.2/\Nm.g x.1 x.2=1
noncomputable def sc (L:Int) (x:Sh):Int:=x.1* (L / x.2)
theorem vm {L:Int} {x:Sh} (h:x.2∣L):sc L x*x.2=x.1*L:=by
 unfold sc
 rw[Int.mul_assoc,Int.ediv_mul_cancel h]
theorem DY {L s:Int} {x:Sh} (h:Lw x) (L0:0<L) (e:x.1*L=s*x.2):x.2∣L/\sc L x=s:=by
 have c:Int.gcd x.1 x.2=1:=by have:=h.2;unfold Nm.g at this;omega
 have d:x.2∣L:=Nm.Gf (q:=x.2) (a:=x.1) ⟨s,by rw[e,Int.mul_comm]⟩ c
 refine⟨d,?_⟩
 have:=vm d
 rw[e] at this
 exact Int.eq_of_mul_eq_mul_right (by have:=h.1;omega) this
noncomputable def low (a b:Int):Sh:=(Nm.st a b,Nm.sb a b)
theorem DZ {a b:Int} (h:0<b):Lw (low a b):=⟨Nm.Js (by omega),Nm.Jt (by omega)⟩
theorem JM {a b L s:Int} (h:0<b) (L0:0<L) (e:a*L=s*b):(low a b).2∣L/\sc L (low a b)=s:=by
 refine DY (DZ h) L0 ?_
 have c:=Nm.Dy a b
 show Nm.st a b*L=s*Nm.sb a b
 refine Int.eq_of_mul_eq_mul_right (show b≠0 by omega) ?_
 calc Nm.st a b*L*b=(Nm.st a b*b)*L:=Int.mul_right_comm ..
  _=a*Nm.sb a b*L:=by rw[c]
  _=(a*L)*Nm.sb a b:=Int.mul_right_comm ..
  _=s*b*Nm.sb a b:=by rw[e]
  _=s*Nm.sb a b*b:=Int.mul_right_comm ..
noncomputable def pl (x y:Sh):Sh:=low (x.1*y.2+y.1*x.2) (x.2*y.2)
noncomputable def tm (x y:Sh):Sh:=low (x.1*y.1) (x.2*y.2)
theorem MC {L:Int} {x y:Sh} (hx:0<x.2) (hy:0<y.2) (L0:0<L) (dx:x.2∣L) (dy:y.2∣L):Lw (pl x y)/\(pl x y).2∣L/\sc L (pl x y)=sc L x+sc L y:=by
 have e1:=vm dx
 have e2:=vm dy
 refine⟨DZ (Int.mul_pos hx hy),JM (Int.mul_pos hx hy) L0 ?_⟩
 calc (x.1*y.2+y.1*x.2)*L=(x.1*L)*y.2+ (y.1*L)*x.2:=by rw[Int.add_mul,Int.mul_right_comm,Int.mul_right_comm y.1]
  _=sc L x*x.2*y.2+sc L y*y.2*x.2:=by rw[e1,e2]
  _=(sc L x+sc L y)* (x.2*y.2):=by rw[Int.add_mul,Int.mul_assoc,Int.mul_assoc,Int.mul_comm y.2 x.2]
end Wq
namespace K79
open PySem PySem.Spec PyProof.Rows L2
set_option maxHeartbeats 4000000
local macro_rules | `(tactic| simp! only [$ls,*]) => `(tactic| simp only [↓exV, ↓exI, ↓exB, ↓exR, ↓exS, ↓exII, ↓exRI, ↓exRa, ↓exRb, L2.start, Pr, tRev, tLR, tMaxD, tSortR, tD1, tDPop1, tSl, tNoPart, tPart, rSlL, tDIn, tDNotIn, gSub, rSetL, tLst, tDNewK, tComp, L2.stC, tFor_eq, iList, iTup, iRng1, iRng2, iZip, iEnum, iDict, iStr, tChain, tSumV, tBM, rJoin, tJoined, jNil, jLit, jInt, jStr, tRaise, tDGet, tDGet2, tDGet1, sDPut, Option.join_some, List.getElem?_nil,  tSeq, tRet, tRetN, tIfS, tTest, tB, tOp, tUn, tVar, tC, tCB, tCons, tNil, tCall, tTupS, tAsg, gName, gNil, gCons, tPar, tNext, tDrop, tAnd, tOr, tNot, tAndV, tOrV, tNotV, tIf, rI, rI0, rU, rIxTH, rIxLH, rEqT, rNeT, rInT, rEq, rNe, scal_ss, scal_ii, scal_bb, scal_si, scal_is, CPow, at0, at1, at2, List.map_cons, List.map_nil, List.length_cons, List.length_nil, Nat.reduceSub, Nat.reduceAdd, Nat.zero_add, List.replicate_zero, List.reduceReplicate, List.append_nil, List.nil_append, List.cons_append, List.getElem?_cons_zero, List.getElem?_cons_succ, List.set_cons_zero, List.set_cons_succ, Option.some.injEq, exists_eq_left', exists_eq_left, V.ref.injEq, V.int.injEq, V.bl.injEq, V.str.injEq, V.ty.injEq, HO.tup.injEq, HO.lst.injEq, List.cons.injEq, and_true, true_and, and_assoc, exists_and_left, decide_eq_true_eq, Bool.not_eq_true', decide_eq_false_iff_not, ite_true, ite_false, if_true, if_false, Int.reduceToNat, eq_self_iff_true, $ls,*])
local macro_rules | `(tactic| simp_all only [$ls,*]) => `(tactic| (first | ((dsimp (config := { zetaDelta := true }) only [L2.start, Pr, tRev, tLR, tMaxD, tSortR, tD1, tDPop1, tSl, tNoPart, tPart, rSlL, tDIn, tDNotIn, gSub, rSetL, tLst, tDNewK, tComp, L2.stC, tFor_eq, iList, iTup, iRng1, iRng2, iZip, iEnum, iDict, iStr, tChain, tSumV, tBM, rJoin, tJoined, jNil, jLit, jInt, jStr, tRaise, tDGet, tDGet2, tDGet1, sDPut, tSeq, tRet, tRetN, tIfS, tTest, tB, tOp, tUn, tVar, tC, tCB, tCons, tNil, tCall, tTupS, tAsg, gName, gNil, gCons, tPar, tNext, tDrop, tAnd, tOr, tNot, tAndV, tOrV, tNotV, tIf, rI, rI0, rU, rIxTH, rIxLH, rEqT, rNeT, rInT, rEq, rNe, scal_ss, scal_ii, scal_bb, scal_si, scal_is, CPow, List.getElem?_cons_zero, List.getElem?_cons_succ, List.set_cons_zero, List.set_cons_succ]); try simp! only [$ls,*]) | simp! only [$ls,*]))
seal L2.PE L2.PT L2.PW L2.PA L2.PS L2.yR L2.PG L2.Lq L2.PI L2.Jz L2.PO L2.jo L2.NV L2.cX L2.Fy L2.NX L2.IY L2.Je
theorem au {P:Program} {w:World}:vd (bg P w):=AM P w
set_option genInjectivity false in
set_option genSizeOf false in
structure Txt (K:PySem.W.Frag) (mg:Str->Option Value) (aE aF aB aH af av:Addr):Prop where
 z_abs:mg "abs"=none
 z_bool:mg "bool"=none
 z_enumerate:mg "enumerate"=none
 z_int:mg "int"=none
 z_isinstance:mg "isinstance"=none
 z_len:mg "len"=none
 z_list:mg "list"=none
 z_max:mg "max"=none
 z_min:mg "min"=none
 z_range:mg "range"=none
 z_sorted:mg "sorted"=none
 z_str:mg "str"=none
 z_sum:mg "sum"=none
 zF:Dn K mg "is_whole" (top 7)
 nM:Dn K mg "common_divisor" (top 8)
 GF:Dn K mg "share" (top 9)
 JN:Dn K mg "plus" (top 10)
 kC:Dn K mg "table_by_weights" (top 12)
 zG:Dn K mg "table_of" (top 13)
 GG:Dn K mg "power" (top 17)
 vn:Dn K mg "most_faces" (top 18)
 tj:Dn K mg "part_bottom" (top 19)
 vo:Dn K mg "part_count" (top 20)
 vp:Dn K mg "check_size" (top 21)
 vq:Dn K mg "dice_faces" (top 22)
 tq:Dn K mg "again_faces" (top 23)
 tz:Dn K mg "burst_faces" (top 24)
 vt:Dn K mg "part_faces" (top 25)
 zH:Dn K mg "value_of" (top 26)
 pj:Dn K mg "sides_product" (top 27)
 tD:Dn K mg "part_throws" (top 28)
 kD:Dn K mg "throws_by_bottom" (top 29)
 vv:Dn K mg "pool_table" (top 30)
 zI:Dn K mg "own_rows" (top 32)
 zJ:Dn K mg "own_what" (top 33)
 xA:Dn K mg "_law_cell" (top 39)
 vx:Dn K mg "_law_mixed" (top 40)
 zL:Dn K mg "_law_low" (top 41)
 xB:Dn K mg "_law_plus" (top 42)
 vy:Dn K mg "_law_words" (top 44)
 vz:Dn K mg "_law_deeds" (top 45)
 vA:Dn K mg "_law_throw" (top 46)
 xC:Dn K mg "_law_pick" (top 47)
 xD:Dn K mg "_law_game" (top 48)
 tE:Dn K mg "_law_values" (top 49)
 xE:Dn K mg "_law_what" (top 50)
 tF:Dn K mg "_law_number" (top 51)
 qL:Dn K mg "_law_arrived" (top 52)
 xF:Dn K mg "_law_done" (top 53)
 lX:Dn K mg "_law_holds_when" (top 54)
 xG:Dn K mg "_law_open" (top 55)
 xH:Dn K mg "_law_gone" (top 56)
 xI:Dn K mg "_law_paid" (top 57)
 tG:Dn K mg "_law_points" (top 58)
 xJ:Dn K mg "_law_same" (top 59)
 xK:Dn K mg "_law_step" (top 60)
 c_MOST_THROWS:∃t,mg "MOST_THROWS"=some (.int 1296 t)
 c_MOST_BOTTOM:∃t,mg "MOST_BOTTOM"=some (.int 1000000 t)
 c_MOST_STEPS:∃t,mg "MOST_STEPS"=some (.int 200 t)
 k_NoShare:mg "NoShare"=some (.ref aE)
 k_NoTable:mg "NoTable"=some (.ref aF)
 k_TooMany:mg "TooMany"=some (.ref aB)
 k_NoStep:mg "NoStep"=some (.ref aH)
 k_Course:mg "Course"=some (.ref af)
 k_Play:mg "Play"=some (.ref av)
 x_NoShare:PySem.W.excIn K aE vf lO=true
 x_NoTable:PySem.W.excIn K aF vf lO=true
 x_TooMany:PySem.W.excIn K aB vf lO=true
 x_NoStep:PySem.W.excIn K aH vf lO=true
 aP:AE K af
 a4:AE K av
 na_Course_first:PySem.W.findIn K (.ref af) "first"=some none
 na_Course_mosts:PySem.W.findIn K (.ref af) "mosts"=some none
 na_Course_spots:PySem.W.findIn K (.ref af) "spots"=some none
 na_Course_tables:PySem.W.findIn K (.ref af) "tables"=some none
 na_Course_whats:PySem.W.findIn K (.ref af) "whats"=some none
 na_Play_course:PySem.W.findIn K (.ref av) "course"=some none
 na_Play_paid:PySem.W.findIn K (.ref av) "paid"=some none
 na_Play_state:PySem.W.findIn K (.ref av) "state"=some none
 na_Play_trail:PySem.W.findIn K (.ref av) "trail"=some none
 Cj:N9 K mg "Course" "Course.__init__" (inClass (top 34) 0) af
 GH:N9 K mg "Play" "Play.__init__" (inClass (top 37) 0) av
 pk:sN K af "asked" "Course.asked" (inClass (top 34) 3)
 nN:sN K af "by_row" "Course.by_row" (inClass (top 34) 6)
 kG:sN K af "by_value" "Course.by_value" (inClass (top 34) 7)
 vB:sN K af "do" "Course.do" (inClass (top 34) 2)
 js:sN K af "end_worth" "Course.end_worth" (inClass (top 34) 12)
 pq:sN K af "holds" "Course.holds" (inClass (top 34) 9)
 jt:sN K af "open_rows" "Course.open_rows" (inClass (top 34) 10)
 tH:sN K af "put" "Course.put" (inClass (top 34) 1)
 pz:sN K af "start" "Course.start" (inClass (top 34) 4)
 kI:sN K af "table_at" "Course.table_at" (inClass (top 34) 8)
 lY:sN K af "what_at" "Course.what_at" (inClass (top 34) 5)
 kJ:sN K af "words_at" "Course.words_at" (inClass (top 34) 11)
 vC:sN K av "back" "Play.back" (inClass (top 37) 7)
 zM:sN K av "go" "Play.go" (inClass (top 37) 4)
 lZ:sN K av "open_ways" "Play.open_ways" (inClass (top 37) 3)
 qM:sN K av "points" "Play.points" (inClass (top 37) 2)
 xM:sN K av "say" "Play.say" (inClass (top 37) 5)
 tI:sN K av "shown" "Play.shown" (inClass (top 37) 8)
 qN:sN K av "stands" "Play.stands" (inClass (top 37) 1)
 tJ:sN K av "throw" "Play.throw" (inClass (top 37) 6)
noncomputable def fX (K:PySem.W.Frag) (x q:Str) (st:Stmt):Prop:=∃f oc od sl kV dc pm an cd ct,PySem.W.nsIn K mainGlobals x=some (some (.ref f))/\K.lookup f=some ⟨oc,od,.func (PySem.W.fnOf q q (br st) (bo st) (ar st) .none kV dc pm an cd ct),sl⟩/\PySem.W.codeIn K cd q=true/\PySem.W.keepIn K (.ref f)=true
theorem UC {K:PySem.W.Frag} {x q:Str} {st:Stmt} {f:Addr} {od an:Option Addr} {sl:Array (Option Value)} {oc kV dc pm cd ct:Value} (a:PySem.W.nsIn K mainGlobals x=some (some (.ref f))) (l:K.lookup f=some ⟨oc,od,.func (PySem.W.fnOf q q (br st) (bo st) (ar st) .none kV dc pm an cd ct),sl⟩) (e:PySem.W.codeIn K cd q=true) (k:PySem.W.keepIn K (.ref f)=true):fX K x q st:=⟨_,_,_,_,_,_,_,_,_,_,a,l,e,k⟩
theorem fX.dn {K:PySem.W.Frag} {h:Heap} {mg:Str->Option Value} {x:Str} {st:Stmt} (F:fX K x x st) (X:K.In h) (G:h.Ns mainGlobals mg):Dn K mg x st:=by
 obtain⟨_,_,_,_,_,_,_,_,_,_,a,l,e,k⟩:=F
 exact⟨_,_,cu l e k,Y1 X G a⟩
theorem Pk {C:List Value->Prop} (k:C []):∀us:List Value,us.length=0->C us:=λus h=>by
 cases us with
 | nil=>exact k
 | cons a us=>cases h
theorem GI {C:List Value->Prop} {n:Nat} (k:∀a (us:List Value),us.length=n->C (a::us)):∀us:List Value,us.length=n+1->C us:=λus h=>by
 cases us with
 | nil=>cases h
 | cons a us=>exact k a us (Nat.succ.inj h)
theorem gJ {C:List Value->Prop} (k:∀a,C [a]):∀us:List Value,us.length=1->C us:=GI λa=>Pk (C:=λus=>C (a::us)) (k a)
theorem eD {C:List Value->Prop} (k:∀a b,C [a,b]):∀us:List Value,us.length=2->C us:=GI λa=>gJ (C:=λus=>C (a::us)) (k a)
theorem tK {C:List Value->Prop} (k:∀a b c,C [a,b,c]):∀us:List Value,us.length=3->C us:=GI λa=>eD (C:=λus=>C (a::us)) (k a)
theorem tM {C:List Value->Prop} (k:∀a b c d,C [a,b,c,d]):∀us:List Value,us.length=4->C us:=GI λa=>tK (C:=λus=>C (a::us)) (k a)
noncomputable def Al {α:Type} (R:α->V->Prop):List α->List V->Prop
 | [],[]=>True
 | a::as,v::vs=>R a v/\Al R as vs
 | _,_=>False
theorem Al.length {α:Type} {R:α->V->Prop}:∀{as:List α} {vs:List V},Al R as vs->vs.length=as.length
 | [],[],_=>rfl
 | a::as,v::vs,h=>by simp [Al.length h.2]
theorem Al.imp {α:Type} {R S:α->V->Prop} (f:∀a v,R a v->S a v):∀{as:List α} {vs:List V},Al R as vs->Al S as vs
 | [],[],_=>trivial
 | a::as,v::vs,h=>⟨f _ _ h.1,Al.imp f h.2⟩
theorem Al.append {α:Type} {R:α->V->Prop}:∀{as bs:List α} {us vs:List V},Al R as us->Al R bs vs->Al R (as++bs) (us++vs)
 | [],_,[],_,_,k=>k
 | a::as,_,v::vs,_,h,k=>⟨h.1,Al.append h.2 k⟩
theorem Al.one {α:Type} {R:α->V->Prop} {a:α} {v:V} (h:R a v):Al R [a] [v]:=⟨h,trivial⟩
theorem Al.get {α:Type} {R:α->V->Prop}:∀{as:List α} {vs:List V} {i:Nat} {v:V},Al R as vs->vs[i]?=some v->∃a,as[i]?=some a/\R a v:=by
 intro as
 induction as with
 | nil=>
  intro vs i v h e
  cases vs with
  | nil=>simp at e
  | cons u vs=>exact h.elim
 | cons a as ih=>
  intro vs i v h e
  cases vs with
  | nil=>exact h.elim
  | cons u vs=>
   cases i with
   | zero=>cases e;exact⟨a,rfl,h.1⟩
   | succ i=>exact ih (vs:=vs) (i:=i) h.2 e
theorem Al.at {α:Type} {R:α->V->Prop}:∀{as:List α} {vs:List V} {i:Nat} {a:α},Al R as vs->as[i]?=some a->∃v,vs[i]?=some v/\R a v:=by
 intro as
 induction as with
 | nil=>
  intro vs i v h e
  simp at e
 | cons a as ih=>
  intro vs i v h e
  cases vs with
  | nil=>exact h.elim
  | cons u vs=>
   cases i with
   | zero=>cases e;exact⟨u,rfl,h.1⟩
   | succ i=>exact ih (vs:=vs) (i:=i) h.2 e
theorem Al.of {α:Type} {R:α->V->Prop}:∀{as:List α} {vs:List V},vs.length=as.length->(∀(i:Nat) v a,vs[i]?=some v->as[i]?=some a->R a v)->Al R as vs
 | [],[],_,_=>trivial
 | [],_::_,l,_=>by simp at l
 | _::_,[],l,_=>by simp at l
 | a::as,u::vs,l,h=>⟨h 0 u a rfl rfl,Al.of (by simpa using l) λi v b e1 e2=>h (i+1) v b (by simpa using e1) (by simpa using e2)⟩
noncomputable def JO:Sp:=λvs H Q _=>∃a b,vs=[.int a,.int b]/\Q (.int (Nm.g a b)) H
noncomputable def D0 (qn:Addr):Sp:=λvs H Q E=>∃a b,vs=[.int a,.int b]/\Bt 5000 b/\(b=0->E (.ref qn) none H)/\(b≠0->∀p H',aD H H'->H p=none->H' p=some (.tup (Pr (Nm.st a b) (Nm.sb a b)))->Q (.ref p) H')
noncomputable def GJ:Sp:=λvs H Q _=>∃d B ws,vs=[.ref d,.int B]/\H d=some (.dK (enc ws))/\(Nm.keys ws).Nodup/\ws.length<64/\B≠0/\Bt 5000 B/\∀p H',aD H H'->H p=none->Rep H' (lU (Nm.rowsOf ws B)) (.ref p)->Q (.ref p) H'
noncomputable def JP (qt:Addr):Sp:=λvs H Q E=>∃v ps,vs=[v]/\Rep H (DM ps) v/\ps.length<=1296/\(∀p∈ps,p.2<=10^12)/\(Nm.jW ps).length<64/\
 (Nm.bad ps->∀H',aD H H'->E (.ref qt) none H')/\
 (¬Nm.bad ps->∀p H',aD H H'->H p=none->Rep H' (lU (Nm.rowsOf (Nm.jW ps) (Nm.qy (Nm.jW ps)))) (.ref p)->Q (.ref p) H')
noncomputable def GK (s:Nat):Nat->List (List Int)
 | 0=>[[]]
 | d+1=>(GK s d).flatMap λf=>(List.range s).map λi:Nat=>f++ [((i:Nat):Int)+1]
theorem pZ (s:Nat):∀d,(GK s d).length=s^d
 | 0=>rfl
 | d+1=>by
  have h:∀l:List (List Int),(l.flatMap λf=>(List.range s).map λi:Nat=>f++ [((i:Nat):Int)+1]).length=l.length*s:=by
   intro l
   induction l with
   | nil=>simp
   | cons a r ih=>rw[List.flatMap_cons,Yy,ih,Yr,Y0,YC,Nat.succ_mul,Nat.add_comm]
  rw[GK,h,pZ s d,Nat.pow_succ]
theorem vD (s:Nat):∀d,∀f∈GK s d,f.length=d/\∀x∈f,1<=x/\x<=(s:Int)
 | 0,f,h=>by
  rw[List.mem_singleton.mp h]
  exact⟨rfl,by simp⟩
 | d+1,f,h=>by
  obtain⟨g,hg,hf⟩:=List.mem_flatMap.mp h
  obtain⟨i,hi,rfl⟩:=List.mem_map.mp hf
  obtain⟨l,k⟩:=vD s d g hg
  have:=List.mem_range.mp hi
  refine⟨by rw[Yy,l];rfl,λx hx=>?_⟩
  rcases List.mem_append.mp hx with h | h
  ·exact k x h
  ·rw[List.mem_singleton.mp h];omega
noncomputable def Lt (f g:List Int):Prop:=HS f g=false
inductive Pt
 | num (n:Nat)
 | cO (m s:Nat)
noncomputable def tN:Pt->List V
 | .num n=>[.str (Str.ofString "number"),.int (n:Int)]
 | .cO m s=>[.str (Str.ofString "dice"),.int (m:Int),.int (s:Int)]
noncomputable def vE:Pt->Dat
 | .num n=>.tup [.str (Str.ofString "number"),.int (n:Int)]
 | .cO m s=>.tup [.str (Str.ofString "dice"),.int (m:Int),.int (s:Int)]
noncomputable def lst:Pt->Nat
 | .num n=>n
 | .cO _ s=>s
noncomputable def sd:Pt->Nat
 | .num _=>1
 | p=>lst p
noncomputable def HV:Pt->Nat
 | .num _=>0
 | .cO m _=>m
noncomputable def bot (p:Pt):Nat:=sd p^HV p
noncomputable def cnt:Pt->Nat
 | .num _=>1
 | p=>bot p
noncomputable def GL:Pt->List (List Int)
 | .num _=>[[]]
 | .cO m s=>GK s m
noncomputable def val:Pt->List Int->Int
 | .num n,_=>n
 | .cO _ _,f=>f.sum
noncomputable def d8:Pt->Prop
 | .num n=>n<=99
 | .cO m s=>1<=s/\s<=20/\m<=6
theorem vF {p:Pt} (g:d8 p):1<=sd p/\sd p<=20:=by
 cases p <;>simp only[sd,lst,d8] at *<;>omega
theorem JQ {p:Pt} (g:d8 p):lst p<=99:=by
 cases p <;>simp only[lst,d8] at *<;>omega
theorem qO {p:Pt} (g:d8 p):HV p<=7:=by
 cases p <;>simp only[HV,d8] at *<;>(try split) <;>omega
theorem Ck {s e:Nat} (hs:s<=20) (he:e<=10):s^e<=10240000000000:=
 YB (Nat.pow_le_pow_left hs e) (YB (Nat.pow_le_pow_right (by decide) he) (by decide))
theorem l8 (p:Pt):(GL p).length=cnt p:=by
 cases p with
 | num n=>rfl
 | cO m s=>exact pZ s m
theorem ma {p:Pt} (g:d8 p):∀f∈GL p,(∀x∈f,1<=x/\x<=(lst p:Int))/\f.length<=HV p:=by
 intro f hf
 cases p with
 | num n=>rw[List.mem_singleton.mp hf];simp
 | cO m s=>obtain⟨a,b⟩:=vD s m f hf;exact⟨b,Nat.le_of_eq a⟩
theorem GN {p:Pt} (g:d8 p) {f:List Int} (hf:f∈GL p):1<=sd p^f.length/\sd p^f.length<=bot p:=
 ⟨Nat.pow_pos (vF g).1,Nat.pow_le_pow_right (vF g).1 (ma g f hf).2⟩
abbrev Row:=List Int×Int×Nat
noncomputable def FA (p:Pt):List Row:=(GL p).map λf=>(f,val p f,sd p^f.length)
noncomputable def uK (rs:List Row) (p:Pt):List Row:=rs.flatMap λr=>(FA p).map λq=>(r.1++q.1,r.2.1+q.2.1,r.2.2*q.2.2)
noncomputable def d7 (ps:List Pt):List Row:=ps.foldl uK [([],0,1)]
theorem qQ (ps:List Pt) (p:Pt):d7 (ps++ [p])=uK (d7 ps) p:=by unfold d7;rw[List.foldl_append];rfl
noncomputable def iF:List Nat->Nat
 | []=>1
 | a::r=>a*iF r
theorem gK (l:List Nat) (a:Nat):iF (l++ [a])=iF l*a:=by
 induction l with
 | nil=>simp [iF]
 | cons b r ih=>simp only[Y5,iF,ih,Nat.mul_assoc]
theorem A4 {l:List Nat} (h:∀a∈l,1<=a):1<=iF l:=by
 induction l with
 | nil=>simp [iF]
 | cons b r ih=>
  have h1:=h b (by simp)
  have h2:=ih λa ha=>h a (Yz _ ha)
  exact Nat.mul_le_mul h1 h2
theorem xN {l:List Nat} (h:∀a∈l,1<=a):∀i,iF (l.take i)<=iF l:=by
 induction l with
 | nil=>intro i;simp
 | cons b r ih=>
  intro i
  have h1:=h b (by simp)
  have h0:∀a∈r,1<=a:=λa ha=>h a (Yz _ ha)
  cases i with
  | zero=>exact Nat.mul_le_mul h1 (A4 h0)
  | succ i=>exact Nat.mul_le_mul (Yt _) (ih h0 i)
theorem GO (rs:List Row) (p:Pt):(uK rs p).length=rs.length*cnt p:=by
 unfold uK
 induction rs with
 | nil=>simp
 | cons r t ih=>
  rw[List.flatMap_cons,Yy,ih,Yr,YC,Nat.succ_mul]
  unfold FA
  rw[Yr,l8]
  omega
theorem take_snoc {α:Type} {l:List α} {i:Nat} (h:i<l.length):l.take (i+1)=l.take i++ [l[i]]:=by
 rw[YS,Yw h]
 rfl
theorem p3 (ps:List Pt):(d7 ps).length=iF (ps.map cnt):=by
 have:∀i,i<=ps.length->(d7 (ps.take i)).length=iF ((ps.take i).map cnt):=by
  intro i
  induction i with
  | zero=>intro _;rfl
  | succ i ih=>
   intro h
   rw[take_snoc (by omega),qQ,GO,ih (by omega),Yx,Ys,YX,gK]
 have:=this ps.length (Yt _)
 rwa [YG (Yt _)] at this
theorem pW {p:Pt} (g:d8 p):1<=cnt p:=by
 cases p with
 | num n=>simp [cnt]
 | cO m s=>exact Nat.pow_pos g.1
theorem A5 {p:Pt} (g:d8 p):1<=bot p:=Nat.pow_pos (vF g).1
noncomputable def uL (ps:List Pt):Prop:=(∀p∈ps,d8 p)/\iF (ps.map cnt)<=1296/\iF (ps.map bot)<=1000000
theorem nO {ps:List Pt} (g:uL ps) (i:Nat):iF ((ps.take i).map cnt)<=1296:=by
 rw[List.map_take]
 exact YB (xN (λa ha=>by obtain⟨p,hp,rfl⟩:=List.mem_map.mp ha;exact pW (g.1 p hp)) i) g.2.1
theorem nP {ps:List Pt} (g:uL ps) (i:Nat):iF ((ps.take i).map bot)<=1000000:=by
 rw[List.map_take]
 exact YB (xN (λa ha=>by obtain⟨p,hp,rfl⟩:=List.mem_map.mp ha;exact A5 (g.1 p hp)) i) g.2.2
theorem A6 {l:List Nat} (h:∀a∈l,1<=a):∀a∈l,a<=iF l:=by
 induction l with
 | nil=>intro a ha;cases ha
 | cons b r ih=>
  intro a ha
  have h1:=h b (by simp)
  have h0:∀a∈r,1<=a:=λa ha=>h a (Yz _ ha)
  rw[iF]
  rcases List.mem_cons.mp ha with rfl | ha
  ·have:=Nat.mul_le_mul (Yt a) (A4 h0)
   omega
  ·have:=Nat.mul_le_mul h1 (ih h0 a ha)
   omega
theorem nQ {ps:List Pt} (g:uL ps) {p:Pt} (hp:p∈ps):d8 p/\cnt p<=1296/\bot p<=1000000:=
 ⟨g.1 p hp,YB (A6 (λa ha=>by obtain⟨p,hp,rfl⟩:=List.mem_map.mp ha;exact pW (g.1 p hp)) _ (List.mem_map_of_mem hp)) g.2.1,
  YB (A6 (λa ha=>by obtain⟨p,hp,rfl⟩:=List.mem_map.mp ha;exact A5 (g.1 p hp)) _ (List.mem_map_of_mem hp)) g.2.2⟩
theorem A7 {ps:List Pt} (g:∀p∈ps,d8 p):∀i,i<=ps.length->∀r∈d7 (ps.take i),r.1.length<=7*i/\1<=r.2.2/\r.2.2<=iF ((ps.take i).map bot):=by
 intro i
 induction i with
 | zero=>intro _ r hr;rw[List.mem_singleton.mp hr];simp [iF]
 | succ i ih=>
  intro h r hr
  rw[take_snoc (by omega),qQ] at hr
  obtain⟨r0,h0,hr⟩:=List.mem_flatMap.mp hr
  obtain⟨q,hq,rfl⟩:=List.mem_map.mp hr
  obtain⟨f,hf,rfl⟩:=List.mem_map.mp hq
  obtain⟨a,b,c⟩:=ih (by omega) r0 h0
  have gp:=g _ (YV (show i<ps.length by omega))
  obtain⟨d,e⟩:=GN gp hf
  have l:=(ma gp f hf).2
  have m:=qO gp
  rw[take_snoc (by omega),Yx,Ys,YX,gK]
  refine⟨by rw[Yy];show r0.1.length+f.length<=_;omega,Nat.mul_le_mul b d,Nat.mul_le_mul c e⟩
noncomputable def Fa (H:Hp) (f:List Int) (v:V):Prop:=∃q,v=.ref q/\H q=some (.lst (List.map V.int f))
theorem Fa.mono {H H':Hp} {f:List Int} {v:V} (s:aD H H'):Fa H f v->Fa H' f v:=fun⟨q,e,h⟩=>⟨q,e,s _ _ h⟩
noncomputable def TR (G H:Hp) (r:Row) (v:V):Prop:=∃a q,v=.ref a/\H a=some (.tup [.ref q,.int r.2.1,.int (r.2.2:Int)])/\H q=some (.lst (List.map V.int r.1))/\G q=none
theorem TR.mono {G H H':Hp} {r:Row} {v:V} (s:aD H H'):TR G H r v->TR G H' r v:=fun⟨a,q,e,h,k,n⟩=>⟨a,q,e,s _ _ h,s _ _ k,n⟩
noncomputable def JR (H:Hp) (l:Addr) (ps:List Pt):Prop:=∃xs,H l=some (.lst xs)/\Al (λp v=>∃q,v=.ref q/\H q=some (.tup (tN p))) ps xs
theorem JR.mono {H H':Hp} {l:Addr} {ps:List Pt} (s:aD H H'):JR H l ps->JR H' l ps:=fun⟨xs,h,a⟩=>⟨xs,s _ _ h,a.imp λ_ _ ⟨q,e,k⟩=>⟨q,e,s _ _ k⟩⟩
theorem A8 {H:Hp} {p:Addr} {o:HO}:cE (upd H p o) p=cE H p:=by
 funext a
 unfold cE
 by_cases c:a=p
 ·rw[if_pos c,if_pos c]
 ·rw[if_neg c,if_neg c,aw c]
theorem D1 (p:Pt):lJ (tN p) (-1)=some (.int (lst p:Int)):=by cases p <;>rfl
noncomputable def kd:Pt->Str
 | .num _=>Str.ofString "number"
 | .cO _ _=>Str.ofString "dice"
noncomputable def JS:Sp:=λvs H Q _=>∃b e:Nat,vs=[.int (b:Int),.int (e:Int)]/\(1<=b\/e=0)/\e<=10/\b^e<=1000000/\Q (.int ((b^e:Nat):Int)) H
noncomputable def D2:Sp:=λvs H Q _=>∃q p,vs=[.ref q]/\H q=some (.tup (tN p))/\Q (.int (HV p:Int)) H
noncomputable def xO:Sp:=λvs H Q _=>∃q p,vs=[.ref q]/\H q=some (.tup (tN p))/\d8 p/\bot p<=1000000/\Q (.int (bot p:Int)) H
noncomputable def JT:Sp:=λvs H Q _=>∃q p,vs=[.ref q]/\H q=some (.tup (tN p))/\d8 p/\bot p<=1000000/\Q (.int (cnt p:Int)) H
noncomputable def JU:Sp:=λvs H Q _=>∃l ps,vs=[.ref l]/\JR H l ps/\uL ps/\Q .cP H
noncomputable def JV:Sp:=λvs H Q _=>∃d s:Nat,vs=[.int (d:Int),.int (s:Int)]/\1<=s/\s<=20/\d<=6/\s^d<=1296/\∀l H' xs,aD H H'->H' l=some (.lst xs)->Al (Fa H') (GK s d) xs->Q (.ref l) H'
noncomputable def JW:Sp:=λvs H Q _=>∃q p,vs=[.ref q]/\H q=some (.tup (tN p))/\d8 p/\cnt p<=1296/\∀l H' xs,aD H H'->H' l=some (.lst xs)->Al (Fa H') (GL p) xs->Q (.ref l) H'
noncomputable def JX:Sp:=λvs H Q _=>∃q p l f,vs=[.ref q,.ref l]/\H q=some (.tup (tN p))/\H l=some (.lst (List.map V.int f))/\d8 p/\f∈GL p/\∀H',aD H H'->Q (.int (val p f)) H'
noncomputable def JY:Sp:=λvs H Q _=>∃q p l f,vs=[.ref q,.ref l]/\H q=some (.tup (tN p))/\H l=some (.lst (List.map V.int f))/\d8 p/\f∈GL p/\Q (.int ((sd p^f.length:Nat):Int)) H
noncomputable def JZ:Sp:=λvs H Q _=>∃q p,vs=[.ref q]/\H q=some (.tup (tN p))/\d8 p/\cnt p<=1296/\∀l H' xs,aD H H'->H' l=some (.lst xs)->Al (TR (λ_=>none) H') (FA p) xs->Q (.ref l) H'
noncomputable def J0:Sp:=λvs H Q _=>∃a ps,vs=[.ref a]/\JR H a ps/\uL ps/\ps.length<=4/\∀l H' xs,aD H H'->H' l=some (.lst xs)->Al (TR H H') (d7 ps) xs->Q (.ref l) H'
noncomputable def GP:Sp:=λ_ _ _ _=>False
noncomputable def D3:List (Nat×Nat):=[(1,2),(1,3),(1,4),(1,5),(1,6),(2,2),(2,3),(2,4),(2,5),(2,6)]
noncomputable def HW:List (List Pt):=D3.flatMap λx=>[.cO x.1 x.2]::(List.range 100).map λm=>[.cO x.1 x.2,.num m]
noncomputable def GQ (C:Nat) (rs:List Row):Nm.Ws:=rs.map λr=>(r.2.1,((C / r.2.2:Nat):Int))
noncomputable def A9 (ps:List Pt):Nm.Ws:=GQ (iF (ps.map bot)) (d7 ps)
noncomputable def md (ps:List Pt):List (Int×Int×Int):=Nm.rowsOf (Nm.jW (A9 ps)) (Nm.qy (Nm.jW (A9 ps)))
noncomputable def oS (ps:List Pt):Prop:=ps∈HW
noncomputable def HX (ps:List Pt):Int:=(iF (ps.map bot):Int)
noncomputable def iG:List Pt->List Int
 | [.cO k s]=>(List.range (k*s - k+1)).map λi:Nat=>(k:Int)+ (i:Int)
 | [.cO k s,.num m]=>(List.range (k*s - k+1)).map λi:Nat=>(k:Int)+ (m:Int)+ (i:Int)
 | _=>[]
theorem me {ps:List Pt} (g:ps∈HW):∃k s,(k,s)∈D3/\(ps=[.cO k s]\/∃m,m<100/\ps=[.cO k s,.num m]):=by
 obtain⟨⟨k,s⟩,hx,h⟩:=List.mem_flatMap.mp g
 refine⟨k,s,hx,?_⟩
 rcases List.mem_cons.mp h with h | h
 ·exact .inl h
 ·obtain⟨m,hm,rfl⟩:=List.mem_map.mp h
  exact .inr ⟨m,List.mem_range.mp hm,rfl⟩
noncomputable def tO (x:Nat×Nat):List (List Pt):=[.cO x.1 x.2]::(List.range 100).map λm=>[.cO x.1 x.2,.num m]
theorem D4 {ps:List Pt} (h:ps∈HW):∃x∈D3,ps∈tO x:=by
 obtain⟨x,hx,h⟩:=List.mem_flatMap.mp h
 exact⟨x,hx,h⟩
abbrev FC (ps:List Pt):Prop:=(∀x∈A9 ps,0<x.2/\x.2<=10^12)/\(A9 ps).length<=1296/\(Nm.jW (A9 ps)).length<64/\Nm.pos (A9 ps)≠[]/\iF (ps.map cnt)<=1296/\iF (ps.map bot)<=1000000
abbrev FD (ps:List Pt):Prop:=(0<HX ps/\HX ps<=1000000/\(md ps).length<=1296/\∀r∈md ps,0<r.2.2/\r.2.2∣HX ps/\0<=r.2.1/\r.2.1<=HX ps)/\(md ps).map (·.1)=iG ps
theorem Pm:∀ps∈tO (1,2),FC ps:=by decide +kernel
theorem Pn:∀ps∈tO (1,2),FD ps:=by decide +kernel
theorem Po:∀ps∈tO (1,3),FC ps:=by decide +kernel
theorem Pp:∀ps∈tO (1,3),FD ps:=by decide +kernel
theorem Pq:∀ps∈tO (1,4),FC ps:=by decide +kernel
theorem Pu:∀ps∈tO (1,4),FD ps:=by decide +kernel
theorem Pw:∀ps∈tO (1,5),FC ps:=by decide +kernel
theorem Px:∀ps∈tO (1,5),FD ps:=by decide +kernel
theorem Py:∀ps∈tO (1,6),FC ps:=by decide +kernel
theorem Pz:∀ps∈tO (1,6),FD ps:=by decide +kernel
theorem PB:∀ps∈tO (2,2),FC ps:=by decide +kernel
theorem PD:∀ps∈tO (2,2),FD ps:=by decide +kernel
theorem PF:∀ps∈tO (2,3),FC ps:=by decide +kernel
theorem PJ:∀ps∈tO (2,3),FD ps:=by decide +kernel
theorem PK:∀ps∈tO (2,4),FC ps:=by decide +kernel
theorem PL:∀ps∈tO (2,4),FD ps:=by decide +kernel
theorem PM:∀ps∈tO (2,5),FC ps:=by decide +kernel
theorem PN:∀ps∈tO (2,5),FD ps:=by decide +kernel
theorem PQ:∀ps∈tO (2,6),FC ps:=by decide +kernel
theorem PR:∀ps∈tO (2,6),FD ps:=by decide +kernel
theorem vG:∀ps∈HW,(∀x∈A9 ps,0<x.2/\x.2<=10^12)/\(A9 ps).length<=1296/\(Nm.jW (A9 ps)).length<64/\Nm.pos (A9 ps)≠[]/\iF (ps.map cnt)<=1296/\iF (ps.map bot)<=1000000:=λps h=>by
 obtain⟨x,hx,h⟩:=D4 h
 simp only[D3,YR,Zd,or_false] at hx
 rcases hx with rfl | rfl | rfl | rfl | rfl | rfl | rfl | rfl | rfl | rfl
 ·exact Pm ps h
 ·exact Po ps h
 ·exact Pq ps h
 ·exact Pw ps h
 ·exact Py ps h
 ·exact PB ps h
 ·exact PF ps h
 ·exact PK ps h
 ·exact PM ps h
 ·exact PQ ps h
theorem Ba:∀ps∈HW,(0<HX ps/\HX ps<=1000000/\(md ps).length<=1296/\∀r∈md ps,0<r.2.2/\r.2.2∣HX ps/\0<=r.2.1/\r.2.1<=HX ps)/\(md ps).map (·.1)=iG ps:=λps h=>by
 obtain⟨x,hx,h⟩:=D4 h
 simp only[D3,YR,Zd,or_false] at hx
 rcases hx with rfl | rfl | rfl | rfl | rfl | rfl | rfl | rfl | rfl | rfl
 ·exact Pn ps h
 ·exact Pp ps h
 ·exact Pu ps h
 ·exact Px ps h
 ·exact Pz ps h
 ·exact PD ps h
 ·exact PJ ps h
 ·exact PL ps h
 ·exact PN ps h
 ·exact PR ps h
theorem xP {ps:List Pt} (g:ps∈HW):uL ps:=by
 have h:=(vG ps g).2.2.2.2
 refine⟨λp hp=>?_,h.1,h.2⟩
 have d:∀x∈D3,1<=x.2/\x.2<=20/\x.1<=6:=by decide
 obtain⟨k,s,hd,e | ⟨m,hm,e⟩⟩:=me g
 ·rw[e,List.mem_singleton] at hp
  rw[hp]
  exact d _ hd
 ·rw[e,YR,List.mem_singleton] at hp
  rcases hp with rfl | rfl
  ·exact d _ hd
  ·show m<=99;omega
theorem J1 {ps:List Pt} (g:oS ps):¬Nm.bad (A9 ps):=λb=>by
 obtain⟨h1,_,_,h4,_⟩:=vG ps g
 rcases b with ⟨x,hx,c⟩ | c
 ·have:=h1 x hx;omega
 ·exact h4 c
theorem GR {p q:Pt} (h:vE p=vE q):p=q:=by
 cases p <;>cases q <;>simp only[vE,Dat.tup.injEq,List.cons.injEq,Dat.str.injEq,Dat.int.injEq,and_true,Int.natCast_inj] at h <;>first | exact absurd h.1 (by decide +kernel) | (obtain⟨_,rfl⟩:=h;rfl) | (obtain⟨_,rfl,rfl⟩:=h;rfl) | (obtain⟨_,rfl,rfl,rfl⟩:=h;rfl)
noncomputable def J2:Sp:=λvs H Q _=>∃a ps,vs=[.ref a]/\JR H a ps/\oS ps/\ps.length<=4/\∀p H',aD H H'->H p=none->Rep H' (lU (md ps)) (.ref p)->Q (.ref p) H'
inductive Dd
 | set (n:Str) (k:Int)
 | plus (n:Str) (k:Int)
 | face (n:Str)
 | move (n m:Str)
noncomputable def Bb:Dd->Dat
 | .set n k=>.tup [.str (Str.ofString "set"),.str n,.int k]
 | .plus n k=>.tup [.str (Str.ofString "plus"),.str n,.int k]
 | .face n=>.tup [.str (Str.ofString "face"),.str n]
 | .move n m=>.tup [.str (Str.ofString "move"),.str n,.str m]
structure Rw where
 word:Str
 wh:Option (Str×Str×Int)
 ds:List Dd
 to:Str
noncomputable def J3:Option (Str×Str×Int)->Dat
 | none=>.cP
 | some (a,b,k)=>.tup [.str a,.str b,.int k]
abbrev R4:=Dat×Dat×List Dat×Dat
noncomputable def qR (r:R4):Dat:=.tup [r.1,r.2.1,.lst r.2.2.1,r.2.2.2]
noncomputable def GS (r:Rw):R4:=(.str r.word,J3 r.wh,r.ds.map Bb,.str r.to)
abbrev Tw:=Int×Int×List Dd×Str
noncomputable def FE (r:Tw):R4:=(.int r.1,.int r.2.1,r.2.2.1.map Bb,.str r.2.2.2)
inductive Wt
 | ask (c:Str) (k:Int) (one other:Str)
 | fin (t b:Int)
 | score (c:Str)
 | pick (AZ:Int) (rs:List Rw)
 | d7 (dD:List Dat) (t b:Int) (rs:List Tw)
noncomputable def kK:Wt->Dat
 | .ask c k a b=>.tup [.str (Str.ofString "ask"),.str c,.int k,.str a,.str b]
 | .fin t b=>.tup [.str (Str.ofString "end"),.tup [.int t,.int b]]
 | .score c=>.tup [.str (Str.ofString "score"),.str c]
 | .pick w rs=>.tup [.str (Str.ofString "pick"),.int w,.lst ((rs.map GS).map qR)]
 | .d7 dD t b rs=>.tup [.str (Str.ofString "throw"),.lst dD,.tup [.int t,.int b],.lst ((rs.map FE).map qR)]
structure Gm where
 cs:List (Str×Int)
 ps:List (Str×Wt)
noncomputable def Ob (cs:List (Str×Int)):Dat:=.lst (cs.map λc=>.tup [.str c.1,.int c.2])
noncomputable def UD (ps:List (Str×Wt)):Dat:=.lst (ps.map λp=>.tup [.str p.1,kK p.2])
noncomputable def zN (g:Gm):Dat:=.tup [Ob g.cs,UD g.ps]
noncomputable def bF (cs:List (Str×Int)) (n:Str):Nat:=(cs.map (·.1)).idxOf n
noncomputable def most (cs:List (Str×Int)) (i:Nat):Int:=(cs.map (·.2)).getD i 0
noncomputable def vH (cs:List (Str×Int)) (ns:List Int) (i:Nat) (k:Int):List Int:=ns.set i (min k (most cs i))
noncomputable def ix (cs:List (Str×Int)) (v:Int) (ns:List Int):Dd->List Int
 | .set n k=>vH cs ns (bF cs n) k
 | .plus n k=>vH cs ns (bF cs n) (ns.getD (bF cs n) 0+k)
 | .face n=>vH cs ns (bF cs n) (ns.getD (bF cs n) 0+v)
 | .move n m=>(vH cs ns (bF cs m) (ns.getD (bF cs m) 0+ns.getD (bF cs n) 0)).set (bF cs n) 0
noncomputable def fL (cs:List (Str×Int)):Dd->Prop
 | .set n _=>n∈cs.map (·.1)
 | .plus n _=>n∈cs.map (·.1)
 | .face n=>n∈cs.map (·.1)
 | .move n m=>n∈cs.map (·.1)/\m∈cs.map (·.1)
theorem fm {cs:List (Str×Int)} {n:Str} (h:n∈cs.map (·.1)):bF cs n<cs.length:=by
 have:=List.idxOf_lt_length_of_mem h
 rwa [Yr] at this
theorem iH {cs:List (Str×Int)} {ns:List Int} {i:Nat} {k:Int}:(vH cs ns i k).length=ns.length:=by unfold vH;rw[List.length_set]
theorem GU {cs:List (Str×Int)} {v:Int} {ns:List Int}:∀d:Dd,(ix cs v ns d).length=ns.length
 | .set _ _=>iH
 | .plus _ _=>iH
 | .face _=>iH
 | .move _ _=>by unfold ix;rw[List.length_set,iH]
noncomputable def look (ps:List (Str×Wt)) (n:Str):Option Wt:=(ps.find? λp=>decide (p.1=n)).map (·.2)
noncomputable def dE (g:Gm) (ns:List Int):Nat->Str->Option Str
 | 0,_=>none
 | f+1,nm=>match look g.ps nm with
  | some (.ask c k a b)=>if k<=ns.getD (bF g.cs c) 0 then dE g ns f a else dE g ns f b
  | some _=>some nm
  | none=>none
noncomputable def kL (cs:List (Str×Int)) (ns:List Int):Option (Str×Str×Int)->Bool
 | none=>true
 | some (n,x,k)=>if n∈cs.map (·.1) then (if x=Str.ofString "from" then decide (k<=ns.getD (bF cs n) 0) else decide (ns.getD (bF cs n) 0<k)) else false
noncomputable def mf (cs:List (Str×Int)):Wt->Prop
 | .ask c _ _ _=>c∈cs.map (·.1)
 | .fin _ _=>True
 | .score c=>c∈cs.map (·.1)
 | .pick _ rs=>rs.length<=100/\∀r∈rs,r.ds.length<=100/\∀d∈r.ds,fL cs d
 | .d7 dD _ _ rs=>dD.length<=100/\rs.length<=100/\∀r∈rs,r.2.2.1.length<=100/\∀d∈r.2.2.1,fL cs d
structure GoodG (g:Gm):Prop where
 nc:(g.cs.map (·.1)).Nodup
 np:(g.ps.map (·.1)).Nodup
 lc:g.cs.length<=100
 lp:g.ps.length<=100
 p0:0<g.ps.length
 wt:∀p∈g.ps,mf g.cs p.2
theorem cS {ps:List (Str×Wt)} {n:Str} {x:Wt} (h:look ps n=some x):(n,x)∈ps:=by
 unfold look at h
 obtain⟨p,hp,rfl⟩:=Option.map_eq_some_iff.mp h
 have e:=List.find?_some hp
 have e:p.1=n:=by simpa using e
 subst e
 exact Zo hp
noncomputable def qS:List (Str×Int)->Nat->List (Key×V)
 | [],_=>[]
 | c::cs,i=>(Sum.inr c.1,V.int (i:Int))::qS cs (i+1)
theorem Bc:∀(cs:List (Str×Int)) (i:Nat),(qS cs i).length=cs.length
 | [],_=>rfl
 | _::cs,i=>by rw[qS,YC,Bc cs,YC]
theorem xQ (c:Str×Int):∀(cs:List (Str×Int)) (i:Nat),qS (cs++ [c]) i=qS cs i++ [(Sum.inr c.1,V.int ((i+cs.length:Nat):Int))]
 | [],i=>rfl
 | d::cs,i=>by
  rw[Y5,qS,xQ c cs (i+1),qS,YC,show i+1+cs.length=i+ (cs.length+1) by omega]
  rfl
theorem Bd {n:Str}:∀{cs:List (Str×Int)} {i:Nat},n∈cs.map (·.1)->dt (qS cs i) (Sum.inr n)=some (.int ((i+bF cs n:Nat):Int))
 | [],_,h=>by simp at h
 | c::cs,i,h=>by
  rw[qS]
  by_cases e:c.1=n
  ·rw[gD (by rw[e])]
   have:bF (c::cs) n=0:=by unfold bF;rw[Ys,e,List.idxOf_cons_self]
   rw[this]
   rfl
  ·rw[dY (λz=>e (by injection z)),Bd (cs:=cs) (i:=i+1) (by simpa [Ne.symm e] using h)]
   have:bF (c::cs) n=bF cs n+1:=by unfold bF;rw[Ys,List.idxOf_cons,beq_false_of_ne e];rfl
   rw[this,show i+1+bF cs n=i+ (bF cs n+1) by omega]
theorem qT {n:Str}:∀{cs:List (Str×Int)} {i:Nat},n∉cs.map (·.1)->dt (qS cs i) (Sum.inr n)=none
 | [],_,_=>rfl
 | c::cs,i,h=>by
  rw[qS,dY (λz=>h (by injection z with z;simp [z])),qT (cs:=cs) (i:=i+1) (λz=>h (by rw[Ys];exact Yz _ z))]
theorem ji {κ:Type} [DecidableEq κ] {kvs:List (κ×V)} {k:κ} {v:V} (h:dt kvs k=none):putK kvs k v=kvs++ [(k,v)]:=by
 unfold putK
 rw[if_neg]
 intro c
 obtain⟨x,hx,e⟩:=List.any_eq_true.mp c
 unfold dt at h
 have:kvs.find? (λkv=>decide (kv.1=k))=none:=by simpa using h
 exact absurd e (by simpa using List.find?_eq_none.mp this x hx)
noncomputable def qU (H:Hp):List (Str×Wt)->List (Key×V)->Prop
 | [],us=>us=[]
 | p::ps,us=>∃v r,us=(Sum.inr p.1,v)::r/\Rep H (kK p.2) v/\qU H ps r
theorem qU.mono {H H':Hp} (s:aD H H'):∀{ps:List (Str×Wt)} {us:List (Key×V)},qU H ps us->qU H' ps us
 | [],_,h=>h
 | _::_,_,⟨v,r,e,h1,h2⟩=>⟨v,r,e,h1.mono s,h2.mono s⟩
theorem qU.len {H:Hp}:∀{ps:List (Str×Wt)} {us:List (Key×V)},qU H ps us->us.length=ps.length
 | [],_,h=>by rw[qU] at h;subst h;rfl
 | _::_,_,⟨v,r,e,h1,h2⟩=>by rw[e,YC,h2.len,YC]
theorem qU.snoc {H:Hp} {p:Str×Wt} {v:V} (k:Rep H (kK p.2) v):∀{ps:List (Str×Wt)} {us:List (Key×V)},qU H ps us->qU H (ps++ [p]) (us++ [(Sum.inr p.1,v)])
 | [],_,h=>by rw[qU] at h;subst h;exact⟨v,[],rfl,k,rfl⟩
 | _::_,_,⟨u,r,e,h1,h2⟩=>by rw[e];exact⟨u,_,rfl,h1,h2.snoc k⟩
theorem qU.val {H:Hp} {n:Str}:∀{ps:List (Str×Wt)} {us:List (Key×V)},qU H ps us->(∃x v,look ps n=some x/\dt us (Sum.inr n)=some v/\Rep H (kK x) v)\/(look ps n=none/\dt us (Sum.inr n)=none)
 | [],_,h=>by rw[qU] at h;subst h;exact .inr ⟨rfl,rfl⟩
 | p::ps,_,⟨u,r,e,h1,h2⟩=>by
  subst e
  by_cases c:p.1=n
  ·exact .inl ⟨p.2,u,by unfold look;rw[List.find?_cons_of_pos (by simpa using c)];rfl,gD (by rw[c]),h1⟩
  ·rcases h2.val (n:=n) with ⟨x,v,a,b,d⟩ | ⟨a,b⟩
   ·exact .inl ⟨x,v,by unfold look at *;rw[List.find?_cons_of_neg (by simpa using c)];exact a,by rw[dY (λz=>c (by injection z))];exact b,d⟩
   ·exact .inr ⟨by unfold look at *;rw[List.find?_cons_of_neg (by simpa using c)];exact a,by rw[dY (λz=>c (by injection z))];exact b⟩
theorem Cm {ps:List (Str×Wt)} {n:Str} (h:n∉ps.map (·.1)):look ps n=none:=by
 unfold look
 rw[Option.map_eq_none_iff,List.find?_eq_none]
 intro p hp c
 exact h (List.mem_map.mpr ⟨p,hp,by simpa using c⟩)
theorem cV {cs:List (Str×Int)} {v:Int}:∀(ds:List Dd) (ns:List Int),(ds.foldl (ix cs v) ns).length=ns.length
 | [],_=>rfl
 | d::ds,ns=>by rw[List.foldl_cons,cV ds,GU]
noncomputable def d9 (cs:List (Str×Int)) (ns:List Int):Wt->List Rw
 | .pick _ rs=>rs.filter λr=>kL cs ns r.wh
 | _=>[]
noncomputable def zO (cs:List (Str×Int)) (ns:List Int):Wt->Option (Int×Int)
 | .fin t b=>some (t,b)
 | .score c=>some (ns.getD (bF cs c) 0,1)
 | _=>none
theorem aU {a b:TS} {D:Ends} {σ:L2.St} {H:Hp} (C:(L2.St->Hp->Prop)->Prop) (hb:C (b D)) (ha:∀N:L2.St->Hp->Prop,C N->a {D with nx:=N} σ H):tSeq a b D σ H:=ha _ hb
noncomputable def zP (q:Addr) (H:Hp) (c:Addr) (g:Gm):Prop:=∃dx sp mo wh tb us ft,H c=some (.ins q dx [(Str.ofString "spots",.ref sp),(Str.ofString "mosts",.ref mo),(Str.ofString "first",.str ft),(Str.ofString "whats",.ref wh),(Str.ofString "tables",.ref tb)])/\
 H sp=some (.dK (qS g.cs 0))/\H mo=some (.lst ((g.cs.map (·.2)).map V.int))/\H wh=some (.dK us)/\qU H g.ps us/\(g.ps.map (·.1)).head?=some ft
theorem zP.mono {q:Addr} {H H':Hp} {c:Addr} {g:Gm} (s:aD H H'):zP q H c g->zP q H' c g:=λhh=>by
 obtain⟨dx,sp,mo,wh,tb,us,ft,h1,h2,h3,h4,h5,h6⟩:=hh
 exact⟨dx,sp,mo,wh,tb,us,ft,s _ _ h1,s _ _ h2,s _ _ h3,s _ _ h4,h5.mono s,h6⟩
noncomputable def qV (H:Hp) (v:V) (nm:Str) (ns:List Int):Prop:=∃a l,v=.ref a/\H a=some (.tup [.str nm,.ref l])/\H l=some (.lst (ns.map V.int))
theorem qV.mono {H H':Hp} {v:V} {nm:Str} {ns:List Int} (s:aD H H'):qV H v nm ns->qV H' v nm ns:=fun⟨a,l,e,h1,h2⟩=>⟨a,l,e,s _ _ h1,s _ _ h2⟩
noncomputable def uM (q:Addr):Sp:=λvs H Q _=>∃c l i k g ns,vs=[.ref c,.ref l,.int ((i:Nat):Int),.int k]/\zP q (cE H l) c g/\H l=some (.lst (List.map V.int ns))/\i<g.cs.length/\ns.length=g.cs.length/\Q .cP (upd H l (.lst ((vH g.cs ns i k).map V.int)))
noncomputable def J4 (q:Addr):Sp:=λvs H Q _=>∃c l dv v g ns d,vs=[.ref c,.ref l,dv,.int v]/\zP q (cE H l) c g/\H l=some (.lst (List.map V.int ns))/\Rep (cE H l) (Bb d) dv/\fL g.cs d/\ns.length=g.cs.length/\Q .cP (upd H l (.lst ((ix g.cs v ns d).map V.int)))
noncomputable def xR (q:Addr):Sp:=λvs H Q _=>∃c nm l g ns f e8,vs=[.ref c,.str nm,.ref l]/\zP q H c g/\GoodG g/\H l=some (.lst (List.map V.int ns))/\ns.length=g.cs.length/\dE g ns f nm=some e8/\∀a H',aD H H'->H a=none->H' a=some (.tup [.str e8,.ref l])->Q (.ref a) H'
noncomputable def D5 (q:Addr):Sp:=λvs H Q _=>∃c g f ft e8,vs=[.ref c]/\zP q H c g/\GoodG g/\(g.ps.map (·.1)).head?=some ft/\dE g (List.replicate g.cs.length 0) f ft=some e8/\∀a l H',aD H H'->H a=none->H l=none->H' a=some (.tup [.str e8,.ref l])->H' l=some (.lst ((List.replicate g.cs.length (0:Int)).map V.int))->Q (.ref a) H'
noncomputable def e9 (q:Addr):Sp:=λvs H Q _=>∃c v H0 g nm ns x,vs=[.ref c,v]/\aD H0 H/\zP q H0 c g/\qV H v nm ns/\look g.ps nm=some x/\∀u,Rep H0 (kK x) u->Q u H
noncomputable def D6 (q:Addr):Sp:=λvs H Q _=>∃c v l g ns wh,vs=[.ref c,v,.ref l]/\zP q H c g/\Rep H (J3 wh) v/\H l=some (.lst (List.map V.int ns))/\ns.length=g.cs.length/\Q (.bl (kL g.cs ns wh)) H
noncomputable def xS (q:Addr):Sp:=λvs H Q _=>∃c sv rv v g nm ns a b ds to f e8,vs=[.ref c,sv,rv,.int v]/\zP q H c g/\GoodG g/\qV H sv nm ns/\Rep H (qR (a,b,List.map Bb ds,.str to)) rv/\(∀d∈ds,fL g.cs d)/\ds.length<=100/\ns.length=g.cs.length/\
 dE g (ds.foldl (ix g.cs v) ns) f to=some e8/\∀p l H',aD H H'->H p=none->H l=none->H' p=some (.tup [.str e8,.ref l])->H' l=some (.lst ((ds.foldl (ix g.cs v) ns).map V.int))->Q (.ref p) H'
theorem jj {H:Hp} {ds:List Dat} {v:V}:Rep H (.tup ds) v↔∃p vs,v=.ref p/\H p=some (.tup vs)/\a8 H ds vs:=by rw[Rep]
theorem aR {H:Hp} {d:Dat} {ds:List Dat} {vs:List V}:a8 H (d::ds) vs↔∃v r,vs=v::r/\Rep H d v/\a8 H ds r:=by rw[a8]
theorem bD {H:Hp} {vs:List V}:a8 H [] vs↔vs=[]:=by rw[a8]
theorem aN {H:Hp} {x:Str} {v:V}:Rep H (.str x) v↔v=.str x:=by rw[Rep]
theorem bw {H:Hp} {x:Int} {v:V}:Rep H (.int x) v↔v=.int x:=by rw[Rep]
theorem bJ {H:Hp} {a b:Dat} {v:V}:Rep H (.tup [a,b]) v↔∃p x y,v=.ref p/\H p=some (.tup [x,y])/\Rep H a x/\Rep H b y:=by
 rw[jj]
 constructor
 ·rintro⟨p,vs,e,h,r⟩
  obtain⟨x,r1,rfl,hx,r⟩:=aR.mp r
  obtain⟨y,r2,rfl,hy,r⟩:=aR.mp r
  rw[bD.mp r] at h
  exact⟨p,x,y,e,h,hx,hy⟩
 ·rintro⟨p,x,y,e,h,hx,hy⟩
  exact⟨p,_,e,h,aR.mpr ⟨x,_,rfl,hx,aR.mpr ⟨y,_,rfl,hy,bD.mpr rfl⟩⟩⟩
theorem dQ {H:Hp} {a b c:Dat} {v:V}:Rep H (.tup [a,b,c]) v↔∃p x y z,v=.ref p/\H p=some (.tup [x,y,z])/\Rep H a x/\Rep H b y/\Rep H c z:=by
 rw[jj]
 constructor
 ·rintro⟨p,vs,e,h,r⟩
  obtain⟨x,r1,rfl,hx,r⟩:=aR.mp r
  obtain⟨y,r2,rfl,hy,r⟩:=aR.mp r
  obtain⟨z,r3,rfl,hz,r⟩:=aR.mp r
  rw[bD.mp r] at h
  exact⟨p,x,y,z,e,h,hx,hy,hz⟩
 ·rintro⟨p,x,y,z,e,h,hx,hy,hz⟩
  exact⟨p,_,e,h,aR.mpr ⟨x,_,rfl,hx,aR.mpr ⟨y,_,rfl,hy,aR.mpr ⟨z,_,rfl,hz,bD.mpr rfl⟩⟩⟩⟩
theorem c8 {H:Hp} {a b c d:Dat} {v:V}:Rep H (.tup [a,b,c,d]) v↔∃p x y z u,v=.ref p/\H p=some (.tup [x,y,z,u])/\Rep H a x/\Rep H b y/\Rep H c z/\Rep H d u:=by
 rw[jj]
 constructor
 ·rintro⟨p,vs,e,h,r⟩
  obtain⟨x,r1,rfl,hx,r⟩:=aR.mp r
  obtain⟨y,r2,rfl,hy,r⟩:=aR.mp r
  obtain⟨z,r3,rfl,hz,r⟩:=aR.mp r
  obtain⟨u,r4,rfl,hu,r⟩:=aR.mp r
  rw[bD.mp r] at h
  exact⟨p,x,y,z,u,e,h,hx,hy,hz,hu⟩
 ·rintro⟨p,x,y,z,u,e,h,hx,hy,hz,hu⟩
  exact⟨p,_,e,h,aR.mpr ⟨x,_,rfl,hx,aR.mpr ⟨y,_,rfl,hy,aR.mpr ⟨z,_,rfl,hz,aR.mpr ⟨u,_,rfl,hu,bD.mpr rfl⟩⟩⟩⟩⟩
theorem vI {H:Hp} {a b c d f:Dat} {v:V}:Rep H (.tup [a,b,c,d,f]) v↔∃p x y z u t,v=.ref p/\H p=some (.tup [x,y,z,u,t])/\Rep H a x/\Rep H b y/\Rep H c z/\Rep H d u/\Rep H f t:=by
 rw[jj]
 constructor
 ·rintro⟨p,vs,e,h,r⟩
  obtain⟨x,r1,rfl,hx,r⟩:=aR.mp r
  obtain⟨y,r2,rfl,hy,r⟩:=aR.mp r
  obtain⟨z,r3,rfl,hz,r⟩:=aR.mp r
  obtain⟨u,r4,rfl,hu,r⟩:=aR.mp r
  obtain⟨t,r5,rfl,ht,r⟩:=aR.mp r
  rw[bD.mp r] at h
  exact⟨p,x,y,z,u,t,e,h,hx,hy,hz,hu,ht⟩
 ·rintro⟨p,x,y,z,u,t,e,h,hx,hy,hz,hu,ht⟩
  exact⟨p,_,e,h,aR.mpr ⟨x,_,rfl,hx,aR.mpr ⟨y,_,rfl,hy,aR.mpr ⟨z,_,rfl,hz,aR.mpr ⟨u,_,rfl,hu,aR.mpr ⟨t,_,rfl,ht,bD.mpr rfl⟩⟩⟩⟩⟩⟩
theorem bH {k k':Str} {v:V} {l:List (Str×V)} (h:(k==k')=false):List.lookup k ((k',v)::l)=List.lookup k l:=by rw[YQ,h]
theorem jX {a b c d e:V}:List.lookup (Str.ofString "spots") [(Str.ofString "spots",a),(Str.ofString "mosts",b),(Str.ofString "first",c),(Str.ofString "whats",d),(Str.ofString "tables",e)]=some a:=Y2
theorem HY {a b c d e:V}:List.lookup (Str.ofString "mosts") [(Str.ofString "spots",a),(Str.ofString "mosts",b),(Str.ofString "first",c),(Str.ofString "whats",d),(Str.ofString "tables",e)]=some b:=by
 rw[bH (by decide +kernel)];exact Y2
theorem MD {a b c d e:V}:List.lookup (Str.ofString "first") [(Str.ofString "spots",a),(Str.ofString "mosts",b),(Str.ofString "first",c),(Str.ofString "whats",d),(Str.ofString "tables",e)]=some c:=by
 rw[bH (by decide +kernel),bH (by decide +kernel)];exact Y2
theorem Be {a b c d e:V}:List.lookup (Str.ofString "whats") [(Str.ofString "spots",a),(Str.ofString "mosts",b),(Str.ofString "first",c),(Str.ofString "whats",d),(Str.ofString "tables",e)]=some d:=by
 rw[bH (by decide +kernel),bH (by decide +kernel),bH (by decide +kernel)];exact Y2
theorem dF {a b c d e:V} {k:Str} (h1:(k==Str.ofString "spots")=false) (h2:(k==Str.ofString "mosts")=false) (h3:(k==Str.ofString "first")=false) (h4:(k==Str.ofString "whats")=false) (h5:(k==Str.ofString "tables")=false):
  List.lookup k [(Str.ofString "spots",a),(Str.ofString "mosts",b),(Str.ofString "first",c),(Str.ofString "whats",d),(Str.ofString "tables",e)]=none:=by
 rw[bH h1,bH h2,bH h3,bH h4,bH h5];rfl
theorem Bf {n i:Nat} (h:i<n):C9 n (i:Int)=some i:=by
 unfold C9
 rw[if_pos (by omega),if_pos (by omega),YL]
theorem eN {ns:List Int} {i:Nat} (h:i<ns.length):lJ (List.map V.int ns) (i:Int)=some (.int (ns.getD i 0)):=by
 have:=xp (ns:=ns) (i:=(i:Int)) (by omega) (by omega)
 rwa [YL] at this
theorem GV {cs:List (Str×Int)} {i:Nat} (h:i<cs.length):lJ (List.map V.int (cs.map (·.2))) (i:Int)=some (.int (most cs i)):=eN (by rw[Yr];exact h)
theorem hG {H:Hp} {sp:Addr} {cs:List (Str×Int)} {n:Str} (h:H sp=some (.dK (qS cs 0))) (hn:n∈cs.map (·.1)):jq H sp (.str n) (some (.int ((bF cs n:Nat):Int))):=
 .inl ⟨_,Sum.inr n,.inl h,rfl,by rw[Bd hn,Nat.zero_add]⟩
theorem xT {H:Hp} {p:Addr} {o:HO}:cE (upd H p o) p=cE H p:=by
 funext a
 unfold cE
 by_cases c:a=p
 ·rw[if_pos c,if_pos c]
 ·rw[if_neg c,if_neg c,aw c]
theorem vJ {c:TT} {tb:TS} {D:Ends} {σ:L2.St} {H:Hp} (Pv:Nat->L2.St->Hp->Prop) {m:Nat} (h0:Pv m σ H)
  (hs:∀m σ H,Pv m σ H->∃b:Bool,(∀Q:Bool->Hp->Prop,Q b H->c σ H Q)/\if b=true then tb {D with nx:=λσ' H'=>∃m',m'<m/\Pv m' σ' H',ct:=λσ' H'=>∃m',m'<m/\Pv m' σ' H',bk:=D.nx} σ H else D.nx σ H):yW c tb D σ H:=by
 refine⟨Pv,⟨m,h0⟩,?_⟩
 intro m σ H p
 obtain⟨b,k,q⟩:=hs m σ H p
 refine k _ ?_
 cases b with
 | true=>exact⟨_,λσ' H' h=>h,q⟩
 | false=>exact q
theorem D7 {H:Hp} {p:Addr} (h:H p=none):cE H p=H:=by
 funext a
 unfold cE
 by_cases c:a=p
 ·rw[if_pos c,c,h]
 ·rw[if_neg c]
theorem qW {H H':Hp} {p:Addr} (h:cE H' p=H):aD H H':=by rw[<-h];exact cZ
theorem D8 (n:Nat):(List.replicate n [V.int 0]).flatten=List.map V.int (List.replicate n 0):=by
 induction n with
 | zero=>rfl
 | succ n ih=>rw[Zl,List.flatten_cons,ih,Zl];rfl
noncomputable def xU (q:Addr):Sp:=λvs H Q _=>∃c v H0 g nm ns x,vs=[.ref c,v]/\aD H0 H/\zP q H0 c g/\GoodG g/\qV H v nm ns/\ns.length=g.cs.length/\look g.ps nm=some x/\∀p xs H',aD H H'->H p=none->H' p=some (.lst xs)->a8 H0 (((d9 g.cs ns x).map GS).map qR) xs->Q (.ref p) H'
noncomputable def D9 (q:Addr):Sp:=λvs H Q _=>∃c v g nm ns x,vs=[.ref c,v]/\zP q H c g/\GoodG g/\qV H v nm ns/\ns.length=g.cs.length/\look g.ps nm=some x/\∀p H',aD H H'->H p=none->Rep H' (.lst ((d9 g.cs ns x).map λr=>Dat.str r.word)) (.ref p)->Q (.ref p) H'
noncomputable def Ea (q:Addr):Sp:=λvs H Q _=>∃c v g nm ns x t b,vs=[.ref c,v]/\zP q H c g/\GoodG g/\qV H v nm ns/\ns.length=g.cs.length/\look g.ps nm=some x/\zO g.cs ns x=some (t,b)/\∀u H',aD H H'->Rep H' (.tup [.int t,.int b]) u->Q u H'
theorem hJ {H:Hp} {p:Rw->Bool}:∀{rs:List Rw} {xs:List V},a8 H ((rs.map GS).map qR) xs->a8 H (((rs.filter p).map GS).map qR) ((xs.zip rs).filterMap λx=>if p x.2=true then some x.1 else none)
 | [],xs,h=>by rw[List.zip_nil_right];exact bD.mpr rfl
 | r::rs,xs,h=>by
  obtain⟨v,ys,rfl,h1,h2⟩:=aR.mp h
  have ih:=hJ (p:=p) h2
  rw[List.zip_cons_cons,Y6]
  by_cases c:p r=true
  ·simp only[c,if_true]
   rw[List.filter_cons_of_pos c,Ys,Ys]
   exact aR.mpr ⟨v,_,rfl,h1,ih⟩
  ·simp only[c]
   rw[List.filter_cons_of_neg c]
   exact ih
theorem uN {H:Hp}:∀{rs:List Rw} {xs:List V},a8 H ((rs.map GS).map qR) xs->a8 H (rs.map λr=>Dat.str r.word) (rs.map λr=>V.str r.word)
 | [],xs,h=>bD.mpr rfl
 | r::rs,xs,h=>by
  obtain⟨v,ys,rfl,h1,h2⟩:=aR.mp h
  exact aR.mpr ⟨_,_,rfl,aN.mpr rfl,uN h2⟩
theorem mh {H:Hp} {rs:List Rw} {xs:List V} {i:Nat} {x:V} (h:a8 H ((rs.map GS).map qR) xs) (e:xs[i]?=some x):∃r p a b c d,rs[i]?=some r/\x=.ref p/\H p=some (.tup [.str r.word,b,c,d])/\Rep H (J3 r.wh) b/\a=r:=by
 obtain⟨dd,ed,rd⟩:=h.get e
 rw[Yu,Yu] at ed
 obtain⟨r4,e4,rfl⟩:=Option.map_eq_some_iff.mp ed
 obtain⟨r,er,rfl⟩:=Option.map_eq_some_iff.mp e4
 obtain⟨p,x1,x2,x3,x4,rfl,hp,r1,r2,r3,r4⟩:=c8.mp (show Rep H (.tup _) x from rd)
 have r1:x1=.str r.word:=aN.mp r1
 subst r1
 exact⟨r,p,r,x2,x3,x4,er,rfl,hp,r2,rfl⟩
theorem dz {tc:TT} {a b:TS} {D:Ends} {σ:L2.St} {H:Hp} (h:∀Y N:Hp->Prop,Y H->tc σ H λv H'=>if v=true then Y H' else N H') (k:a D σ H):tIfS tc a b D σ H:=DN (λH'=>H'=H) (λ_=>False) (λ_ e=>e▸k) (λ_ f=>f.elim) λY N hY _=>h Y N (hY _ rfl)
theorem c7 {tc:TT} {a b:TS} {D:Ends} {σ:L2.St} {H:Hp} (h:∀Y N:Hp->Prop,N H->tc σ H λv H'=>if v=true then Y H' else N H') (k:b D σ H):tIfS tc a b D σ H:=DN (λ_=>False) (λH'=>H'=H) (λ_ f=>f.elim) (λ_ e=>e▸k) λY N _ hN=>h Y N (hN _ rfl)
abbrev fE:=Str×List Int
noncomputable def PU (ss:List fE) (s:fE):List fE:=if s∈ss then ss else ss++ [s]
noncomputable abbrev PV (H:Hp) (l n:Addr):Hp:=cE (cE H l) n
noncomputable def Kp (H H':Hp):Prop:=∀a,(∀vs,H a=some (.tup vs)->H' a=some (.tup vs))/\∀vs,H a=some (.lst vs)->H' a=some (.lst vs)
theorem Kp.of {H H':Hp} (s:aD H H'):Kp H H':=λa=>⟨λ_=>s _ _,λ_=>s _ _⟩
theorem Kp.upd {H:Hp} {p:Addr} {o:HO} (h1:∀vs,H p≠some (.tup vs)) (h2:∀vs,H p≠some (.lst vs)):Kp H (upd H p o):=λa=>by
 by_cases c:a=p
 ·subst c;exact⟨λvs e=>absurd e (h1 vs),λvs e=>absurd e (h2 vs)⟩
 ·rw[aw c];exact⟨λ_ h=>h,λ_ h=>h⟩
theorem Kp.trans {H H' H2:Hp} (a:Kp H H') (b:Kp H' H2):Kp H H2:=λx=>⟨λ_ h=>(b x).1 _ ((a x).1 _ h),λ_ h=>(b x).2 _ ((a x).2 _ h)⟩
mutual
theorem Kp.rep {H H':Hp} (s:Kp H H'):∀{d:Dat} {v:V},Rep H d v->Rep H' d v
 | .cP,_,h=>by rw[Rep] at *;exact h
 | .bl _,_,h=>by rw[Rep] at *;exact h
 | .int _,_,h=>by rw[Rep] at *;exact h
 | .str _,_,h=>by rw[Rep] at *;exact h
 | .tup ds,_,h=>by
  rw[Rep] at *
  obtain⟨p,vs,e,hp,r⟩:=h
  exact⟨p,vs,e,(s p).1 _ hp,s.J5 r⟩
 | .lst ds,_,h=>by
  rw[Rep] at *
  obtain⟨p,vs,e,hp,r⟩:=h
  exact⟨p,vs,e,(s p).2 _ hp,s.J5 r⟩
theorem Kp.J5 {H H':Hp} (s:Kp H H'):∀{ds:List Dat} {vs:List V},a8 H ds vs->a8 H' ds vs
 | [],_,h=>by rw[a8] at *;exact h
 | d::ds,_,h=>by
  rw[a8] at *
  obtain⟨v,r,e,h1,h2⟩:=h
  exact⟨v,r,e,s.rep h1,s.J5 h2⟩
end
theorem Kp.PX {H H':Hp} (s:Kp H H'):∀{ps:List (Str×Wt)} {us:List (Key×V)},qU H ps us->qU H' ps us
 | [],_,h=>h
 | _::_,_,⟨v,r,e,h1,h2⟩=>⟨v,r,e,s.rep h1,s.PX h2⟩
theorem qU.none {H:Hp} {ps:List (Str×Wt)} {us:List (Key×V)} {n:Str} (h:qU H ps us) (nn:n∉ps.map (·.1)):dt us (Sum.inr n)=none:=by
 rcases h.val (n:=n) with ⟨x,v,a,_,_⟩ | ⟨_,b⟩
 ·rw[Cm nn] at a;cases a
 ·exact b
theorem xV {α:Type} {l:List α} (h:l.Nodup) {i:Nat} {x:α} (e:l[i]?=some x):x∉l.take i:=by
 intro m
 obtain⟨j,hj,ej⟩:=List.getElem_of_mem m
 rw[YK] at hj
 rw[List.getElem_take] at ej
 obtain⟨hi,ei⟩:=List.getElem?_eq_some_iff.mp e
 have:=(List.getElem_inj h).mp (ej.trans ei.symm)
 omega
noncomputable def cJ (ss ts:List fE):List fE:=ts.foldl PU ss
theorem GW {H:Hp} {p:Pt} {v:V} (h:Rep H (vE p) v):∃q,v=.ref q/\H q=some (.tup (tN p)):=by
 cases p with
 | num n=>obtain⟨q,x,y,e,hq,a,b⟩:=bJ.mp (show Rep H (.tup _) v from h);rw[aN.mp a,bw.mp b] at hq;exact⟨q,e,hq⟩
 | cO n s=>obtain⟨q,x,y,z,e,hq,a,b,c⟩:=dQ.mp (show Rep H (.tup _) v from h);rw[aN.mp a,bw.mp b,bw.mp c] at hq;exact⟨q,e,hq⟩
noncomputable def Cn (q:Addr) (H:Hp) (c:Addr) (g:Gm) (tb:Addr):Prop:=∃dx sp mo wh us ft,H c=some (.ins q dx [(Str.ofString "spots",.ref sp),(Str.ofString "mosts",.ref mo),(Str.ofString "first",.str ft),(Str.ofString "whats",.ref wh),(Str.ofString "tables",.ref tb)])/\
 H sp=some (.dK (qS g.cs 0))/\H mo=some (.lst ((g.cs.map (·.2)).map V.int))/\H wh=some (.dK us)/\qU H g.ps us/\(g.ps.map (·.1)).head?=some ft
theorem Cn.co {q:Addr} {H:Hp} {c:Addr} {g:Gm} {tb:Addr}:Cn q H c g tb->zP q H c g:=λhh=>by
 obtain⟨dx,sp,mo,wh,us,ft,h1,h2,h3,h4,h5,h6⟩:=hh
 exact⟨dx,sp,mo,wh,tb,us,ft,h1,h2,h3,h4,h5,h6⟩
theorem Cn.mono {q:Addr} {H H':Hp} {c:Addr} {g:Gm} {tb:Addr} (s:aD H H'):Cn q H c g tb->Cn q H' c g tb:=λhh=>by
 obtain⟨dx,sp,mo,wh,us,ft,h1,h2,h3,h4,h5,h6⟩:=hh
 exact⟨dx,sp,mo,wh,us,ft,s _ _ h1,s _ _ h2,s _ _ h3,s _ _ h4,h5.mono s,h6⟩
theorem Kp.cE {H:Hp} {tb:Addr} {kvs:List (Key×V)} (h:H tb=some (.dK kvs)):Kp H (cE H tb):=λa=>by
 by_cases c:a=tb
 ·subst c;rw[h];exact⟨(λ_ e=>by cases e),(λ_ e=>by cases e)⟩
 ·rw[cK c];exact⟨λ_ e=>e,λ_ e=>e⟩
noncomputable abbrev UE (H:Hp) (l n tb:Addr):Hp:=cE (PV H l n) tb
noncomputable def xW (rs:List Tw) (v:Int):Option Tw:=rs.find? λr=>decide (r.1<=v) && decide (v<=r.2.1)
theorem xX {kvs:List (Key×V)} {k:Key} {v:V} (h:dt kvs k=none) (k':Key):dt (kvs++ [(k,v)]) k'=if k=k' then some v else dt kvs k':=by
 unfold dt at *
 rw[List.find?_append]
 by_cases c:k=k'
 ·subst c
  rw[if_pos rfl]
  have:kvs.find? (λkv=>decide (kv.1=k))=none:=by simpa using h
  rw[this]
  simp
 ·rw[if_neg c]
  have:List.find? (λkv:Key×V=>decide (kv.1=k')) [(k,v)]=none:=by simp [c]
  rw[this]
  simp
theorem p4:∀{ps qs:List Pt},ps.map vE=qs.map vE->ps=qs
 | [],[],_=>rfl
 | [],_::_,h=>by cases h
 | _::_,[],h=>by cases h
 | p::ps,q::qs,h=>by
  rw[Ys,Ys] at h
  injection h with h1 h2
  rw[GR h1,p4 h2]
theorem Bg {H:Hp} {v:V} {ps:List Pt} (h:Rep H (.lst (ps.map vE)) v):∃a,v=.ref a/\JR H a ps:=by
 obtain⟨a,xs,e,ha,r⟩:=a7.mp h
 refine⟨a,e,xs,ha,?_⟩
 have:∀{ps:List Pt} {xs:List V},a8 H (ps.map vE) xs->Al (λp v=>∃q,v=.ref q/\H q=some (.tup (tN p))) ps xs:=by
  intro ps
  induction ps with
  | nil=>intro xs h;rw[bD.mp h];trivial
  | cons p ps ih=>
   intro xs h
   obtain⟨v,r,rfl,h1,h2⟩:=aR.mp h
   exact⟨GW h1,ih h2⟩
 exact this r
theorem GX {H X:Hp} {rows:List (Int×Int×Int)} {p:Addr} (h:Rep H (lU rows) (.ref p)) (kp:∀o,H p=some o->X p=some o) (kt:∀a vs,H a=some (.tup vs)->X a=some (.tup vs)):Rep X (lU rows) (.ref p):=by
 obtain⟨a,xs,e,ha,r⟩:=a7.mp h
 cases e
 refine a7.mpr ⟨_,xs,rfl,kp _ ha,?_⟩
 refine a8.of r.length λi d v ed ev=>?_
 obtain⟨d',ME,rd⟩:=r.get ev
 rw[ed] at ME
 cases ME
 rw[Yu] at ed
 obtain⟨x,_,rfl⟩:=Option.map_eq_some_iff.mp ed
 obtain⟨p1,q1,rfl,h1,h2⟩:=pX.mp rd
 exact pX.mpr ⟨p1,q1,rfl,kt _ _ h1,kt _ _ h2⟩
noncomputable def Eb (q:Addr):Sp:=λvs H Q _=>∃c sv g nm ns tb kvs ps t b rs,vs=[.ref c,sv]/\Cn q (cE H tb) c g tb/\qV H sv nm ns/\H tb=some (.dK kvs)/\kvs.length<=1000/\look g.ps nm=some (.d7 (ps.map vE) t b rs)/\oS ps/\ps.length<=4/\
 (∀v,dt kvs (Sum.inr nm)=some v->Q v H)/\(dt kvs (Sum.inr nm)=none->∀p H1,aD H H1->H p=none->Rep H1 (lU (md ps)) (.ref p)->Q (.ref p) (upd H1 tb (.dK (kvs++ [(Sum.inr nm,.ref p)]))))
noncomputable def J6 (q:Addr):Sp:=λvs H Q _=>∃c sv v g nm ns dD t b rs r f e8,vs=[.ref c,sv,.int v]/\zP q H c g/\GoodG g/\qV H sv nm ns/\ns.length=g.cs.length/\look g.ps nm=some (.d7 dD t b rs)/\xW rs v=some r/\dE g (r.2.2.1.foldl (ix g.cs v) ns) f r.2.2.2=some e8/\
 ∀p l H',aD H H'->H p=none->H l=none->H' p=some (.tup [.str e8,.ref l])->H' l=some (.lst ((r.2.2.1.foldl (ix g.cs v) ns).map V.int))->Q (.ref p) H'
theorem nR {H:Hp} {p:Tw->Bool}:∀{rs:List Tw} {xs:List V},a8 H ((rs.map FE).map qR) xs->a8 H (((rs.filter p).map FE).map qR) ((xs.zip rs).filterMap λx=>if p x.2=true then some x.1 else none)
 | [],xs,h=>by rw[List.zip_nil_right];exact bD.mpr rfl
 | r::rs,xs,h=>by
  obtain⟨v,ys,rfl,h1,h2⟩:=aR.mp h
  have ih:=nR (p:=p) h2
  rw[List.zip_cons_cons,Y6]
  by_cases c:p r=true
  ·simp only[c,if_true]
   rw[List.filter_cons_of_pos c,Ys,Ys]
   exact aR.mpr ⟨v,_,rfl,h1,ih⟩
  ·simp only[c]
   rw[List.filter_cons_of_neg c]
   exact ih
noncomputable def nw (H X H':Hp):Hp:=λa=>match H a with
 | none=>H' a
 | some _=>X a
theorem cc {H X H':Hp} {a:Addr} (h:H a=none):nw H X H' a=H' a:=by unfold nw;rw[h]
theorem jY {H X H':Hp} (sx:aD X H):aD X (nw H X H'):=λa o h=>by unfold nw;rw[sx _ _ h];exact h
theorem J7 {H X H':Hp} (sx:aD X H) (s:aD H H'):aD (nw H X H') H':=λa o h=>by
 unfold nw at h
 split at h
 ·exact h
 ·exact s _ _ (sx _ _ h)
theorem mi {H X H' p6:Hp} (s:aD H' p6):aD (nw H X H') (nw H X p6):=λa o h=>by
 cases c:H a with
 | none=>rw[cc c] at h ⊢;exact s _ _ h
 | some x=>unfold nw at h ⊢;rw[c] at h ⊢;exact h
theorem MF {H X H' p6:Hp} (s1:aD H H') (s2:aD H' p6):nw H' (nw H X H') p6=nw H X p6:=by
 funext a
 unfold nw
 cases h:H a with
 | none=>
  dsimp only
  cases h':H' a with
  | none=>rfl
  | some o=>dsimp only;exact(s2 _ _ h').symm
 | some o=>
  rw[s1 _ _ h]
noncomputable def qX:Sp:=λvs H Q _=>∃(v:V) (X:Hp) (rs:List R4),vs=[v]/\aD X H/\Rep X (.lst (rs.map qR)) v/\rs.length<=100/\(∀r∈rs,r.2.2.1.length<=100)/\∀p H',aD H H'->Rep (nw H X H') (.lst (rs.map qR)) (.ref p)->Q (.ref p) H'
noncomputable def Ec:Sp:=λvs H Q _=>∃(v:V) (X:Hp) (x:Wt) (cs:List (Str×Int)),vs=[v]/\aD X H/\Rep X (kK x) v/\mf cs x/\∀u H',aD H H'->Rep (nw H X H') (kK x) u->Q u H'
noncomputable def Bh (K:PySem.W.Frag):Sp:=λvs H Q _=>∃(a:Addr) (ns:List Int),vs=[.ref a]/\bI K H a (ns.map V.int)/\ns.length<=63/\∀H',Q (.bl true) H'
section
variable {P : Program} {w : World} {K : PySem.W.Frag} {mg : Str -> Option Value} {base : Heap}
variable {aE aF aB aH af av : Addr}
theorem f9:aT ["one","other","rest"] ["one","other"] (ar (top 8)):=⟨rfl,rfl,rfl,by decide +kernel,rfl,by decide +kernel,by decide +kernel⟩
theorem MG (T:Txt K mg aE aF aB aH af av):bX P w K mg base (bg P w) 1 "common_divisor" ["one","other"] JO:=by
 refine T.nM.du (λ_ _ _ _ _ _=>eD λ_ _=>rfl) λf fd F=>F.d3 f9 (λvs H Q E h=>?_) (λbT A outer s H vs Q E hr h=>?_)
 ·obtain⟨_,_,rfl,_⟩:=h;rfl
 ·refine(?_:let G_:Prop:=_;G_)
  intro G_
  obtain⟨a,b,rfl,k⟩:=h
  dsimp only[G_]
  have nd:=f9.nd
  refine⟨_,(ah (aI (i:=0) nd rfl (Or.inl rfl) (aX qk (by rfl) T.z_abs rfl (aa (pv 0) ag (se rfl)) (he:=se rfl) (hpl:=na rfl)))
  (ah (aI (i:=1) nd rfl (Or.inl rfl) (aX qk (by rfl) T.z_abs rfl (aa (pv 1) ag (se rfl)) (he:=se rfl) (hpl:=na rfl)))
  (ah (iz PassesOwn.never (aL uo (pv 1) ae (aS _)) (ah (aI (i:=2) nd rfl (Or.inl rfl) (aG dM (pv 0) (pv 1)))
  (ah (aI (i:=0) nd rfl (Or.inl rfl) (pv 1))
  (ao (aI (i:=1) nd rfl (Or.inl rfl) (pv 2))))))
  (ao (aV (pv 0)))))),?_⟩
  refine(?_:let bM:TS:=_;let bN:TS:=_;let bO:TS:=_;let cM:TS:=_;tSeq bM (tSeq bN (tSeq bO cM)) _ _ _)
  intro bM bN bO cM
  simp_all only[]
  refine wW (λσ H1=>H1=H/\∃(x y:Int) (z:Option V),σ=[some (.int x),some (.int y),z]/\0<=x/\0<=y/\Nm.g x y=Nm.g a b) (λσ _=>match σ with | [_,some (.int y),_]=>y.toNat | _=>0) ?_ ?_ ?_
  ·refine⟨rfl,_,_,_,rfl,?_,?_,?_⟩
   ·split <;>omega
   ·split <;>omega
   ·rw[show(if a<0 then -a else a)=(a.natAbs:Int) by split <;>omega,show(if b<0 then -b else b)=(b.natAbs:Int) by split <;>omega,Nm.Dr,Nm.AL]
  ·intro σ H1 df
   refine(?_:let G_:Prop:=_;G_)
   intro G_
   obtain⟨rfl,x,y,z,rfl,x0,y0,e⟩:=df
   dsimp only[G_]
   simp_all only[]
   refine gY (λc=>?_) (λc=>?_)
   ·refine⟨by omega,y0,Int.emod_nonneg _ (by omega),by rw[Nm.Ds x0 (by omega),e],?_⟩
    have:=Int.emod_lt_of_pos x (show 0<y by omega)
    have:=Int.emod_nonneg x (show y≠0 by omega)
    omega
   ·have z:y=0:=by omega
    subst z
    rw[Nm.Dt x0] at e
    rw[e]
    exact k
  ·intro σ H1 Q1 Q2 hq hc
   simp only[L2.start,Pr,tRev,tLR,tMaxD,tSortR,tD1,tDPop1,tSl,tNoPart,tPart,rSlL,tDIn,tDNotIn,gSub,rSetL,tLst,tDNewK,tComp,L2.stC,tFor_eq,iList,iTup,iRng1,iRng2,iZip,iEnum,iDict,iStr,tChain,tSumV,tBM,rJoin,tJoined,jNil,jLit,jInt,jStr,tRaise,tDGet,tDGet2,tDGet1,sDPut,Option.join_some,List.getElem?_nil,tSeq,tRet,tRetN,tIfS,tTest,tB,tOp,tUn,tVar,tC,tCB,tCons,tNil,tCall,tTupS,tAsg,gName,gNil,gCons,tPar,tNext,tDrop,tAnd,tOr,tNot,tAndV,tOrV,tNotV,tIf,rI,rI0,rU,rIxTH,rIxLH,rEqT,rNeT,rInT,rEq,rNe,scal_ss,scal_ii,scal_bb,scal_si,scal_is,CPow,at0,at1,at2,Ys,YX,YC,Y9,Nat.reduceSub,Nat.reduceAdd,Nat.zero_add,List.replicate_zero,List.reduceReplicate,List.append_nil,List.nil_append,Y5,List.getElem?_cons_zero,List.getElem?_cons_succ,YT,YU,Option.some.injEq,exists_eq_left',exists_eq_left,V.ref.injEq,V.int.injEq,V.bl.injEq,V.str.injEq,V.ty.injEq,HO.tup.injEq,HO.lst.injEq,List.cons.injEq,and_true,true_and,and_assoc,exists_and_left,decide_eq_true_eq,Bool.not_eq_true',decide_eq_false_iff_not,ite_true,ite_false,if_true,if_false,Int.reduceToNat,eq_self_iff_true] at hc ⊢
   refine(?_:let G_:Prop:=_;G_)
   intro G_
   obtain⟨v,e1,e2,q⟩:=hc
   dsimp only[G_]
   exact⟨v,e1,e2,hq _ _ q⟩
theorem xY:aT ["top","bottom","divisor"] ["top","bottom"] (ar (top 9)):=⟨rfl,rfl,rfl,by decide +kernel,rfl,by decide +kernel,by decide +kernel⟩
theorem HZ (T:Txt K mg aE aF aB aH af av):bX P w K mg base (bg P w) 2 "share" ["top","bottom"] (D0 aE):=by
 have nS:bX P w K mg base (bg P w) 1 "common_divisor" ["one","other"] JO:=MG T
 refine T.GF.du (λ_ _ _ _ _ _=>eD λ_ _=>rfl) λf fd F=>F.Jv xY (λvs H Q E h=>?_) (λbT A outer s H vs Q E hr h=>?_)
 ·obtain⟨_,_,rfl,_⟩:=h;rfl
 ·refine(?_:let G_:Prop:=_;G_)
  intro G_
  obtain⟨a,b,rfl,bt,kE,kQ⟩:=h
  dsimp only[G_]
  have nd:=xY.nd
  have Bi:A.handled=none:=hr.hd
  refine⟨_,(ah (bf (aL bp (pv 1) ae (aS _)) (ao (eR rfl T.k_NoShare T.x_NoShare Bi (aa aZ ag (se rfl)) (he:=se rfl) (hpl:=na rfl)))
   aY)
  (ah (aI (i:=2) nd rfl (Or.inl rfl) (aK nS (hr.mono (by decide)) rfl au.pass (aa (pv 0) (aa (pv 1) ag (se rfl)) (se rfl)) (he:=se rfl) (hpl:=na rfl)))
  (ah (bf (aL wX (pv 1) ae (aS _)) (ao (aI (i:=2) nd rfl (Or.inl rfl) (gC eF (pv 2))))
   aY)
  (ao (aV (a5 (aa (aG xo (pv 0) (pv 2)) (aa (aG xo (pv 1) (pv 2)) ag (se rfl)) (se rfl)))))))),?_⟩
  refine(?_:let bM:TS:=_;let bN:TS:=_;let bO:TS:=_;let cM:TS:=_;tSeq bM (tSeq bN (tSeq bO cM)) _ _ _)
  intro bM bN bO cM
  simp_all only[JO,tRaise]
  refine gY (λz=>?_) (λz=>?_)
  ·exact⟨by decide,kE z⟩
  ·have g0:0<Nm.g a b:=Nm.Dq z
   have gb:Bt 5000 (Nm.g a b):=bt.le (by have:=Nm.Du (a:=a) z;omega)
   have kq:=kQ z
   unfold Nm.st Nm.sb at kq
   refine gY (λc=>?_) (λc=>?_)
   ·rw[if_pos c,if_pos c] at kq
    rw[Nm.Dx g0 (Nm.AK a b),Nm.Dx g0 (Nm.jh a b)]
    exact⟨qr.of (by omega) gb.neg,qr.of (by omega) gb.neg,by decide,λp H2 s1 n1 e=>kq p H2 s1 n1 e⟩
   ·rw[if_neg c,if_neg c] at kq
    rw[Nm.Dw g0,Nm.Dw g0]
    exact⟨qr.of (by omega) gb,qr.of (by omega) gb,by decide,λp H2 s1 n1 e=>kq p H2 s1 n1 e⟩
theorem fc:aT ["weights","bottom"] ["weights","bottom"] (ar (top 12)):=⟨rfl,rfl,rfl,by decide +kernel,rfl,by decide +kernel,by decide +kernel⟩
theorem MH (T:Txt K mg aE aF aB aH af av):bX P w K mg base (bg P w) 3 "table_by_weights" ["weights","bottom"] GJ:=by
 have vK:bX P w K mg base (bg P w) 2 "share" ["top","bottom"] (D0 aE):=HZ T
 refine T.kC.du (λ_ _ _ _ _ _=>eD λ_ _=>rfl) λf fd F=>F.d3 fc (λvs H Q E h=>?_) (λbT A outer s H vs Q E hr h=>?_)
 ·obtain⟨_,_,_,rfl,_⟩:=h;rfl
 ·refine(?_:let G_:Prop:=_;G_)
  intro G_
  obtain⟨d,B,ws,rfl,hd,XG,hz,B0,bB,k⟩:=h
  dsimp only[G_]
  have nd:=fc.nd
  refine⟨_,(ao (aV (cG rfl (N:=["weights","bottom"]) (so:=ar (top 12)) (N':=["value","weights","bottom"]) (k:=1) (fr:=[0,1]) rfl rfl ⟨rfl,by decide +kernel,by decide +kernel,by decide +kernel,rfl,by decide +kernel,by decide +kernel⟩ (bh (K:=K) (aX qw (by rfl) T.z_sorted rfl (aa (pv 0) ag (se rfl)) (he:=se rfl) (hpl:=na rfl))) (λ_ _ _ _ _=>(aW (i:=0) (show(["value","weights","bottom"]:List Str).Nodup by decide +kernel) rfl (Or.inl rfl))) (λ_ _ _ _ _=>dk)
   (λ_ _ _ _ _=>(a5 (aa (pv 0) (aa (aK vK (hr.mono (by decide)) rfl au.pass (aa (ck (cf hr) (pv 1) (pv 0) (λ_ _=>rfl)) (aa (pv 2) ag (se rfl)) (se rfl)) (he:=se rfl) (hpl:=na rfl)) ag (se rfl)) (se rfl))))))),?_⟩
  simp_all only[]
  refine⟨enc ws,.inl hd,DI ws,by rw[vj];exact hz,λl nl=>⟨⟨_,bI.of aj⟩,?_⟩⟩
  rw[Ca]
  have sm:aD H (upd H l (.lst (List.map V.int (Nm.vh (Nm.keys ws))))):=aA nl
  have ll:(List.map V.int (Nm.vh (Nm.keys ws))).length=ws.length:=by rw[Yr,Nm.g4];unfold Nm.keys;rw[Yr]
  refine comp_map (src_list (λH2 s2=>s2.seq (bI.of aj))) (λ_ _ _ _ h=>by rw[h.1];exact aD.refl _) (by rw[ll,sizeLine_eq];omega) (λi y H2=>∀r,(Nm.rowsOf ws B)[i]?=some r->Rep H2 (Gu r) y) (λi y H2 H3 s3 h r e=>(h r e).mono s3) ?_ ?_
  ·rintro i x w0 H2 H3 Q2 hi s2 ⟨rfl,hx⟩ kq
   rw[Yu] at hx
   refine(?_:let G_:Prop:=_;G_)
   intro G_
   obtain⟨v,ev,rfl⟩:=Option.map_eq_some_iff.mp hx
   dsimp only[G_]
   have hv:v∈Nm.keys ws:=Nm.Gn.mp (YI ev)
   have hd2:=s2 _ _ (sm _ _ hd)
   simp_all only[D0]
   refine⟨_,DJ hd2 hv,_,rfl,bB,λz=>absurd z B0,λ_ p H4 s4 _ e4=>⟨by decide,λp5 H5 s5 _ e5=>?_⟩⟩
   refine kq _ _ (s4.trans s5) λr er=>?_
   have:r=(v,Nm.st (Nm.look ws v) B,Nm.sb (Nm.look ws v) B):=by
    unfold Nm.rowsOf at er
    rw[Yu,ev] at er
    exact(YM er).symm
   subst this
   exact pX.mpr ⟨p5,p,rfl,e5,s5 _ _ e4⟩
  ·intro ys H2 s2 ly hy D n1 n2
   refine k _ _ (sm.trans (s2.trans (aA n2))) (none_of sm n1) (a7.mpr ⟨D,ys,rfl,aj,?_⟩)
   refine a8.of ?_ λi dd v e1 e2=>?_
   ·rw[Yr,ly]
    unfold Nm.rowsOf
    rw[Yr,Yr]
   ·rw[Yu] at e1
    refine(?_:let G_:Prop:=_;G_)
    intro G_
    obtain⟨r,er,rfl⟩:=Option.map_eq_some_iff.mp e1
    dsimp only[G_]
    exact(hy i v e2 r er).mono (aA n2)
theorem oU:aT ["rows","weights","value","weight"] ["rows"] (ar (top 13)):=⟨rfl,rfl,rfl,by decide +kernel,rfl,by decide +kernel,by decide +kernel⟩
theorem MI (T:Txt K mg aE aF aB aH af av):bX P w K mg base (bg P w) 4 "table_of" ["rows"] (JP aF):=by
 have kO:bX P w K mg base (bg P w) 3 "table_by_weights" ["weights","bottom"] GJ:=MH T
 refine T.zG.du (λ_ _ _ _ _ _=>gJ λ_=>rfl) λf fd F=>F.Jv oU (λvs H Q E h=>?_) (λbT A outer s H vs Q E hr h=>?_)
 ·obtain⟨_,_,rfl,_⟩:=h;rfl
 ·refine(?_:let G_:Prop:=_;G_)
  intro G_
  obtain⟨v,ps,rfl,rp,hz,hb,hw,kE,kQ⟩:=h
  dsimp only[G_]
  have nd:=oU.nd
  have Bi:A.handled=none:=hr.hd
  refine⟨_,(ah (aI (i:=1) nd rfl (Or.inl rfl) gE)
  (ah (cI PassesOwn.leaving rfl (bh (K:=K) (pv 0)) (d4 (K:=K) (n:=2) rfl (bA (aW (i:=2) nd rfl (Or.inl rfl)) (bA (aW (i:=3) nd rfl (Or.inl rfl)) dX))) (ah (bf (aL wX (pv 3) ae (aS _)) (ao (eR rfl T.k_NoTable T.x_NoTable Bi (aa aZ ag (se rfl)) (he:=se rfl) (hpl:=na rfl)))
   aY)
  (ao (bf (aL fY (pv 3) ae (aS _)) (ao (dZ (cf hr) (pv 1) (pv 2) (aG aO (Dk (cf hr) (pv 1) (pv 2) ae (by first | exact⟨rfl,rfl,rfl⟩ | constructor <;>rfl)) (pv 3)) rfl))
   aY))))
  (ah (bf (aL bp (aX B5 (by rfl) T.z_len YH (aa (pv 1) ag (se rfl)) (he:=se rfl) (hpl:=na rfl)) ae (aS _)) (ao (eR rfl T.k_NoTable T.x_NoTable Bi (aa aZ ag (se rfl)) (he:=se rfl) (hpl:=na rfl)))
   aY)
  (ao (aV (aK kO (hr.mono (by decide)) rfl au.pass (aa (pv 1) (aa (zz rfl (by rfl) T.z_sum (pv 1) (he:=se rfl)) ag (se rfl)) (se rfl)) (he:=se rfl) (hpl:=na rfl))))))),?_⟩
  refine(?_:let bM:TS:=_;let bN:TS:=_;let bO:TS:=_;let cM:TS:=_;tSeq bM (tSeq bN (tSeq bO cM)) _ _ _)
  intro bM bN bO cM
  simp_all only[GJ,tRaise]
  intro d Ly
  refine(?_:let G_:Prop:=_;G_)
  intro G_
  obtain⟨a,xs,rfl,ha,rl⟩:=a7.mp rp
  dsimp only[G_]
  have n1:=rl.length
  rw[Yr] at n1
  have q1:∀o,bI K (upd H d o) a xs:=λo=>bI.of (aA Ly _ _ ha)
  refine⟨_,rfl,⟨_,q1 _⟩,bU (src_list (Ok:=λH'=>∃o,H'=upd H d o) (λH' ⟨o,e⟩=>by rw[e];exact q1 o))
   (λi σ H'=>H'=upd H d (.dK (enc (Nm.jW (ps.take i))))/\(∀p∈ps.take i,0<=p.2)/\∃z1 z2,σ=[some (.ref a),some (.ref d),z1,z2])
   ⟨by rw[List.take_zero];rfl,by simp,_,_,rfl⟩ (λ_ _ _ _ h=>⟨_,h.1⟩) ?_ ?_⟩
  ·intro i x σ H' p6 hi gy gz
   refine(?_:let G_:Prop:=_;G_)
   intro G_
   obtain⟨rfl,nn,z1,z2,rfl⟩:=gy
   obtain⟨rfl,hx⟩:=gz
   obtain⟨dd,ed,rd⟩:=rl.get hx
   rw[Yu] at ed
   obtain⟨p,ep,rfl⟩:=Option.map_eq_some_iff.mp ed
   obtain⟨q,rfl,hq⟩:=b6.mp rd
   dsimp only[G_]
   have tk:ps.take (i+1)=ps.take i++ [p]:=by rw[YS,ep];rfl
   refine⟨q,_,rfl,jn.of (aA Ly _ _ hq),rfl,?_⟩
   simp_all only[tRaise]
   rw[tk,Nm.DP]
   refine gY (λc=>?_) (λc=>?_)
   ·exact⟨by decide,kE (.inl ⟨p,YI ep,c⟩) _ (aA Ly)⟩
   ·have Sg:∀r∈ps.take i++ [p],0<=r.2:=λr hr=>by
     rcases List.mem_append.mp hr with h | h
     ·exact nn r h
     ·have:r=p:=by simpa using h
      subst this
      omega
    refine gY (λc2=>?_) (λc2=>?_)
    ·refine(?_:let G_:Prop:=_;G_)
     intro G_
     obtain⟨o,ho,eo⟩:=Cb (H:=upd H d (.dK (enc (Nm.jW (ps.take i))))) p.1 (.inl aj)
     dsimp only[G_]
     refine⟨.inl ⟨_,.inl aj⟩,o,ho,?_⟩
     rw[eo]
     simp_all only[]
     refine⟨_,DL _ _ aj (Nm.nI _) ?_,?_,Sg,?_⟩
     ·have:=Nm.AW (ps.take i)
      rw[YK] at this
      rw[sizeLine_eq]
      omega
     ·rw[Ax,if_pos c2]
      rfl
     ·exact⟨_,rfl⟩
    ·refine⟨by rw[if_neg c2],Sg,?_⟩
     exact⟨_,rfl⟩
  ·intro σ H' df
   refine(?_:let G_:Prop:=_;G_)
   intro G_
   obtain⟨rfl,nn,z1,z2,rfl⟩:=df
   dsimp only[G_]
   rw[YG (by omega)] at nn ⊢
   simp_all only[tRaise,GJ]
   have el:(enc (Nm.jW ps)).length=(Nm.jW ps).length:=vj _
   refine⟨_,aj,gY (λz=>⟨by decide,kE (.inr ?_) _ (aA Ly)⟩) (λz=>?_)⟩
   ·exact Nm.AX.mp (List.eq_nil_of_length_eq_zero (by omega))
   ·have np:Nm.pos ps≠[]:=λe=>by
     have:=Nm.AX.mpr e
     exact z (by rw[el,this];rfl)
    have nb:¬Nm.bad ps:=λb=>by
     rcases b with ⟨p,hp,c⟩ | c
     ·have:=nn p hp
      omega
     ·exact np c
    have T0:=Nm.Gq (show 0< (Nm.jW ps).length by omega) (Nm.nI ps) (Nm.Gx ps)
    have T1:=Nm.qE (c:=10^12) (by decide) hb
    rw[<-Nm.Gy] at T1
    have lw:=Nm.AW ps
    have ev:List.map (λx:Key×V=>x.2) (enc (Nm.jW ps))=List.map V.int ((Nm.jW ps).map (·.2)):=by
     unfold enc
     rw[YZ,YZ]
     rfl
    refine⟨_,aj,_,ev,_,aj,Nm.nI ps,by omega,?_,?_,λp H' s' UG r'=>?_⟩
    ·show Nm.qy (Nm.jW ps)≠0
     omega
    ·show Bt 5000 (Nm.qy (Nm.jW ps))
     exact Bt.of (10^16) (by omega) (by omega)
    ·exact kQ nb p H' ((aA Ly).trans s') (none_of (aA Ly) UG) r'
theorem xZ:aT ["base","exponent","product","turn"] ["base","exponent"] (ar (top 17)):=⟨rfl,rfl,rfl,by decide +kernel,rfl,by decide +kernel,by decide +kernel⟩
theorem MJ (T:Txt K mg aE aF aB aH af av):bX P w K mg base (bg P w) 1 "power" ["base","exponent"] JS:=by
 refine T.GG.du (λ_ _ _ _ _ _=>eD λ_ _=>rfl) λf fd F=>F.d3 xZ (λvs H Q E h=>?_) (λbT A outer s H vs Q E hr h=>?_)
 ·obtain⟨_,_,rfl,_⟩:=h;rfl
 ·refine(?_:let G_:Prop:=_;G_)
  intro G_
  obtain⟨b,e,rfl,be,Si,hb,kk⟩:=h
  dsimp only[G_]
  have nd:=xZ.nd
  refine⟨_,(ah (aI (i:=2) nd rfl (Or.inl rfl) ae)
  (ah (cI PassesOwn.never rfl (cC rfl T.z_range (aa (pv 1) ag (se rfl))) (aW (i:=3) nd rfl (Or.inl rfl)) (ah (bf (aL fY (pv 2) (lV rfl T.c_MOST_BOTTOM) (aS _)) (ao CV)
   aY)
  (ao (aI (i:=2) nd rfl (Or.inl rfl) (aG ba (pv 2) (pv 0))))))
  (ao (aV (pv 2))))),?_⟩
  refine(?_:let bM:TS:=_;let bN:TS:=_;let bO:TS:=_;tSeq bM (tSeq bN bO) _ _ _)
  intro bM bN bO
  have sl:=sizeLine_eq
  simp_all only[]
  refine⟨by omega,by omega,bU (src_range (Ok:=λ_=>True)) (λi σ H'=>H=H'/\∃z,σ=[some (.int (b:Int)),some (.int (e:Int)),some (.int ((b^i:Nat):Int)),z]) ⟨rfl,_,rfl⟩ (λ_ _ _ _ _=>trivial) ?_ ?_⟩
  ·intro i x σ H' p6 hi gy gz
   refine(?_:let G_:Prop:=_;G_)
   intro G_
   obtain⟨rfl,z,rfl⟩:=gy
   obtain⟨rfl,rfl⟩:=gz
   dsimp only[G_]
   have b1:1<=b:=by omega
   have le:b^i<=b^e:=Nat.pow_le_pow_right b1 (by omega)
   simp_all only[]
   rw[if_neg (by omega)]
   refine⟨bC (by omega) (by omega),?_,_,rfl⟩
   rw[Nat.pow_succ,Zf]
  ·intro σ H' df
   refine(?_:let G_:Prop:=_;G_)
   intro G_
   obtain⟨rfl,z,rfl⟩:=df
   dsimp only[G_]
   rw[YL]
   simp_all only[]
   exact kk
theorem jZ:aT ["part"] ["part"] (ar (top 18)):=⟨rfl,rfl,rfl,by decide +kernel,rfl,by decide +kernel,by decide +kernel⟩
theorem Ed (T:Txt K mg aE aF aB aH af av):bX P w K mg base (bg P w) 1 "most_faces" ["part"] D2:=by
 refine T.vn.du (λ_ _ _ _ _ _=>gJ λ_=>rfl) λf fd F=>F.d3 jZ (λvs H Q E h=>?_) (λbT A outer s H vs Q E hr h=>?_)
 ·obtain⟨_,_,rfl,_⟩:=h;rfl
 ·refine(?_:let G_:Prop:=_;G_)
  intro G_
  obtain⟨q,p,rfl,hq,kk⟩:=h
  dsimp only[G_]
  have nd:=jZ.nd
  refine⟨_,(ah (bf (aL bp (aq ai (pv 0) ae (λ_ _=>rfl)) aZ (aS _)) (ao (aV ae))
   aY)
  (ah (bf (aL bp (aq ai (pv 0) ae (λ_ _=>rfl)) aZ (aS _)) (ao (aV (lH (aL fY (aq ai (pv 0) ae (λ_ _=>rfl)) ae (aS _)) ae ae)))
   aY)
  (ah (bf (aL bp (aq ai (pv 0) ae (λ_ _=>rfl)) aZ (aS _)) (ao (aV (aG aO (aX (jg rfl) (by rfl) T.z_max rfl (aa (aq ai (pv 0) ae (λ_ _=>rfl)) (aa ae ag (se rfl)) (se rfl)) (he:=se rfl) (hpl:=na rfl)) ae)))
   aY)
  (ao (aV (aq ai (pv 0) (gC eF ae) (λ_ _=>rfl))))))),?_⟩
  refine(?_:let bM:TS:=_;let bN:TS:=_;let bO:TS:=_;let cM:TS:=_;tSeq bM (tSeq bN (tSeq bO cM)) _ _ _)
  intro bM bN bO cM
  cases p with
  | num n=>
   simp only[tN] at hq
   simp_all only[hq]
   exact kk
  | cO m s=>
   simp only[tN] at hq
   simp_all only[hq]
   rw[if_neg (by decide +kernel),if_neg (by decide +kernel),if_neg (by decide +kernel)]
   exact⟨_,rfl,kk⟩
theorem iI:aT ["part"] ["part"] (ar (top 19)):=⟨rfl,rfl,rfl,by decide +kernel,rfl,by decide +kernel,by decide +kernel⟩
theorem Ee (T:Txt K mg aE aF aB aH af av):bX P w K mg base (bg P w) 2 "part_bottom" ["part"] xO:=by
 have GY:bX P w K mg base (bg P w) 1 "power" ["base","exponent"] JS:=MJ T
 have eg:bX P w K mg base (bg P w) 1 "most_faces" ["part"] D2:=Ed T
 refine T.tj.du (λ_ _ _ _ _ _=>gJ λ_=>rfl) λf fd F=>F.d3 iI (λvs H Q E h=>?_) (λbT A outer s H vs Q E hr h=>?_)
 ·obtain⟨_,_,rfl,_⟩:=h;rfl
 ·refine(?_:let G_:Prop:=_;G_)
  intro G_
  obtain⟨q,p,rfl,hq,g,hb,kk⟩:=h
  dsimp only[G_]
  have nd:=iI.nd
  refine⟨_,(ao (aV (aK GY (hr.mono (by decide)) rfl au.pass (aa (aq ai (pv 0) (gC eF ae) (λ_ _=>rfl)) (aa (aK eg (hr.mono (by decide)) rfl au.pass (aa (pv 0) ag (se rfl)) (he:=se rfl) (hpl:=na rfl)) ag (se rfl)) (se rfl)) (he:=se rfl) (hpl:=na rfl)))),?_⟩
  simp_all only[JS,D2]
  refine⟨_,hq,_,D1 p,p,hq,lst p,rfl,HV p,rfl,?_,?_,?_,?_⟩
  ·cases p with
   | num n=>exact .inr rfl
   | _=>exact .inl g.1
  ·have:=qO g;omega
  ·have:lst p^HV p=bot p:=by cases p <;>rfl
   rw[this];exact hb
  ·have:lst p^HV p=bot p:=by cases p <;>rfl
   rw[this];exact kk
theorem j0:aT ["part","sides","low"] ["part"] (ar (top 20)):=⟨rfl,rfl,rfl,by decide +kernel,rfl,by decide +kernel,by decide +kernel⟩
theorem MK (T:Txt K mg aE aF aB aH af av):bX P w K mg base (bg P w) 3 "part_count" ["part"] JT:=by
 have eg:bX P w K mg base (bg P w) 1 "most_faces" ["part"] D2:=Ed T
 have dG:bX P w K mg base (bg P w) 2 "part_bottom" ["part"] xO:=Ee T
 refine T.vo.du (λ_ _ _ _ _ _=>gJ λ_=>rfl) λf fd F=>F.d3 j0 (λvs H Q E h=>?_) (λbT A outer s H vs Q E hr h=>?_)
 ·obtain⟨_,_,rfl,_⟩:=h;rfl
 ·refine(?_:let G_:Prop:=_;G_)
  intro G_
  obtain⟨q,p,rfl,hq,g,hb,kk⟩:=h
  dsimp only[G_]
  have nd:=j0.nd
  refine⟨_,(ah (aI (i:=1) nd rfl (Or.inl rfl) (aq ai (pv 0) (gC eF ae) (λ_ _=>rfl)))
  (ah (bf (aL bp (aq ai (pv 0) ae (λ_ _=>rfl)) aZ (aS _)) (ah (aI (i:=2) nd rfl (Or.inl rfl) (aX (jg rfl) (by rfl) T.z_max rfl (aa (aX (fB rfl) (by rfl) T.z_min rfl (aa (aq ai (pv 0) ae (λ_ _=>rfl)) (aa (pv 1) ag (se rfl)) (se rfl)) (he:=se rfl) (hpl:=na rfl)) (aa ae ag (se rfl)) (se rfl)) (he:=se rfl) (hpl:=na rfl)))
  (ao (aV (aG gX (aG aO (aG ba (pv 2) (pv 1)) (pv 1)) (pv 2)))))
   aY)
  (ah (bf (aL bp (aq ai (pv 0) ae (λ_ _=>rfl)) aZ (aS _)) (ao (aV (aG aO (aG ba (aK eg (hr.mono (by decide)) rfl au.pass (aa (pv 0) ag (se rfl)) (he:=se rfl) (hpl:=na rfl)) (aG gX (pv 1) ae)) ae)))
   aY)
  (ao (aV (aK dG (hr.mono (by decide)) rfl au.pass (aa (pv 0) ag (se rfl)) (he:=se rfl) (hpl:=na rfl))))))),?_⟩
  refine(?_:let bM:TS:=_;let bN:TS:=_;let bO:TS:=_;let cM:TS:=_;tSeq bM (tSeq bN (tSeq bO cM)) _ _ _)
  intro bM bN bO cM
  cases p with
  | num n=>
   simp only[tN] at hq
   simp_all only[hq,xO]
   refine⟨_,rfl,?_⟩
   rw[if_neg (by decide +kernel),if_neg (by decide +kernel)]
   exact⟨.num n,rfl,g,hb,kk⟩
  | cO m s=>
   simp only[tN] at hq
   simp_all only[hq,xO]
   refine⟨_,rfl,?_⟩
   rw[if_neg (by decide +kernel),if_neg (by decide +kernel)]
   exact⟨.cO m s,rfl,g,hb,kk⟩
theorem j1:aT ["pool","count","bottom","part"] ["pool"] (ar (top 21)):=⟨rfl,rfl,rfl,by decide +kernel,rfl,by decide +kernel,by decide +kernel⟩
theorem ML (T:Txt K mg aE aF aB aH af av):bX P w K mg base (bg P w) 4 "check_size" ["pool"] JU:=by
 have vL:bX P w K mg base (bg P w) 3 "part_count" ["part"] JT:=MK T
 have dG:bX P w K mg base (bg P w) 2 "part_bottom" ["part"] xO:=Ee T
 refine T.vp.du (λ_ _ _ _ _ _=>gJ λ_=>rfl) λf fd F=>F.Jv j1 (λvs H Q E h=>?_) (λbT A outer s H vs Q E hr h=>?_)
 ·obtain⟨_,_,rfl,_⟩:=h;rfl
 ·refine(?_:let G_:Prop:=_;G_)
  intro G_
  obtain⟨l,ps,rfl,hp,g,kk⟩:=h
  dsimp only[G_]
  have nd:=j1.nd
  have Bi:A.handled=none:=hr.hd
  refine⟨_,(ah (aI (i:=1) nd rfl (Or.inl rfl) ae)
  (ah (aI (i:=2) nd rfl (Or.inl rfl) ae)
  (ah (cI PassesOwn.leaving rfl (bh (K:=K) (pv 0)) (aW (i:=3) nd rfl (Or.inl rfl)) (ah (aI (i:=1) nd rfl (Or.inl rfl) (aG ba (pv 1) (aK vL (hr.mono (by decide)) rfl au.pass (aa (pv 3) ag (se rfl)) (he:=se rfl) (hpl:=na rfl))))
  (ao (aI (i:=2) nd rfl (Or.inl rfl) (aG ba (pv 2) (aK dG (hr.mono (by decide)) rfl au.pass (aa (pv 3) ag (se rfl)) (he:=se rfl) (hpl:=na rfl)))))))
  (ao (bf (PW.pt (pw_or (aL fY (pv 1) (lV rfl T.c_MOST_THROWS) (aS _)) (pw_or1 (aL fY (pv 2) (lV rfl T.c_MOST_BOTTOM) (aS _))))) (ao (eR rfl T.k_TooMany T.x_TooMany Bi (aa aZ ag (se rfl)) (he:=se rfl) (hpl:=na rfl)))
   aY))))),?_⟩
  refine(?_:let bM:TS:=_;let bN:TS:=_;let bO:TS:=_;let cM:TS:=_;tSeq bM (tSeq bN (tSeq bO cM)) _ _ _)
  intro bM bN bO cM
  refine(?_:let G_:Prop:=_;G_)
  intro G_
  obtain⟨xs,hl,al⟩:=hp
  dsimp only[G_]
  have lx:=al.length
  simp_all only[]
  refine⟨⟨_,bI.of hl⟩,bU (src_list (Ok:=λH'=>H=H') (λH' e=>by subst e;exact bI.of hl)) (λi σ H'=>H=H'/\∃z,σ=[some (.ref l),some (.int ((iF ((ps.take i).map cnt):Nat):Int)),some (.int ((iF ((ps.take i).map bot):Nat):Int)),z]) ⟨rfl,_,rfl⟩ (λ_ _ _ _ h=>h.1) ?_ ?_⟩
  ·intro i x σ H' p6 hi gy gz
   refine(?_:let G_:Prop:=_;G_)
   intro G_
   obtain⟨rfl,z,rfl⟩:=gy
   obtain⟨rfl,ex⟩:=gz
   obtain⟨p,ep,q,rfl,hq⟩:=al.get ex
   dsimp only[G_]
   obtain⟨Ef,yQ⟩:=List.getElem?_eq_some_iff.mp ep
   have hm:p∈ps:=by rw[<-yQ];exact YV Ef
   refine(?_:let G_:Prop:=_;G_)
   intro G_
   obtain⟨gp,c1,b1⟩:=nQ g hm
   dsimp only[G_]
   have c0:=nO g i
   have b0:=nP g i
   simp_all only[JT,xO]
   refine⟨p,hq,gp,b1,bC (by omega) (by omega),p,hq,gp,b1,bC (by omega) (by omega),?_,?_,_,rfl⟩
   ·rw[take_snoc Ef,yQ,Yx,Ys,YX,gK,Zf]
   ·rw[take_snoc Ef,yQ,Yx,Ys,YX,gK,Zf]
  ·intro σ H' df
   refine(?_:let G_:Prop:=_;G_)
   intro G_
   obtain⟨rfl,z,rfl⟩:=df
   dsimp only[G_]
   rw[lx,YG (Yt _)]
   have c0:=g.2.1
   have b0:=g.2.2
   simp_all only[]
   rw[if_neg (by omega),if_neg (by omega)]
   exact kk
theorem j4:aT ["dice","sides","found","turn","longer","faces"] ["dice","sides"] (ar (top 22)):=⟨rfl,rfl,rfl,by decide +kernel,rfl,by decide +kernel,by decide +kernel⟩
theorem MM (T:Txt K mg aE aF aB aH af av):bX P w K mg base (bg P w) 1 "dice_faces" ["dice","sides"] JV:=by
 refine T.vq.du (λ_ _ _ _ _ _=>eD λ_ _=>rfl) λf fd F=>F.d3 j4 (λvs H Q E h=>?_) (λbT A outer s H vs Q E hr h=>?_)
 ·obtain⟨_,_,rfl,_⟩:=h;rfl
 ·refine(?_:let G_:Prop:=_;G_)
  intro G_
  obtain⟨d,s',rfl,s1,Sj,d6,hd,kk⟩:=h
  dsimp only[G_]
  have nd:=j4.nd
  refine⟨_,(ah (aI (i:=2) nd rfl (Or.inl rfl) (b5 (aa (b5 ag) ag (se rfl))))
  (ah (cI PassesOwn.never rfl (cC rfl T.z_range (aa (pv 0) ag (se rfl))) (aW (i:=3) nd rfl (Or.inl rfl)) (ah (aI (i:=4) nd rfl (Or.inl rfl) (b5 ag))
  (ah (cI PassesOwn.never rfl (bh (K:=K) (pv 2)) (aW (i:=5) nd rfl (Or.inr rfl)) (ao (bG (fH YN PySem.F.slot_list_extend PySem.F.type_list_extend uw.r (pv 4) (aa (cG rfl (N:=["dice","sides","found","turn","longer","faces"]) (so:=ar (top 22)) (N':=["face","faces"]) (k:=1) (fr:=[5]) rfl rfl ⟨rfl,by decide +kernel,by decide +kernel,by decide +kernel,rfl,by decide +kernel,by decide +kernel⟩ (BO rfl T.z_range (aa ae (aa (aG aO (pv 1) ae) ag (se rfl)) (se rfl))) (λ_ _ _ _ _=>(aW (i:=0) (show(["face","faces"]:List Str).Nodup by decide +kernel) rfl (Or.inl rfl))) (λ_ _ _ _ _=>dk)
   (λ_ _ _ _ _=>(aG Dh (pv 1) (b5 (aa (pv 0) ag (se rfl)))))) ag (se rfl))))))
  (ao (aI (i:=2) nd rfl (Or.inl rfl) (pv 4))))))
  (ao (aV (pv 2))))),?_⟩
  refine(?_:let bM:TS:=_;let bN:TS:=_;let bO:TS:=_;tSeq bM (tSeq bN bO) _ _ _)
  intro bM bN bO
  have sl:=sizeLine_eq
  simp_all only[]
  refine⟨YD _,λe0 m0=>⟨by decide,λl0 n0=>⟨by omega,by omega,?_⟩⟩⟩
  have s0:aD H (upd (upd H e0 (.lst [])) l0 (.lst [.ref e0])):=(aA m0).trans (aA n0)
  refine bU (src_range (Ok:=λ_=>True)) (λi σ H'=>aD H H'/\∃l xs z z' Oc,H' l=some (.lst xs)/\Al (Fa H') (GK s' i) xs/\σ=[some (.int (d:Int)),some (.int (s':Int)),some (.ref l),z,z',Oc]) ?_ (λ_ _ _ _ _=>trivial) ?_ ?_
  ·exact⟨s0,l0,_,_,_,_,aj,.one ⟨e0,rfl,aA n0 _ _ aj⟩,rfl⟩
  ·intro i x σ H' p6 hi gy gz
   refine(?_:let G_:Prop:=_;G_)
   intro G_
   obtain⟨sm,l,xs,z,z',Oc,hl,al,rfl⟩:=gy
   obtain⟨rfl,rfl⟩:=gz
   dsimp only[G_]
   have lx:=al.length
   rw[pZ] at lx
   have hle:s'^ (i+1)<=1296:=YB (Nat.pow_le_pow_right s1 (by omega)) hd
   have UH:s'^i<=1296:=YB (Nat.pow_le_pow_right s1 (by omega)) hd
   change tSeq _ _ _ _ _
   refine cY (λσ' H1=>aD p6 H1/\∃m,p6 m=none/\H1 m=some (.lst [])/\σ'=[some (.int (d:Int)),some (.int (s':Int)),some (.ref l),some (.int (0+i)),some (.ref m),Oc]) ?_ (λN hN=>?_)
   case refine_2=>
    simp_all only[]
    exact⟨YD _,λm nm=>hN _ _ ⟨aA nm,m,nm,aj,rfl⟩⟩
   intro _ H1 df
   refine(?_:let G_:Prop:=_;G_)
   intro G_
   obtain⟨FF,m,nm,hm,rfl⟩:=df
   dsimp only[G_]
   change tSeq _ _ _ _ _
   refine cY (λσ' H2=>aD p6 H2/\∃ys,H2 m=some (.lst ys)/\Al (Fa H2) (GK s' (i+1)) ys/\∃z,σ'=[some (.int (d:Int)),some (.int (s':Int)),some (.ref l),some (.int (0+i)),some (.ref m),z]) ?_ (λN hN=>?_)
   case refine_2=>
    simp_all only[]
    refine⟨⟨_,bI.of (FF _ _ hl)⟩,bU (src_list (Ok:=aD p6) (λH2 s2=>bI.of (s2 _ _ hl)))
     (λj σ H2=>aD p6 H2/\∃ys z,H2 m=some (.lst ys)/\ys.length=j*s'/\Al (Fa (cE H2 m)) (((GK s' i).take j).flatMap λf=>(List.range s').map λi:Nat=>f++ [((i:Nat):Int)+1]) ys/\σ=[some (.int (d:Int)),some (.int (s':Int)),some (.ref l),some (.int (0+i)),some (.ref m),z])
     ⟨FF,[],_,hm,by simp,trivial,rfl⟩ (λ_ _ _ _ h=>h.1) ?_ ?_⟩
    ·intro j x σ H2 H3 hj gy gz
     refine(?_:let G_:Prop:=_;G_)
     intro G_
     obtain⟨x6,ys,z,uJ,ly,ay,rfl⟩:=gy
     obtain⟨rfl,ex⟩:=gz
     obtain⟨f,ef,q,rfl,hq⟩:=al.get ex
     dsimp only[G_]
     obtain⟨UI,UJ⟩:=List.getElem?_eq_some_iff.mp ef
     have fl:=(vD s' i f (by rw[<-UJ];exact YV UI)).1
     have Od:=x6 _ _ hq
     simp_all only[vc]
     refine⟨.inl ⟨rfl,_,bI.of uJ⟩,by omega,by omega,by omega,by omega,?_⟩
     rw[show((s':Int)+1 - 1).toNat=s' by omega]
     refine comp_map src_range (λ_ _ _ _ h=>by rw[h.1];exact aD.refl _) (by omega) (λk y H4=>Fa (cE H4 m) (f++ [((k:Nat):Int)+1]) y) (λk y H4 H5 s5 h=>h.mono (gI s5)) ?_ ?_
     ·rintro k x w0 H4 H5 Q2 hk s4 ⟨rfl,rfl⟩ kq
      simp_all only[Jg]
      refine⟨by decide,λa1 n1=>⟨_,aA n1 _ _ (s4 _ _ Od),_,aj,by rw[Yr];simp only[YC,Y9];omega,λa2 n2=>kq _ _ ((aA n1).trans (aA n2)) ⟨a2,rfl,?_⟩⟩⟩
      have ne:a2≠m:=λe=>by
       subst e
       rw[aA n1 _ _ (s4 _ _ uJ)] at n2
       cases n2
      rw[cK ne,aj,Yx,Int.add_comm]
      rfl
     ·intro zs H4 s4 lz hz D n1 n2
      have UK:=s4 _ _ uJ
      have jm:j*s'<=s'^ (i+1):=by rw[Nat.pow_succ];exact Nat.mul_le_mul_right _ (by omega)
      have UM:∀{k:Nat},k=j*s'+s'->k<=sizeLine:=λe=>by omega
      refine⟨_,aA n2 _ _ UK,_,aj,UM (by rw[ly,lz]),?_⟩
      have s5:aD H3 (upd H4 D (.lst zs)):=s4.trans (aA n2)
      refine⟨cA (x6.trans s5) nm,_,aj,by rw[Yy,ly,lz,Nat.succ_mul],?_,_,rfl⟩
      rw[A8,YS,ef,List.flatMap_append]
      refine Al.append (ay.imp λ_ _ h=>h.mono (gI s5)) ?_
      simp only[Option.toList,List.flatMap_cons,List.flatMap_nil,List.append_nil]
      refine Al.of (by rw[Yr,Y0];exact lz) λk y g e1 e2=>?_
      rw[Yu] at e2
      refine(?_:let G_:Prop:=_;G_)
      intro G_
      obtain⟨k',ek,rfl⟩:=Option.map_eq_some_iff.mp e2
      dsimp only[G_]
      obtain⟨XH,Sk⟩:=List.getElem?_eq_some_iff.mp ek
      rw[List.getElem_range] at Sk
      subst Sk
      exact(hz _ _ e1).mono (gI (aA n2))
    ·intro σ H2 df
     refine(?_:let G_:Prop:=_;G_)
     intro G_
     obtain⟨x6,ys,z,uJ,ly,ay,rfl⟩:=df
     dsimp only[G_]
     refine hN _ _ ⟨x6,ys,uJ,?_,_,rfl⟩
     rw[lx,<-pZ s' i,YG (Yt _)] at ay
     exact ay.imp λ_ _ h=>h.mono cZ
   intro _ H2 df
   refine(?_:let G_:Prop:=_;G_)
   intro G_
   obtain⟨x6,ys,uJ,ay,z,rfl⟩:=df
   dsimp only[G_]
   simp_all only[]
   first | exact⟨sm.trans x6,m,_,uJ,ay,rfl,⟨_,rfl⟩,⟨_,rfl⟩,⟨_,rfl⟩⟩ | exact⟨sm.trans x6,m,_,uJ,ay,rfl,_,_,rfl⟩ | exact⟨sm.trans x6,m,_,uJ,ay,rfl,⟨_,rfl⟩,_,rfl⟩ | exact⟨sm.trans x6,m,_,uJ,ay,rfl,_,rfl⟩
  ·intro σ H' df
   refine(?_:let G_:Prop:=_;G_)
   intro G_
   obtain⟨sm,l,xs,z,z',Oc,hl,al,rfl⟩:=df
   dsimp only[G_]
   rw[YL] at al
   simp_all only[]
   exact kk _ _ _ sm hl al
theorem qY:aT ["low","sides","found","face"] ["low","sides"] (ar (top 23)):=⟨rfl,rfl,rfl,by decide +kernel,rfl,by decide +kernel,by decide +kernel⟩
theorem MN (T:Txt K mg aE aF aB aH af av):bX P w K mg base (bg P w) 1 "again_faces" ["low","sides"] GP:=by
 refine T.tq.du (λ_ _ _ _ _ _=>eD λ_ _=>rfl) λf fd F=>F.d3 qY (λvs H Q E h=>h.elim) (λbT A outer s H vs Q E hr h=>h.elim)
theorem qZ:aT ["most","sides","found","ahead"] ["most","sides"] (ar (top 24)):=⟨rfl,rfl,rfl,by decide +kernel,rfl,by decide +kernel,by decide +kernel⟩
theorem MO (T:Txt K mg aE aF aB aH af av):bX P w K mg base (bg P w) 1 "burst_faces" ["most","sides"] GP:=by
 refine T.tz.du (λ_ _ _ _ _ _=>eD λ_ _=>rfl) λf fd F=>F.d3 qZ (λvs H Q E h=>h.elim) (λbT A outer s H vs Q E hr h=>h.elim)
theorem j5:aT ["part"] ["part"] (ar (top 25)):=⟨rfl,rfl,rfl,by decide +kernel,rfl,by decide +kernel,by decide +kernel⟩
theorem MP (T:Txt K mg aE aF aB aH af av):bX P w K mg base (bg P w) 2 "part_faces" ["part"] JW:=by
 have eg:bX P w K mg base (bg P w) 1 "most_faces" ["part"] D2:=Ed T
 have vM:bX P w K mg base (bg P w) 1 "dice_faces" ["dice","sides"] JV:=MM T
 have tP:bX P w K mg base (bg P w) 1 "again_faces" ["low","sides"] GP:=MN T
 have tQ:bX P w K mg base (bg P w) 1 "burst_faces" ["most","sides"] GP:=MO T
 refine T.vt.du (λ_ _ _ _ _ _=>gJ λ_=>rfl) λf fd F=>F.d3 j5 (λvs H Q E h=>?_) (λbT A outer s H vs Q E hr h=>?_)
 ·obtain⟨_,_,rfl,_⟩:=h;rfl
 ·refine(?_:let G_:Prop:=_;G_)
  intro G_
  obtain⟨q,p,rfl,hq,g,hc,kk⟩:=h
  dsimp only[G_]
  have nd:=j5.nd
  refine⟨_,(ah (bf (aL bp (aq ai (pv 0) ae (λ_ _=>rfl)) aZ (aS _)) (ao (aV (b5 (aa (b5 ag) ag (se rfl)))))
   aY)
  (ah (bf (aL bp (aq ai (pv 0) ae (λ_ _=>rfl)) aZ (aS _)) (ao (aV (aK tP (hr.mono (by decide)) rfl au.pass (aa (aq ai (pv 0) ae (λ_ _=>rfl)) (aa (aq ai (pv 0) ae (λ_ _=>rfl)) ag (se rfl)) (se rfl)) (he:=se rfl) (hpl:=na rfl))))
   aY)
  (ah (bf (aL bp (aq ai (pv 0) ae (λ_ _=>rfl)) aZ (aS _)) (ao (aV (aK tQ (hr.mono (by decide)) rfl au.pass (aa (aK eg (hr.mono (by decide)) rfl au.pass (aa (pv 0) ag (se rfl)) (he:=se rfl) (hpl:=na rfl)) (aa (aq ai (pv 0) ae (λ_ _=>rfl)) ag (se rfl)) (se rfl)) (he:=se rfl) (hpl:=na rfl))))
   aY)
  (ao (aV (aK vM (hr.mono (by decide)) rfl au.pass (aa (aq ai (pv 0) (gC eF ae) (λ_ _=>rfl)) (aa (aq ai (pv 0) (gC eF ae) (λ_ _=>rfl)) ag (se rfl)) (se rfl)) (he:=se rfl) (hpl:=na rfl))))))),?_⟩
  refine(?_:let bM:TS:=_;let bN:TS:=_;let bO:TS:=_;let cM:TS:=_;tSeq bM (tSeq bN (tSeq bO cM)) _ _ _)
  intro bM bN bO cM
  cases p with
  | num n=>
   simp only[tN] at hq
   simp_all only[hq]
   refine⟨YD _,λe0 m0=>⟨by decide,λl0 n0=>kk _ _ _ ((aA m0).trans (aA n0)) aj (.one ⟨e0,rfl,aA n0 _ _ aj⟩)⟩⟩
  | cO m s=>
   simp only[tN] at hq
   simp_all only[hq,JV]
   rw[if_neg (by decide +kernel),if_neg (by decide +kernel),if_neg (by decide +kernel)]
   refine⟨_,rfl,_,rfl,m,rfl,s,rfl,g.1,g.2.1,g.2.2,hc,kk⟩
theorem oV:aT ["part","faces"] ["part","faces"] (ar (top 26)):=⟨rfl,rfl,rfl,by decide +kernel,rfl,by decide +kernel,by decide +kernel⟩
theorem MQ (T:Txt K mg aE aF aB aH af av):bX P w K mg base (bg P w) 1 "value_of" ["part","faces"] JX:=by
 refine T.zH.du (λ_ _ _ _ _ _=>eD λ_ _=>rfl) λf fd F=>F.d3 oV (λvs H Q E h=>?_) (λbT A outer s H vs Q E hr h=>?_)
 ·obtain⟨_,_,_,_,rfl,_⟩:=h;rfl
 ·refine(?_:let G_:Prop:=_;G_)
  intro G_
  obtain⟨q,p,l,fs,rfl,hq,hl,g,hf,kk⟩:=h
  dsimp only[G_]
  have nd:=oV.nd
  refine⟨_,(ah (bf (aL bp (aq ai (pv 0) ae (λ_ _=>rfl)) aZ (aS _)) (ao (aV (aq ai (pv 0) ae (λ_ _=>rfl))))
   aY)
  (ah (bf (aL bp (aq ai (pv 0) ae (λ_ _=>rfl)) aZ (aS _)) (ao (aV (aX (iD (K:=K)) (by rfl) T.z_sum rfl (aa (qo (qx (K:=K)) (Cd (K:=K) rfl T.z_sorted (pv 1) oK (n1:=rfl)) AF (pV (aq ai (pv 0) ae (λ_ _=>rfl)))) ag (se rfl)) (he:=se rfl) (hpl:=na rfl))))
   aY)
  (ah (bf (aL bp (aq ai (pv 0) ae (λ_ _=>rfl)) aZ (aS _)) (ao (aV (aX (iD (K:=K)) (by rfl) T.z_sum rfl (aa (qo (qx (K:=K)) (aX (qv (K:=K)) (by rfl) T.z_sorted rfl (aa (pv 1) ag (se rfl)) (he:=se rfl) (hpl:=na rfl)) AF (pV (aq ai (pv 0) ae (λ_ _=>rfl)))) ag (se rfl)) (he:=se rfl) (hpl:=na rfl))))
   aY)
  (ah (bf (aL bp (aq ai (pv 0) ae (λ_ _=>rfl)) aZ (aS _)) (ao (aV (aX bq (by rfl) T.z_len YH (aa (cG rfl (N:=["part","faces"]) (so:=ar (top 26)) (N':=["face","part"]) (k:=1) (fr:=[0]) rfl rfl ⟨rfl,by decide +kernel,by decide +kernel,by decide +kernel,rfl,by decide +kernel,by decide +kernel⟩ (bh (K:=K) (pv 1)) (λ_ _ _ _ _=>(aW (i:=0) (show(["face","part"]:List Str).Nodup by decide +kernel) rfl (Or.inl rfl))) (λ_ _ _ _ _=>(eM (aL AD (pv 0) (aq ai (pv 1) ae (λ_ _=>rfl)) (aS _))))
   (λ_ _ _ _ _=>(pv 0))) ag (se rfl)) (he:=se rfl) (hpl:=na rfl))))
   aY)
  (ah (bf (aL bp (aq ai (pv 0) ae (λ_ _=>rfl)) aZ (aS _)) (ao (aV (aq aQ (pv 1) (gC eF ae) (λ_ _=>rfl))))
   aY)
  (ao (aV (aX (iD (K:=K)) (by rfl) T.z_sum rfl (aa (pv 1) ag (se rfl)) (he:=se rfl) (hpl:=na rfl))))))))),?_⟩
  refine(?_:let bM:TS:=_;let bN:TS:=_;let bO:TS:=_;let cM:TS:=_;let oW:TS:=_;let x8:TS:=_;tSeq bM (tSeq bN (tSeq bO (tSeq cM (tSeq oW x8)))) _ _ _)
  intro bM bN bO cM oW x8
  have sl:=sizeLine_eq
  have fl:=(ma g fs hf).2
  have ml:=qO g
  cases p with
  | num n=>
   simp only[tN] at hq
   simp_all only[hq]
   exact kk _ (aD.refl _)
  | cO m s=>
   simp only[tN] at hq
   simp_all only[hq]
   rw[if_neg (by decide +kernel),if_neg (by decide +kernel),if_neg (by decide +kernel),if_neg (by decide +kernel),if_neg (by decide +kernel)]
   exact⟨fs,bI.of hl,kk _ (aD.refl _)⟩
theorem gL:aT ["part","faces","product","face"] ["part","faces"] (ar (top 27)):=⟨rfl,rfl,rfl,by decide +kernel,rfl,by decide +kernel,by decide +kernel⟩
theorem MR (T:Txt K mg aE aF aB aH af av):bX P w K mg base (bg P w) 1 "sides_product" ["part","faces"] JY:=by
 refine T.pj.du (λ_ _ _ _ _ _=>eD λ_ _=>rfl) λf fd F=>F.d3 gL (λvs H Q E h=>?_) (λbT A outer s H vs Q E hr h=>?_)
 ·obtain⟨_,_,_,_,rfl,_⟩:=h;rfl
 ·refine(?_:let G_:Prop:=_;G_)
  intro G_
  obtain⟨q,p,l,fs,rfl,hq,hl,g,hf,kk⟩:=h
  dsimp only[G_]
  have nd:=gL.nd
  refine⟨_,(ah (aI (i:=2) nd rfl (Or.inl rfl) ae)
  (ah (cI PassesOwn.never rfl (bh (K:=K) (pv 1)) (aW (i:=3) nd rfl (Or.inl rfl)) (ao (aI (i:=2) nd rfl (Or.inl rfl) (aG ba (pv 2) (aq ai (pv 0) (gC eF ae) (λ_ _=>rfl))))))
  (ao (aV (pv 2))))),?_⟩
  refine(?_:let bM:TS:=_;let bN:TS:=_;let bO:TS:=_;tSeq bM (tSeq bN bO) _ _ _)
  intro bM bN bO
  have fl:=(ma g fs hf).2
  have ml:=qO g
  have XI:=JQ g
  have Sj:=(vF g).2
  have e0:0<fs.length->lst p=sd p:=λh=>by
   cases p with
   | num n=>rw[List.mem_singleton.mp hf] at h;cases h
   | _=>rfl
  simp_all only[]
  refine⟨⟨_,bI.of hl⟩,bU (src_list (Ok:=λH'=>H=H') (λH' e=>by subst e;exact bI.of hl)) (λi σ H'=>H=H'/\∃z,σ=[some (.ref q),some (.ref l),some (.int ((sd p^i:Nat):Int)),z]) ⟨rfl,_,rfl⟩ (λ_ _ _ _ h=>h.1) ?_ ?_⟩
  ·intro i x σ H' p6 hi gy gz
   refine(?_:let G_:Prop:=_;G_)
   intro G_
   obtain⟨rfl,z,rfl⟩:=gy
   obtain⟨rfl,ex⟩:=gz
   dsimp only[G_]
   rw[Yr] at hi
   have le:=Ck (e:=i) Sj (by omega)
   have e1:=e0 (by omega)
   simp_all only[]
   refine⟨_,hq,_,D1 p,?_⟩
   simp_all only[]
   refine⟨bC (by omega) (by omega),?_,_,rfl⟩
   rw[Nat.pow_succ,Zf,e1]
  ·intro σ H' df
   refine(?_:let G_:Prop:=_;G_)
   intro G_
   obtain⟨rfl,z,rfl⟩:=df
   dsimp only[G_]
   rw[Yr]
   simp_all only[]
   exact kk
theorem iJ:aT ["part"] ["part"] (ar (top 28)):=⟨rfl,rfl,rfl,by decide +kernel,rfl,by decide +kernel,by decide +kernel⟩
theorem MS (T:Txt K mg aE aF aB aH af av):bX P w K mg base (bg P w) 3 "part_throws" ["part"] JZ:=by
 have vN:bX P w K mg base (bg P w) 2 "part_faces" ["part"] JW:=MP T
 have zQ:bX P w K mg base (bg P w) 1 "value_of" ["part","faces"] JX:=MQ T
 have pA:bX P w K mg base (bg P w) 1 "sides_product" ["part","faces"] JY:=MR T
 refine T.tD.du (λ_ _ _ _ _ _=>gJ λ_=>rfl) λf fd F=>F.d3 iJ (λvs H Q E h=>?_) (λbT A outer s H vs Q E hr h=>?_)
 ·obtain⟨_,_,rfl,_⟩:=h;rfl
 ·refine(?_:let G_:Prop:=_;G_)
  intro G_
  obtain⟨q,p,rfl,hq,g,hc,kk⟩:=h
  dsimp only[G_]
  have nd:=iJ.nd
  refine⟨_,(ao (aV (cG rfl (N:=["part"]) (so:=ar (top 28)) (N':=["faces","part"]) (k:=1) (fr:=[0]) rfl rfl ⟨rfl,by decide +kernel,by decide +kernel,by decide +kernel,rfl,by decide +kernel,by decide +kernel⟩ (bh (K:=K) (aK vN (hr.mono (by decide)) rfl au.pass (aa (pv 0) ag (se rfl)) (he:=se rfl) (hpl:=na rfl))) (λ_ _ _ _ _=>(aW (i:=0) (show(["faces","part"]:List Str).Nodup by decide +kernel) rfl (Or.inl rfl))) (λ_ _ _ _ _=>dk)
   (λ_ _ _ _ _=>(a5 (aa (pv 0) (aa (aK zQ (hr.mono (by decide)) rfl au.pass (aa (pv 1) (aa (pv 0) ag (se rfl)) (se rfl)) (he:=se rfl) (hpl:=na rfl)) (aa (aK pA (hr.mono (by decide)) rfl au.pass (aa (pv 1) (aa (pv 0) ag (se rfl)) (se rfl)) (he:=se rfl) (hpl:=na rfl)) ag (se rfl)) (se rfl)) (se rfl))))))),?_⟩
  have sl:=sizeLine_eq
  simp_all only[JW]
  refine⟨p,hq,g,hc,λl H1 xs s1 hl al=>⟨⟨_,bI.of hl⟩,?_⟩⟩
  have lx:=al.length
  rw[l8] at lx
  refine comp_map (src_list (λH2 s2=>bI.of (s2 _ _ hl))) (λ_ _ _ _ h=>by rw[h.1];exact aD.refl _) (by omega) (λi y H2=>∀f,(GL p)[i]?=some f->TR (λ_=>none) H2 (f,val p f,sd p^f.length) y) (λi y H2 H3 s3 h f e=>(h f e).mono s3) ?_ ?_
  ·rintro i x w0 H2 H3 Q2 hi s2 ⟨rfl,ex⟩ kq
   refine(?_:let G_:Prop:=_;G_)
   intro G_
   obtain⟨fs,ef,b,rfl,hb⟩:=al.get ex
   dsimp only[G_]
   have hf:fs∈GL p:=YI ef
   have Od:=s2 _ _ (s1 _ _ hq)
   have PY:=s2 _ _ hb
   simp_all only[JX,JY]
   refine⟨p,Od,fs,PY,g,hf,λH4 s4=>⟨p,s4 _ _ Od,fs,s4 _ _ PY,g,hf,by decide,λa H5 s5 na e5=>kq _ _ (s4.trans s5) λf e=>?_⟩⟩
   rw[ef] at e
   cases e
   exact⟨a,b,rfl,e5,s5 _ _ (s4 _ _ PY),rfl⟩
  ·intro ys H2 s2 ly hy D n1 n2
   refine kk _ _ _ (s1.trans (s2.trans (aA n2))) aj ?_
   refine Al.of (by unfold FA;rw[Yr,l8];omega) λi y r e1 e2=>?_
   unfold FA at e2
   rw[Yu] at e2
   refine(?_:let G_:Prop:=_;G_)
   intro G_
   obtain⟨f,ef,rfl⟩:=Option.map_eq_some_iff.mp e2
   dsimp only[G_]
   exact(hy i y e1 f ef).mono (aA n2)
theorem fe:aT ["pool","found","part","behind","longer","faces","value","bottom"] ["pool"] (ar (top 29)):=⟨rfl,rfl,rfl,by decide +kernel,rfl,by decide +kernel,by decide +kernel⟩
theorem MT (T:Txt K mg aE aF aB aH af av):bX P w K mg base (bg P w) 5 "throws_by_bottom" ["pool"] J0:=by
 have vO:bX P w K mg base (bg P w) 4 "check_size" ["pool"] JU:=ML T
 have tR:bX P w K mg base (bg P w) 3 "part_throws" ["part"] JZ:=MS T
 refine T.kD.du (λ_ _ _ _ _ _=>gJ λ_=>rfl) λf fd F=>F.d3 fe (λvs H Q E h=>?_) (λbT A outer s H vs Q E hr h=>?_)
 ·obtain⟨_,_,rfl,_⟩:=h;rfl
 ·refine(?_:let G_:Prop:=_;G_)
  intro G_
  obtain⟨a,ps,rfl,hp,g,l4,kk⟩:=h
  dsimp only[G_]
  clear G_
  have nd:=fe.nd
  refine⟨_,(ah (bG (aK vO (hr.mono (by decide)) rfl au.pass (aa (pv 0) ag (se rfl)) (he:=se rfl) (hpl:=na rfl)))
  (ah (aI (i:=1) nd rfl (Or.inl rfl) (b5 (aa (a5 (aa (b5 ag) (aa ae (aa ae ag (se rfl)) (se rfl)) (se rfl))) ag (se rfl))))
  (ah (cI PassesOwn.never rfl (bh (K:=K) (pv 0)) (aW (i:=2) nd rfl (Or.inl rfl)) (ah (aI (i:=3) nd rfl (Or.inl rfl) (aK tR (hr.mono (by decide)) rfl au.pass (aa (pv 2) ag (se rfl)) (he:=se rfl) (hpl:=na rfl)))
  (ah (aI (i:=4) nd rfl (Or.inl rfl) (b5 ag))
  (ah (cI PassesOwn.never rfl (bh (K:=K) (pv 1)) (d4 (K:=K) (n:=3) rfl (bA (aW (i:=5) nd rfl (Or.inr rfl)) (bA (aW (i:=6) nd rfl (Or.inr rfl)) (bA (aW (i:=7) nd rfl (Or.inr rfl)) dX)))) (ao (bG (fH YN PySem.F.slot_list_extend PySem.F.type_list_extend uw.r (pv 4) (aa (cG rfl (N:=["pool","found","part","behind","longer","faces","value","bottom"]) (so:=ar (top 29)) (N':=["more","faces","value","bottom"]) (k:=1) (fr:=[5,6,7]) rfl rfl ⟨rfl,by decide +kernel,by decide +kernel,by decide +kernel,rfl,by decide +kernel,by decide +kernel⟩ (bh (K:=K) (pv 3)) (λ_ _ _ _ _=>(aW (i:=0) (show(["more","faces","value","bottom"]:List Str).Nodup by decide +kernel) rfl (Or.inl rfl))) (λ_ _ _ _ _=>dk)
   (λ_ _ _ _ _=>(a5 (aa (aG Dh (pv 1) (aq ai (pv 0) ae (λ_ _=>rfl))) (aa (aG aO (pv 2) (aq ai (pv 0) ae (λ_ _=>rfl))) (aa (aG ba (pv 3) (aq ai (pv 0) ae (λ_ _=>rfl))) ag (se rfl)) (se rfl)) (se rfl))))) ag (se rfl))))))
  (ao (aI (i:=1) nd rfl (Or.inl rfl) (pv 4)))))))
  (ao (aV (pv 1)))))),?_⟩
  refine(?_:let bM:TS:=_;let bN:TS:=_;let bO:TS:=_;let cM:TS:=_;tSeq bM (tSeq bN (tSeq bO cM)) _ _ _)
  intro bM bN bO cM
  have sl:=sizeLine_eq
  refine(?_:let G_:Prop:=_;G_)
  intro G_
  obtain⟨vs,ha,ap⟩:=hp
  dsimp only[G_]
  clear G_
  have lv:=ap.length
  change tSeq _ _ _ _ _
  refine cY (λσ' H1=>H=H1/\σ'=[some (.ref a),none,none,none,none,none,none,none]) ?_ (λN hN=>?_)
  case refine_2=>
   simp_all only[JU]
   exact⟨ps,⟨vs,ha,ap⟩,g,hN _ _ ⟨rfl,rfl⟩⟩
  rintro _ _ ⟨rfl,rfl⟩
  change tSeq _ _ _ _ _
  refine cY (λσ' H1=>aD H H1/\∃l xs,H1 l=some (.lst xs)/\Al (TR H H1) (d7 []) xs/\σ'=[some (.ref a),some (.ref l),none,none,none,none,none,none]) ?_ (λN hN=>?_)
  case refine_2=>
   simp_all only[]
   refine⟨YD _,λe0 m0=>⟨by decide,λt H1 s1 nt e1=>⟨by decide,λl n1=>hN _ _ ⟨(aA m0).trans (s1.trans (aA n1)),l,_,aj,.one ⟨t,e0,rfl,aA n1 _ _ e1,aA n1 _ _ (s1 _ _ aj),m0⟩,rfl⟩⟩⟩⟩
  intro _ H1 df
  refine(?_:let G_:Prop:=_;G_)
  intro G_
  obtain⟨FF,l,xs,hl,al,rfl⟩:=df
  dsimp only[G_]
  clear G_
  change tSeq _ _ _ _ _
  refine cY (λσ' H2=>aD H H2/\∃l xs,H2 l=some (.lst xs)/\Al (TR H H2) (d7 ps) xs/\∃z1 z2 z3 z4 z5 z6,σ'=[some (.ref a),some (.ref l),z1,z2,z3,z4,z5,z6]) ?_ (λN hN=>?_)
  case refine_2=>
   simp_all only[]
   refine⟨⟨_,bI.of (FF _ _ ha)⟩,bU (src_list (Ok:=aD H) (λH2 s2=>bI.of (s2 _ _ ha)))
    (λi σ H2=>aD H H2/\∃l xs z1 z2 z3 z4 z5 z6,H2 l=some (.lst xs)/\Al (TR H H2) (d7 (ps.take i)) xs/\σ=[some (.ref a),some (.ref l),z1,z2,z3,z4,z5,z6])
    ⟨FF,l,xs,_,_,_,_,_,_,hl,al,rfl⟩ (λ_ _ _ _ h=>h.1) ?_ ?_⟩
   ·clear hl al xs l
    intro i x σ H2 H3 hi gy gz
    refine(?_:let G_:Prop:=_;G_)
    intro G_
    obtain⟨x6,l,xs,z1,z2,z3,z4,z5,z6,hl,al,rfl⟩:=gy
    obtain⟨rfl,ex⟩:=gz
    obtain⟨p,ep,q,rfl,hq⟩:=ap.get ex
    dsimp only[G_]
    obtain⟨Ef,yQ⟩:=List.getElem?_eq_some_iff.mp ep
    have hm:p∈ps:=by rw[<-yQ];exact YV Ef
    refine(?_:let G_:Prop:=_;G_)
    intro G_
    obtain⟨gp,c1,b1⟩:=nQ g hm
    dsimp only[G_]
    have lx:=al.length
    rw[p3] at lx
    have c0:=nO g i
    have c2:=nO g (i+1)
    have es:d7 (ps.take (i+1))=uK (d7 (ps.take i)) p:=by rw[take_snoc Ef,yQ,qQ]
    have ec:iF ((ps.take (i+1)).map cnt)=iF ((ps.take i).map cnt)*cnt p:=by rw[take_snoc Ef,yQ,Yx,Ys,YX,gK]
    rw[ec] at c2
    change tSeq _ _ _ _ _
    refine cY (λσ' H4=>aD H3 H4/\∃b bs,H4 b=some (.lst bs)/\Al (TR (λ_=>none) H4) (FA p) bs/\σ'=[some (.ref a),some (.ref l),some (.ref q),some (.ref b),z3,z4,z5,z6]) ?_ (λN hN=>?_)
    case refine_2=>
     simp_all only[JZ]
     exact⟨p,x6 _ _ hq,gp,c1,λb H4 bs s4 hb ab=>hN _ _ ⟨s4,b,bs,hb,ab,rfl⟩⟩
    intro _ H4 df
    refine(?_:let G_:Prop:=_;G_)
    intro G_
    obtain⟨Oe,b,bs,hb,ab,rfl⟩:=df
    dsimp only[G_]
    have lb:=ab.length
    unfold FA at lb
    rw[Yr,l8] at lb
    have hl:=Oe _ _ hl
    have al:=al.imp λ_ _ h=>TR.mono Oe h
    change tSeq _ _ _ _ _
    refine cY (λσ' H5=>aD H4 H5/\∃m,H4 m=none/\H5 m=some (.lst [])/\σ'=[some (.ref a),some (.ref l),some (.ref q),some (.ref b),some (.ref m),z4,z5,z6]) ?_ (λN hN=>?_)
    case refine_2=>
     simp_all only[]
     exact⟨YD _,λm nm=>hN _ _ ⟨aA nm,m,nm,aj,rfl⟩⟩
    intro _ H5 df
    refine(?_:let G_:Prop:=_;G_)
    intro G_
    obtain⟨Sl,m,nm,UN,rfl⟩:=df
    dsimp only[G_]
    change tSeq _ _ _ _ _
    refine cY (λσ' H6=>aD H4 H6/\∃ys,H6 m=some (.lst ys)/\Al (TR H H6) (uK (d7 (ps.take i)) p) ys/\∃z4 z5 z6,σ'=[some (.ref a),some (.ref l),some (.ref q),some (.ref b),some (.ref m),z4,z5,z6]) ?_ (λN hN=>?_)
    case refine_2=>
     simp_all only[]
     refine⟨⟨_,bI.of (Sl _ _ hl)⟩,bU (src_list (Ok:=aD H4) (λH2 s2=>bI.of (s2 _ _ hl)))
      (λj σ H6=>aD H4 H6/\∃ys z4 z5 z6,H6 m=some (.lst ys)/\ys.length=j*cnt p/\Al (TR H (cE H6 m)) (uK ((d7 (ps.take i)).take j) p) ys/\σ=[some (.ref a),some (.ref l),some (.ref q),some (.ref b),some (.ref m),z4,z5,z6])
      ⟨Sl,[],_,_,_,UN,by simp,trivial,rfl⟩ (λ_ _ _ _ h=>h.1) ?_ ?_⟩
     ·intro j x σ H6 H7 hj gy gz
      refine(?_:let G_:Prop:=_;G_)
      intro G_
      obtain⟨Eg,ys,z4,z5,z6,Ia,ly,ay,rfl⟩:=gy
      obtain⟨rfl,ex⟩:=gz
      obtain⟨r,er,t,fq,rfl,ht,PZ,XJ⟩:=al.get ex
      dsimp only[G_]
      have Eh:=A7 g.1 i (by omega) r (YI er)
      have ht:=Eg _ _ ht
      have PZ:=Eg _ _ PZ
      have Sm:=Eg _ _ hb
      have b0:=nP g i
      refine⟨t,_,rfl,jn.of ht,rfl,_,_,rfl,_,_,rfl,_,_,rfl,rfl,?_⟩
      simp_all only[vc]
      refine⟨.inl ⟨rfl,_,bI.of Ia⟩,⟨_,bI.of Sm⟩,?_⟩
      refine comp_map (src_list (λH2 s2=>bI.of (s2 _ _ Sm))) (λ_ _ _ _ h=>by rw[h.1];exact aD.refl _) (by omega) (λk y H8=>∀u,(FA p)[k]?=some u->TR H (cE H8 m) (r.1++u.1,r.2.1+u.2.1,r.2.2*u.2.2) y) (λk y H8 H9 s9 h u e=>(h u e).mono (gI s9)) ?_ ?_
      ·rintro k x w0 H8 H9 Q2 hk s8 ⟨rfl,ex⟩ kq
       refine(?_:let G_:Prop:=_;G_)
       intro G_
       obtain⟨u,eu,c,d,rfl,hc,hd,_⟩:=ab.get ex
       dsimp only[G_]
       have Sn:=s8 _ _ (Eg _ _ hc)
       have UO:=s8 _ _ (Eg _ _ hd)
       have P0:=s8 _ _ PZ
       have lu:u.1.length<=7:=by
        have hu:=YI eu
        unfold FA at hu
        refine(?_:let G_:Prop:=_;G_)
        intro G_
        obtain⟨f,hf,rfl⟩:=List.mem_map.mp hu
        dsimp only[G_]
        exact YB (ma gp f hf).2 (qO gp)
       simp_all only[Jg,Sn,UO,P0]
       refine⟨by rw[Yr,Yr];omega,λa1 n1=>?_⟩
       have s9:=aA (o:=.lst (List.map V.int r.1++List.map V.int u.1)) n1
       simp only[s9 _ _ Sn]
       refine⟨_,rfl,_,at1,_,rfl,_,rfl,_,at2,_,rfl,bC (by omega) (by omega),by decide,λt2 J8 CF CG Si=>kq _ _ (s9.trans CF) λu' So=>?_⟩
       rw[eu] at So
       cases So
       have UP:=s9 _ _ (s8 _ _ Ia)
       refine⟨t2,a1,rfl,?_,?_,?_⟩
       ·rw[cK (λe=>by rw[e,UP] at CG;cases CG),Si,Zf]
       ·rw[cK (λe=>by rw[e,s8 _ _ Ia] at n1;cases n1),CF _ _ aj,Yx]
       ·exact none_of (x6.trans (Oe.trans (Eg.trans s8))) n1
      ·intro zs H8 s8 lz hz D n1 n2
       have UQ:=s8 _ _ Ia
       have jm:j*cnt p+cnt p<=iF ((ps.take i).map cnt)*cnt p:=by
        rw[<-Nat.succ_mul]
        exact Nat.mul_le_mul_right _ (by omega)
       refine⟨_,aA n2 _ _ UQ,_,aj,by omega,?_⟩
       have s9:aD H7 (upd H8 D (.lst zs)):=s8.trans (aA n2)
       refine⟨cA (Eg.trans s9) nm,_,aj,by rw[Yy,ly,lz,lb,Nat.succ_mul],?_,_,rfl⟩
       rw[A8,YS,er]
       unfold uK
       rw[List.flatMap_append]
       refine Al.append (ay.imp λ_ _ h=>h.mono (gI s9)) ?_
       simp only[Option.toList,List.flatMap_cons,List.flatMap_nil,List.append_nil]
       refine Al.of (by rw[Yr];unfold FA;rw[Yr,l8];omega) λk y v e1 e2=>?_
       rw[Yu] at e2
       refine(?_:let G_:Prop:=_;G_)
       intro G_
       obtain⟨u,eu,rfl⟩:=Option.map_eq_some_iff.mp e2
       dsimp only[G_]
       exact(hz _ _ e1 u eu).mono (gI (aA n2))
     ·intro σ H6 df
      refine(?_:let G_:Prop:=_;G_)
      intro G_
      obtain⟨Eg,ys,z4,z5,z6,Ia,ly,ay,rfl⟩:=df
      dsimp only[G_]
      refine hN _ _ ⟨Eg,ys,Ia,?_,_,_,_,rfl⟩
      rw[lx,<-p3,YG (Yt _)] at ay
      exact ay.imp λ_ _ h=>h.mono cZ
    intro _ H6 df
    refine(?_:let G_:Prop:=_;G_)
    intro G_
    obtain⟨Eg,ys,Ia,ay,z4,z5,z6,rfl⟩:=df
    dsimp only[G_]
    simp_all only[]
    rw[es]
    exact⟨x6.trans (Oe.trans Eg),m,_,Ia,ay,rfl,_,rfl⟩
   ·intro σ H2 df
    refine(?_:let G_:Prop:=_;G_)
    intro G_
    obtain⟨x6,l,xs,z1,z2,z3,z4,z5,z6,hl,al,rfl⟩:=df
    dsimp only[G_]
    rw[lv,YG (Yt _)] at al
    exact hN _ _ ⟨x6,l,xs,hl,al,_,_,_,_,_,_,rfl⟩
  intro _ H2 df
  refine(?_:let G_:Prop:=_;G_)
  intro G_
  obtain⟨x6,l,xs,hl,al,z1,z2,z3,z4,z5,z6,rfl⟩:=df
  dsimp only[G_]
  simp_all only[]
  exact kk _ _ _ x6 hl al
theorem j6:aT ["pool","found","common","part"] ["pool"] (ar (top 30)):=⟨rfl,rfl,rfl,by decide +kernel,rfl,by decide +kernel,by decide +kernel⟩
theorem MU (T:Txt K mg aE aF aB aH af av):bX P w K mg base (bg P w) 6 "pool_table" ["pool"] J2:=by
 have kP:bX P w K mg base (bg P w) 5 "throws_by_bottom" ["pool"] J0:=MT T
 have dG:bX P w K mg base (bg P w) 2 "part_bottom" ["part"] xO:=Ee T
 have zR:bX P w K mg base (bg P w) 4 "table_of" ["rows"] (JP aF):=MI T
 refine T.vv.du (λ_ _ _ _ _ _=>gJ λ_=>rfl) λf fd F=>F.d3 j6 (λvs H Q E h=>?_) (λbT A outer s H vs Q E hr h=>?_)
 ·obtain⟨_,_,rfl,_⟩:=h;rfl
 ·refine(?_:let G_:Prop:=_;G_)
  intro G_
  obtain⟨a,ps,rfl,hp,gl,l4,kk⟩:=h
  dsimp only[G_]
  clear G_
  have nd:=j6.nd
  refine⟨_,(ah (aI (i:=1) nd rfl (Or.inl rfl) (aK kP (hr.mono (by decide)) rfl au.pass (aa (pv 0) ag (se rfl)) (he:=se rfl) (hpl:=na rfl)))
  (ah (aI (i:=2) nd rfl (Or.inr rfl) ae)
  (ah (cI PassesOwn.never rfl (bh (K:=K) (pv 0)) (aW (i:=3) nd rfl (Or.inl rfl)) (ao (aI (i:=2) nd rfl (Or.inr rfl) (aG ba (pv 2) (aK dG (hr.mono (by decide)) rfl au.pass (aa (pv 3) ag (se rfl)) (he:=se rfl) (hpl:=na rfl))))))
  (ao (aV (aK zR (hr.mono (by decide)) rfl au.pass (aa (cG rfl (N:=["pool","found","common","part"]) (so:=ar (top 30)) (N':=["faces","value","bottom","common"]) (k:=3) (fr:=[2]) rfl rfl ⟨rfl,by decide +kernel,by decide +kernel,by decide +kernel,rfl,by decide +kernel,by decide +kernel⟩ (bh (K:=K) (pv 1)) (λ_ _ _ _ _=>(d4 (K:=K) (n:=3) rfl (bA (aW (i:=0) (show(["faces","value","bottom","common"]:List Str).Nodup by decide +kernel) rfl (Or.inl rfl)) (bA (aW (i:=1) (show(["faces","value","bottom","common"]:List Str).Nodup by decide +kernel) rfl (Or.inl rfl)) (bA (aW (i:=2) (show(["faces","value","bottom","common"]:List Str).Nodup by decide +kernel) rfl (Or.inl rfl)) dX))))) (λ_ _ _ _ _=>dk)
   (λ_ _ _ _ _=>(a5 (aa (pv 1) (aa (aG lN (pv 3) (pv 2)) ag (se rfl)) (se rfl))))) ag (se rfl)) (he:=se rfl) (hpl:=na rfl))))))),?_⟩
  refine(?_:let bM:TS:=_;let bN:TS:=_;let bO:TS:=_;let cM:TS:=_;tSeq bM (tSeq bN (tSeq bO cM)) _ _ _)
  intro bM bN bO cM
  have sl:=sizeLine_eq
  have gm:=xP gl
  refine(?_:let G_:Prop:=_;G_)
  intro G_
  obtain⟨vs,ha,ap⟩:=id hp
  dsimp only[G_]
  clear G_
  have lv:=ap.length
  change tSeq _ _ _ _ _
  refine cY (λσ' H1=>aD H H1/\∃l xs,H1 l=some (.lst xs)/\Al (TR H H1) (d7 ps) xs/\σ'=[some (.ref a),some (.ref l),none,none]) ?_ (λN hN=>?_)
  case refine_2=>
   simp_all only[J0]
   exact⟨ps,hp,gm,l4,λl H1 xs s1 hl al=>hN _ _ ⟨s1,l,xs,hl,al,rfl⟩⟩
  intro _ H1 df
  refine(?_:let G_:Prop:=_;G_)
  intro G_
  obtain⟨FF,l,xs,hl,al,rfl⟩:=df
  dsimp only[G_]
  clear G_
  have lx:=al.length
  rw[p3] at lx
  change tSeq _ _ _ _ _
  refine cY (λσ' H2=>H1=H2/\σ'=[some (.ref a),some (.ref l),some (.int 1),none]) ?_ (λN hN=>?_)
  case refine_2=>
   simp_all only[]
   exact hN _ _ ⟨rfl,rfl⟩
  rintro _ _ ⟨rfl,rfl⟩
  change tSeq _ _ _ _ _
  refine cY (λσ' H2=>H1=H2/\∃z,σ'=[some (.ref a),some (.ref l),some (.int (iF (ps.map bot):Int)),z]) ?_ (λN hN=>?_)
  case refine_2=>
   simp_all only[]
   refine⟨⟨_,bI.of (FF _ _ ha)⟩,bU (src_list (Ok:=λH'=>H1=H') (λH' e=>by subst e;exact bI.of (FF _ _ ha))) (λi σ H'=>H1=H'/\∃z,σ=[some (.ref a),some (.ref l),some (.int (iF ((ps.take i).map bot):Int)),z]) ⟨rfl,_,rfl⟩ (λ_ _ _ _ h=>h.1) ?_ ?_⟩
   ·intro i x σ H' p6 hi gy gz
    refine(?_:let G_:Prop:=_;G_)
    intro G_
    obtain⟨rfl,z,rfl⟩:=gy
    obtain⟨rfl,ex⟩:=gz
    obtain⟨p,ep,q,rfl,hq⟩:=ap.get ex
    dsimp only[G_]
    obtain⟨Ef,yQ⟩:=List.getElem?_eq_some_iff.mp ep
    refine(?_:let G_:Prop:=_;G_)
    intro G_
    obtain⟨gp,c1,b1⟩:=nQ gm (YI ep)
    dsimp only[G_]
    have b0:=nP gm i
    simp_all only[xO]
    refine⟨p,FF _ _ hq,gp,b1,bC (by omega) (by omega),?_,_,rfl⟩
    rw[take_snoc Ef,yQ,Yx,Ys,YX,gK,Zf]
   ·intro σ H' df
    refine(?_:let G_:Prop:=_;G_)
    intro G_
    obtain⟨rfl,z,rfl⟩:=df
    dsimp only[G_]
    rw[lv,YG (Yt _)]
    exact hN _ _ ⟨rfl,_,rfl⟩
  intro _ _ df
  refine(?_:let G_:Prop:=_;G_)
  intro G_
  obtain⟨rfl,z,rfl⟩:=df
  have c0:=gm.2.1
  have bW:=gm.2.2
  obtain⟨UR,US,UT,_⟩:=vG ps gl
  dsimp only[G_]
  clear G_
  have dv:∀r∈d7 ps,1<=r.2.2/\r.2.2<=iF (ps.map bot):=λr Eh=>by
   have:=A7 gm.1 ps.length (Yt _) r (by rw[YG (Yt _)];exact Eh)
   rw[YG (Yt _)] at this
   exact this.2
  have nb:=J1 gl
  have UU:GQ (iF (ps.map bot)) (d7 ps)=A9 ps:=rfl
  generalize hW:iF (ps.map bot)=W at *
  simp_all only[JP]
  refine⟨⟨_,bI.of hl⟩,?_⟩
  refine Cc (K:=K) (src_list (λH2 s2=>bI.of (s2 _ _ hl))) (λi u v b' H2=>∃r,(d7 ps)[i]?=some r/\v=.int r.2.1/\b'=.int (r.2.2:Int)) ?_ (by omega)
   (λi y H2=>∀r,(d7 ps)[i]?=some r->Rep H2 (dq (r.2.1,((W / r.2.2:Nat):Int))) y) (λi y H2 H3 s3 h r e=>(h r e).mono s3) ?_ ?_
  ·rintro i x H2 H3 hi s2 ⟨rfl,ex⟩
   refine(?_:let G_:Prop:=_;G_)
   intro G_
   obtain⟨r,er,t,q,rfl,ht,hq,nq⟩:=al.get ex
   dsimp only[G_]
   exact⟨aD.refl _,t,_,_,_,rfl,jn.of (s2 _ _ ht),r,er,rfl,rfl⟩
  ·intro i u v b' H2 Q2 hi s2 UW kq
   refine(?_:let G_:Prop:=_;G_)
   intro G_
   obtain⟨r,er,rfl,rfl⟩:=UW
   dsimp only[G_]
   have hb:=dv r (YI er)
   simp_all only[]
   refine⟨lM.of (n:=64) (by omega) (Bt.of 1000000 (by omega) (by omega)),by decide,λt H3 s3 nt e3=>kq _ _ s3 λr' FG=>?_⟩
   rw[er] at FG
   cases FG
   rw[<-Int.natCast_ediv] at e3
   exact b6.mpr ⟨t,rfl,e3⟩
  ·intro ys H2 s2 ly hy D n1 n2
   have rp:Rep (upd H2 D (.lst ys)) (DM (A9 ps)) (.ref D):=by
    rw[<-UU]
    refine a7.mpr ⟨D,ys,rfl,aj,a8.of ?_ λi dd v e1 e2=>?_⟩
    ·unfold GQ
     rw[Yr,Yr,ly,lx,<-p3]
    ·unfold GQ at e1
     rw[Yu,Yu] at e1
     refine(?_:let G_:Prop:=_;G_)
     intro G_
     obtain⟨p,ep,rfl⟩:=Option.map_eq_some_iff.mp e1
     obtain⟨r,er,rfl⟩:=Option.map_eq_some_iff.mp ep
     dsimp only[G_]
     exact(hy i v e2 r er).mono (aA n2)
   have sD:aD H (upd H2 D (.lst ys)):=FF.trans (s2.trans (aA n2))
   exact⟨A9 ps,rp,US,λx hx=>(UR x hx).2,UT,λb=>absurd b nb,λ_ p H' s' np r'=>kk p H' (sD.trans s') (none_of sD np) r'⟩
theorem oX:aT ["rows"] ["rows"] (ar (top 32)):=⟨rfl,rfl,rfl,by decide +kernel,rfl,by decide +kernel,by decide +kernel⟩
theorem MV (T:Txt K mg aE aF aB aH af av):bX P w K mg base (bg P w) 1 "own_rows" ["rows"] qX:=by
 refine T.zI.du (λ_ _ _ _ _ _=>gJ λ_=>rfl) λf fd F=>F.d3 oX (λvs H Q E h=>?_) (λbT A outer s H vs Q E hr h=>?_)
 ·obtain⟨_,_,_,rfl,_⟩:=h;rfl
 ·refine(?_:let G_:Prop:=_;G_)
  intro G_
  obtain⟨v,X,rs,rfl,sx,rp,lr,ll,kk⟩:=h
  dsimp only[G_]
  have nd:=oX.nd
  refine⟨_,(ao (aV (cG rfl (N:=["rows"]) (so:=ar (top 32)) (N':=["row"]) (k:=1) (fr:=[]) rfl rfl ⟨rfl,by decide +kernel,by decide +kernel,by decide +kernel,rfl,by decide +kernel,by decide +kernel⟩ (bh (K:=K) (pv 0)) (λ_ _ _ _ _=>(aW (i:=0) (show(["row"]:List Str).Nodup by decide +kernel) rfl (Or.inl rfl))) (λ_ _ _ _ _=>dk)
   (λ_ _ _ _ _=>(a5 (aa (aq ai (pv 0) ae (λ_ _=>rfl)) (aa (aq ai (pv 0) ae (λ_ _=>rfl)) (aa (dS (dC (K:=K)) (by rfl) T.z_list rfl (aa (aq ai (pv 0) ae (λ_ _=>rfl)) ag (se rfl)) (he:=se rfl) (hpl:=na rfl)) (aa (aq ai (pv 0) ae (λ_ _=>rfl)) ag (se rfl)) (se rfl)) (se rfl)) (se rfl))))))),?_⟩
  have sl:=sizeLine_eq
  refine(?_:let G_:Prop:=_;G_)
  intro G_
  obtain⟨l,xs,rfl,hl,rl⟩:=a7.mp rp
  dsimp only[G_]
  have hl:=sx _ _ hl
  have len:=rl.length
  rw[Yr] at len
  simp_all only[]
  refine⟨⟨_,bI.of hl⟩,?_⟩
  refine comp_map (src_list (K:=K) (λH' s'=>bI.of (s' _ _ hl))) (λ_ _ _ _ h=>by rw[h.1];exact aD.refl _) (by omega) (λi y H4=>∀r,rs[i]?=some r->Rep (nw H X H4) (qR r) y) (λi y H4 H5 s5 h r e=>(h r e).mono (mi s5)) ?_ ?_
  ·rintro i x w0 H4 H5 Q2 hi s4 ⟨rfl,ex⟩ kq
   refine(?_:let G_:Prop:=_;G_)
   intro G_
   obtain⟨d,ed,rd⟩:=rl.get ex
   rw[Yu] at ed
   obtain⟨r,er,rfl⟩:=Option.map_eq_some_iff.mp ed
   obtain⟨p,a,b,c,d,rfl,hp,ra,rb,rc,UX⟩:=c8.mp rd
   obtain⟨c',UY,rfl,hc,sO⟩:=a7.mp rc
   dsimp only[G_]
   have hp:=s4 _ _ (sx _ _ hp)
   have hc:=s4 _ _ (sx _ _ hc)
   simp_all only[hp]
   refine⟨_,.inl (bI.of hc),λm nm=>⟨_,aA nm _ _ hp,_,rfl,by decide,λt H6 s6 nt e6=>kq _ _ ((aA nm).trans s6) λr' FG=>?_⟩⟩
   rw[er] at FG
   cases FG
   have sn:aD X (nw H X H6):=jY sx
   have P4:=none_of s4 nm
   have UZ:=none_of (s4.trans (aA nm)) nt
   exact c8.mpr ⟨t,_,_,_,_,rfl,by rw[cc UZ];exact e6,ra.mono sn,rb.mono sn,a7.mpr ⟨m,UY,rfl,by rw[cc P4];exact s6 _ _ aj,sO.mono sn⟩,UX.mono sn⟩
  ·intro ys H5 s5 ly hy D n1 n2
   refine kk D _ (s5.trans (aA n2)) (a7.mpr ⟨D,ys,rfl,by rw[cc (none_of s5 n2)];exact aj,a8.of (by rw[Yr];omega) λi dd u e1 e2=>?_⟩)
   rw[Yu] at e1
   refine(?_:let G_:Prop:=_;G_)
   intro G_
   obtain⟨r,er,rfl⟩:=Option.map_eq_some_iff.mp e1
   dsimp only[G_]
   exact(hy i u e2 r er).mono (mi (aA n2))
theorem oY:aT ["what"] ["what"] (ar (top 33)):=⟨rfl,rfl,rfl,by decide +kernel,rfl,by decide +kernel,by decide +kernel⟩
theorem MW (T:Txt K mg aE aF aB aH af av):bX P w K mg base (bg P w) 2 "own_what" ["what"] Ec:=by
 have q9:bX P w K mg base (bg P w) 1 "own_rows" ["rows"] qX:=MV T
 refine T.zJ.du (λ_ _ _ _ _ _=>gJ λ_=>rfl) λf fd F=>F.d3 oY (λvs H Q E h=>?_) (λbT A outer s H vs Q E hr h=>?_)
 ·obtain⟨_,_,_,_,rfl,_⟩:=h;rfl
 ·refine(?_:let G_:Prop:=_;G_)
  intro G_
  obtain⟨v,X,x,cs,rfl,sx,rp,gd,kk⟩:=h
  dsimp only[G_]
  have nd:=oY.nd
  refine⟨_,(ah (bf (aL bp (aq ai (pv 0) ae (λ_ _=>rfl)) aZ (aS _)) (ao (aV (a5 (aa aZ (aa (dS (dC (K:=K)) (by rfl) T.z_list rfl (aa (aq ai (pv 0) ae (λ_ _=>rfl)) ag (se rfl)) (he:=se rfl) (hpl:=na rfl)) (aa (aq ai (pv 0) ae (λ_ _=>rfl)) (aa (aK q9 (hr.mono (by decide)) rfl au.pass (aa (aq ai (pv 0) ae (λ_ _=>rfl)) ag (se rfl)) (he:=se rfl) (hpl:=na rfl)) ag (se rfl)) (se rfl)) (se rfl)) (se rfl)))))
   aY)
  (ah (bf (aL bp (aq ai (pv 0) ae (λ_ _=>rfl)) aZ (aS _)) (ao (aV (a5 (aa aZ (aa (aq ai (pv 0) ae (λ_ _=>rfl)) (aa (aK q9 (hr.mono (by decide)) rfl au.pass (aa (aq ai (pv 0) ae (λ_ _=>rfl)) ag (se rfl)) (he:=se rfl) (hpl:=na rfl)) ag (se rfl)) (se rfl)) (se rfl)))))
   aY)
  (ao (aV (pv 0))))),?_⟩
  refine(?_:let bM:TS:=_;let bN:TS:=_;let bO:TS:=_;tSeq bM (tSeq bN bO) _ _ _)
  intro bM bN bO
  have sl:=sizeLine_eq
  cases x with
  | ask c k a b=>
   refine(?_:let G_:Prop:=_;G_)
   intro G_
   obtain⟨p,x1,x2,x3,x4,x5,rfl,hp,r1,r2,r3,r4,r5⟩:=vI.mp (show Rep X (.tup _) v from rp)
   rw[aN] at r1
   subst r1
   dsimp only[G_]
   simp_all only[qX,sx _ _ hp]
   rw[if_neg (by decide +kernel),if_neg (by decide +kernel)]
   exact kk _ _ (aD.refl _) (rp.mono (jY sx))
  | fin t b=>
   refine(?_:let G_:Prop:=_;G_)
   intro G_
   obtain⟨p,x1,x2,rfl,hp,r1,r2⟩:=bJ.mp (show Rep X (.tup _) v from rp)
   rw[aN] at r1
   subst r1
   dsimp only[G_]
   simp_all only[qX,sx _ _ hp]
   rw[if_neg (by decide +kernel),if_neg (by decide +kernel)]
   exact kk _ _ (aD.refl _) (rp.mono (jY sx))
  | score c=>
   refine(?_:let G_:Prop:=_;G_)
   intro G_
   obtain⟨p,x1,x2,rfl,hp,r1,r2⟩:=bJ.mp (show Rep X (.tup _) v from rp)
   rw[aN] at r1
   subst r1
   dsimp only[G_]
   simp_all only[qX,sx _ _ hp]
   rw[if_neg (by decide +kernel),if_neg (by decide +kernel)]
   exact kk _ _ (aD.refl _) (rp.mono (jY sx))
  | pick w rs=>
   refine(?_:let G_:Prop:=_;G_)
   intro G_
   obtain⟨p,x1,x2,x3,rfl,hp,r1,r2,r3⟩:=dQ.mp (show Rep X (.tup _) v from rp)
   rw[aN] at r1
   subst r1
   dsimp only[G_]
   simp_all only[qX,sx _ _ hp]
   rw[if_neg (by decide +kernel)]
   obtain⟨g1,g2⟩:=gd
   refine⟨X,sx,_,r3,by rw[Yr];exact g1,λr Eh=>?_,λm H1 s1 rm=>⟨by decide,λt H2 s2 nt e2=>kk _ _ (s1.trans s2) ?_⟩⟩
   ·refine(?_:let G_:Prop:=_;G_)
    intro G_
    obtain⟨r0,h0,rfl⟩:=List.mem_map.mp Eh
    dsimp only[G_]
    show(r0.ds.map Bb).length<=100
    rw[Yr]
    exact(g2 r0 h0).1
   ·exact dQ.mpr ⟨t,_,_,_,rfl,by rw[cc (none_of s1 nt)];exact e2,aN.mpr rfl,r2.mono (jY sx),rm.mono (mi s2)⟩
  | d7 dD t b rs=>
   refine(?_:let G_:Prop:=_;G_)
   intro G_
   obtain⟨p,x1,x2,x3,x4,rfl,hp,r1,r2,r3,r4⟩:=c8.mp (show Rep X (.tup _) v from rp)
   rw[aN] at r1
   subst r1
   dsimp only[G_]
   have hp:=sx _ _ hp
   simp_all only[qX,hp]
   refine(?_:let G_:Prop:=_;G_)
   intro G_
   obtain⟨g1,g2,g3⟩:=gd
   obtain⟨l2,CH,rfl,Df,U0⟩:=a7.mp r2
   dsimp only[G_]
   refine⟨_,rfl,_,.inl (bI.of (sx _ _ Df)),λm nm=>?_⟩
   have sm:=aA (o:=.lst CH) nm
   have U1:aD (nw H X (upd H m (.lst CH))) (upd H m (.lst CH)):=J7 sx sm
   refine⟨_,sm _ _ hp,_,rfl,_,sm _ _ hp,_,rfl,nw H X (upd H m (.lst CH)),U1,_,r4.mono (jY sx),by rw[Yr];exact g2,λr Eh=>?_,λn H1 s1 rn=>⟨by decide,λt H2 s2 nt e2=>kk _ _ (sm.trans (s1.trans s2)) ?_⟩⟩
   ·refine(?_:let G_:Prop:=_;G_)
    intro G_
    obtain⟨r0,h0,rfl⟩:=List.mem_map.mp Eh
    dsimp only[G_]
    show(r0.2.2.1.map Bb).length<=100
    rw[Yr]
    exact(g3 r0 h0).1
   ·rw[MF sm s1] at rn
    exact c8.mpr ⟨t,_,_,_,_,rfl,by rw[cc (none_of (sm.trans s1) nt)];exact e2,aN.mpr rfl,a7.mpr ⟨m,CH,rfl,by rw[cc nm];exact s2 _ _ (s1 _ _ aj),U0.mono (jY sx)⟩,r3.mono (jY sx),rn.mono (mi s2)⟩
theorem j7:aT ["self","counts","spot","number"] ["self","counts","spot","number"] (ar (inClass (top 34) 1)):=⟨rfl,rfl,rfl,by decide +kernel,rfl,by decide +kernel,by decide +kernel⟩
theorem J9 (T:Txt K mg aE aF aB aH af av):bu P w K mg base (bg P w) 1 af "put" ["self","counts","spot","number"] (uM af):=by
 refine T.tH.du (λ_ _ _ _ _ _=>tM λ_ _ _ _=>rfl) λf fd F=>F.d3 j7 (λvs H Q E h=>?_) (λbT A outer s H vs Q E hr h=>?_)
 ·obtain⟨_,_,_,_,_,_,rfl,_⟩:=h;rfl
 ·refine(?_:let G_:Prop:=_;G_)
  intro G_
  obtain⟨c,l,i,k,g,ns,rfl,⟨dx,sp,mo,wh,tb,us,ft,h1,h2,h3,h4,h5,h6⟩,hl,il,ln,kk⟩:=h
  dsimp only[G_]
  have nd:=j7.nd
  refine⟨_,(ao (u5 (aX (fB rfl) (by rfl) T.z_min rfl (aa (pv 3) (aa (aq aQ (a9 (pv 0) rfl) (pv 2) (λ_ _=>rfl)) ag (se rfl)) (se rfl)) (he:=se rfl) (hpl:=na rfl)) (CW (pv 1) (pv 2) set_list))),?_⟩
  have h1:=cZ _ _ h1
  have h3:=cZ _ _ h3
  simp_all only[cW]
  refine⟨_,_,_,h1,T.aP,T.na_Course_mosts,_,HY,_,rfl,_,h3,_,GV il,_,rfl,_,hl,_,Bf (by rw[Yr];omega),?_⟩
  rw[<-List.map_set]
  have e:(if most g.cs i<k then most g.cs i else k)=min k (most g.cs i):=by omega
  rw[e]
  exact kk
theorem mj:aT ["self","counts","deed","value","spot","other"] ["self","counts","deed","value"] (ar (inClass (top 34) 2)):=⟨rfl,rfl,rfl,by decide +kernel,rfl,by decide +kernel,by decide +kernel⟩
theorem MX (T:Txt K mg aE aF aB aH af av):bu P w K mg base (bg P w) 2 af "do" ["self","counts","deed","value"] (J4 af):=by
 have fo:bu P w K mg base (bg P w) 1 af "put" ["self","counts","spot","number"] (uM af):=J9 T
 refine T.vB.du (λ_ _ _ _ _ _=>tM λ_ _ _ _=>rfl) λf fd F=>F.d3 mj (λvs H Q E h=>?_) (λbT A outer s H vs Q E hr h=>?_)
 ·obtain⟨_,_,_,_,_,_,_,rfl,_⟩:=h;rfl
 ·refine(?_:let G_:Prop:=_;G_)
  intro G_
  obtain⟨c,l,dv,v,g,ns,d,rfl,co,hl,rd,gd,ln,kk⟩:=h
  dsimp only[G_]
  have nd:=mj.nd
  refine⟨_,(ah (aI (i:=4) nd rfl (Or.inl rfl) (ck (cf hr) (a9 (pv 0) rfl) (aq ai (pv 2) ae (λ_ _=>rfl)) (λ_ _=>rfl)))
  (ao (bf (aL bp (aq ai (pv 2) ae (λ_ _=>rfl)) aZ (aS _)) (ao (bG (cU fo T.aP (pv 0) (hr.mono (by decide)) au.pass (aa (pv 1) (aa (pv 4) (aa (aq ai (pv 2) ae (λ_ _=>rfl)) ag (se rfl)) (se rfl)) (se rfl)) (hst:=se rfl) (hpl:=na rfl))))
   (ao (bf (aL bp (aq ai (pv 2) ae (λ_ _=>rfl)) aZ (aS _)) (ao (bG (cU fo T.aP (pv 0) (hr.mono (by decide)) au.pass (aa (pv 1) (aa (pv 4) (aa (aG aO (aq aQ (pv 1) (pv 4) (λ_ _=>rfl)) (aq ai (pv 2) ae (λ_ _=>rfl))) ag (se rfl)) (se rfl)) (se rfl)) (hst:=se rfl) (hpl:=na rfl))))
   (ao (bf (aL bp (aq ai (pv 2) ae (λ_ _=>rfl)) aZ (aS _)) (ao (bG (cU fo T.aP (pv 0) (hr.mono (by decide)) au.pass (aa (pv 1) (aa (pv 4) (aa (aG aO (aq aQ (pv 1) (pv 4) (λ_ _=>rfl)) (pv 3)) ag (se rfl)) (se rfl)) (se rfl)) (hst:=se rfl) (hpl:=na rfl))))
   (ah (aI (i:=5) nd rfl (Or.inl rfl) (ck (cf hr) (a9 (pv 0) rfl) (aq ai (pv 2) ae (λ_ _=>rfl)) (λ_ _=>rfl)))
  (ah (bG (cU fo T.aP (pv 0) (hr.mono (by decide)) au.pass (aa (pv 1) (aa (pv 5) (aa (aG aO (aq aQ (pv 1) (pv 5) (λ_ _=>rfl)) (aq aQ (pv 1) (pv 4) (λ_ _=>rfl))) ag (se rfl)) (se rfl)) (se rfl)) (hst:=se rfl) (hpl:=na rfl)))
  (ao (u5 ae (CW (pv 1) (pv 4) set_list)))))))))))),?_⟩
  refine(?_:let G_:Prop:=_;G_)
  intro G_
  obtain⟨dx,sp,mo,wh,tb,us,ft,h1,h2,h3,h4,h5,h6⟩:=id co
  dsimp only[G_]
  have h1:=cZ _ _ h1
  have h2:=cZ _ _ h2
  have lp:∀{a b c d e:V},List.lookup (Str.ofString "put") [(Str.ofString "spots",a),(Str.ofString "mosts",b),(Str.ofString "first",c),(Str.ofString "whats",d),(Str.ofString "tables",e)]=none:=dF (by decide +kernel) (by decide +kernel) (by decide +kernel) (by decide +kernel) (by decide +kernel)
  cases d with
  | set n k=>
   refine(?_:let G_:Prop:=_;G_)
   intro G_
   obtain⟨p,x1,x2,x3,rfl,hp,r1,r2,r3⟩:=dQ.mp (show Rep (cE H l) (.tup _) dv from rd)
   rw[aN] at r1 r2
   rw[bw] at r3
   subst r1 r2 r3
   dsimp only[G_]
   have hp:=cZ _ _ hp
   have sl:=fm (cs:=g.cs) gd
   change tSeq _ _ _ _ _
   refine cY (λσ' H'=>H=H'/\σ'=[some (.ref c),some (.ref l),some (.ref p),some (.int v),some (.int ((bF g.cs n:Nat):Int)),none]) ?_ (λN hN=>by simp_all only[cW,hp];exact⟨_,_,_,h1,T.aP,T.na_Course_spots,_,jX,_,rfl,_,hG h2 gd,hN _ _ ⟨rfl,rfl⟩⟩)
   rintro _ _ ⟨rfl,rfl⟩
   refine dz (λY N k=>by simp_all only[hp];first | exact k | (rw[if_pos (by decide +kernel)];exact k)) ?_
   simp_all only[cW,bY,uM,hp]
   exact⟨_,_,h1,lp,_,rfl,_,co,_,hl,sl,ln,kk⟩
  | plus n k=>
   refine(?_:let G_:Prop:=_;G_)
   intro G_
   obtain⟨p,x1,x2,x3,rfl,hp,r1,r2,r3⟩:=dQ.mp (show Rep (cE H l) (.tup _) dv from rd)
   rw[aN] at r1 r2
   rw[bw] at r3
   subst r1 r2 r3
   dsimp only[G_]
   have hp:=cZ _ _ hp
   have sl:=fm (cs:=g.cs) gd
   change tSeq _ _ _ _ _
   refine cY (λσ' H'=>H=H'/\σ'=[some (.ref c),some (.ref l),some (.ref p),some (.int v),some (.int ((bF g.cs n:Nat):Int)),none]) ?_ (λN hN=>by simp_all only[cW,hp];exact⟨_,_,_,h1,T.aP,T.na_Course_spots,_,jX,_,rfl,_,hG h2 gd,hN _ _ ⟨rfl,rfl⟩⟩)
   rintro _ _ ⟨rfl,rfl⟩
   refine c7 (λY N k=>by simp_all only[hp];first | exact k | (rw[if_neg (by decide +kernel)];exact k)) (dz (λY N k=>by simp_all only[hp];first | exact k | (rw[if_pos (by decide +kernel)];exact k)) ?_)
   simp_all only[cW,bY,uM,hp]
   exact⟨_,_,h1,lp,_,hl,_,eN (by omega),_,rfl,_,rfl,_,co,_,hl,sl,ln,kk⟩
  | face n=>
   refine(?_:let G_:Prop:=_;G_)
   intro G_
   obtain⟨p,x1,x2,rfl,hp,r1,r2⟩:=bJ.mp (show Rep (cE H l) (.tup _) dv from rd)
   rw[aN] at r1 r2
   subst r1 r2
   dsimp only[G_]
   have hp:=cZ _ _ hp
   have sl:=fm (cs:=g.cs) gd
   change tSeq _ _ _ _ _
   refine cY (λσ' H'=>H=H'/\σ'=[some (.ref c),some (.ref l),some (.ref p),some (.int v),some (.int ((bF g.cs n:Nat):Int)),none]) ?_ (λN hN=>by simp_all only[cW,hp];exact⟨_,_,_,h1,T.aP,T.na_Course_spots,_,jX,_,rfl,_,hG h2 gd,hN _ _ ⟨rfl,rfl⟩⟩)
   rintro _ _ ⟨rfl,rfl⟩
   refine c7 (λY N k=>by simp_all only[hp];first | exact k | (rw[if_neg (by decide +kernel)];exact k)) (c7 (λY N k=>by simp_all only[hp];first | exact k | (rw[if_neg (by decide +kernel)];exact k)) (dz (λY N k=>by simp_all only[hp];first | exact k | (rw[if_pos (by decide +kernel)];exact k)) ?_))
   simp_all only[cW,bY,uM,hp]
   exact⟨_,_,h1,lp,_,hl,_,eN (by omega),_,rfl,_,rfl,_,co,_,hl,sl,ln,kk⟩
  | move n m=>
   refine(?_:let G_:Prop:=_;G_)
   intro G_
   obtain⟨p,x1,x2,x3,rfl,hp,r1,r2,r3⟩:=dQ.mp (show Rep (cE H l) (.tup _) dv from rd)
   rw[aN] at r1 r2 r3
   subst r1 r2 r3
   dsimp only[G_]
   have hp:=cZ _ _ hp
   have sl:=fm (cs:=g.cs) gd.1
   have Jr:=fm (cs:=g.cs) gd.2
   change tSeq _ _ _ _ _
   refine cY (λσ' H'=>H=H'/\σ'=[some (.ref c),some (.ref l),some (.ref p),some (.int v),some (.int ((bF g.cs n:Nat):Int)),none]) ?_ (λN hN=>by simp_all only[cW,hp];exact⟨_,_,_,h1,T.aP,T.na_Course_spots,_,jX,_,rfl,_,hG h2 gd.1,hN _ _ ⟨rfl,rfl⟩⟩)
   rintro _ _ ⟨rfl,rfl⟩
   refine c7 (λY N k=>by simp_all only[hp];first | exact k | (rw[if_neg (by decide +kernel)];exact k)) (c7 (λY N k=>by simp_all only[hp];first | exact k | (rw[if_neg (by decide +kernel)];exact k)) (c7 (λY N k=>by simp_all only[hp];first | exact k | (rw[if_neg (by decide +kernel)];exact k)) ?_))
   simp_all only[cW,bY,uM,hp]
   refine⟨_,_,_,h1,T.aP,T.na_Course_spots,_,jX,_,rfl,_,hG h2 gd.2,_,_,h1,lp,_,_,rfl,hl,_,eN (by omega),_,hl,_,eN (by omega),_,rfl,_,rfl,_,rfl,_,co,_,hl,Jr,ln,_,aj,_,Bf (by rw[Yr,iH];omega),?_⟩
   rw[Ax,<-List.map_set]
   exact kk
theorem ie:aT ["self","name","counts","what"] ["self","name","counts"] (ar (inClass (top 34) 3)):=⟨rfl,rfl,rfl,by decide +kernel,rfl,by decide +kernel,by decide +kernel⟩
theorem Ei (T:Txt K mg aE aF aB aH af av):bu P w K mg base (bg P w) 1 af "asked" ["self","name","counts"] (xR af):=by
 refine T.pk.du (λ_ _ _ _ _ _=>tK λ_ _ _=>rfl) λf fd F=>F.d3 ie (λvs H Q E h=>?_) (λbT A outer s H vs Q E hr h=>?_)
 ·obtain⟨_,_,_,_,_,_,_,rfl,_⟩:=h;rfl
 ·refine(?_:let G_:Prop:=_;G_)
  intro G_
  obtain⟨c,nm,l,g,ns,fu,e8,rfl,co,gg,hl,ln,ak,kk⟩:=h
  dsimp only[G_]
  clear G_
  have nd:=ie.nd
  refine⟨_,(ah (aI (i:=3) nd rfl (Or.inl rfl) (ck (cf hr) (a9 (pv 0) rfl) (pv 1) (λ_ _=>rfl)))
  (ah (iz PassesOwn.never (aL bp (aq ai (pv 3) ae (λ_ _=>rfl)) aZ (aS _)) (ah (aI (i:=1) nd rfl (Or.inl rfl) (lH (aL AD (aq aQ (pv 2) (ck (cf hr) (a9 (pv 0) rfl) (aq ai (pv 3) ae (λ_ _=>rfl)) (λ_ _=>rfl)) (λ_ _=>rfl)) (aq ai (pv 3) ae (λ_ _=>rfl)) (aS _)) (aq ai (pv 3) ae (λ_ _=>rfl)) (aq ai (pv 3) ae (λ_ _=>rfl))))
  (ao (aI (i:=3) nd rfl (Or.inl rfl) (ck (cf hr) (a9 (pv 0) rfl) (pv 1) (λ_ _=>rfl))))))
  (ao (aV (a5 (aa (pv 1) (aa (pv 2) ag (se rfl)) (se rfl))))))),?_⟩
  refine(?_:let bM:TS:=_;let bN:TS:=_;let bO:TS:=_;tSeq bM (tSeq bN bO) _ _ _)
  intro bM bN bO
  refine(?_:let G_:Prop:=_;G_)
  intro G_
  obtain⟨dx,sp,mo,wh,tb,us,ft,h1,h2,h3,h4,h5,h6⟩:=id co
  dsimp only[G_]
  clear G_
  simp_all only[cW]
  cases fu with
  | zero=>cases ak
  | succ fu=>
   rcases h5.val (n:=nm) with ⟨x,u,lk,vl,rx⟩ | ⟨lk,vl⟩
   ·refine⟨_,_,_,h1,T.aP,T.na_Course_whats,_,Be,_,rfl,_,.inl ⟨_,Sum.inr nm,.inl h4,rfl,vl.symm⟩,?_⟩
    refine vJ (λm σ H'=>H=H'/\∃nm x u,dE g ns (m+1) nm=some e8/\look g.ps nm=some x/\Rep H (kK x) u/\σ=[some (V.ref c),some (V.str nm),some (V.ref l),some u]) (m:=fu) ⟨rfl,nm,x,u,ak,lk,rx,rfl⟩ ?_
    clear ak lk rx vl
    intro m σ H' GZ
    refine(?_:let G_:Prop:=_;G_)
    intro G_
    obtain⟨rfl,nm,x,u,ak,lk,rx,rfl⟩:=GZ
    dsimp only[G_]
    have gx:=gg.wt _ (cS lk)
    rw[dE,lk] at ak
    have fin:∀{p:Addr} {xs:List V} {y:Str},u=.ref p->H p=some (.tup (.str y::xs))->y≠Str.ofString "ask"->nm=e8->∃b:Bool,(∀Q:Bool->Hp->Prop,Q b H->tTest (tOp rEq (tOp rIxTH (tVar 3) (tC (V.int 0))) (tC (V.str (Str.ofString "ask")))) [some (V.ref c),some (V.str nm),some (V.ref l),some u] H Q)/\b=false:=by
     intro p xs y e hp ny _
     refine⟨false,λQ q=>?_,rfl⟩
     subst e
     simp_all only[hp]
     rw[decide_eq_false ny]
     exact q
    cases x with
    | ask c' k a b=>
     refine(?_:let G_:Prop:=_;G_)
     intro G_
     obtain⟨p,x1,x2,x3,x4,x5,rfl,hp,r1,r2,r3,r4,r5⟩:=vI.mp (show Rep H (.tup _) u from rx)
     rw[aN] at r1 r2 r4 r5
     rw[bw] at r3
     subst r1 r2 r3 r4 r5
     dsimp only[G_]
     refine⟨true,λQ q=>?_,?_⟩
     ·simp_all only[hp]
      rw[decide_eq_true trivial]
      exact q
     ·rw[if_pos rfl]
      have hs:=fm (cs:=g.cs) gx
      have step:∀y,dE g ns m y=some e8->∃m' x u,m'<m/\dE g ns (m'+1) y=some e8/\look g.ps y=some x/\Rep H (kK x) u/\jq H wh (.str y) (some u):=by
       intro y hy
       cases m with
       | zero=>cases hy
       | succ m'=>
        rcases h5.val (n:=y) with ⟨x,u,j8,vl,U2⟩ | ⟨j8,vl⟩
        ·exact⟨m',x,u,Zc _,hy,j8,U2,.inl ⟨_,Sum.inr y,.inl h4,rfl,vl.symm⟩⟩
        ·rw[dE,j8] at hy
         cases hy
      have ak:(if k<=ns.getD (bF g.cs c') 0 then dE g ns m a else dE g ns m b)=some e8:=ak
      simp_all only[cW,hp]
      refine⟨_,_,_,h1,T.aP,T.na_Course_spots,_,jX,_,rfl,_,hG h2 gx,_,_,rfl,hl,_,eN (by omega),_,rfl,gY (λc1=>?_) (λc1=>?_)⟩
      ·rw[if_pos c1] at ak
       refine(?_:let G_:Prop:=_;G_)
       intro G_
       obtain⟨m',x,u,l1,l2,l3,l4,l5⟩:=step a ak
       dsimp only[G_]
       refine⟨_,rfl,_,_,_,h1,T.aP,T.na_Course_whats,_,Be,_,rfl,_,l5,?_⟩
       exact⟨m',l1,a,l2,x,l3,u,l4,rfl,rfl⟩
      ·rw[if_neg c1] at ak
       refine(?_:let G_:Prop:=_;G_)
       intro G_
       obtain⟨m',x,u,l1,l2,l3,l4,l5⟩:=step b ak
       dsimp only[G_]
       refine⟨_,rfl,_,_,_,h1,T.aP,T.na_Course_whats,_,Be,_,rfl,_,l5,?_⟩
       exact⟨m',l1,b,l2,x,l3,u,l4,rfl,rfl⟩
    | fin t b=>
     refine(?_:let G_:Prop:=_;G_)
     intro G_
     obtain⟨p,x1,x2,rfl,hp,r1,r2⟩:=bJ.mp (show Rep H (.tup _) u from rx)
     rw[aN] at r1
     subst r1
     have e:nm=e8:=by injection ak
     obtain⟨b',k1,rfl⟩:=fin rfl hp (by decide +kernel) e
     dsimp only[G_]
     refine⟨false,k1,?_⟩
     rw[if_neg (by decide)]
     simp_all only[]
     exact⟨by decide,λp H2 s2 np e2=>kk p H2 s2 np (by rw[<-e];exact e2)⟩
    | score c'=>
     refine(?_:let G_:Prop:=_;G_)
     intro G_
     obtain⟨p,x1,x2,rfl,hp,r1,r2⟩:=bJ.mp (show Rep H (.tup _) u from rx)
     rw[aN] at r1
     subst r1
     have e:nm=e8:=by injection ak
     obtain⟨b',k1,rfl⟩:=fin rfl hp (by decide +kernel) e
     dsimp only[G_]
     refine⟨false,k1,?_⟩
     rw[if_neg (by decide)]
     simp_all only[]
     exact⟨by decide,λp H2 s2 np e2=>kk p H2 s2 np (by rw[<-e];exact e2)⟩
    | pick w' rs=>
     refine(?_:let G_:Prop:=_;G_)
     intro G_
     obtain⟨p,x1,x2,x3,rfl,hp,r1,r2,r3⟩:=dQ.mp (show Rep H (.tup _) u from rx)
     rw[aN] at r1
     subst r1
     have e:nm=e8:=by injection ak
     obtain⟨b',k1,rfl⟩:=fin rfl hp (by decide +kernel) e
     dsimp only[G_]
     refine⟨false,k1,?_⟩
     rw[if_neg (by decide)]
     simp_all only[]
     exact⟨by decide,λp H2 s2 np e2=>kk p H2 s2 np (by rw[<-e];exact e2)⟩
    | d7 dD t b rs=>
     refine(?_:let G_:Prop:=_;G_)
     intro G_
     obtain⟨p,x1,x2,x3,x4,rfl,hp,r1,r2,r3,r4⟩:=c8.mp (show Rep H (.tup _) u from rx)
     rw[aN] at r1
     subst r1
     have e:nm=e8:=by injection ak
     obtain⟨b',k1,rfl⟩:=fin rfl hp (by decide +kernel) e
     dsimp only[G_]
     refine⟨false,k1,?_⟩
     rw[if_neg (by decide)]
     simp_all only[]
     exact⟨by decide,λp H2 s2 np e2=>kk p H2 s2 np (by rw[<-e];exact e2)⟩
   ·rw[dE,lk] at ak
    cases ak
theorem ig:aT ["self","when","counts","number"] ["self","when","counts"] (ar (inClass (top 34) 9)):=⟨rfl,rfl,rfl,by decide +kernel,rfl,by decide +kernel,by decide +kernel⟩
theorem Ka (T:Txt K mg aE aF aB aH af av):bu P w K mg base (bg P w) 1 af "holds" ["self","when","counts"] (D6 af):=by
 refine T.pq.du (λ_ _ _ _ _ _=>tK λ_ _ _=>rfl) λf fd F=>F.d3 ig (λvs H Q E h=>?_) (λbT A outer s H vs Q E hr h=>?_)
 ·obtain⟨_,_,_,_,_,_,rfl,_⟩:=h;rfl
 ·refine(?_:let G_:Prop:=_;G_)
  intro G_
  obtain⟨c,v,l,g,ns,U3,rfl,co,rv,hl,ln,kk⟩:=h
  dsimp only[G_]
  have nd:=ig.nd
  refine⟨_,(ah (bf (aL CZ (pv 1) yS (aS _)) (ao (aV oK))
   aY)
  (ah (bf (CU (uA (cf hr) (aq ai (pv 1) ae (λ_ _=>rfl)) (a9 (pv 0) rfl))) (ao (aV oK))
   aY)
  (ah (aI (i:=3) nd rfl (Or.inl rfl) (aq aQ (pv 2) (ck (cf hr) (a9 (pv 0) rfl) (aq ai (pv 1) ae (λ_ _=>rfl)) (λ_ _=>rfl)) (λ_ _=>rfl)))
  (ao (aV (lH (aL bp (aq ai (pv 1) ae (λ_ _=>rfl)) aZ (aS _)) (fZ AD (pv 3) (aq ai (pv 1) ae (λ_ _=>rfl)) (aS _)) (fZ wX (pv 3) (aq ai (pv 1) ae (λ_ _=>rfl)) (aS _)))))))),?_⟩
  refine(?_:let bM:TS:=_;let bN:TS:=_;let bO:TS:=_;let cM:TS:=_;tSeq bM (tSeq bN (tSeq bO cM)) _ _ _)
  intro bM bN bO cM
  refine(?_:let G_:Prop:=_;G_)
  intro G_
  obtain⟨dx,sp,mo,wh,tb,us,ft,h1,h2,h3,h4,h5,h6⟩:=id co
  dsimp only[G_]
  cases U3 with
  | none=>
   have e:v=.cP:=by rw[J3,Rep] at rv;exact rv
   subst e
   simp_all only[]
   exact kk
  | some x=>
   refine(?_:let G_:Prop:=_;G_)
   intro G_
   obtain⟨a,b,k⟩:=x
   obtain⟨p,x1,x2,x3,rfl,hp,r1,r2,r3⟩:=dQ.mp (show Rep H (.tup _) v from rv)
   rw[aN] at r1 r2
   rw[bw] at r3
   subst r1 r2 r3
   dsimp only[G_]
   simp_all only[cW,hp]
   rw[if_neg (by intro z;cases z)]
   by_cases hn:a∈g.cs.map (·.1)
   ·have hs:=fm hn
    refine⟨_,_,_,h1,T.aP,T.na_Course_spots,_,jX,_,rfl,_,hG h2 hn,?_⟩
    rw[if_neg (by simp)]
    refine⟨_,_,_,h1,T.aP,T.na_Course_spots,_,jX,_,rfl,_,hG h2 hn,_,_,rfl,hl,_,eN (by omega),?_⟩
    have kk:Q (.bl (if a∈g.cs.map (·.1) then (if b=Str.ofString "from" then decide (k<=ns.getD (bF g.cs a) 0) else decide (ns.getD (bF g.cs a) 0<k)) else false)) H:=kk
    rw[if_pos hn] at kk
    by_cases c1:b=Str.ofString "from"
    ·rw[if_pos c1] at kk ⊢
     exact⟨_,rfl,kk⟩
    ·rw[if_neg c1] at kk ⊢
     exact⟨_,rfl,kk⟩
   ·refine⟨_,_,_,h1,T.aP,T.na_Course_spots,_,jX,_,rfl,_,.inl ⟨_,Sum.inr a,.inl h2,rfl,rfl⟩,?_⟩
    rw[qT hn,if_pos (by rfl)]
    have kk:Q (.bl (if a∈g.cs.map (·.1) then (if b=Str.ofString "from" then decide (k<=ns.getD (bF g.cs a) 0) else decide (ns.getD (bF g.cs a) 0<k)) else false)) H:=kk
    rw[if_neg hn] at kk
    exact kk
theorem ij:aT ["self"] ["self"] (ar (inClass (top 34) 4)):=⟨rfl,rfl,rfl,by decide +kernel,rfl,by decide +kernel,by decide +kernel⟩
theorem Kb (T:Txt K mg aE aF aB aH af av):bu P w K mg base (bg P w) 2 af "start" ["self"] (D5 af):=by
 have fM:bu P w K mg base (bg P w) 1 af "asked" ["self","name","counts"] (xR af):=Ei T
 refine T.pz.du (λ_ _ _ _ _ _=>gJ λ_=>rfl) λf fd F=>F.d3 ij (λvs H Q E h=>?_) (λbT A outer s H vs Q E hr h=>?_)
 ·obtain⟨_,_,_,_,_,rfl,_⟩:=h;rfl
 ·refine(?_:let G_:Prop:=_;G_)
  intro G_
  obtain⟨c,g,fu,ft,e8,rfl,co,gg,hf,ak,kk⟩:=h
  dsimp only[G_]
  have nd:=ij.nd
  refine⟨_,(ao (aV (cU fM T.aP (pv 0) (hr.mono (by decide)) au.pass (aa (a9 (pv 0) rfl) (aa (aG Jh (b5 (aa ae ag (se rfl))) (aX bq (by rfl) T.z_len YH (aa (a9 (pv 0) rfl) ag (se rfl)) (he:=se rfl) (hpl:=na rfl))) ag (se rfl)) (se rfl)) (hst:=se rfl) (hpl:=na rfl)))),?_⟩
  have sl:=sizeLine_eq
  have lc:=gg.lc
  refine(?_:let G_:Prop:=_;G_)
  intro G_
  obtain⟨dx,sp,mo,wh,tb,us,CI,h1,h2,h3,h4,h5,h6⟩:=id co
  dsimp only[G_]
  rw[h6] at hf
  cases hf
  have lp:∀{a b c d e:V},List.lookup (Str.ofString "asked") [(Str.ofString "spots",a),(Str.ofString "mosts",b),(Str.ofString "first",c),(Str.ofString "whats",d),(Str.ofString "tables",e)]=none:=dF (by decide +kernel) (by decide +kernel) (by decide +kernel) (by decide +kernel) (by decide +kernel)
  simp_all only[cW,bY,xR,Mf]
  refine⟨_,_,h1,lp,_,_,_,h1,T.aP,T.na_Course_first,_,MD,by decide,λp np=>?_⟩
  have Of:=aA (o:=.lst [V.int 0]) np
  refine⟨_,_,_,Of _ _ h1,T.aP,T.na_Course_mosts,_,HY,_,rfl,_,Of _ _ h3,_,aj,by simp only[Yr];omega,by simp only[Yr];omega,by simp only[Yr,YC,Y9];omega,λl nl=>?_⟩
  have el:(List.replicate (((List.map V.int (List.map (λx=>x.snd) g.cs)).length:Nat):Int).toNat [V.int 0]).flatten=List.map V.int (List.replicate g.cs.length 0):=by rw[D8,YL,Yr,Yr]
  rw[el]
  have IL:=Of.trans (aA (o:=.lst (List.map V.int (List.replicate g.cs.length 0))) nl)
  exact⟨_,rfl,g,co.mono IL,gg,_,aj,by simp,fu,e8,ak,λa H' s' na e'=>kk a l H' (IL.trans s') (none_of IL na) (none_of Of nl) e' (s' _ _ aj)⟩
theorem gc:aT ["self","state"] ["self","state"] (ar (inClass (top 34) 5)):=⟨rfl,rfl,rfl,by decide +kernel,rfl,by decide +kernel,by decide +kernel⟩
theorem kR (T:Txt K mg aE aF aB aH af av):bu P w K mg base (bg P w) 1 af "what_at" ["self","state"] (e9 af):=by
 refine T.lY.du (λ_ _ _ _ _ _=>eD λ_ _=>rfl) λf fd F=>F.d3 gc (λvs H Q E h=>?_) (λbT A outer s H vs Q E hr h=>?_)
 ·obtain⟨_,_,_,_,_,_,_,rfl,_⟩:=h;rfl
 ·refine(?_:let G_:Prop:=_;G_)
  intro G_
  obtain⟨c,v,H0,g,nm,ns,x,rfl,s0,co,⟨a,l,rfl,ha,hl⟩,lk,kk⟩:=h
  dsimp only[G_]
  have nd:=gc.nd
  refine⟨_,(ao (aV (ck (cf hr) (a9 (pv 0) rfl) (aq ai (pv 1) ae (λ_ _=>rfl)) (λ_ _=>rfl)))),?_⟩
  refine(?_:let G_:Prop:=_;G_)
  intro G_
  obtain⟨dx,sp,mo,wh,tb,us,CI,h1,h2,h3,h4,h5,h6⟩:=id co
  dsimp only[G_]
  simp_all only[cW,ha]
  rcases h5.val (n:=nm) with ⟨x',u,j8,vl,rx⟩ | ⟨j8,vl⟩
  ·rw[lk] at j8
   cases j8
   exact⟨_,_,_,s0 _ _ h1,T.aP,T.na_Course_whats,_,Be,_,rfl,_,.inl ⟨_,Sum.inr nm,.inl (s0 _ _ h4),rfl,vl.symm⟩,kk u rx⟩
  ·rw[lk] at j8
   cases j8
theorem gM:aT ["self","state","row","value","counts","deed"] ["self","state","row","value"] (ar (inClass (top 34) 6)):=⟨rfl,rfl,rfl,by decide +kernel,rfl,by decide +kernel,by decide +kernel⟩
theorem Ej (T:Txt K mg aE aF aB aH af av):bu P w K mg base (bg P w) 3 af "by_row" ["self","state","row","value"] (xS af):=by
 have x9:bu P w K mg base (bg P w) 2 af "do" ["self","counts","deed","value"] (J4 af):=MX T
 have fM:bu P w K mg base (bg P w) 1 af "asked" ["self","name","counts"] (xR af):=Ei T
 refine T.nN.du (λ_ _ _ _ _ _=>tM λ_ _ _ _=>rfl) λf fd F=>F.d3 gM (λvs H Q E h=>?_) (λbT A outer s H vs Q E hr h=>?_)
 ·obtain⟨_,_,_,_,_,_,_,_,_,_,_,_,_,rfl,_⟩:=h;rfl
 ·refine(?_:let G_:Prop:=_;G_)
  intro G_
  obtain⟨c,sv,rv,v,g,nm,ns,a,b,ds,to,fu,e8,rfl,co,gg,⟨sa,l,rfl,gF,hl⟩,rr,gd,ld,ln,ak,kk⟩:=h
  dsimp only[G_]
  have nd:=gM.nd
  refine⟨_,(ah (aI (i:=4) nd rfl (Or.inl rfl) (dS (dC (K:=K)) (by rfl) T.z_list rfl (aa (aq ai (pv 1) ae (λ_ _=>rfl)) ag (se rfl)) (he:=se rfl) (hpl:=na rfl)))
  (ah (cI PassesOwn.never rfl (bh (K:=K) (aq ai (pv 2) ae (λ_ _=>rfl))) (aW (i:=5) nd rfl (Or.inl rfl)) (ao (bG (cU x9 T.aP (pv 0) (hr.mono (by decide)) au.pass (aa (pv 4) (aa (pv 5) (aa (pv 3) ag (se rfl)) (se rfl)) (se rfl)) (hst:=se rfl) (hpl:=na rfl)))))
  (ao (aV (cU fM T.aP (pv 0) (hr.mono (by decide)) au.pass (aa (aq ai (pv 2) ae (λ_ _=>rfl)) (aa (pv 4) ag (se rfl)) (se rfl)) (hst:=se rfl) (hpl:=na rfl)))))),?_⟩
  refine(?_:let bM:TS:=_;let bN:TS:=_;let bO:TS:=_;tSeq bM (tSeq bN bO) _ _ _)
  intro bM bN bO
  have sl:=sizeLine_eq
  have lc:=gg.lc
  refine(?_:let G_:Prop:=_;G_)
  intro G_
  obtain⟨dx,sp,mo,wh,tb,us,CI,h1,h2,h3,h4,h5,h6⟩:=id co
  obtain⟨rp,x1,x2,x3,x4,rfl,Sq,r1,r2,r3,r4⟩:=c8.mp (show Rep H (.tup _) rv from rr)
  rw[aN] at r4
  subst r4
  obtain⟨dl,iw,rfl,MY,G0⟩:=a7.mp r3
  dsimp only[G_]
  have lp:∀{a b c d e:V},List.lookup (Str.ofString "asked") [(Str.ofString "spots",a),(Str.ofString "mosts",b),(Str.ofString "first",c),(Str.ofString "whats",d),(Str.ofString "tables",e)]=none:=dF (by decide +kernel) (by decide +kernel) (by decide +kernel) (by decide +kernel) (by decide +kernel)
  have Co:∀{a b c d e:V},List.lookup (Str.ofString "do") [(Str.ofString "spots",a),(Str.ofString "mosts",b),(Str.ofString "first",c),(Str.ofString "whats",d),(Str.ofString "tables",e)]=none:=dF (by decide +kernel) (by decide +kernel) (by decide +kernel) (by decide +kernel) (by decide +kernel)
  change tSeq _ _ _ _ _
  refine aU (λN=>∀H1 m,H m=none->aD H H1->cE H1 m=H->H1 m=some (.lst (List.map V.int ns))->N [some (.ref c),some (.ref sa),some (.ref rp),some (.int v),some (.ref m),none] H1) ?_ (λN hN=>?_)
  case refine_2=>
   simp_all only[gF]
   exact⟨_,.inl (bI.of hl),λm nm=>hN _ m nm (aA nm) (by rw[xT,D7 nm]) aj⟩
  rintro H1 m P4 s1 hh hm
  have G1:=G0.length
  rw[Yr] at G1
  change tSeq _ _ _ _ _
  refine aU (λN=>∀H2,cE H2 m=H->H2 m=some (.lst (List.map V.int (ds.foldl (ix g.cs v) ns)))->∀z,N [some (.ref c),some (.ref sa),some (.ref rp),some (.int v),some (.ref m),z] H2) ?_ (λN hN=>?_)
  case refine_2=>
   simp_all only[s1 _ _ Sq]
   refine⟨⟨_,bI.of (s1 _ _ MY)⟩,bU (src_list (Ok:=λH'=>cE H' m=H) (λH' e=>bI.of (qW e _ _ MY))) (λi σ H'=>cE H' m=H/\H' m=some (.lst (List.map V.int ((ds.take i).foldl (ix g.cs v) ns)))/\∃z,σ=[some (.ref c),some (.ref sa),some (.ref rp),some (.int v),some (.ref m),z]) ⟨hh,by rw[List.take_zero];exact hm,_,rfl⟩ (λ_ _ _ _ h=>h.1) ?_ ?_⟩
   ·intro i x σ H3 H2 hi gy gz
    refine(?_:let G_:Prop:=_;G_)
    intro G_
    obtain⟨e2,uJ,z,rfl⟩:=gy
    obtain⟨rfl,ex⟩:=gz
    obtain⟨dd,ed,rd⟩:=G0.get ex
    rw[Yu] at ed
    obtain⟨d,e0,rfl⟩:=Option.map_eq_some_iff.mp ed
    dsimp only[G_]
    have s2:=qW e2
    simp_all only[bY,J4]
    refine⟨_,_,s2 _ _ h1,Co,g,by rw[e2];exact co,_,uJ,d,by rw[e2];exact rd,gd d (YI e0),by rw[cV];exact ln,by rw[xT];exact e2,?_,_,rfl⟩
    rw[aj,YS,e0,Option.toList_some,List.foldl_append]
    rfl
   ·intro σ H2 df
    refine(?_:let G_:Prop:=_;G_)
    intro G_
    obtain⟨e2,uJ,z,rfl⟩:=df
    dsimp only[G_]
    rw[<-G1,YG (Yt _)] at uJ
    exact hN _ e2 uJ _
  rintro H2 e2 uJ z
  have s2:=qW e2
  have U4:(ds.foldl (ix g.cs v) ns).length=g.cs.length:=by rw[cV];exact ln
  simp_all only[bY,xR,s2 _ _ Sq]
  exact⟨_,_,s2 _ _ h1,lp,_,rfl,_,rfl,g,co.mono s2,gg,_,uJ,U4,fu,e8,ak,λa H' s' na e'=>kk a m H' (s2.trans s') (none_of s2 na) P4 e' (s' _ _ uJ)⟩
theorem ff:aT ["self","state","what"] ["self","state"] (ar (inClass (top 34) 10)):=⟨rfl,rfl,rfl,by decide +kernel,rfl,by decide +kernel,by decide +kernel⟩
theorem Ek (T:Txt K mg aE aF aB aH af av):bu P w K mg base (bg P w) 2 af "open_rows" ["self","state"] (xU af):=by
 have bc:bu P w K mg base (bg P w) 1 af "what_at" ["self","state"] (e9 af):=kR T
 have rh:bu P w K mg base (bg P w) 1 af "holds" ["self","when","counts"] (D6 af):=Ka T
 refine T.jt.du (λ_ _ _ _ _ _=>eD λ_ _=>rfl) λf fd F=>F.d3 ff (λvs H Q E h=>?_) (λbT A outer s H vs Q E hr h=>?_)
 ·obtain⟨_,_,_,_,_,_,_,rfl,_⟩:=h;rfl
 ·refine(?_:let G_:Prop:=_;G_)
  intro G_
  obtain⟨c,v,H0,g,nm,ns,x,rfl,s0,Sr,gg,st,ln,lk,kk⟩:=h
  dsimp only[G_]
  have co:=Sr.mono s0
  have nd:=ff.nd
  refine⟨_,(ah (aI (i:=2) nd rfl (Or.inl rfl) (cU bc T.aP (pv 0) (hr.mono (by decide)) au.pass (aa (pv 1) ag (se rfl)) (hst:=se rfl) (hpl:=na rfl)))
  (ah (bf (aL uo (aq ai (pv 2) ae (λ_ _=>rfl)) aZ (aS _)) (ao (aV (b5 ag)))
   aY)
  (ao (aV (cG rfl (N:=["self","state","what"]) (so:=ar (inClass (top 34) 10)) (N':=["row","self","state"]) (k:=1) (fr:=[0,1]) rfl rfl ⟨rfl,by decide +kernel,by decide +kernel,by decide +kernel,rfl,by decide +kernel,by decide +kernel⟩ (bh (K:=K) (aq ai (pv 2) ae (λ_ _=>rfl))) (λ_ _ _ _ _=>(aW (i:=0) (show(["row","self","state"]:List Str).Nodup by decide +kernel) rfl (Or.inl rfl))) (λ_ _ _ _ _=>(eM (kr (cU rh T.aP (pv 1) (hr.mono (by decide)) au.pass (aa (aq ai (pv 0) ae (λ_ _=>rfl)) (aa (aq ai (pv 2) ae (λ_ _=>rfl)) ag (se rfl)) (se rfl)) (hst:=se rfl) (hpl:=na rfl)))))
   (λ_ _ _ _ _=>(pv 0))))))),?_⟩
  refine(?_:let bM:TS:=_;let bN:TS:=_;let bO:TS:=_;tSeq bM (tSeq bN bO) _ _ _)
  intro bM bN bO
  have sl:=sizeLine_eq
  refine(?_:let G_:Prop:=_;G_)
  intro G_
  obtain⟨dx,sp,mo,wh,tb,us,CI,h1,h2,h3,h4,h5,h6⟩:=id co
  obtain⟨sa,l,rfl,gF,hl⟩:=id st
  dsimp only[G_]
  have lp:∀{a b c d e:V},List.lookup (Str.ofString "what_at") [(Str.ofString "spots",a),(Str.ofString "mosts",b),(Str.ofString "first",c),(Str.ofString "whats",d),(Str.ofString "tables",e)]=none:=dF (by decide +kernel) (by decide +kernel) (by decide +kernel) (by decide +kernel) (by decide +kernel)
  have Co:∀{a b c d e:V},List.lookup (Str.ofString "holds") [(Str.ofString "spots",a),(Str.ofString "mosts",b),(Str.ofString "first",c),(Str.ofString "whats",d),(Str.ofString "tables",e)]=none:=dF (by decide +kernel) (by decide +kernel) (by decide +kernel) (by decide +kernel) (by decide +kernel)
  have gx:=gg.wt _ (cS lk)
  change tSeq _ _ _ _ _
  refine aU (λN=>∀u,Rep H0 (kK x) u->N [some (.ref c),some (.ref sa),some u] H) ?_ (λN hN=>?_)
  case refine_2=>
   simp_all only[bY,e9]
   exact⟨_,_,h1,lp,H0,s0,g,Sr,nm,ns,st,x,lk,λu ru=>hN u ru⟩
  rintro u ru
  cases x with
  | pick w' rs=>
   refine(?_:let G_:Prop:=_;G_)
   intro G_
   obtain⟨p,x1,x2,x3,rfl,hp,r1,r2,r3⟩:=dQ.mp (show Rep H0 (.tup _) u from ru)
   rw[aN] at r1
   subst r1
   obtain⟨rl,xs,rfl,tS,Bj⟩:=a7.mp r3
   have len:=Bj.length
   rw[Yr,Yr] at len
   obtain⟨g1,g2⟩:=gx
   dsimp only[G_]
   have zl:(xs.zip rs).length=xs.length:=by rw[List.length_zip];omega
   simp_all only[s0 _ _ hp]
   refine⟨⟨_,bI.of (s0 _ _ tS)⟩,?_⟩
   have S:Src (yJ K rl) (aD H) xs.length _:=src_list (λH' s'=>bI.of (s' _ _ (s0 _ _ tS)))
   rw[<-zl] at S
   refine eI (xs.zip rs) (λx=>if kL g.cs ns x.2.wh=true then some x.1 else none) S (λ_ _ _ _ h=>h.1) (by omega) ?_ ?_
   ·rintro i ⟨x,r⟩ y MZ ⟨_,ey⟩ Y N y1 y2
    obtain⟨e1,e2⟩:=List.getElem?_zip_eq_some.mp MZ
    rw[e1] at ey
    cases ey
    refine(?_:let G_:Prop:=_;G_)
    intro G_
    obtain⟨r',p',a',b',c',d',er,rfl,sT,rb,_⟩:=mh Bj e1
    dsimp only[G_]
    rw[e2] at er
    cases er
    simp_all only[bY,D6,s0 _ _ sT,gF]
    exact⟨_,_,h1,Co,g,co,ns,_,rb.mono s0,hl,ln,gY (λc=>y1 _ (if_pos c)) (λc=>y2 (if_neg c))⟩
   ·intro D n1 n2
    exact kk D _ _ (aA n2) n2 aj (hJ Bj)
  | ask _ _ _ _=>
   refine(?_:let G_:Prop:=_;G_)
   intro G_
   obtain⟨p,x1,x2,x3,x4,x5,rfl,hp,r1,r2,r3,r4,r5⟩:=vI.mp (show Rep H0 (.tup _) u from ru)
   rw[aN] at r1
   subst r1
   dsimp only[G_]
   simp_all only[s0 _ _ hp]
   rw[if_pos (by decide +kernel)]
   exact⟨YD _,λD nD=>kk D _ _ (aA nD) nD aj (bD.mpr rfl)⟩
  | fin _ _=>
   refine(?_:let G_:Prop:=_;G_)
   intro G_
   obtain⟨p,x1,x2,rfl,hp,r1,r2⟩:=bJ.mp (show Rep H0 (.tup _) u from ru)
   rw[aN] at r1
   subst r1
   dsimp only[G_]
   simp_all only[s0 _ _ hp]
   rw[if_pos (by decide +kernel)]
   exact⟨YD _,λD nD=>kk D _ _ (aA nD) nD aj (bD.mpr rfl)⟩
  | score _=>
   refine(?_:let G_:Prop:=_;G_)
   intro G_
   obtain⟨p,x1,x2,rfl,hp,r1,r2⟩:=bJ.mp (show Rep H0 (.tup _) u from ru)
   rw[aN] at r1
   subst r1
   dsimp only[G_]
   simp_all only[s0 _ _ hp]
   rw[if_pos (by decide +kernel)]
   exact⟨YD _,λD nD=>kk D _ _ (aA nD) nD aj (bD.mpr rfl)⟩
  | d7 _ _ _ _=>
   refine(?_:let G_:Prop:=_;G_)
   intro G_
   obtain⟨p,x1,x2,x3,x4,rfl,hp,r1,r2,r3,r4⟩:=c8.mp (show Rep H0 (.tup _) u from ru)
   rw[aN] at r1
   subst r1
   dsimp only[G_]
   simp_all only[s0 _ _ hp]
   rw[if_pos (by decide +kernel)]
   exact⟨YD _,λD nD=>kk D _ _ (aA nD) nD aj (bD.mpr rfl)⟩
theorem fN:aT ["self","state"] ["self","state"] (ar (inClass (top 34) 11)):=⟨rfl,rfl,rfl,by decide +kernel,rfl,by decide +kernel,by decide +kernel⟩
theorem Kc (T:Txt K mg aE aF aB aH af av):bu P w K mg base (bg P w) 3 af "words_at" ["self","state"] (D9 af):=by
 have dR:bu P w K mg base (bg P w) 2 af "open_rows" ["self","state"] (xU af):=Ek T
 refine T.kJ.du (λ_ _ _ _ _ _=>eD λ_ _=>rfl) λf fd F=>F.d3 fN (λvs H Q E h=>?_) (λbT A outer s H vs Q E hr h=>?_)
 ·obtain⟨_,_,_,_,_,_,rfl,_⟩:=h;rfl
 ·refine(?_:let G_:Prop:=_;G_)
  intro G_
  obtain⟨c,v,g,nm,ns,x,rfl,co,gg,st,ln,lk,kk⟩:=h
  dsimp only[G_]
  clear G_
  have nd:=fN.nd
  refine⟨_,(ao (aV (cG rfl (N:=["self","state"]) (so:=ar (inClass (top 34) 11)) (N':=["row"]) (k:=1) (fr:=[]) rfl rfl ⟨rfl,by decide +kernel,by decide +kernel,by decide +kernel,rfl,by decide +kernel,by decide +kernel⟩ (bh (K:=K) (cU dR T.aP (pv 0) (hr.mono (by decide)) au.pass (aa (pv 1) ag (se rfl)) (hst:=se rfl) (hpl:=na rfl))) (λ_ _ _ _ _=>(aW (i:=0) (show(["row"]:List Str).Nodup by decide +kernel) rfl (Or.inl rfl))) (λ_ _ _ _ _=>dk)
   (λ_ _ _ _ _=>(aq ai (pv 0) ae (λ_ _=>rfl)))))),?_⟩
  have sl:=sizeLine_eq
  refine(?_:let G_:Prop:=_;G_)
  intro G_
  obtain⟨dx,sp,mo,wh,tb,us,CI,h1,h2,h3,h4,h5,h6⟩:=id co
  dsimp only[G_]
  clear G_
  have lp:∀{a b c d e:V},List.lookup (Str.ofString "open_rows") [(Str.ofString "spots",a),(Str.ofString "mosts",b),(Str.ofString "first",c),(Str.ofString "whats",d),(Str.ofString "tables",e)]=none:=dF (by decide +kernel) (by decide +kernel) (by decide +kernel) (by decide +kernel) (by decide +kernel)
  have gx:=gg.wt _ (cS lk)
  have Lr:(d9 g.cs ns x).length<=100:=by
   cases x with
   | pick w' rs=>exact YB (List.length_filter_le _ _) gx.1
   | _=>exact YD _
  simp_all only[bY,xU]
  refine⟨_,_,h1,lp,H,aD.refl _,g,co,gg,nm,ns,st,ln,x,lk,λrl xs H1 s1 n1 tS P5=>?_⟩
  generalize d9 g.cs ns x=rs at *
  have Bj:=P5.mono s1
  have len:=Bj.length
  rw[Yr,Yr] at len
  have zl:(xs.zip rs).length=xs.length:=by rw[List.length_zip];omega
  refine⟨⟨_,bI.of tS⟩,?_⟩
  have S:Src (yJ K rl) (aD H1) xs.length _:=src_list (λH' s'=>bI.of (s' _ _ tS))
  rw[<-zl] at S
  refine eI (xs.zip rs) (λx=>some (.str x.2.word)) S (λ_ _ _ _ h=>h.1) (by omega) ?_ ?_
  ·rintro i ⟨x,r⟩ y MZ ⟨_,ey⟩ Y N y1 y2
   obtain⟨e1,e2⟩:=List.getElem?_zip_eq_some.mp MZ
   rw[e1] at ey
   cases ey
   refine(?_:let G_:Prop:=_;G_)
   intro G_
   obtain⟨r',p',a',b',c',d',er,rfl,sT,rb,_⟩:=mh Bj e1
   dsimp only[G_]
   rw[e2] at er
   cases er
   simp_all only[sS,sT]
   exact y1 _ rfl
  ·intro D P6 n2
   have e:(xs.zip rs).filterMap (λx=>some (V.str x.2.word))=rs.map λr=>V.str r.word:=by
    rw[Gv]
    have:(xs.zip rs).map (λx=>V.str x.2.word)=((xs.zip rs).map Prod.snd).map λr=>V.str r.word:=by rw[YZ];rfl
    rw[this,List.map_snd_zip (by omega)]
   rw[e]
   exact kk D _ (s1.trans (aA n2)) (none_of s1 n2) (a7.mpr ⟨D,_,rfl,aj,(uN Bj).mono (aA n2)⟩)
theorem fg:aT ["self","state","what"] ["self","state"] (ar (inClass (top 34) 12)):=⟨rfl,rfl,rfl,by decide +kernel,rfl,by decide +kernel,by decide +kernel⟩
theorem Kd (T:Txt K mg aE aF aB aH af av):bu P w K mg base (bg P w) 2 af "end_worth" ["self","state"] (Ea af):=by
 have bc:bu P w K mg base (bg P w) 1 af "what_at" ["self","state"] (e9 af):=kR T
 refine T.js.du (λ_ _ _ _ _ _=>eD λ_ _=>rfl) λf fd F=>F.d3 fg (λvs H Q E h=>?_) (λbT A outer s H vs Q E hr h=>?_)
 ·obtain⟨_,_,_,_,_,_,_,_,rfl,_⟩:=h;rfl
 ·refine(?_:let G_:Prop:=_;G_)
  intro G_
  obtain⟨c,v,g,nm,ns,x,t,b,rfl,co,gg,st,ln,lk,ew,kk⟩:=h
  dsimp only[G_]
  have nd:=fg.nd
  refine⟨_,(ah (aI (i:=2) nd rfl (Or.inl rfl) (cU bc T.aP (pv 0) (hr.mono (by decide)) au.pass (aa (pv 1) ag (se rfl)) (hst:=se rfl) (hpl:=na rfl)))
  (ao (aV (lH (aL bp (aq ai (pv 2) ae (λ_ _=>rfl)) aZ (aS _)) (aq ai (pv 2) ae (λ_ _=>rfl)) (a5 (aa (aq aQ (aq ai (pv 1) ae (λ_ _=>rfl)) (ck (cf hr) (a9 (pv 0) rfl) (aq ai (pv 2) ae (λ_ _=>rfl)) (λ_ _=>rfl)) (λ_ _=>rfl)) (aa ae ag (se rfl)) (se rfl))))))),?_⟩
  have sl:=sizeLine_eq
  refine(?_:let G_:Prop:=_;G_)
  intro G_
  obtain⟨dx,sp,mo,wh,tb,us,CI,h1,h2,h3,h4,h5,h6⟩:=id co
  obtain⟨sa,l,rfl,gF,hl⟩:=id st
  dsimp only[G_]
  have lp:∀{a b c d e:V},List.lookup (Str.ofString "what_at") [(Str.ofString "spots",a),(Str.ofString "mosts",b),(Str.ofString "first",c),(Str.ofString "whats",d),(Str.ofString "tables",e)]=none:=dF (by decide +kernel) (by decide +kernel) (by decide +kernel) (by decide +kernel) (by decide +kernel)
  have gx:=gg.wt _ (cS lk)
  change tSeq _ _ _ _ _
  refine aU (λN=>∀u,Rep H (kK x) u->N [some (.ref c),some (.ref sa),some u] H) ?_ (λN hN=>?_)
  case refine_2=>
   simp_all only[bY,e9]
   exact⟨_,_,h1,lp,H,aD.refl _,g,co,nm,ns,st,x,lk,λu ru=>hN u ru⟩
  rintro u ru
  cases x with
  | fin t' b'=>
   refine(?_:let G_:Prop:=_;G_)
   intro G_
   obtain⟨p,x1,x2,rfl,hp,r1,r2⟩:=bJ.mp (show Rep H (.tup _) u from ru)
   rw[aN] at r1
   subst r1
   dsimp only[G_]
   cases ew
   simp_all only[cW,hp]
   exact kk _ _ (aD.refl _) r2
  | score c'=>
   refine(?_:let G_:Prop:=_;G_)
   intro G_
   obtain⟨p,x1,x2,rfl,hp,r1,r2⟩:=bJ.mp (show Rep H (.tup _) u from ru)
   rw[aN] at r1 r2
   subst r1 r2
   dsimp only[G_]
   cases ew
   have hs:=fm (cs:=g.cs) gx
   simp_all only[cW,hp,gF]
   rw[if_neg (by decide +kernel)]
   refine⟨_,_,_,h1,T.aP,T.na_Course_spots,_,jX,_,rfl,_,hG h2 gx,_,_,rfl,hl,_,eN (by omega),by decide,λp' H2 s2 np e2=>kk _ _ s2 (bJ.mpr ⟨p',_,_,rfl,e2,bw.mpr rfl,bw.mpr rfl⟩)⟩
  | ask _ _ _ _=>cases ew
  | pick _ _=>cases ew
  | d7 _ _ _ _=>cases ew
theorem Ib {H X H' p6:Hp} (k:Kp H' p6):Kp (nw H X H') (nw H X p6):=λa=>by
 cases c:H a with
 | none=>rw[cc c,cc c];exact k a
 | some x=>unfold nw;rw[c];exact⟨λ_ h=>h,λ_ h=>h⟩
noncomputable def El (q:Addr):Sp:=λvs H Q _=>∃(c:Addr) (dx:Addr) (gv:V) (X:Hp) (g:Gm),vs=[.ref c,gv]/\H c=some (.ins q dx [])/\aD X H/\X c=none/\Rep X (zN g) gv/\GoodG g/\∀tb H',(∀a o,a≠c->H a=some o->H' a=some o)->H tb=none->H' tb=some (.dK [])->Cn q (cE (nw (cE H c) X H') tb) c g tb->Q .cP H'
theorem fO:aT ["self","game","spot","count","name","what"] ["self","game"] (ar (inClass (top 34) 0)):=⟨rfl,rfl,rfl,by decide +kernel,rfl,by decide +kernel,by decide +kernel⟩
theorem M0 (T:Txt K mg aE aF aB aH af av):uH P w K mg base (bg P w) 3 "Course" af ["self","game"] (El af):=by
 have zS:bX P w K mg base (bg P w) 2 "own_what" ["what"] Ec:=MW T
 refine T.Cj.du (λ_ _ _ _ _ _=>eD λ_ _=>rfl) λf fd F=>F.d3 fO (λvs H Q E h=>?_) (λbT A outer s H vs Q E hr h=>?_)
 ·obtain⟨_,_,_,_,_,rfl,_⟩:=h;rfl
 ·refine(?_:let G_:Prop:=_;G_)
  intro G_
  obtain⟨c,dx,gv,X,g,rfl,hc,sx,xc,rg,gg,kk⟩:=h
  dsimp only[G_]
  clear G_
  have nd:=fO.nd
  refine⟨_,(ah (eG (pv 0) gE rfl)
  (ah (eG (pv 0) (b5 ag) rfl)
  (ah (cI PassesOwn.never rfl (sW (K:=K) rfl T.z_enumerate (aa (aq ai (pv 1) ae (λ_ _=>rfl)) ag (se rfl))) (d4 (K:=K) (n:=2) rfl (bA (aW (i:=2) nd rfl (Or.inl rfl)) (bA (aW (i:=3) nd rfl (Or.inl rfl)) dX))) (ah (dZ (cf hr) (a9 (pv 0) rfl) (aq ai (pv 3) ae (λ_ _=>rfl)) (pv 2) rfl)
  (ao (bG (fH YN Zh Zi dj.r (a9 (pv 0) rfl) (aa (aq ai (pv 3) ae (λ_ _=>rfl)) ag (se rfl)))))))
  (ah (eG (pv 0) (aq ai (aq aQ (aq ai (pv 1) ae (λ_ _=>rfl)) ae (λ_ _=>rfl)) ae (λ_ _=>rfl)) rfl)
  (ah (eG (pv 0) gE rfl)
  (ah (cI PassesOwn.never rfl (bh (K:=K) (aq ai (pv 1) ae (λ_ _=>rfl))) (d4 (K:=K) (n:=2) rfl (bA (aW (i:=4) nd rfl (Or.inl rfl)) (bA (aW (i:=5) nd rfl (Or.inl rfl)) dX))) (ao (dZ (cf hr) (a9 (pv 0) rfl) (pv 4) (aK zS (hr.mono (by decide)) rfl au.pass (aa (pv 5) ag (se rfl)) (he:=se rfl) (hpl:=na rfl)) rfl)))
  (ao (eG (pv 0) gE rfl)))))))),?_⟩
  refine(?_:let bM:TS:=_;let bN:TS:=_;let bO:TS:=_;let cM:TS:=_;let oW:TS:=_;let x8:TS:=_;let Em:TS:=_;tSeq bM (tSeq bN (tSeq bO (tSeq cM (tSeq oW (tSeq x8 Em))))) _ _ _)
  intro bM bN bO cM oW x8 Em
  have sl:=sizeLine_eq
  have np:=gg.np
  have nc:=gg.nc
  have lc:=gg.lc
  have XM:=gg.lp
  have p0:=gg.p0
  refine(?_:let G_:Prop:=_;G_)
  intro G_
  obtain⟨gp,g0,g1,rfl,yL,rc,rp⟩:=bJ.mp (show Rep X (.tup _) gv from rg)
  obtain⟨cl,ya,rfl,fK,sO⟩:=a7.mp (show Rep X (.lst _) g0 from rc)
  obtain⟨pl,En,rfl,hpl,FH⟩:=a7.mp (show Rep X (.lst _) g1 from rp)
  dsimp only[G_]
  clear G_
  have yL:=sx _ _ yL
  have fK:=sx _ _ fK
  have hpl:=sx _ _ hpl
  have P7:cE H c c=none:=if_pos rfl
  have Eo:∀{a},H a=none->cE H c a=none:=λ{a} h=>by
   unfold cE
   split
   ·rfl
   ·exact h
  have zT:=sO.length
  rw[Yr] at zT
  have M3:=FH.length
  rw[Yr] at M3
  change tSeq _ _ _ _ _
  let K1:Hp->Prop:=λH1=>∀a o,a≠c->H a=some o->H1 a=some o
  have kp:∀{H1},K1 H1->Kp H H1:=λ{H1} k a=>by
   by_cases z:a=c
   ·subst z;rw[hc];exact⟨(λ_ e=>by cases e),(λ_ e=>by cases e)⟩
   ·exact⟨λ_=>k _ _ z,λ_=>k _ _ z⟩
  have zU:∀{H1 a vs},K1 H1->H a=some (.tup vs)->H1 a=some (.tup vs):=λk e=>((kp k) _).1 _ e
  have Ep:∀{H1 a vs},K1 H1->H a=some (.lst vs)->H1 a=some (.lst vs):=λk e=>((kp k) _).2 _ e
  refine aU (λN=>∀H1,K1 H1->(∃sp,sp≠c/\H sp=none/\H1 c=some (.ins af dx [(Str.ofString "spots",.ref sp)])/\H1 sp=some (.dK []))->N [some (.ref c),some (.ref gp),none,none,none,none] H1) ?_ (λN hN=>?_)
  case refine_2=>
   simp_all only[nv,tDNewK]
   intro sp Kf
   have e1:sp≠c:=λz=>by rw[z,hc] at Kf;cases Kf
   refine⟨_,_,_,by rw[aw (Ne.symm e1)];exact hc,T.aP,T.na_Course_spots,by decide,hN _ (λa o ac ha=>?_) ⟨sp,e1,Kf,aj,by rw[aw e1,aj]⟩⟩
   rw[aw ac,aw (λz=>by rw[z,Kf] at ha;cases ha)]
   exact ha
  intro H1 k1 df
  refine(?_:let G_:Prop:=_;G_)
  intro G_
  obtain⟨sp,Lz,Kf,P8,M4⟩:=df
  dsimp only[G_]
  clear G_
  change tSeq _ _ _ _ _
  refine aU (λN=>∀H2,K1 H2->(∃mo,mo≠c/\mo≠sp/\H mo=none/\H2 c=some (.ins af dx [(Str.ofString "spots",.ref sp),(Str.ofString "mosts",.ref mo)])/\H2 sp=some (.dK [])/\H2 mo=some (.lst []))->N [some (.ref c),some (.ref gp),none,none,none,none] H2) ?_ (λN hN=>?_)
  case refine_2=>
   simp_all only[nv]
   refine⟨YD _,λmo G3=>?_⟩
   have e1:mo≠c:=λz=>by rw[z,P8] at G3;cases G3
   have e2:mo≠sp:=λz=>by rw[z,M4] at G3;cases G3
   have n0:H mo=none:=by
    cases h0:H mo with
    | none=>rfl
    | some o=>rw[k1 _ _ e1 h0] at G3;cases G3
   refine⟨_,_,_,by rw[aw (Ne.symm e1)];exact P8,T.aP,T.na_Course_mosts,by show(1:Nat)<1000;decide,hN _ (λa o ac ha=>?_) ⟨mo,e1,e2,n0,?_,by rw[aw Lz,aw (Ne.symm e2)];exact M4,by rw[aw e1,aj]⟩⟩
   ·rw[aw ac,aw (λz=>by rw[z,n0] at ha;cases ha)]
    exact k1 _ _ ac ha
   ·rw[aj]
    show some (HO.ins _ _ (if Str.ofString "spots"=Str.ofString "mosts" then _ else _))=_
    rw[if_neg (by decide +kernel)]
    rfl
  intro H2 k2 df
  refine(?_:let G_:Prop:=_;G_)
  intro G_
  obtain⟨mo,Og,M5,G3,Ss,Qa,Qb⟩:=df
  dsimp only[G_]
  clear G_
  change tSeq _ _ _ _ _
  refine aU (λN=>∀H3,K1 H3->H3 c=some (.ins af dx [(Str.ofString "spots",.ref sp),(Str.ofString "mosts",.ref mo)])->H3 sp=some (.dK (qS g.cs 0))->H3 mo=some (.lst ((g.cs.map (·.2)).map V.int))->∀z1 z2,N [some (.ref c),some (.ref gp),z1,z2,none,none] H3) ?_ (λN hN=>?_)
  case refine_2=>
   simp_all only[iEnum,zU k2 yL]
   refine⟨⟨_,bI.of (Ep k2 fK)⟩,bU (DB (Ok:=K1) (λH' k=>bI.of (Ep k fK))) (λi σ H'=>K1 H'/\H' c=some (.ins af dx [(Str.ofString "spots",.ref sp),(Str.ofString "mosts",.ref mo)])/\H' sp=some (.dK (qS (g.cs.take i) 0))/\H' mo=some (.lst (((g.cs.take i).map (·.2)).map V.int))/\∃z1 z2,σ=[some (.ref c),some (.ref gp),z1,z2,none,none]) ⟨k2,Ss,Qa,Qb,_,_,rfl⟩ (λ_ _ _ _ h=>h.1) ?_ ?_⟩
   ·intro i x σ H3 H4 hi gy gz
    refine(?_:let G_:Prop:=_;G_)
    intro G_
    obtain⟨k3,LA,zV,zW,z1,z2,rfl⟩:=gy
    obtain⟨t,y,nt,rfl,ey,rfl⟩:=gz
    obtain⟨d0,ed,rd⟩:=sO.get ey
    rw[Yu] at ed
    obtain⟨cn,ec,rfl⟩:=Option.map_eq_some_iff.mp ed
    obtain⟨cp,y1,y2,rfl,Ic,r1,r2⟩:=bJ.mp (show Rep X (.tup _) y from rd)
    rw[aN] at r1
    rw[bw] at r2
    subst r1 r2
    dsimp only[G_]
    clear G_
    have Ic:=sx _ _ Ic
    have tk:g.cs.take (i+1)=g.cs.take i++ [cn]:=by rw[YS,ec];rfl
    have nn:cn.1∉(g.cs.take i).map (·.1):=by
     rw[List.map_take]
     exact xV nc (by rw[Yu,ec];rfl)
    have tc:t≠c:=λz=>by rw[z,LA] at nt;cases nt
    have ts:t≠sp:=λz=>by rw[z,zV] at nt;cases nt
    have tm:t≠mo:=λz=>by rw[z,zW] at nt;cases nt
    have k4:K1 (upd H3 t (.tup [.int (i:Int),.ref cp])):=λa o ac ha=>aA nt _ _ (k3 a o ac ha)
    have LB:upd H3 t (.tup [.int (i:Int),.ref cp]) c=_:=aA nt _ _ LA
    have G4:upd H3 t (.tup [.int (i:Int),.ref cp]) sp=_:=aA nt _ _ zV
    have G5:upd H3 t (.tup [.int (i:Int),.ref cp]) mo=_:=aA nt _ _ zW
    refine⟨t,_,rfl,jn.of aj,rfl,?_⟩
    generalize upd H3 t (.tup [.int (i:Int),.ref cp])=H4 at *
    have U5:(qS (g.cs.take i) 0).length<sizeLine:=by rw[Bc,YK];omega
    have k5:K1 (upd H4 sp (.dK (putK (qS (g.cs.take i) 0) (Sum.inr cn.1) (.int (i:Int))))):=λa o ac ha=>by
     rw[aw (λz=>by rw[z,Kf] at ha;cases ha)]
     exact k4 a o ac ha
    simp_all only[sDPut,cW,eL,zU k4 Ic]
    have Oh:dt (qS (g.cs.take i) 0) (Sum.inr cn.1)=none:=qT nn
    rw[ji Oh] at k5
    have lt:(g.cs.take i).length=i:=by rw[YK];omega
    have G6:∀o,upd H4 sp o mo=some (.lst (((g.cs.take i).map (·.2)).map V.int)):=λo=>by rw[aw M5];exact G5
    have ty:∀o,NY K "list" (.ref mo) (upd H4 sp o):=λo=>.inl ⟨rfl,_,bI.of (G6 o)⟩
    refine⟨_,_,_,LB,T.aP,T.na_Course_spots,_,Y2,_,rfl,_,.inl ⟨_,Sum.inr cn.1,G4,rfl,U5,rfl⟩,?_⟩
    rw[ji Oh]
    refine⟨_,_,_,by rw[aw (Ne.symm Lz)];exact LB,T.aP,T.na_Course_mosts,_,by rw[bH (by decide +kernel)];exact Y2,ty _,_,zU k5 Ic,_,rfl,_,rfl,_,G6 _,by rw[Yr,Yr];omega,?_⟩
    refine⟨?_,?_,?_,?_,_,rfl⟩
    ·intro a o ac ha
     rw[aw (λz=>by rw[z,G3] at ha;cases ha)]
     exact k5 a o ac ha
    ·rw[aw (Ne.symm Og),aw (Ne.symm Lz)];exact LB
    ·rw[aw (Ne.symm M5),aj,tk,xQ,lt,Nat.zero_add]
    ·rw[aj,tk,Yx,Yx]
     rfl
   ·intro σ H3 df
    refine(?_:let G_:Prop:=_;G_)
    intro G_
    obtain⟨k3,LA,zV,zW,z1,z2,rfl⟩:=df
    dsimp only[G_]
    rw[<-zT,YG (Yt _)] at zV zW
    exact hN _ k3 LA zV zW _ _
  rintro H3 k3 LA zV zW z1 z2
  obtain⟨⟨n0,x0⟩,Su⟩:∃x,g.ps[0]?=some x:=⟨_,Yw p0⟩
  obtain⟨v0,U6,Qc⟩:=FH.at (by rw[Yu,Su];rfl)
  change tSeq _ _ _ _ _
  refine aU (λN=>∀H4,K1 H4->H4 c=some (.ins af dx [(Str.ofString "spots",.ref sp),(Str.ofString "mosts",.ref mo),(Str.ofString "first",.str n0)])->H4 sp=some (.dK (qS g.cs 0))->H4 mo=some (.lst ((g.cs.map (·.2)).map V.int))->N [some (.ref c),some (.ref gp),z1,z2,none,none] H4) ?_ (λN hN=>?_)
  case refine_2=>
   simp_all only[nv,zU k3 yL]
   refine(?_:let G_:Prop:=_;G_)
   intro G_
   obtain⟨q0,a1,a2,rfl,Ie,b1,_⟩:=bJ.mp (show Rep X (.tup _) v0 from Qc)
   rw[aN] at b1
   subst b1
   dsimp only[G_]
   have Ie:=sx _ _ Ie
   have at0:lJ En 0=some (.ref q0):=(bP U6:lJ En ((0:Nat):Int)=_)
   refine⟨_,Ep k3 hpl,_,at0,_,rfl,_,zU k3 Ie,_,rfl,_,_,_,LA,T.aP,T.na_Course_first,by show(2:Nat)<1000;decide,hN _ (λa o ac ha=>?_) ?_ (by rw[aw Lz];exact zV) (by rw[aw Og];exact zW)⟩
   ·rw[aw ac]
    exact k3 _ _ ac ha
   ·rw[aj]
    show some (HO.ins _ _ (if Str.ofString "spots"=Str.ofString "first" then _ else _::(if Str.ofString "mosts"=Str.ofString "first" then _ else _)))=_
    rw[if_neg (by decide +kernel),if_neg (by decide +kernel)]
    rfl
  rintro H4 k4 LB G4 G5
  change tSeq _ _ _ _ _
  refine aU (λN=>∀H5,K1 H5->(∃wh,wh≠c/\wh≠sp/\wh≠mo/\H wh=none/\H5 c=some (.ins af dx [(Str.ofString "spots",.ref sp),(Str.ofString "mosts",.ref mo),(Str.ofString "first",.str n0),(Str.ofString "whats",.ref wh)])/\H5 sp=some (.dK (qS g.cs 0))/\H5 mo=some (.lst ((g.cs.map (·.2)).map V.int))/\H5 wh=some (.dK []))->N [some (.ref c),some (.ref gp),z1,z2,none,none] H5) ?_ (λN hN=>?_)
  case refine_2=>
   simp_all only[nv,tDNewK]
   intro wh Er
   have e1:wh≠c:=λz=>by rw[z,LB] at Er;cases Er
   have e2:wh≠sp:=λz=>by rw[z,G4] at Er;cases Er
   have e3:wh≠mo:=λz=>by rw[z,G5] at Er;cases Er
   have n0:H wh=none:=by
    cases h0:H wh with
    | none=>rfl
    | some o=>rw[k4 _ _ e1 h0] at Er;cases Er
   refine⟨_,_,_,by rw[aw (Ne.symm e1)];exact LB,T.aP,T.na_Course_whats,by show(3:Nat)<1000;decide,hN _ (λa o ac ha=>?_) ⟨wh,e1,e2,e3,n0,?_,by rw[aw Lz,aw (Ne.symm e2)];exact G4,by rw[aw Og,aw (Ne.symm e3)];exact G5,by rw[aw e1,aj]⟩⟩
   ·rw[aw ac,aw (λz=>by rw[z,n0] at ha;cases ha)]
    exact k4 _ _ ac ha
   ·rw[aj]
    show some (HO.ins _ _ (if Str.ofString "spots"=Str.ofString "whats" then _ else _::(if Str.ofString "mosts"=Str.ofString "whats" then _ else _::(if Str.ofString "first"=Str.ofString "whats" then _ else _))))=_
    rw[if_neg (by decide +kernel),if_neg (by decide +kernel),if_neg (by decide +kernel)]
    rfl
  intro H5 k5 df
  refine(?_:let G_:Prop:=_;G_)
  intro G_
  obtain⟨wh,Sv,Qd,Qe,Er,U7,Qf,G6,Qg⟩:=df
  dsimp only[G_]
  change tSeq _ _ _ _ _
  refine aU (λN=>∀H6,K1 H6->H6 c=some (.ins af dx [(Str.ofString "spots",.ref sp),(Str.ofString "mosts",.ref mo),(Str.ofString "first",.str n0),(Str.ofString "whats",.ref wh)])->H6 sp=some (.dK (qS g.cs 0))->H6 mo=some (.lst ((g.cs.map (·.2)).map V.int))->(∃us,H6 wh=some (.dK us)/\qU (nw (cE H c) X H6) g.ps us)->∀z3 z4,N [some (.ref c),some (.ref gp),z1,z2,z3,z4] H6) ?_ (λN hN=>?_)
  case refine_2=>
   simp_all only[zU k5 yL]
   refine⟨⟨_,bI.of (Ep k5 hpl)⟩,bU (src_list (Ok:=K1) (λH' k=>bI.of (Ep k hpl))) (λi σ H'=>K1 H'/\H' c=some (.ins af dx [(Str.ofString "spots",.ref sp),(Str.ofString "mosts",.ref mo),(Str.ofString "first",.str n0),(Str.ofString "whats",.ref wh)])/\H' sp=some (.dK (qS g.cs 0))/\H' mo=some (.lst ((g.cs.map (·.2)).map V.int))/\(∃us,H' wh=some (.dK us)/\qU (nw (cE H c) X H') (g.ps.take i) us)/\∃z3 z4,σ=[some (.ref c),some (.ref gp),z1,z2,z3,z4]) ⟨k5,U7,Qf,G6,⟨[],Qg,rfl⟩,_,_,rfl⟩ (λ_ _ _ _ h=>h.1) ?_ ?_⟩
   ·intro i x σ H7 H6 hi gy gz
    refine(?_:let G_:Prop:=_;G_)
    intro G_
    obtain⟨k6,G7,Cp,Cq,⟨us,yb,wk⟩,z3,z4,rfl⟩:=gy
    obtain⟨rfl,ey⟩:=gz
    obtain⟨d0,ed,rd⟩:=FH.get ey
    rw[Yu] at ed
    obtain⟨pn,ec,rfl⟩:=Option.map_eq_some_iff.mp ed
    obtain⟨cp,y1,y2,rfl,Ic,r1,r2⟩:=bJ.mp (show Rep X (.tup _) x from rd)
    rw[aN] at r1
    subst r1
    dsimp only[G_]
    have Ic:=sx _ _ Ic
    have U8:aD X H6:=λa o h=>k6 _ _ (λz=>by rw[z,xc] at h;cases h) (sx _ _ h)
    have tk:g.ps.take (i+1)=g.ps.take i++ [pn]:=by rw[YS,ec];rfl
    have nn:pn.1∉(g.ps.take i).map (·.1):=by
     rw[List.map_take]
     exact xV np (by rw[Yu,ec];rfl)
    have Oh:=wk.none nn
    have XN:us.length<=100:=by rw[wk.len,YK];omega
    refine⟨cp,_,rfl,jn.of (zU k6 Ic),rfl,?_⟩
    simp_all only[sDPut,cW,Ec]
    refine⟨X,U8,_,r2,_,gg.wt _ (YI ec),λu H7 s7 ru=>?_⟩
    refine⟨_,_,_,s7 _ _ G7,T.aP,T.na_Course_whats,_,by rw[bH (by decide +kernel),bH (by decide +kernel),bH (by decide +kernel)];exact Y2,_,rfl,_,.inl ⟨_,Sum.inr pn.1,s7 _ _ yb,rfl,by omega,rfl⟩,?_⟩
    rw[ji Oh]
    have kq:Kp H7 (upd H7 wh (.dK (us++ [(Sum.inr pn.1,u)]))):=Kp.upd (λvs e=>by rw[s7 _ _ yb] at e;cases e) (λvs e=>by rw[s7 _ _ yb] at e;cases e)
    refine⟨λa o ac ha=>?_,by rw[aw (Ne.symm Sv)];exact s7 _ _ G7,by rw[aw (Ne.symm Qd)];exact s7 _ _ Cp,by rw[aw (Ne.symm Qe)];exact s7 _ _ Cq,⟨_,aj,?_⟩,_,rfl⟩
    ·rw[aw (λz=>by rw[z,Er] at ha;cases ha)]
     exact s7 _ _ (k6 _ _ ac ha)
    ·rw[tk]
     have kn:Kp (nw (cE H c) X H7) (nw (cE H c) X (upd H7 wh (.dK (us++ [(Sum.inr pn.1,u)])))):=Ib kq
     refine qU.snoc (kn.rep (ru.mono λa o h=>?_)) (kn.PX (wk.mono (mi s7)))
     cases h6:H6 a with
     | none=>
      rw[cc h6] at h
      have ac:a≠c:=λz=>by rw[z,G7] at h6;cases h6
      have h0:H a=none:=by
       cases h0:H a with
       | none=>rfl
       | some o=>rw[k6 _ _ ac h0] at h6;cases h6
      rw[cc (Eo h0)]
      exact h
     | some o6=>
      unfold nw at h
      rw[h6] at h
      exact jY (λa o hx=>by rw[cK (λz=>by rw[z,xc] at hx;cases hx)];exact sx _ _ hx) _ _ h
   ·intro σ H6 df
    refine(?_:let G_:Prop:=_;G_)
    intro G_
    obtain⟨k6,G7,Cp,Cq,⟨us,yb,wk⟩,z3,z4,rfl⟩:=df
    dsimp only[G_]
    rw[<-M3,YG (Yt _)] at wk
    exact hN _ k6 G7 Cp Cq ⟨us,yb,wk⟩ _ _
  intro H6 k6 G7 Cp Cq U9 z3 z4
  refine(?_:let G_:Prop:=_;G_)
  intro G_
  obtain⟨us,yb,wk⟩:=U9
  dsimp only[G_]
  simp_all only[nv,tDNewK]
  intro tb rj
  have e1:tb≠c:=λz=>by rw[z,G7] at rj;cases rj
  have e2:tb≠sp:=λz=>by rw[z,Cp] at rj;cases rj
  have e3:tb≠mo:=λz=>by rw[z,Cq] at rj;cases rj
  have e4:tb≠wh:=λz=>by rw[z,yb] at rj;cases rj
  have zX:H tb=none:=by
   cases h0:H tb with
   | none=>rfl
   | some o=>rw[k6 _ _ e1 h0] at rj;cases rj
  refine⟨_,_,_,by rw[aw (Ne.symm e1)];exact G7,T.aP,T.na_Course_tables,by show(4:Nat)<1000;decide,kk tb _ (λa o ac ha=>?_) zX (by rw[aw e1,aj]) ⟨dx,sp,mo,wh,us,n0,?_,by rw[cK (Ne.symm e2),cc (Eo Kf),aw Lz,aw (Ne.symm e2)];exact Cp,by rw[cK (Ne.symm e3),cc (Eo G3),aw Og,aw (Ne.symm e3)];exact Cq,by rw[cK (Ne.symm e4),cc (Eo Er),aw Sv,aw (Ne.symm e4)];exact yb,?_,?_⟩⟩
  ·rw[aw ac,aw (λz=>by rw[z,zX] at ha;cases ha)]
   exact k6 _ _ ac ha
  ·rw[cK (Ne.symm e1),cc P7,aj]
   show some (HO.ins _ _ (if Str.ofString "spots"=Str.ofString "tables" then _ else _::(if Str.ofString "mosts"=Str.ofString "tables" then _ else _::(if Str.ofString "first"=Str.ofString "tables" then _ else _::(if Str.ofString "whats"=Str.ofString "tables" then _ else _)))))=_
   rw[if_neg (by decide +kernel),if_neg (by decide +kernel),if_neg (by decide +kernel),if_neg (by decide +kernel)]
   rfl
  ·have L1:upd H6 tb (.dK []) c=_:=(aw (Ne.symm e1)).trans G7
   refine((Ib ((Kp.of (aA rj)).trans (Kp.upd (o:=_) (λvs e=>by rw[L1] at e;cases e) (λvs e=>by rw[L1] at e;cases e)))).trans (Kp.cE (tb:=tb) (kvs:=[]) ?_)).PX wk
   rw[cc (Eo zX),aw e1,aj]
  ·rw[List.head?_map,List.head?_eq_getElem?,Su]
   rfl
theorem fP:aT ["self","state"] ["self","state"] (ar (inClass (top 34) 8)):=⟨rfl,rfl,rfl,by decide +kernel,rfl,by decide +kernel,by decide +kernel⟩
theorem yc {a b c d e:V}:List.lookup (Str.ofString "tables") [(Str.ofString "spots",a),(Str.ofString "mosts",b),(Str.ofString "first",c),(Str.ofString "whats",d),(Str.ofString "tables",e)]=some e:=by
 rw[bH (by decide +kernel),bH (by decide +kernel),bH (by decide +kernel),bH (by decide +kernel)];exact Y2
theorem Kg (T:Txt K mg aE aF aB aH af av):bu P w K mg base (bg P w) 7 af "table_at" ["self","state"] (Eb af):=by
 have bc:bu P w K mg base (bg P w) 1 af "what_at" ["self","state"] (e9 af):=kR T
 have vP:bX P w K mg base (bg P w) 6 "pool_table" ["pool"] J2:=MU T
 refine T.kI.du (λ_ _ _ _ _ _=>eD λ_ _=>rfl) λf fd F=>F.d3 fP (λvs H Q E h=>?_) (λbT A outer s H vs Q E hr h=>?_)
 ·obtain⟨_,_,_,_,_,_,_,_,_,_,_,rfl,_⟩:=h;rfl
 ·refine(?_:let G_:Prop:=_;G_)
  intro G_
  obtain⟨c,sv,g,nm,ns,tb,kvs,ps,t,b,rs,rfl,co,st,mq,Sw,lk,gl,l4,kF,kN⟩:=h
  dsimp only[G_]
  have nd:=fP.nd
  refine⟨_,(ah (bf (CU (uA (cf hr) (aq ai (pv 1) ae (λ_ _=>rfl)) (a9 (pv 0) rfl))) (ao (dZ (cf hr) (a9 (pv 0) rfl) (aq ai (pv 1) ae (λ_ _=>rfl)) (aK vP (hr.mono (by decide)) rfl au.pass (aa (aq ai (cU bc T.aP (pv 0) (hr.mono (by decide)) au.pass (aa (pv 1) ag (se rfl)) (hst:=se rfl) (hpl:=na rfl)) ae (λ_ _=>rfl)) ag (se rfl)) (he:=se rfl) (hpl:=na rfl)) rfl))
   aY)
  (ao (aV (ck (cf hr) (a9 (pv 0) rfl) (aq ai (pv 1) ae (λ_ _=>rfl)) (λ_ _=>rfl))))),?_⟩
  have sl:=sizeLine_eq
  refine(?_:let G_:Prop:=_;G_)
  intro G_
  obtain⟨dx,sp,mo,wh,us,CI,h1,h2,h3,h4,h5,h6⟩:=id co
  obtain⟨sa,cl,rfl,gF,fK⟩:=id st
  dsimp only[G_]
  have Ig:=cZ _ _ h1
  have lp:∀{a b c d e:V},List.lookup (Str.ofString "what_at") [(Str.ofString "spots",a),(Str.ofString "mosts",b),(Str.ofString "first",c),(Str.ofString "whats",d),(Str.ofString "tables",e)]=none:=dF (by decide +kernel) (by decide +kernel) (by decide +kernel) (by decide +kernel) (by decide +kernel)
  cases hv:dt kvs (Sum.inr nm) with
  | some v=>
   simp_all only[cW,gF]
   refine⟨_,_,_,Ig,T.aP,T.na_Course_tables,_,yc,_,rfl,_,.inl ⟨kvs,Sum.inr nm,.inl mq,rfl,hv.symm⟩,?_⟩
   rw[if_neg (by simp)]
   exact⟨_,_,_,Ig,T.aP,T.na_Course_tables,_,yc,_,rfl,_,.inl ⟨kvs,Sum.inr nm,.inl mq,rfl,hv.symm⟩,kF v hv⟩
  | none=>
   simp_all only[cW,bY,gF,e9,J2,sDPut]
   refine⟨_,_,_,Ig,T.aP,T.na_Course_tables,_,yc,_,rfl,_,.inl ⟨kvs,Sum.inr nm,.inl mq,rfl,hv.symm⟩,?_⟩
   rw[if_pos (by rfl)]
   refine⟨_,_,Ig,lp,cE H tb,cZ,g,co.co,nm,ns,st,_,lk,λu ru=>?_⟩
   refine(?_:let G_:Prop:=_;G_)
   intro G_
   obtain⟨p,x1,x2,x3,x4,rfl,hp,r1,r2,r3,r4⟩:=c8.mp (show Rep _ (.tup _) u from ru)
   obtain⟨a,rfl,pl⟩:=Bg r2
   dsimp only[G_]
   refine⟨_,rfl,_,cZ _ _ hp,_,rfl,_,rfl,ps,pl.mono cZ,gl,l4,λp2 H1 s1 n1 rt=>?_⟩
   have ct:c≠tb:=λz=>by rw[z] at h1;unfold cE at h1;rw[if_pos rfl] at h1;cases h1
   have sat:sa≠tb:=λz=>by rw[z,mq] at gF;cases gF
   refine⟨_,_,_,s1 _ _ Ig,T.aP,T.na_Course_tables,_,yc,_,s1 _ _ gF,_,rfl,_,rfl,_,.inl ⟨kvs,Sum.inr nm,s1 _ _ mq,rfl,by omega,rfl⟩,?_⟩
   rw[ji hv]
   refine⟨_,_,_,by rw[aw ct];exact s1 _ _ Ig,T.aP,T.na_Course_tables,_,yc,_,by rw[aw sat];exact s1 _ _ gF,_,rfl,_,rfl,_,.inl ⟨_,Sum.inr nm,.inl aj,rfl,?_⟩,kN hv p2 H1 s1 n1 rt⟩
   rw[xX hv,if_pos rfl]
theorem fQ:aT ["self","state","value","rows"] ["self","state","value"] (ar (inClass (top 34) 7)):=⟨rfl,rfl,rfl,by decide +kernel,rfl,by decide +kernel,by decide +kernel⟩
theorem M6 (T:Txt K mg aE aF aB aH af av):bu P w K mg base (bg P w) 4 af "by_value" ["self","state","value"] (J6 af):=by
 have bc:bu P w K mg base (bg P w) 1 af "what_at" ["self","state"] (e9 af):=kR T
 have eX:bu P w K mg base (bg P w) 3 af "by_row" ["self","state","row","value"] (xS af):=Ej T
 refine T.kG.du (λ_ _ _ _ _ _=>tK λ_ _ _=>rfl) λf fd F=>F.d3 fQ (λvs H Q E h=>?_) (λbT A outer s H vs Q E hr h=>?_)
 ·obtain⟨_,_,_,_,_,_,_,_,_,_,_,_,_,rfl,_⟩:=h;rfl
 ·refine(?_:let G_:Prop:=_;G_)
  intro G_
  obtain⟨c,sv,v,g,nm,ns,dD,t,b,rs,r,fu,e8,rfl,co,gg,st,ln,lk,ro,ak,kk⟩:=h
  dsimp only[G_]
  have nd:=fQ.nd
  refine⟨_,(ah (lR (i:=3) rfl nd rfl rfl (N:=["self","state","value","rows"]) (so:=ar (inClass (top 34) 7)) (N':=["row","value"]) (k:=1) (fr:=[2]) rfl rfl ⟨rfl,by decide +kernel,by decide +kernel,by decide +kernel,rfl,by decide +kernel,by decide +kernel⟩ (bh (K:=K) (aq ai (cU bc T.aP (pv 0) (hr.mono (by decide)) au.pass (aa (pv 1) ag (se rfl)) (hst:=se rfl) (hpl:=na rfl)) ae (λ_ _=>rfl))) (λ_ _ _ _ _=>(aW (i:=0) (show(["row","value"]:List Str).Nodup by decide +kernel) rfl (Or.inl rfl))) (λ_ _ _ _ _=>(eM (wY AB AB (aq ai (pv 0) ae (λ_ _=>rfl)) (pv 1) (aq ai (pv 0) ae (λ_ _=>rfl)))))
   (λ_ _ _ _ _=>(pv 0)))
  (ao (aV (cU eX T.aP (pv 0) (hr.mono (by decide)) au.pass (aa (pv 1) (aa (aq aQ (pv 3) ae (λ_ _=>rfl)) (aa (pv 2) ag (se rfl)) (se rfl)) (se rfl)) (hst:=se rfl) (hpl:=na rfl))))),?_⟩
  have sl:=sizeLine_eq
  refine(?_:let G_:Prop:=_;G_)
  intro G_
  obtain⟨dx,sp,mo,wh,tb,us,CI,h1,h2,h3,h4,h5,h6⟩:=id co
  obtain⟨sa,cl,rfl,gF,fK⟩:=id st
  obtain⟨g0,g1,g2⟩:=gg.wt _ (cS lk)
  dsimp only[G_]
  have lp:∀{a b c d e:V},List.lookup (Str.ofString "what_at") [(Str.ofString "spots",a),(Str.ofString "mosts",b),(Str.ofString "first",c),(Str.ofString "whats",d),(Str.ofString "tables",e)]=none:=dF (by decide +kernel) (by decide +kernel) (by decide +kernel) (by decide +kernel) (by decide +kernel)
  have Co:∀{a b c d e:V},List.lookup (Str.ofString "by_row") [(Str.ofString "spots",a),(Str.ofString "mosts",b),(Str.ofString "first",c),(Str.ofString "whats",d),(Str.ofString "tables",e)]=none:=dF (by decide +kernel) (by decide +kernel) (by decide +kernel) (by decide +kernel) (by decide +kernel)
  change tSeq _ _ _ _ _
  refine aU (λN=>∀H1,aD H H1->∀p xs,H1 p=some (.lst xs)->a8 H (((rs.filter λr=>decide (r.1<=v) && decide (v<=r.2.1)).map FE).map qR) xs->N [some (.ref c),some (.ref sa),some (.int v),some (.ref p)] H1) ?_ (λN hN=>?_)
  case refine_2=>
   simp_all only[bY,e9]
   refine⟨_,_,h1,lp,H,aD.refl _,g,co,nm,ns,st,_,lk,λu ru=>?_⟩
   refine(?_:let G_:Prop:=_;G_)
   intro G_
   obtain⟨p,x1,x2,x3,x4,rfl,hp,r1,r2,r3,r4⟩:=c8.mp (show Rep H (.tup _) u from ru)
   obtain⟨rl,xs,rfl,tS,Bj⟩:=a7.mp r4
   dsimp only[G_]
   have len:=Bj.length
   rw[Yr,Yr] at len
   have zl:(xs.zip rs).length=xs.length:=by rw[List.length_zip];omega
   refine⟨_,rfl,_,hp,_,rfl,_,rfl,⟨_,bI.of tS⟩,?_⟩
   have S:Src (yJ K rl) (aD H) xs.length _:=src_list (λH' s'=>bI.of (s' _ _ tS))
   rw[<-zl] at S
   refine eI (xs.zip rs) (λx=>if (decide (x.2.1<=v) && decide (v<=x.2.2.1))=true then some x.1 else none) S (λ_ _ _ _ h=>h.1) (by omega) ?_ ?_
   ·rintro i ⟨x,r'⟩ y MZ ⟨_,ey⟩ Y N3 y1 y2
    obtain⟨e1,e2⟩:=List.getElem?_zip_eq_some.mp MZ
    rw[e1] at ey
    cases ey
    refine(?_:let G_:Prop:=_;G_)
    intro G_
    obtain⟨dd,ed,rd⟩:=Bj.get e1
    dsimp only[G_]
    rw[Yu,Yu,e2] at ed
    cases ed
    refine(?_:let G_:Prop:=_;G_)
    intro G_
    obtain⟨p',a',b',c',d',rfl,sT,q1,q2,q3,q4⟩:=c8.mp (show Rep H (.tup _) x from rd)
    dsimp only[G_]
    rw[show a'=.int r'.1 from bw.mp q1,show b'=.int r'.2.1 from bw.mp q2] at sT
    simp_all only[sT]
    by_cases c1:r'.1<=v
    ·rw[if_pos c1]
     by_cases c2:v<=r'.2.1
     ·rw[if_pos c2];exact y1 _ (if_pos (by simp [c1,c2]))
     ·rw[if_neg c2];exact y2 (if_neg (by simp [c2]))
    ·rw[if_neg c1,if_neg (by decide)];exact y2 (if_neg (by simp [c1]))
   ·intro D n1 n2
    exact hN _ (aA n2) D _ aj (nR Bj)
  rintro H1 s1 p xs hp Bj
  have hd:(rs.filter λr=>decide (r.1<=v) && decide (v<=r.2.1)).head?=some r:=by rw[List.head?_filter];exact ro
  obtain⟨rest,er⟩:∃rest,(rs.filter λr=>decide (r.1<=v) && decide (v<=r.2.1))=r::rest:=by
   cases h:rs.filter λr=>decide (r.1<=v) && decide (v<=r.2.1) with
   | nil=>rw[h] at hd;cases hd
   | cons a l=>rw[h] at hd;cases hd;exact⟨l,rfl⟩
  rw[er] at Bj
  refine(?_:let G_:Prop:=_;G_)
  intro G_
  obtain⟨y,ys,rfl,ry,_⟩:=aR.mp Bj
  have mr:r∈rs:=Zo ro
  obtain⟨q1,q2⟩:=g2 r mr
  dsimp only[G_]
  simp_all only[bY,xS]
  refine⟨_,_,s1 _ _ h1,Co,_,hp,_,(bP rfl:lJ (y::ys) ((0:Nat):Int)=_),g,co.mono s1,gg,nm,ns,st.mono s1,_,_,r.2.2.1,r.2.2.2,ry.mono s1,q2,q1,ln,fu,e8,ak,λp' l' H' s' n1 n2 e1 e2=>kk p' l' H' (s1.trans s') (none_of s1 n1) (none_of s1 n2) e1 e2⟩
noncomputable def bE (L:List Addr) (H:Hp):Hp:=λa=>if a∈L then none else H a
theorem bZ {L:List Addr} {H:Hp} {a:Addr} (h:a∉L):bE L H a=H a:=if_neg h
theorem dH {L:List Addr} {H:Hp} {a:Addr} {o:HO} (h:bE L H a=some o):a∉L/\H a=some o:=by
 unfold bE at h
 by_cases c:a∈L
 ·rw[if_pos c] at h;cases h
 ·rw[if_neg c] at h;exact⟨c,h⟩
theorem aM {L:List Addr} {H:Hp}:aD (bE L H) H:=λ_ _ h=>(dH h).2
theorem Es {L:List Addr} {H:Hp} {t:Addr} (ht:t∈L):aD (bE L H) (cE H t):=λa o h=>by
 obtain⟨c,h⟩:=dH h
 rw[cK (λz=>c (by rw[z];exact ht))]
 exact h
noncomputable def K3 (p t b:Addr) (H H':Hp):Prop:=∀a o,a≠p->a≠t->a≠b->H a=some o->H' a=some o
theorem K3.of {p t b:Addr} {H H':Hp} (s:aD H H'):K3 p t b H H':=λa o _ _ _ h=>s a o h
theorem K3.trans {p t b:Addr} {H H' p6:Hp} (s:K3 p t b H H') (s':K3 p t b H' p6):K3 p t b H p6:=λa o h1 h2 h3 h=>s' a o h1 h2 h3 (s a o h1 h2 h3 h)
theorem K3.cE {p t b:Addr} {L:List Addr} {H H':Hp} (k:K3 p t b H H') (hp:p∈L) (ht:t∈L) (hb:b∈L):aD (bE L H) (bE L H'):=λa o h=>by
 obtain⟨c,h⟩:=dH h
 rw[bZ c]
 exact k a o (λz=>c (by rw[z];exact hp)) (λz=>c (by rw[z];exact ht)) (λz=>c (by rw[z];exact hb)) h
theorem dU {L:List Addr} {H H':Hp} (s:aD H H'):aD (bE L H) (bE L H'):=λa o h=>by
 obtain⟨c,h⟩:=dH h
 rw[bZ c]
 exact s a o h
abbrev ju:=Str×fE×(Int×Int)
noncomputable def CJ (X:Hp) (e:ju) (v:V):Prop:=∃t sv pv,v=.ref t/\X t=some (.tup [.str e.1,sv,pv])/\qV X sv e.2.1.1 e.2.1.2/\Rep X (dq e.2.2) pv
theorem CJ.mono {X X':Hp} {e:ju} {v:V} (s:aD X X') (h:CJ X e v):CJ X' e v:=by
 obtain⟨t,sv,pv,e1,h1,⟨a,l,e2,h2,h3⟩,r⟩:=h
 exact⟨t,sv,pv,e1,s _ _ h1,⟨a,l,e2,s _ _ h2,s _ _ h3⟩,r.mono s⟩
noncomputable def iu (c sv pv tl:V):List (Str×V):=[(Str.ofString "course",c),(Str.ofString "state",sv),(Str.ofString "paid",pv),(Str.ofString "trail",tl)]
noncomputable def M7 (H X:Hp) (tb:Addr) (g:Gm):Prop:=∃kvs,H tb=some (.dK kvs)/\(kvs.map (·.1)).Nodup/\(∀k∈kvs.map (·.1),k∈g.ps.map λp=>(Sum.inr p.1:Key))/\∀nm v,dt kvs (Sum.inr nm)=some v->∃ps t b rs,look g.ps nm=some (.d7 (ps.map vE) t b rs)/\Rep X (lU (md ps)) v
theorem M7.mono {H H' X X':Hp} {tb:Addr} {g:Gm} (s:aD X X') (k:∀o,H tb=some o->H' tb=some o):M7 H X tb g->M7 H' X' tb g:=λhh=>by
 obtain⟨kvs,h1,h2,h3,h4⟩:=hh
 exact⟨kvs,k _ h1,h2,h3,λnm v e=>by obtain⟨ps,t,b,rs,a,r⟩:=h4 nm v e;exact⟨ps,t,b,rs,a,r.mono s⟩⟩
structure cL (qP qC:Addr) (L:List Addr) (H:Hp) (p tl tb:Addr) (g:Gm) (st:fE) (pd:Int×Int) (tr:List ju):Prop where
 mem:p∈L/\tl∈L/\tb∈L
 al:∀a∈L,∃o,H a=some o/\∀vs,o≠.tup vs
 ex:∃dp c sv pv xs,H p=some (.ins qP dp (iu (.ref c) sv pv (.ref tl)))/\Cn qC (bE L H) c g tb/\qV (bE L H) sv st.1 st.2/\Rep (bE L H) (dq pd) pv/\H tl=some (.lst xs)/\Al (CJ (bE L H)) tr xs
 FI:M7 H (bE L H) tb g
 good:GoodG g
 len:st.2.length=g.cs.length
 G8:∀e∈tr,e.2.1.2.length=g.cs.length
noncomputable def Bk (qP qC:Addr):Sp:=λvs H Q _=>∃(x dx:Addr) (gv:V) (X:Hp) (g:Gm) (f:Nat) (ft nm:Str),vs=[.ref x,gv]/\H x=some (.ins qP dx [])/\aD X H/\X x=none/\Rep X (zN g) gv/\GoodG g/\(g.ps.map (·.1)).head?=some ft/\dE g (List.replicate g.cs.length 0) f ft=some nm/\
 ∀c sv pv tl tb H',(∀a o,a≠x->H a=some o->H' a=some o)->H tl=none->H tb=none->H' x=some (.ins qP dx (iu (.ref c) sv pv (.ref tl)))->H' tl=some (.lst [])->H' tb=some (.dK [])->Cn qC (bE [x,tl,tb] (nw (cE H x) X H')) c g tb->qV (bE [x,tl,tb] (nw (cE H x) X H')) sv nm (List.replicate g.cs.length 0)->Rep (bE [x,tl,tb] (nw (cE H x) X H')) (dq (0,1)) pv->Q .cP H'
noncomputable def Et (qP qC:Addr):Sp:=λvs H Q _=>∃p tl tb L g st pd tr,vs=[.ref p]/\cL qP qC L H p tl tb g st pd tr/\∀a l H',aD H H'->H a=none->H l=none->H' a=some (.tup [.str st.1,.ref l])->H' l=some (.lst (st.2.map V.int))->Q (.ref a) H'
theorem j9 {a b c d:V}:List.lookup (Str.ofString "course") (iu a b c d)=some a:=Y2
theorem gN {a b c d:V}:List.lookup (Str.ofString "state") (iu a b c d)=some b:=by unfold iu;rw[bH (by decide +kernel)];exact Y2
theorem Bl {a b c d:V}:List.lookup (Str.ofString "paid") (iu a b c d)=some c:=by unfold iu;rw[bH (by decide +kernel),bH (by decide +kernel)];exact Y2
theorem yd {a b c d:V}:List.lookup (Str.ofString "trail") (iu a b c d)=some d:=by unfold iu;rw[bH (by decide +kernel),bH (by decide +kernel),bH (by decide +kernel)];exact Y2
theorem iK:aT ["self"] ["self"] (ar (inClass (top 37) 1)):=⟨rfl,rfl,rfl,by decide +kernel,rfl,by decide +kernel,by decide +kernel⟩
theorem Kh (T:Txt K mg aE aF aB aH af av):bu P w K mg base (bg P w) 1 av "stands" ["self"] (Et av af):=by
 refine T.qN.du (λ_ _ _ _ _ _=>gJ λ_=>rfl) λf fd F=>F.d3 iK (λvs H Q E h=>?_) (λbT A outer s H vs Q E hr h=>?_)
 ·obtain⟨_,_,_,_,_,_,_,_,rfl,_⟩:=h;rfl
 ·refine(?_:let G_:Prop:=_;G_)
  intro G_
  obtain⟨p,tl,tb,L,g,st,pd,tr,rfl,pl,kk⟩:=h
  dsimp only[G_]
  have nd:=iK.nd
  refine⟨_,(ao (aV (a5 (aa (aq ai (a9 (pv 0) rfl) ae (λ_ _=>rfl)) (aa (dS (dC (K:=K)) (by rfl) T.z_list rfl (aa (aq ai (a9 (pv 0) rfl) ae (λ_ _=>rfl)) ag (se rfl)) (he:=se rfl) (hpl:=na rfl)) ag (se rfl)) (se rfl))))),?_⟩
  refine(?_:let G_:Prop:=_;G_)
  intro G_
  obtain⟨dp,c,sv,pv,xs,hp,co,⟨sa,cl,rfl,gF,fK⟩,rp,m3,al⟩:=pl.ex
  dsimp only[G_]
  have gF:=aM _ _ gF
  have fK:=aM _ _ fK
  simp_all only[cW]
  exact⟨_,_,_,hp,T.a4,T.na_Play_state,_,gN,sa,rfl,_,gF,_,rfl,_,_,_,hp,T.a4,T.na_Play_state,_,gN,sa,rfl,_,gF,_,rfl,cl,rfl,_,.inl (bI.of fK),λl nl=>⟨by decide,λa H' s' na ha=>kk a l H' ((aA nl).trans s') (none_of (aA nl) na) nl ha (s' _ _ aj)⟩⟩
theorem gO:aT ["self","game"] ["self","game"] (ar (inClass (top 37) 0)):=⟨rfl,rfl,rfl,by decide +kernel,rfl,by decide +kernel,by decide +kernel⟩
theorem Ki (T:Txt K mg aE aF aB aH af av):uH P w K mg base (bg P w) 5 "Play" av ["self","game"] (Bk av af):=by
 have Eu:uH P w K mg base (bg P w) 3 "Course" af ["self","game"] (El af):=M0 T
 have rk:bu P w K mg base (bg P w) 2 af "start" ["self"] (D5 af):=Kb T
 refine T.GH.du (λ_ _ _ _ _ _=>eD λ_ _=>rfl) λf fd F=>F.d3 gO (λvs H Q E h=>?_) (λbT A outer s H vs Q E hr h=>?_)
 ·obtain⟨_,_,_,_,_,_,_,_,rfl,_⟩:=h;rfl
 ·refine(?_:let G_:Prop:=_;G_)
  intro G_
  obtain⟨x,dx,gv,X,g,fu,ft,nm,rfl,hx,sx,xx,rg,gg,Qh,ask,kk⟩:=h
  dsimp only[G_]
  have nd:=gO.nd
  refine⟨_,(ah (eG (pv 0) (DU Eu (hr.mono (by decide)) rfl au.pass (aa (pv 1) ag (se rfl)) (he:=se rfl) (hpl:=na rfl)) rfl)
  (ah (eG (pv 0) (iE rk T.aP (a9 (pv 0) rfl) (hr.mono (by decide)) au.pass) rfl)
  (ah (eG (pv 0) (a5 (aa ae (aa ae ag (se rfl)) (se rfl))) rfl)
  (ao (eG (pv 0) (b5 ag) rfl))))),?_⟩
  refine(?_:let bM:TS:=_;let bN:TS:=_;let bO:TS:=_;let cM:TS:=_;tSeq bM (tSeq bN (tSeq bO cM)) _ _ _)
  intro bM bN bO cM
  have sl:=sizeLine_eq
  let K1:Hp->Prop:=λH1=>∀a o,a≠x->H a=some o->H1 a=some o
  change tSeq _ _ _ _ _
  refine aU (λN=>∀H1 c tb,K1 H1->H c=none->H tb=none->H1 x=some (.ins av dx [(Str.ofString "course",.ref c)])->H1 tb=some (.dK [])->Cn af (bE [x,tb] (nw (cE H x) X H1)) c g tb->N [some (.ref x),some gv] H1) ?_ (λN hN=>?_)
  case refine_2=>
   simp_all only[nv,wZ,El]
   intro c dc nc Qi ne
   have Va:c≠x:=λz=>by rw[z,hx] at nc;cases nc
   have XO:dc≠x:=λz=>by rw[z,hx] at Qi;cases Qi
   have sc:aD H (upd (upd H dc (.own c)) c (.ins af dc [])):=λa o h=>by
    rw[aw (λz=>by rw[z,nc] at h;cases h),aw (λz=>by rw[z,Qi] at h;cases h)]
    exact h
   have xc:X c=none:=by
    cases h:X c with
    | none=>rfl
    | some o=>rw[sx _ _ h] at nc;cases nc
   refine⟨dc,aj,X,sx.trans sc,xc,g,rg,gg,λtb H' kH rj mq co=>?_⟩
   have L5:H' x=some (.ins av dx []):=kH _ _ (Ne.symm Va) (sc _ _ hx)
   have zX:H tb=none:=none_of sc rj
   have Qj:tb≠x:=λz=>by rw[z,hx] at zX;cases zX
   refine⟨_,_,_,L5,T.a4,T.na_Play_course,by decide,hN _ c tb (λa o ax h=>by rw[aw ax];exact kH a o (λz=>by rw[z,nc] at h;cases h) (sc _ _ h)) nc zX aj (by rw[aw Qj];exact mq) (co.mono λa o h=>?_)⟩
   obtain⟨LC,h⟩:a≠tb/\nw (cE (upd (upd H dc (.own c)) c (.ins af dc [])) c) X H' a=some o:=by
    by_cases z:a=tb
    ·unfold cE at h;rw[if_pos z] at h;cases h
    ·rw[cK z] at h;exact⟨z,h⟩
   have go:a≠x->nw (cE H x) X (upd H' x (.ins av dx (gw (Str.ofString "course") (.ref c) []))) a=some o->bE [x,tb] (nw (cE H x) X (upd H' x (.ins av dx (gw (Str.ofString "course") (.ref c) [])))) a=some o:=λax h=>by
    rw[bZ (by simp [ax,LC])]
    exact h
   cases h6:cE (upd (upd H dc (.own c)) c (.ins af dc [])) c a with
   | none=>
    rw[cc h6] at h
    have h0:H a=none:=by
     by_cases z:a=c
     ·rw[z];exact nc
     ·rw[cK z] at h6
      exact none_of sc h6
    have ax:a≠x:=λz=>by rw[z,hx] at h0;cases h0
    refine go ax ?_
    rw[cc (by rw[cK ax];exact h0),aw ax]
    exact h
   | some o6=>
    unfold nw at h
    rw[h6] at h
    exact go (λz=>by rw[z,xx] at h;cases h) (jY (λa o hh=>by rw[cK (λz=>by rw[z,xx] at hh;cases hh)];exact sx _ _ hh) _ _ h)
  rintro H1 c tb k1 nc rj yM G9 LD
  have cx:c≠x:=λz=>by rw[z,hx] at nc;cases nc
  change tSeq _ _ _ _ _
  refine aU (λN=>∀H2 sv,(∀a o,a≠x->H1 a=some o->H2 a=some o)->H2 x=some (.ins av dx [(Str.ofString "course",.ref c),(Str.ofString "state",sv)])->qV (bE [x,tb] (nw (cE H x) X H2)) sv nm (List.replicate g.cs.length 0)->N [some (.ref x),some gv] H2) ?_ (λN hN=>?_)
  case refine_2=>
   simp_all only[nv,bY,cW,D5]
   have s1:aD (bE [x,tb] (nw (cE H x) X H1)) H1:=λa o h=>by
    obtain⟨e8,h⟩:=dH h
    cases h6:cE H x a with
    | none=>rw[cc h6] at h;exact h
    | some o6=>
     unfold nw at h
     rw[h6] at h
     exact k1 _ _ (λz=>by rw[z,xx] at h;cases h) (sx _ _ h)
   refine(?_:let G_:Prop:=_;G_)
   intro G_
   obtain⟨dc,sp,mo,wh,us,CI,h1,_⟩:=id LD
   dsimp only[G_]
   refine⟨_,_,_,yM,T.a4,T.na_Play_course,_,Y2,c,rfl,_,_,s1 _ _ h1,dF (by decide +kernel) (by decide +kernel) (by decide +kernel) (by decide +kernel) (by decide +kernel),c,rfl,g,(LD.mono s1).co,gg,fu,ft,Qh,nm,ask,λa l H' s' na nl ha hl=>?_⟩
   have L5:=s' _ _ yM
   have ax:a≠x:=λz=>by rw[z,yM] at na;cases na
   have lx:l≠x:=λz=>by rw[z,yM] at nl;cases nl
   have LC:a≠tb:=λz=>by rw[z,G9] at na;cases na
   have Vb:l≠tb:=λz=>by rw[z,G9] at nl;cases nl
   have n0:∀{b},b≠x->H1 b=none->H b=none:=λ{b} bx h=>by
    cases h0:H b with
    | none=>rfl
    | some o=>rw[k1 _ _ bx h0] at h;cases h
   refine⟨_,_,_,L5,T.a4,T.na_Play_state,by show(1:Nat)<1000;decide,hN _ (.ref a) (λb o bx h=>by rw[aw bx];exact s' _ _ h) ?_ ⟨a,l,rfl,?_,?_⟩⟩
   ·rw[aj]
    show some (HO.ins _ _ (if Str.ofString "course"=Str.ofString "state" then _ else _))=_
    rw[if_neg (by decide +kernel)]
    rfl
   ·rw[bZ (by simp [ax,LC]),cc (by rw[cK ax];exact n0 ax na),aw ax]
    exact ha
   ·rw[bZ (by simp [lx,Vb]),cc (by rw[cK lx];exact n0 lx nl),aw lx]
    exact hl
  rintro H2 sv k2 Ih kx
  change tSeq _ _ _ _ _
  refine aU (λN=>∀H3 pv,(∀a o,a≠x->H2 a=some o->H3 a=some o)->H3 x=some (.ins av dx [(Str.ofString "course",.ref c),(Str.ofString "state",sv),(Str.ofString "paid",pv)])->Rep (bE [x,tb] (nw (cE H x) X H3)) (dq (0,1)) pv->N [some (.ref x),some gv] H3) ?_ (λN hN=>?_)
  case refine_2=>
   simp_all only[nv]
   refine⟨by decide,λr H' s' nr Eh=>?_⟩
   have rx:r≠x:=λz=>by rw[z,Ih] at nr;cases nr
   have Qk:=k2 _ _ (λz=>by rw[z,hx] at rj;cases rj) G9
   have Vc:r≠tb:=λz=>by rw[z,Qk] at nr;cases nr
   have Vd:H r=none:=by
    cases h0:H r with
    | none=>rfl
    | some o=>rw[k2 _ _ rx (k1 _ _ rx h0)] at nr;cases nr
   refine⟨_,_,_,s' _ _ Ih,T.a4,T.na_Play_paid,by show(2:Nat)<1000;decide,hN _ (.ref r) (λb o bx h=>by rw[aw bx];exact s' _ _ h) ?_ (b6.mpr ⟨r,rfl,?_⟩)⟩
   ·rw[aj]
    show some (HO.ins _ _ (if Str.ofString "course"=Str.ofString "paid" then _ else _::(if Str.ofString "state"=Str.ofString "paid" then _ else _)))=_
    rw[if_neg (by decide +kernel),if_neg (by decide +kernel)]
    rfl
   ·rw[bZ (by simp [rx,Vc]),cc (by rw[cK rx];exact Vd),aw rx]
    exact Eh
  rintro H3 pv k3 Sx Ve
  simp_all only[nv]
  refine⟨YD _,λtl Ha=>?_⟩
  have M8:tl≠x:=λz=>by rw[z,Sx] at Ha;cases Ha
  have Oi:∀a o,a≠x->H1 a=some o->H3 a=some o:=λa o ax h=>k3 _ _ ax (k2 _ _ ax h)
  have Kj:H tl=none:=by
   cases h0:H tl with
   | none=>rfl
   | some o=>rw[Oi _ _ M8 (k1 _ _ M8 h0)] at Ha;cases Ha
  have M9:=Oi _ _ (λz=>by rw[z,hx] at rj;cases rj) G9
  have Qj:tb≠x:=λz=>by rw[z,hx] at rj;cases rj
  have Ft:tb≠tl:=λz=>by rw[<-z,M9] at Ha;cases Ha
  have up:∀Hk v,(∀a o,a≠x->Hk a=some o->H3 a=some o)->aD (bE [x,tb] (nw (cE H x) X Hk)) (bE [x,tl,tb] (nw (cE H x) X (upd (upd H3 tl (.lst [])) x v))):=λHk v Vf a o h=>by
   obtain⟨na,h⟩:=dH h
   have ax:a≠x:=λz=>na (by simp [z])
   have LC:a≠tb:=λz=>na (by simp [z])
   cases h6:cE H x a with
   | none=>
    rw[cc h6] at h
    have h3:=Vf _ _ ax h
    have Oj:a≠tl:=λz=>by rw[z,Ha] at h3;cases h3
    rw[bZ (by simp [ax,Oj,LC]),cc h6,aw ax,aw Oj]
    exact h3
   | some o6=>
    have Oj:a≠tl:=λz=>by rw[z,cK M8,Kj] at h6;cases h6
    rw[bZ (by simp [ax,Oj,LC])]
    unfold nw at h ⊢
    rw[h6] at h ⊢
    exact h
  refine⟨_,_,_,by rw[aw (Ne.symm M8)];exact Sx,T.a4,T.na_Play_trail,by show(3:Nat)<1000;decide,kk c sv pv tl tb _ (λa o ax h=>?_) Kj rj ?_ (by rw[aw M8,aj]) (by rw[aw Qj,aw Ft];exact M9) (LD.mono (up H1 _ Oi)) ?_ (Ve.mono (up H3 _ λ_ _ _ h=>h))⟩
  ·rw[aw ax,aw (λz=>by rw[z,Kj] at h;cases h)]
   exact Oi _ _ ax (k1 _ _ ax h)
  ·rw[aj]
   show some (HO.ins _ _ (if Str.ofString "course"=Str.ofString "trail" then _ else _::(if Str.ofString "state"=Str.ofString "trail" then _ else _::(if Str.ofString "paid"=Str.ofString "trail" then _ else _))))=_
   rw[if_neg (by decide +kernel),if_neg (by decide +kernel),if_neg (by decide +kernel)]
   rfl
  ·refine(?_:let G_:Prop:=_;G_)
   intro G_
   obtain⟨a,l,e,h1,h2⟩:=kx
   dsimp only[G_]
   have u:=up H2 (.ins av dx (gw (Str.ofString "trail") (.ref tl) [(Str.ofString "course",.ref c),(Str.ofString "state",sv),(Str.ofString "paid",pv)])) (λa o ax h=>k3 _ _ ax h)
   exact⟨a,l,e,u _ _ h1,u _ _ h2⟩
theorem ye {α:Type} [DecidableEq α]:∀{l U:List α},l.Nodup->(∀x∈l,x∈U)->l.length<=U.length
 | [],_,_,_=>YD _
 | a::l,U,nd,h=>by
  obtain⟨na,nd⟩:=List.nodup_cons.mp nd
  have ha:=h a YA
  have:=ye (l:=l) (U:=U.erase a) nd λx hx=>by
   have xa:x≠a:=λz=>na (z▸hx)
   exact(List.mem_erase_of_ne xa).mpr (h x (Yz _ hx))
  rw[List.length_erase_of_mem ha] at this
  have:=List.length_pos_of_mem ha
  rw[YC]
  omega
theorem cL.kept {qP qC:Addr} {L:List Addr} {H H':Hp} {p tl tb:Addr} {g:Gm} {st:fE} {pd:Int×Int} {tr:List ju} (pl:cL qP qC L H p tl tb g st pd tr) (s:aD (bE L H) (bE L H')) (k:∀a,a=p\/a=tl\/a=tb->∀o,H a=some o->H' a=some o) (al:∀a∈L,∃o,H' a=some o/\∀vs,o≠.tup vs):cL qP qC L H' p tl tb g st pd tr:=by
 obtain⟨m,_,⟨dp,c,sv,pv,xs,h1,h2,h3,h4,h5,h6⟩,FI,gd,ln,lt⟩:=pl
 exact⟨m,al,⟨dp,c,sv,pv,xs,k _ (.inl rfl) _ h1,h2.mono s,h3.mono s,h4.mono s,k _ (.inr (.inl rfl)) _ h5,h6.imp λ_ _ h=>h.mono s⟩,FI.mono s (k _ (.inr (.inr rfl))),gd,ln,lt⟩
theorem cL.same {qP qC:Addr} {L:List Addr} {H H':Hp} {p tl tb:Addr} {g:Gm} {st:fE} {pd:Int×Int} {tr:List ju} (pl:cL qP qC L H p tl tb g st pd tr) (s:aD H H'):cL qP qC L H' p tl tb g st pd tr:=
 pl.kept (dU s) (λ_ _ _ h=>s _ _ h) λa ha=>by obtain⟨o,h,n⟩:=pl.al a ha;exact⟨o,s _ _ h,n⟩
theorem cL.out {qP qC:Addr} {L:List Addr} {H:Hp} {p tl tb:Addr} {g:Gm} {st:fE} {pd:Int×Int} {tr:List ju} (pl:cL qP qC L H p tl tb g st pd tr) {a:Addr} (n:H a=none):a∉L:=λm=>by
 obtain⟨o,h,_⟩:=pl.al a m
 rw[n] at h
 cases h
theorem cL.next {qP qC:Addr} {L:List Addr} {H H':Hp} {p tl tb:Addr} {g:Gm} {st eK:fE} {pd Sy:Int×Int} {tr Na:List ju} (pl:cL qP qC L H p tl tb g st pd tr) (k3:K3 p tl tb H H') {dp c:Addr} {sv pv:V} {xs:List V}
  (h1:H' p=some (.ins qP dp (iu (.ref c) sv pv (.ref tl)))) (co:Cn qC (bE L H) c g tb) (h3:qV (bE L H') sv eK.1 eK.2) (h4:Rep (bE L H') (dq Sy) pv) (h5:H' tl=some (.lst xs)) (h6:Al (CJ (bE L H')) Na xs) (Sz:M7 H' (bE L H') tb g) (ln:eK.2.length=g.cs.length) (lt:∀e∈Na,e.2.1.2.length=g.cs.length):cL qP qC L H' p tl tb g eK Sy Na:=by
 refine⟨pl.mem,λa ha=>?_,⟨dp,c,sv,pv,xs,h1,co.mono (k3.cE pl.mem.1 pl.mem.2.1 pl.mem.2.2),h3,h4,h5,h6⟩,Sz,pl.good,ln,lt⟩
 by_cases e1:a=p
 ·exact⟨_,by rw[e1];exact h1,λ_ z=>by cases z⟩
 by_cases e2:a=tl
 ·exact⟨_,by rw[e2];exact h5,λ_ z=>by cases z⟩
 by_cases e3:a=tb
 ·obtain⟨kvs,z,_⟩:=Sz;exact⟨_,by rw[e3];exact z,λ_ z=>by cases z⟩
 obtain⟨o,h,n⟩:=pl.al a ha
 exact⟨o,k3 _ _ e1 e2 e3 h,n⟩
theorem CJ.up {X X':Hp} {tr:List ju} {xs:List V} (s:aD X X') (h:Al (CJ X) tr xs):Al (CJ X') tr xs:=h.imp λ_ _ h=>h.mono s
theorem Ii {a b c d v:V}:gw (Str.ofString "state") v (iu a b c d)=iu a v c d:=by
 show(if Str.ofString "course"=Str.ofString "state" then _ else _::(if Str.ofString "state"=Str.ofString "state" then _ else _))=_
 rw[if_neg (by decide +kernel),if_pos rfl]
 rfl
theorem Ij {a b c d v:V}:gw (Str.ofString "paid") v (iu a b c d)=iu a b v d:=by
 show(if Str.ofString "course"=Str.ofString "paid" then _ else _::(if Str.ofString "state"=Str.ofString "paid" then _ else _::(if Str.ofString "paid"=Str.ofString "paid" then _ else _)))=_
 rw[if_neg (by decide +kernel),if_neg (by decide +kernel),if_pos rfl]
 rfl
theorem ints_rep {H:Hp}:∀l:List Int,a8 H (l.map Dat.int) (l.map V.int)
 | []=>bD.mpr rfl
 | _::l=>aR.mpr ⟨_,_,rfl,bw.mpr rfl,ints_rep l⟩
theorem uO {H:Hp}:∀{l:List Int} {vs:List V},a8 H (l.map Dat.int) vs->vs=l.map V.int
 | [],_,h=>bD.mp h
 | _::_,_,h=>by
  obtain⟨v,r,rfl,a,b⟩:=aR.mp h
  rw[bw.mp a,uO b]
  rfl
theorem Cr (l:List Int):(l.map V.int).all fG=true:=List.all_eq_true.mpr λx hx=>by
 obtain⟨i,_,rfl⟩:=List.mem_map.mp hx
 rfl
theorem Hc (x:Int) (ns:List Int):HL (V.int x) (List.map V.int ns)=decide (x∈ns):=by
 unfold HL
 by_cases c:x∈ns
 ·rw[decide_eq_true c]
  exact List.any_eq_true.mpr ⟨V.int x,List.mem_map.mpr ⟨x,c,rfl⟩,by simp [Dc]⟩
 ·rw[decide_eq_false c]
  refine List.any_eq_false.mpr λy hy=>?_
  obtain⟨n,hn,rfl⟩:=List.mem_map.mp hy
  have:n≠x:=λe=>by subst e;exact c hn
  simp [Dc,this]
theorem ints_in {l:List Int} {v:Int} (h:v∈l):HL (.int v) (l.map V.int)=true:=by rw[Hc];exact decide_eq_true h
theorem yf {H:Hp}:∀l:List Str,a8 H (l.map Dat.str) (l.map V.str)
 | []=>bD.mpr rfl
 | _::l=>aR.mpr ⟨_,_,rfl,aN.mpr rfl,yf l⟩
theorem rA {K:PySem.W.Frag} {α:Type} {J:It} {tc:TT} {te:TE} {tl:L2.St} {H1:Hp} {fin:List V->Hp->Prop} {Item:Nat->V->Hp->Hp->Prop} (as:List α) (f:α->Option V) (S:Src J (aD H1) as.length Item) (sub:∀i x H H3,Item i x H H3->H3=H) (hz:as.length<=sizeLine)
  (hs:∀i a x,as[i]?=some a->Item i x H1 H1->∃p u v,x=.ref p/\jn K H1 p [u,v]/\∀(Y:VK) (N:Hp->Prop),(∀z,f a=some z->Y z H1)->(f a=none->N H1)->tc (some u::some v::tl) H1 λb H5=>if b=true then te (some u::some v::tl) H5 Y else N H5)
  (nG:fin ((as.filterMap f)) H1):fI J (BK K 2 (gCons (gName 0) (gCons (gName 1) gNil))) tc te (none::none::tl) H1 fin:=by
 refine gG S (λσ=>∃w0 w1,σ=w0::w1::tl) ⟨_,_,rfl⟩ (λi ys H=>H=H1/\ys=(as.take i).filterMap f) ⟨rfl,by simp⟩ hz ?_ ?_
 ·rintro i x σ H ys H3 Q N hi sm ⟨rfl,rfl⟩ hl ⟨w0,w1,rfl⟩ it kq kn
  obtain rfl:=sub _ _ _ _ it
  have ea:as[i]?=some as[i]:=Yw hi
  obtain⟨p,u,v,rfl,sq,k⟩:=hs i _ x ea it
  refine⟨p,_,rfl,sq,rfl,_,_,rfl,_,_,rfl,rfl,?_⟩
  refine k _ _ (λz e=>kq _ _ _ ⟨_,_,rfl⟩ sm ⟨rfl,?_⟩) (λe=>kn _ _ ⟨_,_,rfl⟩ sm ⟨rfl,?_⟩)
  ·rw[YS,ea,Zj]
   simp [e]
  ·rw[YS,ea,Zj]
   simp [e]
 ·rintro ys H sm ⟨rfl,rfl⟩ hl
  rw[YG (Yt _)]
  exact nG
noncomputable def kb (N:Int) (x:Int×Int):Prop:=Wq.Lw x/\x.2∣2/\-N<=Wq.sc 2 x/\Wq.sc 2 x<=N
theorem kb.pl {N M:Int} {x y:Int×Int} (hx:kb N x) (hy:kb M y):kb (N+M) (Wq.pl x y):=by
 obtain⟨a,b,e⟩:=Wq.MC hx.1.1 hy.1.1 (show(0:Int)<2 by decide) hx.2.1 hy.2.1
 have:=hx.2.2
 have:=hy.2.2
 exact⟨a,b,by omega,by omega⟩
theorem kb.le {N M:Int} {x:Int×Int} (h:kb N x) (k:N<=M):kb M x:=⟨h.1,h.2.1,by have:=h.2.2;omega,by have:=h.2.2;omega⟩
theorem kb.num {N:Int} {x:Int×Int} (h:kb N x) (n:N<=1000000):(-1000000<=x.1/\x.1<=1000000)/\0<x.2/\x.2<=2:=by
 have b0:=h.1.1
 have b2:=Int.le_of_dvd (by decide) h.2.1
 have e:=Wq.vm h.2.1
 have:=h.2.2
 refine⟨?_,b0,b2⟩
 have c:x.2=1\/x.2=2:=by omega
 rcases c with c | c <;>rw[c] at e <;>omega
theorem hU (k:Int) {N:Int} (h1:-N<=2*k) (h2:2*k<=N):kb N (k,1):=⟨⟨by show(0:Int)<1;decide,by show Nm.g k 1=1;unfold Nm.g;rw[Int.gcd_one_right];rfl⟩,⟨2,rfl⟩,by show -N<=k* (2 / 1);omega,by show k* (2 / 1)<=N;omega⟩
theorem He (k:Int) {N:Int} (o:k % 2=1) (h1:-N<=k) (h2:k<=N):kb N (k,2):=⟨⟨by show(0:Int)<2;decide,by
 show Nm.g k 2=1
 unfold Nm.g
 have d:=Int.gcd_dvd_left (a:=k) (b:=2)
 have d2:=Int.gcd_dvd_right (a:=k) (b:=2)
 have l:=Int.le_of_dvd (by decide) d2
 have p:0<Int.gcd k 2:=Int.gcd_pos_of_ne_zero_right k (by decide)
 have c:Int.gcd k 2=1\/Int.gcd k 2=2:=by omega
 rcases c with c | c
 ·rw[c];rfl
 ·rw[c] at d;omega⟩,⟨1,rfl⟩,by show -N<=k* (2 / 2);omega,by show k* (2 / 2)<=N;omega⟩
noncomputable def vQ:Wt->Str
 | .ask _ _ _ _=>Str.ofString "ask"
 | .fin _ _=>Str.ofString "end"
 | .score _=>Str.ofString "score"
 | .pick _ _=>Str.ofString "pick"
 | .d7 _ _ _ _=>Str.ofString "throw"
theorem rB {H:Hp} {x:Wt} {u:V} (h:Rep H (kK x) u):∃q vs,u=.ref q/\H q=some (.tup (.str (vQ x)::vs)):=by
 cases x <;>(obtain⟨p,vs,rfl,hp,r⟩:=jj.mp (show Rep H (.tup _) u from h);obtain⟨v,r1,rfl,a,_⟩:=aR.mp r;obtain rfl:=aN.mp a;exact⟨p,r1,rfl,hp⟩)
theorem Kk {x:Wt} (h:vQ x=Str.ofString "ask"):∃c k a b,x=.ask c k a b:=by
 cases x with
 | ask c k a b=>exact⟨_,_,_,_,rfl⟩
 | fin t b=>exact absurd (show Str.ofString "end"=Str.ofString "ask" from h) (by decide +kernel)
 | score c=>exact absurd (show Str.ofString "score"=Str.ofString "ask" from h) (by decide +kernel)
 | pick w rs=>exact absurd (show Str.ofString "pick"=Str.ofString "ask" from h) (by decide +kernel)
 | d7 dD t b rs=>exact absurd (show Str.ofString "throw"=Str.ofString "ask" from h) (by decide +kernel)
theorem Kl {x:Wt} (h:vQ x=Str.ofString "end"):∃t b,x=.fin t b:=by
 cases x with
 | ask c k a b=>exact absurd (show Str.ofString "ask"=Str.ofString "end" from h) (by decide +kernel)
 | fin t b=>exact⟨_,_,rfl⟩
 | score c=>exact absurd (show Str.ofString "score"=Str.ofString "end" from h) (by decide +kernel)
 | pick w rs=>exact absurd (show Str.ofString "pick"=Str.ofString "end" from h) (by decide +kernel)
 | d7 dD t b rs=>exact absurd (show Str.ofString "throw"=Str.ofString "end" from h) (by decide +kernel)
theorem Ew {x:Wt} (h:vQ x=Str.ofString "score"):∃c,x=.score c:=by
 cases x with
 | ask c k a b=>exact absurd (show Str.ofString "ask"=Str.ofString "score" from h) (by decide +kernel)
 | fin t b=>exact absurd (show Str.ofString "end"=Str.ofString "score" from h) (by decide +kernel)
 | score c=>exact⟨_,rfl⟩
 | pick w rs=>exact absurd (show Str.ofString "pick"=Str.ofString "score" from h) (by decide +kernel)
 | d7 dD t b rs=>exact absurd (show Str.ofString "throw"=Str.ofString "score" from h) (by decide +kernel)
theorem Bm {x:Wt} (h:vQ x=Str.ofString "pick"):∃w rs,x=.pick w rs:=by
 cases x with
 | ask c k a b=>exact absurd (show Str.ofString "ask"=Str.ofString "pick" from h) (by decide +kernel)
 | fin t b=>exact absurd (show Str.ofString "end"=Str.ofString "pick" from h) (by decide +kernel)
 | score c=>exact absurd (show Str.ofString "score"=Str.ofString "pick" from h) (by decide +kernel)
 | pick w rs=>exact⟨_,_,rfl⟩
 | d7 dD t b rs=>exact absurd (show Str.ofString "throw"=Str.ofString "pick" from h) (by decide +kernel)
theorem vR {x:Wt} (h:vQ x=Str.ofString "throw"):∃dD t b rs,x=.d7 dD t b rs:=by
 cases x with
 | ask c k a b=>exact absurd (show Str.ofString "ask"=Str.ofString "throw" from h) (by decide +kernel)
 | fin t b=>exact absurd (show Str.ofString "end"=Str.ofString "throw" from h) (by decide +kernel)
 | score c=>exact absurd (show Str.ofString "score"=Str.ofString "throw" from h) (by decide +kernel)
 | pick w rs=>exact absurd (show Str.ofString "pick"=Str.ofString "throw" from h) (by decide +kernel)
 | d7 dD t b rs=>exact⟨_,_,_,_,rfl⟩
theorem vS {a b c d:V}:(iu a b c d).length<1000:=by show(4:Nat)<1000;decide
noncomputable def Ex (g:Gm) (st:fE) (pd:Int×Int) (x:Wt):Int×Int:=match zO g.cs st.2 x with
 | some w=>Wq.pl pd w
 | none=>pd
noncomputable def Ik (g:Gm) (st:fE) (x:Wt) (ds:List Dat):Prop:=match x with
 | .d7 dD _ _ _=>∃ps,dD=ps.map vE/\oS ps/\ds=(iG ps).map Dat.int
 | _=>ds=(d9 g.cs st.2 x).map λr=>Dat.str r.word
noncomputable def dI (tr:List ju):Str:=Txt.join (Str.ofString " ") (tr.map (·.1))
theorem joinOk_of {sep:Str} {ts:List Str} {B:Nat} (hB:∀y∈ts,y.length<=B) (h:ts.length*B+ts.length*sep.length<=16777216):JoinOk sep ts=true:=by
 unfold JoinOk
 rw[Bool.not_eq_true']
 exact StrLaws.joinFits hB h
noncomputable def Il (x:Wt):Prop:=∀c k a b,x≠.ask c k a b
noncomputable def iL:Sp:=λvs H Q _=>∃u v a b,vs=[u,v]/\Rep H (dq a) u/\Rep H (dq b) v/\kb 100000 a/\kb 100000 b/\∀r H',aD H H'->H r=none->H' r=some (.tup (Pr (Wq.pl a b).1 (Wq.pl a b).2))->Q (.ref r) H'
noncomputable def Ey:Sp:=λvs H Q _=>∃n,vs=[.int n]/\Q (.bl true) H
noncomputable def Ez (qP qC:Addr):Sp:=λvs H Q _=>∃(p tl tb:Addr) (L:List Addr) (g:Gm) (st:fE) (pd:Int×Int) (tr:List ju) (x:Wt),vs=[.ref p]/\cL qP qC L H p tl tb g st pd tr/\look g.ps st.1=some x/\Il x/\kb 100000 pd/\(∀w,zO g.cs st.2 x=some w->kb 100000 w)/\∀u H',aD H H'->Rep H' (dq (Ex g st pd x)) u->Q u H'
noncomputable def yg (qP qC:Addr):Sp:=λvs H Q _=>∃(p tl tb:Addr) (L:List Addr) (g:Gm) (st:fE) (pd:Int×Int) (tr:List ju) (x:Wt) (ds:List Dat),vs=[.ref p]/\cL qP qC L H p tl tb g st pd tr/\look g.ps st.1=some x/\Ik g st x ds/\∀a H',K3 p tl tb H H'->cL qP qC L H' p tl tb g st pd tr->H a=none->Rep H' (.lst ds) (.ref a)->Q (.ref a) H'
noncomputable def EA (qP qC qm:Addr):Sp:=λvs H Q E=>∃(p:Addr) (step:Str) (sv pv:V) (tl tb:Addr) (L:List Addr) (g:Gm) (st:fE) (pd:Int×Int) (tr:List ju) (eK:fE) (py:Int×Int),vs=[.ref p,.str step,sv,pv]/\cL qP qC L H p tl tb g st pd tr/\tr.length<=200/\qV (bE L H) sv eK.1 eK.2/\eK.2.length=g.cs.length/\Rep (bE L H) (dq py) pv/\kb 100000 pd/\kb 100000 py/\(tr.length=200->∀H',aD H H'->E (.ref qm) none H')/\(tr.length<200->∀H',K3 p tl tb H H'->cL qP qC L H' p tl tb g eK (Wq.pl pd py) (tr++ [(step,st,pd)])->Q .cP H')
noncomputable def EB (qP qC qn qm:Addr):Sp:=λvs H Q E=>∃(p:Addr) (word:Str) (tl tb:Addr) (L:List Addr) (g:Gm) (st:fE) (pd:Int×Int) (tr:List ju) (x:Wt),vs=[.ref p,.str word]/\cL qP qC L H p tl tb g st pd tr/\tr.length<=200/\look g.ps st.1=some x/\kb 100000 pd/\
 ((d9 g.cs st.2 x).find? (λr=>decide (r.word=word))=none->∀H',aD H H'->E (.ref qn) none H')/\
 (∀r,(d9 g.cs st.2 x).find? (λr=>decide (r.word=word))=some r->∃f e8,dE g (r.ds.foldl (ix g.cs 0) st.2) f r.to=some e8/\
  (tr.length=200->∀H',aD H H'->E (.ref qm) none H')/\(tr.length<200->∀H',K3 p tl tb H H'->cL qP qC L H' p tl tb g (e8,r.ds.foldl (ix g.cs 0) st.2) (Wq.pl pd (0,1)) (tr++ [(word,st,pd)])->Q .cP H'))
noncomputable def EC (qP qC qm:Addr):Sp:=λvs H Q E=>∃(p:Addr) (v:Int) (tl tb:Addr) (L:List Addr) (g:Gm) (st:fE) (pd:Int×Int) (tr:List ju) (ps:List Pt) (t b:Int) (rs:List Tw) (r:Tw) (f:Nat) (e8:Str),vs=[.ref p,.int v]/\cL qP qC L H p tl tb g st pd tr/\tr.length<=200/\look g.ps st.1=some (.d7 (ps.map vE) t b rs)/\oS ps/\v∈iG ps/\0<=v/\v<=1000/\xW rs v=some r/\dE g (r.2.2.1.foldl (ix g.cs v) st.2) f r.2.2.2=some e8/\kb 100000 pd/\kb 100000 (t,b)/\
 (tr.length=200->∀H',K3 p tl tb H H'->cL qP qC L H' p tl tb g st pd tr->E (.ref qm) none H')/\(tr.length<200->∀H',K3 p tl tb H H'->cL qP qC L H' p tl tb g (e8,r.2.2.1.foldl (ix g.cs v) st.2) (Wq.pl pd (t,b)) (tr++ [(Str.ofString (toString v),st,pd)])->Q .cP H')
noncomputable def Bn (qP qC qn:Addr):Sp:=λvs H Q E=>∃(p tl tb:Addr) (L:List Addr) (g:Gm) (st:fE) (pd:Int×Int) (tr:List ju),vs=[.ref p]/\cL qP qC L H p tl tb g st pd tr/\tr.length<=200/\(tr=[]->E (.ref qn) none H)/\(∀pB e,tr=pB++ [e]->∀H',K3 p tl tb H H'->cL qP qC L H' p tl tb g e.2.1 e.2.2 pB->Q .cP H')
noncomputable def ED (qP qC:Addr):Sp:=λvs H Q _=>∃(p tl tb:Addr) (L:List Addr) (g:Gm) (st:fE) (pd:Int×Int) (tr:List ju),vs=[.ref p]/\cL qP qC L H p tl tb g st pd tr/\tr.length<=200/\(∀e∈tr,e.1.length<=20)/\∀H',aD H H'->Q (.str (dI tr)) H'
theorem Bo:aT ["one","other"] ["one","other"] (ar (top 10)):=⟨rfl,rfl,rfl,by decide +kernel,rfl,by decide +kernel,by decide +kernel⟩
theorem EE (T:Txt K mg aE aF aB aH af av):bX P w K mg base (bg P w) 3 "plus" ["one","other"] iL:=by
 have vK:bX P w K mg base (bg P w) 2 "share" ["top","bottom"] (D0 aE):=HZ T
 refine T.JN.du (λ_ _ _ _ _ _=>eD λ_ _=>rfl) λf fd F=>F.d3 Bo (λvs H Q E h=>?_) (λbT A outer s H vs Q E hr h=>?_)
 ·obtain⟨_,_,_,_,rfl,_⟩:=h;rfl
 ·refine(?_:let G_:Prop:=_;G_)
  intro G_
  obtain⟨u,v,a,b,rfl,ra,rb,ha,hb,k⟩:=h
  dsimp only[G_]
  have nd:=Bo.nd
  refine⟨_,(ao (aV (aK vK (hr.mono (by decide)) rfl au.pass (aa (aG aO (aG ba (aq ai (pv 0) ae (λ_ _=>rfl)) (aq ai (pv 1) ae (λ_ _=>rfl))) (aG ba (aq ai (pv 1) ae (λ_ _=>rfl)) (aq ai (pv 0) ae (λ_ _=>rfl)))) (aa (aG ba (aq ai (pv 0) ae (λ_ _=>rfl)) (aq ai (pv 1) ae (λ_ _=>rfl))) ag (se rfl)) (se rfl)) (he:=se rfl) (hpl:=na rfl)))),?_⟩
  refine(?_:let G_:Prop:=_;G_)
  intro G_
  obtain⟨p,rfl,hp⟩:=b6.mp ra
  obtain⟨q,rfl,hq⟩:=b6.mp rb
  obtain⟨a1,a2,a3⟩:=ha.num (by decide)
  obtain⟨b1,b2,b3⟩:=hb.num (by decide)
  dsimp only[G_]
  simp_all only[D0,hp,hq]
  have m0:=Int.mul_pos a2 b2
  have m4:a.2*b.2<=4:=Int.le_trans (Int.mul_le_mul a3 b3 (by omega) (by decide)) (by decide)
  exact⟨bC (by omega) (by omega),bC (by omega) (by omega),bC (by omega) (by omega),Bt.of 4 (by omega) (by omega),λz=>absurd z (by omega),λ_ r H' s' n' e=>k r H' s' n' e⟩
theorem oZ:aT ["thing"] ["thing"] (ar (top 7)):=⟨rfl,rfl,rfl,by decide +kernel,rfl,by decide +kernel,by decide +kernel⟩
theorem Km (T:Txt K mg aE aF aB aH af av):bX P w K mg base (bg P w) 1 "is_whole" ["thing"] Ey:=by
 refine T.zF.du (λ_ _ _ _ _ _=>gJ λ_=>rfl) λf fd F=>F.d3 oZ (λvs H Q E h=>?_) (λbT A outer s H vs Q E hr h=>?_)
 ·obtain⟨_,rfl,_⟩:=h;rfl
 ·refine(?_:let G_:Prop:=_;G_)
  intro G_
  obtain⟨n,rfl,k⟩:=h
  dsimp only[G_]
  have nd:=oZ.nd
  refine⟨_,(ao (aV (yV (aX (nH (K:=K)) (by rfl) T.z_isinstance rfl (aa (pv 0) (aa (u4 (v:=V.ty "int") rfl T.z_int rfl rfl) ag (se rfl)) (se rfl)) (he:=se rfl) (hpl:=na rfl)) (yU (IP (aX (nH (K:=K)) (by rfl) T.z_isinstance rfl (aa (pv 0) (aa (u4 (v:=V.ty "bool") rfl T.z_bool rfl rfl) ag (se rfl)) (se rfl)) (he:=se rfl) (hpl:=na rfl))))))),?_⟩
  simp_all only[]
  refine⟨_,.int _,_,by rfl,?_⟩
  rw[if_pos rfl]
  exact⟨_,.int _,false,by rfl,k⟩
theorem iM:aT ["self"] ["self"] (ar (inClass (top 37) 2)):=⟨rfl,rfl,rfl,by decide +kernel,rfl,by decide +kernel,by decide +kernel⟩
theorem Kn (T:Txt K mg aE aF aB aH af av):bu P w K mg base (bg P w) 4 av "points" ["self"] (Ez av af):=by
 have bc:bu P w K mg base (bg P w) 1 af "what_at" ["self","state"] (e9 af):=kR T
 have kS:bu P w K mg base (bg P w) 2 af "end_worth" ["self","state"] (Ea af):=Kd T
 have zY:bX P w K mg base (bg P w) 3 "plus" ["one","other"] iL:=EE T
 refine T.qM.du (λ_ _ _ _ _ _=>gJ λ_=>rfl) λf fd F=>F.d3 iM (λvs H Q E h=>?_) (λbT A outer s H vs Q E hr h=>?_)
 ·obtain⟨_,_,_,_,_,_,_,_,_,rfl,_⟩:=h;rfl
 ·refine(?_:let G_:Prop:=_;G_)
  intro G_
  obtain⟨p,tl,tb,L,g,st,pd,tr,x,rfl,pl,lk,Ol,yh,hw,kk⟩:=h
  dsimp only[G_]
  have nd:=iM.nd
  refine⟨_,(ah (bf (aL zr (aq ai (cU bc T.aP (a9 (pv 0) rfl) (hr.mono (by decide)) au.pass (aa (a9 (pv 0) rfl) ag (se rfl)) (hst:=se rfl) (hpl:=na rfl)) ae (λ_ _=>rfl)) (a5 (aa aZ (aa aZ ag (se rfl)) (se rfl))) rfl) (ao (aV (a9 (pv 0) rfl)))
   aY)
  (ao (aV (aK zY (hr.mono (by decide)) rfl au.pass (aa (a9 (pv 0) rfl) (aa (cU kS T.aP (a9 (pv 0) rfl) (hr.mono (by decide)) au.pass (aa (a9 (pv 0) rfl) ag (se rfl)) (hst:=se rfl) (hpl:=na rfl)) ag (se rfl)) (se rfl)) (he:=se rfl) (hpl:=na rfl))))),?_⟩
  have sl:=sizeLine_eq
  refine(?_:let G_:Prop:=_;G_)
  intro G_
  obtain⟨dp,c,sv,pv,xs,hp,co,jv,rp,m3,al⟩:=pl.ex
  have lp:∀{a b c d e:V},List.lookup (Str.ofString "what_at") [(Str.ofString "spots",a),(Str.ofString "mosts",b),(Str.ofString "first",c),(Str.ofString "whats",d),(Str.ofString "tables",e)]=none:=dF (by decide +kernel) (by decide +kernel) (by decide +kernel) (by decide +kernel) (by decide +kernel)
  have Co:∀{a b c d e:V},List.lookup (Str.ofString "end_worth") [(Str.ofString "spots",a),(Str.ofString "mosts",b),(Str.ofString "first",c),(Str.ofString "whats",d),(Str.ofString "tables",e)]=none:=dF (by decide +kernel) (by decide +kernel) (by decide +kernel) (by decide +kernel) (by decide +kernel)
  obtain⟨dc,sp,mo,wh,us,CI,h1,_⟩:=id co
  dsimp only[G_]
  have h1:=aM _ _ h1
  change tSeq _ _ _ _ _
  refine aU (λN=>∀w,zO g.cs st.2 x=some w->∀H1,aD H H1->N [some (.ref p)] H1) ?_ (λN hN=>?_)
  case refine_2=>
   simp_all only[cW,bY,e9,rInT]
   refine⟨_,_,_,hp,T.a4,T.na_Play_course,_,j9,c,rfl,_,_,h1,lp,_,_,_,hp,T.a4,T.na_Play_state,_,gN,c,rfl,bE L H,aM,g,co.co,st.1,st.2,jv.mono aM,x,lk,λu ru=>?_⟩
   refine(?_:let G_:Prop:=_;G_)
   intro G_
   obtain⟨q,Fz,rfl,hq⟩:=rB ru
   dsimp only[G_]
   have hq:=aM _ _ hq
   refine⟨q,rfl,_,hq,_,at0,by decide,λt1 H1 s1 n1 e1=>?_⟩
   refine⟨_,e1,rfl,rfl,?_⟩
   have go:vQ x=Str.ofString "throw"\/vQ x=Str.ofString "pick"->Ex g st pd x=pd:=λh=>by
    rcases h with h | h
    ·obtain⟨_,_,_,_,rfl⟩:=vR h;rfl
    ·obtain⟨_,_,rfl⟩:=Bm h;rfl
   have no:¬(vQ x=Str.ofString "throw"\/vQ x=Str.ofString "pick")->∃w,zO g.cs st.2 x=some w:=λh=>by
    cases x with
    | ask c k a b=>exact absurd rfl (Ol c k a b)
    | fin t b=>exact⟨_,rfl⟩
    | score c=>exact⟨_,rfl⟩
    | pick w rs=>exact absurd (.inr rfl) h
    | d7 p t b rs=>exact absurd (.inl rfl) h
   by_cases ek:vQ x=Str.ofString "throw"\/vQ x=Str.ofString "pick"
   ·rw[if_pos (by rcases ek with e | e <;>rw[e] <;>decide +kernel)]
    exact⟨_,_,_,s1 _ _ hp,T.a4,T.na_Play_paid,_,Bl,kk _ _ s1 (by rw[go ek];exact rp.mono (aM.trans s1))⟩
   ·obtain⟨w,ew⟩:=no ek
    rw[if_neg (by
     intro z
     refine ek ?_
     cases x with
     | ask c k a b=>exact absurd rfl (Ol c k a b)
     | fin t b=>exact absurd (show HL (V.str (Str.ofString "end")) [V.str (Str.ofString "throw"),V.str (Str.ofString "pick")]=true from z) (by decide +kernel)
     | score c=>exact absurd (show HL (V.str (Str.ofString "score")) [V.str (Str.ofString "throw"),V.str (Str.ofString "pick")]=true from z) (by decide +kernel)
     | pick w rs=>exact .inr rfl
     | d7 p t b rs=>exact .inl rfl)]
    exact hN w ew _ s1
  rintro w ew H1 s1
  simp_all only[cW,bY,Ea,iL]
  refine⟨_,_,_,s1 _ _ hp,T.a4,T.na_Play_paid,_,Bl,_,_,_,s1 _ _ hp,T.a4,T.na_Play_course,_,j9,c,rfl,_,_,s1 _ _ h1,Co,_,_,_,s1 _ _ hp,T.a4,T.na_Play_state,_,gN,c,rfl,g,co.co.mono (aM.trans s1),pl.good,st.1,st.2,jv.mono (aM.trans s1),pl.len,x,lk,w.1,w.2,ew,λu H2 s2 ru=>⟨pd,rp.mono (aM.trans (s1.trans s2)),w,ru,yh,hw w ew,λr H3 s3 n3 e3=>kk _ _ (s1.trans (s2.trans s3)) ?_⟩⟩
  unfold Ex
  rw[ew]
  exact b6.mpr ⟨r,rfl,e3⟩
theorem gh:aT ["self"] ["self"] (ar (inClass (top 37) 3)):=⟨rfl,rfl,rfl,by decide +kernel,rfl,by decide +kernel,by decide +kernel⟩
theorem EF (T:Txt K mg aE aF aB aH af av):bu P w K mg base (bg P w) 8 av "open_ways" ["self"] (yg av af):=by
 have bc:bu P w K mg base (bg P w) 1 af "what_at" ["self","state"] (e9 af):=kR T
 have mv:bu P w K mg base (bg P w) 7 af "table_at" ["self","state"] (Eb af):=Kg T
 have mw:bu P w K mg base (bg P w) 3 af "words_at" ["self","state"] (D9 af):=Kc T
 refine T.lZ.du (λ_ _ _ _ _ _=>gJ λ_=>rfl) λf fd F=>F.d3 gh (λvs H Q E h=>?_) (λbT A outer s H vs Q E hr h=>?_)
 ·obtain⟨_,_,_,_,_,_,_,_,_,_,rfl,_⟩:=h;rfl
 ·refine(?_:let G_:Prop:=_;G_)
  intro G_
  obtain⟨p,tl,tb,L,g,st,pd,tr,x,ds,rfl,pl,lk,od,kk⟩:=h
  dsimp only[G_]
  have nd:=gh.nd
  refine⟨_,(ah (bf (aL bp (aq ai (cU bc T.aP (a9 (pv 0) rfl) (hr.mono (by decide)) au.pass (aa (a9 (pv 0) rfl) ag (se rfl)) (hst:=se rfl) (hpl:=na rfl)) ae (λ_ _=>rfl)) aZ (aS _)) (ao (aV (cG rfl (N:=["self"]) (so:=ar (inClass (top 37) 3)) (N':=["value","part"]) (k:=2) (fr:=[]) rfl rfl ⟨rfl,by decide +kernel,by decide +kernel,by decide +kernel,rfl,by decide +kernel,by decide +kernel⟩ (bh (K:=K) (cU mv T.aP (a9 (pv 0) rfl) (hr.mono (by decide)) au.pass (aa (a9 (pv 0) rfl) ag (se rfl)) (hst:=se rfl) (hpl:=na rfl))) (λ_ _ _ _ _=>(d4 (K:=K) (n:=2) rfl (bA (aW (i:=0) (show(["value","part"]:List Str).Nodup by decide +kernel) rfl (Or.inl rfl)) (bA (aW (i:=1) (show(["value","part"]:List Str).Nodup by decide +kernel) rfl (Or.inl rfl)) dX)))) (λ_ _ _ _ _=>dk)
   (λ_ _ _ _ _=>(pv 0)))))
   aY)
  (ao (aV (cU mw T.aP (a9 (pv 0) rfl) (hr.mono (by decide)) au.pass (aa (a9 (pv 0) rfl) ag (se rfl)) (hst:=se rfl) (hpl:=na rfl))))),?_⟩
  have sl:=sizeLine_eq
  refine(?_:let G_:Prop:=_;G_)
  intro G_
  obtain⟨dp,c,sv,pv,xs,hp,co,jv,rp,m3,al⟩:=pl.ex
  obtain⟨dc,sp,mo,wh,us,CI,h1,_⟩:=id co
  dsimp only[G_]
  have h1:=aM _ _ h1
  have lp:∀{a b c d e:V},List.lookup (Str.ofString "what_at") [(Str.ofString "spots",a),(Str.ofString "mosts",b),(Str.ofString "first",c),(Str.ofString "whats",d),(Str.ofString "tables",e)]=none:=dF (by decide +kernel) (by decide +kernel) (by decide +kernel) (by decide +kernel) (by decide +kernel)
  have Co:∀{a b c d e:V},List.lookup (Str.ofString "table_at") [(Str.ofString "spots",a),(Str.ofString "mosts",b),(Str.ofString "first",c),(Str.ofString "whats",d),(Str.ofString "tables",e)]=none:=dF (by decide +kernel) (by decide +kernel) (by decide +kernel) (by decide +kernel) (by decide +kernel)
  have Vg:∀{a b c d e:V},List.lookup (Str.ofString "words_at") [(Str.ofString "spots",a),(Str.ofString "mosts",b),(Str.ofString "first",c),(Str.ofString "whats",d),(Str.ofString "tables",e)]=none:=dF (by decide +kernel) (by decide +kernel) (by decide +kernel) (by decide +kernel) (by decide +kernel)
  by_cases ek:vQ x=Str.ofString "throw"
  ·refine(?_:let G_:Prop:=_;G_)
   intro G_
   obtain⟨dD,t,b,rs,rfl⟩:=vR ek
   obtain⟨ps,rfl,gl,rfl⟩:=od
   dsimp only[G_]
   change tSeq _ _ _ _ _
   refine aU (λN=>True) trivial (λN _=>?_)
   change tIfS _ _ _ _ [some (.ref p)] H
   refine dz (λY N k=>?_) ?_
   ·simp_all only[cW,bY,e9]
    refine⟨_,_,_,hp,T.a4,T.na_Play_course,_,j9,c,rfl,_,_,h1,lp,_,_,_,hp,T.a4,T.na_Play_state,_,gN,c,rfl,bE L H,aM,g,co.co,st.1,st.2,jv.mono aM,_,lk,λu ru=>?_⟩
    refine(?_:let G_:Prop:=_;G_)
    intro G_
    obtain⟨q,Fz,rfl,hq⟩:=rB ru
    dsimp only[G_]
    have hq:=aM _ _ hq
    refine⟨q,rfl,_,hq,_,at0,rfl,?_⟩
    rw[if_pos (congrArg V.str ek)]
    exact k
   have key:∀v H1,K3 p tl tb H H1->cL av af L H1 p tl tb g st pd tr->Rep H1 (lU (md ps)) v->(∀D,H1 D=none->H D=none)->∃a,v=.ref a/\(∃xs,bI K H1 a xs)/\fI (yJ K a) (BK K 2 (gCons (gName 0) (gCons (gName 1) gNil))) sS (tVar 0) [none,none] H1 λys H2=>∀D:Addr,H1 D=none->H2 D=none->Q (V.ref D) (upd H2 D (HO.lst ys)):=λv H1 k1 uP rt nn=>by
    refine(?_:let G_:Prop:=_;G_)
    intro G_
    obtain⟨a,ys,rfl,ha,ry⟩:=a7.mp rt
    dsimp only[G_]
    refine⟨a,rfl,⟨_,bI.of ha⟩,?_⟩
    have len:=ry.length
    rw[Yr] at len
    have XQ:=(Ba ps gl).1.2.2.1
    have S:Src (yJ K a) (aD H1) ys.length _:=src_list (λH' s'=>bI.of (s' _ _ ha))
    rw[<-len] at S
    refine qB (K:=K) (md ps) (λr=>some r.1) S (λ_ _ _ _ h=>h.1) (by omega) ?_ ?_
    ·rintro i r y er ⟨_,ey⟩
     refine(?_:let G_:Prop:=_;G_)
     intro G_
     obtain⟨d,ed,rd⟩:=ry.get ey
     dsimp only[G_]
     rw[Yu,er] at ed
     cases ed
     refine(?_:let G_:Prop:=_;G_)
     intro G_
     obtain⟨p1,q1,rfl,e1,e2⟩:=pX.mp rd
     dsimp only[G_]
     exact⟨p1,_,_,rfl,jn.of e1,λY N y1 y2=>by simp_all only[];exact y1 _ rfl⟩
    ·intro D n1 n2
     have sD:=aA (o:=.lst (List.map V.int ((md ps).filterMap λr=>some r.1))) n1
     refine kk D _ (k1.trans (.of sD)) (uP.same sD) (nn _ n1) (a7.mpr ⟨D,_,rfl,aj,?_⟩)
     rw[List.filterMap_eq_map',show List.map ((λr:Int×Int×Int=>r.1)) (md ps)=iG ps from(Ba ps gl).2]
     exact ints_rep _
   refine(?_:let G_:Prop:=_;G_)
   intro G_
   obtain⟨kvs,mq,knd,Nb,Nc⟩:=id pl.FI
   dsimp only[G_]
   have Vh:kvs.length<=100:=by
    have:=ye knd Nb
    rw[Yr,Yr] at this
    exact YB this pl.good.lp
   have Ko:p≠tb:=λz=>by rw[z,mq] at hp;cases hp
   have Cs:tl≠tb:=λz=>by rw[z,mq] at m3;cases m3
   simp_all only[cW,bY,Eb]
   refine⟨_,_,_,hp,T.a4,T.na_Play_course,_,j9,c,rfl,_,_,h1,Co,_,_,_,hp,T.a4,T.na_Play_state,_,gN,c,rfl,g,st.1,st.2,tb,co.mono (Es pl.mem.2.2),jv.mono aM,kvs,mq,by omega,ps,t,b,rs,lk,gl,?_,λv hv=>?_,λhv p2 H1 s1 n2 r2=>?_⟩
   ·obtain⟨k,s,_,e | ⟨m,_,e⟩⟩:=me gl <;>rw[e] <;>simp
   ·refine(?_:let G_:Prop:=_;G_)
    intro G_
    obtain⟨Ql,t',b',SA,j8,rv⟩:=Nc _ _ hv
    dsimp only[G_]
    rw[lk] at j8
    injection j8 with j8
    injection j8 with e1
    have e1:=p4 e1
    subst e1
    exact key v H (.of (aD.refl _)) pl (rv.mono aM) λ_ h=>h
   ·have k2:K3 p tl tb H (upd H1 tb (.dK (kvs++ [(Sum.inr st.1,.ref p2)]))):=λa o _ _ h3 h=>by rw[aw h3];exact s1 _ _ h
    have s2:=k2.cE pl.mem.1 pl.mem.2.1 pl.mem.2.2
    have Vi:p2∉L:=pl.out n2
    have tup:∀a vs,H1 a=some (.tup vs)->upd H1 tb (.dK (kvs++ [(Sum.inr st.1,.ref p2)])) a=some (.tup vs)/\a∉L:=λa vs h=>by
     refine⟨by rw[aw (λz=>by rw[z,s1 _ _ mq] at h;cases h)];exact h,λm=>?_⟩
     refine(?_:let G_:Prop:=_;G_)
     intro G_
     obtain⟨o,ho,no⟩:=pl.al a m
     dsimp only[G_]
     rw[s1 _ _ ho] at h
     cases h
     exact no _ rfl
    have Vj:p2≠tb:=λz=>by rw[z,mq] at n2;cases n2
    have r3:Rep (bE L (upd H1 tb (.dK (kvs++ [(Sum.inr st.1,.ref p2)])))) (lU (md ps)) (.ref p2):=GX r2 (λo h=>by rw[bZ Vi,aw Vj];exact h) λa vs h=>by
     obtain⟨x1,x2⟩:=tup a vs h
     rw[bZ x2]
     exact x1
    have Lx:cL av af L (upd H1 tb (.dK (kvs++ [(Sum.inr st.1,.ref p2)]))) p tl tb g st pd tr:=by
     refine pl.next k2 (by rw[aw Ko];exact s1 _ _ hp) co (jv.mono s2) (rp.mono s2) (by rw[aw Cs];exact s1 _ _ m3) (CJ.up s2 al) ⟨_,aj,?_,λk hk=>?_,λnm v e=>?_⟩ pl.len pl.G8
     ·rw[Yx,Ys,YX]
      refine List.nodup_append.mpr ⟨knd,by simp,λa ha b hb=>?_⟩
      rw[List.mem_singleton] at hb
      intro z
      rw[z,hb] at ha
      refine(?_:let G_:Prop:=_;G_)
      intro G_
      obtain⟨x,hx,ex⟩:=List.mem_map.mp ha
      dsimp only[G_]
      unfold dt at hv
      have hv:kvs.find? (λkv=>decide (kv.1=Sum.inr st.1))=none:=by simpa using hv
      exact absurd (List.find?_eq_none.mp hv x hx) (by simp [ex])
     ·rw[Yx,List.mem_append] at hk
      rcases hk with hk | hk
      ·exact Nb k hk
      ·rw[Ys,YX,List.mem_singleton] at hk
       rw[hk]
       exact List.mem_map.mpr ⟨_,cS lk,rfl⟩
     ·rw[xX hv] at e
      by_cases z:(Sum.inr st.1:Key)=Sum.inr nm
      ·rw[if_pos z] at e
       cases e
       injection z with z
       exact⟨ps,t,b,rs,by rw[<-z];exact lk,r3⟩
      ·rw[if_neg z] at e
       refine(?_:let G_:Prop:=_;G_)
       intro G_
       obtain⟨Ql,t',b',SA,j8,rv⟩:=Nc _ _ e
       dsimp only[G_]
       exact⟨Ql,t',b',SA,j8,rv.mono s2⟩
    obtain⟨a,ea,k⟩:=key (.ref p2) _ k2 Lx (r3.mono aM) λD h=>by
     by_cases z:D=tb
     ·rw[z,aj] at h;cases h
     ·rw[aw z] at h;exact none_of s1 h
    cases ea
    exact k
  ·change tSeq _ _ _ _ _
   refine aU (λN=>N [some (.ref p)] H) ?_ (λN hN=>?_)
   case refine_2=>
    change tIfS _ _ _ _ [some (.ref p)] H
    refine c7 (λY N k=>?_) hN
    simp_all only[cW,bY,e9]
    refine⟨_,_,_,hp,T.a4,T.na_Play_course,_,j9,c,rfl,_,_,h1,lp,_,_,_,hp,T.a4,T.na_Play_state,_,gN,c,rfl,bE L H,aM,g,co.co,st.1,st.2,jv.mono aM,_,lk,λu ru=>?_⟩
    refine(?_:let G_:Prop:=_;G_)
    intro G_
    obtain⟨q,Fz,rfl,hq⟩:=rB ru
    dsimp only[G_]
    have hq:=aM _ _ hq
    refine⟨q,rfl,_,hq,_,at0,rfl,?_⟩
    rw[if_neg (λz=>ek (by injection z))]
    exact k
   simp_all only[cW,bY,D9]
   refine⟨_,_,_,hp,T.a4,T.na_Play_course,_,j9,c,rfl,_,_,h1,Vg,_,_,_,hp,T.a4,T.na_Play_state,_,gN,c,rfl,g,co.co.mono aM,pl.good,st.1,st.2,jv.mono aM,pl.len,x,lk,λa H' s' na ra=>kk a H' (.of s') (pl.same s') na ?_⟩
   have e:ds=(d9 g.cs st.2 x).map λr=>Dat.str r.word:=by
    cases x with
    | d7 dD t b rs=>exact absurd rfl ek
    | ask c k a b=>exact od
    | fin t b=>exact od
    | score c=>exact od
    | pick w rs=>exact od
   rw[e]
   exact ra
theorem rC:aT ["self","step","state","pay"] ["self","step","state","pay"] (ar (inClass (top 37) 4)):=⟨rfl,rfl,rfl,by decide +kernel,rfl,by decide +kernel,by decide +kernel⟩
theorem Im (T:Txt K mg aE aF aB aH af av):bu P w K mg base (bg P w) 4 av "go" ["self","step","state","pay"] (EA av af aB):=by
 have zY:bX P w K mg base (bg P w) 3 "plus" ["one","other"] iL:=EE T
 refine T.zM.du (λ_ _ _ _ _ _=>tM λ_ _ _ _=>rfl) λf fd F=>F.Jv rC (λvs H Q E h=>?_) (λbT A outer s H vs Q E hr h=>?_)
 ·obtain⟨_,_,_,_,_,_,_,_,_,_,_,_,_,rfl,_⟩:=h;rfl
 ·refine(?_:let G_:Prop:=_;G_)
  intro G_
  obtain⟨p,step,CK,yi,tl,tb,L,g,st,pd,tr,eK,py,rfl,pl,vT,Qm,Vk,Vl,yh,wK,kE,kQ⟩:=h
  dsimp only[G_]
  clear G_
  have nd:=rC.nd
  have Bi:A.handled=none:=hr.hd
  refine⟨_,(ah (bf (aL bp (aX bq (by rfl) T.z_len YH (aa (a9 (pv 0) rfl) ag (se rfl)) (he:=se rfl) (hpl:=na rfl)) (lV rfl T.c_MOST_STEPS) (aS _)) (ao (eR rfl T.k_TooMany T.x_TooMany Bi (aa aZ ag (se rfl)) (he:=se rfl) (hpl:=na rfl)))
   aY)
  (ah (bG (fH YN Zh Zi dj.r (a9 (pv 0) rfl) (aa (a5 (aa (pv 1) (aa (a9 (pv 0) rfl) (aa (a9 (pv 0) rfl) ag (se rfl)) (se rfl)) (se rfl))) ag (se rfl))))
  (ah (eG (pv 0) (pv 2) rfl)
  (ao (eG (pv 0) (aK zY (hr.mono (by decide)) rfl au.pass (aa (a9 (pv 0) rfl) (aa (pv 3) ag (se rfl)) (se rfl)) (he:=se rfl) (hpl:=na rfl)) rfl))))),?_⟩
  refine(?_:let bM:TS:=_;let bN:TS:=_;let bO:TS:=_;let cM:TS:=_;tSeq bM (tSeq bN (tSeq bO cM)) _ _ _)
  intro bM bN bO cM
  have sl:=sizeLine_eq
  refine(?_:let G_:Prop:=_;G_)
  intro G_
  obtain⟨dp,c,sv,pv,xs,hp,co,jv,rp,m3,al⟩:=pl.ex
  dsimp only[G_]
  clear G_
  have xl:=al.length
  change tSeq _ _ _ _ _
  refine aU (λN=>tr.length<200->N [some (.ref p),some (.str step),some CK,some yi] H) ?_ (λN hN=>?_)
  case refine_2=>
   simp_all only[cW,tRaise]
   refine⟨_,_,_,hp,T.a4,T.na_Play_trail,_,yd,tl,rfl,_,m3,gY (λe=>⟨by decide,kE (by omega) _ (aD.refl _)⟩) (λe=>hN (by omega))⟩
  intro l2
  have Kq:p≠tl:=λz=>by rw[z,m3] at hp;cases hp
  refine(?_:let G_:Prop:=_;G_)
  intro G_
  obtain⟨kvs,mq,_⟩:=id pl.FI
  dsimp only[G_]
  clear G_
  have Ko:p≠tb:=λz=>by rw[z,mq] at hp;cases hp
  have Cs:tl≠tb:=λz=>by rw[z,mq] at m3;cases m3
  change tSeq _ _ _ _ _
  refine aU (λN=>∀t H1,aD H H1->H t=none->H1 t=some (.tup [.str step,sv,pv])->N [some (.ref p),some (.str step),some CK,some yi] (upd H1 tl (.lst (xs++ [.ref t])))) ?_ (λN hN=>?_)
  case refine_2=>
   simp_all only[cW,eL]
   refine⟨_,_,_,hp,T.a4,T.na_Play_trail,_,yd,.inl ⟨rfl,_,bI.of m3⟩,_,_,_,hp,T.a4,T.na_Play_state,_,gN,_,_,_,hp,T.a4,T.na_Play_paid,_,Bl,by omega,λt H1 s1 n1 e1=>?_⟩
   exact⟨tl,rfl,_,s1 _ _ m3,by omega,hN t H1 s1 n1 e1⟩
  rintro t H1 s1 nt ht
  have Vm:=s1 _ _ hp
  change tSeq _ _ _ [some (.ref p),some (.str step),some CK,some yi] (upd H1 tl (.lst (xs++ [.ref t])))
  refine aU (λN=>N [some (.ref p),some (.str step),some CK,some yi] (upd (upd H1 tl (.lst (xs++ [.ref t]))) p (.ins av dp (iu (.ref c) CK pv (.ref tl))))) ?_ (λN hN=>?_)
  case refine_2=>
   simp_all only[nv]
   rw[<-Ii (b:=sv)] at hN
   exact⟨_,_,_,by rw[aw Kq];exact Vm,T.a4,T.na_Play_state,vS,hN⟩
  generalize yK:upd (upd H1 tl (.lst (xs++ [.ref t]))) p (.ins av dp (iu (.ref c) CK pv (.ref tl)))=H2
  have k2:K3 p tl tb H H2:=λa o h1 h2 h3 h=>by rw[<-yK,aw h1,aw h2];exact s1 _ _ h
  have p2:H2 p=some (.ins av dp (iu (.ref c) CK pv (.ref tl))):=by rw[<-yK,aj]
  have t2:H2 tl=some (.lst (xs++ [.ref t])):=by rw[<-yK,aw (Ne.symm Kq),aj]
  have b2:H2 tb=some (.dK kvs):=by rw[<-yK,aw (Ne.symm Ko),aw (Ne.symm Cs)];exact s1 _ _ mq
  have n2:H2 t=some (.tup [.str step,sv,pv]):=by
   rw[<-yK,aw (λz=>by rw[z,hp] at nt;cases nt),aw (λz=>by rw[z,m3] at nt;cases nt)]
   exact ht
  clear yK
  have sm:=k2.cE pl.mem.1 pl.mem.2.1 pl.mem.2.2
  simp_all only[cW,nv,iL]
  refine⟨_,_,_,p2,T.a4,T.na_Play_paid,_,Bl,pd,rp.mono (sm.trans aM),py,Vl.mono (sm.trans aM),yh,wK,λr H3 s3 nr er=>⟨_,_,_,s3 _ _ p2,T.a4,T.na_Play_paid,vS,?_⟩⟩
  rw[Ij]
  have Vn:r≠p:=λz=>by rw[z,p2] at nr;cases nr
  have k4:K3 p tl tb H (upd H3 p (.ins av dp (iu (.ref c) CK (.ref r) (.ref tl)))):=λa o h1 h2 h3 h=>by rw[aw h1];exact s3 _ _ (k2 a o h1 h2 h3 h)
  have s4:=k4.cE pl.mem.1 pl.mem.2.1 pl.mem.2.2
  have Vo:H r=none:=by
   cases h:H r with
   | none=>rfl
   | some o=>rw[k2 _ _ Vn (λz=>by rw[z,t2] at nr;cases nr) (λz=>by rw[z,b2] at nr;cases nr) h] at nr;cases nr
  have fr:∀{a o},H a=none->H3 a=some o->bE L (upd H3 p (.ins av dp (iu (.ref c) CK (.ref r) (.ref tl)))) a=some o:=λ{a o} n h=>by
   rw[bZ (pl.out n),aw (λz=>by rw[z,hp] at n;cases n)]
   exact h
  refine kQ l2 _ k4 (pl.next k4 aj co (Qm.mono s4) (b6.mpr ⟨r,rfl,fr Vo er⟩) (by rw[aw (Ne.symm Kq)];exact s3 _ _ t2) ?_ (pl.FI.mono s4 λo h=>?_) Vk ?_)
  ·exact(CJ.up s4 al).append (Al.one ⟨t,sv,pv,rfl,fr nt (s3 _ _ n2),jv.mono s4,rp.mono s4⟩)
  ·rw[mq] at h
   rw[aw (Ne.symm Ko),s3 _ _ b2]
   exact h
  ·intro e he
   rcases List.mem_append.mp he with he | he
   ·exact pl.G8 e he
   ·rw[List.mem_singleton.mp he];exact pl.len
theorem o4:aT ["self","word","rows"] ["self","word"] (ar (inClass (top 37) 5)):=⟨rfl,rfl,rfl,by decide +kernel,rfl,by decide +kernel,by decide +kernel⟩
theorem Kr (T:Txt K mg aE aF aB aH af av):bu P w K mg base (bg P w) 5 av "say" ["self","word"] (EB av af aH aB):=by
 have dR:bu P w K mg base (bg P w) 2 af "open_rows" ["self","state"] (xU af):=Ek T
 have eX:bu P w K mg base (bg P w) 3 af "by_row" ["self","state","row","value"] (xS af):=Ej T
 have nU:bu P w K mg base (bg P w) 4 av "go" ["self","step","state","pay"] (EA av af aB):=Im T
 refine T.xM.du (λ_ _ _ _ _ _=>eD λ_ _=>rfl) λf fd F=>F.Jv o4 (λvs H Q E h=>?_) (λbT A outer s H vs Q E hr h=>?_)
 ·obtain⟨_,_,_,_,_,_,_,_,_,_,rfl,_⟩:=h;rfl
 ·refine(?_:let G_:Prop:=_;G_)
  intro G_
  obtain⟨p,word,tl,tb,L,g,st,pd,tr,x,rfl,pl,vT,lk,yh,kE,kQ⟩:=h
  dsimp only[G_]
  have nd:=o4.nd
  have Bi:A.handled=none:=hr.hd
  refine⟨_,(ah (lR (i:=2) rfl nd rfl rfl (N:=["self","word","rows"]) (so:=ar (inClass (top 37) 5)) (N':=["row","word"]) (k:=1) (fr:=[1]) rfl rfl ⟨rfl,by decide +kernel,by decide +kernel,by decide +kernel,rfl,by decide +kernel,by decide +kernel⟩ (bh (K:=K) (cU dR T.aP (a9 (pv 0) rfl) (hr.mono (by decide)) au.pass (aa (a9 (pv 0) rfl) ag (se rfl)) (hst:=se rfl) (hpl:=na rfl))) (λ_ _ _ _ _=>(aW (i:=0) (show(["row","word"]:List Str).Nodup by decide +kernel) rfl (Or.inl rfl))) (λ_ _ _ _ _=>(eM (aL bp (aq ai (pv 0) ae (λ_ _=>rfl)) (pv 1) (aS _))))
   (λ_ _ _ _ _=>(pv 0)))
  (ah (bf (aL bp (aX bq (by rfl) T.z_len YH (aa (pv 2) ag (se rfl)) (he:=se rfl) (hpl:=na rfl)) ae (aS _)) (ao (eR rfl T.k_NoStep T.x_NoStep Bi (aa aZ ag (se rfl)) (he:=se rfl) (hpl:=na rfl)))
   aY)
  (ao (bG (cU nU T.a4 (pv 0) (hr.mono (by decide)) AN (aa (pv 1) (aa (cU eX T.aP (a9 (pv 0) rfl) (hr.mono (by decide)) au.pass (aa (a9 (pv 0) rfl) (aa (aq aQ (pv 2) ae (λ_ _=>rfl)) (aa ae ag (se rfl)) (se rfl)) (se rfl)) (hst:=se rfl) (hpl:=na rfl)) (aa (a5 (aa ae (aa ae ag (se rfl)) (se rfl))) ag (se rfl)) (se rfl)) (se rfl)) (hst:=se rfl) (hpl:=na rfl)))))),?_⟩
  refine(?_:let bM:TS:=_;let bN:TS:=_;let bO:TS:=_;tSeq bM (tSeq bN bO) _ _ _)
  intro bM bN bO
  have sl:=sizeLine_eq
  refine(?_:let G_:Prop:=_;G_)
  intro G_
  obtain⟨dp,c,sv,pv,xs,hp,co,jv,rp,m3,al⟩:=pl.ex
  obtain⟨dc,sp,mo,wh,us,CI,h1,_⟩:=id co
  dsimp only[G_]
  have h1:=aM _ _ h1
  have lp:∀{a b c d e:V},List.lookup (Str.ofString "open_rows") [(Str.ofString "spots",a),(Str.ofString "mosts",b),(Str.ofString "first",c),(Str.ofString "whats",d),(Str.ofString "tables",e)]=none:=dF (by decide +kernel) (by decide +kernel) (by decide +kernel) (by decide +kernel) (by decide +kernel)
  have Co:∀{a b c d e:V},List.lookup (Str.ofString "by_row") [(Str.ofString "spots",a),(Str.ofString "mosts",b),(Str.ofString "first",c),(Str.ofString "whats",d),(Str.ofString "tables",e)]=none:=dF (by decide +kernel) (by decide +kernel) (by decide +kernel) (by decide +kernel) (by decide +kernel)
  have gx:=pl.good.wt _ (cS lk)
  have Lr:(d9 g.cs st.2 x).length<=100:=by
   cases x with
   | pick w rs=>exact YB (List.length_filter_le _ _) gx.1
   | d7 dD t b rs=>exact YD _
   | ask c k a b=>exact YD _
   | fin t b=>exact YD _
   | score c=>exact YD _
  change tSeq _ _ _ _ _
  refine aU (λN=>∀H1,aD H H1->∀a ys,H1 a=some (.lst ys)->a8 (bE L H) ((((d9 g.cs st.2 x).filter λr=>decide (r.word=word)).map GS).map qR) ys->N [some (.ref p),some (.str word),some (.ref a)] H1) ?_ (λN hN=>?_)
  case refine_2=>
   simp_all only[cW,bY,xU]
   refine⟨_,_,_,hp,T.a4,T.na_Play_course,_,j9,c,rfl,_,_,h1,lp,_,_,_,hp,T.a4,T.na_Play_state,_,gN,c,rfl,bE L H,aM,g,co.co,pl.good,st.1,st.2,jv.mono aM,pl.len,x,lk,λa ys H1 s1 na ha ra=>?_⟩
   have len:=ra.length
   rw[Yr,Yr] at len
   have zl:(ys.zip (d9 g.cs st.2 x)).length=ys.length:=by rw[List.length_zip];omega
   refine⟨⟨_,bI.of ha⟩,?_⟩
   have S:Src (yJ K a) (aD H1) ys.length _:=src_list (λH' s'=>bI.of (s' _ _ ha))
   rw[<-zl] at S
   refine eI (ys.zip (d9 g.cs st.2 x)) (λy=>if decide (y.2.word=word)=true then some y.1 else none) S (λ_ _ _ _ h=>h.1) (by omega) ?_ ?_
   ·rintro i ⟨y,r⟩ z Nd ⟨_,ez⟩ Y N3 y1 y2
    obtain⟨e1,e2⟩:=List.getElem?_zip_eq_some.mp Nd
    rw[e1] at ez
    cases ez
    refine(?_:let G_:Prop:=_;G_)
    intro G_
    obtain⟨r',q,_,b1,b2,b3,er,rfl,hq,_,_⟩:=mh ra e1
    dsimp only[G_]
    rw[e2] at er
    cases er
    have hq:=s1 _ _ (aM _ _ hq)
    simp_all only[hq]
    by_cases e:r.word=word
    ·rw[if_pos e];exact y1 _ (if_pos (decide_eq_true e))
    ·rw[if_neg e];exact y2 (if_neg (by simpa using e))
   ·intro D n1 n2
    exact hN _ (s1.trans (aA n2)) D _ aj (hJ ra)
  rintro H1 s1 a ys ha ry
  have rD:=ry.length
  rw[Yr,Yr] at rD
  have hd:((d9 g.cs st.2 x).filter λr=>decide (r.word=word)).head?=(d9 g.cs st.2 x).find? λr=>decide (r.word=word):=by rw[List.head?_filter]
  change tSeq _ _ _ _ _
  cases er:(d9 g.cs st.2 x).filter λr=>decide (r.word=word) with
  | nil=>
   rw[er] at hd rD
   refine aU (λ_=>True) trivial (λN _=>?_)
   simp_all only[ha,tRaise]
   rw[if_pos (by rw[Y9] at rD;omega)]
   exact⟨by decide,kE hd.symm _ s1⟩
  | cons r rest=>
   rw[er] at hd rD ry
   refine(?_:let G_:Prop:=_;G_)
   intro G_
   obtain⟨y,ys,rfl,r1,_⟩:=aR.mp ry
   dsimp only[G_]
   refine aU (λN=>N [some (.ref p),some (.str word),some (.ref a)] H1) ?_ (λN hN=>?_)
   case refine_2=>
    simp_all only[ha,tRaise]
    rw[if_neg (by omega)]
    exact hN
   refine(?_:let G_:Prop:=_;G_)
   intro G_
   obtain⟨f',e8,ak,kM,kk⟩:=kQ r hd.symm
   dsimp only[G_]
   have mr:r∈d9 g.cs st.2 x:=(List.mem_filter.mp (by rw[er];exact YA)).1
   have gr:r.ds.length<=100/\∀d∈r.ds,fL g.cs d:=by
    cases x with
    | pick w rs=>exact gx.2 r (List.mem_filter.mp mr).1
    | d7 dD t b rs=>cases mr
    | ask c k a b=>cases mr
    | fin t b=>cases mr
    | score c=>cases mr
   have uP:=pl.same s1
   have Qn:∀{a b c d:V},List.lookup (Str.ofString "go") (iu a b c d)=none:=by intro a b c d;unfold iu;rw[bH (by decide +kernel),bH (by decide +kernel),bH (by decide +kernel),bH (by decide +kernel)];rfl
   simp_all only[cW,bY,xS,EA]
   refine⟨_,_,s1 _ _ hp,Qn,_,_,_,s1 _ _ hp,T.a4,T.na_Play_course,_,j9,c,rfl,_,_,s1 _ _ h1,Co,_,_,_,s1 _ _ hp,T.a4,T.na_Play_state,_,gN,_,ha,_,at0,c,rfl,g,co.co.mono (aM.trans s1),pl.good,st.1,st.2,jv.mono (aM.trans s1),_,_,r.ds,r.to,r1.mono (aM.trans s1),gr.2,gr.1,pl.len,f',e8,ak,λp' l' H2 s2 n1 n2 e1 e2=>⟨by omega,λt H3 s3 nt et=>?_⟩⟩
   have my:=s1.trans (s2.trans s3)
   have fr:∀{a o},H a=none->H3 a=some o->bE L H3 a=some o:=λ{a o} n h=>by rw[bZ (pl.out n)];exact h
   have Vp:=pl.same my
   exact⟨tl,tb,L,g,st,pd,tr,Vp,vT,(e8,r.ds.foldl (ix g.cs 0) st.2),⟨p',l',rfl,fr (none_of s1 n1) (s3 _ _ e1),fr (none_of s1 n2) (s3 _ _ e2)⟩,(cV _ _).trans pl.len,(0,1),b6.mpr ⟨t,rfl,fr (none_of (s1.trans s2) nt) et⟩,yh,hU 0 (by decide) (by decide),λz H' s'=>kM z H' (my.trans s'),λz H' k' DF=>kk z H' ((K3.of my).trans k') DF⟩
theorem kc:aT ["self","value","what"] ["self","value"] (ar (inClass (top 37) 6)):=⟨rfl,rfl,rfl,by decide +kernel,rfl,by decide +kernel,by decide +kernel⟩
theorem Kt (T:Txt K mg aE aF aB aH af av):bu P w K mg base (bg P w) 9 av "throw" ["self","value"] (EC av af aB):=by
 have bc:bu P w K mg base (bg P w) 1 af "what_at" ["self","state"] (e9 af):=kR T
 have zZ:bX P w K mg base (bg P w) 1 "is_whole" ["thing"] Ey:=Km T
 have eJ:bu P w K mg base (bg P w) 8 av "open_ways" ["self"] (yg av af):=EF T
 have mz:bu P w K mg base (bg P w) 4 af "by_value" ["self","state","value"] (J6 af):=M6 T
 have nU:bu P w K mg base (bg P w) 4 av "go" ["self","step","state","pay"] (EA av af aB):=Im T
 refine T.tJ.du (λ_ _ _ _ _ _=>eD λ_ _=>rfl) λf fd F=>F.Jv kc (λvs H Q E h=>?_) (λbT A outer s H vs Q E hr h=>?_)
 ·obtain⟨_,_,_,_,_,_,_,_,_,_,_,_,_,_,_,_,rfl,_⟩:=h;rfl
 ·refine(?_:let G_:Prop:=_;G_)
  intro G_
  obtain⟨p,v,tl,tb,L,g,st,pd,tr,ps,t,b,rs,r,f',e8,rfl,pl,vT,lk,gl,hv,v0,v1,ro,ak,yh,wK,kM,kk⟩:=h
  dsimp only[G_]
  have nd:=kc.nd
  have Bi:A.handled=none:=hr.hd
  refine⟨_,(ah (aI (i:=2) nd rfl (Or.inl rfl) (cU bc T.aP (a9 (pv 0) rfl) (hr.mono (by decide)) au.pass (aa (a9 (pv 0) rfl) ag (se rfl)) (hst:=se rfl) (hpl:=na rfl)))
  (ah (bf (PW.pt (pw_or (aL uo (aq ai (pv 2) ae (λ_ _=>rfl)) aZ (aS _)) (pw_or (yT (kr (aK zZ (hr.mono (by decide)) rfl au.pass (aa (pv 1) ag (se rfl)) (he:=se rfl) (hpl:=na rfl)))) (pw_or1 (aL (sX (K:=K)) (pv 1) (iE eJ T.a4 (pv 0) (hr.mono (by decide)) au.pass) rfl))))) (ao (eR rfl T.k_NoStep T.x_NoStep Bi (aa aZ ag (se rfl)) (he:=se rfl) (hpl:=na rfl)))
   aY)
  (ao (bG (cU nU T.a4 (pv 0) (hr.mono (by decide)) AN (aa (dS zA (by rfl) T.z_str rfl (aa (pv 1) ag (se rfl)) (he:=se rfl) (hpl:=na rfl)) (aa (cU mz T.aP (a9 (pv 0) rfl) (hr.mono (by decide)) au.pass (aa (a9 (pv 0) rfl) (aa (pv 1) ag (se rfl)) (se rfl)) (hst:=se rfl) (hpl:=na rfl)) (aa (aq ai (pv 2) ae (λ_ _=>rfl)) ag (se rfl)) (se rfl)) (se rfl)) (hst:=se rfl) (hpl:=na rfl)))))),?_⟩
  refine(?_:let bM:TS:=_;let bN:TS:=_;let bO:TS:=_;tSeq bM (tSeq bN bO) _ _ _)
  intro bM bN bO
  have sl:=sizeLine_eq
  refine(?_:let G_:Prop:=_;G_)
  intro G_
  obtain⟨dp,c,sv,pv,xs,hp,co,jv,rp,m3,al⟩:=pl.ex
  obtain⟨dc,sp,mo,wh,us,CI,h1,_⟩:=id co
  dsimp only[G_]
  have h1:=aM _ _ h1
  have lp:∀{a b c d e:V},List.lookup (Str.ofString "what_at") [(Str.ofString "spots",a),(Str.ofString "mosts",b),(Str.ofString "first",c),(Str.ofString "whats",d),(Str.ofString "tables",e)]=none:=dF (by decide +kernel) (by decide +kernel) (by decide +kernel) (by decide +kernel) (by decide +kernel)
  have Co:∀{a b c d e:V},List.lookup (Str.ofString "by_value") [(Str.ofString "spots",a),(Str.ofString "mosts",b),(Str.ofString "first",c),(Str.ofString "whats",d),(Str.ofString "tables",e)]=none:=dF (by decide +kernel) (by decide +kernel) (by decide +kernel) (by decide +kernel) (by decide +kernel)
  have Qn:∀{a b c d:V},List.lookup (Str.ofString "go") (iu a b c d)=none:=by intro a b c d;unfold iu;rw[bH (by decide +kernel),bH (by decide +kernel),bH (by decide +kernel),bH (by decide +kernel)];rfl
  have low:∀{a b c d:V},List.lookup (Str.ofString "open_ways") (iu a b c d)=none:=by intro a b c d;unfold iu;rw[bH (by decide +kernel),bH (by decide +kernel),bH (by decide +kernel),bH (by decide +kernel)];rfl
  change tSeq _ _ _ _ _
  refine aU (λN=>∀q x1 x2 x3,bE L H q=some (.tup [.str (Str.ofString "throw"),x1,x2,x3])->Rep (bE L H) (dq (t,b)) x2->N [some (.ref p),some (.int v),some (.ref q)] H) ?_ (λN hN=>?_)
  case refine_2=>
   simp_all only[cW,bY,e9]
   refine⟨_,_,_,hp,T.a4,T.na_Play_course,_,j9,c,rfl,_,_,h1,lp,_,_,_,hp,T.a4,T.na_Play_state,_,gN,c,rfl,bE L H,aM,g,co.co,st.1,st.2,jv.mono aM,_,lk,λu ru=>?_⟩
   refine(?_:let G_:Prop:=_;G_)
   intro G_
   obtain⟨q,v1,v2,v3,v4,rfl,hq,r1,r2,r3,r4⟩:=c8.mp (show Rep _ (.tup _) u from ru)
   dsimp only[G_]
   rw[aN.mp r1] at hq
   exact hN q _ _ _ hq r3
  rintro q x1 x2 x3 hq rt
  have sM:=aM _ _ hq
  change tSeq _ _ _ _ _
  refine aU (λN=>∀H1,K3 p tl tb H H1->cL av af L H1 p tl tb g st pd tr->N [some (.ref p),some (.int v),some (.ref q)] H1) ?_ (λN hN=>?_)
  case refine_2=>
   simp_all only[bY,Ey,yg,sM]
   rw[if_neg (by simp),if_neg (by decide)]
   refine⟨_,_,hp,low,tl,tb,L,g,st,pd,tr,pl,_,lk,_,⟨ps,rfl,gl,rfl⟩,λa H1 k1 uP na ra=>?_⟩
   refine(?_:let G_:Prop:=_;G_)
   intro G_
   obtain⟨a',ys,e0,ha,ry⟩:=a7.mp ra
   dsimp only[G_]
   cases e0
   obtain rfl:=uO ry
   refine⟨_,_,rfl,.inl (bI.of ha),rfl,Cr _,_,rfl,?_⟩
   rw[ints_in hv]
   exact hN _ k1 uP
  rintro H1 k1 uP
  refine(?_:let G_:Prop:=_;G_)
  intro G_
  obtain⟨XR,c1,SD,SE,Ku,Nf,LD,Qo,XS,Vq,CL⟩:=uP.ex
  obtain⟨XT,XU,Qp,XW,Vr,XX,g1,_⟩:=id LD
  dsimp only[G_]
  have g1:=aM _ _ g1
  have sm:=k1.cE pl.mem.1 pl.mem.2.1 pl.mem.2.2
  have Lu:=sm _ _ hq
  simp_all only[cW,bY,J6,EA]
  refine⟨_,_,Nf,Qn,?_,_,_,_,Nf,T.a4,T.na_Play_course,_,j9,c1,rfl,_,_,g1,Co,_,_,_,Nf,T.a4,T.na_Play_state,_,gN,c1,rfl,g,LD.co.mono aM,pl.good,st.1,st.2,Qo.mono aM,pl.len,_,_,_,_,lk,r,ro,f',e8,ak,λp' l' H2 s2 n1 n2 e1 e2=>?_⟩
  ·exact Nat.lt_of_le_of_lt (Nat.log2_le_self _) (by omega)
  have fr:∀{a o},H1 a=none->H2 a=some o->bE L H2 a=some o:=λ{a o} n h=>by rw[bZ (uP.out n)];exact h
  have yj:=dU (L:=L) s2
  exact⟨_,s2 _ _ (aM _ _ Lu),_,at2,tl,tb,L,g,st,pd,tr,uP.same s2,vT,(e8,r.2.2.1.foldl (ix g.cs v) st.2),⟨p',l',rfl,fr n1 e1,fr n2 e2⟩,(cV _ _).trans pl.len,(t,b),rt.mono (sm.trans yj),yh,wK,λz H' s'=>kM z H' (k1.trans (.of (s2.trans s'))) (uP.same (s2.trans s')),λz H' k' DF=>kk z H' (k1.trans ((K3.of s2).trans k')) DF⟩
theorem mB:aT ["self","last"] ["self"] (ar (inClass (top 37) 7)):=⟨rfl,rfl,rfl,by decide +kernel,rfl,by decide +kernel,by decide +kernel⟩
theorem Kv (T:Txt K mg aE aF aB aH af av):bu P w K mg base (bg P w) 1 av "back" ["self"] (Bn av af aH):=by
 refine T.vC.du (λ_ _ _ _ _ _=>gJ λ_=>rfl) λf fd F=>F.Jv mB (λvs H Q E h=>?_) (λbT A outer s H vs Q E hr h=>?_)
 ·obtain⟨_,_,_,_,_,_,_,_,rfl,_⟩:=h;rfl
 ·refine(?_:let G_:Prop:=_;G_)
  intro G_
  obtain⟨p,tl,tb,L,g,st,pd,tr,rfl,pl,vT,kE,kQ⟩:=h
  dsimp only[G_]
  clear G_
  have nd:=mB.nd
  have Bi:A.handled=none:=hr.hd
  refine⟨_,(ah (bf (aL bp (aX bq (by rfl) T.z_len YH (aa (a9 (pv 0) rfl) ag (se rfl)) (he:=se rfl) (hpl:=na rfl)) ae (aS _)) (ao (eR rfl T.k_NoStep T.x_NoStep Bi (aa aZ ag (se rfl)) (he:=se rfl) (hpl:=na rfl)))
   aY)
  (ah (aI (i:=1) nd rfl (Or.inl rfl) (zj YN PySem.F.slot_list_pop PySem.F.type_list_pop zo.r (a9 (pv 0) rfl)))
  (ah (eG (pv 0) (aq ai (pv 1) ae (λ_ _=>rfl)) rfl)
  (ao (eG (pv 0) (aq ai (pv 1) ae (λ_ _=>rfl)) rfl))))),?_⟩
  refine(?_:let bM:TS:=_;let bN:TS:=_;let bO:TS:=_;let cM:TS:=_;tSeq bM (tSeq bN (tSeq bO cM)) _ _ _)
  intro bM bN bO cM
  have sl:=sizeLine_eq
  refine(?_:let G_:Prop:=_;G_)
  intro G_
  obtain⟨dp,c,sv,pv,xs,hp,co,jv,rp,m3,al⟩:=pl.ex
  dsimp only[G_]
  clear G_
  have xl:=al.length
  change tSeq _ _ _ _ _
  refine aU (λN=>∀pB e,tr=pB++ [e]->N [some (.ref p),none] H) ?_ (λN hN=>?_)
  case refine_2=>
   simp_all only[cW,tRaise]
   refine⟨_,_,_,hp,T.a4,T.na_Play_trail,_,yd,tl,rfl,_,m3,gY (λe=>⟨by decide,kE (List.length_eq_zero_iff.mp (by omega))⟩) (λe=>?_)⟩
   have ne:tr≠[]:=λz=>e (by rw[z,Y9] at xl;omega)
   exact hN tr.dropLast (tr.getLast ne) (List.dropLast_concat_getLast ne).symm
  intro pB Vs df
  refine(?_:let G_:Prop:=_;G_)
  intro G_
  obtain⟨w,Qq,Qr⟩:=Vs
  obtain rfl:=df
  have Kq:p≠tl:=λz=>by rw[z,m3] at hp;cases hp
  obtain⟨kvs,mq,_⟩:=id pl.FI
  dsimp only[G_]
  clear G_
  have Ko:p≠tb:=λz=>by rw[z,mq] at hp;cases hp
  have Cs:tl≠tb:=λz=>by rw[z,mq] at m3;cases m3
  rw[Yy,Y4] at xl
  obtain⟨x,ex,t,Qs,SG,rfl,ht,Qt,Vt⟩:=al.at (i:=pB.length) (a:=(w,Qq,Qr)) (by rw[Zk (Yt _),Nat.sub_self];rfl)
  have Vu:Al (CJ (bE L H)) pB xs.dropLast:=Al.of (by rw[List.length_dropLast];omega) λi v a ev ea=>by
   have hi:i<pB.length:=(List.getElem?_eq_some_iff.mp ea).1
   rw[List.getElem?_dropLast,if_pos (by omega)] at ev
   refine(?_:let G_:Prop:=_;G_)
   intro G_
   obtain⟨a',SH,r⟩:=al.get ev
   dsimp only[G_]
   rw[Zn hi,ea] at SH
   cases SH
   exact r
  have Bp:=aM _ _ ht
  have SI:t≠tl:=λz=>by rw[z,m3] at Bp;cases Bp
  have tp:t≠p:=λz=>by rw[z,hp] at Bp;cases Bp
  change tSeq _ _ _ _ _
  refine aU (λN=>N [some (.ref p),some (.ref t)] (upd H tl (.lst xs.dropLast))) ?_ (λN hN=>?_)
  case refine_2=>
   simp_all only[F8,F6,cW]
   refine⟨_,_,_,hp,T.a4,T.na_Play_trail,_,yd,.inl ⟨rfl,_,bI.of m3⟩,tl,rfl,xs,m3,.ref t,?_,hN⟩
   rw[show xs.length - 1=pB.length by omega]
   exact ex
  simp_all only[cW,nv]
  refine⟨_,by rw[aw SI];exact Bp,_,at1,_,_,_,by rw[aw Kq];exact hp,T.a4,T.na_Play_state,vS,?_⟩
  rw[Ii]
  refine⟨_,by rw[aw tp,aw SI];exact Bp,_,at2,_,_,_,aj,T.a4,T.na_Play_paid,vS,?_⟩
  rw[Ij]
  generalize yK:upd (upd (upd H tl (.lst xs.dropLast)) p (.ins av dp (iu (.ref c) Qs pv (.ref tl)))) p (.ins av dp (iu (.ref c) Qs SG (.ref tl)))=H2
  have k2:K3 p tl tb H H2:=λa o h1 h2 h3 h=>by rw[<-yK,aw h1,aw h1,aw h2];exact h
  have p2:H2 p=some (.ins av dp (iu (.ref c) Qs SG (.ref tl))):=by rw[<-yK,aj]
  have t2:H2 tl=some (.lst xs.dropLast):=by rw[<-yK,aw (Ne.symm Kq),aw (Ne.symm Kq),aj]
  have b2:H2 tb=some (.dK kvs):=by rw[<-yK,aw (Ne.symm Ko),aw (Ne.symm Ko),aw (Ne.symm Cs)];exact mq
  clear yK
  have s4:=k2.cE pl.mem.1 pl.mem.2.1 pl.mem.2.2
  exact kQ pB (w,Qq,Qr) rfl _ k2 (pl.next k2 p2 co (Qt.mono s4) (Vt.mono s4) t2 (CJ.up s4 Vu) (pl.FI.mono s4 λo h=>by rw[mq] at h;rw[b2];exact h) (pl.G8 (w,Qq,Qr) (YO _ YA)) λe he=>pl.G8 e (Zg _ he))
theorem kf:aT ["self"] ["self"] (ar (inClass (top 37) 8)):=⟨rfl,rfl,rfl,by decide +kernel,rfl,by decide +kernel,by decide +kernel⟩
theorem Kw (T:Txt K mg aE aF aB aH af av):bu P w K mg base (bg P w) 1 av "shown" ["self"] (ED av af):=by
 refine T.tI.du (λ_ _ _ _ _ _=>gJ λ_=>rfl) λf fd F=>F.d3 kf (λvs H Q E h=>?_) (λbT A outer s H vs Q E hr h=>?_)
 ·obtain⟨_,_,_,_,_,_,_,_,rfl,_⟩:=h;rfl
 ·refine(?_:let G_:Prop:=_;G_)
  intro G_
  obtain⟨p,tl,tb,L,g,st,pd,tr,rfl,pl,vT,lw,kk⟩:=h
  dsimp only[G_]
  have nd:=kf.nd
  refine⟨_,(ao (aV (fH PySem.F.plainAttrs_str PySem.F.slot_str_join PySem.F.type_str_join (DQ (K:=K)) aZ (aa (cG rfl (N:=["self"]) (so:=ar (inClass (top 37) 8)) (N':=["step"]) (k:=1) (fr:=[]) rfl rfl ⟨rfl,by decide +kernel,by decide +kernel,by decide +kernel,rfl,by decide +kernel,by decide +kernel⟩ (bh (K:=K) (a9 (pv 0) rfl)) (λ_ _ _ _ _=>(aW (i:=0) (show(["step"]:List Str).Nodup by decide +kernel) rfl (Or.inl rfl))) (λ_ _ _ _ _=>dk)
   (λ_ _ _ _ _=>(aq ai (pv 0) ae (λ_ _=>rfl)))) ag (se rfl))))),?_⟩
  have sl:=sizeLine_eq
  refine(?_:let G_:Prop:=_;G_)
  intro G_
  obtain⟨dp,c,sv,pv,xs,hp,co,jv,rp,m3,al⟩:=pl.ex
  dsimp only[G_]
  have xl:=al.length
  simp_all only[cW]
  refine⟨rfl,_,_,_,hp,T.a4,T.na_Play_trail,_,yd,tl,rfl,⟨_,bI.of m3⟩,?_⟩
  have S:Src (yJ K tl) (aD H) xs.length _:=src_list (λH' s'=>bI.of (s' _ _ m3))
  rw[xl] at S
  refine eI tr (λe=>some (.str e.1)) S (λ_ _ _ _ h=>h.1) (by omega) ?_ ?_
  ·rintro i e x ee ⟨_,ex⟩ Y N y1 y2
   refine(?_:let G_:Prop:=_;G_)
   intro G_
   obtain⟨e',SJ,t,CK,yi,rfl,ht,_⟩:=al.get ex
   dsimp only[G_]
   rw[ee] at SJ
   cases SJ
   have ht:=aM _ _ ht
   unfold sS
   refine Dl ?_
   simp_all only[ht]
   exact y1 _ rfl
  ·intro D n1 n2
   rw[show tr.filterMap (λe=>some (V.str e.1))=(tr.map (·.1)).map V.str by rw[YZ,List.filterMap_eq_map'];rfl]
   refine⟨tr.map (λe:ju=>e.1),bI.of aj,?_,kk _ (aA n2)⟩
   refine joinOk_of (B:=20) (λy hy=>?_) (by rw[Yr,show(Str.ofString " ").length=1 by decide +kernel];omega)
   refine(?_:let G_:Prop:=_;G_)
   intro G_
   obtain⟨e,he,rfl⟩:=List.mem_map.mp hy
   dsimp only[G_]
   exact lw e he
noncomputable def hV (G H:Hp):Hp:=λa=>match G a with
 | some (.lst _)=>none
 | _=>H a
noncomputable def dr (G H:Hp):Prop:=∀a ys,G a=some (.lst ys)->∃zs,H a=some (.lst zs)
theorem dr.of {G H:Hp} (s:aD G H):dr G H:=λa ys e=>⟨ys,s _ _ e⟩
theorem dr.trans {G H K:Hp} (s:dr G H) (t:aD H K):dr G K:=λa ys e=>by
 obtain⟨zs,h⟩:=s a ys e
 exact⟨zs,t _ _ h⟩
set_option tactic.hygienic true in
theorem hX {G H:Hp} {a:Addr} (h:∀ys,G a≠some (.lst ys)):hV G H a=H a:=by
 unfold hV
 split
 ·rename_i e;exact absurd e (h _)
 ·rfl
theorem vU {G H:Hp} {a:Addr} {ys:List V} (h:G a=some (.lst ys)):hV G H a=none:=by
 unfold hV
 rw[h]
theorem rE {G H:Hp} {a:Addr} {o:HO} (h:hV G H a=some o):(∀ys,G a≠some (.lst ys))/\H a=some o:=by
 by_cases c:∃ys,G a=some (.lst ys)
 ·obtain⟨ys,e⟩:=c
  rw[vU e] at h
  cases h
 ·have c:∀ys,G a≠some (.lst ys):=λys e=>c ⟨ys,e⟩
  rw[hX c] at h
  exact⟨c,h⟩
theorem uQ {G H H':Hp} (s:aD H H'):aD (hV G H) (hV G H'):=λa o e=>by
 obtain⟨c,h⟩:=rE e
 rw[hX c]
 exact s _ _ h
theorem EG {G H:Hp}:aD (hV G H) H:=λa o e=>(rE e).2
theorem yk {G G' H:Hp} (s:dr G G'):aD (hV G' H) (hV G H):=λa o e=>by
 obtain⟨c,h⟩:=rE e
 rw[hX (λys k=>by obtain⟨zs,z⟩:=s a ys k;exact c zs z)]
 exact h
theorem iN {G H:Hp} {l:Addr} {ys:List V} {o:HO} (e:G l=some (.lst ys)):hV G (upd H l o)=hV G H:=by
 funext a
 by_cases c:∃ys,G a=some (.lst ys)
 ·obtain⟨zs,z⟩:=c
  rw[vU z,vU z]
 ·have c:∀ys,G a≠some (.lst ys):=λys e=>c ⟨ys,e⟩
  rw[hX c,hX c,aw (λz=>by rw[z] at c;exact c ys e)]
noncomputable def di (G H:Hp) (d:Dat) (v:V):Prop:=Rep (hV G H) d v
noncomputable def cN (G H:Hp) (ds:List Dat) (vs:List V):Prop:=a8 (hV G H) ds vs
theorem di.mono {G H H':Hp} {d:Dat} {v:V} (s:aD H H') (h:di G H d v):di G H' d v:=Rep.mono (uQ s) h
theorem cN.mono {G H H':Hp} {ds:List Dat} {vs:List V} (s:aD H H') (h:cN G H ds vs):cN G H' ds vs:=a8.mono (uQ s) h
theorem di.low {G G' H:Hp} {d:Dat} {v:V} (s:dr G G') (h:di G' H d v):di G H d v:=Rep.mono (yk s) h
theorem cN.low {G G' H:Hp} {ds:List Dat} {vs:List V} (s:dr G G') (h:cN G' H ds vs):cN G H ds vs:=a8.mono (yk s) h
theorem cN.rep {G H:Hp} {ds:List Dat} {vs:List V} (h:cN G H ds vs):a8 H ds vs:=a8.mono EG h
theorem bS {G H:Hp} {x:Str}:di G H (.str x) (.str x):=aN.mpr rfl
theorem dA {G H:Hp} {k:Int}:di G H (.int k) (.int k):=bw.mpr rfl
theorem Ky {G H:Hp}:di G H .cP .cP:=by unfold di;rw[Rep]
theorem fR {G H:Hp}:cN G H [] []:=bD.mpr rfl
theorem bV {G H:Hp} {d:Dat} {ds:List Dat} {v:V} {vs:List V} (h:di G H d v) (k:cN G H ds vs):cN G H (d::ds) (v::vs):=aR.mpr ⟨_,_,rfl,h,k⟩
theorem vV {G H:Hp} {p:Addr} {ds:List Dat} {vs:List V} (n:G p=none) (h:H p=some (.lst vs)) (r:cN G H ds vs):di G H (.lst ds) (.ref p):=a7.mpr ⟨p,vs,rfl,by rw[hX (λys e=>by rw[n] at e;cases e)];exact h,r⟩
theorem rF {G H:Hp} (s:dr G H) {p:Addr} {ds:List Dat} {vs:List V} (h:H p=some (.tup vs)) (r:cN G H ds vs):di G H (.tup ds) (.ref p):=jj.mpr ⟨p,vs,rfl,by rw[hX (λys e=>by obtain⟨zs,z⟩:=s _ _ e;rw[h] at z;cases z)];exact h,r⟩
theorem ym {G H:Hp} (s:dr G H) {p:Addr} {a b:Dat} {x y:V} (h:H p=some (.tup [x,y])) (ha:di G H a x) (hb:di G H b y):di G H (.tup [a,b]) (.ref p):=rF s h (bV ha (bV hb fR))
theorem Aa {G H:Hp} (s:dr G H) {p:Addr} {a b c:Dat} {x y z:V} (h:H p=some (.tup [x,y,z])) (ha:di G H a x) (hb:di G H b y) (hc:di G H c z):di G H (.tup [a,b,c]) (.ref p):=rF s h (bV ha (bV hb (bV hc fR)))
theorem Kz {G H:Hp} (s:dr G H) {p:Addr} {a b c d:Dat} {x y z u:V} (h:H p=some (.tup [x,y,z,u])) (ha:di G H a x) (hb:di G H b y) (hc:di G H c z) (hd:di G H d u):di G H (.tup [a,b,c,d]) (.ref p):=rF s h (bV ha (bV hb (bV hc (bV hd fR))))
theorem p7 {G H:Hp} {d:Dat} {v:V} (h:di G H d v) {ds:List Dat} {vs:List V} (k:cN G H ds vs):cN G H (ds++ [d]) (vs++ [v]):=a8.append k (aR.mpr ⟨_,_,rfl,h,bD.mpr rfl⟩)
noncomputable def EH (w:Str):Prop:=0<w.length/\w.length<=8/\f6 (.str w)=true/\∀c∈w.cps.toList,97<=c/\c<=122
noncomputable def CM:Dd->Prop
 | .set _ k=>0<=k
 | .plus _ k=>0<=k
 | _=>True
noncomputable def Hg (cs:List (Str×Int)):Option (Str×Str×Int)->Prop
 | none=>True
 | some (n,x,_)=>n∈cs.map (·.1)/\(x=Str.ofString "from"\/x=Str.ofString "below")
noncomputable def mC (cs:List (Str×Int)) (gs:List Str):Wt->Prop
 | .ask _ _ _ _=>False
 | .fin t b=>b=1/\-9<=t/\t<=9
 | .score c=>c∈cs.map (·.1)
 | .pick _ rs=>(rs.length<=4/\(∃z,∀r∈rs,r.word.length=z)/\∃r∈rs,r.wh=none)/\(rs.map (·.word)).Nodup/\∀r∈rs,EH r.word/\Hg cs r.wh/\r.to∈gs/\∀d∈r.ds,CM d
 | .d7 dD t b rs=>∃ps,dD=ps.map vE/\oS ps/\kb 20 (t,b)/\(∀v∈iG ps,0<=v/\v<=1000/\∃r,xW rs v=some r)/\∀r∈rs,r.2.2.2∈gs/\∀d∈r.2.2.1,CM d
structure LF (g:Gm) (gs:List Str):Prop where
 good:GoodG g
 most:∀c∈g.cs,0<=c.2/\c.2<=1000
 hs:∀p∈g.ps,EH p.1
 hd:∃f∈gs,(g.ps.map (·.1)).head?=some f
 to:∀nm∈gs,∀ns,∃e8 x,dE g ns 3 nm=some e8/\look g.ps e8=some x/\mC g.cs gs x
structure vW (g:Gm) (gs:List Str) (st:fE):Prop where
 len:st.2.length=g.cs.length
 nn:∀n∈st.2,0<=n/\n<=1000
 at_:∃x,look g.ps st.1=some x/\mC g.cs gs x
noncomputable def Ab (g:Gm) (st:fE) (d:Dat) (w:Str) (py:Int×Int) (eK:fE):Prop:=
 (∃AZ rs r,look g.ps st.1=some (.pick AZ rs)/\(rs.map (·.word)).Nodup/\(d9 g.cs st.2 (.pick AZ rs)).find? (λr=>decide (r.word=w))=some r/\d=.str w/\py=(0,1)/\eK.2=r.ds.foldl (ix g.cs 0) st.2/\dE g eK.2 3 r.to=some eK.1)\/
 (∃ps t b rs r v,look g.ps st.1=some (.d7 (ps.map vE) t b rs)/\oS ps/\v∈iG ps/\0<=v/\v<=1000/\d=.int v/\w=Str.ofString (toString v)/\py=(t,b)/\xW rs v=some r/\eK.2=r.2.2.1.foldl (ix g.cs v) st.2/\dE g eK.2 3 r.2.2.2=some eK.1)
noncomputable def KA (K:PySem.W.Frag):Sp:=λvs H Q _=>∃a ns k,vs=[.ref a,.int k]/\bI K H a (List.map V.int ns)/\0<=k/\k<1000/\∀n,Q (.int n) H
noncomputable def bQ (c m:Int):Int:=c % 2^64*11400714819323198485 % 2^64 / 2^11 % m
theorem cg {c m:Int} (h:0<m):0<=bQ c m:=Int.emod_nonneg _ (by omega)
theorem cH {c m:Int} (h:0<m):bQ c m<m:=Int.emod_lt_of_pos _ h
noncomputable def bK:Sp:=λvs H Q _=>∃c m,vs=[.int c,.int m]/\0<m/\Q (.int (bQ c m)) H
noncomputable def EI:Sp:=λvs H Q _=>∃a b,vs=[.int a,.int b]/\0<b/\Bt 8900 b/\∀p H',aD H H'->H p=none->H' p=some (.tup (Pr (Nm.st a b) (Nm.sb a b)))->Q (.ref p) H'
noncomputable def iO (sg:Nat->Int) (size:Nat):Str:=⟨((List.range size).map λj:Nat=>97+ (sg j).toNat).toArray⟩
theorem EJ (sg:Nat->Int) (j:Nat):iO sg (j+1)=iO sg j++ (⟨#[97+ (sg j).toNat]⟩:Str):=by
 unfold iO
 rw[List.range_succ,Yx]
 show(⟨(_++ [_]).toArray⟩:Str)=⟨_++#[_]⟩
 congr 1
 simp
theorem p8 (sg:Nat->Int) (j:Nat):(iO sg j).length=j:=by
 unfold iO Str.length
 simp
theorem KC {x:Int} (h:0<=x) (h':x<26):lJ (Str.ofString "abcdefghijklmnopqrstuvwxyz").cps.toList x=some (97+x.toNat):=by
 have hh:∀i∈List.range 26,(Str.ofString "abcdefghijklmnopqrstuvwxyz").cps.toList[i]?=some (97+i):=by decide +kernel
 have e:x=((x.toNat:Nat):Int):=by omega
 have:=hh x.toNat (List.mem_range.mpr (by omega))
 rw[e,YL]
 exact bP this
theorem KD {sg:Nat->Int} {size:Nat} (h1:1<=size) (h8:size<=8) (h:∀j,0<=sg j/\sg j<26):EH (iO sg size):=by
 have m:∀c∈(iO sg size).cps.toList,97<=c/\c<=122:=λc hc=>by
  obtain⟨j,_,rfl⟩:=List.mem_map.mp (show c∈(List.range size).map λj:Nat=>97+ (sg j).toNat from hc)
  have:=h j
  omega
 refine⟨by rw[p8];omega,by rw[p8];omega,?_,m⟩
 rw[f6,PyData.canLay0]
 unfold PyData.strOk
 rw[<-Array.all_toList]
 simp only[List.all_eq_true,decide_eq_true_eq]
 intro x hx
 have:=m x hx
 omega
theorem KE {sg Om:Nat->Int} {size j:Nat} (hj:j<size) (h:0<=sg j) (h':0<=Om j) (ne:sg j≠Om j):iO sg size≠iO Om size:=λe=>by
 have e:=congrArg (λs:Str=>s.cps.toList[j]?) e
 unfold iO at e
 simp only[Yu] at e
 rw[List.getElem?_range hj] at e
 have e:97+ (sg j).toNat=97+ (Om j).toNat:=YM e
 omega
noncomputable def Ct (c sp sm:Int) (k j:Nat):Int:=if (j:Int)=sp then (bQ (c+4) 26+5* (k:Int)) % 26 else bQ (c+31* (j:Int)+977* (k:Int)* (1 - sm)+3) 26
theorem Hh (c sp sm:Int) (k j:Nat):0<=Ct c sp sm k j/\Ct c sp sm k j<26:=by
 unfold Ct
 split
 ·omega
 ·exact⟨cg (by decide),cH (by decide)⟩
theorem EK {c sp sm:Int} {n size:Nat} (h0:0<=sp) (h1:sp< (size:Int)) (hn:n<=12):((List.range n).map λk:Nat=>iO (Ct c sp sm k) size).Nodup:=by
 unfold List.Nodup
 rw[List.pairwise_map]
 refine List.Pairwise.imp_of_mem ?_ (List.nodup_range (n:=n))
 intro i j hi hj ne
 have hi:=List.mem_range.mp hi
 have hj:=List.mem_range.mp hj
 refine KE (j:=sp.toNat) (by omega) (Hh ..).1 (Hh ..).1 ?_
 unfold Ct
 rw[if_pos (by omega),if_pos (by omega)]
 have b0:=cg (c:=c+4) (m:=26) (by decide)
 have b1:=cH (c:=c+4) (m:=26) (by decide)
 omega
noncomputable def yn:Sp:=λvs H Q _=>∃(c n:Int),vs=[.int c,.int n]/\0<=n/\n<=12/\∀(l:Addr) (H':Hp) (ws:List Str),aD H H'->H l=none->H' l=some (.lst (ws.map V.str))->ws.length=n.toNat->ws.Nodup->(∀w∈ws,EH w)->(∃z,∀w∈ws,w.length=z)->Q (.ref l) H'
theorem uR:∀{l:List Str} {x:Str} {j:Nat},j<l.idxOf x->l[j]?≠some x
 | [],_,_,h=>by simp at h
 | y::l,x,j,h=>by
  rw[List.idxOf_cons] at h
  by_cases c:y=x
  ·rw[c,beq_self_eq_true] at h;exact absurd h (Nat.not_lt_zero _)
  ·rw[beq_false_of_ne c] at h
   cases j with
   | zero=>simpa using c
   | succ j=>rw[List.getElem?_cons_succ];exact uR (l:=l) (Nat.lt_of_succ_lt_succ h)
theorem EL (l:List Str):(l.map Dat.str).map toP=l.map PyData.str:=by
 rw[YZ]
 exact List.map_congr_left λa _=>by show toP (.str a)=_;rw[toP]
theorem KG {l:List Str} {x:Str} (h:x∈l):((l.map Dat.str).map toP)[l.idxOf x]?=some (toP (.str x))/\∀j,j<l.idxOf x->((l.map Dat.str).map toP)[j]?≠some (toP (.str x)):=by
 have hl:=List.idxOf_lt_length_of_mem h
 rw[EL,show toP (.str x)=PyData.str x by rw[toP]]
 refine⟨by rw[Yu,Yw hl,List.getElem_idxOf];rfl,λj hj e=>?_⟩
 rw[Yu] at e
 obtain⟨y,ey,e⟩:=Option.map_eq_some_iff.mp e
 injection e with e
 exact uR hj (e▸ey)
noncomputable def Kx (n:Nat) (d:Dat):Prop:=vk (toP d)=true/\(toP d).depth<=n
theorem KH {n:Nat} {x:Str} (h:f6 (.str x)=true):Kx n (.str x):=by
 rw[f6] at h
 unfold Kx
 rw[toP,vk,PyData.depth]
 exact⟨h,YD _⟩
noncomputable def yo:Sp:=λvs H Q _=>∃(c:Int) (cl:Addr) (fh:Str) (th:Bool) (cs:List (Str×Int)),vs=[.int c,.ref cl,.str fh,.bl th]/\Rep H (Ob cs) (.ref cl)/\cs.length<=3/\fh∈cs.map (·.1)/\(cs.map (·.1)).Nodup/\(∀x∈cs,EH x.1)/\∀(l:Addr) (H':Hp) (ds:List Dd),aD H H'->H l=none->di H H' (.lst (ds.map Bb)) (.ref l)->ds.length<=3->(∀d∈ds,fL cs d/\CM d)->Q (.ref l) H'
noncomputable def uS:Sp:=λvs H Q _=>∃(c:Int) (cl:Addr) (fh:Str) (gl:Addr) (cs:List (Str×Int)) (gs:List Str),vs=[.int c,.ref cl,.str fh,.ref gl]/\Rep H (Ob cs) (.ref cl)/\cs.length<=3/\fh∈cs.map (·.1)/\(cs.map (·.1)).Nodup/\(∀x∈cs,EH x.1)/\H gl=some (.lst (List.map V.str gs))/\0<gs.length/\gs.length<=3/\∀u H' x,aD H H'->di H H' (kK x) u->mf cs x->mC cs gs x->Q u H'
noncomputable def EM (K:PySem.W.Frag):Sp:=λvs H Q _=>∃s ns at_ tu mo,vs=[.ref s,.int at_,.int tu,.int mo]/\bI K H s (List.map V.int ns)/\0<=at_/\at_<=100/\1<=tu/\tu<=100/\1<=mo/\mo<=100/\∀u H' g gs,aD H H'->Rep H' (zN g) u->LF g gs->Q u H'
noncomputable def EN:Sp:=λvs H Q _=>∃v ps,vs=[v]/\Rep H (.lst (ps.map vE)) v/\oS ps/\∀l H',aD H H'->H l=none->H' l=some (.lst ((iG ps).map V.int))->Q (.ref l) H'
noncomputable def gP:Sp:=λvs H Q _=>∃gv nm g x,vs=[gv,.str nm]/\Rep H (zN g) gv/\GoodG g/\look g.ps nm=some x/\∀u H',aD H H'->Rep H (kK x) u->Q u H'
theorem uT {H:Hp} {nm:Str}:∀{ps:List (Str×Wt)} {En:List V},a8 H (ps.map λp=>Dat.tup [.str p.1,kK p.2]) En->∃us:List V,us.length=ps.length/\(∀(i:Nat) p u,ps[i]?=some p->us[i]?=some u->∃q,En[i]?=some (.ref q)/\H q=some (.tup [.str p.1,u]))/\∀x,look ps nm=some x->∃u r,((us.zip ps).filterMap λy=>if y.2.1=nm then some y.1 else none)=u::r/\Rep H (kK x) u
 | [],_,h=>⟨[],rfl,(λi p u e=>by simp at e),λx e=>by cases e⟩
 | p::ps,En,h=>by
  obtain⟨v,r,rfl,h1,h2⟩:=aR.mp (show a8 H (Dat.tup [.str p.1,kK p.2]::ps.map λp=>Dat.tup [.str p.1,kK p.2]) En from h)
  obtain⟨q,a,b,rfl,hq,r1,r2⟩:=bJ.mp h1
  rw[aN.mp r1] at hq
  obtain⟨us,e1,e2,e3⟩:=uT h2
  refine⟨b::us,by rw[YC,YC,e1],λi p' u ep eu=>?_,λx ex=>?_⟩
  ·cases i with
   | zero=>cases ep;cases eu;exact⟨q,rfl,hq⟩
   | succ i=>exact e2 i p' u ep eu
  ·rw[List.zip_cons_cons,Y6]
   by_cases c:p.1=nm
   ·rw[if_pos c]
    have:look (p::ps) nm=some p.2:=by unfold look;rw[List.find?_cons_of_pos (by simpa using c)];rfl
    rw[this] at ex
    cases ex
    exact⟨b,_,rfl,r2⟩
   ·rw[if_neg c]
    exact e3 x (by unfold look at *;rwa [List.find?_cons_of_neg (by simpa using c)] at ex)
theorem yp {nm:Str}:∀{cs:List (Str×Int)} {ns:List Int},ns.length=cs.length->nm∈cs.map (·.1)->∃r,((cs.zip ns).filterMap λy=>if y.1.1=nm then some y.2 else none)=ns.getD (bF cs nm) 0::r
 | [],_,_,h=>by simp at h
 | c::cs,[],l,_=>by simp at l
 | c::cs,k::ns,l,h=>by
  rw[List.zip_cons_cons,Y6]
  by_cases e:c.1=nm
  ·have s0:bF (c::cs) nm=0:=by unfold bF;rw[Ys,e,List.idxOf_cons_self]
   rw[if_pos e,s0]
   exact⟨_,rfl⟩
  ·have s1:bF (c::cs) nm=bF cs nm+1:=by unfold bF;rw[Ys,List.idxOf_cons,beq_false_of_ne e];rfl
   rw[if_neg e,s1]
   exact yp (cs:=cs) (ns:=ns) (by simpa using l) (by simpa [Ne.symm e] using h)
noncomputable def wL:List Pt->Int
 | []=>0
 | .num m::r=>(m:Int)+wL r
 | .cO k _::r=>(k:Int)+wL r
noncomputable def wM:List Pt->Int
 | []=>0
 | .num m::r=>(m:Int)+wM r
 | .cO k s::r=>(k:Int)* (s:Int)+wM r
theorem vX (p:Pt):∀ps,wL (ps++ [p])=wL ps+ (match p with | .num m=>(m:Int) | .cO k _=>(k:Int))
 | []=>by cases p <;>exact Int.add_comm _ _
 | .num m::ps=>by rw[Y5,wL,wL,vX p ps,Int.add_assoc]
 | .cO k s::ps=>by rw[Y5,wL,wL,vX p ps,Int.add_assoc]
theorem vY (p:Pt):∀ps,wM (ps++ [p])=wM ps+ (match p with | .num m=>(m:Int) | .cO k s=>(k:Int)* (s:Int))
 | []=>by cases p <;>exact Int.add_comm _ _
 | .num m::ps=>by rw[Y5,wM,wM,vY p ps,Int.add_assoc]
 | .cO k s::ps=>by rw[Y5,wM,wM,vY p ps,Int.add_assoc]
noncomputable def rG:Sp:=λvs H Q _=>∃gv l nm g ns,vs=[gv,.ref l,.str nm]/\Rep H (zN g) gv/\GoodG g/\H l=some (.lst (List.map V.int ns))/\ns.length=g.cs.length/\nm∈g.cs.map (·.1)/\∀H',aD H H'->Q (.int (ns.getD (bF g.cs nm) 0)) H'
noncomputable def uU:Sp:=λvs H Q _=>∃gv l nm g ns f e8,vs=[gv,.str nm,.ref l]/\Rep H (zN g) gv/\GoodG g/\H l=some (.lst (List.map V.int ns))/\ns.length=g.cs.length/\dE g ns f nm=some e8/\∀a l' H',aD H H'->H a=none->H l'=none->H' a=some (.tup [.str e8,.ref l'])->H' l'=some (.lst (List.map V.int ns))->Q (.ref a) H'
noncomputable def zK:List (Str×Int)->List Int->List (Key×V)
 | c::cs,n::ns=>(Sum.inr c.1,V.int n)::zK cs ns
 | _,_=>[]
theorem vZ {n:Str}:∀{cs:List (Str×Int)} {ns:List Int},ns.length=cs.length->n∈cs.map (·.1)->dt (zK cs ns) (Sum.inr n)=some (.int (ns.getD (bF cs n) 0))
 | [],_,_,h=>by simp at h
 | c::cs,[],l,_=>by simp at l
 | c::cs,k::ns,l,h=>by
  rw[zK]
  by_cases e:c.1=n
  ·rw[gD (by rw[e])]
   have:bF (c::cs) n=0:=by unfold bF;rw[Ys,e,List.idxOf_cons_self]
   rw[this]
   rfl
  ·rw[dY (λz=>e (by injection z)),vZ (cs:=cs) (ns:=ns) (by simpa using l) (by simpa [Ne.symm e] using h)]
   have:bF (c::cs) n=bF cs n+1:=by unfold bF;rw[Ys,List.idxOf_cons,beq_false_of_ne e];rfl
   rw[this]
   rfl
theorem p9:∀{cs:List (Str×Int)} {ns:List Int},ns.length=cs.length->(zK cs ns).map (·.1)=cs.map λc=>(Sum.inr c.1:Key)
 | [],[],_=>rfl
 | [],_::_,l=>by simp at l
 | c::cs,[],l=>by simp at l
 | c::cs,k::ns,l=>by rw[zK,Ys,Ys,p9 (by simpa using l)]
theorem wa (c:Str×Int) (k:Int):∀{cs:List (Str×Int)} {ns:List Int},ns.length=cs.length->zK (cs++ [c]) (ns++ [k])=zK cs ns++ [(Sum.inr c.1,V.int k)]
 | [],[],_=>rfl
 | [],_::_,l=>by simp at l
 | d::cs,[],l=>by simp at l
 | d::cs,n::ns,l=>by rw[Y5,Y5,zK,wa c k (by simpa using l),zK];rfl
theorem wb {n:Str}:∀{cs:List (Str×Int)} {ns:List Int},n∉cs.map (·.1)->dt (zK cs ns) (Sum.inr n)=none
 | [],_,_=>rfl
 | c::cs,[],_=>rfl
 | c::cs,k::ns,h=>by rw[zK,dY (λz=>h (by injection z with z;simp [z])),wb (λz=>h (by rw[Ys];exact Yz _ z))]
theorem Ac {n:Str} {k:Int}:∀{cs:List (Str×Int)} {ns:List Int},(cs.map (·.1)).Nodup->ns.length=cs.length->n∈cs.map (·.1)->putK (zK cs ns) (Sum.inr n) (.int k)=zK cs (ns.set (bF cs n) k):=by
 intro cs ns nd l h
 have an:∀{cs:List (Str×Int)} {ns:List Int},ns.length=cs.length->n∈cs.map (·.1)->((zK cs ns).any λkv=>decide (kv.1=(Sum.inr n:Key)))=true:=λ{cs ns} l h=>by
  rw[List.any_eq_true]
  have:(Sum.inr n:Key)∈(zK cs ns).map (·.1):=by
   rw[p9 l]
   obtain⟨c,hc,rfl⟩:=List.mem_map.mp h
   exact List.mem_map.mpr ⟨c,hc,rfl⟩
  obtain⟨x,hx,e⟩:=List.mem_map.mp this
  exact⟨x,hx,by simp [e]⟩
 unfold putK
 rw[if_pos (an l h)]
 have mp:∀{cs:List (Str×Int)} {ns:List Int},(cs.map (·.1)).Nodup->ns.length=cs.length->(zK cs ns).map (λkv=>if kv.1=(Sum.inr n:Key) then (kv.1,V.int k) else kv)=zK cs (ns.set (bF cs n) k):=by
  intro cs
  induction cs with
  | nil=>intro ns _ _;cases ns <;>rfl
  | cons c cs ih=>
   intro ns nd l
   cases ns with
   | nil=>simp at l
   | cons m ns=>
    rw[Ys,List.nodup_cons] at nd
    rw[zK,Ys]
    by_cases e:c.1=n
    ·have s0:bF (c::cs) n=0:=by unfold bF;rw[Ys,e,List.idxOf_cons_self]
     rw[if_pos (by rw[e]),s0,YT,zK]
     congr 1
     refine(List.map_congr_left λx hx=>?_).trans (List.map_id _)
     rw[if_neg]
     ·rfl
     ·intro z
      have:x.1∈(zK cs ns).map (·.1):=List.mem_map.mpr ⟨x,hx,rfl⟩
      rw[p9 (by simpa using l),z] at this
      obtain⟨c',NS,e'⟩:=List.mem_map.mp this
      injection e' with e'
      exact nd.1 (by rw[e,<-e'];exact List.mem_map.mpr ⟨c',NS,rfl⟩)
    ·have s1:bF (c::cs) n=bF cs n+1:=by unfold bF;rw[Ys,List.idxOf_cons,beq_false_of_ne e];rfl
     rw[if_neg (λz=>e (by injection z)),s1,YU,zK,ih nd.2 (by simpa using l)]
 exact mp nd l
theorem Ad {cs:List (Str×Int)} {ns:List Int} (l:ns.length=cs.length):(zK cs ns).length=cs.length:=by
 have:=congrArg List.length (p9 l)
 rwa [Yr,Yr] at this
theorem wc {ns:List Int} {i:Nat} (h:i<ns.length):ns.getD i 0=ns[i]:=by rw[Za,Yw h];rfl
theorem EO {cs:List (Str×Int)} {ns:List Int} (nd:(cs.map (·.1)).Nodup) (l:ns.length=cs.length):cs.map (λc=>ns.getD (bF cs c.1) 0)=ns:=by
 refine List.ext_getElem (by rw[Yr,l]) λi h1 h2=>?_
 rw[Yr] at h1
 rw[List.getElem_map]
 have e:bF cs (cs[i]).1=i:=by
  have h3:i< (cs.map (·.1)).length:=by rw[Yr];exact h1
  have h4:(cs.map (·.1)).idxOf (cs[i]).1< (cs.map (·.1)).length:=List.idxOf_lt_length_of_mem (List.mem_map.mpr ⟨_,YV h1,rfl⟩)
  have h5:(cs.map (·.1))[(cs.map (·.1)).idxOf (cs[i]).1]=(cs.map (·.1))[i]:=by rw[List.getElem_idxOf,List.getElem_map]
  exact(List.getElem_inj nd).mp h5
 rw[e,wc h2]
noncomputable def Bq:Sp:=λvs H Q _=>∃(gv:V) (l:Addr) (dv:V) (v:Int) (g:Gm) (ns:List Int) (ds:List Dd),vs=[gv,.ref l,dv,.int v]/\Rep H (zN g) gv/\GoodG g/\H l=some (.lst (List.map V.int ns))/\ns.length=g.cs.length/\Rep H (.lst (List.map Bb ds)) dv/\ds.length<=100/\(∀d∈ds,fL g.cs d)/\∀l' H',aD H H'->H l'=none->H' l'=some (.lst ((ds.foldl (ix g.cs v) ns).map V.int))->Q (.ref l') H'
noncomputable def ER:Sp:=λvs H Q _=>∃gv l wv g ns wh,vs=[gv,.ref l,wv]/\Rep H (zN g) gv/\GoodG g/\H l=some (.lst (List.map V.int ns))/\ns.length=g.cs.length/\Rep H (J3 wh) wv/\Hg g.cs wh/\∀H',aD H H'->Q (.bl (kL g.cs ns wh)) H'
noncomputable def uV:Sp:=λvs H Q _=>∃(gv sv:V) (g:Gm) (gs:List Str) (st:fE) (x:Wt),vs=[gv,sv]/\Rep H (zN g) gv/\GoodG g/\qV H sv st.1 st.2/\st.2.length=g.cs.length/\look g.ps st.1=some x/\mC g.cs gs x/\∀a H' ds,aD H H'->H a=none->Rep H' (.lst ds) (.ref a)->Ik g st x ds->Q (.ref a) H'
theorem Br {w:Str} {r:Rw}:∀{rs:List Rw},(rs.map (·.word)).Nodup->r∈rs->r.word=w->∃q,(rs.filter λx=>decide (x.word=w))=r::q
 | [],_,h,_=>by cases h
 | a::rs,nd,h,e=>by
  rw[Ys,List.nodup_cons] at nd
  rcases List.mem_cons.mp h with z | z
  ·rw[<-z,List.filter_cons_of_pos (by simpa using e)]
   exact⟨_,rfl⟩
  ·have:a.word≠w:=λx=>nd.1 (by rw[x,<-e];exact List.mem_map.mpr ⟨r,z,rfl⟩)
   rw[List.filter_cons_of_neg (by simpa using this)]
   exact Br nd.2 z e
noncomputable def ES:Sp:=λvs H Q _=>∃(gv sv dv:V) (g:Gm) (st:fE) (d:Dat) (w:Str) (py:Int×Int) (eK:fE),vs=[gv,sv,dv]/\Rep H (zN g) gv/\GoodG g/\qV H sv st.1 st.2/\st.2.length=g.cs.length/\Rep H d dv/\Ab g st d w py eK/\∀a l H',aD H H'->H a=none->H l=none->H' a=some (.tup [.str eK.1,.ref l])->H' l=some (.lst (List.map V.int eK.2))->Q (.ref a) H'
noncomputable def KI:Wt->Int×Int
 | .d7 _ t b _=>(t,b)
 | _=>(0,1)
noncomputable def ET:Sp:=λvs H Q _=>∃(gv sv:V) (g:Gm) (st:fE) (x:Wt),vs=[gv,sv]/\Rep H (zN g) gv/\GoodG g/\qV H sv st.1 st.2/\look g.ps st.1=some x/\∀u H',aD H H'->Rep H' (dq (KI x)) u->Q u H'
noncomputable def EU:Sp:=λvs H Q _=>∃(gv sv pv:V) (g:Gm) (st:fE) (pd:Int×Int) (x:Wt),vs=[gv,sv,pv]/\Rep H (zN g) gv/\GoodG g/\qV H sv st.1 st.2/\st.2.length=g.cs.length/\look g.ps st.1=some x/\Rep H (dq pd) pv/\kb 100000 pd/\(∀w,zO g.cs st.2 x=some w->kb 100000 w)/\∀u H',aD H H'->Rep H' (dq (Ex g st pd x)) u->Q u H'
abbrev Ent:=fE×(Int×Int)×Str
noncomputable def Hi (X:Hp) (e:Ent) (v:V):Prop:=∃t sv pv,v=.ref t/\X t=some (.tup [sv,pv,.str e.2.2])/\qV X sv e.1.1 e.1.2/\Rep X (dq e.2.1) pv
theorem Hi.mono {X X':Hp} {e:Ent} {v:V} (s:aD X X') (h:Hi X e v):Hi X' e v:=by
 obtain⟨t,sv,pv,e1,h1,h2,r⟩:=h
 exact⟨t,sv,pv,e1,s _ _ h1,h2.mono s,r.mono s⟩
noncomputable def ents (tr:List ju) (st:fE) (pd:Int×Int):List Ent:=(tr.mapIdx λi e=>(e.2.1,e.2.2,dI (tr.take i)))++ [(st,pd,dI tr)]
noncomputable def Hj (w:Str):Prop:=0<w.length/\w.length<=20/\f6 (.str w)=true
noncomputable def Bs (qP qC:Addr):Sp:=λvs H Q _=>∃(p:Addr) (gv:V) (t tl tb:Addr) (L:List Addr) (g:Gm) (gs:List Str) (st:fE) (pd:Int×Int) (tr:List ju) (xs:List V),vs=[.ref p,gv,.ref t]/\cL qP qC L H p tl tb g st pd tr/\Rep (bE L H) (zN g) gv/\LF g gs/\vW g gs st/\kb 10000 pd/\tr.length<=200/\(∀e∈tr,Hj e.1)/\H t=some (.lst xs)/\xs.length<=201/\t≠tl/\Al (Hi (bE L H)) (ents tr st pd) xs/\∀H',K3 p tl tb H H'->cL qP qC L H' p tl tb g st pd tr->Q (.bl true) H'
noncomputable def Bu (qP qC:Addr):Sp:=λvs H Q _=>∃(p:Addr) (gv:V) (t:Addr) (dv:V) (tl tb:Addr) (L:List Addr) (g:Gm) (gs:List Str) (st:fE) (pd:Int×Int) (tr:List ju) (xs:List V) (d:Dat) (w:Str) (py:Int×Int) (eK:fE),vs=[.ref p,gv,.ref t,dv]/\cL qP qC L H p tl tb g st pd tr/\Rep (bE L H) (zN g) gv/\LF g gs/\vW g gs st/\kb 10000 pd/\kb 20 py/\tr.length<200/\(∀e∈tr,Hj e.1)/\Hj w/\t∈L/\H t=some (.lst xs)/\t≠tl/\Al (Hi (bE L H)) (ents tr st pd) xs/\Rep H d dv/\Ab g st d w py eK/\
 ∀H' ys,(∀a o,a≠p->a≠tl->a≠tb->a≠t->H a=some o->H' a=some o)->cL qP qC L H' p tl tb g eK (Wq.pl pd py) (tr++ [(w,st,pd)])->H' t=some (.lst ys)->Al (Hi (bE L H')) (ents (tr++ [(w,st,pd)]) eK (Wq.pl pd py)) ys->Q .cP H'
theorem mD:aT ["_law_script","_law_k","_law_number_here"] ["_law_script","_law_k"] (ar (top 39)):=⟨rfl,rfl,rfl,by decide +kernel,rfl,by decide +kernel,by decide +kernel⟩
theorem Bv (T:Txt K mg aE aF aB aH af av):bX P w K mg base (bg P w) 1 "_law_cell" ["_law_script","_law_k"] (KA K):=by
 refine T.xA.du (λ_ _ _ _ _ _=>eD λ_ _=>rfl) λf fd F=>F.d3 mD (λvs H Q E h=>?_) (λbT A outer s H vs Q E hr h=>?_)
 ·obtain⟨_,_,_,rfl,_⟩:=h;rfl
 ·refine(?_:let G_:Prop:=_;G_)
  intro G_
  obtain⟨a,ns,k,rfl,hS,k0,k1,kk⟩:=h
  dsimp only[G_]
  have nd:=mD.nd
  refine⟨_,(ah (bf (aL wX (pv 1) (aX (kA (K:=K)) (by rfl) T.z_len YH (aa (pv 0) ag (se rfl)) (he:=se rfl) (hpl:=na rfl)) (aS _)) (ao (aV (aq (uD (K:=K)) (pv 0) (pv 1) (λ_ _=>rfl))))
   aY)
  (ah (aI (i:=2) nd rfl (Or.inl rfl) (aG aO (aG ba (pv 1) ae) ae))
  (ah (bf (aL fY (aX (kA (K:=K)) (by rfl) T.z_len YH (aa (pv 0) ag (se rfl)) (he:=se rfl) (hpl:=na rfl)) ae (aS _)) (ao (aI (i:=2) nd rfl (Or.inl rfl) (aG aO (aG ba (aG dM (aq (uD (K:=K)) (pv 0) (aG dM (aG ba (pv 1) ae) (aX (kA (K:=K)) (by rfl) T.z_len YH (aa (pv 0) ag (se rfl)) (he:=se rfl) (hpl:=na rfl))) (λ_ _=>rfl)) ae) ae) (aG ba (aG ba (pv 1) (pv 1)) ae))))
   aY)
  (ao (aV (aG dM (aG ba (pv 2) (pv 2)) ae)))))),?_⟩
  refine(?_:let bM:TS:=_;let bN:TS:=_;let bO:TS:=_;let cM:TS:=_;tSeq bM (tSeq bN (tSeq bO cM)) _ _ _)
  intro bM bN bO cM
  simp_all only[Jp]
  have j2:k*k<=1000000:=Int.le_trans (Int.mul_le_mul (show k<=1000 by omega) (show k<=1000 by omega) k0 (by decide)) (by decide)
  have j3:0<=k*k:=Int.mul_nonneg k0 k0
  refine⟨ns,hS,gY (λc=>⟨ns,hS,k0,c,kk _⟩) (λc=>⟨bC (by omega) (by omega),ns,hS,gY (λz=>?_) (λz=>?_)⟩)⟩
  ·have m1:=Int.emod_nonneg (ns.getD (k*5 % (ns.length:Int)).toNat 0) (show(2147483647:Int)≠0 by decide)
   have m2:=Int.emod_lt_of_pos (ns.getD (k*5 % (ns.length:Int)).toNat 0) (show(0:Int)<2147483647 by decide)
   exact⟨bC (by omega) (by omega),ns,hS,z,ns,hS,Int.emod_nonneg _ (by omega),Int.emod_lt_of_pos _ z,by decide,Jo,bC (by omega) (by omega),bC (by omega) (by omega),bC (by omega) (by omega),by decide,kk _⟩
  ·exact⟨bC (by omega) (by omega),by decide,kk _⟩
theorem kg:aT ["_law_cell_here","_law_many"] ["_law_cell_here","_law_many"] (ar (top 40)):=⟨rfl,rfl,rfl,by decide +kernel,rfl,by decide +kernel,by decide +kernel⟩
theorem nV (T:Txt K mg aE aF aB aH af av):bX P w K mg base (bg P w) 1 "_law_mixed" ["_law_cell_here","_law_many"] bK:=by
 refine T.vx.du (λ_ _ _ _ _ _=>eD λ_ _=>rfl) λf fd F=>F.d3 kg (λvs H Q E h=>?_) (λbT A outer s H vs Q E hr h=>?_)
 ·obtain⟨_,_,rfl,_⟩:=h;rfl
 ·refine(?_:let G_:Prop:=_;G_)
  intro G_
  obtain⟨c,m,rfl,m0,kk⟩:=h
  dsimp only[G_]
  have nd:=kg.nd
  refine⟨_,(ao (aV (aG dM (aG lN (aG dM (aG ba (aG dM (pv 0) (aG yZ ae ae)) ae) (aG yZ ae ae)) (aG yZ ae ae)) (pv 1)))),?_⟩
  simp_all only[]
  have h1:=Int.emod_nonneg c (show((2:Int)^64)≠0 by decide)
  have h2:=Int.emod_lt_of_pos c (show(0:Int)<2^64 by decide)
  exact⟨by decide,by decide,by decide,by decide,bC (by omega) (by omega),by decide,by decide,by decide,by decide,by decide,by decide,by decide,lM.lit,m0,kk⟩
theorem o5:aT ["_law_top","_law_bottom","_law_one","_law_other"] ["_law_top","_law_bottom"] (ar (top 41)):=⟨rfl,rfl,rfl,by decide +kernel,rfl,by decide +kernel,by decide +kernel⟩
theorem KJ (T:Txt K mg aE aF aB aH af av):bX P w K mg base (bg P w) 1 "_law_low" ["_law_top","_law_bottom"] EI:=by
 refine T.zL.du (λ_ _ _ _ _ _=>eD λ_ _=>rfl) λf fd F=>F.d3 o5 (λvs H Q E h=>?_) (λbT A outer s H vs Q E hr h=>?_)
 ·obtain⟨_,_,rfl,_⟩:=h;rfl
 ·refine(?_:let G_:Prop:=_;G_)
  intro G_
  obtain⟨a,b,rfl,b0,bb,k⟩:=h
  dsimp only[G_]
  have nd:=o5.nd
  refine⟨_,(ah (aI (i:=2) nd rfl (Or.inl rfl) (aX qk (by rfl) T.z_abs rfl (aa (pv 0) ag (se rfl)) (he:=se rfl) (hpl:=na rfl)))
  (ah (aI (i:=3) nd rfl (Or.inl rfl) (pv 1))
  (ah (iz PassesOwn.never (aL fY (pv 3) ae (aS _)) (ao (IU (i:=2) (j:=3) rfl nd rfl rfl (by decide) rfl rfl (aa (pv 3) (aa (aG dM (pv 2) (pv 3)) ag (se rfl)) (se rfl)) rfl)))
  (ao (aV (a5 (aa (aG lN (pv 0) (pv 2)) (aa (aG lN (pv 1) (pv 2)) ag (se rfl)) (se rfl)))))))),?_⟩
  refine(?_:let bM:TS:=_;let bN:TS:=_;let bO:TS:=_;let cM:TS:=_;tSeq bM (tSeq bN (tSeq bO cM)) _ _ _)
  intro bM bN bO cM
  simp_all only[]
  refine wW (λσ H1=>H1=H/\∃x y:Int,σ=[some (.int a),some (.int b),some (.int x),some (.int y)]/\0<=x/\0<=y/\Nm.g x y=Nm.g a b) (λσ _=>match σ with | [_,_,_,some (.int y)]=>y.toNat | _=>0) ?_ ?_ ?_
  ·refine⟨rfl,_,_,rfl,?_,by omega,?_⟩
   ·split <;>omega
   ·rw[show(if a<0 then -a else a)=(a.natAbs:Int) by split <;>omega,Nm.Dr]
  ·intro σ H1 df
   refine(?_:let G_:Prop:=_;G_)
   intro G_
   obtain⟨rfl,x,y,rfl,x0,y0,e⟩:=df
   dsimp only[G_]
   simp_all only[]
   refine gY (λc=>?_) (λc=>?_)
   ·refine⟨c,y0,Int.emod_nonneg _ (by omega),by rw[Nm.Ds x0 c,e],?_⟩
    have:=Int.emod_lt_of_pos x c
    have:=Int.emod_nonneg x (show y≠0 by omega)
    omega
   ·have z:y=0:=by omega
    subst z
    rw[Nm.Dt x0] at e
    rw[e]
    have g0:0<Nm.g a b:=Nm.Dq (by omega)
    have gb:Bt 8900 (Nm.g a b):=bb.le (by have:=Nm.Mq (a:=a) b0;omega)
    obtain⟨e1,e2⟩:=Nm.Ju (a:=a) b0
    rw[e1,e2] at k
    exact⟨lM.of g0 gb,lM.of g0 gb,by decide,λp H2 s1 n1 e=>k p H2 s1 n1 e⟩
  ·intro σ H1 Q1 Q2 hq hc
   simp only[L2.start,Pr,tRev,tLR,tMaxD,tSortR,tD1,tDPop1,tSl,tNoPart,tPart,rSlL,tDIn,tDNotIn,gSub,rSetL,tLst,tDNewK,tComp,L2.stC,tFor_eq,iList,iTup,iRng1,iRng2,iZip,iEnum,iDict,iStr,tChain,tSumV,tBM,rJoin,tJoined,jNil,jLit,jInt,jStr,tRaise,tDGet,tDGet2,tDGet1,sDPut,Option.join_some,List.getElem?_nil,tSeq,tRet,tRetN,tIfS,tTest,tB,tOp,tUn,tVar,tC,tCB,tCons,tNil,tCall,tTupS,tAsg,gName,gNil,gCons,tPar,tNext,tDrop,tAnd,tOr,tNot,tAndV,tOrV,tNotV,tIf,rI,rI0,rU,rIxTH,rIxLH,rEqT,rNeT,rInT,rEq,rNe,scal_ss,scal_ii,scal_bb,scal_si,scal_is,CPow,at0,at1,at2,Ys,YX,YC,Y9,Nat.reduceSub,Nat.reduceAdd,Nat.zero_add,List.replicate_zero,List.reduceReplicate,List.append_nil,List.nil_append,Y5,List.getElem?_cons_zero,List.getElem?_cons_succ,YT,YU,Option.some.injEq,exists_eq_left',exists_eq_left,V.ref.injEq,V.int.injEq,V.bl.injEq,V.str.injEq,V.ty.injEq,HO.tup.injEq,HO.lst.injEq,List.cons.injEq,and_true,true_and,and_assoc,exists_and_left,decide_eq_true_eq,Bool.not_eq_true',decide_eq_false_iff_not,ite_true,ite_false,if_true,if_false,Int.reduceToNat,eq_self_iff_true] at hc ⊢
   refine(?_:let G_:Prop:=_;G_)
   intro G_
   obtain⟨v,e1,i,e2,q⟩:=hc
   dsimp only[G_]
   exact⟨v,e1,i,e2,hq _ _ q⟩
theorem mE:aT ["_law_one","_law_other"] ["_law_one","_law_other"] (ar (top 42)):=⟨rfl,rfl,rfl,by decide +kernel,rfl,by decide +kernel,by decide +kernel⟩
theorem EV (T:Txt K mg aE aF aB aH af av):bX P w K mg base (bg P w) 2 "_law_plus" ["_law_one","_law_other"] iL:=by
 have Ae:bX P w K mg base (bg P w) 1 "_law_low" ["_law_top","_law_bottom"] EI:=KJ T
 refine T.xB.du (λ_ _ _ _ _ _=>eD λ_ _=>rfl) λf fd F=>F.d3 mE (λvs H Q E h=>?_) (λbT A outer s H vs Q E hr h=>?_)
 ·obtain⟨_,_,_,_,rfl,_⟩:=h;rfl
 ·refine(?_:let G_:Prop:=_;G_)
  intro G_
  obtain⟨u,v,a,b,rfl,ra,rb,ha,hb,k⟩:=h
  dsimp only[G_]
  have nd:=mE.nd
  refine⟨_,(ao (aV (aK Ae (hr.mono (by decide)) rfl au.pass (aa (aG aO (aG ba (aq ai (pv 0) ae (λ_ _=>rfl)) (aq ai (pv 1) ae (λ_ _=>rfl))) (aG ba (aq ai (pv 1) ae (λ_ _=>rfl)) (aq ai (pv 0) ae (λ_ _=>rfl)))) (aa (aG ba (aq ai (pv 0) ae (λ_ _=>rfl)) (aq ai (pv 1) ae (λ_ _=>rfl))) ag (se rfl)) (se rfl)) (he:=se rfl) (hpl:=na rfl)))),?_⟩
  refine(?_:let G_:Prop:=_;G_)
  intro G_
  obtain⟨p,rfl,hp⟩:=b6.mp ra
  obtain⟨q,rfl,hq⟩:=b6.mp rb
  obtain⟨a1,a2,a3⟩:=ha.num (by decide)
  obtain⟨b1,b2,b3⟩:=hb.num (by decide)
  dsimp only[G_]
  simp_all only[EI,hp,hq]
  have m0:=Int.mul_pos a2 b2
  have m4:a.2*b.2<=4:=Int.le_trans (Int.mul_le_mul a3 b3 (by omega) (by decide)) (by decide)
  exact⟨bC (by omega) (by omega),bC (by omega) (by omega),bC (by omega) (by omega),m0,(Bt.of 4 (by omega) (by omega)),λr H' s' n' e=>k r H' s' n' e⟩
theorem kh:aT ["_law_cell_here","_law_n","_law_size","_law_spot","_law_same_here","_law_words_here","_law_k","_law_word","_law_j","_law_sign"] ["_law_cell_here","_law_n"] (ar (top 44)):=⟨rfl,rfl,rfl,by decide +kernel,rfl,by decide +kernel,by decide +kernel⟩
theorem EW (T:Txt K mg aE aF aB aH af av):bX P w K mg base (bg P w) 2 "_law_words" ["_law_cell_here","_law_n"] yn:=by
 have aJ:bX P w K mg base (bg P w) 1 "_law_mixed" ["_law_cell_here","_law_many"] bK:=nV T
 refine T.vy.du (λ_ _ _ _ _ _=>eD λ_ _=>rfl) λf fd F=>F.d3 kh (λvs H Q E h=>?_) (λbT A outer s H vs Q E hr h=>?_)
 ·obtain⟨_,_,rfl,_⟩:=h;rfl
 ·refine(?_:let G_:Prop:=_;G_)
  intro G_
  obtain⟨c,n,rfl,n0,Oo,kk⟩:=h
  dsimp only[G_]
  clear G_
  have nd:=kh.nd
  refine⟨_,(ah (aI (i:=2) nd rfl (Or.inl rfl) (aG aO ae (aK aJ (hr.mono (by decide)) rfl au.pass (aa (pv 0) (aa ae ag (se rfl)) (se rfl)) (he:=se rfl) (hpl:=na rfl))))
  (ah (aI (i:=3) nd rfl (Or.inl rfl) (aK aJ (hr.mono (by decide)) rfl au.pass (aa (aG aO (pv 0) ae) (aa (pv 2) ag (se rfl)) (se rfl)) (he:=se rfl) (hpl:=na rfl)))
  (ah (aI (i:=4) nd rfl (Or.inl rfl) (aK aJ (hr.mono (by decide)) rfl au.pass (aa (aG aO (pv 0) ae) (aa ae ag (se rfl)) (se rfl)) (he:=se rfl) (hpl:=na rfl)))
  (ah (aI (i:=5) nd rfl (Or.inl rfl) (b5 ag))
  (ah (cI PassesOwn.never rfl (cC rfl T.z_range (aa (pv 1) ag (se rfl))) (aW (i:=6) nd rfl (Or.inl rfl)) (ah (aI (i:=7) nd rfl (Or.inl rfl) aZ)
  (ah (cI PassesOwn.never rfl (cC rfl T.z_range (aa (pv 2) ag (se rfl))) (aW (i:=8) nd rfl (Or.inl rfl)) (ah (aI (i:=9) nd rfl (Or.inl rfl) (aK aJ (hr.mono (by decide)) rfl au.pass (aa (aG aO (aG aO (aG aO (pv 0) (aG ba ae (pv 8))) (aG ba (aG ba ae (pv 6)) (aG gX ae (pv 4)))) ae) (aa ae ag (se rfl)) (se rfl)) (he:=se rfl) (hpl:=na rfl)))
  (ah (bf (aL bp (pv 8) (pv 3) (aS _)) (ao (aI (i:=9) nd rfl (Or.inl rfl) (aG dM (aG aO (aK aJ (hr.mono (by decide)) rfl au.pass (aa (aG aO (pv 0) ae) (aa ae ag (se rfl)) (se rfl)) (he:=se rfl) (hpl:=na rfl)) (aG ba ae (pv 6))) ae)))
   aY)
  (ao (aI (i:=7) nd rfl (Or.inl rfl) (aG ky (pv 7) (aq GB aZ (pv 9) (λ_ _=>rfl))))))))
  (ao (bG (fH YN Zh Zi dj.r (pv 5) (aa (pv 7) ag (se rfl))))))))
  (ao (aV (pv 5)))))))),?_⟩
  refine(?_:let bM:TS:=_;let bN:TS:=_;let bO:TS:=_;let cM:TS:=_;let oW:TS:=_;let x8:TS:=_;tSeq bM (tSeq bN (tSeq bO (tSeq cM (tSeq oW x8)))) _ _ _)
  intro bM bN bO cM oW x8
  have sl:=sizeLine_eq
  obtain⟨m,rfl⟩:∃m:Nat,n=(m:Int):=⟨n.toNat,by omega⟩
  have z0:=cg (c:=c) (m:=8) (by decide)
  have z1:=cH (c:=c) (m:=8) (by decide)
  obtain⟨sz,Vv⟩:∃sz:Nat,1+bQ c 8=(sz:Int):=⟨(1+bQ c 8).toNat,by omega⟩
  have p0:=cg (c:=c+1) (m:=(sz:Int)) (by omega)
  have p1:=cH (c:=c+1) (m:=(sz:Int)) (by omega)
  have w0:=cg (c:=c+2) (m:=2) (by decide)
  have w1:=cH (c:=c+2) (m:=2) (by decide)
  change tSeq _ _ _ _ _
  refine aU (λN=>N [some (.int c),some (.int (m:Int)),some (.int (sz:Int)),none,none,none,none,none,none,none] H) ?_ (λN hN=>?_)
  case refine_2=>
   simp_all only[bK]
   rw[Vv]
   exact⟨by decide,hN⟩
  change tSeq _ _ _ _ _
  refine aU (λN=>N [some (.int c),some (.int (m:Int)),some (.int (sz:Int)),some (.int (bQ (c+1) (sz:Int))),none,none,none,none,none,none] H) ?_ (λN hN=>?_)
  case refine_2=>
   simp_all only[bK]
   exact⟨by omega,hN⟩
  generalize bQ (c+1) (sz:Int)=sp at *
  change tSeq _ _ _ _ _
  refine aU (λN=>N [some (.int c),some (.int (m:Int)),some (.int (sz:Int)),some (.int sp),some (.int (bQ (c+2) 2)),none,none,none,none,none] H) ?_ (λN hN=>?_)
  case refine_2=>
   simp_all only[bK]
   exact⟨by decide,hN⟩
  generalize bQ (c+2) 2=sm at *
  change tSeq _ _ _ _ _
  refine aU (λN=>∀H1 l,aD H H1->H l=none->H1 l=some (.lst [])->N [some (.int c),some (.int (m:Int)),some (.int (sz:Int)),some (.int sp),some (.int sm),some (.ref l),none,none,none,none] H1) ?_ (λN hN=>?_)
  case refine_2=>
   simp_all only[]
   exact⟨YD _,λl nl=>hN _ l (aA nl) nl aj⟩
  rintro H1 l s1 nl hl
  change tSeq _ _ _ _ _
  refine aU (λN=>∀H2,aD H H2->H2 l=some (.lst (((List.range m).map λk:Nat=>iO (Ct c sp sm k) sz).map V.str))->∀z6 z7 z8 z9,N [some (.int c),some (.int (m:Int)),some (.int (sz:Int)),some (.int sp),some (.int sm),some (.ref l),z6,z7,z8,z9] H2) ?_ (λN hN=>?_)
  case refine_2=>
   simp_all only[]
   refine⟨by omega,by omega,bU (src_range (Ok:=λ_=>True)) (λi σ H2=>aD H H2/\H2 l=some (.lst (((List.range i).map λk:Nat=>iO (Ct c sp sm k) sz).map V.str))/\∃z6 z7 z8 z9,σ=[some (.int c),some (.int (m:Int)),some (.int (sz:Int)),some (.int sp),some (.int sm),some (.ref l),z6,z7,z8,z9]) ⟨s1,hl,_,_,_,_,rfl⟩ (λ_ _ _ _ _=>trivial) ?_ ?_⟩
   ·intro k x σ H2 H3 hk gy gz
    refine(?_:let G_:Prop:=_;G_)
    intro G_
    obtain⟨s2,Df,z6,z7,z8,z9,rfl⟩:=gy
    obtain⟨rfl,rfl⟩:=gz
    dsimp only[G_]
    rw[YL] at hk
    simp only[gName,YU,YT,Zb]
    change tSeq _ _ _ _ _
    refine aU (λN=>N [some (.int c),some (.int (m:Int)),some (.int (sz:Int)),some (.int sp),some (.int sm),some (.ref l),some (.int (k:Int)),some (.str (Str.ofString "")),z8,z9] H3) ?_ (λN hN=>?_)
    case refine_2=>
     simp_all only[]
     exact hN
    change tSeq _ _ _ _ _
    refine aU (λN=>∀z8 z9,N [some (.int c),some (.int (m:Int)),some (.int (sz:Int)),some (.int sp),some (.int sm),some (.ref l),some (.int (k:Int)),some (.str (iO (Ct c sp sm k) sz)),z8,z9] H3) ?_ (λN hN=>?_)
    case refine_2=>
     simp_all only[]
     refine⟨by omega,by omega,bU (src_range (Ok:=λ_=>True)) (λj σ H4=>H3=H4/\∃z8 z9,σ=[some (.int c),some (.int (m:Int)),some (.int (sz:Int)),some (.int sp),some (.int sm),some (.ref l),some (.int (k:Int)),some (.str (iO (Ct c sp sm k) j)),z8,z9]) ⟨rfl,_,_,rfl⟩ (λ_ _ _ _ _=>trivial) ?_ ?_⟩
     ·intro j x σ H4 H5 hj gy gz
      refine(?_:let G_:Prop:=_;G_)
      intro G_
      obtain⟨rfl,z8,z9,rfl⟩:=gy
      obtain⟨rfl,rfl⟩:=gz
      dsimp only[G_]
      rw[YL] at hj
      simp only[gName,YU,YT,Zb]
      change tSeq _ _ _ _ _
      refine aU (λN=>N [some (.int c),some (.int (m:Int)),some (.int (sz:Int)),some (.int sp),some (.int sm),some (.ref l),some (.int (k:Int)),some (.str (iO (Ct c sp sm k) j)),some (.int (j:Int)),some (.int (bQ (c+31* (j:Int)+977* (k:Int)* (1 - sm)+3) 26))] H5) ?_ (λN hN=>?_)
      case refine_2=>
       simp_all only[bK]
       exact⟨bC (by omega) (by omega),bC (by omega) (by omega),bC (by omega) (by omega),by decide,hN⟩
      change tSeq _ _ _ _ _
      refine aU (λN=>N [some (.int c),some (.int (m:Int)),some (.int (sz:Int)),some (.int sp),some (.int sm),some (.ref l),some (.int (k:Int)),some (.str (iO (Ct c sp sm k) j)),some (.int (j:Int)),some (.int (Ct c sp sm k j))] H5) ?_ (λN hN=>?_)
      case refine_2=>
       unfold Ct at hN
       simp_all only[bK]
       refine gY (λe=>?_) (λe=>?_)
       ·rw[if_pos e] at hN
        exact⟨by decide,bC (by omega) (by omega),by decide,hN⟩
       ·rw[if_neg e] at hN
        exact hN
      obtain⟨b0,b1⟩:=Hh c sp sm k j
      simp_all only[IZ]
      exact⟨by rw[sl];decide +kernel,_,KC b0 b1,by rw[p8];show j+1<=sizeLine;omega,(EJ _ _).symm,_,rfl⟩
     ·intro σ H4 df
      refine(?_:let G_:Prop:=_;G_)
      intro G_
      obtain⟨rfl,z8,z9,rfl⟩:=df
      dsimp only[G_]
      rw[show((sz:Int)).toNat=sz from YL _]
      exact hN _ _
    rintro z8 z9
    simp_all only[eL]
    refine⟨.inl ⟨rfl,_,bI.of Df⟩,_,Df,by rw[Yr,Yr,Y0];omega,cA s2 nl,?_,_,rfl⟩
    rw[aj,List.range_succ,Yx,Yx]
    rfl
   ·intro σ H2 df
    refine(?_:let G_:Prop:=_;G_)
    intro G_
    obtain⟨s2,Df,z6,z7,z8,z9,rfl⟩:=df
    dsimp only[G_]
    rw[YL] at Df
    exact hN _ s2 Df _ _ _ _
  rintro H2 s2 Df z6 z7 z8 z9
  simp_all only[]
  exact kk _ _ _ s2 nl Df (by rw[Yr,Y0,YL]) (EK p0 p1 (by omega)) (λw hw=>by
   refine(?_:let G_:Prop:=_;G_)
   intro G_
   obtain⟨k,_,rfl⟩:=List.mem_map.mp hw
   dsimp only[G_]
   exact KD (by omega) (by omega) (Hh c sp sm k)) ⟨sz,λw hw=>by
   refine(?_:let G_:Prop:=_;G_)
   intro G_
   obtain⟨k,_,rfl⟩:=List.mem_map.mp hw
   dsimp only[G_]
   exact p8 _ _⟩
theorem ki:aT ["_law_cell_here","_law_counts","_law_clock","_law_thrown","_law_others","_law_deeds_here","_law_j","_law_name","_law_kind","_law_deed"] ["_law_cell_here","_law_counts","_law_clock","_law_thrown"] (ar (top 45)):=⟨rfl,rfl,rfl,by decide +kernel,rfl,by decide +kernel,by decide +kernel⟩
theorem rH {H:Hp} {d:Dat} {v:V} (r:Rep H d v):∀(k:Nat) {ds:List Dat} {xs:List V},a8 H ds xs->a8 H (ds.take k++d::ds.drop k) (xs.take k++v::xs.drop k)
 | 0,ds,xs,h=>aR.mpr ⟨v,xs,rfl,r,h⟩
 | k+1,[],xs,h=>by rw[bD.mp h];exact aR.mpr ⟨v,[],rfl,r,bD.mpr rfl⟩
 | k+1,a::ds,xs,h=>by
  obtain⟨x,ys,rfl,h1,h2⟩:=aR.mp h
  exact aR.mpr ⟨x,_,rfl,h1,rH r k h2⟩
theorem nW {fh:Str}:∀cs:List (Str×Int),(cs.filterMap λx=>if x.1≠fh then some (V.str x.1) else none)=((cs.map (·.1)).filter λn=>decide (n≠fh)).map V.str
 | []=>rfl
 | x::cs=>by
  rw[Y6,Ys]
  by_cases e:x.1=fh
  ·rw[if_neg (λz=>z e),List.filter_cons_of_neg (by simpa using e)];exact nW cs
  ·rw[if_pos e,List.filter_cons_of_pos (by simpa using e),Ys,nW cs]
theorem EX (T:Txt K mg aE aF aB aH af av):bX P w K mg base (bg P w) 2 "_law_deeds" ["_law_cell_here","_law_counts","_law_clock","_law_thrown"] yo:=by
 have aJ:bX P w K mg base (bg P w) 1 "_law_mixed" ["_law_cell_here","_law_many"] bK:=nV T
 refine T.vz.du (λ_ _ _ _ _ _=>tM λ_ _ _ _=>rfl) λf fd F=>F.d3 ki (λvs H Q E h=>?_) (λbT A outer s H vs Q E hr h=>?_)
 ·obtain⟨_,_,_,_,_,rfl,_⟩:=h;rfl
 ·refine(?_:let G_:Prop:=_;G_)
  intro G_
  obtain⟨c,cl,fh,th,cs,rfl,rc,c3,we,yN,cw,kk⟩:=h
  dsimp only[G_]
  clear G_
  have nd:=ki.nd
  refine⟨_,(ah (lR (i:=4) rfl nd rfl rfl (N:=["_law_cell_here","_law_counts","_law_clock","_law_thrown","_law_others","_law_deeds_here","_law_j","_law_name","_law_kind","_law_deed"]) (so:=ar (top 45)) (N':=["_law_name","_law_most","_law_clock"]) (k:=2) (fr:=[2]) rfl rfl ⟨rfl,by decide +kernel,by decide +kernel,by decide +kernel,rfl,by decide +kernel,by decide +kernel⟩ (bh (K:=K) (pv 1)) (λ_ _ _ _ _=>(d4 (K:=K) (n:=2) rfl (bA (aW (i:=0) (show(["_law_name","_law_most","_law_clock"]:List Str).Nodup by decide +kernel) rfl (Or.inl rfl)) (bA (aW (i:=1) (show(["_law_name","_law_most","_law_clock"]:List Str).Nodup by decide +kernel) rfl (Or.inl rfl)) dX)))) (λ_ _ _ _ _=>(eM (aL uo (pv 0) (pv 2) (aS _))))
   (λ_ _ _ _ _=>(pv 0)))
  (ah (aI (i:=5) nd rfl (Or.inl rfl) (b5 (aa (a5 (aa aZ (aa (pv 2) (aa ae ag (se rfl)) (se rfl)) (se rfl))) ag (se rfl))))
  (ah (cI PassesOwn.never rfl (cC rfl T.z_range (aa (aK aJ (hr.mono (by decide)) rfl au.pass (aa (aG aO (pv 0) ae) (aa ae ag (se rfl)) (se rfl)) (he:=se rfl) (hpl:=na rfl)) ag (se rfl))) (aW (i:=6) nd rfl (Or.inl rfl)) (ao (bf (aL fY (aX bq (by rfl) T.z_len YH (aa (pv 4) ag (se rfl)) (he:=se rfl) (hpl:=na rfl)) ae (aS _)) (ah (aI (i:=7) nd rfl (Or.inl rfl) (aq aQ (pv 4) (aK aJ (hr.mono (by decide)) rfl au.pass (aa (aG aO (aG aO (pv 0) (aG ba ae (pv 6))) ae) (aa (aX bq (by rfl) T.z_len YH (aa (pv 4) ag (se rfl)) (he:=se rfl) (hpl:=na rfl)) ag (se rfl)) (se rfl)) (he:=se rfl) (hpl:=na rfl)) (λ_ _=>rfl)))
  (ah (aI (i:=8) nd rfl (Or.inl rfl) (aK aJ (hr.mono (by decide)) rfl au.pass (aa (aG aO (aG aO (pv 0) (aG ba ae (pv 6))) ae) (aa ae ag (se rfl)) (se rfl)) (he:=se rfl) (hpl:=na rfl)))
  (ah (aI (i:=9) nd rfl (Or.inl rfl) (a5 (aa (aq aQ (b5 (aa aZ (aa aZ ag (se rfl)) (se rfl))) (aG dM (pv 8) ae) (λ_ _=>rfl)) (aa (pv 7) (aa (aK aJ (hr.mono (by decide)) rfl au.pass (aa (aG aO (pv 0) (aG ba ae (pv 6))) (aa ae ag (se rfl)) (se rfl)) (he:=se rfl) (hpl:=na rfl)) ag (se rfl)) (se rfl)) (se rfl))))
  (ah (bf (PW.pt (pw_and (aL bp (pv 8) ae (aS _)) (pw_and1 (kr (pv 3))))) (ao (aI (i:=9) nd rfl (Or.inl rfl) (a5 (aa aZ (aa (pv 7) ag (se rfl)) (se rfl)))))
   aY)
  (ah (bf (PW.pt (pw_and (aL bp (pv 8) ae (aS _)) (pw_and1 (aL fY (aX bq (by rfl) T.z_len YH (aa (pv 4) ag (se rfl)) (he:=se rfl) (hpl:=na rfl)) ae (aS _))))) (ao (aI (i:=9) nd rfl (Or.inl rfl) (a5 (aa aZ (aa (pv 7) (aa (aq aQ (pv 4) (aG gX ae (fH YN PySem.F.slot_list_index PySem.F.type_list_index (Ci hr.units) (pv 4) (aa (pv 7) ag (se rfl)))) (λ_ _=>rfl)) ag (se rfl)) (se rfl)) (se rfl)))))
   aY)
  (ao (bG (fH YN PySem.F.slot_list_insert PySem.F.type_list_insert uF.r (pv 5) (aa (aK aJ (hr.mono (by decide)) rfl au.pass (aa (aG aO (aG aO (pv 0) (aG ba ae (pv 6))) ae) (aa (aG aO (aX bq (by rfl) T.z_len YH (aa (pv 5) ag (se rfl)) (he:=se rfl) (hpl:=na rfl)) ae) ag (se rfl)) (se rfl)) (he:=se rfl) (hpl:=na rfl)) (aa (pv 9) ag (se rfl)) (se rfl))))))))))
   aY)))
  (ao (aV (pv 5)))))),?_⟩
  refine(?_:let bM:TS:=_;let bN:TS:=_;let bO:TS:=_;let cM:TS:=_;tSeq bM (tSeq bN (tSeq bO cM)) _ _ _)
  intro bM bN bO cM
  have sl:=sizeLine_eq
  refine(?_:let G_:Prop:=_;G_)
  intro G_
  obtain⟨Bw,ya,e0,fK,sO⟩:=a7.mp (show Rep H (.lst _) (.ref cl) from rc)
  dsimp only[G_]
  clear G_
  cases e0
  have len:=sO.length
  rw[Yr] at len
  change tSeq _ _ _ _ _
  refine aU (λN=>∀H1 ol,aD H H1->H1 ol=some (.lst (((cs.map (·.1)).filter λn=>decide (n≠fh)).map V.str))->N [some (.int c),some (.ref cl),some (.str fh),some (.bl th),some (.ref ol),none,none,none,none,none] H1) ?_ (λN hN=>?_)
  case refine_2=>
   simp_all only[]
   refine⟨⟨_,bI.of fK⟩,?_⟩
   have S:Src (yJ K cl) (aD H) ya.length _:=src_list (λH' s'=>bI.of (s' _ _ fK))
   rw[<-len] at S
   refine rA (K:=K) cs (λx=>if x.1≠fh then some (.str x.1) else none) S (λ_ _ _ _ h=>h.1) (by omega) ?_ ?_
   ·rintro i x y ex ⟨_,ey⟩
    refine(?_:let G_:Prop:=_;G_)
    intro G_
    obtain⟨d,ed,rd⟩:=sO.get ey
    dsimp only[G_]
    rw[Yu,ex] at ed
    cases ed
    refine(?_:let G_:Prop:=_;G_)
    intro G_
    obtain⟨cq,b1,b2,rfl,Hl,q1,q2⟩:=bJ.mp (show Rep _ (.tup _) y from rd)
    obtain rfl:=aN.mp q1
    dsimp only[G_]
    refine⟨cq,_,_,rfl,jn.of Hl,λY N y1 y2=>?_⟩
    simp_all only[]
    by_cases e:x.1=fh
    ·rw[if_neg (λz=>z e)];exact y2 (if_neg (λz=>z e))
    ·rw[if_pos e];exact y1 _ (if_pos e)
   ·intro D n1 n2
    refine hN _ D (aA n2) ?_
    rw[aj,nW]
  rintro H1 ol s1 Qu
  generalize Qv:(cs.map (·.1)).filter (λn=>decide (n≠fh))=os at *
  have KN:∀n∈os,n∈cs.map (·.1):=λn hn=>by rw[<-Qv] at hn;exact(List.mem_filter.mp hn).1
  have XY:os.Nodup:=by rw[<-Qv];exact yN.filter _
  have Vw:os.length<=2:=by
   have:os.length< (cs.map (·.1)).length:=by
    rw[<-Qv]
    exact List.length_filter_lt_length_iff_exists.mpr ⟨fh,we,by simp⟩
   rw[Yr] at this
   omega
  change tSeq _ _ _ _ _
  refine aU (λN=>∀H2 l t,aD H1 H2->H1 l=none->H2 l=some (.lst [.ref t])->H2 t=some (.tup [.str (Str.ofString "plus"),.str fh,.int 1])->N [some (.int c),some (.ref cl),some (.str fh),some (.bl th),some (.ref ol),some (.ref l),none,none,none,none] H2) ?_ (λN hN=>?_)
  case refine_2=>
   simp_all only[]
   exact⟨by omega,λt H2 s2 nt et=>⟨by omega,λl nl=>hN _ l t (s2.trans (aA nl)) (none_of s2 nl) aj (aA nl _ _ et)⟩⟩
  rintro H2 l t s2 nl hl ht
  have Oq:H l=none:=none_of s1 nl
  have Vx:ol≠l:=λz=>by rw[z,nl] at Qu;cases Qu
  have Hm:=s1.trans s2
  have Vy:dr (upd H l (.lst [])) H2:=λb ys e=>by
   by_cases z:b=l
   ·subst z;exact⟨_,hl⟩
   ·rw[aw z] at e;exact⟨_,Hm _ _ e⟩
  change tSeq _ _ _ _ _
  refine aU (λN=>∀(H3:Hp) (ds:List Dd) (xs:List V),aD H H3->H3 l=some (.lst xs)->ds.length<=3->(∀d∈ds,fL cs d/\CM d)->cN (upd H l (.lst [])) H3 (ds.map Bb) xs->∀z6 z7 z8 z9,N [some (.int c),some (.ref cl),some (.str fh),some (.bl th),some (.ref ol),some (.ref l),z6,z7,z8,z9] H3) ?_ (λN hN=>?_)
  case refine_2=>
   simp_all only[bK]
   have m0:=cg (c:=c+5) (m:=3) (by decide)
   have m1:=cH (c:=c+5) (m:=3) (by decide)
   obtain⟨m,em⟩:∃m:Nat,bQ (c+5) 3=(m:Int):=⟨(bQ (c+5) 3).toNat,by omega⟩
   rw[em] at m0 m1 ⊢
   refine⟨by decide,by omega,by omega,?_⟩
   rw[YL]
   refine bU (src_range (Ok:=λ_=>True)) (λi σ H3=>aD H H3/\H3 ol=some (.lst (os.map V.str))/\∃(ds:List Dd) (xs:List V),H3 l=some (.lst xs)/\ds.length<=i+1/\(∀d∈ds,fL cs d/\CM d)/\cN (upd H l (.lst [])) H3 (List.map Bb ds) xs/\∃z6 z7 z8 z9,σ=[some (.int c),some (.ref cl),some (.str fh),some (.bl th),some (.ref ol),some (.ref l),z6,z7,z8,z9]) ⟨Hm,s2 _ _ Qu,[.plus fh 1],[.ref t],hl,Yt _,λd hd=>by rw[List.mem_singleton.mp hd];exact⟨we,show(0:Int)<=1 by decide⟩,bV (Aa Vy ht bS bS dA) fR,_,_,_,_,rfl⟩ (λ_ _ _ _ _=>trivial) ?_ ?_
   ·intro i x σ H3 H4 hi gy gz
    refine(?_:let G_:Prop:=_;G_)
    intro G_
    obtain⟨s3,Io,ds,xs,hx,ld,gd,rx,z6,z7,z8,z9,rfl⟩:=gy
    obtain⟨rfl,rfl⟩:=gz
    dsimp only[G_]
    clear G_
    have xl:xs.length=ds.length:=by have:=a8.length rx;rw[Yr] at this;omega
    simp only[gName,YU,YT,Zb]
    change tIfS _ _ _ _ [some (.int c),some (.ref cl),some (.str fh),some (.bl th),some (.ref ol),some (.ref l),some (.int (i:Int)),z7,z8,z9] H4
    by_cases o0:os=[]
    ·subst o0
     refine c7 (λY N k=>by simp_all only[Io];rw[if_neg (by decide)];exact k) ?_
     simp_all only[]
     exact⟨s3,Io,ds,xs,hx,by omega,gd,rx,_,rfl⟩
    ·have op:0<os.length:=List.length_pos_iff.mpr o0
     refine dz (λY N k=>by simp_all only[Io];rw[if_pos (by rw[Yr];omega)];exact k) ?_
     have Qw:(0:Int)< (os.length:Int):=by omega
     change tSeq _ _ _ _ _
     refine aU (λN=>∀n,n∈os->N [some (.int c),some (.ref cl),some (.str fh),some (.bl th),some (.ref ol),some (.ref l),some (.int (i:Int)),some (.str n),z8,z9] H4) ?_ (λN hN=>?_)
     case refine_2=>
      simp_all only[bK,Io]
      rw[Yr]
      have b0:=cg (c:=c+7* (i:Int)+1) Qw
      have b1:=cH (c:=c+7* (i:Int)+1) Qw
      generalize bQ (c+7* (i:Int)+1) (os.length:Int)=b at *
      obtain⟨k,rfl⟩:∃k:Nat,b=(k:Int):=⟨b.toNat,by omega⟩
      have hk:k<os.length:=by omega
      exact⟨bC (by omega) (by omega),Qw,.str os[k],bP (by rw[Yu,Yw hk];rfl),hN _ (YV hk)⟩
     rintro n hn
     have Ot:=KN n hn
     change tSeq _ _ _ _ _
     refine aU (λN=>∀kd:Int,0<=kd->kd<4->N [some (.int c),some (.ref cl),some (.str fh),some (.bl th),some (.ref ol),some (.ref l),some (.int (i:Int)),some (.str n),some (.int kd),z9] H4) ?_ (λN hN=>?_)
     case refine_2=>
      simp_all only[bK]
      exact⟨bC (by omega) (by omega),by decide,hN _ (cg (by decide)) (cH (by decide))⟩
     rintro kd k0 k4
     let Qx:Hp->V->Prop:=λH5 v=>∃d,di (upd H l (.lst [])) H5 (Bb d) v/\fL cs d/\CM d
     have KO:dr (upd H l (.lst [])) H4:=λb ys e=>by
      by_cases z:b=l
      ·subst z;exact⟨_,hx⟩
      ·rw[aw z] at e;exact⟨_,s3 _ _ e⟩
     change tSeq _ _ _ _ _
     refine aU (λN=>∀H5 v,aD H4 H5->Qx H5 v->N [some (.int c),some (.ref cl),some (.str fh),some (.bl th),some (.ref ol),some (.ref l),some (.int (i:Int)),some (.str n),some (.int kd),some v] H5) ?_ (λN hN=>?_)
     case refine_2=>
      have v0:∀c,0<=bQ c 3:=λc=>cg (by decide)
      simp_all only[bK]
      obtain⟨ww,dw,Vz,VA,VB⟩:∃w d,lJ [V.str (Str.ofString "set"),V.str (Str.ofString "plus")] (kd % 2)=some (.str w)/\Bb d=.tup [.str w,.str n,.int (bQ (c+13* (i:Int)) 3)]/\fL cs d/\CM d:=by
       have o:kd % 2=0\/kd % 2=1:=by omega
       rcases o with o | o
       ·rw[o];exact⟨_,.set n _,rfl,rfl,Ot,v0 _⟩
       ·rw[o];exact⟨_,.plus n _,rfl,rfl,Ot,v0 _⟩
      refine⟨by omega,λp np=>⟨by decide,_,aj,_,Vz,bC (by omega) (by omega),by decide,by omega,λp1 H5 s5 LG e5=>?_⟩⟩
      have FJ:=(aA np).trans s5
      exact hN _ _ FJ ⟨dw,by rw[VA];exact Aa (KO.trans FJ) e5 bS bS dA,VB⟩
     rintro H5 v5 s5 d5
     change tSeq _ _ _ _ _
     refine aU (λN=>∀H5 v,aD H4 H5->Qx H5 v->N [some (.int c),some (.ref cl),some (.str fh),some (.bl th),some (.ref ol),some (.ref l),some (.int (i:Int)),some (.str n),some (.int kd),some v] H5) ?_ (λN hN=>?_)
     case refine_2=>
      simp_all only[]
      by_cases z1:kd=2
      ·rw[if_pos z1]
       by_cases z2:th=true
       ·rw[if_pos z2]
        exact⟨by omega,λp H6 s6 np e6=>hN _ _ (s5.trans s6) ⟨.face n,ym (KO.trans (s5.trans s6)) e6 bS bS,Ot,trivial⟩⟩
       ·rw[if_neg z2];exact hN _ _ s5 d5
      ·rw[if_neg z1,if_neg (by decide)];exact hN _ _ s5 d5
     rintro H6 v6 s6 d6
     change tSeq _ _ _ _ _
     refine aU (λN=>∀H5 v,aD H4 H5->Qx H5 v->N [some (.int c),some (.ref cl),some (.str fh),some (.bl th),some (.ref ol),some (.ref l),some (.int (i:Int)),some (.str n),some (.int kd),some v] H5) ?_ (λN hN=>?_)
     case refine_2=>
      simp_all only[s6 _ _ Io,MA]
      by_cases z1:kd=3
      ·rw[if_pos z1,Yr]
       by_cases z2:(1:Int)< (os.length:Int)
       ·rw[if_pos z2]
        have o2:os.length=2:=by omega
        obtain⟨ei,ni⟩:=KG hn
        have Qy:=List.idxOf_lt_length_of_mem hn
        have j2:(1 - ((os.idxOf n:Nat):Int))=((1 - os.idxOf n:Nat):Int):=by omega
        have hj:1 - os.idxOf n<os.length:=by omega
        have ks:∀x∈os,Ke (.str x):=λx hx=>by
         refine(?_:let G_:Prop:=_;G_)
         intro G_
         obtain⟨y,hy,rfl⟩:=List.mem_map.mp (KN x hx)
         dsimp only[G_]
         exact KH (cw y hy).2.2.1
        refine⟨.inl ⟨rfl,_,bI.of (s6 _ _ Io)⟩,os.map Dat.str,yf _,λe he=>?_,.str n,aN.mpr rfl,ks n hn,os.idxOf n,ei,ni,by omega,.str os[1 - os.idxOf n],?_,by omega,λp H7 s7 np e7=>hN _ _ (s6.trans s7) ⟨.move n os[1 - os.idxOf n],Aa (KO.trans (s6.trans s7)) e7 bS bS bS,⟨Ot,KN _ (YV hj)⟩,trivial⟩⟩
        ·refine(?_:let G_:Prop:=_;G_)
         intro G_
         obtain⟨x,hx,rfl⟩:=List.mem_map.mp he
         dsimp only[G_]
         exact ks x hx
        ·rw[j2]
         exact bP (by rw[Yu,Yw hj];rfl)
       ·rw[if_neg z2];exact hN _ _ s6 d6
      ·rw[if_neg z1,if_neg (by decide)];exact hN _ _ s6 d6
     intro H7 v7 s7 GZ
     refine(?_:let G_:Prop:=_;G_)
     intro G_
     obtain⟨d,rd,VC,VD⟩:=GZ
     dsimp only[G_]
     clear G_
     have b0:=cg (c:=c+17* (i:Int)+3) (m:=(xs.length:Int)+1) (by omega)
     have b1:=cH (c:=c+17* (i:Int)+3) (m:=(xs.length:Int)+1) (by omega)
     simp_all only[bK,JG]
     refine⟨.inl ⟨rfl,_,bI.of (s7 _ _ hx)⟩,bC (by omega) (by omega),xs,s7 _ _ hx,by omega,?_⟩
     generalize bQ (c+17* (i:Int)+3) ((xs.length:Int)+1)=b at *
     obtain⟨k,rfl⟩:∃k:Nat,b=(k:Int):=⟨b.toNat,by omega⟩
     rw[YL]
     refine⟨xs,s7 _ _ hx,by omega,by omega,by omega,cA (s3.trans s7) Oq,by rw[aw Vx];exact s7 _ _ Io,ds.take k++d::ds.drop k,_,aj,?_,λe he=>?_,?_,_,rfl⟩
     ·rw[Yy,YC,YK,List.length_drop];omega
     ·rcases List.mem_append.mp he with he | he
      ·exact gd e (List.mem_of_mem_take he)
      ·rcases List.mem_cons.mp he with rfl | he
       ·exact⟨VC,VD⟩
       ·exact gd e (List.mem_of_mem_drop he)
     ·show a8 (hV _ (upd _ _ _)) _ _
      rw[iN (ys:=[]) aj,Yx,Ys,List.map_take,List.map_drop]
      exact rH rd k (rx.mono s7)
   ·intro σ H3 df
    refine(?_:let G_:Prop:=_;G_)
    intro G_
    obtain⟨s3,Io,ds,xs,hx,ld,gd,rx,z6,z7,z8,z9,rfl⟩:=df
    dsimp only[G_]
    exact hN _ ds xs s3 hx (by omega) gd rx _ _ _ _
  rintro H3 ds xs s3 hx ld gd rx z6 z7 z8 z9
  simp_all only[]
  exact kk _ _ ds s3 Oq (vV Oq hx (rx.low (.of (aA Oq)))) ld gd
theorem kj:aT ["_law_cell_here","_law_counts","_law_clock","_law_goals","_law_sides","_law_pool","_law_low_here","_law_high","_law_cut","_law_rows","_law_k","_law_ends","_law_deeds_here","_law_pay"] ["_law_cell_here","_law_counts","_law_clock","_law_goals"] (ar (top 46)):=⟨rfl,rfl,rfl,by decide +kernel,rfl,by decide +kernel,by decide +kernel⟩
theorem Qz {ps:List Pt} (h:ps∈HW):0<=wL ps/\wL ps<=wM ps/\wM ps<=500/\∀v∈iG ps,wL ps<=v/\v<=wM ps:=by
 have d:∀x∈D3,x.1<=x.1*x.2/\x.1*x.2<=100:=by decide
 obtain⟨k,s,FK,e | ⟨m,hm,e⟩⟩:=me h
 ·subst e
  have:k<=k*s/\k*s<=100:=d (k,s) FK
  have e1:wL [.cO k s]=(k:Int):=by show(k:Int)+0=_;omega
  have e2:wM [.cO k s]=((k*s:Nat):Int):=by show(k:Int)* (s:Int)+0=_;rw[<-Zf];omega
  rw[e1,e2]
  refine⟨by omega,by omega,by omega,λv hv=>?_⟩
  obtain⟨i,hi,rfl⟩:=List.mem_map.mp hv
  have:=List.mem_range.mp hi
  omega
 ·subst e
  have:k<=k*s/\k*s<=100:=d (k,s) FK
  have e1:wL [.cO k s,.num m]=(k:Int)+ (m:Int):=by show(k:Int)+ ((m:Int)+0)=_;omega
  have e2:wM [.cO k s,.num m]=((k*s:Nat):Int)+ (m:Int):=by show(k:Int)* (s:Int)+ ((m:Int)+0)=_;rw[<-Zf];omega
  rw[e1,e2]
  refine⟨by omega,by omega,by omega,λv hv=>?_⟩
  obtain⟨i,hi,rfl⟩:=List.mem_map.mp hv
  have:=List.mem_range.mp hi
  omega
theorem KP (T:Txt K mg aE aF aB aH af av):bX P w K mg base (bg P w) 3 "_law_throw" ["_law_cell_here","_law_counts","_law_clock","_law_goals"] uS:=by
 have aJ:bX P w K mg base (bg P w) 1 "_law_mixed" ["_law_cell_here","_law_many"] bK:=nV T
 have hZ:bX P w K mg base (bg P w) 2 "_law_deeds" ["_law_cell_here","_law_counts","_law_clock","_law_thrown"] yo:=EX T
 refine T.vA.du (λ_ _ _ _ _ _=>tM λ_ _ _ _=>rfl) λf fd F=>F.d3 kj (λvs H Q E h=>?_) (λbT A outer s H vs Q E hr h=>?_)
 ·obtain⟨_,_,_,_,_,_,rfl,_⟩:=h;rfl
 ·refine(?_:let G_:Prop:=_;G_)
  intro G_
  obtain⟨c,cl,fh,gl,cs,gs,rfl,rc,c3,we,yN,cw,Hn,g0,g3,kk⟩:=h
  dsimp only[G_]
  clear G_
  have nd:=kj.nd
  refine⟨_,(ah (aI (i:=4) nd rfl (Or.inl rfl) (aG aO ae (aK aJ (hr.mono (by decide)) rfl au.pass (aa (aG aO (pv 0) ae) (aa ae ag (se rfl)) (se rfl)) (he:=se rfl) (hpl:=na rfl))))
  (ah (aI (i:=5) nd rfl (Or.inl rfl) (b5 (aa (a5 (aa aZ (aa (aG aO ae (aK aJ (hr.mono (by decide)) rfl au.pass (aa (aG aO (pv 0) ae) (aa ae ag (se rfl)) (se rfl)) (he:=se rfl) (hpl:=na rfl))) (aa (pv 4) ag (se rfl)) (se rfl)) (se rfl))) ag (se rfl))))
  (ah (aI (i:=6) nd rfl (Or.inl rfl) (aq ai (aq aQ (pv 5) ae (λ_ _=>rfl)) ae (λ_ _=>rfl)))
  (ah (aI (i:=7) nd rfl (Or.inl rfl) (aG ba (pv 6) (pv 4)))
  (ah (bf (aL bp (aK aJ (hr.mono (by decide)) rfl au.pass (aa (aG aO (pv 0) ae) (aa ae ag (se rfl)) (se rfl)) (he:=se rfl) (hpl:=na rfl)) ae (aS _)) (ah (bG (fH YN Zh Zi dj.r (pv 5) (aa (a5 (aa aZ (aa (aK aJ (hr.mono (by decide)) rfl au.pass (aa (aG aO (pv 0) ae) (aa ae ag (se rfl)) (se rfl)) (he:=se rfl) (hpl:=na rfl)) ag (se rfl)) (se rfl))) ag (se rfl))))
  (ah (aI (i:=6) nd rfl (Or.inl rfl) (aG aO (pv 6) (aq ai (aq aQ (pv 5) ae (λ_ _=>rfl)) ae (λ_ _=>rfl))))
  (ao (aI (i:=7) nd rfl (Or.inl rfl) (aG aO (pv 7) (aq ai (aq aQ (pv 5) ae (λ_ _=>rfl)) ae (λ_ _=>rfl)))))))
   aY)
  (ah (aI (i:=8) nd rfl (Or.inl rfl) (aG aO (pv 6) (aK aJ (hr.mono (by decide)) rfl au.pass (aa (aG aO (pv 0) ae) (aa (aG aO (aG gX (pv 7) (pv 6)) ae) ag (se rfl)) (se rfl)) (he:=se rfl) (hpl:=na rfl))))
  (ah (aI (i:=9) nd rfl (Or.inl rfl) (b5 ag))
  (ah (cI PassesOwn.never rfl (cC rfl T.z_range (aa ae ag (se rfl))) (aW (i:=10) nd rfl (Or.inl rfl)) (ah (aI (i:=11) nd rfl (Or.inl rfl) (aq aQ (b5 (aa (a5 (aa (aX (jg rfl) (by rfl) T.z_max rfl (aa ae (aa (aG gX (pv 6) ae) ag (se rfl)) (se rfl)) (he:=se rfl) (hpl:=na rfl)) (aa (pv 8) ag (se rfl)) (se rfl))) (aa (a5 (aa (aG aO (pv 8) ae) (aa (aG aO (pv 7) ae) ag (se rfl)) (se rfl))) ag (se rfl)) (se rfl))) (pv 10) (λ_ _=>rfl)))
  (ah (aI (i:=12) nd rfl (Or.inl rfl) (aK hZ (hr.mono (by decide)) rfl au.pass (aa (aG aO (pv 0) (aG ba ae (pv 10))) (aa (pv 1) (aa (pv 2) (aa oK ag (se rfl)) (se rfl)) (se rfl)) (se rfl)) (he:=se rfl) (hpl:=na rfl)))
  (ao (bG (fH YN Zh Zi dj.r (pv 9) (aa (a5 (aa (aq ai (pv 11) ae (λ_ _=>rfl)) (aa (aq ai (pv 11) ae (λ_ _=>rfl)) (aa (pv 12) (aa (aq aQ (pv 3) (aK aJ (hr.mono (by decide)) rfl au.pass (aa (aG aO (aG aO (pv 0) ae) (pv 10)) (aa (aX bq (by rfl) T.z_len YH (aa (pv 3) ag (se rfl)) (he:=se rfl) (hpl:=na rfl)) ag (se rfl)) (se rfl)) (he:=se rfl) (hpl:=na rfl)) (λ_ _=>rfl)) ag (se rfl)) (se rfl)) (se rfl)) (se rfl))) ag (se rfl))))))))
  (ah (aI (i:=13) nd rfl (Or.inl rfl) (a5 (aa (aG gX (aK aJ (hr.mono (by decide)) rfl au.pass (aa (aG aO (pv 0) ae) (aa ae ag (se rfl)) (se rfl)) (he:=se rfl) (hpl:=na rfl)) ae) (aa ae ag (se rfl)) (se rfl))))
  (ah (bf (aL bp (aK aJ (hr.mono (by decide)) rfl au.pass (aa (aG aO (pv 0) ae) (aa ae ag (se rfl)) (se rfl)) (he:=se rfl) (hpl:=na rfl)) ae (aS _)) (ao (aI (i:=13) nd rfl (Or.inl rfl) (a5 (aa (aG gX (aG ba ae (aK aJ (hr.mono (by decide)) rfl au.pass (aa (aG aO (pv 0) ae) (aa ae ag (se rfl)) (se rfl)) (he:=se rfl) (hpl:=na rfl))) ae) (aa ae ag (se rfl)) (se rfl)))))
   aY)
  (ao (aV (a5 (aa aZ (aa (pv 5) (aa (pv 13) (aa (aq aQ (b5 (aa (pv 9) (aa (Ce (K:=K) (pv 9) (gC eF ae)) ag (se rfl)) (se rfl))) (aK aJ (hr.mono (by decide)) rfl au.pass (aa (aG aO (pv 0) ae) (aa ae ag (se rfl)) (se rfl)) (he:=se rfl) (hpl:=na rfl)) (λ_ _=>rfl)) ag (se rfl)) (se rfl)) (se rfl)) (se rfl))))))))))))))),?_⟩
  refine(?_:let bM:TS:=_;let bN:TS:=_;let bO:TS:=_;let cM:TS:=_;let oW:TS:=_;let x8:TS:=_;let Em:TS:=_;let Ip:TS:=_;let Ng:TS:=_;let Nh:TS:=_;let EY:TS:=_;tSeq bM (tSeq bN (tSeq bO (tSeq cM (tSeq oW (tSeq x8 (tSeq Em (tSeq Ip (tSeq Ng (tSeq Nh EY))))))))) _ _ _)
  intro bM bN bO cM oW x8 Em Ip Ng Nh EY
  have sl:=sizeLine_eq
  obtain⟨s,es⟩:∃s:Nat,2+bQ (c+1) 5=(s:Int):=⟨(2+bQ (c+1) 5).toNat,by have:=cg (c:=c+1) (m:=5) (by decide);omega⟩
  obtain⟨k,ek⟩:∃k:Nat,1+bQ (c+2) 2=(k:Int):=⟨(1+bQ (c+2) 2).toNat,by have:=cg (c:=c+2) (m:=2) (by decide);omega⟩
  have s2:2<=s/\s<=6:=by have:=cg (c:=c+1) (m:=5) (by decide);have:=cH (c:=c+1) (m:=5) (by decide);omega
  have k2:1<=k/\k<=2:=by have:=cg (c:=c+2) (m:=2) (by decide);have:=cH (c:=c+2) (m:=2) (by decide);omega
  have FK:(k,s)∈D3:=by
   obtain⟨a,b⟩:=s2
   obtain⟨a',b'⟩:=k2
   have:k=1\/k=2:=by omega
   have:s=2\/s=3\/s=4\/s=5\/s=6:=by omega
   rcases this with rfl | rfl | rfl | rfl | rfl <;>rcases ‹k=1\/k=2› with rfl | rfl <;>decide
  have ga:∀c,∃g,g∈gs/\lJ (List.map V.str gs) (bQ c (gs.length:Int))=some (.str g):=λc=>by
   have b0:=cg (c:=c) (m:=(gs.length:Int)) (by omega)
   have b1:=cH (c:=c) (m:=(gs.length:Int)) (by omega)
   generalize bQ c (gs.length:Int)=b at *
   obtain⟨k,rfl⟩:∃k:Nat,b=(k:Int):=⟨b.toNat,by omega⟩
   have hk:k<gs.length:=by omega
   exact⟨gs[k],YV hk,bP (by rw[Yu,Yw hk];rfl)⟩
  change tSeq _ _ _ _ _
  refine aU (λN=>N [some (.int c),some (.ref cl),some (.str fh),some (.ref gl),some (.int (s:Int)),none,none,none,none,none,none,none,none,none] H) ?_ (λN hN=>?_)
  case refine_2=>
   simp_all only[bK]
   rw[es]
   exact⟨by decide,hN⟩
  change tSeq _ _ _ _ _
  refine aU (λN=>∀H1 pl t,aD H H1->H pl=none->H1 pl=some (.lst [.ref t])->H1 t=some (.tup [.str (Str.ofString "dice"),.int (k:Int),.int (s:Int)])->N [some (.int c),some (.ref cl),some (.str fh),some (.ref gl),some (.int (s:Int)),some (.ref pl),none,none,none,none,none,none,none,none] H1) ?_ (λN hN=>?_)
  case refine_2=>
   simp_all only[bK]
   rw[ek]
   exact⟨by decide,by omega,λt H1 s1 nt et=>⟨by omega,λpl FL=>hN _ pl t (s1.trans (aA FL)) (none_of s1 FL) aj (aA FL _ _ et)⟩⟩
  rintro H1 pl t s1 FL hpl ht
  change tSeq _ _ _ _ _
  refine aU (λN=>N [some (.int c),some (.ref cl),some (.str fh),some (.ref gl),some (.int (s:Int)),some (.ref pl),some (.int (k:Int)),none,none,none,none,none,none,none] H1) ?_ (λN hN=>?_)
  case refine_2=>
   simp_all only[hpl]
   exact⟨_,ht,_,at1,hN⟩
  change tSeq _ _ _ _ _
  refine aU (λN=>N [some (.int c),some (.ref cl),some (.str fh),some (.ref gl),some (.int (s:Int)),some (.ref pl),some (.int (k:Int)),some (.int ((k:Int)* (s:Int))),none,none,none,none,none,none] H1) ?_ (λN hN=>?_)
  case refine_2=>
   simp_all only[]
   exact⟨bC (by omega) (by omega),hN⟩
  change tSeq _ _ _ _ _
  refine aU (λN=>∀H2 ps ys,ps∈HW->aD H H2->H2 pl=some (.lst ys)->cN H H2 (List.map vE ps) ys->N [some (.int c),some (.ref cl),some (.str fh),some (.ref gl),some (.int (s:Int)),some (.ref pl),some (.int (wL ps)),some (.int (wM ps)),none,none,none,none,none,none] H2) ?_ (λN hN=>?_)
  case refine_2=>
   have b0:=cg (c:=c+4) (m:=100) (by decide)
   have b1:=cH (c:=c+4) (m:=100) (by decide)
   have VE:dr H H1:=.of s1
   simp_all only[bK,eL]
   refine⟨by decide,gY (λe=>?_) (λe=>?_)⟩
   ·refine⟨.inl ⟨rfl,_,bI.of hpl⟩,by decide,by omega,λp H2 Ho np ep=>?_⟩
    obtain⟨m,em⟩:∃m:Nat,bQ (c+4) 100=(m:Int):=⟨(bQ (c+4) 100).toNat,by omega⟩
    rw[em] at ep b0 b1
    have VF:p≠pl:=λz=>by rw[z,hpl] at np;cases np
    have VG:t≠pl:=λz=>by rw[z,hpl] at ht;cases ht
    have sT:upd H2 pl (.lst ([.ref t]++ [.ref p])) p=some (.tup [.str (Str.ofString "number"),.int (m:Int)]):=by rw[aw VF];exact ep
    have Bp:upd H2 pl (.lst ([.ref t]++ [.ref p])) t=some (.tup [.str (Str.ofString "dice"),.int (k:Int),.int (s:Int)]):=by rw[aw VG];exact Ho _ _ ht
    have sH:aD H (upd H2 pl (.lst ([.ref t]++ [.ref p]))):=cA (s1.trans Ho) FL
    refine⟨_,Ho _ _ hpl,by show(1:Nat)<sizeLine;omega,_,aj,_,at1,p,rfl,_,sT,_,at1,_,rfl,_,aj,_,at1,p,rfl,_,sT,_,at1,_,rfl,?_⟩
    have h:=hN _ [.cO k s,.num m] [.ref t,.ref p] (List.mem_flatMap.mpr ⟨(k,s),FK,Yz _ (List.mem_map.mpr ⟨m,List.mem_range.mpr (by omega),rfl⟩)⟩) sH aj (bV (Aa (.of sH) Bp bS dA dA) (bV (ym (.of sH) sT bS dA) fR))
    have e1:wL [.cO k s,.num m]=(k:Int)+ (m:Int):=by show(k:Int)+ ((m:Int)+0)=_;omega
    have e2:wM [.cO k s,.num m]=(k:Int)* (s:Int)+ (m:Int):=by show(k:Int)* (s:Int)+ ((m:Int)+0)=_;omega
    rw[e1,e2] at h
    exact h
   ·have h:=hN _ [.cO k s] [.ref t] (List.mem_flatMap.mpr ⟨(k,s),FK,YA⟩) s1 hpl (bV (Aa VE ht bS dA dA) fR)
    have e1:wL [.cO k s]=(k:Int):=by show(k:Int)+0=_;omega
    have e2:wM [.cO k s]=(k:Int)* (s:Int):=by show(k:Int)* (s:Int)+0=_;omega
    rw[e1,e2] at h
    exact h
  rintro H2 ps ys QA Ho Hq SK
  refine(?_:let G_:Prop:=_;G_)
  intro G_
  obtain⟨XZ,X0,X1,VH⟩:=Qz QA
  dsimp only[G_]
  clear G_
  have FH:di H H2 (.lst (ps.map vE)) (.ref pl):=vV FL Hq SK
  clear SK Hq ht hpl
  generalize wL ps=lo at *
  generalize wM ps=hi at *
  change tSeq _ _ _ _ _
  refine aU (λN=>∀cut,lo<=cut->cut<=hi->N [some (.int c),some (.ref cl),some (.str fh),some (.ref gl),some (.int (s:Int)),some (.ref pl),some (.int lo),some (.int hi),some (.int cut),none,none,none,none,none] H2) ?_ (λN hN=>?_)
  case refine_2=>
   simp_all only[bK]
   have b0:=cg (c:=c+6) (m:=hi - lo+1) (by omega)
   have b1:=cH (c:=c+6) (m:=hi - lo+1) (by omega)
   exact⟨by omega,hN _ (by omega) (by omega)⟩
  rintro cut P8 Ss
  change tSeq _ _ _ _ _
  refine aU (λN=>∀H3 rl,aD H2 H3->H2 rl=none->H3 rl=some (.lst [])->N [some (.int c),some (.ref cl),some (.str fh),some (.ref gl),some (.int (s:Int)),some (.ref pl),some (.int lo),some (.int hi),some (.int cut),some (.ref rl),none,none,none,none] H3) ?_ (λN hN=>?_)
  case refine_2=>
   simp_all only[]
   exact⟨YD _,λrl EZ=>hN _ rl (aA EZ) EZ aj⟩
  rintro H3 rl s3 EZ tS
  have E1:H rl=none:=none_of Ho EZ
  let LH:Nat->Tw->Prop:=λj r=>r.1=(if j=0 then max 0 (lo - 1) else cut+1)/\r.2.1=(if j=0 then cut else hi+2)/\r.2.2.1.length<=3/\(∀d∈r.2.2.1,fL cs d/\CM d)/\r.2.2.2∈gs
  change tSeq _ _ _ _ _
  refine aU (λN=>∀(H4:Hp) (r0 r1:Tw) (x0 x1:V),aD H2 H4->H4 rl=some (.lst [x0,x1])->LH 0 r0->LH 1 r1->cN (upd H rl (.lst [])) H4 (([r0,r1].map FE).map qR) [x0,x1]->∀yq yr wN,N [some (.int c),some (.ref cl),some (.str fh),some (.ref gl),some (.int (s:Int)),some (.ref pl),some (.int lo),some (.int hi),some (.int cut),some (.ref rl),yq,yr,wN,none] H4) ?_ (λN hN=>?_)
  case refine_2=>
   simp_all only[]
   refine⟨by decide,by decide,bU (src_range (Ok:=λ_=>True)) (λi σ H4=>aD H2 H4/\∃(rs:List Tw) (xs:List V),H4 rl=some (.lst xs)/\rs.length=i/\(∀(j:Nat) r,rs[j]?=some r->LH j r)/\cN (upd H rl (.lst [])) H4 ((rs.map FE).map qR) xs/\∃yq yr wN,σ=[some (.int c),some (.ref cl),some (.str fh),some (.ref gl),some (.int (s:Int)),some (.ref pl),some (.int lo),some (.int hi),some (.int cut),some (.ref rl),yq,yr,wN,none]) ⟨s3,[],[],tS,rfl,(λj r e=>by simp at e),fR,_,_,_,rfl⟩ (λ_ _ _ _ _=>trivial) ?_ ?_⟩
   ·intro i x σ H4 H5 Iq gy gz
    refine(?_:let G_:Prop:=_;G_)
    intro G_
    obtain⟨s4,rs,xs,hx,lr,ok,rx,yq,yr,wN,rfl⟩:=gy
    obtain⟨rfl,rfl⟩:=gz
    dsimp only[G_]
    have xl:xs.length=i:=by have:=a8.length rx;rw[Yr,Yr] at this;omega
    have i2:i<2:=Iq
    simp only[gName,YU,YT,Zb]
    change tSeq _ _ _ _ _
    refine aU (λN=>∀H6 t,aD H5 H6->H6 t=some (.tup [.int (if i=0 then max 0 (lo - 1) else cut+1),.int (if i=0 then cut else hi+2)])->N [some (.int c),some (.ref cl),some (.str fh),some (.ref gl),some (.int (s:Int)),some (.ref pl),some (.int lo),some (.int hi),some (.int cut),some (.ref rl),some (.int (i:Int)),some (.ref t),wN,none] H6) ?_ (λN hN=>?_)
    case refine_2=>
     simp_all only[]
     refine⟨by omega,λp H6 s6 np ep=>⟨by omega,λp1 H7 s7 LG KQ=>⟨by omega,λp2 QB=>?_⟩⟩⟩
     have sp:=aA (o:=.lst [V.ref p,V.ref p1]) QB
     have e1:(if lo - 1 >0 then lo - 1 else 0)=max 0 (lo - 1):=by split <;>omega
     rw[e1] at ep
     have VI:i=0\/i=1:=by omega
     rcases VI with z | z
     ·subst z
      exact⟨_,aj,_,at0,hN _ p (s6.trans (s7.trans sp)) (by rw[if_pos rfl,if_pos rfl];exact sp _ _ (s7 _ _ ep))⟩
     ·subst z
      exact⟨_,aj,_,at1,hN _ p1 (s6.trans (s7.trans sp)) (by rw[if_neg (by decide),if_neg (by decide)];exact sp _ _ KQ)⟩
    rintro H6 t' s6 Bp
    change tSeq _ _ _ _ _
    refine aU (λN=>∀H7 dl ds,aD H6 H7->H6 dl=none->di H6 H7 (.lst (List.map Bb ds)) (.ref dl)->ds.length<=3->(∀d∈ds,fL cs d/\CM d)->N [some (.int c),some (.ref cl),some (.str fh),some (.ref gl),some (.int (s:Int)),some (.ref pl),some (.int lo),some (.int hi),some (.int cut),some (.ref rl),some (.int (i:Int)),some (.ref t'),some (.ref dl),none] H7) ?_ (λN hN=>?_)
    case refine_2=>
     simp_all only[yo]
     exact⟨bC (by omega) (by omega),cs,rc.mono (Ho.trans (s4.trans s6)),c3,we,yN,cw,λdl H7 ds s7 n7 r7 l7 g7=>hN _ dl ds s7 n7 r7 l7 g7⟩
    rintro H7 dl ds s7 X2 G0 ld gd
    have SM:=Ho.trans (s4.trans (s6.trans s7))
    have Ou:=s6.trans s7
    refine(?_:let G_:Prop:=_;G_)
    intro G_
    obtain⟨go,QC,QD⟩:=ga (c+8+ (i:Int))
    dsimp only[G_]
    simp_all only[bK,eL]
    refine⟨.inl ⟨rfl,_,bI.of (Ou _ _ hx)⟩,_,s7 _ _ Bp,_,at0,_,s7 _ _ Bp,_,at1,_,SM _ _ Hn,by rw[Yr];omega,_,SM _ _ Hn,.str go,by rw[Yr];exact QD,by omega,λp H8 s8 np ep=>⟨xs,(Ou.trans s8) _ _ hx,by omega,cA (s4.trans (Ou.trans s8)) EZ,rs++ [(if i=0 then max 0 (lo - 1) else cut+1,if i=0 then cut else hi+2,ds,go)],_,aj,by rw[Yy,lr];rfl,?_,?_,_,rfl⟩⟩
    ·intro j r ej
     by_cases z:j<rs.length
     ·rw[Zn z] at ej
      exact ok j r ej
     ·rw[Zk (by omega)] at ej
      have z2:j - rs.length=0:=by
       cases h:j - rs.length with
       | zero=>rfl
       | succ n=>rw[h] at ej;simp at ej
      rw[z2] at ej
      cases ej
      have z3:j=i:=by omega
      subst z3
      exact⟨rfl,rfl,ld,gd,QC⟩
    ·show a8 (hV _ (upd _ _ _)) _ _
     rw[iN (ys:=[]) aj,Yx,Yx]
     have li:dr (upd H rl (.lst [])) H6:=λb ys e=>by
      by_cases z:b=rl
      ·subst z;exact⟨_,s6 _ _ hx⟩
      ·rw[aw z] at e;exact⟨_,(Ho.trans (s4.trans s6)) _ _ e⟩
     exact p7 (Kz (li.trans (s7.trans s8)) ep dA dA ((G0.low li).mono s8) bS) (rx.mono (Ou.trans s8))
   ·intro σ H4 df
    refine(?_:let G_:Prop:=_;G_)
    intro G_
    obtain⟨s4,rs,xs,hx,lr,ok,rx,yq,yr,wN,rfl⟩:=df
    dsimp only[G_]
    have lr:rs.length=2:=lr
    have xl:xs.length=2:=by have:=a8.length rx;rw[Yr,Yr] at this;omega
    match rs,lr,xs,xl with
    | [r0,r1],_,[x0,x1],_=>exact hN _ r0 r1 x0 x1 s4 hx (ok 0 r0 rfl) (ok 1 r1 rfl) rx _ _ _
  rintro H4 r0 r1 x0 x1 s4 hx Ni Nj rx yq yr wN
  have Hr:=Ho.trans s4
  change tSeq _ _ _ _ _
  refine aU (λN=>∀H5 t k,aD H4 H5->H5 t=some (.tup [.int k,.int 1])->-4<=k->k<=4->N [some (.int c),some (.ref cl),some (.str fh),some (.ref gl),some (.int (s:Int)),some (.ref pl),some (.int lo),some (.int hi),some (.int cut),some (.ref rl),yq,yr,wN,some (.ref t)] H5) ?_ (λN hN=>?_)
  case refine_2=>
   simp_all only[bK]
   have b0:=cg (c:=c+9) (m:=9) (by decide)
   have b1:=cH (c:=c+9) (m:=9) (by decide)
   exact⟨by decide,by omega,λt H5 s5 nt et=>hN _ t _ s5 et (by omega) (by omega)⟩
  rintro H5 t k' s5 VJ k5 k6
  change tSeq _ _ _ _ _
  refine aU (λN=>∀H6 t py,aD H4 H6->H6 t=some (.tup (Pr py.1 py.2))->kb 20 py->N [some (.int c),some (.ref cl),some (.str fh),some (.ref gl),some (.int (s:Int)),some (.ref pl),some (.int lo),some (.int hi),some (.int cut),some (.ref rl),yq,yr,wN,some (.ref t)] H6) ?_ (λN hN=>?_)
  case refine_2=>
   simp_all only[bK]
   have b0:=cg (c:=c+9) (m:=9) (by decide)
   have b1:=cH (c:=c+9) (m:=9) (by decide)
   exact⟨by decide,gY (λe=>⟨by decide,bC (by omega) (by omega),by omega,λp H6 s6 np ep=>hN _ p (2*bQ (c+9) 9 - 7,2) (s5.trans s6) ep (He _ (by omega) (by omega) (by omega))⟩) (λe=>hN _ t (k',1) s5 VJ (hU _ (by omega) (by omega)))⟩
  rintro H6 t2 py s6 VL wK
  have Hs:=Hr.trans s6
  have v0:=cg (c:=c+12) (m:=2) (by decide)
  have v1:=cH (c:=c+12) (m:=2) (by decide)
  have li:dr H H6:=.of Hs
  have lr:dr H (upd H rl (.lst [])):=.of (aA E1)
  have fin:∀(H9:Hp) (p q:Addr) (rs:List Tw) (xs:List V),aD H6 H9->H q=none->H9 q=some (.lst xs)->cN H H9 ((rs.map FE).map qR) xs->(rs=[r0,r1]\/rs=[r1,r0])->H9 p=some (.tup [.str (Str.ofString "throw"),.ref pl,.ref t2,.ref q])->Q (.ref p) H9:=λH9 p q rs xs s9 nq hq rq er ep=>by
   refine kk (.ref p) H9 (.d7 (ps.map vE) py.1 py.2 rs) (Hs.trans s9) ?_ ?_ ?_
   ·exact Kz (li.trans s9) ep bS (FH.mono (s4.trans (s6.trans s9))) (rF (li.trans s9) (s9 _ _ VL) (bV dA (bV dA fR))) (vV nq hq rq)
   ·have g:∀r∈rs,r=r0\/r=r1:=λr hr=>by rcases er with rfl | rfl <;>simp at hr <;>rcases hr with h | h <;>simp [h]
    refine⟨?_,?_,λr hr=>?_⟩
    ·rw[Yr]
     obtain⟨k,s,_,e | ⟨m,_,e⟩⟩:=me QA <;>rw[e] <;>simp
    ·rcases er with rfl | rfl <;>simp
    ·rcases g r hr with rfl | rfl
     ·exact⟨by have:=Ni.2.2.1;omega,λd hd=>(Ni.2.2.2.1 d hd).1⟩
     ·exact⟨by have:=Nj.2.2.1;omega,λd hd=>(Nj.2.2.2.1 d hd).1⟩
   ·have g:∀r∈rs,r=r0\/r=r1:=λr hr=>by rcases er with rfl | rfl <;>simp at hr <;>rcases hr with h | h <;>simp [h]
    refine⟨ps,rfl,QA,wK,λv hv=>?_,λr hr=>?_⟩
    ·obtain⟨w1,w2⟩:=VH v hv
     refine⟨by omega,by omega,?_⟩
     obtain⟨r,hr,VM,VN⟩:∃r∈rs,r.1<=v/\v<=r.2.1:=by
      have m0:r0∈rs:=by rcases er with rfl | rfl <;>simp
      have m1:r1∈rs:=by rcases er with rfl | rfl <;>simp
      refine(?_:let G_:Prop:=_;G_)
      intro G_
      obtain⟨a1,a2,_⟩:=Ni
      obtain⟨b1,b2,_⟩:=Nj
      dsimp only[G_]
      rw[if_pos rfl] at a1 a2
      rw[if_neg (by decide)] at b1 b2
      by_cases z:v<=cut
      ·exact⟨r0,m0,by omega,by omega⟩
      ·exact⟨r1,m1,by omega,by omega⟩
     cases h:xW rs v with
     | some r'=>exact⟨r',rfl⟩
     | none=>
      have:=List.find?_eq_none.mp h r hr
      exact absurd (by simp [VM,VN]) this
    ·rcases g r hr with rfl | rfl
     ·exact⟨Ni.2.2.2.2,λd hd=>(Ni.2.2.2.1 d hd).2⟩
     ·exact⟨Nj.2.2.2.2,λd hd=>(Nj.2.2.2.1 d hd).2⟩
  simp_all only[bK,JH]
  refine⟨[x0,x1],bI.of (s6 _ _ hx),λp np=>⟨by omega,λp1 LG=>?_⟩⟩
  have sa:=aA (o:=.lst [x0,x1].reverse) np
  have sb:=aA (o:=.lst [V.ref rl,V.ref p]) LG
  have SN:cN H H6 (([r0,r1].map FE).map qR) [x0,x1]:=(rx.mono s6).low lr
  have o:bQ (c+12) 2=0\/bQ (c+12) 2=1:=by omega
  rcases o with o | o
  ·rw[o]
   exact⟨by decide,_,aj,_,at0,by omega,λp2 H9 s9 QB ep=>fin H9 p2 rl [r0,r1] _ (sa.trans (sb.trans s9)) E1 ((sa.trans (sb.trans s9)) _ _ (s6 _ _ hx)) (SN.mono (sa.trans (sb.trans s9))) (.inl rfl) ep⟩
  ·rw[o]
   refine⟨by decide,_,aj,_,at1,by omega,λp2 H9 s9 QB ep=>fin H9 p2 p [r1,r0] _ (sa.trans (sb.trans s9)) (none_of Hs np) ((sb.trans s9) _ _ aj) ?_ (.inr rfl) ep⟩
   refine(?_:let G_:Prop:=_;G_)
   intro G_
   obtain⟨y0,q0,e0,h0,h1⟩:=aR.mp (show a8 _ (qR (FE r0)::[qR (FE r1)]) [x0,x1] from SN.mono (sa.trans (sb.trans s9)))
   obtain⟨y1,q1,e1,h1,h2⟩:=aR.mp h1
   dsimp only[G_]
   cases e0
   cases e1
   exact bV h1 (bV h0 fR)
theorem mF:aT ["_law_cell_here","_law_counts","_law_clock","_law_goals","_law_words_here","_law_rows","_law_sure","_law_k","_law_when","_law_count","_law_deeds_here"] ["_law_cell_here","_law_counts","_law_clock","_law_goals"] (ar (top 47)):=⟨rfl,rfl,rfl,by decide +kernel,rfl,by decide +kernel,by decide +kernel⟩
theorem KR (T:Txt K mg aE aF aB aH af av):bX P w K mg base (bg P w) 3 "_law_pick" ["_law_cell_here","_law_counts","_law_clock","_law_goals"] uS:=by
 have aJ:bX P w K mg base (bg P w) 1 "_law_mixed" ["_law_cell_here","_law_many"] bK:=nV T
 have hZ:bX P w K mg base (bg P w) 2 "_law_deeds" ["_law_cell_here","_law_counts","_law_clock","_law_thrown"] yo:=EX T
 have ia:bX P w K mg base (bg P w) 2 "_law_words" ["_law_cell_here","_law_n"] yn:=EW T
 refine T.xC.du (λ_ _ _ _ _ _=>tM λ_ _ _ _=>rfl) λf fd F=>F.d3 mF (λvs H Q E h=>?_) (λbT A outer s H vs Q E hr h=>?_)
 ·obtain⟨_,_,_,_,_,_,rfl,_⟩:=h;rfl
 ·refine(?_:let G_:Prop:=_;G_)
  intro G_
  obtain⟨c,cl,fh,gl,cs,gs,rfl,rc,c3,we,yN,cw,Hn,g0,g3,kk⟩:=h
  dsimp only[G_]
  clear G_
  have nd:=mF.nd
  refine⟨_,(ah (aI (i:=4) nd rfl (Or.inl rfl) (aK ia (hr.mono (by decide)) rfl au.pass (aa (aG aO (pv 0) ae) (aa ae ag (se rfl)) (se rfl)) (he:=se rfl) (hpl:=na rfl)))
  (ah (aI (i:=5) nd rfl (Or.inl rfl) (b5 ag))
  (ah (aI (i:=6) nd rfl (Or.inl rfl) (aK aJ (hr.mono (by decide)) rfl au.pass (aa (aG aO (pv 0) ae) (aa ae ag (se rfl)) (se rfl)) (he:=se rfl) (hpl:=na rfl)))
  (ah (cI PassesOwn.never rfl (cC rfl T.z_range (aa (aG aO ae (aX (jg rfl) (by rfl) T.z_max rfl (aa (pv 6) (aa (aK aJ (hr.mono (by decide)) rfl au.pass (aa (aG aO (pv 0) ae) (aa ae ag (se rfl)) (se rfl)) (he:=se rfl) (hpl:=na rfl)) ag (se rfl)) (se rfl)) (he:=se rfl) (hpl:=na rfl))) ag (se rfl))) (aW (i:=7) nd rfl (Or.inl rfl)) (ah (aI (i:=8) nd rfl (Or.inl rfl) yS)
  (ah (bf (PW.pt (pw_and (aL uo (pv 7) (pv 6) (aS _)) (pw_and1 (aL fY (aK aJ (hr.mono (by decide)) rfl au.pass (aa (aG aO (pv 0) (aG ba ae (pv 7))) (aa ae ag (se rfl)) (se rfl)) (he:=se rfl) (hpl:=na rfl)) ae (aS _))))) (ah (aI (i:=9) nd rfl (Or.inl rfl) (aq ai (aq aQ (pv 1) (aK aJ (hr.mono (by decide)) rfl au.pass (aa (aG aO (aG aO (pv 0) (aG ba ae (pv 7))) ae) (aa (aX bq (by rfl) T.z_len YH (aa (pv 1) ag (se rfl)) (he:=se rfl) (hpl:=na rfl)) ag (se rfl)) (se rfl)) (he:=se rfl) (hpl:=na rfl)) (λ_ _=>rfl)) ae (λ_ _=>rfl)))
  (ao (aI (i:=8) nd rfl (Or.inl rfl) (a5 (aa (pv 9) (aa (aq aQ (b5 (aa aZ (aa aZ ag (se rfl)) (se rfl))) (aK aJ (hr.mono (by decide)) rfl au.pass (aa (aG aO (aG aO (pv 0) (aG ba ae (pv 7))) ae) (aa ae ag (se rfl)) (se rfl)) (he:=se rfl) (hpl:=na rfl)) (λ_ _=>rfl)) (aa (aK aJ (hr.mono (by decide)) rfl au.pass (aa (aG aO (aG aO (pv 0) (aG ba ae (pv 7))) ae) (aa ae ag (se rfl)) (se rfl)) (he:=se rfl) (hpl:=na rfl)) ag (se rfl)) (se rfl)) (se rfl))))))
   aY)
  (ah (aI (i:=10) nd rfl (Or.inl rfl) (aK hZ (hr.mono (by decide)) rfl au.pass (aa (aG aO (pv 0) (aG ba ae (pv 7))) (aa (pv 1) (aa (pv 2) (aa oK ag (se rfl)) (se rfl)) (se rfl)) (se rfl)) (he:=se rfl) (hpl:=na rfl)))
  (ao (bG (fH YN Zh Zi dj.r (pv 5) (aa (a5 (aa (aq aQ (pv 4) (pv 7) (λ_ _=>rfl)) (aa (pv 8) (aa (pv 10) (aa (aq aQ (pv 3) (aK aJ (hr.mono (by decide)) rfl au.pass (aa (aG aO (aG aO (pv 0) (aG ba ae (pv 7))) ae) (aa (aX bq (by rfl) T.z_len YH (aa (pv 3) ag (se rfl)) (he:=se rfl) (hpl:=na rfl)) ag (se rfl)) (se rfl)) (he:=se rfl) (hpl:=na rfl)) (λ_ _=>rfl)) ag (se rfl)) (se rfl)) (se rfl)) (se rfl))) ag (se rfl)))))))))
  (ao (aV (a5 (aa aZ (aa (aG aO ae (aK aJ (hr.mono (by decide)) rfl au.pass (aa (aG aO (pv 0) ae) (aa ae ag (se rfl)) (se rfl)) (he:=se rfl) (hpl:=na rfl))) (aa (pv 5) ag (se rfl)) (se rfl)) (se rfl))))))))),?_⟩
  refine(?_:let bM:TS:=_;let bN:TS:=_;let bO:TS:=_;let cM:TS:=_;let oW:TS:=_;tSeq bM (tSeq bN (tSeq bO (tSeq cM oW))) _ _ _)
  intro bM bN bO cM oW
  have sl:=sizeLine_eq
  refine(?_:let G_:Prop:=_;G_)
  intro G_
  obtain⟨Bw,ya,e0,fK,sO⟩:=a7.mp (show Rep H (.lst _) (.ref cl) from rc)
  dsimp only[G_]
  clear G_
  cases e0
  have len:=sO.length
  rw[Yr] at len
  have c0:0<cs.length:=by
   cases cs with
   | nil=>simp at we
   | cons a b=>exact Nat.zero_lt_succ _
  have ga:∀c,∃g,g∈gs/\lJ (List.map V.str gs) (bQ c (gs.length:Int))=some (.str g):=λc=>by
   have b0:=cg (c:=c) (m:=(gs.length:Int)) (by omega)
   have b1:=cH (c:=c) (m:=(gs.length:Int)) (by omega)
   generalize bQ c (gs.length:Int)=b at *
   obtain⟨k,rfl⟩:∃k:Nat,b=(k:Int):=⟨b.toNat,by omega⟩
   have hk:k<gs.length:=by omega
   exact⟨gs[k],YV hk,bP (by rw[Yu,Yw hk];rfl)⟩
  have ca:∀c,∃q x,x∈cs/\lJ ya (bQ c (ya.length:Int))=some (.ref q)/\H q=some (.tup [.str x.1,.int x.2]):=λc=>by
   have b0:=cg (c:=c) (m:=(ya.length:Int)) (by omega)
   have b1:=cH (c:=c) (m:=(ya.length:Int)) (by omega)
   generalize bQ c (ya.length:Int)=b at *
   obtain⟨k,rfl⟩:∃k:Nat,b=(k:Int):=⟨b.toNat,by omega⟩
   have hk:k<cs.length:=by omega
   obtain⟨v,ev,rv⟩:=sO.at (i:=k) (by rw[Yu,Yw hk];rfl)
   refine(?_:let G_:Prop:=_;G_)
   intro G_
   obtain⟨q,a,b,rfl,hq,r1,r2⟩:=bJ.mp (show Rep H (.tup _) v from rv)
   dsimp only[G_]
   rw[aN.mp r1,bw.mp r2] at hq
   exact⟨q,cs[k],YV hk,bP ev,hq⟩
  change tSeq _ _ _ _ _
  refine aU (λN=>∀H1 wl ws,aD H H1->H1 wl=some (.lst (List.map V.str ws))->ws.length=4->ws.Nodup->(∀w∈ws,EH w)->(∃z,∀w∈ws,w.length=z)->N [some (.int c),some (.ref cl),some (.str fh),some (.ref gl),some (.ref wl),none,none,none,none,none,none] H1) ?_ (λN hN=>?_)
  case refine_2=>
   simp_all only[yn]
   exact⟨by decide,by decide,λl H1 ws s1 nl hl l4 Ir Nk wz=>hN _ l ws s1 hl l4 Ir Nk wz⟩
  rintro H1 wl ws s1 Ml w4 Ir Nk wz
  change tSeq _ _ _ _ _
  refine aU (λN=>∀H2 rl,aD H1 H2->H1 rl=none->H2 rl=some (.lst [])->N [some (.int c),some (.ref cl),some (.str fh),some (.ref gl),some (.ref wl),some (.ref rl),none,none,none,none,none] H2) ?_ (λN hN=>?_)
  case refine_2=>
   simp_all only[]
   exact⟨YD _,λrl EZ=>hN _ rl (aA EZ) EZ aj⟩
  rintro H2 rl s2 EZ tS
  have E1:H rl=none:=none_of s1 EZ
  change tSeq _ _ _ _ _
  refine aU (λN=>∀su:Int,0<=su->su<3->N [some (.int c),some (.ref cl),some (.str fh),some (.ref gl),some (.ref wl),some (.ref rl),some (.int su),none,none,none,none] H2) ?_ (λN hN=>?_)
  case refine_2=>
   simp_all only[bK]
   exact⟨by decide,hN _ (cg (by decide)) (cH (by decide))⟩
  rintro su X3 X4
  let LH:Rw->Prop:=λr=>Hg cs r.wh/\r.to∈gs/\r.ds.length<=3/\∀d∈r.ds,fL cs d/\CM d
  change tSeq _ _ _ _ _
  refine aU (λN=>∀(H3:Hp) (rs:List Rw) (xs:List V) (m:Nat),aD H1 H3->H3 rl=some (.lst xs)->m<=4->rs.map (·.word)=ws.take m->(∀r∈rs,LH r)->(∃r∈rs,r.wh=none)->cN (upd H rl (.lst [])) H3 ((rs.map GS).map qR) xs->∀z7 z8 z9 yq,N [some (.int c),some (.ref cl),some (.str fh),some (.ref gl),some (.ref wl),some (.ref rl),some (.int su),z7,z8,z9,yq] H3) ?_ (λN hN=>?_)
  case refine_2=>
   have b0:=cg (c:=c+2) (m:=4) (by decide)
   have b1:=cH (c:=c+2) (m:=4) (by decide)
   simp_all only[bK]
   obtain⟨m,em⟩:∃m:Nat,(1+if bQ (c+2) 4 >su then bQ (c+2) 4 else su)=(m:Int):=⟨(1+if bQ (c+2) 4 >su then bQ (c+2) 4 else su).toNat,by split <;>omega⟩
   have m4:m<=4:=by split at em <;>omega
   have VO:su< (m:Int):=by split at em <;>omega
   rw[em]
   refine⟨by decide,by omega,by omega,?_⟩
   rw[YL]
   refine bU (src_range (Ok:=λ_=>True)) (λi σ H3=>aD H1 H3/\∃(rs:List Rw) (xs:List V),H3 rl=some (.lst xs)/\rs.map (·.word)=ws.take i/\(∀r∈rs,LH r)/\(su< (i:Int)->∃r∈rs,r.wh=none)/\cN (upd H rl (.lst [])) H3 ((rs.map GS).map qR) xs/\∃z7 z8 z9 yq,σ=[some (.int c),some (.ref cl),some (.str fh),some (.ref gl),some (.ref wl),some (.ref rl),some (.int su),z7,z8,z9,yq]) ⟨s2,[],[],tS,rfl,(λr hr=>by cases hr),(λz=>absurd z (by omega)),fR,_,_,_,_,rfl⟩ (λ_ _ _ _ _=>trivial) ?_ ?_
   ·intro i x σ H3 H4 hi gy gz
    refine(?_:let G_:Prop:=_;G_)
    intro G_
    obtain⟨s3,rs,xs,hx,ew,ok,sure,rx,z7,z8,z9,yq,rfl⟩:=gy
    obtain⟨rfl,rfl⟩:=gz
    dsimp only[G_]
    have my:=s1.trans s3
    have xl:xs.length=i:=by
     have h1:=a8.length rx
     have h2:=congrArg List.length ew
     rw[Yr,Yr] at h1
     rw[Yr,YK] at h2
     omega
    have SO:i<ws.length:=by omega
    simp only[gName,YU,YT,Zb]
    change tSeq _ _ _ _ _
    refine aU (λN=>N [some (.int c),some (.ref cl),some (.str fh),some (.ref gl),some (.ref wl),some (.ref rl),some (.int su),some (.int (i:Int)),some .cP,z9,yq] H4) ?_ (λN hN=>?_)
    case refine_2=>
     simp_all only[]
     exact hN
    have KO:dr (upd H rl (.lst [])) H4:=λb ys e=>by
     by_cases z:b=rl
     ·subst z;exact⟨_,hx⟩
     ·rw[aw z] at e;exact⟨_,my _ _ e⟩
    change tSeq _ _ _ _ _
    refine aU (λN=>∀H5 v wh,aD H4 H5->di (upd H rl (.lst [])) H5 (J3 wh) v->Hg cs wh->((i:Int)=su->wh=none)->∀z9,N [some (.int c),some (.ref cl),some (.str fh),some (.ref gl),some (.ref wl),some (.ref rl),some (.int su),some (.int (i:Int)),some v,z9,yq] H5) ?_ (λN hN=>?_)
    case refine_2=>
     have Af:=hN H4 .cP none (aD.refl _) Ky trivial (λ_=>rfl)
     refine(?_:let G_:Prop:=_;G_)
     intro G_
     obtain⟨q,x,VP,VQ,hq⟩:=ca (c+50* (i:Int)+1)
     dsimp only[G_]
     have f0:=cg (c:=c+50* (i:Int)+2) (m:=2) (by decide)
     have f1:=cH (c:=c+50* (i:Int)+2) (m:=2) (by decide)
     by_cases z1:(i:Int)=su
     ·refine c7 (λY N k=>by simp_all only[bK];rw[if_neg (λz=>z z1),if_neg (by decide)];exact k) ?_
      simp_all only[]
      exact Af _
     by_cases z2:0<bQ (c+50* (i:Int)) 3
     ·refine dz (λY N k=>by simp_all only[bK];rw[if_pos z1];exact⟨bC (by omega) (by omega),by decide,by rw[if_pos z2];exact k⟩) ?_
      obtain⟨fb,VR,VS⟩:∃w,lJ [V.str (Str.ofString "from"),V.str (Str.ofString "below")] (bQ (c+50* (i:Int)+2) 2)=some (.str w)/\(w=Str.ofString "from"\/w=Str.ofString "below"):=by
       have o:bQ (c+50* (i:Int)+2) 2=0\/bQ (c+50* (i:Int)+2) 2=1:=by omega
       rcases o with o | o
       ·rw[o];exact⟨_,rfl,.inl rfl⟩
       ·rw[o];exact⟨_,rfl,.inr rfl⟩
      simp_all only[bK]
      refine⟨bC (by omega) (by omega),_,my _ _ fK,by omega,_,my _ _ fK,_,VQ,_,rfl,_,my _ _ hq,_,at0,by omega,λp np=>⟨bC (by omega) (by omega),by decide,_,aj,_,VR,bC (by omega) (by omega),by decide,by omega,λp1 H5 s5 LG KQ=>?_⟩⟩
      have FJ:=(aA np).trans s5
      exact hN H5 (.ref p1) (some (x.1,fb,bQ (c+50* (i:Int)+3) 4)) FJ (Aa (KO.trans FJ) KQ bS bS dA) ⟨List.mem_map.mpr ⟨x,VP,rfl⟩,VS⟩ (λz=>absurd z z1) _
     ·refine c7 (λY N k=>by simp_all only[bK];rw[if_pos z1];exact⟨bC (by omega) (by omega),by decide,by rw[if_neg z2];exact k⟩) ?_
      simp_all only[]
      exact Af _
    rintro H5 v wh s5 QE VT VU z9
    change tSeq _ _ _ _ _
    refine aU (λN=>∀H6 dl ds,aD H5 H6->di H5 H6 (.lst (List.map Bb ds)) (.ref dl)->ds.length<=3->(∀d∈ds,fL cs d/\CM d)->N [some (.int c),some (.ref cl),some (.str fh),some (.ref gl),some (.ref wl),some (.ref rl),some (.int su),some (.int (i:Int)),some v,z9,some (.ref dl)] H6) ?_ (λN hN=>?_)
    case refine_2=>
     simp_all only[yo]
     exact⟨bC (by omega) (by omega),cs,rc.mono (my.trans s5),c3,we,yN,cw,λdl H6 ds s6 n6 r6 l6 g6=>hN _ dl ds s6 r6 l6 g6⟩
    rintro H6 dl ds s6 G0 ld gd
    have KS:=s5.trans s6
    have Hs:=my.trans KS
    refine(?_:let G_:Prop:=_;G_)
    intro G_
    obtain⟨go,QC,QD⟩:=ga (c+50* (i:Int)+4)
    dsimp only[G_]
    simp_all only[bK,eL]
    refine⟨.inl ⟨rfl,_,bI.of (KS _ _ hx)⟩,_,(s3.trans KS) _ _ Ml,.str ws[i],bP (by rw[Yu,Yw SO];rfl),bC (by omega) (by omega),_,Hs _ _ Hn,by rw[Yr];omega,_,Hs _ _ Hn,.str go,by rw[Yr];exact QD,by omega,λp H8 s8 np ep=>⟨xs,(KS.trans s8) _ _ hx,by omega,cA (s3.trans (KS.trans s8)) EZ,rs++ [⟨ws[i],wh,ds,go⟩],_,aj,?_,λr hr=>?_,λz=>?_,?_,_,rfl⟩⟩
    ·rw[Yx,ew,take_snoc SO];rfl
    ·rcases List.mem_append.mp hr with hr | hr
     ·exact ok r hr
     ·rw[List.mem_singleton.mp hr];exact⟨VT,QC,ld,gd⟩
    ·by_cases y:(i:Int)=su
     ·exact⟨_,YO _ YA,VU y⟩
     ·refine(?_:let G_:Prop:=_;G_)
      intro G_
      obtain⟨r,hr,e⟩:=sure (by omega)
      dsimp only[G_]
      exact⟨r,Zg _ hr,e⟩
    ·show a8 (hV _ (upd _ _ _)) _ _
     rw[iN (ys:=[]) aj,Yx,Yx]
     exact p7 (Kz (KO.trans (KS.trans s8)) ep bS (QE.mono (s6.trans s8)) ((G0.low (KO.trans s5)).mono s8) bS) (rx.mono (KS.trans s8))
   ·intro σ H3 df
    refine(?_:let G_:Prop:=_;G_)
    intro G_
    obtain⟨s3,rs,xs,hx,ew,ok,sure,rx,z7,z8,z9,yq,rfl⟩:=df
    dsimp only[G_]
    exact hN _ rs xs m s3 hx m4 ew ok (sure VO) rx _ _ _ _
  rintro H3 rs xs m s3 hx m4 ew ok sure rx z7 z8 z9 yq
  obtain⟨wz,VW⟩:=wz
  have Nl:∀r∈rs,r.word∈ws:=λr hr=>by
   have:r.word∈rs.map (·.word):=List.mem_map.mpr ⟨r,hr,rfl⟩
   rw[ew] at this
   exact List.mem_of_mem_take this
  have my:=s1.trans s3
  have xl:xs.length=rs.length:=by have:=a8.length rx;rw[Yr,Yr] at this;omega
  have VX:rs.length<=4:=by have:=congrArg List.length ew;rw[Yr,YK] at this;omega
  simp_all only[bK]
  exact⟨by decide,by omega,λp H4 s4 np ep=>kk (.ref p) H4 (.pick (1+bQ (c+4) 2) rs) (my.trans s4) (Aa (.of (my.trans s4)) ep bS dA (vV E1 (s4 _ _ hx) ((rx.mono s4).low (.of (aA E1))))) ⟨by omega,λr hr=>⟨by have:=(ok r hr).2.2.1;omega,λd hd=>((ok r hr).2.2.2 d hd).1⟩⟩ ⟨⟨VX,⟨wz,λr hr=>VW _ (Nl r hr)⟩,sure⟩,by rw[ew];exact Ir.sublist (List.take_sublist _ _),λr hr=>⟨Nk _ (Nl r hr),(ok r hr).1,(ok r hr).2.1,λd hd=>((ok r hr).2.2.2 d hd).2⟩⟩⟩
theorem mG:aT ["_law_script","_law_at","_law_turns","_law_most","_law_cell_here","_law_names","_law_acts","_law_clock","_law_counts","_law_asks","_law_places","_law_k","_law_inner","_law_what_here","_law_final"] ["_law_script","_law_at","_law_turns","_law_most"] (ar (top 48)):=⟨rfl,rfl,rfl,by decide +kernel,rfl,by decide +kernel,by decide +kernel⟩
noncomputable def dg (ns:List Str) (i:Nat):Str:=ns.getD i default
theorem Cu {ns:List Str} (h:ns.length=12) {a:Nat} (h1:1<=a) (h3:a<=3):C8 (List.map V.str ns) (some 3) (some (3+ (a:Int)))=((List.range a).map λk=>dg ns (3+k)).map V.str:=by
 match ns,h with
 | [n0,n1,n2,n3,n4,n5,n6,n7,n8,n9,X5,X6],_=>
  have:a=1\/a=2\/a=3:=by omega
  rcases this with rfl | rfl | rfl <;>rfl
theorem E2 {ns:List Str} {i:Nat} (h:i<ns.length):dg ns i∈ns:=by
 unfold dg
 rw[Za,Yw h]
 exact YV h
theorem Iu {ns:List Str} (nd:ns.Nodup) {I:List Nat} (hI:I.Nodup) (hl:∀i∈I,i<ns.length):(I.map (dg ns)).Nodup:=by
 unfold List.Nodup
 rw[List.pairwise_map]
 refine List.Pairwise.imp_of_mem ?_ hI
 intro i j hi hj ne e
 have h1:=hl i hi
 have h2:=hl j hj
 unfold dg at e
 rw[Za,Za,Yw h1,Yw h2] at e
 exact ne ((List.getElem_inj nd).mp e)
noncomputable def gA (ns:List Str) (a:Nat) (tu:Int):List (Str×Wt):=(List.range a).map λk=>(dg ns (3+k),Wt.ask (dg ns 0) tu (dg ns 11) (dg ns (6+k)))
noncomputable def eY (ns:List Str) (W:List Wt):List (Str×Wt):=W.mapIdx λk x=>(dg ns (6+k),x)
theorem E3 {ns:List Str} {W:List Wt} {x:Wt}:eY ns (W++ [x])=eY ns W++ [(dg ns (6+W.length),x)]:=by
 unfold eY
 rw[List.mapIdx_concat]
theorem qa {n:Str} {x:Wt}:∀{ps:List (Str×Wt)},(ps.map (·.1)).Nodup->(n,x)∈ps->look ps n=some x
 | [],_,h=>by cases h
 | p::ps,nd,h=>by
  rw[Ys,List.nodup_cons] at nd
  unfold look
  rcases List.mem_cons.mp h with e | e
  ·rw[<-e,List.find?_cons_of_pos (by simp)];rfl
  ·have:p.1≠n:=λz=>nd.1 (by rw[z];exact List.mem_map.mpr ⟨_,e,rfl⟩)
   rw[List.find?_cons_of_neg (by simpa using this)]
   exact qa nd.2 e
theorem Cv {ns:List Str}:∀W:List Wt,(eY ns W).map (·.1)=((List.range W.length).map (6+·)).map (dg ns):=λW=>by
 unfold eY
 refine List.ext_getElem (by simp) λi h1 h2=>by simp
theorem KU {ns:List Str} {a:Nat} {tu:Int} {cs:List (Str×Int)} {W:List Wt} {fw:Wt} (h:ns.length=12) (nd:ns.Nodup) (LI:∀w∈ns,EH w) (a1:1<=a) (a3:a<=3) (lW:W.length=a) (c3:cs.length<=3) (we:dg ns 0∈cs.map (·.1)) (yN:(cs.map (·.1)).Nodup) (cm:∀x∈cs,0<=x.2/\x.2<=1000)
  (Iw:∀x∈W,mf cs x/\mC cs ((List.range a).map λk=>dg ns (3+k)) x) (gf:mf cs fw) (wf:mC cs ((List.range a).map λk=>dg ns (3+k)) fw):LF ⟨cs,gA ns a tu++eY ns W++ [(dg ns 11,fw)]⟩ ((List.range a).map λk=>dg ns (3+k)):=by
 have en:(gA ns a tu++eY ns W++ [(dg ns 11,fw)]).map (·.1)=((List.range a).map (3+·)++ (List.range a).map (6+·)++ [11]).map (dg ns):=by
  rw[Yx,Yx,Cv,lW,Yx,Yx]
  unfold gA
  rw[YZ,YZ,YZ]
  rfl
 have KW:((List.range a).map (3+·)++ (List.range a).map (6+·)++ [11]).Nodup/\∀i∈((List.range a).map (3+·)++ (List.range a).map (6+·)++ [11]),i<12:=by
  have:a=1\/a=2\/a=3:=by omega
  rcases this with rfl | rfl | rfl <;>decide
 have np:((gA ns a tu++eY ns W++ [(dg ns 11,fw)]).map (·.1)).Nodup:=by rw[en];exact Iu nd KW.1 (by rw[h];exact KW.2)
 have lf:look (gA ns a tu++eY ns W++ [(dg ns 11,fw)]) (dg ns 11)=some fw:=qa np (by simp)
 have la:∀k x,W[k]?=some x->look (gA ns a tu++eY ns W++ [(dg ns 11,fw)]) (dg ns (6+k))=some x:=λk x e=>qa np (by
  refine Zg _ (YO _ ?_)
  unfold eY
  rw[List.mem_mapIdx]
  obtain⟨h1,h2⟩:=List.getElem?_eq_some_iff.mp e
  exact⟨k,h1,by rw[h2]⟩)
 have na:∀{x},mC cs ((List.range a).map λk=>dg ns (3+k)) x->∀(g:Gm) n CD f,look g.ps n=some x->dE g CD (f+1) n=some n:=λ{x} wx g n CD f lk=>by
  unfold dE
  rw[lk]
  cases x with
  | ask c k a b=>exact wx.elim
  | fin t b=>rfl
  | score c=>rfl
  | pick w rs=>rfl
  | d7 p t b rs=>rfl
 refine⟨⟨yN,np,by show cs.length<=100;omega,?_,?_,λp hp=>?_⟩,cm,λp hp=>?_,?_,λnm VY CD=>?_⟩
 ·show(gA ns a tu++eY ns W++ [(dg ns 11,fw)]).length<=100
  unfold gA eY
  rw[Yy,Yy,Yr,Y0,List.length_mapIdx,Y4]
  omega
 ·show 0< (gA ns a tu++eY ns W++ [(dg ns 11,fw)]).length
  rw[Yy,Y4]
  omega
 ·rcases List.mem_append.mp hp with hp | hp
  ·rcases List.mem_append.mp hp with hp | hp
   ·obtain⟨k,_,rfl⟩:=List.mem_map.mp hp
    exact we
   ·unfold eY at hp
    rw[List.mem_mapIdx] at hp
    obtain⟨k,hk,rfl⟩:=hp
    exact(Iw _ (YV hk)).1
  ·rw[List.mem_singleton.mp hp];exact gf
 ·have:p.1∈(gA ns a tu++eY ns W++ [(dg ns 11,fw)]).map (·.1):=List.mem_map.mpr ⟨p,hp,rfl⟩
  rw[en] at this
  obtain⟨i,hi,e⟩:=List.mem_map.mp this
  rw[<-e]
  exact LI _ (E2 (by rw[h];exact KW.2 i hi))
 ·refine⟨dg ns 3,List.mem_map.mpr ⟨0,List.mem_range.mpr (by omega),rfl⟩,?_⟩
  show((gA ns a tu++eY ns W++ [(dg ns 11,fw)]).map (·.1)).head?=some (dg ns 3)
  rw[en]
  have:a=1\/a=2\/a=3:=by omega
  rcases this with rfl | rfl | rfl <;>rfl
 ·obtain⟨k,hk,rfl⟩:=List.mem_map.mp VY
  have hk:=List.mem_range.mp hk
  have lk:look (gA ns a tu++eY ns W++ [(dg ns 11,fw)]) (dg ns (3+k))=some (.ask (dg ns 0) tu (dg ns 11) (dg ns (6+k))):=qa np (Zg _ (Zg _ (List.mem_map.mpr ⟨k,List.mem_range.mpr hk,rfl⟩)))
  have SQ:k<W.length:=by omega
  have lw:=la k _ (Yw SQ)
  have ww:=(Iw _ (YV SQ)).2
  by_cases z:tu<=CD.getD (bF cs (dg ns 0)) 0
  ·refine⟨dg ns 11,fw,?_,lf,wf⟩
   unfold dE
   rw[lk]
   show(if tu<=CD.getD (bF cs (dg ns 0)) 0 then _ else _)=_
   rw[if_pos z]
   exact na wf _ _ _ 1 lf
  ·refine⟨dg ns (6+k),_,?_,lw,ww⟩
   unfold dE
   rw[lk]
   show(if tu<=CD.getD (bF cs (dg ns 0)) 0 then _ else _)=_
   rw[if_neg z]
   exact na ww _ _ _ 1 lw
theorem Np {ns:List Str} {m j:Nat} {c mo tu:Int} {cs:List (Str×Int)} (h:ns.length=12) (nd:ns.Nodup) (LI:∀w∈ns,EH w) (hm:m<=2) (hj:j<=m) (Qp:1<=mo) (SR:mo<=100) (SS:1<=tu) (SU:tu<=100)
  (e:cs=((List.range m).map λk:Nat=>((dg ns (1+k),1+bQ (c+7+ (k:Int)) mo):Str×Int)).take j++ (dg ns 0,tu)::((List.range m).map λk:Nat=>((dg ns (1+k),1+bQ (c+7+ (k:Int)) mo):Str×Int)).drop j):
  cs.length<=3/\dg ns 0∈cs.map (·.1)/\(cs.map (·.1)).Nodup/\(∀x∈cs,EH x.1)/\∀x∈cs,0<=x.2/\x.2<=1000:=by
 have ei:cs.map (·.1)=(((List.range m).map (1+·)).take j++0::((List.range m).map (1+·)).drop j).map (dg ns):=by
  rw[e,Yx,Ys,Yx,Ys,List.map_take,List.map_take,List.map_drop,List.map_drop,YZ,YZ]
  rfl
 have KW:(((List.range m).map (1+·)).take j++0::((List.range m).map (1+·)).drop j).Nodup/\∀i∈(((List.range m).map (1+·)).take j++0::((List.range m).map (1+·)).drop j),i<12:=by
  have N8:m=0\/m=1\/m=2:=by omega
  have VZ:j=0\/j=1\/j=2:=by omega
  rcases N8 with rfl | rfl | rfl <;>rcases VZ with rfl | rfl | rfl <;>decide
 refine⟨?_,?_,by rw[ei];exact Iu nd KW.1 (by rw[h];exact KW.2),λx hx=>?_,λx hx=>?_⟩
 ·rw[e,Yy,YC,YK,List.length_drop,Yr,Y0];omega
 ·rw[ei];exact List.mem_map.mpr ⟨0,by simp,rfl⟩
 ·have:x.1∈cs.map (·.1):=List.mem_map.mpr ⟨x,hx,rfl⟩
  rw[ei] at this
  obtain⟨i,hi,ex⟩:=List.mem_map.mp this
  rw[<-ex]
  exact LI _ (E2 (by rw[h];exact KW.2 i hi))
 ·rw[e] at hx
  have g:∀x∈((List.range m).map λk:Nat=>((dg ns (1+k),1+bQ (c+7+ (k:Int)) mo):Str×Int)),0<=x.2/\x.2<=1000:=λx hx=>by
   obtain⟨k,_,rfl⟩:=List.mem_map.mp hx
   have b0:=cg (c:=c+7+ (k:Int)) (m:=mo) (by omega)
   have b1:=cH (c:=c+7+ (k:Int)) (m:=mo) (by omega)
   show 0<=1+bQ _ _/\1+bQ _ _<=1000
   omega
  rcases List.mem_append.mp hx with hx | hx
  ·exact g x (List.mem_of_mem_take hx)
  ·rcases List.mem_cons.mp hx with rfl | hx
   ·show 0<=tu/\tu<=1000;omega
   ·exact g x (List.mem_of_mem_drop hx)
theorem KY (T:Txt K mg aE aF aB aH af av):bX P w K mg base (bg P w) 4 "_law_game" ["_law_script","_law_at","_law_turns","_law_most"] (EM K):=by
 have aJ:bX P w K mg base (bg P w) 1 "_law_mixed" ["_law_cell_here","_law_many"] bK:=nV T
 have eS:bX P w K mg base (bg P w) 1 "_law_cell" ["_law_script","_law_k"] (KA K):=Bv T
 have ia:bX P w K mg base (bg P w) 2 "_law_words" ["_law_cell_here","_law_n"] yn:=EW T
 have wg:bX P w K mg base (bg P w) 3 "_law_throw" ["_law_cell_here","_law_counts","_law_clock","_law_goals"] uS:=KP T
 have yt:bX P w K mg base (bg P w) 3 "_law_pick" ["_law_cell_here","_law_counts","_law_clock","_law_goals"] uS:=KR T
 refine T.xD.du (λ_ _ _ _ _ _=>tM λ_ _ _ _=>rfl) λf fd F=>F.d3 mG (λvs H Q E h=>?_) (λbT A outer s H vs Q E hr h=>?_)
 ·obtain⟨_,_,_,_,_,rfl,_⟩:=h;rfl
 ·refine(?_:let G_:Prop:=_;G_)
  intro G_
  obtain⟨sc,LJ,at_,tu,mo,rfl,hS,V0,V1,SS,SU,Qp,SR,kk⟩:=h
  dsimp only[G_]
  clear G_
  have nd:=mG.nd
  refine⟨_,(ah (aI (i:=4) nd rfl (Or.inr rfl) (aK eS (hr.mono (by decide)) rfl au.pass (aa (pv 0) (aa (pv 1) ag (se rfl)) (se rfl)) (he:=se rfl) (hpl:=na rfl)))
  (ah (aI (i:=5) nd rfl (Or.inr rfl) (aK ia (hr.mono (by decide)) rfl au.pass (aa (pv 4) (aa ae ag (se rfl)) (se rfl)) (he:=se rfl) (hpl:=na rfl)))
  (ah (aI (i:=6) nd rfl (Or.inl rfl) (aG aO ae (aK aJ (hr.mono (by decide)) rfl au.pass (aa (aG aO (pv 4) ae) (aa ae ag (se rfl)) (se rfl)) (he:=se rfl) (hpl:=na rfl))))
  (ah (aI (i:=7) nd rfl (Or.inr rfl) (aq aQ (pv 5) ae (λ_ _=>rfl)))
  (ah (lR (i:=8) rfl nd rfl rfl (N:=["_law_script","_law_at","_law_turns","_law_most","_law_cell_here","_law_names","_law_acts","_law_clock","_law_counts","_law_asks","_law_places","_law_k","_law_inner","_law_what_here","_law_final"]) (so:=ar (top 48)) (N':=["_law_k","_law_most","_law_cell_here","_law_names"]) (k:=1) (fr:=[3,4,5]) rfl rfl ⟨rfl,by decide +kernel,by decide +kernel,by decide +kernel,rfl,by decide +kernel,by decide +kernel⟩ (cC rfl T.z_range (aa (aK aJ (hr.mono (by decide)) rfl au.pass (aa (aG aO (pv 4) ae) (aa ae ag (se rfl)) (se rfl)) (he:=se rfl) (hpl:=na rfl)) ag (se rfl))) (λ_ _ _ _ _=>(aW (i:=0) (show(["_law_k","_law_most","_law_cell_here","_law_names"]:List Str).Nodup by decide +kernel) rfl (Or.inl rfl))) (λ_ _ _ _ _=>dk)
   (λ_ _ _ _ _=>(a5 (aa (aq aQ (pv 3) (aG aO ae (pv 0)) (λ_ _=>rfl)) (aa (aG aO ae (aK aJ (hr.mono (by decide)) rfl au.pass (aa (aG aO (aG aO (pv 2) ae) (pv 0)) (aa (pv 1) ag (se rfl)) (se rfl)) (he:=se rfl) (hpl:=na rfl))) ag (se rfl)) (se rfl)))))
  (ah (bG (fH YN PySem.F.slot_list_insert PySem.F.type_list_insert uF.r (pv 8) (aa (aK aJ (hr.mono (by decide)) rfl au.pass (aa (aG aO (pv 4) ae) (aa (aG aO (aX bq (by rfl) T.z_len YH (aa (pv 8) ag (se rfl)) (he:=se rfl) (hpl:=na rfl)) ae) ag (se rfl)) (se rfl)) (he:=se rfl) (hpl:=na rfl)) (aa (a5 (aa (pv 7) (aa (pv 2) ag (se rfl)) (se rfl))) ag (se rfl)) (se rfl))))
  (ah (aI (i:=9) nd rfl (Or.inr rfl) (qo (qx (K:=K)) (pv 5) (pV ae) (pV (aG aO ae (pv 6)))))
  (ah (lR (i:=10) rfl nd rfl rfl (N:=["_law_script","_law_at","_law_turns","_law_most","_law_cell_here","_law_names","_law_acts","_law_clock","_law_counts","_law_asks","_law_places","_law_k","_law_inner","_law_what_here","_law_final"]) (so:=ar (top 48)) (N':=["_law_k","_law_turns","_law_names","_law_clock","_law_asks"]) (k:=1) (fr:=[2,5,7,9]) rfl rfl ⟨rfl,by decide +kernel,by decide +kernel,by decide +kernel,rfl,by decide +kernel,by decide +kernel⟩ (cC rfl T.z_range (aa (pv 6) ag (se rfl))) (λ_ _ _ _ _=>(aW (i:=0) (show(["_law_k","_law_turns","_law_names","_law_clock","_law_asks"]:List Str).Nodup by decide +kernel) rfl (Or.inl rfl))) (λ_ _ _ _ _=>dk)
   (λ_ _ _ _ _=>(a5 (aa (aq aQ (pv 4) (pv 0) (λ_ _=>rfl)) (aa (a5 (aa aZ (aa (pv 3) (aa (pv 1) (aa (aq aQ (pv 2) ae (λ_ _=>rfl)) (aa (aq aQ (pv 2) (aG aO ae (pv 0)) (λ_ _=>rfl)) ag (se rfl)) (se rfl)) (se rfl)) (se rfl)) (se rfl))) ag (se rfl)) (se rfl)))))
  (ah (cI PassesOwn.never rfl (cC rfl T.z_range (aa (pv 6) ag (se rfl))) (aW (i:=11) nd rfl (Or.inl rfl)) (ah (aI (i:=12) nd rfl (Or.inl rfl) (aK eS (hr.mono (by decide)) rfl au.pass (aa (pv 0) (aa (aG aO (aG aO (pv 1) ae) (pv 11)) ag (se rfl)) (se rfl)) (he:=se rfl) (hpl:=na rfl)))
  (ah (aI (i:=13) nd rfl (Or.inl rfl) (aK yt (hr.mono (by decide)) rfl au.pass (aa (pv 12) (aa (pv 8) (aa (pv 7) (aa (pv 9) ag (se rfl)) (se rfl)) (se rfl)) (se rfl)) (he:=se rfl) (hpl:=na rfl)))
  (ah (bf (aL bp (aK aJ (hr.mono (by decide)) rfl au.pass (aa (aG aO (pv 12) ae) (aa ae ag (se rfl)) (se rfl)) (he:=se rfl) (hpl:=na rfl)) ae (aS _)) (ao (aI (i:=13) nd rfl (Or.inl rfl) (aK wg (hr.mono (by decide)) rfl au.pass (aa (pv 12) (aa (pv 8) (aa (pv 7) (aa (pv 9) ag (se rfl)) (se rfl)) (se rfl)) (se rfl)) (he:=se rfl) (hpl:=na rfl))))
   aY)
  (ao (bG (fH YN Zh Zi dj.r (pv 10) (aa (a5 (aa (aq aQ (pv 5) (aG aO ae (pv 11)) (λ_ _=>rfl)) (aa (pv 13) ag (se rfl)) (se rfl))) ag (se rfl)))))))))
  (ah (aI (i:=14) nd rfl (Or.inl rfl) (a5 (aa aZ (aa (aq ai (aq aQ (pv 8) (aK aJ (hr.mono (by decide)) rfl au.pass (aa (aG aO (pv 4) ae) (aa (aX bq (by rfl) T.z_len YH (aa (pv 8) ag (se rfl)) (he:=se rfl) (hpl:=na rfl)) ag (se rfl)) (se rfl)) (he:=se rfl) (hpl:=na rfl)) (λ_ _=>rfl)) ae (λ_ _=>rfl)) ag (se rfl)) (se rfl))))
  (ah (bf (aL bp (aK aJ (hr.mono (by decide)) rfl au.pass (aa (aG aO (pv 4) ae) (aa ae ag (se rfl)) (se rfl)) (he:=se rfl) (hpl:=na rfl)) ae (aS _)) (ao (aI (i:=14) nd rfl (Or.inl rfl) (a5 (aa aZ (aa (a5 (aa (aG gX (aK aJ (hr.mono (by decide)) rfl au.pass (aa (aG aO (pv 4) ae) (aa ae ag (se rfl)) (se rfl)) (he:=se rfl) (hpl:=na rfl)) ae) (aa ae ag (se rfl)) (se rfl))) ag (se rfl)) (se rfl)))))
   aY)
  (ah (bG (fH YN Zh Zi dj.r (pv 10) (aa (a5 (aa (aq aQ (pv 5) ae (λ_ _=>rfl)) (aa (pv 14) ag (se rfl)) (se rfl))) ag (se rfl))))
  (ao (aV (a5 (aa (pv 8) (aa (pv 10) ag (se rfl)) (se rfl))))))))))))))))),?_⟩
  refine(?_:let bM:TS:=_;let bN:TS:=_;let bO:TS:=_;let cM:TS:=_;let oW:TS:=_;let x8:TS:=_;let Em:TS:=_;let Ip:TS:=_;let Ng:TS:=_;let Nh:TS:=_;let EY:TS:=_;let Nq:TS:=_;let Nr:TS:=_;tSeq bM (tSeq bN (tSeq bO (tSeq cM (tSeq oW (tSeq x8 (tSeq Em (tSeq Ip (tSeq Ng (tSeq Nh (tSeq EY (tSeq Nq Nr))))))))))) _ _ _)
  intro bM bN bO cM oW x8 Em Ip Ng Nh EY Nq Nr
  have sl:=sizeLine_eq
  change tSeq _ _ _ _ _
  refine aU (λN=>∀c:Int,N [some (.ref sc),some (.int at_),some (.int tu),some (.int mo),some (.int c),none,none,none,none,none,none,none,none,none,none] H) ?_ (λN hN=>?_)
  case refine_2=>
   simp_all only[KA]
   exact⟨LJ,hS,by omega,by omega,λn=>hN n⟩
  rintro c
  change tSeq _ _ _ _ _
  refine aU (λN=>∀H1 nl ns,aD H H1->H1 nl=some (.lst (List.map V.str ns))->ns.length=12->ns.Nodup->(∀w∈ns,EH w)->N [some (.ref sc),some (.int at_),some (.int tu),some (.int mo),some (.int c),some (.ref nl),none,none,none,none,none,none,none,none,none] H1) ?_ (λN hN=>?_)
  case refine_2=>
   simp_all only[yn]
   exact⟨by decide,by decide,λl H1 ws s1 nl hl l4 Ir Nk _=>hN _ l ws s1 hl l4 Ir Nk⟩
  rintro H1 nl ns s1 LK Oo SV LI
  have na:∀(i:Nat),i<12->lJ (List.map V.str ns) (i:Int)=some (.str (dg ns i)):=λi hi=>bP (by rw[Yu,Yw (by omega)];show some (V.str _)=some (V.str (ns.getD i default));rw[Za,Yw (by omega)];rfl)
  have m6:=cg (c:=c+6) (m:=3) (by decide)
  have m7:=cH (c:=c+6) (m:=3) (by decide)
  obtain⟨a,ea⟩:∃a:Nat,1+bQ (c+6) 3=(a:Int):=⟨(1+bQ (c+6) 3).toNat,by omega⟩
  change tSeq _ _ _ _ _
  refine aU (λN=>N [some (.ref sc),some (.int at_),some (.int tu),some (.int mo),some (.int c),some (.ref nl),some (.int (a:Int)),none,none,none,none,none,none,none,none] H1) ?_ (λN hN=>?_)
  case refine_2=>
   simp_all only[bK]
   rw[ea]
   exact⟨by decide,hN⟩
  change tSeq _ _ _ _ _
  refine aU (λN=>N [some (.ref sc),some (.int at_),some (.int tu),some (.int mo),some (.int c),some (.ref nl),some (.int (a:Int)),some (.str (dg ns 0)),none,none,none,none,none,none,none] H1) ?_ (λN hN=>?_)
  case refine_2=>
   simp_all only[LK]
   exact⟨_,na 0 (by decide),hN⟩
  have m9:=cg (c:=c+9) (m:=3) (by decide)
  have X7:=cH (c:=c+9) (m:=3) (by decide)
  obtain⟨m,em⟩:∃m:Nat,bQ (c+9) 3=(m:Int):=⟨(bQ (c+9) 3).toNat,by omega⟩
  change tSeq _ _ _ _ _
  refine aU (λN=>∀H2 cl ys,aD H1 H2->H1 cl=none->H2 cl=some (.lst ys)->a8 (cE H2 cl) (((List.range m).map λk:Nat=>((dg ns (1+k),1+bQ (c+7+ (k:Int)) mo):Str×Int)).map λc=>Dat.tup [.str c.1,.int c.2]) ys->N [some (.ref sc),some (.int at_),some (.int tu),some (.int mo),some (.int c),some (.ref nl),some (.int (a:Int)),some (.str (dg ns 0)),some (.ref cl),none,none,none,none,none,none] H2) ?_ (λN hN=>?_)
  case refine_2=>
   simp_all only[bK]
   rw[em]
   refine⟨by decide,by omega,by omega,?_⟩
   rw[YL]
   refine comp_map src_range (λ_ _ _ _ h=>by rw[h.1];exact aD.refl _) (by omega) (λi y H2=>∃q,y=.ref q/\H2 q=some (.tup [.str (dg ns (1+i)),.int (1+bQ (c+7+ (i:Int)) mo)])) (λi y H2 H3 s3 h=>by obtain⟨q,e,hq⟩:=h;exact⟨q,e,s3 _ _ hq⟩) ?_ ?_
   ·rintro i x w0 H2 H3 Q2 hi s2 ⟨rfl,rfl⟩ kq
    simp_all only[Zb,bK,s2 _ _ LK]
    refine⟨_,by have:=na (1+i) (by omega);rwa [Int.natCast_add] at this,by omega,by omega,λp H4 s4 np ep=>kq _ _ s4 ⟨p,rfl,ep⟩⟩
   ·intro ys H2 s2 ly hy D n1 n2
    refine hN _ D ys (s2.trans (aA n2)) n1 aj (a8.of (by rw[Yr,Yr,Y0,ly]) λi dd v e1 e2=>?_)
    rw[Yu,Yu] at e1
    refine(?_:let G_:Prop:=_;G_)
    intro G_
    obtain⟨x,ex,rfl⟩:=Option.map_eq_some_iff.mp e1
    obtain⟨k,ek,rfl⟩:=Option.map_eq_some_iff.mp ex
    dsimp only[G_]
    obtain⟨h1,h2⟩:=List.getElem?_eq_some_iff.mp ek
    rw[List.getElem_range] at h2
    subst h2
    refine(?_:let G_:Prop:=_;G_)
    intro G_
    obtain⟨q,rfl,hq⟩:=hy i v e2
    dsimp only[G_]
    have qD:q≠D:=λz=>by rw[z,n2] at hq;cases hq
    exact bJ.mpr ⟨q,_,_,rfl,by rw[cK qD,aw qD];exact hq,aN.mpr rfl,bw.mpr rfl⟩
  rintro H2 cl ys s2 V2 fK Ov
  generalize SW:((List.range m).map λk:Nat=>((dg ns (1+k),1+bQ (c+7+ (k:Int)) mo):Str×Int))=os at *
  have yl:ys.length=m:=by have:=Ov.length;rw[Yr,<-SW,Yr,Y0] at this;omega
  change tSeq _ _ _ _ _
  refine aU (λN=>∀(H3:Hp) (cs:List (Str×Int)) (j:Nat),j<=m->cs=os.take j++ (dg ns 0,tu)::os.drop j->aD H1 H3->Rep H3 (Ob cs) (.ref cl)->N [some (.ref sc),some (.int at_),some (.int tu),some (.int mo),some (.int c),some (.ref nl),some (.int (a:Int)),some (.str (dg ns 0)),some (.ref cl),none,none,none,none,none,none] H3) ?_ (λN hN=>?_)
  case refine_2=>
   simp_all only[bK,JG,fK]
   have b0:=cg (c:=c+10) (m:=(ys.length:Int)+1) (by omega)
   have b1:=cH (c:=c+10) (m:=(ys.length:Int)+1) (by omega)
   generalize bQ (c+10) ((ys.length:Int)+1)=b at *
   obtain⟨j,rfl⟩:∃k:Nat,b=(k:Int):=⟨b.toNat,by omega⟩
   rw[YL]
   refine⟨.inl ⟨rfl,_,bI.of fK⟩,by omega,by omega,λp H3 s3 np ep=>⟨ys,s3 _ _ fK,by omega,by omega,by omega,hN _ _ j (by omega) rfl (cA (s2.trans s3) V2) ?_⟩⟩
   have V3:p≠cl:=λz=>by rw[z,fK] at np;cases np
   refine a7.mpr ⟨cl,_,rfl,aj,?_⟩
   rw[Yx,Ys,List.map_take,List.map_drop]
   refine rH (bJ.mpr ⟨p,_,_,rfl,by rw[aw V3];exact ep,aN.mpr rfl,bw.mpr rfl⟩) j (Ov.mono λq o h=>?_)
   have SX:q≠cl:=λz=>by unfold cE at h;rw[if_pos z] at h;cases h
   rw[cK SX] at h
   rw[aw SX]
   exact s3 _ _ h
  rintro H3 cs j jm V4 s3 Ow
  have my:=s1.trans s3
  change tSeq _ _ _ _ _
  refine aU (λN=>∀H4 gl,aD H3 H4->H4 gl=some (.lst (((List.range a).map λk=>dg ns (3+k)).map V.str))->N [some (.ref sc),some (.int at_),some (.int tu),some (.int mo),some (.int c),some (.ref nl),some (.int (a:Int)),some (.str (dg ns 0)),some (.ref cl),some (.ref gl),none,none,none,none,none] H4) ?_ (λN hN=>?_)
  case refine_2=>
   simp_all only[]
   refine⟨_,bI.of (s3 _ _ LK),λgl V5=>hN _ gl (aA V5) ?_⟩
   rw[aj,Cu Oo (by omega) (by omega)]
  rintro H4 gl s4 Hn
  have Iy:=s3.trans s4
  have Hr:=s1.trans Iy
  generalize Nt:((List.range a).map λk=>dg ns (3+k))=gs at *
  have X8:gs.length=a:=by rw[<-Nt,Yr,Y0]
  obtain⟨KZ,Ht,K0,Nu,QF⟩:=Np (cs:=cs) (c:=c) (mo:=mo) Oo SV LI (show m<=2 by omega) jm Qp SR SS SU (by rw[SW];exact V4)
  change tSeq _ _ _ _ _
  refine aU (λN=>∀H5 pl ys,aD H4 H5->H4 pl=none->H5 pl=some (.lst ys)->cN (upd H4 pl (.lst [])) H5 ((gA ns a tu).map λp=>Dat.tup [.str p.1,kK p.2]) ys->N [some (.ref sc),some (.int at_),some (.int tu),some (.int mo),some (.int c),some (.ref nl),some (.int (a:Int)),some (.str (dg ns 0)),some (.ref cl),some (.ref gl),some (.ref pl),none,none,none,none] H5) ?_ (λN hN=>?_)
  case refine_2=>
   simp_all only[]
   refine⟨by omega,by omega,?_⟩
   rw[YL]
   refine comp_map src_range (λ_ _ _ _ h=>by rw[h.1];exact aD.refl _) (by omega) (λi y H2=>∃q t,y=.ref q/\H2 q=some (.tup [.str (dg ns (3+i)),.ref t])/\H2 t=some (.tup [.str (Str.ofString "ask"),.str (dg ns 0),.int tu,.str (dg ns 11),.str (dg ns (6+i))])) (λi y H2 H3 s3 h=>by obtain⟨q,t,e,hq,ht⟩:=h;exact⟨q,t,e,s3 _ _ hq,s3 _ _ ht⟩) ?_ ?_
   ·rintro i x w0 H5 H6 Q2 hi s5 ⟨rfl,rfl⟩ kq
    simp_all only[Zb,(Iy.trans s5) _ _ LK,s5 _ _ Hn]
    refine⟨.str (dg ns (3+i)),bP ?_,_,na 11 (by decide),_,by have:=na (6+i) (by omega);rwa [Int.natCast_add] at this,by omega,λt H7 s7 nt et=>⟨by omega,λq H8 s8 nq eq=>kq _ _ (s7.trans s8) ⟨q,t,rfl,eq,s8 _ _ et⟩⟩⟩
    rw[<-Nt,Yu,Yu,List.getElem?_range (by omega)]
    rfl
   ·intro ys H5 s5 ly hy D n1 n2
    have sD:=aA (o:=.lst ys) n2
    refine hN _ D ys (s5.trans sD) n1 aj (a8.of (by unfold gA;rw[Yr,Yr,Y0,ly]) λi dd v e1 e2=>?_)
    unfold gA at e1
    rw[Yu,Yu] at e1
    refine(?_:let G_:Prop:=_;G_)
    intro G_
    obtain⟨x,ex,rfl⟩:=Option.map_eq_some_iff.mp e1
    obtain⟨k,ek,rfl⟩:=Option.map_eq_some_iff.mp ex
    dsimp only[G_]
    obtain⟨h1,h2⟩:=List.getElem?_eq_some_iff.mp ek
    rw[List.getElem_range] at h2
    subst h2
    refine(?_:let G_:Prop:=_;G_)
    intro G_
    obtain⟨q,t,rfl,hq,ht⟩:=hy i v e2
    dsimp only[G_]
    have li:dr (upd H4 D (.lst [])) (upd H5 D (.lst ys)):=λb zs e=>by
     by_cases z:b=D
     ·subst z;exact⟨_,aj⟩
     ·rw[aw z] at e;exact⟨_,sD _ _ (s5 _ _ e)⟩
    exact ym li (sD _ _ hq) bS (rF li (sD _ _ ht) (bV bS (bV bS (bV dA (bV bS (bV bS fR))))))
  rintro H5 pl ys s5 FL hpl Ov
  have X9:=Hr.trans s5
  have V6:H pl=none:=none_of Hr FL
  change tSeq _ _ _ _ _
  refine aU (λN=>∀(H6:Hp) (W:List Wt) (ys:List V),aD H4 H6->H6 pl=some (.lst ys)->W.length=a->(∀x∈W,mf cs x/\mC cs gs x)->cN (upd H4 pl (.lst [])) H6 ((gA ns a tu++eY ns W).map λp=>Dat.tup [.str p.1,kK p.2]) ys->∀yr wN Hu,N [some (.ref sc),some (.int at_),some (.int tu),some (.int mo),some (.int c),some (.ref nl),some (.int (a:Int)),some (.str (dg ns 0)),some (.ref cl),some (.ref gl),some (.ref pl),yr,wN,Hu,none] H6) ?_ (λN hN=>?_)
  case refine_2=>
   simp_all only[]
   refine⟨by omega,by omega,?_⟩
   rw[YL]
   refine bU (src_range (Ok:=λ_=>True)) (λi σ H6=>aD H4 H6/\∃(W:List Wt) (ys:List V),H6 pl=some (.lst ys)/\W.length=i/\(∀x∈W,mf cs x/\mC cs gs x)/\cN (upd H4 pl (.lst [])) H6 ((gA ns a tu++eY ns W).map λp=>Dat.tup [.str p.1,kK p.2]) ys/\∃yr wN Hu,σ=[some (.ref sc),some (.int at_),some (.int tu),some (.int mo),some (.int c),some (.ref nl),some (.int (a:Int)),some (.str (dg ns 0)),some (.ref cl),some (.ref gl),some (.ref pl),yr,wN,Hu,none]) ⟨s5,[],ys,hpl,rfl,(λx hx=>by cases hx),by rw[show eY ns []=[] from rfl,List.append_nil];exact Ov,_,_,_,rfl⟩ (λ_ _ _ _ _=>trivial) ?_ ?_
   ·intro i x σ H6 H7 hi gy gz
    refine(?_:let G_:Prop:=_;G_)
    intro G_
    obtain⟨s6,W,ys,hy,lW,Iw,ry,yr,wN,Hu,rfl⟩:=gy
    obtain⟨rfl,rfl⟩:=gz
    dsimp only[G_]
    have Hs:=Hr.trans s6
    have V7:ys.length=a+i:=by
     have:=a8.length ry
     rw[Yr,Yy] at this
     unfold gA eY at this
     rw[Yr,Y0,List.length_mapIdx] at this
     omega
    simp only[gName,YU,YT,Zb]
    change tSeq _ _ _ _ _
    refine aU (λN=>∀n:Int,N [some (.ref sc),some (.int at_),some (.int tu),some (.int mo),some (.int c),some (.ref nl),some (.int (a:Int)),some (.str (dg ns 0)),some (.ref cl),some (.ref gl),some (.ref pl),some (.int (i:Int)),some (.int n),Hu,none] H7) ?_ (λN hN=>?_)
    case refine_2=>
     simp_all only[KA]
     exact⟨LJ,Hs.seq hS,by omega,by omega,λn=>hN n⟩
    rintro n
    have QG:dr (upd H4 pl (.lst [])) H7:=λb zs e=>by
     by_cases z:b=pl
     ·subst z;exact⟨_,hy⟩
     ·rw[aw z] at e;exact⟨_,s6 _ _ e⟩
    let WO:Hp->V->Prop:=λH8 v=>∃x,di (upd H4 pl (.lst [])) H8 (kK x) v/\mf cs x/\mC cs gs x
    change tSeq _ _ _ _ _
    refine aU (λN=>∀H8 v,aD H7 H8->WO H8 v->N [some (.ref sc),some (.int at_),some (.int tu),some (.int mo),some (.int c),some (.ref nl),some (.int (a:Int)),some (.str (dg ns 0)),some (.ref cl),some (.ref gl),some (.ref pl),some (.int (i:Int)),some (.int n),some v,none] H8) ?_ (λN hN=>?_)
    case refine_2=>
     simp_all only[uS]
     exact⟨cs,Ow.mono (s4.trans s6),KZ,Ht,K0,Nu,gs,s6 _ _ Hn,by omega,by omega,λu H8 x s8 r8 g8 w8=>hN _ u s8 ⟨x,r8.low QG,g8,w8⟩⟩
    rintro H8 v8 s8 V8
    change tSeq _ _ _ _ _
    refine aU (λN=>∀H8 v,aD H7 H8->WO H8 v->N [some (.ref sc),some (.int at_),some (.int tu),some (.int mo),some (.int c),some (.ref nl),some (.int (a:Int)),some (.str (dg ns 0)),some (.ref cl),some (.ref gl),some (.ref pl),some (.int (i:Int)),some (.int n),some v,none] H8) ?_ (λN hN=>?_)
    case refine_2=>
     simp_all only[bK,uS]
     have SY:=s6.trans s8
     exact⟨by decide,gY (λ_=>⟨cs,Ow.mono (s4.trans SY),KZ,Ht,K0,Nu,gs,SY _ _ Hn,by omega,by omega,λu H9 x s9 r9 g9 w9=>hN _ u (s8.trans s9) ⟨x,r9.low (QG.trans s8),g9,w9⟩⟩) (λ_=>hN _ _ s8 V8)⟩
    intro H9 v9 s9 GZ
    refine(?_:let G_:Prop:=_;G_)
    intro G_
    obtain⟨x,rx,gx,wx⟩:=GZ
    dsimp only[G_]
    have S0:=s6.trans s9
    simp_all only[eL]
    refine⟨.inl ⟨rfl,_,bI.of (s9 _ _ hy)⟩,_,(Iy.trans S0) _ _ LK,_,by have:=na (6+i) (by omega);rwa [Int.natCast_add] at this,by omega,λp J8 CF np ep=>⟨ys,(s9.trans CF) _ _ hy,by omega,cA (S0.trans CF) FL,W++ [x],_,aj,by rw[Yy,lW];rfl,λy Jf=>?_,?_,_,rfl⟩⟩
    ·rcases List.mem_append.mp Jf with Jf | Jf
     ·exact Iw y Jf
     ·rw[List.mem_singleton.mp Jf];exact⟨gx,wx⟩
    ·show a8 (hV _ (upd _ _ _)) _ _
     rw[iN (ys:=[]) aj,E3,<-List.append_assoc,Yx,lW]
     exact p7 (ym (QG.trans (s9.trans CF)) ep bS (rx.mono CF)) (ry.mono (s9.trans CF))
   ·intro σ H6 df
    refine(?_:let G_:Prop:=_;G_)
    intro G_
    obtain⟨s6,W,ys,hy,lW,Iw,ry,yr,wN,Hu,rfl⟩:=df
    dsimp only[G_]
    exact hN _ W ys s6 hy lW Iw ry _ _ _
  rintro H6 W ys s6 hy lW Iw ry yr wN Hu
  have Hs:=Hr.trans s6
  have V7:ys.length=a+a:=by
   have:=a8.length ry
   rw[Yr,Yy] at this
   unfold gA eY at this
   rw[Yr,Y0,List.length_mapIdx] at this
   omega
  have QH:dr (upd H4 pl (.lst [])) H6:=λb zs e=>by
   by_cases z:b=pl
   ·subst z;exact⟨_,hy⟩
   ·rw[aw z] at e;exact⟨_,s6 _ _ e⟩
  let WO:Hp->V->Prop:=λH8 v=>∃x,di (upd H4 pl (.lst [])) H8 (kK x) v/\mf cs x/\mC cs gs x
  change tSeq _ _ _ _ _
  refine aU (λN=>∀H7 v,aD H6 H7->WO H7 v->N [some (.ref sc),some (.int at_),some (.int tu),some (.int mo),some (.int c),some (.ref nl),some (.int (a:Int)),some (.str (dg ns 0)),some (.ref cl),some (.ref gl),some (.ref pl),yr,wN,Hu,some v] H7) ?_ (λN hN=>?_)
  case refine_2=>
   refine(?_:let G_:Prop:=_;G_)
   intro G_
   obtain⟨Bw,ya,e0,QI,sO⟩:=a7.mp (show Rep H3 (.lst _) (.ref cl) from Ow)
   dsimp only[G_]
   clear G_
   cases e0
   have zT:=sO.length
   rw[Yr] at zT
   have c0:0<cs.length:=by
    cases cs with
    | nil=>simp at Ht
    | cons _ _=>exact Nat.zero_lt_succ _
   have b0:=cg (c:=c+12) (m:=(ya.length:Int)) (by omega)
   have b1:=cH (c:=c+12) (m:=(ya.length:Int)) (by omega)
   have h36:=s4.trans s6
   simp_all only[bK,h36 _ _ QI]
   generalize bQ (c+12) (ya.length:Int)=b at *
   obtain⟨k,rfl⟩:∃k:Nat,b=(k:Int):=⟨b.toNat,by omega⟩
   have hk:k<cs.length:=by omega
   obtain⟨v,ev,rv⟩:=sO.at (i:=k) (by rw[Yu,Yw hk];rfl)
   refine(?_:let G_:Prop:=_;G_)
   intro G_
   obtain⟨q,x1,x2,rfl,hq,r1,r2⟩:=bJ.mp (show Rep H3 (.tup _) v from rv)
   obtain rfl:=aN.mp r1
   dsimp only[G_]
   have Dz:(cs[k]).1∈cs.map (·.1):=List.mem_map.mpr ⟨_,YV hk,rfl⟩
   exact⟨by omega,_,bP ev,q,rfl,_,h36 _ _ hq,_,at0,by omega,λp H7 s7 np ep=>hN _ _ s7 ⟨.score (cs[k]).1,ym (QH.trans s7) ep bS bS,Dz,Dz⟩⟩
  rintro H7 v7 s7 V9
  change tSeq _ _ _ _ _
  refine aU (λN=>∀H7 v,aD H6 H7->WO H7 v->N [some (.ref sc),some (.int at_),some (.int tu),some (.int mo),some (.int c),some (.ref nl),some (.int (a:Int)),some (.str (dg ns 0)),some (.ref cl),some (.ref gl),some (.ref pl),yr,wN,Hu,some v] H7) ?_ (λN hN=>?_)
  case refine_2=>
   have b0:=cg (c:=c+14) (m:=19) (by decide)
   have b1:=cH (c:=c+14) (m:=19) (by decide)
   simp_all only[bK]
   refine⟨by decide,gY (λ_=>⟨by decide,by omega,λp H8 s8 np ep=>⟨by omega,λp1 H9 s9 LG KQ=>hN _ _ (s7.trans (s8.trans s9)) ⟨.fin (bQ (c+14) 19 - 9) 1,?_,trivial,rfl,by omega,by omega⟩⟩⟩) (λ_=>hN _ _ s7 V9)⟩
   have l9:=QH.trans (s7.trans (s8.trans s9))
   exact ym l9 KQ bS (ym l9 (s9 _ _ ep) dA dA)
  intro H8 v8 s8 GZ
  refine(?_:let G_:Prop:=_;G_)
  intro G_
  obtain⟨fw,Wa,Wb,Wc⟩:=GZ
  dsimp only[G_]
  have gp:=KU (a:=a) (tu:=tu) Oo SV LI (by omega) (by omega) lW KZ Ht K0 QF (by rw[Nt];exact Iw) Wb (by rw[Nt];exact Wc)
  rw[Nt] at gp
  simp_all only[eL]
  have S1:=s6.trans s8
  refine⟨.inl ⟨rfl,_,bI.of (s8 _ _ hy)⟩,_,(Iy.trans S1) _ _ LK,_,na 11 (by decide),by omega,λp H9 s9 np ep=>⟨ys,(s8.trans s9) _ _ hy,by omega,by omega,λp1 J8 CF LG KQ=>?_⟩⟩
  have S2:aD H4 (upd H9 pl (.lst (ys++ [.ref p]))):=cA (S1.trans s9) FL
  refine kk (.ref p1) J8 _ gs (Hr.trans (S2.trans CF)) (bJ.mpr ⟨p1,_,_,rfl,KQ,Ow.mono (s4.trans (S2.trans CF)),?_⟩) gp
  refine Rep.mono CF (a7.mpr ⟨pl,_,rfl,aj,?_⟩)
  show a8 _ (List.map (λp=>Dat.tup [.str p.1,kK p.2]) (gA ns a tu++eY ns W++ [(dg ns 11,fw)])) _
  have rr:cN (upd H4 pl (.lst [])) (upd H9 pl (.lst (ys++ [.ref p]))) ((gA ns a tu++eY ns W++ [(dg ns 11,fw)]).map λp=>Dat.tup [.str p.1,kK p.2]) (ys++ [.ref p]):=by
   show a8 (hV _ (upd _ _ _)) _ _
   rw[iN (ys:=[]) aj,Yx]
   exact p7 (ym (QH.trans (s8.trans s9)) ep bS (Wa.mono s9)) (ry.mono (s8.trans s9))
  exact rr.rep
theorem iP:aT ["_law_pool","_law_low_here","_law_high","_law_part"] ["_law_pool"] (ar (top 49)):=⟨rfl,rfl,rfl,by decide +kernel,rfl,by decide +kernel,by decide +kernel⟩
theorem K2 (T:Txt K mg aE aF aB aH af av):bX P w K mg base (bg P w) 1 "_law_values" ["_law_pool"] EN:=by
 refine T.tE.du (λ_ _ _ _ _ _=>gJ λ_=>rfl) λf fd F=>F.d3 iP (λvs H Q E h=>?_) (λbT A outer s H vs Q E hr h=>?_)
 ·obtain⟨_,_,rfl,_⟩:=h;rfl
 ·refine(?_:let G_:Prop:=_;G_)
  intro G_
  obtain⟨v,ps,rfl,rv,gl,kk⟩:=h
  dsimp only[G_]
  have nd:=iP.nd
  refine⟨_,(ah (aI (i:=1) nd rfl (Or.inl rfl) ae)
  (ah (aI (i:=2) nd rfl (Or.inl rfl) ae)
  (ah (cI PassesOwn.never rfl (bh (K:=K) (pv 0)) (aW (i:=3) nd rfl (Or.inl rfl)) (ao (bf (aL bp (aq ai (pv 3) ae (λ_ _=>rfl)) aZ (aS _)) (ah (aI (i:=1) nd rfl (Or.inl rfl) (aG aO (pv 1) (aq ai (pv 3) ae (λ_ _=>rfl))))
  (ao (aI (i:=2) nd rfl (Or.inl rfl) (aG aO (pv 2) (aq ai (pv 3) ae (λ_ _=>rfl))))))
   (ah (aI (i:=1) nd rfl (Or.inl rfl) (aG aO (pv 1) (aq ai (pv 3) ae (λ_ _=>rfl))))
  (ao (aI (i:=2) nd rfl (Or.inl rfl) (aG aO (pv 2) (aG ba (aq ai (pv 3) ae (λ_ _=>rfl)) (aq ai (pv 3) ae (λ_ _=>rfl))))))))))
  (ao (aV (tf rfl rfl T.z_list rfl T.z_range (aa (pv 1) (aa (aG aO (pv 2) ae) ag (se rfl)) (se rfl)))))))),?_⟩
  refine(?_:let bM:TS:=_;let bN:TS:=_;let bO:TS:=_;let cM:TS:=_;tSeq bM (tSeq bN (tSeq bO cM)) _ _ _)
  intro bM bN bO cM
  have sl:=sizeLine_eq
  refine(?_:let G_:Prop:=_;G_)
  intro G_
  obtain⟨a,rfl,xs,ha,ap⟩:=Bg rv
  dsimp only[G_]
  have xl:=ap.length
  simp_all only[]
  refine⟨⟨_,bI.of ha⟩,bU (src_list (Ok:=λH'=>H=H') (λH' e=>by subst e;exact bI.of ha)) (λi σ H'=>H=H'/\∃z,σ=[some (.ref a),some (.int (wL (ps.take i))),some (.int (wM (ps.take i))),z]) ⟨rfl,_,rfl⟩ (λ_ _ _ _ h=>h.1) ?_ ?_⟩
  ·intro i x σ H' p6 hi gy gz
   refine(?_:let G_:Prop:=_;G_)
   intro G_
   obtain⟨rfl,z,rfl⟩:=gy
   obtain⟨rfl,ex⟩:=gz
   obtain⟨p,ep,q,rfl,hq⟩:=ap.get ex
   dsimp only[G_]
   obtain⟨Ef,yQ⟩:=List.getElem?_eq_some_iff.mp ep
   obtain⟨gp,_⟩:=xP gl
   have gp:=gp p (YI ep)
   rw[take_snoc Ef,yQ,vX,vY]
   simp only[gName,YU,YT]
   cases p with
   | num m=>
    simp only[tN] at hq
    refine dz (λY N k=>by simp_all only[hq];exact k) ?_
    simp_all only[hq]
    exact⟨_,rfl⟩
   | cO k s=>
    simp only[tN] at hq
    refine c7 (λY N k=>by simp_all only[hq];rw[if_neg (by decide +kernel)];exact k) ?_
    simp_all only[hq]
    have gp:1<=s/\s<=20/\k<=6:=gp
    exact⟨bC (by omega) (by omega),_,rfl⟩
  ·intro σ H' df
   refine(?_:let G_:Prop:=_;G_)
   intro G_
   obtain⟨rfl,z,rfl⟩:=df
   dsimp only[G_]
   rw[xl,YG (Yt _)]
   simp_all only[MB]
   have d:∀x∈D3,x.1<=x.1*x.2/\x.1*x.2<=100:=by decide
   obtain⟨k,s,FK,e | ⟨m,hm,e⟩⟩:=me gl
   ·subst e
    have:k<=k*s/\k*s<=100:=d (k,s) FK
    have d6:∀x∈D3,x.1<=2:=by decide
    have:k<=2:=d6 (k,s) FK
    refine⟨k*s - k+1,?_,by omega,?_,?_,λl nl=>kk l _ (aA nl) nl ?_⟩
    ·show(k:Int)* (s:Int)+0+1=(k:Int)+0+ ((k*s - k+1:Nat):Int)
     rw[<-Zf]
     omega
    ·show -1000000<=(k:Int)+0;omega
    ·show(k:Int)+0<=1000000;omega
    ·rw[aj,iG,YZ]
     rfl
   ·subst e
    have:k<=k*s/\k*s<=100:=d (k,s) FK
    have d6:∀x∈D3,x.1<=2:=by decide
    have:k<=2:=d6 (k,s) FK
    refine⟨k*s - k+1,?_,by omega,?_,?_,λl nl=>kk l _ (aA nl) nl ?_⟩
    ·show(k:Int)* (s:Int)+ ((m:Int)+0)+1=(k:Int)+ ((m:Int)+0)+ ((k*s - k+1:Nat):Int)
     rw[<-Zf]
     omega
    ·show -1000000<=(k:Int)+ ((m:Int)+0);omega
    ·show(k:Int)+ ((m:Int)+0)<=1000000;omega
    ·rw[aj,iG,YZ]
     rfl
theorem mH:aT ["_law_game_here","_law_name"] ["_law_game_here","_law_name"] (ar (top 50)):=⟨rfl,rfl,rfl,by decide +kernel,rfl,by decide +kernel,by decide +kernel⟩
theorem rJ (T:Txt K mg aE aF aB aH af av):bX P w K mg base (bg P w) 1 "_law_what" ["_law_game_here","_law_name"] gP:=by
 refine T.xE.du (λ_ _ _ _ _ _=>eD λ_ _=>rfl) λf fd F=>F.d3 mH (λvs H Q E h=>?_) (λbT A outer s H vs Q E hr h=>?_)
 ·obtain⟨_,_,_,_,rfl,_⟩:=h;rfl
 ·refine(?_:let G_:Prop:=_;G_)
  intro G_
  obtain⟨gv,nm,g,x,rfl,rg,gg,lk,kk⟩:=h
  dsimp only[G_]
  have nd:=mH.nd
  refine⟨_,(ao (aV (aq aQ (cG rfl (N:=["_law_game_here","_law_name"]) (so:=ar (top 50)) (N':=["_law_told","_law_what_here","_law_name"]) (k:=2) (fr:=[1]) rfl rfl ⟨rfl,by decide +kernel,by decide +kernel,by decide +kernel,rfl,by decide +kernel,by decide +kernel⟩ (bh (K:=K) (aq ai (pv 0) ae (λ_ _=>rfl))) (λ_ _ _ _ _=>(d4 (K:=K) (n:=2) rfl (bA (aW (i:=0) (show(["_law_told","_law_what_here","_law_name"]:List Str).Nodup by decide +kernel) rfl (Or.inl rfl)) (bA (aW (i:=1) (show(["_law_told","_law_what_here","_law_name"]:List Str).Nodup by decide +kernel) rfl (Or.inl rfl)) dX)))) (λ_ _ _ _ _=>(eM (aL bp (pv 0) (pv 2) (aS _))))
   (λ_ _ _ _ _=>(pv 1))) ae (λ_ _=>rfl)))),?_⟩
  have sl:=sizeLine_eq
  refine(?_:let G_:Prop:=_;G_)
  intro G_
  obtain⟨gp,cv,pv,rfl,yL,rc,rp⟩:=bJ.mp (show Rep H (.tup _) gv from rg)
  obtain⟨pl,En,rfl,hpl,FH⟩:=a7.mp (show Rep H (.lst _) pv from rp)
  dsimp only[G_]
  have Yb:=gg.lp
  have len:=FH.length
  rw[Yr] at len
  simp_all only[yL]
  refine⟨⟨_,bI.of hpl⟩,?_⟩
  refine(?_:let G_:Prop:=_;G_)
  intro G_
  obtain⟨us,ul,ue,ux⟩:=uT (nm:=nm) FH
  obtain⟨u,r,ef,ru⟩:=ux x lk
  dsimp only[G_]
  have zl:(us.zip g.ps).length=En.length:=by rw[List.length_zip];omega
  have S:Src (yJ K pl) (aD H) En.length _:=src_list (λH' s'=>bI.of (s' _ _ hpl))
  rw[<-zl] at S
  refine rA (K:=K) (us.zip g.ps) (λy=>if y.2.1=nm then some y.1 else none) S (λ_ _ _ _ h=>h.1) (by omega) ?_ ?_
  ·rintro i ⟨u',p⟩ y Wd ⟨_,ey⟩
   obtain⟨e1,e2⟩:=List.getElem?_zip_eq_some.mp Wd
   refine(?_:let G_:Prop:=_;G_)
   intro G_
   obtain⟨q,eq,hq⟩:=ue i p u' e2 e1
   dsimp only[G_]
   rw[eq] at ey
   cases ey
   refine⟨q,_,_,rfl,jn.of hq,λY N y1 y2=>?_⟩
   simp_all only[]
   by_cases e:p.1=nm
   ·rw[if_pos e];exact y1 _ (if_pos e)
   ·rw[if_neg e];exact y2 (if_neg e)
  ·intro D n1 n2
   rw[ef]
   exact⟨_,aj,u,at0,kk u _ (aA n2) ru⟩
theorem iQ:aT ["_law_game_here","_law_counts","_law_name"] ["_law_game_here","_law_counts","_law_name"] (ar (top 51)):=⟨rfl,rfl,rfl,by decide +kernel,rfl,by decide +kernel,by decide +kernel⟩
theorem Ag (T:Txt K mg aE aF aB aH af av):bX P w K mg base (bg P w) 1 "_law_number" ["_law_game_here","_law_counts","_law_name"] rG:=by
 refine T.tF.du (λ_ _ _ _ _ _=>tK λ_ _ _=>rfl) λf fd F=>F.d3 iQ (λvs H Q E h=>?_) (λbT A outer s H vs Q E hr h=>?_)
 ·obtain⟨_,_,_,_,_,rfl,_⟩:=h;rfl
 ·refine(?_:let G_:Prop:=_;G_)
  intro G_
  obtain⟨gv,l,nm,g,ns,rfl,rg,gg,hl,ln,hm,kk⟩:=h
  dsimp only[G_]
  have nd:=iQ.nd
  refine⟨_,(ao (aV (aq aQ (cG rfl (N:=["_law_game_here","_law_counts","_law_name"]) (so:=ar (top 51)) (N':=["_law_k","_law_game_here","_law_counts","_law_name"]) (k:=1) (fr:=[0,1,2]) rfl rfl ⟨rfl,by decide +kernel,by decide +kernel,by decide +kernel,rfl,by decide +kernel,by decide +kernel⟩ (cC rfl T.z_range (aa (aX bq (by rfl) T.z_len YH (aa (pv 1) ag (se rfl)) (he:=se rfl) (hpl:=na rfl)) ag (se rfl))) (λ_ _ _ _ _=>(aW (i:=0) (show(["_law_k","_law_game_here","_law_counts","_law_name"]:List Str).Nodup by decide +kernel) rfl (Or.inl rfl))) (λ_ _ _ _ _=>(eM (aL bp (aq ai (aq aQ (aq ai (pv 1) ae (λ_ _=>rfl)) (pv 0) (λ_ _=>rfl)) ae (λ_ _=>rfl)) (pv 3) (aS _))))
   (λ_ _ _ _ _=>(aq aQ (pv 2) (pv 0) (λ_ _=>rfl)))) ae (λ_ _=>rfl)))),?_⟩
  have sl:=sizeLine_eq
  refine(?_:let G_:Prop:=_;G_)
  intro G_
  obtain⟨gp,cv,pv,rfl,yL,rc,rp⟩:=bJ.mp (show Rep H (.tup _) gv from rg)
  obtain⟨cl,ya,rfl,fK,sO⟩:=a7.mp (show Rep H (.lst _) cv from rc)
  dsimp only[G_]
  have lcs:=gg.lc
  have len:=sO.length
  rw[Yr] at len
  simp_all only[yL,hl]
  rw[Yr]
  refine⟨by omega,by omega,?_⟩
  rw[YL]
  obtain⟨r,ef⟩:=yp ln hm
  have zl:(g.cs.zip ns).length=ns.length:=by rw[List.length_zip];omega
  rw[<-zl]
  refine uE (g.cs.zip ns) (λy=>if y.1.1=nm then some y.2 else none) src_range (λ_ _ _ _ h=>h.1) (by omega) ?_ ?_
  ·rintro i ⟨c,n⟩ y We ⟨_,rfl⟩ Y N y1 y2
   obtain⟨e1,e2⟩:=List.getElem?_zip_eq_some.mp We
   obtain⟨cv,ev,QJ⟩:=sO.at (i:=i) (by rw[Yu,e1];rfl)
   refine(?_:let G_:Prop:=_;G_)
   intro G_
   obtain⟨cq,b1,b2,rfl,Hl,q1,q2⟩:=bJ.mp (show Rep _ (.tup _) cv from QJ)
   obtain rfl:=aN.mp q1
   dsimp only[G_]
   simp_all only[Zb,yL,fK,hl]
   refine⟨_,bP ev,_,rfl,_,Hl,_,at0,rfl,?_⟩
   by_cases e:c.1=nm
   ·rw[if_pos (congrArg V.str e)]
    refine⟨_,eN (List.getElem?_eq_some_iff.mp e2).1,?_⟩
    rw[Za,e2]
    exact y1 _ (if_pos e)
   ·rw[if_neg (λz=>e (by injection z))];exact y2 (if_neg e)
  ·intro D n1 n2
   rw[ef]
   exact⟨_,aj,_,at0,kk _ (aA n2)⟩
theorem ik:aT ["_law_game_here","_law_name","_law_counts","_law_what_here"] ["_law_game_here","_law_name","_law_counts"] (ar (top 52)):=⟨rfl,rfl,rfl,by decide +kernel,rfl,by decide +kernel,by decide +kernel⟩
set_option tactic.hygienic true in
theorem E4 (T:Txt K mg aE aF aB aH af av):bX P w K mg base (bg P w) 2 "_law_arrived" ["_law_game_here","_law_name","_law_counts"] uU:=by
 have cB:bX P w K mg base (bg P w) 1 "_law_what" ["_law_game_here","_law_name"] gP:=rJ T
 have dJ:bX P w K mg base (bg P w) 1 "_law_number" ["_law_game_here","_law_counts","_law_name"] rG:=Ag T
 refine T.qL.du (λ_ _ _ _ _ _=>tK λ_ _ _=>rfl) λf fd F=>F.d3 ik (λvs H Q E h=>?_) (λbT A outer s H vs Q E hr h=>?_)
 ·obtain⟨_,_,_,_,_,_,_,rfl,_⟩:=h;rfl
 ·refine(?_:let G_:Prop:=_;G_)
  intro G_
  obtain⟨gv,l,nm,g,ns,fu,LL,rfl,rg,gg,hl,ln,ak,kk⟩:=h
  dsimp only[G_]
  have nd:=ik.nd
  refine⟨_,(ah (aI (i:=3) nd rfl (Or.inl rfl) (aK cB (hr.mono (by decide)) rfl au.pass (aa (pv 0) (aa (pv 1) ag (se rfl)) (se rfl)) (he:=se rfl) (hpl:=na rfl)))
  (ah (iz PassesOwn.never (aL bp (aq ai (pv 3) ae (λ_ _=>rfl)) aZ (aS _)) (ah (aI (i:=1) nd rfl (Or.inl rfl) (aq ai (pv 3) (aG aO ae (dS zB (by rfl) T.z_int rfl (aa (fZ wX (aK dJ (hr.mono (by decide)) rfl au.pass (aa (pv 0) (aa (pv 2) (aa (aq ai (pv 3) ae (λ_ _=>rfl)) ag (se rfl)) (se rfl)) (se rfl)) (he:=se rfl) (hpl:=na rfl)) (aq ai (pv 3) ae (λ_ _=>rfl)) (aS _)) ag (se rfl)) (he:=se rfl) (hpl:=na rfl))) (λ_ _=>rfl)))
  (ao (aI (i:=3) nd rfl (Or.inl rfl) (aK cB (hr.mono (by decide)) rfl au.pass (aa (pv 0) (aa (pv 1) ag (se rfl)) (se rfl)) (he:=se rfl) (hpl:=na rfl))))))
  (ao (aV (a5 (aa (pv 1) (aa (dS (dC (K:=K)) (by rfl) T.z_list rfl (aa (pv 2) ag (se rfl)) (he:=se rfl) (hpl:=na rfl)) ag (se rfl)) (se rfl))))))),?_⟩
  refine(?_:let bM:TS:=_;let bN:TS:=_;let bO:TS:=_;tSeq bM (tSeq bN bO) _ _ _)
  intro bM bN bO
  have sl:=sizeLine_eq
  have lx:∀{f nm},dE g ns f nm=some LL->∃x,look g.ps nm=some x:=λ{f nm} ak=>by
   cases f with
   | zero=>cases ak
   | succ f=>
    unfold dE at ak
    cases h:look g.ps nm with
    | none=>rw[h] at ak;cases ak
    | some x=>exact⟨x,rfl⟩
  obtain⟨x0,Cw⟩:=lx ak
  change tSeq _ _ _ _ _
  refine aU (λN=>∀H1 v,aD H H1->Rep H1 (kK x0) v->N [some gv,some (.str nm),some (.ref l),some v] H1) ?_ (λN hN=>?_)
  case refine_2=>
   simp_all only[gP]
   exact⟨g,rg,gg,x0,Cw,λu H1 s1 ru=>hN _ u s1 (ru.mono s1)⟩
  rintro H1 v0 s1 Qc
  change tSeq _ _ _ _ _
  refine aU (λN=>∀H3 v,aD H H3->N [some gv,some (.str LL),some (.ref l),some v] H3) ?_ (λN hN=>?_)
  case refine_2=>
   refine vJ (λm σ H3=>aD H1 H3/\∃nm x v,dE g ns m nm=some LL/\look g.ps nm=some x/\Rep H3 (kK x) v/\σ=[some gv,some (.str nm),some (.ref l),some v]) (m:=fu) ⟨aD.refl _,nm,x0,v0,ak,Cw,Qc,rfl⟩ ?_
   intro m σ H3 GZ
   refine(?_:let G_:Prop:=_;G_)
   intro G_
   obtain⟨s3,Wf,x,v,Bx,Nv,S3,rfl⟩:=GZ
   have my:=s1.trans s3
   obtain⟨m,rfl⟩:∃m',m=m'+1:=by
    cases m with
    | zero=>cases Bx
    | succ m=>exact⟨m,rfl⟩
   dsimp only[G_]
   have Bx:=Bx
   unfold dE at Bx
   rw[Nv] at Bx
   by_cases ka:vQ x=Str.ofString "ask"
   ·refine(?_:let G_:Prop:=_;G_)
    intro G_
    obtain⟨c,k,a,b,rfl⟩:=Kk ka
    have hc:c∈g.cs.map (·.1):=gg.wt _ (cS Nv)
    obtain⟨q,v1,v2,v3,v4,v5,rfl,hq,r1,r2,r3,r4,r5⟩:=vI.mp (show Rep H3 (.tup _) v from S3)
    dsimp only[G_]
    rw[aN.mp r1,aN.mp r2,bw.mp r3,aN.mp r4,aN.mp r5] at hq
    have Bx:(if k<=ns.getD (bF g.cs c) 0 then dE g ns m a else dE g ns m b)=some LL:=Bx
    have S4:dE g ns m (if k<=ns.getD (bF g.cs c) 0 then a else b)=some LL:=by split <;>(rename_i h;first | rw[if_pos h] at Bx | rw[if_neg h] at Bx) <;>exact Bx
    refine⟨true,λQ hQ=>?_,?_⟩
    ·simp_all only[hq]
     exact hQ
    ·rw[if_pos rfl]
     change tSeq _ _ _ _ _
     refine aU (λN=>∀H4,aD H3 H4->N [some gv,some (.str (if k<=ns.getD (bF g.cs c) 0 then a else b)),some (.ref l),some (.ref q)] H4) ?_ (λN hN=>?_)
     case refine_2=>
      simp_all only[hq,rG]
      refine⟨g,rg.mono my,gg,ns,my _ _ hl,ln,hc,λH' s'=>⟨_,s' _ _ hq,_,at2,_,rfl,_,s' _ _ hq,.str (if k<=ns.getD (bF g.cs c) 0 then a else b),?_,hN _ s'⟩⟩
      by_cases z:k<=ns.getD (bF g.cs c) 0
      ·rw[if_pos z,if_neg (by omega)];rfl
      ·rw[if_neg z,if_pos (by omega)];rfl
     rintro H4 s4
     have Hr:=my.trans s4
     obtain⟨x1,Nw⟩:=lx S4
     simp_all only[gP]
     exact⟨g,rg.mono Hr,gg,x1,Nw,λu H5 s5 ru=>⟨m,by omega,s3.trans (s4.trans s5),_,S4,x1,Nw,_,ru.mono s5,rfl,rfl⟩⟩
   ·have e1:Wf=LL:=by
     cases x with
     | ask c k a b=>exact absurd rfl ka
     | fin t b=>exact YM Bx
     | score c=>exact YM Bx
     | pick w rs=>exact YM Bx
     | d7 p t b rs=>exact YM Bx
    subst e1
    refine(?_:let G_:Prop:=_;G_)
    intro G_
    obtain⟨q,Fz,rfl,hq⟩:=rB S3
    dsimp only[G_]
    refine⟨false,λQ hQ=>?_,?_⟩
    ·simp_all only[hq]
     rw[decide_eq_false ka]
     exact hQ
    ·rw[if_neg (by decide)]
     exact hN _ _ my
  rintro H3 v3 s3
  simp_all only[]
  exact⟨_,.inl (bI.of (s3 _ _ hl)),λl' QK=>⟨by omega,λp H4 s4 np e4=>kk p l' H4 (s3.trans ((aA QK).trans s4)) (none_of (s3.trans (aA QK)) np) (none_of s3 QK) e4 (s4 _ _ aj)⟩⟩
theorem mI:aT ["_law_game_here","_law_counts","_law_deeds_here","_law_thrown","_law_held","_law_caps","_law_k","_law_deed"] ["_law_game_here","_law_counts","_law_deeds_here","_law_thrown"] (ar (top 53)):=⟨rfl,rfl,rfl,by decide +kernel,rfl,by decide +kernel,by decide +kernel⟩
theorem K4 (T:Txt K mg aE aF aB aH af av):bX P w K mg base (bg P w) 1 "_law_done" ["_law_game_here","_law_counts","_law_deeds_here","_law_thrown"] Bq:=by
 refine T.xF.du (λ_ _ _ _ _ _=>tM λ_ _ _ _=>rfl) λf fd F=>F.d3 mI (λvs H Q E h=>?_) (λbT A outer s H vs Q E hr h=>?_)
 ·obtain⟨_,_,_,_,_,_,_,rfl,_⟩:=h;rfl
 ·refine(?_:let G_:Prop:=_;G_)
  intro G_
  obtain⟨gv,l,dv,v,g,ns,ds,rfl,rg,gg,hl,ln,rd,Wg,gd,kk⟩:=h
  dsimp only[G_]
  clear G_
  have nd:=mI.nd
  refine⟨_,(ah (aI (i:=4) nd rfl (Or.inr rfl) gE)
  (ah (aI (i:=5) nd rfl (Or.inl rfl) gE)
  (ah (cI PassesOwn.never rfl (cC rfl T.z_range (aa (aX bq (by rfl) T.z_len YH (aa (pv 1) ag (se rfl)) (he:=se rfl) (hpl:=na rfl)) ag (se rfl))) (aW (i:=6) nd rfl (Or.inl rfl)) (ah (dZ (cf hr) (pv 4) (aq ai (aq aQ (aq ai (pv 0) ae (λ_ _=>rfl)) (pv 6) (λ_ _=>rfl)) ae (λ_ _=>rfl)) (aq aQ (pv 1) (pv 6) (λ_ _=>rfl)) rfl)
  (ao (dZ (cf hr) (pv 5) (aq ai (aq aQ (aq ai (pv 0) ae (λ_ _=>rfl)) (pv 6) (λ_ _=>rfl)) ae (λ_ _=>rfl)) (aq ai (aq aQ (aq ai (pv 0) ae (λ_ _=>rfl)) (pv 6) (λ_ _=>rfl)) ae (λ_ _=>rfl)) rfl))))
  (ah (cI PassesOwn.never rfl (bh (K:=K) (pv 2)) (aW (i:=7) nd rfl (Or.inl rfl)) (ao (bf (aL bp (aq ai (pv 7) ae (λ_ _=>rfl)) aZ (aS _)) (ao (dZ (cf hr) (pv 4) (aq ai (pv 7) ae (λ_ _=>rfl)) (aX (fB rfl) (by rfl) T.z_min rfl (aa (aq ai (pv 7) ae (λ_ _=>rfl)) (aa (ck (cf hr) (pv 5) (aq ai (pv 7) ae (λ_ _=>rfl)) (λ_ _=>rfl)) ag (se rfl)) (se rfl)) (he:=se rfl) (hpl:=na rfl)) rfl))
   (ao (bf (aL bp (aq ai (pv 7) ae (λ_ _=>rfl)) aZ (aS _)) (ao (dZ (cf hr) (pv 4) (aq ai (pv 7) ae (λ_ _=>rfl)) (aX (fB rfl) (by rfl) T.z_min rfl (aa (aG aO (ck (cf hr) (pv 4) (aq ai (pv 7) ae (λ_ _=>rfl)) (λ_ _=>rfl)) (aq ai (pv 7) ae (λ_ _=>rfl))) (aa (ck (cf hr) (pv 5) (aq ai (pv 7) ae (λ_ _=>rfl)) (λ_ _=>rfl)) ag (se rfl)) (se rfl)) (he:=se rfl) (hpl:=na rfl)) rfl))
   (ao (bf (aL bp (aq ai (pv 7) ae (λ_ _=>rfl)) aZ (aS _)) (ao (dZ (cf hr) (pv 4) (aq ai (pv 7) ae (λ_ _=>rfl)) (aX (fB rfl) (by rfl) T.z_min rfl (aa (aG aO (ck (cf hr) (pv 4) (aq ai (pv 7) ae (λ_ _=>rfl)) (λ_ _=>rfl)) (pv 3)) (aa (ck (cf hr) (pv 5) (aq ai (pv 7) ae (λ_ _=>rfl)) (λ_ _=>rfl)) ag (se rfl)) (se rfl)) (he:=se rfl) (hpl:=na rfl)) rfl))
   (ah (dZ (cf hr) (pv 4) (aq ai (pv 7) ae (λ_ _=>rfl)) (aX (fB rfl) (by rfl) T.z_min rfl (aa (aG aO (ck (cf hr) (pv 4) (aq ai (pv 7) ae (λ_ _=>rfl)) (λ_ _=>rfl)) (ck (cf hr) (pv 4) (aq ai (pv 7) ae (λ_ _=>rfl)) (λ_ _=>rfl))) (aa (ck (cf hr) (pv 5) (aq ai (pv 7) ae (λ_ _=>rfl)) (λ_ _=>rfl)) ag (se rfl)) (se rfl)) (he:=se rfl) (hpl:=na rfl)) rfl)
  (ao (dZ (cf hr) (pv 4) (aq ai (pv 7) ae (λ_ _=>rfl)) ae rfl))))))))))
  (ao (aV (cG rfl (N:=["_law_game_here","_law_counts","_law_deeds_here","_law_thrown","_law_held","_law_caps","_law_k","_law_deed"]) (so:=ar (top 53)) (N':=["_law_name","_law_most","_law_held"]) (k:=2) (fr:=[4]) rfl rfl ⟨rfl,by decide +kernel,by decide +kernel,by decide +kernel,rfl,by decide +kernel,by decide +kernel⟩ (bh (K:=K) (aq ai (pv 0) ae (λ_ _=>rfl))) (λ_ _ _ _ _=>(d4 (K:=K) (n:=2) rfl (bA (aW (i:=0) (show(["_law_name","_law_most","_law_held"]:List Str).Nodup by decide +kernel) rfl (Or.inl rfl)) (bA (aW (i:=1) (show(["_law_name","_law_most","_law_held"]:List Str).Nodup by decide +kernel) rfl (Or.inl rfl)) dX)))) (λ_ _ _ _ _=>dk)
   (λ_ _ _ _ _=>(ck (cf hr) (pv 2) (pv 0) (λ_ _=>rfl)))))))))),?_⟩
  refine(?_:let bM:TS:=_;let bN:TS:=_;let bO:TS:=_;let cM:TS:=_;let oW:TS:=_;tSeq bM (tSeq bN (tSeq bO (tSeq cM oW))) _ _ _)
  intro bM bN bO cM oW
  have sl:=sizeLine_eq
  refine(?_:let G_:Prop:=_;G_)
  intro G_
  obtain⟨gp,cv,pv,rfl,yL,rc,rp⟩:=bJ.mp (show Rep H (.tup _) gv from rg)
  obtain⟨cl,ya,rfl,fK,sO⟩:=a7.mp (show Rep H (.lst _) cv from rc)
  obtain⟨dl,iw,rfl,MY,G0⟩:=a7.mp rd
  dsimp only[G_]
  clear G_
  have lcs:=gg.lc
  have len:=sO.length
  rw[Yr] at len
  have G1:=G0.length
  rw[Yr] at G1
  change tSeq _ _ _ _ _
  refine aU (λN=>∀H1 d1,aD H H1->H d1=none->H1 d1=some (.dK [])->N [some (.ref gp),some (.ref l),some (.ref dl),some (.int v),some (.ref d1),none,none,none] H1) ?_ (λN hN=>?_)
  case refine_2=>
   simp_all only[]
   exact λd1 n1=>hN _ d1 (aA n1) n1 aj
  rintro H1 d1 s1 n1 e1
  change tSeq _ _ _ _ _
  refine aU (λN=>∀H2 d2,aD H1 H2->H1 d2=none->H2 d2=some (.dK [])->N [some (.ref gp),some (.ref l),some (.ref dl),some (.int v),some (.ref d1),some (.ref d2),none,none] H2) ?_ (λN hN=>?_)
  case refine_2=>
   simp_all only[]
   exact λd2 n2=>hN _ d2 (aA n2) n2 aj
  rintro H2 d2 s2 n2 e2
  have Wh:=s2 _ _ e1
  have z2:H d2=none:=none_of s1 n2
  have Iz:d1≠d2:=λz=>by rw[<-z,e1] at n2;cases n2
  have Hm:=s1.trans s2
  have fresh:∀{i:Nat} (hi:i<g.cs.length),(g.cs[i]).1∉(g.cs.take i).map (·.1):=λ{i} hi m=>by
   rw[List.map_take] at m
   refine(?_:let G_:Prop:=_;G_)
   intro G_
   obtain⟨j,hj,e⟩:=List.mem_take_iff_getElem.mp m
   dsimp only[G_]
   have Wi:=gg.nc
   rw[Yr] at hj
   have e2:(g.cs.map (·.1))[j]'(by rw[Yr];omega)=(g.cs.map (·.1))[i]'(by rw[Yr];omega):=by rw[e,List.getElem_map]
   have:=(List.getElem_inj Wi).mp e2
   omega
  change tSeq _ _ _ _ _
  refine aU (λN=>∀H3,(∀a o,H a=some o->H3 a=some o)->H3 d1=some (.dK (zK g.cs ns))->H3 d2=some (.dK (zK g.cs (g.cs.map (·.2))))->∀z6 z7,N [some (.ref gp),some (.ref l),some (.ref dl),some (.int v),some (.ref d1),some (.ref d2),z6,z7] H3) ?_ (λN hN=>?_)
  case refine_2=>
   simp_all only[Hm _ _ hl]
   rw[Yr]
   refine⟨by omega,by omega,?_⟩
   rw[YL]
   refine bU (src_range (Ok:=λ_=>True)) (λi σ H3=>aD H H3/\H3 d1=some (.dK (zK (g.cs.take i) (ns.take i)))/\H3 d2=some (.dK (zK (g.cs.take i) ((g.cs.map (·.2)).take i)))/\∃z6 z7,σ=[some (.ref gp),some (.ref l),some (.ref dl),some (.int v),some (.ref d1),some (.ref d2),z6,z7]) ⟨Hm,Wh,e2,_,_,rfl⟩ (λ_ _ _ _ _=>trivial) ?_ ?_
   ·intro i x σ H3 H4 hi gy gz
    refine(?_:let G_:Prop:=_;G_)
    intro G_
    obtain⟨s3,a1,a2,z6,z7,rfl⟩:=gy
    obtain⟨rfl,rfl⟩:=gz
    dsimp only[G_]
    clear G_
    have Iq:i<g.cs.length:=by omega
    have ec:=Yw Iq
    obtain⟨cv,ev,QJ⟩:=sO.at (i:=i) (by rw[Yu,ec];rfl)
    refine(?_:let G_:Prop:=_;G_)
    intro G_
    obtain⟨cq,b1,b2,rfl,Hl,q1,q2⟩:=bJ.mp (show Rep _ (.tup _) cv from QJ)
    obtain rfl:=aN.mp q1
    obtain rfl:=bw.mp q2
    dsimp only[G_]
    clear G_
    simp only[gName,YU,YT,Zb]
    change tSeq _ _ _ _ _
    refine aU (λN=>N [some (.ref gp),some (.ref l),some (.ref dl),some (.int v),some (.ref d1),some (.ref d2),some (.int (i:Int)),z7] (upd H4 d1 (.dK (zK (g.cs.take (i+1)) (ns.take (i+1)))))) ?_ (λN hN=>?_)
    case refine_2=>
     simp_all only[sDPut,s3 _ _ yL,s3 _ _ fK,s3 _ _ hl]
     refine⟨_,eN (by omega),_,bP ev,_,rfl,_,s3 _ _ Hl,_,at0,_,.inl ⟨_,Sum.inr (g.cs[i]).1,a1,rfl,by rw[Ad (by rw[YK,YK];omega),YK];omega,rfl⟩,?_⟩
     rw[ji (wb (fresh Iq)),<-wa _ _ (by rw[YK,YK];omega),<-take_snoc Iq,wc (show i<ns.length by omega),<-take_snoc (show i<ns.length by omega)]
     exact hN
    have up:∀{a o},H a=some o->upd H4 d1 (.dK (zK (g.cs.take (i+1)) (ns.take (i+1)))) a=some o:=λ{a o} h=>by
     rw[aw (λz=>by rw[z,n1] at h;cases h)]
     exact s3 _ _ h
    have Wj:upd H4 d1 (.dK (zK (g.cs.take (i+1)) (ns.take (i+1)))) d2=some (.dK (zK (g.cs.take i) ((g.cs.map (·.2)).take i))):=by rw[aw (Ne.symm Iz)];exact a2
    have Wk:upd H4 d1 (.dK (zK (g.cs.take (i+1)) (ns.take (i+1)))) d1=some (.dK (zK (g.cs.take (i+1)) (ns.take (i+1)))):=aj
    generalize upd H4 d1 (.dK (zK (g.cs.take (i+1)) (ns.take (i+1))))=H5 at *
    simp_all only[sDPut,up yL,up fK]
    refine⟨_,bP ev,_,rfl,_,up Hl,_,at1,_,bP ev,_,rfl,_,up Hl,_,at0,_,.inl ⟨_,Sum.inr (g.cs[i]).1,Wj,rfl,by rw[Ad (by rw[YK,YK,Yr]),YK];omega,rfl⟩,λa o h=>?_,by rw[aw Iz];exact Wk,?_,_,rfl⟩
    ·rw[aw (λz=>by rw[z,z2] at h;cases h)]
     exact up h
    ·rw[aj,ji (wb (fresh Iq)),<-wa _ _ (by rw[YK,YK,Yr]),<-take_snoc Iq]
     have Qy:i< (g.cs.map (·.2)).length:=by rw[Yr];exact Iq
     rw[show(g.cs[i]).2=(g.cs.map (·.2))[i]'Qy by rw[List.getElem_map],<-take_snoc Qy]
   ·intro σ H3 df
    refine(?_:let G_:Prop:=_;G_)
    intro G_
    obtain⟨s3,a1,a2,z6,z7,rfl⟩:=df
    dsimp only[G_]
    rw[YG (by omega),YG (by omega)] at a1
    rw[YG (by omega),YG (by rw[Yr];omega)] at a2
    exact hN _ s3 a1 a2 _ _
  rintro H3 s3 Wl Wm z6 z7
  change tSeq _ _ _ _ _
  refine aU (λN=>∀H4,(∀a o,H a=some o->H4 a=some o)->H4 d1=some (.dK (zK g.cs (ds.foldl (ix g.cs v) ns)))->∀z6 z7,N [some (.ref gp),some (.ref l),some (.ref dl),some (.int v),some (.ref d1),some (.ref d2),z6,z7] H4) ?_ (λN hN=>?_)
  case refine_2=>
   simp_all only[]
   refine⟨⟨_,bI.of (s3 _ _ MY)⟩,bU (src_list (Ok:=λH'=>aD H H') (λH' s'=>bI.of (s' _ _ MY))) (λi σ H4=>aD H H4/\H4 d1=some (.dK (zK g.cs ((ds.take i).foldl (ix g.cs v) ns)))/\H4 d2=some (.dK (zK g.cs (g.cs.map (·.2))))/\∃z6 z7,σ=[some (.ref gp),some (.ref l),some (.ref dl),some (.int v),some (.ref d1),some (.ref d2),z6,z7]) ⟨s3,Wl,Wm,_,_,rfl⟩ (λ_ _ _ _ h=>h.1) ?_ ?_⟩
   ·intro i x σ H4 H5 hi gy gz
    refine(?_:let G_:Prop:=_;G_)
    intro G_
    obtain⟨s4,a1,a2,z6,z7,rfl⟩:=gy
    obtain⟨rfl,ex⟩:=gz
    obtain⟨dd,ed,K5⟩:=G0.get ex
    rw[Yu] at ed
    obtain⟨d,ME,rfl⟩:=Option.map_eq_some_iff.mp ed
    dsimp only[G_]
    clear G_
    obtain⟨cE,Wn⟩:=List.getElem?_eq_some_iff.mp ME
    have Cy:=gd d (YI ME)
    have Bw:((ds.take i).foldl (ix g.cs v) ns).length=g.cs.length:=(cV _ _).trans ln
    have nx:(ds.take (i+1)).foldl (ix g.cs v) ns=ix g.cs v ((ds.take i).foldl (ix g.cs v) ns) d:=by
     rw[take_snoc cE,Wn,List.foldl_append]
     rfl
    rw[nx]
    generalize (ds.take i).foldl (ix g.cs v) ns=cur at *
    have up:∀{k:List (Key×V)} {a o},H a=some o->upd H5 d1 (.dK k) a=some o:=λ{k a o} h=>by
     rw[aw (λz=>by rw[z,n1] at h;cases h)]
     exact s4 _ _ h
    have Hv:∀{H':Hp} {n},H' d2=some (.dK (zK g.cs (g.cs.map (·.2))))->n∈g.cs.map (·.1)->jq H' d2 (.str n) (some (.int (most g.cs (bF g.cs n)))):=λ{H' n} h hn=>.inl ⟨_,Sum.inr n,.inl h,rfl,(vZ (by rw[Yr]) hn).symm⟩
    have Hw:∀{H':Hp} {n} {c:List Int},H' d1=some (.dK (zK g.cs c))->c.length=g.cs.length->n∈g.cs.map (·.1)->jq H' d1 (.str n) (some (.int (c.getD (bF g.cs n) 0))):=λ{H' n c} h l hn=>.inl ⟨_,Sum.inr n,.inl h,rfl,(vZ l hn).symm⟩
    have E5:∀{H':Hp} {n} {c:List Int} {k:V},H' d1=some (.dK (zK g.cs c))->c.length=g.cs.length->zp H' d1 (.str n) k (upd H' d1 (.dK (putK (zK g.cs c) (Sum.inr n) k))):=λ{H' n c k} h hc=>.inl ⟨_,Sum.inr n,h,rfl,by rw[Ad hc];omega,rfl⟩
    have fin:∀(n:Str) (k':Int) (z:Option V),n∈g.cs.map (·.1)->ix g.cs v cur d=cur.set (bF g.cs n) k'->aD H (upd H5 d1 (.dK (putK (zK g.cs cur) (Sum.inr n) (.int k'))))/\upd H5 d1 (.dK (putK (zK g.cs cur) (Sum.inr n) (.int k'))) d1=some (.dK (zK g.cs (ix g.cs v cur d)))/\upd H5 d1 (.dK (putK (zK g.cs cur) (Sum.inr n) (.int k'))) d2=some (.dK (zK g.cs (g.cs.map (·.2))))/\∃x,z=x:=λn k' z hn e=>⟨λa o h=>up h,by rw[aj,Ac gg.nc Bw hn,e],by rw[aw (Ne.symm Iz)];exact a2,_,rfl⟩
    have mn:∀a b:Int,(if b<a then b else a)=min a b:=λa b=>by split <;>omega
    simp only[gName,YU,YT]
    cases d with
    | set n k=>
     refine(?_:let G_:Prop:=_;G_)
     intro G_
     obtain⟨q,v1,v2,v3,rfl,hq,r1,r2,r3⟩:=dQ.mp (show Rep H (.tup _) x from K5)
     dsimp only[G_]
     rw[aN.mp r1,aN.mp r2,bw.mp r3] at hq
     have hq:=s4 _ _ hq
     refine dz (λY N k=>by simp_all only[hq];exact k) ?_
     simp_all only[sDPut,hq]
     refine⟨_,Hv a2 Cy,_,rfl,_,E5 a1 Bw,?_⟩
     rw[mn]
     exact fin n _ _ Cy rfl
    | plus n k=>
     refine(?_:let G_:Prop:=_;G_)
     intro G_
     obtain⟨q,v1,v2,v3,rfl,hq,r1,r2,r3⟩:=dQ.mp (show Rep H (.tup _) x from K5)
     dsimp only[G_]
     rw[aN.mp r1,aN.mp r2,bw.mp r3] at hq
     have hq:=s4 _ _ hq
     refine c7 (λY N k=>by simp_all only[hq];rw[if_neg (by decide +kernel)];exact k) ?_
     refine dz (λY N k=>by simp_all only[hq];exact k) ?_
     simp_all only[sDPut,hq]
     refine⟨_,Hw a1 Bw Cy,_,rfl,_,Hv a2 Cy,_,rfl,_,E5 a1 Bw,?_⟩
     rw[mn]
     exact fin n _ _ Cy rfl
    | face n=>
     refine(?_:let G_:Prop:=_;G_)
     intro G_
     obtain⟨q,v1,v2,rfl,hq,r1,r2⟩:=bJ.mp (show Rep H (.tup _) x from K5)
     dsimp only[G_]
     rw[aN.mp r1,aN.mp r2] at hq
     have hq:=s4 _ _ hq
     refine c7 (λY N k=>by simp_all only[hq];rw[if_neg (by decide +kernel)];exact k) ?_
     refine c7 (λY N k=>by simp_all only[hq];rw[if_neg (by decide +kernel)];exact k) ?_
     refine dz (λY N k=>by simp_all only[hq];exact k) ?_
     simp_all only[sDPut,hq]
     refine⟨_,Hw a1 Bw Cy,_,rfl,_,Hv a2 Cy,_,rfl,_,E5 a1 Bw,?_⟩
     rw[mn]
     exact fin n _ _ Cy rfl
    | move n m=>
     refine(?_:let G_:Prop:=_;G_)
     intro G_
     obtain⟨q,v1,v2,v3,rfl,hq,r1,r2,r3⟩:=dQ.mp (show Rep H (.tup _) x from K5)
     dsimp only[G_]
     rw[aN.mp r1,aN.mp r2,aN.mp r3] at hq
     have Ie:=s4 _ _ hq
     refine c7 (λY N k=>by simp_all only[Ie];rw[if_neg (by decide +kernel)];exact k) ?_
     refine c7 (λY N k=>by simp_all only[Ie];rw[if_neg (by decide +kernel)];exact k) ?_
     refine c7 (λY N k=>by simp_all only[Ie];rw[if_neg (by decide +kernel)];exact k) ?_
     simp_all only[sDPut,Ie]
     refine⟨_,Hw a1 Bw Cy.2,_,Hw a1 Bw Cy.1,_,rfl,_,rfl,_,Hv a2 Cy.2,_,rfl,_,E5 a1 Bw,?_⟩
     rw[mn,Ac gg.nc Bw Cy.2]
     have wJ:(cur.set (bF g.cs m) (min (cur.getD (bF g.cs m) 0+cur.getD (bF g.cs n) 0) (most g.cs (bF g.cs m)))).length=g.cs.length:=by rw[List.length_set];exact Bw
     refine⟨_,up hq,_,at1,_,E5 aj wJ,λa o h=>?_,?_,?_,_,rfl⟩
     ·rw[aw (λz=>by rw[z,n1] at h;cases h)];exact up h
     ·rw[aj,Ac gg.nc wJ Cy.1];rfl
     ·rw[aw (Ne.symm Iz),aw (Ne.symm Iz)];exact a2
   ·intro σ H4 df
    refine(?_:let G_:Prop:=_;G_)
    intro G_
    obtain⟨s4,a1,a2,z6,z7,rfl⟩:=df
    dsimp only[G_]
    rw[YG (by omega)] at a1
    exact hN _ s4 a1 _ _
  rintro H4 s4 Wo z6 z7
  simp_all only[s4 _ _ yL]
  refine⟨⟨_,bI.of (s4 _ _ fK)⟩,?_⟩
  have S:Src (yJ K cl) (aD H4) ya.length _:=src_list (λH' s'=>bI.of (s' _ _ (s4 _ _ fK)))
  rw[<-len] at S
  have fl:(ds.foldl (ix g.cs v) ns).length=g.cs.length:=(cV _ _).trans ln
  refine qB (K:=K) g.cs (λc=>some ((ds.foldl (ix g.cs v) ns).getD (bF g.cs c.1) 0)) S (λ_ _ _ _ h=>h.1) (by omega) ?_ ?_
  ·rintro i c y ec ⟨_,ey⟩
   refine(?_:let G_:Prop:=_;G_)
   intro G_
   obtain⟨d,ed,rd⟩:=sO.get ey
   dsimp only[G_]
   rw[Yu,ec] at ed
   cases ed
   refine(?_:let G_:Prop:=_;G_)
   intro G_
   obtain⟨cq,b1,b2,rfl,Hl,q1,q2⟩:=bJ.mp (show Rep _ (.tup _) y from rd)
   obtain rfl:=aN.mp q1
   dsimp only[G_]
   refine⟨cq,_,_,rfl,jn.of (s4 _ _ Hl),λY N y1 y2=>?_⟩
   unfold sS
   refine Dl ?_
   simp_all only[]
   have hc:c.1∈g.cs.map (·.1):=List.mem_map.mpr ⟨c,YI ec,rfl⟩
   exact⟨_,.inl ⟨_,Sum.inr c.1,.inl Wo,rfl,(vZ fl hc).symm⟩,y1 _ rfl⟩
  ·intro D P6 Yc
   refine kk D _ (aD.trans s4 (aA P6)) (none_of s4 P6) ?_
   rw[aj,List.filterMap_eq_map']
   congr 3
   exact EO gg.nc fl
theorem fS:aT ["_law_game_here","_law_counts","_law_when","_law_number_here"] ["_law_game_here","_law_counts","_law_when"] (ar (top 54)):=⟨rfl,rfl,rfl,by decide +kernel,rfl,by decide +kernel,by decide +kernel⟩
theorem K6 (T:Txt K mg aE aF aB aH af av):bX P w K mg base (bg P w) 2 "_law_holds_when" ["_law_game_here","_law_counts","_law_when"] ER:=by
 have dJ:bX P w K mg base (bg P w) 1 "_law_number" ["_law_game_here","_law_counts","_law_name"] rG:=Ag T
 refine T.lX.du (λ_ _ _ _ _ _=>tK λ_ _ _=>rfl) λf fd F=>F.d3 fS (λvs H Q E h=>?_) (λbT A outer s H vs Q E hr h=>?_)
 ·obtain⟨_,_,_,_,_,_,rfl,_⟩:=h;rfl
 ·refine(?_:let G_:Prop:=_;G_)
  intro G_
  obtain⟨gv,l,wv,g,ns,wh,rfl,rg,gg,hl,ln,rw,wk,kk⟩:=h
  dsimp only[G_]
  have nd:=fS.nd
  refine⟨_,(ah (bf (aL CZ (pv 2) yS (aS _)) (ao (aV oK))
   aY)
  (ah (aI (i:=3) nd rfl (Or.inl rfl) (aK dJ (hr.mono (by decide)) rfl au.pass (aa (pv 0) (aa (pv 1) (aa (aq ai (pv 2) ae (λ_ _=>rfl)) ag (se rfl)) (se rfl)) (se rfl)) (he:=se rfl) (hpl:=na rfl)))
  (ao (aV (fZ bp (fZ AD (pv 3) (aq ai (pv 2) ae (λ_ _=>rfl)) (aS _)) (fZ bp (aq ai (pv 2) ae (λ_ _=>rfl)) aZ (aS _)) (aS _)))))),?_⟩
  refine(?_:let bM:TS:=_;let bN:TS:=_;let bO:TS:=_;tSeq bM (tSeq bN bO) _ _ _)
  intro bM bN bO
  have sl:=sizeLine_eq
  cases wh with
  | none=>
   rw[J3,Rep] at rw
   subst rw
   simp_all only[]
   exact kk _ (aD.refl _)
  | some w=>
   refine(?_:let G_:Prop:=_;G_)
   intro G_
   obtain⟨n,y,k⟩:=w
   obtain⟨q,v1,v2,v3,rfl,hq,r1,r2,r3⟩:=dQ.mp (show Rep H (.tup _) wv from rw)
   obtain rfl:=aN.mp r1
   obtain rfl:=aN.mp r2
   obtain rfl:=bw.mp r3
   dsimp only[G_]
   simp_all only[rG,hq]
   rw[if_neg (by intro z;cases z)]
   refine⟨g,rg,gg,ns,hl,ln,wk.1,λH' s'=>⟨_,s' _ _ hq,_,at2,_,rfl,_,s' _ _ hq,_,at1,rfl,?_⟩⟩
   have e:decide (decide (k<=ns.getD (bF g.cs n) 0)=decide (V.str y=V.str (Str.ofString "from")))=kL g.cs ns (some (n,y,k)):=by
    refine Eq.trans ?_ (if_pos wk.1).symm
    by_cases e:y=Str.ofString "from"
    ·rw[if_pos e,e]
     by_cases z:k<=ns.getD (bF g.cs n) 0 <;>simp [z]
    ·rw[if_neg e]
     by_cases z:k<=ns.getD (bF g.cs n) 0
     ·simp [z,e,Int.not_lt.mpr z]
     ·simp [z,e,Int.lt_of_not_ge z]
   rw[e]
   exact kk _ s'
theorem mJ:aT ["_law_game_here","_law_state","_law_what_here"] ["_law_game_here","_law_state"] (ar (top 55)):=⟨rfl,rfl,rfl,by decide +kernel,rfl,by decide +kernel,by decide +kernel⟩
theorem QL {α:Type} {x y z u:α} {l:List α}:lJ (x::y::z::u::l) 3=some u:=bP (j:=3) rfl
theorem uW {H:Hp}:∀rs:List Rw,a8 H (rs.map λr=>Dat.str r.word) (rs.map λr=>V.str r.word)
 | []=>bD.mpr rfl
 | _::rs=>aR.mpr ⟨_,_,rfl,aN.mpr rfl,uW rs⟩
theorem E6 (T:Txt K mg aE aF aB aH af av):bX P w K mg base (bg P w) 3 "_law_open" ["_law_game_here","_law_state"] uV:=by
 have cB:bX P w K mg base (bg P w) 1 "_law_what" ["_law_game_here","_law_name"] gP:=rJ T
 have tT:bX P w K mg base (bg P w) 1 "_law_values" ["_law_pool"] EN:=K2 T
 have mK:bX P w K mg base (bg P w) 2 "_law_holds_when" ["_law_game_here","_law_counts","_law_when"] ER:=K6 T
 refine T.xG.du (λ_ _ _ _ _ _=>eD λ_ _=>rfl) λf fd F=>F.d3 mJ (λvs H Q E h=>?_) (λbT A outer s H vs Q E hr h=>?_)
 ·obtain⟨_,_,_,_,_,_,rfl,_⟩:=h;rfl
 ·refine(?_:let G_:Prop:=_;G_)
  intro G_
  obtain⟨gv,sv,g,gs,st,x,rfl,rg,gg,jv,ln,lk,wk,kk⟩:=h
  dsimp only[G_]
  have nd:=mJ.nd
  refine⟨_,(ah (aI (i:=2) nd rfl (Or.inl rfl) (aK cB (hr.mono (by decide)) rfl au.pass (aa (pv 0) (aa (aq ai (pv 1) ae (λ_ _=>rfl)) ag (se rfl)) (se rfl)) (he:=se rfl) (hpl:=na rfl)))
  (ah (bf (aL bp (aq ai (pv 2) ae (λ_ _=>rfl)) aZ (aS _)) (ao (aV (aK tT (hr.mono (by decide)) rfl au.pass (aa (aq ai (pv 2) ae (λ_ _=>rfl)) ag (se rfl)) (he:=se rfl) (hpl:=na rfl))))
   aY)
  (ah (bf (aL bp (aq ai (pv 2) ae (λ_ _=>rfl)) aZ (aS _)) (ao (aV (cG rfl (N:=["_law_game_here","_law_state","_law_what_here"]) (so:=ar (top 55)) (N':=["_law_row","_law_game_here","_law_state"]) (k:=1) (fr:=[0,1]) rfl rfl ⟨rfl,by decide +kernel,by decide +kernel,by decide +kernel,rfl,by decide +kernel,by decide +kernel⟩ (bh (K:=K) (aq ai (pv 2) ae (λ_ _=>rfl))) (λ_ _ _ _ _=>(aW (i:=0) (show(["_law_row","_law_game_here","_law_state"]:List Str).Nodup by decide +kernel) rfl (Or.inl rfl))) (λ_ _ _ _ _=>(eM (kr (aK mK (hr.mono (by decide)) rfl au.pass (aa (pv 1) (aa (aq ai (pv 2) ae (λ_ _=>rfl)) (aa (aq ai (pv 0) ae (λ_ _=>rfl)) ag (se rfl)) (se rfl)) (se rfl)) (he:=se rfl) (hpl:=na rfl)))))
   (λ_ _ _ _ _=>(aq ai (pv 0) ae (λ_ _=>rfl))))))
   aY)
  (ao (aV (b5 ag)))))),?_⟩
  refine(?_:let bM:TS:=_;let bN:TS:=_;let bO:TS:=_;let cM:TS:=_;tSeq bM (tSeq bN (tSeq bO cM)) _ _ _)
  intro bM bN bO cM
  have sl:=sizeLine_eq
  refine(?_:let G_:Prop:=_;G_)
  intro G_
  obtain⟨sa,cl,rfl,gF,fK⟩:=id jv
  dsimp only[G_]
  change tSeq _ _ _ _ _
  refine aU (λN=>∀H1 v,aD H H1->Rep H1 (kK x) v->N [some gv,some (.ref sa),some v] H1) ?_ (λN hN=>?_)
  case refine_2=>
   simp_all only[gP,gF]
   exact⟨g,rg,gg,x,lk,λu H1 s1 ru=>hN _ u s1 (ru.mono s1)⟩
  rintro H1 v s1 rv
  refine(?_:let G_:Prop:=_;G_)
  intro G_
  obtain⟨q,Fz,rfl,hq⟩:=rB rv
  dsimp only[G_]
  change tSeq _ _ _ _ _
  by_cases ke:vQ x=Str.ofString "throw"
  ·refine(?_:let G_:Prop:=_;G_)
   intro G_
   obtain⟨dD,t,b,rs,rfl⟩:=vR ke
   obtain⟨ps,rfl,gl,_⟩:=wk
   dsimp only[G_]
   refine aU (λ_=>True) trivial (λN _=>?_)
   refine dz (λY N k=>by simp_all only[hq];rw[if_pos ke];exact k) ?_
   refine(?_:let G_:Prop:=_;G_)
   intro G_
   obtain⟨q',v1,v2,v3,v4,e0,sM,r1,r2,r3,r4⟩:=c8.mp (show Rep H1 (.tup _) (.ref q) from rv)
   dsimp only[G_]
   cases e0
   simp_all only[EN,sM]
   exact⟨ps,r2,gl,λl H2 s2 nl hl=>kk l H2 _ (s1.trans s2) (none_of s1 nl) (a7.mpr ⟨l,_,rfl,hl,ints_rep _⟩) ⟨ps,rfl,gl,rfl⟩⟩
  refine aU (λN=>N [some gv,some (.ref sa),some (.ref q)] H1) ?_ (λN hN=>?_)
  case refine_2=>
   refine c7 (λY N k=>?_) hN
   simp_all only[hq]
   rw[if_neg ke]
   exact k
  change tSeq _ _ _ _ _
  by_cases kp:vQ x=Str.ofString "pick"
  ·refine(?_:let G_:Prop:=_;G_)
   intro G_
   obtain⟨AZ,rs,rfl⟩:=Bm kp
   obtain⟨w4,_,wr⟩:=id wk
   obtain⟨q',v1,v2,v3,e0,sM,r1,r2,r3⟩:=dQ.mp (show Rep H1 (.tup _) (.ref q) from rv)
   dsimp only[G_]
   cases e0
   rw[aN.mp r1,bw.mp r2] at sM
   refine(?_:let G_:Prop:=_;G_)
   intro G_
   obtain⟨rl,ys,rfl,tS,ry⟩:=a7.mp r3
   dsimp only[G_]
   refine aU (λ_=>True) trivial (λN _=>?_)
   refine dz (λY N k=>by simp_all only[hq];rw[if_pos kp];exact k) ?_
   simp_all only[sM,s1 _ _ gF]
   have rD:=ry.length
   rw[Yr,Yr] at rD
   have Lr:rs.length<=100:=by have:=w4.1;omega
   refine⟨⟨_,bI.of tS⟩,gG (src_list (λH' s'=>bI.of (s' _ _ tS))) (λσ=>∃w0,σ=[w0,some gv,some (.ref sa)]) ⟨_,rfl⟩ (λi zs _=>zs=((rs.take i).filter λr=>kL g.cs st.2 r.wh).map λr=>V.str r.word) rfl (by omega) ?_ ?_⟩
   ·rintro i y σ H2 zs H3 Q2 N2 hi s2 ez _ ⟨w0,rfl⟩ ⟨rfl,ey⟩ kq kn
    subst ez
    refine(?_:let G_:Prop:=_;G_)
    intro G_
    obtain⟨r',p,_,b1,b2,b3,er,rfl,hp,QE,_⟩:=mh ry ey
    dsimp only[G_]
    obtain⟨Wp,Wr⟩:=List.getElem?_eq_some_iff.mp er
    have Hm:=s1.trans s2
    have wo:=(wr r' (YI er)).2.1
    have nx:rs.take (i+1)=rs.take i++ [r']:=by rw[take_snoc Wp,Wr]
    simp_all only[ER,s2 _ _ hp,Hm _ _ gF]
    refine⟨g,rg.mono Hm,gg,st.2,Hm _ _ fK,ln,_,QE.mono s2,wo,λH4 s4=>?_⟩
    by_cases hh:kL g.cs st.2 r'.wh=true
    ·rw[if_pos hh]
     exact⟨_,(s2.trans s4) _ _ hp,_,at0,kq _ _ _ ⟨_,rfl⟩ (s2.trans s4) (by rw[nx,List.filter_append,Yx];simp [hh])⟩
    ·rw[if_neg hh]
     exact kn _ _ ⟨_,rfl⟩ (s2.trans s4) (by rw[nx,List.filter_append,Yx];simp [hh])
   ·rintro zs H2 s2 ez _ D n1 n2
    rw[rD.symm,YG (Yt _)] at ez
    subst ez
    refine kk D _ _ (s1.trans (s2.trans (aA n2))) (none_of s1 n1) (a7.mpr ⟨D,_,rfl,aj,?_⟩) rfl
    exact uW _
  ·refine aU (λN=>N [some gv,some (.ref sa),some (.ref q)] H1) ?_ (λN hN=>?_)
   case refine_2=>
    refine c7 (λY N k=>?_) hN
    simp_all only[hq]
    rw[if_neg kp]
    exact k
   simp_all only[]
   refine⟨YD _,λa na=>kk a _ [] (s1.trans (aA na)) (none_of s1 na) (a7.mpr ⟨a,[],rfl,aj,bD.mpr rfl⟩) ?_⟩
   cases x with
   | d7 dD t b rs=>exact absurd rfl ke
   | pick w rs=>exact absurd rfl kp
   | ask c k a b=>rfl
   | fin t b=>rfl
   | score c=>rfl
theorem mL:aT ["_law_game_here","_law_state","_law_step_here","_law_what_here","_law_row"] ["_law_game_here","_law_state","_law_step_here"] (ar (top 56)):=⟨rfl,rfl,rfl,by decide +kernel,rfl,by decide +kernel,by decide +kernel⟩
theorem K7 (T:Txt K mg aE aF aB aH af av):bX P w K mg base (bg P w) 3 "_law_gone" ["_law_game_here","_law_state","_law_step_here"] ES:=by
 have cB:bX P w K mg base (bg P w) 1 "_law_what" ["_law_game_here","_law_name"] gP:=rJ T
 have eA:bX P w K mg base (bg P w) 2 "_law_arrived" ["_law_game_here","_law_name","_law_counts"] uU:=E4 T
 have o7:bX P w K mg base (bg P w) 1 "_law_done" ["_law_game_here","_law_counts","_law_deeds_here","_law_thrown"] Bq:=K4 T
 refine T.xH.du (λ_ _ _ _ _ _=>tK λ_ _ _=>rfl) λf fd F=>F.d3 mL (λvs H Q E h=>?_) (λbT A outer s H vs Q E hr h=>?_)
 ·obtain⟨_,_,_,_,_,_,_,_,_,rfl,_⟩:=h;rfl
 ·refine(?_:let G_:Prop:=_;G_)
  intro G_
  obtain⟨gv,sv,dv,g,st,d,w',py,eK,rfl,rg,gg,jv,ln,K5,uK,kk⟩:=h
  dsimp only[G_]
  have nd:=mL.nd
  refine⟨_,(ah (aI (i:=3) nd rfl (Or.inl rfl) (aK cB (hr.mono (by decide)) rfl au.pass (aa (pv 0) (aa (aq ai (pv 1) ae (λ_ _=>rfl)) ag (se rfl)) (se rfl)) (he:=se rfl) (hpl:=na rfl)))
  (ah (bf (aL bp (aq ai (pv 3) ae (λ_ _=>rfl)) aZ (aS _)) (ah (aI (i:=4) nd rfl (Or.inl rfl) (aq aQ (cG rfl (N:=["_law_game_here","_law_state","_law_step_here","_law_what_here","_law_row"]) (so:=ar (top 56)) (N':=["_law_row","_law_step_here"]) (k:=1) (fr:=[2]) rfl rfl ⟨rfl,by decide +kernel,by decide +kernel,by decide +kernel,rfl,by decide +kernel,by decide +kernel⟩ (bh (K:=K) (aq ai (pv 3) ae (λ_ _=>rfl))) (λ_ _ _ _ _=>(aW (i:=0) (show(["_law_row","_law_step_here"]:List Str).Nodup by decide +kernel) rfl (Or.inl rfl))) (λ_ _ _ _ _=>(eM (wY AB AB (aq ai (pv 0) ae (λ_ _=>rfl)) (pv 1) (aq ai (pv 0) ae (λ_ _=>rfl)))))
   (λ_ _ _ _ _=>(pv 0))) ae (λ_ _=>rfl)))
  (ao (aV (aK eA (hr.mono (by decide)) rfl au.pass (aa (pv 0) (aa (aq ai (pv 4) ae (λ_ _=>rfl)) (aa (aK o7 (hr.mono (by decide)) rfl au.pass (aa (pv 0) (aa (aq ai (pv 1) ae (λ_ _=>rfl)) (aa (aq ai (pv 4) ae (λ_ _=>rfl)) (aa (pv 2) ag (se rfl)) (se rfl)) (se rfl)) (se rfl)) (he:=se rfl) (hpl:=na rfl)) ag (se rfl)) (se rfl)) (se rfl)) (he:=se rfl) (hpl:=na rfl)))))
   aY)
  (ah (aI (i:=4) nd rfl (Or.inl rfl) (aq aQ (cG rfl (N:=["_law_game_here","_law_state","_law_step_here","_law_what_here","_law_row"]) (so:=ar (top 56)) (N':=["_law_row","_law_step_here"]) (k:=1) (fr:=[2]) rfl rfl ⟨rfl,by decide +kernel,by decide +kernel,by decide +kernel,rfl,by decide +kernel,by decide +kernel⟩ (bh (K:=K) (aq ai (pv 3) ae (λ_ _=>rfl))) (λ_ _ _ _ _=>(aW (i:=0) (show(["_law_row","_law_step_here"]:List Str).Nodup by decide +kernel) rfl (Or.inl rfl))) (λ_ _ _ _ _=>(eM (aL bp (aq ai (pv 0) ae (λ_ _=>rfl)) (pv 1) (aS _))))
   (λ_ _ _ _ _=>(pv 0))) ae (λ_ _=>rfl)))
  (ao (aV (aK eA (hr.mono (by decide)) rfl au.pass (aa (pv 0) (aa (aq ai (pv 4) ae (λ_ _=>rfl)) (aa (aK o7 (hr.mono (by decide)) rfl au.pass (aa (pv 0) (aa (aq ai (pv 1) ae (λ_ _=>rfl)) (aa (aq ai (pv 4) ae (λ_ _=>rfl)) (aa ae ag (se rfl)) (se rfl)) (se rfl)) (se rfl)) (he:=se rfl) (hpl:=na rfl)) ag (se rfl)) (se rfl)) (se rfl)) (he:=se rfl) (hpl:=na rfl))))))),?_⟩
  refine(?_:let bM:TS:=_;let bN:TS:=_;let bO:TS:=_;let cM:TS:=_;tSeq bM (tSeq bN (tSeq bO cM)) _ _ _)
  intro bM bN bO cM
  have sl:=sizeLine_eq
  refine(?_:let G_:Prop:=_;G_)
  intro G_
  obtain⟨sa,cl,rfl,gF,fK⟩:=id jv
  dsimp only[G_]
  rcases uK with ⟨AZ,rs,r,lk,Ir,Nx,rfl,rfl,e2,ak⟩ | ⟨ps,t,b,rs,r,v,lk,gl,hv,v0,v1,rfl,rfl,rfl,ro,e2,ak⟩
  ·obtain rfl:=aN.mp K5
   change tSeq _ _ _ _ _
   refine aU (λN=>∀H1 v,aD H H1->Rep H1 (kK (.pick AZ rs)) v->N [some gv,some (.ref sa),some (.str w'),some v,none] H1) ?_ (λN hN=>?_)
   case refine_2=>
    simp_all only[gP,gF]
    exact⟨g,rg,gg,_,lk,λu H1 s1 ru=>hN _ u s1 (ru.mono s1)⟩
   rintro H1 v s1 rv
   refine(?_:let G_:Prop:=_;G_)
   intro G_
   obtain⟨q,v1,v2,v3,rfl,hq,r1,r2,r3⟩:=dQ.mp (show Rep H1 (.tup _) v from rv)
   rw[aN.mp r1,bw.mp r2] at hq
   obtain⟨rl,ys,rfl,tS,ry⟩:=a7.mp r3
   dsimp only[G_]
   change tSeq _ _ _ _ _
   refine aU (λN=>N [some gv,some (.ref sa),some (.str w'),some (.ref q),none] H1) ?_ (λN hN=>?_)
   case refine_2=>
    refine c7 (λY N k=>?_) hN
    simp_all only[hq]
    rw[if_neg (by decide +kernel)]
    exact k
   have gx:=gg.wt _ (cS lk)
   have mr:=Zo Nx
   have Ny:r.word=w':=by have:=List.find?_some Nx;simpa using this
   have mr:r∈rs:=(List.mem_filter.mp mr).1
   obtain⟨rest,er⟩:=Br Ir mr Ny
   obtain⟨K8,E7⟩:=gx.2 r mr
   have rD:=ry.length
   rw[Yr,Yr] at rD
   have Lr:rs.length<=100:=gx.1
   simp_all only[hq,uU,Bq]
   have zl:(ys.zip rs).length=ys.length:=by rw[List.length_zip];omega
   have S:Src (yJ K rl) (aD H1) ys.length _:=src_list (λH' s'=>bI.of (s' _ _ tS))
   rw[<-zl] at S
   refine⟨⟨_,bI.of tS⟩,eI (ys.zip rs) (λy=>if decide (y.2.word=w')=true then some y.1 else none) S (λ_ _ _ _ h=>h.1) (by omega) ?_ ?_⟩
   ·rintro i ⟨y,r'⟩ z Nd ⟨_,ez⟩ Y N3 y1 y2
    obtain⟨e1,e2⟩:=List.getElem?_zip_eq_some.mp Nd
    rw[e1] at ez
    cases ez
    refine(?_:let G_:Prop:=_;G_)
    intro G_
    obtain⟨Yd,q',_,b1,b2,b3,FG,rfl,sM,_,_⟩:=mh ry e1
    dsimp only[G_]
    rw[e2] at FG
    cases FG
    simp_all only[sM]
    by_cases e:r'.word=w'
    ·rw[if_pos e];exact y1 _ (if_pos (decide_eq_true e))
    ·rw[if_neg e];exact y2 (if_neg (by simpa using e))
   ·intro D n1 n2
    have rf:=hJ (p:=λr=>decide (r.word=w')) ry
    rw[er] at rf
    refine(?_:let G_:Prop:=_;G_)
    intro G_
    obtain⟨y,zs,QM,QN,_⟩:=aR.mp rf
    dsimp only[G_]
    rw[QM]
    refine(?_:let G_:Prop:=_;G_)
    intro G_
    obtain⟨p,x1,x2,x3,x4,rfl,hp,q1,q2,q3,q4⟩:=c8.mp (show Rep H1 (.tup _) y from QN)
    obtain rfl:=aN.mp q4
    dsimp only[G_]
    have sD:=aA (H:=H1) (o:=.lst (V.ref p::zs)) n2
    have Hx:=s1.trans sD
    refine⟨_,aj,_,at0,p,rfl,_,sD _ _ hp,_,QL,_,Hx _ _ gF,_,at1,p,rfl,_,sD _ _ hp,_,at2,cl,rfl,g,rg.mono Hx,gg,st.2,Hx _ _ fK,ln,r.ds,q3.mono sD,K8,E7,λl' H3 s3 nl hl=>?_⟩
    have my:=Hx.trans s3
    rw[<-e2] at hl
    exact⟨l',r.to,rfl,rfl,g,rg.mono my,gg,eK.2,hl,by rw[e2];exact(cV _ _).trans ln,3,eK.1,ak,λa l2 H4 s4 na QO ea el=>kk a l2 H4 (my.trans s4) (none_of my na) (none_of my QO) ea el⟩
  ·obtain rfl:=bw.mp K5
   change tSeq _ _ _ _ _
   refine aU (λN=>∀H1 u,aD H H1->Rep H1 (kK (.d7 (ps.map vE) t b rs)) u->N [some gv,some (.ref sa),some (.int v),some u,none] H1) ?_ (λN hN=>?_)
   case refine_2=>
    simp_all only[gP,gF]
    exact⟨g,rg,gg,_,lk,λu H1 s1 ru=>hN _ u s1 (ru.mono s1)⟩
   rintro H1 u s1 rv
   refine(?_:let G_:Prop:=_;G_)
   intro G_
   obtain⟨q,v1,v2,v3,v4,rfl,hq,r1,r2,r3,r4⟩:=c8.mp (show Rep H1 (.tup _) u from rv)
   rw[aN.mp r1] at hq
   obtain⟨rl,ys,rfl,tS,ry⟩:=a7.mp r4
   dsimp only[G_]
   change tSeq _ _ _ _ _
   refine aU (λ_=>True) trivial (λN _=>?_)
   refine dz (λY N k=>by simp_all only[hq];exact k) ?_
   refine(?_:let G_:Prop:=_;G_)
   intro G_
   obtain⟨g0,g1,g2⟩:=gg.wt _ (cS lk)
   have hd:(rs.filter λr=>decide (r.1<=v) && decide (v<=r.2.1)).head?=some r:=by rw[List.head?_filter];exact ro
   obtain⟨rest,er⟩:∃rest,(rs.filter λr=>decide (r.1<=v) && decide (v<=r.2.1))=r::rest:=by
    cases h:rs.filter λr=>decide (r.1<=v) && decide (v<=r.2.1) with
    | nil=>rw[h] at hd;cases hd
    | cons a l=>rw[h] at hd;cases hd;exact⟨l,rfl⟩
   have mr:r∈rs:=Zo ro
   obtain⟨K8,E7⟩:=g2 r mr
   dsimp only[G_]
   have rD:=ry.length
   rw[Yr,Yr] at rD
   simp_all only[hq,uU,Bq]
   have zl:(ys.zip rs).length=ys.length:=by rw[List.length_zip];omega
   have S:Src (yJ K rl) (aD H1) ys.length _:=src_list (λH' s'=>bI.of (s' _ _ tS))
   rw[<-zl] at S
   refine⟨_,QL,rl,rfl,⟨_,bI.of tS⟩,eI (ys.zip rs) (λx=>if (decide (x.2.1<=v) && decide (v<=x.2.2.1))=true then some x.1 else none) S (λ_ _ _ _ h=>h.1) (by omega) ?_ ?_⟩
   ·rintro i ⟨y,r'⟩ z Nd ⟨_,ez⟩ Y N3 y1 y2
    obtain⟨e1,e2⟩:=List.getElem?_zip_eq_some.mp Nd
    rw[e1] at ez
    cases ez
    refine(?_:let G_:Prop:=_;G_)
    intro G_
    obtain⟨dd,ed,rd⟩:=ry.get e1
    dsimp only[G_]
    rw[Yu,Yu,e2] at ed
    cases ed
    refine(?_:let G_:Prop:=_;G_)
    intro G_
    obtain⟨p',a',b',c',d',rfl,sT,q1,q2,q3,q4⟩:=c8.mp (show Rep H1 (.tup _) y from rd)
    dsimp only[G_]
    rw[show a'=.int r'.1 from bw.mp q1,show b'=.int r'.2.1 from bw.mp q2] at sT
    simp_all only[sT]
    by_cases c1:r'.1<=v
    ·rw[if_pos c1]
     by_cases c2:v<=r'.2.1
     ·rw[if_pos c2];exact y1 _ (if_pos (by simp [c1,c2]))
     ·rw[if_neg c2];exact y2 (if_neg (by simp [c2]))
    ·rw[if_neg c1,if_neg (by decide)];exact y2 (if_neg (by simp [c1]))
   ·intro D n1 n2
    have rf:=nR (p:=λr=>decide (r.1<=v) && decide (v<=r.2.1)) ry
    rw[er] at rf
    refine(?_:let G_:Prop:=_;G_)
    intro G_
    obtain⟨y,zs,QM,QN,_⟩:=aR.mp rf
    dsimp only[G_]
    rw[QM]
    refine(?_:let G_:Prop:=_;G_)
    intro G_
    obtain⟨p,x1,x2,x3,x4,rfl,hp,q1,q2,q3,q4⟩:=c8.mp (show Rep H1 (.tup _) y from QN)
    obtain rfl:=aN.mp q4
    dsimp only[G_]
    have sD:=aA (H:=H1) (o:=.lst (V.ref p::zs)) n2
    have Hx:=s1.trans sD
    refine⟨_,aj,_,at0,p,rfl,_,sD _ _ hp,_,QL,_,Hx _ _ gF,_,at1,p,rfl,_,sD _ _ hp,_,at2,cl,rfl,g,rg.mono Hx,gg,st.2,Hx _ _ fK,ln,r.2.2.1,q3.mono sD,K8,E7,λl' H3 s3 nl hl=>?_⟩
    have my:=Hx.trans s3
    rw[<-e2] at hl
    exact⟨l',r.2.2.2,rfl,rfl,g,rg.mono my,gg,eK.2,hl,by rw[e2];exact(cV _ _).trans ln,3,eK.1,ak,λa l2 H4 s4 na QO ea el=>kk a l2 H4 (my.trans s4) (none_of my na) (none_of my QO) ea el⟩
theorem mM:aT ["_law_game_here","_law_state","_law_what_here"] ["_law_game_here","_law_state"] (ar (top 57)):=⟨rfl,rfl,rfl,by decide +kernel,rfl,by decide +kernel,by decide +kernel⟩
theorem K9 (T:Txt K mg aE aF aB aH af av):bX P w K mg base (bg P w) 2 "_law_paid" ["_law_game_here","_law_state"] ET:=by
 have cB:bX P w K mg base (bg P w) 1 "_law_what" ["_law_game_here","_law_name"] gP:=rJ T
 refine T.xI.du (λ_ _ _ _ _ _=>eD λ_ _=>rfl) λf fd F=>F.d3 mM (λvs H Q E h=>?_) (λbT A outer s H vs Q E hr h=>?_)
 ·obtain⟨_,_,_,_,_,rfl,_⟩:=h;rfl
 ·refine(?_:let G_:Prop:=_;G_)
  intro G_
  obtain⟨gv,sv,g,st,x,rfl,rg,gg,jv,lk,kk⟩:=h
  dsimp only[G_]
  have nd:=mM.nd
  refine⟨_,(ah (aI (i:=2) nd rfl (Or.inl rfl) (aK cB (hr.mono (by decide)) rfl au.pass (aa (pv 0) (aa (aq ai (pv 1) ae (λ_ _=>rfl)) ag (se rfl)) (se rfl)) (he:=se rfl) (hpl:=na rfl)))
  (ah (bf (aL bp (aq ai (pv 2) ae (λ_ _=>rfl)) aZ (aS _)) (ao (aV (aq ai (pv 2) ae (λ_ _=>rfl))))
   aY)
  (ao (aV (a5 (aa ae (aa ae ag (se rfl)) (se rfl))))))),?_⟩
  refine(?_:let bM:TS:=_;let bN:TS:=_;let bO:TS:=_;tSeq bM (tSeq bN bO) _ _ _)
  intro bM bN bO
  have sl:=sizeLine_eq
  refine(?_:let G_:Prop:=_;G_)
  intro G_
  obtain⟨sa,cl,rfl,gF,fK⟩:=id jv
  dsimp only[G_]
  simp_all only[gP,gF]
  refine⟨g,rg,gg,x,lk,λu H1 s1 ru=>?_⟩
  refine(?_:let G_:Prop:=_;G_)
  intro G_
  obtain⟨q,Fz,rfl,hq⟩:=rB ru
  dsimp only[G_]
  refine⟨q,rfl,_,s1 _ _ hq,_,at0,rfl,?_⟩
  by_cases ek:vQ x=Str.ofString "throw"
  ·refine(?_:let G_:Prop:=_;G_)
   intro G_
   obtain⟨dD,t,b,rs,rfl⟩:=vR ek
   dsimp only[G_]
   rw[if_pos (congrArg V.str ek)]
   refine(?_:let G_:Prop:=_;G_)
   intro G_
   obtain⟨q',v1,v2,v3,v4,e0,sM,r1,r2,r3,r4⟩:=c8.mp (show Rep H (.tup _) (.ref q) from ru)
   dsimp only[G_]
   cases e0
   exact⟨q,rfl,_,s1 _ _ sM,_,at2,kk _ _ s1 (r3.mono s1)⟩
  ·rw[if_neg (λz=>ek (by injection z))]
   refine⟨by omega,λp H2 s2 n2 e2=>kk _ _ (s1.trans s2) ?_⟩
   have e:KI x=(0,1):=by
    cases x with
    | d7 dD t b rs=>exact absurd rfl ek
    | ask c k a b=>rfl
    | fin t b=>rfl
    | score c=>rfl
    | pick w rs=>rfl
   rw[e]
   exact b6.mpr ⟨p,rfl,e2⟩
theorem iR:aT ["_law_game_here","_law_state","_law_got","_law_what_here"] ["_law_game_here","_law_state","_law_got"] (ar (top 58)):=⟨rfl,rfl,rfl,by decide +kernel,rfl,by decide +kernel,by decide +kernel⟩
theorem La (T:Txt K mg aE aF aB aH af av):bX P w K mg base (bg P w) 3 "_law_points" ["_law_game_here","_law_state","_law_got"] EU:=by
 have cB:bX P w K mg base (bg P w) 1 "_law_what" ["_law_game_here","_law_name"] gP:=rJ T
 have dJ:bX P w K mg base (bg P w) 1 "_law_number" ["_law_game_here","_law_counts","_law_name"] rG:=Ag T
 have gi:bX P w K mg base (bg P w) 2 "_law_plus" ["_law_one","_law_other"] iL:=EV T
 refine T.tG.du (λ_ _ _ _ _ _=>tK λ_ _ _=>rfl) λf fd F=>F.d3 iR (λvs H Q E h=>?_) (λbT A outer s H vs Q E hr h=>?_)
 ·obtain⟨_,_,_,_,_,_,_,rfl,_⟩:=h;rfl
 ·refine(?_:let G_:Prop:=_;G_)
  intro G_
  obtain⟨gv,sv,yi,g,st,pd,x,rfl,rg,gg,jv,ln,lk,Lb,yh,hw,kk⟩:=h
  dsimp only[G_]
  have nd:=iR.nd
  refine⟨_,(ah (aI (i:=3) nd rfl (Or.inl rfl) (aK cB (hr.mono (by decide)) rfl au.pass (aa (pv 0) (aa (aq ai (pv 1) ae (λ_ _=>rfl)) ag (se rfl)) (se rfl)) (he:=se rfl) (hpl:=na rfl)))
  (ah (bf (aL bp (aq ai (pv 3) ae (λ_ _=>rfl)) aZ (aS _)) (ao (aV (aK gi (hr.mono (by decide)) rfl au.pass (aa (pv 2) (aa (aq ai (pv 3) ae (λ_ _=>rfl)) ag (se rfl)) (se rfl)) (he:=se rfl) (hpl:=na rfl))))
   aY)
  (ah (bf (aL bp (aq ai (pv 3) ae (λ_ _=>rfl)) aZ (aS _)) (ao (aV (aK gi (hr.mono (by decide)) rfl au.pass (aa (pv 2) (aa (a5 (aa (aK dJ (hr.mono (by decide)) rfl au.pass (aa (pv 0) (aa (aq ai (pv 1) ae (λ_ _=>rfl)) (aa (aq ai (pv 3) ae (λ_ _=>rfl)) ag (se rfl)) (se rfl)) (se rfl)) (he:=se rfl) (hpl:=na rfl)) (aa ae ag (se rfl)) (se rfl))) ag (se rfl)) (se rfl)) (he:=se rfl) (hpl:=na rfl))))
   aY)
  (ao (aV (pv 2)))))),?_⟩
  refine(?_:let bM:TS:=_;let bN:TS:=_;let bO:TS:=_;let cM:TS:=_;tSeq bM (tSeq bN (tSeq bO cM)) _ _ _)
  intro bM bN bO cM
  have sl:=sizeLine_eq
  refine(?_:let G_:Prop:=_;G_)
  intro G_
  obtain⟨sa,cl,rfl,gF,fK⟩:=id jv
  dsimp only[G_]
  change tSeq _ _ _ _ _
  refine aU (λN=>∀H1 v,aD H H1->Rep H1 (kK x) v->N [some gv,some (.ref sa),some yi,some v] H1) ?_ (λN hN=>?_)
  case refine_2=>
   simp_all only[gP,gF]
   exact⟨g,rg,gg,x,lk,λu H1 s1 ru=>hN _ u s1 (ru.mono s1)⟩
  rintro H1 v s1 rv
  refine(?_:let G_:Prop:=_;G_)
  intro G_
  obtain⟨q,Fz,rfl,hq⟩:=rB rv
  dsimp only[G_]
  by_cases ke:vQ x=Str.ofString "end"
  ·refine(?_:let G_:Prop:=_;G_)
   intro G_
   obtain⟨t,b,rfl⟩:=Kl ke
   obtain⟨q',v1,v2,e0,sM,r1,r2⟩:=bJ.mp (show Rep H1 (.tup _) (.ref q) from rv)
   dsimp only[G_]
   cases e0
   rw[aN.mp r1] at sM
   simp_all only[sM,iL]
   exact⟨pd,Lb.mono s1,(t,b),r2,yh,hw _ rfl,λr H2 s2 n2 e2=>kk _ _ (s1.trans s2) (b6.mpr ⟨r,rfl,e2⟩)⟩
  ·change tSeq _ _ _ _ _
   refine aU (λN=>N [some gv,some (.ref sa),some yi,some (.ref q)] H1) ?_ (λN hN=>?_)
   case refine_2=>
    refine c7 (λY N k=>?_) hN
    simp_all only[hq]
    rw[if_neg ke]
    exact k
   by_cases ks:vQ x=Str.ofString "score"
   ·obtain⟨c,rfl⟩:=Ew ks
    refine(?_:let G_:Prop:=_;G_)
    intro G_
    obtain⟨q',v1,v2,e0,sM,r1,r2⟩:=bJ.mp (show Rep H1 (.tup _) (.ref q) from rv)
    dsimp only[G_]
    cases e0
    rw[aN.mp r1,aN.mp r2] at sM
    have hc:c∈g.cs.map (·.1):=gg.wt _ (cS lk)
    simp_all only[sM,iL,rG,s1 _ _ gF]
    exact⟨g,rg.mono s1,gg,st.2,s1 _ _ fK,ln,hc,λH2 s2=>⟨by omega,λp H3 s3 np ep=>⟨pd,Lb.mono (s1.trans (s2.trans s3)),(st.2.getD (bF g.cs c) 0,1),b6.mpr ⟨p,rfl,ep⟩,yh,hw _ rfl,λr H4 s4 n4 e4=>kk _ _ (s1.trans (s2.trans (s3.trans s4))) (b6.mpr ⟨r,rfl,e4⟩)⟩⟩⟩
   ·change tSeq _ _ _ _ _
    refine aU (λN=>N [some gv,some (.ref sa),some yi,some (.ref q)] H1) ?_ (λN hN=>?_)
    case refine_2=>
     refine c7 (λY N k=>?_) hN
     simp_all only[hq]
     rw[if_neg ks]
     exact k
    have e:Ex g st pd x=pd:=by
     cases x with
     | fin t b=>exact absurd rfl ke
     | score c=>exact absurd rfl ks
     | d7 dD t b rs=>rfl
     | ask c k a b=>rfl
     | pick w rs=>rfl
    simp_all only[]
    exact kk _ _ s1 (by rw[e];exact Lb.mono s1)
theorem mO:aT ["_law_play","_law_game_here","_law_trail","_law_state","_law_got","_law_text"] ["_law_play","_law_game_here","_law_trail"] (ar (top 59)):=⟨rfl,rfl,rfl,by decide +kernel,rfl,by decide +kernel,by decide +kernel⟩
theorem E8 {g:Gm} {st:fE} {x:Wt} {ds es:List Dat} (h:Ik g st x ds) (k:Ik g st x es):ds=es:=by
 cases x with
 | d7 dD t b rs=>
  obtain⟨ps,e1,_,e2⟩:=h
  obtain⟨qs,e3,_,e4⟩:=k
  rw[e1] at e3
  rw[e2,e4,p4 e3]
 | ask c k' a b=>exact(show ds=_ from h).trans (show es=_ from k).symm
 | fin t b=>exact(show ds=_ from h).trans (show es=_ from k).symm
 | score c=>exact(show ds=_ from h).trans (show es=_ from k).symm
 | pick w rs=>exact(show ds=_ from h).trans (show es=_ from k).symm
theorem Lc {g:Gm} {gs:List Str} {st:fE} {x:Wt} (h:mC g.cs gs x):∃ds,Ik g st x ds/\∀d∈ds,depth d=0:=by
 have other:∀{rs:List Rw},∀d∈rs.map (λr=>Dat.str r.word),depth d=0:=λ{rs} d hd=>by
  obtain⟨r,_,rfl⟩:=List.mem_map.mp hd
  rfl
 cases x with
 | d7 dD t b rs=>
  obtain⟨ps,e,gl,_⟩:=h
  refine⟨_,⟨ps,e,gl,rfl⟩,λd hd=>?_⟩
  obtain⟨i,_,rfl⟩:=List.mem_map.mp hd
  rfl
 | ask c k a b=>exact⟨_,rfl,other⟩
 | fin t b=>exact⟨_,rfl,other⟩
 | score c=>exact⟨_,rfl,other⟩
 | pick w rs=>exact⟨_,rfl,other⟩
theorem Ld {g:Gm} {gs:List Str} {st:fE} (sk:vW g gs st) {x:Wt} (wx:mC g.cs gs x):∀w,zO g.cs st.2 x=some w->kb 100000 w:=λw e=>by
 cases x with
 | fin t b=>
  obtain⟨rfl,h1,h2⟩:=wx
  cases e
  exact hU _ (by omega) (by omega)
 | score c=>
  cases e
  have hl:bF g.cs c<st.2.length:=by rw[sk.len];exact fm wx
  have:=sk.nn _ (YV hl)
  rw[wc hl]
  exact hU _ (by omega) (by omega)
 | ask c k a b=>cases e
 | pick w rs=>cases e
 | d7 p t b rs=>cases e
theorem qb {α:Type} {xs:List α} {x:α}:lJ (xs++ [x]) (-1)=some x:=by
 have h:C9 (xs++ [x]).length (-1)=some xs.length:=by
  unfold C9
  rw[if_neg (by decide),Yy,Y4,if_pos (by omega)]
  congr 1
  omega
 unfold lJ
 rw[h]
 show(xs++ [x])[xs.length]?=some x
 rw[Zk (Yt _),Nat.sub_self]
 rfl
theorem Al.snoc_inv {α:Type} {R:α->V->Prop} {a:α}:∀{as:List α} {vs:List V},Al R (as++ [a]) vs->∃us v,vs=us++ [v]/\Al R as us/\R a v
 | [],vs,h=>by
  cases vs with
  | nil=>exact h.elim
  | cons v r=>
   obtain⟨h1,h2⟩:=h
   cases r with
   | nil=>exact⟨[],v,rfl,trivial,h1⟩
   | cons _ _=>exact h2.elim
 | b::as,vs,h=>by
  cases vs with
  | nil=>exact h.elim
  | cons v r=>
   obtain⟨h1,h2⟩:=h
   obtain⟨us,x,e,h3,h4⟩:=Al.snoc_inv h2
   exact⟨v::us,x,by rw[e];rfl,⟨h1,h3⟩,h4⟩
theorem Le (T:Txt K mg aE aF aB aH af av):bX P w K mg base (bg P w) 9 "_law_same" ["_law_play","_law_game_here","_law_trail"] (Bs av af):=by
 have tU:bu P w K mg base (bg P w) 1 av "stands" ["self"] (Et av af):=Kh T
 have tV:bu P w K mg base (bg P w) 4 av "points" ["self"] (Ez av af):=Kn T
 have eJ:bu P w K mg base (bg P w) 8 av "open_ways" ["self"] (yg av af):=EF T
 have wj:bu P w K mg base (bg P w) 1 av "shown" ["self"] (ED av af):=Kw T
 have gj:bX P w K mg base (bg P w) 3 "_law_open" ["_law_game_here","_law_state"] uV:=E6 T
 have tW:bX P w K mg base (bg P w) 3 "_law_points" ["_law_game_here","_law_state","_law_got"] EU:=La T
 refine T.xJ.du (λ_ _ _ _ _ _=>tK λ_ _ _=>rfl) λf fd F=>F.d3 mO (λvs H Q E h=>?_) (λbT A outer s H vs Q E hr h=>?_)
 ·obtain⟨_,_,_,_,_,_,_,_,_,_,_,_,rfl,_⟩:=h;rfl
 ·refine(?_:let G_:Prop:=_;G_)
  intro G_
  obtain⟨p,gv,t,tl,tb,L,g,gs,st,pd,tr,xs,rfl,pl,rg,Nz,BG,yh,vT,tw,ht,xl,QP,al,kk⟩:=h
  dsimp only[G_]
  have nd:=mO.nd
  refine⟨_,(ah (u5 (aq aQ (pv 2) (gC eF ae) (λ_ _=>rfl)) (d4 (K:=K) (n:=3) rfl (bA (aW (i:=3) nd rfl (Or.inl rfl)) (bA (aW (i:=4) nd rfl (Or.inl rfl)) (bA (aW (i:=5) nd rfl (Or.inl rfl)) dX)))))
  (ah (bf (PW.pt (pw_or (aL (DH hr.units) (iE tU T.a4 (pv 0) (hr.mono (by decide)) au.pass) (a5 (aa (aq ai (pv 3) ae (λ_ _=>rfl)) (aa (aq ai (pv 3) ae (λ_ _=>rfl)) ag (se rfl)) (se rfl))) (aS _)) (pw_or1 (aL (DH hr.units) (iE tV T.a4 (pv 0) (hr.mono (by decide)) au.pass) (aK tW (hr.mono (by decide)) rfl au.pass (aa (pv 1) (aa (pv 3) (aa (pv 4) ag (se rfl)) (se rfl)) (se rfl)) (he:=se rfl) (hpl:=na rfl)) (aS _))))) (ao (aV oK))
   aY)
  (ao (aV (yV (fZ (JC hr.units) (iE eJ T.a4 (pv 0) (hr.mono (by decide)) au.pass) (aK gj (hr.mono (by decide)) rfl au.pass (aa (pv 1) (aa (pv 3) ag (se rfl)) (se rfl)) (he:=se rfl) (hpl:=na rfl)) (aS _)) (yU (fZ bp (iE wj T.a4 (pv 0) (hr.mono (by decide)) au.pass) (pv 5) (aS _)))))))),?_⟩
  refine(?_:let bM:TS:=_;let bN:TS:=_;let bO:TS:=_;tSeq bM (tSeq bN bO) _ _ _)
  intro bM bN bO
  have sl:=sizeLine_eq
  refine(?_:let G_:Prop:=_;G_)
  intro G_
  obtain⟨us,v,rfl,_,t1,sv,yi,rfl,Lf,jv,Lb⟩:=Al.snoc_inv (show Al _ (_++ [_]) xs from al)
  obtain⟨sa,cl,rfl,gF,fK⟩:=id jv
  obtain⟨x,lk,wx⟩:=BG.at_
  have hp:=pl.ex
  have Ol:Il x:=λc k a b e=>by rw[e] at wx;exact wx
  have ew:=Ld BG wx
  obtain⟨ds,od,d0⟩:=Lc (st:=st) wx
  have Wu:depth (.lst ds)<=40:=by
   show 1+depth.dL ds<=40
   have:=qF (ds:=ds) (n:=0) λd hd=>Nat.le_of_eq (d0 d hd)
   omega
  obtain⟨dp,c,CK,QQ,RT,hpl,_⟩:=id hp
  dsimp only[G_]
  have Cw:∀{k:Str} {a b c d:V},(k==Str.ofString "course")=false->(k==Str.ofString "state")=false->(k==Str.ofString "paid")=false->(k==Str.ofString "trail")=false->List.lookup k (iu a b c d)=none:=λh1 h2 h3 h4=>by
   unfold iu
   rw[bH h1,bH h2,bH h3,bH h4]
   rfl
  change tSeq _ _ _ _ _
  refine aU (λN=>N [some (.ref p),some gv,some (.ref t),some (.ref sa),some yi,some (.str (dI tr))] H) ?_ (λN hN=>?_)
  case refine_2=>
   simp_all only[ht]
   refine⟨_,qb,t1,_,rfl,jn.of (aM _ _ Lf),rfl,?_⟩
   simp_all only[]
   exact hN
  change tSeq _ _ _ _ _
  refine aU (λN=>∀H1,aD H H1->N [some (.ref p),some gv,some (.ref t),some (.ref sa),some yi,some (.str (dI tr))] H1) ?_ (λN hN=>?_)
  case refine_2=>
   simp_all only[bY,Et,Ez,EU,Gk]
   refine⟨_,_,hpl,Cw (by decide +kernel) (by decide +kernel) (by decide +kernel) (by decide +kernel),tl,tb,L,g,st,pd,tr,pl,λa l H1 s1 na nl ha hl=>⟨_,s1 _ _ (aM _ _ gF),_,at0,_,s1 _ _ (aM _ _ gF),_,at1,by omega,λq H2 s2 nq eq=>⟨.tup [.str st.1,.lst (st.2.map Dat.int)],?_,?_,⟨_,rfl⟩,?_,?_⟩⟩⟩
   ·exact bJ.mpr ⟨a,_,_,rfl,s2 _ _ ha,aN.mpr rfl,a7.mpr ⟨l,_,rfl,s2 _ _ hl,ints_rep _⟩⟩
   ·exact bJ.mpr ⟨q,_,_,rfl,eq,aN.mpr rfl,a7.mpr ⟨cl,_,rfl,(s1.trans s2) _ _ (aM _ _ fK),ints_rep _⟩⟩
   ·show 1+max 0 (max (1+depth.dL _) 0)<=40
    have:=qF (ds:=st.2.map Dat.int) (n:=0) λd hd=>by obtain⟨i,_,rfl⟩:=List.mem_map.mp hd;exact Yt _
    omega
   rw[if_neg (by decide)]
   have yj:=s1.trans s2
   have v2:=(aM (L:=L)).trans yj
   refine⟨_,_,yj _ _ hpl,Cw (by decide +kernel) (by decide +kernel) (by decide +kernel) (by decide +kernel),tl,tb,L,g,st,pd,tr,pl.same yj,x,lk,Ol,yh.le (by decide),ew,λu H3 s3 ru=>⟨g,rg.mono (v2.trans s3),Nz.good,st,jv.mono (v2.trans s3),BG.len,pd,x,lk,Lb.mono (v2.trans s3),yh.le (by decide),ew,λu1 H4 s4 Ww=>⟨_,ru.mono s4,Ww,?_,?_,?_⟩⟩⟩
   ·refine(?_:let G_:Prop:=_;G_)
    intro G_
    obtain⟨q',e,_⟩:=b6.mp ru
    dsimp only[G_]
    exact⟨q',e⟩
   ·rw[zC];decide
   ·rw[if_neg (by decide)]
    exact hN _ (yj.trans (s3.trans s4))
  rintro H1 s1
  have uP:=pl.same s1
  simp_all only[bY,yg,uV,ED,Gk]
  refine⟨_,_,s1 _ _ hpl,Cw (by decide +kernel) (by decide +kernel) (by decide +kernel) (by decide +kernel),tl,tb,L,g,st,pd,tr,uP,x,lk,ds,od,λa H2 k2 Lx na ra=>?_⟩
  have yj:aD (bE L H) (bE L H2):=(dU s1).trans (k2.cE pl.mem.1 pl.mem.2.1 pl.mem.2.2)
  have v2:=yj.trans aM
  refine⟨g,rg.mono v2,Nz.good,gs,st,jv.mono v2,BG.len,x,lk,wx,λb H3 es s3 nb rb oe=>?_⟩
  rw[<-E8 od oe] at rb
  refine(?_:let G_:Prop:=_;G_)
  intro G_
  obtain⟨Ye,c2,Yg,Yh,CH,Hq,_⟩:=Lx.ex
  dsimp only[G_]
  exact⟨.lst ds,ra.mono s3,rb,⟨_,rfl⟩,Wu,_,_,s3 _ _ Hq,Cw (by decide +kernel) (by decide +kernel) (by decide +kernel) (by decide +kernel),tl,tb,L,g,st,pd,tr,Lx.same s3,vT,λe he=>(tw e he).2.1,λH4 s4=>by rw[decide_eq_true rfl];exact kk H4 ((K3.of s1).trans (k2.trans (.of (s3.trans s4)))) (Lx.same (s3.trans s4))⟩
theorem mP:aT ["_law_play","_law_game_here","_law_trail","_law_step_here","_law_state","_law_got","_law_text","_law_words_here"] ["_law_play","_law_game_here","_law_trail","_law_step_here"] (ar (top 60)):=⟨rfl,rfl,rfl,by decide +kernel,rfl,by decide +kernel,by decide +kernel⟩
theorem join_snoc {sep:Str} {ts:List Str} {w:Str} (h:ts≠[]):Txt.join sep (ts++ [w])=Txt.join sep ts++sep++w:=by
 cases ts with
 | nil=>exact absurd rfl h
 | cons x rest=>
  unfold Txt.join
  show(⟨(rest++ [w]).foldl (λacc p=>acc++sep.cps++p.cps) x.cps⟩:Str)=_
  rw[List.foldl_append]
  rfl
theorem E9 {sep:Str} {x:Str} {rest:List Str}:x.length<=(Txt.join sep (x::rest)).length:=by
 unfold Txt.join
 rw[StrLaws.glued_eq_join]
 cases rest with
 | nil=>exact Yt _
 | cons y r=>
  show _<=(x++sep++Str.join sep (y::r)).length
  rw[Str.length_append,Str.length_append]
  omega
theorem zy {ts:List Str} (h:∀x∈ts,x.length<=20):(ts.map (·.length)).sum<=20*ts.length:=by
 induction ts with
 | nil=>exact Yt _
 | cons x r ih=>
  rw[Ys,Ze,YC]
  have:=h x YA
  have:=ih λy hy=>h y (Yz _ hy)
  omega
theorem join_le {tr:List ju} (h:∀e∈tr,Hj e.1):(dI tr).length<=21*tr.length:=by
 unfold dI Txt.join
 rw[StrLaws.glued_eq_join]
 have a:=StrLaws.join_length_le (Str.ofString " ") (tr.map (·.1))
 have b:=zy (ts:=tr.map (·.1)) λx hx=>by
  obtain⟨e,he,rfl⟩:=List.mem_map.mp hx
  exact(h e he).2.1
 rw[show(Str.ofString " ").length=1 by decide +kernel] at a
 rw[Yr] at a b
 omega
theorem Ah {tr:List ju} {w:Str} {st:fE} {pd:Int×Int} (h:∀e∈tr,Hj e.1):dI (tr++ [(w,st,pd)])=if ¬dI tr=Str.ofString "" then dI tr++Str.ofString " "++w else w:=by
 cases tr with
 | nil=>rw[if_neg (λz=>z (by decide +kernel))];rfl
 | cons x r=>
  have:=(h x YA).1
  have j:x.1.length<=(dI (x::r)).length:=E9
  rw[if_pos (λz=>by rw[z,show(Str.ofString "").length=0 by decide +kernel] at j;omega)]
  unfold dI
  rw[Yx]
  exact join_snoc (by rw[Ys];exact List.cons_ne_nil _ _)
theorem uX {tr:List ju} {e:ju} {st:fE} {pd:Int×Int}:ents (tr++ [e]) st pd=ents tr e.2.1 e.2.2++ [(st,pd,dI (tr++ [e]))]:=by
 unfold ents
 rw[List.mapIdx_concat]
 congr 1
 congr 1
 ·refine List.ext_getElem (by simp) λi h1 h2=>?_
  rw[List.getElem_mapIdx,List.getElem_mapIdx]
  rw[List.length_mapIdx] at h1
  rw[List.take_append_of_le_length (by omega)]
 ·rw[List.take_append_of_le_length (Yt _),YG (Yt _)]
theorem Lg (T:Txt K mg aE aF aB aH af av):bX P w K mg base (bg P w) 10 "_law_step" ["_law_play","_law_game_here","_law_trail","_law_step_here"] (Bu av af):=by
 have Ai:bu P w K mg base (bg P w) 5 av "say" ["self","word"] (EB av af aH aB):=Kr T
 have wm:bu P w K mg base (bg P w) 9 av "throw" ["self","value"] (EC av af aB):=Kt T
 have yu:bX P w K mg base (bg P w) 3 "_law_gone" ["_law_game_here","_law_state","_law_step_here"] ES:=K7 T
 have gi:bX P w K mg base (bg P w) 2 "_law_plus" ["_law_one","_law_other"] iL:=EV T
 have yv:bX P w K mg base (bg P w) 2 "_law_paid" ["_law_game_here","_law_state"] ET:=K9 T
 refine T.xK.du (λ_ _ _ _ _ _=>tM λ_ _ _ _=>rfl) λf fd F=>F.d3 mP (λvs H Q E h=>?_) (λbT A outer s H vs Q E hr h=>?_)
 ·obtain⟨_,_,_,_,_,_,_,_,_,_,_,_,_,_,_,_,_,rfl,_⟩:=h;rfl
 ·refine(?_:let G_:Prop:=_;G_)
  intro G_
  obtain⟨p,gv,t,dv,tl,tb,L,g,gs,st,pd,tr,xs,d,w',py,eK,rfl,pl,rg,Nz,BG,yh,wK,vT,tw,ww,tL,ht,QP,al,Cz,uK,kk⟩:=h
  dsimp only[G_]
  have nd:=mP.nd
  refine⟨_,(ah (u5 (aq aQ (pv 2) (gC eF ae) (λ_ _=>rfl)) (d4 (K:=K) (n:=3) rfl (bA (aW (i:=4) nd rfl (Or.inl rfl)) (bA (aW (i:=5) nd rfl (Or.inl rfl)) (bA (aW (i:=6) nd rfl (Or.inl rfl)) dX)))))
  (ah (bf (kr (aX (nH (K:=K)) (by rfl) T.z_isinstance rfl (aa (pv 3) (aa (u4 (v:=V.ty "str") rfl T.z_str rfl rfl) ag (se rfl)) (se rfl)) (he:=se rfl) (hpl:=na rfl))) (ao (bG (cU Ai T.a4 (pv 0) (hr.mono (by decide)) au.pass (aa (pv 3) ag (se rfl)) (hst:=se rfl) (hpl:=na rfl))))
   (ao (bG (cU wm T.a4 (pv 0) (hr.mono (by decide)) au.pass (aa (pv 3) ag (se rfl)) (hst:=se rfl) (hpl:=na rfl)))))
  (ah (aI (i:=7) nd rfl (Or.inl rfl) (dS zD (by rfl) T.z_str rfl (aa (pv 3) ag (se rfl)) (he:=se rfl) (hpl:=na rfl)))
  (ah (bf (aL uo (pv 6) aZ (aS _)) (ao (aI (i:=7) nd rfl (Or.inl rfl) (aG ky (aG ky (pv 6) aZ) (pv 7))))
   aY)
  (ao (bG (fH YN Zh Zi dj.r (pv 2) (aa (a5 (aa (aK yu (hr.mono (by decide)) rfl au.pass (aa (pv 1) (aa (pv 4) (aa (pv 3) ag (se rfl)) (se rfl)) (se rfl)) (he:=se rfl) (hpl:=na rfl)) (aa (aK gi (hr.mono (by decide)) rfl au.pass (aa (pv 5) (aa (aK yv (hr.mono (by decide)) rfl au.pass (aa (pv 1) (aa (pv 4) ag (se rfl)) (se rfl)) (he:=se rfl) (hpl:=na rfl)) ag (se rfl)) (se rfl)) (he:=se rfl) (hpl:=na rfl)) (aa (pv 7) ag (se rfl)) (se rfl)) (se rfl))) ag (se rfl))))))))),?_⟩
  refine(?_:let bM:TS:=_;let bN:TS:=_;let bO:TS:=_;let cM:TS:=_;let oW:TS:=_;tSeq bM (tSeq bN (tSeq bO (tSeq cM oW))) _ _ _)
  intro bM bN bO cM oW
  have sl:=sizeLine_eq
  refine(?_:let G_:Prop:=_;G_)
  intro G_
  obtain⟨us,v,rfl,Yi,t1,sv,yi,rfl,Lf,jv,Lb⟩:=Al.snoc_inv (show Al _ (_++ [_]) xs from al)
  obtain⟨sa,cl,rfl,gF,fK⟩:=id jv
  obtain⟨x,lk,wx⟩:=BG.at_
  obtain⟨dp,c,CK,QQ,RT,hpl,co,_,_,m3,_⟩:=pl.ex
  have Cw:∀{k:Str} {a b c d:V},(k==Str.ofString "course")=false->(k==Str.ofString "state")=false->(k==Str.ofString "paid")=false->(k==Str.ofString "trail")=false->List.lookup k (iu a b c d)=none:=λh1 h2 h3 h4=>by
   unfold iu
   rw[bH h1,bH h2,bH h3,bH h4]
   rfl
  have el:(ents tr st pd).length=tr.length+1:=by unfold ents;rw[Yy,List.length_mapIdx];rfl
  have ul:us.length=tr.length:=by have:=al.length;rw[Yy,el] at this;simpa using this
  have tp:t≠p:=λz=>by rw[z,hpl] at ht;cases ht
  obtain⟨kvs,mq,_⟩:=id pl.FI
  dsimp only[G_]
  have Cs:t≠tb:=λz=>by rw[z,mq] at ht;cases ht
  have tx:R6 dv=some w':=by
   rcases uK with ⟨_,_,_,_,_,_,rfl,_⟩ | ⟨_,_,_,_,_,v,_,_,_,v0,v1,rfl,rfl,_⟩
   ·rw[aN.mp Cz];rfl
   ·rw[bw.mp Cz];exact if_pos (Nat.lt_of_le_of_lt (Nat.log2_le_self _) (by omega))
  change tSeq _ _ _ _ _
  refine aU (λN=>N [some (.ref p),some gv,some (.ref t),some dv,some (.ref sa),some yi,some (.str (dI tr)),none] H) ?_ (λN hN=>?_)
  case refine_2=>
   simp_all only[ht]
   refine⟨_,qb,t1,_,rfl,jn.of (aM _ _ Lf),rfl,?_⟩
   simp_all only[]
   exact hN
  change tSeq _ _ _ _ _
  refine aU (λN=>∀H1,K3 p tl tb H H1->cL av af L H1 p tl tb g eK (Wq.pl pd py) (tr++ [(w',st,pd)])->N [some (.ref p),some gv,some (.ref t),some dv,some (.ref sa),some yi,some (.str (dI tr)),none] H1) ?_ (λN hN=>?_)
  case refine_2=>
   rcases uK with ⟨AZ,rs,r,j8,Ir,Nx,rfl,rfl,e2,ak⟩ | ⟨ps,t',b,rs,r,v,j8,gl,hv,v0,v1,rfl,rfl,rfl,ro,e2,ak⟩
   ·obtain rfl:=aN.mp Cz
    simp_all only[bY,EB]
    refine⟨_,.str _,true,by rfl,?_⟩
    rw[if_pos rfl]
    refine⟨_,_,hpl,Cw (by decide +kernel) (by decide +kernel) (by decide +kernel) (by decide +kernel),tl,tb,L,g,st,pd,tr,pl,by omega,_,j8,yh.le (by decide),(λz=>by rw[Nx] at z;cases z),λr' er=>?_⟩
    rw[Nx] at er
    cases er
    rw[e2] at ak
    exact⟨3,eK.1,ak,λz=>absurd z (by omega),λ_ H1 k1 uP=>hN H1 k1 (by rw[<-e2] at uP;exact uP)⟩
   ·obtain rfl:=bw.mp Cz
    simp_all only[bY,EC]
    refine⟨_,.int _,false,by rfl,?_⟩
    rw[if_neg (by decide)]
    rw[e2] at ak
    exact⟨_,_,hpl,Cw (by decide +kernel) (by decide +kernel) (by decide +kernel) (by decide +kernel),tl,tb,L,g,st,pd,tr,pl,by omega,ps,_,_,rs,j8,gl,hv,v0,v1,r,ro,3,eK.1,ak,yh.le (by decide),wK.le (by decide),λz=>absurd z (by omega),λ_ H1 k1 uP=>hN H1 k1 (by rw[<-e2] at uP;exact uP)⟩
  rintro H1 k1 uP
  have s1:=k1.cE pl.mem.1 pl.mem.2.1 pl.mem.2.2
  have v1:=s1.trans aM
  change tSeq _ _ _ _ _
  refine aU (λN=>N [some (.ref p),some gv,some (.ref t),some dv,some (.ref sa),some yi,some (.str (dI tr)),some (.str w')] H1) ?_ (λN hN=>?_)
  case refine_2=>
   simp_all only[]
   exact⟨_,tx,hN⟩
  change tSeq _ _ _ _ _
  refine aU (λN=>N [some (.ref p),some gv,some (.ref t),some dv,some (.ref sa),some yi,some (.str (dI tr)),some (.str (dI (tr++ [(w',st,pd)])))] H1) ?_ (λN hN=>?_)
  case refine_2=>
   have jl:=join_le tw
   have:=ww.2.1
   rw[Ah tw] at hN
   simp_all only[]
   by_cases z:dI tr=Str.ofString ""
   ·rw[if_neg (λy=>y z)] at hN ⊢
    exact hN
   ·rw[if_pos z] at hN ⊢
    refine⟨?_,?_,hN⟩
    ·rw[show(Str.ofString " ").length=1 by decide +kernel];omega
    ·rw[Str.length_append,show(Str.ofString " ").length=1 by decide +kernel];omega
  have pw:KI x=py:=by
   rcases uK with ⟨AZ,rs,r,j8,_,_,_,rfl,_,_⟩ | ⟨ps,t',b,rs,r,v,j8,_,_,_,_,_,_,rfl,_⟩
   ·rw[lk] at j8;cases j8;rfl
   ·rw[lk] at j8;cases j8;rfl
  have Wx:∀H',Rep H' d dv:=λH'=>by
   rcases uK with ⟨AZ,rs,r,j8,_,_,rfl,_,_,_⟩ | ⟨ps,t',b,rs,r,v,j8,_,_,_,_,rfl,_,_,_⟩
   ·exact aN.mpr (aN.mp Cz)
   ·exact bw.mpr (bw.mp Cz)
  have Bp:=k1 _ _ tp QP Cs ht
  simp_all only[ES,iL,ET,eL]
  refine⟨.inl ⟨rfl,_,bI.of Bp⟩,g,rg.mono v1,Nz.good,st,jv.mono v1,BG.len,d,Wx _,w',py,eK,uK,λa l H2 s2 na nl ha hl=>?_⟩
  have v2:=v1.trans s2
  refine⟨g,rg.mono v2,Nz.good,st,jv.mono v2,x,lk,λu H3 s3 ru=>?_⟩
  rw[pw] at ru
  have v3:=v2.trans s3
  refine⟨pd,Lb.mono v3,py,ru,yh.le (by decide),wK.le (by decide),λr H4 s4 nr er=>⟨by omega,λq H5 s5 nq eq=>⟨us++ [.ref t1],(s2.trans (s3.trans (s4.trans s5))) _ _ Bp,by rw[Yy,Y4];omega,?_⟩⟩⟩
  have NA:=s2.trans (s3.trans (s4.trans s5))
  have S5:=uP.same NA
  have n1:∀{b},H1 b=none->b∉L:=λn=>uP.out n
  have kt:∀a o,a≠t->H5 a=some o->upd H5 t (.lst (us++ [.ref t1]++ [.ref q])) a=some o:=λa o z h=>by rw[aw z];exact h
  have sL:aD (bE L H5) (bE L (upd H5 t (.lst (us++ [.ref t1]++ [.ref q])))):=λa o h=>by
   obtain⟨c1,h⟩:=dH h
   rw[bZ c1]
   exact kt a o (λz=>c1 (by rw[z];exact tL)) h
  have fr:∀{b o},H1 b=none->H5 b=some o->bE L (upd H5 t (.lst (us++ [.ref t1]++ [.ref q]))) b=some o:=λn h=>by
   rw[bZ (n1 n)]
   exact kt _ _ (λz=>n1 n (by rw[z];exact tL)) h
  have Wy:cL av af L (upd H5 t (.lst (us++ [.ref t1]++ [.ref q]))) p tl tb g eK (Wq.pl pd py) (tr++ [(w',st,pd)]):=S5.kept sL (λb hb o h=>kt b o (by rcases hb with rfl | rfl | rfl;exact Ne.symm tp;exact Ne.symm QP;exact Ne.symm Cs) h) λb hb=>by
   by_cases z:b=t
   ·exact⟨_,by rw[z];exact aj,λ_ e=>by cases e⟩
   ·obtain⟨o,h1,h2⟩:=S5.al b hb;exact⟨o,kt b o z h1,h2⟩
  refine kk _ _ (λb o z1 z2 z3 z4 h=>kt b o z4 (NA _ _ (k1 b o z1 z2 z3 h))) Wy aj ?_
  rw[uX]
  refine Al.append (al.imp λe v h=>h.mono (s1.trans ((dU NA).trans sL))) (Al.one ⟨q,.ref a,.ref r,rfl,fr (none_of (s2.trans (s3.trans s4)) nq) eq,⟨a,l,rfl,fr na ((s3.trans (s4.trans s5)) _ _ ha),fr nl ((s3.trans (s4.trans s5)) _ _ hl)⟩,b6.mpr ⟨r,rfl,fr (none_of (s2.trans s3) nr) (s5 _ _ er)⟩⟩)
noncomputable def KL (M:List Addr) (H H':Hp):Prop:=∀a o,a∉M->H a=some o->H' a=some o
theorem KL.cE {M L:List Addr} {H H':Hp} (k:KL M H H') (m:∀a∈M,a∈L):aD (bE L H) (bE L H'):=λa o h=>by
 obtain⟨c,h⟩:=dH h
 rw[bZ c]
 exact k a o (λz=>c (m a z)) h
structure PT (qP qC:Addr) (L:List Addr) (g:Gm) (gs:List Str) (H:Hp) (p tl tb t:Addr) (n:Nat) (st:fE) (pd:Int×Int) (tr:List ju):Prop where
 ib:cL qP qC L H p tl tb g st pd tr
 tL:t∈L
 tn:t≠tl
 sk:vW g gs st
 hf:kb (20* (n:Int)) pd
 ln:tr.length<=n
 tw:∀e∈tr,Hj e.1/\vW g gs e.2.1/\kb (20* (n:Int)) e.2.2
 lt:∃xs,H t=some (.lst xs)/\Al (Hi (bE L H)) (ents tr st pd) xs
theorem PT.up {qP qC:Addr} {L:List Addr} {g:Gm} {gs:List Str} {H:Hp} {p tl tb t:Addr} {n m:Nat} {st:fE} {pd:Int×Int} {tr:List ju} (h:PT qP qC L g gs H p tl tb t n st pd tr) (k:n<=m):PT qP qC L g gs H p tl tb t m st pd tr:=
 ⟨h.ib,h.tL,h.tn,h.sk,h.hf.le (by omega),YB h.ln k,λe he=>⟨(h.tw e he).1,(h.tw e he).2.1,(h.tw e he).2.2.le (by omega)⟩,h.lt⟩
theorem PT.keep {qP qC:Addr} {L:List Addr} {g:Gm} {gs:List Str} {H H':Hp} {p tl tb t:Addr} {M:List Addr} {n:Nat} {st:fE} {pd:Int×Int} {tr:List ju} (h:PT qP qC L g gs H p tl tb t n st pd tr) (k:KL M H H') (m:∀a∈M,a∈L) (sp:∀a∈[p,tl,tb,t],a∉M) (al:∀a∈L,∃o,H' a=some o/\∀vs,o≠.tup vs):PT qP qC L g gs H' p tl tb t n st pd tr:=by
 obtain⟨xs,h1,h2⟩:=h.lt
 refine⟨h.ib.kept (k.cE m) (λa ha o e=>k a o (sp a (by rcases ha with rfl | rfl | rfl <;>simp)) e) al,h.tL,h.tn,h.sk,h.hf,h.ln,h.tw,xs,k _ _ (sp t (by simp)) h1,h2.imp λ_ _ z=>z.mono (k.cE m)⟩
theorem PT.same {qP qC:Addr} {L:List Addr} {g:Gm} {gs:List Str} {H H':Hp} {p tl tb t:Addr} {n:Nat} {st:fE} {pd:Int×Int} {tr:List ju} (h:PT qP qC L g gs H p tl tb t n st pd tr) (s:aD H H'):PT qP qC L g gs H' p tl tb t n st pd tr:=
 h.keep (M:=[]) (λa o _ e=>s _ _ e) (λa ha=>by cases ha) (λa _=>by simp) (h.ib.same s).al
theorem fU {tr:List ju} {st:fE} {pd:Int×Int}:(ents tr st pd).length=tr.length+1:=by unfold ents;rw[Yy,List.length_mapIdx];rfl
theorem PT.back {qP qC:Addr} {L:List Addr} {g:Gm} {gs:List Str} {H H':Hp} {p tl tb t:Addr} {n:Nat} {st:fE} {pd:Int×Int} {pB:List ju} {e:ju} (h:PT qP qC L g gs H p tl tb t n st pd (pB++ [e])) (k:K3 p tl tb H H') (pl:cL qP qC L H' p tl tb g e.2.1 e.2.2 pB):
  ∃xs,H t=some (.lst xs)/\H' t=some (.lst xs)/\xs.length=pB.length+2/\KL [p,tl,tb,t] H (upd H' t (.lst xs.dropLast))/\PT qP qC L g gs (upd H' t (.lst xs.dropLast)) p tl tb t n e.2.1 e.2.2 pB:=by
 obtain⟨xs,h1,h2⟩:=h.lt
 obtain⟨dp,c,sv,pv,ys,hp,_,_,_,m3,_⟩:=h.ib.ex
 obtain⟨kvs,mq,_⟩:=id h.ib.FI
 have tp:t≠p:=λz=>by rw[z,hp] at h1;cases h1
 have Cs:t≠tb:=λz=>by rw[z,mq] at h1;cases h1
 have Ig:=k _ _ tp h.tn Cs h1
 have l:=h2.length
 rw[fU,Yy,Y4] at l
 obtain⟨QR,QS,Wz⟩:=h.tw e (YO _ YA)
 have kl:KL [p,tl,tb,t] H (upd H' t (.lst xs.dropLast)):=λa o na ha=>by
  simp only[YR,Zd,or_false,not_or] at na
  rw[aw na.2.2.2]
  exact k a o na.1 na.2.1 na.2.2.1 ha
 have mm:∀a∈[p,tl,tb,t],a∈L:=λa ha=>by
  simp only[YR,Zd,or_false] at ha
  rcases ha with rfl | rfl | rfl | rfl
  ·exact h.ib.mem.1
  ·exact h.ib.mem.2.1
  ·exact h.ib.mem.2.2
  ·exact h.tL
 have sL:aD (bE L H') (bE L (upd H' t (.lst xs.dropLast))):=λa o z=>by
  obtain⟨c1,z⟩:=dH z
  rw[bZ c1,aw (λy=>c1 (by rw[y];exact h.tL))]
  exact z
 refine⟨xs,h1,Ig,by omega,kl,?_,h.tL,h.tn,QS,Wz,by have:=h.ln;rw[Yy] at this;omega,λe' WA=>h.tw e' (Zg _ WA),xs.dropLast,aj,?_⟩
 ·refine pl.kept sL (λb hb o z=>?_) λb hb=>?_
  ·rw[aw (by rcases hb with rfl | rfl | rfl;exact Ne.symm tp;exact Ne.symm h.tn;exact Ne.symm Cs)];exact z
  ·by_cases z:b=t
   ·exact⟨_,by rw[z];exact aj,λ_ e=>by cases e⟩
   ·obtain⟨o,w1,w2⟩:=pl.al b hb;exact⟨o,by rw[aw z];exact w1,w2⟩
 ·have e1:=h2
  rw[uX] at e1
  obtain⟨us,v,rfl,a1,_⟩:=Al.snoc_inv e1
  have s9:=kl.cE mm
  rw[List.dropLast_concat] at s9 ⊢
  exact a1.imp λ_ _ z=>z.mono s9
theorem wq {cs:List (Str×Int)} {ns:List Int} {i:Nat} {k:Int} (m:∀c∈cs,0<=c.2/\c.2<=1000) (h:∀n∈ns,0<=n/\n<=1000) (k0:0<=k):∀n∈vH cs ns i k,0<=n/\n<=1000:=λn hn=>by
 unfold vH at hn
 rcases List.mem_or_eq_of_mem_set hn with hn | rfl
 ·exact h n hn
 ·have:0<=most cs i/\most cs i<=1000:=by
   unfold most
   rw[Za,Yu]
   cases e:cs[i]? with
   | none=>exact⟨Int.le_refl _,by decide⟩
   | some c=>exact m c (YI e)
  omega
theorem qc {ns:List Int} {i:Nat} (h:∀n∈ns,0<=n/\n<=1000):0<=ns.getD i 0:=by
 rw[Za]
 cases e:ns[i]? with
 | none=>exact Int.le_refl _
 | some n=>exact(h n (YI e)).1
theorem Fb {cs:List (Str×Int)} {v:Int} (m:∀c∈cs,0<=c.2/\c.2<=1000) (v0:0<=v):∀(ds:List Dd) (ns:List Int),(∀d∈ds,CM d)->(∀n∈ns,0<=n/\n<=1000)->∀n∈ds.foldl (ix cs v) ns,0<=n/\n<=1000
 | [],_,_,h=>h
 | d::ds,ns,g,h=>by
  refine Fb m v0 ds _ (λe he=>g e (Yz _ he)) ?_
  have gd:=g d YA
  cases d with
  | set n k=>exact wq m h gd
  | plus n k=>exact wq m h (Int.add_nonneg (qc h) gd)
  | face n=>exact wq m h (Int.add_nonneg (qc h) v0)
  | move a b=>
   intro n hn
   rcases List.mem_or_eq_of_mem_set hn with hn | rfl
   ·exact wq m h (Int.add_nonneg (qc h) (qc h)) n hn
   ·exact⟨Int.le_refl _,by decide⟩
theorem NB {v:Int} (v0:0<=v) (v1:v<=1000):Hj (Str.ofString (toString v)):=by
 have h:∀n∈List.range 1001,(0< (Str.ofString (toString (n:Int))).length/\(Str.ofString (toString (n:Int))).length<=20)/\f6 (.str (Str.ofString (toString (n:Int))))=true:=by decide +kernel
 have e:v=((v.toNat:Nat):Int):=by omega
 have:=h v.toNat (List.mem_range.mpr (by omega))
 rw[<-e] at this
 exact⟨this.1.1,this.1.2,this.2⟩
theorem By {g:Gm} {gs:List Str} {st:fE} {x:Wt} {ds:List Dat} {d:Dat} (gm:LF g gs) (sk:vW g gs st) (lk:look g.ps st.1=some x) (wx:mC g.cs gs x) (od:Ik g st x ds) (hd:d∈ds):∃w py eK,Ab g st d w py eK/\vW g gs eK/\kb 20 py/\Hj w:=by
 have Af:∀{rs:List Rw},rs=[]->d∈rs.map (λr=>Dat.str r.word)->False:=λe h=>by rw[e] at h;cases h
 cases x with
 | d7 dD t b rs=>
  obtain⟨ps,rfl,gl,rfl⟩:=od
  obtain⟨Ql,e,_,wK,hv,hr⟩:=wx
  have e:=p4 e
  subst e
  obtain⟨v,S6,rfl⟩:=List.mem_map.mp hd
  obtain⟨v0,v1,r,ro⟩:=hv v S6
  have rm:r∈rs:=Zo ro
  obtain⟨to,gd⟩:=hr r rm
  obtain⟨e8,x',ak,j8,QT⟩:=gm.to _ to (r.2.2.1.foldl (ix g.cs v) st.2)
  exact⟨_,(t,b),(e8,r.2.2.1.foldl (ix g.cs v) st.2),.inr ⟨ps,t,b,rs,r,v,lk,gl,S6,v0,v1,rfl,rfl,rfl,ro,rfl,ak⟩,⟨(cV _ _).trans sk.len,Fb gm.most v0 _ _ gd sk.nn,x',j8,QT⟩,wK,NB v0 v1⟩
 | pick AZ rs=>
  obtain⟨_,nd,hr⟩:=wx
  rw[show ds=_ from od] at hd
  obtain⟨r,S7,rfl⟩:=List.mem_map.mp hd
  obtain⟨r',fd⟩:∃r',(d9 g.cs st.2 (.pick AZ rs)).find? (λx=>decide (x.word=r.word))=some r':=by
   cases h:(d9 g.cs st.2 (.pick AZ rs)).find? (λx=>decide (x.word=r.word)) with
   | some r'=>exact⟨r',rfl⟩
   | none=>exact absurd (List.find?_eq_none.mp h r S7) (by simp)
  have rm:r'∈rs:=(List.mem_filter.mp (Zo fd)).1
  obtain⟨_,_,to,gd⟩:=hr r' rm
  obtain⟨wd,_⟩:=hr r (List.mem_filter.mp S7).1
  obtain⟨e8,x',ak,j8,QT⟩:=gm.to _ to (r'.ds.foldl (ix g.cs 0) st.2)
  exact⟨_,(0,1),(e8,r'.ds.foldl (ix g.cs 0) st.2),.inl ⟨AZ,rs,r',lk,nd,fd,rfl,rfl,rfl,ak⟩,⟨(cV _ _).trans sk.len,Fb gm.most (Int.le_refl _) _ _ gd sk.nn,x',j8,QT⟩,hU 0 (by decide) (by decide),wd.1,YB wd.2.1 (by decide),wd.2.2.1⟩
 | ask c k a b=>exact wx.elim
 | fin t b=>rw[show ds=_ from od] at hd;exact(Af rfl hd).elim
 | score c=>rw[show ds=_ from od] at hd;exact(Af rfl hd).elim
structure yw (qP qC:Addr) (H0 X Hb:Hp) (p tl tb:Addr) (g:Gm) (nm:Str):Prop where
 sm:aD H0 Hb
 np:H0 p=none/\H0 tl=none/\H0 tb=none
 ex:∃Y dp c sv pv,(∀a o,Y a=some o->a∉[p,tl,tb]/\Hb a=some o/\(H0 a=none\/X a=some o))/\Hb p=some (.ins qP dp (iu (.ref c) sv pv (.ref tl)))/\Hb tl=some (.lst [])/\Hb tb=some (.dK [])/\Cn qC Y c g tb/\qV Y sv nm (List.replicate g.cs.length 0)/\Rep Y (dq (0,1)) pv
theorem yw.ib {qP qC:Addr} {H0 X Hb Hf:Hp} {p tl tb:Addr} {g:Gm} {nm:Str} {L:List Addr} (h:yw qP qC H0 X Hb p tl tb g nm) (s:aD Hb Hf) (hL:∀a o,(H0 a=none\/X a=some o)->a∉[p,tl,tb]->Hb a=some o->a∉L) (m:p∈L/\tl∈L/\tb∈L) (al:∀a∈L,∃o,Hf a=some o/\∀vs,o≠.tup vs) (gg:GoodG g):cL qP qC L Hf p tl tb g (nm,List.replicate g.cs.length 0) (0,1) []:=by
 obtain⟨Y,dp,c,sv,pv,hY,h1,h2,h3,h4,h5,h6⟩:=h.ex
 have sY:aD Y (bE L Hf):=λa o e=>by
  obtain⟨y1,y2,y3⟩:=hY a o e
  rw[bZ (hL a o y3 y1 y2)]
  exact s _ _ y2
 exact⟨m,al,⟨dp,c,sv,pv,[],s _ _ h1,h4.mono sY,h5.mono sY,h6.mono sY,s _ _ h2,trivial⟩,⟨[],s _ _ h3,List.nodup_nil,(λk hk=>by cases hk),λnm v e=>by cases e⟩,gg,List.length_replicate,λe he=>by cases he⟩
theorem Bz {qP qC:Addr} {H0 X H':Hp} {x dx c tl tb:Addr} {sv pv:V} {g:Gm} {nm:Str} (sx:aD X H0) (nx:H0 x=none) (Lh:H0 dx=none) (kH:∀a o,a≠x->upd (upd H0 dx (.own x)) x (.ins qP dx []) a=some o->H' a=some o) (Ha:upd (upd H0 dx (.own x)) x (.ins qP dx []) tl=none) (rj:upd (upd H0 dx (.own x)) x (.ins qP dx []) tb=none)
  (h1:H' x=some (.ins qP dx (iu (.ref c) sv pv (.ref tl)))) (h2:H' tl=some (.lst [])) (h3:H' tb=some (.dK [])) (co:Cn qC (bE [x,tl,tb] (nw (cE (upd (upd H0 dx (.own x)) x (.ins qP dx [])) x) X H')) c g tb) (st:qV (bE [x,tl,tb] (nw (cE (upd (upd H0 dx (.own x)) x (.ins qP dx [])) x) X H')) sv nm (List.replicate g.cs.length 0)) (rp:Rep (bE [x,tl,tb] (nw (cE (upd (upd H0 dx (.own x)) x (.ins qP dx [])) x) X H')) (dq (0,1)) pv):yw qP qC H0 X H' x tl tb g nm:=by
 have up:∀a o,H0 a=some o->upd (upd H0 dx (.own x)) x (.ins qP dx []) a=some o:=λa o h=>by
  rw[aw (λz=>by rw[z,nx] at h;cases h),aw (λz=>by rw[z,Lh] at h;cases h)]
  exact h
 have s0:aD H0 H':=λa o h=>kH a o (λz=>by rw[z,nx] at h;cases h) (up a o h)
 have dn:∀{a},upd (upd H0 dx (.own x)) x (.ins qP dx []) a=none->H0 a=none:=λ{a} h=>by
  cases e:H0 a with
  | none=>rfl
  | some o=>rw[up a o e] at h;cases h
 refine⟨s0,⟨nx,dn Ha,dn rj⟩,_,dx,c,sv,pv,λa o h=>?_,h1,h2,h3,co,st,rp⟩
 obtain⟨c1,h⟩:=dH h
 have ax:a≠x:=λz=>c1 (by rw[z];simp)
 cases e:cE (upd (upd H0 dx (.own x)) x (.ins qP dx [])) x a with
 | none=>
  rw[cc e] at h
  rw[cK ax] at e
  exact⟨c1,h,.inl (dn e)⟩
 | some o'=>
  unfold nw at h
  rw[e] at h
  exact⟨c1,s0 _ _ (sx _ _ h),.inr h⟩
theorem PT.next {qP qC:Addr} {L:List Addr} {g:Gm} {gs:List Str} {H H':Hp} {p tl tb t:Addr} {n:Nat} {st eK:fE} {pd py:Int×Int} {tr:List ju} {w:Str} {ys:List V} (h:PT qP qC L g gs H p tl tb t n st pd tr) (k:∀a o,a≠p->a≠tl->a≠tb->a≠t->H a=some o->H' a=some o) (pl:cL qP qC L H' p tl tb g eK (Wq.pl pd py) (tr++ [(w,st,pd)])) (ht:H' t=some (.lst ys)) (al:Al (Hi (bE L H')) (ents (tr++ [(w,st,pd)]) eK (Wq.pl pd py)) ys) (sk:vW g gs eK) (wK:kb 20 py) (sw:Hj w):
  KL [p,tl,tb,t] H H'/\PT qP qC L g gs H' p tl tb t (n+1) eK (Wq.pl pd py) (tr++ [(w,st,pd)]):=by
 refine⟨λa o na ha=>?_,pl,h.tL,h.tn,sk,(h.hf.pl wK).le (by omega),by rw[Yy];exact Nat.succ_le_succ h.ln,λe he=>?_,ys,ht,al⟩
 ·simp only[YR,Zd,or_false,not_or] at na
  exact k a o na.1 na.2.1 na.2.2.1 na.2.2.2 ha
 ·rcases List.mem_append.mp he with he | he
  ·exact⟨(h.tw e he).1,(h.tw e he).2.1,(h.tw e he).2.2.le (by omega)⟩
  ·rw[List.mem_singleton.mp he];exact⟨sw,h.sk,h.hf.le (by omega)⟩
theorem rK {qP qC:Addr} {L:List Addr} {g:Gm} {gs:List Str} {H H':Hp} {p tl tb t:Addr} {n:Nat} {st:fE} {pd:Int×Int} {tr:List ju} (h:PT qP qC L g gs H p tl tb t n st pd tr) (k:K3 p tl tb H H') (pl:cL qP qC L H' p tl tb g st pd tr):KL [p,tl,tb,t] H H'/\PT qP qC L g gs H' p tl tb t n st pd tr/\aD (bE L H) (bE L H'):=by
 obtain⟨xs,h1,h2⟩:=h.lt
 obtain⟨dp,c,sv,pv,ys,hp,_⟩:=h.ib.ex
 obtain⟨kvs,mq,_⟩:=id h.ib.FI
 have tp:t≠p:=λz=>by rw[z,hp] at h1;cases h1
 have Cs:t≠tb:=λz=>by rw[z,mq] at h1;cases h1
 have s:=k.cE h.ib.mem.1 h.ib.mem.2.1 h.ib.mem.2.2
 refine⟨λa o na ha=>?_,⟨pl,h.tL,h.tn,h.sk,h.hf,h.ln,h.tw,xs,k _ _ tp h.tn Cs h1,h2.imp λ_ _ z=>z.mono s⟩,s⟩
 simp only[YR,Zd,or_false,not_or] at na
 exact k a o na.1 na.2.1 na.2.2.1 ha
theorem Fc:aT ["_law_script","_law_game_here","_law_one","_law_other","_law_start","_law_trails","_law_k","_law_cell_here","_law_some"] ["_law_script"] (ar (top 61)):=⟨rfl,rfl,rfl,by decide +kernel,rfl,by decide +kernel,by decide +kernel⟩
theorem Li (T:Txt K mg aE aF aB aH af av) {f:Addr} {fd:FuncData} (F:zq K "law" "law" (top 61) f fd):fF P w K mg base (bg P w) 20 f fd ["_law_script"] (Bh K):=by
 have eS:bX P w K mg base (bg P w) 1 "_law_cell" ["_law_script","_law_k"] (KA K):=Bv T
 have aJ:bX P w K mg base (bg P w) 1 "_law_mixed" ["_law_cell_here","_law_many"] bK:=nV T
 have yx:bX P w K mg base (bg P w) 4 "_law_game" ["_law_script","_law_at","_law_turns","_law_most"] (EM K):=KY T
 have eA:bX P w K mg base (bg P w) 2 "_law_arrived" ["_law_game_here","_law_name","_law_counts"] uU:=E4 T
 have gj:bX P w K mg base (bg P w) 3 "_law_open" ["_law_game_here","_law_state"] uV:=E6 T
 have gk:bX P w K mg base (bg P w) 9 "_law_same" ["_law_play","_law_game_here","_law_trail"] (Bs av af):=Le T
 have o8:bX P w K mg base (bg P w) 10 "_law_step" ["_law_play","_law_game_here","_law_trail","_law_step_here"] (Bu av af):=Lg T
 have Fd:uH P w K mg base (bg P w) 5 "Play" av ["self","game"] (Bk av af):=Ki T
 have o9:bu P w K mg base (bg P w) 1 av "back" ["self"] (Bn av af aH):=Kv T
 refine F.d3 Fc (λvs H Q E h=>?_) (λbT A outer s H vs Q E hr h=>?_)
 ·obtain⟨_,_,rfl,_⟩:=h;rfl
 ·refine(?_:let G_:Prop:=_;G_)
  intro G_
  obtain⟨sc,LJ,rfl,hS,Yj,kk⟩:=h
  dsimp only[G_]
  clear G_
  have nd:=Fc.nd
  refine⟨_,(ah (aI (i:=1) nd rfl (Or.inl rfl) (aK yx (hr.mono (by decide)) rfl au.pass (aa (pv 0) (aa ae (aa (aG aO ae (aG dM (aK eS (hr.mono (by decide)) rfl au.pass (aa (pv 0) (aa ae ag (se rfl)) (se rfl)) (he:=se rfl) (hpl:=na rfl)) ae)) (aa ae ag (se rfl)) (se rfl)) (se rfl)) (se rfl)) (he:=se rfl) (hpl:=na rfl)))
  (ah (aI (i:=2) nd rfl (Or.inl rfl) (DU Fd (hr.mono (by decide)) rfl au.pass (aa (pv 1) ag (se rfl)) (he:=se rfl) (hpl:=na rfl)))
  (ah (aI (i:=3) nd rfl (Or.inl rfl) (DU Fd (hr.mono (by decide)) rfl au.pass (aa (pv 1) ag (se rfl)) (he:=se rfl) (hpl:=na rfl)))
  (ah (aI (i:=4) nd rfl (Or.inl rfl) (a5 (aa (aK eA (hr.mono (by decide)) rfl au.pass (aa (pv 1) (aa (aq ai (aq aQ (aq ai (pv 1) ae (λ_ _=>rfl)) ae (λ_ _=>rfl)) ae (λ_ _=>rfl)) (aa (cG rfl (N:=["_law_script","_law_game_here","_law_one","_law_other","_law_start","_law_trails","_law_k","_law_cell_here","_law_some"]) (so:=ar (top 61)) (N':=["_law_count"]) (k:=1) (fr:=[]) rfl rfl ⟨rfl,by decide +kernel,by decide +kernel,by decide +kernel,rfl,by decide +kernel,by decide +kernel⟩ (bh (K:=K) (aq ai (pv 1) ae (λ_ _=>rfl))) (λ_ _ _ _ _=>(aW (i:=0) (show(["_law_count"]:List Str).Nodup by decide +kernel) rfl (Or.inl rfl))) (λ_ _ _ _ _=>dk)
   (λ_ _ _ _ _=>ae)) ag (se rfl)) (se rfl)) (se rfl)) (he:=se rfl) (hpl:=na rfl)) (aa (a5 (aa ae (aa ae ag (se rfl)) (se rfl))) (aa aZ ag (se rfl)) (se rfl)) (se rfl))))
  (ah (aI (i:=5) nd rfl (Or.inl rfl) (b5 (aa (b5 (aa (pv 4) ag (se rfl))) (aa (b5 (aa (pv 4) ag (se rfl))) ag (se rfl)) (se rfl))))
  (ah (cI PassesOwn.never rfl (cC rfl T.z_range (aa ae ag (se rfl))) (aW (i:=6) nd rfl (Or.inl rfl)) (ah (aI (i:=7) nd rfl (Or.inl rfl) (aK eS (hr.mono (by decide)) rfl au.pass (aa (pv 0) (aa (aG aO ae (pv 6)) ag (se rfl)) (se rfl)) (he:=se rfl) (hpl:=na rfl)))
  (ah (aI (i:=8) nd rfl (Or.inl rfl) (aK gj (hr.mono (by decide)) rfl au.pass (aa (pv 1) (aa (aq ai (aq aQ (aq aQ (pv 5) ae (λ_ _=>rfl)) (gC eF ae) (λ_ _=>rfl)) ae (λ_ _=>rfl)) ag (se rfl)) (se rfl)) (he:=se rfl) (hpl:=na rfl)))
  (ah (bf (PW.pt (pw_and (aL fY (aX bq (by rfl) T.z_len YH (aa (aq aQ (pv 5) ae (λ_ _=>rfl)) ag (se rfl)) (he:=se rfl) (hpl:=na rfl)) ae (aS _)) (pw_and1 (PW.pt (pw_or (aL bp (aX bq (by rfl) T.z_len YH (aa (pv 8) ag (se rfl)) (he:=se rfl) (hpl:=na rfl)) ae (aS _)) (pw_or1 (aL bp (aK aJ (hr.mono (by decide)) rfl au.pass (aa (aG aO (pv 7) ae) (aa ae ag (se rfl)) (se rfl)) (he:=se rfl) (hpl:=na rfl)) ae (aS _)))))))) (ah (bG (iE o9 T.a4 (pv 2) (hr.mono (by decide)) au.pass))
  (ao (bG (zj YN PySem.F.slot_list_pop PySem.F.type_list_pop zo.r (aq aQ (pv 5) ae (λ_ _=>rfl))))))
   (ao (bf (aL fY (aX bq (by rfl) T.z_len YH (aa (pv 8) ag (se rfl)) (he:=se rfl) (hpl:=na rfl)) ae (aS _)) (ao (bG (aK o8 (hr.mono (by decide)) rfl au.pass (aa (pv 2) (aa (pv 1) (aa (aq aQ (pv 5) ae (λ_ _=>rfl)) (aa (aq aQ (pv 8) (aK aJ (hr.mono (by decide)) rfl au.pass (aa (pv 7) (aa (aX bq (by rfl) T.z_len YH (aa (pv 8) ag (se rfl)) (he:=se rfl) (hpl:=na rfl)) ag (se rfl)) (se rfl)) (he:=se rfl) (hpl:=na rfl)) (λ_ _=>rfl)) ag (se rfl)) (se rfl)) (se rfl)) (se rfl)) (he:=se rfl) (hpl:=na rfl))))
   aY)))
  (ah (bf (PW.pt (pw_or (yT (kr (aK gk (hr.mono (by decide)) rfl au.pass (aa (pv 2) (aa (pv 1) (aa (aq aQ (pv 5) ae (λ_ _=>rfl)) ag (se rfl)) (se rfl)) (se rfl)) (he:=se rfl) (hpl:=na rfl)))) (pw_or1 (yT (kr (aK gk (hr.mono (by decide)) rfl au.pass (aa (pv 3) (aa (pv 1) (aa (aq aQ (pv 5) ae (λ_ _=>rfl)) ag (se rfl)) (se rfl)) (se rfl)) (he:=se rfl) (hpl:=na rfl))))))) (ao (aV oK))
   aY)
  (ah (aI (i:=8) nd rfl (Or.inl rfl) (aK gj (hr.mono (by decide)) rfl au.pass (aa (pv 1) (aa (aq ai (aq aQ (aq aQ (pv 5) ae (λ_ _=>rfl)) (gC eF ae) (λ_ _=>rfl)) ae (λ_ _=>rfl)) ag (se rfl)) (se rfl)) (he:=se rfl) (hpl:=na rfl)))
  (ao (bf (PW.pt (pw_and (aL bp (aG dM (pv 6) ae) ae (aS _)) (pw_and1 (aL fY (aX bq (by rfl) T.z_len YH (aa (pv 8) ag (se rfl)) (he:=se rfl) (hpl:=na rfl)) ae (aS _))))) (ao (bG (aK o8 (hr.mono (by decide)) rfl au.pass (aa (pv 3) (aa (pv 1) (aa (aq aQ (pv 5) ae (λ_ _=>rfl)) (aa (aq aQ (pv 8) (aK aJ (hr.mono (by decide)) rfl au.pass (aa (aG aO (pv 7) ae) (aa (aX bq (by rfl) T.z_len YH (aa (pv 8) ag (se rfl)) (he:=se rfl) (hpl:=na rfl)) ag (se rfl)) (se rfl)) (he:=se rfl) (hpl:=na rfl)) (λ_ _=>rfl)) ag (se rfl)) (se rfl)) (se rfl)) (se rfl)) (he:=se rfl) (hpl:=na rfl))))
   aY))))))))
  (ah (iz PassesOwn.never (aL fY (aX bq (by rfl) T.z_len YH (aa (aq aQ (pv 5) ae (λ_ _=>rfl)) ag (se rfl)) (he:=se rfl) (hpl:=na rfl)) ae (aS _)) (ah (bG (iE o9 T.a4 (pv 2) (hr.mono (by decide)) au.pass))
  (ao (bG (zj YN PySem.F.slot_list_pop PySem.F.type_list_pop zo.r (aq aQ (pv 5) ae (λ_ _=>rfl)))))))
  (ao (aV (yV (aK gk (hr.mono (by decide)) rfl au.pass (aa (pv 2) (aa (pv 1) (aa (aq aQ (pv 5) ae (λ_ _=>rfl)) ag (se rfl)) (se rfl)) (se rfl)) (he:=se rfl) (hpl:=na rfl)) (yU (aK gk (hr.mono (by decide)) rfl au.pass (aa (pv 3) (aa (pv 1) (aa (aq aQ (pv 5) ae (λ_ _=>rfl)) ag (se rfl)) (se rfl)) (se rfl)) (he:=se rfl) (hpl:=na rfl))))))))))))),?_⟩
  refine(?_:let bM:TS:=_;let bN:TS:=_;let bO:TS:=_;let cM:TS:=_;let oW:TS:=_;let x8:TS:=_;let Em:TS:=_;let Ip:TS:=_;tSeq bM (tSeq bN (tSeq bO (tSeq cM (tSeq oW (tSeq x8 (tSeq Em Ip)))))) _ _ _)
  intro bM bN bO cM oW x8 Em Ip
  have sl:=sizeLine_eq
  change tSeq _ _ _ _ _
  refine aU (λN=>∀H1 gv g gs,aD H H1->Rep H1 (zN g) gv->LF g gs->N [some (.ref sc),some gv,none,none,none,none,none,none,none] H1) ?_ (λN hN=>?_)
  case refine_2=>
   simp_all only[EM,KA]
   exact⟨LJ,hS,by decide,by decide,λn=>⟨by decide,LJ,hS,by decide,by decide,by omega,by omega,by decide,by decide,λu H1 g gs s1 r1 g1=>hN _ u g gs s1 r1 g1⟩⟩
  rintro H1 gv g gs s1 rg gm
  refine(?_:let G_:Prop:=_;G_)
  intro G_
  obtain⟨ft,Qh,LM⟩:=gm.hd
  obtain⟨nm,x0,ak,lk,wx⟩:=gm.to ft Qh (List.replicate g.cs.length 0)
  dsimp only[G_]
  clear G_
  change tSeq _ _ _ _ _
  refine aU (λN=>∀H2 p1 tX tY,yw av af H1 H1 H2 p1 tX tY g nm->N [some (.ref sc),some gv,some (.ref p1),none,none,none,none,none,none] H2) ?_ (λN hN=>?_)
  case refine_2=>
   simp_all only[wZ,Bk]
   intro x dx nx Lh ne
   refine⟨dx,aj,H1,λa o h=>by rw[aw (λz=>by rw[z,nx] at h;cases h),aw (λz=>by rw[z,Lh] at h;cases h)];exact h,nx,g,rg,gm.good,3,ft,LM,nm,ak,λc sv pv tl tb H2 kH n1 n2 h1 h2 h3 co st rp=>hN _ x tl tb (Bz (aD.refl _) nx Lh kH n1 n2 h1 h2 h3 co st rp)⟩
  rintro H2 p1 tX tY NC
  have yj:=NC.sm
  change tSeq _ _ _ _ _
  refine aU (λN=>∀H3 p2 Aj Ak,yw av af H2 H1 H3 p2 Aj Ak g nm->N [some (.ref sc),some gv,some (.ref p1),some (.ref p2),none,none,none,none,none] H3) ?_ (λN hN=>?_)
  case refine_2=>
   simp_all only[wZ,Bk]
   intro x dx nx Lh ne
   refine⟨dx,aj,H1,λa o h=>by have h:=yj _ _ h;rw[aw (λz=>by rw[z,nx] at h;cases h),aw (λz=>by rw[z,Lh] at h;cases h)];exact h,none_of yj nx,g,rg,gm.good,3,ft,LM,nm,ak,λc sv pv tl tb H2 kH n1 n2 h1 h2 h3 co st rp=>hN _ x tl tb (Bz yj nx Lh kH n1 n2 h1 h2 h3 co st rp)⟩
  rintro H3 p2 Aj Ak ND
  have NF:=ND.sm
  have Lj:=yj.trans NF
  refine(?_:let G_:Prop:=_;G_)
  intro G_
  obtain⟨gp,cv,pv,rfl,yL,rc,rp⟩:=bJ.mp (show Rep H1 (.tup _) gv from rg)
  obtain⟨cl,ya,rfl,fK,sO⟩:=a7.mp (show Rep H1 (.lst _) cv from rc)
  obtain⟨pl,En,rfl,hpl,FH⟩:=a7.mp (show Rep H1 (.lst _) pv from rp)
  dsimp only[G_]
  clear G_
  change tSeq _ _ _ _ _
  refine aU (λN=>∀H4 t sa sl r,aD H3 H4->H3 t=none->H3 sa=none->H3 sl=none->H3 r=none->H4 t=some (.tup [.ref sa,.ref r,.str (Str.ofString "")])->H4 sa=some (.tup [.str nm,.ref sl])->H4 sl=some (.lst ((List.replicate g.cs.length (0:Int)).map V.int))->H4 r=some (.tup [.int 0,.int 1])->N [some (.ref sc),some (.ref gp),some (.ref p1),some (.ref p2),some (.ref t),none,none,none,none] H4) ?_ (λN hN=>?_)
  case refine_2=>
   simp_all only[uU,Lj _ _ yL,Lj _ _ hpl,Lj _ _ fK]
   obtain⟨p0,rest,S8⟩:∃p0 rest,g.ps=p0::rest:=by
    cases e:g.ps with
    | nil=>rw[e] at LM;cases LM
    | cons a b=>exact⟨a,b,rfl⟩
   have e0:p0.1=ft:=by rw[S8] at LM;exact YM LM
   obtain⟨v,ev,rv⟩:=FH.at (i:=0) (by rw[Yu,S8];rfl)
   refine(?_:let G_:Prop:=_;G_)
   intro G_
   obtain⟨q,x1,x2,rfl,hq,r1,r2⟩:=bJ.mp (show Rep H1 (.tup _) v from rv)
   have r1:=aN.mp r1
   rw[e0] at r1
   subst r1
   dsimp only[G_]
   have zT:=sO.length
   rw[Yr] at zT
   have lcs:=gm.good.lc
   refine⟨_,bP (j:=0) ev,q,rfl,_,Lj _ _ hq,_,at0,⟨_,bI.of (Lj _ _ fK)⟩,?_⟩
   have S:Src (yJ K cl) (aD H3) ya.length _:=src_list (λH' s'=>bI.of (s' _ _ (Lj _ _ fK)))
   rw[<-zT] at S
   refine uE g.cs (λ_=>some 0) S (λ_ _ _ _ h=>h.1) (by omega) (λi a x _ _ Y N y1 y2=>?_) ?_
   ·unfold sS
    refine Dl ?_
    simp_all only[]
    exact y1 _ rfl
   ·intro D n1 n2
    have er:g.cs.filterMap (λ_=>some (0:Int))=List.replicate g.cs.length 0:=by rw[List.filterMap_eq_map',List.map_const']
    rw[er]
    have sD:=aA (o:=.lst (List.map V.int (List.replicate g.cs.length (0:Int)))) n1
    refine⟨D,ft,rfl,rfl,g,rg.mono (Lj.trans sD),gm.good,List.replicate g.cs.length 0,aj,List.length_replicate,3,nm,ak,λa l' H4 s4 na nl ha hl=>⟨by omega,λr H5 s5 nr FG=>⟨by omega,λt H6 s6 nt et=>?_⟩⟩⟩
    have QU:=sD.trans s4
    exact hN _ t a l' r (QU.trans (s5.trans s6)) (none_of (QU.trans s5) nt) (none_of sD na) (none_of sD nl) (none_of QU nr) et (s6 _ _ (s5 _ _ ha)) (s6 _ _ (s5 _ _ hl)) (s6 _ _ FG)
  rintro H4 ts sa IL r Fe WB WC WD nr S9 gF zt Eh
  change tSeq _ _ _ _ _
  refine aU (λN=>∀H5 tt t1 t2,aD H4 H5->H4 t1=none->H4 t2=none->t1≠t2->H5 t1=some (.lst [.ref ts])->H5 t2=some (.lst [.ref ts])->H5 tt=some (.lst [.ref t1,.ref t2])->tt≠t1->tt≠t2->H4 tt=none->N [some (.ref sc),some (.ref gp),some (.ref p1),some (.ref p2),some (.ref ts),some (.ref tt),none,none,none] H5) ?_ (λN hN=>?_)
  case refine_2=>
   simp_all only[]
   refine⟨by omega,λa na=>⟨by omega,λb nb=>⟨by omega,λc nc=>?_⟩⟩⟩
   have sa:=aA (o:=.lst [V.ref ts]) na
   have sb:=aA (o:=.lst [V.ref ts]) nb
   have sc:=aA (o:=.lst [V.ref a,V.ref b]) nc
   have ab:a≠b:=λz=>by rw[<-z,aj] at nb;cases nb
   have ca:c≠a:=λz=>by rw[z,sb _ _ aj] at nc;cases nc
   have cb:c≠b:=λz=>by rw[z,aj] at nc;cases nc
   exact hN _ c a b (sa.trans (sb.trans sc)) na (none_of sa nb) ab (sc _ _ (sb _ _ aj)) (sc _ _ aj) aj ca cb (none_of (sa.trans sb) nc)
  rintro H5 tt t1 t2 FJ Hy CG WE Lf QV Ta WG WH LN
  refine(?_:let G_:Prop:=_;G_)
  intro G_
  obtain⟨QW,QX,QY⟩:=NC.np
  obtain⟨LO,LP,LQ⟩:=ND.np
  obtain⟨_,_,_,_,_,_,Hz,FN,HA,_⟩:=NC.ex
  obtain⟨_,_,_,_,_,_,NG,LR,NH,_⟩:=ND.ex
  dsimp only[G_]
  clear G_
  have Ff:=NF.trans Fe
  have Ox:=Ff.trans FJ
  have Oy:=Fe.trans FJ
  have Iy:=yj.trans Ff
  have NA:=Iy.trans FJ
  generalize hL:[p1,tX,tY,t1,p2,Aj,Ak,t2]=L
  have yy:∀{a},a∈L↔(a=p1\/a=tX\/a=tY\/a=t1\/a=p2\/a=Aj\/a=Ak\/a=t2):=λ{a}=>by rw[<-hL];simp
  have ne:∀{X:Hp} {a b o},X a=some o->X b=none->a≠b:=λh n z=>by rw[z,n] at h;cases h
  have QZ:∀a∈L,∃o,H5 a=some o/\∀vs,o≠.tup vs:=λa ha=>by
   rcases yy.mp ha with rfl | rfl | rfl | rfl | rfl | rfl | rfl | rfl
   ·exact⟨_,Ox _ _ Hz,λ_ z=>by cases z⟩
   ·exact⟨_,Ox _ _ FN,λ_ z=>by cases z⟩
   ·exact⟨_,Ox _ _ HA,λ_ z=>by cases z⟩
   ·exact⟨_,Lf,λ_ z=>by cases z⟩
   ·exact⟨_,Oy _ _ NG,λ_ z=>by cases z⟩
   ·exact⟨_,Oy _ _ LR,λ_ z=>by cases z⟩
   ·exact⟨_,Oy _ _ NH,λ_ z=>by cases z⟩
   ·exact⟨_,QV,λ_ z=>by cases z⟩
  have o1:∀{a o},H1 a=some o->a∉L:=λ{a o} h m=>by
   rcases yy.mp m with rfl | rfl | rfl | rfl | rfl | rfl | rfl | rfl
   ·exact ne h QW rfl
   ·exact ne h QX rfl
   ·exact ne h QY rfl
   ·exact ne (Iy _ _ h) Hy rfl
   ·exact ne (yj _ _ h) LO rfl
   ·exact ne (yj _ _ h) LP rfl
   ·exact ne (yj _ _ h) LQ rfl
   ·exact ne (Iy _ _ h) CG rfl
  have o3:∀{a o},H3 a=none->H4 a=some o->a∉L:=λ{a o} n h m=>by
   rcases yy.mp m with rfl | rfl | rfl | rfl | rfl | rfl | rfl | rfl
   ·exact ne (NF _ _ Hz) n rfl
   ·exact ne (NF _ _ FN) n rfl
   ·exact ne (NF _ _ HA) n rfl
   ·exact ne h Hy rfl
   ·exact ne NG n rfl
   ·exact ne LR n rfl
   ·exact ne NH n rfl
   ·exact ne h CG rfl
  have oT:tt∉L:=λm=>by
   rcases yy.mp m with rfl | rfl | rfl | rfl | rfl | rfl | rfl | rfl
   ·exact ne (Ff _ _ Hz) LN rfl
   ·exact ne (Ff _ _ FN) LN rfl
   ·exact ne (Ff _ _ HA) LN rfl
   ·exact WG rfl
   ·exact ne (Fe _ _ NG) LN rfl
   ·exact ne (Fe _ _ LR) LN rfl
   ·exact ne (Fe _ _ NH) LN rfl
   ·exact WH rfl
  have NI:cL av af L H5 p1 tX tY g (nm,List.replicate g.cs.length 0) (0,1) []:=NC.ib Ox (λa o _ n h m=>by
   rcases yy.mp m with rfl | rfl | rfl | rfl | rfl | rfl | rfl | rfl
   ·exact n (by simp)
   ·exact n (by simp)
   ·exact n (by simp)
   ·exact ne (Ff _ _ h) Hy rfl
   ·exact ne h LO rfl
   ·exact ne h LP rfl
   ·exact ne h LQ rfl
   ·exact ne (Ff _ _ h) CG rfl) ⟨yy.mpr (by simp),yy.mpr (by simp),yy.mpr (by simp)⟩ QZ gm.good
  have NJ:cL av af L H5 p2 Aj Ak g (nm,List.replicate g.cs.length 0) (0,1) []:=ND.ib Oy (λa o c n h m=>by
   have w:∀{b o'},H2 b=some o'->H1 b=none->a≠b:=λ{b o'} x y z=>by
    subst z
    rcases c with c | c
    ·rw[c] at x;cases x
    ·rw[c] at y;cases y
   rcases yy.mp m with rfl | rfl | rfl | rfl | rfl | rfl | rfl | rfl
   ·exact w Hz QW rfl
   ·exact w FN QX rfl
   ·exact w HA QY rfl
   ·exact ne (Fe _ _ h) Hy rfl
   ·exact n (by simp)
   ·exact n (by simp)
   ·exact n (by simp)
   ·exact ne (Fe _ _ h) CG rfl) ⟨yy.mpr (by simp),yy.mpr (by simp),yy.mpr (by simp)⟩ QZ gm.good
  have Tb:vW g gs (nm,List.replicate g.cs.length 0):=⟨List.length_replicate,λn hn=>by rw[List.eq_of_mem_replicate hn];decide,x0,lk,wx⟩
  have NK:∀{a o},H3 a=none->H4 a=some o->bE L H5 a=some o:=λn h=>by rw[bZ (o3 n h)];exact FJ _ _ h
  have Q0:Hi (bE L H5) ((nm,List.replicate g.cs.length 0),(0,1),dI []) (.ref ts):=⟨ts,.ref sa,.ref r,rfl,by rw[show dI []=Str.ofString "" by decide +kernel];exact NK WB S9,⟨sa,IL,rfl,NK WC gF,NK WD zt⟩,b6.mpr ⟨r,rfl,NK nr Eh⟩⟩
  have Tc:PT av af L g gs H5 p1 tX tY t1 0 (nm,List.replicate g.cs.length 0) (0,1) []:=⟨NI,yy.mpr (by simp),λz=>ne (Ff _ _ FN) Hy z.symm,Tb,hU 0 (by decide) (by decide),Yt _,(λe he=>by cases he),_,Lf,Q0,trivial⟩
  have Td:PT av af L g gs H5 p2 Aj Ak t2 0 (nm,List.replicate g.cs.length 0) (0,1) []:=⟨NJ,yy.mpr (by simp),λz=>ne (Fe _ _ LR) CG z.symm,Tb,hU 0 (by decide) (by decide),Yt _,(λe he=>by cases he),_,QV,Q0,trivial⟩
  have m1:∀a∈[p1,tX,tY,t1],a∈L:=λa ha=>yy.mpr (by simp at ha;rcases ha with h | h | h | h <;>simp [h])
  have m2:∀a∈[p2,Aj,Ak,t2],a∈L:=λa ha=>yy.mpr (by simp at ha;rcases ha with h | h | h | h <;>simp [h])
  have Iz:∀a∈[p1,tX,tY,t1],∀b∈[p2,Aj,Ak,t2],a≠b:=λa ha b hb=>by
   simp only[YR,Zd,or_false] at ha hb
   rcases ha with rfl | rfl | rfl | rfl
   ·rcases hb with rfl | rfl | rfl | rfl
    ·exact ne Hz LO
    ·exact ne Hz LP
    ·exact ne Hz LQ
    ·exact ne (Ff _ _ Hz) CG
   ·rcases hb with rfl | rfl | rfl | rfl
    ·exact ne FN LO
    ·exact ne FN LP
    ·exact ne FN LQ
    ·exact ne (Ff _ _ FN) CG
   ·rcases hb with rfl | rfl | rfl | rfl
    ·exact ne HA LO
    ·exact ne HA LP
    ·exact ne HA LQ
    ·exact ne (Ff _ _ HA) CG
   ·rcases hb with rfl | rfl | rfl | rfl
    ·exact Ne.symm (ne (Fe _ _ NG) Hy)
    ·exact Ne.symm (ne (Fe _ _ LR) Hy)
    ·exact Ne.symm (ne (Fe _ _ NH) Hy)
    ·exact WE
  have d1:∀a∈[p1,tX,tY,t1],a∉[p2,Aj,Ak,t2]:=λa ha hb=>Iz a ha a hb rfl
  have d2:∀a∈[p2,Aj,Ak,t2],a∉[p1,tX,tY,t1]:=λa ha hb=>Iz a hb a ha rfl
  have IA:aD H1 (bE L H5):=λa o h=>by rw[bZ (o1 h)];exact NA _ _ h
  have Te:bE L H5 tt=some (.lst [.ref t1,.ref t2]):=by rw[bZ oT];exact Ta
  clear o3 NI NJ QZ QW QX QY LO LP LQ Hz FN HA NG LR NH NC ND Hy CG Lf QV S9 gF zt Eh NK Q0
  have Cw:∀{k:Str} {a b c d:V},(k==Str.ofString "course")=false->(k==Str.ofString "state")=false->(k==Str.ofString "paid")=false->(k==Str.ofString "trail")=false->List.lookup k (iu a b c d)=none:=λh1 h2 h3 h4=>by
   unfold iu
   rw[bH h1,bH h2,bH h3,bH h4]
   rfl
  obtain⟨Iv,Tf⟩:∃Iv:Nat->Nat->Hp->Prop,∀n1 n2 H',Iv n1 n2 H'↔(aD H1 (bE L H')/\bE L H' tt=some (.lst [.ref t1,.ref t2])/\∃yz Am wu kx CA CB,PT av af L g gs H' p1 tX tY t1 n1 yz Am wu/\PT av af L g gs H' p2 Aj Ak t2 n2 kx CA CB):=⟨_,λ_ _ _=>Iff.rfl⟩
  have hI:=λ{n1 n2 H'}=>Tf n1 n2 H'
  clear Tf
  have WI:Iv 0 0 H5:=hI.mpr ⟨IA,Te,_,_,_,_,_,_,Tc,Td⟩
  clear Tc Td IA Te Ta yy
  change tSeq _ _ _ _ _
  refine aU (λN=>∀H6,Iv 16 16 H6->∀z6 z7 z8,N [some (.ref sc),some (.ref gp),some (.ref p1),some (.ref p2),some (.ref ts),some (.ref tt),z6,z7,z8] H6) ?_ (λN hN=>?_)
  case refine_2=>
   simp_all only[]
   refine⟨by decide,by decide,bU (src_range (Ok:=λ_=>True)) (λi σ H6=>Iv i i H6/\∃z6 z7 z8,σ=[some (.ref sc),some (.ref gp),some (.ref p1),some (.ref p2),some (.ref ts),some (.ref tt),z6,z7,z8]) ⟨WI,_,_,_,rfl⟩ (λ_ _ _ _ _=>trivial) ?_ ?_⟩
   ·intro i x σ H6 H7 hi gy gz
    refine(?_:let G_:Prop:=_;G_)
    intro G_
    obtain⟨iv,z6,z7,z8,rfl⟩:=gy
    obtain⟨rfl,rfl⟩:=gz
    dsimp only[G_]
    clear G_
    have Yk:i<16:=hi
    simp only[gName,YU,YT,Zb]
    change tSeq _ _ _ _ _
    refine aU (λN=>∀c:Int,N [some (.ref sc),some (.ref gp),some (.ref p1),some (.ref p2),some (.ref ts),some (.ref tt),some (.int (i:Int)),some (.int c),z8] H7) ?_ (λN hN=>?_)
    case refine_2=>
     simp_all only[KA]
     exact⟨LJ,(s1.trans ((hI.mp iv).1.trans aM)).seq hS,by omega,by omega,λn=>hN n⟩
    rintro c
    refine(?_:let G_:Prop:=_;G_)
    intro G_
    obtain⟨b7,Fg,yz,Am,wu,kx,CA,CB,P1,P2⟩:=hI.mp iv
    obtain⟨x1,Nw,Tg⟩:=P1.sk.at_
    obtain⟨Ku,yM,CL⟩:=P1.lt
    have FO:=CL.length
    rw[fU] at FO
    obtain⟨Vr,v1,e1,_,WJ,Yl,Ym,rfl,QR,Th,Nf⟩:=Al.snoc_inv (show Al _ (_++ [_]) Ku from CL)
    dsimp only[G_]
    clear G_
    have Fh:=aM _ _ Fg
    change tSeq _ _ _ _ _
    refine aU (λN=>∀H8 sl ds,aD H7 H8->Rep H8 (.lst ds) (.ref sl)->Ik g yz x1 ds->N [some (.ref sc),some (.ref gp),some (.ref p1),some (.ref p2),some (.ref ts),some (.ref tt),some (.int (i:Int)),some (.int c),some (.ref sl)] H8) ?_ (λN hN=>?_)
    case refine_2=>
     simp_all only[uV,Fh,yM,e1]
     refine⟨_,qb,WJ,rfl,_,aM _ _ QR,_,at0,g,rg.mono (b7.trans aM),gm.good,gs,yz,Th.mono aM,P1.sk.len,x1,Nw,Tg,λa H8 ds s8 na ra od=>hN _ a ds s8 ra od⟩
    rintro H8 sl ds s8 Oz OA
    have sP:=P1.same s8
    have yO:=P2.same s8
    have b8:=b7.trans (dU s8)
    have CN:=dU (L:=L) s8 _ _ Fg
    refine(?_:let G_:Prop:=_;G_)
    intro G_
    obtain⟨WK,iw,e0,zt,Cz⟩:=a7.mp Oz
    dsimp only[G_]
    clear G_
    cases e0
    have dl:=Cz.length
    change tSeq _ _ _ _ _
    refine aU (λN=>∀H9,Iv (i+1) i H9->N [some (.ref sc),some (.ref gp),some (.ref p1),some (.ref p2),some (.ref ts),some (.ref tt),some (.int (i:Int)),some (.int c),some (.ref sl)] H9) ?_ (λN hN=>?_)
    case refine_2=>
     by_cases yN:wu≠[]/\(iw.length=0\/bQ (c+1) 3=0)
     ·refine dz (λY N k=>?_) ?_
      ·simp_all only[bK,zt,aM _ _ CN,s8 _ _ yM]
       have:=List.length_pos_iff.mpr yN.1
       rw[if_pos (by omega)]
       refine gY (λ_=>k) (λz=>⟨by decide,?_⟩)
       rw[if_pos (by rcases yN.2 with h | h;exact absurd h (by omega);exact h)]
       exact k
      ·obtain⟨pB,e,rfl⟩:∃pB e,wu=pB++ [e]:=⟨_,_,(List.dropLast_concat_getLast yN.1).symm⟩
       refine(?_:let G_:Prop:=_;G_)
       intro G_
       obtain⟨dp,c1,SD,SE,WL,Lk,_⟩:=sP.ib.ex
       dsimp only[G_]
       change tSeq _ _ _ _ _
       refine aU (λN=>∀H9,K3 p1 tX tY H8 H9->cL av af L H9 p1 tX tY g e.2.1 e.2.2 pB->N [some (.ref sc),some (.ref gp),some (.ref p1),some (.ref p2),some (.ref ts),some (.ref tt),some (.int (i:Int)),some (.int c),some (.ref sl)] H9) ?_ (λN hN=>?_)
       case refine_2=>
        have:=sP.ln
        simp_all only[bY,Bn]
        exact⟨_,_,Lk,Cw (by decide +kernel) (by decide +kernel) (by decide +kernel) (by decide +kernel),tX,tY,L,g,yz,Am,pB++ [e],sP.ib,by omega,(λz=>by simp at z),λNa e' z H9 k9 Fi=>by
         obtain⟨y1,y2⟩:=List.append_inj' z rfl
         cases y2
         subst y1
         exact hN H9 k9 Fi⟩
       rintro H9 k9 Fi
       refine(?_:let G_:Prop:=_;G_)
       intro G_
       obtain⟨ys,w1,w2,w3,w4,w5⟩:=sP.back k9 Fi
       dsimp only[G_]
       have sk:=w4.cE m1
       have LS:=aM _ _ ((k9.cE sP.ib.mem.1 sP.ib.mem.2.1 sP.ib.mem.2.2) _ _ CN)
       simp_all only[F8,F6,LS]
       have mZ:ys.length - 1<ys.length:=by omega
       exact⟨.inl ⟨rfl,_,bI.of w2⟩,ys,w2,ys[ys.length - 1],Yw mZ,hN _ (hI.mpr ⟨b8.trans sk,sk _ _ CN,_,_,_,_,_,_,w5.up (by omega),yO.keep w4 m1 d2 w5.ib.al⟩)⟩
     ·refine c7 (λY N k=>?_) ?_
      ·simp_all only[bK,zt,aM _ _ CN,s8 _ _ yM]
       by_cases z:wu=[]
       ·rw[if_neg (by rw[z,Y9] at FO;omega),if_neg (by decide)]
        exact k
       ·have:=List.length_pos_iff.mpr z
        rw[if_pos (by omega),if_neg (λy=>yN ⟨z,.inl (by omega)⟩)]
        exact⟨by decide,by rw[if_neg (λy=>yN ⟨z,.inr y⟩)];exact k⟩
      ·by_cases z:iw.length=0
       ·refine c7 (λY N k=>by simp_all only[zt];rw[if_neg (by omega)];exact k) ?_
        simp_all only[]
        exact hN _ (hI.mpr ⟨b8,CN,_,_,_,_,_,_,sP.up (by omega),yO⟩)
       ·refine dz (λY N k=>by simp_all only[zt];rw[if_pos (by omega)];exact k) ?_
        have c0:=cg (c:=c) (m:=(iw.length:Int)) (by omega)
        have c1:=cH (c:=c) (m:=(iw.length:Int)) (by omega)
        generalize hb:bQ c (iw.length:Int)=b at *
        obtain⟨j,rfl⟩:∃j:Nat,b=(j:Int):=⟨b.toNat,by omega⟩
        have hj:j<iw.length:=by omega
        refine(?_:let G_:Prop:=_;G_)
        intro G_
        obtain⟨d,ed,rd⟩:=Cz.get (Yw hj)
        obtain⟨w',py,eK,uK,Q3,wK,sw⟩:=By gm sP.sk Nw Tg OA (YI ed)
        obtain⟨Q4,Q5,Q6⟩:=sP.lt
        dsimp only[G_]
        have WM:=sP.ln
        simp_all only[bK,Bu,zt,aM _ _ CN]
        rw[hb]
        refine⟨by omega,_,bP (Yw hj),tX,tY,L,g,gs,yz,Am,wu,sP.ib,rg.mono b8,gm,sP.sk,sP.hf.le (by omega),Q4,d,w',py,wK,by omega,λe he=>(sP.tw e he).1,sw,sP.tL,Q5,sP.tn,Q6,rd,eK,uK,λH9 ys k9 Fi Q7 Q8=>?_⟩
        obtain⟨kl,P9⟩:=sP.next k9 Fi Q7 Q8 Q3 wK sw
        have sk:=kl.cE m1
        exact hN _ (hI.mpr ⟨b8.trans sk,sk _ _ CN,_,_,_,_,_,_,P9,yO.keep kl m1 d2 P9.ib.al⟩)
    clear sP yO b8 CN Oz OA zt Cz dl P1 P2 b7 Fg Fh yM CL FO QR Th Nf e1
    rintro H9 WN
    change tSeq _ _ _ _ _
    refine aU (λN=>∀H9,Iv (i+1) i H9->N [some (.ref sc),some (.ref gp),some (.ref p1),some (.ref p2),some (.ref ts),some (.ref tt),some (.int (i:Int)),some (.int c),some (.ref sl)] H9) ?_ (λN hN=>?_)
    case refine_2=>
     refine(?_:let G_:Prop:=_;G_)
     intro G_
     obtain⟨b9,LS,yz,Am,wu,kx,CA,CB,P1,P2⟩:=hI.mp WN
     obtain⟨Ku,yM,CL⟩:=P1.lt
     dsimp only[G_]
     have FO:=CL.length
     rw[fU] at FO
     have WQ:=P1.ln
     have ln2:=P2.ln
     simp_all only[Bs,aM _ _ LS]
     refine⟨tX,tY,L,g,gs,yz,Am,wu,P1.ib,rg.mono b9,gm,P1.sk,P1.hf.le (by omega),by omega,λe he=>(P1.tw e he).1,Ku,yM,by omega,P1.tn,CL,λJ8 Q9 Ll=>?_⟩
     rw[if_neg (by decide)]
     refine(?_:let G_:Prop:=_;G_)
     intro G_
     obtain⟨kl,OB,sk⟩:=rK P1 Q9 Ll
     have BA:=P2.keep kl m1 d2 OB.ib.al
     obtain⟨CH,Ih,Lm⟩:=BA.lt
     dsimp only[G_]
     have Ra:=Lm.length
     rw[fU] at Ra
     have NL:=b9.trans sk
     have Fj:=sk _ _ LS
     refine⟨_,aM _ _ Fj,_,at1,t2,rfl,Aj,Ak,L,g,gs,kx,CA,CB,BA.ib,rg.mono NL,gm,BA.sk,BA.hf.le (by omega),by omega,λe he=>(BA.tw e he).1,CH,Ih,by omega,BA.tn,Lm,λWR Ti NM=>?_⟩
     rw[if_neg (by decide)]
     refine(?_:let G_:Prop:=_;G_)
     intro G_
     obtain⟨WS,Tj,Tn⟩:=rK BA Ti NM
     dsimp only[G_]
     exact hN _ (hI.mpr ⟨NL.trans Tn,Tn _ _ Fj,_,_,_,_,_,_,OB.keep WS m2 d1 Tj.ib.al,Tj⟩)
    rintro J8 Rb
    refine(?_:let G_:Prop:=_;G_)
    intro G_
    obtain⟨NL,Fj,yz,Am,wu,kx,CA,CB,P1,P2⟩:=hI.mp Rb
    obtain⟨x2,Nv,To⟩:=P2.sk.at_
    obtain⟨CH,Ih,Lm⟩:=P2.lt
    obtain⟨Yn,v2,e2,_,WT,Yo,Yp,rfl,QS,Fw,Ry⟩:=Al.snoc_inv (show Al _ (_++ [_]) CH from Lm)
    dsimp only[G_]
    clear G_
    have NN:=aM _ _ Fj
    change tSeq _ _ _ _ _
    refine aU (λN=>∀H8 sl ds,aD J8 H8->Rep H8 (.lst ds) (.ref sl)->Ik g kx x2 ds->N [some (.ref sc),some (.ref gp),some (.ref p1),some (.ref p2),some (.ref ts),some (.ref tt),some (.int (i:Int)),some (.int c),some (.ref sl)] H8) ?_ (λN hN=>?_)
    case refine_2=>
     simp_all only[uV,NN,Ih,e2]
     refine⟨_,qb,WT,rfl,_,aM _ _ QS,_,at0,g,rg.mono (NL.trans aM),gm.good,gs,kx,Fw.mono aM,P2.sk.len,x2,Nv,To,λa H8 ds s8 na ra od=>hN _ a ds s8 ra od⟩
    rintro H8 WU ds s8 Oz OA
    have sP:=P1.same s8
    have yO:=P2.same s8
    have b8:=NL.trans (dU s8)
    have CN:=dU (L:=L) s8 _ _ Fj
    refine(?_:let G_:Prop:=_;G_)
    intro G_
    obtain⟨WK,iw,e0,zt,Cz⟩:=a7.mp Oz
    dsimp only[G_]
    clear G_
    cases e0
    have dl:=Cz.length
    have Af:Iv (i+1) (i+1) H8:=hI.mpr ⟨b8,CN,_,_,_,_,_,_,sP,yO.up (by omega)⟩
    change tIfS _ _ _ _ [some (.ref sc),some (.ref gp),some (.ref p1),some (.ref p2),some (.ref ts),some (.ref tt),some (.int (i:Int)),some (.int c),some (.ref WU)] H8
    by_cases yN:(i:Int) % 2=1/\iw.length≠0
    ·refine dz (λY N k=>?_) ?_
     ·simp_all only[zt]
      exact⟨by decide,by rw[if_pos yN.1,if_pos (by omega)];exact k⟩
     ·have c0:=cg (c:=c+2) (m:=(iw.length:Int)) (by omega)
      have c1:=cH (c:=c+2) (m:=(iw.length:Int)) (by omega)
      generalize hb:bQ (c+2) (iw.length:Int)=b at *
      obtain⟨j,rfl⟩:∃j:Nat,b=(j:Int):=⟨b.toNat,by omega⟩
      have hj:j<iw.length:=by omega
      refine(?_:let G_:Prop:=_;G_)
      intro G_
      obtain⟨d,ed,rd⟩:=Cz.get (Yw hj)
      obtain⟨w',py,eK,uK,Q3,wK,sw⟩:=By gm yO.sk Nv To OA (YI ed)
      obtain⟨Q4,Q5,Q6⟩:=yO.lt
      dsimp only[G_]
      have WM:=yO.ln
      simp_all only[bK,Bu,zt,aM _ _ CN]
      rw[hb]
      refine⟨by omega,_,bP (Yw hj),Aj,Ak,L,g,gs,kx,CA,CB,yO.ib,rg.mono b8,gm,yO.sk,yO.hf.le (by omega),Q4,d,w',py,wK,by omega,λe he=>(yO.tw e he).1,sw,yO.tL,Q5,yO.tn,Q6,rd,eK,uK,λH9 ys k9 Fi Q7 Q8=>?_⟩
      obtain⟨kl,P9⟩:=yO.next k9 Fi Q7 Q8 Q3 wK sw
      have sk:=kl.cE m2
      exact⟨hI.mpr ⟨b8.trans sk,sk _ _ CN,_,_,_,_,_,_,sP.keep kl m2 d1 P9.ib.al,P9⟩,_,rfl⟩
    ·refine c7 (λY N k=>?_) ?_
     ·simp_all only[zt]
      refine⟨by decide,?_⟩
      by_cases z:(i:Int) % 2=1
      ·rw[if_pos z,if_neg (λy=>yN ⟨z,by omega⟩)];exact k
      ·rw[if_neg z,if_neg (by decide)];exact k
     ·simp_all only[]
      exact⟨Af,_,rfl⟩
   ·intro σ H6 df
    refine(?_:let G_:Prop:=_;G_)
    intro G_
    obtain⟨iv,z6,z7,z8,rfl⟩:=df
    dsimp only[G_]
    exact hN _ iv _ _ _
  rintro H6 WV z6 z7 z8
  change tSeq _ _ _ _ _
  refine aU (λN=>∀H7,Iv 16 16 H7->N [some (.ref sc),some (.ref gp),some (.ref p1),some (.ref p2),some (.ref ts),some (.ref tt),z6,z7,z8] H7) ?_ (λN hN=>?_)
  case refine_2=>
   obtain⟨Wv,Tp⟩:∃Wv:Nat->Hp->Prop,∀m H',Wv m H'↔(aD H1 (bE L H')/\bE L H' tt=some (.lst [.ref t1,.ref t2])/\∃yz Am wu kx CA CB,PT av af L g gs H' p1 tX tY t1 16 yz Am wu/\PT av af L g gs H' p2 Aj Ak t2 16 kx CA CB/\wu.length<=m):=⟨_,λ_ _=>Iff.rfl⟩
   have hW:=λ{m H'}=>Tp m H'
   clear Tp
   refine vJ (λm σ H7=>σ=[some (.ref sc),some (.ref gp),some (.ref p1),some (.ref p2),some (.ref ts),some (.ref tt),z6,z7,z8]/\Wv m H7) (m:=16) (by obtain⟨q1,q2,yz,Am,wu,kx,CA,CB,P1,P2⟩:=hI.mp WV;exact⟨rfl,hW.mpr ⟨q1,q2,yz,Am,wu,kx,CA,CB,P1,P2,P1.ln⟩⟩) ?_
   rintro m σ H7 ⟨rfl,wv⟩
   refine(?_:let G_:Prop:=_;G_)
   intro G_
   obtain⟨b7,Fg,yz,Am,wu,kx,CA,CB,P1,P2,lm⟩:=hW.mp wv
   obtain⟨Ku,yM,CL⟩:=P1.lt
   dsimp only[G_]
   have FO:=CL.length
   rw[fU] at FO
   have Fh:=aM _ _ Fg
   by_cases z:wu=[]
   ·refine⟨false,λQ hQ=>?_,?_⟩
    ·simp_all only[Fh,yM]
     rw[z,Y9] at FO
     rw[decide_eq_false (by omega)]
     exact hQ
    ·rw[if_neg (by decide)]
     exact hN _ (hI.mpr ⟨b7,Fg,_,_,_,_,_,_,P1,P2⟩)
   ·refine⟨true,λQ hQ=>?_,?_⟩
    ·simp_all only[Fh,yM]
     have:=List.length_pos_iff.mpr z
     rw[decide_eq_true (by omega)]
     exact hQ
    ·rw[if_pos rfl]
     obtain⟨pB,e,rfl⟩:∃pB e,wu=pB++ [e]:=⟨_,_,(List.dropLast_concat_getLast z).symm⟩
     refine(?_:let G_:Prop:=_;G_)
     intro G_
     obtain⟨dp,c1,SD,SE,WL,Lk,_⟩:=P1.ib.ex
     dsimp only[G_]
     change tSeq _ _ _ _ _
     refine aU (λN=>∀H9,K3 p1 tX tY H7 H9->cL av af L H9 p1 tX tY g e.2.1 e.2.2 pB->N [some (.ref sc),some (.ref gp),some (.ref p1),some (.ref p2),some (.ref ts),some (.ref tt),z6,z7,z8] H9) ?_ (λN hN=>?_)
     case refine_2=>
      have:=P1.ln
      simp_all only[bY,Bn]
      exact⟨_,_,Lk,Cw (by decide +kernel) (by decide +kernel) (by decide +kernel) (by decide +kernel),tX,tY,L,g,yz,Am,pB++ [e],P1.ib,by omega,(λz=>by simp at z),λNa e' z H9 k9 Fi=>by
       obtain⟨y1,y2⟩:=List.append_inj' z rfl
       cases y2
       subst y1
       exact hN H9 k9 Fi⟩
     rintro H9 k9 Fi
     refine(?_:let G_:Prop:=_;G_)
     intro G_
     obtain⟨ys,w1,w2,w3,w4,w5⟩:=P1.back k9 Fi
     dsimp only[G_]
     have sk:=w4.cE m1
     have LS:=aM _ _ ((k9.cE P1.ib.mem.1 P1.ib.mem.2.1 P1.ib.mem.2.2) _ _ Fg)
     simp_all only[F8,F6,LS]
     have mZ:ys.length - 1<ys.length:=by omega
     rw[Yy,Y4] at lm
     exact⟨.inl ⟨rfl,_,bI.of w2⟩,ys,w2,ys[ys.length - 1],Yw mZ,m - 1,by omega,hW.mpr ⟨b7.trans sk,sk _ _ Fg,_,_,_,_,_,_,w5,P2.keep w4 m1 d2 w5.ib.al,by omega⟩⟩
  rintro H7 WW
  refine(?_:let G_:Prop:=_;G_)
  intro G_
  obtain⟨b7,Fg,yz,Am,wu,kx,CA,CB,P1,P2⟩:=hI.mp WW
  obtain⟨Ku,yM,CL⟩:=P1.lt
  dsimp only[G_]
  have FO:=CL.length
  rw[fU] at FO
  have WQ:=P1.ln
  have ln2:=P2.ln
  simp_all only[Bs,aM _ _ Fg]
  refine⟨tX,tY,L,g,gs,yz,Am,wu,P1.ib,rg.mono b7,gm,P1.sk,P1.hf.le (by omega),by omega,λe he=>(P1.tw e he).1,Ku,yM,by omega,P1.tn,CL,λJ8 Q9 Ll=>?_⟩
  refine(?_:let G_:Prop:=_;G_)
  intro G_
  obtain⟨kl,OB,sk⟩:=rK P1 Q9 Ll
  have BA:=P2.keep kl m1 d2 OB.ib.al
  obtain⟨CH,Ih,Lm⟩:=BA.lt
  dsimp only[G_]
  have Ra:=Lm.length
  rw[fU] at Ra
  exact⟨_,aM _ _ (sk _ _ Fg),_,at1,t2,rfl,Aj,Ak,L,g,gs,kx,CA,CB,BA.ib,rg.mono (b7.trans sk),gm,BA.sk,BA.hf.le (by omega),by omega,λe he=>(BA.tw e he).1,CH,Ih,by omega,BA.tn,Lm,λWR Ti NM=>kk _⟩
end
theorem all_mk {l:PySem.W.OpenLaw} {w:World} {K:PySem.W.Frag} {h:Heap} {mg:Str->Option Value} {fa:Addr} (X:K.In h) (G:h.Ns mainGlobals mg) (WX:mg "law"=some (.ref fa))
  {Rc:Addr} {Rf Rg:Option Addr} {Rh:Array (Option Value)} {Ri Rj Rk Rl NO Rm:Value} {rL:Tok} {rM:Tok} {tZ:Tok} {aE aF aB aH af av:Addr} {jk:Addr} {An Ao:Option Addr} {Ap:Array (Option Value)} {Aq Ar As Au rN Av:Value} {qd:Addr} {Fk Fl:Option Addr} {Fm:Array (Option Value)} {Fn Fo Fp Fq yA Fs:Value} {dN:Addr} {nX nY:Option Addr} {nZ:Array (Option Value)} {oa og oh oi gQ oj:Value} {dm:Addr} {mQ mR:Option Addr} {mS:Array (Option Value)} {mT mU mV mW gn mX:Value} {c4:Addr} {jw jx:Option Addr} {jy:Array (Option Value)} {jz jA jB jC fi jD:Value} {fz:Addr} {t4 t5:Option Addr} {t6:Array (Option Value)} {t7 t8 t9 ua km ub:Value} {cQ:Addr} {iS iT:Option Addr} {iU:Array (Option Value)} {iV iW iX iY eU iZ:Value} {dO:Addr} {om oo:Option Addr} {oq:Array (Option Value)} {ot ou ox oy gR oz:Value} {cR:Addr} {i4 i5:Option Addr} {i7:Array (Option Value)} {i8 i9 ja jb eV jc:Value} {eO:Addr} {rO rP:Option Addr} {rQ:Array (Option Value)} {rR rS rT rV jd rW:Value} {dP:Addr} {oA oB:Option Addr} {oC:Array (Option Value)} {oE oF oG oH gS oJ:Value} {c5:Addr} {jE jF:Option Addr} {jG:Array (Option Value)} {jH jI jJ jK fj jL:Value} {c9:Addr} {kT kU:Option Addr} {kW:Array (Option Value)} {kX kY kZ k7 fV k8:Value} {c6:Addr} {jM jN:Option Addr} {jO:Array (Option Value)} {jP jQ jR jS fk jT:Value} {fA:Addr} {uc ud:Option Addr} {uf:Array (Option Value)} {ug uh ui uj ko uk:Value} {ic:Addr} {yB yC:Option Addr} {yD:Array (Option Value)} {yE yF yG yH pb yI:Value} {de:Addr} {lg lh:Option Addr} {lj:Array (Option Value)} {lq lA lB lC fW lD:Value} {eB:Addr} {pC pE:Option Addr} {pF:Array (Option Value)} {pG pH pI pJ ip pK:Value} {gq:Addr} {wy wA:Option Addr} {wB:Array (Option Value)} {wC wD wF wG mY wH:Value} {eP:Addr} {rX rY:Option Addr} {rZ:Array (Option Value)} {sf sh si sj je sr:Value} {eC:Addr} {pL pM:Option Addr} {pN:Array (Option Value)} {pO pP pQ pR iq pS:Value} {eQ:Addr} {sy sA:Option Addr} {sC:Array (Option Value)} {sE sF sG sI jf sJ:Value}
  (h0:fX K "is_whole" "is_whole" (top 7))
  (h1:fX K "common_divisor" "common_divisor" (top 8))
  (h2:fX K "share" "share" (top 9))
  (h3:fX K "plus" "plus" (top 10))
  (h4:fX K "table_by_weights" "table_by_weights" (top 12))
  (h5:fX K "table_of" "table_of" (top 13))
  (h6:fX K "power" "power" (top 17))
  (h7:fX K "most_faces" "most_faces" (top 18))
  (h8:fX K "part_bottom" "part_bottom" (top 19))
  (h9:fX K "part_count" "part_count" (top 20))
  (h10:fX K "check_size" "check_size" (top 21))
  (h11:fX K "dice_faces" "dice_faces" (top 22))
  (h12:fX K "again_faces" "again_faces" (top 23))
  (h13:fX K "burst_faces" "burst_faces" (top 24))
  (h14:fX K "part_faces" "part_faces" (top 25))
  (h15:fX K "value_of" "value_of" (top 26))
  (h16:fX K "sides_product" "sides_product" (top 27))
  (h17:fX K "part_throws" "part_throws" (top 28))
  (h18:fX K "throws_by_bottom" "throws_by_bottom" (top 29))
  (h19:fX K "pool_table" "pool_table" (top 30))
  (h20:fX K "own_rows" "own_rows" (top 32))
  (h21:fX K "own_what" "own_what" (top 33))
  (h22:fX K "_law_cell" "_law_cell" (top 39))
  (h23:fX K "_law_mixed" "_law_mixed" (top 40))
  (h24:fX K "_law_low" "_law_low" (top 41))
  (h25:fX K "_law_plus" "_law_plus" (top 42))
  (h26:fX K "_law_words" "_law_words" (top 44))
  (h27:fX K "_law_deeds" "_law_deeds" (top 45))
  (h28:fX K "_law_throw" "_law_throw" (top 46))
  (h29:fX K "_law_pick" "_law_pick" (top 47))
  (h30:fX K "_law_game" "_law_game" (top 48))
  (h31:fX K "_law_values" "_law_values" (top 49))
  (h32:fX K "_law_what" "_law_what" (top 50))
  (h33:fX K "_law_number" "_law_number" (top 51))
  (h34:fX K "_law_arrived" "_law_arrived" (top 52))
  (h35:fX K "_law_done" "_law_done" (top 53))
  (h36:fX K "_law_holds_when" "_law_holds_when" (top 54))
  (h37:fX K "_law_open" "_law_open" (top 55))
  (h38:fX K "_law_gone" "_law_gone" (top 56))
  (h39:fX K "_law_paid" "_law_paid" (top 57))
  (h40:fX K "_law_points" "_law_points" (top 58))
  (h41:fX K "_law_same" "_law_same" (top 59))
  (h42:fX K "_law_step" "_law_step" (top 60))
  (a43:PySem.W.nsIn K mainGlobals "law"=some (some (.ref Rc))) (l43:K.lookup Rc=some ⟨Ri,Rf,.func (PySem.W.fnOf "law" "law" (br (top 61)) (bo (top 61)) (ar (top 61)) .none Rj Rk Rl Rg NO Rm),Rh⟩) (e43:PySem.W.codeIn K NO "law"=true) (k43:PySem.W.keepIn K (.ref Rc)=true)
  (z_abs:PySem.W.nsIn K mainGlobals "abs"=some none)
  (z_bool:PySem.W.nsIn K mainGlobals "bool"=some none)
  (z_enumerate:PySem.W.nsIn K mainGlobals "enumerate"=some none)
  (z_int:PySem.W.nsIn K mainGlobals "int"=some none)
  (z_isinstance:PySem.W.nsIn K mainGlobals "isinstance"=some none)
  (z_len:PySem.W.nsIn K mainGlobals "len"=some none)
  (z_list:PySem.W.nsIn K mainGlobals "list"=some none)
  (z_max:PySem.W.nsIn K mainGlobals "max"=some none)
  (z_min:PySem.W.nsIn K mainGlobals "min"=some none)
  (z_range:PySem.W.nsIn K mainGlobals "range"=some none)
  (z_sorted:PySem.W.nsIn K mainGlobals "sorted"=some none)
  (z_str:PySem.W.nsIn K mainGlobals "str"=some none)
  (z_sum:PySem.W.nsIn K mainGlobals "sum"=some none)
  (c_MOST_THROWS:PySem.W.nsIn K mainGlobals "MOST_THROWS"=some (some (.int 1296 rL)))
  (c_MOST_BOTTOM:PySem.W.nsIn K mainGlobals "MOST_BOTTOM"=some (some (.int 1000000 rM)))
  (c_MOST_STEPS:PySem.W.nsIn K mainGlobals "MOST_STEPS"=some (some (.int 200 tZ)))
  (k_NoShare:PySem.W.nsIn K mainGlobals "NoShare"=some (some (.ref aE)))
  (k_NoTable:PySem.W.nsIn K mainGlobals "NoTable"=some (some (.ref aF)))
  (k_TooMany:PySem.W.nsIn K mainGlobals "TooMany"=some (some (.ref aB)))
  (k_NoStep:PySem.W.nsIn K mainGlobals "NoStep"=some (some (.ref aH)))
  (k_Course:PySem.W.nsIn K mainGlobals "Course"=some (some (.ref af)))
  (k_Play:PySem.W.nsIn K mainGlobals "Play"=some (some (.ref av)))
  (x_NoShare:PySem.W.excIn K aE vf lO=true)
  (x_NoTable:PySem.W.excIn K aF vf lO=true)
  (x_TooMany:PySem.W.excIn K aB vf lO=true)
  (x_NoStep:PySem.W.excIn K aH vf lO=true)
  (cl_Coursepg:PySem.W.plainGet K af Str.empty=true)
  (cl_Coursehd:PySem.W.hasDictIn K af=true)
  (cl_Coursepo:PySem.W.plainOver K af=true)
  (cl_Coursesa:PySem.W.findIn K (.ref af) "__setattr__"=some (some (.builtin "object.__setattr__")))
  (cl_Playpg:PySem.W.plainGet K av Str.empty=true)
  (cl_Playhd:PySem.W.hasDictIn K av=true)
  (cl_Playpo:PySem.W.plainOver K av=true)
  (cl_Playsa:PySem.W.findIn K (.ref av) "__setattr__"=some (some (.builtin "object.__setattr__")))
  (na_Course_first:PySem.W.findIn K (.ref af) "first"=some none)
  (na_Course_mosts:PySem.W.findIn K (.ref af) "mosts"=some none)
  (na_Course_spots:PySem.W.findIn K (.ref af) "spots"=some none)
  (na_Course_tables:PySem.W.findIn K (.ref af) "tables"=some none)
  (na_Course_whats:PySem.W.findIn K (.ref af) "whats"=some none)
  (na_Play_course:PySem.W.findIn K (.ref av) "course"=some none)
  (na_Play_paid:PySem.W.findIn K (.ref av) "paid"=some none)
  (na_Play_state:PySem.W.findIn K (.ref av) "state"=some none)
  (na_Play_trail:PySem.W.findIn K (.ref av) "trail"=some none)
  (dia_Course:PySem.W.findIn K (.ref af) "__init__"=some (some (.ref jk)))
  (dii_Course:PySem.W.isFn K (.ref jk)=true)
  (dil_Course:K.lookup jk=some ⟨Aq,An,.func (PySem.W.fnOf "__init__" "Course.__init__" (br (inClass (top 34) 0)) (bo (inClass (top 34) 0)) (ar (inClass (top 34) 0)) .none Ar As Au Ao rN Av),Ap⟩)
  (dic_Course:PySem.W.codeIn K rN "Course.__init__"=true)
  (dik_Course:PySem.W.keepIn K (.ref jk)=true)
  (dim_Course:PySem.W.makesIn K af=true)
  (diq_Course:PySem.W.keepIn K (.ref af)=true)
  (dia_Play:PySem.W.findIn K (.ref av) "__init__"=some (some (.ref qd)))
  (dii_Play:PySem.W.isFn K (.ref qd)=true)
  (dil_Play:K.lookup qd=some ⟨Fn,Fk,.func (PySem.W.fnOf "__init__" "Play.__init__" (br (inClass (top 37) 0)) (bo (inClass (top 37) 0)) (ar (inClass (top 37) 0)) .none Fo Fp Fq Fl yA Fs),Fm⟩)
  (dic_Play:PySem.W.codeIn K yA "Play.__init__"=true)
  (dik_Play:PySem.W.keepIn K (.ref qd)=true)
  (dim_Play:PySem.W.makesIn K av=true)
  (diq_Play:PySem.W.keepIn K (.ref av)=true)
  (dma_Course_asked:PySem.W.findIn K (.ref af) "asked"=some (some (.ref dN)))
  (dmi_Course_asked:PySem.W.isFn K (.ref dN)=true)
  (dml_Course_asked:K.lookup dN=some ⟨oa,nX,.func (PySem.W.fnOf "asked" "Course.asked" (br (inClass (top 34) 3)) (bo (inClass (top 34) 3)) (ar (inClass (top 34) 3)) .none og oh oi nY gQ oj),nZ⟩)
  (dmc_Course_asked:PySem.W.codeIn K gQ "Course.asked"=true)
  (dmk_Course_asked:PySem.W.keepIn K (.ref dN)=true)
  (dma_Course_by_row:PySem.W.findIn K (.ref af) "by_row"=some (some (.ref dm)))
  (dmi_Course_by_row:PySem.W.isFn K (.ref dm)=true)
  (dml_Course_by_row:K.lookup dm=some ⟨mT,mQ,.func (PySem.W.fnOf "by_row" "Course.by_row" (br (inClass (top 34) 6)) (bo (inClass (top 34) 6)) (ar (inClass (top 34) 6)) .none mU mV mW mR gn mX),mS⟩)
  (dmc_Course_by_row:PySem.W.codeIn K gn "Course.by_row"=true)
  (dmk_Course_by_row:PySem.W.keepIn K (.ref dm)=true)
  (dma_Course_by_value:PySem.W.findIn K (.ref af) "by_value"=some (some (.ref c4)))
  (dmi_Course_by_value:PySem.W.isFn K (.ref c4)=true)
  (dml_Course_by_value:K.lookup c4=some ⟨jz,jw,.func (PySem.W.fnOf "by_value" "Course.by_value" (br (inClass (top 34) 7)) (bo (inClass (top 34) 7)) (ar (inClass (top 34) 7)) .none jA jB jC jx fi jD),jy⟩)
  (dmc_Course_by_value:PySem.W.codeIn K fi "Course.by_value"=true)
  (dmk_Course_by_value:PySem.W.keepIn K (.ref c4)=true)
  (dma_Course_do:PySem.W.findIn K (.ref af) "do"=some (some (.ref fz)))
  (dmi_Course_do:PySem.W.isFn K (.ref fz)=true)
  (dml_Course_do:K.lookup fz=some ⟨t7,t4,.func (PySem.W.fnOf "do" "Course.do" (br (inClass (top 34) 2)) (bo (inClass (top 34) 2)) (ar (inClass (top 34) 2)) .none t8 t9 ua t5 km ub),t6⟩)
  (dmc_Course_do:PySem.W.codeIn K km "Course.do"=true)
  (dmk_Course_do:PySem.W.keepIn K (.ref fz)=true)
  (dma_Course_end_worth:PySem.W.findIn K (.ref af) "end_worth"=some (some (.ref cQ)))
  (dmi_Course_end_worth:PySem.W.isFn K (.ref cQ)=true)
  (dml_Course_end_worth:K.lookup cQ=some ⟨iV,iS,.func (PySem.W.fnOf "end_worth" "Course.end_worth" (br (inClass (top 34) 12)) (bo (inClass (top 34) 12)) (ar (inClass (top 34) 12)) .none iW iX iY iT eU iZ),iU⟩)
  (dmc_Course_end_worth:PySem.W.codeIn K eU "Course.end_worth"=true)
  (dmk_Course_end_worth:PySem.W.keepIn K (.ref cQ)=true)
  (dma_Course_holds:PySem.W.findIn K (.ref af) "holds"=some (some (.ref dO)))
  (dmi_Course_holds:PySem.W.isFn K (.ref dO)=true)
  (dml_Course_holds:K.lookup dO=some ⟨ot,om,.func (PySem.W.fnOf "holds" "Course.holds" (br (inClass (top 34) 9)) (bo (inClass (top 34) 9)) (ar (inClass (top 34) 9)) .none ou ox oy oo gR oz),oq⟩)
  (dmc_Course_holds:PySem.W.codeIn K gR "Course.holds"=true)
  (dmk_Course_holds:PySem.W.keepIn K (.ref dO)=true)
  (dma_Course_open_rows:PySem.W.findIn K (.ref af) "open_rows"=some (some (.ref cR)))
  (dmi_Course_open_rows:PySem.W.isFn K (.ref cR)=true)
  (dml_Course_open_rows:K.lookup cR=some ⟨i8,i4,.func (PySem.W.fnOf "open_rows" "Course.open_rows" (br (inClass (top 34) 10)) (bo (inClass (top 34) 10)) (ar (inClass (top 34) 10)) .none i9 ja jb i5 eV jc),i7⟩)
  (dmc_Course_open_rows:PySem.W.codeIn K eV "Course.open_rows"=true)
  (dmk_Course_open_rows:PySem.W.keepIn K (.ref cR)=true)
  (dma_Course_put:PySem.W.findIn K (.ref af) "put"=some (some (.ref eO)))
  (dmi_Course_put:PySem.W.isFn K (.ref eO)=true)
  (dml_Course_put:K.lookup eO=some ⟨rR,rO,.func (PySem.W.fnOf "put" "Course.put" (br (inClass (top 34) 1)) (bo (inClass (top 34) 1)) (ar (inClass (top 34) 1)) .none rS rT rV rP jd rW),rQ⟩)
  (dmc_Course_put:PySem.W.codeIn K jd "Course.put"=true)
  (dmk_Course_put:PySem.W.keepIn K (.ref eO)=true)
  (dma_Course_start:PySem.W.findIn K (.ref af) "start"=some (some (.ref dP)))
  (dmi_Course_start:PySem.W.isFn K (.ref dP)=true)
  (dml_Course_start:K.lookup dP=some ⟨oE,oA,.func (PySem.W.fnOf "start" "Course.start" (br (inClass (top 34) 4)) (bo (inClass (top 34) 4)) (ar (inClass (top 34) 4)) .none oF oG oH oB gS oJ),oC⟩)
  (dmc_Course_start:PySem.W.codeIn K gS "Course.start"=true)
  (dmk_Course_start:PySem.W.keepIn K (.ref dP)=true)
  (dma_Course_table_at:PySem.W.findIn K (.ref af) "table_at"=some (some (.ref c5)))
  (dmi_Course_table_at:PySem.W.isFn K (.ref c5)=true)
  (dml_Course_table_at:K.lookup c5=some ⟨jH,jE,.func (PySem.W.fnOf "table_at" "Course.table_at" (br (inClass (top 34) 8)) (bo (inClass (top 34) 8)) (ar (inClass (top 34) 8)) .none jI jJ jK jF fj jL),jG⟩)
  (dmc_Course_table_at:PySem.W.codeIn K fj "Course.table_at"=true)
  (dmk_Course_table_at:PySem.W.keepIn K (.ref c5)=true)
  (dma_Course_what_at:PySem.W.findIn K (.ref af) "what_at"=some (some (.ref c9)))
  (dmi_Course_what_at:PySem.W.isFn K (.ref c9)=true)
  (dml_Course_what_at:K.lookup c9=some ⟨kX,kT,.func (PySem.W.fnOf "what_at" "Course.what_at" (br (inClass (top 34) 5)) (bo (inClass (top 34) 5)) (ar (inClass (top 34) 5)) .none kY kZ k7 kU fV k8),kW⟩)
  (dmc_Course_what_at:PySem.W.codeIn K fV "Course.what_at"=true)
  (dmk_Course_what_at:PySem.W.keepIn K (.ref c9)=true)
  (dma_Course_words_at:PySem.W.findIn K (.ref af) "words_at"=some (some (.ref c6)))
  (dmi_Course_words_at:PySem.W.isFn K (.ref c6)=true)
  (dml_Course_words_at:K.lookup c6=some ⟨jP,jM,.func (PySem.W.fnOf "words_at" "Course.words_at" (br (inClass (top 34) 11)) (bo (inClass (top 34) 11)) (ar (inClass (top 34) 11)) .none jQ jR jS jN fk jT),jO⟩)
  (dmc_Course_words_at:PySem.W.codeIn K fk "Course.words_at"=true)
  (dmk_Course_words_at:PySem.W.keepIn K (.ref c6)=true)
  (dma_Play_back:PySem.W.findIn K (.ref av) "back"=some (some (.ref fA)))
  (dmi_Play_back:PySem.W.isFn K (.ref fA)=true)
  (dml_Play_back:K.lookup fA=some ⟨ug,uc,.func (PySem.W.fnOf "back" "Play.back" (br (inClass (top 37) 7)) (bo (inClass (top 37) 7)) (ar (inClass (top 37) 7)) .none uh ui uj ud ko uk),uf⟩)
  (dmc_Play_back:PySem.W.codeIn K ko "Play.back"=true)
  (dmk_Play_back:PySem.W.keepIn K (.ref fA)=true)
  (dma_Play_go:PySem.W.findIn K (.ref av) "go"=some (some (.ref ic)))
  (dmi_Play_go:PySem.W.isFn K (.ref ic)=true)
  (dml_Play_go:K.lookup ic=some ⟨yE,yB,.func (PySem.W.fnOf "go" "Play.go" (br (inClass (top 37) 4)) (bo (inClass (top 37) 4)) (ar (inClass (top 37) 4)) .none yF yG yH yC pb yI),yD⟩)
  (dmc_Play_go:PySem.W.codeIn K pb "Play.go"=true)
  (dmk_Play_go:PySem.W.keepIn K (.ref ic)=true)
  (dma_Play_open_ways:PySem.W.findIn K (.ref av) "open_ways"=some (some (.ref de)))
  (dmi_Play_open_ways:PySem.W.isFn K (.ref de)=true)
  (dml_Play_open_ways:K.lookup de=some ⟨lq,lg,.func (PySem.W.fnOf "open_ways" "Play.open_ways" (br (inClass (top 37) 3)) (bo (inClass (top 37) 3)) (ar (inClass (top 37) 3)) .none lA lB lC lh fW lD),lj⟩)
  (dmc_Play_open_ways:PySem.W.codeIn K fW "Play.open_ways"=true)
  (dmk_Play_open_ways:PySem.W.keepIn K (.ref de)=true)
  (dma_Play_points:PySem.W.findIn K (.ref av) "points"=some (some (.ref eB)))
  (dmi_Play_points:PySem.W.isFn K (.ref eB)=true)
  (dml_Play_points:K.lookup eB=some ⟨pG,pC,.func (PySem.W.fnOf "points" "Play.points" (br (inClass (top 37) 2)) (bo (inClass (top 37) 2)) (ar (inClass (top 37) 2)) .none pH pI pJ pE ip pK),pF⟩)
  (dmc_Play_points:PySem.W.codeIn K ip "Play.points"=true)
  (dmk_Play_points:PySem.W.keepIn K (.ref eB)=true)
  (dma_Play_say:PySem.W.findIn K (.ref av) "say"=some (some (.ref gq)))
  (dmi_Play_say:PySem.W.isFn K (.ref gq)=true)
  (dml_Play_say:K.lookup gq=some ⟨wC,wy,.func (PySem.W.fnOf "say" "Play.say" (br (inClass (top 37) 5)) (bo (inClass (top 37) 5)) (ar (inClass (top 37) 5)) .none wD wF wG wA mY wH),wB⟩)
  (dmc_Play_say:PySem.W.codeIn K mY "Play.say"=true)
  (dmk_Play_say:PySem.W.keepIn K (.ref gq)=true)
  (dma_Play_shown:PySem.W.findIn K (.ref av) "shown"=some (some (.ref eP)))
  (dmi_Play_shown:PySem.W.isFn K (.ref eP)=true)
  (dml_Play_shown:K.lookup eP=some ⟨sf,rX,.func (PySem.W.fnOf "shown" "Play.shown" (br (inClass (top 37) 8)) (bo (inClass (top 37) 8)) (ar (inClass (top 37) 8)) .none sh si sj rY je sr),rZ⟩)
  (dmc_Play_shown:PySem.W.codeIn K je "Play.shown"=true)
  (dmk_Play_shown:PySem.W.keepIn K (.ref eP)=true)
  (dma_Play_stands:PySem.W.findIn K (.ref av) "stands"=some (some (.ref eC)))
  (dmi_Play_stands:PySem.W.isFn K (.ref eC)=true)
  (dml_Play_stands:K.lookup eC=some ⟨pO,pL,.func (PySem.W.fnOf "stands" "Play.stands" (br (inClass (top 37) 1)) (bo (inClass (top 37) 1)) (ar (inClass (top 37) 1)) .none pP pQ pR pM iq pS),pN⟩)
  (dmc_Play_stands:PySem.W.codeIn K iq "Play.stands"=true)
  (dmk_Play_stands:PySem.W.keepIn K (.ref eC)=true)
  (dma_Play_throw:PySem.W.findIn K (.ref av) "throw"=some (some (.ref eQ)))
  (dmi_Play_throw:PySem.W.isFn K (.ref eQ)=true)
  (dml_Play_throw:K.lookup eQ=some ⟨sE,sy,.func (PySem.W.fnOf "throw" "Play.throw" (br (inClass (top 37) 6)) (bo (inClass (top 37) 6)) (ar (inClass (top 37) 6)) .none sF sG sI sA jf sJ),sC⟩)
  (dmc_Play_throw:PySem.W.codeIn K jf "Play.throw"=true)
  (dmk_Play_throw:PySem.W.keepIn K (.ref eQ)=true)
  :∃fd:FuncData,(∀(s:Shared) (v:Value),BindsTo s fd ⟨[v],[]⟩ [("_law_script",v)])/\∀base:Heap,K.In base->base.Ns mainGlobals mg->fF l.prog w K mg base (bg l.prog w) 30 fa fd ["_law_script"] (Bh K):=by
 have e:=WX.symm.trans (Y1 X G a43)
 cases e
 have T:Txt K mg aE aF aB aH af av:=⟨Y3 X G z_abs,Y3 X G z_bool,Y3 X G z_enumerate,Y3 X G z_int,Y3 X G z_isinstance,Y3 X G z_len,Y3 X G z_list,Y3 X G z_max,Y3 X G z_min,Y3 X G z_range,Y3 X G z_sorted,Y3 X G z_str,Y3 X G z_sum,h0.dn X G,h1.dn X G,h2.dn X G,h3.dn X G,h4.dn X G,h5.dn X G,h6.dn X G,h7.dn X G,h8.dn X G,h9.dn X G,h10.dn X G,h11.dn X G,h12.dn X G,h13.dn X G,h14.dn X G,h15.dn X G,h16.dn X G,h17.dn X G,h18.dn X G,h19.dn X G,h20.dn X G,h21.dn X G,h22.dn X G,h23.dn X G,h24.dn X G,h25.dn X G,h26.dn X G,h27.dn X G,h28.dn X G,h29.dn X G,h30.dn X G,h31.dn X G,h32.dn X G,h33.dn X G,h34.dn X G,h35.dn X G,h36.dn X G,h37.dn X G,h38.dn X G,h39.dn X G,h40.dn X G,h41.dn X G,h42.dn X G,⟨_,Y1 X G c_MOST_THROWS⟩,⟨_,Y1 X G c_MOST_BOTTOM⟩,⟨_,Y1 X G c_MOST_STEPS⟩,Y1 X G k_NoShare,Y1 X G k_NoTable,Y1 X G k_TooMany,Y1 X G k_NoStep,Y1 X G k_Course,Y1 X G k_Play,x_NoShare,x_NoTable,x_TooMany,x_NoStep,⟨cl_Coursepg,cl_Coursehd,cl_Coursepo,cl_Coursesa⟩,⟨cl_Playpg,cl_Playhd,cl_Playpo,cl_Playsa⟩,na_Course_first,na_Course_mosts,na_Course_spots,na_Course_tables,na_Course_whats,na_Play_course,na_Play_paid,na_Play_state,na_Play_trail,⟨_,_,cu dil_Course dic_Course dik_Course,⟨dim_Course,dia_Course,dii_Course,diq_Course⟩,Y1 X G k_Course⟩,⟨_,_,cu dil_Play dic_Play dik_Play,⟨dim_Play,dia_Play,dii_Play,diq_Play⟩,Y1 X G k_Play⟩,⟨_,_,cu dml_Course_asked dmc_Course_asked dmk_Course_asked,⟨dma_Course_asked,dmi_Course_asked,dmk_Course_asked⟩⟩,⟨_,_,cu dml_Course_by_row dmc_Course_by_row dmk_Course_by_row,⟨dma_Course_by_row,dmi_Course_by_row,dmk_Course_by_row⟩⟩,⟨_,_,cu dml_Course_by_value dmc_Course_by_value dmk_Course_by_value,⟨dma_Course_by_value,dmi_Course_by_value,dmk_Course_by_value⟩⟩,⟨_,_,cu dml_Course_do dmc_Course_do dmk_Course_do,⟨dma_Course_do,dmi_Course_do,dmk_Course_do⟩⟩,⟨_,_,cu dml_Course_end_worth dmc_Course_end_worth dmk_Course_end_worth,⟨dma_Course_end_worth,dmi_Course_end_worth,dmk_Course_end_worth⟩⟩,⟨_,_,cu dml_Course_holds dmc_Course_holds dmk_Course_holds,⟨dma_Course_holds,dmi_Course_holds,dmk_Course_holds⟩⟩,⟨_,_,cu dml_Course_open_rows dmc_Course_open_rows dmk_Course_open_rows,⟨dma_Course_open_rows,dmi_Course_open_rows,dmk_Course_open_rows⟩⟩,⟨_,_,cu dml_Course_put dmc_Course_put dmk_Course_put,⟨dma_Course_put,dmi_Course_put,dmk_Course_put⟩⟩,⟨_,_,cu dml_Course_start dmc_Course_start dmk_Course_start,⟨dma_Course_start,dmi_Course_start,dmk_Course_start⟩⟩,⟨_,_,cu dml_Course_table_at dmc_Course_table_at dmk_Course_table_at,⟨dma_Course_table_at,dmi_Course_table_at,dmk_Course_table_at⟩⟩,⟨_,_,cu dml_Course_what_at dmc_Course_what_at dmk_Course_what_at,⟨dma_Course_what_at,dmi_Course_what_at,dmk_Course_what_at⟩⟩,⟨_,_,cu dml_Course_words_at dmc_Course_words_at dmk_Course_words_at,⟨dma_Course_words_at,dmi_Course_words_at,dmk_Course_words_at⟩⟩,⟨_,_,cu dml_Play_back dmc_Play_back dmk_Play_back,⟨dma_Play_back,dmi_Play_back,dmk_Play_back⟩⟩,⟨_,_,cu dml_Play_go dmc_Play_go dmk_Play_go,⟨dma_Play_go,dmi_Play_go,dmk_Play_go⟩⟩,⟨_,_,cu dml_Play_open_ways dmc_Play_open_ways dmk_Play_open_ways,⟨dma_Play_open_ways,dmi_Play_open_ways,dmk_Play_open_ways⟩⟩,⟨_,_,cu dml_Play_points dmc_Play_points dmk_Play_points,⟨dma_Play_points,dmi_Play_points,dmk_Play_points⟩⟩,⟨_,_,cu dml_Play_say dmc_Play_say dmk_Play_say,⟨dma_Play_say,dmi_Play_say,dmk_Play_say⟩⟩,⟨_,_,cu dml_Play_shown dmc_Play_shown dmk_Play_shown,⟨dma_Play_shown,dmi_Play_shown,dmk_Play_shown⟩⟩,⟨_,_,cu dml_Play_stands dmc_Play_stands dmk_Play_stands,⟨dma_Play_stands,dmi_Play_stands,dmk_Play_stands⟩⟩,⟨_,_,cu dml_Play_throw dmc_Play_throw dmk_Play_throw,⟨dma_Play_throw,dmi_Play_throw,dmk_Play_throw⟩⟩⟩
 exact⟨_,λs v=>.of_eq rfl,λbase _ _=>(Li T (cu l43 e43 k43)).mono (by decide)⟩
theorem walk {l:PySem.W.OpenLaw} {q:Program} {loose:List Str} {XP:(Str->Option Value)->Heap->Prop} {YP:World->Heap->Prop} {d:DefRec} {K:Params->PySem.W.Frag} (hn:l.most=some 63) (Mm:d.params.defaults=[])
  (hY:∀(w:World) (h:Heap),YP w h->(K w.params).In h)
  (F:∀(w:World) (mg:Str->Option Value) (fa:Addr) (h:Heap),(K w.params).In h->h.Ns mainGlobals mg->mg d.name=some (.ref fa)->
   ∃fd:FuncData,(∀(s:Shared) (u:Value),BindsTo s fd ⟨[u],[]⟩ [("_law_script",u)])/\∀base:Heap,(K w.params).In base->base.Ns mainGlobals mg->fF l.prog w (K w.params) mg base (bg l.prog w) 30 fa fd ["_law_script"] (Bh (K w.params))):
  PySem.W.WalkO q loose XP YP l.row.toRowW d [] (λf vs=>PySem.call f vs):=
 L2.Gc (n:=63) (k:=30) (x:="_law_script") (CX:=λw=>bg l.prog w) (sp:=λw=>Bh (K w.params)) hn (by decide) Mm ⟨rfl,by decide,by decide⟩ hY F (λ_ _ a ns hl _ hS=>⟨a,ns,rfl,hS,hl,λ_=>rfl⟩) λ_ _ _ _ _ z=>(AM _ _) _ _ _ _ _ z
end K79
open PySem PySem.W PyProof.Rows
set_option maxRecDepth 100000 in
set_option maxHeartbeats 0 in
theorem PySem.Challenge.cw_pressluck_k79_steps_taken_back_holds : PySem.Challenge.rw_pressluck_k79_steps_taken_back.Holds := by
  w_on; refine holds_law K79.LV fun LV => ?_
  refine holds_open (q := K79.vw) (loose := []) (Xt := (fun s => xlAt K79.vw [] s && recOk (RowW.records (OpenRow.toRowW (PySem.W.OpenLaw.row PySem.Challenge.rw_pressluck_k79_steps_taken_back))) s)) (XP := XL K79.vw []) (Yf := Hook.obs (kHook K79.pre.heap_1 K79.HB K79.IB)) (Ya := Hook.val (kHook K79.pre.heap_1 K79.HB K79.IB)) (YP := Hook.says (kHook K79.pre.heap_1 K79.HB K79.IB)) (N := 7232) (Hd.BC (by kernel_rfl) (by decide) (fun s => by kernel_rfl) K79.run) (Hook.of (kHook K79.pre.heap_1 K79.HB K79.IB)) (Hook.keeps (kHook K79.pre.heap_1 K79.HB K79.IB)) (fun s e => xl_of s (Bool.and_eq_true_iff.mp e).1) XL.keeps (by rfl) (by rfl) (by rfl) (fun s e => recFacts_of (Bool.and_eq_true_iff.mp e).2) (by rfl) (by first | assumption | decide +kernel) (by decide +kernel) ⟨rfl, rfl, rfl, rfl, rfl, by decide +kernel⟩ ?hw ?hc
  (case hw => w_witness2)
  k_fill
  refine K79.walk (l := PySem.Challenge.rw_pressluck_k79_steps_taken_back) rfl rfl (fun w h Y => PySem.W.kIn_of Y) ?F
  case F =>
    intro w mg fa h KX G Mn
    refine' K79.all_mk KX G Mn ?h0 ?h1 ?h2 ?h3 ?h4 ?h5 ?h6 ?h7 ?h8 ?h9 ?h10 ?h11 ?h12 ?h13 ?h14 ?h15 ?h16 ?h17 ?h18 ?h19 ?h20 ?h21 ?h22 ?h23 ?h24 ?h25 ?h26 ?h27 ?h28 ?h29 ?h30 ?h31 ?h32 ?h33 ?h34 ?h35 ?h36 ?h37 ?h38 ?h39 ?h40 ?h41 ?h42 ?a43 ?l43 ?e43 ?k43 ?z_abs ?z_bool ?z_enumerate ?z_int ?z_isinstance ?z_len ?z_list ?z_max ?z_min ?z_range ?z_sorted ?z_str ?z_sum ?c_MOST_THROWS ?c_MOST_BOTTOM ?c_MOST_STEPS ?k_NoShare ?k_NoTable ?k_TooMany ?k_NoStep ?k_Course ?k_Play ?x_NoShare ?x_NoTable ?x_TooMany ?x_NoStep ?cl_Coursepg ?cl_Coursehd ?cl_Coursepo ?cl_Coursesa ?cl_Playpg ?cl_Playhd ?cl_Playpo ?cl_Playsa ?na_Course_first ?na_Course_mosts ?na_Course_spots ?na_Course_tables ?na_Course_whats ?na_Play_course ?na_Play_paid ?na_Play_state ?na_Play_trail ?dia_Course ?dii_Course ?dil_Course ?dic_Course ?dik_Course ?dim_Course ?diq_Course ?dia_Play ?dii_Play ?dil_Play ?dic_Play ?dik_Play ?dim_Play ?diq_Play ?dma_Course_asked ?dmi_Course_asked ?dml_Course_asked ?dmc_Course_asked ?dmk_Course_asked ?dma_Course_by_row ?dmi_Course_by_row ?dml_Course_by_row ?dmc_Course_by_row ?dmk_Course_by_row ?dma_Course_by_value ?dmi_Course_by_value ?dml_Course_by_value ?dmc_Course_by_value ?dmk_Course_by_value ?dma_Course_do ?dmi_Course_do ?dml_Course_do ?dmc_Course_do ?dmk_Course_do ?dma_Course_end_worth ?dmi_Course_end_worth ?dml_Course_end_worth ?dmc_Course_end_worth ?dmk_Course_end_worth ?dma_Course_holds ?dmi_Course_holds ?dml_Course_holds ?dmc_Course_holds ?dmk_Course_holds ?dma_Course_open_rows ?dmi_Course_open_rows ?dml_Course_open_rows ?dmc_Course_open_rows ?dmk_Course_open_rows ?dma_Course_put ?dmi_Course_put ?dml_Course_put ?dmc_Course_put ?dmk_Course_put ?dma_Course_start ?dmi_Course_start ?dml_Course_start ?dmc_Course_start ?dmk_Course_start ?dma_Course_table_at ?dmi_Course_table_at ?dml_Course_table_at ?dmc_Course_table_at ?dmk_Course_table_at ?dma_Course_what_at ?dmi_Course_what_at ?dml_Course_what_at ?dmc_Course_what_at ?dmk_Course_what_at ?dma_Course_words_at ?dmi_Course_words_at ?dml_Course_words_at ?dmc_Course_words_at ?dmk_Course_words_at ?dma_Play_back ?dmi_Play_back ?dml_Play_back ?dmc_Play_back ?dmk_Play_back ?dma_Play_go ?dmi_Play_go ?dml_Play_go ?dmc_Play_go ?dmk_Play_go ?dma_Play_open_ways ?dmi_Play_open_ways ?dml_Play_open_ways ?dmc_Play_open_ways ?dmk_Play_open_ways ?dma_Play_points ?dmi_Play_points ?dml_Play_points ?dmc_Play_points ?dmk_Play_points ?dma_Play_say ?dmi_Play_say ?dml_Play_say ?dmc_Play_say ?dmk_Play_say ?dma_Play_shown ?dmi_Play_shown ?dml_Play_shown ?dmc_Play_shown ?dmk_Play_shown ?dma_Play_stands ?dmi_Play_stands ?dml_Play_stands ?dmc_Play_stands ?dmk_Play_stands ?dma_Play_throw ?dmi_Play_throw ?dml_Play_throw ?dmc_Play_throw ?dmk_Play_throw
    (case h0 | h1 | h2 | h3 | h4 | h5 | h6 | h7 | h8 | h9 | h10 | h11 | h12 | h13 | h14 | h15 | h16 | h17 | h18 | h19 | h20 | h21 | h22 | h23 | h24 | h25 | h26 | h27 | h28 | h29 | h30 | h31 | h32 | h33 | h34 | h35 | h36 | h37 | h38 | h39 | h40 | h41 | h42 => exact K79.UC (by k_is) (by k_is) (by k_is) (by k_is))
    (case a43 | l43 | e43 | k43 | z_abs | z_bool | z_enumerate | z_int | z_isinstance | z_len | z_list | z_max | z_min | z_range | z_sorted | z_str | z_sum | c_MOST_THROWS | c_MOST_BOTTOM | c_MOST_STEPS | k_NoShare | k_NoTable | k_TooMany | k_NoStep | k_Course | k_Play => k_is)
    (case x_NoShare => first | k_is | kit_is | kernel_rfl)
    (case x_NoTable => first | k_is | kit_is | kernel_rfl)
    (case x_TooMany => first | k_is | kit_is | kernel_rfl)
    (case x_NoStep => first | k_is | kit_is | kernel_rfl)
    (case cl_Coursepg | cl_Coursehd | cl_Coursepo | cl_Coursesa | cl_Playpg | cl_Playhd | cl_Playpo | cl_Playsa | na_Course_first | na_Course_mosts | na_Course_spots | na_Course_tables | na_Course_whats | na_Play_course | na_Play_paid | na_Play_state | na_Play_trail | dia_Course | dii_Course | dil_Course | dic_Course | dik_Course | dim_Course | diq_Course | dia_Play | dii_Play | dil_Play | dic_Play | dik_Play | dim_Play | diq_Play | dma_Course_asked | dmi_Course_asked | dml_Course_asked | dmc_Course_asked | dmk_Course_asked | dma_Course_by_row | dmi_Course_by_row | dml_Course_by_row | dmc_Course_by_row | dmk_Course_by_row | dma_Course_by_value | dmi_Course_by_value | dml_Course_by_value | dmc_Course_by_value | dmk_Course_by_value | dma_Course_do | dmi_Course_do | dml_Course_do | dmc_Course_do | dmk_Course_do | dma_Course_end_worth | dmi_Course_end_worth | dml_Course_end_worth | dmc_Course_end_worth | dmk_Course_end_worth | dma_Course_holds | dmi_Course_holds | dml_Course_holds | dmc_Course_holds | dmk_Course_holds | dma_Course_open_rows | dmi_Course_open_rows | dml_Course_open_rows | dmc_Course_open_rows | dmk_Course_open_rows | dma_Course_put | dmi_Course_put | dml_Course_put | dmc_Course_put | dmk_Course_put | dma_Course_start | dmi_Course_start | dml_Course_start | dmc_Course_start | dmk_Course_start | dma_Course_table_at | dmi_Course_table_at | dml_Course_table_at | dmc_Course_table_at | dmk_Course_table_at | dma_Course_what_at | dmi_Course_what_at | dml_Course_what_at | dmc_Course_what_at | dmk_Course_what_at | dma_Course_words_at | dmi_Course_words_at | dml_Course_words_at | dmc_Course_words_at | dmk_Course_words_at | dma_Play_back | dmi_Play_back | dml_Play_back | dmc_Play_back | dmk_Play_back | dma_Play_go | dmi_Play_go | dml_Play_go | dmc_Play_go | dmk_Play_go | dma_Play_open_ways | dmi_Play_open_ways | dml_Play_open_ways | dmc_Play_open_ways | dmk_Play_open_ways | dma_Play_points | dmi_Play_points | dml_Play_points | dmc_Play_points | dmk_Play_points | dma_Play_say | dmi_Play_say | dml_Play_say | dmc_Play_say | dmk_Play_say | dma_Play_shown | dmi_Play_shown | dml_Play_shown | dmc_Play_shown | dmk_Play_shown | dma_Play_stands | dmi_Play_stands | dml_Play_stands | dmc_Play_stands | dmk_Play_stands | dma_Play_throw | dmi_Play_throw | dml_Play_throw | dmc_Play_throw | dmk_Play_throw => k_is)
