import PyProof.Rows.All
import Wide.All
import OpenK.AllK
import Wide.FinOn
import Lean
import PyProof.EqAt
import PyProof.EqKinds
import PyProof.TupleCall
import PyProof.NeKinds
import PySem.Challenge.RW_pressluck_k58_whole_games_played
set_option Elab.async false
set_option linter.all false
set_option maxRecDepth 100000
local macro_rules | `(tactic| omega) => `(tactic| lia)
theorem aac : type_of% @List.length_map := @List.length_map
theorem aad : type_of% @List.getElem?_map := @List.getElem?_map
theorem aae : type_of% @List.map_cons := @List.map_cons
theorem aaf : type_of% @Nat.le_refl := @Nat.le_refl
theorem aag : type_of% @List.mem_cons_of_mem := @List.mem_cons_of_mem
theorem aah : type_of% @PySem.W.mg_of := @PySem.W.mg_of
theorem aai : type_of% @List.mem_cons_self := @List.mem_cons_self
theorem aaj : type_of% @Nat.ne_of_lt := @Nat.ne_of_lt
theorem aak : type_of% @Nat.zero_le := @Nat.zero_le
theorem aal : type_of% @List.mem_of_getElem? := @List.mem_of_getElem?
theorem aam : type_of% @List.size_toArray := @List.size_toArray
theorem aan : type_of% @List.length_append := @List.length_append
theorem aao : type_of% @PySem.boot_len := @PySem.boot_len
theorem aap : type_of% @List.getElem?_eq_getElem := @List.getElem?_eq_getElem
theorem aaq : type_of% @List.mem_cons := @List.mem_cons
theorem aar : type_of% @List.length_cons := @List.length_cons
theorem aas : type_of% @PySem.F.plainAttrs_list := @PySem.F.plainAttrs_list
theorem aat : type_of% @Nat.lt_of_lt_of_le := @Nat.lt_of_lt_of_le
theorem aau : type_of% @Bool.false_ne_true := @Bool.false_ne_true
theorem aav : type_of% @List.map_map := @List.map_map
theorem aaw : type_of% @List.not_mem_nil := @List.not_mem_nil
theorem aax : type_of% @Nat.le_trans := @Nat.le_trans
theorem aay : type_of% @List.length_singleton := @List.length_singleton
theorem aaz : type_of% @List.map_append := @List.map_append
theorem aaA : type_of% @Nat.lt_irrefl := @Nat.lt_irrefl
theorem aaB : type_of% @List.mem_append_right := @List.mem_append_right
theorem aaC : type_of% @List.lookup_cons := @List.lookup_cons
theorem aaD : type_of% @List.find?_cons := @List.find?_cons
theorem aaE : type_of% @List.take_of_length_le := @List.take_of_length_le
theorem aaF : type_of% @List.take_add_one := @List.take_add_one
theorem aaG : type_of% @PySem.F.slot_list_append := @PySem.F.slot_list_append
theorem aaH : type_of% @PySem.F.type_list_append := @PySem.F.type_list_append
theorem aaI : type_of% @Option.some.inj := @Option.some.inj
theorem aaJ : type_of% @Bool.and_eq_true := @Bool.and_eq_true
theorem aaK : type_of% @List.length_range := @List.length_range
theorem aaL : type_of% @PySem.W.mg_none_of := @PySem.W.mg_none_of
theorem aaM : type_of% @Nat.lt_trans := @Nat.lt_trans
theorem aaN : type_of% @List.getElem?_append_left := @List.getElem?_append_left
theorem aaO : type_of% @List.mem_append_left := @List.mem_append_left
theorem aaP : type_of% @PySem.W.kia_one := @PySem.W.kia_one
theorem aaQ : type_of% @PySem.mem_of_lookup := @PySem.mem_of_lookup
theorem aaR : type_of% @List.getElem?_eq_none := @List.getElem?_eq_none
theorem aaS : type_of% @Nat.lt_succ_self := @Nat.lt_succ_self
theorem aaT : type_of% @List.length_take := @List.length_take
theorem aaU : type_of% @List.lookup_cons_self := @List.lookup_cons_self
theorem aaV : type_of% @List.append_nil := @List.append_nil
theorem aaW : type_of% @List.length_nil := @List.length_nil
theorem aaX : type_of% @List.set_cons_zero := @List.set_cons_zero
theorem aaY : type_of% @List.set_cons_succ := @List.set_cons_succ
theorem aaZ : type_of% @Int.emod_nonneg := @Int.emod_nonneg
theorem aa0 : type_of% @List.filterMap_cons := @List.filterMap_cons
theorem aa1 : type_of% @List.foldl_append := @List.foldl_append
theorem aa2 : type_of% @List.idxOf_lt_length_of_mem := @List.idxOf_lt_length_of_mem
theorem aa3 : type_of% @List.getElem?_append_right := @List.getElem?_append_right
theorem aa4 : type_of% @List.replicate_succ := @List.replicate_succ
theorem aa5 : type_of% @List.getD_eq_getElem?_getD := @List.getD_eq_getElem?_getD
theorem aa6 : type_of% @Int.emod_lt_of_pos := @Int.emod_lt_of_pos
theorem aa7 : type_of% @List.getElem?_eq_none_iff := @List.getElem?_eq_none_iff
namespace Hd
open PySem PySem.W PyProof.Rows
noncomputable def yV (ok:Thread->Bool) (st:SharedT->Thread->Option (SharedT×Thread)) (n:Nat):SharedT->Thread->Option SharedT:=
 @Nat.rec (λ_=>SharedT->Thread->Option SharedT) (λ_ _=>none)
  (λ_ ih s t=>@Bool.rec (λ_=>Option SharedT) (@Bool.rec (λ_=>Option SharedT) none (@Option.rec (SharedT×Thread) (λ_=>Option SharedT) none (λr=>@Prod.rec _ _ (λ_=>Option SharedT) (λa b=>ih a b) r) (st s t)) (ok t)) (some s) (through t)) n
theorem px {tb:String->Option Builtin} {p:Program} {w:World} {n₀:Nat} {ann:Option Value}:∀(n:Nat) (s:SharedT) (t:Thread) (s':SharedT),yV (stepOk n₀ ann) (stepT (denote tb) p w) n s t=some s'->topRun tb p w n₀ ann n s.abs t=some s'.abs
 | 0,_,_,_,h=>by cases h
 | n+1,s,t,s',h=>by
  unfold topRun
  replace h:@Bool.rec (λ_=>Option SharedT) (@Bool.rec (λ_=>Option SharedT) none (@Option.rec (SharedT×Thread) (λ_=>Option SharedT) none (λr=>@Prod.rec _ _ (λ_=>Option SharedT) (λa b=>yV (stepOk n₀ ann) (stepT (denote tb) p w) n a b) r) (stepT (denote tb) p w s t)) (stepOk n₀ ann t)) (some s) (through t)=some s':=h
  cases ht:through t with
  | true=>rw[ht] at h;cases h;rfl
  | false=>
   rw[ht] at h
   cases hk:stepOk n₀ ann t with
   | false=>rw[hk] at h;cases h
   | true=>
    rw[hk] at h
    cases hs:stepT (denote tb) p w s t with
    | none=>rw[hs] at h;cases h
    | some r=>obtain⟨s₂,t₂⟩:=r;rw[hs] at h;rw[stepT_spec hs];exact px n s₂ t₂ s' h
noncomputable def bt (P:Params):BT:=((boot_heap P).objs.toList.foldl (fun(x:BT×Nat) o=>(x.1.ins x.2 o,x.2+1)) (.nil,0)).1
noncomputable def Bl (w:World) (os:OsState):SharedT:=⟨bt w.params,11,{},Array.mk [],boot_drawn,boot_toks,os⟩
theorem zY (w:World) (os:OsState):(Bl w os).abs=⟨boot_heap w.params,Array.mk [],boot_drawn,boot_toks,os⟩:=by kernel_rfl
theorem w6 (w:World):((boot_heap w.params).isNs mainGlobals && (Array.mk []:Array GenState).size==0,(boot_heap w.params).objs.size,(boot_heap w.params).nsMap mainGlobals "__annotations__")=(true,11,some (.ref 6)):=by kernel_rfl
theorem Bm {p q:Program} {loose:List Str} {Xt:Shared->Bool} {α:Type} {Yf:Shared->α} {Ya:World->α} {N:Nat} {g0:Bool}
  (Js:∀w:World,(fencedOpening treeTable p w N).map (λs=>(s.heap,s.gens,s.drawn,s.toks))=some (boot_heap w.params,Array.mk [],boot_drawn,boot_toks))
  (run:∀(w:World) (os:OsState),(yV (stepOk 11 (some (.ref 6))) (stepT (denote treeTable) p w) N (Bl w os) (topStub p)).map (λs=>((staticsOk (importedModules p.main.body) (boot_heap w.params) s.abs.heap && namesBound p s.abs.heap && gensDone s.abs && laidKept (boot_heap w.params) s.abs.heap),openSeen q loose (importedModules p.main.body) Xt g0 s.abs,Yf s.abs))=some (true,openGood q loose,Ya w)):
  LeftO p q loose Xt Yf Ya N g0:=λw=>by
 obtain⟨⟨h,gs,d,k,os⟩,e,e'⟩:=Option.map_eq_some_iff.mp (Js w)
 obtain⟨rfl,rfl,rfl,rfl⟩:h=boot_heap w.params/\gs=Array.mk []/\d=boot_drawn/\k=boot_toks:=by simpa using e'
 obtain⟨z1,z2,z3⟩:_/\_/\_:=by simpa only[Prod.mk.injEq] using w6 w
 obtain⟨s,r,l⟩:=Option.map_eq_some_iff.mp (run w os)
 obtain⟨l1,l2,l3⟩:_/\_/\_:=by simpa only[Prod.mk.injEq] using l
 have r:=px _ _ _ _ r
 rw[zY] at r
 have t:topFrom treeTable p w N ⟨boot_heap w.params,Array.mk [],boot_drawn,boot_toks,os⟩=some s.abs:=by
  unfold topFrom
  dsimp only
  rw[z1,z2,z3,r]
  show(match staticsOk (importedModules p.main.body) (boot_heap w.params) s.abs.heap && namesBound p s.abs.heap && gensDone s.abs && laidKept (boot_heap w.params) s.abs.heap with | true=>_ | false=>_)=_
  rw[l1]
 unfold openEnds
 rw[e]
 show((topFrom treeTable p w N ⟨boot_heap w.params,Array.mk [],boot_drawn,boot_toks,os⟩)).map _=_
 rw[t]
 show some (_,_)=_
 rw[l2,l3]
noncomputable def Runs (p q:Program) (loose:List Str) (Xt:Shared->Bool) {α:Type} (Yf:Shared->α) (Ya:World->α) (N:Nat) (g0:Bool) (w:World):Prop:=
 ∀os:OsState,(yV (PySem.W.Fast.tw6613529449190102663 11 (some (.ref 6))) (PySem.W.Fast.tw10156331382660048174 (PySem.W.Fast.tw11892475500146522536 PySem.W.Fast.tw14364793385576792824) p w) N (Bl w os) (topStub p)).map (λs=>((staticsOk (importedModules p.main.body) (boot_heap w.params) s.abs.heap && namesBound p s.abs.heap && gensDone s.abs && laidKept (boot_heap w.params) s.abs.heap),PySem.W.Fast.tw4187177175401517315 q loose (importedModules p.main.body) Xt g0 s.abs,Yf s.abs))=some (true,openGood q loose,Ya w)
theorem zZ {p q:Program} {loose:List Str} {Xt:Shared->Bool} {α:Type} {Yf:Shared->α} {Ya:World->α} {N:Nat} {g0:Bool}
  (e:opening p=plainProg p.main.scope.names) (hN:Nat.ble 600 N=true) (f:∀s,fenceModules? p s=some s)
  (run:∀w:World,Runs p q loose Xt Yf Ya N g0 w):
  LeftO p q loose Xt Yf Ya N g0:=by
 refine Bm (boot_open e hN f) ?_
 unfold Runs at run
 rw[PySem.W.Fast.te6613529449190102663,PySem.W.Fast.te10156331382660048174,PySem.W.Fast.te11892475500146522536,PySem.W.Fast.te14364793385576792824,PySem.W.Fast.te4187177175401517315]
 exact run
end Hd
namespace K58
open PySem PySem.Spec PyProof.Rows
noncomputable def top (i:Nat):Stmt:=PySem.Challenge.pw_pressluck_k58_whole_games_played.main.body.getD i (.Pass ⟨0,0,0,0⟩)
end K58
section NC
open PySem PySem.W PyProof.Rows
local macro_rules | `(tactic| o_head $H) => `(tactic| (refine (fun (_ : PySem.W.Hook) => ?_) $H; assumption))
theorem K58.pre (h:PySem.W.OpenRow.Holds (PySem.W.OpenLaw.row PySem.Challenge.rw_pressluck_k58_whole_games_played)):PySem.W.OpenRow.Holds (PySem.W.OpenLaw.row PySem.Challenge.rw_pressluck_k58_whole_games_played):=by
 k_head
noncomputable def K58.Fg:List Addr:=[2,3,15,22,23,24,25,28,35,36,37,40,47,48,49,52,59,60,61,64,71,72,73,76,78,79,81,82,83,85,86,88,89,90,92,93,95,96,97,100,101,102,104,105,107,108,109,112,113,114,117,118,119,121,122,124,125,126,128,129,131,132,133,135,136,138,139,140,142,143,145,146,147,149,150,152,153,154,157,158,159,162,163,164,167,168,169,171,172,174,175,176,179,180,181,183,184,186,187,188,191,192,193,196,197,198,201,202,203,206,207,208,210,211,213,214,222,224,225,227,228,229,231,232,234,235,236,238,239,241,242,243,245,246,248,249,250,252,253,255,256,257,259,260,262,263,264,266,267,269,270,271,274,275,276,278,279,281,282,283,285,286,288,289,290,293,294,295,298,299,300,302,303,305,306,307,308,309,310,311,321,323,324,326,327,328,330,331,333,334,335,336,337,338,339,342,344,345,347,348,349,352,353,354,356,357,359,360,361,364,365,366,368,369,371,372,373,375,376,378,379,380,383,384,385,387,388,390,391,392,395,396,397,400,401,402,405,406,407,410,411]
theorem K58.Gc (P:PySem.Params):K58.Fg=(K58.pre.heap_1 P).map (·.1):=by kernel_rfl
noncomputable def K58.vw:PySem.Program:={PySem.Challenge.pw_pressluck_k58_whole_games_played with main:={PySem.Challenge.pw_pressluck_k58_whole_games_played.main with body:=[K58.top 1,K58.top 2,K58.top 3,K58.top 4,K58.top 5,K58.top 7,K58.top 8,K58.top 9,K58.top 11,K58.top 12,K58.top 13,K58.top 14,K58.top 16,K58.top 17,K58.top 18,K58.top 19,K58.top 20,K58.top 21,K58.top 22,K58.top 23,K58.top 24,K58.top 25,K58.top 26,K58.top 27,K58.top 28,K58.top 29,K58.top 30,K58.top 31,K58.top 33,K58.top 34,K58.top 35,K58.top 36,K58.top 37,K58.top 38,K58.top 39,K58.top 40,K58.top 41,K58.top 43,K58.top 44,K58.top 45,K58.top 46,K58.top 47,K58.top 48,K58.top 49,K58.top 50]}}
theorem K58.run (w:World):Hd.Runs (RowW.prog (OpenRow.toRowW (PySem.W.OpenLaw.row PySem.Challenge.rw_pressluck_k58_whole_games_played))) K58.vw [] (λs=>xlAt K58.vw [] s && recOk (RowW.records (OpenRow.toRowW (PySem.W.OpenLaw.row PySem.Challenge.rw_pressluck_k58_whole_games_played))) s) (Hook.obs (kHook K58.pre.heap_1 K58.Fg K58.Gc)) (Hook.val (kHook K58.pre.heap_1 K58.Fg K58.Gc)) 6120 true w:=λos=>by kernel_rfl
end NC
namespace L2
open PySem PySem.Spec PyProof.Rows
abbrev Key:=Sum Int Str
noncomputable def pz:Key->Value->Bool
 | .inl k,v=>Value.isInt k v
 | .inr x,v=>Value.isStrOf x v
noncomputable def Gd (w:World):Key->Int
 | .inl k=>hashInt k
 | .inr x=>hashStr w x
theorem cz:∀{k:Key} {v:Value},pz k v=true->(∃i t,k=Sum.inl i/\v=Value.int i t)\/(∃x t,k=Sum.inr x/\v=Value.str x t)
 | .inl i,v,h=>by
  obtain⟨t,e⟩:=Value.isInt_shape (k:=i) (v:=v) h
  exact .inl ⟨i,t,rfl,e⟩
 | .inr x,v,h=>by
  obtain⟨t,e⟩:=Value.isStrOf_shape (x:=x) (v:=v) h
  exact .inr ⟨x,t,rfl,e⟩
theorem z7 (i:Int) (t:Tok):pz (.inl i) (.int i t)=true:=by simp [pz,Value.isInt]
theorem z8 (x:Str) (t:Tok):pz (.inr x) (.str x t)=true:=by simp [pz,Value.isStrOf]
theorem Ge (a b:Int):decide ((Sum.inl a:Key)=Sum.inl b)=(a==b):=by
 by_cases e:a=b
 ·subst e;simp
 ·have h:¬(Sum.inl a:Key)=Sum.inl b:=λq=>e (Sum.inl.inj q)
  rw[decide_eq_false h]
  exact(beq_eq_false_iff_ne.mpr e).symm
theorem Gf (a b:Str):decide ((Sum.inr a:Key)=Sum.inr b)=decide (a=b):=by
 by_cases e:a=b
 ·subst e;simp
 ·have h:¬(Sum.inr a:Key)=Sum.inr b:=λq=>e (Sum.inr.inj q)
  rw[decide_eq_false h,decide_eq_false e]
theorem Gg (a:Int) (b:Str):decide ((Sum.inl a:Key)=Sum.inr b)=false:=decide_eq_false (λq=>nomatch q)
theorem Gh (a:Str) (b:Int):decide ((Sum.inr a:Key)=Sum.inl b)=false:=decide_eq_false (λq=>nomatch q)
noncomputable def b8 (prog:Program) (w:World):PySem.KeyKind prog w Key where
 is:=pz
 hash:=Gd w
 inj:=λv a b ha hb=>by
  rcases cz ha with ⟨i,t,rfl,rfl⟩ | ⟨x,t,rfl,rfl⟩
  ·rcases cz hb with ⟨j,u,rfl,e⟩ | ⟨y,u,rfl,e⟩
   ·injection e with e1 _;rw[e1]
   ·exact nomatch e
  ·rcases cz hb with ⟨j,u,rfl,e⟩ | ⟨y,u,rfl,e⟩
   ·exact nomatch e
   ·injection e with e1 _;rw[e1]
 byValue:=λk v h=>by
  rcases cz h with ⟨i,t,rfl,rfl⟩ | ⟨x,t,rfl,rfl⟩ <;>rfl
 pyHash:=λhv h=>by
  rcases cz hv with ⟨i,t,rfl,rfl⟩ | ⟨x,t,rfl,rfl⟩
  ·exact wpAny_pyHash_int h
  ·exact wpAny_pyHash_str h
 eqBool:=λhu hv h=>by
  rcases cz hu with ⟨i,t,rfl,rfl⟩ | ⟨x,t,rfl,rfl⟩
  ·rcases cz hv with ⟨j,u,rfl,rfl⟩ | ⟨y,u,rfl,rfl⟩
   ·rw[Ge] at h;exact wpAny_eqBool_int h
   ·rw[Gg] at h;exact SeqAt.EqAt.int_str i t y u _ _ _ _ h
  ·rcases cz hv with ⟨j,u,rfl,rfl⟩ | ⟨y,u,rfl,rfl⟩
   ·rw[Gh] at h;exact SeqAt.EqAt.str_int x t j u _ _ _ _ h
   ·rw[Gf] at h;exact wpAny_eqBool_str h
 «strs»:=λk x t v h=>by
  rcases cz h with ⟨i,u,rfl,e⟩ | ⟨y,u,rfl,e⟩
  ·exact nomatch e
  ·injection e with e1 _
   subst e1
   cases v <;>rfl
theorem uY (prog:Program) (w:World) (i:Int) (t:Tok):(b8 prog w).is (.inl i) (.int i t)=true:=z7 i t
theorem uZ (prog:Program) (w:World) (x:Str) (t:Tok):(b8 prog w).is (.inr x) (.str x t)=true:=z8 x t
end L2
namespace L2
open PySem PySem.Spec PyProof.Rows
inductive V where
 | de | bl (b:Bool) | int (i:Int) | str (x:Str) | A9 (b:Array UInt8) | Gi (b:UInt64) | ref (a:Addr) | ty (n:String)
 deriving DecidableEq
noncomputable def RelV:V->Value->Prop
 | .de,u=>u=Value.none
 | .bl b,u=>u=Value.bool b
 | .int i,u=>∃t,u=Value.int i t
 | .str x,u=>∃t,u=Value.str x t
 | .A9 b,u=>∃t,u=Value.bytes b t
 | .Gi b,u=>∃t,u=Value.float b t
 | .ref a,u=>u=Value.ref a
 | .ty n,u=>u=Value.type n
abbrev bH:List V->List Value->Prop:=Paired RelV
theorem bH.length {xs:List V} {us:List Value} (r:bH xs us):xs.length=us.length:=Paired.length r
theorem bH.get:∀{xs:List V} {us:List Value} {i:Nat} {x:V},bH xs us->xs[i]?=some x->∃u,us[i]?=some u/\RelV x u
 | _,_,_,_,.nil,e=>by simp at e
 | _,_,0,_,.cons r _,e=>by simp at e;subst e;exact⟨_,rfl,r⟩
 | _,_,i+1,x,.cons _ t,e=>by
  obtain⟨u,h1,h2⟩:=bH.get (i:=i) (x:=x) t (by simpa using e)
  exact⟨u,by simpa using h1,h2⟩
theorem bH.set {x:V} {u:Value} (r:RelV x u):∀{xs:List V} {us:List Value} (i:Nat),bH xs us->bH (xs.set i x) (us.set i u)
 | _,_,_,.nil=>.nil
 | _,_,0,.cons _ t=>.cons r t
 | _,_,i+1,.cons q t=>.cons q (bH.set r i t)
theorem bH.append:∀{xs ys:List V} {us ws:List Value},bH xs us->bH ys ws->bH (xs++ys) (us++ws)
 | _,_,_,_,.nil,s=>s
 | _,_,_,_,.cons r t,s=>.cons r (bH.append t s)
theorem bH.take:∀{xs:List V} {us:List Value} (n:Nat),bH xs us->bH (xs.take n) (us.take n)
 | _,_,0,_=>.nil
 | _,_,_+1,.nil=>.nil
 | _,_,n+1,.cons r t=>.cons r (bH.take n t)
theorem bH.drop:∀{xs:List V} {us:List Value} (n:Nat),bH xs us->bH (xs.drop n) (us.drop n)
 | _,_,0,r=>r
 | _,_,_+1,.nil=>.nil
 | _,_,n+1,.cons _ t=>bH.drop n t
noncomputable def ir:Option V->Option Value->Prop
 | some v,some u=>RelV v u
 | none,none=>True
 | _,_=>False
noncomputable def KV {κ:Type}:List (κ×V)->List (κ×Value)->Prop:=Paired fun(p:κ×V) (q:κ×Value)=>p.1=q.1/\RelV p.2 q.2
noncomputable def kV:Key->V
 | .inl i=>.int i
 | .inr x=>.str x
inductive HO where
 | lst (xs:List V)
 | tup (xs:List V)
 | dK (kvs:List (Key×V)) | dT (kvs:List (List Key×V))
 | set (S:Int->Bool) (n:Nat)
 | ins (C dx:Addr) (fs:List (Str×V))
 | own (x:Addr)
 | xd (fs:List (Str×V))
 | met (f x:Addr)
 | MF (lo hi:Int)
 | uP (o:Obj) (u:HO)
 | yW (ps:Array Value)
 | ext (φ:Heap->Prop)
abbrev Hp:=Addr->Option HO
noncomputable def upd (H:Hp) (a:Addr) (o:HO):Hp:=λb=>if b=a then some o else H b
theorem ar {H:Hp} {a:Addr} {o:HO}:upd H a o a=some o:=by unfold upd;rw[if_pos rfl]
theorem aF {H:Hp} {a b:Addr} {o:HO} (h:b≠a):upd H a o b=H b:=by unfold upd;rw[if_neg h]
theorem tI {H:Hp} {a:Addr} {o u:HO}:upd (upd H a o) a u=upd H a u:=by
 funext b;unfold upd;split <;>rfl
theorem Jt {H:Hp} {a b:Addr} {o u:HO} (h:H a=some o) (h':H b=some u) (d:o≠u):a≠b:=by
 intro e;subst e;rw[h] at h';exact d (aaI h')
theorem d3 {H:Hp} {a b:Addr} {o:HO} (h:H a=some o) (h':H b=none):a≠b:=by
 intro e;subst e;rw[h] at h';cases h'
noncomputable def TabAt (H:Hp) (h:Heap) (a:Addr) (ps:Array Value):Prop:=∃mo:Array Value,h.get? a=some {cls:=.none,data:=.fields mo}/\
 (mo=#[]\/∃(l c:Value) (c1:Addr) (q:Str) (t:Tok),ps=#[l,c,.str q t]/\mo=#[l,c,.ref c1]/\H c1=some (.own a)/\h.CodeRec (.ref c1) q)
section
variable (P : Program) (w : World)
noncomputable def cm (H:Hp) (h:Heap) (a:Addr):HO->Prop
 | .lst xs=>xs.length<=sizeLine/\∃(bz:List Value) (n:Nat),bH xs bz/\h.get? a=some {cls:=.type "list",data:=.seq bz.toArray n}
 | .tup xs=>xs.length<=sizeLine/\∃bz:List Value,bH xs bz/\IsTup h a bz.toArray
 | .dK kvs=>kvs.length<=sizeLine/\(a==sysModules)=false/\∃vs,KV kvs vs/\h.DictOf (b8 P w) a vs
 | .dT kvs=>kvs.length<=sizeLine/\(a==sysModules)=false/\∃xs:List (List Key×Addr×Value),
   Paired (fun(p:List Key×V) (q:List Key×Addr×Value)=>p.1=q.1/\H q.2.1=some (.tup (p.1.map kV))/\RelV p.2 q.2.2) kvs xs/\
   ∃o es ep,h.get? a=some o/\o.ExactDict/\o.data=.dict es ep/\es.toList=xs.map (entryOfKey (tupleKind (b8 P w)))/\(xs.map (·.1)).Nodup
 | .set S n=>h.SetOf (intKind P w) a S n
 | .ins C dx fs=>H dx=some (.own a)/\fs.length<=1000/\dx≠a/\h.get? a=some (PySem.W.instObj C dx)/\
   ∃mA,h.Ns1 dx mA/\(∀f,ir (fs.lookup f) (mA f))/\PySem.Within mA (fs.map (·.1))
 | .own _=>∃o,h.get? a=some o
 | .xd fs=>∃mA,h.Ns1 a mA/\∀f,ir (fs.lookup f) (mA f)
 | .MF lo hi=>∃t u v,h.get? a=some {cls:=.type "range",data:=.fields #[.int lo t,.int hi u,.int 1 v]}
 | .uP o u=>h.get? a=some o/\cm H h a u
 | .yW ps=>TabAt H h a ps
 | .met f x=>h.get? a=some (PySem.W.methodObj (.ref f) (.ref x))
 | .ext φ=>φ h/\(∃o,h.get? a=some o)/\∀h1 h2:Heap,φ h1->(∀o,h1.get? a=some o->h2.get? a=some o)->φ h2
noncomputable def gi (H:Hp) (h:Heap):Prop:=∀a o,H a=some o->cm P w H h a o
end
section
variable {P : Program} {w : World} {H H' : Hp} {h h' : Heap} {a : Addr} {o : HO}
theorem cm.lt (x:cm P w H h a o):a<h.objs.size:=by
 cases o with
 | lst xs=>obtain⟨_,_,_,_,e⟩:=x;exact Heap.lt_size e
 | tup xs=>obtain⟨_,_,_,p⟩:=x;exact p.lt
 | dK kvs=>obtain⟨_,_,_,_,o,_,_,e,_⟩:=x;exact Heap.lt_size e
 | dT kvs=>obtain⟨_,_,_,_,o,_,_,e,_⟩:=x;exact Heap.lt_size e
 | set S n=>obtain⟨o,_,_,_,e,_⟩:=x;exact Heap.lt_size e
 | ins C dx fs=>obtain⟨_,_,_,e,_⟩:=x;exact Heap.lt_size e
 | own y=>obtain⟨_,e⟩:=x;exact Heap.lt_size e
 | xd fs=>obtain⟨_,⟨_,_,_,e,_⟩,_⟩:=x;exact Heap.lt_size e
 | MF lo hi=>obtain⟨_,_,_,e⟩:=x;exact Heap.lt_size e
 | uP ob u=>obtain⟨e,_⟩:=x;exact Heap.lt_size e
 | yW ps=>obtain⟨_,e,_⟩:=x;exact Heap.lt_size e
 | met f y=>exact Heap.lt_size (show h.get? a=some _ from x)
 | ext φ=>obtain⟨_,⟨_,e⟩,_⟩:=x;exact Heap.lt_size e
theorem Paired.Gj {α β:Type} {F G:α->β->Prop}:∀{l₁:List α} {l₂:List β},Paired F l₁ l₂->(∀a b,F a b->G a b)->Paired G l₁ l₂
 | _,_,.nil,_=>.nil
 | _,_,.cons r t,f=>.cons (f _ _ r) (Paired.Gj t f)
theorem cm.qZ (x:cm P w H h a o) (k:∀b u,(b=a\/H b=some (.own a))->h.get? b=some u->h'.get? b=some u)
  (ho:∀b,H b=some (.own a)->H' b=some (.own a)) (ht:∀b xs,H b=some (.tup xs)->H' b=some (.tup xs)):cm P w H' h' a o:=by
 induction o with
 | lst xs=>obtain⟨z,bz,n,r,e⟩:=x;exact⟨z,bz,n,r,k _ _ (.inl rfl) e⟩
 | tup xs=>obtain⟨z,bz,r,ob,e,c⟩:=x;exact⟨z,bz,r,ob,k _ _ (.inl rfl) e,c⟩
 | dK kvs=>obtain⟨z,y,vs,r,ob,es,ep,e,c⟩:=x;exact⟨z,y,vs,r,ob,es,ep,k _ _ (.inl rfl) e,c⟩
 | dT kvs=>
  obtain⟨z,y,xs,r,ob,es,ep,e,c⟩:=x
  exact⟨z,y,xs,Paired.Gj r λp q z=>⟨z.1,ht _ _ z.2.1,z.2.2⟩,ob,es,ep,k _ _ (.inl rfl) e,c⟩
 | set S n=>obtain⟨ob,es,ep,t,e,c⟩:=x;exact⟨ob,es,ep,t,k _ _ (.inl rfl) e,c⟩
 | ins C dx fs=>
  obtain⟨d,z,ne,e,mA,⟨od,es,ep,e2,c⟩,r⟩:=x
  exact⟨ho _ d,z,ne,k _ _ (.inl rfl) e,mA,⟨od,es,ep,k _ _ (.inr d) e2,c⟩,r⟩
 | own y=>obtain⟨ob,e⟩:=x;exact⟨ob,k _ _ (.inl rfl) e⟩
 | xd fs=>obtain⟨mA,⟨od,es,ep,e,c⟩,r⟩:=x;exact⟨mA,⟨od,es,ep,k _ _ (.inl rfl) e,c⟩,r⟩
 | MF lo hi=>obtain⟨t,u,v,e⟩:=x;exact⟨t,u,v,k _ _ (.inl rfl) e⟩
 | uP ob u ih=>obtain⟨e,q⟩:=x;exact⟨k _ _ (.inl rfl) e,ih q⟩
 | yW ps=>
  obtain⟨mo,e,q⟩:=x
  refine⟨mo,k _ _ (.inl rfl) e,?_⟩
  rcases q with q | ⟨l,c,c1,qn,t,e1,e2,e3,c2,o2,WW,t2,f1,f2,f3,f4⟩
  ·exact .inl q
  ·cases f1
   exact .inr ⟨l,c,c1,qn,t,e1,e2,ho _ e3,c1,o2,WW,t2,rfl,k _ _ (.inr e3) f2,f3,f4⟩
 | met f y=>
  have e:h.get? a=some (PySem.W.methodObj (.ref f) (.ref y)):=x
  show h'.get? a=some (PySem.W.methodObj (.ref f) (.ref y))
  exact k a _ (.inl rfl) e
 | ext φ=>obtain⟨p,⟨o,e⟩,st⟩:=x;exact⟨st _ _ p λo q=>k _ _ (.inl rfl) q,⟨o,k _ _ (.inl rfl) e⟩,st⟩
theorem gi.lt (x:gi P w H h) (e:H a=some o):a<h.objs.size:=(x a o e).lt
theorem gi.fresh (x:gi P w H h) (e:h.objs.size<=a):H a=none:=by
 cases q:H a with
 | none=>rfl
 | some u=>exact absurd (aat (x.lt q) e) (aaA _)
theorem gi.kept (x:gi P w H h) (k:∀b u,h.get? b=some u->h'.get? b=some u):gi P w H h':=λa o e=>
 (x a o e).qZ (λb u _ q=>k b u q) (λ_ q=>q) λ_ _ q=>q
theorem gi.laid (x:gi P w H h) (k:∀b u,h.get? b=some u->h'.get? b=some u) (hp:h.objs.size<=a) (new:cm P w (upd H a o) h' a o):gi P w (upd H a o) h':=λb u e=>by
 have hn:=x.fresh hp
 by_cases hb:b=a
 ·subst hb;rw[ar] at e;cases e;exact new
 ·rw[aF hb] at e
  exact(x b u e).qZ (λc v _ q=>k c v q) (λc q=>by rw[aF (d3 q hn)];exact q) λc xs q=>by rw[aF (d3 q hn)];exact q
end
noncomputable def Rd (H:Hp) (a:Addr) (u:HO):Prop:=H a=some u\/∃o,H a=some (.uP o u)
theorem Rd.ok {P:Program} {w:World} {H:Hp} {h:Heap} {a:Addr} {u:HO} (r:Rd H a u) (x:gi P w H h):cm P w H h a u:=by
 rcases r with r | ⟨o,r⟩
 ·exact x a u r
 ·obtain⟨_,q⟩:=x a _ r
  exact q
noncomputable def Ju:Option HO->Prop
 | some (.lst _)=>True
 | some (.dK _)=>True
 | some (.dT _)=>True
 | some (.set _ _)=>True
 | some (.ins _ _ _)=>True
 | some (.ext _)=>True
 | _=>False
section
variable {P : Program} {w : World} {H : Hp} {h h' : Heap} {x e : Addr} {o' : HO}
theorem gi.write (ok:gi P w H h) (mu:Ju (H x)) (he:e=x\/H e=some (.own x)) (k:∀b u,b≠e->h.get? b=some u->h'.get? b=some u) (IT:∃u,h'.get? e=some u)
  (new:cm P w (upd H x o') h' x o'):gi P w (upd H x o') h':=λb u q=>by
 have Jv:∀c y,H c=some (.own y)->c≠x:=λc y r z=>by subst z;rw[r] at mu;exact mu
 have ND:∀c xs,H c=some (.tup xs)->c≠x:=λc xs r z=>by subst z;rw[r] at mu;exact mu
 by_cases hb:b=x
 ·subst hb;rw[ar] at q;cases q;exact new
 ·rw[aF hb] at q
  by_cases Gk:b=e
  ·have q':H b=some (.own x):=by
    rcases he with z | z
    ·exact absurd (Gk.trans z) hb
    ·rw[Gk];exact z
   rw[q] at q';cases q'
   obtain⟨v,hv⟩:=IT
   exact⟨v,by rw[Gk];exact hv⟩
  ·refine(ok b u q).qZ (λc v hc r=>k c v ?_ r) (λc r=>by rw[aF (Jv c b r)];exact r) λc xs r=>by rw[aF (ND c xs r)];exact r
   rcases hc with rfl | hc
   ·exact Gk
   ·rintro rfl
    rcases he with z | z
    ·exact Jv c b hc z
    ·rw[hc] at z;cases z;exact hb rfl
end
structure Un (fs ex:List Addr) (H H':Hp) (h h':Heap):Prop where
 keep:∀b o,h.get? b=some o->H b=none->b∉fs->b∉ex->h'.get? b=some o
 slot:∀b o,h.get? b=some o->H b=none->b∈fs->b∉ex->∃sl,h'.get? b=some {o with slots:=sl}
 free:∀b o,h.get? b=some o->H b=none->b∉ex->H' b=none
 there:∀b o,h.get? b=some o->b∉ex->∃o',h'.get? b=some o'
 gO:∀b xs,H b=some (.tup xs)->H' b=some (.tup xs)
 gw:∀b o u,H b=some (.uP o u)->H' b=some (.uP o u)
 iu:∀b ps,H b=some (.yW ps)->∃more,H' b=some (.yW (ps++more))
section
variable {fs Ba ex NF : List Addr} {H H1 H2 : Hp} {h h1 h2 h' : Heap} {a x e : Addr} {o : HO}
theorem Un.any (u:Un fs ex H H1 h h1) {b:Addr} {ob:Obj} (q:h.get? b=some ob) (n:H b=none) (hx:b∉ex):∃sl,h1.get? b=some {ob with slots:=sl}:=by
 by_cases hb:b∈fs
 ·exact u.slot b ob q n hb hx
 ·exact⟨ob.slots,u.keep b ob q n hb hx⟩
theorem Un.kept (k:∀b u,h.get? b=some u->h'.get? b=some u):Un fs ex H H h h':=
 ⟨λb ob q _ _ _=>k b ob q,λb ob q _ _ _=>⟨ob.slots,k b ob q⟩,λ_ _ _ n _=>n,λb ob q _=>⟨ob,k b ob q⟩,λ_ _ q=>q,λ_ _ _ q=>q,λ_ ps q=>⟨#[],by rw[q];simp⟩⟩
theorem Un.refl:Un fs ex H H h h:=Un.kept λ_ _ q=>q
theorem Un.laid (k:∀b u,h.get? b=some u->h'.get? b=some u) (hp:h.objs.size<=a) (hn:H a=none):Un fs ex H (upd H a o) h h' where
 keep:=λb u q _ _ _=>k b u q
 slot:=λb u q _ _ _=>⟨u.slots,k b u q⟩
 free:=λb u q n _=>by rw[aF (aaj (aat (Heap.lt_size q) hp))];exact n
 there:=λb u q _=>⟨u,k b u q⟩
 gO:=λb xs q=>by rw[aF (d3 q hn)];exact q
 gw:=λb u xs q=>by rw[aF (d3 q hn)];exact q
 iu:=λb ps q=>⟨#[],by rw[aF (d3 q hn),q];simp⟩
theorem Un.write (mu:Ju (H x)) (he:e=x\/H e=some (.own x)) (k:∀b u,b≠e->h.get? b=some u->h'.get? b=some u) (IT:∃u,h'.get? e=some u):Un fs ex H (upd H x o) h h':=by
 have hx:∀b,H b=none->b≠x:=λb n z=>by subst z;rw[n] at mu;exact mu
 have hb:∀b,H b=none->b≠e:=λb n z=>by
  subst z
  rcases he with r | r
  ·exact hx b n r
  ·rw[n] at r;cases r
 have hm:∀b u,H b=some u->¬Ju (some u)->b≠x:=λb u q nm z=>by subst z;rw[q] at mu;exact nm mu
 refine⟨λb u q n _ _=>k b u (hb b n) q,λb u q n _ _=>⟨u.slots,k b u (hb b n) q⟩,λb u q n _=>by rw[aF (hx b n)];exact n,λb u q _=>?_,
  λb xs q=>by rw[aF (hm b _ q λz=>z)];exact q,λb u xs q=>by rw[aF (hm b _ q λz=>z)];exact q,λb ps q=>⟨#[],by rw[aF (hm b _ q λz=>z),q];simp⟩⟩
 by_cases Gk:b=e
 ·subst Gk;exact IT
 ·exact⟨u,k b u Gk q⟩
end
noncomputable def MG (h:Heap) (H:Hp):List Addr:=(List.range h.objs.size).filter λa=>(H a).isSome
noncomputable def tJ (h:Heap) (H:Hp):Heap:=PySem.W.hideAll h (MG h H)
theorem Aa (h:Heap) (H:Hp):(tJ h H).objs.size=h.objs.size:=PySem.W.hideAll_size _ _
theorem Bn {h:Heap} {H:Hp} {b:Addr} {o:Obj} (e:h.get? b=some o) (n:H b=none):(tJ h H).get? b=some o:=
 PySem.W.hideAll_get _ e λhm=>by
  have q:(H b).isSome=true:=(List.mem_filter.mp hm).2
  rw[n] at q;simp at q
theorem DE {h:Heap} {H:Hp} {b:Addr} {o:Obj} (e:(tJ h H).get? b=some o):h.get? b=some o/\H b=none:=by
 have e':h.get? b=some o:=PySem.W.of_hideAll (MG h H) e
 refine⟨e',?_⟩
 cases q:H b with
 | none=>rfl
 | some x=>
  have hm:b∈MG h H:=List.mem_filter.mpr ⟨List.mem_range.mpr (Heap.lt_size e'),by simp [q]⟩
  have z:(tJ h H).get? b=none:=PySem.W.hideAll_none (MG h H) hm
  rw[z] at e;cases e
noncomputable def DF (g h:Heap) (L:Addr):List (Addr×Obj):=(List.range h.objs.size).filterMap λa=>if a=L\/(g.get? a).isSome=true then none else (h.get? a).map λo=>(a,o)
noncomputable def rest (g h:Heap) (L d:Addr):List (Addr×Obj):=(DF g h L).filter λp=>decide (p.1≠d)
end L2
namespace L2
open PySem PySem.Spec PyProof.Rows
structure Mod (K:PySem.W.Frag) (mg:Str->Option Value) (base:Heap):Prop where
 Gn:K.In base
 glob:base.Ns mainGlobals mg
 blt:∃mb,base.Ns builtinsNs mb/\∀x:Str,x≠"__name__"->mb x=bootBuiltins x
 nolimit:base.NoLimit
structure Cx where
 prog:Program
 w:World
 K:PySem.W.Frag
 mg:Str->Option Value
 base:Heap
 A:Around
 N:List Str
 s₀:Shared
 H₀:Hp
 env:Env
 outer:List Env
 stack:List Env
 ex:List Addr
 fn:Str->Bool
 calm:Bool
 pn:List (Addr×Obj)
 xe:Value->Shared->Prop
def dz (l:List Env):List Addr:=l.filterMap (·.frame)
abbrev Cx.fs (X:Cx):List Addr:=dz X.outer
noncomputable def NG (sc:Scope) (x:Str):Prop:=sc.names.lookup x=some .local\/sc.names.lookup x=some .cell\/sc.names.lookup x=some .free
noncomputable def Loc (sc:Scope) (x:Str):Prop:=sc.names.lookup x=some .local\/sc.names.lookup x=some .cell
noncomputable def Look (env:Env) (h:Heap) (m:Str->Option Value) (x:Str) (u:Value):Prop:=
 (env.kindOf x=some .local/\m x=some u)\/((env.kindOf x=some .cell\/env.kindOf x=some .free)/\∃c,env.cells.lookup x=some c/\h.IsCell c (some u))
structure Cx.Ok (X:Cx):Prop where
 mod:Mod X.K X.mg X.base
 kind:X.env.scope.kind=.function
 glob:X.env.globals=mainGlobals
 blt:X.env.builtins=builtinsNs
 above:X.s₀.heap.objs.size<=X.env.locals
 inj:∀x y c,X.env.cells.lookup x=some c->X.env.cells.lookup y=some c->x=y
 has:∀x,(X.env.kindOf x=some .cell\/X.env.kindOf x=some .free)->∃c,X.env.cells.lookup x=some c
 Gq:∀x c,X.fn x=true->X.env.cells.lookup x=some c->X.s₀.heap.objs.size<=c
 hd:X.calm=true->X.A.handled=none
 frames:X.A.frames=some X.stack
 IU:X.stack=X.outer\/(X.stack=X.env::X.outer/\X.env.frame=some X.env.locals)
 MH:∀b∈X.ex,b≠X.env.locals/\∀x c,X.env.cells.lookup x=some c->c≠b
 bs:∀b o,X.base.get? b=some o->X.s₀.heap.get? b=some o/\X.H₀ b=none
 Bo:X.base.objs.size<=X.s₀.heap.objs.size
 xb:∀b o,X.base.get? b=some o->b∉X.ex
 Ab:∀b∈X.ex,b∉X.fs
 lE:X.s₀.heap.FunFrames X.base X.outer
 DG:∀b∈X.fs,X.H₀ b=none
structure Inv (X:Cx) (pins:List (Addr×Obj)) (σ:List (Option V)) (H:Hp) (s:Shared):Prop where
 ok:X.Ok
 os:s.os=X.s₀.os
 bare:AllBare s.gens
 base:Un X.fs X.ex X.H₀ H X.s₀.heap s.heap
 loc:∃m,s.heap.Ns X.env.locals m/\∀(i:Nat) (x:Str) (v:V),X.N[i]?=some x->σ[i]?=some (some v)->NG X.env.scope x->∃u,RelV v u/\Look X.env s.heap m x u
 cell:∀x c,X.env.cells.lookup x=some c->∃v,s.heap.IsCell c v
 free:H X.env.locals=none
 fW:∀x c,X.env.cells.lookup x=some c->H c=none
 pin:∀p∈X.pn++pins,s.heap.get? p.1=some p.2/\H p.1=none/\p.1≠X.env.locals/\p.1∉X.fs/\∀v,p.2.data≠.cell v
 bP:gi X.prog X.w H s.heap
 len:σ.length=X.N.length
section
variable {X : Cx} {pins : List (Addr × Obj)} {σ : List (Option V)} {H H' : Hp} {s : Shared} {h' : Heap}
theorem Cx.Ok.NH (ok:X.Ok) {b:Addr} {o:Obj} (e:X.base.get? b=some o):b∉X.fs:=λhb=>by
 have:=(ok.lE.mem hb).1
 rw[e] at this;cases this
theorem Inv.bs (I:Inv X pins σ H s):∀b o,X.base.get? b=some o->s.heap.get? b=some o/\H b=none:=λb o e=>
 ⟨I.base.keep b o (I.ok.bs b o e).1 (I.ok.bs b o e).2 (I.ok.NH e) (I.ok.xb b o e),I.base.free b o (I.ok.bs b o e).1 (I.ok.bs b o e).2 (I.ok.xb b o e)⟩
theorem Inv.bk (I:Inv X pins σ H s):∀b o,X.base.get? b=some o->s.heap.get? b=some o:=λb o e=>(I.bs b o e).1
theorem Inv.mod (I:Inv X pins σ H s):Mod X.K X.mg X.base:=I.ok.mod
theorem Inv.lF (I:Inv X pins σ H s):X.K.In s.heap:=I.ok.mod.Gn.keeps I.bk
theorem Inv.lt (I:Inv X pins σ H s):X.env.locals<s.heap.objs.size:=let ⟨_,hn,_⟩:=I.loc;hn.lt
theorem Inv.sz (I:Inv X pins σ H s):X.s₀.heap.objs.size<=s.heap.objs.size:=aax I.ok.above (Nat.le_of_lt I.lt)
theorem Inv.NI (I:Inv X pins σ H s) {a:Addr} (h:s.heap.objs.size<=a):a∉X.fs:=λhb=>by
 obtain⟨_,o,ho,_⟩:=I.ok.lE.mem hb
 exact absurd (aat (Heap.lt_size ho) (aax I.sz h)) (aaA _)
theorem Inv.Gr (I:Inv X pins σ H s):∀x c,X.env.cells.lookup x=some c->c≠X.env.locals:=λx c e z=>by
 obtain⟨v,o,ho,hd⟩:=I.cell x c e
 obtain⟨m,⟨o',es,ep,DH,NJ,_⟩,_⟩:=I.loc
 rw[z,DH] at ho;cases ho;rw[NJ] at hd;cases hd
theorem Inv.lE (I:Inv X pins σ H s):s.heap.FunFrames X.base X.outer:=by
 have all:∀(l:List Env),(∀b∈dz l,b∈X.fs)->X.s₀.heap.FunFrames X.base l->s.heap.FunFrames X.base l:=by
  intro l
  induction l with
  | nil=>intro _ _;trivial
  | cons env r ih=>
   intro hs hl
   obtain⟨hk,⟨L,o,hf,hn,ho,hd⟩,hr⟩:=hl
   have hL:L∈X.fs:=hs L (by unfold dz;rw[aa0,hf];exact aai)
   obtain⟨sl,e⟩:=I.base.slot L o ho (I.ok.DG L hL) hL λz=>I.ok.Ab L z hL
   exact⟨hk,⟨L,_,hf,hn,e,hd⟩,ih (λb hb=>hs b (by unfold dz;rw[aa0,hf];exact aag _ hb)) hr⟩
 exact all X.outer (λ_ hb=>hb) I.ok.lE
theorem Inv.stack (I:Inv X pins σ H s):s.heap.FunFrames X.base X.stack:=by
 rcases I.ok.IU with e | ⟨e,hf⟩
 ·rw[e];exact I.lE
 ·rw[e]
  obtain⟨m,hn,_⟩:=I.loc
  refine .cons (by rw[I.ok.kind];decide) hf hn ?_ I.lE
  exact Heap.get?_none_of_le (aax I.ok.Bo I.ok.above)
theorem Inv.tK (I:Inv X pins σ H s):∀b∈dz X.stack,b∈X.env.locals::X.fs:=λb hb=>by
 rcases I.ok.IU with e | ⟨e,hf⟩
 ·rw[e] at hb;exact aag _ hb
 ·rw[e] at hb
  unfold dz at hb
  rw[aa0,hf] at hb
  exact hb
theorem Inv.o9 (I:Inv X pins σ H s):∀b∈dz X.stack,H b=none:=λb hb=>by
 rcases List.mem_cons.mp (I.tK b hb) with e | hb
 ·rw[e];exact I.free
 ·obtain⟨_,o,ho,_⟩:=I.ok.lE.mem hb
  exact I.base.free b o ho (I.ok.DG b hb) λz=>I.ok.Ab b z hb
theorem Inv.step {g':Array GenState} {t':Nat} {d':Drawn} {ch:List Addr} (I:Inv X pins σ H s)
  (Dk:∀b∈ch,(b∈X.ex\/X.s₀.heap.objs.size<=b)/\b≠X.env.locals/\(∀x c,X.env.cells.lookup x=some c->c≠b)/\∀p∈X.pn++pins,p.1≠b)
  (keep:∀b o,b≠X.env.locals->b∉X.fs->b∉ch->s.heap.get? b=some o->H b=none->h'.get? b=some o)
  (slot:∀b o,b≠X.env.locals->b∈X.fs->b∉ch->s.heap.get? b=some o->H b=none->∃sl,h'.get? b=some {o with slots:=sl}) (free:∀b o,b∉ch->s.heap.get? b=some o->H b=none->H' b=none)
  (there:∀b o,b∉ch->s.heap.get? b=some o->∃o',h'.get? b=some o')
  (gO:∀b xs,H b=some (.tup xs)->H' b=some (.tup xs)) (gw:∀b o u,H b=some (.uP o u)->H' b=some (.uP o u)) (iu:∀b ps,H b=some (.yW ps)->∃more,H' b=some (.yW (ps++more)))
  (ns:∀m,s.heap.Ns X.env.locals m->h'.Ns X.env.locals m) (bP:gi X.prog X.w H' h') (hg:AllBare g'):
  Inv X pins σ H' {s with heap:=h',gens:=g',drawn:=d',toks:=t'}:=by
 have UM:∀b o,X.s₀.heap.get? b=some o->b≠X.env.locals:=λb o e=>aaj (aat (Heap.lt_size e) I.ok.above)
 have MI:∀b o,X.s₀.heap.get? b=some o->b∉X.ex->b∉ch:=λb o e hx hb=>by
  rcases(Dk b hb).1 with z | z
  ·exact hx z
  ·exact absurd (aat (Heap.lt_size e) z) (aaA _)
 have cellK:∀x c,X.env.cells.lookup x=some c->∀v,s.heap.IsCell c v->h'.IsCell c v:=λx c e v ⟨o,ho,hd⟩=>by
  have Fh:c∉ch:=λz=>(Dk c z).2.2.1 x c e rfl
  by_cases hc:c∈X.fs
  ·obtain⟨sl,q⟩:=slot c o (I.Gr x c e) hc Fh ho (I.fW x c e)
   exact⟨_,q,hd⟩
  ·exact⟨o,keep c o (I.Gr x c e) hc Fh ho (I.fW x c e),hd⟩
 refine⟨I.ok,I.os,hg,⟨λb o e n hb hx=>?_,λb o e n hb hx=>?_,λb o e n hx=>?_,λb o e hx=>?_,λb xs e=>gO b xs (I.base.gO b xs e),λb o xs e=>gw b o xs (I.base.gw b o xs e),λb ps e=>?_⟩,?_,λx c e=>?_,?_,λx c e=>?_,λp hp=>?_,bP,I.len⟩
 ·exact keep b o (UM b o e) hb (MI b o e hx) (I.base.keep b o e n hb hx) (I.base.free b o e n hx)
 ·obtain⟨sl,e1⟩:=I.base.slot b o e n hb hx
  obtain⟨Jw,e2⟩:=slot b _ (UM b o e) hb (MI b o e hx) e1 (I.base.free b o e n hx)
  exact⟨Jw,e2⟩
 ·obtain⟨o',e1⟩:=I.base.there b o e hx
  exact free b o' (MI b o e hx) e1 (I.base.free b o e n hx)
 ·obtain⟨o',e1⟩:=I.base.there b o e hx
  exact there b o' (MI b o e hx) e1
 ·obtain⟨m1,e1⟩:=I.base.iu b ps e
  obtain⟨m2,e2⟩:=iu b _ e1
  exact⟨m1++m2,by rw[e2,Array.append_assoc]⟩
 ·obtain⟨m,hn,hl⟩:=I.loc
  refine⟨m,ns m hn,λi x v e1 e2 e3=>?_⟩
  obtain⟨u,r,l⟩:=hl i x v e1 e2 e3
  refine⟨u,r,?_⟩
  rcases l with l | ⟨k,c,e,z⟩
  ·exact .inl l
  ·exact .inr ⟨k,c,e,cellK x c e _ z⟩
 ·obtain⟨v,z⟩:=I.cell x c e
  exact⟨v,cellK x c e v z⟩
 ·obtain⟨m,⟨o,_,_,ho,_⟩,_⟩:=I.loc
  exact free _ o (λz=>(Dk _ z).2.1 rfl) ho I.free
 ·obtain⟨v,o,ho,hd⟩:=I.cell x c e
  exact free c o (λz=>(Dk c z).2.2.1 x c e rfl) ho (I.fW x c e)
 ·obtain⟨e,n,ne,nf,d⟩:=I.pin p hp
  have Fh:p.1∉ch:=λz=>(Dk p.1 z).2.2.2 p hp rfl
  exact⟨keep p.1 p.2 ne nf Fh e n,free p.1 p.2 Fh e n,ne,nf,d⟩
theorem Inv.un {t':Nat} (I:Inv X pins σ H s) (u:Un X.fs [] H H' s.heap h') (bP:gi X.prog X.w H' h'):Inv X pins σ H' {s with heap:=h',toks:=t'}:=by
 obtain⟨m,⟨o,es,ep,ho,r⟩,_⟩:=id I.loc
 obtain⟨sl,hL⟩:=u.any ho I.free (by simp)
 exact I.step (g':=s.gens) (d':=s.drawn) (ch:=[]) (λ_ z=>nomatch z) (λb o _ hb _ e n=>u.keep b o e n hb (by simp)) (λb o _ hb _ e n=>u.slot b o e n hb (by simp)) (λb o _ e n=>u.free b o e n (by simp)) (λb o _ e=>u.there b o e (by simp)) u.gO u.gw u.iu (λm' hm=>by
  obtain⟨o',sf,NK,DH,r'⟩:=hm
  rw[ho] at DH;cases DH
  exact⟨_,sf,NK,hL,r'⟩) bP I.bare
theorem Inv.call {g':Array GenState} {t':Nat} {d':Drawn} {ch:List Addr} (I:Inv X pins σ H s) (u:Un (dz X.stack) ch H H' s.heap h') (bP:gi X.prog X.w H' h') (hg:AllBare g')
  (Dk:∀b∈ch,(b∈X.ex\/X.s₀.heap.objs.size<=b)/\b≠X.env.locals/\(∀x c,X.env.cells.lookup x=some c->c≠b)/\∀p∈X.pn++pins,p.1≠b):
  Inv X pins σ H' {s with heap:=h',gens:=g',drawn:=d',toks:=t'}:=by
 obtain⟨m,⟨o,es,ep,ho,r⟩,_⟩:=id I.loc
 obtain⟨sl,hL⟩:=u.any ho I.free λz=>(Dk _ z).2.1 rfl
 exact I.step (ch:=ch) Dk (λb o hL hb hc e n=>u.keep b o e n (λz=>(List.mem_cons.mp (I.tK b z)).elim hL hb) hc) (λb o _ _ hc e n=>u.any e n hc) (λb o hc e n=>u.free b o e n hc) (λb o hc e=>u.there b o e hc) u.gO u.gw u.iu (λm' hm=>by
  obtain⟨o',sf,NK,DH,r'⟩:=hm
  rw[ho] at DH;cases DH
  exact⟨_,sf,NK,hL,r'⟩) bP hg
theorem Inv.turned {t':Nat} {it:Addr} (I:Inv X pins σ H s) (k:∀b o,b≠it->s.heap.get? b=some o->h'.get? b=some o) (hn:H it=none) (hL:it≠X.env.locals)
  (h1:it∈X.ex\/X.s₀.heap.objs.size<=it) (h2:∀x c,X.env.cells.lookup x=some c->c≠it) (h3:∀p∈X.pn++pins,p.1≠it):Inv X pins σ H {s with heap:=h',toks:=t'}:=by
 have UN:∀b u,H b=some u->b≠it:=λb u e z=>by rw[z,hn] at e;cases e
 refine I.step (g':=s.gens) (d':=s.drawn) (ch:=[it]) (λb hb=>?_) (λb o _ _ hc e _=>k b o (λz=>hc (by simp [z])) e) (λb o _ _ hc e _=>⟨o.slots,k b o (λz=>hc (by simp [z])) e⟩) (λ_ _ _ _ n=>n)
  (λb o hc e=>⟨o,k b o (λz=>hc (by simp [z])) e⟩) (λ_ _ e=>e) (λ_ _ _ e=>e) (λb ps e=>⟨#[],by rw[e];simp⟩) (λm hm=>?_) (λb u e=>?_) I.bare
 ·have e:b=it:=by simpa using hb
  subst e
  exact⟨h1,hL,h2,h3⟩
 ·obtain⟨o,es,ep,ho,r⟩:=hm
  exact⟨o,es,ep,k _ o (Ne.symm hL) ho,r⟩
 ·refine(I.bP b u e).qZ (λc v hc q=>k c v ?_ q) (λ_ q=>q) λ_ _ q=>q
  rcases hc with z | z
  ·rw[z];exact UN b u e
  ·exact UN c _ z
theorem Inv.tok (I:Inv X pins σ H s) (t:Nat):Inv X pins σ H {s with toks:=t}:=I.un (h':=s.heap) (t':=t) Un.refl I.bP
theorem Inv.kept {t':Nat} (I:Inv X pins σ H s) (k:∀b u,s.heap.get? b=some u->h'.get? b=some u):Inv X pins σ H {s with heap:=h',toks:=t'}:=I.un (Un.kept k) (I.bP.kept k)
theorem Inv.laid {a:Addr} {o:HO} {t':Nat} (I:Inv X pins σ H s) (k:∀b u,s.heap.get? b=some u->h'.get? b=some u) (hp:s.heap.objs.size<=a) (new:cm X.prog X.w (upd H a o) h' a o):
  Inv X pins σ (upd H a o) {s with heap:=h',toks:=t'}:=I.un (Un.laid k hp (I.bP.fresh hp)) (I.bP.laid k hp new)
theorem Inv.write {x e:Addr} {o:HO} {t':Nat} (I:Inv X pins σ H s) (mu:Ju (H x)) (he:e=x\/H e=some (.own x)) (k:∀b u,b≠e->s.heap.get? b=some u->h'.get? b=some u) (IT:∃u,h'.get? e=some u)
  (new:cm X.prog X.w (upd H x o) h' x o):Inv X pins σ (upd H x o) {s with heap:=h',toks:=t'}:=I.un (Un.write mu he k IT) (I.bP.write mu he k IT new)
theorem Inv.lG {Fi:List (Addr×Obj)} (I:Inv X pins σ H s) (h:∀p∈Fi,s.heap.get? p.1=some p.2/\H p.1=none/\p.1≠X.env.locals/\p.1∉X.fs/\∀v,p.2.data≠.cell v):Inv X Fi σ H s:=
 ⟨I.ok,I.os,I.bare,I.base,I.loc,I.cell,I.free,I.fW,λp hp=>(List.mem_append.mp hp).elim (λz=>I.pin p (aaO _ z)) (h p),I.bP,I.len⟩
theorem u9 {N:List Str} (hN:N.Nodup) {i j:Nat} {x:Str} (a:N[i]?=some x) (b:N[j]?=some x):i=j:=by
 obtain⟨h1,e1⟩:=List.getElem?_eq_some_iff.mp a
 obtain⟨h2,e2⟩:=List.getElem?_eq_some_iff.mp b
 exact(List.getElem_inj hN).mp (e1.trans e2.symm)
theorem sg {M:Model} {A:Around} {E:Value->Shared->Prop} {i:Nat} {x:Str} {v:V} {u:Value} {Q:Unit->Shared->Prop} (I:Inv X pins σ H s) (hN:X.N.Nodup) (hi:X.N[i]?=some x) (hx:Loc X.env.scope x) (r:RelV v u)
  (h:∀s',Inv X pins (σ.set i (some v)) H s'->(∃a,Heap.SameBut a s.heap s'.heap/\(a=X.env.locals\/X.env.cells.lookup x=some a))->Q () s') (hf:X.fn x=true\/X.env.scope.names.lookup x=some .local:=by first | exact .inl rfl | exact .inr rfl | assumption):wpAny M A (storeName X.env x u) Q E s:=by
 obtain⟨m,hn,hl⟩:=id I.loc
 have NL:(X.env.scope.kind==.class || (X.env.scope.kind==.module && X.env.locals !=X.env.globals))=false:=by rw[I.ok.kind];rfl
 have UO:i<σ.length:=by rw[I.len];exact(List.getElem?_eq_some_iff.mp hi).1
 have Gr:=I.Gr
 have tracked:∀{a:Addr} {h':Heap},(∃o,s.heap.get? a=some o/\H a=none)->Heap.SameBut a s.heap h'->gi X.prog X.w H h':=λ{a h'} ha hs b ob e=>by
  obtain⟨_,_,Fj⟩:=ha
  refine(I.bP b ob e).qZ (λc w' hc q=>(hs.2 c ?_).trans q) (λ_ q=>q) λ_ _ q=>q
  rintro rfl
  rcases hc with rfl | hc
  ·rw[Fj] at e;cases e
  ·rw[Fj] at hc;cases hc
 rcases hx with hk | hk
 ·refine wpAny_storeName_local hk hn (λh' WX hs=>?_) NL
  obtain⟨oL,_,_,Jx,_⟩:=id hn
  refine h _ ⟨I.ok,I.os,I.bare,⟨λb o e n hb hx=>?_,λb o e n hb hx=>?_,I.base.free,λb o e hx=>?_,I.base.gO,I.base.gw,I.base.iu⟩,⟨_,WX,λj y v' e1 e2 e3=>?_⟩,λy c e=>?_,I.free,I.fW,λp hp=>?_,tracked ⟨oL,Jx,I.free⟩ hs,by simpa using I.len⟩ ⟨_,hs,.inl rfl⟩
  ·exact(hs.2 b (aaj (aat (Heap.lt_size e) I.ok.above))).trans (I.base.keep b o e n hb hx)
  ·obtain⟨sl,e1⟩:=I.base.slot b o e n hb hx
   exact⟨sl,(hs.2 b (aaj (aat (Heap.lt_size e) I.ok.above))).trans e1⟩
  ·obtain⟨o',e1⟩:=I.base.there b o e hx
   exact⟨o',(hs.2 b (aaj (aat (Heap.lt_size e) I.ok.above))).trans e1⟩
  ·by_cases hj:j=i
   ·subst hj
    rw[hi] at e1;cases e1
    rw[List.getElem?_set_self UO] at e2
    cases e2
    exact⟨u,r,.inl ⟨hk,by simp⟩⟩
   ·rw[List.getElem?_set_ne (Ne.symm hj)] at e2
    obtain⟨u',r',q⟩:=hl j y v' e1 e2 e3
    refine⟨u',r',?_⟩
    rcases q with ⟨k,e⟩ | ⟨k,c,e,z⟩
    ·refine .inl ⟨k,?_⟩
     have:y≠x:=λe=>hj (u9 hN e1 (e▸hi))
     simp [this,e]
    ·exact .inr ⟨k,c,e,z.sameBut hs (Gr y c e)⟩
  ·obtain⟨w',z⟩:=I.cell y c e
   exact⟨w',z.sameBut hs (Gr y c e)⟩
  ·obtain⟨e,n,ne,nf,d⟩:=I.pin p hp
   exact⟨(hs.2 p.1 ne).trans e,n,ne,nf,d⟩
 ·have NM:X.fn x=true:=by
   rcases hf with z | z
   ·exact z
   ·rw[z] at hk;cases hk
  obtain⟨c,hc⟩:=I.ok.has x (.inl hk)
  obtain⟨w',z⟩:=I.cell x c hc
  refine wpAny_storeName_cell I.ok.kind hk hc z (λh' MJ hs=>?_)
  obtain⟨oc,UP,NN⟩:=id z
  refine h {s with heap:=h'} ⟨I.ok,I.os,I.bare,⟨λb o e n hb hx=>?_,λb o e n hb hx=>?_,I.base.free,λb o e hx=>?_,I.base.gO,I.base.gw,I.base.iu⟩,⟨m,hn.sameBut hs (Ne.symm (Gr x c hc)),λj y v' e1 e2 e3=>?_⟩,λy c' e=>?_,I.free,I.fW,λp hp=>?_,tracked ⟨oc,UP,I.fW x c hc⟩ hs,by simpa using I.len⟩ ⟨c,hs,.inr hc⟩
  ·exact(hs.2 b (aaj (aat (Heap.lt_size e) (I.ok.Gq x c NM hc)))).trans (I.base.keep b o e n hb hx)
  ·obtain⟨sl,e1⟩:=I.base.slot b o e n hb hx
   exact⟨sl,(hs.2 b (aaj (aat (Heap.lt_size e) (I.ok.Gq x c NM hc)))).trans e1⟩
  ·obtain⟨o',e1⟩:=I.base.there b o e hx
   exact⟨o',(hs.2 b (aaj (aat (Heap.lt_size e) (I.ok.Gq x c NM hc)))).trans e1⟩
  ·by_cases hj:j=i
   ·subst hj
    rw[hi] at e1;cases e1
    rw[List.getElem?_set_self UO] at e2
    cases e2
    exact⟨u,r,.inr ⟨.inl hk,c,hc,MJ⟩⟩
   ·rw[List.getElem?_set_ne (Ne.symm hj)] at e2
    obtain⟨u',r',q⟩:=hl j y v' e1 e2 e3
    refine⟨u',r',?_⟩
    rcases q with q | ⟨k,c',e,z'⟩
    ·exact .inl q
    ·refine .inr ⟨k,c',e,z'.sameBut hs ?_⟩
     rintro rfl
     exact hj (u9 hN e1 (I.ok.inj _ _ _ e hc▸hi))
  ·by_cases Jy:c'=c
   ·subst Jy;exact⟨_,MJ⟩
   ·obtain⟨w2,z2⟩:=I.cell y c' e
    exact⟨w2,z2.sameBut hs Jy⟩
  ·obtain⟨e,n,ne,nf,d⟩:=I.pin p hp
   refine⟨(hs.2 p.1 ?_).trans e,n,ne,nf,d⟩
   intro q
   rw[q,UP] at e
   have q':oc=p.2:=aaI e
   exact d w' (by rw[<-q'];exact NN)
theorem pA {M:Model} {A:Around} {E:Value->Shared->Prop} {i:Nat} {x:Str} {v:V} {u:Value} {Q:Unit->Shared->Prop} (I:Inv X pins σ H s) (hN:X.N.Nodup) (hi:X.N[i]?=some x) (hx:Loc X.env.scope x) (r:RelV v u)
  (h:∀s',Inv X pins (σ.set i (some v)) H s'->Q () s') (hf:X.fn x=true\/X.env.scope.names.lookup x=some .local:=by first | exact .inl rfl | exact .inr rfl | assumption):wpAny M A (storeName X.env x u) Q E s:=
 sg I hN hi hx r (λs' I' _=>h s' I') hf
theorem Inv.Fk {s':Shared} {ch:List Addr} (I:Inv X pins σ H s) (ho:s'.os=s.os) (u:Un (dz X.stack) ch H H' s.heap s'.heap) (bP:gi X.prog X.w H' s'.heap) (hg:AllBare s'.gens)
  (Dk:∀b∈ch,(b∈X.ex\/X.s₀.heap.objs.size<=b)/\b≠X.env.locals/\(∀x c,X.env.cells.lookup x=some c->c≠b)/\∀p∈X.pn++pins,p.1≠b):Inv X pins σ H' s':=by
 obtain⟨h',g',d',t',o'⟩:=s'
 have e:o'=s.os:=ho
 subst e
 exact I.call (g':=g') (t':=t') (d':=d') u bP hg Dk
end
abbrev XK:=Value->Option Addr->Hp->Prop
abbrev St:=List (Option V)
abbrev VK:=V->Hp->Prop
abbrev TE:=St->Hp->VK->Prop
abbrev TT:=St->Hp->(Bool->Hp->Prop)->Prop
abbrev TA:=St->Hp->(List V->Hp->Prop)->Prop
structure Ends where
 nx:St->Hp->Prop
 rt:VK
 bk:St->Hp->Prop:=λ_ _=>False
 ct:St->Hp->Prop:=λ_ _=>False
abbrev TS:=Ends->St->Hp->Prop
noncomputable def EP (X:Cx) (pins:List (Addr×Obj)) (σ:St) (Q:VK) (u:Value) (s':Shared):Prop:=∃v H',Inv X pins σ H' s'/\RelV v u/\Q v H'
noncomputable def TP (X:Cx) (pins:List (Addr×Obj)) (σ:St) (Q:Bool->Hp->Prop) (b:Bool) (s':Shared):Prop:=∃H',Inv X pins σ H' s'/\Q b H'
noncomputable def AP (X:Cx) (pins:List (Addr×Obj)) (σ:St) (Q:List V->Hp->Prop) (us:List Value) (s':Shared):Prop:=∃vs H',Inv X pins σ H' s'/\bH vs us/\Q vs H'
noncomputable def SP (X:Cx) (pins:List (Addr×Obj)) (D:Ends) (f:Flow) (s':Shared):Prop:=
 match f with
 | .next=>∃σ' H',Inv X pins σ' H' s'/\D.nx σ' H'
 | .brk=>∃σ' H',Inv X pins σ' H' s'/\D.bk σ' H'
 | .cont=>∃σ' H',Inv X pins σ' H' s'/\D.ct σ' H'
 | .ret u=>∃v σ' H',Inv X pins σ' H' s'/\RelV v u/\D.rt v H'
noncomputable def PE (X:Cx) (e:Expr) (t:TE):Prop:=
 ∀(pins:List (Addr×Obj)) (s:Shared) (σ:St) (H:Hp) (Q:VK),Inv X pins σ H s->t σ H Q->wpAny (model X.prog X.w) X.A (eval e X.env) (EP X pins σ Q) X.xe s
noncomputable def PT (X:Cx) (e:Expr) (t:TT):Prop:=
 ∀(pins:List (Addr×Obj)) (s:Shared) (σ:St) (H:Hp) (Q:Bool->Hp->Prop),Inv X pins σ H s->t σ H Q->wpAny (model X.prog X.w) X.A (isTrue e X.env (eval e X.env)) (TP X pins σ Q) X.xe s
noncomputable def PW (X:Cx) (e:Expr) (t:TT):Prop:=
 ∀(whole:Sem Value) (pins:List (Addr×Obj)) (s:Shared) (σ:St) (H:Hp) (Q:Bool->Hp->Prop),Inv X pins σ H s->t σ H Q->wpAny (model X.prog X.w) X.A (isTrue e X.env whole) (TP X pins σ Q) X.xe s
theorem PW.pt {X:Cx} {e:Expr} {t:TT} (h:PW X e t):PT X e t:=h _
noncomputable def PA (X:Cx) (es:List Expr) (t:TA):Prop:=
 ∀(pos:Pos) (pins:List (Addr×Obj)) (s:Shared) (σ:St) (H:Hp) (Q:List V->Hp->Prop),Inv X pins σ H s->t σ H Q->wpAny (model X.prog X.w) X.A (spliced (backTo pos (starEach es X.env))) (AP X pins σ Q) X.xe s
noncomputable def PS (X:Cx) (st:Stmt) (t:TS):Prop:=
 ∀(pins:List (Addr×Obj)) (s:Shared) (σ:St) (H:Hp) (D:Ends),Inv X pins σ H s->t D σ H->wpAny (model X.prog X.w) X.A (exec st X.env) (SP X pins D) X.xe s
noncomputable def va (X:Cx) (st:List Stmt) (t:TS):Prop:=
 ∀(pins:List (Addr×Obj)) (s:Shared) (σ:St) (H:Hp) (D:Ends),Inv X pins σ H s->t D σ H->wpAny (model X.prog X.w) X.A (execs st X.env) (SP X pins D) X.xe s
theorem cw {α:Type} {t:Sem α} {Q Q':α->Shared->Prop} {M:Model} {A:Around} {E:Value->Shared->Prop} {s:Shared} (h:wpAny M A t Q E s) (hQ:∀a s,Q a s->Q' a s):wpAny M A t Q' E s:=wpAny_mono h hQ λ_ _ x=>x
end L2
namespace L2
open PySem PySem.Spec PyProof.Rows
section
variable {X : Cx}
noncomputable def tVar (i:Nat):TE:=λσ H Q=>∃v,σ[i]?=some (some v)/\Q v H
noncomputable def tC (v:V):TE:=λ_ H Q=>Q v H
theorem Gs {i:Nat} {x:Str} {pos:Pos} (hN:X.N[i]?=some x) (hv:NG X.env.scope x) (hd:(x==("__debug__":Str))=false:=by decide) (Ac:(x==("__classdict__":Str))=false:=by decide):PE X (.Name x pos) (tVar i):=by
 intro pins s σ H Q I h
 obtain⟨v,e,h⟩:=h
 obtain⟨m,hn,hl⟩:=I.loc
 obtain⟨u,r,l⟩:=hl i x v hN e hv
 have fin:EP X pins σ Q u s:=⟨v,H,I,r,h⟩
 rcases l with ⟨hk,hm⟩ | ⟨hk,c,hc,Fl⟩
 ·exact wpAny_Name (wpAny_loadName_local I.ok.kind hk hn hm fin) hd
 ·rcases hk with hk | hk
  ·exact wpAny_Name (wpAny_loadName_cell I.ok.kind hk hc Fl fin) hd
  ·exact wpAny_Name (wpAny_loadName_free I.ok.kind hk hc Fl fin Ac) hd
theorem ae {i j pos}:PE X (.Constant (.int i) j pos) (tC (.int i)):=λ_ _ _ H _ I h=>wpAny_Constant_int ⟨.int i,H,I.tok _,⟨_,rfl⟩,h⟩
theorem eU {b j pos}:PE X (.Constant (.bool b) j pos) (tC (.bl b)):=λ_ _ _ H _ I h=>Constant_bool ⟨.bl b,H,I,rfl,h⟩
theorem fE {j pos}:PE X (.Constant .none j pos) (tC .de):=λ_ _ _ H _ I h=>Constant_none ⟨.de,H,I,rfl,h⟩
theorem aJ {x j pos}:PE X (.Constant (.str x) j pos) (tC (.str x)):=λ_ _ _ H _ I h=>Calls.Constant_str ⟨.str x,H,I.tok _,⟨_,rfl⟩,h⟩
noncomputable def Gl (X:Cx) (x:Str):Prop:=X.env.kindOf x=some .globalImplicit
theorem gP {E:Value->Shared->Prop} {pins:List (Addr×Obj)} {s:Shared} {σ:St} {H:Hp} {x:Str} {u:Value} {pos:Pos} {Q:Value->Shared->Prop} (I:Inv X pins σ H s) (hg:Gl X x) (hm:X.mg x=some u) (h:Q u s)
  (hd:(x==("__debug__":Str))=false:=by decide):wpAny (model X.prog X.w) X.A (eval (.Name x pos) X.env) Q E s:=
 Calls.Name_function_global I.ok.kind hg (Calls.loadGlobal_global (by rw[I.ok.glob];exact I.mod.glob.keeps I.bk) hm h) hd
theorem iz {E:Value->Shared->Prop} {pins:List (Addr×Obj)} {s:Shared} {σ:St} {H:Hp} {x:Str} {u:Value} {pos:Pos} {Q:Value->Shared->Prop} (I:Inv X pins σ H s) (hg:Gl X x) (hm:X.mg x=none) (hv:bootBuiltins x=some u) (h:Q u s)
  (hn:x≠"__name__":=by decide) (hd:(x==("__debug__":Str))=false:=by decide):wpAny (model X.prog X.w) X.A (eval (.Name x pos) X.env) Q E s:=by
 obtain⟨mb,h1,h2⟩:=I.mod.blt
 exact Calls.Name_function_global I.ok.kind hg (Calls.loadGlobal_builtin (by rw[I.ok.glob];exact I.mod.glob.keeps I.bk) hm (by rw[I.ok.blt];exact h1.keeps I.bk) ((h2 x hn).trans hv) h) hd
theorem DI {x:Str} {v:V} {u:Value} {pos:Pos} (hg:Gl X x) (hm:X.mg x=some u) (r:RelV v u) (hd:(x==("__debug__":Str))=false:=by decide):PE X (.Name x pos) (tC v):=
 λ_ _ _ H _ I h=>gP I hg hm ⟨v,H,I,r,h⟩ hd
theorem yX {x:Str} {v:V} {u:Value} {pos:Pos} (hg:Gl X x) (hm:X.mg x=none) (hv:bootBuiltins x=some u) (r:RelV v u) (hn:x≠"__name__":=by decide) (hd:(x==("__debug__":Str))=false:=by decide):PE X (.Name x pos) (tC v):=
 λ_ _ _ H _ I h=>iz I hg hm hv ⟨v,H,I,r,h⟩ hn hd
noncomputable def WY (ta tb:TE) (k:Int->Int->Hp->Prop):St->Hp->Prop:=λσ H=>ta σ H λx H1=>tb σ H1 λy H2=>∃i j,x=.int i/\y=.int j/\k i j H2
variable {a b : Expr} {ta tb : TE} {pos : Pos}
noncomputable def PC (X:Cx) (op:CmpOp) (a b:Expr) (t:TE):Prop:=
 ∀(pins:List (Addr×Obj)) (s:Shared) (σ:St) (H:Hp) (Q:VK),Inv X pins σ H s->t σ H Q->
  wpAny (model X.prog X.w) X.A (eval a X.env) (λv s₁=>wpAny (model X.prog X.w) X.A (eval b X.env) (λu s₂=>wpAny (model X.prog X.w) X.A (compareOp op v u) (EP X pins σ Q) X.xe s₂) X.xe s₁) X.xe s
theorem Bp (b:Expr) {op:CmpOp} (h:op≠.In) (h2:op≠.NotIn):behindInMarks op b=false:=by
 have e1:(op==CmpOp.In)=false:=by cases op <;>first | rfl | exact absurd rfl h
 have e2:(op==CmpOp.NotIn)=false:=by cases op <;>first | rfl | exact absurd rfl h2
 cases b <;>simp [behindInMarks,e1,e2]
noncomputable def Ad (p:Int->Int->Bool) (ta tb:TE):TE:=λσ H Q=>WY ta tb (λi j H2=>Q (.bl (p i j)) H2) σ H
abbrev tLt:TE->TE->TE:=Ad λi j=>decide (i<j)
abbrev tLe:TE->TE->TE:=Ad λi j=>decide (i<=j)
abbrev tGt:TE->TE->TE:=Ad λi j=>decide (j<i)
abbrev tGe:TE->TE->TE:=Ad λi j=>decide (j<=i)
abbrev WZ:TE->TE->TE:=Ad λi j=>decide (i=j)
abbrev W2:TE->TE->TE:=Ad λi j=>!decide (i=j)
noncomputable def tB (t:TE):TT:=λσ H Q=>t σ H λx H1=>∃c,x=.bl c/\Q c H1
theorem tL {op:CmpOp} {t:TE} (h:PC X op a b t) (h1:behindInMarks op b=false:=by first | exact Bp _ (by decide) (by decide) | rfl):PT X (.Compare a [op] [b] pos) (tB t):=by
 intro pins s σ H Q I hw
 refine wpAny_isTrue_Compare1 (cw (h pins s σ H _ I hw) λv s1 h1=>cw h1 λu s2 h2=>cw h2 λc s3 ⟨x,H1,I1,r1,q1⟩=>?_) h1
 obtain⟨d,rfl,q⟩:=q1
 cases r1
 exact wpAny_truthy_bool ⟨H1,I1,q⟩
theorem pB {e:Expr} {t:TE} (h:PE X e t) (he:∀whole,isTrue e X.env whole=(do let v <-whole;standAt e.pos;holding [v] (truthy v)):=by intro _;rfl):PT X e (tB t):=by
 intro pins s σ H Q I hw
 refine isTrue_plain (cw (h pins s σ H _ I hw) λv s1 ⟨x,H1,I1,r1,q1⟩=>?_) (he _)
 obtain⟨d,rfl,q⟩:=q1
 cases r1
 exact wpAny_truthy_bool ⟨H1,I1,q⟩
variable {tA MK : TT} {rest : List Expr}
noncomputable def tAnd (t u:TT):TT:=λσ H Q=>t σ H λc H1=>if c=true then u σ H1 Q else Q false H1
noncomputable def tOr (t u:TT):TT:=λσ H Q=>t σ H λc H1=>if c=true then Q true H1 else u σ H1 Q
noncomputable def tNot (t:TT):TT:=λσ H Q=>t σ H λc H1=>Q (!c) H1
theorem pw_and1 (ha:PT X a tA):PW X (.BoolOp .And [a] pos) tA:=by
 intro wh pins s σ H Q I h
 refine isTrue_and (cw (ha pins s σ H Q I h) λc s1 e=>?_)
 cases c with
 | true=>exact isTrue_and_nil e
 | false=>exact e
theorem pw_or1 (ha:PT X a tA):PW X (.BoolOp .Or [a] pos) tA:=by
 intro wh pins s σ H Q I h
 refine isTrue_or (cw (ha pins s σ H Q I h) λc s1 e=>?_)
 cases c with
 | false=>exact isTrue_or_nil e
 | true=>exact e
theorem pw_and (ha:PT X a tA) (hb:PW X (.BoolOp .And (b::rest) pos) MK):PW X (.BoolOp .And (a::b::rest) pos) (tAnd tA MK):=by
 intro wh pins s σ H Q I h
 refine isTrue_and (cw (ha pins s σ H _ I h) λc s1 ⟨H1,I1,q1⟩=>?_)
 cases c with
 | true=>exact hb wh pins s1 σ H1 Q I1 q1
 | false=>exact⟨H1,I1,q1⟩
theorem pw_or (ha:PT X a tA) (hb:PW X (.BoolOp .Or (b::rest) pos) MK):PW X (.BoolOp .Or (a::b::rest) pos) (tOr tA MK):=by
 intro wh pins s σ H Q I h
 refine isTrue_or (cw (ha pins s σ H _ I h) λc s1 ⟨H1,I1,q1⟩=>?_)
 cases c with
 | true=>exact⟨H1,I1,q1⟩
 | false=>exact hb wh pins s1 σ H1 Q I1 q1
theorem xc (ha:PT X a tA):PT X (.UnaryOp .Not a pos) (tNot tA):=by
 intro pins s σ H Q I h
 exact isTrue_not (ha pins s σ H (λc H1=>Q (!c) H1) I h)
noncomputable def tAndV (ta tb:TE):TE:=λσ H Q=>ta σ H λx H1=>∃c,x=.bl c/\if c=true then tb σ H1 Q else Q (.bl false) H1
noncomputable def tOrV (ta tb:TE):TE:=λσ H Q=>ta σ H λx H1=>∃c,x=.bl c/\if c=true then Q (.bl true) H1 else tb σ H1 Q
noncomputable def tNotV (ta:TE):TE:=λσ H Q=>ta σ H λx H1=>∃c,x=.bl c/\Q (.bl (!c)) H1
noncomputable def tIf (t:TT) (ta tb:TE):TE:=λσ H Q=>t σ H λc H1=>if c=true then ta σ H1 Q else tb σ H1 Q
theorem lH {c:Expr} (hc:PT X c tA) (ha:PE X a ta) (hb:PE X b tb):PE X (.IfExp c a b pos) (tIf tA ta tb):=by
 intro pins s σ H Q I h
 refine wpAny_IfExp (cw (hc pins s σ H _ I h) λd s1 ⟨H1,I1,q1⟩=>?_)
 cases d with
 | true=>exact ha pins s1 σ H1 Q I1 q1
 | false=>exact hb pins s1 σ H1 Q I1 q1
end
end L2
namespace L2
open PySem PySem.Spec PyProof.Rows
noncomputable def bN (K:PySem.W.Frag) (H:Hp) (a:Addr) (xs:List V):Prop:=
 Rd H a (.lst xs)\/
  ∃(o:Obj) (bz:Array Value) (n:Nat),K.lookup a=some o/\o.cls=.type "list"/\o.dict=none/\o.data=.seq bz n/\bz.size<=sizeLine/\bH xs bz.toList
noncomputable def hX (K:PySem.W.Frag) (H:Hp) (a:Addr) (xs:List V):Prop:=
 Rd H a (.tup xs)\/
  ∃(o:Obj) (bz:Array Value) (n:Nat),K.lookup a=some o/\o.cls=.type "tuple"/\o.data=.seq bz n/\bz.size<=sizeLine/\bH xs bz.toList
noncomputable def NO:Value->Option V
 | .none=>some .de
 | .bool b=>some (.bl b)
 | .int i _=>some (.int i)
 | .str x _=>some (.str x)
 | .bytes b _=>some (.A9 b)
 | .float b _=>some (.Gi b)
 | .ref a=>some (.ref a)
 | .type n=>some (.ty n)
 | _=>none
theorem RelV.abs {x:V} {u:Value} (r:RelV x u):NO u=some x:=by
 cases x with
 | de=>cases r;rfl
 | bl _=>cases r;rfl
 | int _=>obtain⟨t,rfl⟩:=r;rfl
 | str _=>obtain⟨t,rfl⟩:=r;rfl
 | A9 _=>obtain⟨t,rfl⟩:=r;rfl
 | Gi _=>obtain⟨t,rfl⟩:=r;rfl
 | ref _=>cases r;rfl
 | ty _=>cases r;rfl
theorem RelV.inj {x y:V} {u:Value} (r:RelV x u) (q:RelV y u):x=y:=aaI (r.abs.symm.trans q.abs)
theorem bH.inj:∀{xs ys:List V} {us:List Value},bH xs us->bH ys us->xs=ys
 | _,_,_,.nil,.nil=>rfl
 | _,_,_,.cons r t,.cons r' t'=>by rw[r.inj r',bH.inj t t']
section
variable {X : Cx} {pins : List (Addr × Obj)} {σ : St} {H : Hp} {s : Shared} {a : Addr} {xs ys : List V}
theorem bN.of {K:PySem.W.Frag} (h:H a=some (.lst xs)):bN K H a xs:=.inl (.inl h)
theorem hX.of {K:PySem.W.Frag} (h:H a=some (.tup xs)):hX K H a xs:=.inl (.inl h)
theorem Inv.list (I:Inv X pins σ H s) (h:bN X.K H a xs):∃bz:List Value,bH xs bz/\PlainL s.heap a bz.toArray/\xs.length<=sizeLine:=by
 rcases h with h | ⟨o,bz,n,hk,hc,hd,hs,hz,r⟩
 ·obtain⟨z,bz,n,r,e⟩:=h.ok I.bP
  exact⟨bz,r,⟨_,n,e,rfl,rfl,rfl⟩,z⟩
 ·refine⟨bz.toList,r,⟨o,n,I.lF a o hk,hc,hd,by simpa using hs⟩,?_⟩
  have e:=r.length
  simp only[Array.length_toList] at e
  omega
theorem Inv.tuple (I:Inv X pins σ H s) (h:hX X.K H a xs):∃bz:List Value,bH xs bz/\IsTup s.heap a bz.toArray/\xs.length<=sizeLine:=by
 rcases h with h | ⟨o,bz,n,hk,hc,hs,hz,r⟩
 ·obtain⟨z,bz,r,p⟩:=h.ok I.bP
  exact⟨bz,r,p,z⟩
 ·refine⟨bz.toList,r,⟨o,I.lF a o hk,hc,n,by simpa using hs⟩,?_⟩
  have e:=r.length
  simp only[Array.length_toList] at e
  omega
theorem Inv.vb (I:Inv X pins σ H s) (h:bN X.K H a xs) (h':bN X.K H a ys):xs=ys:=by
 obtain⟨bz,r,⟨o,n,e,_,_,d⟩,_⟩:=I.list h
 obtain⟨its',r',⟨o',n',e',_,_,d'⟩,_⟩:=I.list h'
 rw[e] at e';cases e'
 rw[d] at d'
 injection d' with d1 _
 have:bz=its':=by simpa using congrArg Array.toList d1
 subst this
 exact r.inj r'
end
abbrev Cx.js (X:Cx) (E:Value->Shared->Prop):Cx:={X with xe:=E}
abbrev Cx.IV (X:Cx):Cx:=X.js λ_ _=>False
theorem Cx.Ok.js {X:Cx} (ok:X.Ok) (E:Value->Shared->Prop):(X.js E).Ok:=
 ⟨ok.mod,ok.kind,ok.glob,ok.blt,ok.above,ok.inj,ok.has,ok.Gq,ok.hd,ok.frames,ok.IU,ok.MH,ok.bs,ok.Bo,ok.xb,ok.Ab,ok.lE,ok.DG⟩
theorem Cx.Ok.eM {X:Cx} {E:Value->Shared->Prop} (ok:(X.js E).Ok):X.Ok:=
 ⟨ok.mod,ok.kind,ok.glob,ok.blt,ok.above,ok.inj,ok.has,ok.Gq,ok.hd,ok.frames,ok.IU,ok.MH,ok.bs,ok.Bo,ok.xb,ok.Ab,ok.lE,ok.DG⟩
section
variable {X : Cx} {pins : List (Addr × Obj)} {σ : St} {H : Hp} {s : Shared} {E : Value -> Shared -> Prop}
theorem Inv.js (I:Inv X pins σ H s) (E:Value->Shared->Prop):Inv (X.js E) pins σ H s:=⟨I.ok.js E,I.os,I.bare,I.base,I.loc,I.cell,I.free,I.fW,I.pin,I.bP,I.len⟩
theorem Inv.eM (I:Inv (X.js E) pins σ H s):Inv X pins σ H s:=⟨I.ok.eM,I.os,I.bare,I.base,I.loc,I.cell,I.free,I.fW,I.pin,I.bP,I.len⟩
theorem SP.eM {D:Ends} {f:Flow} {s':Shared} (h:SP (X.js E) pins D f s'):SP X pins D f s':=by
 cases f with
 | next=>obtain⟨σ',H',I,q⟩:=h;exact⟨σ',H',I.eM,q⟩
 | brk=>obtain⟨σ',H',I,q⟩:=h;exact⟨σ',H',I.eM,q⟩
 | cont=>obtain⟨σ',H',I,q⟩:=h;exact⟨σ',H',I.eM,q⟩
 | ret u=>obtain⟨v,σ',H',I,r,q⟩:=h;exact⟨v,σ',H',I.eM,r,q⟩
theorem va.IV {st:List Stmt} {t:TS} (h:va X.IV st t):va X st t:=λpins s σ H D I hw=>
 wpAny_mono (h pins s σ H D (I.js _) hw) (λ_ _ q=>q.eM) λ_ _ z=>False.elim z
end
section
variable {X : Cx} {st : Stmt} {rest : List Stmt} {t u : TS} {e : Expr} {te : TE} {pos : Pos}
noncomputable def tNext:TS:=λD σ H=>D.nx σ H
noncomputable def tSeq (t u:TS):TS:=λD σ H=>t {D with nx:=u D} σ H
theorem bj:va X [] tNext:=λ_ _ σ H _ I h=>wpAny_execs_nil ⟨σ,H,I,h⟩
theorem ai (h1:PS X st t) (h2:va X rest u):va X (st::rest) (tSeq t u):=by
 intro pins s σ H D I h
 refine wpAny_execs_cons (cw (h1 pins s σ H {D with nx:=u D} I h) λf s1 q=>?_)
 cases f with
 | next=>
  obtain⟨σ',H',I',q⟩:=q
  exact h2 pins s1 σ' H' D I' q
 | ret v=>exact q
 | brk=>exact q
 | cont=>exact q
theorem aA (h1:PS X st t):va X [st] t:=by
 intro pins s σ H D I h
 refine wpAny_execs_cons (cw (h1 pins s σ H D I h) λf s1 q=>?_)
 cases f with
 | next=>exact wpAny_execs_nil q
 | ret v=>exact q
 | brk=>exact q
 | cont=>exact q
noncomputable def Gu:TS:=λD σ H=>D.bk σ H
theorem Bq:PS X (.Break pos) Gu:=λ_ _ σ H _ I h=>wpAny_Break ⟨σ,H,I,h⟩
theorem Inv.quiet {pins:List (Addr×Obj)} {σ:St} {H:Hp} {s:Shared} (I:Inv X pins σ H s):interactive X.env=false:=by simp [interactive,I.ok.kind]
noncomputable def tDrop (te:TE):TS:=λD σ H=>te σ H λ_ H1=>D.nx σ H1
theorem bX (he:PE X e te) (hs:swapsWith e none pos.line X.env=pure false:=by rfl):PS X (.Expr e pos) (tDrop te):=by
 intro pins s σ H D I h
 exact wpAny_Expr_any (cw (he pins s σ H _ I h) λv s1 ⟨x,H1,I1,r1,q1⟩=>⟨σ,H1,I1,q1⟩) I.quiet hs
noncomputable def tRet (te:TE):TS:=λD σ H=>te σ H D.rt
theorem bf (he:PE X e te):PS X (.Return (some e) pos) (tRet te):=by
 intro pins s σ H D I h
 exact wpAny_Return_some (cw (he pins s σ H _ I h) λv s1 ⟨x,H1,I1,r1,q1⟩=>⟨x,σ,H1,I1,r1,q1⟩)
noncomputable def tRetN:TS:=λD _ H=>D.rt .de H
noncomputable def tIfS (c:TT) (t u:TS):TS:=λD σ H=>c σ H λb H1=>if b=true then t D σ H1 else u D σ H1
theorem bG {c:Expr} {a b:List Stmt} {tc:TT} (hc:PT X c tc) (ha:va X a t) (hb:va X b u):PS X (.If c a b pos) (tIfS tc t u):=by
 intro pins s σ H D I h
 refine wpAny_If (cw (hc pins s σ H _ I h) λd s1 ⟨H1,I1,q1⟩=>?_)
 cases d with
 | true=>exact ha pins s1 σ H1 D I1 q1
 | false=>exact hb pins s1 σ H1 D I1 q1
end
abbrev TG:=V->St->Hp->(St->Hp->Prop)->Prop
abbrev Br:=List V->St->Hp->(St->Hp->Prop)->Prop
noncomputable def PG (X:Cx) (target:Expr) (t:TG):Prop:=
 ∀(pins:List (Addr×Obj)) (s:Shared) (σ:St) (H:Hp) (v:V) (u:Value) (Q:St->Hp->Prop),Inv X pins σ H s->RelV v u->t v σ H Q->
  wpAny (model X.prog X.w) X.A (assign target X.env u) (λ_ s'=>∃σ' H',Inv X pins σ' H' s'/\Q σ' H') X.xe s
noncomputable def Fm (X:Cx) (ts:List Expr) (t:Br):Prop:=
 ∀(pins:List (Addr×Obj)) (s:Shared) (σ:St) (H:Hp) (vs:List V) (us:List Value) (Q:St->Hp->Prop),Inv X pins σ H s->bH vs us->t vs σ H Q->
  wpAny (model X.prog X.w) X.A (assignInOrder ((assignEach ts X.env).map (·.2)) us) (λ_ s'=>∃σ' H',Inv X pins σ' H' s'/\Q σ' H') X.xe s
abbrev Gv:=V->V->V->Hp->(Hp->Prop)->Prop
noncomputable def Jz (X:Cx) (t:Gv):Prop:=
 ∀(pins:List (Addr×Obj)) (s:Shared) (σ:St) (H:Hp) (o i v:V) (ov iv u:Value) (Q:Hp->Prop),Inv X pins σ H s->RelV o ov->RelV i iv->RelV v u->t o i v H Q->
  wpAny (model X.prog X.w) X.A (setItem ov iv u) (λ_ s'=>∃H',Inv X pins σ H' s'/\Q H') X.xe s
abbrev TIp:=V->V->Hp->VK->Prop
section
variable {X : Cx} {pos : Pos}
noncomputable def gName (i:Nat):TG:=λv σ H Q=>Q (σ.set i (some v)) H
theorem aT {i:Nat} {x:Str} (hN:X.N.Nodup) (hi:X.N[i]?=some x) (hx:Loc X.env.scope x) (hf:X.fn x=true\/X.env.scope.names.lookup x=some .local:=by first | exact .inl rfl | exact .inr rfl | assumption):PG X (.Name x pos) (gName i):=by
 intro pins s σ H v u Q I r h
 exact wpAny_assign_Name (pA I hN hi hx r (λs' I'=>⟨_,H,I',h⟩) hf)
noncomputable def gNil:Br:=λvs σ H Q=>vs=[]/\Q σ H
noncomputable def gCons (t:TG) (u:Br):Br:=λvs σ H Q=>∃v r,vs=v::r/\t v σ H λσ' H'=>u r σ' H' Q
theorem cU:Fm X [] gNil:=by
 intro pins s σ H vs us Q I r h
 obtain⟨e,h⟩:=h
 subst e
 cases r
 exact assignInOrder_nil ⟨σ,H,I,h⟩
theorem bu {e:Expr} {es:List Expr} {t:TG} {u:Br} (h1:PG X e t) (h2:Fm X es u)
  (hs:(assignEach (e::es) X.env).map (·.2)=assign e X.env::(assignEach es X.env).map (·.2):=by rfl):Fm X (e::es) (gCons t u):=by
 intro pins s σ H vs us Q I r h
 obtain⟨v,vr,e1,h⟩:=h
 subst e1
 cases r with
 | cons r rr=>
  rw[hs]
  refine assignInOrder_cons (cw (h1 pins s σ H _ _ _ I r h) λ_ s1 ⟨σ1,H1,I1,q1⟩=>?_)
  exact h2 pins s1 σ1 H1 _ _ Q I1 rr q1
noncomputable def Bs (K:PySem.W.Frag) (n:Nat) (t:Br):TG:=λv σ H Q=>∃a xs,v=.ref a/\hX K H a xs/\xs.length=n/\t xs σ H Q
theorem Gw {es:List Expr} {k:Nat} {t:Br} {n:Nat} (hc:X.calm=true) (h:Fm X es t)
  (hn:(assignEach es X.env).length=n:=by rfl) (hst:(assignEach es X.env).findIdx? (·.1)=none:=by rfl):PG X (.Tuple es k pos) (Bs X.K n t):=by
 intro pins s σ H v u Q I r hw
 obtain⟨a,xs,e1,hq,hl,hw⟩:=hw
 subst e1
 cases r
 obtain⟨bz,rv,ht,hz⟩:=I.tuple hq
 refine assign_Tuple_tuple (I.ok.hd hc) ht (by simp [hn,<-hl,rv.length]) hst λh' hx=>?_
 have I1:Inv X pins σ H {s with heap:=h'}:=I.kept (t':=s.toks) λb o e=>hx b o (aaj (Heap.lt_size e)) e
 exact h pins _ σ H xs _ Q I1 (by simpa using rv) hw
noncomputable def gSub (to ti:TE) (t:Gv):TG:=λv σ H Q=>to σ H λo H1=>ti σ H1 λi H2=>t o i v H2 λH3=>Q σ H3
theorem pC {o i:Expr} {to ti:TE} {t:Gv} (ho:PE X o to) (hi:PE X i ti) (hs:Jz X t)
  (ha:∀v,assign (.Subscript o i pos) X.env v=(do
   let ov <-holding [v] (eval o X.env)
   let iv <-holding [v,ov] (eval i X.env)
   standAt pos
   holding [v,ov,iv] (setItem ov iv v)
   release [v,ov,iv] []):=by intro _;rfl):PG X (.Subscript o i pos) (gSub to ti t):=by
 intro pins s σ H v u Q I r h
 rw[ha]
 refine wpAny_bind (wpAny_holding (cw (ho pins s σ H _ I h) λov s1 ⟨x,H1,I1,r1,q1⟩=>?_))
 refine wpAny_bind (wpAny_holding (cw (hi pins s1 σ H1 _ I1 q1) λiv s2 ⟨y,H2,I2,r2,q2⟩=>?_))
 refine wpAny_bind (wpAny_standAt (wpAny_bind (wpAny_holding (cw (hs pins s2 σ H2 x y v ov iv u _ I2 r1 r2 r q2) λ_ s3 ⟨H3,I3,q3⟩=>?_))))
 exact wpAny_release ⟨σ,H3,I3,q3⟩
noncomputable def tAsg (te:TE) (g:TG):TS:=λD σ H=>te σ H λx H1=>g x σ H1 D.nx
theorem gQ {tg e:Expr} {te:TE} {g:TG} (he:PE X e te) (hg:PG X tg g) (hs:swapsWithSole [tg] e pos.line X.env=pure false:=by rfl) (hw:swappedStores [tg] e X.env=pure none:=by rfl)
  (h1:(assignEach [tg] X.env).map (·.2)=[assign tg X.env]:=by rfl):PS X (.Assign [tg] e pos) (tAsg te g):=by
 intro pins s σ H D I h
 refine wpAny_Assign_stores (cw (he pins s σ H _ I h) λv s1 ⟨x,H1,I1,r1,q1⟩=>?_) hs hw
 rw[h1]
 exact cw (hg pins s1 σ H1 x v _ I1 r1 q1) λ_ s2 q=>q
theorem aP {i:Nat} {x:Str} {e:Expr} {te:TE} {pos':Pos} (hN:X.N.Nodup) (hi:X.N[i]?=some x) (hx:Loc X.env.scope x) (he:PE X e te) (hs:swapsWith e (some (.Name x pos')) pos.line X.env=pure false:=by rfl) (hf:X.fn x=true\/X.env.scope.names.lookup x=some .local:=by first | exact .inl rfl | exact .inr rfl | assumption):
  PS X (.Assign [.Name x pos'] e pos) (tAsg te (gName i)):=by
 intro pins s σ H D I h
 refine wpAny_Assign_Name (cw (he pins s σ H _ I h) λv s1 ⟨y,H1,I1,r1,q1⟩=>?_) hs
 exact pA I1 hN hi hx r1 (λs2 I2=>⟨_,H1,I2,q1⟩) hf
noncomputable def tPar (i j:Nat) (ta:TA):TS:=λD σ H=>ta σ H λvs H1=>∃v w,vs=[v,w]/\D.nx ((σ.set i (some v)).set j (some w)) H1
end
section
variable {X : Cx} {pos : Pos}
noncomputable def tM (c:TT) (tb:TS):TS:=λD σ H=>∃W:Nat->St->Hp->Prop,(∃m,W m σ H)/\∀m σ H,W m σ H->
 c σ H λb H1=>if b=true then ∃N:St->Hp->Prop,(∀σ' H',N σ' H'->∃m',m'<m/\W m' σ' H')/\tb {D with nx:=N,ct:=N,bk:=D.nx} σ H1 else D.nx σ H1
theorem lI {c:Expr} {body:List Stmt} {tc:TT} {tb:TS} (hp:PassesOwn (model X.prog X.w) X.A X.env X.xe) (hc:PT X c tc) (hb:va X body tb):PS X (.While c body [] pos) (tM tc tb):=by
 intro pins s σ H D I h
 obtain⟨W,⟨m0,w0⟩,turn⟩:=h
 refine wpAny_While (codeAny_whileLoop (λn s'=>∃σ' H',Inv X pins σ' H' s'/\W n σ' H') ?_ m0 ⟨σ,H,I,w0⟩)
 rintro n s1 ⟨σ1,H1,I1,w1⟩
 refine wpAny_passesOwn hp (cw (hc pins s1 σ1 H1 _ I1 (turn n σ1 H1 w1)) λb s2 ⟨H2,I2,q2⟩=>?_)
 cases b with
 | true=>
  obtain⟨N,hN,q2⟩:=q2
  rw[if_pos rfl]
  refine wpAny_passesOwn hp (cw (hb pins s2 σ1 H2 _ I2 q2) λf s3 q3=>?_)
  cases f with
  | next=>
   obtain⟨σ3,H3,I3,n3⟩:=q3
   obtain⟨m',hm,w3⟩:=hN σ3 H3 n3
   exact⟨m',hm,σ3,H3,I3,w3⟩
  | cont=>
   obtain⟨σ3,H3,I3,n3⟩:=q3
   obtain⟨m',hm,w3⟩:=hN σ3 H3 n3
   exact⟨m',hm,σ3,H3,I3,w3⟩
  | brk=>exact q3
  | ret v=>exact q3
 | false=>
  rw[if_neg aau]
  exact wpAny_execs_nil ⟨σ1,H2,I2,q2⟩
end
structure It where
 go:Nat->Hp->Prop
 xf:Nat->Hp->V->Hp->Prop
 stop:Nat->Hp->Prop
noncomputable def jt (X:Cx) (pins:List (Addr×Obj)) (H:Hp) (b:Addr):Prop:=
 H b=none/\b≠X.env.locals/\b∉X.fs/\(b∈X.ex\/X.s₀.heap.objs.size<=b)/\(∀x c,X.env.cells.lookup x=some c->c≠b)/\∀p∈X.pn++pins,p.1≠b
theorem Inv.DJ {X:Cx} {pins:List (Addr×Obj)} {σ:St} {H H':Hp} {s:Shared} {b:Addr} (I:Inv X pins σ H s) (hb:s.heap.objs.size<=b) (hn:H' b=none):jt X pins H' b:=by
 refine⟨hn,Nat.ne_of_gt (aat I.lt hb),I.NI hb,.inr (aax I.sz hb),λx c e z=>?_,λp hp z=>?_⟩
 ·obtain⟨v,q⟩:=I.cell x c e
  exact absurd (aat q.lt (by rw[z];exact hb)) (aaA _)
 ·exact absurd (aat (Heap.lt_size (I.pin p hp).1) (by rw[z];exact hb)) (aaA _)
structure Turn (P:Program) (w:World) (K:PySem.W.Frag) (tg:Expr) (J:It) (fp:List Addr) (it:Addr) (tn:Nat->Heap->Prop):Prop where
 mem:it∈fp
 obj:∀i h,tn i h->∀b∈fp,∃o,h.get? b=some o/\∀v,o.data≠.cell v
 keep:∀i h h',tn i h->(∀b∈fp,∀o,h.get? b=some o->h'.get? b=some o)->tn i h'
 item:∀(X:Cx),X.prog=P->X.w=w->X.K=K->X.calm=true->∀(i:Nat) (pins:List (Addr×Obj)) (s:Shared) (σ:St) (H:Hp) (E:Value->Shared->Prop),Inv X pins σ H s->(∀b∈fp,jt X pins H b)->tn i s.heap->J.go i H->
  wpAny (model P w) X.A (pyNext (.ref it)) (λr s1=>∃u,r=some u/\
   wpAny (model P w) X.A (letOwnedTupleGo tg (.ref it) u) (λ_ s2=>∃x H',Inv X pins σ H' s2/\RelV x u/\J.xf i H x H'/\tn (i+1) s2.heap/\∀b∈fp,H' b=none) E s1) E s
 done:∀(X:Cx),X.prog=P->X.w=w->X.K=K->X.calm=true->∀(i:Nat) (pins:List (Addr×Obj)) (s:Shared) (σ:St) (H:Hp) (E:Value->Shared->Prop),Inv X pins σ H s->(∀b∈fp,jt X pins H b)->tn i s.heap->J.stop i H->
  wpAny (model P w) X.A (pyNext (.ref it)) (λr s1=>r=none/\Inv X pins σ H s1) E s
 self:∀(A:Around) (i:Nat) (s:Shared) (Q:Value->Shared->Prop) (E:Value->Shared->Prop),tn i s.heap->Q (.ref it) s->wpAny (model P w) A (pyIter (.ref it)) Q E s
abbrev TI:=St->Hp->(It->Hp->Prop)->Prop
noncomputable def UQ (X:Cx) (pins:List (Addr×Obj)) (σ:St) (tg:Expr) (R:It->Hp->Prop) (DK:Value) (s2:Shared):Prop:=
 ∃(it:Addr) (fp:List Addr) (tn:Nat->Heap->Prop) (J:It) (H':Hp),DK=.ref it/\Inv X pins σ H' s2/\Turn X.prog X.w X.K tg J fp it tn/\tn 0 s2.heap/\(∀b∈fp,jt X pins H' b)/\R J H'
noncomputable def PI (X:Cx) (tg iter:Expr) (wi:TI):Prop:=
 ∀(pins:List (Addr×Obj)) (s:Shared) (σ:St) (H:Hp) (R:It->Hp->Prop),Inv X pins σ H s->wi σ H R->
  wpAny (model X.prog X.w) X.A (eval iter X.env) (λv s1=>wpAny (model X.prog X.w) X.A (pyIter v) (UQ X pins σ tg R) X.xe s1) X.xe s
theorem Fn {M:Model} {A:Around} {E:Value->Shared->Prop} {s:Shared} {tg:Expr} {it:Addr} {u:Value} {o:Obj} {n:String} {vs:Array Value} {Q:Unit->Shared->Prop} (ho:s.heap.get? it=some o) (hc:o.cls=.type n) (hd:o.data=.fields vs)
  (hn:["enumerate","zip","dict_itemiterator","dict_reverseitemiterator","odict_iterator","itertools.zip_longest","itertools.pairwise"].contains n=false) (hQ:Q () s):wpAny M A (letOwnedTupleGo tg (.ref it) u) Q E s:=by
 unfold letOwnedTupleGo
 cases tg <;>first
  | exact wpAny_pure hQ
  | (cases u <;>first
    | exact wpAny_pure hQ
    | (refine wpAny_bind (wpAny_load ho ?_)
       rw[hc,hd]
       show wpAny M A (if (["enumerate","zip","dict_itemiterator","dict_reverseitemiterator","odict_iterator","itertools.zip_longest","itertools.pairwise"].contains n && vs[0]?==some (rawInt _))=true then _ else _) Q E s
       rw[if_neg (by intro h;rw[hn,Bool.false_and] at h;cases h)]
       exact wpAny_pure hQ))
noncomputable def IW (K:PySem.W.Frag) (a:Addr):It:=
 ⟨λi H=>∃xs x,bN K H a xs/\xs[i]?=some x,λi H x H'=>H'=H/\∀xs,bN K H a xs->xs[i]?=some x,λi H=>∃xs,bN K H a xs/\xs.length<=i⟩
noncomputable def W3 (K:PySem.W.Frag) (a:Addr):It:=
 ⟨λi H=>∃xs x,hX K H a xs/\xs[i]?=some x,λi H x H'=>H'=H/\∀xs,hX K H a xs->xs[i]?=some x,λi H=>∃xs,hX K H a xs/\xs.length<=i⟩
noncomputable def JA (lo:Int) (n:Nat):It:=⟨λi _=>i<n,λi H x H'=>H'=H/\x=.int (lo+i),λi _=>n<=i⟩
theorem Ae {P:Program} {w:World} {K:PySem.W.Frag} {tg:Expr} (a it:Addr):Turn P w K tg (IW K a) [it] it (λi h=>h.IsListIter it a i) where
 mem:=by simp
 obj:=λi h st b hb=>by
  have e:b=it:=by simpa using hb
  subst e
  obtain⟨o,e,c,d⟩:=st
  exact⟨o,e,λv z=>by rw[d] at z;cases z⟩
 keep:=λi h h' st k=>st.at λo e=>k it (by simp) o e
 item:=by
  intro X hP hw hK hc i pins s σ H E I hf st hg
  subst hP hw hK
  obtain⟨xs,x,hq,hx⟩:=hg
  obtain⟨bz,rv,p,hz⟩:=I.list hq
  obtain⟨u,hu,ru⟩:=rv.get hx
  obtain⟨f0,f1,f2,f3,f4,f5⟩:=hf it (by simp)
  refine wpAny_pyNext_list_item st p.isList (x:=u) (by simpa using hu) λh' Bu sb=>?_
  have I1:Inv X pins σ H {s with heap:=h'}:=I.turned (t':=s.toks) (λb o hb e=>(sb.2 b hb).trans e) f0 f1 f3 f4 f5
  obtain⟨o,e,c,d⟩:=id Bu
  exact⟨u,rfl,Fn (s:={s with heap:=h'}) e c d (by decide) ⟨x,H,I1,ru,⟨rfl,λys hy=>by rw[I.vb hy hq];exact hx⟩,Bu,λb hb=>(hf b hb).1⟩⟩
 done:=by
  intro X hP hw hK hc i pins s σ H E I hf st hg
  subst hP hw hK
  obtain⟨xs,hq,hx⟩:=hg
  obtain⟨bz,rv,p,hz⟩:=I.list hq
  obtain⟨f0,f1,f2,f3,f4,f5⟩:=hf it (by simp)
  have hl:=rv.length
  exact wpAny_pyNext_list_end (I.ok.hd hc) st p.isList (by simp;omega) λh' eb=>⟨rfl,I.turned (t':=s.toks) (λb o hb e=>eb b o hb e) f0 f1 f3 f4 f5⟩
 self:=λ_ _ _ _ _ st h=>wpAny_pyIter_listiter st h
theorem xg {P:Program} {w:World} {K:PySem.W.Frag} {tg:Expr} (it:Addr) (lo:Int) (n:Nat):Turn P w K tg (JA lo n) [it] it (λi h=>IsRangeIter h it (lo+ (i:Nat)*1) ((n:Int) - (i:Nat)) 1) where
 mem:=by simp
 obj:=λi h st b hb=>by
  have e:b=it:=by simpa using hb
  subst e
  exact⟨_,st,λv z=>by
   have z':Data.fields _=Data.cell v:=z
   cases z'⟩
 keep:=λi h h' st k=>k it (by simp) _ st
 item:=by
  intro X hP hw hK hc i pins s σ H E I hf st hg
  subst hP hw hK
  obtain⟨f0,f1,f2,f3,f4,f5⟩:=hf it (by simp)
  have W:=Walks.range (prog:=X.prog) (w:=X.w) (I.ok.hd hc) it lo 1 n
  refine W.item i s _ _ hg st λv h' tk hv Bu kk=>?_
  obtain⟨t,rfl⟩:=hv
  have I1:Inv X pins σ H {s with heap:=h',toks:=tk}:=I.turned (λb o hb e=>kk b o (by simpa using hb) e) f0 f1 f3 f4 f5
  refine⟨_,rfl,Fn (s:={s with heap:=h',toks:=tk}) (n:="range_iterator") Bu rfl rfl (by decide) ⟨.int (lo+i),H,I1,⟨t,?_⟩,⟨rfl,rfl⟩,Bu,λb hb=>(hf b hb).1⟩⟩
  rw[Int.mul_one]
 done:=by
  intro X hP hw hK hc i pins s σ H E I hf st hg
  subst hP hw hK
  obtain⟨f0,f1,f2,f3,f4,f5⟩:=hf it (by simp)
  exact wpAny_pyNext_range_end (I.ok.hd hc) st (by have:n<=i:=hg;omega) λh' eb=>⟨rfl,I.turned (t':=s.toks) (λb o hb e=>eb b o hb e) f0 f1 f3 f4 f5⟩
 self:=λ_ _ _ _ _ st h=>wpAny_pyIter_rangeiter st h
end L2
namespace L2
open PySem PySem.Spec PyProof.Rows
section
variable {X : Cx} {tg : Expr}
noncomputable def iList (K:PySem.W.Frag) (tl:TE):TI:=λσ H R=>tl σ H λx H1=>∃a,x=.ref a/\(∃xs,bN K H1 a xs)/\R (IW K a) H1
noncomputable def iTup (K:PySem.W.Frag) (tl:TE):TI:=λσ H R=>tl σ H λx H1=>∃a,x=.ref a/\(∃xs,hX K H1 a xs)/\R (W3 K a) H1
theorem DL {l:Expr} {tl:TE} (hl:PE X l tl):PI X tg l (iList X.K tl):=by
 intro pins s σ H R I h
 refine cw (hl pins s σ H _ I h) λv s1 ⟨x,H1,I1,r1,q1⟩=>?_
 obtain⟨a,e,⟨xs,hq⟩,q⟩:=q1
 subst e
 cases r1
 obtain⟨bz,rv,p,hz⟩:=I1.list hq
 refine wpAny_pyIter_list p.isList ?_
 refine⟨s1.heap.objs.size,[s1.heap.objs.size],_,_,H1,rfl,I1.kept (t':=s1.toks) λb o e=>Heap.get?_push_of_some _ e,Ae a _,⟨_,Heap.get?_push_size _ rfl,rfl,rfl⟩,λb hb=>?_,q⟩
 have e:b=s1.heap.objs.size:=by simpa using hb
 subst e
 exact I1.DJ (aaf _) (I1.bP.fresh (aaf _))
theorem vc {pins:List (Addr×Obj)} {σ:St} {H:Hp} {s:Shared} {R:It->Hp->Prop} {E:Value->Shared->Prop} {lo hi:Int} {t u v:Tok} {tk:Nat} (I:Inv X pins σ H s) (h1:-(2^62)<=lo) (h2:lo<2^62) (h3:-(2^62)<=hi) (h4:hi<2^62)
  (q:R (JA lo (hi - lo).toNat) H):wpAny (model X.prog X.w) X.A (pyIter (.ref s.heap.objs.size)) (UQ X pins σ tg R) E {s with heap:=s.heap.push {cls:=.type "range",data:=.fields #[.int lo t,.int hi u,.int 1 v]},toks:=tk}:=by
 refine wpAny_pyIter_range (IsRange.new ..) (small_one h1 h2 h3 h4) ?_
 have I1:Inv X pins σ H {s with heap:=s.heap.push {cls:=.type "range",data:=.fields #[.int lo t,.int hi u,.int 1 v]},toks:=tk}:=I.kept λb o e=>Heap.get?_push_of_some _ e
 refine⟨(s.heap.push {cls:=.type "range",data:=.fields #[.int lo t,.int hi u,.int 1 v]}).objs.size,[(s.heap.push {cls:=.type "range",data:=.fields #[.int lo t,.int hi u,.int 1 v]}).objs.size],_,_,H,rfl,
  I1.kept (t':=tk) λb o e=>Heap.get?_push_of_some _ e,xg _ lo (hi - lo).toNat,?_,λb hb=>?_,q⟩
 ·have e1:lo+ ((0:Nat):Int)*1=lo:=by simp
  have e2:(((hi - lo).toNat:Nat):Int) - ((0:Nat):Int)=Builtin.Range.rangeSize lo hi 1:=by rw[rangeSize_one];split <;>omega
  show IsRangeIter _ _ (lo+ ((0:Nat):Int)*1) ((((hi - lo).toNat:Nat):Int) - ((0:Nat):Int)) 1
  rw[e1,e2]
  exact Heap.get?_push_size _ rfl
 ·have e:b=(s.heap.push {cls:=.type "range",data:=.fields #[.int lo t,.int hi u,.int 1 v]}).objs.size:=by simpa using hb
  subst e
  exact I1.DJ (aaf _) (I1.bP.fresh (aaf _))
noncomputable def iRng1 (ta:TA):TI:=λσ H R=>ta σ H λvs H1=>∃j:Int,vs=[.int j]/\-(2^62)<=j/\j<2^62/\R (JA 0 j.toNat) H1
noncomputable def iRng2 (ta:TA):TI:=λσ H R=>ta σ H λvs H1=>∃i j:Int,vs=[.int i,.int j]/\(-(2^62)<=i/\i<2^62/\-(2^62)<=j/\j<2^62)/\R (JA i (j - i).toNat) H1
theorem fB {a:Expr} {ta:TA} {p pos:Pos} (hg:Gl X "range") (hm:X.mg "range"=none) (ha:PA X [a] ta) (hs:starEach [a] X.env=[(false,eval a X.env)]:=by rfl):PI X tg (.Call (.Name "range" p) [a] [] pos) (iRng1 ta):=by
 intro pins s σ H R I h
 refine Call_ (iz I hg hm boot_range (PyProof.Rows.callWith_type1 (cw (ha pos pins s σ H _ I h) λus s1 ⟨vs,H1,I1,r1,q1⟩=>?_) hs rfl))
 obtain⟨j,e,q1,q2,q⟩:=q1
 subst e
 cases r1 with
 | cons r rr=>
  cases rr
  obtain⟨t,rfl⟩:=r
  exact call_range_1 (vc I1 (by omega) (by omega) q1 q2 (by simpa using q))
theorem Af {a b:Expr} {ta:TA} {p pos:Pos} (hg:Gl X "range") (hm:X.mg "range"=none) (ha:PA X [a,b] ta) (hs:starEach [a,b] X.env=[(false,eval a X.env),(false,eval b X.env)]:=by rfl) (Gx:starEach [b] X.env=[(false,eval b X.env)]:=by rfl):
  PI X tg (.Call (.Name "range" p) [a,b] [] pos) (iRng2 ta):=by
 intro pins s σ H R I h
 refine Call_ (iz I hg hm boot_range (PyProof.Rows.callWith_type1 (cw (ha pos pins s σ H _ I h) λus s1 ⟨vs,H1,I1,r1,q1⟩=>?_) (by rw[hs,Gx]) (by rw[Gx];rfl)))
 obtain⟨i,j,e,⟨q1,q2,q3,q4⟩,q⟩:=q1
 subst e
 cases r1 with
 | cons r rr=>
  cases rr with
  | cons r' rr=>
   cases rr
   obtain⟨t,rfl⟩:=r
   obtain⟨t',rfl⟩:=r'
   exact call_range_2 (vc I1 q1 q2 q3 q4 q)
noncomputable def JB (wi:TI) (g:TG) (tb:TS):TS:=λD σ H=>wi σ H λJ H1=>∃W:Nat->Nat->St->Hp->Prop,(∃m,W 0 m σ H1)/\∀i m σ H,W i m σ H->
 (J.stop i H/\D.nx σ H)\/(J.go i H/\∃N:St->Hp->Prop,(∀σ' H',N σ' H'->∃m',m'<m/\W (i+1) m' σ' H')/\∀x H',J.xf i H x H'->g x σ H' λσ2 H2=>tb {D with nx:=N,ct:=N,bk:=D.nx} σ2 H2)
noncomputable def pE (fp:List Addr) (h:Heap):List (Addr×Obj):=fp.filterMap λb=>(h.get? b).map λo=>(b,o)
theorem gR {fp:List Addr} {h:Heap} {b:Addr} {o:Obj} (hb:b∈fp) (e:h.get? b=some o):(b,o)∈pE fp h:=List.mem_filterMap.mpr ⟨b,hb,by rw[e];rfl⟩
theorem Ag {fp:List Addr} {h:Heap} {p:Addr×Obj} (hp:p∈pE fp h):p.1∈fp/\h.get? p.1=some p.2:=by
 obtain⟨b,hb,e⟩:=List.mem_filterMap.mp hp
 cases q:h.get? b with
 | none=>rw[q] at e;cases e
 | some o=>
  rw[q] at e
  have e':(b,o)=p:=aaI e
  subst e'
  exact⟨hb,q⟩
theorem Inv.pinned {pins:List (Addr×Obj)} {σ:St} {H:Hp} {s:Shared} {fp:List Addr} (I:Inv X pins σ H s) (hf:∀b∈fp,jt X pins H b) (ho:∀b∈fp,∃o,s.heap.get? b=some o/\∀v,o.data≠.cell v):Inv X (pins++pE fp s.heap) σ H s:=
 I.lG λp hp=>(List.mem_append.mp hp).elim (λz=>I.pin p (aaB _ z)) λz=>by
  obtain⟨hb,e⟩:=Ag z
  obtain⟨f0,f1,f2,_⟩:=hf p.1 hb
  obtain⟨o,e',d⟩:=ho p.1 hb
  rw[e] at e';cases e'
  exact⟨e,f0,f1,f2,d⟩
theorem Inv.pF {pins pl:List (Addr×Obj)} {σ:St} {H:Hp} {s:Shared} (I:Inv X (pins++pl) σ H s):Inv X pins σ H s:=I.lG λp hp=>I.pin p (aaB _ (aaO _ hp))
theorem cQ {iter:Expr} {body:List Stmt} {wi:TI} {g:TG} {tb:TS} {pos:Pos} (hp:PassesOwn (model X.prog X.w) X.A X.env X.xe) (hc:X.calm=true) (hi:PI X tg iter wi) (hg:PG X tg g) (hb:va X body tb)
  (hs:∀x,foldedSetIterable iter X.env x=pure x:=by intro _;rfl):PS X (.For tg iter body [] pos) (JB wi g tb):=by
 intro pins s σ H D I h
 refine wpAny_For (cw (hi pins s σ H _ I h) λv s1 h1=>cw h1 λDK s2 h2=>?_) hs
 obtain⟨it,fp,tn,J,H2,e,I2,T,xh,f2,W,⟨m0,w0⟩,turn⟩:=h2
 subst e
 have xi:∀{H':Hp},(∀b∈fp,H' b=none)->∀b∈fp,jt X pins H' b:=λhn b hb=>⟨hn b hb,(f2 b hb).2⟩
 refine codeAny_forLoop_any (λn s'=>∃i σ' H',Inv X pins σ' H' s'/\tn i s'.heap/\(∀b∈fp,H' b=none)/\W i n σ' H') ?_ m0 ⟨0,σ,H2,I2,xh,λb hb=>(f2 b hb).1,w0⟩
 rintro n s3 ⟨i,σ3,H3,I3,UR,US,w3⟩
 rcases turn i n σ3 H3 w3 with ⟨stop,qn⟩ | ⟨go,N,hN,step⟩
 ·refine wpAny_passesOwn hp (cw (T.done X rfl rfl rfl hc i pins s3 σ3 H3 X.xe I3 (xi US) UR stop) λr s4 ⟨hr,I4⟩=>?_)
  subst hr
  exact wpAny_execs_nil ⟨σ3,H3,I4,qn⟩
 ·refine wpAny_passesOwn hp (cw (T.item X rfl rfl rfl hc i pins s3 σ3 H3 X.xe I3 (xi US) UR go) λr s4 ⟨u,hr,h4⟩=>?_)
  subst hr
  refine wpAny_passesOwn hp (cw h4 λ_ s5 ⟨x,H5,I5,r5,y5,NP,W4⟩=>?_)
  have W5:=I5.pinned (xi W4) (T.obj _ _ NP)
  refine wpAny_passesOwn hp (cw (hg _ s5 σ3 H5 x u _ W5 r5 (step x H5 y5)) λ_ s6 ⟨σ6,H6,I6,q6⟩=>?_)
  refine wpAny_passesOwn hp (cw (hb _ s6 σ6 H6 _ I6 q6) λf s7 q7=>?_)
  have again:∀{σ7:St} {H7:Hp},Inv X (pins++pE fp s5.heap) σ7 H7 s7->N σ7 H7->∃m,m<n/\∃i σ' H',Inv X pins σ' H' s7/\tn i s7.heap/\(∀b∈fp,H' b=none)/\W i m σ' H':=λ{σ7 H7} I7 n7=>by
   obtain⟨m',hm,w7⟩:=hN σ7 H7 n7
   refine⟨m',hm,i+1,σ7,H7,I7.pF,T.keep _ _ _ NP λb hb o e=>(I7.pin (b,o) (aaB _ (aaB _ (gR hb e)))).1,λb hb=>?_,w7⟩
   obtain⟨o,e,d⟩:=T.obj _ _ NP b hb
   exact(I7.pin (b,o) (aaB _ (aaB _ (gR hb e)))).2.1
  cases f with
  | next=>obtain⟨σ7,H7,I7,n7⟩:=q7;exact again I7 n7
  | cont=>obtain⟨σ7,H7,I7,n7⟩:=q7;exact again I7 n7
  | brk=>obtain⟨σ7,H7,I7,q7⟩:=q7;exact⟨σ7,H7,I7.pF,q7⟩
  | ret v=>obtain⟨x7,σ7,H7,I7,r7,q7⟩:=q7;exact⟨x7,σ7,H7,I7.pF,r7,q7⟩
end
theorem Bv {c:TT} {tb:TS} {D:Ends} {σ:St} {H:Hp} (Pv:St->Hp->Prop) (μ:St->Hp->Nat) (h0:Pv σ H)
  (hs:∀σ H,Pv σ H->c σ H λb H1=>if b=true then tb {D with nx:=λσ' H'=>Pv σ' H'/\μ σ' H'<μ σ H,ct:=λσ' H'=>Pv σ' H'/\μ σ' H'<μ σ H,bk:=D.nx} σ H1 else D.nx σ H1)
  (mono:∀σ H Q Q',(∀b H1,Q b H1->Q' b H1)->c σ H Q->c σ H Q'):tM c tb D σ H:=by
 refine⟨λm σ H=>m=μ σ H/\Pv σ H,⟨_,rfl,h0⟩,?_⟩
 rintro m σ H ⟨rfl,p⟩
 refine mono σ H _ _ (λb H1 q=>?_) (hs σ H p)
 cases b with
 | true=>exact⟨_,λσ' H' ⟨p',l⟩=>⟨_,l,rfl,p'⟩,q⟩
 | false=>exact q
end L2
namespace L2
open PySem PySem.Spec PyProof.Rows
abbrev R2:=V->V->Hp->VK->Prop
noncomputable def oi (X:Cx) (f:Value->Value->Sem Value) (r:R2):Prop:=
 ∀(pins:List (Addr×Obj)) (s:Shared) (σ:St) (H:Hp) (x y:V) (v u:Value) (Q:VK),Inv X pins σ H s->RelV x v->RelV y u->r x y H Q->
  wpAny (model X.prog X.w) X.A (f v u) (EP X pins σ Q) X.xe s
noncomputable def ML (X:Cx) (f:Value->Sem Value) (r:V->Hp->VK->Prop):Prop:=
 ∀(pins:List (Addr×Obj)) (s:Shared) (σ:St) (H:Hp) (x:V) (v:Value) (Q:VK),Inv X pins σ H s->RelV x v->r x H Q->
  wpAny (model X.prog X.w) X.A (f v) (EP X pins σ Q) X.xe s
noncomputable def cR (X:Cx) (f:Value) (r:List V->Hp->VK->Prop):Prop:=
 ∀(pins:List (Addr×Obj)) (s:Shared) (σ:St) (H:Hp) (xs:List V) (us:List Value) (Q:VK),Inv X pins σ H s->bH xs us->r xs H Q->
  wpAny (model X.prog X.w) X.A (call f us) (EP X pins σ Q) X.xe s
noncomputable def tOp (r:R2) (ta tb:TE):TE:=λσ H Q=>ta σ H λx H1=>tb σ H1 λy H2=>r x y H2 Q
noncomputable def tUn (r:V->Hp->VK->Prop) (ta:TE):TE:=λσ H Q=>ta σ H λx H1=>r x H1 Q
noncomputable def rI (C:Int->Int->Prop) (g:Int->Int->V):R2:=λx y H Q=>∃i j,x=.int i/\y=.int j/\C i j/\Q (g i j) H
noncomputable def rI0 (g:Int->Int->V):R2:=λx y H Q=>∃i j,x=.int i/\y=.int j/\Q (g i j) H
noncomputable def rU (g:Int->V):V->Hp->VK->Prop:=λx H Q=>∃i,x=.int i/\Q (g i) H
section
variable {X : Cx} {a b c : Expr} {ta tb tc : TE} {pos : Pos}
theorem Gy (ha:PE X a ta) (hb:PE X b tb) {pins:List (Addr×Obj)} {s:Shared} {σ:St} {H:Hp} {R:V->V->Hp->Prop} (I:Inv X pins σ H s)
  (h:ta σ H λx H1=>tb σ H1 λy H2=>R x y H2) {Q:Value->Shared->Prop} {f:Value->Value->Sem Value}
  (hf:∀v u s2 x y H2,Inv X pins σ H2 s2->RelV x v->RelV y u->R x y H2->wpAny (model X.prog X.w) X.A (f v u) Q X.xe s2):
  wpAny (model X.prog X.w) X.A (eval a X.env) (λv s₁=>wpAny (model X.prog X.w) X.A (eval b X.env) (λu s₂=>wpAny (model X.prog X.w) X.A (f v u) Q X.xe s₂) X.xe s₁) X.xe s:=by
 refine cw (ha pins s σ H _ I h) λv s1 ⟨x,H1,I1,r1,q1⟩=>?_
 refine cw (hb pins s1 σ H1 _ I1 q1) λu s2 ⟨y,H2,I2,r2,q2⟩=>?_
 exact hf v u s2 x y H2 I2 r1 r2 q2
theorem aX {op:Operator} {r:R2} (ho:oi X (binaryOp op) r) (ha:PE X a ta) (hb:PE X b tb):PE X (.BinOp a op b pos) (tOp r ta tb):=by
 intro pins s σ H Q I h
 exact wpAny_BinOp (Gy ha hb I h λv u s2 x y H2 I2 rx ry q=>ho pins s2 σ H2 x y v u Q I2 rx ry q)
theorem j1 {op:UnaryOp} {r:V->Hp->VK->Prop} (ho:ML X (unaryOp op) r) (ha:PE X a ta):PE X (.UnaryOp op a pos) (tUn r ta):=by
 intro pins s σ H Q I h
 exact UnaryOp_ (cw (ha pins s σ H _ I h) λv s1 ⟨x,H1,I1,r1,q1⟩=>ho pins s1 σ H1 x v Q I1 r1 q1)
theorem MM {f:Value->Value->Sem Value} {C:Int->Int->Prop} {g:Int->Int->Int}
  (rule:∀(i j:Int) (t u:Tok) (s:Shared) (Q:Value->Shared->Prop) (E:Value->Shared->Prop),C i j->Q (.int (g i j) s.toks) {s with toks:=s.toks+1}->wpAny (model X.prog X.w) X.A (f (.int i t) (.int j u)) Q E s):
  oi X f (rI C λi j=>.int (g i j)):=by
 intro pins s σ H x y v u Q I rx ry h
 obtain⟨i,j,rfl,rfl,hc,q⟩:=h
 obtain⟨t,rfl⟩:=rx
 obtain⟨t',rfl⟩:=ry
 exact rule i j t t' s _ _ hc ⟨.int (g i j),H,I.tok _,⟨_,rfl⟩,q⟩
theorem JC {f:Value->Value->Sem Value} {g:Int->Int->Int}
  (rule:∀(i j:Int) (t u:Tok) (s:Shared) (Q:Value->Shared->Prop) (E:Value->Shared->Prop),Q (.int (g i j) s.toks) {s with toks:=s.toks+1}->wpAny (model X.prog X.w) X.A (f (.int i t) (.int j u)) Q E s):
  oi X f (rI0 λi j=>.int (g i j)):=by
 intro pins s σ H x y v u Q I rx ry h
 obtain⟨i,j,rfl,rfl,q⟩:=h
 obtain⟨t,rfl⟩:=rx
 obtain⟨t',rfl⟩:=ry
 exact rule i j t t' s _ _ ⟨.int (g i j),H,I.tok _,⟨_,rfl⟩,q⟩
theorem DM {f:Value->Value->Sem Value} {g:Int->Int->Bool}
  (rule:∀(i j:Int) (t u:Tok) (s:Shared) (Q:Value->Shared->Prop) (E:Value->Shared->Prop),Q (.bool (g i j)) s->wpAny (model X.prog X.w) X.A (f (.int i t) (.int j u)) Q E s):
  oi X f (rI0 λi j=>.bl (g i j)):=by
 intro pins s σ H x y v u Q I rx ry h
 obtain⟨i,j,rfl,rfl,q⟩:=h
 obtain⟨t,rfl⟩:=rx
 obtain⟨t',rfl⟩:=ry
 exact rule i j t t' s _ _ ⟨.bl (g i j),H,I,rfl,q⟩
noncomputable def CPow (i j:Int):Prop:=0<=j/\j<=1000000/\i.natAbs<2^64
theorem bV:oi X (binaryOp .Add) (rI0 λi j=>.int (i+j)):=JC λ_ _ _ _ _ _ _ q=>add_int q
theorem xj:oi X (binaryOp .Sub) (rI0 λi j=>.int (i - j)):=JC λ_ _ _ _ _ _ _ q=>sub_int q
theorem Gz:oi X (binaryOp .Mod) (rI (λ_ j=>0<j) λi j=>.int (i % j)):=MM λi j _ _ _ _ _ hc q=>by
 have h1:(0:Int)<j:=hc
 exact mod_int' (by omega) (by rw[Int.fmod_eq_emod_of_nonneg i (by omega)];exact q)
theorem W6 {f:Value->Sem Value} {g:Int->Int}
  (rule:∀(i:Int) (t:Tok) (s:Shared) (Q:Value->Shared->Prop) (E:Value->Shared->Prop),Q (.int (g i) s.toks) {s with toks:=s.toks+1}->wpAny (model X.prog X.w) X.A (f (.int i t)) Q E s):
  ML X f (rU λi=>.int (g i)):=by
 intro pins s σ H x v Q I rx h
 obtain⟨i,rfl,q⟩:=h
 obtain⟨t,rfl⟩:=rx
 exact rule i t s _ _ ⟨.int (g i),H,I.tok _,⟨_,rfl⟩,q⟩
theorem gj:ML X (unaryOp .USub) (rU λi=>.int (-i)):=W6 λ_ _ _ _ _ q=>neg_int q
end
noncomputable def scal:V->V->Bool
 | .de,.de=>true | .de,.int _=>true | .int _,.de=>true | .de,.bl _=>true | .bl _,.de=>true | .de,.str _=>true | .str _,.de=>true
 | .int _,.int _=>true | .bl _,.bl _=>true | .str _,.str _=>true | .A9 _,.A9 _=>true
 | .int _,.str _=>true | .str _,.int _=>true | .bl _,.str _=>true | .str _,.bl _=>true
 | _,_=>false
noncomputable def rEq:R2:=λx y H Q=>scal x y=true/\Q (.bl (decide (x=y))) H
noncomputable def rNe:R2:=λx y H Q=>scal x y=true/\Q (.bl (!decide (x=y))) H
theorem yY {i j:Int}:decide (V.int i=V.int j)=(i==j):=by
 rw[Bool.eq_iff_iff]
 simp
theorem Bw {i j:Bool}:decide (V.bl i=V.bl j)=(i==j):=by
 rw[Bool.eq_iff_iff]
 simp
theorem yZ {i j:Str}:decide (V.str i=V.str j)=(i==j):=by
 rw[Bool.eq_iff_iff]
 simp
theorem y3 {i j:Array UInt8}:decide (V.A9 i=V.A9 j)=(i.toList==j.toList):=by
 rw[Bool.eq_iff_iff]
 cases i
 cases j
 simp
section
variable {X : Cx} {a b c : Expr} {ta tb tc : TE} {pos : Pos}
theorem bY {pins:List (Addr×Obj)} {σ:St} {H:Hp} {s:Shared} {Q:VK} {k k':Bool} (I:Inv X pins σ H s) (q:Q (.bl k) H) (e:k=k'):EP X pins σ Q (.bool k') s:=by
 subst e
 exact⟨.bl k,H,I,rfl,q⟩
theorem bW:oi X (compareOp .Eq) rEq:=by
 intro pins s σ H x y v u Q I rx ry h
 obtain⟨hs,q⟩:=h
 cases x with
 | de=>
  cases rx
  cases y with
  | de=>cases ry;exact PySem.EqNone.eq_none_none (bY I q (by simp))
  | bl j=>cases ry;exact PySem.EqNone.eq_none_bool (bY I q (by simp))
  | int j=>obtain⟨t',rfl⟩:=ry;exact PySem.EqNone.eq_none_int (bY I q (by simp))
  | str j=>obtain⟨t',rfl⟩:=ry;exact PySem.EqNone.eq_none_str (bY I q (by simp))
  | _=>exact absurd (show false=true from hs) aau
 | bl i=>
  cases rx
  cases y with
  | de=>cases ry;exact PySem.EqNone.eq_bool_none (bY I q (by simp))
  | bl j=>cases ry;exact eq_bool (bY I q Bw)
  | str j=>obtain⟨t',rfl⟩:=ry;exact PySem.EqMixed.eq_bool_str (bY I q (by simp))
  | _=>exact absurd (show false=true from hs) aau
 | int i=>
  obtain⟨t,rfl⟩:=rx
  cases y with
  | de=>cases ry;exact PySem.EqNone.eq_int_none (bY I q (by simp))
  | int j=>obtain⟨t',rfl⟩:=ry;exact eq_int (bY I q yY)
  | str j=>obtain⟨t',rfl⟩:=ry;exact PySem.EqMixed.eq_int_str (bY I q (by simp))
  | _=>exact absurd (show false=true from hs) aau
 | str i=>
  obtain⟨t,rfl⟩:=rx
  cases y with
  | de=>cases ry;exact PySem.EqNone.eq_str_none (bY I q (by simp))
  | bl j=>cases ry;exact PySem.EqMixed.eq_str_bool (bY I q (by simp))
  | int j=>obtain⟨t',rfl⟩:=ry;exact PySem.EqMixed.eq_str_int (bY I q (by simp))
  | str j=>obtain⟨t',rfl⟩:=ry;exact eq_str (bY I q yZ)
  | _=>exact absurd (show false=true from hs) aau
 | A9 i=>
  obtain⟨t,rfl⟩:=rx
  cases y with
  | A9 j=>obtain⟨t',rfl⟩:=ry;exact PySem.W.eq_bytes (bY I q y3)
  | _=>exact absurd (show false=true from hs) aau
 | _=>cases y <;>exact absurd (show false=true from hs) aau
theorem oj:oi X (compareOp .NotEq) rNe:=by
 intro pins s σ H x y v u Q I rx ry h
 obtain⟨hs,q⟩:=h
 cases x with
 | de=>
  cases rx
  cases y with
  | de=>cases ry;exact PySem.EqNone.ne_none_none (bY I q (by simp))
  | bl j=>cases ry;exact PySem.EqNone.ne_none_bool (bY I q (by simp))
  | int j=>obtain⟨t',rfl⟩:=ry;exact PySem.EqNone.ne_none_int (bY I q (by simp))
  | str j=>obtain⟨t',rfl⟩:=ry;exact PySem.EqNone.ne_none_str (bY I q (by simp))
  | _=>exact absurd (show false=true from hs) aau
 | bl i=>
  cases rx
  cases y with
  | de=>cases ry;exact PySem.EqNone.ne_bool_none (bY I q (by simp))
  | bl j=>cases ry;exact ne_bool (bY I q (congrArg not Bw))
  | str j=>obtain⟨t',rfl⟩:=ry;exact PySem.EqMixed.ne_bool_str (bY I q (by simp))
  | _=>exact absurd (show false=true from hs) aau
 | int i=>
  obtain⟨t,rfl⟩:=rx
  cases y with
  | de=>cases ry;exact PySem.EqNone.ne_int_none (bY I q (by simp))
  | int j=>obtain⟨t',rfl⟩:=ry;exact ne_int (bY I q (congrArg not yY))
  | str j=>obtain⟨t',rfl⟩:=ry;exact PySem.EqMixed.ne_int_str (bY I q (by simp))
  | _=>exact absurd (show false=true from hs) aau
 | str i=>
  obtain⟨t,rfl⟩:=rx
  cases y with
  | de=>cases ry;exact PySem.EqNone.ne_str_none (bY I q (by simp))
  | bl j=>cases ry;exact PySem.EqMixed.ne_str_bool (bY I q (by simp))
  | int j=>obtain⟨t',rfl⟩:=ry;exact PySem.EqMixed.ne_str_int (bY I q (by simp))
  | str j=>obtain⟨t',rfl⟩:=ry;exact ne_str (bY I q (congrArg not yZ))
  | _=>exact absurd (show false=true from hs) aau
 | A9 i=>
  obtain⟨t,rfl⟩:=rx
  cases y with
  | A9 j=>obtain⟨t',rfl⟩:=ry;exact PySem.W.ne_bytes (bY I q (congrArg not y3))
  | _=>exact absurd (show false=true from hs) aau
 | _=>cases y <;>exact absurd (show false=true from hs) aau
theorem pG:oi X (compareOp .Lt) (rI0 λi j=>.bl (decide (i<j))):=DM λ_ _ _ _ _ _ _ q=>lt_int q
theorem vd:oi X (compareOp .LtE) (rI0 λi j=>.bl (decide (i<=j))):=DM λ_ _ _ _ _ _ _ q=>le_int q
theorem lJ:oi X (compareOp .Gt) (rI0 λi j=>.bl (decide (j<i))):=DM λ_ _ _ _ _ _ _ q=>gt_int q
theorem vf:oi X (compareOp .GtE) (rI0 λi j=>.bl (decide (j<=i))):=DM λ_ _ _ _ _ _ _ q=>ge_int q
theorem tN:oi X (compareOp .Is) (λx y H Q=>y=.de/\Q (.bl (decide (x=.de))) H):=by
 intro pins s σ H x y v u Q I rx ry h
 obtain⟨rfl,q⟩:=h
 cases ry
 refine is_none_gen (bY I q ?_)
 cases x <;>first
  | (cases rx;rfl)
  | (obtain⟨t,rfl⟩:=rx;rfl)
theorem aU (b:Expr) {op:CmpOp} (h:op≠.In:=by decide) (h2:op≠.NotIn:=by decide):behindInMarks op b=false:=by
 have e1:(op==CmpOp.In)=false:=by cases op <;>first | rfl | exact absurd rfl h
 have e2:(op==CmpOp.NotIn)=false:=by cases op <;>first | rfl | exact absurd rfl h2
 cases b <;>simp [behindInMarks,e1,e2]
theorem jf {op:CmpOp} {r:R2} (ho:oi X (compareOp op) r) (ha:PE X a ta) (hb:PE X b tb) (hm:behindInMarks op b=false):PE X (.Compare a [op] [b] pos) (tOp r ta tb):=by
 intro pins s σ H Q I h
 exact wpAny_Compare1 (Gy ha hb I h λv u s2 x y H2 I2 rx ry q=>ho pins s2 σ H2 x y v u Q I2 rx ry q) hm
noncomputable def tTest (t:TE):TT:=λσ H Q=>t σ H λx H'=>∃k,x=.bl k/\Q k H'
theorem aN {op:CmpOp} {r:R2} (ho:oi X (compareOp op) r) (ha:PE X a ta) (hb:PE X b tb) (hm:behindInMarks op b=false):PT X (.Compare a [op] [b] pos) (tTest (tOp r ta tb)):=by
 intro pins s σ H Q I h
 refine wpAny_isTrue_Compare1 (cw (ha pins s σ H _ I h) λv s1 ⟨x,H1,I1,r1,q1⟩=>cw (hb pins s1 σ H1 _ I1 q1) λu s2 ⟨y,H2,I2,r2,q2⟩=>
  cw (ho pins s2 σ H2 x y v u _ I2 r1 r2 q2) λc s3 ⟨z,H3,I3,r3,k,e,q3⟩=>?_) hm
 subst e
 cases r3
 exact wpAny_truthy_bool ⟨H3,I3,q3⟩
noncomputable def tChain (r r':R2) (ta tb tc:TE):TE:=λσ H Q=>ta σ H λx H1=>tb σ H1 λy H2=>r x y H2 λz H3=>∃k,z=.bl k/\
 (if k=true then tc σ H3 λw' H4=>r' y w' H4 Q else Q (.bl false) H3)
theorem vg {op NQ:CmpOp} {r r':R2} (ho:oi X (compareOp op) r) (DH:oi X (compareOp NQ) r') (ha:PE X a ta) (hb:PE X b tb) (hc:PE X c tc)
  (hm:lastMarks [op,NQ] [b,c]=false:=by with_unfolding_all rfl):PT X (.Compare a [op,NQ] [b,c] pos) (tTest (tChain r r' ta tb tc)):=by
 intro pins s σ H Q I h
 refine isTrue_chain (cw (ha pins s σ H _ I h) λv s1 ⟨x,H1,I1,r1,q1⟩=>test_link (cw (hb pins s1 σ H1 _ I1 q1) λu s2 ⟨y,H2,I2,r2,q2⟩=>
  cw (ho pins s2 σ H2 x y v u _ I2 r1 r2 q2) λd s3 ⟨z,H3,I3,r3,k,e,q3⟩=>?_)) hm
 subst e
 cases r3
 refine wpAny_truthy_bool ?_
 cases k with
 | false=>
  obtain⟨k',e',q'⟩:=q3
  cases e'
  exact ite_ff ⟨H3,I3,q'⟩
 | true=>
  refine ite_tt (test_last (cw (hc pins s3 σ H3 _ I3 q3) λw' s4 ⟨z',H4,I4,r4,q4⟩=>cw (DH pins s4 σ H4 y z' u w' _ I4 r2 r4 q4) λd' s5 ⟨z2,H5,I5,r5,k2,e2,q5⟩=>?_))
  subst e2
  cases r5
  exact wpAny_truthy_bool ⟨H5,I5,q5⟩
theorem tP:(sizeLine:Nat)<2^63:=by rw[sizeLine_eq];decide
theorem vals1 {x:V} {us:List Value} (r:bH [x] us):∃u,us=[u]/\RelV x u:=by
 cases r with
 | cons r1 r2=>cases r2;exact⟨_,rfl,r1⟩
theorem vals2 {x y:V} {us:List Value} (r:bH [x,y] us):∃u w',us=[u,w']/\RelV x u/\RelV y w':=by
 cases r with
 | cons r1 r2=>
  cases r2 with
  | cons r3 r4=>cases r4;exact⟨_,_,rfl,r1,r3⟩
theorem vh:cR X (.builtin "abs") (λxs H Q=>∃i,xs=[.int i]/\Q (.int (if i<0 then -i else i)) H):=by
 intro pins s σ H xs us Q I r h
 obtain⟨i,rfl,q⟩:=h
 obtain⟨u,rfl,t,rfl⟩:=vals1 r
 exact call_abs_int λu tk=>⟨.int (if i<0 then -i else i),H,I.tok _,⟨_,rfl⟩,q⟩
theorem sh (hc:X.calm=true):cR X (.builtin "max") (λxs H Q=>∃i j,xs=[.int i,.int j]/\Q (.int (if j >i then j else i)) H):=by
 intro pins s σ H xs us Q I r h
 obtain⟨i,j,rfl,q⟩:=h
 obtain⟨u,w',rfl,⟨t,rfl⟩,⟨t',rfl⟩⟩:=vals2 r
 refine max_two_ints (I.ok.hd hc) λh' tk k=>⟨_,H,I.kept k,?_,q⟩
 by_cases hj:j >i
 ·rw[if_pos hj,if_pos hj];exact⟨_,rfl⟩
 ·rw[if_neg hj,if_neg hj];exact⟨_,rfl⟩
theorem jg (hc:X.calm=true):cR X (.builtin "min") (λxs H Q=>∃i j,xs=[.int i,.int j]/\Q (.int (if j<i then j else i)) H):=by
 intro pins s σ H xs us Q I r h
 obtain⟨i,j,rfl,q⟩:=h
 obtain⟨u,w',rfl,⟨t,rfl⟩,⟨t',rfl⟩⟩:=vals2 r
 refine min_two_ints (I.ok.hd hc) λh' tk k=>⟨_,H,I.kept k,?_,q⟩
 by_cases hj:j<i
 ·rw[if_pos hj,if_pos hj];exact⟨_,rfl⟩
 ·rw[if_neg hj,if_neg hj];exact⟨_,rfl⟩
theorem Ah:cR X (.type "int") (λxs H Q=>(∃i,xs=[.int i]/\Q (.int i) H)\/∃k,xs=[.bl k]/\Q (.int (if k then 1 else 0)) H):=by
 intro pins s σ H xs us Q I r h
 rcases h with ⟨i,rfl,q⟩ | ⟨k,rfl,q⟩
 ·obtain⟨u,rfl,t,rfl⟩:=vals1 r
  exact call_int_int ⟨.int i,H,I,⟨_,rfl⟩,q⟩
 ·obtain⟨u,rfl,r1⟩:=vals1 r
  cases r1
  exact call_int_bool ⟨.int (if k then 1 else 0),H,I.tok _,⟨_,rfl⟩,q⟩
end
end L2
namespace L2
open PySem PySem.Spec PyProof.Rows
structure xk (h:Heap) (x dx C:Addr) (mA:Str->Option Value):Prop where
 obj:h.get? x=some (PySem.W.instObj C dx)
 ns:h.Ns1 dx mA
 ne:dx≠x
theorem Ai {h:Heap} {dx:Addr} {mA:Str->Option Value} (n:h.Ns1 dx mA):∃od,h.get? dx=some od/\∀name,PySem.W.lookIn name od=some (mA name):=by
 obtain⟨o,es,ep,ho,hd,hk,_,hm⟩:=n
 refine⟨o,ho,λname=>?_⟩
 have e:=hm name
 unfold nsFind findBy at e
 rw[<-Array.find?_toList] at e
 unfold PySem.W.lookIn
 rw[hd]
 dsimp only
 split
 ·rename_i y q
  rw[q] at e
  exact congrArg some e
 ·rename_i q
  rw[q] at e
  have a:es.toList.any (·.refKey)=false:=by
   rw[List.any_eq_false]
   intro y hy
   obtain⟨z,t,Bx⟩:=hk y (Array.mem_toList_iff.mp hy)
   simp [DictEntry.refKey,Bx]
  have a':¬es.toList.any (·.refKey)=true:=by rw[a];exact aau
  rw[if_neg a']
  exact congrArg some e
theorem xk.look {h:Heap} {x dx C:Addr} {mA:Str->Option Value} (I:xk h x dx C mA):∃od,PySem.W.InstAt h x (PySem.W.instObj C dx) C (some od)/\∀name,PySem.W.lookIn name od=some (mA name):=
 let ⟨od,ho,hl⟩:=Ai I.ns
 ⟨od,⟨I.obj,rfl,rfl,ho⟩,hl⟩
section
variable {prog : Program} {w : World} {A : Around} {E : Value -> Shared -> Prop} {s : Shared} {K : PySem.W.Frag} {x dx C f : Addr} {mA : Str -> Option Value} {name : Str} {v : Value}
theorem get_map {expr:Bool} {Q:Value->Shared->Prop} (X:K.In s.heap) (I:xk s.heap x dx C mA) (hg:PySem.W.plainGet K C name=true) (hh:PySem.W.hasDictIn K C=true)
  (ha:PySem.W.findIn K (.ref C) name=some none) (hv:mA name=some v) (W7:PySem.W.handedIn v=true) (h:Q v {s with toks:=s.toks+1}):
  wpAny (model prog w) A (getAttr (.ref x) name expr) Q E s:=by
 obtain⟨od,J,hl⟩:=I.look
 exact PySem.W.get_value X J (PySem.W.plainGet_of hg).1 (PySem.W.findObj_own hh ha rfl (by rw[hl,hv])) W7 h
theorem By {pl:Sem Bool} {Q:Value×List Value->Shared->Prop} (X:K.In s.heap) (I:xk s.heap x dx C mA) (hg:PySem.W.plainGet K C name=true)
  (hf:PySem.W.findIn K (.ref C) name=some (some (.ref f))) (ht:PySem.W.isFn K (.ref f)=true) (hv:mA name=none) (h:Q (.ref f,[.ref x]) s):
  wpAny (model prog w) A (getMethod (.ref x) name pl) Q E s:=by
 obtain⟨od,J,hl⟩:=I.look
 exact PySem.W.method_fn X J (PySem.W.plainGet_of hg).1 (PySem.W.plainGet_of hg).2 hf (beq_iff_eq.mp ht) (by show(PySem.W.lookIn name od).map (·.isSome)=some false;rw[hl,hv];rfl) h
theorem DN {ns:List Str} {Q:Unit->Shared->Prop} (X:K.In s.heap) (I:xk s.heap x dx C mA)
  (hs:PySem.W.findIn K (.ref C) "__setattr__"=some (some (.builtin "object.__setattr__"))) (hp:PySem.W.plainOver K C=true) (ht:PySem.W.takerIn K C name=some none) (hh:PySem.W.hasDictIn K C=true)
  (hw:PySem.Within mA ns) (hsz:ns.length<=sizeLine)
  (h:∀h',xk h' x dx C (λy=>if y=name then some v else mA y)->Heap.SameBut dx s.heap h'->Q () {s with heap:=h',toks:=s.toks+2}):
  wpAny (model prog w) A (setAttr (.ref x) name v) Q E s:=by
 obtain⟨od,J,hl⟩:=I.look
 refine PySem.W.set_plain X J hs (PySem.W.osa_open (s:={s with toks:=s.toks+1}) (r:=none) X J hp ht λb=>?_)
 obtain⟨cd,hc,NJ⟩:=PySem.W.any_some hh
 have hx:s.heap.get? x=some ⟨.ref C,some dx,.plain,#[]⟩:=I.obj
 refine wpAny_bind (wpAny_pure (wpAny_bind (wpAny_bind (wpAny_loadPart hx (wpAny_bind (PySem.W.Looks.here (s:={s with toks:=s.toks+1}) (PySem.W.looks_clsIn X hc) ?_))))))
 rw[NJ]
 refine wpAny_pure (a:=some dx) (wpAny_bind (wpAny_pure (wpAny_bind ?_)))
 refine wpAny_nsSet1 (s:={s with toks:=s.toks+1}) I.ns λh' MN Gx=>?_
 obtain⟨oD,esD,epD,W8,W9,Xa⟩:=MN.count (PySem.Within.cons name v hw)
 refine wpAny_bind (wpAny_lookBehind W8 (by rw[W9];exact pastItsLine_dict (aax Xa (by rw[aar];omega))) ?_)
 exact wpAny_pure (h _ ⟨(Gx.2 _ (Ne.symm I.ne)).trans I.obj,MN,I.ne⟩ Gx)
theorem Bz {R:Result->Shared->Prop} {vs:List Value} {kw:List (Str×Value)} (X:K.In s.heap) (hm:PySem.W.makesIn K C=true)
  (hi:PySem.W.findIn K (.ref C) "__init__"=some (some (.ref f))) (hf:PySem.W.typeIn K (.ref f)=some (.type "function"))
  (h:codeAny (model prog w) (A.under (.builtin "type.__call__" ⟨.ref C::vs,kw⟩)) (.call (.ref f) ⟨.ref (s.heap.objs.size+1)::vs,kw⟩) (PySem.W.InitBack (s.heap.objs.size+1) R)
   {s with heap:=(s.heap.push PySem.W.emptyDict).push (PySem.W.instObj C s.heap.objs.size)}):
  codeAny (model prog w) A (.call (.ref C) ⟨vs,kw⟩) R s:=by
 obtain⟨hh,g,d,t,os⟩:=s
 exact PySem.W.make_core (PySem.W.makes_of X hm) (PySem.W.looks_findIn X hi) (λself=>PySem.W.bind_fn X self hf) (.inl rfl) h
end
noncomputable def iw (f:Str) (v:V):List (Str×V)->List (Str×V)
 | []=>[(f,v)]
 | (g,x)::r=>if g=f then (g,v)::r else (g,x)::iw f v r
theorem om (f g:Str) (v:V):∀fs:List (Str×V),(iw f v fs).lookup g=if g=f then some v else fs.lookup g
 | []=>by
  show List.lookup g [(f,v)]=_
  by_cases h:g=f
  ·have hb:(g==f)=true:=beq_iff_eq.mpr h
   simp only[List.lookup,hb,if_pos h]
  ·have hb:(g==f)=false:=beq_eq_false_iff_ne.mpr h
   simp only[List.lookup,hb,if_neg h]
 | (k,x)::r=>by
  have ih:=om f g v r
  rw[show iw f v ((k,x)::r)=(if k=f then (k,v)::r else (k,x)::iw f v r) from rfl]
  by_cases hk:k=f
  ·rw[if_pos hk]
   by_cases h:g=k
   ·have hb:(g==k)=true:=beq_iff_eq.mpr h
    simp only[List.lookup,hb,if_pos (h.trans hk)]
   ·have hb:(g==k)=false:=beq_eq_false_iff_ne.mpr h
    simp only[List.lookup,hb,if_neg (λe:g=f=>h (e.trans hk.symm))]
  ·rw[if_neg hk]
   by_cases h:g=k
   ·have hb:(g==k)=true:=beq_iff_eq.mpr h
    simp only[List.lookup,hb,if_neg (λe:g=f=>hk (h.symm.trans e))]
   ·have hb:(g==k)=false:=beq_eq_false_iff_ne.mpr h
    simp only[List.lookup,hb]
    exact ih
theorem mL (f:Str) (v:V):∀fs:List (Str×V),f∈(iw f v fs).map (·.1)/\∀g,g∈fs.map (·.1)->g∈(iw f v fs).map (·.1)
 | []=>⟨by simp [iw],λg h=>by simp at h⟩
 | (k,x)::r=>by
  obtain⟨i1,i2⟩:=mL f v r
  rw[show iw f v ((k,x)::r)=(if k=f then (k,v)::r else (k,x)::iw f v r) from rfl]
  by_cases hk:k=f
  ·rw[if_pos hk]
   subst hk
   exact⟨by simp,λg h=>by simpa using h⟩
  ·rw[if_neg hk]
   refine⟨?_,λg h=>?_⟩
   ·rw[aae]
    exact aag _ i1
   ·rw[aae] at h ⊢
    rcases List.mem_cons.mp h with e | e
    ·exact List.mem_cons.mpr (.inl e)
    ·exact aag _ (i2 g e)
theorem oq (f:Str) (v:V):∀fs:List (Str×V),(iw f v fs).length<=fs.length+1
 | []=>by simp [iw]
 | (k,x)::r=>by
  have ih:=oq f v r
  rw[show iw f v ((k,x)::r)=(if k=f then (k,v)::r else (k,x)::iw f v r) from rfl]
  by_cases hk:k=f
  ·rw[if_pos hk,aar,aar];omega
  ·rw[if_neg hk,aar,aar];omega
theorem ir.some_of {v:V} {o:Option Value} (r:ir (some v) o):∃u,o=some u/\RelV v u:=by
 cases o with
 | none=>exact(show False from r).elim
 | some u=>exact⟨u,rfl,r⟩
theorem ir.none_of {o:Option Value} (r:ir none o):o=none:=by
 cases o with
 | none=>rfl
 | some u=>exact(show False from r).elim
theorem Aj {v:V} {u:Value} (r:RelV v u):PySem.W.handedIn u=true:=by
 cases v with
 | de=>cases (show u=Value.none from r);rfl
 | bl b=>cases (show u=Value.bool b from r);rfl
 | int i=>obtain⟨t,e⟩:=(show ∃t,u=Value.int i t from r);cases e;rfl
 | str x=>obtain⟨t,e⟩:=(show ∃t,u=Value.str x t from r);cases e;rfl
 | A9 b=>obtain⟨t,e⟩:=(show ∃t,u=Value.bytes b t from r);cases e;rfl
 | Gi b=>obtain⟨t,e⟩:=(show ∃t,u=Value.float b t from r);cases e;rfl
 | ref a=>cases (show u=Value.ref a from r);rfl
 | ty n=>cases (show u=Value.type n from r);rfl
section
variable {P : Program} {w : World} {H H' : Hp} {h h' : Heap} {a C dx : Addr} {fs Ba : List (Str × V)}
theorem pd (bP:gi P w H h) (e:H a=some (.ins C dx fs)):∃mA,xk h a dx C mA/\(∀f,ir (fs.lookup f) (mA f))/\PySem.Within mA (fs.map (·.1))/\fs.length<=1000/\H dx=some (.own a):=by
 obtain⟨d,z,ne,ob,mA,n,r,q⟩:=(show cm P w H h a (.ins C dx fs) from bP a _ e)
 exact⟨mA,⟨ob,n,ne⟩,r,q,z,d⟩
end
structure y4 (K:PySem.W.Frag) (C:Addr):Prop where
 pg:PySem.W.plainGet K C Str.empty=true
 hd:PySem.W.hasDictIn K C=true
 po:PySem.W.plainOver K C=true
 sa:PySem.W.findIn K (.ref C) "__setattr__"=some (some (.builtin "object.__setattr__"))
theorem y4.get {K:PySem.W.Frag} {C:Addr} (c:y4 K C) (f:Str):PySem.W.plainGet K C f=true:=c.pg
noncomputable def mM (K:PySem.W.Frag) (C:Addr) (f:Str):Prop:=PySem.W.findIn K (.ref C) f=some none
theorem mM.JD {K:PySem.W.Frag} {C:Addr} {f:Str} (n:mM K C f):PySem.W.takerIn K C f=some none:=by
 unfold PySem.W.takerIn
 rw[show PySem.W.findIn K (.ref C) f=some none from n]
 rfl
structure Con (K:PySem.W.Frag) (C:Addr) (f:Str) (v:V) (u:Value):Prop where
 at_:PySem.W.findIn K (.ref C) f=some (some u)
 rel:RelV v u
 get:PySem.W.specialIn K u "__get__"=some none
 cp:PySem.W.copiedNames.contains f=false
structure BA (K:PySem.W.Frag) (C:Addr) (m:Str) (f:Addr):Prop where
 at_:PySem.W.findIn K (.ref C) m=some (some (.ref f))
 fn:PySem.W.isFn K (.ref f)=true
 kp:PySem.W.keepIn K (.ref f)=true
section
variable {X : Cx} {pins : List (Addr × Obj)} {σ : St} {H : Hp} {s : Shared} {a C dx : Addr} {fs : List (Str × V)} {f : Str} {v : V} {A : Around} {E : Value -> Shared -> Prop}
theorem xo {b:Bool} {Q:Value->Shared->Prop} (I:Inv X pins σ H s) (e:H a=some (.ins C dx fs)) (c:y4 X.K C) (n:mM X.K C f) (l:fs.lookup f=some v)
  (h:∀u s',Inv X pins σ H s'->RelV v u->Q u s'):wpAny (model X.prog X.w) A (getAttr (.ref a) f b) Q E s:=by
 obtain⟨mA,O,r,_,_,_⟩:=pd I.bP e
 obtain⟨u,hu,ru⟩:=ir.some_of (v:=v) (o:=mA f) (by rw[<-l];exact r f)
 exact get_map I.lF O (c.get f) c.hd n hu (Aj ru) (h u _ (I.tok _) ru)
theorem pH {m:Str} {g:Addr} {pl:Sem Bool} {Q:Value×List Value->Shared->Prop} (I:Inv X pins σ H s) (e:H a=some (.ins C dx fs)) (c:y4 X.K C) (k:BA X.K C m g) (l:fs.lookup m=none)
  (h:Q (.ref g,[.ref a]) s):wpAny (model X.prog X.w) A (getMethod (.ref a) m pl) Q E s:=by
 obtain⟨mA,O,r,_,_,_⟩:=pd I.bP e
 have hn:mA m=none:=ir.none_of (by rw[<-l];exact r m)
 exact By I.lF O (c.get m) k.at_ k.fn hn h
theorem xp {y:V} {u:Value} {Q:Unit->Shared->Prop} (I:Inv X pins σ H s) (e:H a=some (.ins C dx fs)) (c:y4 X.K C) (n:mM X.K C f) (hl:fs.length<1000) (ry:RelV y u)
  (h:∀s',Inv X pins σ (upd H a (.ins C dx (iw f y fs))) s'->Q () s'):wpAny (model X.prog X.w) A (setAttr (.ref a) f u) Q E s:=by
 obtain⟨mA,O,r,wi,_,ho⟩:=pd I.bP e
 have hz:(fs.map (·.1)).length<=sizeLine:=by rw[aac,sizeLine_eq];omega
 refine DN I.lF O c.sa c.po n.JD c.hd wi hz λh' O' sb=>h _ ?_
 have hd:∃o,h'.get? dx=some o:=let ⟨o,_,_,e',_⟩:=O'.ns;⟨o,e'⟩
 refine I.write (x:=a) (e:=dx) (by rw[e];exact True.intro) (.inr ho) (λb q hb z=>(sb.2 b hb).trans z) hd ?_
 refine⟨by rw[aF O.ne];exact ho,?_,O.ne,O'.obj,_,O'.ns,λg=>?_,λg hg=>?_⟩
 ·have:=oq f y fs;omega
 ·show ir ((iw f y fs).lookup g) (if g=f then some u else mA g)
  rw[om]
  by_cases q:g=f
  ·rw[if_pos q,if_pos q];exact ry
  ·rw[if_neg q,if_neg q];exact r g
 ·by_cases q:g=f
  ·rw[q];exact(mL f y fs).1
  ·refine(mL f y fs).2 g (wi g λz=>hg ?_)
   show(if g=f then some u else mA g)=none
   rw[if_neg q];exact z
theorem Inv.made (I:Inv X pins σ H s):Inv X pins σ (upd (upd H s.heap.objs.size (.own (s.heap.objs.size+1))) (s.heap.objs.size+1) (.ins C s.heap.objs.size []))
  {s with heap:=(s.heap.push PySem.W.emptyDict).push (PySem.W.instObj C s.heap.objs.size)}:=by
 have e1:(s.heap.push PySem.W.emptyDict).get? s.heap.objs.size=some PySem.W.emptyDict:=Heap.get?_push_size s.heap rfl
 have e2:((s.heap.push PySem.W.emptyDict).push (PySem.W.instObj C s.heap.objs.size)).get? (s.heap.objs.size+1)=some (PySem.W.instObj C s.heap.objs.size):=by
  have:=Heap.get?_push_size (s.heap.push PySem.W.emptyDict) (o:=PySem.W.instObj C s.heap.objs.size) rfl
  rwa [Heap.size_push] at this
 have e3:(s.heap.push PySem.W.emptyDict).Ns s.heap.objs.size (λ_=>none):=⟨PySem.W.emptyDict,#[],_,e1,rfl,(λe he=>absurd he (by simp)),λ_=>rfl⟩
 have I1:=I.laid (a:=s.heap.objs.size) (o:=.own (s.heap.objs.size+1)) (h':=s.heap.push PySem.W.emptyDict) (t':=s.toks) (λb u q=>Heap.get?_push_of_some _ q) (aaf _) ⟨_,e1⟩
 refine I1.laid (a:=s.heap.objs.size+1) (o:=.ins C s.heap.objs.size []) (t':=s.toks) (λb u q=>Heap.get?_push_of_some _ q) (Nat.le_of_eq (Heap.size_push _ _)) ?_
 have ne:s.heap.objs.size≠s.heap.objs.size+1:=aaj (aaS _)
 refine⟨by rw[aF ne,ar],aak _,ne,e2,λ_=>none,(Heap.Ns1.of_empty e3).at λo q=>Heap.get?_push_of_some _ q,λ_=>True.intro,λy hy=>absurd rfl hy⟩
theorem DO {prog:Program} {w:World} {env:Env} {e:Expr} {f:Str} {pos:Pos} {s:Shared} {Q:Value->Shared->Prop} (hb:attributeBase e f env (eval e env)=eval e env)
  (h:wpAny (model prog w) A (eval e env) (λo s₁=>wpAny (model prog w) A (getAttr o f true) Q E s₁) E s):wpAny (model prog w) A (eval (.Attribute e f pos) env) Q E s:=
 Attribute_any_ h (by rw[arm_eval_Attribute,hb])
end
noncomputable def dR (K:PySem.W.Frag) (ta:TE) (f:Str):TE:=λσ H Q=>ta σ H λx H1=>∃a C dx fs v,x=.ref a/\H1 a=some (.ins C dx fs)/\y4 K C/\mM K C f/\fs.lookup f=some v/\Q v H1
noncomputable def xq (K:PySem.W.Frag) (ta tv:TE) (f:Str):TS:=λD σ H=>tv σ H λy H1=>ta σ H1 λx H2=>∃a C dx fs,x=.ref a/\H2 a=some (.ins C dx fs)/\y4 K C/\mM K C f/\fs.length<1000/\
 D.nx σ (upd H2 a (.ins C dx (iw f y fs)))
section
variable {X : Cx} {o e value : Expr} {f : Str} {pos pos' tQ : Pos} {ta tv : TE}
theorem b6 (he:PE X e ta) (hb:attributeBase e f X.env (eval e X.env)=eval e X.env):PE X (.Attribute e f pos) (dR X.K ta f):=by
 intro pins s σ H Q I h
 refine DO hb (cw (he pins s σ H _ I h) λu s1 ⟨x,H1,I1,rx,a,C,dx,fs,v,ex,ea,c,n,l,q⟩=>?_)
 subst ex
 obtain rfl:u=Value.ref a:=rx
 exact xo I1 ea c n l λu' s2 I2 ru=>⟨v,H1,I2,ru,q⟩
theorem kx (ha:PE X o ta) (hv:PE X value tv) (hs:swapsWith value (some (.Attribute o f pos')) pos.line X.env=pure false):PS X (.Assign [.Attribute o f pos'] value pos) (xq X.K ta tv f):=by
 intro pins s σ H D I h
 refine plainObj_wpAny_Assign_Attribute (cw (hv pins s σ H _ I h) λu s1 ⟨y,H1,I1,ry,q⟩=>cw (ha pins s1 σ H1 _ I1 q) λov s2 ⟨x,H2,I2,rx,a,C,dx,fs,ex,ea,c,n,l,q2⟩=>?_) hs
 subst ex
 obtain rfl:ov=Value.ref a:=rx
 exact xp I2 ea c n l ry λs3 I3=>⟨σ,_,I3,q2⟩
end
section
variable {X : Cx} {pins : List (Addr × Obj)} {σ : St} {H : Hp} {s : Shared} {A : Around} {E : Value -> Shared -> Prop} {Q : Value -> Shared -> Prop} {c : Value} {b : Bool}
inductive ju (K:PySem.W.Frag) (H:Hp):V->Value->Prop where
 | de:ju K H .de (.type "NoneType")
 | bl (x:Bool):ju K H (.bl x) (.type "bool")
 | int (i:Int):ju K H (.int i) (.type "int")
 | str (x:Str):ju K H (.str x) (.type "str")
 | Gi (x:UInt64):ju K H (.Gi x) (.type "float")
 | lst {a:Addr} {xs:List V} (e:H a=some (.lst xs)):ju K H (.ref a) (.type "list")
 | uP {a:Addr} {o:Obj} {xs:List V} (e:H a=some (.uP o (.lst xs))):ju K H (.ref a) (.type "list")
 | tup {a:Addr} {xs:List V} (e:H a=some (.tup xs)):ju K H (.ref a) (.type "tuple")
 | dK {a:Addr} {kvs:List (Key×V)} (e:H a=some (.dK kvs)):ju K H (.ref a) (.type "dict")
 | dT {a:Addr} {kvs:List (List Key×V)} (e:H a=some (.dT kvs)):ju K H (.ref a) (.type "dict")
 | ins {a C dx:Addr} {fs:List (Str×V)} (e:H a=some (.ins C dx fs)) (cl:y4 K C) (ha:PySem.W.findIn K (.ref C) "__class__"=some (some (.builtin "object.__class__")))
   (hn:PySem.W.specialIn K (.builtin "object.__class__") "__get__"=some (some (.builtin "getset_descriptor.__get__"))) (UT:PySem.W.takesIn K (.builtin "object.__class__")=some true)
   (hm:PySem.W.mroIn K C (.type "object")=some true):ju K H (.ref a) (.ref C)
theorem Ak {x:V} {u t:Value} (I:Inv X pins σ H s) (rx:RelV x u) (ty:ju X.K H x t) (e:PySem.W.kitOne X.K t c=some b) (h:∀tk,Q (.bool b) {s with toks:=tk}):
  wpAny (model X.prog X.w) A (call (.builtin "isinstance") [u,c]) Q E s:=by
 cases ty with
 | de=>cases (show u=Value.none from rx);exact aaP PySem.W.kitx_none I.lF True.intro e (λz=>nomatch z) h
 | bl y=>cases (show u=Value.bool y from rx);exact aaP PySem.W.kitx_bool I.lF True.intro e (λz=>nomatch z) h
 | int i=>obtain⟨t,q⟩:=(show ∃t,u=Value.int i t from rx);cases q;exact aaP PySem.W.kitx_int I.lF True.intro e (λz=>nomatch z) h
 | str y=>obtain⟨t,q⟩:=(show ∃t,u=Value.str y t from rx);cases q;exact aaP PySem.W.kitx_str I.lF True.intro e (λz=>nomatch z) h
 | Gi y=>obtain⟨t,q⟩:=(show ∃t,u=Value.float y t from rx);cases q;exact aaP PySem.W.kitx_float I.lF True.intro e (λz=>nomatch z) h
 | @lst a xs ea=>
  cases (show u=Value.ref a from rx)
  obtain⟨_,_,n,_,h1⟩:=(show cm X.prog X.w H s.heap a (.lst xs) from I.bP a _ ea)
  exact aaP PySem.W.kitx_list I.lF ⟨_,h1,rfl⟩ e (λz=>nomatch z) h
 | @uP a ob xs ea=>
  cases (show u=Value.ref a from rx)
  obtain⟨_,_,_,n,_,h1⟩:=(show cm X.prog X.w H s.heap a (.uP ob (.lst xs)) from I.bP a _ ea)
  exact aaP PySem.W.kitx_list I.lF ⟨_,h1,rfl⟩ e (λz=>nomatch z) h
 | @tup a xs ea=>
  cases (show u=Value.ref a from rx)
  obtain⟨_,_,_,p⟩:=(show cm X.prog X.w H s.heap a (.tup xs) from I.bP a _ ea)
  obtain⟨o,h1,h2,_⟩:=p
  exact aaP PySem.W.kitx_tuple I.lF ⟨o,h1,h2⟩ e (λz=>nomatch z) h
 | @dK a kvs ea=>
  cases (show u=Value.ref a from rx)
  obtain⟨_,_,vs,_,p⟩:=(show cm X.prog X.w H s.heap a (.dK kvs) from I.bP a _ ea)
  obtain⟨o,es,ep,h1,h2,_⟩:=p
  exact aaP PySem.W.kitx_dict I.lF ⟨o,h1,h2.1⟩ e (λz=>nomatch z) h
 | @dT a kvs ea=>
  cases (show u=Value.ref a from rx)
  obtain⟨_,_,xs,_,o,es,ep,h1,h2,_⟩:=(show cm X.prog X.w H s.heap a (.dT kvs) from I.bP a _ ea)
  exact aaP PySem.W.kitx_dict I.lF ⟨o,h1,h2.1⟩ e (λz=>nomatch z) h
 | @ins a C dx fs ea cl ha hn UT hm=>
  cases (show u=Value.ref a from rx)
  obtain⟨mA,O,_⟩:=pd I.bP ea
  obtain⟨od,J,_⟩:=O.look
  exact aaP (PySem.W.kitx_own (cl.get _) cl.hd ha hn UT hm) I.lF J e (λz=>nomatch z) h
end
end L2
namespace L2
open PySem PySem.Spec PyProof.Rows
structure dh (k:Nat) (A:Around):Prop where
 hd:A.handled=none
 dp:A.depth+3*k+5<recursionLimit
 un:A.units+16*k+200<cLine
theorem dh.mono {j k:Nat} {A:Around} (r:dh k A) (h:j<=k):dh j A:=⟨r.hd,by have:=r.dp;omega,by have:=r.un;omega⟩
theorem dh.deeper {k:Nat} {A:Around} (r:dh (k+1) A) (env:Env):dh k (A.deeper env):=
 ⟨r.hd,by have:=r.dp;show A.depth+1+3*k+5<_;omega,by have:=r.un;show A.units+3+16*k+200<_;omega⟩
theorem xr {A:Around} {C:Addr} {us:List Value} {kw:List (Str×Value)}:(A.under (.builtin "type.__call__" ⟨.ref C::us,kw⟩)).depth=A.depth+1:=by
 first | rfl | simp [Around.under,Code.weight,Code.isCreation,Code.isGuard,Code.isCaller,Code.frames,Code.isFrame,guardIds]
theorem xt {A:Around} {C:Addr} {us:List Value} {kw:List (Str×Value)}:(A.under (.builtin "type.__call__" ⟨.ref C::us,kw⟩)).units=A.units+1:=by
 first | rfl | simp [Around.under,Code.cUnits,Code.frames,Code.isFrame]
theorem dh.make {k:Nat} {A:Around} (r:dh (k+1) A) (C:Addr) (us:List Value) (kw:List (Str×Value)):dh k (A.under (.builtin "type.__call__" ⟨.ref C::us,kw⟩)):=
 ⟨r.hd,by have:=r.dp;rw[xr];omega,by have:=r.un;rw[xt];omega⟩
theorem dh.depth {k:Nat} {A:Around} (r:dh k A):A.depth<recursionLimit:=by have:=r.dp;omega
theorem dh.units {k:Nat} {A:Around} (r:dh k A):A.units+64<cLine:=by have:=r.un;omega
noncomputable def tNil:TA:=λ_ H Q=>Q [] H
noncomputable def tCons (ta:TE) (tr:TA):TA:=λσ H Q=>ta σ H λx H1=>tr σ H1 λxs H2=>Q (x::xs) H2
section
variable {X : Cx} {e : Expr} {es : List Expr} {te : TE} {t : TA} {pos : Pos}
theorem af:PA X [] tNil:=λ_ _ _ _ H Q I h=>Calls.spliced_nil ⟨[],H,I,.nil,h⟩
theorem aa (ha:PE X e te) (hr:PA X es t) (hs:starEach (e::es) X.env=(false,eval e X.env)::starEach es X.env:=by rfl):PA X (e::es) (tCons te t):=by
 intro pos pins s σ H Q I h
 rw[hs]
 show wpAny _ _ (spliced ((false,eval e X.env)::backTo pos (starEach es X.env))) _ _ s
 refine Calls.spliced_cons (cw (ha pins s σ H _ I h) λu s1 ⟨x,H1,I1,r1,q1⟩=>?_)
 exact cw (hr pos pins s1 σ H1 _ I1 q1) λus s2 ⟨xs,H2,I2,r2,q2⟩=>⟨x::xs,H2,I2,.cons r1 r2,q2⟩
noncomputable def tLst (t:TA):TE:=λσ H Q=>t σ H λxs H1=>xs.length<=sizeLine/\∀p,H1 p=none->Q (.ref p) (upd H1 p (.lst xs))
theorem bC (h:PA X es t):PE X (.List es pos) (tLst t):=by
 intro pins s σ H Q I hq
 refine wpAny_List_spliced (cw (h pos pins s σ H _ I hq) λus s1 ⟨xs,H1,I1,r,z,q⟩=>⟨by rw[<-r.length];exact z,?_⟩)
 have hf:H1 s1.heap.objs.size=none:=I1.bP.fresh (aaf _)
 refine⟨.ref s1.heap.objs.size,upd H1 s1.heap.objs.size (.lst xs),I1.laid (t':=s1.toks) (λb u e=>Heap.get?_push_of_some _ e) (aaf _) ?_,rfl,q _ hf⟩
 exact⟨z,us,0,r,Heap.get?_push_size _ rfl⟩
end
abbrev Sp:=List V->Hp->VK->XK->Prop
abbrev ox:=List Env->Hp->Shared->XK->Value->Shared->Prop
structure xu (P:Program) (w:World) (K:PySem.W.Frag) (mg:Str->Option Value) (base:Heap) (A:Around) (outer:List Env) (s:Shared) (H:Hp):Prop where
 frames:A.frames=some outer
 mod:Mod K mg base
 bs:∀b o,base.get? b=some o->s.heap.get? b=some o/\H b=none
 Bo:base.objs.size<=s.heap.objs.size
 lE:s.heap.FunFrames base outer
 DG:∀b∈dz outer,H b=none
 bP:gi P w H s.heap
 bare:AllBare s.gens
noncomputable def CE (outer:List Env) (P:Program) (w:World) (H:Hp) (s:Shared) (Q:VK) (u:Value) (s':Shared):Prop:=
 ∃v H',s'.os=s.os/\AllBare s'.gens/\Un (dz outer) [] H H' s.heap s'.heap/\gi P w H' s'.heap/\RelV v u/\Q v H'
noncomputable def CR (CX:ox) (outer:List Env) (P:Program) (w:World) (H:Hp) (s:Shared) (Q:VK) (E:XK) (r:Result) (s':Shared):Prop:=
 match r with
 | .ok (.ret u)=>CE outer P w H s Q u s'
 | .ok _=>False
 | .error e=>CX outer H s E e s'
structure fk (P:Program) (w:World) (K:PySem.W.Frag) (mg:Str->Option Value) (base:Heap) (CX:ox) (k:Nat) (f:Addr) (fd:FuncData) (ps:List Str) (sp:Sp):Prop where
 len:∀vs H Q E,sp vs H Q E->vs.length=ps.length
 run:∀(A:Around) (outer:List Env) (s:Shared) (H:Hp) (args:Args) (us:List Value) (vs:List V) (Q:VK) (E:XK),dh k A->xu P w K mg base A outer s H->BindsTo s fd args (ps.zip us)->bH vs us->sp vs H Q E->
  codeAny (model P w) A (.call (.ref f) args) (CR CX outer P w H s Q E) s
theorem fk.mono {P:Program} {w:World} {K:PySem.W.Frag} {mg:Str->Option Value} {base:Heap} {CX:ox} {j k:Nat} {f:Addr} {fd:FuncData} {ps:List Str} {sp:Sp} (F:fk P w K mg base CX j f fd ps sp) (h:j<=k):
  fk P w K mg base CX k f fd ps sp:=⟨F.len,λA outer s H args us vs Q E hr=>F.run A outer s H args us vs Q E (hr.mono h)⟩
theorem xu.make {P:Program} {w:World} {K:PySem.W.Frag} {mg:Str->Option Value} {base:Heap} {A:Around} {outer:List Env} {s:Shared} {H:Hp} (e:xu P w K mg base A outer s H) (C:Addr) (us:List Value) (kw:List (Str×Value)):
  xu P w K mg base (A.under (.builtin "type.__call__" ⟨.ref C::us,kw⟩)) outer s H:=⟨by first | exact e.frames | (simpa [Around.under,Code.envs,Code.isFrame,pushEnvs] using e.frames),e.mod,e.bs,e.Bo,e.lE,e.DG,e.bP,e.bare⟩
section
variable {X : Cx} {pins : List (Addr × Obj)} {σ : St} {H : Hp} {s s' : Shared}
theorem Inv.GA (I:Inv X pins σ H s):xu X.prog X.w X.K X.mg X.base X.A X.stack s H:=
 ⟨I.ok.frames,I.ok.mod,I.bs,aax I.ok.Bo I.sz,I.stack,I.o9,I.bP,I.bare⟩
theorem Inv.after {Q:VK} {u:Value} (I:Inv X pins σ H s) (h:CE X.stack X.prog X.w H s Q u s'):EP X pins σ Q u s':=by
 obtain⟨v,H',os,bare,un,bP,r,q⟩:=h
 obtain⟨hh,g,d,t,NR⟩:=s'
 obtain rfl:NR=s.os:=os
 exact⟨v,H',I.call (h':=hh) (g':=g) (d':=d) (t':=t) (ch:=[]) un bP bare (λb z=>absurd z (by simp)),r,q⟩
end
noncomputable def tCall (sp:Sp) (oQ:List V) (E:XK) (t:TA):TE:=λσ H Q=>t σ H λvs H1=>sp (vs++oQ) H1 Q E
noncomputable def cK (C:Addr) (m:Str) (sp:Sp) (oQ:List V) (E:XK) (ta:TE) (t:TA):TE:=λσ H Q=>ta σ H λx H1=>∃a dx fs,x=.ref a/\H1 a=some (.ins C dx fs)/\fs.lookup m=none/\
 t σ H1 λvs H2=>sp (x::(vs++oQ)) H2 Q E
noncomputable def si (C:Addr) (sp:Sp) (oQ:List V) (E:XK) (t:TA):TE:=λσ H Q=>t σ H λvs H1=>∀x dx,H1 x=none->H1 dx=none->dx≠x->
 sp (.ref x::(vs++oQ)) (upd (upd H1 dx (.own x)) x (.ins C dx [])) (λv H2=>v=.de/\Q (.ref x) H2) E
noncomputable def Binds (K:PySem.W.Frag) (fd:FuncData) (ps:List Str) (ds:List Value):Prop:=
 ∀(s:Shared) (us:List Value),K.In s.heap->(us++ds).length=ps.length->BindsTo s fd ⟨us,[]⟩ (ps.zip (us++ds))
theorem Binds.all {K:PySem.W.Frag} {fd:FuncData} {ps:List Str} (h:∀us:List Value,us.length=ps.length->bindArgs fd ⟨us,[]⟩=pure (ps.zip us)):Binds K fd ps []:=λs us _ hl=>by
 rw[aaV] at hl ⊢
 exact .of_eq (h us hl)
noncomputable def dM (CX:ox) (X:Cx) (E:XK):Prop:=∀(pins:List (Addr×Obj)) (σ:St) (H:Hp) (s:Shared) (e:Value) (s':Shared),Inv X pins σ H s->CX X.stack H s E e s'->X.xe e s'
section
variable {X : Cx} {CX : ox} {k : Nat} {f C : Addr} {fd : FuncData} {ps : List Str} {sp : Sp} {oQ : List V} {ds : List Value} {E : XK} {x m : Str} {p pos apos : Pos} {e o : Expr} {es : List Expr} {ta : TE} {t : TA}
theorem xv {pins:List (Addr×Obj)} {σ:St} {H:Hp} {s:Shared} {Q:VK} {us:List Value} {vs:List V} (F:fk X.prog X.w X.K X.mg X.base CX k f fd ps sp) (hr:dh k X.A) (hb:Binds X.K fd ps ds) (hd:bH oQ ds) (hx:dM CX X E)
  (I:Inv X pins σ H s) (r:bH vs us) (h:sp (vs++oQ) H Q E):wpAny (model X.prog X.w) X.A (call (.ref f) us) (EP X pins σ Q) X.xe s:=by
 have r2:bH (vs++oQ) (us++ds):=r.append hd
 have hl:(us++ds).length=ps.length:=by rw[<-r2.length];exact F.len _ _ _ _ h
 refine wpAny_call (codeAny_mono (F.run X.A X.stack s H ⟨us,[]⟩ (us++ds) (vs++oQ) Q E hr I.GA (hb s us I.lF hl) r2 h) λr s' hq=>?_)
 cases r with
 | error e=>exact hx pins σ H s e s' I hq
 | ok fl=>
  cases fl with
  | ret u=>exact I.after hq
  | next=>exact False.elim hq
  | brk=>exact False.elim hq
  | cont=>exact False.elim hq
theorem DP (F:fk X.prog X.w X.K X.mg X.base CX k f fd ps sp) (hr:dh k X.A) (hg:Gl X x) (hm:X.mg x=some (.ref f)) (hk:PySem.W.keepIn X.K (.ref f)=true) (hb:Binds X.K fd ps ds) (hd:bH oQ ds) (hx:dM CX X E)
  (ha:PA X (e::es) t) (pI:(x==("__debug__":Str))=false:=by decide) (he:starEach (e::es) X.env=(false,eval e X.env)::starEach es X.env:=by rfl) (hpl:(backTo pos (starEach es X.env)).any (·.1)=false:=by rfl):
  PE X (.Call (.Name x p) (e::es) [] pos) (tCall sp oQ E t):=by
 intro pins s σ H Q I h
 refine wpAny_Call_Name_kw (gP I hg hm ?_ pI)
 refine PySem.W.callWith_K (h₀:=X.base) I.ok.mod.Gn hk (cw (ha pos pins s σ H _ I h) λus s1 ⟨vs,H1,I1,r,q⟩=>⟨I1.lF,?_⟩) he hpl
 exact xv F hr hb hd hx I1 r q
theorem DQ {pl:Sem Bool} (he:PE X o ta) (c:y4 X.K C) (hm:BA X.K C m f) (F:fk X.prog X.w X.K X.mg X.base CX k f fd ps sp) (hr:dh k X.A) (hb:Binds X.K fd ps ds) (hd:bH oQ ds) (hx:dM CX X E) (ha:PA X (e::es) t)
  (hst:starEach (e::es) X.env=(false,eval e X.env)::starEach es X.env:=by rfl) (hpl:(backTo pos (starEach es X.env)).any (·.1)=false:=by rfl)
  (ht:eval (.Call (.Attribute o m apos) (e::es) [] pos) X.env=(do
   let ov <-eval o X.env
   standAt apos.atName
   let (f,first) <-holding [ov] (getMethod ov m pl)
   callWith pos f first (backTo pos (starEach (e::es) X.env)) (backToKw pos (keywordEach [] X.env))):=by rfl):
  PE X (.Call (.Attribute o m apos) (e::es) [] pos) (cK C m sp oQ E ta t):=by
 intro pins s σ H Q I h
 refine PySem.W.methodCall_KW (pl:=pl) (cw (he pins s σ H _ I h) λu s1 ⟨x,H1,I1,rx,a,dx,fs,ex,ea,l,q⟩=>?_) ht
 subst ex
 obtain rfl:u=Value.ref a:=rx
 refine pH I1 ea c hm l ?_
 refine PySem.W.callWith_K (first:=[.ref a]) (h₀:=X.base) I.ok.mod.Gn hm.kp (cw (ha pos pins s1 σ H1 _ I1 q) λus s2 ⟨vs,H2,I2,r,q2⟩=>⟨I2.lF,?_⟩) hst hpl
 exact xv (us:=.ref a::us) (vs:=.ref a::vs) F hr hb hd hx I2 (.cons rfl r) q2
theorem BB {pl:Sem Bool} (he:PE X o ta) (c:y4 X.K C) (hm:BA X.K C m f) (F:fk X.prog X.w X.K X.mg X.base CX k f fd ps sp) (hr:dh k X.A) (hb:Binds X.K fd ps ds) (hd:bH oQ ds) (hx:dM CX X E)
  (ht:eval (.Call (.Attribute o m apos) [] [] pos) X.env=(do
   let ov <-eval o X.env
   standAt apos.atName
   let (f,first) <-holding [ov] (getMethod ov m pl)
   callWith pos f first (backTo pos (starEach [] X.env)) (backToKw pos (keywordEach [] X.env))):=by rfl):
  PE X (.Call (.Attribute o m apos) [] [] pos) (cK C m sp oQ E ta tNil):=by
 intro pins s σ H Q I h
 refine PySem.W.methodCall_KW (pl:=pl) (cw (he pins s σ H _ I h) λu s1 ⟨x,H1,I1,rx,a,dx,fs,ex,ea,l,q⟩=>?_) ht
 subst ex
 obtain rfl:u=Value.ref a:=rx
 refine pH I1 ea c hm l ?_
 exact PySem.W.callWith_K0 (first:=[.ref a]) I1.lF hm.kp (xv (us:=[.ref a]) (vs:=[.ref a]) F hr hb hd hx I1 (.cons rfl .nil) q)
structure Mk (K:PySem.W.Frag) (C f:Addr):Prop where
 makes:PySem.W.makesIn K C=true
 init:PySem.W.findIn K (.ref C) "__init__"=some (some (.ref f))
 fn:PySem.W.isFn K (.ref f)=true
 kp:PySem.W.keepIn K (.ref C)=true
theorem vi {pins:List (Addr×Obj)} {σ:St} {H:Hp} {s:Shared} {Q:VK} {us:List Value} {vs:List V} (M:Mk X.K C f) (F:fk X.prog X.w X.K X.mg X.base CX k f fd ps sp) (hr:dh (k+1) X.A) (hb:Binds X.K fd ps ds) (hd:bH oQ ds)
  (hx:dM CX X E) (I:Inv X pins σ H s) (r:bH vs us)
  (h:∀x dx,H x=none->H dx=none->dx≠x->sp (.ref x::(vs++oQ)) (upd (upd H dx (.own x)) x (.ins C dx [])) (λv H2=>v=.de/\Q (.ref x) H2) E):
  wpAny (model X.prog X.w) X.A (call (.ref C) us) (EP X pins σ Q) X.xe s:=by
 have hq:=h (s.heap.objs.size+1) s.heap.objs.size (I.bP.fresh (Nat.le_succ _)) (I.bP.fresh (aaf _)) (aaj (aaS _))
 have I2:=Inv.made (C:=C) I
 have r2:bH (V.ref (s.heap.objs.size+1)::(vs++oQ)) (Value.ref (s.heap.objs.size+1)::(us++ds)):=.cons rfl (r.append hd)
 have hl:(Value.ref (s.heap.objs.size+1)::us++ds).length=ps.length:=by
  have e:=r2.length
  rw[F.len _ _ _ _ hq] at e
  exact e.symm
 refine wpAny_call (Bz (f:=f) I.lF M.makes M.init (beq_iff_eq.mp M.fn) (codeAny_mono (F.run _ X.stack _ _ ⟨Value.ref (s.heap.objs.size+1)::us,[]⟩ (Value.ref (s.heap.objs.size+1)::(us++ds)) _ _ E (hr.make C us [])
  (I2.GA.make C us []) (hb _ (Value.ref (s.heap.objs.size+1)::us) I2.lF hl) r2 hq) λr s' Fo=>?_))
 cases r with
 | error e=>exact hx pins σ _ _ e s' I2 Fo
 | ok fl=>
  cases fl with
  | ret u=>
   obtain⟨v,H',I3,rv,ev,q3⟩:=I2.after Fo
   subst ev
   exact⟨rv,⟨V.ref (s.heap.objs.size+1),H',I3,rfl,q3⟩⟩
  | next=>exact False.elim Fo
  | brk=>exact False.elim Fo
  | cont=>exact False.elim Fo
theorem DR (M:Mk X.K C f) (F:fk X.prog X.w X.K X.mg X.base CX k f fd ps sp) (hr:dh (k+1) X.A) (hg:Gl X x) (hm:X.mg x=some (.ref C)) (hb:Binds X.K fd ps ds) (hd:bH oQ ds) (hx:dM CX X E)
  (ha:PA X (e::es) t) (pI:(x==("__debug__":Str))=false:=by decide) (he:starEach (e::es) X.env=(false,eval e X.env)::starEach es X.env:=by rfl) (hpl:(backTo pos (starEach es X.env)).any (·.1)=false:=by rfl):
  PE X (.Call (.Name x p) (e::es) [] pos) (si C sp oQ E t):=by
 intro pins s σ H Q I h
 refine wpAny_Call_Name_kw (gP I hg hm ?_ pI)
 refine PySem.W.callWith_K (h₀:=X.base) I.ok.mod.Gn M.kp (cw (ha pos pins s σ H _ I h) λus s1 ⟨vs,H1,I1,r,q⟩=>⟨I1.lF,?_⟩) he hpl
 exact vi M F hr hb hd hx I1 r q
theorem BC (M:Mk X.K C f) (F:fk X.prog X.w X.K X.mg X.base CX k f fd ps sp) (hr:dh (k+1) X.A) (hg:Gl X x) (hm:X.mg x=some (.ref C)) (hb:Binds X.K fd ps ds) (hd:bH oQ ds) (hx:dM CX X E)
  (pI:(x==("__debug__":Str))=false:=by decide):PE X (.Call (.Name x p) [] [] pos) (si C sp oQ E tNil):=by
 intro pins s σ H Q I h
 refine wpAny_Call_Name_kw (gP I hg hm ?_ pI)
 exact PySem.W.callWith_K0 I.lF M.kp (vi (us:=[]) M F hr hb hd hx I .nil h)
end
section
variable {X : Cx} {CX : ox} {k : Nat} {f C : Addr} {fd : FuncData} {ps ks : List Str} {sp : Sp} {E : XK} {x m : Str} {p pos apos Xb : Pos} {e o : Expr} {es : List Expr} {kws : List Keyword} {te ta : TE} {t tk : TA} {nm : Option Str}
structure NS (K:PySem.W.Frag) (fd:FuncData) (ps ks:List Str) (g:List Value->List Value->List Value) (gV:List V->List V->List V):Prop where
 to:∀(s:Shared) (us ws:List Value),K.In s.heap->(g us ws).length=ps.length->BindsTo s fd ⟨us,ks.zip ws⟩ (ps.zip (g us ws))
 rel:∀{vs:List V} {us:List Value} {zs:List V} {ws:List Value},bH vs us->bH zs ws->bH (gV vs zs) (g us ws)
variable {g : List Value -> List Value -> List Value} {gV : List V -> List V -> List V}
end
structure bo (N P:List Str) (sc:Scope):Prop where
 kind:sc.kind=.function
 co:sc.isCoroutine=false
 gen:sc.isGenerator=false
 nd:N.Nodup
 pre:N.take P.length=P
 par:∀x∈P,sc.names.lookup x=some .local\/sc.names.lookup x=some .cell
 GB:∀y∈sc.names,y.2≠.free
theorem sj {kindOf:Str->Option NameKind} {x:Str}:∀{binds:List (Str×Value)} {m:Str->Option Value},(∀v,(x,v)∉binds)->bindL kindOf binds m x=m x
 | [],_,_=>rfl
 | (n,v)::r,m,h=>by
  unfold bindL
  rw[sj λw hw=>h w (aag _ hw)]
  split
  ·have:x≠n:=by rintro rfl;exact h v aai
   simp [this]
  ·rfl
theorem su {kindOf:Str->Option NameKind} {x:Str}:∀{binds:List (Str×Value)} {m:Str->Option Value},(∀v,(x,v)∉binds)->bindC kindOf binds m x=m x
 | [],_,_=>rfl
 | (n,v)::r,m,h=>by
  unfold bindC
  rw[su λw hw=>h w (aag _ hw)]
  split
  ·rfl
  ·have:x≠n:=by rintro rfl;exact h v aai
   simp [this]
theorem sx {kindOf:Str->Option NameKind} {x:Str} {v:Value}:∀{P:List Str} {vs:List Value} {i:Nat} {m:Str->Option Value},P.Nodup->P[i]?=some x->vs[i]?=some v->kindOf x=some .local->
  bindL kindOf (P.zip vs) m x=some v
 | [],_,_,_,_,h,_,_=>by simp at h
 | _::_,[],_,_,_,_,h,_=>by simp at h
 | p::P,w::vs,0,m,nd,h1,h2,hk=>by
  simp at h1 h2;subst h1;subst h2
  show bindL kindOf ((p,w)::P.zip vs) m p=_
  unfold bindL
  rw[sj λv hv=>(List.nodup_cons.mp nd).1 (List.of_mem_zip hv).1,if_pos hk]
  simp
 | p::P,w::vs,i+1,m,nd,h1,h2,hk=>by
  show bindL kindOf ((p,w)::P.zip vs) m x=_
  unfold bindL
  exact sx (i:=i) (List.nodup_cons.mp nd).2 (by simpa using h1) (by simpa using h2) hk
theorem sy {kindOf:Str->Option NameKind} {x:Str} {v:Value}:∀{P:List Str} {vs:List Value} {i:Nat} {m:Str->Option Value},P.Nodup->P[i]?=some x->vs[i]?=some v->kindOf x≠some .local->
  bindC kindOf (P.zip vs) m x=some v
 | [],_,_,_,_,h,_,_=>by simp at h
 | _::_,[],_,_,_,_,h,_=>by simp at h
 | p::P,w::vs,0,m,nd,h1,h2,hk=>by
  simp at h1 h2;subst h1;subst h2
  show bindC kindOf ((p,w)::P.zip vs) m p=_
  unfold bindC
  rw[su λv hv=>(List.nodup_cons.mp nd).1 (List.of_mem_zip hv).1,if_neg hk]
  simp
 | p::P,w::vs,i+1,m,nd,h1,h2,hk=>by
  show bindC kindOf ((p,w)::P.zip vs) m x=_
  unfold bindC
  exact sy (i:=i) (List.nodup_cons.mp nd).2 (by simpa using h1) (by simpa using h2) hk
noncomputable def start (N:List Str) (vs:List V):St:=vs.map some++List.replicate (N.length - vs.length) none
noncomputable def di (CX:ox) (P:Program) (w:World) (K:PySem.W.Frag) (mg:Str->Option Value) (base:Heap) (N:List Str) (qual:Str) (scope:Scope) (f:Addr) (cd:Value) (A:Around) (outer:List Env) (s:Shared) (H:Hp) (E:XK):Cx where
 prog:=P
 w:=w
 K:=K
 mg:=mg
 base:=base
 A:=A.deeper (envOfC qual scope s.heap.objs.size f cd)
 N:=N
 s₀:=s
 H₀:=H
 env:=envOfC qual scope s.heap.objs.size f cd
 outer:=outer
 stack:=envOfC qual scope s.heap.objs.size f cd::outer
 ex:=[]
 calm:=true
 fn:=λ_=>true
 pn:=[]
 xe:=λe s'=>wpAny (model P w) (A.deeper (envOfC qual scope s.heap.objs.size f cd)) (leaving (envOfC qual scope s.heap.objs.size f cd) e) (λ_ q9=>CX outer H s E e q9) (λe' q9=>CX outer H s E e' q9) s'
theorem vj {sc:Scope} {n:Nat} {x:Str} (h:sc.names.lookup x=some .cell):∃c,(cellsFrom n sc.names []).lookup x=some c:=by
 have q:=PySem.W.cellsFrom_some sc.names n [] (.inl h)
 exact Option.isSome_iff_exists.mp q
theorem Am {CX:ox} {P:Program} {w:World} {K:PySem.W.Frag} {mg:Str->Option Value} {base:Heap} {N ps:List Str} {qual:Str} {scope:Scope} {f:Addr} {cd:Value} {A:Around} {outer:List Env} {s s1:Shared} {H:Hp} {E:XK} {us:List Value} {vs:List V}
  (S:bo N ps scope) (hd:A.handled=none) (e0:xu P w K mg base A outer s H) (hl:vs.length=ps.length) (r:bH vs us)
  (x:InCallC s s.heap.objs.size (bindL (envOfC qual scope s.heap.objs.size f cd).kindOf (ps.zip us) λ_=>none) (cellsFrom (s.heap.objs.size+1) scope.names []) (bindC (envOfC qual scope s.heap.objs.size f cd).kindOf (ps.zip us) λ_=>none) s1):
  Inv (di CX P w K mg base N qual scope f cd A outer s H E) [] (start N vs) H s1:=by
 have hpl:ps.length<=N.length:=by have:=congrArg List.length S.pre;rw[aaT] at this;omega
 obtain⟨h1,tk,rfl,hk⟩:=x.done
 have JE:∀b:Addr,b∉(di CX P w K mg base N qual scope f cd A outer s H E).ex:=λb z=>absurd (show b∈([]:List Addr) from z) (by simp)
 refine⟨⟨e0.mod,S.kind,rfl,rfl,aaf _,λy z c h1 h2=>?_,λy hy=>?_,λy c _ h=>?_,λ_=>hd,Around.frames_deeper e0.frames,.inr ⟨rfl,rfl⟩,λb z=>absurd z (JE b),e0.bs,e0.Bo,λb _ _=>JE b,λb z=>absurd z (JE b),e0.lE,e0.DG⟩,
  rfl,e0.bare,Un.kept hk,⟨_,x.toInCall.ns,λi y v h1 h2 h3=>?_⟩,λy c h=>⟨_,x.cell y c h⟩,e0.bP.fresh (aaf _),λy c h=>?_,λp hp=>absurd (show p∈([]:List (Addr×Obj)) from hp) (by simp),e0.bP.kept hk,?_⟩
 ·exact name_of_addr x.apart (aaQ h1) (aaQ h2)
 ·have hy:scope.names.lookup y=some .cell\/scope.names.lookup y=some .free:=hy
  rcases hy with hy | hy
  ·exact vj hy
  ·exact absurd rfl (S.GB _ (aaQ hy))
 ·exact Nat.le_of_lt (x.above y c (aaQ h))
 ·have hi:i<vs.length:=by
   unfold start at h2
   by_cases hi:i<vs.length
   ·exact hi
   ·rw[aa3 (by simpa using hi)] at h2
    rw[List.getElem?_replicate] at h2
    split at h2 <;>cases h2
  have ha:vs[i]?=some v:=by
   unfold start at h2
   rw[aaN (by simpa using hi),aad] at h2
   cases e:vs[i]? with
   | none=>rw[e] at h2;cases h2
   | some a=>rw[e] at h2;cases h2;rfl
  obtain⟨u,hu,rv⟩:=r.get ha
  have hp:ps[i]?=some y:=by
   rw[<-S.pre,List.getElem?_take_of_lt (by omega)];exact h1
  have UU:ps.Nodup:=by rw[<-S.pre];exact S.nd.sublist (List.take_sublist _ _)
  refine⟨u,rv,?_⟩
  rcases S.par y (aal hp) with k | k
  ·exact .inl ⟨k,sx UU hp hu k⟩
  ·obtain⟨c,e⟩:=vj (n:=s.heap.objs.size+1) k
   refine .inr ⟨.inl k,c,e,?_⟩
   have q:=x.cell y c e
   rw[sy UU hp hu (by show scope.names.lookup y≠_;rw[k];decide)] at q
   exact q
 ·exact e0.bP.fresh (Nat.le_of_lt (x.above y c (aaQ h)))
 ·unfold start
  show _=N.length
  rw[aan,aac,List.length_replicate]
  omega
theorem Fp {CX:ox} {P:Program} {w:World} {K:PySem.W.Frag} {mg:Str->Option Value} {base:Heap} {k:Nat} {f:Addr} {name qual:Str} {params:Arguments} {body:List Stmt} {scope:Scope} {dV kV doc pm bZ ct oc:Value} {an od:Option Addr}
  {DS:Array (Option Value)} {N ps:List Str} {sp:Sp} (lk:K.lookup f=some ⟨oc,od,.func (PySem.W.fnOf name qual params body scope dV kV doc pm an bZ ct),DS⟩) (Ac:PySem.W.codeIn K bZ qual=true) (S:bo N ps scope)
  (len:∀vs H Q E,sp vs H Q E->vs.length=ps.length)
  (vk:∀(A:Around) (outer:List Env) (s:Shared) (H:Hp) (vs:List V) (Q:VK) (E:XK),dh k (A.deeper (envOfC qual scope s.heap.objs.size f bZ))->sp vs H Q E->
   ∃t,va (di CX P w K mg base N qual scope f bZ A outer s H E) body t/\t {nx:=λ_ H'=>Q .de H',rt:=Q} (start N vs) H):
  fk P w K mg base CX (k+1) f (PySem.W.fnOf name qual params body scope dV kV doc pm an bZ ct) ps sp:=by
 refine⟨len,λA outer s H args us vs Q E hr e0 hb r Dm=>?_⟩
 have hl:=len _ _ _ _ Dm
 have KX:K.In s.heap:=e0.mod.Gn.keeps λb o e=>(e0.bs b o e).1
 have lim:s.heap.NoLimit:=e0.mod.nolimit.keeps λb o e=>(e0.bs b o e).1
 have JF:∀y∈ps.zip us,scope.names.lookup y.1=some .local\/(scope.names.lookup y.1=some .cell/\((cellsFrom (s.heap.objs.size+1) scope.names []).lookup y.1).isSome=true):=fun⟨n,v⟩ hy=>by
  rcases S.par n (List.of_mem_zip hy).1 with q | q
  ·exact .inl q
  ·exact .inr ⟨q,PySem.W.cellsFrom_some _ _ _ (.inl q)⟩
 refine codeAny_call_function hr.depth (KX _ _ lk) rfl S.co S.gen rfl (PySem.W.codeRec_of KX Ac) (hb _ _ _ _ ?_)
 refine wpAny_newFunctionEnv_cells S.kind JF λenv he s1 x=>?_
 subst he
 refine⟨lim.keeps x.toInCall.keep,codeAny_func ?_⟩
 obtain⟨t,ht,hq⟩:=vk A outer s H vs Q E (hr.deeper _) Dm
 have I:Inv (di CX P w K mg base N qual scope f bZ A outer s H E) [] (start N vs) H s1:=Am S hr.hd e0 hl r x
 refine wpAny_mono (ht [] s1 (start N vs) H _ I hq) (λfl s' hs=>?_) λe s' hs=>hs
 have fin:∀{σ':St} {H':Hp} {v:V} {u:Value},Inv (di CX P w K mg base N qual scope f bZ A outer s H E) [] σ' H' s'->RelV v u->Q v H'->CE outer P w H s Q u s':=
  λ{σ' H' v u} J rv q=>⟨v,H',J.os,J.bare,J.base,J.bP,rv,q⟩
 cases fl with
 | ret u=>
  obtain⟨v,σ',H',J,rv,q⟩:=hs
  exact fin J rv q
 | next=>
  obtain⟨σ',H',J,q⟩:=hs
  exact fin (v:=V.de) (u:=Value.none) J rfl q
 | brk=>
  obtain⟨_,_,_,q⟩:=hs
  exact False.elim q
 | cont=>
  obtain⟨_,_,_,q⟩:=hs
  exact False.elim q
end L2
namespace L2
open PySem PySem.Spec PyProof.Rows
section
variable {X : Cx} {x : Str} {p pos : Pos} {e : Expr} {es : List Expr} {t : TA} {id T : String} {r : List V -> Hp -> VK -> Prop}
noncomputable def tCB (r:List V->Hp->VK->Prop) (t:TA):TE:=λσ H Q=>t σ H λvs H1=>r vs H1 Q
theorem bh (hc:cR X (.builtin id) r) (hg:Gl X x) (hm:X.mg x=none) (hv:bootBuiltins x=some (.builtin id)) (ha:PA X (e::es) t) (hn:x≠"__name__":=by decide) (pI:(x==("__debug__":Str))=false:=by decide)
  (he:starEach (e::es) X.env=(false,eval e X.env)::starEach es X.env:=by rfl) (hpl:(backTo pos (starEach es X.env)).any (·.1)=false:=by rfl):PE X (.Call (.Name x p) (e::es) [] pos) (tCB r t):=by
 intro pins s σ H Q I h
 refine wpAny_Call_Name_kw (iz I hg hm hv ?_ hn pI)
 exact PyProof.Rows.callWith_builtin1 (cw (ha pos pins s σ H _ I h) λus s1 ⟨vs,H1,I1,r1,q1⟩=>hc pins s1 σ H1 vs us Q I1 r1 q1) he hpl
theorem dj (hc:cR X (.type T) r) (hg:Gl X x) (hm:X.mg x=none) (hv:bootBuiltins x=some (.type T)) (ha:PA X (e::es) t) (hn:x≠"__name__":=by decide) (pI:(x==("__debug__":Str))=false:=by decide)
  (he:starEach (e::es) X.env=(false,eval e X.env)::starEach es X.env:=by rfl) (hpl:(backTo pos (starEach es X.env)).any (·.1)=false:=by rfl):PE X (.Call (.Name x p) (e::es) [] pos) (tCB r t):=by
 intro pins s σ H Q I h
 refine wpAny_Call_Name_kw (iz I hg hm hv ?_ hn pI)
 exact PyProof.Rows.callWith_type1 (cw (ha pos pins s σ H _ I h) λus s1 ⟨vs,H1,I1,r1,q1⟩=>hc pins s1 σ H1 vs us Q I1 r1 q1) he hpl
end
end L2
namespace HT
open PySem PyProof.Rows
section
open PySem.SeqAt
open PySem.AutoSeq1 (wpAny_loadPart')
open PySem.MeetsSeq PySem.MeetsSeq2 PySem.MeetsSeq3
end
section
variable {prog : Program} {w : World} {A : Around} {E : Value -> Shared -> Prop} {s : Shared}
noncomputable def eN (n d:Nat):Option Int->Nat
 | none=>d
 | some v=>if v<0 then (v+ (n:Int)).toNat else min v.toNat n
theorem GC (n d:Nat) (hd:d<=n) (o:Option Int):eN n d o<=n:=by
 cases o with
 | none=>exact hd
 | some v=>
  show(if v<0 then (v+ (n:Int)).toNat else min v.toNat n)<=n
  by_cases hv:v<0
  ·rw[if_pos hv];omega
  ·rw[if_neg hv];exact Nat.min_le_right _ _
theorem y7 (v:Int) (n d:Nat):(if v<0 then max (v+ (n:Int)) 0 else min v (n:Int))=((eN n d (some v):Nat):Int):=by
 show(if v<0 then max (v+ (n:Int)) 0 else min v (n:Int))=(((if v<0 then (v+ (n:Int)).toNat else min v.toNat n):Nat):Int)
 by_cases hv:v<0
 ·simp only[if_pos hv];omega
 ·simp only[if_neg hv];omega
theorem xw (lo hi:Option Int) (n:Nat):Builtin.Slice.sliceAdjust lo hi 1 (n:Int)=(((eN n 0 lo:Nat):Int),((eN n n hi:Nat):Int)):=by
 have h1:¬((1:Int)<0):=by omega
 unfold Builtin.Slice.sliceAdjust
 simp only[h1,if_false]
 refine Prod.ext ?_ ?_
 ·cases lo with
  | none=>rfl
  | some v=>exact y7 v n 0
 ·cases hi with
  | none=>rfl
  | some v=>exact y7 v n n
theorem xx (i j:Nat):Builtin.Slice.slicePlaces (i:Int) (j:Int) 1=j - i:=by
 unfold Builtin.Slice.slicePlaces
 have h1:(1:Int) >0:=by omega
 simp only[h1,if_true,Int.ediv_one]
 split <;>omega
theorem pJ {v:Value} {o:Option Int} {Q:Option Int->Shared->Prop} (p:IsPart v o) (h:Q o s):wpAny (model prog w) A (Builtin.Slice.slicePartIndex v) Q E s:=by
 cases p with
 | none=>exact slicePart_none h
 | int i t=>exact slicePart_int h
theorem mO {sl:Addr} {vl vu:Value} {lo hi:Option Int} {n:Nat} {Q:Int×Int×Nat->Shared->Prop} (hs:s.heap.IsSliceOf sl vl vu .none) (pl:IsPart vl lo) (pu:IsPart vu hi)
  (h:Q (((eN n 0 lo:Nat):Int),1,eN n n hi - eN n 0 lo) s):wpAny (model prog w) A (Builtin.Slice.sliceApplied (.ref sl) (pure (n:Int))) Q E s:=by
 obtain⟨os,JG,UW,xy⟩:=id hs
 unfold Builtin.Slice.sliceApplied Builtin.Slice.sliceFields
 refine wpAny_bind (wpAny_bind (wpAny_field JG xy (x:=vl) rfl (wpAny_bind (wpAny_field JG xy (x:=vu) rfl (wpAny_bind (wpAny_field JG xy (x:=.none) rfl (wpAny_pure ?_)))))))
 refine wpAny_bind (slicePart_none ?_)
 show wpAny _ _ (if ((1:Int)==0)=true then _ else _) _ _ s
 rw[if_neg (by decide)]
 refine wpAny_bind (pJ pl (wpAny_bind (pJ pu (wpAny_bind (wpAny_pure ?_)))))
 show wpAny _ _ (match Builtin.Slice.sliceAdjust lo hi 1 (n:Int) with | (lo,hi)=>pure (lo,(1:Int),Builtin.Slice.slicePlaces lo hi 1)) _ _ s
 rw[xw lo hi n]
 show wpAny _ _ (pure (((eN n 0 lo:Nat):Int),(1:Int),Builtin.Slice.slicePlaces ((eN n 0 lo:Nat):Int) ((eN n n hi:Nat):Int) 1)) _ _ s
 rw[xx]
 exact wpAny_pure h
theorem BD (xs:Array Value) (i k:Nat):((List.range k).filterMap fun(m:Nat)=>xs[((i:Int)+ (m:Int)*1).toNat]?).toArray=((xs.toList.drop i).take k).toArray:=by
 have e:(fun(m:Nat)=>xs[((i:Int)+ (m:Int)*1).toNat]?)=λm=>xs[i+m]?:=by
  funext m
  have:((i:Int)+ (m:Int)*1).toNat=i+m:=by omega
  rw[this]
 rw[e]
 have:=pick_run xs i k
 rw[List.filterMap_map] at this
 have e2:((λx=>xs[x]?) ∘λx=>i+x)=λm=>xs[i+m]?:=rfl
 rw[e2] at this
 rw[this]
theorem lK {t sl:Addr} {items:Array Value} {vl vu:Value} {lo hi:Option Int} {Q:Value->Shared->Prop} (ht:IsTup s.heap t items) (hs:s.heap.IsSliceOf sl vl vu .none) (pl:IsPart vl lo) (pu:IsPart vu hi)
  (hw:¬(eN items.size 0 lo=0/\eN items.size items.size hi=items.size))
  (h:Q (.ref s.heap.objs.size) {s with heap:=s.heap.push {cls:=.type "tuple",data:=.seq ((items.toList.drop (eN items.size 0 lo)).take (eN items.size items.size hi - eN items.size 0 lo)).toArray}})
  (hsz:items.size<=sizeLine):wpAny (model prog w) A (getItem (.ref t) (.ref sl)) Q E s:=by
 have y8:sizeOk (.seq ((items.toList.drop (eN items.size 0 lo)).take (eN items.size items.size hi - eN items.size 0 lo)).toArray):=by
  show((items.toList.drop (eN items.size 0 lo)).take (eN items.size items.size hi - eN items.size 0 lo)).toArray.size<=sizeLine
  rw[aam,aaT,List.length_drop,Array.length_toList]
  omega
 have hj:eN items.size items.size hi<=items.size:=GC _ _ (aaf _) hi
 obtain⟨os,JG,UW,xy⟩:=id hs
 have Xc:s.TypeIs (.ref sl) "slice":=⟨os,JG,UW⟩
 unfold getItem
 try with_reducible refine wpAny_holding ?_
 first | refine wpAny_bind (wpAny_pure ?_) | skip
 refine wpAny_bind (wpAny_sequenceKey ht.typeIs (by decide) ?_)
 refine wpAny_bind (wpAny_callSpecial?_slot (name:=Str.ofString "__getitem__") ht.typeIs PyProof.Rows.slot_tuple_getitem
  (wpAny_call_entry PyProof.Rows.slot_tuple_getitem ht.typeIs entry_tuple_getitem ?_ (args_tuple_getitem _ _)))
 show wpAny _ _ (Builtin.Tuple.tupleItemsOf (.ref t) >>=_) _ _ s
 refine wpAny_bind (tupleItemsOf_ ht ?_)
 refine wpAny_bind (wpAny_typeOf Xc ?_)
 rw[if_pos (by decide)]
 refine wpAny_bind (mO hs pl pu ?_)
 have NT:¬((((eN items.size 0 lo:Nat):Int)==0 && (1:Int)==1 && (eN items.size items.size hi - eN items.size 0 lo)==items.size)=true):=by
  intro q
  rw[aaJ,aaJ] at q
  have q1:((eN items.size 0 lo:Nat):Int)=0:=eq_of_beq q.1.1
  have q2:eN items.size items.size hi - eN items.size 0 lo=items.size:=eq_of_beq q.2
  exact hw ⟨by omega,by omega⟩
 show wpAny _ _ (if (((eN items.size 0 lo:Nat):Int)==0 && (1:Int)==1 && (eN items.size items.size hi - eN items.size 0 lo)==items.size)=true then _ else _) _ _ s
 rw[if_neg NT,BD]
 first
  | exact wpAny_bind (m:=Builtin.Tuple.tupleExact _) (wpAny_newObj_type (wpAny_pure ⟨_,rfl,wpAny_pure h⟩) y8)
  | exact wpAny_bind (m:=Builtin.Tuple.tupleExact _) (wpAny_newObj_type (wpAny_bind (wpAny_pure (wpAny_pure ⟨_,rfl,wpAny_pure h⟩))) y8)
  | exact wpAny_bind (wpAny_bind (m:=Builtin.Tuple.tupleExact _) (wpAny_newObj_type (wpAny_pure (wpAny_pure ⟨_,rfl,wpAny_pure h⟩)) y8))
  | exact wpAny_bind (wpAny_bind (m:=Builtin.Tuple.tupleExact _) (wpAny_newObj_type (wpAny_pure ⟨_,rfl,wpAny_pure h⟩) y8))
end
end HT
namespace L2
open PySem PySem.Spec PyProof.Rows
abbrev TO:=St->Hp->(Option Int->Hp->Prop)->Prop
noncomputable def PO (X:Cx) (e:Option Expr) (t:TO):Prop:=
 ∀(pins:List (Addr×Obj)) (s:Shared) (σ:St) (H:Hp) (Q:Option Int->Hp->Prop),Inv X pins σ H s->t σ H Q->
  wpAny (model X.prog X.w) X.A (evalPart e X.env) (λu s'=>∃o H',Inv X pins σ H' s'/\IsPart u o/\Q o H') X.xe s
noncomputable def tNoPart:TO:=λ_ H Q=>Q none H
noncomputable def tPart (t:TE):TO:=λσ H Q=>t σ H λx H1=>∃i,x=.int i/\Q (some i) H1
theorem intsAre_of {ns:List Int}:∀{us:List Value},bH (ns.map V.int) us->IntsAre us ns:=by
 induction ns with
 | nil=>intro us r;rw[List.map_nil] at r;cases r;exact .nil
 | cons n ns ih=>
  intro us r
  rw[aae] at r
  cases r with
  | cons r1 r2=>
   obtain⟨t,e⟩:=r1
   subst e
   exact .cons n t (ih r2)
section
variable {X : Cx} {e : Expr} {te : TE} {lo hi : Option Expr} {tl th : TO} {pos p2 : Pos}
theorem tR:PO X none tNoPart:=by
 intro pins s σ H Q I h
 rw[evalPart_none]
 exact wpAny_pure ⟨none,H,I,.none,h⟩
theorem tS (h:PE X e te):PO X (some e) (tPart te):=by
 intro pins s σ H Q I hw
 rw[evalPart_some]
 refine cw (h pins s σ H _ I hw) λu s1 ⟨x,H1,I1,r1,q1⟩=>?_
 obtain⟨i,rfl,q⟩:=q1
 obtain⟨t,rfl⟩:=r1
 exact⟨some i,H1,I1,.int i t,q⟩
noncomputable def JH (X:Cx) (r:V->Option Int->Option Int->Hp->VK->Prop):Prop:=
 ∀(pins:List (Addr×Obj)) (s:Shared) (σ:St) (H:Hp) (x:V) (v vl vu:Value) (lo hi:Option Int) (sl:Addr) (Q:VK),Inv X pins σ H s->RelV x v->s.heap.IsSliceOf sl vl vu .none->IsPart vl lo->IsPart vu hi->r x lo hi H Q->
  ∃T id,typeLookup (.type T) "__getitem__"=pure (some (.builtin id))/\s.TypeIs v T/\wpAny (model X.prog X.w) X.A (getItem v (.ref sl)) (EP X pins σ Q) X.xe s
noncomputable def tSl (r:V->Option Int->Option Int->Hp->VK->Prop) (te:TE) (tl th:TO):TE:=λσ H Q=>te σ H λx H1=>tl σ H1 λl H2=>th σ H2 λu H3=>r x l u H3 Q
theorem pK {r:V->Option Int->Option Int->Hp->VK->Prop} (hr:JH X r) (he:PE X e te) (hl:PO X lo tl) (hu:PO X hi th):PE X (.Subscript e (.Slice lo hi none p2) pos) (tSl r te tl th):=by
 intro pins s σ H Q I h
 refine Subscript_ (cw (he pins s σ H _ I h) λv s1 ⟨x,H1,I1,r1,q1⟩=>?_)
 refine wpAny_Slice (cw (hl pins s1 σ H1 _ I1 q1) λvl s2 ⟨l,H2,I2,pl,q2⟩=>cw (hu pins s2 σ H2 _ I2 q2) λvu s3 ⟨u,H3,I3,pu,q3⟩=>?_)
 rw[evalPart_none]
 refine wpAny_pure ?_
 have I4:Inv X pins σ H3 {s3 with heap:=s3.heap.push {cls:=.type "slice",data:=.fields #[vl,vu,.none]}}:=I3.kept (t':=s3.toks) λb ob q=>Heap.get?_push_of_some _ q
 obtain⟨T,id,hT,ht,hg⟩:=hr pins {s3 with heap:=s3.heap.push {cls:=.type "slice",data:=.fields #[vl,vu,.none]}} σ H3 x v vl vu l u s3.heap.objs.size Q I4 r1 (Heap.IsSliceOf.new ..) pl pu q3
 show wpAny (model X.prog X.w) X.A (subscriptTail e (.Slice lo hi none p2) v (.ref s3.heap.objs.size)) (EP X pins σ Q) X.xe {s3 with heap:=s3.heap.push {cls:=.type "slice",data:=.fields #[vl,vu,.none]}}
 exact tail_any (ops:=[.ref s3.heap.objs.size,v]) ht hT hg (by with_unfolding_all rfl)
noncomputable def xA (xs:List V) (lo hi:Option Int):List V:=(xs.drop (HT.eN xs.length 0 lo)).take (HT.eN xs.length xs.length hi - HT.eN xs.length 0 lo)
theorem oy (xs:List V) (lo hi:Option Int):(xA xs lo hi).length<=xs.length:=by
 unfold xA
 rw[aaT,List.length_drop]
 omega
noncomputable def JI (K:PySem.W.Frag):V->Option Int->Option Int->Hp->VK->Prop:=λx lo hi H Q=>∃a xs,x=.ref a/\hX K H a xs/\
 ¬(HT.eN xs.length 0 lo=0/\HT.eN xs.length xs.length hi=xs.length)/\∀p,H p=none->Q (.ref p) (upd H p (.tup (xA xs lo hi)))
theorem GD:JH X (JI X.K):=by
 intro pins s σ H x v vl vu lo hi sl Q I rx hs pl pu h
 obtain⟨a,xs,rfl,hx,hw,q⟩:=h
 cases rx
 obtain⟨bz,r,ht,hz⟩:=I.tuple hx
 have hlen:bz.toArray.size=xs.length:=by rw[aam];exact r.length.symm
 refine⟨"tuple",_,PyProof.Rows.slot_tuple_getitem.lookup,ht.typeIs,?_⟩
 refine HT.lK ht hs pl pu (by rw[hlen];exact hw) ?_ (by rw[hlen];exact hz)
 rw[hlen]
 refine⟨.ref s.heap.objs.size,_,I.laid (t':=s.toks) (o:=.tup (xA xs lo hi)) (λb ob q=>Heap.get?_push_of_some _ q) (aaf _) ?_,rfl,q _ (I.bP.fresh (aaf _))⟩
 exact⟨aax (oy xs lo hi) hz,_,(r.drop (HT.eN xs.length 0 lo)).take (HT.eN xs.length xs.length hi - HT.eN xs.length 0 lo),IsTup.new _ _⟩
end
end L2
namespace L2
open PySem PySem.Spec PyProof.Rows
noncomputable def DT (n:Nat) (i:Int):Option Nat:=if 0<=i then (if i<n then some i.toNat else none) else if -(n:Int)<=i then some (i+n).toNat else none
noncomputable def lD {α:Type} (xs:List α) (i:Int):Option α:=(DT xs.length i).bind λj=>xs[j]?
theorem y9 {n:Nat} {i:Int} {j:Nat} (h:DT n i=some j):seqIndex? i n=some j/\j<n/\-(n:Int)<=i/\i<n:=by
 unfold DT at h
 by_cases h0:0<=i
 ·rw[if_pos h0] at h
  by_cases h1:i<n
  ·rw[if_pos h1] at h
   have e:i.toNat=j:=aaI h
   exact⟨by rw[seqIndex_of h0 h1,e],by omega,by omega,h1⟩
  ·rw[if_neg h1] at h;cases h
 ·rw[if_neg h0] at h
  by_cases h1:-(n:Int)<=i
  ·rw[if_pos h1] at h
   have e:(i+n).toNat=j:=aaI h
   exact⟨by rw[seqIndex_neg (by omega) h1,e],by omega,h1,by omega⟩
  ·rw[if_neg h1] at h;cases h
theorem za {α:Type} {xs:List α} {i:Int} {v:α} (h:lD xs i=some v):∃j,seqIndex? i xs.length=some j/\xs[j]?=some v/\j<xs.length/\-(xs.length:Int)<=i/\i<xs.length:=by
 unfold lD at h
 cases e:DT xs.length i with
 | none=>rw[e] at h;cases h
 | some j=>
  rw[e] at h
  obtain⟨h1,h2,h3,h4⟩:=y9 e
  exact⟨j,h1,h,h2,h3,h4⟩
theorem bJ {α:Type} {xs:List α} {j:Nat} {v:α} (h:xs[j]?=some v):lD xs (j:Int)=some v:=by
 have hj:j<xs.length:=(List.getElem?_eq_some_iff.mp h).1
 have e:DT xs.length (j:Int)=some j:=by
  unfold DT
  rw[if_pos (by omega),if_pos (by omega)];simp
 unfold lD;rw[e];exact h
noncomputable def DU (b:Expr):Prop:=∀o i,subscripted b false o i=operate [o,i] (getItem o i)
noncomputable def Fq (X:Cx) (r:R2):Prop:=
 ∀(value slice:Expr) (pins:List (Addr×Obj)) (s:Shared) (σ:St) (H:Hp) (x y:V) (v u:Value) (Q:VK),Inv X pins σ H s->RelV x v->RelV y u->r x y H Q->
  subscripted slice false v u=operate [v,u] (getItem v u)->wpAny (model X.prog X.w) X.A (subscriptTail value slice v u) (EP X pins σ Q) X.xe s
noncomputable def GF (X:Cx) (id:String) (r:V->List V->Hp->VK->Prop):Prop:=
 ∀(pins:List (Addr×Obj)) (s:Shared) (σ:St) (H:Hp) (x:V) (xs:List V) (v:Value) (us:List Value) (Q:VK),Inv X pins σ H s->RelV x v->bH xs us->r x xs H Q->
  wpAny (model X.prog X.w) X.A (call (.builtin id) (v::us)) (EP X pins σ Q) X.xe s
section
variable {X : Cx} {a b : Expr} {ta tb : TE} {pos : Pos}
theorem aB {r:R2} (hr:Fq X r) (ha:PE X a ta) (hb:PE X b tb) (hs:DU b):PE X (.Subscript a b pos) (tOp r ta tb):=by
 intro pins s σ H Q I h
 exact Subscript_ (Gy ha hb I h λv u s2 x y H2 I2 rx ry q=>hr a b pins s2 σ H2 x y v u Q I2 rx ry q (hs _ _))
noncomputable def NU (K:PySem.W.Frag):R2:=λx y H Q=>∃p xs i v,x=.ref p/\y=.int i/\bN K H p xs/\lD xs i=some v/\Q v H
noncomputable def NV (K:PySem.W.Frag):R2:=λx y H Q=>∃p xs i v,x=.ref p/\y=.int i/\hX K H p xs/\lD xs i=some v/\Q v H
theorem zb:Fq X (NU X.K):=by
 intro value slice pins s σ H x y v u Q I rx ry h hs
 obtain⟨p,xs,i,z,rfl,rfl,hq,he,q⟩:=h
 cases rx
 obtain⟨t,rfl⟩:=ry
 obtain⟨bz,r,pl,hz⟩:=I.list hq
 obtain⟨j,h1,h2,h3,h4,h5⟩:=za he
 obtain⟨w,ew,BE⟩:=r.get h2
 have hl:=r.length
 have hn:=tP
 have fin:EP X pins σ Q w s:=⟨z,H,I,BE,q⟩
 by_cases h0:0<=i
 ·have hj:i.toNat=j:=by
   rw[seqIndex_of h0 h5] at h1
   exact aaI h1
  exact item_listR pl.isList h0 (by omega) (by rw[hj];simpa using ew) fin hs
 ·have hj:(i+ (bz.toArray.size:Int)).toNat=j:=by
   rw[seqIndex_neg (by omega) h4] at h1
   rw[aam,<-hl]
   exact aaI h1
  exact subscriptTail_builtinR (x:=w) pl.isList.typeIs slot_list_getitem.lookup
   (wpAny_getItem_list_neg (Q:=λr s'=>r=w/\EP X pins σ Q r s') pl.isList (by omega) (by rw[aam] <;>omega) (by omega) (by rw[hj];simpa using ew) ⟨rfl,fin⟩) hs
theorem GG:Fq X (NV X.K):=by
 intro value slice pins s σ H x y v u Q I rx ry h hs
 obtain⟨p,xs,i,z,rfl,rfl,hq,he,q⟩:=h
 cases rx
 obtain⟨t,rfl⟩:=ry
 obtain⟨bz,r,pl,hz⟩:=I.tuple hq
 obtain⟨j,h1,h2,h3,h4,h5⟩:=za he
 obtain⟨w,ew,BE⟩:=r.get h2
 have hl:=r.length
 have hn:=tP
 have fin:EP X pins σ Q w s:=⟨z,H,I,BE,q⟩
 exact subscriptTail_builtinR (x:=w) pl.typeIs slot_tuple_getitem.lookup
  (getItem_tuple (j:=j) (Q:=λr s'=>r=w/\EP X pins σ Q r s') pl (by omega) (by omega) (by rw[aam,<-hl];exact h1) (by simpa using ew) ⟨rfl,fin⟩) hs
theorem xB (bz:List Value) (n j:Nat) (u:Value):Obj.mapSeq (·.setIfInBounds j u) {cls:=.type "list",data:=.seq bz.toArray n}={cls:=.type "list",data:=.seq (bz.set j u).toArray n}:=by
 simp [Obj.mapSeq]
theorem Inv.lst {pins:List (Addr×Obj)} {σ:St} {H:Hp} {s:Shared} {p:Addr} {xs:List V} (I:Inv X pins σ H s) (h:H p=some (.lst xs)):
  ∃(bz:List Value) (n:Nat),bH xs bz/\s.heap.get? p=some {cls:=.type "list",data:=.seq bz.toArray n}/\xs.length<=sizeLine:=by
 obtain⟨z,bz,n,r,e⟩:=I.bP p _ h
 exact⟨bz,n,r,e,z⟩
theorem Inv.GH {pins:List (Addr×Obj)} {σ:St} {H:Hp} {s:Shared} {p:Addr} {xs ys:List V} {bz its':List Value} {n n':Nat} {f:Obj->Obj} (I:Inv X pins σ H s) (h:H p=some (.lst xs))
  (ho:s.heap.get? p=some {cls:=.type "list",data:=.seq bz.toArray n}) (hf:f {cls:=.type "list",data:=.seq bz.toArray n}={cls:=.type "list",data:=.seq its'.toArray n'}) (r:bH ys its') (hz:ys.length<=sizeLine) (t:Nat):
  Inv X pins σ (upd H p (.lst ys)) {s with heap:=s.heap.update p f,toks:=t}:=by
 have e:(s.heap.update p f).get? p=some {cls:=.type "list",data:=.seq its'.toArray n'}:=by
  rw[Heap.get?_update_self f ho (by rw[hf] <;>rfl),hf]
 refine I.write (x:=p) (e:=p) (by rw[h];trivial) (.inl rfl) (λb u hb q=>(Heap.get?_update_other _ _ (Ne.symm hb)).trans q) ⟨_,e⟩ ?_
 exact⟨hz,its',n',r,e⟩
noncomputable def rSetL:V->V->V->Hp->(Hp->Prop)->Prop:=λo i v H Q=>∃p xs k j,o=.ref p/\i=.int k/\H p=some (.lst xs)/\DT xs.length k=some j/\Q (upd H p (.lst (xs.set j v)))
theorem set_list:Jz X rSetL:=by
 intro pins s σ H o i v ov iv u Q I ro ri rv h
 obtain⟨p,xs,k,j,rfl,rfl,hp,hj,q⟩:=h
 cases ro
 obtain⟨t,rfl⟩:=ri
 obtain⟨bz,n,r,ho,hz⟩:=I.lst hp
 obtain⟨h1,h2,h3,h4⟩:=y9 hj
 have hl:=r.length
 have hn:=tP
 have I':Inv X pins σ (upd H p (.lst (xs.set j v))) {s with heap:=s.heap.update p (Obj.mapSeq (·.setIfInBounds j u))}:=
  I.GH hp ho (xB bz n j u) (r.set rv j) (by rw[List.length_set];exact hz) s.toks
 by_cases h0:0<=k
 ·have hk:k.toNat=j:=by
   rw[seqIndex_of h0 h4] at h1
   exact aaI h1
  exact PySem.W.ki_setAt ho h0 (by omega) (by rw[aam,<-hl];exact h4) (by rw[hk];exact⟨_,I',q⟩)
 ·have hk:(k+ (bz.toArray.size:Int)).toNat=j:=by
   rw[seqIndex_neg (by omega) h3] at h1
   rw[aam,<-hl]
   exact aaI h1
  exact PySem.W.ki_setBack ho (by omega) (by rw[aam,<-hl];exact h3) (by omega) (by rw[hk];exact⟨_,I',q⟩)
theorem tT (lo hi:Option Int) (n:Nat):(sliceBounds lo hi none n).1=((HT.eN n 0 lo:Nat):Int)/\(sliceBounds lo hi none n).2.1=((HT.eN n n hi:Nat):Int)/\(sliceBounds lo hi none n).2.2=1:=by
 refine⟨?_,?_,rfl⟩
 ·cases lo with
  | none=>simp [sliceBounds,HT.eN]
  | some i=>
   simp only[sliceBounds,HT.eN,Option.getD_none,show(1:Int) >0 by decide,if_true]
   by_cases h:i<0
   ·simp only[h,if_true] <;>omega
   ·simp only[h,if_false] <;>omega
 ·cases hi with
  | none=>simp [sliceBounds,HT.eN]
  | some i=>
   simp only[sliceBounds,HT.eN,Option.getD_none,show(1:Int) >0 by decide,if_true]
   by_cases h:i<0
   ·simp only[h,if_true] <;>omega
   ·simp only[h,if_false] <;>omega
theorem rf (bz:List Value) (lo hi:Option Int):slicePick bz.toArray lo hi none=((bz.drop (HT.eN bz.length 0 lo)).take (HT.eN bz.length bz.length hi - HT.eN bz.length 0 lo)).toArray:=by
 obtain⟨h1,h2,h3⟩:=tT lo hi bz.toArray.size
 unfold slicePick
 rw[h1,h2,h3]
 simp only[sliceRange_one,pick_run,aam] <;>rfl
noncomputable def rSlL (K:PySem.W.Frag):V->Option Int->Option Int->Hp->VK->Prop:=λx lo hi H Q=>∃a xs,x=.ref a/\bN K H a xs/\∀p,H p=none->Q (.ref p) (upd H p (.lst (xA xs lo hi)))
theorem DV:JH X (rSlL X.K):=by
 intro pins s σ H x v vl vu lo hi sl Q I rx hs pl pu h
 obtain⟨a,xs,rfl,hx,q⟩:=h
 cases rx
 obtain⟨bz,r,ht,hz⟩:=I.list hx
 have hlen:=r.length
 refine⟨"list",_,slot_list_getitem.lookup,ht.isList.typeIs,?_⟩
 refine wpAny_getItem_list_slice ht.isList hs pl pu .none (by simp) ?_ (by rw[aam] <;>omega)
 rw[rf,<-hlen]
 refine⟨.ref s.heap.objs.size,_,I.laid (t':=s.toks) (o:=.lst (xA xs lo hi)) (λb ob q=>Heap.get?_push_of_some _ q) (aaf _) ?_,rfl,q _ (I.bP.fresh (aaf _))⟩
 exact⟨aax (oy xs lo hi) hz,_,0,(r.drop (HT.eN xs.length 0 lo)).take (HT.eN xs.length xs.length hi - HT.eN xs.length 0 lo),Heap.get?_push_size _ rfl⟩
noncomputable def sA:V->Bool
 | .de=>true
 | .bl _=>true
 | .int _=>true
 | .str _=>true
 | _=>false
noncomputable def UX:V->V->Bool
 | .de,.de=>true
 | .bl a,.bl b=>a==b
 | .bl a,.int b=>(if a then 1 else 0)==b
 | .int a,.bl b=>a==(if b then 1 else 0)
 | .int a,.int b=>a==b
 | .str a,.str b=>a==b
 | _,_=>false
noncomputable def Xd (x:V) (xs:List V):Bool:=xs.any λy=>UX y x
theorem lL:cR X (.builtin "len") (λxs H Q=>∃p ys,xs=[.ref p]/\(bN X.K H p ys\/hX X.K H p ys)/\Q (.int ys.length) H):=by
 intro pins s σ H xs us Q I r h
 obtain⟨p,ys,rfl,hq,q⟩:=h
 obtain⟨u,rfl,rx⟩:=vals1 r
 cases rx
 have hn:=tP
 rcases hq with hq | hq
 ·obtain⟨bz,r',pl,hz⟩:=I.list hq
  have hlen:=r'.length
  exact Calls.call_len_list pl.isList (by simp only[aam] <;>omega) ⟨.int ys.length,H,I.tok _,⟨s.toks+1,by rw[aam,hlen]⟩,q⟩
 ·obtain⟨bz,r',pl,hz⟩:=I.tuple hq
  have hlen:=r'.length
  exact len_tuple pl (by simp only[aam] <;>omega) ⟨.int ys.length,H,I.tok _,⟨s.toks+1,by rw[aam,hlen]⟩,q⟩
theorem tU:cR X (.type "list") (λxs H Q=>∃p ys,xs=[.ref p]/\(bN X.K H p ys\/hX X.K H p ys)/\∀l,H l=none->Q (.ref l) (upd H l (.lst ys))):=by
 intro pins s σ H xs us Q I r h
 obtain⟨p,ys,rfl,hq,q⟩:=h
 obtain⟨u,rfl,rx⟩:=vals1 r
 cases rx
 have fin:∀(bz:List Value),bH ys bz->ys.length<=sizeLine->∀(h':Heap) (c':Nat),(∀b o',s.heap.get? b=some o'->h'.get? b=some o')->
   h'.get? s.heap.objs.size=some {cls:=.type "list",dict:=none,data:=.seq bz.toArray c',slots:=#[]}->EP X pins σ Q (.ref s.heap.objs.size) {s with heap:=h'}:=λbz r' hz h' c' kp e=>
  ⟨.ref s.heap.objs.size,_,I.laid (t':=s.toks) kp (aaf _) (show cm X.prog X.w _ h' _ (.lst ys) from⟨hz,bz,c',r',e⟩),rfl,q _ (I.bP.fresh (aaf _))⟩
 rcases hq with hq | hq
 ·obtain⟨bz,r',pl,hz⟩:=I.list hq
  have hlen:=r'.length
  obtain⟨o,ho,hc,n,hd⟩:=pl.isList
  exact call_list_seq p (.inl rfl) ho hc hd (λh' c' kp e=>fin bz r' hz h' c' kp e) (by simp only[aam] <;>omega)
 ·obtain⟨bz,r',pl,hz⟩:=I.tuple hq
  have hlen:=r'.length
  obtain⟨o,ho,hc,n,hd⟩:=pl
  exact call_list_seq p (.inr rfl) ho hc hd (λh' c' kp e=>fin bz r' hz h' c' kp e) (by simp only[aam] <;>omega)
theorem rh:cR X (.type "tuple") (λxs H Q=>∃p ys,xs=[.ref p]/\((bN X.K H p ys/\∀l,H l=none->Q (.ref l) (upd H l (.tup ys)))\/(hX X.K H p ys/\Q (.ref p) H))):=by
 intro pins s σ H xs us Q I r h
 obtain⟨p,ys,rfl,h⟩:=h
 obtain⟨u,rfl,rx⟩:=vals1 r
 cases rx
 rcases h with ⟨hq,q⟩ | ⟨hq,q⟩
 ·obtain⟨bz,r',pl,hz⟩:=I.list hq
  have hlen:=r'.length
  refine call_tuple_list pl.isList (λh' kp=>?_) (by simp only[aam] <;>omega)
  have I1:Inv X pins σ H {s with heap:=h'}:=I.kept (t':=s.toks) kp
  have I2:Inv X pins σ (upd H h'.objs.size (.tup ys)) {s with heap:=h'.push {cls:=.type "tuple",data:=.seq bz.toArray}}:=
   I1.laid (t':=s.toks) (λb o e=>Heap.get?_push_of_some _ e) (aaf _) (show cm X.prog X.w _ _ _ (.tup ys) from⟨hz,bz,r',IsTup.new _ _⟩)
  exact⟨.ref h'.objs.size,_,I2,rfl,q _ (I1.bP.fresh (aaf _))⟩
 ·obtain⟨bz,r',pl,hz⟩:=I.tuple hq
  exact call_tuple_same pl ⟨.ref p,H,I,rfl,q⟩
noncomputable def DW (K:PySem.W.Frag) (T:String) (x:V) (H:Hp):Prop:=match x with
 | .str _=>T="str"
 | .int _=>T="int"
 | .ref p=>(T="list"/\∃xs,bN K H p xs)\/(T="tuple"/\∃o,K.lookup p=some o/\o.cls=.type "tuple"/\o.dict=none)\/
   (T="dict"/\((∃kvs,H p=some (.dK kvs))\/∃kvs,H p=some (.dT kvs)))\/(T="set"/\∃S n,H p=some (.set S n))
 | _=>False
theorem xC {pins:List (Addr×Obj)} {σ:St} {H:Hp} {s:Shared} {T:String} {x:V} {v:Value} (I:Inv X pins σ H s) (r:RelV x v) (ty:DW X.K T x H):
  s.TypeIs v T/\∀a,v=.ref a->∃ob,s.heap.get? a=some ob/\ob.dict=none:=by
 cases x with
 | str z=>
  obtain⟨t,rfl⟩:=r
  cases (show T="str" from ty)
  exact⟨typeIs_str s z t,λ_ e=>nomatch e⟩
 | int i=>
  obtain⟨t,rfl⟩:=r
  cases (show T="int" from ty)
  exact⟨typeIs_int s i t,λ_ e=>nomatch e⟩
 | ref p=>
  cases r
  rcases ty with ⟨rfl,xs,hq⟩ | ⟨rfl,o,hk,hc,hd⟩ | ⟨rfl,hk⟩ | ⟨rfl,S,n,hk⟩
  ·obtain⟨bz,_,pl,_⟩:=I.list hq
   refine⟨pl.isList.typeIs,λa e=>?_⟩
   cases e
   obtain⟨o,n,e,c,hd,_⟩:=pl
   exact⟨o,e,hd⟩
  ·refine⟨⟨o,I.lF p o hk,hc⟩,λa e=>?_⟩
   cases e
   exact⟨o,I.lF _ o hk,hd⟩
  ·have z:∃o,s.heap.get? p=some o/\o.ExactDict:=by
    rcases hk with ⟨kvs,hk⟩ | ⟨kvs,hk⟩
    ·obtain⟨_,_,_,_,o,_,_,e,ex,_⟩:=I.bP p _ hk
     exact⟨o,e,ex⟩
    ·obtain⟨_,_,_,_,o,_,_,e,ex,_⟩:=I.bP p _ hk
     exact⟨o,e,ex⟩
   obtain⟨o,e,ex⟩:=z
   refine⟨⟨o,e,ex.1⟩,λa e2=>?_⟩
   cases e2
   exact⟨o,e,ex.2.1⟩
  ·obtain⟨o,_,_,_,e,ex,_⟩:=I.bP p _ hk
   refine⟨⟨o,e,ex.1⟩,λa e2=>?_⟩
   cases e2
   exact⟨o,e,ex.2.1⟩
 | _=>exact False.elim ty
noncomputable def GI (K:PySem.W.Frag) (T:String) (r:V->List V->Hp->VK->Prop) (to:TE):TE:=λσ H Q=>to σ H λx H1=>DW K T x H1/\r x [] H1 Q
noncomputable def tBM (K:PySem.W.Frag) (T:String) (r:V->List V->Hp->VK->Prop) (to:TE) (t:TA):TE:=λσ H Q=>to σ H λx H1=>DW K T x H1/\t σ H1 λxs H2=>r x xs H2 Q
variable {o e : Expr} {es : List Expr} {to : TE} {t : TA} {name : Str} {apos cZ : Pos} {T id : String} {r : V -> List V -> Hp -> VK -> Prop}
theorem BF (pa:PlainAttrs T) (slot:Slot T name id) (JJ:typeOf (.builtin id)=pure (.type "method_descriptor")) (hm:GF X id r) (ho:PE X o to)
  (pL:attributeBase o name X.env (eval o X.env)=eval o X.env:=by rfl) (pM:(apos.endLine==cZ.line)=true:=by rfl):PE X (.Call (.Attribute o name apos) [] [] cZ) (GI X.K T r to):=by
 intro pins s σ H Q I h
 refine wpAny_Call_method0_late pL pM (cw (ho pins s σ H _ I h) λv s1 ⟨x,H1,I1,r1,ty,q1⟩=>?_)
 obtain⟨h1,h2⟩:=xC I1 r1 ty
 exact⟨T,id,pa,slot,JJ,h1,h2,Calls.callWith_builtin rfl (PySem.evalArgs_none (hm pins s1 σ H1 x [] v [] Q I1 r1 .nil q1))⟩
theorem dr (pa:PlainAttrs T) (slot:Slot T name id) (JJ:typeOf (.builtin id)=pure (.type "method_descriptor")) (hm:GF X id r) (ho:PE X o to) (ha:PA X (e::es) t)
  (pL:attributeBase o name X.env (eval o X.env)=eval o X.env:=by rfl)
  (GJ:((backTo cZ (starEach (e::es) X.env)).all (λx=>!x.1) && (backToKw cZ (keywordEach [] X.env)).all (λx=>x.1.isSome)
   && decide ((e::es).length+ ([]:List Keyword).length+ (if ([]:List Keyword).isEmpty then 0 else 1)<30))=true:=by rfl)
  (pM:(apos.endLine==cZ.line)=true:=by rfl) (hs:starEach (e::es) X.env=(false,eval e X.env)::starEach es X.env:=by rfl) (xD:(backTo cZ (starEach es X.env)).any (·.1)=false:=by rfl):
  PE X (.Call (.Attribute o name apos) (e::es) [] cZ) (tBM X.K T r to t):=by
 intro pins s σ H Q I h
 refine wpAny_Call_method_late pL GJ pM rfl (cw (ho pins s σ H _ I h) λv s1 ⟨x,H1,I1,r1,ty,q1⟩=>?_)
 obtain⟨h1,h2⟩:=xC I1 r1 ty
 refine⟨T,id,pa,slot,JJ,h1,h2,?_⟩
 have hA:=ha cZ pins s1 σ H1 _ I1 q1
 rw[hs] at hA ⊢
 refine Calls.callWith_builtin (by show(false || (backTo cZ (starEach es X.env)).any (·.1))=false;rw[xD] <;>rfl) (Calls.evalArgs_plain ?_)
 exact cw hA λus s2 ⟨vs,H2,I2,r2,q2⟩=>hm pins s2 σ H2 x vs v us Q I2 r1 r2 q2
end
end L2
namespace L2
open PySem PySem.Spec PyProof.Rows
noncomputable def GK (X:Cx) (id:String) (r:V->List V->Hp->VK->Prop):Prop:=
 ∀(pins:List (Addr×Obj)) (s:Shared) (σ:St) (H:Hp) (x:V) (xs:List V) (v:Value) (us:List Value) (Q:VK),Inv X pins σ H s->RelV x v->bH xs us->r x xs H Q->
  wpAny (model X.prog X.w) X.A (call (.builtin id) (v::us)) (EP X pins σ Q) X.xe s
theorem bH.one:∀{x:V} {us:List Value},bH [x] us->∃u,us=[u]/\RelV x u
 | _,_,.cons r .nil=>⟨_,rfl,r⟩
theorem bH.zero:∀{us:List Value},bH [] us->us=[]
 | _,.nil=>rfl
theorem bH.dropLast {xs:List V} {us:List Value} (h:bH xs us):bH xs.dropLast us.dropLast:=by
 induction h with
 | nil=>exact .nil
 | cons r t ih=>
  cases t with
  | nil=>exact .nil
  | cons q t'=>exact .cons r ih
theorem bH.reverse {xs:List V} {us:List Value} (h:bH xs us):bH xs.reverse us.reverse:=by
 induction h with
 | nil=>exact .nil
 | cons r t ih=>rw[List.reverse_cons,List.reverse_cons];exact bH.append ih (.cons r .nil)
theorem bH.rep {xs:List V} {us:List Value} (h:bH xs us):∀k:Nat,bH (List.replicate k xs).flatten (List.replicate k us).flatten
 | 0=>.nil
 | k+1=>by
  rw[aa4,aa4,List.flatten_cons,List.flatten_cons]
  exact bH.append h (bH.rep h k)
theorem xE {α:Type} (l:List α):l.eraseIdx (l.length - 1)=l.dropLast:=by
 induction l with
 | nil=>rfl
 | cons a r ih=>
  cases r with
  | nil=>rfl
  | cons b r=>
   have e:(a::b::r).length - 1=((b::r).length - 1)+1:=by
    have h1:(a::b::r).length=r.length+2:=rfl
    have h2:(b::r).length=r.length+1:=rfl
    omega
   rw[e,List.eraseIdx_cons_succ,ih]
   all_goals rfl
theorem foldl_rep (bz:List Value):∀(k:Nat) (acc:List Value),
  List.foldl (λx1 x2=>x1++x2) acc.toArray (List.replicate k bz.toArray)=(acc++ (List.replicate k bz).flatten).toArray
 | 0,acc=>by simp
 | k+1,acc=>by
  have e:acc.toArray++bz.toArray=(acc++bz).toArray:=by simp
  have e2:(acc++bz)++ (List.replicate k bz).flatten=acc++ (List.replicate (k+1) bz).flatten:=by
   rw[aa4,List.flatten_cons,List.append_assoc]
  rw[<-e2,<-foldl_rep bz k (acc++bz),<-e,aa4,List.foldl_cons]
section
variable {X : Cx} {pins : List (Addr × Obj)} {σ : St} {H : Hp} {s : Shared} {l b : Addr} {xs ys zs : List V}
theorem Inv.DX {bz its':List Value} {n:Nat} {f:Array Value->Array Value} {t':Nat} (I:Inv X pins σ H s) (hH:H l=some (.lst xs))
  (e:s.heap.get? l=some {cls:=.type "list",data:=.seq bz.toArray n}) (hf:f bz.toArray=its'.toArray) (hv:bH ys its') (hz:ys.length<=sizeLine):
  Inv X pins σ (upd H l (.lst ys)) {s with heap:=s.heap.update l (Obj.mapSeq f),toks:=t'}:=by
 have q:=PySem.IsL.update e f
 rw[hf] at q
 refine I.write (x:=l) (e:=l) (by rw[hH];exact trivial) (.inl rfl) (λb' u hb hu=>(Heap.get?_update_other s.heap (Obj.mapSeq f) (Ne.symm hb)).trans hu) ⟨_,q⟩ ?_
 exact⟨hz,its',_,hv,q⟩
theorem Inv.JK {bz:List Value} {t':Nat} (I:Inv X pins σ H s) (hv:bH ys bz) (hz:ys.length<=sizeLine):
  Inv X pins σ (upd H s.heap.objs.size (.lst ys)) {s with heap:=s.heap.push {cls:=.type "list",data:=.seq bz.toArray},toks:=t'}:=
 I.laid (λ_ _ q=>Heap.get?_push_of_some _ q) (aaf _) ⟨hz,bz,0,hv,Heap.get?_push_size _ rfl⟩
theorem Inv.fresh (I:Inv X pins σ H s):H s.heap.objs.size=none:=I.bP.fresh (aaf _)
theorem Inv.vm (I:Inv X pins σ H s) (hH:H l=some (.lst xs)):xs.length<=sizeLine/\∃(bz:List Value) (n:Nat),bH xs bz/\xs.length=bz.length/\s.heap.get? l=some {cls:=.type "list",data:=.seq bz.toArray n}:=by
 obtain⟨z,bz,n,r,e⟩:=I.bP l _ hH
 exact⟨z,bz,n,r,r.length,e⟩
theorem vn {n:Nat} (h:n<=sizeLine):Builtin.List.listTooLong n=false:=by
 unfold Builtin.List.listTooLong
 exact decide_eq_false (by omega)
end
section
variable {X : Cx}
noncomputable def cV:V->List V->Hp->VK->Prop:=λx vs H Q=>∃l xs y,x=.ref l/\vs=[y]/\H l=some (.lst xs)/\xs.length<sizeLine/\Q .de (upd H l (.lst (xs++ [y])))
theorem cb:GK X "list.append" cV:=by
 intro pins s σ H x vs v us Q I rx rv h
 obtain⟨l,xs,y,rfl,rfl,hH,hz,q⟩:=h
 cases rx
 obtain⟨u,rfl,ru⟩:=rv.one
 obtain⟨z,bz,n,r,hl,e⟩:=I.vm hH
 refine call_meets F.slot_list_append ⟨_,e,rfl⟩ F.entry_list_append (F.args_list_append_2 _ _) (PySem.list_append l bz.toArray n u (by rw[aam];omega)) ⟨e,?_⟩
 refine⟨.de,_,I.DX (its':=bz++ [u]) hH e (by simp) (r.append (.cons ru .nil)) ?_,rfl,q⟩
 rw[aan,aay]
 omega
noncomputable def tV:V->List V->Hp->VK->Prop:=λx vs H Q=>∃l b xs zs,x=.ref l/\vs=[.ref b]/\H l=some (.lst xs)/\H b=some (.lst zs)/\xs.length+zs.length<=sizeLine/\Q .de (upd H l (.lst (xs++zs)))
theorem sC:GK X "list.extend" tV:=by
 intro pins s σ H x vs v us Q I rx rv h
 obtain⟨l,b,xs,zs,rfl,rfl,hH,hB,hz,q⟩:=h
 cases rx
 obtain⟨u,rfl,ru⟩:=rv.one
 cases ru
 obtain⟨z,bz,n,r,hl,e⟩:=I.vm hH
 obtain⟨z2,xF,n2,r2,Fs,e2⟩:=I.vm hB
 have hsz:bz.toArray.size+xF.toArray.size<=sizeLine:=by rw[aam,aam];omega
 have BG:¬(!bz.toArray.isEmpty && Builtin.List.listTooLong (bz.toArray.size+xF.toArray.size))=true:=by
  rw[vn hsz,Bool.and_false]
  exact aau
 refine call_meets F.slot_list_extend ⟨_,e,rfl⟩ F.entry_list_extend (F.args_list_extend_2 _ _)
  (AutoSeq1.list_extend_list_list_0 l bz.toArray n b xF.toArray n2 BG (by rw[aam];omega) (by omega)) ⟨e,e2,?_⟩
 refine⟨.de,_,I.DX (its':=bz++xF) hH e (by simp) (r.append r2) ?_,rfl,q⟩
 rw[aan]
 omega
noncomputable def JL:V->List V->Hp->VK->Prop:=λx vs H Q=>∃l xs y,x=.ref l/\vs=[]/\H l=some (.lst xs)/\xs[xs.length - 1]?=some y/\Q y (upd H l (.lst xs.dropLast))
theorem GL:GK X "list.pop" JL:=by
 intro pins s σ H x vs v us Q I rx rv h
 obtain⟨l,xs,y,rfl,rfl,hH,hy,q⟩:=h
 cases rx
 have NW:=rv.zero
 subst NW
 obtain⟨z,bz,n,r,hl,e⟩:=I.vm hH
 obtain⟨u,hu,ru⟩:=r.get hy
 have Xe:bz.toArray[bz.toArray.size - 1]?=some u:=by
  show bz.toArray[bz.length - 1]?=some u
  rw[<-Array.getElem?_toList,<-hl]
  exact hu
 refine call_meets F.slot_list_pop ⟨_,e,rfl⟩ F.entry_list_pop (F.args_list_pop_1 _) (MeetsSeq.list_pop_last l bz.toArray n u Xe (by rw[aam];omega)) ⟨e,?_⟩
 refine⟨y,_,I.DX (its':=bz.dropLast) hH e ?_ r.dropLast ?_,ru,q⟩
 ·show bz.toArray.eraseIdxIfInBounds (bz.toArray.size - 1)=bz.dropLast.toArray
  rw[aam,List.eraseIdxIfInBounds_toArray,xE]
 ·rw[List.length_dropLast]
  omega
noncomputable def vo:V->List V->Hp->VK->Prop:=λx vs H Q=>∃l xs,x=.ref l/\vs=[]/\H l=some (.lst xs)/\Q .de (upd H l (.lst xs.reverse))
theorem xG:GK X "list.reverse" vo:=by
 intro pins s σ H x vs v us Q I rx rv h
 obtain⟨l,xs,rfl,rfl,hH,q⟩:=h
 cases rx
 have NW:=rv.zero
 subst NW
 obtain⟨z,bz,n,r,hl,e⟩:=I.vm hH
 refine call_meets F.slot_list_reverse ⟨_,e,rfl⟩ F.entry_list_reverse (F.args_list_reverse_1 _) (AutoSeq1.list_reverse_list_0 l bz.toArray n (by rw[aam];omega)) ⟨e,?_⟩
 refine⟨.de,_,I.DX (its':=bz.reverse) hH e (by simp) r.reverse ?_,rfl,q⟩
 rw[List.length_reverse]
 omega
noncomputable def BH:R2:=λx y H Q=>∃l b xs zs,x=.ref l/\y=.ref b/\H l=some (.lst xs)/\H b=some (.lst zs)/\xs.length+zs.length<=sizeLine/\∀p,H p=none->Q (.ref p) (upd H p (.lst (xs++zs)))
theorem tW:oi X (binaryOp .Add) BH:=by
 intro pins s σ H x y v u Q I rx ry h
 obtain⟨l,b,xs,zs,rfl,rfl,hH,hB,hz,q⟩:=h
 cases rx
 cases ry
 obtain⟨z,bz,n,r,hl,e⟩:=I.vm hH
 obtain⟨z2,xF,n2,r2,Fs,e2⟩:=I.vm hB
 refine PySem.P.add_list e e2 ?_ (by rw[aam,aam];omega)
 have ea:bz.toArray++xF.toArray=(bz++xF).toArray:=by simp
 rw[ea]
 exact⟨.ref _,_,I.JK (t':=s.toks) (r.append r2) (by rw[aan];omega),rfl,q _ I.fresh⟩
noncomputable def JM:R2:=λx y H Q=>∃l k xs,x=.ref l/\y=.int k/\H l=some (.lst xs)/\-(2^63)<=k/\k<2^63/\xs.length*k.toNat<=sizeLine/\
 ∀p,H p=none->Q (.ref p) (upd H p (.lst (List.replicate k.toNat xs).flatten))
theorem len_rep {α:Type} (xs:List α) (k:Nat):(List.replicate k xs).flatten.length=k*xs.length:=by
 induction k with
 | zero=>simp
 | succ k ih=>rw[aa4,List.flatten_cons,aan,ih,Nat.succ_mul,Nat.add_comm]
theorem GN:oi X (binaryOp .Mult) JM:=by
 intro pins s σ H x y v u Q I rx ry h
 obtain⟨l,k,xs,rfl,rfl,hH,h1,h2,hz,q⟩:=h
 cases rx
 obtain⟨t,rfl⟩:=ry
 obtain⟨z,bz,n,r,hl,e⟩:=I.vm hH
 have hlen:bz.toArray.size*k.toNat<=sizeLine:=by rw[aam,<-hl];exact hz
 have NX:¬bz.toArray.size*k.toNat >(2^63 - 1) / 8:=by
  have:(sizeLine:Nat)<=(2^63 - 1) / 8:=by decide
  omega
 have NY:¬(!Builtin.List.listFitsIndex k)=true:=by
  rw[fitsIndex_both h1 h2]
  exact aau
 have BG:¬Builtin.List.listTooLong (bz.toArray.size*k.toNat)=true:=by
  rw[vn hlen]
  exact aau
 have BI:List.foldl (λx1 x2=>x1++x2) #[] (List.replicate (if bz.toArray.isEmpty=true then 0 else k.toNat) bz.toArray)=(List.replicate k.toNat bz).flatten.toArray:=by
  have f0:∀m:Nat,List.foldl (λx1 x2=>x1++x2) #[] (List.replicate m bz.toArray)=(List.replicate m bz).flatten.toArray:=λm=>by
   have:=foldl_rep bz m []
   rw[List.nil_append] at this
   exact this
  rw[f0]
  cases bz with
  | nil=>simp
  | cons a r'=>rw[if_neg (by simp)]
 refine wpAny_binaryOp_repeat_ref (T:="list") (U:="int") (by decide) ⟨_,e,rfl⟩ (λs'=>typeIs_int s' k t) noFill_list_mul F.fills_int_mul F.slot_int_rmul repeat_list F.slot_int_index.lookup
  (call_meets F.slot_int_rmul (typeIs_int s k t) F.entry_int_rmul (F.args_int_rmul_2 _ _) (int___rmul___int_list k t l bz.toArray n)
   ⟨e,rfl,⟨_,e,rfl⟩,call_meets F.slot_list_mul ⟨_,e,rfl⟩ F.entry_list_mul (F.args_list_mul_2 _ _) (AutoListH.list___mul___list_int_3 l bz.toArray n k t NY NX BG) ⟨e,?_⟩⟩)
 rw[BI]
 exact⟨.ref _,_,I.JK (t':=s.toks) (r.rep k.toNat) (by rw[len_rep,Nat.mul_comm];exact hz),rfl,q _ I.fresh⟩
end
section
variable {prog : Program} {w : World} {A : Around} {E : Value -> Shared -> Prop} {s : Shared}
end
section
variable {X : Cx}
end
end L2
namespace L2
open PySem PySem.Spec PyProof.Rows
section
variable {κ : Type} [DecidableEq κ]
noncomputable def df (kvs:List (κ×V)) (k:κ):Option V:=(kvs.find? λkv=>decide (kv.1=k)).map (·.2)
noncomputable def putK (kvs:List (κ×V)) (k:κ) (v:V):List (κ×V):=
 if (kvs.any λkv=>decide (kv.1=k))=true then kvs.map (λkv=>if kv.1=k then (kv.1,v) else kv) else kvs++ [(k,v)]
noncomputable def JN (kvs:List (κ×V)) (k:κ):List (κ×V):=kvs.filter λkv=>decide (kv.1≠k)
theorem gy {p:κ×V} {r:List (κ×V)} {k:κ} (e:p.1=k):df (p::r) k=some p.2:=by simp [df,aaD,e]
theorem eE {p:κ×V} {r:List (κ×V)} {k:κ} (e:¬p.1=k):df (p::r) k=df r k:=by simp [df,aaD,e]
theorem vp (k:κ):∀kvs:List (κ×V),(kvs.any λkv=>decide (kv.1=k))=(df kvs k).isSome
 | []=>rfl
 | p::r=>by
  rw[List.any_cons]
  by_cases e:p.1=k
  ·simp only[gy e,decide_eq_true e,Bool.true_or,Option.isSome_some]
  ·rw[eE e,decide_eq_false e,Bool.false_or];exact vp k r
theorem oz (kvs:List (κ×V)) (k:κ) (v:V):(putK kvs k v).length<=kvs.length+1:=by
 unfold putK
 split
 ·rw[aac];omega
 ·rw[aan,aar,aaW];omega
theorem ir.mP {o:Option V} {u:Option Value} (r:ir o u):o.isSome=u.isSome:=by
 cases o with
 | none=>cases u with
  | none=>rfl
  | some _=>exact(show False from r).elim
 | some _=>cases u with
  | none=>exact(show False from r).elim
  | some _=>rfl
theorem ir.getD {o:Option V} {u:Option Value} {d:V} {d':Value} (r:ir o u) (rd:RelV d d'):RelV (o.getD d) (u.getD d'):=by
 cases o with
 | none=>cases u with
  | none=>exact rd
  | some _=>exact(show False from r).elim
 | some _=>cases u with
  | none=>exact(show False from r).elim
  | some _=>exact r
theorem KV.val {kvs:List (κ×V)} {vs:List (κ×Value)} (r:KV kvs vs) (k:κ):ir (df kvs k) (valueAt vs k):=by
 unfold KV at r
 induction r with
 | nil=>exact True.intro
 | @cons p q ps qs h t ih=>
  obtain⟨h1,h2⟩:=h
  by_cases e:p.1=k
  ·have e':q.1=k:=h1.symm.trans e
   have b:valueAt (q::qs) k=some q.2:=by simp [valueAt,aaD,e']
   rw[gy e,b];exact h2
  ·have e':¬q.1=k:=λz=>e (h1.trans z)
   have b:valueAt (q::qs) k=valueAt qs k:=by simp [valueAt,aaD,e']
   rw[eE e,b];exact ih
theorem KV.any {kvs:List (κ×V)} {vs:List (κ×Value)} (r:KV kvs vs) (k:κ):(kvs.any λkv=>decide (kv.1=k))=vs.any λkv=>decide (kv.1=k):=by
 unfold KV at r
 induction r with
 | nil=>rfl
 | cons h t ih=>rw[List.any_cons,List.any_cons,ih,h.1]
theorem KV.GO {kvs:List (κ×V)} {vs:List (κ×Value)} (r:KV kvs vs) (k:κ) {y:V} {u:Value} (ry:RelV y u):
  KV (kvs.map λkv=>if kv.1=k then (kv.1,y) else kv) (vs.map λkv=>if kv.1=k then (kv.1,u) else kv):=by
 unfold KV at r ⊢
 induction r with
 | nil=>exact .nil
 | @cons p q ps qs h t ih=>
  rw[aae,aae]
  refine .cons ?_ ih
  obtain⟨h1,h2⟩:=h
  by_cases e:p.1=k
  ·rw[if_pos e,if_pos (h1.symm.trans e)];exact⟨h1,ry⟩
  ·rw[if_neg e,if_neg (λz=>e (h1.trans z))];exact⟨h1,h2⟩
theorem KV.put {kvs:List (κ×V)} {vs:List (κ×Value)} (r:KV kvs vs) (k:κ) {y:V} {u:Value} (ry:RelV y u):KV (putK kvs k y) (stored vs k u):=by
 unfold putK stored
 rw[r.any k]
 by_cases e:(vs.any λkv=>decide (kv.1=k))=true
 ·rw[if_pos e,if_pos e];exact r.GO k ry
 ·rw[if_neg e,if_neg e];exact Paired.snoc r ⟨rfl,ry⟩
theorem KV.length {kvs:List (κ×V)} {vs:List (κ×Value)} (r:KV kvs vs):kvs.length=vs.length:=Paired.length r
end
theorem lM {P:Program} {w:World} {k:Key} {u:Value} (r:RelV (kV k) u):(b8 P w).is k u=true:=by
 cases k with
 | inl i=>obtain⟨t,e⟩:=(show ∃t,u=Value.int i t from r);subst e;exact uY P w i t
 | inr x=>obtain⟨t,e⟩:=(show ∃t,u=Value.str x t from r);subst e;exact uZ P w x t
theorem sE {P:Program} {w:World}:∀{ks:List Key} {us:List Value},bH (ks.map kV) us->ItemsAre (b8 P w) ks us
 | [],_,r=>by rw[List.map_nil] at r;cases r;exact .nil
 | k::ks,_,r=>by
  rw[aae] at r
  cases r with
  | cons h t=>exact .cons (lM h) (sE t)
abbrev KT (H:Hp):List (List Key×V)->List (List Key×Addr×Value)->Prop:=Paired λp q=>p.1=q.1/\H q.2.1=some (.tup (p.1.map kV))/\RelV p.2 q.2.2
theorem KT.val {H:Hp} {kvs:List (List Key×V)} {xs:List (List Key×Addr×Value)} (r:KT H kvs xs) (k:List Key):ir (df kvs k) ((atKey xs k).map (·.2)):=by
 induction r with
 | nil=>exact True.intro
 | @cons p q ps qs h t ih=>
  obtain⟨h1,_,h2⟩:=h
  by_cases e:p.1=k
  ·have e':q.1=k:=h1.symm.trans e
   have b:atKey (q::qs) k=some q.2:=by simp [atKey,aaD,e']
   rw[gy e,b];exact h2
  ·have e':¬q.1=k:=λz=>e (h1.trans z)
   have b:atKey (q::qs) k=atKey qs k:=by simp [atKey,aaD,e']
   rw[eE e,b];exact ih
theorem KT.GO {H:Hp} {kvs:List (List Key×V)} {xs:List (List Key×Addr×Value)} (r:KT H kvs xs) (k:List Key) {y:V} {u:Value} (ry:RelV y u):
  KT H (kvs.map λkv=>if kv.1=k then (kv.1,y) else kv) (xs.map (putAt k u)):=by
 induction r with
 | nil=>exact .nil
 | @cons p q ps qs h t ih=>
  rw[aae,aae]
  refine .cons ?_ ih
  obtain⟨h1,h2,h3⟩:=h
  unfold putAt
  by_cases e:p.1=k
  ·rw[if_pos e,if_pos (h1.symm.trans e)];exact⟨h1,h2,ry⟩
  ·rw[if_neg e,if_neg (λz=>e (h1.trans z))];exact⟨h1,h2,h3⟩
theorem KT.put {H:Hp} {kvs:List (List Key×V)} {xs:List (List Key×Addr×Value)} (r:KT H kvs xs) (k:List Key) {b:Addr} {y:V} {u:Value} (hb:H b=some (.tup (k.map kV))) (ry:RelV y u):
  KT H (putK kvs k y) (storedH xs k b u):=by
 have e:(kvs.any λkv=>decide (kv.1=k))=(atKey xs k).isSome:=by
  rw[vp,(r.val k).mP,Option.isSome_map]
 unfold putK storedH
 rw[e]
 by_cases q:(atKey xs k).isSome=true
 ·rw[if_pos q,if_pos q];exact r.GO k ry
 ·rw[if_neg q,if_neg q];exact Paired.snoc r ⟨rfl,hb,ry⟩
theorem KT.keeps {H H':Hp} {kvs:List (List Key×V)} {xs:List (List Key×Addr×Value)} (r:KT H kvs xs) (ht:∀b ys,H b=some (.tup ys)->H' b=some (.tup ys)):KT H' kvs xs:=
 Paired.Gj r λ_ _ z=>⟨z.1,ht _ _ z.2.1,z.2.2⟩
section
variable {P : Program} {w : World} {H : Hp} {h : Heap} {a : Addr}
theorem Ft {u:HO} (ok:gi P w H h) (e:Rd H a u):cm P w H h a u:=e.ok ok
theorem oA {kvs:List (Key×V)} (ok:gi P w H h) (e:Rd H a (.dK kvs)):kvs.length<=sizeLine/\(a==sysModules)=false/\∃vs,KV kvs vs/\h.DictOf (b8 P w) a vs:=
 show cm P w H h a (.dK kvs) from Ft ok e
theorem zc {kvs:List (Key×V)} (ok:gi P w H h) (e:H a=some (.dK kvs)):kvs.length<=sizeLine/\(a==sysModules)=false/\∃vs,KV kvs vs/\h.DictOf (b8 P w) a vs:=oA ok (.inl e)
theorem pN {ks:List Key} (ok:gi P w H h) (e:H a=some (.tup (ks.map kV))):(tupleKind (b8 P w)).is h ks a:=by
 obtain⟨_,bz,r,o,h1,h2,n,h3⟩:=(show cm P w H h a (.tup (ks.map kV)) from ok a _ e)
 exact⟨o,bz.toArray,n,h1,h2,h3,by simpa using sE r⟩
theorem sF {kvs:List (List Key×V)} (ok:gi P w H h) (e:Rd H a (.dT kvs)):kvs.length<=sizeLine/\(a==sysModules)=false/\
  ∃xs,KT H kvs xs/\h.DictOfH (tupleKind (b8 P w)) a xs:=by
 obtain⟨z,y,xs,r,o,es,ep,h1,h2,h3,h4,h5⟩:=(show cm P w H h a (.dT kvs) from Ft ok e)
 refine⟨z,y,xs,r,o,es,ep,h1,h2,h3,h4,λx hx=>?_,h5⟩
 have all:∀{l:List (List Key×V)} {m:List (List Key×Addr×Value)},KT H l m->∀x∈m,(tupleKind (b8 P w)).is h x.1 x.2.1:=by
  intro l m q
  induction q with
  | nil=>intro x hx;exact nomatch hx
  | @cons p q ps qs hq t ih=>
   intro x hx
   rcases List.mem_cons.mp hx with e | hx
   ·subst e
    exact pN ok (by rw[<-hq.1];exact hq.2.1)
   ·exact ih x hx
 exact all r x hx
theorem JO {kvs:List (List Key×V)} (ok:gi P w H h) (e:H a=some (.dT kvs)):kvs.length<=sizeLine/\(a==sysModules)=false/\
  ∃xs,KT H kvs xs/\h.DictOfH (tupleKind (b8 P w)) a xs:=sF ok (.inl e)
end
noncomputable def iA (H:Hp) (a:Addr) (y:V) (r:Option V):Prop:=
 (∃kvs k,Rd H a (.dK kvs)/\y=kV k/\r=df kvs k)\/∃kvs k b,Rd H a (.dT kvs)/\y=.ref b/\H b=some (.tup (k.map kV))/\r=df kvs k
noncomputable def xH (H:Hp) (a:Addr) (y v:V) (H':Hp):Prop:=
 (∃kvs k,H a=some (.dK kvs)/\y=kV k/\kvs.length<sizeLine/\H'=upd H a (.dK (putK kvs k v)))\/
 ∃kvs k b,H a=some (.dT kvs)/\y=.ref b/\H b=some (.tup (k.map kV))/\kvs.length<sizeLine/\H'=upd H a (.dT (putK kvs k v))
theorem iA.k {H:Hp} {a:Addr} {kvs:List (Key×V)} {k:Key} (e:H a=some (.dK kvs)):iA H a (kV k) (df kvs k):=.inl ⟨kvs,k,.inl e,rfl,rfl⟩
theorem xH.k {H:Hp} {a:Addr} {kvs:List (Key×V)} {k:Key} {v:V} (e:H a=some (.dK kvs)) (hl:kvs.length<sizeLine):xH H a (kV k) v (upd H a (.dK (putK kvs k v))):=.inl ⟨kvs,k,e,rfl,hl,rfl⟩
section
variable {X : Cx} {pins : List (Addr × Obj)} {σ : St} {H : Hp} {s : Shared} {a : Addr} {y v : V} {u r : Value} {o : Option V} {A : Around} {E : Value -> Shared -> Prop}
theorem Inv.JP (I:Inv X pins σ H s):sysModules<s.heap.objs.size:=by
 have h:mainGlobals<s.heap.objs.size:=(I.mod.glob.keeps I.bk).lt
 exact aaM (by decide) h
theorem An {Q:Value->Shared->Prop} (hu:A.units+1<cLine) (I:Inv X pins σ H s) (g:iA H a y (some v)) (ry:RelV y u) (h:∀w' s',Inv X pins σ H s'->RelV v w'->Q w' s'):
  wpAny (model X.prog X.w) A (getItem (.ref a) u) Q E s:=by
 rcases g with ⟨kvs,k,e,ey,l⟩ | ⟨kvs,k,b,e,ey,eb,l⟩
 ·subst ey
  obtain⟨z,hd,vs,rel,dd⟩:=oA I.bP e
  obtain⟨w',hw,BE⟩:=ir.some_of (v:=v) (o:=valueAt vs k) (by rw[l];exact rel.val k)
  exact wpAny_getItem_of (lM ry) dd.mapOf hw (h w' _ (I.tok _) BE)
 ·subst ey
  cases (show u=Value.ref b from ry)
  obtain⟨z,hd,xs,rel,dd⟩:=sF I.bP e
  obtain⟨w',hw,BE⟩:=ir.some_of (v:=v) (o:=(atKey xs k).map (·.2)) (by rw[l];exact rel.val k)
  obtain⟨p,hp,MO⟩:=Option.map_eq_some_iff.mp hw
  refine wpAny_getItem_heap (tupleKind_room_in1 hu) (pN I.bP eb) dd hp ?_
  rw[MO]
  exact h w' _ (I.tok _) BE
theorem DY {Q:Value->Shared->Prop} (hu:A.units+1<cLine) (I:Inv X pins σ H s) (g:iA H a y o) (ry:RelV y u) (h:∀s',Inv X pins σ H s'->Q (.bool (!o.isSome)) s'):
  wpAny (model X.prog X.w) A (compareOp .NotIn u (.ref a)) Q E s:=by
 rcases g with ⟨kvs,k,e,ey,l⟩ | ⟨kvs,k,b,e,ey,eb,l⟩
 ·subst ey
  obtain⟨z,hd,vs,rel,dd⟩:=oA I.bP e
  refine wpAny_notIn_of (lM ry) hd dd.mapOf ?_
  rw[<-(rel.val k).mP,<-l]
  exact h _ (I.tok _)
 ·subst ey
  cases (show u=Value.ref b from ry)
  obtain⟨z,hd,xs,rel,dd⟩:=sF I.bP e
  refine wpAny_notIn_heap (tupleKind_room_in1 hu) (pN I.bP eb) hd dd ?_
  have q:=(rel.val k).mP
  rw[Option.isSome_map] at q
  rw[<-q,<-l]
  exact h _ (I.tok _)
theorem pe {h':Heap} {t':Nat} {ob:HO} (I:Inv X pins σ H s) (mu:Ju (H a)) (hs:Heap.SameBut a s.heap h') (he:∃q,h'.get? a=some q) (new:cm X.prog X.w (upd H a ob) h' a ob):
  Inv X pins σ (upd H a ob) {s with heap:=h',toks:=t'}:=
 I.write (x:=a) (e:=a) mu (.inl rfl) (λb q hb z=>(hs.2 b hb).trans z) he new
theorem xI {P:Program} {w:World} {H':Hp} {h':Heap} {kvs:List (Key×V)} {vs:List (Key×Value)} (z:kvs.length<=sizeLine) (hd:(a==sysModules)=false) (rel:KV kvs vs) (dd:h'.DictOf (b8 P w) a vs):
  cm P w H' h' a (.dK kvs):=⟨z,hd,vs,rel,dd⟩
theorem Ao {H':Hp} {Q:Unit->Shared->Prop} (hu:A.units+1<cLine) (I:Inv X pins σ H s) (g:xH H a y v H') (ry:RelV y u) (rv:RelV v r) (h:∀s',Inv X pins σ H' s'->Q () s'):
  wpAny (model X.prog X.w) A (setItem (.ref a) u r) Q E s:=by
 rcases g with ⟨kvs,k,e,ey,l,eH⟩ | ⟨kvs,k,b,e,ey,eb,l,eH⟩
 ·subst ey eH
  obtain⟨z,hd,vs,rel,dd⟩:=zc I.bP e
  have hz:vs.length<=sizeLine:=by rw[<-rel.length];exact z
  have hl:(putK kvs k v).length<=sizeLine:=by have:=oz kvs k v;omega
  refine wpAny_setItem_pairs (hsz:=hz) (lM ry) dd λh' Bb hs=>h _ ?_
  have he:∃q,h'.get? a=some q:=let ⟨q,_,_,hq,_⟩:=Bb;⟨q,hq⟩
  exact pe I (by rw[e];exact True.intro) hs he (xI hl hd (rel.put k rv) Bb)
 ·subst ey eH
  cases (show u=Value.ref b from ry)
  obtain⟨z,hd,xs,rel,dd⟩:=JO I.bP e
  have hz:xs.length<=sizeLine:=by rw[<-Paired.length rel];exact z
  have hl:(putK kvs k v).length<=sizeLine:=by have:=oz kvs k v;omega
  refine wpAny_setItem_heap (hsz:=hz) (tupleKind_room_in1 hu) (pN I.bP eb) dd λh' Bb hs=>h _ ?_
  obtain⟨q,es,ep,hq,h2,h3,h4,_,h5⟩:=Bb
  refine pe I (by rw[e];exact True.intro) hs ⟨q,hq⟩ ⟨hl,hd,_,(rel.put k eb rv).keeps λc ys ec=>?_,q,es,ep,hq,h2,h3,h4,h5⟩
  rw[aF (Jt ec e (λz=>nomatch z))]
  exact ec
end
section
variable {X : Cx} {pins : List (Addr × Obj)} {σ : St} {H : Hp} {s : Shared} {a : Addr} {kvs : List (Key × V)} {k : Key} {u : Value} {A : Around} {E : Value -> Shared -> Prop}
theorem JQ {Q:Value->Shared->Prop} (I:Inv X pins σ H s) (e:Rd H a (.dK kvs)) (h:∀t s',Inv X pins σ H s'->Q (.int kvs.length t) s'):wpAny (model X.prog X.w) A (call (.builtin "len") [.ref a]) Q E s:=by
 obtain⟨z,hd,vs,rel,dd⟩:=oA I.bP e
 refine call_len_dict hd dd (by rw[<-rel.length];rw[sizeLine_eq] at z;omega) ?_
 rw[<-rel.length]
 exact h _ _ (I.tok _)
end
noncomputable def GP (i:Expr):Prop:=∀ov iv,subscripted i false ov iv=operate [ov,iv] (getItem ov iv)
theorem zd {prog:Program} {w:World} {A:Around} {E:Value->Shared->Prop} {s:Shared} {env:Env} {value slice:Expr} {pos:Pos} {T id:String} {Q:Value->Shared->Prop}
  (hl:typeLookup (.type T) "__getitem__"=pure (some (.builtin id))) (hs:GP slice)
  (h:wpAny (model prog w) A (eval value env) (λo s₁=>wpAny (model prog w) A (eval slice env) (λi s₂=>s₂.TypeIs o T/\wpAny (model prog w) A (getItem o i) Q E s₂) E s₁) E s):
  wpAny (model prog w) A (eval (.Subscript value slice pos) env) Q E s:=by
 refine Subscript_ (wpAny_mono h (λo s₁ h₁=>wpAny_mono h₁ (λi s₂ h₂=>?_) λ_ _ x=>x) λ_ _ x=>x)
 obtain⟨hT,h₂⟩:=h₂
 unfold subscriptTail
 refine wpAny_bind ?_
 rw[getitemInPython_of_ne hT.not_modules]
 refine wpAny_bind (wpAny_specialOf hT hl ?_)
 have fin:wpAny (model prog w) A (subscripted slice false o i) (λr s₃=>wpAny (model prog w) A (letTemporaryGo value o r >>=λ_=>pure r) Q E s₃) E s₂:=by
  rw[hs o i]
  exact wpAny_operating (wpAny_mono h₂ (λr s₃ h₃=>wpAny_bind (wpAny_letTemporaryGo (wpAny_pure h₃))) λ_ _ x=>x)
 first
  | exact wpAny_pure (wpAny_bind fin)
  | exact wpAny_bind (wpAny_pure (wpAny_bind fin))
  | exact wpAny_bind fin
theorem vq {X:Cx} {pins:List (Addr×Obj)} {σ:St} {H:Hp} {s:Shared} {a:Addr} {y:V} {o:Option V} (I:Inv X pins σ H s) (g:iA H a y o):s.TypeIs (.ref a) "dict":=by
 rcases g with ⟨kvs,k,e,_,_⟩ | ⟨kvs,k,b,e,_,_,_⟩
 ·obtain⟨_,_,vs,_,dd⟩:=oA I.bP e
  exact dd.typeIs
 ·obtain⟨_,_,xs,_,dd⟩:=sF I.bP e
  exact dd.typeIs
noncomputable def tDGet (td ty:TE):TE:=λσ H Q=>td σ H λx H1=>ty σ H1 λy H2=>∃a v,x=.ref a/\iA H2 a y (some v)/\Q v H2
noncomputable def tDIn (ty td:TE):TE:=λσ H Q=>ty σ H λy H1=>td σ H1 λx H2=>∃a o,x=.ref a/\iA H2 a y o/\Q (.bl o.isSome) H2
noncomputable def tDNotIn (ty td:TE):TE:=λσ H Q=>ty σ H λy H1=>td σ H1 λx H2=>∃a o,x=.ref a/\iA H2 a y o/\Q (.bl (!o.isSome)) H2
noncomputable def sDPut (td ty tv:TE):TS:=λD σ H=>tv σ H λv H1=>td σ H1 λx H2=>ty σ H2 λy H3=>∃a H4,x=.ref a/\xH H3 a y v H4/\D.nx σ H4
section
variable {X : Cx} {o i e value : Expr} {pos pos' tQ : Pos} {td ty tv : TE}
theorem dk (hu:X.A.units+1<cLine) (ho:PE X o td) (hi:PE X i ty) (hs:GP i):PE X (.Subscript o i pos) (tDGet td ty):=by
 intro pins s σ H Q I h
 refine zd PySem.F.slot_dict_getitem.lookup hs (cw (ho pins s σ H _ I h) λu s1 ⟨x,H1,I1,rx,q1⟩=>cw (hi pins s1 σ H1 _ I1 q1) λiv s2 ⟨y,H2,I2,ry,a,v,ex,g,q2⟩=>?_)
 subst ex
 obtain rfl:u=Value.ref a:=rx
 exact⟨vq I2 g,An hu I2 g ry λw' s3 I3 BE=>⟨v,H2,I3,BE,q2⟩⟩
theorem mQ (hu:X.A.units+1<cLine) (hi:PE X i ty) (ho:PE X o td):PC X .NotIn i o (tDNotIn ty td):=by
 intro pins s σ H Q I h
 refine cw (hi pins s σ H _ I h) λiv s1 ⟨y,H1,I1,ry,q1⟩=>cw (ho pins s1 σ H1 _ I1 q1) λu s2 ⟨x,H2,I2,rx,a,ov,ex,g,q2⟩=>?_
 subst ex
 obtain rfl:u=Value.ref a:=rx
 exact DY hu I2 g ry λs3 I3=>⟨.bl (!ov.isSome),H2,I3,rfl,q2⟩
theorem lN (hu:X.A.units+1<cLine) (ho:PE X o td) (hi:PE X i ty) (hv:PE X value tv) (hs:swapsWith value (some (.Subscript o i pos')) pos.line X.env=pure false):
  PS X (.Assign [.Subscript o i pos'] value pos) (sDPut td ty tv):=by
 intro pins s σ H D I h
 refine wpAny_Assign_Subscript (cw (hv pins s σ H _ I h) λr s1 ⟨v,H1,I1,rv,q1⟩=>cw (ho pins s1 σ H1 _ I1 q1) λu s2 ⟨x,H2,I2,rx,q2⟩=>cw (hi pins s2 σ H2 _ I2 q2) λiv s3 ⟨y,H3,I3,ry,a,H4,ex,g,q3⟩=>?_) hs
 subst ex
 obtain rfl:u=Value.ref a:=rx
 exact Ao hu I3 g ry rv λs4 I4=>⟨σ,H4,I4,q3⟩
end
theorem vt {P:Program} {w:World} {H:Hp} (h:Heap) (hb:sysModules<h.objs.size):cm P w H (h.push {cls:=.type "dict",data:=.dict #[]}) h.objs.size (.dK []):=
 ⟨aak _,beq_eq_false_iff_ne.mpr (Ne.symm (aaj hb)),[],.nil,Heap.DictOf.new h⟩
noncomputable def tDNewK:TE:=λ_ H Q=>∀p,H p=none->Q (.ref p) (upd H p (.dK []))
section
variable {X : Cx} {pos : Pos}
theorem lO:PE X (.Dict [] [] pos) tDNewK:=λpins s σ H Q I h=>
 wpAny_Dict_empty ⟨.ref s.heap.objs.size,_,I.laid (a:=s.heap.objs.size) (o:=.dK []) (t':=s.toks) (λ_ _ q=>Heap.get?_push_of_some _ q) (aaf _) (vt s.heap I.JP),rfl,h _ (I.bP.fresh (aaf _))⟩
end
abbrev VV:List (V×V)->List (Value×Value)->Prop:=Paired λp q=>RelV p.1 q.1/\RelV p.2 q.2
structure M1 (X:Cx) (o:Expr) (m:Str) (apos:Pos) (e:Expr) (cZ:Pos):Prop where
 base:attributeBase o m X.env (eval o X.env)=eval o X.env
 MP:((backTo cZ (starEach [e] X.env)).all (λx=>!x.1) && (backToKw cZ (keywordEach [] X.env)).all (λx=>x.1.isSome)
  && decide (([e]:List Expr).length+ ([]:List Keyword).length+ (if ([]:List Keyword).isEmpty then 0 else 1)<30))=true
 line:(apos.endLine==cZ.line)=true
 trees:backTo cZ (starEach [e] X.env)=[(false,eval e X.env)]
structure M2 (X:Cx) (o:Expr) (m:Str) (apos:Pos) (e f:Expr) (cZ:Pos):Prop where
 base:attributeBase o m X.env (eval o X.env)=eval o X.env
 MP:((backTo cZ (starEach [e,f] X.env)).all (λx=>!x.1) && (backToKw cZ (keywordEach [] X.env)).all (λx=>x.1.isSome)
  && decide (([e,f]:List Expr).length+ ([]:List Keyword).length+ (if ([]:List Keyword).isEmpty then 0 else 1)<30))=true
 line:(apos.endLine==cZ.line)=true
 trees:backTo cZ (starEach [e,f] X.env)=[(false,eval e X.env),(false,eval f X.env)]
noncomputable def MQ (H:Hp) (a:Addr):Prop:=(∃kvs,Rd H a (.dK kvs))\/∃kvs,Rd H a (.dT kvs)
theorem GQ {X:Cx} {pins:List (Addr×Obj)} {σ:St} {H:Hp} {s:Shared} {a:Addr} (I:Inv X pins σ H s) (d:MQ H a):
  s.TypeIs (.ref a) "dict"/\(∀b,Value.ref a=.ref b->∃ob,s.heap.get? b=some ob/\ob.dict=none)/\(a==sysModules)=false:=by
 rcases d with ⟨kvs,e⟩ | ⟨kvs,e⟩
 ·obtain⟨_,hd,vs,_,dd⟩:=oA I.bP e
  refine⟨dd.typeIs,λb q=>?_,hd⟩
  cases q
  obtain⟨ob,_,_,h1,h2,_⟩:=dd
  exact⟨ob,h1,h2.2.1⟩
 ·obtain⟨_,hd,xs,_,dd⟩:=sF I.bP e
  refine⟨dd.typeIs,λb q=>?_,hd⟩
  cases q
  obtain⟨ob,_,_,h1,h2,_⟩:=dd
  exact⟨ob,h1,h2.2.1⟩
section
variable {X : Cx} {pins : List (Addr × Obj)} {σ : St} {H : Hp} {s : Shared} {a : Addr} {y d : V} {u r : Value} {o : Option V} {A : Around} {E : Value -> Shared -> Prop}
theorem GR {Q:Value->Shared->Prop} (hu:A.units+1<cLine) (I:Inv X pins σ H s) (g:iA H a y o) (ry:RelV y u) (rd:RelV d r) (h:∀w' s',Inv X pins σ H s'->RelV (o.getD d) w'->Q w' s'):
  wpAny (model X.prog X.w) A (call (.builtin "dict.get") [.ref a,u,r]) Q E s:=by
 rcases g with ⟨kvs,k,e,ey,l⟩ | ⟨kvs,k,b,e,ey,eb,l⟩
 ·subst ey
  obtain⟨z,hd,vs,rel,dd⟩:=oA I.bP e
  refine call_meetsIn PySem.F.slot_dict_get dd.typeIs PySem.F.entry_dict_get (PySem.F.args_dict_get_3 _ _ _) (meets_dict_get_default (b8 X.prog X.w) a (lM ry) hd r) ⟨_,dd.mapOf,h _ _ (I.tok _) ?_⟩
  rw[l]
  exact(rel.val k).getD rd
 ·subst ey
  cases (show u=Value.ref b from ry)
  obtain⟨z,hd,xs,rel,dd⟩:=sF I.bP e
  refine call_meetsIn PySem.F.slot_dict_get dd.typeIs PySem.F.entry_dict_get (PySem.F.args_dict_get_3 _ _ _) (meetsH_dict_get_default (tupleKind (b8 X.prog X.w)) a b hd r) ⟨tupleKind_room_in1 hu,k,xs,pN I.bP eb,dd,h _ _ (I.tok _) ?_⟩
  rw[l]
  exact(rel.val k).getD rd
end
noncomputable def tDGet1 (td ty:TE):TE:=λσ H Q=>td σ H λx H1=>∃a,x=.ref a/\MQ H1 a/\ty σ H1 λy H2=>∃o,iA H2 a y o/\Q (o.getD .de) H2
noncomputable def tDGet2 (td ty tx:TE):TE:=λσ H Q=>td σ H λx H1=>∃a,x=.ref a/\MQ H1 a/\ty σ H1 λy H2=>tx σ H2 λz H3=>∃o,iA H3 a y o/\Q (o.getD z) H3
noncomputable def tDPop1 (td ty:TE):TE:=λσ H Q=>td σ H λx H1=>∃a,x=.ref a/\MQ H1 a/\ty σ H1 λy H2=>∃kvs k v,H2 a=some (.dK kvs)/\y=kV k/\df kvs k=some v/\Q v (upd H2 a (.dK (JN kvs k)))
section
variable {X : Cx} {o e f : Expr} {apos cZ : Pos} {td ty tx : TE}
theorem BJ (hu:X.A.units+1<cLine) (ho:PE X o td) (he:PE X e ty) (hf:PE X f tx) (m:M2 X o "get" apos e f cZ):PE X (.Call (.Attribute o "get" apos) [e,f] [] cZ) (tDGet2 td ty tx):=by
 intro pins s σ H Q I h
 refine wpAny_Call_method m.base m.MP m.line PySem.F.plainAttrs_dict PySem.F.slot_dict_get PySem.F.type_dict_get (cw (ho pins s σ H _ I h) λu s1 ⟨x,H1,I1,rx,a,ex,d,q1⟩=>?_)
 subst ex
 obtain rfl:u=Value.ref a:=rx
 obtain⟨t1,t2,_⟩:=GQ I1 d
 refine⟨t1,t2,?_⟩
 rw[m.trees]
 refine Calls.callWith_builtin rfl (Calls.evalArgs_plain (Calls.spliced_cons (cw (he pins s1 σ H1 _ I1 q1) λiv s2 ⟨y,H2,I2,ry,q2⟩=>
  Calls.spliced_cons (cw (hf pins s2 σ H2 _ I2 q2) λfv s3 ⟨z,H3,I3,rz,ov,g,q3⟩=>Calls.spliced_nil ?_))))
 exact GR hu I3 g ry rz λw' s4 I4 BE=>⟨_,H3,I4,BE,q3⟩
end
section
variable {X : Cx} {pins : List (Addr × Obj)} {σ : St} {H : Hp} {s : Shared} {a : Addr} {kvs : List (Key × V)} {A : Around} {E : Value -> Shared -> Prop}
end
section
variable {X : Cx} {pins : List (Addr × Obj)} {σ : St} {H : Hp} {s : Shared} {a : Addr} {y : V} {u : Value} {A : Around} {E : Value -> Shared -> Prop}
end
end L2
namespace UY
open PySem PySem.W PySem.Calls PyProof.Rows
theorem oR {P:Params} {h:Heap}:∀(ns:List Int) (vs:List Value),WellAll P h vs (ns.map WData.int)->IntsAre vs ns:=by
 intro ns
 induction ns with
 | nil=>
  intro vs w
  rw[List.map_nil] at w
  cases w
  exact .nil
 | cons n ns ih=>
  intro vs w
  rw[aae] at w
  cases w with
  | cons a b=>
   cases a
   exact .cons _ _ (ih _ b)
theorem Ap {l:OpenLaw} {n:Nat} (hn:l.most=some n) {P:Params} {h:Heap} {args:List WData} {vals:List Value}
  (DZ:l.row.toRowW.claim.pre args=true) (xJ:WellAll P h vals args):
  ∃a vs ns,vals=[Value.ref a]/\args=[WData.list (ns.map WData.int)]/\h.get? a=some {cls:=.type "list",data:=.seq vs.toArray}/\IntsAre vs ns/\ns.length<=n:=by
 have c5:WShape.hasAll [] args [.list .int]=true:=(pre_splitW DZ).1
 have hc:l.pre.holds [] {args:=args}=true:=(pre_splitW DZ).2
 obtain⟨d,r,rfl,h1,h2⟩:=hasAllW_cons c5
 obtain rfl:=hasAllW_nil h2
 obtain⟨xs,rfl,h3⟩:=hasW_list h1
 obtain⟨ns,rfl⟩:=items_int h3
 have hlen:ns.length<=n:=by
  unfold OpenLaw.pre at hc
  have h4:(WTm.not (.lt (.lit (.int (n:Int))) (.len (.arg 0)))).holds [] {args:=[.list (ns.map .int)]}=true:=by
   have h4:=(holds_andW hc).1
   rw[hn] at h4
   exact h4
  have h5:=condW_of h4 (w_not (w_lt w_lit (w_len_list (w_arg rfl))))
  rw[aac] at h5
  refine Nat.le_of_not_lt λq=>?_
  have q':(n:Int)< ((ns.length:Nat):Int):=by omega
  first
   | (rw[decide_eq_true q'] at h5;exact absurd h5 (by decide))
   | (simp at h5;omega)
 cases xJ with
 | cons w1 w2=>
  cases w2
  cases w1 with
  | list ho vv=>exact⟨_,_,ns,rfl,rfl,ho,oR ns _ vv,hlen⟩
theorem Aq (l:OpenLaw) (args:List WData):l.row.toRowW.claim.post args (.bool true) args=true:=
 postW_of (r:=l.row.toRowW) (X:=(true==true))
  (show WShape.has [] (.bool true) .bool=true by first | rfl | decide | simp [WShape.has,WShape.arms,WShape.armsAll])
  (show(WTm.eq .res (.lit (.bool true))).value [] {args:=args,res:=some (.bool true),after:=args}=some (.bool (true==true)) from w_eq_bool (w_res rfl) w_lit) rfl
theorem vx {l:OpenLaw} {n:Nat} {q:Program} {loose:List Str} {XP:(Str->Option Value)->Heap->Prop} {YP:World->Heap->Prop} {d:DefRec}
  (hn:l.most=some n) (JR:d.params.defaults=[])
  (call:∀(w:World) (s₀ s₁:Shared) (mg mb:Str->Option Value) (fa:Addr) (o:Obj) (pm cd doc:Value) (a:Addr) (vs:List Value) (ns:List Int),
   Ground q loose [] XP w s₀ mg mb s₁.heap->YP w s₁.heap->
   s₁.heap.get? fa=some o->o.data=.func (docDef d.name d.params d.body d.scope pm cd doc)->s₁.heap.CodeRec cd d.name->mg d.name=some (.ref fa)->
   s₁.heap.get? a=some {cls:=.type "list",data:=.seq vs.toArray}->IntsAre vs ns->ns.length<=n->s₁.gens=#[]->
   codeAny (model l.prog w) callerA (.call (.ref fa) ⟨[.ref a],[]⟩) (λr s'=>r=.ok (.ret (.bool true))/\OldK s₁.heap s'.heap/\s'.os=s₁.os/\AllBare s'.gens) s₁):
  WalkO q loose XP YP l.row.toRowW d [] (λf vs=>PySem.call f vs):=by
 intro w s₀ s₁ mg mb G Y fa o pm cd doc dV kV ho hd Ac hD JS hg args vals as DZ Xf hrd xJ hlo
 obtain rfl:dV=.none:=Dflts.none hD JR
 obtain rfl:kV=.none:=Dflts.noKw hD
 obtain⟨a,vs,ns,rfl,rfl,GS,hints,hlen⟩:=Ap hn DZ xJ
 refine enter_call (codeAny_mono (call w s₀ s₁ mg mb fa o pm cd doc a vs ns G Y ho (fd_plain hd) Ac JS GS hints hlen hg) λr s' hq=>?_)
 obtain⟨rfl,h2,h3,h4⟩:=hq
 exact⟨.inl ⟨.bool true,.bool true,[],rfl,λ_=>rfl,.bool true,Aq l _,λ_=>⟨List.Pairwise.nil,λ_ hm=>(nomatch hm)⟩⟩,h2,h3,h4⟩
section
variable {prog : Program} {w : World} {A : Around} {E : Value -> Shared -> Prop} {s : Shared} {K : Frag}
end
end UY
namespace L2
open PySem PySem.Spec PyProof.Rows
theorem sG:∀{vs:List Value} {ns:List Int},IntsAre vs ns->bH (ns.map V.int) vs
 | _,_,.nil=>.nil
 | _,_,.cons n t h=>.cons ⟨t,rfl⟩ (sG h)
noncomputable def GU (H:Hp):Prop:=∀b,H b=none\/∃o xs,H b=some (.uP o (.lst xs))
theorem law_call {P:Program} {w:World} {K:PySem.W.Frag} {mg mb:Str->Option Value} {CX:ox} {k:Nat} {fa a:Addr} {fd:FuncData} {x:Str} {sp:Sp} {s₁:Shared} {vs:List Value} {ns:List Int}
  (KX:K.In s₁.heap) (UZ:s₁.heap.Ns mainGlobals mg) (hb:s₁.heap.Ns builtinsNs mb) (Xg:∀x:Str,x≠"__name__"->mb x=bootBuiltins x) (NZ:s₁.heap.NoLimit) (hg:s₁.gens=#[])
  (ha:s₁.heap.get? a=some {cls:=.type "list",data:=.seq vs.toArray}) (hi:IntsAre vs ns) (hl:ns.length<=sizeLine) (hr:dh k callerA)
  (F:∀base:Heap,K.In base->base.Ns mainGlobals mg->fk P w K mg base CX k fa fd [x] sp) (JT:∀(s:Shared) (u:Value),BindsTo s fd ⟨[u],[]⟩ [(x,u)])
  (Dm:∀H:Hp,GU H->bN K H a (ns.map V.int)->sp [.ref a] H (λv _=>v=.bl true) λ_ _ _=>False)
  (N4:∀H e s',CX [] H s₁ (λ_ _ _=>False) e s'->False):
  codeAny (model P w) callerA (.call (.ref fa) ⟨[.ref a],[]⟩) (λr s'=>r=.ok (.ret (.bool true))/\OldK s₁.heap s'.heap/\s'.os=s₁.os/\AllBare s'.gens) s₁:=by
 have rv:=sG hi
 have N6:=hi.length
 have core:∀H:Hp,GU H->bN K H a (ns.map V.int)->gi P w H s₁.heap->(∀b,H b≠none->b=a)->(H a≠none->K.lookup a=none)->
   codeAny (model P w) callerA (.call (.ref fa) ⟨[.ref a],[]⟩) (λr s'=>r=.ok (.ret (.bool true))/\OldK s₁.heap s'.heap/\s'.os=s₁.os/\AllBare s'.gens) s₁:=by
  intro H hO hS bP hA hK
  have ze:∀{b:Addr} {o:Obj},s₁.heap.get? b=some o->H b=none->(tJ s₁.heap H).get? b=some o:=λe n=>Bn e n
  have JE:∀{b:Addr} {o:Obj} {es:Array DictEntry} {ep:Nat},s₁.heap.get? b=some o->o.data=.dict es ep->H b=none:=λ{b o es ep} e d=>by
   cases q:H b with
   | none=>rfl
   | some u=>
    have e':b=a:=hA b (by rw[q];simp)
    subst e'
    rw[ha] at e;cases e
    have d':Data.seq vs.toArray _=Data.dict es ep:=d
    cases d'
  have MR:∀{b:Addr} {m:Str->Option Value},s₁.heap.Ns b m->(tJ s₁.heap H).Ns b m:=λ{b m} ⟨o,es,ep,e,d,r⟩=>⟨o,es,ep,ze e (JE e d),d,r⟩
  have U0:K.In (tJ s₁.heap H):=λb o e=>ze (KX b o e) (by
   cases q:H b with
   | none=>rfl
   | some u=>
    have e':b=a:=hA b (by rw[q];simp)
    subst e'
    rw[hK (by rw[q];simp)] at e;cases e)
  have hM:Mod K mg (tJ s₁.heap H):=⟨U0,MR UZ,⟨mb,MR hb,Xg⟩,let ⟨mc,h1,h2⟩:=NZ;⟨mc,MR h1,h2⟩⟩
  have e0:xu P w K mg (tJ s₁.heap H) callerA [] s₁ H:=⟨rfl,hM,λb o e=>DE e,Nat.le_of_eq (Aa _ _),trivial,λb hb=>absurd (show b∈([]:List Addr) from hb) (by simp),bP,.of_eq hg⟩
  refine codeAny_mono ((F _ U0 (MR UZ)).run callerA [] s₁ H ⟨[.ref a],[]⟩ [.ref a] [.ref a] _ _ hr e0 (JT s₁ (.ref a)) (.cons rfl .nil) (Dm H hO hS)) λr s' h=>?_
  cases r with
  | error e=>exact(N4 H e s' h).elim
  | ok fl=>
   cases fl with
   | next=>exact False.elim h
   | brk=>exact False.elim h
   | cont=>exact False.elim h
   | ret u=>
    obtain⟨v,H',os,bare,un,N7,r',q⟩:=h
    have q':v=.bl true:=q
    subst q'
    obtain rfl:u=Value.bool true:=r'
    refine⟨rfl,OldK.of_keep λb o e=>?_,os,bare⟩
    cases q:H b with
    | none=>exact un.keep b o e q (by intro z;exact absurd (show b∈([]:List Addr) from z) (by simp)) (by simp)
    | some u=>
     rcases hO b with z | ⟨ob,xs,z⟩
     ·rw[q] at z;cases z
     ·have z2:=un.gw b ob _ z
      obtain⟨e1,_⟩:=bP b _ z
      obtain⟨e2,_⟩:=N7 b _ z2
      rw[e] at e1;cases e1
      exact e2
 cases hk:K.lookup a with
 | some o=>
  have e:=KX a o hk
  rw[ha] at e
  cases e
  refine core (λ_=>none) (λ_=>.inl rfl) (.inr ⟨_,vs.toArray,_,hk,rfl,rfl,rfl,by rw[aam,N6];exact hl,by simpa using rv⟩) (λb u z=>by have z':(none:Option HO)=some u:=z;cases z') (λb z=>absurd rfl z) λz=>absurd rfl z
 | none=>
  refine core (λb=>if b=a then some (.uP {cls:=.type "list",data:=.seq vs.toArray} (.lst (ns.map V.int))) else none) (λb=>?_) (.inl (.inr ⟨{cls:=.type "list",data:=.seq vs.toArray},if_pos rfl⟩)) (λb u z=>?_) (λb z=>?_) λ_=>hk
  ·by_cases hb:b=a
   ·exact .inr ⟨_,_,if_pos hb⟩
   ·exact .inl (if_neg hb)
  ·by_cases hb:b=a
   ·have z':=(if_pos hb).symm.trans z
    cases z'
    subst hb
    exact⟨ha,by rw[aac];exact hl,vs,_,rv,ha⟩
   ·have z':=(if_neg hb).symm.trans z
    cases z'
  ·by_cases hb:b=a
   ·exact hb
   ·exact absurd (if_neg hb) z
end L2
namespace L2
open PySem PySem.Spec PyProof.Rows
abbrev KOf {K:PySem.W.Frag} {h:Heap} (_:K.In h):PySem.W.Frag:=K
theorem D1 {l:PySem.W.OpenLaw} {n k:Nat} {q:Program} {loose:List Str} {XP:(Str->Option Value)->Heap->Prop} {YP:World->Heap->Prop} {d:DefRec} {K:Params->PySem.W.Frag} {CX:World->ox} {sp:World->Sp} {x:Str}
  (hn:l.most=some n) (MN:n<=sizeLine) (JR:d.params.defaults=[]) (hr:dh k callerA)
  (hY:∀(w:World) (h:Heap),YP w h->(K w.params).In h)
  (F:∀(w:World) (mg:Str->Option Value) (fa:Addr) (h:Heap),(K w.params).In h->h.Ns mainGlobals mg->mg d.name=some (.ref fa)->
   ∃fd:FuncData,(∀(s:Shared) (u:Value),BindsTo s fd ⟨[u],[]⟩ [(x,u)])/\
    ∀base:Heap,(K w.params).In base->base.Ns mainGlobals mg->fk l.prog w (K w.params) mg base (CX w) k fa fd [x] (sp w))
  (Dm:∀(w:World) (H:Hp) (a:Addr) (ns:List Int),ns.length<=n->GU H->bN (K w.params) H a (ns.map V.int)->sp w [.ref a] H (λv _=>v=.bl true) λ_ _ _=>False)
  (N4:∀(w:World) (H:Hp) (s:Shared) (e:Value) (s':Shared),CX w [] H s (λ_ _ _=>False) e s'->False):
  PySem.W.WalkO q loose XP YP l.row.toRowW d [] (λf vs=>PySem.call f vs):=by
 refine UY.vx hn JR λw s₀ s₁ mg mb fa o pm cd doc a vs ns G Y ho hd Ac JS GS hints hlen hg=>?_
 have KX:=hY w _ Y
 obtain⟨fd,hb,hF⟩:=F w mg fa _ KX G.T.g JS
 exact law_call KX G.T.g G.T.b G.T.builtins G.T.nolimit hg GS hints (aax hlen MN) hr hF hb (λH hO hS=>Dm w H a ns hlen hO hS) λH e s'=>N4 w H s₁ e s'
end L2
namespace L2
open PySem PySem.Spec PyProof.Rows
noncomputable def inClass (s:Stmt) (j:Nat):Stmt:=match s with
 | .ClassDef _ _ _ body _ _ _ _ _ _ _=>body.getD j (.Pass ⟨0,0,0,0⟩)
 | _=>.Pass ⟨0,0,0,0⟩
noncomputable def bg (s:Stmt):Arguments:=match s with
 | .FunctionDef _ a _ _ _ _ _ _ _ _=>a
 | _=>{posonlyargs:=[],args:=[],vararg:=none,kwonlyargs:=[],kw_defaults:=[],kwarg:=none,defaults:=[]}
noncomputable def bc (s:Stmt):List Stmt:=match s with
 | .FunctionDef _ _ b _ _ _ _ _ _ _=>b
 | _=>[]
noncomputable def aw (s:Stmt):Scope:=match s with
 | .FunctionDef _ _ _ _ _ _ sc _ _ _=>sc
 | _=>{kind:=.function,names:=[],isGenerator:=false,isCoroutine:=false}
abbrev CX0:ox:=λ_ _ _ _ _ _=>False
abbrev E0:XK:=λ_ _ _=>False
structure xK (K:PySem.W.Frag) (x qual:Str) (st:Stmt) (f:Addr) (fd:FuncData):Prop where
 ex:∃(oc:Value) (od:Option Addr) (kV doc pm:Value) (an:Option Addr) (bZ ct:Value) (DS:Array (Option Value)),
  fd=PySem.W.fnOf x qual (bg st) (bc st) (aw st) .none kV doc pm an bZ ct/\K.lookup f=some ⟨oc,od,.func fd,DS⟩/\PySem.W.codeIn K bZ qual=true
 kp:PySem.W.keepIn K (.ref f)=true
section
variable {P : Program} {w : World} {K : PySem.W.Frag} {mg : Str -> Option Value} {base : Heap}
theorem xK.binds {x qual:Str} {st:Stmt} {f:Addr} {fd:FuncData} {ps:List Str} (F:xK K x qual st f fd)
  (h:∀(kV doc pm:Value) (an:Option Addr) (bZ ct:Value) (us:List Value),us.length=ps.length->bindArgs (PySem.W.fnOf x qual (bg st) (bc st) (aw st) .none kV doc pm an bZ ct) ⟨us,[]⟩=pure (ps.zip us)):Binds K fd ps []:=by
 obtain⟨oc,od,kV,doc,pm,an,bZ,ct,DS,rfl,lk,Ac⟩:=F.ex
 exact .all (h kV doc pm an bZ ct)
theorem bA {x qual:Str} {st:Stmt} {f:Addr} {oc:Value} {od an:Option Addr} {DS:Array (Option Value)} {kV doc pm bZ ct:Value} (l:K.lookup f=some ⟨oc,od,.func (PySem.W.fnOf x qual (bg st) (bc st) (aw st) .none kV doc pm an bZ ct),DS⟩)
  (c:PySem.W.codeIn K bZ qual=true) (k:PySem.W.keepIn K (.ref f)=true):xK K x qual st f (PySem.W.fnOf x qual (bg st) (bc st) (aw st) .none kV doc pm an bZ ct):=⟨⟨oc,od,kV,doc,pm,an,bZ,ct,DS,rfl,l,c⟩,k⟩
end
theorem dt {A:Around} {k:Nat} (hr:dh k A):A.units+1<cLine:=Nat.lt_of_le_of_lt (Nat.add_le_add_left (by decide:1<=64) _) hr.units
section
variable {X : Cx}
theorem pv (i:Nat) {x:Str} {pos:Pos} (hN:X.N[i]?=some x:=by rfl) (hv:NG X.env.scope x:=by first | exact Or.inl rfl | exact Or.inr (Or.inl rfl) | exact Or.inr (Or.inr rfl)) (hd:(x==("__debug__":Str))=false:=by decide)
  (Ac:(x==("__classdict__":Str))=false:=by decide):PE X (.Name x pos) (tVar i):=Gs hN hv hd Ac
end
theorem GV {A B:Prop} (h:A):if true=true then A else B:=by
 rw[if_pos rfl]
 exact h
theorem rj {c A B:Prop} [Decidable c] (h1:c->A) (h2:¬c->B):if c then A else B:=by
 by_cases h:c
 ·rw[if_pos h]
  exact h1 h
 ·rw[if_neg h]
  exact h2 h
noncomputable def aE (H H':Hp):Prop:=∀b o,H b=some o->H' b=some o
theorem aE.refl (H:Hp):aE H H:=λ_ _ h=>h
theorem aE.trans {H H1 H2:Hp} (a:aE H H1) (b:aE H1 H2):aE H H2:=λc o h=>b c o (a c o h)
theorem aE.seq {K:PySem.W.Frag} {H H':Hp} {a:Addr} {xs:List V} (e:aE H H') (h:bN K H a xs):bN K H' a xs:=by
 rcases h with (h | ⟨o,h⟩) | h
 ·exact .inl (.inl (e _ _ h))
 ·exact .inl (.inr ⟨o,e _ _ h⟩)
 ·exact .inr h
end L2
namespace L2
open PySem PySem.Spec PyProof.Rows
section
variable {X : Cx}
theorem sH:cR X (.builtin "len") (λxs H Q=>∃a kvs,xs=[V.ref a]/\H a=some (.dK kvs)/\Q (.int kvs.length) H):=by
 intro pins s σ H xs us Q I r h
 obtain⟨a,kvs,rfl,ha,q⟩:=h
 obtain⟨u,rfl,ru⟩:=vals1 r
 cases ru
 exact JQ I (.inl ha) λt s' I'=>⟨.int kvs.length,H,I',⟨t,rfl⟩,q⟩
end
section
variable {κ : Type} [DecidableEq κ]
end
end L2
namespace L2
open PySem PySem.Spec PyProof.Rows
noncomputable def Bt (n:Nat) (i:Int):Prop:=i.natAbs<2^n
theorem Bt.neg {n:Nat} {i:Int} (h1:Bt n i):Bt n (-i):=by
 unfold Bt at *
 omega
theorem Bt.le {n:Nat} {i j:Int} (h:Bt n j) (q:i.natAbs<=j.natAbs):Bt n i:=Nat.lt_of_le_of_lt q h
theorem Bt.of {n:Nat} {i:Int} (b:Nat) (h1:-(b:Int)<=i) (h2:i<=(b:Int)) (h:b<2^n:=by decide +kernel):Bt n i:=by
 unfold Bt
 exact Nat.lt_of_le_of_lt (by omega) h
theorem Bt.log {n:Nat} {i:Int} (h:Bt n i) (q:n<=9000:=by decide):i.natAbs.log2<9000:=by
 by_cases z:i.natAbs=0
 ·rw[z];decide
 ·exact aat ((Nat.log2_lt z).mpr h) q
theorem dN {i j:Int} (h1:-(2^64)<i:=by decide) (h2:i<2^64:=by decide):IntMulOk i j:=.of_left (intBits_le_64 h1 h2)
theorem xM {i j:Int} (h1:-(2^64)<j:=by decide) (h2:j<2^64:=by decide):IntMulOk i j:=.of_right (intBits_le_64 h1 h2)
section
variable {X : Cx}
theorem cH:oi X (binaryOp .Mult) (rI IntMulOk λi j=>.int (i*j)):=MM λ_ _ _ _ _ _ _ hc q=>mul_int q hc
noncomputable def dA (_ j:Int):Prop:=0<j/\j.natAbs.log2<9000
theorem dA.of {i j:Int} {n:Nat} (h:0<j) (b:Bt n j) (q:n<=9000:=by decide):dA i j:=⟨h,b.log q⟩
theorem dA.lit {i j:Int} (h:0<j:=by decide) (q:j.natAbs.log2<9000:=by decide):dA i j:=⟨h,q⟩
theorem cI:oi X (binaryOp .FloorDiv) (rI dA λi j=>.int (i / j)):=MM λi j _ _ _ _ _ hc q=>by
 have h1:(0:Int)<j:=hc.1
 exact floordiv_int (by omega) (by rw[Int.fdiv_eq_ediv_of_nonneg i (by omega)];exact q) (.inl (PyProof.noPylong_of_log2 hc.2))
noncomputable def pO (_ j:Int):Prop:=j≠0/\j.natAbs.log2<9000
theorem pO.of {i j:Int} {n:Nat} (h:j≠0) (b:Bt n j) (q:n<=9000:=by decide):pO i j:=⟨h,b.log q⟩
theorem vy:oi X (binaryOp .FloorDiv) (rI pO λi j=>.int (i.fdiv j)):=MM λ_ _ _ _ _ _ _ hc q=>floordiv_int hc.1 q (.inl (PyProof.noPylong_of_log2 hc.2))
theorem bK:oi X (binaryOp .Mod) (rI (λ_ j=>0<j) λi j=>.int (i % j)):=Gz
noncomputable def rIxTH:R2:=λx y H Q=>∃p xs i v,x=.ref p/\y=.int i/\H p=some (.tup xs)/\lD xs i=some v/\Q v H
theorem az:Fq X rIxTH:=λvalue slice pins s σ H x y v u Q I rx ry ⟨p,xs,i,z,e1,e2,e3,e4,q⟩ hs=>
 GG value slice pins s σ H x y v u Q I rx ry ⟨p,xs,i,z,e1,e2,hX.of e3,e4,q⟩ hs
noncomputable def rIxLH:R2:=λx y H Q=>∃p xs i v,x=.ref p/\y=.int i/\H p=some (.lst xs)/\lD xs i=some v/\Q v H
theorem aW:Fq X rIxLH:=λvalue slice pins s σ H x y v u Q I rx ry ⟨p,xs,i,z,e1,e2,e3,e4,q⟩ hs=>
 zb value slice pins s σ H x y v u Q I rx ry ⟨p,xs,i,z,e1,e2,bN.of e3,e4,q⟩ hs
noncomputable def tTupS (t:TA):TE:=λσ H Q=>t σ H λxs H1=>xs.length<=sizeLine/\∀p H2,aE H1 H2->H1 p=none->H2 p=some (.tup xs)->Q (.ref p) H2
theorem aj {H:Hp} {p:Addr} {o:HO} (h:H p=none):aE H (upd H p o):=λb u e=>by
 rw[aF (d3 e h)]
 exact e
theorem aQ {es:List Expr} {t:TA} {x1} {pos:Pos} (h:PA X es t):PE X (.Tuple es x1 pos) (tTupS t):=λpins s σ H Q I hq=>
 cw (h:=wpAny_Tuple_spliced (cw (h pos pins s σ H _ I hq) λus s1 ⟨xs,H1,I1,r,z,q⟩=>⟨by rw[<-r.length];exact z,by
  have hf:H1 s1.heap.objs.size=none:=I1.bP.fresh (aaf _)
  refine⟨.ref s1.heap.objs.size,upd H1 s1.heap.objs.size (.tup xs),I1.laid (t':=s1.toks) (λb u e=>Heap.get?_push_of_some _ e) (aaf _) ?_,rfl,q _ _ (aj hf) hf ar⟩
  exact⟨z,us,r,⟨_,Heap.get?_push_size _ rfl,rfl,_,rfl⟩⟩⟩)) λ_ _ z=>z
theorem bI:cR X (.builtin "len") (λxs H Q=>∃p ys,xs=[.ref p]/\H p=some (.lst ys)/\Q (.int ys.length) H):=λpins s σ H xs us Q I r ⟨p,ys,e,h,q⟩=>
 lL pins s σ H xs us Q I r ⟨p,ys,e,.inl (bN.of h),q⟩
theorem Ar:cR X (.builtin "len") (λxs H Q=>∃p ns,xs=[.ref p]/\bN X.K H p (List.map V.int ns)/\Q (.int (List.length ns:Nat)) H):=λpins s σ H xs us Q I r ⟨p,ns,e,h,q⟩=>
 lL pins s σ H xs us Q I r ⟨p,_,e,.inl h,by rw[aac];exact q⟩
noncomputable def GW (K:PySem.W.Frag):R2:=λx y H Q=>∃p ns i,x=.ref p/\y=.int i/\bN K H p (List.map V.int ns)/\0<=i/\i< (List.length ns:Nat)/\Q (.int (ns.getD i.toNat 0)) H
theorem vz {ns:List Int} {i:Int} (h0:0<=i) (h1:i< (ns.length:Nat)):lD (ns.map V.int) i=some (.int (ns.getD i.toNat 0)):=by
 obtain⟨j,rfl⟩:=Int.eq_ofNat_of_zero_le h0
 refine bJ ?_
 have hj:j<ns.length:=by omega
 rw[aad,aap hj]
 simp [aa5,aap hj]
theorem BK:Fq X (GW X.K):=λvalue slice pins s σ H x y v u Q I rx ry ⟨p,ns,i,e1,e2,e3,h0,h1,q⟩ hs=>
 zb value slice pins s σ H x y v u Q I rx ry ⟨p,_,i,_,e1,e2,e3,vz h0 h1,q⟩ hs
structure cS (P:Program) (w:World) (K:PySem.W.Frag) (mg:Str->Option Value) (base:Heap) (CX:ox) (k:Nat) (x:Str) (ps:List Str) (sp:Sp):Prop where
 ex:∃f fd,fk P w K mg base CX k f fd ps sp/\mg x=some (.ref f)/\PySem.W.keepIn K (.ref f)=true/\Binds K fd ps []
theorem br {CX:ox} {k:Nat} {x:Str} {ps:List Str} {sp:Sp} {E:XK} {e:Expr} {es:List Expr} {t:TA} {p pos:Pos} (C:cS X.prog X.w X.K X.mg X.base CX k x ps sp) (hr:dh k X.A) (hg:Gl X x) (hx:dM CX X E) (ha:PA X (e::es) t)
  (pI:(x==("__debug__":Str))=false:=by decide) (he:starEach (e::es) X.env=(false,eval e X.env)::starEach es X.env:=by rfl) (hpl:(backTo pos (starEach es X.env)).any (·.1)=false:=by rfl):
  PE X (.Call (.Name x p) (e::es) [] pos) (tCall sp [] E t):=by
 obtain⟨f,fd,F,hm,hk,hb⟩:=C.ex
 exact DP F hr hg hm hk hb .nil hx ha pI he hpl
end
noncomputable def tX (CX:ox):Prop:=∀outer H s e s',¬CX outer H s (λ_ _ _=>False) e s'
theorem tX.pass {CX:ox} (h:tX CX) {X:Cx}:dM CX X E0:=λ_ _ H s e s' _ z=>(h _ H s e s' z).elim
section
variable {P : Program} {w : World} {K : PySem.W.Frag} {mg : Str -> Option Value} {base : Heap} {CX : ox}
theorem xK.gu {x qual:Str} {st:Stmt} {f:Addr} {fd:FuncData} {N ps:List Str} {k:Nat} {sp:Sp} (F:xK K x qual st f fd) (S:bo N ps (aw st)) (len:∀vs H Q E,sp vs H Q E->vs.length=ps.length)
  (vk:∀(bZ:Value) (A:Around) (outer:List Env) (s:Shared) (H:Hp) (vs:List V) (Q:VK) (E:XK),dh k (A.deeper (envOfC qual (aw st) s.heap.objs.size f bZ))->sp vs H Q E->
   ∃t,va (di CX P w K mg base N qual (aw st) f bZ A outer s H E).IV (bc st) t/\t {nx:=λ_ H'=>Q .de H',rt:=Q} (start N vs) H):fk P w K mg base CX (k+1) f fd ps sp:=by
 obtain⟨oc,od,kV,doc,pm,an,bZ,ct,DS,rfl,lk,Ac⟩:=F.ex
 refine Fp lk Ac S len λA outer s H vs Q E hr Dm=>?_
 obtain⟨t,h,q⟩:=vk bZ A outer s H vs Q E hr Dm
 exact⟨t,h.IV,q⟩
structure Dn (K:PySem.W.Frag) (mg:Str->Option Value) (x:Str) (st:Stmt):Prop where
 ex:∃f fd,xK K x x st f fd/\mg x=some (.ref f)
theorem Dn.eO {x:Str} {st:Stmt} {ps:List Str} {k:Nat} {sp:Sp} (D:Dn K mg x st)
  (hb:∀(kV doc pm:Value) (an:Option Addr) (bZ ct:Value) (us:List Value),us.length=ps.length->bindArgs (PySem.W.fnOf x x (bg st) (bc st) (aw st) .none kV doc pm an bZ ct) ⟨us,[]⟩=pure (ps.zip us))
  (h:∀f fd,xK K x x st f fd->fk P w K mg base CX k f fd ps sp):cS P w K mg base CX k x ps sp:=by
 obtain⟨f,fd,F,hm⟩:=D.ex
 exact⟨f,fd,h f fd F,hm,F.kp,F.binds hb⟩
end
section
variable {X : Cx}
noncomputable def U1 (xs ys:List V):Bool:=(List.range (min xs.length ys.length)).all (λj=>UX (xs.getD j .de) (ys.getD j .de)) && xs.length==ys.length
noncomputable def rEqT:R2:=λx y H Q=>∃p q xs ys,x=.ref p/\y=.ref q/\H p=some (.tup xs)/\H q=some (.tup ys)/\xs.all sA=true/\ys.all sA=true/\Q (.bl (U1 xs ys)) H
noncomputable def rInT:R2:=λx y H Q=>∃p xs,y=.ref p/\H p=some (.tup xs)/\sA x=true/\xs.all sA=true/\Q (.bl (Xd x xs)) H
theorem BL:cR X (.builtin "isinstance") (λxs H Q=>∃x c t b,xs=[x,.ty c]/\ju X.K H x t/\PySem.W.kitOne X.K t (.type c)=some b/\Q (.bl b) H):=by
 intro pins s σ H xs us Q I r h
 obtain⟨x,c,t,b,rfl,ty,e,q⟩:=h
 obtain⟨u,u',rfl,rx,rc⟩:=vals2 r
 cases rc
 exact Ak I rx ty e λtk=>⟨.bl b,H,I.tok tk,rfl,q⟩
end
theorem at0 {α:Type} {x:α} {l:List α}:lD (x::l) 0=some x:=bJ (j:=0) rfl
theorem at1 {α:Type} {x y:α} {l:List α}:lD (x::y::l) 1=some y:=bJ (j:=1) rfl
theorem at2 {α:Type} {x y z:α} {l:List α}:lD (x::y::z::l) 2=some z:=bJ (j:=2) rfl
noncomputable def Pr (a b:Int):List V:=[.int a,.int b]
theorem GX {K:PySem.W.Frag}:PySem.W.kitOne K (.type "int") (.type "int")=some true:=by unfold PySem.W.kitOne;rw[if_pos (by decide +kernel)]
theorem D3 {K:PySem.W.Frag} {t c:String} {b:Bool} (h1:(Value.type t==Value.type c)=false:=by decide +kernel) (h2:PySem.W.kitMeta c=true:=by decide +kernel) (h3:(PySem.fastBuiltinMro t).map (·.contains (Value.type c))=some b:=by decide +kernel):
  PySem.W.kitOne K (.type t) (.type c)=some b:=by
 unfold PySem.W.kitOne PySem.W.kitCls PySem.W.subIn
 rw[if_neg (by rw[h1];decide)]
 dsimp only
 rw[if_pos h2]
 exact h3
theorem GY {K:PySem.W.Frag}:PySem.W.kitOne K (.type "int") (.type "bool")=some false:=D3
end L2
namespace Nm
noncomputable def g (a b:Int):Int:=(Int.gcd a b:Nat)
theorem N8 (a b:Int):0<=g a b:=Int.natCast_nonneg _
theorem Fu {a b:Int} (h:b≠0):0<g a b:=by
 have:=Int.gcd_pos_of_ne_zero_right a h
 unfold g
 omega
theorem tY (a b:Int):g a b∣a:=Int.gcd_dvd_left ..
theorem pf (a b:Int):g a b∣b:=Int.gcd_dvd_right ..
theorem BM (a b:Int):g a b=g b a:=by unfold g;rw[Int.gcd_comm]
theorem JU {a b:Int} (h:0<b):g a b<=b:=Int.le_of_dvd h (pf a b)
theorem Fv (a b:Int):g (a.natAbs:Int) b=g a b:=by
 unfold g Int.gcd
 rw[Int.natAbs_natCast]
theorem zf (a b:Int):g a (b.natAbs:Int)=g a b:=by
 rw[BM,Fv,BM]
theorem GZ {a b:Int} (ha:0<=a) (_hb:0<b):g b (a % b)=g a b:=by
 unfold g Int.gcd
 rw[Int.natAbs_emod_of_nonneg ha,Nat.gcd_comm b.natAbs,<-Nat.gcd_rec,Nat.gcd_comm]
theorem G0 {a:Int} (ha:0<=a):g a 0=a:=by
 unfold g
 rw[Int.gcd_zero_right]
 omega
theorem BN {a b:Int} (h:b≠0):g a b<=(b.natAbs:Int):=by
 rw[<-zf]
 exact JU (by omega)
theorem sI (a b:Int):(a / g a b)*b=a* (b / g a b):=by
 rw[<-Int.mul_ediv_assoc _ (pf a b),Int.mul_comm a b,Int.mul_ediv_assoc _ (tY a b),Int.mul_comm]
theorem back {a b c d p q x y:Int} (hq:0<q) (hd:0<d) (e:p* (b*d)=(a*d - c*b)*q) (f:x* (q*d)=(p*d+c*q)*y):x*b=a*y:=by
 have h:(x*b)* (q*d)=(a*y)* (q*d):=by grind
 exact Int.eq_of_mul_eq_mul_right (by have:=Int.mul_pos hq hd;omega) h
end Nm
namespace L2
open PySem PySem.Spec PyProof.Rows PySem.W
theorem cm.get {P:Program} {w:World} {H:Hp} {h:Heap} {a:Addr}:∀{o:HO},cm P w H h a o->∃ob,h.get? a=some ob
 | .lst _,x=>let ⟨_,_,_,_,e⟩:=x;⟨_,e⟩
 | .tup _,x=>let ⟨_,_,_,o,e,_⟩:=x;⟨o,e⟩
 | .dK _,x=>let ⟨_,_,_,_,o,_,_,e,_⟩:=x;⟨o,e⟩
 | .dT _,x=>let ⟨_,_,_,_,o,_,_,e,_⟩:=x;⟨o,e⟩
 | .set _ _,x=>by
  obtain⟨o,es,ep,t,e,_⟩:=x
  exact⟨o,e⟩
 | .ins _ _ _,x=>let ⟨_,_,_,e,_⟩:=x;⟨_,e⟩
 | .own _,x=>x
 | .xd _,x=>by
  obtain⟨mA,⟨o,es,ep,e,_⟩,_⟩:=x
  exact⟨o,e⟩
 | .MF _ _,x=>let ⟨_,_,_,e⟩:=x;⟨_,e⟩
 | .uP _ _,x=>⟨_,x.1⟩
 | .yW _,⟨_,x,_⟩=>⟨_,x⟩
 | .met _ _,x=>⟨_,x⟩
 | .ext _,x=>x.2.1
theorem gi.G3 {P:Program} {w:World} {H:Hp} {h h' B:Heap} (ok:gi P w H h) (hB:∀b u o,H b=some u->h.get? b=some o->B.get? b=some o) (st:B.StaysIn h'):gi P w H h':=λa o e=>
 (ok a o e).qZ (λb u hb q=>st b u (by
  rcases hb with rfl | hb
  ·exact hB _ _ _ e q
  ·exact hB _ _ _ hb q)) (λ_ r=>r) λ_ _ r=>r
structure D5 (P:Program) (w:World) (l:List Env) (H:Hp) (s:Shared) (H':Hp) (ad:Addr) (cls:Value) (s':Shared):Prop where
 os:s'.os=s.os
 bare:AllBare s'.gens
 un:Un (dz l) [] H H' s.heap s'.heap
 bP:gi P w H' s'.heap
 fl:∃B a0,Heap.FlyingW B l ad cls a0 s'.heap/\(∀b o,s.heap.get? b=some o->H b=none->b∉dz l->B.get? b=some o)/\(∀b o,s.heap.get? b=some o->b∉dz l->∃o',B.get? b=some o')/\
  (∀b u o,H' b=some u->s'.heap.get? b=some o->B.get? b=some o)
noncomputable def bO (P:Program) (w:World):ox:=λl H s E e s'=>∃ad cls H',e=.ref ad/\D5 P w l H s H' ad cls s'/\E cls none H'
theorem zg (P:Program) (w:World):tX (bO P w):=λ_ _ _ _ _ ⟨_,_,_,_,_,h⟩=>h
section
variable {P : Program} {w : World} {K : PySem.W.Frag} {mg : Str -> Option Value} {base : Heap} {N : List Str} {qual : Str} {scope : Scope} {f : Addr} {bZ : Value} {A : Around} {outer : List Env} {s0 : Shared} {H0 : Hp} {E : XK}
theorem BO {pins:List (Addr×Obj)} {σ:St} {H:Hp} {s:Shared} {h':Heap} {ad:Addr} {cls:Value} {vs:List Value}
  (I:Inv (di (bO P w) P w K mg base N qual scope f bZ A outer s0 H0 E) pins σ H s) (mx:Heap.MadeExcOf s.heap h' ad cls vs) (e:E cls none H):
  (di (bO P w) P w K mg base N qual scope f bZ A outer s0 H0 E).xe (.ref ad) {s with heap:=h'}:=by
 let env:Env:=envOfC qual scope s0.heap.objs.size f bZ
 have xN:∀b o,s0.heap.get? b=some o->b∉dz outer->b∉dz (env::outer):=λb o q hb z=>by
  rcases List.mem_cons.mp (show b∈s0.heap.objs.size::dz outer from z) with z | z
  ·rw[z] at q
   exact absurd (Heap.lt_size q) (aaA _)
  ·exact hb z
 have MS:∀b,b∈dz outer->b∈dz (env::outer):=λb hb=>List.mem_cons.mpr (.inr hb)
 have ST:s.heap.FunFrames base (env::outer):=I.stack
 have SF:∀b∈dz (env::outer),H b=none:=I.o9
 have BS:Un (dz outer) [] H0 H s0.heap s.heap:=I.base
 show wpAny (model P w) (A.deeper env) (leaving env (.ref ad)) (λ_ q9=>bO P w outer H0 s0 E (.ref ad) q9) (λe' q9=>bO P w outer H0 s0 E e' q9) {s with heap:=h'}
 refine wpAny_leaves_madeW (base:=hideAll s.heap (dz (env::outer))) (h:=s.heap) (L:=s0.heap.objs.size) I.ok.frames rfl (λb o q=>of_hideAll _ q)
  (funFrames_hide ST λen he a ha=>List.mem_filterMap.mpr ⟨en,he,ha⟩) mx λh2 t x1 _ _ x4=>?_
 have x4:Heap.UpToSlots h' h2:=x4
 have fr:∀b∈dz (env::outer),∀o,s.heap.get? b=some o->∃sl,h2.get? b=some {o with slots:=sl}:=λb hb o q=>by
  obtain⟨_,o1,q1,nf⟩:=ST.mem hb
  rw[q] at q1
  cases q1
  exact x4 b o (mx.keeps b o q) nf
 refine⟨ad,cls,H,rfl,⟨I.os,I.bare,⟨λb o q n hb hx=>?_,λb o q n hb hx=>?_,BS.free,λb o q hx=>?_,BS.gO,BS.gw,BS.iu⟩,?_,⟨_,_,x1,λb o q n hb=>?_,λb o q hb=>?_,λb u o e1 q=>?_⟩⟩,e⟩
 ·exact x1.1 b o (hideAll_get _ (BS.keep b o q n hb hx) (xN b o q hb))
 ·obtain⟨sl,q1⟩:=BS.slot b o q n hb hx
  obtain⟨Bc,q2⟩:=fr b (MS b hb) _ q1
  exact⟨Bc,q2⟩
 ·obtain⟨o1,q1⟩:=BS.there b o q hx
  by_cases hb:b∈dz (env::outer)
  ·obtain⟨Bc,q2⟩:=fr b hb _ q1
   exact⟨_,q2⟩
  ·exact⟨o1,x1.1 b o1 (hideAll_get _ q1 hb)⟩
 ·exact gi.G3 I.bP (λb u o e1 q=>hideAll_get _ q λz=>by
   have:=SF b z
   rw[e1] at this
   cases this) x1.1
 ·exact hideAll_get _ (BS.keep b o q n hb (by simp)) (xN b o q hb)
 ·obtain⟨o1,q1⟩:=BS.there b o q (by simp)
  exact⟨o1,hideAll_get _ q1 (xN b o q hb)⟩
 ·obtain⟨o1,q1⟩:=(I.bP b u e1).get
  have q2:=hideAll_get (dz (env::outer)) q1 λz=>by
   have:=SF b z
   rw[e1] at this
   cases this
  have q3:=x1.1 b o1 q2
  rw[q] at q3
  cases q3
  exact q2
theorem lP:dM (bO P w) (di (bO P w) P w K mg base N qual scope f bZ A outer s0 H0 E) E:=by
 intro pins σ H s e s' I c
 let env:Env:=envOfC qual scope s0.heap.objs.size f bZ
 obtain⟨ad,cls,H',rfl,F,he⟩:=c
 have xN:∀b o,s0.heap.get? b=some o->b∉dz outer->b∉dz (env::outer):=λb o q hb z=>by
  rcases List.mem_cons.mp (show b∈s0.heap.objs.size::dz outer from z) with z | z
  ·rw[z] at q
   exact absurd (Heap.lt_size q) (aaA _)
  ·exact hb z
 have MS:∀b,b∈dz outer->b∈dz (env::outer):=λb hb=>List.mem_cons.mpr (.inr hb)
 have ST:s.heap.FunFrames base (env::outer):=I.stack
 have BS:Un (dz outer) [] H0 H s0.heap s.heap:=I.base
 have FU:Un (dz (env::outer)) [] H H' s.heap s'.heap:=F.un
 obtain⟨B,a0,fl,c0,c2,c1⟩:=F.fl
 have fl:Heap.FlyingW B (env::outer) ad cls a0 s'.heap:=fl
 have c0:∀b o,s.heap.get? b=some o->H b=none->b∉dz (env::outer)->B.get? b=some o:=c0
 have c2:∀b o,s.heap.get? b=some o->b∉dz (env::outer)->∃o',B.get? b=some o':=c2
 show wpAny (model P w) (A.deeper env) (leaving env (.ref ad)) (λ_ q9=>bO P w outer H0 s0 E (.ref ad) q9) (λe' q9=>bO P w outer H0 s0 E e' q9) s'
 refine wpAny_leaves_onW (L:=s0.heap.objs.size) I.ok.frames rfl fl λh2 x1 x2=>?_
 have fr:∀b∈dz (env::outer),∀o,s'.heap.get? b=some o->∃sl,h2.get? b=some {o with slots:=sl}:=λb hb o q=>by
  obtain⟨_,o1,q1,nf⟩:=fl.2.2.1.mem hb
  rw[q] at q1
  cases q1
  exact x2 b o q nf
 refine⟨ad,cls,H',rfl,⟨F.os.trans I.os,F.bare,⟨λb o q n hb hx=>?_,λb o q n hb hx=>?_,λb o q n hx=>?_,λb o q hx=>?_,λb xs q=>FU.gO b xs (BS.gO b xs q),λb o u q=>FU.gw b o u (BS.gw b o u q),λb ps q=>?_⟩,F.bP.G3 c1 x1.1,
  ⟨B,a0,x1,λb o q n hb=>?_,λb o q hb=>?_,λb u o e1 q=>?_⟩⟩,he⟩
 ·exact x1.1 b o (c0 b o (BS.keep b o q n hb hx) (BS.free b o q n hx) (xN b o q hb))
 ·obtain⟨sl,q1⟩:=BS.slot b o q n hb hx
  obtain⟨U2,q2⟩:=FU.slot b _ q1 (BS.free b o q n hx) (MS b hb) hx
  obtain⟨Bc,q3⟩:=fr b (MS b hb) _ q2
  exact⟨Bc,q3⟩
 ·obtain⟨o1,q1⟩:=BS.there b o q hx
  exact FU.free b o1 q1 (BS.free b o q n hx) hx
 ·obtain⟨o1,q1⟩:=BS.there b o q hx
  by_cases hb:b∈dz (env::outer)
  ·obtain⟨o2,q2⟩:=FU.there b o1 q1 hx
   obtain⟨Bc,q3⟩:=fr b hb _ q2
   exact⟨_,q3⟩
  ·obtain⟨o2,q2⟩:=c2 b o1 q1 hb
   exact⟨o2,x1.1 b o2 q2⟩
 ·obtain⟨m1,e1⟩:=BS.iu b ps q
  obtain⟨m2,e2⟩:=FU.iu b _ e1
  exact⟨m1++m2,by rw[e2,Array.append_assoc]⟩
 ·exact c0 b o (BS.keep b o q n hb (by simp)) (BS.free b o q n (by simp)) (xN b o q hb)
 ·obtain⟨o1,q1⟩:=BS.there b o q (by simp)
  exact c2 b o1 q1 (xN b o q hb)
 ·obtain⟨o1,q1⟩:=(F.bP b u e1).get
  have q2:=c1 b u o1 e1 q1
  have q3:=x1.1 b o1 q2
  rw[q] at q3
  cases q3
  exact q2
end
end L2
namespace L2
open PySem PySem.Spec PyProof.Rows PySem.W
theorem D6 {K:Frag} {h:Heap} {C:Addr} {U3:List Value} {newId:String} (X:K.In h) (q:excIn K C U3 newId=true):
  ∃tl N nm qn bs hdct sn sub ab col dd k0 k1 k2 k3 k5 mN,h.get? C=some (excClassObj nm qn C N bs tl hdct sn sub ab col dd k0 k1 k2 k3 k5 newId)/\h.Ns N mN/\mN "__init__"=none/\OwnTail h U3 tl:=by
 unfold excIn at q
 split at q
 ·rename_i dd cd sl ho
  split at q
  ·rename_i C' bm k0 k1 k2 k3 n k5 hm hs
   simp only[aaJ,beq_iff_eq,Bool.not_eq_true'] at q
   obtain⟨⟨⟨⟨⟨rfl,rfl⟩,JV⟩,ht⟩,bP⟩,MT⟩:=q
   obtain⟨nm,bs,mro,ns,qn,hd,sn,sub,ab,col,del⟩:=cd
   dsimp only at hm JV bP MT
   subst hm JV
   have Xh:sl=#[k0,k1,k2,k3,some (.builtin n),k5]:=by
    obtain⟨l⟩:=sl
    simp only at hs
    rw[hs]
   subst Xh
   exact⟨bm,ns,nm,qn,bs,hd,sn,sub,ab,col,dd,k0,k1,k2,k3,k5,_,X _ _ ho,.of_isNs (isNs_of_in X bP),nsMap_none_of_in X bP MT,tail_of_in X ht⟩
  ·cases q
 ·cases q
abbrev tZ:List Value:=[.type "ValueError",.type "Exception",.type "BaseException",.type "object"]
abbrev lQ:String:="ValueError.__new__"
noncomputable def tRaise (C:Addr) (E:XK) (t:TA):TS:=λ_ σ H=>t σ H λvs H1=>vs.length<=sizeLine/\E (.ref C) none H1
section
variable {P : Program} {w : World} {K : PySem.W.Frag} {mg : Str -> Option Value} {base : Heap} {N : List Str} {qual : Str} {scope : Scope} {f : Addr} {bZ : Value} {A : Around} {outer : List Env} {s0 : Shared} {H0 : Hp} {E : XK}
theorem gz {x:Str} {C:Addr} {np cZ pos:Pos} {e:Expr} {es:List Expr} {t:TA} (hg:Gl (di (bO P w) P w K mg base N qual scope f bZ A outer s0 H0 E) x) (hm:mg x=some (.ref C)) (q:excIn K C tZ lQ=true)
  (hh:A.handled=none) (ha:PA (di (bO P w) P w K mg base N qual scope f bZ A outer s0 H0 E) (e::es) t) (pI:(x==("__debug__":Str))=false:=by decide)
  (he:starEach (e::es) (di (bO P w) P w K mg base N qual scope f bZ A outer s0 H0 E).env=(false,eval e (di (bO P w) P w K mg base N qual scope f bZ A outer s0 H0 E).env)::starEach es (di (bO P w) P w K mg base N qual scope f bZ A outer s0 H0 E).env:=by rfl)
  (hpl:(backTo cZ (starEach es (di (bO P w) P w K mg base N qual scope f bZ A outer s0 H0 E).env)).any (·.1)=false:=by rfl):
  PS (di (bO P w) P w K mg base N qual scope f bZ A outer s0 H0 E) (.Raise (some (.Call (.Name x np) (e::es) [] cZ)) none pos) (tRaise C E t):=by
 intro pins s σ H D I h
 have FB:=PySem.F.excBase_ValueError
 obtain⟨tl,Nn,nm,qn,bs,hdct,sn,sub,ab,col,dd,k0,k1,k2,k3,k5,mN,hC,hN,MT,T⟩:=D6 I.ok.mod.Gn q
 refine wpAny_Raise_call_subT (C:=C) (nm:=nm) (q:=qn) (N:=Nn) (bs:=bs) (bm:=tl) (hdct:=hdct) (sn:=sn) (sub:=sub) (ab:=ab) (col:=col) (dd:=dd) (k0:=k0) (k1:=k1) (k2:=k2) (k3:=k3) (k5:=k5)
  FB (mN:=mN) (T.hasType FB.hasBase) hh (by rw[he];show(false || (backTo cZ (starEach es _)).any (·.1))=false;rw[hpl];rfl) MT (gP I hg hm ⟨rfl,?_⟩ pI)
 rw[he]
 have U4:=ha cZ pins s σ H _ I h
 rw[he] at U4
 refine Calls.evalArgs_plain (cw U4 λus s1 ⟨vs,H1,I1,r,z,k⟩=>⟨rfl,by rw[<-r.length];exact z,I1.bk _ _ hC,hN.keeps I1.bk,T.keeps I1.bk,λh' ad mx=>?_⟩)
 exact BO I1 mx k
end
section
variable {X : Cx} {pins : List (Addr × Obj)} {σ : St} {H H' : Hp} {s s' : Shared}
abbrev Cx.mark (X:Cx) (ad:Addr):Cx:={X with A:=X.A.mark (some (.ref ad)),calm:=false,xe:=λ_ _=>False}
theorem Inv.mark (I:Inv X pins σ H s) (ad:Addr):Inv (X.mark ad) pins σ H s:=
 ⟨⟨I.ok.mod,I.ok.kind,I.ok.glob,I.ok.blt,I.ok.above,I.ok.inj,I.ok.has,I.ok.Gq,λz=>(aau z).elim,I.ok.frames,I.ok.IU,I.ok.MH,I.ok.bs,I.ok.Bo,I.ok.xb,I.ok.Ab,I.ok.lE,I.ok.DG⟩,
  I.os,I.bare,I.base,I.loc,I.cell,I.free,I.fW,I.pin,I.bP,I.len⟩
theorem Inv.unmark {ad:Addr} (ok:X.Ok) (I:Inv (X.mark ad) pins σ H s):Inv X pins σ H s:=⟨ok,I.os,I.bare,I.base,I.loc,I.cell,I.free,I.fW,I.pin,I.bP,I.len⟩
noncomputable def N9 (ad:Addr) (cls:Value):HO:=.ext λh=>∃o vs,h.get? ad=some o/\o.cls=cls/\o.data=.fields vs
theorem D5.new {P:Program} {w:World} {l:List Env} {ad:Addr} {cls:Value} (F:D5 P w l H s H' ad cls s'):s.heap.get? ad=none:=by
 obtain⟨B,a0,fl,c0,c2,c1⟩:=F.fl
 cases q:s.heap.get? ad with
 | none=>rfl
 | some o=>
  by_cases hb:ad∈dz l
  ·obtain⟨_,o1,q1,nf⟩:=fl.2.2.1.mem hb
   obtain⟨oe,vs,he,_,hd,_⟩:=fl.first
   rw[q1] at he
   cases he
   exact absurd hd (nf _)
  ·obtain⟨o',q'⟩:=c2 ad o q hb
   rw[fl.2.1] at q'
   cases q'
theorem D5.tracked {P:Program} {w:World} {l:List Env} {ad:Addr} {cls:Value} (F:D5 P w l H s H' ad cls s'):H' ad=none:=by
 obtain⟨B,a0,fl,c0,c2,c1⟩:=F.fl
 cases q:H' ad with
 | none=>rfl
 | some u=>
  obtain⟨o,e⟩:=(F.bP ad u q).get
  have:=c1 ad u o q e
  rw[fl.2.1] at this
  cases this
theorem D5.inv {ad:Addr} {cls:Value} (F:D5 X.prog X.w X.stack H s H' ad cls s') (I:Inv X pins σ H s) {B h6:Heap} {a0:Value} (fl:Heap.FlyingW B X.stack ad cls a0 s'.heap)
  (c0:∀b o,s.heap.get? b=some o->H b=none->b∉dz X.stack->B.get? b=some o) (c2:∀b o,s.heap.get? b=some o->b∉dz X.stack->∃o',B.get? b=some o')
  (c1:∀b u o,H' b=some u->s'.heap.get? b=some o->B.get? b=some o) (st:B.StaysIn h6) (up:s'.heap.UpToSlots h6):Inv X pins σ H' {s' with heap:=h6}:=by
 have fr:∀b∈dz X.stack,∀o,s'.heap.get? b=some o->∃sl,h6.get? b=some {o with slots:=sl}:=λb hb o q=>by
  obtain⟨_,o1,q1,nf⟩:=fl.2.2.1.mem hb
  rw[q] at q1
  cases q1
  exact up b o q nf
 refine I.Fk (s':={s' with heap:=h6}) (ch:=[]) F.os ⟨λb o q n hb _=>st b o (c0 b o q n hb),λb o q n hb hx=>?_,F.un.free,λb o q hx=>?_,F.un.gO,F.un.gw,F.un.iu⟩ (F.bP.G3 c1 st) F.bare (λb hb=>absurd hb (by simp))
 ·obtain⟨sl,q1⟩:=F.un.slot b o q n hb hx
  obtain⟨Bc,q2⟩:=fr b hb _ q1
  exact⟨Bc,q2⟩
 ·by_cases hb:b∈dz X.stack
  ·obtain⟨o2,q2⟩:=F.un.there b o q hx
   obtain⟨Bc,q3⟩:=fr b hb _ q2
   exact⟨_,q3⟩
  ·obtain⟨o2,q2⟩:=c2 b o q hb
   exact⟨o2,st b o2 q2⟩
theorem Inv.adopt {ad:Addr} {φ:Heap->Prop} (I:Inv X pins σ H' s') (I0:Inv X pins σ H s) (new:s.heap.get? ad=none) (hn:H' ad=none) (ho:∃o,s'.heap.get? ad=some o) (p:φ s'.heap)
  (hst:∀h1 h2:Heap,φ h1->(∀o,h1.get? ad=some o->h2.get? ad=some o)->φ h2):Inv X pins σ (upd H' ad (.ext φ)) s':=by
 have ne:∀b o,s.heap.get? b=some o->b≠ad:=λb o e z=>by rw[z,new] at e;cases e
 have tk:∀b u,H' b=some u->b≠ad:=λb u e z=>by rw[z,hn] at e;cases e
 have U6:∀b o,b∉X.ex->X.s₀.heap.get? b=some o->b≠ad:=λb o hx e=>by
  obtain⟨o',e'⟩:=I0.base.there b o e hx
  exact ne b o' e'
 refine⟨I.ok,I.os,I.bare,⟨I.base.keep,I.base.slot,λb o e n hx=>?_,I.base.there,λb xs e=>?_,λb o u e=>?_,λb ps e=>?_⟩,I.loc,I.cell,?_,λy c e=>?_,λq hq=>?_,λb u e=>?_,I.len⟩
 ·rw[aF (U6 b o hx e)]
  exact I.base.free b o e n hx
 ·rw[aF (tk _ _ (I.base.gO b xs e))]
  exact I.base.gO b xs e
 ·rw[aF (tk _ _ (I.base.gw b o u e))]
  exact I.base.gw b o u e
 ·obtain⟨m,e1⟩:=I.base.iu b ps e
  exact⟨m,by rw[aF (tk _ _ e1)];exact e1⟩
 ·obtain⟨m,⟨o,es,ep,hl,_⟩,_⟩:=I0.loc
  rw[aF (ne _ _ hl)]
  exact I.free
 ·obtain⟨v,o,hc,_⟩:=I0.cell y c e
  rw[aF (ne _ _ hc)]
  exact I.fW y c e
 ·obtain⟨e,n,r⟩:=I.pin q hq
  refine⟨e,?_,r⟩
  rw[aF (ne _ _ (I0.pin q hq).1)]
  exact n
 ·by_cases hb:b=ad
  ·subst hb
   rw[ar] at e
   cases e
   exact⟨p,ho,hst⟩
  ·rw[aF hb] at e
   exact(I.bP b u e).qZ (λ_ _ _ q=>q) (λc r=>by rw[aF (tk _ _ r)];exact r) λc xs r=>by rw[aF (tk _ _ r)];exact r
end
section
variable {X : Cx} {CX : ox} {k : Nat} {x : Str} {ps : List Str} {sp : Sp} {E : XK} {e : Expr} {es : List Expr} {t : TA} {p pos : Pos}
theorem D7 {pins:List (Addr×Obj)} {σ:St} {H:Hp} {s:Shared} {Q:VK} {Ex:Value->Shared->Prop} (C:cS X.prog X.w X.K X.mg X.base CX k x ps sp) (hr:dh k X.A) (hg:Gl X x) (ha:PA X.IV (e::es) t) (I:Inv X pins σ H s)
  (h:t σ H λvs H1=>sp vs H1 Q E) (hx:∀H1 s1 e s',Inv X pins σ H1 s1->CX X.stack H1 s1 E e s'->Ex e s')
  (pI:(x==("__debug__":Str))=false:=by decide) (he:starEach (e::es) X.env=(false,eval e X.env)::starEach es X.env:=by rfl) (hpl:(backTo pos (starEach es X.env)).any (·.1)=false:=by rfl):
  wpAny (model X.prog X.w) X.A (eval (.Call (.Name x p) (e::es) [] pos) X.env) (EP X pins σ Q) Ex s:=by
 obtain⟨f,fd,F,hm,hk,hb⟩:=C.ex
 refine wpAny_Call_Name_kw (gP I hg hm ?_ pI)
 refine PySem.W.callWith_K (h₀:=X.base) I.ok.mod.Gn hk (wpAny_mono (ha pos pins s σ H _ (I.js _) h) (λus s1 ⟨vs,H1,I1,r,q⟩=>⟨I1.eM.lF,?_⟩) λ_ _ z=>z.elim) he hpl
 have I1:=I1.eM
 have hl:us.length=ps.length:=by rw[<-r.length];exact F.len _ _ _ _ q
 have U7:=hb s1 us I1.lF (by rw[aaV];exact hl)
 rw[aaV] at U7
 refine wpAny_call (codeAny_mono (F.run X.A X.stack s1 H1 ⟨us,[]⟩ us vs Q E hr I1.GA U7 r q) λr s' hq=>?_)
 cases r with
 | error e=>exact hx H1 s1 e s' I1 hq
 | ok fl=>
  cases fl with
  | ret u=>exact I1.after hq
  | next=>exact False.elim hq
  | brk=>exact False.elim hq
  | cont=>exact False.elim hq
variable {cx n : Str} {np D8 G4 tQ : Pos} {b₀ : Stmt} {sJ : List Stmt} {i : Nat} {ts : TS} {C2 : Addr}
end
end L2
namespace Nm
noncomputable def st (a b:Int):Int:=if b<0 then -(a / g a b) else a / g a b
noncomputable def sb (a b:Int):Int:=if b<0 then -(b / g a b) else b / g a b
theorem BP {a d:Int} (h:0<d):a.fdiv d=a / d:=Int.fdiv_eq_ediv_of_nonneg a (by omega)
theorem BQ {a d:Int} (h:0<d) (dv:d∣a):a.fdiv (-d)= -(a / d):=by
 obtain⟨k,rfl⟩:=dv
 rw[Int.mul_ediv_cancel_left _ (by omega),show d*k=(-d)* (-k) by rw[Int.neg_mul_neg]]
 exact Int.mul_fdiv_cancel_left _ (by omega)
end Nm
namespace L2
open PySem PySem.Spec PyProof.Rows
section
variable {P : Program} {w : World} {K : PySem.W.Frag} {mg : Str -> Option Value} {base : Heap} {CX : ox}
theorem xK.Fw {x qual:Str} {st:Stmt} {f:Addr} {fd:FuncData} {N ps:List Str} {k:Nat} {sp:Sp} (F:xK K x qual st f fd) (S:bo N ps (aw st)) (len:∀vs H Q E,sp vs H Q E->vs.length=ps.length)
  (vk:∀(bZ:Value) (A:Around) (outer:List Env) (s:Shared) (H:Hp) (vs:List V) (Q:VK) (E:XK),dh k (A.deeper (envOfC qual (aw st) s.heap.objs.size f bZ))->sp vs H Q E->
   ∃t,va (di CX P w K mg base N qual (aw st) f bZ A outer s H E) (bc st) t/\t {nx:=λ_ H'=>Q .de H',rt:=Q} (start N vs) H):fk P w K mg base CX (k+1) f fd ps sp:=by
 obtain⟨oc,od,kV,doc,pm,an,bZ,ct,DS,rfl,lk,Ac⟩:=F.ex
 exact Fp lk Ac S len λA outer s H vs Q E hr Dm=>vk bZ A outer s H vs Q E hr Dm
end
noncomputable def noStar:Expr->Bool
 | .Starred _ _=>false
 | _=>true
theorem se {e:Expr} {es:List Expr} {env:Env} (h:noStar e=true):starEach (e::es) env=(false,eval e env)::starEach es env:=by
 cases e <;>first | rfl | exact absurd h aau
theorem na {env:Env} {pos:Pos}:∀{es:List Expr},es.all noStar=true->(backTo pos (starEach es env)).any (·.1)=false
 | [],_=>rfl
 | e::es,h=>by
  rw[List.all_cons,aaJ] at h
  rw[se h.1]
  show(false || (backTo pos (starEach es env)).any (·.1))=false
  rw[na h.2]
  rfl
end L2
namespace L2
open PySem PySem.Spec PyProof.Rows PySem.W
structure Oa (K:PySem.W.Frag) (C:Addr):Prop where
 cls:(clsIn K C).isSome=true
 ga:findIn K (.ref C) "__getattribute__"=some (some (.builtin "BaseException.__getattribute__"))
 gt:findIn K (.ref C) "__getattr__"=some none
 cl:findIn K (.ref C) "__class__"=some (some (.builtin "object.__class__"))
 be:mroIn K C (.type "BaseException")=some true
 ob:mroIn K C (.type "object")=some true
section
variable {prog : Program} {w : World} {A : Around} {E : Value -> Shared -> Prop} {K : PySem.W.Frag} {h : Heap} {g : Array GenState} {d : Drawn} {t : Nat} {os : OsState} {a C : Addr} {o : Obj}
end
section
variable {X : Cx}
end
end L2
namespace L2
open PySem PySem.Spec PyProof.Rows
theorem kz {env:Env}:∀(names:List (Str×NameKind)) (cs:List (Str×Addr)),(∀n,(n,NameKind.free)∈names->∃c,env.cells.lookup n=some c)->(∀x c,cs.lookup x=some c->env.cells.lookup x=some c)->
  ∃cl,(forIn names cs fun(x:Str×NameKind) (r:List (Str×Addr))=>(if (x.2==NameKind.free)=true then do let c <-cellOf env x.1;pure (ForInStep.yield ((x.1,c)::r)) else pure (ForInStep.yield r):Sem (ForInStep (List (Str×Addr)))))=pure cl/\
   (∀x c,cl.lookup x=some c->env.cells.lookup x=some c)/\(∀n,((n,NameKind.free)∈names\/(cs.lookup n).isSome=true)->∃c,cl.lookup n=some c)/\(∀x c,(x,c)∈cl->(env.cells.lookup x=some c/\(x,NameKind.free)∈names)\/(x,c)∈cs)
 | [],cs,_,h=>⟨cs,rfl,h,(λn hn=>by
   rcases hn with hn | hn
   ·exact absurd hn (by simp)
   ·exact Option.isSome_iff_exists.mp hn),λx c m=>.inr m⟩
 | (n,k)::r,cs,hf,h=>by
  by_cases hk:k=.free
  ·subst hk
   obtain⟨c,hc⟩:=hf n aai
   obtain⟨cl,e,h1,h2,h3⟩:=kz r ((n,c)::cs) (λm hm=>hf m (aag _ hm)) (λx c' hx=>by
    rw[aaC] at hx
    cases q:x==n with
    | true=>
     rw[q] at hx
     have e1:x=n:=by simpa using q
     cases hx
     rw[e1];exact hc
    | false=>rw[q] at hx;exact h x c' hx)
   refine⟨cl,?_,h1,λm hm=>h2 m ?_,λx c' m=>?_⟩
   rotate_left 2
   ·rcases h3 x c' m with ⟨q1,q2⟩ | m
    ·exact .inl ⟨q1,aag _ q2⟩
    ·rcases List.mem_cons.mp m with e | m
     ·cases e
      exact .inl ⟨hc,aai⟩
     ·exact .inr m
   ·rw[List.forIn_cons]
    have Xi:cellOf env n=pure c:=by unfold cellOf;rw[hc]
    simp only[beq_self_eq_true,if_true,Xi,pure_bind]
    exact e
   ·rcases hm with hm | hm
    ·rcases List.mem_cons.mp hm with z | z
     ·cases z
      right
      rw[aaC]
      simp
     ·exact .inl z
    ·right
     rw[aaC]
     cases q:m==n with
     | true=>rfl
     | false=>exact hm
  ·obtain⟨cl,e,h1,h2,h3⟩:=kz r cs (λm hm=>hf m (aag _ hm)) h
   refine⟨cl,?_,h1,λm hm=>h2 m ?_,λx c' m=>(h3 x c' m).imp (λq=>⟨q.1,aag _ q.2⟩) id⟩
   ·rw[List.forIn_cons]
    have:(k==NameKind.free)=false:=by simpa using hk
    simp only[this,Bool.false_eq_true,if_false,pure_bind]
    exact e
   ·rcases hm with hm | hm
    ·rcases List.mem_cons.mp hm with z | z
     ·cases z;exact absurd rfl hk
     ·exact .inl z
    ·exact .inr hm
theorem gm {env:Env} {scope:Scope} (hf:∀n,(n,NameKind.free)∈scope.names->∃c,env.cells.lookup n=some c):
  ∃cl,closureFor scope env=pure cl/\(∀x c,cl.lookup x=some c->env.cells.lookup x=some c)/\(∀n,(n,NameKind.free)∈scope.names->∃c,cl.lookup n=some c)/\(∀x c,(x,c)∈cl->env.cells.lookup x=some c/\(x,NameKind.free)∈scope.names):=by
 obtain⟨cl,e,h1,h2,h3⟩:=kz (env:=env) scope.names [] hf (λx c h=>by simp at h)
 refine⟨cl,?_,h1,λn hn=>h2 n (.inl hn),λx c m=>(h3 x c m).elim id λz=>absurd z (by simp)⟩
 unfold closureFor
 simp only[bind_pure]
 exact e
structure d7 (N:List Str) (so:Scope) (N':List Str) (scope:Scope) (k:Nat) (fr:List Nat):Prop where
 kind:scope.kind=.function
 D9:∀y∈scope.names,y.2=.cell->scope.names.lookup y.1=some .cell/\(y.1,NameKind.free)∉scope.names
 locs:∀y∈scope.names,y.2=.local->scope.names.lookup y.1=some .local
 outer:∀y∈scope.names,y.2=.free->(so.names.lookup y.1=some .cell\/so.names.lookup y.1=some .free)
 len:N'.length=k+fr.length
 at_:∀t,t<fr.length->(fr[t]?).bind (λj=>N[j]?)=N'[k+t]?
 Fx:∀x∈N'.drop k,scope.names.lookup x=some .free
noncomputable def stC (k:Nat) (fr:List Nat) (σ:St):St:=List.replicate k none++fr.map λj=>(σ[j]?).join
noncomputable def kA (X:Cx) (N:List Str) (scope:Scope) (cl:List (Str×Addr)) (C:Addr) (s:Shared) (H:Hp) (ex:List Addr):Cx where
 prog:=X.prog
 w:=X.w
 K:=X.K
 mg:=X.mg
 base:=X.base
 A:=X.A
 N:=N
 s₀:=s
 H₀:=H
 env:=compEnvC scope cl C X.env
 outer:=X.stack
 stack:=X.stack
 ex:=ex
 calm:=X.calm
 fn:=λx=>scope.names.lookup x==some .cell
 pn:=[]
 xe:=λ_ _=>False
theorem eV {env:Env}:∀{names:List (Str×NameKind)} {x:Str},names.lookup x=some .free->
  (names.map fun(n,k)=>if (k==NameKind.free && env.scope.kind==.function && env.kindOf n==some .cell) then (n,NameKind.cell) else (n,k)).lookup x=some .cell\/
  (names.map fun(n,k)=>if (k==NameKind.free && env.scope.kind==.function && env.kindOf n==some .cell) then (n,NameKind.cell) else (n,k)).lookup x=some .free
 | [],_,h=>by simp at h
 | (n,k)::r,x,h=>by
  have ih:=@eV env r x
  show List.lookup x ((if (k==NameKind.free && env.scope.kind==.function && env.kindOf n==some .cell)=true then (n,NameKind.cell) else (n,k))::_)=_\/List.lookup x ((if (k==NameKind.free && env.scope.kind==.function && env.kindOf n==some .cell)=true then (n,NameKind.cell) else (n,k))::_)=_
  cases hx:x==n with
  | true=>
   simp only[aaC,hx] at h
   cases h
   by_cases hc:(NameKind.free==NameKind.free && env.scope.kind==.function && env.kindOf n==some .cell)=true
   ·rw[if_pos hc];left;simp [aaC,hx]
   ·rw[if_neg hc];right;simp [aaC,hx]
  | false=>
   simp only[aaC,hx] at h
   by_cases hc:(k==NameKind.free && env.scope.kind==.function && env.kindOf n==some .cell)=true
   ·rw[if_pos hc];simp only[aaC,hx];exact ih h
   ·rw[if_neg hc];simp only[aaC,hx];exact ih h
theorem lR {env:Env}:∀{names:List (Str×NameKind)} {x:Str},
  ((names.map fun(n,k)=>if (k==NameKind.free && env.scope.kind==.function && env.kindOf n==some .cell) then (n,NameKind.cell) else (n,k)).lookup x=some .cell\/
  (names.map fun(n,k)=>if (k==NameKind.free && env.scope.kind==.function && env.kindOf n==some .cell) then (n,NameKind.cell) else (n,k)).lookup x=some .free)->(x,NameKind.free)∈names\/(x,NameKind.cell)∈names
 | [],_,h=>by simp at h
 | (n,k)::r,x,h=>by
  have ih:=@lR env r x
  have up:((x,NameKind.free)∈r\/(x,NameKind.cell)∈r)->((x,NameKind.free)∈(n,k)::r\/(x,NameKind.cell)∈(n,k)::r):=λz=>z.imp (aag _) (aag _)
  have h:List.lookup x ((if (k==NameKind.free && env.scope.kind==.function && env.kindOf n==some .cell)=true then (n,NameKind.cell) else (n,k))::_)=_\/List.lookup x ((if (k==NameKind.free && env.scope.kind==.function && env.kindOf n==some .cell)=true then (n,NameKind.cell) else (n,k))::_)=_:=h
  cases hx:x==n with
  | true=>
   have e1:x=n:=by simpa using hx
   subst e1
   by_cases hc:(k==NameKind.free && env.scope.kind==.function && env.kindOf x==some .cell)=true
   ·have:k=.free:=by
     simp only[aaJ] at hc
     simpa using hc.1.1
    subst this
    exact .inl aai
   ·rw[if_neg hc] at h
    simp only[aaC,hx] at h
    rcases h with h | h
    ·cases h;exact .inr aai
    ·cases h;exact .inl aai
  | false=>
   by_cases hc:(k==NameKind.free && env.scope.kind==.function && env.kindOf n==some .cell)=true
   ·rw[if_pos hc] at h;simp only[aaC,hx] at h;exact up (ih h)
   ·rw[if_neg hc] at h;simp only[aaC,hx] at h;exact up (ih h)
theorem mR:∀(names:List (Str×NameKind)) (h:Heap) (acc:List (Str×Addr)) (x:Str) (c:Addr),(x,c)∈cellsFrom h.objs.size names acc->
  (x,c)∈acc\/(h.objs.size<=c/\(pushCells h names).IsCell c none/\(x,NameKind.cell)∈names)
 | [],h,acc,x,c,m=>.inl m
 | (n,k)::r,h,acc,x,c,m=>by
  unfold cellsFrom at m
  unfold pushCells
  by_cases hk:(k==NameKind.cell)=true
  ·rw[if_pos hk] at m ⊢
   have ih:=mR r (h.push {cls:=.type "cell",data:=.cell none}) ((n,h.objs.size)::acc) x c
   rw[Heap.size_push] at ih
   rcases ih m with m | ⟨q1,q2,q3⟩
   ·rcases List.mem_cons.mp m with e | m
    ·cases e
     have hk:k=.cell:=by simpa using hk
     subst hk
     refine .inr ⟨aaf _,?_,aai⟩
     have q:(h.push {cls:=.type "cell",data:=.cell none}).IsCell h.objs.size none:=⟨_,Heap.get?_push_size _ rfl,rfl⟩
     exact q.keeps λb o e=>pushCells_keeps r _ b o e
    ·exact .inl m
   ·exact .inr ⟨by omega,q2,aag _ q3⟩
  ·rw[if_neg hk] at m ⊢
   rcases mR r h acc x c m with m | ⟨q1,q2,q3⟩
   ·exact .inl m
   ·exact .inr ⟨q1,q2,aag _ q3⟩
theorem mT:∀(names:List (Str×NameKind)) (n lo:Nat) (acc:List (Str×Addr)),(∀x c,(x,c)∈acc->c<n)->(∀x y c,lo<=c->(x,c)∈acc->(y,c)∈acc->x=y)->
  ∀x y c,lo<=c->(x,c)∈cellsFrom n names acc->(y,c)∈cellsFrom n names acc->x=y
 | [],n,lo,acc,h1,h2,x,y,c,hl,m1,m2=>h2 x y c hl m1 m2
 | (z,k)::r,n,lo,acc,h1,h2,x,y,c,hl,m1,m2=>by
  unfold cellsFrom at m1 m2
  by_cases hk:(k==NameKind.cell)=true
  ·rw[if_pos hk] at m1 m2
   refine mT r (n+1) lo _ (λx c m=>?_) (λx y c hl m1 m2=>?_) x y c hl m1 m2
   ·rcases List.mem_cons.mp m with e | m
    ·cases e;exact aaS _
    ·exact Nat.lt_succ_of_lt (h1 x c m)
   ·rcases List.mem_cons.mp m1 with e1 | m1 <;>rcases List.mem_cons.mp m2 with e2 | m2
    ·cases e1;cases e2;rfl
    ·cases e1;exact absurd (h1 _ _ m2) (aaA _)
    ·cases e2;exact absurd (h1 _ _ m1) (aaA _)
    ·exact h2 x y c hl m1 m2
  ·rw[if_neg hk] at m1 m2
   exact mT r n lo acc h1 h2 x y c hl m1 m2
theorem gS:∀(names:List (Str×NameKind)) (n:Nat) (acc:List (Str×Addr)) (x:Str),(x,NameKind.cell)∉names->(cellsFrom n names acc).lookup x=acc.lookup x
 | [],n,acc,x,_=>rfl
 | (z,k)::r,n,acc,x,h=>by
  have hr:(x,NameKind.cell)∉r:=λm=>h (aag _ m)
  unfold cellsFrom
  by_cases hk:(k==NameKind.cell)=true
  ·rw[if_pos hk,gS r _ _ x hr,aaC]
   have hk:k=.cell:=by simpa using hk
   subst hk
   have:(x==z)=false:=by
    cases q:x==z with
    | false=>rfl
    | true=>
     have e:x=z:=by simpa using q
     subst e
     exact absurd aai h
   rw[this]
  ·rw[if_neg hk]
   exact gS r n acc x hr
theorem mU:∀(names:List (Str×NameKind)) (n:Nat) (acc:List (Str×Addr)) (x:Str),((x,NameKind.cell)∈names\/(acc.lookup x).isSome=true)->((cellsFrom n names acc).lookup x).isSome=true
 | [],n,acc,x,h=>by
  rcases h with h | h
  ·simp at h
  ·exact h
 | (z,k)::r,n,acc,x,h=>by
  unfold cellsFrom
  by_cases hk:(k==NameKind.cell)=true
  ·rw[if_pos hk]
   refine mU r _ _ x ?_
   rcases h with h | h
   ·rcases List.mem_cons.mp h with e | h
    ·cases e
     right
     rw[aaC]
     simp
    ·exact .inl h
   ·right
    rw[aaC]
    cases q:x==z with
    | true=>rfl
    | false=>exact h
  ·rw[if_neg hk]
   refine mU r _ _ x ?_
   rcases h with h | h
   ·rcases List.mem_cons.mp h with e | h
    ·cases e;exact absurd rfl hk
    ·exact .inl h
   ·exact .inr h
section
variable {M : Model} {A : Around} {E : Value -> Shared -> Prop} {s : Shared}
theorem fX {scope:Scope} {globals:Addr} {closure:List (Str×Addr)} {qual:Str} {func:Option Addr} {code:Value} {outer:Env} {Q:Env->Shared->Prop}
  (hQ:Q (newEnv scope s.heap.objs.size globals (cellsFrom (s.heap.objs.size+1) scope.names closure) qual func code (some outer) builtinsNs)
   {s with heap:=pushCells (s.heap.push {cls:=.type "dict",data:=.dict #[]}) scope.names}):
  wpAny M A (newFunctionEnv scope globals closure [] qual func code (some outer)) Q E s:=by
 simp only[newFunctionEnv,Option.isSome_some,if_true]
 refine wpAny_bind (wpAny_alloc ?_)
 refine wpAny_bind (wpAny_layCells _ (λname kind cells=>by cases Xj:kind==NameKind.cell <;>simp [Xj]) _ _ _ _ ?_)
 rw[show({s with heap:=s.heap.push {cls:=.type "dict",data:=.dict #[]}}:Shared).heap.objs.size=s.heap.objs.size+1 from Heap.size_push ..]
 refine wpAny_bind ?_
 rw[List.forIn_nil]
 exact wpAny_pure (wpAny_pure hQ)
end
structure G5 (X:Cx) (scope:Scope) (cl:List (Str×Addr)) (lo:Nat) (C:Addr) (h1:Heap):Prop where
 old:∀x c,cl.lookup x=some c->X.env.cells.lookup x=some c\/(lo<=c/\C<c/\h1.IsCell c none)
 inj:∀x y c,C<c->cl.lookup x=some c->cl.lookup y=some c->x=y
 has:∀n,(n,NameKind.free)∈scope.names\/(n,NameKind.cell)∈scope.names->∃c,cl.lookup n=some c
 Fx:∀n,scope.names.lookup n=some .free->∀c,cl.lookup n=some c->X.env.cells.lookup n=some c
 own:∀x c,scope.names.lookup x=some .cell->cl.lookup x=some c->lo<=c
section
variable {X : Cx} {pins : List (Addr × Obj)} {σ : St} {H : Hp} {s : Shared} {N' : List Str} {scope : Scope} {k : Nat} {fr : List Nat} {cl : List (Str × Addr)}
theorem G6 {C:Addr} {fp:List Addr} {h1:Heap} (I:Inv X pins σ H s) (S:d7 X.N X.env.scope N' scope k fr) (B:G5 X scope cl s.heap.objs.size C h1)
  (hC:s.heap.objs.size<=C) (f2:∀b∈fp,jt X pins H b) (lt:∀b∈fp,b<s.heap.objs.size):(kA X N' scope cl C s H fp).Ok where
 mod:=I.ok.mod
 kind:=S.kind
 glob:=I.ok.glob
 blt:=I.ok.blt
 above:=hC
 inj:=λx y c h1 h2=>by
  rcases B.old _ _ h1 with o1 | o1 <;>rcases B.old _ _ h2 with o2 | o2
  ·exact I.ok.inj x y c o1 o2
  ·exact B.inj x y c o2.2.1 h1 h2
  ·exact B.inj x y c o1.2.1 h1 h2
  ·exact B.inj x y c o1.2.1 h1 h2
 has:=λx hx=>B.has x (lR hx)
 Gq:=λx c z e=>B.own x c (by
  have z:(scope.names.lookup x==some NameKind.cell)=true:=z
  simpa using z) e
 hd:=I.ok.hd
 frames:=I.ok.frames
 IU:=.inl rfl
 MH:=λb hb=>⟨aaj (aat (lt b hb) hC),λx c e=>(B.old _ _ e).elim (λo=>(f2 b hb).2.2.2.2.1 x c o) λo=>Nat.ne_of_gt (aat (lt b hb) o.1)⟩
 bs:=I.bs
 Bo:=aax I.ok.Bo I.sz
 xb:=λb o e hb=>by
  rcases(f2 b hb).2.2.2.1 with z | z
  ·exact I.ok.xb b o e z
  ·exact absurd (aat (Heap.lt_size e) (aax I.ok.Bo z)) (aaA _)
 Ab:=λb hb z=>by
  rcases List.mem_cons.mp (I.tK b z) with q | q
  ·exact(f2 b hb).2.1 q
  ·exact(f2 b hb).2.2.1 q
 lE:=I.stack
 DG:=I.o9
theorem Ea {C:Addr} {fp:List Addr} {h1:Heap} {tk:Nat} {m:Str->Option Value} (I:Inv X pins σ H s) (S:d7 X.N X.env.scope N' scope k fr) (B:G5 X scope cl s.heap.objs.size C h1)
  (hC:s.heap.objs.size<=C) (f2:∀b∈fp,jt X pins H b) (lt:∀b∈fp,b<s.heap.objs.size) (old:∀b o,s.heap.get? b=some o->h1.get? b=some o) (hn:h1.Ns C m):
  Inv (kA X N' scope cl C s H fp) [] (stC k fr σ) H {s with heap:=h1,toks:=tk}:=by
 refine⟨G6 I S B hC f2 lt,rfl,I.bare,Un.kept old,⟨m,hn,λi x v e1 e2 e3=>?_⟩,λx c e=>?_,I.bP.fresh hC,λx c e=>(B.old _ _ e).elim (λo=>I.fW x c o) λo=>I.bP.fresh o.1,λp hp=>absurd (show p∈([]:List (Addr×Obj)) from hp) (by simp),I.bP.kept old,?_⟩
 ·have e1:N'[i]?=some x:=e1
  unfold stC at e2
  by_cases hi:i<k
  ·rw[aaN (by simpa using hi),List.getElem?_replicate,if_pos hi] at e2
   cases e2
  ·rw[aa3 (by simpa using hi),List.length_replicate,aad] at e2
   cases q:fr[i - k]? with
   | none=>rw[q] at e2;cases e2
   | some j=>
    rw[q] at e2
    have e2:(σ[j]?).join=some v:=aaI e2
    have ej:σ[j]?=some (some v):=by
     cases z:σ[j]? with
     | none=>rw[z] at e2;cases e2
     | some o=>rw[z] at e2;exact congrArg some e2
    have eW:i - k<fr.length:=(List.getElem?_eq_some_iff.mp q).1
    have uQ:=S.at_ (i - k) eW
    rw[q,show k+ (i - k)=i by omega,e1] at uQ
    have uQ:X.N[j]?=some x:=uQ
    have Xk:x∈N'.drop k:=List.mem_iff_getElem?.mpr ⟨i - k,by rw[List.getElem?_drop,show k+ (i - k)=i by omega];exact e1⟩
    have MU:=S.Fx x Xk
    have JW:(x,NameKind.free)∈scope.names:=aaQ MU
    have JX:=S.outer _ JW rfl
    obtain⟨m0,hn0,Xl⟩:=I.loc
    obtain⟨u,r,l⟩:=Xl j x v uQ ej (.inr JX)
    refine⟨u,r,.inr ⟨eV MU,?_⟩⟩
    rcases l with ⟨kk,_⟩ | ⟨_,c,e,z⟩
    ·have kk:X.env.scope.names.lookup x=some .local:=kk
     rcases JX with q1 | q1
     ·rw[kk] at q1;cases q1
     ·rw[kk] at q1;cases q1
    ·obtain⟨c',e'⟩:=B.has x (.inl JW)
     have ec:=B.Fx x MU _ e'
     rw[e] at ec
     cases ec
     obtain⟨ob,ho,hd⟩:=z
     exact⟨c,e',ob,old _ _ ho,hd⟩
 ·rcases B.old _ _ e with o | o
  ·obtain⟨v,ob,ho,hd⟩:=I.cell x c o
   exact⟨v,ob,old _ _ ho,hd⟩
  ·exact⟨none,o.2.2⟩
 ·unfold stC
  rw[aan,List.length_replicate,aac]
  exact S.len.symm
end
section
variable {prog : Program} {w : World} {A : Around} {E : Value -> Shared -> Prop} {R : Result -> Shared -> Prop} {s : Shared}
theorem iB {elt target iter:Expr} {ifs:List Expr} {scope:Scope} {pos:Pos} {it acc:Value} {env:Env} (I:Nat->Shared->Prop)
  (turn:∀n s,I n s->wpAny (model prog w) A (pyNext it) (λr s₁=>match r with
   | none=>R (.ok .next) s₁
   | some v=>wpAny (model prog w) A (letOwnedTupleGo target it v) (λ_ U8=>wpAny (model prog w) A (assign target env v) (λ_ s₂=>
     wpAny (model prog w) A (forIn ifs true λc r=>if r=true then do let ok <-isTrue c env (eval c env);pure (ForInStep.yield ok) else pure (ForInStep.yield r)) (λok s₃=>
      if ok=true then wpAny (model prog w) A (eval elt env) (λx s₄=>
       wpAny (model prog w) A (call (.builtin "list.append") [acc,x]) (λ_ s₅=>∃m,m<n/\I m s₅) (λ_ _=>False) s₄) (notedBy (model prog w) A env λx s'=>R (.error x) s') s₃
      else ∃m,m<n/\I m s₃) (λ_ _=>False) s₂) (λ_ _=>False) U8) (λ_ _=>False) s₁) (λ_ _=>False) s)
  (n:Nat) (h:I n s):
  codeAny (model prog w) A (.compLoop (.ListComp elt [⟨target,iter,ifs,0⟩] scope pos) 0 it acc env) R s:=by
 refine codeAny_loop rfl I (λn s hI=>?_) n h
 show wpAny _ A ((compTurn (.ListComp elt [⟨target,iter,ifs,0⟩] scope pos) 0 it acc env).onRaise (λx=>do noteFrame x env;theTreesLotGoes x)) _ _ s
 refine wpAny_noted ?_
 rw[compTurn_list]
 refine wpAny_bind (wpAny_standAt (wpAny_bind (wpAny_mono (turn n s hI) (λr s₁ h₁=>?_) λ_ _ h'=>h'.elim)))
 cases r with
 | none=>exact wpAny_pure h₁
 | some v=>
  refine wpAny_bind (wpAny_mono h₁ (λ_ U8 Xm=>?_) λ_ _ h'=>h'.elim)
  refine wpAny_bind (wpAny_mono Xm (λ_ s₂ h₂=>wpAny_bind (wpAny_mono h₂ (λok s₃ h₃=>?_) λ_ _ h'=>h'.elim)) λ_ _ h'=>h'.elim)
  cases ok with
  | false=>exact wpAny_pure ⟨rfl,h₃⟩
  | true=>
   exact wpAny_bind (wpAny_bind (wpAny_mono h₃ (λx s₄ h₄=>wpAny_bind (wpAny_mono h₄ (λ_ s₅ h₅=>wpAny_pure (wpAny_pure ⟨rfl,h₅⟩)) λ_ _ h'=>h'.elim)) λ_ _ h'=>h'))
end
noncomputable def Fy (X:Cx) (ifs:List Expr) (t:TT):Prop:=
 ∀(pins:List (Addr×Obj)) (s:Shared) (σ:St) (H:Hp) (Q:Bool->Hp->Prop),Inv X pins σ H s->t σ H Q->
  wpAny (model X.prog X.w) X.A (forIn ifs true λc r=>if r=true then do let ok <-isTrue c X.env (eval c X.env);pure (ForInStep.yield ok) else pure (ForInStep.yield r)) (TP X pins σ Q) X.xe s
noncomputable def pP:TT:=λ_ H Q=>Q true H
theorem cJ {X:Cx}:Fy X [] pP:=λ_ _ _ H _ I h=>wpAny_tests_nil ⟨H,I,h⟩
theorem lS {X:Cx} {c:Expr} {t:TT} (h:PT X c t):Fy X [c] t:=λpins s σ H Q I hq=>wpAny_tests_one (h pins s σ H Q I hq)
section
variable {X : Cx}
noncomputable def gn (J:It) (g:TG) (tc:TT) (te:TE) (σ0:St) (H1:Hp) (fin:List V->Hp->Prop):Prop:=
 ∃W:Nat->Nat->List V->St->Hp->Prop,(∃m,W 0 m [] σ0 H1)/\∀i m ys σ2 H2,W i m ys σ2 H2->
  (J.stop i H2/\fin ys H2)\/
  (J.go i H2/\∀x H3,J.xf i H2 x H3->g x σ2 H3 λσ3 H4=>tc σ3 H4 λb H5=>if b=true then te σ3 H5 λy H6=>ys.length<sizeLine/\∃m',m'<m/\W (i+1) m' (ys++ [y]) σ3 H6 else ∃m',m'<m/\W (i+1) m' ys σ3 H5)
noncomputable def fF (bz:List Value) (n:Nat):Obj:={cls:=.type "list",data:=.seq bz.toArray n}
theorem vA {elt target iter:Expr} {ifs:List Expr} {scope:Scope} {pos:Pos} {g:TG} {tc:TT} {te:TE} {k:Nat} {fr:List Nat} {N':List Str} {cl:List (Str×Addr)} {pins:List (Addr×Obj)} {σ:St} {H2:Hp} {s2:Shared}
  {it:Addr} {fp:List Addr} {tn:Nat->Heap->Prop} {J:It} {fin:List V->Hp->Prop} {R0:Result->Shared->Prop} {XE:List (Str×Addr)->Addr->Shared->Hp->List Addr->Value->Shared->Prop}
  (hc:X.calm=true) (S:d7 X.N X.env.scope N' scope k fr) (c1:∀x c,cl.lookup x=some c->X.env.cells.lookup x=some c) (c2:∀n,(n,NameKind.free)∈scope.names->∃c,cl.lookup n=some c) (cin:∀x c,(x,c)∈cl->∃y,X.env.cells.lookup y=some c) (MV:∀x,(x,NameKind.cell)∈scope.names->∀c,(x,c)∉cl)
  (hg:∀cl C s H ex,PG (kA X N' scope cl C s H ex) target g) (ht:∀cl C s H ex,Fy (kA X N' scope cl C s H ex) ifs tc) (he:∀cl C s H ex,PE ((kA X N' scope cl C s H ex).js (XE cl C s H ex)) elt te)
  (I2:Inv X pins σ H2 s2) (T:Turn X.prog X.w X.K target J fp it tn) (xh:tn 0 s2.heap) (f2:∀b∈fp,jt X pins H2 b) (hb:gn J g tc te (stC k fr σ) H2 fin)
  (hR:∀(C:Addr),C=(s2.heap.push {cls:=.type "list",dict:=none,data:=.seq ([]:List Value).toArray}).objs.size->∀(s':Shared) (m:Str->Option Value) (ys:List V) (bz:List Value) (n:Nat) (H':Hp),s2.heap.objs.size<C->s'.heap.Ns C m->bH ys bz->ys.length<=sizeLine->s'.heap.get? s2.heap.objs.size=some (fF bz n)->H' s2.heap.objs.size=none->H' C=none->fin ys H'->
   s'.os=s2.os->AllBare s'.gens->Un (dz X.stack) fp H2 H' s2.heap s'.heap->gi X.prog X.w H' s'.heap->R0 (.ok .next) s')
  (hE:∀cl C x s',C=(s2.heap.push {cls:=.type "list",dict:=none,data:=.seq ([]:List Value).toArray}).objs.size->s2.heap.objs.size<C->XE cl C s2 H2 fp x s'->notedBy (model X.prog X.w) X.A (compEnvC scope cl C X.env) (λy q9=>R0 (.error y) q9) x s'):
  codeAny (model X.prog X.w) X.A (.compStart (.ListComp elt [⟨target,iter,ifs,0⟩] scope pos) 0 (.ref it) (.ref s2.heap.objs.size) (compEnvC scope (cellsFrom ((s2.heap.push {cls:=.type "list",dict:=none,data:=.seq ([]:List Value).toArray}).objs.size+1) scope.names cl) (s2.heap.push {cls:=.type "list",dict:=none,data:=.seq ([]:List Value).toArray}).objs.size X.env)) R0 {s2 with heap:=pushCells ((s2.heap.push {cls:=.type "list",dict:=none,data:=.seq ([]:List Value).toArray}).push {cls:=.type "dict",data:=.dict #[]}) scope.names}:=by
 obtain⟨W,⟨m0,w0⟩,turn⟩:=hb
 have lt:∀b∈fp,b<s2.heap.objs.size:=λb hb=>by
  obtain⟨o,e,_⟩:=T.obj _ _ xh b hb
  exact Heap.lt_size e
 generalize Ob:s2.heap.push {cls:=.type "list",dict:=none,data:=.seq ([]:List Value).toArray}=G2 at hR hE ⊢
 have IX:G2.objs.size=s2.heap.objs.size+1:=by rw[<-Ob,Heap.size_push]
 have U9:s2.heap.objs.size≠G2.objs.size:=by rw[IX];exact aaj (aaS _)
 have hC:s2.heap.objs.size<=G2.objs.size:=by rw[IX];exact Nat.le_succ _
 have old:∀b o,s2.heap.get? b=some o->(pushCells (G2.push {cls:=.type "dict",data:=.dict #[]}) scope.names).get? b=some o:=λb o e=>by
  refine pushCells_keeps _ _ b o (Heap.get?_push_of_some _ ?_)
  rw[<-Ob]
  exact Heap.get?_push_of_some _ e
 have Eb:(pushCells (G2.push {cls:=.type "dict",data:=.dict #[]}) scope.names).get? s2.heap.objs.size=some (fF [] 0):=by
  refine pushCells_keeps _ _ _ _ (Heap.get?_push_of_some _ ?_)
  rw[<-Ob]
  exact Heap.get?_push_size _ rfl
 have Oc:(pushCells (G2.push {cls:=.type "dict",data:=.dict #[]}) scope.names).Ns G2.objs.size λ_=>none:=(Heap.Ns.new G2 (.type "dict")).keeps (pushCells_keeps _ _)
 have Va:∀x c,(x,c)∈cl->c<G2.objs.size+1:=λx c m=>by
  obtain⟨y,hy⟩:=cin x c m
  obtain⟨v,q⟩:=I2.cell y c hy
  rw[IX]
  exact Nat.lt_succ_of_lt (Nat.lt_succ_of_lt q.lt)
 have B:G5 X scope (cellsFrom (G2.objs.size+1) scope.names cl) s2.heap.objs.size G2.objs.size (pushCells (G2.push {cls:=.type "dict",data:=.dict #[]}) scope.names):=by
  have own:=mR scope.names (G2.push {cls:=.type "dict",data:=.dict #[]}) cl
  rw[Heap.size_push] at own
  refine⟨λx c e=>?_,λx y c hc h1 h2=>?_,λn hn=>?_,λn hn c e=>?_,λx c hx e=>?_⟩
  ·by_cases hx:(x,NameKind.cell)∈scope.names
   ·rcases own x c (aaQ e) with m | ⟨q1,q2,_⟩
    ·
     exfalso
     exact MV x hx c m
    ·exact .inr ⟨aax hC (Nat.le_of_succ_le q1),q1,q2⟩
   ·rw[gS _ _ _ _ hx] at e
    exact .inl (c1 x c e)
  ·exact mT scope.names (G2.objs.size+1) (G2.objs.size+1) cl Va (λx y c hl m1 _=>absurd (Va x c m1) (Nat.not_lt.mpr hl)) x y c hc (aaQ h1) (aaQ h2)
  ·refine Option.isSome_iff_exists.mp (mU _ _ _ n ?_)
   rcases hn with hn | hn
   ·obtain⟨c,e⟩:=c2 n hn
    exact .inr (by rw[e];rfl)
   ·exact .inl hn
  ·have hx:(n,NameKind.cell)∉scope.names:=λm=>by
    have:=(S.D9 _ m rfl).1
    rw[hn] at this
    cases this
   rw[gS _ _ _ _ hx] at e
   exact c1 n c e
  ·have hx:=aaQ hx
   rcases own x c (aaQ e) with m | ⟨q1,q2,_⟩
   ·exact absurd m (MV x hx c)
   ·exact aax hC (Nat.le_of_succ_le q1)
 generalize pushCells (G2.push {cls:=.type "dict",data:=.dict #[]}) scope.names=h₁ at *
 generalize cellsFrom (G2.objs.size+1) scope.names cl=xO at *
 generalize G7:s2.heap.objs.size=D at *
 generalize hCc:G2.objs.size=C at *
 have fD:H2 D=none:=by rw[<-G7];exact I2.bP.fresh (aaf _)
 have cells:∀x c,xO.lookup x=some c->c≠D:=λx c e=>by
  rcases B.old _ _ e with o | o
  ·obtain⟨v,q⟩:=I2.cell x c o
   rw[<-G7]
   exact aaj q.lt
  ·exact Nat.ne_of_gt (aaM (by rw[IX];exact aaS _) o.2.1)
 have loop:∀(DK:Addr) (s3:Shared),DK=it->(∃tk,s3={s2 with heap:=h₁,toks:=tk})->
   codeAny (model X.prog X.w) X.A (.compLoop (.ListComp elt [⟨target,iter,ifs,0⟩] scope pos) 0 (.ref DK) (.ref D) (compEnvC scope xO C X.env)) R0 s3:=by
  rintro DK s3 rfl ⟨tk,rfl⟩
  have I3:Inv (kA X N' scope xO C s2 H2 fp) [] (stC k fr σ) H2 {s2 with heap:=h₁,toks:=tk}:=Ea I2 S (by rw[G7];exact B) (by rw[G7];exact hC) f2 (by rw[G7];exact lt) old Oc
  have xi:∀{H':Hp} {o:Obj},(∀b∈fp,H' b=none)->∀b∈fp,jt (kA X N' scope xO C s2 H2 fp) [(D,o)] H' b:=λ{H' o} hn b hb=>
   ⟨hn b hb,aaj (aat (lt b hb) hC),λz=>by
    rcases List.mem_cons.mp (I2.tK b z) with q | q
    ·exact(f2 b hb).2.1 q
    ·exact(f2 b hb).2.2.1 q,.inl hb,λx c e=>(B.old _ _ e).elim (λo=>(f2 b hb).2.2.2.2.1 x c o) (λo=>Nat.ne_of_gt (aat (lt b hb) o.1)),λp hp=>by
    have e:p=(D,o):=by simpa [kA] using hp
    rw[e]
    exact Nat.ne_of_gt (lt b hb)⟩
  have Od:∀{σ':St} {H':Hp} {s':Shared} {o:Obj},Inv (kA X N' scope xO C s2 H2 fp) [] σ' H' s'->s'.heap.get? D=some o->H' D=none->(∀v,o.data≠.cell v)->Inv (kA X N' scope xO C s2 H2 fp) [(D,o)] σ' H' s':=λ{σ' H' s' o} I' e n hd=>
   I'.lG λp hp=>by
    have q:p=(D,o):=by simpa using hp
    subst q
    refine⟨e,n,U9,λz=>?_,hd⟩
    obtain⟨_,ob,ho,_⟩:=I2.stack.mem z
    exact absurd (Heap.lt_size ho) (by rw[G7];exact aaA _)
  have Xn:∀{bz:List Value} {n:Nat} (v:Option Value),(fF bz n).data≠.cell v:=λv z=>by
   have z:Data.seq _ _=Data.cell v:=z
   cases z
  refine iB (λn s'=>∃i ys σ' H' bz Ec,Inv (kA X N' scope xO C s2 H2 fp) [] σ' H' s'/\tn i s'.heap/\(∀b∈fp,H' b=none)/\s'.heap.get? D=some (fF bz Ec)/\H' D=none/\bH ys bz/\ys.length<=sizeLine/\W i n ys σ' H') ?_ m0
   ⟨0,[],_,H2,[],0,I3,T.keep _ _ _ xh (λb _ o e=>old b o e),λb hb=>(f2 b hb).1,Eb,fD,.nil,aak _,w0⟩
  rintro n s4 ⟨i,ys,σ4,H4,bz,Ec,I4,Vb,JY,Xo,Vc,MW,Vd,w4⟩
  have Ve:=Od I4 Xo Vc Xn
  rcases turn i n ys σ4 H4 w4 with ⟨stop,qf⟩ | ⟨go,step⟩
  ·refine cw (T.done (kA X N' scope xO C s2 H2 fp) rfl rfl rfl hc i _ s4 σ4 H4 _ Ve (xi JY) Vb stop) λr s5 ⟨hr,I5⟩=>?_
   subst hr
   obtain⟨m5,Xp,_⟩:=I5.loc
   exact hR C rfl s5 m5 ys bz Ec H4 (by rw[IX];exact aaS _) Xp MW Vd (I5.pin (D,fF bz Ec) (aaB _ aai)).1 Vc I5.free qf I5.os I5.bare I5.base I5.bP
  ·refine cw (T.item (kA X N' scope xO C s2 H2 fp) rfl rfl rfl hc i _ s4 σ4 H4 _ Ve (xi JY) Vb go) λr s5 ⟨u,hr,h5⟩=>?_
   subst hr
   refine cw h5 λ_ s6 ⟨x,H6,I6,r6,y6,Fz,Xq⟩=>?_
   have Xr:=I6.pinned (xi Xq) (T.obj _ _ Fz)
   refine cw (hg xO C s2 H2 fp _ s6 σ4 H6 x u _ Xr r6 (step x H6 y6)) λ_ s7 ⟨σ7,H7,I7,q7⟩=>?_
   refine cw (ht xO C s2 H2 fp _ s7 σ7 H7 _ I7 q7) λok s8 ⟨H8,I8,q8⟩=>?_
   have back:∀{σ':St} {H':Hp} {s':Shared},Inv (kA X N' scope xO C s2 H2 fp) ([(D,fF bz Ec)]++pE fp s6.heap) σ' H' s'->tn (i+1) s'.heap/\(∀b∈fp,H' b=none)/\s'.heap.get? D=some (fF bz Ec)/\H' D=none:=λ{σ' H' s'} I'=>by
    have pD:=I'.pin (D,fF bz Ec) (aaB _ (aaO _ (by simp)))
    refine⟨T.keep _ _ _ Fz λb hb o e=>(I'.pin (b,o) (aaB _ (aaB _ (gR hb e)))).1,λb hb=>?_,pD.1,pD.2.1⟩
    obtain⟨o,e,d⟩:=T.obj _ _ Fz b hb
    exact(I'.pin (b,o) (aaB _ (aaB _ (gR hb e)))).2.1
   cases ok with
   | false=>
    rw[if_neg aau]
    rw[if_neg aau] at q8
    obtain⟨m',hm,w8⟩:=q8
    obtain⟨b1,b2,b3,b4⟩:=back I8
    exact⟨m',hm,i+1,ys,σ7,H8,bz,Ec,I8.lG (λp hp=>absurd hp (by simp)),b1,b2,b3,b4,MW,Vd,w8⟩
   | true=>
    rw[if_pos rfl]
    rw[if_pos rfl] at q8
    refine wpAny_mono (he xO C s2 H2 fp _ s8 σ7 H8 _ (I8.js _) q8) (λy s9 ⟨z,H9,I9,r9,eW,m',hm,w9⟩=>?_) λx s' hx=>hE xO C x s' rfl (by rw[IX];exact aaS _) hx
    have I9:=I9.eM
    obtain⟨b1,b2,b3,b4⟩:=back I9
    have hl:=MW.length
    refine call_meets F.slot_list_append ⟨_,b3,rfl⟩ F.entry_list_append (F.args_list_append_2 _ _) (PySem.list_append D bz.toArray Ec y (by rw[aam];omega)) ⟨b3,?_⟩
    obtain⟨c',q⟩:∃c',(s9.heap.update D (Obj.mapSeq λx=>x.push y)).get? D=some (fF (bz++ [y]) c'):=by
     have q:=PySem.IsL.update b3 (λx=>x.push y)
     rw[show bz.toArray.push y=(bz++ [y]).toArray by simp] at q
     exact⟨_,q⟩
    have Xs:Inv (kA X N' scope xO C s2 H2 fp) [] σ7 H9 s9:=I9.lG (λp hp=>absurd hp (by simp))
    have kp:∀b o,b≠D->s9.heap.get? b=some o->(s9.heap.update D (Obj.mapSeq λx=>x.push y)).get? b=some o:=λb o hb e=>(Heap.get?_update_other s9.heap (Obj.mapSeq λx=>x.push y) (Ne.symm hb)).trans e
    have Xu:=Xs.turned (t':=s9.toks) (it:=D) (h':=s9.heap.update D (Obj.mapSeq λx=>x.push y)) kp b4 U9 (.inr (by show s2.heap.objs.size<=D;rw[G7];exact aaf _)) (λx c e=>cells x c e) (λp hp=>absurd hp (by simp [kA]))
    refine⟨m',hm,i+1,ys++ [z],σ7,H9,bz++ [y],c',Xu,T.keep _ _ _ b1 (λb hb o e=>kp b o (aaj (lt b hb)) e),b2,q,b4,MW.append (.cons r9 .nil),?_,w9⟩
    ·rw[aan,aay]
     omega
 exact codeAny_compStart_list (loop it _ rfl ⟨_,rfl⟩) (T.self _ 0 _ _ _ (T.keep _ _ _ xh (λb _ o e=>old b o e)) (loop it _ rfl ⟨_,rfl⟩))
theorem sL {elt target iter:Expr} {ifs:List Expr} {scope:Scope} {pos:Pos} {g:TG} {tc:TT} {te:TE} {k:Nat} {fr:List Nat} {N':List Str} {cl:List (Str×Addr)} {pins:List (Addr×Obj)} {σ:St} {H2:Hp} {s2:Shared}
  {it:Addr} {fp:List Addr} {tn:Nat->Heap->Prop} {J:It} {E:Value->Shared->Prop} {fin:List V->Hp->Prop} {RR:Value->Addr->Result->Shared->Prop} {XE:List (Str×Addr)->Addr->Shared->Hp->List Addr->Value->Shared->Prop}
  (hc:X.calm=true) (S:d7 X.N X.env.scope N' scope k fr) (c1:∀x c,cl.lookup x=some c->X.env.cells.lookup x=some c) (c2:∀n,(n,NameKind.free)∈scope.names->∃c,cl.lookup n=some c) (cin:∀x c,(x,c)∈cl->∃y,X.env.cells.lookup y=some c) (MV:∀x,(x,NameKind.cell)∈scope.names->∀c,(x,c)∉cl)
  (hg:∀cl C s H ex,PG (kA X N' scope cl C s H ex) target g) (ht:∀cl C s H ex,Fy (kA X N' scope cl C s H ex) ifs tc) (he:∀cl C s H ex,PE ((kA X N' scope cl C s H ex).js (XE cl C s H ex)) elt te)
  (I2:Inv X pins σ H2 s2) (T:Turn X.prog X.w X.K target J fp it tn) (xh:tn 0 s2.heap) (f2:∀b∈fp,jt X pins H2 b) (hb:gn J g tc te (stC k fr σ) H2 fin)
  (hR:∀(C:Addr) (s':Shared) (m:Str->Option Value) (ys:List V) (bz:List Value) (n:Nat) (H':Hp),s2.heap.objs.size<C->s'.heap.Ns C m->bH ys bz->ys.length<=sizeLine->s'.heap.get? s2.heap.objs.size=some (fF bz n)->H' s2.heap.objs.size=none->H' C=none->fin ys H'->
   s'.os=s2.os->AllBare s'.gens->Un (dz X.stack) fp H2 H' s2.heap s'.heap->gi X.prog X.w H' s'.heap->RR (.ref s2.heap.objs.size) C (.ok .next) s')
  (hE:∀cl C x s',s2.heap.objs.size<C->XE cl C s2 H2 fp x s'->notedBy (model X.prog X.w) X.A (compEnvC scope cl C X.env) (λy q9=>RR (.ref s2.heap.objs.size) C (.error y) q9) x s'):
  wpAny (model X.prog X.w) X.A (newList []) (λacc s₃=>wpAny (model X.prog X.w) X.A (newFunctionEnv scope X.env.globals cl [] X.env.qual none .none (some X.env)) (λcenv s₄=>
   codeAny (model X.prog X.w) X.A (.compStart (.ListComp elt [⟨target,iter,ifs,0⟩] scope pos) 0 (.ref it) acc {cenv with scope:=relabel scope X.env}) (RR acc cenv.locals) s₄) E s₃) E s2:=by
 refine wpAny_newObj_type (fX ?_)
 exact vA (R0:=RR _ _) hc S c1 c2 cin MV hg ht he I2 T xh f2 hb (λC e=>by subst e;exact hR _) (λcl C x s' e=>by subst e;exact hE cl _ x s')
theorem comp_back {fp:List Addr} {pins:List (Addr×Obj)} {σ:St} {H2 H':Hp} {s2 s':Shared} {C:Addr} {ys:List V} {bz:List Value} {n:Nat} {h':Heap} (I2:Inv X pins σ H2 s2) (f2:∀b∈fp,jt X pins H2 b) (hC:s2.heap.objs.size<C)
  (vl:bH ys bz) (sz:ys.length<=sizeLine) (hD:s'.heap.get? s2.heap.objs.size=some (fF bz n)) (nD:H' s2.heap.objs.size=none) (nC:H' C=none)
  (os:s'.os=s2.os) (bare:AllBare s'.gens) (un:Un (dz X.stack) fp H2 H' s2.heap s'.heap) (bP:gi X.prog X.w H' s'.heap) (hs:Heap.SameBut C s'.heap h'):
  Inv X pins σ (upd H' s2.heap.objs.size (.lst ys)) {s' with heap:=h'}:=by
 have Oe:∀b o,s2.heap.get? b=some o->b≠C:=λb o e=>aaj (aaM (Heap.lt_size e) hC)
 have Xv:∀b o,s2.heap.get? b=some o->b≠s2.heap.objs.size:=λb o e=>aaj (Heap.lt_size e)
 have tk:∀b u,H' b=some u->b≠s2.heap.objs.size:=λb u e z=>by rw[z,nD] at e;cases e
 have tC:∀b u,H' b=some u->b≠C:=λb u e z=>by rw[z,nC] at e;cases e
 have fD:H2 s2.heap.objs.size=none:=I2.bP.fresh (aaf _)
 have t2:∀b u,H2 b=some u->b≠s2.heap.objs.size:=λb u e z=>by rw[z,fD] at e;cases e
 refine I2.Fk (s':={s' with heap:=h'}) (ch:=fp) os ⟨λb o e m hb hx=>?_,λb o e m hb hx=>?_,λb o e m hx=>?_,λb o e hx=>?_,λb xs e=>?_,λb o u e=>?_,λb ps e=>?_⟩ (λb u e=>?_) bare λb hb=>?_
 ·exact(hs.2 b (Oe b o e)).trans (un.keep b o e m hb hx)
 ·obtain⟨sl,q⟩:=un.slot b o e m hb hx
  exact⟨sl,(hs.2 b (Oe b o e)).trans q⟩
 ·rw[aF (Xv b o e)]
  exact un.free b o e m hx
 ·obtain⟨o',q⟩:=un.there b o e hx
  exact⟨o',(hs.2 b (Oe b o e)).trans q⟩
 ·rw[aF (t2 b _ e)]
  exact un.gO b xs e
 ·rw[aF (t2 b _ e)]
  exact un.gw b o u e
 ·obtain⟨mo,q⟩:=un.iu b ps e
  exact⟨mo,by rw[aF (t2 b _ e)];exact q⟩
 ·by_cases hb:b=s2.heap.objs.size
  ·subst hb
   rw[ar] at e
   cases e
   exact⟨sz,bz,n,vl,(hs.2 _ (aaj hC)).trans hD⟩
  ·rw[aF hb] at e
   exact(bP b u e).qZ (λc v hc q=>(hs.2 c (by
    rcases hc with rfl | hc
    ·exact tC _ _ e
    ·exact tC _ _ hc)).trans q) (λc r=>by rw[aF (tk _ _ r)];exact r) λc xs r=>by rw[aF (tk _ _ r)];exact r
 ·exact⟨(f2 b hb).2.2.2.1,(f2 b hb).2.1,(f2 b hb).2.2.2.2.1,(f2 b hb).2.2.2.2.2⟩
noncomputable def tComp (wi:TI) (g:TG) (tc:TT) (te:TE) (k:Nat) (fr:List Nat):TE:=λσ H Q=>wi σ H λJ H1=>gn J g tc te (stC k fr σ) H1 λys H2=>∀D,H1 D=none->H2 D=none->Q (.ref D) (upd H2 D (.lst ys))
theorem cL {elt target iter:Expr} {ifs:List Expr} {scope so:Scope} {pos:Pos} {wi:TI} {g:TG} {tc:TT} {te:TE} {k:Nat} {fr:List Nat} {N N':List Str} (hc:X.calm=true) (hN:X.N=N) (JZ:X.env.scope=so) (S:d7 N so N' scope k fr)
  (hi:PI X target iter wi) (hg:∀cl C s H ex,PG (kA X N' scope cl C s H ex) target g) (ht:∀cl C s H ex,Fy (kA X N' scope cl C s H ex) ifs tc) (he:∀cl C s H ex,PE (kA X N' scope cl C s H ex) elt te)
  (hs:∀x,foldedSetIterable iter X.env x=pure x:=by intro _;rfl):PE X (.ListComp elt [⟨target,iter,ifs,0⟩] scope pos) (tComp wi g tc te k fr):=by
 subst hN JZ
 intro pins s σ H Q I h
 rw[eval_ListComp]
 obtain⟨cl,iC,c1,c2,c3⟩:=gm (env:=X.env) (scope:=scope) λn hn=>I.ok.has n (S.outer _ hn rfl)
 refine wpAny_comprehension_free (use:=none) (cl:=cl) rfl hs iC S.kind S.locs ?_
 refine cw (hi pins s σ H _ I h) λv s1 h1=>cw h1 λDK s2 h2=>?_
 obtain⟨it,fp,tn,J,H2,rfl,I2,T,xh,f2,hb⟩:=h2
 refine sL (RR:=λacc C=>compPost (model X.prog X.w) X.A X.xe none (EP X pins σ Q) acc C) hc S c1 c2 (λx c m=>⟨x,(c3 x c m).1⟩) (λx hx c m=>(S.D9 _ hx rfl).2 (c3 x c m).2) (XE:=λ_ _ _ _ _ _ _=>False) hg ht he I2 T xh f2 hb ?_ (λ_ _ _ _ _ z=>False.elim z)
 intro C s' m ys bz n H' hC hn vl sz hD nD nC fin os bare un bP
 exact⟨m,hn,λh' uR=>⟨.ref _,_,comp_back I2 f2 hC vl sz hD nD nC os bare un bP uR,rfl,fin _ (I2.bP.fresh (aaf _)) nD⟩⟩
theorem lT {elt target iter:Expr} {ifs:List Expr} {scope so:Scope} {pos J1 py:Pos} {wi:TI} {g:TG} {tc:TT} {te:TE} {k:Nat} {fr:List Nat} {N N':List Str} {y:Str} {i:Nat} (hc:X.calm=true) (hN:X.N.Nodup) (hy:X.N[i]?=some y) (hl:X.env.scope.names.lookup y=some .local)
  (Xw:X.N=N) (JZ:X.env.scope=so) (S:d7 N so N' scope k fr)
  (hi:PI X target iter wi) (hg:∀cl C s H ex,PG (kA X N' scope cl C s H ex) target g) (ht:∀cl C s H ex,Fy (kA X N' scope cl C s H ex) ifs tc) (he:∀cl C s H ex,PE (kA X N' scope cl C s H ex) elt te)
  (Of:swapsWith (.ListComp elt [⟨target,iter,ifs,0⟩] scope pos) (some (.Name y py)) J1.line X.env=pure true:=by rfl)
  (hs:∀x,foldedSetIterable iter X.env x=pure x:=by intro _;rfl):PS X (.Assign [.Name y py] (.ListComp elt [⟨target,iter,ifs,0⟩] scope pos) J1) (tAsg (tComp wi g tc te k fr) (gName i)):=by
 subst Xw JZ
 intro pins s σ H D I h
 rw[exec_Assign_Name_used _ _ _ _ Of]
 obtain⟨cl,iC,c1,c2,c3⟩:=gm (env:=X.env) (scope:=scope) λn hn=>I.ok.has n (S.outer _ hn rfl)
 refine wpAny_bind (wpAny_standAt (wpAny_bind ?_))
 show wpAny _ X.A (do let _ <-comprehension (.ListComp elt [⟨target,iter,ifs,0⟩] scope pos) scope X.env _ (newList []) false (eval iter X.env) (some (assign (.Name y py) X.env))) _ _ s
 refine wpAny_bind (wpAny_mono (wpAny_comprehension_free (use:=some (assign (.Name y py) X.env)) (Q:=λ_ s'=>SP X pins D .next s') (cl:=cl) rfl hs iC S.kind S.locs ?_) (λ_ s' hq=>wpAny_pure (wpAny_pure hq)) λ_ _ e=>e)
 refine cw (hi pins s σ H _ I h) λv s1 h1=>cw h1 λDK s2 h2=>?_
 obtain⟨it,fp,tn,J,H2,rfl,I2,T,xh,f2,hb⟩:=h2
 refine sL (RR:=λacc C=>compPost (model X.prog X.w) X.A X.xe (some (assign (.Name y py) X.env)) (λ_ s'=>SP X pins D .next s') acc C) hc S c1 c2 (λx c m=>⟨x,(c3 x c m).1⟩) (λx hx c m=>(S.D9 _ hx rfl).2 (c3 x c m).2) (XE:=λ_ _ _ _ _ _ _=>False) hg ht he I2 T xh f2 hb ?_ (λ_ _ _ _ _ z=>False.elim z)
 intro C s' m ys bz n H' hC hn vl sz hD nD nC fin os bare un bP
 have I3:Inv X pins σ (upd H' s2.heap.objs.size (.lst ys)) s':=comp_back (h':=s'.heap) I2 f2 hC vl sz hD nD nC os bare un bP (.refl ..)
 refine wpAny_assign_Name (sg (v:=.ref s2.heap.objs.size) I3 hN hy (.inl hl) rfl (λs4 I4 ch=>?_) (.inr hl))
 have Vf:X.env.locals<s2.heap.objs.size:=I2.lt
 obtain⟨a,sM,ha⟩:=ch
 have aC:a≠C:=by
  rcases ha with rfl | ha
  ·exact aaj (aaM Vf hC)
  ·obtain⟨v,q⟩:=I2.cell _ _ ha
   exact aaj (aaM q.lt hC)
 refine⟨m,hn.sameBut sM (Ne.symm aC),λh' uR=>⟨_,_,?_,fin _ (I2.bP.fresh (aaf _)) nD⟩⟩
 have MX:(upd H' s2.heap.objs.size (.lst ys)) C=none:=by rw[aF (Nat.ne_of_gt hC)];exact nC
 exact I4.turned (t':=s4.toks) (it:=C) (h':=h') (λb o hb e=>(uR.2 b hb).trans e) MX (Nat.ne_of_gt (aaM Vf hC)) (.inr (aax I2.sz (Nat.le_of_lt hC))) (λx c e z=>by
  obtain⟨v,q⟩:=I2.cell x c e
  exact absurd (aaM q.lt hC) (by rw[z];exact aaA _)) (λp hp z=>by
  have:=Heap.lt_size (I2.pin p hp).1
  rw[z] at this
  exact absurd (aaM this hC) (aaA _))
end
structure Src (J:It) (Ok:Hp->Prop) (n:Nat) (Item:Nat->V->Hp->Hp->Prop):Prop where
 go:∀i H,i<n->Ok H->J.go i H
 xf:∀i H x H3,i<n->Ok H->J.xf i H x H3->Item i x H H3
 stop:∀H,Ok H->J.stop n H
theorem src_list {K:PySem.W.Frag} {a:Addr} {xs:List V} {Ok:Hp->Prop} (h:∀H,Ok H->bN K H a xs):Src (IW K a) Ok xs.length (λi x H H3=>H3=H/\xs[i]?=some x) where
 go:=λi H hi ok=>⟨xs,xs[i],h H ok,by simp [hi]⟩
 xf:=λi H x H3 hi ok ⟨e,y⟩=>⟨e,y xs (h H ok)⟩
 stop:=λH ok=>⟨xs,h H ok,aaf _⟩
theorem src_range {lo:Int} {n:Nat} {Ok:Hp->Prop}:Src (JA lo n) Ok n (λi x H H3=>H3=H/\x=.int (lo+i)) where
 go:=λ_ _ hi _=>hi
 xf:=λ_ _ _ _ _ _ y=>y
 stop:=λ_ _=>aaf _
theorem sN {J:It} {g:TG} {tc:TT} {te:TE} {σ0:St} {H1:Hp} {fin:List V->Hp->Prop} {n:Nat} {Item:Nat->V->Hp->Hp->Prop} (S:Src J (aE H1) n Item) (G8:St->Prop) (h0:G8 σ0) (P:Nat->List V->Hp->Prop) (p0:P 0 [] H1) (hz:n<=sizeLine)
  (hs:∀i x σ H ys H3 (Q:St->V->Hp->Prop) (N:St->Hp->Prop),i<n->aE H1 H->P i ys H->ys.length<=i->G8 σ->Item i x H H3->
   (∀σ3 y H6,G8 σ3->aE H1 H6->P (i+1) (ys++ [y]) H6->Q σ3 y H6)->(∀σ3 H5,G8 σ3->aE H1 H5->P (i+1) ys H5->N σ3 H5)->
   g x σ H3 λσ3 H4=>tc σ3 H4 λb H5=>if b=true then te σ3 H5 λy H6=>Q σ3 y H6 else N σ3 H5)
  (mV:∀ys H,aE H1 H->P n ys H->ys.length<=n->fin ys H):gn J g tc te σ0 H1 fin:=by
 refine⟨λi m ys σ H=>m=n - i/\i<=n/\ys.length<=i/\G8 σ/\aE H1 H/\P i ys H,⟨n,by simp,aak _,aaf _,h0,aE.refl _,p0⟩,?_⟩
 rintro i m ys σ H ⟨rfl,hi,hl,ow,sm,p⟩
 by_cases eW:i<n
 ·refine .inr ⟨S.go i H eW sm,λx H3 y=>hs i x σ H ys H3 (λσ3 y H6=>ys.length<sizeLine/\∃m',m'<n - i/\m'=n - (i+1)/\i+1<=n/\(ys++ [y]).length<=i+1/\G8 σ3/\aE H1 H6/\P (i+1) (ys++ [y]) H6)
   (λσ3 H5=>∃m',m'<n - i/\m'=n - (i+1)/\i+1<=n/\ys.length<=i+1/\G8 σ3/\aE H1 H5/\P (i+1) ys H5) eW sm p hl ow (S.xf i H x H3 eW sm y) (λσ3 y H6 o s6 q=>?_) (λσ3 H5 o s5 q=>?_)⟩
  ·exact⟨by omega,n - (i+1),by omega,rfl,eW,by rw[aan,aay];omega,o,s6,q⟩
  ·exact⟨n - (i+1),by omega,rfl,eW,by omega,o,s5,q⟩
 ·have e:i=n:=by omega
  subst e
  exact .inl ⟨S.stop H sm,mV ys H sm p hl⟩
theorem comp_map {J:It} {te:TE} {tl:St} {H1:Hp} {fin:List V->Hp->Prop} {n:Nat} {Item:Nat->V->Hp->Hp->Prop} (S:Src J (aE H1) n Item) (sub:∀i x H H3,Item i x H H3->aE H H3) (hz:n<=sizeLine)
  (R:Nat->V->Hp->Prop) (mono:∀i y H H',aE H H'->R i y H->R i y H')
  (hs:∀i x w H H3 (Q:VK),i<n->aE H1 H->Item i x H H3->(∀y H6,aE H3 H6->R i y H6->Q y H6)->te ((w::tl).set 0 (some x)) H3 Q)
  (mV:∀ys H,aE H1 H->ys.length=n->(∀i y,ys[i]?=some y->R i y H)->fin ys H):gn J (gName 0) pP te (none::tl) H1 fin:=by
 refine⟨λi m ys σ H=>m=n - i/\i<=n/\ys.length=i/\(∃w,σ=w::tl)/\aE H1 H/\∀j y,ys[j]?=some y->R j y H,⟨n,by simp,aak _,rfl,⟨_,rfl⟩,aE.refl _,λj y e=>by simp at e⟩,?_⟩
 rintro i m ys σ H ⟨rfl,hi,hl,⟨w,rfl⟩,sm,p⟩
 by_cases eW:i<n
 ·refine .inr ⟨S.go i H eW sm,λx H3 y=>?_⟩
  have it:=S.xf i H x H3 eW sm y
  have s3:=sub i x H H3 it
  unfold gName pP
  refine GV ?_
  refine hs i x w H H3 _ eW sm it λy H6 s6 r=>⟨by omega,n - (i+1),by omega,rfl,eW,by rw[aan,aay];omega,⟨_,rfl⟩,sm.trans (s3.trans s6),λj z e=>?_⟩
  by_cases hj:j<i
  ·rw[aaN (by omega)] at e
   exact mono j z _ _ (s3.trans s6) (p j z e)
  ·rw[aa3 (by omega)] at e
   have e2:j - ys.length=0:=by
    by_cases q:j - ys.length=0
    ·exact q
    ·rw[aaR (by simp;omega)] at e;cases e
   rw[e2] at e
   simp at e
   subst e
   have:j=i:=by omega
   subst this
   exact r
 ·have e:i=n:=by omega
  subst e
  exact .inl ⟨S.stop H sm,mV ys H sm hl p⟩
noncomputable def FA (J:It) (g:TG) (tb:TS) (D:Ends) (σ:St) (H:Hp):Prop:=
 ∃W:Nat->Nat->St->Hp->Prop,(∃m,W 0 m σ H)/\∀i m σ H,W i m σ H->
  (J.stop i H/\D.nx σ H)\/(J.go i H/\∃N:St->Hp->Prop,(∀σ' H',N σ' H'->∃m',m'<m/\W (i+1) m' σ' H')/\∀x H',J.xf i H x H'->g x σ H' λσ2 H2=>tb {D with nx:=N,ct:=N,bk:=D.nx} σ2 H2)
theorem tFor_eq {wi:TI} {g:TG} {tb:TS} {D:Ends} {σ:St} {H:Hp}:JB wi g tb D σ H=wi σ H λJ H1=>FA J g tb D σ H1:=rfl
theorem cu {J:It} {g:TG} {tb:TS} {D:Ends} {σ:St} {H:Hp} {n:Nat} {Item:Nat->V->Hp->Hp->Prop} {Ok:Hp->Prop} (S:Src J Ok n Item) (Pv:Nat->St->Hp->Prop) (h0:Pv 0 σ H) (bP:∀i σ H,i<=n->Pv i σ H->Ok H)
  (hs:∀i x σ H H3,i<n->Pv i σ H->Item i x H H3->g x σ H3 λσ2 H2=>tb {D with nx:=Pv (i+1),ct:=Pv (i+1),bk:=D.nx} σ2 H2) (hd:∀σ H,Pv n σ H->D.nx σ H):FA J g tb D σ H:=by
 refine⟨λi m σ H=>m=n - i/\i<=n/\Pv i σ H,⟨n,by simp,aak _,h0⟩,?_⟩
 rintro i m σ H ⟨rfl,hi,p⟩
 by_cases eW:i<n
 ·exact .inr ⟨S.go i H eW (bP i σ H hi p),Pv (i+1),λσ' H' p'=>⟨n - (i+1),by omega,rfl,eW,p'⟩,λx H' y=>hs i x σ H H' eW p (S.xf i H x H' eW (bP i σ H hi p) y)⟩
 ·have e:i=n:=by omega
  subst e
  exact .inl ⟨S.stop H (bP i σ H hi p),hd σ H p⟩
theorem jh {K:PySem.W.Frag} {J:It} {te:TE} {tl:St} {H1:Hp} {fin:List V->Hp->Prop} {n:Nat} {Item:Nat->V->Hp->Hp->Prop} (S:Src J (aE H1) n Item) (J2:Nat->V->V->Hp->Prop)
  (tp:∀i x H H3,i<n->aE H1 H->Item i x H H3->aE H H3/\∃p a b,x=.ref p/\hX K H3 p [a,b]/\J2 i a b H3) (hz:n<=sizeLine)
  (R:Nat->V->Hp->Prop) (mono:∀i y H H',aE H H'->R i y H->R i y H')
  (hs:∀i a b H3 (Q:VK),i<n->aE H1 H3->J2 i a b H3->(∀y H6,aE H3 H6->R i y H6->Q y H6)->te (some a::some b::tl) H3 Q)
  (mV:∀ys H,aE H1 H->ys.length=n->(∀(i:Nat) y,ys[i]?=some y->R i y H)->fin ys H):gn J (Bs K 2 (gCons (gName 0) (gCons (gName 1) gNil))) pP te (none::none::tl) H1 fin:=by
 refine⟨λi m ys σ H=>m=n - i/\i<=n/\ys.length=i/\(∃w w',σ=w::w'::tl)/\aE H1 H/\∀(j:Nat) y,ys[j]?=some y->R j y H,⟨n,by simp,aak _,rfl,⟨_,_,rfl⟩,aE.refl _,λj y e=>by simp at e⟩,?_⟩
 rintro i m ys σ H ⟨rfl,hi,hl,⟨w,w',rfl⟩,sm,p⟩
 by_cases eW:i<n
 ·refine .inr ⟨S.go i H eW sm,λx H3 y=>?_⟩
  obtain⟨s3,q,a,b,rfl,sq,it⟩:=tp i x H H3 eW sm (S.xf i H x H3 eW sm y)
  refine⟨q,_,rfl,sq,rfl,_,_,rfl,_,_,rfl,rfl,?_⟩
  unfold pP
  refine GV ?_
  refine hs i a b H3 _ eW (sm.trans s3) it λy H6 s6 r=>⟨by omega,n - (i+1),by omega,rfl,eW,by rw[aan,aay];omega,⟨_,_,rfl⟩,sm.trans (s3.trans s6),λj z e=>?_⟩
  by_cases hj:j<i
  ·rw[aaN (by omega)] at e
   exact mono j z _ _ (s3.trans s6) (p j z e)
  ·rw[aa3 (by omega)] at e
   have e2:j - ys.length=0:=by
    by_cases q:j - ys.length=0
    ·exact q
    ·rw[aaR (by simp;omega)] at e;cases e
   rw[e2] at e
   simp at e
   subst e
   have:j=i:=by omega
   subst this
   exact r
 ·have e:i=n:=by omega
  subst e
  exact .inl ⟨S.stop H sm,mV ys H sm hl p⟩
end L2
namespace L2
open PySem PySem.Spec PyProof.Rows
section
variable {X : Cx} {pins : List (Addr × Obj)} {σ : St} {H : Hp} {s : Shared}
theorem Inv.moved {h':Heap} {t':Nat} {ch:List Addr} (I:Inv X pins σ H s) (f:∀b∈ch,jt X pins H b) (k:∀b o,b∉ch->s.heap.get? b=some o->h'.get? b=some o):Inv X pins σ H {s with heap:=h',toks:=t'}:=by
 have Fh:∀b u,H b=some u->b∉ch:=λb u e z=>by rw[(f b z).1] at e;cases e
 refine I.step (g':=s.gens) (d':=s.drawn) (ch:=ch) (λb hb=>⟨(f b hb).2.2.2.1,(f b hb).2.1,(f b hb).2.2.2.2.1,(f b hb).2.2.2.2.2⟩) (λb o _ _ hc e _=>k b o hc e) (λb o _ _ hc e _=>⟨o.slots,k b o hc e⟩) (λ_ _ _ _ n=>n)
  (λb o hc e=>⟨o,k b o hc e⟩) (λ_ _ e=>e) (λ_ _ _ e=>e) (λb ps e=>⟨#[],by rw[e];simp⟩) (λm hm=>?_) (λb u e=>?_) I.bare
 ·obtain⟨o,es,ep,ho,r⟩:=hm
  exact⟨o,es,ep,k _ o (λz=>(f _ z).2.1 rfl) ho,r⟩
 ·refine(I.bP b u e).qZ (λc v hc q=>k c v ?_ q) (λ_ q=>q) λ_ _ q=>q
  rcases hc with z | z
  ·rw[z];exact Fh b u e
  ·exact Fh c _ z
theorem Inv.take {ad:Addr} {o:HO} (I:Inv X pins σ H s) (f:jt X pins H ad) (new:X.s₀.heap.objs.size<=ad) (ok:cm X.prog X.w (upd H ad o) s.heap ad o):Inv X pins σ (upd H ad o) s:=by
 obtain⟨hn,nL,nf,_,nc,np⟩:=f
 have tk:∀b u,H b=some u->b≠ad:=λb u e z=>by rw[z,hn] at e;cases e
 refine⟨I.ok,I.os,I.bare,⟨I.base.keep,I.base.slot,λb ob e m hx=>?_,I.base.there,λb xs e=>?_,λb ob u e=>?_,λb ps e=>?_⟩,I.loc,I.cell,?_,λx c e=>?_,λp hp=>?_,λb u e=>?_,I.len⟩
 ·rw[aF (aaj (aat (Heap.lt_size e) new))]
  exact I.base.free b ob e m hx
 ·have q:=I.base.gO b xs e
  rw[aF (tk b _ q)];exact q
 ·have q:=I.base.gw b ob u e
  rw[aF (tk b _ q)];exact q
 ·obtain⟨mo,q⟩:=I.base.iu b ps e
  exact⟨mo,by rw[aF (tk b _ q)];exact q⟩
 ·rw[aF (Ne.symm nL)];exact I.free
 ·rw[aF (nc x c e)];exact I.fW x c e
 ·obtain⟨a,b,c⟩:=I.pin p hp
  exact⟨a,by rw[aF (np p hp)];exact b,c⟩
 ·by_cases hb:b=ad
  ·subst hb
   rw[ar] at e
   cases e
   exact ok
  ·rw[aF hb] at e
   exact(I.bP b u e).qZ (λ_ _ _ q=>q) (λc r=>by rw[aF (tk _ _ r)];exact r) λc xs r=>by rw[aF (tk _ _ r)];exact r
end
noncomputable def Xx (K:PySem.W.Frag) (a b:Addr):It:=
 ⟨λi H=>∃xs ys x y,bN K H a xs/\bN K H b ys/\xs[i]?=some x/\ys[i]?=some y,
  λi H v H'=>∃p,H p=none/\v=.ref p/\∃x y,(∀xs,bN K H a xs->xs[i]?=some x)/\(∀ys,bN K H b ys->ys[i]?=some y)/\H'=upd H p (.tup [x,y]),
  λi H=>∃xs ys,bN K H a xs/\bN K H b ys/\(i=min xs.length ys.length)⟩
noncomputable def Og (K:PySem.W.Frag) (a:Addr):It:=
 ⟨λi H=>∃xs x,bN K H a xs/\xs[i]?=some x,
  λi H v H'=>∃p,H p=none/\v=.ref p/\∃x,(∀xs,bN K H a xs->xs[i]?=some x)/\H'=upd H p (.tup [.int i,x]),
  λi H=>∃xs,bN K H a xs/\xs.length=i⟩
theorem As {P:Program} {w:World} {K:PySem.W.Frag} {elts:List Expr} {k:Nat} {pos:Pos} (e it a:Addr) (Vg:e≠it) (hle:a≠e) (Vh:a≠it):
  Turn P w K (.Tuple elts k pos) (Og K a) [e,it] e (λi h=>(∃old,IsEnum h e it i old)/\h.IsListIter it a i) where
 mem:=by simp
 obj:=λi h st c hc=>by
  obtain⟨⟨old,he⟩,⟨o1,e1,_,d1⟩⟩:=st
  simp only[aaq,aaw,or_false] at hc
  rcases hc with rfl | rfl
  ·exact⟨_,he,λv q=>by cases q⟩
  ·exact⟨_,e1,λv q=>by rw[d1] at q;cases q⟩
 keep:=λi h h' st kp=>by
  obtain⟨⟨old,he⟩,h1⟩:=st
  exact⟨⟨old,kp e (by simp) _ he⟩,h1.at λo q=>kp it (by simp) o q⟩
 item:=by
  intro X hP hw hK hc i pins s σ H E I hf st hg
  subst hP hw hK
  obtain⟨xs,x,IY,hx⟩:=hg
  obtain⟨xP,r1,p1,z1⟩:=I.list IY
  obtain⟨u,eu,ru⟩:=r1.get hx
  obtain⟨he,h1⟩:=st
  have W:=WalksT.enumerate (prog:=X.prog) (w:=X.w) (I.ok.hd hc) e it a Vg hle Vh xP.toArray
  have li:i<xP.toArray.size:=by
   have a1:=(List.getElem?_eq_some_iff.mp eu).1
   simp only[aam]
   omega
  refine W.item i s _ _ li ⟨he,h1,p1.isList⟩ λT vals h' tk Xy hT hI hm kk=>?_
  have I1:Inv X pins σ H {s with heap:=h',toks:=tk}:=I.moved (ch:=[e,it]) hf kk
  have fT:jt X pins H T:=I.DJ hT (I.bP.fresh hT)
  refine⟨_,rfl,W.go elts k pos i T _ _ _ hm λOh xh Vi=>?_⟩
  have I2:Inv X pins σ H {s with heap:=Oh,toks:=tk}:=I1.moved (s:={s with heap:=h',toks:=tk}) (t':=tk) (ch:=[e,it]) hf Vi
  obtain⟨t,x',ex,rfl⟩:=Xy
  have NF:xP[i]?=some x':=by simpa using ex
  rw[eu] at NF;cases NF
  have Xz:=W.apart _ _ _ hm
  obtain⟨oT,eT,cT,nT,dT⟩:=hI
  have XA:IsTup Oh T #[.int i t,u]:=⟨oT,Vi _ _ Xz eT,cT,nT,dT⟩
  have I3:Inv X pins σ (upd H T (.tup [.int i,x])) {s with heap:=Oh,toks:=tk}:=
   I2.take fT (aax I.sz hT) ⟨by show 2<=sizeLine;decide,[.int i t,u],.cons ⟨t,rfl⟩ (.cons ru .nil),XA⟩
  obtain⟨b1,b2,_⟩:=xh
  refine⟨.ref T,_,I3,rfl,⟨T,fT.1,rfl,x,λOi q=>?_,rfl⟩,⟨b1,b2⟩,λc hc=>?_⟩
  ·rw[I.vb q IY];exact hx
  ·rw[aF (λq=>?_)]
   ·exact(hf c hc).1
   ·subst q
    obtain⟨o,e,_⟩:∃o,s.heap.get? c=some o/\True:=by
     simp only[aaq,aaw,or_false] at hc
     obtain⟨old,he⟩:=he
     obtain⟨o1,e1,_⟩:=h1
     rcases hc with rfl | rfl
     ·exact⟨_,he,trivial⟩
     ·exact⟨_,e1,trivial⟩
    exact absurd (Heap.lt_size e) (Nat.not_lt.mpr hT)
 done:=by
  intro X hP hw hK hc i pins s σ H E I hf st hg
  subst hP hw hK
  obtain⟨xs,IY,hi⟩:=hg
  obtain⟨xP,r1,p1,z1⟩:=I.list IY
  obtain⟨he,h1⟩:=st
  have W:=WalksT.enumerate (prog:=X.prog) (w:=X.w) (I.ok.hd hc) e it a Vg hle Vh xP.toArray
  have l1:=r1.length
  have e:i=xP.toArray.size:=by simp only[aam];omega
  subst e
  exact W.done s _ _ ⟨he,h1,p1.isList⟩ λh' tk kk=>⟨rfl,I.moved (ch:=[_,it]) hf kk⟩
 self:=λ_ _ _ _ _ st h=>by
  obtain⟨⟨old,he⟩,_⟩:=st
  exact wpAny_pyIter_enum he h
section
variable {X : Cx} {elts : List Expr} {kk : Nat} {tQ : Pos}
noncomputable def iZip (K:PySem.W.Frag) (ta:TA):TI:=λσ H R=>ta σ H λvs H1=>∃a b,vs=[.ref a,.ref b]/\(∃xs,bN K H1 a xs)/\(∃ys,bN K H1 b ys)/\R (Xx K a b) H1
noncomputable def iEnum (K:PySem.W.Frag) (ta:TA):TI:=λσ H R=>ta σ H λvs H1=>∃a,vs=[.ref a]/\(∃xs,bN K H1 a xs)/\R (Og K a) H1
theorem t8 {a:Expr} {ta:TA} {p pos:Pos} (hg:Gl X "enumerate") (hm:X.mg "enumerate"=none) (ha:PA X [a] ta) (hs:starEach [a] X.env=[(false,eval a X.env)]:=by rfl):
  PI X (.Tuple elts kk tQ) (.Call (.Name "enumerate" p) [a] [] pos) (iEnum X.K ta):=by
 intro pins s σ H R I h
 refine Call_ (iz I hg hm rfl (PyProof.Rows.callWith_type1 (cw (ha pos pins s σ H _ I h) λus s1 ⟨vs,H1,I1,r1,q1⟩=>?_) hs rfl))
 obtain⟨a,e,⟨xs,q1⟩,q⟩:=q1
 subst e
 obtain⟨u,rfl,ra⟩:=vals1 r1
 cases ra
 obtain⟨xP,v1,p1,z1⟩:=I1.list q1
 refine call_enumerate_list p1.isList λh' b1 b2 b3 kp=>?_
 refine wpAny_pyIter_enum b1 ?_
 have I2:Inv X pins σ H1 {s1 with heap:=h'}:=I1.kept (t':=s1.toks) kp
 have la:a<s1.heap.objs.size:=by obtain⟨o,e,_⟩:=p1.isList;exact Heap.lt_size e
 refine⟨s1.heap.objs.size+1,[s1.heap.objs.size+1,s1.heap.objs.size],_,_,H1,rfl,I2,
  As (s1.heap.objs.size+1) s1.heap.objs.size a (Nat.ne_of_gt (aaS _)) (aaj (Nat.lt_succ_of_lt la)) (aaj la),⟨⟨_,b1⟩,b2⟩,λc hc=>?_,q⟩
 have Vj:s1.heap.objs.size<=c:=by
  simp only[aaq,aaw,or_false] at hc
  rcases hc with rfl | rfl <;>omega
 exact I1.DJ Vj (I1.bP.fresh Vj)
end
theorem BR {K:PySem.W.Frag} {a:Addr} {xs:List V} {Ok:Hp->Prop} (h1:∀H,Ok H->bN K H a xs):
  Src (Og K a) Ok xs.length (λi v H H3=>∃p x,H p=none/\v=.ref p/\xs[i]?=some x/\H3=upd H p (.tup [.int i,x])) where
 go:=λi H hi ok=>⟨xs,xs[i],h1 H ok,by simp [hi]⟩
 xf:=λi H x H3 hi ok ⟨p,n,e,u,e1,e3⟩=>⟨p,u,n,e,e1 xs (h1 H ok),e3⟩
 stop:=λH ok=>⟨xs,h1 H ok,rfl⟩
end L2
namespace L2
open PySem PySem.Spec PyProof.Rows
inductive Dat where
 | de | bl (b:Bool) | int (i:Int) | str (x:Str) | tup (l:List Dat) | lst (l:List Dat)
mutual
noncomputable def Rep (H:Hp):Dat->V->Prop
 | .de,v=>v=.de
 | .bl b,v=>v=.bl b
 | .int i,v=>v=.int i
 | .str x,v=>v=.str x
 | .tup ds,v=>∃p vs,v=.ref p/\H p=some (.tup vs)/\bq H ds vs
 | .lst ds,v=>∃p vs,v=.ref p/\H p=some (.lst vs)/\bq H ds vs
noncomputable def bq (H:Hp):List Dat->List V->Prop
 | [],vs=>vs=[]
 | d::ds,vs=>∃v r,vs=v::r/\Rep H d v/\bq H ds r
end
mutual
theorem Rep.mono {H H':Hp} (s:aE H H'):∀{d:Dat} {v:V},Rep H d v->Rep H' d v
 | .de,_,h=>by rw[Rep] at *;exact h
 | .bl _,_,h=>by rw[Rep] at *;exact h
 | .int _,_,h=>by rw[Rep] at *;exact h
 | .str _,_,h=>by rw[Rep] at *;exact h
 | .tup _,_,h=>by
  rw[Rep] at *
  obtain⟨p,vs,e,hp,r⟩:=h
  exact⟨p,vs,e,s _ _ hp,bq.mono s r⟩
 | .lst _,_,h=>by
  rw[Rep] at *
  obtain⟨p,vs,e,hp,r⟩:=h
  exact⟨p,vs,e,s _ _ hp,bq.mono s r⟩
theorem bq.mono {H H':Hp} (s:aE H H'):∀{ds:List Dat} {vs:List V},bq H ds vs->bq H' ds vs
 | [],_,h=>by rw[bq] at *;exact h
 | _::_,_,h=>by
  rw[bq] at *
  obtain⟨v,r,e,h1,h2⟩:=h
  exact⟨v,r,e,Rep.mono s h1,bq.mono s h2⟩
end
theorem bq.length {H:Hp}:∀{ds:List Dat} {vs:List V},bq H ds vs->ds.length=vs.length
 | [],_,h=>by rw[bq] at h;subst h;rfl
 | _::_,_,h=>by
  rw[bq] at h
  obtain⟨v,r,rfl,_,h2⟩:=h
  simp [h2.length]
theorem bq.get {H:Hp}:∀{ds:List Dat} {vs:List V} {i:Nat} {v:V},bq H ds vs->vs[i]?=some v->∃d,ds[i]?=some d/\Rep H d v
 | [],_,i,v,h,e=>by rw[bq] at h;subst h;simp at e
 | d::ds,_,i,v,h,e=>by
  rw[bq] at h
  obtain⟨v',r,rfl,h1,h2⟩:=h
  cases i with
  | zero=>simp at e;subst e;exact⟨d,rfl,h1⟩
  | succ i=>simp at e;obtain⟨d',e',r'⟩:=h2.get e;exact⟨d',by simpa using e',r'⟩
theorem bq.at {H:Hp}:∀{ds:List Dat} {vs:List V} {i:Nat} {d:Dat},bq H ds vs->ds[i]?=some d->∃v,vs[i]?=some v/\Rep H d v
 | [],_,i,v,h,e=>by simp at e
 | d::ds,_,i,d',h,e=>by
  rw[bq] at h
  obtain⟨v',r,rfl,h1,h2⟩:=h
  cases i with
  | zero=>simp at e;subst e;exact⟨v',rfl,h1⟩
  | succ i=>simp at e;obtain⟨v,e',r'⟩:=h2.at e;exact⟨v,by simpa using e',r'⟩
theorem bq.of {H:Hp}:∀{ds:List Dat} {vs:List V},ds.length=vs.length->(∀(i:Nat) d v,ds[i]?=some d->vs[i]?=some v->Rep H d v)->bq H ds vs
 | [],[],_,_=>by rw[bq]
 | [],_::_,h,_=>by simp at h
 | _::_,[],h,_=>by simp at h
 | d::ds,v::vs,h,k=>by
  rw[bq]
  exact⟨v,vs,rfl,k 0 d v rfl rfl,bq.of (by simpa using h) λi d' v' e1 e2=>k (i+1) d' v' (by simpa using e1) (by simpa using e2)⟩
theorem bq.append {H:Hp}:∀{as bs:List Dat} {us vs:List V},bq H as us->bq H bs vs->bq H (as++bs) (us++vs)
 | [],_,_,_,h,k=>by rw[bq] at h;subst h;exact k
 | _::_,_,_,_,h,k=>by
  rw[bq] at h
  obtain⟨v,r,rfl,h1,h2⟩:=h
  show bq H (_::(_++_)) (_::(_++_))
  rw[bq]
  exact⟨_,_,rfl,h1,h2.append k⟩
theorem bq.ints {H:Hp}:∀(ns:List Int),bq H (ns.map Dat.int) (ns.map V.int)
 | []=>by simp only[List.map_nil];rw[bq]
 | n::ns=>by
  simp only[aae]
  rw[bq]
  exact⟨_,_,rfl,by rw[Rep],bq.ints ns⟩
noncomputable def depth:Dat->Nat
 | .tup l=>1+dL l
 | .lst l=>1+dL l
 | _=>0
where dL:List Dat->Nat
 | []=>0
 | d::ds=>max (depth d) (dL ds)
section
variable {X : Cx} {pins : List (Addr × Obj)} {σ : St} {H : Hp} {s : Shared}
end
section
variable {X : Cx}
noncomputable def rNeT:R2:=λx y H Q=>∃p q xs ys,x=.ref p/\y=.ref q/\H p=some (.tup xs)/\H q=some (.tup ys)/\xs.all sA=true/\ys.all sA=true/\Q (.bl (!U1 xs ys)) H
end
end L2
namespace Nm
noncomputable def ins (x:Int):List Int->List Int
 | []=>[x]
 | y::r=>if x<=y then x::y::r else y::ins x r
noncomputable def t9:List Int->List Int
 | []=>[]
 | x::r=>ins x (t9 r)
theorem pQ (x:Int):∀l,(ins x l).Perm (x::l)
 | []=>.refl _
 | y::r=>by
  unfold ins
  split
  ·exact .refl _
  ·exact((pQ x r).cons y).trans (.swap ..)
theorem lU:∀l,(t9 l).Perm l
 | []=>.refl _
 | x::r=>(pQ x _).trans ((lU r).cons x)
theorem zh (x:Int):∀l:List Int,l.Pairwise (·<=·)->(ins x l).Pairwise (·<=·)
 | [],_=>by unfold ins;simp
 | y::r,h=>by
  unfold ins
  rw[List.pairwise_cons] at h
  split
  ·rename_i c
   rw[List.pairwise_cons,List.pairwise_cons]
   refine⟨λz hz=>?_,h.1,h.2⟩
   rcases List.mem_cons.mp hz with rfl | hz
   ·exact c
   ·have:=h.1 z hz;omega
  ·rename_i c
   rw[List.pairwise_cons]
   refine⟨λz hz=>?_,zh x r h.2⟩
   rcases List.mem_cons.mp ((pQ x r).mem_iff.mp hz) with rfl | hz
   ·omega
   ·exact h.1 z hz
theorem zi:∀l:List Int,(t9 l).Pairwise (·<=·)
 | []=>by unfold t9;simp
 | x::r=>zh x _ (zi r)
theorem gT (l:List Int):(t9 l).length=l.length:=(lU l).length_eq
theorem zj:∀{a b:List Int},a.Perm b->a.Pairwise (·<=·)->b.Pairwise (·<=·)->a=b
 | [],b,p,_,_=>by simpa using p.symm.eq_nil
 | x::a,[],p,_,_=>by simpa using p.eq_nil
 | x::a,y::b,p,ha,hb=>by
  rw[List.pairwise_cons] at ha hb
  have e:x=y:=by
   have h1:y∈x::a:=p.mem_iff.mpr aai
   have h2:x∈y::b:=p.mem_iff.mp aai
   rcases List.mem_cons.mp h1 with h1 | h1
   ·exact h1.symm
   ·rcases List.mem_cons.mp h2 with h2 | h2
    ·exact h2
    ·have:=ha.1 y h1
     have:=hb.1 x h2
     omega
  subst e
  rw[zj ((List.perm_cons x).mp p) ha.2 hb.2]
theorem ua {a b:List Int} (p:a.Perm b) (o:a.Pairwise (·<=·)):a=t9 b:=zj (p.trans (lU b).symm) o (zi b)
theorem Ed {a:Int} {l:List Int}:a∈t9 l↔a∈l:=(lU l).mem_iff
end Nm
namespace L2
open PySem PySem.Spec PyProof.Rows PySem.W
section
variable {X : Cx}
theorem xQ {us:List Value} {ns:List Int} (h:IntsAre us ns):∃xs,us.toArray=intItems xs/\preSum (numAt xs) xs.size=ns.sum:=by
 obtain⟨xs,hx⟩:=h.allInts.items
 refine⟨xs,hx,?_⟩
 have e1:ns=xs.toList.map (·.1):=by
  rw[<-nums_intItems,<-hx]
  exact h.numsOf.symm
 rw[preSum_eq,aaE (by simp),e1]
theorem xR (hc:X.calm=true):cR X (.builtin "sum") (λxs H Q=>∃p ns,xs=[.ref p]/\bN X.K H p (List.map V.int ns)/\Q (.int ns.sum) H):=by
 intro pins s σ H xs us Q I r h
 obtain⟨p,ns,rfl,hq,q⟩:=h
 obtain⟨u,rfl,rx⟩:=vals1 r
 cases rx
 obtain⟨bz,rv,pl,hz⟩:=I.list hq
 obtain⟨ys,e1,e2⟩:=xQ (intsAre_of rv)
 have hl:=pl.isList
 rw[e1] at hl
 refine sum_intListG (I.ok.hd hc) hl λh' tk t' hk=>⟨.int ns.sum,H,I.kept (t':=tk) hk,⟨t',?_⟩,q⟩
 rw[e2]
theorem gU {us:List Value} {ns:List Int} (h:IntsAre us ns):bH (ns.map V.int) us:=by
 induction h with
 | nil=>exact .nil
 | cons n t _ ih=>exact .cons ⟨t,rfl⟩ ih
theorem rA:cR X (.builtin "sorted") (λxs H Q=>∃p ns,xs=[.ref p]/\bN X.K H p (List.map V.int ns)/\ns.length<64/\∀l,H l=none->Q (.ref l) (upd H l (.lst (List.map V.int (Nm.t9 ns))))):=by
 intro pins s σ H xs us Q I r h
 obtain⟨p,ns,rfl,hq,hn,q⟩:=h
 obtain⟨u,rfl,rx⟩:=vals1 r
 cases rx
 obtain⟨bz,rv,pl,hz⟩:=I.list hq
 have hl:=rv.length
 rw[aac] at hl
 refine sorted_ints pl.isList (intsAre_of rv) (by omega) λout J3 a1 a2 a3=>?_
 obtain rfl:=Nm.ua a2 a3
 obtain⟨e,he⟩:=sortedAll_at s.heap bz out
 have fr:=I.bP.fresh (a:=s.heap.objs.size+1) (Nat.le_succ _)
 refine⟨.ref (s.heap.objs.size+1),_,I.laid (t':=s.toks) (λ_ _=>sortedAll_old) (Nat.le_succ _) (o:=.lst (List.map V.int (Nm.t9 ns))) ⟨?_,out.toList,e,gU a1,?_⟩,rfl,q _ fr⟩
 ·rw[aac,Nm.gT,sizeLine_eq];omega
 ·exact he
noncomputable def j2 (kvs:List (Key×V)):List Int:=kvs.map λp=>match p.1 with | .inl i=>i | .inr _=>0
noncomputable def allI (kvs:List (Key×V)):Prop:=∀p∈kvs,∃i,p.1=Sum.inl i
theorem rB (hc:X.calm=true):cR X (.builtin "sorted") (λxs H Q=>∃d kvs,xs=[.ref d]/\Rd H d (.dK kvs)/\allI kvs/\kvs.length<64/\∀l,H l=none->Q (.ref l) (upd H l (.lst (List.map V.int (Nm.t9 (j2 kvs)))))):=by
 intro pins s σ H xs us Q I r h
 obtain⟨d,kvs,rfl,hd,vv,hn,q⟩:=h
 obtain⟨u,rfl,rx⟩:=vals1 r
 cases rx
 obtain⟨hz,lo,vs,kv,dd⟩:=oA I.bP hd
 have hlen:kvs.length=vs.length:=Paired.length kv
 obtain⟨ep,uQ⟩:=dd.dictAt
 refine Calls.call_function_entry kind_sorted plain_sorted entry_sorted (args_sorted1 _) ?_
 unfold Builtin.«sorted»
 refine wpAny_bind (m:=checkCount "sorted" 1 1 _) (wpAny_pure ?_)
 refine wpAny_bind (kdu_collect (A:=X.A.in1) (kdl_dict (kvs:=vs) (ep:=ep) lo) (I.ok.hd hc) uQ (by rw[<-hlen,sizeLine_eq];omega) λh' tk acc hk Eb=>?_)
 have hl:acc.toList.length=vs.length:=by rw[Array.length_toList];exact Eb.1
 have hI:IntsAre acc.toList (j2 kvs):=by
  have all:∀(j:Nat) v,acc.toList[j]?=some v->∃i t,v=Value.int i t/\(j2 kvs)[j]?=some i:=λj v e=>by
   obtain⟨k,x,hx,hk⟩:=Eb.2 j v (by rw[<-Array.getElem?_toList];exact e)
   obtain⟨p,e1,e2⟩:∃p,kvs[j]?=some p/\p.1=k:=by
    have:∀{as:List (Key×V)} {bs:List (Key×Value)} (j:Nat) {b},KV as bs->bs[j]?=some b->∃a,as[j]?=some a/\a.1=b.1:=by
     intro as bs j b r
     induction r generalizing j with
     | nil=>intro e;simp at e
     | cons r1 r2 ih=>
      intro e
      cases j with
      | zero=>simp at e;subst e;exact⟨_,rfl,r1.1⟩
      | succ j=>simp at e;obtain⟨a,e1,e2⟩:=ih j e;exact⟨a,by simpa using e1,e2⟩
    obtain⟨a,e1,e2⟩:=this j kv hx
    exact⟨a,e1,e2⟩
   obtain⟨i,hi⟩:=vv p (aal e1)
   rw[<-e2,hi] at hk
   have hk:pz (.inl i) v=true:=hk
   rcases cz hk with ⟨i',t,e3,e4⟩ | ⟨x',t,e3,_⟩
   ·cases e3
    refine⟨i,t,e4,?_⟩
    unfold j2
    rw[aad,e1]
    simp [hi]
   ·cases e3
  have go:∀(us:List Value) (ns:List Int),us.length=ns.length->(∀(j:Nat) v,us[j]?=some v->∃i t,v=Value.int i t/\ns[j]?=some i)->IntsAre us ns:=by
   intro us
   induction us with
   | nil=>intro ns hl _;cases ns with | nil=>exact .nil | cons _ _=>simp at hl
   | cons u us ih=>
    intro ns hl k
    cases ns with
    | nil=>simp at hl
    | cons n ns=>
     obtain⟨i,t,rfl,e⟩:=k 0 u rfl
     simp at e
     subst e
     exact .cons n t (ih ns (by simpa using hl) λj v e=>by
      obtain⟨i,t,e1,e2⟩:=k (j+1) v (by simpa using e)
      exact⟨i,t,e1,by simpa using e2⟩)
  refine go _ _ ?_ all
  unfold j2
  rw[aac,hl,hlen]
 refine wpAny_bind (wpAny_newList ?_ (by rw[hl,<-hlen,sizeLine_eq];omega))
 have Jx:(h'.push (seqObj "list" acc.toList.toArray 0)).get? h'.objs.size=some (seqObj "list" acc.toList.toArray 0):=Heap.get?_push_size _ rfl
 have I1:Inv X pins σ H {s with heap:=h',toks:=tk}:=I.kept (t':=tk) hk
 refine wpAny_bind (wpAny_holding (wpAny_call_entry slot_list_sort ⟨_,Jx,rfl⟩ entry_list_sort (list_sort_tree Jx hI (by omega) λout J3 a1 a2 a3=>⟨_,rfl,?_⟩) (args_list_sort _)))
 obtain rfl:=Nm.ua a2 a3
 obtain⟨e,he⟩:=sortedHeap_at (out:=out) Jx
 have fr:=I1.bP.fresh (a:=h'.objs.size) (aaf _)
 refine wpAny_pure ⟨_,rfl,.ref h'.objs.size,_,I1.laid (t':=tk) (λb o eb=>?_) (aaf _) (o:=.lst (List.map V.int (Nm.t9 (j2 kvs)))) ⟨?_,out.toList,e,gU a1,?_⟩,rfl,q _ fr⟩
 ·rw[sortedHeap_old (aaj (Heap.lt_size eb)) (by rw[Heap.size_push];exact Nat.lt_succ_of_lt (Heap.lt_size eb))]
  exact Heap.get?_push_of_some _ eb
 ·rw[aac,Nm.gT,sizeLine_eq]
  unfold j2
  rw[aac]
  omega
 ·exact he
end
section
variable {X : Cx} {pins : List (Addr × Obj)} {σ : St} {H : Hp} {s : Shared}
end
noncomputable def XB (d:Addr) (o:Obj) (kvs:List (Key×V)):It:=
 ⟨λi H=>H d=some (.uP o (.dK kvs))/\i<kvs.length,λi H x H'=>H'=H/\∃p,kvs[i]?=some p/\x=kV p.1,λi H=>H d=some (.uP o (.dK kvs))/\i=kvs.length⟩
section
variable {X : Cx} {x : Str} {XC : Pos}
noncomputable def iDict (tl:TE):TI:=λσ H R=>tl σ H λv H1=>∃d kvs,v=.ref d/\H1 d=some (.dK kvs)/\∀o,R (XB d o kvs) (upd H1 d (.uP o (.dK kvs)))
end
end L2
namespace L2
open PySem PySem.Spec PyProof.Rows PySem.W
section
variable {X : Cx} {K : PySem.W.Frag}
theorem bx {tg l:Expr} {tl:TE} (hl:PE X l tl) (hK:X.K=K:=by rfl):PI X tg l (iList K tl):=by subst hK;exact DL hl
theorem rD {elts:List Expr} {kk:Nat} {tQ:Pos} {a:Expr} {ta:TA} {p pos:Pos} (hg:Gl X "enumerate") (hm:X.mg "enumerate"=none) (ha:PA X [a] ta) (n1:noStar a=true:=by rfl) (hK:X.K=K:=by rfl):
  PI X (.Tuple elts kk tQ) (.Call (.Name "enumerate" p) [a] [] pos) (iEnum K ta):=by subst hK;exact t8 hg hm ha (by rw[se n1];rfl)
theorem c6 {es:List Expr} {k:Nat} {t:Br} {n:Nat} {pos:Pos} (hc:X.calm=true) (h:Fm X es t) (hn:(assignEach es X.env).length=n:=by rfl) (hst:(assignEach es X.env).findIdx? (·.1)=none:=by rfl) (hK:X.K=K:=by rfl):PG X (.Tuple es k pos) (Bs K n t):=by
 subst hK;exact Gw hc h hn hst
theorem sO (hK:X.K=K:=by rfl):Fq X (GW K):=by subst hK;exact BK
theorem gW (hK:X.K=K:=by rfl):cR X (.builtin "len") (λxs H Q=>∃p ns,xs=[.ref p]/\bN K H p (List.map V.int ns)/\Q (.int (List.length ns:Nat)) H):=by subst hK;exact Ar
theorem eA (hK:X.K=K:=by rfl):cR X (.type "list") (λxs H Q=>∃p ys,xs=[.ref p]/\(bN K H p ys\/hX K H p ys)/\∀l,H l=none->Q (.ref l) (upd H l (.lst ys))):=by subst hK;exact tU
theorem pR (hK:X.K=K:=by rfl):cR X (.type "tuple") (λxs H Q=>∃p ys,xs=[.ref p]/\((bN K H p ys/\∀l,H l=none->Q (.ref l) (upd H l (.tup ys)))\/(hX K H p ys/\Q (.ref p) H))):=by subst hK;exact rh
theorem sP (hK:X.K=K:=by rfl):cR X (.builtin "isinstance") (λxs H Q=>∃x c t b,xs=[x,.ty c]/\ju K H x t/\PySem.W.kitOne K t (.type c)=some b/\Q (.bl b) H):=by subst hK;exact BL
theorem iD (hc:X.calm=true:=by rfl) (hK:X.K=K:=by rfl):cR X (.builtin "sum") (λxs H Q=>∃p ns,xs=[.ref p]/\bN K H p (List.map V.int ns)/\Q (.int ns.sum) H):=by subst hK;exact xR hc
theorem pS (hK:X.K=K:=by rfl):cR X (.builtin "sorted") (λxs H Q=>∃p ns,xs=[.ref p]/\bN K H p (List.map V.int ns)/\ns.length<64/\∀l,H l=none->Q (.ref l) (upd H l (.lst (List.map V.int (Nm.t9 ns))))):=by subst hK;exact rA
theorem pT (hc:X.calm=true:=by rfl):cR X (.builtin "sorted") (λxs H Q=>∃d kvs,xs=[.ref d]/\Rd H d (.dK kvs)/\allI kvs/\kvs.length<64/\∀l,H l=none->Q (.ref l) (upd H l (.lst (List.map V.int (Nm.t9 (j2 kvs)))))):=rB hc
theorem vB (hK:X.K=K:=by rfl):JH X (rSlL K):=by subst hK;exact DV
theorem GK.r {id:String} {r:V->List V->Hp->VK->Prop} (h:GK X id r):GF X id r:=h
end
end L2
namespace Nm
abbrev Ws:=List (Int×Int)
noncomputable def keys (ws:Ws):List Int:=ws.map (·.1)
noncomputable def look:Ws->Int->Int
 | [],_=>0
 | p::r,k=>if p.1=k then p.2 else look r k
noncomputable def put:Ws->Int->Int->Ws
 | [],k,v=>[(k,v)]
 | p::r,k,v=>if p.1=k then (k,v)::r else p::put r k v
noncomputable def pU (ws:Ws):Int:=(ws.map (·.2)).sum
noncomputable def jv (ws:Ws) (k x:Int):Ws:=put ws k (look ws k+x)
noncomputable def aZ (ws ps:Ws):Ws:=ps.foldl (λacc p=>jv acc p.1 p.2) ws
noncomputable def cnt (ps:Ws) (s:Int):Int:=(ps.map λp=>if p.1=s then p.2 else 0).sum
theorem vC:∀(ws:Ws) (k v j:Int),look (put ws k v) j=if k=j then v else look ws j
 | [],k,v,j=>by simp [put,look]
 | p::r,k,v,j=>by
  unfold put
  split
  ·rename_i c
   simp only[look]
   by_cases e:k=j
   ·simp [e]
   ·rw[if_neg e,if_neg e,if_neg (by omega)]
  ·rename_i c
   simp only[look]
   by_cases e:p.1=j
   ·rw[if_pos e,if_neg (by omega),if_pos e]
   ·rw[if_neg e,if_neg e]
    exact vC r k v j
theorem zk {ws:Ws} {k v j:Int}:j∈keys (put ws k v)↔j=k\/j∈keys ws:=by
 induction ws with
 | nil=>simp [put,keys]
 | cons p r ih=>
  unfold put
  split
  ·rename_i c
   simp only[keys,aae,aaq]
   rw[c]
   constructor
   ·intro h;exact .inr h
   ·rintro(h | h)
    ·exact .inl h
    ·exact h
  ·simp only[keys,aae,aaq] at ih ⊢
   rw[ih]
   constructor
   ·rintro(h | h | h)
    ·exact .inr (.inl h)
    ·exact .inl h
    ·exact .inr (.inr h)
   ·rintro(h | h | h)
    ·exact .inr (.inl h)
    ·exact .inl h
    ·exact .inr (.inr h)
theorem Au {ws:Ws} (k v:Int) (h:(keys ws).Nodup):(keys (put ws k v)).Nodup:=by
 induction ws with
 | nil=>simp [put,keys]
 | cons p r ih=>
  have h':p.1∉keys r/\(keys r).Nodup:=by simpa [keys] using h
  unfold put
  split
  ·rename_i c
   have:k∉keys r/\(keys r).Nodup:=by rw[<-c];exact h'
   simpa [keys] using this
  ·rename_i c
   have i:=ih h'.2
   have n:p.1∉keys (put r k v):=λz=>by
    rcases zk.mp z with z | z
    ·exact c z
    ·exact h'.1 z
   have:p.1∉keys (put r k v)/\(keys (put r k v)).Nodup:=⟨n,i⟩
   simpa [keys] using this
theorem vD:∀(ws:Ws) (k x:Int),pU (jv ws k x)=pU ws+x
 | [],k,x=>by simp [jv,put,look,pU]
 | p::r,k,x=>by
  have ih:=vD r k x
  unfold jv pU at *
  unfold put look
  by_cases c:p.1=k
  ·rw[if_pos c,if_pos c]
   simp only[aae,List.sum_cons]
   omega
  ·rw[if_neg c,if_neg c]
   simp only[aae,List.sum_cons]
   omega
theorem Ee (ws:Ws) (k v:Int):(put ws k v).length<=ws.length+1:=by
 induction ws with
 | nil=>simp [put]
 | cons p r ih=>
  unfold put
  split
  ·simp
  ·simp only[aar];omega
theorem oB:∀(ps ws:Ws) (s:Int),look (aZ ws ps) s=look ws s+cnt ps s
 | [],ws,s=>by simp [aZ,cnt]
 | p::r,ws,s=>by
  have ih:=oB r (jv ws p.1 p.2) s
  show look (aZ (jv ws p.1 p.2) r) s=_
  rw[ih]
  unfold jv cnt
  rw[vC]
  simp only[aae,List.sum_cons]
  by_cases c:p.1=s
  ·rw[if_pos c,if_pos c,c];omega
  ·rw[if_neg c,if_neg c];omega
theorem kB {s:Int}:∀{ps ws:Ws},s∈keys (aZ ws ps)↔s∈keys ws\/s∈keys ps
 | [],ws=>by simp [aZ,keys]
 | p::r,ws=>by
  show s∈keys (aZ (jv ws p.1 p.2) r)↔_
  rw[kB]
  unfold jv
  rw[zk]
  simp only[keys,aae,aaq]
  constructor
  ·rintro((h | h) | h)
   ·exact .inr (.inl h)
   ·exact .inl h
   ·exact .inr (.inr h)
  ·rintro(h | h | h)
   ·exact .inl (.inr h)
   ·exact .inl (.inl h)
   ·exact .inr h
theorem lV:∀{ps ws:Ws},(keys ws).Nodup->(keys (aZ ws ps)).Nodup
 | [],_,h=>h
 | p::r,ws,h=>by
  show(keys (aZ (jv ws p.1 p.2) r)).Nodup
  exact lV (Au _ _ h)
theorem pV:∀(ps ws:Ws),pU (aZ ws ps)=pU ws+pU ps
 | [],ws=>by simp [aZ,pU]
 | p::r,ws=>by
  show pU (aZ (jv ws p.1 p.2) r)=_
  rw[pV,vD]
  unfold pU
  simp only[aae,List.sum_cons]
  omega
theorem pW:∀(ps ws:Ws),(aZ ws ps).length<=ws.length+ps.length
 | [],ws=>by simp [aZ]
 | p::r,ws=>by
  have h:=pW r (jv ws p.1 p.2)
  have h2:=Ee ws p.1 (look ws p.1+p.2)
  show(aZ (jv ws p.1 p.2) r).length<=_
  unfold jv at *
  simp only[aar]
  omega
structure Over (as ws:Ws) (B T:Int):Prop where
 nd:(keys ws).Nodup
 perm:(keys as).Perm (keys ws)
 val:∀k∈keys ws,look as k*T=look ws k*B
theorem eF {ws:Ws} {p:Int×Int} (h:(keys ws).Nodup) (hp:p∈ws):look ws p.1=p.2:=by
 induction ws with
 | nil=>cases hp
 | cons q r ih=>
  have h':q.1∉keys r/\(keys r).Nodup:=by simpa [keys] using h
  unfold look
  rcases List.mem_cons.mp hp with rfl | hp
  ·rw[if_pos rfl]
  ·rw[if_neg (λz=>h'.1 (by rw[z];exact List.mem_map.mpr ⟨p,hp,rfl⟩))]
   exact ih h'.2 hp
noncomputable def rowsOf (ws:Ws) (B:Int):List (Int×Int×Int):=(t9 (keys ws)).map λv=>(v,st (look ws v) B,sb (look ws v) B)
noncomputable def weigh (rows:List (Int×Int×Int)) (B:Int):Ws:=rows.map λr=>(r.1,r.2.1* (B / r.2.2))
theorem rE (ws p q:Ws):aZ ws (p++q)=aZ (aZ ws p) q:=by
 unfold aZ
 rw[aa1]
theorem vE (ws p:Ws) (k x:Int):aZ ws (p++ [(k,x)])=jv (aZ ws p) k x:=by
 rw[rE]
 rfl
theorem zm:∀{l:List Int},0<l.length->(∀x∈l,0<x)->0<l.sum
 | [],h,_=>by simp at h
 | x::r,_,h=>by
  have hx:=h x aai
  rw[List.sum_cons]
  by_cases c:0<r.length
  ·have:=zm c λy hy=>h y (aag _ hy)
   omega
  ·have:r=[]:=List.eq_nil_of_length_eq_zero (by omega)
   subst this
   simpa using hx
theorem G9 {ws:Ws} (nd:(keys ws).Nodup) {P:Int->Prop} (h:∀k∈keys ws,P (look ws k)):∀x∈ws.map (·.2),P x:=λx hx=>by
 obtain⟨p,hp,rfl⟩:=List.mem_map.mp hx
 have:=h p.1 (List.mem_map.mpr ⟨p,hp,rfl⟩)
 rwa [eF nd hp] at this
theorem Ef {ws:Ws} (h:0<ws.length) (nd:(keys ws).Nodup) (w:∀k∈keys ws,0<look ws k):0<pU ws:=
 zm (by rw[aac];exact h) (G9 nd w)
theorem Hi {ps:Ws} (h:∀p∈ps,0<p.2) (s:Int):0<=cnt ps s:=by
 induction ps with
 | nil=>simp [cnt]
 | cons p r ih=>
  have i:=ih λq hq=>h q (aag _ hq)
  have hp:=h p aai
  unfold cnt at *
  rw[aae,List.sum_cons]
  split <;>omega
theorem Eg {ps:Ws} (h:∀p∈ps,0<p.2) {s:Int} (hs:s∈keys ps):0<cnt ps s:=by
 induction ps with
 | nil=>simp [keys] at hs
 | cons p r ih=>
  have h':∀q∈r,0<q.2:=λq hq=>h q (aag _ hq)
  have hp:=h p aai
  have n:=Hi h' s
  have e:cnt (p::r) s=(if p.1=s then p.2 else 0)+cnt r s:=by unfold cnt;rw[aae,List.sum_cons]
  rw[e]
  by_cases c:p.1=s
  ·rw[if_pos c];omega
  ·rw[if_neg c]
   have uR:s∈keys r:=by
    unfold keys at hs ⊢
    rw[aae] at hs
    rcases List.mem_cons.mp hs with z | z
    ·exact absurd z.symm c
    ·exact z
   have:=ih h' uR
   omega
end Nm
namespace L2
open PySem PySem.Spec PyProof.Rows
noncomputable def enc (ws:Nm.Ws):List (Key×V):=ws.map λp=>(Sum.inl p.1,V.int p.2)
theorem ub (ws:Nm.Ws):(enc ws).length=ws.length:=by unfold enc;rw[aac]
theorem Av (ws:Nm.Ws):j2 (enc ws)=Nm.keys ws:=by
 unfold j2 enc Nm.keys
 rw[aav]
 rfl
theorem BU (ws:Nm.Ws):allI (enc ws):=λp hp=>by
 unfold enc at hp
 obtain⟨q,_,rfl⟩:=List.mem_map.mp hp
 exact⟨q.1,rfl⟩
theorem zo (ws:Nm.Ws) (k:Int):df (enc ws) (Sum.inl k)=if k∈Nm.keys ws then some (.int (Nm.look ws k)) else none:=by
 induction ws with
 | nil=>simp [enc,df,Nm.keys]
 | cons p r ih=>
  unfold df at *
  unfold enc at *
  rw[aae,aaD]
  unfold Nm.look
  by_cases c:p.1=k
  ·rw[show decide ((Sum.inl p.1:Key)=Sum.inl k)=true by rw[c];simp]
   simp [Nm.keys,c]
  ·rw[show decide ((Sum.inl p.1:Key)=Sum.inl k)=false by simpa using c]
   simp only[ih]
   have e:(k∈Nm.keys (p::r))=(k∈Nm.keys r):=by
    unfold Nm.keys
    rw[aae,aaq]
    apply propext
    constructor
    ·rintro(h | h)
     ·exact absurd h.symm c
     ·exact h
    ·exact .inr
   simp only[e,if_neg c]
theorem Eh {ws:Nm.Ws} (nd:(Nm.keys ws).Nodup) (k v:Int):putK (enc ws) (Sum.inl k) (.int v)=enc (Nm.put ws k v):=by
 have key:∀{ws:Nm.Ws},k∉Nm.keys ws->(enc ws).map (λkv=>if kv.1=(Sum.inl k:Key) then (kv.1,V.int v) else kv)=enc ws:=by
  intro ws h
  unfold enc
  rw[aav]
  apply List.map_congr_left
  intro p hp
  have:p.1≠k:=λz=>h (by rw[<-z];exact List.mem_map.mpr ⟨p,hp,rfl⟩)
  simp [this]
 have any:∀ws:Nm.Ws,((enc ws).any λkv=>decide (kv.1=(Sum.inl k:Key)))=decide (k∈Nm.keys ws):=by
  intro ws
  induction ws with
  | nil=>simp [enc,Nm.keys]
  | cons p r ih=>
   unfold enc at *
   rw[aae,List.any_cons,ih]
   unfold Nm.keys
   rw[aae]
   by_cases c:p.1=k
   ·simp [c]
   ·have c2:¬k=p.1:=λz=>c z.symm
    simp [c,c2]
 unfold putK
 rw[any]
 clear any
 by_cases c:k∈Nm.keys ws
 ·rw[if_pos (by simpa using c)]
  induction ws with
  | nil=>simp [Nm.keys] at c
  | cons p r ih=>
   have h':p.1∉Nm.keys r/\(Nm.keys r).Nodup:=by simpa [Nm.keys] using nd
   unfold Nm.put
   by_cases e:p.1=k
   ·rw[if_pos e]
    have:=key (ws:=r) (by rw[<-e];exact h'.1)
    unfold enc at *
    rw[aae,aae,this,aae]
    simp [e]
   ·rw[if_neg e]
    have c':k∈Nm.keys r:=by
     unfold Nm.keys at c ⊢
     rw[aae] at c
     rcases List.mem_cons.mp c with z | z
     ·exact absurd z.symm e
     ·exact z
    have:=ih h'.2 c'
    unfold enc at *
    rw[aae,aae,this,aae]
    simp [e]
 ·rw[if_neg (by simpa using c)]
  induction ws with
  | nil=>simp [enc,Nm.put]
  | cons p r ih=>
   have h':p.1∉Nm.keys r/\(Nm.keys r).Nodup:=by simpa [Nm.keys] using nd
   have e:¬p.1=k:=λz=>c (by unfold Nm.keys;rw[aae,z];exact aai)
   have c':k∉Nm.keys r:=λz=>c (by unfold Nm.keys at *;rw[aae];exact aag _ z)
   unfold Nm.put
   rw[if_neg e]
   have:=ih h'.2 c'
   unfold enc at *
   rw[aae,List.cons_append,this,aae]
theorem Ei {H:Hp} {d:Addr} {ws:Nm.Ws} {v:Int} (h:Rd H d (.dK (enc ws))) (hv:v∈Nm.keys ws):iA H d (.int v) (some (.int (Nm.look ws v))):=
 .inl ⟨_,Sum.inl v,h,rfl,by rw[zo,if_pos hv]⟩
theorem BV {H:Hp} {d:Addr} {ws:Nm.Ws} {v:Int} (h:H d=some (.dK (enc ws))) (hv:v∈Nm.keys ws):iA H d (.int v) (some (.int (Nm.look ws v))):=Ei (.inl h) hv
theorem BW {ws:Nm.Ws} {v:Int} (h:v∉Nm.keys ws):Nm.look ws v=0:=by
 induction ws with
 | nil=>rfl
 | cons p r ih=>
  unfold Nm.keys at h
  rw[aae] at h
  unfold Nm.look
  rw[if_neg (λz=>h (by rw[z];exact aai))]
  exact ih λz=>h (aag _ z)
theorem Aw {H:Hp} {d:Addr} {ws:Nm.Ws} (v:Int) (h:Rd H d (.dK (enc ws))):∃o,iA H d (.int v) o/\o.getD (.int 0)=.int (Nm.look ws v):=by
 refine⟨_,.inl ⟨_,Sum.inl v,h,rfl,rfl⟩,?_⟩
 rw[zo]
 by_cases c:v∈Nm.keys ws
 ·rw[if_pos c];rfl
 ·rw[if_neg c,BW c];rfl
theorem BX {H:Hp} {d:Addr} {ws:Nm.Ws} (v x:Int) (h:H d=some (.dK (enc ws))) (nd:(Nm.keys ws).Nodup) (hl:ws.length<sizeLine):xH H d (.int v) (.int x) (upd H d (.dK (enc (Nm.put ws v x)))):=by
 have:=xH.k (k:=Sum.inl v) (v:=.int x) h (by rw[ub];exact hl)
 rw[Eh nd] at this
 exact this
noncomputable def Ej (r:Int×Int×Int):Dat:=.tup [.int r.1,.tup [.int r.2.1,.int r.2.2]]
noncomputable def j3 (rows:List (Int×Int×Int)):Dat:=.lst (rows.map Ej)
noncomputable def oE (p:Int×Int):Dat:=.tup [.int p.1,.int p.2]
noncomputable def iE (ws:Nm.Ws):Dat:=.lst (ws.map oE)
theorem lW {H:Hp} {r:Int×Int×Int} {v:V}:Rep H (Ej r) v↔∃p q,v=.ref p/\H p=some (.tup [.int r.1,.ref q])/\H q=some (.tup [.int r.2.1,.int r.2.2]):=by
 unfold Ej
 simp only[Rep,bq]
 constructor
 ·rintro⟨p,vs,rfl,hp,a,b,rfl,rfl,c,d,rfl,⟨q,us,rfl,hq,e,f,rfl,rfl,g,h,rfl,rfl,rfl⟩,rfl⟩
  exact⟨p,q,rfl,hp,hq⟩
 ·rintro⟨p,q,rfl,hp,hq⟩
  exact⟨p,_,rfl,hp,_,_,rfl,rfl,_,_,rfl,⟨q,_,rfl,hq,_,_,rfl,rfl,_,_,rfl,rfl,rfl⟩,rfl⟩
theorem dB {H:Hp} {r:Int×Int} {v:V}:Rep H (oE r) v↔∃p,v=.ref p/\H p=some (.tup [.int r.1,.int r.2]):=by
 unfold oE
 simp only[Rep,bq]
 constructor
 ·rintro⟨p,vs,rfl,hp,a,b,rfl,rfl,c,d,rfl,rfl,rfl⟩
  exact⟨p,rfl,hp⟩
 ·rintro⟨p,rfl,hp⟩
  exact⟨p,_,rfl,hp,_,_,rfl,rfl,_,_,rfl,rfl,rfl⟩
theorem aO {H:Hp} {ds:List Dat} {v:V}:Rep H (.lst ds) v↔∃p vs,v=.ref p/\H p=some (.lst vs)/\bq H ds vs:=by rw[Rep]
noncomputable def Vk (H H':Hp):Prop:=∀p xs,(H p=some (.tup xs)->H' p=some (.tup xs))/\(H p=some (.lst xs)->H' p=some (.lst xs))
mutual
theorem Rep.J4 {H H':Hp} (s:Vk H H'):∀{d:Dat} {v:V},Rep H d v->Rep H' d v
 | .de,_,h=>by rw[Rep] at *;exact h
 | .bl _,_,h=>by rw[Rep] at *;exact h
 | .int _,_,h=>by rw[Rep] at *;exact h
 | .str _,_,h=>by rw[Rep] at *;exact h
 | .tup _,_,h=>by
  rw[Rep] at *
  obtain⟨p,vs,e,hp,r⟩:=h
  exact⟨p,vs,e,(s _ _).1 hp,bq.J4 s r⟩
 | .lst _,_,h=>by
  rw[Rep] at *
  obtain⟨p,vs,e,hp,r⟩:=h
  exact⟨p,vs,e,(s _ _).2 hp,bq.J4 s r⟩
theorem bq.J4 {H H':Hp} (s:Vk H H'):∀{ds:List Dat} {vs:List V},bq H ds vs->bq H' ds vs
 | [],_,h=>by rw[bq] at *;exact h
 | _::_,_,h=>by
  rw[bq] at *
  obtain⟨v,r,e,h1,h2⟩:=h
  exact⟨v,r,e,Rep.J4 s h1,bq.J4 s h2⟩
end
theorem none_of {H H':Hp} (s:aE H H') {p:Addr} (h:H' p=none):H p=none:=by
 cases e:H p with
 | none=>rfl
 | some o=>rw[s p o e] at h;cases h
end L2
namespace Nm
end Nm
namespace L2
open PySem PySem.Spec PyProof.Rows
theorem xS {K:PySem.W.Frag} {α:Type} {J:It} {tc:TT} {te:TE} {tl:St} {H1:Hp} {fin:List V->Hp->Prop} {Item:Nat->V->Hp->Hp->Prop} (as:List α) (f:α->Option Int) (S:Src J (aE H1) as.length Item) (sub:∀i x H H3,Item i x H H3->H3=H) (hz:as.length<=sizeLine)
  (hs:∀i a x,as[i]?=some a->Item i x H1 H1->∃p u v,x=.ref p/\hX K H1 p [u,v]/\∀(Y:VK) (N:Hp->Prop),(∀z,f a=some z->Y (.int z) H1)->(f a=none->N H1)->tc (some u::some v::tl) H1 λb H5=>if b=true then te (some u::some v::tl) H5 Y else N H5)
  (mV:fin (List.map V.int (as.filterMap f)) H1):gn J (Bs K 2 (gCons (gName 0) (gCons (gName 1) gNil))) tc te (none::none::tl) H1 fin:=by
 refine sN S (λσ=>∃w0 w1,σ=w0::w1::tl) ⟨_,_,rfl⟩ (λi ys H=>H=H1/\ys=List.map V.int ((as.take i).filterMap f)) ⟨rfl,by simp⟩ hz ?_ ?_
 ·rintro i x σ H ys H3 Q N hi sm ⟨rfl,rfl⟩ hl ⟨w0,w1,rfl⟩ it kq kn
  obtain rfl:=sub _ _ _ _ it
  have ea:as[i]?=some as[i]:=aap hi
  obtain⟨p,u,v,rfl,sq,k⟩:=hs i _ x ea it
  refine⟨p,_,rfl,sq,rfl,_,_,rfl,_,_,rfl,rfl,?_⟩
  refine k _ _ (λz e=>kq _ _ _ ⟨_,_,rfl⟩ sm ⟨rfl,?_⟩) (λe=>kn _ _ ⟨_,_,rfl⟩ sm ⟨rfl,?_⟩)
  ·rw[aaF,ea,List.filterMap_append,aaz]
   simp [e]
  ·rw[aaF,ea,List.filterMap_append,aaz]
   simp [e]
 ·rintro ys H sm ⟨rfl,rfl⟩ hl
  rw[aaE (aaf _)]
  exact mV
theorem Ek {α β:Type} (f:α->β) (l:List α):l.filterMap (λa=>some (f a))=l.map f:=by
 rw[<-List.filterMap_eq_map];rfl
end L2
namespace L2
open PySem PySem.Spec PyProof.Rows PySem.W
section
variable {X : Cx} {K : PySem.W.Frag}
theorem Hj {as:List (Key×V)} {bs:List (Key×Value)} (r:KV as bs):∀(j:Nat) {b},bs[j]?=some b->∃a,as[j]?=some a/\RelV a.2 b.2:=by
 induction r with
 | nil=>intro j b e;simp at e
 | cons r1 r2 ih=>
  intro j b e
  cases j with
  | zero=>simp at e;subst e;exact⟨_,rfl,r1.2⟩
  | succ j=>simp at e;obtain⟨a,e1,e2⟩:=ih j e;exact⟨a,by simpa using e1,e2⟩
theorem vF (ns:List Int):preSum (λi=>ns.getD i 0) ns.length=ns.sum:=by
 have e:=preSum_eq (ns.map λn=>(n,(0:Nat))).toArray ns.length
 have f:(λi=>ns.getD i 0)=numAt (ns.map λn=>(n,(0:Nat))).toArray:=by
  funext i
  unfold numAt
  simp only[List.getElem?_toArray,aad,aa5]
  cases ns[i]? <;>rfl
 rw[f]
 refine e.trans ?_
 rw[aaE (by simp)]
 congr 1
 simp [Function.comp_def]
noncomputable def tSumV (to:TE):TE:=λσ H Q=>to σ H λv H1=>∃d kvs ns,v=.ref d/\H1 d=some (.dK kvs)/\kvs.map (·.2)=List.map V.int ns/\Q (.int ns.sum) H1
theorem xT {o:Expr} {to:TE} {p apos cZ pos:Pos} (hc:X.calm=true) (hg:Gl X "sum") (hm:X.mg "sum"=none) (ho:PE X o to)
  (pL:attributeBase o "values" X.env (eval o X.env)=eval o X.env:=by rfl) (pM:(apos.endLine==cZ.line)=true:=by rfl)
  (he:starEach [Expr.Call (.Attribute o "values" apos) [] [] cZ] X.env=[(false,eval (.Call (.Attribute o "values" apos) [] [] cZ) X.env)]:=by rfl):
  PE X (.Call (.Name "sum" p) [.Call (.Attribute o "values" apos) [] [] cZ] [] pos) (tSumV to):=by
 intro pins s σ H Q I h
 refine wpAny_Call_Name_kw (iz I hg hm (u:=.builtin "sum") rfl ?_ (by decide) (by decide))
 rw[he]
 refine PySem.callWith_builtin1 ?_
 refine wpAny_Call_method0_late pL pM (cw (ho pins s σ H _ I h) λv s1 ⟨x,H1,I1,r1,q1⟩=>?_)
 obtain⟨d,kvs,ns,rfl,hd,hv,q⟩:=q1
 obtain⟨h1,h2⟩:=xC (T:="dict") I1 r1 (.inr (.inr (.inl ⟨rfl,.inl ⟨_,hd⟩⟩)))
 cases r1
 obtain⟨hz,lo,vs,kv,dd⟩:=zc I1.bP hd
 have hlen:kvs.length=vs.length:=Paired.length kv
 refine⟨"dict","dict.values",PySem.F.plainAttrs_dict,PySem.F.slot_dict_values,PySem.F.type_dict_values,h1,h2,Calls.callWith_builtin rfl (PySem.evalArgs_none ?_)⟩
 refine call_meetsIn PySem.F.slot_dict_values dd.typeIs PySem.F.entry_dict_values (PySem.F.args_dict_values_1 _) (meets_dict_values _ d lo) ⟨⟨vs,dd⟩,?_⟩
 have I2:Inv X pins σ H1 {s1 with heap:=s1.heap.push {cls:=.type "dict_values",data:=.fields #[.ref d]}}:=I1.kept (t':=s1.toks) λb o e=>Heap.get?_push_of_some _ e
 obtain⟨hz,lo,vs,kv,dd⟩:=zc I2.bP hd
 have hlen:kvs.length=vs.length:=Paired.length kv
 obtain⟨ep,uQ⟩:=dd.dictAt
 have hn:ns.length=vs.length:=by
  have:=congrArg List.length hv
  rw[aac,aac] at this
  omega
 have Ks:=kdl_values (prog:=X.prog) (w:=X.w) (r:=s1.heap.objs.size) (d:=d) (knd:=b8 X.prog X.w) (kvs:=vs) (ep:=ep)
 have bP:({s1 with heap:=s1.heap.push {cls:=.type "dict_values",data:=.fields #[.ref d]}}:Shared).heap.IsValuesView s1.heap.objs.size d/\({s1 with heap:=s1.heap.push {cls:=.type "dict_values",data:=.fields #[.ref d]}}:Shared).heap.DictAt (b8 X.prog X.w) d vs ep:=⟨⟨_,Heap.get?_push_size _ rfl,rfl,rfl⟩,uQ⟩
 refine call_sum_walkAnyS ?_
 obtain⟨oI,St,hit,W,st⟩:=Ks.iter X.A.in1 _ (I.ok.hd hc) bP
 refine hit _ _ ⟨_,_,_,_,vs.length,_,_,λi=>ns.getD i 0,rfl,W.toS,st,λb hb=>?_,λi v hP=>?_,λs' t' Vl=>?_⟩
 ·show b< (Heap.push _ oI).objs.size
  rw[size_push']
  rcases List.mem_cons.mp hb with e | hb
  ·rw[e];exact aaS _
  ·rw[List.mem_singleton.mp hb];exact Nat.lt_succ_of_lt (Ks.there _ bP).2
 ·obtain⟨k,e⟩:=hP
  obtain⟨a,e1,e2⟩:=Hj kv i e
  have e3:(kvs.map (·.2))[i]?=some a.2:=by rw[aad,e1];rfl
  rw[hv,aad] at e3
  obtain⟨n,en,ea⟩:=Option.map_eq_some_iff.mp e3
  rw[<-ea] at e2
  obtain⟨t,e2⟩:=e2
  refine⟨t,?_⟩
  show v=Value.int (ns.getD i 0) t
  rw[aa5,en]
  exact e2
 ·have hk:∀b o,(s1.heap.push {cls:=.type "dict_values",data:=.fields #[.ref d]}).get? b=some o->s'.heap.get? b=some o:=λb o e=>
   Vl.heap b o (λhI=>absurd (Heap.lt_size e) (by rw[List.mem_singleton.mp hI];exact aaA _)) (Heap.get?_push_of_some _ e)
  rw[Moved.eq_with Vl,<-hn,vF]
  exact⟨.int ns.sum,H1,I2.kept (t':=s'.toks) hk,⟨t',rfl⟩,q⟩
theorem mW {α:Type} {J:It} {tc:TT} {te:TE} {tl:St} {H1:Hp} {fin:List V->Hp->Prop} {Item:Nat->V->Hp->Hp->Prop} (as:List α) (f:α->Option V) (S:Src J (aE H1) as.length Item) (sub:∀i x H H3,Item i x H H3->H3=H) (hz:as.length<=sizeLine)
  (hs:∀i a x,as[i]?=some a->Item i x H1 H1->∀(Y:VK) (N:Hp->Prop),(∀z,f a=some z->Y z H1)->(f a=none->N H1)->tc (some x::tl) H1 λb H5=>if b=true then te (some x::tl) H5 Y else N H5)
  (mV:fin (as.filterMap f) H1):gn J (gName 0) tc te (none::tl) H1 fin:=by
 refine sN S (λσ=>∃w0,σ=w0::tl) ⟨_,rfl⟩ (λi ys H=>H=H1/\ys=(as.take i).filterMap f) ⟨rfl,by simp⟩ hz ?_ ?_
 ·rintro i x σ H ys H3 Q N hi sm ⟨rfl,rfl⟩ hl ⟨w0,rfl⟩ it kq kn
  obtain rfl:=sub _ _ _ _ it
  have ea:as[i]?=some as[i]:=aap hi
  refine hs i _ x ea it _ _ (λz e=>kq _ _ _ ⟨_,rfl⟩ sm ⟨rfl,?_⟩) (λe=>kn _ _ ⟨_,rfl⟩ sm ⟨rfl,?_⟩)
  ·rw[aaF,ea,List.filterMap_append]
   simp [e]
  ·rw[aaF,ea,List.filterMap_append]
   simp [e]
 ·rintro ys H sm ⟨rfl,rfl⟩ hl
  rw[aaE (aaf _)]
  exact mV
theorem eC {a b:TS} {D:Ends} {σ:St} {H:Hp} (C:St->Hp->Prop) (hb:∀σ' H',C σ' H'->b D σ' H') (ha:∀N:St->Hp->Prop,(∀σ' H',C σ' H'->N σ' H')->a {D with nx:=N} σ H):tSeq a b D σ H:=ha _ hb
theorem xU {tc:TT} {a b:TS} {D:Ends} {σ:St} {H:Hp} (C1 C2:Hp->Prop) (h1:∀H',C1 H'->a D σ H') (h2:∀H',C2 H'->b D σ H')
  (ht:∀Y N:Hp->Prop,(∀H',C1 H'->Y H')->(∀H',C2 H'->N H')->tc σ H λv H'=>if v=true then Y H' else N H'):tIfS tc a b D σ H:=ht _ _ h1 h2
end
end L2
namespace Nm
noncomputable def pos (ps:Ws):Ws:=ps.filter λp=>decide (0<p.2)
noncomputable def kC (ps:Ws):Ws:=aZ [] (pos ps)
noncomputable def bad (ps:Ws):Prop:=(∃p∈ps,p.2<0)\/pos ps=[]
theorem BY (ps:Ws) (p:Int×Int):pos (ps++ [p])=if 0<p.2 then pos ps++ [p] else pos ps:=by
 unfold pos
 rw[List.filter_append]
 by_cases c:0<p.2
 ·rw[if_pos c];simp [c]
 ·rw[if_neg c];simp [c]
theorem BZ (ps:Ws) (p:Int×Int):kC (ps++ [p])=if 0<p.2 then jv (kC ps) p.1 p.2 else kC ps:=by
 unfold kC
 rw[BY]
 split
 ·rw[vE]
 ·rfl
theorem mX (ps:Ws):(keys (kC ps)).Nodup:=lV (by simp [keys])
theorem zq (ps:Ws):(kC ps).length<=ps.length:=by
 have:=pW (pos ps) []
 have h2:(pos ps).length<=ps.length:=List.length_filter_le _ _
 unfold kC
 simp only[aaW] at this
 omega
theorem zr {ps:Ws}:kC ps=[]↔pos ps=[]:=by
 constructor
 ·intro h
  cases e:pos ps with
  | nil=>rfl
  | cons p r=>
   have m:p.1∈keys (kC ps):=by
    unfold kC
    rw[e]
    exact kB.mpr (.inr (by simp [keys]))
   rw[h] at m
   simp [keys] at m
 ·intro h
  unfold kC
  rw[h]
  rfl
theorem El (ps:Ws):∀p∈pos ps,0<p.2:=λp hp=>by
 unfold pos at hp
 simpa using (List.mem_filter.mp hp).2
theorem Em (ps:Ws):∀k∈keys (kC ps),0<look (kC ps) k:=λk hk=>by
 unfold kC at *
 rw[oB]
 have h:k∈keys (pos ps):=by
  rcases kB.mp hk with z | z
  ·simp [keys] at z
  ·exact z
 have:=Eg (El ps) h
 simp only[look]
 omega
theorem En (ps:Ws):pU (kC ps)=pU (pos ps):=by
 unfold kC
 rw[pV]
 simp [pU]
theorem pX {c:Int} (c0:0<=c):∀{ps:Ws},(∀p∈ps,p.2<=c)->pU (pos ps)<=ps.length*c
 | [],_=>by simp [pos,pU]
 | p::r,h=>by
  have ih:=pX c0 λq hq=>h q (aag _ hq)
  have hp:=h p aai
  rw[aar,Int.natCast_succ,Int.add_mul]
  unfold pos at *
  rw[List.filter_cons]
  split
  ·rw[show pU (p::List.filter (λp=>decide (0<p.2)) r)=p.2+pU (List.filter (λp=>decide (0<p.2)) r) from by unfold pU;rw[aae,List.sum_cons]]
   omega
  ·omega
end Nm
namespace L2
open PySem PySem.Spec PyProof.Rows PySem.W
section
variable {X : Cx} {K : PySem.W.Frag}
noncomputable def rJoin (K:PySem.W.Frag):V->List V->Hp->VK->Prop:=λx xs H Q=>∃sep p ts,x=.str sep/\xs=[.ref p]/\bN K H p (List.map V.str ts)/\JoinOk sep ts=true/\Q (.str (Txt.join sep ts)) H
theorem xV:cR X (.type "int") (λxs H Q=>∃k,xs=[.bl k]/\Q (.int (if k then 1 else 0)) H):=by
 intro pins s σ H xs us Q I r h
 exact Ah pins s σ H xs us Q I r (.inr h)
abbrev TJ:=Str->TE
noncomputable def jNil:TJ:=λacc _ H Q=>Q (.str acc) H
noncomputable def jLit (x:Str) (t:TJ):TJ:=λacc σ H Q=>(acc++x).length<=sizeLine/\t (acc++x) σ H Q
noncomputable def jInt (te:TE) (t:TJ):TJ:=λacc σ H Q=>te σ H λv H1=>∃i,v=.int i/\i.natAbs.log2<1920/\(acc++toString i).length<=sizeLine/\t (acc++toString i) σ H1 Q
noncomputable def jStr (te:TE) (t:TJ):TJ:=λacc σ H Q=>te σ H λv H1=>∃z,v=.str z/\z.length<=sizeLine/\(acc++z).length<=sizeLine/\t (acc++z) σ H1 Q
noncomputable def tJoined (t:TJ):TE:=λσ H Q=>t Str.empty σ H Q
end
end L2
namespace L2
open PySem PySem.Spec PyProof.Rows PySem.W
inductive Pl where
 | fin (w:Int×Int) | jw (w:Int×Int) (ws:List (Int×Int)) | pck (iy:Int) (to:List Int)
noncomputable def cA (H:Hp) (p:Addr):Hp:=λa=>if a=p then none else H a
theorem bw {H:Hp} {p a:Addr} (h:a≠p):cA H p a=H a:=if_neg h
theorem zt {H:Hp} {p:Addr} {o:HO}:aE (cA H p) (upd H p o):=λa u e=>by
 unfold cA at e
 by_cases h:a=p
 ·rw[if_pos h] at e;cases e
 ·rw[if_neg h] at e;rw[aF h];exact e
theorem bE {H:Hp} {p:Addr}:aE (cA H p) H:=λa u e=>by
 unfold cA at e
 by_cases h:a=p
 ·rw[if_pos h] at e;cases e
 ·rw[if_neg h] at e;exact e
theorem vG {H0 H:Hp} {p:Addr} (s:aE H0 H) (n:H0 p=none):aE H0 (cA H p):=λa u e=>by
 rw[bw (λz=>by rw[z,n] at e;cases e)]
 exact s _ _ e
theorem bM {H H':Hp} {p:Addr} (s:aE H H'):aE (cA H p) (cA H' p):=λa u e=>by
 unfold cA at *
 by_cases h:a=p
 ·rw[if_pos h] at e;cases e
 ·rw[if_neg h] at e ⊢;exact s _ _ e
theorem bQ {H0 H:Hp} {p:Addr} {o:HO} (s:aE H0 H) (n:H0 p=none):aE H0 (upd H p o):=(vG s n).trans zt
theorem fG {H:Hp} {p:Addr} {ds:List Dat} {xs:List V} {d:Dat} {v:V} (h:bq (cA H p) ds xs) (k:Rep (cA H p) d v):bq (cA (upd H p (.lst (xs++ [v]))) p) (ds++ [d]) (xs++ [v]):=by
 have s:aE (cA H p) (cA (upd H p (.lst (xs++ [v]))) p):=vG zt (if_pos rfl)
 refine(h.mono s).append ?_
 rw[bq]
 exact⟨v,[],rfl,k.mono s,by rw[bq]⟩
theorem uc {α β:Type} {f:α->β} {as:List α} {i:Nat} {a:α} (h:as[i]?=some a):lD (as.map f) (i:Int)=some (f a):=bJ (by rw[aad,h];rfl)
section
variable {X : Cx} {K : PySem.W.Frag}
end
end L2
namespace PySem
section
variable {prog : Program} {w : World} {A : Around} {E : Value -> Shared -> Prop} {s : Shared}
end
end PySem
namespace L2
open PySem PySem.Spec PyProof.Rows PySem.W
section
variable {X : Cx} {K : PySem.W.Frag}
noncomputable def tRev (K:PySem.W.Frag) (te:TE):TE:=λσ H Q=>te σ H λv H1=>∃p xs,v=.ref p/\bN K H1 p xs/\∀l,H1 l=none->Q (.ref l) (upd H1 l (.lst xs.reverse))
noncomputable def tD1 (tk tv:TE):TE:=λσ H Q=>∀d,H d=none->tk σ (upd H d (.dK [])) λx H1=>tv σ H1 λv H2=>∃k,x=kV k/\H2 d=some (.dK [])/\Q (.ref d) (upd H2 d (.dK [(k,v)]))
theorem J5 {ke ve:Expr} {tk tv:TE} {pos:Pos} (hk:PE X ke tk) (hv:PE X ve tv):PE X (.Dict [some ke] [ve] pos) (tD1 tk tv):=by
 intro pins s σ H Q I h
 refine wpAny_Dict_pairs (knd:=b8 X.prog X.w) (pairs:=[(eval ke X.env,do let x <-eval ve X.env;standAt pos;pure x)]) rfl (by simp) (by simp) ?_
 have fr:=I.bP.fresh (a:=s.heap.objs.size) (aaf _)
 have I1:Inv X pins σ (upd H s.heap.objs.size (.dK [])) {s with heap:=s.heap.push {cls:=.type "dict",data:=.dict #[]}}:=I.laid (t':=s.toks) (λ_ _ q=>Heap.get?_push_of_some _ q) (aaf _) (vt s.heap I.JP)
 unfold evalPairs
 refine wpAny_bind (cw (hk pins _ σ _ _ I1 (h _ fr)) λku s1 ⟨x,H1,I2,rx,q1⟩=>?_)
 refine wpAny_bind (wpAny_holding (wpAny_bind (cw (hv pins _ σ _ _ I2 q1) λvu s2 ⟨v,H2,I3,rv,k,ex,hd,q⟩=>wpAny_bind (wpAny_standAt (wpAny_pure ?_)))))
 subst ex
 obtain⟨z,lo,vs,kv,dd⟩:=zc I3.bP hd
 cases kv
 unfold evalPairs
 refine wpAny_bind (wpAny_holding (wpAny_pure (wpAny_pure ⟨[(k,vu)],⟨lM rx,rfl,trivial⟩,dd,λh' Bb hs=>?_⟩)))
 have Bb:h'.DictOf (b8 X.prog X.w) s.heap.objs.size [(k,vu)]:=Bb
 have he:∃q,h'.get? s.heap.objs.size=some q:=let ⟨q,_,_,hq,_⟩:=Bb;⟨q,hq⟩
 exact⟨.ref s.heap.objs.size,_,pe I3 (by rw[hd];exact True.intro) hs he (xI (kvs:=[(k,v)]) (by rw[sizeLine_eq];simp) lo (.cons ⟨rfl,rv⟩ .nil) Bb),rfl,q⟩
end
end L2
namespace PySem
open Builtin Builtin.Str
section
variable {prog : Program} {w : World} {A : Around} {E : Value -> Shared -> Prop} {s : Shared} {x y : Str} {t u : Tok} {Q : Value -> Shared -> Prop}
end
end PySem
namespace L2
open PySem PySem.Spec PyProof.Rows PySem.W
section
variable {X : Cx} {K : PySem.W.Frag}
noncomputable def XD (z:Str):It:=⟨λi _=>i<z.cps.size,λi H x H'=>H'=H/\∃c,z.cps[i]?=some c/\x=.str ⟨#[c]⟩,λi _=>z.cps.size<=i⟩
noncomputable def iStr (tl:TE):TI:=λσ H R=>tl σ H λx H1=>∃z,x=.str z/\z.cps.all (·<128)=true/\R (XD z) H1
theorem Ax {K:PySem.W.Frag} {J:It} {te:TE} {tl:St} {H1:Hp} {fin:List V->Hp->Prop} {n:Nat} {Item:Nat->V->Hp->Hp->Prop} (S:Src J (aE H1) n Item) (J2:Nat->V->V->V->Hp->Prop)
  (tp:∀i x H H3,i<n->aE H1 H->Item i x H H3->aE H H3/\∃p a b c,x=.ref p/\hX K H3 p [a,b,c]/\J2 i a b c H3) (hz:n<=sizeLine)
  (R:Nat->V->Hp->Prop) (mono:∀i y H H',aE H H'->R i y H->R i y H')
  (hs:∀i a b c H3 (Q:VK),i<n->aE H1 H3->J2 i a b c H3->(∀y H6,aE H3 H6->R i y H6->Q y H6)->te (some a::some b::some c::tl) H3 Q)
  (mV:∀ys H,aE H1 H->ys.length=n->(∀(i:Nat) y,ys[i]?=some y->R i y H)->fin ys H):gn J (Bs K 3 (gCons (gName 0) (gCons (gName 1) (gCons (gName 2) gNil)))) pP te (none::none::none::tl) H1 fin:=by
 refine⟨λi m ys σ H=>m=n - i/\i<=n/\ys.length=i/\(∃w w' Vm,σ=w::w'::Vm::tl)/\aE H1 H/\∀(j:Nat) y,ys[j]?=some y->R j y H,⟨n,by simp,aak _,rfl,⟨_,_,_,rfl⟩,aE.refl _,λj y e=>by simp at e⟩,?_⟩
 rintro i m ys σ H ⟨rfl,hi,hl,⟨w,w',Vm,rfl⟩,sm,p⟩
 by_cases eW:i<n
 ·refine .inr ⟨S.go i H eW sm,λx H3 y=>?_⟩
  obtain⟨s3,q,a,b,c,rfl,sq,it⟩:=tp i x H H3 eW sm (S.xf i H x H3 eW sm y)
  refine⟨q,_,rfl,sq,rfl,_,_,rfl,_,_,rfl,_,_,rfl,rfl,?_⟩
  unfold pP
  refine GV ?_
  refine hs i a b c H3 _ eW (sm.trans s3) it λy H6 s6 r=>⟨by omega,n - (i+1),by omega,rfl,eW,by rw[aan,aay];omega,⟨_,_,_,rfl⟩,sm.trans (s3.trans s6),λj z e=>?_⟩
  by_cases hj:j<i
  ·rw[aaN (by omega)] at e
   exact mono j z _ _ (s3.trans s6) (p j z e)
  ·rw[aa3 (by omega)] at e
   have e2:j - ys.length=0:=by
    by_cases q:j - ys.length=0
    ·exact q
    ·rw[aaR (by simp;omega)] at e;cases e
   rw[e2] at e
   simp at e
   subst e
   have:j=i:=by omega
   subst this
   exact r
 ·have e:i=n:=by omega
  subst e
  exact .inl ⟨S.stop H sm,mV ys H sm hl p⟩
theorem lX {x:Str} {i:Int} {pos:Pos} (hg:Gl X x) (h:∃t,X.mg x=some (.int i t)) (hd:(x==("__debug__":Str))=false:=by decide):PE X (.Name x pos) (tC (.int i)):=by
 obtain⟨t,h⟩:=h
 exact DI hg h ⟨t,rfl⟩ hd
theorem Hk {o e:Expr} {es:List Expr} {to:TE} {t:TA} {name:Str} {apos cZ:Pos} {T id:String} {r:V->List V->Hp->VK->Prop} (pa:PlainAttrs T) (slot:Slot T name id) (JJ:typeOf (.builtin id)=pure (.type "method_descriptor")) (hm:GF X id r) (ho:PE X o to) (ha:PA X (e::es) t)
  (pL:attributeBase o name X.env (eval o X.env)=eval o X.env:=by rfl)
  (GJ:((backTo cZ (starEach (e::es) X.env)).all (λx=>!x.1) && (backToKw cZ (keywordEach [] X.env)).all (λx=>x.1.isSome)
   && decide ((e::es).length+ ([]:List Keyword).length+ (if ([]:List Keyword).isEmpty then 0 else 1)<30))=true:=by rfl)
  (pM:(apos.endLine==cZ.line)=true:=by rfl) (hs:starEach (e::es) X.env=(false,eval e X.env)::starEach es X.env:=by rfl) (xD:(backTo cZ (starEach es X.env)).any (·.1)=false:=by rfl) (hK:X.K=K:=by rfl):
  PE X (.Call (.Attribute o name apos) (e::es) [] cZ) (tBM K T r to t):=by subst hK;exact dr pa slot JJ hm ho ha pL GJ pM hs xD
end
end L2
namespace PySem
end PySem
namespace PySem
section
variable {M : Model} {A : Around} {E : Value -> Shared -> Prop} {s : Shared} {env : Env}
theorem Ay {e:Expr} {scope:Scope} {pos:Pos} {B1 first:Sem Value} {g:Comprehension} {gs:List Comprehension} {cl:List (Str×Addr)} {Q:Value->Shared->Prop}
  (h1:clausesOf e=g::gs) (h2:∀x,foldedSetIterable g.iter env x=pure x) (h3:closureFor scope env=pure cl) (h4:scope.kind=.function) (h5:∀x∈scope.names,x.2=.local->scope.names.lookup x.1=some .local)
  (h:wpAny M A first (λx t1=>wpAny M A (pyIter x) (λit t2=>wpAny M A B1 (λacc t3=>wpAny M A (newFunctionEnv scope env.globals cl [] env.qual none .none (some env)) (λce t4=>
    codeAny M A (.compStart e 0 it acc {ce with scope:=relabel scope env}) (λr t=>∃m,t.heap.Ns ce.locals m/\∀h',Heap.SameBut ce.locals t.heap h'->match r with
     | .ok _=>Q acc {t with heap:=h'}
     | .error x=>wpAny M A (passOn "comprehension.variables-let-go" x {ce with scope:=relabel scope env}:Sem Value) (λ_ _=>False) E {t with heap:=h'}) t4) E t3) E t2) E t1) E s):
  wpAny M A (comprehension e scope env pos B1 false first none) Q E s:=by
 unfold comprehension
 rw[h3,h1]
 refine wpAny_bind (wpAny_mono h (λx t1 a1=>?_) λ_ _ y=>y)
 refine wpAny_bind (wpAny_standAt ?_)
 refine wpAny_bind (wpAny_of_eq (h2 x) ?_)
 refine wpAny_bind (wpAny_holding (wpAny_mono a1 (λit t2 a2=>?_) λ_ _ y=>y))
 refine wpAny_standIf (wpAny_bind (wpAny_mono a2 (λacc t3 a3=>?_) λ_ _ y=>y))
 refine wpAny_bind (wpAny_pure (wpAny_bind (wpAny_mono a3 (λce t4 a4=>?_) λ_ _ y=>y)))
 dsimp only
 have own:∀x∈(scope.names.filter λy=>(y.2==.local || y.2==.cell) && y.1 !=(".0":Str)).reverse,x.2=.local->Env.kindOf {ce with scope:=relabel scope env} x.1=some .local:=by
  intro x hx hl
  have hm:=(List.mem_filter.mp (List.mem_reverse.mp hx)).1
  exact lookup_relabel_local (h5 x hm hl)
 refine wpAny_holding (wpAny_bind (wpAny_attempt (wpAny_holding (wpAny_run (codeAny_mono a4 λr t hr=>?_)))))
 obtain⟨m,hn,hq⟩:=hr
 cases r with
 | ok fl=>
  refine wpAny_bind (wpAny_holding (wpAny_comp_letGo (cenv:={ce with scope:=relabel scope env}) h4 _ t m own hn λh' m' _ sb=>?_))
  exact wpAny_pure (hq h' sb)
 | error x=>
  refine wpAny_bind (wpAny_holding (wpAny_comp_letGo (cenv:={ce with scope:=relabel scope env}) h4 _ t m own hn λh' m' _ sb=>?_))
  exact wpAny_mono (hq h' sb) (λ_ _ z=>False.elim z) λ_ _ y=>y
end
end PySem
namespace L2
open PySem PySem.Spec PyProof.Rows PySem.W
theorem Az {x:Value} {e1 e2:Env} (h:e1.frame=e2.frame):noteFrame x e1=noteFrame x e2:=by
 unfold noteFrame PySem.frameOf
 simp only[h]
theorem pY {C:Addr} {h h' base:Heap} (sb:Heap.SameBut C h h'):∀{l:List Env},h.FunFrames base l->C∉dz l->h'.FunFrames base l
 | [],_,_=>trivial
 | en::r,⟨a1,⟨L,o,b1,b2,b3,b4⟩,a3⟩,n=>by
  have e:dz (en::r)=L::dz r:=by unfold dz;rw[aa0,b1]
  rw[e] at n
  refine⟨a1,⟨L,o,b1,b2,(sb.2 L λz=>n (by rw[z];exact aai)).trans b3,b4⟩,?_⟩
  exact pY sb a3 λz=>n (aag _ z)
section
variable {M : Model} {A : Around} {E : Value -> Shared -> Prop} {s : Shared} {B : Heap} {l : List Env} {ad L : Addr} {cls a0 : Value}
theorem AA {Oj:String} {ce:Env} {Q:Value->Shared->Prop} (hh:Heap.HeldW B l ad cls a0 L s.heap) (hf:ce.frame=some L)
  (k:∀h',Heap.HeldW B l ad cls a0 L h'->s.heap.UpToSlots h'->E (.ref ad) {s with heap:=h'}):wpAny M A (PySem.passOn Oj (.ref ad) ce:Sem Value) Q E s:=by
 obtain⟨st,na,ff,oe,vs,T,oT,ts,g1,g2,g3,g4,g5,g6,g7,g8,g9⟩:=id hh
 have sz:3<ts.size:=(Array.getElem?_eq_some_iff.mp g9).1
 unfold PySem.passOn
 refine wpAny_bind (wpAny_field g1 g3 g4 ?_)
 have nz:¬(Value.ref T==Value.none)=true:=by simp
 rw[if_neg nz,hf]
 have ot:∀{f:Obj->Obj} b,b≠T->(s.heap.update T f).get? b=s.heap.get? b:=λb hb=>Heap.get?_update_other _ _ (Ne.symm hb)
 have nr:∀b o,s.heap.get? b=some o->(∀us,o.data≠.fields us)->b≠T:=λb o e nf z=>by
  rw[z,g7] at e
  cases e
  exact nf ts g8
 have fin:wpAny M A (setFlight (.ref ad) (some L)) (λ_ s1=>wpAny M A (throw (.ref ad):Sem Value) Q E s1) E s:=by
  unfold setFlight
  refine wpAny_bind (wpAny_field g1 g3 g4 ?_)
  have yz:(Value.ref T !=Value.none)=true:=by simp
  rw[if_pos yz]
  refine wpAny_setField g7 g8 sz (wpAny_throw (k _ ⟨λb o e=>?_,na,?_,?_⟩ λb o e nf=>?_))
  ·refine(ot b λz=>?_).trans (st b o e)
   rw[z,g5] at e
   cases e
  ·exact Heap.FunFrames.of_keeps (λb o e nf=>⟨o,(ot b (nr b o e nf)).trans e,rfl⟩) ff
  ·exact⟨oe,vs,T,_,_,(ot ad (Ne.symm g6)).trans g1,g2,g3,g4,g5,g6,Heap.get?_update_self _ g7 (Obj.isFreed_of_fields (Obj.data_mapFields g8 _)),Obj.data_mapFields g8 _,by simp [sz]⟩
  ·exact⟨o.slots,(ot b (nr b o e nf)).trans e⟩
 first
  | exact wpAny_bind (wpAny_pure (wpAny_bind fin))
  | exact wpAny_bind fin
theorem leave_held {en:Env} {r:List Env} {Q:Unit->Shared->Prop} (hf:en.frame=some L) (hh:Heap.HeldW B (en::r) ad cls a0 L s.heap)
  (k:∀h',Heap.FlyingW B r ad cls a0 h'->s.heap.UpToSlots h'->Q () {s with heap:=h'}):wpAny M A (leaving en (.ref ad)) Q E s:=by
 have lands:wpAny M A (setFlight (.ref ad) none) Q E s:=wpAny_landsW hh λh' fl up=>by
  obtain⟨p1,p2,p3,p4⟩:=fl
  exact k h' ⟨p1,p2,p3.2.2,p4⟩ up
 unfold leaving
 exact wpAny_bind (wpAny_noteFrame_againW hf hh.2.2.2 lands)
end
section
variable {P : Program} {w : World} {K : PySem.W.Frag} {mg : Str -> Option Value} {base : Heap} {N : List Str} {qual : Str} {scope : Scope} {f : Addr} {bZ : Value} {A : Around} {outer : List Env} {s0 : Shared} {H0 : Hp} {E : XK}
theorem B2 {N':List Str} {vH:Scope} {cl:List (Str×Addr)} {C:Addr} {fp:List Addr} {FC FD:List (Addr×Obj)} {σD σ4:St} {H2 H4 H':Hp} {s2 s4 s':Shared} {ad:Addr} {cls:Value} {QE:Value->Shared->Prop} {ce:Env}
  (I2:Inv (di (bO P w) P w K mg base N qual scope f bZ A outer s0 H0 E) FC σD H2 s2) (hC:s2.heap.objs.size<C) (f2:∀b∈fp,jt (di (bO P w) P w K mg base N qual scope f bZ A outer s0 H0 E) FC H2 b)
  (I4:Inv (kA (di (bO P w) P w K mg base N qual scope f bZ A outer s0 H0 E) N' vH cl C s2 H2 fp) FD σ4 H4 s4) (F:D5 P w (envOfC qual scope s0.heap.objs.size f bZ::outer) H4 s4 H' ad cls s') (he:E cls none H')
  (XF:ce.frame=some s0.heap.objs.size):
  wpAny (model P w) (A.deeper (envOfC qual scope s0.heap.objs.size f bZ)) (noteFrame (.ref ad) (compEnvC vH cl C (envOfC qual scope s0.heap.objs.size f bZ)))
   (λ_ s5=>∃m,s5.heap.Ns C m/\∀h',Heap.SameBut C s5.heap h'->wpAny (model P w) (A.deeper (envOfC qual scope s0.heap.objs.size f bZ)) (PySem.passOn "comprehension.variables-let-go" (.ref ad) ce:Sem Value) (λ_ _=>False)
    (di (bO P w) P w K mg base N qual scope f bZ A outer s0 H0 E).xe {s5 with heap:=h'}) QE s':=by
 generalize IZ:envOfC qual scope s0.heap.objs.size f bZ=en at *
 have Ol:en.frame=some s0.heap.objs.size:=by rw[<-IZ];rfl
 have Fx:dz (en::outer)=s0.heap.objs.size::dz outer:=by unfold dz;rw[aa0,Ol]
 have D0:Un (dz outer) [] H0 H2 s0.heap s2.heap:=I2.base
 have D2:Un (dz (en::outer)) fp H2 H4 s2.heap s4.heap:=by rw[<-IZ];exact I4.base
 have D4:Un (dz (en::outer)) [] H4 H' s4.heap s'.heap:=F.un
 have ST:s2.heap.FunFrames base (en::outer):=by rw[<-IZ];exact I2.stack
 have xN:∀b o,s0.heap.get? b=some o->b∉dz outer->b∉dz (en::outer):=λb o q hb z=>by
  rw[Fx] at z
  rcases List.mem_cons.mp z with z | z
  ·rw[z] at q
   exact absurd (Heap.lt_size q) (aaA _)
  ·exact hb z
 have J6:∀b o,s0.heap.get? b=some o->b∉fp:=λb o q z=>by
  rcases(f2 b z).2.2.2.1 with m | m
  ·exact absurd (show b∈([]:List Addr) from m) (by simp)
  ·exact absurd (Heap.lt_size q) (Nat.not_lt.mpr m)
 have Vn:∀b∈dz (en::outer),b∉fp:=λb hb z=>by
  have q:=(f2 b z)
  rw[Fx] at hb
  rcases List.mem_cons.mp hb with e | e
  ·exact q.2.1 (by rw[e];rfl)
  ·exact q.2.2.1 e
 have Vo:∀b∈dz (en::outer),∃o,s2.heap.get? b=some o/\(∀us,o.data≠.fields us):=λb hb=>by
  obtain⟨_,o,q,nf⟩:=ST.mem hb
  exact⟨o,q,nf⟩
 have Om:C∉dz (en::outer):=λz=>by
  obtain⟨o,q,_⟩:=Vo C z
  exact absurd (aaM (Heap.lt_size q) hC) (aaA _)
 have JY:∀b∈dz (en::outer),H2 b=none:=λb hb=>I2.o9 b (by show b∈dz (envOfC qual scope s0.heap.objs.size f bZ::outer);rw[IZ];exact hb)
 obtain⟨B,a0,fl,c0,c2,c1⟩:=F.fl
 obtain⟨m4,XG,_⟩:=I4.loc
 obtain⟨oC,es,ep,MY,dC,rC⟩:=XG
 have MY:s4.heap.get? C=some oC:=MY
 have MX:H4 C=none:=I4.free
 have XH:s'.heap.get? C=some oC:=D4.keep C oC MY MX Om (by simp)
 have XI:H' C=none:=D4.free C oC MY MX (by simp)
 have G3:∀b o,(hideAll B [C]).get? b=some o->B.get? b=some o/\b≠C:=λb o q=>⟨of_hideAll _ q,λz=>by
  rw[z,hideAll_none [C] aai] at q
  cases q⟩
 have Oo:∀b o,B.get? b=some o->b≠C->(hideAll B [C]).get? b=some o:=λb o q n=>hideAll_get _ q (by simpa using n)
 have fl:Heap.FlyingW (hideAll B [C]) (en::outer) ad cls a0 s'.heap:=flyingW_base (λb o q=>(G3 b o q).1) fl
 rw[Az (e2:=en) (show(compEnvC vH cl C en).frame=en.frame from rfl)]
 refine wpAny_looks_onW (L:=s0.heap.objs.size) (by rw[<-IZ];exact I2.ok.frames) Ol fl λh5 J7 MZ=>?_
 have Vp:h5.Ns C m4:=MZ.ns ⟨oC,es,ep,XH,dC,rC⟩
 refine⟨m4,Vp,λh6 J8=>?_⟩
 have J9:Heap.HeldW (hideAll B [C]) (en::outer) ad cls a0 s0.heap.objs.size h6:=by
  obtain⟨q1,q2,q3,oe,vs,T,oT,ts,g1,g2,g3,g4,g5,g6,g7,g8,g9⟩:=J7
  obtain⟨o5,es5,ep5,e5,d5,_⟩:=Vp
  have Oq:ad≠C:=λz=>by
   rw[z,e5] at g1
   cases g1
   rw[d5] at g3
   cases g3
  have nT:T≠C:=λz=>by
   rw[z,e5] at g7
   cases g7
   rw[d5] at g8
   cases g8
  exact⟨λb o q=>(J8.2 b (G3 b o q).2).trans (q1 b o q),q2,pY J8 q3 Om,oe,vs,T,oT,ts,(J8.2 ad Oq).trans g1,g2,g3,g4,g5,g6,(J8.2 T nT).trans g7,g8,g9⟩
 refine AA J9 XF λh7 Ka XJ=>?_
 show wpAny (model P w) (A.deeper (envOfC qual scope s0.heap.objs.size f bZ)) (leaving (envOfC qual scope s0.heap.objs.size f bZ) (.ref ad)) (λ_ q9=>bO P w outer H0 s0 E (.ref ad) q9) (λe' q9=>bO P w outer H0 s0 E e' q9) _
 rw[IZ]
 refine leave_held Ol Ka λh8 Kb XM=>?_
 have XN:∀b∈dz (en::outer),∀o,s'.heap.get? b=some o->(∀us,o.data≠.fields us)->∃sl,h8.get? b=some {o with slots:=sl}:=λb hb o q nf=>by
  have nb:b≠C:=λz=>Om (by rw[<-z];exact hb)
  obtain⟨x1,q1⟩:=MZ b o q nf
  have q2:=(J8.2 b nb).trans q1
  obtain⟨x3,q3⟩:=XJ b _ q2 nf
  obtain⟨x4,q4⟩:=XM b _ q3 nf
  exact⟨x4,q4⟩
 have slot:∀b o,s2.heap.get? b=some o->b∈dz (en::outer)->∃sl,h8.get? b=some {o with slots:=sl}:=λb o q hb=>by
  obtain⟨o',q',nf⟩:=Vo b hb
  rw[q] at q'
  cases q'
  obtain⟨x1,q1⟩:=D2.slot b o q (JY b hb) hb (Vn b hb)
  obtain⟨x2,q2⟩:=D4.slot b _ q1 (D2.free b o q (JY b hb) (Vn b hb)) hb (by simp)
  obtain⟨x3,q3⟩:=XN b hb _ q2 nf
  exact⟨x3,q3⟩
 have low:∀b o,s2.heap.get? b=some o->b≠C:=λb o q=>aaj (aaM (Heap.lt_size q) hC)
 have FE:∀b o,s0.heap.get? b=some o->H0 b=none->b∉dz outer->(hideAll B [C]).get? b=some o:=λb o q n hb=>by
  have q1:=D0.keep b o q n hb (by simp)
  have n1:=D0.free b o q n (by simp)
  have q2:=D2.keep b o q1 n1 (xN b o q hb) (J6 b o q)
  exact Oo b o (c0 b o q2 (D2.free b o q1 n1 (J6 b o q)) (xN b o q hb)) (low b o q1)
 have B3:∀b o,s0.heap.get? b=some o->b∉dz outer->∃o',(hideAll B [C]).get? b=some o':=λb o q hb=>by
  obtain⟨o1,q1⟩:=D0.there b o q (by simp)
  obtain⟨o2,q2⟩:=D2.there b o1 q1 (J6 b o q)
  obtain⟨o3,q3⟩:=c2 b o2 q2 (xN b o q hb)
  exact⟨o3,Oo b o3 q3 (low b o1 q1)⟩
 have Vq:∀b u o,H' b=some u->s'.heap.get? b=some o->(hideAll B [C]).get? b=some o:=λb u o e q=>Oo b o (c1 b u o e q) λz=>by
  rw[z,XI] at e
  cases e
 refine⟨ad,cls,H',rfl,⟨(F.os.trans I4.os).trans I2.os,F.bare,⟨λb o q n hb hx=>Kb.1 b o (FE b o q n hb),λb o q n hb hx=>?_,λb o q n hx=>?_,λb o q hx=>?_,λb xs q=>D4.gO b xs (D2.gO b xs (D0.gO b xs q)),λb o u q=>D4.gw b o u (D2.gw b o u (D0.gw b o u q)),λb ps q=>?_⟩,F.bP.G3 Vq Kb.1,
  ⟨hideAll B [C],a0,Kb,FE,B3,λb u o e q=>?_⟩⟩,he⟩
 ·obtain⟨x1,q1⟩:=D0.slot b o q n hb hx
  obtain⟨x2,q2⟩:=slot b _ q1 (by rw[Fx];exact aag _ hb)
  exact⟨x2,q2⟩
 ·have q1:=(D0.there b o q hx).choose_spec
  have n1:=D0.free b o q n hx
  obtain⟨o2,q2⟩:=D2.there b _ q1 (J6 b o q)
  exact D4.free b o2 q2 (D2.free b _ q1 n1 (J6 b o q)) hx
 ·by_cases hb:b∈dz outer
  ·obtain⟨o1,q1⟩:=D0.there b o q hx
   obtain⟨x2,q2⟩:=slot b o1 q1 (by rw[Fx];exact aag _ hb)
   exact⟨_,q2⟩
  ·obtain⟨o1,q1⟩:=B3 b o q hb
   exact⟨o1,Kb.1 b o1 q1⟩
 ·obtain⟨m1,e1⟩:=D0.iu b ps q
  obtain⟨m2,e2⟩:=D2.iu b _ e1
  obtain⟨m3,e3⟩:=D4.iu b _ e2
  exact⟨m1++m2++m3,by rw[e3,Array.append_assoc,Array.append_assoc,Array.append_assoc]⟩
 ·obtain⟨o1,q1⟩:=(F.bP b u e).get
  have q2:=Vq b u o1 e q1
  have q3:=Kb.1 b o1 q2
  rw[q] at q3
  cases q3
  exact q2
noncomputable def Ot (X:Cx) (N':List Str) (vH:Scope) (E:XK):List (Str×Addr)->Addr->Shared->Hp->List Addr->Value->Shared->Prop:=λcl C s H ex e s'=>
 ∃pins σ H4 s4,Inv (kA X N' vH cl C s H ex) pins σ H4 s4/\bO X.prog X.w X.stack H4 s4 E e s'
theorem B4 {N':List Str} {vH:Scope} {cl:List (Str×Addr)} {C:Addr} {s:Shared} {H:Hp} {ex:List Addr}:
  dM (bO P w) ((kA (di (bO P w) P w K mg base N qual scope f bZ A outer s0 H0 E) N' vH cl C s H ex).js (Ot (di (bO P w) P w K mg base N qual scope f bZ A outer s0 H0 E) N' vH E cl C s H ex)) E:=
 λpins σ H4 s4 _ _ I c=>⟨pins,σ,H4,s4,I.eM,c⟩
theorem B5 {elt target iter:Expr} {ifs:List Expr} {vH so:Scope} {pos:Pos} {wi:TI} {g:TG} {tc:TT} {te:TE} {k:Nat} {fr:List Nat} {N1 N':List Str} (hc:(di (bO P w) P w K mg base N qual scope f bZ A outer s0 H0 E).calm=true) (hN:N=N1)
  (JZ:(di (bO P w) P w K mg base N qual scope f bZ A outer s0 H0 E).env.scope=so) (S:d7 N1 so N' vH k fr) (hi:PI (di (bO P w) P w K mg base N qual scope f bZ A outer s0 H0 E) target iter wi)
  (hg:∀cl C s H ex,PG (kA (di (bO P w) P w K mg base N qual scope f bZ A outer s0 H0 E) N' vH cl C s H ex) target g) (ht:∀cl C s H ex,Fy (kA (di (bO P w) P w K mg base N qual scope f bZ A outer s0 H0 E) N' vH cl C s H ex) ifs tc)
  (he:∀cl C s H ex,PE ((kA (di (bO P w) P w K mg base N qual scope f bZ A outer s0 H0 E) N' vH cl C s H ex).js (Ot (di (bO P w) P w K mg base N qual scope f bZ A outer s0 H0 E) N' vH E cl C s H ex)) elt te)
  (hs:∀x,foldedSetIterable iter (di (bO P w) P w K mg base N qual scope f bZ A outer s0 H0 E).env x=pure x:=by intro _;rfl):
  PE (di (bO P w) P w K mg base N qual scope f bZ A outer s0 H0 E) (.ListComp elt [⟨target,iter,ifs,0⟩] vH pos) (tComp wi g tc te k fr):=by
 subst hN JZ
 intro pins s σ H Q I h
 rw[eval_ListComp]
 obtain⟨cl,iC,c1,c2,c3⟩:=gm (env:=(di (bO P w) P w K mg base N qual scope f bZ A outer s0 H0 E).env) (scope:=vH) λn hn=>I.ok.has n (S.outer _ hn rfl)
 refine Ay (cl:=cl) rfl hs iC S.kind S.locs ?_
 refine cw (hi pins s σ H _ I h) λv s1 h1=>cw h1 λDK s2 h2=>?_
 obtain⟨it,fp,tn,J,H2,rfl,I2,T,xh,f2,hb⟩:=h2
 refine wpAny_newObj_type (fX ?_)
 refine vA (XE:=Ot (di (bO P w) P w K mg base N qual scope f bZ A outer s0 H0 E) N' vH E) hc S c1 c2 (λx c m=>⟨x,(c3 x c m).1⟩) (λx hx c m=>(S.D9 _ hx rfl).2 (c3 x c m).2) hg ht he I2 T xh f2 hb ?_ ?_
 ·intro C e s' m ys bz n H' hC hn vl sz hD nD nC fin os bare un bP
  subst e
  exact⟨m,hn,λh' uR=>⟨.ref _,_,comp_back I2 f2 hC vl sz hD nD nC os bare un bP uR,rfl,fin _ (I2.bP.fresh (aaf _)) nD⟩⟩
 ·rintro cl' C x s' e hC ⟨FD,σ4,H4,s4,I4,ad,cls,H',rfl,F,Bd⟩
  subst e
  exact B2 I2 hC f2 I4 F Bd rfl
end
end L2
namespace L2
open PySem PySem.Spec PyProof.Rows PySem.W
section
variable {X : Cx}
end
end L2
namespace L2
open PySem PySem.Spec PyProof.Rows PySem.W
section
variable {X : Cx} {K : PySem.W.Frag}
noncomputable def tSortR (K:PySem.W.Frag) (te:TE):TE:=λσ H Q=>te σ H λv H1=>∃p ns,v=.ref p/\bN K H1 p (List.map V.int ns)/\ns.length<64/\∀l,H1 l=none->Q (.ref l) (upd H1 l (.lst (List.map V.int (Nm.t9 ns).reverse)))
theorem B6 {e d:Expr} {te:TE} {p1 pos kp:Pos} (hg:Gl X "sorted") (hm:X.mg "sorted"=none) (he:PE X e te) (hd:PE X d (tC (.bl true))) (n1:noStar e=true:=by rfl):
  PE X (.Call (.Name "sorted" p1) [e] [⟨some "reverse",d,kp⟩] pos) (tSortR X.K te):=by
 intro pins s σ H Q I h
 refine wpAny_Call_Name_kw (iz I hg hm (u:=.builtin "sorted") rfl ?_ (by decide) (by decide))
 refine PyProof.Rows.callWith_kw (e:=e) (rest:=[]) ?_ (by rw[se n1];rfl) (by rw[se n1];rfl) rfl rfl
 rw[se n1]
 show wpAny _ _ (spliced [(false,eval e X.env)]) _ _ s
 refine Calls.spliced_cons (cw (he pins s σ H _ I h) λu s1 ⟨x,H1,I1,r1,q1⟩=>Calls.spliced_nil ?_)
 refine PyProof.Rows.kws_cons (cw (hd pins s1 σ H1 (λv H2=>v=.bl true/\H2=H1) I1 ⟨rfl,rfl⟩) λdv s2 ⟨y,H2,I2,r2,ey,eh⟩=>PyProof.Rows.kws_nil ?_)
 subst ey
 subst eh
 have r2:dv=.bool true:=r2
 subst r2
 obtain⟨p,ns,rfl,hq,hn,q⟩:=q1
 cases r1
 obtain⟨bz,rv,pl,hz⟩:=I2.list hq
 have hl:=rv.length
 rw[aac] at hl
 show wpAny _ _ (call (.builtin "sorted") [.ref p] [(Str.ofString "reverse",.bool true)]) _ _ _
 refine sorted_ints_rev pl.isList (intsAre_of rv) (by omega) λout J3 a1 a2 a3=>?_
 have a3:J3.Pairwise (·≥·):=a3
 have e3:J3=(Nm.t9 ns).reverse:=by
  have:=Nm.ua ((List.reverse_perm J3).trans a2) (List.pairwise_reverse.mpr a3)
  rw[<-this,List.reverse_reverse]
 subst e3
 obtain⟨e,he⟩:=sortedAll_at s2.heap bz out
 have fr:=I2.bP.fresh (a:=s2.heap.objs.size+1) (Nat.le_succ _)
 refine⟨.ref (s2.heap.objs.size+1),_,I2.laid (t':=s2.toks) (λ_ _=>sortedAll_old) (Nat.le_succ _) (o:=.lst (List.map V.int (Nm.t9 ns).reverse)) ⟨?_,out.toList,e,gU a1,?_⟩,rfl,q _ fr⟩
 ·rw[aac,List.length_reverse,Nm.gT,sizeLine_eq];omega
 ·exact he
theorem AB {e d:Expr} {te:TE} {p1 pos kp:Pos} (hg:Gl X "sorted") (hm:X.mg "sorted"=none) (he:PE X e te) (hd:PE X d (tC (.bl true))) (n1:noStar e=true:=by rfl) (hK:X.K=K:=by rfl):
  PE X (.Call (.Name "sorted" p1) [e] [⟨some "reverse",d,kp⟩] pos) (tSortR K te):=by subst hK;exact B6 hg hm he hd n1
end
end L2
namespace PySem.SeqAt
open AutoSeq1 (wpAny_loadPart')
open MeetsSeq MeetsSeq2 MeetsSeq3
end PySem.SeqAt
namespace L2
open PySem PySem.Spec PyProof.Rows PySem.W
section
variable {X : Cx} {K : PySem.W.Frag}
end
end L2
namespace PySem.UL
section
variable {prog : Program} {w : World} {A : Around} {E : Value -> Shared -> Prop} {s : Shared}
theorem sQ {it t:Addr} {items:Array Value} (Vr:t≠it):∀(n i:Nat) (s:Shared) (Q:List Value->Shared->Prop),s.heap.IsListIter it t i->s.heap.IsList t items->i+n<=items.size->
  (∀h',h'.IsListIter it t (i+n)->Heap.SameBut it s.heap h'->Q ((items.toList.drop i).take n) {s with heap:=h'})->wpAny (model prog w) A (draw (.ref it) n) Q E s
 | 0,i,s,Q,hit,_,_,hQ=>by
  show wpAny _ _ (pure []) Q E s
  exact wpAny_pure (by simpa using hQ s.heap hit (Heap.SameBut.refl ..))
 | n+1,i,s,Q,hit,ht,hle,hQ=>by
  have eW:i<items.size:=by omega
  show wpAny _ _ (pyNext (.ref it) >>=_) Q E s
  refine wpAny_bind (wpAny_pyNext_list_item hit ht (x:=items[i]) (by simp [eW]) λh₁ Hl Kc=>?_)
  refine wpAny_bind (wpAny_holding (sQ Vr n (i+1) _ _ Hl (ht.extBut Kc.extBut Vr) (by omega) λh₂ Ou XO=>wpAny_pure ?_))
  have hd:items.toList.drop i=items[i]::items.toList.drop (i+1):=by simp [List.drop_eq_getElem_cons,eW]
  have:=hQ h₂ (by rw[show i+ (n+1)=i+1+n by omega];exact Ou) (Kc.trans XO)
  rw[hd,List.take_succ_cons] at this
  exact this
theorem mY {t:Addr} {items:Array Value} {Q:List Value->Shared->Prop} (hh:A.handled=none) (ht:s.heap.IsList t items)
  (hQ:∀h',Heap.ExtBut s.heap.objs.size s.heap h'->Q items.toList {s with heap:=h'}):wpAny (model prog w) A (unpackItems (.ref t) items.size none) Q E s:=by
 have eW:t≠s.heap.objs.size:=by obtain⟨o,ho,_⟩:=ht;exact aaj (Heap.lt_size ho)
 unfold unpackItems
 refine wpAny_bind ?_
 ·unfold notIterableAtAll
  refine wpAny_bind (wpAny_specialOf ht.typeIs slot_list_iter.lookup ?_)
  refine wpAny_pure ?_
  simp only[Bool.false_eq_true,if_false]
  refine wpAny_bind (wpAny_holding (wpAny_pyIter_list ht ?_))
  refine wpAny_bind (wpAny_holding (sQ eW items.size 0 _ _ ⟨_,Heap.get?_push_size _ rfl,rfl,rfl⟩ (ht.push _) (by omega) λh₁ Hl Kc=>?_))
  have vv:List.take items.size (List.drop 0 items.toList)=items.toList:=by
   rw[List.drop_zero];exact aaE (by simp)
  rw[vv]
  rw[if_neg (by simp)]
  have XQ:h₁.IsList t items:=(ht.push _).extBut Kc.extBut eW
  refine wpAny_bind (wpAny_holding (wpAny_pyNext_list_end hh Hl XQ (by simp) λh₂ XR=>?_))
  simp only[Option.isSome_none,Bool.false_eq_true,if_false]
  refine wpAny_pure (hQ h₂ λb o hb e=>XR b o hb (Kc.extBut b o hb (Heap.get?_push_of_some _ e)))
theorem vI {t:Addr} {items:Array Value} {targets:List (Bool×(Value->Sem Unit))} {Q:Unit->Shared->Prop} (hh:A.handled=none) (ht:s.heap.IsList t items)
  (hn:targets.length=items.size) (B7:targets.findIdx? (·.1)=none)
  (h:∀h',Heap.ExtBut s.heap.objs.size s.heap h'->wpAny (model prog w) A (assignInOrder (targets.map (·.2)) items.toList) Q E {s with heap:=h'}):
  wpAny (model prog w) A (unpack (.ref t) targets) Q E s:=by
 unfold unpack
 rw[hn,B7]
 exact wpAny_bind (wpAny_holding (mY hh ht h))
theorem assign_Tuple_list {env:Env} {elts:List Expr} {x1} {pos:Pos} {t:Addr} {items:Array Value} {Q:Unit->Shared->Prop} (hh:A.handled=none) (ht:s.heap.IsList t items)
  (hn:(assignEach elts env).length=items.size) (B7:(assignEach elts env).findIdx? (·.1)=none)
  (h:∀h',Heap.ExtBut s.heap.objs.size s.heap h'->wpAny (model prog w) A (assignInOrder ((assignEach elts env).map (·.2)) items.toList) Q E {s with heap:=h'}):
  wpAny (model prog w) A (assign (.Tuple elts x1 pos) env (.ref t)) Q E s:=by
 rw[PyProof.Rows.assign_Tuple]
 exact wpAny_bind (wpAny_standAt (vI hh ht hn B7 h))
end
theorem gA {α:Type}:∀l:List α,(List.range l.length).filterMap (λk=>l[k]?)=l
 | []=>rfl
 | a::r=>by
  rw[aar,List.range_succ_eq_map,aa0]
  simp only[List.getElem?_cons_zero]
  rw[List.filterMap_map]
  have:=gA r
  simpa [Function.comp_def] using this
end PySem.UL
namespace L2
open PySem PySem.Spec PyProof.Rows PySem.W
section
variable {X : Cx} {K : PySem.W.Frag}
noncomputable def Kf (K:PySem.W.Frag) (n:Nat) (t:Br):TG:=λv σ H Q=>∃a xs,v=.ref a/\bN K H a xs/\xs.length=n/\t xs σ H Q
theorem Hm {es:List Expr} {k:Nat} {t:Br} {n:Nat} {pos:Pos} (hc:X.calm=true) (h:Fm X es t)
  (hn:(assignEach es X.env).length=n:=by rfl) (hst:(assignEach es X.env).findIdx? (·.1)=none:=by rfl):PG X (.Tuple es k pos) (Kf X.K n t):=by
 intro pins s σ H v u Q I r hw
 obtain⟨a,xs,e1,hq,hl,hw⟩:=hw
 subst e1
 cases r
 obtain⟨bz,rv,ht,hz⟩:=I.list hq
 refine PySem.UL.assign_Tuple_list (I.ok.hd hc) ht.isList (by simp [hn,<-hl,rv.length]) hst λh' hx=>?_
 have I1:Inv X pins σ H {s with heap:=h'}:=I.kept (t':=s.toks) λb o e=>hx b o (aaj (Heap.lt_size e)) e
 exact h pins _ σ H xs _ Q I1 (by simpa using rv) hw
theorem Eo {es:List Expr} {k:Nat} {t:Br} {n:Nat} {pos:Pos} (hc:X.calm=true) (h:Fm X es t)
  (hn:(assignEach es X.env).length=n:=by rfl) (hst:(assignEach es X.env).findIdx? (·.1)=none:=by rfl) (hK:X.K=K:=by rfl):PG X (.Tuple es k pos) (Kf K n t):=by subst hK;exact Hm hc h hn hst
end
end L2
namespace L2
open PySem PySem.Spec PyProof.Rows
structure pZ (P:Program) (w:World) (K:PySem.W.Frag) (mg:Str->Option Value) (base:Heap) (CX:ox) (k:Nat) (x:Str) (C:Addr) (ps:List Str) (sp:Sp):Prop where
 ex:∃f fd,Mk K C f/\fk P w K mg base CX k f fd ps sp/\mg x=some (.ref C)/\Binds K fd ps []
section
variable {X : Cx}
theorem Kg {CX:ox} {k:Nat} {x:Str} {C:Addr} {ps:List Str} {sp:Sp} {E:XK} {e:Expr} {es:List Expr} {t:TA} {p pos:Pos} (M:pZ X.prog X.w X.K X.mg X.base CX k x C ps sp) (hr:dh (k+1) X.A) (hg:Gl X x) (hx:dM CX X E) (ha:PA X (e::es) t)
  (pI:(x==("__debug__":Str))=false:=by decide) (he:starEach (e::es) X.env=(false,eval e X.env)::starEach es X.env:=by rfl) (hpl:(backTo pos (starEach es X.env)).any (·.1)=false:=by rfl):
  PE X (.Call (.Name x p) (e::es) [] pos) (si C sp [] E t):=by
 obtain⟨f,fd,m,F,hm,hb⟩:=M.ex
 exact DR m F hr hg hm hb .nil hx ha pI he hpl
end
structure M0 (K:PySem.W.Frag) (mg:Str->Option Value) (x qual:Str) (st:Stmt) (C:Addr):Prop where
 ex:∃f fd,xK K "__init__" qual st f fd/\Mk K C f/\mg x=some (.ref C)
theorem M0.eO {P:Program} {w:World} {K:PySem.W.Frag} {mg:Str->Option Value} {base:Heap} {CX:ox} {x qual:Str} {st:Stmt} {C:Addr} {ps:List Str} {k:Nat} {sp:Sp} (D:M0 K mg x qual st C)
  (hb:∀(kV doc pm:Value) (an:Option Addr) (bZ ct:Value) (us:List Value),us.length=ps.length->bindArgs (PySem.W.fnOf "__init__" qual (bg st) (bc st) (aw st) .none kV doc pm an bZ ct) ⟨us,[]⟩=pure (ps.zip us))
  (h:∀f fd,xK K "__init__" qual st f fd->fk P w K mg base CX k f fd ps sp):pZ P w K mg base CX k x C ps sp:=by
 obtain⟨f,fd,F,m,hm⟩:=D.ex
 exact⟨f,fd,m,h f fd F,hm,F.binds hb⟩
end L2
namespace L2
open PySem PySem.Spec PyProof.Rows
noncomputable instance Ja:DecidableEq PyData:=λ_ _=>Classical.propDecidable _
mutual
noncomputable def c5:PyData->Bool
 | .int _=>true
 | .str x=>PyData.canLay0 (.str x)
 | .tuple xs=>iF xs
 | _=>false
noncomputable def iF:List PyData->Bool
 | []=>true
 | x::xs=>c5 x && iF xs
end
mutual
theorem gX:∀(d:PyData),c5 d=true->d.canLay0=true
 | .none,h=>by simp [c5] at h
 | .bool _,h=>by simp [c5] at h
 | .int _,_=>by simp [PyData.canLay0]
 | .str x,h=>by rw[c5] at h;exact h
 | .list _,h=>by simp [c5] at h
 | .tuple xs,h=>by rw[c5] at h;rw[PyData.canLay0];exact vJ xs h
 | .dict _,h=>by simp [c5] at h
theorem vJ:∀(xs:List PyData),iF xs=true->PyData.canLayAll0 xs=true
 | [],_=>by simp [PyData.canLayAll0]
 | x::xs,h=>by
  rw[iF,aaJ] at h
  rw[PyData.canLayAll0,aaJ]
  exact⟨gX x h.1,vJ xs h.2⟩
end
mutual
theorem xW:∀(x y:PyData),c5 x=true->c5 y=true->PyData.eqv x y=decide (x=y)
 | .int i,y,_,hy=>by
  cases y with
  | int j=>
   rw[PyData.eqv]
   by_cases c:i=j
   ·subst c;simp
   ·rw[decide_eq_false (λe=>c (by injection e))]
    simp [c]
  | str _=>simp [PyData.eqv]
  | tuple _=>simp [PyData.eqv]
  | _=>simp [c5] at hy
 | .str a,y,_,hy=>by
  cases y with
  | str b=>
   rw[PyData.eqv]
   by_cases c:a=b
   ·subst c;simp
   ·rw[decide_eq_false (λe=>c (by injection e))]
    simp [c]
  | int _=>simp [PyData.eqv]
  | tuple _=>simp [PyData.eqv]
  | _=>simp [c5] at hy
 | .tuple xs,y,hx,hy=>by
  cases y with
  | tuple ys=>
   rw[c5] at hx hy
   rw[PyData.eqv,zu xs ys hx hy]
   by_cases c:xs=ys
   ·subst c;simp
   ·rw[decide_eq_false c,decide_eq_false (λe=>c (by injection e))]
  | int _=>simp [PyData.eqv]
  | str _=>simp [PyData.eqv]
  | _=>simp [c5] at hy
 | .none,_,h,_=>by simp [c5] at h
 | .bool _,_,h,_=>by simp [c5] at h
 | .list _,_,h,_=>by simp [c5] at h
 | .dict _,_,h,_=>by simp [c5] at h
theorem zu:∀(xs ys:List PyData),iF xs=true->iF ys=true->PyData.eqvAll xs ys=decide (xs=ys)
 | [],[],_,_=>by simp [PyData.eqvAll]
 | [],_::_,_,_=>by simp [PyData.eqvAll]
 | _::_,[],_,_=>by simp [PyData.eqvAll]
 | x::xs,y::ys,hx,hy=>by
  rw[iF,aaJ] at hx hy
  rw[PyData.eqvAll,xW x y hx.1 hy.1,zu xs ys hx.2 hy.2]
  by_cases c:x=y
  ·subst c
   by_cases d:xs=ys
   ·subst d;simp
   ·rw[decide_eq_false d,decide_eq_false (λe=>d (List.cons.inj e).2)];simp
  ·rw[decide_eq_false c,decide_eq_false (λe=>c (List.cons.inj e).1)];simp
end
mutual
theorem p8 {h h':Heap} {d:Addr} {o:Obj} {es ep} (ho:h.get? d=some o) (hd:o.data=.dict es ep) (hs:Heap.SameBut d h h'):∀(x:PyData) (v:Value) (as:List Addr),c5 x=true->Reads h v x as->Reads h' v x as
 | .int _,_,_,_,r=>by cases r;exact .int _ _
 | .str _,_,_,_,r=>by cases r;exact .str _ _
 | .tuple xs,_,_,hx,r=>by
  rw[c5] at hx
  cases r with
  | @tuple a o' vs n _ _ e c q t=>
   have ne:a≠d:=λz=>by
    subst z
    rw[ho] at e
    cases e
    rw[hd] at q
    cases q
   exact .tuple ((hs.2 a ne).trans e) c q (oF ho hd hs xs _ _ hx t)
 | .none,_,_,h,_=>by simp [c5] at h
 | .bool _,_,_,h,_=>by simp [c5] at h
 | .list _,_,_,h,_=>by simp [c5] at h
 | .dict _,_,_,h,_=>by simp [c5] at h
theorem oF {h h':Heap} {d:Addr} {o:Obj} {es ep} (ho:h.get? d=some o) (hd:o.data=.dict es ep) (hs:Heap.SameBut d h h'):∀(xs:List PyData) (vs:List Value) (as:List Addr),iF xs=true->ReadsAll h vs xs as->ReadsAll h' vs xs as
 | [],_,_,_,r=>by cases r;exact .nil
 | x::xs,_,_,hx,r=>by
  rw[iF,aaJ] at hx
  cases r with
  | cons r1 r2=>exact .cons (p8 ho hd hs x _ _ hx.1 r1) (oF ho hd hs xs _ _ hx.2 r2)
end
mutual
noncomputable def vK (w:World):PyData->Int
 | .int i=>Gd w (.inl i)
 | .str x=>Gd w (.inr x)
 | .tuple xs=>reduceHash (Builtin.Tuple.tupleHashOf (fY w xs))
 | _=>0
noncomputable def fY (w:World):List PyData->List Int
 | []=>[]
 | x::xs=>vK w x::fY w xs
end
mutual
noncomputable def Kh:PyData->Nat
 | .tuple xs=>qa xs+1
 | _=>1
noncomputable def qa:List PyData->Nat
 | []=>0
 | x::xs=>Kh x+qa xs
end
section
variable {prog : Program} {w : World}
noncomputable def PH (prog:Program) (w:World) (m:Nat) (h:Heap) (d:PyData) (v:Value):Prop:=∀(A:Around) (E:Value->Shared->Prop) (s:Shared) (Q:Int->Shared->Prop),s.heap=h->A.units+m<cLine->
 Q (vK w d) {s with toks:=s.toks+Kh d}->wpAny (model prog w) A (pyHash v) Q E s
inductive FF (prog:Program) (w:World) (m:Nat) (h:Heap):List PyData->List Value->Prop
 | nil:FF prog w m h [] []
 | cons {d v ds vs}:PH prog w m h d v->FF prog w m h ds vs->FF prog w m h (d::ds) (v::vs)
theorem AD (xs ys:List PyData):fY w (xs++ys)=fY w xs++fY w ys:=by
 induction xs with
 | nil=>simp [fY]
 | cons x xs ih=>simp [fY,ih]
theorem B8 (xs ys:List PyData):qa (xs++ys)=qa xs+qa ys:=by
 induction xs with
 | nil=>simp [qa]
 | cons x xs ih=>simp [qa,ih,Nat.add_assoc]
theorem B9 {m:Nat} {h:Heap} {ds:List PyData} {a:Addr} {o:Obj} {items n} (ho:h.get? a=some o) (hc:o.cls=.type "tuple") (hd:o.data=.seq items n) (hi:FF prog w m h ds items.toList):PH prog w (m+1) h (.tuple ds) (.ref a):=by
 intro A E s Q hh hu hq
 subst hh
 have hT:s.TypeIs (.ref a) "tuple":=⟨o,ho,hc⟩
 have XS:A.units<cLine:=by omega
 unfold pyHash
 first | unfold pyHashByItsType | skip
 first | refine wpAny_bind (wpAny_cRoomFor_or (.inr XS) ?_) | skip
 refine wpAny_bind (wpAny_specialOf hT F.slot_tuple_hash.lookup ?_)
 show wpAny _ _ (if (some (Value.builtin "tuple.__hash__")==some Value.none)=true then _ else _) Q E s
 rw[if_neg (by rw[beq_builtin_none];exact aau)]
 refine wpAny_bind (wpAny_specialOf hT F.slot_tuple_hash.lookup ?_)
 show wpAny _ _ (callSpecialIfBoundUnlessNone? (.ref a) "__hash__" _ >>=_) Q E s
 refine wpAny_bind (wpAny_callSpecialIfBoundUnlessNone?_slot hT F.slot_tuple_hash (wpAny_call_entry F.slot_tuple_hash hT F.entry_tuple_hash ?_ (F.args_tuple_hash_1 _)))
 show wpAny _ _ (Builtin.Tuple.tupleItemsOf (.ref a) >>=_) _ _ s
 refine wpAny_bind (wpAny_tupleItemsOf ho hd ?_)
 refine wpAny_bind ?_
 rw[<-Array.forIn_toList]
 refine wpAny_forIn_list _
  (λrest (b:Array Int) s'=>∃done left,ds=done++left/\FF prog w m s.heap left rest/\b.toList=fY w done/\s'={s with toks:=s.toks+qa done})
  _ ?_ ?_ _ _ ⟨[],ds,rfl,hi,rfl,rfl⟩
 ·rintro x rest b s' ⟨done,left,rfl,hl,hb,rfl⟩
  cases hl with
  | @cons k _ Vs _ h1 FG=>
   refine wpAny_bind (h1 _ _ _ _ rfl (by show A.units+1+m<cLine;omega) ?_)
   have e1:(b.push (vK w k)).toList=fY w (done++ [k]):=by rw[AD];simp [hb,fY]
   have e2:s.toks+qa done+Kh k=s.toks+qa (done++ [k]):=by rw[B8];simp [qa,Nat.add_assoc]
   first
    | exact wpAny_pure ⟨done++ [k],Vs,by simp,FG,e1,by rw[<-e2]⟩
    | exact wpAny_bind (wpAny_pure (wpAny_pure ⟨done++ [k],Vs,by simp,FG,e1,by rw[<-e2]⟩))
 ·rintro b s' ⟨done,left,rfl,hl,hb,rfl⟩
  cases hl
  rw[aaV] at hq
  show wpAny _ _ (retInt (Builtin.Tuple.tupleHashOf b.toList)) _ _ _
  rw[hb]
  refine wpAny_ret_mkInt ?_
  show wpAny _ _ (if (decide (-(2:Int)^63<=Builtin.Tuple.tupleHashOf (fY w done)) && decide (Builtin.Tuple.tupleHashOf (fY w done)<2^63))=true then _ else _) Q E _
  rw[vK,Kh] at hq
  unfold reduceHash at hq
  by_cases hr:(decide (-(2:Int)^63<=Builtin.Tuple.tupleHashOf (fY w done)) && decide (Builtin.Tuple.tupleHashOf (fY w done)<2^63))=true
  ·rw[if_pos hr]
   rw[if_pos hr] at hq
   exact wpAny_pure (by simpa [Nat.add_assoc] using hq)
  ·rw[if_neg hr]
   rw[if_neg hr] at hq
   exact wpAny_bind (wpAny_rule (wpAny_pure (by simpa [Nat.add_assoc] using hq)))
mutual
theorem Ca {h:Heap}:∀(d:PyData) (v:Value) (as:List Addr),c5 d=true->Reads h v d as->PH prog w d.depth h d v
 | .int i,_,_,_,r=>by
  cases r with
  | int _ t=>
   intro A E s Q _ _ hq
   exact(b8 prog w).pyHash (k:=.inl i) (lM (k:=.inl i) ⟨t,rfl⟩) hq
 | .str x,_,_,_,r=>by
  cases r with
  | str _ t=>
   intro A E s Q _ _ hq
   exact(b8 prog w).pyHash (k:=.inr x) (lM (k:=.inr x) ⟨t,rfl⟩) hq
 | .tuple xs,_,_,hx,r=>by
  rw[c5] at hx
  cases r with
  | tuple e c q t=>exact B9 e c q (zw xs _ _ hx t)
 | .none,_,_,h,_=>by simp [c5] at h
 | .bool _,_,_,h,_=>by simp [c5] at h
 | .list _,_,_,h,_=>by simp [c5] at h
 | .dict _,_,_,h,_=>by simp [c5] at h
theorem zw {h:Heap}:∀(ds:List PyData) (vs:List Value) (as:List Addr),iF ds=true->ReadsAll h vs ds as->FF prog w (PyData.depthAll ds) h ds vs
 | [],_,_,_,r=>by cases r;exact .nil
 | x::xs,_,_,hx,r=>by
  rw[iF,aaJ] at hx
  cases r with
  | cons r1 r2=>
   have p1:=Ca x _ _ hx.1 r1
   have p2:=zw xs _ _ hx.2 r2
   have up:∀{m m':Nat} {ds:List PyData} {vs:List Value},m<=m'->FF prog w m h ds vs->FF prog w m' h ds vs:=λl q=>by
    induction q with
    | nil=>exact .nil
    | cons p _ ih=>exact .cons (λA E s Q e u=>p A E s Q e (by omega)) ih
   refine .cons (λA E s Q e u=>p1 A E s Q e ?_) (up ?_ p2)
   ·rw[PyData.depthAll] at u
    omega
   ·rw[PyData.depthAll]
    omega
end
theorem vL {h:Heap} {k:Nat} {a:Addr} {o:Obj} {items n} (ho:h.get? a=some o) (hc:o.cls=.type "tuple") (hd:o.data=.seq items n) (hi:∀v∈items.toList,∀(A:Around) (E:Value->Shared->Prop) (s:Shared) (Q:Bool->Shared->Prop),s.heap=h->Q true s->wpAny (model prog w) A (eqIsQuiet k v) Q E s)
  (A:Around) (E:Value->Shared->Prop) (s:Shared) (Q:Bool->Shared->Prop) (hh:s.heap=h) (hq:Q true s):wpAny (model prog w) A (eqIsQuiet (k+1) (.ref a)) Q E s:=by
 subst hh
 have hT:s.TypeIs (.ref a) "tuple":=⟨o,ho,hc⟩
 unfold eqIsQuiet
 refine wpAny_bind (wpAny_specialOf hT F.slot_tuple_eq.lookup ?_)
 show wpAny _ _ (isInstance (.ref a) (.type "tuple") >>=_) _ _ s
 refine wpAny_bind (wpAny_isInstance hT isSubtype_tuple_tuple ?_)
 simp only[Bool.not_true,Bool.false_eq_true,if_false]
 refine wpAny_bind (wpAny_seqItems ho hd ?_)
 refine wpAny_bind ?_
 show wpAny _ _ (forIn items _ _) _ _ s
 rw[<-Array.forIn_toList]
 refine wpAny_forIn_list _ (λrest r s'=>r.1=none/\s'=s/\∀v∈rest,v∈items.toList) _ ?_ ?_ _ _ ⟨rfl,rfl,λ_ h=>h⟩
 ·rintro v rest r s' ⟨hr,rfl,vv⟩
  refine wpAny_bind (hi v (vv v aai) _ _ _ _ rfl ?_)
  simp only[Bool.not_true,Bool.false_eq_true,if_false]
  exact wpAny_pure ⟨rfl,rfl,λu XT=>vv u (aag _ XT)⟩
 ·rintro⟨r1,r2⟩ s' ⟨hr,rfl,_⟩
  simp only at hr
  subst hr
  exact wpAny_pure hq
mutual
theorem sR {h:Heap}:∀(d:PyData) (v:Value) (as:List Addr) (k:Nat),c5 d=true->d.depth<=k->Reads h v d as->∀(A:Around) (E:Value->Shared->Prop) (s:Shared) (Q:Bool->Shared->Prop),s.heap=h->Q true s->wpAny (model prog w) A (eqIsQuiet k v) Q E s
 | .int _,_,_,_,_,_,r=>by
  cases r
  intro A E s Q _ hq
  rw[eqIsQuiet_byValue _ rfl]
  exact wpAny_pure hq
 | .str _,_,_,_,_,_,r=>by
  cases r
  intro A E s Q _ hq
  rw[eqIsQuiet_byValue _ rfl]
  exact wpAny_pure hq
 | .tuple xs,_,_,k,hx,hk,r=>by
  rw[c5] at hx
  rw[PyData.depth] at hk
  cases k with
  | zero=>omega
  | succ k=>
   cases r with
   | tuple e c q t=>exact vL e c q (qb xs _ _ k hx (by omega) t)
 | .none,_,_,_,h,_,_=>by simp [c5] at h
 | .bool _,_,_,_,h,_,_=>by simp [c5] at h
 | .list _,_,_,_,h,_,_=>by simp [c5] at h
 | .dict _,_,_,_,h,_,_=>by simp [c5] at h
theorem qb {h:Heap}:∀(ds:List PyData) (vs:List Value) (as:List Addr) (k:Nat),iF ds=true->PyData.depthAll ds<=k->ReadsAll h vs ds as->∀v∈vs,∀(A:Around) (E:Value->Shared->Prop) (s:Shared) (Q:Bool->Shared->Prop),s.heap=h->Q true s->wpAny (model prog w) A (eqIsQuiet k v) Q E s
 | [],_,_,_,_,_,r=>by
  cases r
  intro v hv
  simp at hv
 | x::xs,_,_,k,hx,hk,r=>by
  rw[iF,aaJ] at hx
  rw[PyData.depthAll] at hk
  cases r with
  | cons r1 r2=>
   intro v hv
   rcases List.mem_cons.mp hv with rfl | hv
   ·exact sR x _ _ k hx.1 (by omega) r1
   ·exact qb xs _ _ k hx.2 (by omega) r2 v hv
end
noncomputable def XU (h:Heap) (k:PyData) (a:Addr):Prop:=c5 k=true/\k.depth<=8/\∃as,Reads h (.ref a) k as
noncomputable def gB (prog:Program) (w:World):HeapKind prog w PyData where
 is:=XU
 hash:=vK w
 draws:=Kh
 room:=λA=>A.units+8<cLine
 inj:=fun⟨hx,_,_,rx⟩ ⟨_,_,_,ry⟩=>SeqAt.Reads.unique _ _ _ _ _ (gX _ hx) rx ry
 keeps:=fun⟨hx,hd,as,r⟩ ho XW hs=>⟨hx,hd,as,p8 ho XW hs _ _ _ hx r⟩
 pyHash:=λhu ⟨hx,hd,_,r⟩ h=>Ca _ _ _ hx r _ _ _ _ rfl (by omega) h
 eqBool:=λ{A E s x y a b Q} hu ⟨hx,dx,_,rx⟩ ⟨hy,dy,_,ry⟩ h=>SeqAt.eqBoolOverData _ _ _ _ _ _ _ _ _ _ _ _ rx ry (gX _ hx) (gX _ hy) (by omega) (by rw[xW _ _ hx hy];exact h)
 quiet:=fun⟨hx,hd,_,r⟩ h=>sR _ _ _ 8 hx hd r _ _ _ _ rfl h
end
end L2
namespace L2
open PySem PySem.Spec PyProof.Rows
mutual
noncomputable def cf:Dat->PyData
 | .de=>.none
 | .bl b=>.bool b
 | .int i=>.int i
 | .str x=>.str x
 | .tup l=>.tuple (d8 l)
 | .lst l=>.list (d8 l)
noncomputable def d8:List Dat->List PyData
 | []=>[]
 | d::ds=>cf d::d8 ds
end
section
variable {P : Program} {w : World} {H : Hp} {h : Heap}
mutual
theorem fH (ok:gi P w H h):∀(d:Dat) (v:V) (u:Value),Rep H d v->RelV v u->∃as,Reads h u (cf d) as
 | .de,v,u,r,q=>by
  rw[Rep] at r
  subst r
  cases (show u=Value.none from q)
  exact⟨_,.none⟩
 | .bl b,v,u,r,q=>by
  rw[Rep] at r
  subst r
  cases (show u=Value.bool b from q)
  exact⟨_,.bool b⟩
 | .int i,v,u,r,q=>by
  rw[Rep] at r
  subst r
  obtain⟨t,rfl⟩:=(show ∃t,u=Value.int i t from q)
  exact⟨_,.int i t⟩
 | .str x,v,u,r,q=>by
  rw[Rep] at r
  subst r
  obtain⟨t,rfl⟩:=(show ∃t,u=Value.str x t from q)
  exact⟨_,.str x t⟩
 | .tup l,v,u,r,q=>by
  rw[Rep] at r
  obtain⟨p,vs,rfl,hp,rl⟩:=r
  cases (show u=Value.ref p from q)
  obtain⟨_,bz,rv,o,h1,h2,n,h3⟩:=(show cm P w H h p (.tup vs) from ok p _ hp)
  obtain⟨as,ra⟩:=mZ ok l vs bz rl rv
  exact⟨as,.tuple h1 h2 h3 (by simpa using ra)⟩
 | .lst l,v,u,r,q=>by
  rw[Rep] at r
  obtain⟨p,vs,rfl,hp,rl⟩:=r
  cases (show u=Value.ref p from q)
  obtain⟨_,bz,n,rv,h1⟩:=(show cm P w H h p (.lst vs) from ok p _ hp)
  obtain⟨as,ra⟩:=mZ ok l vs bz rl rv
  exact⟨p::as,.list h1 rfl rfl (by simpa using ra)⟩
theorem mZ (ok:gi P w H h):∀(ds:List Dat) (vs:List V) (us:List Value),bq H ds vs->bH vs us->∃as,ReadsAll h us (d8 ds) as
 | [],vs,us,r,q=>by
  rw[bq] at r
  subst r
  cases q
  exact⟨_,.nil⟩
 | d::ds,vs,us,r,q=>by
  rw[bq] at r
  obtain⟨v,rest,rfl,r1,r2⟩:=r
  cases q with
  | cons q1 q2=>
   obtain⟨a1,h1⟩:=fH ok d v _ r1 q1
   obtain⟨a2,h2⟩:=mZ ok ds rest _ r2 q2
   exact⟨_,.cons h1 h2⟩
end
end
noncomputable def jx (H:Hp) (d:Dat) (b:Addr):Prop:=c5 (cf d)=true/\(cf d).depth<=8/\Rep H d (.ref b)
theorem jx.mono {H H':Hp} {d:Dat} {b:Addr} (s:aE H H') (k:jx H d b):jx H' d b:=⟨k.1,k.2.1,k.2.2.mono s⟩
theorem jx.is {P:Program} {w:World} {H:Hp} {h:Heap} {d:Dat} {b:Addr} (ok:gi P w H h) (k:jx H d b):(gB P w).is h (cf d) b:=⟨k.1,k.2.1,fH ok d _ _ k.2.2 rfl⟩
abbrev Rows:=List (Dat×Addr×Int)
noncomputable def vM (H:Hp) (ks:Rows):Prop:=∀p∈ks,jx H p.1 p.2.1
theorem vM.mono {H H':Hp} {ks:Rows} (s:aE H H') (k:vM H ks):vM H' ks:=λp hp=>(k p hp).mono s
noncomputable def hZ (ks:Rows) (k:PyData):Option Int:=(ks.find? λp=>decide (cf p.1=k)).map (·.2.2)
abbrev Jb:Rows->List (PyData×Addr×Value)->Prop:=Paired λp q=>cf p.1=q.1/\p.2.1=q.2.1/\∃t,q.2.2=Value.int p.2.2 t
noncomputable def Dp (P:Program) (w:World) (a:Addr) (ks:Rows):HO:=.ext λh=>∃o es ep xs,h.get? a=some o/\o.ExactDict/\o.data=.dict es ep/\es.toList=xs.map (entryOfKey (gB P w))/\(xs.map (·.1)).Nodup/\Jb ks xs/\ks.length<=sizeLine/\(a==sysModules)=false
section
variable {P : Program} {w : World} {H : Hp} {h : Heap} {a : Addr}
theorem Cb {ks:Rows} {xs:List (PyData×Addr×Value)} {o es ep} (h1:h.get? a=some o) (h2:o.ExactDict) (h3:o.data=.dict es ep) (h4:es.toList=xs.map (entryOfKey (gB P w))) (h5:(xs.map (·.1)).Nodup) (h6:Jb ks xs) (h7:ks.length<=sizeLine) (h8:(a==sysModules)=false):cm P w H h a (Dp P w a ks):=
 ⟨⟨o,es,ep,xs,h1,h2,h3,h4,h5,h6,h7,h8⟩,⟨o,h1⟩,λ_ _ ⟨o,es,ep,xs,g1,g⟩ k=>⟨o,es,ep,xs,k _ g1,g⟩⟩
theorem Cc {ks:Rows} (ok:gi P w H h) (e:H a=some (Dp P w a ks)) (al:vM H ks):ks.length<=sizeLine/\(a==sysModules)=false/\∃xs,Jb ks xs/\h.DictOfH (gB P w) a xs:=by
 obtain⟨⟨o,es,ep,xs,g1,g2,g3,g4,g5,g6,g7,g8⟩,_⟩:=(show cm P w H h a (Dp P w a ks) from ok a _ e)
 refine⟨g7,g8,xs,g6,o,es,ep,g1,g2,g3,g4,λx hx=>?_,g5⟩
 have all:∀{l:Rows} {m:List (PyData×Addr×Value)},Jb l m->vM H l->∀x∈m,(gB P w).is h x.1 x.2.1:=by
  intro l m q
  induction q with
  | nil=>intro _ x hx;exact nomatch hx
  | @cons p q ps qs hq t ih=>
   intro al x hx
   rcases List.mem_cons.mp hx with e | hx
   ·subst e
    rw[<-hq.1,<-hq.2.1]
    exact(al p aai).is ok
   ·exact ih (λp hp=>al p (aag _ hp)) x hx
 exact all g6 al x hx
theorem Jb.val {ks:Rows} {xs:List (PyData×Addr×Value)} (r:Jb ks xs) (k:PyData):(hZ ks k=none/\atKey xs k=none)\/∃i t b,hZ ks k=some i/\atKey xs k=some (b,Value.int i t):=by
 induction r with
 | nil=>exact .inl ⟨rfl,rfl⟩
 | @cons p q ps qs h t ih=>
  obtain⟨h1,h2,tk,h3⟩:=h
  by_cases e:cf p.1=k
  ·have e':q.1=k:=h1.symm.trans e
   refine .inr ⟨p.2.2,tk,q.2.1,?_,?_⟩
   ·unfold hZ
    rw[aaD,decide_eq_true e]
    rfl
   ·unfold atKey
    rw[aaD,decide_eq_true e',<-h3]
    rfl
  ·have e':¬q.1=k:=λz=>e (h1.trans z)
   have a1:hZ (p::ps) k=hZ ps k:=by
    unfold hZ
    rw[aaD,decide_eq_false e]
   have a2:atKey (q::qs) k=atKey qs k:=by
    unfold atKey
    rw[aaD,decide_eq_false e']
   rw[a1,a2]
   exact ih
end
noncomputable def Cd (P:Program) (w:World):TE:=λ_ H Q=>∀p,H p=none->Q (.ref p) (upd H p (Dp P w p []))
noncomputable def Ki (P:Program) (w:World) (H:Hp) (x y:V) (o:Option Int):Prop:=∃a b d ks,x=.ref a/\y=.ref b/\H a=some (Dp P w a ks)/\vM H ks/\jx H d b/\o=hZ ks (cf d)
noncomputable def FH (P:Program) (w:World) (td ty:TE):TE:=λσ H Q=>td σ H λx H1=>ty σ H1 λy H2=>∃i,Ki P w H2 x y (some i)/\Q (.int i) H2
noncomputable def zx (P:Program) (w:World) (ty td:TE):TE:=λσ H Q=>ty σ H λy H1=>td σ H1 λx H2=>∃o,Ki P w H2 x y o/\Q (.bl (!o.isSome)) H2
noncomputable def FI (P:Program) (w:World) (td ty tv:TE):TS:=λD σ H=>tv σ H λv H1=>td σ H1 λx H2=>ty σ H2 λy H3=>∃a b d ks i,x=.ref a/\y=.ref b/\v=.int i/\H3 a=some (Dp P w a ks)/\vM H3 ks/\jx H3 d b/\hZ ks (cf d)=none/\ks.length<sizeLine/\D.nx σ (upd H3 a (Dp P w a (ks++ [(d,b,i)])))
section
variable {X : Cx} {P : Program} {w : World} {o i e value : Expr} {pos pos' tQ : Pos} {td ty tv : TE}
theorem Ce (hP:X.prog=P:=by rfl) (hw:X.w=w:=by rfl):PE X (.Dict [] [] pos) (Cd P w):=λpins s σ H Q I h=>by
 subst hP hw
 exact wpAny_Dict_empty ⟨.ref s.heap.objs.size,_,I.laid (a:=s.heap.objs.size) (o:=Dp X.prog X.w s.heap.objs.size []) (t':=s.toks) (λ_ _ q=>Heap.get?_push_of_some _ q) (aaf _) (Cb (xs:=[]) (Heap.get?_push_size _ rfl) ⟨rfl,rfl,rfl⟩ rfl rfl List.nodup_nil .nil (aak _) (beq_eq_false_iff_ne.mpr (Ne.symm (aaj I.JP)))),rfl,h _ (I.bP.fresh (aaf _))⟩
theorem Cf {A:Around} (hu:A.units+64<cLine):(gB P w).room A.in1:=(by show A.units+1+8<cLine;omega)
theorem Ep (hu:X.A.units+64<cLine) (ho:PE X o td) (hi:PE X i ty) (hs:GP i) (hP:X.prog=P:=by rfl) (hw:X.w=w:=by rfl):PE X (.Subscript o i pos) (FH P w td ty):=by
 subst hP hw
 intro pins s σ H Q I h
 refine zd PySem.F.slot_dict_getitem.lookup hs (cw (ho pins s σ H _ I h) λu s1 ⟨x,H1,I1,rx,q1⟩=>cw (hi pins s1 σ H1 _ I1 q1) λiv s2 ⟨y,H2,I2,ry,j,⟨a,b,d,ks,ex,ey,ea,al,kn,lo⟩,q2⟩=>?_)
 subst ex ey
 obtain rfl:u=Value.ref a:=rx
 obtain rfl:iv=Value.ref b:=ry
 obtain⟨z,hd,xs,rel,dd⟩:=Cc I2.bP ea al
 refine⟨dd.typeIs,?_⟩
 rcases rel.val (cf d) with ⟨l1,_⟩ | ⟨j',t,b',l1,l2⟩
 ·rw[l1] at lo
  cases lo
 ·rw[l1] at lo
  cases lo
  exact wpAny_getItem_heap (Cf hu) (kn.is I2.bP) dd l2 ⟨.int j,H2,I2.tok _,⟨t,rfl⟩,q2⟩
theorem AE (hu:X.A.units+64<cLine) (hi:PE X i ty) (ho:PE X o td) (hP:X.prog=P:=by rfl) (hw:X.w=w:=by rfl):PC X .NotIn i o (zx P w ty td):=by
 subst hP hw
 intro pins s σ H Q I h
 refine cw (hi pins s σ H _ I h) λiv s1 ⟨y,H1,I1,ry,q1⟩=>cw (ho pins s1 σ H1 _ I1 q1) λu s2 ⟨x,H2,I2,rx,ov,⟨a,b,d,ks,ex,ey,ea,al,kn,lo⟩,q2⟩=>?_
 subst ex ey
 obtain rfl:u=Value.ref a:=rx
 obtain rfl:iv=Value.ref b:=ry
 obtain⟨z,hd,xs,rel,dd⟩:=Cc I2.bP ea al
 refine wpAny_notIn_heap (Cf hu) (kn.is I2.bP) hd dd ?_
 have:(atKey xs (cf d)).isSome=ov.isSome:=by
  rcases rel.val (cf d) with ⟨l1,l2⟩ | ⟨j',t,b',l1,l2⟩
  ·rw[lo,l1,l2]
   rfl
  ·rw[lo,l1,l2]
   rfl
 rw[this]
 exact⟨.bl (!ov.isSome),H2,I2.tok _,rfl,q2⟩
theorem Er (hu:X.A.units+64<cLine) (ho:PE X o td) (hi:PE X i ty) (hv:PE X value tv) (hs:swapsWith value (some (.Subscript o i pos')) pos.line X.env=pure false) (hP:X.prog=P:=by rfl) (hw:X.w=w:=by rfl):
  PS X (.Assign [.Subscript o i pos'] value pos) (FI P w td ty tv):=by
 subst hP hw
 intro pins s σ H D I h
 refine wpAny_Assign_Subscript (cw (hv pins s σ H _ I h) λr s1 ⟨v,H1,I1,rv,q1⟩=>cw (ho pins s1 σ H1 _ I1 q1) λu s2 ⟨x,H2,I2,rx,q2⟩=>cw (hi pins s2 σ H2 _ I2 q2) λiv s3 ⟨y,H3,I3,ry,a,b,d,ks,j,ex,ey,ev,ea,al,kn,lo,ln,q3⟩=>?_) hs
 subst ex ey ev
 obtain rfl:u=Value.ref a:=rx
 obtain rfl:iv=Value.ref b:=ry
 obtain⟨t,rfl⟩:=(show ∃t,r=Value.int j t from rv)
 obtain⟨z,hd,xs,rel,dd⟩:=Cc I3.bP ea al
 have hz:xs.length<=sizeLine:=by rw[<-Paired.length rel];exact z
 have la:atKey xs (cf d)=none:=by
  rcases rel.val (cf d) with ⟨l1,l2⟩ | ⟨j',t,b',l1,l2⟩
  ·exact l2
  ·rw[l1] at lo
   cases lo
 refine wpAny_setItem_heap (hsz:=hz) (Cf hu) (kn.is I3.bP) dd λh' Bb hs=>⟨σ,_,?_,q3⟩
 rw[storedH_new la] at Bb
 obtain⟨q,es,ep,hq,h2,h3,h4,_,h5⟩:=Bb
 exact pe I3 (by rw[ea];exact True.intro) hs ⟨q,hq⟩ (Cb hq h2 h3 h4 h5 (Paired.snoc rel ⟨rfl,rfl,t,rfl⟩) (by rw[aan];exact ln) hd)
end
end L2
namespace L2
open PySem PySem.Spec PyProof.Rows PySem.W
section
variable {X : Cx} {K : PySem.W.Frag}
noncomputable def Kd (d:Dat):Prop:=c5 (cf d)=true/\(cf d).depth<=8
theorem m7 {P:Program} {w:World} {H:Hp} {h:Heap} (ok:gi P w H h) {ds:List Dat} {xs:List V} {us:List Value} (r:bq H ds xs) (v:bH xs us) {i:Nat} {u:Value} (e:us[i]?=some u):∃d as,ds[i]?=some d/\Reads h u (cf d) as:=by
 have l1:=r.length
 have l2:=v.length
 have hi:=(List.getElem?_eq_some_iff.mp e).1
 have ex:xs[i]?=some (xs[i]'(by omega)):=aap (by omega)
 obtain⟨u',e1,rv⟩:=v.get ex
 rw[e] at e1
 cases e1
 obtain⟨d,ed,rd⟩:=r.get ex
 obtain⟨as,ra⟩:=fH ok d _ _ rd rv
 exact⟨d,as,ed,ra⟩
theorem Hn {A:Around} {s:Shared} {a b:PyData} {u v:Value} {as bs:List Addr} (ra:Reads s.heap u a as) (rb:Reads s.heap v b bs) (ha:c5 a=true) (hb:c5 b=true) (da:a.depth<=8) (db:b.depth<=8) (hu:A.units+8<cLine):SeqAt.EqAt A s u v (decide (a=b)):=λprog w E Q h=>
 SeqAt.eqBoolOverData _ _ _ _ _ _ _ _ _ _ _ _ ra rb (gX _ ha) (gX _ hb) (by omega) (by rw[xW _ _ ha hb];exact h)
noncomputable def AF:V->List V->Hp->VK->Prop:=λx vs H Q=>∃l xs ds v d i,x=.ref l/\vs=[v]/\H l=some (.lst xs)/\bq H ds xs/\(∀e∈ds,Kd e)/\Rep H d v/\Kd d/\(ds.map cf)[i]?=some (cf d)/\(∀j,j<i->(ds.map cf)[j]?≠some (cf d))/\i<100000/\Q (.int (i:Nat)) H
theorem ji (hu:X.A.units+64<cLine):GF X "list.index" AF:=by
 classical
 intro pins s σ H x vs v us Q I rx rv h
 obtain⟨l,xs,ds,y,d,i,rfl,rfl,hp,rd,xy,Ov,hd,hi,NT,i6,q⟩:=h
 cases rx
 obtain⟨u,rfl,ru⟩:=vals1 rv
 obtain⟨bz,r,pl,hz⟩:=I.list (bN.of hp)
 obtain⟨as,ra⟩:=fH I.bP d y u Ov ru
 have l1:=rd.length
 have l2:=r.length
 have dec:∀{u e bs},e∈ds->Reads s.heap u (cf e) bs->decide (∃cs,Reads s.heap u (cf d) cs)=decide (cf e=cf d):=λ{u e bs} he re=>by
  by_cases c:cf e=cf d
  ·rw[decide_eq_true c,decide_eq_true ⟨bs,by rw[<-c];exact re⟩]
  ·rw[decide_eq_false c,decide_eq_false]
   rintro⟨cs,rc⟩
   exact c (SeqAt.Reads.unique _ _ _ _ _ (gX _ (xy e he).1) re rc)
 have at_:∀(j:Nat) (hj:j<bz.length),∃e bs,ds[j]?=some e/\e∈ds/\Reads s.heap bz[j] (cf e) bs:=λj hj=>by
  obtain⟨e,bs,ed,re⟩:=m7 I.bP rd r (aap hj)
  exact⟨e,bs,ed,aal ed,re⟩
 have XX:i<bz.length:=by
  have:=(List.getElem?_eq_some_iff.mp hi).1
  rw[aac] at this
  omega
 obtain⟨⟨c1,d1,d2,sl⟩,ho,e1,m,e2⟩:=pl.isList
 cases e1
 cases e2
 have hit:decide (∃cs,Reads s.heap bz[i] (cf d) cs)=true:=by
  obtain⟨e,bs,ed,he,re⟩:=at_ i XX
  rw[dec he re]
  rw[aad,ed] at hi
  exact decide_eq_true (aaI hi)
 refine call_meets PySem.F.slot_list_index ⟨_,ho,rfl⟩ PySem.F.entry_list_index (PySem.F.args_list_index_2 _ _) (PySem.SeqAt.list_indexAt l bz.toArray m d1 sl u (λu=>decide (∃cs,Reads s.heap u (cf d) cs)) i (by rw[aam];omega) (by omega) hit (λj hj hl=>?_)) ⟨ho,λy hy=>?_,⟨.int _,H,I.tok _,⟨_,rfl⟩,q⟩⟩
 ·rw[aam] at hj
  obtain⟨e,bs,ed,he,re⟩:=at_ j hj
  show decide (∃cs,Reads s.heap bz[j] (cf d) cs)=false
  rw[dec he re]
  refine decide_eq_false λz=>NT j hl ?_
  rw[aad,ed]
  exact congrArg some z
 ·obtain⟨j,ej⟩:=List.getElem?_of_mem (List.mem_toArray.mp hy)
  obtain⟨e,bs,ed,re⟩:=m7 I.bP rd r ej
  have he:=aal ed
  show SeqAt.EqAt _ _ _ _ (decide _)
  rw[dec he re]
  exact Hn re ra (xy e he).1 hd.1 (xy e he).2 hd.2 (by show X.A.units+1+8<cLine;omega)
end
end L2
namespace L2
open PySem PySem.Spec PyProof.Rows
structure b5 (P:Program) (w:World) (K:PySem.W.Frag) (mg:Str->Option Value) (base:Heap) (CX:ox) (k:Nat) (C:Addr) (m:Str) (ps:List Str) (sp:Sp):Prop where
 ex:∃f fd,BA K C m f/\fk P w K mg base CX k f fd ps sp/\Binds K fd ps []
section
variable {X : Cx} {CX : ox} {k : Nat} {C : Addr} {m : Str} {ps : List Str} {sp : Sp} {E : XK} {e o : Expr} {es : List Expr} {ta : TE} {t : TA} {pos apos : Pos} {pl : Sem Bool}
theorem c7 (M:b5 X.prog X.w X.K X.mg X.base CX k C m ps sp) (c:y4 X.K C) (he:PE X o ta) (hr:dh k X.A) (hx:dM CX X E) (ha:PA X (e::es) t)
  (hst:starEach (e::es) X.env=(false,eval e X.env)::starEach es X.env:=by rfl) (hpl:(backTo pos (starEach es X.env)).any (·.1)=false:=by rfl)
  (ht:eval (.Call (.Attribute o m apos) (e::es) [] pos) X.env=(do
   let ov <-eval o X.env
   standAt apos.atName
   let (f,first) <-holding [ov] (getMethod ov m pl)
   callWith pos f first (backTo pos (starEach (e::es) X.env)) (backToKw pos (keywordEach [] X.env))):=by rfl):
  PE X (.Call (.Attribute o m apos) (e::es) [] pos) (cK C m sp [] E ta t):=by
 obtain⟨f,fd,hm,F,hb⟩:=M.ex
 exact DQ he c hm F hr hb .nil hx ha hst hpl ht
theorem Ho (M:b5 X.prog X.w X.K X.mg X.base CX k C m ps sp) (c:y4 X.K C) (he:PE X o ta) (hr:dh k X.A) (hx:dM CX X E)
  (ht:eval (.Call (.Attribute o m apos) [] [] pos) X.env=(do
   let ov <-eval o X.env
   standAt apos.atName
   let (f,first) <-holding [ov] (getMethod ov m pl)
   callWith pos f first (backTo pos (starEach [] X.env)) (backToKw pos (keywordEach [] X.env))):=by rfl):
  PE X (.Call (.Attribute o m apos) [] [] pos) (cK C m sp [] E ta tNil):=by
 obtain⟨f,fd,hm,F,hb⟩:=M.ex
 exact BB he c hm F hr hb .nil hx ht
theorem Hq {x:Str} {p:Pos} (M:pZ X.prog X.w X.K X.mg X.base CX k x C ps sp) (hr:dh (k+1) X.A) (hg:Gl X x) (hx:dM CX X E) (pI:(x==("__debug__":Str))=false:=by decide):
  PE X (.Call (.Name x p) [] [] pos) (si C sp [] E tNil):=by
 obtain⟨f,fd,m,F,hm,hb⟩:=M.ex
 exact BC m F hr hg hm hb .nil hx pI
end
structure xX (K:PySem.W.Frag) (C:Addr) (m qual:Str) (st:Stmt):Prop where
 ex:∃f fd,xK K m qual st f fd/\BA K C m f
theorem xX.eO {P:Program} {w:World} {K:PySem.W.Frag} {mg:Str->Option Value} {base:Heap} {CX:ox} {m qual:Str} {st:Stmt} {C:Addr} {ps:List Str} {k:Nat} {sp:Sp} (D:xX K C m qual st)
  (hb:∀(kV doc pm:Value) (an:Option Addr) (bZ ct:Value) (us:List Value),us.length=ps.length->bindArgs (PySem.W.fnOf m qual (bg st) (bc st) (aw st) .none kV doc pm an bZ ct) ⟨us,[]⟩=pure (ps.zip us))
  (h:∀f fd,xK K m qual st f fd->fk P w K mg base CX k f fd ps sp):b5 P w K mg base CX k C m ps sp:=by
 obtain⟨f,fd,F,hm⟩:=D.ex
 exact⟨f,fd,hm,h f fd F,F.binds hb⟩
end L2
namespace L2
open PySem PySem.Spec PyProof.Rows PySem.W
mutual
noncomputable def j4:PyData->Bool
 | .none=>true
 | .int _=>true
 | .str x=>PyData.canLay0 (.str x)
 | .tuple xs=>eG xs
 | .list xs=>eG xs
 | _=>false
noncomputable def eG:List PyData->Bool
 | []=>true
 | x::xs=>j4 x && eG xs
end
mutual
theorem jj:∀(d:PyData),j4 d=true->d.canLay0=true
 | .none,_=>by simp [PyData.canLay0]
 | .bool _,h=>by simp [j4] at h
 | .int _,_=>by simp [PyData.canLay0]
 | .str x,h=>by rw[j4] at h;exact h
 | .list xs,h=>by rw[j4] at h;rw[PyData.canLay0];exact qd xs h
 | .tuple xs,h=>by rw[j4] at h;rw[PyData.canLay0];exact qd xs h
 | .dict _,h=>by simp [j4] at h
theorem qd:∀(xs:List PyData),eG xs=true->PyData.canLayAll0 xs=true
 | [],_=>by simp [PyData.canLayAll0]
 | x::xs,h=>by
  rw[eG,aaJ] at h
  rw[PyData.canLayAll0,aaJ]
  exact⟨jj x h.1,qd xs h.2⟩
end
mutual
theorem ud:∀(x y:PyData),j4 x=true->j4 y=true->PyData.eqv x y=decide (x=y)
 | .none,y,_,hy=>by cases y <;>simp [PyData.eqv]
 | .int i,y,_,hy=>by
  cases y with
  | int j=>
   rw[PyData.eqv]
   by_cases c:i=j
   ·subst c;simp
   ·rw[decide_eq_false (λe=>c (by injection e))]
    simp [c]
  | bool _=>simp [j4] at hy
  | _=>simp [PyData.eqv]
 | .str a,y,_,hy=>by
  cases y with
  | str b=>
   rw[PyData.eqv]
   by_cases c:a=b
   ·subst c;simp
   ·rw[decide_eq_false (λe=>c (by injection e))]
    simp [c]
  | _=>simp [PyData.eqv]
 | .tuple xs,y,hx,hy=>by
  cases y with
  | tuple ys=>
   rw[j4] at hx hy
   rw[PyData.eqv,qe xs ys hx hy]
   by_cases c:xs=ys
   ·subst c;simp
   ·rw[decide_eq_false c,decide_eq_false (λe=>c (by injection e))]
  | _=>simp [PyData.eqv]
 | .list xs,y,hx,hy=>by
  cases y with
  | list ys=>
   rw[j4] at hx hy
   rw[PyData.eqv,qe xs ys hx hy]
   by_cases c:xs=ys
   ·subst c;simp
   ·rw[decide_eq_false c,decide_eq_false (λe=>c (by injection e))]
  | _=>simp [PyData.eqv]
 | .bool _,_,h,_=>by simp [j4] at h
 | .dict _,_,h,_=>by simp [j4] at h
theorem qe:∀(xs ys:List PyData),eG xs=true->eG ys=true->PyData.eqvAll xs ys=decide (xs=ys)
 | [],[],_,_=>by simp [PyData.eqvAll]
 | [],_::_,_,_=>by simp [PyData.eqvAll]
 | _::_,[],_,_=>by simp [PyData.eqvAll]
 | x::xs,y::ys,hx,hy=>by
  rw[eG,aaJ] at hx hy
  rw[PyData.eqvAll,ud x y hx.1 hy.1,qe xs ys hx.2 hy.2]
  by_cases c:x=y
  ·subst c
   by_cases d:xs=ys
   ·subst d;simp
   ·rw[decide_eq_false d,decide_eq_false (λe=>d (List.cons.inj e).2)];simp
  ·rw[decide_eq_false c,decide_eq_false (λe=>c (List.cons.inj e).1)];simp
end
section
variable {X : Cx} {K : PySem.W.Frag}
noncomputable def Ke (d:Dat):Prop:=j4 (cf d)=true/\(cf d).depth<=8
theorem Hr {A:Around} {s:Shared} {a b:PyData} {u v:Value} {as bs:List Addr} (ra:Reads s.heap u a as) (rb:Reads s.heap v b bs) (ha:j4 a=true) (hb:j4 b=true) (da:a.depth<=8) (db:b.depth<=8) (hu:A.units+8<cLine):SeqAt.EqAt A s u v (decide (a=b)):=λprog w E Q h=>
 SeqAt.eqBoolOverData _ _ _ _ _ _ _ _ _ _ _ _ ra rb (jj _ ha) (jj _ hb) (by omega) (by rw[ud _ _ ha hb];exact h)
theorem FJ {s:Shared} {ds:List Dat} {d:Dat} (xy:∀e∈ds,Ke e) {u:Value} {e:Dat} {bs:List Addr} [Decidable (∃cs,Reads s.heap u (cf d) cs)] (he:e∈ds) (re:Reads s.heap u (cf e) bs):decide (∃cs,Reads s.heap u (cf d) cs)=decide (cf e=cf d):=by
 by_cases c:cf e=cf d
 ·rw[decide_eq_true c,decide_eq_true ⟨bs,by rw[<-c];exact re⟩]
 ·rw[decide_eq_false c,decide_eq_false]
  rintro⟨cs,rc⟩
  exact c (SeqAt.Reads.unique _ _ _ _ _ (jj _ (xy e he).1) re rc)
noncomputable def vN (b:Bool):R2:=λx y H Q=>∃d e,Rep H d x/\Rep H e y/\Ke d/\Ke e/\Q (.bl (if b=true then decide (cf d=cf e) else !decide (cf d=cf e))) H
theorem kD (hu:X.A.units+64<cLine):oi X (compareOp .NotEq) (vN false):=by
 intro pins s σ H x y v u Q I rx ry h
 obtain⟨d,e,h1,h2,k1,k2,q⟩:=h
 obtain⟨as,ra⟩:=fH I.bP d x v h1 rx
 obtain⟨bs,rb⟩:=fH I.bP e y u h2 ry
 have:=k1.2
 have:=k2.2
 refine SeqAt.compareNe_reads ra rb (jj _ k1.1) (jj _ k2.1) (by omega) ⟨.bl _,H,I,rfl,?_⟩
 rw[ud _ _ k1.1 k2.1]
 exact q
end
end L2
namespace L2
open PySem PySem.Spec PyProof.Rows PySem.W
section
variable {X : Cx} {pins : List (Addr × Obj)} {σ : St} {H H' : Hp} {s s' : Shared}
theorem Es {ad:Addr} {cls:Value} {cx:Str} {np D8:Pos} {b₀:Stmt} {sJ:List Stmt} {ts:TS} {C2:Addr} {D:Ends} (I:Inv X pins σ H s) (F:D5 X.prog X.w X.stack H s H' ad cls s')
  (hst:X.stack=X.env::X.outer) (hf:X.env.frame=some X.env.locals) (hg:Gl X cx) (hm:X.mg cx=some (.ref C2)) (hx:exmOne X.K cls (.ref C2)=some true) (hs:va (X.mark ad) (b₀::sJ) ts)
  (h:ts D σ (upd H' ad (N9 ad cls))) (pI:(cx==("__debug__":Str))=false:=by decide):
  wpAny (model X.prog X.w) X.A (noteFrame (.ref ad) X.env) (λ_ s₂=>wpAny (model X.prog X.w) X.A (setFlight (.ref ad) none)
   (λ_ s₃=>wpAny (model X.prog X.w) X.A (handleBy (.ref ad) X.env [.ExceptHandler (some (.Name cx np)) none (b₀::sJ) D8]) (SP X pins D) X.xe s₃) X.xe s₂) X.xe s':=by
 obtain⟨B,a0,fl,c0,c2,c1⟩:=F.fl
 have Vt:=fl
 rw[hst] at Vt
 refine wpAny_looks_onW (I.ok.frames.trans (by rw[hst])) hf Vt λh4 Kj XY=>?_
 refine wpAny_landsW Kj λh5 Ow MZ=>?_
 have U5:s'.heap.UpToSlots h5:=XY.trans MZ
 have I5:Inv X pins σ H' {s' with heap:=h5}:=F.inv I fl c0 c2 c1 Ow.1 U5
 obtain⟨ob,XZ,Ox⟩:=Ow.there
 refine wpAny_handleBy_cons (codeAny_handlers_test (gP (X:=X.mark ad) (I5.mark ad) hg hm ?_ pI)) (by intro q;cases q)
 have LT:Looks (model X.prog X.w) h5 (typeOf (.ref ad)) cls:=by
  subst Ox
  exact(Looks.ld XZ).andThen .now
 refine(exm_one I5.lF LT hx).here ?_
 refine codeAny_handlers_suite ?_
 refine lands_againW Ow λh6 Vu X0=>?_
 have I6:Inv X pins σ H' {s' with heap:=h6}:=F.inv I fl c0 c2 c1 Vu.1 (U5.trans X0)
 obtain⟨oe,vs,he,X1,X2,_⟩:=Vu.first
 have I7:Inv X pins σ (upd H' ad (N9 ad cls)) {s' with heap:=h6}:=I6.adopt I F.new F.tracked ⟨oe,he⟩ ⟨oe,vs,he,X1,X2⟩ λh1 h2 ⟨o,ws,e1,e2,e3⟩ k=>⟨o,ws,k o e1,e2,e3⟩
 refine wpAny_mono (hs pins _ _ _ _ (I7.mark ad) h) (λfw s8 hq=>?_) λ_ _ z=>z.elim
 cases fw with
 | next=>
  obtain⟨σ8,H8,I9,q8⟩:=hq
  exact⟨σ8,H8,I9.unmark I.ok,q8⟩
 | brk=>
  obtain⟨σ8,H8,I9,q8⟩:=hq
  exact⟨σ8,H8,I9.unmark I.ok,q8⟩
 | cont=>
  obtain⟨σ8,H8,I9,q8⟩:=hq
  exact⟨σ8,H8,I9.unmark I.ok,q8⟩
 | ret u=>
  obtain⟨v8,σ8,H8,I9,r8,q8⟩:=hq
  exact⟨v8,σ8,H8,I9.unmark I.ok,r8,q8⟩
end
section
variable {X : Cx} {k : Nat} {x : Str} {ps : List Str} {sp : Sp} {e : Expr} {es : List Expr} {t : TA} {p pos : Pos}
noncomputable def FK (K:PySem.W.Frag) (C2:Addr) (ts:TS) (D:Ends) (σ:St):XK:=λcls _ H2=>exmOne K cls (.ref C2)=some true/\∀ad,H2 ad=none->ts D σ (upd H2 ad (N9 ad cls))
noncomputable def Cg (K:PySem.W.Frag) (sp:Sp) (t:TA) (j:Nat) (C2:Addr) (ts:TS):TS:=λD σ H=>t σ H λvs H1=>sp vs H1 (λv H2=>D.nx (σ.set j (some v)) H2) (FK K C2 ts D σ)
variable {cx : Str} {np D8 G4 tQ : Pos} {b₀ : Stmt} {sJ : List Stmt} {ts : TS} {C2 : Addr}
theorem Ci {y:Str} {j:Nat} {Kk:Pos} (C:cS X.prog X.w X.K X.mg X.base (bO X.prog X.w) k x ps sp) (hr:dh k X.A) (hg:Gl X x) (ha:PA X.IV (e::es) t) (hst:X.stack=X.env::X.outer) (hf:X.env.frame=some X.env.locals)
  (X3:Gl X cx) (hm:X.mg cx=some (.ref C2)) (hN:X.N.Nodup) (hj:X.N[j]?=some y) (hy:X.env.scope.names.lookup y=some .local) (hs:∀ad,va (X.mark ad) (b₀::sJ) ts)
  (Of:swapsWith (.Call (.Name x p) (e::es) [] pos) (some (.Name y Kk)) G4.line X.env=pure false:=by rfl) (pI:(x==("__debug__":Str))=false:=by decide) (X4:(cx==("__debug__":Str))=false:=by decide)
  (he:starEach (e::es) X.env=(false,eval e X.env)::starEach es X.env:=by rfl) (hpl:(backTo pos (starEach es X.env)).any (·.1)=false:=by rfl):
  PS X (.Try [.Assign [.Name y Kk] (.Call (.Name x p) (e::es) [] pos) G4] [.ExceptHandler (some (.Name cx np)) none (b₀::sJ) D8] [] [] tQ) (Cg X.K sp t j C2 ts):=by
 intro pins s σ H D I h
 refine wpAny_Try_except (wpAny_execs_cons (wpAny_Assign_Name (cw (D7 C hr hg ha I h (λH1 s1 e1 s' I1 ⟨ad,cls,H',ee,F,hx,q⟩=>?_) pI he hpl) λv s1 ⟨z,H1,I1,r1,q1⟩=>?_) Of))
 ·subst ee
  exact Es I1 F hst hf X3 hm hx (hs ad) (q ad F.tracked) X4
 ·exact pA I1 hN hj (.inl hy) r1 (λs2 I2=>wpAny_execs_nil (wpAny_execs_nil ⟨_,H1,I2,q1⟩)) (.inr hy)
end
end L2
namespace PySem.Dfl
open PySem PyProof.Rows
theorem Et:typeLookup (.type "list") "keys"=pure none:=PySem.am_miss_of_fast (by kernel_rfl)
theorem qg:entryFor table "dict.update.loop"=some Builtin.«dict.update.loop»:=entryFor_of_tree (by kernel_rfl)
theorem gY:plainId "dict.update.loop"=true:=by decide +kernel
section
variable {prog : Program} {w : World} {A : Around} {E : Value -> Shared -> Prop} {s : Shared}
theorem AG {a:Addr} {o:Obj} {xs:Array Value} {k:Nat} {Q:Option Value->Shared->Prop}
  (hx:s.heap.get? a=some o) (hc:o.cls=.type "list") (Cj:o.data=.seq xs k) (hd:o.dict=none) (hA:A.handled=none)
  (h:∀h' tk,(∀b ob,s.heap.get? b=some ob->h'.get? b=some ob)->Q none {s with heap:=h',toks:=tk}):
  wpAny (model prog w) A (getAttr? (.ref a) "keys") Q E s:=by
 obtain⟨c,dct,dat,sl⟩:=o
 simp only at hc Cj hd
 subst hc Cj hd
 obtain⟨hp,g,d,tk,os⟩:=s
 have hT:∀M3,(⟨hp,g,d,M3,os⟩:Shared).TypeIs (.ref a) "list":=λ_=>⟨_,hx,rfl⟩
 have f1:=sub_AttributeError
 have f3:=F.slot_list_getattribute.lookup
 have f4:=F.slot_list_getattribute.bind (.ref a)
 have f5:=am_list_getattr_none
 unfold getAttr? getAttrBy? getAttrBy
 repeat (any_goals (first | assumption | exact hT _ | ((with_reducible show wpAny _ _ (call (Value.builtin "list.__getattribute__") _ _) _ _ _);refine call_meets F.slot_list_getattribute (hT _) am_entry_list_getattribute (F.args_list_getattribute_2 _ _) (meets_getattribute_miss_list a xs k sl "keys" _ Et (by decide) (by size_fits)) ⟨hx,hA,λh' M3 e Vv=>?_⟩) | wp_step))
 obtain⟨t',u',he⟩:=Vv.there
 show wpAny _ _ (getattributeRaised _ _ _ _ _ _ _) _ _ _
 unfold getattributeRaised
 repeat (any_goals (first | assumption | wp_step))
 exact h _ _ Vv.keeps
end
section
variable {prog : Program} {w : World} {K : Type} [DecidableEq K] {knd : KeyKind prog w K} {A : Around} {R : Result -> Shared -> Prop} {I : Addr} {fp wr : List Addr} {G : Array GenState -> Array GenState -> Prop} {n : Nat} {P : Nat -> Value -> Prop} {St : Nat -> Shared -> Prop}
theorem pair_items {A:Around} {E:Value->Shared->Prop} {s:Shared} {t:Addr} {k v:Value} {Q:List Value->Shared->Prop} (ht:s.heap.IsTuple t #[k,v]) (h:Q [k,v] s):wpAny (model prog w) A (Builtin.Dict.pairItems (.ref t)) Q E s:=by
 obtain⟨o,ho,hc,n,hd⟩:=ht
 unfold Builtin.Dict.pairItems
 have hT:s.TypeIs (.ref t) "tuple":=⟨o,ho,hc⟩
 refine wpAny_bind (wpAny_typeOf hT ?_)
 rw[if_pos (by decide)]
 exact wpAny_bind (wpAny_seqItems ho hd (wpAny_pure h))
theorem Ck (W:WalksS prog w A.in1 I fp wr G n P St) (D:Addr) (Vw:D∉fp) (ta:Nat->Addr) (ky vl:Nat->Value) (kk:Nat->K) (Oy:∀i v,P i v->v=.ref (ta i)) (Bx:∀i,i<n->knd.is (kk i) (ky i)=true)
  (M4:∀i,i<n->ta i∉D::wr) (hb:n<=sizeLine):
  ∀(k i:Nat) (s:Shared) (j:Int) (tj:Tok),n - i=k->i<=n->St i s->s.heap.DictOf knd D (merged [] ((List.range i).map λj=>(kk j,vl j)))->(∀j,j<n->s.heap.IsTuple (ta j) #[ky j,vl j])->
   (∀s',Moved (D::wr) G s s'->s'.heap.DictOf knd D (merged [] ((List.range n).map λj=>(kk j,vl j)))->R (.ok (.ret .none)) s')->
   codeAny (model prog w) A (.builtin "dict.update.loop" ⟨[.ref D,.ref I,.int j tj,.none],[]⟩) R s:=by
 have Vx:D∉wr:=λh=>Vw (W.sub _ h)
 intro k
 induction k with
 | zero=>
  intro i s j tj hk hi hst hS Kl hR
  obtain rfl:i=n:=by omega
  refine codeAny_builtin qg ?_
  rw[Around.under_plainId gY _]
  show wpAny _ A.in1 (pyNext (.ref I) >>=_) _ _ s
  refine wpAny_bind (W.done s _ _ hst λs' hm=>?_)
  show wpAny _ _ (Builtin.Dict.addKeywords D [] >>=_) _ _ _
  refine wpAny_bind (wpAny_pure (wpAny_pure (hR s' (hm.mono λb hb=>aag _ hb) ?_)))
  obtain⟨o,es,ep,ho,rest⟩:=hS
  exact⟨o,es,ep,hm.heap D _ Vx ho,rest⟩
 | succ k ih=>
  intro i s j tj hk hi hst hS Kl hR
  have eW:i<n:=by omega
  refine codeAny_builtin qg ?_
  rw[Around.under_plainId gY _]
  show wpAny _ A.in1 (pyNext (.ref I) >>=_) _ _ s
  refine wpAny_bind (W.item i s _ _ eW hst λv s' hP Oz hm=>?_)
  obtain rfl:=Oy i v hP
  have Km:∀j,j<n->s'.heap.IsTuple (ta j) #[ky j,vl j]:=λj hj=>by
   obtain⟨o,ho,r⟩:=Kl j hj
   exact⟨o,hm.heap _ _ (λh=>M4 j hj (aag _ h)) ho,r⟩
  have OA:s'.heap.DictOf knd D (merged [] ((List.range i).map λj=>(kk j,vl j))):=by
   obtain⟨o,es,ep,ho,rest⟩:=hS
   exact⟨o,es,ep,hm.heap D _ Vx ho,rest⟩
  dsimp only
  refine wpAny_bind (wpAny_holding (wpAny_bind (wpAny_tryCatch (pair_items (Km i eW) ?_))))
  dsimp only
  refine wpAny_holding (wpAny_dictSet_pairs (Bx i eW) OA (λh' X5 OB=>?_) ?_)
  ·have e:merged [] ((List.range (i+1)).map λj=>(kk j,vl j))=stored (merged [] ((List.range i).map λj=>(kk j,vl j))) (kk i) (vl i):=by
    simp [merged,List.range_succ,aa1]
   refine wpAny_pure ⟨plainId_quiet gY _,ih (i+1) _ _ _ (by omega) eW (W.frame _ s' _ _ Oz (Nat.le_succ _) λb hb o e=>?_) (by rw[e];exact X5) (λj hj=>?_) λq9 OC OD=>?_⟩
   ·rw[OB.2 b (λh:b=D=>Vw (by rw[<-h];exact hb))];exact e
   ·obtain⟨o,ho,r⟩:=Km j hj
    exact⟨o,(OB.2 _ λh=>M4 j hj (by rw[h];exact aai)).trans ho,r⟩
   ·refine hR q9 (Moved.trans W.gtrans ((hm.mono λb hb=>aag _ hb).then_heap (Nat.le_succ _) λb o hb e=>?_) OC) OD
    rw[OB.2 b (λh:b=D=>hb (by rw[h];exact aai))];exact e
  ·have:=merged_length_le ([]:List (K×Value)) ((List.range i).map λj=>(kk j,vl j))
   rw[aac,aaK] at this
   simp only[aaW,Nat.zero_add] at this
   omega
end
end PySem.Dfl
namespace PySem.Dfl
open PySem PyProof.Rows
section
variable {prog : Program} {w : World} {K : Type} [DecidableEq K] {knd : KeyKind prog w K} {A : Around} {E : Value -> Shared -> Prop} {s : Shared}
set_option maxHeartbeats 1600000 in
theorem call_dict {l:Addr} {o:Obj} {items:Array Value} {nl:Nat} (ta:Nat->Addr) (ky vl:Nat->Value) (kk:Nat->K) {Q:Value->Shared->Prop} (hh:A.handled=none)
  (hl:s.heap.get? l=some o) (hc:o.cls=.type "list") (Cj:o.data=.seq items nl) (X6:o.dict=none) (hit:∀i v,items[i]?=some v->v=Value.ref (ta i)) (Bx:∀i,i<items.size->knd.is (kk i) (ky i)=true)
  (Kl:∀j,j<items.size->s.heap.IsTuple (ta j) #[ky j,vl j]) (hb:items.size<=sizeLine)
  (h:∀(h':Heap) (tk:Nat),h'.DictOf knd s.heap.objs.size (merged [] ((List.range items.size).map λj=>(kk j,vl j)))->
   (∀b o,b<s.heap.objs.size->s.heap.get? b=some o->h'.get? b=some o)->Q (.ref s.heap.objs.size) {s with heap:=h',toks:=tk}):
  wpAny (model prog w) A (call (.type "dict") [.ref l]) Q E s:=by
 refine callType_codes (Q₁:=λobj s₁=>obj=.ref s.heap.objs.size/\s₁={s with heap:=s.heap.push {cls:=.type "dict",data:=.dict #[]}}) F.kt_called_dict (F.kt_typeCall_dict_1 _) F.entry_dict_init (kt_code_dict_new _ ⟨rfl,rfl⟩) ?_
 rintro obj s₁ ⟨rfl,rfl⟩
 have BI:(s.heap.push {cls:=.type "dict",data:=.dict #[]}).DictOf knd s.heap.objs.size []:=Heap.DictOf.new s.heap
 have FG:(s.heap.push {cls:=.type "dict",data:=.dict #[]}).get? l=some o:=Heap.get?_push_of_some _ hl
 have hT:Shared.TypeIs {s with heap:=s.heap.push {cls:=.type "dict",data:=.dict #[]}} (.ref l) "list":=⟨_,FG,hc⟩
 refine⟨BI.typeIs,F.args_dict_init_2 _ _,?_⟩
 unfold Builtin.«dict.__init__»
 refine wpAny_bind ?_
 unfold Builtin.Dict.selfAndRest
 refine wpAny_bind (wpAny_notOrdered_dict BI.typeIs ?_)
 show wpAny _ _ (pure (s.heap.objs.size,[Value.ref l])) _ _ _
 refine wpAny_pure ?_
 show wpAny _ _ (Builtin.Dict.updateFrom "dict.__init__" s.heap.objs.size (.ref l) [] .none) _ _ _
 unfold Builtin.Dict.updateFrom
 refine wpAny_bind (wpAny_typeOf hT ?_)
 rw[if_pos (by decide)]
 refine wpAny_bind (AG FG hc Cj X6 (by simp [hh]) λh1 tk1 M5=>?_)
 rw[if_pos (by rfl)]
 have Vy:Heap.IsList h1 l items:=⟨o,M5 _ _ FG,hc,nl,Cj⟩
 refine wpAny_bind (wpAny_rule (wpAny_bind (wpAny_pyIter_list Vy ?_)))
 refine wpAny_pure ⟨plainId_quiet gY _,?_⟩
 dsimp only
 have Vz:h1.DictOf knd s.heap.objs.size []:=by
  obtain⟨o',es,ep,ho,rest⟩:=BI
  exact⟨o',es,ep,M5 _ _ ho,rest⟩
 have M6:s.heap.objs.size<h1.objs.size:=by
  obtain⟨o',es,ep,ho,rest⟩:=Vz
  exact Heap.lt_size ho
 have VA:l<s.heap.objs.size:=Heap.lt_size hl
 have X7:A.in1.in1.handled=none:=by simp [hh]
 have OE:l≠h1.objs.size:=aaj (aaM VA M6)
 have X8:s.heap.objs.size∉[h1.objs.size,l]:=by
  simp only[aaq,List.mem_singleton,aaw,or_false,not_or]
  exact⟨aaj M6,Nat.ne_of_gt VA⟩
 have M4:∀i,i<items.size->ta i∉s.heap.objs.size::[h1.objs.size]:=λi hi=>by
  obtain⟨_,ho,_⟩:=Kl i hi
  have:=Heap.lt_size ho
  simp only[aaq,List.mem_singleton,aaw,or_false,not_or]
  exact⟨aaj this,aaj (aaM this M6)⟩
 refine Ck (knd:=knd) ((Walks.list X7 _ l OE items).toS) s.heap.objs.size X8 ta ky vl kk (λi v hv=>hit i v hv) Bx M4 hb (items.size - 0) 0 _ 0 0 (by omega) (aak _)
  ⟨⟨_,Heap.get?_push_size _ rfl,rfl,rfl⟩,(Vy.push _)⟩ (Vz.push _) (λj hj=>?_) λs' hm OA=>?_
 ·obtain⟨o',ho,r⟩:=Kl j hj
  exact⟨o',Heap.get?_push_of_some _ (M5 _ _ (Heap.get?_push_of_some _ ho)),r⟩
 ·obtain⟨h',g',d',M3,NR⟩:=s'
  have eg:g'=s.gens:=hm.gens
  have ed:d'=s.drawn:=hm.drawn
  have eo:NR=s.os:=hm.os
  subst eg
  subst ed
  subst eo
  refine⟨rfl,h h' M3 OA λb o hb e=>hm.heap b o ?_ (Heap.get?_push_of_some _ (M5 _ _ (Heap.get?_push_of_some _ e)))⟩
  simp only[aaq,List.mem_singleton,aaw,or_false,not_or]
  exact⟨aaj hb,aaj (aaM hb M6)⟩
end
end PySem.Dfl
namespace L2
open PySem PyProof.Rows
section
variable {X : Cx} {P : Program} {w : World} {K : PySem.W.Frag}
theorem sS {h:Heap}:∀{rows:List (Addr×Key×V)},(∀r∈rows,∃k v,RelV (kV r.2.1) k/\RelV r.2.2 v/\h.IsTuple r.1 #[k,v])->
  ∃zs:List (Value×Value),zs.length=rows.length/\KV (rows.map (·.2)) (List.zipWith (λr z=>(r.2.1,z.2)) rows zs)/\
   ∀(i:Nat) r z,rows[i]?=some r->zs[i]?=some z->RelV (kV r.2.1) z.1/\h.IsTuple r.1 #[z.1,z.2]
 | [],_=>⟨[],rfl,.nil,λi r z e _=>by simp at e⟩
 | r::rs,all=>by
  obtain⟨k,v,h1,h2,h3⟩:=all r aai
  obtain⟨zs,e1,e2,e3⟩:=sS λx hx=>all x (aag _ hx)
  refine⟨(k,v)::zs,by simp [e1],.cons ⟨rfl,h2⟩ e2,λi r' z a b=>?_⟩
  cases i with
  | zero=>
   simp only[List.getElem?_cons_zero,Option.some.injEq] at a b
   subst a b
   exact⟨h1,h3⟩
  | succ i=>
   simp only[List.getElem?_cons_succ] at a b
   exact e3 i r' z a b
theorem vO (hc:X.calm=true):cR X (.type "dict") (λxs H Q=>∃p,∃rows:List (Addr×Key×V),xs=[.ref p]/\bN X.K H p (rows.map λr=>V.ref r.1)/\(∀r∈rows,hX X.K H r.1 [kV r.2.1,r.2.2])/\
  (rows.map (·.2.1)).Nodup/\∀l,H l=none->Q (.ref l) (upd H l (.dK (rows.map (·.2))))):=by
 intro pins s σ H xs us Q I r h
 obtain⟨p,rows,rfl,hq,ht,hn,q⟩:=h
 obtain⟨u,rfl,rx⟩:=vals1 r
 cases rx
 obtain⟨bz,rv,pl,hz⟩:=I.list hq
 obtain⟨ol,nl,e1,e2,e3,e4⟩:=pl
 have hl:=rv.length
 rw[aac] at hl hz
 have fr:=I.bP.fresh (a:=s.heap.objs.size) (aaf _)
 obtain⟨zs,z1,z2,z3⟩:=sS (h:=s.heap) (rows:=rows) λr hr=>by
  obtain⟨is,a,b,_⟩:=I.tuple (ht r hr)
  obtain⟨k,v,rfl,a1,a2⟩:=vals2 a
  exact⟨k,v,a1,a2,b⟩
 have hsz:(bz.toArray).size=rows.length:=by simp [hl]
 have at_:∀i,i< (bz.toArray).size->∃r z,rows[i]?=some r/\zs[i]?=some z:=λi hi=>by
  rw[hsz] at hi
  exact⟨rows[i],zs[i]'(by omega),aap hi,aap (by omega)⟩
 refine PySem.Dfl.call_dict (knd:=b8 X.prog X.w) (o:=ol) (nl:=nl) (items:=bz.toArray) (λi=>(rows.getD i (0,.inl 0,.de)).1) (λi=>(zs.getD i (.none,.none)).1) (λi=>(zs.getD i (.none,.none)).2) (λi=>(rows.getD i (0,.inl 0,.de)).2.1) (I.ok.hd hc) e1 e2 e4 e3
  (λi v hv=>?_) (λi hi=>?_) (λi hi=>?_) (by rw[hsz];exact hz) λh' tk hS hk=>?_
 ·have hi:i<rows.length:=by
   have:=(List.getElem?_eq_some_iff.mp (show bz[i]?=some v by simpa using hv)).1
   omega
  obtain⟨u,a,b⟩:=rv.get (i:=i) (x:=V.ref (rows[i]).1) (by simp [hi])
  rw[show bz[i]?=some v by simpa using hv] at a
  cases a
  cases b
  simp [List.getD,hi]
 ·obtain⟨r,z,a,b⟩:=at_ i hi
  simp only[List.getD,a,b,Option.getD_some]
  exact lM (z3 i r z a b).1
 ·obtain⟨r,z,a,b⟩:=at_ i hi
  simp only[List.getD,a,b,Option.getD_some]
  exact(z3 i r z a b).2
 ·have e:((List.range (bz.toArray).size).map λj=>((rows.getD j (0,.inl 0,.de)).2.1,(zs.getD j (.none,.none)).2))=List.zipWith (λr z=>(r.2.1,z.2)) rows zs:=by
   rw[hsz]
   refine List.ext_getElem (by simp [z1]) λi h1 h2=>?_
   have hi:i<rows.length:=by simpa using h1
   have X9:i<zs.length:=by omega
   simp [List.getD,hi,X9]
  rw[e] at hS
  have nd:((List.zipWith (fun(r:Addr×Key×V) (z:Value×Value)=>(r.2.1,z.2)) rows zs).map (·.1)).Nodup:=by
   have:(List.zipWith (fun(r:Addr×Key×V) (z:Value×Value)=>(r.2.1,z.2)) rows zs).map (·.1)=rows.map (·.2.1):=by
    refine List.ext_getElem (by simp [z1]) λi h1 h2=>?_
    simp
   rw[this]
   exact hn
  rw[merged_nil_of_nodup _ nd] at hS
  exact⟨.ref s.heap.objs.size,_,I.laid (t':=tk) (λb o eb=>hk b o (Heap.lt_size eb) eb) (aaf _) (o:=.dK (rows.map (·.2))) (xI (by rw[aac];exact hz) (beq_eq_false_iff_ne.mpr (Ne.symm (aaj I.JP))) z2 hS),rfl,q _ fr⟩
theorem kG (hc:X.calm=true:=by rfl) (hK:X.K=K:=by rfl):cR X (.type "dict") (λxs H Q=>∃p,∃rows:List (Addr×Key×V),xs=[.ref p]/\bN K H p (rows.map λr=>V.ref r.1)/\(∀r∈rows,hX K H r.1 [kV r.2.1,r.2.2])/\
  (rows.map (·.2.1)).Nodup/\∀l,H l=none->Q (.ref l) (upd H l (.dK (rows.map (·.2))))):=by subst hK;exact vO hc
end
end L2
namespace L2
open PySem PyProof.Rows
section
variable {X : Cx}
noncomputable def Kn:V->List V->Hp->VK->Prop:=λx vs H Q=>∃l xs ds v d,x=.ref l/\vs=[v]/\H l=some (.lst xs)/\bq H ds xs/\(∀e∈ds,Ke e)/\Rep H d v/\Ke d/\Q (.int ((ds.countP λe=>decide (cf e=cf d)):Nat)) H
theorem AH (hu:X.A.units+64<cLine):GF X "list.count" Kn:=by
 classical
 intro pins s σ H x vs v us Q I rx rv h
 obtain⟨l,xs,ds,y,d,rfl,rfl,hp,rd,xy,Ov,hd,q⟩:=h
 cases rx
 obtain⟨u,rfl,ru⟩:=vals1 rv
 obtain⟨bz,r,pl,hz⟩:=I.list (bN.of hp)
 obtain⟨as,ra⟩:=fH I.bP d y u Ov ru
 have l1:=rd.length
 have l2:=r.length
 have at_:∀(j:Nat) (w:Value),bz[j]?=some w->∃e bs,ds[j]?=some e/\e∈ds/\Reads s.heap w (cf e) bs:=λj w hj=>by
  obtain⟨e,bs,ed,re⟩:=m7 I.bP rd r hj
  exact⟨e,bs,ed,aal ed,re⟩
 obtain⟨⟨c1,d1,d2,sl⟩,ho,e1,m,e2⟩:=pl.isList
 cases e1
 cases e2
 have cnt:bz.countP (λu=>decide (∃cs,Reads s.heap u (cf d) cs))=ds.countP λe=>decide (cf e=cf d):=by
  have e:bz.map (λu=>decide (∃cs,Reads s.heap u (cf d) cs))=ds.map λe=>decide (cf e=cf d):=by
   refine List.ext_getElem (by rw[aac,aac];omega) λi h1 h2=>?_
   rw[aac] at h1 h2
   obtain⟨e,bs,ed,he,re⟩:=at_ i bz[i] (aap h1)
   rw[List.getElem_map,List.getElem_map,FJ xy he re]
   rw[aap h2] at ed
   cases ed
   rfl
  have c:∀{α:Type} (l:List α) (f:α->Bool),l.countP f=(l.map f).countP id:=λl f=>by rw[List.countP_map];rfl
  rw[c,e,<-c]
 refine call_meets PySem.F.slot_list_count ⟨_,ho,rfl⟩ PySem.F.entry_list_count (PySem.F.args_list_count_2 _ _) (PySem.SeqAt.list_countAt l bz.toArray m d1 sl u (λu=>decide (∃cs,Reads s.heap u (cf d) cs))) ⟨ho,λy hy=>?_,⟨.int _,H,I.tok _,⟨_,rfl⟩,by rw[cnt];exact q⟩⟩
 obtain⟨j,ej⟩:=List.getElem?_of_mem (List.mem_toArray.mp hy)
 obtain⟨e,bs,ed,he,re⟩:=at_ j y ej
 show SeqAt.EqAt _ _ _ _ (decide _)
 rw[FJ xy he re]
 exact Hr re ra (xy e he).1 hd.1 (xy e he).2 hd.2 (by show X.A.units+1+8<cLine;omega)
end
end L2
namespace L2
open PySem PyProof.Rows
structure DnA (K:PySem.W.Frag) (mg:Str->Option Value) (g x:Str) (st:Stmt):Prop where
 ex:∃f fd,xK K x x st f fd/\mg g=some (.ref f)
end L2
namespace L2
open PySem PyProof.Rows
theorem exV {b:V} {Q:V->Prop}:(∃v,(some (some b):Option (Option V))=some (some v)/\Q v)=Q b:=propext ⟨fun⟨_,e,h⟩=>by cases e;exact h,λh=>⟨b,rfl,h⟩⟩
theorem exI {a:Int} {Q:Int->Prop}:(∃i,V.int a=V.int i/\Q i)=Q a:=propext ⟨fun⟨_,e,h⟩=>by cases e;exact h,λh=>⟨a,rfl,h⟩⟩
theorem exB {a:Bool} {Q:Bool->Prop}:(∃i,V.bl a=V.bl i/\Q i)=Q a:=propext ⟨fun⟨_,e,h⟩=>by cases e;exact h,λh=>⟨a,rfl,h⟩⟩
theorem exR {a:Addr} {Q:Addr->Prop}:(∃i,V.ref a=V.ref i/\Q i)=Q a:=propext ⟨fun⟨_,e,h⟩=>by cases e;exact h,λh=>⟨a,rfl,h⟩⟩
theorem exS {a:Str} {Q:Str->Prop}:(∃i,V.str a=V.str i/\Q i)=Q a:=propext ⟨fun⟨_,e,h⟩=>by cases e;exact h,λh=>⟨a,rfl,h⟩⟩
theorem exII {a b:Int} {Q:Int->Int->Prop}:(∃i j,V.int a=V.int i/\V.int b=V.int j/\Q i j)=Q a b:=propext ⟨fun⟨_,_,e,f,h⟩=>by cases e;cases f;exact h,λh=>⟨a,b,rfl,rfl,h⟩⟩
theorem exRI {a:Addr} {k:Int} {Q:Addr->List V->Int->V->Prop}:(∃p xs i v,V.ref a=V.ref p/\V.int k=V.int i/\Q p xs i v)=∃xs v,Q a xs k v:=propext ⟨fun⟨_,xs,_,v,e,f,h⟩=>by cases e;cases f;exact⟨xs,v,h⟩,fun⟨xs,v,h⟩=>⟨a,xs,k,v,rfl,rfl,h⟩⟩
theorem exRa {α:Type} {a:Addr} {Q:Addr->α->Prop}:(∃p v,V.ref a=V.ref p/\Q p v)=∃v,Q a v:=propext ⟨fun⟨_,v,e,h⟩=>by cases e;exact⟨v,h⟩,fun⟨v,h⟩=>⟨a,v,rfl,h⟩⟩
theorem exRb {α β:Type} {a:Addr} {Q:Addr->α->β->Prop}:(∃p v u,V.ref a=V.ref p/\Q p v u)=∃v u,Q a v u:=propext ⟨fun⟨_,v,u,e,h⟩=>by cases e;exact⟨v,u,h⟩,fun⟨v,u,h⟩=>⟨a,v,u,rfl,h⟩⟩
end L2
namespace K58
open PySem PySem.Spec PyProof.Rows L2
set_option maxHeartbeats 4000000
local macro_rules | `(tactic| simp_all only [$ls,*]) => `(tactic| ((try dsimp (config := { zetaDelta := true }) only [L2.start, Pr, tRev, tSortR, tD1, tDPop1, tSl, tNoPart, tPart, rSlL, tDIn, tDNotIn, gSub, rSetL, tLst, tDNewK, tComp, L2.stC, tFor_eq, iList, iTup, iRng1, iRng2, iZip, iEnum, iDict, iStr, tChain, tSumV, tBM, rJoin, tJoined, jNil, jLit, jInt, jStr, tRaise, tDGet, tDGet2, tDGet1, sDPut, tSeq, tRet, tRetN, tIfS, tTest, tB, tOp, tUn, tVar, tC, tCB, tCons, tNil, tCall, tTupS, tAsg, gName, gNil, gCons, tPar, tNext, tDrop, tAnd, tOr, tNot, tAndV, tOrV, tNotV, tIf, rI, rI0, rU, rIxTH, rIxLH, rEqT, rNeT, rInT, rEq, rNe, scal, CPow, List.getElem?_cons_zero, List.getElem?_cons_succ, List.set_cons_zero, List.set_cons_succ]); simp only [↓exV, ↓exI, ↓exB, ↓exR, ↓exS, ↓exII, ↓exRI, ↓exRa, ↓exRb, L2.start, Pr, tRev, tSortR, tD1, tDPop1, tSl, tNoPart, tPart, rSlL, tDIn, tDNotIn, gSub, rSetL, tLst, tDNewK, tComp, L2.stC, tFor_eq, iList, iTup, iRng1, iRng2, iZip, iEnum, iDict, iStr, tChain, tSumV, tBM, rJoin, tJoined, jNil, jLit, jInt, jStr, tRaise, tDGet, tDGet2, tDGet1, sDPut, Option.join_some, List.getElem?_nil,  tSeq, tRet, tRetN, tIfS, tTest, tB, tOp, tUn, tVar, tC, tCB, tCons, tNil, tCall, tTupS, tAsg, gName, gNil, gCons, tPar, tNext, tDrop, tAnd, tOr, tNot, tAndV, tOrV, tNotV, tIf, rI, rI0, rU, rIxTH, rIxLH, rEqT, rNeT, rInT, rEq, rNe, scal, CPow, at0, at1, at2, List.map_cons, List.map_nil, List.length_cons, List.length_nil, Nat.reduceSub, Nat.reduceAdd, Nat.zero_add, List.replicate_zero, List.reduceReplicate, List.append_nil, List.nil_append, List.cons_append, List.getElem?_cons_zero, List.getElem?_cons_succ, List.set_cons_zero, List.set_cons_succ, Option.some.injEq, exists_eq_left', exists_eq_left, V.ref.injEq, V.int.injEq, V.bl.injEq, V.str.injEq, V.ty.injEq, HO.tup.injEq, HO.lst.injEq, List.cons.injEq, and_true, true_and, and_assoc, exists_and_left, decide_eq_true_eq, Bool.not_eq_true', decide_eq_false_iff_not, ite_true, ite_false, if_true, if_false, Int.reduceToNat, eq_self_iff_true, $ls,*]))
seal L2.PE L2.PT L2.PW L2.PA L2.PS L2.va L2.PG L2.Fm L2.PI L2.Fy L2.PO L2.oi L2.ML L2.cR L2.Fq L2.JH L2.GF L2.GK
theorem aM {P:Program} {w:World}:tX (bO P w):=zg P w
set_option genInjectivity false in
set_option genSizeOf false in
structure Txt (K:PySem.W.Frag) (mg:Str->Option Value) (aK aL aG aY ag aD:Addr):Prop where
 z_abs:mg "abs"=none
 z_bool:mg "bool"=none
 z_dict:mg "dict"=none
 z_enumerate:mg "enumerate"=none
 z_int:mg "int"=none
 z_isinstance:mg "isinstance"=none
 z_len:mg "len"=none
 z_list:mg "list"=none
 z_max:mg "max"=none
 z_min:mg "min"=none
 z_range:mg "range"=none
 z_sorted:mg "sorted"=none
 z_sum:mg "sum"=none
 z_tuple:mg "tuple"=none
 m8:Dn K mg "common_divisor" (top 7)
 Eu:Dn K mg "share" (top 8)
 oS:Dn K mg "common_bottom" (top 9)
 kH:Dn K mg "table_by_weights" (top 11)
 xY:Dn K mg "table_of" (top 12)
 vP:Dn K mg "bottom_of" (top 13)
 AI:Dn K mg "weighed" (top 14)
 Ew:Dn K mg "power" (top 18)
 ue:Dn K mg "most_faces" (top 19)
 rF:Dn K mg "part_bottom" (top 20)
 uf:Dn K mg "part_count" (top 21)
 ug:Dn K mg "check_size" (top 22)
 uh:Dn K mg "dice_faces" (top 23)
 rG:Dn K mg "again_faces" (top 24)
 rH:Dn K mg "burst_faces" (top 25)
 ui:Dn K mg "part_faces" (top 26)
 xZ:Dn K mg "value_of" (top 27)
 oU:Dn K mg "sides_product" (top 28)
 rJ:Dn K mg "part_throws" (top 29)
 kI:Dn K mg "throws_by_bottom" (top 30)
 uj:Dn K mg "pool_table" (top 31)
 x6:Dn K mg "own_rows" (top 34)
 x8:Dn K mg "own_what" (top 35)
 uk:Dn K mg "throw_ways" (top 38)
 vQ:Dn K mg "pick_ways" (top 39)
 x9:Dn K mg "taken_up" (top 40)
 Cm:Dn K mg "spread" (top 41)
 AJ:Dn K mg "_law_at" (top 43)
 um:Dn K mg "_law_deeds" (top 44)
 vR:Dn K mg "_law_game" (top 45)
 vS:Dn K mg "_law_near" (top 46)
 rK:Dn K mg "_law_behind" (top 47)
 vT:Dn K mg "_law_step" (top 48)
 qh:Dn K mg "_law_reached" (top 49)
 c_MOST_THROWS:∃t,mg "MOST_THROWS"=some (.int 1296 t)
 c_MOST_BOTTOM:∃t,mg "MOST_BOTTOM"=some (.int 1000000 t)
 c_MOST_STATES:∃t,mg "MOST_STATES"=some (.int 120 t)
 k_NoShare:mg "NoShare"=some (.ref aK)
 k_NoTable:mg "NoTable"=some (.ref aL)
 k_TooMany:mg "TooMany"=some (.ref aG)
 k_NoWay:mg "NoWay"=some (.ref aY)
 k_Course:mg "Course"=some (.ref ag)
 k_Finder:mg "Finder"=some (.ref aD)
 x_NoShare:PySem.W.excIn K aK tZ lQ=true
 x_NoTable:PySem.W.excIn K aL tZ lQ=true
 x_TooMany:PySem.W.excIn K aG tZ lQ=true
 x_NoWay:PySem.W.excIn K aY tZ lQ=true
 e_TooMany_TooMany:PySem.W.exmOne K (.ref aG) (.ref aG)=some true
 aR:y4 K ag
 bU:y4 K aD
 na_Course_first:PySem.W.findIn K (.ref ag) "first"=some none
 na_Course_mosts:PySem.W.findIn K (.ref ag) "mosts"=some none
 na_Course_spots:PySem.W.findIn K (.ref ag) "spots"=some none
 na_Course_tables:PySem.W.findIn K (.ref ag) "tables"=some none
 na_Course_whats:PySem.W.findIn K (.ref ag) "whats"=some none
 na_Finder_numbers:PySem.W.findIn K (.ref aD) "numbers"=some none
 na_Finder_states:PySem.W.findIn K (.ref aD) "states"=some none
 AK:M0 K mg "Course" "Course.__init__" (inClass (top 36) 0) ag
 AL:M0 K mg "Finder" "Finder.__init__" (inClass (top 37) 0) aD
 oV:xX K ag "asked" "Course.asked" (inClass (top 36) 3)
 m9:xX K ag "by_row" "Course.by_row" (inClass (top 36) 6)
 kJ:xX K ag "by_value" "Course.by_value" (inClass (top 36) 7)
 uo:xX K ag "do" "Course.do" (inClass (top 36) 2)
 jy:xX K ag "end_worth" "Course.end_worth" (inClass (top 36) 12)
 oW:xX K ag "holds" "Course.holds" (inClass (top 36) 9)
 jz:xX K ag "open_rows" "Course.open_rows" (inClass (top 36) 10)
 rL:xX K ag "put" "Course.put" (inClass (top 36) 1)
 oX:xX K ag "start" "Course.start" (inClass (top 36) 4)
 kK:xX K ag "table_at" "Course.table_at" (inClass (top 36) 8)
 lY:xX K ag "what_at" "Course.what_at" (inClass (top 36) 5)
 kL:xX K ag "words_at" "Course.words_at" (inClass (top 36) 11)
 jA:xX K aD "number_of" "Finder.number_of" (inClass (top 37) 1)
noncomputable def Al {α:Type} (R:α->V->Prop):List α->List V->Prop
 | [],[]=>True
 | a::as,v::vs=>R a v/\Al R as vs
 | _,_=>False
theorem Al.length {α:Type} {R:α->V->Prop}:∀{as:List α} {vs:List V},Al R as vs->vs.length=as.length
 | [],[],_=>rfl
 | a::as,v::vs,h=>by simp [Al.length h.2]
theorem Al.imp {α:Type} {R S:α->V->Prop} (f:∀a v,R a v->S a v):∀{as:List α} {vs:List V},Al R as vs->Al S as vs
 | [],[],_=>trivial
 | a::as,v::vs,h=>⟨f _ _ h.1,Al.imp f h.2⟩
theorem Al.append {α:Type} {R:α->V->Prop}:∀{as bs:List α} {us vs:List V},Al R as us->Al R bs vs->Al R (as++bs) (us++vs)
 | [],_,[],_,_,k=>k
 | a::as,_,v::vs,_,h,k=>⟨h.1,Al.append h.2 k⟩
theorem Al.one {α:Type} {R:α->V->Prop} {a:α} {v:V} (h:R a v):Al R [a] [v]:=⟨h,trivial⟩
theorem Al.AM {α:Type} {H:Hp} {f:α->Dat}:∀{as:List α} {vs:List V},Al (λa v=>Rep H (f a) v) as vs->bq H (as.map f) vs
 | [],[],_=>by simp [bq]
 | a::as,v::vs,h=>by
  rw[aae,bq]
  exact⟨v,vs,rfl,h.1,Al.AM h.2⟩
theorem Al.get {α:Type} {R:α->V->Prop}:∀{as:List α} {vs:List V} {i:Nat} {v:V},Al R as vs->vs[i]?=some v->∃a,as[i]?=some a/\R a v
 | [],[],i,v,_,e=>by simp at e
 | a::as,u::vs,i,v,h,e=>by
  cases i with
  | zero=>simp at e;subst e;exact⟨a,rfl,h.1⟩
  | succ i=>simp at e;obtain⟨b,e1,e2⟩:=Al.get h.2 e;exact⟨b,by simpa using e1,e2⟩
theorem Al.at {α:Type} {R:α->V->Prop}:∀{as:List α} {vs:List V} {i:Nat} {a:α},Al R as vs->as[i]?=some a->∃v,vs[i]?=some v/\R a v
 | [],[],i,v,_,e=>by simp at e
 | a::as,u::vs,i,v,h,e=>by
  cases i with
  | zero=>simp at e;subst e;exact⟨u,rfl,h.1⟩
  | succ i=>simp at e;obtain⟨b,e1,e2⟩:=Al.at h.2 e;exact⟨b,by simpa using e1,e2⟩
theorem Al.of {α:Type} {R:α->V->Prop}:∀{as:List α} {vs:List V},vs.length=as.length->(∀(i:Nat) v a,vs[i]?=some v->as[i]?=some a->R a v)->Al R as vs
 | [],[],_,_=>trivial
 | [],_::_,l,_=>by simp at l
 | _::_,[],l,_=>by simp at l
 | a::as,u::vs,l,h=>⟨h 0 u a rfl rfl,Al.of (by simpa using l) λi v b e1 e2=>h (i+1) v b (by simpa using e1) (by simpa using e2)⟩
noncomputable def Cn:Sp:=λvs H Q _=>∃a b,vs=[.int a,.int b]/\Q (.int (Nm.g a b)) H
noncomputable def Hs (qn:Addr):Sp:=λvs H Q E=>∃a b,vs=[.int a,.int b]/\Bt 5000 b/\(b=0->E (.ref qn) none H)/\(b≠0->∀p H',aE H H'->H p=none->H' p=some (.tup (Pr (Nm.st a b) (Nm.sb a b)))->Q (.ref p) H')
noncomputable def Ey:Sp:=λvs H Q _=>∃d B ws,vs=[.ref d,.int B]/\H d=some (.dK (enc ws))/\(Nm.keys ws).Nodup/\ws.length<64/\B≠0/\Bt 5000 B/\∀p H',aE H H'->H p=none->Rep H' (j3 (Nm.rowsOf ws B)) (.ref p)->Q (.ref p) H'
noncomputable def Ht (qt:Addr):Sp:=λvs H Q E=>∃v ps,vs=[v]/\Rep H (iE ps) v/\ps.length<=1296/\(∀p∈ps,p.2<=10^12)/\(Nm.kC ps).length<64/\
 (Nm.bad ps->∀H',aE H H'->E (.ref qt) none H')/\
 (¬Nm.bad ps->∀p H',aE H H'->H p=none->Rep H' (j3 (Nm.rowsOf (Nm.kC ps) (Nm.pU (Nm.kC ps)))) (.ref p)->Q (.ref p) H')
inductive Dd
 | set (n:Str) (k:Int)
 | plus (n:Str) (k:Int)
 | face (n:Str)
 | move (n m:Str)
noncomputable def uq:Dd->Dat
 | .set n k=>.tup [.str (Str.ofString "set"),.str n,.int k]
 | .plus n k=>.tup [.str (Str.ofString "plus"),.str n,.int k]
 | .face n=>.tup [.str (Str.ofString "face"),.str n]
 | .move n m=>.tup [.str (Str.ofString "move"),.str n,.str m]
structure Rw where
 word:Str
 wh:Option (Str×Str×Int)
 ds:List Dd
 to:Str
noncomputable def M7:Option (Str×Str×Int)->Dat
 | none=>.de
 | some (a,b,k)=>.tup [.str a,.str b,.int k]
abbrev R4:=Dat×Dat×List Dat×Dat
noncomputable def ie (r:R4):Dat:=.tup [r.1,r.2.1,.lst r.2.2.1,r.2.2.2]
noncomputable def oY (r:Rw):R4:=(.str r.word,M7 r.wh,r.ds.map uq,.str r.to)
abbrev Tw:=Int×Int×List Dd×Str
noncomputable def Ez (r:Tw):R4:=(.int r.1,.int r.2.1,r.2.2.1.map uq,.str r.2.2.2)
inductive Wt
 | ask (c:Str) (k:Int) (one other:Str)
 | fin (t b:Int)
 | score (c:Str)
 | pick (iy:Int) (rs:List Rw)
 | jw (iG:List Dat) (t b:Int) (rs:List Tw)
noncomputable def ph:Wt->Dat
 | .ask c k a b=>.tup [.str (Str.ofString "ask"),.str c,.int k,.str a,.str b]
 | .fin t b=>.tup [.str (Str.ofString "end"),.tup [.int t,.int b]]
 | .score c=>.tup [.str (Str.ofString "score"),.str c]
 | .pick w rs=>.tup [.str (Str.ofString "pick"),.int w,.lst ((rs.map oY).map ie)]
 | .jw iG t b rs=>.tup [.str (Str.ofString "throw"),.lst iG,.tup [.int t,.int b],.lst ((rs.map Ez).map ie)]
structure Gm where
 cs:List (Str×Int)
 ps:List (Str×Wt)
noncomputable def OF (cs:List (Str×Int)):Dat:=.lst (cs.map λc=>.tup [.str c.1,.int c.2])
noncomputable def Yb (ps:List (Str×Wt)):Dat:=.lst (ps.map λp=>.tup [.str p.1,ph p.2])
noncomputable def FL (g:Gm):Dat:=.tup [OF g.cs,Yb g.ps]
noncomputable def bL (cs:List (Str×Int)) (n:Str):Nat:=(cs.map (·.1)).idxOf n
noncomputable def most (cs:List (Str×Int)) (i:Nat):Int:=(cs.map (·.2)).getD i 0
noncomputable def ur (cs:List (Str×Int)) (ns:List Int) (i:Nat) (k:Int):List Int:=ns.set i (min k (most cs i))
noncomputable def fI (cs:List (Str×Int)) (v:Int) (ns:List Int):Dd->List Int
 | .set n k=>ur cs ns (bL cs n) k
 | .plus n k=>ur cs ns (bL cs n) (ns.getD (bL cs n) 0+k)
 | .face n=>ur cs ns (bL cs n) (ns.getD (bL cs n) 0+v)
 | .move n m=>(ur cs ns (bL cs m) (ns.getD (bL cs m) 0+ns.getD (bL cs n) 0)).set (bL cs n) 0
noncomputable def sU (cs:List (Str×Int)):Dd->Prop
 | .set n _=>n∈cs.map (·.1)
 | .plus n _=>n∈cs.map (·.1)
 | .face n=>n∈cs.map (·.1)
 | .move n m=>n∈cs.map (·.1)/\m∈cs.map (·.1)
theorem c8 {cs:List (Str×Int)} {n:Str} (h:n∈cs.map (·.1)):bL cs n<cs.length:=by
 have:=aa2 h
 rwa [aac] at this
theorem iH {cs:List (Str×Int)} {ns:List Int} {i:Nat} {k:Int}:(ur cs ns i k).length=ns.length:=by unfold ur;rw[List.length_set]
theorem uu {cs:List (Str×Int)} {v:Int} {ns:List Int}:∀d:Dd,(fI cs v ns d).length=ns.length
 | .set _ _=>iH
 | .plus _ _=>iH
 | .face _=>iH
 | .move _ _=>by unfold fI;rw[List.length_set,iH]
noncomputable def look (ps:List (Str×Wt)) (n:Str):Option Wt:=(ps.find? λp=>decide (p.1=n)).map (·.2)
noncomputable def eP (g:Gm) (ns:List Int):Nat->Str->Option Str
 | 0,_=>none
 | f+1,nm=>match look g.ps nm with
  | some (.ask c k a b)=>if k<=ns.getD (bL g.cs c) 0 then eP g ns f a else eP g ns f b
  | some _=>some nm
  | none=>none
noncomputable def d9 (cs:List (Str×Int)) (ns:List Int):Option (Str×Str×Int)->Bool
 | none=>true
 | some (n,x,k)=>if n∈cs.map (·.1) then (if x=Str.ofString "from" then decide (k<=ns.getD (bL cs n) 0) else decide (ns.getD (bL cs n) 0<k)) else false
noncomputable def zy (cs:List (Str×Int)):Wt->Prop
 | .ask c _ _ _=>c∈cs.map (·.1)
 | .fin _ _=>True
 | .score c=>c∈cs.map (·.1)
 | .pick _ rs=>rs.length<=100/\∀r∈rs,r.ds.length<=100/\∀d∈r.ds,sU cs d
 | .jw iG _ _ rs=>iG.length<=100/\rs.length<=100/\∀r∈rs,r.2.2.1.length<=100/\∀d∈r.2.2.1,sU cs d
structure GoodG (g:Gm):Prop where
 nc:(g.cs.map (·.1)).Nodup
 np:(g.ps.map (·.1)).Nodup
 lc:g.cs.length<=100
 lp:g.ps.length<=100
 p0:0<g.ps.length
 wt:∀p∈g.ps,zy g.cs p.2
theorem eF {ps:List (Str×Wt)} {n:Str} {x:Wt} (h:look ps n=some x):(n,x)∈ps:=by
 unfold look at h
 obtain⟨p,hp,rfl⟩:=Option.map_eq_some_iff.mp h
 have e:=List.find?_some hp
 have e:p.1=n:=by simpa using e
 subst e
 exact List.mem_of_find?_eq_some hp
noncomputable def qi:List (Str×Int)->Nat->List (Key×V)
 | [],_=>[]
 | c::cs,i=>(Sum.inr c.1,V.int (i:Int))::qi cs (i+1)
theorem zz:∀(cs:List (Str×Int)) (i:Nat),(qi cs i).length=cs.length
 | [],_=>rfl
 | _::cs,i=>by rw[qi,aar,zz cs,aar]
theorem vU (c:Str×Int):∀(cs:List (Str×Int)) (i:Nat),qi (cs++ [c]) i=qi cs i++ [(Sum.inr c.1,V.int ((i+cs.length:Nat):Int))]
 | [],i=>rfl
 | d::cs,i=>by
  rw[List.cons_append,qi,vU c cs (i+1),qi,aar,show i+1+cs.length=i+ (cs.length+1) by omega]
  rfl
theorem zA {n:Str}:∀{cs:List (Str×Int)} {i:Nat},n∈cs.map (·.1)->df (qi cs i) (Sum.inr n)=some (.int ((i+bL cs n:Nat):Int))
 | [],_,h=>by simp at h
 | c::cs,i,h=>by
  rw[qi]
  by_cases e:c.1=n
  ·rw[gy (by rw[e])]
   have:bL (c::cs) n=0:=by unfold bL;rw[aae,e,List.idxOf_cons_self]
   rw[this]
   rfl
  ·rw[eE (λz=>e (by injection z)),zA (cs:=cs) (i:=i+1) (by simpa [Ne.symm e] using h)]
   have:bL (c::cs) n=bL cs n+1:=by unfold bL;rw[aae,List.idxOf_cons,beq_false_of_ne e];rfl
   rw[this,show i+1+bL cs n=i+ (bL cs n+1) by omega]
theorem qj {n:Str}:∀{cs:List (Str×Int)} {i:Nat},n∉cs.map (·.1)->df (qi cs i) (Sum.inr n)=none
 | [],_,_=>rfl
 | c::cs,i,h=>by
  rw[qi,eE (λz=>h (by injection z with z;simp [z])),qj (cs:=cs) (i:=i+1) (λz=>h (by rw[aae];exact aag _ z))]
theorem lZ {κ:Type} [DecidableEq κ] {kvs:List (κ×V)} {k:κ} {v:V} (h:df kvs k=none):putK kvs k v=kvs++ [(k,v)]:=by
 unfold putK
 rw[if_neg]
 intro c
 obtain⟨x,hx,e⟩:=List.any_eq_true.mp c
 unfold df at h
 have:kvs.find? (λkv=>decide (kv.1=k))=none:=by simpa using h
 exact absurd e (by simpa using List.find?_eq_none.mp this x hx)
noncomputable def qk (H:Hp):List (Str×Wt)->List (Key×V)->Prop
 | [],us=>us=[]
 | p::ps,us=>∃v r,us=(Sum.inr p.1,v)::r/\Rep H (ph p.2) v/\qk H ps r
theorem qk.mono {H H':Hp} (s:aE H H'):∀{ps:List (Str×Wt)} {us:List (Key×V)},qk H ps us->qk H' ps us
 | [],_,h=>h
 | _::_,_,⟨v,r,e,h1,h2⟩=>⟨v,r,e,h1.mono s,h2.mono s⟩
theorem qk.len {H:Hp}:∀{ps:List (Str×Wt)} {us:List (Key×V)},qk H ps us->us.length=ps.length
 | [],_,h=>by rw[qk] at h;subst h;rfl
 | _::_,_,⟨v,r,e,h1,h2⟩=>by rw[e,aar,h2.len,aar]
theorem qk.snoc {H:Hp} {p:Str×Wt} {v:V} (k:Rep H (ph p.2) v):∀{ps:List (Str×Wt)} {us:List (Key×V)},qk H ps us->qk H (ps++ [p]) (us++ [(Sum.inr p.1,v)])
 | [],_,h=>by rw[qk] at h;subst h;exact⟨v,[],rfl,k,rfl⟩
 | _::_,_,⟨u,r,e,h1,h2⟩=>by rw[e];exact⟨u,_,rfl,h1,h2.snoc k⟩
theorem qk.val {H:Hp} {n:Str}:∀{ps:List (Str×Wt)} {us:List (Key×V)},qk H ps us->(∃x v,look ps n=some x/\df us (Sum.inr n)=some v/\Rep H (ph x) v)\/(look ps n=none/\df us (Sum.inr n)=none)
 | [],_,h=>by rw[qk] at h;subst h;exact .inr ⟨rfl,rfl⟩
 | p::ps,_,⟨u,r,e,h1,h2⟩=>by
  subst e
  by_cases c:p.1=n
  ·exact .inl ⟨p.2,u,by unfold look;rw[List.find?_cons_of_pos (by simpa using c)];rfl,gy (by rw[c]),h1⟩
  ·rcases h2.val (n:=n) with ⟨x,v,a,b,d⟩ | ⟨a,b⟩
   ·exact .inl ⟨x,v,by unfold look at *;rw[List.find?_cons_of_neg (by simpa using c)];exact a,by rw[eE (λz=>c (by injection z))];exact b,d⟩
   ·exact .inr ⟨by unfold look at *;rw[List.find?_cons_of_neg (by simpa using c)];exact a,by rw[eE (λz=>c (by injection z))];exact b⟩
theorem AN {ps:List (Str×Wt)} {n:Str} (h:n∉ps.map (·.1)):look ps n=none:=by
 unfold look
 rw[Option.map_eq_none_iff,List.find?_eq_none]
 intro p hp c
 exact h (List.mem_map.mpr ⟨p,hp,by simpa using c⟩)
theorem fC {cs:List (Str×Int)} {v:Int}:∀(ds:List Dd) (ns:List Int),(ds.foldl (fI cs v) ns).length=ns.length
 | [],_=>rfl
 | d::ds,ns=>by rw[List.foldl_cons,fC ds,uu]
noncomputable def dY (cs:List (Str×Int)) (ns:List Int):Wt->List Rw
 | .pick _ rs=>rs.filter λr=>d9 cs ns r.wh
 | _=>[]
noncomputable def EA (cs:List (Str×Int)) (ns:List Int):Wt->Option (Int×Int)
 | .fin t b=>some (t,b)
 | .score c=>some (ns.getD (bL cs c) 0,1)
 | _=>none
theorem bb {a b:TS} {D:Ends} {σ:L2.St} {H:Hp} (C:(L2.St->Hp->Prop)->Prop) (hb:C (b D)) (ha:∀N:L2.St->Hp->Prop,C N->a {D with nx:=N} σ H):tSeq a b D σ H:=ha _ hb
noncomputable def uS (q:Addr) (H:Hp) (c:Addr) (g:Gm):Prop:=∃dx sp mo wh tb us ft,H c=some (.ins q dx [(Str.ofString "spots",.ref sp),(Str.ofString "mosts",.ref mo),(Str.ofString "first",.str ft),(Str.ofString "whats",.ref wh),(Str.ofString "tables",.ref tb)])/\
 H sp=some (.dK (qi g.cs 0))/\H mo=some (.lst ((g.cs.map (·.2)).map V.int))/\H wh=some (.dK us)/\qk H g.ps us/\(g.ps.map (·.1)).head?=some ft
theorem uS.mono {q:Addr} {H H':Hp} {c:Addr} {g:Gm} (s:aE H H'):uS q H c g->uS q H' c g:=fun⟨dx,sp,mo,wh,tb,us,ft,h1,h2,h3,h4,h5,h6⟩=>⟨dx,sp,mo,wh,tb,us,ft,s _ _ h1,s _ _ h2,s _ _ h3,s _ _ h4,h5.mono s,h6⟩
noncomputable def wU (H:Hp) (v:V) (nm:Str) (ns:List Int):Prop:=∃a l,v=.ref a/\H a=some (.tup [.str nm,.ref l])/\H l=some (.lst (ns.map V.int))
theorem wU.mono {H H':Hp} {v:V} {nm:Str} {ns:List Int} (s:aE H H'):wU H v nm ns->wU H' v nm ns:=fun⟨a,l,e,h1,h2⟩=>⟨a,l,e,s _ _ h1,s _ _ h2⟩
noncomputable def ya:Sp:=λvs H Q _=>∃v,∃rs:List R4,vs=[v]/\Rep H (.lst (rs.map ie)) v/\rs.length<=100/\(∀r∈rs,r.2.2.1.length<=100)/\∀p H',aE H H'->Rep H' (.lst (rs.map ie)) (.ref p)->Q (.ref p) H'
noncomputable def Hu:Sp:=λvs H Q _=>∃v x cs,vs=[v]/\Rep H (ph x) v/\zy cs x/\∀u H',aE H H'->Rep H' (ph x) u->Q u H'
noncomputable def sV (q:Addr):Sp:=λvs H Q _=>∃c l i k g ns,vs=[.ref c,.ref l,.int ((i:Nat):Int),.int k]/\uS q (cA H l) c g/\H l=some (.lst (List.map V.int ns))/\i<g.cs.length/\ns.length=g.cs.length/\Q .de (upd H l (.lst ((ur g.cs ns i k).map V.int)))
noncomputable def Hv (q:Addr):Sp:=λvs H Q _=>∃c l dv v g ns d,vs=[.ref c,.ref l,dv,.int v]/\uS q (cA H l) c g/\H l=some (.lst (List.map V.int ns))/\Rep (cA H l) (uq d) dv/\sU g.cs d/\ns.length=g.cs.length/\Q .de (upd H l (.lst ((fI g.cs v ns d).map V.int)))
noncomputable def vV (q:Addr):Sp:=λvs H Q _=>∃c nm l g ns f gq,vs=[.ref c,.str nm,.ref l]/\uS q H c g/\GoodG g/\H l=some (.lst (List.map V.int ns))/\ns.length=g.cs.length/\eP g ns f nm=some gq/\∀a H',aE H H'->H a=none->H' a=some (.tup [.str gq,.ref l])->Q (.ref a) H'
noncomputable def Co (q:Addr):Sp:=λvs H Q _=>∃c g f ft gq,vs=[.ref c]/\uS q H c g/\GoodG g/\(g.ps.map (·.1)).head?=some ft/\eP g (List.replicate g.cs.length 0) f ft=some gq/\∀a l H',aE H H'->H a=none->H l=none->H' a=some (.tup [.str gq,.ref l])->H' l=some (.lst ((List.replicate g.cs.length (0:Int)).map V.int))->Q (.ref a) H'
noncomputable def ig (q:Addr):Sp:=λvs H Q _=>∃c v H0 g nm ns x,vs=[.ref c,v]/\aE H0 H/\uS q H0 c g/\wU H v nm ns/\look g.ps nm=some x/\∀u,Rep H0 (ph x) u->Q u H
noncomputable def Cp (q:Addr):Sp:=λvs H Q _=>∃c v l g ns wh,vs=[.ref c,v,.ref l]/\uS q H c g/\Rep H (M7 wh) v/\H l=some (.lst (List.map V.int ns))/\ns.length=g.cs.length/\Q (.bl (d9 g.cs ns wh)) H
noncomputable def vW (q:Addr):Sp:=λvs H Q _=>∃c sv rv v g nm ns a b ds to f gq,vs=[.ref c,sv,rv,.int v]/\uS q H c g/\GoodG g/\wU H sv nm ns/\Rep H (ie (a,b,List.map uq ds,.str to)) rv/\(∀d∈ds,sU g.cs d)/\ds.length<=100/\ns.length=g.cs.length/\
 eP g (ds.foldl (fI g.cs v) ns) f to=some gq/\∀p l H',aE H H'->H p=none->H l=none->H' p=some (.tup [.str gq,.ref l])->H' l=some (.lst ((ds.foldl (fI g.cs v) ns).map V.int))->Q (.ref p) H'
theorem gZ {H:Hp} {ds:List Dat} {v:V}:Rep H (.tup ds) v↔∃p vs,v=.ref p/\H p=some (.tup vs)/\bq H ds vs:=by rw[Rep]
theorem aH {H:Hp} {d:Dat} {ds:List Dat} {vs:List V}:bq H (d::ds) vs↔∃v r,vs=v::r/\Rep H d v/\bq H ds r:=by rw[bq]
theorem ba {H:Hp} {vs:List V}:bq H [] vs↔vs=[]:=by rw[bq]
theorem ao {H:Hp} {x:Str} {v:V}:Rep H (.str x) v↔v=.str x:=by rw[Rep]
theorem aI {H:Hp} {x:Int} {v:V}:Rep H (.int x) v↔v=.int x:=by rw[Rep]
theorem aV {H:Hp} {a b:Dat} {v:V}:Rep H (.tup [a,b]) v↔∃p x y,v=.ref p/\H p=some (.tup [x,y])/\Rep H a x/\Rep H b y:=by
 rw[gZ]
 constructor
 ·rintro⟨p,vs,e,h,r⟩
  obtain⟨x,r1,rfl,hx,r⟩:=aH.mp r
  obtain⟨y,r2,rfl,hy,r⟩:=aH.mp r
  rw[ba.mp r] at h
  exact⟨p,x,y,e,h,hx,hy⟩
 ·rintro⟨p,x,y,e,h,hx,hy⟩
  exact⟨p,_,e,h,aH.mpr ⟨x,_,rfl,hx,aH.mpr ⟨y,_,rfl,hy,ba.mpr rfl⟩⟩⟩
theorem bD {H:Hp} {a b c:Dat} {v:V}:Rep H (.tup [a,b,c]) v↔∃p x y z,v=.ref p/\H p=some (.tup [x,y,z])/\Rep H a x/\Rep H b y/\Rep H c z:=by
 rw[gZ]
 constructor
 ·rintro⟨p,vs,e,h,r⟩
  obtain⟨x,r1,rfl,hx,r⟩:=aH.mp r
  obtain⟨y,r2,rfl,hy,r⟩:=aH.mp r
  obtain⟨z,r3,rfl,hz,r⟩:=aH.mp r
  rw[ba.mp r] at h
  exact⟨p,x,y,z,e,h,hx,hy,hz⟩
 ·rintro⟨p,x,y,z,e,h,hx,hy,hz⟩
  exact⟨p,_,e,h,aH.mpr ⟨x,_,rfl,hx,aH.mpr ⟨y,_,rfl,hy,aH.mpr ⟨z,_,rfl,hz,ba.mpr rfl⟩⟩⟩⟩
theorem b7 {H:Hp} {a b c d:Dat} {v:V}:Rep H (.tup [a,b,c,d]) v↔∃p x y z u,v=.ref p/\H p=some (.tup [x,y,z,u])/\Rep H a x/\Rep H b y/\Rep H c z/\Rep H d u:=by
 rw[gZ]
 constructor
 ·rintro⟨p,vs,e,h,r⟩
  obtain⟨x,r1,rfl,hx,r⟩:=aH.mp r
  obtain⟨y,r2,rfl,hy,r⟩:=aH.mp r
  obtain⟨z,r3,rfl,hz,r⟩:=aH.mp r
  obtain⟨u,r4,rfl,hu,r⟩:=aH.mp r
  rw[ba.mp r] at h
  exact⟨p,x,y,z,u,e,h,hx,hy,hz,hu⟩
 ·rintro⟨p,x,y,z,u,e,h,hx,hy,hz,hu⟩
  exact⟨p,_,e,h,aH.mpr ⟨x,_,rfl,hx,aH.mpr ⟨y,_,rfl,hy,aH.mpr ⟨z,_,rfl,hz,aH.mpr ⟨u,_,rfl,hu,ba.mpr rfl⟩⟩⟩⟩⟩
theorem ng {H:Hp} {a b c d f:Dat} {v:V}:Rep H (.tup [a,b,c,d,f]) v↔∃p x y z u t,v=.ref p/\H p=some (.tup [x,y,z,u,t])/\Rep H a x/\Rep H b y/\Rep H c z/\Rep H d u/\Rep H f t:=by
 rw[gZ]
 constructor
 ·rintro⟨p,vs,e,h,r⟩
  obtain⟨x,r1,rfl,hx,r⟩:=aH.mp r
  obtain⟨y,r2,rfl,hy,r⟩:=aH.mp r
  obtain⟨z,r3,rfl,hz,r⟩:=aH.mp r
  obtain⟨u,r4,rfl,hu,r⟩:=aH.mp r
  obtain⟨t,r5,rfl,ht,r⟩:=aH.mp r
  rw[ba.mp r] at h
  exact⟨p,x,y,z,u,t,e,h,hx,hy,hz,hu,ht⟩
 ·rintro⟨p,x,y,z,u,t,e,h,hx,hy,hz,hu,ht⟩
  exact⟨p,_,e,h,aH.mpr ⟨x,_,rfl,hx,aH.mpr ⟨y,_,rfl,hy,aH.mpr ⟨z,_,rfl,hz,aH.mpr ⟨u,_,rfl,hu,aH.mpr ⟨t,_,rfl,ht,ba.mpr rfl⟩⟩⟩⟩⟩⟩
theorem du {k k':Str} {v:V} {l:List (Str×V)} (h:(k==k')=false):List.lookup k ((k',v)::l)=List.lookup k l:=by rw[aaC,h]
theorem j5 {a b c d e:V}:List.lookup (Str.ofString "spots") [(Str.ofString "spots",a),(Str.ofString "mosts",b),(Str.ofString "first",c),(Str.ofString "whats",d),(Str.ofString "tables",e)]=some a:=aaU
theorem FN {a b c d e:V}:List.lookup (Str.ofString "mosts") [(Str.ofString "spots",a),(Str.ofString "mosts",b),(Str.ofString "first",c),(Str.ofString "whats",d),(Str.ofString "tables",e)]=some b:=by
 rw[du (by decide +kernel)];exact aaU
theorem Ko {a b c d e:V}:List.lookup (Str.ofString "first") [(Str.ofString "spots",a),(Str.ofString "mosts",b),(Str.ofString "first",c),(Str.ofString "whats",d),(Str.ofString "tables",e)]=some c:=by
 rw[du (by decide +kernel),du (by decide +kernel)];exact aaU
theorem zB {a b c d e:V}:List.lookup (Str.ofString "whats") [(Str.ofString "spots",a),(Str.ofString "mosts",b),(Str.ofString "first",c),(Str.ofString "whats",d),(Str.ofString "tables",e)]=some d:=by
 rw[du (by decide +kernel),du (by decide +kernel),du (by decide +kernel)];exact aaU
theorem dP {a b c d e:V} {k:Str} (h1:(k==Str.ofString "spots")=false) (h2:(k==Str.ofString "mosts")=false) (h3:(k==Str.ofString "first")=false) (h4:(k==Str.ofString "whats")=false) (h5:(k==Str.ofString "tables")=false):
  List.lookup k [(Str.ofString "spots",a),(Str.ofString "mosts",b),(Str.ofString "first",c),(Str.ofString "whats",d),(Str.ofString "tables",e)]=none:=by
 rw[du h1,du h2,du h3,du h4,du h5];rfl
theorem ma {n i:Nat} (h:i<n):DT n (i:Int)=some i:=by
 unfold DT
 rw[if_pos (by omega),if_pos (by omega),Int.toNat_natCast]
theorem dG {ns:List Int} {i:Nat} (h:i<ns.length):lD (List.map V.int ns) (i:Int)=some (.int (ns.getD i 0)):=by
 have:=vz (ns:=ns) (i:=(i:Int)) (by omega) (by omega)
 rwa [Int.toNat_natCast] at this
theorem EB {cs:List (Str×Int)} {i:Nat} (h:i<cs.length):lD (List.map V.int (cs.map (·.2))) (i:Int)=some (.int (most cs i)):=dG (by rw[aac];exact h)
theorem hG {H:Hp} {sp:Addr} {cs:List (Str×Int)} {n:Str} (h:H sp=some (.dK (qi cs 0))) (hn:n∈cs.map (·.1)):iA H sp (.str n) (some (.int ((bL cs n:Nat):Int))):=
 .inl ⟨_,Sum.inr n,.inl h,rfl,by rw[zA hn,Nat.zero_add]⟩
theorem dD {H:Hp} {p:Addr} {o:HO}:cA (upd H p o) p=cA H p:=by
 funext a
 unfold cA
 by_cases c:a=p
 ·rw[if_pos c,if_pos c]
 ·rw[if_neg c,if_neg c,aF c]
theorem zC {c:TT} {tb:TS} {D:Ends} {σ:L2.St} {H:Hp} (Pv:Nat->L2.St->Hp->Prop) {m:Nat} (h0:Pv m σ H)
  (hs:∀m σ H,Pv m σ H->∃b:Bool,(∀Q:Bool->Hp->Prop,Q b H->c σ H Q)/\if b=true then tb {D with nx:=λσ' H'=>∃m',m'<m/\Pv m' σ' H',ct:=λσ' H'=>∃m',m'<m/\Pv m' σ' H',bk:=D.nx} σ H else D.nx σ H):tM c tb D σ H:=by
 refine⟨Pv,⟨m,h0⟩,?_⟩
 intro m σ H p
 obtain⟨b,k,q⟩:=hs m σ H p
 refine k _ ?_
 cases b with
 | true=>exact⟨_,λσ' H' h=>h,q⟩
 | false=>exact q
theorem gC {H:Hp} {p:Addr} (h:H p=none):cA H p=H:=by
 funext a
 unfold cA
 by_cases c:a=p
 ·rw[if_pos c,c,h]
 ·rw[if_neg c]
theorem ql {H H':Hp} {p:Addr} (h:cA H' p=H):aE H H':=by rw[<-h];exact bE
theorem Cq (n:Nat):(List.replicate n [V.int 0]).flatten=List.map V.int (List.replicate n 0):=by
 induction n with
 | zero=>rfl
 | succ n ih=>rw[aa4,List.flatten_cons,ih,aa4];rfl
noncomputable def vX (q:Addr):Sp:=λvs H Q _=>∃c v H0 g nm ns x,vs=[.ref c,v]/\aE H0 H/\uS q H0 c g/\GoodG g/\wU H v nm ns/\ns.length=g.cs.length/\look g.ps nm=some x/\∀p xs H',aE H H'->H p=none->H' p=some (.lst xs)->bq H0 (((dY g.cs ns x).map oY).map ie) xs->Q (.ref p) H'
noncomputable def Cr (q:Addr):Sp:=λvs H Q _=>∃c v g nm ns x,vs=[.ref c,v]/\uS q H c g/\GoodG g/\wU H v nm ns/\ns.length=g.cs.length/\look g.ps nm=some x/\∀p H',aE H H'->H p=none->Rep H' (.lst ((dY g.cs ns x).map λr=>Dat.str r.word)) (.ref p)->Q (.ref p) H'
noncomputable def zD (q:Addr):Sp:=λvs H Q _=>∃c v g nm ns x t b,vs=[.ref c,v]/\uS q H c g/\GoodG g/\wU H v nm ns/\ns.length=g.cs.length/\look g.ps nm=some x/\EA g.cs ns x=some (t,b)/\∀u H',aE H H'->Rep H' (.tup [.int t,.int b]) u->Q u H'
theorem qo {H:Hp} {p:Rw->Bool}:∀{rs:List Rw} {xs:List V},bq H ((rs.map oY).map ie) xs->bq H (((rs.filter p).map oY).map ie) ((xs.zip rs).filterMap λx=>if p x.2=true then some x.1 else none)
 | [],xs,h=>by rw[List.zip_nil_right];exact ba.mpr rfl
 | r::rs,xs,h=>by
  obtain⟨v,ys,rfl,h1,h2⟩:=aH.mp h
  have ih:=qo (p:=p) h2
  rw[List.zip_cons_cons,aa0]
  by_cases c:p r=true
  ·simp only[c,if_true]
   rw[List.filter_cons_of_pos c,aae,aae]
   exact aH.mpr ⟨v,_,rfl,h1,ih⟩
  ·simp only[c]
   rw[List.filter_cons_of_neg c]
   exact ih
theorem sW {H:Hp}:∀{rs:List Rw} {xs:List V},bq H ((rs.map oY).map ie) xs->bq H (rs.map λr=>Dat.str r.word) (rs.map λr=>V.str r.word)
 | [],xs,h=>ba.mpr rfl
 | r::rs,xs,h=>by
  obtain⟨v,ys,rfl,h1,h2⟩:=aH.mp h
  exact aH.mpr ⟨_,_,rfl,ao.mpr rfl,sW h2⟩
theorem pj {H:Hp} {rs:List Rw} {xs:List V} {i:Nat} {x:V} (h:bq H ((rs.map oY).map ie) xs) (e:xs[i]?=some x):∃r p a b c d,rs[i]?=some r/\x=.ref p/\H p=some (.tup [.str r.word,b,c,d])/\Rep H (M7 r.wh) b/\a=r:=by
 obtain⟨dd,ed,rd⟩:=h.get e
 rw[aad,aad] at ed
 obtain⟨r4,e4,rfl⟩:=Option.map_eq_some_iff.mp ed
 obtain⟨r,er,rfl⟩:=Option.map_eq_some_iff.mp e4
 obtain⟨p,x1,x2,x3,x4,rfl,hp,r1,r2,r3,r4⟩:=b7.mp (show Rep H (.tup _) x from rd)
 have r1:x1=.str r.word:=ao.mp r1
 subst r1
 exact⟨r,p,r,x2,x3,x4,er,rfl,hp,r2,rfl⟩
theorem qp {tc:TT} {a b:TS} {D:Ends} {σ:L2.St} {H:Hp} (h:∀Y N:Hp->Prop,Y H->tc σ H λv H'=>if v=true then Y H' else N H') (k:a D σ H):tIfS tc a b D σ H:=xU (λH'=>H'=H) (λ_=>False) (λ_ e=>e▸k) (λ_ f=>f.elim) λY N hY _=>h Y N (hY _ rfl)
theorem dU {tc:TT} {a b:TS} {D:Ends} {σ:L2.St} {H:Hp} (h:∀Y N:Hp->Prop,N H->tc σ H λv H'=>if v=true then Y H' else N H') (k:b D σ H):tIfS tc a b D σ H:=xU (λ_=>False) (λH'=>H'=H) (λ_ f=>f.elim) (λ_ e=>e▸k) λY N _ hN=>h Y N (hN _ rfl)
abbrev b0:=Str×List Int
noncomputable def gD (s:b0):Dat:=.tup [.str s.1,.tup (s.2.map .int)]
theorem gE:∀ns:List Int,d8 (ns.map Dat.int)=ns.map PyData.int
 | []=>by simp [d8]
 | n::ns=>by rw[aae,d8,gE ns,cf,aae]
theorem jk (s:b0):cf (gD s)=.tuple [.str s.1,.tuple (s.2.map PyData.int)]:=by
 unfold gD
 rw[cf,d8,d8,d8,cf,cf,gE]
theorem zE {s t:b0}:cf (gD s)=cf (gD t)↔s=t:=by
 rw[jk,jk]
 constructor
 ·intro h
  injection h with h
  injection h with h1 h
  injection h with h2 _
  injection h1 with h1
  injection h2 with h2
  have:s.2=t.2:=by
   have:∀{a b:List Int},a.map PyData.int=b.map PyData.int->a=b:=by
    intro a
    induction a with
    | nil=>intro b h;cases b with | nil=>rfl | cons _ _=>cases h
    | cons x a ih=>
     intro b h
     cases b with
     | nil=>cases h
     | cons y b=>
      rw[aae,aae] at h
      injection h with h1 h2
      injection h1 with h1
      rw[h1,ih h2]
   exact this h2
  exact Prod.ext h1 this
 ·rintro rfl;rfl
theorem sY:∀ns:List Int,iF (ns.map PyData.int)=true
 | []=>rfl
 | n::ns=>by rw[aae,iF,sY ns];rfl
theorem jm:∀ns:List Int,PyData.depthAll (ns.map PyData.int)<=1
 | []=>by simp [PyData.depthAll]
 | n::ns=>by
  have:=jm ns
  rw[aae,PyData.depthAll,PyData.depth]
  omega
noncomputable def kO:List b0->Rows->Nat->Prop
 | [],ks,_=>ks=[]
 | s::ss,ks,i=>∃b r,ks=(gD s,b,(i:Int))::r/\kO ss r (i+1)
theorem kO.len:∀{ss:List b0} {ks:Rows} {i:Nat},kO ss ks i->ks.length=ss.length
 | [],_,_,h=>by rw[kO] at h;subst h;rfl
 | _::_,_,_,⟨b,r,e,h⟩=>by rw[e,aar,h.len,aar]
theorem kO.snoc {s:b0} {b:Addr}:∀{ss:List b0} {ks:Rows} {i:Nat},kO ss ks i->kO (ss++ [s]) (ks++ [(gD s,b,((i+ss.length:Nat):Int))]) i
 | [],_,i,h=>by rw[kO] at h;subst h;exact⟨b,[],rfl,rfl⟩
 | t::ss,_,i,⟨b',r,e,h⟩=>by
  rw[e]
  refine⟨b',_,rfl,?_⟩
  have:=h.snoc (s:=s) (b:=b)
  rw[show i+1+ss.length=i+ (t::ss).length by rw[aar];omega] at this
  exact this
theorem kO.look {s:b0}:∀{ss:List b0} {ks:Rows} {i:Nat},kO ss ks i->hZ ks (cf (gD s))=if s∈ss then some ((i+ss.idxOf s:Nat):Int) else none
 | [],_,_,h=>by rw[kO] at h;subst h;rfl
 | t::ss,_,i,⟨b,r,e,h⟩=>by
  subst e
  unfold hZ
  by_cases c:t=s
  ·subst c
   rw[List.find?_cons_of_pos (by simp),if_pos aai,List.idxOf_cons_self]
   rfl
  ·rw[List.find?_cons_of_neg (by simpa [zE] using c)]
   have ih:=h.look (s:=s)
   unfold hZ at ih
   rw[ih]
   have e:(t::ss).idxOf s=ss.idxOf s+1:=by rw[List.idxOf_cons,beq_false_of_ne c];rfl
   rw[e,show i+1+ss.idxOf s=i+ (ss.idxOf s+1) by omega]
   by_cases d:s∈ss
   ·rw[if_pos d,if_pos (aag _ d)]
   ·rw[if_neg d,if_neg (λz=>by rcases List.mem_cons.mp z with z | z;exact c z.symm;exact d z)]
noncomputable def fJ (ss:List b0) (s:b0):List b0:=if s∈ss then ss else ss++ [s]
theorem Hw {H:Hp} {s:b0} {b t:Addr} (h:c5 (.str s.1)=true) (hb:H b=some (.tup [.str s.1,.ref t])) (ht:H t=some (.tup (s.2.map V.int))):jx H (gD s) b:=by
 refine⟨?_,?_,?_⟩
 ·rw[jk,c5,iF,h,iF,c5,sY]
  rfl
 ·rw[jk]
  have:=jm s.2
  simp only[PyData.depth,PyData.depthAll]
  omega
 ·unfold gD
  exact aV.mpr ⟨b,_,_,rfl,hb,ao.mpr rfl,gZ.mpr ⟨t,_,rfl,ht,bq.ints _⟩⟩
noncomputable abbrev bT (H:Hp) (l n:Addr):Hp:=cA (cA H l) n
theorem aS {H:Hp} {l n:Addr}:aE (bT H l n) H:=λa o e=>bE _ _ (bE _ _ e)
noncomputable def AO (Fr:Addr->Prop) (H:Hp) (v:V) (nm:Str) (ns:List Int):Prop:=∃a l,v=.ref a/\H a=some (.tup [.str nm,.ref l])/\H l=some (.lst (ns.map V.int))/\Fr l
theorem AO.mono {Fr:Addr->Prop} {H H':Hp} {v:V} {nm:Str} {ns:List Int} (s:aE H H'):AO Fr H v nm ns->AO Fr H' v nm ns:=fun⟨a,l,e,h1,h2,h3⟩=>⟨a,l,e,s _ _ h1,s _ _ h2,h3⟩
theorem AO.st {Fr:Addr->Prop} {H:Hp} {v:V} {nm:Str} {ns:List Int}:AO Fr H v nm ns->wU H v nm ns:=fun⟨a,l,e,h1,h2,_⟩=>⟨a,l,e,h1,h2⟩
noncomputable def kP (P:Program) (w:World) (q:Addr) (Fr:Addr->Prop) (H:Hp) (f l n:Addr) (ss:List b0):Prop:=∃dx xs ks,bT H l n f=some (.ins q dx [(Str.ofString "states",.ref l),(Str.ofString "numbers",.ref n)])/\l≠n/\H l=some (.lst xs)/\Al (λs v=>AO Fr (bT H l n) v s.1 s.2) ss xs/\
 H n=some (Dp P w n ks)/\vM (bT H l n) ks/\kO ss ks 0/\ss.length<=120
theorem j6 {a b:V}:List.lookup (Str.ofString "states") [(Str.ofString "states",a),(Str.ofString "numbers",b)]=some a:=aaU
theorem Cs {a b:V}:List.lookup (Str.ofString "numbers") [(Str.ofString "states",a),(Str.ofString "numbers",b)]=some b:=by
 rw[du (by decide +kernel)];exact aaU
theorem yb {a b:V} {k:Str} (h1:(k==Str.ofString "states")=false) (h2:(k==Str.ofString "numbers")=false):List.lookup k [(Str.ofString "states",a),(Str.ofString "numbers",b)]=none:=by
 rw[du h1,du h2];rfl
noncomputable def Hx (P:Program) (w:World) (q:Addr):Sp:=λvs H Q _=>∃f dx,vs=[.ref f]/\H f=some (.ins q dx [])/\∀l n H',H l=none->H n=none->(∀a o,a≠f->H a=some o->bT H' l n a=some o)->(∀Fr,kP P w q Fr H' f l n [])->Q .de H'
theorem b9 {H:Hp} {l n a:Addr} (h1:a≠l) (h2:a≠n):bT H l n a=H a:=by
 show cA (cA H l) n a=_
 rw[bw h2,bw h1]
theorem gF {H:Hp} {l n a:Addr} {o:HO} (e:bT H l n a=some o):a≠l/\a≠n:=by
 have e:(if a=n then none else if a=l then none else H a)=some o:=e
 refine⟨λz=>?_,λz=>?_⟩
 ·by_cases c:a=n
  ·rw[if_pos c] at e;cases e
  ·rw[if_neg c,if_pos z] at e;cases e
 ·rw[if_pos z] at e;cases e
theorem bF {H H':Hp} {l n:Addr} (s:aE H H'):aE (bT H l n) (bT H' l n):=λa o e=>by
 obtain⟨h1,h2⟩:=gF e
 rw[b9 h1 h2] at e ⊢
 exact s _ _ e
theorem AQ {H:Hp} {l n:Addr} {o:HO}:bT (upd H l o) l n=bT H l n:=by show cA (cA (upd H l o) l) n=_;rw[dD]
theorem AR {H:Hp} {l n:Addr} {o:HO} (h:l≠n):bT (upd H n o) l n=bT H l n:=by
 funext a
 show(if a=n then none else if a=l then none else upd H n o a)=if a=n then none else if a=l then none else H a
 by_cases c:a=n
 ·rw[if_pos c,if_pos c]
 ·rw[if_neg c,if_neg c,aF c]
theorem qq (ss:List b0) (s:b0):s∈fJ ss s:=by
 unfold fJ
 split
 ·assumption
 ·simp
theorem qr (ss:List b0) (s:b0):(fJ ss s).idxOf s=ss.idxOf s:=by
 unfold fJ
 split
 ·rfl
 ·rename_i h
  rw[List.idxOf_append,if_neg h,List.idxOf_cons_self,List.idxOf_eq_length h]
  omega
theorem kP.mono {P:Program} {w:World} {q:Addr} {Fr:Addr->Prop} {H H':Hp} {f l n:Addr} {ss:List b0} (s:aE H H'):kP P w q Fr H f l n ss->kP P w q Fr H' f l n ss:=fun⟨dx,xs,ks,h1,h2,h3,h4,h5,h6,h7,h8⟩=>
 ⟨dx,xs,ks,bF s _ _ h1,h2,s _ _ h3,h4.imp λ_ _ k=>k.mono (bF s),s _ _ h5,h6.mono (bF s),h7,h8⟩
noncomputable def Kp (H H':Hp):Prop:=∀a,(∀vs,H a=some (.tup vs)->H' a=some (.tup vs))/\∀vs,H a=some (.lst vs)->H' a=some (.lst vs)
theorem Kp.of {H H':Hp} (s:aE H H'):Kp H H':=λa=>⟨λ_=>s _ _,λ_=>s _ _⟩
theorem Kp.upd {H:Hp} {p:Addr} {o:HO} (h1:∀vs,H p≠some (.tup vs)) (h2:∀vs,H p≠some (.lst vs)):Kp H (upd H p o):=λa=>by
 by_cases c:a=p
 ·subst c;exact⟨λvs e=>absurd e (h1 vs),λvs e=>absurd e (h2 vs)⟩
 ·rw[aF c];exact⟨λ_ h=>h,λ_ h=>h⟩
theorem Kp.trans {H H' H2:Hp} (a:Kp H H') (b:Kp H' H2):Kp H H2:=λx=>⟨λ_ h=>(b x).1 _ ((a x).1 _ h),λ_ h=>(b x).2 _ ((a x).2 _ h)⟩
mutual
theorem Kp.rep {H H':Hp} (s:Kp H H'):∀{d:Dat} {v:V},Rep H d v->Rep H' d v
 | .de,_,h=>by rw[Rep] at *;exact h
 | .bl _,_,h=>by rw[Rep] at *;exact h
 | .int _,_,h=>by rw[Rep] at *;exact h
 | .str _,_,h=>by rw[Rep] at *;exact h
 | .tup ds,_,h=>by
  rw[Rep] at *
  obtain⟨p,vs,e,hp,r⟩:=h
  exact⟨p,vs,e,(s p).1 _ hp,s.AM r⟩
 | .lst ds,_,h=>by
  rw[Rep] at *
  obtain⟨p,vs,e,hp,r⟩:=h
  exact⟨p,vs,e,(s p).2 _ hp,s.AM r⟩
theorem Kp.AM {H H':Hp} (s:Kp H H'):∀{ds:List Dat} {vs:List V},bq H ds vs->bq H' ds vs
 | [],_,h=>by rw[bq] at *;exact h
 | d::ds,_,h=>by
  rw[bq] at *
  obtain⟨v,r,e,h1,h2⟩:=h
  exact⟨v,r,e,s.rep h1,s.AM h2⟩
end
theorem Kp.OG {H H':Hp} (s:Kp H H'):∀{ps:List (Str×Wt)} {us:List (Key×V)},qk H ps us->qk H' ps us
 | [],_,h=>h
 | _::_,_,⟨v,r,e,h1,h2⟩=>⟨v,r,e,s.rep h1,s.OG h2⟩
theorem qk.none {H:Hp} {ps:List (Str×Wt)} {us:List (Key×V)} {n:Str} (h:qk H ps us) (nn:n∉ps.map (·.1)):df us (Sum.inr n)=none:=by
 rcases h.val (n:=n) with ⟨x,v,a,_,_⟩ | ⟨_,b⟩
 ·rw[AN nn] at a;cases a
 ·exact b
theorem vY {α:Type} {l:List α} (h:l.Nodup) {i:Nat} {x:α} (e:l[i]?=some x):x∉l.take i:=by
 intro m
 obtain⟨j,hj,ej⟩:=List.getElem_of_mem m
 rw[aaT] at hj
 rw[List.getElem_take] at ej
 obtain⟨hi,ei⟩:=List.getElem?_eq_some_iff.mp e
 have:=(List.getElem_inj h).mp (ej.trans ei.symm)
 omega
noncomputable def aZ (ss ts:List b0):List b0:=ts.foldl fJ ss
noncomputable def oZ (ss SS:List b0):Prop:=∃r,SS=ss++r
theorem oZ.refl (ss:List b0):oZ ss ss:=⟨[],(aaV _).symm⟩
theorem oZ.trans {a b c:List b0}:oZ a b->oZ b c->oZ a c:=fun⟨r,e⟩ ⟨t,f⟩=>⟨r++t,by rw[f,e,List.append_assoc]⟩
theorem Ct (ss:List b0) (s:b0):oZ ss (fJ ss s):=by
 unfold fJ
 split
 ·exact oZ.refl _
 ·exact⟨_,rfl⟩
theorem dg:∀(ts ss:List b0),oZ ss (aZ ss ts)
 | [],ss=>oZ.refl _
 | t::ts,ss=>(Ct ss t).trans (dg ts (fJ ss t))
theorem oZ.idx {ss SS:List b0} {s:b0} (h:s∈ss):oZ ss SS->SS.idxOf s=ss.idxOf s:=fun⟨r,e⟩=>by rw[e,List.idxOf_append,if_pos h]
theorem oZ.len {ss SS:List b0}:oZ ss SS->ss.length<=SS.length:=fun⟨r,e⟩=>by rw[e,aan];omega
noncomputable def M8 (g:Gm) (ns:List Int) (r:Rw):Option b0:=(eP g (r.ds.foldl (fI g.cs 0) ns) (g.ps.length+1) r.to).map λnm=>(nm,r.ds.foldl (fI g.cs 0) ns)
noncomputable def Goes (g:Gm) (st:b0) (ts:List b0):Prop:=match look g.ps st.1 with
 | some (.pick w rs)=>dY g.cs st.2 (.pick w rs)≠[]/\ts.length=(dY g.cs st.2 (.pick w rs)).length/\∀(i:Nat) r,(dY g.cs st.2 (.pick w rs))[i]?=some r->∃t,ts[i]?=some t/\M8 g st.2 r=some t/\c5 (.str t.1)=true
 | some (.fin _ _)=>ts=[]
 | some (.score _)=>ts=[]
 | _=>False
noncomputable def uv (g:Gm) (SS:List b0) (st:b0) (ts:List b0):Dat:=match look g.ps st.1 with
 | some (.pick w _)=>.tup [.str (Str.ofString "pick"),.int w,.lst (ts.map λt=>.int ((SS.idxOf t:Nat):Int))]
 | some x=>.tup [.str (Str.ofString "end"),.tup [.int ((EA g.cs st.2 x).getD (0,1)).1,.int ((EA g.cs st.2 x).getD (0,1)).2]]
 | none=>.de
theorem md {J:It} {g:TG} {tc:TT} {te:TE} {σ0:L2.St} {H1:Hp} {fin:List V->Hp->Prop} {n:Nat} {Item:Nat->V->Hp->Hp->Prop} {Ok:Hp->Prop} (S:Src J Ok n Item) (W:Nat->List V->L2.St->Hp->Prop) (p0:W 0 [] σ0 H1) (bP:∀i ys σ H,W i ys σ H->Ok H) (hz:n<=sizeLine)
  (hs:∀i x σ H ys H3 (Q:L2.St->V->Hp->Prop) (N:L2.St->Hp->Prop),i<n->W i ys σ H->Item i x H H3->
   (∀σ3 y H6,W (i+1) (ys++ [y]) σ3 H6->Q σ3 y H6)->(∀σ3 H5,W (i+1) ys σ3 H5->N σ3 H5)->
   g x σ H3 λσ3 H4=>tc σ3 H4 λb H5=>if b=true then te σ3 H5 λy H6=>Q σ3 y H6 else N σ3 H5)
  (mV:∀ys σ H,W n ys σ H->fin ys H):gn J g tc te σ0 H1 fin:=by
 refine⟨λi m ys σ H=>m=n - i/\i<=n/\ys.length<=i/\W i ys σ H,⟨n,by simp,aak _,aaf _,p0⟩,?_⟩
 rintro i m ys σ H ⟨rfl,hi,hl,p⟩
 by_cases eW:i<n
 ·refine .inr ⟨S.go i H eW (bP _ _ _ _ p),λx H3 y=>hs i x σ H ys H3 (λσ3 y H6=>ys.length<sizeLine/\∃m',m'<n - i/\m'=n - (i+1)/\i+1<=n/\(ys++ [y]).length<=i+1/\W (i+1) (ys++ [y]) σ3 H6)
   (λσ3 H5=>∃m',m'<n - i/\m'=n - (i+1)/\i+1<=n/\ys.length<=i+1/\W (i+1) ys σ3 H5) eW p (S.xf i H x H3 eW (bP _ _ _ _ p) y) (λσ3 y H6 q=>?_) (λσ3 H5 q=>?_)⟩
  ·exact⟨by omega,n - (i+1),by omega,rfl,eW,by rw[aan,aay];omega,q⟩
  ·exact⟨n - (i+1),by omega,rfl,eW,by omega,q⟩
 ·have e:i=n:=by omega
  subst e
  exact .inl ⟨S.stop H (bP _ _ _ _ p),mV ys σ H p⟩
theorem kP.fr {P:Program} {w:World} {q:Addr} {Fr Hy:Addr->Prop} {H:Hp} {f l n:Addr} {ss:List b0} (k:∀a o,H a=some o->Fr a->Hy a):kP P w q Fr H f l n ss->kP P w q Hy H f l n ss:=fun⟨dx,xs,ks,h1,h2,h3,h4,h5,h6,h7,h8⟩=>
 ⟨dx,xs,ks,h1,h2,h3,h4.imp λ_ _ ⟨a,b,e,a1,a2,a3⟩=>⟨a,b,e,a1,a2,k _ _ (aS _ _ a2) a3⟩,h5,h6,h7,h8⟩
theorem jx.tup {H H':Hp} {s:b0} {b:Addr} (k:∀a vs,H a=some (.tup vs)->H' a=some (.tup vs)):jx H (gD s) b->jx H' (gD s) b:=fun⟨h1,h2,h3⟩=>by
 refine⟨h1,h2,?_⟩
 unfold gD at h3 ⊢
 obtain⟨p,x,y,e,hp,r1,r2⟩:=aV.mp h3
 obtain⟨t,vs,e2,ht,r3⟩:=gZ.mp r2
 refine aV.mpr ⟨p,x,y,e,k _ _ hp,ao.mpr (ao.mp r1),gZ.mpr ⟨t,vs,e2,k _ _ ht,?_⟩⟩
 have:vs=s.2.map V.int:=by
  have:∀{ns:List Int} {vs:List V},bq H (ns.map Dat.int) vs->vs=ns.map V.int:=by
   intro ns
   induction ns with
   | nil=>intro vs h;exact ba.mp h
   | cons x ns ih=>
    intro vs h
    obtain⟨v,r,rfl,h1,h2⟩:=aH.mp h
    rw[aI.mp h1,ih h2]
    rfl
  exact this r3
 rw[this]
 exact bq.ints _
theorem kO.key:∀{ss:List b0} {ks:Rows} {i:Nat},kO ss ks i->∀p∈ks,∃s,p.1=gD s
 | [],_,_,h,p,hp=>by rw[kO] at h;subst h;cases hp
 | s::ss,_,_,⟨b,r,e,h⟩,p,hp=>by
  subst e
  rcases List.mem_cons.mp hp with rfl | hp
  ·exact⟨s,rfl⟩
  ·exact h.key p hp
theorem kP.Kq {P:Program} {w:World} {q:Addr} {Fr:Addr->Prop} {H:Hp} {f l n b:Addr} {ss:List b0} {ys EC:List V} (k:∀a,Fr a->a≠b) (hb:H b=some (.lst ys)) (bl:b≠l):kP P w q Fr H f l n ss->kP P w q Fr (upd H b (.lst EC)) f l n ss:=fun⟨dx,xs,ks,h1,h2,h3,h4,h5,h6,h7,h8⟩=>by
 have bn:b≠n:=λz=>by rw[z,h5] at hb;cases hb
 have up:∀a o,a≠b->bT H l n a=some o->bT (upd H b (.lst EC)) l n a=some o:=λa o ab e=>by
  obtain⟨e1,e2⟩:=gF e
  rw[b9 e1 e2] at e ⊢
  rw[aF ab]
  exact e
 have tp:∀a vs,bT H l n a=some (.tup vs)->bT (upd H b (.lst EC)) l n a=some (.tup vs):=λa vs e=>up a _ (λz=>by have:=aS _ _ e;rw[z,hb] at this;cases this) e
 refine⟨dx,xs,ks,up _ _ (λz=>by have:=aS _ _ h1;rw[z,hb] at this;cases this) h1,h2,by rw[aF (Ne.symm bl)];exact h3,h4.imp λ_ _ ⟨a,c,e,a1,a2,a3⟩=>⟨a,c,e,tp _ _ a1,up _ _ (k _ a3) a2,a3⟩,by rw[aF (Ne.symm bn)];exact h5,λp hp=>?_,h7,h8⟩
 obtain⟨s,es⟩:=h7.key p hp
 have:=h6 p hp
 rw[es] at this ⊢
 exact jx.tup tp this
noncomputable def hJ (g:Gm) (st:b0):Dat:=.lst ((dY g.cs st.2 ((look g.ps st.1).getD (.fin 0 1))).map λr=>Dat.str r.word)
inductive Pt
 | oG (n:Nat)
noncomputable def uT:Pt->List V
 | .oG n=>[.str (Str.ofString "dice"),.int 1,.int (n:Int)]
noncomputable def uU:Pt->Dat
 | .oG n=>.tup [.str (Str.ofString "dice"),.int 1,.int (n:Int)]
noncomputable def zF (ps:List Pt):Prop:=∃n,1<=n/\n<=6/\ps=[.oG n]
noncomputable def uw (n:Nat):List (Int×Int×Int):=(List.range n).map λk:Nat=>(((k:Nat):Int)+1,1,(n:Int))
noncomputable def kR:List Pt->List (Int×Int×Int)
 | [.oG n]=>uw n
 | _=>[]
noncomputable def Yc:List Pt->Int
 | [.oG n]=>(n:Int)
 | _=>1
noncomputable def Kr (H:Hp) (l:Addr) (ps:List Pt):Prop:=∃xs,H l=some (.lst xs)/\Al (λp v=>∃q,v=.ref q/\H q=some (.tup (uT p))) ps xs
theorem Kr.mono {H H':Hp} {l:Addr} {ps:List Pt} (s:aE H H'):Kr H l ps->Kr H' l ps:=fun⟨xs,h,a⟩=>⟨xs,s _ _ h,a.imp λ_ _ ⟨q,e,k⟩=>⟨q,e,s _ _ k⟩⟩
noncomputable def GoodR (W:Int) (rows:List (Int×Int×Int)):Prop:=0<W/\W<=1000000/\rows.length<=1296/\∀r∈rows,0<r.2.2/\r.2.2∣W/\0<=r.2.1/\r.2.1<=W
theorem AS {ps:List Pt} (g:zF ps):GoodR (Yc ps) (kR ps):=by
 obtain⟨n,n1,n6,rfl⟩:=g
 have l:(kR [.oG n]).length=n:=by show(uw n).length=n;unfold uw;rw[aac,aaK]
 refine⟨show(0:Int)< (n:Int) by omega,show(n:Int)<=1000000 by omega,by rw[l];omega,λr hr=>?_⟩
 obtain⟨k,_,rfl⟩:=List.mem_map.mp (show r∈(List.range n).map _ from hr)
 exact⟨show(0:Int)< (n:Int) by omega,Int.dvd_refl _,show(0:Int)<=1 by decide,show(1:Int)<=(n:Int) by omega⟩
theorem ED {p q:Pt} (h:uU p=uU q):p=q:=by
 cases p with
 | oG a=>
  cases q with
  | oG b=>
   unfold uU at h
   injection h with h
   injection h with _ h
   injection h with _ h
   injection h with h _
   injection h with h
   have:a=b:=by omega
   rw[this]
theorem zG {H:Hp} {p:Pt} {v:V} (h:Rep H (uU p) v):∃q,v=.ref q/\H q=some (.tup (uT p)):=by
 cases p with
 | oG n=>obtain⟨q,x,y,z,e,hq,a,b,c⟩:=bD.mp (show Rep H (.tup _) v from h);rw[ao.mp a,aI.mp b,aI.mp c] at hq;exact⟨q,e,hq⟩
noncomputable def Fc (H:Hp) (k:Nat) (v:V):Prop:=∃e,v=.ref e/\H e=some (.lst [.int ((k:Int)+1)])
theorem Fc.mono {H H':Hp} {k:Nat} {v:V} (s:aE H H'):Fc H k v->Fc H' k v:=fun⟨e,a,b⟩=>⟨e,a,s _ _ b⟩
noncomputable def Tr (n:Nat) (H:Hp) (k:Nat) (v:V):Prop:=∃t e,v=.ref t/\H t=some (.tup [.ref e,.int ((k:Int)+1),.int (n:Int)])/\H e=some (.lst [.int ((k:Int)+1)])
theorem Tr.mono {n:Nat} {H H':Hp} {k:Nat} {v:V} (s:aE H H'):Tr n H k v->Tr n H' k v:=fun⟨t,e,a,b,c⟩=>⟨t,e,a,s _ _ b,s _ _ c⟩
theorem qu {R:Nat->V->Prop} {n:Nat} {xs:List V} (l:xs.length=n) (h:∀(i:Nat) v,xs[i]?=some v->R i v):Al R (List.range n) xs:=Al.of (by rw[aaK];exact l) λi v k ev ek=>by
 obtain⟨h1,h2⟩:=List.getElem?_eq_some_iff.mp ek
 rw[List.getElem_range] at h2
 subst h2
 exact h i v ev
theorem gA {R:Nat->V->Prop} {n:Nat} {xs:List V} (a:Al R (List.range n) xs) {i:Nat} {v:V} (e:xs[i]?=some v):R i v/\i<n:=by
 obtain⟨k,ek,r⟩:=a.get e
 obtain⟨h1,h2⟩:=List.getElem?_eq_some_iff.mp ek
 rw[List.getElem_range] at h2
 rw[aaK] at h1
 subst h2
 exact⟨r,h1⟩
noncomputable def HA:Sp:=λvs H Q _=>∃n:Nat,vs=[.int (n:Int),.int 1]/\n<=6/\Q (.int (n:Int)) H
noncomputable def Cu:Sp:=λvs H Q _=>∃q n,vs=[.ref q]/\H q=some (.tup (uT (.oG n)))/\Q (.int 1) H
noncomputable def ux:Sp:=λvs H Q _=>∃q n,vs=[.ref q]/\H q=some (.tup (uT (.oG n)))/\n<=6/\Q (.int (n:Int)) H
noncomputable def HB:Sp:=λvs H Q _=>∃l q n,vs=[.ref l]/\H l=some (.lst [.ref q])/\H q=some (.tup (uT (.oG n)))/\n<=6/\Q .de H
noncomputable def EE:Sp:=λ_ _ _ _=>False
noncomputable def HC:Sp:=λvs H Q _=>∃n:Nat,vs=[.int 1,.int (n:Int)]/\n<=6/\∀l xs H',aE H H'->H' l=some (.lst xs)->Al (Fc H') (List.range n) xs->Q (.ref l) H'
noncomputable def HD:Sp:=λvs H Q _=>∃q n,vs=[.ref q]/\H q=some (.tup (uT (.oG n)))/\n<=6/\∀l xs H',aE H H'->H' l=some (.lst xs)->Al (Fc H') (List.range n) xs->Q (.ref l) H'
noncomputable def HE:Sp:=λvs H Q _=>∃q n e k,vs=[.ref q,.ref e]/\H q=some (.tup (uT (.oG n)))/\H e=some (.lst [.int k])/\Q (.int k) H
noncomputable def HF:Sp:=λvs H Q _=>∃q n e k,vs=[.ref q,.ref e]/\H q=some (.tup (uT (.oG n)))/\n<=6/\H e=some (.lst [.int k])/\Q (.int (n:Int)) H
noncomputable def HG:Sp:=λvs H Q _=>∃q n,vs=[.ref q]/\H q=some (.tup (uT (.oG n)))/\n<=6/\∀l xs H',aE H H'->H' l=some (.lst xs)->Al (Tr n H') (List.range n) xs->Q (.ref l) H'
noncomputable def HH:Sp:=λvs H Q _=>∃l q n,vs=[.ref l]/\H l=some (.lst [.ref q])/\H q=some (.tup (uT (.oG n)))/\n<=6/\∀l xs H',aE H H'->H' l=some (.lst xs)->Al (Tr n H') (List.range n) xs->Q (.ref l) H'
noncomputable def HI:Sp:=λvs H Q _=>∃a ps,vs=[.ref a]/\Kr H a ps/\zF ps/\ps.length<=4/\∀p H',aE H H'->H p=none->Rep H' (j3 (kR ps)) (.ref p)->Q (.ref p) H'
noncomputable def Dq (n:Nat):Nm.Ws:=(List.range n).map λk:Nat=>(((k:Nat):Int)+1,1)
theorem Cv:∀n∈[1,2,3,4,5,6],¬Nm.bad (Dq n)/\(Nm.kC (Dq n)).length<64/\Nm.rowsOf (Nm.kC (Dq n)) (Nm.pU (Nm.kC (Dq n)))=uw n:=by
 have nb:∀n∈[1,2,3,4,5,6],¬Nm.pos (Dq n)=[]:=by decide +kernel
 intro n hn
 refine⟨λb=>?_,?_⟩
 ·rcases b with ⟨x,hx,c⟩ | c
  ·obtain⟨k,_,rfl⟩:=List.mem_map.mp (show x∈(List.range n).map _ from hx)
   exact absurd c (show ¬(1:Int)<0 by decide)
  ·exact nb n hn c
 ·revert n
  decide +kernel
noncomputable def Dr (q:Addr) (H:Hp) (c:Addr) (g:Gm) (tb:Addr):Prop:=∃dx sp mo wh us ft,H c=some (.ins q dx [(Str.ofString "spots",.ref sp),(Str.ofString "mosts",.ref mo),(Str.ofString "first",.str ft),(Str.ofString "whats",.ref wh),(Str.ofString "tables",.ref tb)])/\
 H sp=some (.dK (qi g.cs 0))/\H mo=some (.lst ((g.cs.map (·.2)).map V.int))/\H wh=some (.dK us)/\qk H g.ps us/\(g.ps.map (·.1)).head?=some ft
theorem Dr.co {q:Addr} {H:Hp} {c:Addr} {g:Gm} {tb:Addr}:Dr q H c g tb->uS q H c g:=fun⟨dx,sp,mo,wh,us,ft,h1,h2,h3,h4,h5,h6⟩=>⟨dx,sp,mo,wh,tb,us,ft,h1,h2,h3,h4,h5,h6⟩
theorem Dr.mono {q:Addr} {H H':Hp} {c:Addr} {g:Gm} {tb:Addr} (s:aE H H'):Dr q H c g tb->Dr q H' c g tb:=fun⟨dx,sp,mo,wh,us,ft,h1,h2,h3,h4,h5,h6⟩=>⟨dx,sp,mo,wh,us,ft,s _ _ h1,s _ _ h2,s _ _ h3,s _ _ h4,h5.mono s,h6⟩
theorem Kp.cA {H:Hp} {tb:Addr} {kvs:List (Key×V)} (h:H tb=some (.dK kvs)):Kp H (cA H tb):=λa=>by
 by_cases c:a=tb
 ·subst c;rw[h];exact⟨(λ_ e=>by cases e),(λ_ e=>by cases e)⟩
 ·rw[bw c];exact⟨λ_ e=>e,λ_ e=>e⟩
noncomputable def HJ (q:Addr):Sp:=λvs H Q _=>∃c dx gv g,vs=[.ref c,gv]/\H c=some (.ins q dx [])/\Rep H (FL g) gv/\GoodG g/\∀tb H',(∀a o,a≠c->H a=some o->H' a=some o)->H tb=none->H' tb=some (.dK [])->Dr q (cA H' tb) c g tb->Q .de H'
noncomputable abbrev ck (H:Hp) (l n tb:Addr):Hp:=cA (bT H l n) tb
theorem cy {H:Hp} {l n tb:Addr}:aE (ck H l n tb) H:=bE.trans aS
theorem cF {H:Hp} {l n tb a:Addr} (h1:a≠l) (h2:a≠n) (h3:a≠tb):ck H l n tb a=H a:=by
 show cA (bT H l n) tb a=_
 rw[bw h3,b9 h1 h2]
theorem fK {H:Hp} {l n tb a:Addr} {o:HO} (e:ck H l n tb a=some o):a≠l/\a≠n/\a≠tb:=by
 have h3:a≠tb:=λz=>by
  have e:(if a=tb then none else bT H l n a)=some o:=e
  rw[if_pos z] at e
  cases e
 have e:cA (bT H l n) tb a=some o:=e
 rw[bw h3] at e
 obtain⟨h1,h2⟩:=gF e
 exact⟨h1,h2,h3⟩
theorem Cw {H:Hp} {l n tb:Addr}:aE (ck H l n tb) (cA H tb):=λa o e=>by
 obtain⟨h1,h2,h3⟩:=fK e
 rw[cF h1 h2 h3] at e
 rw[bw h3]
 exact e
theorem vZ {rows:List (Int×Int×Int)} {B C:Int} (h:0<B/\(∀r∈rows,r.2.2∣B)/\∀M,(∀r∈rows,r.2.2∣M)->B∣M) (k:0<C/\(∀r∈rows,r.2.2∣C)/\∀M,(∀r∈rows,r.2.2∣M)->C∣M):B=C:=
 Int.le_antisymm (Int.le_of_dvd k.1 (h.2.2 C k.2.1)) (Int.le_of_dvd h.1 (k.2.2 B h.2.1))
theorem EF {H H':Hp} {l n tb:Addr} (s:aE (cA H tb) (cA H' tb)):aE (ck H l n tb) (ck H' l n tb):=λa o e=>by
 obtain⟨h1,h2,h3⟩:=fK e
 rw[cF h1 h2 h3] at e ⊢
 have:=s a o (by rw[bw h3];exact e)
 rwa [bw h3] at this
theorem kP.tb {P:Program} {w:World} {q:Addr} {Fr:Addr->Prop} {H H':Hp} {f l n tb:Addr} {ss:List b0} {kvs:List (Key×V)} (s:aE (cA H tb) (cA H' tb)) (ht:H tb=some (.dK kvs)):kP P w q Fr H f l n ss->kP P w q Fr H' f l n ss:=fun⟨dx,xs,ks,h1,h2,h3,h4,h5,h6,h7,h8⟩=>by
 have up:∀a o,H a=some o->(∀kvs,o≠.dK kvs)->H' a=some o:=λa o e no=>by
  have ne:a≠tb:=λz=>by rw[z,ht] at e;cases e;exact no _ rfl
  have:=s a o (by rw[bw ne];exact e)
  rwa [bw ne] at this
 have OH:∀a o,bT H l n a=some o->(∀kvs,o≠.dK kvs)->bT H' l n a=some o:=λa o e no=>by
  obtain⟨e1,e2⟩:=gF e
  rw[b9 e1 e2] at e ⊢
  exact up a o e no
 have tp:∀a vs,bT H l n a=some (.tup vs)->bT H' l n a=some (.tup vs):=λa vs e=>OH _ _ e (λ_ z=>by cases z)
 refine⟨dx,xs,ks,OH _ _ h1 (λ_ z=>by cases z),h2,up _ _ h3 (λ_ z=>by cases z),h4.imp λ_ _ ⟨a,c,e,a1,a2,a3⟩=>⟨a,c,e,tp _ _ a1,OH _ _ a2 (λ_ z=>by cases z),a3⟩,up _ _ h5 (λ_ z=>by cases z),λp hp=>?_,h7,h8⟩
 obtain⟨s,es⟩:=h7.key p hp
 have:=h6 p hp
 rw[es] at this ⊢
 exact jx.tup tp this
noncomputable def Kt (rows:List (Int×Int×Int)) (B:Int):Prop:=0<B/\(∀r∈rows,r.2.2∣B)/\∀M,(∀r∈rows,r.2.2∣M)->B∣M
noncomputable def zH (rs:List Tw) (v:Int):Option Tw:=rs.find? λr=>decide (r.1<=v) && decide (v<=r.2.1)
noncomputable def OI (g:Gm) (ns:List Int) (r:Tw) (v:Int):Option b0:=(eP g (r.2.2.1.foldl (fI g.cs v) ns) (g.ps.length+1) r.2.2.2).map λnm=>(nm,r.2.2.1.foldl (fI g.cs v) ns)
noncomputable def cG (g:Gm) (st:b0) (ts:List (Int×b0)):Prop:=match look g.ps st.1 with
 | some (.pick _ _)=>Goes g st (ts.map (·.2))
 | some (.jw iG _ _ rs)=>∃ps B,iG=ps.map uU/\zF ps/\ps.length<=4/\Kt (kR ps) B/\ts.length=(kR ps).length/\∀(i:Nat) x,(Nm.weigh (kR ps) B)[i]?=some x->∃r s,zH rs x.1=some r/\ts[i]?=some (x.2,s)/\OI g st.2 r x.1=some s/\c5 (.str s.1)=true
 | some (.fin _ _)=>ts=[]
 | some (.score _)=>ts=[]
 | _=>False
noncomputable def Cy (SS:List b0) (x:Int×b0):Dat:=.tup [.int x.1,.int ((SS.idxOf x.2:Nat):Int)]
noncomputable def hU (g:Gm) (SS:List b0) (st:b0) (ts:List (Int×b0)):Dat:=match look g.ps st.1 with
 | some (.jw _ t b _)=>.tup [.str (Str.ofString "throw"),.tup [.int t,.int b],.lst (ts.map (Cy SS))]
 | _=>uv g SS st (ts.map (·.2))
theorem yc {g:Gm} {st:b0} {ts:List (Int×b0)} (h:cG g st ts):∃x,look g.ps st.1=some x:=by
 unfold cG at h
 cases lk:look g.ps st.1 with
 | none=>rw[lk] at h;exact h.elim
 | some x=>exact⟨x,rfl⟩
noncomputable def AU (H X:Hp) (tb:Addr) (g:Gm) (m:Nat) (Fr:Addr->Prop):Prop:=∃kvs,H tb=some (.dK kvs)/\kvs.length<=m/\∀nm v,df kvs (Sum.inr nm)=some v->∃ps t b rs,look g.ps nm=some (.jw (ps.map uU) t b rs)/\(∃p,v=.ref p/\Fr p)/\Rep X (j3 (kR ps)) v
theorem AU.mono {H X X':Hp} {tb:Addr} {g:Gm} {m m':Nat} {Fr:Addr->Prop} (s:aE X X') (hm:m<=m'):AU H X tb g m Fr->AU H X' tb g m' Fr:=fun⟨kvs,h1,h2,h3⟩=>⟨kvs,h1,by omega,λnm v e=>by obtain⟨ps,t,b,rs,a1,fp,a2⟩:=h3 nm v e;exact⟨ps,t,b,rs,a1,fp,a2.mono s⟩⟩
theorem AU.heap {H H' X:Hp} {tb:Addr} {g:Gm} {m:Nat} {Fr:Addr->Prop} (e:∀o,H tb=some o->H' tb=some o):AU H X tb g m Fr->AU H' X tb g m Fr:=fun⟨kvs,h1,h2,h3⟩=>⟨kvs,e _ h1,h2,h3⟩
theorem v9 {kvs:List (Key×V)} {k:Key} {v:V} (h:df kvs k=none) (k':Key):df (kvs++ [(k,v)]) k'=if k=k' then some v else df kvs k':=by
 unfold df at *
 rw[List.find?_append]
 by_cases c:k=k'
 ·subst c
  rw[if_pos rfl]
  have:kvs.find? (λkv=>decide (kv.1=k))=none:=by simpa using h
  rw[this]
  simp
 ·rw[if_neg c]
  have:List.find? (λkv:Key×V=>decide (kv.1=k')) [(k,v)]=none:=by simp [c]
  rw[this]
  simp
theorem uy:∀{ps qs:List Pt},ps.map uU=qs.map uU->ps=qs
 | [],[],_=>rfl
 | [],_::_,h=>by cases h
 | _::_,[],h=>by cases h
 | p::ps,q::qs,h=>by
  rw[aae,aae] at h
  injection h with h1 h2
  rw[ED h1,uy h2]
theorem EG {H:Hp} {v:V} {ps:List Pt} (h:Rep H (.lst (ps.map uU)) v):∃a,v=.ref a/\Kr H a ps:=by
 obtain⟨a,xs,e,ha,r⟩:=aO.mp h
 refine⟨a,e,xs,ha,?_⟩
 have:∀{ps:List Pt} {xs:List V},bq H (ps.map uU) xs->Al (λp v=>∃q,v=.ref q/\H q=some (.tup (uT p))) ps xs:=by
  intro ps
  induction ps with
  | nil=>intro xs h;rw[ba.mp h];trivial
  | cons p ps ih=>
   intro xs h
   obtain⟨v,r,rfl,h1,h2⟩:=aH.mp h
   exact⟨zG h1,ih h2⟩
 exact this r
theorem zI {H X:Hp} {rows:List (Int×Int×Int)} {p:Addr} (h:Rep H (j3 rows) (.ref p)) (kp:∀o,H p=some o->X p=some o) (kt:∀a vs,H a=some (.tup vs)->X a=some (.tup vs)):Rep X (j3 rows) (.ref p):=by
 obtain⟨a,xs,e,ha,r⟩:=aO.mp h
 cases e
 refine aO.mpr ⟨_,xs,rfl,kp _ ha,?_⟩
 refine bq.of r.length λi d v ed ev=>?_
 obtain⟨d',Cz,rd⟩:=r.get ev
 rw[ed] at Cz
 cases Cz
 rw[aad] at ed
 obtain⟨x,_,rfl⟩:=Option.map_eq_some_iff.mp ed
 obtain⟨p1,q1,rfl,h1,h2⟩:=lW.mp rd
 exact lW.mpr ⟨p1,q1,rfl,kt _ _ h1,kt _ _ h2⟩
theorem CA {H X:Hp} {ws:Nm.Ws} {p:Addr} (h:Rep H (iE ws) (.ref p)) (kp:∀o,H p=some o->X p=some o) (kt:∀a vs,H a=some (.tup vs)->X a=some (.tup vs)):Rep X (iE ws) (.ref p):=by
 obtain⟨a,xs,e,ha,r⟩:=aO.mp h
 cases e
 refine aO.mpr ⟨_,xs,rfl,kp _ ha,?_⟩
 refine bq.of r.length λi d v ed ev=>?_
 obtain⟨d',Cz,rd⟩:=r.get ev
 rw[ed] at Cz
 cases Cz
 rw[aad] at ed
 obtain⟨x,_,rfl⟩:=Option.map_eq_some_iff.mp ed
 obtain⟨q1,rfl,h1⟩:=dB.mp rd
 exact dB.mpr ⟨q1,rfl,kt _ _ h1⟩
noncomputable def HK:Sp:=λvs H Q _=>∃v ps W,vs=[v]/\Rep H (iE ps) v/\0<W/\W<=1000000/\ps.length<=1296/\(∀p∈ps,0<p.2/\p.2∣W)/\∀B,0<B->(∀M,(∀p∈ps,p.2∣M)->B∣M)->(∀p∈ps,p.2∣B)->Q (.int B) H
noncomputable def CB:Sp:=λvs H Q _=>∃v rows W,vs=[v]/\Rep H (j3 rows) v/\GoodR W rows/\∀B H',aE H H'->Kt rows B->Q (.int B) H'
noncomputable def HL:Sp:=λvs H Q _=>∃v rows W B,vs=[v,.int B]/\Rep H (j3 rows) v/\GoodR W rows/\Kt rows B/\∀p H',aE H H'->H p=none->Rep H' (iE (Nm.weigh rows B)) (.ref p)->Q (.ref p) H'
theorem CC {a b W:Int} (h1:a∣W) (h2:b∣W):a / Nm.g a b*b∣W:=by
 rw[Nm.sI,<-Int.mul_ediv_assoc _ (Nm.pf a b)]
 have e:a*b / Nm.g a b=a*b / ((Int.gcd a b:Nat):Int):=rfl
 rw[e]
 refine Int.natAbs_dvd_natAbs.mp ?_
 rw[Int.natAbs_ediv_of_dvd (Int.dvd_trans (Int.gcd_dvd_left ..) (Int.dvd_mul_right ..)),Int.natAbs_mul,Int.natAbs_natCast]
 exact Nat.lcm_dvd (Int.natAbs_dvd_natAbs.mpr h1) (Int.natAbs_dvd_natAbs.mpr h2)
theorem HM {W B:Int} {rows:List (Int×Int×Int)} (g:GoodR W rows) (gb:Kt rows B):B<=1000000:=Int.le_trans (Int.le_of_dvd g.1 (gb.2.2 W λr hr=>(g.2.2.2 r hr).2.1)) g.2.1
noncomputable def CD (q:Addr):Sp:=λvs H Q _=>∃c sv g nm ns tb kvs ps t b rs,vs=[.ref c,sv]/\Dr q (cA H tb) c g tb/\wU H sv nm ns/\H tb=some (.dK kvs)/\kvs.length<=1000/\look g.ps nm=some (.jw (ps.map uU) t b rs)/\zF ps/\ps.length<=4/\
 (∀v,df kvs (Sum.inr nm)=some v->Q v H)/\(df kvs (Sum.inr nm)=none->∀p H1,aE H H1->H p=none->Rep H1 (j3 (kR ps)) (.ref p)->Q (.ref p) (upd H1 tb (.dK (kvs++ [(Sum.inr nm,.ref p)]))))
noncomputable def HN (q:Addr):Sp:=λvs H Q _=>∃c sv v g nm ns iG t b rs r f gq,vs=[.ref c,sv,.int v]/\uS q H c g/\GoodG g/\wU H sv nm ns/\ns.length=g.cs.length/\look g.ps nm=some (.jw iG t b rs)/\zH rs v=some r/\eP g (r.2.2.1.foldl (fI g.cs v) ns) f r.2.2.2=some gq/\
 ∀p l H',aE H H'->H p=none->H l=none->H' p=some (.tup [.str gq,.ref l])->H' l=some (.lst ((r.2.2.1.foldl (fI g.cs v) ns).map V.int))->Q (.ref p) H'
noncomputable def dX (ts:List (Int×b0)):List b0:=ts.map (·.2)
noncomputable def wb (g:Gm) (SS:List b0) (dQ:List (List (Int×b0))):List Dat:=(SS.zip dQ).map λx=>hU g SS x.1 x.2
theorem sZ {H:Hp} {p:Tw->Bool}:∀{rs:List Tw} {xs:List V},bq H ((rs.map Ez).map ie) xs->bq H (((rs.filter p).map Ez).map ie) ((xs.zip rs).filterMap λx=>if p x.2=true then some x.1 else none)
 | [],xs,h=>by rw[List.zip_nil_right];exact ba.mpr rfl
 | r::rs,xs,h=>by
  obtain⟨v,ys,rfl,h1,h2⟩:=aH.mp h
  have ih:=sZ (p:=p) h2
  rw[List.zip_cons_cons,aa0]
  by_cases c:p r=true
  ·simp only[c,if_true]
   rw[List.filter_cons_of_pos c,aae,aae]
   exact aH.mpr ⟨v,_,rfl,h1,ih⟩
  ·simp only[c]
   rw[List.filter_cons_of_neg c]
   exact ih
theorem qv {α:Type} [DecidableEq α]:∀{l U:List α},l.Nodup->(∀x∈l,x∈U)->l.length<=U.length
 | [],_,_,_=>aak _
 | a::l,U,nd,h=>by
  obtain⟨na,nd⟩:=List.nodup_cons.mp nd
  have ha:=h a aai
  have:=qv (l:=l) (U:=U.erase a) nd λx hx=>by
   have xa:x≠a:=λz=>na (z▸hx)
   exact(List.mem_erase_of_ne xa).mpr (h x (aag _ hx))
  rw[List.length_erase_of_mem ha] at this
  have:=List.length_pos_of_mem ha
  rw[aar]
  omega
theorem yd {ss:List b0} {s:b0} (h:ss.Nodup):(fJ ss s).Nodup:=by
 unfold fJ
 split
 ·exact h
 ·rename_i c
  rw[List.nodup_append]
  exact⟨h,List.pairwise_singleton _ _,λa ha b hb=>by rw[List.mem_singleton.mp hb];exact λz=>c (z▸ha)⟩
theorem me:∀{ts ss:List b0},ss.Nodup->(aZ ss ts).Nodup
 | [],_,h=>h
 | _::ts,_,h=>me (ts:=ts) (yd h)
theorem AV {ss:List b0} {s x:b0}:x∈fJ ss s↔x∈ss\/x=s:=by
 unfold fJ
 split
 ·rename_i c
  exact⟨.inl,λh=>h.elim id λz=>z▸c⟩
 ·rw[List.mem_append,List.mem_singleton]
theorem eI:∀{ts ss:List b0} {x:b0},x∈aZ ss ts↔x∈ss\/x∈ts
 | [],_,_=>by
  unfold aZ
  simp
 | t::ts,ss,x=>by
  show x∈aZ (fJ ss t) ts↔_
  rw[eI (ts:=ts),AV,aaq,or_assoc]
theorem kS {g:Gm} {st:b0} {ts us:List (Int×b0)} (np:∀wo rs,look g.ps st.1≠some (.pick wo rs)) (h:cG g st ts) (k:cG g st us):ts=us:=by
 unfold cG at h k
 cases lk:look g.ps st.1 with
 | none=>rw[lk] at h;exact h.elim
 | some x=>
  rw[lk] at h k
  cases x with
  | pick wo rs=>exact absurd lk (np wo rs)
  | fin _ _=>rw[show ts=[] from h,show us=[] from k]
  | score _=>rw[show ts=[] from h,show us=[] from k]
  | ask _ _ _ _=>exact h.elim
  | jw iG t b rs=>
   obtain⟨ps,B,e1,_,_,ib,l1,a1⟩:=h
   obtain⟨qs,C,e2,_,_,ic,l2,a2⟩:=k
   have:ps=qs:=uy (e1.symm.trans e2)
   subst this
   have:=vZ ib ic
   subst this
   apply List.ext_getElem?
   intro i
   by_cases hi:i< (kR ps).length
   ·have hw:i< (Nm.weigh (kR ps) B).length:=by unfold Nm.weigh;rw[aac];exact hi
    obtain⟨r,s,ro,et,gt,_⟩:=a1 i _ (aap hw)
    obtain⟨r',s',VB,Yd,VC,_⟩:=a2 i _ (aap hw)
    rw[ro] at VB
    cases VB
    rw[gt] at VC
    cases VC
    rw[et,Yd]
   ·rw[aaR (by omega),aaR (by omega)]
noncomputable def qw (g:Gm) (st:b0):Prop:=∃wo rs,look g.ps st.1=some (.pick wo rs)/\dY g.cs st.2 (.pick wo rs)=[]
theorem cG.stuck {g:Gm} {st:b0} {ts:List (Int×b0)} (h:cG g st ts):¬qw g st:=by
 rintro⟨wo,rs,lk,e⟩
 unfold cG at h
 rw[lk] at h
 have h:Goes g st (ts.map (·.2)):=h
 unfold Goes at h
 rw[lk] at h
 exact h.1 e
noncomputable def dZ (g:Gm) (o:Nat) (SS:List b0):Nat->List b0->List (List (Int×b0))->Prop
 | i,ss,[]=>oZ ss SS/\(o=0->ss=SS/\i=SS.length)/\(o=1->∃st,ss[i]?=some st/\st.2.length=g.cs.length/\qw g st)/\(o=2->∃st ts,ss[i]?=some st/\st.2.length=g.cs.length/\cG g st ts/\120< (aZ ss (dX ts)).length)
 | i,ss,ts::r=>∃st,ss[i]?=some st/\st.2.length=g.cs.length/\cG g st ts/\dZ g o SS (i+1) (aZ ss (dX ts)) r
theorem dZ.tf {g:Gm} {o:Nat} {SS:List b0}:∀{r:List (List (Int×b0))} {i:Nat} {ss:List b0},dZ g o SS i ss r->oZ ss SS
 | [],_,_,h=>h.1
 | ts::_,_,ss,⟨_,_,_,_,h⟩=>(dg (dX ts) ss).trans h.tf
theorem dZ.all {g:Gm} {SS:List b0}:∀{r:List (List (Int×b0))} {i:Nat} {ss:List b0},dZ g 0 SS i ss r->i+r.length=SS.length/\∀j,i<=j->j<SS.length->∃st ts,SS[j]?=some st/\st.2.length=g.cs.length/\cG g st ts/\∀t∈dX ts,t∈SS
 | [],i,ss,h=>⟨(h.2.1 rfl).2,λj h1 h2=>by have:=(h.2.1 rfl).2;omega⟩
 | ts::r,i,ss,⟨st,es,ls,go,h⟩=>by
  obtain⟨a,b⟩:=h.all
  refine⟨by rw[aar];omega,λj h1 h2=>?_⟩
  by_cases c:i=j
  ·subst c
   obtain⟨q,e⟩:=(dg (dX ts) ss).trans h.tf
   obtain⟨q',e'⟩:=h.tf
   exact⟨st,ts,by rw[e,aaN (List.getElem?_eq_some_iff.mp es).1];exact es,ls,go,λt ht=>by rw[e'];exact aaO _ (eI.mpr (.inr ht))⟩
  ·exact b j (by omega) h2
theorem dZ.ex {g:Gm} {R:b0->Prop} (cl:∀st,R st->st.2.length=g.cs.length/\(qw g st\/∃ts,cG g st ts/\∀t∈dX ts,R t)):∀(k i:Nat) (ss:List b0),ss.Nodup->(∀s∈ss,R s)->i<=ss.length->ss.length<=120->120<=i+k->∃o SS dQ,o<=2/\dZ g o SS i ss dQ/\SS.length<=120/\SS.Nodup/\(∀s∈SS,R s)/\(o=1->∃st,R st/\qw g st)/\(o=2->∃us:List b0,us.Nodup/\(∀s∈us,R s)/\120<us.length):=by
 intro k
 induction k with
 | zero=>
  intro i ss nd sub hi CF hk
  exact⟨0,ss,[],by decide,⟨oZ.refl _,λ_=>⟨rfl,by omega⟩,(λz=>by cases z),(λz=>by cases z)⟩,CF,nd,sub,(λz=>by cases z),(λz=>by cases z)⟩
 | succ k ih=>
  intro i ss nd sub hi CF hk
  by_cases e:i=ss.length
  ·exact⟨0,ss,[],by decide,⟨oZ.refl _,λ_=>⟨rfl,e⟩,(λz=>by cases z),(λz=>by cases z)⟩,CF,nd,sub,(λz=>by cases z),(λz=>by cases z)⟩
  ·have eW:i<ss.length:=by omega
   have hm:=sub _ (List.getElem_mem eW)
   have es:=aap eW
   obtain⟨l,sk | ⟨ts,go,to⟩⟩:=cl _ hm
   ·exact⟨1,ss,[],by decide,⟨oZ.refl _,(λz=>by cases z),λ_=>⟨_,es,l,sk⟩,(λz=>by cases z)⟩,CF,nd,sub,λ_=>⟨_,hm,sk⟩,(λz=>by cases z)⟩
   ·have VD:(aZ ss (dX ts)).Nodup:=me nd
    have Ku:∀s∈aZ ss (dX ts),R s:=λs hs=>(eI.mp hs).elim (sub s) (to s)
    by_cases c:(aZ ss (dX ts)).length<=120
    ·have a:=(dg (dX ts) ss).len
     obtain⟨o,SS,dQ,ho,h1,h2⟩:=ih (i+1) (aZ ss (dX ts)) VD Ku (by omega) c (by omega)
     exact⟨o,SS,ts::dQ,ho,⟨ss[i],es,l,go,h1⟩,h2⟩
    ·exact⟨2,ss,[],by decide,⟨oZ.refl _,(λz=>by cases z),(λz=>by cases z),λ_=>⟨_,ts,es,l,go,by omega⟩⟩,CF,nd,sub,(λz=>by cases z),λ_=>⟨_,VD,Ku,by omega⟩⟩
noncomputable def kT (P:Program) (w:World) (q qm:Addr):Sp:=λvs H Q E=>∃f sv Fr l n ss s,vs=[.ref f,sv]/\kP P w q Fr H f l n ss/\AO Fr (bT H l n) sv s.1 s.2/\c5 (.str s.1)=true/\s.2.length<=100/\(s∉ss->ss.length=120->∀H',aE H H'->E (.ref qm) none H')/\((s∈ss\/ss.length<120)->∀H',aE (bT H l n) (bT H' l n)->kP P w q Fr H' f l n (fJ ss s)->Q (.int ((ss.idxOf s:Nat):Int)) H')
noncomputable def zJ (P:Program) (w:World) (qc qf qn qm:Addr):Sp:=λvs H Q E=>∃c f sv Fr l n g ss st wo rs,vs=[.ref c,.ref f,sv]/\uS qc (bT H l n) c g/\GoodG g/\kP P w qf Fr H f l n ss/\(∀a,H a=none->Fr a)/\wU (bT H l n) sv st.1 st.2/\st.2.length=g.cs.length/\look g.ps st.1=some (.pick wo rs)/\
 (dY g.cs st.2 (.pick wo rs)=[]->∀H',aE H H'->E (.ref qn) none H')/\
 (dY g.cs st.2 (.pick wo rs)≠[]->∃ts SS,Goes g st ts/\((aZ ss ts).length<=120->oZ (aZ ss ts) SS)/\(120< (aZ ss ts).length->∀H',aE (bT H l n) (bT H' l n)->E (.ref qm) none H')/\
  ((aZ ss ts).length<=120->∀p H',aE (bT H l n) (bT H' l n)->kP P w qf Fr H' f l n (aZ ss ts)->H p=none->bT H' l n p=some (.lst (ts.map λt=>V.int ((SS.idxOf t:Nat):Int)))->Q (.ref p) H'))
noncomputable def CG (P:Program) (w:World) (qc qf qm:Addr):Sp:=λvs H Q E=>∃c f sv Fr l n tb g ss st ts iG t b rs SS m,vs=[.ref c,.ref f,sv]/\Dr qc (ck H l n tb) c g tb/\GoodG g/\kP P w qf Fr H f l n ss/\AU H (ck H l n tb) tb g m Fr/\m<=200/\(∀a,H a=none->Fr a)/\wU (ck H l n tb) sv st.1 st.2/\st.2.length=g.cs.length/\look g.ps st.1=some (.jw iG t b rs)/\
 cG g st ts/\((aZ ss (dX ts)).length<=120->oZ (aZ ss (dX ts)) SS)/\(120< (aZ ss (dX ts)).length->∀H',aE (ck H l n tb) (ck H' l n tb)->E (.ref qm) none H')/\
 ((aZ ss (dX ts)).length<=120->∀p H',aE (ck H l n tb) (ck H' l n tb)->kP P w qf Fr H' f l n (aZ ss (dX ts))->AU H' (ck H' l n tb) tb g (m+1) Fr->H p=none->Rep (ck H' l n tb) (.lst (ts.map (Cy SS))) (.ref p)->Q (.ref p) H')
noncomputable def zK (P:Program) (w:World) (qc qf qn qm:Addr):Sp:=λvs H Q E=>∃c f sv Fr l n tb g ss st m,vs=[.ref c,.ref f,sv]/\Dr qc (ck H l n tb) c g tb/\GoodG g/\kP P w qf Fr H f l n ss/\AU H (ck H l n tb) tb g m Fr/\m<=200/\(∀a,H a=none->Fr a)/\wU (ck H l n tb) sv st.1 st.2/\st.2.length=g.cs.length/\
 (qw g st->∀H',aE H H'->E (.ref qn) none H')/\
 (¬qw g st->∃ts SS,cG g st ts/\((aZ ss (dX ts)).length<=120->oZ (aZ ss (dX ts)) SS)/\(120< (aZ ss (dX ts)).length->∀H',aE (ck H l n tb) (ck H' l n tb)->E (.ref qm) none H')/\
  ((aZ ss (dX ts)).length<=120->∀u H',aE (ck H l n tb) (ck H' l n tb)->kP P w qf Fr H' f l n (aZ ss (dX ts))->AU H' (ck H' l n tb) tb g (m+1) Fr->(∀b ys,H b=some (.lst ys)->Rep (cA (ck H' l n tb) b) (hU g SS st ts) u/\∃q vs,u=.ref q/\cA (ck H' l n tb) b q=some (.tup vs)/\∀x y w,vs=[x,y,.ref w]->H w=none)->Q u H'))
noncomputable def Jc (H0 X:Hp) (b l:Addr) (v:V):Prop:=∃q vs,v=.ref q/\X q=some (.tup vs)/\∀x y w,vs=[x,y,.ref w]->H0 w=none/\w≠b/\w≠l
theorem Jc.mono {H0 X X':Hp} {b l:Addr} {v:V} (s:aE X X'):Jc H0 X b l v->Jc H0 X' b l v:=fun⟨q,vs,e,h,k⟩=>⟨q,vs,e,s _ _ h,k⟩
noncomputable def ye (qn qm:Addr):Sp:=λvs H Q E=>∃gv g ft nm F o SS dQ,vs=[gv]/\Rep H (FL g) gv/\GoodG g/\(g.ps.map (·.1)).head?=some ft/\eP g (List.replicate g.cs.length 0) F ft=some nm/\c5 (.str nm)=true/\o<=2/\dZ g o SS 0 [(nm,List.replicate g.cs.length 0)] dQ/\SS.length<=120/\
 (o=1->∀H',aE H H'->E (.ref qn) none H')/\(o=2->∀H',aE H H'->E (.ref qm) none H')/\
 (o=0->∀p b l wl bs xs ws H',aE H H'->H b=none->H' p=some (.tup [.ref b,.ref l,.ref wl])->H' b=some (.lst bs)->bq H' (wb g SS dQ) bs->(∀v∈bs,Jc H H' b l v)->H' l=some (.lst xs)->Al (λs v=>AO (λa=>H a=none/\a≠b/\a≠l) H' v s.1 s.2) SS xs->H' wl=some (.lst ws)->bq H' (SS.map (hJ g)) ws->Q (.ref p) H')
theorem pw {K:PySem.W.Frag} {H:Hp}:∀{ps:List (Str×Wt)} {vs:List V},bq H (ps.map λp=>Dat.tup [.str p.1,ph p.2]) vs->
  ∃rows:List (Addr×Key×V),vs=rows.map (λr=>V.ref r.1)/\(∀r∈rows,hX K H r.1 [kV r.2.1,r.2.2])/\rows.map (·.2.1)=ps.map (λp=>(Sum.inr p.1:Key))/\
   ∀n t,look ps n=some t->∃v,df (rows.map (·.2)) (.inr n)=some v/\Rep H (ph t) v
 | [],vs,h=>by
  rw[List.map_nil] at h
  exact⟨[],ba.mp h,(λr hr=>by cases hr),rfl,(λn t e=>by cases e)⟩
 | p::ps,vs,h=>by
  rw[aae] at h
  obtain⟨v,r,rfl,rv,rr⟩:=aH.mp h
  obtain⟨rows,e1,e2,e3,e4⟩:=pw (K:=K) rr
  obtain⟨q,a,b,rfl,hq,ra,rb⟩:=aV.mp rv
  rw[ao] at ra
  subst ra
  refine⟨(q,.inr p.1,b)::rows,by rw[e1];rfl,λr hr=>?_,by rw[aae,aae,e3],λn t e=>?_⟩
  ·rcases List.mem_cons.mp hr with rfl | hr
   ·exact hX.of hq
   ·exact e2 r hr
  ·by_cases c:p.1=n
   ·have e':p.2=t:=by
     unfold look at e
     rw[aaD,decide_eq_true c] at e
     exact aaI e
    subst e'
    refine⟨b,?_,rb⟩
    unfold df
    rw[aae,aaD,decide_eq_true (by rw[c])]
    rfl
   ·have e':look ps n=some t:=by
     unfold look at e
     rw[aaD,decide_eq_false c] at e
     exact e
    obtain⟨v,hv,r⟩:=e4 n t e'
    refine⟨v,?_,r⟩
    unfold df
    rw[aae,aaD,decide_eq_false (λz=>c (Sum.inr.inj z))]
    exact hv
theorem nh {l:List (Str×Wt)} (h:(l.map (·.1)).Nodup):(l.map λp=>(Sum.inr p.1:Key)).Nodup:=by
 have e:(l.map λp=>(Sum.inr p.1:Key))=(l.map (·.1)).map Sum.inr:=by rw[aav];rfl
 rw[e]
 exact List.Pairwise.map _ (λa b n z=>n (Sum.inr.inj z)) h
theorem hV {n:Str} {x:Wt} {ps:List (Str×Wt)}:look ((n,x)::ps) n=some x:=by
 unfold look
 rw[List.find?_cons_of_pos (by simp)]
 rfl
theorem fo {n m:Str} {x:Wt} {ps:List (Str×Wt)} (h:n≠m):look ((n,x)::ps) m=look ps m:=by
 unfold look
 rw[List.find?_cons_of_neg (by simpa using h)]
theorem gG {g:Gm} {ns:List Int} {f:Nat} {nm:Str} {x:Wt} (lk:look g.ps nm=some x) (na:∀c k a b,x≠.ask c k a b):eP g ns (f+1) nm=some nm:=by
 unfold eP
 rw[lk]
 cases x with
 | ask c k a b=>exact absurd rfl (na c k a b)
 | _=>rfl
theorem EH {s:Nat} (h1:1<=s):Kt (uw s) (s:Int):=by
 refine⟨by omega,λr hr=>?_,λM hM=>?_⟩
 ·obtain⟨k,_,rfl⟩:=List.mem_map.mp (show r∈(List.range s).map _ from hr)
  exact Int.dvd_refl _
 ·exact hM (((0:Nat):Int)+1,1,(s:Int)) (List.mem_map.mpr ⟨0,List.mem_range.mpr (by omega),rfl⟩)
theorem AW {s i:Nat} {x:Int×Int} (h1:1<=s) (e:(Nm.weigh (uw s) (s:Int))[i]?=some x):i<s/\x=((i:Int)+1,1):=by
 unfold Nm.weigh uw at e
 rw[aav,aad] at e
 obtain⟨k,ek,rfl⟩:=Option.map_eq_some_iff.mp e
 obtain⟨a,b⟩:=List.getElem?_eq_some_iff.mp ek
 rw[List.getElem_range] at b
 rw[aaK] at a
 subst b
 refine⟨a,?_⟩
 show(((i:Nat):Int)+1,1* ((s:Int) / (s:Int)))=_
 rw[Int.ediv_self (by omega),Int.one_mul]
noncomputable def cN:List Str:=[Str.ofString "sum",Str.ofString "all",Str.ofString "if"]
noncomputable def GoodC (cs:List (Str×Int)):Prop:=1<=cs.length/\cs.length<=3/\∀(i:Nat) c,cs[i]?=some c->cN[i]?=some c.1/\1<=c.2/\c.2<=60
theorem qx {cs:List (Str×Int)} (g:GoodC cs):(cs.map (·.1)).Nodup/\∀n∈cs.map (·.1),c5 (.str n)=true:=by
 obtain⟨g1,g2,g3⟩:=g
 have e:cs.map (·.1)=cN.take cs.length:=by
  apply List.ext_getElem?
  intro i
  rw[aad]
  cases ei:cs[i]? with
  | none=>
   rw[aaR (l:=cN.take cs.length) (by rw[aa7] at ei;rw[aaT];omega)]
   rfl
  | some x=>
   rw[List.getElem?_take,if_pos (List.getElem?_eq_some_iff.mp ei).1,(g3 i x ei).1]
   rfl
 rw[e]
 have:∀k∈[1,2,3],(cN.take k).Nodup/\∀n∈cN.take k,c5 (.str n)=true:=by decide +kernel
 exact this _ (by simp;omega)
noncomputable def o4 (cs:List (Str×Int)) (th:Bool):Dd->Prop
 | .set n k=>n∈cs.map (·.1)/\0<=k
 | .plus n k=>n∈cs.map (·.1)/\0<=k
 | .face n=>n∈cs.map (·.1)/\th=true
 | .move n m=>n∈cs.map (·.1)/\m∈cs.map (·.1)/\n≠m
theorem o4.good {cs:List (Str×Int)} {th:Bool}:∀{d:Dd},o4 cs th d->sU cs d
 | .set _ _,h=>h.1
 | .plus _ _,h=>h.1
 | .face _,h=>h.1
 | .move _ _,h=>⟨h.1,h.2.1⟩
noncomputable def EI:Str:=Str.ofString "roll"
noncomputable def FO:Str:=Str.ofString "hold"
noncomputable def Kv:Str:=Str.ofString "stay"
noncomputable def j7:Str:=Str.ofString "die"
noncomputable def jn:Str:=Str.ofString "pick"
noncomputable def wV:Str:=Str.ofString "ask"
noncomputable def jB:Str:=Str.ofString "won"
noncomputable def kU:Str:=Str.ofString "lost"
noncomputable def CH:Str:=Str.ofString "sum"
noncomputable def wW:Str:=Str.ofString "all"
noncomputable def EJ:Str:=Str.ofString "from"
noncomputable def EK:Str:=Str.ofString "below"
noncomputable def rM:List Str:=[j7,jn,wV,jB,kU]
structure rN (cs:List (Str×Int)) (th:Bool) (ds:List Dd) (to:Str):Prop where
 le:ds.length<=6
 ok:∀d∈ds,o4 cs th d
 to:to∈rM
noncomputable def AX (cs:List (Str×Int)) (wh:Option (Str×Str×Int)):Prop:=∀n x k,wh=some (n,x,k)->n∈cs.map (·.1)/\(x=EJ\/x=EK)
structure Gp where
 cs:List (Str×Int)
 d:Nat
 d1:List Dd
 t1:Str
 d2:List Dd
 t2:Str
 iy:Int
 rs:List Rw
 ac:Str
 ak:Int
 rev:Bool
noncomputable def Gp.EL (G:Gp):List Tw:=[(1,1,G.d1,G.t1),(2,9,G.d2,G.t2)]
noncomputable def Gp.OJ (G:Gp):Str×Wt:=(j7,.jw [uU (.oG G.d)] (-1) 1 G.EL)
noncomputable def Gp.pPi (G:Gp):Str×Wt:=(jn,.pick G.iy G.rs)
noncomputable def Gp.rest (G:Gp):List (Str×Wt):=[(wV,.ask G.ac G.ak jB kU),(jB,.fin 1 1),(kU,.fin 0 1)]
noncomputable def Gp.two (G:Gp):List (Str×Wt):=if G.rev=true then [G.pPi,G.OJ] else [G.OJ,G.pPi]
noncomputable def Gp.g (G:Gp):Gm:=⟨G.cs,G.two++G.rest⟩
structure Gp.Ok (G:Gp):Prop where
 gc:GoodC G.cs
 d2:2<=G.d
 d4:G.d<=4
 o1:rN G.cs true G.d1 G.t1
 o2:rN G.cs true G.d2 G.t2
 r0:∃r t,G.rs=r::t/\r.wh=none
 rl:G.rs.length<=3
 rk:∀r∈G.rs,rN G.cs false r.ds r.to/\AX G.cs r.wh
 ac:G.ac∈G.cs.map (·.1)
section Ye
variable {G : Gp}
theorem qy:look G.g.ps j7=some (.jw [uU (.oG G.d)] (-1) 1 G.EL):=by
 show look (G.two++G.rest) j7=_
 unfold Gp.two
 split
 ·show look ((jn,_)::(j7,_)::_) j7=_
  rw[fo (by decide +kernel)]
  exact hV
 ·exact hV
theorem j8:look G.g.ps jn=some (.pick G.iy G.rs):=by
 show look (G.two++G.rest) jn=_
 unfold Gp.two
 split
 ·exact hV
 ·show look ((j7,_)::(jn,_)::_) jn=_
  rw[fo (by decide +kernel)]
  exact hV
theorem uz {n:Str} (h1:j7≠n) (h2:jn≠n):look G.g.ps n=look G.rest n:=by
 show look (G.two++G.rest) n=_
 unfold Gp.two
 split
 ·show look ((jn,_)::(j7,_)::_) n=_
  rw[fo h2,fo h1]
  rfl
 ·show look ((j7,_)::(jn,_)::_) n=_
  rw[fo h1,fo h2]
  rfl
theorem CI:look G.g.ps wV=some (.ask G.ac G.ak jB kU):=by
 rw[uz (by decide +kernel) (by decide +kernel)]
 exact hV
theorem tq:look G.g.ps jB=some (.fin 1 1):=by
 rw[uz (by decide +kernel) (by decide +kernel)]
 show look (_::_) jB=_
 rw[fo (by decide +kernel)]
 exact hV
theorem tu:look G.g.ps kU=some (.fin 0 1):=by
 rw[uz (by decide +kernel) (by decide +kernel)]
 show look (_::_::_) kU=_
 rw[fo (by decide +kernel),fo (by decide +kernel)]
 exact hV
theorem CJ:(G.g.ps.map (·.1)).Nodup:=by
 show((G.two++G.rest).map (·.1)).Nodup
 unfold Gp.two
 split
 ·show([jn,j7,wV,jB,kU]:List Str).Nodup
  decide +kernel
 ·show([j7,jn,wV,jB,kU]:List Str).Nodup
  decide +kernel
theorem zL:G.g.ps.length=5:=by
 show(G.two++G.rest).length=5
 unfold Gp.two
 split <;>rfl
noncomputable def Gp.ft (G:Gp):Str:=if G.rev=true then jn else j7
theorem OK:(G.g.ps.map (·.1)).head?=some G.ft:=by
 show((G.two++G.rest).map (·.1)).head?=_
 unfold Gp.two Gp.ft
 split <;>rfl
theorem wc:G.ft=j7\/G.ft=jn:=by
 unfold Gp.ft
 split
 ·exact .inr rfl
 ·exact .inl rfl
theorem yf:∀n∈rM,c5 (.str n)=true:=by decide +kernel
theorem Gp.Ok.gg (K:G.Ok):GoodG G.g:=by
 have lc:=K.gc
 refine⟨(qx K.gc).1,CJ,by show G.cs.length<=100;have:=lc.2.1;omega,by rw[zL];decide,by rw[zL];decide,λp hp=>?_⟩
 have hp:p∈G.two++G.rest:=hp
 have EL:zy G.cs (.jw [uU (.oG G.d)] (-1) 1 G.EL):=by
  refine⟨show 1<=100 by decide,show 2<=100 by decide,λr hr=>?_⟩
  unfold Gp.EL at hr
  rcases List.mem_cons.mp hr with rfl | hr
  ·exact⟨by have:=K.o1.le;show G.d1.length<=100;omega,λd hd=>(K.o1.ok d hd).good⟩
  ·rw[List.mem_singleton.mp hr]
   exact⟨by have:=K.o2.le;show G.d2.length<=100;omega,λd hd=>(K.o2.ok d hd).good⟩
 have pk:zy G.cs (.pick G.iy G.rs):=⟨by have:=K.rl;omega,λr hr=>⟨by have:=(K.rk r hr).1.le;omega,λd hd=>((K.rk r hr).1.ok d hd).good⟩⟩
 have:p=G.OJ\/p=G.pPi\/p∈G.rest:=by
  unfold Gp.two at hp
  split at hp
  ·rcases List.mem_append.mp hp with hp | hp
   ·rcases List.mem_cons.mp hp with h | hp
    ·exact .inr (.inl h)
    ·exact .inl (List.mem_singleton.mp hp)
   ·exact .inr (.inr hp)
  ·rcases List.mem_append.mp hp with hp | hp
   ·rcases List.mem_cons.mp hp with h | hp
    ·exact .inl h
    ·exact .inr (.inl (List.mem_singleton.mp hp))
   ·exact .inr (.inr hp)
 rcases this with rfl | rfl | hp
 ·exact EL
 ·exact pk
 ·unfold Gp.rest at hp
  rcases List.mem_cons.mp hp with rfl | hp
  ·exact K.ac
  rcases List.mem_cons.mp hp with rfl | hp
  ·trivial
  ·rw[List.mem_singleton.mp hp];trivial
noncomputable def Gp.Be (G:Gp) (ms:List Int) (to:Str):Str:=if to=wV then (if G.ak<=ms.getD (bL G.cs G.ac) 0 then jB else kU) else to
noncomputable def ends:List Str:=[j7,jn,jB,kU]
theorem uA {ms:List Int} {to:Str} (h:to∈rM):G.Be ms to∈ends:=by
 unfold Gp.Be
 split
 ·split
  ·exact aag _ (aag _ aai)
  ·exact aag _ (aag _ (aag _ aai))
 ·rename_i c
  unfold rM at h
  unfold ends
  simp only[aaq,aaw,or_false] at h ⊢
  rcases h with h | h | h | h | h
  ·exact .inl h
  ·exact .inr (.inl h)
  ·exact absurd h c
  ·exact .inr (.inr (.inl h))
  ·exact .inr (.inr (.inr h))
theorem ni {ns:List Int} {f:Nat} {n:Str} (h:n∈ends):eP G.g ns (f+1) n=some n:=by
 unfold ends at h
 simp only[aaq,aaw,or_false] at h
 rcases h with rfl | rfl | rfl | rfl
 ·exact gG qy (λ_ _ _ _ z=>by cases z)
 ·exact gG j8 (λ_ _ _ _ z=>by cases z)
 ·exact gG tq (λ_ _ _ _ z=>by cases z)
 ·exact gG tu (λ_ _ _ _ z=>by cases z)
theorem zM {ns:List Int} {f:Nat} {to:Str} (h:to∈rM):eP G.g ns (f+2) to=some (G.Be ns to):=by
 by_cases c:to=wV
 ·subst c
  unfold eP Gp.Be
  rw[CI,if_pos rfl]
  show(if G.ak<=ns.getD (bL G.cs G.ac) 0 then _ else _)=_
  split
  ·exact ni (aag _ (aag _ aai))
  ·exact ni (aag _ (aag _ (aag _ aai)))
 ·have:=uA (G:=G) (ms:=ns) h
  unfold Gp.Be at this ⊢
  rw[if_neg c] at this ⊢
  exact ni this
noncomputable def Gp.R (G:Gp) (st:b0):Prop:=st.2.length=G.cs.length/\st.1∈ends
noncomputable def Gp.row (G:Gp) (k:Nat):List Dd×Str:=if k=0 then (G.d1,G.t1) else (G.d2,G.t2)
noncomputable def Gp.nx (G:Gp) (x:Int) (ds:List Dd) (to:Str) (ns:List Int):b0:=(G.Be (ds.foldl (fI G.cs x) ns) to,ds.foldl (fI G.cs x) ns)
noncomputable def Gp.jw (G:Gp) (ns:List Int):List (Int×b0):=(List.range G.d).map λk:Nat=>(1,G.nx ((k:Int)+1) (G.row k).1 (G.row k).2 ns)
noncomputable def Gp.qz (G:Gp) (ns:List Int):List Rw:=dY G.cs ns (.pick G.iy G.rs)
theorem uB (K:G.Ok) (k:Nat):rN G.cs true (G.row k).1 (G.row k).2:=by
 unfold Gp.row
 split
 ·exact K.o1
 ·exact K.o2
theorem Kw {x:Int} {ds:List Dd} {to:Str} {ns:List Int} (h:to∈rM) (l:ns.length=G.cs.length):G.R (G.nx x ds to ns):=⟨by show(ds.foldl (fI G.cs x) ns).length=_;rw[fC,l],uA h⟩
theorem HP (K:G.Ok) {k:Nat} (h:k<G.d):∃a b,zH G.EL ((k:Int)+1)=some (a,b,(G.row k).1,(G.row k).2):=by
 have:=K.d4
 unfold zH Gp.EL Gp.row
 by_cases c:k=0
 ·subst c
  exact⟨1,1,rfl⟩
 ·rw[if_neg c,List.find?_cons_of_neg (by simp;omega),List.find?_cons_of_pos (by simp;omega)]
  exact⟨_,_,rfl⟩
theorem zN (K:G.Ok) {st:b0} (e:st.1=j7):cG G.g st (G.jw st.2):=by
 have d2:=K.d2
 have d4:=K.d4
 unfold cG
 rw[e,qy]
 refine⟨[.oG G.d],(G.d:Int),rfl,⟨G.d,by omega,by omega,rfl⟩,show 1<=4 by decide,EH (by omega),?_,λi x ex=>?_⟩
 ·show _=(uw G.d).length
  unfold uw Gp.jw
  rw[aac,aac]
 ·obtain⟨hi,rfl⟩:=AW (by omega) ex
  obtain⟨a,b,er⟩:=HP K hi
  refine⟨_,_,er,by unfold Gp.jw;rw[aad,List.getElem?_range hi];rfl,?_,yf _ ?_⟩
  ·unfold OI
   rw[zL]
   show(eP G.g ((G.row i).1.foldl (fI G.cs ((i:Int)+1)) st.2) (4+2) (G.row i).2).map _=_
   rw[zM (uB K i).to]
   rfl
  ·have:=uA (G:=G) (ms:=(G.row i).1.foldl (fI G.cs ((i:Int)+1)) st.2) (uB K i).to
   unfold ends at this
   unfold rM
   simp only[aaq,aaw,or_false] at this ⊢
   rcases this with h | h | h | h
   ·exact .inl h
   ·exact .inr (.inl h)
   ·exact .inr (.inr (.inr (.inl h)))
   ·exact .inr (.inr (.inr (.inr h)))
theorem we {n:Str} (h:n∈ends):n∈rM:=by
 unfold ends at h
 unfold rM
 simp only[aaq,aaw,or_false] at h ⊢
 rcases h with h | h | h | h
 ·exact .inl h
 ·exact .inr (.inl h)
 ·exact .inr (.inr (.inr (.inl h)))
 ·exact .inr (.inr (.inr (.inr h)))
theorem qA {ns:List Int} {r:Rw} (h:r∈G.qz ns):r∈G.rs:=(List.mem_filter.mp (show r∈G.rs.filter _ from h)).1
theorem CK (K:G.Ok) {ns:List Int}:G.qz ns≠[]:=by
 obtain⟨r,t,e,w⟩:=K.r0
 intro z
 have:r∈G.qz ns:=List.mem_filter.mpr ⟨by rw[e];exact aai,by rw[w];rfl⟩
 rw[z] at this
 cases this
theorem CL (K:G.Ok) {ns:List Int} {r:Rw} (h:r∈G.rs):M8 G.g ns r=some (G.nx 0 r.ds r.to ns):=by
 unfold M8
 rw[zL]
 show(eP G.g (r.ds.foldl (fI G.cs 0) ns) (4+2) r.to).map _=_
 rw[zM (K.rk r h).1.to]
 rfl
theorem EM (K:G.Ok) {st:b0} (e:st.1=jn):cG G.g st ((G.qz st.2).map λr=>(0,G.nx 0 r.ds r.to st.2)):=by
 unfold cG
 rw[e,j8]
 show Goes G.g st _
 unfold Goes
 rw[e,j8]
 refine⟨CK K,by rw[aac,aac];rfl,λi r er=>?_⟩
 have hr:=qA (G:=G) (aal er)
 exact⟨G.nx 0 r.ds r.to st.2,by rw[aad,aad,show(G.qz st.2)[i]?=some r from er];rfl,CL K hr,yf _ (we (uA (K.rk r hr).1.to))⟩
theorem HQ (K:G.Ok) {st:b0} {ts:List (Int×b0)} (e:st.1=jn) (go:cG G.g st ts):ts.map (·.2)=(G.qz st.2).map λr=>G.nx 0 r.ds r.to st.2:=by
 unfold cG at go
 rw[e,j8] at go
 have go:Goes G.g st (ts.map (·.2)):=go
 unfold Goes at go
 rw[e,j8] at go
 obtain⟨_,l,al⟩:=go
 have l:(ts.map (·.2)).length=(G.qz st.2).length:=l
 apply List.ext_getElem?
 intro i
 rw[aad (l:=G.qz st.2)]
 cases er:(G.qz st.2)[i]? with
 | none=>rw[aa7] at er;rw[aaR (by omega)];rfl
 | some r=>
  obtain⟨t,et,gr,_⟩:=al i r er
  rw[CL K (qA (aal er))] at gr
  rw[et,<-gr]
  rfl
theorem FP (K:G.Ok) {st:b0} {ts:List (Int×b0)} (e:st.1=j7) (go:cG G.g st ts):ts=G.jw st.2:=kS (λwo rs z=>by rw[e,qy] at z;cases z) go (zN K e)
theorem zO {st:b0} (e:st.1=jB):cG G.g st []:=by unfold cG;rw[e,tq]
theorem zP {st:b0} (e:st.1=kU):cG G.g st []:=by unfold cG;rw[e,tu]
theorem HR (K:G.Ok) {st:b0} (h:G.R st):st.2.length=G.g.cs.length/\∃ts,cG G.g st ts/\∀t∈dX ts,G.R t:=by
 obtain⟨l,h⟩:=h
 refine⟨l,?_⟩
 unfold ends at h
 simp only[aaq,aaw,or_false] at h
 rcases h with e | e | e | e
 ·refine⟨_,zN K e,λt ht=>?_⟩
  unfold dX Gp.jw at ht
  rw[aav] at ht
  obtain⟨k,_,rfl⟩:=List.mem_map.mp ht
  exact Kw (uB K k).to l
 ·refine⟨_,EM K e,λt ht=>?_⟩
  unfold dX at ht
  rw[aav] at ht
  obtain⟨r,hr,rfl⟩:=List.mem_map.mp ht
  exact Kw (K.rk r (qA hr)).1.to l
 ·exact⟨[],zO e,λt ht=>by cases ht⟩
 ·exact⟨[],zP e,λt ht=>by cases ht⟩
theorem Gp.Ok.out (K:G.Ok):∃o SS dQ,o<=2/\o≠1/\dZ G.g o SS 0 [(G.ft,List.replicate G.g.cs.length 0)] dQ/\SS.length<=120/\SS.Nodup/\(∀s∈SS,G.R s):=by
 have r0:G.R (G.ft,List.replicate G.g.cs.length 0):=⟨List.length_replicate,by
  rcases wc (G:=G) with e | e
  ·show G.ft∈ends;rw[e];exact aai
  ·show G.ft∈ends;rw[e];exact aag _ aai⟩
 obtain⟨o,SS,dQ,o2,sp,uC,Yg,sub,h1,_⟩:=dZ.ex (g:=G.g) (R:=G.R) (λst hs=>⟨(HR K hs).1,.inr (HR K hs).2⟩) 120 0 [(G.ft,List.replicate G.g.cs.length 0)] (List.pairwise_singleton _ _) (λs hs=>by rw[List.mem_singleton.mp hs];exact r0) (aak _) (show 1<=120 by decide) (by decide)
 refine⟨o,SS,dQ,o2,λz=>?_,sp,uC,Yg,sub⟩
 obtain⟨st,hs,sk⟩:=h1 z
 obtain⟨_,ts,go,_⟩:=HR K hs
 exact go.stuck sk
theorem HS {ns:List Int} {f:Nat}:eP G.g ns (f+1) G.ft=some G.ft:=by
 rcases wc (G:=G) with e | e
 ·rw[e];exact gG qy (λ_ _ _ _ z=>by cases z)
 ·rw[e];exact gG j8 (λ_ _ _ _ z=>by cases z)
theorem FQ:c5 (.str G.ft)=true:=by
 rcases wc (G:=G) with e | e
 ·rw[e];decide +kernel
 ·rw[e];decide +kernel
end Ye
theorem dZ.led {g:Gm} {SS:List b0} (nd:SS.Nodup):∀{r:List (List (Int×b0))} {i:Nat} {ss:List b0},dZ g 0 SS i ss r->∀j,ss.length<=j->j<SS.length->∃k ts,k<j/\i<=k/\r[k - i]?=some ts/\∀s,SS[j]?=some s->s∈dX ts
 | [],i,ss,h,j,h1,h2=>by have:=(h.2.1 rfl).1;subst this;omega
 | ts::r,i,ss,⟨st,es,ls,go,h⟩,j,h1,h2=>by
  have hi:=(List.getElem?_eq_some_iff.mp es).1
  by_cases c:j< (aZ ss (dX ts)).length
  ·refine⟨i,ts,by omega,aaf _,by rw[Nat.sub_self];rfl,λs e=>?_⟩
   obtain⟨q,eq⟩:=h.tf
   rw[eq,aaN c] at e
   have hm:=eI.mp (aal e)
   rcases hm with hm | hm
   ·exfalso
    obtain⟨i',ei⟩:=List.getElem?_of_mem hm
    have Yh:=(List.getElem?_eq_some_iff.mp ei).1
    obtain⟨q2,eq2⟩:=(dg (dX ts) ss).trans h.tf
    have e1:SS[i']?=some s:=by rw[eq2,aaN Yh];exact ei
    have e2:SS[j]?=some s:=by rw[eq,aaN c];exact e
    obtain⟨a1,b1⟩:=List.getElem?_eq_some_iff.mp e1
    obtain⟨a2,b2⟩:=List.getElem?_eq_some_iff.mp e2
    have:=(List.getElem_inj nd).mp (b1.trans b2.symm)
    omega
   ·exact hm
  ·obtain⟨k,VE,k1,k2,k3,k4⟩:=h.led nd j (by omega) h2
   refine⟨k,VE,k1,by omega,?_,k4⟩
   rw[show k - i=(k - (i+1))+1 by omega]
   exact k3
theorem dZ.at {g:Gm} {SS:List b0}:∀{r:List (List (Int×b0))} {i:Nat} {ss:List b0},dZ g 0 SS i ss r->∀j st ts,SS[j]?=some st->i<=j->r[j - i]?=some ts->st.2.length=g.cs.length/\cG g st ts/\∀t∈dX ts,t∈SS
 | [],i,ss,h,j,st,ts,e,h1,h2=>by cases h2
 | us::r,i,ss,⟨Bu,es,ls,go,h⟩,j,st,ts,e,h1,h2=>by
  by_cases c:i=j
  ·subst c
   rw[Nat.sub_self] at h2
   cases h2
   obtain⟨q,eq⟩:=(dg (dX us) ss).trans h.tf
   rw[eq,aaN (List.getElem?_eq_some_iff.mp es).1,es] at e
   cases e
   obtain⟨q',e'⟩:=h.tf
   exact⟨ls,go,λt ht=>by rw[e'];exact aaO _ (eI.mpr (.inr ht))⟩
  ·refine h.at j st ts e (by omega) ?_
   rw[show j - i=(j - (i+1))+1 by omega] at h2
   exact h2
structure Ds (n:Nat) (wy:Nat->List Nat) (fs ls:List Nat):Prop where
 nd:fs.Nodup
 lt:∀f∈fs,f<n
 z:0∈fs
 sub:∀f∈ls,f∈fs
 cl:∀f∈fs,f∉ls->∀t∈wy f,t∈fs
structure Dt (n:Nat) (wy:Nat->List Nat) (f:Nat) (i:Nat) (fs ls:List Nat):Prop where
 nd:fs.Nodup
 lt:∀f∈fs,f<n
 z:0∈fs
 sub:∀f∈ls,f∈fs
 cl:∀g∈fs,g∉ls->g≠f->∀t∈wy g,t∈fs
 tk:∀t∈(wy f).take i,t∈fs
theorem Ds.pop {n:Nat} {wy:Nat->List Nat} {fs ls:List Nat} {f:Nat} (I:Ds n wy fs (ls++ [f])):Dt n wy f 0 fs ls:=
 ⟨I.nd,I.lt,I.z,λg hg=>I.sub g (aaO _ hg),λg hg h1 h2=>I.cl g hg (λz=>by rcases List.mem_append.mp z with z | z;exact h1 z;exact h2 (List.mem_singleton.mp z)),λt ht=>by cases ht⟩
theorem Dt.done {n:Nat} {wy:Nat->List Nat} {fs ls:List Nat} {f i:Nat} (J:Dt n wy f i fs ls) (h:(wy f).length<=i):Ds n wy fs ls:=
 ⟨J.nd,J.lt,J.z,J.sub,λg hg h1 t ht=>by
  by_cases c:g=f
  ·subst c
   exact J.tk t (by rw[aaE h];exact ht)
  ·exact J.cl g hg h1 c t ht⟩
theorem Dt.old {n:Nat} {wy:Nat->List Nat} {fs ls:List Nat} {f i t:Nat} (J:Dt n wy f i fs ls) (e:(wy f)[i]?=some t) (h:t∈fs):Dt n wy f (i+1) fs ls:=
 ⟨J.nd,J.lt,J.z,J.sub,J.cl,λu hu=>by
  rw[aaF,e] at hu
  rcases List.mem_append.mp hu with hu | hu
  ·exact J.tk u hu
  ·have:u=t:=by simpa using hu
   rw[this];exact h⟩
theorem Dt.new {n:Nat} {wy:Nat->List Nat} {fs ls:List Nat} {f i t:Nat} (J:Dt n wy f i fs ls) (e:(wy f)[i]?=some t) (h:t∉fs) (l:t<n):Dt n wy f (i+1) (fs++ [t]) (ls++ [t]):=by
 refine⟨?_,λg hg=>?_,aaO _ J.z,λg hg=>?_,λg hg h1 h2 u hu=>?_,λu hu=>?_⟩
 ·rw[List.nodup_append]
  exact⟨J.nd,List.pairwise_singleton _ _,λa ha b hb z=>by rw[List.mem_singleton.mp hb] at z;exact h (z▸ha)⟩
 ·rcases List.mem_append.mp hg with hg | hg
  ·exact J.lt g hg
  ·rw[List.mem_singleton.mp hg];exact l
 ·rcases List.mem_append.mp hg with hg | hg
  ·exact aaO _ (J.sub g hg)
  ·exact aaB _ hg
 ·rcases List.mem_append.mp hg with hg | hg
  ·exact aaO _ (J.cl g hg (λz=>h1 (aaO _ z)) h2 u hu)
  ·exact absurd (aaB _ hg) h1
 ·rw[aaF,e] at hu
  rcases List.mem_append.mp hu with hu | hu
  ·exact aaO _ (J.tk u hu)
  ·have:u=t:=by simpa using hu
   rw[this];exact aaB _ (List.mem_singleton.mpr rfl)
theorem Ds.len {n:Nat} {wy:Nat->List Nat} {fs ls:List Nat} (nd:fs.Nodup) (lt:∀f∈fs,f<n):fs.length<=n:=by
 have:=qv (U:=List.range n) nd λx hx=>List.mem_range.mpr (lt x hx)
 rwa [aaK] at this
theorem Ds.all {n:Nat} {wy:Nat->List Nat} {fs:List Nat} (I:Ds n wy fs []) (led:∀j,j<n->j≠0->∃k,k<j/\j∈wy k):fs.length=n:=by
 have al:∀j,j<n->j∈fs:=by
  intro j
  induction j using Nat.strongRecOn with
  | ind j ih=>
   intro h
   by_cases c:j=0
   ·rw[c];exact I.z
   ·obtain⟨k,kj,hk⟩:=led j h c
    exact I.cl k (ih k kj (by omega)) (by simp) j hk
 have a:=Ds.len (wy:=wy) (ls:=[]) I.nd I.lt
 have b:=qv (l:=List.range n) (U:=fs) List.nodup_range λx hx=>al x (List.mem_range.mp hx)
 rw[aaK] at b
 omega
theorem HU {SS:List b0} (nd:SS.Nodup) {j:Nat} {s:b0} (e:SS[j]?=some s):SS.idxOf s=j:=by
 obtain⟨a,b⟩:=List.getElem?_eq_some_iff.mp e
 have hl:=aa2 (aal e)
 exact(List.getElem_inj nd).mp ((List.getElem_idxOf hl).trans b.symm)
noncomputable def yg (SS:List b0) (dQ:List (List (Int×b0))) (j:Nat):List Nat:=(dX (dQ[j]?.getD [])).map λs=>SS.idxOf s
theorem dZ.OL {g:Gm} {SS:List b0} {s0:b0} {dQ:List (List (Int×b0))} (nd:SS.Nodup) (sp:dZ g 0 SS 0 [s0] dQ) (j:Nat) (h:j<SS.length) (h0:j≠0):∃k,k<j/\j∈yg SS dQ k:=by
 obtain⟨k,ts,k1,_,k3,k4⟩:=sp.led nd j (show 1<=j by omega) h
 rw[Nat.sub_zero] at k3
 refine⟨k,k1,?_⟩
 have e:=aap h
 unfold yg
 rw[k3]
 exact List.mem_map.mpr ⟨_,k4 _ e,HU nd e⟩
theorem EN {c:TT} {tb:TS} {D:Ends} {σ:L2.St} {H:Hp} (Pv:Nat->L2.St->Hp->Prop) {m:Nat} (h0:Pv m σ H)
  (hs:∀m σ H,Pv m σ H->∃b:Bool,∃Z:Hp->Prop,(∀Q:Bool->Hp->Prop,(∀H',Z H'->Q b H')->c σ H Q)/\∀H',Z H'->if b=true then tb {D with nx:=λσ' H'=>∃m',m'<m/\Pv m' σ' H',ct:=λσ' H'=>∃m',m'<m/\Pv m' σ' H',bk:=D.nx} σ H' else D.nx σ H'):tM c tb D σ H:=by
 refine⟨Pv,⟨m,h0⟩,?_⟩
 intro m σ H p
 obtain⟨b,Z,k,q⟩:=hs m σ H p
 refine k _ λH' z=>?_
 have q:=q H' z
 cases b with
 | true=>exact⟨_,λσ' H' h=>h,q⟩
 | false=>exact q
section OM
variable {G : Gp} {SS : List b0} {st : b0} {ts : List (Int × b0)}
theorem uD (e:st.1=j7):hU G.g SS st ts=.tup [.str (Str.ofString "throw"),.tup [.int (-1),.int 1],.lst (ts.map (Cy SS))]:=by
 unfold hU
 rw[e,qy]
theorem uE (e:st.1=jn):hU G.g SS st ts=.tup [.str (Str.ofString "pick"),.int G.iy,.lst ((ts.map (·.2)).map λt=>.int ((SS.idxOf t:Nat):Int))]:=by
 unfold hU
 rw[e,j8]
 show uv G.g SS st (ts.map (·.2))=_
 unfold uv
 rw[e,j8]
theorem yh (e:st.1=jB):hU G.g SS st ts=ph (.fin 1 1):=by
 unfold hU
 rw[e,tq]
 show uv G.g SS st (ts.map (·.2))=_
 unfold uv
 rw[e,tq]
 rfl
theorem yi (e:st.1=kU):hU G.g SS st ts=ph (.fin 0 1):=by
 unfold hU
 rw[e,tu]
 show uv G.g SS st (ts.map (·.2))=_
 unfold uv
 rw[e,tu]
 rfl
theorem HV (e:st.1=j7):hJ G.g st=.lst []:=by
 unfold hJ
 rw[e,qy]
 rfl
theorem HW (e:st.1=jn):hJ G.g st=.lst ((G.qz st.2).map λr=>.str r.word):=by
 unfold hJ
 rw[e,j8]
 rfl
theorem uF (h:st.1∈ends):st.1=j7\/st.1=jn\/st.1=jB\/st.1=kU:=by
 unfold ends at h
 simpa only[aaq,aaw,or_false] using h
theorem yj {dQ:List (List (Int×b0))} {k:Nat} (e1:SS[k]?=some st) (e2:dQ[k]?=some ts):(wb G.g SS dQ)[k]?=some (hU G.g SS st ts):=by
 unfold wb
 rw[aad,List.getElem?_zip_eq_some (z:=(st,ts)) |>.mpr ⟨e1,e2⟩]
 rfl
end OM
theorem Kx {H X:Hp} {v:V} (kt:∀a vs,H a=some (.tup vs)->X a=some (.tup vs)):∀{d:Dd},Rep H (uq d) v->Rep X (uq d) v
 | .set n k,h=>by obtain⟨q,x,y,z,e,hq,a,b,c⟩:=bD.mp (show Rep H (.tup _) v from h);exact bD.mpr ⟨q,x,y,z,e,kt _ _ hq,ao.mpr (ao.mp a),ao.mpr (ao.mp b),aI.mpr (aI.mp c)⟩
 | .plus n k,h=>by obtain⟨q,x,y,z,e,hq,a,b,c⟩:=bD.mp (show Rep H (.tup _) v from h);exact bD.mpr ⟨q,x,y,z,e,kt _ _ hq,ao.mpr (ao.mp a),ao.mpr (ao.mp b),aI.mpr (aI.mp c)⟩
 | .face n,h=>by obtain⟨q,x,y,e,hq,a,b⟩:=aV.mp (show Rep H (.tup _) v from h);exact aV.mpr ⟨q,x,y,e,kt _ _ hq,ao.mpr (ao.mp a),ao.mpr (ao.mp b)⟩
 | .move n m,h=>by obtain⟨q,x,y,z,e,hq,a,b,c⟩:=bD.mp (show Rep H (.tup _) v from h);exact bD.mpr ⟨q,x,y,z,e,kt _ _ hq,ao.mpr (ao.mp a),ao.mpr (ao.mp b),ao.mpr (ao.mp c)⟩
theorem zQ {H:Hp} {ds:List Dd} {u l:Addr} {xs:List V} (h:Rep H (.lst (ds.map uq)) (.ref u)) (hl:H l=some (.lst xs)) (ul:u≠l):Rep (cA H l) (.lst (ds.map uq)) (.ref u):=by
 obtain⟨a,ys,e,ha,r⟩:=aO.mp h
 cases e
 refine aO.mpr ⟨_,ys,rfl,by rw[bw ul];exact ha,?_⟩
 refine bq.of r.length λi d v ed ev=>?_
 obtain⟨d',Cz,rd⟩:=r.get ev
 rw[ed] at Cz
 cases Cz
 rw[aad] at ed
 obtain⟨x,_,rfl⟩:=Option.map_eq_some_iff.mp ed
 exact Kx (λa vs e=>by rw[bw (λz=>by rw[z,hl] at e;cases e)];exact e) rd
noncomputable def fS (K:PySem.W.Frag):Sp:=λvs H Q _=>∃a ns k,vs=[.ref a,.int k]/\bN K H a (List.map V.int ns)/\0<=k/\k<1000/\∀n,Q (.int n) H
noncomputable def zR (K:PySem.W.Frag):Sp:=λvs H Q _=>∃(a:Addr) (ns:List Int),vs=[.ref a]/\bN K H a (ns.map V.int)/\ns.length<=63/\∀H',Q (.bl true) H'
section
variable {P : Program} {w : World} {K : PySem.W.Frag} {mg : Str -> Option Value} {base : Heap}
variable {aK aL aG aY ag aD : Addr}
theorem fZ:bo ["one","other","rest"] ["one","other"] (aw (top 7)):=⟨rfl,rfl,rfl,by decide +kernel,rfl,by decide +kernel,by decide +kernel⟩
theorem FR (T:Txt K mg aK aL aG aY ag aD):cS P w K mg base (bO P w) 1 "common_divisor" ["one","other"] Cn:=by
 refine T.m8.eO (λ_ _ _ _ _ _ us hl=>match us,hl with | [_,_],_=>rfl) λf fd F=>F.gu fZ (λvs H Q E h=>?_) (λbZ A outer s H vs Q E hr h=>?_)
 ·obtain⟨_,_,rfl,_⟩:=h;rfl
 ·refine(?_:let G_:Prop:=_;G_)
  intro G_
  obtain⟨a,b,rfl,k⟩:=h
  dsimp only[G_]
  have nd:=fZ.nd
  refine⟨_,(ai (aP (i:=0) nd rfl (Or.inl rfl) (bh vh (by rfl) T.z_abs rfl (aa (pv 0) af (se rfl)) (he:=se rfl) (hpl:=na rfl)))
  (ai (aP (i:=1) nd rfl (Or.inl rfl) (bh vh (by rfl) T.z_abs rfl (aa (pv 1) af (se rfl)) (he:=se rfl) (hpl:=na rfl)))
  (ai (lI PassesOwn.never (aN oj (pv 1) ae (aU _)) (ai (aP (i:=2) nd rfl (Or.inl rfl) (aX bK (pv 0) (pv 1)))
  (ai (aP (i:=0) nd rfl (Or.inl rfl) (pv 1))
  (aA (aP (i:=1) nd rfl (Or.inl rfl) (pv 2))))))
  (aA (bf (pv 0)))))),?_⟩
  refine(?_:let cB:TS:=_;let cC:TS:=_;let cD:TS:=_;let dE:TS:=_;tSeq cB (tSeq cC (tSeq cD dE)) _ _ _)
  intro cB cC cD dE
  simp_all only[]
  refine Bv (λσ H1=>H1=H/\∃(x y:Int) (z:Option V),σ=[some (.int x),some (.int y),z]/\0<=x/\0<=y/\Nm.g x y=Nm.g a b) (λσ _=>match σ with | [_,some (.int y),_]=>y.toNat | _=>0) ?_ ?_ ?_
  ·refine⟨rfl,_,_,_,rfl,?_,?_,?_⟩
   ·split <;>omega
   ·split <;>omega
   ·rw[show(if a<0 then -a else a)=(a.natAbs:Int) by split <;>omega,show(if b<0 then -b else b)=(b.natAbs:Int) by split <;>omega,Nm.Fv,Nm.zf]
  ·intro σ H1 eQ
   refine(?_:let G_:Prop:=_;G_)
   intro G_
   obtain⟨rfl,x,y,z,rfl,x0,y0,e⟩:=eQ
   dsimp only[G_]
   simp_all only[]
   refine rj (λc=>?_) (λc=>?_)
   ·refine⟨by omega,y0,aaZ _ (by omega),by rw[Nm.GZ x0 (by omega),e],?_⟩
    have:=aa6 x (show 0<y by omega)
    have:=aaZ x (show y≠0 by omega)
    omega
   ·have z:y=0:=by omega
    subst z
    rw[Nm.G0 x0] at e
    rw[e]
    exact k
  ·intro σ H1 Q1 Q2 hq hc
   simp only[L2.start,Pr,tRev,tSortR,tD1,tDPop1,tSl,tNoPart,tPart,rSlL,tDIn,tDNotIn,gSub,rSetL,tLst,tDNewK,tComp,L2.stC,tFor_eq,iList,iTup,iRng1,iRng2,iZip,iEnum,iDict,iStr,tChain,tSumV,tBM,rJoin,tJoined,jNil,jLit,jInt,jStr,tRaise,tDGet,tDGet2,tDGet1,sDPut,Option.join_some,List.getElem?_nil,tSeq,tRet,tRetN,tIfS,tTest,tB,tOp,tUn,tVar,tC,tCB,tCons,tNil,tCall,tTupS,tAsg,gName,gNil,gCons,tPar,tNext,tDrop,tAnd,tOr,tNot,tAndV,tOrV,tNotV,tIf,rI,rI0,rU,rIxTH,rIxLH,rEqT,rNeT,rInT,rEq,rNe,scal,CPow,at0,at1,at2,aae,List.map_nil,aar,aaW,Nat.reduceSub,Nat.reduceAdd,Nat.zero_add,List.replicate_zero,List.reduceReplicate,aaV,List.nil_append,List.cons_append,List.getElem?_cons_zero,List.getElem?_cons_succ,aaX,aaY,Option.some.injEq,exists_eq_left',exists_eq_left,V.ref.injEq,V.int.injEq,V.bl.injEq,V.str.injEq,V.ty.injEq,HO.tup.injEq,HO.lst.injEq,List.cons.injEq,and_true,true_and,and_assoc,exists_and_left,decide_eq_true_eq,Bool.not_eq_true',decide_eq_false_iff_not,ite_true,ite_false,if_true,if_false,Int.reduceToNat,eq_self_iff_true] at hc ⊢
   refine(?_:let G_:Prop:=_;G_)
   intro G_
   obtain⟨v,e1,e2,q⟩:=hc
   dsimp only[G_]
   exact⟨v,e1,e2,hq _ _ q⟩
theorem wg:bo ["top","bottom","divisor"] ["top","bottom"] (aw (top 8)):=⟨rfl,rfl,rfl,by decide +kernel,rfl,by decide +kernel,by decide +kernel⟩
theorem Ky (T:Txt K mg aK aL aG aY ag aD):cS P w K mg base (bO P w) 2 "share" ["top","bottom"] (Hs aK):=by
 have ef:cS P w K mg base (bO P w) 1 "common_divisor" ["one","other"] Cn:=FR T
 refine T.Eu.eO (λ_ _ _ _ _ _ us hl=>match us,hl with | [_,_],_=>rfl) λf fd F=>F.Fw wg (λvs H Q E h=>?_) (λbZ A outer s H vs Q E hr h=>?_)
 ·obtain⟨_,_,rfl,_⟩:=h;rfl
 ·refine(?_:let G_:Prop:=_;G_)
  intro G_
  obtain⟨a,b,rfl,bt,kE,kQ⟩:=h
  dsimp only[G_]
  have nd:=wg.nd
  have AY:A.handled=none:=hr.hd
  refine⟨_,(ai (bG (aN bW (pv 1) ae (aU _)) (aA (gz rfl T.k_NoShare T.x_NoShare AY (aa aJ af (se rfl)) (he:=se rfl) (hpl:=na rfl)))
   bj)
  (ai (aP (i:=2) nd rfl (Or.inl rfl) (br ef (hr.mono (by decide)) rfl aM.pass (aa (pv 0) (aa (pv 1) af (se rfl)) (se rfl)) (he:=se rfl) (hpl:=na rfl)))
  (ai (bG (aN pG (pv 1) ae (aU _)) (aA (aP (i:=2) nd rfl (Or.inl rfl) (j1 gj (pv 2))))
   bj)
  (aA (bf (aQ (aa (aX vy (pv 0) (pv 2)) (aa (aX vy (pv 1) (pv 2)) af (se rfl)) (se rfl)))))))),?_⟩
  refine(?_:let cB:TS:=_;let cC:TS:=_;let cD:TS:=_;let dE:TS:=_;tSeq cB (tSeq cC (tSeq cD dE)) _ _ _)
  intro cB cC cD dE
  simp_all only[Cn,tRaise]
  refine rj (λz=>?_) (λz=>?_)
  ·exact⟨by decide,kE z⟩
  ·have g0:0<Nm.g a b:=Nm.Fu z
   have gb:Bt 5000 (Nm.g a b):=bt.le (by have:=Nm.BN (a:=a) z;omega)
   have kq:=kQ z
   unfold Nm.st Nm.sb at kq
   refine rj (λc=>?_) (λc=>?_)
   ·rw[if_pos c,if_pos c] at kq
    rw[Nm.BQ g0 (Nm.tY a b),Nm.BQ g0 (Nm.pf a b)]
    exact⟨pO.of (by omega) gb.neg,pO.of (by omega) gb.neg,by decide,λp H2 s1 n1 e=>kq p H2 s1 n1 e⟩
   ·rw[if_neg c,if_neg c] at kq
    rw[Nm.BP g0,Nm.BP g0]
    exact⟨pO.of (by omega) gb,pO.of (by omega) gb,by decide,λp H2 s1 n1 e=>kq p H2 s1 n1 e⟩
theorem eX:bo ["weights","bottom"] ["weights","bottom"] (aw (top 11)):=⟨rfl,rfl,rfl,by decide +kernel,rfl,by decide +kernel,by decide +kernel⟩
theorem Kz (T:Txt K mg aK aL aG aY ag aD):cS P w K mg base (bO P w) 3 "table_by_weights" ["weights","bottom"] Ey:=by
 have EO:cS P w K mg base (bO P w) 2 "share" ["top","bottom"] (Hs aK):=Ky T
 refine T.kH.eO (λ_ _ _ _ _ _ us hl=>match us,hl with | [_,_],_=>rfl) λf fd F=>F.gu eX (λvs H Q E h=>?_) (λbZ A outer s H vs Q E hr h=>?_)
 ·obtain⟨_,_,_,rfl,_⟩:=h;rfl
 ·refine(?_:let G_:Prop:=_;G_)
  intro G_
  obtain⟨d,B,ws,rfl,hd,ndk,hz,B0,bB,k⟩:=h
  dsimp only[G_]
  have nd:=eX.nd
  refine⟨_,(aA (bf (cL rfl (N:=["weights","bottom"]) (so:=aw (top 11)) (N':=["value","weights","bottom"]) (k:=1) (fr:=[0,1]) rfl rfl ⟨rfl,by decide +kernel,by decide +kernel,by decide +kernel,rfl,by decide +kernel,by decide +kernel⟩ (bx (K:=K) (bh pT (by rfl) T.z_sorted rfl (aa (pv 0) af (se rfl)) (he:=se rfl) (hpl:=na rfl))) (λ_ _ _ _ _=>(aT (i:=0) (show(["value","weights","bottom"]:List Str).Nodup by decide +kernel) rfl (Or.inl rfl))) (λ_ _ _ _ _=>cJ)
   (λ_ _ _ _ _=>(aQ (aa (pv 0) (aa (br EO (hr.mono (by decide)) rfl aM.pass (aa (dk (dt hr) (pv 1) (pv 0) (λ_ _=>rfl)) (aa (pv 2) af (se rfl)) (se rfl)) (he:=se rfl) (hpl:=na rfl)) af (se rfl)) (se rfl))))))),?_⟩
  simp_all only[]
  refine⟨enc ws,.inl hd,BU ws,by rw[ub];exact hz,λl nl=>⟨⟨_,bN.of ar⟩,?_⟩⟩
  rw[Av]
  have sm:aE H (upd H l (.lst (List.map V.int (Nm.t9 (Nm.keys ws))))):=aj nl
  have ll:(List.map V.int (Nm.t9 (Nm.keys ws))).length=ws.length:=by rw[aac,Nm.gT];unfold Nm.keys;rw[aac]
  refine comp_map (src_list (λH2 s2=>s2.seq (bN.of ar))) (λ_ _ _ _ h=>by rw[h.1];exact aE.refl _) (by rw[ll,sizeLine_eq];omega) (λi y H2=>∀r,(Nm.rowsOf ws B)[i]?=some r->Rep H2 (Ej r) y) (λi y H2 H3 s3 h r e=>(h r e).mono s3) ?_ ?_
  ·rintro i x w0 H2 H3 Q2 hi s2 ⟨rfl,hx⟩ kq
   rw[aad] at hx
   refine(?_:let G_:Prop:=_;G_)
   intro G_
   obtain⟨v,ev,rfl⟩:=Option.map_eq_some_iff.mp hx
   dsimp only[G_]
   have hv:v∈Nm.keys ws:=Nm.Ed.mp (aal ev)
   have hd2:=s2 _ _ (sm _ _ hd)
   simp_all only[Hs]
   refine⟨_,BV hd2 hv,_,rfl,bB,λz=>absurd z B0,λ_ p H4 s4 _ e4=>⟨by decide,λp5 H5 s5 _ e5=>?_⟩⟩
   refine kq _ _ (s4.trans s5) λr er=>?_
   have:r=(v,Nm.st (Nm.look ws v) B,Nm.sb (Nm.look ws v) B):=by
    unfold Nm.rowsOf at er
    rw[aad,ev] at er
    exact(aaI er).symm
   subst this
   exact lW.mpr ⟨p5,p,rfl,e5,s5 _ _ e4⟩
  ·intro ys H2 s2 ly hy D n1 n2
   refine k _ _ (sm.trans (s2.trans (aj n2))) (none_of sm n1) (aO.mpr ⟨D,ys,rfl,ar,?_⟩)
   refine bq.of ?_ λi dd v e1 e2=>?_
   ·rw[aac,ly]
    unfold Nm.rowsOf
    rw[aac,aac]
   ·rw[aad] at e1
    refine(?_:let G_:Prop:=_;G_)
    intro G_
    obtain⟨r,er,rfl⟩:=Option.map_eq_some_iff.mp e1
    dsimp only[G_]
    exact(hy i v e2 r er).mono (aj n2)
theorem oH:bo ["rows","weights","value","weight"] ["rows"] (aw (top 12)):=⟨rfl,rfl,rfl,by decide +kernel,rfl,by decide +kernel,by decide +kernel⟩
theorem KA (T:Txt K mg aK aL aG aY ag aD):cS P w K mg base (bO P w) 4 "table_of" ["rows"] (Ht aL):=by
 have kX:cS P w K mg base (bO P w) 3 "table_by_weights" ["weights","bottom"] Ey:=Kz T
 refine T.xY.eO (λ_ _ _ _ _ _ us hl=>match us,hl with | [_],_=>rfl) λf fd F=>F.Fw oH (λvs H Q E h=>?_) (λbZ A outer s H vs Q E hr h=>?_)
 ·obtain⟨_,_,rfl,_⟩:=h;rfl
 ·refine(?_:let G_:Prop:=_;G_)
  intro G_
  obtain⟨v,ps,rfl,rp,hz,hb,hw,kE,kQ⟩:=h
  dsimp only[G_]
  have nd:=oH.nd
  have AY:A.handled=none:=hr.hd
  refine⟨_,(ai (aP (i:=1) nd rfl (Or.inl rfl) lO)
  (ai (cQ PassesOwn.leaving rfl (bx (K:=K) (pv 0)) (c6 (K:=K) (n:=2) rfl (bu (aT (i:=2) nd rfl (Or.inl rfl)) (bu (aT (i:=3) nd rfl (Or.inl rfl)) cU))) (ai (bG (aN pG (pv 3) ae (aU _)) (aA (gz rfl T.k_NoTable T.x_NoTable AY (aa aJ af (se rfl)) (he:=se rfl) (hpl:=na rfl)))
   bj)
  (aA (bG (aN lJ (pv 3) ae (aU _)) (aA (lN (dt hr) (pv 1) (pv 2) (aX bV (BJ (dt hr) (pv 1) (pv 2) ae (by first | exact⟨rfl,rfl,rfl⟩ | constructor <;>rfl)) (pv 3)) rfl))
   bj))))
  (ai (bG (aN bW (bh sH (by rfl) T.z_len aao (aa (pv 1) af (se rfl)) (he:=se rfl) (hpl:=na rfl)) ae (aU _)) (aA (gz rfl T.k_NoTable T.x_NoTable AY (aa aJ af (se rfl)) (he:=se rfl) (hpl:=na rfl)))
   bj)
  (aA (bf (br kX (hr.mono (by decide)) rfl aM.pass (aa (pv 1) (aa (xT rfl (by rfl) T.z_sum (pv 1) (he:=se rfl)) af (se rfl)) (se rfl)) (he:=se rfl) (hpl:=na rfl))))))),?_⟩
  refine(?_:let cB:TS:=_;let cC:TS:=_;let cD:TS:=_;let dE:TS:=_;tSeq cB (tSeq cC (tSeq cD dE)) _ _ _)
  intro cB cC cD dE
  simp_all only[Ey,tRaise]
  intro d ER
  refine(?_:let G_:Prop:=_;G_)
  intro G_
  obtain⟨a,xs,rfl,ha,rl⟩:=aO.mp rp
  dsimp only[G_]
  have n1:=rl.length
  rw[aac] at n1
  have q1:∀o,bN K (upd H d o) a xs:=λo=>bN.of (aj ER _ _ ha)
  refine⟨_,rfl,⟨_,q1 _⟩,cu (src_list (Ok:=λH'=>∃o,H'=upd H d o) (λH' ⟨o,e⟩=>by rw[e];exact q1 o))
   (λi σ H'=>H'=upd H d (.dK (enc (Nm.kC (ps.take i))))/\(∀p∈ps.take i,0<=p.2)/\∃z1 z2,σ=[some (.ref a),some (.ref d),z1,z2])
   ⟨by rw[List.take_zero];rfl,by simp,_,_,rfl⟩ (λ_ _ _ _ h=>⟨_,h.1⟩) ?_ ?_⟩
  ·intro i x σ H' wX hi hW fU
   refine(?_:let G_:Prop:=_;G_)
   intro G_
   obtain⟨rfl,nn,z1,z2,rfl⟩:=hW
   obtain⟨rfl,hx⟩:=fU
   obtain⟨dd,ed,rd⟩:=rl.get hx
   rw[aad] at ed
   obtain⟨p,ep,rfl⟩:=Option.map_eq_some_iff.mp ed
   obtain⟨q,rfl,hq⟩:=dB.mp rd
   dsimp only[G_]
   have tk:ps.take (i+1)=ps.take i++ [p]:=by rw[aaF,ep];rfl
   refine⟨q,_,rfl,hX.of (aj ER _ _ hq),rfl,?_⟩
   simp_all only[tRaise]
   rw[tk,Nm.BZ]
   refine rj (λc=>?_) (λc=>?_)
   ·exact⟨by decide,kE (.inl ⟨p,aal ep,c⟩) _ (aj ER)⟩
   ·have VF:∀r∈ps.take i++ [p],0<=r.2:=λr hr=>by
     rcases List.mem_append.mp hr with h | h
     ·exact nn r h
     ·have:r=p:=by simpa using h
      subst this
      omega
    refine rj (λc2=>?_) (λc2=>?_)
    ·refine(?_:let G_:Prop:=_;G_)
     intro G_
     obtain⟨o,ho,eo⟩:=Aw (H:=upd H d (.dK (enc (Nm.kC (ps.take i))))) p.1 (.inl ar)
     dsimp only[G_]
     refine⟨.inl ⟨_,.inl ar⟩,o,ho,?_⟩
     rw[eo]
     simp_all only[]
     refine⟨_,BX _ _ ar (Nm.mX _) ?_,?_,VF,?_⟩
     ·have:=Nm.zq (ps.take i)
      rw[aaT] at this
      rw[sizeLine_eq]
      omega
     ·rw[tI,if_pos c2]
      rfl
     ·exact⟨_,rfl⟩
    ·refine⟨by rw[if_neg c2],VF,?_⟩
     exact⟨_,rfl⟩
  ·intro σ H' eQ
   refine(?_:let G_:Prop:=_;G_)
   intro G_
   obtain⟨rfl,nn,z1,z2,rfl⟩:=eQ
   dsimp only[G_]
   rw[aaE (by omega)] at nn ⊢
   simp_all only[tRaise,Ey]
   have el:(enc (Nm.kC ps)).length=(Nm.kC ps).length:=ub _
   refine⟨_,ar,rj (λz=>⟨by decide,kE (.inr ?_) _ (aj ER)⟩) (λz=>?_)⟩
   ·exact Nm.zr.mp (List.eq_nil_of_length_eq_zero (by omega))
   ·have np:Nm.pos ps≠[]:=λe=>by
     have:=Nm.zr.mpr e
     exact z (by rw[el,this];rfl)
    have nb:¬Nm.bad ps:=λb=>by
     rcases b with ⟨p,hp,c⟩ | c
     ·have:=nn p hp
      omega
     ·exact np c
    have T0:=Nm.Ef (show 0< (Nm.kC ps).length by omega) (Nm.mX ps) (Nm.Em ps)
    have T1:=Nm.pX (c:=10^12) (by decide) hb
    rw[<-Nm.En] at T1
    have lw:=Nm.zq ps
    have ev:List.map (λx:Key×V=>x.2) (enc (Nm.kC ps))=List.map V.int ((Nm.kC ps).map (·.2)):=by
     unfold enc
     rw[aav,aav]
     rfl
    refine⟨_,ar,_,ev,_,ar,Nm.mX ps,by omega,?_,?_,λp H' s' CM r'=>?_⟩
    ·show Nm.pU (Nm.kC ps)≠0
     omega
    ·show Bt 5000 (Nm.pU (Nm.kC ps))
     exact Bt.of (10^16) (by omega) (by omega)
    ·exact kQ nb p H' ((aj ER).trans s') (none_of (aj ER) CM) r'
theorem wj:bo ["base","exponent","product","turn"] ["base","exponent"] (aw (top 18)):=⟨rfl,rfl,rfl,by decide +kernel,rfl,by decide +kernel,by decide +kernel⟩
theorem KC (T:Txt K mg aK aL aG aY ag aD):cS P w K mg base (bO P w) 1 "power" ["base","exponent"] HA:=by
 refine T.Ew.eO (λ_ _ _ _ _ _ us hl=>match us,hl with | [_,_],_=>rfl) λf fd F=>F.gu wj (λvs H Q E h=>?_) (λbZ A outer s H vs Q E hr h=>?_)
 ·obtain⟨_,rfl,_⟩:=h;rfl
 ·refine(?_:let G_:Prop:=_;G_)
  intro G_
  obtain⟨n,rfl,n6,kk⟩:=h
  dsimp only[G_]
  have nd:=wj.nd
  refine⟨_,(ai (aP (i:=2) nd rfl (Or.inl rfl) ae)
  (ai (cQ PassesOwn.never rfl (fB rfl T.z_range (aa (pv 1) af (se rfl))) (aT (i:=3) nd rfl (Or.inl rfl)) (ai (bG (aN lJ (pv 2) (lX rfl T.c_MOST_BOTTOM) (aU _)) (aA Bq)
   bj)
  (aA (aP (i:=2) nd rfl (Or.inl rfl) (aX cH (pv 2) (pv 0))))))
  (aA (bf (pv 2))))),?_⟩
  refine(?_:let cB:TS:=_;let cC:TS:=_;let cD:TS:=_;tSeq cB (tSeq cC cD) _ _ _)
  intro cB cC cD
  simp_all only[]
  refine⟨by decide,by decide,cu (src_range (Ok:=λ_=>True)) (λi σ H'=>H=H'/\∃z,σ=[some (.int (n:Int)),some (.int 1),some (.int (if i=0 then 1 else (n:Int))),z]) ⟨rfl,_,rfl⟩ (λ_ _ _ _ _=>trivial) ?_ ?_⟩
  ·intro i x σ H' wX hi hW fU
   refine(?_:let G_:Prop:=_;G_)
   intro G_
   obtain⟨rfl,z,rfl⟩:=hW
   obtain⟨rfl,rfl⟩:=fU
   have i0:i=0:=Nat.lt_one_iff.mp hi
   subst i0
   dsimp only[G_]
   simp_all only[]
   rw[if_neg (by decide)]
   exact⟨dN,by rw[if_neg (by decide),Int.one_mul],_,rfl⟩
  ·intro σ H' eQ
   refine(?_:let G_:Prop:=_;G_)
   intro G_
   obtain⟨rfl,z,rfl⟩:=eQ
   dsimp only[G_]
   simp_all only[]
   exact kk
theorem j9:bo ["part"] ["part"] (aw (top 19)):=⟨rfl,rfl,rfl,by decide +kernel,rfl,by decide +kernel,by decide +kernel⟩
theorem CN (T:Txt K mg aK aL aG aY ag aD):cS P w K mg base (bO P w) 1 "most_faces" ["part"] Cu:=by
 refine T.ue.eO (λ_ _ _ _ _ _ us hl=>match us,hl with | [_],_=>rfl) λf fd F=>F.gu j9 (λvs H Q E h=>?_) (λbZ A outer s H vs Q E hr h=>?_)
 ·obtain⟨_,_,rfl,_⟩:=h;rfl
 ·refine(?_:let G_:Prop:=_;G_)
  intro G_
  obtain⟨q,n,rfl,hq,kk⟩:=h
  dsimp only[G_]
  have nd:=j9.nd
  refine⟨_,(ai (bG (aN bW (aB az (pv 0) ae (λ_ _=>rfl)) aJ (aU _)) (aA (bf ae))
   bj)
  (ai (bG (aN bW (aB az (pv 0) ae (λ_ _=>rfl)) aJ (aU _)) (aA (bf (lH (aN lJ (aB az (pv 0) ae (λ_ _=>rfl)) ae (aU _)) ae ae)))
   bj)
  (ai (bG (aN bW (aB az (pv 0) ae (λ_ _=>rfl)) aJ (aU _)) (aA (bf (aX bV (bh (sh rfl) (by rfl) T.z_max rfl (aa (aB az (pv 0) ae (λ_ _=>rfl)) (aa ae af (se rfl)) (se rfl)) (he:=se rfl) (hpl:=na rfl)) ae)))
   bj)
  (aA (bf (aB az (pv 0) (j1 gj ae) (λ_ _=>rfl))))))),?_⟩
  refine(?_:let cB:TS:=_;let cC:TS:=_;let cD:TS:=_;let dE:TS:=_;tSeq cB (tSeq cC (tSeq cD dE)) _ _ _)
  intro cB cC cD dE
  simp only[uT] at hq
  simp_all only[hq]
  rw[if_neg (by decide +kernel),if_neg (by decide +kernel),if_neg (by decide +kernel)]
  exact⟨_,rfl,kk⟩
theorem iI:bo ["part"] ["part"] (aw (top 20)):=⟨rfl,rfl,rfl,by decide +kernel,rfl,by decide +kernel,by decide +kernel⟩
theorem CO (T:Txt K mg aK aL aG aY ag aD):cS P w K mg base (bO P w) 2 "part_bottom" ["part"] ux:=by
 have ES:cS P w K mg base (bO P w) 1 "power" ["base","exponent"] HA:=KC T
 have dW:cS P w K mg base (bO P w) 1 "most_faces" ["part"] Cu:=CN T
 refine T.rF.eO (λ_ _ _ _ _ _ us hl=>match us,hl with | [_],_=>rfl) λf fd F=>F.gu iI (λvs H Q E h=>?_) (λbZ A outer s H vs Q E hr h=>?_)
 ·obtain⟨_,_,rfl,_⟩:=h;rfl
 ·refine(?_:let G_:Prop:=_;G_)
  intro G_
  obtain⟨q,n,rfl,hq,n6,kk⟩:=h
  dsimp only[G_]
  have nd:=iI.nd
  refine⟨_,(aA (bf (br ES (hr.mono (by decide)) rfl aM.pass (aa (aB az (pv 0) (j1 gj ae) (λ_ _=>rfl)) (aa (br dW (hr.mono (by decide)) rfl aM.pass (aa (pv 0) af (se rfl)) (he:=se rfl) (hpl:=na rfl)) af (se rfl)) (se rfl)) (he:=se rfl) (hpl:=na rfl)))),?_⟩
  simp_all only[HA,Cu]
  exact⟨_,hq,_,rfl,n,hq,n,rfl,n6,kk⟩
theorem ka:bo ["part","sides","low"] ["part"] (aw (top 21)):=⟨rfl,rfl,rfl,by decide +kernel,rfl,by decide +kernel,by decide +kernel⟩
theorem KD (T:Txt K mg aK aL aG aY ag aD):cS P w K mg base (bO P w) 3 "part_count" ["part"] ux:=by
 have dW:cS P w K mg base (bO P w) 1 "most_faces" ["part"] Cu:=CN T
 have dF:cS P w K mg base (bO P w) 2 "part_bottom" ["part"] ux:=CO T
 refine T.uf.eO (λ_ _ _ _ _ _ us hl=>match us,hl with | [_],_=>rfl) λf fd F=>F.gu ka (λvs H Q E h=>?_) (λbZ A outer s H vs Q E hr h=>?_)
 ·obtain⟨_,_,rfl,_⟩:=h;rfl
 ·refine(?_:let G_:Prop:=_;G_)
  intro G_
  obtain⟨q,n,rfl,hq,n6,kk⟩:=h
  dsimp only[G_]
  have nd:=ka.nd
  refine⟨_,(ai (aP (i:=1) nd rfl (Or.inl rfl) (aB az (pv 0) (j1 gj ae) (λ_ _=>rfl)))
  (ai (bG (aN bW (aB az (pv 0) ae (λ_ _=>rfl)) aJ (aU _)) (ai (aP (i:=2) nd rfl (Or.inl rfl) (bh (sh rfl) (by rfl) T.z_max rfl (aa (bh (jg rfl) (by rfl) T.z_min rfl (aa (aB az (pv 0) ae (λ_ _=>rfl)) (aa (pv 1) af (se rfl)) (se rfl)) (he:=se rfl) (hpl:=na rfl)) (aa ae af (se rfl)) (se rfl)) (he:=se rfl) (hpl:=na rfl)))
  (aA (bf (aX xj (aX bV (aX cH (pv 2) (pv 1)) (pv 1)) (pv 2)))))
   bj)
  (ai (bG (aN bW (aB az (pv 0) ae (λ_ _=>rfl)) aJ (aU _)) (aA (bf (aX bV (aX cH (br dW (hr.mono (by decide)) rfl aM.pass (aa (pv 0) af (se rfl)) (he:=se rfl) (hpl:=na rfl)) (aX xj (pv 1) ae)) ae)))
   bj)
  (aA (bf (br dF (hr.mono (by decide)) rfl aM.pass (aa (pv 0) af (se rfl)) (he:=se rfl) (hpl:=na rfl))))))),?_⟩
  refine(?_:let cB:TS:=_;let cC:TS:=_;let cD:TS:=_;let dE:TS:=_;tSeq cB (tSeq cC (tSeq cD dE)) _ _ _)
  intro cB cC cD dE
  have Fo:=hq
  simp only[uT] at Fo
  simp_all only[Fo,ux]
  refine⟨_,rfl,?_⟩
  rw[if_neg (by decide +kernel),if_neg (by decide +kernel)]
  exact⟨n,rfl,n6,kk⟩
theorem kc:bo ["pool","count","bottom","part"] ["pool"] (aw (top 22)):=⟨rfl,rfl,rfl,by decide +kernel,rfl,by decide +kernel,by decide +kernel⟩
theorem KE (T:Txt K mg aK aL aG aY ag aD):cS P w K mg base (bO P w) 4 "check_size" ["pool"] HB:=by
 have uG:cS P w K mg base (bO P w) 3 "part_count" ["part"] ux:=KD T
 have dF:cS P w K mg base (bO P w) 2 "part_bottom" ["part"] ux:=CO T
 refine T.ug.eO (λ_ _ _ _ _ _ us hl=>match us,hl with | [_],_=>rfl) λf fd F=>F.Fw kc (λvs H Q E h=>?_) (λbZ A outer s H vs Q E hr h=>?_)
 ·obtain⟨_,_,_,rfl,_⟩:=h;rfl
 ·refine(?_:let G_:Prop:=_;G_)
  intro G_
  obtain⟨l,q,n,rfl,hl,hq,n6,kk⟩:=h
  dsimp only[G_]
  have nd:=kc.nd
  have AY:A.handled=none:=hr.hd
  refine⟨_,(ai (aP (i:=1) nd rfl (Or.inl rfl) ae)
  (ai (aP (i:=2) nd rfl (Or.inl rfl) ae)
  (ai (cQ PassesOwn.leaving rfl (bx (K:=K) (pv 0)) (aT (i:=3) nd rfl (Or.inl rfl)) (ai (aP (i:=1) nd rfl (Or.inl rfl) (aX cH (pv 1) (br uG (hr.mono (by decide)) rfl aM.pass (aa (pv 3) af (se rfl)) (he:=se rfl) (hpl:=na rfl))))
  (aA (aP (i:=2) nd rfl (Or.inl rfl) (aX cH (pv 2) (br dF (hr.mono (by decide)) rfl aM.pass (aa (pv 3) af (se rfl)) (he:=se rfl) (hpl:=na rfl)))))))
  (aA (bG (PW.pt (pw_or (aN lJ (pv 1) (lX rfl T.c_MOST_THROWS) (aU _)) (pw_or1 (aN lJ (pv 2) (lX rfl T.c_MOST_BOTTOM) (aU _))))) (aA (gz rfl T.k_TooMany T.x_TooMany AY (aa aJ af (se rfl)) (he:=se rfl) (hpl:=na rfl)))
   bj))))),?_⟩
  refine(?_:let cB:TS:=_;let cC:TS:=_;let cD:TS:=_;let dE:TS:=_;tSeq cB (tSeq cC (tSeq cD dE)) _ _ _)
  intro cB cC cD dE
  simp_all only[]
  refine⟨⟨_,bN.of hl⟩,cu (src_list (Ok:=λH'=>H=H') (λH' e=>by subst e;exact bN.of hl)) (λi σ H'=>H=H'/\∃z,σ=[some (.ref l),some (.int (if i=0 then 1 else (n:Int))),some (.int (if i=0 then 1 else (n:Int))),z]) ⟨rfl,_,rfl⟩ (λ_ _ _ _ h=>h.1) ?_ ?_⟩
  ·intro i x σ H' wX hi hW fU
   refine(?_:let G_:Prop:=_;G_)
   intro G_
   obtain⟨rfl,z,rfl⟩:=hW
   obtain⟨rfl,ex⟩:=fU
   have i0:i=0:=Nat.lt_one_iff.mp hi
   subst i0
   dsimp only[G_]
   cases ex
   simp_all only[ux]
   exact⟨n,hq,n6,dN,n,hq,n6,dN,by rw[if_neg (by decide),Int.one_mul],by rw[if_neg (by decide),Int.one_mul],_,rfl⟩
  ·intro σ H' eQ
   refine(?_:let G_:Prop:=_;G_)
   intro G_
   obtain⟨rfl,z,rfl⟩:=eQ
   dsimp only[G_]
   simp_all only[]
   rw[if_neg (show ¬(1:Nat)=0 by decide),if_neg (by omega),if_neg (by omega)]
   exact kk
theorem kd:bo ["dice","sides","found","turn","longer","faces"] ["dice","sides"] (aw (top 23)):=⟨rfl,rfl,rfl,by decide +kernel,rfl,by decide +kernel,by decide +kernel⟩
theorem KG (T:Txt K mg aK aL aG aY ag aD):cS P w K mg base (bO P w) 1 "dice_faces" ["dice","sides"] HC:=by
 refine T.uh.eO (λ_ _ _ _ _ _ us hl=>match us,hl with | [_,_],_=>rfl) λf fd F=>F.gu kd (λvs H Q E h=>?_) (λbZ A outer s H vs Q E hr h=>?_)
 ·obtain⟨_,rfl,_⟩:=h;rfl
 ·refine(?_:let G_:Prop:=_;G_)
  intro G_
  obtain⟨n,rfl,n6,kk⟩:=h
  dsimp only[G_]
  have nd:=kd.nd
  refine⟨_,(ai (aP (i:=2) nd rfl (Or.inl rfl) (bC (aa (bC af) af (se rfl))))
  (ai (cQ PassesOwn.never rfl (fB rfl T.z_range (aa (pv 0) af (se rfl))) (aT (i:=3) nd rfl (Or.inl rfl)) (ai (aP (i:=4) nd rfl (Or.inl rfl) (bC af))
  (ai (cQ PassesOwn.never rfl (bx (K:=K) (pv 2)) (aT (i:=5) nd rfl (Or.inr rfl)) (aA (bX (dr aas PySem.F.slot_list_extend PySem.F.type_list_extend sC.r (pv 4) (aa (cL rfl (N:=["dice","sides","found","turn","longer","faces"]) (so:=aw (top 23)) (N':=["face","faces"]) (k:=1) (fr:=[5]) rfl rfl ⟨rfl,by decide +kernel,by decide +kernel,by decide +kernel,rfl,by decide +kernel,by decide +kernel⟩ (Af rfl T.z_range (aa ae (aa (aX bV (pv 1) ae) af (se rfl)) (se rfl))) (λ_ _ _ _ _=>(aT (i:=0) (show(["face","faces"]:List Str).Nodup by decide +kernel) rfl (Or.inl rfl))) (λ_ _ _ _ _=>cJ)
   (λ_ _ _ _ _=>(aX tW (pv 1) (bC (aa (pv 0) af (se rfl)))))) af (se rfl))))))
  (aA (aP (i:=2) nd rfl (Or.inl rfl) (pv 4))))))
  (aA (bf (pv 2))))),?_⟩
  refine(?_:let cB:TS:=_;let cC:TS:=_;let cD:TS:=_;tSeq cB (tSeq cC cD) _ _ _)
  intro cB cC cD
  have sl:=sizeLine_eq
  simp_all only[]
  refine⟨aak _,λe0 m0=>⟨by decide,λl0 n0=>⟨by omega,by omega,?_⟩⟩⟩
  have s0:aE H (upd (upd H e0 (.lst [])) l0 (.lst [.ref e0])):=(aj m0).trans (aj n0)
  refine cu (src_range (Ok:=λ_=>True)) (λi σ H'=>aE H H'/\∃l xs z z' M9,H' l=some (.lst xs)/\(i=0->∃e,xs=[.ref e]/\H' e=some (.lst []))/\(i=1->Al (Fc H') (List.range n) xs)/\σ=[some (.int 1),some (.int (n:Int)),some (.ref l),z,z',M9]) ?_ (λ_ _ _ _ _=>trivial) ?_ ?_
  ·exact⟨s0,l0,_,_,_,_,ar,λ_=>⟨e0,rfl,aj n0 _ _ ar⟩,(λz=>by cases z),rfl⟩
  ·intro i x σ H' wX hi hW fU
   refine(?_:let G_:Prop:=_;G_)
   intro G_
   obtain⟨sm,l,xs,z,z',M9,hl,al,_,rfl⟩:=hW
   obtain⟨rfl,rfl⟩:=fU
   have i0:i=0:=Nat.lt_one_iff.mp hi
   subst i0
   obtain⟨e,rfl,he⟩:=al rfl
   dsimp only[G_]
   simp only[gName,aaY,aaX]
   change tSeq _ _ _ _ _
   refine bb (λN=>∀H1,aE wX H1->∀m,wX m=none->H1 m=some (.lst [])->N [some (.int 1),some (.int (n:Int)),some (.ref l),some (.int (0+ ((0:Nat):Int))),some (.ref m),M9] H1) ?_ (λN hN=>?_)
   case refine_2=>
    simp_all only[]
    exact⟨aak _,λm nm=>hN _ (aj nm) m nm ar⟩
   rintro H1 s1 m nm hm
   change tSeq _ _ _ _ _
   refine bb (λN=>∀H2,aE wX H2->∀ys z,H2 m=some (.lst ys)->Al (Fc H2) (List.range n) ys->N [some (.int 1),some (.int (n:Int)),some (.ref l),some (.int (0+ ((0:Nat):Int))),some (.ref m),z] H2) ?_ (λN hN=>?_)
   case refine_2=>
    simp_all only[]
    refine⟨⟨_,bN.of (s1 _ _ hl)⟩,cu (src_list (Ok:=aE wX) (λH2 s2=>bN.of (s2 _ _ hl))) (λj σ H2=>aE wX H2/\(∃ys,H2 m=some (.lst ys)/\(j=0->ys=[])/\(j=1->Al (Fc H2) (List.range n) ys))/\∃z,σ=[some (.int 1),some (.int (n:Int)),some (.ref l),some (.int (0+ ((0:Nat):Int))),some (.ref m),z]) ⟨s1,⟨[],hm,λ_=>rfl,(λz=>by cases z)⟩,_,rfl⟩ (λ_ _ _ _ h=>h.1) ?_ ?_⟩
    ·intro j x σ H2 H3 hj hW fU
     refine(?_:let G_:Prop:=_;G_)
     intro G_
     obtain⟨s2,⟨ys,wY,y0,_⟩,z,rfl⟩:=hW
     obtain⟨rfl,ex⟩:=fU
     have j0:j=0:=Nat.lt_one_iff.mp hj
     subst j0
     dsimp only[G_]
     cases ex
     rw[y0 rfl] at wY
     have KH:=s2 _ _ he
     simp_all only[tV]
     refine⟨.inl ⟨rfl,_,bN.of wY⟩,by omega,by omega,by omega,by omega,?_⟩
     rw[show((n:Int)+1 - 1).toNat=n by omega]
     refine comp_map src_range (λ_ _ _ _ h=>by rw[h.1];exact aE.refl _) (by omega) (λk y H4=>Fc (cA H4 m) k y) (λk y H4 H5 s5 h=>h.mono (bM s5)) ?_ ?_
     ·rintro k x w0 H4 H5 Q2 hk s4 ⟨rfl,rfl⟩ kq
      simp_all only[BH]
      refine⟨by decide,λa1 n1=>⟨_,aj n1 _ _ (s4 _ _ KH),_,ar,by rw[sl];exact show 1<=16777216 by decide,λa2 n2=>kq _ _ ((aj n1).trans (aj n2)) ⟨a2,rfl,?_⟩⟩⟩
      have ne:a2≠m:=λe=>by
       rw[e,aj n1 _ _ (s4 _ _ wY)] at n2
       cases n2
      rw[bw ne,ar,Int.add_comm]
      rfl
     ·intro zs H4 s4 lz hz D n1 n2
      have Yi:=s4 _ _ wY
      refine⟨_,aj n2 _ _ Yi,_,ar,by rw[aaW];omega,?_⟩
      have s5:aE H3 (upd H4 D (.lst zs)):=s4.trans (aj n2)
      refine⟨bQ (s2.trans s5) nm,⟨_,ar,(λz=>by cases z),λ_=>qu lz λk y ek=>?_⟩,_,rfl⟩
      refine(?_:let G_:Prop:=_;G_)
      intro G_
      obtain⟨e',rfl,Bd⟩:=hz k y ek
      dsimp only[G_]
      have em:e'≠m:=λz=>by
       have Bd:(if e'=m then none else H4 e')=_:=Bd
       rw[if_pos z] at Bd
       cases Bd
      rw[bw em] at Bd
      exact⟨e',rfl,by rw[aF em];exact aj n2 _ _ Bd⟩
    ·intro σ H2 eQ
     refine(?_:let G_:Prop:=_;G_)
     intro G_
     obtain⟨s2,⟨ys,wY,_,ay⟩,z,rfl⟩:=eQ
     dsimp only[G_]
     exact hN _ s2 ys _ wY (ay rfl)
   rintro H2 s2 ys z wY ay
   simp_all only[]
   exact⟨sm.trans s2,m,ys,wY,(λz=>by cases z),λ_=>ay,rfl,_,rfl⟩
  ·intro σ H' eQ
   refine(?_:let G_:Prop:=_;G_)
   intro G_
   obtain⟨sm,l,xs,z,z',M9,hl,_,al,rfl⟩:=eQ
   dsimp only[G_]
   simp_all only[]
   exact kk _ _ _ sm hl (al rfl)
theorem qB:bo ["low","sides","found","face"] ["low","sides"] (aw (top 24)):=⟨rfl,rfl,rfl,by decide +kernel,rfl,by decide +kernel,by decide +kernel⟩
theorem KI (T:Txt K mg aK aL aG aY ag aD):cS P w K mg base (bO P w) 1 "again_faces" ["low","sides"] EE:=by
 refine T.rG.eO (λ_ _ _ _ _ _ us hl=>match us,hl with | [_,_],_=>rfl) λf fd F=>F.gu qB (λvs H Q E h=>h.elim) (λbZ A outer s H vs Q E hr h=>h.elim)
theorem qC:bo ["most","sides","found","ahead"] ["most","sides"] (aw (top 25)):=⟨rfl,rfl,rfl,by decide +kernel,rfl,by decide +kernel,by decide +kernel⟩
theorem KJ (T:Txt K mg aK aL aG aY ag aD):cS P w K mg base (bO P w) 1 "burst_faces" ["most","sides"] EE:=by
 refine T.rH.eO (λ_ _ _ _ _ _ us hl=>match us,hl with | [_,_],_=>rfl) λf fd F=>F.gu qC (λvs H Q E h=>h.elim) (λbZ A outer s H vs Q E hr h=>h.elim)
theorem kf:bo ["part"] ["part"] (aw (top 26)):=⟨rfl,rfl,rfl,by decide +kernel,rfl,by decide +kernel,by decide +kernel⟩
theorem KL (T:Txt K mg aK aL aG aY ag aD):cS P w K mg base (bO P w) 2 "part_faces" ["part"] HD:=by
 have dW:cS P w K mg base (bO P w) 1 "most_faces" ["part"] Cu:=CN T
 have uH:cS P w K mg base (bO P w) 1 "dice_faces" ["dice","sides"] HC:=KG T
 have rO:cS P w K mg base (bO P w) 1 "again_faces" ["low","sides"] EE:=KI T
 have rP:cS P w K mg base (bO P w) 1 "burst_faces" ["most","sides"] EE:=KJ T
 refine T.ui.eO (λ_ _ _ _ _ _ us hl=>match us,hl with | [_],_=>rfl) λf fd F=>F.gu kf (λvs H Q E h=>?_) (λbZ A outer s H vs Q E hr h=>?_)
 ·obtain⟨_,_,rfl,_⟩:=h;rfl
 ·refine(?_:let G_:Prop:=_;G_)
  intro G_
  obtain⟨q,n,rfl,hq,n6,kk⟩:=h
  dsimp only[G_]
  have nd:=kf.nd
  refine⟨_,(ai (bG (aN bW (aB az (pv 0) ae (λ_ _=>rfl)) aJ (aU _)) (aA (bf (bC (aa (bC af) af (se rfl)))))
   bj)
  (ai (bG (aN bW (aB az (pv 0) ae (λ_ _=>rfl)) aJ (aU _)) (aA (bf (br rO (hr.mono (by decide)) rfl aM.pass (aa (aB az (pv 0) ae (λ_ _=>rfl)) (aa (aB az (pv 0) ae (λ_ _=>rfl)) af (se rfl)) (se rfl)) (he:=se rfl) (hpl:=na rfl))))
   bj)
  (ai (bG (aN bW (aB az (pv 0) ae (λ_ _=>rfl)) aJ (aU _)) (aA (bf (br rP (hr.mono (by decide)) rfl aM.pass (aa (br dW (hr.mono (by decide)) rfl aM.pass (aa (pv 0) af (se rfl)) (he:=se rfl) (hpl:=na rfl)) (aa (aB az (pv 0) ae (λ_ _=>rfl)) af (se rfl)) (se rfl)) (he:=se rfl) (hpl:=na rfl))))
   bj)
  (aA (bf (br uH (hr.mono (by decide)) rfl aM.pass (aa (aB az (pv 0) (j1 gj ae) (λ_ _=>rfl)) (aa (aB az (pv 0) (j1 gj ae) (λ_ _=>rfl)) af (se rfl)) (se rfl)) (he:=se rfl) (hpl:=na rfl))))))),?_⟩
  refine(?_:let cB:TS:=_;let cC:TS:=_;let cD:TS:=_;let dE:TS:=_;tSeq cB (tSeq cC (tSeq cD dE)) _ _ _)
  intro cB cC cD dE
  simp only[uT] at hq
  simp_all only[hq,HC]
  rw[if_neg (by decide +kernel),if_neg (by decide +kernel),if_neg (by decide +kernel)]
  exact⟨_,rfl,_,rfl,rfl,n,rfl,n6,kk⟩
theorem oJ:bo ["part","faces"] ["part","faces"] (aw (top 27)):=⟨rfl,rfl,rfl,by decide +kernel,rfl,by decide +kernel,by decide +kernel⟩
theorem KN (T:Txt K mg aK aL aG aY ag aD):cS P w K mg base (bO P w) 1 "value_of" ["part","faces"] HE:=by
 refine T.xZ.eO (λ_ _ _ _ _ _ us hl=>match us,hl with | [_,_],_=>rfl) λf fd F=>F.gu oJ (λvs H Q E h=>?_) (λbZ A outer s H vs Q E hr h=>?_)
 ·obtain⟨_,_,_,_,rfl,_⟩:=h;rfl
 ·refine(?_:let G_:Prop:=_;G_)
  intro G_
  obtain⟨q,n,e,k,rfl,hq,he,kk⟩:=h
  dsimp only[G_]
  have nd:=oJ.nd
  refine⟨_,(ai (bG (aN bW (aB az (pv 0) ae (λ_ _=>rfl)) aJ (aU _)) (aA (bf (aB az (pv 0) ae (λ_ _=>rfl))))
   bj)
  (ai (bG (aN bW (aB az (pv 0) ae (λ_ _=>rfl)) aJ (aU _)) (aA (bf (bh (iD (K:=K)) (by rfl) T.z_sum rfl (aa (pK (vB (K:=K)) (AB (K:=K) rfl T.z_sorted (pv 1) eU (n1:=rfl)) tR (tS (aB az (pv 0) ae (λ_ _=>rfl)))) af (se rfl)) (he:=se rfl) (hpl:=na rfl))))
   bj)
  (ai (bG (aN bW (aB az (pv 0) ae (λ_ _=>rfl)) aJ (aU _)) (aA (bf (bh (iD (K:=K)) (by rfl) T.z_sum rfl (aa (pK (vB (K:=K)) (bh (pS (K:=K)) (by rfl) T.z_sorted rfl (aa (pv 1) af (se rfl)) (he:=se rfl) (hpl:=na rfl)) tR (tS (aB az (pv 0) ae (λ_ _=>rfl)))) af (se rfl)) (he:=se rfl) (hpl:=na rfl))))
   bj)
  (ai (bG (aN bW (aB az (pv 0) ae (λ_ _=>rfl)) aJ (aU _)) (aA (bf (bh bI (by rfl) T.z_len aao (aa (cL rfl (N:=["part","faces"]) (so:=aw (top 27)) (N':=["face","part"]) (k:=1) (fr:=[0]) rfl rfl ⟨rfl,by decide +kernel,by decide +kernel,by decide +kernel,rfl,by decide +kernel,by decide +kernel⟩ (bx (K:=K) (pv 1)) (λ_ _ _ _ _=>(aT (i:=0) (show(["face","part"]:List Str).Nodup by decide +kernel) rfl (Or.inl rfl))) (λ_ _ _ _ _=>(lS (aN vf (pv 0) (aB az (pv 1) ae (λ_ _=>rfl)) (aU _))))
   (λ_ _ _ _ _=>(pv 0))) af (se rfl)) (he:=se rfl) (hpl:=na rfl))))
   bj)
  (ai (bG (aN bW (aB az (pv 0) ae (λ_ _=>rfl)) aJ (aU _)) (aA (bf (aB aW (pv 1) (j1 gj ae) (λ_ _=>rfl))))
   bj)
  (aA (bf (bh (iD (K:=K)) (by rfl) T.z_sum rfl (aa (pv 1) af (se rfl)) (he:=se rfl) (hpl:=na rfl))))))))),?_⟩
  refine(?_:let cB:TS:=_;let cC:TS:=_;let cD:TS:=_;let dE:TS:=_;let qD:TS:=_;let tw:TS:=_;tSeq cB (tSeq cC (tSeq cD (tSeq dE (tSeq qD tw)))) _ _ _)
  intro cB cC cD dE qD tw
  simp only[uT] at hq
  simp_all only[hq]
  rw[if_neg (by decide +kernel),if_neg (by decide +kernel),if_neg (by decide +kernel),if_neg (by decide +kernel),if_neg (by decide +kernel)]
  refine⟨[k],bN.of he,?_⟩
  rw[show[k].sum=k by simp]
  exact kk
theorem gH:bo ["part","faces","product","face"] ["part","faces"] (aw (top 28)):=⟨rfl,rfl,rfl,by decide +kernel,rfl,by decide +kernel,by decide +kernel⟩
theorem KO (T:Txt K mg aK aL aG aY ag aD):cS P w K mg base (bO P w) 1 "sides_product" ["part","faces"] HF:=by
 refine T.oU.eO (λ_ _ _ _ _ _ us hl=>match us,hl with | [_,_],_=>rfl) λf fd F=>F.gu gH (λvs H Q E h=>?_) (λbZ A outer s H vs Q E hr h=>?_)
 ·obtain⟨_,_,_,_,rfl,_⟩:=h;rfl
 ·refine(?_:let G_:Prop:=_;G_)
  intro G_
  obtain⟨q,n,e,k,rfl,hq,n6,he,kk⟩:=h
  dsimp only[G_]
  have nd:=gH.nd
  refine⟨_,(ai (aP (i:=2) nd rfl (Or.inl rfl) ae)
  (ai (cQ PassesOwn.never rfl (bx (K:=K) (pv 1)) (aT (i:=3) nd rfl (Or.inl rfl)) (aA (aP (i:=2) nd rfl (Or.inl rfl) (aX cH (pv 2) (aB az (pv 0) (j1 gj ae) (λ_ _=>rfl))))))
  (aA (bf (pv 2))))),?_⟩
  refine(?_:let cB:TS:=_;let cC:TS:=_;let cD:TS:=_;tSeq cB (tSeq cC cD) _ _ _)
  intro cB cC cD
  simp_all only[]
  refine⟨⟨_,bN.of he⟩,cu (src_list (Ok:=λH'=>H=H') (λH' z=>by subst z;exact bN.of he)) (λi σ H'=>H=H'/\∃z,σ=[some (.ref q),some (.ref e),some (.int (if i=0 then 1 else (n:Int))),z]) ⟨rfl,_,rfl⟩ (λ_ _ _ _ h=>h.1) ?_ ?_⟩
  ·intro i x σ H' wX hi hW fU
   refine(?_:let G_:Prop:=_;G_)
   intro G_
   obtain⟨rfl,z,rfl⟩:=hW
   obtain⟨rfl,ex⟩:=fU
   have i0:i=0:=Nat.lt_one_iff.mp hi
   subst i0
   dsimp only[G_]
   simp_all only[]
   exact⟨_,hq,_,rfl,_,rfl,dN,by rw[if_neg (by decide),Int.one_mul],_,rfl⟩
  ·intro σ H' eQ
   refine(?_:let G_:Prop:=_;G_)
   intro G_
   obtain⟨rfl,z,rfl⟩:=eQ
   dsimp only[G_]
   simp_all only[]
   exact kk
theorem iJ:bo ["part"] ["part"] (aw (top 29)):=⟨rfl,rfl,rfl,by decide +kernel,rfl,by decide +kernel,by decide +kernel⟩
theorem KP (T:Txt K mg aK aL aG aY ag aD):cS P w K mg base (bO P w) 3 "part_throws" ["part"] HG:=by
 have uI:cS P w K mg base (bO P w) 2 "part_faces" ["part"] HD:=KL T
 have yk:cS P w K mg base (bO P w) 1 "value_of" ["part","faces"] HE:=KN T
 have o6:cS P w K mg base (bO P w) 1 "sides_product" ["part","faces"] HF:=KO T
 refine T.rJ.eO (λ_ _ _ _ _ _ us hl=>match us,hl with | [_],_=>rfl) λf fd F=>F.gu iJ (λvs H Q E h=>?_) (λbZ A outer s H vs Q E hr h=>?_)
 ·obtain⟨_,_,rfl,_⟩:=h;rfl
 ·refine(?_:let G_:Prop:=_;G_)
  intro G_
  obtain⟨q,n,rfl,hq,n6,kk⟩:=h
  dsimp only[G_]
  have nd:=iJ.nd
  refine⟨_,(aA (bf (cL rfl (N:=["part"]) (so:=aw (top 29)) (N':=["faces","part"]) (k:=1) (fr:=[0]) rfl rfl ⟨rfl,by decide +kernel,by decide +kernel,by decide +kernel,rfl,by decide +kernel,by decide +kernel⟩ (bx (K:=K) (br uI (hr.mono (by decide)) rfl aM.pass (aa (pv 0) af (se rfl)) (he:=se rfl) (hpl:=na rfl))) (λ_ _ _ _ _=>(aT (i:=0) (show(["faces","part"]:List Str).Nodup by decide +kernel) rfl (Or.inl rfl))) (λ_ _ _ _ _=>cJ)
   (λ_ _ _ _ _=>(aQ (aa (pv 0) (aa (br yk (hr.mono (by decide)) rfl aM.pass (aa (pv 1) (aa (pv 0) af (se rfl)) (se rfl)) (he:=se rfl) (hpl:=na rfl)) (aa (br o6 (hr.mono (by decide)) rfl aM.pass (aa (pv 1) (aa (pv 0) af (se rfl)) (se rfl)) (he:=se rfl) (hpl:=na rfl)) af (se rfl)) (se rfl)) (se rfl))))))),?_⟩
  have sl:=sizeLine_eq
  simp_all only[HD]
  refine⟨n,hq,n6,λl xs H1 s1 hl al=>⟨⟨_,bN.of hl⟩,?_⟩⟩
  have lx:=al.length
  rw[aaK] at lx
  refine comp_map (src_list (λH2 s2=>bN.of (s2 _ _ hl))) (λ_ _ _ _ h=>by rw[h.1];exact aE.refl _) (by omega) (λi y H2=>Tr n H2 i y) (λi y H2 H3 s3 h=>h.mono s3) ?_ ?_
  ·rintro i x w0 H2 H3 Q2 hi s2 ⟨rfl,ex⟩ kq
   refine(?_:let G_:Prop:=_;G_)
   intro G_
   obtain⟨⟨e,rfl,he⟩,_⟩:=gA al ex
   dsimp only[G_]
   have Na:=s2 _ _ (s1 _ _ hq)
   have KH:=s2 _ _ he
   simp_all only[HE,HF]
   exact⟨n,Na,_,KH,n,Na,n6,_,KH,by decide,λa H5 s5 na e5=>kq _ _ s5 ⟨a,e,rfl,e5,s5 _ _ KH⟩⟩
  ·intro ys H2 s2 ly hy D n1 n2
   exact kk D _ _ (s1.trans (s2.trans (aj n2))) ar (qu (by omega) λi y ey=>(hy i y ey).mono (aj n2))
theorem eY:bo ["pool","found","part","behind","longer","faces","value","bottom"] ["pool"] (aw (top 30)):=⟨rfl,rfl,rfl,by decide +kernel,rfl,by decide +kernel,by decide +kernel⟩
theorem KQ (T:Txt K mg aK aL aG aY ag aD):cS P w K mg base (bO P w) 5 "throws_by_bottom" ["pool"] HH:=by
 have uJ:cS P w K mg base (bO P w) 4 "check_size" ["pool"] HB:=KE T
 have rQ:cS P w K mg base (bO P w) 3 "part_throws" ["part"] HG:=KP T
 refine T.kI.eO (λ_ _ _ _ _ _ us hl=>match us,hl with | [_],_=>rfl) λf fd F=>F.gu eY (λvs H Q E h=>?_) (λbZ A outer s H vs Q E hr h=>?_)
 ·obtain⟨_,_,_,rfl,_⟩:=h;rfl
 ·refine(?_:let G_:Prop:=_;G_)
  intro G_
  obtain⟨a,q,n,rfl,ha,hq,n6,kk⟩:=h
  dsimp only[G_]
  have nd:=eY.nd
  refine⟨_,(ai (bX (br uJ (hr.mono (by decide)) rfl aM.pass (aa (pv 0) af (se rfl)) (he:=se rfl) (hpl:=na rfl)))
  (ai (aP (i:=1) nd rfl (Or.inl rfl) (bC (aa (aQ (aa (bC af) (aa ae (aa ae af (se rfl)) (se rfl)) (se rfl))) af (se rfl))))
  (ai (cQ PassesOwn.never rfl (bx (K:=K) (pv 0)) (aT (i:=2) nd rfl (Or.inl rfl)) (ai (aP (i:=3) nd rfl (Or.inl rfl) (br rQ (hr.mono (by decide)) rfl aM.pass (aa (pv 2) af (se rfl)) (he:=se rfl) (hpl:=na rfl)))
  (ai (aP (i:=4) nd rfl (Or.inl rfl) (bC af))
  (ai (cQ PassesOwn.never rfl (bx (K:=K) (pv 1)) (c6 (K:=K) (n:=3) rfl (bu (aT (i:=5) nd rfl (Or.inr rfl)) (bu (aT (i:=6) nd rfl (Or.inr rfl)) (bu (aT (i:=7) nd rfl (Or.inr rfl)) cU)))) (aA (bX (dr aas PySem.F.slot_list_extend PySem.F.type_list_extend sC.r (pv 4) (aa (cL rfl (N:=["pool","found","part","behind","longer","faces","value","bottom"]) (so:=aw (top 30)) (N':=["more","faces","value","bottom"]) (k:=1) (fr:=[5,6,7]) rfl rfl ⟨rfl,by decide +kernel,by decide +kernel,by decide +kernel,rfl,by decide +kernel,by decide +kernel⟩ (bx (K:=K) (pv 3)) (λ_ _ _ _ _=>(aT (i:=0) (show(["more","faces","value","bottom"]:List Str).Nodup by decide +kernel) rfl (Or.inl rfl))) (λ_ _ _ _ _=>cJ)
   (λ_ _ _ _ _=>(aQ (aa (aX tW (pv 1) (aB az (pv 0) ae (λ_ _=>rfl))) (aa (aX bV (pv 2) (aB az (pv 0) ae (λ_ _=>rfl))) (aa (aX cH (pv 3) (aB az (pv 0) ae (λ_ _=>rfl))) af (se rfl)) (se rfl)) (se rfl))))) af (se rfl))))))
  (aA (aP (i:=1) nd rfl (Or.inl rfl) (pv 4)))))))
  (aA (bf (pv 1)))))),?_⟩
  refine(?_:let cB:TS:=_;let cC:TS:=_;let cD:TS:=_;let dE:TS:=_;tSeq cB (tSeq cC (tSeq cD dE)) _ _ _)
  intro cB cC cD dE
  have sl:=sizeLine_eq
  change tSeq _ _ _ _ _
  refine bb (λN=>N [some (.ref a),none,none,none,none,none,none,none] H) ?_ (λN hN=>?_)
  case refine_2=>
   simp_all only[HB]
   exact⟨q,ha,n,hq,n6,hN⟩
  change tSeq _ _ _ _ _
  refine bb (λN=>∀H1,aE H H1->∀l t e,H1 l=some (.lst [.ref t])->H1 t=some (.tup [.ref e,.int 0,.int 1])->H1 e=some (.lst [])->N [some (.ref a),some (.ref l),none,none,none,none,none,none] H1) ?_ (λN hN=>?_)
  case refine_2=>
   simp_all only[]
   exact⟨aak _,λe0 m0=>⟨by decide,λt H1 s1 nt e1=>⟨by decide,λl n1=>hN _ ((aj m0).trans (s1.trans (aj n1))) l t e0 ar (aj n1 _ _ e1) (aj n1 _ _ (s1 _ _ ar))⟩⟩⟩
  rintro H1 s1 l t e hl ht he
  simp_all only[]
  refine⟨⟨_,bN.of (s1 _ _ ha)⟩,cu (src_list (Ok:=aE H) (λH2 s2=>bN.of (s2 _ _ ha))) (λi σ H2=>aE H H2/\∃l z1 z2 z3 z4 z5 z6,(i=0->∃t e,H2 l=some (.lst [.ref t])/\H2 t=some (.tup [.ref e,.int 0,.int 1])/\H2 e=some (.lst []))/\(i=1->∃xs,H2 l=some (.lst xs)/\Al (Tr n H2) (List.range n) xs)/\σ=[some (.ref a),some (.ref l),z1,z2,z3,z4,z5,z6]) ⟨s1,l,_,_,_,_,_,_,λ_=>⟨t,e,hl,ht,he⟩,(λz=>by cases z),rfl⟩ (λ_ _ _ _ h=>h.1) ?_ ?_⟩
  ·clear hl ht he l t e s1 H1
   intro i x σ H2 H3 hi hW fU
   refine(?_:let G_:Prop:=_;G_)
   intro G_
   obtain⟨s1,l,z1,z2,z3,z4,z5,z6,h0,_,rfl⟩:=hW
   obtain⟨rfl,ex⟩:=fU
   have i0:i=0:=Nat.lt_one_iff.mp hi
   subst i0
   dsimp only[G_]
   cases ex
   refine(?_:let G_:Prop:=_;G_)
   intro G_
   obtain⟨t,e,hl,ht,he⟩:=h0 rfl
   dsimp only[G_]
   simp only[gName,aaY,aaX]
   change tSeq _ _ _ _ _
   refine bb (λN=>∀H4,aE H3 H4->∀b us,H4 b=some (.lst us)->Al (Tr n H4) (List.range n) us->N [some (.ref a),some (.ref l),some (.ref q),some (.ref b),z3,z4,z5,z6] H4) ?_ (λN hN=>?_)
   case refine_2=>
    simp_all only[HG]
    exact⟨n,s1 _ _ hq,n6,λb us H4 s4 hb au=>hN _ s4 b us hb au⟩
   rintro H4 s4 b us hb au
   have lu:=au.length
   rw[aaK] at lu
   change tSeq _ _ _ _ _
   refine bb (λN=>∀H5,aE H4 H5->∀m,H4 m=none->H5 m=some (.lst [])->N [some (.ref a),some (.ref l),some (.ref q),some (.ref b),some (.ref m),z4,z5,z6] H5) ?_ (λN hN=>?_)
   case refine_2=>
    simp_all only[]
    exact⟨aak _,λm nm=>hN _ (aj nm) m nm ar⟩
   rintro H5 s5 m nm hm
   have Bf:=s5 _ _ (s4 _ _ hl)
   change tSeq _ _ _ _ _
   refine bb (λN=>∀H6,aE H4 H6->∀ys z4 z5 z6,H6 m=some (.lst ys)->Al (Tr n H6) (List.range n) ys->N [some (.ref a),some (.ref l),some (.ref q),some (.ref b),some (.ref m),z4,z5,z6] H6) ?_ (λN hN=>?_)
   case refine_2=>
    simp_all only[]
    refine⟨⟨_,bN.of Bf⟩,cu (src_list (Ok:=aE H4) (λH2 s2=>bN.of (s2 _ _ (s4 _ _ hl)))) (λj σ H6=>aE H4 H6/\(∃ys,H6 m=some (.lst ys)/\(j=0->ys=[])/\(j=1->Al (Tr n H6) (List.range n) ys))/\∃z4 z5 z6,σ=[some (.ref a),some (.ref l),some (.ref q),some (.ref b),some (.ref m),z4,z5,z6]) ⟨s5,⟨[],hm,λ_=>rfl,(λz=>by cases z)⟩,_,_,_,rfl⟩ (λ_ _ _ _ h=>h.1) ?_ ?_⟩
    ·intro j x σ H6 H7 hj hW fU
     refine(?_:let G_:Prop:=_;G_)
     intro G_
     obtain⟨s6,⟨ys,ET,y0,_⟩,z4,z5,z6,rfl⟩:=hW
     obtain⟨rfl,ex⟩:=fU
     have j0:j=0:=Nat.lt_one_iff.mp hj
     subst j0
     dsimp only[G_]
     cases ex
     rw[y0 rfl] at ET
     have Yj:=s6 _ _ (s4 _ _ ht)
     have Yk:=s6 _ _ (s4 _ _ he)
     have Jd:=s6 _ _ hb
     refine⟨t,_,rfl,hX.of Yj,rfl,_,_,rfl,_,_,rfl,_,_,rfl,rfl,?_⟩
     simp_all only[tV]
     refine⟨.inl ⟨rfl,_,bN.of ET⟩,⟨_,bN.of Jd⟩,?_⟩
     refine comp_map (src_list (λH2 s2=>bN.of (s2 _ _ Jd))) (λ_ _ _ _ h=>by rw[h.1];exact aE.refl _) (by omega) (λk y H8=>Tr n (cA H8 m) k y) (λk y H8 H9 s9 h=>h.mono (bM s9)) ?_ ?_
     ·rintro k x w0 H8 H9 Q2 hk s8 ⟨rfl,ex⟩ kq
      refine(?_:let G_:Prop:=_;G_)
      intro G_
      obtain⟨⟨u,v,rfl,hu,hv⟩,kn⟩:=gA au ex
      dsimp only[G_]
      have ON:=s8 _ _ (s6 _ _ hu)
      have Yl:=s8 _ _ (s6 _ _ hv)
      have Ym:=s8 _ _ Yk
      simp_all only[BH,ON,Yl,Ym]
      refine⟨by rw[sl];exact show 1<=16777216 by decide,λa1 n1=>?_⟩
      have s9:=aj (o:=.lst [V.int ((k:Int)+1)]) n1
      have Yn:=s9 _ _ (s8 _ _ ET)
      have Yo:a1≠m:=λz=>by rw[z,s8 _ _ ET] at n1;cases n1
      refine⟨_,s9 _ _ ON,_,rfl,_,rfl,_,s9 _ _ ON,_,rfl,_,rfl,dN,by rw[sl];decide,λt2 FT Du VG e10=>kq _ _ (s9.trans Du) ⟨t2,a1,rfl,?_,?_⟩⟩
      ·rw[bw (λz=>by rw[z,Yn] at VG;cases VG),e10,Int.zero_add,Int.one_mul]
      ·rw[bw Yo]
       exact Du _ _ ar
     ·intro ws H8 s8 ly hy D n1 n2
      have Yp:=s8 _ _ ET
      refine⟨_,aj n2 _ _ Yp,_,ar,by rw[aaW];omega,?_⟩
      have s9:=s6.trans (s8.trans (aj (o:=.lst ws) n2))
      refine⟨bQ s9 nm,⟨_,ar,(λz=>by cases z),λ_=>qu (by rw[List.nil_append];omega) λk y ek=>?_⟩,_,rfl⟩
      refine(?_:let G_:Prop:=_;G_)
      intro G_
      obtain⟨t',e',rfl,OO,Bd⟩:=hy k y ek
      have out:∀{x o},cA H8 m x=some o->x≠m/\H8 x=some o:=λ{x o} h=>by
       have xm:x≠m:=λz=>by
        have h:(if x=m then none else H8 x)=some o:=h
        rw[if_pos z] at h
        cases h
       rw[bw xm] at h
       exact⟨xm,h⟩
      obtain⟨tm,OO⟩:=out OO
      obtain⟨em,Bd⟩:=out Bd
      dsimp only[G_]
      exact⟨t',e',rfl,by rw[aF tm];exact aj n2 _ _ OO,by rw[aF em];exact aj n2 _ _ Bd⟩
    ·intro σ H6 eQ
     refine(?_:let G_:Prop:=_;G_)
     intro G_
     obtain⟨s6,⟨ys,ET,_,ay⟩,z4,z5,z6,rfl⟩:=eQ
     dsimp only[G_]
     exact hN _ s6 ys _ _ _ ET (ay rfl)
   rintro H6 s6 ys z4 z5 z6 ET ay
   simp_all only[]
   exact⟨s1.trans (s4.trans s6),m,(λz=>by cases z),λ_=>⟨ys,ET,ay⟩,rfl,_,rfl⟩
  ·intro σ H2 eQ
   refine(?_:let G_:Prop:=_;G_)
   intro G_
   obtain⟨s2,l,z1,z2,z3,z4,z5,z6,_,h1,rfl⟩:=eQ
   obtain⟨xs,hl,al⟩:=h1 rfl
   dsimp only[G_]
   simp_all only[]
   exact kk l xs H2 s2 hl al
theorem kg:bo ["pool","found","common","part"] ["pool"] (aw (top 31)):=⟨rfl,rfl,rfl,by decide +kernel,rfl,by decide +kernel,by decide +kernel⟩
theorem KR (T:Txt K mg aK aL aG aY ag aD):cS P w K mg base (bO P w) 6 "pool_table" ["pool"] HI:=by
 have kY:cS P w K mg base (bO P w) 5 "throws_by_bottom" ["pool"] HH:=KQ T
 have dF:cS P w K mg base (bO P w) 2 "part_bottom" ["part"] ux:=CO T
 have ym:cS P w K mg base (bO P w) 4 "table_of" ["rows"] (Ht aL):=KA T
 refine T.uj.eO (λ_ _ _ _ _ _ us hl=>match us,hl with | [_],_=>rfl) λf fd F=>F.gu kg (λvs H Q E h=>?_) (λbZ A outer s H vs Q E hr h=>?_)
 ·obtain⟨_,_,rfl,_⟩:=h;rfl
 ·refine(?_:let G_:Prop:=_;G_)
  intro G_
  obtain⟨a,ps,rfl,⟨vs,ha,ap⟩,⟨n,n1,n6,rfl⟩,l4,kk⟩:=h
  dsimp only[G_]
  have nd:=kg.nd
  refine⟨_,(ai (aP (i:=1) nd rfl (Or.inl rfl) (br kY (hr.mono (by decide)) rfl aM.pass (aa (pv 0) af (se rfl)) (he:=se rfl) (hpl:=na rfl)))
  (ai (aP (i:=2) nd rfl (Or.inr rfl) ae)
  (ai (cQ PassesOwn.never rfl (bx (K:=K) (pv 0)) (aT (i:=3) nd rfl (Or.inl rfl)) (aA (aP (i:=2) nd rfl (Or.inr rfl) (aX cH (pv 2) (br dF (hr.mono (by decide)) rfl aM.pass (aa (pv 3) af (se rfl)) (he:=se rfl) (hpl:=na rfl))))))
  (aA (bf (br ym (hr.mono (by decide)) rfl aM.pass (aa (cL rfl (N:=["pool","found","common","part"]) (so:=aw (top 31)) (N':=["faces","value","bottom","common"]) (k:=3) (fr:=[2]) rfl rfl ⟨rfl,by decide +kernel,by decide +kernel,by decide +kernel,rfl,by decide +kernel,by decide +kernel⟩ (bx (K:=K) (pv 1)) (λ_ _ _ _ _=>(c6 (K:=K) (n:=3) rfl (bu (aT (i:=0) (show(["faces","value","bottom","common"]:List Str).Nodup by decide +kernel) rfl (Or.inl rfl)) (bu (aT (i:=1) (show(["faces","value","bottom","common"]:List Str).Nodup by decide +kernel) rfl (Or.inl rfl)) (bu (aT (i:=2) (show(["faces","value","bottom","common"]:List Str).Nodup by decide +kernel) rfl (Or.inl rfl)) cU))))) (λ_ _ _ _ _=>cJ)
   (λ_ _ _ _ _=>(aQ (aa (pv 1) (aa (aX cI (pv 3) (pv 2)) af (se rfl)) (se rfl))))) af (se rfl)) (he:=se rfl) (hpl:=na rfl))))))),?_⟩
  refine(?_:let cB:TS:=_;let cC:TS:=_;let cD:TS:=_;let dE:TS:=_;tSeq cB (tSeq cC (tSeq cD dE)) _ _ _)
  intro cB cC cD dE
  have sl:=sizeLine_eq
  obtain⟨q,rfl,hq⟩:∃q,vs=[.ref q]/\H q=some (.tup (uT (.oG n))):=by
   cases vs with
   | nil=>exact ap.elim
   | cons v r=>
    refine(?_:let G_:Prop:=_;G_)
    intro G_
    obtain⟨⟨q,rfl,hq⟩,h⟩:=ap
    dsimp only[G_]
    cases r with
    | nil=>exact⟨q,rfl,hq⟩
    | cons _ _=>exact h.elim
  change tSeq _ _ _ _ _
  refine bb (λN=>∀H1,aE H H1->∀l xs,H1 l=some (.lst xs)->Al (Tr n H1) (List.range n) xs->N [some (.ref a),some (.ref l),none,none] H1) ?_ (λN hN=>?_)
  case refine_2=>
   simp_all only[HH]
   exact⟨q,ha,n,hq,n6,λl xs H1 s1 hl al=>hN _ s1 l xs hl al⟩
  rintro H1 s1 l xs hl al
  have lx:=al.length
  rw[aaK] at lx
  change tSeq _ _ _ _ _
  refine bb (λN=>N [some (.ref a),some (.ref l),some (.int 1),none] H1) ?_ (λN hN=>?_)
  case refine_2=>
   simp_all only[]
   exact hN
  change tSeq _ _ _ _ _
  refine bb (λN=>∀z,N [some (.ref a),some (.ref l),some (.int (n:Int)),z] H1) ?_ (λN hN=>?_)
  case refine_2=>
   simp_all only[]
   refine⟨⟨_,bN.of (s1 _ _ ha)⟩,cu (src_list (Ok:=λH'=>H1=H') (λH' e=>by subst e;exact bN.of (s1 _ _ ha))) (λi σ H'=>H1=H'/\∃z,σ=[some (.ref a),some (.ref l),some (.int (if i=0 then 1 else (n:Int))),z]) ⟨rfl,_,rfl⟩ (λ_ _ _ _ h=>h.1) ?_ ?_⟩
   ·intro i x σ H' wX hi hW fU
    refine(?_:let G_:Prop:=_;G_)
    intro G_
    obtain⟨rfl,z,rfl⟩:=hW
    obtain⟨rfl,ex⟩:=fU
    have i0:i=0:=Nat.lt_one_iff.mp hi
    subst i0
    dsimp only[G_]
    cases ex
    simp_all only[ux]
    exact⟨n,s1 _ _ hq,n6,dN,by rw[if_neg (by decide),Int.one_mul],_,rfl⟩
   ·intro σ H' eQ
    refine(?_:let G_:Prop:=_;G_)
    intro G_
    obtain⟨rfl,z,rfl⟩:=eQ
    dsimp only[G_]
    exact hN _
  rintro z
  have n0:(0:Int)< (n:Int):=by omega
  simp_all only[Ht]
  refine⟨⟨_,bN.of hl⟩,?_⟩
  refine Ax (K:=K) (src_list (λH2 s2=>bN.of (s2 _ _ hl))) (λi u v b' H2=>v=.int ((i:Int)+1)/\b'=.int (n:Int)) ?_ (by omega) (λi y H2=>Rep H2 (oE ((i:Int)+1,1)) y) (λi y H2 H3 s3 h=>h.mono s3) ?_ ?_
  ·rintro i x H2 H3 hi s2 ⟨rfl,ex⟩
   refine(?_:let G_:Prop:=_;G_)
   intro G_
   obtain⟨⟨t,e,rfl,ht,he⟩,_⟩:=gA al ex
   dsimp only[G_]
   exact⟨aE.refl _,t,_,_,_,rfl,hX.of (s2 _ _ ht),rfl,rfl⟩
  ·rintro i u v b' H2 Q2 hi s2 ⟨rfl,rfl⟩ kq
   simp_all only[]
   refine⟨dA.of (n:=64) n0 (Bt.of 1000000 (by omega) (by omega)),by decide,λt H3 s3 nt e3=>kq _ _ s3 (dB.mpr ⟨t,rfl,?_⟩)⟩
   rw[Int.ediv_self (by omega)] at e3
   exact e3
  ·intro ys H2 s2 ly hy D OP AZ
   obtain⟨nb,Yq,er⟩:=Cv n (by simp;omega)
   have rp:Rep (upd H2 D (.lst ys)) (iE (Dq n)) (.ref D):=by
    refine aO.mpr ⟨D,ys,rfl,ar,bq.of ?_ λi dd v e1 e2=>?_⟩
    ·unfold Dq
     rw[aac,aac,aaK]
     omega
    ·unfold Dq at e1
     rw[aad,aad] at e1
     refine(?_:let G_:Prop:=_;G_)
     intro G_
     obtain⟨p,ep,rfl⟩:=Option.map_eq_some_iff.mp e1
     obtain⟨k,ek,rfl⟩:=Option.map_eq_some_iff.mp ep
     dsimp only[G_]
     obtain⟨h1,h2⟩:=List.getElem?_eq_some_iff.mp ek
     rw[List.getElem_range] at h2
     subst h2
     exact(hy i v e2).mono (aj AZ)
   have sD:aE H (upd H2 D (.lst ys)):=s1.trans (s2.trans (aj AZ))
   refine⟨Dq n,rp,by unfold Dq;rw[aac,aaK];omega,λp hp=>?_,Yq,λb=>absurd b nb,λ_ p H' s' np r'=>kk p H' (sD.trans s') (none_of sD np) ?_⟩
   ·refine(?_:let G_:Prop:=_;G_)
    intro G_
    obtain⟨k,_,rfl⟩:=List.mem_map.mp (show p∈(List.range n).map _ from hp)
    dsimp only[G_]
    exact show(1:Int)<=10^12 by decide
   ·rw[er] at r'
    exact r'
theorem gI:bo ["several","common","one"] ["several"] (aw (top 9)):=⟨rfl,rfl,rfl,by decide +kernel,rfl,by decide +kernel,by decide +kernel⟩
theorem KS (T:Txt K mg aK aL aG aY ag aD):cS P w K mg base (bO P w) 2 "common_bottom" ["several"] HK:=by
 have ef:cS P w K mg base (bO P w) 1 "common_divisor" ["one","other"] Cn:=FR T
 refine T.oS.eO (λ_ _ _ _ _ _ us hl=>match us,hl with | [_],_=>rfl) λf fd F=>F.gu gI (λvs H Q E h=>?_) (λbZ A outer s H vs Q E hr h=>?_)
 ·obtain⟨_,_,_,rfl,_⟩:=h;rfl
 ·refine(?_:let G_:Prop:=_;G_)
  intro G_
  obtain⟨v,ps,W,rfl,rp,W0,W1,hz,good,k⟩:=h
  dsimp only[G_]
  have nd:=gI.nd
  refine⟨_,(ai (aP (i:=1) nd rfl (Or.inl rfl) ae)
  (ai (cQ PassesOwn.never rfl (bx (K:=K) (pv 0)) (aT (i:=2) nd rfl (Or.inl rfl)) (aA (aP (i:=1) nd rfl (Or.inl rfl) (aX cH (aX cI (pv 1) (br ef (hr.mono (by decide)) rfl aM.pass (aa (pv 1) (aa (aB az (pv 2) ae (λ_ _=>rfl)) af (se rfl)) (se rfl)) (he:=se rfl) (hpl:=na rfl))) (aB az (pv 2) ae (λ_ _=>rfl))))))
  (aA (bf (pv 1))))),?_⟩
  refine(?_:let cB:TS:=_;let cC:TS:=_;let cD:TS:=_;tSeq cB (tSeq cC cD) _ _ _)
  intro cB cC cD
  refine(?_:let G_:Prop:=_;G_)
  intro G_
  obtain⟨l,xs,rfl,hl,rl⟩:=aO.mp rp
  dsimp only[G_]
  have len:=rl.length
  rw[aac] at len
  simp_all only[]
  refine⟨⟨_,bN.of hl⟩,cu (src_list (Ok:=λH2=>H2=H) (λH2 e=>by rw[e];exact bN.of hl)) (λi σ H2=>H2=H/\∃B z,σ=[some (.ref l),some (.int B),z]/\0<B/\(∀M,(∀p∈ps,p.2∣M)->B∣M)/\∀p∈ps.take i,p.2∣B)
   ⟨rfl,1,none,rfl,by decide,λ_ _=>Int.one_dvd _,by simp⟩ (λ_ _ _ _ h=>h.1) ?_ ?_⟩
  ·intro i x σ H2 H3 hi hW fU
   refine(?_:let G_:Prop:=_;G_)
   intro G_
   obtain⟨rfl,B,z,rfl,B0,bB,dv⟩:=hW
   obtain⟨rfl,hx⟩:=fU
   obtain⟨d,ed,rd⟩:=rl.get hx
   dsimp only[G_]
   refine(?_:let G_:Prop:=_;G_)
   intro G_
   obtain⟨p,ep,rfl⟩:=aad ..▸ed |>Option.map_eq_some_iff.mp
   obtain⟨a,rfl,ha⟩:=dB.mp rd
   obtain⟨p0,bp⟩:=good p (aal ep)
   dsimp only[G_]
   have g0:=Nm.Fu (a:=B) (show p.2≠0 by omega)
   have p1:p.2<=1000000:=Int.le_trans (Int.le_of_dvd W0 bp) W1
   have gb:Bt 20 (Nm.g B p.2):=Bt.of 1000000 (by omega) (by have:=Nm.JU (a:=B) p0;omega)
   simp_all only[Cn,ha]
   have e:B / Nm.g B p.2*p.2=B* (p.2 / Nm.g B p.2):=Nm.sI B p.2
   refine⟨dA.of g0 gb,xM (by omega) (by omega),?_,?_,?_⟩
   ·exact Int.mul_pos (Int.ediv_pos_of_pos_of_dvd B0 (Nm.N8 _ _) (Nm.tY _ _)) p0
   ·exact λM hM=>CC (bB M hM) (hM p (aal ep))
   ·intro q hq
    rw[aaF,ep] at hq
    rcases List.mem_append.mp hq with hq | hq
    ·rw[e]
     exact Int.dvd_trans (dv q hq) (Int.dvd_mul_right _ _)
    ·have:q=p:=by simpa using hq
     subst this
     exact Int.dvd_mul_left _ _
  ·intro σ H2 eQ
   refine(?_:let G_:Prop:=_;G_)
   intro G_
   obtain⟨rfl,B,z,rfl,B0,bB,dv⟩:=eQ
   dsimp only[G_]
   simp_all only[]
   exact k B B0 bB (λp hp=>dv p (by rw[aaE (by omega)];exact hp))
theorem mf:bo ["table"] ["table"] (aw (top 13)):=⟨rfl,rfl,rfl,by decide +kernel,rfl,by decide +kernel,by decide +kernel⟩
theorem HX (T:Txt K mg aK aL aG aY ag aD):cS P w K mg base (bO P w) 3 "bottom_of" ["table"] CB:=by
 have o7:cS P w K mg base (bO P w) 2 "common_bottom" ["several"] HK:=KS T
 refine T.vP.eO (λ_ _ _ _ _ _ us hl=>match us,hl with | [_],_=>rfl) λf fd F=>F.gu mf (λvs H Q E h=>?_) (λbZ A outer s H vs Q E hr h=>?_)
 ·obtain⟨_,_,_,rfl,_⟩:=h;rfl
 ·refine(?_:let G_:Prop:=_;G_)
  intro G_
  obtain⟨v,rows,W,rfl,rp,⟨W0,W1,hz,good⟩,k⟩:=h
  dsimp only[G_]
  have nd:=mf.nd
  refine⟨_,(aA (bf (br o7 (hr.mono (by decide)) rfl aM.pass (aa (cL rfl (N:=["table"]) (so:=aw (top 13)) (N':=["value","part"]) (k:=2) (fr:=[]) rfl rfl ⟨rfl,by decide +kernel,by decide +kernel,by decide +kernel,rfl,by decide +kernel,by decide +kernel⟩ (bx (K:=K) (pv 0)) (λ_ _ _ _ _=>(c6 (K:=K) (n:=2) rfl (bu (aT (i:=0) (show(["value","part"]:List Str).Nodup by decide +kernel) rfl (Or.inl rfl)) (bu (aT (i:=1) (show(["value","part"]:List Str).Nodup by decide +kernel) rfl (Or.inl rfl)) cU)))) (λ_ _ _ _ _=>cJ)
   (λ_ _ _ _ _=>(pv 1))) af (se rfl)) (he:=se rfl) (hpl:=na rfl)))),?_⟩
  refine(?_:let G_:Prop:=_;G_)
  intro G_
  obtain⟨l,xs,rfl,hl,rl⟩:=aO.mp rp
  dsimp only[G_]
  have len:=rl.length
  rw[aac] at len
  simp_all only[]
  refine⟨⟨_,bN.of hl⟩,?_⟩
  refine jh (src_list (λH2 s2=>s2.seq (bN.of hl))) (λi a b H3=>∀r,rows[i]?=some r->Rep H3 (oE r.2) b) ?_ (by rw[sizeLine_eq];omega) (λi y H2=>∀r,rows[i]?=some r->Rep H2 (oE r.2) y) (λi y H2 H3 s3 h r e=>(h r e).mono s3) ?_ ?_
  ·rintro i x H2 H3 hi s2 ⟨rfl,hx⟩
   refine(?_:let G_:Prop:=_;G_)
   intro G_
   obtain⟨d,ed,rd⟩:=rl.get hx
   rw[aad] at ed
   obtain⟨r,er,rfl⟩:=Option.map_eq_some_iff.mp ed
   obtain⟨p,q,rfl,hp,hq⟩:=lW.mp rd
   dsimp only[G_]
   refine⟨aE.refl _,p,_,_,rfl,hX.of (s2 _ _ hp),λr' FV=>?_⟩
   rw[er] at FV
   cases FV
   exact dB.mpr ⟨q,rfl,s2 _ _ hq⟩
  ·intro i a b H3 Q2 hi s3 it kq
   simp_all only[]
   exact kq _ _ (aE.refl _) it
  ·intro ys H2 s2 ly hy D n1 n2
   simp_all only[HK]
   have Yr:Rep (upd H2 D (.lst ys)) (iE (rows.map (·.2))) (.ref D):=by
    refine aO.mpr ⟨D,ys,rfl,ar,bq.of ?_ λi dd v e1 e2=>?_⟩
    ·rw[aac,aac,ly,len]
    ·rw[aad,aad] at e1
     refine(?_:let G_:Prop:=_;G_)
     intro G_
     obtain⟨p,ep,rfl⟩:=Option.map_eq_some_iff.mp e1
     obtain⟨r,er,rfl⟩:=Option.map_eq_some_iff.mp ep
     dsimp only[G_]
     exact(hy i v e2 r er).mono (aj n2)
   refine⟨_,Yr,W,W0,W1,by rw[aac];exact hz,λp hp=>?_,λB B0 bB dv=>?_⟩
   ·refine(?_:let G_:Prop:=_;G_)
    intro G_
    obtain⟨r,yn,rfl⟩:=List.mem_map.mp hp
    dsimp only[G_]
    exact⟨(good r yn).1,(good r yn).2.1⟩
   ·refine k B _ (s2.trans (aj n2)) ⟨B0,λr yn=>dv _ (List.mem_map.mpr ⟨r,yn,rfl⟩),λM hM=>bB M λp hp=>by obtain⟨r,yn,rfl⟩:=List.mem_map.mp hp;exact hM r yn⟩
theorem qE:bo ["table","bottom"] ["table","bottom"] (aw (top 14)):=⟨rfl,rfl,rfl,by decide +kernel,rfl,by decide +kernel,by decide +kernel⟩
theorem KU (T:Txt K mg aK aL aG aY ag aD):cS P w K mg base (bO P w) 1 "weighed" ["table","bottom"] HL:=by
 refine T.AI.eO (λ_ _ _ _ _ _ us hl=>match us,hl with | [_,_],_=>rfl) λf fd F=>F.gu qE (λvs H Q E h=>?_) (λbZ A outer s H vs Q E hr h=>?_)
 ·obtain⟨_,_,_,_,rfl,_⟩:=h;rfl
 ·refine(?_:let G_:Prop:=_;G_)
  intro G_
  obtain⟨v,rows,W,B,rfl,rp,gr,gb,k⟩:=h
  have b1:=HM gr gb
  obtain⟨W0,W1,hz,good⟩:=id gr
  obtain⟨B0,dv,bB⟩:=gb
  dsimp only[G_]
  have nd:=qE.nd
  refine⟨_,(aA (bf (cL rfl (N:=["table","bottom"]) (so:=aw (top 14)) (N':=["value","part","bottom"]) (k:=2) (fr:=[1]) rfl rfl ⟨rfl,by decide +kernel,by decide +kernel,by decide +kernel,rfl,by decide +kernel,by decide +kernel⟩ (bx (K:=K) (pv 0)) (λ_ _ _ _ _=>(c6 (K:=K) (n:=2) rfl (bu (aT (i:=0) (show(["value","part","bottom"]:List Str).Nodup by decide +kernel) rfl (Or.inl rfl)) (bu (aT (i:=1) (show(["value","part","bottom"]:List Str).Nodup by decide +kernel) rfl (Or.inl rfl)) cU)))) (λ_ _ _ _ _=>cJ)
   (λ_ _ _ _ _=>(aQ (aa (pv 0) (aa (aX cH (aB az (pv 1) ae (λ_ _=>rfl)) (aX cI (pv 2) (aB az (pv 1) ae (λ_ _=>rfl)))) af (se rfl)) (se rfl))))))),?_⟩
  refine(?_:let G_:Prop:=_;G_)
  intro G_
  obtain⟨l,xs,rfl,hl,rl⟩:=aO.mp rp
  dsimp only[G_]
  have len:=rl.length
  rw[aac] at len
  simp_all only[]
  refine⟨⟨_,bN.of hl⟩,?_⟩
  refine jh (src_list (λH2 s2=>s2.seq (bN.of hl))) (λi a b H3=>∃r,rows[i]?=some r/\a=.int r.1/\Rep H3 (oE r.2) b) ?_ (by rw[sizeLine_eq];omega) (λi y H2=>∀r,rows[i]?=some r->Rep H2 (oE (r.1,r.2.1* (B / r.2.2))) y) (λi y H2 H3 s3 h r e=>(h r e).mono s3) ?_ ?_
  ·rintro i x H2 H3 hi s2 ⟨rfl,hx⟩
   refine(?_:let G_:Prop:=_;G_)
   intro G_
   obtain⟨d,ed,rd⟩:=rl.get hx
   rw[aad] at ed
   obtain⟨r,er,rfl⟩:=Option.map_eq_some_iff.mp ed
   obtain⟨p,q,rfl,hp,hq⟩:=lW.mp rd
   dsimp only[G_]
   exact⟨aE.refl _,p,_,_,rfl,hX.of (s2 _ _ hp),r,er,rfl,dB.mpr ⟨q,rfl,s2 _ _ hq⟩⟩
  ·intro i a b H3 Q2 hi s3 fU kq
   refine(?_:let G_:Prop:=_;G_)
   intro G_
   obtain⟨r,er,rfl,rb⟩:=fU
   obtain⟨q,rfl,hq⟩:=dB.mp rb
   obtain⟨g3,g2,g0,g1⟩:=good r (aal er)
   dsimp only[G_]
   have r1:r.2.2<=1000000:=Int.le_trans (Int.le_of_dvd W0 g2) W1
   simp_all only[hq]
   refine⟨dA.of (n:=20) g3 (Bt.of 1000000 (by omega) (by omega)),dN (by omega) (by omega),by decide,λp4 H4 s4 _ e4=>kq _ _ s4 λr' FV=>?_⟩
   rw[er] at FV
   cases FV
   exact dB.mpr ⟨p4,rfl,e4⟩
  ·intro ys H2 s2 ly hy D n1 n2
   refine k _ _ (s2.trans (aj n2)) n1 (aO.mpr ⟨D,ys,rfl,ar,bq.of ?_ λi dd v e1 e2=>?_⟩)
   ·rw[aac,ly]
    unfold Nm.weigh
    rw[aac,len]
   ·unfold Nm.weigh at e1
    rw[aad,aad] at e1
    refine(?_:let G_:Prop:=_;G_)
    intro G_
    obtain⟨p,ep,rfl⟩:=Option.map_eq_some_iff.mp e1
    obtain⟨r,er,rfl⟩:=Option.map_eq_some_iff.mp ep
    dsimp only[G_]
    exact(hy i v e2 r er).mono (aj n2)
theorem oK:bo ["rows"] ["rows"] (aw (top 34)):=⟨rfl,rfl,rfl,by decide +kernel,rfl,by decide +kernel,by decide +kernel⟩
theorem KW (T:Txt K mg aK aL aG aY ag aD):cS P w K mg base (bO P w) 1 "own_rows" ["rows"] ya:=by
 refine T.x6.eO (λ_ _ _ _ _ _ us hl=>match us,hl with | [_],_=>rfl) λf fd F=>F.gu oK (λvs H Q E h=>?_) (λbZ A outer s H vs Q E hr h=>?_)
 ·obtain⟨_,_,rfl,_⟩:=h;rfl
 ·refine(?_:let G_:Prop:=_;G_)
  intro G_
  obtain⟨v,rs,rfl,rp,lr,ll,kk⟩:=h
  dsimp only[G_]
  have nd:=oK.nd
  refine⟨_,(aA (bf (cL rfl (N:=["rows"]) (so:=aw (top 34)) (N':=["row"]) (k:=1) (fr:=[]) rfl rfl ⟨rfl,by decide +kernel,by decide +kernel,by decide +kernel,rfl,by decide +kernel,by decide +kernel⟩ (bx (K:=K) (pv 0)) (λ_ _ _ _ _=>(aT (i:=0) (show(["row"]:List Str).Nodup by decide +kernel) rfl (Or.inl rfl))) (λ_ _ _ _ _=>cJ)
   (λ_ _ _ _ _=>(aQ (aa (aB az (pv 0) ae (λ_ _=>rfl)) (aa (aB az (pv 0) ae (λ_ _=>rfl)) (aa (dj (eA (K:=K)) (by rfl) T.z_list rfl (aa (aB az (pv 0) ae (λ_ _=>rfl)) af (se rfl)) (he:=se rfl) (hpl:=na rfl)) (aa (aB az (pv 0) ae (λ_ _=>rfl)) af (se rfl)) (se rfl)) (se rfl)) (se rfl))))))),?_⟩
  have sl:=sizeLine_eq
  refine(?_:let G_:Prop:=_;G_)
  intro G_
  obtain⟨l,xs,rfl,hl,rl⟩:=aO.mp rp
  dsimp only[G_]
  have len:=rl.length
  rw[aac] at len
  simp_all only[]
  refine⟨⟨_,bN.of hl⟩,?_⟩
  refine comp_map (src_list (K:=K) (λH' s'=>bN.of (s' _ _ hl))) (λ_ _ _ _ h=>by rw[h.1];exact aE.refl _) (by omega) (λi y H4=>∀r,rs[i]?=some r->Rep H4 (ie r) y) (λi y H4 H5 s5 h r e=>(h r e).mono s5) ?_ ?_
  ·rintro i x w0 H4 H5 Q2 hi s4 ⟨rfl,ex⟩ kq
   refine(?_:let G_:Prop:=_;G_)
   intro G_
   obtain⟨d,ed,rd⟩:=rl.get ex
   rw[aad] at ed
   obtain⟨r,er,rfl⟩:=Option.map_eq_some_iff.mp ed
   obtain⟨p,a,b,c,d,rfl,hp,ra,rb,rc,OQ⟩:=b7.mp (rd.mono s4)
   obtain⟨c',VH,rfl,hc,uK⟩:=aO.mp rc
   dsimp only[G_]
   simp_all only[hp]
   refine⟨_,.inl (bN.of hc),λm nm=>⟨_,aj nm _ _ hp,_,rfl,by decide,λt H6 s6 nt e6=>kq _ _ ((aj nm).trans s6) λr' FV=>?_⟩⟩
   rw[er] at FV
   cases FV
   have sm:=(aj (o:=.lst VH) nm).trans s6
   exact b7.mpr ⟨t,_,_,_,_,rfl,e6,ra.mono sm,rb.mono sm,aO.mpr ⟨m,VH,rfl,s6 _ _ ar,uK.mono sm⟩,OQ.mono sm⟩
  ·intro ys H5 s5 ly hy D n1 n2
   refine kk D _ (s5.trans (aj n2)) (aO.mpr ⟨D,ys,rfl,ar,bq.of (by rw[aac];omega) λi dd u e1 e2=>?_⟩)
   rw[aad] at e1
   refine(?_:let G_:Prop:=_;G_)
   intro G_
   obtain⟨r,er,rfl⟩:=Option.map_eq_some_iff.mp e1
   dsimp only[G_]
   exact(hy i u e2 r er).mono (aj n2)
theorem oM:bo ["what"] ["what"] (aw (top 35)):=⟨rfl,rfl,rfl,by decide +kernel,rfl,by decide +kernel,by decide +kernel⟩
theorem KY (T:Txt K mg aK aL aG aY ag aD):cS P w K mg base (bO P w) 2 "own_what" ["what"] Hu:=by
 have qF:cS P w K mg base (bO P w) 1 "own_rows" ["rows"] ya:=KW T
 refine T.x8.eO (λ_ _ _ _ _ _ us hl=>match us,hl with | [_],_=>rfl) λf fd F=>F.gu oM (λvs H Q E h=>?_) (λbZ A outer s H vs Q E hr h=>?_)
 ·obtain⟨_,_,_,rfl,_⟩:=h;rfl
 ·refine(?_:let G_:Prop:=_;G_)
  intro G_
  obtain⟨v,x,cs,rfl,rp,gd,kk⟩:=h
  dsimp only[G_]
  have nd:=oM.nd
  refine⟨_,(ai (bG (aN bW (aB az (pv 0) ae (λ_ _=>rfl)) aJ (aU _)) (aA (bf (aQ (aa aJ (aa (dj (eA (K:=K)) (by rfl) T.z_list rfl (aa (aB az (pv 0) ae (λ_ _=>rfl)) af (se rfl)) (he:=se rfl) (hpl:=na rfl)) (aa (aB az (pv 0) ae (λ_ _=>rfl)) (aa (br qF (hr.mono (by decide)) rfl aM.pass (aa (aB az (pv 0) ae (λ_ _=>rfl)) af (se rfl)) (he:=se rfl) (hpl:=na rfl)) af (se rfl)) (se rfl)) (se rfl)) (se rfl)))))
   bj)
  (ai (bG (aN bW (aB az (pv 0) ae (λ_ _=>rfl)) aJ (aU _)) (aA (bf (aQ (aa aJ (aa (aB az (pv 0) ae (λ_ _=>rfl)) (aa (br qF (hr.mono (by decide)) rfl aM.pass (aa (aB az (pv 0) ae (λ_ _=>rfl)) af (se rfl)) (he:=se rfl) (hpl:=na rfl)) af (se rfl)) (se rfl)) (se rfl)))))
   bj)
  (aA (bf (pv 0))))),?_⟩
  refine(?_:let cB:TS:=_;let cC:TS:=_;let cD:TS:=_;tSeq cB (tSeq cC cD) _ _ _)
  intro cB cC cD
  have sl:=sizeLine_eq
  cases x with
  | ask c k a b=>
   refine(?_:let G_:Prop:=_;G_)
   intro G_
   obtain⟨p,x1,x2,x3,x4,x5,rfl,hp,r1,r2,r3,r4,r5⟩:=ng.mp (show Rep H (.tup _) v from rp)
   rw[ao] at r1
   subst r1
   dsimp only[G_]
   simp_all only[ya,hp]
   rw[if_neg (by decide +kernel),if_neg (by decide +kernel)]
   exact kk _ _ (aE.refl _) rp
  | fin t b=>
   refine(?_:let G_:Prop:=_;G_)
   intro G_
   obtain⟨p,x1,x2,rfl,hp,r1,r2⟩:=aV.mp (show Rep H (.tup _) v from rp)
   rw[ao] at r1
   subst r1
   dsimp only[G_]
   simp_all only[ya,hp]
   rw[if_neg (by decide +kernel),if_neg (by decide +kernel)]
   exact kk _ _ (aE.refl _) rp
  | score c=>
   refine(?_:let G_:Prop:=_;G_)
   intro G_
   obtain⟨p,x1,x2,rfl,hp,r1,r2⟩:=aV.mp (show Rep H (.tup _) v from rp)
   rw[ao] at r1
   subst r1
   dsimp only[G_]
   simp_all only[ya,hp]
   rw[if_neg (by decide +kernel),if_neg (by decide +kernel)]
   exact kk _ _ (aE.refl _) rp
  | pick w rs=>
   refine(?_:let G_:Prop:=_;G_)
   intro G_
   obtain⟨p,x1,x2,x3,rfl,hp,r1,r2,r3⟩:=bD.mp (show Rep H (.tup _) v from rp)
   rw[ao] at r1
   subst r1
   dsimp only[G_]
   simp_all only[ya,hp]
   rw[if_neg (by decide +kernel)]
   obtain⟨g1,g2⟩:=gd
   refine⟨_,r3,by rw[aac];exact g1,λr yn=>?_,λm H1 s1 rm=>⟨by decide,λt H2 s2 nt e2=>kk _ _ (s1.trans s2) ?_⟩⟩
   ·refine(?_:let G_:Prop:=_;G_)
    intro G_
    obtain⟨r0,h0,rfl⟩:=List.mem_map.mp yn
    dsimp only[G_]
    show(r0.ds.map uq).length<=100
    rw[aac]
    exact(g2 r0 h0).1
   ·exact bD.mpr ⟨t,_,_,_,rfl,e2,ao.mpr rfl,r2.mono (s1.trans s2),rm.mono s2⟩
  | jw iG t b rs=>
   refine(?_:let G_:Prop:=_;G_)
   intro G_
   obtain⟨p,x1,x2,x3,x4,rfl,hp,r1,r2,r3,r4⟩:=b7.mp (show Rep H (.tup _) v from rp)
   rw[ao] at r1
   subst r1
   dsimp only[G_]
   simp_all only[ya,hp]
   refine(?_:let G_:Prop:=_;G_)
   intro G_
   obtain⟨g1,g2,g3⟩:=gd
   obtain⟨l2,KZ,rfl,Fs,Ys⟩:=aO.mp r2
   dsimp only[G_]
   refine⟨_,rfl,_,.inl (bN.of Fs),λm nm=>?_⟩
   have sm:=aj (o:=.lst KZ) nm
   refine⟨_,sm _ _ hp,_,rfl,_,sm _ _ hp,_,rfl,_,r4.mono sm,by rw[aac];exact g2,λr yn=>?_,λn H1 s1 rn=>⟨by decide,λt H2 s2 nt e2=>kk _ _ (sm.trans (s1.trans s2)) ?_⟩⟩
   ·refine(?_:let G_:Prop:=_;G_)
    intro G_
    obtain⟨r0,h0,rfl⟩:=List.mem_map.mp yn
    dsimp only[G_]
    show(r0.2.2.1.map uq).length<=100
    rw[aac]
    exact(g3 r0 h0).1
   ·have EU:=sm.trans (s1.trans s2)
    exact b7.mpr ⟨t,_,_,_,_,rfl,e2,ao.mpr rfl,aO.mpr ⟨m,KZ,rfl,s2 _ _ (s1 _ _ ar),Ys.mono EU⟩,r3.mono EU,rn.mono s2⟩
theorem kh:bo ["self","counts","spot","number"] ["self","counts","spot","number"] (aw (inClass (top 36) 1)):=⟨rfl,rfl,rfl,by decide +kernel,rfl,by decide +kernel,by decide +kernel⟩
theorem HY (T:Txt K mg aK aL aG aY ag aD):b5 P w K mg base (bO P w) 1 ag "put" ["self","counts","spot","number"] (sV ag):=by
 refine T.rL.eO (λ_ _ _ _ _ _ us hl=>match us,hl with | [_,_,_,_],_=>rfl) λf fd F=>F.gu kh (λvs H Q E h=>?_) (λbZ A outer s H vs Q E hr h=>?_)
 ·obtain⟨_,_,_,_,_,_,rfl,_⟩:=h;rfl
 ·refine(?_:let G_:Prop:=_;G_)
  intro G_
  obtain⟨c,l,i,k,g,ns,rfl,⟨dx,sp,mo,wh,tb,us,ft,h1,h2,h3,h4,h5,h6⟩,hl,il,ln,kk⟩:=h
  dsimp only[G_]
  have nd:=kh.nd
  refine⟨_,(aA (gQ (bh (jg rfl) (by rfl) T.z_min rfl (aa (pv 3) (aa (aB aW (b6 (pv 0) rfl) (pv 2) (λ_ _=>rfl)) af (se rfl)) (se rfl)) (he:=se rfl) (hpl:=na rfl)) (pC (pv 1) (pv 2) set_list))),?_⟩
  have h1:=bE _ _ h1
  have h3:=bE _ _ h3
  simp_all only[dR]
  refine⟨_,_,_,h1,T.aR,T.na_Course_mosts,_,FN,_,rfl,_,h3,_,EB il,_,rfl,_,hl,_,ma (by rw[aac];omega),?_⟩
  rw[<-List.map_set]
  have e:(if most g.cs i<k then most g.cs i else k)=min k (most g.cs i):=by omega
  rw[e]
  exact kk
theorem mh:bo ["self","counts","deed","value","spot","other"] ["self","counts","deed","value"] (aw (inClass (top 36) 2)):=⟨rfl,rfl,rfl,by decide +kernel,rfl,by decide +kernel,by decide +kernel⟩
theorem K0 (T:Txt K mg aK aL aG aY ag aD):b5 P w K mg base (bO P w) 2 ag "do" ["self","counts","deed","value"] (Hv ag):=by
 have fq:b5 P w K mg base (bO P w) 1 ag "put" ["self","counts","spot","number"] (sV ag):=HY T
 refine T.uo.eO (λ_ _ _ _ _ _ us hl=>match us,hl with | [_,_,_,_],_=>rfl) λf fd F=>F.gu mh (λvs H Q E h=>?_) (λbZ A outer s H vs Q E hr h=>?_)
 ·obtain⟨_,_,_,_,_,_,_,rfl,_⟩:=h;rfl
 ·refine(?_:let G_:Prop:=_;G_)
  intro G_
  obtain⟨c,l,dv,v,g,ns,d,rfl,co,hl,rd,gd,ln,kk⟩:=h
  dsimp only[G_]
  have nd:=mh.nd
  refine⟨_,(ai (aP (i:=4) nd rfl (Or.inl rfl) (dk (dt hr) (b6 (pv 0) rfl) (aB az (pv 2) ae (λ_ _=>rfl)) (λ_ _=>rfl)))
  (aA (bG (aN bW (aB az (pv 2) ae (λ_ _=>rfl)) aJ (aU _)) (aA (bX (c7 fq T.aR (pv 0) (hr.mono (by decide)) aM.pass (aa (pv 1) (aa (pv 4) (aa (aB az (pv 2) ae (λ_ _=>rfl)) af (se rfl)) (se rfl)) (se rfl)) (hst:=se rfl) (hpl:=na rfl))))
   (aA (bG (aN bW (aB az (pv 2) ae (λ_ _=>rfl)) aJ (aU _)) (aA (bX (c7 fq T.aR (pv 0) (hr.mono (by decide)) aM.pass (aa (pv 1) (aa (pv 4) (aa (aX bV (aB aW (pv 1) (pv 4) (λ_ _=>rfl)) (aB az (pv 2) ae (λ_ _=>rfl))) af (se rfl)) (se rfl)) (se rfl)) (hst:=se rfl) (hpl:=na rfl))))
   (aA (bG (aN bW (aB az (pv 2) ae (λ_ _=>rfl)) aJ (aU _)) (aA (bX (c7 fq T.aR (pv 0) (hr.mono (by decide)) aM.pass (aa (pv 1) (aa (pv 4) (aa (aX bV (aB aW (pv 1) (pv 4) (λ_ _=>rfl)) (pv 3)) af (se rfl)) (se rfl)) (se rfl)) (hst:=se rfl) (hpl:=na rfl))))
   (ai (aP (i:=5) nd rfl (Or.inl rfl) (dk (dt hr) (b6 (pv 0) rfl) (aB az (pv 2) ae (λ_ _=>rfl)) (λ_ _=>rfl)))
  (ai (bX (c7 fq T.aR (pv 0) (hr.mono (by decide)) aM.pass (aa (pv 1) (aa (pv 5) (aa (aX bV (aB aW (pv 1) (pv 5) (λ_ _=>rfl)) (aB aW (pv 1) (pv 4) (λ_ _=>rfl))) af (se rfl)) (se rfl)) (se rfl)) (hst:=se rfl) (hpl:=na rfl)))
  (aA (gQ ae (pC (pv 1) (pv 4) set_list)))))))))))),?_⟩
  refine(?_:let G_:Prop:=_;G_)
  intro G_
  obtain⟨dx,sp,mo,wh,tb,us,ft,h1,h2,h3,h4,h5,h6⟩:=id co
  dsimp only[G_]
  have h1:=bE _ _ h1
  have h2:=bE _ _ h2
  have lp:∀{a b c d e:V},List.lookup (Str.ofString "put") [(Str.ofString "spots",a),(Str.ofString "mosts",b),(Str.ofString "first",c),(Str.ofString "whats",d),(Str.ofString "tables",e)]=none:=dP (by decide +kernel) (by decide +kernel) (by decide +kernel) (by decide +kernel) (by decide +kernel)
  cases d with
  | set n k=>
   refine(?_:let G_:Prop:=_;G_)
   intro G_
   obtain⟨p,x1,x2,x3,rfl,hp,r1,r2,r3⟩:=bD.mp (show Rep (cA H l) (.tup _) dv from rd)
   rw[ao] at r1 r2
   rw[aI] at r3
   subst r1 r2 r3
   dsimp only[G_]
   have hp:=bE _ _ hp
   have sl:=c8 (cs:=g.cs) gd
   change tSeq _ _ _ _ _
   refine eC (λσ' H'=>H=H'/\σ'=[some (.ref c),some (.ref l),some (.ref p),some (.int v),some (.int ((bL g.cs n:Nat):Int)),none]) ?_ (λN hN=>by simp_all only[dR,hp];exact⟨_,_,_,h1,T.aR,T.na_Course_spots,_,j5,_,rfl,_,hG h2 gd,hN _ _ ⟨rfl,rfl⟩⟩)
   rintro _ _ ⟨rfl,rfl⟩
   refine qp (λY N k=>by simp_all only[hp];first | exact k | (rw[if_pos (by decide +kernel)];exact k)) ?_
   simp_all only[dR,cK,sV,hp]
   exact⟨_,_,h1,lp,_,rfl,_,co,_,hl,sl,ln,kk⟩
  | plus n k=>
   refine(?_:let G_:Prop:=_;G_)
   intro G_
   obtain⟨p,x1,x2,x3,rfl,hp,r1,r2,r3⟩:=bD.mp (show Rep (cA H l) (.tup _) dv from rd)
   rw[ao] at r1 r2
   rw[aI] at r3
   subst r1 r2 r3
   dsimp only[G_]
   have hp:=bE _ _ hp
   have sl:=c8 (cs:=g.cs) gd
   change tSeq _ _ _ _ _
   refine eC (λσ' H'=>H=H'/\σ'=[some (.ref c),some (.ref l),some (.ref p),some (.int v),some (.int ((bL g.cs n:Nat):Int)),none]) ?_ (λN hN=>by simp_all only[dR,hp];exact⟨_,_,_,h1,T.aR,T.na_Course_spots,_,j5,_,rfl,_,hG h2 gd,hN _ _ ⟨rfl,rfl⟩⟩)
   rintro _ _ ⟨rfl,rfl⟩
   refine dU (λY N k=>by simp_all only[hp];first | exact k | (rw[if_neg (by decide +kernel)];exact k)) (qp (λY N k=>by simp_all only[hp];first | exact k | (rw[if_pos (by decide +kernel)];exact k)) ?_)
   simp_all only[dR,cK,sV,hp]
   exact⟨_,_,h1,lp,_,hl,_,dG (by omega),_,rfl,_,rfl,_,co,_,hl,sl,ln,kk⟩
  | face n=>
   refine(?_:let G_:Prop:=_;G_)
   intro G_
   obtain⟨p,x1,x2,rfl,hp,r1,r2⟩:=aV.mp (show Rep (cA H l) (.tup _) dv from rd)
   rw[ao] at r1 r2
   subst r1 r2
   dsimp only[G_]
   have hp:=bE _ _ hp
   have sl:=c8 (cs:=g.cs) gd
   change tSeq _ _ _ _ _
   refine eC (λσ' H'=>H=H'/\σ'=[some (.ref c),some (.ref l),some (.ref p),some (.int v),some (.int ((bL g.cs n:Nat):Int)),none]) ?_ (λN hN=>by simp_all only[dR,hp];exact⟨_,_,_,h1,T.aR,T.na_Course_spots,_,j5,_,rfl,_,hG h2 gd,hN _ _ ⟨rfl,rfl⟩⟩)
   rintro _ _ ⟨rfl,rfl⟩
   refine dU (λY N k=>by simp_all only[hp];first | exact k | (rw[if_neg (by decide +kernel)];exact k)) (dU (λY N k=>by simp_all only[hp];first | exact k | (rw[if_neg (by decide +kernel)];exact k)) (qp (λY N k=>by simp_all only[hp];first | exact k | (rw[if_pos (by decide +kernel)];exact k)) ?_))
   simp_all only[dR,cK,sV,hp]
   exact⟨_,_,h1,lp,_,hl,_,dG (by omega),_,rfl,_,rfl,_,co,_,hl,sl,ln,kk⟩
  | move n m=>
   refine(?_:let G_:Prop:=_;G_)
   intro G_
   obtain⟨p,x1,x2,x3,rfl,hp,r1,r2,r3⟩:=bD.mp (show Rep (cA H l) (.tup _) dv from rd)
   rw[ao] at r1 r2 r3
   subst r1 r2 r3
   dsimp only[G_]
   have hp:=bE _ _ hp
   have sl:=c8 (cs:=g.cs) gd.1
   have Bc:=c8 (cs:=g.cs) gd.2
   change tSeq _ _ _ _ _
   refine eC (λσ' H'=>H=H'/\σ'=[some (.ref c),some (.ref l),some (.ref p),some (.int v),some (.int ((bL g.cs n:Nat):Int)),none]) ?_ (λN hN=>by simp_all only[dR,hp];exact⟨_,_,_,h1,T.aR,T.na_Course_spots,_,j5,_,rfl,_,hG h2 gd.1,hN _ _ ⟨rfl,rfl⟩⟩)
   rintro _ _ ⟨rfl,rfl⟩
   refine dU (λY N k=>by simp_all only[hp];first | exact k | (rw[if_neg (by decide +kernel)];exact k)) (dU (λY N k=>by simp_all only[hp];first | exact k | (rw[if_neg (by decide +kernel)];exact k)) (dU (λY N k=>by simp_all only[hp];first | exact k | (rw[if_neg (by decide +kernel)];exact k)) ?_))
   simp_all only[dR,cK,sV,hp]
   refine⟨_,_,_,h1,T.aR,T.na_Course_spots,_,j5,_,rfl,_,hG h2 gd.2,_,_,h1,lp,_,_,rfl,hl,_,dG (by omega),_,hl,_,dG (by omega),_,rfl,_,rfl,_,rfl,_,co,_,hl,Bc,ln,_,ar,_,ma (by rw[aac,iH];omega),?_⟩
   rw[tI,<-List.map_set]
   exact kk
theorem ij:bo ["self","name","counts","what"] ["self","name","counts"] (aw (inClass (top 36) 3)):=⟨rfl,rfl,rfl,by decide +kernel,rfl,by decide +kernel,by decide +kernel⟩
theorem CP (T:Txt K mg aK aL aG aY ag aD):b5 P w K mg base (bO P w) 1 ag "asked" ["self","name","counts"] (vV ag):=by
 refine T.oV.eO (λ_ _ _ _ _ _ us hl=>match us,hl with | [_,_,_],_=>rfl) λf fd F=>F.gu ij (λvs H Q E h=>?_) (λbZ A outer s H vs Q E hr h=>?_)
 ·obtain⟨_,_,_,_,_,_,_,rfl,_⟩:=h;rfl
 ·refine(?_:let G_:Prop:=_;G_)
  intro G_
  obtain⟨c,nm,l,g,ns,fu,gq,rfl,co,gg,hl,ln,ak,kk⟩:=h
  dsimp only[G_]
  have nd:=ij.nd
  refine⟨_,(ai (aP (i:=3) nd rfl (Or.inl rfl) (dk (dt hr) (b6 (pv 0) rfl) (pv 1) (λ_ _=>rfl)))
  (ai (lI PassesOwn.never (aN bW (aB az (pv 3) ae (λ_ _=>rfl)) aJ (aU _)) (ai (aP (i:=1) nd rfl (Or.inl rfl) (lH (aN vf (aB aW (pv 2) (dk (dt hr) (b6 (pv 0) rfl) (aB az (pv 3) ae (λ_ _=>rfl)) (λ_ _=>rfl)) (λ_ _=>rfl)) (aB az (pv 3) ae (λ_ _=>rfl)) (aU _)) (aB az (pv 3) ae (λ_ _=>rfl)) (aB az (pv 3) ae (λ_ _=>rfl))))
  (aA (aP (i:=3) nd rfl (Or.inl rfl) (dk (dt hr) (b6 (pv 0) rfl) (pv 1) (λ_ _=>rfl))))))
  (aA (bf (aQ (aa (pv 1) (aa (pv 2) af (se rfl)) (se rfl))))))),?_⟩
  refine(?_:let cB:TS:=_;let cC:TS:=_;let cD:TS:=_;tSeq cB (tSeq cC cD) _ _ _)
  intro cB cC cD
  refine(?_:let G_:Prop:=_;G_)
  intro G_
  obtain⟨dx,sp,mo,wh,tb,us,ft,h1,h2,h3,h4,h5,h6⟩:=id co
  dsimp only[G_]
  simp_all only[dR]
  cases fu with
  | zero=>cases ak
  | succ fu=>
   rcases h5.val (n:=nm) with ⟨x,u,lk,vl,rx⟩ | ⟨lk,vl⟩
   ·refine⟨_,_,_,h1,T.aR,T.na_Course_whats,_,zB,_,rfl,_,.inl ⟨_,Sum.inr nm,.inl h4,rfl,vl.symm⟩,?_⟩
    refine zC (λm σ H'=>H=H'/\∃nm x u,eP g ns (m+1) nm=some gq/\look g.ps nm=some x/\Rep H (ph x) u/\σ=[some (V.ref c),some (V.str nm),some (V.ref l),some u]) (m:=fu) ⟨rfl,nm,x,u,ak,lk,rx,rfl⟩ ?_
    clear ak lk rx vl
    intro m σ H' A0
    refine(?_:let G_:Prop:=_;G_)
    intro G_
    obtain⟨rfl,nm,x,u,ak,lk,rx,rfl⟩:=A0
    dsimp only[G_]
    have gx:=gg.wt _ (eF lk)
    rw[eP,lk] at ak
    have fin:∀{p:Addr} {xs:List V} {y:Str},u=.ref p->H p=some (.tup (.str y::xs))->y≠Str.ofString "ask"->nm=gq->∃b:Bool,(∀Q:Bool->Hp->Prop,Q b H->tTest (tOp rEq (tOp rIxTH (tVar 3) (tC (V.int 0))) (tC (V.str (Str.ofString "ask")))) [some (V.ref c),some (V.str nm),some (V.ref l),some u] H Q)/\b=false:=by
     intro p xs y e hp ny _
     refine⟨false,λQ q=>?_,rfl⟩
     subst e
     simp_all only[hp]
     rw[decide_eq_false ny]
     exact q
    cases x with
    | ask c' k a b=>
     refine(?_:let G_:Prop:=_;G_)
     intro G_
     obtain⟨p,x1,x2,x3,x4,x5,rfl,hp,r1,r2,r3,r4,r5⟩:=ng.mp (show Rep H (.tup _) u from rx)
     rw[ao] at r1 r2 r4 r5
     rw[aI] at r3
     subst r1 r2 r3 r4 r5
     dsimp only[G_]
     refine⟨true,λQ q=>?_,?_⟩
     ·simp_all only[hp]
      rw[decide_eq_true trivial]
      exact q
     ·rw[if_pos rfl]
      have hs:=c8 (cs:=g.cs) gx
      have step:∀y,eP g ns m y=some gq->∃m' x u,m'<m/\eP g ns (m'+1) y=some gq/\look g.ps y=some x/\Rep H (ph x) u/\iA H wh (.str y) (some u):=by
       intro y hy
       cases m with
       | zero=>cases hy
       | succ m'=>
        rcases h5.val (n:=y) with ⟨x,u,wZ,vl,Yt⟩ | ⟨wZ,vl⟩
        ·exact⟨m',x,u,aaS _,hy,wZ,Yt,.inl ⟨_,Sum.inr y,.inl h4,rfl,vl.symm⟩⟩
        ·rw[eP,wZ] at hy
         cases hy
      have ak:(if k<=ns.getD (bL g.cs c') 0 then eP g ns m a else eP g ns m b)=some gq:=ak
      simp_all only[dR,hp]
      refine⟨_,_,_,h1,T.aR,T.na_Course_spots,_,j5,_,rfl,_,hG h2 gx,_,_,rfl,hl,_,dG (by omega),_,rfl,rj (λc1=>?_) (λc1=>?_)⟩
      ·rw[if_pos c1] at ak
       refine(?_:let G_:Prop:=_;G_)
       intro G_
       obtain⟨m',x,u,l1,l2,l3,l4,l5⟩:=step a ak
       dsimp only[G_]
       refine⟨_,rfl,_,_,_,h1,T.aR,T.na_Course_whats,_,zB,_,rfl,_,l5,?_⟩
       exact⟨m',l1,a,l2,x,l3,u,l4,rfl,rfl⟩
      ·rw[if_neg c1] at ak
       refine(?_:let G_:Prop:=_;G_)
       intro G_
       obtain⟨m',x,u,l1,l2,l3,l4,l5⟩:=step b ak
       dsimp only[G_]
       refine⟨_,rfl,_,_,_,h1,T.aR,T.na_Course_whats,_,zB,_,rfl,_,l5,?_⟩
       exact⟨m',l1,b,l2,x,l3,u,l4,rfl,rfl⟩
    | fin t b=>
     refine(?_:let G_:Prop:=_;G_)
     intro G_
     obtain⟨p,x1,x2,rfl,hp,r1,r2⟩:=aV.mp (show Rep H (.tup _) u from rx)
     rw[ao] at r1
     subst r1
     have e:nm=gq:=by injection ak
     obtain⟨b',k1,rfl⟩:=fin rfl hp (by decide +kernel) e
     dsimp only[G_]
     refine⟨false,k1,?_⟩
     rw[if_neg (by decide)]
     simp_all only[]
     exact⟨by decide,λp H2 s2 np e2=>kk p H2 s2 np (by rw[<-e];exact e2)⟩
    | score c'=>
     refine(?_:let G_:Prop:=_;G_)
     intro G_
     obtain⟨p,x1,x2,rfl,hp,r1,r2⟩:=aV.mp (show Rep H (.tup _) u from rx)
     rw[ao] at r1
     subst r1
     have e:nm=gq:=by injection ak
     obtain⟨b',k1,rfl⟩:=fin rfl hp (by decide +kernel) e
     dsimp only[G_]
     refine⟨false,k1,?_⟩
     rw[if_neg (by decide)]
     simp_all only[]
     exact⟨by decide,λp H2 s2 np e2=>kk p H2 s2 np (by rw[<-e];exact e2)⟩
    | pick w' rs=>
     refine(?_:let G_:Prop:=_;G_)
     intro G_
     obtain⟨p,x1,x2,x3,rfl,hp,r1,r2,r3⟩:=bD.mp (show Rep H (.tup _) u from rx)
     rw[ao] at r1
     subst r1
     have e:nm=gq:=by injection ak
     obtain⟨b',k1,rfl⟩:=fin rfl hp (by decide +kernel) e
     dsimp only[G_]
     refine⟨false,k1,?_⟩
     rw[if_neg (by decide)]
     simp_all only[]
     exact⟨by decide,λp H2 s2 np e2=>kk p H2 s2 np (by rw[<-e];exact e2)⟩
    | jw iG t b rs=>
     refine(?_:let G_:Prop:=_;G_)
     intro G_
     obtain⟨p,x1,x2,x3,x4,rfl,hp,r1,r2,r3,r4⟩:=b7.mp (show Rep H (.tup _) u from rx)
     rw[ao] at r1
     subst r1
     have e:nm=gq:=by injection ak
     obtain⟨b',k1,rfl⟩:=fin rfl hp (by decide +kernel) e
     dsimp only[G_]
     refine⟨false,k1,?_⟩
     rw[if_neg (by decide)]
     simp_all only[]
     exact⟨by decide,λp H2 s2 np e2=>kk p H2 s2 np (by rw[<-e];exact e2)⟩
   ·rw[eP,lk] at ak
    cases ak
theorem ik:bo ["self","when","counts","number"] ["self","when","counts"] (aw (inClass (top 36) 9)):=⟨rfl,rfl,rfl,by decide +kernel,rfl,by decide +kernel,by decide +kernel⟩
theorem HZ (T:Txt K mg aK aL aG aY ag aD):b5 P w K mg base (bO P w) 1 ag "holds" ["self","when","counts"] (Cp ag):=by
 refine T.oW.eO (λ_ _ _ _ _ _ us hl=>match us,hl with | [_,_,_],_=>rfl) λf fd F=>F.gu ik (λvs H Q E h=>?_) (λbZ A outer s H vs Q E hr h=>?_)
 ·obtain⟨_,_,_,_,_,_,rfl,_⟩:=h;rfl
 ·refine(?_:let G_:Prop:=_;G_)
  intro G_
  obtain⟨c,v,l,g,ns,Yu,rfl,co,rv,hl,ln,kk⟩:=h
  dsimp only[G_]
  have nd:=ik.nd
  refine⟨_,(ai (bG (aN tN (pv 1) fE (aU _)) (aA (bf eU))
   bj)
  (ai (bG (tL (mQ (dt hr) (aB az (pv 1) ae (λ_ _=>rfl)) (b6 (pv 0) rfl))) (aA (bf eU))
   bj)
  (ai (aP (i:=3) nd rfl (Or.inl rfl) (aB aW (pv 2) (dk (dt hr) (b6 (pv 0) rfl) (aB az (pv 1) ae (λ_ _=>rfl)) (λ_ _=>rfl)) (λ_ _=>rfl)))
  (aA (bf (lH (aN bW (aB az (pv 1) ae (λ_ _=>rfl)) aJ (aU _)) (jf vf (pv 3) (aB az (pv 1) ae (λ_ _=>rfl)) (aU _)) (jf pG (pv 3) (aB az (pv 1) ae (λ_ _=>rfl)) (aU _)))))))),?_⟩
  refine(?_:let cB:TS:=_;let cC:TS:=_;let cD:TS:=_;let dE:TS:=_;tSeq cB (tSeq cC (tSeq cD dE)) _ _ _)
  intro cB cC cD dE
  refine(?_:let G_:Prop:=_;G_)
  intro G_
  obtain⟨dx,sp,mo,wh,tb,us,ft,h1,h2,h3,h4,h5,h6⟩:=id co
  dsimp only[G_]
  cases Yu with
  | none=>
   have e:v=.de:=by rw[M7,Rep] at rv;exact rv
   subst e
   simp_all only[]
   exact kk
  | some x=>
   refine(?_:let G_:Prop:=_;G_)
   intro G_
   obtain⟨a,b,k⟩:=x
   obtain⟨p,x1,x2,x3,rfl,hp,r1,r2,r3⟩:=bD.mp (show Rep H (.tup _) v from rv)
   rw[ao] at r1 r2
   rw[aI] at r3
   subst r1 r2 r3
   dsimp only[G_]
   simp_all only[dR,hp]
   rw[if_neg (by intro z;cases z)]
   by_cases hn:a∈g.cs.map (·.1)
   ·have hs:=c8 hn
    refine⟨_,_,_,h1,T.aR,T.na_Course_spots,_,j5,_,rfl,_,hG h2 hn,?_⟩
    rw[if_neg (by simp)]
    refine⟨_,_,_,h1,T.aR,T.na_Course_spots,_,j5,_,rfl,_,hG h2 hn,_,_,rfl,hl,_,dG (by omega),?_⟩
    have kk:Q (.bl (if a∈g.cs.map (·.1) then (if b=Str.ofString "from" then decide (k<=ns.getD (bL g.cs a) 0) else decide (ns.getD (bL g.cs a) 0<k)) else false)) H:=kk
    rw[if_pos hn] at kk
    by_cases c1:b=Str.ofString "from"
    ·rw[if_pos c1] at kk ⊢
     exact⟨_,rfl,kk⟩
    ·rw[if_neg c1] at kk ⊢
     exact⟨_,rfl,kk⟩
   ·refine⟨_,_,_,h1,T.aR,T.na_Course_spots,_,j5,_,rfl,_,.inl ⟨_,Sum.inr a,.inl h2,rfl,rfl⟩,?_⟩
    rw[qj hn,if_pos (by rfl)]
    have kk:Q (.bl (if a∈g.cs.map (·.1) then (if b=Str.ofString "from" then decide (k<=ns.getD (bL g.cs a) 0) else decide (ns.getD (bL g.cs a) 0<k)) else false)) H:=kk
    rw[if_neg hn] at kk
    exact kk
theorem ip:bo ["self"] ["self"] (aw (inClass (top 36) 4)):=⟨rfl,rfl,rfl,by decide +kernel,rfl,by decide +kernel,by decide +kernel⟩
theorem Ia (T:Txt K mg aK aL aG aY ag aD):b5 P w K mg base (bO P w) 2 ag "start" ["self"] (Co ag):=by
 have fL:b5 P w K mg base (bO P w) 1 ag "asked" ["self","name","counts"] (vV ag):=CP T
 refine T.oX.eO (λ_ _ _ _ _ _ us hl=>match us,hl with | [_],_=>rfl) λf fd F=>F.gu ip (λvs H Q E h=>?_) (λbZ A outer s H vs Q E hr h=>?_)
 ·obtain⟨_,_,_,_,_,rfl,_⟩:=h;rfl
 ·refine(?_:let G_:Prop:=_;G_)
  intro G_
  obtain⟨c,g,fu,ft,gq,rfl,co,gg,hf,ak,kk⟩:=h
  dsimp only[G_]
  have nd:=ip.nd
  refine⟨_,(aA (bf (c7 fL T.aR (pv 0) (hr.mono (by decide)) aM.pass (aa (b6 (pv 0) rfl) (aa (aX GN (bC (aa ae af (se rfl))) (bh bI (by rfl) T.z_len aao (aa (b6 (pv 0) rfl) af (se rfl)) (he:=se rfl) (hpl:=na rfl))) af (se rfl)) (se rfl)) (hst:=se rfl) (hpl:=na rfl)))),?_⟩
  have sl:=sizeLine_eq
  have lc:=gg.lc
  refine(?_:let G_:Prop:=_;G_)
  intro G_
  obtain⟨dx,sp,mo,wh,tb,us,CQ,h1,h2,h3,h4,h5,h6⟩:=id co
  dsimp only[G_]
  rw[h6] at hf
  cases hf
  have lp:∀{a b c d e:V},List.lookup (Str.ofString "asked") [(Str.ofString "spots",a),(Str.ofString "mosts",b),(Str.ofString "first",c),(Str.ofString "whats",d),(Str.ofString "tables",e)]=none:=dP (by decide +kernel) (by decide +kernel) (by decide +kernel) (by decide +kernel) (by decide +kernel)
  simp_all only[dR,cK,vV,JM]
  refine⟨_,_,h1,lp,_,_,_,h1,T.aR,T.na_Course_first,_,Ko,by decide,λp np=>?_⟩
  have Ib:=aj (o:=.lst [V.int 0]) np
  refine⟨_,_,_,Ib _ _ h1,T.aR,T.na_Course_mosts,_,FN,_,rfl,_,Ib _ _ h3,_,ar,by simp only[aac];omega,by simp only[aac];omega,by simp only[aac,aar,aaW];omega,λl nl=>?_⟩
  have el:(List.replicate (((List.map V.int (List.map (λx=>x.snd) g.cs)).length:Nat):Int).toNat [V.int 0]).flatten=List.map V.int (List.replicate g.cs.length 0):=by rw[Cq,Int.toNat_natCast,aac,aac]
  rw[el]
  have Jw:=Ib.trans (aj (o:=.lst (List.map V.int (List.replicate g.cs.length 0))) nl)
  exact⟨_,rfl,g,co.mono Jw,gg,_,ar,by simp,fu,gq,ak,λa H' s' na e'=>kk a l H' (Jw.trans s') (none_of Jw na) (none_of Ib nl) e' (s' _ _ ar)⟩
theorem gf:bo ["self","state"] ["self","state"] (aw (inClass (top 36) 5)):=⟨rfl,rfl,rfl,by decide +kernel,rfl,by decide +kernel,by decide +kernel⟩
theorem qG (T:Txt K mg aK aL aG aY ag aD):b5 P w K mg base (bO P w) 1 ag "what_at" ["self","state"] (ig ag):=by
 refine T.lY.eO (λ_ _ _ _ _ _ us hl=>match us,hl with | [_,_],_=>rfl) λf fd F=>F.gu gf (λvs H Q E h=>?_) (λbZ A outer s H vs Q E hr h=>?_)
 ·obtain⟨_,_,_,_,_,_,_,rfl,_⟩:=h;rfl
 ·refine(?_:let G_:Prop:=_;G_)
  intro G_
  obtain⟨c,v,H0,g,nm,ns,x,rfl,s0,co,⟨a,l,rfl,ha,hl⟩,lk,kk⟩:=h
  dsimp only[G_]
  have nd:=gf.nd
  refine⟨_,(aA (bf (dk (dt hr) (b6 (pv 0) rfl) (aB az (pv 1) ae (λ_ _=>rfl)) (λ_ _=>rfl)))),?_⟩
  refine(?_:let G_:Prop:=_;G_)
  intro G_
  obtain⟨dx,sp,mo,wh,tb,us,CQ,h1,h2,h3,h4,h5,h6⟩:=id co
  dsimp only[G_]
  simp_all only[dR,ha]
  rcases h5.val (n:=nm) with ⟨x',u,wZ,vl,rx⟩ | ⟨wZ,vl⟩
  ·rw[lk] at wZ
   cases wZ
   exact⟨_,_,_,s0 _ _ h1,T.aR,T.na_Course_whats,_,zB,_,rfl,_,.inl ⟨_,Sum.inr nm,.inl (s0 _ _ h4),rfl,vl.symm⟩,kk u rx⟩
  ·rw[lk] at wZ
   cases wZ
theorem gJ:bo ["self","state","row","value","counts","deed"] ["self","state","row","value"] (aw (inClass (top 36) 6)):=⟨rfl,rfl,rfl,by decide +kernel,rfl,by decide +kernel,by decide +kernel⟩
theorem CS (T:Txt K mg aK aL aG aY ag aD):b5 P w K mg base (bO P w) 3 ag "by_row" ["self","state","row","value"] (vW ag):=by
 have wm:b5 P w K mg base (bO P w) 2 ag "do" ["self","counts","deed","value"] (Hv ag):=K0 T
 have fL:b5 P w K mg base (bO P w) 1 ag "asked" ["self","name","counts"] (vV ag):=CP T
 refine T.m9.eO (λ_ _ _ _ _ _ us hl=>match us,hl with | [_,_,_,_],_=>rfl) λf fd F=>F.gu gJ (λvs H Q E h=>?_) (λbZ A outer s H vs Q E hr h=>?_)
 ·obtain⟨_,_,_,_,_,_,_,_,_,_,_,_,_,rfl,_⟩:=h;rfl
 ·refine(?_:let G_:Prop:=_;G_)
  intro G_
  obtain⟨c,sv,rv,v,g,nm,ns,a,b,ds,to,fu,gq,rfl,co,gg,⟨sa,l,rfl,sM,hl⟩,rr,gd,ld,ln,ak,kk⟩:=h
  dsimp only[G_]
  have nd:=gJ.nd
  refine⟨_,(ai (aP (i:=4) nd rfl (Or.inl rfl) (dj (eA (K:=K)) (by rfl) T.z_list rfl (aa (aB az (pv 1) ae (λ_ _=>rfl)) af (se rfl)) (he:=se rfl) (hpl:=na rfl)))
  (ai (cQ PassesOwn.never rfl (bx (K:=K) (aB az (pv 2) ae (λ_ _=>rfl))) (aT (i:=5) nd rfl (Or.inl rfl)) (aA (bX (c7 wm T.aR (pv 0) (hr.mono (by decide)) aM.pass (aa (pv 4) (aa (pv 5) (aa (pv 3) af (se rfl)) (se rfl)) (se rfl)) (hst:=se rfl) (hpl:=na rfl)))))
  (aA (bf (c7 fL T.aR (pv 0) (hr.mono (by decide)) aM.pass (aa (aB az (pv 2) ae (λ_ _=>rfl)) (aa (pv 4) af (se rfl)) (se rfl)) (hst:=se rfl) (hpl:=na rfl)))))),?_⟩
  refine(?_:let cB:TS:=_;let cC:TS:=_;let cD:TS:=_;tSeq cB (tSeq cC cD) _ _ _)
  intro cB cC cD
  have sl:=sizeLine_eq
  have lc:=gg.lc
  refine(?_:let G_:Prop:=_;G_)
  intro G_
  obtain⟨dx,sp,mo,wh,tb,us,CQ,h1,h2,h3,h4,h5,h6⟩:=id co
  obtain⟨rp,x1,x2,x3,x4,rfl,K2,r1,r2,r3,r4⟩:=b7.mp (show Rep H (.tup _) rv from rr)
  rw[ao] at r4
  subst r4
  obtain⟨dl,oQ,rfl,K3,K4⟩:=aO.mp r3
  dsimp only[G_]
  have lp:∀{a b c d e:V},List.lookup (Str.ofString "asked") [(Str.ofString "spots",a),(Str.ofString "mosts",b),(Str.ofString "first",c),(Str.ofString "whats",d),(Str.ofString "tables",e)]=none:=dP (by decide +kernel) (by decide +kernel) (by decide +kernel) (by decide +kernel) (by decide +kernel)
  have Bg:∀{a b c d e:V},List.lookup (Str.ofString "do") [(Str.ofString "spots",a),(Str.ofString "mosts",b),(Str.ofString "first",c),(Str.ofString "whats",d),(Str.ofString "tables",e)]=none:=dP (by decide +kernel) (by decide +kernel) (by decide +kernel) (by decide +kernel) (by decide +kernel)
  change tSeq _ _ _ _ _
  refine bb (λN=>∀H1 m,H m=none->aE H H1->cA H1 m=H->H1 m=some (.lst (List.map V.int ns))->N [some (.ref c),some (.ref sa),some (.ref rp),some (.int v),some (.ref m),none] H1) ?_ (λN hN=>?_)
  case refine_2=>
   simp_all only[sM]
   exact⟨_,.inl (bN.of hl),λm nm=>hN _ m nm (aj nm) (by rw[dD,gC nm]) ar⟩
  rintro H1 m Yv s1 hh hm
  have EV:=K4.length
  rw[aac] at EV
  change tSeq _ _ _ _ _
  refine bb (λN=>∀H2,cA H2 m=H->H2 m=some (.lst (List.map V.int (ds.foldl (fI g.cs v) ns)))->∀z,N [some (.ref c),some (.ref sa),some (.ref rp),some (.int v),some (.ref m),z] H2) ?_ (λN hN=>?_)
  case refine_2=>
   simp_all only[s1 _ _ K2]
   refine⟨⟨_,bN.of (s1 _ _ K3)⟩,cu (src_list (Ok:=λH'=>cA H' m=H) (λH' e=>bN.of (ql e _ _ K3))) (λi σ H'=>cA H' m=H/\H' m=some (.lst (List.map V.int ((ds.take i).foldl (fI g.cs v) ns)))/\∃z,σ=[some (.ref c),some (.ref sa),some (.ref rp),some (.int v),some (.ref m),z]) ⟨hh,by rw[List.take_zero];exact hm,_,rfl⟩ (λ_ _ _ _ h=>h.1) ?_ ?_⟩
   ·intro i x σ H3 H2 hi hW fU
    refine(?_:let G_:Prop:=_;G_)
    intro G_
    obtain⟨e2,wY,z,rfl⟩:=hW
    obtain⟨rfl,ex⟩:=fU
    obtain⟨dd,ed,rd⟩:=K4.get ex
    rw[aad] at ed
    obtain⟨d,e0,rfl⟩:=Option.map_eq_some_iff.mp ed
    dsimp only[G_]
    have s2:=ql e2
    simp_all only[cK,Hv]
    refine⟨_,_,s2 _ _ h1,Bg,g,by rw[e2];exact co,_,wY,d,by rw[e2];exact rd,gd d (aal e0),by rw[fC];exact ln,by rw[dD];exact e2,?_,_,rfl⟩
    rw[ar,aaF,e0,Option.toList_some,aa1]
    rfl
   ·intro σ H2 eQ
    refine(?_:let G_:Prop:=_;G_)
    intro G_
    obtain⟨e2,wY,z,rfl⟩:=eQ
    dsimp only[G_]
    rw[<-EV,aaE (aaf _)] at wY
    exact hN _ e2 wY _
  rintro H2 e2 wY z
  have s2:=ql e2
  have Yw:(ds.foldl (fI g.cs v) ns).length=g.cs.length:=by rw[fC];exact ln
  simp_all only[cK,vV,s2 _ _ K2]
  exact⟨_,_,s2 _ _ h1,lp,_,rfl,_,rfl,g,co.mono s2,gg,_,wY,Yw,fu,gq,ak,λa H' s' na e'=>kk a m H' (s2.trans s') (none_of s2 na) Yv e' (s' _ _ wY)⟩
theorem eZ:bo ["self","state","what"] ["self","state"] (aw (inClass (top 36) 10)):=⟨rfl,rfl,rfl,by decide +kernel,rfl,by decide +kernel,by decide +kernel⟩
theorem CT (T:Txt K mg aK aL aG aY ag aD):b5 P w K mg base (bO P w) 2 ag "open_rows" ["self","state"] (vX ag):=by
 have bR:b5 P w K mg base (bO P w) 1 ag "what_at" ["self","state"] (ig ag):=qG T
 have qH:b5 P w K mg base (bO P w) 1 ag "holds" ["self","when","counts"] (Cp ag):=HZ T
 refine T.jz.eO (λ_ _ _ _ _ _ us hl=>match us,hl with | [_,_],_=>rfl) λf fd F=>F.gu eZ (λvs H Q E h=>?_) (λbZ A outer s H vs Q E hr h=>?_)
 ·obtain⟨_,_,_,_,_,_,_,rfl,_⟩:=h;rfl
 ·refine(?_:let G_:Prop:=_;G_)
  intro G_
  obtain⟨c,v,H0,g,nm,ns,x,rfl,s0,VI,gg,st,ln,lk,kk⟩:=h
  dsimp only[G_]
  have co:=VI.mono s0
  have nd:=eZ.nd
  refine⟨_,(ai (aP (i:=2) nd rfl (Or.inl rfl) (c7 bR T.aR (pv 0) (hr.mono (by decide)) aM.pass (aa (pv 1) af (se rfl)) (hst:=se rfl) (hpl:=na rfl)))
  (ai (bG (aN oj (aB az (pv 2) ae (λ_ _=>rfl)) aJ (aU _)) (aA (bf (bC af)))
   bj)
  (aA (bf (cL rfl (N:=["self","state","what"]) (so:=aw (inClass (top 36) 10)) (N':=["row","self","state"]) (k:=1) (fr:=[0,1]) rfl rfl ⟨rfl,by decide +kernel,by decide +kernel,by decide +kernel,rfl,by decide +kernel,by decide +kernel⟩ (bx (K:=K) (aB az (pv 2) ae (λ_ _=>rfl))) (λ_ _ _ _ _=>(aT (i:=0) (show(["row","self","state"]:List Str).Nodup by decide +kernel) rfl (Or.inl rfl))) (λ_ _ _ _ _=>(lS (pB (c7 qH T.aR (pv 1) (hr.mono (by decide)) aM.pass (aa (aB az (pv 0) ae (λ_ _=>rfl)) (aa (aB az (pv 2) ae (λ_ _=>rfl)) af (se rfl)) (se rfl)) (hst:=se rfl) (hpl:=na rfl)))))
   (λ_ _ _ _ _=>(pv 0))))))),?_⟩
  refine(?_:let cB:TS:=_;let cC:TS:=_;let cD:TS:=_;tSeq cB (tSeq cC cD) _ _ _)
  intro cB cC cD
  have sl:=sizeLine_eq
  refine(?_:let G_:Prop:=_;G_)
  intro G_
  obtain⟨dx,sp,mo,wh,tb,us,CQ,h1,h2,h3,h4,h5,h6⟩:=id co
  obtain⟨sa,l,rfl,sM,hl⟩:=id st
  dsimp only[G_]
  have lp:∀{a b c d e:V},List.lookup (Str.ofString "what_at") [(Str.ofString "spots",a),(Str.ofString "mosts",b),(Str.ofString "first",c),(Str.ofString "whats",d),(Str.ofString "tables",e)]=none:=dP (by decide +kernel) (by decide +kernel) (by decide +kernel) (by decide +kernel) (by decide +kernel)
  have Bg:∀{a b c d e:V},List.lookup (Str.ofString "holds") [(Str.ofString "spots",a),(Str.ofString "mosts",b),(Str.ofString "first",c),(Str.ofString "whats",d),(Str.ofString "tables",e)]=none:=dP (by decide +kernel) (by decide +kernel) (by decide +kernel) (by decide +kernel) (by decide +kernel)
  have gx:=gg.wt _ (eF lk)
  change tSeq _ _ _ _ _
  refine bb (λN=>∀u,Rep H0 (ph x) u->N [some (.ref c),some (.ref sa),some u] H) ?_ (λN hN=>?_)
  case refine_2=>
   simp_all only[cK,ig]
   exact⟨_,_,h1,lp,H0,s0,g,VI,nm,ns,st,x,lk,λu ru=>hN u ru⟩
  rintro u ru
  cases x with
  | pick w' rs=>
   refine(?_:let G_:Prop:=_;G_)
   intro G_
   obtain⟨p,x1,x2,x3,rfl,hp,r1,r2,r3⟩:=bD.mp (show Rep H0 (.tup _) u from ru)
   rw[ao] at r1
   subst r1
   obtain⟨rl,xs,rfl,wu,wz⟩:=aO.mp r3
   have len:=wz.length
   rw[aac,aac] at len
   obtain⟨g1,g2⟩:=gx
   dsimp only[G_]
   have zl:(xs.zip rs).length=xs.length:=by rw[List.length_zip];omega
   simp_all only[s0 _ _ hp]
   refine⟨⟨_,bN.of (s0 _ _ wu)⟩,?_⟩
   have S:Src (IW K rl) (aE H) xs.length _:=src_list (λH' s'=>bN.of (s' _ _ (s0 _ _ wu)))
   rw[<-zl] at S
   refine mW (xs.zip rs) (λx=>if d9 g.cs ns x.2.wh=true then some x.1 else none) S (λ_ _ _ _ h=>h.1) (by omega) ?_ ?_
   ·rintro i ⟨x,r⟩ y K5 ⟨_,ey⟩ Y N y1 y2
    obtain⟨e1,e2⟩:=List.getElem?_zip_eq_some.mp K5
    rw[e1] at ey
    cases ey
    refine(?_:let G_:Prop:=_;G_)
    intro G_
    obtain⟨r',p',a',b',c',d',er,rfl,CU,rb,_⟩:=pj wz e1
    dsimp only[G_]
    rw[e2] at er
    cases er
    simp_all only[cK,Cp,s0 _ _ CU,sM]
    exact⟨_,_,h1,Bg,g,co,ns,_,rb.mono s0,hl,ln,rj (λc=>y1 _ (if_pos c)) (λc=>y2 (if_neg c))⟩
   ·intro D n1 n2
    exact kk D _ _ (aj n2) n2 ar (qo wz)
  | ask _ _ _ _=>
   refine(?_:let G_:Prop:=_;G_)
   intro G_
   obtain⟨p,x1,x2,x3,x4,x5,rfl,hp,r1,r2,r3,r4,r5⟩:=ng.mp (show Rep H0 (.tup _) u from ru)
   rw[ao] at r1
   subst r1
   dsimp only[G_]
   simp_all only[s0 _ _ hp]
   rw[if_pos (by decide +kernel)]
   exact⟨aak _,λD nD=>kk D _ _ (aj nD) nD ar (ba.mpr rfl)⟩
  | fin _ _=>
   refine(?_:let G_:Prop:=_;G_)
   intro G_
   obtain⟨p,x1,x2,rfl,hp,r1,r2⟩:=aV.mp (show Rep H0 (.tup _) u from ru)
   rw[ao] at r1
   subst r1
   dsimp only[G_]
   simp_all only[s0 _ _ hp]
   rw[if_pos (by decide +kernel)]
   exact⟨aak _,λD nD=>kk D _ _ (aj nD) nD ar (ba.mpr rfl)⟩
  | score _=>
   refine(?_:let G_:Prop:=_;G_)
   intro G_
   obtain⟨p,x1,x2,rfl,hp,r1,r2⟩:=aV.mp (show Rep H0 (.tup _) u from ru)
   rw[ao] at r1
   subst r1
   dsimp only[G_]
   simp_all only[s0 _ _ hp]
   rw[if_pos (by decide +kernel)]
   exact⟨aak _,λD nD=>kk D _ _ (aj nD) nD ar (ba.mpr rfl)⟩
  | jw _ _ _ _=>
   refine(?_:let G_:Prop:=_;G_)
   intro G_
   obtain⟨p,x1,x2,x3,x4,rfl,hp,r1,r2,r3,r4⟩:=b7.mp (show Rep H0 (.tup _) u from ru)
   rw[ao] at r1
   subst r1
   dsimp only[G_]
   simp_all only[s0 _ _ hp]
   rw[if_pos (by decide +kernel)]
   exact⟨aak _,λD nD=>kk D _ _ (aj nD) nD ar (ba.mpr rfl)⟩
theorem fM:bo ["self","state"] ["self","state"] (aw (inClass (top 36) 11)):=⟨rfl,rfl,rfl,by decide +kernel,rfl,by decide +kernel,by decide +kernel⟩
theorem Ic (T:Txt K mg aK aL aG aY ag aD):b5 P w K mg base (bO P w) 3 ag "words_at" ["self","state"] (Cr ag):=by
 have dO:b5 P w K mg base (bO P w) 2 ag "open_rows" ["self","state"] (vX ag):=CT T
 refine T.kL.eO (λ_ _ _ _ _ _ us hl=>match us,hl with | [_,_],_=>rfl) λf fd F=>F.gu fM (λvs H Q E h=>?_) (λbZ A outer s H vs Q E hr h=>?_)
 ·obtain⟨_,_,_,_,_,_,rfl,_⟩:=h;rfl
 ·refine(?_:let G_:Prop:=_;G_)
  intro G_
  obtain⟨c,v,g,nm,ns,x,rfl,co,gg,st,ln,lk,kk⟩:=h
  dsimp only[G_]
  have nd:=fM.nd
  refine⟨_,(aA (bf (cL rfl (N:=["self","state"]) (so:=aw (inClass (top 36) 11)) (N':=["row"]) (k:=1) (fr:=[]) rfl rfl ⟨rfl,by decide +kernel,by decide +kernel,by decide +kernel,rfl,by decide +kernel,by decide +kernel⟩ (bx (K:=K) (c7 dO T.aR (pv 0) (hr.mono (by decide)) aM.pass (aa (pv 1) af (se rfl)) (hst:=se rfl) (hpl:=na rfl))) (λ_ _ _ _ _=>(aT (i:=0) (show(["row"]:List Str).Nodup by decide +kernel) rfl (Or.inl rfl))) (λ_ _ _ _ _=>cJ)
   (λ_ _ _ _ _=>(aB az (pv 0) ae (λ_ _=>rfl)))))),?_⟩
  have sl:=sizeLine_eq
  refine(?_:let G_:Prop:=_;G_)
  intro G_
  obtain⟨dx,sp,mo,wh,tb,us,CQ,h1,h2,h3,h4,h5,h6⟩:=id co
  dsimp only[G_]
  have lp:∀{a b c d e:V},List.lookup (Str.ofString "open_rows") [(Str.ofString "spots",a),(Str.ofString "mosts",b),(Str.ofString "first",c),(Str.ofString "whats",d),(Str.ofString "tables",e)]=none:=dP (by decide +kernel) (by decide +kernel) (by decide +kernel) (by decide +kernel) (by decide +kernel)
  have gx:=gg.wt _ (eF lk)
  have MP:(dY g.cs ns x).length<=100:=by
   cases x with
   | pick w' rs=>exact aax (List.length_filter_le _ _) gx.1
   | _=>exact aak _
  simp_all only[cK,vX]
  refine⟨_,_,h1,lp,H,aE.refl _,g,co,gg,nm,ns,st,ln,x,lk,λrl xs H1 s1 n1 wu OR=>?_⟩
  generalize dY g.cs ns x=rs at *
  have wz:=OR.mono s1
  have len:=wz.length
  rw[aac,aac] at len
  have zl:(xs.zip rs).length=xs.length:=by rw[List.length_zip];omega
  refine⟨⟨_,bN.of wu⟩,?_⟩
  have S:Src (IW K rl) (aE H1) xs.length _:=src_list (λH' s'=>bN.of (s' _ _ wu))
  rw[<-zl] at S
  refine mW (xs.zip rs) (λx=>some (.str x.2.word)) S (λ_ _ _ _ h=>h.1) (by omega) ?_ ?_
  ·rintro i ⟨x,r⟩ y K5 ⟨_,ey⟩ Y N y1 y2
   obtain⟨e1,e2⟩:=List.getElem?_zip_eq_some.mp K5
   rw[e1] at ey
   cases ey
   refine(?_:let G_:Prop:=_;G_)
   intro G_
   obtain⟨r',p',a',b',c',d',er,rfl,CU,rb,_⟩:=pj wz e1
   dsimp only[G_]
   rw[e2] at er
   cases er
   simp_all only[pP,CU]
   exact y1 _ rfl
  ·intro D n1' n2
   have e:(xs.zip rs).filterMap (λx=>some (V.str x.2.word))=rs.map λr=>V.str r.word:=by
    rw[Ek]
    have:(xs.zip rs).map (λx=>V.str x.2.word)=((xs.zip rs).map Prod.snd).map λr=>V.str r.word:=by rw[aav];rfl
    rw[this,List.map_snd_zip (by omega)]
   rw[e]
   exact kk D _ (s1.trans (aj n2)) (none_of s1 n2) (aO.mpr ⟨D,_,rfl,ar,(sW wz).mono (aj n2)⟩)
theorem fc:bo ["self","state","what"] ["self","state"] (aw (inClass (top 36) 12)):=⟨rfl,rfl,rfl,by decide +kernel,rfl,by decide +kernel,by decide +kernel⟩
theorem Ie (T:Txt K mg aK aL aG aY ag aD):b5 P w K mg base (bO P w) 2 ag "end_worth" ["self","state"] (zD ag):=by
 have bR:b5 P w K mg base (bO P w) 1 ag "what_at" ["self","state"] (ig ag):=qG T
 refine T.jy.eO (λ_ _ _ _ _ _ us hl=>match us,hl with | [_,_],_=>rfl) λf fd F=>F.gu fc (λvs H Q E h=>?_) (λbZ A outer s H vs Q E hr h=>?_)
 ·obtain⟨_,_,_,_,_,_,_,_,rfl,_⟩:=h;rfl
 ·refine(?_:let G_:Prop:=_;G_)
  intro G_
  obtain⟨c,v,g,nm,ns,x,t,b,rfl,co,gg,st,ln,lk,ew,kk⟩:=h
  dsimp only[G_]
  have nd:=fc.nd
  refine⟨_,(ai (aP (i:=2) nd rfl (Or.inl rfl) (c7 bR T.aR (pv 0) (hr.mono (by decide)) aM.pass (aa (pv 1) af (se rfl)) (hst:=se rfl) (hpl:=na rfl)))
  (aA (bf (lH (aN bW (aB az (pv 2) ae (λ_ _=>rfl)) aJ (aU _)) (aB az (pv 2) ae (λ_ _=>rfl)) (aQ (aa (aB aW (aB az (pv 1) ae (λ_ _=>rfl)) (dk (dt hr) (b6 (pv 0) rfl) (aB az (pv 2) ae (λ_ _=>rfl)) (λ_ _=>rfl)) (λ_ _=>rfl)) (aa ae af (se rfl)) (se rfl))))))),?_⟩
  have sl:=sizeLine_eq
  refine(?_:let G_:Prop:=_;G_)
  intro G_
  obtain⟨dx,sp,mo,wh,tb,us,CQ,h1,h2,h3,h4,h5,h6⟩:=id co
  obtain⟨sa,l,rfl,sM,hl⟩:=id st
  dsimp only[G_]
  have lp:∀{a b c d e:V},List.lookup (Str.ofString "what_at") [(Str.ofString "spots",a),(Str.ofString "mosts",b),(Str.ofString "first",c),(Str.ofString "whats",d),(Str.ofString "tables",e)]=none:=dP (by decide +kernel) (by decide +kernel) (by decide +kernel) (by decide +kernel) (by decide +kernel)
  have gx:=gg.wt _ (eF lk)
  change tSeq _ _ _ _ _
  refine bb (λN=>∀u,Rep H (ph x) u->N [some (.ref c),some (.ref sa),some u] H) ?_ (λN hN=>?_)
  case refine_2=>
   simp_all only[cK,ig]
   exact⟨_,_,h1,lp,H,aE.refl _,g,co,nm,ns,st,x,lk,λu ru=>hN u ru⟩
  rintro u ru
  cases x with
  | fin t' b'=>
   refine(?_:let G_:Prop:=_;G_)
   intro G_
   obtain⟨p,x1,x2,rfl,hp,r1,r2⟩:=aV.mp (show Rep H (.tup _) u from ru)
   rw[ao] at r1
   subst r1
   dsimp only[G_]
   cases ew
   simp_all only[dR,hp]
   exact kk _ _ (aE.refl _) r2
  | score c'=>
   refine(?_:let G_:Prop:=_;G_)
   intro G_
   obtain⟨p,x1,x2,rfl,hp,r1,r2⟩:=aV.mp (show Rep H (.tup _) u from ru)
   rw[ao] at r1 r2
   subst r1 r2
   dsimp only[G_]
   cases ew
   have hs:=c8 (cs:=g.cs) gx
   simp_all only[dR,hp,sM]
   rw[if_neg (by decide +kernel)]
   refine⟨_,_,_,h1,T.aR,T.na_Course_spots,_,j5,_,rfl,_,hG h2 gx,_,_,rfl,hl,_,dG (by omega),by decide,λp' H2 s2 np e2=>kk _ _ s2 (aV.mpr ⟨p',_,_,rfl,e2,aI.mpr rfl,aI.mpr rfl⟩)⟩
  | ask _ _ _ _=>cases ew
  | pick _ _=>cases ew
  | jw _ _ _ _=>cases ew
theorem fN:bo ["self"] ["self"] (aw (inClass (top 37) 0)):=⟨rfl,rfl,rfl,by decide +kernel,rfl,by decide +kernel,by decide +kernel⟩
theorem K6 (T:Txt K mg aK aL aG aY ag aD):pZ P w K mg base (bO P w) 1 "Finder" aD ["self"] (Hx P w aD):=by
 refine T.AL.eO (λ_ _ _ _ _ _ us hl=>match us,hl with | [_],_=>rfl) λf fd F=>F.gu fN (λvs H Q E h=>?_) (λbZ A outer s H vs Q E hr h=>?_)
 ·obtain⟨_,_,rfl,_⟩:=h;rfl
 ·refine(?_:let G_:Prop:=_;G_)
  intro G_
  obtain⟨x,dx,rfl,hx,kk⟩:=h
  dsimp only[G_]
  have nd:=fN.nd
  refine⟨_,(ai (kx (pv 0) (bC af) rfl)
  (aA (kx (pv 0) (Ce (P:=P) (w:=w)) rfl))),?_⟩
  have sl:=sizeLine_eq
  simp_all only[xq,Cd]
  refine⟨aak _,λl nl=>?_⟩
  have lx:x≠l:=λz=>by rw[<-z,hx] at nl;cases nl
  have Yx:upd H l (.lst []) x=some (.ins aD dx []):=by rw[aF lx];exact hx
  refine⟨_,_,_,Yx,T.bU,T.na_Finder_states,by decide,λn nn=>?_⟩
  have e1:iw (Str.ofString "states") (V.ref l) []=[(Str.ofString "states",V.ref l)]:=rfl
  have e2:iw (Str.ofString "numbers") (V.ref n) [(Str.ofString "states",V.ref l)]=[(Str.ofString "states",V.ref l),(Str.ofString "numbers",V.ref n)]:=by
   show(if Str.ofString "states"=Str.ofString "numbers" then _ else _)=_
   rw[if_neg (by decide +kernel)]
   rfl
  rw[e1] at nn ⊢
  have xn:n≠x:=λz=>by rw[z,ar] at nn;cases nn
  rw[aF xn] at nn
  have OS:n≠l:=λz=>by rw[z,ar] at nn;cases nn
  rw[aF OS] at nn
  refine⟨_,_,_,by rw[aF (Ne.symm xn),ar],T.bU,T.na_Finder_numbers,by show(1:Nat)<1000;decide,?_⟩
  rw[e2]
  refine kk l n _ nl nn (λa o ax ha=>?_) λFr=>⟨dx,[],[],?_,Ne.symm OS,?_,trivial,?_,(λp hp=>nomatch hp),rfl,aak _⟩
  ·have al:a≠l:=λz=>by rw[z,nl] at ha;cases ha
   have an:a≠n:=λz=>by rw[z,nn] at ha;cases ha
   rw[b9 al an,aF ax,aF an,aF ax,aF al]
   exact ha
  ·rw[b9 lx (Ne.symm xn),ar]
  ·rw[aF (Ne.symm lx),aF (Ne.symm OS),aF (Ne.symm lx),ar]
  ·rw[aF xn,ar]
theorem fe:bo ["self","state","key"] ["self","state"] (aw (inClass (top 37) 1)):=⟨rfl,rfl,rfl,by decide +kernel,rfl,by decide +kernel,by decide +kernel⟩
theorem yo (T:Txt K mg aK aL aG aY ag aD):b5 P w K mg base (bO P w) 1 aD "number_of" ["self","state"] (kT P w aD aG):=by
 refine T.jA.eO (λ_ _ _ _ _ _ us hl=>match us,hl with | [_,_],_=>rfl) λf fd F=>F.Fw fe (λvs H Q E h=>?_) (λbZ A outer s H vs Q E hr h=>?_)
 ·obtain⟨_,_,_,_,_,_,_,rfl,_⟩:=h;rfl
 ·refine(?_:let G_:Prop:=_;G_)
  intro G_
  obtain⟨fa,sv,Fr,l,n,ss,st,rfl,⟨dx,xs,ks,hf,ln,hl,al,hn,an,nk,uC⟩,uV,hs,Yy,kE,kQ⟩:=h
  dsimp only[G_]
  have nd:=fe.nd
  have AY:A.handled=none:=hr.hd
  refine⟨_,(ai (aP (i:=2) nd rfl (Or.inl rfl) (aQ (aa (aB az (pv 1) ae (λ_ _=>rfl)) (aa (dj (pR (K:=K)) (by rfl) T.z_tuple rfl (aa (aB az (pv 1) ae (λ_ _=>rfl)) af (se rfl)) (he:=se rfl) (hpl:=na rfl)) af (se rfl)) (se rfl))))
  (ai (bG (tL (AE (P:=P) (w:=w) hr.units (pv 2) (b6 (pv 0) rfl))) (ai (bG (aN bW (bh bI (by rfl) T.z_len aao (aa (b6 (pv 0) rfl) af (se rfl)) (he:=se rfl) (hpl:=na rfl)) (lX rfl T.c_MOST_STATES) (aU _)) (aA (gz rfl T.k_TooMany T.x_TooMany AY (aa aJ af (se rfl)) (he:=se rfl) (hpl:=na rfl)))
   bj)
  (ai (Er (P:=P) (w:=w) hr.units (b6 (pv 0) rfl) (pv 2) (bh bI (by rfl) T.z_len aao (aa (b6 (pv 0) rfl) af (se rfl)) (he:=se rfl) (hpl:=na rfl)) rfl)
  (aA (bX (dr aas aaG aaH cb.r (b6 (pv 0) rfl) (aa (pv 1) af (se rfl)))))))
   bj)
  (aA (bf (Ep (P:=P) (w:=w) hr.units (b6 (pv 0) rfl) (pv 2) (λ_ _=>rfl)))))),?_⟩
  refine(?_:let cB:TS:=_;let cC:TS:=_;let cD:TS:=_;tSeq cB (tSeq cC cD) _ _ _)
  intro cB cC cD
  have sl:=sizeLine_eq
  refine(?_:let G_:Prop:=_;G_)
  intro G_
  obtain⟨sa,cl,rfl,sM,iC,MU⟩:=id uV
  dsimp only[G_]
  have K7:=aS _ _ hf
  have OT:=aS _ _ sM
  have OU:=aS _ _ iC
  have Yz:=nk.len
  have yp:=al.length
  change tSeq _ _ _ _ _
  refine bb (λN=>∀H1,aE H H1->∀b,jx (bT H1 l n) (gD st) b->N [some (.ref fa),some (.ref sa),some (.ref b)] H1) ?_ (λN hN=>?_)
  case refine_2=>
   simp_all only[OT]
   refine⟨_,.inl ⟨bN.of OU,λt nt=>⟨by decide,λp H2 s2 np e2=>hN _ ((aj nt).trans s2) p ?_⟩⟩⟩
   have tl:t≠l:=λz=>by rw[z,hl] at nt;cases nt
   have tn:t≠n:=λz=>by rw[z,hn] at nt;cases nt
   have pl:p≠l:=λz=>by rw[z,aj nt _ _ hl] at np;cases np
   have pn:p≠n:=λz=>by rw[z,aj nt _ _ hn] at np;cases np
   exact Hw hs (by rw[b9 pl pn];exact e2) (by rw[b9 tl tn];exact s2 _ _ ar)
  rintro H1 s1 b kb
  have OV:=nk.look (s:=st)
  rw[Nat.zero_add] at OV
  have YA:=al.imp λ_ _ k=>AO.mono (bF (l:=l) (n:=n) s1) k
  have Ig:=an.mono (bF (l:=l) (n:=n) s1)
  change tSeq _ _ _ _ _
  refine eC (λσ' H2=>aE (bT H l n) (bT H2 l n)/\(st∈ss\/ss.length<120)/\kP P w aD Fr H2 fa l n (fJ ss st)/\jx (bT H2 l n) (gD st) b/\σ'=[some (.ref fa),some (.ref sa),some (.ref b)]) ?_ (λN hN=>?_)
  case refine_2=>
   have mst:=T.c_MOST_STATES
   simp_all only[dR,zx,FI,cV,tRaise]
   refine⟨_,_,_,s1 _ _ K7,T.bU,T.na_Finder_numbers,_,Cs,_,⟨n,b,gD st,ks,rfl,rfl,s1 _ _ hn,Ig.mono aS,kb.mono aS,rfl⟩,?_⟩
   rw[OV]
   by_cases hm:st∈ss
   ·rw[if_pos hm,if_neg (by simp)]
    refine hN _ _ ⟨bF s1,.inl hm,?_,kb,rfl⟩
    have e:fJ ss st=ss:=by unfold fJ;rw[if_pos hm]
    rw[e]
    exact kP.mono s1 ⟨dx,xs,ks,hf,ln,hl,al,hn,an,nk,uC⟩
   ·have OW:hZ ks (cf (gD st))=none:=by rw[OV,if_neg hm]
    have e:fJ ss st=ss++ [st]:=by unfold fJ;rw[if_neg hm]
    rw[if_neg hm,if_pos (by rfl)]
    refine⟨_,_,_,s1 _ _ K7,T.bU,T.na_Finder_states,_,j6,_,rfl,_,s1 _ _ hl,?_⟩
    by_cases full:ss.length=120
    ·rw[if_pos (by omega)]
     exact⟨by decide,kE hm full _ s1⟩
    have lt:ss.length<120:=by omega
    rw[if_neg (by omega)]
    refine⟨_,_,_,s1 _ _ K7,T.bU,T.na_Finder_states,_,j6,_,rfl,_,s1 _ _ hl,?_⟩
    have Fs:∀o,upd H1 n o l=some (.lst xs):=λo=>by rw[aF ln];exact s1 _ _ hl
    have ty:∀o,DW K "list" (.ref l) (upd H1 n o):=λo=>.inl ⟨rfl,_,bN.of (Fs o)⟩
    refine⟨_,_,_,s1 _ _ K7,T.bU,T.na_Finder_numbers,_,Cs,_,rfl,gD st,ks,s1 _ _ hn,Ig.mono aS,kb.mono aS,OW,by omega,_,_,_,by rw[aF (gF hf).2];exact s1 _ _ K7,T.bU,T.na_Finder_states,_,j6,ty _,_,rfl,_,Fs _,by omega,hN _ _ ?_⟩
    have eh:bT (upd (upd H1 n (Dp P w n (ks++ [(gD st,b,((xs.length:Nat):Int))]))) l (.lst (xs++ [V.ref sa]))) l n=bT H1 l n:=by rw[AQ,AR ln]
    refine⟨by rw[eh];exact bF s1,.inr lt,?_,by rw[eh];exact kb,rfl⟩
    rw[e]
    refine⟨dx,_,_,by rw[eh];exact bF s1 _ _ hf,ln,ar,by rw[eh];exact YA.append (.one (uV.mono (bF s1))),by rw[aF (Ne.symm ln),ar],?_,?_,by rw[aan];simp only[aar,aaW];omega⟩
    ·rw[eh]
     intro p hp
     rcases List.mem_append.mp hp with h | h
     ·exact Ig p h
     ·rw[List.mem_singleton.mp h];exact kb
    ·have:=nk.snoc (s:=st) (b:=b)
     rw[Nat.zero_add,<-yp] at this
     exact this
  intro _ H2 eQ
  refine(?_:let G_:Prop:=_;G_)
  intro G_
  obtain⟨s2,YB,fi,kb2,rfl⟩:=eQ
  obtain⟨VJ,KZ,OX,g1,g2,g3,g4,g5,g6,g7,g8⟩:=id fi
  dsimp only[G_]
  simp_all only[dR,FH]
  refine⟨_,_,_,aS _ _ g1,T.bU,T.na_Finder_numbers,_,Cs,_,⟨n,b,gD st,OX,rfl,rfl,g5,g6.mono aS,kb2.mono aS,?_⟩,kQ YB H2 s2 fi⟩
  rw[g7.look,if_pos (qq _ _),qr,Nat.zero_add]
theorem fO:bo ["self","game","spot","count","name","what"] ["self","game"] (aw (inClass (top 36) 0)):=⟨rfl,rfl,rfl,by decide +kernel,rfl,by decide +kernel,by decide +kernel⟩
theorem K8 (T:Txt K mg aK aL aG aY ag aD):pZ P w K mg base (bO P w) 3 "Course" ag ["self","game"] (HJ ag):=by
 have yq:cS P w K mg base (bO P w) 2 "own_what" ["what"] Hu:=KY T
 refine T.AK.eO (λ_ _ _ _ _ _ us hl=>match us,hl with | [_,_],_=>rfl) λf fd F=>F.gu fO (λvs H Q E h=>?_) (λbZ A outer s H vs Q E hr h=>?_)
 ·obtain⟨_,_,_,_,rfl,_⟩:=h;rfl
 ·refine(?_:let G_:Prop:=_;G_)
  intro G_
  obtain⟨c,dx,gv,g,rfl,hc,rg,gg,kk⟩:=h
  dsimp only[G_]
  have nd:=fO.nd
  refine⟨_,(ai (kx (pv 0) lO rfl)
  (ai (kx (pv 0) (bC af) rfl)
  (ai (cQ PassesOwn.never rfl (rD (K:=K) rfl T.z_enumerate (aa (aB az (pv 1) ae (λ_ _=>rfl)) af (se rfl))) (c6 (K:=K) (n:=2) rfl (bu (aT (i:=2) nd rfl (Or.inl rfl)) (bu (aT (i:=3) nd rfl (Or.inl rfl)) cU))) (ai (lN (dt hr) (b6 (pv 0) rfl) (aB az (pv 3) ae (λ_ _=>rfl)) (pv 2) rfl)
  (aA (bX (dr aas aaG aaH cb.r (b6 (pv 0) rfl) (aa (aB az (pv 3) ae (λ_ _=>rfl)) af (se rfl)))))))
  (ai (kx (pv 0) (aB az (aB aW (aB az (pv 1) ae (λ_ _=>rfl)) ae (λ_ _=>rfl)) ae (λ_ _=>rfl)) rfl)
  (ai (kx (pv 0) lO rfl)
  (ai (cQ PassesOwn.never rfl (bx (K:=K) (aB az (pv 1) ae (λ_ _=>rfl))) (c6 (K:=K) (n:=2) rfl (bu (aT (i:=4) nd rfl (Or.inl rfl)) (bu (aT (i:=5) nd rfl (Or.inl rfl)) cU))) (aA (lN (dt hr) (b6 (pv 0) rfl) (pv 4) (br yq (hr.mono (by decide)) rfl aM.pass (aa (pv 5) af (se rfl)) (he:=se rfl) (hpl:=na rfl)) rfl)))
  (aA (kx (pv 0) lO rfl)))))))),?_⟩
  refine(?_:let cB:TS:=_;let cC:TS:=_;let cD:TS:=_;let dE:TS:=_;let qD:TS:=_;let tw:TS:=_;let zS:TS:=_;tSeq cB (tSeq cC (tSeq cD (tSeq dE (tSeq qD (tSeq tw zS))))) _ _ _)
  intro cB cC cD dE qD tw zS
  have sl:=sizeLine_eq
  have np:=gg.np
  have nc:=gg.nc
  have lc:=gg.lc
  have lpp:=gg.lp
  have p0:=gg.p0
  refine(?_:let G_:Prop:=_;G_)
  intro G_
  obtain⟨gp,g0,g1,rfl,OY,rc,rp⟩:=aV.mp (show Rep H (.tup _) gv from rg)
  obtain⟨cl,uW,rfl,iC,uK⟩:=aO.mp (show Rep H (.lst _) g0 from rc)
  obtain⟨pl,K9,rfl,hpl,Dv⟩:=aO.mp (show Rep H (.lst _) g1 from rp)
  dsimp only[G_]
  have qI:=uK.length
  rw[aac] at qI
  have La:=Dv.length
  rw[aac] at La
  change tSeq _ _ _ _ _
  let K1:Hp->Prop:=λH1=>∀a o,a≠c->H a=some o->H1 a=some o
  have kp:∀{H1},K1 H1->Kp H H1:=λ{H1} k a=>by
   by_cases z:a=c
   ·subst z;rw[hc];exact⟨(λ_ e=>by cases e),(λ_ e=>by cases e)⟩
   ·exact⟨λ_=>k _ _ z,λ_=>k _ _ z⟩
  have yr:∀{H1 a vs},K1 H1->H a=some (.tup vs)->H1 a=some (.tup vs):=λk e=>((kp k) _).1 _ e
  have CV:∀{H1 a vs},K1 H1->H a=some (.lst vs)->H1 a=some (.lst vs):=λk e=>((kp k) _).2 _ e
  refine bb (λN=>∀H1,K1 H1->(∃sp,sp≠c/\H sp=none/\H1 c=some (.ins ag dx [(Str.ofString "spots",.ref sp)])/\H1 sp=some (.dK []))->N [some (.ref c),some (.ref gp),none,none,none,none] H1) ?_ (λN hN=>?_)
  case refine_2=>
   simp_all only[xq,tDNewK]
   intro sp Je
   have e1:sp≠c:=λz=>by rw[z,hc] at Je;cases Je
   refine⟨_,_,_,by rw[aF (Ne.symm e1)];exact hc,T.aR,T.na_Course_spots,by decide,hN _ (λa o ac ha=>?_) ⟨sp,e1,Je,ar,by rw[aF e1,ar]⟩⟩
   rw[aF ac,aF (λz=>by rw[z,Je] at ha;cases ha)]
   exact ha
  intro H1 k1 eQ
  refine(?_:let G_:Prop:=_;G_)
  intro G_
  obtain⟨sp,Jf,Je,Lb,Lc⟩:=eQ
  dsimp only[G_]
  change tSeq _ _ _ _ _
  refine bb (λN=>∀H2,K1 H2->(∃mo,mo≠c/\mo≠sp/\H mo=none/\H2 c=some (.ins ag dx [(Str.ofString "spots",.ref sp),(Str.ofString "mosts",.ref mo)])/\H2 sp=some (.dK [])/\H2 mo=some (.lst []))->N [some (.ref c),some (.ref gp),none,none,none,none] H2) ?_ (λN hN=>?_)
  case refine_2=>
   simp_all only[xq]
   refine⟨aak _,λmo FW=>?_⟩
   have e1:mo≠c:=λz=>by rw[z,Lb] at FW;cases FW
   have e2:mo≠sp:=λz=>by rw[z,Lc] at FW;cases FW
   have n0:H mo=none:=by
    cases h0:H mo with
    | none=>rfl
    | some o=>rw[k1 _ _ e1 h0] at FW;cases FW
   refine⟨_,_,_,by rw[aF (Ne.symm e1)];exact Lb,T.aR,T.na_Course_mosts,by show(1:Nat)<1000;decide,hN _ (λa o ac ha=>?_) ⟨mo,e1,e2,n0,?_,by rw[aF Jf,aF (Ne.symm e2)];exact Lc,by rw[aF e1,ar]⟩⟩
   ·rw[aF ac,aF (λz=>by rw[z,n0] at ha;cases ha)]
    exact k1 _ _ ac ha
   ·rw[ar]
    show some (HO.ins _ _ (if Str.ofString "spots"=Str.ofString "mosts" then _ else _))=_
    rw[if_neg (by decide +kernel)]
    rfl
  intro H2 k2 eQ
  refine(?_:let G_:Prop:=_;G_)
  intro G_
  obtain⟨mo,Nb,Ld,FW,OZ,O0,O1⟩:=eQ
  dsimp only[G_]
  change tSeq _ _ _ _ _
  refine bb (λN=>∀H3,K1 H3->H3 c=some (.ins ag dx [(Str.ofString "spots",.ref sp),(Str.ofString "mosts",.ref mo)])->H3 sp=some (.dK (qi g.cs 0))->H3 mo=some (.lst ((g.cs.map (·.2)).map V.int))->∀z1 z2,N [some (.ref c),some (.ref gp),z1,z2,none,none] H3) ?_ (λN hN=>?_)
  case refine_2=>
   simp_all only[iEnum,yr k2 OY]
   refine⟨⟨_,bN.of (CV k2 iC)⟩,cu (BR (Ok:=K1) (λH' k=>bN.of (CV k iC))) (λi σ H'=>K1 H'/\H' c=some (.ins ag dx [(Str.ofString "spots",.ref sp),(Str.ofString "mosts",.ref mo)])/\H' sp=some (.dK (qi (g.cs.take i) 0))/\H' mo=some (.lst (((g.cs.take i).map (·.2)).map V.int))/\∃z1 z2,σ=[some (.ref c),some (.ref gp),z1,z2,none,none]) ⟨k2,OZ,O0,O1,_,_,rfl⟩ (λ_ _ _ _ h=>h.1) ?_ ?_⟩
   ·intro i x σ H3 H4 hi hW fU
    refine(?_:let G_:Prop:=_;G_)
    intro G_
    obtain⟨k3,Jg,yt,yu,z1,z2,rfl⟩:=hW
    obtain⟨t,y,nt,rfl,ey,rfl⟩:=fU
    obtain⟨d0,ed,rd⟩:=uK.get ey
    rw[aad] at ed
    obtain⟨cn,ec,rfl⟩:=Option.map_eq_some_iff.mp ed
    obtain⟨cp,y1,y2,rfl,Nc,r1,r2⟩:=aV.mp (show Rep H (.tup _) y from rd)
    rw[ao] at r1
    rw[aI] at r2
    subst r1 r2
    dsimp only[G_]
    have tk:g.cs.take (i+1)=g.cs.take i++ [cn]:=by rw[aaF,ec];rfl
    have nn:cn.1∉(g.cs.take i).map (·.1):=by
     rw[List.map_take]
     exact vY nc (by rw[aad,ec];rfl)
    have tc:t≠c:=λz=>by rw[z,Jg] at nt;cases nt
    have ts:t≠sp:=λz=>by rw[z,yt] at nt;cases nt
    have tm:t≠mo:=λz=>by rw[z,yu] at nt;cases nt
    have k4:K1 (upd H3 t (.tup [.int (i:Int),.ref cp])):=λa o ac ha=>aj nt _ _ (k3 a o ac ha)
    have Jh:upd H3 t (.tup [.int (i:Int),.ref cp]) c=_:=aj nt _ _ Jg
    have EW:upd H3 t (.tup [.int (i:Int),.ref cp]) sp=_:=aj nt _ _ yt
    have EX:upd H3 t (.tup [.int (i:Int),.ref cp]) mo=_:=aj nt _ _ yu
    refine⟨t,_,rfl,hX.of ar,rfl,?_⟩
    generalize upd H3 t (.tup [.int (i:Int),.ref cp])=H4 at *
    have YC:(qi (g.cs.take i) 0).length<sizeLine:=by rw[zz,aaT];omega
    have k5:K1 (upd H4 sp (.dK (putK (qi (g.cs.take i) 0) (Sum.inr cn.1) (.int (i:Int))))):=λa o ac ha=>by
     rw[aF (λz=>by rw[z,Je] at ha;cases ha)]
     exact k4 a o ac ha
    simp_all only[sDPut,dR,cV,yr k4 Nc]
    have Nd:df (qi (g.cs.take i) 0) (Sum.inr cn.1)=none:=qj nn
    rw[lZ Nd] at k5
    have lt:(g.cs.take i).length=i:=by rw[aaT];omega
    have EY:∀o,upd H4 sp o mo=some (.lst (((g.cs.take i).map (·.2)).map V.int)):=λo=>by rw[aF Ld];exact EX
    have ty:∀o,DW K "list" (.ref mo) (upd H4 sp o):=λo=>.inl ⟨rfl,_,bN.of (EY o)⟩
    refine⟨_,_,_,Jh,T.aR,T.na_Course_spots,_,aaU,_,rfl,_,.inl ⟨_,Sum.inr cn.1,EW,rfl,YC,rfl⟩,?_⟩
    rw[lZ Nd]
    refine⟨_,_,_,by rw[aF (Ne.symm Jf)];exact Jh,T.aR,T.na_Course_mosts,_,by rw[du (by decide +kernel)];exact aaU,ty _,_,yr k5 Nc,_,rfl,_,rfl,_,EY _,by rw[aac,aac];omega,?_⟩
    refine⟨?_,?_,?_,?_,_,rfl⟩
    ·intro a o ac ha
     rw[aF (λz=>by rw[z,FW] at ha;cases ha)]
     exact k5 a o ac ha
    ·rw[aF (Ne.symm Nb),aF (Ne.symm Jf)];exact Jh
    ·rw[aF (Ne.symm Ld),ar,tk,vU,lt,Nat.zero_add]
    ·rw[ar,tk,aaz,aaz]
     rfl
   ·intro σ H3 eQ
    refine(?_:let G_:Prop:=_;G_)
    intro G_
    obtain⟨k3,Jg,yt,yu,z1,z2,rfl⟩:=eQ
    dsimp only[G_]
    rw[<-qI,aaE (aaf _)] at yt yu
    exact hN _ k3 Jg yt yu _ _
  rintro H3 k3 Jg yt yu z1 z2
  obtain⟨⟨n0,x0⟩,VL⟩:∃x,g.ps[0]?=some x:=⟨_,aap p0⟩
  obtain⟨v0,Ih,Ii⟩:=Dv.at (by rw[aad,VL];rfl)
  change tSeq _ _ _ _ _
  refine bb (λN=>∀H4,K1 H4->H4 c=some (.ins ag dx [(Str.ofString "spots",.ref sp),(Str.ofString "mosts",.ref mo),(Str.ofString "first",.str n0)])->H4 sp=some (.dK (qi g.cs 0))->H4 mo=some (.lst ((g.cs.map (·.2)).map V.int))->N [some (.ref c),some (.ref gp),z1,z2,none,none] H4) ?_ (λN hN=>?_)
  case refine_2=>
   simp_all only[xq,yr k3 OY]
   refine(?_:let G_:Prop:=_;G_)
   intro G_
   obtain⟨q0,a1,a2,rfl,wA,b1,_⟩:=aV.mp (show Rep H (.tup _) v0 from Ii)
   rw[ao] at b1
   subst b1
   dsimp only[G_]
   have at0:lD K9 0=some (.ref q0):=(bJ Ih:lD K9 ((0:Nat):Int)=_)
   refine⟨_,CV k3 hpl,_,at0,_,rfl,_,yr k3 wA,_,rfl,_,_,_,Jg,T.aR,T.na_Course_first,by show(2:Nat)<1000;decide,hN _ (λa o ac ha=>?_) ?_ (by rw[aF Jf];exact yt) (by rw[aF Nb];exact yu)⟩
   ·rw[aF ac]
    exact k3 _ _ ac ha
   ·rw[ar]
    show some (HO.ins _ _ (if Str.ofString "spots"=Str.ofString "first" then _ else _::(if Str.ofString "mosts"=Str.ofString "first" then _ else _)))=_
    rw[if_neg (by decide +kernel),if_neg (by decide +kernel)]
    rfl
  rintro H4 k4 Jh EW EX
  change tSeq _ _ _ _ _
  refine bb (λN=>∀H5,K1 H5->(∃wh,wh≠c/\wh≠sp/\wh≠mo/\H wh=none/\H5 c=some (.ins ag dx [(Str.ofString "spots",.ref sp),(Str.ofString "mosts",.ref mo),(Str.ofString "first",.str n0),(Str.ofString "whats",.ref wh)])/\H5 sp=some (.dK (qi g.cs 0))/\H5 mo=some (.lst ((g.cs.map (·.2)).map V.int))/\H5 wh=some (.dK []))->N [some (.ref c),some (.ref gp),z1,z2,none,none] H5) ?_ (λN hN=>?_)
  case refine_2=>
   simp_all only[xq,tDNewK]
   intro wh Dw
   have e1:wh≠c:=λz=>by rw[z,Jh] at Dw;cases Dw
   have e2:wh≠sp:=λz=>by rw[z,EW] at Dw;cases Dw
   have e3:wh≠mo:=λz=>by rw[z,EX] at Dw;cases Dw
   have n0:H wh=none:=by
    cases h0:H wh with
    | none=>rfl
    | some o=>rw[k4 _ _ e1 h0] at Dw;cases Dw
   refine⟨_,_,_,by rw[aF (Ne.symm e1)];exact Jh,T.aR,T.na_Course_whats,by show(3:Nat)<1000;decide,hN _ (λa o ac ha=>?_) ⟨wh,e1,e2,e3,n0,?_,by rw[aF Jf,aF (Ne.symm e2)];exact EW,by rw[aF Nb,aF (Ne.symm e3)];exact EX,by rw[aF e1,ar]⟩⟩
   ·rw[aF ac,aF (λz=>by rw[z,n0] at ha;cases ha)]
    exact k4 _ _ ac ha
   ·rw[ar]
    show some (HO.ins _ _ (if Str.ofString "spots"=Str.ofString "whats" then _ else _::(if Str.ofString "mosts"=Str.ofString "whats" then _ else _::(if Str.ofString "first"=Str.ofString "whats" then _ else _))))=_
    rw[if_neg (by decide +kernel),if_neg (by decide +kernel),if_neg (by decide +kernel)]
    rfl
  intro H5 k5 eQ
  refine(?_:let G_:Prop:=_;G_)
  intro G_
  obtain⟨wh,VM,O2,O3,Dw,YD,O4,EY,O5⟩:=eQ
  dsimp only[G_]
  change tSeq _ _ _ _ _
  refine bb (λN=>∀H6,K1 H6->H6 c=some (.ins ag dx [(Str.ofString "spots",.ref sp),(Str.ofString "mosts",.ref mo),(Str.ofString "first",.str n0),(Str.ofString "whats",.ref wh)])->H6 sp=some (.dK (qi g.cs 0))->H6 mo=some (.lst ((g.cs.map (·.2)).map V.int))->(∃us,H6 wh=some (.dK us)/\qk H6 g.ps us)->∀z3 z4,N [some (.ref c),some (.ref gp),z1,z2,z3,z4] H6) ?_ (λN hN=>?_)
  case refine_2=>
   simp_all only[yr k5 OY]
   refine⟨⟨_,bN.of (CV k5 hpl)⟩,cu (src_list (Ok:=K1) (λH' k=>bN.of (CV k hpl))) (λi σ H'=>K1 H'/\H' c=some (.ins ag dx [(Str.ofString "spots",.ref sp),(Str.ofString "mosts",.ref mo),(Str.ofString "first",.str n0),(Str.ofString "whats",.ref wh)])/\H' sp=some (.dK (qi g.cs 0))/\H' mo=some (.lst ((g.cs.map (·.2)).map V.int))/\(∃us,H' wh=some (.dK us)/\qk H' (g.ps.take i) us)/\∃z3 z4,σ=[some (.ref c),some (.ref gp),z1,z2,z3,z4]) ⟨k5,YD,O4,EY,⟨[],O5,rfl⟩,_,_,rfl⟩ (λ_ _ _ _ h=>h.1) ?_ ?_⟩
   ·intro i x σ H7 H6 hi hW fU
    refine(?_:let G_:Prop:=_;G_)
    intro G_
    obtain⟨k6,FX,A1,A2,⟨us,wB,wk⟩,z3,z4,rfl⟩:=hW
    obtain⟨rfl,ey⟩:=fU
    obtain⟨d0,ed,rd⟩:=Dv.get ey
    rw[aad] at ed
    obtain⟨pn,ec,rfl⟩:=Option.map_eq_some_iff.mp ed
    obtain⟨cp,y1,y2,rfl,Nc,r1,r2⟩:=aV.mp (show Rep H (.tup _) x from rd)
    rw[ao] at r1
    subst r1
    dsimp only[G_]
    have tk:g.ps.take (i+1)=g.ps.take i++ [pn]:=by rw[aaF,ec];rfl
    have nn:pn.1∉(g.ps.take i).map (·.1):=by
     rw[List.map_take]
     exact vY np (by rw[aad,ec];rfl)
    have Nd:=wk.none nn
    have lus:us.length<=100:=by rw[wk.len,aaT];omega
    refine⟨cp,_,rfl,hX.of (yr k6 Nc),rfl,?_⟩
    simp_all only[sDPut,dR,Hu]
    refine⟨_,(kp k6).rep r2,_,gg.wt _ (aal ec),λu H7 s7 ru=>?_⟩
    refine⟨_,_,_,s7 _ _ FX,T.aR,T.na_Course_whats,_,by rw[du (by decide +kernel),du (by decide +kernel),du (by decide +kernel)];exact aaU,_,rfl,_,.inl ⟨_,Sum.inr pn.1,s7 _ _ wB,rfl,by omega,rfl⟩,?_⟩
    rw[lZ Nd]
    have kq:Kp H7 (upd H7 wh (.dK (us++ [(Sum.inr pn.1,u)]))):=Kp.upd (λvs e=>by rw[s7 _ _ wB] at e;cases e) (λvs e=>by rw[s7 _ _ wB] at e;cases e)
    refine⟨λa o ac ha=>?_,by rw[aF (Ne.symm VM)];exact s7 _ _ FX,by rw[aF (Ne.symm O2)];exact s7 _ _ A1,by rw[aF (Ne.symm O3)];exact s7 _ _ A2,⟨_,ar,?_⟩,_,rfl⟩
    ·rw[aF (λz=>by rw[z,Dw] at ha;cases ha)]
     exact s7 _ _ (k6 _ _ ac ha)
    ·rw[tk]
     exact qk.snoc (kq.rep ru) (kq.OG (wk.mono s7))
   ·intro σ H6 eQ
    refine(?_:let G_:Prop:=_;G_)
    intro G_
    obtain⟨k6,FX,A1,A2,⟨us,wB,wk⟩,z3,z4,rfl⟩:=eQ
    dsimp only[G_]
    rw[<-La,aaE (aaf _)] at wk
    exact hN _ k6 FX A1 A2 ⟨us,wB,wk⟩ _ _
  intro H6 k6 FX A1 A2 YE z3 z4
  refine(?_:let G_:Prop:=_;G_)
  intro G_
  obtain⟨us,wB,wk⟩:=YE
  dsimp only[G_]
  simp_all only[xq,tDNewK]
  intro tb zT
  have e1:tb≠c:=λz=>by rw[z,FX] at zT;cases zT
  have e2:tb≠sp:=λz=>by rw[z,A1] at zT;cases zT
  have e3:tb≠mo:=λz=>by rw[z,A2] at zT;cases zT
  have e4:tb≠wh:=λz=>by rw[z,wB] at zT;cases zT
  have Le:H tb=none:=by
   cases h0:H tb with
   | none=>rfl
   | some o=>rw[k6 _ _ e1 h0] at zT;cases zT
  refine⟨_,_,_,by rw[aF (Ne.symm e1)];exact FX,T.aR,T.na_Course_tables,by show(4:Nat)<1000;decide,kk tb _ (λa o ac ha=>?_) Le (by rw[aF e1,ar]) ⟨dx,sp,mo,wh,us,n0,?_,by rw[bw (Ne.symm e2),aF Jf,aF (Ne.symm e2)];exact A1,by rw[bw (Ne.symm e3),aF Nb,aF (Ne.symm e3)];exact A2,by rw[bw (Ne.symm e4),aF VM,aF (Ne.symm e4)];exact wB,?_,?_⟩⟩
  ·rw[aF ac,aF (λz=>by rw[z,Le] at ha;cases ha)]
   exact k6 _ _ ac ha
  ·rw[bw (Ne.symm e1),ar]
   show some (HO.ins _ _ (if Str.ofString "spots"=Str.ofString "tables" then _ else _::(if Str.ofString "mosts"=Str.ofString "tables" then _ else _::(if Str.ofString "first"=Str.ofString "tables" then _ else _::(if Str.ofString "whats"=Str.ofString "tables" then _ else _)))))=_
   rw[if_neg (by decide +kernel),if_neg (by decide +kernel),if_neg (by decide +kernel),if_neg (by decide +kernel)]
   rfl
  ·have Jy:upd H6 tb (.dK []) c=_:=(aF (Ne.symm e1)).trans FX
   refine((Kp.of (aj zT)).trans ((Kp.upd (o:=_) (λvs e=>by rw[Jy] at e;cases e) (λvs e=>by rw[Jy] at e;cases e)).trans (Kp.cA (tb:=tb) (kvs:=[]) ?_))).OG wk
   rw[aF e1,ar]
  ·rw[List.head?_map,List.head?_eq_getElem?,VL]
   rfl
theorem mi:bo ["course","finder","state","rows"] ["course","finder","state"] (aw (top 39)):=⟨rfl,rfl,rfl,by decide +kernel,rfl,by decide +kernel,by decide +kernel⟩
theorem Ij (T:Txt K mg aK aL aG aY ag aD):cS P w K mg base (bO P w) 4 "pick_ways" ["course","finder","state"] (zJ P w ag aD aY aG):=by
 have dO:b5 P w K mg base (bO P w) 2 ag "open_rows" ["self","state"] (vX ag):=CT T
 have eR:b5 P w K mg base (bO P w) 3 ag "by_row" ["self","state","row","value"] (vW ag):=CS T
 have cE:b5 P w K mg base (bO P w) 1 aD "number_of" ["self","state"] (kT P w aD aG):=yo T
 refine T.vQ.eO (λ_ _ _ _ _ _ us hl=>match us,hl with | [_,_,_],_=>rfl) λf fd F=>F.Fw mi (λvs H Q E h=>?_) (λbZ A outer s H vs Q E hr h=>?_)
 ·obtain⟨_,_,_,_,_,_,_,_,_,_,_,rfl,_⟩:=h;rfl
 ·refine(?_:let G_:Prop:=_;G_)
  intro G_
  obtain⟨c,fa,sv,Fr,l,n,g,ss,st,wo,rs,rfl,co,gg,fi,fr,uV,ln,lk,kE,kQ⟩:=h
  dsimp only[G_]
  have nd:=mi.nd
  have AY:A.handled=none:=hr.hd
  refine⟨_,(ai (aP (i:=3) nd rfl (Or.inl rfl) (c7 dO T.aR (pv 0) (hr.mono (by decide)) aM.pass (aa (pv 2) af (se rfl)) (hst:=se rfl) (hpl:=na rfl)))
  (ai (bG (aN bW (bh bI (by rfl) T.z_len aao (aa (pv 3) af (se rfl)) (he:=se rfl) (hpl:=na rfl)) ae (aU _)) (aA (gz rfl T.k_NoWay T.x_NoWay AY (aa aJ af (se rfl)) (he:=se rfl) (hpl:=na rfl)))
   bj)
  (aA (bf (B5 rfl (N:=["course","finder","state","rows"]) (so:=aw (top 39)) (N':=["row","course","finder","state"]) (k:=1) (fr:=[0,1,2]) rfl rfl ⟨rfl,by decide +kernel,by decide +kernel,by decide +kernel,rfl,by decide +kernel,by decide +kernel⟩ (bx (K:=K) (pv 3)) (λ_ _ _ _ _=>(aT (i:=0) (show(["row","course","finder","state"]:List Str).Nodup by decide +kernel) rfl (Or.inl rfl))) (λ_ _ _ _ _=>cJ)
   (λ_ _ _ _ _=>(c7 cE T.bU (pv 2) (hr.mono (by decide)) B4 (aa (c7 eR T.aR (pv 1) (hr.mono (by decide)) aM.pass (aa (pv 3) (aa (pv 0) (aa ae af (se rfl)) (se rfl)) (se rfl)) (hst:=se rfl) (hpl:=na rfl)) af (se rfl)) (hst:=se rfl) (hpl:=na rfl)))))))),?_⟩
  refine(?_:let cB:TS:=_;let cC:TS:=_;let cD:TS:=_;tSeq cB (tSeq cC cD) _ _ _)
  intro cB cC cD
  have sl:=sizeLine_eq
  refine(?_:let G_:Prop:=_;G_)
  intro G_
  obtain⟨dx,sp,mo,wh,tb,us,CQ,h1,h2,h3,h4,h5,h6⟩:=id co
  obtain⟨Ji,VN,VO,f1,f2,f3,f4,f5,f6,f7,f8⟩:=id fi
  obtain⟨sa,cl,rfl,sM,iC⟩:=id uV
  dsimp only[G_]
  have gx:=gg.wt _ (eF lk)
  have lp:∀{a b c d e:V},List.lookup (Str.ofString "open_rows") [(Str.ofString "spots",a),(Str.ofString "mosts",b),(Str.ofString "first",c),(Str.ofString "whats",d),(Str.ofString "tables",e)]=none:=dP (by decide +kernel) (by decide +kernel) (by decide +kernel) (by decide +kernel) (by decide +kernel)
  have Bg:∀{a b c d e:V},List.lookup (Str.ofString "by_row") [(Str.ofString "spots",a),(Str.ofString "mosts",b),(Str.ofString "first",c),(Str.ofString "whats",d),(Str.ofString "tables",e)]=none:=dP (by decide +kernel) (by decide +kernel) (by decide +kernel) (by decide +kernel) (by decide +kernel)
  have O6:∀{a b:V},List.lookup (Str.ofString "number_of") [(Str.ofString "states",a),(Str.ofString "numbers",b)]=none:=yb (by decide +kernel) (by decide +kernel)
  change tSeq _ _ _ _ _
  refine bb (λN=>∀H1,aE H H1->∀p xs,H p=none->H1 p=some (.lst xs)->bq (bT H l n) (((dY g.cs st.2 (.pick wo rs)).map oY).map ie) xs->N [some (.ref c),some (.ref fa),some (.ref sa),some (.ref p)] H1) ?_ (λN hN=>?_)
  case refine_2=>
   simp_all only[cK,vX]
   refine⟨_,_,aS _ _ h1,lp,bT H l n,aS,g,co,gg,st.1,st.2,uV.mono aS,ln,_,lk,λp xs H1 s1 n1 e1 r1=>hN _ s1 p xs n1 e1 r1⟩
  rintro H1 s1 p xs np hp wz
  have yp:=wz.length
  rw[aac,aac] at yp
  have MP:(dY g.cs st.2 (.pick wo rs)).length<=100:=aax (List.length_filter_le _ _) gx.1
  by_cases ne:dY g.cs st.2 (.pick wo rs)=[]
  case pos=>
   rw[ne] at yp
   have yp:0=xs.length:=yp
   simp_all only[hp,tRaise]
   rw[if_pos (by omega)]
   exact⟨by decide,kE ne _ s1⟩
  refine(?_:let G_:Prop:=_;G_)
  intro G_
  obtain⟨ts,SS,go,tf,kM,kk⟩:=kQ ne
  dsimp only[G_]
  unfold Goes at go
  rw[lk] at go
  refine(?_:let G_:Prop:=_;G_)
  intro G_
  obtain⟨_,tl,al⟩:=go
  dsimp only[G_]
  have U6:0< (dY g.cs st.2 (.pick wo rs)).length:=List.length_pos_iff.mpr ne
  clear kE kQ
  have row:∀r∈dY g.cs st.2 (.pick wo rs),r.ds.length<=100/\∀d∈r.ds,sU g.cs d:=λr hr=>gx.2 r (List.mem_filter.mp hr).1
  generalize dY g.cs st.2 (.pick wo rs)=os at *
  simp_all only[hp]
  rw[if_neg (by omega)]
  have pl:p≠l:=λz=>by rw[z,f3] at np;cases np
  have pn:p≠n:=λz=>by rw[z,f5] at np;cases np
  refine⟨⟨_,bN.of hp⟩,md (src_list (Ok:=λH'=>bT H' l n p=some (.lst xs)) (λH' k=>bN.of (aS _ _ k))) (λi ys σ H'=>aE (bT H l n) (bT H' l n)/\kP P w aD Fr H' fa l n (aZ ss (ts.take i))/\bT H' l n p=some (.lst xs)/\(120< (aZ ss ts).length\/ys=(ts.take i).map (λt=>V.int ((SS.idxOf t:Nat):Int)))/\∃z,σ=[z,some (.ref c),some (.ref fa),some (.ref sa)]) ⟨bF s1,fi.mono s1,by rw[b9 pl pn];exact hp,.inr rfl,_,rfl⟩ (λ_ _ _ _ h=>h.2.2.1) (by omega) ?_ ?_⟩
  ·intro i x σ H3 ys H2 Q' N hi Ik yv y1 _
   refine(?_:let G_:Prop:=_;G_)
   intro G_
   obtain⟨k2,EZ,MO,Nf,z,rfl⟩:=Ik
   obtain⟨rfl,ex⟩:=yv
   obtain⟨dd,ed,rd⟩:=wz.get ex
   rw[aad,aad] at ed
   obtain⟨r4,e4,rfl⟩:=Option.map_eq_some_iff.mp ed
   obtain⟨r,er,rfl⟩:=Option.map_eq_some_iff.mp e4
   obtain⟨t,et,gr,ht⟩:=al i r er
   obtain⟨q1,q2⟩:=row r (aal er)
   dsimp only[G_]
   unfold M8 at gr
   refine(?_:let G_:Prop:=_;G_)
   intro G_
   obtain⟨gq,ak,e9⟩:=Option.map_eq_some_iff.mp gr
   subst e9
   have tk:ts.take (i+1)=ts.take i++ [(gq,r.ds.foldl (fI g.cs 0) st.2)]:=by rw[aaF,et];rfl
   have ea:aZ ss (ts.take (i+1))=fJ (aZ ss (ts.take i)) (gq,r.ds.foldl (fI g.cs 0) st.2):=by
    rw[tk]
    unfold aZ
    rw[aa1]
    rfl
   have ah:oZ (aZ ss (ts.take (i+1))) (aZ ss ts):=by
    have:=dg (ts.drop (i+1)) (aZ ss (ts.take (i+1)))
    unfold aZ at this ⊢
    rw[<-aa1,List.take_append_drop] at this
    exact this
   have CW:aE (bT H l n) H2:=k2.trans aS
   obtain⟨VJ,KZ,OX,u1,u2,u3,u4,u5,u6,u7,u8⟩:=id EZ
   dsimp only[G_]
   simp_all only[cK,pP,vW,kT]
   refine⟨_,_,aS _ _ u1,O6,_,_,CW _ _ h1,Bg,g,co.mono CW,gg,st.1,st.2,uV.mono CW,_,_,r.ds,r.to,rd.mono CW,q2,q1,ln,_,gq,ak,λa b H5 s5 na nb e1 e2=>?_⟩
   have Lf:a≠l:=λz=>by rw[z,u3] at na;cases na
   have Il:a≠n:=λz=>by rw[z,u5] at na;cases na
   have Dx:b≠l:=λz=>by rw[z,u3] at nb;cases nb
   have Im:b≠n:=λz=>by rw[z,u5] at nb;cases nb
   have O7:Fr b:=fr b (by
    cases h0:H b with
    | none=>rfl
    | some o=>rw[CW _ _ (by rw[b9 Dx Im];exact h0)] at nb;cases nb)
   have O8:AO Fr (bT H5 l n) (.ref a) gq (r.ds.foldl (fI g.cs 0) st.2):=⟨a,b,rfl,by rw[b9 Lf Il];exact e1,by rw[b9 Dx Im];exact e2,O7⟩
   have O9:(r.ds.foldl (fI g.cs 0) st.2).length<=100:=by rw[fC,ln];exact gg.lc
   refine⟨Fr,l,n,_,EZ.mono s5,(gq,_),O8,ht,O9,λxN full H6 s6=>kM ?_ _ (k2.trans (bF (s5.trans s6))),λ_ H6 s6 Pa=>y1 _ _ _ ⟨k2.trans ((bF s5).trans s6),by rw[ea];exact Pa,s6 _ _ (bF s5 _ _ MO),?_,_,rfl⟩⟩
   ·refine aat ?_ ah.len
    rw[ea]
    unfold fJ
    rw[if_neg xN,aan,full,aay]
    decide
   ·by_cases c:120< (aZ ss ts).length
    ·exact .inl c
    ·refine .inr ?_
     have mem:(gq,r.ds.foldl (fI g.cs 0) st.2)∈aZ ss (ts.take (i+1)):=by rw[ea];exact qq _ _
     rw[Nf.resolve_left c,tk,aaz,aae,List.map_nil,(ah.trans (tf (by omega))).idx mem,ea,qr]
  ·intro ys σ H2 A0 D OP AZ
   refine(?_:let G_:Prop:=_;G_)
   intro G_
   obtain⟨k2,EZ,MO,Nf,z,rfl⟩:=A0
   rw[<-yp,<-tl,aaE (aaf _)] at EZ Nf
   obtain⟨VJ,KZ,OX,u1,u2,u3,u4,u5,u6,u7,u8⟩:=id EZ
   dsimp only[G_]
   have le:(aZ ss ts).length<=120:=u8
   rw[Nf.resolve_left (by omega)]
   have Dl:D≠l:=λz=>by rw[z,u3] at AZ;cases AZ
   have Dn:D≠n:=λz=>by rw[z,u5] at AZ;cases AZ
   exact kk le D _ (k2.trans (bF (aj AZ))) (EZ.mono (aj AZ)) (none_of s1 OP) (by rw[b9 Dl Dn,ar])
theorem fP:bo ["self","state"] ["self","state"] (aw (inClass (top 36) 8)):=⟨rfl,rfl,rfl,by decide +kernel,rfl,by decide +kernel,by decide +kernel⟩
theorem wC {a b c d e:V}:List.lookup (Str.ofString "tables") [(Str.ofString "spots",a),(Str.ofString "mosts",b),(Str.ofString "first",c),(Str.ofString "whats",d),(Str.ofString "tables",e)]=some e:=by
 rw[du (by decide +kernel),du (by decide +kernel),du (by decide +kernel),du (by decide +kernel)];exact aaU
theorem Io (T:Txt K mg aK aL aG aY ag aD):b5 P w K mg base (bO P w) 7 ag "table_at" ["self","state"] (CD ag):=by
 have bR:b5 P w K mg base (bO P w) 1 ag "what_at" ["self","state"] (ig ag):=qG T
 have uL:cS P w K mg base (bO P w) 6 "pool_table" ["pool"] HI:=KR T
 refine T.kK.eO (λ_ _ _ _ _ _ us hl=>match us,hl with | [_,_],_=>rfl) λf fd F=>F.gu fP (λvs H Q E h=>?_) (λbZ A outer s H vs Q E hr h=>?_)
 ·obtain⟨_,_,_,_,_,_,_,_,_,_,_,rfl,_⟩:=h;rfl
 ·refine(?_:let G_:Prop:=_;G_)
  intro G_
  obtain⟨c,sv,g,nm,ns,tb,kvs,ps,t,b,rs,rfl,co,st,oN,VP,lk,gl,l4,kF,kN⟩:=h
  dsimp only[G_]
  have nd:=fP.nd
  refine⟨_,(ai (bG (tL (mQ (dt hr) (aB az (pv 1) ae (λ_ _=>rfl)) (b6 (pv 0) rfl))) (aA (lN (dt hr) (b6 (pv 0) rfl) (aB az (pv 1) ae (λ_ _=>rfl)) (br uL (hr.mono (by decide)) rfl aM.pass (aa (aB az (c7 bR T.aR (pv 0) (hr.mono (by decide)) aM.pass (aa (pv 1) af (se rfl)) (hst:=se rfl) (hpl:=na rfl)) ae (λ_ _=>rfl)) af (se rfl)) (he:=se rfl) (hpl:=na rfl)) rfl))
   bj)
  (aA (bf (dk (dt hr) (b6 (pv 0) rfl) (aB az (pv 1) ae (λ_ _=>rfl)) (λ_ _=>rfl))))),?_⟩
  have sl:=sizeLine_eq
  refine(?_:let G_:Prop:=_;G_)
  intro G_
  obtain⟨dx,sp,mo,wh,us,CQ,h1,h2,h3,h4,h5,h6⟩:=id co
  obtain⟨sa,cl,rfl,sM,iC⟩:=id st
  dsimp only[G_]
  have Jj:=bE _ _ h1
  have lp:∀{a b c d e:V},List.lookup (Str.ofString "what_at") [(Str.ofString "spots",a),(Str.ofString "mosts",b),(Str.ofString "first",c),(Str.ofString "whats",d),(Str.ofString "tables",e)]=none:=dP (by decide +kernel) (by decide +kernel) (by decide +kernel) (by decide +kernel) (by decide +kernel)
  cases hv:df kvs (Sum.inr nm) with
  | some v=>
   simp_all only[dR,sM]
   refine⟨_,_,_,Jj,T.aR,T.na_Course_tables,_,wC,_,rfl,_,.inl ⟨kvs,Sum.inr nm,.inl oN,rfl,hv.symm⟩,?_⟩
   rw[if_neg (by simp)]
   exact⟨_,_,_,Jj,T.aR,T.na_Course_tables,_,wC,_,rfl,_,.inl ⟨kvs,Sum.inr nm,.inl oN,rfl,hv.symm⟩,kF v hv⟩
  | none=>
   simp_all only[dR,cK,sM,ig,HI,sDPut]
   refine⟨_,_,_,Jj,T.aR,T.na_Course_tables,_,wC,_,rfl,_,.inl ⟨kvs,Sum.inr nm,.inl oN,rfl,hv.symm⟩,?_⟩
   rw[if_pos (by rfl)]
   refine⟨_,_,Jj,lp,cA H tb,bE,g,co.co,nm,ns,st,_,lk,λu ru=>?_⟩
   refine(?_:let G_:Prop:=_;G_)
   intro G_
   obtain⟨p,x1,x2,x3,x4,rfl,hp,r1,r2,r3,r4⟩:=b7.mp (show Rep _ (.tup _) u from ru)
   obtain⟨a,rfl,pl⟩:=EG r2
   dsimp only[G_]
   refine⟨_,rfl,_,bE _ _ hp,_,rfl,_,rfl,ps,pl.mono bE,gl,l4,λp2 H1 s1 n1 rt=>?_⟩
   have ct:c≠tb:=λz=>by rw[z] at h1;unfold cA at h1;rw[if_pos rfl] at h1;cases h1
   have sat:sa≠tb:=λz=>by rw[z,oN] at sM;cases sM
   refine⟨_,_,_,s1 _ _ Jj,T.aR,T.na_Course_tables,_,wC,_,s1 _ _ sM,_,rfl,_,rfl,_,.inl ⟨kvs,Sum.inr nm,s1 _ _ oN,rfl,by omega,rfl⟩,?_⟩
   rw[lZ hv]
   refine⟨_,_,_,by rw[aF ct];exact s1 _ _ Jj,T.aR,T.na_Course_tables,_,wC,_,by rw[aF sat];exact s1 _ _ sM,_,rfl,_,rfl,_,.inl ⟨_,Sum.inr nm,.inl ar,rfl,?_⟩,kN hv p2 H1 s1 n1 rt⟩
   rw[v9 hv,if_pos rfl]
theorem fQ:bo ["self","state","value","rows"] ["self","state","value"] (aw (inClass (top 36) 7)):=⟨rfl,rfl,rfl,by decide +kernel,rfl,by decide +kernel,by decide +kernel⟩
theorem Lg (T:Txt K mg aK aL aG aY ag aD):b5 P w K mg base (bO P w) 4 ag "by_value" ["self","state","value"] (HN ag):=by
 have bR:b5 P w K mg base (bO P w) 1 ag "what_at" ["self","state"] (ig ag):=qG T
 have eR:b5 P w K mg base (bO P w) 3 ag "by_row" ["self","state","row","value"] (vW ag):=CS T
 refine T.kJ.eO (λ_ _ _ _ _ _ us hl=>match us,hl with | [_,_,_],_=>rfl) λf fd F=>F.gu fQ (λvs H Q E h=>?_) (λbZ A outer s H vs Q E hr h=>?_)
 ·obtain⟨_,_,_,_,_,_,_,_,_,_,_,_,_,rfl,_⟩:=h;rfl
 ·refine(?_:let G_:Prop:=_;G_)
  intro G_
  obtain⟨c,sv,v,g,nm,ns,iG,t,b,rs,r,fu,gq,rfl,co,gg,st,ln,lk,ro,ak,kk⟩:=h
  dsimp only[G_]
  have nd:=fQ.nd
  refine⟨_,(ai (lT (i:=3) rfl nd rfl rfl (N:=["self","state","value","rows"]) (so:=aw (inClass (top 36) 7)) (N':=["row","value"]) (k:=1) (fr:=[2]) rfl rfl ⟨rfl,by decide +kernel,by decide +kernel,by decide +kernel,rfl,by decide +kernel,by decide +kernel⟩ (bx (K:=K) (aB az (c7 bR T.aR (pv 0) (hr.mono (by decide)) aM.pass (aa (pv 1) af (se rfl)) (hst:=se rfl) (hpl:=na rfl)) ae (λ_ _=>rfl))) (λ_ _ _ _ _=>(aT (i:=0) (show(["row","value"]:List Str).Nodup by decide +kernel) rfl (Or.inl rfl))) (λ_ _ _ _ _=>(lS (vg vd vd (aB az (pv 0) ae (λ_ _=>rfl)) (pv 1) (aB az (pv 0) ae (λ_ _=>rfl)))))
   (λ_ _ _ _ _=>(pv 0)))
  (aA (bf (c7 eR T.aR (pv 0) (hr.mono (by decide)) aM.pass (aa (pv 1) (aa (aB aW (pv 3) ae (λ_ _=>rfl)) (aa (pv 2) af (se rfl)) (se rfl)) (se rfl)) (hst:=se rfl) (hpl:=na rfl))))),?_⟩
  have sl:=sizeLine_eq
  refine(?_:let G_:Prop:=_;G_)
  intro G_
  obtain⟨dx,sp,mo,wh,tb,us,CQ,h1,h2,h3,h4,h5,h6⟩:=id co
  obtain⟨sa,cl,rfl,sM,iC⟩:=id st
  obtain⟨g0,g1,g2⟩:=gg.wt _ (eF lk)
  dsimp only[G_]
  have lp:∀{a b c d e:V},List.lookup (Str.ofString "what_at") [(Str.ofString "spots",a),(Str.ofString "mosts",b),(Str.ofString "first",c),(Str.ofString "whats",d),(Str.ofString "tables",e)]=none:=dP (by decide +kernel) (by decide +kernel) (by decide +kernel) (by decide +kernel) (by decide +kernel)
  have Bg:∀{a b c d e:V},List.lookup (Str.ofString "by_row") [(Str.ofString "spots",a),(Str.ofString "mosts",b),(Str.ofString "first",c),(Str.ofString "whats",d),(Str.ofString "tables",e)]=none:=dP (by decide +kernel) (by decide +kernel) (by decide +kernel) (by decide +kernel) (by decide +kernel)
  change tSeq _ _ _ _ _
  refine bb (λN=>∀H1,aE H H1->∀p xs,H1 p=some (.lst xs)->bq H (((rs.filter λr=>decide (r.1<=v) && decide (v<=r.2.1)).map Ez).map ie) xs->N [some (.ref c),some (.ref sa),some (.int v),some (.ref p)] H1) ?_ (λN hN=>?_)
  case refine_2=>
   simp_all only[cK,ig]
   refine⟨_,_,h1,lp,H,aE.refl _,g,co,nm,ns,st,_,lk,λu ru=>?_⟩
   refine(?_:let G_:Prop:=_;G_)
   intro G_
   obtain⟨p,x1,x2,x3,x4,rfl,hp,r1,r2,r3,r4⟩:=b7.mp (show Rep H (.tup _) u from ru)
   obtain⟨rl,xs,rfl,wu,wz⟩:=aO.mp r4
   dsimp only[G_]
   have len:=wz.length
   rw[aac,aac] at len
   have zl:(xs.zip rs).length=xs.length:=by rw[List.length_zip];omega
   refine⟨_,rfl,_,hp,_,rfl,_,rfl,⟨_,bN.of wu⟩,?_⟩
   have S:Src (IW K rl) (aE H) xs.length _:=src_list (λH' s'=>bN.of (s' _ _ wu))
   rw[<-zl] at S
   refine mW (xs.zip rs) (λx=>if (decide (x.2.1<=v) && decide (v<=x.2.2.1))=true then some x.1 else none) S (λ_ _ _ _ h=>h.1) (by omega) ?_ ?_
   ·rintro i ⟨x,r'⟩ y K5 ⟨_,ey⟩ Y N3 y1 y2
    obtain⟨e1,e2⟩:=List.getElem?_zip_eq_some.mp K5
    rw[e1] at ey
    cases ey
    refine(?_:let G_:Prop:=_;G_)
    intro G_
    obtain⟨dd,ed,rd⟩:=wz.get e1
    dsimp only[G_]
    rw[aad,aad,e2] at ed
    cases ed
    refine(?_:let G_:Prop:=_;G_)
    intro G_
    obtain⟨p',a',b',c',d',rfl,CU,q1,q2,q3,q4⟩:=b7.mp (show Rep H (.tup _) x from rd)
    dsimp only[G_]
    rw[show a'=.int r'.1 from aI.mp q1,show b'=.int r'.2.1 from aI.mp q2] at CU
    simp_all only[CU]
    by_cases c1:r'.1<=v
    ·rw[if_pos c1]
     by_cases c2:v<=r'.2.1
     ·rw[if_pos c2];exact y1 _ (if_pos (by simp [c1,c2]))
     ·rw[if_neg c2];exact y2 (if_neg (by simp [c2]))
    ·rw[if_neg c1,if_neg (by decide)];exact y2 (if_neg (by simp [c1]))
   ·intro D n1 n2
    exact hN _ (aj n2) D _ ar (sZ wz)
  rintro H1 s1 p xs hp wz
  have hd:(rs.filter λr=>decide (r.1<=v) && decide (v<=r.2.1)).head?=some r:=by rw[List.head?_filter];exact ro
  obtain⟨rest,er⟩:∃rest,(rs.filter λr=>decide (r.1<=v) && decide (v<=r.2.1))=r::rest:=by
   cases h:rs.filter λr=>decide (r.1<=v) && decide (v<=r.2.1) with
   | nil=>rw[h] at hd;cases hd
   | cons a l=>rw[h] at hd;cases hd;exact⟨l,rfl⟩
  rw[er] at wz
  refine(?_:let G_:Prop:=_;G_)
  intro G_
  obtain⟨y,ys,rfl,ry,_⟩:=aH.mp wz
  have Pb:r∈rs:=List.mem_of_find?_eq_some ro
  obtain⟨q1,q2⟩:=g2 r Pb
  dsimp only[G_]
  simp_all only[cK,vW]
  refine⟨_,_,s1 _ _ h1,Bg,_,hp,_,(bJ rfl:lD (y::ys) ((0:Nat):Int)=_),g,co.mono s1,gg,nm,ns,st.mono s1,_,_,r.2.2.1,r.2.2.2,ry.mono s1,q2,q1,ln,fu,gq,ak,λp' l' H' s' n1 n2 e1 e2=>kk p' l' H' (s1.trans s') (none_of s1 n1) (none_of s1 n2) e1 e2⟩
theorem ki:bo ["course","finder","state","table","ways","value","weight"] ["course","finder","state"] (aw (top 38)):=⟨rfl,rfl,rfl,by decide +kernel,rfl,by decide +kernel,by decide +kernel⟩
theorem Ip (T:Txt K mg aK aL aG aY ag aD):cS P w K mg base (bO P w) 8 "throw_ways" ["course","finder","state"] (CG P w ag aD aG):=by
 have mj:b5 P w K mg base (bO P w) 7 ag "table_at" ["self","state"] (CD ag):=Io T
 have mn:b5 P w K mg base (bO P w) 4 ag "by_value" ["self","state","value"] (HN ag):=Lg T
 have cE:b5 P w K mg base (bO P w) 1 aD "number_of" ["self","state"] (kT P w aD aG):=yo T
 have wD:cS P w K mg base (bO P w) 3 "bottom_of" ["table"] CB:=HX T
 have A3:cS P w K mg base (bO P w) 1 "weighed" ["table","bottom"] HL:=KU T
 refine T.uk.eO (λ_ _ _ _ _ _ us hl=>match us,hl with | [_,_,_],_=>rfl) λf fd F=>F.Fw ki (λvs H Q E h=>?_) (λbZ A outer s H vs Q E hr h=>?_)
 ·obtain⟨_,_,_,_,_,_,_,_,_,_,_,_,_,_,_,_,_,rfl,_⟩:=h;rfl
 ·refine(?_:let G_:Prop:=_;G_)
  intro G_
  obtain⟨c,fa,sv,Fr,l,n,tb,g,ss,st,ts,iG,t,b,rs,SS,m,rfl,co,gg,fi,Lh,Li,fr,uV,ln,lk,go,tf,kM,kk⟩:=h
  dsimp only[G_]
  have nd:=ki.nd
  have AY:A.handled=none:=hr.hd
  refine⟨_,(ai (aP (i:=3) nd rfl (Or.inl rfl) (c7 mj T.aR (pv 0) (hr.mono (by decide)) aM.pass (aa (pv 2) af (se rfl)) (hst:=se rfl) (hpl:=na rfl)))
  (ai (aP (i:=4) nd rfl (Or.inl rfl) (bC af))
  (ai (cQ PassesOwn.leaving rfl (bx (K:=K) (br A3 (hr.mono (by decide)) rfl aM.pass (aa (pv 3) (aa (br wD (hr.mono (by decide)) rfl aM.pass (aa (pv 3) af (se rfl)) (he:=se rfl) (hpl:=na rfl)) af (se rfl)) (se rfl)) (he:=se rfl) (hpl:=na rfl))) (c6 (K:=K) (n:=2) rfl (bu (aT (i:=5) nd rfl (Or.inl rfl)) (bu (aT (i:=6) nd rfl (Or.inl rfl)) cU))) (aA (bX (dr aas aaG aaH cb.r (pv 4) (aa (aQ (aa (pv 6) (aa (c7 cE T.bU (pv 1) (hr.mono (by decide)) lP (aa (c7 mn T.aR (pv 0) (hr.mono (by decide)) aM.pass (aa (pv 2) (aa (pv 5) af (se rfl)) (se rfl)) (hst:=se rfl) (hpl:=na rfl)) af (se rfl)) (hst:=se rfl) (hpl:=na rfl)) af (se rfl)) (se rfl))) af (se rfl))))))
  (aA (bf (pv 4)))))),?_⟩
  refine(?_:let cB:TS:=_;let cC:TS:=_;let cD:TS:=_;let dE:TS:=_;tSeq cB (tSeq cC (tSeq cD dE)) _ _ _)
  intro cB cC cD dE
  have sl:=sizeLine_eq
  unfold cG at go
  rw[lk] at go
  refine(?_:let G_:Prop:=_;G_)
  intro G_
  obtain⟨ps,B,rfl,gl,l4,YF,tl,al⟩:=go
  obtain⟨dx,sp,mo,wh,us,CQ,h1,h2,h3,h4,h5,h6⟩:=id co
  obtain⟨Ji,VN,VO,f1,f2,f3,f4,f5,f6,f7,f8⟩:=id fi
  obtain⟨sa,cl,rfl,sM,iC⟩:=id uV
  obtain⟨kvs,oN,YG,tabs⟩:=id Lh
  dsimp only[G_]
  have Pc:=AS gl
  have tl1:(kR ps).length<=1296:=Pc.2.2.1
  have lp:∀{a b c d e:V},List.lookup (Str.ofString "table_at") [(Str.ofString "spots",a),(Str.ofString "mosts",b),(Str.ofString "first",c),(Str.ofString "whats",d),(Str.ofString "tables",e)]=none:=dP (by decide +kernel) (by decide +kernel) (by decide +kernel) (by decide +kernel) (by decide +kernel)
  have Bg:∀{a b c d e:V},List.lookup (Str.ofString "by_value") [(Str.ofString "spots",a),(Str.ofString "mosts",b),(Str.ofString "first",c),(Str.ofString "whats",d),(Str.ofString "tables",e)]=none:=dP (by decide +kernel) (by decide +kernel) (by decide +kernel) (by decide +kernel) (by decide +kernel)
  have O6:∀{a b:V},List.lookup (Str.ofString "number_of") [(Str.ofString "states",a),(Str.ofString "numbers",b)]=none:=yb (by decide +kernel) (by decide +kernel)
  change tSeq _ _ _ _ _
  refine bb (λN=>∀H1 u,aE (ck H l n tb) (ck H1 l n tb)->kP P w aD Fr H1 fa l n ss->AU H1 (ck H1 l n tb) tb g (m+1) Fr->(∀a,H1 a=none->H a=none)->Rep (ck H1 l n tb) (j3 (kR ps)) u->N [some (.ref c),some (.ref fa),some (.ref sa),some u,none,none,none] H1) ?_ (λN hN=>?_)
  case refine_2=>
   simp_all only[cK,CD]
   refine⟨_,_,cy _ _ h1,lp,g,st.1,st.2,tb,co.mono Cw,uV.mono cy,kvs,oN,by omega,ps,t,b,rs,lk,gl,l4,λv hv=>?_,λhv p H1 s1 np rt=>?_⟩
   ·refine(?_:let G_:Prop:=_;G_)
    intro G_
    obtain⟨FY,t',b',FZ,wZ,_,rep⟩:=tabs _ _ hv
    dsimp only[G_]
    rw[lk] at wZ
    injection wZ with wZ
    injection wZ with wZ _ _ _
    rw[<-uy wZ] at rep
    exact hN _ v (aE.refl _) fi (Lh.mono (aE.refl _) (by omega)) (λ_ h=>h) rep
   ·have sT:aE (cA H tb) (cA (upd H1 tb (.dK (kvs++ [(Sum.inr st.1,V.ref p)]))) tb):=by rw[dD];exact bM s1
    have s3:=EF (l:=l) (n:=n) sT
    have kt:∀a vs,H1 a=some (.tup vs)->ck (upd H1 tb (.dK (kvs++ [(Sum.inr st.1,V.ref p)]))) l n tb a=some (.tup vs):=λa vs e=>by
     have e1:a≠l:=λz=>by rw[z,s1 _ _ f3] at e;cases e
     have e2:a≠n:=λz=>by rw[z,s1 _ _ f5] at e;cases e
     have e3:a≠tb:=λz=>by rw[z,s1 _ _ oN] at e;cases e
     rw[cF e1 e2 e3,aF e3]
     exact e
    have kp:∀o,H1 p=some o->ck (upd H1 tb (.dK (kvs++ [(Sum.inr st.1,V.ref p)]))) l n tb p=some o:=λo e=>by
     have e1:p≠l:=λz=>by rw[z,f3] at np;cases np
     have e2:p≠n:=λz=>by rw[z,f5] at np;cases np
     have e3:p≠tb:=λz=>by rw[z,oN] at np;cases np
     rw[cF e1 e2 e3,aF e3]
     exact e
    have VQ:=zI rt kp kt
    refine hN _ (.ref p) s3 (fi.tb sT oN) ⟨_,ar,by rw[aan,aay];omega,λnm v e=>?_⟩ (λa ha=>?_) VQ
    ·rw[v9 hv] at e
     by_cases z:(Sum.inr st.1:Key)=Sum.inr nm
     ·rw[if_pos z] at e
      injection z with z
      injection e with e
      subst e
      exact⟨ps,t,b,rs,z▸lk,⟨p,rfl,fr p np⟩,VQ⟩
     ·rw[if_neg z] at e
      refine(?_:let G_:Prop:=_;G_)
      intro G_
      obtain⟨FY,t',b',FZ,a1,fp,a2⟩:=tabs nm v e
      dsimp only[G_]
      exact⟨FY,t',b',FZ,a1,fp,a2.mono s3⟩
    ·have z:a≠tb:=λz=>by rw[z,ar] at ha;cases ha
     rw[aF z] at ha
     exact none_of s1 ha
  rintro H1 u s1 F0 Ng VR ru
  refine(?_:let G_:Prop:=_;G_)
  intro G_
  obtain⟨E1,ix,Pd,Lj⟩:=id Ng
  obtain⟨dxg,VS,VT,g1,g2,g3,g4,g5,g6,g7,g8⟩:=id F0
  dsimp only[G_]
  change tSeq _ _ _ _ _
  refine bb (λN=>∀H2,aE H1 H2->∀w',H1 w'=none->H2 w'=some (.lst [])->N [some (.ref c),some (.ref fa),some (.ref sa),some u,some (.ref w'),none,none] H2) ?_ (λN hN=>?_)
  case refine_2=>
   simp_all only[]
   exact⟨aak _,λw' nw=>hN _ (aj nw) w' nw ar⟩
  rintro H2 s2 w' nw F1
  simp_all only[CB,HL]
  refine⟨_,(ru.mono cy).mono s2,_,Pc,λB' H3 s3 Lk=>?_⟩
  have eB:=vZ Lk YF
  subst eB
  refine⟨_,(ru.mono cy).mono (s2.trans s3),_,Pc,Lk,λwl H4 s4 CY r4=>?_⟩
  have Jk:aE H1 H4:=s2.trans (s3.trans s4)
  have Iq:aE H1 H3:=s2.trans s3
  have Pe:w'≠l:=λz=>by rw[z,g3] at nw;cases nw
  have VU:w'≠n:=λz=>by rw[z,g5] at nw;cases nw
  have VW:w'≠tb:=λz=>by rw[z,ix] at nw;cases nw
  have VX:H4 w'=some (.lst []):=(s3.trans s4) _ _ F1
  let X:Hp->Hp:=λH'=>cA (ck H' l n tb) w'
  have E2:∀{H':Hp} {a:Addr},a≠l->a≠n->a≠tb->a≠w'->X H' a=H' a:=λh1 h2 h3 h4=>by
   show cA (ck _ l n tb) w' _=_
   rw[bw h4,cF h1 h2 h3]
  have VY:∀{H':Hp} {a:Addr} {o:HO},X H' a=some o->a≠l/\a≠n/\a≠tb/\a≠w':=λ{H' a o} e=>by
   have h4:a≠w':=λz=>by
    have e:(if a=w' then none else ck H' l n tb a)=some o:=e
    rw[if_pos z] at e
    cases e
   have e:cA (ck H' l n tb) w' a=some o:=e
   rw[bw h4] at e
   refine(?_:let G_:Prop:=_;G_)
   intro G_
   obtain⟨h1,h2,h3⟩:=fK e
   dsimp only[G_]
   exact⟨h1,h2,h3,h4⟩
  have CZ:∀{H':Hp},aE (X H') H':=bE.trans cy
  have Ll:aE (ck H1 l n tb) (X H4):=λa o e=>by
   refine(?_:let G_:Prop:=_;G_)
   intro G_
   obtain⟨e1,e2,e3⟩:=fK e
   dsimp only[G_]
   rw[cF e1 e2 e3] at e
   rw[E2 e1 e2 e3 (λz=>by rw[z,nw] at e;cases e)]
   exact Jk _ _ e
  have YH:Rep (X H4) (iE (Nm.weigh (kR ps) B')) (.ref wl):=by
   refine CA r4 (λo e=>?_) λa vs e=>?_
   ·rw[E2 (λz=>by rw[z,Iq _ _ g3] at CY;cases CY) (λz=>by rw[z,Iq _ _ g5] at CY;cases CY) (λz=>by rw[z,Iq _ _ ix] at CY;cases CY) (λz=>by rw[z,s3 _ _ F1] at CY;cases CY)]
    exact e
   ·rw[E2 (λz=>by rw[z,Jk _ _ g3] at e;cases e) (λz=>by rw[z,Jk _ _ g5] at e;cases e) (λz=>by rw[z,Jk _ _ ix] at e;cases e) (λz=>by rw[z,VX] at e;cases e)]
    exact e
  refine(?_:let G_:Prop:=_;G_)
  intro G_
  obtain⟨_,zs,ez,xJ,rz⟩:=aO.mp YH
  dsimp only[G_]
  cases ez
  have zl:=rz.length
  rw[aac] at zl
  have Pf:(Nm.weigh (kR ps) B').length=(kR ps).length:=by unfold Nm.weigh;rw[aac]
  let Hy:Addr->Prop:=λa=>Fr a/\a≠w'
  refine⟨⟨_,bN.of (CZ _ _ xJ)⟩,cu (src_list (Ok:=λH'=>X H' wl=some (.lst zs)) (λH' k=>bN.of (CZ _ _ k))) (λi σ H'=>aE (X H4) (X H')/\kP P w aD Hy H' fa l n (aZ ss (dX (ts.take i)))/\H' tb=some (.dK E1)/\(∃xs,H' w'=some (.lst xs)/\xs.length=i/\(120< (aZ ss (dX ts)).length\/bq (X H') ((ts.take i).map (Cy SS)) xs))/\∃z1 z2,σ=[some (.ref c),some (.ref fa),some (.ref sa),some u,some (.ref w'),z1,z2]) ⟨aE.refl _,(F0.fr λa o ha h0=>⟨h0,(λz=>by rw[z,nw] at ha;cases ha)⟩).mono Jk,Jk _ _ ix,⟨[],VX,rfl,.inr (ba.mpr rfl)⟩,_,_,rfl⟩ (λ_ _ _ _ h=>h.1 _ _ xJ) ?_ ?_⟩
  ·intro i x σ H6 H5 hi hW fU
   refine(?_:let G_:Prop:=_;G_)
   intro G_
   obtain⟨sX,A4,wF,⟨xs,Lm,xl,rx⟩,z1,z2,rfl⟩:=hW
   obtain⟨rfl,ex⟩:=fU
   obtain⟨dd,ed,rd⟩:=rz.get ex
   rw[aad] at ed
   obtain⟨x0,e0,rfl⟩:=Option.map_eq_some_iff.mp ed
   obtain⟨q,rfl,hq⟩:=dB.mp rd
   obtain⟨r,s',ro,et,gt,uR⟩:=al i x0 e0
   dsimp only[G_]
   unfold OI at gt
   refine(?_:let G_:Prop:=_;G_)
   intro G_
   obtain⟨gq,ak,e9⟩:=Option.map_eq_some_iff.mp gt
   subst e9
   have Ir:aE (X H4) H5:=sX.trans CZ
   have Dy:aE (ck H l n tb) H5:=s1.trans (Ll.trans Ir)
   obtain⟨dx5,xs5,ks5,u1,u2,u3,u4,u5,u6,u7,u8⟩:=id A4
   dsimp only[G_]
   have tk:ts.take (i+1)=ts.take i++ [(x0.2,(gq,r.2.2.1.foldl (fI g.cs x0.1) st.2))]:=by rw[aaF,et];rfl
   have ea:aZ ss (dX (ts.take (i+1)))=fJ (aZ ss (dX (ts.take i))) (gq,r.2.2.1.foldl (fI g.cs x0.1) st.2):=by
    rw[tk]
    unfold aZ dX
    rw[aaz,aa1]
    rfl
   have ah:oZ (aZ ss (dX (ts.take (i+1)))) (aZ ss (dX ts)):=by
    have:=dg (dX (ts.drop (i+1))) (aZ ss (dX (ts.take (i+1))))
    unfold aZ dX at this ⊢
    rw[<-aa1,<-aaz,List.take_append_drop] at this
    exact this
   have ty:DW K "list" (.ref w') H5:=.inl ⟨rfl,_,bN.of Lm⟩
   refine⟨q,_,rfl,hX.of (Ir _ _ hq),rfl,?_⟩
   have F2:∀{H':Hp} {o:HO},X (upd H' w' o)=X H':=λ{H' o}=>by
    funext a
    show(if a=w' then none else (if a=tb then none else if a=n then none else if a=l then none else upd H' w' o a))=if a=w' then none else (if a=tb then none else if a=n then none else if a=l then none else H' a)
    by_cases z:a=w'
    ·rw[if_pos z,if_pos z]
    ·rw[if_neg z,if_neg z,aF z]
   have yw:∀{H' wX:Hp},aE H' wX->aE (X H') (X wX):=λs=>bM (bM (bF s))
   simp_all only[cK,HN,kT,cV]
   refine⟨ty,_,_,aS _ _ u1,O6,_,_,Dy _ _ h1,Bg,g,(co.mono Dy).co,gg,st.1,st.2,uV.mono Dy,ln,_,_,_,_,lk,r,ro,_,gq,ak,λa b' H7 s7 na nb e1 e2=>?_⟩
   have Lf:a≠l:=λz=>by rw[z,u3] at na;cases na
   have Il:a≠n:=λz=>by rw[z,u5] at na;cases na
   have Dx:b'≠l:=λz=>by rw[z,u3] at nb;cases nb
   have Im:b'≠n:=λz=>by rw[z,u5] at nb;cases nb
   have YI:b'≠tb:=λz=>by rw[z,wF] at nb;cases nb
   have YJ:b'≠w':=λz=>by rw[z,Lm] at nb;cases nb
   have O7:Hy b':=⟨fr b' (VR b' (by
    cases h0:H1 b' with
    | none=>rfl
    | some o=>rw[(Ll.trans Ir) _ _ (by rw[cF Dx Im YI];exact h0)] at nb;cases nb)),YJ⟩
   have O8:AO Hy (bT H7 l n) (.ref a) gq (r.2.2.1.foldl (fI g.cs x0.1) st.2):=⟨a,b',rfl,by rw[b9 Lf Il];exact e1,by rw[b9 Dx Im];exact e2,O7⟩
   have O9:(r.2.2.1.foldl (fI g.cs x0.1) st.2).length<=100:=by rw[fC,ln];exact gg.lc
   refine⟨Hy,l,n,_,A4.mono s7,(gq,_),O8,uR,O9,λxN full H8 s8=>kM ?_ _ (s1.trans (Ll.trans (sX.trans ((yw (s7.trans s8)).trans bE)))),λ_ H8 s8 VZ=>⟨by omega,λe H9 s9 ne ee=>?_⟩⟩
   ·refine aat ?_ ah.len
    rw[ea]
    unfold fJ
    rw[if_neg xN,aan,full,aay]
    decide
   have yW:tb≠l:=λz=>by rw[z,g3] at ix;cases ix
   have Ln:tb≠n:=λz=>by rw[z,g5] at ix;cases ix
   have Lo:H8 tb=some (.dK E1):=aS _ _ (s8 _ _ (by rw[b9 yW Ln];exact s7 _ _ wF))
   have Pg:H8 w'=some (.lst xs):=aS _ _ (s8 _ _ (by rw[b9 Pe VU];exact s7 _ _ Lm))
   refine(?_:let G_:Prop:=_;G_)
   intro G_
   obtain⟨dx8,xs8,ks8,v1,v2,v3,v4,v5,v6,v7,v8⟩:=id VZ
   dsimp only[G_]
   have V0:aE (X H5) (X H9):=(yw s7).trans ((bM (bM s8)).trans (yw s9))
   have mem:(gq,r.2.2.1.foldl (fI g.cs x0.1) st.2)∈aZ ss (dX (ts.take (i+1))):=by rw[ea];exact qq _ _
   have Ph:¬120< (aZ ss (dX ts)).length->SS.idxOf (gq,r.2.2.1.foldl (fI g.cs x0.1) st.2)=(aZ ss (dX (ts.take i))).idxOf (gq,r.2.2.1.foldl (fI g.cs x0.1) st.2):=λc=>by rw[(ah.trans (tf (by omega))).idx mem,ea,qr]
   refine⟨_,s9 _ _ Pg,by omega,by change aE (X _) (X _);rw[F2];exact sX.trans V0,by rw[ea];exact(VZ.mono s9).Kq (λa h=>h.2) (s9 _ _ Pg) Pe,by rw[aF (Ne.symm VW)];exact s9 _ _ Lo,⟨_,ar,by rw[aan,xl];rfl,?_⟩,_,rfl⟩
   by_cases c:120< (aZ ss (dX ts)).length
   ·exact .inl c
   refine .inr ?_
   change bq (X _) _ _
   rw[F2,tk,aaz]
   refine((rx.resolve_left c).mono V0).append (aH.mpr ⟨_,_,rfl,aV.mpr ⟨e,_,_,rfl,?_,aI.mpr rfl,aI.mpr (by rw[Ph c])⟩,ba.mpr rfl⟩)
   rw[E2 (λz=>by rw[z,v3] at ne;cases ne) (λz=>by rw[z,v5] at ne;cases ne) (λz=>by rw[z,Lo] at ne;cases ne) (λz=>by rw[z,Pg] at ne;cases ne)]
   exact ee
  ·intro σ H5 eQ
   refine(?_:let G_:Prop:=_;G_)
   intro G_
   obtain⟨sX,A4,wF,⟨xs,Lm,xl,rx⟩,z1,z2,rfl⟩:=eQ
   dsimp only[G_]
   rw[<-zl,Pf,<-tl,aaE (aaf _)] at A4 rx
   have le:(aZ ss (dX ts)).length<=120:=by obtain⟨_,_,_,_,_,_,_,_,_,_,u8⟩:=id A4;exact u8
   have rx:=rx.resolve_left (by omega)
   simp_all only[]
   refine kk le w' H5 (s1.trans (Ll.trans (sX.trans bE))) (A4.fr λa o _ h=>h.1) ?_ (VR _ nw) (aO.mpr ⟨w',xs,rfl,by rw[cF Pe VU VW];exact Lm,rx.mono bE⟩)
   exact⟨E1,wF,Pd,λnm v e=>by obtain⟨FY,t',b',FZ,a1,fp,a2⟩:=Lj nm v e;exact⟨FY,t',b',FZ,a1,fp,a2.mono (Ll.trans (sX.trans bE))⟩⟩
theorem oO:bo ["course","finder","state","what"] ["course","finder","state"] (aw (top 40)):=⟨rfl,rfl,rfl,by decide +kernel,rfl,by decide +kernel,by decide +kernel⟩
theorem Lp (T:Txt K mg aK aL aG aY ag aD):cS P w K mg base (bO P w) 9 "taken_up" ["course","finder","state"] (zK P w ag aD aY aG):=by
 have bR:b5 P w K mg base (bO P w) 1 ag "what_at" ["self","state"] (ig ag):=qG T
 have kZ:b5 P w K mg base (bO P w) 2 ag "end_worth" ["self","state"] (zD ag):=Ie T
 have wG:cS P w K mg base (bO P w) 4 "pick_ways" ["course","finder","state"] (zJ P w ag aD aY aG):=Ij T
 have uM:cS P w K mg base (bO P w) 8 "throw_ways" ["course","finder","state"] (CG P w ag aD aG):=Ip T
 refine T.x9.eO (λ_ _ _ _ _ _ us hl=>match us,hl with | [_,_,_],_=>rfl) λf fd F=>F.Fw oO (λvs H Q E h=>?_) (λbZ A outer s H vs Q E hr h=>?_)
 ·obtain⟨_,_,_,_,_,_,_,_,_,_,_,rfl,_⟩:=h;rfl
 ·refine(?_:let G_:Prop:=_;G_)
  intro G_
  obtain⟨c,fa,sv,Fr,l,n,tb,g,ss,st,m,rfl,F3,gg,fi,Lh,Li,fr,Lq,ln,kE,kQ⟩:=h
  dsimp only[G_]
  have co:uS ag (bT H l n) c g:=(F3.mono bE).co
  have uV:wU (bT H l n) sv st.1 st.2:=Lq.mono bE
  have nd:=oO.nd
  have AY:A.handled=none:=hr.hd
  refine⟨_,(ai (aP (i:=3) nd rfl (Or.inl rfl) (c7 bR T.aR (pv 0) (hr.mono (by decide)) aM.pass (aa (pv 2) af (se rfl)) (hst:=se rfl) (hpl:=na rfl)))
  (ai (bG (aN bW (aB az (pv 3) ae (λ_ _=>rfl)) aJ (aU _)) (aA (bf (aQ (aa aJ (aa (aB az (pv 3) ae (λ_ _=>rfl)) (aa (br uM (hr.mono (by decide)) rfl lP (aa (pv 0) (aa (pv 1) (aa (pv 2) af (se rfl)) (se rfl)) (se rfl)) (he:=se rfl) (hpl:=na rfl)) af (se rfl)) (se rfl)) (se rfl)))))
   bj)
  (ai (bG (aN bW (aB az (pv 3) ae (λ_ _=>rfl)) aJ (aU _)) (aA (bf (aQ (aa aJ (aa (aB az (pv 3) ae (λ_ _=>rfl)) (aa (br wG (hr.mono (by decide)) rfl lP (aa (pv 0) (aa (pv 1) (aa (pv 2) af (se rfl)) (se rfl)) (se rfl)) (he:=se rfl) (hpl:=na rfl)) af (se rfl)) (se rfl)) (se rfl)))))
   bj)
  (aA (bf (aQ (aa aJ (aa (c7 kZ T.aR (pv 0) (hr.mono (by decide)) aM.pass (aa (pv 2) af (se rfl)) (hst:=se rfl) (hpl:=na rfl)) af (se rfl)) (se rfl)))))))),?_⟩
  refine(?_:let cB:TS:=_;let cC:TS:=_;let cD:TS:=_;let dE:TS:=_;tSeq cB (tSeq cC (tSeq cD dE)) _ _ _)
  intro cB cC cD dE
  have sl:=sizeLine_eq
  refine(?_:let G_:Prop:=_;G_)
  intro G_
  obtain⟨kvs,oN,YG,tabs⟩:=id Lh
  obtain⟨dx,sp,mo,wh,tb0,us,CQ,h1,h2,h3,h4,h5,h6⟩:=id co
  obtain⟨Ji,VN,VO,f1,f2,f3,f4,f5,f6,f7,f8⟩:=id fi
  obtain⟨sa,cl,rfl,sM,iC⟩:=id uV
  dsimp only[G_]
  have yW:tb≠l:=λz=>by rw[z,f3] at oN;cases oN
  have Ln:tb≠n:=λz=>by rw[z,f5] at oN;cases oN
  have F4:∀{H':Hp},aE (bT H l n) (bT H' l n)->AU H' (ck H' l n tb) tb g (m+1) Fr:=λ{H'} s=>⟨kvs,aS _ _ (s _ _ (by rw[b9 yW Ln];exact oN)),by omega,λnm v e=>by obtain⟨FY,t',b',FZ,a1,fp,a2⟩:=tabs nm v e;exact⟨FY,t',b',FZ,a1,fp,a2.mono (bM s)⟩⟩
  by_cases sk:qw g st
  case pos=>
   have YK:∀{a b c d e:V},List.lookup (Str.ofString "what_at") [(Str.ofString "spots",a),(Str.ofString "mosts",b),(Str.ofString "first",c),(Str.ofString "whats",d),(Str.ofString "tables",e)]=none:=dP (by decide +kernel) (by decide +kernel) (by decide +kernel) (by decide +kernel) (by decide +kernel)
   refine(?_:let G_:Prop:=_;G_)
   intro G_
   obtain⟨wo,rs,lk,ne⟩:=id sk
   dsimp only[G_]
   change tSeq _ _ _ _ _
   refine bb (λN=>∀u,Rep (bT H l n) (ph (.pick wo rs)) u->N [some (.ref c),some (.ref fa),some (.ref sa),some u] H) ?_ (λN hN=>?_)
   case refine_2=>
    simp_all only[cK,ig]
    exact⟨_,_,aS _ _ h1,YK,bT H l n,aS,g,co,st.1,st.2,uV.mono aS,_,lk,λu ru=>hN u ru⟩
   rintro u ru
   refine(?_:let G_:Prop:=_;G_)
   intro G_
   obtain⟨p,x1,x2,x3,rfl,hp,r1,r2,r3⟩:=bD.mp (show Rep _ (.tup _) u from ru)
   rw[ao] at r1
   rw[aI] at r2
   subst r1 r2
   dsimp only[G_]
   simp_all only[aS _ _ hp,zJ]
   rw[if_neg (by decide +kernel)]
   exact⟨Fr,l,n,g,co,gg,ss,fi,fr,st,uV,ln,wo,rs,lk,λ_=>kE sk,λz=>absurd ne z⟩
  refine(?_:let G_:Prop:=_;G_)
  intro G_
  obtain⟨ts,SS,go,tf,kM,kk⟩:=kQ sk
  dsimp only[G_]
  have YL:=go
  unfold cG at go
  have lp:∀{a b c d e:V},List.lookup (Str.ofString "what_at") [(Str.ofString "spots",a),(Str.ofString "mosts",b),(Str.ofString "first",c),(Str.ofString "whats",d),(Str.ofString "tables",e)]=none:=dP (by decide +kernel) (by decide +kernel) (by decide +kernel) (by decide +kernel) (by decide +kernel)
  have Bg:∀{a b c d e:V},List.lookup (Str.ofString "end_worth") [(Str.ofString "spots",a),(Str.ofString "mosts",b),(Str.ofString "first",c),(Str.ofString "whats",d),(Str.ofString "tables",e)]=none:=dP (by decide +kernel) (by decide +kernel) (by decide +kernel) (by decide +kernel) (by decide +kernel)
  have Lr:∀x t b,look g.ps st.1=some x->ts=[]->EA g.cs st.2 x=some (t,b)->(∀wo rs,x≠.pick wo rs)->∀p u H1,aE H H1->H p=none->H1 p=some (.tup [.str (Str.ofString "end"),u])->Rep H1 (.tup [.int t,.int b]) u->Q (.ref p) H1:=by
   intro x t b lk e0 ew np p u H1 s1 n1 e1 r1
   subst e0
   refine kk f8 _ H1 (bM (bF s1)) (fi.mono s1) (F4 (bF s1)) λb' ys hb=>?_
   have rd:hU g SS st []=.tup [.str (Str.ofString "end"),.tup [.int t,.int b]]:=by
    unfold hU uv
    rw[lk]
    cases x with
    | pick wo rs=>exact absurd rfl (np wo rs)
    | fin _ _=>simp only[ew];rfl
    | score _=>simp only[ew];rfl
    | ask _ _ _ _=>cases ew
    | jw _ _ _ _=>cases ew
   rw[rd]
   refine(?_:let G_:Prop:=_;G_)
   intro G_
   obtain⟨q,y1,y2,rfl,hq,z1,z2⟩:=aV.mp r1
   dsimp only[G_]
   have tp:∀a vs,H1 a=some (.tup vs)->cA (ck H1 l n tb) b' a=some (.tup vs):=λa vs ha=>by
    have al:a≠l:=λz=>by rw[z,s1 _ _ f3] at ha;cases ha
    have an:a≠n:=λz=>by rw[z,s1 _ _ f5] at ha;cases ha
    have ab:a≠b':=λz=>by rw[z,s1 _ _ hb] at ha;cases ha
    have at':a≠tb:=λz=>by rw[z,s1 _ _ oN] at ha;cases ha
    rw[bw ab,cF al an at']
    exact ha
   exact⟨aV.mpr ⟨p,_,_,rfl,tp _ _ e1,ao.mpr rfl,aV.mpr ⟨q,y1,y2,rfl,tp _ _ hq,aI.mpr (aI.mp z1),aI.mpr (aI.mp z2)⟩⟩,p,_,rfl,tp _ _ e1,λx y w e=>by simp at e⟩
  cases lk:look g.ps st.1 with
  | none=>rw[lk] at go;exact go.elim
  | some x=>
  rw[lk] at go
  change tSeq _ _ _ _ _
  refine bb (λN=>∀u,Rep (bT H l n) (ph x) u->N [some (.ref c),some (.ref fa),some (.ref sa),some u] H) ?_ (λN hN=>?_)
  case refine_2=>
   simp_all only[cK,ig]
   exact⟨_,_,aS _ _ h1,lp,bT H l n,aS,g,co,st.1,st.2,uV.mono aS,x,lk,λu ru=>hN u ru⟩
  rintro u ru
  cases x with
  | pick wo rs=>
   refine(?_:let G_:Prop:=_;G_)
   intro G_
   obtain⟨p,x1,x2,x3,rfl,hp,r1,r2,r3⟩:=bD.mp (show Rep _ (.tup _) u from ru)
   rw[ao] at r1
   rw[aI] at r2
   subst r1 r2
   dsimp only[G_]
   simp_all only[aS _ _ hp,zJ]
   rw[if_neg (by decide +kernel)]
   refine⟨Fr,l,n,g,co,gg,ss,fi,fr,st,uV,ln,wo,rs,lk,(λz=>absurd ⟨wo,rs,lk,z⟩ sk),λ_=>⟨dX ts,go,SS,tf,λc H1 s1=>kM c _ (bM s1),λle p' H1 s1 F0 CM CU=>⟨by omega,λp2 H2 s2 n2 e2=>kk le _ H2 (bM (s1.trans (bF s2))) (F0.mono s2) (F4 (s1.trans (bF s2))) λb ys hb=>?_⟩⟩⟩
   refine(?_:let G_:Prop:=_;G_)
   intro G_
   obtain⟨YM,VS,VT,u1,u2,u3,u4,u5,u6,u7,u8⟩:=id F0
   dsimp only[G_]
   have rd:hU g SS st ts=.tup [.str (Str.ofString "pick"),.int wo,.lst ((dX ts).map λt=>.int ((SS.idxOf t:Nat):Int))]:=by
    unfold hU uv
    rw[lk]
    rfl
   rw[rd]
   have Iu:∃o,H1 b=some o:=by
    by_cases z:b=l
    ·exact⟨_,z▸u3⟩
    ·exact⟨_,aS _ _ (s1 _ _ (by rw[b9 z (λz=>by rw[z,f5] at hb;cases hb)];exact hb))⟩
   obtain⟨o,Iu⟩:=Iu
   have pb:p'≠b:=λz=>by rw[z,hb] at CM;cases CM
   have Ls:p2≠b:=λz=>by rw[z,Iu] at n2;cases n2
   have Lu:p2≠l:=λz=>by rw[z,u3] at n2;cases n2
   have ix:H1 tb=some (.dK kvs):=aS _ _ (s1 _ _ (by rw[b9 yW Ln];exact oN))
   have Lv:p2≠tb:=λz=>by rw[z,ix] at n2;cases n2
   have pt:p'≠tb:=λz=>by rw[z,oN] at CM;cases CM
   have Lw:p2≠n:=λz=>by rw[z,u5] at n2;cases n2
   refine⟨?_,p2,_,rfl,by rw[bw Ls,cF Lu Lw Lv];exact e2,λx y w e=>by simp only[List.cons.injEq,V.ref.injEq] at e;obtain⟨_,_,e,_⟩:=e;exact e▸CM⟩
   refine bD.mpr ⟨p2,_,_,_,rfl,by rw[bw Ls,cF Lu Lw Lv];exact e2,ao.mpr rfl,aI.mpr rfl,aO.mpr ⟨p',_,rfl,by rw[bw pb];show cA (bT H2 l n) tb p'=_;rw[bw pt];exact bF s2 _ _ CU,?_⟩⟩
   have e:((dX ts).map λt=>V.int ((SS.idxOf t:Nat):Int))=((dX ts).map λt=>((SS.idxOf t:Nat):Int)).map V.int:=by rw[aav];rfl
   have e':((dX ts).map λt=>Dat.int ((SS.idxOf t:Nat):Int))=((dX ts).map λt=>((SS.idxOf t:Nat):Int)).map Dat.int:=by rw[aav];rfl
   rw[e,e']
   exact bq.ints _
  | fin t b=>
   refine(?_:let G_:Prop:=_;G_)
   intro G_
   obtain⟨p,x1,x2,rfl,hp,r1,r2⟩:=aV.mp (show Rep _ (.tup _) u from ru)
   rw[ao] at r1
   subst r1
   dsimp only[G_]
   simp_all only[aS _ _ hp,cK,zD]
   rw[if_neg (by decide +kernel),if_neg (by decide +kernel)]
   refine⟨_,_,aS _ _ h1,Bg,g,co.mono aS,gg,st.1,st.2,uV.mono aS,ln,_,lk,_,_,rfl,λu H1 s1 r1=>⟨by omega,λp2 H2 s2 n2 e2=>Lr _ _ _ lk go rfl (λ_ _ z=>by cases z) p2 u H2 (s1.trans s2) (none_of s1 n2) e2 (r1.mono s2)⟩⟩
  | score cn=>
   refine(?_:let G_:Prop:=_;G_)
   intro G_
   obtain⟨p,x1,x2,rfl,hp,r1,r2⟩:=aV.mp (show Rep _ (.tup _) u from ru)
   rw[ao] at r1
   subst r1
   dsimp only[G_]
   simp_all only[aS _ _ hp,cK,zD]
   rw[if_neg (by decide +kernel),if_neg (by decide +kernel)]
   refine⟨_,_,aS _ _ h1,Bg,g,co.mono aS,gg,st.1,st.2,uV.mono aS,ln,_,lk,_,_,rfl,λu H1 s1 r1=>⟨by omega,λp2 H2 s2 n2 e2=>Lr _ _ _ lk go rfl (λ_ _ z=>by cases z) p2 u H2 (s1.trans s2) (none_of s1 n2) e2 (r1.mono s2)⟩⟩
  | ask _ _ _ _=>exact go.elim
  | jw iG t b rs=>
   refine(?_:let G_:Prop:=_;G_)
   intro G_
   obtain⟨p,x1,x2,x3,x4,rfl,hp,r1,r2,r3,r4⟩:=b7.mp (show Rep _ (.tup _) u from ru)
   rw[ao] at r1
   subst r1
   dsimp only[G_]
   simp_all only[aS _ _ hp,CG]
   refine⟨Fr,l,n,tb,g,F3,gg,ss,fi,st,ts,iG,t,b,rs,SS,m,Lh,Li,fr,Lq,ln,lk,YL,tf,kM,λle p' H1 s1 F0 Ng CM YN=>⟨by omega,λp2 H2 s2 n2 e2=>kk le _ H2 (s1.trans (bM (bF s2))) (F0.mono s2) ((Ng.heap λ_ h=>s2 _ _ h).mono (bM (bF s2)) (aaf _)) λb' ys hb=>?_⟩⟩
   refine(?_:let G_:Prop:=_;G_)
   intro G_
   obtain⟨YM,VS,VT,u1,u2,u3,u4,u5,u6,u7,u8⟩:=id F0
   obtain⟨E1,ix,_,_⟩:=id Ng
   dsimp only[G_]
   have rd:hU g SS st ts=.tup [.str (Str.ofString "throw"),.tup [.int t,.int b],.lst (ts.map (Cy SS))]:=by
    unfold hU
    rw[lk]
   rw[rd]
   have b1:∀{a vs},ck H1 l n tb a=some (.tup vs)->cA (ck H2 l n tb) b' a=some (.tup vs):=λ{a vs} ha=>by
    refine(?_:let G_:Prop:=_;G_)
    intro G_
    obtain⟨e1,e2,e3⟩:=fK ha
    dsimp only[G_]
    have ab:a≠b':=λz=>by
     subst z
     have:=s1 _ _ (by rw[cF e1 e2 e3];exact hb)
     rw[this] at ha
     cases ha
    rw[bw ab]
    exact bM (bF s2) _ _ ha
   have Iu:∃o,H1 b'=some o:=by
    by_cases z:b'=l
    ·exact⟨_,z▸u3⟩
    ·exact⟨_,cy _ _ (s1 _ _ (by rw[cF z (λz=>by rw[z,f5] at hb;cases hb) (λz=>by rw[z,oN] at hb;cases hb)];exact hb))⟩
   obtain⟨o,Iu⟩:=Iu
   have Ls:p2≠b':=λz=>by rw[z,Iu] at n2;cases n2
   have Lu:p2≠l:=λz=>by rw[z,u3] at n2;cases n2
   have Lw:p2≠n:=λz=>by rw[z,u5] at n2;cases n2
   have Lv:p2≠tb:=λz=>by rw[z,ix] at n2;cases n2
   have pb:p'≠b':=λz=>by rw[z,hb] at CM;cases CM
   refine(?_:let G_:Prop:=_;G_)
   intro G_
   obtain⟨pa,y1,y2,rfl,V1,q1,q2⟩:=aV.mp r3
   have Pj:ck H l n tb pa=some (.tup [y1,y2]):=by
    show cA (bT H l n) tb pa=_
    rw[bw (λz=>by have:=aS _ _ V1;rw[z,oN] at this;cases this)]
    exact V1
   obtain⟨p'',zs,ez,CU,rz⟩:=aO.mp YN
   dsimp only[G_]
   cases ez
   refine⟨?_,p2,_,rfl,by rw[bw Ls,cF Lu Lw Lv];exact e2,λx y w e=>by simp only[List.cons.injEq,V.ref.injEq] at e;obtain⟨_,_,e,_⟩:=e;exact e▸CM⟩
   refine bD.mpr ⟨p2,_,_,_,rfl,by rw[bw Ls,cF Lu Lw Lv];exact e2,ao.mpr rfl,aV.mpr ⟨pa,y1,y2,rfl,b1 (s1 _ _ Pj),aI.mpr (aI.mp q1),aI.mpr (aI.mp q2)⟩,aO.mpr ⟨p',zs,rfl,by rw[bw pb];exact bM (bF s2) _ _ CU,bq.of rz.length λi d v ed ev=>?_⟩⟩
   refine(?_:let G_:Prop:=_;G_)
   intro G_
   obtain⟨d',Cz,OQ⟩:=rz.get ev
   dsimp only[G_]
   rw[ed] at Cz
   cases Cz
   rw[aad] at ed
   refine(?_:let G_:Prop:=_;G_)
   intro G_
   obtain⟨x,_,rfl⟩:=Option.map_eq_some_iff.mp ed
   obtain⟨q,a1,a2,rfl,hq,c1,c2⟩:=aV.mp (show Rep _ (.tup _) v from OQ)
   dsimp only[G_]
   exact aV.mpr ⟨q,a1,a2,rfl,b1 hq,aI.mpr (aI.mp c1),aI.mpr (aI.mp c2)⟩
theorem tz:bo ["game","course","finder","board"] ["game"] (aw (top 41)):=⟨rfl,rfl,rfl,by decide +kernel,rfl,by decide +kernel,by decide +kernel⟩
theorem wH {α β:Type} {x:α} {y:β}:∀{as:List α} {bs:List β},as[bs.length]?=some x->as.zip (bs++ [y])=as.zip bs++ [(x,y)]
 | [],_,e=>by simp at e
 | a::as,[],e=>by
  have e:some a=some x:=e
  cases e
  simp
 | a::as,b::bs,e=>by
  rw[List.cons_append,List.zip_cons_cons,List.zip_cons_cons,wH (as:=as) (bs:=bs) (by simpa using e)]
  rfl
theorem V2 {Fr:Addr->Prop} {H:Hp} {l n tb:Addr} {kvs:List (Key×V)} {v:V} {nm:Str} {ns:List Int} (oN:H tb=some (.dK kvs)) (rv:AO Fr (bT H l n) v nm ns):wU (ck H l n tb) v nm ns:=by
 obtain⟨a,cc,e,q1,q2,q3⟩:=rv
 refine⟨a,cc,e,?_,?_⟩
 ·show cA (bT H l n) tb a=_
  rw[bw (λz=>by have:=aS _ _ q1;rw[z,oN] at this;cases this)]
  exact q1
 ·show cA (bT H l n) tb cc=_
  rw[bw (λz=>by have:=aS _ _ q2;rw[z,oN] at this;cases this)]
  exact q2
theorem Iv (T:Txt K mg aK aL aG aY ag aD):cS P w K mg base (bO P w) 10 "spread" ["game"] (ye aY aG):=by
 have qJ:b5 P w K mg base (bO P w) 2 ag "start" ["self"] (Co ag):=Ia T
 have mq:b5 P w K mg base (bO P w) 3 ag "words_at" ["self","state"] (Cr ag):=Ic T
 have cE:b5 P w K mg base (bO P w) 1 aD "number_of" ["self","state"] (kT P w aD aG):=yo T
 have yx:cS P w K mg base (bO P w) 9 "taken_up" ["course","finder","state"] (zK P w ag aD aY aG):=Lp T
 have C0:pZ P w K mg base (bO P w) 3 "Course" ag ["self","game"] (HJ ag):=K8 T
 have C3:pZ P w K mg base (bO P w) 1 "Finder" aD ["self"] (Hx P w aD):=K6 T
 refine T.Cm.eO (λ_ _ _ _ _ _ us hl=>match us,hl with | [_],_=>rfl) λf fd F=>F.Fw tz (λvs H Q E h=>?_) (λbZ A outer s H vs Q E hr h=>?_)
 ·obtain⟨_,_,_,_,_,_,_,_,rfl,_⟩:=h;rfl
 ·refine(?_:let G_:Prop:=_;G_)
  intro G_
  obtain⟨gv,g,ft,nm,fu,oo,SS,dQ,rfl,rg,gg,hd,ak,YO,o2,sp,uC,kW,kM,kk⟩:=h
  dsimp only[G_]
  have nd:=tz.nd
  have AY:A.handled=none:=hr.hd
  refine⟨_,(ai (aP (i:=1) nd rfl (Or.inr rfl) (Kg C0 (hr.mono (by decide)) rfl aM.pass (aa (pv 0) af (se rfl)) (he:=se rfl) (hpl:=na rfl)))
  (ai (aP (i:=2) nd rfl (Or.inl rfl) (Hq C3 (hr.mono (by decide)) rfl aM.pass))
  (ai (bX (c7 cE T.bU (pv 2) (hr.mono (by decide)) lP (aa (Ho qJ T.aR (pv 1) (hr.mono (by decide)) aM.pass) af (se rfl)) (hst:=se rfl) (hpl:=na rfl)))
  (ai (aP (i:=3) nd rfl (Or.inl rfl) (bC af))
  (ai (lI PassesOwn.leaving (aN pG (bh bI (by rfl) T.z_len aao (aa (pv 3) af (se rfl)) (he:=se rfl) (hpl:=na rfl)) (bh bI (by rfl) T.z_len aao (aa (b6 (pv 2) rfl) af (se rfl)) (he:=se rfl) (hpl:=na rfl)) (aU _)) (aA (bX (dr aas aaG aaH cb.r (pv 3) (aa (br yx (hr.mono (by decide)) rfl lP (aa (pv 1) (aa (pv 2) (aa (aB aW (b6 (pv 2) rfl) (bh bI (by rfl) T.z_len aao (aa (pv 3) af (se rfl)) (he:=se rfl) (hpl:=na rfl)) (λ_ _=>rfl)) af (se rfl)) (se rfl)) (se rfl)) (he:=se rfl) (hpl:=na rfl)) af (se rfl))))))
  (aA (bf (aQ (aa (pv 3) (aa (b6 (pv 2) rfl) (aa (cL rfl (N:=["game","course","finder","board"]) (so:=aw (top 41)) (N':=["state","course"]) (k:=1) (fr:=[1]) rfl rfl ⟨rfl,by decide +kernel,by decide +kernel,by decide +kernel,rfl,by decide +kernel,by decide +kernel⟩ (bx (K:=K) (b6 (pv 2) rfl)) (λ_ _ _ _ _=>(aT (i:=0) (show(["state","course"]:List Str).Nodup by decide +kernel) rfl (Or.inl rfl))) (λ_ _ _ _ _=>cJ)
   (λ_ _ _ _ _=>(c7 mq T.aR (pv 1) (hr.mono (by decide)) aM.pass (aa (pv 0) af (se rfl)) (hst:=se rfl) (hpl:=na rfl)))) af (se rfl)) (se rfl)) (se rfl)))))))))),?_⟩
  refine(?_:let cB:TS:=_;let cC:TS:=_;let cD:TS:=_;let dE:TS:=_;let qD:TS:=_;let tw:TS:=_;tSeq cB (tSeq cC (tSeq cD (tSeq dE (tSeq qD tw)))) _ _ _)
  intro cB cC cD dE qD tw
  have sl:=sizeLine_eq
  have lc:=gg.lc
  change tSeq _ _ _ _ _
  refine bb (λN=>∀H1 tb c,aE H (cA H1 tb)->H1 tb=some (.dK [])->Dr ag (cA H1 tb) c g tb->N [some gv,some (.ref c),none,none] H1) ?_ (λN hN=>?_)
  case refine_2=>
   simp_all only[si,HJ]
   intro c dx nc Pk dc
   have sm:aE H (upd (upd H dx (.own c)) c (.ins ag dx [])):=(aj Pk).trans (aj (by rw[aF (Ne.symm dc)];exact nc))
   refine⟨_,ar,g,rg.mono sm,gg,λtb H1 k1 zT oN co=>hN _ tb c (λa o ha=>?_) oN co⟩
   rw[bw (λz=>by rw[z,none_of sm zT] at ha;cases ha)]
   exact k1 a o (λz=>by rw[z,nc] at ha;cases ha) (sm _ _ ha)
  rintro H1 tb c F5 ix F3
  have s1:aE H H1:=F5.trans bE
  have co:uS ag H1 c g:=(F3.mono bE).co
  have zT:H tb=none:=by
   cases h0:H tb with
   | none=>rfl
   | some o=>have:=F5 _ _ h0;unfold cA at this;rw[if_pos rfl] at this;cases this
  change tSeq _ _ _ _ _
  refine bb (λN=>∀H2 fa l n,H1 l=none->H1 n=none->aE H1 (bT H2 l n)->(∀Fr,kP P w aD Fr H2 fa l n [])->N [some gv,some (.ref c),some (.ref fa),none] H2) ?_ (λN hN=>?_)
  case refine_2=>
   simp_all only[si,Hx]
   intro fa dx nf Pk dc
   have YQ:upd H1 dx (.own fa) fa=none:=by rw[aF (Ne.symm dc)];exact nf
   have sm:aE H1 (upd (upd H1 dx (.own fa)) fa (.ins aD dx [])):=(aj Pk).trans (aj YQ)
   refine⟨_,ar,λl n H2 nl nn k2 fi=>hN _ fa l n (none_of sm nl) (none_of sm nn) (λa o ha=>k2 a o (λz=>by rw[z,nf] at ha;cases ha) (sm _ _ ha)) fi⟩
  rintro H2 fa l n nl nn s2 EZ
  have YR:∀{a b:V},List.lookup (Str.ofString "number_of") [(Str.ofString "states",a),(Str.ofString "numbers",b)]=none:=yb (by decide +kernel) (by decide +kernel)
  have YS:∀{a b c d e:V},List.lookup (Str.ofString "start") [(Str.ofString "spots",a),(Str.ofString "mosts",b),(Str.ofString "first",c),(Str.ofString "whats",d),(Str.ofString "tables",e)]=none:=dP (by decide +kernel) (by decide +kernel) (by decide +kernel) (by decide +kernel) (by decide +kernel)
  have YT:∀{a b c d e:V},List.lookup (Str.ofString "words_at") [(Str.ofString "spots",a),(Str.ofString "mosts",b),(Str.ofString "first",c),(Str.ofString "whats",d),(Str.ofString "tables",e)]=none:=dP (by decide +kernel) (by decide +kernel) (by decide +kernel) (by decide +kernel) (by decide +kernel)
  refine(?_:let G_:Prop:=_;G_)
  intro G_
  obtain⟨dx,sp0,mo,wh,us,CQ,V3,h2,h3,h4,h5,h6⟩:=id F3
  dsimp only[G_]
  have h1:=bE _ _ V3
  change tSeq _ _ _ _ _
  refine bb (λN=>∀H3,aE H1 (bT H3 l n)->kP P w aD (λa=>H a=none) H3 fa l n [(nm,List.replicate g.cs.length 0)]->N [some gv,some (.ref c),some (.ref fa),none] H3) ?_ (λN hN=>?_)
  case refine_2=>
   have Lx:aE H1 H2:=s2.trans aS
   refine(?_:let G_:Prop:=_;G_)
   intro G_
   obtain⟨Ji,Nh,Pm,u1,u2,u3,u4,u5,u6,u7,u8⟩:=EZ (λa=>H a=none)
   dsimp only[G_]
   simp_all only[cK,Co,kT]
   refine⟨_,_,aS _ _ u1,YR,_,_,Lx _ _ h1,YS,g,co.mono Lx,gg,fu,ft,hd,nm,ak,λa b H3 s3 na nb e1 e2=>?_⟩
   have Lf:a≠l:=λz=>by rw[z,u3] at na;cases na
   have Il:a≠n:=λz=>by rw[z,u5] at na;cases na
   have Dx:b≠l:=λz=>by rw[z,u3] at nb;cases nb
   have Im:b≠n:=λz=>by rw[z,u5] at nb;cases nb
   refine⟨λa=>H a=none,l,n,[],(EZ _).mono s3,(nm,List.replicate g.cs.length 0),⟨a,b,rfl,by rw[b9 Lf Il];exact e1,by rw[b9 Dx Im];exact e2,none_of (s1.trans Lx) nb⟩,YO,by rw[List.length_replicate];exact lc,(λ_ z=>by cases z),λ_ H4 s4 Pn=>hN _ (s2.trans ((bF s3).trans s4)) Pn⟩
  rintro H3 s3 V4
  change tSeq _ _ _ _ _
  refine bb (λN=>∀H4,aE H1 (bT H4 l n)->∀b,H1 b=none->b≠l->H4 b=some (.lst [])->kP P w aD (λa=>H a=none/\a≠b) H4 fa l n [(nm,List.replicate g.cs.length 0)]->N [some gv,some (.ref c),some (.ref fa),some (.ref b)] H4) ?_ (λN hN=>?_)
  case refine_2=>
   refine(?_:let G_:Prop:=_;G_)
   intro G_
   obtain⟨Ji,Nh,Pm,u1,u2,u3,u4,u5,u6,u7,u8⟩:=id V4
   dsimp only[G_]
   simp_all only[]
   refine⟨aak _,λb nb=>hN _ (s3.trans (bF (aj nb))) b (none_of (s3.trans aS) nb) (λz=>by rw[z,u3] at nb;cases nb) ar ((V4.fr λa o ha h0=>⟨h0,(λz=>by rw[z,nb] at ha;cases ha)⟩).mono (aj nb))⟩
  rintro H4 s4 b nb bl hb Pn
  change tSeq _ _ _ _ _
  have yW:tb≠l:=λz=>by rw[z,nl] at ix;cases ix
  have Ln:tb≠n:=λz=>by rw[z,nn] at ix;cases ix
  refine bb (λN=>∀H5,oo=0->aE (cA H1 tb) (ck H5 l n tb)->kP P w aD (λa=>H a=none/\a≠b) H5 fa l n SS->(∃bs,H5 b=some (.lst bs)/\bq H5 (wb g SS dQ) bs/\∀v∈bs,Jc H H5 b l v)->N [some gv,some (.ref c),some (.ref fa),some (.ref b)] H5) ?_ (λN hN=>?_)
  case refine_2=>
   refine zC (λm σ H'=>∃dn rest ss bs,dQ=dn++rest/\m=rest.length/\dn.length<=SS.length/\dZ g oo SS dn.length ss rest/\aE (cA H1 tb) (ck H' l n tb)/\AU H' (ck H' l n tb) tb g dn.length (λa=>H a=none/\a≠b)/\kP P w aD (λa=>H a=none/\a≠b) H' fa l n ss/\H' b=some (.lst bs)/\(∀v∈bs,Jc H (cA (ck H' l n tb) b) b l v)/\bq (cA (ck H' l n tb) b) ((SS.zip dn).map λx=>hU g SS x.1 x.2) bs/\σ=[some gv,some (.ref c),some (.ref fa),some (.ref b)]) (m:=dQ.length) ⟨[],dQ,_,[],rfl,rfl,aak _,sp,bM s4,⟨[],aS _ _ (s4 _ _ ix),aaf _,λnm v e=>by cases e⟩,Pn,hb,(λv hv=>by cases hv),by rw[List.zip_nil_right];exact ba.mpr rfl,rfl⟩ ?_
   intro m _ H5 A0
   refine(?_:let G_:Prop:=_;G_)
   intro G_
   obtain⟨dn,rest,ss,bs,et,rfl,dS,sd,s5,Po,A4,tD,Ni,rb,rfl⟩:=A0
   obtain⟨YU,wF,YV,V5⟩:=id Po
   obtain⟨Ji,Nh,Pm,u1,u2,u3,u4,u5,u6,u7,u8⟩:=id A4
   dsimp only[G_]
   have tf:=sd.tf
   have xl:=u4.length
   have Dx:bs.length=dn.length:=by
    have:=rb.length
    rw[aac,List.length_zip] at this
    omega
   cases rest with
   | nil=>
    refine(?_:let G_:Prop:=_;G_)
    intro G_
    obtain⟨_,c0,c1,c2⟩:=sd
    dsimp only[G_]
    by_cases o0:oo=0
    ·obtain⟨rfl,e2⟩:=c0 o0
     refine⟨false,λQ hq=>?_,?_⟩
     ·simp_all only[dR]
      refine⟨_,tD,_,_,_,aS _ _ u1,T.bU,T.na_Finder_states,_,j6,_,rfl,_,u3,?_⟩
      rw[decide_eq_false (by omega)]
      exact hq
     ·rw[if_neg (by simp)]
      rw[aaV] at et
      exact hN _ o0 s5 A4 ⟨bs,tD,by rw[et];exact rb.mono (bE.trans cy),λv hv=>(Ni v hv).mono (bE.trans cy)⟩
    ·obtain⟨st,es,ls⟩:∃st,ss[dn.length]?=some st/\st.2.length=g.cs.length:=by
      by_cases o1:oo=1
      ·obtain⟨st,a,b,_⟩:=c1 o1;exact⟨st,a,b⟩
      ·obtain⟨st,_,a,b,_⟩:=c2 (by omega);exact⟨st,a,b⟩
     have V6:=(List.getElem?_eq_some_iff.mp es).1
     refine⟨true,λQ hq=>?_,?_⟩
     ·simp_all only[dR]
      refine⟨_,tD,_,_,_,aS _ _ u1,T.bU,T.na_Finder_states,_,j6,_,rfl,_,u3,?_⟩
      rw[decide_eq_true (by omega)]
      exact hq
     ·rw[if_pos rfl]
      refine(?_:let G_:Prop:=_;G_)
      intro G_
      obtain⟨v,ev,rv⟩:=u4.at es
      dsimp only[G_]
      have Pp:=V2 wF rv
      have ty:DW K "list" (.ref b) H5:=.inl ⟨rfl,_,bN.of tD⟩
      have dl:dn.length<=120:=by omega
      simp_all only[dR,zK,cV]
      refine⟨ty,_,_,_,aS _ _ u1,T.bU,T.na_Finder_states,_,j6,_,tD,_,rfl,_,u3,v,by rw[Dx];exact bJ ev,_,l,n,tb,g,F3.mono s5,gg,ss,A4,st,dn.length,Po,by omega,λa ha=>⟨none_of (F5.trans (s5.trans cy)) ha,λz=>by rw[z,tD] at ha;cases ha⟩,Pp,ls,λsk H6 s6=>?_,λYW=>?_⟩
      ·by_cases o1:oo=1
       ·exact kW o1 _ (F5.trans (s5.trans (cy.trans s6)))
       ·refine(?_:let G_:Prop:=_;G_)
        intro G_
        obtain⟨Bu,ts,sf,_,go,_⟩:=c2 (by omega)
        dsimp only[G_]
        rw[es] at sf
        cases sf
        exact absurd sk go.stuck
      ·by_cases o1:oo=1
       ·refine(?_:let G_:Prop:=_;G_)
        intro G_
        obtain⟨Bu,sf,_,sk⟩:=c1 o1
        dsimp only[G_]
        rw[es] at sf
        cases sf
        exact absurd sk YW
       ·refine(?_:let G_:Prop:=_;G_)
        intro G_
        obtain⟨Bu,ts,sf,_,go,JP⟩:=c2 (by omega)
        dsimp only[G_]
        rw[es] at sf
        cases sf
        exact⟨ts,go,SS,(λz=>by omega),λ_ H6 s6=>kM (by omega) _ (F5.trans (s5.trans (s6.trans cy))),(λz=>by omega)⟩
   | cons ts r=>
    refine(?_:let G_:Prop:=_;G_)
    intro G_
    obtain⟨st,es,ls,go,sr⟩:=sd
    dsimp only[G_]
    have V6:=(List.getElem?_eq_some_iff.mp es).1
    refine⟨true,λQ hq=>?_,?_⟩
    ·simp_all only[dR]
     refine⟨_,tD,_,_,_,aS _ _ u1,T.bU,T.na_Finder_states,_,j6,_,rfl,_,u3,?_⟩
     rw[decide_eq_true (by omega)]
     exact hq
    ·rw[if_pos rfl]
     refine(?_:let G_:Prop:=_;G_)
     intro G_
     obtain⟨v,ev,rv⟩:=u4.at es
     dsimp only[G_]
     have eS:SS[dn.length]?=some st:=by
      obtain⟨q,e⟩:=tf
      rw[e,aaN V6]
      exact es
     have V7:=sr.tf
     have bn:b≠n:=λz=>by rw[z,u5] at tD;cases tD
     have bt:b≠tb:=λz=>by rw[z,wF] at tD;cases tD
     have Pp:=V2 wF rv
     have ty:DW K "list" (.ref b) H5:=.inl ⟨rfl,_,bN.of tD⟩
     have dl:dn.length<=120:=by omega
     have V8:=aax V7.len uC
     simp_all only[dR,zK,cV]
     refine⟨ty,_,_,_,aS _ _ u1,T.bU,T.na_Finder_states,_,j6,_,tD,_,rfl,_,u3,v,by rw[Dx];exact bJ ev,_,l,n,tb,g,F3.mono s5,gg,ss,A4,st,dn.length,Po,by omega,λa ha=>⟨none_of (F5.trans (s5.trans cy)) ha,λz=>by rw[z,tD] at ha;cases ha⟩,Pp,ls,λsk=>absurd sk go.stuck,λ_=>⟨ts,go,SS,λ_=>V7,(λz=>by omega),λ_ u H6 s6 Pa YX ru=>?_⟩⟩
     have Jd:H6 b=some (.lst bs):=cy _ _ (s6 _ _ (by rw[cF bl bn bt];exact tD))
     refine(?_:let G_:Prop:=_;G_)
     intro G_
     obtain⟨Pq,Pu,Pw,Ly⟩:=id YX
     dsimp only[G_]
     have eh:∀o,cA (ck (upd H6 b o) l n tb) b=cA (ck H6 l n tb) b:=λo=>by
      funext a
      by_cases z:a=b
      ·rw[z];unfold cA;rw[if_pos rfl,if_pos rfl]
      ·rw[bw z,bw z]
       show(if a=tb then none else if a=n then none else if a=l then none else upd H6 b o a)=if a=tb then none else if a=n then none else if a=l then none else H6 a
       rw[aF z]
     refine⟨_,Jd,by omega,r.length,by omega,dn++ [ts],r,by rw[List.append_assoc];exact et,rfl,by rw[aan,aay];have:=tf.len;omega,aZ ss (dX ts),by rw[aan,aay];exact sr,?_,?_,Pa.Kq (λa h=>h.2) Jd bl,_,ar,?_,?_⟩
     ·intro a o ha
      have ab:a≠b:=λz=>by have:=bE _ _ ha;rw[z,nb] at this;cases this
      have h6:=s6 _ _ (s5 _ _ ha)
      refine(?_:let G_:Prop:=_;G_)
      intro G_
      obtain⟨e1,e2,e3⟩:=fK h6
      dsimp only[G_]
      rw[cF e1 e2 e3] at h6 ⊢
      rw[aF ab]
      exact h6
     ·rw[aan,aay]
      refine⟨Pq,by rw[aF (Ne.symm bt)];exact Pu,Pw,λnm v e=>?_⟩
      refine(?_:let G_:Prop:=_;G_)
      intro G_
      obtain⟨FY,t',b',FZ,a1,⟨p',ep,fp⟩,a2⟩:=Ly nm v e
      subst ep
      dsimp only[G_]
      have kb:∀{a o},a≠b->ck H6 l n tb a=some o->ck (upd H6 b (.lst (bs++ [u]))) l n tb a=some o:=λ{a o} ab ha=>by
       refine(?_:let G_:Prop:=_;G_)
       intro G_
       obtain⟨e1,e2,e3⟩:=fK ha
       dsimp only[G_]
       rw[cF e1 e2 e3] at ha ⊢
       rw[aF ab]
       exact ha
      exact⟨FY,t',b',FZ,a1,⟨p',rfl,fp⟩,zI a2 (λo ho=>kb fp.2 ho) λa vs ha=>kb (λz=>by have:=cy _ _ ha;rw[z,Jd] at this;cases this) ha⟩
     ·rw[eh]
      intro v hv
      rcases List.mem_append.mp hv with hv | hv
      ·exact(Ni v hv).mono (bM s6)
      ·rw[List.mem_singleton.mp hv]
       refine(?_:let G_:Prop:=_;G_)
       intro G_
       obtain⟨_,q,eq,vs,hq,kq⟩:=ru b bs tD
       dsimp only[G_]
       refine⟨q,vs,eq,hq,λx y w' e=>?_⟩
       have nw:=kq x y w' e
       exact⟨none_of (F5.trans (s5.trans cy)) nw,(λz=>by rw[z,tD] at nw;cases nw),(λz=>by rw[z,u3] at nw;cases nw)⟩
     ·rw[eh,wH eS,aaz]
      exact(rb.mono (bM s6)).append (aH.mpr ⟨u,[],rfl,(ru b bs tD).1,ba.mpr rfl⟩)
  intro H5 o0 s5 A4 YY
  refine(?_:let G_:Prop:=_;G_)
  intro G_
  obtain⟨bs,tD,rb,Ni⟩:=YY
  subst o0
  have kk:=kk rfl
  obtain⟨Ji,Nh,Pm,u1,u2,u3,u4,u5,u6,u7,u8⟩:=id A4
  dsimp only[G_]
  have xl:=u4.length
  have Px:aE (cA H1 tb) H5:=s5.trans cy
  simp_all only[dR]
  refine⟨_,_,_,aS _ _ u1,T.bU,T.na_Finder_states,_,j6,_,_,_,aS _ _ u1,T.bU,T.na_Finder_states,_,j6,_,rfl,⟨_,bN.of u3⟩,?_⟩
  refine comp_map (src_list (Ok:=aE H5) (λH' k=>bN.of (k _ _ u3))) (λ_ _ _ _ h=>h.1▸aE.refl _) (by omega) (λi y H'=>∃st,SS[i]?=some st/\Rep H' (hJ g st) y) (λ_ _ _ _ k ⟨st,e,r⟩=>⟨st,e,r.mono k⟩) ?_ ?_
  ·rintro i x z H7 H6 Q' hi s6 ⟨rfl,ex⟩ yy
   refine(?_:let G_:Prop:=_;G_)
   intro G_
   obtain⟨st,es,Lz⟩:=u4.get ex
   dsimp only[G_]
   refine(?_:let G_:Prop:=_;G_)
   intro G_
   obtain⟨Bu,VE,sf,ls,go,_⟩:=sp.all.2 i (aak _) (List.getElem?_eq_some_iff.mp es).1
   dsimp only[G_]
   rw[es] at sf
   cases sf
   obtain⟨x0,lk⟩:=yc go
   simp_all only[cK,Cr]
   refine⟨_,_,s6 _ _ (Px _ _ V3),YT,g,(F3.mono (Px.trans s6)).co,gg,st.1,st.2,Lz.st.mono (aS.trans s6),ls,x0,lk,λp H8 s8 n8 r8=>yy _ _ s8 ⟨st,es,?_⟩⟩
   unfold hJ
   rw[lk]
   exact r8
  ·intro ys H6 s6 ly hy D OP AZ
   refine⟨by omega,λp H7 s7 np e7=>kk p b l D bs Nh ys H7 (F5.trans (Px.trans (s6.trans ((aj AZ).trans s7)))) (none_of s1 nb) e7 ?_ ?_ ?_ ?_ ?_ (s7 _ _ ar) ?_⟩
   all_goals have Jl:aE H5 H7:=s6.trans ((aj AZ).trans s7)
   ·exact Jl _ _ tD
   ·exact rb.mono Jl
   ·exact λv hv=>(Ni v hv).mono Jl
   ·exact Jl _ _ u3
   ·exact u4.imp λ_ _ ⟨a,c',e,q1,q2,q3⟩=>⟨a,c',e,(aS.trans Jl) _ _ q1,(aS.trans Jl) _ _ q2,q3.1,q3.2,(gF q2).1⟩
   ·refine bq.of (by rw[aac];omega) λi d y ed ey=>?_
    rw[aad] at ed
    refine(?_:let G_:Prop:=_;G_)
    intro G_
    obtain⟨st,es,rfl⟩:=Option.map_eq_some_iff.mp ed
    obtain⟨Bu,sf,r⟩:=hy i y ey
    dsimp only[G_]
    rw[es] at sf
    cases sf
    exact r.mono ((aj AZ).trans s7)
theorem qK:bo ["_law_script","_law_k","_law_base"] ["_law_script","_law_k"] (aw (top 43)):=⟨rfl,rfl,rfl,by decide +kernel,rfl,by decide +kernel,by decide +kernel⟩
theorem zU (T:Txt K mg aK aL aG aY ag aD):cS P w K mg base (bO P w) 1 "_law_at" ["_law_script","_law_k"] (fS K):=by
 refine T.AJ.eO (λ_ _ _ _ _ _ us hl=>match us,hl with | [_,_],_=>rfl) λf fd F=>F.gu qK (λvs H Q E h=>?_) (λbZ A outer s H vs Q E hr h=>?_)
 ·obtain⟨_,_,_,rfl,_⟩:=h;rfl
 ·refine(?_:let G_:Prop:=_;G_)
  intro G_
  obtain⟨a,ns,k,rfl,hS,k0,k1,kk⟩:=h
  dsimp only[G_]
  have nd:=qK.nd
  refine⟨_,(ai (bG (aN pG (pv 1) (bh (gW (K:=K)) (by rfl) T.z_len aao (aa (pv 0) af (se rfl)) (he:=se rfl) (hpl:=na rfl)) (aU _)) (aA (bf (aB (sO (K:=K)) (pv 0) (pv 1) (λ_ _=>rfl))))
   bj)
  (ai (aP (i:=2) nd rfl (Or.inl rfl) ae)
  (ai (bG (aN lJ (bh (gW (K:=K)) (by rfl) T.z_len aao (aa (pv 0) af (se rfl)) (he:=se rfl) (hpl:=na rfl)) ae (aU _)) (aA (aP (i:=2) nd rfl (Or.inl rfl) (aX bK (aB (sO (K:=K)) (pv 0) (aX bK (aX bV (aX cH (pv 1) ae) ae) (bh (gW (K:=K)) (by rfl) T.z_len aao (aa (pv 0) af (se rfl)) (he:=se rfl) (hpl:=na rfl))) (λ_ _=>rfl)) ae)))
   bj)
  (aA (bf (aX bK (aX cH (aX bV (aX bV (pv 2) (aX cH ae (pv 1))) ae) (aX bV (aX bV (aX cH (pv 2) ae) (aX cH (pv 1) (pv 1))) ae)) ae)))))),?_⟩
  refine(?_:let cB:TS:=_;let cC:TS:=_;let cD:TS:=_;let dE:TS:=_;tSeq cB (tSeq cC (tSeq cD dE)) _ _ _)
  intro cB cC cD dE
  simp_all only[GW]
  have kq:IntMulOk k k:=dN (by omega) (by omega)
  refine⟨ns,hS,rj (λc=>⟨ns,hS,k0,c,kk _⟩) (λc=>⟨ns,hS,rj (λz=>?_) (λz=>?_)⟩)⟩
  ·have m1:=aaZ (ns.getD ((k*23+9) % (ns.length:Int)).toNat 0) (show(998743:Int)≠0 by decide)
   have m2:=aa6 (ns.getD ((k*23+9) % (ns.length:Int)).toNat 0) (show(0:Int)<998743 by decide)
   exact⟨xM,ns,hS,z,ns,hS,aaZ _ (by omega),aa6 _ z,by decide,dN,xM,kq,dN (by omega) (by omega),by decide,kk _⟩
  ·exact⟨dN,dN,kq,dN (by omega) (by omega),by decide,kk _⟩
theorem mr {α:Type} {l:List α} (n:Int) (h:0<l.length):∃(j:Nat) (x:α),n % (l.length:Int)=(j:Int)/\l[j]?=some x:=by
 have q1:=aaZ n (show(l.length:Int)≠0 by omega)
 have q2:=aa6 n (show(0:Int)< (l.length:Int) by omega)
 refine⟨(n % (l.length:Int)).toNat,l[(n % (l.length:Int)).toNat]'(by omega),by omega,aap _⟩
noncomputable def A5 (K:PySem.W.Frag):Sp:=λvs H Q _=>∃a ns k v cs th,vs=[.ref a,.int k,v,.bl th]/\bN K H a (List.map V.int ns)/\0<=k/\k<900/\Rep H (OF cs) v/\GoodC cs/\∀u ds H',aE H H'->H u=none->Rep H' (.lst (List.map uq ds)) (.ref u)->ds.length<=6->(∀d∈ds,o4 cs th d)->Q (.ref u) H'
theorem km:bo ["_law_script","_law_at_here","_law_counts","_law_is_thrown","_law_deeds_here","_law_j","_law_cell","_law_name","_law_other"] ["_law_script","_law_at_here","_law_counts","_law_is_thrown"] (aw (top 44)):=⟨rfl,rfl,rfl,by decide +kernel,rfl,by decide +kernel,by decide +kernel⟩
theorem LA (T:Txt K mg aK aL aG aY ag aD):cS P w K mg base (bO P w) 2 "_law_deeds" ["_law_script","_law_at_here","_law_counts","_law_is_thrown"] (A5 K):=by
 have bS:cS P w K mg base (bO P w) 1 "_law_at" ["_law_script","_law_k"] (fS K):=zU T
 refine T.um.eO (λ_ _ _ _ _ _ us hl=>match us,hl with | [_,_,_,_],_=>rfl) λf fd F=>F.gu km (λvs H Q E h=>?_) (λbZ A outer s H vs Q E hr h=>?_)
 ·obtain⟨_,_,_,_,_,_,rfl,_⟩:=h;rfl
 ·refine(?_:let G_:Prop:=_;G_)
  intro G_
  obtain⟨sa,sc,k0,v,cs,th,rfl,hS,k00,k09,rc,gc,kk⟩:=h
  dsimp only[G_]
  have nd:=km.nd
  refine⟨_,(ai (aP (i:=4) nd rfl (Or.inl rfl) (bC af))
  (ai (cQ PassesOwn.never rfl (fB rfl T.z_range (aa (aX bK (br bS (hr.mono (by decide)) rfl aM.pass (aa (pv 0) (aa (pv 1) af (se rfl)) (se rfl)) (he:=se rfl) (hpl:=na rfl)) ae) af (se rfl))) (aT (i:=5) nd rfl (Or.inl rfl)) (ai (aP (i:=6) nd rfl (Or.inl rfl) (br bS (hr.mono (by decide)) rfl aM.pass (aa (pv 0) (aa (aX bV (aX bV (pv 1) ae) (pv 5)) af (se rfl)) (se rfl)) (he:=se rfl) (hpl:=na rfl)))
  (ai (aP (i:=7) nd rfl (Or.inl rfl) (aB az (aB aW (pv 2) (aX bK (aX cI (pv 6) ae) (bh bI (by rfl) T.z_len aao (aa (pv 2) af (se rfl)) (he:=se rfl) (hpl:=na rfl))) (λ_ _=>rfl)) ae (λ_ _=>rfl)))
  (ai (aP (i:=8) nd rfl (Or.inl rfl) (aB az (aB aW (pv 2) (aX bK (aX bV (aX cI (pv 6) ae) ae) (bh bI (by rfl) T.z_len aao (aa (pv 2) af (se rfl)) (he:=se rfl) (hpl:=na rfl))) (λ_ _=>rfl)) ae (λ_ _=>rfl)))
  (aA (bG (PW.pt (pw_and (aN bW (aX bK (pv 6) ae) ae (aU _)) (pw_and1 (aN oj (pv 8) (pv 7) (aU _))))) (aA (bX (dr aas aaG aaH cb.r (pv 4) (aa (aQ (aa aJ (aa (pv 7) (aa (pv 8) af (se rfl)) (se rfl)) (se rfl))) af (se rfl)))))
   (aA (bG (PW.pt (pw_and (aN pG (aX bK (pv 6) ae) ae (aU _)) (pw_and1 (pB (pv 3))))) (aA (bX (dr aas aaG aaH cb.r (pv 4) (aa (aQ (aa aJ (aa (pv 7) af (se rfl)) (se rfl))) af (se rfl)))))
   (aA (bX (dr aas aaG aaH cb.r (pv 4) (aa (aQ (aa (aB aW (bC (aa aJ (aa aJ af (se rfl)) (se rfl))) (aX bK (pv 6) ae) (λ_ _=>rfl)) (aa (pv 7) (aa (aX bK (aX cI (pv 6) ae) ae) af (se rfl)) (se rfl)) (se rfl))) af (se rfl)))))))))))))
  (aA (bf (pv 4))))),?_⟩
  refine(?_:let cB:TS:=_;let cC:TS:=_;let cD:TS:=_;tSeq cB (tSeq cC cD) _ _ _)
  intro cB cC cD
  have sl:=sizeLine_eq
  refine(?_:let G_:Prop:=_;G_)
  intro G_
  obtain⟨c1,c4,cg⟩:=id gc
  obtain⟨cl,uW,rfl,iC,uK⟩:=aO.mp (show Rep H (.lst _) v from rc)
  dsimp only[G_]
  have qI:=uK.length
  rw[aac] at qI
  have place:∀{i:Nat} {c},cs[i]?=some c->∃q,uW[i]?=some (.ref q)/\H q=some (.tup [.str c.1,.int c.2]):=λ{i c} e=>by
   obtain⟨v,ev,rv⟩:=uK.at (i:=i) (by rw[aad,e];rfl)
   refine(?_:let G_:Prop:=_;G_)
   intro G_
   obtain⟨q,a,b,rfl,hq,r1,r2⟩:=aV.mp (show Rep H (.tup _) v from rv)
   rw[ao] at r1
   rw[aI] at r2
   subst r1 r2
   dsimp only[G_]
   exact⟨q,ev,hq⟩
  change tSeq _ _ _ _ _
  refine bb (λN=>∀H1,aE H H1->∀l,H l=none->H1 l=some (.lst [])->N [some (.ref sa),some (.int k0),some (.ref cl),some (.bl th),some (.ref l),none,none,none,none] H1) ?_ (λN hN=>?_)
  case refine_2=>
   simp_all only[]
   exact⟨aak _,λl nl=>hN _ (aj nl) l nl ar⟩
  rintro H1 s1 l Bh hl
  have Fs:=hl
  have s2:aE H1 H1:=λ_ _ e=>e
  simp_all only[fS]
  refine⟨sc,(s1.trans s2).seq hS,by omega,by omega,λn8=>?_⟩
  have m1:=aaZ n8 (show(4:Int)≠0 by decide)
  have m2:=aa6 n8 (show(0:Int)<4 by decide)
  refine⟨by decide,by omega,by omega,?_⟩
  obtain⟨m,hm⟩:∃m:Nat,m=(n8 % 4).toNat:=⟨_,rfl⟩
  rw[<-hm]
  refine cu (src_range (Ok:=λ_=>True)) (λi σ H'=>aE H H'/\(∃(ds:List Dd) (xs:List V),ds.length=i/\H' l=some (.lst xs)/\bq (cA H' l) (ds.map uq) xs/\∀d∈ds,o4 cs th d)/\∃z1 z2 z3 z4,σ=[some (.ref sa),some (.int k0),some (.ref cl),some (.bl th),some (.ref l),z1,z2,z3,z4]) ⟨s1.trans s2,⟨[],[],rfl,Fs,ba.mpr rfl,λr hr=>by cases hr⟩,_,_,_,_,rfl⟩ (λ_ _ _ _ _=>trivial) ?_ ?_
  ·intro i x σ H4 H3 hi hW fU
   refine(?_:let G_:Prop:=_;G_)
   intro G_
   obtain⟨s3,⟨ds,xs,ld,hx,rx,gd⟩,z1,z2,z3,z4,rfl⟩:=hW
   obtain⟨rfl,rfl⟩:=fU
   dsimp only[G_]
   have xl:=rx.length
   rw[aac] at xl
   have i6:i<4:=by omega
   have ty:DW K "list" (.ref l) H3:=.inl ⟨rfl,_,bN.of hx⟩
   simp only[gName,aaY,aaX]
   change tSeq _ _ _ _ _
   refine bb (λN=>∀(n:Int),N [some (.ref sa),some (.int k0),some (.ref cl),some (.bl th),some (.ref l),some (.int (0+ (i:Int))),some (.int n),z3,z4] H3) ?_ (λN hN=>?_)
   case refine_2=>
    simp_all only[fS]
    exact⟨sc,s3.seq hS,by omega,by omega,λn=>hN n⟩
   rintro n
   change tSeq _ _ _ _ _
   refine bb (λN=>∀c,c∈cs.map (·.1)->N [some (.ref sa),some (.int k0),some (.ref cl),some (.bl th),some (.ref l),some (.int (0+ (i:Int))),some (.int n),some (.str c),z4] H3) ?_ (λN hN=>?_)
   case refine_2=>
    refine(?_:let G_:Prop:=_;G_)
    intro G_
    obtain⟨k,c,ek,ec⟩:=mr (l:=cs) (n / 6) (by omega)
    obtain⟨q,eq,hq⟩:=place ec
    dsimp only[G_]
    have uQ:lD uW (n / 6 % (uW.length:Int))=some (.ref q):=by rw[<-qI,ek];exact bJ eq
    simp_all only[]
    exact⟨dA.lit,_,s3 _ _ iC,by omega,_,s3 _ _ iC,_,uQ,_,rfl,_,s3 _ _ hq,_,rfl,hN _ (List.mem_map.mpr ⟨_,aal ec,rfl⟩)⟩
   rintro c hc
   change tSeq _ _ _ _ _
   refine bb (λN=>∀c',c'∈cs.map (·.1)->N [some (.ref sa),some (.int k0),some (.ref cl),some (.bl th),some (.ref l),some (.int (0+ (i:Int))),some (.int n),some (.str c),some (.str c')] H3) ?_ (λN hN=>?_)
   case refine_2=>
    refine(?_:let G_:Prop:=_;G_)
    intro G_
    obtain⟨k,c',ek,ec⟩:=mr (l:=cs) (n / 6+1) (by omega)
    obtain⟨q,eq,hq⟩:=place ec
    dsimp only[G_]
    have uQ:lD uW ((n / 6+1) % (uW.length:Int))=some (.ref q):=by rw[<-qI,ek];exact bJ eq
    simp_all only[]
    exact⟨dA.lit,_,s3 _ _ iC,by omega,_,s3 _ _ iC,_,uQ,_,rfl,_,s3 _ _ hq,_,rfl,hN _ (List.mem_map.mpr ⟨_,aal ec,rfl⟩)⟩
   rintro c' MJ
   have push:∀(d:Dd) (e:Addr) (H5:Hp),aE H3 H5->H3 e=none->Rep (cA H5 l) (uq d) (.ref e)->o4 cs th d->aE H (upd H5 l (.lst (xs++ [V.ref e])))/\(∃ds:List Dd,ds.length=i+1/\∃Oi:List V,upd H5 l (.lst (xs++ [V.ref e])) l=some (.lst Oi)/\bq (cA (upd H5 l (.lst (xs++ [V.ref e]))) l) (ds.map uq) Oi/\∀d∈ds,o4 cs th d):=by
    intro d e H5 s5 ne re hd
    refine⟨bQ (s3.trans s5) Bh,ds++ [d],by rw[aan,ld];rfl,_,ar,?_,λr hr=>?_⟩
    ·rw[aaz]
     exact fG (rx.mono (bM s5)) re
    ·rcases List.mem_append.mp hr with hr | hr
     ·exact gd r hr
     ·rw[List.mem_singleton.mp hr];exact hd
   have q0:=aaZ (n / 60) (show(4:Int)≠0 by decide)
   have two:∃w d,lD [V.str (Str.ofString "plus"),V.str (Str.ofString "set")] (n % 2)=some (.str w)/\uq d=.tup [.str w,.str c,.int (n / 60 % 4)]/\o4 cs th d:=by
    have o:n % 2=0\/n % 2=1:=by omega
    rcases o with o | o
    ·rw[o];exact⟨_,.plus c (n / 60 % 4),rfl,rfl,hc,q0⟩
    ·rw[o];exact⟨_,.set c (n / 60 % 4),rfl,rfl,hc,q0⟩
   refine(?_:let G_:Prop:=_;G_)
   intro G_
   obtain⟨ww,dw,Py,Pz,PB⟩:=two
   dsimp only[G_]
   simp_all only[cV]
   refine⟨by decide,?_⟩
   by_cases n0:n % 6=0
   ·rw[if_pos n0]
    by_cases cc:c'=c
    ·rw[if_neg (λh=>h cc)]
     refine⟨by decide,?_⟩
     rw[if_pos (by omega)]
     by_cases tt:th=true
     ·rw[if_pos tt]
      refine⟨ty,by omega,λp1 H5 s5 oP e5=>?_⟩
      have pl:p1≠l:=λz=>by rw[z,hx] at oP;cases oP
      obtain⟨a1,a2⟩:=push (.face c) p1 H5 s5 oP (aV.mpr ⟨p1,_,_,rfl,by rw[bw pl];exact e5,ao.mpr rfl,ao.mpr rfl⟩) ⟨hc,tt⟩
      exact⟨_,s5 _ _ hx,by omega,a1,a2,_,rfl⟩
     ·rw[if_neg tt]
      refine⟨ty,by omega,λp np=>⟨by decide,_,ar,_,Py,dA.lit,by decide,by omega,λp1 H5 s5 oP e5=>?_⟩⟩
      have Bi:=(aj np).trans s5
      have pl:p1≠l:=λz=>by rw[z,aj np _ _ hx] at oP;cases oP
      obtain⟨a1,a2⟩:=push dw p1 H5 Bi (none_of (aj np) oP) (by rw[Pz];exact bD.mpr ⟨p1,_,_,_,rfl,by rw[bw pl];exact e5,ao.mpr rfl,ao.mpr rfl,aI.mpr rfl⟩) PB
      exact⟨_,Bi _ _ hx,by omega,a1,a2,_,rfl⟩
    ·rw[if_pos cc]
     refine⟨ty,by omega,λp1 H5 s5 oP e5=>?_⟩
     have pl:p1≠l:=λz=>by rw[z,hx] at oP;cases oP
     obtain⟨a1,a2⟩:=push (.move c c') p1 H5 s5 oP (bD.mpr ⟨p1,_,_,_,rfl,by rw[bw pl];exact e5,ao.mpr rfl,ao.mpr rfl,ao.mpr rfl⟩) ⟨hc,MJ,λe=>cc e.symm⟩
     exact⟨_,s5 _ _ hx,by omega,a1,a2,_,rfl⟩
   ·rw[if_neg n0]
    refine⟨by decide,?_⟩
    by_cases n1:n % 6<4
    ·rw[if_pos n1]
     by_cases tt:th=true
     ·rw[if_pos tt]
      refine⟨ty,by omega,λp1 H5 s5 oP e5=>?_⟩
      have pl:p1≠l:=λz=>by rw[z,hx] at oP;cases oP
      obtain⟨a1,a2⟩:=push (.face c) p1 H5 s5 oP (aV.mpr ⟨p1,_,_,rfl,by rw[bw pl];exact e5,ao.mpr rfl,ao.mpr rfl⟩) ⟨hc,tt⟩
      exact⟨_,s5 _ _ hx,by omega,a1,a2,_,rfl⟩
     ·rw[if_neg tt]
      refine⟨ty,by omega,λp np=>⟨by decide,_,ar,_,Py,dA.lit,by decide,by omega,λp1 H5 s5 oP e5=>?_⟩⟩
      have Bi:=(aj np).trans s5
      have pl:p1≠l:=λz=>by rw[z,aj np _ _ hx] at oP;cases oP
      obtain⟨a1,a2⟩:=push dw p1 H5 Bi (none_of (aj np) oP) (by rw[Pz];exact bD.mpr ⟨p1,_,_,_,rfl,by rw[bw pl];exact e5,ao.mpr rfl,ao.mpr rfl,aI.mpr rfl⟩) PB
      exact⟨_,Bi _ _ hx,by omega,a1,a2,_,rfl⟩
    ·rw[if_neg n1]
     refine⟨ty,by omega,λp np=>⟨by decide,_,ar,_,Py,dA.lit,by decide,by omega,λp1 H5 s5 oP e5=>?_⟩⟩
     have Bi:=(aj np).trans s5
     have pl:p1≠l:=λz=>by rw[z,aj np _ _ hx] at oP;cases oP
     obtain⟨a1,a2⟩:=push dw p1 H5 Bi (none_of (aj np) oP) (by rw[Pz];exact bD.mpr ⟨p1,_,_,_,rfl,by rw[bw pl];exact e5,ao.mpr rfl,ao.mpr rfl,aI.mpr rfl⟩) PB
     exact⟨_,Bi _ _ hx,by omega,a1,a2,_,rfl⟩
  ·intro σ H3 eQ
   refine(?_:let G_:Prop:=_;G_)
   intro G_
   obtain⟨s3,⟨ds,xs,ld,hx,rx,gd⟩,z1,z2,z3,z4,rfl⟩:=eQ
   dsimp only[G_]
   simp_all only[]
   exact kk _ ds H3 s3 Bh (aO.mpr ⟨l,xs,rfl,hx,rx.mono bE⟩) (by omega) gd
theorem mv {H:Hp} {v:V}:Rep H .de v↔v=.de:=by rw[Rep]
noncomputable def LB (p:Str×Wt):Dat:=.tup [.str p.1,ph p.2]
noncomputable def C4 (a b c:Int):Rw:=⟨EI,none,[.set CH a,.set wW (10*b+c)],j7⟩
noncomputable def E3 (a b c:Int):Rw:=⟨FO,none,[.set CH (10*a+b),.set wW c],j7⟩
noncomputable def LC (a:Int):Rw:=⟨Kv,none,[.plus wW a],wV⟩
noncomputable def wI (a b c:Int):List Rw:=[C4 a b c,E3 a b c,LC a]
noncomputable def Iw (to:Str):List Tw:=[(1,1,[],jB),(2,9,[],to)]
noncomputable def LD (a b c:Int) (to:Str) (d:Nat) (iy:Int):Gm:=⟨[(CH,60),(wW,60)],[(jn,.pick iy (wI a b c)),(j7,.jw [uU (.oG d)] (-1) 1 (Iw to)),(wV,.ask wW 3 jB kU),(jB,.fin 1 1),(kU,.fin 0 1)]⟩
noncomputable def Iy (K:PySem.W.Frag):Sp:=λvs H Q _=>∃a sc,vs=[.ref a]/\bN K H a (List.map V.int sc)/\∀gv x y z to d iy H',aE H H'->Rep H' (FL (LD x y z to d iy)) gv->1<=x->x<=5->1<=y->y<=5->0<=z->z<=9->(to=jB\/to=kU)->2<=d->d<=4->(iy=1\/iy=2)->Q gv H'
theorem mw:bo ["_law_script","_law_one","_law_two","_law_three","_law_ways","_law_rows","_law_die","_law_places"] ["_law_script"] (aw (top 46)):=⟨rfl,rfl,rfl,by decide +kernel,rfl,by decide +kernel,by decide +kernel⟩
theorem LF (T:Txt K mg aK aL aG aY ag aD):cS P w K mg base (bO P w) 2 "_law_near" ["_law_script"] (Iy K):=by
 have bS:cS P w K mg base (bO P w) 1 "_law_at" ["_law_script","_law_k"] (fS K):=zU T
 refine T.vS.eO (λ_ _ _ _ _ _ us hl=>match us,hl with | [_],_=>rfl) λf fd F=>F.gu mw (λvs H Q E h=>?_) (λbZ A outer s H vs Q E hr h=>?_)
 ·obtain⟨_,_,rfl,_⟩:=h;rfl
 ·refine(?_:let G_:Prop:=_;G_)
  intro G_
  obtain⟨sa,sc,rfl,hS,kk⟩:=h
  dsimp only[G_]
  have nd:=mw.nd
  refine⟨_,(ai (aP (i:=1) nd rfl (Or.inl rfl) (aX bV ae (aX bK (br bS (hr.mono (by decide)) rfl aM.pass (aa (pv 0) (aa ae af (se rfl)) (se rfl)) (he:=se rfl) (hpl:=na rfl)) ae)))
  (ai (aP (i:=2) nd rfl (Or.inl rfl) (aX bV ae (aX bK (br bS (hr.mono (by decide)) rfl aM.pass (aa (pv 0) (aa ae af (se rfl)) (se rfl)) (he:=se rfl) (hpl:=na rfl)) ae)))
  (ai (aP (i:=3) nd rfl (Or.inl rfl) (aX bK (br bS (hr.mono (by decide)) rfl aM.pass (aa (pv 0) (aa ae af (se rfl)) (se rfl)) (he:=se rfl) (hpl:=na rfl)) ae))
  (ai (aP (i:=4) nd rfl (Or.inl rfl) (bC (aa (aQ (aa aJ (aa fE (aa (bC (aa (aQ (aa aJ (aa aJ (aa (pv 1) af (se rfl)) (se rfl)) (se rfl))) (aa (aQ (aa aJ (aa aJ (aa (aX bV (aX cH ae (pv 2)) (pv 3)) af (se rfl)) (se rfl)) (se rfl))) af (se rfl)) (se rfl))) (aa aJ af (se rfl)) (se rfl)) (se rfl)) (se rfl))) af (se rfl))))
  (ai (bX (dr aas aaG aaH cb.r (pv 4) (aa (aQ (aa aJ (aa fE (aa (bC (aa (aQ (aa aJ (aa aJ (aa (aX bV (aX cH ae (pv 1)) (pv 2)) af (se rfl)) (se rfl)) (se rfl))) (aa (aQ (aa aJ (aa aJ (aa (pv 3) af (se rfl)) (se rfl)) (se rfl))) af (se rfl)) (se rfl))) (aa aJ af (se rfl)) (se rfl)) (se rfl)) (se rfl))) af (se rfl))))
  (ai (bX (dr aas aaG aaH cb.r (pv 4) (aa (aQ (aa aJ (aa fE (aa (bC (aa (aQ (aa aJ (aa aJ (aa (pv 1) af (se rfl)) (se rfl)) (se rfl))) af (se rfl))) (aa aJ af (se rfl)) (se rfl)) (se rfl)) (se rfl))) af (se rfl))))
  (ai (aP (i:=5) nd rfl (Or.inl rfl) (bC (aa (aQ (aa ae (aa ae (aa (bC af) (aa aJ af (se rfl)) (se rfl)) (se rfl)) (se rfl))) (aa (aQ (aa ae (aa ae (aa (bC af) (aa (aB aW (bC (aa aJ (aa aJ af (se rfl)) (se rfl))) (aX bK (br bS (hr.mono (by decide)) rfl aM.pass (aa (pv 0) (aa ae af (se rfl)) (se rfl)) (he:=se rfl) (hpl:=na rfl)) ae) (λ_ _=>rfl)) af (se rfl)) (se rfl)) (se rfl)) (se rfl))) af (se rfl)) (se rfl))))
  (ai (aP (i:=6) nd rfl (Or.inl rfl) (aQ (aa aJ (aa (aQ (aa aJ (aa (bC (aa (aQ (aa aJ (aa ae (aa (aX bV ae (aX bK (br bS (hr.mono (by decide)) rfl aM.pass (aa (pv 0) (aa ae af (se rfl)) (se rfl)) (he:=se rfl) (hpl:=na rfl)) ae)) af (se rfl)) (se rfl)) (se rfl))) af (se rfl))) (aa (aQ (aa (j1 gj ae) (aa ae af (se rfl)) (se rfl))) (aa (pv 5) af (se rfl)) (se rfl)) (se rfl)) (se rfl))) af (se rfl)) (se rfl))))
  (ai (aP (i:=7) nd rfl (Or.inl rfl) (bC (aa (aQ (aa aJ (aa (aQ (aa aJ (aa (aX bV ae (aX bK (br bS (hr.mono (by decide)) rfl aM.pass (aa (pv 0) (aa ae af (se rfl)) (se rfl)) (he:=se rfl) (hpl:=na rfl)) ae)) (aa (pv 4) af (se rfl)) (se rfl)) (se rfl))) af (se rfl)) (se rfl))) (aa (pv 6) (aa (aQ (aa aJ (aa (aQ (aa aJ (aa aJ (aa ae (aa aJ (aa aJ af (se rfl)) (se rfl)) (se rfl)) (se rfl)) (se rfl))) af (se rfl)) (se rfl))) af (se rfl)) (se rfl)) (se rfl))))
  (aA (bf (aQ (aa (bC (aa (aQ (aa aJ (aa ae af (se rfl)) (se rfl))) (aa (aQ (aa aJ (aa ae af (se rfl)) (se rfl))) af (se rfl)) (se rfl))) (aa (aX tW (pv 7) (bC (aa (aQ (aa aJ (aa (aQ (aa aJ (aa (aQ (aa ae (aa ae af (se rfl)) (se rfl))) af (se rfl)) (se rfl))) af (se rfl)) (se rfl))) (aa (aQ (aa aJ (aa (aQ (aa aJ (aa (aQ (aa ae (aa ae af (se rfl)) (se rfl))) af (se rfl)) (se rfl))) af (se rfl)) (se rfl))) af (se rfl)) (se rfl)))) af (se rfl)) (se rfl)))))))))))))),?_⟩
  refine(?_:let cB:TS:=_;let cC:TS:=_;let cD:TS:=_;let dE:TS:=_;let qD:TS:=_;let tw:TS:=_;let zS:TS:=_;let C5:TS:=_;let C6:TS:=_;let F6:TS:=_;tSeq cB (tSeq cC (tSeq cD (tSeq dE (tSeq qD (tSeq tw (tSeq zS (tSeq C5 (tSeq C6 F6)))))))) _ _ _)
  intro cB cC cD dE qD tw zS C5 C6 F6
  have sl:=sizeLine_eq
  change tSeq _ _ _ _ _
  refine bb (λN=>∀(x:Int),1<=x->x<=5->N [some (.ref sa),some (.int x),none,none,none,none,none,none] H) ?_ (λN hN=>?_)
  case refine_2=>
   simp_all only[fS]
   exact⟨sc,hS,by decide,by decide,λn=>⟨by decide,hN _ (by omega) (by omega)⟩⟩
  rintro x x1 x5
  change tSeq _ _ _ _ _
  refine bb (λN=>∀(y:Int),1<=y->y<=5->N [some (.ref sa),some (.int x),some (.int y),none,none,none,none,none] H) ?_ (λN hN=>?_)
  case refine_2=>
   simp_all only[fS]
   exact⟨sc,hS,by decide,by decide,λn=>⟨by decide,hN _ (by omega) (by omega)⟩⟩
  rintro y y1 y5
  change tSeq _ _ _ _ _
  refine bb (λN=>∀(z:Int),0<=z->z<=9->N [some (.ref sa),some (.int x),some (.int y),some (.int z),none,none,none,none] H) ?_ (λN hN=>?_)
  case refine_2=>
   simp_all only[fS]
   exact⟨sc,hS,by decide,by decide,λn=>⟨by decide,hN _ (by omega) (by omega)⟩⟩
  rintro z z0 z9
  change tSeq _ _ _ _ _
  refine bb (λN=>∀H1,aE H H1->∀l xs,H l=none->H1 l=some (.lst xs)->bq (cA H1 l) (([C4 x y z].map oY).map ie) xs->N [some (.ref sa),some (.int x),some (.int y),some (.int z),some (.ref l),none,none,none] H1) ?_ (λN hN=>?_)
  case refine_2=>
   simp_all only[]
   refine⟨by omega,λp1 Ha s1 n1 e1=>⟨dN,by omega,λp2 Hb s2 n2 e2=>⟨by omega,λp3 n3=>⟨by omega,λp4 Hc s4 n4 e4=>⟨by omega,λl nl=>?_⟩⟩⟩⟩⟩
   have u3:=s4
   have u2:=(aj (o:=.lst [V.ref p1,V.ref p2]) n3).trans u3
   have u1:=s2.trans u2
   have u0:=s1.trans u1
   refine hN _ (u0.trans (aj nl)) l _ (none_of u0 nl) ar ?_
   rw[dD,gC nl]
   exact aH.mpr ⟨_,_,rfl,b7.mpr ⟨p4,_,_,_,_,rfl,e4,ao.mpr rfl,mv.mpr rfl,aO.mpr ⟨p3,_,rfl,u3 _ _ ar,aH.mpr ⟨_,_,rfl,bD.mpr ⟨p1,_,_,_,rfl,u1 _ _ e1,ao.mpr rfl,ao.mpr rfl,aI.mpr rfl⟩,aH.mpr ⟨_,_,rfl,bD.mpr ⟨p2,_,_,_,rfl,u2 _ _ e2,ao.mpr rfl,ao.mpr rfl,aI.mpr rfl⟩,ba.mpr rfl⟩⟩⟩,ao.mpr rfl⟩,ba.mpr rfl⟩
  rintro H1 s1 l xs nl hl rl
  have xl:=rl.length
  change tSeq _ _ _ _ _
  refine bb (λN=>∀H2,aE H H2->∀xs,H2 l=some (.lst xs)->bq (cA H2 l) (([C4 x y z,E3 x y z].map oY).map ie) xs->N [some (.ref sa),some (.int x),some (.int y),some (.int z),some (.ref l),none,none,none] H2) ?_ (λN hN=>?_)
  case refine_2=>
   simp_all only[cV]
   refine⟨.inl ⟨rfl,_,bN.of hl⟩,dN,by omega,λp1 Ha LG n1 e1=>⟨by omega,λp2 Hb s2 n2 e2=>⟨by omega,λp3 n3=>⟨by omega,λp4 Hc s4 n4 e4=>?_⟩⟩⟩⟩
   have u3:=s4
   have u2:=(aj (o:=.lst [V.ref p1,V.ref p2]) n3).trans u3
   have u1:=s2.trans u2
   have u0:=LG.trans u1
   have nn:∀{X a o},aE H1 X->X a=none->Hc a=some o->cA Hc l a=some o:=λ{X a o} s n e=>by
    rw[bw (λz=>by rw[z,s _ _ hl] at n;cases n)]
    exact e
   refine⟨_,u0 _ _ hl,by rw[sl];simp at xl;omega,hN _ (bQ (s1.trans u0) nl) _ ar ?_⟩
   refine fG (p:=l) (ds:=([C4 x y z].map oY).map ie) (d:=ie (oY (E3 x y z))) (rl.mono (bM u0)) ?_
   have w1:=LG
   have w2:=w1.trans s2
   have w3:=w2.trans (aj (o:=.lst [V.ref p1,V.ref p2]) n3)
   exact b7.mpr ⟨p4,_,_,_,_,rfl,nn w3 n4 e4,ao.mpr rfl,mv.mpr rfl,aO.mpr ⟨p3,_,rfl,nn w2 n3 (u3 _ _ ar),aH.mpr ⟨_,_,rfl,bD.mpr ⟨p1,_,_,_,rfl,nn (λ_ _ e=>e) n1 (u1 _ _ e1),ao.mpr rfl,ao.mpr rfl,aI.mpr rfl⟩,aH.mpr ⟨_,_,rfl,bD.mpr ⟨p2,_,_,_,rfl,nn w1 n2 (u2 _ _ e2),ao.mpr rfl,ao.mpr rfl,aI.mpr rfl⟩,ba.mpr rfl⟩⟩⟩,ao.mpr rfl⟩
  clear rl hl xl xs s1
  rintro H2 s2 xs hl rl
  have xl:=rl.length
  change tSeq _ _ _ _ _
  refine bb (λN=>∀H3,aE H H3->Rep H3 (.lst (((wI x y z).map oY).map ie)) (.ref l)->N [some (.ref sa),some (.int x),some (.int y),some (.int z),some (.ref l),none,none,none] H3) ?_ (λN hN=>?_)
  case refine_2=>
   simp_all only[cV]
   refine⟨.inl ⟨rfl,_,bN.of hl⟩,by omega,λp1 Ha LG n1 e1=>⟨by omega,λp3 n3=>⟨by omega,λp4 Hc s4 n4 e4=>?_⟩⟩⟩
   have u3:=s4
   have u2:=(aj (o:=.lst [V.ref p1]) n3).trans u3
   have u0:=LG.trans u2
   have nn:∀{X a o},aE H2 X->X a=none->Hc a=some o->cA Hc l a=some o:=λ{X a o} s n e=>by
    rw[bw (λz=>by rw[z,s _ _ hl] at n;cases n)]
    exact e
   refine⟨_,u0 _ _ hl,by rw[sl];simp at xl;omega,hN _ (bQ (s2.trans u0) nl) (aO.mpr ⟨l,_,rfl,ar,?_⟩)⟩
   refine bq.mono bE (fG (p:=l) (ds:=([C4 x y z,E3 x y z].map oY).map ie) (d:=ie (oY (LC x))) (rl.mono (bM u0)) ?_)
   have w1:=LG
   have w3:=w1.trans (aj (o:=.lst [V.ref p1]) n3)
   exact b7.mpr ⟨p4,_,_,_,_,rfl,nn w3 n4 e4,ao.mpr rfl,mv.mpr rfl,aO.mpr ⟨p3,_,rfl,nn w1 n3 (u3 _ _ ar),aH.mpr ⟨_,_,rfl,bD.mpr ⟨p1,_,_,_,rfl,nn (λ_ _ e=>e) n1 (u2 _ _ e1),ao.mpr rfl,ao.mpr rfl,aI.mpr rfl⟩,ba.mpr rfl⟩⟩,ao.mpr rfl⟩
  clear rl hl xl xs s2
  rintro H3 s3 rl
  change tSeq _ _ _ _ _
  refine bb (λN=>∀H4,aE H3 H4->∀rv to,Rep H4 (.lst (((Iw to).map Ez).map ie)) rv->(to=jB\/to=kU)->N [some (.ref sa),some (.int x),some (.int y),some (.int z),some (.ref l),some rv,none,none] H4) ?_ (λN hN=>?_)
  case refine_2=>
   simp_all only[fS]
   refine⟨by omega,λp0 n0=>⟨by omega,λp1 Ha s1 n1 e1=>⟨by omega,λq1 m1=>⟨by omega,λq2 m2=>⟨sc,(s3.trans ((aj n0).trans (s1.trans ((aj m1).trans (aj m2))))).seq hS,by decide,by decide,λn=>?_⟩⟩⟩⟩⟩
   refine(?_:let G_:Prop:=_;G_)
   intro G_
   obtain⟨k,to,ek,et⟩:=mr (l:=[jB,kU]) n (by decide)
   dsimp only[G_]
   have ek:n % 2=(k:Int):=ek
   have ht:to=jB\/to=kU:=by
    have:=aal et
    simpa using this
   have uQ:lD [V.str (Str.ofString "won"),V.str (Str.ofString "lost")] (n % 2)=some (.str to):=by rw[ek];exact uc (f:=V.str) (as:=[jB,kU]) et
   refine⟨by decide,_,ar,_,uQ,by omega,λp2 Hb s2 n2 e2=>⟨by omega,λrv nr=>?_⟩⟩
   have u4:=s2.trans (aj (o:=.lst [V.ref p1,V.ref p2]) nr)
   have u3:=(aj (o:=.lst [V.str (Str.ofString "won"),V.str (Str.ofString "lost")]) m2).trans u4
   have u2:=(aj (o:=.lst []) m1).trans u3
   have u1:=s1.trans u2
   have u0:=(aj (o:=.lst []) n0).trans u1
   exact hN _ u0 _ to (aO.mpr ⟨rv,_,rfl,ar,aH.mpr ⟨_,_,rfl,b7.mpr ⟨p1,_,_,_,_,rfl,u2 _ _ e1,aI.mpr rfl,aI.mpr rfl,aO.mpr ⟨p0,_,rfl,u1 _ _ ar,ba.mpr rfl⟩,ao.mpr rfl⟩,aH.mpr ⟨_,_,rfl,b7.mpr ⟨p2,_,_,_,_,rfl,aj nr _ _ e2,aI.mpr rfl,aI.mpr rfl,aO.mpr ⟨q1,_,rfl,u3 _ _ ar,ba.mpr rfl⟩,ao.mpr rfl⟩,ba.mpr rfl⟩⟩⟩) ht
  rintro H4 s4 rv to YZ LH
  change tSeq _ _ _ _ _
  refine bb (λN=>∀H5,aE H4 H5->∀dv (d:Nat),Rep H5 (LB (j7,.jw [uU (.oG d)] (-1) 1 (Iw to))) dv->2<=d->d<=4->N [some (.ref sa),some (.int x),some (.int y),some (.int z),some (.ref l),some rv,some dv,none] H5) ?_ (λN hN=>?_)
  case refine_2=>
   simp_all only[fS]
   refine⟨sc,(s3.trans s4).seq hS,by decide,by decide,λn=>⟨by decide,by omega,λp1 Ha s1 n1 e1=>⟨by omega,λp2 n2=>⟨by omega,λp3 Hb PD n3 e3=>⟨by omega,λp4 Hc PF n4 e4=>⟨by omega,λp5 Hd s5 n5 e5=>?_⟩⟩⟩⟩⟩⟩
   have u4:=s5
   have u3:=PF.trans u4
   have u2:=PD.trans u3
   have u1:=(aj (o:=.lst [V.ref p1]) n2).trans u2
   have u0:=s1.trans u1
   have ed:(2+n % 3:Int)=(((2+n % 3).toNat:Nat):Int):=by omega
   exact hN _ u0 _ ((2+n % 3).toNat) (aV.mpr ⟨p5,_,_,rfl,e5,ao.mpr rfl,b7.mpr ⟨p4,_,_,_,_,rfl,u4 _ _ e4,ao.mpr rfl,aO.mpr ⟨p2,_,rfl,u2 _ _ ar,aH.mpr ⟨_,_,rfl,bD.mpr ⟨p1,_,_,_,rfl,u1 _ _ e1,ao.mpr rfl,aI.mpr rfl,aI.mpr (congrArg V.int ed)⟩,ba.mpr rfl⟩⟩,aV.mpr ⟨p3,_,_,rfl,u3 _ _ e3,aI.mpr rfl,aI.mpr rfl⟩,YZ.mono u0⟩⟩) (by omega) (by omega)
  rintro H5 s5 dv d Y0 d2 d4
  change tSeq _ _ _ _ _
  refine bb (λN=>∀H6,aE H5 H6->∀pl a1 a3 iy,H6 pl=some (.lst [a1,dv,a3])->Rep H6 (LB (jn,.pick iy (wI x y z))) a1->Rep H6 (LB (wV,.ask wW 3 jB kU)) a3->(iy=1\/iy=2)->N [some (.ref sa),some (.int x),some (.int y),some (.int z),some (.ref l),some rv,some dv,some (.ref pl)] H6) ?_ (λN hN=>?_)
  case refine_2=>
   simp_all only[fS]
   refine⟨sc,(s3.trans (s4.trans s5)).seq hS,by decide,by decide,λn=>⟨by decide,by omega,λp1 Ha s1 n1 e1=>⟨by omega,λp2 Hb s2 n2 e2=>⟨by omega,λp3 Hc PD n3 e3=>⟨by omega,λp4 Hd PF n4 e4=>⟨by omega,λpl F7=>?_⟩⟩⟩⟩⟩⟩
   have u4:=aj (o:=.lst [V.ref p2,dv,V.ref p4]) F7
   have u3:=PF.trans u4
   have u2:=PD.trans u3
   have u1:=s2.trans u2
   have u0:=s1.trans u1
   exact hN _ u0 pl _ _ (1+n % 2) ar (aV.mpr ⟨p2,_,_,rfl,u2 _ _ e2,ao.mpr rfl,bD.mpr ⟨p1,_,_,_,rfl,u1 _ _ e1,ao.mpr rfl,aI.mpr rfl,rl.mono (s4.trans (s5.trans u0))⟩⟩) (aV.mpr ⟨p4,_,_,rfl,u4 _ _ e4,ao.mpr rfl,ng.mpr ⟨p3,_,_,_,_,_,rfl,u3 _ _ e3,ao.mpr rfl,ao.mpr rfl,aI.mpr rfl,ao.mpr rfl,ao.mpr rfl⟩⟩) (by omega)
  rintro H6 s6 pl a1 a3 iy hpl Y1 Y2 hw
  simp_all only[BH]
  refine⟨by omega,λp1 Ha s1 n1 e1=>⟨by omega,λp2 Hb s2 n2 e2=>⟨by omega,λcl Y3=>⟨by omega,λq1 Hc t1 m1 f1=>⟨by omega,λq2 Hd t2 m2 f2=>⟨by omega,λq3 He t3 m3 f3=>⟨by omega,λq4 Hf t4 m4 f4=>⟨by omega,λq5 Hg t5 m5 f5=>⟨by omega,λq6 Hh t6 m6 f6=>⟨by omega,λl2 PJ=>?_⟩⟩⟩⟩⟩⟩⟩⟩⟩⟩
  have v6:=aj (o:=.lst [V.ref q3,V.ref q6]) PJ
  have v5:=t6.trans v6
  have v4:=t5.trans v5
  have v3:=t4.trans v4
  have v2:=t3.trans v3
  have v1:=t2.trans v2
  have v0:=t1.trans v1
  have w0:=(aj (o:=.lst [V.ref p1,V.ref p2]) Y3).trans v0
  have w1:=s2.trans w0
  have w2:=s1.trans w1
  refine⟨_,w2 _ _ hpl,_,ar,(by rw[sl];show 5<=16777216;decide),λl3 PK=>⟨by omega,λp9 Hz sz nz ez=>?_⟩⟩
  have y0:=(aj (o:=.lst ([a1,dv,a3]++ [V.ref q3,V.ref q6])) PK).trans sz
  refine kk _ x y z to d iy Hz (s3.trans (s4.trans (s5.trans (s6.trans (w2.trans y0))))) (aV.mpr ⟨p9,_,_,rfl,ez,?_,aO.mpr ⟨l3,_,rfl,sz _ _ ar,?_⟩⟩) x1 x5 y1 y5 z0 z9 LH d2 d4 hw
  ·exact aO.mpr ⟨cl,_,rfl,(v0.trans y0) _ _ ar,aH.mpr ⟨_,_,rfl,aV.mpr ⟨p1,_,_,rfl,(w1.trans y0) _ _ e1,ao.mpr rfl,aI.mpr rfl⟩,aH.mpr ⟨_,_,rfl,aV.mpr ⟨p2,_,_,rfl,(w0.trans y0) _ _ e2,ao.mpr rfl,aI.mpr rfl⟩,ba.mpr rfl⟩⟩⟩
  ·have PL:=w2.trans y0
   exact aH.mpr ⟨_,_,rfl,Y1.mono PL,aH.mpr ⟨_,_,rfl,Y0.mono (s6.trans PL),aH.mpr ⟨_,_,rfl,Y2.mono PL,aH.mpr ⟨_,_,rfl,aV.mpr ⟨q3,_,_,rfl,(v3.trans y0) _ _ f3,ao.mpr rfl,aV.mpr ⟨q2,_,_,rfl,(v2.trans y0) _ _ f2,ao.mpr rfl,aV.mpr ⟨q1,_,_,rfl,(v1.trans y0) _ _ f1,aI.mpr rfl,aI.mpr rfl⟩⟩⟩,
    aH.mpr ⟨_,_,rfl,aV.mpr ⟨q6,_,_,rfl,(v6.trans y0) _ _ f6,ao.mpr rfl,aV.mpr ⟨q5,_,_,rfl,(v5.trans y0) _ _ f5,ao.mpr rfl,aV.mpr ⟨q4,_,_,rfl,(v4.trans y0) _ _ f4,aI.mpr rfl,aI.mpr rfl⟩⟩⟩,ba.mpr rfl⟩⟩⟩⟩⟩
noncomputable def zV:Dd->List V
 | .set n k=>[.str (Str.ofString "set"),.str n,.int k]
 | .plus n k=>[.str (Str.ofString "plus"),.str n,.int k]
 | .face n=>[.str (Str.ofString "face"),.str n]
 | .move n m=>[.str (Str.ofString "move"),.str n,.str m]
noncomputable def A6:Dd->Str
 | .set n _=>n
 | .plus n _=>n
 | .face n=>n
 | .move n _=>n
theorem E4 {H:Hp} {v:V}:∀{d:Dd},Rep H (uq d) v->∃q,v=.ref q/\H q=some (.tup (zV d))
 | .set n k,h=>by obtain⟨q,x,y,z,e,hq,a,b,c⟩:=bD.mp (show Rep H (.tup _) v from h);rw[ao.mp a,ao.mp b,aI.mp c] at hq;exact⟨q,e,hq⟩
 | .plus n k,h=>by obtain⟨q,x,y,z,e,hq,a,b,c⟩:=bD.mp (show Rep H (.tup _) v from h);rw[ao.mp a,ao.mp b,aI.mp c] at hq;exact⟨q,e,hq⟩
 | .face n,h=>by obtain⟨q,x,y,e,hq,a,b⟩:=aV.mp (show Rep H (.tup _) v from h);rw[ao.mp a,ao.mp b] at hq;exact⟨q,e,hq⟩
 | .move n m,h=>by obtain⟨q,x,y,z,e,hq,a,b,c⟩:=bD.mp (show Rep H (.tup _) v from h);rw[ao.mp a,ao.mp b,ao.mp c] at hq;exact⟨q,e,hq⟩
theorem o4.mem {cs:List (Str×Int)} {th:Bool}:∀{d:Dd},o4 cs th d->A6 d∈cs.map (·.1)
 | .set _ _,h=>h.1
 | .plus _ _,h=>h.1
 | .face _,h=>h.1
 | .move _ _,h=>h.1
theorem tE:∀{l:List Str} {x:Str} {j:Nat},j<l.idxOf x->l[j]?≠some x
 | [],_,_,h=>by simp at h
 | y::l,x,j,h=>by
  rw[List.idxOf_cons] at h
  by_cases c:y=x
  ·rw[c,beq_self_eq_true] at h;exact absurd h (Nat.not_lt_zero _)
  ·rw[beq_false_of_ne c] at h
   cases j with
   | zero=>simpa using c
   | succ j=>rw[List.getElem?_cons_succ];exact tE (l:=l) (Nat.lt_of_succ_lt_succ h)
theorem C7 (l:List Str):(l.map Dat.str).map cf=l.map PyData.str:=by
 rw[aav]
 exact List.map_congr_left λa _=>by show cf (.str a)=_;rw[cf]
theorem uN {l:List Str} {x:Str} (h:x∈l):((l.map Dat.str).map cf)[l.idxOf x]?=some (cf (.str x))/\∀j,j<l.idxOf x->((l.map Dat.str).map cf)[j]?≠some (cf (.str x)):=by
 have hl:=aa2 h
 rw[C7,show cf (.str x)=PyData.str x by rw[cf]]
 refine⟨by rw[aad,aap hl,List.getElem_idxOf];rfl,λj hj e=>?_⟩
 rw[aad] at e
 obtain⟨y,ey,e⟩:=Option.map_eq_some_iff.mp e
 injection e with e
 exact tE hj (e▸ey)
theorem gK {H:Hp}:∀l:List Str,bq H (l.map Dat.str) (l.map V.str)
 | []=>ba.mpr rfl
 | _::l=>aH.mpr ⟨_,_,rfl,ao.mpr rfl,gK l⟩
noncomputable def mA (cs:List (Str×Int)) (ms:List Int):Dd->List Int
 | .set n _=>ms.set (bL cs n) 0
 | .move n _=>ms.set (bL cs n) 0
 | _=>ms
noncomputable def tO:Dd->Str
 | .move _ m=>m
 | d=>A6 d
noncomputable def nU (cs:List (Str×Int)) (x:Int) (ms:List Int):Dd->Int
 | .set _ k=>k
 | .plus _ k=>k
 | .face _=>x
 | .move n _=>ms.getD (bL cs n) 0
theorem C8 {cs:List (Str×Int)} {n m:Str} (hn:n∈cs.map (·.1)) (hm:m∈cs.map (·.1)) (h:n≠m):bL cs n≠bL cs m:=λe=>h (by
 have a:=List.getElem_idxOf (aa2 hn)
 have b:=List.getElem_idxOf (aa2 hm)
 have e:(cs.map (·.1)).idxOf n=(cs.map (·.1)).idxOf m:=e
 rw[<-a,<-b]
 congr 1)
theorem Iz {cs:List (Str×Int)} {x:Int} {ms:List Int} {th:Bool} (ml:ms.length=cs.length):∀{d:Dd},o4 cs th d->fI cs x ms d=(mA cs ms d).set (bL cs (tO d)) (min ((mA cs ms d).getD (bL cs (tO d)) 0+nU cs x ms d) (most cs (bL cs (tO d))))
 | .set n k,h=>by
  have sp:=c8 h.1
  show ur _ _ _ _=(ms.set (bL cs n) 0).set (bL cs n) (min ((ms.set (bL cs n) 0).getD (bL cs n) 0+k) _)
  rw[List.set_set,aa5,List.getElem?_set_self (by omega),Option.getD_some,Int.zero_add]
  rfl
 | .plus n k,h=>rfl
 | .face n,h=>rfl
 | .move n m,h=>by
  have ne:=C8 h.1 h.2.1 h.2.2
  show(ur _ _ _ _).set _ _=(ms.set (bL cs n) 0).set (bL cs m) (min ((ms.set (bL cs n) 0).getD (bL cs m) 0+ms.getD (bL cs n) 0) _)
  rw[aa5 (l:=ms.set _ _),List.getElem?_set_ne ne,<-aa5,List.set_comm _ _ ne]
  rfl
noncomputable def E5:Sp:=λvs H Q _=>∃gv sv dv x cs ps ns ds th goal nm ac ak,vs=[gv,sv,dv,.int x,.str goal]/\Rep H (FL ⟨cs,ps⟩) gv/\GoodC cs/\Rep H (.tup [.str nm,.lst (ns.map .int)]) sv/\ns.length=cs.length/\Rep H (.lst (List.map uq ds)) dv/\ds.length<=6/\(∀d∈ds,o4 cs th d)/\
 (ps.map (·.1)).Nodup/\look ps wV=some (.ask ac ak jB kU)/\ac∈cs.map (·.1)/\∀u H',aE H H'->Rep H' (.tup [.str (if goal=wV then (if ak<=(ds.foldl (fI cs x) ns).getD (bL cs ac) 0 then jB else kU) else goal),.lst ((ds.foldl (fI cs x) ns).map .int)]) u->Q u H'
theorem my {H:Hp}:∀{l:List Int} {vs:List V},bq H (l.map Dat.int) vs->vs=l.map V.int
 | [],_,h=>ba.mp h
 | _::_,_,h=>by
  obtain⟨v,r,rfl,a,b⟩:=aH.mp h
  rw[aI.mp a,my b]
  rfl
theorem ints_rep {H:Hp}:∀l:List Int,bq H (l.map Dat.int) (l.map V.int)
 | []=>ba.mpr rfl
 | _::l=>aH.mpr ⟨_,_,rfl,aI.mpr rfl,ints_rep l⟩
noncomputable def m4 (cs:List (Str×Int)) (ms:List Int):Dd->List Int
 | .move n _=>ms.set (bL cs n) 0
 | _=>ms
noncomputable def n4 (cs:List (Str×Int)) (x:Int) (ms:List Int):Dd->Int
 | .move n _=>ms.getD (bL cs n) 0
 | _=>x
theorem wJ {cs:List (Str×Int)} {x:Int}:∀(ds:List Dd) (ns:List Int),(ds.foldl (fI cs x) ns).length=ns.length
 | [],_=>rfl
 | d::ds,ns=>by rw[List.foldl_cons,wJ ds,uu]
theorem iK:bo ["_law_game_here","_law_state","_law_deeds_here","_law_thrown","_law_goal","_law_names","_law_numbers","_law_deed","_law_at_here","_law_to","_law_number","_law_word","_law_name","_law_least","_law_one","_law_other"] ["_law_game_here","_law_state","_law_deeds_here","_law_thrown","_law_goal"] (aw (top 47)):=⟨rfl,rfl,rfl,by decide +kernel,rfl,by decide +kernel,by decide +kernel⟩
theorem LI (T:Txt K mg aK aL aG aY ag aD):cS P w K mg base (bO P w) 1 "_law_behind" ["_law_game_here","_law_state","_law_deeds_here","_law_thrown","_law_goal"] E5:=by
 refine T.rK.eO (λ_ _ _ _ _ _ us hl=>match us,hl with | [_,_,_,_,_],_=>rfl) λf fd F=>F.gu iK (λvs H Q E h=>?_) (λbZ A outer s H vs Q E hr h=>?_)
 ·obtain⟨_,_,_,_,_,_,_,_,_,_,_,_,_,rfl,_⟩:=h;rfl
 ·refine(?_:let G_:Prop:=_;G_)
  intro G_
  obtain⟨gv,sv,dv,x,cs,ps,ns,ds,th,goal,nmS,ac,ak,rfl,rg,gc,Jm,IA,Y4,d6,gd,Y5,lk,PM,kk⟩:=h
  dsimp only[G_]
  have nd:=iK.nd
  refine⟨_,(ai (lT (i:=5) rfl nd rfl rfl (N:=["_law_game_here","_law_state","_law_deeds_here","_law_thrown","_law_goal","_law_names","_law_numbers","_law_deed","_law_at_here","_law_to","_law_number","_law_word","_law_name","_law_least","_law_one","_law_other"]) (so:=aw (top 47)) (N':=["_law_name","_law_most"]) (k:=2) (fr:=[]) rfl rfl ⟨rfl,by decide +kernel,by decide +kernel,by decide +kernel,rfl,by decide +kernel,by decide +kernel⟩ (bx (K:=K) (aB az (pv 0) ae (λ_ _=>rfl))) (λ_ _ _ _ _=>(c6 (K:=K) (n:=2) rfl (bu (aT (i:=0) (show(["_law_name","_law_most"]:List Str).Nodup by decide +kernel) rfl (Or.inl rfl)) (bu (aT (i:=1) (show(["_law_name","_law_most"]:List Str).Nodup by decide +kernel) rfl (Or.inl rfl)) cU)))) (λ_ _ _ _ _=>cJ)
   (λ_ _ _ _ _=>(pv 0)))
  (ai (aP (i:=6) nd rfl (Or.inl rfl) (dj (eA (K:=K)) (by rfl) T.z_list rfl (aa (aB az (pv 1) ae (λ_ _=>rfl)) af (se rfl)) (he:=se rfl) (hpl:=na rfl)))
  (ai (cQ PassesOwn.never rfl (bx (K:=K) (pv 2)) (aT (i:=7) nd rfl (Or.inl rfl)) (ai (aP (i:=8) nd rfl (Or.inl rfl) (dr aas PySem.F.slot_list_index PySem.F.type_list_index (ji hr.units) (pv 5) (aa (aB az (pv 7) ae (λ_ _=>rfl)) af (se rfl))))
  (ai (aP (i:=9) nd rfl (Or.inl rfl) (pv 8))
  (ai (aP (i:=10) nd rfl (Or.inl rfl) (pv 3))
  (ai (bG (aN bW (aB az (pv 7) ae (λ_ _=>rfl)) aJ (aU _)) (ai (aP (i:=9) nd rfl (Or.inl rfl) (dr aas PySem.F.slot_list_index PySem.F.type_list_index (ji hr.units) (pv 5) (aa (aB az (pv 7) ae (λ_ _=>rfl)) af (se rfl))))
  (ai (aP (i:=10) nd rfl (Or.inl rfl) (aB aW (pv 6) (pv 8) (λ_ _=>rfl)))
  (aA (gQ ae (pC (pv 6) (pv 8) set_list)))))
   bj)
  (ai (bG (aN bW (aB az (pv 7) ae (λ_ _=>rfl)) aJ (aU _)) (aA (gQ ae (pC (pv 6) (pv 8) set_list)))
   bj)
  (ai (bG (PW.pt (pw_or (aN bW (aB az (pv 7) ae (λ_ _=>rfl)) aJ (aU _)) (pw_or1 (aN bW (aB az (pv 7) ae (λ_ _=>rfl)) aJ (aU _))))) (aA (aP (i:=10) nd rfl (Or.inl rfl) (aB az (pv 7) ae (λ_ _=>rfl))))
   bj)
  (aA (gQ (bh (jg rfl) (by rfl) T.z_min rfl (aa (aX bV (aB aW (pv 6) (pv 9) (λ_ _=>rfl)) (pv 10)) (aa (aB az (aB aW (aB az (pv 0) ae (λ_ _=>rfl)) (pv 9) (λ_ _=>rfl)) ae (λ_ _=>rfl)) af (se rfl)) (se rfl)) (he:=se rfl) (hpl:=na rfl)) (pC (pv 6) (pv 9) set_list))))))))))
  (ai (bG (aN bW (pv 4) aJ (aU _)) (ai (gQ (dk (dt hr) (dj (kG (K:=K)) (by rfl) T.z_dict rfl (aa (aB az (pv 0) ae (λ_ _=>rfl)) af (se rfl)) (he:=se rfl) (hpl:=na rfl)) aJ (λ_ _=>rfl)) (c6 (K:=K) (n:=5) rfl (bu (aT (i:=11) nd rfl (Or.inl rfl)) (bu (aT (i:=12) nd rfl (Or.inl rfl)) (bu (aT (i:=13) nd rfl (Or.inl rfl)) (bu (aT (i:=14) nd rfl (Or.inl rfl)) (bu (aT (i:=15) nd rfl (Or.inl rfl)) cU)))))))
  (aA (aP (i:=4) nd rfl (Or.inl rfl) (aB aW (bC (aa (pv 15) (aa (pv 14) af (se rfl)) (se rfl))) (dj xV (by rfl) T.z_int rfl (aa (jf vf (aB aW (pv 6) (dr aas PySem.F.slot_list_index PySem.F.type_list_index (ji hr.units) (pv 5) (aa (pv 12) af (se rfl))) (λ_ _=>rfl)) (pv 13) (aU _)) af (se rfl)) (he:=se rfl) (hpl:=na rfl)) (λ_ _=>rfl)))))
   bj)
  (aA (bf (aQ (aa (pv 4) (aa (pv 6) af (se rfl)) (se rfl))))))))),?_⟩
  refine(?_:let cB:TS:=_;let cC:TS:=_;let cD:TS:=_;let dE:TS:=_;let qD:TS:=_;tSeq cB (tSeq cC (tSeq cD (tSeq dE qD))) _ _ _)
  intro cB cC cD dE qD
  have sl:=sizeLine_eq
  refine(?_:let G_:Prop:=_;G_)
  intro G_
  obtain⟨c1,c4,cg⟩:=id gc
  obtain⟨Y6,IB⟩:=qx gc
  obtain⟨g0,cv,pv,rfl,hg,rc,rp⟩:=aV.mp (show Rep H (.tup _) gv from rg)
  obtain⟨cl,uW,rfl,iC,uK⟩:=aO.mp (show Rep H (.lst _) cv from rc)
  obtain⟨pl,K9,rfl,hpl,Dv⟩:=aO.mp (show Rep H (.lst _) pv from rp)
  obtain⟨st,sn,nv,rfl,hst,Nj,Nk⟩:=aV.mp Jm
  obtain⟨nl,Y7,rfl,hn,PN⟩:=aO.mp Nk
  obtain rfl:=my PN
  obtain⟨dl,oQ,rfl,K3,K4⟩:=aO.mp Y4
  dsimp only[G_]
  have qI:cs.length=uW.length:=by have:=uK.length;rw[aac] at this;exact this
  have EV:=K4.length
  rw[aac] at EV
  change tSeq _ _ _ _ _
  refine bb (λN=>∀H1,aE H H1->∀nm,H nm=none->H1 nm=some (.lst ((cs.map (·.1)).map V.str))->N [some (.ref g0),some (.ref st),some (.ref dl),some (.int x),some (.str goal),some (.ref nm),none,none,none,none,none,none,none,none,none,none] H1) ?_ (λN hN=>?_)
  case refine_2=>
   simp_all only[]
   refine⟨_,hg,_,rfl,cl,rfl,⟨_,bN.of iC⟩,?_⟩
   refine jh (src_list (λH2 s2=>s2.seq (bN.of iC))) (λi a b H3=>∃c,cs[i]?=some c/\a=.str c.1) ?_ (by omega) (λi y H2=>∃c,cs[i]?=some c/\y=.str c.1) (λi y H2 H3 s3 h=>h) ?_ ?_
   ·rintro i y H2 H3 hi s2 ⟨rfl,hy⟩
    refine(?_:let G_:Prop:=_;G_)
    intro G_
    obtain⟨d,ed,rd⟩:=uK.get hy
    rw[aad] at ed
    obtain⟨c,ec,rfl⟩:=Option.map_eq_some_iff.mp ed
    obtain⟨q,a,b,rfl,hq,r1,r2⟩:=aV.mp (show Rep H (.tup _) y from rd)
    dsimp only[G_]
    exact⟨aE.refl _,q,_,_,rfl,hX.of (s2 _ _ hq),c,ec,ao.mp r1⟩
   ·intro i a b H3 Q2 hi s3 fU kq
    refine(?_:let G_:Prop:=_;G_)
    intro G_
    obtain⟨c,ec,rfl⟩:=fU
    dsimp only[G_]
    simp_all only[]
    exact kq _ _ (aE.refl _) ⟨c,ec,rfl⟩
   ·intro ys H2 s2 ly hy D n1 n2
    have e:ys=(cs.map (·.1)).map V.str:=by
     apply List.ext_getElem?
     intro i
     cases ei:ys[i]? with
     | none=>
      rw[aa7] at ei
      rw[aaR (by rw[aac,aac];omega)]
     | some y=>
      refine(?_:let G_:Prop:=_;G_)
      intro G_
      obtain⟨c,ec,rfl⟩:=hy i y ei
      dsimp only[G_]
      rw[aad,aad,ec]
      rfl
    rw[e]
    exact hN _ (s2.trans (aj n2)) D n1 ar
  rintro H1 s1 nm nnm LJ
  change tSeq _ _ _ _ _
  refine bb (λN=>∀H2,aE H1 H2->∀l,H1 l=none->H2 l=some (.lst (List.map V.int ns))->N [some (.ref g0),some (.ref st),some (.ref dl),some (.int x),some (.str goal),some (.ref nm),some (.ref l),none,none,none,none,none,none,none,none,none] H2) ?_ (λN hN=>?_)
  case refine_2=>
   simp_all only[]
   refine⟨_,s1 _ _ hst,_,rfl,?_⟩
   exact⟨nl,rfl,_,.inl (bN.of (s1 _ _ hn)),λl nl=>hN _ (aj nl) l nl ar⟩
  rintro H2 s2 l Bh hl
  have EU:=s1.trans s2
  have PQ:=s2 _ _ LJ
  have Y8:l≠nm:=λz=>by rw[z,LJ] at Bh;cases Bh
  have IC:H l=none:=none_of s1 Bh
  have LK:∀e∈(cs.map (·.1)).map Dat.str,Kd e:=λe he=>by
   refine(?_:let G_:Prop:=_;G_)
   intro G_
   obtain⟨n,hn,rfl⟩:=List.mem_map.mp he
   dsimp only[G_]
   exact⟨IB n hn,by rw[cf,PyData.depth];decide⟩
  change tSeq _ _ _ _ _
  refine eC (λσ' H3=>aE H H3/\H3 nm=some (.lst ((cs.map (·.1)).map V.str))/\H3 l=some (.lst ((ds.foldl (fI cs x) ns).map V.int))/\∃z1 z2 z3 z4,σ'=[some (.ref g0),some (.ref st),some (.ref dl),some (.int x),some (.str goal),some (.ref nm),some (.ref l),z1,z2,z3,z4,none,none,none,none,none]) ?_ (λN hN=>?_)
  case refine_2=>
   simp_all only[]
   refine⟨⟨_,bN.of (EU _ _ K3)⟩,cu (src_list (Ok:=aE H) (λH' k=>bN.of (k _ _ K3))) (λi σ H'=>aE H H'/\H' nm=some (.lst ((cs.map (·.1)).map V.str))/\H' l=some (.lst (((ds.take i).foldl (fI cs x) ns).map V.int))/\∃z1 z2 z3 z4,σ=[some (.ref g0),some (.ref st),some (.ref dl),some (.int x),some (.str goal),some (.ref nm),some (.ref l),z1,z2,z3,z4,none,none,none,none,none]) ⟨EU,PQ,hl,_,_,_,_,rfl⟩ (λ_ _ _ _ h=>h.1) ?_ ?_⟩
   ·intro i y σ H4 H3 hi hW fU
    refine(?_:let G_:Prop:=_;G_)
    intro G_
    obtain⟨s3,mz,w5,z1,z2,z3,z4,rfl⟩:=hW
    obtain⟨rfl,ey⟩:=fU
    obtain⟨dd,ed,rd⟩:=K4.get ey
    rw[aad] at ed
    obtain⟨d,e0,rfl⟩:=Option.map_eq_some_iff.mp ed
    dsimp only[G_]
    have Jo:=gd d (aal e0)
    have ml:((ds.take i).foldl (fI cs x) ns).length=cs.length:=by rw[wJ,IA]
    have tk:(ds.take (i+1)).foldl (fI cs x) ns=fI cs x ((ds.take i).foldl (fI cs x) ns) d:=by rw[aaF,e0,aa1];rfl
    rw[tk]
    generalize (ds.take i).foldl (fI cs x) ns=ms at *
    refine(?_:let G_:Prop:=_;G_)
    intro G_
    obtain⟨q,rfl,hq⟩:=E4 rd
    dsimp only[G_]
    have LL:=s3 _ _ hq
    have ia:=uN Jo.mem
    have sp:=c8 Jo.mem
    have kp:∀{H5:Hp} {xs:List V},aE H H5->H5 nm=some (.lst ((cs.map (·.1)).map V.str))->aE H (upd H5 l (.lst xs))/\upd H5 l (.lst xs) nm=some (.lst ((cs.map (·.1)).map V.str)):=λs h=>⟨bQ s IC,by rw[aF (Ne.symm Y8)];exact h⟩
    simp only[gName,aaY,aaX]
    change tSeq _ _ _ _ _
    refine bb (λN=>N [some (.ref g0),some (.ref st),some (.ref dl),some (.int x),some (.str goal),some (.ref nm),some (.ref l),some (.ref q),some (.int ((bL cs (A6 d):Nat):Int)),z3,z4,none,none,none,none,none] H3) ?_ (λN hN=>?_)
    case refine_2=>
     have a1:lD (zV d) 1=some (.str (A6 d)):=by cases d <;>rfl
     simp_all only[AF,LL,a1]
     refine⟨.inl ⟨rfl,_,bN.of mz⟩,_,mz,(cs.map (·.1)).map Dat.str,gK _,LK,.str (A6 d),ao.mpr rfl,⟨IB _ Jo.mem,by rw[cf,PyData.depth];decide⟩,_,ia.1,ia.2,?_,hN⟩
     show bL cs (A6 d)<100000
     omega
    change tSeq _ _ _ _ _
    refine bb (λN=>N [some (.ref g0),some (.ref st),some (.ref dl),some (.int x),some (.str goal),some (.ref nm),some (.ref l),some (.ref q),some (.int ((bL cs (A6 d):Nat):Int)),some (.int ((bL cs (A6 d):Nat):Int)),z4,none,none,none,none,none] H3) ?_ (λN hN=>?_)
    case refine_2=>
     simp_all only[]
     exact hN
    change tSeq _ _ _ _ _
    refine bb (λN=>N [some (.ref g0),some (.ref st),some (.ref dl),some (.int x),some (.str goal),some (.ref nm),some (.ref l),some (.ref q),some (.int ((bL cs (A6 d):Nat):Int)),some (.int ((bL cs (A6 d):Nat):Int)),some (.int x),none,none,none,none,none] H3) ?_ (λN hN=>?_)
    case refine_2=>
     simp_all only[]
     exact hN
    change tSeq _ _ _ _ _
    refine bb (λN=>∀H4,aE H H4->H4 nm=some (.lst ((cs.map (·.1)).map V.str))->H4 l=some (.lst ((m4 cs ms d).map V.int))->N [some (.ref g0),some (.ref st),some (.ref dl),some (.int x),some (.str goal),some (.ref nm),some (.ref l),some (.ref q),some (.int ((bL cs (A6 d):Nat):Int)),some (.int ((bL cs (tO d):Nat):Int)),some (.int (n4 cs x ms d)),none,none,none,none,none] H4) ?_ (λN hN=>?_)
    case refine_2=>
     cases d with
     | move n m=>
      have hm:m∈cs.map (·.1):=Jo.2.1
      have im:=uN hm
      have sm:(cs.map (·.1)).idxOf m<cs.length:=c8 hm
      simp_all only[LL,zV,rSetL,AF]
      refine⟨.inl ⟨rfl,_,bN.of mz⟩,_,mz,(cs.map (·.1)).map Dat.str,gK _,LK,.str m,ao.mpr rfl,⟨IB _ hm,by rw[cf,PyData.depth];decide⟩,_,im.1,im.2,by omega,_,w5,_,dG (by rw[ml];exact sp),_,w5,_,ma (by rw[aac,ml];exact sp),?_⟩
      rw[<-List.map_set]
      exact hN _ ((kp s3 mz).1) ((kp s3 mz).2) ar
     | set n k=>exact dU (λY N k=>by simp_all only[LL,zV];first | exact k | (rw[if_neg (by decide +kernel)];exact k) | (rw[if_neg (by decide +kernel),if_neg (by decide +kernel)];exact k)) (hN _ s3 mz w5)
     | plus n k=>exact dU (λY N k=>by simp_all only[LL,zV];first | exact k | (rw[if_neg (by decide +kernel)];exact k) | (rw[if_neg (by decide +kernel),if_neg (by decide +kernel)];exact k)) (hN _ s3 mz w5)
     | face n=>exact dU (λY N k=>by simp_all only[LL,zV];first | exact k | (rw[if_neg (by decide +kernel)];exact k) | (rw[if_neg (by decide +kernel),if_neg (by decide +kernel)];exact k)) (hN _ s3 mz w5)
    rintro H4 s4 C9 A7
    have Nl:=s4 _ _ hq
    change tSeq _ _ _ _ _
    refine bb (λN=>∀H5,aE H H5->H5 nm=some (.lst ((cs.map (·.1)).map V.str))->H5 l=some (.lst ((mA cs ms d).map V.int))->N [some (.ref g0),some (.ref st),some (.ref dl),some (.int x),some (.str goal),some (.ref nm),some (.ref l),some (.ref q),some (.int ((bL cs (A6 d):Nat):Int)),some (.int ((bL cs (tO d):Nat):Int)),some (.int (n4 cs x ms d)),none,none,none,none,none] H5) ?_ (λN hN=>?_)
    case refine_2=>
     cases d with
     | set n k=>
      have FG:H4 l=some (.lst (ms.map V.int)):=A7
      simp_all only[Nl,zV,rSetL]
      refine⟨_,FG,_,ma (by rw[aac,ml];exact sp),?_⟩
      rw[<-List.map_set]
      exact hN _ ((kp s4 C9).1) ((kp s4 C9).2) ar
     | move n m=>exact dU (λY N k=>by simp_all only[Nl,zV];first | exact k | (rw[if_neg (by decide +kernel)];exact k) | (rw[if_neg (by decide +kernel),if_neg (by decide +kernel)];exact k)) (hN _ s4 C9 A7)
     | plus n k=>exact dU (λY N k=>by simp_all only[Nl,zV];first | exact k | (rw[if_neg (by decide +kernel)];exact k) | (rw[if_neg (by decide +kernel),if_neg (by decide +kernel)];exact k)) (hN _ s4 C9 A7)
     | face n=>exact dU (λY N k=>by simp_all only[Nl,zV];first | exact k | (rw[if_neg (by decide +kernel)];exact k) | (rw[if_neg (by decide +kernel),if_neg (by decide +kernel)];exact k)) (hN _ s4 C9 A7)
    rintro H5 s5 A8 Bf
    have Np:=s5 _ _ hq
    change tSeq _ _ _ _ _
    refine bb (λN=>∀H6,aE H H6->H6 nm=some (.lst ((cs.map (·.1)).map V.str))->H6 l=some (.lst ((mA cs ms d).map V.int))->N [some (.ref g0),some (.ref st),some (.ref dl),some (.int x),some (.str goal),some (.ref nm),some (.ref l),some (.ref q),some (.int ((bL cs (A6 d):Nat):Int)),some (.int ((bL cs (tO d):Nat):Int)),some (.int (nU cs x ms d)),none,none,none,none,none] H6) ?_ (λN hN=>?_)
    case refine_2=>
     cases d with
     | set n k=>
      simp_all only[Np,zV]
      first | exact hN _ s5 A8 Bf | exact⟨_,rfl,hN _ s5 A8 Bf⟩
     | plus n k=>
      simp_all only[Np,zV]
      first | exact hN _ s5 A8 Bf | (rw[if_neg (by decide +kernel)];exact hN _ s5 A8 Bf)
     | move n m=>exact dU (λY N k=>by simp_all only[Np,zV];first | exact k | (rw[if_neg (by decide +kernel)];exact k) | (rw[if_neg (by decide +kernel),if_neg (by decide +kernel)];exact k)) (hN _ s5 A8 Bf)
     | face n=>exact dU (λY N k=>by simp_all only[Np,zV];first | exact k | (rw[if_neg (by decide +kernel)];exact k) | (rw[if_neg (by decide +kernel),if_neg (by decide +kernel)];exact k)) (hN _ s5 A8 Bf)
    rintro H6 s6 wK V9
    have Fz:bL cs (tO d)<cs.length:=by cases d <;>first | exact sp | exact c8 Jo.2.1
    have Wa:(mA cs ms d).length=cs.length:=by cases d <;>simp [mA,ml]
    obtain⟨cq,Y9,Nq⟩:∃cq,uW[bL cs (tO d)]?=some (.ref cq)/\H cq=some (.tup [.str (cs[bL cs (tO d)]).1,.int (most cs (bL cs (tO d)))]):=by
     obtain⟨v,ev,rv⟩:=uK.at (i:=bL cs (tO d)) (by rw[aad,aap Fz];rfl)
     refine(?_:let G_:Prop:=_;G_)
     intro G_
     obtain⟨cq,a,b,rfl,Nq,r1,r2⟩:=aV.mp (show Rep H (.tup _) v from rv)
     dsimp only[G_]
     rw[ao.mp r1,aI.mp r2] at Nq
     refine⟨cq,ev,?_⟩
     rw[Nq]
     unfold most
     rw[aa5,aad,aap Fz]
     rfl
    simp_all only[rSetL]
    have emin:∀a b:Int,min a b=if b<a then b else a:=λa b=>by
     by_cases c:b<a
     ·rw[if_pos c];omega
     ·rw[if_neg c];omega
    rw[Iz ml Jo,emin,List.map_set]
    refine⟨_,V9,_,dG (by rw[Wa];exact Fz),_,rfl,_,s6 _ _ hg,_,rfl,_,rfl,_,s6 _ _ iC,_,bJ Y9,_,rfl,_,s6 _ _ Nq,_,rfl,_,rfl,_,V9,_,ma (by rw[aac,Wa];exact Fz),?_⟩
    first | exact⟨(kp s6 wK).1,(kp s6 wK).2,ar,_,rfl⟩ | exact⟨(kp s6 wK).1,(kp s6 wK).2,ar,_,_,rfl⟩ | exact⟨(kp s6 wK).1,(kp s6 wK).2,ar,_,_,_,rfl⟩ | exact⟨(kp s6 wK).1,(kp s6 wK).2,ar,rfl⟩
   ·intro σ H3 eQ
    refine(?_:let G_:Prop:=_;G_)
    intro G_
    obtain⟨s3,mz,w5,z1,z2,z3,z4,rfl⟩:=eQ
    dsimp only[G_]
    rw[aaE (by omega)] at w5
    exact hN _ _ ⟨s3,mz,w5,_,_,_,_,rfl⟩
  intro _ H3 eQ
  refine(?_:let G_:Prop:=_;G_)
  intro G_
  obtain⟨s3,mz,w5,z1,z2,z3,z4,rfl⟩:=eQ
  dsimp only[G_]
  have fl:(ds.foldl (fI cs x) ns).length=cs.length:=by
   have:∀(ds:List Dd) (ns:List Int),(ds.foldl (fI cs x) ns).length=ns.length:=λds=>by
    induction ds with
    | nil=>intro ns;rfl
    | cons d ds ih=>intro ns;rw[List.foldl_cons,ih,uu]
   rw[this,IA]
  generalize ds.foldl (fI cs x) ns=ms at *
  have sp:=c8 PM
  simp_all only[AF]
  by_cases ga:goal=wV
  ·rw[if_pos (show goal=Str.ofString "ask" from ga)]
   refine(?_:let G_:Prop:=_;G_)
   intro G_
   obtain⟨rows,e1,e2,e3,e4⟩:=pw (K:=K) (Dv.mono s3)
   obtain⟨v,ev,rv⟩:=e4 _ _ lk
   obtain⟨aq,v1,v2,v3,v4,v5,rfl,Wb,r1,r2,r3,r4,r5⟩:=ng.mp (show Rep H3 (.tup _) v from rv)
   dsimp only[G_]
   rw[ao.mp r1,ao.mp r2,aI.mp r3,ao.mp r4,ao.mp r5] at Wb
   have ia:=uN PM
   refine⟨_,s3 _ _ hg,_,rfl,_,rfl,rows,by rw[<-e1];exact bN.of (s3 _ _ hpl),e2,by rw[e3];exact nh Y5,λdd Dz=>⟨V.ref aq,?_,?_⟩⟩
   ·exact .inl ⟨_,.inr wV,.inl ar,rfl,ev.symm⟩
   ·have sd:=aj (o:=.dK (rows.map (·.2))) Dz
    refine⟨aq,_,rfl,hX.of (sd _ _ Wb),rfl,?_⟩
    simp_all only[AF,gCons,gName,gNil]
    refine⟨by omega,λp np=>?_⟩
    have LM:=sd.trans (aj (o:=.lst [V.str kU,V.str jB]) np)
    have LN:lD [V.str kU,V.str jB] (if ak<=ms.getD (bL cs ac) 0 then 1 else 0)=some (.str (if ak<=ms.getD (bL cs ac) 0 then jB else kU)):=by
     by_cases q:ak<=ms.getD (bL cs ac) 0
     ·rw[if_pos q,if_pos q];rfl
     ·rw[if_neg q,if_neg q];rfl
    refine⟨.inl ⟨rfl,_,bN.of (LM _ _ mz)⟩,_,LM _ _ mz,(cs.map (·.1)).map Dat.str,gK _,LK,.str ac,ao.mpr rfl,⟨IB _ PM,by rw[cf,PyData.depth];decide⟩,_,ia.1,ia.2,?_,_,LM _ _ w5,_,dG (by rw[fl];exact sp),_,rfl,_,ar,_,LN,by omega,λp1 H4 s4 n4 e4=>?_⟩
    ·show bL cs ac<100000
     omega
    ·rw[if_pos ga] at kk
     exact kk _ _ (s3.trans (LM.trans s4)) (aV.mpr ⟨p1,_,_,rfl,e4,ao.mpr rfl,aO.mpr ⟨l,_,rfl,s4 _ _ (LM _ _ w5),ints_rep _⟩⟩)
  ·rw[if_neg (show ¬goal=Str.ofString "ask" from ga)]
   rw[if_neg ga] at kk
   exact⟨by omega,λp H4 s4 n4 e4=>kk _ _ (s3.trans s4) (aV.mpr ⟨p,_,_,rfl,e4,ao.mpr rfl,aO.mpr ⟨l,_,rfl,s4 _ _ w5,ints_rep _⟩⟩)⟩
noncomputable def Dc (G:Gp):Prop:=∀r∈G.rs,c5 (.str r.word)=true
noncomputable def ID (K:PySem.W.Frag):Sp:=λvs H Q _=>∃a sc,vs=[.ref a]/\bN K H a (List.map V.int sc)/\∀gv G H',aE H H'->Rep H' (FL (Gp.g G)) gv->G.Ok->Dc G->Q gv H'
theorem mB:bo ["_law_script","_law_counts","_law_k","_law_names","_law_aims","_law_sides","_law_rows","_law_ways","_law_cell","_law_when","_law_ask","_law_places"] ["_law_script"] (aw (top 45)):=⟨rfl,rfl,rfl,by decide +kernel,rfl,by decide +kernel,by decide +kernel⟩
theorem LO (T:Txt K mg aK aL aG aY ag aD):cS P w K mg base (bO P w) 3 "_law_game" ["_law_script"] (ID K):=by
 have bS:cS P w K mg base (bO P w) 1 "_law_at" ["_law_script","_law_k"] (fS K):=zU T
 have fz:cS P w K mg base (bO P w) 2 "_law_deeds" ["_law_script","_law_at_here","_law_counts","_law_is_thrown"] (A5 K):=LA T
 refine T.vR.eO (λ_ _ _ _ _ _ us hl=>match us,hl with | [_],_=>rfl) λf fd F=>F.gu mB (λvs H Q E h=>?_) (λbZ A outer s H vs Q E hr h=>?_)
 ·obtain⟨_,_,rfl,_⟩:=h;rfl
 ·refine(?_:let G_:Prop:=_;G_)
  intro G_
  obtain⟨sa,sc,rfl,hS,kk⟩:=h
  dsimp only[G_]
  have nd:=mB.nd
  refine⟨_,(ai (aP (i:=1) nd rfl (Or.inl rfl) (bC af))
  (ai (cQ PassesOwn.never rfl (fB rfl T.z_range (aa (aX bV ae (aX bK (br bS (hr.mono (by decide)) rfl aM.pass (aa (pv 0) (aa ae af (se rfl)) (se rfl)) (he:=se rfl) (hpl:=na rfl)) ae)) af (se rfl))) (aT (i:=2) nd rfl (Or.inl rfl)) (aA (bX (dr aas aaG aaH cb.r (pv 1) (aa (aQ (aa (aB aW (bC (aa aJ (aa aJ (aa aJ af (se rfl)) (se rfl)) (se rfl))) (pv 2) (λ_ _=>rfl)) (aa (aX bV ae (aX bK (br bS (hr.mono (by decide)) rfl aM.pass (aa (pv 0) (aa (aX bV ae (pv 2)) af (se rfl)) (se rfl)) (he:=se rfl) (hpl:=na rfl)) ae)) af (se rfl)) (se rfl))) af (se rfl))))))
  (ai (aP (i:=3) nd rfl (Or.inr rfl) (bC (aa aJ (aa aJ (aa aJ (aa aJ (aa aJ af (se rfl)) (se rfl)) (se rfl)) (se rfl)) (se rfl))))
  (ai (lT (i:=4) rfl nd rfl rfl (N:=["_law_script","_law_counts","_law_k","_law_names","_law_aims","_law_sides","_law_rows","_law_ways","_law_cell","_law_when","_law_ask","_law_places"]) (so:=aw (top 45)) (N':=["_law_k","_law_script","_law_names"]) (k:=1) (fr:=[0,3]) rfl rfl ⟨rfl,by decide +kernel,by decide +kernel,by decide +kernel,rfl,by decide +kernel,by decide +kernel⟩ (fB rfl T.z_range (aa ae af (se rfl))) (λ_ _ _ _ _=>(aT (i:=0) (show(["_law_k","_law_script","_law_names"]:List Str).Nodup by decide +kernel) rfl (Or.inl rfl))) (λ_ _ _ _ _=>cJ)
   (λ_ _ _ _ _=>(aB aW (pv 2) (aX bK (br bS (hr.mono (by decide)) rfl aM.pass (aa (pv 1) (aa (aX bV ae (pv 0)) af (se rfl)) (se rfl)) (he:=se rfl) (hpl:=na rfl)) ae) (λ_ _=>rfl))))
  (ai (aP (i:=5) nd rfl (Or.inl rfl) (aX bV ae (aX bK (br bS (hr.mono (by decide)) rfl aM.pass (aa (pv 0) (aa ae af (se rfl)) (se rfl)) (he:=se rfl) (hpl:=na rfl)) ae)))
  (ai (aP (i:=6) nd rfl (Or.inl rfl) (bC (aa (aQ (aa ae (aa ae (aa (br fz (hr.mono (by decide)) rfl aM.pass (aa (pv 0) (aa ae (aa (pv 1) (aa eU af (se rfl)) (se rfl)) (se rfl)) (se rfl)) (he:=se rfl) (hpl:=na rfl)) (aa (aB aW (pv 4) ae (λ_ _=>rfl)) af (se rfl)) (se rfl)) (se rfl)) (se rfl))) af (se rfl))))
  (ai (bX (dr aas aaG aaH cb.r (pv 6) (aa (aQ (aa ae (aa ae (aa (br fz (hr.mono (by decide)) rfl aM.pass (aa (pv 0) (aa ae (aa (pv 1) (aa eU af (se rfl)) (se rfl)) (se rfl)) (se rfl)) (he:=se rfl) (hpl:=na rfl)) (aa (aB aW (pv 4) ae (λ_ _=>rfl)) af (se rfl)) (se rfl)) (se rfl)) (se rfl))) af (se rfl))))
  (ai (aP (i:=7) nd rfl (Or.inl rfl) (bC (aa (aQ (aa aJ (aa fE (aa (br fz (hr.mono (by decide)) rfl aM.pass (aa (pv 0) (aa ae (aa (pv 1) (aa eU af (se rfl)) (se rfl)) (se rfl)) (se rfl)) (he:=se rfl) (hpl:=na rfl)) (aa (aB aW (pv 4) ae (λ_ _=>rfl)) af (se rfl)) (se rfl)) (se rfl)) (se rfl))) af (se rfl))))
  (ai (aP (i:=8) nd rfl (Or.inl rfl) (br bS (hr.mono (by decide)) rfl aM.pass (aa (pv 0) (aa ae af (se rfl)) (se rfl)) (he:=se rfl) (hpl:=na rfl)))
  (ai (aP (i:=9) nd rfl (Or.inl rfl) (aQ (aa (aB az (aB aW (pv 1) (aX bK (pv 8) (bh bI (by rfl) T.z_len aao (aa (pv 1) af (se rfl)) (he:=se rfl) (hpl:=na rfl))) (λ_ _=>rfl)) ae (λ_ _=>rfl)) (aa (aB aW (bC (aa aJ (aa aJ af (se rfl)) (se rfl))) (aX bK (aX cI (pv 8) ae) ae) (λ_ _=>rfl)) (aa (aX bK (aX cI (pv 8) ae) ae) af (se rfl)) (se rfl)) (se rfl))))
  (ai (bX (dr aas aaG aaH cb.r (pv 7) (aa (aQ (aa aJ (aa (pv 9) (aa (br fz (hr.mono (by decide)) rfl aM.pass (aa (pv 0) (aa ae (aa (pv 1) (aa eU af (se rfl)) (se rfl)) (se rfl)) (se rfl)) (he:=se rfl) (hpl:=na rfl)) (aa (aB aW (pv 4) ae (λ_ _=>rfl)) af (se rfl)) (se rfl)) (se rfl)) (se rfl))) af (se rfl))))
  (ai (bG (aN bW (aX bK (aX cI (pv 8) ae) ae) ae (aU _)) (aA (bX (dr aas aaG aaH cb.r (pv 7) (aa (aQ (aa aJ (aa (aQ (aa (aB az (pv 9) ae (λ_ _=>rfl)) (aa (aB aW (bC (aa aJ (aa aJ af (se rfl)) (se rfl))) (aX bK (aX cI (pv 8) ae) ae) (λ_ _=>rfl)) (aa (aB az (pv 9) ae (λ_ _=>rfl)) af (se rfl)) (se rfl)) (se rfl))) (aa (bC af) (aa (aB aW (pv 4) ae (λ_ _=>rfl)) af (se rfl)) (se rfl)) (se rfl)) (se rfl))) af (se rfl)))))
   bj)
  (ai (aP (i:=10) nd rfl (Or.inl rfl) (aQ (aa aJ (aa (aB az (aB aW (pv 1) (aX bK (aX cI (pv 8) ae) (bh bI (by rfl) T.z_len aao (aa (pv 1) af (se rfl)) (he:=se rfl) (hpl:=na rfl))) (λ_ _=>rfl)) ae (λ_ _=>rfl)) (aa (aX bK (aX cI (pv 8) ae) ae) (aa aJ (aa aJ af (se rfl)) (se rfl)) (se rfl)) (se rfl)) (se rfl))))
  (ai (aP (i:=11) nd rfl (Or.inl rfl) (bC (aa (aQ (aa aJ (aa (aQ (aa aJ (aa (bC (aa (aQ (aa aJ (aa ae (aa (pv 5) af (se rfl)) (se rfl)) (se rfl))) af (se rfl))) (aa (aQ (aa (j1 gj ae) (aa ae af (se rfl)) (se rfl))) (aa (pv 6) af (se rfl)) (se rfl)) (se rfl)) (se rfl))) af (se rfl)) (se rfl))) (aa (aQ (aa aJ (aa (aQ (aa aJ (aa (aX bV ae (aX bK (aX cI (pv 8) ae) ae)) (aa (pv 7) af (se rfl)) (se rfl)) (se rfl))) af (se rfl)) (se rfl))) af (se rfl)) (se rfl))))
  (ai (bG (aN bW (aX bK (br bS (hr.mono (by decide)) rfl aM.pass (aa (pv 0) (aa ae af (se rfl)) (se rfl)) (he:=se rfl) (hpl:=na rfl)) ae) ae (aU _)) (aA (bX (BF aas PySem.F.slot_list_reverse PySem.F.type_list_reverse xG.r (pv 11))))
   bj)
  (aA (bf (aQ (aa (pv 1) (aa (aX tW (pv 11) (bC (aa (aQ (aa aJ (aa (pv 10) af (se rfl)) (se rfl))) (aa (aQ (aa aJ (aa (aQ (aa aJ (aa (aQ (aa ae (aa ae af (se rfl)) (se rfl))) af (se rfl)) (se rfl))) af (se rfl)) (se rfl))) (aa (aQ (aa aJ (aa (aQ (aa aJ (aa (aQ (aa ae (aa ae af (se rfl)) (se rfl))) af (se rfl)) (se rfl))) af (se rfl)) (se rfl))) af (se rfl)) (se rfl)) (se rfl)))) af (se rfl)) (se rfl)))))))))))))))))))),?_⟩
  refine(?_:let cB:TS:=_;let cC:TS:=_;let cD:TS:=_;let dE:TS:=_;let qD:TS:=_;let tw:TS:=_;let zS:TS:=_;let C5:TS:=_;let C6:TS:=_;let F6:TS:=_;let De:TS:=_;let Df:TS:=_;let LP:TS:=_;let LQ:TS:=_;let LR:TS:=_;let LS:TS:=_;tSeq cB (tSeq cC (tSeq cD (tSeq dE (tSeq qD (tSeq tw (tSeq zS (tSeq C5 (tSeq C6 (tSeq F6 (tSeq De (tSeq Df (tSeq LP (tSeq LQ (tSeq LR LS)))))))))))))) _ _ _)
  intro cB cC cD dE qD tw zS C5 C6 F6 De Df LP LQ LR LS
  have sl:=sizeLine_eq
  change tSeq _ _ _ _ _
  refine bb (λN=>∀H1,aE H H1->∀l,H l=none->H1 l=some (.lst [])->N [some (.ref sa),some (.ref l),none,none,none,none,none,none,none,none,none,none] H1) ?_ (λN hN=>?_)
  case refine_2=>
   simp_all only[]
   exact⟨aak _,λl nl=>hN _ (aj nl) l nl ar⟩
  rintro H1 s1 l Bh hl
  change tSeq _ _ _ _ _
  refine bb (λN=>∀H2,aE H H2->∀cs z,Rep H2 (OF cs) (.ref l)->GoodC cs->N [some (.ref sa),some (.ref l),z,none,none,none,none,none,none,none,none,none] H2) ?_ (λN hN=>?_)
  case refine_2=>
   simp_all only[fS]
   refine⟨sc,s1.seq hS,by decide,by decide,λn=>?_⟩
   refine⟨by decide,by omega,by omega,?_⟩
   obtain⟨m,hm⟩:∃m:Nat,m=(1+n % 3).toNat:=⟨_,rfl⟩
   have m1:1<=m:=by omega
   have m3:m<=3:=by omega
   rw[<-hm]
   refine cu (src_range (Ok:=λ_=>True)) (λi σ H'=>aE H H'/\(∃(cs:List (Str×Int)) (xs:List V),cs.length=i/\H' l=some (.lst xs)/\bq (cA H' l) (cs.map λc=>Dat.tup [.str c.1,.int c.2]) xs/\∀(j:Nat) c,cs[j]?=some c->cN[j]?=some c.1/\1<=c.2/\c.2<=60)/\∃z,σ=[some (.ref sa),some (.ref l),z,none,none,none,none,none,none,none,none,none]) ⟨s1,⟨[],[],rfl,hl,ba.mpr rfl,λj c e=>by cases e⟩,_,rfl⟩ (λ_ _ _ _ _=>trivial) ?_ ?_
   ·intro i x σ H4 H3 hi hW fU
    refine(?_:let G_:Prop:=_;G_)
    intro G_
    obtain⟨s3,⟨cs,xs,lc,hx,rx,gd⟩,z1,rfl⟩:=hW
    obtain⟨rfl,rfl⟩:=fU
    dsimp only[G_]
    have xl:=rx.length
    rw[aac] at xl
    obtain⟨cn,Wc⟩:∃cn,cN[i]?=some cn:=⟨_,aap (show i<cN.length from(by show i<3;omega))⟩
    simp_all only[cV,fS]
    have uQ:lD [V.str (Str.ofString "sum"),V.str (Str.ofString "all"),V.str (Str.ofString "if")] (0+ (i:Int))=some (.str cn):=by rw[Int.zero_add];exact uc (f:=V.str) (as:=cN) Wc
    refine⟨.inl ⟨rfl,_,bN.of hx⟩,by omega,λp np=>⟨_,ar,_,uQ,sc,(s3.trans (aj np)).seq hS,by omega,by omega,λn5=>⟨by decide,by omega,λp1 H5 s5 oP e5=>?_⟩⟩⟩
    have Bi:=(aj np).trans s5
    have pl:p1≠l:=λz=>by rw[z,aj np _ _ hx] at oP;cases oP
    refine⟨_,Bi _ _ hx,by omega,bQ (s3.trans Bi) Bh,⟨cs++ [(cn,1+n5 % 5)],by rw[aan,lc];rfl,_,ar,?_,λj c e=>?_⟩,_,rfl⟩
    ·rw[aaz]
     exact fG (rx.mono (bM Bi)) (aV.mpr ⟨p1,_,_,rfl,by rw[bw pl];exact e5,ao.mpr rfl,aI.mpr rfl⟩)
    ·by_cases cj:j<cs.length
     ·rw[aaN cj] at e
      exact gd j c e
     ·have ej:j=cs.length:=by
       have:=(List.getElem?_eq_some_iff.mp e).1
       rw[aan,aay] at this
       omega
      subst ej
      rw[aa3 (aaf _),Nat.sub_self] at e
      cases e
      rw[lc]
      exact⟨Wc,by show 1<=1+n5 % 5;omega,by show 1+n5 % 5<=60;omega⟩
   ·intro σ H3 eQ
    refine(?_:let G_:Prop:=_;G_)
    intro G_
    obtain⟨s3,⟨cs,xs,lc,hx,rx,gd⟩,z1,rfl⟩:=eQ
    dsimp only[G_]
    exact hN _ s3 cs _ (aO.mpr ⟨l,xs,rfl,hx,rx.mono bE⟩) ⟨by omega,by omega,gd⟩
  clear hl s1
  rintro H2 s2 cs z Za gc
  change tSeq _ _ _ _ _
  refine bb (λN=>∀H3,aE H2 H3->∀nl,H3 nl=some (.lst (rM.map V.str))->N [some (.ref sa),some (.ref l),z,some (.ref nl),none,none,none,none,none,none,none,none] H3) ?_ (λN hN=>?_)
  case refine_2=>
   simp_all only[]
   exact⟨by omega,λnl nn=>hN _ (aj nn) nl ar⟩
  rintro H3 s3 nl Zb
  change tSeq _ _ _ _ _
  refine bb (λN=>∀H4,aE H3 H4->∀(al:Addr) (as:List Str),H4 al=some (.lst (as.map V.str))->as.length=6->(∀a∈as,a∈rM)->N [some (.ref sa),some (.ref l),z,some (.ref nl),some (.ref al),none,none,none,none,none,none,none] H4) ?_ (λN hN=>?_)
  case refine_2=>
   simp_all only[fS]
   refine⟨by decide,by decide,md (src_range (Ok:=λ_=>True)) (λi ys σ H'=>H3=H'/\∃as:List Str,as.length=i/\(∀a∈as,a∈rM)/\ys=as.map V.str/\∃z,σ=[z,some (.ref sa),some (.ref nl)]) ⟨rfl,[],rfl,(λa ha=>by cases ha),rfl,_,rfl⟩ (λ_ _ _ _ _=>trivial) (by rw[sl];decide) ?_ ?_⟩
   ·intro i x σ H' ys wX Q5 N5 hi Ik yv hQ LU
    refine(?_:let G_:Prop:=_;G_)
    intro G_
    obtain⟨rfl,as,la,LV,rfl,z5,rfl⟩:=Ik
    obtain⟨rfl,rfl⟩:=yv
    dsimp only[G_]
    have hi6:i<6:=hi
    simp_all only[pP,fS]
    refine⟨sc,(s2.trans s3).seq hS,by omega,by omega,λn=>?_⟩
    refine(?_:let G_:Prop:=_;G_)
    intro G_
    obtain⟨k,a,ek,ea⟩:=mr (l:=rM) n (by decide)
    dsimp only[G_]
    have ek:n % 5=(k:Int):=ek
    have uQ:lD (rM.map V.str) (n % 5)=some (.str a):=by rw[ek];exact uc (f:=V.str) ea
    refine⟨by decide,_,Zb,_,uQ,hQ _ _ _ ⟨rfl,as++ [a],by rw[aan,la];rfl,λb hb=>?_,by rw[aaz];rfl,_,rfl⟩⟩
    rcases List.mem_append.mp hb with hb | hb
    ·exact LV b hb
    ·rw[List.mem_singleton.mp hb];exact aal ea
   ·intro ys σ H' A0
    refine(?_:let G_:Prop:=_;G_)
    intro G_
    obtain⟨rfl,as,la,LV,rfl,z5,rfl⟩:=A0
    dsimp only[G_]
    exact λD nD _=>hN _ (aj nD) D as ar la LV
  rintro H4 s4 al as PR l6 LV
  have Be:∀i:Nat,i<6->∃a,a∈rM/\lD (as.map V.str) (i:Int)=some (.str a):=λi hi=>by
   have e:=aap (l:=as) (i:=i) (by omega)
   exact⟨_,LV _ (aal e),uc (f:=V.str) e⟩
  refine(?_:let G_:Prop:=_;G_)
  intro G_
  obtain⟨a0,PU,Zc⟩:=Be 0 (by decide)
  obtain⟨a1,Ig,Zd⟩:=Be 1 (by decide)
  obtain⟨a2,PV,Ze⟩:=Be 2 (by decide)
  obtain⟨a3,PX,Zf⟩:=Be 3 (by decide)
  obtain⟨a4,PY,Zg⟩:=Be 4 (by decide)
  dsimp only[G_]
  have DA:=s2.trans (s3.trans s4)
  have IE:=Za.mono (s3.trans s4)
  change tSeq _ _ _ _ _
  refine eC (λσ' H5=>H4=H5/\∃d:Nat,2<=d/\d<=4/\σ'=[some (.ref sa),some (.ref l),z,some (.ref nl),some (.ref al),some (.int (d:Int)),none,none,none,none,none,none]) ?_ (λN hN=>?_)
  case refine_2=>
   simp_all only[fS]
   exact⟨sc,DA.seq hS,by decide,by decide,λn=>⟨by decide,hN _ _ ⟨rfl,(2+n % 3).toNat,by omega,by omega,by rw[show(((2+n % 3).toNat:Nat):Int)=2+n % 3 by omega]⟩⟩⟩
  intro _ _ eQ
  refine(?_:let G_:Prop:=_;G_)
  intro G_
  obtain⟨rfl,d,d2,d4,rfl⟩:=eQ
  dsimp only[G_]
  change tSeq _ _ _ _ _
  refine bb (λN=>∀H5,aE H4 H5->∀rl xs ds,H4 rl=none->H5 rl=some (.lst xs)->bq (cA H5 rl) (([(1,1,ds,a0)]:List Tw).map Ez |>.map ie) xs->rN cs true ds a0->N [some (.ref sa),some (.ref l),z,some (.ref nl),some (.ref al),some (.int (d:Int)),some (.ref rl),none,none,none,none,none] H5) ?_ (λN hN=>?_)
  case refine_2=>
   simp_all only[A5]
   refine⟨sc,DA.seq hS,by decide,by decide,cs,IE,gc,λu ds Ha tF nu ru lu ou=>⟨_,tF _ _ PR,_,Zc,by omega,λp Hb sb np ep=>⟨by omega,λrl nr=>?_⟩⟩⟩
   have wL:=tF.trans sb
   refine hN _ (wL.trans (aj nr)) rl _ ds (none_of wL nr) ar ?_ ⟨lu,ou,PU⟩
   rw[dD,gC nr]
   exact aH.mpr ⟨_,_,rfl,b7.mpr ⟨p,_,_,_,_,rfl,ep,aI.mpr rfl,aI.mpr rfl,ru.mono sb,ao.mpr rfl⟩,ba.mpr rfl⟩
  rintro H5 s5 rl xs Nr PZ wu LW Zh
  have Zi:=s4.trans s5
  change tSeq _ _ _ _ _
  refine bb (λN=>∀H6,aE H4 H6->∀LX,Rep H6 (.lst ((([(1,1,Nr,a0),(2,9,LX,a1)]:List Tw).map Ez).map ie)) (.ref rl)->rN cs true LX a1->N [some (.ref sa),some (.ref l),z,some (.ref nl),some (.ref al),some (.int (d:Int)),some (.ref rl),none,none,none,none,none] H6) ?_ (λN hN=>?_)
  case refine_2=>
   simp_all only[A5,cV]
   have xl:=LW.length
   refine⟨.inl ⟨rfl,_,bN.of wu⟩,sc,(DA.trans s5).seq hS,by decide,by decide,cs,IE.mono s5,gc,λu ds Ha tF nu ru lu ou=>⟨_,(s5.trans tF) _ _ PR,_,Zd,by omega,λp Hb sb np ep=>?_⟩⟩
   have wL:=tF.trans sb
   have nn:p≠rl:=λz=>by rw[z,tF _ _ wu] at np;cases np
   refine⟨_,wL _ _ wu,by simp at xl;omega,hN _ (bQ (s5.trans wL) PZ) ds (aO.mpr ⟨rl,_,rfl,ar,?_⟩) ⟨lu,ou,Ig⟩⟩
   refine bq.mono bE (fG (p:=rl) (ds:=(([(1,1,Nr,a0)]:List Tw).map Ez).map ie) (d:=ie (Ez (2,9,ds,a1))) (LW.mono (bM wL)) ?_)
   exact b7.mpr ⟨p,_,_,_,_,rfl,by rw[bw nn];exact ep,aI.mpr rfl,aI.mpr rfl,zQ (ru.mono sb) (wL _ _ wu) (λz=>by rw[z,wu] at nu;cases nu),ao.mpr rfl⟩
  clear LW wu s5 Zi
  rintro H6 s6 LX LW Zj
  have DB:=DA.trans s6
  have E6:=IE.mono s6
  have IF:=s6 _ _ PR
  refine(?_:let G_:Prop:=_;G_)
  intro G_
  obtain⟨_,uW,Zk,iC,uK⟩:=aO.mp (show Rep H6 (.lst _) (.ref l) from E6)
  dsimp only[G_]
  cases Zk
  have qI:cs.length=uW.length:=by have:=uK.length;rw[aac] at this;exact this
  have place:∀n:Int,∃q c m,lD uW (n % (uW.length:Int))=some (.ref q)/\H6 q=some (.tup [.str c,.int m])/\c∈cs.map (·.1):=λn=>by
   obtain⟨k,c,ek,ec⟩:=mr (l:=cs) n (by have:=gc.1;omega)
   obtain⟨v,ev,rv⟩:=uK.at (i:=k) (by rw[aad,ec];rfl)
   refine(?_:let G_:Prop:=_;G_)
   intro G_
   obtain⟨q,a,b,rfl,hq,r1,r2⟩:=aV.mp (show Rep H6 (.tup _) v from rv)
   rw[ao] at r1
   rw[aI] at r2
   subst r1 r2
   dsimp only[G_]
   exact⟨q,c.1,c.2,by rw[<-qI,ek];exact bJ ev,hq,List.mem_map.mpr ⟨_,aal ec,rfl⟩⟩
  have c0:0<uW.length:=by have:=gc.1;omega
  change tSeq _ _ _ _ _
  refine bb (λN=>∀H7,aE H6 H7->∀wl xs ds,H6 wl=none->H7 wl=some (.lst xs)->bq (cA H7 wl) ((([⟨EI,none,ds,a2⟩]:List Rw).map oY).map ie) xs->rN cs false ds a2->N [some (.ref sa),some (.ref l),z,some (.ref nl),some (.ref al),some (.int (d:Int)),some (.ref rl),some (.ref wl),none,none,none,none] H7) ?_ (λN hN=>?_)
  case refine_2=>
   simp_all only[A5]
   refine⟨sc,DB.seq hS,by decide,by decide,cs,E6,gc,λu ds Ha tF nu ru lu ou=>⟨_,tF _ _ IF,_,Ze,by omega,λp Hb sb np ep=>⟨by omega,λwl nw=>?_⟩⟩⟩
   have wL:=tF.trans sb
   refine hN _ (wL.trans (aj nw)) wl _ ds (none_of wL nw) ar ?_ ⟨lu,ou,PV⟩
   rw[dD,gC nw]
   exact aH.mpr ⟨_,_,rfl,b7.mpr ⟨p,_,_,_,_,rfl,ep,ao.mpr rfl,mv.mpr rfl,ru.mono sb,ao.mpr rfl⟩,ba.mpr rfl⟩
  rintro H7 s7 wl xs Nt CY xJ F8 Wd
  change tSeq _ _ _ _ _
  refine bb (λN=>∀(ce:Int),N [some (.ref sa),some (.ref l),z,some (.ref nl),some (.ref al),some (.int (d:Int)),some (.ref rl),some (.ref wl),some (.int ce),none,none,none] H7) ?_ (λN hN=>?_)
  case refine_2=>
   simp_all only[fS]
   exact⟨sc,(DB.trans s7).seq hS,by decide,by decide,λn=>hN n⟩
  rintro ce
  have fb:∃x y,lD [V.str (Str.ofString "from"),V.str (Str.ofString "below")] (ce / 3 % 2)=some (.str x)/\lD [V.str (Str.ofString "below"),V.str (Str.ofString "from")] (ce / 3 % 2)=some (.str y)/\(x=EJ\/x=EK)/\(y=EJ\/y=EK):=by
   have o:ce / 3 % 2=0\/ce / 3 % 2=1:=by omega
   rcases o with o | o
   ·rw[o];exact⟨EJ,EK,rfl,rfl,.inl rfl,.inr rfl⟩
   ·rw[o];exact⟨EK,EJ,rfl,rfl,.inr rfl,.inl rfl⟩
  refine(?_:let G_:Prop:=_;G_)
  intro G_
  obtain⟨fx,fy,Zl,Zm,Zn,Zo⟩:=fb
  obtain⟨q1,c1,m1,eq1,IY,Lb⟩:=place ce
  dsimp only[G_]
  change tSeq _ _ _ _ _
  refine bb (λN=>∀H8,aE H7 H8->∀wq,H8 wq=some (.tup [.str c1,.str fx,.int (ce / 6 % 5)])->N [some (.ref sa),some (.ref l),z,some (.ref nl),some (.ref al),some (.int (d:Int)),some (.ref rl),some (.ref wl),some (.int ce),some (.ref wq),none,none] H8) ?_ (λN hN=>?_)
  case refine_2=>
   simp_all only[]
   refine⟨_,s7 _ _ iC,by omega,_,s7 _ _ iC,_,eq1,_,rfl,_,s7 _ _ IY,_,rfl,by omega,λp np=>⟨dA.lit,by decide,_,ar,_,Zl,dA.lit,by decide,by omega,λp1 Ha tF n1 e1=>hN _ ((aj np).trans tF) p1 e1⟩⟩
  rintro H8 s8 wq uX
  have yA:=s8 _ _ xJ
  have LY:=F8.mono (bM (p:=wl) s8)
  have LZ:=s7.trans s8
  have xl:=F8.length
  change tSeq _ _ _ _ _
  refine bb (λN=>∀H9,aE H6 H9->H9 wq=some (.tup [.str c1,.str fx,.int (ce / 6 % 5)])->∀xs ds,H9 wl=some (.lst xs)->bq (cA H9 wl) ((([⟨EI,none,Nt,a2⟩,⟨FO,some (c1,fx,ce / 6 % 5),ds,a3⟩]:List Rw).map oY).map ie) xs->rN cs false ds a3->N [some (.ref sa),some (.ref l),z,some (.ref nl),some (.ref al),some (.int (d:Int)),some (.ref rl),some (.ref wl),some (.int ce),some (.ref wq),none,none] H9) ?_ (λN hN=>?_)
  case refine_2=>
   simp_all only[A5,cV]
   refine⟨.inl ⟨rfl,_,bN.of yA⟩,sc,(DB.trans LZ).seq hS,by decide,by decide,cs,E6.mono LZ,gc,λu ds Ha tF nu ru lu ou=>⟨_,(LZ.trans tF) _ _ IF,_,Zf,by omega,λp Hb sb np ep=>?_⟩⟩
   have wL:=tF.trans sb
   have nn:p≠wl:=λz=>by rw[z,tF _ _ yA] at np;cases np
   have nq:wq≠wl:=λz=>by rw[z,yA] at uX;cases uX
   refine⟨_,wL _ _ yA,by simp at xl;omega,hN _ (bQ (LZ.trans wL) CY) (by rw[aF nq];exact wL _ _ uX) _ ds ar ?_ ⟨lu,ou,PX⟩⟩
   refine fG (p:=wl) (ds:=(([⟨EI,none,Nt,a2⟩]:List Rw).map oY).map ie) (d:=ie (oY ⟨FO,some (c1,fx,ce / 6 % 5),ds,a3⟩)) (LY.mono (bM wL)) ?_
   refine b7.mpr ⟨p,_,_,_,_,rfl,by rw[bw nn];exact ep,ao.mpr rfl,bD.mpr ⟨wq,_,_,_,rfl,by rw[bw nq];exact wL _ _ uX,ao.mpr rfl,ao.mpr rfl,aI.mpr rfl⟩,zQ (ru.mono sb) (wL _ _ yA) (λz=>by rw[z,yA] at nu;cases nu),ao.mpr rfl⟩
  clear xl LY yA LZ uX s8 F8 xJ
  rintro H9 s9 uX xs We xJ F8 Wf
  have xl:=F8.length
  change tSeq _ _ _ _ _
  refine bb (λN=>∀FT,aE H6 FT->∀rs,Rep FT (.lst ((rs.map oY).map ie)) (.ref wl)->(∃r t,rs=r::t/\r.wh=none)->rs.length<=3->(∀r∈rs,rN cs false r.ds r.to/\AX cs r.wh)->(∀r∈rs,c5 (.str r.word)=true)->N [some (.ref sa),some (.ref l),z,some (.ref nl),some (.ref al),some (.int (d:Int)),some (.ref rl),some (.ref wl),some (.int ce),some (.ref wq),none,none] FT) ?_ (λN hN=>?_)
  case refine_2=>
   simp_all only[cV]
   refine⟨dA.lit,by decide,?_⟩
   have wo:AX cs (some (c1,fx,ce / 6 % 5)):=λn x k e=>by
    injection e with e
    injection e with e1 e
    injection e with e2 e
    subst e1 e2
    exact⟨Lb,Zn⟩
   have wy:AX cs (some (c1,fy,ce / 6 % 5)):=λn x k e=>by
    injection e with e
    injection e with e1 e
    injection e with e2 e
    subst e1 e2
    exact⟨Lb,Zo⟩
   have wn:AX cs none:=λn x k e=>by cases e
   by_cases c:ce / 30 % 2=1
   ·rw[if_pos c]
    refine⟨.inl ⟨rfl,_,bN.of xJ⟩,_,uX,_,rfl,by omega,λp np=>⟨dA.lit,by decide,_,ar,_,Zm,_,aj np _ _ uX,_,rfl,by omega,λp1 Ha tF n1 e1=>⟨by omega,λp2 n2=>?_⟩⟩⟩
    have u2:=aj (o:=.lst []) n2
    have u1:=tF.trans u2
    have u0:=(aj (o:=.lst [V.str (Str.ofString "below"),V.str (Str.ofString "from")]) np).trans u1
    refine⟨_,(s9.trans u0) _ _ IF,_,Zg,by omega,λp3 Hb sb n3 e3=>?_⟩
    have u3:=u0.trans sb
    have nn:∀{X a o},aE H9 X->X a=none->Hb a=some o->cA Hb wl a=some o:=λ{X a o} s n e=>by
     rw[bw (λz=>by rw[z,s _ _ xJ] at n;cases n)]
     exact e
    refine⟨_,u3 _ _ xJ,by simp at xl;omega,hN _ (bQ (s9.trans u3) CY) [⟨EI,none,Nt,a2⟩,⟨FO,some (c1,fx,ce / 6 % 5),We,a3⟩,⟨Kv,some (c1,fy,ce / 6 % 5),[],a4⟩] (aO.mpr ⟨wl,_,rfl,ar,?_⟩) ⟨_,_,rfl,rfl⟩ (show 3<=3 from aaf _) (λr hr=>?_) (λr hr=>?_)⟩
    ·refine bq.mono bE (fG (p:=wl) (ds:=(([⟨EI,none,Nt,a2⟩,⟨FO,some (c1,fx,ce / 6 % 5),We,a3⟩]:List Rw).map oY).map ie) (d:=ie (oY ⟨Kv,some (c1,fy,ce / 6 % 5),[],a4⟩)) (F8.mono (bM u3)) ?_)
     exact b7.mpr ⟨p3,_,_,_,_,rfl,nn u0 n3 e3,ao.mpr rfl,bD.mpr ⟨p1,_,_,_,rfl,nn (aj np) n1 ((u2.trans sb) _ _ e1),ao.mpr rfl,ao.mpr rfl,aI.mpr rfl⟩,aO.mpr ⟨p2,_,rfl,nn ((aj np).trans tF) n2 (sb _ _ ar),ba.mpr rfl⟩,ao.mpr rfl⟩
    ·simp only[aaq,aaw,or_false] at hr
     rcases hr with rfl | rfl | rfl
     ·exact⟨Wd,wn⟩
     ·exact⟨Wf,wo⟩
     ·exact⟨⟨aak _,(λd hd=>by cases hd),PY⟩,wy⟩
    ·simp only[aaq,aaw,or_false] at hr
     rcases hr with rfl | rfl | rfl
     ·show c5 (.str EI)=true;decide +kernel
     ·show c5 (.str FO)=true;decide +kernel
     ·show c5 (.str Kv)=true;decide +kernel
   ·rw[if_neg c]
    refine hN _ s9 _ (aO.mpr ⟨wl,_,rfl,xJ,F8.mono bE⟩) ⟨_,_,rfl,rfl⟩ (show 2<=3 by decide) (λr hr=>?_) (λr hr=>?_)
    ·simp only[aaq,aaw,or_false] at hr
     rcases hr with rfl | rfl
     ·exact⟨Wd,wn⟩
     ·exact⟨Wf,wo⟩
    ·simp only[aaq,aaw,or_false] at hr
     rcases hr with rfl | rfl
     ·show c5 (.str EI)=true;decide +kernel
     ·show c5 (.str FO)=true;decide +kernel
  clear xl F8 xJ s9 uX
  rintro FT Du rs Zp r0 P0 Zq Zr
  refine(?_:let G_:Prop:=_;G_)
  intro G_
  obtain⟨q2,c2,m2,eq2,Na,OZ⟩:=place (ce / 60)
  dsimp only[G_]
  change tSeq _ _ _ _ _
  refine bb (λN=>∀IG,aE FT IG->∀av,Rep IG (ph (.ask c2 (ce / 180 % 5) jB kU)) av->N [some (.ref sa),some (.ref l),z,some (.ref nl),some (.ref al),some (.int (d:Int)),some (.ref rl),some (.ref wl),some (.int ce),some (.ref wq),some av,none] IG) ?_ (λN hN=>?_)
  case refine_2=>
   simp_all only[]
   exact⟨dA.lit,_,Du _ _ iC,by omega,_,Du _ _ iC,_,eq2,_,rfl,_,Du _ _ Na,_,rfl,dA.lit,by decide,by omega,λp Ha tF np ep=>hN _ tF _ (ng.mpr ⟨p,_,_,_,_,_,rfl,ep,ao.mpr rfl,ao.mpr rfl,aI.mpr rfl,ao.mpr rfl,ao.mpr rfl⟩)⟩
  rintro IG L0 av Zs
  change tSeq _ _ _ _ _
  refine bb (λN=>∀E7,aE IG E7->∀pl x1 x2 iy,IG pl=none->E7 pl=some (.lst [x1,x2])->Rep (cA E7 pl) (LB (j7,.jw [uU (.oG d)] (-1) 1 [(1,1,Nr,a0),(2,9,LX,a1)])) x1->Rep (cA E7 pl) (LB (jn,.pick iy rs)) x2->N [some (.ref sa),some (.ref l),z,some (.ref nl),some (.ref al),some (.int (d:Int)),some (.ref rl),some (.ref wl),some (.int ce),some (.ref wq),some av,some (.ref pl)] E7) ?_ (λN hN=>?_)
  case refine_2=>
   simp_all only[]
   refine⟨by omega,λp1 Ha t1 n1 e1=>⟨by omega,λp2 n2=>⟨by omega,λp3 Hb t3 n3 e3=>⟨by omega,λp4 Hc t4 n4 e4=>⟨by omega,λp5 Hd t5 n5 e5=>⟨dA.lit,by decide,by omega,λp6 He t6 n6 e6=>⟨by omega,λp7 Hf t7 n7 e7=>⟨by omega,λpl F7=>?_⟩⟩⟩⟩⟩⟩⟩⟩
   have v6:=t7
   have v5:=t6.trans v6
   have v4:=t5.trans v5
   have v3:=t4.trans v4
   have v2:=t3.trans v3
   have v1:=(aj (o:=.lst [V.ref p1]) n2).trans v2
   have v0:=t1.trans v1
   refine hN _ (v0.trans (aj F7)) pl _ _ (1+ce / 900 % 2) (none_of v0 F7) ar ?_ ?_
   ·rw[dD,gC F7]
    exact aV.mpr ⟨p5,_,_,rfl,v5 _ _ e5,ao.mpr rfl,b7.mpr ⟨p4,_,_,_,_,rfl,v4 _ _ e4,ao.mpr rfl,aO.mpr ⟨p2,_,rfl,v2 _ _ ar,aH.mpr ⟨_,_,rfl,bD.mpr ⟨p1,_,_,_,rfl,v1 _ _ e1,ao.mpr rfl,aI.mpr rfl,aI.mpr rfl⟩,ba.mpr rfl⟩⟩,aV.mpr ⟨p3,_,_,rfl,v3 _ _ e3,aI.mpr rfl,aI.mpr rfl⟩,LW.mono (Du.trans (L0.trans v0))⟩⟩
   ·rw[dD,gC F7]
    exact aV.mpr ⟨p7,_,_,rfl,e7,ao.mpr rfl,bD.mpr ⟨p6,_,_,_,rfl,v6 _ _ e6,ao.mpr rfl,aI.mpr rfl,Zp.mono (L0.trans v0)⟩⟩
  rintro E7 F9 pl x1 x2 iy F7 hpl Zt Zu
  change tSeq _ _ _ _ _
  refine bb (λN=>∀IH,aE IG IH->∀(b:Bool),IH pl=some (.lst (if b=true then [x2,x1] else [x1,x2]))->cA IH pl=cA E7 pl->N [some (.ref sa),some (.ref l),z,some (.ref nl),some (.ref al),some (.int (d:Int)),some (.ref rl),some (.ref wl),some (.int ce),some (.ref wq),some av,some (.ref pl)] IH) ?_ (λN hN=>?_)
  case refine_2=>
   simp_all only[fS,vo,GI]
   refine⟨sc,(DB.trans (Du.trans (L0.trans F9))).seq hS,by decide,by decide,λn=>⟨by decide,?_⟩⟩
   by_cases c:n % 2=1
   ·rw[if_pos c]
    exact⟨.inl ⟨rfl,_,bN.of hpl⟩,_,hpl,hN _ (bQ F9 F7) true ar dD⟩
   ·rw[if_neg c]
    exact hN _ F9 false hpl rfl
  rintro IH Iq b P1 Ga
  simp_all only[BH]
  refine⟨by omega,λp1 Ha t1 n1 e1=>⟨by omega,λp2 Hb t2 n2 e2=>⟨by omega,λp3 Hc t3 n3 e3=>⟨by omega,λp4 Hd t4 n4 e4=>⟨by omega,λp5 He t5 n5 e5=>⟨by omega,λp6 Hf t6 n6 e6=>⟨by omega,λp7 Hg t7 n7 e7=>⟨by omega,λl2 PJ=>?_⟩⟩⟩⟩⟩⟩⟩⟩
  have v7:=aj (o:=.lst [V.ref p1,V.ref p4,V.ref p7]) PJ
  have v6:=t7.trans v7
  have v5:=t6.trans v6
  have v4:=t5.trans v5
  have v3:=t4.trans v4
  have v2:=t3.trans v3
  have v1:=t2.trans v2
  have v0:=t1.trans v1
  refine⟨_,v0 _ _ P1,_,ar,?_,λl3 PK=>⟨by omega,λp9 Hz sz nz ez=>?_⟩⟩
  ·rw[sl]
   cases b <;>exact show 5<=16777216 by decide
  have y0:=(aj (o:=.lst ((if b=true then [x2,x1] else [x1,x2])++ [V.ref p1,V.ref p4,V.ref p7])) PK).trans sz
  have w0:=v0.trans y0
  have L1:=(Zt.mono (by rw[<-Ga];exact bE:aE (cA E7 pl) IH)).mono w0
  have L3:=(Zu.mono (by rw[<-Ga];exact bE:aE (cA E7 pl) IH)).mono w0
  have P2:=Zs.mono (Iq.trans w0)
  refine kk _ ⟨cs,d,Nr,a0,LX,a1,iy,rs,c2,ce / 180 % 5,b⟩ Hz (DB.trans (Du.trans (L0.trans (Iq.trans w0)))) (aV.mpr ⟨p9,_,_,rfl,ez,E6.mono (Du.trans (L0.trans (Iq.trans w0))),aO.mpr ⟨l3,_,rfl,sz _ _ ar,?_⟩⟩) ⟨gc,d2,d4,Zh,Zj,r0,P0,Zq,OZ⟩ Zr
  have tail:bq Hz ([(wV,Wt.ask c2 (ce / 180 % 5) jB kU),(jB,.fin 1 1),(kU,.fin 0 1)].map λp=>Dat.tup [.str p.1,ph p.2]) [V.ref p1,V.ref p4,V.ref p7]:=aH.mpr ⟨_,_,rfl,aV.mpr ⟨p1,_,_,rfl,(v1.trans y0) _ _ e1,ao.mpr rfl,P2⟩,aH.mpr ⟨_,_,rfl,aV.mpr ⟨p4,_,_,rfl,(v4.trans y0) _ _ e4,ao.mpr rfl,aV.mpr ⟨p3,_,_,rfl,(v3.trans y0) _ _ e3,ao.mpr rfl,aV.mpr ⟨p2,_,_,rfl,(v2.trans y0) _ _ e2,aI.mpr rfl,aI.mpr rfl⟩⟩⟩,aH.mpr ⟨_,_,rfl,aV.mpr ⟨p7,_,_,rfl,(v7.trans y0) _ _ e7,ao.mpr rfl,aV.mpr ⟨p6,_,_,rfl,(v6.trans y0) _ _ e6,ao.mpr rfl,aV.mpr ⟨p5,_,_,rfl,(v5.trans y0) _ _ e5,aI.mpr rfl,aI.mpr rfl⟩⟩⟩,ba.mpr rfl⟩⟩⟩
  cases b with
  | true=>exact aH.mpr ⟨_,_,rfl,L3,aH.mpr ⟨_,_,rfl,L1,tail⟩⟩
  | false=>exact aH.mpr ⟨_,_,rfl,L1,aH.mpr ⟨_,_,rfl,L3,tail⟩⟩
noncomputable def fV (s:b0):Dat:=.tup [.str s.1,.lst (s.2.map .int)]
theorem nj:∀ns:List Int,eG (ns.map PyData.int)=true
 | []=>by simp [eG]
 | n::ns=>by rw[aae,eG,nj ns];simp [j4]
theorem tG:∀{ns:List Str},(∀n∈ns,c5 (.str n)=true)->eG (ns.map PyData.str)=true
 | [],_=>by simp [eG]
 | n::ns,h=>by
  have:=h n aai
  rw[c5] at this
  rw[aae,eG,tG (λm hm=>h m (aag _ hm)),j4,this]
  rfl
theorem tH:∀ns:List Str,PyData.depthAll (ns.map PyData.str)<=1
 | []=>by simp [PyData.depthAll]
 | n::ns=>by
  have:=tH ns
  rw[aae,PyData.depthAll,PyData.depth]
  omega
theorem uO {s:b0} (h:c5 (.str s.1)=true):Ke (fV s):=by
 have e:cf (fV s)=.tuple [.str s.1,.list (s.2.map PyData.int)]:=by
  unfold fV
  rw[cf,d8,d8,d8,cf,cf,gE]
 rw[c5] at h
 unfold Ke
 rw[e]
 refine⟨?_,?_⟩
 ·rw[j4,eG,eG,eG,j4,j4,nj,h]
  rfl
 ·have:=jm s.2
  simp only[PyData.depth,PyData.depthAll]
  omega
theorem yB (ns:List Int):cf (.lst (ns.map .int))=.list (ns.map PyData.int):=by rw[cf,gE]
theorem jo (ns:List Int):Ke (.lst (ns.map .int)):=by
 unfold Ke
 rw[yB]
 refine⟨by rw[j4,nj],?_⟩
 have:=jm ns
 simp only[PyData.depth]
 omega
theorem II (ns:List Str):cf (.lst (ns.map .str))=.list (ns.map PyData.str):=by
 rw[cf]
 congr 1
 induction ns with
 | nil=>simp [d8]
 | cons n ns ih=>rw[aae,d8,ih,cf,aae]
theorem E8 {ns:List Str} (h:∀n∈ns,c5 (.str n)=true):Ke (.lst (ns.map .str)):=by
 unfold Ke
 rw[II]
 refine⟨by rw[j4,tG h],?_⟩
 have:=tH ns
 simp only[PyData.depth]
 omega
theorem Gb (w:Int):Ke (.tup [.str jn,.int w]):=by
 have e:cf (.tup [.str jn,.int w])=.tuple [.str jn,.int w]:=by rw[cf,d8,d8,d8,cf,cf]
 unfold Ke
 rw[e]
 refine⟨?_,?_⟩
 ·have h:c5 (.str jn)=true:=by decide +kernel
  rw[c5] at h
  rw[j4,eG,eG,eG,j4,j4,h]
  rfl
 ·simp only[PyData.depth,PyData.depthAll]
  omega
noncomputable def L4 (H:Hp) (t:Addr) (G:Gp) (SS:List b0) (dQ:List (List (Int×b0))):Prop:=∃b l wl bs xs ws,H t=some (.tup [.ref b,.ref l,.ref wl])/\H b=some (.lst bs)/\bq H (wb G.g SS dQ) bs/\H l=some (.lst xs)/\bq H (SS.map fV) xs/\H wl=some (.lst ws)/\bq H (SS.map (hJ G.g)) ws
theorem L4.mono {H H':Hp} {t:Addr} {G:Gp} {SS:List b0} {dQ:List (List (Int×b0))} (s:aE H H'):L4 H t G SS dQ->L4 H' t G SS dQ:=fun⟨b,l,wl,bs,xs,ws,h1,h2,h3,h4,h5,h6,h7⟩=>⟨b,l,wl,bs,xs,ws,s _ _ h1,s _ _ h2,h3.mono s,s _ _ h4,h5.mono s,s _ _ h6,h7.mono s⟩
noncomputable def IJ:Sp:=λvs H Q _=>∃gv sv x t k G SS dQ st ts,vs=[gv,sv,.int x,.ref t,.int ((k:Nat):Int)]/\Rep H (FL (Gp.g G)) gv/\G.Ok/\Dc G/\Rep H (fV st) sv/\L4 H t G SS dQ/\SS[k]?=some st/\dQ[k]?=some ts/\cG G.g st ts/\G.R st/\(st.1=j7\/st.1=jn)/\∀p v s' H',aE H H'->H' p=some (.lst [v,.int ((SS.idxOf s':Nat):Int)])->Rep H' (fV s') v->s'∈dX ts->Q (.ref p) H'
theorem mC:bo ["_law_game_here","_law_state","_law_cell","_law_told","_law_k","_law_board","_law_states","_law_words","_law_what","_law_value","_law_row","_law_names","_law_rows","_law_when","_law_at_here"] ["_law_game_here","_law_state","_law_cell","_law_told","_law_k"] (aw (top 48)):=⟨rfl,rfl,rfl,by decide +kernel,rfl,by decide +kernel,by decide +kernel⟩
theorem wM {cs:List (Str×Int)} {ns:List Int} {n:Str} {k:Int} (h:n∈cs.map (·.1)):d9 cs ns (some (n,EJ,k))=decide (k<=ns.getD (bL cs n) 0):=by
 show(if n∈cs.map (·.1) then (if EJ=Str.ofString "from" then _ else _) else _)=_
 rw[if_pos h,if_pos (show EJ=Str.ofString "from" from rfl)]
theorem wN {cs:List (Str×Int)} {ns:List Int} {n:Str} {k:Int} (h:n∈cs.map (·.1)):d9 cs ns (some (n,EK,k))=decide (ns.getD (bL cs n) 0<k):=by
 show(if n∈cs.map (·.1) then (if EK=Str.ofString "from" then _ else _) else _)=_
 rw[if_pos h,if_neg (show ¬EK=Str.ofString "from" by decide +kernel)]
theorem L5 (T:Txt K mg aK aL aG aY ag aD):cS P w K mg base (bO P w) 2 "_law_step" ["_law_game_here","_law_state","_law_cell","_law_told","_law_k"] IJ:=by
 have ko:cS P w K mg base (bO P w) 1 "_law_behind" ["_law_game_here","_law_state","_law_deeds_here","_law_thrown","_law_goal"] E5:=LI T
 refine T.vT.eO (λ_ _ _ _ _ _ us hl=>match us,hl with | [_,_,_,_,_],_=>rfl) λf fd F=>F.gu mC (λvs H Q E h=>?_) (λbZ A outer s H vs Q E hr h=>?_)
 ·obtain⟨_,_,_,_,_,_,_,_,_,_,rfl,_⟩:=h;rfl
 ·refine(?_:let G_:Prop:=_;G_)
  intro G_
  obtain⟨gv,sv,x,t,k,G,SS,dQ,st,ts,rfl,rg,gk,P4,Lz,tl,eS,eT,go,hR,P5,kk⟩:=h
  dsimp only[G_]
  have nd:=mC.nd
  refine⟨_,(ai (gQ (pv 3) (c6 (K:=K) (n:=3) rfl (bu (aT (i:=5) nd rfl (Or.inl rfl)) (bu (aT (i:=6) nd rfl (Or.inl rfl)) (bu (aT (i:=7) nd rfl (Or.inl rfl)) cU)))))
  (ai (aP (i:=8) nd rfl (Or.inl rfl) (dk (dt hr) (dj (kG (K:=K)) (by rfl) T.z_dict rfl (aa (aB az (pv 0) ae (λ_ _=>rfl)) af (se rfl)) (he:=se rfl) (hpl:=na rfl)) (aB az (pv 1) ae (λ_ _=>rfl)) (λ_ _=>rfl)))
  (ai (bG (aN bW (aB az (pv 8) ae (λ_ _=>rfl)) aJ (aU _)) (ai (aP (i:=9) nd rfl (Or.inr rfl) (aX bV ae (aX bK (pv 2) (aB az (aB aW (aB az (pv 8) ae (λ_ _=>rfl)) ae (λ_ _=>rfl)) ae (λ_ _=>rfl)))))
  (ai (bG (PW.pt (pw_or (aN oj (aB az (aB aW (pv 5) (pv 4) (λ_ _=>rfl)) ae (λ_ _=>rfl)) aJ (aU _)) (pw_or (aN oj (bh bI (by rfl) T.z_len aao (aa (aB az (aB aW (pv 5) (pv 4) (λ_ _=>rfl)) ae (λ_ _=>rfl)) af (se rfl)) (he:=se rfl) (hpl:=na rfl)) (aB az (aB aW (aB az (pv 8) ae (λ_ _=>rfl)) ae (λ_ _=>rfl)) ae (λ_ _=>rfl)) (aU _)) (pw_or1 (aN (kD hr.units) (aB aW (pv 7) (pv 4) (λ_ _=>rfl)) (bC af) (aU _)))))) (aA (bf fE))
   bj)
  (ai (aP (i:=10) nd rfl (Or.inl rfl) (aB aW (cL rfl (N:=["_law_game_here","_law_state","_law_cell","_law_told","_law_k","_law_board","_law_states","_law_words","_law_what","_law_value","_law_row","_law_names","_law_rows","_law_when","_law_at_here"]) (so:=aw (top 48)) (N':=["_law_row","_law_value"]) (k:=1) (fr:=[9]) rfl rfl ⟨rfl,by decide +kernel,by decide +kernel,by decide +kernel,rfl,by decide +kernel,by decide +kernel⟩ (bx (K:=K) (aB az (pv 8) ae (λ_ _=>rfl))) (λ_ _ _ _ _=>(aT (i:=0) (show(["_law_row","_law_value"]:List Str).Nodup by decide +kernel) rfl (Or.inl rfl))) (λ_ _ _ _ _=>(lS (PW.pt (pw_and (aN vd (aB az (pv 0) ae (λ_ _=>rfl)) (pv 1) (aU _)) (pw_and1 (aN vd (pv 1) (aB az (pv 0) ae (λ_ _=>rfl)) (aU _)))))))
   (λ_ _ _ _ _=>(pv 0))) ae (λ_ _=>rfl)))
  (aA (bf (bC (aa (br ko (hr.mono (by decide)) rfl aM.pass (aa (pv 0) (aa (pv 1) (aa (aB az (pv 10) ae (λ_ _=>rfl)) (aa (pv 9) (aa (aB az (pv 10) ae (λ_ _=>rfl)) af (se rfl)) (se rfl)) (se rfl)) (se rfl)) (se rfl)) (he:=se rfl) (hpl:=na rfl)) (aa (aB az (aB aW (aB az (aB aW (pv 5) (pv 4) (λ_ _=>rfl)) ae (λ_ _=>rfl)) (aX xj (pv 9) ae) (λ_ _=>rfl)) ae (λ_ _=>rfl)) af (se rfl)) (se rfl))))))))
   bj)
  (ai (lT (i:=11) rfl nd rfl rfl (N:=["_law_game_here","_law_state","_law_cell","_law_told","_law_k","_law_board","_law_states","_law_words","_law_what","_law_value","_law_row","_law_names","_law_rows","_law_when","_law_at_here"]) (so:=aw (top 48)) (N':=["_law_name","_law_most"]) (k:=2) (fr:=[]) rfl rfl ⟨rfl,by decide +kernel,by decide +kernel,by decide +kernel,rfl,by decide +kernel,by decide +kernel⟩ (bx (K:=K) (aB az (pv 0) ae (λ_ _=>rfl))) (λ_ _ _ _ _=>(c6 (K:=K) (n:=2) rfl (bu (aT (i:=0) (show(["_law_name","_law_most"]:List Str).Nodup by decide +kernel) rfl (Or.inl rfl)) (bu (aT (i:=1) (show(["_law_name","_law_most"]:List Str).Nodup by decide +kernel) rfl (Or.inl rfl)) cU)))) (λ_ _ _ _ _=>cJ)
   (λ_ _ _ _ _=>(pv 0)))
  (ai (aP (i:=12) nd rfl (Or.inl rfl) (bC af))
  (ai (cQ PassesOwn.never rfl (bx (K:=K) (aB az (pv 8) ae (λ_ _=>rfl))) (aT (i:=10) nd rfl (Or.inl rfl)) (ai (aP (i:=13) nd rfl (Or.inl rfl) (aB az (pv 10) ae (λ_ _=>rfl)))
  (aA (bG (PW.pt (pw_or (aN tN (pv 13) fE (aU _)) (pw_or1 (aN bW (jf vf (aB aW (aB az (pv 1) ae (λ_ _=>rfl)) (dr aas PySem.F.slot_list_index PySem.F.type_list_index (ji hr.units) (pv 11) (aa (aB az (pv 13) ae (λ_ _=>rfl)) af (se rfl))) (λ_ _=>rfl)) (aB az (pv 13) ae (λ_ _=>rfl)) (aU _)) (jf bW (aB az (pv 13) ae (λ_ _=>rfl)) aJ (aU _)) (aU _))))) (aA (bX (dr aas aaG aaH cb.r (pv 12) (aa (pv 10) af (se rfl)))))
   bj))))
  (ai (bG (PW.pt (pw_or (aN (kD hr.units) (pK GD (aB aW (pv 5) (pv 4) (λ_ _=>rfl)) tR (tS ae)) (aQ (aa aJ (aa (aB az (pv 8) ae (λ_ _=>rfl)) af (se rfl)) (se rfl))) (aU _)) (pw_or (aN (kD hr.units) (aB aW (pv 7) (pv 4) (λ_ _=>rfl)) (cL rfl (N:=["_law_game_here","_law_state","_law_cell","_law_told","_law_k","_law_board","_law_states","_law_words","_law_what","_law_value","_law_row","_law_names","_law_rows","_law_when","_law_at_here"]) (so:=aw (top 48)) (N':=["_law_row"]) (k:=1) (fr:=[]) rfl rfl ⟨rfl,by decide +kernel,by decide +kernel,by decide +kernel,rfl,by decide +kernel,by decide +kernel⟩ (bx (K:=K) (pv 12)) (λ_ _ _ _ _=>(aT (i:=0) (show(["_law_row"]:List Str).Nodup by decide +kernel) rfl (Or.inl rfl))) (λ_ _ _ _ _=>cJ)
   (λ_ _ _ _ _=>(aB az (pv 0) ae (λ_ _=>rfl)))) (aU _)) (pw_or1 (aN oj (bh bI (by rfl) T.z_len aao (aa (aB az (aB aW (pv 5) (pv 4) (λ_ _=>rfl)) ae (λ_ _=>rfl)) af (se rfl)) (he:=se rfl) (hpl:=na rfl)) (bh bI (by rfl) T.z_len aao (aa (pv 12) af (se rfl)) (he:=se rfl) (hpl:=na rfl)) (aU _)))))) (aA (bf fE))
   bj)
  (ai (aP (i:=14) nd rfl (Or.inl rfl) (aX bK (pv 2) (bh bI (by rfl) T.z_len aao (aa (pv 12) af (se rfl)) (he:=se rfl) (hpl:=na rfl))))
  (aA (bf (bC (aa (br ko (hr.mono (by decide)) rfl aM.pass (aa (pv 0) (aa (pv 1) (aa (aB az (aB aW (pv 12) (pv 14) (λ_ _=>rfl)) ae (λ_ _=>rfl)) (aa ae (aa (aB az (aB aW (pv 12) (pv 14) (λ_ _=>rfl)) ae (λ_ _=>rfl)) af (se rfl)) (se rfl)) (se rfl)) (se rfl)) (se rfl)) (he:=se rfl) (hpl:=na rfl)) (aa (aB aW (aB az (aB aW (pv 5) (pv 4) (λ_ _=>rfl)) ae (λ_ _=>rfl)) (pv 14) (λ_ _=>rfl)) af (se rfl)) (se rfl))))))))))))),?_⟩
  refine(?_:let cB:TS:=_;let cC:TS:=_;let cD:TS:=_;let dE:TS:=_;let qD:TS:=_;let tw:TS:=_;let zS:TS:=_;let C5:TS:=_;let C6:TS:=_;tSeq cB (tSeq cC (tSeq cD (tSeq dE (tSeq qD (tSeq tw (tSeq zS (tSeq C5 C6))))))) _ _ _)
  intro cB cC cD dE qD tw zS C5 C6
  have sl:=sizeLine_eq
  refine(?_:let G_:Prop:=_;G_)
  intro G_
  obtain⟨bd,yC,wl,bs,xs,ws,ht,hb,rb,hl,rl,hw,P6⟩:=id tl
  obtain⟨gp,cv,pv,rfl,hg,rc,rp⟩:=aV.mp (show Rep H (.tup _) gv from rg)
  obtain⟨cl,uW,rfl,iC,uK⟩:=aO.mp (show Rep H (.lst _) cv from rc)
  obtain⟨pl,K9,rfl,hpl,Dv⟩:=aO.mp (show Rep H (.lst _) pv from rp)
  obtain⟨sp,sn,nv,rfl,hst,Nj,Nk⟩:=aV.mp (show Rep H (.tup _) sv from Lz)
  obtain rfl:=ao.mp Nj
  obtain⟨nl,Y7,rfl,hn,PN⟩:=aO.mp Nk
  obtain rfl:=my PN
  obtain⟨Wg,Dg,Bj⟩:=rb.at (yj (G:=G) eS eT)
  dsimp only[G_]
  obtain⟨wv0,Wh,Nu⟩:=P6.at (i:=k) (d:=hJ G.g st) (by rw[aad,eS];rfl)
  change tSeq _ _ _ _ _
  refine bb (λN=>N [some (.ref gp),some (.ref sp),some (.int x),some (.ref t),some (.int (k:Int)),some (.ref bd),some (.ref yC),some (.ref wl),none,none,none,none,none,none,none] H) ?_ (λN hN=>?_)
  case refine_2=>
   simp_all only[]
   refine⟨t,_,rfl,hX.of ht,rfl,?_⟩
   simp_all only[]
   exact hN
  have Zv:∃y,look G.g.ps st.1=some y/\((st.1=j7/\y=.jw [uU (.oG G.d)] (-1) 1 G.EL)\/(st.1=jn/\y=.pick G.iy G.rs)):=by
   rcases P5 with e | e
   ·exact⟨_,by rw[e];exact qy,.inl ⟨e,rfl⟩⟩
   ·exact⟨_,by rw[e];exact j8,.inr ⟨e,rfl⟩⟩
  refine(?_:let G_:Prop:=_;G_)
  intro G_
  obtain⟨y,P7,hy⟩:=Zv
  dsimp only[G_]
  change tSeq _ _ _ _ _
  refine bb (λN=>∀H1,aE H H1->∀wv,Rep H1 (ph y) wv->N [some (.ref gp),some (.ref sp),some (.int x),some (.ref t),some (.int (k:Int)),some (.ref bd),some (.ref yC),some (.ref wl),some wv,none,none,none,none,none,none] H1) ?_ (λN hN=>?_)
  case refine_2=>
   simp_all only[]
   refine(?_:let G_:Prop:=_;G_)
   intro G_
   obtain⟨rows,e1,e2,e3,e4⟩:=pw (K:=K) Dv
   obtain⟨v,ev,rv⟩:=e4 _ _ P7
   dsimp only[G_]
   refine⟨_,hg,_,rfl,_,rfl,rows,by rw[<-e1];exact bN.of hpl,e2,by rw[e3];exact nh CJ,λdd Dz=>⟨_,aj Dz _ _ hst,_,rfl,v,.inl ⟨_,.inr st.1,.inl ar,rfl,ev.symm⟩,hN _ (aj Dz) v (rv.mono (aj Dz))⟩⟩
  rintro H1 s1 wv Wi
  rcases hy with ⟨ey,rfl⟩ | ⟨ey,rfl⟩
  ·rw[uD ey] at Bj
   rw[HV ey] at Nu
   obtain rfl:=FP gk ey go
   have d2:=gk.d2
   have d4:=gk.d4
   refine(?_:let G_:Prop:=_;G_)
   intro G_
   obtain⟨wq,a1,a2,a3,a4,rfl,uX,r1,r2,r3,r4⟩:=b7.mp (show Rep H1 (.tup _) wv from Wi)
   obtain rfl:=ao.mp r1
   obtain⟨pq,Zw,rfl,Wj,Zx⟩:=aO.mp r2
   obtain⟨pv1,_,rfl,Zy,rn⟩:=aH.mp Zx
   obtain rfl:=ba.mp rn
   obtain⟨dq,rfl,Wk⟩:=zG Zy
   obtain⟨rq,Wl,rfl,Nv,L6⟩:=aO.mp r4
   obtain⟨Zz,_,rfl,ZA,rn⟩:=aH.mp L6
   obtain⟨ZC,_,rfl,ZD,rn⟩:=aH.mp rn
   obtain rfl:=ba.mp rn
   obtain⟨t1,b1,b2,b3,b4,rfl,ZE,k1,k2,k3,k4⟩:=b7.mp (show Rep H1 (.tup _) Zz from ZA)
   obtain rfl:=aI.mp k1
   obtain rfl:=aI.mp k2
   obtain rfl:=ao.mp k4
   obtain⟨t2,c1,c2,c3,c4,rfl,ZF,m1,m2,m3,m4⟩:=b7.mp (show Rep H1 (.tup _) ZC from ZD)
   obtain rfl:=aI.mp m1
   obtain rfl:=aI.mp m2
   obtain rfl:=ao.mp m4
   obtain⟨q0,o1,o2,o3,rfl,wA,g1,g2,g3⟩:=bD.mp Bj
   obtain rfl:=ao.mp g1
   obtain⟨yl,ys,rfl,L7,ry⟩:=aO.mp g3
   dsimp only[G_]
   have P8:ys.length=G.d:=by
    have:=ry.length
    rw[aac] at this
    unfold Gp.jw at this
    rw[aac,aaK] at this
    omega
   refine eC (λ_ _=>False) (λ_ _ h=>h.elim) (λN0 hN0=>?_)
   refine qp (λY N k=>by simp_all only[uX];first | exact k | (rw[if_pos rfl];exact k)) ?_
   change tSeq _ _ _ _ _
   refine bb (λN=>∀(j:Nat),j<G.d->N [some (.ref gp),some (.ref sp),some (.int x),some (.ref t),some (.int (k:Int)),some (.ref bd),some (.ref yC),some (.ref wl),some (.ref wq),some (.int ((j:Int)+1)),none,none,none,none,none] H1) ?_ (λN hN=>?_)
   case refine_2=>
    simp_all only[uX,Wj,Wk,uT]
    have q1:=aaZ x (show(G.d:Int)≠0 by omega)
    have q2:=aa6 x (show(0:Int)< (G.d:Int) by omega)
    refine⟨by omega,?_⟩
    rw[show 1+x % (G.d:Int)=(((x % (G.d:Int)).toNat:Nat):Int)+1 by omega]
    exact hN _ (by omega)
   rintro j jd
   change tSeq _ _ _ _ _
   refine bb (λN=>∀H2,aE H1 H2->N [some (.ref gp),some (.ref sp),some (.int x),some (.ref t),some (.int (k:Int)),some (.ref bd),some (.ref yC),some (.ref wl),some (.ref wq),some (.int ((j:Int)+1)),none,none,none,none,none] H2) ?_ (λN hN=>?_)
   case refine_2=>
    simp_all only[uX,Wj,Wk,uT,vN]
    refine⟨_,s1 _ _ hb,_,bJ Dg,_,rfl,_,s1 _ _ wA,_,rfl,rfl,?_⟩
    rw[if_neg (λz=>z rfl)]
    refine⟨_,s1 _ _ hb,_,bJ Dg,_,rfl,_,s1 _ _ wA,_,rfl,_,rfl,_,s1 _ _ L7,?_⟩
    rw[if_neg (λz=>z (by rw[P8]))]
    refine⟨_,s1 _ _ hw,_,bJ Wh,by omega,λp np=>⟨.lst [],Nu.mono (s1.trans (aj np)),.lst [],aO.mpr ⟨p,_,rfl,ar,ba.mpr rfl⟩,jo [],jo [],?_⟩⟩
    rw[if_neg (by simp)]
    exact hN _ (aj np)
   rintro H2 s2
   have EU:=s1.trans s2
   have L8:=s2 _ _ Nv
   change tSeq _ _ _ _ _
   refine bb (λN=>∀H3,aE H2 H3->∀rp e1 e2 e3 to,H3 rp=some (.tup [e1,e2,e3,.str to])->to=(G.row j).2->Rep H3 (.lst ((G.row j).1.map uq)) e3->N [some (.ref gp),some (.ref sp),some (.int x),some (.ref t),some (.int (k:Int)),some (.ref bd),some (.ref yC),some (.ref wl),some (.ref wq),some (.int ((j:Int)+1)),some (.ref rp),none,none,none,none] H3) ?_ (λN hN=>?_)
   case refine_2=>
    simp_all only[s2 _ _ uX]
    have L9:=s2 _ _ ZE
    have Ma:=s2 _ _ ZF
    refine⟨_,rfl,_,rfl,⟨_,bN.of L8⟩,md (src_list (Ok:=λH'=>H'=H2) (λH' e=>e▸bN.of L8)) (λi ys σ H'=>H'=H2/\(j=0->ys=if i=0 then [] else [V.ref t1])/\(j≠0->ys=if i=2 then [V.ref t2] else [])/\∃z,σ=[z,some (.int ((j:Int)+1))]) ⟨rfl,λ_=>rfl,λ_=>rfl,_,rfl⟩ (λ_ _ _ _ h=>h.1) (by rw[sl];show 2<=16777216;decide) ?_ ?_⟩
    ·intro i y σ H' zs wX Q5 N5 hi Ik yv hQ LU
     refine(?_:let G_:Prop:=_;G_)
     intro G_
     obtain⟨rfl,w1,w2,z,rfl⟩:=Ik
     obtain⟨rfl,ex⟩:=yv
     dsimp only[G_]
     match i,hi,ex with
     | 0,_,ex=>
      cases ex
      simp_all only[L9]
      rw[if_pos (by omega)]
      by_cases c:j=0
      ·rw[if_pos (by omega)]
       exact hQ _ _ _ ⟨rfl,λ_=>by rw[w1 c];rfl,λz=>absurd c z,_,rfl⟩
      ·rw[if_neg (by omega)]
       exact LU _ _ ⟨rfl,λz=>absurd z c,λ_=>by rw[w2 c];rfl,_,rfl⟩
     | 1,_,ex=>
      cases ex
      simp_all only[Ma]
      by_cases c:j=0
      ·rw[if_neg (by omega),if_neg (by decide)]
       exact LU _ _ ⟨rfl,λ_=>by rw[w1 c];rfl,λz=>absurd c z,_,rfl⟩
      ·rw[if_pos (by omega),if_pos (by omega)]
       exact hQ _ _ _ ⟨rfl,λz=>absurd z c,λ_=>by rw[w2 c];rfl,_,rfl⟩
    ·intro zs σ H' A0 D nD _
     refine(?_:let G_:Prop:=_;G_)
     intro G_
     obtain⟨rfl,w1,w2,z,rfl⟩:=A0
     dsimp only[G_]
     refine⟨_,ar,?_⟩
     by_cases c:j=0
     ·rw[w1 c]
      refine⟨V.ref t1,rfl,hN _ (aj nD) t1 _ _ _ _ (aj nD _ _ L9) ?_ ?_⟩
      ·unfold Gp.row;rw[if_pos c]
      ·unfold Gp.row;rw[if_pos c];exact k3.mono (s2.trans (aj nD))
     ·rw[w2 c]
      refine⟨V.ref t2,rfl,hN _ (aj nD) t2 _ _ _ _ (aj nD _ _ Ma) ?_ ?_⟩
      ·unfold Gp.row;rw[if_neg c]
      ·unfold Gp.row;rw[if_neg c];exact m3.mono (s2.trans (aj nD))
   rintro H3 s3 rp0 e1 e2 e3 to K2 ZG ZH
   have P9:=EU.trans s3
   subst ZG
   have Wm:=uB gk j
   have Wn:(G.jw st.2)[j]?=some (1,G.nx ((j:Int)+1) (G.row j).1 (G.row j).2 st.2):=by unfold Gp.jw;rw[aad,List.getElem?_range jd];rfl
   obtain⟨wy,Qa,Qb⟩:=ry.at (i:=j) (by rw[aad,Wn];rfl)
   refine(?_:let G_:Prop:=_;G_)
   intro G_
   obtain⟨wp,w1,w2,rfl,ZI,v1,v2⟩:=aV.mp (show Rep H (.tup _) wy from Qb)
   obtain rfl:=aI.mp v1
   obtain rfl:=aI.mp v2
   dsimp only[G_]
   simp_all only[E5]
   refine⟨_,K2,_,rfl,_,K2,_,rfl,G.cs,G.g.ps,st.2,(G.row j).1,true,_,rfl,rg.mono P9,gk.gc,st.1,Lz.mono P9,hR.1,ZH,Wm.le,Wm.ok,CJ,_,_,CI,gk.ac,λu H4 s4 ru=>?_⟩
   have DA:=P9.trans s4
   refine⟨_,DA _ _ hb,_,bJ Dg,_,rfl,_,DA _ _ wA,_,rfl,_,rfl,_,DA _ _ L7,_,by rw[Int.add_sub_cancel];exact bJ Qa,_,rfl,_,DA _ _ ZI,_,rfl,by omega,λp np=>kk p u (G.nx ((j:Int)+1) (G.row j).1 (G.row j).2 st.2) _ (DA.trans (aj np)) ar (ru.mono (aj np)) (List.mem_map.mpr ⟨_,aal Wn,rfl⟩)⟩
  ·rw[uE ey] at Bj
   rw[HW ey] at Nu
   have Qc:=HQ gk ey go
   refine(?_:let G_:Prop:=_;G_)
   intro G_
   obtain⟨wq,a1,a2,a3,rfl,uX,r1,r2,r3⟩:=bD.mp (show Rep H1 (.tup _) wv from Wi)
   obtain rfl:=ao.mp r1
   obtain rfl:=aI.mp r2
   obtain⟨rq,Wl,rfl,Nv,L6⟩:=aO.mp r3
   have rvl:Wl.length=G.rs.length:=by have:=L6.length;rw[aac,aac] at this;omega
   have P0:=gk.rl
   obtain⟨q0,o1,o2,o3,rfl,wA,g1,g2,g3⟩:=bD.mp Bj
   obtain rfl:=ao.mp g1
   obtain rfl:=aI.mp g2
   obtain⟨yl,ys,rfl,L7,ry⟩:=aO.mp g3
   have gc:=gk.gc
   obtain⟨Y6,IB⟩:=qx gc
   dsimp only[G_]
   have qI:G.cs.length=uW.length:=by have:=uK.length;rw[aac] at this;exact this
   have c3:=gc.2.1
   have IA:st.2.length=G.cs.length:=hR.1
   have Wo:Ke (.lst (((G.qz st.2).map λr=>r.word).map .str)):=E8 λn hn=>by
    refine(?_:let G_:Prop:=_;G_)
    intro G_
    obtain⟨r,hr,rfl⟩:=List.mem_map.mp hn
    dsimp only[G_]
    exact P4 r (qA hr)
   change tSeq _ _ _ _ _
   refine bb (λN=>N [some (.ref gp),some (.ref sp),some (.int x),some (.ref t),some (.int (k:Int)),some (.ref bd),some (.ref yC),some (.ref wl),some (.ref wq),none,none,none,none,none,none] H1) ?_ (λN hN=>?_)
   case refine_2=>exact dU (λY N k=>by simp_all only[uX];first | exact k | (rw[if_neg (by decide +kernel)];exact k)) (hN)
   change tSeq _ _ _ _ _
   refine bb (λN=>∀H2,aE H1 H2->∀nm,H2 nm=some (.lst ((G.cs.map (·.1)).map V.str))->N [some (.ref gp),some (.ref sp),some (.int x),some (.ref t),some (.int (k:Int)),some (.ref bd),some (.ref yC),some (.ref wl),some (.ref wq),none,none,some (.ref nm),none,none,none] H2) ?_ (λN hN=>?_)
   case refine_2=>
    simp_all only[]
    refine⟨_,s1 _ _ hg,_,rfl,cl,rfl,⟨_,bN.of (s1 _ _ iC)⟩,?_⟩
    refine jh (src_list (λH2 s2=>s2.seq (bN.of (s1 _ _ iC)))) (λi a b H3=>∃c,G.cs[i]?=some c/\a=.str c.1) ?_ (by omega) (λi y H2=>∃c,G.cs[i]?=some c/\y=.str c.1) (λi y H2 H3 s3 h=>h) ?_ ?_
    ·rintro i y H2 H3 hi s2 ⟨rfl,hy⟩
     refine(?_:let G_:Prop:=_;G_)
     intro G_
     obtain⟨d,ed,rd⟩:=uK.get hy
     rw[aad] at ed
     obtain⟨c,ec,rfl⟩:=Option.map_eq_some_iff.mp ed
     obtain⟨q,a,b,rfl,hq,r1,r2⟩:=aV.mp (show Rep H (.tup _) y from rd)
     dsimp only[G_]
     exact⟨aE.refl _,q,_,_,rfl,hX.of (s2 _ _ (s1 _ _ hq)),c,ec,ao.mp r1⟩
    ·intro i a b H3 Q2 hi s3 fU kq
     refine(?_:let G_:Prop:=_;G_)
     intro G_
     obtain⟨c,ec,rfl⟩:=fU
     dsimp only[G_]
     simp_all only[]
     exact kq _ _ (aE.refl _) ⟨c,ec,rfl⟩
    ·intro ys H2 s2 ly hy D n1 n2
     have e:ys=(G.cs.map (·.1)).map V.str:=by
      apply List.ext_getElem?
      intro i
      cases ei:ys[i]? with
      | none=>
       rw[aa7] at ei
       rw[aaR (by rw[aac,aac];omega)]
      | some y=>
       refine(?_:let G_:Prop:=_;G_)
       intro G_
       obtain⟨c,ec,rfl⟩:=hy i y ei
       dsimp only[G_]
       rw[aad,aad,ec]
       rfl
     rw[e]
     exact hN _ (s2.trans (aj n2)) D ar
   rintro H2 s2 nm LJ
   change tSeq _ _ _ _ _
   refine bb (λN=>∀H3,aE H2 H3->∀rl,H2 rl=none->H3 rl=some (.lst [])->N [some (.ref gp),some (.ref sp),some (.int x),some (.ref t),some (.int (k:Int)),some (.ref bd),some (.ref yC),some (.ref wl),some (.ref wq),none,none,some (.ref nm),some (.ref rl),none,none] H3) ?_ (λN hN=>?_)
   case refine_2=>
    simp_all only[]
    exact⟨by omega,λrl nr=>hN _ (aj nr) rl nr ar⟩
   rintro H3 s3 rl PZ wu
   have F9:=s1.trans s2
   change tSeq _ _ _ _ _
   refine bb (λN=>∀H4,aE H2 H4->∀zs z1 z2,H4 rl=some (.lst zs)->bq H2 (((G.qz st.2).map oY).map ie) zs->N [some (.ref gp),some (.ref sp),some (.int x),some (.ref t),some (.int (k:Int)),some (.ref bd),some (.ref yC),some (.ref wl),some (.ref wq),none,z1,some (.ref nm),some (.ref rl),z2,none] H4) ?_ (λN hN=>?_)
   case refine_2=>
    simp_all only[(s2.trans s3) _ _ uX]
    refine⟨⟨_,bN.of ((s2.trans s3) _ _ Nv)⟩,cu (src_list (Ok:=aE H2) (λH' k=>bN.of (k _ _ (s2 _ _ Nv)))) (λi σ H'=>aE H2 H'/\∃zs z1 z2,H' rl=some (.lst zs)/\bq H2 ((((G.rs.take i).filter λr=>d9 G.cs st.2 r.wh).map oY).map ie) zs/\σ=[some (.ref gp),some (.ref sp),some (.int x),some (.ref t),some (.int (k:Int)),some (.ref bd),some (.ref yC),some (.ref wl),some (.ref wq),none,z1,some (.ref nm),some (.ref rl),z2,none]) ⟨s3,[],_,_,wu,ba.mpr rfl,rfl⟩ (λ_ _ _ _ h=>h.1) ?_ ?_⟩
    ·intro i y σ H4 H5 hi hW fU
     refine(?_:let G_:Prop:=_;G_)
     intro G_
     obtain⟨s4,zs,z1,z2,hz,rz,rfl⟩:=hW
     obtain⟨rfl,Wp⟩:=fU
     obtain⟨r,p,r',b',c',d',er,rfl,hp,E9,_⟩:=pj L6 Wp
     dsimp only[G_]
     have yn:=gk.rk r (aal er)
     have ZJ:=(s2.trans s4) _ _ hp
     have tk:(G.rs.take (i+1)).filter (λr=>d9 G.cs st.2 r.wh)=(G.rs.take i).filter (λr=>d9 G.cs st.2 r.wh)++ (if d9 G.cs st.2 r.wh=true then [r] else []):=by
      rw[aaF,er,List.filter_append]
      congr 1
      show List.filter _ [r]=_
      by_cases c:d9 G.cs st.2 r.wh=true
      ·rw[if_pos c];exact List.filter_cons_of_pos c
      ·rw[if_neg c];exact List.filter_cons_of_neg c
     have CU:H2 p=some (.tup [.str r.word,b',c',d']):=s2 _ _ hp
     obtain⟨vr,Wq,ZK⟩:=L6.at (i:=i) (d:=ie (oY r)) (by rw[aad,aad,er];rfl)
     rw[Wp] at Wq
     cases Wq
     have zl5:zs.length<=3:=by
      have:=rz.length
      rw[aac,aac] at this
      have:=List.length_filter_le (λr:Rw=>d9 G.cs st.2 r.wh) (G.rs.take i)
      rw[aaT] at this
      omega
     simp only[gName,aaY,aaX]
     change tSeq _ _ _ _ _
     refine bb (λN2=>N2 [some (.ref gp),some (.ref sp),some (.int x),some (.ref t),some (.int (k:Int)),some (.ref bd),some (.ref yC),some (.ref wl),some (.ref wq),none,some (.ref p),some (.ref nm),some (.ref rl),some b',none] H5) ?_ (λN2 o8=>?_)
     case refine_2=>
      simp_all only[ZJ]
      exact o8
     refine xU (λH'=>H5=H'/\d9 G.cs st.2 r.wh=true) (λH'=>H5=H'/\d9 G.cs st.2 r.wh=false) ?_ ?_ (λY N' hY Qd=>?_)
     ·rintro _ ⟨rfl,c⟩
      rw[c,if_pos rfl] at tk
      simp_all only[cV]
      refine⟨.inl ⟨rfl,_,bN.of hz⟩,_,hz,by omega,bQ s4 PZ,_,ar,?_,_,rfl⟩
      rw[tk,aaz,aaz]
      exact rz.append (aH.mpr ⟨_,_,rfl,ZK.mono s2,ba.mpr rfl⟩)
     ·rintro _ ⟨rfl,c⟩
      rw[c,if_neg (by decide),aaV] at tk
      simp_all only[]
      refine⟨s4,_,hz,?_,_,rfl⟩
      rw[tk]
      exact rz
     ·cases Qe:r.wh with
      | none=>
       rw[Qe] at E9 hY
       obtain rfl:=mv.mp (show Rep H1 .de b' from E9)
       simp_all only[]
       exact hY _ ⟨rfl,rfl⟩
      | some wh=>
       refine(?_:let G_:Prop:=_;G_)
       intro G_
       obtain⟨wn,wx,wk⟩:=wh
       rw[Qe] at E9 hY Qd
       obtain⟨IK,ZL⟩:=yn.2 _ _ _ Qe
       obtain⟨wa,u1,u2,u3,rfl,ZM,k1,k2,k3⟩:=bD.mp (show Rep H1 (.tup _) b' from E9)
       obtain rfl:=ao.mp k1
       obtain rfl:=ao.mp k2
       obtain rfl:=aI.mp k3
       dsimp only[G_]
       have Qf:=(s2.trans s4) _ _ ZM
       have ia:=uN IK
       have Ib:=c8 IK
       have LK:∀e∈(G.cs.map (·.1)).map Dat.str,Kd e:=λe he=>by
        refine(?_:let G_:Prop:=_;G_)
        intro G_
        obtain⟨n,hn,rfl⟩:=List.mem_map.mp he
        dsimp only[G_]
        exact⟨IB n hn,by rw[cf,PyData.depth];decide⟩
       simp_all only[AF,Qf]
       rw[if_neg (λz=>by cases z)]
       refine⟨_,(F9.trans s4) _ _ hst,_,rfl,.inl ⟨rfl,_,bN.of (s4 _ _ LJ)⟩,_,s4 _ _ LJ,(G.cs.map (·.1)).map Dat.str,gK _,LK,.str wn,ao.mpr rfl,⟨IB _ IK,by rw[cf,PyData.depth];decide⟩,_,ia.1,ia.2,(by show bL G.cs wn<100000;omega),_,rfl,_,(F9.trans s4) _ _ hn,_,dG (show bL G.cs wn<st.2.length by omega),_,rfl,?_⟩
       rcases ZL with rfl | rfl
       ·rw[decide_eq_true (show EJ=Str.ofString "from" from rfl)]
        by_cases q:wk<=st.2.getD (bL G.cs wn) 0
        ·rw[if_pos (decide_eq_true q)]
         exact hY _ ⟨rfl,by rw[wM IK];exact decide_eq_true q⟩
        ·rw[if_neg (λz=>q (of_decide_eq_true z))]
         exact Qd _ ⟨rfl,by rw[wM IK];exact decide_eq_false q⟩
       ·have nb:¬EK=Str.ofString "from":=by decide +kernel
        rw[decide_eq_false nb]
        by_cases q:wk<=st.2.getD (bL G.cs wn) 0
        ·rw[if_neg (λz=>of_decide_eq_false z q)]
         exact Qd _ ⟨rfl,by rw[wN IK];exact decide_eq_false (by omega)⟩
        ·rw[if_pos (decide_eq_false q)]
         exact hY _ ⟨rfl,by rw[wN IK];exact decide_eq_true (by omega)⟩
    ·intro σ H4 eQ
     refine(?_:let G_:Prop:=_;G_)
     intro G_
     obtain⟨s4,zs,z1,z2,hz,rz,rfl⟩:=eQ
     dsimp only[G_]
     rw[aaE (by omega)] at rz
     exact hN _ s4 zs _ _ hz rz
   rintro H4 s4 zs z1 z2 hz rz
   have zl:zs.length=(G.qz st.2).length:=by have:=rz.length;rw[aac,aac] at this;omega
   have ol3:(G.qz st.2).length<=3:=aax (List.length_filter_le _ _) P0
   change tSeq _ _ _ _ _
   refine bb (λN=>∀H5,aE H4 H5->N [some (.ref gp),some (.ref sp),some (.int x),some (.ref t),some (.int (k:Int)),some (.ref bd),some (.ref yC),some (.ref wl),some (.ref wq),none,z1,some (.ref nm),some (.ref rl),z2,none] H5) ?_ (λN hN=>?_)
   case refine_2=>
    have DC:=F9.trans s4
    simp_all only[vN,JI]
    refine⟨_,DC _ _ hb,_,bJ Dg,_,rfl,_,hX.of (DC _ _ wA),(λz=>absurd z.2 (show ¬(2=3) by decide)),λp np=>⟨_,aj np _ _ ((s2.trans s4) _ _ uX),_,rfl,by omega,λp1 Ha sa n1 e1=>⟨.tup [.str jn,.int G.iy],aV.mpr ⟨p,_,_,rfl,(show Ha p=some (.tup [V.str jn,V.int G.iy]) from sa _ _ ar),ao.mpr rfl,aI.mpr rfl⟩,.tup [.str jn,.int G.iy],aV.mpr ⟨p1,_,_,rfl,e1,ao.mpr rfl,aI.mpr rfl⟩,Gb _,Gb _,?_⟩⟩⟩
    rw[if_neg (by simp)]
    have Nw:=(aj (o:=.tup (xA [V.str (Str.ofString "pick"),V.int G.iy,V.ref yl] none (some 2))) np).trans sa
    have Wr:=Nw _ _ hz
    refine⟨_,(DC.trans Nw) _ _ hw,_,bJ Wh,⟨_,bN.of Wr⟩,comp_map (src_list (λH' k=>k.seq (bN.of Wr))) (λi x H H3 it=>by rw[it.1];exact aE.refl _) (by omega) (λi y H'=>∃r,(G.qz st.2)[i]?=some r/\y=.str r.word) (λi y H H' s h=>h) ?_ ?_⟩
    ·rintro i y ww Hb Hc Q2 hi sb ⟨rfl,Wu⟩ kq
     refine(?_:let G_:Prop:=_;G_)
     intro G_
     obtain⟨r,p,r',b',c',d',er,rfl,hp,_,_⟩:=pj rz Wu
     dsimp only[G_]
     simp_all only[((s4.trans Nw).trans sb) _ _ hp]
     exact kq _ _ (aE.refl _) ⟨r,er,rfl⟩
    ·intro EC Hb sb ly hy D n1 n2
     have e:EC=((G.qz st.2).map λr=>r.word).map V.str:=by
      apply List.ext_getElem?
      intro i
      cases ei:EC[i]? with
      | none=>
       rw[aa7] at ei
       rw[aaR (by rw[aac,aac];omega)]
      | some y=>
       refine(?_:let G_:Prop:=_;G_)
       intro G_
       obtain⟨c,ec,rfl⟩:=hy i y ei
       dsimp only[G_]
       rw[aad,aad,ec]
       rfl
     subst e
     have sB:=(Nw.trans sb).trans (aj (o:=.lst (((G.qz st.2).map λr=>r.word).map V.str)) n2)
     have ew:(.lst ((G.qz st.2).map λr=>.str r.word):Dat)=.lst (((G.qz st.2).map λr=>r.word).map .str):=by rw[aav];rfl
     refine⟨.lst (((G.qz st.2).map λr=>r.word).map .str),by rw[<-ew];exact Nu.mono (DC.trans sB),.lst (((G.qz st.2).map λr=>r.word).map .str),aO.mpr ⟨D,_,rfl,ar,gK _⟩,Wo,Wo,?_⟩
     have ZN:=ry.length
     rw[aac,aac] at ZN
     have ZO:=congrArg List.length Qc
     rw[aac,aac] at ZO
     have Qg:=DC.trans sB
     rw[if_neg (by simp)]
     refine⟨_,Qg _ _ hb,_,bJ Dg,_,rfl,_,Qg _ _ wA,_,rfl,_,rfl,_,Qg _ _ L7,_,sB _ _ hz,?_⟩
     rw[if_neg (λz=>z (by omega))]
     exact hN _ sB
   rintro H5 s5
   change tSeq _ _ _ _ _
   refine bb (λN=>∀(j:Nat),j< (G.qz st.2).length->N [some (.ref gp),some (.ref sp),some (.int x),some (.ref t),some (.int (k:Int)),some (.ref bd),some (.ref yC),some (.ref wl),some (.ref wq),none,z1,some (.ref nm),some (.ref rl),z2,some (.int (j:Int))] H5) ?_ (λN hN=>?_)
   case refine_2=>
    simp_all only[]
    have ol:=List.length_pos_iff.mpr (CK gk (ns:=st.2))
    have q1:=aaZ x (show(zs.length:Int)≠0 by omega)
    have q2:=aa6 x (show(0:Int)< (zs.length:Int) by omega)
    refine⟨_,s5 _ _ hz,by omega,?_⟩
    rw[show x % (zs.length:Int)=(((x % (zs.length:Int)).toNat:Nat):Int) by omega]
    exact hN _ (by omega)
   rintro j jl
   obtain⟨r,er⟩:∃r,(G.qz st.2)[j]?=some r:=⟨_,aap jl⟩
   have yn:=(gk.rk r (qA (aal er))).1
   obtain⟨zv,Wv,ZP⟩:=rz.at (i:=j) (d:=ie (oY r)) (by rw[aad,aad,er];rfl)
   refine(?_:let G_:Prop:=_;G_)
   intro G_
   obtain⟨zp,u1,u2,u3,u4,rfl,ZQ,k1,k2,k3,k4⟩:=b7.mp (show Rep H2 (.tup _) zv from ZP)
   obtain rfl:=ao.mp (show Rep H2 (.str r.to) u4 from k4)
   dsimp only[G_]
   have Jp:=s4.trans s5
   have Dy:=F9.trans Jp
   have Ww:=s5 _ _ hz
   have Mb:=Jp _ _ ZQ
   have ZR:G.nx 0 r.ds r.to st.2∈dX ts:=by
    unfold dX
    rw[Qc]
    exact List.mem_map.mpr ⟨r,aal er,rfl⟩
   obtain⟨wy,Qa,Qb⟩:=ry.at (i:=j) (d:=.int ((SS.idxOf (G.nx 0 r.ds r.to st.2):Nat):Int)) (by rw[Qc,aad,aad,er];rfl)
   obtain rfl:=aI.mp Qb
   simp_all only[E5]
   refine⟨_,Ww,_,bJ Wv,_,rfl,_,Mb,_,rfl,_,Ww,_,bJ Wv,_,rfl,_,Mb,_,rfl,G.cs,G.g.ps,st.2,r.ds,false,_,rfl,rg.mono Dy,gk.gc,st.1,Lz.mono Dy,hR.1,Rep.mono Jp (show Rep H2 (.lst (r.ds.map uq)) u3 from k3),yn.le,yn.ok,CJ,_,_,CI,gk.ac,λu H6 s6 ru=>?_⟩
   have DB:=Dy.trans s6
   refine⟨_,DB _ _ hb,_,bJ Dg,_,rfl,_,DB _ _ wA,_,rfl,_,rfl,_,DB _ _ L7,_,bJ Qa,by omega,λp np=>kk p u (G.nx 0 r.ds r.to st.2) _ (DB.trans (aj np)) ar (ru.mono (aj np)) ZR⟩
noncomputable def IL:Sp:=λvs H Q _=>∃b G SS dQ bs,vs=[.ref b]/\H b=some (.lst bs)/\bq H (wb (Gp.g G) SS dQ) bs/\(∃s0,dZ G.g 0 SS 0 [s0] dQ)/\SS≠[]/\SS.Nodup/\SS.length<=120/\G.Ok/\(∀s∈SS,G.R s)/\∀H',aE H H'->Q (.bl true) H'
theorem iq:bo ["_law_board","_law_found","_law_left","_law_place","_law_ways","_law_to"] ["_law_board"] (aw (top 49)):=⟨rfl,rfl,rfl,by decide +kernel,rfl,by decide +kernel,by decide +kernel⟩
theorem yD {t:Nat}:∀fs:List Nat,df (fs.map λf:Nat=>((Sum.inl (f:Int):Key),V.bl true)) (Sum.inl (t:Int))=if t∈fs then some (V.bl true) else none
 | []=>rfl
 | f::fs=>by
  rw[aae]
  by_cases c:f=t
  ·rw[gy (by rw[c]),if_pos (by rw[c];exact aai)]
  ·rw[eE (λz=>c (by injection z with z;omega)),yD fs]
   by_cases h:t∈fs
   ·rw[if_pos h,if_pos (aag _ h)]
   ·rw[if_neg h,if_neg (λz=>by rcases List.mem_cons.mp z with z | z;exact c z.symm;exact h z)]
theorem Mc (T:Txt K mg aK aL aG aY ag aD):cS P w K mg base (bO P w) 1 "_law_reached" ["_law_board"] IL:=by
 refine T.qh.eO (λ_ _ _ _ _ _ us hl=>match us,hl with | [_],_=>rfl) λf fd F=>F.gu iq (λvs H Q E h=>?_) (λbZ A outer s H vs Q E hr h=>?_)
 ·obtain⟨_,_,_,_,_,rfl,_⟩:=h;rfl
 ·refine(?_:let G_:Prop:=_;G_)
  intro G_
  obtain⟨b,G,SS,dQ,bs,rfl,hb,rb,⟨s0,sp⟩,ne,Nx,uC,gk,sub,kk⟩:=h
  dsimp only[G_]
  have nd:=iq.nd
  refine⟨_,(ai (aP (i:=1) nd rfl (Or.inl rfl) (J5 ae eU))
  (ai (aP (i:=2) nd rfl (Or.inl rfl) (bC (aa ae af (se rfl))))
  (ai (lI PassesOwn.never (aN (kD hr.units) (pv 2) (bC af) (aU _)) (ai (aP (i:=3) nd rfl (Or.inl rfl) (aB aW (pv 0) (BF aas PySem.F.slot_list_pop PySem.F.type_list_pop GL.r (pv 2)) (λ_ _=>rfl)))
  (ai (aP (i:=4) nd rfl (Or.inl rfl) (bC af))
  (ai (bG (aN bW (aB az (pv 3) ae (λ_ _=>rfl)) aJ (aU _)) (aA (aP (i:=4) nd rfl (Or.inl rfl) (aB az (pv 3) ae (λ_ _=>rfl))))
   bj)
  (ai (bG (aN bW (aB az (pv 3) ae (λ_ _=>rfl)) aJ (aU _)) (aA (lT (i:=4) rfl nd rfl rfl (N:=["_law_board","_law_found","_law_left","_law_place","_law_ways","_law_to"]) (so:=aw (top 49)) (N':=["_law_weight","_law_to"]) (k:=2) (fr:=[]) rfl rfl ⟨rfl,by decide +kernel,by decide +kernel,by decide +kernel,rfl,by decide +kernel,by decide +kernel⟩ (bx (K:=K) (aB az (pv 3) ae (λ_ _=>rfl))) (λ_ _ _ _ _=>(c6 (K:=K) (n:=2) rfl (bu (aT (i:=0) (show(["_law_weight","_law_to"]:List Str).Nodup by decide +kernel) rfl (Or.inl rfl)) (bu (aT (i:=1) (show(["_law_weight","_law_to"]:List Str).Nodup by decide +kernel) rfl (Or.inl rfl)) cU)))) (λ_ _ _ _ _=>cJ)
   (λ_ _ _ _ _=>(pv 1))))
   bj)
  (aA (cQ PassesOwn.never rfl (bx (K:=K) (pv 4)) (aT (i:=5) nd rfl (Or.inl rfl)) (aA (bG (tL (mQ (dt hr) (pv 5) (pv 1))) (ai (lN (dt hr) (pv 1) (pv 5) eU rfl)
  (aA (bX (dr aas aaG aaH cb.r (pv 2) (aa (pv 5) af (se rfl))))))
   bj)))))))))
  (aA (bf (jf bW (bh sH (by rfl) T.z_len aao (aa (pv 1) af (se rfl)) (he:=se rfl) (hpl:=na rfl)) (bh bI (by rfl) T.z_len aao (aa (pv 0) af (se rfl)) (he:=se rfl) (hpl:=na rfl)) (aU _))))))),?_⟩
  refine(?_:let cB:TS:=_;let cC:TS:=_;let cD:TS:=_;let dE:TS:=_;tSeq cB (tSeq cC (tSeq cD dE)) _ _ _)
  intro cB cC cD dE
  have sl:=sizeLine_eq
  change tSeq _ _ _ _ _
  refine bb (λN=>∀H1,aE H H1->∀d,H d=none->H1 d=some (.dK [(Sum.inl 0,V.bl true)])->N [some (.ref b),some (.ref d),none,none,none,none] H1) ?_ (λN hN=>?_)
  case refine_2=>
   simp_all only[]
   exact λd ER=>⟨Sum.inl 0,rfl,ar,by rw[tI];exact hN _ (aj ER) d ER ar⟩
  rintro H1 s1 d ZS hd
  change tSeq _ _ _ _ _
  refine bb (λN=>∀H2,aE H1 H2->∀l,H1 l=none->H2 l=some (.lst [V.int 0])->N [some (.ref b),some (.ref d),some (.ref l),none,none,none] H2) ?_ (λN hN=>?_)
  case refine_2=>
   simp_all only[]
   exact⟨by omega,λl nl=>hN _ (aj nl) l nl ar⟩
  rintro H2 s2 l Bh hl
  have hd2:=s2 _ _ hd
  have EU:=s1.trans s2
  have IC:H l=none:=none_of s1 Bh
  have ld:l≠d:=λz=>by rw[z,hd] at Bh;cases Bh
  have nS:0<SS.length:=List.length_pos_iff.mpr ne
  have Qh:dQ.length=SS.length:=by have:=sp.all.1;omega
  have ZT:bs.length=SS.length:=by
   have:=rb.length
   unfold wb at this
   rw[aac,List.length_zip,Qh,Nat.min_self] at this
   omega
  change tSeq _ _ _ _ _
  refine bb (λN=>∀H3,aE H H3->∀kvs z1 z2 z3,H3 d=some (.dK kvs)->kvs.length=SS.length->N [some (.ref b),some (.ref d),some (.ref l),z1,z2,z3] H3) ?_ (λN hN=>?_)
  case refine_2=>
   refine EN (λm σ H3=>aE H H3/\∃fs ls z1 z2 z3,Ds SS.length (yg SS dQ) fs ls/\m=2* (SS.length - fs.length)+ls.length/\m<=300/\H3 d=some (.dK (fs.map λf:Nat=>(Sum.inl (f:Int),V.bl true)))/\H3 l=some (.lst (ls.map λf:Nat=>V.int (f:Int)))/\σ=[some (.ref b),some (.ref d),some (.ref l),z1,z2,z3]) (m:=2* (SS.length - 1)+1) ⟨EU,[0],[0],_,_,_,⟨List.pairwise_singleton _ _,λf hf=>by rw[List.mem_singleton.mp hf];exact nS,List.mem_singleton.mpr rfl,λf hf=>hf,λf hf h=>absurd hf h⟩,rfl,by omega,hd2,hl,rfl⟩ ?_
   intro m σ H3 A0
   refine(?_:let G_:Prop:=_;G_)
   intro G_
   obtain⟨s3,fs,ls,z1,z2,z3,I,rfl,ZU,Ny,w5,rfl⟩:=A0
   dsimp only[G_]
   by_cases c:ls=[]
   ·subst c
    refine⟨false,λH'=>aE H3 H',λQ hQ=>?_,λH4 s4=>?_⟩
    ·simp_all only[vN]
     refine⟨by omega,λp np=>⟨.lst (([]:List Int).map .int),aO.mpr ⟨l,_,rfl,aj np _ _ w5,ba.mpr rfl⟩,.lst (([]:List Int).map .int),aO.mpr ⟨p,_,rfl,ar,ba.mpr rfl⟩,jo [],jo [],?_⟩⟩
     rw[if_neg (by decide),decide_eq_true rfl]
     exact hQ _ (aj np)
    ·rw[if_neg (by decide)]
     exact hN _ (s3.trans s4) _ _ _ _ (s4 _ _ Ny) (by rw[aac];exact I.all λj h h0=>sp.OL Nx j h h0)
   ·obtain⟨ls,f0,rfl⟩:∃Bk f0,ls=Bk++ [f0]:=⟨_,_,(List.dropLast_concat_getLast c).symm⟩
    refine⟨true,λH'=>aE H3 H',λQ hQ=>?_,λH4 s4=>?_⟩
    ·simp_all only[vN]
     have el:((ls++ [f0]).map λf:Nat=>V.int (f:Int))=((ls++ [f0]).map λf:Nat=>(f:Int)).map V.int:=by rw[aav];rfl
     refine⟨by omega,λp np=>⟨.lst (((ls++ [f0]).map λf:Nat=>(f:Int)).map .int),aO.mpr ⟨l,_,rfl,aj np _ _ w5,by rw[el];exact ints_rep _⟩,.lst (([]:List Int).map .int),aO.mpr ⟨p,_,rfl,ar,ba.mpr rfl⟩,jo _,jo [],?_⟩⟩
     rw[if_neg (by decide),yB,yB,decide_eq_false (λz=>by
      injection z with z
      have:=congrArg List.length z
      simp at this)]
     exact hQ _ (aj np)
    ·rw[if_pos rfl]
     have ZV:f0<SS.length:=I.lt f0 (I.sub f0 (aaB _ (List.mem_singleton.mpr rfl)))
     obtain⟨st,eS⟩:∃st,SS[f0]?=some st:=⟨_,aap ZV⟩
     obtain⟨ts,eT⟩:∃ts,dQ[f0]?=some ts:=⟨_,aap (by omega)⟩
     refine(?_:let G_:Prop:=_;G_)
     intro G_
     obtain⟨_,go,Qi⟩:=sp.at f0 st ts eS (aak _) eT
     have hR:=sub st (aal eS)
     obtain⟨v,ev,rv⟩:=rb.at (yj (G:=G) eS eT)
     dsimp only[G_]
     have ew:yg SS dQ f0=(dX ts).map λs=>SS.idxOf s:=by unfold yg;rw[eT];rfl
     have Wx:=s3.trans s4
     have ZW:=s4 _ _ Ny
     have A7:=s4 _ _ w5
     have Wy:((ls++ [f0]).map λf:Nat=>V.int (f:Int))=(ls.map λf:Nat=>V.int (f:Int))++ [V.int (f0:Int)]:=by rw[aaz];rfl
     change tSeq _ _ _ _ _
     refine bb (λN2=>∀H5,H5=upd H4 l (.lst (ls.map λf:Nat=>V.int (f:Int)))->N2 [some (.ref b),some (.ref d),some (.ref l),some v,z2,z3] H5) ?_ (λN2 o8=>?_)
     case refine_2=>
      simp_all only[JL,GI]
      refine⟨.inl ⟨rfl,_,bN.of A7⟩,_,A7,_,by rw[Wy,aan,aay,Nat.add_sub_cancel,aa3 (aaf _),Nat.sub_self];rfl,bs,_,rfl,by rw[aF (λz=>by rw[<-z,hb] at IC;cases IC)];exact Wx _ _ hb,v,bJ ev,?_⟩
      rw[Wy,List.dropLast_concat]
      exact o8 _ rfl
     rintro H5 e5
     have s5:aE H H5:=by rw[e5];exact bQ Wx IC
     have Bf:H5 l=some (.lst (ls.map λf:Nat=>V.int (f:Int))):=by rw[e5];exact ar
     have ZX:H5 d=some (.dK (fs.map λf:Nat=>(Sum.inl (f:Int),V.bl true))):=by rw[e5,aF (Ne.symm ld)];exact ZW
     clear e5
     have J0:=I.pop
     change tSeq _ _ _ _ _
     refine bb (λN2=>∀H6,aE H5 H6->∀w,H5 w=none->H6 w=some (.lst [])->N2 [some (.ref b),some (.ref d),some (.ref l),some v,some (.ref w),z3] H6) ?_ (λN2 o8=>?_)
     case refine_2=>
      simp_all only[]
      exact⟨by omega,λw nw=>o8 _ (aj nw) w nw ar⟩
     rintro H6 s6 w0 Wz WA
     have l0:w0≠l:=λz=>by rw[z,Bf] at Wz;cases Wz
     change tSeq _ _ _ _ _
     refine bb (λN2=>∀H7,aE H5 H7->∀w1,w1≠l->(st.1≠j7->H7 w1=some (.lst ((yg SS dQ f0).map λf:Nat=>V.int (f:Int))))->N2 [some (.ref b),some (.ref d),some (.ref l),some v,some (.ref w1),z3] H7) ?_ (λN2 o8=>?_)
     case refine_2=>
      rcases uF hR.2 with e | e | e | e
      ·rw[uD e] at rv
       refine(?_:let G_:Prop:=_;G_)
       intro G_
       obtain⟨q,a1,a2,a3,rfl,hq,r1,r2,r3⟩:=bD.mp rv
       obtain rfl:=ao.mp r1
       dsimp only[G_]
       have IM:=(s5.trans s6) _ _ hq
       simp_all only[IM]
       rw[if_neg (by decide +kernel)]
       exact o8 _ s6 w0 l0 (λz=>absurd e z)
      ·rw[uE e] at rv
       refine(?_:let G_:Prop:=_;G_)
       intro G_
       obtain⟨q,a1,a2,a3,rfl,hq,r1,r2,r3⟩:=bD.mp rv
       obtain rfl:=ao.mp r1
       dsimp only[G_]
       have IM:=(s5.trans s6) _ _ hq
       simp_all only[IM]
       refine(?_:let G_:Prop:=_;G_)
       intro G_
       obtain⟨w1,ys,rfl,IP,ry⟩:=aO.mp r3
       have ey:ys=(yg SS dQ f0).map λf:Nat=>V.int (f:Int):=by
        have:((ts.map (·.2)).map λt=>Dat.int ((SS.idxOf t:Nat):Int))=((yg SS dQ f0).map λf:Nat=>(f:Int)).map Dat.int:=by
         rw[ew]
         unfold dX
         rw[aav,aav,aav,aav]
         rfl
        rw[this] at ry
        rw[my ry,aav]
        rfl
       subst ey
       dsimp only[G_]
       exact o8 _ s6 w1 (λz=>by rw[z,IC] at IP;cases IP) (λ_=>(s5.trans s6) _ _ IP)
      ·rw[yh e] at rv
       refine(?_:let G_:Prop:=_;G_)
       intro G_
       obtain⟨q,a1,a2,rfl,hq,r1,r2⟩:=aV.mp (show Rep H (.tup _) v from rv)
       obtain rfl:=ao.mp r1
       dsimp only[G_]
       have IM:=(s5.trans s6) _ _ hq
       have et:ts=[]:=kS (λwo rs z=>by rw[e,tq] at z;cases z) go (zO e)
       simp_all only[IM]
       rw[if_neg (by decide +kernel)]
       exact o8 _ s6 w0 l0 (λ_=>by rw[ew,et];exact WA)
      ·rw[yi e] at rv
       refine(?_:let G_:Prop:=_;G_)
       intro G_
       obtain⟨q,a1,a2,rfl,hq,r1,r2⟩:=aV.mp (show Rep H (.tup _) v from rv)
       obtain rfl:=ao.mp r1
       dsimp only[G_]
       have IM:=(s5.trans s6) _ _ hq
       have et:ts=[]:=kS (λwo rs z=>by rw[e,tu] at z;cases z) go (zP e)
       simp_all only[IM]
       rw[if_neg (by decide +kernel)]
       exact o8 _ s6 w0 l0 (λ_=>by rw[ew,et];exact WA)
     rintro H7 s7 w1 l1 IP
     change tSeq _ _ _ _ _
     refine bb (λN2=>∀H8,aE H5 H8->∀w2,w2≠l->H8 w2=some (.lst ((yg SS dQ f0).map λf:Nat=>V.int (f:Int)))->N2 [some (.ref b),some (.ref d),some (.ref l),some v,some (.ref w2),z3] H8) ?_ (λN2 o8=>?_)
     case refine_2=>
      rcases uF hR.2 with e | e | e | e
      ·rw[uD e] at rv
       refine(?_:let G_:Prop:=_;G_)
       intro G_
       obtain⟨q,a1,a2,a3,rfl,hq,r1,r2,r3⟩:=bD.mp rv
       obtain rfl:=ao.mp r1
       have IQ:=(s5.trans s7) _ _ hq
       obtain⟨w2,ys,rfl,F1,ry⟩:=aO.mp r3
       dsimp only[G_]
       have yl:=ry.length
       rw[aac] at yl
       have tsn:ts.length<=120:=by
        rw[FP gk e go]
        unfold Gp.jw
        rw[aac,aaK]
        have:=gk.d4
        omega
       simp_all only[IQ]
       refine⟨⟨_,bN.of ((s5.trans s7) _ _ F1)⟩,?_⟩
       have ZY:=(s5.trans s7) _ _ F1
       have fm:ts.filterMap (λx=>some ((SS.idxOf x.2:Nat):Int))=(yg SS dQ f0).map λf:Nat=>(f:Int):=by
        rw[List.filterMap_eq_map',ew]
        unfold dX
        rw[aav,aav]
        rfl
       refine xS ts (λx=>some ((SS.idxOf x.2:Nat):Int)) (Item:=λi x H H'=>H'=H/\ys[i]?=some x) (by rw[yl];exact src_list (Ok:=aE H7) (λH' k=>bN.of (k _ _ ZY))) (λi x H H3 it=>it.1) (by rw[sl];omega) ?_ ?_
       ·rintro i a x ea ⟨_,ex⟩
        refine(?_:let G_:Prop:=_;G_)
        intro G_
        obtain⟨dd,ed,rd⟩:=ry.get ex
        dsimp only[G_]
        rw[aad,ea] at ed
        cases ed
        refine(?_:let G_:Prop:=_;G_)
        intro G_
        obtain⟨p,u1,u2,rfl,hp,k1,k2⟩:=aV.mp (show Rep H (.tup _) x from rd)
        rw[aI] at k1 k2
        subst k1 k2
        dsimp only[G_]
        refine⟨p,_,_,rfl,hX.of ((s5.trans s7) _ _ hp),λY N3 hY WB=>?_⟩
        simp_all only[pP]
        exact hY _ rfl
       ·intro D nD _
        refine o8 _ (s7.trans (aj nD)) D (λz=>by rw[z,s7 _ _ Bf] at nD;cases nD) ?_
        rw[ar,fm,aav]
        rfl
      ·rw[uE e] at rv
       refine(?_:let G_:Prop:=_;G_)
       intro G_
       obtain⟨q,a1,a2,a3,rfl,hq,r1,r2,r3⟩:=bD.mp rv
       obtain rfl:=ao.mp r1
       dsimp only[G_]
       have IQ:=(s5.trans s7) _ _ hq
       simp_all only[IQ]
       rw[if_neg (by decide +kernel)]
       exact o8 _ s7 w1 l1 (IP (by rw[e];decide +kernel))
      ·rw[yh e] at rv
       refine(?_:let G_:Prop:=_;G_)
       intro G_
       obtain⟨q,a1,a2,rfl,hq,r1,r2⟩:=aV.mp (show Rep H (.tup _) v from rv)
       obtain rfl:=ao.mp r1
       dsimp only[G_]
       have IQ:=(s5.trans s7) _ _ hq
       simp_all only[IQ]
       rw[if_neg (by decide +kernel)]
       exact o8 _ s7 w1 l1 (IP (by rw[e];decide +kernel))
      ·rw[yi e] at rv
       refine(?_:let G_:Prop:=_;G_)
       intro G_
       obtain⟨q,a1,a2,rfl,hq,r1,r2⟩:=aV.mp (show Rep H (.tup _) v from rv)
       obtain rfl:=ao.mp r1
       dsimp only[G_]
       have IQ:=(s5.trans s7) _ _ hq
       simp_all only[IQ]
       rw[if_neg (by decide +kernel)]
       exact o8 _ s7 w1 l1 (IP (by rw[e];decide +kernel))
     rintro H8 s8 w2 l2 F1
     simp_all only[]
     have hlen:ls.length+1=(ls++ [f0]).length:=by rw[aan];rfl
     refine⟨⟨_,bN.of F1⟩,cu (src_list (Ok:=λH'=>H' w2=some (.lst ((yg SS dQ f0).map λf:Nat=>V.int (f:Int)))) (λH' k=>bN.of k)) (λi σ H'=>aE H H'/\H' w2=some (.lst ((yg SS dQ f0).map λf:Nat=>V.int (f:Int)))/\(∃Ba Bk,Dt SS.length (yg SS dQ) f0 i Ba Bk/\2* (SS.length - Ba.length)+Bk.length<=2* (SS.length - fs.length)+ls.length/\H' d=some (.dK (Ba.map λf:Nat=>(Sum.inl (f:Int),V.bl true)))/\H' l=some (.lst (Bk.map λf:Nat=>V.int (f:Int))))/\∃z,σ=[some (.ref b),some (.ref d),some (.ref l),some v,some (.ref w2),z]) ⟨s5.trans s8,F1,⟨fs,ls,J0,aaf _,s8 _ _ ZX,s8 _ _ Bf⟩,_,rfl⟩ (λ_ _ _ _ h=>h.2.1) ?_ ?_⟩
     ·intro i x σ H9 FT hi hW fU
      refine(?_:let G_:Prop:=_;G_)
      intro G_
      obtain⟨s9,Md,⟨Ba,Bk,J,mm,Jq,Nz⟩,z9,rfl⟩:=hW
      obtain⟨rfl,ex⟩:=fU
      rw[aad] at ex
      obtain⟨tt,et,rfl⟩:=Option.map_eq_some_iff.mp ex
      dsimp only[G_]
      have ZZ:tt<SS.length:=by
       have:=aal et
       rw[ew] at this
       refine(?_:let G_:Prop:=_;G_)
       intro G_
       obtain⟨s',uR,rfl⟩:=List.mem_map.mp this
       dsimp only[G_]
       exact aa2 (Qi s' uR)
      have fl:=Ds.len (wy:=yg SS dQ) (ls:=[]) J.nd J.lt
      have ll:Bk.length<=fs.length+SS.length+SS.length+ls.length:=by omega
      have wd:w2≠d:=λz=>by rw[z,Jq] at Md;cases Md
      simp_all only[cV]
      refine⟨_,iA.k (k:=Sum.inl (tt:Int)) Jq,?_⟩
      rw[yD]
      by_cases c:tt∈Ba
      ·rw[if_pos c,if_neg (by simp)]
       exact⟨s9,Md,⟨Ba,Bk,J.old et c,mm,Jq,Nz⟩,_,rfl⟩
      ·rw[if_neg c,if_pos (show(none:Option V).isSome=false from rfl)]
       refine⟨_,xH.k (k:=Sum.inl (tt:Int)) Jq (by rw[aac,sl];omega),?_⟩
       rw[lZ (by rw[yD,if_neg c])]
       have Me:upd FT d (.dK ((Ba.map λf:Nat=>((Sum.inl (f:Int):Key),V.bl true))++ [(Sum.inl (tt:Int),V.bl true)])) l=some (.lst (Bk.map λf:Nat=>V.int (f:Int))):=by rw[aF ld];exact Nz
       have Jn:=J.new et c ZZ
       have Z0:=Ds.len (wy:=yg SS dQ) (ls:=[]) Jn.nd Jn.lt
       rw[aan,aay] at Z0
       refine⟨.inl ⟨rfl,_,bN.of Me⟩,_,Me,by rw[aac,sl];omega,bQ (bQ s9 ZS) IC,by rw[aF l2,aF wd];exact Md,⟨Ba++ [tt],Bk++ [tt],Jn,?_,?_,?_⟩,_,rfl⟩
       ·rw[aan,aan,aay]
        omega
       ·rw[aF (Ne.symm ld),ar,aaz]
        rfl
       ·rw[ar,aaz]
        rfl
     ·intro σ H9 eQ
      refine(?_:let G_:Prop:=_;G_)
      intro G_
      obtain⟨s9,Md,⟨Ba,Bk,J,mm,Jq,Nz⟩,z9,rfl⟩:=eQ
      dsimp only[G_]
      exact⟨_,by rw[<-hlen];omega,s9,Ba,Bk,J.done (by rw[aac];exact aaf _),rfl,by omega,Jq,Nz,_,_,_,rfl⟩
  rintro H3 s3 kvs z1 z2 z3 Ny lk
  simp_all only[]
  refine⟨_,Ny,_,s3 _ _ hb,?_⟩
  rw[decide_eq_true (by omega)]
  exact kk _ s3
theorem Dh:bo ["_law_script","_law_game_here","_law_told","_law_board","_law_states","_law_words","_law_start","_law_state","_law_k","_law_j","_law_found"] ["_law_script"] (aw (top 50)):=⟨rfl,rfl,rfl,by decide +kernel,rfl,by decide +kernel,by decide +kernel⟩
theorem Fb {Fr:Addr->Prop} {H:Hp} {l:Addr} {xs:List V} {SS:List b0} (hl:H l=some (.lst xs)) (al:Al (λs v=>AO Fr H v s.1 s.2) SS xs):bq H (SS.map fV) xs:=Al.AM (al.imp λs v ⟨a,c,e,h1,h2,_⟩=>by
 rw[e]
 exact aV.mpr ⟨a,_,_,rfl,h1,ao.mpr rfl,aO.mpr ⟨c,_,rfl,h2,bq.ints _⟩⟩)
theorem Qj {G:Gp}:∃y,G.g.ps[0]?=some (G.ft,y):=by
 show ∃y,(G.two++G.rest)[0]?=_
 unfold Gp.two Gp.ft
 split
 ·exact⟨_,rfl⟩
 ·exact⟨_,rfl⟩
theorem zW {s t:b0} (h:cf (fV s)=cf (fV t)):s=t:=by
 have e:∀s:b0,cf (fV s)=.tuple [.str s.1,.list (s.2.map PyData.int)]:=λs=>by
  unfold fV
  rw[cf,d8,d8,d8,cf,cf,gE]
 rw[e,e] at h
 refine zE.mp ?_
 rw[jk,jk]
 injection h with h
 injection h with h1 h
 injection h with h2 _
 injection h2 with h2
 rw[h1,h2]
theorem Fd {SS:List b0} {s:b0} (nd:SS.Nodup):((SS.map fV).countP λe=>decide (cf e=cf (fV s)))<=1:=by
 induction SS with
 | nil=>exact aak _
 | cons x SS ih=>
  obtain⟨nx,nd⟩:=List.nodup_cons.mp nd
  rw[aae,List.countP_cons]
  by_cases c:cf (fV x)=cf (fV s)
  ·have:((SS.map fV).countP λe=>decide (cf e=cf (fV s)))=0:=by
    rw[List.countP_eq_zero]
    intro e he
    obtain⟨y,hy,rfl⟩:=List.mem_map.mp he
    rw[decide_eq_true_eq]
    intro z
    have e1:=zW c
    have e2:=zW z
    exact nx (by rw[e1,<-e2];exact hy)
   rw[this]
   split <;>omega
  ·have:=ih nd
   rw[if_neg (by simpa using c)]
   omega
theorem Di (a b:Int):Ke (ph (.fin a b)):=by
 have e:cf (ph (.fin a b))=.tuple [.str (Str.ofString "end"),.tuple [.int a,.int b]]:=by
  show cf (.tup [.str (Str.ofString "end"),.tup [.int a,.int b]])=_
  rw[cf,d8,d8,d8,cf,cf,d8,d8,d8,cf,cf]
 have h:c5 (.str (Str.ofString "end"))=true:=by decide +kernel
 rw[c5] at h
 unfold Ke
 rw[e]
 refine⟨?_,?_⟩
 ·rw[j4,eG,eG,eG,j4,j4,eG,eG,eG,j4,j4,h]
  rfl
 ·simp only[PyData.depth,PyData.depthAll]
  omega
theorem zX {SS:List b0} {s:b0} (h:s∈SS):SS[SS.idxOf s]?=some s:=by
 have:=aa2 h
 rw[aap this,List.getElem_idxOf]
noncomputable def yE (x y z:Int) (to:Str) (d:Nat) (iy:Int):Gp:=⟨[(CH,60),(wW,60)],d,[],jB,[],to,iy,wI x y z,wW,3,true⟩
theorem Fe {x y z:Int} {to:Str} {d:Nat} {iy:Int} (x1:1<=x) (y1:1<=y) (z0:0<=z) (LH:to=jB\/to=kU) (d2:2<=d) (d4:d<=4):(yE x y z to d iy).Ok:=by
 have mS:CH∈[CH,wW]:=aai
 have mA:wW∈[CH,wW]:=aag _ aai
 have no:∀{th to},to∈rM->rN [(CH,(60:Int)),(wW,60)] th [] to:=λh=>⟨aak _,(λd hd=>by cases hd),h⟩
 have w:jB∈rM:=by decide +kernel
 have l:kU∈rM:=by decide +kernel
 refine⟨⟨show 1<=2 by decide,show 2<=3 by decide,λi c e=>?_⟩,d2,d4,no w,no (by rcases LH with rfl | rfl;exact w;exact l),⟨_,_,rfl,rfl⟩,show 3<=3 by decide,λr hr=>?_,mA⟩
 ·match i,e with
  | 0,e=>cases e;exact⟨rfl,show(1:Int)<=60 by decide,show(60:Int)<=60 by decide⟩
  | 1,e=>cases e;exact⟨rfl,show(1:Int)<=60 by decide,show(60:Int)<=60 by decide⟩
 ·have hr:r∈wI x y z:=hr
  unfold wI at hr
  simp only[aaq,aaw,or_false] at hr
  have wn:AX [(CH,(60:Int)),(wW,60)] none:=λn x k e=>by cases e
  rcases hr with rfl | rfl | rfl
  ·refine⟨⟨show 2<=6 by decide,λd hd=>?_,(by decide +kernel:j7∈rM)⟩,wn⟩
   have hd:d∈[Dd.set CH x,Dd.set wW (10*y+z)]:=hd
   simp only[aaq,aaw,or_false] at hd
   rcases hd with rfl | rfl
   ·exact⟨mS,show 0<=x by omega⟩
   ·exact⟨mA,show 0<=10*y+z by omega⟩
  ·refine⟨⟨show 2<=6 by decide,λd hd=>?_,(by decide +kernel:j7∈rM)⟩,wn⟩
   have hd:d∈[Dd.set CH (10*x+y),Dd.set wW z]:=hd
   simp only[aaq,aaw,or_false] at hd
   rcases hd with rfl | rfl
   ·exact⟨mS,show 0<=10*x+y by omega⟩
   ·exact⟨mA,z0⟩
  ·refine⟨⟨show 1<=6 by decide,λd hd=>?_,(by decide +kernel:wV∈rM)⟩,wn⟩
   have hd:d∈[Dd.plus wW x]:=hd
   rw[List.mem_singleton.mp hd]
   exact⟨mA,show 0<=x by omega⟩
theorem Ff {x y z:Int} {to:Str} {d:Nat} {iy:Int}:Dc (yE x y z to d iy):=λr hr=>by
 have hr:r∈wI x y z:=hr
 unfold wI at hr
 simp only[aaq,aaw,or_false] at hr
 rcases hr with rfl | rfl | rfl
 ·show c5 (.str EI)=true;decide +kernel
 ·show c5 (.str FO)=true;decide +kernel
 ·show c5 (.str Kv)=true;decide +kernel
theorem IS (T:Txt K mg aK aL aG aY ag aD) {f:Addr} {fd:FuncData} (F:xK K "law" "law" (top 50) f fd):fk P w K mg base (bO P w) 11 f fd ["_law_script"] (zR K):=by
 have bS:cS P w K mg base (bO P w) 1 "_law_at" ["_law_script","_law_k"] (fS K):=zU T
 have wO:cS P w K mg base (bO P w) 3 "_law_game" ["_law_script"] (ID K):=LO T
 have wQ:cS P w K mg base (bO P w) 2 "_law_near" ["_law_script"] (Iy K):=LF T
 have wR:cS P w K mg base (bO P w) 2 "_law_step" ["_law_game_here","_law_state","_law_cell","_law_told","_law_k"] IJ:=L5 T
 have qL:cS P w K mg base (bO P w) 1 "_law_reached" ["_law_board"] IL:=Mc T
 have Dj:cS P w K mg base (bO P w) 10 "spread" ["game"] (ye aY aG):=Iv T
 refine F.gu Dh (λvs H Q E h=>?_) (λbZ A outer s H vs Q E hr h=>?_)
 ·obtain⟨_,_,rfl,_⟩:=h;rfl
 ·refine(?_:let G_:Prop:=_;G_)
  intro G_
  obtain⟨sa,sc,rfl,hS,l63,kk⟩:=h
  dsimp only[G_]
  have nd:=Dh.nd
  refine⟨_,(ai (aP (i:=1) nd rfl (Or.inl rfl) (br wO (hr.mono (by decide)) rfl aM.pass (aa (pv 0) af (se rfl)) (he:=se rfl) (hpl:=na rfl)))
  (ai (bG (aN bW (aX bK (br bS (hr.mono (by decide)) rfl aM.pass (aa (pv 0) (aa ae af (se rfl)) (se rfl)) (he:=se rfl) (hpl:=na rfl)) ae) ae (aU _)) (aA (aP (i:=1) nd rfl (Or.inl rfl) (br wQ (hr.mono (by decide)) rfl aM.pass (aa (pv 0) af (se rfl)) (he:=se rfl) (hpl:=na rfl))))
   bj)
  (ai (Ci (j:=2) Dj (hr.mono (by decide)) rfl (aa (pv 1) af (se rfl)) rfl rfl rfl T.k_TooMany nd rfl rfl (λad=>(aA (aP (i:=2) nd rfl (Or.inl rfl) fE))) (he:=se rfl) (hpl:=na rfl))
  (ai (bG (aN tN (pv 2) fE (aU _)) (aA (bf eU))
   bj)
  (ai (gQ (pv 2) (c6 (K:=K) (n:=3) rfl (bu (aT (i:=3) nd rfl (Or.inl rfl)) (bu (aT (i:=4) nd rfl (Or.inr rfl)) (bu (aT (i:=5) nd rfl (Or.inl rfl)) cU)))))
  (ai (aP (i:=6) nd rfl (Or.inl rfl) (aQ (aa (aB az (aB aW (aB az (pv 1) ae (λ_ _=>rfl)) ae (λ_ _=>rfl)) ae (λ_ _=>rfl)) (aa (cL rfl (N:=["_law_script","_law_game_here","_law_told","_law_board","_law_states","_law_words","_law_start","_law_state","_law_k","_law_j","_law_found"]) (so:=aw (top 50)) (N':=["_law_count"]) (k:=1) (fr:=[]) rfl rfl ⟨rfl,by decide +kernel,by decide +kernel,by decide +kernel,rfl,by decide +kernel,by decide +kernel⟩ (bx (K:=K) (aB az (pv 1) ae (λ_ _=>rfl))) (λ_ _ _ _ _=>(aT (i:=0) (show(["_law_count"]:List Str).Nodup by decide +kernel) rfl (Or.inl rfl))) (λ_ _ _ _ _=>cJ)
   (λ_ _ _ _ _=>ae)) af (se rfl)) (se rfl))))
  (ai (bG (PW.pt (pw_or (aN oj (bh bI (by rfl) T.z_len aao (aa (pv 3) af (se rfl)) (he:=se rfl) (hpl:=na rfl)) (bh bI (by rfl) T.z_len aao (aa (pv 4) af (se rfl)) (he:=se rfl) (hpl:=na rfl)) (aU _)) (pw_or (aN oj (bh bI (by rfl) T.z_len aao (aa (pv 5) af (se rfl)) (he:=se rfl) (hpl:=na rfl)) (bh bI (by rfl) T.z_len aao (aa (pv 4) af (se rfl)) (he:=se rfl) (hpl:=na rfl)) (aU _)) (pw_or (aN lJ (bh bI (by rfl) T.z_len aao (aa (pv 4) af (se rfl)) (he:=se rfl) (hpl:=na rfl)) ae (aU _)) (pw_or1 (xc (pB (br qL (hr.mono (by decide)) rfl aM.pass (aa (pv 3) af (se rfl)) (he:=se rfl) (hpl:=na rfl))))))))) (aA (bf eU))
   bj)
  (ai (bG (PW.pt (pw_or (aN (kD hr.units) (aB aW (pv 4) ae (λ_ _=>rfl)) (pv 6) (aU _)) (pw_or1 (aN lJ (bh bI (by rfl) T.z_len aao (aa (cL rfl (N:=["_law_script","_law_game_here","_law_told","_law_board","_law_states","_law_words","_law_start","_law_state","_law_k","_law_j","_law_found"]) (so:=aw (top 50)) (N':=["_law_state","_law_states"]) (k:=1) (fr:=[4]) rfl rfl ⟨rfl,by decide +kernel,by decide +kernel,by decide +kernel,rfl,by decide +kernel,by decide +kernel⟩ (bx (K:=K) (pv 4)) (λ_ _ _ _ _=>(aT (i:=0) (show(["_law_state","_law_states"]:List Str).Nodup by decide +kernel) rfl (Or.inl rfl))) (λ_ _ _ _ _=>(lS (aN lJ (Hk (K:=K) aas PySem.F.slot_list_count PySem.F.type_list_count (AH (by exact hr.units)) (pv 1) (aa (pv 0) af (se rfl))) ae (aU _))))
   (λ_ _ _ _ _=>(pv 0))) af (se rfl)) (he:=se rfl) (hpl:=na rfl)) ae (aU _))))) (aA (bf eU))
   bj)
  (ai (aP (i:=7) nd rfl (Or.inl rfl) (pv 6))
  (ai (aP (i:=8) nd rfl (Or.inl rfl) ae)
  (ai (cQ PassesOwn.never rfl (fB rfl T.z_range (aa (bh (jg rfl) (by rfl) T.z_min rfl (aa ae (aa (aX bV ae (bh (gW (K:=K)) (by rfl) T.z_len aao (aa (pv 0) af (se rfl)) (he:=se rfl) (hpl:=na rfl))) af (se rfl)) (se rfl)) (he:=se rfl) (hpl:=na rfl)) af (se rfl))) (aT (i:=9) nd rfl (Or.inl rfl)) (ai (bG (aN bW (aB az (aB aW (pv 3) (pv 8) (λ_ _=>rfl)) ae (λ_ _=>rfl)) aJ (aU _)) (ai (bG (aN (kD hr.units) (aB aW (pv 3) (pv 8) (λ_ _=>rfl)) (dk (dt hr) (dj (kG (K:=K)) (by rfl) T.z_dict rfl (aa (aB az (pv 1) ae (λ_ _=>rfl)) af (se rfl)) (he:=se rfl) (hpl:=na rfl)) (aB az (pv 7) ae (λ_ _=>rfl)) (λ_ _=>rfl)) (aU _)) (aA (bf eU))
   bj)
  (ai (aP (i:=7) nd rfl (Or.inl rfl) (pv 6))
  (aA (aP (i:=8) nd rfl (Or.inl rfl) ae))))
   bj)
  (ai (aP (i:=10) nd rfl (Or.inl rfl) (br wR (hr.mono (by decide)) rfl aM.pass (aa (pv 1) (aa (pv 7) (aa (aX cI (br bS (hr.mono (by decide)) rfl aM.pass (aa (pv 0) (aa (pv 9) af (se rfl)) (se rfl)) (he:=se rfl) (hpl:=na rfl)) ae) (aa (pv 2) (aa (pv 8) af (se rfl)) (se rfl)) (se rfl)) (se rfl)) (se rfl)) (he:=se rfl) (hpl:=na rfl)))
  (ai (bG (aN tN (pv 10) fE (aU _)) (aA (bf eU))
   bj)
  (ai (gQ (pv 10) (Eo (K:=K) (n:=2) rfl (bu (aT (i:=7) nd rfl (Or.inl rfl)) (bu (aT (i:=8) nd rfl (Or.inl rfl)) cU))))
  (aA (bG (PW.pt (pw_or (xc (pB (bh (sP (K:=K)) (by rfl) T.z_isinstance rfl (aa (pv 8) (aa (yX (v:=V.ty "int") rfl T.z_int rfl rfl) af (se rfl)) (se rfl)) (he:=se rfl) (hpl:=na rfl)))) (pw_or (pB (bh (sP (K:=K)) (by rfl) T.z_isinstance rfl (aa (pv 8) (aa (yX (v:=V.ty "bool") rfl T.z_bool rfl rfl) af (se rfl)) (se rfl)) (he:=se rfl) (hpl:=na rfl))) (pw_or (xc (vg vd pG ae (pv 8) (bh bI (by rfl) T.z_len aao (aa (pv 4) af (se rfl)) (he:=se rfl) (hpl:=na rfl)))) (pw_or1 (aN (kD hr.units) (aB aW (pv 4) (pv 8) (λ_ _=>rfl)) (pv 7) (aU _))))))) (aA (bf eU))
   bj)))))))
  (aA (bf eU))))))))))))),?_⟩
  refine(?_:let cB:TS:=_;let cC:TS:=_;let cD:TS:=_;let dE:TS:=_;let qD:TS:=_;let tw:TS:=_;let zS:TS:=_;let C5:TS:=_;let C6:TS:=_;let F6:TS:=_;let De:TS:=_;let Df:TS:=_;tSeq cB (tSeq cC (tSeq cD (tSeq dE (tSeq qD (tSeq tw (tSeq zS (tSeq C5 (tSeq C6 (tSeq F6 (tSeq De Df)))))))))) _ _ _)
  intro cB cC cD dE qD tw zS C5 C6 F6 De Df
  have sl:=sizeLine_eq
  change tSeq _ _ _ _ _
  refine bb (λN=>∀H1,aE H H1->∀gv G,Rep H1 (FL (Gp.g G)) gv->G.Ok->Dc G->N [some (.ref sa),some gv,none,none,none,none,none,none,none,none,none] H1) ?_ (λN hN=>?_)
  case refine_2=>
   simp_all only[ID]
   exact⟨sc,hS,λgv G H1 s1 r k wd=>hN _ s1 gv G r k wd⟩
  rintro H1 s1 WC G1 WD WE WG
  change tSeq _ _ _ _ _
  refine bb (λN=>∀H1,aE H H1->∀gv G,Rep H1 (FL (Gp.g G)) gv->G.Ok->Dc G->N [some (.ref sa),some gv,none,none,none,none,none,none,none,none,none] H1) ?_ (λN hN=>?_)
  case refine_2=>
   simp_all only[fS,Iy]
   refine⟨sc,s1.seq hS,by decide,by decide,λn=>⟨by decide,?_⟩⟩
   by_cases c:n % 6=5
   ·rw[if_pos c]
    exact⟨sc,s1.seq hS,λgv x y z to d iy H2 s2 rg x1 x5 y1 y5 z0 z9 LH d2 d4 hw=>hN _ (s1.trans s2) gv (yE x y z to d iy) rg (Fe x1 y1 z0 LH d2 d4) Ff⟩
   ·rw[if_neg c]
    exact hN _ s1 WC G1 WD WE WG
  clear WD WE s1 WG
  clear WC G1
  rintro H1 s1 gv G rg gk P4
  refine(?_:let G_:Prop:=_;G_)
  intro G_
  obtain⟨o,SS,dQ,o2,o1,sp,uC,Nx,sub⟩:=gk.out
  dsimp only[G_]
  have Qk:∀s∈SS,c5 (.str s.1)=true:=λs hs=>yf _ (we (sub s hs).2)
  have Jr:SS[0]?=some (G.ft,List.replicate G.g.cs.length 0):=by
   obtain⟨q,e⟩:=sp.tf
   rw[e]
   rfl
  change tSeq _ _ _ _ _
  refine eC (λσ' H2=>aE H1 H2/\(σ'=[some (.ref sa),some gv,some .de,none,none,none,none,none,none,none,none]\/(o=0/\∃t,L4 H2 t G SS dQ/\σ'=[some (.ref sa),some gv,some (.ref t),none,none,none,none,none,none,none,none]))) ?_ (λN hN=>?_)
  case refine_2=>
   simp_all only[Cg,ye,FK]
   refine⟨_,rg,gk.gg,_,OK,G.ft,1,HS,FQ,o,o2,SS,dQ,sp,uC,λz=>absurd z o1,λz H2 s2=>⟨T.e_TooMany_TooMany,λad Oq=>hN _ _ ⟨s2.trans (aj Oq),.inl rfl⟩⟩,λz t b l wl bs xs ws H' h1 h2 h3 h4 h5 _ h6 h7 h8 h9=>hN _ _ ⟨h1,.inr ⟨z,t,⟨b,l,wl,bs,xs,ws,h3,h4,h5,h6,Fb h6 h7,h8,h9⟩,rfl⟩⟩⟩
  rintro _ H2 ⟨s2,rfl | ⟨o0,t,tl,rfl⟩⟩
  ·simp_all only[]
   exact kk _
  ·subst o0
   refine(?_:let G_:Prop:=_;G_)
   intro G_
   obtain⟨bd,l,wl,bs,xs,ws,ht,hb,rb,hl,rl,hw,P6⟩:=id tl
   dsimp only[G_]
   have Qh:dQ.length=SS.length:=by have:=sp.all.1;omega
   have ZT:bs.length=SS.length:=by
    have:=rb.length
    unfold wb at this
    rw[aac,List.length_zip,Qh,Nat.min_self] at this
    omega
   have lxs:xs.length=SS.length:=by have:=rl.length;rw[aac] at this;omega
   have lws:ws.length=SS.length:=by have:=P6.length;rw[aac] at this;omega
   change tSeq _ _ _ _ _
   refine bb (λN=>N [some (.ref sa),some gv,some (.ref t),none,none,none,none,none,none,none,none] H2) ?_ (λN hN=>?_)
   case refine_2=>exact dU (λY N k=>by simp_all only[];first | exact k | (rw[if_neg (by simp)];exact k)) (hN)
   change tSeq _ _ _ _ _
   refine bb (λN=>N [some (.ref sa),some gv,some (.ref t),some (.ref bd),some (.ref l),some (.ref wl),none,none,none,none,none] H2) ?_ (λN hN=>?_)
   case refine_2=>
    simp_all only[]
    refine⟨t,_,rfl,hX.of ht,rfl,?_⟩
    simp_all only[]
    exact hN
   refine(?_:let G_:Prop:=_;G_)
   intro G_
   obtain⟨gp,cv,pv,rfl,hg,rc,rp⟩:=aV.mp (show Rep H1 (.tup _) gv from rg)
   obtain⟨cl,uW,rfl,iC,uK⟩:=aO.mp (show Rep H1 (.lst _) cv from rc)
   obtain⟨pl,K9,rfl,hpl,Dv⟩:=aO.mp (show Rep H1 (.lst _) pv from rp)
   dsimp only[G_]
   have qI:G.cs.length=uW.length:=by have:=uK.length;rw[aac] at this;exact this
   have c3:=gk.gc.2.1
   change tSeq _ _ _ _ _
   refine bb (λN=>∀H3,aE H2 H3->∀sv,Rep H3 (fV (G.ft,List.replicate G.g.cs.length 0)) sv->N [some (.ref sa),some (.ref gp),some (.ref t),some (.ref bd),some (.ref l),some (.ref wl),some sv,none,none,none,none] H3) ?_ (λN hN=>?_)
   case refine_2=>
    simp_all only[]
    obtain⟨y0,Z1⟩:=Qj (G:=G)
    obtain⟨v0,Ih,Ii⟩:=Dv.at (i:=0) (by rw[aad,Z1];rfl)
    refine(?_:let G_:Prop:=_;G_)
    intro G_
    obtain⟨q0,u1,u2,rfl,wA,k1,k2⟩:=aV.mp (show Rep H1 (.tup _) v0 from Ii)
    obtain rfl:=ao.mp k1
    dsimp only[G_]
    refine⟨_,s2 _ _ hg,_,rfl,_,rfl,_,s2 _ _ hpl,_,bJ (j:=0) Ih,_,rfl,_,s2 _ _ wA,_,rfl,_,s2 _ _ hg,_,rfl,_,rfl,⟨_,bN.of (s2 _ _ iC)⟩,comp_map (src_list (λH' k=>k.seq (bN.of (s2 _ _ iC)))) (λi x H H3 it=>by rw[it.1];exact aE.refl _) (by omega) (λi y H'=>y=.int 0) (λi y H H' s h=>h) ?_ ?_⟩
    ·rintro i y ww Hb Hc Q2 hi sb ⟨rfl,Wu⟩ kq
     simp_all only[]
     exact kq _ _ (aE.refl _) rfl
    ·intro EC Hb sb ly hy D n1 n2
     have e:EC=(List.replicate G.g.cs.length (0:Int)).map V.int:=by
      apply List.ext_getElem?
      intro i
      rw[List.map_replicate]
      cases ei:EC[i]? with
      | none=>
       rw[aa7] at ei
       rw[aaR (by rw[List.length_replicate];show G.cs.length<=i;omega)]
      | some y=>
       obtain rfl:=hy i y ei
       have:=(List.getElem?_eq_some_iff.mp ei).1
       rw[List.getElem?_replicate,if_pos (by show i<G.cs.length;omega)]
     subst e
     exact⟨by omega,λp Hc WH np ep=>hN _ (sb.trans ((aj n2).trans WH)) _ (aV.mpr ⟨p,_,_,rfl,ep,ao.mpr rfl,aO.mpr ⟨D,_,rfl,WH _ _ ar,ints_rep _⟩⟩)⟩
   rintro H3 s3 sv Jm
   change tSeq _ _ _ _ _
   refine bb (λN=>∀H4,aE H3 H4->N [some (.ref sa),some (.ref gp),some (.ref t),some (.ref bd),some (.ref l),some (.ref wl),some sv,none,none,none,none] H4) ?_ (λN hN=>?_)
   case refine_2=>
    simp_all only[IL]
    refine⟨_,s3 _ _ hb,_,s3 _ _ hl,?_⟩
    rw[if_neg (λz=>z (by omega))]
    refine⟨_,s3 _ _ hw,_,s3 _ _ hl,?_⟩
    rw[if_neg (λz=>z (by omega))]
    refine⟨_,s3 _ _ hl,?_⟩
    rw[if_neg (by omega)]
    refine⟨G,SS,dQ,_,s3 _ _ hb,rb.mono s3,⟨_,sp⟩,(λz=>by rw[z] at Jr;cases Jr),Nx,uC,gk,sub,λH4 s4=>?_⟩
    rw[if_neg (by decide)]
    exact hN _ s4
   rintro H4 s4
   change tSeq _ _ _ _ _
   refine bb (λN=>∀H5,aE H4 H5->N [some (.ref sa),some (.ref gp),some (.ref t),some (.ref bd),some (.ref l),some (.ref wl),some sv,none,none,none,none] H5) ?_ (λN hN=>?_)
   case refine_2=>
    have DC:=s3.trans s4
    have A7:=DC _ _ hl
    obtain⟨v0,Ih,Ii⟩:=rl.at (i:=0) (by rw[aad,Jr];rfl)
    have WI:=uO (s:=(G.ft,List.replicate G.g.cs.length 0)) FQ
    simp_all only[vN]
    refine⟨_,A7,_,bJ (j:=0) Ih,_,Ii.mono DC,_,Jm.mono s4,WI,WI,?_⟩
    rw[if_neg (by simp)]
    refine⟨⟨_,bN.of A7⟩,md (src_list (Ok:=λH'=>H'=H4) (λH' e=>e▸bN.of A7)) (λi ys σ H'=>H'=H4/\ys=[]/\∃z,σ=[z,some (.ref l)]) ⟨rfl,rfl,_,rfl⟩ (λ_ _ _ _ h=>h.1) (by rw[sl];omega) ?_ ?_⟩
    ·intro i y σ H' zs wX Q5 N5 hi Ik yv hQ LU
     refine(?_:let G_:Prop:=_;G_)
     intro G_
     obtain⟨rfl,rfl,z,rfl⟩:=Ik
     obtain⟨rfl,ex⟩:=yv
     obtain⟨dd,ed,rd⟩:=rl.get ex
     rw[aad] at ed
     obtain⟨s',sf,rfl⟩:=Option.map_eq_some_iff.mp ed
     dsimp only[G_]
     have uR:=aal sf
     simp_all only[Kn]
     refine⟨.inl ⟨rfl,_,bN.of A7⟩,_,A7,_,rl.mono DC,(λe he=>?_),_,rd.mono DC,uO (Qk s' uR),?_⟩
     ·refine(?_:let G_:Prop:=_;G_)
      intro G_
      obtain⟨Lx,Gx,rfl⟩:=List.mem_map.mp he
      dsimp only[G_]
      exact uO (Qk Lx Gx)
     ·have:=Fd (s:=s') Nx
      rw[if_neg (by omega)]
      exact LU _ _ ⟨rfl,rfl,_,rfl⟩
    ·intro zs σ H' A0 D nD _
     refine(?_:let G_:Prop:=_;G_)
     intro G_
     obtain⟨rfl,rfl,z,rfl⟩:=A0
     dsimp only[G_]
     refine⟨_,ar,?_⟩
     rw[if_neg (by simp)]
     exact hN _ (aj nD)
   rintro H5 s5
   have Jp:=s3.trans (s4.trans s5)
   change tSeq _ _ _ _ _
   refine bb (λN=>N [some (.ref sa),some (.ref gp),some (.ref t),some (.ref bd),some (.ref l),some (.ref wl),some sv,some sv,none,none,none] H5) ?_ (λN hN=>?_)
   case refine_2=>
    simp_all only[]
    exact hN
   change tSeq _ _ _ _ _
   refine bb (λN=>N [some (.ref sa),some (.ref gp),some (.ref t),some (.ref bd),some (.ref l),some (.ref wl),some sv,some sv,some (.int 0),none,none] H5) ?_ (λN hN=>?_)
   case refine_2=>
    simp_all only[]
    exact hN
   have Z2:=s2.trans Jp
   have Dy:=s1.trans Z2
   have at0:∃NA,SS[0]?=some NA/\Rep H5 (fV NA) sv/\(NA.1=j7\/NA.1=jn):=⟨_,Jr,Jm.mono (s4.trans s5),wc⟩
   change tSeq _ _ _ _ _
   refine eC (λσ' H6=>True) ?_ (λN hN=>?_)
   case refine_2=>
    simp_all only[]
    refine⟨sc,Dy.seq hS,by split <;>omega,by split <;>omega,?_⟩
    have n63:(if 12+ (sc.length:Int)<63 then 12+ (sc.length:Int) else 63).toNat<=63:=by split <;>omega
    refine cu (src_range (Ok:=λ_=>True)) (λi σ H'=>aE H5 H'/\∃(k:Nat) (st:b0) (v:V) (z9 NB:Option V),SS[k]?=some st/\Rep H' (fV st) v/\σ=[some (.ref sa),some (.ref gp),some (.ref t),some (.ref bd),some (.ref l),some (.ref wl),some sv,some v,some (.int (k:Int)),z9,NB]) ⟨aE.refl _,0,_,sv,_,_,Jr,Jm.mono (s4.trans s5),rfl⟩ (λ_ _ _ _ _=>trivial) ?_ ?_
    ·intro i y σ H6 H7 hi hW fU
     refine(?_:let G_:Prop:=_;G_)
     intro G_
     obtain⟨s6,k,st,v,z9,NB,eS,rv,rfl⟩:=hW
     obtain⟨rfl,rfl⟩:=fU
     dsimp only[G_]
     have DD:=Jp.trans s6
     have Ql:=s2.trans DD
     have kl:=(List.getElem?_eq_some_iff.mp eS).1
     simp only[gName,aaY,aaX]
     change tSeq _ _ _ _ _
     refine bb (λN2=>∀H8,aE H7 H8->∀(k:Nat) (st:b0) (v:V),SS[k]?=some st->Rep H8 (fV st) v->(st.1=j7\/st.1=jn)->N2 [some (.ref sa),some (.ref gp),some (.ref t),some (.ref bd),some (.ref l),some (.ref wl),some sv,some v,some (.int (k:Int)),some (.int (0+ (i:Int))),NB] H8) ?_ (λN2 o8=>?_)
     case refine_2=>
      obtain⟨ts,eT⟩:∃ts,dQ[k]?=some ts:=⟨_,aap (by omega)⟩
      refine(?_:let G_:Prop:=_;G_)
      intro G_
      obtain⟨Wg,Dg,Bj⟩:=rb.at (yj (G:=G) eS eT)
      dsimp only[G_]
      rcases uF (sub st (aal eS)).2 with e | e | e
      ·rw[uD e] at Bj
       refine(?_:let G_:Prop:=_;G_)
       intro G_
       obtain⟨q0,o1,o2,o3,rfl,wA,g1,g2,g3⟩:=bD.mp Bj
       obtain rfl:=ao.mp g1
       dsimp only[G_]
       refine dU (λY N k=>by simp_all only[];exact⟨_,DD _ _ hb,_,bJ Dg,_,rfl,_,DD _ _ wA,_,rfl,rfl,by rw[if_neg (by decide +kernel)];exact k⟩) (o8 _ (aE.refl _) k st v eS rv (.inl e))
      ·rw[uE e] at Bj
       refine(?_:let G_:Prop:=_;G_)
       intro G_
       obtain⟨q0,o1,o2,o3,rfl,wA,g1,g2,g3⟩:=bD.mp Bj
       obtain rfl:=ao.mp g1
       dsimp only[G_]
       refine dU (λY N k=>by simp_all only[];exact⟨_,DD _ _ hb,_,bJ Dg,_,rfl,_,DD _ _ wA,_,rfl,rfl,by rw[if_neg (by decide +kernel)];exact k⟩) (o8 _ (aE.refl _) k st v eS rv (.inr e))
      ·obtain⟨a,b,P7,Qm⟩:∃a b,look G.g.ps st.1=some (.fin a b)/\hU G.g SS st ts=ph (.fin a b):=by
        rcases e with e | e
        ·exact⟨1,1,by rw[e];exact tq,yh e⟩
        ·exact⟨0,1,by rw[e];exact tu,yi e⟩
       rw[Qm] at Bj
       refine(?_:let G_:Prop:=_;G_)
       intro G_
       obtain⟨q0,o1,o2,rfl,wA,g1,g2⟩:=aV.mp (show Rep H2 (.tup _) Wg from Bj)
       obtain rfl:=ao.mp g1
       obtain⟨Ib,sn,nv,rfl,hst,Nj,Nk⟩:=aV.mp (show Rep H7 (.tup _) v from rv)
       obtain rfl:=ao.mp Nj
       dsimp only[G_]
       refine qp (λY N k=>by simp_all only[];exact⟨_,DD _ _ hb,_,bJ Dg,_,rfl,_,DD _ _ wA,_,rfl,rfl,by rw[if_pos rfl];exact k⟩) ?_
       change tSeq _ _ _ _ _
       refine bb (λN3=>∀H8,aE H7 H8->N3 [some (.ref sa),some (.ref gp),some (.ref t),some (.ref bd),some (.ref l),some (.ref wl),some sv,some (.ref Ib),some (.int (k:Int)),some (.int (0+ (i:Int))),NB] H8) ?_ (λN3 WB=>?_)
       case refine_2=>
        refine(?_:let G_:Prop:=_;G_)
        intro G_
        obtain⟨rows,e1,e2,e3,e4⟩:=pw (K:=K) (Dv.mono Ql)
        obtain⟨u,eu,ru⟩:=e4 _ _ P7
        dsimp only[G_]
        simp_all only[vN]
        refine⟨_,DD _ _ hb,_,bJ Dg,_,Ql _ _ hg,_,rfl,_,rfl,rows,by rw[<-e1];exact bN.of (Ql _ _ hpl),e2,by rw[e3];exact nh CJ,λdd Dz=>⟨_,aj Dz _ _ hst,_,rfl,u,.inl ⟨_,.inr st.1,.inl ar,rfl,eu.symm⟩,_,Bj.mono (DD.trans (aj Dz)),_,ru.mono (aj Dz),Di _ _,Di _ _,?_⟩⟩
        rw[if_neg (by simp)]
        exact WB _ (aj Dz)
       rintro H8 s8
       simp_all only[]
       exact o8 _ s8 0 _ sv Jr (Jm.mono (s4.trans (s5.trans (s6.trans s8)))) wc
     rintro H8 s8 k st v eS rv P5
     have Qn:=DD.trans s8
     have Z3:=s2.trans Qn
     have kl:=(List.getElem?_eq_some_iff.mp eS).1
     obtain⟨ts,eT⟩:∃ts,dQ[k]?=some ts:=⟨_,aap (by omega)⟩
     refine(?_:let G_:Prop:=_;G_)
     intro G_
     obtain⟨_,go,Qi⟩:=sp.at k st ts eS (aak _) eT
     dsimp only[G_]
     change tSeq _ _ _ _ _
     refine bb (λN2=>∀H9,aE H8 H9->∀p v' s',H9 p=some (.lst [v',.int ((SS.idxOf s':Nat):Int)])->Rep H9 (fV s') v'->s'∈SS->N2 [some (.ref sa),some (.ref gp),some (.ref t),some (.ref bd),some (.ref l),some (.ref wl),some sv,some v,some (.int (k:Int)),some (.int (0+ (i:Int))),some (.ref p)] H9) ?_ (λN2 o8=>?_)
     case refine_2=>
      simp_all only[fS,IJ]
      exact⟨sc,(Dy.trans (s6.trans s8)).seq hS,by omega,by omega,λn=>⟨dA.lit,k,rfl,G,rg.mono Z3,gk,P4,SS,dQ,st,rv,tl.mono Qn,eS,ts,eT,go,sub st (aal eS),P5,λp v1 s' H' s9 h1 h2 h3=>o8 _ s9 p v1 s' h1 h2 (Qi s' h3)⟩⟩
     rintro H9 s9 p v' s' hp WJ uR
     have Qo:=Qn.trans s9
     have il:=aa2 uR
     change tSeq _ _ _ _ _
     refine bb (λN2=>N2 [some (.ref sa),some (.ref gp),some (.ref t),some (.ref bd),some (.ref l),some (.ref wl),some sv,some v,some (.int (k:Int)),some (.int (0+ (i:Int))),some (.ref p)] H9) ?_ (λN2 o8=>?_)
     case refine_2=>exact dU (λY N k=>by simp_all only[];first | exact k | (rw[if_neg (by simp)];exact k)) (o8)
     change tSeq _ _ _ _ _
     refine bb (λN2=>N2 [some (.ref sa),some (.ref gp),some (.ref t),some (.ref bd),some (.ref l),some (.ref wl),some sv,some v',some (.int ((SS.idxOf s':Nat):Int)),some (.int (0+ (i:Int))),some (.ref p)] H9) ?_ (λN2 o8=>?_)
     case refine_2=>
      simp_all only[]
      refine⟨p,_,rfl,bN.of hp,rfl,?_⟩
      simp_all only[]
      exact o8
     obtain⟨v0,Ih,Ii⟩:=rl.at (i:=SS.idxOf s') (by rw[aad,zX uR];rfl)
     have WK:=uO (Qk s' uR)
     simp_all only[vN]
     refine⟨_,ju.int _,_,GX,?_⟩
     rw[if_neg (by decide)]
     refine⟨_,ju.int _,_,GY,?_⟩
     rw[if_neg (by decide),if_pos (by omega)]
     refine⟨_,Qo _ _ hl,?_⟩
     rw[if_neg (λz=>z (by omega))]
     refine⟨_,Qo _ _ hl,_,bJ Ih,_,Ii.mono Qo,_,WJ,WK,WK,?_⟩
     rw[if_neg (by simp)]
     exact⟨s6.trans (s8.trans s9),_,s',zX uR,_,WJ,rfl,rfl,_,rfl⟩
    ·rintro σ H6 _
     exact hN _ _ trivial
   rintro _ H6 _
   simp_all only[]
   exact kk _
end
theorem all_mk {l:PySem.W.OpenLaw} {w:World} {K:PySem.W.Frag} {h:Heap} {mg:Str->Option Value} {fa:Addr} (X:K.In h) (G:h.Ns mainGlobals mg) (Z4:mg "law"=some (.ref fa))
  {f0:Addr} {Z5 PU:Option Addr} {yC:Array (Option Value)} {Z6 Z7 Z8 Z9 WL ct0:Value} {f1:Addr} {od1 Ig:Option Addr} {U2:Array (Option Value)} {oc1 kV1 dc1 pm1 WM ct1:Value} {f2:Addr} {od2 PV:Option Addr} {Bc:Array (Option Value)} {oc2 kV2 dc2 pm2 WN ct2:Value} {f3:Addr} {od3 PX:Option Addr} {sl3:Array (Option Value)} {oc3 kV3 dc3 pm3 WO ct3:Value} {f4:Addr} {od4 PY:Option Addr} {sl4:Array (Option Value)} {oc4 kV4 dc4 pm4 WQ ct4:Value} {f5:Addr} {od5 Il:Option Addr} {sl5:Array (Option Value)} {oc5 kV5 dc5 pm5 WR ct5:Value} {f6:Addr} {od6 an6:Option Addr} {sl6:Array (Option Value)} {oc6 kV6 dc6 pm6 WS ct6:Value} {f7:Addr} {od7 an7:Option Addr} {sl7:Array (Option Value)} {oc7 kV7 dc7 pm7 WT ct7:Value} {f8:Addr} {od8 an8:Option Addr} {sl8:Array (Option Value)} {oc8 kV8 dc8 pm8 WU ct8:Value} {f9:Addr} {od9 an9:Option Addr} {sl9:Array (Option Value)} {oc9 kV9 dc9 pm9 WV ct9:Value} {Qp:Addr} {Qq Qr:Option Addr} {Qs:Array (Option Value)} {Qt Qu Qv Qw Mf Qx:Value} {Qy:Addr} {Qz QA:Option Addr} {QB:Array (Option Value)} {QC QD QF QG Mg QH:Value} {QI:Addr} {QJ QK:Option Addr} {QL:Array (Option Value)} {QM QN QO QP Mh QQ:Value} {QR:Addr} {QS QT:Option Addr} {QU:Array (Option Value)} {QV QW QX QY Mi QZ:Value} {Q0:Addr} {Q3 Q4:Option Addr} {Q6:Array (Option Value)} {Q7 Q8 Q9 Ra Mj Rb:Value} {Rc:Addr} {Rf Rg:Option Addr} {Rh:Array (Option Value)} {Ri Rj Rk Rl Ml Rm:Value} {Rn:Addr} {Ro Rp:Option Addr} {Rq:Array (Option Value)} {Rr Rt Ru Rv Mm Rx:Value} {Ry:Addr} {Rz RA:Option Addr} {RB:Array (Option Value)} {RC RD RE RF Mn RG:Value} {RH:Addr} {RI RJ:Option Addr} {RK:Array (Option Value)} {RL RM RN RO Mo RP:Value} {RQ:Addr} {RS RT:Option Addr} {RU:Array (Option Value)} {RV RW RX RY Mp RZ:Value} {R1:Addr} {R3 R5:Option Addr} {R6:Array (Option Value)} {R7 R8 R9 Sa Mq Sb:Value} {Sd:Addr} {Se Sf:Option Addr} {Sg:Array (Option Value)} {Sh Si Sj Sk Mr Sl:Value} {Sm:Addr} {Sn So:Option Addr} {Sq:Array (Option Value)} {Sr Ss Su Sv Ms Sw:Value} {Sx:Addr} {Sy Sz:Option Addr} {SA:Array (Option Value)} {SD SE SG SH Mt SI:Value} {SJ:Addr} {SK SM:Option Addr} {SN:Array (Option Value)} {SO SQ SR SU Mu SV:Value} {SW:Addr} {SX SY:Option Addr} {S0:Array (Option Value)} {S1 S2 S3 S4 Mv S5:Value} {S6:Addr} {S7 S8:Option Addr} {S9:Array (Option Value)} {Ta Tb Tc Td Mw Te:Value} {Tf:Addr} {Tg Th:Option Addr} {Ti:Array (Option Value)} {Tj Tn To Tp Mx Tq:Value} {Ts:Addr} {Tt Tu:Option Addr} {Tv:Array (Option Value)} {Tx Tz TB TC My TF:Value} {TH:Addr} {TK TL:Option Addr} {TM:Array (Option Value)} {TN TQ TR TU Mz TV:Value} {TX:Addr} {TY TZ:Option Addr} {T2:Array (Option Value)} {T3 T4 T5 T6 MA T7:Value} {T8:Addr} {T9 Ua:Option Addr} {Ub:Array (Option Value)} {Uc Ud Ue Ug MB Uh:Value} {Ui:Addr} {Uj Uk:Option Addr} {Ul:Array (Option Value)} {Um Uo Up Uq MC Ur:Value} {Us:Addr} {Ut Uu:Option Addr} {Uv:Array (Option Value)} {Uw Ux Uy Uz MD UA:Value} {UB:Addr} {UC UD:Option Addr} {UE:Array (Option Value)} {UG UH UI UJ ME UK:Value} {qM:Tok} {qN:Tok} {qO:Tok} {aK aL aG aY ag aD:Addr} {jq:Addr} {yF yG:Option Addr} {yH:Array (Option Value)} {yI yJ yK yL qP yM:Value} {jr:Addr} {yN yO:Option Addr} {yP:Array (Option Value)} {yQ yR yS yT qQ yU:Value} {dH:Addr} {nA nB:Option Addr} {nE:Array (Option Value)} {nF nG nH nI gL nJ:Value} {dm:Addr} {mD mE:Option Addr} {mF:Array (Option Value)} {mG mH mI mJ gh mK:Value} {cW:Addr} {jC jD:Option Addr} {jE:Array (Option Value)} {jF jG jH jI fg jJ:Value} {fA:Addr} {rR rS:Option Addr} {rT:Array (Option Value)} {rV rW rX rY kr rZ:Value} {cM:Addr} {iL iM:Option Addr} {iN:Array (Option Value)} {iO iP iQ iR eJ iS:Value} {dI:Addr} {nK nM:Option Addr} {nN:Array (Option Value)} {nO nP nQ nR gM nV:Value} {cO:Addr} {iT iU:Option Addr} {iV:Array (Option Value)} {iW iX iY iZ eK i3:Value} {eD:Addr} {qR qS:Option Addr} {qT:Array (Option Value)} {qU qV qW qX i4 qY:Value} {dJ:Addr} {nW nX:Option Addr} {nY:Array (Option Value)} {nZ n9 oa og gN oh:Value} {cX:Addr} {jK jL:Option Addr} {jM:Array (Option Value)} {jN jO jP jQ fh jR:Value} {c9:Addr} {lb lg:Option Addr} {lh:Array (Option Value)} {lj lq lA lB fR lC:Value} {cY:Addr} {jS jT:Option Addr} {jU:Array (Option Value)} {jV jW jX jY fj jZ:Value} {cP:Addr} {i5 i7:Option Addr} {i8:Array (Option Value)} {i9 ja jb jc eL je:Value}
  (a0:PySem.W.nsIn K mainGlobals "common_divisor"=some (some (.ref f0))) (l0:K.lookup f0=some ⟨Z6,Z5,.func (PySem.W.fnOf "common_divisor" "common_divisor" (bg (top 7)) (bc (top 7)) (aw (top 7)) .none Z7 Z8 Z9 PU WL ct0),yC⟩) (e0:PySem.W.codeIn K WL "common_divisor"=true) (k0:PySem.W.keepIn K (.ref f0)=true)
  (a1:PySem.W.nsIn K mainGlobals "share"=some (some (.ref f1))) (l1:K.lookup f1=some ⟨oc1,od1,.func (PySem.W.fnOf "share" "share" (bg (top 8)) (bc (top 8)) (aw (top 8)) .none kV1 dc1 pm1 Ig WM ct1),U2⟩) (e1:PySem.W.codeIn K WM "share"=true) (k1:PySem.W.keepIn K (.ref f1)=true)
  (a2:PySem.W.nsIn K mainGlobals "common_bottom"=some (some (.ref f2))) (l2:K.lookup f2=some ⟨oc2,od2,.func (PySem.W.fnOf "common_bottom" "common_bottom" (bg (top 9)) (bc (top 9)) (aw (top 9)) .none kV2 dc2 pm2 PV WN ct2),Bc⟩) (e2:PySem.W.codeIn K WN "common_bottom"=true) (k2:PySem.W.keepIn K (.ref f2)=true)
  (a3:PySem.W.nsIn K mainGlobals "table_by_weights"=some (some (.ref f3))) (l3:K.lookup f3=some ⟨oc3,od3,.func (PySem.W.fnOf "table_by_weights" "table_by_weights" (bg (top 11)) (bc (top 11)) (aw (top 11)) .none kV3 dc3 pm3 PX WO ct3),sl3⟩) (e3:PySem.W.codeIn K WO "table_by_weights"=true) (k3:PySem.W.keepIn K (.ref f3)=true)
  (a4:PySem.W.nsIn K mainGlobals "table_of"=some (some (.ref f4))) (l4:K.lookup f4=some ⟨oc4,od4,.func (PySem.W.fnOf "table_of" "table_of" (bg (top 12)) (bc (top 12)) (aw (top 12)) .none kV4 dc4 pm4 PY WQ ct4),sl4⟩) (e4:PySem.W.codeIn K WQ "table_of"=true) (k4:PySem.W.keepIn K (.ref f4)=true)
  (a5:PySem.W.nsIn K mainGlobals "bottom_of"=some (some (.ref f5))) (l5:K.lookup f5=some ⟨oc5,od5,.func (PySem.W.fnOf "bottom_of" "bottom_of" (bg (top 13)) (bc (top 13)) (aw (top 13)) .none kV5 dc5 pm5 Il WR ct5),sl5⟩) (e5:PySem.W.codeIn K WR "bottom_of"=true) (k5:PySem.W.keepIn K (.ref f5)=true)
  (a6:PySem.W.nsIn K mainGlobals "weighed"=some (some (.ref f6))) (l6:K.lookup f6=some ⟨oc6,od6,.func (PySem.W.fnOf "weighed" "weighed" (bg (top 14)) (bc (top 14)) (aw (top 14)) .none kV6 dc6 pm6 an6 WS ct6),sl6⟩) (e6:PySem.W.codeIn K WS "weighed"=true) (k6:PySem.W.keepIn K (.ref f6)=true)
  (a7:PySem.W.nsIn K mainGlobals "power"=some (some (.ref f7))) (l7:K.lookup f7=some ⟨oc7,od7,.func (PySem.W.fnOf "power" "power" (bg (top 18)) (bc (top 18)) (aw (top 18)) .none kV7 dc7 pm7 an7 WT ct7),sl7⟩) (e7:PySem.W.codeIn K WT "power"=true) (k7:PySem.W.keepIn K (.ref f7)=true)
  (a8:PySem.W.nsIn K mainGlobals "most_faces"=some (some (.ref f8))) (l8:K.lookup f8=some ⟨oc8,od8,.func (PySem.W.fnOf "most_faces" "most_faces" (bg (top 19)) (bc (top 19)) (aw (top 19)) .none kV8 dc8 pm8 an8 WU ct8),sl8⟩) (e8:PySem.W.codeIn K WU "most_faces"=true) (k8:PySem.W.keepIn K (.ref f8)=true)
  (a9:PySem.W.nsIn K mainGlobals "part_bottom"=some (some (.ref f9))) (l9:K.lookup f9=some ⟨oc9,od9,.func (PySem.W.fnOf "part_bottom" "part_bottom" (bg (top 20)) (bc (top 20)) (aw (top 20)) .none kV9 dc9 pm9 an9 WV ct9),sl9⟩) (e9:PySem.W.codeIn K WV "part_bottom"=true) (k9:PySem.W.keepIn K (.ref f9)=true)
  (a10:PySem.W.nsIn K mainGlobals "part_count"=some (some (.ref Qp))) (l10:K.lookup Qp=some ⟨Qt,Qq,.func (PySem.W.fnOf "part_count" "part_count" (bg (top 21)) (bc (top 21)) (aw (top 21)) .none Qu Qv Qw Qr Mf Qx),Qs⟩) (e10:PySem.W.codeIn K Mf "part_count"=true) (k10:PySem.W.keepIn K (.ref Qp)=true)
  (a11:PySem.W.nsIn K mainGlobals "check_size"=some (some (.ref Qy))) (l11:K.lookup Qy=some ⟨QC,Qz,.func (PySem.W.fnOf "check_size" "check_size" (bg (top 22)) (bc (top 22)) (aw (top 22)) .none QD QF QG QA Mg QH),QB⟩) (e11:PySem.W.codeIn K Mg "check_size"=true) (k11:PySem.W.keepIn K (.ref Qy)=true)
  (a12:PySem.W.nsIn K mainGlobals "dice_faces"=some (some (.ref QI))) (l12:K.lookup QI=some ⟨QM,QJ,.func (PySem.W.fnOf "dice_faces" "dice_faces" (bg (top 23)) (bc (top 23)) (aw (top 23)) .none QN QO QP QK Mh QQ),QL⟩) (e12:PySem.W.codeIn K Mh "dice_faces"=true) (k12:PySem.W.keepIn K (.ref QI)=true)
  (a13:PySem.W.nsIn K mainGlobals "again_faces"=some (some (.ref QR))) (l13:K.lookup QR=some ⟨QV,QS,.func (PySem.W.fnOf "again_faces" "again_faces" (bg (top 24)) (bc (top 24)) (aw (top 24)) .none QW QX QY QT Mi QZ),QU⟩) (e13:PySem.W.codeIn K Mi "again_faces"=true) (k13:PySem.W.keepIn K (.ref QR)=true)
  (a14:PySem.W.nsIn K mainGlobals "burst_faces"=some (some (.ref Q0))) (l14:K.lookup Q0=some ⟨Q7,Q3,.func (PySem.W.fnOf "burst_faces" "burst_faces" (bg (top 25)) (bc (top 25)) (aw (top 25)) .none Q8 Q9 Ra Q4 Mj Rb),Q6⟩) (e14:PySem.W.codeIn K Mj "burst_faces"=true) (k14:PySem.W.keepIn K (.ref Q0)=true)
  (a15:PySem.W.nsIn K mainGlobals "part_faces"=some (some (.ref Rc))) (l15:K.lookup Rc=some ⟨Ri,Rf,.func (PySem.W.fnOf "part_faces" "part_faces" (bg (top 26)) (bc (top 26)) (aw (top 26)) .none Rj Rk Rl Rg Ml Rm),Rh⟩) (e15:PySem.W.codeIn K Ml "part_faces"=true) (k15:PySem.W.keepIn K (.ref Rc)=true)
  (a16:PySem.W.nsIn K mainGlobals "value_of"=some (some (.ref Rn))) (l16:K.lookup Rn=some ⟨Rr,Ro,.func (PySem.W.fnOf "value_of" "value_of" (bg (top 27)) (bc (top 27)) (aw (top 27)) .none Rt Ru Rv Rp Mm Rx),Rq⟩) (e16:PySem.W.codeIn K Mm "value_of"=true) (k16:PySem.W.keepIn K (.ref Rn)=true)
  (a17:PySem.W.nsIn K mainGlobals "sides_product"=some (some (.ref Ry))) (l17:K.lookup Ry=some ⟨RC,Rz,.func (PySem.W.fnOf "sides_product" "sides_product" (bg (top 28)) (bc (top 28)) (aw (top 28)) .none RD RE RF RA Mn RG),RB⟩) (e17:PySem.W.codeIn K Mn "sides_product"=true) (k17:PySem.W.keepIn K (.ref Ry)=true)
  (a18:PySem.W.nsIn K mainGlobals "part_throws"=some (some (.ref RH))) (l18:K.lookup RH=some ⟨RL,RI,.func (PySem.W.fnOf "part_throws" "part_throws" (bg (top 29)) (bc (top 29)) (aw (top 29)) .none RM RN RO RJ Mo RP),RK⟩) (e18:PySem.W.codeIn K Mo "part_throws"=true) (k18:PySem.W.keepIn K (.ref RH)=true)
  (a19:PySem.W.nsIn K mainGlobals "throws_by_bottom"=some (some (.ref RQ))) (l19:K.lookup RQ=some ⟨RV,RS,.func (PySem.W.fnOf "throws_by_bottom" "throws_by_bottom" (bg (top 30)) (bc (top 30)) (aw (top 30)) .none RW RX RY RT Mp RZ),RU⟩) (e19:PySem.W.codeIn K Mp "throws_by_bottom"=true) (k19:PySem.W.keepIn K (.ref RQ)=true)
  (a20:PySem.W.nsIn K mainGlobals "pool_table"=some (some (.ref R1))) (l20:K.lookup R1=some ⟨R7,R3,.func (PySem.W.fnOf "pool_table" "pool_table" (bg (top 31)) (bc (top 31)) (aw (top 31)) .none R8 R9 Sa R5 Mq Sb),R6⟩) (e20:PySem.W.codeIn K Mq "pool_table"=true) (k20:PySem.W.keepIn K (.ref R1)=true)
  (a21:PySem.W.nsIn K mainGlobals "own_rows"=some (some (.ref Sd))) (l21:K.lookup Sd=some ⟨Sh,Se,.func (PySem.W.fnOf "own_rows" "own_rows" (bg (top 34)) (bc (top 34)) (aw (top 34)) .none Si Sj Sk Sf Mr Sl),Sg⟩) (e21:PySem.W.codeIn K Mr "own_rows"=true) (k21:PySem.W.keepIn K (.ref Sd)=true)
  (a22:PySem.W.nsIn K mainGlobals "own_what"=some (some (.ref Sm))) (l22:K.lookup Sm=some ⟨Sr,Sn,.func (PySem.W.fnOf "own_what" "own_what" (bg (top 35)) (bc (top 35)) (aw (top 35)) .none Ss Su Sv So Ms Sw),Sq⟩) (e22:PySem.W.codeIn K Ms "own_what"=true) (k22:PySem.W.keepIn K (.ref Sm)=true)
  (a23:PySem.W.nsIn K mainGlobals "throw_ways"=some (some (.ref Sx))) (l23:K.lookup Sx=some ⟨SD,Sy,.func (PySem.W.fnOf "throw_ways" "throw_ways" (bg (top 38)) (bc (top 38)) (aw (top 38)) .none SE SG SH Sz Mt SI),SA⟩) (e23:PySem.W.codeIn K Mt "throw_ways"=true) (k23:PySem.W.keepIn K (.ref Sx)=true)
  (a24:PySem.W.nsIn K mainGlobals "pick_ways"=some (some (.ref SJ))) (l24:K.lookup SJ=some ⟨SO,SK,.func (PySem.W.fnOf "pick_ways" "pick_ways" (bg (top 39)) (bc (top 39)) (aw (top 39)) .none SQ SR SU SM Mu SV),SN⟩) (e24:PySem.W.codeIn K Mu "pick_ways"=true) (k24:PySem.W.keepIn K (.ref SJ)=true)
  (a25:PySem.W.nsIn K mainGlobals "taken_up"=some (some (.ref SW))) (l25:K.lookup SW=some ⟨S1,SX,.func (PySem.W.fnOf "taken_up" "taken_up" (bg (top 40)) (bc (top 40)) (aw (top 40)) .none S2 S3 S4 SY Mv S5),S0⟩) (e25:PySem.W.codeIn K Mv "taken_up"=true) (k25:PySem.W.keepIn K (.ref SW)=true)
  (a26:PySem.W.nsIn K mainGlobals "spread"=some (some (.ref S6))) (l26:K.lookup S6=some ⟨Ta,S7,.func (PySem.W.fnOf "spread" "spread" (bg (top 41)) (bc (top 41)) (aw (top 41)) .none Tb Tc Td S8 Mw Te),S9⟩) (e26:PySem.W.codeIn K Mw "spread"=true) (k26:PySem.W.keepIn K (.ref S6)=true)
  (a27:PySem.W.nsIn K mainGlobals "_law_at"=some (some (.ref Tf))) (l27:K.lookup Tf=some ⟨Tj,Tg,.func (PySem.W.fnOf "_law_at" "_law_at" (bg (top 43)) (bc (top 43)) (aw (top 43)) .none Tn To Tp Th Mx Tq),Ti⟩) (e27:PySem.W.codeIn K Mx "_law_at"=true) (k27:PySem.W.keepIn K (.ref Tf)=true)
  (a28:PySem.W.nsIn K mainGlobals "_law_deeds"=some (some (.ref Ts))) (l28:K.lookup Ts=some ⟨Tx,Tt,.func (PySem.W.fnOf "_law_deeds" "_law_deeds" (bg (top 44)) (bc (top 44)) (aw (top 44)) .none Tz TB TC Tu My TF),Tv⟩) (e28:PySem.W.codeIn K My "_law_deeds"=true) (k28:PySem.W.keepIn K (.ref Ts)=true)
  (a29:PySem.W.nsIn K mainGlobals "_law_game"=some (some (.ref TH))) (l29:K.lookup TH=some ⟨TN,TK,.func (PySem.W.fnOf "_law_game" "_law_game" (bg (top 45)) (bc (top 45)) (aw (top 45)) .none TQ TR TU TL Mz TV),TM⟩) (e29:PySem.W.codeIn K Mz "_law_game"=true) (k29:PySem.W.keepIn K (.ref TH)=true)
  (a30:PySem.W.nsIn K mainGlobals "_law_near"=some (some (.ref TX))) (l30:K.lookup TX=some ⟨T3,TY,.func (PySem.W.fnOf "_law_near" "_law_near" (bg (top 46)) (bc (top 46)) (aw (top 46)) .none T4 T5 T6 TZ MA T7),T2⟩) (e30:PySem.W.codeIn K MA "_law_near"=true) (k30:PySem.W.keepIn K (.ref TX)=true)
  (a31:PySem.W.nsIn K mainGlobals "_law_behind"=some (some (.ref T8))) (l31:K.lookup T8=some ⟨Uc,T9,.func (PySem.W.fnOf "_law_behind" "_law_behind" (bg (top 47)) (bc (top 47)) (aw (top 47)) .none Ud Ue Ug Ua MB Uh),Ub⟩) (e31:PySem.W.codeIn K MB "_law_behind"=true) (k31:PySem.W.keepIn K (.ref T8)=true)
  (a32:PySem.W.nsIn K mainGlobals "_law_step"=some (some (.ref Ui))) (l32:K.lookup Ui=some ⟨Um,Uj,.func (PySem.W.fnOf "_law_step" "_law_step" (bg (top 48)) (bc (top 48)) (aw (top 48)) .none Uo Up Uq Uk MC Ur),Ul⟩) (e32:PySem.W.codeIn K MC "_law_step"=true) (k32:PySem.W.keepIn K (.ref Ui)=true)
  (a33:PySem.W.nsIn K mainGlobals "_law_reached"=some (some (.ref Us))) (l33:K.lookup Us=some ⟨Uw,Ut,.func (PySem.W.fnOf "_law_reached" "_law_reached" (bg (top 49)) (bc (top 49)) (aw (top 49)) .none Ux Uy Uz Uu MD UA),Uv⟩) (e33:PySem.W.codeIn K MD "_law_reached"=true) (k33:PySem.W.keepIn K (.ref Us)=true)
  (a34:PySem.W.nsIn K mainGlobals "law"=some (some (.ref UB))) (l34:K.lookup UB=some ⟨UG,UC,.func (PySem.W.fnOf "law" "law" (bg (top 50)) (bc (top 50)) (aw (top 50)) .none UH UI UJ UD ME UK),UE⟩) (e34:PySem.W.codeIn K ME "law"=true) (k34:PySem.W.keepIn K (.ref UB)=true)
  (z_abs:PySem.W.nsIn K mainGlobals "abs"=some none)
  (z_bool:PySem.W.nsIn K mainGlobals "bool"=some none)
  (z_dict:PySem.W.nsIn K mainGlobals "dict"=some none)
  (z_enumerate:PySem.W.nsIn K mainGlobals "enumerate"=some none)
  (z_int:PySem.W.nsIn K mainGlobals "int"=some none)
  (z_isinstance:PySem.W.nsIn K mainGlobals "isinstance"=some none)
  (z_len:PySem.W.nsIn K mainGlobals "len"=some none)
  (z_list:PySem.W.nsIn K mainGlobals "list"=some none)
  (z_max:PySem.W.nsIn K mainGlobals "max"=some none)
  (z_min:PySem.W.nsIn K mainGlobals "min"=some none)
  (z_range:PySem.W.nsIn K mainGlobals "range"=some none)
  (z_sorted:PySem.W.nsIn K mainGlobals "sorted"=some none)
  (z_sum:PySem.W.nsIn K mainGlobals "sum"=some none)
  (z_tuple:PySem.W.nsIn K mainGlobals "tuple"=some none)
  (c_MOST_THROWS:PySem.W.nsIn K mainGlobals "MOST_THROWS"=some (some (.int 1296 qM)))
  (c_MOST_BOTTOM:PySem.W.nsIn K mainGlobals "MOST_BOTTOM"=some (some (.int 1000000 qN)))
  (c_MOST_STATES:PySem.W.nsIn K mainGlobals "MOST_STATES"=some (some (.int 120 qO)))
  (k_NoShare:PySem.W.nsIn K mainGlobals "NoShare"=some (some (.ref aK)))
  (k_NoTable:PySem.W.nsIn K mainGlobals "NoTable"=some (some (.ref aL)))
  (k_TooMany:PySem.W.nsIn K mainGlobals "TooMany"=some (some (.ref aG)))
  (k_NoWay:PySem.W.nsIn K mainGlobals "NoWay"=some (some (.ref aY)))
  (k_Course:PySem.W.nsIn K mainGlobals "Course"=some (some (.ref ag)))
  (k_Finder:PySem.W.nsIn K mainGlobals "Finder"=some (some (.ref aD)))
  (x_NoShare:PySem.W.excIn K aK tZ lQ=true)
  (x_NoTable:PySem.W.excIn K aL tZ lQ=true)
  (x_TooMany:PySem.W.excIn K aG tZ lQ=true)
  (x_NoWay:PySem.W.excIn K aY tZ lQ=true)
  (e_TooMany_TooMany:PySem.W.exmOne K (.ref aG) (.ref aG)=some true)
  (cl_Coursepg:PySem.W.plainGet K ag Str.empty=true)
  (cl_Coursehd:PySem.W.hasDictIn K ag=true)
  (cl_Coursepo:PySem.W.plainOver K ag=true)
  (cl_Coursesa:PySem.W.findIn K (.ref ag) "__setattr__"=some (some (.builtin "object.__setattr__")))
  (cl_Finderpg:PySem.W.plainGet K aD Str.empty=true)
  (cl_Finderhd:PySem.W.hasDictIn K aD=true)
  (cl_Finderpo:PySem.W.plainOver K aD=true)
  (cl_Findersa:PySem.W.findIn K (.ref aD) "__setattr__"=some (some (.builtin "object.__setattr__")))
  (na_Course_first:PySem.W.findIn K (.ref ag) "first"=some none)
  (na_Course_mosts:PySem.W.findIn K (.ref ag) "mosts"=some none)
  (na_Course_spots:PySem.W.findIn K (.ref ag) "spots"=some none)
  (na_Course_tables:PySem.W.findIn K (.ref ag) "tables"=some none)
  (na_Course_whats:PySem.W.findIn K (.ref ag) "whats"=some none)
  (na_Finder_numbers:PySem.W.findIn K (.ref aD) "numbers"=some none)
  (na_Finder_states:PySem.W.findIn K (.ref aD) "states"=some none)
  (dia_Course:PySem.W.findIn K (.ref ag) "__init__"=some (some (.ref jq)))
  (dii_Course:PySem.W.isFn K (.ref jq)=true)
  (dil_Course:K.lookup jq=some ⟨yI,yF,.func (PySem.W.fnOf "__init__" "Course.__init__" (bg (inClass (top 36) 0)) (bc (inClass (top 36) 0)) (aw (inClass (top 36) 0)) .none yJ yK yL yG qP yM),yH⟩)
  (dic_Course:PySem.W.codeIn K qP "Course.__init__"=true)
  (dik_Course:PySem.W.keepIn K (.ref jq)=true)
  (dim_Course:PySem.W.makesIn K ag=true)
  (diq_Course:PySem.W.keepIn K (.ref ag)=true)
  (dia_Finder:PySem.W.findIn K (.ref aD) "__init__"=some (some (.ref jr)))
  (dii_Finder:PySem.W.isFn K (.ref jr)=true)
  (dil_Finder:K.lookup jr=some ⟨yQ,yN,.func (PySem.W.fnOf "__init__" "Finder.__init__" (bg (inClass (top 37) 0)) (bc (inClass (top 37) 0)) (aw (inClass (top 37) 0)) .none yR yS yT yO qQ yU),yP⟩)
  (dic_Finder:PySem.W.codeIn K qQ "Finder.__init__"=true)
  (dik_Finder:PySem.W.keepIn K (.ref jr)=true)
  (dim_Finder:PySem.W.makesIn K aD=true)
  (diq_Finder:PySem.W.keepIn K (.ref aD)=true)
  (dma_Course_asked:PySem.W.findIn K (.ref ag) "asked"=some (some (.ref dH)))
  (dmi_Course_asked:PySem.W.isFn K (.ref dH)=true)
  (dml_Course_asked:K.lookup dH=some ⟨nF,nA,.func (PySem.W.fnOf "asked" "Course.asked" (bg (inClass (top 36) 3)) (bc (inClass (top 36) 3)) (aw (inClass (top 36) 3)) .none nG nH nI nB gL nJ),nE⟩)
  (dmc_Course_asked:PySem.W.codeIn K gL "Course.asked"=true)
  (dmk_Course_asked:PySem.W.keepIn K (.ref dH)=true)
  (dma_Course_by_row:PySem.W.findIn K (.ref ag) "by_row"=some (some (.ref dm)))
  (dmi_Course_by_row:PySem.W.isFn K (.ref dm)=true)
  (dml_Course_by_row:K.lookup dm=some ⟨mG,mD,.func (PySem.W.fnOf "by_row" "Course.by_row" (bg (inClass (top 36) 6)) (bc (inClass (top 36) 6)) (aw (inClass (top 36) 6)) .none mH mI mJ mE gh mK),mF⟩)
  (dmc_Course_by_row:PySem.W.codeIn K gh "Course.by_row"=true)
  (dmk_Course_by_row:PySem.W.keepIn K (.ref dm)=true)
  (dma_Course_by_value:PySem.W.findIn K (.ref ag) "by_value"=some (some (.ref cW)))
  (dmi_Course_by_value:PySem.W.isFn K (.ref cW)=true)
  (dml_Course_by_value:K.lookup cW=some ⟨jF,jC,.func (PySem.W.fnOf "by_value" "Course.by_value" (bg (inClass (top 36) 7)) (bc (inClass (top 36) 7)) (aw (inClass (top 36) 7)) .none jG jH jI jD fg jJ),jE⟩)
  (dmc_Course_by_value:PySem.W.codeIn K fg "Course.by_value"=true)
  (dmk_Course_by_value:PySem.W.keepIn K (.ref cW)=true)
  (dma_Course_do:PySem.W.findIn K (.ref ag) "do"=some (some (.ref fA)))
  (dmi_Course_do:PySem.W.isFn K (.ref fA)=true)
  (dml_Course_do:K.lookup fA=some ⟨rV,rR,.func (PySem.W.fnOf "do" "Course.do" (bg (inClass (top 36) 2)) (bc (inClass (top 36) 2)) (aw (inClass (top 36) 2)) .none rW rX rY rS kr rZ),rT⟩)
  (dmc_Course_do:PySem.W.codeIn K kr "Course.do"=true)
  (dmk_Course_do:PySem.W.keepIn K (.ref fA)=true)
  (dma_Course_end_worth:PySem.W.findIn K (.ref ag) "end_worth"=some (some (.ref cM)))
  (dmi_Course_end_worth:PySem.W.isFn K (.ref cM)=true)
  (dml_Course_end_worth:K.lookup cM=some ⟨iO,iL,.func (PySem.W.fnOf "end_worth" "Course.end_worth" (bg (inClass (top 36) 12)) (bc (inClass (top 36) 12)) (aw (inClass (top 36) 12)) .none iP iQ iR iM eJ iS),iN⟩)
  (dmc_Course_end_worth:PySem.W.codeIn K eJ "Course.end_worth"=true)
  (dmk_Course_end_worth:PySem.W.keepIn K (.ref cM)=true)
  (dma_Course_holds:PySem.W.findIn K (.ref ag) "holds"=some (some (.ref dI)))
  (dmi_Course_holds:PySem.W.isFn K (.ref dI)=true)
  (dml_Course_holds:K.lookup dI=some ⟨nO,nK,.func (PySem.W.fnOf "holds" "Course.holds" (bg (inClass (top 36) 9)) (bc (inClass (top 36) 9)) (aw (inClass (top 36) 9)) .none nP nQ nR nM gM nV),nN⟩)
  (dmc_Course_holds:PySem.W.codeIn K gM "Course.holds"=true)
  (dmk_Course_holds:PySem.W.keepIn K (.ref dI)=true)
  (dma_Course_open_rows:PySem.W.findIn K (.ref ag) "open_rows"=some (some (.ref cO)))
  (dmi_Course_open_rows:PySem.W.isFn K (.ref cO)=true)
  (dml_Course_open_rows:K.lookup cO=some ⟨iW,iT,.func (PySem.W.fnOf "open_rows" "Course.open_rows" (bg (inClass (top 36) 10)) (bc (inClass (top 36) 10)) (aw (inClass (top 36) 10)) .none iX iY iZ iU eK i3),iV⟩)
  (dmc_Course_open_rows:PySem.W.codeIn K eK "Course.open_rows"=true)
  (dmk_Course_open_rows:PySem.W.keepIn K (.ref cO)=true)
  (dma_Course_put:PySem.W.findIn K (.ref ag) "put"=some (some (.ref eD)))
  (dmi_Course_put:PySem.W.isFn K (.ref eD)=true)
  (dml_Course_put:K.lookup eD=some ⟨qU,qR,.func (PySem.W.fnOf "put" "Course.put" (bg (inClass (top 36) 1)) (bc (inClass (top 36) 1)) (aw (inClass (top 36) 1)) .none qV qW qX qS i4 qY),qT⟩)
  (dmc_Course_put:PySem.W.codeIn K i4 "Course.put"=true)
  (dmk_Course_put:PySem.W.keepIn K (.ref eD)=true)
  (dma_Course_start:PySem.W.findIn K (.ref ag) "start"=some (some (.ref dJ)))
  (dmi_Course_start:PySem.W.isFn K (.ref dJ)=true)
  (dml_Course_start:K.lookup dJ=some ⟨nZ,nW,.func (PySem.W.fnOf "start" "Course.start" (bg (inClass (top 36) 4)) (bc (inClass (top 36) 4)) (aw (inClass (top 36) 4)) .none n9 oa og nX gN oh),nY⟩)
  (dmc_Course_start:PySem.W.codeIn K gN "Course.start"=true)
  (dmk_Course_start:PySem.W.keepIn K (.ref dJ)=true)
  (dma_Course_table_at:PySem.W.findIn K (.ref ag) "table_at"=some (some (.ref cX)))
  (dmi_Course_table_at:PySem.W.isFn K (.ref cX)=true)
  (dml_Course_table_at:K.lookup cX=some ⟨jN,jK,.func (PySem.W.fnOf "table_at" "Course.table_at" (bg (inClass (top 36) 8)) (bc (inClass (top 36) 8)) (aw (inClass (top 36) 8)) .none jO jP jQ jL fh jR),jM⟩)
  (dmc_Course_table_at:PySem.W.codeIn K fh "Course.table_at"=true)
  (dmk_Course_table_at:PySem.W.keepIn K (.ref cX)=true)
  (dma_Course_what_at:PySem.W.findIn K (.ref ag) "what_at"=some (some (.ref c9)))
  (dmi_Course_what_at:PySem.W.isFn K (.ref c9)=true)
  (dml_Course_what_at:K.lookup c9=some ⟨lj,lb,.func (PySem.W.fnOf "what_at" "Course.what_at" (bg (inClass (top 36) 5)) (bc (inClass (top 36) 5)) (aw (inClass (top 36) 5)) .none lq lA lB lg fR lC),lh⟩)
  (dmc_Course_what_at:PySem.W.codeIn K fR "Course.what_at"=true)
  (dmk_Course_what_at:PySem.W.keepIn K (.ref c9)=true)
  (dma_Course_words_at:PySem.W.findIn K (.ref ag) "words_at"=some (some (.ref cY)))
  (dmi_Course_words_at:PySem.W.isFn K (.ref cY)=true)
  (dml_Course_words_at:K.lookup cY=some ⟨jV,jS,.func (PySem.W.fnOf "words_at" "Course.words_at" (bg (inClass (top 36) 11)) (bc (inClass (top 36) 11)) (aw (inClass (top 36) 11)) .none jW jX jY jT fj jZ),jU⟩)
  (dmc_Course_words_at:PySem.W.codeIn K fj "Course.words_at"=true)
  (dmk_Course_words_at:PySem.W.keepIn K (.ref cY)=true)
  (dma_Finder_number_of:PySem.W.findIn K (.ref aD) "number_of"=some (some (.ref cP)))
  (dmi_Finder_number_of:PySem.W.isFn K (.ref cP)=true)
  (dml_Finder_number_of:K.lookup cP=some ⟨i9,i5,.func (PySem.W.fnOf "number_of" "Finder.number_of" (bg (inClass (top 37) 1)) (bc (inClass (top 37) 1)) (aw (inClass (top 37) 1)) .none ja jb jc i7 eL je),i8⟩)
  (dmc_Finder_number_of:PySem.W.codeIn K eL "Finder.number_of"=true)
  (dmk_Finder_number_of:PySem.W.keepIn K (.ref cP)=true)
  :∃fd:FuncData,(∀(s:Shared) (v:Value),BindsTo s fd ⟨[v],[]⟩ [("_law_script",v)])/\∀base:Heap,K.In base->base.Ns mainGlobals mg->fk l.prog w K mg base (bO l.prog w) 30 fa fd ["_law_script"] (zR K):=by
 have e:=Z4.symm.trans (aah X G a34)
 cases e
 have T:Txt K mg aK aL aG aY ag aD:=⟨aaL X G z_abs,aaL X G z_bool,aaL X G z_dict,aaL X G z_enumerate,aaL X G z_int,aaL X G z_isinstance,aaL X G z_len,aaL X G z_list,aaL X G z_max,aaL X G z_min,aaL X G z_range,aaL X G z_sorted,aaL X G z_sum,aaL X G z_tuple,⟨_,_,bA l0 e0 k0,aah X G a0⟩,⟨_,_,bA l1 e1 k1,aah X G a1⟩,⟨_,_,bA l2 e2 k2,aah X G a2⟩,⟨_,_,bA l3 e3 k3,aah X G a3⟩,⟨_,_,bA l4 e4 k4,aah X G a4⟩,⟨_,_,bA l5 e5 k5,aah X G a5⟩,⟨_,_,bA l6 e6 k6,aah X G a6⟩,⟨_,_,bA l7 e7 k7,aah X G a7⟩,⟨_,_,bA l8 e8 k8,aah X G a8⟩,⟨_,_,bA l9 e9 k9,aah X G a9⟩,⟨_,_,bA l10 e10 k10,aah X G a10⟩,⟨_,_,bA l11 e11 k11,aah X G a11⟩,⟨_,_,bA l12 e12 k12,aah X G a12⟩,⟨_,_,bA l13 e13 k13,aah X G a13⟩,⟨_,_,bA l14 e14 k14,aah X G a14⟩,⟨_,_,bA l15 e15 k15,aah X G a15⟩,⟨_,_,bA l16 e16 k16,aah X G a16⟩,⟨_,_,bA l17 e17 k17,aah X G a17⟩,⟨_,_,bA l18 e18 k18,aah X G a18⟩,⟨_,_,bA l19 e19 k19,aah X G a19⟩,⟨_,_,bA l20 e20 k20,aah X G a20⟩,⟨_,_,bA l21 e21 k21,aah X G a21⟩,⟨_,_,bA l22 e22 k22,aah X G a22⟩,⟨_,_,bA l23 e23 k23,aah X G a23⟩,⟨_,_,bA l24 e24 k24,aah X G a24⟩,⟨_,_,bA l25 e25 k25,aah X G a25⟩,⟨_,_,bA l26 e26 k26,aah X G a26⟩,⟨_,_,bA l27 e27 k27,aah X G a27⟩,⟨_,_,bA l28 e28 k28,aah X G a28⟩,⟨_,_,bA l29 e29 k29,aah X G a29⟩,⟨_,_,bA l30 e30 k30,aah X G a30⟩,⟨_,_,bA l31 e31 k31,aah X G a31⟩,⟨_,_,bA l32 e32 k32,aah X G a32⟩,⟨_,_,bA l33 e33 k33,aah X G a33⟩,⟨_,aah X G c_MOST_THROWS⟩,⟨_,aah X G c_MOST_BOTTOM⟩,⟨_,aah X G c_MOST_STATES⟩,aah X G k_NoShare,aah X G k_NoTable,aah X G k_TooMany,aah X G k_NoWay,aah X G k_Course,aah X G k_Finder,x_NoShare,x_NoTable,x_TooMany,x_NoWay,e_TooMany_TooMany,⟨cl_Coursepg,cl_Coursehd,cl_Coursepo,cl_Coursesa⟩,⟨cl_Finderpg,cl_Finderhd,cl_Finderpo,cl_Findersa⟩,na_Course_first,na_Course_mosts,na_Course_spots,na_Course_tables,na_Course_whats,na_Finder_numbers,na_Finder_states,⟨_,_,bA dil_Course dic_Course dik_Course,⟨dim_Course,dia_Course,dii_Course,diq_Course⟩,aah X G k_Course⟩,⟨_,_,bA dil_Finder dic_Finder dik_Finder,⟨dim_Finder,dia_Finder,dii_Finder,diq_Finder⟩,aah X G k_Finder⟩,⟨_,_,bA dml_Course_asked dmc_Course_asked dmk_Course_asked,⟨dma_Course_asked,dmi_Course_asked,dmk_Course_asked⟩⟩,⟨_,_,bA dml_Course_by_row dmc_Course_by_row dmk_Course_by_row,⟨dma_Course_by_row,dmi_Course_by_row,dmk_Course_by_row⟩⟩,⟨_,_,bA dml_Course_by_value dmc_Course_by_value dmk_Course_by_value,⟨dma_Course_by_value,dmi_Course_by_value,dmk_Course_by_value⟩⟩,⟨_,_,bA dml_Course_do dmc_Course_do dmk_Course_do,⟨dma_Course_do,dmi_Course_do,dmk_Course_do⟩⟩,⟨_,_,bA dml_Course_end_worth dmc_Course_end_worth dmk_Course_end_worth,⟨dma_Course_end_worth,dmi_Course_end_worth,dmk_Course_end_worth⟩⟩,⟨_,_,bA dml_Course_holds dmc_Course_holds dmk_Course_holds,⟨dma_Course_holds,dmi_Course_holds,dmk_Course_holds⟩⟩,⟨_,_,bA dml_Course_open_rows dmc_Course_open_rows dmk_Course_open_rows,⟨dma_Course_open_rows,dmi_Course_open_rows,dmk_Course_open_rows⟩⟩,⟨_,_,bA dml_Course_put dmc_Course_put dmk_Course_put,⟨dma_Course_put,dmi_Course_put,dmk_Course_put⟩⟩,⟨_,_,bA dml_Course_start dmc_Course_start dmk_Course_start,⟨dma_Course_start,dmi_Course_start,dmk_Course_start⟩⟩,⟨_,_,bA dml_Course_table_at dmc_Course_table_at dmk_Course_table_at,⟨dma_Course_table_at,dmi_Course_table_at,dmk_Course_table_at⟩⟩,⟨_,_,bA dml_Course_what_at dmc_Course_what_at dmk_Course_what_at,⟨dma_Course_what_at,dmi_Course_what_at,dmk_Course_what_at⟩⟩,⟨_,_,bA dml_Course_words_at dmc_Course_words_at dmk_Course_words_at,⟨dma_Course_words_at,dmi_Course_words_at,dmk_Course_words_at⟩⟩,⟨_,_,bA dml_Finder_number_of dmc_Finder_number_of dmk_Finder_number_of,⟨dma_Finder_number_of,dmi_Finder_number_of,dmk_Finder_number_of⟩⟩⟩
 exact⟨_,λs v=>.of_eq rfl,λbase _ _=>(IS T (bA l34 e34 k34)).mono (by decide)⟩
theorem walk {l:PySem.W.OpenLaw} {q:Program} {loose:List Str} {XP:(Str->Option Value)->Heap->Prop} {YP:World->Heap->Prop} {d:DefRec} {K:Params->PySem.W.Frag} (hn:l.most=some 63) (JR:d.params.defaults=[])
  (hY:∀(w:World) (h:Heap),YP w h->(K w.params).In h)
  (F:∀(w:World) (mg:Str->Option Value) (fa:Addr) (h:Heap),(K w.params).In h->h.Ns mainGlobals mg->mg d.name=some (.ref fa)->
   ∃fd:FuncData,(∀(s:Shared) (u:Value),BindsTo s fd ⟨[u],[]⟩ [("_law_script",u)])/\∀base:Heap,(K w.params).In base->base.Ns mainGlobals mg->fk l.prog w (K w.params) mg base (bO l.prog w) 30 fa fd ["_law_script"] (zR (K w.params))):
  PySem.W.WalkO q loose XP YP l.row.toRowW d [] (λf vs=>PySem.call f vs):=
 L2.D1 (n:=63) (k:=30) (x:="_law_script") (CX:=λw=>bO l.prog w) (sp:=λw=>zR (K w.params)) hn (by decide) JR ⟨rfl,by decide,by decide⟩ hY F (λ_ _ a ns hl _ hS=>⟨a,ns,rfl,hS,hl,λ_=>rfl⟩) λ_ _ _ _ _ z=>(zg _ _) _ _ _ _ _ z
end K58
open PySem PySem.W PyProof.Rows
set_option maxRecDepth 100000 in
set_option maxHeartbeats 0 in
theorem PySem.Challenge.cw_pressluck_k58_whole_games_played_holds : PySem.Challenge.rw_pressluck_k58_whole_games_played.Holds := by
  w_on; refine holds_law (by decide +kernel) fun aaa => ?_
  refine holds_open (q := K58.vw) (loose := []) (Xt := (fun s => xlAt K58.vw [] s && recOk (RowW.records (OpenRow.toRowW (PySem.W.OpenLaw.row PySem.Challenge.rw_pressluck_k58_whole_games_played))) s)) (XP := XL K58.vw []) (Yf := Hook.obs (kHook K58.pre.heap_1 K58.Fg K58.Gc)) (Ya := Hook.val (kHook K58.pre.heap_1 K58.Fg K58.Gc)) (YP := Hook.says (kHook K58.pre.heap_1 K58.Fg K58.Gc)) (N := 6120) (Hd.zZ (by kernel_rfl) (by decide) (fun s => by kernel_rfl) K58.run) (Hook.of (kHook K58.pre.heap_1 K58.Fg K58.Gc)) (Hook.keeps (kHook K58.pre.heap_1 K58.Fg K58.Gc)) (fun s e => xl_of s (Bool.and_eq_true_iff.mp e).1) XL.keeps (by rfl) (by rfl) (by rfl) (fun s e => recFacts_of (Bool.and_eq_true_iff.mp e).2) (by rfl) (by first | assumption | decide +kernel) (by decide +kernel) ⟨rfl, rfl, rfl, rfl, rfl, by decide +kernel⟩ ?hw ?hc
  (case hw => w_witness2)
  k_fill
  refine K58.walk (l := PySem.Challenge.rw_pressluck_k58_whole_games_played) rfl rfl (fun w h Y => PySem.W.kIn_of Y) ?F
  case F =>
    intro w mg fa h KX G JS
    refine' K58.all_mk KX G JS ?a0 ?l0 ?e0 ?k0 ?a1 ?l1 ?e1 ?k1 ?a2 ?l2 ?e2 ?k2 ?a3 ?l3 ?e3 ?k3 ?a4 ?l4 ?e4 ?k4 ?a5 ?l5 ?e5 ?k5 ?a6 ?l6 ?e6 ?k6 ?a7 ?l7 ?e7 ?k7 ?a8 ?l8 ?e8 ?k8 ?a9 ?l9 ?e9 ?k9 ?a10 ?l10 ?e10 ?k10 ?a11 ?l11 ?e11 ?k11 ?a12 ?l12 ?e12 ?k12 ?a13 ?l13 ?e13 ?k13 ?a14 ?l14 ?e14 ?k14 ?a15 ?l15 ?e15 ?k15 ?a16 ?l16 ?e16 ?k16 ?a17 ?l17 ?e17 ?k17 ?a18 ?l18 ?e18 ?k18 ?a19 ?l19 ?e19 ?k19 ?a20 ?l20 ?e20 ?k20 ?a21 ?l21 ?e21 ?k21 ?a22 ?l22 ?e22 ?k22 ?a23 ?l23 ?e23 ?k23 ?a24 ?l24 ?e24 ?k24 ?a25 ?l25 ?e25 ?k25 ?a26 ?l26 ?e26 ?k26 ?a27 ?l27 ?e27 ?k27 ?a28 ?l28 ?e28 ?k28 ?a29 ?l29 ?e29 ?k29 ?a30 ?l30 ?e30 ?k30 ?a31 ?l31 ?e31 ?k31 ?a32 ?l32 ?e32 ?k32 ?a33 ?l33 ?e33 ?k33 ?a34 ?l34 ?e34 ?k34 ?z_abs ?z_bool ?z_dict ?z_enumerate ?z_int ?z_isinstance ?z_len ?z_list ?z_max ?z_min ?z_range ?z_sorted ?z_sum ?z_tuple ?c_MOST_THROWS ?c_MOST_BOTTOM ?c_MOST_STATES ?k_NoShare ?k_NoTable ?k_TooMany ?k_NoWay ?k_Course ?k_Finder ?x_NoShare ?x_NoTable ?x_TooMany ?x_NoWay ?e_TooMany_TooMany ?cl_Coursepg ?cl_Coursehd ?cl_Coursepo ?cl_Coursesa ?cl_Finderpg ?cl_Finderhd ?cl_Finderpo ?cl_Findersa ?na_Course_first ?na_Course_mosts ?na_Course_spots ?na_Course_tables ?na_Course_whats ?na_Finder_numbers ?na_Finder_states ?dia_Course ?dii_Course ?dil_Course ?dic_Course ?dik_Course ?dim_Course ?diq_Course ?dia_Finder ?dii_Finder ?dil_Finder ?dic_Finder ?dik_Finder ?dim_Finder ?diq_Finder ?dma_Course_asked ?dmi_Course_asked ?dml_Course_asked ?dmc_Course_asked ?dmk_Course_asked ?dma_Course_by_row ?dmi_Course_by_row ?dml_Course_by_row ?dmc_Course_by_row ?dmk_Course_by_row ?dma_Course_by_value ?dmi_Course_by_value ?dml_Course_by_value ?dmc_Course_by_value ?dmk_Course_by_value ?dma_Course_do ?dmi_Course_do ?dml_Course_do ?dmc_Course_do ?dmk_Course_do ?dma_Course_end_worth ?dmi_Course_end_worth ?dml_Course_end_worth ?dmc_Course_end_worth ?dmk_Course_end_worth ?dma_Course_holds ?dmi_Course_holds ?dml_Course_holds ?dmc_Course_holds ?dmk_Course_holds ?dma_Course_open_rows ?dmi_Course_open_rows ?dml_Course_open_rows ?dmc_Course_open_rows ?dmk_Course_open_rows ?dma_Course_put ?dmi_Course_put ?dml_Course_put ?dmc_Course_put ?dmk_Course_put ?dma_Course_start ?dmi_Course_start ?dml_Course_start ?dmc_Course_start ?dmk_Course_start ?dma_Course_table_at ?dmi_Course_table_at ?dml_Course_table_at ?dmc_Course_table_at ?dmk_Course_table_at ?dma_Course_what_at ?dmi_Course_what_at ?dml_Course_what_at ?dmc_Course_what_at ?dmk_Course_what_at ?dma_Course_words_at ?dmi_Course_words_at ?dml_Course_words_at ?dmc_Course_words_at ?dmk_Course_words_at ?dma_Finder_number_of ?dmi_Finder_number_of ?dml_Finder_number_of ?dmc_Finder_number_of ?dmk_Finder_number_of
    (case a0 => k_is)
    (case l0 => k_is)
    (case e0 => k_is)
    (case k0 => k_is)
    (case a1 => k_is)
    (case l1 => k_is)
    (case e1 => k_is)
    (case k1 => k_is)
    (case a2 => k_is)
    (case l2 => k_is)
    (case e2 => k_is)
    (case k2 => k_is)
    (case a3 => k_is)
    (case l3 => k_is)
    (case e3 => k_is)
    (case k3 => k_is)
    (case a4 => k_is)
    (case l4 => k_is)
    (case e4 => k_is)
    (case k4 => k_is)
    (case a5 => k_is)
    (case l5 => k_is)
    (case e5 => k_is)
    (case k5 => k_is)
    (case a6 => k_is)
    (case l6 => k_is)
    (case e6 => k_is)
    (case k6 => k_is)
    (case a7 => k_is)
    (case l7 => k_is)
    (case e7 => k_is)
    (case k7 => k_is)
    (case a8 => k_is)
    (case l8 => k_is)
    (case e8 => k_is)
    (case k8 => k_is)
    (case a9 => k_is)
    (case l9 => k_is)
    (case e9 => k_is)
    (case k9 => k_is)
    (case a10 => k_is)
    (case l10 => k_is)
    (case e10 => k_is)
    (case k10 => k_is)
    (case a11 => k_is)
    (case l11 => k_is)
    (case e11 => k_is)
    (case k11 => k_is)
    (case a12 => k_is)
    (case l12 => k_is)
    (case e12 => k_is)
    (case k12 => k_is)
    (case a13 => k_is)
    (case l13 => k_is)
    (case e13 => k_is)
    (case k13 => k_is)
    (case a14 => k_is)
    (case l14 => k_is)
    (case e14 => k_is)
    (case k14 => k_is)
    (case a15 => k_is)
    (case l15 => k_is)
    (case e15 => k_is)
    (case k15 => k_is)
    (case a16 => k_is)
    (case l16 => k_is)
    (case e16 => k_is)
    (case k16 => k_is)
    (case a17 => k_is)
    (case l17 => k_is)
    (case e17 => k_is)
    (case k17 => k_is)
    (case a18 => k_is)
    (case l18 => k_is)
    (case e18 => k_is)
    (case k18 => k_is)
    (case a19 => k_is)
    (case l19 => k_is)
    (case e19 => k_is)
    (case k19 => k_is)
    (case a20 => k_is)
    (case l20 => k_is)
    (case e20 => k_is)
    (case k20 => k_is)
    (case a21 => k_is)
    (case l21 => k_is)
    (case e21 => k_is)
    (case k21 => k_is)
    (case a22 => k_is)
    (case l22 => k_is)
    (case e22 => k_is)
    (case k22 => k_is)
    (case a23 => k_is)
    (case l23 => k_is)
    (case e23 => k_is)
    (case k23 => k_is)
    (case a24 => k_is)
    (case l24 => k_is)
    (case e24 => k_is)
    (case k24 => k_is)
    (case a25 => k_is)
    (case l25 => k_is)
    (case e25 => k_is)
    (case k25 => k_is)
    (case a26 => k_is)
    (case l26 => k_is)
    (case e26 => k_is)
    (case k26 => k_is)
    (case a27 => k_is)
    (case l27 => k_is)
    (case e27 => k_is)
    (case k27 => k_is)
    (case a28 => k_is)
    (case l28 => k_is)
    (case e28 => k_is)
    (case k28 => k_is)
    (case a29 => k_is)
    (case l29 => k_is)
    (case e29 => k_is)
    (case k29 => k_is)
    (case a30 => k_is)
    (case l30 => k_is)
    (case e30 => k_is)
    (case k30 => k_is)
    (case a31 => k_is)
    (case l31 => k_is)
    (case e31 => k_is)
    (case k31 => k_is)
    (case a32 => k_is)
    (case l32 => k_is)
    (case e32 => k_is)
    (case k32 => k_is)
    (case a33 => k_is)
    (case l33 => k_is)
    (case e33 => k_is)
    (case k33 => k_is)
    (case a34 => k_is)
    (case l34 => k_is)
    (case e34 => k_is)
    (case k34 => k_is)
    (case z_abs => k_is)
    (case z_bool => k_is)
    (case z_dict => k_is)
    (case z_enumerate => k_is)
    (case z_int => k_is)
    (case z_isinstance => k_is)
    (case z_len => k_is)
    (case z_list => k_is)
    (case z_max => k_is)
    (case z_min => k_is)
    (case z_range => k_is)
    (case z_sorted => k_is)
    (case z_sum => k_is)
    (case z_tuple => k_is)
    (case c_MOST_THROWS => k_is)
    (case c_MOST_BOTTOM => k_is)
    (case c_MOST_STATES => k_is)
    (case k_NoShare => k_is)
    (case k_NoTable => k_is)
    (case k_TooMany => k_is)
    (case k_NoWay => k_is)
    (case k_Course => k_is)
    (case k_Finder => k_is)
    (case x_NoShare => first | k_is | kit_is | kernel_rfl)
    (case x_NoTable => first | k_is | kit_is | kernel_rfl)
    (case x_TooMany => first | k_is | kit_is | kernel_rfl)
    (case x_NoWay => first | k_is | kit_is | kernel_rfl)
    (case e_TooMany_TooMany => first | k_is | kit_is | kernel_rfl)
    (case cl_Coursepg => k_is)
    (case cl_Coursehd => k_is)
    (case cl_Coursepo => k_is)
    (case cl_Coursesa => k_is)
    (case cl_Finderpg => k_is)
    (case cl_Finderhd => k_is)
    (case cl_Finderpo => k_is)
    (case cl_Findersa => k_is)
    (case na_Course_first => k_is)
    (case na_Course_mosts => k_is)
    (case na_Course_spots => k_is)
    (case na_Course_tables => k_is)
    (case na_Course_whats => k_is)
    (case na_Finder_numbers => k_is)
    (case na_Finder_states => k_is)
    (case dia_Course => k_is)
    (case dii_Course => k_is)
    (case dil_Course => k_is)
    (case dic_Course => k_is)
    (case dik_Course => k_is)
    (case dim_Course => k_is)
    (case diq_Course => k_is)
    (case dia_Finder => k_is)
    (case dii_Finder => k_is)
    (case dil_Finder => k_is)
    (case dic_Finder => k_is)
    (case dik_Finder => k_is)
    (case dim_Finder => k_is)
    (case diq_Finder => k_is)
    (case dma_Course_asked => k_is)
    (case dmi_Course_asked => k_is)
    (case dml_Course_asked => k_is)
    (case dmc_Course_asked => k_is)
    (case dmk_Course_asked => k_is)
    (case dma_Course_by_row => k_is)
    (case dmi_Course_by_row => k_is)
    (case dml_Course_by_row => k_is)
    (case dmc_Course_by_row => k_is)
    (case dmk_Course_by_row => k_is)
    (case dma_Course_by_value => k_is)
    (case dmi_Course_by_value => k_is)
    (case dml_Course_by_value => k_is)
    (case dmc_Course_by_value => k_is)
    (case dmk_Course_by_value => k_is)
    (case dma_Course_do => k_is)
    (case dmi_Course_do => k_is)
    (case dml_Course_do => k_is)
    (case dmc_Course_do => k_is)
    (case dmk_Course_do => k_is)
    (case dma_Course_end_worth => k_is)
    (case dmi_Course_end_worth => k_is)
    (case dml_Course_end_worth => k_is)
    (case dmc_Course_end_worth => k_is)
    (case dmk_Course_end_worth => k_is)
    (case dma_Course_holds => k_is)
    (case dmi_Course_holds => k_is)
    (case dml_Course_holds => k_is)
    (case dmc_Course_holds => k_is)
    (case dmk_Course_holds => k_is)
    (case dma_Course_open_rows => k_is)
    (case dmi_Course_open_rows => k_is)
    (case dml_Course_open_rows => k_is)
    (case dmc_Course_open_rows => k_is)
    (case dmk_Course_open_rows => k_is)
    (case dma_Course_put => k_is)
    (case dmi_Course_put => k_is)
    (case dml_Course_put => k_is)
    (case dmc_Course_put => k_is)
    (case dmk_Course_put => k_is)
    (case dma_Course_start => k_is)
    (case dmi_Course_start => k_is)
    (case dml_Course_start => k_is)
    (case dmc_Course_start => k_is)
    (case dmk_Course_start => k_is)
    (case dma_Course_table_at => k_is)
    (case dmi_Course_table_at => k_is)
    (case dml_Course_table_at => k_is)
    (case dmc_Course_table_at => k_is)
    (case dmk_Course_table_at => k_is)
    (case dma_Course_what_at => k_is)
    (case dmi_Course_what_at => k_is)
    (case dml_Course_what_at => k_is)
    (case dmc_Course_what_at => k_is)
    (case dmk_Course_what_at => k_is)
    (case dma_Course_words_at => k_is)
    (case dmi_Course_words_at => k_is)
    (case dml_Course_words_at => k_is)
    (case dmc_Course_words_at => k_is)
    (case dmk_Course_words_at => k_is)
    (case dma_Finder_number_of => k_is)
    (case dmi_Finder_number_of => k_is)
    (case dml_Finder_number_of => k_is)
    (case dmc_Finder_number_of => k_is)
    (case dmk_Finder_number_of => k_is)
